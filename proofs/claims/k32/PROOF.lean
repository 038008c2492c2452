import PyProof.Rows.All
import Wide.All
import OpenK.AllK
import Wide.FinOn
import Lean
import PyProof.EqAt
import PyProof.EqKinds
import PyProof.TupleCall
import KE.KDictOf
import PyProof.AttrMissHeap
import KE.KRevIter
import PyProof.DictWalks
import PyProof.MinMaxWalk
import PyProof.SeqI3
import PyProof.WalkInts
import PyProof.ExcInit
import PyProof.InstStoreFacts
import PyProof.DictCompW
import PySem.Challenge.RW_errands_k32_whole_desk
set_option Elab.async false
set_option linter.all false
set_option maxRecDepth 100000
set_option maxHeartbeats 0
open PySem.W renaming Frag->aa,findIn->bL,keepIn->bV,mroIn->cz,kia_one->cH,kitOne->dH,fnOf->dU,nsIn->dW,emptyDict->eM,nsMap_none_of_in->fc,cellsFrom_some->fH,instObj->gC,clsIn->gS,mg_of->iH,codeIn->j4,looks_findIn->lH,makesIn->lV,callWith_K->mW,isNs_of_in->mX,subIn->oU,plainGet->pE,methodCall_KW->rP,lookIn->sf,typeIn->si,plainGet_of->uB,codeRec_of->v3,methodObj->w6,hasDictIn->wa,isFn->wc,specialIn->we,kitx_list->wf,takerIn->yS,takesIn->yT,OpenLaw->yU,excIn->BD,hideAll_get->HJ,of_hideAll->H_,kitx_tuple->Ic,mg_none_of->IC,plainOver->Kp,kitx_dict->Kq,handedIn->M8,hideAll->NF,kitCls->Oa,nsOkIn->Od,WalkO->RL,Looks->RO
open PySem renaming wpAny_bind->ac,Value->ae,Addr->af,wpAny_pure->ag,Shared->ak,starEach->ao,wpAny->av,model->aF,Program->aV,Expr->bc,Around->bh,World->bi,mainGlobals->bq,Heap->bA,wpAny_setState_of->bD,eval->bG,compareOp->bK,cellsFrom->bW,boot_len->b_,Stmt->c9,FuncData->cr,wpAny_mono->cx,backTo->cC,wpAny_newObj_type->cD,rawInt->cE,wpAny_call_entry->cP,wpAny_holding->dm,wpAny_callSpecial?_slot->dv,attributeBase->dB,mem_of_lookup->dD,swapsWith->dE,assignEach->d_,wpAny_truthy_bool->e7,foldedSetIterable->e8,keywordEach->ef,wpAny_field->eg,wpAny_seqItems->eW,behindInMarks->fD,binaryOp->fG,Scope->fU,fits_of_scanBound->fV,codeAny_builtin->fY,wpAny_rule->gO,wpAny_pyIter_tuple->gQ,codeAny->gZ,backToKw->ii,scanBound->iJ,wpAny_askSetting->iK,setField->iL,strIterType->iY,sysModules->i_,bootBuiltins->j0,standAt->j3,Builtin->j6,wpAny_setField_rec->j7,wpAny_passesOwn->ji,letOwnedTupleGo->jj,wpAny_storeSet_of->jy,wpAny_setField->jP,holding->kg,Keyword->kh,wpAny_isInstance->kj,wpAny_Call_Name_kw->kX,IsPair->kZ,getMethod->lv,wpAny_pyIter_list->lU,codeAny_mono->lW,NameKind->lX,wpAny_typeOf->lZ,SetTable->m9,wpAny_standAt->nO,plainId_quiet->nP,wpAny_attempt->nQ,sliceBounds->nU,wpAny_execs_nil->oR,assign->oS,pickOrder->qq,pyNext->qv,callWith->qw,call_meets->qy,getItem->rX,swapsWithSole->sd,swappedStores->se,wpAny_comprehension_free->sr,cLine->uC,wpAny_call->u_,builtinLookup_eq_fast->wn,isTrue->xD,pyIter->xE,IsPart->xF,relayAll->xH,wpAny_of_eq->xI,codeAny_call_builtin->xJ,raiseNew->xK,firstArgMember->xL,IsZip->xM,wpAny_updateSeq_pair->xN,BindsTo->yr,callerA->yt,wpAny_onRaise->zr,typeLookup->zP,tupleKind_room_in1->zQ,newExc->zR,concat_meets->By,valueAt->Bz,tupleKind->DD,noFill_tuple_add->DF,PyData->DI,CmpOp->Ff,IsRangeIter->Fg,sizeLine_eq->Fh,subscripted->Fj,Within->Ft,codeAny_of_tree->Fy,typeLookup_type->Fz,GenState->I0,bindName->I9,recursionLimit->Ie,bindArgs->Ig,bindL->Ih,bindC->Ii,wpAny_newFunctionEnv_cells->Ij,stored->Il,atKey->Im,newFunctionEnv->Io,entryFor->Iq,entryFor_alias->Ir,isSubtype_type->Iu,isInstance->Iv,isSubtype_stop->Iw,field->Ix,assignInOrder->M6,seq_tuple_add->M9,call->Mc,Drawn->NG,Model->NH,lastMarks->NI,noteFrame->NK,Walks->NN,seqItems?->NQ,Paired->NZ,truthy->N_,wpAny_pyNext_range_end->O0,wpAny_pyIter_rangeiter->O1,sub_set_self->O6,setNext->O7,wpAny_isTrue_Compare1->RJ,codeAny_call_function->RK,wpAny_loadName_local->S0,wpAny_alloc->S2,unsupported->S5,ZipApart->S6,wpAny_letGo->S8,getAttr?->Sc
open PySem.Heap renaming get?_push_of_some->ai,lt_size->ax,get?_push_size->aD,SameBut->bJ,size_push->cf,get?_update_self->iV,get?_update_other->rY,IsTuple->HP
open List renaming getElem?_set_ne->am,mem_cons_of_mem->aq,mem_cons_self->au,length_map->aw,size_toArray->aG,getElem?_map->aH,getElem?_set_self->aJ,map_cons->aW,length_cons->aX,not_mem_nil->aY,getElem?_eq_getElem->a_,mem_append_right->ba,lookup_cons->bd,mem_cons->bf,getElem?_append_right->bg,range->br,length_append->bB,getElem?_replicate->bI,mem_of_getElem?->bQ,getElem?_append_left->bR,getElem?_eq_none->bS,append_nil->cb,replicate->cg,all_eq_true->cY,length_replicate->de,length_range->dh,find?_cons->eh,length_nil->ej,map_map->el,mem_singleton->eE,map_append->fF,any_cons->fX,getD_eq_getElem?_getD->gq,lookup->g_,nodup_nil->ij,map_nil->iG,getElem_mem->jx,getElem_of_mem->jL,sublist_append_left->jW,contains_cons->ko,zip_cons_cons->kq,getElem?_cons_succ->kr,length_singleton->lI,length_filter_le->lL,any_eq_true->lT,mem_append_left->my,forIn_cons->mQ,nil_append->mR,mem_map_of_mem->mY,map_congr_left->mZ,filterMap_map->nX,perm_ext_iff_of_nodup->o7,drop_eq_getElem_cons->pA,length->pG,append_assoc->pI,length_take->rG,of_mem_zip->sj,mem_append->sk,foldl_cons->sv,length_set->sw,forIn_nil->uN,foldl_map->uQ,filterMap_cons->vX,getElem?_range->v_,all_cons->wk,getElem_range->xv,set_cons_zero->xw,set_cons_succ->xx,all_map->yw,length_filterMap_eq_countP->yX,length_drop->zo,ext_getElem->zq,getElem_map->zt,length_eraseIdx_of_lt->Cj,eraseIdx_cons_succ->Fx,getElem?_cons_zero->FA,drop_of_length_le->HN,take_of_length_le->HR,any_map->HU,dropLast_eq_take->ID,map->Ks,replicate_succ->Mi,replicate_zero->Mj,lookup_append->NJ,nodup_append->O5,zipIdx_cons->RN,cons_append->RT,zipIdx_nil->S7,nodup_cons->Sf
open Array renaming length_toList->ay,getElem?_toList->dQ,getD_eq_getD_getElem?->iZ,getElem?_eq_getElem->jA,eq_empty_of_size_eq_zero->lJ,size_map->uD,all_toList->yZ,replicate->zT,toArray_toList->Iy,append_assoc->M5,find?_toList->M7,forIn_toList->Mh,toList_push->NL
open Nat renaming le_refl->aA,lt_of_lt_of_le->aL,ne_of_lt->aM,le_of_lt->bt,le_trans->bF,zero_le->cy,lt_irrefl->cZ,lt_succ_self->fi,ne_of_gt->fW,lt_succ_of_lt->jh,le_succ->mC,lt_succ_of_le->qo,min_le_right->rQ,lt_of_le_of_lt->xG,lt_trans->yV,le_of_lt_succ->yW,mod_lt->DG,lt_asymm->Ip,zero_add->Iz,succ_pos->IA,lt_of_succ_lt_succ->IB,add_lt_add_right->Mf,le_of_not_lt->S1,le_add_right->S9,reduceLeDiff->Sk,reduceEqDiff->Sm
open PySem.PyData renaming str->aE,eqv->bw,int->bM,canLayAll0->bN,bool->cX,tuple->df,canLay0->dR,list->fR,eqvAll->lK,depth->xy,depthAll->zu
open Bool renaming and_eq_true->aP,false_ne_true->aQ,false_eq_true->cB,eq_iff_iff->iO,or_eq_true->iR,noConfusion->jz,and_false->nY,not_false->o8,and_self->qr,not_true->qt,beq_eq_decide_eq->tM,or_eq_false_iff->uP,false_or->wl,true_and->wp,false_and->Cg,not_eq_true'->O9
open PySem.Value renaming ref->bn,none->e_,bool->iB,type->iC,str->ju,int->nN,isStrOf->vV,float->HY
open PyProof.Rows renaming boot_tuple->bz,boot_all->cU,callWith_type1->fu,slot_tuple_getitem->gx,envOfC->gR,boot_list->hU,boot_isinstance->kU,Keyed->md,boot_str->pB,AllBare->rW,StrsAre->v5,isBoolOf->xO,boot_sorted->yv,assignInOrder_cons->zO,boot_any->zU,boot_sum->zV,SortKind->BE,IsTup->HZ,subscriptTail->Ma,subscriptTail_builtinR->O3,IntsAre->O4,SortSt->Oe
open Or renaming inr->bC,inl->c8
open Option.some renaming inj->bO,injEq->Fm
open PySem.Heap.SameBut renaming update->bX
open PySem.F renaming plainAttrs_list->cj,slot_tuple_iterator_next->jC,slot_list_append->jD,type_list_append->jE,args_tuple_add_2->oT,entry_tuple_add->pH,slot_tuple_add->qx,slot_zip_next->uO,slot_list_extend->BF,type_list_extend->BG,slot_list_count->Cm,slot_list_index->Co,args_tuple_iterator_next_1->DH,entry_tuple_iterator_next->Fk,slot_enumerate_next->NR
open PySem.NameKind renaming free->cu,cell->eK,«local»->r_
open PySem.SetTable renaming sizeAbove->cw,grown->iW,below->iX,fits->nZ,bits->o6,turns->rZ,layClean->vZ,laid->Bw,orStandIn->HM,relaid->Me,fill->Ob,road->Oc
open PySem.Builtin.SmallTypes renaming nextOf->cF,ownedTupleIsFree->f9,ownedTupleHandOut->n_
open Option renaming map_some->cJ,getD_none->ig,getD_some->lw,isSome_some->vY,isSome_map->Md,bind_some->NS
open False renaming elim->dC
open PySem.SetTable.layClean renaming free->dX
open Ne renaming symm->eC
open Int renaming toNat_of_nonneg->eU,toNat_natCast->kY,emod_lt_of_pos->oV,emod_nonneg->tN,eq_ofNat_of_zero_le->HS,reduceLT->IE
open List.Sublist renaming refl->fe
open PySem.Around renaming under_plainId->ft,under->Fi
open PySem.Heap.FunFrames renaming mem->fB
open PySem.Obj renaming mapFields->gf,mapSeq->l_,putSet->su,data_mapFields->O8
open PySem.AutoSeq1 renaming wpAny_loadPart'->gD
open True renaming intro->iF
open PySem.Builtin.Slice renaming slicePlaces->iP,sliceAdjust->lY,sliceApplied->wg
open PyProof.Rows.F renaming plain_set_update_loop->iQ,entry_set_update_loop->qp
open PySem.Builtin.Tuple renaming tupleExact->j5,tupleItemsOf->wj
open PySem.Builtin.Range renaming rangeSize->jr,small->Bx
open ForInStep renaming yield->jw
open PySem.Str renaming ofString->jB
open PySem.Builtin.Frozenset renaming updateFrom->ki,isAnySet->uE,sizeOf->v4,copyOf->v6,newClass->S3,oneOther->Sd,addrOf->Se,slot1->Sg,baseOf->Sh,merge->Si,unchanged->Sj
open PySem.Builtin.List renaming listTooLong->mP,listExtendWith->wo,listSameRef->yu
open PySem.Calls renaming Name_function_global->nR,call_function_entry->Ck,loadGlobal_global->Fe,callWith_builtin->Fv,evalArgs_plain->Ik
open PySem.Paired renaming length->pz
open Sum renaming inr->vW,inl->yQ
open PySem.PassesOwn renaming never->xP
open PyProof.Rows.IsTup renaming new->yR
open PySem.Builtin.Dict renaming updateFrom->yY
open And renaming intro->zS
open PySem.Walks renaming list->BA
open PySem.pickOrder renaming go->BB
open PySem.SetTable.below renaming go->BC
open PySem.SeqAt.EqAt renaming bool_bool->Ch,int_str->Fc,str_int->Fd
open List.Pairwise renaming nil->Ci
open PyProof renaming noPylong_small->DE
open PySem.Code renaming isFrame->HK,quiet_builtin->NO
open PySem.Heap.DictOf renaming new->HL
open PySem.Shared renaming heap->HQ,TypeIs->S4
open PySem.Value.type renaming inj->Kr
open PySem.SeqAt renaming EqAt->Mb
open PySem.Builtin.ObjectAttr renaming attrName->RP,find->RQ
local macro_rules|`(tactic|omega)=>`(tactic|first|lia|omega (config:={}))
namespace L2
open PySem PySem.Spec PyProof.Rows
abbrev fg:=Sum Int Str
def zW:fg->ae->Bool
 |.inl k,v=>Value.isInt k v
 |.inr x,v=>vV x v
def q0h (w:bi):fg->Int
 |.inl k=>hashInt k
 |.inr x=>hashStr w x
theorem fO:∀ {k:fg}{v:ae},zW k v=true->(∃ i t,k=yQ i/\v=nN i t)\/(∃ x t,k=vW x/\v=ju x t)
 |.inl i,v,h=>by
  obtain ⟨t,e⟩:=Value.isInt_shape (k:=i) (v:=v) h
  exact .inl ⟨i,t,rfl,e⟩
 |.inr x,v,h=>by
  obtain ⟨t,e⟩:=Value.isStrOf_shape (x:=x) (v:=v) h
  exact .inr ⟨x,t,rfl,e⟩
theorem Ml (i:Int) (t:Tok):zW (.inl i) (.int i t)=true:=by simp [zW,Value.isInt]
theorem Mm (x:Str) (t:Tok):zW (.inr x) (.str x t)=true:=by simp [zW,vV]
theorem W5 (a b:Int):decide ((yQ a:fg)=yQ b)=(a==b):=by
 by_cases e:a=b
 ·subst e;simp
 ·have h:¬ (yQ a:fg)=yQ b:=fun q=>e (Sum.inl.inj q)
  rw [decide_eq_false h]
  exact (beq_eq_false_iff_ne.mpr e).symm
theorem W6 (a b:Str):decide ((vW a:fg)=vW b)=decide (a=b):=by
 by_cases e:a=b
 ·subst e;simp
 ·have h:¬ (vW a:fg)=vW b:=fun q=>e (Sum.inr.inj q)
  rw [decide_eq_false h,decide_eq_false e]
theorem W7 (a:Int) (b:Str):decide ((yQ a:fg)=vW b)=false:=decide_eq_false (fun q=>nomatch q)
theorem W8 (a:Str) (b:Int):decide ((vW a:fg)=yQ b)=false:=decide_eq_false (fun q=>nomatch q)
def dY (prog:aV) (w:bi):PySem.KeyKind prog w fg where
 is:=zW
 hash:=q0h w
 inj:=fun v a b ha hb=>by
  rcases fO ha with ⟨i,t,rfl,rfl⟩|⟨x,t,rfl,rfl⟩
  ·rcases fO hb with ⟨j,u,rfl,e⟩|⟨y,u,rfl,e⟩
   ·injection e with e1 _;rw [e1]
   ·exact nomatch e
  ·rcases fO hb with ⟨j,u,rfl,e⟩|⟨y,u,rfl,e⟩
   ·exact nomatch e
   ·injection e with e1 _;rw [e1]
 byValue:=fun k v h=>by
  rcases fO h with ⟨i,t,rfl,rfl⟩|⟨x,t,rfl,rfl⟩<;>rfl
 pyHash:=fun hv h=>by
  rcases fO hv with ⟨i,t,rfl,rfl⟩|⟨x,t,rfl,rfl⟩
  ·exact wpAny_pyHash_int h
  ·exact wpAny_pyHash_str h
 eqBool:=fun hu hv h=>by
  rcases fO hu with ⟨i,t,rfl,rfl⟩|⟨x,t,rfl,rfl⟩
  ·rcases fO hv with ⟨j,u,rfl,rfl⟩|⟨y,u,rfl,rfl⟩
   ·rw [W5] at h;exact wpAny_eqBool_int h
   ·rw [W7] at h;exact Fc i t y u _ _ _ _ h
  ·rcases fO hv with ⟨j,u,rfl,rfl⟩|⟨y,u,rfl,rfl⟩
   ·rw [W8] at h;exact Fd x t j u _ _ _ _ h
   ·rw [W6] at h;exact wpAny_eqBool_str h
 «strs»:=fun k x t v h=>by
  rcases fO h with ⟨i,u,rfl,e⟩|⟨y,u,rfl,e⟩
  ·exact nomatch e
  ·injection e with e1 _
   subst e1
   cases v<;>rfl
theorem FC (prog:aV) (w:bi) (i:Int) (t:Tok):(dY prog w).is (.inl i) (.int i t)=true:=Ml i t
theorem FD (prog:aV) (w:bi) (x:Str) (t:Tok):(dY prog w).is (.inr x) (.str x t)=true:=Mm x t
end L2
namespace L2
open PySem PySem.Spec PyProof.Rows
inductive V where
 |non|bl (b:Bool)|int (i:Int)|str (x:Str)|byt (b:Array UInt8)|flt (b:UInt64)|ref (a:af)|ty (n:String)
 deriving DecidableEq
def dq:V->ae->Prop
 |.non,u=>u=e_
 |.bl b,u=>u=iB b
 |.int i,u=>∃ t,u=nN i t
 |.str x,u=>∃ t,u=ju x t
 |.byt b,u=>∃ t,u=Value.bytes b t
 |.flt b,u=>∃ t,u=HY b t
 |.ref a,u=>u=bn a
 |.ty n,u=>u=iC n
abbrev cS:List V->List ae->Prop:=NZ dq
theorem cS.length {xs:List V}{us:List ae} (r:cS xs us):xs.length=us.length:=pz r
theorem cS.get {xs:List V}{us:List ae} (h:cS xs us):∀ {i:Nat}{x:V},xs[i]?=some x->∃ u,us[i]?=some u/\dq x u:=by
 induction h with
 |nil=>intro i x e;cases e
 |cons r t a =>
  intro i x e
  cases i with
  |zero=>cases e;exact ⟨_,rfl,r⟩
  |succ i=>have q:=a (i:=i) e;exact q
theorem cS.append {xs ys:List V}{us a:List ae} (h:cS xs us) (s:cS ys a):cS (xs++ys) (us++a):=by
 induction h with
 |nil=>exact s
 |cons r t b=>exact .cons r b
theorem cS.take:∀ {xs:List V}{us:List ae} (n:Nat),cS xs us->cS (xs.take n) (us.take n)
 |_,_,0,_=>.nil
 |_,_,_+1,.nil=>.nil
 |_,_,n+1,.cons r t=>.cons r (cS.take n t)
theorem cS.drop:∀ {xs:List V}{us:List ae} (n:Nat),cS xs us->cS (xs.drop n) (us.drop n)
 |_,_,0,r=>r
 |_,_,_+1,.nil=>.nil
 |_,_,n+1,.cons _ t=>cS.drop n t
def uF:Option V->Option ae->Prop
 |some v,some u=>dq v u
 |none,none=>True
 |_,_=>False
def KV {κ:Type}:List (κ×V)->List (κ×ae)->Prop:=NZ fun (p:κ×V) (q:κ×ae)=>p.1=q.1/\dq p.2 q.2
def kV:fg->V
 |.inl i=>.int i
 |.inr x=>.str x
inductive HO where
 |lst (xs:List V)
 |tup (xs:List V)
 |dK (kvs:List (fg×V))|dT (kvs:List (List fg×V))
 |set (S:Int->Bool) (n:Nat)
 |ins (C dx:af) (fs:List (Str×V))
 |own (x:af)
 |xd (fs:List (Str×V))
 |met (f x:af)
 |rng (lo hi:Int)
 |frz (o:Obj) (u:HO)
 |tbl (ps:Array ae)
 |ext (φ:bA->Prop)
abbrev Hp:=af->Option HO
def upd (H:Hp) (a:af) (o:HO):Hp:=fun b=>if b=a then some o else H b
theorem aI {H:Hp}{a:af}{o:HO}:upd H a o a=some o:=by unfold upd;rw [if_pos rfl]
theorem aC {H:Hp}{a b:af}{o:HO} (h:b≠a):upd H a o b=H b:=by unfold upd;rw [if_neg h]
theorem Y4 {H:Hp}{a b:af}{o u:HO} (h:H a=some o) (h':H b=some u) (d:o≠u):a≠b:=by
 intro e;subst e;rw [h] at h';exact d (bO h')
theorem aK {H:Hp}{a b:af}{o:HO} (h:H a=some o) (h':H b=none):a≠b:=by
 intro e;subst e;rw [h] at h';cases h'
section
variable (P:aV) (w:bi)
def dw (H:Hp) (h:bA) (a:af):HO->Prop
 |.lst xs=>xs.length<=sizeLine/\∃ (b:List ae) (n:Nat),cS xs b/\h.get? a=some { cls:=.type "list",data:=.seq b.toArray n }
 |.tup xs=>xs.length<=sizeLine/\∃ b:List ae,cS xs b/\HZ h a b.toArray
 |.dK kvs=>kvs.length<=sizeLine/\(a==i_)=false/\∃ vs,KV kvs vs/\h.DictOf (dY P w) a vs
 |.dT kvs=>kvs.length<=sizeLine/\(a==i_)=false/\∃ xs:List (List fg×af×ae),
   NZ (fun (p:List fg×V) (q:List fg×af×ae)=>p.1=q.1/\H q.2.1=some (.tup (p.1.map kV))/\dq p.2 q.2.2) kvs xs /\
   ∃ o g j,h.get? a=some o/\o.ExactDict/\o.data=.dict g j/\g.toList=xs.map (entryOfKey (DD (dY P w)))/\(xs.map (·.1)).Nodup
 |.set S n=>h.SetOf (intKind P w) a S n
 |.ins C d fs=>H d=some (.own a)/\fs.length<=1000/\d≠a/\h.get? a=some (gC C d) /\
   ∃ c,h.Ns1 d c/\(∀ f,uF (fs.lookup f) (c f))/\Ft c (fs.map (·.1))
 |.own _=>∃ o,h.get? a=some o
 |.xd fs=>∃ c,h.Ns1 a c/\∀ f,uF (fs.lookup f) (c f)
 |.rng lo k=>∃ t u v,h.get? a=some { cls:=.type "range",data:=.fields #[.int lo t,.int k u,.int 1 v] }
 |.frz o u=>h.get? a=some o/\dw H h a u
 |.tbl ps=>h.get? a=some { cls:=.none,data:=.fields ps }
 |.met f x=>h.get? a=some (w6 (.ref f) (.ref x))
 |.ext φ=>φ h/\(∃ o,h.get? a=some o)/\∀ e i:bA,φ e->(∀ o,e.get? a=some o->i.get? a=some o)->φ i
def rR (H:Hp) (h:bA):Prop:=∀ a o,H a=some o->dw P w H h a o
end
section
variable {P:aV}{w:bi}{H H':Hp}{h h':bA}{a:af}{o:HO}
theorem dw.lt (x:dw P w H h a o):a<h.objs.size:=by
 cases o with
 |lst xs=>obtain ⟨_,_,_,_,e⟩:=x;exact ax e
 |tup xs=>obtain ⟨_,_,_,p⟩:=x;exact p.lt
 |dK kvs=>obtain ⟨_,_,_,_,o,_,_,e,_⟩:=x;exact ax e
 |dT kvs=>obtain ⟨_,_,_,_,o,_,_,e,_⟩:=x;exact ax e
 |set S n=>obtain ⟨o,_,_,_,e,_⟩:=x;exact ax e
 |ins C b fs=>obtain ⟨_,_,_,e,_⟩:=x;exact ax e
 |own y=>obtain ⟨_,e⟩:=x;exact ax e
 |xd fs=>obtain ⟨_,⟨_,_,_,e,_⟩,_⟩:=x;exact ax e
 |rng lo d=>obtain ⟨_,_,_,e⟩:=x;exact ax e
 |frz c u=>obtain ⟨e,_⟩:=x;exact ax e
 |tbl ps=>exact ax (show h.get? a=some _ from x)
 |met f y=>exact ax (show h.get? a=some _ from x)
 |ext φ=>obtain ⟨_,⟨_,e⟩,_⟩:=x;exact ax e
theorem Paired.mapP {α e:Type}{F G:α->e->Prop}{c:List α}{d:List e} (h:NZ F c d) (f:∀ a b,F a b->G a b):NZ G c d:=by
 induction h with
 |nil=>exact .nil
 |cons r t g=>exact .cons (f _ _ r) g
theorem dw.stay (x:dw P w H h a o) (k:∀ b u,(b=a\/H b=some (.own a))->h.get? b=some u->h'.get? b=some u)
  (ho:∀ b,H b=some (.own a)->H' b=some (.own a)) (E:∀ b xs,H b=some (.tup xs)->H' b=some (.tup xs)):dw P w H' h' a o:=by
 induction o with
 |lst xs=>obtain ⟨z,l,n,r,e⟩:=x;exact ⟨z,l,n,r,k _ _ (.inl rfl) e⟩
 |tup xs=>obtain ⟨z,l,r,g,e,c⟩:=x;exact ⟨z,l,r,g,k _ _ (.inl rfl) e,c⟩
 |dK kvs=>obtain ⟨z,y,vs,r,g,i,j,e,c⟩:=x;exact ⟨z,y,vs,r,g,i,j,k _ _ (.inl rfl) e,c⟩
 |dT kvs =>
  obtain ⟨z,y,xs,r,g,i,j,e,c⟩:=x
  exact ⟨z,y,xs,Paired.mapP r fun p q z=>⟨z.1,E _ _ z.2.1,z.2.2⟩,g,i,j,k _ _ (.inl rfl) e,c⟩
 |set S n=>obtain ⟨g,i,j,t,e,c⟩:=x;exact ⟨g,i,j,t,k _ _ (.inl rfl) e,c⟩
 |ins C L fs =>
  obtain ⟨d,z,G,e,m,⟨s,i,j,I,c⟩,r⟩:=x
  exact ⟨ho _ d,z,G,k _ _ (.inl rfl) e,m,⟨s,i,j,k _ _ (.inr d) I,c⟩,r⟩
 |own y=>obtain ⟨g,e⟩:=x;exact ⟨g,k _ _ (.inl rfl) e⟩
 |xd fs=>obtain ⟨m,⟨s,i,j,e,c⟩,r⟩:=x;exact ⟨m,⟨s,i,j,k _ _ (.inl rfl) e,c⟩,r⟩
 |rng lo K=>obtain ⟨t,u,v,e⟩:=x;exact ⟨t,u,v,k _ _ (.inl rfl) e⟩
 |frz g u B=>obtain ⟨e,q⟩:=x;exact ⟨k _ _ (.inl rfl) e,B q⟩
 |tbl ps =>
  have e:h.get? a=some { cls:=.none,data:=.fields ps }:=x
  show h'.get? a=some { cls:=.none,data:=.fields ps }
  exact k a _ (.inl rfl) e
 |met f y =>
  have e:h.get? a=some (w6 (.ref f) (.ref y)):=x
  show h'.get? a=some (w6 (.ref f) (.ref y))
  exact k a _ (.inl rfl) e
 |ext φ=>obtain ⟨p,⟨o,e⟩,A⟩:=x;exact ⟨A _ _ p fun o q=>k _ _ (.inl rfl) q,⟨o,k _ _ (.inl rfl) e⟩,A⟩
theorem rR.lt (x:rR P w H h) (e:H a=some o):a<h.objs.size:=(x a o e).lt
theorem rR.fresh (x:rR P w H h) (e:h.objs.size<=a):H a=none:=by
 cases q:H a with
 |none=>rfl
 |some u=>exact absurd (aL (x.lt q) e) (cZ _)
theorem rR.kept (x:rR P w H h) (k:∀ b u,h.get? b=some u->h'.get? b=some u):rR P w H h':=fun a o e =>
 (x a o e).stay (fun b u _ q=>k b u q) (fun _ q=>q) fun _ _ q=>q
theorem rR.laid (x:rR P w H h) (k:∀ b u,h.get? b=some u->h'.get? b=some u) (g:h.objs.size<=a) (new:dw P w (upd H a o) h' a o):rR P w (upd H a o) h':=fun b u e=>by
 have d:=x.fresh g
 by_cases f:b=a
 ·subst f;rw [aI] at e;cases e;exact new
 ·rw [aC f] at e
  exact (x b u e).stay (fun c v _ q=>k c v q) (fun c q=>by rw [aC (aK q d)];exact q) fun c xs q=>by rw [aC (aK q d)];exact q
end
def Rd (H:Hp) (a:af) (u:HO):Prop:=H a=some u\/∃ o,H a=some (.frz o u)
theorem Rd.ok {P:aV}{w:bi}{H:Hp}{h:bA}{a:af}{u:HO} (r:Rd H a u) (x:rR P w H h):dw P w H h a u:=by
 rcases r with r|⟨o,r⟩
 ·exact x a u r
 ·obtain ⟨_,q⟩:=x a _ r
  exact q
def Y5:Option HO->Prop
 |some (.lst _)=>True
 |some (.dK _)=>True
 |some (.dT _)=>True
 |some (.set _ _)=>True
 |some (.ins _ _ _)=>True
 |some (.ext _)=>True
 |_=>False
section
variable {P:aV}{w:bi}{H:Hp}{h h':bA}{x e:af}{o':HO}
theorem rR.write (ok:rR P w H h) (j:Y5 (H x)) (he:e=x\/H e=some (.own x)) (k:∀ b u,b≠e->h.get? b=some u->h'.get? b=some u) (l:∃ u,h'.get? e=some u)
  (new:dw P w (upd H x o') h' x o'):rR P w (upd H x o') h':=fun b u q=>by
 have d:∀ c y,H c=some (.own y)->c≠x:=fun c y r z=>by subst z;rw [r] at j;exact j
 have f:∀ c xs,H c=some (.tup xs)->c≠x:=fun c xs r z=>by subst z;rw [r] at j;exact j
 by_cases i:b=x
 ·subst i;rw [aI] at q;cases q;exact new
 ·rw [aC i] at q
  by_cases a:b=e
  ·have q':H b=some (.own x):=by
    rcases he with z|z
    ·exact absurd (a.trans z) i
    ·rw [a];exact z
   rw [q] at q';cases q'
   obtain ⟨v,m⟩:=l
   exact ⟨v,by rw [a];exact m⟩
  ·refine (ok b u q).stay (fun c v g r=>k c v ?_ r) (fun c r=>by rw [aC (d c b r)];exact r) fun c xs r=>by rw [aC (f c xs r)];exact r
   rcases g with rfl|g
   ·exact a
   ·rintro rfl
    rcases he with z|z
    ·exact d c b g z
    ·rw [g] at z;cases z;exact i rfl
end
structure Un (fs ex:List af) (H H':Hp) (h h':bA):Prop where
 keep:∀ b o,h.get? b=some o->H b=none->b∉fs->b∉ex->h'.get? b=some o
 slot:∀ b o,h.get? b=some o->H b=none->b∈fs->b∉ex->∃ sl,h'.get? b=some { o with slots:=sl }
 free:∀ b o,h.get? b=some o->H b=none->b∉ex->H' b=none
 there:∀ b o,h.get? b=some o->b∉ex->∃ o',h'.get? b=some o'
 tups:∀ b xs,H b=some (.tup xs)->H' b=some (.tup xs)
 frzs:∀ b o u,H b=some (.frz o u)->H' b=some (.frz o u)
 tbls:∀ b ps,H b=some (.tbl ps)->∃ more,H' b=some (.tbl (ps++more))
section
variable {fs fs' ex ex':List af}{H H1 H2:Hp}{h h1 h2 h':bA}{a x e:af}{o:HO}
theorem Un.any (u:Un fs ex H H1 h h1) {b:af}{c:Obj} (q:h.get? b=some c) (n:H b=none) (d:b∉ex):∃ g,h1.get? b=some { c with slots:=g }:=by
 by_cases f:b∈fs
 ·exact u.slot b c q n f d
 ·exact ⟨c.slots,u.keep b c q n f d⟩
theorem Un.kept (k:∀ b u,h.get? b=some u->h'.get? b=some u):Un fs ex H H h h' :=
 ⟨fun b c q _ _ _=>k b c q,fun b c q _ _ _=>⟨c.slots,k b c q⟩,fun _ _ _ n _=>n,fun b c q _=>⟨c,k b c q⟩,fun _ _ q=>q,fun _ _ _ q=>q,fun _ ps q=>⟨#[],by rw [q];simp⟩⟩
theorem Un.refl:Un fs ex H H h h:=Un.kept fun _ _ q=>q
theorem Un.laid (k:∀ b u,h.get? b=some u->h'.get? b=some u) (d:h.objs.size<=a) (c:H a=none):Un fs ex H (upd H a o) h h' where
 keep:=fun b u q _ _ _=>k b u q
 slot:=fun b u q _ _ _=>⟨u.slots,k b u q⟩
 free:=fun b u q n _=>by rw [aC (aM (aL (ax q) d))];exact n
 there:=fun b u q _=>⟨u,k b u q⟩
 tups:=fun b xs q=>by rw [aC (aK q c)];exact q
 frzs:=fun b u xs q=>by rw [aC (aK q c)];exact q
 tbls:=fun b ps q=>⟨#[],by rw [aC (aK q c),q];simp⟩
theorem Un.write (d:Y5 (H x)) (he:e=x\/H e=some (.own x)) (k:∀ b u,b≠e->h.get? b=some u->h'.get? b=some u) (g:∃ u,h'.get? e=some u):Un fs ex H (upd H x o) h h':=by
 have i:∀ b,H b=none->b≠x:=fun b n z=>by subst z;rw [n] at d;exact d
 have j:∀ b,H b=none->b≠e:=fun b n z=>by
  subst z
  rcases he with r|r
  ·exact i b n r
  ·rw [n] at r;cases r
 have f:∀ b u,H b=some u->¬ Y5 (some u)->b≠x:=fun b u q nm z=>by subst z;rw [q] at d;exact nm d
 refine ⟨fun b u q n _ _=>k b u (j b n) q,fun b u q n _ _=>⟨u.slots,k b u (j b n) q⟩,fun b u q n _=>by rw [aC (i b n)];exact n,fun b u q _=>?_,
  fun b xs q=>by rw [aC (f b _ q fun z=>z)];exact q,fun b u xs q=>by rw [aC (f b _ q fun z=>z)];exact q,fun b ps q=>⟨#[],by rw [aC (f b _ q fun z=>z),q];simp⟩⟩
 by_cases c:b=e
 ·subst c;exact g
 ·exact ⟨u,k b u c q⟩
end
def trk (h:bA) (H:Hp):List af:=(br h.objs.size).filter fun a=>(H a).isSome
def DJ (h:bA) (H:Hp):bA:=NF h (trk h H)
theorem Mn (h:bA) (H:Hp):(DJ h H).objs.size=h.objs.size:=PySem.W.hideAll_size _ _
theorem Of {h:bA}{H:Hp}{b:af}{o:Obj} (e:h.get? b=some o) (n:H b=none):(DJ h H).get? b=some o :=
 HJ _ e fun a=>by
  have q:(H b).isSome=true:=(List.mem_filter.mp a).2
  rw [n] at q;simp at q
theorem Sn {h:bA}{H:Hp}{b:af}{o:Obj} (e:(DJ h H).get? b=some o):h.get? b=some o/\H b=none:=by
 have a:h.get? b=some o:=H_ (trk h H) e
 refine ⟨a,?_⟩
 cases q:H b with
 |none=>rfl
 |some x =>
  have c:b∈trk h H:=List.mem_filter.mpr ⟨List.mem_range.mpr (ax a),by simp [q]⟩
  have z:(DJ h H).get? b=none:=PySem.W.hideAll_none (trk h H) c
  rw [z] at e;cases e
def So (g h:bA) (L:af):List (af×Obj):=(br h.objs.size).filterMap fun a=>if a=L\/(g.get? a).isSome=true then none else (h.get? a).map fun o=>(a,o)
def bU (g h:bA) (L d:af):List (af×Obj):=(So g h L).filter fun p=>decide (p.1≠d)
end L2
namespace L2
open PySem PySem.Spec PyProof.Rows
structure Mod (K:aa) (mg:Str->Option ae) (base:bA):Prop where
 kin:K.In base
 glob:base.Ns bq mg
 blt:∃ mb,base.Ns builtinsNs mb/\∀ x:Str,x≠"__name__"->mb x=j0 x
 nolimit:base.NoLimit
structure Cx where
 prog:aV
 w:bi
 K:aa
 mg:Str->Option ae
 base:bA
 A:bh
 N:List Str
 s₀:ak
 H₀:Hp
 env:Env
 outer:List Env
 stack:List Env
 ex:List af
 fn:Str->Bool
 calm:Bool
 pn:List (af×Obj)
 xe:ae->ak->Prop
def uR (l:List Env):List af:=l.filterMap (·.frame)
abbrev Cx.fs (X:Cx):List af:=uR X.outer
def BH (a:fU) (x:Str):Prop:=a.names.lookup x=some .local\/a.names.lookup x=some .cell\/a.names.lookup x=some .free
def Fo (a:fU) (x:Str):Prop:=a.names.lookup x=some .local\/a.names.lookup x=some .cell
def q0i (env:Env) (h:bA) (m:Str->Option ae) (x:Str) (u:ae):Prop :=
 (env.kindOf x=some .local/\m x=some u)\/((env.kindOf x=some .cell\/env.kindOf x=some .free)/\∃ c,env.cells.lookup x=some c/\h.IsCell c (some u))
structure Cx.Ok (X:Cx):Prop where
 mod:Mod X.K X.mg X.base
 kind:X.env.scope.kind=.function
 glob:X.env.globals=bq
 blt:X.env.builtins=builtinsNs
 above:X.s₀.heap.objs.size<=X.env.locals
 inj:∀ x y c,X.env.cells.lookup x=some c->X.env.cells.lookup y=some c->x=y
 has:∀ x,(X.env.kindOf x=some .cell\/X.env.kindOf x=some .free)->∃ c,X.env.cells.lookup x=some c
 cab:∀ x c,X.fn x=true->X.env.cells.lookup x=some c->X.s₀.heap.objs.size<=c
 hd:X.calm=true->X.A.handled=none
 frames:X.A.frames=some X.stack
 stk:X.stack=X.outer\/(X.stack=X.env::X.outer/\X.env.frame=some X.env.locals)
 exf:∀ b∈X.ex,b≠X.env.locals/\∀ x c,X.env.cells.lookup x=some c->c≠b
 bs:∀ b o,X.base.get? b=some o->X.s₀.heap.get? b=some o/\X.H₀ b=none
 bsz:X.base.objs.size<=X.s₀.heap.objs.size
 noex:∀ b o,X.base.get? b=some o->b∉X.ex
 exfs:∀ b∈X.ex,b∉X.fs
 funs:X.s₀.heap.FunFrames X.base X.outer
 frf:∀ b∈X.fs,X.H₀ b=none
structure bH (X:Cx) (pins:List (af×Obj)) (σ:List (Option V)) (H:Hp) (s:ak):Prop where
 ok:X.Ok
 os:s.os=X.s₀.os
 bare:rW s.gens
 base:Un X.fs X.ex X.H₀ H X.s₀.heap s.heap
 loc:∃ m,s.heap.Ns X.env.locals m/\∀ (i:Nat) (x:Str) (v:V),X.N[i]?=some x->σ[i]?=some (some v)->BH X.env.scope x->∃ u,dq v u/\q0i X.env s.heap m x u
 cell:∀ x c,X.env.cells.lookup x=some c->∃ v,s.heap.IsCell c v
 free:H X.env.locals=none
 freeC:∀ x c,X.env.cells.lookup x=some c->H c=none
 pin:∀ p∈X.pn++pins,s.heap.get? p.1=some p.2/\H p.1=none/\p.1≠X.env.locals/\p.1∉X.fs/\∀ v,p.2.data≠.cell v
 hok:rR X.prog X.w H s.heap
 len:σ.length=X.N.length
section
variable {X:Cx}{pins:List (af×Obj)}{σ:List (Option V)}{H H':Hp}{s:ak}{h':bA}
theorem Cx.Ok.nofr (ok:X.Ok) {b:af}{o:Obj} (e:X.base.get? b=some o):b∉X.fs:=fun a=>by
 have:=(ok.funs.mem a).1
 rw [e] at this;cases this
theorem bH.bs (I:bH X pins σ H s):∀ b o,X.base.get? b=some o->s.heap.get? b=some o/\H b=none:=fun b o e =>
 ⟨I.base.keep b o (I.ok.bs b o e).1 (I.ok.bs b o e).2 (I.ok.nofr e) (I.ok.noex b o e),I.base.free b o (I.ok.bs b o e).1 (I.ok.bs b o e).2 (I.ok.noex b o e)⟩
theorem bH.bk (I:bH X pins σ H s):∀ b o,X.base.get? b=some o->s.heap.get? b=some o:=fun b o e=>(I.bs b o e).1
theorem bH.mod (I:bH X pins σ H s):Mod X.K X.mg X.base:=I.ok.mod
theorem bH.kIn (I:bH X pins σ H s):X.K.In s.heap:=I.ok.mod.kin.keeps I.bk
theorem bH.fr (I:bH X pins σ H s):∃ m,Fr X.base X.env.locals s.heap m :=
 let ⟨m,hn,_⟩:=I.loc
 ⟨m,hn,I.bk,bF I.ok.bsz I.ok.above⟩
theorem bH.lt (I:bH X pins σ H s):X.env.locals<s.heap.objs.size:=let ⟨_,hn,_⟩:=I.loc;hn.lt
theorem bH.sz (I:bH X pins σ H s):X.s₀.heap.objs.size<=s.heap.objs.size:=bF I.ok.above (bt I.lt)
theorem bH.nofs (I:bH X pins σ H s) {a:af} (h:s.heap.objs.size<=a):a∉X.fs:=fun b=>by
 obtain ⟨_,o,ho,_⟩:=I.ok.funs.mem b
 exact absurd (aL (ax ho) (bF I.sz h)) (cZ _)
theorem bH.cne (I:bH X pins σ H s):∀ x c,X.env.cells.lookup x=some c->c≠X.env.locals:=fun x c e z=>by
 obtain ⟨v,o,ho,d⟩:=I.cell x c e
 obtain ⟨m,⟨h,g,f,b,a,_⟩,_⟩:=I.loc
 rw [z,b] at ho;cases ho;rw [a] at d;cases d
theorem bH.funs (I:bH X pins σ H s):s.heap.FunFrames X.base X.outer:=by
 have all:∀ (l:List Env),(∀ b∈uR l,b∈X.fs)->X.s₀.heap.FunFrames X.base l->s.heap.FunFrames X.base l:=by
  intro l
  induction l with
  |nil=>intro _ _;trivial
  |cons env r f =>
   intro hs g
   obtain ⟨k,⟨L,o,a,i,ho,j⟩,h⟩:=g
   have d:L∈X.fs:=hs L (by unfold uR;rw [vX,a];exact au)
   obtain ⟨m,e⟩:=I.base.slot L o ho (I.ok.frf L d) d fun z=>I.ok.exfs L z d
   exact ⟨k,⟨L,_,a,i,e,j⟩,f (fun b c=>hs b (by unfold uR;rw [vX,a];exact aq _ c)) h⟩
 exact all X.outer (fun _ c=>c) I.ok.funs
theorem bH.stack (I:bH X pins σ H s):s.heap.FunFrames X.base X.stack:=by
 rcases I.ok.stk with e|⟨e,hf⟩
 ·rw [e];exact I.funs
 ·rw [e]
  obtain ⟨m,a,_⟩:=I.loc
  refine .cons (by rw [I.ok.kind];decide) hf a ?_ I.funs
  exact Heap.get?_none_of_le (bF I.ok.bsz I.ok.above)
theorem bH.stkSub (I:bH X pins σ H s):∀ b∈uR X.stack,b∈X.env.locals::X.fs:=fun b a=>by
 rcases I.ok.stk with e|⟨e,hf⟩
 ·rw [e] at a;exact aq _ a
 ·rw [e] at a
  unfold uR at a
  rw [vX,hf] at a
  exact a
theorem bH.stkFree (I:bH X pins σ H s):∀ b∈uR X.stack,H b=none:=fun b hb=>by
 rcases List.mem_cons.mp (I.stkSub b hb) with e|hb
 ·rw [e];exact I.free
 ·obtain ⟨_,o,ho,_⟩:=I.ok.funs.mem hb
  exact I.base.free b o ho (I.ok.frf b hb) fun z=>I.ok.exfs b z hb
theorem bH.step {g':Array I0}{t':Nat}{d':NG}{ch:List af} (I:bH X pins σ H s)
  (f:∀ b∈ch,(b∈X.ex\/X.s₀.heap.objs.size<=b)/\b≠X.env.locals/\(∀ x c,X.env.cells.lookup x=some c->c≠b)/\∀ p∈X.pn++pins,p.1≠b)
  (keep:∀ b o,b≠X.env.locals->b∉X.fs->b∉ch->s.heap.get? b=some o->H b=none->h'.get? b=some o)
  (y:∀ b o,b≠X.env.locals->b∈X.fs->b∉ch->s.heap.get? b=some o->H b=none->∃ T,h'.get? b=some { o with slots:=T }) (free:∀ b o,b∉ch->s.heap.get? b=some o->H b=none->H' b=none)
  (there:∀ b o,b∉ch->s.heap.get? b=some o->∃ M,h'.get? b=some M)
  (E:∀ b xs,H b=some (.tup xs)->H' b=some (.tup xs)) (B:∀ b o u,H b=some (.frz o u)->H' b=some (.frz o u)) (G:∀ b ps,H b=some (.tbl ps)->∃ L,H' b=some (.tbl (ps++L)))
  (ns:∀ m,s.heap.Ns X.env.locals m->h'.Ns X.env.locals m) (Q:rR X.prog X.w H' h') (hg:rW g') :
  bH X pins σ H' { s with heap:=h',gens:=g',drawn:=d',toks:=t' }:=by
 have K:∀ b o,X.s₀.heap.get? b=some o->b≠X.env.locals:=fun b o e=>aM (aL (ax e) I.ok.above)
 have t:∀ b o,X.s₀.heap.get? b=some o->b∉X.ex->b∉ch:=fun b o e a A=>by
  rcases (f b A).1 with z|z
  ·exact a z
  ·exact absurd (aL (ax e) z) (cZ _)
 have g:∀ x c,X.env.cells.lookup x=some c->∀ v,s.heap.IsCell c v->h'.IsCell c v:=fun x c e v O=>by
  obtain ⟨o,ho,S⟩:=O
  have h:c∉ch:=fun z=>(f c z).2.2.1 x c e rfl
  by_cases U:c∈X.fs
  ·obtain ⟨T,q⟩:=y c o (I.cne x c e) U h ho (I.freeC x c e)
   exact ⟨_,q,S⟩
  ·exact ⟨o,keep c o (I.cne x c e) U h ho (I.freeC x c e),S⟩
 refine ⟨I.ok,I.os,hg,⟨fun b o e n A a=>?_,fun b o e n A a=>?_,fun b o e n a=>?_,fun b o e a=>?_,fun b xs e=>E b xs (I.base.tups b xs e),fun b o xs e=>B b o xs (I.base.frzs b o xs e),fun b ps e=>?_⟩,?_,fun x c e=>?_,?_,fun x c e=>?_,fun p hp=>?_,Q,I.len⟩
 ·exact keep b o (K b o e) A (t b o e a) (I.base.keep b o e n A a) (I.base.free b o e n a)
 ·obtain ⟨T,j⟩:=I.base.slot b o e n A a
  obtain ⟨P,N⟩:=y b _ (K b o e) A (t b o e a) j (I.base.free b o e n a)
  exact ⟨P,N⟩
 ·obtain ⟨M,j⟩:=I.base.there b o e a
  exact free b M (t b o e a) j (I.base.free b o e n a)
 ·obtain ⟨M,j⟩:=I.base.there b o e a
  exact there b M (t b o e a) j
 ·obtain ⟨m1,j⟩:=I.base.tbls b ps e
  obtain ⟨m2,N⟩:=G b _ j
  exact ⟨m1++m2,by rw [N,M5]⟩
 ·obtain ⟨m,hn,hl⟩:=I.loc
  refine ⟨m,ns m hn,fun i x v j N e3=>?_⟩
  obtain ⟨u,r,l⟩:=hl i x v j N e3
  refine ⟨u,r,?_⟩
  rcases l with l|⟨k,c,e,z⟩
  ·exact .inl l
  ·exact .inr ⟨k,c,e,g x c e _ z⟩
 ·obtain ⟨v,z⟩:=I.cell x c e
  exact ⟨v,g x c e v z⟩
 ·obtain ⟨m,⟨o,_,_,ho,_⟩,_⟩:=I.loc
  exact free _ o (fun z=>(f _ z).2.1 rfl) ho I.free
 ·obtain ⟨v,o,ho,S⟩:=I.cell x c e
  exact free c o (fun z=>(f c z).2.2.1 x c e rfl) ho (I.freeC x c e)
 ·obtain ⟨e,n,Y,nf,d⟩:=I.pin p hp
  have h:p.1∉ch:=fun z=>(f p.1 z).2.2.2 p hp rfl
  exact ⟨keep p.1 p.2 Y nf h e n,free p.1 p.2 h e n,Y,nf,d⟩
theorem bH.un {t':Nat} (I:bH X pins σ H s) (u:Un X.fs [] H H' s.heap h') (f:rR X.prog X.w H' h'):bH X pins σ H' { s with heap:=h',toks:=t' }:=by
 obtain ⟨m,⟨o,j,k,ho,r⟩,_⟩:=id I.loc
 obtain ⟨q,i⟩:=u.any ho I.free (by simp)
 exact I.step (g':=s.gens) (d':=s.drawn) (ch:=[]) (fun _ z=>nomatch z) (fun b o _ c _ e n=>u.keep b o e n c (by simp)) (fun b o _ c _ e n=>u.slot b o e n c (by simp)) (fun b o _ e n=>u.free b o e n (by simp)) (fun b o _ e=>u.there b o e (by simp)) u.tups u.frzs u.tbls (fun l g=>by
  obtain ⟨p,es',d,a,h⟩:=g
  rw [ho] at a;cases a
  exact ⟨_,es',d,i,h⟩) f I.bare
theorem bH.call {g':Array I0}{t':Nat}{d':NG}{ch:List af} (I:bH X pins σ H s) (u:Un (uR X.stack) ch H H' s.heap h') (h:rR X.prog X.w H' h') (q:rW g')
  (d:∀ b∈ch,(b∈X.ex\/X.s₀.heap.objs.size<=b)/\b≠X.env.locals/\(∀ x c,X.env.cells.lookup x=some c->c≠b)/\∀ p∈X.pn++pins,p.1≠b) :
  bH X pins σ H' { s with heap:=h',gens:=g',drawn:=d',toks:=t' }:=by
 obtain ⟨m,⟨o,t,v,ho,r⟩,_⟩:=id I.loc
 obtain ⟨B,i⟩:=u.any ho I.free fun z=>(d _ z).2.1 rfl
 exact I.step (ch:=ch) d (fun b o i j a e n=>u.keep b o e n (fun z=>(List.mem_cons.mp (I.stkSub b z)).elim i j) a) (fun b o _ _ a e n=>u.any e n a) (fun b o a e n=>u.free b o e n a) (fun b o a e=>u.there b o e a) u.tups u.frzs u.tbls (fun y k=>by
  obtain ⟨A,es',g,f,l⟩:=k
  rw [ho] at f;cases f
  exact ⟨_,es',g,i,l⟩) h q
theorem bH.turned {t':Nat}{it:af} (I:bH X pins σ H s) (k:∀ b o,b≠it->s.heap.get? b=some o->h'.get? b=some o) (w:H it=none) (f:it≠X.env.locals)
  (g:it∈X.ex\/X.s₀.heap.objs.size<=it) (y:∀ x c,X.env.cells.lookup x=some c->c≠it) (i:∀ p∈X.pn++pins,p.1≠it):bH X pins σ H { s with heap:=h',toks:=t' }:=by
 have d:∀ b u,H b=some u->b≠it:=fun b u e z=>by rw [z,w] at e;cases e
 refine I.step (g':=s.gens) (d':=s.drawn) (ch:=[it]) (fun b l=>?_) (fun b o _ _ a e _=>k b o (fun z=>a (by simp [z])) e) (fun b o _ _ a e _=>⟨o.slots,k b o (fun z=>a (by simp [z])) e⟩) (fun _ _ _ _ n=>n)
  (fun b o a e=>⟨o,k b o (fun z=>a (by simp [z])) e⟩) (fun _ _ e=>e) (fun _ _ _ e=>e) (fun b ps e=>⟨#[],by rw [e];simp⟩) (fun m t=>?_) (fun b u e=>?_) I.bare
 ·have e:b=it:=by simpa using l
  subst e
  exact ⟨g,f,y,i⟩
 ·obtain ⟨o,h,j,ho,r⟩:=t
  exact ⟨o,h,j,k _ o (eC f) ho,r⟩
 ·refine (I.hok b u e).stay (fun c v a q=>k c v ?_ q) (fun _ q=>q) fun _ _ q=>q
  rcases a with z|z
  ·rw [z];exact d b u e
  ·exact d c _ z
theorem bH.tok (I:bH X pins σ H s) (t:Nat):bH X pins σ H { s with toks:=t }:=I.un (h':=s.heap) (t':=t) Un.refl I.hok
theorem bH.kept {t':Nat} (I:bH X pins σ H s) (k:∀ b u,s.heap.get? b=some u->h'.get? b=some u):bH X pins σ H { s with heap:=h',toks:=t' }:=I.un (Un.kept k) (I.hok.kept k)
theorem bH.laid {a:af}{o:HO}{t':Nat} (I:bH X pins σ H s) (k:∀ b u,s.heap.get? b=some u->h'.get? b=some u) (c:s.heap.objs.size<=a) (new:dw X.prog X.w (upd H a o) h' a o) :
  bH X pins σ (upd H a o) { s with heap:=h',toks:=t' }:=I.un (Un.laid k c (I.hok.fresh c)) (I.hok.laid k c new)
theorem bH.write {x e:af}{o:HO}{t':Nat} (I:bH X pins σ H s) (c:Y5 (H x)) (he:e=x\/H e=some (.own x)) (k:∀ b u,b≠e->s.heap.get? b=some u->h'.get? b=some u) (a:∃ u,h'.get? e=some u)
  (new:dw X.prog X.w (upd H x o) h' x o):bH X pins σ (upd H x o) { s with heap:=h',toks:=t' }:=I.un (Un.write c he k a) (I.hok.write c he k a new)
theorem bH.weak {σ':List (Option V)} (I:bH X pins σ H s) (b:σ'.length=σ.length) (w:∀ (i:Nat) v,σ'[i]?=some (some v)->σ[i]?=some (some v)):bH X pins σ' H s :=
 ⟨I.ok,I.os,I.bare,I.base,let ⟨m,hn,hl'⟩:=I.loc;⟨m,hn,fun i x v a c d=>hl' i x v a (w i v c) d⟩,I.cell,I.free,I.freeC,I.pin,I.hok,b.trans I.len⟩
theorem bH.pins_of {a:List (af×Obj)} (I:bH X pins σ H s) (h:∀ p∈a,s.heap.get? p.1=some p.2/\H p.1=none/\p.1≠X.env.locals/\p.1∉X.fs/\∀ v,p.2.data≠.cell v):bH X a σ H s :=
 ⟨I.ok,I.os,I.bare,I.base,I.loc,I.cell,I.free,I.freeC,fun p b=>(List.mem_append.mp b).elim (fun z=>I.pin p (my _ z)) (h p),I.hok,I.len⟩
theorem FE {N:List Str} (c:N.Nodup) {i j:Nat}{x:Str} (a:N[i]?=some x) (b:N[j]?=some x):i=j:=by
 obtain ⟨f,d⟩:=List.getElem?_eq_some_iff.mp a
 obtain ⟨g,e⟩:=List.getElem?_eq_some_iff.mp b
 exact (List.getElem_inj c).mp (d.trans e.symm)
theorem Cq {M:NH}{A:bh}{E:ae->ak->Prop}{i:Nat}{x:Str}{v:V}{u:ae}{Q:Unit->ak->Prop} (I:bH X pins σ H s) (hN:X.N.Nodup) (U:X.N[i]?=some x) (t:Fo X.env.scope x) (r:dq v u)
  (h:∀ s',bH X pins (σ.set i (some v)) H s'->(∃ a,bJ a s.heap s'.heap/\(a=X.env.locals\/X.env.cells.lookup x=some a))->Q () s') (hf:X.fn x=true\/X.env.scope.names.lookup x=some .local:=by first|exact .inl rfl|exact .inr rfl|assumption):av M A (storeName X.env x u) Q E s:=by
 obtain ⟨m,hn,hl⟩:=id I.loc
 have S:(X.env.scope.kind == .class||(X.env.scope.kind == .module&&X.env.locals != X.env.globals))=false:=by rw [I.ok.kind];rfl
 have K:i<σ.length:=by rw [I.len];exact (List.getElem?_eq_some_iff.mp U).1
 have cne:=I.cne
 have g:∀ {a:af}{h':bA},(∃ o,s.heap.get? a=some o/\H a=none)->bJ a s.heap h'->rR X.prog X.w H h':=fun {a h'} ha hs b ob e=>by
  obtain ⟨_,_,B⟩:=ha
  refine (I.hok b ob e).stay (fun c w' l q=>(hs.2 c ?_).trans q) (fun _ q=>q) fun _ _ q=>q
  rintro rfl
  rcases l with rfl|l
  ·rw [B] at e;cases e
  ·rw [B] at l;cases l
 rcases t with hk|hk
 ·refine wpAny_storeName_local hk hn (fun h' a3 hs=>?_) S
  obtain ⟨oL,_,_,a2,_⟩:=id hn
  refine h _ ⟨I.ok,I.os,I.bare,⟨fun b o e n O t=>?_,fun b o e n O t=>?_,I.base.free,fun b o e t=>?_,I.base.tups,I.base.frzs,I.base.tbls⟩,⟨_,a3,fun j y v' f G e3=>?_⟩,fun y c e=>?_,I.free,I.freeC,fun p hp=>?_,g ⟨oL,a2,I.free⟩ hs,by simpa using I.len⟩ ⟨_,hs,.inl rfl⟩
  ·exact (hs.2 b (aM (aL (ax e) I.ok.above))).trans (I.base.keep b o e n O t)
  ·obtain ⟨sl,f⟩:=I.base.slot b o e n O t
   exact ⟨sl,(hs.2 b (aM (aL (ax e) I.ok.above))).trans f⟩
  ·obtain ⟨o',f⟩:=I.base.there b o e t
   exact ⟨o',(hs.2 b (aM (aL (ax e) I.ok.above))).trans f⟩
  ·by_cases P:j=i
   ·subst P
    rw [U] at f;cases f
    rw [aJ K] at G
    cases G
    exact ⟨u,r,.inl ⟨hk,by simp⟩⟩
   ·rw [am (eC P)] at G
    obtain ⟨u',r',q⟩:=hl j y v' f G e3
    refine ⟨u',r',?_⟩
    rcases q with ⟨k,e⟩|⟨k,c,e,z⟩
    ·refine .inl ⟨k,?_⟩
     have:y≠x:=fun e=>P (FE hN f (e ▸ U))
     simp [this,e]
    ·exact .inr ⟨k,c,e,z.sameBut hs (cne y c e)⟩
  ·obtain ⟨w',z⟩:=I.cell y c e
   exact ⟨w',z.sameBut hs (cne y c e)⟩
  ·obtain ⟨e,n,ne,nf,d⟩:=I.pin p hp
   exact ⟨(hs.2 p.1 ne).trans e,n,ne,nf,d⟩
 ·have L:X.fn x=true:=by
   rcases hf with z|z
   ·exact z
   ·rw [z] at hk;cases hk
  obtain ⟨c,l⟩:=I.ok.has x (.inl hk)
  obtain ⟨w',z⟩:=I.cell x c l
  refine wpAny_storeName_cell I.ok.kind hk l z (fun h' a1 hs=>?_)
  obtain ⟨oc,a0,Y⟩:=id z
  refine h { s with heap:=h' } ⟨I.ok,I.os,I.bare,⟨fun b o e n O t=>?_,fun b o e n O t=>?_,I.base.free,fun b o e t=>?_,I.base.tups,I.base.frzs,I.base.tbls⟩,⟨m,hn.sameBut hs (eC (cne x c l)),fun j y v' f G e3=>?_⟩,fun y c' e=>?_,I.free,I.freeC,fun p hp=>?_,g ⟨oc,a0,I.freeC x c l⟩ hs,by simpa using I.len⟩ ⟨c,hs,.inr l⟩
  ·exact (hs.2 b (aM (aL (ax e) (I.ok.cab x c L l)))).trans (I.base.keep b o e n O t)
  ·obtain ⟨sl,f⟩:=I.base.slot b o e n O t
   exact ⟨sl,(hs.2 b (aM (aL (ax e) (I.ok.cab x c L l)))).trans f⟩
  ·obtain ⟨o',f⟩:=I.base.there b o e t
   exact ⟨o',(hs.2 b (aM (aL (ax e) (I.ok.cab x c L l)))).trans f⟩
  ·by_cases P:j=i
   ·subst P
    rw [U] at f;cases f
    rw [aJ K] at G
    cases G
    exact ⟨u,r,.inr ⟨.inl hk,c,l,a1⟩⟩
   ·rw [am (eC P)] at G
    obtain ⟨u',r',q⟩:=hl j y v' f G e3
    refine ⟨u',r',?_⟩
    rcases q with q|⟨k,c',e,z'⟩
    ·exact .inl q
    ·refine .inr ⟨k,c',e,z'.sameBut hs ?_⟩
     rintro rfl
     exact P (FE hN f (I.ok.inj _ _ _ e l ▸ U))
  ·by_cases T:c'=c
   ·subst T;exact ⟨_,a1⟩
   ·obtain ⟨w2,z2⟩:=I.cell y c' e
    exact ⟨w2,z2.sameBut hs T⟩
  ·obtain ⟨e,n,ne,nf,d⟩:=I.pin p hp
   refine ⟨(hs.2 p.1 ?_).trans e,n,ne,nf,d⟩
   intro q
   rw [q,a0] at e
   have q':oc=p.2:=bO e
   exact d w' (by rw [<- q'];exact Y)
theorem pJ {M:NH}{A:bh}{E:ae->ak->Prop}{i:Nat}{x:Str}{v:V}{u:ae}{Q:Unit->ak->Prop} (I:bH X pins σ H s) (a:X.N.Nodup) (d:X.N[i]?=some x) (c:Fo X.env.scope x) (r:dq v u)
  (h:∀ s',bH X pins (σ.set i (some v)) H s'->Q () s') (e:X.fn x=true\/X.env.scope.names.lookup x=some .local:=by first|exact .inl rfl|exact .inr rfl|assumption):av M A (storeName X.env x u) Q E s :=
 Cq I a d c r (fun s' b _=>h s' b) e
theorem bH.call' {s':ak}{ch:List af} (I:bH X pins σ H s) (ho:s'.os=s.os) (u:Un (uR X.stack) ch H H' s.heap s'.heap) (d:rR X.prog X.w H' s'.heap) (g:rW s'.gens)
  (a:∀ b∈ch,(b∈X.ex\/X.s₀.heap.objs.size<=b)/\b≠X.env.locals/\(∀ x c,X.env.cells.lookup x=some c->c≠b)/\∀ p∈X.pn++pins,p.1≠b):bH X pins σ H' s':=by
 obtain ⟨h',g',d',t',f⟩:=s'
 have e:f=s.os:=ho
 subst e
 exact I.call (g':=g') (t':=t') (d':=d') u d g a
end
abbrev XK:=ae->Option af->Hp->Prop
abbrev St:=List (Option V)
abbrev VK:=V->Hp->Prop
abbrev TE:=St->Hp->VK->Prop
abbrev TT:=St->Hp->(Bool->Hp->Prop)->Prop
abbrev TA:=St->Hp->(List V->Hp->Prop)->Prop
structure uG where
 nx:St->Hp->Prop
 rt:VK
 bk:St->Hp->Prop:=fun _ _=>False
 ct:St->Hp->Prop:=fun _ _=>False
abbrev TS:=uG->St->Hp->Prop
inductive EP (X:Cx) (pins:List (af×Obj)) (σ:St) (Q:VK) (u:ae) (s':ak):Prop
 |mk (v H':_) (h0:bH X pins σ H' s') (h1:dq v u) (h2:Q v H'):EP X pins σ Q u s'
inductive TP (X:Cx) (pins:List (af×Obj)) (σ:St) (Q:Bool->Hp->Prop) (b:Bool) (s':ak):Prop
 |mk (H':_) (h0:bH X pins σ H' s') (h1:Q b H'):TP X pins σ Q b s'
inductive AP (X:Cx) (pins:List (af×Obj)) (σ:St) (Q:List V->Hp->Prop) (us:List ae) (s':ak):Prop
 |mk (vs H':_) (h0:bH X pins σ H' s') (h1:cS vs us) (h2:Q vs H'):AP X pins σ Q us s'
inductive SN (X:Cx) (pins:List (af×Obj)) (k:St->Hp->Prop) (s':ak):Prop
 |mk (σ':St) (H':Hp) (I:bH X pins σ' H' s') (q:k σ' H'):SN X pins k s'
inductive SV (X:Cx) (pins:List (af×Obj)) (k:V->Hp->Prop) (u:ae) (s':ak):Prop
 |mk (v:V) (σ':St) (H':Hp) (I:bH X pins σ' H' s') (r:dq v u) (q:k v H'):SV X pins k u s'
def SP (X:Cx) (a:List (af×Obj)) (D:uG) (f:Flow) (s':ak):Prop :=
 match f with
 |.next=>SN X a D.nx s'
 |.brk=>SN X a D.bk s'
 |.cont=>SN X a D.ct s'
 |.ret u=>SV X a D.rt u s'
def PE (X:Cx) (e:bc) (t:TE):Prop :=
 ∀ (a:List (af×Obj)) (s:ak) (σ:St) (H:Hp) (Q:VK),bH X a σ H s->t σ H Q->av (aF X.prog X.w) X.A (bG e X.env) (EP X a σ Q) X.xe s
def PT (X:Cx) (e:bc) (t:TT):Prop :=
 ∀ (a:List (af×Obj)) (s:ak) (σ:St) (H:Hp) (Q:Bool->Hp->Prop),bH X a σ H s->t σ H Q->av (aF X.prog X.w) X.A (xD e X.env (bG e X.env)) (TP X a σ Q) X.xe s
def PW (X:Cx) (e:bc) (t:TT):Prop :=
 ∀ (b:Sem ae) (a:List (af×Obj)) (s:ak) (σ:St) (H:Hp) (Q:Bool->Hp->Prop),bH X a σ H s->t σ H Q->av (aF X.prog X.w) X.A (xD e X.env b) (TP X a σ Q) X.xe s
theorem PW.pt {X:Cx}{e:bc}{t:TT} (h:PW X e t):PT X e t:=h _
def PA (X:Cx) (c:List bc) (t:TA):Prop :=
 ∀ (b:Pos) (a:List (af×Obj)) (s:ak) (σ:St) (H:Hp) (Q:List V->Hp->Prop),bH X a σ H s->t σ H Q->av (aF X.prog X.w) X.A (spliced (cC b (ao c X.env))) (AP X a σ Q) X.xe s
def PS (X:Cx) (b:c9) (t:TS):Prop :=
 ∀ (a:List (af×Obj)) (s:ak) (σ:St) (H:Hp) (D:uG),bH X a σ H s->t D σ H->av (aF X.prog X.w) X.A (exec b X.env) (SP X a D) X.xe s
def zw (X:Cx) (b:List c9) (t:TS):Prop :=
 ∀ (a:List (af×Obj)) (s:ak) (σ:St) (H:Hp) (D:uG),bH X a σ H s->t D σ H->av (aF X.prog X.w) X.A (execs b X.env) (SP X a D) X.xe s
theorem fE {α:Type}{t:Sem α}{Q Q':α->ak->Prop}{M:NH}{A:bh}{E:ae->ak->Prop}{s:ak} (h:av M A t Q E s) (b:∀ a s,Q a s->Q' a s):av M A t Q' E s:=cx h b fun _ _ x=>x
end L2
namespace L2
open PySem PySem.Spec PyProof.Rows
section
variable {X:Cx}
inductive UX (i:Nat) (σ:St) (H:Hp) (Q:VK):Prop
 |mk (v:_) (h0:σ[i]?=some (some v)) (h1:Q v H):UX i σ H Q
def xQ (i:Nat):TE:=UX i
def tC (v:V):TE:=fun _ H Q=>Q v H
theorem hV {i:Nat}{x:Str}{d:Pos} (g:X.N[i]?=some x) (o:BH X.env.scope x) (f:(x==("__debug__" : Str))=false:=by decide) (b:(x==("__classdict__" : Str))=false:=by decide):PE X (.Name x d) (xQ i):=by
 intro a s σ H Q I h
 obtain ⟨v,e,h⟩:=h
 obtain ⟨m,n,j⟩:=I.loc
 obtain ⟨u,r,l⟩:=j i x v g e o
 have fin:EP X a σ Q u s:=⟨v,H,I,r,h⟩
 rcases l with ⟨hk,k⟩|⟨hk,c,hc,hcell⟩
 ·exact wpAny_Name (S0 I.ok.kind hk n k fin) f
 ·rcases hk with hk|hk
  ·exact wpAny_Name (wpAny_loadName_cell I.ok.kind hk hc hcell fin) f
  ·exact wpAny_Name (wpAny_loadName_free I.ok.kind hk hc hcell fin b) f
theorem Og {i j pos}:PE X (.Constant (.int i) j pos) (tC (.int i)):=fun _ _ _ H _ I h=>wpAny_Constant_int ⟨.int i,H,I.tok _,⟨_,rfl⟩,h⟩
theorem Oh {b j pos}:PE X (.Constant (.bool b) j pos) (tC (.bl b)):=fun _ _ _ H _ I h=>Constant_bool ⟨.bl b,H,I,rfl,h⟩
theorem Oi {j pos}:PE X (.Constant .none j pos) (tC .non):=fun _ _ _ H _ I h=>Constant_none ⟨.non,H,I,rfl,h⟩
theorem Oj {x j pos}:PE X (.Constant (.str x) j pos) (tC (.str x)):=fun _ _ _ H _ I h=>Calls.Constant_str ⟨.str x,H,I.tok _,⟨_,rfl⟩,h⟩
def Gl (X:Cx) (x:Str):Prop:=X.env.kindOf x=some .globalImplicit
theorem wq {E:ae->ak->Prop}{a:List (af×Obj)}{s:ak}{σ:St}{H:Hp}{x:Str}{u:ae}{b:Pos}{Q:ae->ak->Prop} (I:bH X a σ H s) (d:Gl X x) (c:X.mg x=some u) (h:Q u s)
  (e:(x==("__debug__" : Str))=false:=by decide):av (aF X.prog X.w) X.A (bG (.Name x b) X.env) Q E s :=
 nR I.ok.kind d (Fe (by rw [I.ok.glob];exact I.mod.glob.keeps I.bk) c h) e
theorem v7 {E:ae->ak->Prop}{a:List (af×Obj)}{s:ak}{σ:St}{H:Hp}{x:Str}{u:ae}{b:Pos}{Q:ae->ak->Prop} (I:bH X a σ H s) (j:Gl X x) (d:X.mg x=none) (i:j0 x=some u) (h:Q u s)
  (e:x≠"__name__":=by decide) (f:(x==("__debug__" : Str))=false:=by decide):av (aF X.prog X.w) X.A (bG (.Name x b) X.env) Q E s:=by
 obtain ⟨k,c,g⟩:=I.mod.blt
 exact nR I.ok.kind j (Calls.loadGlobal_builtin (by rw [I.ok.glob];exact I.mod.glob.keeps I.bk) d (by rw [I.ok.blt];exact c.keeps I.bk) ((g x e).trans i) h) f
theorem Ku {x:Str}{v:V}{u:ae}{a:Pos} (c:Gl X x) (b:X.mg x=some u) (r:dq v u) (d:(x==("__debug__" : Str))=false:=by decide):PE X (.Name x a) (tC v) :=
 fun _ _ _ H _ I h=>wq I c b ⟨v,H,I,r,h⟩ d
theorem Kv {x:Str}{v:V}{u:ae}{a:Pos} (e:Gl X x) (b:X.mg x=none) (d:j0 x=some u) (r:dq v u) (c:x≠"__name__":=by decide) (f:(x==("__debug__" : Str))=false:=by decide):PE X (.Name x a) (tC v) :=
 fun _ _ _ H _ I h=>v7 I e b d ⟨v,H,I,r,h⟩ c f
variable {a b:bc}{ta tb:TE}{pos:Pos}
def PC (X:Cx) (f:Ff) (a b:bc) (t:TE):Prop :=
 ∀ (c:List (af×Obj)) (s:ak) (σ:St) (H:Hp) (Q:VK),bH X c σ H s->t σ H Q ->
  av (aF X.prog X.w) X.A (bG a X.env) (fun v d=>av (aF X.prog X.w) X.A (bG b X.env) (fun u e=>av (aF X.prog X.w) X.A (bK f v u) (EP X c σ Q) X.xe e) X.xe d) X.xe s
theorem Ol (b:bc) {c:Ff} (h:c≠.In) (d:c≠.NotIn):fD c b=false:=by
 have f:(c==CmpOp.In)=false:=by cases c<;>first|rfl|exact absurd rfl h
 have e:(c==CmpOp.NotIn)=false:=by cases c<;>first|rfl|exact absurd rfl d
 cases b<;>simp [fD,f,e]
def tB (t:TE):TT:=fun σ H Q=>t σ H fun x d=>∃ c,x=.bl c/\Q c d
theorem q0j {g:Ff}{t:TE} (h:PC X g a b t) (f:fD g b=false:=by first|exact Ol _ (by decide) (by decide)|rfl):PT X (.Compare a [g] [b] pos) (tB t):=by
 intro e s σ H Q I k
 refine RJ (fE (h e s σ H _ I k) fun v o f=>fE f fun u w m=>fE m fun c p ⟨x,i,n,l,j⟩=>?_) f
 obtain ⟨d,rfl,q⟩:=j
 cases l
 exact e7 ⟨i,n,q⟩
theorem IF {e:bc}{t:TE} (h:PE X e t) (he:∀ c,xD e X.env c=(do let v <- c;j3 e.pos;kg [v] (N_ v)):=by intro _;rfl):PT X e (tB t):=by
 intro f s σ H Q I j
 refine isTrue_plain (fE (h f s σ H _ I j) fun v m ⟨x,g,l,k,i⟩=>?_) (he _)
 obtain ⟨d,rfl,q⟩:=i
 cases k
 exact e7 ⟨g,l,q⟩
variable {tA tB':TT}{bU:List bc}
def q0k (t u:TT):TT:=fun σ H Q=>t σ H fun c d=>if c=true then u σ d Q else Q false d
def tOr (t u:TT):TT:=fun σ H Q=>t σ H fun c d=>if c=true then Q true d else u σ d Q
def q0l (t:TT):TT:=fun σ H Q=>t σ H fun c d=>Q (!c) d
theorem Sq (f:PT X a tA):PW X (.BoolOp .And [a] pos) tA:=by
 intro i d s σ H Q I h
 refine isTrue_and (fE (f d s σ H Q I h) fun c g e=>?_)
 cases c with
 |true=>exact isTrue_and_nil e
 |false=>exact e
theorem Om (f:PT X a tA):PW X (.BoolOp .Or [a] pos) tA:=by
 intro i d s σ H Q I h
 refine isTrue_or (fE (f d s σ H Q I h) fun c g e=>?_)
 cases c with
 |false=>exact isTrue_or_nil e
 |true=>exact e
theorem W9 (j:PT X a tA) (l:PW X (.BoolOp .And (b::bU) pos) tB'):PW X (.BoolOp .And (a::b::bU) pos) (q0k tA tB'):=by
 intro k d s σ H Q I h
 refine isTrue_and (fE (j d s σ H _ I h) fun c i ⟨e,g,f⟩=>?_)
 cases c with
 |true=>exact l k d i σ e Q g f
 |false=>exact ⟨e,g,f⟩
theorem UY (j:PT X a tA) (l:PW X (.BoolOp .Or (b::bU) pos) tB'):PW X (.BoolOp .Or (a::b::bU) pos) (tOr tA tB'):=by
 intro k d s σ H Q I h
 refine isTrue_or (fE (j d s σ H _ I h) fun c i ⟨e,g,f⟩=>?_)
 cases c with
 |true=>exact ⟨e,g,f⟩
 |false=>exact l k d i σ e Q g f
theorem IG (e:PT X a tA):PT X (.UnaryOp .Not a pos) (q0l tA):=by
 intro d s σ H Q I h
 exact isTrue_not (fE (e d s σ H (fun c f=>Q (!c) f) I h) fun _ _ x=>by obtain ⟨a,b,c⟩:=x;exact ⟨a,b,c⟩)
def Y6 (ta tb:TE):TE:=fun σ H Q=>ta σ H fun x d=>∃ c,x=.bl c/\if c=true then tb σ d Q else Q (.bl false) d
def Y7 (ta:TE):TE:=fun σ H Q=>ta σ H fun x d=>∃ c,x=.bl c/\Q (.bl (!c)) d
theorem Wa {op}{t:TE} (h:PE X a t):PE X (.BoolOp op [a] pos) t:=fun c s σ H Q I d=>BoolOp_one (h c s σ H Q I d)
theorem Wb (k:PE X a ta) (l:PE X (.BoolOp .And (b::bU) pos) tb):PE X (.BoolOp .And (a::b::bU) pos) (Y6 ta tb):=by
 intro d s σ H Q I h
 refine BoolOp_and (fE (k d s σ H _ I h) fun v i ⟨x,f,g,j,e⟩=>?_)
 obtain ⟨c,rfl,e⟩:=e
 cases j
 refine e7 ?_
 cases c with
 |true=>exact l d i σ f Q g e
 |false=>exact ⟨.bl false,f,g,rfl,e⟩
theorem Wc (f:PE X a ta):PE X (.UnaryOp .Not a pos) (Y7 ta):=by
 intro d s σ H Q I h
 refine UnaryOp_ (fE (f d s σ H _ I h) fun v k ⟨x,g,i,j,e⟩=>?_)
 obtain ⟨c,rfl,e⟩:=e
 cases j
 exact not_of (e7 ⟨.bl (!c),g,i,rfl,e⟩)
end
end L2
namespace L2
open PySem PySem.Spec PyProof.Rows
inductive KqL (K:aa) (a:af) (xs:List V):Prop
 |mk (o:Obj) (its:Array ae) (n:Nat) (h0:K.lookup a=some o) (h1:o.cls=.type "list") (h2:o.dict=none) (h3:o.data=.seq its n) (h4:its.size<=sizeLine) (h5:cS xs its.toList):KqL K a xs
def pC (K:aa) (H:Hp) (a:af) (xs:List V):Prop :=
 Rd H a (.lst xs)\/KqL K a xs
inductive KqT (K:aa) (a:af) (xs:List V):Prop
 |mk (o:Obj) (its:Array ae) (n:Nat) (h0:K.lookup a=some o) (h1:o.cls=.type "tuple") (h3:o.data=.seq its n) (h4:its.size<=sizeLine) (h5:cS xs its.toList):KqT K a xs
def lz (K:aa) (H:Hp) (a:af) (xs:List V):Prop :=
 Rd H a (.tup xs)\/KqT K a xs
def q0m:ae->Option V
 |.none=>some .non
 |.bool b=>some (.bl b)
 |.int i _=>some (.int i)
 |.str x _=>some (.str x)
 |.bytes b _=>some (.byt b)
 |.float b _=>some (.flt b)
 |.ref a=>some (.ref a)
 |.type n=>some (.ty n)
 |_=>none
theorem dq.abs {x:V}{u:ae} (r:dq x u):q0m u=some x:=by
 cases x with
 |non=>cases r;rfl
 |bl _=>cases r;rfl
 |int _=>obtain ⟨t,rfl⟩:=r;rfl
 |str _=>obtain ⟨t,rfl⟩:=r;rfl
 |byt _=>obtain ⟨t,rfl⟩:=r;rfl
 |flt _=>obtain ⟨t,rfl⟩:=r;rfl
 |ref _=>cases r;rfl
 |ty _=>cases r;rfl
theorem dq.inj {x y:V}{u:ae} (r:dq x u) (q:dq y u):x=y:=bO (r.abs.symm.trans q.abs)
theorem cS.inj {xs:List V}{us:List ae} (h:cS xs us):∀ {ys:List V},cS ys us->xs=ys:=by
 induction h with
 |nil=>intro ys k;cases k;rfl
 |cons r t a=>intro ys k;cases k with|cons b t'=>rw [r.inj b,a t']
section
variable {X:Cx}{pins:List (af×Obj)}{σ:St}{H:Hp}{s:ak}{a:af}{xs ys:List V}
theorem pC.of {K:aa} (h:H a=some (.lst xs)):pC K H a xs:=.inl (.inl h)
theorem lz.of {K:aa} (h:H a=some (.tup xs)):lz K H a xs:=.inl (.inl h)
inductive InL (h:bA) (a:af) (xs:List V):Prop
 |mk (its:List ae) (r:cS xs its) (p:PlainL h a its.toArray) (z:xs.length<=sizeLine):InL h a xs
inductive InT (h:bA) (a:af) (xs:List V):Prop
 |mk (its:List ae) (r:cS xs its) (p:HZ h a its.toArray) (z:xs.length<=sizeLine):InT h a xs
inductive InM (h:bA) (l:af) (xs:List V):Prop
 |mk (z:xs.length<=sizeLine) (its:List ae) (n:Nat) (r:cS xs its) (hl:xs.length=its.length) (e:h.get? l=some { cls:=.type "list",data:=.seq its.toArray n }):InM h l xs
theorem bH.list (I:bH X pins σ H s) (h:pC X.K H a xs):InL s.heap a xs:=by
 rcases h with h|⟨o,b,n,hk,hc,hd,hs,hz,r⟩
 ·obtain ⟨z,b,n,r,e⟩:=h.ok I.hok
  exact ⟨b,r,⟨_,n,e,rfl,rfl,rfl⟩,z⟩
 ·refine ⟨b.toList,r,⟨o,n,I.kIn a o hk,hc,hd,by simpa using hs⟩,?_⟩
  have e:=r.length
  simp only [ay] at e
  omega
theorem bH.tuple (I:bH X pins σ H s) (h:lz X.K H a xs):InT s.heap a xs:=by
 rcases h with h|⟨o,b,n,hk,hc,hs,hz,r⟩
 ·obtain ⟨z,b,r,p⟩:=h.ok I.hok
  exact ⟨b,r,p,z⟩
 ·refine ⟨b.toList,r,⟨o,I.kIn a o hk,hc,n,by simpa using hs⟩,?_⟩
  have e:=r.length
  simp only [ay] at e
  omega
theorem bH.list_inj (I:bH X pins σ H s) (h:pC X.K H a xs) (h':pC X.K H a ys):xs=ys:=by
 obtain ⟨b,r,⟨o,n,e,_,_,d⟩,_⟩:=I.list h
 obtain ⟨its',g,⟨i,j,c,_,_,d'⟩,_⟩:=I.list h'
 rw [e] at c;cases c
 rw [d] at d'
 injection d' with f _
 have:b=its':=by simpa using congrArg Array.toList f
 subst this
 exact r.inj g
theorem bH.tuple_inj (I:bH X pins σ H s) (h:lz X.K H a xs) (h':lz X.K H a ys):xs=ys:=by
 obtain ⟨b,r,⟨o,e,_,n,d⟩,_⟩:=I.tuple h
 obtain ⟨its',g,⟨i,c,_,j,d'⟩,_⟩:=I.tuple h'
 rw [e] at c;cases c
 rw [d] at d'
 injection d' with f _
 have:b=its':=by simpa using congrArg Array.toList f
 subst this
 exact r.inj g
end
abbrev Cx.wish (X:Cx) (E:ae->ak->Prop):Cx:={ X with xe:=E }
abbrev Cx.nox (X:Cx):Cx:=X.wish fun _ _=>False
theorem Cx.Ok.wish {X:Cx} (ok:X.Ok) (E:ae->ak->Prop):(X.wish E).Ok :=
 ⟨ok.mod,ok.kind,ok.glob,ok.blt,ok.above,ok.inj,ok.has,ok.cab,ok.hd,ok.frames,ok.stk,ok.exf,ok.bs,ok.bsz,ok.noex,ok.exfs,ok.funs,ok.frf⟩
theorem Cx.Ok.unwish {X:Cx}{E:ae->ak->Prop} (ok:(X.wish E).Ok):X.Ok :=
 ⟨ok.mod,ok.kind,ok.glob,ok.blt,ok.above,ok.inj,ok.has,ok.cab,ok.hd,ok.frames,ok.stk,ok.exf,ok.bs,ok.bsz,ok.noex,ok.exfs,ok.funs,ok.frf⟩
section
variable {X:Cx}{pins:List (af×Obj)}{σ:St}{H:Hp}{s:ak}{E:ae->ak->Prop}
theorem bH.wish (I:bH X pins σ H s) (E:ae->ak->Prop):bH (X.wish E) pins σ H s:=⟨I.ok.wish E,I.os,I.bare,I.base,I.loc,I.cell,I.free,I.freeC,I.pin,I.hok,I.len⟩
theorem bH.unwish (I:bH (X.wish E) pins σ H s):bH X pins σ H s:=⟨I.ok.unwish,I.os,I.bare,I.base,I.loc,I.cell,I.free,I.freeC,I.pin,I.hok,I.len⟩
theorem SP.unwish {D:uG}{f:Flow}{s':ak} (h:SP (X.wish E) pins D f s'):SP X pins D f s':=by
 cases f with
 |next=>obtain ⟨σ',H',I,q⟩:=h;exact ⟨σ',H',I.unwish,q⟩
 |brk=>obtain ⟨σ',H',I,q⟩:=h;exact ⟨σ',H',I.unwish,q⟩
 |cont=>obtain ⟨σ',H',I,q⟩:=h;exact ⟨σ',H',I.unwish,q⟩
 |ret u=>obtain ⟨v,σ',H',I,r,q⟩:=h;exact ⟨v,σ',H',I.unwish,r,q⟩
end
section
variable {X:Cx}{st:c9}{bU:List c9}{t u:TS}{e:bc}{te:TE}{pos:Pos}
def Y8:TS:=fun D σ H=>D.nx σ H
def On (t u:TS):TS:=fun D σ H=>t { D with nx:=u D } σ H
theorem DK:zw X [] Y8:=fun _ _ σ H _ I h=>oR ⟨σ,H,I,h⟩
theorem eu (b:PS X st t) (g:zw X bU u):zw X (st::bU) (On t u):=by
 intro a s σ H D I h
 refine wpAny_execs_cons (fE (b a s σ H { D with nx:=u D } I h) fun f c q=>?_)
 cases f with
 |next =>
  obtain ⟨σ',H',d,q⟩:=q
  exact g a c σ' H' D d q
 |ret v=>exact q
 |brk=>exact q
 |cont=>exact q
theorem tO (b:PS X st t):zw X [st] t:=by
 intro a s σ H D I h
 refine wpAny_execs_cons (fE (b a s σ H D I h) fun f c q=>?_)
 cases f with
 |next=>exact oR q
 |ret v=>exact q
 |brk=>exact q
 |cont=>exact q
theorem bH.quiet {a:List (af×Obj)}{σ:St}{H:Hp}{s:ak} (I:bH X a σ H s):interactive X.env=false:=by simp [interactive,I.ok.kind]
def UZ (te:TE):TS:=fun D σ H=>te σ H fun _ a=>D.nx σ a
theorem o9 (he:PE X e te) (hs:dE e none pos.line X.env=pure false:=by rfl):PS X (.Expr e pos) (UZ te):=by
 intro a s σ H D I h
 exact wpAny_Expr_any (fE (he a s σ H _ I h) fun v g b=>by obtain ⟨x,c,f,i,d⟩:=b;exact ⟨σ,c,f,d⟩) I.quiet hs
def Wd (te:TE):TS:=fun D σ H=>te σ H D.rt
theorem zX (he:PE X e te):PS X (.Return (some e) pos) (Wd te):=by
 intro a s σ H D I h
 exact wpAny_Return_some (fE (he a s σ H _ I h) fun v i b=>by obtain ⟨x,c,f,g,d⟩:=b;exact ⟨x,σ,c,f,g,d⟩)
def q0n (c:TT) (t u:TS):TS:=fun D σ H=>c σ H fun b a=>if b=true then t D σ a else u D σ a
theorem Oo {c:bc}{a b:List c9}{tc:TT} (m:PT X c tc) (l:zw X a t) (n:zw X b u):PS X (.If c a b pos) (q0n tc t u):=by
 intro f s σ H D I h
 refine wpAny_If (fE (m f s σ H _ I h) fun d g ⟨i,k,j⟩=>?_)
 cases d with
 |true=>exact l f g σ i D k j
 |false=>exact n f g σ i D k j
def We:TS:=fun _ _ _=>False
theorem k_ {sts:List c9}:zw X sts We:=fun _ _ _ _ _ _ h=>h.elim
end
abbrev TG:=V->St->Hp->(St->Hp->Prop)->Prop
abbrev Op:=List V->St->Hp->(St->Hp->Prop)->Prop
def PG (X:Cx) (a:bc) (t:TG):Prop :=
 ∀ (b:List (af×Obj)) (s:ak) (σ:St) (H:Hp) (v:V) (u:ae) (Q:St->Hp->Prop),bH X b σ H s->dq v u->t v σ H Q ->
  av (aF X.prog X.w) X.A (oS a X.env u) (fun _ s'=>SN X b Q s') X.xe s
def U_ (X:Cx) (b:List bc) (t:Op):Prop :=
 ∀ (a:List (af×Obj)) (s:ak) (σ:St) (H:Hp) (vs:List V) (us:List ae) (Q:St->Hp->Prop),bH X a σ H s->cS vs us->t vs σ H Q ->
  av (aF X.prog X.w) X.A (M6 ((d_ b X.env).map (·.2)) us) (fun _ s'=>SN X a Q s') X.xe s
abbrev TIp:=V->V->Hp->VK->Prop
def PIp (X:Cx) (b:Operator) (t:TIp):Prop :=
 ∀ (a:List (af×Obj)) (s:ak) (σ:St) (H:Hp) (x y:V) (v u:ae) (Q:VK),bH X a σ H s->dq x v->dq y u->t x y H Q ->
  av (aF X.prog X.w) X.A (inplaceOp b v u) (EP X a σ Q) X.xe s
section
variable {X:Cx}{pos:Pos}
def wt (i:Nat):TG:=fun v σ H Q=>Q (σ.set i (some v)) H
theorem cL {i:Nat}{x:Str} (b:X.N.Nodup) (e:X.N[i]?=some x) (d:Fo X.env.scope x) (f:X.fn x=true\/X.env.scope.names.lookup x=some .local:=by first|exact .inl rfl|exact .inr rfl|assumption):PG X (.Name x pos) (wt i):=by
 intro a s σ H v u Q I r h
 exact wpAny_assign_Name (pJ I b e d r (fun s' c=>⟨_,H,c,h⟩) f)
def aN:Op:=fun vs σ H Q=>vs=[]/\Q σ H
inductive Oq (t:TG) (u:Op) (vs:List V) (σ:St) (H:Hp) (Q:St->Hp->Prop):Prop
 |mk (v r:_) (h0:vs=v::r) (h1:t v σ H fun σ' H'=>u r σ' H' Q):Oq t u vs σ H Q
def ah (t:TG) (u:Op):Op:=Oq t u
theorem zx:U_ X [] aN:=by
 intro a s σ H vs us Q I r h
 obtain ⟨e,h⟩:=h
 subst e
 cases r
 exact assignInOrder_nil ⟨σ,H,I,h⟩
theorem m_ {e:bc}{b:List bc}{t:TG}{u:Op} (d:PG X e t) (j:U_ X b u)
  (hs:(d_ (e::b) X.env).map (·.2)=oS e X.env::(d_ b X.env).map (·.2):=by rfl):U_ X (e::b) (ah t u):=by
 intro a s σ H vs us Q I r h
 obtain ⟨v,n,i,h⟩:=h
 subst i
 cases r with
 |cons r k =>
  rw [hs]
  refine zO (fE (d a s σ H _ _ _ I r h) fun _ f ⟨c,g,m,l⟩=>?_)
  exact j a f c g _ _ Q m k l
inductive V0 (K:aa) (n:Nat) (t:Op) (v:V) (σ:St) (H:Hp) (Q:St->Hp->Prop):Prop
 |mk (a xs:_) (h0:v=.ref a) (h1:lz K H a xs) (h2:xs.length=n) (h3:t xs σ H Q):V0 K n t v σ H Q
def Wf (K:aa) (n:Nat) (t:Op):TG:=V0 K n t
theorem DL {d:List bc}{k:Nat}{t:Op}{n:Nat} (m:X.calm=true) (h:U_ X d t)
  (w:(d_ d X.env).length=n:=by rfl) (f:(d_ d X.env).findIdx? (·.1)=none:=by rfl):PG X (.Tuple d k pos) (Wf X.K n t):=by
 intro c s σ H v u Q I r g
 obtain ⟨a,xs,x,p,l,g⟩:=g
 subst x
 cases r
 obtain ⟨q,i,j,A⟩:=I.tuple p
 refine assign_Tuple_tuple (I.ok.hd m) j (by simp [w,<- l,i.length]) f fun h' y=>?_
 have z:bH X c σ H { s with heap:=h' }:=I.kept (t':=s.toks) fun b o e=>y b o (aM (ax e)) e
 exact h c _ σ H xs _ Q z (by simpa using i) g
def Y9 (a:TE) (g:TG):TS:=fun D σ H=>a σ H fun x b=>g x σ b D.nx
theorem IH {tg e:bc}{b:TE}{g:TG} (he:PE X e b) (m:PG X tg g) (hs:sd [tg] e pos.line X.env=pure false:=by rfl) (j:se [tg] e X.env=pure none:=by rfl)
  (c:(d_ [tg] X.env).map (·.2)=[oS tg X.env]:=by rfl):PS X (.Assign [tg] e pos) (Y9 b g):=by
 intro a s σ H D I h
 refine wpAny_Assign_stores (fE (he a s σ H _ I h) fun v d ⟨x,f,l,k,i⟩=>?_) hs j
 rw [c]
 exact fE (m a d σ f x v _ l k i) fun _ n q=>q
theorem qz {i:Nat}{x:Str}{e:bc}{c:TE}{a:Pos} (d:X.N.Nodup) (j:X.N[i]?=some x) (n:Fo X.env.scope x) (he:PE X e c) (hs:dE e (some (.Name x a)) pos.line X.env=pure false:=by rfl) (k:X.fn x=true\/X.env.scope.names.lookup x=some .local:=by first|exact .inl rfl|exact .inr rfl|assumption) :
  PS X (.Assign [.Name x a] e pos) (Y9 c (wt i)):=by
 intro b s σ H D I h
 refine wpAny_Assign_Name (fE (he b s σ H _ I h) fun v p ⟨y,f,o,m,g⟩=>?_) hs
 exact pJ o d j n m (fun q l=>⟨_,f,l,g⟩) k
def q0o (i j:Nat) (b:TA):TS:=fun D σ H=>b σ H fun vs a=>∃ v w,vs=[v,w]/\D.nx ((σ.set i (some v)).set j (some w)) a
theorem Wg {i j:Nat}{x y:Str}{a b:bc}{E:TA}{px n pt:Pos}{kt k2 pt2} (M:X.calm=true) (u:X.N.Nodup) (P:X.N[i]?=some x) (hj:X.N[j]?=some y) (l:i≠j)
  (K:X.env.scope.names.lookup x=some .local) (z:X.env.scope.names.lookup y=some .local) (O:PA X [a,b] E)
  (Q:se [.Tuple [.Name x px,.Name y n] kt pt] (.Tuple [a,b] k2 pt2) X.env=pure (some [x,y]))
  (hs:sd [.Tuple [.Name x px,.Name y n] kt pt] (.Tuple [a,b] k2 pt2) pos.line X.env=pure false:=by rfl) :
  PS X (.Assign [.Tuple [.Name x px,.Name y n] kt pt] (.Tuple [a,b] k2 pt2) pos) (q0o i j E):=by
 intro c s σ H D I h
 rw [exec_Assign_arm]
 refine ac (nO ?_)
 rw [hs]
 refine ac (ag ?_)
 rw [if_neg (by decide)]
 refine ac (Tuple_ (fE (O _ c s σ H _ I h) fun us d ⟨vs,B,I1,U,m⟩=>?_))
 obtain ⟨v,w,T,m⟩:=m
 subst T
 obtain ⟨g,f,rfl,rv,t⟩:∃ g f,us=[g,f]/\dq v g/\dq w f:=by
  cases U with
  |cons p q =>
   cases q with
   |cons Y q' =>
    cases q'
    exact ⟨_,_,rfl,p,Y⟩
 refine cD ?_ (by show 2<=sizeLine;decide)
 have S:bH X c σ B { d with heap:=d.heap.push { cls:=.type "tuple",data:=.seq [g,f].toArray } }:=I1.kept (t':=d.toks) fun b o e=>ai _ e
 rw [Q]
 refine ac (ag ?_)
 show av (aF X.prog X.w) X.A (do rule "assign.swapped-stores";let items <- unpackItems (.ref d.heap.objs.size) 2 none;M6 [fun v=>I9 X.env y v,fun v=>I9 X.env x v] items.reverse;pure Flow.next) _ _ _
 refine ac (gO (ac (unpackItems_tuple (items:=#[g,f]) (I.ok.hd M) (yR d.heap _) fun h' k=>?_)))
 have L:=S.kept (h':=h') (t':=d.toks) fun b o e=>k b o (aM (ax e)) e
 show av _ _ (M6 [fun v=>I9 X.env y v,fun v=>I9 X.env x v] [f,g] >>= fun _=>pure Flow.next) _ _ _
 refine ac (zO (wpAny_bindName (pJ L u hj (.inl z) t (fun s2 I4=>?_) (.inr z))))
 refine zO (wpAny_bindName (pJ I4 u P (.inl K) rv (fun s3 G=>assignInOrder_nil (ag ?_)) (.inr K)))
 rw [List.set_comm _ _ (eC l)] at G
 exact ⟨_,B,G,m⟩
def q0p (i:Nat) (a:TE) (d:TIp):TS:=fun D σ H=>∃ x,σ[i]?=some (some x)/\a σ H fun y c=>d x y c fun z b=>D.nx (σ.set i (some z)) b
theorem Wi {i:Nat}{x:Str}{e:bc}{B:TE}{o:Operator}{t:TIp}{g:Pos} (G:X.N.Nodup) (q:X.N[i]?=some x) (p:Fo X.env.scope x) (he:PE X e B) (ho:PIp X o t) (Q:X.fn x=true\/X.env.scope.names.lookup x=some .local:=by first|exact .inl rfl|exact .inr rfl|assumption) :
  PS X (.AugAssign (.Name x g) o e pos) (q0p i B t):=by
 intro a s σ H D I h
 obtain ⟨v,e1,h⟩:=h
 obtain ⟨m,T,M⟩:=I.loc
 have n:BH X.env.scope x:=by rcases p with k|k;exact .inl k;exact .inr (.inl k)
 obtain ⟨u,r,l⟩:=M i x v q e1 n
 refine wpAny_AugAssign_Name ?_
 have E:av (aF X.prog X.w) X.A (bG e X.env) (fun w b=>av (aF X.prog X.w) X.A (inplaceOp o u w) (fun r f=>av (aF X.prog X.w) X.A (storeName X.env x r) (fun _=>SP X a D .next) X.xe f) X.xe b) X.xe s:=by
  refine fE (he a s σ H _ I h) fun w K j=>?_
  obtain ⟨y,L,I1,r1,P⟩:=j
  refine fE (ho a K σ L v y u w _ I1 r r1 P) fun z s2 d=>?_
  obtain ⟨zv,U,Y,r2,q2⟩:=d
  exact pJ Y G q p r2 (fun s3 O=>⟨_,U,O,q2⟩) Q
 rcases l with ⟨hk,S⟩|⟨hk,c,hc,hcell⟩
 ·exact S0 I.ok.kind hk T S E
 ·rcases hk with hk|hk
  ·exact wpAny_loadName_cell I.ok.kind hk hc hcell E
  ·rcases p with k|k
   ·have:X.env.scope.names.lookup x=some .free:=hk
    rw [k] at this;cases this
   ·have:X.env.scope.names.lookup x=some .free:=hk
    rw [k] at this;cases this
def ipI (f:Int->Int->Int):TIp:=fun x y H Q=>∃ i j,x=.int i/\y=.int j/\Q (.int (f i j)) H
theorem Wj:PIp X .Sub (ipI fun i j=>i-j):=by
 intro a s σ H x y v u Q I c d h
 obtain ⟨i,j,b,e,q⟩:=h
 subst b;subst e
 obtain ⟨t,rfl⟩:=c
 obtain ⟨t',rfl⟩:=d
 exact isub_int ⟨.int _,H,I.tok _,⟨_,rfl⟩,q⟩
end
section
variable {X:Cx}{pos:Pos}
def Wk (c:TT) (tb:TS):TS:=fun D σ H=>∃ W:Nat->St->Hp->Prop,(∃ m,W m σ H)/\∀ m σ H,W m σ H ->
 c σ H fun b a=>if b=true then ∃ N:St->Hp->Prop,(∀ σ' H',N σ' H'->∃ d,d<m/\W d σ' H')/\tb { D with nx:=N,ct:=N,bk:=D.nx } σ a else D.nx σ a
theorem Os {c:bc}{g:List c9}{tc:TT}{tb:TS} (z:PassesOwn (aF X.prog X.w) X.A X.env X.xe) (L:PT X c tc) (M:zw X g tb):PS X (.While c g [] pos) (Wk tc tb):=by
 intro d s σ H D I h
 obtain ⟨W,⟨K,G⟩,i⟩:=h
 refine wpAny_While (codeAny_whileLoop (fun n s'=>∃ σ' H',bH X d σ' H' s'/\W n σ' H') ?_ K ⟨σ,H,I,G⟩)
 rintro n E ⟨e,u,P,B⟩
 refine ji z (fE (L d E e u _ P (i n e u B)) fun b O ⟨y,x,k⟩=>?_)
 cases b with
 |true =>
  obtain ⟨N,t,k⟩:=k
  rw [if_pos rfl]
  refine ji z (fE (M d O e y _ x k) fun f Q l=>?_)
  cases f with
  |next =>
   obtain ⟨a,j,m,q⟩:=l
   obtain ⟨o,p,w3⟩:=t a j q
   exact ⟨o,p,a,j,m,w3⟩
  |cont =>
   obtain ⟨a,j,m,q⟩:=l
   obtain ⟨o,p,w3⟩:=t a j q
   exact ⟨o,p,a,j,m,w3⟩
  |brk=>exact l
  |ret v=>exact l
 |false =>
  rw [if_neg aQ]
  exact oR ⟨e,y,x,k⟩
end
structure It where
 go:Nat->Hp->Prop
 yld:Nat->Hp->V->Hp->Prop
 stop:Nat->Hp->Prop
structure wu (X:Cx) (pins:List (af×Obj)) (H:Hp) (b:af):Prop where
 f0:H b=none
 f1:b≠X.env.locals
 f2:b∉X.fs
 f3:b∈X.ex\/X.s₀.heap.objs.size<=b
 f4:∀ x c,X.env.cells.lookup x=some c->c≠b
 f5:∀ p∈X.pn++pins,p.1≠b
theorem bH.fpOk {X:Cx}{a:List (af×Obj)}{σ:St}{H H':Hp}{s:ak}{b:af} (I:bH X a σ H s) (d:s.heap.objs.size<=b) (f:H' b=none):wu X a H' b:=by
 refine ⟨f,fW (aL I.lt d),I.nofs d,.inr (bF I.sz d),fun x c e z=>?_,fun p g z=>?_⟩
 ·obtain ⟨v,q⟩:=I.cell x c e
  exact absurd (aL q.lt (by rw [z];exact d)) (cZ _)
 ·exact absurd (aL (ax (I.pin p g).1) (by rw [z];exact d)) (cZ _)
structure DN (P:aV) (w:bi) (K:aa) (tg:bc) (J:It) (fp:List af) (it:af) (tn:Nat->bA->Prop):Prop where
 mem:it∈fp
 obj:∀ i h,tn i h->∀ b∈fp,∃ o,h.get? b=some o/\∀ v,o.data≠.cell v
 keep:∀ i h h',tn i h->(∀ b∈fp,∀ o,h.get? b=some o->h'.get? b=some o)->tn i h'
 item:∀ (X:Cx),X.prog=P->X.w=w->X.K=K->X.calm=true->∀ (i:Nat) (pins:List (af×Obj)) (s:ak) (σ:St) (H:Hp) (E:ae->ak->Prop),bH X pins σ H s->(∀ b∈fp,wu X pins H b)->tn i s.heap->J.go i H ->
  av (aF P w) X.A (qv (.ref it)) (fun r s1=>∃ u,r=some u /\
   av (aF P w) X.A (jj tg (.ref it) u) (fun _ s2=>∃ x H',bH X pins σ H' s2/\dq x u/\J.yld i H x H'/\tn (i+1) s2.heap/\∀ b∈fp,H' b=none) E s1) E s
 done:∀ (X:Cx),X.prog=P->X.w=w->X.K=K->X.calm=true->∀ (i:Nat) (pins:List (af×Obj)) (s:ak) (σ:St) (H:Hp) (E:ae->ak->Prop),bH X pins σ H s->(∀ b∈fp,wu X pins H b)->tn i s.heap->J.stop i H ->
  av (aF P w) X.A (qv (.ref it)) (fun r s1=>r=none/\bH X pins σ H s1) E s
 self:∀ (A:bh) (i:Nat) (s:ak) (Q:ae->ak->Prop) (E:ae->ak->Prop),tn i s.heap->Q (.ref it) s->av (aF P w) A (xE (.ref it)) Q E s
abbrev TI:=St->Hp->(It->Hp->Prop)->Prop
inductive PIE (X:Cx) (pins:List (af×Obj)) (σ:St) (tg:bc) (R:It->Hp->Prop) (itv:ae) (s2:ak):Prop
 |mk (it:af) (fp:List af) (tn:Nat->bA->Prop) (J:It) (H':Hp) (h0:itv=.ref it) (I:bH X pins σ H' s2) (T:DN X.prog X.w X.K tg J fp it tn) (t0:tn 0 s2.heap) (f:∀ b∈fp,wu X pins H' b) (q:R J H'):PIE X pins σ tg R itv s2
inductive FLI (X:Cx) (pins:List (af×Obj)) (tn:Nat->bA->Prop) (fp:List af) (W:Nat->Nat->St->Hp->Prop) (n:Nat) (s':ak):Prop
 |mk (i:Nat) (σ':St) (H':Hp) (I:bH X pins σ' H' s') (t:tn i s'.heap) (f:∀ b∈fp,H' b=none) (q:W i n σ' H'):FLI X pins tn fp W n s'
def PI (X:Cx) (tg iter:bc) (c:TI):Prop :=
 ∀ (a:List (af×Obj)) (s:ak) (σ:St) (H:Hp) (R:It->Hp->Prop),bH X a σ H s->c σ H R ->
  av (aF X.prog X.w) X.A (bG iter X.env) (fun v b=>av (aF X.prog X.w) X.A (xE v) (PIE X a σ tg R) X.xe b) X.xe s
theorem Kw {M : NH} {A : bh} {E : ae -> ak -> Prop} {s : ak} {tg : bc} {it : af} {u : ae} {o : Obj} {n : String} {vs : Array ae} {Q : Unit -> ak -> Prop} (ho : s.heap.get? it = some o) (b : o.cls = .type n) (d : o.data = .fields vs)
    (c : ["enumerate", "zip", "dict_itemiterator", "dict_reverseitemiterator", "odict_iterator", "itertools.zip_longest", "itertools.pairwise"].contains n = false) (a : Q () s) : av M A (jj tg (.ref it) u) Q E s := by
  unfold jj
  cases tg <;> first
    | exact ag a
    | (cases u <;> first
        | exact ag a
        | (refine ac (wpAny_load ho ?_)
           rw [b, d]
           show av M A (if (["enumerate", "zip", "dict_itemiterator", "dict_reverseitemiterator", "odict_iterator", "itertools.zip_longest", "itertools.pairwise"].contains n && vs[0]? == some (cE _)) = true then _ else _) Q E s
           rw [if_neg (by intro h; rw [c, Cg] at h; cases h)]
           exact ag a))
def Itl (K:aa) (a:af):It :=
 ⟨fun i H=>∃ xs x,pC K H a xs/\xs[i]?=some x,fun i H x H'=>H'=H/\∀ xs,pC K H a xs->xs[i]?=some x,fun i H=>∃ xs,pC K H a xs/\xs.length<=i⟩
def Itt (K:aa) (a:af):It :=
 ⟨fun i H=>∃ xs x,lz K H a xs/\xs[i]?=some x,fun i H x H'=>H'=H/\∀ xs,lz K H a xs->xs[i]?=some x,fun i H=>∃ xs,lz K H a xs/\xs.length<=i⟩
def Wl (lo:Int) (n:Nat):It:=⟨fun i _=>i<n,fun i H x H'=>H'=H/\x=.int (lo+i),fun i _=>n<=i⟩
theorem Mo {P:aV}{w:bi}{K:aa}{tg:bc} (a it:af):DN P w K tg (Itl K a) [it] it (fun i h=>h.IsListIter it a i) where
 mem:=by simp
 obj:=fun i h f b j=>by
  have e:b=it:=by simpa using j
  subst e
  obtain ⟨o,e,c,d⟩:=f
  exact ⟨o,e,fun v z=>by rw [d] at z;cases z⟩
 keep:=fun i h h' f k=>f.at fun o e=>k it (by simp) o e
 item:=by
  intro X G y q T i g s σ H E I n f Q
  subst G y q
  obtain ⟨xs,x,m,S⟩:=Q
  obtain ⟨A,N,p,Y⟩:=I.list m
  obtain ⟨u,hu,ru⟩:=N.get S
  obtain ⟨O,M,f2,L,t,B⟩:=n it (by simp)
  refine wpAny_pyNext_list_item f p.isList (x:=u) (by simpa using hu) fun h' l sb=>?_
  have I1:bH X g σ H { s with heap:=h' }:=I.turned (t':=s.toks) (fun b o j e=>(sb.2 b j).trans e) O M L t B
  obtain ⟨o,e,c,d⟩:=id l
  exact ⟨u,rfl,Kw (s:={ s with heap:=h' }) e c d (by decide) ⟨x,H,I1,ru,⟨rfl,fun ys U=>by rw [I.list_inj U m];exact S⟩,l,fun b j=>(n b j).1⟩⟩
 done:=by
  intro X G y q T i g s σ H E I n f Q
  subst G y q
  obtain ⟨xs,m,S⟩:=Q
  obtain ⟨A,N,p,Y⟩:=I.list m
  obtain ⟨O,M,f2,L,t,B⟩:=n it (by simp)
  have hl:=N.length
  exact wpAny_pyNext_list_end (I.ok.hd T) f p.isList (by simp;omega) fun h' eb=>⟨rfl,I.turned (t':=s.toks) (fun b o j e=>eb b o j e) O M L t B⟩
 self:=fun _ _ _ _ _ f h=>wpAny_pyIter_listiter f h
theorem II {P:aV}{w:bi}{K:aa}{tg:bc} (a it:af):DN P w K tg (Itt K a) [it] it (fun i h=>h.IsTupleIter it a i) where
 mem:=by simp
 obj:=fun i h f b l=>by
  have e:b=it:=by simpa using l
  subst e
  obtain ⟨o,e,c,d⟩:=f
  exact ⟨o,e,fun v z=>by rw [d] at z;cases z⟩
 keep:=fun i h h' f k=>f.at fun o e=>k it (by simp) o e
 item:=by
  intro X G A t T i g s σ H E I q f Q
  subst G A t
  obtain ⟨xs,x,n,S⟩:=Q
  obtain ⟨j,N,p,Y⟩:=I.tuple n
  obtain ⟨u,hu,ru⟩:=N.get S
  obtain ⟨O,M,f2,L,y,B⟩:=q it (by simp)
  refine wpAny_pyNext_tuple_item f (show s.heap.IsTuple a j.toArray from p) (x:=u) (by simpa using hu) fun h' m sb=>?_
  have I1:bH X g σ H { s with heap:=h' }:=I.turned (t':=s.toks) (fun b o l e=>(sb.2 b l).trans e) O M L y B
  obtain ⟨o,e,c,d⟩:=id m
  exact ⟨u,rfl,Kw (s:={ s with heap:=h' }) e c d (by decide) ⟨x,H,I1,ru,⟨rfl,fun ys U=>by rw [I.tuple_inj U n];exact S⟩,m,fun b l=>(q b l).1⟩⟩
 done:=by
  intro X G A t T i g s σ H E I q f Q
  subst G A t
  obtain ⟨xs,n,S⟩:=Q
  obtain ⟨j,N,p,Y⟩:=I.tuple n
  obtain ⟨O,M,f2,L,y,B⟩:=q it (by simp)
  have hl:=N.length
  exact wpAny_pyNext_tuple_end (I.ok.hd T) f (show s.heap.IsTuple a j.toArray from p) (by simp;omega) fun h' eb=>⟨rfl,I.turned (t':=s.toks) (fun b o l e=>eb b o l e) O M L y B⟩
 self:=fun _ _ _ _ _ f h=>wpAny_pyIter_tupleiter f h
theorem IJ {P:aV}{w:bi}{K:aa}{tg:bc} (it:af) (lo:Int) (n:Nat):DN P w K tg (Wl lo n) [it] it (fun i h=>Fg h it (lo+(i:Nat)*1) ((n:Int)-(i:Nat)) 1) where
 mem:=by simp
 obj:=fun i h a b d=>by
  have e:b=it:=by simpa using d
  subst e
  exact ⟨_,a,fun v z=>by
   have N:Data.fields _=Data.cell v:=z
   cases N⟩
 keep:=fun i h h' a k=>k it (by simp) _ a
 item:=by
  intro X u p j m i c s σ H E I g a B
  subst u p j
  obtain ⟨A,y,M,x,l,q⟩:=g it (by simp)
  have W:=Walks.range (prog:=X.prog) (w:=X.w) (I.ok.hd m) it lo 1 n
  refine W.item i s _ _ B a fun v h' G Q f L=>?_
  obtain ⟨t,rfl⟩:=Q
  have S:bH X c σ H { s with heap:=h',toks:=G }:=I.turned (fun b o d e=>L b o (by simpa using d) e) A y x l q
  refine ⟨_,rfl,Kw (s:={ s with heap:=h',toks:=G }) (n:="range_iterator") f rfl rfl (by decide) ⟨.int (lo+i),H,S,⟨t,?_⟩,⟨rfl,rfl⟩,f,fun b d=>(g b d).1⟩⟩
  rw [Int.mul_one]
 done:=by
  intro X u p j m i c s σ H E I g a B
  subst u p j
  obtain ⟨A,y,M,x,l,q⟩:=g it (by simp)
  exact O0 (I.ok.hd m) a (by have:n<=i:=B;omega) fun h' O=>⟨rfl,I.turned (t':=s.toks) (fun b o d e=>O b o d e) A y x l q⟩
 self:=fun _ _ _ _ _ a h=>O1 a h
end L2
namespace L2
open PySem PySem.Spec PyProof.Rows
section
variable {X:Cx}{tg:bc}
def Ya (K:aa) (c:TE):TI:=fun σ H R=>c σ H fun x b=>∃ a,x=.ref a/\(∃ xs,pC K b a xs)/\R (Itl K a) b
def q0q (K:aa) (c:TE):TI:=fun σ H R=>c σ H fun x b=>∃ a,x=.ref a/\(∃ xs,lz K b a xs)/\R (Itt K a) b
theorem zy {l:bc}{i:TE} (k:PE X l i):PI X tg l (Ya X.K i):=by
 intro d s σ H R I h
 refine fE (k d s σ H _ I h) fun v f c=>?_
 obtain ⟨x,j,g,w,n⟩:=c
 obtain ⟨a,e,⟨xs,m⟩,q⟩:=n
 subst e
 cases w
 obtain ⟨t,z,p,y⟩:=g.list m
 refine lU p.isList ?_
 refine ⟨f.heap.objs.size,[f.heap.objs.size],_,_,j,rfl,g.kept (t':=f.toks) fun b o e=>ai _ e,Mo a _,⟨_,aD _ rfl,rfl,rfl⟩,fun b u=>?_,q⟩
 have e:b=f.heap.objs.size:=by simpa using u
 subst e
 exact g.fpOk (aA _) (g.hok.fresh (aA _))
theorem Ot {l:bc}{j:TE} (m:PE X l j):PI X tg l (q0q X.K j):=by
 intro d s σ H R I h
 refine fE (m d s σ H _ I h) fun v c f=>?_
 obtain ⟨x,k,g,w,t⟩:=f
 obtain ⟨a,e,⟨xs,n⟩,q⟩:=t
 subst e
 cases w
 obtain ⟨i,z,p,y⟩:=g.tuple n
 refine gQ (show c.heap.IsTuple a i.toArray from p) ?_
 refine ⟨c.heap.objs.size,[c.heap.objs.size],_,_,k,rfl,g.kept (t':=c.toks) fun b o e=>ai _ e,II a _,⟨_,aD _ rfl,rfl,rfl⟩,fun b u=>?_,q⟩
 have e:b=c.heap.objs.size:=by simpa using u
 subst e
 exact g.fpOk (aA _) (g.hok.fresh (aA _))
theorem Ou {c:List (af×Obj)}{σ:St}{H:Hp}{s:ak}{R:It->Hp->Prop}{E:ae->ak->Prop}{lo a:Int}{t u v:Tok}{f:Nat} (I:bH X c σ H s) (g:-(2 ^ 62)<=lo) (i:lo<2 ^ 62) (j:-(2 ^ 62)<=a) (k:a<2 ^ 62)
  (q:R (Wl lo (a-lo).toNat) H):av (aF X.prog X.w) X.A (xE (.ref s.heap.objs.size)) (PIE X c σ tg R) E { s with heap:=s.heap.push { cls:=.type "range",data:=.fields #[.int lo t,.int a u,.int 1 v] },toks:=f }:=by
 refine wpAny_pyIter_range (IsRange.new ..) (small_one g i j k) ?_
 have d:bH X c σ H { s with heap:=s.heap.push { cls:=.type "range",data:=.fields #[.int lo t,.int a u,.int 1 v] },toks:=f }:=I.kept fun b o e=>ai _ e
 refine ⟨(s.heap.push { cls:=.type "range",data:=.fields #[.int lo t,.int a u,.int 1 v] }).objs.size,[(s.heap.push { cls:=.type "range",data:=.fields #[.int lo t,.int a u,.int 1 v] }).objs.size],_,_,H,rfl,
  d.kept (t':=f) fun b o e=>ai _ e,IJ _ lo (a-lo).toNat,?_,fun b l=>?_,q⟩
 ·have h:lo+((0:Nat):Int)*1=lo:=by simp
  have m:(((a-lo).toNat:Nat):Int)-((0:Nat):Int)=jr lo a 1:=by rw [rangeSize_one];split<;>omega
  show Fg _ _ (lo+((0:Nat):Int)*1) ((((a-lo).toNat:Nat):Int)-((0:Nat):Int)) 1
  rw [h,m]
  exact aD _ rfl
 ·have e:b=(s.heap.push { cls:=.type "range",data:=.fields #[.int lo t,.int a u,.int 1 v] }).objs.size:=by simpa using l
  subst e
  exact d.fpOk (aA _) (d.hok.fresh (aA _))
def Yb (b:TA):TI:=fun σ H R=>b σ H fun vs a=>∃ j:Int,vs=[.int j]/\-(2 ^ 62)<=j/\j<2 ^ 62/\R (Wl 0 j.toNat) a
theorem Cr {a:bc}{f:TA}{p c:Pos} (o:Gl X "range") (k:X.mg "range"=none) (g:PA X [a] f) (hs:ao [a] X.env=[(false,bG a X.env)]:=by rfl):PI X tg (.Call (.Name "range" p) [a] [] c) (Yb f):=by
 intro b s σ H R I h
 refine Call_ (v7 I o k boot_range (fu (fE (g c b s σ H _ I h) fun us u ⟨vs,v,n,l,d⟩=>?_) hs rfl))
 obtain ⟨j,e,d,m,q⟩:=d
 subst e
 cases l with
 |cons r i =>
  cases i
  obtain ⟨t,rfl⟩:=r
  exact call_range_1 (Ou n (by omega) (by omega) d m (by simpa using q))
inductive TFI (g:TG) (tb:TS) (D:uG) (σ:St) (J:It) (H1:Hp):Prop
 |mk (W:Nat->Nat->St->Hp->Prop) (w0:∃ m,W 0 m σ H1) (turn:∀ i m σ H,W i m σ H ->
 (J.stop i H/\D.nx σ H)\/(J.go i H/\∃ N:St->Hp->Prop,(∀ σ' H',N σ' H'->∃ m',m'<m/\W (i+1) m' σ' H')/\∀ x H',J.yld i H x H'->g x σ H' fun σ2 H2=>tb { D with nx:=N,ct:=N,bk:=D.nx } σ2 H2)):TFI g tb D σ J H1
def q0r (a:TI) (g:TG) (tb:TS):TS:=fun D σ H=>a σ H (TFI g tb D σ)
def zY (a:List af) (h:bA):List (af×Obj):=a.filterMap fun b=>(h.get? b).map fun o=>(b,o)
theorem l7 {a:List af}{h:bA}{b:af}{o:Obj} (c:b∈a) (e:h.get? b=some o):(b,o)∈zY a h:=List.mem_filterMap.mpr ⟨b,c,by rw [e];rfl⟩
theorem Ct {a:List af}{h:bA}{p:af×Obj} (d:p∈zY a h):p.1∈a/\h.get? p.1=some p.2:=by
 obtain ⟨b,f,e⟩:=List.mem_filterMap.mp d
 cases q:h.get? b with
 |none=>rw [q] at e;cases e
 |some o =>
  rw [q] at e
  have c:(b,o)=p:=bO e
  subst c
  exact ⟨f,q⟩
theorem bH.pinned {a:List (af×Obj)}{σ:St}{H:Hp}{s:ak}{c:List af} (I:bH X a σ H s) (l:∀ b∈c,wu X a H b) (ho:∀ b∈c,∃ o,s.heap.get? b=some o/\∀ v,o.data≠.cell v):bH X (a++zY c s.heap) σ H s :=
 I.pins_of fun p j=>(List.mem_append.mp j).elim (fun z=>I.pin p (ba _ z)) fun z=>by
  obtain ⟨g,e⟩:=Ct z
  obtain ⟨i,h,k,_⟩:=l p.1 g
  obtain ⟨o,f,d⟩:=ho p.1 g
  rw [e] at f;cases f
  exact ⟨e,i,h,k,d⟩
theorem bH.unpinned {a pl:List (af×Obj)}{σ:St}{H:Hp}{s:ak} (I:bH X (a++pl) σ H s):bH X a σ H s:=I.pins_of fun p b=>I.pin p (ba _ (my _ b))
theorem Ov {iter:bc}{y:List c9}{wi:TI}{g:TG}{tb:TS}{a2:Pos} (P:PassesOwn (aF X.prog X.w) X.A X.env X.xe) (hc:X.calm=true) (hi:PI X tg iter wi) (hg:PG X tg g) (j:zw X y tb)
  (hs:∀ x,e8 iter X.env x=pure x:=by intro _;rfl):PS X (.For tg iter y [] a2) (q0r wi g tb):=by
 intro c s σ H D I h
 refine wpAny_For (fE (hi c s σ H _ I h) fun v s1 h1=>fE h1 fun a3 s2 h2=>?_) hs
 obtain ⟨it,G,tn,J,H2,e,I2,T,a0,E,W,⟨m0,w0⟩,M⟩:=h2
 subst e
 have t:∀ {H':Hp},(∀ b∈G,H' b=none)->∀ b∈G,wu X c H' b:=fun hn b j=>⟨hn b j,(E b j).f1,(E b j).f2,(E b j).f3,(E b j).f4,(E b j).f5⟩
 refine codeAny_forLoop_any (FLI X c tn G W) ?_ m0 ⟨0,σ,H2,I2,a0,fun b j=>(E b j).1,w0⟩
 rintro n s3 ⟨i,p,S,I3,Q,O,w3⟩
 rcases M i n p S w3 with ⟨L,qn⟩|⟨go,N,hN,step⟩
 ·refine ji P (fE (T.done X rfl rfl rfl hc i c s3 p S X.xe I3 (t O) Q L) fun r s4 ⟨hr,I4⟩=>?_)
  subst hr
  exact oR ⟨p,S,I4,qn⟩
 ·refine ji P (fE (T.item X rfl rfl rfl hc i c s3 p S X.xe I3 (t O) Q go) fun r s4 ⟨u,hr,h4⟩=>?_)
  subst hr
  refine ji P (fE h4 fun _ s5 ⟨x,H5,I5,r5,y5,B,a1⟩=>?_)
  have U:=I5.pinned (t a1) (T.obj _ _ B)
  refine ji P (fE (hg _ s5 p H5 x u _ U r5 (step x H5 y5)) fun _ s6 ⟨Y,H6,I6,q6⟩=>?_)
  refine ji P (fE (j _ s6 Y H6 _ I6 q6) fun f s7 z=>?_)
  have l:∀ {a:St}{q:Hp},bH X (c++zY G s5.heap) a q s7->N a q->∃ m,m<n/\FLI X c tn G W m s7:=fun {a q} k K=>by
   obtain ⟨m',hm,w7⟩:=hN a q K
   refine ⟨m',hm,i+1,a,q,k.unpinned,T.keep _ _ _ B fun b j o e=>(k.pin (b,o) (ba _ (ba _ (l7 j e)))).1,fun b j=>?_,w7⟩
   obtain ⟨o,e,d⟩:=T.obj _ _ B b j
   exact (k.pin (b,o) (ba _ (ba _ (l7 j e)))).2.1
  cases f with
  |next=>obtain ⟨a,q,k,K⟩:=z;exact l k K
  |cont=>obtain ⟨a,q,k,K⟩:=z;exact l k K
  |brk=>obtain ⟨a,q,k,z⟩:=z;exact ⟨a,q,k.unpinned,z⟩
  |ret v=>obtain ⟨x7,a,q,k,r7,z⟩:=z;exact ⟨x7,a,q,k.unpinned,r7,z⟩
end
theorem Mp {lo:Int}{n:Nat}{g:TG}{tb:TS}{D:uG}{σ:St}{H:Hp} (a:Nat->St->Hp->Prop) (k:a 0 σ H)
  (hs:∀ i σ H,i<n->a i σ H->g (.int (lo+i)) σ H fun b d=>tb { D with nx:=a (i+1),ct:=a (i+1),bk:=D.nx } b d) (j:∀ σ H,a n σ H->D.nx σ H) :
  ∃ W:Nat->Nat->St->Hp->Prop,(∃ m,W 0 m σ H)/\∀ i m σ H,W i m σ H ->
   ((Wl lo n).stop i H/\D.nx σ H)\/((Wl lo n).go i H/\∃ N:St->Hp->Prop,(∀ σ' H',N σ' H'->∃ f,f<m/\W (i+1) f σ' H')/\∀ x H',(Wl lo n).yld i H x H'->g x σ H' fun b d=>tb { D with nx:=N,ct:=N,bk:=D.nx } b d):=by
 refine ⟨fun i m σ H=>m=n-i/\i<=n/\a i σ H,⟨n,by simp,cy _,k⟩,?_⟩
 rintro i m σ H ⟨rfl,l,p⟩
 by_cases c:i<n
 ·refine .inr ⟨c,a (i+1),fun σ' H' h=>⟨n-(i+1),by omega,rfl,c,h⟩,fun x H' y=>?_⟩
  obtain ⟨e,y⟩:=y
  subst e y
  exact hs i σ _ c p
 ·have e:i=n:=by omega
  subst e
  exact .inl ⟨aA _,j σ H p⟩
end L2
namespace L2
open PySem PySem.Spec PyProof.Rows
abbrev R2:=V->V->Hp->VK->Prop
def qu (X:Cx) (f:ae->ae->Sem ae) (r:R2):Prop :=
 ∀ (a:List (af×Obj)) (s:ak) (σ:St) (H:Hp) (x y:V) (v u:ae) (Q:VK),bH X a σ H s->dq x v->dq y u->r x y H Q ->
  av (aF X.prog X.w) X.A (f v u) (EP X a σ Q) X.xe s
def UnR (X:Cx) (f:ae->Sem ae) (r:V->Hp->VK->Prop):Prop :=
 ∀ (a:List (af×Obj)) (s:ak) (σ:St) (H:Hp) (x:V) (v:ae) (Q:VK),bH X a σ H s->dq x v->r x H Q ->
  av (aF X.prog X.w) X.A (f v) (EP X a σ Q) X.xe s
def jX (X:Cx) (f:ae) (r:List V->Hp->VK->Prop):Prop :=
 ∀ (a:List (af×Obj)) (s:ak) (σ:St) (H:Hp) (xs:List V) (us:List ae) (Q:VK),bH X a σ H s->cS xs us->r xs H Q ->
  av (aF X.prog X.w) X.A (call f us) (EP X a σ Q) X.xe s
def q0s (X:Cx) (r:V->Hp->(Bool->Hp->Prop)->Prop):Prop :=
 ∀ (a:List (af×Obj)) (s:ak) (σ:St) (H:Hp) (x:V) (v:ae) (Q:Bool->Hp->Prop),bH X a σ H s->dq x v->r x H Q ->
  av (aF X.prog X.w) X.A (N_ v) (TP X a σ Q) X.xe s
def XS (r:R2) (c tb:TE):TE:=fun σ H Q=>c σ H fun x b=>tb σ b fun y a=>r x y a Q
def tUn (r:V->Hp->VK->Prop) (b:TE):TE:=fun σ H Q=>b σ H fun x a=>r x a Q
inductive rII (C:Int->Int->Prop) (g:Int->Int->V) (x:V) (y:V) (H:Hp) (Q:VK):Prop
 |mk (i j:_) (h0:x=.int i) (h1:y=.int j) (h2:C i j) (h3:Q (g i j) H):rII C g x y H Q
def rI (C:Int->Int->Prop) (g:Int->Int->V):R2:=rII C g
inductive Yc (g:Int->Int->V) (x:V) (y:V) (H:Hp) (Q:VK):Prop
 |mk (i j:_) (h0:x=.int i) (h1:y=.int j) (h2:Q (g i j) H):Yc g x y H Q
def Sr (g:Int->Int->V):R2:=Yc g
inductive rUI (g:Int->V) (x:V) (H:Hp) (Q:VK):Prop
 |mk (i:_) (h0:x=.int i) (h1:Q (g i) H):rUI g x H Q
def rU (g:Int->V):V->Hp->VK->Prop:=rUI g
section
variable {X:Cx}{a b c:bc}{ta tb tc:TE}{pos:Pos}
theorem Wm (o:PE X a ta) (t:PE X b tb) {d:List (af×Obj)}{s:ak}{σ:St}{H:Hp}{R:V->V->Hp->Prop} (I:bH X d σ H s)
  (h:ta σ H fun x m=>tb σ m fun y e=>R x y e) {Q:ae->ak->Prop}{f:ae->ae->Sem ae}
  (q:∀ v u l x y e,bH X d σ e l->dq x v->dq y u->R x y e->av (aF X.prog X.w) X.A (f v u) Q X.xe l) :
  av (aF X.prog X.w) X.A (bG a X.env) (fun v g=>av (aF X.prog X.w) X.A (bG b X.env) (fun u j=>av (aF X.prog X.w) X.A (f v u) Q X.xe j) X.xe g) X.xe s:=by
 refine fE (o d s σ H _ I h) fun v n i=>?_
 obtain ⟨x,m,K,B,p⟩:=i
 refine fE (t d n σ m _ K p) fun u l k=>?_
 obtain ⟨y,e,z,G,E⟩:=k
 exact q v u l x y e z B G E
theorem V1 {e:Operator}{r:R2} (ho:qu X (fG e) r) (g:PE X a ta) (i:PE X b tb):PE X (.BinOp a e b pos) (XS r ta tb):=by
 intro d s σ H Q I h
 exact wpAny_BinOp (Wm g i I h fun v u m x y k j f l q=>ho d m σ k x y v u Q j f l q)
theorem Yd {f:UnaryOp}{r:V->Hp->VK->Prop} (ho:UnR X (unaryOp f) r) (k:PE X a ta):PE X (.UnaryOp f a pos) (tUn r ta):=by
 intro d s σ H Q I h
 exact UnaryOp_ (fE (k d s σ H _ I h) fun v g e=>by obtain ⟨x,i,m,j,l⟩:=e;exact ho d g σ i x v Q m j l)
theorem opI {f:ae->ae->Sem ae}{C:Int->Int->Prop}{g:Int->Int->Int}
  (d:∀ (i j:Int) (t u:Tok) (s:ak) (Q:ae->ak->Prop) (E:ae->ak->Prop),C i j->Q (.int (g i j) s.toks) { s with toks:=s.toks+1 }->av (aF X.prog X.w) X.A (f (.int i t) (.int j u)) Q E s) :
  qu X f (rI C fun i j=>.int (g i j)):=by
 intro e s σ H x y v u Q I k m h
 obtain ⟨i,j,rfl,rfl,l,q⟩:=h
 obtain ⟨t,rfl⟩:=k
 obtain ⟨t',rfl⟩:=m
 exact d i j t t' s _ _ l ⟨.int (g i j),H,I.tok _,⟨_,rfl⟩,q⟩
theorem Ye {f:ae->ae->Sem ae}{g:Int->Int->Int}
  (d:∀ (i j:Int) (t u:Tok) (s:ak) (Q:ae->ak->Prop) (E:ae->ak->Prop),Q (.int (g i j) s.toks) { s with toks:=s.toks+1 }->av (aF X.prog X.w) X.A (f (.int i t) (.int j u)) Q E s) :
  qu X f (Sr fun i j=>.int (g i j)):=by
 intro e s σ H x y v u Q I k l h
 obtain ⟨i,j,rfl,rfl,q⟩:=h
 obtain ⟨t,rfl⟩:=k
 obtain ⟨t',rfl⟩:=l
 exact d i j t t' s _ _ ⟨.int (g i j),H,I.tok _,⟨_,rfl⟩,q⟩
theorem Wn {f:ae->ae->Sem ae}{g:Int->Int->Bool}
  (d:∀ (i j:Int) (t u:Tok) (s:ak) (Q:ae->ak->Prop) (E:ae->ak->Prop),Q (.bool (g i j)) s->av (aF X.prog X.w) X.A (f (.int i t) (.int j u)) Q E s) :
  qu X f (Sr fun i j=>.bl (g i j)):=by
 intro e s σ H x y v u Q I k l h
 obtain ⟨i,j,rfl,rfl,q⟩:=h
 obtain ⟨t,rfl⟩:=k
 obtain ⟨t',rfl⟩:=l
 exact d i j t t' s _ _ ⟨.bl (g i j),H,I,rfl,q⟩
def q0t (i j:Int):Prop:=0<j/\j<1073741824
def Wo (i j:Int):Prop:=(-(2 ^ 64)<i/\i<2 ^ 64)\/(-(2 ^ 64)<j/\j<2 ^ 64)
theorem Wo.ok {i j:Int} (h:Wo i j):IntMulOk i j:=by
 rcases h with ⟨d,e⟩|⟨d,e⟩
 ·exact .of_left (intBits_le_64 d e)
 ·exact .of_right (intBits_le_64 d e)
theorem Wp:qu X (fG .Add) (Sr fun i j=>.int (i+j)):=Ye fun _ _ _ _ _ _ _ q=>add_int q
theorem Wq:qu X (fG .Sub) (Sr fun i j=>.int (i-j)):=Ye fun _ _ _ _ _ _ _ q=>sub_int q
theorem Wr:qu X (fG .Mult) (rI Wo fun i j=>.int (i*j)):=opI fun _ _ _ _ _ _ _ d q=>mul_int q d.ok
theorem Ss:qu X (fG .FloorDiv) (rI q0t fun i j=>.int (i / j)):=opI fun i j _ _ _ _ _ d q=>by
 have e:(0:Int)<j:=d.1
 have f:j<1073741824:=d.2
 exact floordiv_int (by omega) (by rw [Int.fdiv_eq_ediv_of_nonneg i (by omega)];exact q) (.inl (DE (by omega)))
theorem Wt:qu X (fG .Mod) (rI (fun _ j=>0<j) fun i j=>.int (i % j)):=opI fun i j _ _ _ _ _ d q=>by
 have e:(0:Int)<j:=d
 exact mod_int' (by omega) (by rw [Int.fmod_eq_emod_of_nonneg i (by omega)];exact q)
theorem unI {f:ae->Sem ae}{g:Int->Int}
  (d:∀ (i:Int) (t:Tok) (s:ak) (Q:ae->ak->Prop) (E:ae->ak->Prop),Q (.int (g i) s.toks) { s with toks:=s.toks+1 }->av (aF X.prog X.w) X.A (f (.int i t)) Q E s) :
  UnR X f (rU fun i=>.int (g i)):=by
 intro e s σ H x v Q I j h
 obtain ⟨i,rfl,q⟩:=h
 obtain ⟨t,rfl⟩:=j
 exact d i t s _ _ ⟨.int (g i),H,I.tok _,⟨_,rfl⟩,q⟩
theorem Wu:UnR X (unaryOp .USub) (rU fun i=>.int (-i)):=unI fun _ _ _ _ _ q=>neg_int q
end
def q0u:V->V->Bool
 |.non,.non=>true | .non,.int _=>true | .int _,.non=>true | .non,.bl _=>true | .bl _,.non=>true | .non,.str _=>true | .str _,.non=>true
 |.int _,.int _=>true | .bl _,.bl _=>true | .str _,.str _=>true | .byt _,.byt _=>true
 |.int _,.str _=>true | .str _,.int _=>true | .bl _,.str _=>true | .str _,.bl _=>true
 |_,_=>false
def rNe:R2:=fun x y H Q=>q0u x y=true/\Q (.bl (!decide (x=y))) H
theorem Su {i j:Int}:decide (V.int i=V.int j)=(i==j):=by
 rw [iO]
 simp
theorem Wv {i j:Bool}:decide (V.bl i=V.bl j)=(i==j):=by
 rw [iO]
 simp
theorem Sv {i j:Str}:decide (V.str i=V.str j)=(i==j):=by
 rw [iO]
 simp
theorem Sw {i j:Array UInt8}:decide (V.byt i=V.byt j)=(i.toList==j.toList):=by
 rw [iO]
 cases i
 cases j
 simp
section
variable {X:Cx}{a b c:bc}{ta tb tc:TE}{pos:Pos}
theorem ip {d:List (af×Obj)}{σ:St}{H:Hp}{s:ak}{Q:VK}{k f:Bool} (I:bH X d σ H s) (q:Q (.bl k) H) (e:k=f):EP X d σ Q (.bool f) s:=by
 subst e
 exact ⟨.bl k,H,I,rfl,q⟩
theorem Yf:qu X (bK .NotEq) rNe:=by
 intro f s σ H x y v u Q I e d h
 obtain ⟨hs,q⟩:=h
 cases x with
 |non =>
  cases e
  cases y with
  |non=>cases d;exact PySem.EqNone.ne_none_none (ip I q (by simp))
  |bl j=>cases d;exact PySem.EqNone.ne_none_bool (ip I q (by simp))
  |int j=>obtain ⟨t',rfl⟩:=d;exact PySem.EqNone.ne_none_int (ip I q (by simp))
  |str j=>obtain ⟨t',rfl⟩:=d;exact PySem.EqNone.ne_none_str (ip I q (by simp))
  |_=>exact absurd (show false=true from hs) aQ
 |bl i =>
  cases e
  cases y with
  |non=>cases d;exact PySem.EqNone.ne_bool_none (ip I q (by simp))
  |bl j=>cases d;exact ne_bool (ip I q (congrArg not Wv))
  |str j=>obtain ⟨t',rfl⟩:=d;exact PySem.EqMixed.ne_bool_str (ip I q (by simp))
  |_=>exact absurd (show false=true from hs) aQ
 |int i =>
  obtain ⟨t,rfl⟩:=e
  cases y with
  |non=>cases d;exact PySem.EqNone.ne_int_none (ip I q (by simp))
  |int j=>obtain ⟨t',rfl⟩:=d;exact ne_int (ip I q (congrArg not Su))
  |str j=>obtain ⟨t',rfl⟩:=d;exact PySem.EqMixed.ne_int_str (ip I q (by simp))
  |_=>exact absurd (show false=true from hs) aQ
 |str i =>
  obtain ⟨t,rfl⟩:=e
  cases y with
  |non=>cases d;exact PySem.EqNone.ne_str_none (ip I q (by simp))
  |bl j=>cases d;exact PySem.EqMixed.ne_str_bool (ip I q (by simp))
  |int j=>obtain ⟨t',rfl⟩:=d;exact PySem.EqMixed.ne_str_int (ip I q (by simp))
  |str j=>obtain ⟨t',rfl⟩:=d;exact ne_str (ip I q (congrArg not Sv))
  |_=>exact absurd (show false=true from hs) aQ
 |byt i =>
  obtain ⟨t,rfl⟩:=e
  cases y with
  |byt j=>obtain ⟨t',rfl⟩:=d;exact PySem.W.ne_bytes (ip I q (congrArg not Sw))
  |_=>exact absurd (show false=true from hs) aQ
 |_=>cases y<;>exact absurd (show false=true from hs) aQ
theorem Yg:qu X (bK .Lt) (Sr fun i j=>.bl (decide (i<j))):=Wn fun _ _ _ _ _ _ _ q=>lt_int q
theorem Yh:qu X (bK .LtE) (Sr fun i j=>.bl (decide (i<=j))):=Wn fun _ _ _ _ _ _ _ q=>le_int q
theorem Yi:qu X (bK .Gt) (Sr fun i j=>.bl (decide (j<i))):=Wn fun _ _ _ _ _ _ _ q=>gt_int q
theorem Mq:qu X (bK .Lt) (fun x y H Q=>∃ i j,x=.str i/\y=.str j/\Q (.bl (decide (i.cps.toList<j.cps.toList))) H):=by
 intro d s σ H x y v u Q I e f h
 obtain ⟨i,j,rfl,rfl,q⟩:=h
 obtain ⟨t,rfl⟩:=e
 obtain ⟨t',rfl⟩:=f
 exact lt_str (ip I q rfl)
theorem Ww:qu X (bK .Is) (fun x y H Q=>y=.non/\Q (.bl (decide (x=.non))) H):=by
 intro e s σ H x y v u Q I d f h
 obtain ⟨rfl,q⟩:=h
 cases f
 refine is_none_gen (ip I q ?_)
 cases x<;>first
  |(cases d;rfl)
  |(obtain ⟨t,rfl⟩:=d;rfl)
theorem Sx:qu X (bK .IsNot) (fun x y H Q=>y=.non/\Q (.bl (!decide (x=.non))) H):=by
 intro e s σ H x y v u Q I d f h
 obtain ⟨rfl,q⟩:=h
 cases f
 refine isnot_none_gen (ip I q ?_)
 cases x<;>first
  |(cases d;rfl)
  |(obtain ⟨t,rfl⟩:=d;rfl)
theorem zZ (b:bc) {d:Ff} (h:d≠.In:=by decide) (e:d≠.NotIn:=by decide):fD d b=false:=by
 have g:(d==CmpOp.In)=false:=by cases d<;>first|rfl|exact absurd rfl h
 have f:(d==CmpOp.NotIn)=false:=by cases d<;>first|rfl|exact absurd rfl e
 cases b<;>simp [fD,g,f]
theorem Kx {e:Ff}{r:R2} (ho:qu X (bK e) r) (g:PE X a ta) (i:PE X b tb) (j:fD e b=false):PE X (.Compare a [e] [b] pos) (XS r ta tb):=by
 intro d s σ H Q I h
 exact wpAny_Compare1 (Wm g i I h fun v u n x y l k f m q=>ho d n σ l x y v u Q k f m q) j
def V2 (t:TE):TT:=fun σ H Q=>t σ H fun x H'=>∃ k,x=.bl k/\Q k H'
theorem DO {f:Ff}{r:R2} (ho:qu X (bK f) r) (l:PE X a ta) (n:PE X b tb) (p:fD f b=false):PT X (.Compare a [f] [b] pos) (V2 (XS r ta tb)):=by
 intro d s σ H Q I h
 refine RJ (fE (l d s σ H _ I h) fun v g ⟨x,i,K,w,m⟩=>fE (n d g σ i _ K m) fun u A ⟨y,t,q,E,B⟩ =>
  fE (ho d A σ t x y v u _ q w E B) fun c M ⟨z,o,j,G,k,e,L⟩=>?_) p
 subst e
 cases G
 exact e7 ⟨o,j,L⟩
def IK (r h:R2) (ta tb tc:TE):TE:=fun σ H Q=>ta σ H fun x f=>tb σ f fun y e=>r x y e fun z d=>∃ k,z=.bl k /\
 (if k=true then tc σ d fun i g=>h y i g Q else Q (.bl false) d)
theorem Ow {j g:Ff}{r o:R2} (ho:qu X (bK j) r) (l:qu X (bK g) o) (E:PE X a ta) (M:PE X b tb) (G:PE X c tc)
  (O:NI [j,g] [b,c]=false:=by with_unfolding_all rfl):PE X (.Compare a [j,g] [b,c] pos) (IK r o ta tb tc):=by
 intro f s σ H Q I h
 refine Compare_chain (fE (E f s σ H _ I h) fun v t ⟨x,A,I1,U,K⟩=>chain_link (fE (M f t σ A _ I1 K) fun u s2 ⟨y,S,P,p,q2⟩ =>
  fE (ho f s2 σ S x y v u _ P U p q2) fun d Y ⟨z,n,m,r3,k,e,q⟩=>?_)) O
 subst e
 cases r3
 refine e7 ?_
 cases k with
 |false=>exact ite_ff ⟨.bl false,n,m,rfl,q⟩
 |true=>exact ite_tt (chain_last (fE (G f Y σ n _ m q) fun w' w i=>by obtain ⟨T,B,I4,N,L⟩:=i;exact l f w σ B y T u w' Q I4 p N L))
theorem Ox {i g:Ff}{r n:R2} (ho:qu X (bK i) r) (j:qu X (bK g) n) (B:PE X a ta) (L:PE X b tb) (E:PE X c tc)
  (O:NI [i,g] [b,c]=false:=by with_unfolding_all rfl):PT X (.Compare a [i,g] [b,c] pos) (V2 (IK r n ta tb tc)):=by
 intro f s σ H Q I h
 refine isTrue_chain (fE (B f s σ H _ I h) fun v q ⟨x,w,I1,Y,G⟩=>test_link (fE (L f q σ w _ I1 G) fun u s2 ⟨y,S,P,o,q2⟩ =>
  fE (ho f s2 σ S x y v u _ P Y o q2) fun d s3 ⟨z,m,l,r3,k,e,p⟩=>?_)) O
 subst e
 cases r3
 refine e7 ?_
 cases k with
 |false =>
  obtain ⟨k',N,q'⟩:=p
  cases N
  exact ite_ff ⟨m,l,q'⟩
 |true =>
  refine ite_tt (test_last (fE (E f s3 σ m _ l p) fun w' t ⟨T,A,I4,M,K⟩=>fE (j f t σ A y T u w' _ I4 o M K) fun d' s5 ⟨z2,U,I5,r5,k2,e2,q5⟩=>?_))
  subst e2
  cases r5
  exact e7 ⟨U,I5,q5⟩
def Yj (K:aa) (x:V) (H:Hp) (k:Bool):Prop :=
 match x with
 |.non=>k=false
 |.bl b=>k=b
 |.int i=>k=(i != 0)
 |.str y=>y.length<=sizeLine/\k=((y.length:Int) != 0)
 |.byt y=>y.size<=sizeLine/\k=((y.size:Int) != 0)
 |.ref p=>(∃ xs,pC K H p xs/\k=!xs.isEmpty)\/(∃ xs,lz K H p xs/\k=!xs.isEmpty)\/∃ kvs,H p=some (.dK kvs)/\k=!kvs.isEmpty
 |_=>False
theorem IL {κ:Type}{kvs:List (κ×V)}{vs:List (κ×ae)} (r:KV kvs vs):(!vs.isEmpty)=!kvs.isEmpty:=by
 cases r<;>rfl
theorem z_ {xs:List V}{d:List ae} (r:cS xs d):(!d.toArray.isEmpty)=!xs.isEmpty:=by
 cases r<;>simp
theorem xR:(sizeLine:Nat)<2 ^ 63:=by rw [Fh];decide
theorem Wx:q0s X (fun x H Q=>∃ k,Yj X.K x H k/\Q k H):=by
 intro o s σ H x v Q I g h
 obtain ⟨k,e,q⟩:=h
 have A:=xR
 have hs:sizeLine=16777216:=Fh
 cases x with
 |non =>
  cases g
  have d:k=false:=e
  subst d
  exact truthy_none ⟨H,I,q⟩
 |bl b =>
  cases g
  have d:k=b:=e
  subst d
  exact e7 ⟨H,I,q⟩
 |int i =>
  obtain ⟨t,rfl⟩:=g
  have d:k=(i != 0):=e
  subst d
  exact PySem.P.truthy_int ⟨H,I,q⟩
 |str y =>
  obtain ⟨t,rfl⟩:=g
  obtain ⟨u,d⟩:y.length<=sizeLine/\k=((y.length:Int) != 0):=e
  subst d
  exact PySem.P.truthy_str (by omega) ⟨H,I.tok _,q⟩
 |byt y =>
  obtain ⟨t,rfl⟩:=g
  obtain ⟨u,d⟩:y.size<=sizeLine/\k=((y.size:Int) != 0):=e
  subst d
  exact PySem.W.truthy_bytes (by omega) ⟨H,I.tok _,q⟩
 |ref p =>
  cases g
  have d:(∃ xs,pC X.K H p xs/\k=!xs.isEmpty)\/(∃ xs,lz X.K H p xs/\k=!xs.isEmpty)\/∃ kvs,H p=some (.dK kvs)/\k=!kvs.isEmpty:=e
  rcases d with ⟨xs,j,d⟩|⟨xs,j,d⟩|⟨kvs,j,d⟩
  ·subst d
   obtain ⟨l,r,pl,n⟩:=I.list j
   have f:=r.length
   exact wpAny_truthy_list pl.isList (by simp only [aG];omega) ⟨H,I.tok _,by rw [z_ r];exact q⟩
  ·subst d
   obtain ⟨l,r,pl,n⟩:=I.tuple j
   have f:=r.length
   exact truthy_tuple pl (by simp only [aG];omega) ⟨H,I.tok _,by rw [z_ r];exact q⟩
  ·subst d
   obtain ⟨n,z,vs,r,m⟩:kvs.length<=sizeLine/\(p==i_)=false/\∃ vs,KV kvs vs/\s.heap.DictOf (dY X.prog X.w) p vs:=I.hok p _ j
   have f:kvs.length=vs.length:=pz r
   exact wpAny_truthy_dict z m (by omega) ⟨H,I.tok _,by rw [IL r];exact q⟩
 |_=>exact (show False from e).elim
theorem Oy (j:PE X a ta) (he:∀ d,xD a X.env d=(do let v <- d;j3 a.pos;kg [v] (N_ v))) :
  PT X a (fun σ H Q=>ta σ H fun x H'=>∃ k,Yj X.K x H' k/\Q k H'):=by
 intro e s σ H Q I h
 exact isTrue_plain (fE (j e s σ H _ I h) fun v g f=>by obtain ⟨x,i,n,m,l⟩:=f;exact Wx e g σ i x v Q n m l) (he _)
theorem IM:qu X (fG .Add) (fun x y H Q=>∃ i j,x=.str i/\y=.str j/\i.length+j.length<=sizeLine/\Q (.str (i++j)) H):=by
 intro d s σ H x y v u Q I e g h
 obtain ⟨i,j,rfl,rfl,f,q⟩:=h
 obtain ⟨t,rfl⟩:=e
 obtain ⟨t',rfl⟩:=g
 exact add_str (fun t' k=>⟨.str (i++j),H,I.tok _,⟨_,rfl⟩,q⟩) f
theorem mz {x:V}{us:List ae} (r:cS [x] us):∃ u,us=[u]/\dq x u:=by
 cases r with
 |cons d e=>cases e;exact ⟨_,rfl,d⟩
theorem Oz {x y:V}{us:List ae} (r:cS [x,y] us):∃ u d,us=[u,d]/\dq x u/\dq y d:=by
 cases r with
 |cons g e =>
  cases e with
  |cons f h=>cases h;exact ⟨_,_,rfl,g,f⟩
end
end L2
namespace L2
open PySem PySem.Spec PyProof.Rows
structure IN (h:bA) (x dx C:af) (mA:Str->Option ae):Prop where
 obj:h.get? x=some (gC C dx)
 ns:h.Ns1 dx mA
 ne:dx≠x
theorem Mr {h:bA}{f:af}{c:Str->Option ae} (n:h.Ns1 f c):∃ g,h.get? f=some g/\∀ name,sf name g=some (c name):=by
 obtain ⟨o,d,p,ho,l,m,_,j⟩:=n
 refine ⟨o,ho,fun name=>?_⟩
 have e:=j name
 unfold nsFind findBy at e
 rw [<- M7] at e
 unfold sf
 rw [l]
 dsimp only
 split
 ·rename_i y q
  rw [q] at e
  exact congrArg some e
 ·rename_i q
  rw [q] at e
  have a:d.toList.any (·.refKey)=false:=by
   rw [List.any_eq_false]
   intro y i
   obtain ⟨z,t,b⟩:=m y (Array.mem_toList_iff.mp i)
   simp [DictEntry.refKey,b]
  have k:¬ d.toList.any (·.refKey)=true:=by rw [a];exact aQ
  rw [if_neg k]
  exact congrArg some e
theorem IN.look {h:bA}{x c C:af}{b:Str->Option ae} (I:IN h x c C b):∃ a,PySem.W.InstAt h x (gC C c) C (some a)/\∀ name,sf name a=some (b name) :=
 let ⟨a,ho,hl⟩:=Mr I.ns
 ⟨a,⟨I.obj,rfl,rfl,ho⟩,hl⟩
section
variable {prog:aV}{w:bi}{A:bh}{E:ae->ak->Prop}{s:ak}{K:aa}{x dx C f:af}{mA:Str->Option ae}{name:Str}{v:ae}
theorem Sy {a:Bool}{Q:ae->ak->Prop} (X:K.In s.heap) (I:IN s.heap x dx C mA) (g:pE K C name=true) (d:wa K C=true)
  (c:bL K (.ref C) name=some none) (e:mA name=some v) (b:M8 v=true) (h:Q v { s with toks:=s.toks+1 }) :
  av (aF prog w) A (getAttr (.ref x) name a) Q E s:=by
 obtain ⟨j,J,i⟩:=I.look
 exact PySem.W.get_value X J (uB g).1 (PySem.W.findObj_own d c rfl (by rw [i,e])) b h
theorem OA {pl:Sem Bool}{Q:ae×List ae->ak->Prop} (X:K.In s.heap) (I:IN s.heap x dx C mA) (a:pE K C name=true)
  (d:bL K (.ref C) name=some (some (.ref f))) (b:wc K (.ref f)=true) (c:mA name=none) (h:Q (.ref f,[.ref x]) s) :
  av (aF prog w) A (lv (.ref x) name pl) Q E s:=by
 obtain ⟨g,J,e⟩:=I.look
 exact PySem.W.method_fn X J (uB a).1 (uB a).2 d (beq_iff_eq.mp b) (by show (sf name g).map (·.isSome)=some false;rw [e,c];rfl) h
theorem Sz {k:List Str}{Q:Unit->ak->Prop} (X:K.In s.heap) (I:IN s.heap x dx C mA)
  (hs:bL K (.ref C) "__setattr__"=some (some (.builtin "object.__setattr__"))) (q:Kp K C=true) (l:yS K C name=some none) (o:wa K C=true)
  (n:Ft mA k) (hsz:k.length<=sizeLine)
  (h:∀ h',IN h' x dx C (fun y=>if y=name then some v else mA y)->bJ dx s.heap h'->Q () { s with heap:=h',toks:=s.toks+2 }) :
  av (aF prog w) A (setAttr (.ref x) name v) Q E s:=by
 obtain ⟨H,J,B⟩:=I.look
 refine PySem.W.set_plain X J hs (PySem.W.osa_open (s:={ s with toks:=s.toks+1 }) (r:=none) X J q l fun b=>?_)
 obtain ⟨z,m,j⟩:=PySem.W.any_some o
 have u:s.heap.get? x=some ⟨.ref C,some dx,.plain,#[]⟩:=I.obj
 refine ac (ag (ac (ac (wpAny_loadPart u (ac (PySem.W.Looks.here (s:={ s with toks:=s.toks+1 }) (PySem.W.looks_clsIn X m) ?_))))))
 rw [j]
 refine ag (a:=some dx) (ac (ag (ac ?_)))
 refine wpAny_nsSet1 (s:={ s with toks:=s.toks+1 }) I.ns fun h' d c=>?_
 obtain ⟨G,t,p,g,i,e⟩:=d.count (PySem.Within.cons name v n)
 refine ac (wpAny_lookBehind g (by rw [i];exact pastItsLine_dict (bF e (by rw [aX];omega))) ?_)
 exact ag (h _ ⟨(c.2 _ (eC I.ne)).trans I.obj,d,I.ne⟩ c)
theorem OB {R:Result->ak->Prop}{vs:List ae}{b:List (Str×ae)} (X:K.In s.heap) (c:lV K C=true)
  (i:bL K (.ref C) "__init__"=some (some (.ref f))) (e:si K (.ref f)=some (.type "function"))
  (h:gZ (aF prog w) (A.under (.builtin "type.__call__" ⟨.ref C::vs,b⟩)) (.call (.ref f) ⟨.ref (s.heap.objs.size+1)::vs,b⟩) (PySem.W.InitBack (s.heap.objs.size+1) R)
   { s with heap:=(s.heap.push eM).push (gC C s.heap.objs.size) }) :
  gZ (aF prog w) A (.call (.ref C) ⟨vs,b⟩) R s:=by
 obtain ⟨j,g,d,t,k⟩:=s
 exact PySem.W.make_core (PySem.W.makes_of X c) (lH X i) (fun a=>PySem.W.bind_fn X a e) (.inl rfl) h
end
def nV (f:Str) (v:V):List (Str×V)->List (Str×V)
 |[]=>[(f,v)]
 |(g,x)::r=>if g=f then (g,v)::r else (g,x)::nV f v r
theorem yx (f g:Str) (v:V):∀ fs:List (Str×V),(nV f v fs).lookup g=if g=f then some v else fs.lookup g
 |[]=>by
  show g_ g [(f,v)]=_
  by_cases h:g=f
  ·have a:(g==f)=true:=beq_iff_eq.mpr h
   simp only [g_,a,if_pos h]
  ·have a:(g==f)=false:=beq_eq_false_iff_ne.mpr h
   simp only [g_,a,if_neg h]
 |(k,x)::r=>by
  have c:=yx f g v r
  rw [show nV f v ((k,x)::r)=(if k=f then (k,v)::r else (k,x)::nV f v r) from rfl]
  by_cases b:k=f
  ·rw [if_pos b]
   by_cases h:g=k
   ·have a:(g==k)=true:=beq_iff_eq.mpr h
    simp only [g_,a,if_pos (h.trans b)]
   ·have a:(g==k)=false:=beq_eq_false_iff_ne.mpr h
    simp only [g_,a,if_neg (fun e:g=f=>h (e.trans b.symm))]
  ·rw [if_neg b]
   by_cases h:g=k
   ·have a:(g==k)=true:=beq_iff_eq.mpr h
    simp only [g_,a,if_neg (fun e:g=f=>b (h.symm.trans e))]
   ·have a:(g==k)=false:=beq_eq_false_iff_ne.mpr h
    simp only [g_,a]
    exact c
theorem xS (f:Str) (v:V):∀ fs:List (Str×V),f∈(nV f v fs).map (·.1)/\∀ g,g∈fs.map (·.1)->g∈(nV f v fs).map (·.1)
 |[]=>⟨by simp [nV],fun g h=>by simp at h⟩
 |(k,x)::r=>by
  obtain ⟨b,c⟩:=xS f v r
  rw [show nV f v ((k,x)::r)=(if k=f then (k,v)::r else (k,x)::nV f v r) from rfl]
  by_cases a:k=f
  ·rw [if_pos a]
   subst a
   exact ⟨by simp,fun g h=>by simpa using h⟩
  ·rw [if_neg a]
   refine ⟨?_,fun g h=>?_⟩
   ·rw [aW]
    exact aq _ b
   ·rw [aW] at h ⊢
    rcases List.mem_cons.mp h with e|e
    ·exact List.mem_cons.mpr (.inl e)
    ·exact aq _ (c g e)
theorem yy (f:Str) (v:V):∀ fs:List (Str×V),(nV f v fs).length<=fs.length+1
 |[]=>by simp [nV]
 |(k,x)::r=>by
  have b:=yy f v r
  rw [show nV f v ((k,x)::r)=(if k=f then (k,v)::r else (k,x)::nV f v r) from rfl]
  by_cases a:k=f
  ·rw [if_pos a,aX,aX];omega
  ·rw [if_neg a,aX,aX];omega
theorem uF.some_of {v:V}{o:Option ae} (r:uF (some v) o):∃ u,o=some u/\dq v u:=by
 cases o with
 |none=>exact (show False from r).elim
 |some u=>exact ⟨u,rfl,r⟩
theorem uF.none_of {o:Option ae} (r:uF none o):o=none:=by
 cases o with
 |none=>rfl
 |some u=>exact (show False from r).elim
theorem Ms {v:V}{u:ae} (r:dq v u):M8 u=true:=by
 cases v with
 |non=>cases (show u=e_ from r);rfl
 |bl b=>cases (show u=iB b from r);rfl
 |int i=>obtain ⟨t,e⟩:=(show ∃ t,u=nN i t from r);cases e;rfl
 |str x=>obtain ⟨t,e⟩:=(show ∃ t,u=ju x t from r);cases e;rfl
 |byt b=>obtain ⟨t,e⟩:=(show ∃ t,u=Value.bytes b t from r);cases e;rfl
 |flt b=>obtain ⟨t,e⟩:=(show ∃ t,u=HY b t from r);cases e;rfl
 |ref a=>cases (show u=bn a from r);rfl
 |ty n=>cases (show u=iC n from r);rfl
section
variable {P:aV}{w:bi}{H H':Hp}{h h':bA}{a C dx:af}{fs fs':List (Str×V)}
theorem zz (c:rR P w H h) (e:H a=some (.ins C dx fs)):∃ b,IN h a dx C b/\(∀ f,uF (fs.lookup f) (b f))/\Ft b (fs.map (·.1))/\fs.length<=1000/\H dx=some (.own a):=by
 obtain ⟨d,z,g,i,b,n,r,q⟩:=(show dw P w H h a (.ins C dx fs) from c a _ e)
 exact ⟨b,⟨i,n,g⟩,r,q,z,d⟩
end
structure Cls (K:aa) (C:af):Prop where
 pg:pE K C Str.empty=true
 hd:wa K C=true
 po:Kp K C=true
 sa:bL K (.ref C) "__setattr__"=some (some (.builtin "object.__setattr__"))
theorem Cls.get {K:aa}{C:af} (c:Cls K C) (f:Str):pE K C f=true:=c.pg
def v8 (K:aa) (C:af) (f:Str):Prop:=bL K (.ref C) f=some none
theorem v8.taker {K:aa}{C:af}{f:Str} (n:v8 K C f):yS K C f=some none:=by
 unfold yS
 rw [show bL K (.ref C) f=some none from n]
 rfl
structure FF (K:aa) (C:af) (m:Str) (f:af):Prop where
 at_:bL K (.ref C) m=some (some (.ref f))
 fn:wc K (.ref f)=true
 kp:bV K (.ref f)=true
section
variable {X:Cx}{pins:List (af×Obj)}{σ:St}{H:Hp}{s:ak}{a C dx:af}{fs:List (Str×V)}{f:Str}{v:V}{A:bh}{E:ae->ak->Prop}
theorem IP {b:Bool}{Q:ae->ak->Prop} (I:bH X pins σ H s) (e:H a=some (.ins C dx fs)) (c:Cls X.K C) (n:v8 X.K C f) (l:fs.lookup f=some v)
  (h:∀ u s',bH X pins σ H s'->dq v u->Q u s'):av (aF X.prog X.w) A (getAttr (.ref a) f b) Q E s:=by
 obtain ⟨i,O,r,_,_,_⟩:=zz I.hok e
 obtain ⟨u,g,d⟩:=uF.some_of (v:=v) (o:=i f) (by rw [<- l];exact r f)
 exact Sy I.kIn O (c.get f) c.hd n g (Ms d) (h u _ (I.tok _) d)
theorem v9 {m:Str}{g:af}{pl:Sem Bool}{Q:ae×List ae->ak->Prop} (I:bH X pins σ H s) (e:H a=some (.ins C dx fs)) (c:Cls X.K C) (k:FF X.K C m g) (l:fs.lookup m=none)
  (h:Q (.ref g,[.ref a]) s):av (aF X.prog X.w) A (lv (.ref a) m pl) Q E s:=by
 obtain ⟨b,O,r,_,_,_⟩:=zz I.hok e
 have d:b m=none:=uF.none_of (by rw [<- l];exact r m)
 exact OA I.kIn O (c.get m) k.at_ k.fn d h
theorem IQ {y:V}{u:ae}{Q:Unit->ak->Prop} (I:bH X pins σ H s) (e:H a=some (.ins C dx fs)) (c:Cls X.K C) (n:v8 X.K C f) (G:fs.length<1000) (m:dq y u)
  (h:∀ s',bH X pins σ (upd H a (.ins C dx (nV f y fs))) s'->Q () s'):av (aF X.prog X.w) A (setAttr (.ref a) f u) Q E s:=by
 obtain ⟨i,O,r,j,_,ho⟩:=zz I.hok e
 have k:(fs.map (·.1)).length<=sizeLine:=by rw [aw,Fh];omega
 refine Sz I.kIn O c.sa c.po n.taker c.hd j k fun h' d t=>h _ ?_
 have p:∃ o,h'.get? dx=some o:=let ⟨o,_,_,e',_⟩:=d.ns;⟨o,e'⟩
 refine I.write (x:=a) (e:=dx) (by rw [e];exact iF) (.inr ho) (fun b q l z=>(t.2 b l).trans z) p ?_
 refine ⟨by rw [aC O.ne];exact ho,?_,O.ne,d.obj,_,d.ns,fun g=>?_,fun g B=>?_⟩
 ·have:=yy f y fs;omega
 ·show uF ((nV f y fs).lookup g) (if g=f then some u else i g)
  rw [yx]
  by_cases q:g=f
  ·rw [if_pos q,if_pos q];exact m
  ·rw [if_neg q,if_neg q];exact r g
 ·by_cases q:g=f
  ·rw [q];exact (xS f y fs).1
  ·refine (xS f y fs).2 g (j g fun z=>B ?_)
   show (if g=f then some u else i g)=none
   rw [if_neg q];exact z
theorem bH.made (I:bH X pins σ H s):bH X pins σ (upd (upd H s.heap.objs.size (.own (s.heap.objs.size+1))) (s.heap.objs.size+1) (.ins C s.heap.objs.size []))
  { s with heap:=(s.heap.push eM).push (gC C s.heap.objs.size) }:=by
 have d:(s.heap.push eM).get? s.heap.objs.size=some eM:=aD s.heap rfl
 have j:((s.heap.push eM).push (gC C s.heap.objs.size)).get? (s.heap.objs.size+1)=some (gC C s.heap.objs.size):=by
  have:=aD (s.heap.push eM) (o:=gC C s.heap.objs.size) rfl
  rwa [cf] at this
 have i:(s.heap.push eM).Ns s.heap.objs.size (fun _=>none):=⟨eM,#[],_,d,rfl,(fun e he=>absurd he (by simp)),fun _=>rfl⟩
 have h:=I.laid (a:=s.heap.objs.size) (o:=.own (s.heap.objs.size+1)) (h':=s.heap.push eM) (t':=s.toks) (fun b u q=>ai _ q) (aA _) ⟨_,d⟩
 refine h.laid (a:=s.heap.objs.size+1) (o:=.ins C s.heap.objs.size []) (t':=s.toks) (fun b u q=>ai _ q) (Nat.le_of_eq (cf _ _)) ?_
 have c:s.heap.objs.size≠s.heap.objs.size+1:=aM (fi _)
 refine ⟨by rw [aC c,aI],cy _,c,j,fun _=>none,(Heap.Ns1.of_empty i).at fun o q=>ai _ q,fun _=>iF,fun y g=>absurd rfl g⟩
theorem SA {prog:aV}{w:bi}{env:Env}{e:bc}{f:Str}{c:Pos}{s:ak}{Q:ae->ak->Prop} (d:dB e f env (bG e env)=bG e env)
  (h:av (aF prog w) A (bG e env) (fun o b=>av (aF prog w) A (getAttr o f true) Q E b) E s):av (aF prog w) A (bG (.Attribute e f c) env) Q E s :=
 Attribute_any_ h (by rw [arm_eval_Attribute,d])
end
def Yk (K:aa) (d:TE) (f:Str):TE:=fun σ H Q=>d σ H fun x b=>∃ a C c fs v,x=.ref a/\b a=some (.ins C c fs)/\Cls K C/\v8 K C f/\fs.lookup f=some v/\Q v b
def OC (K:aa) (e g:TE) (f:Str):TS:=fun D σ H=>g σ H fun y d=>e σ d fun x c=>∃ a C b fs,x=.ref a/\c a=some (.ins C b fs)/\Cls K C/\v8 K C f/\fs.length<1000 /\
 D.nx σ (upd c a (.ins C b (nV f y fs)))
section
variable {X:Cx}{o e value:bc}{f:Str}{pos pos' tpos:Pos}{ta tv:TE}
theorem IR (he:PE X e ta) (j:dB e f X.env (bG e X.env)=bG e X.env):PE X (.Attribute e f pos) (Yk X.K ta f):=by
 intro b s σ H Q I h
 refine SA j (fE (he b s σ H _ I h) fun u w ⟨x,g,p,d,a,C,z,fs,v,t,i,c,n,l,q⟩=>?_)
 subst t
 obtain rfl:u=bn a:=d
 exact IP p i c n l fun y A k m=>⟨v,g,k,m,q⟩
theorem DP (m:PE X o ta) (w:PE X value tv) (hs:dE value (some (.Attribute o f pos')) pos.line X.env=pure false):PS X (.Assign [.Attribute o f pos'] value pos) (OC X.K ta tv f):=by
 intro b s σ H D I h
 refine plainObj_wpAny_Assign_Attribute (fE (w b s σ H _ I h) fun u d ⟨y,i,z,t,q⟩=>fE (m b d σ i _ z q) fun B M ⟨x,G,p,g,a,C,E,fs,A,j,c,n,l,v⟩=>?_) hs
 subst A
 obtain rfl:B=bn a:=g
 exact IQ p j c n l t fun L k=>⟨σ,_,k,v⟩
theorem V3 {pl:Sem Bool}{m:Str}{i:Pos}{b:List bc}{d:List (af×Obj)}{s:ak}{σ:St}{H:Hp}{Q:ae->ak->Prop}{p:TE} (he:PE X e p) (I:bH X d σ H s)
  (h:p σ H fun x n=>∃ a C t fs g,x=.ref a/\n a=some (.ins C t fs)/\Cls X.K C/\FF X.K C m g/\fs.lookup m=none /\
   ∀ j,bH X d σ n j->av (aF X.prog X.w) X.A (qw pos (.ref g) [.ref a] (cC pos (ao b X.env)) (ii pos (ef [] X.env))) Q X.xe j)
  (B:bG (.Call (.Attribute e m i) b [] pos) X.env=(do
   let y <- bG e X.env
   j3 i.atName
   let (f,first) <- kg [y] (lv y m pl)
   qw pos f first (cC pos (ao b X.env)) (ii pos (ef [] X.env)))) :
  av (aF X.prog X.w) X.A (bG (.Call (.Attribute e m i) b [] pos) X.env) Q X.xe s:=by
 refine rP (pl:=pl) (fE (he d s σ H _ I h) fun u j ⟨x,n,v,z,a,C,t,fs,g,G,E,c,k,l,q⟩=>?_) B
 subst G
 obtain rfl:u=bn a:=z
 exact v9 v E c k l (q j v)
end
section
variable {X:Cx}{pins:List (af×Obj)}{σ:St}{H:Hp}{s:ak}{A:bh}{E:ae->ak->Prop}{Q:ae->ak->Prop}{c:ae}{b:Bool}
inductive xT (K:aa) (H:Hp):V->ae->Prop where
 |non:xT K H .non (.type "NoneType")
 |bl (x:Bool):xT K H (.bl x) (.type "bool")
 |int (i:Int):xT K H (.int i) (.type "int")
 |str (x:Str):xT K H (.str x) (.type "str")
 |flt (x:UInt64):xT K H (.flt x) (.type "float")
 |lst {a:af}{xs:List V} (e:H a=some (.lst xs)):xT K H (.ref a) (.type "list")
 |frz {a:af}{o:Obj}{xs:List V} (e:H a=some (.frz o (.lst xs))):xT K H (.ref a) (.type "list")
 |tup {a:af}{xs:List V} (e:H a=some (.tup xs)):xT K H (.ref a) (.type "tuple")
 |dK {a:af}{kvs:List (fg×V)} (e:H a=some (.dK kvs)):xT K H (.ref a) (.type "dict")
 |dT {a:af}{kvs:List (List fg×V)} (e:H a=some (.dT kvs)):xT K H (.ref a) (.type "dict")
 |ins {a C dx:af}{fs:List (Str×V)} (e:H a=some (.ins C dx fs)) (cl:Cls K C) (ha:bL K (.ref C) "__class__"=some (some (.builtin "object.__class__")))
   (hn:we K (.builtin "object.__class__") "__get__"=some (some (.builtin "getset_descriptor.__get__"))) (htk:yT K (.builtin "object.__class__")=some true)
   (hm:cz K C (.type "object")=some true):xT K H (.ref a) (.ref C)
theorem pK {x:V}{u t:ae} (I:bH X pins σ H s) (d:dq x u) (ty:xT X.K H x t) (e:dH X.K t c=some b) (h:∀ N,Q (.bool b) { s with toks:=N }) :
  av (aF X.prog X.w) A (call (.builtin "isinstance") [u,c]) Q E s:=by
 cases ty with
 |non=>cases (show u=e_ from d);exact cH PySem.W.kitx_none I.kIn iF e (fun z=>nomatch z) h
 |bl y=>cases (show u=iB y from d);exact cH PySem.W.kitx_bool I.kIn iF e (fun z=>nomatch z) h
 |int i=>obtain ⟨t,q⟩:=(show ∃ t,u=nN i t from d);cases q;exact cH PySem.W.kitx_int I.kIn iF e (fun z=>nomatch z) h
 |str y=>obtain ⟨t,q⟩:=(show ∃ t,u=ju y t from d);cases q;exact cH PySem.W.kitx_str I.kIn iF e (fun z=>nomatch z) h
 |flt y=>obtain ⟨t,q⟩:=(show ∃ t,u=HY y t from d);cases q;exact cH PySem.W.kitx_float I.kIn iF e (fun z=>nomatch z) h
 | @lst a xs f =>
  cases (show u=bn a from d)
  obtain ⟨_,_,n,_,g⟩:=(show dw X.prog X.w H s.heap a (.lst xs) from I.hok a _ f)
  exact cH wf I.kIn ⟨_,g,rfl⟩ e (fun z=>nomatch z) h
 | @frz a B xs f =>
  cases (show u=bn a from d)
  obtain ⟨_,_,_,n,_,g⟩:=(show dw X.prog X.w H s.heap a (.frz B (.lst xs)) from I.hok a _ f)
  exact cH wf I.kIn ⟨_,g,rfl⟩ e (fun z=>nomatch z) h
 | @tup a xs f =>
  cases (show u=bn a from d)
  obtain ⟨_,_,_,p⟩:=(show dw X.prog X.w H s.heap a (.tup xs) from I.hok a _ f)
  obtain ⟨o,g,j,_⟩:=p
  exact cH Ic I.kIn ⟨o,g,j⟩ e (fun z=>nomatch z) h
 | @dK a kvs f =>
  cases (show u=bn a from d)
  obtain ⟨_,_,vs,_,p⟩:=(show dw X.prog X.w H s.heap a (.dK kvs) from I.hok a _ f)
  obtain ⟨o,m,G,g,j,_⟩:=p
  exact cH Kq I.kIn ⟨o,g,j.1⟩ e (fun z=>nomatch z) h
 | @dT a kvs f =>
  cases (show u=bn a from d)
  obtain ⟨_,_,xs,_,o,m,G,g,j,_⟩:=(show dw X.prog X.w H s.heap a (.dT kvs) from I.hok a _ f)
  exact cH Kq I.kIn ⟨o,g,j.1⟩ e (fun z=>nomatch z) h
 | @ins a C S fs f l v M k L =>
  cases (show u=bn a from d)
  obtain ⟨P,O,_⟩:=zz I.hok f
  obtain ⟨T,J,_⟩:=O.look
  exact cH (PySem.W.kitx_own (l.get _) l.hd v M k L) I.kIn J e (fun z=>nomatch z) h
end
end L2
namespace L2
open PySem PySem.Spec PyProof.Rows
structure fJ (k:Nat) (A:bh):Prop where
 hd:A.handled=none
 dp:A.depth+3*k+5<Ie
 un:A.units+16*k+200<uC
theorem fJ.mono {j k:Nat}{A:bh} (r:fJ k A) (h:j<=k):fJ j A:=⟨r.hd,by have:=r.dp;omega,by have:=r.un;omega⟩
theorem fJ.deeper {k:Nat}{A:bh} (r:fJ (k+1) A) (env:Env):fJ k (A.deeper env) :=
 ⟨r.hd,by have:=r.dp;show A.depth+1+3*k+5<_;omega,by have:=r.un;show A.units+3+16*k+200<_;omega⟩
theorem IS {A:bh}{C:af}{us:List ae}{a:List (Str×ae)}:(A.under (.builtin "type.__call__" ⟨.ref C::us,a⟩)).depth=A.depth+1:=by
 first|rfl|simp [Fi,Code.weight,Code.isCreation,Code.isGuard,Code.isCaller,Code.frames,HK,guardIds]
theorem IT {A:bh}{C:af}{us:List ae}{a:List (Str×ae)}:(A.under (.builtin "type.__call__" ⟨.ref C::us,a⟩)).units=A.units+1:=by
 first|rfl|simp [Fi,Code.cUnits,Code.frames,HK]
theorem fJ.make {k:Nat}{A:bh} (r:fJ (k+1) A) (C:af) (us:List ae) (a:List (Str×ae)):fJ k (A.under (.builtin "type.__call__" ⟨.ref C::us,a⟩)) :=
 ⟨r.hd,by have:=r.dp;rw [IS];omega,by have:=r.un;rw [IT];omega⟩
theorem fJ.depth {k:Nat}{A:bh} (r:fJ k A):A.depth<Ie:=by have:=r.dp;omega
theorem fJ.units {k:Nat}{A:bh} (r:fJ k A):A.units+64<uC:=by have:=r.un;omega
def BI:TA:=fun _ H Q=>Q [] H
def A9 (c:TE) (d:TA):TA:=fun σ H Q=>c σ H fun x b=>d σ b fun xs a=>Q (x::xs) a
section
variable {X:Cx}{e:bc}{es:List bc}{te:TE}{t:TA}{pos:Pos}
theorem cQ:PA X [] BI:=fun _ _ _ _ H Q I h=>Calls.spliced_nil ⟨[],H,I,.nil,h⟩
theorem bv (f:PE X e te) (i:PA X es t) (hs:ao (e::es) X.env=(false,bG e X.env)::ao es X.env:=by rfl):PA X (e::es) (A9 te t):=by
 intro pos a s σ H Q I h
 rw [hs]
 show av _ _ (spliced ((false,bG e X.env)::cC pos (ao es X.env))) _ _ s
 refine Calls.spliced_cons (fE (f a s σ H _ I h) fun u c ⟨x,d,o,l,g⟩=>?_)
 exact fE (i pos a c σ d _ o g) fun us p b=>by obtain ⟨xs,k,j,n,m⟩:=b;exact ⟨x::xs,k,j,.cons l n,m⟩
def q0v (t:TA):TE:=fun σ H Q=>t σ H fun xs a=>xs.length<=sizeLine/\∀ p,a p=none->Q (.ref p) (upd a p (.tup xs))
def SB (t:TA):TE:=fun σ H Q=>t σ H fun xs a=>xs.length<=sizeLine/\∀ p,a p=none->Q (.ref p) (upd a p (.lst xs))
theorem IU {x1} (h:PA X es t):PE X (.Tuple es x1 pos) (q0v t):=by
 intro a s σ H Q I g
 refine wpAny_Tuple_spliced (fE (h pos a s σ H _ I g) fun us c ⟨xs,d,f,r,z,q⟩=>⟨by rw [<- r.length];exact z,?_⟩)
 have i:d c.heap.objs.size=none:=f.hok.fresh (aA _)
 refine ⟨.ref c.heap.objs.size,upd d c.heap.objs.size (.tup xs),f.laid (t':=c.toks) (fun b u e=>ai _ e) (aA _) ?_,rfl,q _ i⟩
 exact ⟨z,us,r,⟨_,aD _ rfl,rfl,_,rfl⟩⟩
theorem jv (h:PA X es t):PE X (.List es pos) (SB t):=by
 intro a s σ H Q I g
 refine wpAny_List_spliced (fE (h pos a s σ H _ I g) fun us c ⟨xs,d,f,r,z,q⟩=>⟨by rw [<- r.length];exact z,?_⟩)
 have i:d c.heap.objs.size=none:=f.hok.fresh (aA _)
 refine ⟨.ref c.heap.objs.size,upd d c.heap.objs.size (.lst xs),f.laid (t':=c.toks) (fun b u e=>ai _ e) (aA _) ?_,rfl,q _ i⟩
 exact ⟨z,us,0,r,aD _ rfl⟩
end
abbrev Sp:=List V->Hp->VK->XK->Prop
abbrev Ky:=List Env->Hp->ak->XK->ae->ak->Prop
structure BJ (P:aV) (w:bi) (K:aa) (mg:Str->Option ae) (base:bA) (A:bh) (outer:List Env) (s:ak) (H:Hp):Prop where
 frames:A.frames=some outer
 mod:Mod K mg base
 bs:∀ b o,base.get? b=some o->s.heap.get? b=some o/\H b=none
 bsz:base.objs.size<=s.heap.objs.size
 funs:s.heap.FunFrames base outer
 frf:∀ b∈uR outer,H b=none
 hok:rR P w H s.heap
 bare:rW s.gens
inductive CE (outer:List Env) (P:aV) (w:bi) (H:Hp) (s:ak) (Q:VK) (u:ae) (s':ak):Prop
 |mk (v H':_) (h0:s'.os=s.os) (h1:rW s'.gens) (h2:Un (uR outer) [] H H' s.heap s'.heap) (h3:rR P w H' s'.heap) (h4:dq v u) (h5:Q v H'):CE outer P w H s Q u s'
def CR (CX:Ky) (outer:List Env) (P:aV) (w:bi) (H:Hp) (s:ak) (Q:VK) (E:XK) (r:Result) (s':ak):Prop :=
 match r with
 |.ok (.ret u)=>CE outer P w H s Q u s'
 |.ok _=>False
 |.error e=>CX outer H s E e s'
structure l8 (P:aV) (w:bi) (K:aa) (mg:Str->Option ae) (base:bA) (CX:Ky) (k:Nat) (f:af) (fd:cr) (ps:List Str) (sp:Sp):Prop where
 len:∀ vs H Q E,sp vs H Q E->vs.length=ps.length
 run:∀ (A:bh) (outer:List Env) (s:ak) (H:Hp) (args:Args) (us:List ae) (vs:List V) (Q:VK) (E:XK),fJ k A->BJ P w K mg base A outer s H->yr s fd args (ps.zip us)->cS vs us->sp vs H Q E ->
  gZ (aF P w) A (.call (.ref f) args) (CR CX outer P w H s Q E) s
theorem l8.imp {P:aV}{w:bi}{K:aa}{d:Str->Option ae}{base:bA}{CX:Ky}{k:Nat}{f:af}{c:cr}{ps:List Str}{sp a:Sp} (F:l8 P w K d base CX k f c ps sp)
  (h:∀ vs H Q E,a vs H Q E->sp vs H Q E):l8 P w K d base CX k f c ps a :=
 ⟨fun vs H Q E q=>F.len vs H Q E (h _ _ _ _ q),fun A outer s H b us vs Q E e he g i hs=>F.run A outer s H b us vs Q E e he g i (h _ _ _ _ hs)⟩
theorem BJ.make {P:aV}{w:bi}{K:aa}{a:Str->Option ae}{base:bA}{A:bh}{outer:List Env}{s:ak}{H:Hp} (e:BJ P w K a base A outer s H) (C:af) (us:List ae) (b:List (Str×ae)) :
  BJ P w K a base (A.under (.builtin "type.__call__" ⟨.ref C::us,b⟩)) outer s H:=⟨by first|exact e.frames|(simpa [Fi,Code.envs,HK,pushEnvs] using e.frames),e.mod,e.bs,e.bsz,e.funs,e.frf,e.hok,e.bare⟩
section
variable {X:Cx}{pins:List (af×Obj)}{σ:St}{H:Hp}{s s':ak}
theorem bH.env0 (I:bH X pins σ H s):BJ X.prog X.w X.K X.mg X.base X.A X.stack s H :=
 ⟨I.ok.frames,I.ok.mod,I.bs,bF I.ok.bsz I.sz,I.stack,I.stkFree,I.hok,I.bare⟩
theorem bH.after {Q:VK}{u:ae} (I:bH X pins σ H s) (h:CE X.stack X.prog X.w H s Q u s'):EP X pins σ Q u s':=by
 obtain ⟨v,H',i,a,un,e,r,q⟩:=h
 obtain ⟨f,g,d,t,c⟩:=s'
 obtain rfl:c=s.os:=i
 exact ⟨v,H',I.call (h':=f) (g':=g) (d':=d) (t':=t) (ch:=[]) un e a (fun b z=>absurd z (by simp)),r,q⟩
end
def Kz (sp:Sp) (a:List V) (E:XK) (t:TA):TE:=fun σ H Q=>t σ H fun vs b=>sp (vs++a) b Q E
def V4 (C:af) (m:Str) (sp:Sp) (b:List V) (E:XK) (f:TE) (t:TA):TE:=fun σ H Q=>f σ H fun x c=>∃ a d fs,x=.ref a/\c a=some (.ins C d fs)/\fs.lookup m=none /\
 t σ c fun vs e=>sp (x::(vs++b)) e Q E
def Yl (C:af) (sp:Sp) (c:List V) (E:XK) (t:TA):TE:=fun σ H Q=>t σ H fun vs b=>∀ x a,b x=none->b a=none->a≠x ->
 sp (.ref x::(vs++c)) (upd (upd b a (.own x)) x (.ins C a [])) (fun v d=>v=.non/\Q (.ref x) d) E
def eQ (K:aa) (a:cr) (ps:List Str) (ds:List ae):Prop :=
 ∀ (s:ak) (us:List ae),K.In s.heap->(us++ds).length=ps.length->yr s a ⟨us,[]⟩ (ps.zip (us++ds))
theorem eQ.all {K:aa}{a:cr}{ps:List Str} (h:∀ us:List ae,us.length=ps.length->Ig a ⟨us,[]⟩=pure (ps.zip us)):eQ K a ps []:=fun s us _ b=>by
 rw [cb] at b ⊢
 exact .of_eq (h us b)
def gy (CX:Ky) (X:Cx) (E:XK):Prop:=∀ (a:List (af×Obj)) (σ:St) (H:Hp) (s:ak) (e:ae) (s':ak),bH X a σ H s->CX X.stack H s E e s'->X.xe e s'
section
variable {X:Cx}{CX:Ky}{k:Nat}{f C:af}{fd:cr}{ps:List Str}{sp:Sp}{dvs:List V}{ds:List ae}{E:XK}{x m:Str}{p pos apos:Pos}{e o:bc}{es:List bc}{ta:TE}{t:TA}
theorem IV {a:List (af×Obj)}{σ:St}{H:Hp}{s:ak}{Q:VK}{us:List ae}{vs:List V} (F:l8 X.prog X.w X.K X.mg X.base CX k f fd ps sp) (j:fJ k X.A) (n:eQ X.K fd ps ds) (g:cS dvs ds) (l:gy CX X E)
  (I:bH X a σ H s) (r:cS vs us) (h:sp (vs++dvs) H Q E):av (aF X.prog X.w) X.A (call (.ref f) us) (EP X a σ Q) X.xe s:=by
 have c:cS (vs++dvs) (us++ds):=r.append g
 have d:(us++ds).length=ps.length:=by rw [<- c.length];exact F.len _ _ _ _ h
 refine u_ (lW (F.run X.A X.stack s H ⟨us,[]⟩ (us++ds) (vs++dvs) Q E j I.env0 (n s us I.kIn d) c h) fun r s' b=>?_)
 cases r with
 |error e=>exact l a σ H s e s' I b
 |ok i =>
  cases i with
  |ret u=>exact I.after b
  |next=>exact dC b
  |brk=>exact dC b
  |cont=>exact dC b
theorem DQ (F:l8 X.prog X.w X.K X.mg X.base CX k f fd ps sp) (i:fJ k X.A) (y:Gl X x) (l:X.mg x=some (.ref f)) (u:bV X.K (.ref f)=true) (j:eQ X.K fd ps ds) (n:cS dvs ds) (v:gy CX X E)
  (g:PA X (e::es) t) (b:(x==("__debug__" : Str))=false:=by decide) (he:ao (e::es) X.env=(false,bG e X.env)::ao es X.env:=by rfl) (c:(cC pos (ao es X.env)).any (·.1)=false:=by rfl) :
  PE X (.Call (.Name x p) (e::es) [] pos) (Kz sp dvs E t):=by
 intro a s σ H Q I h
 refine kX (wq I y l ?_ b)
 refine mW (h₀:=X.base) I.ok.mod.kin u (fE (g pos a s σ H _ I h) fun us z ⟨vs,B,d,r,q⟩=>⟨d.kIn,?_⟩) he c
 exact IV F i j n v d r q
theorem KA {pl:Sem Bool} (he:PE X o ta) (c:Cls X.K C) (i:FF X.K C m f) (F:l8 X.prog X.w X.K X.mg X.base CX k f fd ps sp) (N:fJ k X.A) (O:eQ X.K fd ps ds) (S:cS dvs ds) (T:gy CX X E) (M:PA X (e::es) t)
  (d:ao (e::es) X.env=(false,bG e X.env)::ao es X.env:=by rfl) (g:(cC pos (ao es X.env)).any (·.1)=false:=by rfl)
  (G:bG (.Call (.Attribute o m apos) (e::es) [] pos) X.env=(do
   let v <- bG o X.env
   j3 apos.atName
   let (f,first) <- kg [v] (lv v m pl)
   qw pos f first (cC pos (ao (e::es) X.env)) (ii pos (ef [] X.env))):=by rfl) :
  PE X (.Call (.Attribute o m apos) (e::es) [] pos) (V4 C m sp dvs E ta t):=by
 intro b s σ H Q I h
 refine rP (pl:=pl) (fE (he b s σ H _ I h) fun u y ⟨x,B,n,z,a,Y,fs,U,L,l,q⟩=>?_) G
 subst U
 obtain rfl:u=bn a:=z
 refine v9 n L c i l ?_
 refine mW (first:=[.ref a]) (h₀:=X.base) I.ok.mod.kin i.kp (fE (M pos b y σ B _ n q) fun us s2 ⟨vs,H2,j,r,P⟩=>⟨j.kIn,?_⟩) d g
 exact IV (us:=.ref a::us) (vs:=.ref a::vs) F N O S T j (.cons rfl r) P
theorem Aa {pl:Sem Bool} (he:PE X o ta) (c:Cls X.K C) (g:FF X.K C m f) (F:l8 X.prog X.w X.K X.mg X.base CX k f fd ps sp) (y:fJ k X.A) (z:eQ X.K fd ps ds) (B:cS dvs ds) (G:gy CX X E)
  (n:bG (.Call (.Attribute o m apos) [] [] pos) X.env=(do
   let i <- bG o X.env
   j3 apos.atName
   let (f,first) <- kg [i] (lv i m pl)
   qw pos f first (cC pos (ao [] X.env)) (ii pos (ef [] X.env))):=by rfl) :
  PE X (.Call (.Attribute o m apos) [] [] pos) (V4 C m sp dvs E ta BI):=by
 intro b s σ H Q I h
 refine rP (pl:=pl) (fE (he b s σ H _ I h) fun u M ⟨x,N,d,j,a,O,fs,L,v,l,q⟩=>?_) n
 subst L
 obtain rfl:u=bn a:=j
 refine v9 d v c g l ?_
 exact PySem.W.callWith_K0 (first:=[.ref a]) d.kIn g.kp (IV (us:=[.ref a]) (vs:=[.ref a]) F y z B G d (.cons rfl .nil) q)
structure Mk (K:aa) (C f:af):Prop where
 makes:lV K C=true
 init:bL K (.ref C) "__init__"=some (some (.ref f))
 fn:wc K (.ref f)=true
 kp:bV K (.ref C)=true
theorem OD {b:List (af×Obj)}{σ:St}{H:Hp}{s:ak}{Q:VK}{us:List ae}{vs:List V} (M:Mk X.K C f) (F:l8 X.prog X.w X.K X.mg X.base CX k f fd ps sp) (G:fJ (k+1) X.A) (N:eQ X.K fd ps ds) (y:cS dvs ds)
  (L:gy CX X E) (I:bH X b σ H s) (r:cS vs us)
  (h:∀ x c,H x=none->H c=none->c≠x->sp (.ref x::(vs++dvs)) (upd (upd H c (.own x)) x (.ins C c [])) (fun v j=>v=.non/\Q (.ref x) j) E) :
  av (aF X.prog X.w) X.A (call (.ref C) us) (EP X b σ Q) X.xe s:=by
 have g:=h (s.heap.objs.size+1) s.heap.objs.size (I.hok.fresh (mC _)) (I.hok.fresh (aA _)) (aM (fi _))
 have d:=bH.made (C:=C) I
 have i:cS (V.ref (s.heap.objs.size+1)::(vs++dvs)) (bn (s.heap.objs.size+1)::(us++ds)):=.cons rfl (r.append y)
 have l:(bn (s.heap.objs.size+1)::us++ds).length=ps.length:=by
  have e:=i.length
  rw [F.len _ _ _ _ g] at e
  exact e.symm
 refine u_ (OB (f:=f) I.kIn M.makes M.init (beq_iff_eq.mp M.fn) (lW (F.run _ X.stack _ _ ⟨bn (s.heap.objs.size+1)::us,[]⟩ (bn (s.heap.objs.size+1)::(us++ds)) _ _ E (G.make C us [])
  (d.env0.make C us []) (N _ (bn (s.heap.objs.size+1)::us) d.kIn l) i g) fun r s' a=>?_))
 cases r with
 |error e=>exact L b σ _ _ e s' d a
 |ok B =>
  cases B with
  |ret u =>
   obtain ⟨v,H',n,q,z,O⟩:=d.after a
   subst z
   exact ⟨q,⟨V.ref (s.heap.objs.size+1),H',n,rfl,O⟩⟩
  |next=>exact dC a
  |brk=>exact dC a
  |cont=>exact dC a
theorem SC (M:Mk X.K C f) (F:l8 X.prog X.w X.K X.mg X.base CX k f fd ps sp) (i:fJ (k+1) X.A) (v:Gl X x) (l:X.mg x=some (.ref C)) (j:eQ X.K fd ps ds) (n:cS dvs ds) (u:gy CX X E)
  (g:PA X (e::es) t) (b:(x==("__debug__" : Str))=false:=by decide) (he:ao (e::es) X.env=(false,bG e X.env)::ao es X.env:=by rfl) (c:(cC pos (ao es X.env)).any (·.1)=false:=by rfl) :
  PE X (.Call (.Name x p) (e::es) [] pos) (Yl C sp dvs E t):=by
 intro a s σ H Q I h
 refine kX (wq I v l ?_ b)
 refine mW (h₀:=X.base) I.ok.mod.kin M.kp (fE (g pos a s σ H _ I h) fun us y ⟨vs,z,d,r,q⟩=>⟨d.kIn,?_⟩) he c
 exact OD M F i j n u d r q
end
section
variable {X:Cx}{CX:Ky}{k:Nat}{f C:af}{fd:cr}{ps ks:List Str}{sp:Sp}{E:XK}{x m:Str}{p pos apos kpos:Pos}{e o:bc}{es:List bc}{kws:List kh}{te ta:TE}{t tk:TA}{nm:Option Str}
variable {g:List ae->List ae->List ae}{gV:List V->List V->List V}
end
structure bj (N P:List Str) (sc:fU):Prop where
 kind:sc.kind=.function
 co:sc.isCoroutine=false
 gen:sc.isGenerator=false
 nd:N.Nodup
 pre:N.take P.length=P
 par:∀ x∈P,sc.names.lookup x=some .local\/sc.names.lookup x=some .cell
 nofree:∀ y∈sc.names,y.2≠.free
theorem Cu {a:Str->Option lX}{x:Str}:∀ {binds:List (Str×ae)}{m:Str->Option ae},(∀ v,(x,v)∉binds)->Ih a binds m x=m x
 |[],_,_=>rfl
 |(n,v)::r,m,h=>by
  unfold Ih
  rw [Cu fun w b=>h w (aq _ b)]
  split
  ·have:x≠n:=by rintro rfl;exact h v au
   simp [this]
  ·rfl
theorem Cv {a:Str->Option lX}{x:Str}:∀ {binds:List (Str×ae)}{m:Str->Option ae},(∀ v,(x,v)∉binds)->Ii a binds m x=m x
 |[],_,_=>rfl
 |(n,v)::r,m,h=>by
  unfold Ii
  rw [Cv fun w b=>h w (aq _ b)]
  split
  ·rfl
  ·have:x≠n:=by rintro rfl;exact h v au
   simp [this]
theorem Cy {a:Str->Option lX}{x:Str}{v:ae}:∀ {P:List Str}{vs:List ae}{i:Nat}{m:Str->Option ae},P.Nodup->P[i]?=some x->vs[i]?=some v->a x=some .local ->
  Ih a (P.zip vs) m x=some v
 |[],_,_,_,_,h,_,_=>by simp at h
 |_::_,[],_,_,_,_,h,_=>by simp at h
 |p::P,w::vs,0,m,d,b,c,e=>by
  simp at b c;subst b;subst c
  show Ih a ((p,w)::P.zip vs) m p=_
  unfold Ih
  rw [Cu fun v f=>(List.nodup_cons.mp d).1 (sj f).1,if_pos e]
  simp
 |p::P,w::vs,i+1,m,d,b,c,e=>by
  show Ih a ((p,w)::P.zip vs) m x=_
  unfold Ih
  exact Cy (i:=i) (List.nodup_cons.mp d).2 (by simpa using b) (by simpa using c) e
theorem Cz {a:Str->Option lX}{x:Str}{v:ae}:∀ {P:List Str}{vs:List ae}{i:Nat}{m:Str->Option ae},P.Nodup->P[i]?=some x->vs[i]?=some v->a x≠some .local ->
  Ii a (P.zip vs) m x=some v
 |[],_,_,_,_,h,_,_=>by simp at h
 |_::_,[],_,_,_,_,h,_=>by simp at h
 |p::P,w::vs,0,m,d,b,c,e=>by
  simp at b c;subst b;subst c
  show Ii a ((p,w)::P.zip vs) m p=_
  unfold Ii
  rw [Cv fun v f=>(List.nodup_cons.mp d).1 (sj f).1,if_neg e]
  simp
 |p::P,w::vs,i+1,m,d,b,c,e=>by
  show Ii a ((p,w)::P.zip vs) m x=_
  unfold Ii
  exact Cz (i:=i) (List.nodup_cons.mp d).2 (by simpa using b) (by simpa using c) e
def start (N:List Str) (vs:List V):St:=vs.map some++cg (N.length-vs.length) none
def iU (CX:Ky) (P:aV) (w:bi) (K:aa) (mg:Str->Option ae) (base:bA) (N:List Str) (qual:Str) (scope:fU) (f:af) (cd:ae) (A:bh) (outer:List Env) (s:ak) (H:Hp) (E:XK):Cx where
 prog:=P
 w:=w
 K:=K
 mg:=mg
 base:=base
 A:=A.deeper (gR qual scope s.heap.objs.size f cd)
 N:=N
 s₀:=s
 H₀:=H
 env:=gR qual scope s.heap.objs.size f cd
 outer:=outer
 stack:=gR qual scope s.heap.objs.size f cd::outer
 ex:=[]
 calm:=true
 fn:=fun _=>true
 pn:=[]
 xe:=fun e s'=>av (aF P w) (A.deeper (gR qual scope s.heap.objs.size f cd)) (leaving (gR qual scope s.heap.objs.size f cd) e) (fun _ s''=>CX outer H s E e s'') (fun e' s''=>CX outer H s E e' s'') s'
theorem FH {a:fU}{n:Nat}{x:Str} (h:a.names.lookup x=some .cell):∃ c,(bW n a.names []).lookup x=some c:=by
 have q:=fH a.names n [] (.inl h)
 exact Option.isSome_iff_exists.mp q
theorem CA {CX:Ky}{P:aV}{w:bi}{K:aa}{L:Str->Option ae}{base:bA}{N ps:List Str}{d:Str}{scope:fU}{f:af}{G:ae}{A:bh}{outer:List Env}{s M:ak}{H:Hp}{E:XK}{us:List ae}{vs:List V}
  (S:bj N ps scope) (Y:A.handled=none) (j:BJ P w K L base A outer s H) (hl:vs.length=ps.length) (r:cS vs us)
  (x:InCallC s s.heap.objs.size (Ih (gR d scope s.heap.objs.size f G).kindOf (ps.zip us) fun _=>none) (bW (s.heap.objs.size+1) scope.names []) (Ii (gR d scope s.heap.objs.size f G).kindOf (ps.zip us) fun _=>none) M) :
  bH (iU CX P w K L base N d scope f G A outer s H E) [] (start N vs) H M:=by
 have U:ps.length<=N.length:=by have:=congrArg pG S.pre;rw [rG] at this;omega
 obtain ⟨B,tk,rfl,Q⟩:=x.done
 have m:∀ b:af,b∉(iU CX P w K L base N d scope f G A outer s H E).ex:=fun b z=>absurd (show b∈([] : List af) from z) (by simp)
 refine ⟨⟨j.mod,S.kind,rfl,rfl,aA _,fun y z c B g=>?_,fun y l=>?_,fun y c _ h=>?_,fun _=>Y,Around.frames_deeper j.frames,.inr ⟨rfl,rfl⟩,fun b z=>absurd z (m b),j.bs,j.bsz,fun b _ _=>m b,fun b z=>absurd z (m b),j.funs,j.frf⟩,
  rfl,j.bare,Un.kept Q,⟨_,x.toInCall.ns,fun i y v B g h3=>?_⟩,fun y c h=>⟨_,x.cell y c h⟩,j.hok.fresh (aA _),fun y c h=>?_,fun p t=>absurd (show p∈([] : List (af×Obj)) from t) (by simp),j.hok.kept Q,?_⟩
 ·exact name_of_addr x.apart (dD B) (dD g)
 ·have l:scope.names.lookup y=some .cell\/scope.names.lookup y=some .free:=l
  rcases l with l|l
  ·exact FH l
  ·exact absurd rfl (S.nofree _ (dD l))
 ·exact bt (x.above y c (dD h))
 ·have I:i<vs.length:=by
   unfold start at g
   by_cases I:i<vs.length
   ·exact I
   ·rw [bg (by simpa using I)] at g
    rw [bI] at g
    split at g<;>cases g
  have T:vs[i]?=some v:=by
   unfold start at g
   rw [bR (by simpa using I),aH] at g
   cases e:vs[i]? with
   |none=>rw [e] at g;cases g
   |some a=>rw [e] at g;cases g;rfl
  obtain ⟨u,O,X⟩:=r.get T
  have t:ps[i]?=some y:=by
   rw [<- S.pre,List.getElem?_take_of_lt (by omega)];exact B
  have o:ps.Nodup:=by rw [<- S.pre];exact S.nd.sublist (List.take_sublist _ _)
  refine ⟨u,X,?_⟩
  rcases S.par y (bQ t) with k|k
  ·exact .inl ⟨k,Cy o t O k⟩
  ·obtain ⟨c,e⟩:=FH (n:=s.heap.objs.size+1) k
   refine .inr ⟨.inl k,c,e,?_⟩
   have q:=x.cell y c e
   rw [Cz o t O (by show scope.names.lookup y≠_;rw [k];decide)] at q
   exact q
 ·exact j.hok.fresh (bt (x.above y c (dD h)))
 ·unfold start
  show _=N.length
  rw [bB,aw,de]
  omega
theorem lM {CX:Ky}{P:aV}{w:bi}{K:aa}{z:Str->Option ae}{base:bA}{k:Nat}{f:af}{name a:Str}{d:Arguments}{g:List c9}{scope:fU}{U kV l pm c ct oc:ae}{an od:Option af}
  {L:Array (Option ae)}{N ps:List Str}{sp:Sp} (lk:K.lookup f=some ⟨oc,od,.func (dU name a d g scope U kV l pm an c ct),L⟩) (B:j4 K c a=true) (S:bj N ps scope)
  (j:∀ vs H Q E,sp vs H Q E->vs.length=ps.length)
  (i:∀ (A:bh) (outer:List Env) (s:ak) (H:Hp) (vs:List V) (Q:VK) (E:XK),fJ k (A.deeper (gR a scope s.heap.objs.size f c))->sp vs H Q E ->
   ∃ t,zw (iU CX P w K z base N a scope f c A outer s H E) g t/\t { nx:=fun _ H'=>Q .non H',rt:=Q } (start N vs) H) :
  l8 P w K z base CX (k+1) f (dU name a d g scope U kV l pm an c ct) ps sp:=by
 refine ⟨j,fun A outer s H Y us vs Q E G m hb r p=>?_⟩
 have hl:=j _ _ _ _ p
 have X:K.In s.heap:=m.mod.kin.keeps fun b o e=>(m.bs b o e).1
 have M:s.heap.NoLimit:=m.mod.nolimit.keeps fun b o e=>(m.bs b o e).1
 have h:∀ y∈ps.zip us,scope.names.lookup y.1=some .local\/(scope.names.lookup y.1=some .cell/\((bW (s.heap.objs.size+1) scope.names []).lookup y.1).isSome=true):=fun ⟨n,v⟩ hy=>by
  rcases S.par n (sj hy).1 with q|q
  ·exact .inl q
  ·exact .inr ⟨q,fH _ _ _ (.inl q)⟩
 refine RK G.depth (X _ _ lk) rfl S.co S.gen rfl (v3 X B) (hb _ _ _ _ ?_)
 refine Ij S.kind h fun env he T x=>?_
 subst he
 refine ⟨M.keeps x.toInCall.keep,codeAny_func ?_⟩
 obtain ⟨t,ht,hq⟩:=i A outer s H vs Q E (G.deeper _) p
 have I:bH (iU CX P w K z base N a scope f c A outer s H E) [] (start N vs) H T:=CA S G.hd m hl r x
 refine cx (ht [] T (start N vs) H _ I hq) (fun fl s' hs=>?_) fun e s' hs=>hs
 have fin:∀ {σ':St}{H':Hp}{v:V}{u:ae},bH (iU CX P w K z base N a scope f c A outer s H E) [] σ' H' s'->dq v u->Q v H'->CE outer P w H s Q u s' :=
  fun {σ' H' v u} J O q=>⟨v,H',J.os,J.bare,J.base,J.hok,O,q⟩
 cases fl with
 |ret u =>
  obtain ⟨v,σ',H',J,O,q⟩:=hs
  exact fin J O q
 |next =>
  obtain ⟨σ',H',J,q⟩:=hs
  exact fin (v:=V.non) (u:=e_) J rfl q
 |brk =>
  obtain ⟨_,_,_,q⟩:=hs
  exact dC q
 |cont =>
  obtain ⟨_,_,_,q⟩:=hs
  exact dC q
end L2
namespace L2
open PySem PySem.Spec PyProof.Rows
section
variable {X:Cx}{x:Str}{p pos:Pos}{e:bc}{es:List bc}{t:TA}{id T:String}{r:List V->Hp->VK->Prop}
def Wz (r:List V->Hp->VK->Prop) (t:TA):TE:=fun σ H Q=>t σ H fun vs a=>r vs a Q
theorem pM (j:jX X (.builtin id) r) (q:Gl X x) (l:X.mg x=none) (o:j0 x=some (.builtin id)) (i:PA X (e::es) t) (m:x≠"__name__":=by decide) (c:(x==("__debug__" : Str))=false:=by decide)
  (he:ao (e::es) X.env=(false,bG e X.env)::ao es X.env:=by rfl) (d:(cC pos (ao es X.env)).any (·.1)=false:=by rfl):PE X (.Call (.Name x p) (e::es) [] pos) (Wz r t):=by
 intro a s σ H Q I h
 refine kX (v7 I q l o ?_ m c)
 exact PyProof.Rows.callWith_builtin1 (fE (i pos a s σ H _ I h) fun us f b=>by obtain ⟨vs,g,u,n,k⟩:=b;exact j a f σ g vs us Q u n k) he d
theorem tP (j:jX X (.type T) r) (u:Gl X x) (l:X.mg x=none) (o:j0 x=some (.type T)) (i:PA X (e::es) t) (m:x≠"__name__":=by decide) (c:(x==("__debug__" : Str))=false:=by decide)
  (he:ao (e::es) X.env=(false,bG e X.env)::ao es X.env:=by rfl) (d:(cC pos (ao es X.env)).any (·.1)=false:=by rfl):PE X (.Call (.Name x p) (e::es) [] pos) (Wz r t):=by
 intro a s σ H Q I h
 refine kX (v7 I u l o ?_ m c)
 exact fu (fE (i pos a s σ H _ I h) fun us f b=>by obtain ⟨vs,g,q,n,k⟩:=b;exact j a f σ g vs us Q q n k) he d
end
end L2
namespace HT
open PySem PyProof.Rows
section
open PySem.SeqAt
open PySem.AutoSeq1 (wpAny_loadPart')
open PySem.MeetsSeq PySem.MeetsSeq2 PySem.MeetsSeq3
end
section
variable {prog:aV}{w:bi}{A:bh}{E:ae->ak->Prop}{s:ak}
theorem SD {t b:af}{vs a:List ae}{Q:ae->ak->Prop} (v:HZ s.heap t vs.toArray) (x:HZ s.heap b a.toArray) (q:vs≠[])
  (u:a=[]->Q (.ref t) s) (y:a≠[]->Q (.ref s.heap.objs.size) { s with heap:=s.heap.push { cls:=.type "tuple",data:=.seq (vs++a).toArray } })
  (hsz:vs.length+a.length<=sizeLine):av (aF prog w) A (fG .Add (.ref t) (.ref b)) Q E s:=by
 obtain ⟨⟨cls,dd,data,p⟩,ho,k,n,o⟩:=id v
 obtain ⟨⟨m,d,j,f⟩,c,g,l,h⟩:=id x
 simp only at k o g h
 subst k o g h
 have e:vs.toArray++a.toArray=(vs++a).toArray:=by simp
 by_cases i:a=[]
 ·exact By ⟨_,ho,rfl⟩ ⟨_,c,rfl⟩ DF M9 qx pH (oT _ _)
   (tuple_addW1 t b vs.toArray a.toArray n l dd d p f (by simpa using q) (by simp [i])) ⟨ho,c,u i⟩
 ·refine By ⟨_,ho,rfl⟩ ⟨_,c,rfl⟩ DF M9 qx pH (oT _ _)
   (tuple_addW2 t b vs.toArray a.toArray n l dd d p f (by simpa using q) (by simpa using i) (by rw [aG,aG];exact hsz)) ⟨ho,c,?_⟩
  rw [e]
  exact y i
def js (n d:Nat):Option Int->Nat
 |none=>d
 |some v=>if v<0 then (v+(n:Int)).toNat else min v.toNat n
theorem FI (n d:Nat):js n d none=d:=rfl
theorem KB (n d k:Nat):js n d (some (k:Int))=min k n:=by
 show (if (k:Int)<0 then ((k:Int)+(n:Int)).toNat else min (k:Int).toNat n)=min k n
 rw [if_neg (by omega),kY]
theorem WA (n d:Nat) (b:d<=n) (o:Option Int):js n d o<=n:=by
 cases o with
 |none=>exact b
 |some v =>
  show (if v<0 then (v+(n:Int)).toNat else min v.toNat n)<=n
  by_cases a:v<0
  ·rw [if_pos a];omega
  ·rw [if_neg a];exact rQ _ _
theorem KC (v:Int) (n d:Nat):(if v<0 then max (v+(n:Int)) 0 else min v (n:Int))=((js n d (some v):Nat):Int):=by
 show (if v<0 then max (v+(n:Int)) 0 else min v (n:Int))=(((if v<0 then (v+(n:Int)).toNat else min v.toNat n):Nat):Int)
 by_cases a:v<0
 ·simp only [if_pos a];omega
 ·simp only [if_neg a];omega
theorem IW (lo a:Option Int) (n:Nat):lY lo a 1 (n:Int)=(((js n 0 lo:Nat):Int),((js n n a:Nat):Int)):=by
 have b:¬ ((1:Int)<0):=by omega
 unfold lY
 simp only [b,if_false]
 refine Prod.ext ?_ ?_
 ·cases lo with
  |none=>rfl
  |some v=>exact KC v n 0
 ·cases a with
  |none=>rfl
  |some v=>exact KC v n n
theorem IX (i j:Nat):iP (i:Int) (j:Int) 1=j-i:=by
 unfold iP
 have a:(1:Int) > 0:=by omega
 simp only [a,if_true,Int.ediv_one]
 split<;>omega
theorem Ab {v:ae}{o:Option Int}{Q:Option Int->ak->Prop} (p:xF v o) (h:Q o s):av (aF prog w) A (Builtin.Slice.slicePartIndex v) Q E s:=by
 cases p with
 |none=>exact slicePart_none h
 |int i t=>exact slicePart_int h
theorem pO {f:af}{e d:ae}{lo c:Option Int}{n:Nat}{Q:Int×Int×Nat->ak->Prop} (hs:s.heap.IsSliceOf f e d .none) (pl:xF e lo) (g:xF d c)
  (h:Q (((js n 0 lo:Nat):Int),1,js n n c-js n 0 lo) s):av (aF prog w) A (wg (.ref f) (pure (n:Int))) Q E s:=by
 obtain ⟨j,a,i,b⟩:=id hs
 unfold wg Builtin.Slice.sliceFields
 refine ac (ac (eg a b (x:=e) rfl (ac (eg a b (x:=d) rfl (ac (eg a b (x:=.none) rfl (ag ?_)))))))
 refine ac (slicePart_none ?_)
 show av _ _ (if ((1:Int)==0)=true then _ else _) _ _ s
 rw [if_neg (by decide)]
 refine ac (Ab pl (ac (Ab g (ac (ag ?_)))))
 show av _ _ (match lY lo c 1 (n:Int) with|(lo,c)=>pure (lo,(1:Int),iP lo c 1)) _ _ s
 rw [IW lo c n]
 show av _ _ (pure (((js n 0 lo:Nat):Int),(1:Int),iP ((js n 0 lo:Nat):Int) ((js n n c:Nat):Int) 1)) _ _ s
 rw [IX]
 exact ag h
theorem OE (xs:Array ae) (i k:Nat):((br k).filterMap fun (m:Nat)=>xs[((i:Int)+(m:Int)*1).toNat]?).toArray=((xs.toList.drop i).take k).toArray:=by
 have e:(fun (m:Nat)=>xs[((i:Int)+(m:Int)*1).toNat]?)=fun m=>xs[i+m]?:=by
  funext m
  have:((i:Int)+(m:Int)*1).toNat=i+m:=by omega
  rw [this]
 rw [e]
 have:=pick_run xs i k
 rw [nX] at this
 have a:((fun x=>xs[x]?)∘fun x=>i+x)=fun m=>xs[i+m]?:=rfl
 rw [a] at this
 rw [this]
theorem wv {t g:af}{items:Array ae}{j k:ae}{lo b:Option Int}{Q:ae->ak->Prop} (c:HZ s.heap t items) (hs:s.heap.IsSliceOf g j k .none) (pl:xF j lo) (p:xF k b)
  (n:¬ (js items.size 0 lo=0/\js items.size items.size b=items.size))
  (h:Q (.ref s.heap.objs.size) { s with heap:=s.heap.push { cls:=.type "tuple",data:=.seq ((items.toList.drop (js items.size 0 lo)).take (js items.size items.size b-js items.size 0 lo)).toArray } })
  (hsz:items.size<=sizeLine):av (aF prog w) A (rX (.ref t) (.ref g)) Q E s:=by
 have a:sizeOk (.seq ((items.toList.drop (js items.size 0 lo)).take (js items.size items.size b-js items.size 0 lo)).toArray):=by
  show ((items.toList.drop (js items.size 0 lo)).take (js items.size items.size b-js items.size 0 lo)).toArray.size<=sizeLine
  rw [aG,rG,zo,ay]
  omega
 have x:js items.size items.size b<=items.size:=WA _ _ (aA _) b
 obtain ⟨o,f,d,l⟩:=id hs
 have e:s.TypeIs (.ref g) "slice":=⟨o,f,d⟩
 unfold rX
 try with_reducible refine dm ?_
 first|refine ac (ag ?_)|skip
 refine ac (wpAny_sequenceKey c.typeIs (by decide) ?_)
 refine ac (dv (name:=jB "__getitem__") c.typeIs gx
  (cP gx c.typeIs entry_tuple_getitem ?_ (args_tuple_getitem _ _)))
 show av _ _ (wj (.ref t) >>= _) _ _ s
 refine ac (tupleItemsOf_ c ?_)
 refine ac (lZ e ?_)
 rw [if_pos (by decide)]
 refine ac (pO hs pl p ?_)
 have i:¬ ((((js items.size 0 lo:Nat):Int)==0&&(1:Int)==1&&(js items.size items.size b-js items.size 0 lo)==items.size)=true):=by
  intro q
  rw [aP,aP] at q
  have u:((js items.size 0 lo:Nat):Int)=0:=eq_of_beq q.1.1
  have v:js items.size items.size b-js items.size 0 lo=items.size:=eq_of_beq q.2
  exact n ⟨by omega,by omega⟩
 show av _ _ (if (((js items.size 0 lo:Nat):Int)==0&&(1:Int)==1&&(js items.size items.size b-js items.size 0 lo)==items.size)=true then _ else _) _ _ s
 rw [if_neg i,OE]
 first
  |exact ac (m:=j5 _) (cD (ag ⟨_,rfl,ag h⟩) a)
  |exact ac (m:=j5 _) (cD (ac (ag (ag ⟨_,rfl,ag h⟩))) a)
  |exact ac (ac (m:=j5 _) (cD (ag (ag ⟨_,rfl,ag h⟩)) a))
  |exact ac (ac (m:=j5 _) (cD (ag ⟨_,rfl,ag h⟩) a))
end
end HT
namespace L2
open PySem PySem.Spec PyProof.Rows
abbrev TO:=St->Hp->(Option Int->Hp->Prop)->Prop
def PO (X:Cx) (e:Option bc) (t:TO):Prop :=
 ∀ (a:List (af×Obj)) (s:ak) (σ:St) (H:Hp) (Q:Option Int->Hp->Prop),bH X a σ H s->t σ H Q ->
  av (aF X.prog X.w) X.A (evalPart e X.env) (fun u s'=>∃ o H',bH X a σ H' s'/\xF u o/\Q o H') X.xe s
def SE:TO:=fun _ H Q=>Q none H
def Ym (t:TE):TO:=fun σ H Q=>t σ H fun x a=>∃ i,x=.int i/\Q (some i) a
section
variable {X:Cx}{e:bc}{te:TE}{lo hi:Option bc}{tl th:TO}{pos p2:Pos}
theorem SF:PO X none SE:=by
 intro a s σ H Q I h
 rw [evalPart_none]
 exact ag ⟨none,H,I,.none,h⟩
theorem SG (h:PE X e te):PO X (some e) (Ym te):=by
 intro b s σ H Q I f
 rw [evalPart_some]
 refine fE (h b s σ H _ I f) fun u k a=>?_
 obtain ⟨x,c,j,g,d⟩:=a
 obtain ⟨i,rfl,q⟩:=d
 obtain ⟨t,rfl⟩:=g
 exact ⟨some i,c,j,.int i t,q⟩
def Yn (X:Cx) (r:V->Option Int->Option Int->Hp->VK->Prop):Prop :=
 ∀ (a:List (af×Obj)) (s:ak) (σ:St) (H:Hp) (x:V) (v d c:ae) (lo hi:Option Int) (b:af) (Q:VK),bH X a σ H s->dq x v->s.heap.IsSliceOf b d c .none->xF d lo->xF c hi->r x lo hi H Q ->
  ∃ T id,zP (.type T) "__getitem__"=pure (some (.builtin id))/\s.TypeIs v T/\av (aF X.prog X.w) X.A (rX v (.ref b)) (EP X a σ Q) X.xe s
def tSl (r:V->Option Int->Option Int->Hp->VK->Prop) (te:TE) (tl th:TO):TE:=fun σ H Q=>te σ H fun x c=>tl σ c fun l b=>th σ b fun u a=>r x l u a Q
theorem OF {r:V->Option Int->Option Int->Hp->VK->Prop} (t:Yn X r) (he:PE X e te) (m:PO X lo tl) (o:PO X hi th):PE X (.Subscript e (.Slice lo hi none p2) pos) (tSl r te tl th):=by
 intro a s σ H Q I h
 refine Subscript_ (fE (he a s σ H _ I h) fun v i ⟨x,j,N,B,p⟩=>?_)
 refine wpAny_Slice (fE (m a i σ j _ N p) fun d E ⟨l,z,y,pl,G⟩=>fE (o a E σ z _ y G) fun f c ⟨u,g,n,M,P⟩=>?_)
 rw [evalPart_none]
 refine ag ?_
 have K:bH X a σ g { c with heap:=c.heap.push { cls:=.type "slice",data:=.fields #[d,f,.none] } }:=n.kept (t':=c.toks) fun b S q=>ai _ q
 obtain ⟨T,id,L,k,O⟩:=t a { c with heap:=c.heap.push { cls:=.type "slice",data:=.fields #[d,f,.none] } } σ g x v d f l u c.heap.objs.size Q K B (Heap.IsSliceOf.new ..) pl M P
 show av (aF X.prog X.w) X.A (Ma e (.Slice lo hi none p2) v (.ref c.heap.objs.size)) (EP X a σ Q) X.xe { c with heap:=c.heap.push { cls:=.type "slice",data:=.fields #[d,f,.none] } }
 exact tail_any (ops:=[.ref c.heap.objs.size,v]) k L O (by with_unfolding_all rfl)
def FJ (xs:List V) (lo hi:Option Int):List V:=(xs.drop (HT.js xs.length 0 lo)).take (HT.js xs.length xs.length hi-HT.js xs.length 0 lo)
theorem yz (xs:List V) (lo hi:Option Int):(FJ xs lo hi).length<=xs.length:=by
 unfold FJ
 rw [rG,zo]
 omega
def q0w (K:aa):V->Option Int->Option Int->Hp->VK->Prop:=fun x lo hi H Q=>∃ a xs,x=.ref a/\lz K H a xs /\
 ¬ (HT.js xs.length 0 lo=0/\HT.js xs.length xs.length hi=xs.length)/\∀ p,H p=none->Q (.ref p) (upd H p (.tup (FJ xs lo hi)))
theorem WB:Yn X (q0w X.K):=by
 intro i s σ H x v p t lo hi u Q I j hs pl l h
 obtain ⟨a,xs,rfl,m,k,q⟩:=h
 cases j
 obtain ⟨d,r,f,g⟩:=I.tuple m
 have c:d.toArray.size=xs.length:=by rw [aG];exact r.length.symm
 refine ⟨"tuple",_,PyProof.Rows.slot_tuple_getitem.lookup,f.typeIs,?_⟩
 refine HT.wv f hs pl l (by rw [c];exact k) ?_ (by rw [c];exact g)
 rw [c]
 refine ⟨.ref s.heap.objs.size,_,I.laid (t':=s.toks) (o:=.tup (FJ xs lo hi)) (fun b n q=>ai _ q) (aA _) ?_,rfl,q _ (I.hok.fresh (aA _))⟩
 exact ⟨bF (yz xs lo hi) g,_,(r.drop (HT.js xs.length 0 lo)).take (HT.js xs.length xs.length hi-HT.js xs.length 0 lo),yR _ _⟩
inductive OG (K:aa) (x:V) (y:V) (H:Hp) (Q:VK):Prop
 |mk (a b xs ys:_) (h0:x=.ref a) (h1:y=.ref b) (h2:lz K H a xs) (h3:lz K H b ys) (h4:xs≠[]) (h5:xs.length+ys.length<=sizeLine) (h6:(ys=[]->Q (.ref a) H)) (h7:(ys≠[]->∀ p,H p=none->Q (.ref p) (upd H p (.tup (xs++ys))))):OG K x y H Q
def Yo (K:aa):R2:=OG K
theorem cS.nil_iff {xs:List V}{us:List ae} (r:cS xs us):us=[]↔xs=[]:=by
 cases r with
 |nil=>simp
 |cons _ _=>simp
theorem SH:qu X (fG .Add) (Yo X.K):=by
 intro i s σ H x y v u Q I j t h
 obtain ⟨a,b,xs,ys,rfl,rfl,k,n,B,g,l,A⟩:=h
 cases j
 cases t
 obtain ⟨m,d,p,_⟩:=I.tuple k
 obtain ⟨f,c,p2,_⟩:=I.tuple n
 refine HT.SD p p2 (fun z=>B (d.nil_iff.mp z)) (fun z=>⟨.ref a,H,I,rfl,l (c.nil_iff.mp z)⟩) (fun z=>?_) (by rw [<- d.length,<- c.length];exact g)
 refine ⟨.ref s.heap.objs.size,_,I.laid (t':=s.toks) (o:=.tup (xs++ys)) (fun b E q=>ai _ q) (aA _) ?_,rfl,A (fun w=>z (c.nil_iff.mpr w)) _ (I.hok.fresh (aA _))⟩
 exact ⟨by rw [bB];exact g,_,d.append c,yR _ _⟩
end
end L2
namespace L2
open PySem PySem.Spec PyProof.Rows
def SJ (n:Nat) (i:Int):Option Nat:=if 0<=i then (if i<n then some i.toNat else none) else if -(n:Int)<=i then some (i+n).toNat else none
def Fp {α:Type} (xs:List α) (i:Int):Option α:=(SJ xs.length i).bind fun j=>xs[j]?
theorem SK {n:Nat}{i:Int}{j:Nat} (h:SJ n i=some j):seqIndex? i n=some j/\j<n/\-(n:Int)<=i/\i<n:=by
 unfold SJ at h
 by_cases b:0<=i
 ·rw [if_pos b] at h
  by_cases a:i<n
  ·rw [if_pos a] at h
   have e:i.toNat=j:=bO h
   exact ⟨by rw [seqIndex_of b a,e],by omega,by omega,a⟩
  ·rw [if_neg a] at h;cases h
 ·rw [if_neg b] at h
  by_cases a:-(n:Int)<=i
  ·rw [if_pos a] at h
   have e:(i+n).toNat=j:=bO h
   exact ⟨by rw [seqIndex_neg (by omega) a,e],by omega,a,by omega⟩
  ·rw [if_neg a] at h;cases h
theorem DR {α:Type}{xs:List α}{i:Int}{v:α} (h:Fp xs i=some v):∃ j,seqIndex? i xs.length=some j/\xs[j]?=some v/\j<xs.length/\-(xs.length:Int)<=i/\i<xs.length:=by
 unfold Fp at h
 cases e:SJ xs.length i with
 |none=>rw [e] at h;cases h
 |some j =>
  rw [e] at h
  obtain ⟨a,d,b,c⟩:=SK e
  exact ⟨j,a,h,d,b,c⟩
theorem tQ {α:Type}{xs:List α}{j:Nat}{v:α} (h:xs[j]?=some v):Fp xs (j:Int)=some v:=by
 have a:j<xs.length:=(List.getElem?_eq_some_iff.mp h).1
 have e:SJ xs.length (j:Int)=some j:=by
  unfold SJ
  rw [if_pos (by omega),if_pos (by omega)];simp
 unfold Fp;rw [e];exact h
def zA (b:bc):Prop:=∀ o i,Fj b false o i=operate [o,i] (rX o i)
def Yp (X:Cx) (r:R2):Prop :=
 ∀ (c a:bc) (b:List (af×Obj)) (s:ak) (σ:St) (H:Hp) (x y:V) (v u:ae) (Q:VK),bH X b σ H s->dq x v->dq y u->r x y H Q ->
  Fj a false v u=operate [v,u] (rX v u)->av (aF X.prog X.w) X.A (Ma c a v u) (EP X b σ Q) X.xe s
def MtR (X:Cx) (id:String) (r:V->List V->Hp->VK->Prop):Prop :=
 ∀ (a:List (af×Obj)) (s:ak) (σ:St) (H:Hp) (x:V) (xs:List V) (v:ae) (us:List ae) (Q:VK),bH X a σ H s->dq x v->cS xs us->r x xs H Q ->
  av (aF X.prog X.w) X.A (call (.builtin id) (v::us)) (EP X a σ Q) X.xe s
section
variable {X:Cx}{a b:bc}{ta tb:TE}{pos:Pos}
theorem V5 {r:R2} (f:Yp X r) (e:PE X a ta) (g:PE X b tb) (hs:zA b):PE X (.Subscript a b pos) (XS r ta tb):=by
 intro c s σ H Q I h
 exact Subscript_ (Wm e g I h fun v u l x y j i d k q=>f a b c l σ j x y v u Q i d k q (hs _ _))
inductive V6 (K:aa) (x:V) (y:V) (H:Hp) (Q:VK):Prop
 |mk (p xs i v:_) (h0:x=.ref p) (h1:y=.int i) (h2:pC K H p xs) (h3:Fp xs i=some v) (h4:Q v H):V6 K x y H Q
def Yq (K:aa):R2:=V6 K
inductive V7 (K:aa) (x:V) (y:V) (H:Hp) (Q:VK):Prop
 |mk (p xs i v:_) (h0:x=.ref p) (h1:y=.int i) (h2:lz K H p xs) (h3:Fp xs i=some v) (h4:Q v H):V7 K x y H Q
def q0x (K:aa):R2:=V7 K
inductive V8 (x:V) (y:V) (H:Hp) (Q:VK):Prop
 |mk (z i c:_) (h0:x=.str z) (h1:y=.int i) (h2:z.length<=sizeLine) (h3:Fp z.cps.toList i=some c) (h4:Q (.str ⟨#[c]⟩) H):V8 x y H Q
def q0y:R2:=V8
theorem tR:Yp X (Yq X.K):=by
 intro e l c s σ H x y v u Q I o G h hs
 obtain ⟨p,xs,i,z,rfl,rfl,B,he,q⟩:=h
 cases o
 obtain ⟨t,rfl⟩:=G
 obtain ⟨f,r,pl,N⟩:=I.list B
 obtain ⟨j,d,M,O,E,L⟩:=DR he
 obtain ⟨w,m,g⟩:=r.get M
 have A:=r.length
 have P:=xR
 have fin:EP X c σ Q w s:=⟨z,H,I,g,q⟩
 by_cases n:0<=i
 ·have k:i.toNat=j:=by
   rw [seqIndex_of n L] at d
   exact bO d
  exact item_listR pl.isList n (by omega) (by rw [k];simpa using m) fin hs
 ·have k:(i+(f.toArray.size:Int)).toNat=j:=by
   rw [seqIndex_neg (by omega) E] at d
   rw [aG,<- A]
   exact bO d
  exact O3 (x:=w) pl.isList.typeIs slot_list_getitem.lookup
   (wpAny_getItem_list_neg (Q:=fun r s'=>r=w/\EP X c σ Q r s') pl.isList (by omega) (by rw [aG]<;>omega) (by omega) (by rw [k];simpa using m) ⟨rfl,fin⟩) hs
theorem WC:Yp X (q0x X.K):=by
 intro d f c s σ H x y v u Q I k o h hs
 obtain ⟨p,xs,i,z,rfl,rfl,m,he,q⟩:=h
 cases k
 obtain ⟨t,rfl⟩:=o
 obtain ⟨n,r,pl,E⟩:=I.tuple m
 obtain ⟨j,g,A,G,L,N⟩:=DR he
 obtain ⟨w,B,e⟩:=r.get A
 have l:=r.length
 have M:=xR
 have fin:EP X c σ Q w s:=⟨z,H,I,e,q⟩
 exact O3 (x:=w) pl.typeIs slot_tuple_getitem.lookup
  (getItem_tuple (j:=j) (Q:=fun r s'=>r=w/\EP X c σ Q r s') pl (by omega) (by omega) (by rw [aG,<- l];exact g) (by simpa using B) ⟨rfl,fin⟩) hs
theorem WD:Yp X q0y:=by
 intro d e g s σ H x y v u Q I k o h hs
 obtain ⟨z,i,c,rfl,rfl,B,he,q⟩:=h
 obtain ⟨t,rfl⟩:=k
 obtain ⟨t',rfl⟩:=o
 obtain ⟨j,f,w,E,m,p⟩:=DR he
 have l:z.cps.toList.length=z.length:=by simp [Str.length]
 rw [l] at f m p
 have G:=xR
 exact tail_any (typeIs_str s z t) slot_str_getitem.lookup (getItem_str (c:=c) (by
  have n:decide (i < -(2 ^ 63:Int))=false:=decide_eq_false (by omega)
  have A:decide (i ≥ 2 ^ 63)=false:=decide_eq_false (by omega)
  rw [n,A,Bool.or_false]) (by rw [f];simpa using w) ⟨.str ⟨#[c]⟩,H,I.tok _,⟨_,rfl⟩,q⟩) hs
theorem DS (lo c:Option Int) (n:Nat):(nU lo c none n).1=((HT.js n 0 lo:Nat):Int)/\(nU lo c none n).2.1=((HT.js n n c:Nat):Int)/\(nU lo c none n).2.2=1:=by
 refine ⟨?_,?_,rfl⟩
 ·cases lo with
  |none=>simp [nU,HT.js]
  |some i =>
   simp only [nU,HT.js,ig,show (1:Int) > 0 by decide,if_true]
   by_cases h:i<0
   ·simp only [h,if_true]<;>omega
   ·simp only [h,if_false]<;>omega
 ·cases c with
  |none=>simp [nU,HT.js]
  |some i =>
   simp only [nU,HT.js,ig,show (1:Int) > 0 by decide,if_true]
   by_cases h:i<0
   ·simp only [h,if_true]<;>omega
   ·simp only [h,if_false]<;>omega
theorem BK (c:List ae) (lo d:Option Int):slicePick c.toArray lo d none=((c.drop (HT.js c.length 0 lo)).take (HT.js c.length c.length d-HT.js c.length 0 lo)).toArray:=by
 obtain ⟨e,g,f⟩:=DS lo d c.toArray.size
 unfold slicePick
 rw [e,g,f]
 simp only [sliceRange_one,pick_run,aG]<;>rfl
def q0z (K:aa):V->Option Int->Option Int->Hp->VK->Prop:=fun x lo c H Q=>∃ a xs,x=.ref a/\pC K H a xs/\∀ p,H p=none->Q (.ref p) (upd H p (.lst (FJ xs lo c)))
theorem SL:Yn X (q0z X.K):=by
 intro f s σ H x v n p lo d t Q I g hs pl k h
 obtain ⟨a,xs,rfl,l,q⟩:=h
 cases g
 obtain ⟨j,r,e,i⟩:=I.list l
 have c:=r.length
 refine ⟨"list",_,slot_list_getitem.lookup,e.isList.typeIs,?_⟩
 refine wpAny_getItem_list_slice e.isList hs pl k .none (by simp) ?_ (by rw [aG]<;>omega)
 rw [BK,<- c]
 refine ⟨.ref s.heap.objs.size,_,I.laid (t':=s.toks) (o:=.lst (FJ xs lo d)) (fun b m q=>ai _ q) (aA _) ?_,rfl,q _ (I.hok.fresh (aA _))⟩
 exact ⟨bF (yz xs lo d) i,_,0,(r.drop (HT.js xs.length 0 lo)).take (HT.js xs.length xs.length d-HT.js xs.length 0 lo),aD _ rfl⟩
def sx:V->Bool
 |.non=>true
 |.bl _=>true
 |.int _=>true
 |.str _=>true
 |_=>false
def SO:V->V->Bool
 |.non,.non=>true
 |.bl a,.bl b=>a==b
 |.bl a,.int b=>(if a then 1 else 0)==b
 |.int a,.bl b=>a==(if b then 1 else 0)
 |.int a,.int b=>a==b
 |.str a,.str b=>a==b
 |_,_=>false
theorem WE {A:bh}{s:ak}{y x:V}{u v:ae} (e:dq y u) (c:dq x v) (f:sx y=true) (d:sx x=true):Mb A s u v (SO y x):=by
 cases y with
 |non =>
  cases e
  cases x with
  |non=>cases c;exact SeqAt.EqAt.same _
  |bl b=>cases c;exact SeqAt.EqAt.none_bool b
  |int b=>obtain ⟨t,rfl⟩:=c;exact SeqAt.EqAt.none_int b t
  |str b=>obtain ⟨t,rfl⟩:=c;exact SeqAt.EqAt.none_str b t
  |_=>exact absurd (show false=true from d) aQ
 |bl a =>
  cases e
  cases x with
  |non=>cases c;exact SeqAt.EqAt.bool_none a
  |bl b=>cases c;exact Ch a b
  |int b=>obtain ⟨t,rfl⟩:=c;exact SeqAt.EqAt.bool_int a b t
  |str b=>obtain ⟨t,rfl⟩:=c;exact SeqAt.EqAt.bool_str a b t
  |_=>exact absurd (show false=true from d) aQ
 |int a =>
  obtain ⟨t',rfl⟩:=e
  cases x with
  |non=>cases c;exact SeqAt.EqAt.int_none a t'
  |bl b=>cases c;exact SeqAt.EqAt.int_bool a t' b
  |int b=>obtain ⟨t,rfl⟩:=c;exact SeqAt.EqAt.int_int a t' b t
  |str b=>obtain ⟨t,rfl⟩:=c;exact Fc a t' b t
  |_=>exact absurd (show false=true from d) aQ
 |str a =>
  obtain ⟨t',rfl⟩:=e
  cases x with
  |non=>cases c;exact SeqAt.EqAt.str_none a t'
  |bl b=>cases c;exact SeqAt.EqAt.str_bool a t' b
  |int b=>obtain ⟨t,rfl⟩:=c;exact Fd a t' b t
  |str b=>obtain ⟨t,rfl⟩:=c;exact SeqAt.EqAt.str_str a t' b t
  |_=>exact absurd (show false=true from d) aQ
 |_=>exact absurd (show false=true from f) aQ
def IY (x:V) (u:ae):Bool:=match u with
 |.none=>SO .non x
 |.bool b=>SO (.bl b) x
 |.int i _=>SO (.int i) x
 |.str z _=>SO (.str z) x
 |_=>false
theorem OH {x y:V}{u:ae} (r:dq y u) (f:sx y=true):IY x u=SO y x:=by
 cases y with
 |non=>cases r;rfl
 |bl b=>cases r;rfl
 |int i=>obtain ⟨t,rfl⟩:=r;rfl
 |str z=>obtain ⟨t,rfl⟩:=r;rfl
 |_=>exact absurd (show false=true from f) aQ
theorem ww {x:V}:∀ {xs:List V}{us:List ae},cS xs us->xs.all sx=true->us.any (IY x)=xs.any fun y=>SO y x
 |_,_,.nil,_=>rfl
 |y::xs,u::us,.cons r t,f=>by
  rw [wk,aP] at f
  rw [fX,fX,OH r f.1,ww t f.2]
theorem sy {A:bh}{s:ak}{x:V}{v:ae} (e:dq x v) (d:sx x=true):∀ {xs:List V}{us:List ae},cS xs us->xs.all sx=true->∀ u∈us,Mb A s u v (IY x u)
 |_,_,.nil,_=>fun u c=>by cases c
 |y::xs,u::us,.cons r t,f=>fun g c=>by
  rw [wk,aP] at f
  rcases List.mem_cons.mp c with rfl|c
  ·rw [OH r f.1];exact WE r e f.1 d
  ·exact sy e d t f.2 g c
def inV (x:V) (xs:List V):Bool:=xs.any fun y=>SO y x
inductive Yr (K:aa) (neg:Bool) (x:V) (y:V) (H:Hp) (Q:VK):Prop
 |mk (p xs:_) (h0:y=.ref p) (h1:(pC K H p xs\/lz K H p xs)) (h2:sx x=true) (h3:xs.all sx=true) (h4:Q (.bl (if neg then !inV x xs else inV x xs)) H):Yr K neg x y H Q
def rIn (K:aa) (c:Bool):R2:=Yr K c
theorem Mt:qu X (bK .In) (rIn X.K false):=by
 intro g s σ H x y v u Q I f k h
 obtain ⟨p,xs,rfl,d,i,fs,q⟩:=h
 cases k
 rcases d with d|d
 ·obtain ⟨c,r,pl,j⟩:=I.list d
  refine SeqAt.in_listAt (IY x) pl.isList (fun w e=>sy f i r fs w (by simpa using e)) ⟨.bl _,H,I,rfl,?_⟩
  rw [show c.toArray.any (IY x)=c.any (IY x) by simp,ww r fs]
  exact q
 ·obtain ⟨c,r,pl,j⟩:=I.tuple d
  refine SeqAt.in_tupleAt (IY x) pl (fun w e=>sy f i r fs w (by simpa using e)) ⟨.bl _,H,I,rfl,?_⟩
  rw [show c.toArray.any (IY x)=c.any (IY x) by simp,ww r fs]
  exact q
theorem DT:qu X (bK .NotIn) (rIn X.K true):=by
 intro g s σ H x y v u Q I f k h
 obtain ⟨p,xs,rfl,d,i,fs,q⟩:=h
 cases k
 rcases d with d|d
 ·obtain ⟨c,r,pl,j⟩:=I.list d
  refine SeqAt.notIn_listAt (IY x) pl.isList (fun w e=>sy f i r fs w (by simpa using e)) ⟨.bl _,H,I,rfl,?_⟩
  rw [show c.toArray.any (IY x)=c.any (IY x) by simp,ww r fs]
  exact q
 ·obtain ⟨c,r,pl,j⟩:=I.tuple d
  refine SeqAt.notIn_tupleAt (IY x) pl (fun w e=>sy f i r fs w (by simpa using e)) ⟨.bl _,H,I,rfl,?_⟩
  rw [show c.toArray.any (IY x)=c.any (IY x) by simp,ww r fs]
  exact q
theorem wx:jX X (.builtin "len") (fun xs H Q=>∃ p ys,xs=[.ref p]/\(pC X.K H p ys\/lz X.K H p ys)/\Q (.int ys.length) H):=by
 intro g s σ H xs us Q I r h
 obtain ⟨p,ys,rfl,d,q⟩:=h
 obtain ⟨u,rfl,i⟩:=mz r
 cases i
 have k:=xR
 rcases d with d|d
 ·obtain ⟨e,f,pl,j⟩:=I.list d
  have c:=f.length
  exact Calls.call_len_list pl.isList (by simp only [aG]<;>omega) ⟨.int ys.length,H,I.tok _,⟨s.toks+1,by rw [aG,c]⟩,q⟩
 ·obtain ⟨e,f,pl,j⟩:=I.tuple d
  have c:=f.length
  exact len_tuple pl (by simp only [aG]<;>omega) ⟨.int ys.length,H,I.tok _,⟨s.toks+1,by rw [aG,c]⟩,q⟩
theorem DU:jX X (.builtin "len") (fun xs H Q=>∃ z,xs=[.str z]/\z.length<=sizeLine/\Q (.int z.length) H):=by
 intro c s σ H xs us Q I r h
 obtain ⟨z,rfl,e,q⟩:=h
 obtain ⟨u,rfl,t,rfl⟩:=mz r
 have d:=xR
 exact len_str (by omega) ⟨.int z.length,H,I.tok _,⟨_,rfl⟩,q⟩
theorem qA:jX X (.type "list") (fun xs H Q=>∃ p ys,xs=[.ref p]/\(pC X.K H p ys\/lz X.K H p ys)/\∀ l,H l=none->Q (.ref l) (upd H l (.lst ys))):=by
 intro j s σ H xs us Q I r h
 obtain ⟨p,ys,rfl,i,q⟩:=h
 obtain ⟨u,rfl,x⟩:=mz r
 cases x
 have fin:∀ (c:List ae),cS ys c->ys.length<=sizeLine->∀ (h':bA) (d:Nat),(∀ b v,s.heap.get? b=some v->h'.get? b=some v) ->
   h'.get? s.heap.objs.size=some { cls:=.type "list",dict:=none,data:=.seq c.toArray d,slots:=#[] }->EP X j σ Q (.ref s.heap.objs.size) { s with heap:=h' }:=fun c f g h' d kp e =>
  ⟨.ref s.heap.objs.size,_,I.laid (t':=s.toks) kp (aA _) (show dw X.prog X.w _ h' _ (.lst ys) from ⟨g,c,d,f,e⟩),rfl,q _ (I.hok.fresh (aA _))⟩
 rcases i with i|i
 ·obtain ⟨c,f,pl,g⟩:=I.list i
  have k:=f.length
  obtain ⟨o,ho,m,n,t⟩:=pl.isList
  exact call_list_seq p (.inl rfl) ho m t (fun h' d kp e=>fin c f g h' d kp e) (by simp only [aG]<;>omega)
 ·obtain ⟨c,f,pl,g⟩:=I.tuple i
  have k:=f.length
  obtain ⟨o,ho,m,n,t⟩:=pl
  exact call_list_seq p (.inr rfl) ho m t (fun h' d kp e=>fin c f g h' d kp e) (by simp only [aG]<;>omega)
theorem uS:jX X (.type "tuple") (fun xs H Q=>∃ p ys,xs=[.ref p]/\((pC X.K H p ys/\∀ l,H l=none->Q (.ref l) (upd H l (.tup ys)))\/(lz X.K H p ys/\Q (.ref p) H))):=by
 intro c s σ H xs us Q I r h
 obtain ⟨p,ys,rfl,h⟩:=h
 obtain ⟨u,rfl,m⟩:=mz r
 cases m
 rcases h with ⟨f,q⟩|⟨f,q⟩
 ·obtain ⟨d,g,pl,i⟩:=I.list f
  have j:=g.length
  refine call_tuple_list pl.isList (fun h' kp=>?_) (by simp only [aG]<;>omega)
  have k:bH X c σ H { s with heap:=h' }:=I.kept (t':=s.toks) kp
  have n:bH X c σ (upd H h'.objs.size (.tup ys)) { s with heap:=h'.push { cls:=.type "tuple",data:=.seq d.toArray } } :=
   k.laid (t':=s.toks) (fun b o e=>ai _ e) (aA _) (show dw X.prog X.w _ _ _ (.tup ys) from ⟨i,d,g,yR _ _⟩)
  exact ⟨.ref h'.objs.size,_,n,rfl,q _ (k.hok.fresh (aA _))⟩
 ·obtain ⟨d,g,pl,i⟩:=I.tuple f
  exact call_tuple_same pl ⟨.ref p,H,I,rfl,q⟩
def tyV (K:aa) (T:String) (x:V) (H:Hp):Prop:=match x with
 |.str _=>T="str"
 |.int _=>T="int"
 |.ref p=>(T="list"/\∃ xs,pC K H p xs)\/(T="tuple"/\∃ o,K.lookup p=some o/\o.cls=.type "tuple"/\o.dict=none) \/
   (T="dict"/\((∃ kvs,H p=some (.dK kvs))\/∃ kvs,H p=some (.dT kvs)))\/(T="set"/\∃ S n,H p=some (.set S n))
 |_=>False
theorem OI {g:List (af×Obj)}{σ:St}{H:Hp}{s:ak}{T:String}{x:V}{v:ae} (I:bH X g σ H s) (r:dq x v) (ty:tyV X.K T x H) :
  s.TypeIs v T/\∀ a,v=.ref a->∃ k,s.heap.get? a=some k/\k.dict=none:=by
 cases x with
 |str z =>
  obtain ⟨t,rfl⟩:=r
  cases (show T="str" from ty)
  exact ⟨typeIs_str s z t,fun _ e=>nomatch e⟩
 |int i =>
  obtain ⟨t,rfl⟩:=r
  cases (show T="int" from ty)
  exact ⟨typeIs_int s i t,fun _ e=>nomatch e⟩
 |ref p =>
  cases r
  rcases ty with ⟨rfl,xs,l⟩|⟨rfl,o,d,hc,h⟩|⟨rfl,d⟩|⟨rfl,S,n,d⟩
  ·obtain ⟨m,_,pl,_⟩:=I.list l
   refine ⟨pl.isList.typeIs,fun a e=>?_⟩
   cases e
   obtain ⟨o,n,e,c,h,_⟩:=pl
   exact ⟨o,e,h⟩
  ·refine ⟨⟨o,I.kIn p o d,hc⟩,fun a e=>?_⟩
   cases e
   exact ⟨o,I.kIn _ o d,h⟩
  ·have z:∃ o,s.heap.get? p=some o/\o.ExactDict:=by
    rcases d with ⟨kvs,d⟩|⟨kvs,d⟩
    ·obtain ⟨_,_,_,_,o,_,_,e,f,_⟩:=I.hok p _ d
     exact ⟨o,e,f⟩
    ·obtain ⟨_,_,_,_,o,_,_,e,f,_⟩:=I.hok p _ d
     exact ⟨o,e,f⟩
   obtain ⟨o,e,f⟩:=z
   refine ⟨⟨o,e,f.1⟩,fun a j=>?_⟩
   cases j
   exact ⟨o,e,f.2.1⟩
  ·obtain ⟨o,_,_,_,e,f,_⟩:=I.hok p _ d
   refine ⟨⟨o,e,f.1⟩,fun a j=>?_⟩
   cases j
   exact ⟨o,e,f.2.1⟩
 |_=>exact dC ty
def q0A (K:aa) (T:String) (r:V->List V->Hp->VK->Prop) (d:TE):TE:=fun σ H Q=>d σ H fun x c=>tyV K T x c/\r x [] c Q
def tBM (K:aa) (T:String) (r:V->List V->Hp->VK->Prop) (d:TE) (t:TA):TE:=fun σ H Q=>d σ H fun x c=>tyV K T x c/\t σ c fun xs e=>r x xs e Q
variable {o e:bc}{es:List bc}{to:TE}{t:TA}{name:Str}{apos cpos:Pos}{T id:String}{r:V->List V->Hp->VK->Prop}
theorem OJ (pa:PlainAttrs T) (g:Slot T name id) (i:typeOf (.builtin id)=pure (.type "method_descriptor")) (q:MtR X id r) (ho:PE X o to)
  (f:dB o name X.env (bG o X.env)=bG o X.env:=by rfl) (d:(apos.endLine==cpos.line)=true:=by rfl):PE X (.Call (.Attribute o name apos) [] [] cpos) (q0A X.K T r to):=by
 intro c s σ H Q I h
 refine wpAny_Call_method0_late f d (fE (ho c s σ H _ I h) fun v m ⟨x,n,k,j,ty,p⟩=>?_)
 obtain ⟨l,u⟩:=OI k j ty
 exact ⟨T,id,pa,g,i,l,u,Fv rfl (PySem.evalArgs_none (q c m σ n x [] v [] Q k j .nil p))⟩
theorem yA (pa:PlainAttrs T) (k:Slot T name id) (l:typeOf (.builtin id)=pure (.type "method_descriptor")) (A:MtR X id r) (ho:PE X o to) (y:PA X (e::es) t)
  (g:dB o name X.env (bG o X.env)=bG o X.env:=by rfl)
  (j:((cC cpos (ao (e::es) X.env)).all (fun x=>!x.1)&&(ii cpos (ef [] X.env)).all (fun x=>x.1.isSome)
   && decide ((e::es).length+([] : List kh).length+(if ([] : List kh).isEmpty then 0 else 1)<30))=true:=by rfl)
  (f:(apos.endLine==cpos.line)=true:=by rfl) (hs:ao (e::es) X.env=(false,bG e X.env)::ao es X.env:=by rfl) (d:(cC cpos (ao es X.env)).any (·.1)=false:=by rfl) :
  PE X (.Call (.Attribute o name apos) (e::es) [] cpos) (tBM X.K T r to t):=by
 intro c s σ H Q I h
 refine wpAny_Call_method_late g j f rfl (fE (ho c s σ H _ I h) fun v u ⟨x,w,p,n,ty,z⟩=>?_)
 obtain ⟨q,M⟩:=OI p n ty
 refine ⟨T,id,pa,k,l,q,M,?_⟩
 have m:=y cpos c u σ w _ p z
 rw [hs] at m ⊢
 refine Fv (by show (false||(cC cpos (ao es X.env)).any (·.1))=false;rw [d]<;>rfl) (Ik ?_)
 exact fE m fun us G i=>by obtain ⟨vs,E,B,N,L⟩:=i;exact A c G σ E x vs v us Q B n N L
end
end L2
namespace L2
open PySem PySem.Spec PyProof.Rows
def MtM (X:Cx) (id:String) (r:V->List V->Hp->VK->Prop):Prop :=
 ∀ (a:List (af×Obj)) (s:ak) (σ:St) (H:Hp) (x:V) (xs:List V) (v:ae) (us:List ae) (Q:VK),bH X a σ H s->dq x v->cS xs us->r x xs H Q ->
  av (aF X.prog X.w) X.A (call (.builtin id) (v::us)) (EP X a σ Q) X.xe s
theorem cS.one {x:V}{us:List ae} (h:cS [x] us):∃ u,us=[u]/\dq x u:=by
 cases h with|cons r t=>cases t;exact ⟨_,rfl,r⟩
theorem cS.zero:∀ {us:List ae},cS [] us->us=[]
 |_,.nil=>rfl
theorem cS.dropLast {xs:List V}{us:List ae} (h:cS xs us):cS xs.dropLast us.dropLast:=by
 induction h with
 |nil=>exact .nil
 |cons r t a =>
  cases t with
  |nil=>exact .nil
  |cons q t'=>exact .cons r a
theorem IZ {α:Type} (l:List α):l.eraseIdx (l.length-1)=l.dropLast:=by
 induction l with
 |nil=>rfl
 |cons a r c =>
  cases r with
  |nil=>rfl
  |cons b r =>
   have e:(a::b::r).length-1=((b::r).length-1)+1:=by
    have d:(a::b::r).length=r.length+2:=rfl
    have f:(b::r).length=r.length+1:=rfl
    omega
   rw [e,Fx,c]
   all_goals rfl
section
variable {X:Cx}{pins:List (af×Obj)}{σ:St}{H:Hp}{s:ak}{l b:af}{xs ys zs:List V}
theorem bH.lset {a its':List ae}{n:Nat}{f:Array ae->Array ae}{t':Nat} (I:bH X pins σ H s) (i:H l=some (.lst xs))
  (e:s.heap.get? l=some { cls:=.type "list",data:=.seq a.toArray n }) (g:f a.toArray=its'.toArray) (d:cS ys its') (j:ys.length<=sizeLine) :
  bH X pins σ (upd H l (.lst ys)) { s with heap:=s.heap.update l (l_ f),toks:=t' }:=by
 have q:=PySem.IsL.update e f
 rw [g] at q
 refine I.write (x:=l) (e:=l) (by rw [i];exact trivial) (.inl rfl) (fun k u h c=>(rY s.heap (l_ f) (eC h)).trans c) ⟨_,q⟩ ?_
 exact ⟨j,its',_,d,q⟩
theorem bH.lnew {a:List ae}{t':Nat} (I:bH X pins σ H s) (c:cS ys a) (d:ys.length<=sizeLine) :
  bH X pins σ (upd H s.heap.objs.size (.lst ys)) { s with heap:=s.heap.push { cls:=.type "list",data:=.seq a.toArray },toks:=t' } :=
 I.laid (fun _ _ q=>ai _ q) (aA _) ⟨d,a,0,c,aD _ rfl⟩
theorem bH.fresh (I:bH X pins σ H s):H s.heap.objs.size=none:=I.hok.fresh (aA _)
theorem bH.lstM (I:bH X pins σ H s) (c:H l=some (.lst xs)):InM s.heap l xs:=by
 obtain ⟨z,a,n,r,e⟩:=I.hok l _ c
 exact ⟨z,a,n,r,r.length,e⟩
theorem OK {n:Nat} (h:n<=sizeLine):mP n=false:=by
 unfold mP
 exact decide_eq_false (by omega)
end
section
variable {X:Cx}
inductive FK (x:V) (vs:List V) (H:Hp) (Q:VK):Prop
 |mk (l xs y:_) (h0:x=.ref l) (h1:vs=[y]) (h2:H l=some (.lst xs)) (h3:xs.length<sizeLine) (h4:Q .non (upd H l (.lst (xs++[y])))):FK x vs H Q
def SQ:V->List V->Hp->VK->Prop:=FK
theorem tS:MtM X "list.append" SQ:=by
 intro b s σ H x vs v us Q I d f h
 obtain ⟨l,xs,y,rfl,rfl,c,j,q⟩:=h
 cases d
 obtain ⟨u,rfl,g⟩:=f.one
 obtain ⟨z,a,n,r,i,e⟩:=I.lstM c
 refine qy F.slot_list_append ⟨_,e,rfl⟩ F.entry_list_append (F.args_list_append_2 _ _) (PySem.list_append l a.toArray n u (by rw [aG];omega)) ⟨e,?_⟩
 refine ⟨.non,_,I.lset (its':=a++[u]) c e (by simp) (r.append (.cons g .nil)) ?_,rfl,q⟩
 rw [bB,lI]
 omega
inductive FL (x:V) (vs:List V) (H:Hp) (Q:VK):Prop
 |mk (l b xs zs:_) (h0:x=.ref l) (h1:vs=[.ref b]) (h2:H l=some (.lst xs)) (h3:H b=some (.lst zs)) (h4:xs.length+zs.length<=sizeLine) (h5:Q .non (upd H l (.lst (xs++zs)))):FL x vs H Q
def SS:V->List V->Hp->VK->Prop:=FL
theorem CB:MtM X "list.extend" SS:=by
 intro f s σ H x vs v us Q I i k h
 obtain ⟨l,b,xs,A,rfl,rfl,g,w,B,q⟩:=h
 cases i
 obtain ⟨u,rfl,m⟩:=k.one
 cases m
 obtain ⟨z,c,n,r,y,e⟩:=I.lstM g
 obtain ⟨E,a,j,o,p,t⟩:=I.lstM w
 have hsz:c.toArray.size+a.toArray.size<=sizeLine:=by rw [aG,aG];omega
 have d:¬ (!c.toArray.isEmpty&&mP (c.toArray.size+a.toArray.size))=true:=by
  rw [OK hsz,nY]
  exact aQ
 refine qy F.slot_list_extend ⟨_,e,rfl⟩ F.entry_list_extend (F.args_list_extend_2 _ _)
  (AutoSeq1.list_extend_list_list_0 l c.toArray n b a.toArray j d (by rw [aG];omega) (by omega)) ⟨e,t,?_⟩
 refine ⟨.non,_,I.lset (its':=c++a) g e (by simp) (r.append o) ?_,rfl,q⟩
 rw [bB]
 omega
def q0B:V->List V->Hp->VK->Prop:=fun x vs H Q=>∃ l xs y,x=.ref l/\vs=[]/\H l=some (.lst xs)/\xs[xs.length-1]?=some y/\Q y (upd H l (.lst xs.dropLast))
theorem WF:MtM X "list.pop" q0B:=by
 intro d s σ H x vs v us Q I i m h
 obtain ⟨l,xs,y,rfl,rfl,f,g,q⟩:=h
 cases i
 have c:=m.zero
 subst c
 obtain ⟨z,a,n,r,j,e⟩:=I.lstM f
 obtain ⟨u,k,o⟩:=r.get g
 have b:a.toArray[a.toArray.size-1]?=some u:=by
  show a.toArray[a.length-1]?=some u
  rw [<- dQ,<- j]
  exact k
 refine qy F.slot_list_pop ⟨_,e,rfl⟩ F.entry_list_pop (F.args_list_pop_1 _) (MeetsSeq.list_pop_last l a.toArray n u b (by rw [aG];omega)) ⟨e,?_⟩
 refine ⟨y,_,I.lset (its':=a.dropLast) f e ?_ r.dropLast ?_,o,q⟩
 ·show a.toArray.eraseIdxIfInBounds (a.toArray.size-1)=a.dropLast.toArray
  rw [aG,List.eraseIdxIfInBounds_toArray,IZ]
 ·rw [List.length_dropLast]
  omega
def WG:V->List V->Hp->VK->Prop:=fun x vs H Q=>∃ l xs,x=.ref l/\vs=[]/\H l=some (.lst xs)/\Q .non (upd H l (.lst []))
theorem OL:MtM X "list.clear" WG:=by
 intro c s σ H x vs v us Q I f g h
 obtain ⟨l,xs,rfl,rfl,d,q⟩:=h
 cases f
 have a:=g.zero
 subst a
 obtain ⟨z,b,n,r,i,e⟩:=I.lstM d
 refine qy F.slot_list_clear ⟨_,e,rfl⟩ F.entry_list_clear (F.args_list_clear_1 _) (AutoSeq1.list_clear_list_0 l b.toArray n (by rw [aG];omega)) ⟨e,?_⟩
 exact ⟨.non,_,I.lset (its':=[]) (ys:=[]) d e rfl .nil (cy _),rfl,q⟩
end
section
variable {prog:aV}{w:bi}{A:bh}{E:ae->ak->Prop}{s:ak}
end
section
variable {X:Cx}
end
end L2
namespace Att
open PySem PySem.W PySem.Calls PyProof.Rows
theorem y_ {P:Params}{h:bA}:∀ (c:List Int) (vs:List ae),WellAll P h vs (c.map WData.int)->O4 vs c:=by
 intro c
 induction c with
 |nil =>
  intro vs w
  rw [iG] at w
  cases w
  exact .nil
 |cons n c d =>
  intro vs w
  rw [aW] at w
  cases w with
  |cons a b =>
   cases a
   exact .cons _ _ (d _ b)
theorem Mv {l:OpenLaw}{n:Nat} (v:l.most=some n) {P:Params}{h:bA}{args:List WData}{c:List ae}
  (e:l.row.toRowW.claim.pre args=true) (k:WellAll P h c args) :
  ∃ a vs b,c=[bn a]/\args=[WData.list (b.map WData.int)]/\h.get? a=some { cls:=.type "list",data:=.seq vs.toArray }/\O4 vs b/\b.length<=n:=by
 have m:WShape.hasAll [] args [.list .int]=true:=(pre_splitW e).1
 have o:l.pre.holds [] { args:=args }=true:=(pre_splitW e).2
 obtain ⟨d,r,rfl,s,w⟩:=hasAllW_cons m
 obtain rfl:=hasAllW_nil w
 obtain ⟨xs,rfl,u⟩:=hasW_list s
 obtain ⟨b,rfl⟩:=items_int u
 have g:b.length<=n:=by
  unfold OpenLaw.pre at o
  have i:(WTm.not (.lt (.lit (.int (n:Int))) (.len (.arg 0)))).holds [] { args:=[.list (b.map .int)] }=true:=by
   have i:=(holds_andW o).1
   rw [v] at i
   exact i
  have j:=condW_of i (w_not (w_lt w_lit (w_len_list (w_arg rfl))))
  rw [aw] at j
  refine S1 fun q=>?_
  have q':(n:Int)<((b.length:Nat):Int):=by omega
  first
   |(rw [decide_eq_true q'] at j;exact absurd j (by decide))
   |(simp at j;omega)
 cases k with
 |cons p t =>
  cases t
  cases p with
  |list ho f=>exact ⟨_,_,b,rfl,rfl,ho,y_ b _ f,g⟩
theorem Mw (l:OpenLaw) (args:List WData):l.row.toRowW.claim.post args (.bool true) args=true :=
 postW_of (r:=l.row.toRowW) (X:=(true==true))
  (show WShape.has [] (.bool true) .bool=true by first|rfl|decide|simp [WShape.has,WShape.arms,WShape.armsAll])
  (show (WTm.eq .res (.lit (.bool true))).value [] { args:=args,res:=some (.bool true),after:=args }=some (.bool (true==true)) from w_eq_bool (w_res rfl) w_lit) rfl
theorem attach_call {l:OpenLaw}{n:Nat}{q:aV}{c:List Str}{L:(Str->Option ae)->bA->Prop}{B:bi->bA->Prop}{d:DefRec}
  (T:l.most=some n) (z:d.params.defaults=[])
  (call:∀ (w:bi) (e b:ak) (t v:Str->Option ae) (i:af) (o:Obj) (A p g:ae) (a:af) (vs:List ae) (s:List Int),
   Ground q c [] L w e t v b.heap->B w b.heap ->
   b.heap.get? i=some o->o.data=.func (docDef d.name d.params d.body d.scope A p g)->b.heap.CodeRec p d.name->t d.name=some (.ref i) ->
   b.heap.get? a=some { cls:=.type "list",data:=.seq vs.toArray }->O4 vs s->s.length<=n->b.gens=#[] ->
   gZ (aF l.prog w) yt (.call (.ref i) ⟨[.ref a],[]⟩) (fun r s'=>r=.ok (.ret (.bool true))/\OldK b.heap s'.heap/\s'.os=b.os/\rW s'.gens) b) :
  WalkO q c L B l.row.toRowW d [] (fun f vs=>Mc f vs):=by
 intro w e b t v G Y i o A p g M kV ho X u K y hg I H as j E U x Q
 obtain rfl:M=.none:=Dflts.none K z
 obtain rfl:kV=.none:=Dflts.noKw K
 obtain ⟨a,vs,s,rfl,rfl,k,h,m⟩:=Mv T j x
 refine enter_call (lW (call w e b t v i o A p g a vs s G Y ho (fd_plain X) u y k h m hg) fun r s' O=>?_)
 obtain ⟨rfl,h2,N,P⟩:=O
 exact ⟨.inl ⟨.bool true,.bool true,[],rfl,fun _=>rfl,.bool true,Mw l _,fun _=>⟨Ci,fun _ S=>(nomatch S)⟩⟩,h2,N,P⟩
section
variable {prog:aV}{w:bi}{A:bh}{E:ae->ak->Prop}{s:ak}{K:Frag}
def q0C (h:bA) (L d:af):List (af×Obj):=(br h.objs.size).filterMap fun a=>if a=L\/a=d then none else (h.get? a).map fun o=>(a,o)
end
end Att
namespace L2
open PySem PySem.Spec PyProof.Rows
theorem Mx {vs:List ae}{a:List Int} (h:O4 vs a):cS (a.map V.int) vs:=by
 induction h with
 |nil=>exact .nil
 |cons n t h b=>exact .cons ⟨t,rfl⟩ b
def WH (H:Hp):Prop:=∀ b,H b=none\/∃ o xs,H b=some (.frz o (.lst xs))
theorem OM {P:aV}{w:bi}{K:aa}{B S:Str->Option ae}{CX:Ky}{k:Nat}{T a:af}{fd:cr}{x:Str}{sp:Sp}{c:ak}{vs:List ae}{t:List Int}
  (KX:K.In c.heap) (G:c.heap.Ns bq B) (g:c.heap.Ns builtinsNs S) (a0:∀ x:Str,x≠"__name__"->S x=j0 x) (O:c.heap.NoLimit) (hg:c.gens=#[])
  (Q:c.heap.get? a=some { cls:=.type "list",data:=.seq vs.toArray }) (hi:O4 vs t) (hl:t.length<=sizeLine) (hr:fJ k yt)
  (F:∀ base:bA,K.In base->base.Ns bq B->l8 P w K B base CX k T fd [x] sp) (l:∀ (s:ak) (u:ae),yr s fd ⟨[u],[]⟩ [(x,u)])
  (X:∀ H:Hp,WH H->pC K H a (t.map V.int)->sp [.ref a] H (fun v _=>v=.bl true) fun _ _ _=>False)
  (Y:∀ H e s',CX [] H c (fun _ _ _=>False) e s'->False) :
  gZ (aF P w) yt (.call (.ref T) ⟨[.ref a],[]⟩) (fun r s'=>r=.ok (.ret (.bool true))/\OldK c.heap s'.heap/\s'.os=c.os/\rW s'.gens) c:=by
 have rv:=Mx hi
 have L:=hi.length
 have j:∀ H:Hp,WH H->pC K H a (t.map V.int)->rR P w H c.heap->(∀ b,H b≠none->b=a)->(H a≠none->K.lookup a=none) ->
   gZ (aF P w) yt (.call (.ref T) ⟨[.ref a],[]⟩) (fun r s'=>r=.ok (.ret (.bool true))/\OldK c.heap s'.heap/\s'.os=c.os/\rW s'.gens) c:=by
  intro H hO hS M hA hK
  have f:∀ {b:af}{o:Obj},c.heap.get? b=some o->H b=none->(DJ c.heap H).get? b=some o:=fun e n=>Of e n
  have a1:∀ {b:af}{o:Obj}{I:Array DictEntry}{p:Nat},c.heap.get? b=some o->o.data=.dict I p->H b=none:=fun {b o I p} e d=>by
   cases q:H b with
   |none=>rfl
   |some u =>
    have U:b=a:=hA b (by rw [q];simp)
    subst U
    rw [Q] at e;cases e
    have d':Data.seq vs.toArray _=Data.dict I p:=d
    cases d'
  have i:∀ {b:af}{m:Str->Option ae},c.heap.Ns b m->(DJ c.heap H).Ns b m:=fun {b m} ⟨o,I,p,e,d,r⟩=>⟨o,I,p,f e (a1 e d),d,r⟩
  have y:K.In (DJ c.heap H):=fun b o e=>f (KX b o e) (by
   cases q:H b with
   |none=>rfl
   |some u =>
    have U:b=a:=hA b (by rw [q];simp)
    subst U
    rw [hK (by rw [q];simp)] at e;cases e)
  have hM:Mod K B (DJ c.heap H):=⟨y,i G,⟨S,i g,a0⟩,let ⟨mc,h1,h2⟩:=O;⟨mc,i h1,h2⟩⟩
  have e0:BJ P w K B (DJ c.heap H) yt [] c H:=⟨rfl,hM,fun b o e=>Sn e,Nat.le_of_eq (Mn _ _),trivial,fun b g=>absurd (show b∈([] : List af) from g) (by simp),M,.of_eq hg⟩
  refine lW ((F _ y (i G)).run yt [] c H ⟨[.ref a],[]⟩ [.ref a] [.ref a] _ _ hr e0 (l c (.ref a)) (.cons rfl .nil) (X H hO hS)) fun r s' h=>?_
  cases r with
  |error e=>exact (Y H e s' h).elim
  |ok fl =>
   cases fl with
   |next=>exact dC h
   |brk=>exact dC h
   |cont=>exact dC h
   |ret u =>
    obtain ⟨v,H',os,N,un,E,r',q⟩:=h
    have q':v=.bl true:=q
    subst q'
    obtain rfl:u=iB true:=r'
    refine ⟨rfl,OldK.of_keep fun b o e=>?_,os,N⟩
    cases q:H b with
    |none=>exact un.keep b o e q (by intro z;exact absurd (show b∈([] : List af) from z) (by simp)) (by simp)
    |some u =>
     rcases hO b with z|⟨ob,xs,z⟩
     ·rw [q] at z;cases z
     ·have z2:=un.frzs b ob _ z
      obtain ⟨e1,_⟩:=M b _ z
      obtain ⟨e2,_⟩:=E b _ z2
      rw [e] at e1;cases e1
      exact e2
 cases hk:K.lookup a with
 |some o =>
  have e:=KX a o hk
  rw [Q] at e
  cases e
  refine j (fun _=>none) (fun _=>.inl rfl) (.inr ⟨_,vs.toArray,_,hk,rfl,rfl,rfl,by rw [aG,L];exact hl,by simpa using rv⟩) (fun b u z=>by have A:(none:Option HO)=some u:=z;cases A) (fun b z=>absurd rfl z) fun z=>absurd rfl z
 |none =>
  refine j (fun b=>if b=a then some (.frz { cls:=.type "list",data:=.seq vs.toArray } (.lst (t.map V.int))) else none) (fun b=>?_) (.inl (.inr ⟨{ cls:=.type "list",data:=.seq vs.toArray },if_pos rfl⟩)) (fun b u z=>?_) (fun b z=>?_) fun _=>hk
  ·by_cases g:b=a
   ·exact .inr ⟨_,_,if_pos g⟩
   ·exact .inl (if_neg g)
  ·by_cases g:b=a
   ·have A:=(if_pos g).symm.trans z
    cases A
    subst g
    exact ⟨Q,by rw [aw];exact hl,vs,_,rv,Q⟩
   ·have A:=(if_neg g).symm.trans z
    cases A
  ·by_cases g:b=a
   ·exact g
   ·exact absurd (if_neg g) z
end L2
namespace L2
open PySem PySem.Spec PyProof.Rows
abbrev KOf {K:aa}{h:bA} (_:K.In h):aa:=K
theorem SU {l:yU}{n k:Nat}{q:aV}{i:List Str}{XP:(Str->Option ae)->bA->Prop}{N:bi->bA->Prop}{d:DefRec}{K:Params->aa}{CX:bi->Ky}{sp:bi->Sp}{x:Str}
  (hn:l.most=some n) (I:n<=sizeLine) (E:d.params.defaults=[]) (hr:fJ k yt)
  (Q:∀ (w:bi) (h:bA),N w h->(K w.params).In h)
  (F:∀ (w:bi) (m:Str->Option ae) (y:af) (h:bA),(K w.params).In h->h.Ns bq m->m d.name=some (.ref y) ->
   ∃ A:cr,(∀ (s:ak) (u:ae),yr s A ⟨[u],[]⟩ [(x,u)]) /\
    ∀ base:bA,(K w.params).In base->base.Ns bq m->l8 l.prog w (K w.params) m base (CX w) k y A [x] (sp w))
  (L:∀ (w:bi) (H:Hp) (a:af) (z:List Int),z.length<=n->WH H->pC (K w.params) H a (z.map V.int)->sp w [.ref a] H (fun v _=>v=.bl true) fun _ _ _=>False)
  (M:∀ (w:bi) (H:Hp) (s:ak) (e:ae) (s':ak),CX w [] H s (fun _ _ _=>False) e s'->False) :
  RL q i XP N l.row.toRowW d [] (fun f vs=>Mc f vs):=by
 refine Att.attach_call hn E fun w P p m mb y o pm cd X a vs z G Y ho hd U B t j c hg=>?_
 have O:=Q w _ Y
 obtain ⟨A,hb,S⟩:=F w m y _ O G.T.g B
 exact OM O G.T.g G.T.b G.T.builtins G.T.nolimit hg t j (bF c I) hr S hb (fun H hO hS=>L w H a z c hO hS) fun H e s'=>M w H p e s'
end L2
namespace L2
open PySem PySem.Spec PyProof.Rows
def mD (s:c9) (j:Nat):c9:=match s with
 |.ClassDef _ _ _ a _ _ _ _ _ _ _=>a.getD j (.Pass ⟨0,0,0,0⟩)
 |_=>.Pass ⟨0,0,0,0⟩
def jM (s:c9):Arguments:=match s with
 |.FunctionDef _ a _ _ _ _ _ _ _ _=>a
 |_=>{ posonlyargs:=[],args:=[],vararg:=none,kwonlyargs:=[],kw_defaults:=[],kwarg:=none,defaults:=[] }
def eF (s:c9):List c9:=match s with
 |.FunctionDef _ _ b _ _ _ _ _ _ _=>b
 |_=>[]
def ar (s:c9):fU:=match s with
 |.FunctionDef _ _ _ _ _ _ a _ _ _=>a
 |_=>{ kind:=.function,names:=[],isGenerator:=false,isCoroutine:=false }
abbrev CX0:Ky:=fun _ _ _ _ _ _=>False
abbrev E0:XK:=fun _ _ _=>False
structure xz (K:aa) (x qual:Str) (st:c9) (f:af) (fd:cr):Prop where
 ex:∃ (oc:ae) (od:Option af) (kV doc pm:ae) (an:Option af) (cdv ct:ae) (osl:Array (Option ae)),
  fd=dU x qual (jM st) (eF st) (ar st) .none kV doc pm an cdv ct/\K.lookup f=some ⟨oc,od,.func fd,osl⟩/\j4 K cdv qual=true
 kp:bV K (.ref f)=true
section
variable {P:aV}{w:bi}{K:aa}{mg:Str->Option ae}{base:bA}
theorem xz.binds {x a:Str}{d:c9}{f:af}{j:cr}{ps:List Str} (F:xz K x a d f j)
  (h:∀ (kV b e:ae) (g:Option af) (c i:ae) (us:List ae),us.length=ps.length->Ig (dU x a (jM d) (eF d) (ar d) .none kV b e g c i) ⟨us,[]⟩=pure (ps.zip us)):eQ K j ps []:=by
 obtain ⟨m,o,kV,b,e,g,c,i,l,rfl,n,k⟩:=F.ex
 exact .all (h kV b e g c i)
theorem I_ {x a:Str}{e:c9}{f:af}{m:ae}{n i:Option af}{g:Array (Option ae)}{kV d j b h:ae} (l:K.lookup f=some ⟨m,n,.func (dU x a (jM e) (eF e) (ar e) .none kV d j i b h),g⟩)
  (c:j4 K b a=true) (k:bV K (.ref f)=true):xz K x a e f (dU x a (jM e) (eF e) (ar e) .none kV d j i b h):=⟨⟨m,n,kV,d,j,i,b,h,g,rfl,l,c⟩,k⟩
end
theorem jY {A:bh}{k:Nat} (a:fJ k A):A.units+1<uC:=xG (Nat.add_le_add_left (by decide:1<=64) _) a.units
theorem bZ {n:Nat} (h:n<=1000):n<sizeLine:=xG h (by decide)
section
variable {X:Cx}
theorem pv (i:Nat) {x:Str}{a:Pos} (c:X.N[i]?=some x:=by rfl) (d:BH X.env.scope x:=by first|exact c8 rfl|exact bC (c8 rfl)|exact bC (bC rfl)) (e:(x==("__debug__" : Str))=false:=by decide)
  (b:(x==("__classdict__" : Str))=false:=by decide):PE X (.Name x a) (xQ i):=hV c d e b
end
theorem Ac {A B:Prop} (h:B):if false=true then A else B:=by
 rw [if_neg aQ]
 exact h
theorem DV {A B:Prop} (h:A):if true=true then A else B:=by
 rw [if_pos rfl]
 exact h
def cK (H H':Hp):Prop:=∀ b o,H b=some o->H' b=some o
theorem cK.refl (H:Hp):cK H H:=fun _ _ h=>h
theorem cK.trans {H e d:Hp} (a:cK H e) (b:cK e d):cK H d:=fun c o h=>b c o (a c o h)
theorem cK.free {H H':Hp} (e:cK H H') {l:af} (h:H' l=Option.none):H l=Option.none:=by
 cases q:H l with
 |none=>rfl
 |some o =>
  rw [e l o q] at h
  cases h
theorem cK.seq {K:aa}{H H':Hp}{a:af}{xs:List V} (e:cK H H') (h:pC K H a xs):pC K H' a xs:=by
 rcases h with (h|⟨o,h⟩)|h
 ·exact .inl (.inl (e _ _ h))
 ·exact .inl (.inr ⟨o,e _ _ h⟩)
 ·exact .inr h
end L2
namespace L2
open PySem PySem.Spec PyProof.Rows
section
variable {κ:Type} [DecidableEq κ]
def wy (kvs:List (κ×V)) (k:κ):Option V:=(kvs.find? fun a=>decide (a.1=k)).map (·.2)
def sA (kvs:List (κ×V)) (k:κ) (v:V):List (κ×V) :=
 if (kvs.any fun a=>decide (a.1=k))=true then kvs.map (fun a=>if a.1=k then (a.1,v) else a) else kvs++[(k,v)]
def ON (kvs:List (κ×V)) (k:κ):List (κ×V):=kvs.filter fun a=>decide (a.1≠k)
theorem Ad {p:κ×V}{r:List (κ×V)}{k:κ} (e:p.1=k):wy (p::r) k=some p.2:=by simp [wy,eh,e]
theorem Ae {p:κ×V}{r:List (κ×V)}{k:κ} (e:¬ p.1=k):wy (p::r) k=wy r k:=by simp [wy,eh,e]
theorem FO (k:κ):∀ kvs:List (κ×V),(kvs.any fun a=>decide (a.1=k))=(wy kvs k).isSome
 |[]=>rfl
 |p::r=>by
  rw [fX]
  by_cases e:p.1=k
  ·simp only [Ad e,decide_eq_true e,Bool.true_or,vY]
  ·rw [Ae e,decide_eq_false e,wl];exact FO k r
theorem sB (kvs:List (κ×V)) (k:κ) (v:V):(sA kvs k v).length<=kvs.length+1:=by
 unfold sA
 split
 ·rw [aw];omega
 ·rw [bB,aX,ej];omega
theorem uF.isSome_eq {o:Option V}{u:Option ae} (r:uF o u):o.isSome=u.isSome:=by
 cases o with
 |none=>cases u with
  |none=>rfl
  |some _=>exact (show False from r).elim
 |some _=>cases u with
  |none=>exact (show False from r).elim
  |some _=>rfl
theorem KV.val {kvs:List (κ×V)}{vs:List (κ×ae)} (r:KV kvs vs) (k:κ):uF (wy kvs k) (Bz vs k):=by
 unfold KV at r
 induction r with
 |nil=>exact iF
 | @cons p q ps c h t f =>
  obtain ⟨d,g⟩:=h
  by_cases e:p.1=k
  ·have a:q.1=k:=d.symm.trans e
   have b:Bz (q::c) k=some q.2:=by simp [Bz,eh,a]
   rw [Ad e,b];exact g
  ·have a:¬ q.1=k:=fun z=>e (d.trans z)
   have b:Bz (q::c) k=Bz c k:=by simp [Bz,eh,a]
   rw [Ae e,b];exact f
theorem KV.any {kvs:List (κ×V)}{vs:List (κ×ae)} (r:KV kvs vs) (k:κ):(kvs.any fun a=>decide (a.1=k))=vs.any fun a=>decide (a.1=k):=by
 unfold KV at r
 induction r with
 |nil=>rfl
 |cons h t b=>rw [fX,fX,b,h.1]
theorem KV.repl {kvs:List (κ×V)}{vs:List (κ×ae)} (r:KV kvs vs) (k:κ) {y:V}{u:ae} (d:dq y u) :
  KV (kvs.map fun a=>if a.1=k then (a.1,y) else a) (vs.map fun a=>if a.1=k then (a.1,u) else a):=by
 unfold KV at r ⊢
 induction r with
 |nil=>exact .nil
 | @cons p q ps g h t c =>
  rw [aW,aW]
  refine .cons ?_ c
  obtain ⟨b,f⟩:=h
  by_cases e:p.1=k
  ·rw [if_pos e,if_pos (b.symm.trans e)];exact ⟨b,d⟩
  ·rw [if_neg e,if_neg (fun z=>e (b.trans z))];exact ⟨b,f⟩
theorem KV.put {kvs:List (κ×V)}{vs:List (κ×ae)} (r:KV kvs vs) (k:κ) {y:V}{u:ae} (a:dq y u):KV (sA kvs k y) (Il vs k u):=by
 unfold sA Il
 rw [r.any k]
 by_cases e:(vs.any fun b=>decide (b.1=k))=true
 ·rw [if_pos e,if_pos e];exact r.repl k a
 ·rw [if_neg e,if_neg e];exact Paired.snoc r ⟨rfl,a⟩
theorem KV.length {kvs:List (κ×V)}{vs:List (κ×ae)} (r:KV kvs vs):kvs.length=vs.length:=pz r
end
theorem FP {P:aV}{w:bi}{k:fg}{u:ae} (r:dq (kV k) u):(dY P w).is k u=true:=by
 cases k with
 |inl i=>obtain ⟨t,e⟩:=(show ∃ t,u=nN i t from r);subst e;exact FC P w i t
 |inr x=>obtain ⟨t,e⟩:=(show ∃ t,u=ju x t from r);subst e;exact FD P w x t
theorem CC {P:aV}{w:bi}:∀ {a:List fg}{us:List ae},cS (a.map kV) us->ItemsAre (dY P w) a us
 |[],_,r=>by rw [iG] at r;cases r;exact .nil
 |k::a,_,r=>by
  rw [aW] at r
  cases r with
  |cons h t=>exact .cons (FP h) (CC t)
abbrev KT (H:Hp):List (List fg×V)->List (List fg×af×ae)->Prop:=NZ fun p q=>p.1=q.1/\H q.2.1=some (.tup (p.1.map kV))/\dq p.2 q.2.2
theorem KT.val {H:Hp}{kvs:List (List fg×V)}{xs:List (List fg×af×ae)} (r:KT H kvs xs) (k:List fg):uF (wy kvs k) ((Im xs k).map (·.2)):=by
 induction r with
 |nil=>exact iF
 | @cons p q ps c h t f =>
  obtain ⟨d,_,g⟩:=h
  by_cases e:p.1=k
  ·have a:q.1=k:=d.symm.trans e
   have b:Im (q::c) k=some q.2:=by simp [Im,eh,a]
   rw [Ad e,b];exact g
  ·have a:¬ q.1=k:=fun z=>e (d.trans z)
   have b:Im (q::c) k=Im c k:=by simp [Im,eh,a]
   rw [Ae e,b];exact f
theorem KT.repl {H:Hp}{kvs:List (List fg×V)}{xs:List (List fg×af×ae)} (r:KT H kvs xs) (k:List fg) {y:V}{u:ae} (f:dq y u) :
  KT H (kvs.map fun b=>if b.1=k then (b.1,y) else b) (xs.map (putAt k u)):=by
 induction r with
 |nil=>exact .nil
 | @cons p q ps i h t d =>
  rw [aW,aW]
  refine .cons ?_ d
  obtain ⟨a,c,g⟩:=h
  unfold putAt
  by_cases e:p.1=k
  ·rw [if_pos e,if_pos (a.symm.trans e)];exact ⟨a,c,f⟩
  ·rw [if_neg e,if_neg (fun z=>e (a.trans z))];exact ⟨a,c,g⟩
theorem KT.put {H:Hp}{kvs:List (List fg×V)}{xs:List (List fg×af×ae)} (r:KT H kvs xs) (k:List fg) {b:af}{y:V}{u:ae} (d:H b=some (.tup (k.map kV))) (a:dq y u) :
  KT H (sA kvs k y) (storedH xs k b u):=by
 have e:(kvs.any fun c=>decide (c.1=k))=(Im xs k).isSome:=by
  rw [FO,(r.val k).isSome_eq,Md]
 unfold sA storedH
 rw [e]
 by_cases q:(Im xs k).isSome=true
 ·rw [if_pos q,if_pos q];exact r.repl k a
 ·rw [if_neg q,if_neg q];exact Paired.snoc r ⟨rfl,d,a⟩
theorem KT.keeps {H H':Hp}{kvs:List (List fg×V)}{xs:List (List fg×af×ae)} (r:KT H kvs xs) (a:∀ b ys,H b=some (.tup ys)->H' b=some (.tup ys)):KT H' kvs xs :=
 Paired.mapP r fun _ _ z=>⟨z.1,a _ _ z.2.1,z.2.2⟩
section
variable {P:aV}{w:bi}{H:Hp}{h:bA}{a:af}
theorem V9 {u:HO} (ok:rR P w H h) (e:Rd H a u):dw P w H h a u:=e.ok ok
theorem KD {kvs:List (fg×V)} (ok:rR P w H h) (e:Rd H a (.dK kvs)):kvs.length<=sizeLine/\(a==i_)=false/\∃ vs,KV kvs vs/\h.DictOf (dY P w) a vs :=
 show dw P w H h a (.dK kvs) from V9 ok e
theorem Ys {kvs:List (fg×V)} (ok:rR P w H h) (e:H a=some (.dK kvs)):kvs.length<=sizeLine/\(a==i_)=false/\∃ vs,KV kvs vs/\h.DictOf (dY P w) a vs:=KD ok (.inl e)
theorem DW {b:List fg} (ok:rR P w H h) (e:H a=some (.tup (b.map kV))):(DD (dY P w)).is h b a:=by
 obtain ⟨_,c,r,o,d,g,n,f⟩:=(show dw P w H h a (.tup (b.map kV)) from ok a _ e)
 exact ⟨o,c.toArray,n,d,g,f,by simpa using CC r⟩
theorem KG {kvs:List (List fg×V)} (ok:rR P w H h) (e:Rd H a (.dT kvs)):kvs.length<=sizeLine/\(a==i_)=false /\
  ∃ xs,KT H kvs xs/\h.DictOfH (DD (dY P w)) a xs:=by
 obtain ⟨z,y,xs,r,o,f,i,c,n,g,j,k⟩:=(show dw P w H h a (.dT kvs) from V9 ok e)
 refine ⟨z,y,xs,r,o,f,i,c,n,g,j,fun x hx=>?_,k⟩
 have all:∀ {l:List (List fg×V)}{m:List (List fg×af×ae)},KT H l m->∀ x∈m,(DD (dY P w)).is h x.1 x.2.1:=by
  intro l m q
  induction q with
  |nil=>intro x hx;exact nomatch hx
  | @cons p q ps s b t d =>
   intro x hx
   rcases List.mem_cons.mp hx with e|hx
   ·subst e
    exact DW ok (by rw [<- b.1];exact b.2.1)
   ·exact d x hx
 exact all r x hx
theorem Yt {kvs:List (List fg×V)} (ok:rR P w H h) (e:H a=some (.dT kvs)):kvs.length<=sizeLine/\(a==i_)=false /\
  ∃ xs,KT H kvs xs/\h.DictOfH (DD (dY P w)) a xs:=KG ok (.inl e)
end
def J4 (H:Hp) (a:af) (y:V) (r:Option V):Prop :=
 (∃ kvs k,Rd H a (.dK kvs)/\y=kV k/\r=wy kvs k)\/∃ kvs k b,Rd H a (.dT kvs)/\y=.ref b/\H b=some (.tup (k.map kV))/\r=wy kvs k
def OO (H:Hp) (a:af) (y v:V) (H':Hp):Prop :=
 (∃ kvs k,H a=some (.dK kvs)/\y=kV k/\kvs.length<sizeLine/\H'=upd H a (.dK (sA kvs k v))) \/
 ∃ kvs k b,H a=some (.dT kvs)/\y=.ref b/\H b=some (.tup (k.map kV))/\kvs.length<sizeLine/\H'=upd H a (.dT (sA kvs k v))
theorem J4.k {H:Hp}{a:af}{kvs:List (fg×V)}{k:fg} (e:H a=some (.dK kvs)):J4 H a (kV k) (wy kvs k):=.inl ⟨kvs,k,.inl e,rfl,rfl⟩
theorem OO.k {H:Hp}{a:af}{kvs:List (fg×V)}{k:fg}{v:V} (e:H a=some (.dK kvs)) (b:kvs.length<sizeLine):OO H a (kV k) v (upd H a (.dK (sA kvs k v))):=.inl ⟨kvs,k,e,rfl,b,rfl⟩
section
variable {X:Cx}{pins:List (af×Obj)}{σ:St}{H:Hp}{s:ak}{a:af}{y v:V}{u r:ae}{o:Option V}{A:bh}{E:ae->ak->Prop}
theorem bH.big (I:bH X pins σ H s):i_<s.heap.objs.size:=by
 have h:bq<s.heap.objs.size:=(I.mod.glob.keeps I.bk).lt
 exact yV (by decide) h
theorem My {Q:ae->ak->Prop} (q:A.units+1<uC) (I:bH X pins σ H s) (g:J4 H a y (some v)) (n:dq y u) (h:∀ f s',bH X pins σ H s'->dq v f->Q f s') :
  av (aF X.prog X.w) A (rX (.ref a) u) Q E s:=by
 rcases g with ⟨kvs,k,e,j,l⟩|⟨kvs,k,b,e,j,eb,l⟩
 ·subst j
  obtain ⟨z,t,vs,d,dd⟩:=KD I.hok e
  obtain ⟨f,i,c⟩:=uF.some_of (v:=v) (o:=Bz vs k) (by rw [l];exact d.val k)
  exact wpAny_getItem_of (FP n) dd.mapOf i (h f _ (I.tok _) c)
 ·subst j
  cases (show u=bn b from n)
  obtain ⟨z,t,xs,d,dd⟩:=KG I.hok e
  obtain ⟨f,i,c⟩:=uF.some_of (v:=v) (o:=(Im xs k).map (·.2)) (by rw [l];exact d.val k)
  obtain ⟨p,x,m⟩:=Option.map_eq_some_iff.mp i
  refine wpAny_getItem_heap (zQ q) (DW I.hok eb) dd x ?_
  rw [m]
  exact h f _ (I.tok _) c
theorem d_in {Q:ae->ak->Prop} (j:A.units+1<uC) (I:bH X pins σ H s) (g:J4 H a y o) (i:dq y u) (h:∀ s',bH X pins σ H s'->Q (.bool o.isSome) s') :
  av (aF X.prog X.w) A (bK .In u (.ref a)) Q E s:=by
 rcases g with ⟨kvs,k,e,f,l⟩|⟨kvs,k,b,e,f,eb,l⟩
 ·subst f
  obtain ⟨z,d,vs,c,dd⟩:=KD I.hok e
  refine wpAny_in_of (FP i) d dd.mapOf ?_
  rw [<- (c.val k).isSome_eq,<- l]
  exact h _ (I.tok _)
 ·subst f
  cases (show u=bn b from i)
  obtain ⟨z,d,xs,c,dd⟩:=KG I.hok e
  refine wpAny_in_heap (zQ j) (DW I.hok eb) d dd ?_
  have q:=(c.val k).isSome_eq
  rw [Md] at q
  rw [<- q,<- l]
  exact h _ (I.tok _)
theorem KH {h':bA}{t':Nat}{c:HO} (I:bH X pins σ H s) (d:Y5 (H a)) (hs:bJ a s.heap h') (he:∃ q,h'.get? a=some q) (new:dw X.prog X.w (upd H a c) h' a c) :
  bH X pins σ (upd H a c) { s with heap:=h',toks:=t' } :=
 I.write (x:=a) (e:=a) d (.inl rfl) (fun b q f z=>(hs.2 b f).trans z) he new
theorem OP {P:aV}{w:bi}{H':Hp}{h':bA}{kvs:List (fg×V)}{vs:List (fg×ae)} (z:kvs.length<=sizeLine) (c:(a==i_)=false) (b:KV kvs vs) (dd:h'.DictOf (dY P w) a vs) :
  dw P w H' h' a (.dK kvs):=⟨z,c,vs,b,dd⟩
theorem Mz {H':Hp}{Q:Unit->ak->Prop} (L:A.units+1<uC) (I:bH X pins σ H s) (g:OO H a y v H') (x:dq y u) (B:dq v r) (h:∀ s',bH X pins σ H' s'->Q () s') :
  av (aF X.prog X.w) A (setItem (.ref a) u r) Q E s:=by
 rcases g with ⟨kvs,k,e,t,l,m⟩|⟨kvs,k,b,e,t,eb,l,m⟩
 ·subst t m
  obtain ⟨z,p,vs,d,dd⟩:=Ys I.hok e
  have n:vs.length<=sizeLine:=by rw [<- d.length];exact z
  have j:(sA kvs k v).length<=sizeLine:=by have:=sB kvs k v;omega
  refine wpAny_setItem_pairs (hsz:=n) (FP x) dd fun h' f hs=>h _ ?_
  have he:∃ q,h'.get? a=some q:=let ⟨q,_,_,i,_⟩:=f;⟨q,i⟩
  exact KH I (by rw [e];exact iF) hs he (OP j p (d.put k B) f)
 ·subst t m
  cases (show u=bn b from x)
  obtain ⟨z,p,xs,d,dd⟩:=Yt I.hok e
  have n:xs.length<=sizeLine:=by rw [<- pz d];exact z
  have j:(sA kvs k v).length<=sizeLine:=by have:=sB kvs k v;omega
  refine wpAny_setItem_heap (hsz:=n) (zQ L) (DW I.hok eb) dd fun h' f hs=>h _ ?_
  obtain ⟨q,K,N,i,S,M,O,_,P⟩:=f
  refine KH I (by rw [e];exact iF) hs ⟨q,i⟩ ⟨j,p,_,(d.put k eb B).keeps fun c ys G=>?_,q,K,N,i,S,M,O,P⟩
  rw [aC (Y4 G e (fun z=>nomatch z))]
  exact G
end
section
variable {X:Cx}{pins:List (af×Obj)}{σ:St}{H:Hp}{s:ak}{a:af}{kvs:List (fg×V)}{k:fg}{u:ae}{A:bh}{E:ae->ak->Prop}
end
def Yu (i:bc):Prop:=∀ b a,Fj i false b a=operate [b,a] (rX b a)
theorem SW {prog:aV}{w:bi}{A:bh}{E:ae->ak->Prop}{s:ak}{env:Env}{b a:bc}{k:Pos}{T id:String}{Q:ae->ak->Prop}
  (m:zP (.type T) "__getitem__"=pure (some (.builtin id))) (hs:Yu a)
  (h:av (aF prog w) A (bG b env) (fun o e=>av (aF prog w) A (bG a env) (fun i c=>c.TypeIs o T/\av (aF prog w) A (rX o i) Q E c) E e) E s) :
  av (aF prog w) A (bG (.Subscript b a k) env) Q E s:=by
 refine Subscript_ (cx h (fun o e g=>cx g (fun i c d=>?_) fun _ _ x=>x) fun _ _ x=>x)
 obtain ⟨l,d⟩:=d
 unfold Ma
 refine ac ?_
 rw [getitemInPython_of_ne l.not_modules]
 refine ac (wpAny_specialOf l m ?_)
 have fin:av (aF prog w) A (Fj a false o i) (fun r f=>av (aF prog w) A (letTemporaryGo b o r >>= fun _=>pure r) Q E f) E c:=by
  rw [hs o i]
  exact wpAny_operating (cx d (fun r f j=>ac (wpAny_letTemporaryGo (ag j))) fun _ _ x=>x)
 first
  |exact ag (ac fin)
  |exact ac (ag (ac fin))
  |exact ac fin
theorem FQ {X:Cx}{c:List (af×Obj)}{σ:St}{H:Hp}{s:ak}{a:af}{y:V}{o:Option V} (I:bH X c σ H s) (g:J4 H a y o):s.TypeIs (.ref a) "dict":=by
 rcases g with ⟨kvs,k,e,_,_⟩|⟨kvs,k,b,e,_,_,_⟩
 ·obtain ⟨_,_,vs,_,dd⟩:=KD I.hok e
  exact dd.typeIs
 ·obtain ⟨_,_,xs,_,dd⟩:=KG I.hok e
  exact dd.typeIs
def Yv (c ty:TE):TE:=fun σ H Q=>c σ H fun x d=>ty σ d fun y b=>∃ a v,x=.ref a/\J4 b a y (some v)/\Q v b
def Va (d ty g:TE):TS:=fun D σ H=>g σ H fun v f=>d σ f fun x e=>ty σ e fun y c=>∃ a b,x=.ref a/\OO c a y v b/\D.nx σ b
section
variable {X:Cx}{o i e value:bc}{pos pos' tpos:Pos}{td ty tv:TE}
theorem SX (m:X.A.units+1<uC) (ho:PE X o td) (p:PE X i ty) (hs:Yu i):PE X (.Subscript o i pos) (Yv td ty):=by
 intro b s σ H Q I h
 refine SW PySem.F.slot_dict_getitem.lookup hs (fE (ho b s σ H _ I h) fun u f ⟨x,k,z,j,n⟩=>fE (p b f σ k _ z n) fun E K ⟨y,q,d,t,a,v,B,g,w⟩=>?_)
 subst B
 obtain rfl:u=bn a:=j
 exact ⟨FQ d g,My m d g t fun L G l c=>⟨v,q,l,c,w⟩⟩
theorem SY (k:X.A.units+1<uC) (ho:PE X o td) (n:PE X i ty) (G:PE X value tv) (hs:dE value (some (.Subscript o i pos')) pos.line X.env=pure false) :
  PS X (.Assign [.Subscript o i pos'] value pos) (Va td ty tv):=by
 intro b s σ H D I h
 refine wpAny_Assign_Subscript (fE (G b s σ H _ I h) fun r c ⟨v,f,K,B,m⟩=>fE (ho b c σ f _ K m) fun u w ⟨x,q,p,d,z⟩=>fE (n b w σ q _ p z) fun O Q ⟨y,P,j,t,a,l,L,g,M⟩=>?_) hs
 subst L
 obtain rfl:u=bn a:=d
 exact Mz k j g t B fun N E=>⟨σ,l,E,M⟩
end
theorem OQ {P:aV}{w:bi}{H:Hp} (h:bA) (a:i_<h.objs.size):dw P w H (h.push { cls:=.type "dict",data:=.dict #[] }) h.objs.size (.dK []) :=
 ⟨cy _,beq_eq_false_iff_ne.mpr (eC (aM a)),[],.nil,HL h⟩
def WI:TE:=fun _ H Q=>∀ p,H p=none->Q (.ref p) (upd H p (.dK []))
section
variable {X:Cx}{pos:Pos}
theorem OR:PE X (.Dict [] [] pos) WI:=fun b s σ H Q I h =>
 wpAny_Dict_empty ⟨.ref s.heap.objs.size,_,I.laid (a:=s.heap.objs.size) (o:=.dK []) (t':=s.toks) (fun _ _ q=>ai _ q) (aA _) (OQ s.heap I.big),rfl,h _ (I.hok.fresh (aA _))⟩
end
def Af (kvs a:List (fg×V)):List (fg×V):=a.foldl (fun b c=>sA b c.1 c.2) kvs
theorem KV.merge:∀ {a:List (fg×V)}{b:List (fg×ae)}{kvs:List (fg×V)}{vs:List (fg×ae)},KV a b->KV kvs vs->KV (Af kvs a) (merged vs b):=by
 intro a b kvs vs r
 unfold KV at r
 induction r generalizing kvs vs with
 |nil=>intro q;exact q
 | @cons p q ps f h t d =>
  intro c
  have e:KV (sA kvs p.1 p.2) (Il vs q.1 q.2):=by
   have:=c.put p.1 h.2
   rw [<- h.1];exact this
  exact d e
theorem uT:∀ (a kvs:List (fg×V)),(Af kvs a).length<=kvs.length+a.length
 |[],kvs=>by show kvs.length<=kvs.length+0;omega
 |p::r,kvs=>by
  have b:=uT r (sA kvs p.1 p.2)
  have c:=sB kvs p.1 p.2
  show (Af (sA kvs p.1 p.2) r).length<=_
  rw [aX];omega
structure M1 (X:Cx) (o:bc) (m:Str) (apos:Pos) (e:bc) (cpos:Pos):Prop where
 base:dB o m X.env (bG o X.env)=bG o X.env
 few:((cC cpos (ao [e] X.env)).all (fun x=>!x.1)&&(ii cpos (ef [] X.env)).all (fun x=>x.1.isSome)
  && decide (([e] : List bc).length+([] : List kh).length+(if ([] : List kh).isEmpty then 0 else 1)<30))=true
 line:(apos.endLine==cpos.line)=true
 trees:cC cpos (ao [e] X.env)=[(false,bG e X.env)]
structure M2 (X:Cx) (o:bc) (m:Str) (apos:Pos) (e f:bc) (cpos:Pos):Prop where
 base:dB o m X.env (bG o X.env)=bG o X.env
 few:((cC cpos (ao [e,f] X.env)).all (fun x=>!x.1)&&(ii cpos (ef [] X.env)).all (fun x=>x.1.isSome)
  && decide (([e,f] : List bc).length+([] : List kh).length+(if ([] : List kh).isEmpty then 0 else 1)<30))=true
 line:(apos.endLine==cpos.line)=true
 trees:cC cpos (ao [e,f] X.env)=[(false,bG e X.env),(false,bG f X.env)]
section
variable {X:Cx}{pins:List (af×Obj)}{σ:St}{H:Hp}{s:ak}{a:af}{y d:V}{u r:ae}{o:Option V}{A:bh}{E:ae->ak->Prop}
end
section
variable {X:Cx}{o e f:bc}{apos cpos:Pos}{td ty tx:TE}
end
section
variable {X:Cx}{pins:List (af×Obj)}{σ:St}{H:Hp}{s:ak}{a:af}{kvs:List (fg×V)}{A:bh}{E:ae->ak->Prop}
end
section
variable {X:Cx}{pins:List (af×Obj)}{σ:St}{H:Hp}{s:ak}{a:af}{y:V}{u:ae}{A:bh}{E:ae->ak->Prop}
end
end L2
namespace L2
open PySem PySem.Spec PyProof.Rows
section
variable {X:Cx}
end
section
variable {κ:Type} [DecidableEq κ]
theorem KI:∀ {l:List κ}{k:κ},l.Nodup->¬ k∈l->(l++[k]).Nodup
 |[],k,_,_=>by simp
 |a::r,k,h,b=>by
  obtain ⟨c,d⟩:=List.nodup_cons.mp h
  show (a::(r++[k])).Nodup
  refine List.nodup_cons.mpr ⟨fun m=>?_,KI d fun m=>b (List.mem_cons.mpr (bC m))⟩
  rcases List.mem_append.mp m with q|q
  ·exact c q
  ·exact b (List.mem_cons.mpr (c8 (List.mem_singleton.mp q).symm))
end
end L2
namespace L2
open PySem PySem.Spec PyProof.Rows
theorem J5 (names : List (Str × lX)) : ∀ (b : List (Str × af)), (∀ y ∈ names, y.2 = .free -> ∃ c, env.cells.lookup y.1 = some c) ->
    (∀ x c, b.lookup x = some c -> env.cells.lookup x = some c) ->
    ∃ f, (forIn names b fun (x : Str × lX) (b : List (Str × af)) => match x with
        | (name, g) => if (g == cu) = true then do let a <- cellOf env name; pure (jw ((name, a) :: b)) else pure (jw b) : Sem (List (Str × af))) = pure f /\
      (∀ x c, f.lookup x = some c -> env.cells.lookup x = some c) /\ (∀ y ∈ names, y.2 = .free -> ∃ c, f.lookup y.1 = some c) /\ (∀ x c, b.lookup x = some c -> ∃ A, f.lookup x = some A) := by
  induction names with
  | nil => intro b _ l; exact ⟨b, rfl, l, fun _ h => absurd h (by simp), fun x c h => ⟨c, h⟩⟩
  | cons B r v =>
    obtain ⟨n, k⟩ := B;intro b m l;by_cases s : k = .free
    · subst s;obtain ⟨a, w⟩ := m (n, .free) au rfl;have o : ∀ x c, ((n, a) :: b).lookup x = some c -> env.cells.lookup x = some c := fun x c h => by
        rw [bd] at h;cases e : x == n with
        | true => rw [e] at h; have : x = n := by simpa using e
                  subst this; cases h; exact w
        | false => rw [e] at h; exact l x c h
      obtain ⟨f, p, t, u, i⟩ := v ((n, a) :: b) (fun y d => m y (aq _ d)) o;refine ⟨f, ?_, t, fun y d j => ?_, fun x c h => ?_⟩
      · rw [mQ];have z : cellOf env n = pure a := by unfold cellOf; rw [w]
        simp only [beq_self_eq_true, if_true, z];exact p
      · rcases List.mem_cons.mp d with rfl | d
        · exact i n a (by simp)
        · exact u y d j
      · cases e : x == n with
        | true => exact i x a (by rw [bd, e])
        | false => exact i x c (by rw [bd, e]; exact h)
    · obtain ⟨f, p, t, u, i⟩ := v b (fun y d => m y (aq _ d)) l;refine ⟨f, ?_, t, fun y d j => ?_, i⟩
      · rw [mQ];have q : (k == cu) = false := by simpa using s
        simp only [q, cB, if_false];exact p
      · rcases List.mem_cons.mp d with rfl | d
        · exact absurd j s
        · exact u y d j
theorem vc (h:∀ y∈scope.names,y.2=.free->∃ c,env.cells.lookup y.1=some c):∃ a,closureFor scope env=pure a /\
  (∀ x c,a.lookup x=some c->env.cells.lookup x=some c)/\(∀ y∈scope.names,y.2=.free->∃ c,a.lookup y.1=some c):=by
 obtain ⟨a,b,d,e,_⟩:=J5 (env:=env) scope.names [] h (fun x c h=>by simp at h);refine ⟨a,?_,d,e⟩;simp only [closureFor];rw [show (forIn scope.names ([] : List (Str×af)) fun x r=>_)=(pure a:Sem (List (Str×af))) from b];rfl
def eI (X:Cx) (N':List Str) (scope:fU) (a:List (Str×af)) (C:af) (s₀:ak) (H₀:Hp) (ex:List af) (pn:List (af×Obj)):Cx :=
 { X with N:=N',s₀:=s₀,H₀:=H₀,env:=compEnvC scope a C X.env,outer:=X.stack,stack:=X.stack,ex:=ex,fn:=fun y=>scope.names.lookup y==some .cell,pn:=pn,xe:=fun _ _=>False }
def SZ (X:Cx) (b:List bc) (t:TT):Prop :=
 ∀ (a:List (af×Obj)) (s:ak) (σ:St) (H:Hp) (Q:Bool->Hp->Prop),bH X a σ H s->t σ H Q ->
  av (aF X.prog X.w) X.A (forIn b true fun c r=>if r=true then do let ok <- xD c X.env (bG c X.env);pure (jw ok) else pure (jw r)) (TP X a σ Q) X.xe s
def q0D:TT:=fun _ H Q=>Q true H
theorem S_:SZ X [] q0D:=fun a s σ H Q I h=>wpAny_tests_nil ⟨H,I,h⟩
theorem T2 (h:PT X c t):SZ X [c] t:=fun a s σ H Q I b=>wpAny_tests_one (h a s σ H Q I b)
structure oW (X:Cx) (scope:fU) (N':List Str) (nt:Nat) (ix:List Nat):Prop where
 kind:scope.kind=.function
 cel:∀ y∈scope.names,y.2=.cell->scope.names.lookup y.1=some .cell
 loc:∀ y∈scope.names,y.2=.local->scope.names.lookup y.1=some .local
 free:∀ y∈scope.names,y.2=.free->X.env.scope.names.lookup y.1=some .cell\/X.env.scope.names.lookup y.1=some .free
 cap:∀ k i,ix[k]?=some i->∃ x,X.N[i]?=some x/\N'[nt+k]?=some x/\scope.names.lookup x=some .free
 len:N'.length=nt+ix.length
def n8 (nt:Nat) (ix:List Nat) (σ:St):St:=cg nt none++ix.map fun i=>(σ[i]?).join
theorem uH {env:Env}{x:Str}{names:List (Str×lX)}:names.lookup x=some .free ->
  (names.map fun (n,k)=>if (k==cu&&env.scope.kind == .function&&env.kindOf n==some .cell) then (n,eK) else (n,k)).lookup x=some .free \/
  (names.map fun (n,k)=>if (k==cu&&env.scope.kind == .function&&env.kindOf n==some .cell) then (n,eK) else (n,k)).lookup x=some .cell:=by
 induction names with
 |nil=>intro h;simp at h
 |cons d r c =>
  obtain ⟨n,k⟩:=d;intro h;show g_ x ((if (k==cu&&env.scope.kind == .function&&env.kindOf n==some .cell)=true then (n,eK) else (n,k))::_)=_ \/
   g_ x ((if (k==cu&&env.scope.kind == .function&&env.kindOf n==some .cell)=true then (n,eK) else (n,k))::_)=_
  cases a:x==n with
  |true =>
   simp only [bd,a] at h;cases h;by_cases b:(cu==cu&&env.scope.kind == .function&&env.kindOf n==some .cell)=true
   ·rw [if_pos b];right;simp [bd,a]
   ·rw [if_neg b];left;simp [bd,a]
  |false =>
   simp only [bd,a] at h;by_cases b:(k==cu&&env.scope.kind == .function&&env.kindOf n==some .cell)=true
   ·rw [if_pos b];simp only [bd,a];exact c h
   ·rw [if_neg b];simp only [bd,a];exact c h
theorem wz {env:Env}{x:Str}{names:List (Str×lX)} :
  ((names.map fun (n,k)=>if (k==cu&&env.scope.kind == .function&&env.kindOf n==some .cell) then (n,eK) else (n,k)).lookup x=some .free \/
  (names.map fun (n,k)=>if (k==cu&&env.scope.kind == .function&&env.kindOf n==some .cell) then (n,eK) else (n,k)).lookup x=some .cell) ->
  (x,cu)∈names\/(x,eK)∈names:=by
 induction names with
 |nil=>intro h;simp at h
 |cons d r c =>
  obtain ⟨n,k⟩:=d;intro h;have h:g_ x ((if (k==cu&&env.scope.kind == .function&&env.kindOf n==some .cell)=true then (n,eK) else (n,k))::_)=_ \/
   g_ x ((if (k==cu&&env.scope.kind == .function&&env.kindOf n==some .cell)=true then (n,eK) else (n,k))::_)=_:=h
  cases b:x==n with
  |true =>
   have e:x=n:=by simpa using b
   subst e;by_cases a:(k==cu&&env.scope.kind == .function&&env.kindOf x==some .cell)=true
   ·have:k=.free:=by simp at a;exact a.1.1
    subst this;left;exact au
   ·rw [if_neg a] at h;simp only [bd,b] at h;rcases h with h|h
    ·cases h;left;exact au
    ·cases h;right;exact au
  |false =>
   have h':=c (by
    by_cases a:(k==cu&&env.scope.kind == .function&&env.kindOf n==some .cell)=true
    ·rw [if_pos a] at h;simp only [bd,b] at h;exact h
    ·rw [if_neg a] at h;simp only [bd,b] at h;exact h)
   rcases h' with h' | h'
   ·left;exact aq _ h'
   ·right;exact aq _ h'
inductive Vb (nt:Nat) (ix:List Nat) (g:TG) (tt:TT) (te:TE) (σ:St) (Q:VK) (J:It) (H1:Hp):Prop
 |mk (W:Nat->Nat->List V->Hp->Prop) (w0:∃ m,W 0 m [] H1) (turn:∀ i m acc H,W i m acc H ->
 (J.stop i H/\∀ p,H p=none->Q (.ref p) (upd H p (.lst acc))) \/
 (J.go i H/\acc.length<sizeLine/\∀ x H',J.yld i H x H'->g x (n8 nt ix σ) H' fun σ2 H2=>tt σ2 H2 fun b H3 =>
  if b=true then te σ2 H3 fun y H4=>∃ m',m'<m/\W (i+1) m' (acc++[y]) H4 else ∃ m',m'<m/\W (i+1) m' acc H3)):Vb nt ix g tt te σ Q J H1
def OS (nt:Nat) (ix:List Nat) (c:TI) (g:TG) (b:TT) (a:TE):TE:=fun σ H Q=>c σ H (Vb nt ix g b a σ Q)
theorem jF:∀ (names:List (Str×lX)) (n:Nat) (a:List (Str×af)),bW n names a=bW n names []++a
 |[],_,_=>rfl
 |(y,k)::r,n,a=>by
  unfold bW;split
  ·rw [jF r (n+1) ((y,n)::a),jF r (n+1) [(y,n)],pI];rfl
  ·exact jF r n a
theorem oX : ∀ (names:List (Str×lX)) (n:Nat) (a:List (Str×af)),(x,c)∈bW n names a->(x,eK)∈names\/(x,c)∈a
 |[],_,_,h=>.inr h
 |(y,k)::r,n,a,h=>by
  unfold bW at h;split at h
  ·rename_i b
   have b:k=.cell:=by simpa using b
   rcases oX r _ _ h with z|z
   ·exact .inl (aq _ z)
   ·rcases List.mem_cons.mp z with z|z
    ·cases z;subst b;exact .inl au
    ·exact .inr z
  ·exact (oX r _ _ h).imp (aq _) id
theorem ng (h:(bW n names cl).lookup x=some c) :
  (x,c)∈bW n names []\/((bW n names []).lookup x=none/\cl.lookup x=some c):=by
 rw [jF,NJ] at h;cases e:(bW n names []).lookup x with
 |some d=>rw [e] at h;cases h;exact .inl (dD e)
 |none=>rw [e] at h;exact .inr ⟨rfl,h⟩
theorem T3 {M:NH}{A:bh}{E:ae->ak->Prop}{s:ak}{scope:fU}{b:af}{j:List (Str×af)}{e:Str}{f:Option af}{c:ae}{outer:Env}{a:af}{Q:Env->ak->Prop}
  (k:∀ d,d=pushCells (s.heap.push { cls:=.type "dict",data:=.dict #[] }) scope.names->Q (newEnv scope s.heap.objs.size b (bW (s.heap.objs.size+1) scope.names j) e f c (some outer) a) { s with heap:=d }) :
  av M A (Io scope b j [] e f c (some outer) a) Q E s:=by
 simp only [Io,vY,if_true];refine ac (S2 ?_);refine ac (wpAny_layCells _ (fun name g i=>by cases h:g==eK<;>simp [h]) _ _ _ _ ?_);rw [show ({ s with heap:=s.heap.push { cls:=.type "dict",data:=.dict #[] } }:ak).heap.objs.size=s.heap.objs.size+1 from cf ..];refine ac ?_;rw [uN];exact ag (ag (k _ rfl))
theorem MA (h:bA) (names:List (Str×lX)):CellsOk (pushCells (h.push { cls:=.type "dict",data:=.dict #[] }) names) (h.objs.size+1) (bW (h.objs.size+1) names []):=by
 have ok:=cellsFrom_ok names (h.push { cls:=.type "dict",data:=.dict #[] }) (h.objs.size+1) [] ⟨fun _ _ a=>(nomatch a),Ci⟩ (by rw [cf];exact aA _);rw [cf] at ok;exact ok
theorem OT {scope:fU}{N':List Str}{nt:Nat}{ix:List Nat}{G:List (Str×af)}{C:af}{fp:List af}{t:bA}{t':Nat}{m:Str->Option ae}
  (S:oW X scope N' nt ix) (I:bH X pins σ H s) (E:∀ x c,G.lookup x=some c->X.env.cells.lookup x=some c) (c2:∀ y∈scope.names,y.2=.free->∃ c,G.lookup y.1=some c)
  (T:∀ b∈fp,wu X pins H b) (ff:∀ b∈fp,b<s.heap.objs.size) (O:s.heap.objs.size<=C) (a0:t.Ns C m) (A:∀ b o,s.heap.get? b=some o->t.get? b=some o) (ok:CellsOk t (C+1) (bW (C+1) scope.names [])) :
  bH (eI X N' scope (bW (C+1) scope.names G) C s H fp (X.pn++pins)) [] (n8 nt ix σ) H { s with heap:=t,toks:=t' }:=by
 have g:∀ {c v},s.heap.IsCell c v->t.IsCell c v:=fun {c v} ⟨o,ho,hd⟩=>⟨o,A _ _ ho,hd⟩;have L:∀ {x c},(x,c)∈bW (C+1) scope.names []->s.heap.objs.size<c:=fun {x c} h=>aL (qo O) (ok.empty x c h).2;have N:∀ {x c},G.lookup x=some c->c<s.heap.objs.size:=fun {x c} h=>by
  obtain ⟨v,q⟩:=I.cell x c (E x c h);exact q.lt
 refine ⟨⟨I.ok.mod,S.kind,I.ok.glob,I.ok.blt,O,fun x y c U K=>?_,fun x hx=>?_,fun x c h K=>?_,I.ok.hd,I.ok.frames,.inl rfl,fun b B=>⟨?_,fun x c h=>?_⟩,I.bs,bF I.ok.bsz I.sz,fun b o h B=>?_,fun b B z=>?_,I.stack,I.stkFree⟩,
  rfl,I.bare,Un.kept A,⟨m,a0,fun i x v U K h3=>?_⟩,fun x c h=>?_,I.hok.fresh O,fun x c h=>?_,fun p hp=>?_,I.hok.kept A,?_⟩
 ·rcases ng U with a|⟨_,a⟩<;>rcases ng K with b|⟨_,b⟩
  ·exact name_of_addr ok.apart a b
  ·exact absurd (L a) (Ip (N b))
  ·exact absurd (L b) (Ip (N a))
  ·exact I.ok.inj x y c (E x c a) (E y c b)
 ·have Y:(x,cu)∈scope.names\/(x,eK)∈scope.names:=wz (env:=X.env) (hx.elim .inr .inl);have hs:((bW (C+1) scope.names G).lookup x).isSome=true:=by
   rcases Y with z|z
   ·obtain ⟨c,e⟩:=c2 _ z rfl;exact fH _ _ _ (.inr (by rw [e];rfl))
   ·exact fH _ _ _ (.inl (S.cel _ z rfl))
  exact Option.isSome_iff_exists.mp hs
 ·rcases ng K with a|⟨a,_⟩
  ·exact bt (L a)
  ·have:=fH (x:=x) scope.names (C+1) [] (.inl (by simpa [eI] using h));rw [a] at this;cases this
 ·exact aM (aL (ff b B) O)
 ·rcases ng h with a|⟨_,a⟩
  ·exact fW (yV (ff b B) (L a))
  ·exact (T b B).f4 x c (E x c a)
 ·rcases (T b B).f3 with z|z
  ·exact I.ok.noex b o h z
  ·exact absurd (aL (ax h) (bF I.ok.bsz z)) (cZ _)
 ·rcases List.mem_cons.mp (I.stkSub b z) with e|e
  ·exact (T b B).f1 e
  ·exact (T b B).f2 e
 ·have M:nt<=i:=by
   refine S1 fun Q=>?_;have f:(n8 nt ix σ)[i]?=some (some v):=K;unfold n8 at f;rw [bR (by simpa using Q),bI,if_pos Q] at f;cases f
  have f:(n8 nt ix σ)[i]?=some (some v):=K;unfold n8 at f;rw [bg (by simpa using M),de,aH] at f;cases e:ix[i-nt]? with
  |none=>rw [e] at f;cases f
  |some j =>
   rw [e] at f;have hj:σ[j]?=some (some v):=by
    have q:(σ[j]?).join=some v:=bO f;cases e3:σ[j]? with
    |none=>rw [e3] at q;cases q
    |some o=>rw [e3] at q;cases o with
     |none=>cases q
     |some v'=>cases q;rfl
   obtain ⟨x',n1,n2,fr⟩:=S.cap _ _ e;rw [Nat.add_sub_cancel' M] at n2;have a1:N'[i]?=some x:=U;rw [a1] at n2;cases n2;obtain ⟨mm,hn,hl⟩:=I.loc;have w:=S.free (x,.free) (dD fr) rfl;obtain ⟨u,r,l⟩:=hl j x v n1 hj (w.elim (fun z=>.inr (.inl z)) fun z=>.inr (.inr z));refine ⟨u,r,?_⟩;rcases l with ⟨k,_⟩|⟨k,c,hc,hcell⟩
   ·have k:X.env.scope.names.lookup x=some .local:=k;rcases w with z|z<;>(rw [z] at k;cases k)
   ·obtain ⟨c',P⟩:=c2 _ (dD fr) rfl;have:=E x c' P;rw [hc] at this;cases this;have a2:(bW (C+1) scope.names []).lookup x=none:=by
     cases e:(bW (C+1) scope.names []).lookup x with
     |none=>rfl
     |some d =>
      rcases oX _ _ _ (dD e) with z|z
      ·have q:=S.cel _ z rfl;rw [fr] at q;cases q
      ·cases z
    refine .inr ⟨?_,c,by show (bW (C+1) scope.names G).lookup x=some c;rw [jF,NJ,a2];exact P,g hcell⟩;rcases uH (env:=X.env) fr with z|z
    ·exact .inr z
    ·exact .inl z
 ·rcases ng h with a|⟨_,a⟩
  ·exact ⟨none,(ok.empty x c a).1⟩
  ·obtain ⟨v,q⟩:=I.cell x c (E x c a);exact ⟨v,g q⟩
 ·rcases ng h with a|⟨_,a⟩
  ·exact I.hok.fresh (bt (L a))
  ·exact I.freeC x c (E x c a)
 ·have hp:p∈X.pn++pins:=(List.mem_append.mp hp).elim id fun z=>absurd z (by simp);obtain ⟨e,n,ne,nf,d⟩:=I.pin p hp;refine ⟨A _ _ e,n,aM (aL (ax e) O),fun z=>?_,d⟩;rcases List.mem_cons.mp (I.stkSub p.1 z) with e|e
  ·exact ne e
  ·exact nf e
 ·show (n8 nt ix σ).length=N'.length;rw [S.len];simp [n8]
theorem Un.grow (u:Un fs ex H H1 h h1) (g:bJ C h1 h2) (f:h.objs.size<=C) (j:h.objs.size<=D) (d:H1 D=none):Un fs ex H (upd H1 D o) h h2 where
 keep:=fun b a q n i c=>(g.2 b (aM (aL (ax q) f))).trans (u.keep b a q n i c)
 slot:=fun b a q n i c=>by
  obtain ⟨l,e⟩:=u.slot b a q n i c;exact ⟨l,(g.2 b (aM (aL (ax q) f))).trans e⟩
 free:=fun b a q n c=>by rw [aC (aM (aL (ax q) j))];exact u.free b a q n c
 there:=fun b a q c=>by
  obtain ⟨k,e⟩:=u.there b a q c;exact ⟨k,(g.2 b (aM (aL (ax q) f))).trans e⟩
 tups:=fun b xs q=>by have z:=u.tups b xs q;rw [aC (aK z d)];exact z
 frzs:=fun b a xs q=>by have z:=u.frzs b a xs q;rw [aC (aK z d)];exact z
 tbls:=fun b ps q=>by
  obtain ⟨m,z⟩:=u.tbls b ps q;exact ⟨m,by rw [aC (aK z d)];exact z⟩
theorem FR (k:rR P w H h) (d:H C=none) (g:bJ C h h'):rR P w H h':=fun b f e=>by
 refine (k b f e).stay (fun c i a q=>(g.2 c ?_).trans q) (fun _ q=>q) fun _ _ q=>q;rintro rfl;rcases a with rfl|a
 ·rw [d] at e;cases e
 ·rw [d] at a;cases a
theorem xU (k:rR P w H h) (d:H D=none) (new:dw P w (upd H D o) h D o):rR P w (upd H D o) h:=fun b f e=>by
 by_cases a:b=D
 ·subst a;rw [aI] at e;cases e;exact new
 ·rw [aC a] at e;exact (k b f e).stay (fun c i g q=>q) (fun c q=>by rw [aC (aK q d)];exact q) fun c x q=>by rw [aC (aK q d)];exact q
theorem nf {M:NH}{A:bh}{α:Type}{t:Sem α}{Q:α->ak->Prop}{a:ae->ak->Prop}{s:ak} (h:av M A t Q (fun _ _=>False) s):av M A t Q a s :=
 cx h (fun _ _ q=>q) fun _ _ f=>f.elim
theorem bH.pin1 (I:bH X [] σ H s) (e:s.heap.get? D=some o) (n:H D=none) (b:D≠X.env.locals) (nf:D∉X.fs) (d:∀ v,o.data≠.cell v):bH X [(D,o)] σ H s :=
 I.pins_of fun p a=>by
  have:p=(D,o):=by simpa using a
  subst this;exact ⟨e,n,b,nf,d⟩
def WJ (nt:Nat) (g:TG):Prop:=∀ x a H (Q:St->Hp->Prop),g x a H Q->g x a H (fun b c=>Q b c/\b.length=a.length/\∀ j,nt<=j->b[j]?=a[j]?)
theorem OU (h:i<nt):WJ nt (wt i):=fun x a H Q q=>⟨q,by simp,fun j b=>am (by omega)⟩
theorem T4 {nt i k n:Nat}{K:aa} (h:i<nt) (h':k<nt):WJ nt (Wf K n (ah (wt i) (ah (wt k) aN))):=by
 rintro x d H Q ⟨a,xs,rfl,sq,c,v,r,rfl,b,f,rfl,rfl,q⟩;exact ⟨a,_,rfl,sq,c,v,_,rfl,b,_,rfl,rfl,q,by simp,fun j e=>by rw [am (by omega),am (by omega)]⟩
theorem bH.swap {X:Cx}{pl:List (af×Obj)}{σ:St}{H:Hp}{s:ak}{D:af}{o d:Obj}{h':bA} (I:bH X ((D,o)::pl) σ H s) (u:bJ D s.heap h') (n:h'.get? D=some d) (l:∀ v,d.data≠.cell v) (i:D∈X.ex\/X.s₀.heap.objs.size<=D) (q:∀ x c,X.env.cells.lookup x=some c->c≠D) (k:∀ p∈X.pn++pl,p.1≠D):bH X ((D,d)::pl) σ H { s with heap:=h' }:=by
 obtain ⟨w,h,f,j,_⟩:=I.pin (D,o) (ba _ au)
 have t:bH X pl σ H s:=I.pins_of fun p a=>I.pin p (ba _ (aq _ a))
 have g:bH X pl σ H { s with heap:=h',toks:=s.toks }:=t.turned (it:=D) (fun b o m e=>u.extBut b o m e) h f i q k
 refine g.pins_of fun p a=>?_
 rcases bf.1 a with z|a
 ·rw [z];exact ⟨n,h,f,j,l⟩
 ·exact g.pin p (ba _ a)
abbrev Yw (a:List ae) (b:Nat):Obj:={ cls:=.type "list",data:=.seq a.toArray b }
inductive GLI (X:Cx) {α:Type} (P:af->Obj->α->Prop) (pins:List (af×Obj)) (N':List Str) (scope:fU) (cl:List (Str×af)) (C:af) (s2:ak) (H2:Hp) (fp:List af) (nt:Nat) (ix:List Nat) (σ:St) (tn:Nat->bA->Prop) (W:Nat->Nat->α->Hp->Prop) (n:Nat) (s':ak):Prop
 |mk (i:Nat) (acc:α) (oD:Obj) (H':Hp) (I:bH (eI X N' scope cl C s2 H2 fp (X.pn++pins)) [(s2.heap.objs.size,oD)] (n8 nt ix σ) H' s') (S:P s2.heap.objs.size oD acc) (t:tn i s'.heap) (f:∀ b∈fp,H' b=none) (w:W i n acc H'):GLI X P pins N' scope cl C s2 H2 fp nt ix σ tn W n s'
def Vc (X:Cx) (i tg:bc) (h:List bc) (it:af) (d:Nat) (j:Env->af->(ak->Prop)->ak->Prop):Prop :=
 ∀ (env:Env) (D:af) (R:Result->ak->Prop) (I:Nat->ak->Prop),(∀ n s,I n s->av (aF X.prog X.w) X.A (qv (.ref it)) (fun r a=>match r with
   |none=>R (.ok .next) a
   |some v=>av (aF X.prog X.w) X.A (jj tg (.ref it) v) (fun _ e=>av (aF X.prog X.w) X.A (oS tg env v) (fun _ f =>
     av (aF X.prog X.w) X.A (forIn h true fun c r=>if r=true then do let ok <- xD c env (bG c env);pure (jw ok) else pure (jw r)) (fun ok b =>
      if ok=true then j env D (fun g=>∃ m,m<n/\I m g) b else ∃ m,m<n/\I m b) (fun _ _=>False) f) (fun _ _=>False) e) (fun _ _=>False) a) (fun _ _=>False) s) ->
  ∀ n s,I n s->gZ (aF X.prog X.w) X.A (.compLoop i d (.ref it) (.ref D) env) R s
theorem Vd {X:Cx}{e0 tg iter:bc}{ifs:List bc}{d:Nat}{Bd:Env->af->(ak->Prop)->ak->Prop}{it:af}{Kt:Env->af->Bool->Sem Fin}
  (hT:∀ env D,compTurn e0 d (.ref it) (.ref D) env=(do
   j3 iter.pos
   match <- qv (.ref it) with
   |none=>pure (.done .next)
   |some v =>
    jj tg (.ref it) v
    oS tg env v
    let mut ok:=true
    for c in ifs do
     if ok then ok <- xD c env (bG c env)
    Kt env D ok))
  (ht:∀ env D K s,Bd env D K s->av (aF X.prog X.w) X.A (Kt env D true) (fun f s5=>f=.again (.compLoop e0 d (.ref it) (.ref D) env)/\K s5) (fun _ _=>False) s)
  (hf:∀ env D,Kt env D false=pure (.again (.compLoop e0 d (.ref it) (.ref D) env)):=by intros;rfl) (hA:∀ env D,X.A.under (.compLoop e0 d (.ref it) (.ref D) env)=X.A:=by intros;rfl)
  (hD:∀ env D,(aF X.prog X.w).den (.compLoop e0 d (.ref it) (.ref D) env)=(compTurn e0 d (.ref it) (.ref D) env).onRaise (fun x=>do NK x env;theTreesLotGoes x):=by intros;rfl):Vc X e0 tg ifs it d Bd:=by
 intro env D R I turn n s h
 refine codeAny_loop rfl I (fun n s hI=>?_) n h
 rw [hA,hD]
 refine wpAny_noted ?_
 rw [hT]
 refine ac (nO (ac (nf (cx (turn n s hI) (fun r s₁ h₁=>?_) fun _ _ h'=>h'))))
 cases r with
 |none=>exact ag h₁
 |some v =>
  refine ac (nf (cx h₁ (fun _ s₁' h₁'=>?_) fun _ _ h'=>h'))
  refine ac (nf (cx h₁' (fun _ s₂ h₂=>ac (nf (cx h₂ (fun ok s₃ h₃=>?_) fun _ _ h'=>h'))) fun _ _ h'=>h'))
  cases ok with
  |false=>rw [hf];exact ag ⟨rfl,h₃⟩
  |true =>
   refine nf (cx (ht _ _ _ _ h₃) (fun f s₅ h₅=>?_) fun _ _ h'=>h')
   obtain ⟨e,h₅⟩:=h₅
   subst e
   exact ⟨rfl,h₅⟩
def OV (X:Cx) {α:Type} (N':List Str) (scope:fU) (M:St->Prop) (P:af->Obj->α->Prop) (L:α->Prop) (U:St->Hp->α->Nat->(Nat->α->Hp->Prop)->Prop) (n:Env->af->(ak->Prop)->ak->Prop):Prop :=
 ∀ f C a b h g (D:af) (pl:List (af×Obj)) (o:Obj) (e:α) (σ:St) (H:Hp) (s:ak) (K:ak->Prop) (m:Nat) (V:Nat->α->Hp->Prop),(D∈h\/a.heap.objs.size<=D)->(∀ x c,f.lookup x=some c->c≠D)->(∀ p∈g++pl,p.1≠D)->M σ->L e->P D o e ->
  bH (eI X N' scope f C a b h g) ((D,o)::pl) σ H s->U σ H e m V->(∀ d l k i j,bH (eI X N' scope f C a b h g) ((D,l)::pl) σ k i->P D l d->j<m->V j d k->K i)->n (eI X N' scope f C a b h g).env D K s
inductive T5 (X:Cx) (N':List Str) (scope:fU) (nt nc:Nat) (ix:List Nat) (e0 tg:bc) (ifs:List bc) (newA:Sem ae) {α:Type} (O:af->α->HO) (a0:α) (L:α->Prop) (U:St->Hp->α->Nat->(Nat->α->Hp->Prop)->Prop):Prop
 |mk (P:af->Obj->α->Prop) (o0:Obj) (Bd:af->Env->af->(ak->Prop)->ak->Prop) (M:St->Prop) (nd:∀ {D o acc},P D o acc->∀ v,o.data≠.cell v) (of:o0.isFreed=false) (p0:∀ D,P D o0 a0)
  (tr:∀ {H h D o acc},i_<D->P D o acc->h.get? D=some o->dw X.prog X.w H h D (O D acc))
  (hnew:∀ {E s2}{Q:ae->ak->Prop},Q (.ref s2.heap.objs.size) { s2 with heap:=s2.heap.push o0 }->av (aF X.prog X.w) X.A newA Q E s2) (loopX:∀ it,Vc X e0 tg ifs it 0 (Bd it))
  (hst:∀ {it acc env R s},gZ (aF X.prog X.w) X.A (.compLoop e0 0 (.ref it) acc env) R s->av (aF X.prog X.w) X.A (xE (.ref it)) (fun it' s'=>gZ (aF X.prog X.w) X.A (.compLoop e0 0 it' acc env) R s') (notedBy (aF X.prog X.w) X.A env fun x s'=>R (.error x) s') s->gZ (aF X.prog X.w) X.A (.compStart e0 0 (.ref it) acc env) R s)
  (hM:nt<=nc/\∀ σ σ6:St,(∀ j,nt<=j->σ6[j]?=(n8 nc ix σ)[j]?)->M σ6) (hstep:∀ it,OV X N' scope M P L U (Bd it)):T5 X N' scope nt nc ix e0 tg ifs newA O a0 L U
theorem J6 {X:Cx}{α:Type}{O:af->α->HO}{a0:α}{a7:Sem ae}{L:α->Prop}{U:St->Hp->α->Nat->(Nat->α->Hp->Prop)->Prop}{e0 tg:bc}{e5:List bc}{scope:fU}{g:TG}{tt:TT}{N':List Str}{nt nc:Nat}{ix:List Nat}
  (g8:T5 X N' scope nt nc ix e0 tg e5 a7 O a0 L U) (hc:X.calm=true) (S:oW X scope N' nc ix) (lo:WJ nt g)
  (l:∀ G C a5 a8 ex pn,PG (eI X N' scope G C a5 a8 ex pn) tg g/\SZ (eI X N' scope G C a5 a8 ex pn) e5 tt)
  {G:List (Str×af)} (c1:∀ x c,G.lookup x=some c->X.env.cells.lookup x=some c) (c2:∀ y∈scope.names,y.2=.free->∃ c,G.lookup y.1=some c)
  {h:List (af×Obj)}{σ:St}{I:Hp}{k:ak}{it:af}{B:List af}{tn:Nat->bA->Prop}{J:It}{Q:VK}{E:ae->ak->Prop}
  (I2:bH X h σ I k) (T:DN X.prog X.w X.K tg J B it tn) (d9:tn 0 k.heap) (f2:∀ b∈B,wu X h I b)
  {W:Nat->Nat->α->Hp->Prop} (w0:∃ m,W 0 m a0 I)
  (d4:∀ i m f H,W i m f H->(J.stop i H/\∀ p,H p=none->Q (.ref p) (upd H p (O p f))) \/
   (J.go i H/\L f/\∀ x H',J.yld i H x H'->g x (n8 nc ix σ) H' fun e3 I=>tt e3 I fun b H3 =>
    if b=true then U e3 H3 f m (W (i+1)) else ∃ m',m'<m/\W (i+1) m' f H3))
  {RR:ae->af->Result->ak->Prop}
  (g0:∀ D C m s' (f:α) H',H' D=none->wu X h (upd H' D (O D f)) C->Q (.ref D) (upd H' D (O D f))->s'.heap.Ns C m->(∀ h',bJ C s'.heap h'->bH X h σ (upd H' D (O D f)) { s' with heap:=h' })->RR (.ref D) C (.ok .next) s') :
  av (aF X.prog X.w) X.A a7 (fun f e9=>av (aF X.prog X.w) X.A (Io scope X.env.globals G [] X.env.qual none .none (some X.env)) (fun a6 d2 =>
   gZ (aF X.prog X.w) X.A (.compStart e0 0 (.ref it) f { a6 with scope:=relabel scope X.env }) (RR f a6.locals) d2) E e9) E k:=by
 obtain ⟨P,o0,Bd,M,nd,of,p0,tr,d8,a9,g6,⟨h5,hM⟩,c0⟩:=g8
 refine d8 (T3 fun s t=>?_);dsimp only at t ⊢;generalize c3:k.heap.push o0=G2 at t ⊢;have hC:G2.objs.size=k.heap.objs.size+1:=by rw [<- c3,cf]
 have c4:k.heap.objs.size≠G2.objs.size:=by rw [hC];exact aM (fi _)
 have N:k.heap.objs.size<=G2.objs.size:=by rw [hC];exact mC _
 have below:∀ b,b<k.heap.objs.size->b≠G2.objs.size:=fun b l=>by rw [hC];exact aM (jh l)
 have kp:∀ b o,G2.get? b=some o->s.get? b=some o:=fun b o e=>by rw [t];exact pushCells_keeps _ _ b o (ai _ e)
 have a3:s.Ns G2.objs.size (fun _=>none):=by rw [t];exact (Heap.Ns.new G2 (.type "dict")).keeps (pushCells_keeps _ _)
 have a1:CellsOk s (G2.objs.size+1) (bW (G2.objs.size+1) scope.names []):=by rw [t];exact MA G2 scope.names
 have cne:∀ x c,(bW (G2.objs.size+1) scope.names G).lookup x=some c->X.env.cells.lookup x=some c\/k.heap.objs.size<c:=fun x c e=>by
  rcases ng e with a|⟨_,a⟩
  ·exact .inr (aL (qo N) (a1.empty x c a).2)
  ·exact .inl (c1 x c a)
 have e1:∀ b o,k.heap.get? b=some o->s.get? b=some o:=fun b o e=>kp b o (c3 ▸ ai _ e);have d0:s.get? k.heap.objs.size=some o0:=kp _ _ (c3 ▸ aD _ of);have ff:∀ b∈B,b<k.heap.objs.size:=fun b l=>by
  obtain ⟨o,e,_⟩:=T.obj _ _ d9 b l;exact ax e
 have I3:bH (eI X N' scope (bW (G2.objs.size+1) scope.names G) G2.objs.size k I B (X.pn++h)) [] (n8 nc ix σ) I { k with heap:=s,toks:=k.toks }:=OT S I2 c1 c2 f2 ff N a3 e1 a1;obtain ⟨pg,pt⟩:=l (bW (G2.objs.size+1) scope.names G) G2.objs.size k I B (X.pn++h);have d5:k.heap.objs.size∉uR X.stack:=fun z=>by
  rcases List.mem_cons.mp (I2.stkSub _ z) with e|e
  ·exact absurd I2.lt (by rw [<- e];exact cZ _)
  ·exact I2.nofs (aA _) e
 have d3:tn 0 s:=T.keep _ _ _ d9 fun b _ o e=>e1 b o e;have c5:k.heap.objs.size∉B:=fun z=>absurd (ff _ z) (cZ _);have a2:∀ {H':Hp}{pl:List (af×Obj)},(∀ p∈pl,p.1∉B)->(∀ b∈B,H' b=none)->∀ b∈B,wu (eI X N' scope (bW (G2.objs.size+1) scope.names G) G2.objs.size k I B (X.pn++h)) pl H' b:=fun h0 hn b l=>by
  obtain ⟨f0,f1,g1,f3,f4,f5⟩:=f2 b l;refine ⟨hn b l,below b (ff b l),fun z=>?_,.inl l,fun x c e=>(cne x c e).elim (f4 x c) fun q z=>Ip q (by rw [z];exact ff b l),fun p hp z=>?_⟩
  ·rcases List.mem_cons.mp (I2.stkSub _ z) with e|e
   ·exact f1 e
   ·exact g1 e
  ·rcases List.mem_append.mp hp with q|q
   ·exact f5 p q z
   ·exact h0 p q (z ▸ l)
 obtain ⟨m0,w0⟩:=w0;have a4:gZ (aF X.prog X.w) X.A (.compLoop e0 0 (.ref it) (.ref k.heap.objs.size) (compEnvC scope (bW (G2.objs.size+1) scope.names G) G2.objs.size X.env))
    (RR (.ref k.heap.objs.size) G2.objs.size) { k with heap:=s,toks:=k.toks }:=by
  refine a9 it _ _ _ (GLI X P h N' scope (bW (G2.objs.size+1) scope.names G) G2.objs.size k I B nc ix σ tn W) ?_ m0 _
   ⟨0,a0,_,I,I3.pin1 d0 (I2.hok.fresh (aA _)) c4 d5 (nd (p0 k.heap.objs.size)),p0 _,d3,fun b l=>(f2 b l).1,w0⟩
  rintro n s3 ⟨i,f,oD,H3,J3,b8,e4,d7,w3⟩;have b6:∀ p∈[(k.heap.objs.size,oD)],p.1∉B:=fun p hp=>by
   have:p=(k.heap.objs.size,oD):=by simpa using hp
   rw [this];exact c5
  rcases d4 i n f H3 w3 with ⟨d1,qn⟩|⟨go,hlt,step⟩
  ·refine fE (T.done (eI X N' scope (bW (G2.objs.size+1) scope.names G) G2.objs.size k I B (X.pn++h)) rfl rfl rfl hc i _ s3 _ H3 _ J3 (a2 b6 d7) e4 d1) fun r s4 g3=>?_;obtain ⟨hr,I4⟩:=g3;subst hr;obtain ⟨pD,pN,_⟩:=I4.pin (k.heap.objs.size,_) (ba _ (List.mem_singleton.mpr rfl));obtain ⟨mm,hn,_⟩:=I4.loc;have e6:H3 G2.objs.size=none:=I4.free;refine g0 _ _ mm s4 f H3 pN (I2.fpOk N (by rw [aC (eC c4)];exact e6)) (qn _ pN) hn fun h' sb=>?_;have hu:Un (uR X.stack) B I (upd H3 k.heap.objs.size (O k.heap.objs.size f)) k.heap h':=Un.grow I4.base sb N (aA _) pN;refine I2.call' (s':={ s4 with heap:=h' }) (ch:=B) I4.os hu ?_ I4.bare fun b l=>?_
   ·exact xU (FR I4.hok e6 sb) pN (tr I2.big b8 ((sb.2 _ c4).trans pD))
   ·obtain ⟨_,f1,_,f3,f4,f5⟩:=f2 b l;exact ⟨f3,f1,f4,f5⟩
  ·refine fE (T.item (eI X N' scope (bW (G2.objs.size+1) scope.names G) G2.objs.size k I B (X.pn++h)) rfl rfl rfl hc i _ s3 _ H3 _ J3 (a2 b6 d7) e4 go) fun r s4 h2=>?_;obtain ⟨u,hr,h4⟩:=h2;subst hr;refine fE h4 fun _ s5 g4=>?_;obtain ⟨x,H5,I5,r5,y5,Y,h1⟩:=g4;have f6:=I5.pinned (a2 b6 h1) (T.obj _ _ Y);refine fE (pg _ s5 _ H5 x u _ f6 r5 (lo _ _ _ _ (step x H5 y5))) fun _ s6 g5=>?_;obtain ⟨b0,H6,I6,q6,l6,k6⟩:=g5;have hw:∀ (j:Nat) v,(n8 nc ix σ)[j]?=some (some v)->b0[j]?=some (some v):=fun j v e=>by
    by_cases hj:nt<=j
    ·rw [k6 j hj];exact e
    ·unfold n8 at e;rw [bR (by simp;omega),bI,if_pos (by omega)] at e;cases e
   refine fE (pt _ s6 b0 H6 _ I6 q6) fun b s7 g7=>?_;obtain ⟨H7,I7,q7⟩:=g7;have h3:∀ {s8:ak}{e2:St}{H8:Hp},bH (eI X N' scope (bW (G2.objs.size+1) scope.names G) G2.objs.size k I B (X.pn++h)) ([(k.heap.objs.size,oD)]++zY B s5.heap) e2 H8 s8 ->
     tn (i+1) s8.heap/\∀ b∈B,H8 b=none:=fun {s8 e2 H8} I8=>by
    refine ⟨T.keep _ _ _ Y fun b l o e=>(I8.pin (b,o) (ba _ (ba _ (l7 l e)))).1,fun b l=>?_⟩;obtain ⟨o,e,d⟩:=T.obj _ _ Y b l;exact (I8.pin (b,o) (ba _ (ba _ (l7 l e)))).2.1
   cases b with
   |false =>
    simp only [cB,if_false] at q7 ⊢;obtain ⟨m',hm,w7⟩:=q7;obtain ⟨t7,f7⟩:=h3 I7;exact ⟨m',hm,i+1,f,oD,H7,(I7.weak l6.symm hw).unpinned,b8,t7,f7,w7⟩
   |true =>
    simp only [if_true] at q7 ⊢
    refine c0 it _ _ _ _ _ _ _ _ _ _ _ _ _ _ _ _ (.inr (aA _)) (fun x c e z=>?_) (fun p hp z=>?_) (hM σ b0 k6) hlt b8 I7 q7 fun d6 o' H8 s8 m' I8 p8 hm w8=>?_
    ·rcases cne x c e with e|e
     ·obtain ⟨v,q⟩:=I2.cell x c e;exact absurd q.lt (by rw [z];exact cZ _)
     ·exact absurd e (by rw [z];exact cZ _)
    ·rcases sk.1 hp with hp|hp
     ·exact absurd (ax (I2.pin p hp).1) (by rw [z];exact cZ _)
     ·exact c5 (z ▸ (Ct hp).1)
    ·obtain ⟨t8,f8⟩:tn (i+1) s8.heap/\∀ b∈B,H8 b=none:=by
      refine ⟨T.keep _ _ _ Y fun b l o e=>(I8.pin (b,o) (ba _ (aq _ (l7 l e)))).1,fun b l=>?_⟩;obtain ⟨o,e,d⟩:=T.obj _ _ Y b l;exact (I8.pin (b,o) (ba _ (aq _ (l7 l e)))).2.1
     exact ⟨m',hm,i+1,d6,o',H8,(I8.weak (σ':=n8 nc ix σ) l6.symm hw).pins_of fun p hp=>I8.pin p (ba _ (by rw [eE.1 hp];exact au)),p8,t8,f8,w8⟩
 exact g6 a4 (T.self _ 0 _ _ _ d3 a4)
def Yx (_:af) (o:Obj) (b:List V):Prop:=∃ a c,o=Yw a c/\cS b a/\b.length<=sizeLine
def WK (X:Cx) (c:bc) (env:Env) (D:af) (K:ak->Prop) (s:ak):Prop:=av (aF X.prog X.w) X.A (bG c env) (fun x a=>av (aF X.prog X.w) X.A (call (.builtin "list.append") [.ref D,x]) (fun _ b=>K b) (fun _ _=>False) a) (fun _ _=>False) s
theorem OW {X:Cx}{d:bc}{s:TE}{N':List Str}{scope:fU}{M:St->Prop} (A:∀ f C c b p h,PE (eI X N' scope f C c b p h) d s) :
  OV X N' scope M Yx (fun a=>a.length<sizeLine) (fun σ H a m V=>s σ H fun y B=>∃ e,e<m/\V e (a++[y]) B) (WK X d):=by
 intro f C c b p h D pl o a n G x K m V v Y E _ hl O L I fin
 obtain ⟨k,nn,rfl,t,hz⟩:=O
 refine fE (A f C c b p h _ x n G _ L I) fun w s8 g=>?_
 obtain ⟨y,S,u,T,e,Q,P⟩:=g
 obtain ⟨U,pN,_⟩:=u.pin (D,_) (ba _ au)
 have hv:=t.length
 refine wpAny_list_append_plain ⟨nn,U⟩ (hsz:=by rw [aG];omega) ?_
 intro N i l
 obtain ⟨q,e9⟩:=i
 have j:N.get? D=some (Yw (k++[w]) q):=by rw [e9];simp
 exact fin (a++[y]) _ S _ e (u.swap l j (fun _ z=>nomatch z) v Y E) ⟨_,q,rfl,t.append (.cons T .nil),by rw [bB,lI];omega⟩ Q P
theorem OX {X:Cx}{b:bc}{f:Sem Fin}{a:Code} (d:f=pure (.again a)) (env:Env) (D:af) (K:ak->Prop) (s:ak) (h:WK X b env D K s):av (aF X.prog X.w) X.A ((do let _ <- call (.builtin "list.append") [.ref D,<- bG b env]) >>= fun _=>f) (fun f c=>f=.again a/\K c) (fun _ _=>False) s:=by
 subst d;exact ac (ac (fE h fun x g e=>ac (fE e fun _ _ q=>ag (ag ⟨rfl,q⟩))))
theorem KJ {X:Cx}{g tg iter:bc}{j:List bc}{scope:fU}{n:Pos}{p:TE}{N':List Str}{nt:Nat}{ix:List Nat} (t:∀ q C k i A s,PE (eI X N' scope q C k i A s) g p) :
  T5 X N' scope nt nt ix (.ListComp g [⟨tg,iter,j,0⟩] scope n) tg j (newList []) (fun _=>HO.lst) [] (fun f=>f.length<sizeLine) (fun σ H f m V=>p σ H fun y v=>∃ o,o<m/\V o (f++[y]) v) :=
 ⟨Yx,_,fun _=>WK X g,fun _=>True,fun ⟨_,_,h,_⟩ _ z=>(by rw [h] at z;cases z),rfl,fun _=>⟨[],0,rfl,.nil,cy _⟩,fun _ ⟨l,x,h,w,u⟩ e=>⟨u,l,x,w,by rw [e,h]⟩,cD,fun _=>Vd (iter:=iter) (fun _ _=>rfl) fun a b c d h=>OX rfl a b c d h,codeAny_compStart_list,⟨aA _,fun _ _ _=>trivial⟩,fun _=>OW t⟩
theorem FT
  (O:X.calm=true) (S:oW X scope N' nt ix) (lo:WJ nt g) (P:PI X tg iter wi)
  (t:∀ o C j i z p,PG (eI X N' scope o C j i z p) tg g/\SZ (eI X N' scope o C j i z p) ifs tt/\PE (eI X N' scope o C j i z p) elt te)
  (hs:∀ x,e8 iter X.env x=pure x:=by intro _;rfl):PE X (.ListComp elt [⟨tg,iter,ifs,0⟩] scope pos) (OS nt ix wi g tt te):=by
 intro k s σ H Q I h;obtain ⟨o,B,c1,L⟩:=vc (scope:=scope) (env:=X.env) fun y G U=>I.ok.has y.1 (S.free y G U);rw [eval_ListComp];refine sr (use:=none) rfl hs B S.kind S.loc (fE (P k s σ H _ I h) fun v s1 E=>fE E fun M s2 h2=>?_);obtain ⟨it,fp,tn,J,H2,e,I2,T,u,Y,W,K,n⟩:=h2;subst e;refine J6 (RR:=fun l C=>compPost (aF X.prog X.w) X.A X.xe none (EP X k σ Q) l C) (KJ fun a b c d e f=>(t a b c d e f).2.2) O S lo (fun a b c d e f=>⟨(t a b c d e f).1,(t a b c d e f).2.1⟩) c1 L I2 T u Y K n ?_;intro D C m s' l H' hD _ q hn N;exact ⟨m,hn,fun h' sb=>⟨.ref D,_,N h' sb,rfl,q⟩⟩
def Yy (i:Nat) (a:TE):TS:=fun D σ H=>a σ H fun x b=>D.nx (σ.set i (some x)) b
theorem Ag
  (hN:X.N.Nodup) (G:X.N[i]?=some y) (u:X.env.scope.names.lookup y=some .local)
  (hc:X.calm=true) (S:oW X scope N' nt ix) (lo:WJ nt g) (hi:PI X tg iter wi)
  (t:∀ B C k l M O,PG (eI X N' scope B C k l M O) tg g/\SZ (eI X N' scope B C k l M O) ifs tt/\PE (eI X N' scope B C k l M O) elt te)
  (K:dE (.ListComp elt [⟨tg,iter,ifs,0⟩] scope pos) (some (.Name y py)) spos.line X.env=pure true:=by rfl)
  (hs:∀ x,e8 iter X.env x=pure x:=by intro _;rfl):PS X (.Assign [.Name y py] (.ListComp elt [⟨tg,iter,ifs,0⟩] scope pos) spos) (Yy i (OS nt ix wi g tt te)):=by
 intro j s σ H D I h;obtain ⟨B,Y,c1,c2⟩:=vc (scope:=scope) (env:=X.env) fun y u hf=>I.ok.has y.1 (S.free y u hf);rw [exec_Assign_Name_used _ _ _ _ K];refine ac (nO (ac ?_));show av _ X.A (do let _ <- comprehension (.ListComp elt [⟨tg,iter,ifs,0⟩] scope pos) scope X.env _ (newList []) false (bG iter X.env) (some (oS (.Name y py) X.env))) _ _ s;refine ac (cx (sr (use:=some (oS (.Name y py) X.env)) (Q:=fun _ s'=>SP X j D .next s') rfl hs Y S.kind S.loc
  (fE (hi j s σ H _ I h) fun v s1 h1=>fE h1 fun a0 s2 h2=>?_)) (fun _ s' hq=>ag (ag hq)) fun _ _ e=>e)
 obtain ⟨it,fp,tn,J,H2,e,I2,T,U,f2,W,w0,p⟩:=h2;subst e;refine J6 (Q:=fun x H1=>D.nx (σ.set i (some x)) H1) (RR:=fun n C=>compPost (aF X.prog X.w) X.A X.xe (some (oS (.Name y py) X.env)) (fun _ s'=>SP X j D .next s') n C) (KJ fun a b c d e f=>(t a b c d e f).2.2) hc S lo (fun a b c d e f=>⟨(t a b c d e f).1,(t a b c d e f).2.1⟩) c1 c2 I2 T U f2 w0 p ?_;intro L C m s' n H' hD fC q hn hI;show av _ X.A (oS (.Name y py) X.env (.ref L)) _ _ _;have I3:bH X j σ (upd H' L (.lst n)) s':=hI s'.heap (.refl ..);refine wpAny_assign_Name (Cq I3 hN G (.inl u) (v:=.ref L) rfl (fun s4 I4 ⟨a,sb,ha⟩=>?_) (.inr u));obtain ⟨g0,g1,g2,g3,g4,g5⟩:=fC;have E:C≠a:=by
  rcases ha with z|z
  ·rw [z];exact g1
  ·exact fun e=>g4 y a z e.symm
 refine ⟨m,hn.sameBut sb E,fun h5 P=>?_⟩;exact ⟨_,_,I4.turned (t':=s4.toks) (fun b o t e=>(P.2 b t).trans e) g0 g1 g3 g4 g5,q⟩
def kQ (e:Int×ae):Str:=match e.2 with
 |.str x _=>x
 |_=>⟨#[]⟩
def vd (w:bi) (e:Int×ae):Prop:=∃ x a,e=(hashStr w x,ju x a)
structure c_ (w:bi) (h:bA) (a:af) (es:Array (Int×ae)) (ep:Nat) (t:m9):Prop where
 at_:h.get? a=some { cls:=.type "set",dict:=none,data:=.set es ep t }
 txt:∀ e∈es.toList,vd w e
 nd:(es.toList.map kQ).Nodup
 few:es.size<iJ
 fits:t.fits es.size=true
 led:t.led=!w.params.followText "set-order"
 pl:es.size=0\/t.plain=false
inductive mE (w:bi) (h:bA) (a:af) (ss:List Str):Prop
 |mk (es ep t:_) (h0:c_ w h a es ep t) (h1:(es.toList.map kQ).Perm ss):mE w h a ss
theorem J7 (t:m9) (b:Array (Int×ae)) (h:Int) (x:ae):(layNew t b h x).2.1.led=t.led:=by
 unfold layNew;cases t.freeSlot h with
 |none=>rfl
 |some p =>
  obtain ⟨a,d⟩:=p;show ((t.put a).1.orStandIn _).led=_;unfold HM;split<;>rfl
theorem DX (t:m9) (c:Array (Int×ae)) (h:Int) (x:ae):t.plain=false->(layNew t c h x).2.1.plain=false:=by
 intro b;unfold layNew;cases t.freeSlot h with
 |none=>rfl
 |some p =>
  obtain ⟨a,d⟩:=p;show ((t.put a).1.orStandIn _).plain=_;unfold HM;split
  ·exact b
  ·rfl
theorem FU {t t':m9}{hs:Array Int}{n:Nat}{o:Array Nat} (h:t.relaid hs n=some (t',o)):t'.led=t.led/\t'.plain=t.plain:=by
 unfold Me Bw at h;cases e:vZ (cw n-1) hs with
 |none=>rw [e] at h;cases h
 |some b =>
  rw [e] at h;have h:=bO h;have a:=congrArg Prod.fst h;subst a;exact ⟨rfl,rfl⟩
theorem MB (t:m9) (a:Array (Int×ae)) (n:Nat):(xH t a n).2.1.led=t.led/\(t.plain=false->(xH t a n).2.1.plain=false):=by
 unfold xH;cases e:t.relaid (a.map (·.1)) n with
 |none=>exact ⟨rfl,fun _=>rfl⟩
 |some p =>
  obtain ⟨t',o⟩:=p;obtain ⟨b,c⟩:=FU e;dsimp only;split
  ·exact ⟨b,fun h=>c.trans h⟩
  ·exact ⟨rfl,fun _=>rfl⟩
theorem OY (h:∀ e∈l,vd w e):ElemsOf (strKind P w) l:=fun e he=>by
 obtain ⟨x,a,rfl⟩:=h e he;exact ⟨⟨x,by simp [PySem.strKind,vV],rfl⟩,rfl⟩
theorem isS (P:aV) (w:bi) (x:Str) (a:Tok):(strKind P w).is x (.str x a)=true:=by simp [PySem.strKind,vV]
theorem KL (h:vd w e) (x:Str):(strKind P w).is x e.2=true↔kQ e=x:=by
 obtain ⟨y,a,rfl⟩:=h;constructor
 ·intro q;have:=(strKind P w).inj _ _ _ q (isS P w y a);rw [this];rfl
 ·rintro rfl;exact isS P w _ a
theorem tT (I:c_ w h a es ep t):(h.update a (su es' t')).get? a=some { cls:=.type "set",dict:=none,data:=.set es' (ep+1) t' }:=by
 have q:=iV (su es' t') I.at_ rfl;exact q
theorem CD (hS:mE w s.heap a ss) (hr:ss.length+1<iJ)
  (h:∀ h' o,bJ a s.heap h'->mE w h' a (if x∈ss then ss else ss++[x])->Q (!decide (x∈ss)) { s with heap:=h',toks:=o }) :
  av (aF P w) A (setAddHashed a (.str x tk) ((strKind P w).hash x)) Q E s:=by
 obtain ⟨g,S,t,I,G⟩:=hS
 have a1:g.size=ss.length:=by rw [<- G.length_eq,aw,ay]
 have O:ElemsOf (strKind P w) g.toList:=OY I.txt
 unfold setAddHashed setAddHashedIn
 refine dm (ac (bD (s:=s) I.at_ rfl I.fits ?_))
 dsimp only
 rw [byScan_of rfl I.few O]
 rw [if_pos rfl]
 unfold setAddByScan
 refine ac (ac (gO (ac (wpAny_setScan_of (s:=s) (isS P w x tk) I.at_ rfl I.fits O ?_))))
 have f:x∈ss↔∃ e∈g.toList,(strKind P w).is x e.2=true:=by
  rw [<- G.mem_iff,List.mem_map]
  constructor
  ·rintro ⟨e,he,q⟩;exact ⟨e,he,(KL (I.txt e he) x).mpr q⟩
  ·rintro ⟨e,he,q⟩;exact ⟨e,he,(KL (I.txt e he) x).mp q⟩
 cases hf:List.findIdx? (fun e=>(strKind P w).is x e.2) g.toList with
 |some j =>
  obtain ⟨hj,hp,_⟩:=List.findIdx?_eq_some_iff_getElem.mp hf
  have N:x∈ss:=f.mpr ⟨_,jx hj,hp⟩
  have q:=h s.heap s.toks (.refl ..) (by rw [if_pos N];exact ⟨g,S,t,I,G⟩)
  rw [decide_eq_true N] at q
  exact ag (ag q)
 |none =>
  have k:x∉ss:=fun z=>by
   obtain ⟨e,he,q⟩:=f.mp z
   rw [List.findIdx?_eq_none_iff.mp hf e he] at q
   cases q
  have h:=fun h' o sb=>h h' o sb
  rw [decide_eq_false k,if_neg k] at h
  have p:=layNew_perm t g ((strKind P w).hash x) (.str x tk)
  have U:=layNew_fits t g ((strKind P w).hash x) (.str x tk)
  have Y:=J7 t g ((strKind P w).hash x) (.str x tk)
  have q1:=DX t g ((strKind P w).hash x) (.str x tk)
  generalize layNew t g ((strKind P w).hash x) (.str x tk)=L at p U Y q1 ⊢
  obtain ⟨c,X,wd,gv⟩:=L
  dsimp only at p U Y q1 ⊢
  rw [NL] at p
  have H:∀ e∈c.toList,vd w e:=fun e he=>by
   rcases List.mem_append.mp (p.mem_iff.mp he) with z|z
   ·exact I.txt e z
   ·rw [eE] at z;exact ⟨x,tk,z⟩
  have km:(c.toList.map kQ).Perm (ss++[x]):=(p.map kQ).trans (by rw [fF];exact G.append_right _)
  have K:(ss++[x]).Nodup:=by
   rw [O5]
   exact ⟨G.nodup_iff.mp I.nd,by simp,fun y hy z hz e=>k (by rw [eE] at hz;rw [<- hz,<- e];exact hy)⟩
  have a2:c.size=g.size+1:=by rw [<- ay,p.length_eq,bB,ay];rfl
  have i:c.size<iJ:=by omega
  have gw:∀ (b:Bool) {l:ak}{Q':Unit->ak->Prop},Q' () l->av (aF P w) A (match b with|true=>rule "set.scan.the-table-gave-way" | false=>pure ()) Q' E l :=
   fun b _ _ z=>by cases b<;>first|exact ag z|exact gO z
  have m:∀ d:m9,d.fits c.size=true->d.led=t.led->d.plain=false->av (aF P w) A (do
    storeSet a c d
    if (!wd&&d.tooFull)=true then do
      (match (xH d c (iW c.size)).2.2 with|true=>rule "set.scan.the-table-gave-way" | false=>pure ())
      storeSet a (xH d c (iW c.size)).1 (xH d c (iW c.size)).2.1
      pure (some true)
     else pure (some true)) (fun r s'=>r=some true/\Q true s') E s:=fun d f2 l2 n2=>by
   refine ac (jy (s:=s) I.at_ rfl ?_ (fV i))
   have a0:=tT (es':=c) (t':=d) I
   have B:=bX s.heap a (su c d)
   have I1:c_ w (s.heap.update a (su c d)) a c (S+1) d:=⟨a0,H,km.nodup_iff.mpr K,i,f2,l2.trans I.led,.inr n2⟩
   split
   ·have u:=relayAll_perm d c (iW c.size)
    have f3:=relayAll_fits d c (iW c.size)
    have T:=MB d c (iW c.size)
    generalize xH d c (iW c.size)=R3 at u f3 T ⊢
    obtain ⟨M,t3,a3⟩:=R3
    dsimp only at u f3 T ⊢
    have n:M.size<iJ:=by rw [<- ay,u.length_eq,ay];exact i
    have v:=(u.map kQ).trans km
    refine ac (gw _ (ac (jy (s:={ s with heap:=s.heap.update a (su c d) }) I1.at_ rfl ?_ (fV n))))
    refine ag ⟨rfl,h _ _ (B.trans (bX _ a _)) ⟨M,S+1+1,t3,⟨tT I1,fun e he=>H e (u.mem_iff.mp he),v.nodup_iff.mpr K,n,f3,T.1.trans (l2.trans I.led),.inr (T.2 n2)⟩,v⟩⟩
   ·exact ag ⟨rfl,h _ _ B ⟨c,S+1,d,I1,km⟩⟩
  refine ac (gw gv ?_)
  cases hp:X.plain with
  |true =>
   simp only [if_true]
   rw [hashByValue_scannable 8 (x:=.str x tk) rfl]
   refine ac (ag ?_)
   refine cx (m { X with plain:=false } (by cases X;exact U) Y rfl) (fun r s' z=>?_) fun _ _ z=>z
   obtain ⟨rfl,z⟩:=z
   exact ag z
  |false =>
   simp only [cB,if_false]
   refine ac (ag ?_)
   refine cx (m X U Y hp) (fun r s' z=>?_) fun _ _ z=>z
   obtain ⟨rfl,z⟩:=z
   exact ag z
theorem FV (d:mE w s.heap a ss) (c:ss.length+1<iJ)
  (h:∀ h' b,bJ a s.heap h'->mE w h' a (if x∈ss then ss else ss++[x])->Q (!decide (x∈ss)) { s with heap:=h',toks:=b }) :
  av (aF P w) A (setAdd a (.str x tk)) Q E s:=by
 unfold setAdd;refine dm (ac ((strKind P w).pyHash (k:=x) (isS P w x tk) ?_));exact CD (s:={ s with toks:=s.toks+1 }) d c h
abbrev gF (w:bi):Obj:={ cls:=.type "set",dict:=none,data:=.set #[] 0 (.fresh 0 0 (!w.params.followText "set-order")) }
theorem CF (w:bi) (e:h.get? a=some (gF w)):mE w h a [] :=
 ⟨#[],0,_,⟨e,fun e he=>by simp at he,by simp,by decide,rfl,rfl,.inl rfl⟩,by simp⟩
def dz:List Str->List Str->List Str
 |acc,[]=>acc
 |acc,x::r=>dz (if x∈acc then acc else acc++[x]) r
theorem jk:∀ (l a:List Str) (x:Str),x∈dz a l↔x∈a\/x∈l
 |[],a,x=>by simp [dz]
 |y::r,a,x=>by
  rw [dz,jk r];by_cases h:y∈a
  ·rw [if_pos h];simp only [bf];constructor
   ·exact fun z=>z.elim .inl fun z=>.inr (.inr z)
   ·rintro (z|z|z)
    ·exact .inl z
    ·exact .inl (z ▸ h)
    ·exact .inr z
  ·rw [if_neg h];simp [sk,or_assoc]
theorem j8:∀ (l c:List Str),c.Nodup->(dz c l).Nodup
 |[],c,h=>h
 |y::r,c,h=>by
  rw [dz];refine j8 r _ ?_;by_cases d:y∈c
  ·rw [if_pos d];exact h
  ·rw [if_neg d,O5];exact ⟨h,by simp,fun a g b f e=>d (by rw [eE] at f;rw [<- f,<- e];exact g)⟩
theorem gG:∀ (l a:List Str),(dz a l).length<=a.length+l.length
 |[],a=>by simp [dz]
 |y::r,a=>by
  rw [dz];have:=gG r (if y∈a then a else a++[y]);by_cases b:y∈a
  ·rw [if_pos b] at this ⊢;simp only [aX];omega
  ·rw [if_neg b] at this ⊢;simp only [aX,bB,lI,ej] at this ⊢;omega
theorem mE.keep (x:mE w h a ss) (k:∀ o,h.get? a=some o->h'.get? a=some o):mE w h' a ss :=
 let ⟨es,ep,t,I,p⟩:=x;⟨es,ep,t,⟨k _ I.at_,I.txt,I.nd,I.few,I.fits,I.led,I.pl⟩,p⟩
theorem BL {I:af}{H l:List af}{n:Nat}{G:Nat->ae->Prop}{St:Nat->bA->Prop} (W:NN prog w A.in1 I H l n G St) (D:af) (K:D∉H) (xs:List Str) (hx:xs.length=n)
  (hv:∀ i v,G i v->∃ x t,xs[i]?=some x/\v=.str x t) (c:n+1<iJ) :
  ∀ (k i:Nat) (s:ak) (a:List Str),n-i=k->i<=n->a.length<=i->St i s.heap->mE w s.heap D a ->
   (∀ h' g,(∀ b o,b∉D::l->s.heap.get? b=some o->h'.get? b=some o)->mE w h' D (dz a (xs.drop i))->R (.ok (.ret .none)) { s with heap:=h',toks:=g }) ->
   gZ (aF prog w) A (.builtin "set.update.loop" ⟨[.ref D,.ref I],[]⟩) R s:=by
 have d:D∉l:=fun z=>K (W.sub _ z);intro k;induction k with
 |zero =>
  intro i s a Y S P B u E;obtain rfl:i=n:=by omega
  refine fY qp ?_;rw [ft iQ _];show av _ A.in1 (qv (.ref I) >>= _) _ _ s;refine ac (W.done s _ _ B fun h' g kp=>?_);refine ag (E h' g (fun b o c e=>kp b o (fun z=>c (aq _ z)) e) ?_);rw [HN (by omega)];exact u.keep fun o e=>kp D o d e
 |succ k N =>
  intro i s a Y S P B u E;have f:i<n:=by omega
  refine fY qp ?_;rw [ft iQ _];show av _ A.in1 (qv (.ref I) >>= _) _ _ s;refine ac (W.item i s _ _ f B fun v h' g T q kp=>?_);obtain ⟨x,t,m,rfl⟩:=hv i v T;have h:mE w h' D a:=u.keep fun o e=>kp D o d e;refine ac (dm (FV (s:={ s with heap:=h',toks:=g }) h (by omega) fun L U M y=>?_));refine ag ⟨nP iQ _,N (i+1) _ (if x∈a then a else a++[x]) (by omega) f ?_ (W.frame _ _ _ q fun b c o e=>?_) y fun Q p k3 j=>?_⟩
  ·by_cases z:x∈a
   ·rw [if_pos z];omega
   ·rw [if_neg z,bB,lI];omega
  ·rw [M.2 b fun z=>K (z ▸ c)];exact e
  ·refine E Q p (fun b o c e=>k3 b o c ?_) ?_
   ·rw [M.2 b fun z=>c (by rw [z];exact au)];exact kp b o (fun z=>c (aq _ z)) e
   ·have X:xs.drop i=x::xs.drop (i+1):=by
     obtain ⟨O,L⟩:=List.getElem?_eq_some_iff.mp m;rw [pA O,L]
    rw [X,dz];exact j
theorem OZ (a:ae) (h:Q₁ (.ref s.heap.objs.size) { s with heap:=s.heap.push (gF w) }) :
  gZ (aF prog w) A (.call (.builtin "set.__new__") ⟨[.type "set",a],[]⟩) (wants Q₁ E) s:=by
 refine Fy ?_;show av _ A.in1 (do checkBuiltinCall "set.__new__" ⟨[.type "set",a],[]⟩;again (.builtin "set.__new__" ⟨[.type "set",a],[]⟩)) _ _ s;refine ac (xI (F.newCall_set_1 a) (ag ⟨nP F.plain_set_new _,fY F.entry_set_new ?_⟩));rw [ft F.plain_set_new _];unfold j6.«set.__new__» S3;have b:=O6;obtain ⟨c,g,d,f,e⟩:=s;dsimp only;wp_walk;refine iK (ag ?_);dsimp only;simp only [newObj];refine ac (S2 (ag ?_));exact ag h
structure WL (prog:aV) (w:bi) (A:bh) (T:String) (l:af) (o:Obj) (items:Array ae):Prop where
 ty:o.cls=.type T
 s1:isSubtype (.type T) (.type "set")=pure false
 s2:isSubtype (.type T) (.type "frozenset")=pure false
 nd:(iC T==iC "dict")=false
 iter:∀ (s:ak) (Q:ae->ak->Prop) (E:ae->ak->Prop),s.heap.get? l=some o ->
  (∀ ob St,NN prog w A.in1 s.heap.objs.size [s.heap.objs.size,l] [s.heap.objs.size] items.size (fun i v=>items[i]?=some v) St->St 0 (s.heap.push ob)->Q (.ref s.heap.objs.size) { s with heap:=s.heap.push ob })->av (aF prog w) A (xE (.ref l)) Q E s
theorem wA {T:String}{l:af}{H:Obj}{items:Array ae}{xs:List Str}{Q:ae->ak->Prop}
  (B:WL prog w A.in1.in1 T l H items) (y:s.heap.get? l=some H) (X:∀ (i:Nat) (v:ae),items[i]?=some v->∃ x t,xs[i]?=some x/\v=ju x t) (hx:xs.length=items.size) (Y:items.size+1<iJ)
  (h:∀ (h':bA) (k:Nat),mE w h' s.heap.objs.size (dz [] xs)->(∀ b o,s.heap.get? b=some o->h'.get? b=some o)->Q (.ref s.heap.objs.size) { s with heap:=h',toks:=k }) :
  av (aF prog w) A (call (.type "set") [.ref l]) Q E s:=by
 obtain ⟨c,tl,P⟩:=F.called_set.mro;have G:=F.called_set.made;have O:=F.called_set.sub;refine u_ (Fy ?_);show av _ _ (callAny (.type "set") _) _ _ _;refine ag ⟨NO _ (by decide +kernel),fY F.entry_type_call ?_⟩;rw [Around.under_plain (weight_type_call_type "set" [.ref l] []) rfl];have h1:=F.called_set.notType;have h2:=F.called_set.canCreate;have a0:=F.typeCall_set_1 (.ref l);repeat (any_goals (first|assumption|wp_step))
 refine lW (OZ (.ref l) (E:=E) (Q₁:=fun m d=>m=.ref s.heap.objs.size/\d={ s with heap:=s.heap.push (gF w) }) ⟨rfl,rfl⟩) fun r d q=>?_;cases r with
 |error e=>exact q
 |ok U =>
  cases U with
  |ret m =>
   obtain ⟨rfl,rfl⟩:=q;have N:(s.heap.push (gF w)).get? s.heap.objs.size=some (gF w):=aD _ rfl;have hT:S4 { s with heap:=s.heap.push (gF w) } (.ref s.heap.objs.size) "set":=⟨_,N,rfl⟩;have S:=F.called_set.init.lookup;have a1:=F.called_set.init.bind (.ref s.heap.objs.size);repeat (any_goals (first|assumption|wp_step))
   refine lW (xJ (R:=wants (fun r f=>r=.none/\∃ h' k,f={ s with heap:=h',toks:=k }/\mE w h' s.heap.objs.size (dz [] xs) /\
     (∀ b o,s.heap.get? b=some o->h'.get? b=some o)) E) F.called_set.init.plain F.entry_set_init (check_set_init_1 hT ?_)) fun p f a=>?_
   ·obtain ⟨oc,od,I,L⟩:=H;obtain ⟨ty,s1,s2,nd,iter⟩:=B;have ty:oc=.type T:=ty;subst ty;have u:(s.heap.push (gF w)).get? l=some { cls:=.type T,dict:=od,data:=I,slots:=L }:=ai _ y;unfold j6.«set.__init__» noKeywords ki;generalize K:xE=PI;wp_walk;subst K;refine iter { s with heap:=s.heap.push (gF w) } _ _ u fun ob St W st=>?_;have z:l<s.heap.objs.size:=ax y;refine ac (wpAny_runValue ?_);have n:(s.heap.push (gF w)).objs.size=s.heap.objs.size+1:=cf ..;refine BL (A:=A.in1.in1) W s.heap.objs.size (by rw [n];simp only [bf,aY,or_false,not_or];exact ⟨aM (fi _),fW z⟩) xs hx X Y items.size 0 _ [] (by omega) (cy _) (aA _) st (CF w (ai _ N)) fun h' k kp j=>?_;show av _ _ _ _ _ _;refine ag ?_;show av _ _ (ret e_) _ _ _;refine ag ⟨rfl,h',k,rfl,j,fun b o e=>kp b o ?_ (ai _ (ai _ e))⟩;have:=ax e;rw [n];simp only [bf,aY,or_false,not_or];exact ⟨aM this,aM (jh this)⟩
   ·cases p with
    |error e=>exact a
    |ok g =>
     cases g with
     |ret r =>
      obtain ⟨rfl,h',k,rfl,j,M⟩:=a;repeat (any_goals (first|assumption|wp_step))
      exact h _ _ j M
     |next=>exact a.elim
     |brk=>exact a.elim
     |cont=>exact a.elim
  |next=>exact q.elim
  |brk=>exact q.elim
  |cont=>exact q.elim
theorem O_ {l:af}{o:Obj}{a:List ae} (d:A.handled=none) (b:o.cls=.type "list") (c:∃ n,o.data=.seq a.toArray n):WL prog w A "list" l o a.toArray :=
 ⟨b,F.sub_list_set,F.sub_list_frozenset,by decide,fun s Q E e h=>lU ⟨_,e,b,c⟩
  (h _ _ (BA (by simpa using d) _ l (aM (ax e)) a.toArray) ⟨⟨_,aD _ rfl,rfl,rfl⟩,⟨_,ai _ e,b,c⟩⟩)⟩
theorem T6 {l:af}{o:Obj}{a:List ae} (d:A.handled=none) (b:o.cls=.type "tuple") (c:∃ n,o.data=.seq a.toArray n):WL prog w A "tuple" l o a.toArray :=
 ⟨b,F.sub_tuple_set,F.sub_tuple_frozenset,by decide,fun s Q E e h=>gQ ⟨_,e,b,c⟩
  (h _ _ (Walks.tuple (by simpa using d) _ l (aM (ax e)) a.toArray) ⟨⟨_,aD _ rfl,rfl,rfl⟩,⟨_,ai _ e,b,c⟩⟩)⟩
end L2
namespace L2
open PySem PySem.Spec PyProof.Rows
namespace SI
theorem entry_iter:Iq table "set.__iter__"=some j6.«frozenset.__iter__» :=
 Ir (id':="frozenset.__iter__") (by kernel_rfl) rfl (by decide +kernel) (by kernel_rfl)
theorem slot_next:Slot "set_iterator" "__next__" "set_iterator.__next__":=by
 refine .of (owner:="set_iterator") (n:="__next__") ?_ ?_ ?_ ?_ ?_ ?_
 ·rw [Fz,wn];kernel_rfl
 ·decide +kernel
 ·decide +kernel
 ·decide +kernel
 ·first
   |exact .inl (by decide +kernel)
   |exact .inr (by decide +kernel)
 ·rw [Iu];kernel_rfl
theorem entry_next:Iq table "set_iterator.__next__"=some j6.«set_iterator.__next__» :=
 entryFor_of_tree (by kernel_rfl)
theorem FW:Manifest.owners.lookup (String.ofList ['r','o','t','a','r','e','t','i','_','t','e','s'].reverse)=some Manifest.sig_set_iterator:=by kernel_rfl
theorem args_next (a:ae):argsOk "set_iterator.__next__" ⟨[a],[]⟩:=by
 unfold argsOk;rw [signature?_of (id:="set_iterator.__next__") (n:=['_','_','t','x','e','n','_','_']) (o:=['r','o','t','a','r','e','t','i','_','t','e','s']) (by kernel_rfl) FW]
 kernel_rfl
theorem args_iter (a:ae):argsOk "set_iterator.__iter__" ⟨[a],[]⟩:=by
 unfold argsOk;rw [signature?_of (id:="set_iterator.__iter__") (n:=['_','_','r','e','t','i','_','_']) (o:=['r','o','t','a','r','e','t','i','_','t','e','s']) (by kernel_rfl) FW]
 kernel_rfl
theorem entry_self:Iq table "set_iterator.__iter__"=some j6.«dict_keyiterator.__iter__» :=
 Ir (id':="dict_keyiterator.__iter__") (by kernel_rfl) rfl (by decide +kernel) (by kernel_rfl)
theorem slot_iter:Slot "set_iterator" "__iter__" "set_iterator.__iter__":=by
 refine .of (owner:="set_iterator") (n:="__iter__") ?_ ?_ ?_ ?_ ?_ ?_
 ·rw [Fz,wn];kernel_rfl
 ·decide +kernel
 ·decide +kernel
 ·decide +kernel
 ·first
   |exact .inl (by decide +kernel)
   |exact .inr (by decide +kernel)
 ·rw [Iu];kernel_rfl
end SI
end L2
namespace L2
open PySem PySem.Spec PyProof.Rows
theorem vf {α:Type}:∀ {l:List α}{i:Nat} (h:i<l.length),(l[i]::l.eraseIdx i).Perm l
 |x::r,0,_=>.refl _
 |x::r,i+1,h=>by
  have q:=vf (l:=r) (i:=i) (by simpa using h);rw [List.getElem_cons_succ,Fx];exact (List.Perm.swap _ _ _).trans (q.cons x)
theorem MC (a:n≠0) (h:∀ i d,i<n->Q i { s with drawn:=d }):av M A (choose src n) Q E s :=
 fun _ _ _=>⟨a,h _ _ (DG _ (Nat.pos_of_ne_zero a))⟩
theorem wB {α:Type}:∀ (n:Nat) (xs:List α) (s:ak) (Q:List α->ak->Prop),n=xs.length->(∀ ys d,ys.Perm xs->Q ys { s with drawn:=d })->av M A (drawOrder n xs) Q E s
 | 0,xs,s,Q,a,h=>by
  obtain rfl:xs=[]:=List.length_eq_zero_iff.mp a.symm;exact ag (h [] s.drawn .nil)
 |n+1,[],s,Q,a,h=>by cases a
 |n+1,x::r,s,Q,a,h=>by
  show av M A (choose .order (x::r).length >>= _) Q E s;refine ac (MC (by simp) fun i d b=>?_);rw [a_ b];refine ac (wB n _ _ _ (by rw [Cj b];omega) fun ys d' p=>ag ?_);exact h _ _ ((p.cons _).trans (vf b))
theorem DY {α:Type} (next:Nat->Nat):∀ (n k:Nat) (left:List α) (out:Array α),n=left.length->(BB next n k left out).toList.Perm (out.toList++left)
 | 0,k,left,out,hn=>by
  obtain rfl:left=[]:=List.length_eq_zero_iff.mp hn.symm;rw [BB,cb]
 |n+1,k,left,out,hn=>by
  have a:next k % left.length<left.length:=DG _ (by omega)
  rw [BB,a_ a];refine (DY next n (k+1) _ _ (by rw [Cj a];omega)).trans ?_;rw [NL,pI];exact (vf a).append_left _
theorem xV {α:Type} (next:Nat->Nat) (xs:Array α):(qq next xs).toList.Perm xs.toList:=by
 have:=DY next xs.size 0 xs.toList #[] (by simp)
 simpa [qq] using this
def DZ (h:bA) (I S:af) (first:ae) (i n a:Nat):Prop:=h.get? I=some { cls:=.type "set_iterator",data:=.fields #[first,.int i 0,.ref S,.int n 0,.int a 0] }
theorem DZ.put {f c:ae}{j b:Nat}{k:Nat}{x:ae}{h:bA} (a:DZ h I S f j n ep) (e:(#[f,.int j 0,.ref S,.int n 0,.int ep 0] : Array ae).setIfInBounds k x=#[c,.int b 0,.ref S,.int n 0,.int ep 0]) :
  DZ (h.update I (gf (·.setIfInBounds k x))) I S c b n ep:=by
 have q:=iV (gf (·.setIfInBounds k x)) a rfl;unfold DZ;rw [q];show some ({ cls:=.type "set_iterator",data:=.fields ((#[f,.int j 0,.ref S,.int n 0,.int ep 0] : Array ae).setIfInBounds k x) }:Obj)=_;rw [e]
theorem tU (c:DZ s.heap I S first i n ep) (f:c_ w s.heap S es ep t) (g:n=es.size)
  (h:av (aF prog w) A.in1 (do
   if let .int slot _:=first then
    match <- O7 S slot.toNat i ep with
    |some (x,next) =>
     iL (.ref I) 0 (cE next)
     iL (.ref I) 1 (cE (i+1))
     ret x
    |none=>iL (.ref I) 2 .none;xK (<- zR (.type "StopIteration") [])
   else
    let some places <- NQ first|S5 "internal:set_iterator"
    match places[i]? with
    |some (.int a _) =>
     let x <- setNextDrawn S a.toNat ep
     iL (.ref I) 1 (cE (i+1))
     ret x
    |some _=>S5 "internal:set_iterator"
    |none=>iL (.ref I) 0 (cE 0);iL (.ref I) 2 .none;xK (<- zR (.type "StopIteration") []))
   (fun fin s'=>∃ v,fin=.done (.ret v)/\Q (some v) s') (fun e s'=>av (aF prog w) A (Iv e (.type "StopIteration")) (fun b d=>b=true/\Q none d) E s') s) :
  av (aF prog w) A (qv (.ref I)) Q E s:=by
 unfold qv;refine ac (nQ ?_);refine dv (name:=jB "__next__") ⟨_,c,rfl⟩ SI.slot_next ?_;refine cP SI.slot_next ⟨_,c,rfl⟩ SI.entry_next ?_ (SI.args_next _);show av _ _ (fieldsOf (.ref I) >>= _) _ _ s;refine ac (wpAny_fieldsOf c rfl ?_);show av _ _ (setEntries S >>= _) _ _ s;refine ac (wpAny_setEntries_of f.at_ rfl f.fits ?_);rw [if_neg (by rw [g];simp)];refine cx h (fun fin s' z=>?_) fun e s' z=>?_
 ·obtain ⟨v,rfl,q⟩:=z;exact ⟨v,rfl,ag q⟩
 ·refine ac (cx z (fun b d ⟨j,q⟩=>?_) fun _ _ z=>z);subst j;exact ag q
theorem D_ {B:bh}{Q:Option ae->ak->Prop}{Q':Fin->ak->Prop}{o:Obj}{vs:Array ae} (d:B.handled=none) (ho:s.heap.get? I=some o) (g:o.data=.fields vs) (f:2<vs.size)
  (h:∀ h',Heap.ExtBut I s.heap h'->Q none { s with heap:=h' }) :
  av (aF prog w) B (do iL (.ref I) 2 .none;xK (<- zR (.type "StopIteration") []))
   Q' (fun e s'=>av (aF prog w) A (Iv e (.type "StopIteration")) (fun b c=>b=true/\Q none c) E s') s:=by
 refine ac (jP ho g f ?_);show av _ _ (zR (.type "StopIteration") [] >>= _) _ _ _;refine ac ?_;simp only [zR,newTuple];refine ac (cD ?_ (by size_fits));refine ac (m:=xL _ _) (xI (a:=e_) ?_ ?_)
 ·first
   |rfl
   |(simp only [xL];rfl)
 refine cD ?_ (by size_fits);simp only [xK];refine ac (wpAny_handled ?_);rw [d];refine ac (ag (wpAny_throw ?_));refine kj (T:="StopIteration") (b:=true) ⟨_,aD _ rfl,rfl⟩ Iw ⟨rfl,?_⟩;exact h _ (((bX ..).extBut.push _).push _)
section
variable {prog:aV}{w:bi}{A:bh}{E:ae->ak->Prop}{s:ak}{I S:af}{es:Array (Int×ae)}{ep:Nat}{t:m9}{i n:Nat}{first:ae}
theorem c_.keep (x:c_ w h S es ep t) (k:∀ o,h.get? S=some o->h'.get? S=some o):c_ w h' S es ep t:=⟨k _ x.at_,x.txt,x.nd,x.few,x.fits,x.led,x.pl⟩
theorem E2 {Q:ae->ak->Prop} (a:DZ s.heap I S first i n ep) (h:Q (.ref I) s):av (aF prog w) A (xE (.ref I)) Q E s:=by
 refine wpAny_pyIter_slot ⟨_,a,rfl⟩ SI.slot_iter (cP SI.slot_iter ⟨_,a,rfl⟩ SI.entry_self ?_ (SI.args_iter _));show av _ _ (ret (.ref I)) _ _ s;exact ag ⟨_,rfl,"set_iterator",_,⟨_,a,rfl⟩,SI.slot_next.lookup,h⟩
theorem fP {Q:Bool->ak->Prop}{B:bh} (h:Q (w.params.followText "set-order") s):av (aF prog w) B setsByText Q E s:=by
 unfold setsByText;exact ac (iK (ag h))
theorem P0 {B:bh}{Q':Fin->ak->Prop}{x:ae}{nx:Nat}{c:ae->ak->Prop} (a:DZ s.heap I S first i n ep)
  (h:∀ h',DZ h' I S (.int nx 0) (i+1) n ep->bJ I s.heap h'->Q' (.done (.ret x)) { s with heap:=h' }) :
  av (aF prog w) B (do iL (.ref I) 0 (cE nx);iL (.ref I) 1 (cE (i+1));ret x) Q' c s:=by
 refine ac (jP a rfl (by simp) ?_);have b:DZ (s.heap.update I (gf (·.setIfInBounds 0 (cE nx)))) I S (.int nx 0) i n ep:=a.put (by simp [cE]);refine ac (jP b rfl (by simp) ?_);have d:DZ ((s.heap.update I (gf (·.setIfInBounds 0 (cE nx)))).update I (gf (·.setIfInBounds 1 (cE (i+1))))) I S (.int nx 0) (i+1) n ep:=b.put (by simp [cE]);exact ag (h _ d ((bX ..).trans (bX ..)))
theorem xW (f:Nat->Nat) (es:Array (Int×ae)):(qq f es).size=es.size:=by
 rw [<- ay,(xV f es).length_eq,ay]
theorem J8 (y:A.handled=none) (j:w.params.followText "set-order"=true) (l:S≠I) :
  NN prog w A I [I,S] [I] es.size (fun i v=>((qq (w.params.setOrder S ep) es).toList.map (·.2))[i]?=some v) (fun i h=>DZ h I S (.int 0 0) i es.size ep/\c_ w h S es ep t) where
 sub:=fun b f=>by simp at f;simp [f]
 frame:=fun i h h' d k=>⟨k I (by simp) _ d.1,d.2.keep fun o e=>k S (by simp) o e⟩
 item:=fun i s Q E u d m=>by
  obtain ⟨c,a⟩:=d;refine tU c a rfl ?_;dsimp only;unfold O7 setWalk;refine ac (ac (bD a.at_ rfl a.fits (ac (fP ?_))));rw [j];simp only [if_true,bne_self_eq_false,cB,if_false];refine ac (ac (bD a.at_ rfl a.fits (ac (fP ?_))));rw [j];simp only [if_true];refine ac (iK (ag (ag ?_)));have g:i<(qq (w.params.setOrder S ep) es).size:=by rw [xW];exact u
  show av _ _ (match ((qq (w.params.setOrder S ep) es)[i]?).map fun e=>(e.2,(0:Int).toNat) with
   |some (x,next)=>do iL (.ref I) 0 (cE next);iL (.ref I) 1 (cE (i+1));ret x
   |none=>do iL (.ref I) 2 .none;xK (<- zR (.type "StopIteration") [])) _ _ s
  rw [getElem?_pos _ i g];refine P0 (nx:=0) c fun h' q p=>⟨_,rfl,m _ h' s.toks ?_ ⟨q,a.keep fun o e=>(p.2 S l).trans e⟩ fun b o f e=>(p.2 b fun z=>f (by simp [z])).trans e⟩;simp [g]
 done:=fun s Q E d m=>by
  obtain ⟨c,a⟩:=d;refine tU c a rfl ?_;dsimp only;unfold O7 setWalk;refine ac (ac (bD a.at_ rfl a.fits (ac (fP ?_))));rw [j];simp only [if_true,bne_self_eq_false,cB,if_false];refine ac (ac (bD a.at_ rfl a.fits (ac (fP ?_))));rw [j];simp only [if_true];refine ac (iK (ag (ag ?_)));show av _ _ (match ((qq (w.params.setOrder S ep) es)[es.size]?).map fun e=>(e.2,(0:Int).toNat) with
   |some (x,next)=>do iL (.ref I) 0 (cE next);iL (.ref I) 1 (cE (es.size+1));ret x
   |none=>do iL (.ref I) 2 .none;xK (<- zR (.type "StopIteration") [])) _ _ s
  rw [getElem?_neg _ es.size (by rw [xW];exact cZ _)];exact D_ (by simpa using y) c rfl (by simp) fun h' B=>m h' s.toks fun b o f e=>B b o (fun z=>f (by simp [z])) e
 self:=fun i s Q E d h=>E2 d.1 h
inductive SPl (h:bA) (T:af) (ps:List Nat):Prop
 |mk (o k:_) (h0:h.get? T=some o) (h1:o.data=.seq (ps.map fun (p:Nat)=>nN (p:Int) 0).toArray k):SPl h T ps
theorem FX (G:A.handled=none) (x:S≠I) (L:T≠I) (H:∀ p∈ps,p<es.size) (B:ps.length=es.size) :
  NN prog w A I [I,S,T] [I] es.size (fun i v=>(ps.map fun p=>(es.getD p (0,.none)).2)[i]?=some v) (fun i h=>DZ h I S (.ref T) i es.size ep/\c_ w h S es ep t/\SPl h T ps) where
 sub:=fun b g=>by simp at g;simp [g]
 frame:=fun i h h' c k=>⟨k I (by simp) _ c.1,c.2.1.keep fun o e=>k S (by simp) o e,let ⟨o,q,e,d⟩:=c.2.2;⟨o,q,k T (by simp) o e,d⟩⟩
 item:=fun i s Q E M c y=>by
  obtain ⟨a,j,o,q,e,d⟩:=c;refine tU a j rfl ?_;dsimp only;refine ac (eW e d ?_);have f:i<ps.length:=by omega
  dsimp only;rw [show ((ps.map fun (p:Nat)=>nN (p:Int) 0).toArray)[i]?=some (.int (ps[i] : Nat) 0) by simp [f]];dsimp only;unfold setNextDrawn;refine ac (ac (bD j.at_ rfl j.fits ?_));have m:=H ps[i] (jx f);simp only [bne_self_eq_false,cB,if_false,kY];rw [getElem?_pos es ps[i] m];refine ag ?_;refine ac (jP a rfl (by simp) ?_);have u:DZ (s.heap.update I (gf (·.setIfInBounds 1 (cE (i+1))))) I S (.ref T) (i+1) es.size ep:=a.put (by simp [cE]);have l:bJ I s.heap (s.heap.update I (gf (·.setIfInBounds 1 (cE (i+1))))):=bX ..;refine ag ⟨_,rfl,y _ _ s.toks ?_ ⟨u,j.keep fun o e=>(l.2 S x).trans e,o,q,(l.2 T L).trans e,d⟩ fun b o g e=>(l.2 b fun z=>g (by simp [z])).trans e⟩;simp [f,m]
 done:=fun s Q E c y=>by
  obtain ⟨a,j,o,q,e,d⟩:=c;refine tU a j rfl ?_;dsimp only;refine ac (eW e d ?_);dsimp only;rw [show ((ps.map fun (p:Nat)=>nN (p:Int) 0).toArray)[es.size]?=none by simp [<- B]];dsimp only;refine ac (jP a rfl (by simp) ?_);have u:DZ (s.heap.update I (gf (·.setIfInBounds 0 (cE 0)))) I S (.int 0 0) es.size es.size ep:=a.put (by simp [cE]);have l:bJ I s.heap (s.heap.update I (gf (·.setIfInBounds 0 (cE 0)))):=bX ..;exact D_ (s:={ s with heap:=s.heap.update I (gf (·.setIfInBounds 0 (cE 0))) }) (by simpa using G) u rfl (by simp) fun h' K=>y h' s.toks fun b o g e=>K b o (fun z=>g (by simp [z])) ((l.2 b fun z=>g (by simp [z])).trans e)
 self:=fun i s Q E c h=>E2 c.1 h
theorem P1 (h:p=#[j]):iX p 0=0:=by subst h;simp [iX,BC]
theorem P2 {p:Array Nat}{j:Nat} (h:p=#[j]):iX p (j+1)=1:=by subst h;simp [iX,BC]
theorem MD (h : t.fits 1 = true) : ∃ j, t.place = #[j] := by
  have a : t.place.size = 1 := by
    simp only [nZ, aP, beq_iff_eq] at h; exact h.1
  exact ⟨t.place[0], by apply Array.ext; · simp [a]
                        · intro i c b; have : i = 0 := by omega
                          subst this; simp⟩
theorem WM (a:t.led=true) (h:av (aF prog w) B (k ()) Q E s) :
  av (aF prog w) B ((if (!t.led && !es.isEmpty)=true then S5 "set:maker-not-led" else pure ()) >>= k) Q E s:=by
 rw [if_neg (by rw [a];simp)];exact ac (ag h)
theorem wC {B:bh}{a g:Nat}{Q:Option (ae×Nat)->ak->Prop} (c:w.params.followText "set-order"=false) (b:c_ w s.heap S es ep t) (e:es.size<=1)
  (h:Q (match es[iX t.place a]?,t.place[iX t.place a]? with|some (_,x),some j=>some (x,j+1)|_,_=>none) s):av (aF prog w) B (O7 S a g ep) Q E s:=by
 unfold O7;refine ac (bD b.at_ rfl b.fits (ac (fP ?_)));rw [c];simp only [cB,if_false];split
 ·rename_i z
  exact absurd (show (!t.plain&&decide (es.size > 1))=true from z) (by simp;omega)
 ·have d:t.led=true:=by rw [b.led,c];rfl
  exact WM d (ag h)
theorem ME (M:A.handled=none) (y:w.params.followText "set-order"=false) (u:S≠I) (p:es.size<=1) :
  NN prog w A I [I,S] [I] es.size (fun i v=>(es.toList.map (·.2))[i]?=some v)
   (fun i h=>∃ k,DZ h I S (.int (k:Nat) 0) i es.size ep/\c_ w h S es ep t/\(i=0->k=0)/\(i=1->es.size=1->∃ j,t.place=#[j]/\k=j+1)) where
 sub:=fun b g=>by simp at g;simp [g]
 frame:=fun i h h' f k=>let ⟨c,a1,a2,a3⟩:=f;⟨c,k I (by simp) _ a1,a2.keep fun o e=>k S (by simp) o e,a3⟩
 item:=fun i s Q E O f x=>by
  obtain ⟨c,a,d,B,G⟩:=f;have q:i=0:=by omega
  subst q;obtain rfl:c=0:=B rfl;have l:es.size=1:=by omega
  obtain ⟨j,m⟩:=MD (t:=t) (by rw [<- l];exact d.fits);refine tU a d rfl ?_;dsimp only;refine ac (wC y d p ?_);rw [show (((0:Nat):Int).toNat)=0 from rfl,P1 m,getElem?_pos es 0 (by omega),m];refine P0 (nx:=j+1) a fun h' p H=>⟨_,rfl,x _ h' s.toks ?_ ⟨j+1,p,d.keep fun o e=>(H.2 S u).trans e,by simp,fun _ _=>⟨j,m,rfl⟩⟩ fun b o g e=>(H.2 b fun z=>g (by simp [z])).trans e⟩;simp [l]
 done:=fun s Q E f x=>by
  obtain ⟨c,a,d,B,G⟩:=f;refine tU a d rfl ?_;dsimp only;refine ac (wC y d p ?_);have K:es[iX t.place ((c:Nat):Int).toNat]?=none:=by
   rcases Nat.eq_zero_or_pos es.size with z|z
   ·rw [getElem?_neg];omega
   ·have l:es.size=1:=by omega
    obtain ⟨j,m,L⟩:=G l l;rw [L,show (((j+1:Nat):Int).toNat)=j+1 from rfl,P2 m,getElem?_neg];omega
  rw [K];exact D_ (by simpa using M) a rfl (by simp) fun h' N=>x h' s.toks fun b o g e=>N b o (fun z=>g (by simp [z])) e
 self:=fun i s Q E f h=>let ⟨_,a1,_⟩:=f;E2 a1 h
theorem J9 {Q:ae->ak->Prop} (hh:A.handled=none) (g:c_ w s.heap S es ep t)
  (h:∀ (I:af) (l:List af) (a:List ae) (St:Nat->bA->Prop) (h':bA) (d:NG),s.heap.objs.size<=I->(∀ b∈l,b=S\/s.heap.objs.size<=b)->(∀ b∈l,b<h'.objs.size)->a.Perm (es.toList.map (·.2))->(∀ B:bh,B.handled=none->NN prog w B I l [I] a.length (fun i v=>a[i]?=some v) St)->St 0 h' ->
   (∀ b o,s.heap.get? b=some o->h'.get? b=some o)->S4 { s with heap:=h',drawn:=d } (.ref I) "set_iterator"->Q (.ref I) { s with heap:=h',drawn:=d }):av (aF prog w) A (xE (.ref S)) Q E s:=by
 have X:s.TypeIs (.ref S) "set":=⟨_,g.at_,rfl⟩;have m:=ax g.at_;refine wpAny_pyIter_slot X F.slot_set_iter (cP F.slot_set_iter X SI.entry_iter ?_ (F.args_set_iter_1 _));show av _ _ (v4 S >>= _) _ _ s;unfold v4;refine ac (ac (wpAny_setEntries_of g.at_ rfl g.fits (ag ?_)));show av _ _ (setDrawn S >>= _) _ _ s;unfold setDrawn;refine ac (ac (bD g.at_ rfl g.fits (ac (fP (ag ?_)))));have fin:∀ (first:ae) (l:List af) (a:List ae) (St:Nat->bA->Prop) (h':bA) (d:NG),(∀ b o,s.heap.get? b=some o->h'.get? b=some o)->s.heap.objs.size<=h'.objs.size ->
   (∀ b∈l,b=S\/b=h'.objs.size\/(s.heap.objs.size<=b/\b<h'.objs.size))->a.Perm (es.toList.map (·.2))->(∀ B:bh,B.handled=none->NN prog w B h'.objs.size l [h'.objs.size] a.length (fun i v=>a[i]?=some v) St) ->
   (∀ c:bA,(∀ b o,h'.get? b=some o->c.get? b=some o)->DZ c h'.objs.size S first 0 es.size ep->St 0 c) ->
   av (aF prog w) A.in1 (setEpoch S >>= fun e=>newFields "set_iterator" [first,cE 0,.ref S,cE es.size,cE e] >>= fun x=>ret x) (fun fin s'=>∃ v,fin=.done (.ret v)/\∃ T r,s'.TypeIs v T/\zP (.type T) "__next__"=pure (some r)/\Q v s') E { s with heap:=h',drawn:=d }:=by
  intro first l a St h' d kp hsz u K W st
  have G:c_ w h' S es ep t:=g.keep fun o e=>kp S o e;refine ac (wpAny_setEpoch_of (s:={ s with heap:=h',drawn:=d }) G.at_ rfl G.fits ?_);refine ac (cD ?_ (by size_fits));have P:∀ b o,h'.get? b=some o->(h'.push { cls:=.type "set_iterator",dict:=none,data:=.fields #[first,cE 0,.ref S,cE es.size,cE ep] }).get? b=some o:=fun b o e=>ai _ e;have it:(h'.push { cls:=.type "set_iterator",dict:=none,data:=.fields #[first,cE 0,.ref S,cE es.size,cE ep] }).get? h'.objs.size=some { cls:=.type "set_iterator",dict:=none,data:=.fields #[first,cE 0,.ref S,cE es.size,cE ep] }:=aD _ rfl;refine ag ⟨_,rfl,"set_iterator",_,⟨_,it,rfl⟩,SI.slot_next.lookup,h h'.objs.size l a St _ d hsz (fun b f=>?_) (fun b f=>?_) K W (st _ P it) (fun b o e=>P b o (kp b o e)) ⟨_,it,rfl⟩⟩
  ·rcases u b f with z|z|z
   ·exact .inl z
   ·exact .inr (by rw [z];exact hsz)
   ·exact .inr z.1
  ·rw [cf];rcases u b f with z|z|z
   ·rw [z];exact jh (aL m hsz)
   ·rw [z];exact fi _
   ·exact jh z.2
 dsimp only;split
 ·rename_i z
  have z:(!w.params.followText "set-order" && (!t.plain&&decide (es.size > 1)))=true:=z;refine ac (wB _ _ _ _ (by simp) fun ys d K=>?_);simp only [newTuple];have L:ys.length=es.size:=by have:=K.length_eq;rwa [dh] at this
  have zl:=fV g.few;refine ac (cD ?_ (by show (ys.map fun (i:Nat)=>cE i).toArray.size<=sizeLine;simp;omega));have q:∀ U:Obj,(s.heap.push U).objs.size=s.heap.objs.size+1:=fun U=>cf ..;refine fin (.ref s.heap.objs.size) [s.heap.objs.size+1,S,s.heap.objs.size] (ys.map fun p=>(es.getD p (0,.none)).2)
   (fun i h=>DZ h (s.heap.objs.size+1) S (.ref s.heap.objs.size) i es.size ep/\c_ w h S es ep t/\SPl h s.heap.objs.size ys) (s.heap.push _) d
   (fun b o e=>ai _ e) (by rw [q];exact mC _) (fun b f=>?_) ?_ (fun B M=>?_) (fun c k it=>⟨by rw [q] at it;exact it,g.keep fun o e=>k S o (ai _ e),_,_,k _ _ (aD _ rfl),rfl⟩)
  ·simp only [bf,aY,or_false] at f;rcases f with y|y|y
   ·exact .inr (.inl (by rw [q];exact y))
   ·exact .inl y
   ·exact .inr (.inr ⟨by rw [y];exact aA _,by rw [q,y];exact fi _⟩)
  ·refine (K.map _).trans (.of_eq ?_);apply zq
   ·simp
   ·intro k N h2;have:k<es.size:=by simpa using N
    simp [this]
  ·rw [aw,L,q];exact FX M (aM (jh m)) (aM (fi _)) (fun p Y=>List.mem_range.mp (K.mem_iff.mp Y)) L
 ·rename_i z
  have z:¬ (!w.params.followText "set-order" && (!t.plain&&decide (es.size > 1)))=true:=z;refine ac (ag ?_);have H:S≠s.heap.objs.size:=aM m;cases O:w.params.followText "set-order" with
  |true =>
   refine fin (cE 0) [s.heap.objs.size,S] ((qq (w.params.setOrder S ep) es).toList.map (·.2)) (fun i h=>DZ h s.heap.objs.size S (.int 0 0) i es.size ep/\c_ w h S es ep t) s.heap s.drawn (fun _ _ e=>e) (aA _) (fun b f=>?_) ((xV _ es).map _) (fun B M=>?_) (fun c k it=>⟨it,g.keep fun o e=>k S o e⟩)
   ·simp only [bf,aY,or_false] at f;exact f.elim (fun z=>.inr (.inl z)) .inl
   ·rw [aw,ay,xW];exact J8 M O H
  |false =>
   have N:es.size<=1:=by
    rw [O] at z;rcases g.pl with y|y
    ·omega
    ·rw [y] at z;simpa using z
   refine fin (cE 0) [s.heap.objs.size,S] (es.toList.map (·.2)) (fun i h=>∃ k,DZ h s.heap.objs.size S (.int (k:Nat) 0) i es.size ep/\c_ w h S es ep t/\(i=0->k=0)/\(i=1->es.size=1->∃ j,t.place=#[j]/\k=j+1)) s.heap s.drawn (fun _ _ e=>e) (aA _) (fun b f=>?_) (.refl _) (fun B M=>?_) (fun c k it=>⟨0,it,g.keep fun o e=>k S o e,fun _=>rfl,fun y=>by cases y⟩)
   ·simp only [bf,aY,or_false] at f;exact f.elim (fun z=>.inr (.inl z)) .inl
   ·rw [aw,ay];exact ME M O H N
end
theorem FY (Y:A.handled=none) (O:c_ w s.heap S es ep t)
  (h:∀ (a:List ae) (h':bA) (d:NG) (tk:Nat),a.Perm (es.toList.map (·.2))->(∀ b o,s.heap.get? b=some o->h'.get? b=some o)->s.heap.objs.size<=h'.objs.size->Q a { s with heap:=h',drawn:=d,toks:=tk }) :
  av (aF prog w) A (collect (.ref S)) Q E s:=by
 have G:=ax O.at_;unfold collect;refine ac (wpAny_runValue (fY F.entry_proto_collect ?_));rw [ft F.plain_proto_collect _];show av _ A.in1 (newList [] >>= fun l=>again (.builtin "list.__iadd__" ⟨[l,.ref S],[]⟩)) _ _ s;refine ac (cD ?_);refine ag ⟨nP F.plain_list_iadd _,fY F.entry_list_iadd ?_⟩;rw [ft F.plain_list_iadd _];let p:ak:={ s with heap:=s.heap.push { cls:=.type "list",data:=.seq ([] : List ae).toArray } }
 have u:p.heap.objs.size=s.heap.objs.size+1:=cf ..;have K:p.heap.get? s.heap.objs.size=some { cls:=.type "list",data:=.seq ([] : List ae).toArray }:=aD _ rfl;have k:c_ w p.heap S es ep t:=O.keep fun o e=>ai _ e;show av _ A.in1 (wo (.ref s.heap.objs.size) (.ref S) (.ref s.heap.objs.size)) _ _ p;have L:p.TypeIs (.ref S) "set":=⟨_,k.at_,rfl⟩;unfold wo;refine ac (lZ L ?_);have e1:yu (.ref s.heap.objs.size) (.ref S)=false:=by simp [yu,fW G]
 have e2:(iC "set" == iC "list")=false:=by decide
 have e3:(iC "set" == iC "tuple")=false:=by decide
 simp only [e1,e2,e3,Bool.or_false,cB,if_false];refine ac (J9 (A:=A.in1) (by simpa using Y) k fun I fp a St h' d hI M a0 pm W st kp tI=>?_);let f:ak:={ p with heap:=h',drawn:=d }
 have P:c_ w f.heap S es ep t:=k.keep fun o e=>kp S o e;have n:f.TypeIs (.ref S) "set":=⟨_,P.at_,rfl⟩;refine ac (dm ?_);unfold Builtin.List.listLengthHint;refine ac (wpAny_specialOf (s:=f) n F.slot_set_len.lookup ?_);dsimp only;rw [show splitId "set.__len__"=some ("set","__len__") from by decide +kernel];dsimp only;refine ac (kj (b:=true) (s:=f) n (by rw [Iu];kernel_rfl) ?_);rw [if_neg (by decide),if_pos (by decide)];refine ac (lZ (s:=f) n (ag ?_));rw [if_pos (by decide)];refine ac (gO ?_);have nS:s.heap.objs.size∉fp:=fun z=>by
  rcases M _ z with q|q
  ·exact absurd G (by rw [<- q];exact cZ _)
  ·rw [u] at q;exact absurd q (Nat.not_succ_le_self _)
 have B:f.heap.get? s.heap.objs.size=some { cls:=.type "list",data:=.seq ([] : List ae).toArray }:=kp _ _ K;refine ac ?_;show av _ A.in1 (updateSeq s.heap.objs.size (·.push .none) >>= fun _=>updateSeq s.heap.objs.size (·.pop)) _ _ f;refine ac (wpAny_updateSeq B rfl ?_);have v:=iV (l_ (·.push e_)) B rfl;refine wpAny_updateSeq v rfl ?_;have T:=iV (l_ (·.pop)) v rfl;have y:∀ b o,b≠s.heap.objs.size->f.heap.get? b=some o->((f.heap.update s.heap.objs.size (l_ (·.push e_))).update s.heap.objs.size (l_ (·.pop))).get? b=some o :=
  fun b o g e=>(rY _ _ (eC g)).trans ((rY _ _ (eC g)).trans e)
 have zl:a.length<=sizeLine:=by rw [pm.length_eq,aw,ay];exact fV O.few
 have W1:=W A.in1 (by simpa using Y);refine ag ⟨nP F.plain_extend_loop _,codeAny_extend_loopS (A:=A) W1.toS zl _ nS _ a.length 0 { f with heap:=(f.heap.update s.heap.objs.size (l_ (·.push e_))).update s.heap.objs.size (l_ (·.pop)) } _ _ rfl (cy _) (W1.frame 0 _ _ st fun b g o e=>y b o (fun z=>nS (z ▸ g)) e) T (ItemsOf.nil _) fun s' c c' H x i=>?_⟩;show av _ A (load s.heap.objs.size >>= _) _ _ s';refine ac (wpAny_load x (ag ?_));have m:c.toList=a:=by
  apply List.ext_getElem?;intro j;rw [dQ];by_cases U:j<c.size
  ·have:=i.2 j c[j] (by simp [U]);rw [this];simp [U]
  ·rw [getElem?_neg c j U,bS (by rw [<- i.1];omega)]
 rw [m];obtain ⟨N,g3,d3,t3,o3⟩:=s';obtain rfl:g3=s.gens:=H.gens;obtain rfl:d3=d:=H.drawn;obtain rfl:o3=s.os:=H.os;have X:∀ b o,s.heap.get? b=some o->N.get? b=some o:=fun b o e=>by
  have g:=ax e;refine H.heap b o ?_ (y b o (aM g) (kp b o (ai _ e)));simp only [bf,aY,or_false,not_or];exact ⟨aM g,aM (aL g (by have q:=hI;rw [u] at q;exact Nat.le_of_succ_le q))⟩
 refine h a N _ t3 pm X ?_;have:=ax (show N.get? s.heap.objs.size=some _ from x);exact bt this
theorem FZ (y:av (aF prog w) A.in1 (collect x) (fun vs c=>∃ j,v5 vs j/\vs.length<64 /\
   ∀ (h':bA) (g:List ae) (a:List Str) (e:Nat),(∀ b o,c.heap.get? b=some o->h'.get? b=some o)->h'.get? c.heap.objs.size=some (seqObj "list" g.toArray e)->v5 g a->a.Perm j->sortedS a=true ->
    Q (.ref c.heap.objs.size) { c with heap:=h' }) E s):av (aF prog w) A (call (.builtin "sorted") [x]) Q E s:=by
 refine Ck kind_sorted plain_sorted entry_sorted (args_sorted1 _) ?_;unfold j6.«sorted»;refine ac (m:=checkCount "sorted" 1 1 _) (ag ?_);refine ac (cx y (fun vs c z=>?_) fun _ _ z=>z);obtain ⟨j,f,h,B⟩:=z;refine ac (wpAny_newList ?_);have d:(c.heap.push (seqObj "list" vs.toArray 0)).get? c.heap.objs.size=some (seqObj "list" vs.toArray 0):=aD _ rfl;show av _ _ _ _ _ { c with heap:=c.heap.push (seqObj "list" vs.toArray 0) };refine ac (dm (cP slot_list_sort ⟨_,d,rfl⟩ entry_list_sort (list_sort_treeK strKind_oneLt d f.keysOf (fun l p bU e=>keyKind_strs (by rw [<- e];exact f)) h fun i t a2=>⟨_,rfl,?_⟩) (args_list_sort _)));obtain ⟨a,G,u,v⟩:=sorted_out_str f t a2;obtain ⟨e,k⟩:=sortedHeap_at (out:=(arrOf i).map (·.2)) d;refine ag ⟨_,rfl,B _ _ a e (fun b o q=>?_) k G u v⟩;have n:=ax q;rw [sortedHeap_old (aM n) (by rw [cf];exact jh n)];exact ai _ q
def s9 (x y:Str):Bool:=decide (x.cps.toList<y.cps.toList)
def Ja (x:Str):List Str->List Str
 |[]=>[x]
 |y::r=>if s9 y x then y::Ja x r else x::y::r
def ku:List Str->List Str
 |[]=>[]
 |x::r=>Ja x (ku r)
theorem xX (x:Str):∀ l,(Ja x l).Perm (x::l)
 |[]=>.refl _
 |y::r=>by
  rw [Ja];split
  ·exact ((xX x r).cons y).trans (.swap ..)
  ·exact .refl _
theorem iq:∀ l,(ku l).Perm l
 |[]=>.refl _
 |x::r=>(xX x _).trans ((iq r).cons x)
theorem vg (x:Str):s9 x x=false:=decide_eq_false (List.lt_irrefl _)
theorem tV (a:s9 x y=true) (b:s9 y z=true):s9 x z=true :=
 decide_eq_true (List.lt_trans (of_decide_eq_true a) (of_decide_eq_true b))
theorem zB (a:s9 x y=false) (b:s9 y x=false):x=y:=by
 have a:¬ x.cps.toList<y.cps.toList:=of_decide_eq_false a;have b:¬ y.cps.toList<x.cps.toList:=of_decide_eq_false b;have:x.cps.toList=y.cps.toList:=List.le_antisymm (List.not_lt.mp b) (List.not_lt.mp a)
 cases x;cases y;exact congrArg Str.mk (Array.toList_inj.mp this)
abbrev RU (l:List Str):Prop:=l.Pairwise fun a b=>s9 b a=false
theorem P3 (x:Str):∀ l,RU l->RU (Ja x l)
 |[],_=>by simp [Ja,RU]
 |y::r,h=>by
  obtain ⟨d,g⟩:=List.pairwise_cons.mp h;rw [Ja];split
  ·rename_i b
   refine List.pairwise_cons.mpr ⟨fun z c=>?_,P3 x r g⟩;rcases List.mem_cons.mp ((xX x r).mem_iff.mp c) with e|e
   ·subst e;cases q:s9 z y with
    |false=>rfl
    |true=>exact absurd (tV q b) (by rw [vg];decide)
   ·exact d z e
  ·rename_i b
   have b:s9 y x=false:=by simpa using b
   refine List.pairwise_cons.mpr ⟨fun z c=>?_,h⟩;rcases List.mem_cons.mp c with e|e
   ·subst e;exact b
   ·cases q:s9 z x with
    |false=>rfl
    |true =>
     have a:=d z e;cases f:s9 x y with
     |true=>rw [tV q f] at a;cases a
     |false=>rw [<- zB b f,a] at q;cases q
theorem sC:∀ l,RU (ku l)
 |[]=>.nil
 |x::r=>P3 x _ (sC r)
theorem wD:∀ (p:Str) (l:List Str),risingS p l=true->RU (p::l)
 |p,[],_=>by simp [RU]
 |p,x::r,h=>by
  rw [risingS,aP] at h;obtain ⟨b,f⟩:=h;have b:s9 x p=false:=by
   rw [ltCps_eq] at b;simpa [s9] using b
  have c:=wD x r f;refine List.pairwise_cons.mpr ⟨fun z g=>?_,c⟩;rcases List.mem_cons.mp g with e|e
  ·rw [e];exact b
  ·have a:=(List.pairwise_cons.mp c).1 z e;cases q:s9 z p with
   |false=>rfl
   |true =>
    cases d:s9 p x with
    |true=>rw [tV q d] at a;cases a
    |false=>rw [zB d b,a] at q;cases q
theorem E3:∀ (l:List Str),sortedS l=true->RU l
 |[],_=>.nil
 |x::r,h=>wD x r h
theorem CG:∀ {l a:List Str},l.Perm a->RU l->RU a->l=a
 |[],a,p,_,_=>by rw [List.nil_perm.mp p]
 |x::r,[],p,_,_=>by have:=p.length_eq;simp at this
 |x::r,y::f,p,h,h'=>by
  obtain ⟨d,a2⟩:=List.pairwise_cons.mp h;obtain ⟨b1,b2⟩:=List.pairwise_cons.mp h';have e:x=y:=by
   have g:x∈y::f:=p.mem_iff.mp au;have c:y∈x::r:=p.mem_iff.mpr au;rcases List.mem_cons.mp g with e|e
   ·exact e
   ·rcases List.mem_cons.mp c with b | b
    ·exact b.symm
    ·exact zB (b1 x e) (d y b)
  subst e;rw [CG (List.Perm.cons_inv p) a2 b2]
theorem F_ (p:l'.Perm l) (h:sortedS l'=true):l'=ku l:=CG (p.trans (iq l).symm) (E3 _ h) (sC l)
theorem xY (h:RU l) (f:l.Nodup):l.Pairwise fun a b=>s9 a b=true:=by
 induction l with
 |nil=>exact .nil
 |cons x r d =>
  obtain ⟨e,a2⟩:=List.pairwise_cons.mp h;obtain ⟨g,i⟩:=List.nodup_cons.mp f;refine List.pairwise_cons.mpr ⟨fun y c=>?_,d a2 i⟩;cases q:s9 x y with
  |true=>rfl
  |false=>exact absurd (zB q (e y c) ▸ c) g
theorem mF:∀ {a:List Str}{us:List ae},cS (a.map V.str) us->v5 us a
 |[],_,.nil=>.nil
 |x::r,_,.cons h t=>by obtain ⟨b,rfl⟩:=h;exact .cons x b (mF t)
theorem qB:∀ {a:List Str}{us:List ae},v5 us a->cS (a.map V.str) us
 |_,_,.nil=>.nil
 |_,_,.cons x t h=>.cons ⟨t,rfl⟩ (qB h)
theorem fZ:∀ {a:List Str}{us:List ae},v5 us a->us.length=a.length
 |_,_,.nil=>rfl
 |_,_,.cons x t h=>by simp [fZ h]
theorem Ah (h:v5 us ss) (i:Nat) (v:ae) (e:us[i]?=some v):∃ x t,ss[i]?=some x/\v=ju x t:=by
 induction h generalizing i with
 |nil=>simp at e
 |cons y t _ a =>
  cases i with
  |zero=>simp at e;exact ⟨y,t,by simp,e.symm⟩
  |succ i=>simp at e;simpa using a i e
theorem wE:∀ {l:List (Int×ae)},(∀ e∈l,vd w e)->v5 (l.map (·.2)) (l.map kQ)
 |[],_=>.nil
 |e::r,h=>by
  obtain ⟨x,a,rfl⟩:=h e au;exact .cons x a (wE fun e he=>h e (aq _ he))
theorem E4 (h:v5 us ss) (p:us'.Perm us):∃ a,v5 us' a/\a.Perm ss:=by
 refine ⟨us'.map strOf,strsAre_map _ fun v b=>h.all v (p.mem_iff.mp b),?_⟩;rw [<- h.strs];exact p.map _
def pP (w:bi) (a:af) (b:List Str):HO:=.ext fun h=>mE w h a b
theorem E5 (x:mE w h a ss):dw P w H h a (pP w a ss) :=
 ⟨x,let ⟨_,_,_,I,_⟩:=x;⟨_,I.at_⟩,fun _ _ y k=>y.keep k⟩
theorem G0 (A:X.calm=true):jX X (.type "set") (fun xs H Q=>∃ p d,xs=[.ref p]/\(pC X.K H p (d.map V.str)\/lz X.K H p (d.map V.str))/\d.length+1<iJ/\∀ a,H a=none->Q (.ref a) (upd H a (pP X.w a (dz [] d)))):=by
 intro g s σ H xs us Q I r h;obtain ⟨p,d,rfl,f,x,q⟩:=h;obtain ⟨u,rfl,z⟩:=mz r;cases z;have y:=I.ok.hd A;have fin:∀ (h':bA) (k:Nat),mE X.w h' s.heap.objs.size (dz [] d)->(∀ b o,s.heap.get? b=some o->h'.get? b=some o)->EP X g σ Q (.ref s.heap.objs.size) { s with heap:=h',toks:=k }:=fun h' k B kp =>
  ⟨.ref s.heap.objs.size,_,I.laid (t':=k) kp (aA _) (E5 B),rfl,q _ (I.hok.fresh (aA _))⟩
 rcases f with f|f
 ·obtain ⟨m,t,⟨o,n,ho,j,E,l⟩,_⟩:=I.list f;have c:=mF t;exact wA (O_ (by simpa using y) j ⟨n,l⟩) ho (fun i v e=>Ah c i v (by simpa using e)) (by simp [fZ c]) (by simp [fZ c];exact x) fin
 ·obtain ⟨m,t,⟨o,ho,j,n,l⟩,_⟩:=I.tuple f;have c:=mF t;exact wA (T6 (by simpa using y) j ⟨n,l⟩) ho (fun i v e=>Ah c i v (by simpa using e)) (by simp [fZ c]) (by simp [fZ c];exact x) fin
theorem xZ:jX X (.builtin "sorted") (fun xs H Q=>∃ p a,xs=[.ref p]/\pC X.K H p (a.map V.str)/\a.length<64/\∀ l,H l=none->Q (.ref l) (upd H l (.lst ((ku a).map V.str)))):=by
 intro f s σ H xs us Q I r h;obtain ⟨p,a,rfl,m,k,q⟩:=h;obtain ⟨u,rfl,i⟩:=mz r;cases i;obtain ⟨c,n,pl,j⟩:=I.list m;have d:=mF n;refine sorted_strs pl.isList d (by rw [fZ d];exact k) fun out t g a2 a3=>?_;obtain ⟨e,he⟩:=sortedAll_at s.heap c out;have kp:∀ b o,s.heap.get? b=some o->(sortedAll s.heap c out).get? b=some o:=fun b o=>sortedAll_old;obtain rfl:=F_ a2 a3;refine ⟨.ref (s.heap.objs.size+1),upd H (s.heap.objs.size+1) (.lst ((ku a).map V.str)),I.laid (t':=s.toks) kp (mC _) (show dw X.prog X.w _ _ _ (.lst _) from ⟨?_,out.toList,e,qB g,by simpa [seqObj] using he⟩),rfl,q _ (I.hok.fresh (mC _))⟩;rw [aw,(iq a).length_eq];have:=j;rw [aw] at this;exact this
theorem z0 (N:X.calm=true):jX X (.builtin "sorted") (fun xs H Q=>∃ p a,xs=[.ref p]/\H p=some (pP X.w p a)/\a.length<64/\∀ l,H l=none->Q (.ref l) (upd H l (.lst ((ku a).map V.str)))):=by
 intro A s σ H xs us Q I r h;obtain ⟨p,a,rfl,O,x,q⟩:=h;obtain ⟨u,rfl,K⟩:=mz r;cases K;have P:=I.ok.hd N;obtain ⟨⟨es,ep,t,S,E⟩,_⟩:=(show dw X.prog X.w H s.heap p (pP X.w p a) from I.hok p _ O);refine FZ (FY (by simpa using P) S fun M h' d G U kp sz=>?_);obtain ⟨c,v,B⟩:=E4 (wE S.txt) U;have Y:c.length=a.length:=(B.trans E).length_eq;refine ⟨c,v,by rw [fZ v,Y];exact x,fun j f k e g i m L T=>?_⟩;have y:∀ b o,s.heap.get? b=some o->j.get? b=some o:=fun b o e=>g b o (kp b o e);have es':k=ku a:=F_ (L.trans (B.trans E)) T;subst es';have fr:=I.hok.fresh sz;have n:dw X.prog X.w (upd H h'.objs.size (.lst ((ku a).map V.str))) j h'.objs.size (.lst ((ku a).map V.str)) :=
  ⟨by rw [aw,(iq a).length_eq];exact bF (bt x) (by rw [Fh];decide),f,e,qB m,i⟩
 exact ⟨.ref h'.objs.size,_,I.call' (s':={ s with heap:=j,drawn:=d,toks:=G }) (ch:=[]) rfl (Un.laid y sz fr) (I.hok.laid y sz n) I.bare (fun b z=>absurd z (by simp)),rfl,q _ fr⟩
theorem yB {prog:aV}{w:bi}{B:bh}{bs:List Bool}{a:List ae} (r:cS (bs.map V.bl) a):TruthOf prog w B (fun i v=>a.toArray[i]?=some v) (fun i=>bs.getD i false):=by
 intro i v s Q E c b;have c:a[i]?=some v:=by simpa using c
 have f:=r.length;rw [aw] at f;obtain ⟨h,_⟩:=List.getElem?_eq_some_iff.mp c;have e:bs[i]?=some bs[i]:=a_ (by omega);obtain ⟨u,d,g⟩:=r.get (i:=i) (x:=.bl bs[i]) (by rw [aH,e];rfl);rw [c] at d;cases d;cases g;have b:Q (bs.getD i false) s:=b;rw [gq,e] at b;exact e7 b
theorem P4 (bs:List Bool):(br bs.length).all (fun i=>bs.getD i false)=bs.all id:=by
 rw [iO,cY,cY];constructor
 ·intro h b c;obtain ⟨i,a,rfl⟩:=jL c;have:=h i (List.mem_range.mpr a);simpa [gq,a] using this
 ·intro h i a;have a:=List.mem_range.mp a;have:=h bs[i] (jx a);simpa [gq,a] using this
theorem P5 (bs:List Bool):(br bs.length).any (fun i=>bs.getD i false)=bs.any id:=by
 rw [iO,lT,lT];constructor
 ·rintro ⟨i,a,h⟩;have a:=List.mem_range.mp a;exact ⟨bs[i],jx a,by simpa [gq,a] using h⟩
 ·rintro ⟨b,c,h⟩;obtain ⟨i,a,rfl⟩:=jL c;exact ⟨i,List.mem_range.mpr a,by simpa [gq,a] using h⟩
theorem Ai (i:X.calm=true):jX X (.builtin "all") (fun xs H Q=>∃ p,∃ bs:List Bool,xs=[.ref p]/\pC X.K H p (bs.map V.bl)/\Q (.bl (bs.all id)) H):=by
 intro c s σ H xs us Q I r h;obtain ⟨p,bs,rfl,j,q⟩:=h;obtain ⟨u,rfl,g⟩:=mz r;cases g;obtain ⟨a,d,pl,l⟩:=I.list j;have k:a.toArray.size=bs.length:=by have:=d.length;simp at this ⊢;omega
 obtain ⟨o,ho,m⟩:=pl.isList;refine call_all_walk (lU pl.isList ⟨_,_,_,_,_,_,_,rfl,BA (by simpa using I.ok.hd i) _ p (aM (ax ho)) a.toArray,⟨⟨_,aD _ rfl,rfl,rfl⟩,pl.isList.push _⟩,yB d,fun h' f kp=>?_⟩);rw [k,P4];refine ⟨.bl _,H,I.kept (t':=f) fun b o e=>kp b o ?_ (ai _ e),rfl,q⟩;simp only [eE];exact aM (ax e)
theorem Aj (i:X.calm=true):jX X (.builtin "any") (fun xs H Q=>∃ p,∃ bs:List Bool,xs=[.ref p]/\pC X.K H p (bs.map V.bl)/\Q (.bl (bs.any id)) H):=by
 intro c s σ H xs us Q I r h;obtain ⟨p,bs,rfl,j,q⟩:=h;obtain ⟨u,rfl,g⟩:=mz r;cases g;obtain ⟨a,d,pl,l⟩:=I.list j;have k:a.toArray.size=bs.length:=by have:=d.length;simp at this ⊢;omega
 obtain ⟨o,ho,m⟩:=pl.isList;refine call_any_walk (lU pl.isList ⟨_,_,_,_,_,_,_,rfl,BA (by simpa using I.ok.hd i) _ p (aM (ax ho)) a.toArray,⟨⟨_,aD _ rfl,rfl,rfl⟩,pl.isList.push _⟩,yB d,fun h' f kp=>?_⟩);rw [k,P5];refine ⟨.bl _,H,I.kept (t':=f) fun b o e=>kp b o ?_ (ai _ e),rfl,q⟩;simp only [eE];exact aM (ax e)
theorem MF:qu X (bK .LtE) (fun x y H Q=>∃ i j,x=.str i/\y=.str j/\Q (.bl (!decide (j.cps.toList<i.cps.toList))) H):=by
 intro a s σ H x y v u Q I b c h;obtain ⟨i,j,rfl,rfl,q⟩:=h;obtain ⟨t,rfl⟩:=b;obtain ⟨t',rfl⟩:=c;exact PySem.P.le_str (ip I q rfl)
def Yz (x:Str):It:=⟨fun i _=>i<x.cps.size,fun i H v H'=>H'=H/\∃ c,x.cps[i]?=some c/\v=.str ⟨#[c]⟩,fun i _=>x.cps.size<=i⟩
theorem P6 {P:aV}{w:bi}{K:aa}{tg:bc} (x:Str) (t:Tok) (it:af):DN P w K tg (Yz x) [it] it (fun i h=>h.IsStrIter it (iY x) x t i) where
 mem:=by simp
 obj:=fun i h a b l=>by
  obtain rfl:b=it:=by simpa using l
  obtain ⟨o,e,c,d⟩:=a;exact ⟨o,e,fun v z=>by rw [d] at z;cases z⟩
 keep:=fun i h h' a k=>let ⟨o,e,r⟩:=a;⟨o,k it (by simp) o e,r⟩
 item:=by
  intro X Y U S T i f s σ H E I L a n;subst Y U S;have n:i<x.cps.size:=n;obtain ⟨Q,O,f2,N,G,M⟩:=L it (by simp);have p:x.cps[i]?=some x.cps[i]:=getElem?_pos _ i n;have go:∀ (h':bA) (B j:Nat),h'.IsStrIter it (iY x) x t (i+1)->bJ it s.heap h'->∃ u,some (ju ⟨#[x.cps[i]]⟩ B)=some u /\
    av (aF X.prog X.w) X.A (jj tg (.ref it) u) (fun _ s2=>∃ v H',bH X f σ H' s2/\dq v u/\(Yz x).yld i H v H'/\s2.heap.IsStrIter it (iY x) x t (i+1)/\∀ b∈[it],H' b=none) E { s with heap:=h',toks:=j }:=fun h' B j g y=>by
   have I1:bH X f σ H { s with heap:=h',toks:=j }:=I.turned (fun b o l e=>(y.2 b l).trans e) Q O N G M;refine ⟨_,rfl,?_⟩;have q:∃ v H',bH X f σ H' { s with heap:=h',toks:=j }/\dq v (ju ⟨#[x.cps[i]]⟩ B)/\(Yz x).yld i H v H'/\h'.IsStrIter it (iY x) x t (i+1)/\∀ b∈[it],H' b=none :=
    ⟨.str ⟨#[x.cps[i]]⟩,H,I1,⟨B,rfl⟩,⟨rfl,_,p,rfl⟩,g,fun b l=>(L b l).1⟩
   unfold jj;cases tg<;>exact ag q
  cases m:x.cps.all (·<128)
  ·have ty:iY x="str_iterator":=by unfold iY;rw [m];rfl
   rw [ty] at a;exact wpAny_pyNext_wide_item a p fun h' g y=>go h' _ _ (by rw [ty];exact g) y
  ·have ty:iY x="str_ascii_iterator":=by unfold iY;rw [m];rfl
   rw [ty] at a;exact wpAny_pyNext_ascii_item a p fun h' g y=>go h' _ _ (by rw [ty];exact g) y
 done:=by
  intro X Y U S T i f s σ H E I L a n;subst Y U S;have n:x.cps.size<=i:=n;obtain ⟨Q,O,f2,N,G,M⟩:=L it (by simp);have p:x.cps[i]?=none:=getElem?_neg _ i (Nat.not_lt.mpr n);unfold iY at a;cases m:x.cps.all (·<128)
  ·rw [m] at a;exact wpAny_pyNext_wide_end (I.ok.hd T) a p fun h' eb=>⟨rfl,I.turned (t':=s.toks) (fun b o l e=>eb b o l e) Q O N G M⟩
  ·rw [m] at a;exact wpAny_pyNext_ascii_end (I.ok.hd T) a p fun h' eb=>⟨rfl,I.turned (t':=s.toks) (fun b o l e=>eb b o l e) Q O N G M⟩
 self:=fun _ _ _ _ _ a h=>by
  unfold iY at a;cases m:x.cps.all (·<128)
  ·rw [m] at a;exact wpAny_pyIter_striter_wide a h
  ·rw [m] at a;exact wpAny_pyIter_striter_ascii a h
def q0E (a:TE):TI:=fun σ H R=>a σ H fun v b=>∃ x,v=.str x/\R (Yz x) b
theorem P7 {X:Cx}{tg l:bc}{g:TE} (j:PE X l g):PI X tg l (q0E g):=by
 intro a s σ H R I h;refine fE (j a s σ H _ I h) fun v c d=>?_;obtain ⟨y,i,f,n,k⟩:=d;obtain ⟨x,rfl,q⟩:=k;obtain ⟨t,rfl⟩:=n;refine wpAny_pyIter_strU ?_;refine ⟨c.heap.objs.size,[c.heap.objs.size],_,_,i,rfl,f.kept (t':=c.toks) fun b o e=>ai _ e,P6 x t _,⟨_,aD _ rfl,rfl,rfl⟩,fun b m=>?_,q⟩;obtain rfl:b=c.heap.objs.size:=by simpa using m
 exact f.fpOk (aA _) (f.hok.fresh (aA _))
theorem bH.turnedL {t':Nat}{ch:List af} (I:bH X pins σ H s) (k:∀ b o,b∉ch->s.heap.get? b=some o->h'.get? b=some o) (d:∀ b∈ch,wu X pins H b):bH X pins σ H { s with heap:=h',toks:=t' }:=by
 have nt:∀ b u,H b=some u->b∉ch:=fun b u e z=>by rw [(d b z).1] at e;cases e
 refine I.step (g':=s.gens) (d':=s.drawn) (ch:=ch) (fun b i=>?_) (fun b o _ _ a e _=>k b o a e) (fun b o _ _ a e _=>⟨o.slots,k b o a e⟩) (fun _ _ _ _ n=>n)
  (fun b o a e=>⟨o,k b o a e⟩) (fun _ _ e=>e) (fun _ _ _ e=>e) (fun b ps e=>⟨#[],by rw [e];simp⟩) (fun m p=>?_) (fun b u e=>?_) I.bare
 ·obtain ⟨x,t,w,l,f,j⟩:=d b i;exact ⟨l,t,f,j⟩
 ·obtain ⟨o,g,h,ho,r⟩:=p;exact ⟨o,g,h,k _ o (fun z=>(d _ z).f1 rfl) ho,r⟩
 ·refine (I.hok b u e).stay (fun c v a q=>k c v ?_ q) (fun _ q=>q) fun _ _ q=>q;rcases a with z|z
  ·rw [z];exact nt b u e
  ·exact nt c _ z
theorem bH.track (I:bH X pins σ H s) (f:wu X pins H D) (new:dw X.prog X.w (upd H D ho) s.heap D ho):bH X pins σ (upd H D ho) s:=by
 obtain ⟨a,l,p,i,c,h⟩:=f;have k:bH X pins σ (upd H D ho) { s with heap:=s.heap,gens:=s.gens,drawn:=s.drawn,toks:=s.toks }:=I.step (ch:=[D]) (fun b g=>by
   obtain rfl:b=D:=by simpa using g
   exact ⟨i,l,c,h⟩) (fun b o _ _ _ e _=>e) (fun b o _ _ _ e _=>⟨o.slots,e⟩) (fun b o d e n=>by rw [aC (fun z=>d (by simp [z]))];exact n) (fun b o _ e=>⟨o,e⟩)
  (fun b xs e=>by rw [aC (aK e a)];exact e) (fun b o xs e=>by rw [aC (aK e a)];exact e) (fun b ps e=>⟨#[],by rw [aC (aK e a),e];simp⟩) (fun m j=>j) (xU I.hok a new) I.bare
 exact k
theorem wF (c:s.heap.IsTupleIter it l i) (e:s.heap.IsTuple l items) (h:items[i]?=some x)
  (q:∀ h',h'.IsTupleIter it l (i+1)->bJ it s.heap h'->Q x { s with heap:=h' }):av (aF prog w) A (cF (.ref it)) Q E s:=by
 obtain ⟨k,b,f,a⟩:=id c;obtain ⟨j,d,_,nt,g⟩:=e;unfold cF;refine ac (dv (name:=jB "__next__") c.typeIs jC ?_);refine cP jC c.typeIs Fk ?_ (DH _);show av _ _ (Ix (.ref it) 0 >>= _) _ _ s;refine ac (eg b a (x:=.ref l) rfl ?_);show av _ _ (if (bn l==e_)=true then _ else _) _ _ s;rw [if_neg (fun z:(bn l==e_)=true=>aQ z)];show av _ _ (Ix (.ref it) 1 >>= _) _ _ s;refine ac (eg b a (x:=.int i 0) rfl ?_);show av _ _ (NQ (.ref l) >>= _) _ _ s;refine ac (eW d g ?_);simp only [kY,h];refine ac (jP b a (by simp) (ag ⟨x,rfl,ag (q _ ?_ (bX ..))⟩));refine ⟨_,iV _ b (Obj.isFreed_of_fields (O8 a _)),(Obj.cls_mapFields ..).trans f,?_⟩;rw [O8 a];simp [cE]
theorem wG (g:A.handled=none) (d:s.heap.IsTupleIter it l i) (h:s.heap.IsTuple l items) (j:items[i]?=none)
  (q:∀ h' e,Heap.ExtBut it s.heap h'->(∃ o,h'.get? e=some o/\o.cls=.type "StopIteration")->E (.ref e) { s with heap:=h' }):av (aF prog w) A (cF (.ref it)) Q E s:=by
 obtain ⟨p,b,n,c⟩:=id d;obtain ⟨t,f,_,nt,k⟩:=h;unfold cF;refine ac (dv (name:=jB "__next__") d.typeIs jC ?_);refine cP jC d.typeIs Fk ?_ (DH _);show av _ _ (Ix (.ref it) 0 >>= _) _ _ s;refine ac (eg b c (x:=.ref l) rfl ?_);show av _ _ (if (bn l==e_)=true then _ else _) _ _ s;rw [if_neg (fun z:(bn l==e_)=true=>aQ z)];show av _ _ (Ix (.ref it) 1 >>= _) _ _ s;refine ac (eg b c (x:=.int i 0) rfl ?_);show av _ _ (NQ (.ref l) >>= _) _ _ s;refine ac (eW f k ?_);simp only [kY,j];refine ac (gO (ac (jP b c (by simp) ?_)));show av _ _ (zR (.type "StopIteration") [] >>= _) _ _ _;refine ac ?_;simp only [zR,newTuple];refine ac (cD ?_ (by size_fits));refine ac (m:=xL _ _) (xI (a:=e_) ?_ ?_)
 ·first
   |rfl
   |(simp only [xL];rfl)
 refine cD ?_ (by size_fits);simp only [xK];refine ac (wpAny_handled ?_);rw [show A.in1.handled=none from g];refine ac (ag (wpAny_throw ?_));exact q _ _ (((bX ..).extBut.push _).push _) ⟨_,aD _ rfl,rfl⟩
theorem MG (f:A.handled=none) (it l:af) (b:l≠it) (items:Array ae) :
  Draws prog w A it [it,l] items.size (fun i v=>items[i]?=some v) (fun i h=>h.IsTupleIter it l i/\h.IsTuple l items) where
 live:=fun i h a=>let ⟨o,e,_⟩:=a.1;⟨o,e⟩
 frame:=fun i h h' a k=>⟨let ⟨o,e,r⟩:=a.1;⟨o,k it (by simp) o e,r⟩,let ⟨o,e,r⟩:=a.2;⟨o,k l (by simp) o e,r⟩⟩
 item:=fun i s Q E c a q=>wF a.1 a.2 (x:=items[i]) (by simp [c]) fun h' t' d=>q _ h' s.toks (by simp [c]) ⟨t',a.2.extBut d.extBut b⟩ d
 done:=fun s Q E a q=>wG f a.1 a.2 (by simp) q
theorem Ak (l:af) (items:Array ae) (n:Nat) (b:Option af) (j:Array (Option ae)) :
  Meets (j6.«enumerate.__new__» ⟨[.type "enumerate",.ref l],[]⟩) (fun _ R s=>s.heap.get? l=some { cls:=.type "tuple",dict:=b,data:=.seq items n,slots:=j } /\
   R (.ok (.ret (.ref (s.heap.push { cls:=.type "tuple_iterator",data:=.fields #[.ref l,.int 0 0] }).objs.size)))
    { s with heap:=(s.heap.push { cls:=.type "tuple_iterator",data:=.fields #[.ref l,.int 0 0] }).push { cls:=.type "enumerate",data:=.fields #[.none,.bool false,.ref s.heap.objs.size,cE 0,.none,.none] } }) :=
 .of_wp fun prog w A R s h=>by
  obtain ⟨k,g,d,m,i⟩:=s;obtain ⟨a,h⟩:=h;have f:=PySem.sub_enumerate;have e:HP (HQ ⟨k,g,d,m,i⟩) l items:=⟨_,a,rfl,n,rfl⟩;wp_walk using gD a;refine wpAny_stack_any fun o=>ag ?_;split
  ·rename_i c _ _ _ _ _
   cases (c==iC "enumerate")
   ·wp_walk using gD a,gQ e;exact ⟨_,rfl,h⟩
   ·wp_walk using gD a,gQ e;exact ⟨_,rfl,h⟩
  ·wp_walk using gD a,gQ e;exact ⟨_,rfl,h⟩
theorem BM (p:s.heap.IsTuple l items)
  (h:∀ h',IsEnum h' (s.heap.objs.size+1) s.heap.objs.size 0 .none->h'.IsTupleIter s.heap.objs.size l 0->(∀ b o,s.heap.get? b=some o->h'.get? b=some o)->h'.objs.size=s.heap.objs.size+2 ->
   Q (.ref (s.heap.objs.size+1)) { s with heap:=h' }):av (aF prog w) A (call (.type "enumerate") [.ref l]) Q E s:=by
 obtain ⟨⟨c,g,j,m⟩,f,i,n,k⟩:=p;obtain rfl:c=.type "tuple":=i;obtain rfl:j=.seq items n:=k;refine callType_new F.called_enumerate (by decide) (F.typeCall_enumerate_1 _) (F.newCall_enumerate_1 _) (fun a=>F.args_object_init_2 a _) F.entry_enumerate_new (Ak l items n g m) ⟨f,?_⟩;have d:(s.heap.push { cls:=.type "tuple_iterator",data:=.fields #[.ref l,.int 0 0] }).objs.size=s.heap.objs.size+1:=cf ..;show _/\_;rw [d];have he:IsEnum ((s.heap.push { cls:=.type "tuple_iterator",data:=.fields #[.ref l,.int 0 0] }).push { cls:=.type "enumerate",data:=.fields #[.none,.bool false,.ref s.heap.objs.size,cE 0,.none,.none] }) (s.heap.objs.size+1) s.heap.objs.size 0 .none:=by
  have q:=aD (s.heap.push { cls:=.type "tuple_iterator",data:=.fields #[.ref l,.int 0 0] }) (o:={ cls:=.type "enumerate",data:=.fields #[.none,.bool false,.ref s.heap.objs.size,cE 0,.none,.none] }) rfl;rw [d] at q;exact q
 exact ⟨⟨_,he,rfl⟩,h _ he ⟨_,ai _ (aD _ rfl),rfl,rfl⟩ (fun b o e=>ai _ (ai _ e)) (by rw [cf,d])⟩
def Ite (K:aa) (a:af):It :=
 ⟨fun i H=>∃ xs x,lz K H a xs/\xs[i]?=some x,fun i H v H'=>∃ p,H p=none/\v=.ref p/\∀ xs,lz K H a xs->∃ x,xs[i]?=some x/\H'=upd H p (.tup [.int i,x]),fun i H=>∃ xs,lz K H a xs/\xs.length<=i⟩
theorem MH {P:aV}{w:bi}{K:aa}{B:List bc}{x1}{a6:Pos} (a e it:af) (y:e≠it):DN P w K (.Tuple B x1 a6) (Ite K a) [e,it] e (fun i h=>(∃ f,IsEnum h e it i f)/\h.IsTupleIter it a i) where
 mem:=by simp
 obj:=fun i h j b c=>by
  simp only [bf,aY,or_false] at c;rcases c with rfl|rfl
  ·obtain ⟨⟨f,q⟩,_⟩:=j;exact ⟨_,q,fun v z=>by cases z⟩
  ·obtain ⟨_,o,q,_,d⟩:=j;exact ⟨o,q,fun v z=>by rw [d] at z;cases z⟩
 keep:=fun i h h' j k=>⟨let ⟨f,q⟩:=j.1;⟨f,k e (by simp) _ q⟩,let ⟨o,q,r⟩:=j.2;⟨o,k it (by simp) o q,r⟩⟩
 item:=by
  intro X hP hw hK hc i n s σ H E I Q j hg;subst hP hw hK;obtain ⟨xs,x,O,hx⟩:=hg;obtain ⟨g,rv,p,hz⟩:=I.tuple O;obtain ⟨u,hu,ru⟩:=rv.get hx;obtain ⟨⟨f,he⟩,l⟩:=j;have G:=l;obtain ⟨oi,ei,_⟩:=G;have a1:a≠it:=fun z=>by
   obtain ⟨o1,A,N,_⟩:=p;obtain ⟨o2,Y,c2,_⟩:=l;rw [z,Y] at A;cases A;rw [c2] at N;exact absurd (Kr N) (by decide)
  have a2:a≠e:=fun z=>by
   obtain ⟨o1,A,N,_⟩:=p;rw [z,he] at A;cases A;exact absurd (Kr (show iC "enumerate"=iC "tuple" from N)) (by decide)
  have a3:i<g.toArray.size:=by simp;exact (List.getElem?_eq_some_iff.mp hu).1
  have L:=ax he;refine wpAny_pyNext_enum_itemD (MG (by simpa using I.ok.hd hc) it a a1 g.toArray) he ⟨l,p⟩ a3 y (by simp [y,eC a2]) ?_;intro x' h1 S a4 eo a0 tup sz k1;have m:g[i]?=some x':=by simpa using a4
  rw [hu] at m;cases m;refine ⟨_,rfl,wpAny_letOwnedTupleGo_enum eo fun h2 Y t=>?_⟩;have U:s.heap.objs.size≠e:=fW L;have I2:bH X n σ H { s with heap:=h2,toks:=S+1 }:=I.turnedL (ch:=[e,it]) (fun b o c q=>by
   simp only [bf,aY,or_false,not_or] at c;exact (t.2 b c.1).trans (k1 b o c.1 c.2 q)) Q
  have fT:=I.fpOk (H':=H) (aA _) (I.hok.fresh (aA _));have M:h2.get? s.heap.objs.size=some { cls:=.type "tuple",data:=.seq #[.int i S,u] }:=(t.2 _ U).trans tup;have I3:=I2.track (ho:=.tup [.int i,x]) fT ⟨by show 2<=sizeLine;decide,[.int i S,u],.cons ⟨S,rfl⟩ (.cons ru .nil),⟨_,M,rfl,0,rfl⟩⟩;refine ⟨.ref s.heap.objs.size,_,I3,rfl,⟨_,fT.1,rfl,fun ys hy=>?_⟩,⟨⟨u,?_⟩,?_⟩,fun b c=>?_⟩
  ·rw [I.tuple_inj hy O];exact ⟨x,hx,rfl⟩
  ·have:(((i+1:Nat):Int))=(i:Int)+1:=by omega
   rw [this];exact Y
  ·obtain ⟨o,q,r⟩:=a0.1;exact ⟨o,(t.2 it (eC y)).trans q,r⟩
  ·rw [aC]
   ·exact (Q b c).1
   ·simp only [bf,aY,or_false] at c;rcases c with z|z
    ·rw [z];exact aM L
    ·rw [z];exact aM (ax ei)
 done:=by
  intro X hP hw hK hc i n s σ H E I Q j hg;subst hP hw hK;obtain ⟨xs,O,hx⟩:=hg;obtain ⟨g,rv,p,hz⟩:=I.tuple O;obtain ⟨⟨f,he⟩,l⟩:=j;have hl:=rv.length;have hT:s.TypeIs (.ref e) "enumerate":=⟨_,he,rfl⟩;unfold qv;refine ac (nQ (dv (name:=jB "__next__") hT NR ?_));refine cP NR hT F.entry_enumerate_next ?_ (F.args_enumerate_next_1 _);show av _ _ (Ix (.ref e) 2 >>= _) _ _ _;refine ac (eg he rfl (x:=.ref it) rfl ?_);refine ac (wG (by simpa using I.ok.hd hc) l (show s.heap.IsTuple a g.toArray from p) (by simp;omega) fun h' z eb a5=>?_);obtain ⟨o,ho,a7⟩:=a5;refine ac (kj (T:="StopIteration") (b:=true) ⟨o,ho,a7⟩ Iw ?_);exact ag ⟨rfl,I.turnedL (t':=s.toks) (ch:=[e,it]) (fun b o c q=>eb b o (by
   simp only [bf,aY,or_false,not_or] at c;exact c.2) q) Q⟩
 self:=fun _ _ _ _ _ j h=>let ⟨⟨_,q⟩,_⟩:=j;wpAny_pyIter_enum q h
def YA (K:aa) (c:TA):TI:=fun σ H R=>c σ H fun vs b=>∃ a xs,vs=[.ref a]/\lz K b a xs/\R (Ite K a) b
theorem T7 {X:Cx}{g:List bc}{x1}{f p i:Pos}{a:bc}{o:TA} (L:Gl X "enumerate") (A:X.mg "enumerate"=none) (w:PA X [a] o) (hs:ao [a] X.env=[(false,bG a X.env)]:=by rfl) :
  PI X (.Tuple g x1 f) (.Call (.Name "enumerate" p) [a] [] i) (YA X.K o):=by
 intro c s σ H R I h;refine Call_ (v7 I L A boot_enumerate (fu (fE (w i c s σ H _ I h) fun us d ⟨vs,k,e,E,y⟩=>?_) hs rfl));obtain ⟨m,xs,rfl,x,q⟩:=y;obtain ⟨u,rfl,t⟩:=mz E;cases t;obtain ⟨j,N,v,M⟩:=e.tuple x;refine BM (show d.heap.IsTuple m j.toArray from v) fun h' n G kp sz=>?_;refine wpAny_pyIter_enum n ?_;have B:bH X c σ k { d with heap:=h' }:=e.kept (t':=d.toks) kp;refine ⟨d.heap.objs.size+1,[d.heap.objs.size+1,d.heap.objs.size],_,_,k,rfl,B,MH m _ _ (fW (fi _)),⟨⟨.none,n⟩,G⟩,fun b l=>?_,q⟩;simp only [bf,aY,or_false] at l;rcases l with z|z
 ·rw [z];exact e.fpOk (mC _) (e.hok.fresh (mC _))
 ·rw [z];exact e.fpOk (aA _) (e.hok.fresh (aA _))
section
variable {prog:aV}{w:bi}{A:bh}{E:ae->ak->Prop}{s:ak}{z TI TO i1 i2 l1 l2:af}{k1 k2:Nat}{xs ys:Array ae}{x y a b:ae}
theorem jQ (t:h.IsTupleIter it l k) (d:bJ c h h') (e:it≠c):h'.IsTupleIter it l k:=t.extBut d.extBut e
theorem qC (t:h.IsTuple l xs) (d:bJ c h h') (e:l≠c):h'.IsTuple l xs:=t.extBut d.extBut e
theorem P8 {Q:ae->ak->Prop} (D:S6 z TI TO i1 i2 l1 l2) (g:xM s.heap z TI TO .none) (pa:kZ s.heap TI (.ref i1) (.ref i2)) (X:kZ s.heap TO a b)
  (Y:s.heap.IsTupleIter i1 l1 k1) (U:s.heap.IsTupleIter i2 l2 k2) (v1:s.heap.IsTuple l1 xs) (v2:s.heap.IsTuple l2 ys) (hx:xs[k1]?=some x) (N:ys[k2]?=some y)
  (q:∀ h',xM h' z TI TO (cE s.heap.objs.size)->kZ h' TO x y->h'.IsTupleIter i1 l1 (k1+1)->h'.IsTupleIter i2 l2 (k2+1)->kZ h' s.heap.objs.size x y ->
   (∀ c o,c≠z->c≠TO->c≠i1->c≠i2->s.heap.get? c=some o->h'.get? c=some o)->Q (.ref s.heap.objs.size) { s with heap:=h' }) :
  av (aF prog w) A (j6.«zip.__next__» ⟨[.ref z],[]⟩) (fun fin s'=>∃ v,fin=.done (.ret v)/\Q v s') E s:=by
 show av _ _ (Ix (.ref z) 2 >>= _) _ _ _;refine ac (eg g rfl (x:=.bool false) rfl ?_);show av _ _ (Ix (.ref z) 3 >>= _) _ _ _;refine ac (eg g rfl (x:=.ref TI) rfl ?_);refine ac (eW pa rfl ?_);show av _ _ (f9 (.ref z) >>= _) _ _ _;refine ac ?_;unfold f9;refine ac (eg g rfl (x:=.none) rfl (ag ?_));simp only [if_true];refine ac (gO ?_);refine ac (eg g rfl (x:=.ref TO) rfl ?_);refine ac (j7 g (by simp) fun g1 p b1=>?_);replace p:xM g1 z TI TO .ellipsis:=p;refine ac ?_;simp only [RN,S7,mQ,uN];refine ac (ac (zr ?_));show av _ _ (cF (.ref i1) >>= _) _ _ _;refine ac (wF (jQ Y b1 D.i1z) (qC v1 b1 D.l1z) hx fun g2 M b2=>ag ?_);have B:kZ g2 TO a b:=b2.extBut _ _ D.TOi1 (b1.extBut _ _ D.TOz X);refine ac (eW B rfl (ac (xN B fun P m b3=>?_)));replace m:kZ P TO x b:=m;refine ac (S8 (ag (ac (ac (zr ?_)))));show av _ _ (cF (.ref i2) >>= _) _ _ _;refine ac (wF (jQ (jQ (jQ U b1 D.i2z) b2 D.i12.symm) b3 D.TOi2.symm) (qC (qC (qC v2 b1 D.l2z) b2 D.l2i1) b3 D.l2TO) N fun g4 S b4=>ag ?_);have G:kZ g4 TO x b:=b4.extBut _ _ D.TOi2 m;refine ac (eW G rfl (ac (xN G fun d l b5=>?_)));replace l:kZ d TO x y:=l;refine ac (S8 (ag (ag ?_)));refine ac (eW l rfl (ac (wpAny_newTuple ?_)));have sz:d.objs.size=s.heap.objs.size:=by rw [b5.1,b4.1,b3.1,b2.1,b1.1]
 have L:xM d z TI TO .ellipsis:=b5.extBut _ _ D.TOz.symm (b4.extBut _ _ D.i2z.symm (b3.extBut _ _ D.TOz.symm (b2.extBut _ _ D.i1z.symm p)));have k5:∀ c o,c≠z->c≠TO->c≠i1->c≠i2->s.heap.get? c=some o->d.get? c=some o:=fun c o f i u n e =>
  b5.extBut _ _ i (b4.extBut _ _ n (b3.extBut _ _ i (b2.extBut _ _ u (b1.extBut _ _ f e))))
 have T:d.IsTupleIter i1 l1 (k1+1):=jQ (jQ (jQ M b3 D.TOi1.symm) b4 D.i12) b5 D.TOi1.symm;have O:d.IsTupleIter i2 l2 (k2+1):=jQ S b5 D.TOi2.symm;have I:z<d.objs.size:=ax L;show av _ _ (n_ (.ref z) (.ref d.objs.size) >>= _) _ _ _;refine ac ?_;unfold n_;have z6:xM (d.push { cls:=.type "tuple",data:=.seq #[x,y] }) z TI TO .ellipsis:=ai _ L;refine ac (j7 z6 (by simp) fun g7 t b7=>?_);replace t:xM g7 z TI TO (cE d.objs.size):=t;refine j7 t (by simp) fun j k K=>?_;replace k:xM j z TI TO (cE d.objs.size):=k;have h:∀ c o,c≠z->d.get? c=some o->j.get? c=some o:=fun c o f e=>K.extBut _ _ f (b7.extBut _ _ f (ai _ e));have H:kZ j d.objs.size x y:=K.extBut _ _ (fW I) (b7.extBut _ _ (fW I) (aD _ rfl));rw [sz] at k H;refine ag ⟨_,rfl,?_⟩;show Q (.ref d.objs.size) _;rw [sz];exact q j k (h _ _ D.TOz l) (let ⟨o,e,r⟩:=T;⟨o,h _ o D.i1z e,r⟩) (let ⟨o,e,r⟩:=O;⟨o,h _ o D.i2z e,r⟩) H fun c o f i u n e=>h c o f (k5 c o f i u n e)
theorem P9 (G:A.handled=none) (D:S6 z TI TO i1 i2 l1 l2) (h:xM s.heap z TI TO .none) (pa:kZ s.heap TI (.ref i1) (.ref i2)) (O:kZ s.heap TO a b)
  (I:s.heap.IsTupleIter i1 l1 k1) (N:s.heap.IsTupleIter i2 l2 k2) (v1:s.heap.IsTuple l1 xs) (S:s.heap.IsTuple l2 ys) (g:xs[k1]?=none\/ys[k2]?=none)
  (q:∀ h' e,(∀ c o,c≠z->c≠TO->c≠i1->c≠i2->s.heap.get? c=some o->h'.get? c=some o)->(∃ o,h'.get? e=some o/\o.cls=.type "StopIteration")->E (.ref e) { s with heap:=h' }) :
  av (aF prog w) A (j6.«zip.__next__» ⟨[.ref z],[]⟩) Q E s:=by
 show av _ _ (Ix (.ref z) 2 >>= _) _ _ _;refine ac (eg h rfl (x:=.bool false) rfl ?_);show av _ _ (Ix (.ref z) 3 >>= _) _ _ _;refine ac (eg h rfl (x:=.ref TI) rfl ?_);refine ac (eW pa rfl ?_);show av _ _ (f9 (.ref z) >>= _) _ _ _;refine ac ?_;unfold f9;refine ac (eg h rfl (x:=.none) rfl (ag ?_));simp only [if_true];refine ac (gO ?_);refine ac (eg h rfl (x:=.ref TO) rfl ?_);refine ac (j7 h (by simp) fun P j b1=>?_);replace j:xM P z TI TO .ellipsis:=j;refine ac ?_;simp only [RN,S7,mQ,uN];refine ac (ac (zr ?_));show av _ _ (cF (.ref i1) >>= _) _ _ _;cases p:xs[k1]? with
 |none =>
  refine ac (wG G (jQ I b1 D.i1z) (qC v1 b1 D.l1z) p fun g2 e b2 he=>?_);obtain ⟨k,d,f⟩:=he;have H:xM g2 z TI TO .ellipsis:=b2 _ _ D.i1z.symm j;have l:e≠z:=fun n=>by subst n;rw [H] at d;cases d;simp at f
  refine j7 H (by simp) fun v _ b3=>q v e (fun c o i _ t _ m=>b3.extBut _ _ i (b2 _ _ t (b1.extBut _ _ i m))) ⟨k,b3.extBut _ _ l d,f⟩
 |some x =>
  have K:ys[k2]?=none:=g.resolve_left fun n=>by rw [p] at n;cases n
  refine ac (wF (jQ I b1 D.i1z) (qC v1 b1 D.l1z) p fun g2 X b2=>ag ?_);have u:kZ g2 TO a b:=b2.extBut _ _ D.TOi1 (b1.extBut _ _ D.TOz O);refine ac (eW u rfl (ac (xN u fun v Y b3=>?_)));refine ac (S8 (ag (ac (ac (zr ?_)))));show av _ _ (cF (.ref i2) >>= _) _ _ _;refine ac (wG G (jQ (jQ (jQ N b1 D.i2z) b2 D.i12.symm) b3 D.TOi2.symm) (qC (qC (qC S b1 D.l2z) b2 D.l2i1) b3 D.l2TO) K fun T e b4 he=>?_);obtain ⟨k,d,f⟩:=he;have B:xM T z TI TO .ellipsis:=b4 _ _ D.i2z.symm (b3.extBut _ _ D.TOz.symm (b2.extBut _ _ D.i1z.symm j));have l:e≠z:=fun n=>by subst n;rw [B] at d;cases d;simp at f
  refine j7 B (by simp) fun U _ b5=>q U e (fun c o i M t L m=>b5.extBut _ _ i (b4 _ _ L (b3.extBut _ _ M (b2.extBut _ _ t (b1.extBut _ _ i m))))) ⟨k,b5.extBut _ _ l d,f⟩
end
abbrev zt1 (h:bA) (a:af):bA:=h.push { cls:=.type "tuple_iterator",data:=.fields #[.ref a,.int 0 0] }
abbrev zt2 (h:bA) (b a:af):bA:=(zt1 h b).push { cls:=.type "tuple_iterator",data:=.fields #[.ref a,.int 0 0] }
abbrev zt3 (h:bA) (a b:af):bA:=(zt2 h a b).push { cls:=.type "tuple",data:=.seq #[.ref h.objs.size,.ref (zt1 h a).objs.size] }
abbrev zt4 (h:bA) (b a:af):bA:=(zt3 h b a).push { cls:=.type "tuple",data:=.seq #[.none,.none] }
abbrev XT (h:bA) (b a:af):bA:=(zt4 h b a).push { cls:=.type "zip",data:=.fields #[.none,.bool false,.bool false,.ref (zt2 h b a).objs.size,.ref (zt3 h b a).objs.size] }
theorem BN (a b:af) (xs ys:Array ae) :
  Meets (j6.«zip.__new__» ⟨[.type "zip",.ref a,.ref b],[]⟩) (fun _ R s=>s.heap.IsTuple a xs/\s.heap.IsTuple b ys/\R (.ok (.ret (.ref (zt4 s.heap a b).objs.size))) { s with heap:=XT s.heap a b }) :=
 .of_wp fun prog w A R s h=>by
  obtain ⟨f,g,d,i,c⟩:=s;obtain ⟨v1,k,h⟩:=h;have e:=PySem.sub_zip;have j:HP (HQ ⟨f,g,d,i,c⟩) a xs:=v1;have L2:HP (HQ ⟨f.push { cls:=.type "tuple_iterator",data:=.fields #[.ref a,.int 0 0] },g,d,i,c⟩) b ys:=Heap.IsTuple.push k _;wp_walk using gQ j,gQ L2;exact ⟨_,rfl,h⟩
theorem E6 (v1:s.heap.IsTuple l1 xs) (m:s.heap.IsTuple l2 ys)
  (h:∀ h',xM h' (s.heap.objs.size+4) (s.heap.objs.size+2) (s.heap.objs.size+3) .none->kZ h' (s.heap.objs.size+2) (.ref s.heap.objs.size) (.ref (s.heap.objs.size+1)) ->
   kZ h' (s.heap.objs.size+3) .none .none->h'.IsTupleIter s.heap.objs.size l1 0->h'.IsTupleIter (s.heap.objs.size+1) l2 0 ->
   (∀ c o,s.heap.get? c=some o->h'.get? c=some o)->Q (.ref (s.heap.objs.size+4)) { s with heap:=h' }):av (aF prog w) A (call (.type "zip") [.ref l1,.ref l2]) Q E s:=by
 refine callType_new F.called_zip (by decide) (F.typeCall_zip_2 _ _) (F.newCall_zip_2 _ _) (fun a=>F.args_object_init_3 a _ _) F.entry_zip_new (BN l1 l2 xs ys) ⟨v1,m,?_⟩;have b:(zt1 s.heap l1).objs.size=s.heap.objs.size+1:=cf ..;have d:(zt2 s.heap l1 l2).objs.size=s.heap.objs.size+2:=by rw [cf,b]
 have g:(zt3 s.heap l1 l2).objs.size=s.heap.objs.size+3:=by rw [cf,d]
 have i:(zt4 s.heap l1 l2).objs.size=s.heap.objs.size+4:=by rw [cf,g]
 have f:(XT s.heap l1 l2).get? (zt4 s.heap l1 l2).objs.size=some _:=aD _ rfl;have l:(XT s.heap l1 l2).get? (zt3 s.heap l1 l2).objs.size=some _:=ai _ (aD _ rfl);have k:(XT s.heap l1 l2).get? (zt2 s.heap l1 l2).objs.size=some _:=ai _ (ai _ (aD _ rfl));have j:(XT s.heap l1 l2).get? (zt1 s.heap l1).objs.size=some _:=ai _ (ai _ (ai _ (aD _ rfl)));have n:(XT s.heap l1 l2).get? s.heap.objs.size=some _:=ai _ (ai _ (ai _ (ai _ (aD _ rfl))));show _/\_;rw [d,g,i] at f;rw [b,d] at k;rw [g] at l;rw [b] at j;rw [i];exact ⟨⟨_,f,rfl⟩,h _ f k l ⟨_,n,rfl,rfl⟩ ⟨_,j,rfl,rfl⟩ fun c o e=>ai _ (ai _ (ai _ (ai _ (ai _ e))))⟩
theorem lz.ne_fp (I:bH X pins σ H s) (d:lz X.K H a xs) (c:wu X pins H b):a≠b:=by
 rintro rfl;rcases d with (h|⟨o,h⟩)|⟨o,its,n,hk,_⟩
 ·rw [c.1] at h;cases h
 ·rw [c.1] at h;cases h
 ·have e:X.base.get? a=some o:=I.mod.kin a o hk;rcases c.f3 with z|z
  ·exact I.ok.noex a o e z
  ·exact absurd (aL (ax e) (bF I.ok.bsz z)) (cZ _)
def Itz (K:aa) (a b:af):It :=
 ⟨fun i H=>∃ xs ys x y,lz K H a xs/\lz K H b ys/\xs[i]?=some x/\ys[i]?=some y,
  fun i H v H'=>∃ p,H p=none/\v=.ref p/\∀ xs ys,lz K H a xs->lz K H b ys->∃ x y,xs[i]?=some x/\ys[i]?=some y/\H'=upd H p (.tup [x,y]),
  fun i H=>∃ xs ys,lz K H a xs/\lz K H b ys/\(xs.length<=i\/ys.length<=i)⟩
structure q0F (z TI TO i1 i2:af):Prop where
 d1:TI≠z
 d2:TO≠z
 d3:i1≠z
 d4:i2≠z
 d5:TI≠TO
 d6:TI≠i1
 d7:TI≠i2
 d8:TO≠i1
 d9:TO≠i2
 d0:i1≠i2
theorem Pa {P:aV}{w:bi}{K:aa}{U:List bc}{x1}{a3:Pos} (O N z TI TO g j:af) (Z:q0F z TI TO g j) :
  DN P w K (.Tuple U x1 a3) (Itz K O N) [z,TI,TO,g,j] z (fun i h=>xM h z TI TO .none/\kZ h TI (.ref g) (.ref j)/\(∃ a b,kZ h TO a b)/\h.IsTupleIter g O i/\h.IsTupleIter j N i) where
 mem:=by simp
 obj:=fun i h p b c=>by
  obtain ⟨n,t,⟨_,_,A⟩,⟨o4,e4,_,f4⟩,⟨o5,e5,_,f5⟩⟩:=p;simp only [bf,aY,or_false] at c;rcases c with rfl|rfl|rfl|rfl|rfl
  ·exact ⟨_,n,fun v q=>by cases q⟩
  ·exact ⟨_,t,fun v q=>by cases q⟩
  ·exact ⟨_,A,fun v q=>by cases q⟩
  ·exact ⟨o4,e4,fun v q=>by rw [f4] at q;cases q⟩
  ·exact ⟨o5,e5,fun v q=>by rw [f5] at q;cases q⟩
 keep:=fun i h h' p k=>by
  obtain ⟨n,t,⟨u,v,A⟩,⟨o4,e4,r4⟩,⟨o5,e5,r5⟩⟩:=p;exact ⟨k z (by simp) _ n,k TI (by simp) _ t,⟨u,v,k TO (by simp) _ A⟩,⟨o4,k g (by simp) _ e4,r4⟩,⟨o5,k j (by simp) _ e5,r5⟩⟩
 item:=by
  intro X hP hw hK hc i B s σ H E I G p hg;subst hP hw hK;obtain ⟨xs,ys,x,y,l,m,hx,hy⟩:=hg;obtain ⟨Q,M,p1,_⟩:=I.tuple l;obtain ⟨S,L,p2,_⟩:=I.tuple m;obtain ⟨u,hu,ru⟩:=M.get hx;obtain ⟨v,hv,rv⟩:=L.get hy;obtain ⟨n,t,⟨a,b,A⟩,s4,s5⟩:=p;have d:∀ b∈[z,TI,TO,g,j],O≠b:=fun b c=>l.ne_fp I (G b c);have f:∀ b∈[z,TI,TO,g,j],N≠b:=fun b c=>m.ne_fp I (G b c);have D:S6 z TI TO g j O N:=⟨Z.d1,Z.d2,Z.d3,Z.d4,Z.d5,Z.d6,Z.d7,Z.d8,Z.d9,Z.d0,d z (by simp),d TO (by simp),d g (by simp),d j (by simp),f z (by simp),f TO (by simp),f g (by simp),f j (by simp)⟩;have zl:=ax n;have hT:s.TypeIs (.ref z) "zip":=⟨_,n,rfl⟩;unfold qv;refine ac (nQ (dv (name:=jB "__next__") hT uO ?_));refine cP uO hT F.entry_zip_next (P8 D n t A s4 s5 p1 p2 (by simpa using hu) (by simpa using hv) fun h1 z1 t1 y1 y2 pr k1=>?_) (F.args_zip_next_1 _);refine ag ⟨_,rfl,wpAny_letOwnedTupleGo_zip z1 fun h2 z2 b2=>?_⟩;have a0:s.heap.objs.size≠z:=fW zl;have a1:kZ h1 TI (.ref g) (.ref j):=k1 TI _ Z.d1 Z.d5 Z.d6 Z.d7 t;have I2:bH X B σ H { s with heap:=h2 }:=I.turnedL (t':=s.toks) (ch:=[z,TI,TO,g,j]) (fun b o c q=>by
   simp only [bf,aY,or_false,not_or] at c;exact (b2.2 b c.1).trans (k1 b o c.1 c.2.2.1 c.2.2.2.1 c.2.2.2.2 q)) G
  have fT:=I.fpOk (H':=H) (aA _) (I.hok.fresh (aA _));have a2:h2.get? s.heap.objs.size=some { cls:=.type "tuple",data:=.seq #[u,v] }:=(b2.2 _ a0).trans pr;have I3:=I2.track (ho:=.tup [x,y]) fT ⟨by show 2<=sizeLine;decide,[u,v],.cons ru (.cons rv .nil),⟨_,a2,rfl,0,rfl⟩⟩;refine ⟨.ref s.heap.objs.size,_,I3,rfl,⟨_,fT.1,rfl,fun a5 a4 h1 h2=>?_⟩,⟨z2,(b2.2 TI Z.d1).trans a1,⟨u,v,(b2.2 TO Z.d2).trans t1⟩,jQ y1 b2 Z.d3,jQ y2 b2 Z.d4⟩,fun b c=>?_⟩
  ·rw [I.tuple_inj h1 l,I.tuple_inj h2 m];exact ⟨x,y,hx,hy,rfl⟩
  ·have bl:b<s.heap.objs.size:=by
    simp only [bf,aY,or_false] at c;rcases c with q|q|q|q|q
    ·rw [q];exact zl
    ·rw [q];exact ax t
    ·rw [q];exact ax A
    ·obtain ⟨_,e,_⟩:=s4;rw [q];exact ax e
    ·obtain ⟨_,e,_⟩:=s5;rw [q];exact ax e
   rw [aC (aM bl)];exact (G b c).1
 done:=by
  intro X hP hw hK hc i B s σ H E I G p hg;subst hP hw hK;obtain ⟨xs,ys,l,m,Y⟩:=hg;obtain ⟨Q,M,p1,_⟩:=I.tuple l;obtain ⟨S,L,p2,_⟩:=I.tuple m;obtain ⟨n,t,⟨a,b,A⟩,s4,s5⟩:=p;have d:∀ b∈[z,TI,TO,g,j],O≠b:=fun b c=>l.ne_fp I (G b c);have f:∀ b∈[z,TI,TO,g,j],N≠b:=fun b c=>m.ne_fp I (G b c);have D:S6 z TI TO g j O N:=⟨Z.d1,Z.d2,Z.d3,Z.d4,Z.d5,Z.d6,Z.d7,Z.d8,Z.d9,Z.d0,d z (by simp),d TO (by simp),d g (by simp),d j (by simp),f z (by simp),f TO (by simp),f g (by simp),f j (by simp)⟩;have hT:s.TypeIs (.ref z) "zip":=⟨_,n,rfl⟩;have n1:=M.length;have n2:=L.length;unfold qv;refine ac (nQ (dv (name:=jB "__next__") hT uO ?_));refine cP uO hT F.entry_zip_next (P9 (by simpa using I.ok.hd hc) D n t A s4 s5 p1 p2 (Y.elim (fun q=>.inl (by simp;omega)) fun q=>.inr (by simp;omega)) fun h' e kp he=>?_) (F.args_zip_next_1 _);obtain ⟨o,eo,co⟩:=he;refine ac (kj (T:="StopIteration") (b:=true) ⟨o,eo,co⟩ Iw ?_);exact ag ⟨rfl,I.turnedL (t':=s.toks) (ch:=[z,TI,TO,g,j]) (fun b o c q=>by
   simp only [bf,aY,or_false,not_or] at c;exact kp b o c.1 c.2.2.1 c.2.2.2.1 c.2.2.2.2 q) G⟩
 self:=fun _ _ _ _ _ p h=>wpAny_pyIter_zip p.1 h
def q0G (K:aa) (d:TA):TI:=fun σ H R=>d σ H fun vs c=>∃ a b xs ys,vs=[.ref a,.ref b]/\lz K c a xs/\lz K c b ys/\R (Itz K a b) c
theorem WN {X:Cx}{o:List bc}{x1}{l p t:Pos}{a b:bc}{E:TA} (hg:Gl X "zip") (U:X.mg "zip"=none) (P:PA X [a,b] E) (hs:ao [a,b] X.env=[(false,bG a X.env),(false,bG b X.env)]:=by rfl)
  (g:ao [b] X.env=[(false,bG b X.env)]:=by rfl):PI X (.Tuple o x1 l) (.Call (.Name "zip" p) [a,b] [] t) (q0G X.K E):=by
 intro d s σ H R I h;refine Call_ (v7 I hg U boot_zip (fu (fE (P t d s σ H _ I h) fun us c ⟨vs,w,u,r1,Q⟩=>?_) (by rw [hs,g]) (by rw [g];rfl)));obtain ⟨A,a2,xs,ys,rfl,y,v,q⟩:=Q;obtain ⟨u1,u2,rfl,x,z⟩:=Oz r1;cases x;cases z;obtain ⟨i,S,p1,_⟩:=u.tuple y;obtain ⟨m,T,L,_⟩:=u.tuple v;refine E6 (show c.heap.IsTuple A i.toArray from p1) (show c.heap.IsTuple a2 m.toArray from L) fun h' G O N c4 M kp=>?_;refine wpAny_pyIter_zip G ?_;have Y:bH X d σ w { c with heap:=h' }:=u.kept (t':=c.toks) kp;have f:∀ k j:Nat,k≠j->c.heap.objs.size+k≠c.heap.objs.size+j:=fun k j n e=>n (Nat.add_left_cancel e);refine ⟨c.heap.objs.size+4,[c.heap.objs.size+4,c.heap.objs.size+2,c.heap.objs.size+3,c.heap.objs.size+0,c.heap.objs.size+1],_,_,w,rfl,Y,
  Pa A a2 _ _ _ _ _ ⟨f _ _ (by decide),f _ _ (by decide),f _ _ (by decide),f _ _ (by decide),f _ _ (by decide),f _ _ (by decide),f _ _ (by decide),f _ _ (by decide),f _ _ (by decide),f _ _ (by decide)⟩,
  ⟨G,O,⟨_,_,N⟩,c4,M⟩,fun b B=>?_,q⟩
 have:∀ k:Nat,wu X d w (c.heap.objs.size+k):=fun k=>u.fpOk (S9 _ _) (u.hok.fresh (S9 _ _))
 simp only [bf,aY,or_false] at B;rcases B with q|q|q|q|q<;>(rw [q];exact this _)
mutual
inductive Jb (K:aa) (H:Hp):V->DI->Prop
 |none:Jb K H .non .none
 |bool (b:Bool):Jb K H (.bl b) (.bool b)
 |int (i:Int):Jb K H (.int i) (.int i)
 |str (x:Str):Jb K H (.str x) (.str x)
 |list {a:af}{xs:List V}{ds:List DI}:pC K H a xs->Reps K H xs ds->Jb K H (.ref a) (.list ds)
 |tuple {a:af}{xs:List V}{ds:List DI}:lz K H a xs->Reps K H xs ds->Jb K H (.ref a) (.tuple ds)
inductive Reps (K:aa) (H:Hp):List V->List DI->Prop
 |nil:Reps K H [] []
 |cons {x:V}{xs:List V}{d:DI}{ds:List DI}:Jb K H x d->Reps K H xs ds->Reps K H (x::xs) (d::ds)
end
theorem cK.tup {K:aa}{H H':Hp}{a:af}{xs:List V} (e:cK H H') (h:lz K H a xs):lz K H' a xs:=by
 rcases h with (h|⟨o,h⟩)|h
 ·exact .inl (.inl (e _ _ h))
 ·exact .inl (.inr ⟨o,e _ _ h⟩)
 ·exact .inr h
theorem T8 (I:bH X pins σ H s) (h:pC X.K H a xs) (f:∀ {us:List ae},cS xs us->∃ b,ReadsAll s.heap us ds b) (r:dq (.ref a) u):∃ b,Reads s.heap u (.list ds) b:=by
 cases r;obtain ⟨g,j,⟨o,n,e,c,_,d⟩,_⟩:=I.list h;obtain ⟨b,i⟩:=f j;exact ⟨_,.list e c d (by simpa using i)⟩
theorem Pb (I:bH X pins σ H s) (h:lz X.K H a xs) (f:∀ {us:List ae},cS xs us->∃ b,ReadsAll s.heap us ds b) (r:dq (.ref a) u):∃ b,Reads s.heap u (.tuple ds) b:=by
 cases r;obtain ⟨g,j,⟨o,e,c,n,d⟩,_⟩:=I.tuple h;obtain ⟨b,i⟩:=f j;exact ⟨_,.tuple e c d (by simpa using i)⟩
theorem tW (I:bH X pins σ H s) (h:Jb X.K H v d):∀ {u:ae},dq v u->∃ c,Reads s.heap u d c :=
 Jb.rec (motive_1:=fun v d _=>∀ {u:ae},dq v u->∃ c,Reads s.heap u d c) (motive_2:=fun vs ds _=>∀ {us:List ae},cS vs us->∃ c,ReadsAll s.heap us ds c)
  (fun r=>by cases r;exact ⟨_,.none⟩) (fun b _ r=>by cases r;exact ⟨_,.bool b⟩) (fun i _ r=>by obtain ⟨t,rfl⟩:=r;exact ⟨_,.int i t⟩) (fun x _ r=>by obtain ⟨t,rfl⟩:=r;exact ⟨_,.str x t⟩)
  (fun h _ e _ r=>T8 I h e r) (fun h _ e _ r=>Pb I h e r) (fun r=>by cases r;exact ⟨_,.nil⟩) (fun _ _ a b _ r=>by
   cases r with
   |cons r f =>
    obtain ⟨c,j⟩:=a r;obtain ⟨bs,g⟩:=b f;exact ⟨_,.cons j g⟩) h
inductive Ve (K:aa) (neg:Bool) (x:V) (y:V) (H:Hp) (Q:VK):Prop
 |mk (dx dy:_) (h0:Jb K H x dx) (h1:Jb K H y dy) (h2:dx.canLay0=true) (h3:dy.canLay0=true) (h4:min dx.depth dy.depth<=60) (h5:Q (.bl (if neg then !bw dx dy else bw dx dy)) H):Ve K neg x y H Q
def WO (K:aa) (a:Bool):R2:=Ve K a
theorem WP (l:X.A.units+64<uC):qu X (bK .Eq) (WO X.K false):=by
 intro a s σ H x y v u Q I c e h;obtain ⟨m,k,i,b,d,j,o,q⟩:=h;obtain ⟨n,g⟩:=tW I i c;obtain ⟨bs,f⟩:=tW I b e;exact PySem.SeqAt.compareEq_reads g f d j (by omega) ⟨.bl _,H,I,rfl,q⟩
theorem WQ (l:X.A.units+64<uC):qu X (bK .NotEq) (WO X.K true):=by
 intro a s σ H x y v u Q I c e h;obtain ⟨m,k,i,b,d,j,o,q⟩:=h;obtain ⟨n,g⟩:=tW I i c;obtain ⟨bs,f⟩:=tW I b e;exact PySem.SeqAt.compareNe_reads g f d j (by omega) ⟨.bl _,H,I,rfl,q⟩
structure Vf (P:aV) (w:bi) (l:List Env) (H H':Hp) (h h' B:bA) (ea C t:af):Prop where
 fly:Heap.FlyingW B l ea (.ref C) (.ref t) h'
 cov:∀ b u,H' b=some u->∃ o,B.get? b=some o
 old:∀ b o,h.get? b=some o->H b=none->b∉uR l->B.get? b=some o
 all:∀ b o,h.get? b=some o->b∉uR l->∃ o',B.get? b=some o'
 un:Un (uR l) [] H H' h h'
 hok:rR P w H' h'
inductive YB (P:aV) (w:bi) (outer:List Env) (H:Hp) (s:ak) (E:XK) (e:ae) (s':ak):Prop
 |mk (ea C t H' B:_) (h0:e=.ref ea) (h1:s'.os=s.os) (h2:rW s'.gens) (h3:Vf P w outer H H' s.heap s'.heap B ea C t) (h4:E (.ref C) none H'):YB P w outer H s E e s'
def jN (P:aV) (w:bi):Ky:=YB P w
theorem Pc (x:rR P w H h) (e:H b=some u):∃ o,h.get? b=some o:=by
 have y:=x b u e;cases u with
 |lst xs=>obtain ⟨_,_,_,_,k⟩:=y;exact ⟨_,k⟩
 |tup xs=>obtain ⟨_,_,_,o,k,_⟩:=y;exact ⟨o,k⟩
 |dK kvs=>obtain ⟨_,_,_,_,o,_,_,k,_⟩:=y;exact ⟨o,k⟩
 |dT kvs=>obtain ⟨_,_,_,_,o,_,_,k,_⟩:=y;exact ⟨o,k⟩
 |set S n=>obtain ⟨o,_,_,_,k,_⟩:=y;exact ⟨o,k⟩
 |ins C c fs=>obtain ⟨_,_,_,k,_⟩:=y;exact ⟨_,k⟩
 |own a=>exact y
 |xd fs=>obtain ⟨_,⟨o,_,_,k,_⟩,_⟩:=y;exact ⟨o,k⟩
 |rng lo d=>obtain ⟨_,_,_,k⟩:=y;exact ⟨_,k⟩
 |frz o u=>exact ⟨o,y.1⟩
 |tbl ps=>exact ⟨_,y⟩
 |met f a=>exact ⟨_,y⟩
 |ext φ=>exact y.2.1
theorem KM (he:env∈l) (a:env.frame=some b):b∈uR l:=List.mem_filterMap.mpr ⟨env,he,a⟩
theorem Vf.kp (x:Vf P w l H H' h h' B ea C t) (c:B.StaysIn h'') (b:af) (u:HO) (o:Obj) (e:H' b=some u) (q:h'.get? b=some o):h''.get? b=some o:=by
 obtain ⟨d,a⟩:=x.cov b u e;have:=x.fly.1 b d a;rw [q] at this;cases this;exact c b o a
theorem Vf.on (x:Vf P w l H H' h h' B ea C t) (g:Heap.FlyingW B l ea (.ref C) (.ref t) h'') (p:h'.UpToSlots h''):Vf P w l H H' h h'' B ea C t:=by
 have f:=g.1;refine ⟨g,x.cov,x.old,x.all,⟨fun b o q n a j=>f b o (x.old b o q n a),fun b o q n a j=>?_,x.un.free,fun b o q j=>?_,x.un.tups,x.un.frzs,x.un.tbls⟩,fun b u e=>?_⟩
 ·obtain ⟨y,m⟩:=x.un.slot b o q n a j;obtain ⟨_,d,k1,k2⟩:=fB x.fly.2.2.1 a;rw [m] at k1;cases k1;obtain ⟨i,v⟩:=p b _ m k2;exact ⟨i,v⟩
 ·by_cases a:b∈uR l
  ·obtain ⟨_,d,k1,_⟩:=fB g.2.2.1 a;exact ⟨d,k1⟩
  ·obtain ⟨d,k⟩:=x.all b o q a;exact ⟨d,f b d k⟩
 ·exact (x.hok b u e).stay (fun c o s q=>by
   rcases s with z|z
   ·rw [z] at q ⊢;exact x.kp f b u o e q
   ·exact x.kp f c _ o z q) (fun _ q=>q) fun _ _ q=>q
section
variable {P:aV}{w:bi}{K:aa}{mg:Str->Option ae}{base:bA}{N:List Str}{qual:Str}{scope:fU}{f:af}{cd:ae}{A:bh}{outer:List Env}{s:ak}{H:Hp}{E:XK}
theorem E7 (I:bH (iU (jN P w) P w K mg base N qual scope f cd A outer s H E) pins σ H1 s1)
  (Q:Heap.MadeExcOf s1.heap h' ea (.ref C) vs) (q:E (.ref C) none H1):(iU (jN P w) P w K mg base N qual scope f cd A outer s H E).xe (.ref ea) { s1 with heap:=h' }:=by
 let X:=iU (jN P w) P w K mg base N qual scope f cd A outer s H E
 let B:=NF s1.heap (uR X.stack)
 have O:∀ env∈X.stack,∀ a,env.frame=some a->a∈uR X.stack:=fun env he a Y=>KM he Y;have x:B.StaysIn s1.heap:=fun b o e=>H_ _ e;have j:∀ b,b∉uR X.stack->∀ o,s1.heap.get? b=some o->B.get? b=some o:=fun b n o e=>HJ _ e n;show av _ X.A (leaving X.env (.ref ea)) _ _ _;refine wpAny_leaves_madeW (s:={ s1 with heap:=h' }) (base:=B) (outer:=outer) (L:=X.env.locals) I.ok.frames rfl x (PySem.W.funFrames_hide I.stack O) Q fun h2 t v tup tn S=>?_;have i:=v.1;have l:∀ b o,s.heap.get? b=some o->b∉uR outer->b∉uR X.stack:=fun b o e n z=>by
  rcases List.mem_cons.mp (I.stkSub b z) with y|y
  ·exact absurd (ax e) (by rw [y];exact Nat.not_lt.mpr I.ok.above)
  ·exact n y
 have d:∀ b:af,b∉X.ex:=fun b z=>absurd (show b∈([] : List af) from z) (by simp);have M:∀ b u,H1 b=some u->∃ o,B.get? b=some o:=fun b u e=>by
  have g:b∉uR X.stack:=fun z=>by have:=I.stkFree b z;rw [e] at this;cases this
  obtain ⟨o,k⟩:=Pc I.hok e;exact ⟨o,j b g o k⟩
 refine ⟨ea,C,t,H1,B,rfl,I.os,I.bare,⟨v,M,fun b o e n g=>?_,fun b o e g=>?_,⟨fun b o e n g m=>?_,fun b o e n g m=>?_,fun b o e n _=>I.base.free b o e n (d b),fun b o e _=>?_,I.base.tups,I.base.frzs,I.base.tbls⟩,fun b u e=>?_⟩,q⟩
 ·exact j b (l b o e g) o (I.base.keep b o e n g (d b))
 ·obtain ⟨h,k⟩:=I.base.there b o e (d b);exact ⟨h,j b (l b o e g) h k⟩
 ·exact i b o (j b (l b o e g) o (I.base.keep b o e n g (d b)))
 ·obtain ⟨sl,k⟩:=I.base.slot b o e n g (d b);obtain ⟨_,h,k1,k2⟩:=fB I.funs g;rw [k] at k1;cases k1;obtain ⟨G,k3⟩:=S b _ (Q.keeps _ _ k) k2;exact ⟨G,k3⟩
 ·obtain ⟨h,k⟩:=I.base.there b o e (d b);by_cases g:b∈uR outer
  ·obtain ⟨_,T,k1,_⟩:=fB v.2.2.1 g;exact ⟨T,k1⟩
  ·exact ⟨h,i b h (j b (l b o e g) h k)⟩
 ·refine (I.hok b u e).stay (fun c o U k=>?_) (fun _ q=>q) fun _ _ q=>q;have p:c∉uR X.stack:=fun z=>by
   have:=I.stkFree c z;rcases U with y|y
   ·rw [y,e] at this;cases this
   ·rw [y] at this;cases this
  exact i c o (j c p o k)
theorem G3 (hE:∀ c H',E' c none H'->E c none H'):gy (jN P w) (iU (jN P w) P w K mg base N qual scope f cd A outer s H E) E':=by
 intro O σ H1 s1 e s' I h;obtain ⟨M,C,t,H',B,rfl,os,j,x,q⟩:=h;let X:=iU (jN P w) P w K mg base N qual scope f cd A outer s H E
 have a:∀ b:af,b∉X.ex:=fun b z=>absurd (show b∈([] : List af) from z) (by simp);have m:∀ b o,s.heap.get? b=some o->b∉uR outer->b∉uR X.stack:=fun b o e n z=>by
  rcases List.mem_cons.mp (I.stkSub b z) with y|y
  ·exact absurd (ax e) (by rw [y];exact Nat.not_lt.mpr I.ok.above)
  ·exact n y
 have sub:∀ b∈uR outer,b∈uR X.stack:=fun b d=>by
  obtain ⟨env,he,Y⟩:=List.mem_filterMap.mp d;exact KM (aq _ he) Y
 show av _ X.A (leaving X.env (.ref M)) _ _ _;refine wpAny_leaves_onW (base:=B) (outer:=outer) (L:=X.env.locals) I.ok.frames rfl x.fly fun h2 G S=>?_;have g:=G.1;refine ⟨M,C,t,H',B,rfl,os.trans I.os,j,⟨G,x.cov,fun b o e n d=>?_,fun b o e d=>?_,⟨fun b o e n d v=>?_,fun b o e n d v=>?_,fun b o e n _=>?_,fun b o e _=>?_,fun b xs e=>x.un.tups b xs (I.base.tups b xs e),fun b o xs e=>x.un.frzs b o xs (I.base.frzs b o xs e),fun b ps e=>?_⟩,fun b u e=>?_⟩,hE _ _ q⟩
 ·exact x.old b o (I.base.keep b o e n d (a b)) (I.base.free b o e n (a b)) (m b o e d)
 ·obtain ⟨i,k⟩:=I.base.there b o e (a b);exact x.all b i k (m b o e d)
 ·exact g b o (x.old b o (I.base.keep b o e n d (a b)) (I.base.free b o e n (a b)) (m b o e d))
 ·obtain ⟨sl,k⟩:=I.base.slot b o e n d (a b);obtain ⟨Q,k1⟩:=x.un.slot b _ k (I.base.free b o e n (a b)) (sub b d) (by simp);obtain ⟨_,i,k2,k3⟩:=fB x.fly.2.2.1 (sub b d);rw [k1] at k2;cases k2;obtain ⟨p,T⟩:=S b _ k1 k3;exact ⟨p,T⟩
 ·obtain ⟨i,k⟩:=I.base.there b o e (a b);exact x.un.free b i k (I.base.free b o e n (a b)) (by simp)
 ·obtain ⟨i,k⟩:=I.base.there b o e (a b);by_cases d:b∈uR outer
  ·obtain ⟨_,l,k1,_⟩:=fB G.2.2.1 d;exact ⟨l,k1⟩
  ·obtain ⟨l,k2⟩:=x.all b i k (m b o e d);exact ⟨l,g b l k2⟩
 ·obtain ⟨m1,e1⟩:=I.base.tbls b ps e;obtain ⟨m2,e2⟩:=x.un.tbls b _ e1;exact ⟨m1++m2,by rw [e2,M5]⟩
 ·exact (x.hok b u e).stay (fun c o U k=>by
   rcases U with z|z
   ·rw [z] at k ⊢;exact x.kp g b u o e k
   ·exact x.kp g c _ o z k) (fun _ q=>q) fun _ _ q=>q
end
section
variable {P:aV}{w:bi}{K:aa}{mg:Str->Option ae}{base:bA}{N:List Str}{qual:Str}{scope:fU}{f:af}{cd:ae}{A:bh}{outer:List Env}{s:ak}{H:Hp}{E:XK}
theorem Pd {x:Str}{M c p:Pos}{i:bc}{bU:List bc}{C:af}{g:List ae}{a d Bn:String}{v:TA} (O:OwnCls x C g a mg base) (y:ExcBaseFacts Bn a d g)
  (hg:Gl (iU (jN P w) P w K mg base N qual scope f cd A outer s H E) x) (U:PA (iU (jN P w) P w K mg base N qual scope f cd A outer s H E) (i::bU) v)
  (he:ao (i::bU) (iU (jN P w) P w K mg base N qual scope f cd A outer s H E).env=(false,bG i (iU (jN P w) P w K mg base N qual scope f cd A outer s H E).env)::ao bU (iU (jN P w) P w K mg base N qual scope f cd A outer s H E).env:=by rfl)
  (m:(x==("__debug__" : Str))=false:=by decide) (n:(cC c (ao bU (iU (jN P w) P w K mg base N qual scope f cd A outer s H E).env)).any (·.1)=false:=by rfl) :
  PS (iU (jN P w) P w K mg base N qual scope f cd A outer s H E) (.Raise (some (.Call (.Name x M) (i::bU) [] c)) none p) (fun D σ j=>v σ j fun vs u=>vs.length<=sizeLine/\E (.ref C) none u):=by
 intro e L σ j D I h;obtain ⟨tl,Q,nm,q,bs,hdct,sn,sub,ab,col,dd,k0,k1,k2,k3,k5,mN,hC,G,l,T⟩:=O.obj;refine wpAny_Raise_call_subT (C:=C) (nm:=nm) (q:=q) (N:=Q) (bs:=bs) (bm:=tl) (hdct:=hdct) (sn:=sn) (sub:=sub) (ab:=ab) (col:=col) (dd:=dd) (k0:=k0) (k1:=k1) (k2:=k2) (k3:=k3) (k5:=k5)
  y (mN:=mN) (T.hasType y.hasBase) (I.ok.hd rfl) ?_ l (wq I hg O.bound ⟨rfl,?_⟩ m)
 ·rw [he];show (false||_)=false;rw [wl];exact n
 ·have B:=U c e L σ j _ I h;rw [he] at B ⊢;refine Ik (fE B fun us Y ⟨vs,u,t,r2,z,S⟩=>?_);have k:∀ b o,base.get? b=some o->Y.heap.get? b=some o:=t.bk;exact ⟨rfl,by show us.length<=sizeLine;rw [<- r2.length];exact z,k _ _ hC,G.keeps k,T.keeps k,fun h' ea X=>E7 t X S⟩
end
structure E8 (base:bA) (C:af) (bm:List ae):Prop where
 obj:∃ nm q N bs hdct sn sub ab col dd k0 k1 k2 k3 k5 newId,base.get? C=some (excClassObj nm q C N bs bm hdct sn sub ab col dd k0 k1 k2 k3 k5 newId)
 exc:bm.contains (.type "BaseException")=true
theorem Al (j:∀ b o,base.get? b=some o->s.heap.get? b=some o) (x:E8 base C bm) (y:E8 base Cp bp)
  (H:bm.contains (.ref Cp)=true) (he:s.heap.get? ea=some oe) (a:oe.cls=.ref C) (h:Q true s):av M A (excMatches (.ref ea) (.ref Cp)) Q E s:=by
 obtain ⟨⟨nm,q,X,bs,hdct,sn,sub,ab,col,dd,k0,k1,k2,k3,k5,e,K⟩,x2⟩:=x;obtain ⟨⟨z,q',B,S,i,P,m,I,k,G,n,T,t,N,w,c,u⟩,p⟩:=y;have L:=j _ _ K;have l:=j _ _ u;have O:(bn C::bm).contains (.ref Cp)=true:=by rw [ko,H,Bool.or_true]
 have v:(bn Cp::bp).contains (.type "BaseException")=true:=by rw [ko,p,Bool.or_true]
 have f:=tc_notTuple;obtain ⟨hp,g,d,U,Y⟩:=s;unfold excMatches;repeat (first
  |(with_reducible refine wpAny_loadPart_at he ?_;rw [a])
  |with_reducible refine wpAny_loadPart_at l ?_
  |(with_reducible refine wpAny_isSubtype_exc L ?_;rw [O])
  |(with_reducible refine wpAny_isSubtype_exc l ?_;rw [v])
  |wp_step)
 exact h
def Am (a C:af):HO:=.ext fun h=>∃ o,h.get? a=some o/\o.cls=.ref C
theorem T9 (e:h.get? ea=some o) (c:o.cls=.ref C):dw P w H h ea (Am ea C) :=
 ⟨⟨o,e,c⟩,⟨o,e⟩,fun a b ⟨o,e,c⟩ k=>⟨o,k o e,c⟩⟩
def XU (X:Cx) (a:af):Cx:={ X with A:=X.A.mark (some (.ref a)),calm:=false,xe:=fun _ _=>False }
theorem bH.inH (I:bH X pins σ H s) (a:af):bH (XU X a) pins σ H s :=
 ⟨⟨I.ok.mod,I.ok.kind,I.ok.glob,I.ok.blt,I.ok.above,I.ok.inj,I.ok.has,I.ok.cab,(fun z=>jz z),I.ok.frames,I.ok.stk,I.ok.exf,I.ok.bs,I.ok.bsz,I.ok.noex,I.ok.exfs,I.ok.funs,I.ok.frf⟩,I.os,I.bare,I.base,I.loc,I.cell,I.free,I.freeC,I.pin,I.hok,I.len⟩
theorem bH.outH (ok:X.Ok) (I:bH (XU X ea) pins σ H s):bH X pins σ H s :=
 ⟨ok,I.os,I.bare,I.base,I.loc,I.cell,I.free,I.freeC,I.pin,I.hok,I.len⟩
def An (X:Cx):St:=cg X.N.length none
theorem bH.forget (I:bH X pins σ H s) (m:h'.Ns X.env.locals m') (g:bJ X.env.locals s.heap h'):bH X pins (An X) H { s with heap:=h',toks:=t' }:=by
 have a:∀ b o,X.s₀.heap.get? b=some o->b≠X.env.locals:=fun b o e=>aM (aL (ax e) I.ok.above);refine ⟨I.ok,I.os,I.bare,⟨fun b o e n j h=>(g.2 b (a b o e)).trans (I.base.keep b o e n j h),fun b o e n j h=>?_,I.base.free,fun b o e h=>?_,I.base.tups,I.base.frzs,I.base.tbls⟩,⟨m',m,fun i x v w f y=>?_⟩,fun x c e=>?_,I.free,I.freeC,fun p t=>?_,FR I.hok I.free g,by simp [An]⟩
 ·obtain ⟨u,k⟩:=I.base.slot b o e n j h;exact ⟨u,(g.2 b (a b o e)).trans k⟩
 ·obtain ⟨q,k⟩:=I.base.there b o e h;exact ⟨q,(g.2 b (a b o e)).trans k⟩
 ·have f:(An X)[i]?=some (some v):=f;unfold An at f;rw [bI] at f;split at f<;>cases f
 ·obtain ⟨v,z⟩:=I.cell x c e;exact ⟨v,z.sameBut g (I.cne x c e)⟩
 ·obtain ⟨e,n,l,nf,d⟩:=I.pin p t;exact ⟨(g.2 p.1 l).trans e,n,l,nf,d⟩
def Vg (X:Cx) (d:af) (i:Nat) (b:TS) (D:uG):XK:=fun c _ H'=>∃ C bm,c=.ref C/\E8 X.base C bm/\bm.contains (.ref d)=true /\
 ∀ a,H' a=none->b { nx:=fun _ H=>D.nx (An X) H,rt:=D.rt } ((An X).set i (some (.ref a))) (upd H' a (Am a C))
def q0H (X:Cx) (b:af) (i:Nat) (tb:XK->TS) (a:TS):TS:=fun D σ H=>tb (Vg X b i a D) D σ H
theorem Pe (I:bH X pins σ H s) (b:Gl X x) (a:X.mg x=some u) (h:Q u s)
  (c:(x==("__debug__" : Str))=false:=by decide):av (aF X.prog X.w) A (bG (.Name x pos) X.env) Q E s :=
 nR I.ok.kind b (Fe (by rw [I.ok.glob];exact I.mod.glob.keeps I.bk) a h) c
def WR (X:Cx) (xe:ae->ak->Prop) (pn:List (af×Obj)):Cx:={ X with xe:=xe,pn:=pn }
theorem bH.inT (I:bH X pins σ H s) (b:ae->ak->Prop):bH (WR X b (X.pn++pins)) [] σ H s :=
 ⟨⟨I.ok.mod,I.ok.kind,I.ok.glob,I.ok.blt,I.ok.above,I.ok.inj,I.ok.has,I.ok.cab,I.ok.hd,I.ok.frames,I.ok.stk,I.ok.exf,I.ok.bs,I.ok.bsz,I.ok.noex,I.ok.exfs,I.ok.funs,I.ok.frf⟩,I.os,I.bare,I.base,I.loc,I.cell,I.free,I.freeC,
  fun p a=>I.pin p ((List.mem_append.mp a).elim id fun z=>absurd z (by simp)),I.hok,I.len⟩
theorem bH.outT (ok:X.Ok) (I:bH (WR X xe (X.pn++pins)) pins' σ H s):bH X pins σ H s :=
 ⟨ok,I.os,I.bare,I.base,I.loc,I.cell,I.free,I.freeC,fun p a=>I.pin p (my _ a),I.hok,I.len⟩
theorem bH.track0 (I:bH X pins σ H s) (i:X.s₀.heap.get? D=none) (a:H D=none) (f:D≠X.env.locals) (g:∀ x c,X.env.cells.lookup x=some c->c≠D) (j:∀ p∈X.pn++pins,p.1≠D)
  (new:dw X.prog X.w (upd H D ho) s.heap D ho):bH X pins σ (upd H D ho) s :=
 ⟨I.ok,I.os,I.bare,⟨I.base.keep,I.base.slot,fun b o e n h=>by rw [aC (fun z=>by rw [z,i] at e;cases e)];exact I.base.free b o e n h,I.base.there,fun b xs e=>by have q:=I.base.tups b xs e;rw [aC (aK q a)];exact q,
  fun b o xs e=>by have q:=I.base.frzs b o xs e;rw [aC (aK q a)];exact q,fun b ps e=>by obtain ⟨m,q⟩:=I.base.tbls b ps e;exact ⟨m,by rw [aC (aK q a)];exact q⟩⟩,I.loc,I.cell,
  by rw [aC (eC f)];exact I.free,fun x c e=>by rw [aC (g x c e)];exact I.freeC x c e,fun p d=>by
  obtain ⟨e,n,r⟩:=I.pin p d;exact ⟨e,by rw [aC (j p d)];exact n,r⟩,xU I.hok a new,I.len⟩
theorem WS (hg:Gl X x) (hm:X.mg x=some (.ref Cp)) (y:E8 X.base Cp bp)
  (hN:X.N.Nodup) (hi:X.N[i]?=some n) (hn:X.env.scope.names.lookup n=some .local) (d2:∃ l,X.stack=X.env::l/\X.env.frame=some X.env.locals) (d4:X.ex=[])
  (hb:∀ (E:XK) (Y:ae->ak->Prop) (pn:List (af×Obj)),gy (jN X.prog X.w) (WR X Y pn) E->zw (WR X Y pn) body (tb E)) (hs:∀ g,zw (XU X g) (b0::suite) ts) (d5:(x==("__debug__" : Str))=false:=by decide) :
  PS X (.Try body [.ExceptHandler (some (.Name x np)) (some n) (b0::suite) hpos] [] [] pos) (q0H X Cp i tb ts):=by
 intro d s σ H D I h;obtain ⟨l,hl,d1⟩:=d2;have ok:=I.ok;refine wpAny_Try_except ?_;let Y:ae->ak->Prop:=fun e a0=>av (aF X.prog X.w) X.A (NK e X.env) (fun _ a2=>av (aF X.prog X.w) X.A (setFlight e none) (fun _ b6 =>
  av (aF X.prog X.w) X.A (handleBy e X.env [.ExceptHandler (some (.Name x np)) (some n) (b0::suite) hpos]) (SP X d D) X.xe b6) X.xe a2) X.xe a0
 have hp:gy (jN X.prog X.w) (WR X Y (X.pn++d)) (Vg X Cp i ts D):=by
  intro d7 σ' H1 P e s' I' hx;have I1:bH X d σ' H1 P:=I'.outT ok;obtain ⟨g,C,t,H',B,rfl,os,a9,G,C',bm,d6,ox,c5,c1⟩:=hx;cases d6;have G:Vf X.prog X.w X.stack H1 H' P.heap s'.heap B g C t:=G;have O:∀ h2,Vf X.prog X.w X.stack H1 H' P.heap h2 B g C t->bH X d σ' H' { s' with heap:=h2 }:=fun h2 a =>
   I1.call' (s':={ s' with heap:=h2 }) (ch:=[]) os a.un a.hok a9 (fun b z=>absurd z (by simp))
  have a1:=G.fly;rw [hl] at a1;show av _ X.A (NK (.ref g) X.env) _ _ s';refine wpAny_looks_onW (base:=B) (outer:=l) (L:=X.env.locals) (by rw [ok.frames,hl]) d1 a1 fun h2 c4 d0=>?_;refine wpAny_landsW c4 fun h3 U b8=>?_;have Q:=d0.trans b8;have a3:=G.on (by rw [hl];exact U) Q;have I3:=O h3 a3;obtain ⟨oe,he,e0⟩:=U.there;refine wpAny_handleBy_cons (codeAny_handlers_test (Pe I3 hg hm ?_ d5)) (by intro q;cases q);refine Al (base:=X.base) (s:={ s' with heap:=h3 }) I3.bk ox y c5 he e0 (codeAny_handlers_suite_as ?_);refine lands_againW (s:={ s' with heap:=h3 }) U fun h4 M d3=>?_;have a4:=G.on (by rw [hl];exact M) (Q.trans d3);have I4:=O h4 a4;obtain ⟨e1,ws,a8,a6,c2,_⟩:=M.first;have nB:B.get? g=none:=M.2.1;have c3:g∉uR X.stack:=fun z=>by
   obtain ⟨_,o',k1,k2⟩:=fB M.2.2.1 (by rw [<- hl];exact z);rw [a8] at k1;cases k1;exact k2 _ c2
  have n1:P.heap.get? g=none:=by
   cases q:P.heap.get? g with
   |none=>rfl
   |some o =>
    obtain ⟨o',k⟩:=G.all g o q c3;rw [nB] at k;cases k
  have nH:H' g=none:=by
   cases q:H' g with
   |none=>rfl
   |some u =>
    obtain ⟨o',k⟩:=G.cov g u q;rw [nB] at k;cases k
  have a5:g≠X.env.locals:=fun z=>by
   obtain ⟨m,⟨o,_,_,k,_⟩,_⟩:=I1.loc;rw [<- z,n1] at k;cases k
  have S:∀ x c,X.env.cells.lookup x=some c->c≠g:=fun x c e z=>by
   obtain ⟨v,o,k,_⟩:=I1.cell x c e;rw [z,n1] at k;cases k
  have a7:∀ p∈X.pn++d,p.1≠g:=fun p hp z=>by
   have k:=(I1.pin p hp).1;rw [z,n1] at k;cases k
  have n0:X.s₀.heap.get? g=none:=by
   cases q:X.s₀.heap.get? g with
   |none=>rfl
   |some o =>
    by_cases hx:g∈X.ex
    ·rw [d4] at hx;cases hx
    ·obtain ⟨o',k⟩:=I1.base.there g o q hx;rw [n1] at k;cases k
  have I5:=(I4.weak (σ':=An X) (by rw [I4.len];simp [An]) (fun j v z=>by
   unfold An at z;rw [bI] at z;split at z<;>cases z)).track0 (ho:=Am g C) n0 nH a5 S a7 (T9 a8 a6)
  refine pJ I5 hN hi (.inl hn) (v:=.ref g) rfl (fun s6 I6=>?_) (.inr hn);refine cx (hs g d s6 _ _ _ (I6.inH g) (c1 g nH)) (fun f s7 q7=>?_) fun _ _ z=>z.elim;have fin:∀ {K:St}{T:Hp}{Q':St->Hp->Prop},bH (XU X g) d K T s7->(∀ s8,bH X d (An X) T s8->SP X d D f s8)->av (aF X.prog X.w) X.A (do I9 X.env n .none;unbindBehindTheSuite X.env n hpos) (fun _ s8=>SP X d D f s8) X.xe s7:=fun {K T Q'} J k=>by
   have J:=J.outH ok;obtain ⟨m,d9,_⟩:=J.loc;exact wpAny_nameGoes hn d9 (by rw [ok.kind];rfl) fun h8 m8 d8 c0=>k _ (J.forget d8 c0)
  cases f with
  |next=>obtain ⟨K,T,J,q⟩:=q7;exact fin (Q':=fun _ _=>True) J fun s8 I8=>⟨_,_,I8,q⟩
  |brk=>obtain ⟨K,T,J,q⟩:=q7;exact q.elim
  |cont=>obtain ⟨K,T,J,q⟩:=q7;exact q.elim
  |ret v=>obtain ⟨z,K,T,J,r,q⟩:=q7;exact fin (Q':=fun _ _=>True) J fun s8 I8=>⟨z,_,_,I8,r,q⟩
 refine cx (hb _ Y (X.pn++d) hp [] s σ H D (I.inT Y) h) (fun f P q=>?_) fun e P q=>q;have q:SP X d D f P:=by
  cases f with
  |next=>obtain ⟨σ',H',J,q⟩:=q;exact ⟨σ',H',J.outT ok,q⟩
  |brk=>obtain ⟨σ',H',J,q⟩:=q;exact ⟨σ',H',J.outT ok,q⟩
  |cont=>obtain ⟨σ',H',J,q⟩:=q;exact ⟨σ',H',J.outT ok,q⟩
  |ret v=>obtain ⟨z,σ',H',J,r,q⟩:=q;exact ⟨z,σ',H',J.outT ok,r,q⟩
 cases f with
 |next=>exact oR q
 |brk=>exact q
 |cont=>exact q
 |ret v=>exact q
structure Pf (K:aa) (C:af):Prop where
 ga:bL K (.ref C) "__getattribute__"=some (some (.builtin "BaseException.__getattribute__"))
 gn:bL K (.ref C) "__getattr__"=some none
 ca:bL K (.ref C) "__class__"=some (some (.builtin "object.__class__"))
 gg:we K (.builtin "object.__class__") "__get__"=some (some (.builtin "getset_descriptor.__get__"))
 tk:yT K (.builtin "object.__class__")=some true
 mo:cz K C (.type "object")=some true
 be:cz K C (.type "BaseException")=some true
 cl:(gS K C).isSome=true
def CH (x C:af) (h:bA):Prop:=∃ o,h.get? x=some o/\o.cls=.ref C
theorem CH.type (p:CH x C h):RO M h (typeOf (.ref x)) (.ref C):=by
 obtain ⟨o,e,c⟩:=p;exact c ▸ (PySem.W.Looks.ld e).andThen .now
section
variable {prog:aV}{w:bi}{A:bh}{E:ae->ak->Prop}{s:ak}{K:aa}{x C:af}{R:Result->ak->Prop}
open PySem.W Builtin Builtin.ObjectAttr Builtin.Getset_descriptor in
theorem Ta (Z:Pf K C) (X:K.In s.heap) (p:CH x C s.heap) (q:R (.ok (.ret (.ref C))) s):gZ (aF prog w) A (.call (.builtin "getset_descriptor.__get__") ⟨[.builtin "object.__class__",.ref x,tp],[]⟩) R s:=by
 obtain ⟨a,e,c,b,g⟩:=s;have d:=p.type (M:=aF prog w);have f:=looks_mroIn (M:=aF prog w) X Z.mo;refine xJ KF.slot_gs.plain KF.entry_gs ?_;refine KF.slot_gs.check _ _ _ _ _ _ _ _ KF.type_class (KF.args_gs _ _ _) ?_;unfold j6.«getset_descriptor.__get__» descrGet;rw [dga_obj];refine ac (ag ?_);unfold descrGetter descrCheckInstance descrNameAndClass Iv;simp only [KF.owner_class];repeat lk
 refine ⟨NO _ (by decide +kernel),fY KF.entry_class ?_⟩;unfold j6.«object.__class__» shownTypeOf;repeat lk
 exact q
theorem MI (Z:Pf K C) (X:K.In s.heap) (p:CH x C s.heap) (h:Q (some (.ref C)) { s with toks:=s.toks+1 }):av (aF prog w) A (Sc (.ref x) "__class__") Q E s:=by
 obtain ⟨f,g,d,t,q⟩:=s;have e:=p.type (M:=aF prog w);have l:=lH (M:=aF prog w) X Z.ga;have L2:=lH (M:=aF prog w) X Z.gn;have k:=lH (M:=aF prog w) X Z.ca;have u:=PySem.W.looks_specialIn (M:=aF prog w) X Z.gg;have i:=PySem.W.looks_takesIn (M:=aF prog w) X Z.tk;have o:=PySem.W.looks_mroIn (M:=aF prog w) X Z.be;unfold Sc getAttrBy? getAttrBy;refine ac (wpAny_mkText (ac (nQ (dm (ac (e.at (ac (l.at ?_))))))));show av _ _ (getAttrByItsOwn (.ref x) (.str "__class__" t) (.ref C) (.builtin "BaseException.__getattribute__") false false) _ _ _;unfold getAttrByItsOwn;show av _ _ (zP (.ref C) "__getattr__" >>= _) _ _ _;refine ac (L2.at (ac (nQ (dm ?_))));show av _ _ (boundAndCalled (.builtin "BaseException.__getattribute__") (.ref x) (.str "__class__" t)) _ _ _;unfold boundAndCalled;refine ac (xI (F.excAttr_ValueError.ga.bind (.ref x)) ?_);show av _ _ (call (.builtin "BaseException.__getattribute__") [.ref x,.str "__class__" t]) _ _ _;refine u_ (xJ F.excAttr_ValueError.ga.plain F.entry_bexc_ga ?_);have n:builtinKind "BaseException.__getattribute__"=some .slot:=by decide +kernel
 have c:splitId "BaseException.__getattribute__"=some ("BaseException","__getattribute__"):=by decide +kernel
 have b:=F.args_bexc_ga (.ref x) (.str "__class__" t);simp only [checkBuiltinCall,n,c];have j:RO (aF prog w) f (Iv (.ref x) (.type "BaseException")) true:=e.andThen o;refine ac (j.at ?_);rw [if_neg (by decide)];refine xI (a:=()) (by unfold argsOk at b;exact b) ?_;unfold j6.«object.__getattribute__»;refine ac (m:=slotArgs "__getattribute__" 1 _) (ag ?_);refine ac (m:=RP _) (ag ?_);refine ac (e.at (ac ?_));unfold RQ;refine ac (k.at (ac (u.at (ac ?_))));refine ac (i.at ?_);refine ag (ac (gO (ag ?_)));show av _ _ (kg [.builtin "object.__class__"] (call (.builtin "getset_descriptor.__get__") [.builtin "object.__class__",.ref x,.ref C]) >>= fun v=>ret v) _ _ _;refine ac (dm (u_ (Ta (s:=⟨f,g,d,t+1,q⟩) Z X p ?_)));exact ag (PySem.W.handed_on rfl (ag h))
theorem Pg (Z:Pf K C):PySem.W.KitX K (.ref x) (.ref C) (CH x C) where
 ty:=fun _ _ _ p=>p.type
 it:=fun M h X _=>by
  obtain ⟨e,a⟩:=Option.isSome_iff_exists.mp Z.cl;unfold gS at a;split at a
  ·rename_i g d' b c ho
   intro j Q' m s' k q;unfold isType loadHead;exact ac (wpAny_loadPart (k _ _ (X _ _ ho)) (ag q))
  ·cases a
 ne:=fun h f dd i n l X d=>by
  refine Bool.eq_false_iff.mpr fun q=>?_;obtain rfl:C=f:=Value.ref.inj (beq_iff_eq.mp q);obtain ⟨e,a⟩:=Option.isSome_iff_exists.mp Z.cl;unfold gS at a;split at a
  ·rename_i g d' b c ho
   have z:=(X _ _ ho).symm.trans d;cases z
  ·cases a
 ca:=fun X p k=>MI Z X p k
end
theorem yC:jX X (.builtin "isinstance") (fun xs H Q=>∃ x c d b,xs=[x,c]/\((∃ n,c=.ty n/\d=.type n)\/∃ g,c=.ref g/\d=.ref g)/\((∃ t,xT X.K H x t/\dH X.K t d=some b) \/
  ∃ a C,x=.ref a/\H a=some (Am a C)/\Pf X.K C/\dH X.K (.ref C) d=some b)/\Q (.bl b) H):=by
 intro i s σ H xs us Q I r h;obtain ⟨x,c,d,b,rfl,l,h,q⟩:=h;obtain ⟨u,v,rfl,k,j⟩:=Oz r;obtain rfl:v=d:=by
  rcases l with ⟨n,rfl,rfl⟩|⟨g,rfl,rfl⟩
  ·exact j
  ·exact j
 rcases h with ⟨t,ty,e⟩|⟨a,C,rfl,hH,Z,e⟩
 ·exact pK I k ty e fun f=>⟨.bl b,H,I.tok f,rfl,q⟩
 ·cases k;have p:CH a C s.heap:=(show dw X.prog X.w H s.heap a (Am a C) from I.hok a _ hH).1;exact cH (Pg Z) I.kIn p e (fun z=>nomatch z) fun f=>⟨.bl b,H,I.tok f,rfl,q⟩
structure nh (k:Nat) (A:bh):Prop where
 dp:A.depth+3*k+5<Ie
 un:A.units+16*k+200<uC
theorem fJ.h (r:fJ k A):nh k A:=⟨r.dp,r.un⟩
theorem nh.mark (r:nh k A) (v:Option ae):nh k (A.mark v):=⟨r.dp,r.un⟩
theorem nh.deeper (r:nh (k+1) A) (env:Env):nh k (A.deeper env):=⟨by have:=r.dp;show A.depth+1+3*k+5<_;omega,by have:=r.un;show A.units+3+16*k+200<_;omega⟩
structure G4 (P:aV) (w:bi) (K:aa) (mg:Str->Option ae) (base:bA) (k:Nat) (f:af) (fd:cr) (ps:List Str) (sp:Sp):Prop where
 len:∀ vs H Q E,sp vs H Q E->vs.length=ps.length
 run:∀ (A:bh) (outer:List Env) (s:ak) (H:Hp) (args:Args) (us:List ae) (vs:List V) (Q:VK) (E:XK),nh k A->BJ P w K mg base A outer s H->yr s fd args (ps.zip us)->cS vs us->sp vs H Q E ->
  gZ (aF P w) A (.call (.ref f) args) (CR CX0 outer P w H s Q E) s
def YC (P:aV) (w:bi) (K:aa) (mg:Str->Option ae) (base:bA) (N:List Str) (qual:Str) (scope:fU) (f:af) (cd:ae) (A:bh) (outer:List Env) (s:ak) (H:Hp):Cx where
 prog:=P
 w:=w
 K:=K
 mg:=mg
 base:=base
 A:=A.deeper (gR qual scope s.heap.objs.size f cd)
 N:=N
 s₀:=s
 H₀:=H
 env:=gR qual scope s.heap.objs.size f cd
 outer:=outer
 stack:=gR qual scope s.heap.objs.size f cd::outer
 ex:=[]
 calm:=false
 fn:=fun _=>true
 pn:=[]
 xe:=fun _ _=>False
section
variable {P:aV}{w:bi}{K:aa}{mg:Str->Option ae}{base:bA}
theorem Jc
  (S:bj N ps scope) (a:BJ P w K mg base A outer s H) (c:vs.length=ps.length) (r:cS vs us)
  (x:InCallC s s.heap.objs.size (Ih (gR qual scope s.heap.objs.size f cd).kindOf (ps.zip us) fun _=>none) (bW (s.heap.objs.size+1) scope.names []) (Ii (gR qual scope s.heap.objs.size f cd).kindOf (ps.zip us) fun _=>none) s1) :
  bH (YC P w K mg base N qual scope f cd A outer s H) [] (start N vs) H s1:=by
 have b:BJ P w K mg base { A with handled:=none } outer s H:=⟨a.frames,a.mod,a.bs,a.bsz,a.funs,a.frf,a.hok,a.bare⟩;have I:=CA (CX:=CX0) (E:=E0) S (A:={ A with handled:=none }) rfl b c r x;exact ⟨⟨I.ok.mod,I.ok.kind,I.ok.glob,I.ok.blt,I.ok.above,I.ok.inj,I.ok.has,I.ok.cab,(fun z=>jz z),I.ok.frames,I.ok.stk,I.ok.exf,I.ok.bs,I.ok.bsz,I.ok.noex,I.ok.exfs,I.ok.funs,I.ok.frf⟩,I.os,I.bare,I.base,I.loc,I.cell,I.free,I.freeC,I.pin,I.hok,I.len⟩
theorem WT {k:Nat}{f:af}{name a:Str}{d:Arguments}{g:List c9}{scope:fU}{O kV l Y c ct oc:ae}{an od:Option af}
  {B:Array (Option ae)}{N ps:List Str}{sp:Sp} (lk:K.lookup f=some ⟨oc,od,.func (dU name a d g scope O kV l Y an c ct),B⟩) (z:j4 K c a=true) (S:bj N ps scope)
  (j:∀ vs H Q E,sp vs H Q E->vs.length=ps.length)
  (i:∀ (A:bh) (outer:List Env) (s:ak) (H:Hp) (vs:List V) (Q:VK) (E:XK),nh k (A.deeper (gR a scope s.heap.objs.size f c))->sp vs H Q E ->
   ∃ t,zw (YC P w K mg base N a scope f c A outer s H) g t/\t { nx:=fun _ H'=>Q .non H',rt:=Q } (start N vs) H) :
  G4 P w K mg base (k+1) f (dU name a d g scope O kV l Y an c ct) ps sp:=by
 refine ⟨j,fun A outer s H X us vs Q E T m hb r p=>?_⟩;have hl:=j _ _ _ _ p;have U:K.In s.heap:=m.mod.kin.keeps fun b o e=>(m.bs b o e).1;have G:s.heap.NoLimit:=m.mod.nolimit.keeps fun b o e=>(m.bs b o e).1;have h:∀ y∈ps.zip us,scope.names.lookup y.1=some .local\/(scope.names.lookup y.1=some .cell/\((bW (s.heap.objs.size+1) scope.names []).lookup y.1).isSome=true):=fun ⟨n,v⟩ hy=>by
  rcases S.par n (sj hy).1 with q|q
  ·exact .inl q
  ·exact .inr ⟨q,fH _ _ _ (.inl q)⟩
 refine RK (by have:=T.dp;omega) (U _ _ lk) rfl S.co S.gen rfl (v3 U z) (hb _ _ _ _ ?_);refine Ij S.kind h fun env he M x=>?_;subst he;refine ⟨G.keeps x.toInCall.keep,codeAny_func ?_⟩;obtain ⟨t,ht,hq⟩:=i A outer s H vs Q E (T.deeper _) p;have I:bH (YC P w K mg base N a scope f c A outer s H) [] (start N vs) H M:=Jc S m hl r x;refine cx (ht [] M (start N vs) H _ I hq) (fun fl s' hs=>?_) fun e s' hs=>(show False from hs).elim;have fin:∀ {σ':St}{H':Hp}{v:V}{u:ae},bH (YC P w K mg base N a scope f c A outer s H) [] σ' H' s'->dq v u->Q v H'->CE outer P w H s Q u s' :=
  fun {σ' H' v u} J L q=>⟨v,H',J.os,J.bare,J.base,J.hok,L,q⟩
 cases fl with
 |ret u =>
  obtain ⟨v,σ',H',J,L,q⟩:=hs;exact fin J L q
 |next =>
  obtain ⟨σ',H',J,q⟩:=hs;exact fin (v:=V.non) (u:=e_) J rfl q
 |brk =>
  obtain ⟨_,_,_,q⟩:=hs;exact dC q
 |cont =>
  obtain ⟨_,_,_,q⟩:=hs;exact dC q
theorem xz.okH {x a:Str}{d:c9}{f:af}{i:cr}{N ps:List Str}{k:Nat}{sp:Sp} (F:xz K x a d f i) (S:bj N ps (ar d)) (e:∀ vs H Q E,sp vs H Q E->vs.length=ps.length)
  (c:∀ (b:ae) (A:bh) (outer:List Env) (s:ak) (H:Hp) (vs:List V) (Q:VK) (E:XK),nh k (A.deeper (gR a (ar d) s.heap.objs.size f b))->sp vs H Q E ->
   ∃ t,zw (YC P w K mg base N a (ar d) f b A outer s H) (eF d) t/\t { nx:=fun _ H'=>Q .non H',rt:=Q } (start N vs) H):G4 P w K mg base (k+1) f i ps sp:=by
 obtain ⟨p,v,kV,j,o,q,b,u,m,rfl,n,g⟩:=F.ex;exact WT n g S e fun A outer s H vs Q E l h=>c b A outer s H vs Q E l h
end
theorem Ph (F:G4 X.prog X.w X.K X.mg X.base k f fd ps sp) (v:nh k X.A) (E:Gl X x) (z:X.mg x=some (.ref f)) (B:bV X.K (.ref f)=true) (y:eQ X.K fd ps [])
  (n:PA X (e::es) t) (g:(x==("__debug__" : Str))=false:=by decide) (he:ao (e::es) X.env=(false,bG e X.env)::ao es X.env:=by rfl) (i:(cC pos (ao es X.env)).any (·.1)=false:=by rfl) :
  PE X (.Call (.Name x p) (e::es) [] pos) (Kz sp [] E0 t):=by
 intro c s σ H Q I h;refine kX (wq I E z ?_ g);refine mW (h₀:=X.base) I.ok.mod.kin B (fE (n pos c s σ H _ I h) fun us j ⟨vs,l,d,r,q⟩=>⟨d.kIn,?_⟩) he i;have q:sp (vs++[]) l Q E0:=q;rw [cb] at q;have m:us.length=ps.length:=by rw [<- r.length];exact F.len _ _ _ _ q
 have a:=y j us d.kIn (by rw [cb];exact m);rw [cb] at a;refine u_ (lW (F.run X.A X.stack j l ⟨us,[]⟩ us vs Q E0 v d.env0 a r q) fun r s' b=>?_);cases r with
 |error e=>exact (show False from b).elim
 |ok o =>
  cases o with
  |ret u=>exact d.after b
  |next=>exact dC b
  |brk=>exact dC b
  |cont=>exact dC b
def tyD:DI->String
 |.none=>"NoneType" | .bool _=>"bool" | .int _=>"int" | .str _=>"str" | .list _=>"list" | .tuple _=>"tuple" | .dict _=>"dict"
theorem Jd (I:bH X pins σ H s) (a:dq x u) (r:Jb X.K H x d) (e:dH X.K (.type (tyD d)) c=some b) (h:∀ k,Q (.bool b) { s with toks:=k }) :
  av (aF X.prog X.w) A (call (.builtin "isinstance") [u,c]) Q E s:=by
 cases r with
 |none=>exact pK I a .non e h
 |bool y=>exact pK I a (.bl y) e h
 |int i=>exact pK I a (.int i) e h
 |str y=>exact pK I a (.str y) e h
 |list f _ =>
  cases a;obtain ⟨g,j,⟨o,n,ho,c,_,dd⟩,_⟩:=I.list f;exact cH wf I.kIn ⟨o,ho,c⟩ e (fun z=>nomatch z) h
 |tuple f _ =>
  cases a;obtain ⟨g,j,⟨o,ho,c,n,dd⟩,_⟩:=I.tuple f;exact cH Ic I.kIn ⟨o,ho,c⟩ e (fun z=>nomatch z) h
theorem Pi:jX X (.builtin "isinstance") (fun xs H Q=>∃ x d T b,xs=[x,.ty T]/\Jb X.K H x d/\dH X.K (.type (tyD d)) (.type T)=some b/\Q (.bl b) H):=by
 intro a s σ H xs us Q I r h;obtain ⟨x,d,T,b,rfl,i,e,q⟩:=h;obtain ⟨u,v,rfl,g,f⟩:=Oz r;obtain rfl:v=.type T:=f;exact Jd I g i e fun c=>⟨.bl b,H,I.tok c,rfl,q⟩
end L2
namespace HT
open PySem PyProof.Rows
theorem G5 {t f:af}{items:Array ae}{k i:ae}{lo c:Option Int}{Q:ae->ak->Prop} (a:HZ s.heap t items) (hs:s.heap.IsSliceOf f k i .none) (pl:xF k lo) (m:xF i c)
  (j:js items.size 0 lo=0/\js items.size items.size c=items.size) (h:Q (.ref t) s):av (aF prog w) A (rX (.ref t) (.ref f)) Q E s:=by
 obtain ⟨n,d,e,l⟩:=id hs;have g:s.TypeIs (.ref f) "slice":=⟨n,d,e⟩;unfold rX;try with_reducible refine dm ?_
 first|refine ac (ag ?_)|skip
 refine ac (wpAny_sequenceKey a.typeIs (by decide) ?_);refine ac (dv (name:=jB "__getitem__") a.typeIs gx
  (cP gx a.typeIs entry_tuple_getitem ?_ (args_tuple_getitem _ _)))
 show av _ _ (wj (.ref t) >>= _) _ _ s;refine ac (tupleItemsOf_ a ?_);refine ac (lZ g ?_);rw [if_pos (by decide)];refine ac (pO hs pl m ?_);have b:((((js items.size 0 lo:Nat):Int)==0&&(1:Int)==1&&(js items.size items.size c-js items.size 0 lo)==items.size)=true):=by
  rw [j.1,j.2];simp
 show av _ _ (if (((js items.size 0 lo:Nat):Int)==0&&(1:Int)==1&&(js items.size items.size c-js items.size 0 lo)==items.size)=true then _ else _) _ _ s;rw [if_pos b];refine ac ?_;unfold Builtin.Tuple.tupleIsExact;refine ac (lZ a.typeIs (ag ?_));rw [if_pos (by decide)];refine ac (gO ?_);first
  |exact ag (ag ⟨_,rfl,h⟩)
  |exact ag ⟨_,rfl,ag h⟩
  |exact ac (ag (ag ⟨_,rfl,ag h⟩))
  |exact ac (ag (ag ⟨_,rfl,h⟩))
end HT
namespace L2
open PySem PySem.Spec PyProof.Rows
inductive Pj (K:aa) (x:V) (lo:Option Int) (hi:Option Int) (H:Hp) (Q:VK):Prop
 |mk (a xs:_) (h0:x=.ref a) (h1:lz K H a xs) (h2:(HT.js xs.length 0 lo=0/\HT.js xs.length xs.length hi=xs.length)) (h3:Q (.ref a) H):Pj K x lo hi H Q
def YD (K:aa):V->Option Int->Option Int->Hp->VK->Prop:=Pj K
theorem Tb:Yn X (YD X.K):=by
 intro e s σ H x v m n lo l o Q I f hs pl i h;obtain ⟨a,xs,rfl,j,g,q⟩:=h;cases f;obtain ⟨c,r,d,k⟩:=I.tuple j;have b:c.toArray.size=xs.length:=by rw [aG];exact r.length.symm
 exact ⟨"tuple",_,PyProof.Rows.slot_tuple_getitem.lookup,d.typeIs,HT.G5 d hs pl i (by rw [b];exact g) ⟨.ref a,H,I,rfl,q⟩⟩
theorem jG (h:H p=none):cK H (upd H p o):=fun b u e=>by rw [aC (aK e h)];exact e
theorem vh:∀ {bs:List Bool}{us:List ae},cS (bs.map V.bl) us->us=bs.map iB
 |[],_,.nil=>rfl
 |b::r,_,.cons h t=>by cases h;rw [vh t];rfl
theorem Ao {A:bh}{s:ak}{bs:List Bool}:∀ y,y∈(bs.map iB).toArray->Mb A s y (.bool true) (xO true y):=fun y a=>by
 have a:y∈bs.map iB:=by simpa using a
 obtain ⟨b,_,rfl⟩:=List.mem_map.mp a;exact Ch b true
def Tc (K:aa):V->List V->Hp->VK->Prop:=fun x vs H Q=>∃ l,∃ bs:List Bool,x=.ref l/\vs=[.bl true]/\pC K H l (bs.map V.bl)/\Q (.int (bs.countP id:Nat)) H
theorem MJ:MtR X "list.count" (Tc X.K):=by
 intro f s σ H x vs v us Q I i m h;obtain ⟨l,bs,rfl,rfl,j,q⟩:=h;cases i;obtain ⟨u,rfl,p⟩:=m.one;cases p;obtain ⟨k,r,⟨o,n,ho,c,z,a⟩,w⟩:=I.list j;rw [vh r] at a;obtain ⟨cls,dd,d,t⟩:=o;simp only at c a;subst c a;refine qy Cm ⟨_,ho,rfl⟩ PySem.F.entry_list_count (PySem.F.args_list_count_2 _ _) (SeqAt.list_countAt l (bs.map iB).toArray n dd t (.bool true) (xO true)) ⟨ho,fun y g=>Ao y g,?_⟩;refine ⟨.int _,H,I.tok _,⟨_,rfl⟩,?_⟩;have e:(bs.map iB).toArray.toList.countP (xO true)=bs.countP id:=by
  show (bs.map iB).countP (xO true)=_;rw [List.countP_map];congr 1;funext b;cases b<;>rfl
 rw [e];exact q
def Td (K:aa):V->List V->Hp->VK->Prop:=fun x vs H Q=>∃ l,∃ bs:List Bool,∃ j:Nat,x=.ref l/\vs=[.bl true]/\pC K H l (bs.map V.bl)/\bs[j]?=some true/\(∀ m,m<j->bs[m]?=some false)/\j<=1000/\Q (.int (j:Nat)) H
theorem MK:MtR X "list.index" (Td X.K):=by
 intro i s σ H x vs v us Q I p A h;obtain ⟨l,bs,j,rfl,rfl,t,E,e,w,q⟩:=h;cases p;obtain ⟨u,rfl,B⟩:=A.one;cases B;obtain ⟨z,r,⟨o,n,ho,c,O,b⟩,M⟩:=I.list t;rw [vh r] at b;obtain ⟨cls,dd,g,G⟩:=o;simp only at c b;subst c b;obtain ⟨f,a⟩:=List.getElem?_eq_some_iff.mp E;refine qy Co ⟨_,ho,rfl⟩ PySem.F.entry_list_index (PySem.F.args_list_index_2 _ _) (SeqAt.list_indexAt l (bs.map iB).toArray n dd G (.bool true) (xO true) j (by simpa using f) (by omega) ?_ ?_) ⟨ho,fun y k=>Ao y k,?_⟩
 ·simp [xO,a]
 ·intro m N d;have:=e m d;obtain ⟨_,L⟩:=List.getElem?_eq_some_iff.mp this;simp [xO,L]
 ·exact ⟨.int _,H,I.tok _,⟨_,rfl⟩,q⟩
theorem Ap (U:X.calm=true):jX X (.type "list") (fun xs H Q=>∃ a kvs,xs=[.ref a]/\H a=some (.dK kvs)/\∀ l,H l=none->Q (.ref l) (upd H l (.lst (kvs.map fun p=>kV p.1)))):=by
 intro B s σ H xs us Q I r h;obtain ⟨a,kvs,rfl,hH,q⟩:=h;obtain ⟨u,rfl,O⟩:=mz r;cases O;obtain ⟨S,hs,vs,f,hd⟩:=(show dw X.prog X.w H s.heap a (.dK kvs) from I.hok a _ hH);obtain ⟨m,z⟩:∃ m,s.heap.DictAt (dY X.prog X.w) a vs m:=by
  obtain ⟨o,P,m,y,h2,T,h4⟩:=hd;exact ⟨m,o,P,y,h2,T,h4⟩
 have K:kvs.length=vs.length:=pz f;refine PySem.W.kdl_call (PySem.W.kdl_dict hs) (I.ok.hd U) z (by omega) fun h' M c Y kp e d=>?_;have rv:cS (kvs.map fun p=>kV p.1) c.toList:=by
  have n:∀ {kvs:List (fg×V)}{vs:List (fg×ae)} (b:List ae),KV kvs vs->b.length=vs.length->(∀ (j:Nat) (v:ae),b[j]?=some v->∃ k x,vs[j]?=some (k,x)/\zW k v=true)->cS (kvs.map fun p=>kV p.1) b:=by
   intro kvs;induction kvs with
   |nil=>intro vs b f g _;cases f;cases b with
    |nil=>exact .nil
    |cons _ _=>simp at g
   |cons p kvs N =>
    intro vs b f g L;cases f with
    |cons y t1 =>
     cases b with
     |nil=>simp at g
     |cons v b =>
      refine .cons ?_ (N b t1 (by simpa using g) fun j v A=>by simpa using L (j+1) v (by simpa using A));obtain ⟨k,x,E,e2⟩:=L 0 v rfl;simp only [FA,Fm] at E;subst E;have G:p.1=k:=y.1;rcases fO e2 with ⟨i,t,e,rfl⟩|⟨i,t,e,rfl⟩
      ·show dq (kV p.1) _;rw [G,e];exact ⟨t,rfl⟩
      ·show dq (kV p.1) _;rw [G,e];exact ⟨t,rfl⟩
  exact n c.toList f (by rw [ay];exact d.1) fun j v A=>d.2 j v (by rw [<- dQ];exact A)
 exact ⟨.ref s.heap.objs.size,_,I.laid (t':=M) kp (aA _) (show dw X.prog X.w _ h' _ (.lst _) from ⟨by simpa using S,c.toList,Y,rv,by rw [Iy];exact e⟩),rfl,q _ (I.hok.fresh (aA _))⟩
def Aq (x:Str):List V:=x.cps.toList.map fun c=>V.str ⟨#[c]⟩
theorem z9 (G:X.calm=true):jX X (.type "tuple") (fun xs H Q=>∃ x,xs=[.str x]/\x.cps.size<=sizeLine/\∀ l,H l=none->Q (.ref l) (upd H l (.tup (Aq x)))):=by
 intro d s σ H xs us Q I r h;obtain ⟨x,rfl,y,q⟩:=h;obtain ⟨u,rfl,E⟩:=mz r;obtain ⟨t,rfl⟩:=E;refine call_tuple_str (I.ok.hd G) x t (fun h' i a kp f=>?_) y;have A:bH X d σ H { s with heap:=h',toks:=i }:=I.kept (t':=i) kp;have L:cS (Aq x) a.toList:=by
  have n:∀ (g:List Nat) (a:List ae),a.length=g.length->(∀ (j:Nat) (v:ae),a[j]?=some v->∃ c u,g[j]?=some c/\v=.str ⟨#[c]⟩ u)->cS (g.map fun c=>V.str ⟨#[c]⟩) a:=by
   intro g;induction g with
   |nil=>intro a k _;cases a with
    |nil=>exact .nil
    |cons _ _=>simp at k
   |cons c g B =>
    intro a k z;cases a with
    |nil=>simp at k
    |cons v a =>
     obtain ⟨N,u,m,rfl⟩:=z 0 v rfl;simp only [FA,Fm] at m;subst m;exact .cons ⟨u,rfl⟩ (B a (by simpa using k) fun j v p=>by simpa using z (j+1) v (by simpa using p))
  refine n x.cps.toList a.toList (by rw [ay,ay];exact f.1) fun j v p=>?_;obtain ⟨c,u,m,M⟩:=f.2 j v (by rw [<- dQ];exact p);exact ⟨c,u,by rw [dQ];exact m,M⟩
 have K:bH X d σ (upd H h'.objs.size (.tup (Aq x))) { s with heap:=h'.push { cls:=.type "tuple",data:=.seq a },toks:=i } :=
  A.laid (t':=i) (fun b o e=>ai _ e) (aA _) (show dw X.prog X.w _ _ _ (.tup (Aq x)) from ⟨by unfold Aq;simpa using y,a.toList,L,by rw [Iy];exact yR _ _⟩)
 exact ⟨.ref h'.objs.size,_,K,rfl,q _ (A.hok.fresh (aA _))⟩
end L2
namespace L2
open PySem PySem.Spec PyProof.Rows
theorem rV {elt target iter ifs bU scope pos it acc env}
  (c:gZ (aF prog w) A (.compLoop (.SetComp elt (⟨target,iter,ifs,0⟩::bU) scope pos) 0 it acc env) R s)
  (h:av (aF prog w) A (xE it) (fun a s'=>gZ (aF prog w) A (.compLoop (.SetComp elt (⟨target,iter,ifs,0⟩::bU) scope pos) 0 a acc env) R s')
   (notedBy (aF prog w) A env fun x s'=>R (.error x) s') s) :
  gZ (aF prog w) A (.compStart (.SetComp elt (⟨target,iter,ifs,0⟩::bU) scope pos) 0 it acc env) R s:=by
 refine Fy ?_;show av _ _ ((compStart (.SetComp elt (⟨target,iter,ifs,0⟩::bU) scope pos) 0 it acc env).onRaise (fun x=>do NK x env;j3 theWindowsPlace)) _ _ s;refine wpAny_notedAt ?_;unfold compStart;show av _ _ (ask >>= _) _ _ s;refine ac (iK (wpAny_ite ?_));split
 ·first
   |exact ac (ag (ag (zS rfl c)))
   |exact ag (zS rfl c)
 ·first
   |exact ac (gO (ac (nO (ac (cx h (fun a s' b=>ag (zS rfl b)) fun _ _ x=>x)))))
   |(refine ac (gO ?_);show av _ _ (j3 iter.pos >>= _) _ _ s;exact ac (nO (ac (cx h (fun a s' b=>ag (zS rfl b)) fun _ _ x=>x))))
theorem uU (h:Q (.ref s.heap.objs.size) { s with heap:=s.heap.push (gF w) }):av (aF prog w) A (newSet (.type "set")) Q E s:=by
 unfold newSet setsByText;refine ac (ac (iK (ag ?_)));dsimp only;simp only [newObj];exact ac (S2 (ag h))
theorem BO (d:mE w s.heap a ss) (f:ss.length+1<iJ)
  (h:∀ h' b,bJ a s.heap h'->mE w h' a (if x∈ss then ss else ss++[x])->Q .none { s with heap:=h',toks:=b }) :
  av (aF prog w) A (call (.builtin "set.add") [.ref a,.str x tk]) Q E s:=by
 have e:s.TypeIs (.ref a) "set":=by obtain ⟨j,i,t,I,_⟩:=id d;exact ⟨_,I.at_,rfl⟩
 refine cP F.slot_set_add e F.entry_set_add ?_ (F.args_set_add_2 _ _);unfold j6.«set.add» Sd;simp only [List.isEmpty_nil,bind_assoc];unfold Se;refine ac (ag ?_);try dsimp only
 refine ac (ag ?_);try dsimp only
 refine ac ?_;refine FV d f fun h' b g c=>?_;exact ag ⟨_,rfl,h h' b g c⟩
def q0I (w:bi) (D:af) (o:Obj) (a:List Str):Prop:=∀ h:bA,h.get? D=some o->mE w h D a
def WU (X:Cx) (c:bc) (env:Env) (D:af) (K:ak->Prop) (s:ak):Prop:=av (aF X.prog X.w) X.A (bG c env) (fun x a=>av (aF X.prog X.w) X.A (call (.builtin "set.add") [.ref D,x]) (fun _ b=>K b) (fun _ _=>False) a) (fun _ _=>False) s
abbrev YE (c:TE) (σ:St) (H:Hp) (a:List Str) (m:Nat) (V:Nat->List Str->Hp->Prop):Prop:=c σ H fun y d=>∃ z b,y=.str z/\b<m/\V b (if z∈a then a else a++[z]) d
theorem Pk {X:Cx}{g:bc}{s:TE}{N':List Str}{scope:fU}{M:St->Prop} (E:∀ i C b a q k,PE (eI X N' scope i C b a q k) g s) :
  OV X N' scope M (fun D o c=>(∀ v,o.data≠.cell v)/\q0I X.w D o c) (fun c=>c.length+1<iJ) (YE s) (WU X g):=by
 intro i C b a q k D pl o c p N A K m V x h2 L _ I Q P O fin
 refine fE (E i C b a q k _ A p N _ P O) fun u8 s8 j=>?_
 obtain ⟨y,Y,u,r8,z,S,B,U,T⟩:=j
 obtain ⟨pD,pN,_⟩:=u.pin (D,_) (ba _ au)
 subst B
 obtain ⟨tz,rfl⟩:=r8
 refine BO (Q.2 _ pD) I fun h9 a1 n f=>?_
 obtain ⟨H,G,t9,l,a0⟩:=id f
 have d:=l.at_
 exact fin _ _ Y _ S ((u.swap n d (fun _ z=>nomatch z) x h2 L).tok _) ⟨fun _ z=>(nomatch z),fun h e=>f.keep fun o t=>by rw [d] at t;cases t;exact e⟩ U T
theorem Pl {X:Cx}{b:bc}{f:Sem Fin}{a:Code} (d:f=pure (.again a)) (env:Env) (D:af) (K:ak->Prop) (s:ak) (h:WU X b env D K s):av (aF X.prog X.w) X.A ((do let v <- bG b env;j3 b.pos;let _ <- call (.builtin "set.add") [.ref D,v]) >>= fun _=>f) (fun f c=>f=.again a/\K c) (fun _ _=>False) s:=by
 subst d;exact ac (ac (fE h fun x g e=>ac (nO (ac (fE e fun _ _ q=>ag (ag ⟨rfl,q⟩))))))
theorem Te {X:Cx}{f tg iter:bc}{i:List bc}{scope:fU}{l:Pos}{m:TE}{N':List Str}{nt:Nat}{ix:List Nat} (p:∀ n C j g q o,PE (eI X N' scope n C j g q o) f m) :
  T5 X N' scope nt nt ix (.SetComp f [⟨tg,iter,i,0⟩] scope l) tg i (newSet (.type "set")) (pP X.w) [] (fun k=>k.length+1<iJ) (YE m) :=
 ⟨_,_,fun _=>WU X f,fun _=>True,fun h=>h.1,rfl,fun _=>⟨fun _ z=>(nomatch z),fun _ e=>CF X.w e⟩,fun _ h e=>E5 (h.2 _ e),uU,fun _=>Vd (iter:=iter) (fun _ _=>rfl) fun a b c d h=>Pl rfl a b c d h,rV,⟨aA _,fun _ _ _=>trivial⟩,fun _=>Pk p⟩
inductive Vh (w:bi) (nt:Nat) (ix:List Nat) (g:TG) (tt:TT) (te:TE) (σ:St) (Q:VK) (J:It) (H1:Hp):Prop
 |mk (W:Nat->Nat->List Str->Hp->Prop) (w0:∃ m,W 0 m [] H1) (turn:∀ i m acc H,W i m acc H ->
 (J.stop i H/\∀ p,H p=none->Q (.ref p) (upd H p (pP w p acc))) \/
 (J.go i H/\acc.length+1<iJ/\∀ x H',J.yld i H x H'->g x (n8 nt ix σ) H' fun σ2 H2=>tt σ2 H2 fun b H3 =>
  if b=true then te σ2 H3 fun y H4=>∃ z m',y=.str z/\m'<m/\W (i+1) m' (if z∈acc then acc else acc++[z]) H4 else ∃ m',m'<m/\W (i+1) m' acc H3)):Vh w nt ix g tt te σ Q J H1
def Pm (w:bi) (nt:Nat) (ix:List Nat) (c:TI) (g:TG) (b:TT) (a:TE):TE:=fun σ H Q=>c σ H (Vh w nt ix g b a σ Q)
theorem Je {X:Cx}{n tg iter:bc}{i:List bc}{scope:fU}{o:Pos}{M:TI}{g:TG}{N:TT}{L:TE}{N':List Str}{nt:Nat}{ix:List Nat}
  (hc:X.calm=true) (S:oW X scope N' nt ix) (lo:WJ nt g) (hi:PI X tg iter M)
  (E:∀ u C j k G z,PG (eI X N' scope u C j k G z) tg g/\SZ (eI X N' scope u C j k G z) i N/\PE (eI X N' scope u C j k G z) n L)
  (hs:∀ x,e8 iter X.env x=pure x:=by intro _;rfl):PE X (.SetComp n [⟨tg,iter,i,0⟩] scope o) (Pm X.w nt ix M g N L):=by
 intro l s σ H Q I h;obtain ⟨u,K,c1,U⟩:=vc (scope:=scope) (env:=X.env) fun y O hf=>I.ok.has y.1 (S.free y O hf);show av _ _ (comprehension (.SetComp n [⟨tg,iter,i,0⟩] scope o) scope X.env (firstIterPos [⟨tg,iter,i,0⟩] o) (newSet (.type "set")) (firstAsync [⟨tg,iter,i,0⟩]) (firstIter [⟨tg,iter,i,0⟩] X.env)) _ _ _;refine sr (use:=none) rfl hs K S.kind S.loc (fE (hi l s σ H _ I h) fun v s1 h1=>fE h1 fun Y s2 h2=>?_);obtain ⟨it,fp,tn,J,H2,e,I2,T,B,f2,W,P,p⟩:=h2;subst e;refine J6 (RR:=fun t C=>compPost (aF X.prog X.w) X.A X.xe none (EP X l σ Q) t C) (Te fun a b c d e f=>(E a b c d e f).2.2) hc S lo (fun a b c d e f=>⟨(E a b c d e f).1,(E a b c d e f).2.1⟩) c1 U I2 T B f2 P p ?_;intro D C m s' t H' hD _ q hn hI;exact ⟨m,hn,fun h' sb=>⟨.ref D,_,hI h' sb,rfl,q⟩⟩
theorem BP:jX X (.builtin "len") (fun xs H Q=>∃ p a,xs=[.ref p]/\H p=some (pP X.w p a)/\Q (.int a.length) H):=by
 intro f s σ H xs us Q I r h;obtain ⟨p,a,rfl,i,q⟩:=h;obtain ⟨u,rfl,g⟩:=mz r;cases g;obtain ⟨e,l,t,c,j⟩:=(show dw X.prog X.w H s.heap p (pP X.w p a) from I.hok p _ i).1;have b:e.size=a.length:=by rw [<- j.length_eq,aw,ay]
 have d:(e.size:Int)<2 ^ 63:=by
  have k:=c.few;have m:iJ<=2 ^ 62:=by decide
  omega
 refine Ck kind_len plain_len entry_len (args_len1 _) (wpAny_len_body_set c.at_ ⟨rfl,rfl,rfl⟩ rfl c.fits d ?_);refine ⟨.int _,H,I.tok _,⟨_,rfl⟩,?_⟩;rw [b];exact q
end L2
namespace L2
open PySem PySem.Spec PyProof.Rows
section
variable {K:aa}{nt:Nat}{ix:List Nat}{te:TE}{σ:St}{H1:Hp}{Q:VK}{a:af}{xs:List V}{i:Nat}
end
end L2
namespace L2
open PySem PySem.Spec PyProof.Rows
def KN (so:fU) (N:List Str) (scope:fU) (N':List Str) (nt:Nat) (ix:List Nat):Bool :=
 (scope.kind == .function)&&(scope.names.all fun y=>y.2 != .cell||scope.names.lookup y.1==some .cell)&&(scope.names.all fun y=>y.2 != .local||scope.names.lookup y.1==some .local) &&
 (scope.names.all fun y=>y.2 != .free||so.names.lookup y.1==some .cell||so.names.lookup y.1==some .free) &&
 ((br ix.length).all fun k=>match ix[k]? with
  |none=>false
  |some i=>match N[i]? with
   |none=>false
   |some x=>N'[nt+k]? == some x&&scope.names.lookup x==some .free)&&(N'.length==nt+ix.length)
theorem ck (h:KN so N scope N' nt ix=true) (j:X.env.scope=so:=by rfl) (n:X.N=N:=by rfl):oW X scope N' nt ix:=by
 unfold KN at h;simp only [aP,cY] at h;obtain ⟨⟨⟨⟨⟨a,b⟩,c⟩,d⟩,e⟩,l⟩:=h;refine ⟨by simpa using a,fun y f z=>?_,fun y f z=>?_,fun y f z=>?_,fun k i g=>?_,by simpa using l⟩
 ·have:=b y f;simpa [z] using this
 ·have:=c y f;simpa [z] using this
 ·have:=d y f;rw [j];simpa [z] using this
 ·have m:k<ix.length:=(List.getElem?_eq_some_iff.mp g).1;have:=e k (List.mem_range.mpr m);rw [g] at this;rw [n];simp only at this;split at this
  ·cases this
  ·rename_i x o
   simp only [aP] at this;exact ⟨x,o,by simpa using this.1,by simpa using this.2⟩
end L2
namespace L2
open PySem PySem.Spec PyProof.Rows
section
variable {K:aa}{nt:Nat}{ix:List Nat}{te:TE}{σ:St}{H1:Hp}{Q:VK}{a b:af}{xs ys:List V}{i k:Nat}
end
end L2
namespace J
open PySem L2
abbrev D:=DI
inductive R (α:Type) where
 |ok (a:α)
 |ex (c:Str) (n:Option D)
 |no
def R.bind {α b:Type}:R α->(α->R b)->R b
 |.ok a,f=>f a
 |.ex c n,_=>.ex c n
 |.no,_=>.no
@[simp] theorem bind_ok {α β:Type} (a:α) (f:α->R β):(R.ok a).bind f=f a:=rfl
@[simp] theorem bind_ex {α β:Type} (c:Str) (n:Option D) (f:α->R β):(R.ex c n).bind f=.ex c n:=rfl
@[simp] theorem bind_no {α β:Type} (f:α->R β):(R.no:R α).bind f=.no:=rfl
def kD:fg->D
 |.inl i=>.int i
 |.inr x=>.str x
def tD (a:List fg):D:=.tuple (a.map kD)
def Ar:List Str:=["book","states","names","undone"]
def dkD (ds:List D):List (D×D):=(.bool true,.none)::ds.map fun d=>(.bool true,d)
def dkK:List (D×D)->Bool
 |(.bool true,_)::_=>true
 |_=>false
mutual
inductive RD (K:aa) (H:Hp):V->D->Prop
 |none:RD K H .non .none
 |bool (b:Bool):RD K H (.bl b) (.bool b)
 |int (i:Int):RD K H (.int i) (.int i)
 |str (x:Str):RD K H (.str x) (.str x)
 |list {a:af}{xs:List V}{ds:List D}:pC K H a xs->RDs K H xs ds->RD K H (.ref a) (.list ds)
 |tuple {a:af}{xs:List V}{ds:List D}:H a=some (.tup xs)->RDs K H xs ds->RD K H (.ref a) (.tuple ds)
 |dictK {a:af}{kvs:List (fg×V)}{ds:List (D×D)}:H a=some (.dK kvs)->RDk K H kvs ds->RD K H (.ref a) (.dict ds)
 |dictT {a:af}{kvs:List (List fg×V)}{ds:List (D×D)}:H a=some (.dT kvs)->kvs≠[]->RDt K H kvs ds->RD K H (.ref a) (.dict ds)
 |dictF {a:af}{o:Obj}{kvs:List (List fg×V)}{ds:List (D×D)}:H a=some (.frz o (.dT kvs))->kvs≠[]->RDt K H kvs ds->RD K H (.ref a) (.dict ((.none,.none)::ds))
 |desk {x C dx:af}{vs:List V}{ds:List D}:dW K bq "Desk"=some (some (.ref C))->H x=some (.ins C dx (Ar.zip vs))->vs.length=4->RDs K H vs ds->RD K H (.ref x) (.dict (dkD ds))
inductive RDs (K:aa) (H:Hp):List V->List D->Prop
 |nil:RDs K H [] []
 |cons {x:V}{xs:List V}{d:D}{ds:List D}:RD K H x d->RDs K H xs ds->RDs K H (x::xs) (d::ds)
inductive RDk (K:aa) (H:Hp):List (fg×V)->List (D×D)->Prop
 |nil:RDk K H [] []
 |cons {k:fg}{x:V}{xs:List (fg×V)}{d:D}{ds:List (D×D)}:RD K H x d->RDk K H xs ds->RDk K H ((k,x)::xs) ((kD k,d)::ds)
inductive RDt (K:aa) (H:Hp):List (List fg×V)->List (D×D)->Prop
 |nil:RDt K H [] []
 |cons {k:List fg}{x:V}{xs:List (List fg×V)}{d:D}{ds:List (D×D)}:RD K H x d->RDt K H xs ds->RDt K H ((k,x)::xs) ((tD k,d)::ds)
end
theorem RD.same (e:cK H H') (h:RD K H v d):RD K H' v d:=RD.rec (motive_1:=fun v d _=>RD K H' v d) (motive_2:=fun v d _=>RDs K H' v d) (motive_3:=fun v d _=>RDk K H' v d) (motive_4:=fun v d _=>RDt K H' v d) .none .bool .int .str (fun h _ r=>.list (e.seq h) r) (fun h _ r=>.tuple (e _ _ h) r) (fun h _ r=>.dictK (e _ _ h) r) (fun h n _ r=>.dictT (e _ _ h) n r) (fun h n _ r=>.dictF (e _ _ h) n r) (fun c h n _ r=>.desk c (e _ _ h) n r) .nil (fun _ _ a b=>.cons a b) .nil (fun _ _ a b=>.cons a b) .nil (fun _ _ a b=>.cons a b) h
theorem RDs.same (e:cK H H') (h:RDs K H v d):RDs K H' v d:=RDs.rec (motive_1:=fun v d _=>RD K H' v d) (motive_2:=fun v d _=>RDs K H' v d) (motive_3:=fun v d _=>RDk K H' v d) (motive_4:=fun v d _=>RDt K H' v d) .none .bool .int .str (fun h _ r=>.list (e.seq h) r) (fun h _ r=>.tuple (e _ _ h) r) (fun h _ r=>.dictK (e _ _ h) r) (fun h n _ r=>.dictT (e _ _ h) n r) (fun h n _ r=>.dictF (e _ _ h) n r) (fun c h n _ r=>.desk c (e _ _ h) n r) .nil (fun _ _ a b=>.cons a b) .nil (fun _ _ a b=>.cons a b) .nil (fun _ _ a b=>.cons a b) h
theorem RDk.same (e:cK H H') (h:RDk K H v d):RDk K H' v d:=RDk.rec (motive_1:=fun v d _=>RD K H' v d) (motive_2:=fun v d _=>RDs K H' v d) (motive_3:=fun v d _=>RDk K H' v d) (motive_4:=fun v d _=>RDt K H' v d) .none .bool .int .str (fun h _ r=>.list (e.seq h) r) (fun h _ r=>.tuple (e _ _ h) r) (fun h _ r=>.dictK (e _ _ h) r) (fun h n _ r=>.dictT (e _ _ h) n r) (fun h n _ r=>.dictF (e _ _ h) n r) (fun c h n _ r=>.desk c (e _ _ h) n r) .nil (fun _ _ a b=>.cons a b) .nil (fun _ _ a b=>.cons a b) .nil (fun _ _ a b=>.cons a b) h
theorem RDt.same (e:cK H H') (h:RDt K H v d):RDt K H' v d:=RDt.rec (motive_1:=fun v d _=>RD K H' v d) (motive_2:=fun v d _=>RDs K H' v d) (motive_3:=fun v d _=>RDk K H' v d) (motive_4:=fun v d _=>RDt K H' v d) .none .bool .int .str (fun h _ r=>.list (e.seq h) r) (fun h _ r=>.tuple (e _ _ h) r) (fun h _ r=>.dictK (e _ _ h) r) (fun h n _ r=>.dictT (e _ _ h) n r) (fun h n _ r=>.dictF (e _ _ h) n r) (fun c h n _ r=>.desk c (e _ _ h) n r) .nil (fun _ _ a b=>.cons a b) .nil (fun _ _ a b=>.cons a b) .nil (fun _ _ a b=>.cons a b) h
mutual
def wH:D->Bool
 |.dict _=>false
 |.list xs=>noDs xs
 |.tuple xs=>noDs xs
 |_=>true
def noDs:List D->Bool
 |[]=>true
 |x::r=>wH x&&noDs r
end
theorem Pn (h:(a&&b)=true):a=true:=(Bool.and_eq_true_iff.mp h).1
theorem Po (h:(a&&b)=true):b=true:=(Bool.and_eq_true_iff.mp h).2
theorem RD.rep (h:RD K H v d):wH d=true->Jb K H v d:=RD.rec (motive_1:=fun v d _=>wH d=true->Jb K H v d) (motive_2:=fun v d _=>noDs d=true->Reps K H v d) (motive_3:=fun _ _ _=>True) (motive_4:=fun _ _ _=>True) (fun _=>.none) (fun b _=>.bool b) (fun i _=>.int i) (fun x _=>.str x) (fun h _ r e=>.list h (r e)) (fun h _ r e=>.tuple (.of h) (r e)) (fun _ _ _ e=>jz e) (fun _ _ _ _ e=>jz e) (fun _ _ _ _ e=>jz e) (fun _ _ _ _ _ e=>jz e) (fun _=>.nil) (fun _ _ a b e=>.cons (a (Pn e)) (b (Po e))) trivial (fun _ _ _ _=>trivial) trivial (fun _ _ _ _=>trivial) h
theorem RDs.length:∀ {ds:List D},RDs K H vs ds->vs.length=ds.length:=by
 induction vs with
 |nil=>intro ds h;cases h;rfl
 |cons x r c=>intro ds h;cases h with|cons a b=>exact congrArg (· + 1) (c b)
theorem RDs.get:∀ {ds:List D}{i:Nat}{v:V},RDs K H vs ds->vs[i]?=some v->∃ d,ds[i]?=some d/\RD K H v d:=by
 induction vs with
 |nil=>intro ds i v _ e;cases e
 |cons x r c =>
  intro ds i v h e;cases h with
  |cons a b =>
   cases i with
   |zero=>cases e;exact ⟨_,rfl,a⟩
   |succ i=>have q:=c (i:=i) b e;exact q
theorem RDs.get':∀ {ds:List D}{i:Nat}{d:D},RDs K H vs ds->ds[i]?=some d->∃ v,vs[i]?=some v/\RD K H v d:=by
 induction vs with
 |nil=>intro ds i v h e;cases h;cases e
 |cons x r c =>
  intro ds i v h e;cases h with
  |cons a b =>
   cases i with
   |zero=>cases e;exact ⟨_,rfl,a⟩
   |succ i=>have q:=c (i:=i) b e;exact q
theorem RDs.append : ∀ {ds:List D},RDs K H vs ds->RDs K H ws es->RDs K H (vs++ws) (ds++es):=by
 induction vs with
 |nil=>intro ds h s;cases h;exact s
 |cons x r c=>intro ds h s;cases h with|cons a b=>exact .cons a (c b s)
theorem RDs.drop:∀ {ds:List D} (n:Nat),RDs K H vs ds->RDs K H (vs.drop n) (ds.drop n):=by
 induction vs with
 |nil=>intro ds n h;cases h;cases n<;>exact .nil
 |cons x r c =>
  intro ds n h;cases n with
  |zero=>exact h
  |succ n=>cases h with|cons a b=>exact c n b
theorem RDs.take:∀ {ds:List D} (n:Nat),RDs K H vs ds->RDs K H (vs.take n) (ds.take n):=by
 induction vs with
 |nil=>intro ds n h;cases h;cases n<;>exact .nil
 |cons x r c =>
  intro ds n h;cases n with
  |zero=>exact .nil
  |succ n=>cases h with|cons a b=>exact .cons a (c n b)
theorem As:∀ (a:List Str),RDs K H (a.map V.str) (a.map aE)
 |[]=>.nil
 |x::r=>.cons (.str x) (As r)
theorem RD.str_inv (h:RD K H v (.str x)):v=.str x:=by cases h;rfl
theorem RD.bool_inv (h:RD K H v (.bool x)):v=.bl x:=by cases h;rfl
theorem RD.int_inv (h:RD K H v (.int x)):v=.int x:=by cases h;rfl
theorem E9 {α:Type}{c:α->D}{k:α->V} (f:∀ {v x},RD K H v (c x)->v=k x) {d:List α}:∀ {vs:List V},RDs K H vs (d.map c)->vs=d.map k:=by
 induction d with
 |nil=>intro vs h;cases h;rfl
 |cons x r e=>intro vs h;cases h with|cons a b=>rw [f a,e b];rfl
theorem qD {a:List Str}{vs:List V}:RDs K H vs (a.map aE)->vs=a.map V.str:=E9 RD.str_inv
theorem BQ {a:List Bool}{vs:List V}:RDs K H vs (a.map cX)->vs=a.map V.bl:=E9 RD.bool_inv
theorem Ea {a:List Int}{vs:List V}:RDs K H vs (a.map bM)->vs=a.map V.int:=E9 RD.int_inv
def nt:HO->Bool
 |.tup _=>false
 |_=>true
structure cn (H Hs H' Hs':Hp):Prop where
 all:cK H H'
 sh:cK Hs Hs'
 sub:cK Hs' H'
 out:∀ a o,H a=some o->nt o=true->Hs a=none->Hs' a=none
theorem cn.refl (h:cK Hs H):cn H Hs H Hs:=⟨.refl _,.refl _,h,fun _ _ _ _ e=>e⟩
theorem cn.trans (a:cn H Hs H1 Hs1) (b:cn H1 Hs1 H2 Hs2):cn H Hs H2 Hs2 :=
 ⟨a.all.trans b.all,a.sh.trans b.sh,b.sub,fun c o e t n=>b.out c o (a.all c o e) t (a.out c o e t n)⟩
theorem cn.new (h:cK Hs H) (n:H p=none):cn H Hs (upd H p o) (upd Hs p o):=by
 have d:Hs p=none:=h.free n;refine ⟨jG n,jG d,fun b u e=>?_,fun a u e t z=>?_⟩
 ·by_cases c:b=p
  ·subst c;rw [aI] at e ⊢;exact e
  ·rw [aC c] at e ⊢;exact h b u e
 ·rw [aC (aK e n)];exact z
theorem cn.mine (h:cK Hs H) (n:H p=none):cn H Hs (upd H p o) Hs:=by
 refine ⟨jG n,.refl _,fun b u e=>?_,fun a u e t z=>z⟩;have c:=h b u e;rw [aC (aK c n)];exact c
inductive qF (K:aa) (Hs:Hp):HO->D->Prop
 |lst {vs:List V}{ds:List D}:RDs K Hs vs ds->qF K Hs (.lst vs) (.list ds)
 |dK {kvs:List (fg×V)}{ds:List (D×D)}:RDk K Hs kvs ds->qF K Hs (.dK kvs) (.dict ds)
 |dT {kvs:List (List fg×V)}{ds:List (D×D)}:kvs≠[]->RDt K Hs kvs ds->qF K Hs (.dT kvs) (.dict ds)
 |dF {o:Obj}{kvs:List (List fg×V)}{ds:List (D×D)}:kvs≠[]->RDt K Hs kvs ds->qF K Hs (.frz o (.dT kvs)) (.dict ((.none,.none)::ds))
theorem qF.same (e:cK Hs Hs') (h:qF K Hs o d):qF K Hs' o d:=by
 cases h with
 |lst r=>exact .lst (r.same e)
 |dK r=>exact .dK (r.same e)
 |dT n r=>exact .dT n (r.same e)
 |dF n r=>exact .dF n (r.same e)
theorem qF.nt (h:qF K Hs o d):J.nt o=true:=by cases h<;>rfl
theorem qF.share (n:Hs a=none) (h:qF K Hs o d):RD K (upd Hs a o) (.ref a) d:=by
 have e:cK Hs (upd Hs a o):=jG n;cases h with
 |lst r=>exact .list (.of aI) (r.same e)
 |dK r=>exact .dictK aI (r.same e)
 |dT n r=>exact .dictT aI n (r.same e)
 |dF n r=>exact .dictF aI n (r.same e)
inductive Sl where
 |no
 |shr (d:D)
 |own (d:D)
 |lck (d:D)
 |ow2 (dss:List (List D))
abbrev aB:=List Sl
inductive CI (K:aa) (H Hs:Hp):List af->List (List D)->Prop
 |nil:CI K H Hs [] []
 |cons {a:af}{as:List af}{vs:List V}{ds:List D}{dss:List (List D)}:H a=some (.lst vs)->RDs K Hs vs ds->CI K H Hs as dss->CI K H Hs (a::as) (ds::dss)
theorem CI.step (e:cK H H') (a:cK Hs Hs') (h:CI K H Hs as dss):CI K H' Hs' as dss:=by
 induction h with
 |nil=>exact .nil
 |cons h r t b=>exact .cons (e _ _ h) (r.same a) b
theorem CI.upd (n:b∉as) (h:CI K H Hs as dss):CI K (upd H b o) Hs as dss:=by
 induction h with
 |nil=>exact .nil
 |cons h r t a=>exact .cons (by rw [aC (fun z=>n (by rw [<- z];exact au))];exact h) r (a fun z=>n (aq _ z))
theorem CI.there (h:CI K H Hs as dss) (hb:b∈as):∃ o,H b=some o/\nt o=true:=by
 induction h with
 |nil=>cases hb
 |cons h r t a =>
  rcases List.mem_cons.mp hb with e|hb
  ·exact ⟨_,e ▸ h,rfl⟩
  ·exact a hb
structure O2 (K:aa) (H0 H Hs:Hp) (ρ:aB) (σ:St) (i:Nat) (dss:List (List D)) (a:af) (as:List af):Prop where
 at_:σ[i]?=some (some (V.ref a))
 ob:H a=some (.lst (as.map V.ref))
 nd:(a::as).Nodup
 out:∀ b∈a::as,Hs b=none/\H0 b=none
 dj:∀ b∈a::as,∀ (j:Nat) (e:D),ρ[j]?=some (Sl.own e)->σ[j]?≠some (some (V.ref b))
 inn:CI K H Hs as dss
structure Fr (K:aa) (H0 Hs0:Hp) (la:Nat->Option af) (ρ:aB) (σ:St) (H Hs:Hp):Prop where
 st:cn H0 Hs0 H Hs
 len:ρ.length=σ.length
 sh:∀ (i:Nat) (d:D),ρ[i]?=some (Sl.shr d)->∃ v,σ[i]?=some (some v)/\RD K Hs v d
 ow:∀ (i:Nat) (d:D),ρ[i]?=some (Sl.own d)->∃ a o,σ[i]?=some (some (V.ref a))/\H a=some o/\Hs a=none/\H0 a=none/\qF K Hs o d
 lk:∀ (i:Nat) (d:D),ρ[i]?=some (Sl.lck d)->∃ a o,σ[i]?=some (some (V.ref a))/\la i=some a/\H a=some o/\Hs a=none/\H0 a=some o/\qF K Hs o d
 dj:∀ (i j:Nat) (d e:D) (a:af),ρ[i]?=some (Sl.own d)->ρ[j]?=some (Sl.own e)->σ[i]?=some (some (V.ref a))->σ[j]?=some (some (V.ref a))->i=j
 lh:∀ (i:Nat) (a:af),la i=some a->∃ o,H0 a=some o
 o2:∀ (i:Nat) (dss:List (List D)),ρ[i]?=some (Sl.ow2 dss)->∃ a as,O2 K H0 H Hs ρ σ i dss a as
 u2:∀ (i j:Nat) (d e:List (List D)),ρ[i]?=some (Sl.ow2 d)->ρ[j]?=some (Sl.ow2 e)->i=j
theorem Fr.step (f:Fr K H0 Hs0 la ρ σ H Hs) (s:cn H Hs H' Hs'):Fr K H0 Hs0 la ρ σ H' Hs':=by
 refine ⟨f.st.trans s,f.len,fun i d e=>?_,fun i d e=>?_,fun i d e=>?_,f.dj,f.lh,fun i l e=>?_,f.u2⟩
 ·obtain ⟨v,g,c⟩:=f.sh i d e;exact ⟨v,g,c.same s.sh⟩
 ·obtain ⟨a,o,g,c,j,m,k⟩:=f.ow i d e;exact ⟨a,o,g,s.all _ _ c,s.out _ _ c k.nt j,m,k.same s.sh⟩
 ·obtain ⟨a,o,g,c,j,m,k,n⟩:=f.lk i d e;exact ⟨a,o,g,c,s.all _ _ j,s.out _ _ j n.nt m,k,n.same s.sh⟩
 ·obtain ⟨a,q,h⟩:=f.o2 i l e;refine ⟨a,q,h.at_,s.all _ _ h.ob,h.nd,fun b hb=>⟨?_,(h.out b hb).2⟩,h.dj,h.inn.step s.all s.sh⟩;have there:∃ o,H b=some o/\nt o=true:=by
   rcases List.mem_cons.mp hb with rfl|hb
   ·exact ⟨_,h.ob,rfl⟩
   ·exact h.inn.there hb
  obtain ⟨o,ho,p⟩:=there;exact s.out b o ho p (h.out b (by assumption)).1
inductive YF (K:aa) (H Hs:Hp) (v:V) (d:D):Prop
 |mk (a:af) (o:HO) (h0:v=.ref a) (h1:H a=some o) (h2:Hs a=none) (h3:qF K Hs o d):YF K H Hs v d
def RB (K:aa) (H a:Hp) (v:V) (d:D):Prop:=RD K a v d\/YF K H a v d
theorem RB.step (h:RB K H Hs v d) (s:cn H Hs H' Hs'):RB K H' Hs' v d:=by
 rcases h with h|⟨a,o,h1,h2,h3,h4⟩
 ·exact .inl (h.same s.sh)
 ·exact .inr ⟨a,o,h1,s.all _ _ h2,s.out _ _ h2 h4.nt h3,h4.same s.sh⟩
theorem RB.full (sub:cK Hs H) (h:RB K H Hs v d):RD K H v d:=by
 rcases h with h|⟨a,o,rfl,h2,h3,h4⟩
 ·exact h.same sub
 ·have e:cK (upd Hs a o) H:=fun b u q=>by
   by_cases c:b=a
   ·subst c;rw [aI] at q;cases q;exact h2
   ·rw [aC c] at q;exact sub b u q
  exact (h4.share h3).same e
theorem RB.list (sub:cK Hs H) (h:RB K H Hs v (.list ds)):∃ a vs,v=.ref a/\pC K H a vs/\RDs K Hs vs ds:=by
 rcases h with h|⟨a,o,rfl,h2,h3,h4⟩
 ·cases h with|list q r=>exact ⟨_,_,rfl,sub.seq q,r⟩
 ·cases h4 with|lst r=>exact ⟨a,_,rfl,.of h2,r⟩
theorem RB.tuple (sub:cK Hs H) (h:RB K H Hs v (.tuple ds)):∃ a vs,v=.ref a/\lz K H a vs/\RDs K Hs vs ds/\Hs a=some (.tup vs):=by
 rcases h with h|⟨a,o,rfl,h2,h3,h4⟩
 ·cases h with|tuple q r=>exact ⟨_,_,rfl,.of (sub _ _ q),r,q⟩
 ·cases h4
theorem RB.str (h:RB K H Hs v (.str x)):v=.str x:=by
 rcases h with h|⟨a,o,rfl,h2,h3,h4⟩
 ·exact h.str_inv
 ·cases h4
theorem RB.int (h:RB K H Hs v (.int i)):v=.int i:=by
 rcases h with h|⟨a,o,rfl,h2,h3,h4⟩
 ·exact h.int_inv
 ·cases h4
theorem RB.non (h:RB K H Hs v .none):v=.non:=by
 rcases h with h|⟨a,o,rfl,h2,h3,h4⟩
 ·cases h;rfl
 ·cases h4
def XW (K:aa) (cls:Str->af) (E:XK) (c:Str) (n:Option D) (H b:Hp):Prop:=match n with
 |none=>E (.ref (cls c)) none H
 |some d=>∀ a v,H a=some (.xd [("number",v)])->RD K b v d->E (.ref (cls c)) (some a) H
def Fin {α:Type} (K:aa) (cls:Str->af) (E:XK) (H b:Hp) (r:R α) (q:α->Prop):Prop:=match r with
 |.ok d=>q d
 |.ex c n=>∀ H' a,cn H b H' a->XW K cls E c n H' a
 |.no=>False
inductive TRI (K:aa) (cls:Str->af) (E:XK) (ρ:aB) (r:R D) (σ:St) (H:Hp) (Q:VK):Prop
 |mk (H0 Hs0:Hp) (la:Nat->Option af) (Hs:Hp) (f:Fr K H0 Hs0 la ρ σ H Hs) (q:Fin K cls E H Hs r fun d=>∀ v H' Hs',cn H Hs H' Hs'->RD K Hs' v d->Q v H'):TRI K cls E ρ r σ H Q
def TR (K:aa) (cls:Str->af) (E:XK) (ρ:aB) (r:R D):TE:=TRI K cls E ρ r
inductive TBI (K:aa) (cls:Str->af) (E:XK) (ρ:aB) (r:R D) (σ:St) (H:Hp) (Q:VK):Prop
 |mk (H0 Hs0:Hp) (la:Nat->Option af) (Hs:Hp) (f:Fr K H0 Hs0 la ρ σ H Hs) (q:Fin K cls E H Hs r fun d=>∀ v H' Hs',cn H Hs H' Hs'->RB K H' Hs' v d->Q v H'):TBI K cls E ρ r σ H Q
def TB (K:aa) (cls:Str->af) (E:XK) (ρ:aB) (r:R D):TE:=TBI K cls E ρ r
inductive YG (K:aa) (cls:Str->af) (E:XK) (ρ:aB) (r:R Bool) (σ:St) (H:Hp) (Q:Bool->Hp->Prop):Prop
 |mk (H0 Hs0:Hp) (la:Nat->Option af) (Hs:Hp) (f:Fr K H0 Hs0 la ρ σ H Hs) (q:Fin K cls E H Hs r fun b=>∀ H' Hs',cn H Hs H' Hs'->Q b H'):YG K cls E ρ r σ H Q
def ML (K:aa) (cls:Str->af) (E:XK) (ρ:aB) (r:R Bool):TT:=YG K cls E ρ r
inductive RV (K:aa) (H Hs:Hp):List V->List D->Prop
 |nil:RV K H Hs [] []
 |cons {x:V}{xs:List V}{d:D}{ds:List D}:RB K H Hs x d->RV K H Hs xs ds->RV K H Hs (x::xs) (d::ds)
inductive YH (K:aa) (cls:Str->af) (E:XK) (ρ:aB) (r:R (List D)) (σ:St) (H:Hp) (Q:List V->Hp->Prop):Prop
 |mk (H0 Hs0:Hp) (la:Nat->Option af) (Hs:Hp) (f:Fr K H0 Hs0 la ρ σ H Hs) (q:Fin K cls E H Hs r fun d=>∀ v H' Hs',cn H Hs H' Hs'->RDs K Hs' v d->Q v H'):YH K cls E ρ r σ H Q
def TAs (K:aa) (cls:Str->af) (E:XK) (ρ:aB) (r:R (List D)):TA:=YH K cls E ρ r
inductive YI (K:aa) (cls:Str->af) (E:XK) (ρ:aB) (r:R (List D)) (σ:St) (H:Hp) (Q:List V->Hp->Prop):Prop
 |mk (H0 Hs0:Hp) (la:Nat->Option af) (Hs:Hp) (f:Fr K H0 Hs0 la ρ σ H Hs) (q:Fin K cls E H Hs r fun d=>∀ v H' Hs',cn H Hs H' Hs'->RV K H' Hs' v d->Q v H'):YI K cls E ρ r σ H Q
def TBs (K:aa) (cls:Str->af) (E:XK) (ρ:aB) (r:R (List D)):TA:=YI K cls E ρ r
structure C where
 X:Cx
 cls:Str->af
 E:XK
structure JE (c:C) (e:bc) (g:aB->R D):Prop where of ::
 run:∀ ρ,PE c.X e (TR c.X.K c.cls c.E ρ (g ρ))
instance {c:C}{e:bc}{g:aB->R D}:CoeFun (JE c e g) (fun _=>∀ ρ,PE c.X e (TR c.X.K c.cls c.E ρ (g ρ))):=⟨JE.run⟩
structure JB (c:C) (e:bc) (g:aB->R D):Prop where of ::
 run:∀ ρ,PE c.X e (TB c.X.K c.cls c.E ρ (g ρ))
instance {c:C}{e:bc}{g:aB->R D}:CoeFun (JB c e g) (fun _=>∀ ρ,PE c.X e (TB c.X.K c.cls c.E ρ (g ρ))):=⟨JB.run⟩
structure JT (c:C) (e:bc) (g:aB->R Bool):Prop where of ::
 run:∀ ρ,PT c.X e (ML c.X.K c.cls c.E ρ (g ρ))
instance {c:C}{e:bc}{g:aB->R Bool}:CoeFun (JT c e g) (fun _=>∀ ρ,PT c.X e (ML c.X.K c.cls c.E ρ (g ρ))):=⟨JT.run⟩
structure JW (c:C) (e:bc) (g:aB->R Bool):Prop where of ::
 run:∀ ρ,PW c.X e (ML c.X.K c.cls c.E ρ (g ρ))
instance {c:C}{e:bc}{g:aB->R Bool}:CoeFun (JW c e g) (fun _=>∀ ρ,PW c.X e (ML c.X.K c.cls c.E ρ (g ρ))):=⟨JW.run⟩
structure HV (c:C) (es:List bc) (g:aB->R (List D)):Prop where of ::
 run:∀ ρ,PA c.X es (TAs c.X.K c.cls c.E ρ (g ρ))
instance {c:C}{es:List bc}{g:aB->R (List D)}:CoeFun (HV c es g) (fun _=>∀ ρ,PA c.X es (TAs c.X.K c.cls c.E ρ (g ρ))):=⟨HV.run⟩
structure Tf (c:C) (es:List bc) (g:aB->R (List D)):Prop where of ::
 run:∀ ρ,PA c.X es (TBs c.X.K c.cls c.E ρ (g ρ))
instance {c:C}{es:List bc}{g:aB->R (List D)}:CoeFun (Tf c es g) (fun _=>∀ ρ,PA c.X es (TBs c.X.K c.cls c.E ρ (g ρ))):=⟨Tf.run⟩
theorem ni (h:PE X e t) (m:∀ σ H Q,t' σ H Q->t σ H Q):PE X e t':=fun a s σ H Q I q=>h a s σ H Q I (m σ H Q q)
theorem Tg (h:PT X e t) (m:∀ σ H Q,t' σ H Q->t σ H Q):PT X e t':=fun a s σ H Q I q=>h a s σ H Q I (m σ H Q q)
theorem mPW (h:PW X e t) (m:∀ σ H Q,t' σ H Q->t σ H Q):PW X e t':=fun b a s σ H Q I q=>h b a s σ H Q I (m σ H Q q)
theorem mPA {X:Cx}{e:List bc}{t t':TA} (h:PA X e t) (m:∀ σ H Q,t' σ H Q->t σ H Q):PA X e t':=fun b a s σ H Q I q=>h b a s σ H Q I (m σ H Q q)
theorem wI {X:Cx}{e:c9}{t t':TS} (h:PS X e t) (m:∀ D σ H,t' D σ H->t D σ H):PS X e t':=fun a s σ H Q I q=>h a s σ H Q I (m Q σ H q)
theorem WV {X:Cx}{e:List c9}{t t':TS} (h:zw X e t) (m:∀ D σ H,t' D σ H->t D σ H):zw X e t':=fun a s σ H Q I q=>h a s σ H Q I (m Q σ H q)
theorem JE.bor (h:JE c e g):JB c e g:=.of fun ρ=>ni (h ρ) fun σ H Q ⟨k,b,l,j,f,q⟩=>⟨k,b,l,j,f,by
 cases a:g ρ with
 |ok d=>rw [a] at q;exact fun v H' i s r=>q v H' i s (.inl r)
 |ex c n=>rw [a] at q;exact q
 |no=>rw [a] at q;exact q⟩
theorem one {K:aa}{cls:Str->af}{E:XK}{ρ:aB}{r:R D}{j:Type}{k:D->R j}{σ:St}{H:Hp}{g b e:Hp}{i:Nat->Option af}{Q:V->Hp->Prop}{q:j->Prop} (f:Fr K g b i ρ σ H e)
  (h:Fin K cls E H e (r.bind k) q) (m:∀ d v H' a,r=.ok d->cn H e H' a->Fr K g b i ρ σ H' a->RB K H' a v d->Q v H'):TB K cls E ρ r σ H Q:=by
 refine ⟨g,b,i,e,f,?_⟩;cases r with
 |ok d=>exact fun v H' a s r=>m d v H' a rfl s (f.step s) r
 |ex c n=>exact h
 |no=>exact h
theorem zb {K:aa}{cls:Str->af}{E:XK}{ρ:aB}{r:R D}{j:Type}{k:D->R j}{σ:St}{H:Hp}{g b e:Hp}{i:Nat->Option af}{Q:V->Hp->Prop}{q:j->Prop} (f:Fr K g b i ρ σ H e)
  (h:Fin K cls E H e (r.bind k) q) (m:∀ d v H' a,r=.ok d->cn H e H' a->Fr K g b i ρ σ H' a->RD K a v d->Q v H'):TR K cls E ρ r σ H Q:=by
 refine ⟨g,b,i,e,f,?_⟩;cases r with
 |ok d=>exact fun v H' a s r=>m d v H' a rfl s (f.step s) r
 |ex c n=>exact h
 |no=>exact h
theorem Pp {K:aa}{cls:Str->af}{E:XK}{ρ:aB}{r:R Bool}{j:Type}{k:Bool->R j}{σ:St}{H:Hp}{g b e:Hp}{i:Nat->Option af}{Q:Bool->Hp->Prop}{q:j->Prop} (f:Fr K g b i ρ σ H e)
  (h:Fin K cls E H e (r.bind k) q) (m:∀ d H' a,r=.ok d->cn H e H' a->Fr K g b i ρ σ H' a->Q d H'):ML K cls E ρ r σ H Q:=by
 refine ⟨g,b,i,e,f,?_⟩;cases r with
 |ok d=>exact fun H' a s=>m d H' a rfl s (f.step s)
 |ex c n=>exact h
 |no=>exact h
theorem G6 {K:aa}{cls:Str->af}{E:XK}{ρ:aB}{r:R (List D)}{j:Type}{k:List D->R j}{σ:St}{H:Hp}{g b e:Hp}{i:Nat->Option af}{Q:List V->Hp->Prop}{q:j->Prop} (f:Fr K g b i ρ σ H e)
  (h:Fin K cls E H e (r.bind k) q) (m:∀ d v H' a,r=.ok d->cn H e H' a->Fr K g b i ρ σ H' a->RDs K a v d->Q v H'):TAs K cls E ρ r σ H Q:=by
 refine ⟨g,b,i,e,f,?_⟩;cases r with
 |ok d=>exact fun v H' a s r=>m d v H' a rfl s (f.step s) r
 |ex c n=>exact h
 |no=>exact h
theorem KO {K:aa}{cls:Str->af}{E:XK}{ρ:aB}{r:R (List D)}{j:Type}{k:List D->R j}{σ:St}{H:Hp}{g b e:Hp}{i:Nat->Option af}{Q:List V->Hp->Prop}{q:j->Prop} (f:Fr K g b i ρ σ H e)
  (h:Fin K cls E H e (r.bind k) q) (m:∀ d v H' a,r=.ok d->cn H e H' a->Fr K g b i ρ σ H' a->RV K H' a v d->Q v H'):TBs K cls E ρ r σ H Q:=by
 refine ⟨g,b,i,e,f,?_⟩;cases r with
 |ok d=>exact fun v H' a s r=>m d v H' a rfl s (f.step s) r
 |ex c n=>exact h
 |no=>exact h
theorem Fin.on {α:Type}{K:aa}{cls:Str->af}{E:XK}{H e H' b:Hp}{r:R α}{q q':α->Prop} (h:Fin K cls E H e r q) (s:cn H e H' b) (m:∀ a,q a->q' a):Fin K cls E H' b r q':=by
 cases r with
 |ok a=>exact m a h
 |ex c n=>exact fun f d g=>h f d (s.trans g)
 |no=>exact h
def Jf (ρ:aB) (i:Nat):R D:=match ρ[i]? with
 |some (Sl.shr d)=>.ok d
 |_=>.no
def HW (ρ:aB) (i:Nat):R D:=match ρ[i]? with
 |some (Sl.shr d)=>.ok d
 |some (Sl.own d)=>.ok d
 |some (Sl.lck d)=>.ok d
 |_=>.no
section
variable {c:C}{e a b:bc}{g ga gb:aB->R D}{pos:Pos}
theorem ap (i:Nat) (l:c.X.N[i]?=some x:=by rfl) (t:BH c.X.env.scope x:=by first|exact c8 rfl|exact bC (c8 rfl)|exact bC (bC rfl)) (o:(x==("__debug__" : Str))=false:=by decide)
  (k:(x==("__classdict__" : Str))=false:=by decide):JE c (.Name x pos) (fun ρ=>Jf ρ i):=.of fun ρ=>ni (hV l t o k) fun σ H Q j=>by
 obtain ⟨w,u,y,n,f,q⟩:=j;cases h:ρ[i]? with
 |none=>simp only [Jf,h] at q;exact q.elim
 |some s =>
  cases s with
  |shr d =>
   obtain ⟨v,m,p⟩:=f.sh i d h;simp only [Jf,h] at q;exact ⟨v,m,q v H n (.refl f.st.sub) p⟩
  |no=>simp only [Jf,h] at q;exact q.elim
  |own d=>simp only [Jf,h] at q;exact q.elim
  |lck d=>simp only [Jf,h] at q;exact q.elim
  |ow2 d=>simp only [Jf,h] at q;exact q.elim
theorem al (i:Nat) (w:c.X.N[i]?=some x:=by rfl) (A:BH c.X.env.scope x:=by first|exact c8 rfl|exact bC (c8 rfl)|exact bC (bC rfl)) (z:(x==("__debug__" : Str))=false:=by decide)
  (m:(x==("__classdict__" : Str))=false:=by decide):JB c (.Name x pos) (fun ρ=>HW ρ i):=.of fun ρ=>ni (hV w A z m) fun σ H Q p=>by
 obtain ⟨E,B,G,l,f,q⟩:=p;cases h:ρ[i]? with
 |none=>simp only [HW,h] at q;exact q.elim
 |some s =>
  cases s with
  |shr d =>
   obtain ⟨v,j,k⟩:=f.sh i d h;simp only [HW,h] at q;exact ⟨v,j,q v H l (.refl f.st.sub) (.inl k)⟩
  |no=>simp only [HW,h] at q;exact q.elim
  |own d =>
   obtain ⟨a,o,j,k,n,t,u⟩:=f.ow i d h;simp only [HW,h] at q;exact ⟨_,j,q _ H l (.refl f.st.sub) (.inr ⟨a,o,rfl,k,n,u⟩)⟩
  |lck d =>
   obtain ⟨a,o,j,k,n,t,u,y⟩:=f.lk i d h;simp only [HW,h] at q;exact ⟨_,j,q _ H l (.refl f.st.sub) (.inr ⟨a,o,rfl,n,t,y⟩)⟩
  |ow2 d=>simp only [HW,h] at q;exact q.elim
theorem sD (h:PE c.X e (tC v)) (r:∀ i,RD c.X.K i v d):JE c e (fun _=>.ok d):=.of fun ρ=>ni h fun σ H Q j=>by obtain ⟨l,k,m,i,f,q⟩:=j;exact q v H i (.refl f.st.sub) (r i)
theorem az : JE c (.Constant (.int i) j pos) (fun _=>.ok (.int i)):=sD Og fun _=>.int i
theorem lN : JE c (.Constant (.bool i) j pos) (fun _=>.ok (.bool i)):=sD Oh fun _=>.bool i
theorem sF:JE c (.Constant .none j pos) (fun _=>.ok .none):=sD Oi fun _=>.none
theorem mf : JE c (.Constant (.str i) j pos) (fun _=>.ok (.str i)):=sD Oj fun _=>.str i
theorem wJ (f:Gl c.X x) (d:∃ t,c.X.mg x=some (.int i t)) (h:(x==("__debug__" : Str))=false:=by decide):JE c (.Name x pos) (fun _=>.ok (.int i)):=by
 obtain ⟨t,d⟩:=d;exact sD (Ku f d (v:=.int i) ⟨t,rfl⟩ h) fun _=>.int i
inductive rDI (K:aa) (h:D->D->R D) (x:V) (y:V) (H:Hp) (Q:VK):Prop
 |mk (Hs dx dy:_) (h0:cK Hs H) (h1:RB K H Hs x dx) (h2:RB K H Hs y dy) (h3:∃ d,h dx dy=.ok d/\∀ v H' Hs',cn H Hs H' Hs'->RD K Hs' v d->Q v H'):rDI K h x y H Q
def rD (K:aa) (h:D->D->R D):R2:=rDI K h
def x_ (X:Cx) (f:ae->ae->Sem ae) (h:D->D->R D):Prop:=qu X f (rD X.K h)/\∀ x y c n,h x y≠.ex c n
def g2 (ga gb:aB->R D) (h:D->D->R D):aB->R D:=fun ρ=>(ga ρ).bind fun x=>(gb ρ).bind fun y=>h x y
theorem two (L:∀ x y c n,h x y≠.ex c n) (q:TR K cls E ρ (g2 ga gb h ρ) σ H Q):XS (rD K h) (TB K cls E ρ (ga ρ)) (TB K cls E ρ (gb ρ)) σ H Q:=by
 obtain ⟨S,M,U,P,f,q⟩:=q;refine one f q fun x v O p z l t A=>?_;unfold g2 at q;rw [z,bind_ok] at q;refine one t (q.on l (q':=fun _=>True) fun _ _=>trivial) fun y u T k N m o G=>?_;rw [N,bind_ok] at q;cases i:h x y with
 |ok d =>
  rw [i] at q;exact ⟨k,x,y,o.st.sub,A.step m,G,d,i,fun w s j B I=>q w s j (l.trans (m.trans B)) I⟩
 |ex c n=>exact (L x y c n i).elim
 |no=>rw [i] at q;exact q.elim
theorem bP (ho:x_ c.X (fG op) h) (d:JB c a ga) (f:JB c b gb):JE c (.BinOp a op b pos) (g2 ga gb h):=.of fun ρ=>ni (V1 ho.1 (d ρ) (f ρ)) fun σ H Q q=>two ho.2 q
theorem sG (ho:x_ c.X (bK op) h) (f:JB c a ga) (i:JB c b gb) (d:fD op b=false:=by first|exact zZ _|rfl):JE c (.Compare a [op] [b] pos) (g2 ga gb h):=.of fun ρ=>ni (Kx ho.1 (f ρ) (i ρ) d) fun σ H Q q=>two ho.2 q
def eT (g:aB->R D):aB->R Bool:=fun ρ=>(g ρ).bind fun d=>match d with
 |.bool b=>.ok b
 |_=>.no
theorem YJ (q:ML K cls E ρ (eT g ρ) σ H Q):TR K cls E ρ (g ρ) σ H fun x H'=>∃ k,x=.bl k/\Q k H':=by
 obtain ⟨s,n,t,p,f,q⟩:=q;refine zb f q fun d v j h l i o m=>?_;unfold eT at q;rw [l,bind_ok] at q;cases m with
 |bool b=>exact ⟨b,rfl,q j h i⟩
 |_=>exact q.elim
theorem cA (ho:x_ c.X (bK op) h) (f:JB c a ga) (i:JB c b gb) (d:fD op b=false:=by first|exact zZ _|rfl):JT c (.Compare a [op] [b] pos) (eT (g2 ga gb h)):=.of fun ρ=>Tg (DO ho.1 (f ρ) (i ρ) d) fun σ H Q q=>two ho.2 (YJ q)
theorem hZ (h:JE c e g) (he:∀ d,xD e c.X.env d=(do let v <- d;j3 e.pos;kg [v] (N_ v)):=by intro _;rfl):JT c e (eT g):=.of fun ρ=>Tg (IF (h ρ) he) fun σ H Q q=>YJ q
def jH (g:aB->R Bool):aB->R Bool:=fun ρ=>(g ρ).bind fun b=>.ok (!b)
def oY (g h:aB->R Bool):aB->R Bool:=fun ρ=>(g ρ).bind fun b=>if b then h ρ else .ok false
def y0 (g h:aB->R Bool):aB->R Bool:=fun ρ=>(g ρ).bind fun b=>if b then .ok true else h ρ
variable {gt gu:aB->R Bool}{bU:List bc}
theorem gz (h:JT c e gt):JT c (.UnaryOp .Not e pos) (jH gt):=.of fun ρ=>Tg (IG (h ρ)) fun σ H Q q=>by
 obtain ⟨o,m,s,p,f,q⟩:=q;refine Pp f q fun d k i l j n=>?_;unfold jH at q;rw [l,bind_ok] at q;exact q k i j
theorem og (h:JT c a gt):JW c (.BoolOp .And [a] pos) gt:=.of fun ρ=>Sq (h ρ)
theorem mh (h:JT c a gt):JW c (.BoolOp .Or [a] pos) gt:=.of fun ρ=>Om (h ρ)
theorem sH (h:JT c a gt) (v:JW c (.BoolOp .And (b::bU) pos) gu):JW c (.BoolOp .And (a::b::bU) pos) (oY gt gu):=.of fun ρ=>mPW (W9 (h ρ) (v ρ)) fun σ H Q q=>by
 obtain ⟨o,m,w,x,f,q⟩:=q;refine Pp f q fun d n i t j p=>?_;unfold oY at q;rw [t,bind_ok] at q;cases d with
 |true=>exact DV ⟨o,m,w,i,p,q.on j fun b k s l u=>k s l (j.trans u)⟩
 |false=>exact Ac (q n i j)
theorem pQ (h:JT c a gt) (v:JW c (.BoolOp .Or (b::bU) pos) gu):JW c (.BoolOp .Or (a::b::bU) pos) (y0 gt gu):=.of fun ρ=>mPW (UY (h ρ) (v ρ)) fun σ H Q q=>by
 obtain ⟨o,m,w,x,f,q⟩:=q;refine Pp f q fun d n i t j p=>?_;unfold y0 at q;rw [t,bind_ok] at q;cases d with
 |false=>exact Ac ⟨o,m,w,i,p,q.on j fun b k s l u=>k s l (j.trans u)⟩
 |true=>exact DV (q n i j)
theorem JW.t (h:JW c e gt):JT c e gt:=.of fun ρ=>(h ρ).pt
def G7 (g:aB->R D):aB->R D:=fun ρ=>(eT g ρ).bind fun b=>.ok (.bool (!b))
theorem Pq (h:JE c e g):JE c (.UnaryOp .Not e pos) (G7 g):=.of fun ρ=>ni (Wc (h ρ)) fun σ H Q q=>by
 refine YJ ?_;obtain ⟨o,m,s,p,f,q⟩:=q;refine Pp f q fun d k i l j n=>?_;unfold G7 at q;rw [l,bind_ok] at q;exact q _ k i j (.bool _)
def At (g h:aB->R D):aB->R D:=fun ρ=>(eT g ρ).bind fun b=>if b then h ρ else .ok (.bool false)
theorem Eb (h:JE c a g):JE c (.BoolOp op [a] pos) g:=.of fun ρ=>Wa (h ρ)
theorem Ec (h:JE c a ga) (w:JE c (.BoolOp .And (b::bU) pos) gb):JE c (.BoolOp .And (a::b::bU) pos) (At ga gb):=.of fun ρ=>ni (Wb (h ρ) (w ρ)) fun σ H Q q=>by
 refine YJ ?_;obtain ⟨o,m,y,z,f,q⟩:=q;refine Pp f q fun d n i t j p=>?_;unfold At at q;rw [t,bind_ok] at q;cases d with
 |true=>exact DV ⟨o,m,y,i,p,q.on j fun b k v s l u x=>k v s l (j.trans u) x⟩
 |false=>exact Ac (q _ n i j (.bool _))
def sI (ga gb d:aB->R D) (h h':D->D->R D):aB->R D:=fun ρ=>(ga ρ).bind fun x=>(gb ρ).bind fun y=>(h x y).bind fun z=>match z with
 |.bool true=>(d ρ).bind fun w=>h' y w
 |.bool false=>.ok (.bool false)
 |_=>.no
def ah (g:aB->R D) (f:aB->R (List D)):aB->R (List D):=fun ρ=>(g ρ).bind fun d=>(f ρ).bind fun ds=>.ok (d::ds)
def aN:aB->R (List D):=fun _=>.ok []
theorem aO:HV c [] aN:=.of fun ρ=>mPA cQ fun σ H Q d=>by obtain ⟨j,i,k,h,f,q⟩:=d;exact q [] H h (.refl f.st.sub) .nil
theorem c6:Tf c [] aN:=.of fun ρ=>mPA cQ fun σ H Q d=>by obtain ⟨j,i,k,h,f,q⟩:=d;exact q [] H h (.refl f.st.sub) .nil
theorem aj (h:JE c e g) (m:HV c es gs) (hs:ao (e::es) c.X.env=(false,bG e c.X.env)::ao es c.X.env:=by rfl):HV c (e::es) (ah g gs):=.of fun ρ=>mPA (bv (h ρ) (m ρ) hs) fun σ H Q i=>by
 obtain ⟨A,w,E,z,f,q⟩:=i;refine zb f q fun d v y n s k o t=>?_;unfold ah at q;rw [s,bind_ok] at q;refine G6 o (q.on k (q':=fun _=>True) fun _ _=>trivial) fun ds vs p j x l B u=>?_;rw [x,bind_ok] at q;exact q _ p j (k.trans l) (.cons (t.same l.sh) u)
theorem bE (h:JB c e g) (m:Tf c es gs) (hs:ao (e::es) c.X.env=(false,bG e c.X.env)::ao es c.X.env:=by rfl):Tf c (e::es) (ah g gs):=.of fun ρ=>mPA (bv (h ρ) (m ρ) hs) fun σ H Q i=>by
 obtain ⟨A,w,E,z,f,q⟩:=i;refine one f q fun d v y n s k o t=>?_;unfold ah at q;rw [s,bind_ok] at q;refine KO o (q.on k (q':=fun _=>True) fun _ _=>trivial) fun ds vs p j x l B u=>?_;rw [x,bind_ok] at q;exact q _ p j (k.trans l) (.cons (t.step l) u)
def fj (d:aB->R (List D)) (k:List D->D):aB->R D:=fun ρ=>(d ρ).bind fun ds=>if ds.length<=1000 then .ok (k ds) else .no
theorem mi {x1} (h:HV c es gs):JE c (.Tuple es x1 pos) (fj gs .tuple):=.of fun ρ=>ni (IU (h ρ)) fun σ H Q d=>by
 obtain ⟨v,s,w,u,f,q⟩:=d;refine G6 f q fun ds vs t n o m j k=>?_;unfold fj at q;rw [o,bind_ok] at q;by_cases i:ds.length<=1000
 ·rw [if_pos i] at q;refine ⟨bt (bZ (by rw [k.length];exact i)),fun p l=>q _ _ _ (m.trans (.new j.st.sub l)) (.tuple aI (k.same (cn.new j.st.sub l).sh))⟩
 ·rw [if_neg i] at q;exact q.elim
theorem jR (h:HV c es gs):JE c (.List es pos) (fj gs .list):=.of fun ρ=>ni (jv (h ρ)) fun σ H Q d=>by
 obtain ⟨v,s,w,u,f,q⟩:=d;refine G6 f q fun ds vs t n o m j k=>?_;unfold fj at q;rw [o,bind_ok] at q;by_cases i:ds.length<=1000
 ·rw [if_pos i] at q;refine ⟨bt (bZ (by rw [k.length];exact i)),fun p l=>q _ _ _ (m.trans (.new j.st.sub l)) (.list (.of aI) (k.same (cn.new j.st.sub l).sh))⟩
 ·rw [if_neg i] at q;exact q.elim
end
end J
namespace J
open PySem PySem.Spec PyProof.Rows L2
def dI:D->D->R D
 |.int i,.int j=>.ok (.int (i+j))
 |.str x,.str y=>if x.length+y.length<=1000 then .ok (.str (x++y)) else .no
 |.tuple xs,.tuple ys=>if xs.length+ys.length<=1000 then .ok (.tuple (xs++ys)) else .no
 |.list xs,.list ys=>if xs.length+ys.length<=1000 then .ok (.list (xs++ys)) else .no
 |_,_=>.no
inductive Pr (K:aa) (x:V) (y:V) (H:Hp) (Q:VK):Prop
 |mk (l b xs zs:_) (h0:x=.ref l) (h1:y=.ref b) (h2:pC K H l xs) (h3:pC K H b zs) (h4:xs.length+zs.length<=sizeLine) (h5:∀ p,H p=none->Q (.ref p) (upd H p (.lst (xs++zs)))):Pr K x y H Q
def YK (K:aa):R2:=Pr K
theorem Th:qu X (fG .Add) (YK X.K):=by
 intro j s σ H x y v u Q I A N h;obtain ⟨l,b,xs,S,rfl,rfl,w,P,G,q⟩:=h;cases A;cases N;obtain ⟨c,r,⟨o,n,e,m,g,f⟩,z⟩:=I.list w;obtain ⟨a,p,⟨B,M,t,d,i,k⟩,T⟩:=I.list P;obtain ⟨k1,k2,k3,L⟩:=o;obtain ⟨m1,m2,m3,O⟩:=B;simp only at m g f d i k;subst m g f d i k;refine By ⟨_,e,rfl⟩ ⟨_,t,rfl⟩ noFill_list_add seq_list_add PySem.F.slot_list_add PySem.F.entry_list_add (PySem.F.args_list_add_2 _ _) (PyProof.Rows.list_addW l b _ _ n M _ _ L O (by rw [aG,aG,<- r.length,<- p.length];exact G)) ⟨e,t,?_⟩;have E:c.toArray++a.toArray=(c++a).toArray:=by simp
 rw [E];exact ⟨.ref _,_,I.lnew (t':=s.toks) (r.append p) (by rw [bB];omega),rfl,q _ I.fresh⟩
inductive Ps (K:aa) (x:V) (y:V) (H:Hp) (Q:VK):Prop
 |mk (a b ys:_) (h0:x=.ref a) (h1:y=.ref b) (h2:lz K H a []) (h3:lz K H b ys) (h4:Q (.ref b) H):Ps K x y H Q
def YL (K:aa):R2:=Ps K
theorem Ti:qu X (fG .Add) (YL X.K):=by
 intro g s σ H x y v u Q I m w h;obtain ⟨a,b,ys,rfl,rfl,l,B,q⟩:=h;cases m;cases w;obtain ⟨p,r,⟨⟨k1,k2,k3,o⟩,e,j,n,d⟩,z⟩:=I.tuple l;obtain ⟨f,G,⟨⟨m1,m2,m3,A⟩,k,c,t,i⟩,E⟩:=I.tuple B;simp only at j d c i;subst j d c i;cases r;exact By ⟨_,e,rfl⟩ ⟨_,k,rfl⟩ DF M9 qx pH (oT _ _)
  (PyProof.Rows.tuple_addW0 a b _ _ n t _ _ o A rfl) ⟨e,k,⟨.ref b,H,I,rfl,q⟩⟩
theorem cO:x_ X (fG .Add) dI:=by
 refine ⟨fun f s σ H x y v u Q I w z ⟨E,M,K,sub,i,l,d,g,q⟩=>?_,fun x y c n=>?_⟩
 ·unfold dI at g;split at g
  ·cases g;exact Wp f s σ H x y v u Q I w z ⟨_,_,i.int,l.int,q _ H E (.refl sub) (.int _)⟩
  ·split at g
   ·rename_i t
    cases g;exact IM f s σ H x y v u Q I w z ⟨_,_,i.str,l.str,bt (bZ t),q _ H E (.refl sub) (.str _)⟩
   ·cases g
  ·split at g
   ·rename_i xs ys t
    cases g;obtain ⟨a,vs,rfl,B,o,_⟩:=i.tuple sub;obtain ⟨b,k,rfl,G,m,_⟩:=l.tuple sub;have j:vs.length+k.length<=sizeLine:=by rw [o.length,m.length];exact bt (bZ t)
    have big:∀ p,H p=none->Q (.ref p) (upd H p (.tup (vs++k))):=fun p A=>q _ _ _ (.new sub A) (.tuple aI ((o.append m).same (cn.new sub A).sh));cases vs with
    |nil =>
     cases o;refine Ti f s σ H _ _ v u Q I w z ⟨a,b,k,rfl,rfl,B,G,?_⟩;rcases l with l|⟨_,_,_,_,_,ow⟩
     ·exact q _ H E (.refl sub) (by simpa using l)
     ·cases ow
    |cons v0 L =>
     refine SH f s σ H _ _ v u Q I w z ⟨a,b,_,k,rfl,rfl,B,G,by simp,j,fun e=>?_,fun _=>big⟩;subst e;cases m;rcases i with i|⟨_,_,_,_,_,ow⟩
     ·exact q _ H E (.refl sub) (by simpa using i)
     ·cases ow
   ·cases g
  ·split at g
   ·rename_i xs ys t
    cases g;obtain ⟨a,vs,rfl,B,o⟩:=i.list sub;obtain ⟨b,k,rfl,G,m⟩:=l.list sub;have j:vs.length+k.length<=sizeLine:=by rw [o.length,m.length];exact bt (bZ t)
    exact Th f s σ H _ _ v u Q I w z ⟨a,b,vs,k,rfl,rfl,B,G,j,fun p A=>q _ _ _ (.new sub A) (.list (.of aI) ((o.append m).same (cn.new sub A).sh))⟩
   ·cases g
  ·cases g
 ·unfold dI;split<;>(try split)<;>exact fun h=>by cases h
def G8 (C:Int->Int->Bool) (k:Int->Int->D):D->D->R D
 |.int i,.int j=>if C i j then .ok (k i j) else .no
 |_,_=>.no
theorem Ed {f:ae->ae->Sem ae}{C:Int->Int->Bool}{P:Int->Int->Prop}{k:Int->Int->D}{g:Int->Int->V} (h:qu X f (rI P g)) (w:∀ i j,C i j=true->P i j) (z:∀ e i j,RD X.K e (g i j) (k i j)):x_ X f (G8 C k):=by
 refine ⟨fun b s σ H x y v u Q I p t ⟨e,B,A,sub,l,o,d,a,q⟩=>?_,fun x y c n=>?_⟩
 ·unfold G8 at a;split at a
  ·split at a
   ·rename_i m
    cases a;exact h b s σ H x y v u Q I p t ⟨_,_,l.int,o.int,w _ _ m,q _ H e (.refl sub) (z _ _ _)⟩
   ·cases a
  ·cases a
 ·unfold G8;split<;>(try split)<;>exact fun h=>by cases h
def CJ (i j:Int):Bool:=(decide (-(2 ^ 64)<i)&&decide (i<2 ^ 64))||(decide (-(2 ^ 64)<j)&&decide (j<2 ^ 64))
theorem YM (h:qu X f (Sr g)):qu X f (rI (fun _ _=>True) g):=fun c s σ H x y v u Q I e k d=>by obtain ⟨i,j,a,b,_,q⟩:=d;exact h c s σ H x y v u Q I e k ⟨i,j,a,b,q⟩
def Au:=G8 (fun _ _=>true) fun i j=>.int (i-j)
def wK:=G8 CJ fun i j=>.int (i*j)
def MM:=G8 (fun _ j=>decide (0<j)) fun i j=>.int (i % j)
def Pt:=G8 (fun _ j=>decide (0<j)&&decide (j<1073741824)) fun i j=>.int (i / j)
theorem Jg:x_ X (fG .Sub) Au:=Ed (YM Wq) (fun _ _ _=>trivial) fun _ _ _=>.int _
theorem qG:x_ X (fG .Mult) wK:=Ed Wr (fun i j h=>by
 unfold CJ at h;simp only [iR,aP,decide_eq_true_eq] at h;exact h) fun _ _ _=>.int _
theorem Ee:x_ X (fG .Mod) MM:=Ed Wt (fun i j h=>of_decide_eq_true h) fun _ _ _=>.int _
theorem Tj:x_ X (fG .FloorDiv) Pt:=Ed Ss (fun i j h=>by
 simp only [aP,decide_eq_true_eq] at h;exact h) fun _ _ _=>.int _
def ir (a:Bool) (x y:D):R D:=if x.canLay0&&y.canLay0&&decide (min x.depth y.depth<=60) then .ok (.bool (if a then !bw x y else bw x y)) else .no
mutual
theorem Ef:∀ d:D,d.canLay0=true->wH d=true
 |.none,_=>rfl
 |.bool _,_=>rfl
 |.int _,_=>rfl
 |.str _,_=>rfl
 |.list xs,h=>by
  simp only [dR] at h;simp only [wH];exact lays_noD xs h
 |.tuple xs,h=>by
  simp only [dR] at h;simp only [wH];exact lays_noD xs h
 |.dict _,h=>by simp [dR] at h
theorem lays_noD:∀ d:List D,bN d=true->noDs d=true
 |[],_=>rfl
 |x::r,h=>by
  simp only [bN,aP] at h;simp only [noDs,aP];exact ⟨Ef x h.1,lays_noD r h.2⟩
end
theorem Pu (h:qu X f (WO X.K neg)):x_ X f (ir neg):=by
 refine ⟨fun b s σ H x y v u Q I m o ⟨j,k,g,sub,i,l,d,e,q⟩=>?_,fun x y c n=>?_⟩
 ·unfold ir at e;split at e
  ·rename_i a
   simp only [aP,decide_eq_true_eq] at a;cases e;exact h b s σ H x y v u Q I m o ⟨k,g,(i.full sub).rep (Ef _ a.1.1),(l.full sub).rep (Ef _ a.1.2),a.1.1,a.1.2,a.2,q _ H j (.refl sub) (.bool _)⟩
  ·cases e
 ·unfold ir;split<;>exact fun h=>by cases h
theorem jI (a:X.A.units+64<uC):x_ X (bK .Eq) (ir false):=Pu (WP a)
theorem yD (a:X.A.units+64<uC):x_ X (bK .NotEq) (ir true):=Pu (WQ a)
def MN (k:Int->Int->Bool) (t:Str->Str->Bool):D->D->R D
 |.int i,.int j=>.ok (.bool (k i j))
 |.str x,.str y=>.ok (.bool (t x y))
 |_,_=>.no
theorem Pw (p:qu X f (Sr fun i j=>.bl (k i j))) (w:qu X f (fun x y H Q=>∃ i j,x=.str i/\y=.str j/\Q (.bl (t i j)) H)):x_ X f (MN k t):=by
 refine ⟨fun a s σ H x y v u Q I m o ⟨g,A,z,sub,e,l,d,b,q⟩=>?_,fun x y c n=>?_⟩
 ·unfold MN at b;split at b
  ·cases b;exact p a s σ H x y v u Q I m o ⟨_,_,e.int,l.int,q _ H g (.refl sub) (.bool _)⟩
  ·cases b;exact w a s σ H x y v u Q I m o ⟨_,_,e.str,l.str,q _ H g (.refl sub) (.bool _)⟩
  ·cases b
 ·unfold MN;split<;>exact fun h=>by cases h
def Jh:=MN (fun i j=>decide (i<j)) s9
def Vi:=MN (fun i j=>decide (i<=j)) fun x y=>!s9 y x
def NT:D->D->R D
 |.int i,.int j=>.ok (.bool (decide (j<i)))
 |_,_=>.no
theorem CK:x_ X (bK .Lt) Jh:=Pw Yg Mq
theorem CL:x_ X (bK .LtE) Vi:=Pw Yh MF
theorem KP:x_ X (bK .Gt) NT:=by
 refine ⟨fun a s σ H x y v u Q I i j ⟨f,l,k,sub,e,g,d,b,q⟩=>?_,fun x y c n=>?_⟩
 ·unfold NT at b;split at b
  ·cases b;exact Yi a s σ H x y v u Q I i j ⟨_,_,e.int,g.int,q _ H f (.refl sub) (.bool _)⟩
  ·cases b
 ·unfold NT;split<;>exact fun h=>by cases h
def Ji:D->Bool
 |.none=>true
 |_=>false
def KQ (a:Bool):D->D->R D
 |x,.none=>.ok (.bool (if a then !Ji x else Ji x))
 |_,_=>.no
theorem KR {K:aa}{H b:Hp}{v:V}{d:D} (h:RB K H b v d):decide (v=.non)=Ji d:=by
 rcases h with h|⟨a,o,rfl,_,_,h⟩
 ·cases h<;>rfl
 ·cases h<;>rfl
theorem YN:x_ X (bK .Is) (KQ false):=by
 refine ⟨fun a s σ H x y v u Q I i j ⟨f,l,k,sub,e,g,d,b,q⟩=>?_,fun x y c n=>?_⟩
 ·unfold KQ at b;split at b
  ·cases b;exact Ww a s σ H x y v u Q I i j ⟨g.non,by rw [KR e];exact q _ H f (.refl sub) (.bool _)⟩
  ·cases b
 ·unfold KQ;split<;>exact fun h=>by cases h
theorem G9:x_ X (bK .IsNot) (KQ true):=by
 refine ⟨fun a s σ H x y v u Q I i j ⟨f,l,k,sub,e,g,d,b,q⟩=>?_,fun x y c n=>?_⟩
 ·unfold KQ at b;split at b
  ·cases b;exact Sx a s σ H x y v u Q I i j ⟨g.non,by rw [KR e];exact q _ H f (.refl sub) (.bool _)⟩
  ·cases b
 ·unfold KQ;split<;>exact fun h=>by cases h
def mB:D->Bool
 |.none=>true
 |.bool _=>true
 |.int _=>true
 |.str _=>true
 |_=>false
def xA (a:Bool):D->D->R D
 |x,.list ys=>if mB x&&ys.all mB then .ok (.bool (if a then !(ys.any fun y=>bw y x) else ys.any fun y=>bw y x)) else .no
 |x,.tuple ys=>if mB x&&ys.all mB then .ok (.bool (if a then !(ys.any fun y=>bw y x) else ys.any fun y=>bw y x)) else .no
 |_,_=>.no
theorem KS {K:aa}{H:Hp}{v:V}{d:D} (h:RD K H v d) (f:mB d=true):sx v=true:=by
 cases h<;>first|rfl|cases f
theorem Gc {K:aa}{H b:Hp}{v:V}{d:D} (h:RB K H b v d) (f:mB d=true):sx v=true:=by
 rcases h with h|⟨a,o,rfl,_,_,h⟩
 ·exact KS h f
 ·cases h<;>cases f
theorem Gd {K:aa}{H:Hp}{vs:List V}:∀ {ds:List D},RDs K H vs ds->ds.all mB=true->vs.all sx=true:=by
 induction vs with
 |nil=>intro ds _ _;rfl
 |cons x r a =>
  intro ds h f;cases h with
  |cons h t =>
   rw [wk,aP] at f ⊢;exact ⟨KS h f.1,a t f.2⟩
theorem WW {K:aa}{H l k:Hp}{v u:V}{d e:D} (h:RD K H v d) (j:RB K l k u e) (f:mB d=true) (g:mB e=true):SO v u=bw d e:=by
 have c:RD K k u e:=by
  rcases j with j|⟨a,o,rfl,_,_,j⟩
  ·exact j
  ·cases j<;>cases g
 cases h with
 |list _ _=>cases f
 |tuple _ _=>cases f
 |dictK _ _=>cases f
 |dictT _ _ _=>cases f
 |dictF _ _ _=>cases f
 |desk _ _ _ _=>cases f
 |none=>cases c<;>first|rfl|cases g
 |bool b=>cases c<;>first|rfl|cases g
 |int i=>cases c<;>first|rfl|cases g
 |str x=>cases c<;>first|rfl|cases g
theorem Jj {K:aa}{H c d:Hp}{u:V}{e:D} (a:RB K c d u e) (b:mB e=true):∀ {vs:List V}{ds:List D},RDs K H vs ds->ds.all mB=true->inV u vs=ds.any fun y=>bw y e
 |_,_,.nil,_=>rfl
 |_,_,.cons h t,f=>by
  rw [wk,aP] at f;have:=Jj a b t f.2;unfold inV at this ⊢;rw [fX,fX,this,WW h a f.1 b]
theorem Px (h:qu X f (rIn X.K neg)):x_ X f (xA neg):=by
 refine ⟨fun g s σ H x y v u Q I p t ⟨m,z,w,sub,j,o,d,e,q⟩=>?_,fun x y c n=>?_⟩
 ·unfold xA at e;split at e
  ·split at e
   ·rename_i a
    simp only [aP] at a;cases e;obtain ⟨b,l,rfl,k,i⟩:=o.list sub;refine h g s σ H _ _ v u Q I p t ⟨b,l,rfl,.inl k,Gc j a.1,Gd i a.2,?_⟩;rw [Jj j a.1 i a.2];exact q _ H m (.refl sub) (.bool _)
   ·cases e
  ·split at e
   ·rename_i a
    simp only [aP] at a;cases e;obtain ⟨b,l,rfl,k,i,_⟩:=o.tuple sub;refine h g s σ H _ _ v u Q I p t ⟨b,l,rfl,.inr k,Gc j a.1,Gd i a.2,?_⟩;rw [Jj j a.1 i a.2];exact q _ H m (.refl sub) (.bool _)
   ·cases e
  ·cases e
 ·unfold xA;split<;>(try split)<;>exact fun h=>by cases h
theorem CM:x_ X (bK .In) (xA false):=Px Mt
theorem pR:x_ X (bK .NotIn) (xA true):=Px DT
end J
namespace J
open PySem L2
section
variable {c:C}{e a b:bc}{g ga gb:aB->R D}{pos:Pos}
def Ge:D->D->R D
 |.list xs,.int i=>match Fp xs i with
  |some d=>.ok d
  |none=>.no
 |.tuple xs,.int i=>match Fp xs i with
  |some d=>.ok d
  |none=>.no
 |.str x,.int i=>if x.length<=1000 then (match Fp x.cps.toList i with
  |some k=>.ok (.str ⟨#[k]⟩)
  |none=>.no) else .no
 |_,_=>.no
theorem KU (h:RDs K H vs ds) (e:Fp ds i=some d):∃ v,Fp vs i=some v/\RD K H v d:=by
 unfold Fp at e ⊢;rw [h.length];cases f:SJ ds.length i with
 |none=>rw [f] at e;cases e
 |some j =>
  rw [f] at e;exact h.get' e
theorem q0J:Yp X (rD X.K Ge):=by
 intro t E i s σ H x y v u Q I A B h;obtain ⟨n,N,M,sub,m,z,d,f,q⟩:=h;unfold Ge at f;split at f
 ·split at f
  ·rename_i d' he
   cases f;obtain ⟨p,vs,rfl,l,G⟩:=m.list sub;obtain ⟨w,o,j⟩:=KU G he;exact tR t E i s σ H _ _ v u Q I A B ⟨p,vs,_,w,rfl,z.int,l,o,q _ H n (.refl sub) j⟩
  ·cases f
 ·split at f
  ·rename_i d' he
   cases f;obtain ⟨p,vs,rfl,l,G,_⟩:=m.tuple sub;obtain ⟨w,o,j⟩:=KU G he;exact WC t E i s σ H _ _ v u Q I A B ⟨p,vs,_,w,rfl,z.int,l,o,q _ H n (.refl sub) j⟩
  ·cases f
 ·split at f
  ·rename_i L
   split at f
   ·rename_i k he
    cases f;exact WD t E i s σ H _ _ v u Q I A B ⟨_,_,k,m.str,z.int,bt (bZ L),he,q _ H n (.refl sub) (.str _)⟩
   ·cases f
  ·cases f
 ·cases f
theorem WX (x y:D) (c:Str) (n:Option D):Ge x y≠.ex c n:=by
 unfold Ge;split<;>(try split)<;>(try split)<;>exact fun h=>by cases h
theorem YO (d:JB c a ga) (f:JB c b gb) (hs:zA b:=by exact fun _ _=>rfl):JE c (.Subscript a b pos) (g2 ga gb Ge):=.of fun ρ=>ni (V5 q0J (d ρ) (f ρ) hs) fun σ H Q q=>two WX q
def BR (ds:List D) (lo d:Option Int):List D:=(ds.drop (HT.js ds.length 0 lo)).take (HT.js ds.length ds.length d-HT.js ds.length 0 lo)
theorem KW (h:RDs K H vs ds) (lo d:Option Int):RDs K H (FJ vs lo d) (BR ds lo d):=by
 unfold FJ BR;rw [h.length];exact (h.drop _).take _
def KY:D->Option Int->Option Int->R D
 |.list xs,lo,d=>.ok (.list (BR xs lo d))
 |.tuple xs,lo,d=>.ok (.tuple (BR xs lo d))
 |_,_,_=>.no
inductive Vj (K:aa) (x:V) (lo:Option Int) (hi:Option Int) (H:Hp) (Q:VK):Prop
 |mk (Hs dx:_) (h0:cK Hs H) (h1:RB K H Hs x dx) (h2:∃ d,KY dx lo hi=.ok d/\∀ v H' Hs',cn H Hs H' Hs'->RD K Hs' v d->Q v H'):Vj K x lo hi H Q
def q0K (K:aa):V->Option Int->Option Int->Hp->VK->Prop:=Vj K
theorem q0L {X:Cx}:Yn X (q0K X.K):=by
 intro f s σ H x v w y lo i z Q I u hs pl A h;obtain ⟨B,E,sub,m,d,k,q⟩:=h;unfold KY at k;split at k
 ·cases k;obtain ⟨p,vs,rfl,o,n⟩:=m.list sub;exact SL f s σ H _ v w y lo i z Q I u hs pl A ⟨p,vs,rfl,o,fun l j=>q _ _ _ (.new sub j) (.list (.of aI) ((KW n lo i).same (cn.new sub j).sh))⟩
 ·cases k;obtain ⟨p,vs,rfl,o,n,_⟩:=m.tuple sub;by_cases t:HT.js vs.length 0 lo=0/\HT.js vs.length vs.length i=vs.length
  ·refine Tb f s σ H _ v w y lo i z Q I u hs pl A ⟨p,vs,rfl,o,t,?_⟩;rcases m with m|⟨_,_,_,_,_,ow⟩
   ·refine q _ H B (.refl sub) ?_;unfold BR;rw [<- n.length,t.1,t.2,n.length];simpa using m
   ·cases ow
  ·exact WB f s σ H _ v w y lo i z Q I u hs pl A ⟨p,vs,rfl,o,t,fun l j=>q _ _ _ (.new sub j) (.tuple aI ((KW n lo i).same (cn.new sub j).sh))⟩
 ·cases k
inductive YQ (K:aa) (cls:Str->af) (E:XK) (ρ:aB) (r:R (Option Int)) (σ:St) (H:Hp) (Q:Option Int->Hp->Prop):Prop
 |mk (H0 Hs0:Hp) (la:Nat->Option af) (Hs:Hp) (f:Fr K H0 Hs0 la ρ σ H Hs) (q:Fin K cls E H Hs r fun d=>∀ H' Hs',cn H Hs H' Hs'->Q d H'):YQ K cls E ρ r σ H Q
def TOr (K:aa) (cls:Str->af) (E:XK) (ρ:aB) (r:R (Option Int)):TO:=YQ K cls E ρ r
structure JO (c:C) (e:Option bc) (g:aB->R (Option Int)):Prop where of ::
 run:∀ ρ,PO c.X e (TOr c.X.K c.cls c.E ρ (g ρ))
instance {c:C}{e:Option bc}{g:aB->R (Option Int)}:CoeFun (JO c e g) (fun _=>∀ ρ,PO c.X e (TOr c.X.K c.cls c.E ρ (g ρ))):=⟨JO.run⟩
theorem mPO {X:Cx}{e:Option bc}{t t':TO} (h:PO X e t) (m:∀ σ H Q,t' σ H Q->t σ H Q):PO X e t':=fun d s σ H Q I q=>h d s σ H Q I (m σ H Q q)
def XV:aB->R (Option Int):=fun _=>.ok none
def Tk (g:aB->R D):aB->R (Option Int):=fun ρ=>(g ρ).bind fun d=>match d with
 |.int i=>.ok (some i)
 |_=>.no
theorem zC:JO c none XV:=.of fun ρ=>mPO SF fun σ H Q d=>by obtain ⟨j,i,k,h,f,q⟩:=d;exact q H h (.refl f.st.sub)
theorem tX (h:JE c e g):JO c (some e) (Tk g):=.of fun ρ=>mPO (SG (h ρ)) fun σ H Q k=>by
 obtain ⟨t,p,w,s,f,q⟩:=k;refine zb f q fun d v m j n l u o=>?_;unfold Tk at q;rw [n,bind_ok] at q;cases o with
 |int i=>exact ⟨i,rfl,q m j l⟩
 |_=>exact q.elim
theorem YR {K:aa}{cls:Str->af}{E:XK}{ρ:aB}{r:R (Option Int)}{t:Type}{k:Option Int->R t}{σ:St}{H:Hp}{o j l:Hp}{p:Nat->Option af}{Q:Option Int->Hp->Prop}{q:t->Prop} (f:Fr K o j p ρ σ H l)
  (h:Fin K cls E H l (r.bind k) q) (m:∀ d H' i,r=.ok d->cn H l H' i->Fr K o j p ρ σ H' i->Q d H'):TOr K cls E ρ r σ H Q:=by
 refine ⟨o,j,p,l,f,?_⟩;cases r with
 |ok d=>exact fun H' i s=>m d H' i rfl s (f.step s)
 |ex c n=>exact h
 |no=>exact h
def Vk (g:aB->R D) (d f:aB->R (Option Int)):aB->R D:=fun ρ=>(g ρ).bind fun x=>(d ρ).bind fun l=>(f ρ).bind fun h=>KY x l h
theorem sJ {lo u:Option bc}{s t:aB->R (Option Int)}{A:Pos} (he:JB c e g) (E:JO c lo s) (S:JO c u t):JE c (.Subscript e (.Slice lo u none A) pos) (Vk g s t):=.of fun ρ=>ni (OF q0L (he ρ) (E ρ) (S ρ)) fun σ H Q j=>by
 obtain ⟨H0,U,la,Hs,f,q⟩:=j;refine one f q fun d v Y K P k N T=>?_;unfold Vk at q;rw [P,bind_ok] at q;refine YR N (q.on k (q':=fun _=>True) fun _ _=>trivial) fun l H2 O X p I=>?_;rw [X,bind_ok] at q;refine YR I (q.on (k.trans p) (q':=fun _=>True) fun _ _=>trivial) fun h H3 m B x M=>?_;rw [B,bind_ok] at q;cases i:KY d l h with
 |ok z=>rw [i] at q;exact ⟨m,d,M.st.sub,(T.step p).step x,z,i,fun w G o y L=>q w G o (k.trans (p.trans (x.trans y))) L⟩
 |ex c n=>unfold KY at i;split at i<;>cases i
 |no=>rw [i] at q;exact q.elim
inductive rCI (K:aa) (h:List D->R D) (xs:List V) (H:Hp) (Q:VK):Prop
 |mk (Hs ds:_) (h0:cK Hs H) (h1:RV K H Hs xs ds) (h2:∃ d,h ds=.ok d/\∀ v H' Hs',cn H Hs H' Hs'->RD K Hs' v d->Q v H'):rCI K h xs H Q
def rC (K:aa) (h:List D->R D):List V->Hp->VK->Prop:=rCI K h
def NU (X:Cx) (f:ae) (h:List D->R D):Prop:=jX X f (rC X.K h)/\∀ x c n,h x≠.ex c n
def c7 (d:aB->R (List D)) (h:List D->R D):aB->R D:=fun ρ=>(d ρ).bind h
theorem Vl {K:aa}{cls:Str->af}{E:XK}{h:List D->R D}{l:aB->R (List D)}{ρ:aB}{σ:St}{H:Hp}{Q:VK} (y:∀ x c n,h x≠.ex c n) (q:TR K cls E ρ (c7 l h ρ) σ H Q):Wz (rC K h) (TBs K cls E ρ (l ρ)) σ H Q:=by
 obtain ⟨G,z,I,B,f,q⟩:=q;refine KO f q fun ds vs A k s m p t=>?_;unfold c7 at q;rw [s,bind_ok] at q;cases i:h ds with
 |ok d =>
  rw [i] at q;exact ⟨k,ds,p.st.sub,t,d,i,fun w o j u v=>q w o j (m.trans u) v⟩
 |ex c n=>exact (y ds c n i).elim
 |no=>rw [i] at q;exact q.elim
variable {es:List bc}{gs:aB->R (List D)}{x:Str}{p:Pos}{id T:String}{h:List D->R D}
theorem cc (i:NU c.X (.builtin id) h) (n:Gl c.X x) (j:c.X.mg x=none) (m:j0 x=some (.builtin id)) (k:Tf c (e::es) gs) (l:x≠"__name__":=by decide) (d:(x==("__debug__" : Str))=false:=by decide)
  (he:ao (e::es) c.X.env=(false,bG e c.X.env)::ao es c.X.env:=by rfl) (f:(cC pos (ao es c.X.env)).any (·.1)=false:=by rfl):JE c (.Call (.Name x p) (e::es) [] pos) (c7 gs h):=.of fun ρ=>ni (pM i.1 n j m (k ρ) l d he f) fun σ H Q q=>Vl i.2 q
theorem fv (i:NU c.X (.type T) h) (n:Gl c.X x) (j:c.X.mg x=none) (m:j0 x=some (.type T)) (k:Tf c (e::es) gs) (l:x≠"__name__":=by decide) (d:(x==("__debug__" : Str))=false:=by decide)
  (he:ao (e::es) c.X.env=(false,bG e c.X.env)::ao es c.X.env:=by rfl) (f:(cC pos (ao es c.X.env)).any (·.1)=false:=by rfl):JE c (.Call (.Name x p) (e::es) [] pos) (c7 gs h):=.of fun ρ=>ni (tP i.1 n j m (k ρ) l d he f) fun σ H Q q=>Vl i.2 q
end
theorem RV.one (h:RV K H Hs xs [d]):∃ x,xs=[x]/\RB K H Hs x d:=by
 cases h with|cons a t=>cases t;exact ⟨_,rfl,a⟩
def j9 (h:D->R D):List D->R D
 |[d]=>h d
 |_=>.no
theorem vi (m:∀ d c n,h d≠.ex c n)
  (j:∀ a s σ H x u Q b d d',bH X a σ H s->dq x u->cK b H->RB X.K H b x d->h d=.ok d'->(∀ v H' e,cn H b H' e->RD X.K e v d'->Q v H')->av (aF X.prog X.w) X.A (call f [u]) (EP X a σ Q) X.xe s):NU X f (j9 h):=by
 refine ⟨fun a s σ H xs us Q I r ⟨b,ds,sub,l,d,g,q⟩=>?_,fun x c n=>?_⟩
 ·unfold j9 at g;split at g
  ·obtain ⟨x,rfl,i⟩:=l.one;obtain ⟨u,rfl,k⟩:=mz r;exact j a s σ H x u Q b _ _ I k sub i g q
  ·cases g
 ·unfold j9;split
  ·exact m _ _ _
  ·exact fun h=>by cases h
def kR:D->R D
 |.list xs=>.ok (.int xs.length)
 |.tuple xs=>.ok (.int xs.length)
 |.str x=>if x.length<=1000 then .ok (.int x.length) else .no
 |_=>.no
theorem RDk.length : ∀ {ds:List (D×D)},RDk K H vs ds->vs.length=ds.length:=by
 induction vs with
 |nil=>intro ds h;cases h;rfl
 |cons x r c=>intro ds h;cases h with|cons a b=>exact congrArg (· + 1) (c b)
theorem RB.dict (sub:cK Hs H) (h:RB K H Hs v (.dict ds)) (c:dkK ds=false):∃ a,v=.ref a/\((∃ kvs,H a=some (.dK kvs)/\RDk K Hs kvs ds)\/(∃ kvs,H a=some (.dT kvs)/\kvs≠[]/\RDt K Hs kvs ds)\/∃ o kvs b,ds=(.none,.none)::b/\H a=some (.frz o (.dT kvs))/\kvs≠[]/\RDt K Hs kvs b):=by
 rcases h with h|⟨a,o,rfl,h2,h3,h4⟩
 ·cases h with
  |dictK q r=>exact ⟨_,rfl,.inl ⟨_,sub _ _ q,r⟩⟩
  |dictT q n r=>exact ⟨_,rfl,.inr (.inl ⟨_,sub _ _ q,n,r⟩)⟩
  |dictF q n r=>exact ⟨_,rfl,.inr (.inr ⟨_,_,_,rfl,sub _ _ q,n,r⟩)⟩
  |desk _ _ _ _=>cases c
 ·cases h4 with
  |dK r=>exact ⟨a,rfl,.inl ⟨_,h2,r⟩⟩
  |dT n r=>exact ⟨a,rfl,.inr (.inl ⟨_,h2,n,r⟩)⟩
  |dF n r=>exact ⟨a,rfl,.inr (.inr ⟨_,_,_,rfl,h2,n,r⟩)⟩
theorem ja:NU X (.builtin "len") (j9 kR):=by
 refine vi (fun d c n=>?_) fun b s σ H x u Q i d d' I j sub g e q=>?_
 ·unfold kR;split<;>(try split)<;>exact fun h=>by cases h
 ·unfold kR at e;split at e
  ·cases e;obtain ⟨a,vs,rfl,f,k⟩:=g.list sub;refine wx b s σ H _ _ Q I (.cons j .nil) ⟨a,vs,rfl,.inl f,?_⟩;rw [k.length];exact q _ H i (.refl sub) (.int _)
  ·cases e;obtain ⟨a,vs,rfl,f,k,_⟩:=g.tuple sub;refine wx b s σ H _ _ Q I (.cons j .nil) ⟨a,vs,rfl,.inr f,?_⟩;rw [k.length];exact q _ H i (.refl sub) (.int _)
  ·split at e
   ·rename_i l
    cases e;exact DU b s σ H _ _ Q I (.cons j .nil) ⟨_,by rw [g.str],bt (bZ l),q _ H i (.refl sub) (.int _)⟩
   ·cases e
  ·cases e
def Gf (T:String) (d:D):Bool:=match T,d with
 | "str",.str _=>true
 | "int",.int _=>true
 | "int",.bool _=>true
 | "bool",.bool _=>true
 | "list",.list _=>true
 | "tuple",.tuple _=>true
 |_,_=>false
def wL (g:aB->R D) (T:String):aB->R D:=fun ρ=>(g ρ).bind fun d=>if wH d then .ok (.bool (Gf T d)) else .no
theorem Tl (T:String) (a:T="str"\/T="int"\/T="bool"\/T="list"\/T="tuple") (h:wH d=true):dH K (.type (tyD d)) (.type T)=some (Gf T d):=by
 rcases a with rfl|rfl|rfl|rfl|rfl<;>cases d<;>first|rfl|simp [wH] at h
theorem qH (h:JB c e g) (i:Gl c.X "isinstance") (t:c.X.mg "isinstance"=none) (m:Gl c.X T) (z:c.X.mg T=none) (A:j0 T=some (.type Ts))
  (k:Ts="str"\/Ts="int"\/Ts="bool"\/Ts="list"\/Ts="tuple")
  (w:T≠"__name__":=by decide) (j:(T==("__debug__" : Str))=false:=by decide)
  (he:ao [e,.Name T p2] c.X.env=(false,bG e c.X.env)::ao [.Name T p2] c.X.env:=by rfl) (n:(cC pos (ao [.Name T p2] c.X.env)).any (·.1)=false:=by rfl) :
  JE c (.Call (.Name "isinstance" p) [e,.Name T p2] [] pos) (wL g Ts):=.of fun ρ=>by
 refine ni (pM Pi i t kU (bv (h ρ) (bv (Kv m z A (v:=.ty Ts) rfl w j) cQ) he) (by decide) (by decide) he n) fun σ H Q b=>?_;obtain ⟨G,B,I,E,f,q⟩:=b;refine one f q fun d v s l x o u y=>?_;unfold wL at q;rw [x,bind_ok] at q;by_cases a:wH d=true
 ·rw [if_pos a] at q;exact ⟨v,d,Ts,_,rfl,(y.full u.st.sub).rep a,Tl Ts k a,q _ s l o (.bool _)⟩
 ·rw [if_neg a] at q;exact q.elim
def oh:List D->Option (List Bool)
 |[]=>some []
 |.bool b::r=>(oh r).map (b::·)
 |_::_=>none
theorem Eg:∀ {bs:List Bool},oh ds=some bs->ds=bs.map cX:=by
 induction ds with
 |nil=>intro bs h;cases h;rfl
 |cons d r c =>
  intro bs h;cases d with
  |bool b =>
   have h:(oh r).map (b::·)=some bs:=h;cases a:oh r with
   |none=>rw [a] at h;cases h
   |some z=>rw [a] at h;cases h;rw [c a];rfl
  |_=>cases h
def h_ (k:List Bool->Bool):D->R D
 |.list ds=>match oh ds with
  |some bs=>.ok (.bool (k bs))
  |none=>.no
 |_=>.no
theorem Gg {id:String}{k:List Bool->Bool} (h:jX X (.builtin id) (fun xs H Q=>∃ p,∃ bs:List Bool,xs=[.ref p]/\pC X.K H p (bs.map V.bl)/\Q (.bl (k bs)) H)):NU X (.builtin id) (j9 (h_ k)):=by
 refine vi (fun d c n=>?_) fun e s σ H x u Q j d d' I m sub i b q=>?_
 ·unfold h_;split<;>(try split)<;>exact fun h=>by cases h
 ·unfold h_ at b;split at b
  ·split at b
   ·rename_i bs l
    cases b;obtain ⟨a,vs,rfl,f,g⟩:=i.list sub;rw [Eg l] at g;rw [BQ g] at f;exact h e s σ H _ _ Q I (.cons m .nil) ⟨a,bs,rfl,f,q _ H j (.refl sub) (.bool _)⟩
   ·cases b
  ·cases b
theorem qI (a:X.calm=true):NU X (.builtin "all") (j9 (h_ fun bs=>bs.all id)):=Gg (Ai a)
theorem Py (a:X.calm=true):NU X (.builtin "any") (j9 (h_ fun bs=>bs.any id)):=Gg (Aj a)
def oZ (x:Str):List D:=x.cps.toList.map fun c=>aE ⟨#[c]⟩
theorem MO (x:Str):RDs K H (Aq x) (oZ x):=by
 unfold Aq oZ;induction x.cps.toList with
 |nil=>exact .nil
 |cons a r b=>exact .cons (.str _) b
def iM:D->R D
 |.list xs=>.ok (.tuple xs)
 |.tuple xs=>.ok (.tuple xs)
 |.str x=>if x.cps.size<=1000 then .ok (.tuple (oZ x)) else .no
 |_=>.no
theorem jJ (p:X.calm=true):NU X (.type "tuple") (j9 iM):=by
 refine vi (fun d c n=>?_) fun b s σ H x u Q m d d' I j sub f e q=>?_
 ·unfold iM;split<;>(try split)<;>exact fun h=>by cases h
 ·unfold iM at e;split at e
  ·cases e;obtain ⟨a,vs,rfl,i,k⟩:=f.list sub;exact uS b s σ H _ _ Q I (.cons j .nil) ⟨a,vs,rfl,.inl ⟨i,fun l g=>q _ _ _ (.new sub g) (.tuple aI (k.same (cn.new sub g).sh))⟩⟩
  ·cases e;obtain ⟨a,vs,rfl,i,k,_⟩:=f.tuple sub;refine uS b s σ H _ _ Q I (.cons j .nil) ⟨a,vs,rfl,.inr ⟨i,?_⟩⟩;rcases f with f|⟨_,_,_,_,_,ow⟩
   ·exact q _ H m (.refl sub) f
   ·cases ow
  ·split at e
   ·rename_i o
    cases e;exact z9 p b s σ H _ _ Q I (.cons j .nil) ⟨_,by rw [f.str],bt (bZ o),fun l g=>q _ _ _ (.new sub g) (.tuple aI (MO _))⟩
   ·cases e
  ·cases e
def CN:D->R D
 |.list xs=>.ok (.list xs)
 |.tuple xs=>.ok (.list xs)
 |_=>.no
theorem Tn:NU X (.type "list") (j9 CN):=by
 refine vi (fun d c n=>?_) fun b s σ H x u Q m d d' I k sub j f q=>?_
 ·unfold CN;split<;>exact fun h=>by cases h
 ·unfold CN at f;split at f
  ·cases f;obtain ⟨a,vs,rfl,g,i⟩:=j.list sub;exact qA b s σ H _ _ Q I (.cons k .nil) ⟨a,vs,rfl,.inl g,fun l e=>q _ _ _ (.new sub e) (.list (.of aI) (i.same (cn.new sub e).sh))⟩
  ·cases f;obtain ⟨a,vs,rfl,g,i,_⟩:=j.tuple sub;exact qA b s σ H _ _ Q I (.cons k .nil) ⟨a,vs,rfl,.inr g,fun l e=>q _ _ _ (.new sub e) (.list (.of aI) (i.same (cn.new sub e).sh))⟩
  ·cases f
def gT:List D->Option (List Str)
 |[]=>some []
 |.str b::r=>(gT r).map (b::·)
 |_::_=>none
theorem sK:∀ {bs:List Str},gT ds=some bs->ds=bs.map aE:=by
 induction ds with
 |nil=>intro bs h;cases h;rfl
 |cons d r c =>
  intro bs h;cases d with
  |str b =>
   have h:(gT r).map (b::·)=some bs:=h;cases a:gT r with
   |none=>rw [a] at h;cases h
   |some z=>rw [a] at h;cases h;rw [c a];rfl
  |_=>cases h
@[simp] theorem strsOf_map:∀ bs:List Str,gT (bs.map aE)=some bs
 |[]=>rfl
 |b::r=>by show (gT (r.map aE)).map (b::·)=_;rw [strsOf_map r];rfl
def tY:D->R D
 |.list ds=>match gT ds with
  |some a=>if a.length<64 then .ok (.list ((ku a).map .str)) else .no
  |none=>.no
 |_=>.no
theorem MP:NU X (.builtin "sorted") (j9 tY):=by
 refine vi (fun d c n=>?_) fun e s σ H x u Q p d d' I o sub i b q=>?_
 ·unfold tY;split<;>(try split)<;>(try split)<;>exact fun h=>by cases h
 ·unfold tY at b;split at b
  ·split at b
   ·split at b
    ·rename_i m hs k
     cases b;obtain ⟨a,vs,rfl,f,g⟩:=i.list sub;rw [sK hs] at g;rw [qD g] at f;exact xZ e s σ H _ _ Q I (.cons o .nil) ⟨a,m,rfl,f,k,fun l j=>q _ _ _ (.new sub j) (.list (.of aI) (As _))⟩
    ·cases b
   ·cases b
  ·cases b
inductive YS (K:aa) (cls:Str->af) (n:Nat) (F:List D->R D) (vs:List V) (H:Hp) (Q:VK) (E:XK):Prop
 |mk (Hs ds:_) (h0:cK Hs H) (h1:ds.length=n) (h2:RDs K Hs vs ds) (h3:Fin K cls E H Hs (F ds) fun d=>∀ v H' Hs',cn H Hs H' Hs'->RD K Hs' v d->Q v H'):YS K cls n F vs H Q E
def RW (K:aa) (cls:Str->af) (n:Nat) (F:List D->R D):Sp:=YS K cls n F
structure Fn (P:aV) (w:bi) (K:aa) (mg:Str->Option ae) (base:bA) (cls:Str->af) (x:Str) (k n:Nat) (F:List D->R D):Prop where
 ex:∃ f fd ps,l8 P w K mg base (jN P w) k f fd ps (RW K cls n F)/\mg x=some (.ref f)/\bV K (.ref f)=true/\eQ K fd ps []
def gN (n:Nat) (F:List D->R D) (a:aB->R (List D)):aB->R D:=fun ρ=>(a ρ).bind fun ds=>if ds.length=n then F ds else .no
theorem To (G:Fn c.X.prog c.X.w c.X.K c.X.mg c.X.base c.cls x k n F) (o:fJ k c.X.A) (P:Gl c.X x) (O:gy (jN c.X.prog c.X.w) c.X c.E) (m:HV c (e::es) gs)
  (b:(x==("__debug__" : Str))=false:=by decide) (he:ao (e::es) c.X.env=(false,bG e c.X.env)::ao es c.X.env:=by rfl) (j:(cC pos (ao es c.X.env)).any (·.1)=false:=by rfl) :
  JE c (.Call (.Name x p) (e::es) [] pos) (gN n F gs):=.of fun ρ=>by
 obtain ⟨f,Y,ps,s,u,M,t⟩:=G.ex;refine ni (DQ (E:=c.E) s o P u M t .nil O (m ρ) b he j) fun σ H Q a=>?_;obtain ⟨H0,S,la,U,fr,q⟩:=a;refine G6 fr q fun ds vs T g B l y I=>?_;unfold gN at q;rw [B,bind_ok] at q;by_cases h:ds.length=n
 ·rw [if_pos h] at q;show RW _ _ _ _ (vs++[]) _ _ _;rw [cb];exact ⟨g,ds,y.st.sub,h,I,q.on l fun d k v z i L N=>k v z i (l.trans L) N⟩
 ·rw [if_neg h] at q;exact q.elim
inductive Fl where
 |nx (ρ:aB)
 |rt (d:D)
 |bk (ρ:aB)
 |ct (ρ:aB)
def pS (K:aa) (cls:Str->af) (E:XK) (e b:Hp) (f:Nat->Option af) (D:uG) (r:R Fl):Prop:=match r with
 |.ok (.nx ρ')=>∀ σ' H' a,Fr K e b f ρ' σ' H' a->D.nx σ' H'
 |.ok (.bk ρ')=>∀ σ' H' a,Fr K e b f ρ' σ' H' a->D.bk σ' H'
 |.ok (.ct ρ')=>∀ σ' H' a,Fr K e b f ρ' σ' H' a->D.ct σ' H'
 |.ok (.rt d)=>∀ v H' a,cn e b H' a->RD K a v d->D.rt v H'
 |.ex c n=>∀ H' a,cn e b H' a->XW K cls E c n H' a
 |.no=>False
inductive SRI (K:aa) (cls:Str->af) (E:XK) (ρ:aB) (r:R Fl) (D:uG) (σ:St) (H:Hp):Prop
 |mk (H0 Hs0:Hp) (la:Nat->Option af) (Hs:Hp) (f:Fr K H0 Hs0 la ρ σ H Hs) (q:pS K cls E H0 Hs0 la D r):SRI K cls E ρ r D σ H
def SR (K:aa) (cls:Str->af) (E:XK) (ρ:aB) (r:R Fl):TS:=SRI K cls E ρ r
structure JS (c:C) (s:c9) (g:aB->R Fl):Prop where of ::
 run:∀ ρ,PS c.X s (SR c.X.K c.cls c.E ρ (g ρ))
instance {c:C}{s:c9}{g:aB->R Fl}:CoeFun (JS c s g) (fun _=>∀ ρ,PS c.X s (SR c.X.K c.cls c.E ρ (g ρ))):=⟨JS.run⟩
structure Jk (c:C) (s:List c9) (g:aB->R Fl):Prop where of ::
 run:∀ ρ,zw c.X s (SR c.X.K c.cls c.E ρ (g ρ))
instance {c:C}{s:List c9}{g:aB->R Fl}:CoeFun (Jk c s g) (fun _=>∀ ρ,zw c.X s (SR c.X.K c.cls c.E ρ (g ρ))):=⟨Jk.run⟩
theorem Fr.set (f:Fr K H0 Hs0 la ρ σ H Hs) (i:Nat) (r:RD K Hs v d):Fr K H0 Hs0 la (ρ.set i (.shr d)) (σ.set i (some v)) H Hs:=by
 have u:=f.len;have nx:∀ {j:Nat}{s:Sl},(∀ d,s≠.shr d)->(ρ.set i (.shr d))[j]?=some s->ρ[j]?=some s/\i≠j:=fun {j s} hs e=>by
  by_cases c:i=j
  ·subst c;by_cases l:i<ρ.length
   ·rw [aJ l] at e;exact absurd (bO e).symm (hs d)
   ·rw [bS (by simpa using l)] at e;cases e
  ·rw [am c] at e;exact ⟨e,c⟩
 refine ⟨f.st,by simp [u],fun j e h=>?_,fun j e h=>?_,fun j e h=>?_,fun j k n o a g m q t=>?_,f.lh,fun j e h=>?_,fun j k n o g m=>?_⟩
 ·by_cases c:i=j
  ·subst c;by_cases l:i<ρ.length
   ·rw [aJ l] at h;cases h;exact ⟨v,aJ (by omega),r⟩
   ·rw [bS (by simpa using l)] at h;cases h
  ·rw [am c] at h ⊢;exact f.sh j e h
 ·obtain ⟨h,c⟩:=nx (fun _ z=>by cases z) h;rw [am c];exact f.ow j e h
 ·obtain ⟨h,c⟩:=nx (fun _ z=>by cases z) h;rw [am c];exact f.lk j e h
 ·obtain ⟨g,w⟩:=nx (fun _ z=>by cases z) g;obtain ⟨m,x⟩:=nx (fun _ z=>by cases z) m;rw [am w] at q;rw [am x] at t;exact f.dj j k n o a g m q t
 ·obtain ⟨h,c⟩:=nx (fun _ z=>by cases z) h;obtain ⟨a,B,O⟩:=f.o2 j e h;refine ⟨a,B,by rw [am c];exact O.at_,O.ob,O.nd,O.out,fun b y k A p=>?_,O.inn⟩;obtain ⟨p,E⟩:=nx (fun _ z=>by cases z) p;rw [am E];exact O.dj b y k A p
 ·exact f.u2 j k n o (nx (fun _ z=>by cases z) g).1 (nx (fun _ z=>by cases z) m).1
theorem Fr.setO (f:Fr K H0 Hs0 la ρ σ H Hs) (i:Nat) (n:H a=none) (r:qF K Hs o d):Fr K H0 Hs0 la (ρ.set i (.own d)) (σ.set i (some (.ref a))) (upd H a o) Hs:=by
 have y:=f.step (cn.mine (o:=o) f.st.sub n);have I:=f.len;have N:H0 a=none:=f.st.all.free n;have L:Hs a=none:=f.st.sub.free n;have nx:∀ {j:Nat}{s:Sl},(∀ d,s≠.own d)->(ρ.set i (.own d))[j]?=some s->ρ[j]?=some s/\i≠j:=fun {j s} hs e=>by
  by_cases g:i=j
  ·subst g;by_cases p:i<ρ.length
   ·rw [aJ p] at e;exact absurd (bO e).symm (hs d)
   ·rw [bS (by simpa using p)] at e;cases e
  ·rw [am g] at e;exact ⟨e,g⟩
 have B:∀ j e,ρ[j]?=some (Sl.own e)->σ[j]?≠some (some (V.ref a)):=fun j e h z=>by
  obtain ⟨b,P,m,l,_⟩:=f.ow j e h;rw [z] at m;cases m;rw [n] at l;cases l
 refine ⟨y.st,by simp [I],fun j e h=>?_,fun j e h=>?_,fun j e h=>?_,fun j k v x b m l u t=>?_,f.lh,fun j e h=>?_,fun j k v x m l=>?_⟩
 ·obtain ⟨h,g⟩:=nx (fun _ z=>by cases z) h;rw [am g];exact y.sh j e h
 ·by_cases g:i=j
  ·subst g;by_cases p:i<ρ.length
   ·rw [aJ p] at h;cases h;exact ⟨a,o,aJ (by omega),aI,L,N,r⟩
   ·rw [bS (by simpa using p)] at h;cases h
  ·rw [am g] at h ⊢;exact y.ow j e h
 ·obtain ⟨h,g⟩:=nx (fun _ z=>by cases z) h;rw [am g];exact y.lk j e h
 ·by_cases g:i=j
  ·by_cases q:i=k
   ·exact g.symm.trans q
   ·rw [am q] at l t;subst g;by_cases p:i<ρ.length
    ·rw [aJ (by omega)] at u;cases u;exact (B k x l t).elim
    ·rw [bS (by simpa using p)] at m;cases m
  ·rw [am g] at m u;by_cases q:i=k
   ·subst q;by_cases p:i<ρ.length
    ·rw [aJ (by omega)] at t;cases t;exact (B j v m u).elim
    ·rw [bS (by simpa using p)] at l;cases l
   ·rw [am q] at l t;exact f.dj j k v x b m l u t
 ·obtain ⟨h,g⟩:=nx (fun _ z=>by cases z) h;obtain ⟨b,E,O⟩:=f.o2 j e h;have A:∀ c∈b::E,c≠a:=fun c w z=>by
   subst z;rcases List.mem_cons.mp w with z|z
   ·have:=O.ob;rw [<- z,n] at this;cases this
   ·obtain ⟨o,ho,_⟩:=O.inn.there z;rw [n] at ho;cases ho
  refine ⟨b,E,by rw [am g];exact O.at_,by rw [aC (A b au)];exact O.ob,O.nd,O.out,fun c w k M q=>?_,O.inn.upd fun z=>A a (aq _ z) rfl⟩;by_cases G:i=k
  ·subst G;intro z;by_cases p:i<ρ.length
   ·rw [aJ (by omega)] at z;cases z;exact A _ w rfl
   ·rw [bS (by simp;omega)] at q;cases q
  ·rw [am G] at q ⊢;exact O.dj c w k M q
 ·exact f.u2 j k v x (nx (fun _ z=>by cases z) m).1 (nx (fun _ z=>by cases z) l).1
theorem Fr.write (f:Fr K H0 Hs0 la ρ σ H Hs) (i:Nat) (m:ρ[i]?=some (Sl.own d)) (hs:σ[i]?=some (some (V.ref a))) (r:qF K Hs o d'):Fr K H0 Hs0 la (ρ.set i (.own d')) σ (upd H a o) Hs:=by
 obtain ⟨S,U,l,n,v,q,T⟩:=f.ow i d m;rw [hs] at l;cases l;have M:=f.len;have p:i<ρ.length:=(List.getElem?_eq_some_iff.mp m).1;have nx:∀ {j:Nat}{s:Sl},(∀ d,s≠.own d)->(ρ.set i (.own d'))[j]?=some s->ρ[j]?=some s/\i≠j:=fun {j s} hs e=>by
  by_cases g:i=j
  ·subst g;rw [aJ p] at e;exact absurd (bO e).symm (hs d')
  ·rw [am g] at e;exact ⟨e,g⟩
 refine ⟨⟨fun b u e=>?_,f.st.sh,fun b u e=>?_,f.st.out⟩,by simp [M],fun j e h=>?_,fun j e h=>?_,fun j e h=>?_,fun j k A E b l n v q=>?_,f.lh,fun j e h=>?_,fun j k A E l n=>?_⟩
 ·rw [aC (aK e q)];exact f.st.all b u e
 ·rw [aC (aK e v)];exact f.st.sub b u e
 ·obtain ⟨h,g⟩:=nx (fun _ z=>by cases z) h;exact f.sh j e h
 ·by_cases g:i=j
  ·subst g;rw [aJ p] at h;cases h;exact ⟨a,o,hs,aI,v,q,r⟩
  ·rw [am g] at h;obtain ⟨b,u,k1,k2,k3,x,k5⟩:=f.ow j e h;refine ⟨b,u,k1,?_,k3,x,k5⟩;rw [aC (fun z=>g ?_)]
   ·exact k2
   ·subst z;exact f.dj i j d e b m h hs k1
 ·obtain ⟨h,g⟩:=nx (fun _ z=>by cases z) h;obtain ⟨b,u,k1,k2,k3,x,k5,N⟩:=f.lk j e h;refine ⟨b,u,k1,k2,?_,x,k5,N⟩;rw [aC (aK k5 q)];exact k3
 ·have t:∀ {j:Nat}{e:D},(ρ.set i (.own d'))[j]?=some (Sl.own e)->∃ y,ρ[j]?=some (Sl.own y):=fun {j e} h=>by
   by_cases g:i=j
   ·subst g;exact ⟨d,m⟩
   ·rw [am g] at h;exact ⟨e,h⟩
  obtain ⟨P,l⟩:=t l;obtain ⟨Q,n⟩:=t n;exact f.dj j k P Q b l n v q
 ·obtain ⟨h,g⟩:=nx (fun _ z=>by cases z) h;obtain ⟨b,G,O⟩:=f.o2 j e h;have B:∀ c∈b::G,c≠a:=fun c w z=>by
   subst z;exact O.dj c w i d m hs
  refine ⟨b,G,O.at_,by rw [aC (B b au)];exact O.ob,O.nd,O.out,fun c w k y I=>?_,O.inn.upd fun z=>B a (aq _ z) rfl⟩;by_cases L:i=k
  ·subst L;exact O.dj c w i d m
  ·rw [am L] at I;exact O.dj c w k y I
 ·exact f.u2 j k A E (nx (fun _ z=>by cases z) l).1 (nx (fun _ z=>by cases z) n).1
def dA (ρ:aB):aB:=ρ.map fun s=>match s with
 |.own d=>.shr d
 |.ow2 a=>.shr (.list (a.map .list))
 |s=>s
open Classical in
theorem Fr.share (f:Fr K H0 Hs0 la ρ σ H Hs):∃ c,Fr K H0 Hs0 la (dA ρ) σ H c/\cn H Hs H c\/Fr K H0 Hs0 la (dA ρ) σ H c:=by
 let P:af->Prop:=fun b=>(∃ (i:Nat) (d:D),ρ[i]?=some (Sl.own d)/\σ[i]?=some (some (V.ref b)))\/∃ (i:Nat) (g:List (List D)) (a:af) (B:List af),ρ[i]?=some (Sl.ow2 g)/\O2 K H0 H Hs ρ σ i g a B/\b∈a::B
 let c:Hp:=fun b=>if P b then H b else Hs b
 have y:∀ b,P b->c b=H b:=fun b h=>if_pos h;have w:∀ b,¬ P b->c b=Hs b:=fun b h=>if_neg h;have E:cK Hs c:=fun b o e=>by
  by_cases h:P b
  ·rw [y b h];exact f.st.sub b o e
  ·rw [w b h];exact e
 have l:∀ b o,H0 b=some o->¬ P b:=fun b o e U=>by
  rcases U with ⟨i,d,A,I⟩|⟨i,g,a,B,A,O,p⟩
  ·obtain ⟨a,Y,k1,_,_,G,_⟩:=f.ow i d A;rw [I] at k1;cases k1;rw [e] at G;cases G
  ·have:=(O.out b p).2;rw [e] at this;cases this
 have un:∀ {j:Nat}{s:Sl},(dA ρ)[j]?=some s->(∃ d,s=.shr d/\ρ[j]?=some (Sl.own d))\/(∃ g:List (List D),s=.shr (.list (g.map .list))/\ρ[j]?=some (Sl.ow2 g))\/((∀ d,s≠.own d)/\(∀ d,s≠.ow2 d)/\ρ[j]?=some s):=fun {j s} e=>by
  unfold dA at e;rw [aH] at e;cases h:ρ[j]? with
  |none=>rw [h] at e;cases e
  |some t =>
   rw [h] at e;cases t with
   |own d=>cases e;exact .inl ⟨d,rfl,rfl⟩
   |no=>cases e;exact .inr (.inr ⟨fun _ z=>(by cases z),fun _ z=>(by cases z),rfl⟩)
   |shr d=>cases e;exact .inr (.inr ⟨fun _ z=>(by cases z),fun _ z=>(by cases z),rfl⟩)
   |lck d=>cases e;exact .inr (.inr ⟨fun _ z=>(by cases z),fun _ z=>(by cases z),rfl⟩)
   |ow2 d=>cases e;exact .inr (.inl ⟨d,rfl,rfl⟩)
 refine ⟨c,.inr ⟨⟨f.st.all,f.st.sh.trans E,fun b o e=>?_,fun a o e t z=>?_⟩,by simp [dA,f.len],fun j d h=>?_,fun j d h=>?_,fun j d h=>?_,fun j k M Q a A I _ _=>?_,f.lh,fun j d h=>?_,fun j k M Q A I=>?_⟩⟩
 ·by_cases h:P b
  ·rw [y b h] at e;exact e
  ·rw [w b h] at e;exact f.st.sub b o e
 ·rw [w a (l a o e)];exact f.st.out a o e t z
 ·rcases un h with ⟨d',e,h'⟩|⟨g,e,h'⟩|⟨_,_,h'⟩
  ·cases e;obtain ⟨a,o,k1,k2,k3,G,k5⟩:=f.ow j d h';refine ⟨_,k1,?_⟩;have L:c a=some o:=by rw [y a (.inl ⟨j,d,h',k1⟩)];exact k2
   have e:cK (upd Hs a o) c:=fun b u q=>by
    by_cases p:b=a
    ·subst p;rw [aI] at q;cases q;exact L
    ·rw [aC p] at q;exact E b u q
   exact (k5.share k3).same e
  ·cases e;obtain ⟨a,B,O⟩:=f.o2 j g h';refine ⟨_,O.at_,?_⟩;have L:∀ b∈a::B,∀ o,H b=some o->c b=some o:=fun b p o ho=>by rw [y b (.inr ⟨j,g,a,B,h',O,p⟩)];exact ho
   refine .list (.of (L a au _ O.ob)) ?_;have X:∀ {x:List af}{m:List (List D)},(∀ b∈x,b∈a::B)->CI K H Hs x m->RDs K c (x.map V.ref) (m.map .list):=fun {x m} hs T=>by
    induction T with
    |nil=>exact .nil
    |cons A I _ N=>exact .cons (.list (.of (L _ (hs _ au) _ A)) (I.same E)) (N fun b p=>hs b (aq _ p))
   exact X (fun b p=>aq _ p) O.inn
  ·obtain ⟨v,k1,k2⟩:=f.sh j d h';exact ⟨v,k1,k2.same E⟩
 ·rcases un h with ⟨d',e,h'⟩|⟨d',e,h'⟩|⟨n,_,h'⟩
  ·cases e
  ·cases e
  ·exact (n d rfl).elim
 ·rcases un h with ⟨d',e,h'⟩|⟨d',e,h'⟩|⟨_,_,h'⟩
  ·cases e
  ·cases e
  ·obtain ⟨a,o,k1,k2,k3,G,k5,S⟩:=f.lk j d h';exact ⟨a,o,k1,k2,k3,by rw [w a (l a o k5)];exact G,k5,S.same E⟩
 ·rcases un A with ⟨d',e,h'⟩|⟨d',e,h'⟩|⟨n,_,h'⟩
  ·cases e
  ·cases e
  ·exact (n M rfl).elim
 ·rcases un h with ⟨d',e,h'⟩|⟨d',e,h'⟩|⟨_,n,h'⟩
  ·cases e
  ·cases e
  ·exact (n d rfl).elim
 ·rcases un A with ⟨d',e,h'⟩|⟨d',e,h'⟩|⟨_,n,h'⟩
  ·cases e
  ·cases e
  ·exact (n M rfl).elim
theorem Fr.shared (f:Fr K H0 Hs0 la ρ σ H Hs):∃ a,Fr K H0 Hs0 la (dA ρ) σ H a:=by
 obtain ⟨a,h|h⟩:=f.share
 ·exact ⟨a,h.1⟩
 ·exact ⟨a,h⟩
section
variable {c:C}{e a b:bc}{g ga gb:aB->R D}{pos:Pos}{x:Str}{st:c9}{bU:List c9}{gs gr:aB->R Fl}
def bu (g h:aB->R Fl):aB->R Fl:=fun ρ=>(g ρ).bind fun d=>match d with
 |.nx ρ'=>h ρ'
 |d=>.ok d
theorem dZ:Jk c [] (fun ρ=>.ok (.nx ρ)):=.of fun ρ=>WV DK fun D σ H d=>by obtain ⟨j,i,k,h,f,q⟩:=d;exact q σ H h f
theorem aZ (h:JS c st gs):Jk c [st] gs:=.of fun ρ=>tO (h ρ)
theorem aT (h:JS c st gs) (w:Jk c bU gr):Jk c (st::bU) (bu gs gr):=.of fun ρ i s σ H D I p=>by
 obtain ⟨l,j,m,o,f,q⟩:=p;unfold bu at q;cases k:gs ρ with
 |no=>rw [k] at q;exact q.elim
 |ex x n =>
  rw [k] at q;refine eu (h ρ) (k_ (X:=c.X) (sts:=bU)) i s σ H D I ⟨l,j,m,o,f,?_⟩;rw [k];exact q
 |ok v =>
  rw [k,bind_ok] at q;cases v with
  |nx ρ' =>
   refine eu (h ρ) (w ρ') i s σ H D I ⟨l,j,m,o,f,?_⟩;rw [k];exact fun σ' H' t u=>⟨l,j,m,t,u,q⟩
  |rt d =>
   refine eu (h ρ) (k_ (X:=c.X) (sts:=bU)) i s σ H D I ⟨l,j,m,o,f,?_⟩;rw [k];exact q
  |bk ρ' =>
   refine eu (h ρ) (k_ (X:=c.X) (sts:=bU)) i s σ H D I ⟨l,j,m,o,f,?_⟩;rw [k];exact q
  |ct ρ' =>
   refine eu (h ρ) (k_ (X:=c.X) (sts:=bU)) i s σ H D I ⟨l,j,m,o,f,?_⟩;rw [k];exact q
theorem sE (f:Fr K H0 Hs0 la ρ σ H Hs)
  (h:pS K cls E H0 Hs0 la D' (r.bind k)) (m:∀ d v H' i,r=.ok d->cn H Hs H' i->Fr K H0 Hs0 la ρ σ H' i->RD K i v d->Q v H'):TR K cls E ρ r σ H Q:=by
 refine ⟨H0,Hs0,la,Hs,f,?_⟩;cases r with
 |ok d=>exact fun v H' i s r=>m d v H' i rfl s (f.step s) r
 |ex c n=>exact fun H' i s=>h H' i (f.st.trans s)
 |no=>exact h
theorem sT (f:Fr K H0 Hs0 la ρ σ H Hs)
  (h:pS K cls E H0 Hs0 la D' (r.bind k)) (m:∀ d H' i,r=.ok d->cn H Hs H' i->Fr K H0 Hs0 la ρ σ H' i->Q d H'):ML K cls E ρ r σ H Q:=by
 refine ⟨H0,Hs0,la,Hs,f,?_⟩;cases r with
 |ok d=>exact fun H' i s=>m d H' i rfl s (f.step s)
 |ex c n=>exact fun H' i s=>h H' i (f.st.trans s)
 |no=>exact h
def eA (g:aB->R D):aB->R Fl:=fun ρ=>(g (dA ρ)).bind fun d=>.ok (.rt d)
theorem bY (h:JE c e g):JS c (.Return (some e) pos) (eA g):=.of fun ρ=>wI (zX (h (dA ρ))) fun D σ H i=>by
 obtain ⟨w,s,y,u,f,q⟩:=i;obtain ⟨l,o⟩:=f.shared;refine sE o q fun d v k j n t m p=>?_;unfold eA at q;rw [n,bind_ok] at q;exact q v k j m.st p
def fS (t:aB->R Bool) (g h:aB->R Fl):aB->R Fl:=fun ρ=>(t ρ).bind fun b=>if b then g ρ else h ρ
theorem ik (o:JT c t gt) (n:Jk c A gA) (s:Jk c B gB):JS c (.If t A B pos) (fS gt gA gB):=.of fun ρ=>wI (Oo (o ρ) (n ρ) (s ρ)) fun D σ H j=>by
 obtain ⟨k,i,m,w,f,q⟩:=j;refine sT f q fun d v h p u l=>?_;unfold fS at q;rw [p,bind_ok] at q;cases d with
 |true=>exact DV ⟨k,i,m,h,l,q⟩
 |false=>exact Ac ⟨k,i,m,h,l,q⟩
def jl (i:Nat) (g:aB->R D):aB->R Fl:=fun ρ=>(g ρ).bind fun d=>.ok (.nx (ρ.set i (.shr d)))
theorem i0 (i:Nat) (h:JE c e g) (l:c.X.N.Nodup) (o:c.X.N[i]?=some x:=by rfl) (u:Fo c.X.env.scope x:=by first|exact c8 rfl|exact bC rfl) (hs:dE e (some (.Name x pos')) pos.line c.X.env=pure false:=by rfl)
  (n:c.X.fn x=true\/c.X.env.scope.names.lookup x=some .local:=by first|exact .inl rfl|exact .inr rfl|assumption):JS c (.Assign [.Name x pos'] e pos) (jl i g):=.of fun ρ=>wI (qz l o u (h ρ) hs n) fun D σ H j=>by
 obtain ⟨A,w,B,z,f,q⟩:=j;refine sE f q fun d v m k s y p t=>?_;unfold jl at q;rw [s,bind_ok] at q;exact q _ m k (p.set i t)
def CO (g:aB->R D):aB->R Fl:=fun ρ=>(g ρ).bind fun _=>.ok (.nx ρ)
theorem Eh (h:JE c e g) (hs:dE e none pos.line c.X.env=pure false:=by rfl):JS c (.Expr e pos) (CO g):=.of fun ρ=>wI (o9 (h ρ) hs) fun D σ H i=>by
 obtain ⟨s,n,u,p,f,q⟩:=i;refine sE f q fun d v k j m o l t=>?_;unfold CO at q;rw [m,bind_ok] at q;exact q _ k j l
def TGq (K:aa) (f d:Hp) (i:Nat->Option af) (H h:Hp) (Q:St->Hp->Prop) (r:R aB):Prop:=match r with
 |.ok ρ'=>∀ σ',Fr K f d i ρ' σ' H h->Q σ' H
 |_=>False
inductive YT (K:aa) (ρ:aB) (d:D) (r:R aB) (v:V) (σ:St) (H:Hp) (Q:St->Hp->Prop):Prop
 |mk (H0 Hs0:Hp) (la:Nat->Option af) (Hs:Hp) (f:Fr K H0 Hs0 la ρ σ H Hs) (rd:RD K Hs v d) (q:TGq K H0 Hs0 la H Hs Q r):YT K ρ d r v σ H Q
def YU (K:aa) (ρ:aB) (d:D) (r:R aB):TG:=YT K ρ d r
inductive Vm (K:aa) (ρ:aB) (ds:List D) (r:R aB) (vs:List V) (σ:St) (H:Hp) (Q:St->Hp->Prop):Prop
 |mk (H0 Hs0:Hp) (la:Nat->Option af) (Hs:Hp) (f:Fr K H0 Hs0 la ρ σ H Hs) (rd:RDs K Hs vs ds) (q:TGq K H0 Hs0 la H Hs Q r):Vm K ρ ds r vs σ H Q
def YV (K:aa) (ρ:aB) (ds:List D) (r:R aB):Op:=Vm K ρ ds r
structure JG (c:C) (t:bc) (k:D->aB->R aB):Prop where of ::
 run:∀ ρ d,PG c.X t (YU c.X.K ρ d (k d ρ))
instance {c:C}{t:bc}{k:D->aB->R aB}:CoeFun (JG c t k) (fun _=>∀ ρ d,PG c.X t (YU c.X.K ρ d (k d ρ))):=⟨JG.run⟩
structure XX (c:C) (t:List bc) (k:List D->aB->R aB):Prop where of ::
 run:∀ ρ d,U_ c.X t (YV c.X.K ρ d (k d ρ))
instance {c:C}{t:List bc}{k:List D->aB->R aB}:CoeFun (XX c t k) (fun _=>∀ ρ d,U_ c.X t (YV c.X.K ρ d (k d ρ))):=⟨XX.run⟩
theorem mPG (h:PG X e t) (m:∀ v σ H Q,t' v σ H Q->t v σ H Q):PG X e t':=fun d s σ H v u Q I r q=>h d s σ H v u Q I r (m v σ H Q q)
theorem q0M {X:Cx}{e:List bc}{t t':Op} (h:U_ X e t) (m:∀ v σ H Q,t' v σ H Q->t v σ H Q):U_ X e t':=fun d s σ H v u Q I r q=>h d s σ H v u Q I r (m v σ H Q q)
def cV (i:Nat):D->aB->R aB:=fun d ρ=>.ok (ρ.set i (.shr d))
theorem eV (i:Nat) (j:c.X.N.Nodup) (l:c.X.N[i]?=some x:=by rfl) (k:Fo c.X.env.scope x:=by first|exact c8 rfl|exact bC rfl) (m:c.X.fn x=true\/c.X.env.scope.names.lookup x=some .local:=by first|exact .inl rfl|exact .inr rfl|assumption) :
  JG c (.Name x pos) (cV i):=.of fun ρ d=>mPG (cL j l k m) fun v σ H Q h=>by obtain ⟨p,n,s,o,f,r,q⟩:=h;exact q _ (f.set i r)
def vj:List D->aB->R aB:=fun ds ρ=>match ds with
 |[]=>.ok ρ
 |_=>.no
def eJ (k:D->aB->R aB) (f:List D->aB->R aB):List D->aB->R aB:=fun ds ρ=>match ds with
 |d::r=>(k d ρ).bind fun ρ'=>f r ρ'
 |_=>.no
theorem tZ:XX c [] vj:=.of fun ρ ds=>q0M zx fun vs σ H Q d=>by
 obtain ⟨i,h,k,j,f,r,q⟩:=d;cases r with
 |nil=>exact ⟨rfl,q σ f⟩
 |cons _ _=>exact q.elim
theorem fk (h:JG c t kt) (w:XX c ts kts) (hs:(d_ (t::ts) c.X.env).map (·.2)=oS t c.X.env::(d_ ts c.X.env).map (·.2):=by rfl):XX c (t::ts) (eJ kt kts):=.of fun ρ ds j s σ H vs us Q I B i=>by
 obtain ⟨o,k,p,m,f,r,q⟩:=i;cases r with
 |nil=>exact q.elim
 | @cons v u d y A E =>
  unfold eJ at q;cases l:kt d ρ with
  |ok ρ' =>
   simp only [l,bind_ok] at q;refine m_ (h ρ d) (w ρ' y) hs j s σ H _ us Q I B ⟨v,u,rfl,o,k,p,m,f,A,?_⟩;rw [l];exact fun σ' z=>⟨o,k,p,m,z,E,q⟩
  |ex x n=>simp only [l,bind_ex] at q;exact q.elim
  |no=>simp only [l,bind_no] at q;exact q.elim
def sL (n:Nat) (f:List D->aB->R aB):D->aB->R aB:=fun d ρ=>match d with
 |.tuple ds=>if ds.length=n then f ds ρ else .no
 |_=>.no
theorem y7 (E:c.X.calm=true) (h:XX c ts kts) (B:(d_ ts c.X.env).length=n:=by rfl) (m:(d_ ts c.X.env).findIdx? (·.1)=none:=by rfl):JG c (.Tuple ts k pos) (sL n kts):=.of fun ρ d=>by
 cases d with
 |tuple ds =>
  refine mPG (DL E (h ρ ds) B m) fun v σ H Q l=>?_;obtain ⟨y,j,A,t,f,r,q⟩:=l;cases r with
  | @tuple p xs _ G w =>
   unfold sL at q;by_cases o:ds.length=n
   ·simp only [if_pos o] at q;exact ⟨p,xs,rfl,(lz.of (f.st.sub _ _ G)),by rw [w.length];exact o,y,j,A,t,f,w,q⟩
   ·simp only [if_neg o] at q;exact q.elim
 |_=>exact fun z s σ H v u Q I K i=>by obtain ⟨y,j,A,t,f,r,q⟩:=i;exact q.elim
def zc (g:aB->R D) (k:D->aB->R aB):aB->R Fl:=fun ρ=>(g ρ).bind fun d=>match k d ρ with
 |.ok ρ'=>.ok (.nx ρ')
 |_=>.no
theorem Ei (h:JE c e g) (N:JG c t kt) (hs:sd [t] e pos.line c.X.env=pure false:=by rfl) (K:se [t] e c.X.env=pure none:=by rfl) (A:(d_ [t] c.X.env).map (·.2)=[oS t c.X.env]:=by rfl) :
  JS c (.Assign [t] e pos) (zc g kt):=.of fun ρ=>by
 cases o:g ρ with
 |ok d =>
  refine wI (IH (h ρ) (N ρ d) hs K A) fun D σ H m=>?_;obtain ⟨w,j,z,E,f,q⟩:=m;refine sE (k:=fun d=>match kt d ρ with | .ok ρ'=>.ok (.nx ρ')|_=>.no) f q fun d' v B i u O L M=>?_;rw [o] at u;cases u;unfold zc at q;rw [o,bind_ok] at q;refine ⟨w,j,z,i,L,M,?_⟩;cases y:kt d ρ with
  |ok ρ'=>rw [y] at q;exact fun σ' P=>q σ' B i P
  |ex x n=>rw [y] at q;exact q.elim
  |no=>rw [y] at q;exact q.elim
 |ex x n =>
  refine wI (IH (h ρ) (N ρ .none) hs K A) fun D σ H l=>?_;obtain ⟨w,j,z,E,f,q⟩:=l;refine sE (k:=fun _=>.no) (D':=D) f (by unfold zc at q;rw [o] at q ⊢;exact q) fun d' v B i u O L M=>?_;rw [o] at u;cases u
 |no =>
  refine fun G s σ H D I p=>?_;obtain ⟨w,j,z,E,f,q⟩:=p;unfold zc at q;rw [o] at q;exact q.elim
end
def RX (K:aa) (J:It) (ds:List D) (g f:Hp):Prop:=∀ b a,cK g b->cK f a->cK a b ->
 (∀ i,i<ds.length->J.go i b)/\(∀ i,ds.length<=i->J.stop i b)/\∀ i x e,i<ds.length->J.yld i b x e->∃ d c,ds[i]?=some d/\cn b a e c/\RD K c x d
theorem KZ (h:pC K Hn a vs) (r:RDs K Hs vs ds):RX K (Itl K a) ds Hn Hs:=fun l e f g j=>by
 have q:=f.seq h;refine ⟨fun i b=>?_,fun i b=>⟨vs,q,by rw [r.length];exact b⟩,fun i x k b y=>?_⟩
 ·have c:i<vs.length:=by rw [r.length];exact b
  exact ⟨vs,vs[i],q,a_ c⟩
 ·obtain ⟨rfl,y⟩:=y;obtain ⟨d,k1,k2⟩:=r.get (y vs q);exact ⟨d,e,k1,.refl j,k2.same g⟩
theorem Pz (h:lz K Hn a vs) (r:RDs K Hs vs ds):RX K (Itt K a) ds Hn Hs:=fun l e f g j=>by
 have q:=f.tup h;refine ⟨fun i b=>?_,fun i b=>⟨vs,q,by rw [r.length];exact b⟩,fun i x k b y=>?_⟩
 ·have c:i<vs.length:=by rw [r.length];exact b
  exact ⟨vs,vs[i],q,a_ c⟩
 ·obtain ⟨rfl,y⟩:=y;obtain ⟨d,k1,k2⟩:=r.get (y vs q);exact ⟨d,e,k1,.refl j,k2.same g⟩
theorem PB (x:Str):RX K (Yz x) (oZ x) Hn Hs:=fun g b h j e=>by
 have d:(oZ x).length=x.cps.size:=by simp [oZ]
 refine ⟨fun i a=>by rw [d] at a;exact a,fun i a=>by rw [d] at a;exact a,fun i v f a y=>?_⟩;obtain ⟨rfl,c,k1,rfl⟩:=y;refine ⟨.str ⟨#[c]⟩,b,?_,.refl e,.str _⟩;unfold oZ;rw [aH,dQ,k1];rfl
def sO (lo:Int) (n:Nat):List D:=(br n).map fun (k:Nat)=>bM (lo+k)
theorem PD (lo:Int) (n:Nat):RX K (Wl lo n) (sO lo n) Hn Hs:=fun f b g h d=>by
 have c:(sO lo n).length=n:=by simp [sO]
 refine ⟨fun i a=>by rw [c] at a;exact a,fun i a=>by rw [c] at a;exact a,fun i v e a y=>?_⟩;obtain ⟨rfl,rfl⟩:=y;refine ⟨.int (lo+i),b,?_,.refl d,.int _⟩;rw [c] at a;unfold sO;rw [aH,v_ a];rfl
def rH (n:Nat):List D->List D
 |[]=>[]
 |d::r=>.tuple [.int n,d]::rH (n+1) r
theorem CQ:∀ (ds:List D) (n i:Nat),(rH n ds)[i]?=(ds[i]?).map fun d=>df [.int ((n+i:Nat):Int),d]
 |[],_,_=>by simp [rH]
 |d::r,n,0=>by simp [rH]
 |d::r,n,i+1=>by
  simp only [rH,kr];rw [CQ r (n+1) i,show n+1+i=n+(i+1) by omega]
theorem CS:∀ (ds:List D) (n:Nat),(rH n ds).length=ds.length
 |[],_=>rfl
 |d::r,n=>by simp [rH,CS r]
theorem Tp (h:lz K Hn a vs) (r:RDs K Hs vs ds):RX K (Ite K a) (rH 0 ds) Hn Hs:=fun s f g k l=>by
 have q:=g.tup h;have m:=CS ds 0;refine ⟨fun i c=>?_,fun i c=>⟨vs,q,by rw [r.length];omega⟩,fun i x n c y=>?_⟩
 ·have b:i<vs.length:=by rw [r.length];omega
  exact ⟨vs,vs[i],q,a_ b⟩
 ·obtain ⟨p,j,rfl,y⟩:=y;obtain ⟨x,k0,rfl⟩:=y vs q;obtain ⟨d,k1,k2⟩:=r.get k0;have e:=cn.new (o:=.tup [.int i,x]) l j;refine ⟨.tuple [.int i,d],_,?_,e,.tuple aI (.cons (.int _) (.cons ((k2.same k).same e.sh) .nil))⟩;rw [CQ,k1];simp
def zd:List D->List D->List D
 |x::xs,y::ys=>.tuple [x,y]::zd xs ys
 |_,_=>[]
theorem Gh:∀ (xs ys:List D) (i:Nat) (x y:D),xs[i]?=some x->ys[i]?=some y->(zd xs ys)[i]?=some (.tuple [x,y])
 |x::xs,y::ys,0,_,_,a,b=>by simp at a b;subst a b;rfl
 |_::xs,_::ys,i+1,x,y,a,b=>by
  simp only [kr] at a b;simp only [zd,kr];exact Gh xs ys i x y a b
 |[],_,_,_,_,a,_=>by simp at a
 |_::_,[],_,_,_,_,b=>by simp at b
theorem Gi:∀ (xs ys:List D),(zd xs ys).length=min xs.length ys.length
 |x::xs,y::ys=>by simp [zd,Gi xs ys]
 |[],_=>by simp [zd]
 |_::_,[]=>by simp [zd]
theorem WY (h:lz K Hn a vs) (r:RDs K Hs vs ds) (h':lz K Hn b ws) (f:RDs K Hs ws es):RX K (Itz K a b) (zd ds es) Hn Hs:=fun B s l m v=>by
 have q:=l.tup h;have q':=l.tup h';have w:=Gi ds es;refine ⟨fun i k=>?_,fun i k=>⟨vs,ws,q,q',by rw [r.length,f.length];omega⟩,fun i x A k y=>?_⟩
 ·have n:i<vs.length:=by rw [r.length];omega
  have t:i<ws.length:=by rw [f.length];omega
  exact ⟨vs,ws,vs[i],ws[i],q,q',a_ n,a_ t⟩
 ·obtain ⟨p,u,rfl,y⟩:=y;obtain ⟨x,z,k0,c,rfl⟩:=y vs ws q q';obtain ⟨d,k1,k2⟩:=r.get k0;obtain ⟨d',j,e⟩:=f.get c;have g:=cn.new (o:=.tup [x,z]) v u;exact ⟨.tuple [d,d'],_,Gh ds es i d d' k1 j,g,.tuple aI (.cons ((k2.same m).same g.sh) (.cons ((e.same m).same g.sh) .nil))⟩
inductive YW (K:aa) (cls:Str->af) (E:XK) (ρ:aB) (r:R (List D)) (σ:St) (H:Hp) (Q:It->Hp->Prop):Prop
 |mk (H0 Hs0:Hp) (la:Nat->Option af) (Hs:Hp) (f:Fr K H0 Hs0 la ρ σ H Hs) (q:Fin K cls E H Hs r fun ds=>∀ J H' Hs' Hn,cn H Hs H' Hs'->cK Hn H'->RX K J ds Hn Hs'->Q J H'):YW K cls E ρ r σ H Q
def TIr (K:aa) (cls:Str->af) (E:XK) (ρ:aB) (r:R (List D)):TI:=YW K cls E ρ r
inductive YX (K:aa) (cls:Str->af) (E:XK) (ρ:aB) (r:R (List D)) (σ:St) (H:Hp) (Q:It->Hp->Prop):Prop
 |mk (H0 Hs0:Hp) (la:Nat->Option af) (Hs:Hp) (f:Fr K H0 Hs0 la ρ σ H Hs) (q:Fin K cls E H Hs r fun ds=>∀ J H' Hs',cn H Hs H' Hs'->RX K J ds Hs' Hs'->Q J H'):YX K cls E ρ r σ H Q
def TIs (K:aa) (cls:Str->af) (E:XK) (ρ:aB) (r:R (List D)):TI:=YX K cls E ρ r
structure JI (c:C) (tg it:bc) (g:aB->R (List D)):Prop where of ::
 run:∀ ρ,PI c.X tg it (TIr c.X.K c.cls c.E ρ (g ρ))
instance {c:C}{tg it:bc}{g:aB->R (List D)}:CoeFun (JI c tg it g) (fun _=>∀ ρ,PI c.X tg it (TIr c.X.K c.cls c.E ρ (g ρ))):=⟨JI.run⟩
structure NV (c:C) (tg it:bc) (g:aB->R (List D)):Prop where of ::
 run:∀ ρ,PI c.X tg it (TIs c.X.K c.cls c.E ρ (g ρ))
instance {c:C}{tg it:bc}{g:aB->R (List D)}:CoeFun (NV c tg it g) (fun _=>∀ ρ,PI c.X tg it (TIs c.X.K c.cls c.E ρ (g ρ))):=⟨NV.run⟩
theorem MQ (h:PI X tg e t) (m:∀ σ H Q,t' σ H Q->t σ H Q):PI X tg e t':=fun a s σ H Q I q=>h a s σ H Q I (m σ H Q q)
def Av:D->R (List D)
 |.list ds=>.ok ds
 |.tuple ds=>.ok ds
 |.str x=>.ok (oZ x)
 |_=>.no
def kz (g:aB->R D):aB->R (List D):=fun ρ=>(g ρ).bind Av
theorem fK (h:JB c l g):JI c tg l (kz g):=.of fun ρ=>by
 cases j:g ρ with
 |no=>exact fun e s σ H Q I A=>by obtain ⟨p,b,t,o,f,q⟩:=A;exact by unfold kz at q;rw [j] at q;exact q.elim
 |ex x n =>
  refine MQ (zy (h ρ)) fun σ H Q O=>?_;obtain ⟨p,b,t,o,f,q⟩:=O;refine one f q fun d v m i k u z w=>?_;rw [j] at k;cases k
 |ok d =>
  cases d with
  |list ds =>
   refine MQ (zy (h ρ)) fun σ H Q B=>?_;obtain ⟨p,b,t,o,f,q⟩:=B;refine one f q fun d v m i k u z w=>?_;rw [j] at k;cases k;unfold kz at q;rw [j,bind_ok] at q;obtain ⟨a,vs,rfl,y,P⟩:=w.list z.st.sub;exact ⟨a,rfl,⟨vs,y⟩,q _ m i m u (.refl _) (KZ y P)⟩
  |tuple ds =>
   refine MQ (Ot (h ρ)) fun σ H Q E=>?_;obtain ⟨p,b,t,o,f,q⟩:=E;refine one f q fun d v m i k u z w=>?_;rw [j] at k;cases k;unfold kz at q;rw [j,bind_ok] at q;obtain ⟨a,vs,rfl,y,P,_⟩:=w.tuple z.st.sub;exact ⟨a,rfl,⟨vs,y⟩,q _ m i m u (.refl _) (Pz y P)⟩
  |str x =>
   refine MQ (P7 (h ρ)) fun σ H Q N=>?_;obtain ⟨p,b,t,o,f,q⟩:=N;refine one f q fun d v m i k u z w=>?_;rw [j] at k;cases k;unfold kz at q;rw [j,bind_ok] at q;exact ⟨x,w.str,q _ m i m u (.refl _) (PB x)⟩
  |none=>exact fun e s σ H Q I G=>by obtain ⟨p,b,t,o,f,q⟩:=G;exact by unfold kz at q;rw [j] at q;exact q.elim
  |bool _=>exact fun e s σ H Q I K=>by obtain ⟨p,b,t,o,f,q⟩:=K;exact by unfold kz at q;rw [j] at q;exact q.elim
  |int _=>exact fun e s σ H Q I L=>by obtain ⟨p,b,t,o,f,q⟩:=L;exact by unfold kz at q;rw [j] at q;exact q.elim
  |dict _=>exact fun e s σ H Q I M=>by obtain ⟨p,b,t,o,f,q⟩:=M;exact by unfold kz at q;rw [j] at q;exact q.elim
theorem Tq (h:JE c l g):NV c tg l (kz g):=.of fun ρ=>by
 cases i:g ρ with
 |no=>exact fun b s σ H Q I N=>by obtain ⟨m,a,o,k,f,q⟩:=N;exact by unfold kz at q;rw [i] at q;exact q.elim
 |ex x n =>
  refine MQ (zy (h ρ)) fun σ H Q K=>?_;obtain ⟨m,a,o,k,f,q⟩:=K;refine zb f q fun d v t e j p G u=>?_;rw [i] at j;cases j
 |ok d =>
  cases d with
  |list ds =>
   refine MQ (zy (h ρ)) fun σ H Q M=>?_;obtain ⟨m,a,o,k,f,q⟩:=M;refine zb f q fun d v t e j p G u=>?_;rw [i] at j;cases j;unfold kz at q;rw [i,bind_ok] at q;cases u with
   |list w O=>exact ⟨_,rfl,⟨_,G.st.sub.seq w⟩,q _ t e p (KZ w O)⟩
  |tuple ds =>
   refine MQ (Ot (h ρ)) fun σ H Q A=>?_;obtain ⟨m,a,o,k,f,q⟩:=A;refine zb f q fun d v t e j p G u=>?_;rw [i] at j;cases j;unfold kz at q;rw [i,bind_ok] at q;cases u with
   |tuple w O=>exact ⟨_,rfl,⟨_,(lz.of (G.st.sub _ _ w))⟩,q _ t e p (Pz (.of w) O)⟩
  |str x =>
   refine MQ (P7 (h ρ)) fun σ H Q B=>?_;obtain ⟨m,a,o,k,f,q⟩:=B;refine zb f q fun d v t e j p G u=>?_;rw [i] at j;cases j;unfold kz at q;rw [i,bind_ok] at q;cases u with
   |str _=>exact ⟨x,rfl,q _ t e p (PB x)⟩
  |none=>exact fun b s σ H Q I L=>by obtain ⟨m,a,o,k,f,q⟩:=L;exact by unfold kz at q;rw [i] at q;exact q.elim
  |bool _=>exact fun b s σ H Q I E=>by obtain ⟨m,a,o,k,f,q⟩:=E;exact by unfold kz at q;rw [i] at q;exact q.elim
  |int _=>exact fun b s σ H Q I z=>by obtain ⟨m,a,o,k,f,q⟩:=z;exact by unfold kz at q;rw [i] at q;exact q.elim
  |dict _=>exact fun b s σ H Q I y=>by obtain ⟨m,a,o,k,f,q⟩:=y;exact by unfold kz at q;rw [i] at q;exact q.elim
theorem NV.i (h:NV c tg l gs):JI c tg l gs:=.of fun ρ=>MQ (h ρ) fun σ H Q ⟨g,d,j,e,f,q⟩=>⟨g,d,j,e,f,by
 cases b:gs ρ with
 |ok ds=>rw [b] at q;exact fun J H' a s i=>q J H' a a s s.sub i
 |ex x n=>rw [b] at q;exact q
 |no=>rw [b] at q;exact q⟩
def Jl:List D->R (List D)
 |[.int j]=>if -(2 ^ 62)<=j/\j<2 ^ 62 then .ok (sO 0 j.toNat) else .no
 |_=>.no
def CT (a:aB->R (List D)):aB->R (List D):=fun ρ=>(a ρ).bind Jl
theorem vk (o:Gl c.X "range") (l:c.X.mg "range"=none) (k:Tf c [a] gs) (hs:ao [a] c.X.env=[(false,bG a c.X.env)]:=by rfl):NV c tg (.Call (.Name "range" p) [a] [] pos) (CT gs):=.of fun ρ=>MQ (Cr o l (k ρ) hs) fun σ H Q b=>by
 obtain ⟨u,s,w,t,f,q⟩:=b;refine KO f q fun ds vs i e m g v n=>?_;unfold CT at q;rw [m,bind_ok] at q;unfold Jl at q;split at q
 ·rename_i j
  by_cases d:-(2 ^ 62)<=j/\j<2 ^ 62
  ·rw [if_pos d] at q;obtain ⟨x,rfl,h⟩:=n.one;exact ⟨j,by rw [h.int],d.1,d.2,q _ i e g (PD 0 _)⟩
  ·rw [if_neg d] at q;exact q.elim
 ·exact q.elim
def enm:List D->R (List D)
 |[.tuple ds]=>.ok (rH 0 ds)
 |_=>.no
def Jm (a:aB->R (List D)):aB->R (List D):=fun ρ=>(a ρ).bind enm
theorem RDs.one (h:RDs K H xs [d]):∃ x,xs=[x]/\RD K H x d:=by
 cases h with|cons a t=>cases t;exact ⟨_,rfl,a⟩
theorem RDs.two {K:aa}{H:Hp}{xs:List V}{d e:D} (h:RDs K H xs [d,e]):∃ x y,xs=[x,y]/\RD K H x d/\RD K H y e:=by
 cases h with|cons a t=>cases t with|cons b t=>cases t;exact ⟨_,_,rfl,a,b⟩
theorem Aw {x1} (s:Gl c.X "enumerate") (k:c.X.mg "enumerate"=none) (j:HV c [a] gs) (hs:ao [a] c.X.env=[(false,bG a c.X.env)]:=by rfl):NV c (.Tuple elts x1 tpos) (.Call (.Name "enumerate" p) [a] [] pos) (Jm gs):=.of fun ρ=>MQ (T7 s k (j ρ) hs) fun σ H Q b=>by
 obtain ⟨v,t,w,u,f,q⟩:=b;refine G6 f q fun ds vs i d m g l n=>?_;unfold Jm at q;rw [m,bind_ok] at q;unfold enm at q;split at q
 ·obtain ⟨x,rfl,h⟩:=n.one;cases h with
  |tuple e o=>exact ⟨_,_,rfl,(lz.of (l.st.sub _ _ e)),q _ i d g (Tp (.of e) o)⟩
 ·exact q.elim
def zp:List D->R (List D)
 |[.tuple ds,.tuple a]=>.ok (zd ds a)
 |_=>.no
def Tr (a:aB->R (List D)):aB->R (List D):=fun ρ=>(a ρ).bind zp
theorem Tt {x1} (z:Gl c.X "zip") (o:c.X.mg "zip"=none) (n:HV c [a,b] gs) (hs:ao [a,b] c.X.env=[(false,bG a c.X.env),(false,bG b c.X.env)]:=by rfl) (e:ao [b] c.X.env=[(false,bG b c.X.env)]:=by rfl) :
  NV c (.Tuple elts x1 tpos) (.Call (.Name "zip" p) [a,b] [] pos) (Tr gs):=.of fun ρ=>MQ (WN z o (n ρ) hs e) fun σ H Q d=>by
 obtain ⟨E,A,G,B,f,q⟩:=d;refine G6 f q fun ds vs m g s k j u=>?_;unfold Tr at q;rw [s,bind_ok] at q;unfold zp at q;split at q
 ·obtain ⟨x,y,rfl,l,t⟩:=u.two;cases l with
  |tuple h w =>
   cases t with
   |tuple i v=>exact ⟨_,_,_,_,rfl,(lz.of (j.st.sub _ _ h)),(lz.of (j.st.sub _ _ i)),q _ m g k (WY (.of h) w (.of i) v)⟩
 ·exact q.elim
inductive TNI (K:aa) (cls:Str->af) (E:XK) (ρ:aB) (r:R D) (σ:St) (H:Hp) (Q:VK):Prop
 |mk (H0 Hs0:Hp) (la:Nat->Option af) (Hs:Hp) (f:Fr K H0 Hs0 la ρ σ H Hs) (q:Fin K cls E H Hs r fun d=>∀ a o H' Hs',cn H Hs H' Hs'->H' a=none->qF K Hs' o d->Q (.ref a) (upd H' a o)):TNI K cls E ρ r σ H Q
def TN (K:aa) (cls:Str->af) (E:XK) (ρ:aB) (r:R D):TE:=TNI K cls E ρ r
structure JN (c:C) (e:bc) (g:aB->R D):Prop where of ::
 run:∀ ρ,PE c.X e (TN c.X.K c.cls c.E ρ (g ρ))
instance {c:C}{e:bc}{g:aB->R D}:CoeFun (JN c e g) (fun _=>∀ ρ,PE c.X e (TN c.X.K c.cls c.E ρ (g ρ))):=⟨JN.run⟩
section
variable {c:C}{e a b l tg:bc}{g ga gb:aB->R D}{pos p:Pos}{gs:aB->R (List D)}{es:List bc}{x:Str}
theorem q0N (q:TR K cls E ρ r σ H Q):TN K cls E ρ r σ H Q:=by
 obtain ⟨i,h,m,k,f,q⟩:=q;refine ⟨i,h,m,k,f,?_⟩;cases r with
 |ok d=>exact fun a o H' j s n r=>q _ _ _ (s.trans (.new s.sub n)) (r.share (s.sub.free n))
 |ex x n=>exact q
 |no=>exact q
theorem JN.je (h:JN c e g):JE c e g:=.of fun ρ=>ni (h ρ) fun σ H Q q=>q0N q
theorem PF (h:HV c es gs):JN c (.List es pos) (fj gs .list):=.of fun ρ=>ni (jv (h ρ)) fun σ H Q d=>by
 obtain ⟨v,t,y,u,f,q⟩:=d;refine G6 f q fun ds vs n j o m w k=>?_;unfold fj at q;rw [o,bind_ok] at q;by_cases i:ds.length<=1000
 ·rw [if_pos i] at q;exact ⟨bt (bZ (by rw [k.length];exact i)),fun p s=>q p _ n j m s (.lst k)⟩
 ·rw [if_neg i] at q;exact q.elim
theorem K_:JN c (.Dict [] [] pos) (fun _=>.ok (.dict [])):=.of fun ρ=>ni OR fun σ H Q d=>by obtain ⟨k,j,m,i,f,q⟩:=d;exact fun p h=>q p _ H i (.refl f.st.sub) h (.dK .nil)
def kW (i:Nat) (g:aB->R D):aB->R Fl:=fun ρ=>(g ρ).bind fun d=>.ok (.nx (ρ.set i (.own d)))
theorem sN (f:Fr K H0 Hs0 la ρ σ H Hs)
  (h:pS K cls E H0 Hs0 la D' (r.bind k)) (m:∀ d a o H' i,r=.ok d->Fr K H0 Hs0 la ρ σ H' i->H' a=none->qF K i o d->Q (.ref a) (upd H' a o)):TN K cls E ρ r σ H Q:=by
 refine ⟨H0,Hs0,la,Hs,f,?_⟩;cases r with
 |ok d=>exact fun a o H' i s n r=>m d a o H' i rfl (f.step s) n r
 |ex c n=>exact fun H' i s=>h H' i (f.st.trans s)
 |no=>exact h
theorem wM (i:Nat) (h:JN c e g) (m:c.X.N.Nodup) (t:c.X.N[i]?=some x:=by rfl) (y:Fo c.X.env.scope x:=by first|exact c8 rfl|exact bC rfl) (hs:dE e (some (.Name x pos')) pos.line c.X.env=pure false:=by rfl)
  (s:c.X.fn x=true\/c.X.env.scope.names.lookup x=some .local:=by first|exact .inl rfl|exact .inr rfl|assumption):JS c (.Assign [.Name x pos'] e pos) (kW i g):=.of fun ρ=>wI (qz m t y (h ρ) hs s) fun D σ H j=>by
 obtain ⟨E,z,G,B,f,q⟩:=j;refine sN f q fun d a o A k v u n w=>?_;unfold kW at q;rw [v,bind_ok] at q;exact q _ _ k (u.setO i n w)
def MR {α:Type}:R α->R α
 |.ex _ _=>.no
 |r=>r
theorem L3 {α:Type}{r:R α}{a:α} (h:MR r=.ok a):r=.ok a:=by
 cases r<;>first|exact h|cases h
def il (f:D->R (Option D)):List D->R (List D)
 |[]=>.ok []
 |d::r=>(f d).bind fun o=>(il f r).bind fun ys=>.ok (match o with
  |some y=>y::ys
  |none=>ys)
theorem Ax (h:il f (d::r)=.ok ys):∃ o i,f d=.ok o/\il f r=.ok i/\ys=o.toList++i:=by
 unfold il at h;cases j:f d with
 |ok o =>
  rw [j,bind_ok] at h;cases k:il f r with
  |ok i =>
   rw [k,bind_ok] at h;cases h;cases o<;>exact ⟨_,i,rfl,rfl,rfl⟩
  |ex x n=>rw [k] at h;cases h
  |no=>rw [k] at h;cases h
 |ex x n=>rw [j] at h;cases h
 |no=>rw [j] at h;cases h
def Tu:Sl->Sl
 |.own d=>.lck d
 |.ow2 _=>.no
 |s=>s
def o_ (nt:Nat) (ix:List Nat) (ρ:aB):aB:=cg nt Sl.no++ix.map fun i=>Tu ((ρ[i]?).getD .no)
def YY (nt:Nat):D->aB->R aB:=match nt with
 | 1=>cV 0
 | 2=>sL 2 (eJ (cV 0) (eJ (cV 1) vj))
 |_=>fun _ _=>.no
def jt (nt:Nat) (ρ:aB) (gt:aB->R Bool) (ge:aB->R D):D->R (Option D):=fun d=>MR ((YY nt d ρ).bind fun ρ'=>(gt ρ').bind fun b=>if b then (ge ρ').bind fun y=>.ok (some y) else .ok none)
def dJ (nt:Nat) (ix:List Nat) (d:aB->R (List D)) (gt:aB->R Bool) (ge:aB->R D):aB->R D:=fun ρ=>(d ρ).bind fun ds=>if ds.length<=1000 then (il (jt nt (o_ nt ix ρ) gt ge) ds).bind fun ys=>.ok (.list ys) else .no
structure YZ (c:C) (ifs:List bc) (g:aB->R Bool):Prop where of ::
 run:∀ ρ,SZ c.X ifs (ML c.X.K c.cls c.E ρ (g ρ))
instance {c:C}{ifs:List bc}{g:aB->R Bool}:CoeFun (YZ c ifs g) (fun _=>∀ ρ,SZ c.X ifs (ML c.X.K c.cls c.E ρ (g ρ))):=⟨YZ.run⟩
theorem fL:YZ c [] (fun _=>.ok true):=.of fun ρ d s σ H Q I h=>by obtain ⟨k,j,m,i,f,q⟩:=h;exact S_ d s σ H Q I (q H i (.refl f.st.sub))
theorem qJ (h:JT c e gt):YZ c [e] gt:=.of fun ρ=>T2 (h ρ)
def MT (K:aa) (nt:Nat):TG:=match nt with
 | 1=>wt 0
 |_=>Wf K 2 (L2.ah (wt 0) (L2.ah (wt 1) L2.aN))
theorem zD {K:aa}{nt:Nat} (h:nt=1\/nt=2):WJ nt (MT K nt):=by
 rcases h with rfl|rfl
 ·exact OU (by decide)
 ·exact T4 (by decide) (by decide)
theorem Gj {K:aa}{nt:Nat}{o j H k:Hp}{s:Nat->Option af}{ρ ρ':aB}{σ:St}{v:V}{d:D}{Q:St->Hp->Prop} (m:nt=1\/nt=2) (f:Fr K o j s ρ σ H k) (r:RD K k v d) (h:YY nt d ρ=.ok ρ')
  (q:∀ σ',Fr K o j s ρ' σ' H k->Q σ' H):MT K nt v σ H Q:=by
 rcases m with rfl|rfl
 ·cases h;exact q _ (f.set 0 r)
 ·unfold YY sL at h;simp only at h;cases r with
  | @tuple p xs ds t i =>
   simp only at h;split at h
   ·rename_i n
    cases i with
    |nil=>cases n
    |cons u i =>
     cases i with
     |nil=>cases n
     |cons w i =>
      cases i with
      |nil =>
       cases h;exact ⟨p,_,rfl,(lz.of (f.st.sub _ _ t)),rfl,_,_,rfl,_,_,rfl,rfl,q _ ((f.set 0 u).set 1 w)⟩
      |cons _ _=>simp at n
   ·cases h
  |none=>cases h
  |bool _=>cases h
  |int _=>cases h
  |str _=>cases h
  |list _ _=>cases h
  |dictK _ _=>cases h
  |dictT _ _ _=>cases h
  |dictF _ _ _=>cases h
  |desk _ _ _ _=>cases h
theorem Fr.block (f:Fr K H0 Hs0 la ρ σ H Hs) (nt:Nat) (ix:List Nat):∃ z,Fr K H Hs z (o_ nt ix ρ) (L2.n8 nt ix σ) H Hs:=by
 have B:∀ (j:Nat) (d:D),(o_ nt ix ρ)[j]?=some (Sl.lck d)->∃ a o,(L2.n8 nt ix σ)[j]?=some (some (V.ref a))/\H a=some o/\Hs a=none/\qF K Hs o d:=fun j d h=>by
  unfold o_ at h;by_cases m:j<nt
  ·rw [bR (by simpa using m),bI,if_pos m] at h;cases h
  ·have m:nt<=j:=by omega
   rw [bg (by simpa using m),de,aH] at h;cases t:ix[j-nt]? with
   |none=>rw [t] at h;cases h
   |some i =>
    rw [t] at h;have w:∀ v,σ[i]?=some (some v)->(L2.n8 nt ix σ)[j]?=some (some v):=fun v k1=>by
     unfold L2.n8;rw [bg (by simpa using m),de,aH,t];simp [k1]
    cases n:ρ[i]? with
    |none=>simp only [cJ,n,ig,Tu] at h;cases h
    |some s =>
     simp only [cJ,n,lw] at h;cases s with
     |own d' =>
      cases h;obtain ⟨a,o,k1,k2,k3,y,k5⟩:=f.ow i d n;exact ⟨a,o,w _ k1,k2,k3,k5⟩
     |lck d' =>
      cases h;obtain ⟨a,o,k1,k2,k3,y,k5,I⟩:=f.lk i d n;exact ⟨a,o,w _ k1,k3,y,I⟩
     |no=>cases h
     |shr _=>cases h
     |ow2 _=>cases h
 have u:∀ (j:Nat) (d:List (List D)),¬ (o_ nt ix ρ)[j]?=some (Sl.ow2 d):=fun j d h=>by
  unfold o_ at h;by_cases m:j<nt
  ·rw [bR (by simpa using m),bI,if_pos m] at h;cases h
  ·have m:nt<=j:=by omega
   rw [bg (by simpa using m),de,aH] at h;cases t:ix[j-nt]? with
   |none=>rw [t] at h;cases h
   |some i =>
    rw [t] at h;cases n:ρ[i]? with
    |none=>simp only [cJ,n,ig,Tu] at h;cases h
    |some s =>
     simp only [cJ,n,lw] at h;cases s<;>cases h
 refine ⟨fun j=>match (o_ nt ix ρ)[j]?,(L2.n8 nt ix σ)[j]? with
  |some (Sl.lck _),some (some (V.ref a))=>some a
  |_,_=>none,.refl f.st.sub,by simp [o_,L2.n8],fun j d h=>?_,fun j d h=>?_,fun j d h=>?_,fun j k A G a q E _ _=>?_,fun j a h=>?_,fun j d h=>(u j d h).elim,fun j k A G q _=>(u j A q).elim⟩
 case refine_3 =>
  obtain ⟨a,o,k1,k2,k3,y⟩:=B j d h;exact ⟨a,o,k1,by rw [h,k1],k2,k3,k2,y⟩
 case refine_5 =>
  split at h
  ·rename_i d L q E
   cases h;obtain ⟨L,o,k1,k2,_⟩:=B j d q;rw [E] at k1;cases k1;exact ⟨o,k2⟩
  ·cases h
 all_goals
  unfold o_ at *
 ·have h:=h;by_cases m:j<nt
  ·rw [bR (by simpa using m),bI,if_pos m] at h;cases h
  ·have m:nt<=j:=by omega
   rw [bg (by simpa using m),de,aH] at h;cases t:ix[j-nt]? with
   |none=>rw [t] at h;cases h
   |some i =>
    rw [t] at h;cases n:ρ[i]? with
    |none=>simp only [cJ,n,ig,Tu] at h;cases h
    |some s =>
     simp only [cJ,n,lw] at h;cases s with
     |shr d' =>
      cases h;obtain ⟨v,k1,k2⟩:=f.sh i d n;refine ⟨v,?_,k2⟩;unfold L2.n8;rw [bg (by simpa using m),de,aH,t];simp [k1]
     |no=>cases h
     |own _=>cases h
     |lck _=>cases h
     |ow2 _=>cases h
 ·have h:=h;by_cases m:j<nt
  ·rw [bR (by simpa using m),bI,if_pos m] at h;cases h
  ·have m:nt<=j:=by omega
   rw [bg (by simpa using m),de,aH] at h;cases t:ix[j-nt]? with
   |none=>rw [t] at h;cases h
   |some i =>
    rw [t] at h;cases n:ρ[i]? with
    |none=>simp only [cJ,n,ig,Tu] at h;cases h
    |some s =>
     simp only [cJ,n,lw] at h;cases s<;>cases h
 ·have q:=q;by_cases m:j<nt
  ·rw [bR (by simpa using m),bI,if_pos m] at q;cases q
  ·have m:nt<=j:=by omega
   rw [bg (by simpa using m),de,aH] at q;cases t:ix[j-nt]? with
   |none=>rw [t] at q;cases q
   |some i =>
    rw [t] at q;cases n:ρ[i]? with
    |none=>simp only [cJ,n,ig,Tu] at q;cases q
    |some s =>
     simp only [cJ,n,lw] at q;cases s<;>cases q
theorem Ay (h:∀ d c n,f d≠.ex c n):∀ (ds:List D) (c:Str) (n:Option D),il f ds≠.ex c n
 |[],c,n=>fun e=>by cases e
 |d::r,c,n=>fun e=>by
  unfold il at e;cases j:f d with
  |ok o =>
   rw [j,bind_ok] at e;cases i:il f r with
   |ok m=>rw [i,bind_ok] at e;cases e
   |ex x k=>exact Ay h r x k i
   |no=>rw [i] at e;cases e
  |ex x k=>exact h d x k j
  |no=>rw [j] at e;cases e
theorem Gk (nt:Nat) (ρ:aB) (gt:aB->R Bool) (ge:aB->R D) (d:D) (c:Str) (n:Option D):jt nt ρ gt ge d≠.ex c n:=by
 unfold jt MR;split<;>first|exact fun e=>by cases e|skip
 rename_i h
 exact fun e=>h c n e
inductive cnI (K:aa) (f:D->R (Option D)) (ds ys:List D) (H1 Hs1:Hp) (i m:Nat) (acc:List V) (H':Hp):Prop
 |mk (done bU zs ya Hs':_) (h0:ds=done++bU) (h1:done.length=i) (h2:bU.length=m) (h3:cn H1 Hs1 H' Hs') (h4:RDs K Hs' acc ya) (h5:ya.length<=i) (h6:il f bU=.ok zs) (h7:ys=ya++zs):cnI K f ds ys H1 Hs1 i m acc H'
theorem Ej {K:aa}{cls:Str->af}{E:XK}{nt:Nat}{ix:List Nat}{Y:aB->R (List D)}{gt:aB->R Bool}{ge:aB->R D}{ρ:aB}{σ:St}{H:Hp}{Q:VK} (U:nt=1\/nt=2)
  (q:TN K cls E ρ (dJ nt ix Y gt ge ρ) σ H Q) :
  OS nt ix (TIr K cls E ρ (Y ρ)) (MT K nt) (fun σ H Q=>∃ ρ',ML K cls E0 ρ' (gt ρ') σ H Q) (fun σ H Q=>∃ ρ',TR K cls E0 ρ' (ge ρ') σ H Q) σ H Q:=by
 obtain ⟨H0,a4,la,Hs,f,q⟩:=q;refine ⟨H0,a4,la,Hs,f,?_⟩;unfold dJ at q;cases hi:Y ρ with
 |no=>rw [hi] at q;exact q
 |ex x n=>rw [hi] at q;exact q
 |ok ds =>
  rw [hi,bind_ok] at q;intro J H1 I Hn s1 sn it;by_cases hl:ds.length<=1000
  ·rw [if_pos hl] at q;cases T:il (jt nt (o_ nt ix ρ) gt ge) ds with
   |no=>rw [T] at q;exact q.elim
   |ex x n=>exact (Ay (Gk _ _ _ _) _ _ _ T).elim
   |ok ys =>
    rw [T,bind_ok] at q;obtain ⟨lb,fb⟩:=(f.step s1).block nt ix;refine ⟨cnI K (jt nt (o_ nt ix ρ) gt ge) ds ys H1 I,
     ⟨ds.length,[],ds,ys,[],I,rfl,rfl,rfl,.refl s1.sub,.nil,cy _,T,rfl⟩,?_⟩
    rintro i m a6 H' ⟨done,bU,zs,ya,L,j,k,N,t,P,yl,hz,O⟩;obtain ⟨a3,s,u⟩:=it H' L (sn.trans t.all) t.sh t.sub;cases bU with
    |nil =>
     left;cases hz;rw [cb] at j O;subst O j;exact ⟨s i (by omega),fun p hp=>q p _ H' L (s1.trans t) hp (.lst P)⟩
    |cons d bU =>
     right;have B:i<ds.length:=by rw [j,bB,aX];omega
     refine ⟨a3 i B,bZ (by rw [P.length];omega),fun x H2 a1=>?_⟩;obtain ⟨d',a0,hd,M,r2⟩:=u i x H2 B a1;have a2:d'=d:=by
      rw [j,bg (by omega)] at hd;simp [k] at hd;exact hd.symm
     subst a2;obtain ⟨o,w,h,G,rfl⟩:=Ax hz;have h:=L3 h;cases S:YY nt d' (o_ nt ix ρ) with
     |no=>rw [S] at h;cases h
     |ex x n=>rw [S] at h;cases h
     |ok ρ' =>
      rw [S,bind_ok] at h;refine Gj U ((fb.step t).step M) r2 S fun a5 f2=>⟨ρ',?_⟩;refine ⟨_,_,_,a0,f2,?_⟩;cases ht:gt ρ' with
      |no=>rw [ht] at h;cases h
      |ex x n=>rw [ht] at h;cases h
      |ok b =>
       rw [ht,bind_ok] at h;intro H3 A z;cases b with
       |false =>
        rw [if_neg aQ] at h;cases h;refine Ac ⟨bU.length,by rw [<- N];simp,done++[d'],bU,w,ya,A,by rw [j];simp,by simp [k],rfl,(t.trans M).trans z,P.same (M.trans z).sh,by omega,G,by simpa using O⟩
       |true =>
        rw [if_pos rfl] at h;refine DV ⟨ρ',_,_,_,A,f2.step z,?_⟩;cases he:ge ρ' with
        |no=>rw [he] at h;cases h
        |ex x n=>rw [he] at h;cases h
        |ok y =>
         rw [he,bind_ok] at h;cases h;intro v H4 X s4 r4;exact ⟨bU.length,by rw [<- N];simp,done++[d'],bU,w,ya++[y],X,by rw [j];simp,by simp [k],rfl,((t.trans M).trans z).trans s4,(P.same ((M.trans z).trans s4).sh).append (.cons r4 .nil),by simp;omega,G,by rw [O];simp⟩
  ·rw [if_neg hl] at q;exact q.elim
def C.comp (c:C) (N':List Str) (scope:fU) (h:List (Str×af)) (A:af) (d:ak) (f:Hp) (j:List af) (i:List (af×Obj)):C:=⟨eI c.X N' scope h A d f j i,c.cls,E0⟩
variable {elt iter:bc}{ifs:List bc}{scope:fU}{N':List Str}{nt:Nat}{ix:List Nat}{gi:aB->R (List D)}{gt:aB->R Bool}{ge:aB->R D}
def t_ (c:C) (N':List Str) (scope:fU) (nt:Nat) (tg:bc) (ifs:List bc) (elt:bc) (gt:aB->R Bool) (ge:aB->R D):Prop :=
 ∀ h A d f j i,PG (c.comp N' scope h A d f j i).X tg (MT c.X.K nt)/\YZ (c.comp N' scope h A d f j i) ifs gt/\JE (c.comp N' scope h A d f j i) elt ge
theorem t_.at (h:t_ c N' scope nt tg ifs elt gt ge):∀ j A f d m k,PG (eI c.X N' scope j A f d m k) tg (MT c.X.K nt)/\SZ (eI c.X N' scope j A f d m k) ifs (fun σ H Q=>∃ ρ',ML c.X.K c.cls E0 ρ' (gt ρ') σ H Q) /\
  PE (eI c.X N' scope j A f d m k) elt (fun σ H Q=>∃ ρ',TR c.X.K c.cls E0 ρ' (ge ρ') σ H Q):=fun j A f d m k=>by
 obtain ⟨t,v,u⟩:=h j A f d m k;exact ⟨t,fun i s σ H Q I o=>by obtain ⟨ρ',q⟩:=o;exact v ρ' i s σ H Q I q,fun i s σ H Q I n=>by obtain ⟨ρ',q⟩:=n;exact u ρ' i s σ H Q I q⟩
theorem gj (nt:Nat) (d:nt=1\/nt=2) (f:c.X.calm=true) (S:oW c.X scope N' nt ix) (h:JI c tg iter gi) (i:t_ c N' scope nt tg ifs elt gt ge) (hs:∀ x,e8 iter c.X.env x=pure x:=by intro _;rfl) :
  JN c (.ListComp elt [⟨tg,iter,ifs,0⟩] scope pos) (dJ nt ix gi gt ge):=.of fun ρ=>ni (FT f S (zD d) (h ρ) i.at hs) fun σ H Q q=>Ej d q
theorem nj (i:Nat) {h u:Pos} (nt:Nat) (j:nt=1\/nt=2) (v:c.X.N.Nodup) (y:c.X.calm=true) (S:oW c.X scope N' nt ix) (A:JI c tg iter gi) (B:t_ c N' scope nt tg ifs elt gt ge)
  (s:c.X.N[i]?=some x:=by rfl) (w:c.X.env.scope.names.lookup x=some .local:=by rfl)
  (n:dE (.ListComp elt [⟨tg,iter,ifs,0⟩] scope pos) (some (.Name x u)) h.line c.X.env=pure true:=by rfl)
  (hs:∀ x,e8 iter c.X.env x=pure x:=by intro _;rfl):JS c (.Assign [.Name x u] (.ListComp elt [⟨tg,iter,ifs,0⟩] scope pos) h) (kW i (dJ nt ix gi gt ge)):=.of fun ρ=>wI (Ag v s w y S (zD j) (A ρ) B.at n hs) fun D σ H k=>by
 obtain ⟨M,K,O,L,f,q⟩:=k;refine Ej (Q:=fun x t=>D.nx (σ.set i (some x)) t) j (sN f q fun d a o t m G E z I=>?_);unfold kW at q;rw [G,bind_ok] at q;exact q _ _ m (E.setO i z I)
end
theorem PH (h:PS X.nox st t):PS X st t:=fun a s σ H D I b =>
 cx (h a s σ H D (I.wish _) b) (fun _ _ q=>q.unwish) fun _ _ z=>dC z
def C.nox (c:C):C:=⟨c.X.nox,c.cls,E0⟩
def p7 (k:D->aB->R aB) (b:aB->R Fl):List D->aB->R Fl
 |[],ρ=>.ok (.nx ρ)
 |d::r,ρ=>match k d ρ with
  |.ok ρ1=>match b ρ1 with
   |.ok (.nx ρ')=>p7 k b r ρ'
   |.ok (.ct ρ')=>p7 k b r ρ'
   |.ok (.bk ρ')=>.ok (.nx ρ')
   |.ok (.rt d)=>.ok (.rt d)
   |_=>.no
  |_=>.no
inductive fgI (K:aa) (cls:Str->af) (E:XK) (H0 Hs0:Hp) (la:Nat->Option af) (D':uG) (kt:D->aB->R aB) (gb:aB->R Fl) (ds:List D) (i m:Nat) (σ:St) (H:Hp):Prop
 |mk (done bU ρ Hs:_) (h0:ds=done++bU) (h1:done.length=i) (h2:bU.length=m) (h3:Fr K H0 Hs0 la ρ σ H Hs) (h4:pS K cls E H0 Hs0 la D' (p7 kt gb bU ρ)):fgI K cls E H0 Hs0 la D' kt gb ds i m σ H
theorem WZ
  (it:RX K J ds Hn Hs0) (N:cK Hn H0) (f:Fr K H0 Hs0 la ρ σ H o)
  (A:∀ ρ d v σ H Q,YU K ρ d (kt d ρ) v σ H Q->tg v σ H Q) (p:∀ ρ D σ H,SR K cls E0 ρ (gb ρ) D σ H->tb D σ H)
  (q:pS K cls E H0 Hs0 la D' (p7 kt gb ds ρ)) :
  TFI tg tb D' σ J H:=by
 refine ⟨fgI K cls E H0 Hs0 la D' kt gb ds,⟨ds.length,[],ds,ρ,o,rfl,rfl,rfl,f,q⟩,?_⟩;rintro i m σ H ⟨done,bU,ρ,o,b,k,B,f,q⟩;obtain ⟨t,e,h⟩:=it H o (N.trans f.st.all) f.st.sh f.st.sub;cases bU with
 |nil =>
  rw [cb] at b;subst b;exact .inl ⟨e i (by omega),q σ H o f⟩
 |cons d bU =>
  have j:i<ds.length:=by rw [b,bB,aX];omega
  refine .inr ⟨t i j,fun σ' H'=>∃ ρ' a,Fr K H0 Hs0 la ρ' σ' H' a/\pS K cls E H0 Hs0 la D' (p7 kt gb bU ρ'),fun σ' H' ⟨ρ',a,g,q'⟩=>⟨bU.length,by rw [<- B];simp,done++[d],bU,ρ',a,by rw [b];simp,by simp [k],rfl,g,q'⟩,fun x u y=>?_⟩;obtain ⟨d',l,w,O,P⟩:=h i x u j y;have s:d'=d:=by
   rw [b,bg (by omega)] at w;simp [k] at w;exact w.symm
  subst s;unfold p7 at q;refine A ρ d' x σ u _ ⟨H0,Hs0,la,l,f.step O,P,?_⟩;cases z:kt d' ρ with
  |ex c n=>rw [z] at q;exact q
  |no=>rw [z] at q;exact q
  |ok ρ1 =>
   rw [z] at q;intro G M;refine p ρ1 _ G u ⟨H0,Hs0,la,l,M,?_⟩;cases I:gb ρ1 with
   |no=>simp only [I] at q;exact q.elim
   |ex c n=>simp only [I] at q;exact q.elim
   |ok L =>
    simp only [I] at q;cases L with
    |nx ρ'=>exact fun σ' H' a g=>⟨ρ',a,g,q⟩
    |ct ρ'=>exact fun σ' H' a g=>⟨ρ',a,g,q⟩
    |bk ρ'=>exact fun σ' H' a g=>q σ' H' a g
    |rt d=>exact q
def ze (A B:Hp):Hp:=fun b=>match A b with
 |some o=>some o
 |none=>B b
theorem vm:cK A (ze A B):=fun b o e=>by unfold ze;rw [e]
theorem u7 (h:A b=none):ze A B b=B b:=by unfold ze;rw [h]
theorem PJ (a:cK A H) (c:cK B H):cK (ze A B) H:=fun b o e=>by
 cases h:A b with
 |some u=>unfold ze at e;rw [h] at e;cases e;exact a b o h
 |none=>rw [u7 h] at e;exact c b o e
theorem W_ (a:cK A H) (c:cK B H):cK B (ze A B):=fun b o e=>by
 cases h:A b with
 |some u =>
  unfold ze;rw [h];have:=a b u h;rw [c b o e] at this;exact this.symm
 |none=>rw [u7 h];exact e
theorem Fr.into (f:Fr K H0 Hs0 la ρ σ H Hs):Fr K (ze H0 Hs) Hs la ρ σ H Hs:=by
 have sub:=PJ f.st.all f.st.sub;refine ⟨⟨sub,.refl _,f.st.sub,fun a o e _ z=>z⟩,f.len,f.sh,fun i d h=>?_,fun i d h=>?_,f.dj,fun i a e=>let ⟨o,k⟩:=f.lh i a e;⟨o,vm _ _ k⟩,fun i d h=>?_,f.u2⟩
 ·obtain ⟨a,o,g,n,c,j,m⟩:=f.ow i d h;exact ⟨a,o,g,n,c,by rw [u7 j];exact c,m⟩
 ·obtain ⟨a,o,g,n,c,j,m,p⟩:=f.lk i d h;exact ⟨a,o,g,n,c,j,vm _ _ m,p⟩
 ·obtain ⟨a,q,O⟩:=f.o2 i d h;exact ⟨a,q,O.at_,O.ob,O.nd,fun b l=>⟨(O.out b l).1,by rw [u7 (O.out b l).2];exact (O.out b l).1⟩,O.dj,O.inn⟩
theorem cn.outof (s:cn H0 Hs0 H1 Hs1) (t:cn (ze H0 Hs1) Hs1 H' Hs'):cn H0 Hs0 H' Hs' :=
 ⟨vm.trans t.all,s.sh.trans t.sh,t.sub,fun a o e n z=>t.out a o (vm _ _ e) n (s.out a o e n z)⟩
theorem Fr.outof (j:Fr K H0 Hs0 la ρ1 σ1 H1 Hs1) (f:Fr K (ze H0 Hs1) Hs1 la ρ σ H' Hs'):Fr K H0 Hs0 la ρ σ H' Hs':=by
 refine ⟨j.st.outof f.st,f.len,f.sh,fun i d h=>?_,fun i d h=>?_,f.dj,j.lh,fun i d h=>?_,f.u2⟩
 ·obtain ⟨a,o,g,c,l,m,k⟩:=f.ow i d h;exact ⟨a,o,g,c,l,vm.free m,k⟩
 ·obtain ⟨a,o,g,c,l,m,k,q⟩:=f.lk i d h;obtain ⟨t,e⟩:=j.lh i a c;have n:=vm (B:=Hs1) _ _ e;rw [k] at n;cases n;exact ⟨a,o,g,c,l,m,e,q⟩
 ·obtain ⟨a,s,O⟩:=f.o2 i d h;exact ⟨a,s,O.at_,O.ob,O.nd,fun b p=>⟨(O.out b p).1,vm.free (O.out b p).2⟩,O.dj,O.inn⟩
theorem pS.into (b:Fr K H0 Hs0 la ρ1 σ1 H1 Hs1) (q:pS K cls E H0 Hs0 la D' r):pS K cls E (ze H0 Hs1) Hs1 la D' r:=by
 cases r with
 |no=>exact q
 |ex c n=>exact fun H' a s=>q H' a (b.st.outof s)
 |ok e =>
  cases e with
  |nx ρ=>exact fun σ' H' a f=>q σ' H' a (b.outof f)
  |bk ρ=>exact fun σ' H' a f=>q σ' H' a (b.outof f)
  |ct ρ=>exact fun σ' H' a f=>q σ' H' a (b.outof f)
  |rt d=>exact fun v H' a s r=>q v H' a (b.st.outof s) r
def y8 (a:aB->R (List D)) (kt:D->aB->R aB) (gb:aB->R Fl):aB->R Fl:=fun ρ=>match a ρ with
 |.ok ds=>p7 kt gb ds ρ
 |_=>.no
theorem vn (o:c.X.calm=true) (t:NV c.nox tg iter gi) (z:JG c.nox tg kt) (w:Jk c.nox body gbd) (hs:∀ x,e8 iter c.X.env x=pure x:=by intro _;rfl):JS c (.For tg iter body [] pos) (y8 gi kt gbd):=.of fun ρ=>by
 refine PH (wI (Ov xP o (t ρ) (g:=fun v σ H Q=>∃ ρ d,YU c.X.K ρ d (kt d ρ) v σ H Q) (tb:=fun D σ H=>∃ ρ,SR c.X.K c.cls E0 ρ (gbd ρ) D σ H) ?_ ?_ hs) fun D σ H ⟨p,k,A,m,f,q⟩=>?_)
 ·exact fun a s σ H v u Q I r e=>by obtain ⟨ρ,d,q⟩:=e;exact z ρ d a s σ H v u Q I r q
 ·exact fun a s σ H D I j=>by obtain ⟨ρ,q⟩:=j;exact w ρ a s σ H D I q
 ·refine ⟨p,k,A,m,f,?_⟩;unfold y8 at q;cases i:gi ρ with
  |no=>rw [i] at q;exact q
  |ex x n=>rw [i] at q;exact q.elim
  |ok ds =>
   rw [i] at q;intro J B y l it;have b:=f.step l;exact WZ (E:=c.E) (cls:=c.cls) (kt:=kt) (gb:=gbd) (tg:=fun v σ H Q=>∃ ρ d,YU c.X.K ρ d (kt d ρ) v σ H Q) (tb:=fun D σ H=>∃ ρ,SR c.X.K c.cls E0 ρ (gbd ρ) D σ H) it (W_ b.st.all b.st.sub) b.into (fun ρ d v σ H Q h=>⟨ρ,d,h⟩) (fun ρ D σ H h=>⟨ρ,h⟩) (pS.into b q)
def kA (t:aB->R Bool) (b:aB->R Fl):Nat->aB->R Fl
 | 0,_=>.no
 |n+1,ρ=>match t ρ with
  |.ok true=>match b ρ with
   |.ok (.nx ρ')=>kA t b n ρ'
   |.ok (.ct ρ')=>kA t b n ρ'
   |.ok (.bk ρ')=>.ok (.nx ρ')
   |.ok (.rt d)=>.ok (.rt d)
   |_=>.no
  |.ok false=>.ok (.nx ρ)
  |_=>.no
theorem PK (n:Nat) (A:JT c.nox t gt) (G:Jk c.nox body gbd):JS c (.While t body [] pos) (kA gt gbd n):=.of fun ρ=>by
 refine PH (wI (Os xP (tc:=fun σ H Q=>∃ ρ,ML c.X.K c.cls E0 ρ (gt ρ) σ H Q) (tb:=fun D σ H=>∃ ρ,SR c.X.K c.cls E0 ρ (gbd ρ) D σ H) ?_ ?_) fun D σ H ⟨j,e,k,l,f,q⟩=>?_)
 ·exact fun g s σ H Q I v=>by obtain ⟨ρ,q⟩:=v;exact A ρ g s σ H Q I q
 ·exact fun g s σ H D I u=>by obtain ⟨ρ,q⟩:=u;exact G ρ g s σ H D I q
 ·refine ⟨fun m σ H=>∃ ρ l,Fr c.X.K j e k ρ σ H l/\pS c.X.K c.cls c.E j e k D (kA gt gbd m ρ),⟨n,ρ,l,f,q⟩,?_⟩;rintro m σ H ⟨ρ,l,f,q⟩;cases m with
  |zero=>exact q.elim
  |succ m =>
   unfold kA at q;refine ⟨ρ,j,e,k,l,f,?_⟩;cases w:gt ρ with
   |no=>rw [w] at q;exact q
   |ex x n=>rw [w] at q;exact q.elim
   |ok b =>
    rw [w] at q;intro z o y;cases b with
    |false=>exact Ac (q σ z o (f.step y))
    |true =>
     refine DV ⟨fun σ' H'=>∃ ρ' a,Fr c.X.K j e k ρ' σ' H' a/\pS c.X.K c.cls c.E j e k D (kA gt gbd m ρ'),fun σ' H' h=>⟨m,fi _,h⟩,ρ,j,e,k,o,f.step y,?_⟩;cases i:gbd ρ with
     |no=>simp only [i] at q;exact q
     |ex x n=>simp only [i] at q;exact q.elim
     |ok B =>
      simp only [i] at q;cases B with
      |nx ρ'=>exact fun σ' H' a p=>⟨ρ',a,p,q⟩
      |ct ρ'=>exact fun σ' H' a p=>⟨ρ',a,p,q⟩
      |bk ρ'=>exact fun σ' H' a p=>q σ' H' a p
      |rt d=>exact q
def Ek (i:Nat) (g:aB->R D):aB->R Fl:=fun ρ=>match ρ[i]? with
 |some (Sl.own (.list ds))=>(g ρ).bind fun d=>if ds.length<1000 then .ok (.nx (ρ.set i (.own (.list (ds++[d]))))) else .no
 |_=>.no
theorem CU (i:Nat) (h:JE c e g) (z:c.X.N[i]?=some x:=by rfl) (O:BH c.X.env.scope x:=by first|exact c8 rfl|exact bC (c8 rfl)|exact bC (bC rfl)) (L:(x==("__debug__" : Str))=false:=by decide)
  (s:(x==("__classdict__" : Str))=false:=by decide)
  (k:dB (.Name x p) "append" c.X.env (bG (.Name x p) c.X.env)=bG (.Name x p) c.X.env:=by rfl)
  (m:((cC cpos (ao [e] c.X.env)).all (fun x=>!x.1)&&(ii cpos (ef [] c.X.env)).all (fun x=>x.1.isSome)
   && decide ([e].length+([] : List kh).length+(if ([] : List kh).isEmpty then 0 else 1)<30))=true:=by rfl)
  (j:(apos.endLine==cpos.line)=true:=by rfl) (l:ao [e] c.X.env=(false,bG e c.X.env)::ao [] c.X.env:=by rfl) (b:(cC cpos (ao [] c.X.env)).any (·.1)=false:=by rfl)
  (hs:dE (.Call (.Attribute (.Name x p) "append" apos) [e] [] cpos) none pos.line c.X.env=pure false:=by rfl) :
  JS c (.Expr (.Call (.Attribute (.Name x p) "append" apos) [e] [] cpos) pos) (Ek i g):=.of fun ρ=>by
 refine wI (o9 (yA cj jD jE tS (hV z O L s) (bv (h ρ) cQ l) k m j l b) hs) fun D σ H n=>?_;obtain ⟨A,u,P,S,f,q⟩:=n;replace q:pS c.X.K c.cls c.E A u P D (Ek i g ρ):=q;unfold Ek at q;split at q
 ·rename_i ds ho
  obtain ⟨a,o,k1,k2,k3,T,k5⟩:=f.ow i _ ho;cases k5 with
  | @lst vs _ r =>
   refine ⟨_,k1,.inl ⟨rfl,_,.of k2⟩,?_⟩;refine sE f q fun d v Q t G w B I=>?_;rw [G,bind_ok] at q;by_cases y:ds.length<1000
   ·rw [if_pos y] at q;have M:=r.same w.sh;exact ⟨a,vs,v,rfl,rfl,w.all _ _ k2,bZ (by rw [r.length];omega),q _ _ t (B.write i ho k1 (.lst (M.append (.cons I .nil))))⟩
   ·rw [if_neg y] at q;exact q.elim
 ·exact q.elim
def sP:D->Option fg
 |.int i=>some (.inl i)
 |.str x=>some (.inr x)
 |_=>none
theorem Az (h:sP d=some y):d=kD y:=by
 cases d<;>cases h<;>rfl
def BS (kvs:List (D×D)) (k d:D):List (D×D):=if kvs.any (fun a=>bw a.1 k) then kvs.map (fun a=>if bw a.1 k then (a.1,d) else a) else kvs++[(k,d)]
theorem Jn (a b:fg):bw (kD a) (kD b)=decide (a=b):=by
 cases a<;>cases b<;>simp [kD,bw,tM]
theorem RDk.any (y:fg):∀ {ds:List (D×D)},RDk K H kvs ds->(ds.any fun a=>bw a.1 (kD y))=kvs.any fun a=>decide (a.1=y):=by
 induction kvs with
 |nil=>intro ds h;cases h;rfl
 |cons x r b=>intro ds h;cases h with|cons h t=>rw [fX,fX,b t,Jn]
theorem RDk.repl (y:fg) (b:RD K H v d):∀ {kvs:List (fg×V)}{ds:List (D×D)},RDk K H kvs ds ->
  RDk K H (kvs.map fun a=>if a.1=y then (a.1,v) else a) (ds.map fun a=>if bw a.1 (kD y) then (a.1,d) else a)
 |_,_,.nil=>.nil
 |_,_,.cons (k:=k) h t=>by
  rw [aW,aW];have e:=Jn k y;by_cases c:k=y
  ·subst c;rw [show (if k=k then (k,v) else (k,_))=(k,v) from if_pos rfl,show (if bw (kD k) (kD k)=true then (kD k,d) else (kD k,_))=(kD k,d) from if_pos (by rw [e];simp)];exact .cons b (RDk.repl k b t)
  ·simp only [e,c,if_neg,decide_false,cB,not_false_eq_true];exact .cons h (RDk.repl y b t)
theorem RDk.snoc (y:fg) (a:RD K H v d):∀ {kvs:List (fg×V)}{ds:List (D×D)},RDk K H kvs ds->RDk K H (kvs++[(y,v)]) (ds++[(kD y,d)])
 |_,_,.nil=>.cons a .nil
 |_,_,.cons h t=>.cons h (RDk.snoc y a t)
theorem RDk.put (r:RDk K H kvs ds) (y:fg) (a:RD K H v d):RDk K H (sA kvs y v) (BS ds (kD y) d):=by
 unfold sA BS;rw [r.any y];split
 ·exact r.repl y a
 ·exact r.snoc y a
def i7 (kvs:List (D×D)):Bool:=kvs.all fun a=>(sP a.1).isSome
theorem L5 {ds:List (D×D)} (h:i7 ds=true):dkK ds=false:=by
 unfold dkK;split
 ·cases h
 ·rfl
def El (i:Nat) (a g:aB->R D):aB->R Fl:=fun ρ=>match ρ[i]? with
 |some (Sl.own (.dict kvs))=>(g ρ).bind fun d=>(a ρ).bind fun k=>match sP k with
  |some _=>if kvs.length<1000/\i7 kvs=true then .ok (.nx (ρ.set i (.own (.dict (BS kvs k d))))) else .no
  |none=>.no
 |_=>.no
theorem Jo (h:RD K H v (kD y)):v=kV y:=by
 cases y<;>cases h<;>rfl
theorem RDt.flat (h:RDt K H kvs ds) (f:i7 ds=true):kvs=[]/\ds=[]:=by
 cases h with
 |nil=>exact ⟨rfl,rfl⟩
 |cons h t=>simp [i7,tD,sP] at f
theorem L6 (i:Nat) (h:JE c e g) (hk:JE c k gk) (hu:c.X.A.units+1<uC) (hN:c.X.N[i]?=some x:=by rfl) (hv:BH c.X.env.scope x:=by first|exact c8 rfl|exact bC (c8 rfl)|exact bC (bC rfl)) (hd:(x==("__debug__" : Str))=false:=by decide)
  (I:(x==("__classdict__" : Str))=false:=by decide) (hs:dE e (some (.Subscript (.Name x p) k apos)) pos.line c.X.env=pure false:=by rfl):JS c (.Assign [.Subscript (.Name x p) k apos] e pos) (El i gk g):=.of fun ρ=>by
 refine wI (SY hu (hV hN hv hd I) (hk ρ) (h ρ) hs) fun D σ H M=>?_
 obtain ⟨U,u,la,S,f,q⟩:=M
 replace q:pS c.X.K c.cls c.E U u la D (El i gk g ρ):=q
 unfold El at q
 split at q
 ·rename_i kvs ho
  obtain ⟨a,o,k1,k2,k3,k4,k5⟩:=f.ow i _ ho
  have j:∀ {H:Hp}{vs:List (fg×V)},Fr c.X.K U u la ρ σ H S->H a=some (.dK vs)->RDk c.X.K S vs kvs->Va (xQ i) (TR c.X.K c.cls c.E ρ (gk ρ)) (TR c.X.K c.cls c.E ρ (g ρ)) D σ H:=fun {H vs} f k2 r=>by
   refine sE f q fun d v Q l s G m O=>?_
   rw [s,bind_ok] at q
   refine ⟨_,k1,sE m q fun y w Y b B t L P=>?_⟩
   rw [B,bind_ok] at q
   split at q
   ·rename_i ky hy
    obtain rfl:=Az hy
    by_cases T:kvs.length<1000/\i7 kvs=true
    ·rw [if_pos T] at q
     have ha:=t.all _ _ (G.all _ _ k2)
     have r':=(r.same G.sh).same t.sh
     rw [Jo P]
     exact ⟨a,_,rfl,OO.k ha (bZ (by rw [r.length];omega)),q _ _ b (L.write i ho k1 (.dK (r'.put ky (O.same t.sh))))⟩
    ·rw [if_neg T] at q;exact q.elim
   ·exact q.elim
  cases k5 with
  |dK r=>exact j f k2 r
  |dT n r =>
   refine sE f q fun d v Q l s G m O=>?_
   rw [s,bind_ok] at q
   refine ⟨_,k1,sE m q fun y w Y b B t L P=>?_⟩
   rw [B,bind_ok] at q
   split at q
   ·rw [if_neg (fun z=>n (r.flat z.2).1)] at q;exact q.elim
   ·exact q.elim
  |dF n r =>
   refine sE f q fun d v Q l s G m O=>?_
   rw [s,bind_ok] at q
   refine ⟨_,k1,sE m q fun y w Y b B t L P=>?_⟩
   rw [B,bind_ok] at q
   split at q
   ·rw [if_neg (fun z=>by cases z.2)] at q;exact q.elim
   ·exact q.elim
 ·exact q.elim
def wN (kvs:List (D×D)) (k:D):Option D:=(kvs.find? fun a=>bw a.1 k).map (·.2)
theorem RDk.val : ∀ {kvs:List (fg×V)}{ds:List (D×D)},RDk K H kvs ds->∀ (y:fg),(wy kvs y=none/\wN ds (kD y)=none)\/∃ v d,wy kvs y=some v/\wN ds (kD y)=some d/\RD K H v d
 |_,_,.nil,y=>.inl ⟨rfl,rfl⟩
 |_,_,.cons (k:=k) h t,y=>by
  unfold wy wN;rw [eh,eh,Jn];by_cases a:k=y
  ·simp only [a,decide_true,cJ];exact .inr ⟨_,_,rfl,rfl,h⟩
  ·simp only [a,decide_false];exact RDk.val t y
def aS:D->D->R D
 |.dict kvs,k=>match sP k with
  |some _=>if i7 kvs=true then (match wN kvs k with
   |some d=>.ok d
   |none=>.no) else .no
  |none=>.no
 |x,k=>Ge x k
theorem bT (L:c.X.A.units+1<uC) (B:JB c a ga) (E:JB c b gb) (hs:zA b:=by exact fun _ _=>rfl):JE c (.Subscript a b pos) (g2 ga gb aS):=.of fun ρ=>by
 by_cases i:∃ kvs,ga ρ=.ok (.dict kvs)
 ·obtain ⟨kvs,i⟩:=i;refine ni (SX L (B ρ) (E ρ) hs) fun σ H Q l=>?_;obtain ⟨H0,Y,la,Hs,f,q⟩:=l;refine one f q fun d v H1 P G z S U=>?_;rw [i] at G;cases G;unfold g2 at q;rw [i,bind_ok] at q;refine one S (q.on z (q':=fun _=>True) fun _ _=>trivial) fun y w T s e2 I N x=>?_;rw [e2,bind_ok] at q;unfold aS at q;simp only at q;split at q
  ·rename_i t K
   obtain rfl:=Az K;by_cases g:i7 kvs=true
   ·rw [if_pos g] at q;obtain ⟨p,rfl,h⟩:=(U.step I).dict N.st.sub (L5 g);have O:w=kV t:=by
     rcases x with x|⟨_,o,rfl,_,_,ow⟩
     ·exact Jo x
     ·cases t<;>cases ow
    subst O;rcases h with ⟨vs,m,j⟩|⟨vs,m,hn,j⟩|⟨o,vs,es,rfl,m,hn,j⟩
    ·rcases j.val t with ⟨_,n⟩|⟨u,d,n,h4,h5⟩
     ·rw [n] at q;exact q.elim
     ·rw [h4] at q;exact ⟨p,u,rfl,by rw [<- n];exact J4.k m,q _ T s (z.trans I) h5⟩
    ·exact (hn (j.flat g).1).elim
    ·cases g
   ·rw [if_neg g] at q;exact q.elim
  ·exact q.elim
 ·refine ni (YO B E hs ρ) fun σ H Q q=>?_;have e:g2 ga gb aS ρ=g2 ga gb Ge ρ:=by
   unfold g2;cases M:ga ρ with
   |ok d =>
    cases d with
    |dict kvs=>exact (i ⟨kvs,M⟩).elim
    |_=>rfl
   |_=>rfl
  rw [e] at q;exact q
def kC:D->R D
 |.dict kvs=>if i7 kvs=true then .ok (.list (kvs.map (·.1))) else .no
 |x=>CN x
theorem Gm : ∀ {kvs:List (fg×V)}{ds:List (D×D)},RDk K H kvs ds->RDs K H (kvs.map fun p=>kV p.1) (ds.map (·.1))
 |_,_,.nil=>.nil
 |_,_,.cons (k:=k) h t=>.cons (by cases k<;>constructor) (Gm t)
theorem wO (w:X.calm=true):NU X (.type "list") (j9 kC):=by
 refine vi (fun d c n=>?_) fun b s σ H x u Q v d d' I p sub k f q=>?_
 ·unfold kC CN;split<;>(try split)<;>(try split)<;>exact fun h=>by cases h
 ·by_cases t:∃ kvs,d=.dict kvs
  ·obtain ⟨kvs,rfl⟩:=t;unfold kC at f;simp only at f;split at f
   ·rename_i j
    cases f;obtain ⟨a,rfl,⟨vs,i,g⟩|⟨vs,i,n,g⟩|⟨o,vs,y,rfl,i,n,g⟩⟩:=k.dict sub (L5 j)
    ·exact Ap w b s σ H _ _ Q I (.cons p .nil) ⟨a,vs,rfl,i,fun l m=>q _ _ _ (.new sub m) (.list (.of aI) ((Gm g).same (cn.new sub m).sh))⟩
    ·exact (n (g.flat j).1).elim
    ·cases j
   ·cases f
  ·have e:kC d=CN d:=by
    cases d with
    |dict kvs=>exact (t ⟨kvs,rfl⟩).elim
    |_=>rfl
   rw [e] at f;exact (Tn (X:=X)).1 b s σ H [x] [u] Q I (.cons p .nil) ⟨v,[d],sub,.cons k .nil,d',f,q⟩
section
open PyProof.Rows (envOfC)
section
variable {c:C}{e a b d:bc}{g ga gb gc:aB->R D}{pos p cpos:Pos}{x:Str}
theorem PL (hx:∀ x y c n,h x y≠.ex c n) (s:∀ x y c n,h' x y≠.ex c n) (q:TR K cls E ρ (sI ga gb gc h h' ρ) σ H Q) :
  IK (rD K h) (rD K h') (TB K cls E ρ (ga ρ)) (TB K cls E ρ (gb ρ)) (TB K cls E ρ (gc ρ)) σ H Q:=by
 obtain ⟨H0,a0,la,Hs,f,q⟩:=q;refine one f q fun x v H1 T e1 l f1 r1=>?_;unfold sI at q;rw [e1,bind_ok] at q;refine one f1 (q.on l (q':=fun _=>True) fun _ _=>trivial) fun y u H2 I e2 o M N=>?_;rw [e2,bind_ok] at q;cases m:h x y with
 |ex c n=>exact (hx x y c n m).elim
 |no=>rw [m] at q;exact q.elim
 |ok z =>
  rw [m,bind_ok] at q;refine ⟨I,x,y,M.st.sub,r1.step o,N,z,m,fun w Y A j r3=>?_⟩;cases r3 with
  |bool k =>
   refine ⟨k,rfl,?_⟩;have X:=M.step j;cases k with
   |false=>exact Ac (q _ Y A (l.trans (o.trans j)) (.bool _))
   |true =>
    refine DV (one X (q.on (l.trans (o.trans j)) (q':=fun _=>True) fun _ _=>trivial) fun t u' H4 G P L O U=>?_);simp only [P,bind_ok] at q;cases i:h' y t with
    |ex c n=>exact (s y t c n i).elim
    |no=>rw [i] at q;exact q.elim
    |ok z' =>
     rw [i] at q;exact ⟨G,y,t,O.st.sub,(N.step j).step L,U,z',i,fun w H5 B S r5=>q w H5 B (l.trans (o.trans (j.trans (L.trans S)))) r5⟩
  |none=>exact q.elim
  |int _=>exact q.elim
  |str _=>exact q.elim
  |list _ _=>exact q.elim
  |tuple _ _=>exact q.elim
  |dictK _ _=>exact q.elim
  |dictT _ _ _=>exact q.elim
  |dictF _ _ _=>exact q.elim
  |desk _ _ _ _=>exact q.elim
theorem Gn (ho:x_ c.X (bK op) h) (f:x_ c.X (bK op') h') (k:JB c a ga) (l:JB c b gb) (j:JB c d gc) (i:NI [op,op'] [b,d]=false:=by with_unfolding_all rfl):JE c (.Compare a [op,op'] [b,d] pos) (sI ga gb gc h h') :=
 .of fun ρ=>ni (Ow ho.1 f.1 (k ρ) (l ρ) (j ρ) i) fun σ H Q q=>PL ho.2 f.2 q
theorem PM (ho:x_ c.X (bK op) h) (f:x_ c.X (bK op') h') (k:JB c a ga) (l:JB c b gb) (j:JB c d gc) (i:NI [op,op'] [b,d]=false:=by with_unfolding_all rfl):JT c (.Compare a [op,op'] [b,d] pos) (eT (sI ga gb gc h h')) :=
 .of fun ρ=>Tg (Ox ho.1 f.1 (k ρ) (l ρ) (j ρ) i) fun σ H Q q=>PL ho.2 f.2 (YJ q)
def X1:D->R D
 |.int i=>.ok (.int (-i))
 |_=>.no
def pT (g:aB->R D):aB->R D:=fun ρ=>(g ρ).bind X1
theorem vo (h:JE c e g):JE c (.UnaryOp .USub e pos) (pT g):=.of fun ρ=>ni (Yd Wu (h ρ)) fun σ H Q j=>by
 obtain ⟨u,s,y,t,f,q⟩:=j;refine zb f q fun d v m k n l w o=>?_;unfold pT at q;rw [n,bind_ok] at q;cases o with
 |int i=>exact ⟨i,rfl,q _ m k l (.int _)⟩
 |_=>exact q.elim
inductive Y_ (K:aa) (w:bi) (cls:Str->af) (E:XK) (ρ:aB) (r:R (List Str)) (σ:St) (H:Hp) (Q:VK):Prop
 |mk (H0 Hs0:Hp) (la:Nat->Option af) (Hs:Hp) (f:Fr K H0 Hs0 la ρ σ H Hs) (q:Fin K cls E H Hs r fun ss=>∀ p H' Hs',cn H Hs H' Hs'->H' p=none->Q (.ref p) (upd H' p (pP w p ss))):Y_ K w cls E ρ r σ H Q
def TSt (K:aa) (w:bi) (cls:Str->af) (E:XK) (ρ:aB) (r:R (List Str)):TE:=Y_ K w cls E ρ r
structure Tv (c:C) (e:bc) (g:aB->R (List Str)):Prop where of ::
 run:∀ ρ,PE c.X e (TSt c.X.K c.X.w c.cls c.E ρ (g ρ))
instance {c:C}{e:bc}{g:aB->R (List Str)}:CoeFun (Tv c e g) (fun _=>∀ ρ,PE c.X e (TSt c.X.K c.X.w c.cls c.E ρ (g ρ))):=⟨Tv.run⟩
theorem L7 {K:aa}{w:bi}{cls:Str->af}{E:XK}{ρ:aB}{r:R (List Str)}{u:Type}{k:List Str->R u}{σ:St}{H:Hp}{o j l:Hp}{t:Nat->Option af}{Q:V->Hp->Prop}{q:u->Prop} (f:Fr K o j t ρ σ H l)
  (h:Fin K cls E H l (r.bind k) q) (m:∀ v p H' i,r=.ok v->cn H l H' i->Fr K o j t ρ σ H' i->H' p=none->Q (.ref p) (upd H' p (pP w p v))):TSt K w cls E ρ r σ H Q:=by
 refine ⟨o,j,t,l,f,?_⟩;cases r with
 |ok d=>exact fun p H' i s n=>m d p H' i rfl s (f.step s) n
 |ex c n=>exact h
 |no=>exact h
variable {gset:aB->R (List Str)}
def vp:D->R (List Str)
 |.list ds=>match gT ds with
  |some f=>if f.length<60 then .ok (dz [] f) else .no
  |none=>.no
 |.tuple ds=>match gT ds with
  |some f=>if f.length<60 then .ok (dz [] f) else .no
  |none=>.no
 |_=>.no
def qK (g:aB->R D):aB->R (List Str):=fun ρ=>(g ρ).bind vp
theorem Em (A:c.X.calm=true) (h:JB c e g) (n:Gl c.X "set") (t:c.X.mg "set"=none) (he:ao [e] c.X.env=(false,bG e c.X.env)::ao [] c.X.env:=by rfl) :
  Tv c (.Call (.Name "set" p) [e] [] cpos) (qK g):=.of fun ρ=>by
 refine ni (tP (G0 A) n t PyProof.Rows.boot_set (bv (h ρ) cQ he) (he:=he)) fun σ H Q o=>?_;obtain ⟨I,E,K,G,f,q⟩:=o;refine one f q fun d v w k B u y z=>?_;unfold qK at q;rw [B,bind_ok] at q;unfold vp at q;split at q
 ·split at q
  ·rename_i l hs
   by_cases i:l.length<60
   ·rw [if_pos i] at q;obtain ⟨a,vs,rfl,j,m⟩:=z.list y.st.sub;rw [sK hs] at m;rw [qD m] at j;exact ⟨a,l,rfl,.inl j,aL (Mf i 1) (by decide),fun p s=>q p w k u s⟩
   ·rw [if_neg i] at q;exact q.elim
  ·exact q.elim
 ·split at q
  ·rename_i l hs
   by_cases i:l.length<60
   ·rw [if_pos i] at q;obtain ⟨a,vs,rfl,j,m,_⟩:=z.tuple y.st.sub;rw [sK hs] at m;rw [qD m] at j;exact ⟨a,l,rfl,.inr j,aL (Mf i 1) (by decide),fun p s=>q p w k u s⟩
   ·rw [if_neg i] at q;exact q.elim
  ·exact q.elim
 ·exact q.elim
def lO (g:aB->R (List Str)):aB->R D:=fun ρ=>(g ρ).bind fun f=>if f.length<64 then .ok (.list ((ku f).map .str)) else .no
theorem vq (u:c.X.calm=true) (h:Tv c e gset) (B:Gl c.X "sorted") (y:c.X.mg "sorted"=none) (he:ao [e] c.X.env=(false,bG e c.X.env)::ao [] c.X.env:=by rfl) :
  JE c (.Call (.Name "sorted" p) [e] [] cpos) (lO gset):=.of fun ρ=>by
 refine ni (pM (z0 u) B y yv (bv (h ρ) cQ he) (he:=he)) fun σ H Q k=>?_;obtain ⟨I,E,K,G,f,q⟩:=k;dsimp only [L2.Wz,L2.A9,L2.BI];refine L7 (w:=c.X.w) f q fun n p o i A s z v=>?_;unfold lO at q;rw [A,bind_ok] at q;by_cases m:n.length<64
 ·rw [if_pos m] at q;have j:cn o i (upd o p (pP c.X.w p n)) i:=.mine z.st.sub v;exact ⟨p,n,rfl,aI,m,fun l t=>q _ _ _ (s.trans (j.trans (.new j.sub t))) (.list (.of aI) (As _))⟩
 ·rw [if_neg m] at q;exact q.elim
def wP (g:aB->R (List Str)):aB->R D:=fun ρ=>(g ρ).bind fun f=>.ok (.int f.length)
theorem MU (h:Tv c e gset) (v:Gl c.X "len") (s:c.X.mg "len"=none) (he:ao [e] c.X.env=(false,bG e c.X.env)::ao [] c.X.env:=by rfl) :
  JE c (.Call (.Name "len" p) [e] [] cpos) (wP gset):=.of fun ρ=>by
 refine ni (pM BP v s b_ (bv (h ρ) cQ he) (he:=he)) fun σ H Q j=>?_;obtain ⟨A,y,B,z,f,q⟩:=j;dsimp only [L2.Wz,L2.A9,L2.BI];refine L7 (w:=c.X.w) f q fun m p l i u n t o=>?_;unfold wP at q;rw [u,bind_ok] at q;have k:cn l i (upd l p (pP c.X.w p m)) i:=.mine t.st.sub o;exact ⟨p,m,rfl,aI,q _ _ _ (n.trans k) (.int _)⟩
variable {elt iter tg:bc}{ifs:List bc}{scope:fU}{N':List Str}{nt:Nat}{ix:List Nat}{gi:aB->R (List D)}{gt:aB->R Bool}{ge:aB->R D}
def y9 (nt:Nat) (ix:List Nat) (gi:aB->R (List D)) (gt:aB->R Bool) (ge:aB->R D):aB->R (List Str):=fun ρ=>(gi ρ).bind fun ds=>if ds.length<=60 then (il (jt nt (o_ nt ix ρ) gt ge) ds).bind fun ys=>match gT ys with
 |some f=>.ok (dz [] f)
 |none=>.no else .no
theorem BU : ∀ {f:List Str},gT (xs++ys)=some f->∃ i j,gT xs=some i/\gT ys=some j/\f=i++j:=by
 induction xs with
 |nil=>intro f h;exact ⟨[],f,rfl,h,rfl⟩
 |cons d r l =>
  intro f h;cases d with
  |str b =>
   have h:(gT (r++ys)).map (b::·)=some f:=h;cases k:gT (r++ys) with
   |none=>rw [k] at h;cases h
   |some z =>
    rw [k] at h;cases h;obtain ⟨i,j,m,n,rfl⟩:=l k;exact ⟨b::i,j,by show (gT r).map (b::·)=_;rw [m];rfl,n,rfl⟩
  |_=>cases h
theorem AA (z:Str):∀ (l f:List Str),dz f (l++[z])=if z∈dz f l then dz f l else dz f l++[z]
 |[],f=>rfl
 |x::l,f=>by
  show dz _ (l++[z])=_;rw [AA z l];rfl
inductive scI (f:D->R (Option D)) (ds:List D) (ss:List Str) (H1 Hs1:Hp) (i m:Nat) (acc:List Str) (H':Hp):Prop
 |mk (done bU zs sa sz Hs':_) (h0:ds=done++bU) (h1:done.length=i) (h2:bU.length=m) (h3:cn H1 Hs1 H' Hs') (h4:acc=dz [] sa) (h5:sa.length<=i) (h6:il f bU=.ok zs) (h7:gT zs=some sz) (h8:ss=sa++sz):scI f ds ss H1 Hs1 i m acc H'
theorem Tw (Y:nt=1\/nt=2)
  (q:TSt K w cls E ρ (y9 nt ix gi gt ge ρ) σ H Q) :
  Pm w nt ix (TIr K cls E ρ (gi ρ)) (MT K nt) (fun σ H Q=>∃ ρ',ML K cls E0 ρ' (gt ρ') σ H Q) (fun σ H Q=>∃ ρ',TR K cls E0 ρ' (ge ρ') σ H Q) σ H Q:=by
 obtain ⟨H0,a6,la,Hs,f,q⟩:=q;refine ⟨H0,a6,la,Hs,f,?_⟩;unfold y9 at q;cases hi:gi ρ with
 |no=>rw [hi] at q;exact q
 |ex x n=>rw [hi] at q;exact q
 |ok ds =>
  rw [hi,bind_ok] at q;intro J H1 O Hn s1 sn it;by_cases hl:ds.length<=60
  ·rw [if_pos hl] at q;cases X:il (jt nt (o_ nt ix ρ) gt ge) ds with
   |no=>rw [X] at q;exact q.elim
   |ex x n=>exact (Ay (Gk _ _ _ _) _ _ _ X).elim
   |ok ys =>
    rw [X,bind_ok] at q;cases hs:gT ys with
    |none=>rw [hs] at q;exact q.elim
    |some ss =>
     rw [hs] at q;obtain ⟨lb,fb⟩:=(f.step s1).block nt ix;refine ⟨scI (jt nt (o_ nt ix ρ) gt ge) ds ss H1 O,
      ⟨ds.length,[],ds,ys,[],ss,O,rfl,rfl,rfl,.refl s1.sub,rfl,cy _,X,hs,rfl⟩,?_⟩
     rintro i m a8 H' ⟨done,bU,zs,u,sz,P,k,l,S,t,rfl,yl,hz,G,T⟩;obtain ⟨a5,s,A⟩:=it H' P (sn.trans t.all) t.sh t.sub;cases bU with
     |nil =>
      left;cases hz;cases G;rw [cb] at k T;subst T k;exact ⟨s i (by omega),fun p hp=>q p H' P (s1.trans t) hp⟩
     |cons d bU =>
      right;have M:i<ds.length:=by rw [k,bB,aX];omega
      have a3:=gG u [];simp at a3;refine ⟨a5 i M,xG (show (dz [] u).length+1<=61 by omega) (by decide),fun x H2 a2=>?_⟩;obtain ⟨d',a1,hd,s2,r2⟩:=A i x H2 M a2;have a4:d'=d:=by
       rw [k,bg (by omega)] at hd;simp [l] at hd;exact hd.symm
      subst a4;obtain ⟨o,B,j,N,rfl⟩:=Ax hz;have j:=L3 j;obtain ⟨so,I,h,hsz,rfl⟩:=BU G;cases U:YY nt d' (o_ nt ix ρ) with
      |no=>rw [U] at j;cases j
      |ex x n=>rw [U] at j;cases j
      |ok ρ' =>
       rw [U,bind_ok] at j;refine Gj Y ((fb.step t).step s2) r2 U fun a7 f2=>⟨ρ',?_⟩;refine ⟨_,_,_,a1,f2,?_⟩;cases ht:gt ρ' with
       |no=>rw [ht] at j;cases j
       |ex x n=>rw [ht] at j;cases j
       |ok b =>
        rw [ht,bind_ok] at j;intro H3 L s3;cases b with
        |false =>
         rw [if_neg aQ] at j;cases j;cases h;refine Ac ⟨bU.length,by rw [<- S];simp,done++[d'],bU,B,u,I,L,by rw [k];simp,by simp [l],rfl,(t.trans s2).trans s3,rfl,by omega,N,hsz,by simpa using T⟩
        |true =>
         rw [if_pos rfl] at j;refine DV ⟨ρ',_,_,_,L,f2.step s3,?_⟩;cases he:ge ρ' with
         |no=>rw [he] at j;cases j
         |ex x n=>rw [he] at j;cases j
         |ok y =>
          rw [he,bind_ok] at j;cases j;intro v H4 a0 s4 r4;cases r4 with
          |str z =>
           cases h;exact ⟨z,bU.length,rfl,by rw [<- S];simp,done++[d'],bU,B,u++[z],I,a0,by rw [k];simp,by simp [l],rfl,((t.trans s2).trans s3).trans s4,(AA z u []).symm,by simp;omega,N,hsz,by rw [T];simp⟩
          |none=>cases h
          |bool _=>cases h
          |int _=>cases h
          |list _ _=>cases h
          |tuple _ _=>cases h
          |dictK _ _=>cases h
          |dictT _ _ _=>cases h
          |dictF _ _ _=>cases h
          |desk _ _ _ _=>cases h
  ·rw [if_neg hl] at q;exact q.elim
theorem PP (nt:Nat) (f:nt=1\/nt=2) (h:c.X.calm=true) (S:oW c.X scope N' nt ix) (i:JI c tg iter gi) (j:t_ c N' scope nt tg ifs elt gt ge) (hs:∀ x,e8 iter c.X.env x=pure x:=by intro _;rfl) :
  Tv c (.SetComp elt [⟨tg,iter,ifs,0⟩] scope pos) (y9 nt ix gi gt ge):=.of fun ρ=>ni (Je h S (zD f) (i ρ) j.at hs) fun σ H Q q=>Tw f q
end
def cm (n:Nat) (ds:List D):aB:=ds.map Sl.shr++cg (n-ds.length) Sl.no
def gm (n:Nat) (g:aB->R Fl):List D->R D:=fun ds=>match g (cm n ds) with
 |.ok (.nx _)=>.ok .none
 |.ok (.rt d)=>.ok d
 |.ex c m=>.ex c m
 |_=>.no
theorem AB {n:Nat}{ds:List D}{i:Nat}{s:Sl} (h:(cm n ds)[i]?=some s):(∃ d,ds[i]?=some d/\s=.shr d)\/s=.no:=by
 unfold cm at h;by_cases b:i<ds.length
 ·rw [bR (by simpa using b),aH] at h;cases a:ds[i]? with
  |none=>rw [a] at h;cases h
  |some z=>rw [a] at h;cases h;exact .inl ⟨z,rfl,rfl⟩
 ·rw [bg (by simp;omega),bI] at h;split at h<;>cases h;exact .inr rfl
theorem CV {N:List Str}{vs:List V}{i:Nat}{v:V} (h:vs[i]?=some v):(L2.start N vs)[i]?=some (some v):=by
 unfold L2.start;have a:i<vs.length:=(List.getElem?_eq_some_iff.mp h).1;rw [bR (by simpa using a),aH,h];rfl
theorem Fr.start {K : aa} {H b : Hp} {N : List Str} {vs : List V} {ds : List D} (sub : cK b H) (r : RDs K b vs ds) : Fr K H b (fun _ => none) (cm N.length ds) (L2.start N vs) H b := by
  have c := r.length;refine ⟨.refl sub, by simp [cm, L2.start, c], fun i d h => ?_, fun i d h => ?_, fun i d h => ?_, fun i j d e a h _ _ _ => ?_, fun i a h => (nomatch h), fun i d h => ?_, fun i j d e h _ => ?_⟩
  · rcases AB h with ⟨z, f, e⟩ | e
    · cases e;obtain ⟨v, k1, k2⟩ := r.get' f;exact ⟨v, CV k1, k2⟩
    · cases e
  all_goals (rcases AB h with ⟨z, _, e⟩ | e <;> cases e)
theorem PQ (F:xz K x qual st f fd) (S:bj N ps (ar st))
  (h:∀ (a:ae) (A:bh) (outer:List Env) (s:ak) (H:Hp) (E:XK),fJ k (A.deeper (gR qual (ar st) s.heap.objs.size f a))->Jk ⟨iU (jN P w) P w K mg base N qual (ar st) f a A outer s H E,cls,E⟩ (eF st) g) :
  l8 P w K mg base (jN P w) (k+1) f fd ps (RW K cls ps.length (gm N.length g)):=by
 obtain ⟨I,M,kV,p,G,L,a,ct,y,rfl,z,i⟩:=F.ex;refine lM z i S (fun vs H Q E j=>by obtain ⟨e,ds,sub,o,r,q⟩:=j;exact by rw [r.length];exact o) fun A outer s H vs Q E u l=>?_;obtain ⟨e,ds,sub,o,r,q⟩:=l;refine ⟨_,h a A outer s H E u (cm N.length ds),H,e,_,e,Fr.start sub r,?_⟩;unfold gm at q;cases m:g (cm N.length ds) with
 |no=>rw [m] at q;exact q
 |ex c n=>rw [m] at q;exact q
 |ok t =>
  rw [m] at q;cases t with
  |nx ρ'=>exact fun σ' H' b B=>q .non H' b B.st .none
  |rt d=>exact fun v H' b s r=>q v H' b s r
  |bk ρ'=>exact q.elim
  |ct ρ'=>exact q.elim
theorem Z0 (F:xz K x qual st f fd) (S:bj N ps (ar st)) (b:mg x=some (.ref f)) (c:eQ K fd ps [])
  (h:∀ (a:ae) (A:bh) (outer:List Env) (s:ak) (H:Hp) (E:XK),fJ k (A.deeper (gR qual (ar st) s.heap.objs.size f a))->Jk ⟨iU (jN P w) P w K mg base N qual (ar st) f a A outer s H E,cls,E⟩ (eF st) g) :
  Fn P w K mg base cls x (k+1) ps.length (gm N.length g):=⟨f,fd,ps,PQ F S h,b,F.kp,c⟩
theorem fm:gy (jN X.prog X.w) X E0:=fun _ _ _ _ _ _ _ h=>by
 obtain ⟨_,_,_,_,_,_,_,_,_,q⟩:=h;exact q.elim
end
def clear2 (ρ:aB):aB:=ρ.map fun s=>match s with
 |.ow2 _=>.no
 |s=>s
theorem Fr.clear2 (f:Fr K H0 Hs0 la ρ σ H Hs):Fr K H0 Hs0 la (clear2 ρ) σ H Hs/\∀ (j:Nat) (d:List (List D)),¬ (J.clear2 ρ)[j]?=some (Sl.ow2 d):=by
 have un:∀ {j:Nat}{s:Sl},(J.clear2 ρ)[j]?=some s->(∀ d,s≠.ow2 d)/\(ρ[j]?=some s\/s=.no):=fun {j s} e=>by
  unfold J.clear2 at e;rw [aH] at e;cases h:ρ[j]? with
  |none=>rw [h] at e;cases e
  |some t =>
   rw [h] at e;cases t with
   |ow2 d=>cases e;exact ⟨fun _ z=>(by cases z),.inr rfl⟩
   |no=>cases e;exact ⟨fun _ z=>(by cases z),.inl rfl⟩
   |shr d=>cases e;exact ⟨fun _ z=>(by cases z),.inl rfl⟩
   |lck d=>cases e;exact ⟨fun _ z=>(by cases z),.inl rfl⟩
   |own d=>cases e;exact ⟨fun _ z=>(by cases z),.inl rfl⟩
 have c:∀ {j:Nat}{s:Sl},s≠.no->(J.clear2 ρ)[j]?=some s->ρ[j]?=some s:=fun {j s} n e=>(un e).2.resolve_right n;have b:∀ (j:Nat) (d:List (List D)),¬ (J.clear2 ρ)[j]?=some (Sl.ow2 d):=fun j d e=>(un e).1 d rfl;exact ⟨⟨f.st,by simp [J.clear2,f.len],fun j d h=>f.sh j d (c (fun z=>by cases z) h),fun j d h=>f.ow j d (c (fun z=>by cases z) h),fun j d h=>f.lk j d (c (fun z=>by cases z) h),fun j k d e a g i=>f.dj j k d e a (c (fun z=>by cases z) g) (c (fun z=>by cases z) i),f.lh,fun j d h=>(b j d h).elim,fun j k d e h _=>(b j d h).elim⟩,b⟩
def sQ:List af->Hp->Hp
 |[],H=>H
 |a::b,H=>sQ b (upd H a (.lst []))
theorem AC:∀ (c:List af) (H:Hp),(∀ a∈c,H a=none)->c.Nodup->cK H (sQ c H)
 |[],H,_,_=>.refl H
 |a::c,H,h,e=>by
  obtain ⟨f,g⟩:=List.nodup_cons.mp e;refine (jG (h a au)).trans (AC c _ (fun b d=>?_) g);rw [aC (fun (z:b=a)=>f (z ▸ d))];exact h b (aq _ d)
theorem Go:∀ (d:List af) (H:Hp),d.Nodup->∀ a∈d,sQ d H a=some (.lst [])
 |a::d,H,i,b,k=>by
  obtain ⟨l,j⟩:=List.nodup_cons.mp i;show sQ d (upd H a (.lst [])) b=_;by_cases f:b∈d
  ·exact Go d _ j b f
  ·have e:b=a:=(List.mem_cons.mp k).resolve_right f;subst e;have:∀ (d:List af) (H:Hp),b∉d->sQ d H b=H b:=by
    intro d;induction d with
    |nil=>intro H _;rfl
    |cons c d g =>
     intro H h;show sQ d (upd H c (.lst [])) b=_;rw [g _ (fun z=>h (aq _ z)),aC (fun (z:b=c)=>h (by rw [z];exact au))]
   rw [this d _ f,aI]
theorem nq:∀ (d:List af) (H:Hp) (b:af),sQ d H b=none->H b=none/\b∉d
 |[],H,b,h=>⟨h,by simp⟩
 |a::d,H,b,h=>by
  obtain ⟨c,f⟩:=nq d (upd H a (.lst [])) b h;by_cases e:b=a
  ·subst e;rw [aI] at c;cases c
  ·rw [aC e] at c;exact ⟨c,fun z=>(List.mem_cons.mp z).elim e f⟩
def Tx (i:Nat):aB->R Fl:=fun ρ=>.ok (.nx ((clear2 ρ).set i (.ow2 [[],[],[],[]])))
theorem X2 (i:Nat) (hN:c.X.N.Nodup) (v:c.X.N[i]?=some x:=by rfl) (hx:Fo c.X.env.scope x:=by first|exact c8 rfl|exact bC rfl)
  (hs:dE (.List [.List [] p1,.List [] p2,.List [] p3,.List [] p4] p) (some (.Name x pos')) spos.line c.X.env=pure false:=by rfl)
  (hf:c.X.fn x=true\/c.X.env.scope.names.lookup x=some .local:=by first|exact .inl rfl|exact .inr rfl|assumption)
  (u:ao [.List [] p1,.List [] p2,.List [] p3,.List [] p4] c.X.env=(false,bG (.List [] p1) c.X.env)::ao [.List [] p2,.List [] p3,.List [] p4] c.X.env:=by rfl)
  (y:ao [.List [] p2,.List [] p3,.List [] p4] c.X.env=(false,bG (.List [] p2) c.X.env)::ao [.List [] p3,.List [] p4] c.X.env:=by rfl)
  (L:ao [.List [] p3,.List [] p4] c.X.env=(false,bG (.List [] p3) c.X.env)::ao [.List [] p4] c.X.env:=by rfl)
  (M:ao [.List [] p4] c.X.env=(false,bG (.List [] p4) c.X.env)::ao [] c.X.env:=by rfl) :
  JS c (.Assign [.Name x pos'] (.List [.List [] p1,.List [] p2,.List [] p3,.List [] p4] p) spos) (Tx i):=.of fun ρ=>by
 refine wI (qz hN v hx (jv (bv (jv cQ) (bv (jv cQ) (bv (jv cQ) (bv (jv cQ) cQ M) L) y) u)) hs hf) fun D σ H Q=>?_;obtain ⟨H0,a0,la,S,f,q⟩:=Q;replace q:pS c.X.K c.cls c.E H0 a0 la D (Tx i ρ):=q;obtain ⟨f,B⟩:=f.clear2;refine ⟨cy _,fun g n1=>⟨cy _,fun a2 n2=>⟨cy _,fun a3 n3=>⟨cy _,fun a4 n4=>⟨bt (bZ (show 4<=1000 by decide)),fun a n=>?_⟩⟩⟩⟩⟩;have N:=nq [g,a2,a3,a4] H a n;have G:=nq [g,a2,a3] H a4 n4;have P:=nq [g,a2] H a3 n3;have U:=nq [g] H a2 n2;simp only [bf,aY,or_false,not_or] at N G P U;have T:[g,a2,a3,a4].Nodup:=by
  simp only [Sf,bf,aY,or_false,not_or,ij,and_true,not_false_eq_true];exact ⟨⟨eC U.2,eC P.2.1,eC G.2.1⟩,⟨eC P.2.2,eC G.2.2.1⟩,eC G.2.2.2⟩
 have free:∀ b∈[g,a2,a3,a4],H b=none:=fun b t=>by
  simp only [bf,aY,or_false] at t;rcases t with rfl|rfl|rfl|rfl
  ·exact n1
  ·exact U.1
  ·exact P.1
  ·exact G.1
 have I:(a::[g,a2,a3,a4]).Nodup:=List.nodup_cons.mpr ⟨by simp only [bf,aY,or_false,not_or];exact N.2,T⟩;have sm:cK H (sQ [g,a2,a3,a4] H):=AC _ _ free T;have all:cK H (upd (sQ [g,a2,a3,a4] H) a (.lst [.ref g,.ref a2,.ref a3,.ref a4])):=sm.trans (jG n);have m:∀ b∈a::[g,a2,a3,a4],H b=none:=fun b t=>(List.mem_cons.mp t).elim (fun z=>z ▸ N.1) (free b);have st:cn H S (upd (sQ [g,a2,a3,a4] H) a (.lst [.ref g,.ref a2,.ref a3,.ref a4])) S:=⟨all,.refl _,f.st.sub.trans all,fun _ _ _ _ z=>z⟩;have w:=f.step st;have hl:i<σ.length\/¬ i<σ.length:=Decidable.em _;have nx:∀ {j:Nat}{s:Sl},(∀ d,s≠.ow2 d)->((clear2 ρ).set i (.ow2 [[],[],[],[]]))[j]?=some s->(clear2 ρ)[j]?=some s/\i≠j:=fun {j s} hs e=>by
  by_cases l:i=j
  ·subst l;by_cases v:i<(clear2 ρ).length
   ·rw [aJ v] at e;exact absurd (bO e).symm (hs _)
   ·rw [bS (by simpa using v)] at e;cases e
  ·rw [am l] at e;exact ⟨e,l⟩
 refine q _ _ S ⟨w.st,by simp [w.len],fun j d h=>?_,fun j d h=>?_,fun j d h=>?_,fun j k d d' b u y L M=>?_,w.lh,fun j d h=>?_,fun j k d d' u y=>?_⟩
 ·obtain ⟨h,l⟩:=nx (fun _ z=>by cases z) h;rw [am l];exact w.sh j d h
 ·obtain ⟨h,l⟩:=nx (fun _ z=>by cases z) h;rw [am l];exact w.ow j d h
 ·obtain ⟨h,l⟩:=nx (fun _ z=>by cases z) h;rw [am l];exact w.lk j d h
 ·obtain ⟨u,l⟩:=nx (fun _ z=>by cases z) u;obtain ⟨y,A⟩:=nx (fun _ z=>by cases z) y;rw [am l] at L;rw [am A] at M;exact w.dj j k d d' b u y L M
 ·by_cases l:i=j
  ·subst l;by_cases v:i<(clear2 ρ).length
   ·rw [aJ v] at h;cases h;have Y:=Go [g,a2,a3,a4] H T;have ne:∀ b∈[g,a2,a3,a4],b≠a:=fun b t z=>(List.nodup_cons.mp I).1 (z ▸ t);have O:∀ b∈[g,a2,a3,a4],upd (sQ [g,a2,a3,a4] H) a (.lst [.ref g,.ref a2,.ref a3,.ref a4]) b=some (.lst []):=fun b t=>by rw [aC (ne b t)];exact Y b t
    refine ⟨a,[g,a2,a3,a4],aJ (by rw [<- w.len];exact v),aI,I,fun b t=>⟨f.st.sub.free (m b t),f.st.all.free (m b t)⟩,fun b t k e A=>?_,.cons (O _ (by simp)) .nil (.cons (O _ (by simp)) .nil (.cons (O _ (by simp)) .nil (.cons (O _ (by simp)) .nil .nil)))⟩;obtain ⟨A,nk⟩:=nx (fun _ z=>by cases z) A;rw [am nk];intro z;obtain ⟨b',o,k1,k2,_⟩:=f.ow k e A;rw [z] at k1;cases k1;rw [m b t] at k2;cases k2
   ·rw [bS (by simpa using v)] at h;cases h
  ·rw [am l] at h;exact (B j d h).elim
 ·by_cases l:i=j
  ·by_cases A:i=k
   ·exact l.symm.trans A
   ·rw [am A] at y;exact (B k d' y).elim
  ·rw [am l] at u;exact (B j d u).elim
theorem PR (h:JS c st gs):JS c st (fun ρ=>gs (dA ρ)):=.of fun ρ=>wI (h (dA ρ)) fun D σ H a=>by
 obtain ⟨e,d,i,j,f,q⟩:=a;obtain ⟨b,g⟩:=f.shared;exact ⟨e,d,i,b,g,q⟩
def shareAt (i:Nat) (ρ:aB):aB:=match ρ[i]? with
 |some (Sl.own d)=>ρ.set i (.shr d)
 |_=>ρ
theorem Fr.shareAt (f:Fr K H0 Hs0 la ρ σ H Hs) (i:Nat):∃ G,Fr K H0 Hs0 la (J.shareAt i ρ) σ H G:=by
 unfold J.shareAt;split
 ·rename_i d ho
  obtain ⟨a,o,k1,k2,k3,M,k5⟩:=f.ow i d ho;have n:i<ρ.length:=(List.getElem?_eq_some_iff.mp ho).1;have m:cK Hs (upd Hs a o):=jG k3;have nx:∀ {j:Nat}{s:Sl},(∀ d,s≠.shr d)->(ρ.set i (.shr d))[j]?=some s->ρ[j]?=some s/\i≠j:=fun {j s} hs e=>by
   by_cases g:i=j
   ·subst g;rw [aJ n] at e;exact absurd (bO e).symm (hs d)
   ·rw [am g] at e;exact ⟨e,g⟩
  have T:∀ (j:Nat) (e:D) (b:af),i≠j->ρ[j]?=some (Sl.own e)->σ[j]?=some (some (V.ref b))->b≠a:=fun j e b g h w z=>by
   subst z;exact g (f.dj i j d e b ho h k1 w)
  refine ⟨upd Hs a o,⟨f.st.all,f.st.sh.trans m,fun b u e=>?_,fun b u e t z=>?_⟩,by simp [f.len],fun j e h=>?_,fun j e h=>?_,fun j e h=>?_,fun j k A B b y I N Q=>?_,f.lh,fun j e h=>?_,fun j k A B y I=>?_⟩
  ·by_cases w:b=a
   ·subst w;rw [aI] at e;cases e;exact k2
   ·rw [aC w] at e;exact f.st.sub b u e
  ·rw [aC (aK e M)];exact f.st.out b u e t z
  ·by_cases g:i=j
   ·subst g;rw [aJ n] at h;cases h;exact ⟨_,k1,k5.share k3⟩
   ·rw [am g] at h;obtain ⟨v,l,q⟩:=f.sh j e h;exact ⟨v,l,q.same m⟩
  ·obtain ⟨h,g⟩:=nx (fun _ z=>by cases z) h;obtain ⟨b,u,l,q,L,E,x⟩:=f.ow j e h;exact ⟨b,u,l,q,by rw [aC (T j e b g h l)];exact L,E,x.same m⟩
  ·obtain ⟨h,g⟩:=nx (fun _ z=>by cases z) h;obtain ⟨b,u,l,q,L,E,x,P⟩:=f.lk j e h;exact ⟨b,u,l,q,L,by rw [aC (aK x M)];exact E,x,P.same m⟩
  ·exact f.dj j k A B b (nx (fun _ z=>by cases z) y).1 (nx (fun _ z=>by cases z) I).1 N Q
  ·obtain ⟨h,g⟩:=nx (fun _ z=>by cases z) h;obtain ⟨b,U,O⟩:=f.o2 j e h;refine ⟨b,U,O.at_,O.ob,O.nd,fun c p=>⟨?_,(O.out c p).2⟩,fun c p k S X=>O.dj c p k S (nx (fun _ z=>by cases z) X).1,O.inn.step (.refl _) m⟩;rw [aC (fun z=>O.dj c p i d ho (by rw [z];exact k1))];exact (O.out c p).1
  ·exact f.u2 j k A B (nx (fun _ z=>by cases z) y).1 (nx (fun _ z=>by cases z) I).1
 ·exact ⟨Hs,f⟩
theorem Jp (i:Nat) (h:JS c st gs):JS c st (fun ρ=>gs (shareAt i ρ)):=.of fun ρ=>wI (h (shareAt i ρ)) fun D σ H a=>by
 obtain ⟨e,d,j,k,f,q⟩:=a;obtain ⟨b,g⟩:=f.shareAt i;exact ⟨e,d,j,b,g,q⟩
theorem CI.get (h:CI K H Hs as dss):∀ {j:Nat}{ds:List D},dss[j]?=some ds->∃ b vs,as[j]?=some b/\H b=some (.lst vs)/\RDs K Hs vs ds:=by
 induction h with
 |nil=>intro j ds e;cases e
 |cons h r t a =>
  intro j ds e;cases j with
  |zero=>cases e;exact ⟨_,_,rfl,h,r⟩
  |succ j=>have q:=a (j:=j) e;exact q
theorem CI.set (i:RDs K Hs vs' ds'):∀ {d:List af}{c:List (List D)}{j:Nat}{b:af},CI K H Hs d c->d[j]?=some b->d.Nodup->CI K (L2.upd H b (.lst vs')) Hs d (c.set j ds')
 |_,_,_,_,.nil,h,_=>by simp at h
 |_,_,0,b,.cons h r t,e,g=>by
  simp at e;subst e;exact .cons aI i (t.upd (List.nodup_cons.mp g).1)
 |_,_,j+1,b,.cons (a:=a) h r t,e,g=>by
  have f:_:=e;simp only [kr] at f;obtain ⟨k,l⟩:=List.nodup_cons.mp g;have m:b∈_:=bQ f;exact .cons (by rw [aC (fun z=>k (by rw [z];exact m))];exact h) r (CI.set i t f l)
def pU (i:Nat) (b g:aB->R D):aB->R Fl:=fun ρ=>match ρ[i]? with
 |some (Sl.ow2 a)=>(b ρ).bind fun k=>match k with
  |.int j=>if 0<=j then (match a[j.toNat]? with
   |some ds=>(g ρ).bind fun d=>if ds.length<1000 then .ok (.nx (ρ.set i (.ow2 (a.set j.toNat (ds++[d]))))) else .no
   |none=>.no) else .no
  |_=>.no
 |_=>.no
theorem AD (i:Nat) (a3:JE c ie gi) (h:JE c e g) (hN:c.X.N[i]?=some x:=by rfl) (hv:BH c.X.env.scope x:=by first|exact c8 rfl|exact bC (c8 rfl)|exact bC (bC rfl)) (hd:(x==("__debug__" : Str))=false:=by decide)
  (a0:(x==("__classdict__" : Str))=false:=by decide) (a7:zA ie:=by exact fun _ _=>rfl)
  (P:dB (.Subscript (.Name x p) ie p3) "append" c.X.env (bG (.Subscript (.Name x p) ie p3) c.X.env)=bG (.Subscript (.Name x p) ie p3) c.X.env:=by rfl)
  (T:((cC cpos (ao [e] c.X.env)).all (fun x=>!x.1)&&(ii cpos (ef [] c.X.env)).all (fun x=>x.1.isSome)
   && decide ([e].length+([] : List kh).length+(if ([] : List kh).isEmpty then 0 else 1)<30))=true:=by rfl)
  (G:(apos.endLine==cpos.line)=true:=by rfl) (S:ao [e] c.X.env=(false,bG e c.X.env)::ao [] c.X.env:=by rfl) (A:(cC cpos (ao [] c.X.env)).any (·.1)=false:=by rfl)
  (hs:dE (.Call (.Attribute (.Subscript (.Name x p) ie p3) "append" apos) [e] [] cpos) none pos.line c.X.env=pure false:=by rfl) :
  JS c (.Expr (.Call (.Attribute (.Subscript (.Name x p) ie p3) "append" apos) [e] [] cpos) pos) (pU i gi g):=.of fun ρ=>by
 refine wI (o9 (yA cj jD jE tS (V5 tR (hV hN hv hd a0) (a3 ρ) a7) (bv (h ρ) cQ S) P T G S A) hs) fun D σ H a2=>?_;obtain ⟨H0,a5,la,Hs,f,q⟩:=a2;replace q:pS c.X.K c.cls c.E H0 a5 la D (pU i gi g ρ):=q;unfold pU at q;split at q
 ·rename_i B ho
  obtain ⟨a,as,O⟩:=f.o2 i B ho;refine ⟨_,O.at_,?_⟩;refine sE f q fun k v H1 a9 e1 s1 f1 r1=>?_;rw [e1,bind_ok] at q;cases r1 with
  |int j =>
   simp only at q;by_cases M:0<=j
   ·rw [if_pos M] at q;split at q
    ·rename_i ds a6
     obtain ⟨b,vs,hb,hH,rv⟩:=O.inn.get a6;have a8:Fp (as.map V.ref) j=some (.ref b):=by
      have:=tQ (xs:=as.map V.ref) (j:=j.toNat) (v:=V.ref b) (by rw [aH,hb];rfl)
      rwa [eU M] at this
     refine ⟨a,_,j,_,rfl,rfl,.of (s1.all _ _ O.ob),a8,.inl ⟨rfl,_,.of (s1.all _ _ hH)⟩,?_⟩;refine sE f1 q fun d w H2 a4 e2 s2 o r2=>?_;rw [e2,bind_ok] at q;by_cases hl:ds.length<1000
     ·rw [if_pos hl] at q;have st:=s1.trans s2;refine ⟨b,vs,w,rfl,rfl,st.all _ _ hH,bZ (by rw [rv.length];omega),?_⟩;have U:i<ρ.length:=(List.getElem?_eq_some_iff.mp ho).1;obtain ⟨a',L,l⟩:=o.o2 i B ho;have ea:a'=a:=by
       have:=l.at_;rw [O.at_] at this;cases this;rfl
      subst ea;have a1:L=as:=by
       have t:=l.ob;rw [st.all _ _ O.ob] at t;injection t with t;injection t with t;exact (List.map_inj_right (fun x y z=>by cases z;rfl) |>.mp t).symm
      subst a1;have Q:b∈a'::L:=aq _ (bQ hb);have nb:b≠a':=fun z=>(List.nodup_cons.mp O.nd).1 (z ▸ bQ hb);obtain ⟨bs,b0⟩:=l.out b Q;have nx:∀ {m:Nat}{s:Sl},(∀ d,s≠.ow2 d)->(ρ.set i (.ow2 (B.set j.toNat (ds++[d]))))[m]?=some s->ρ[m]?=some s/\i≠m:=fun {m s} hs e=>by
       by_cases M:i=m
       ·subst M;rw [aJ U] at e;exact absurd (bO e).symm (hs _)
       ·rw [am M] at e;exact ⟨e,M⟩
      refine q _ _ a4 ⟨⟨fun c u e=>?_,o.st.sh,fun c u e=>?_,o.st.out⟩,by simp [o.len],fun m d' h=>o.sh m d' (nx (fun _ z=>by cases z) h).1,fun m d' h=>?_,fun m d' h=>?_,fun m k' d' e' a t Y=>o.dj m k' d' e' a (nx (fun _ z=>by cases z) t).1 (nx (fun _ z=>by cases z) Y).1,o.lh,fun m d' h=>?_,fun m k' d' e' t Y=>?_⟩
      ·rw [aC (aK e b0)];exact o.st.all c u e
      ·rw [aC (aK e bs)];exact o.st.sub c u e
      ·obtain ⟨h,_⟩:=nx (fun _ z=>by cases z) h;obtain ⟨c',u,k1,k2,k3,k4,k5⟩:=o.ow m d' h;refine ⟨c',u,k1,?_,k3,k4,k5⟩;rw [aC (fun z=>l.dj b Q m d' h (by rw [<- z];exact k1))];exact k2
      ·obtain ⟨h,_⟩:=nx (fun _ z=>by cases z) h;obtain ⟨c',u,k1,k2,k3,k4,k5,k6⟩:=o.lk m d' h;refine ⟨c',u,k1,k2,?_,k4,k5,k6⟩;rw [aC (aK k5 b0)];exact k3
      ·by_cases n:i=m
       ·subst n;rw [aJ U] at h;cases h;refine ⟨a',L,l.at_,by rw [aC (eC nb)];exact l.ob,l.nd,l.out,fun c hc k e' hk=>l.dj c hc k e' (nx (fun _ z=>by cases z) hk).1,?_⟩;exact CI.set ((rv.same st.sh).append (.cons r2 .nil)) l.inn hb (List.nodup_cons.mp l.nd).2
       ·rw [am n] at h;exact (n (o.u2 i m _ _ ho h)).elim
      ·by_cases n:i=m
       ·by_cases I:i=k'
        ·exact n.symm.trans I
        ·rw [am I] at Y;exact (I (o.u2 i k' _ _ ho Y)).elim
       ·rw [am n] at t;exact (n (o.u2 i m _ _ ho t)).elim
     ·rw [if_neg hl] at q;exact q.elim
    ·exact q.elim
   ·rw [if_neg M] at q;exact q.elim
  |none=>exact q.elim
  |bool _=>exact q.elim
  |str _=>exact q.elim
  |list _ _=>exact q.elim
  |tuple _ _=>exact q.elim
  |dictK _ _=>exact q.elim
  |dictT _ _ _=>exact q.elim
  |dictF _ _ _=>exact q.elim
  |desk _ _ _ _=>exact q.elim
 ·exact q.elim
section
open PyProof.Rows (OwnCls)
structure Er (mg:Str->Option ae) (base:bA) (cls:Str->af) (x:Str):Prop where
 ex:∃ bmB newId initId Bn,OwnCls x (cls x) bmB newId mg base/\ExcBaseFacts Bn newId initId bmB
def pc (x:Str) (a:aB->R (List D)):aB->R Fl:=fun ρ=>(a ρ).bind fun ds=>if ds.length<=1000 then .ex x none else .no
theorem sR {x:Str}{v a p:Pos}{d:bc}{bU:List bc}{c:aB->R (List D)} (B:Er mg base cls x)
  (T:Gl (iU (jN P w) P w K mg base N qual scope f cd A outer s H E) x) (G:HV ⟨iU (jN P w) P w K mg base N qual scope f cd A outer s H E,cls,E⟩ (d::bU) c)
  (he:ao (d::bU) (iU (jN P w) P w K mg base N qual scope f cd A outer s H E).env=(false,bG d (iU (jN P w) P w K mg base N qual scope f cd A outer s H E).env)::ao bU (iU (jN P w) P w K mg base N qual scope f cd A outer s H E).env:=by rfl)
  (j:(x==("__debug__" : Str))=false:=by decide) (o:(cC a (ao bU (iU (jN P w) P w K mg base N qual scope f cd A outer s H E).env)).any (·.1)=false:=by rfl) :
  JS ⟨iU (jN P w) P w K mg base N qual scope f cd A outer s H E,cls,E⟩ (.Raise (some (.Call (.Name x v) (d::bU) [] a)) none p) (pc x c):=.of fun ρ=>by
 obtain ⟨Q,g,e,X,O,M⟩:=B.ex;refine wI (Pd O M T (G ρ) he j o) fun D σ U l=>?_;obtain ⟨t,b,u,z,f,q⟩:=l;replace q:pS K cls E t b u D (pc x c ρ):=q;refine ⟨t,b,u,z,f,?_⟩;unfold pc at q;cases i:c ρ with
 |no=>rw [i] at q;exact q
 |ex y n=>rw [i] at q;exact fun H' k s=>q H' k (f.st.trans s)
 |ok ds =>
  rw [i,bind_ok] at q;intro vs I m L S;by_cases h:ds.length<=1000
  ·rw [if_pos h] at q;exact ⟨bt (bZ (by rw [S.length];exact h)),q I m (f.st.trans L)⟩
  ·rw [if_neg h] at q;exact q.elim
end
structure Bi (mg:Str->Option ae):Prop where
 len:mg "len"=none
 isinstance:mg "isinstance"=none
 all:mg "all"=none
 any:mg "any"=none
 zip:mg "zip"=none
 tuple:mg "tuple"=none
 list:mg "list"=none
 sorted:mg "sorted"=none
 set:mg "set"=none
 range:mg "range"=none
 enumerate:mg "enumerate"=none
 dict:mg "dict"=none
 sum:mg "sum"=none
 max:mg "max"=none
 min:mg "min"=none
 reversed:mg "reversed"=none
 str:mg "str"=none
 int:mg "int"=none
 bool:mg "bool"=none
structure Xf (K:aa) (base:bA) (cls:Str->af) (names:List Str) (C:af) (j:Nat):Prop where
 ek:Pf K C
 is:∀ i n,names[i]?=some n->dH K (.ref C) (.ref (cls n))=some (decide (i=j))
 ve:dH K (.ref C) (.type "ValueError")=some true
 ox:∃ bm,E8 base C bm/\bm.contains (.ref (cls "PlanError"))=true
 lt:j<11
inductive Vn (K:aa) (base:bA) (cls:Str->af) (names:List Str) (vs:List V) (H:Hp) (Q:VK) (z_3:XK):Prop
 |mk (ea C j:_) (h0:vs=[.ref ea]) (h1:H ea=some (Am ea C)) (h2:Xf K base cls names C j) (h3:∀ t H',cK H H'->H t=none->H' t=some (.tup [.str "refused",.int (j:Nat)])->Q (.ref t) H'):Vn K base cls names vs H Q z_3
def X3 (K:aa) (base:bA) (cls:Str->af) (names:List Str):Sp:=Vn K base cls names
def bits (j:Nat):List Bool:=[decide (0=j),decide (1=j),decide (2=j),decide (3=j),decide (4=j),decide (5=j),decide (6=j),decide (7=j),decide (8=j),decide (9=j),decide (10=j)]
theorem Jq:∀ j,j<11->(bits j).countP id=1:=by
 intro j h;have:∀ k:_root_.Fin 11,(bits k.val).countP id=1:=by decide
 exact this ⟨j,h⟩
theorem Tz:∀ j,j<11->(bits j)[j]?=some true/\∀ m,m<j->(bits j)[m]?=some false:=by
 intro j h;have:∀ k:_root_.Fin 11,(bits k.val)[k.val]?=some true/\∀ m:_root_.Fin 11,m.val<k.val->(bits k.val)[m.val]?=some false:=by decide
 exact ⟨(this ⟨j,h⟩).1,fun m a=>(this ⟨j,h⟩).2 ⟨m,by omega⟩ a⟩
theorem nr (m:PE X e0 (xQ 0)) (l:Gl X "isinstance") (g:X.mg "isinstance"=none) (b:Gl X n) (d:X.mg n=some (.ref (cls n))) (e:(n==("__debug__" : Str))=false:=by decide)
  (he:ao [e0,.Name n p2] X.env=(false,bG e0 X.env)::ao [.Name n p2] X.env:=by rfl) (c:(cC pos (ao [.Name n p2] X.env)).any (·.1)=false:=by rfl) :
  PE X (.Call (.Name "isinstance" p) [e0,.Name n p2] [] pos) (fun σ H Q=>∃ a C j i,σ[0]?=some (some (V.ref a))/\H a=some (Am a C)/\Xf X.K base cls names C j/\names[i]?=some n/\Q (.bl (decide (i=j))) H) :=
 ni (pM yC l g kU (bv m (bv (Ku b d (v:=.ref (cls n)) rfl e) cQ) he) (by decide) (by decide) he c) fun σ H Q ⟨a,C,j,i,f,h,x,k,q⟩ =>
  ⟨_,f,.ref a,.ref (cls n),.ref (cls n),_,rfl,.inr ⟨_,rfl,rfl⟩,.inr ⟨a,C,rfl,h,x.ek,x.is i n k⟩,q⟩
theorem TC (h:PE X e0 (xQ 0)) (g:Gl X "isinstance") (f:X.mg "isinstance"=none) (b:Gl X "ValueError") (d:X.mg "ValueError"=none)
  (he:ao [e0,.Name "ValueError" p2] X.env=(false,bG e0 X.env)::ao [.Name "ValueError" p2] X.env:=by rfl) (c:(cC pos (ao [.Name "ValueError" p2] X.env)).any (·.1)=false:=by rfl) :
  PE X (.Call (.Name "isinstance" p) [e0,.Name "ValueError" p2] [] pos) (fun σ H Q=>∃ a C j,σ[0]?=some (some (V.ref a))/\H a=some (Am a C)/\Xf X.K base cls names C j/\Q (.bl true) H) :=
 ni (pM yC g f kU (bv h (bv (Kv b d (u:=.type "ValueError") (v:=.ty "ValueError") rfl rfl) cQ) he) (by decide) (by decide) he c) fun σ H Q ⟨a,C,j,e,i,x,q⟩ =>
  ⟨_,e,.ref a,.ty "ValueError",.type "ValueError",_,rfl,.inl ⟨_,rfl,rfl⟩,.inr ⟨a,C,rfl,i,x.ek,x.ve⟩,q⟩
end J
namespace J
open PySem L2
structure Wh (P:aV) (w:bi) (K:aa) (mg:Str->Option ae) (base:bA) (cls:Str->af) (x:Str) (names:List Str) (wh:Str->Option Nat):Prop where
 fn:∃ f fd ps,G4 P w K mg base 1 f fd ps (X3 K base cls names)/\mg x=some (.ref f)/\bV K (.ref f)=true/\eQ K fd ps []
 pe:mg "PlanError"=some (.ref (cls "PlanError"))
 ox:∃ bp,E8 base (cls "PlanError") bp
 xf:∀ y j,wh y=some j->Xf K base cls names (cls y) j
end J
namespace L2
open PySem
theorem nh.mono1 (r:nh k A) (h:1<=k:=by decide):nh 1 A:=⟨by have:=r.dp;omega,by have:=r.un;omega⟩
end L2
namespace J
open PySem L2
section
open PyProof.Rows (OwnCls)
abbrev TF:List ae:=[.type "ValueError",.type "Exception",.type "BaseException",.type "object"]
theorem Jr {K:aa}{h:bA}{y:Str->Option ae}{x:Str}{C:af}{o:List ae}{c:String} (X:K.In h) (G:h.Ns bq y) (e:dW K bq x=some (some (.ref C))) (q:BD K C o c=true) (m1:cz K C (.type "BaseException")=some true) :
  OwnCls x C o c y h/\∃ bm,E8 h C bm/\∀ v,(v==bn C)=false->cz K C v=some true->bm.contains v=true:=by
 have p:=iH X G e;unfold BD at q;split at q
 ·rename_i dd t A look
  split at q
  ·rename_i s bm k0 k1 k2 k3 n k5 g a
   simp only [aP,beq_iff_eq,O9] at q;obtain ⟨⟨⟨⟨⟨rfl,rfl⟩,f⟩,I⟩,d⟩,b⟩:=q;have j:A=#[k0,k1,k2,k3,some (.builtin n),k5]:=by
    cases A with|mk l=>simp only at a;rw [a]
   have k:∀ v,cz K s v=some true->t.mro.contains v=true:=fun v i=>by
    unfold cz gS at i;rw [look] at i;simp only [NS] at i;split at i
    ·cases i
    ·exact bO i
   have bU:∀ v,(v==bn s)=false->cz K s v=some true->bm.contains v=true:=fun v E i=>by
    have:=k v i;rw [g,ko,E,wl] at this;exact this
   obtain ⟨nm,bs,H,w,u,z,sn,sub,ab,col,B⟩:=t;dsimp only at g f d b;subst g f j;have m:=X _ _ look;exact ⟨⟨p,bm,w,nm,u,bs,z,sn,sub,ab,col,dd,k0,k1,k2,k3,k5,_,m,.of_isNs (mX X d),fc X d b,PySem.W.tail_of_in X I⟩,
    bm,⟨⟨nm,u,w,bs,z,sn,sub,ab,col,dd,k0,k1,k2,k3,k5,n,m⟩,bU _ rfl m1⟩,bU⟩
  ·cases q
 ·cases q
structure TopC (K:aa) (x:Str) (C:af):Prop where
 ns:dW K bq x=some (some (.ref C))
 ex:BD K C TF "ValueError.__new__"=true
 mb:cz K C (.type "BaseException")=some true
theorem TopC.er {K:aa}{h:bA}{a:Str->Option ae}{cls:Str->af}{x:Str}{C:af} (T:TopC K x C) (X:K.In h) (G:h.Ns bq a) (b:cls x=C):Er a h cls x:=by
 subst b;exact ⟨_,_,_,_,(Jr X G T.ns T.ex T.mb).1,PySem.F.excBase_ValueError⟩
theorem TH {K:aa}{t C:af}{f:ClassData}{b:Bool} (a:gS K C=some f) (g:si K (.ref C)=some (.type "type")) (c:oU K (.ref t) (.ref C)=some b) (d:b=false->t≠C):dH K (.ref t) (.ref C)=some b:=by
 unfold dH;split
 ·rename_i he
  have e:t=C:=by have:=eq_of_beq he;cases this;rfl
  cases b with
  |true=>rfl
  |false=>exact (d rfl e).elim
 ·unfold Oa;simp only [a,g,vY,beq_self_eq_true,qr,if_true];exact c
theorem X4 (a:oU K (.ref t) (.type "ValueError")=some true):dH K (.ref t) (.type "ValueError")=some true:=by
 unfold dH;split
 ·rename_i he
  cases (eq_of_beq he)
 ·unfold Oa;show (if PySem.W.kitMeta "ValueError"=true then _ else none)=some true;rw [if_pos (by decide +kernel)];exact a
inductive Z1 (K:aa) (F:List D->R D) (vs:List V) (H:Hp) (Q:VK) (z_3:XK):Prop
 |mk (Hs ds d:_) (h0:cK Hs H) (h1:ds.length=1) (h2:RDs K Hs vs ds) (h3:F ds=.ok d) (h4:∀ v H' Hs',cn H Hs H' Hs'->RD K Hs' v d->Q v H'):Z1 K F vs H Q z_3
def Z2 (K:aa) (F:List D->R D):Sp:=Z1 K F
theorem X5 : ∀ vs H Q E,Z2 K F vs H Q E->RW K cls 1 F vs H Q E:=fun vs H Q E ⟨a,ds,d,s,l,r,e,q⟩=>⟨a,ds,s,l,r,by rw [e];exact q⟩
def Z3 (l:List (Str×af)):Str->af:=fun x=>(l.lookup x).getD 0
theorem X6 {K:aa}{F:List D->R D}{H:Hp}{a:af}{b:List Int} (d:F [.list (b.map .int)]=.ok (.bool true)) (h:pC K H a (b.map V.int)):Z2 K F [.ref a] H (fun v _=>v=.bl true) fun _ _ _=>False:=by
 have e:∀ b:List Int,RDs K H (b.map V.int) (b.map .int):=fun b=>by
  induction b with
  |nil=>exact .nil
  |cons x r c=>exact .cons (.int x) c
 refine ⟨H,[.list (b.map .int)],.bool true,.refl H,rfl,.cons (.list h (e b)) .nil,d,?_⟩;intro v H' f _ r;cases r;rfl
theorem X7 (h:jN P w [] H s (fun _ _ _=>False) e s'):False:=by
 obtain ⟨_,_,_,_,_,_,_,_,_,q⟩:=h;exact q
theorem walkF {l:yU}{k:Nat}{q:aV}{b:List Str}{A:(Str->Option ae)->bA->Prop}{i:bi->bA->Prop}{d:DefRec}{K:Params->aa}{x:Str}{F0:List D->R D}
  (y:l.most=some 63) (g:d.params.defaults=[]) (v:fJ k yt) (o:∀ (w:bi) (h:bA),i w h->(K w.params).In h)
  (F:∀ (w:bi) (e:Str->Option ae) (m:af) (h:bA),(K w.params).In h->h.Ns bq e->e d.name=some (.ref m) ->
   ∃ j:cr,(∀ (s:ak) (u:ae),yr s j ⟨[u],[]⟩ [(x,u)])/\∀ base:bA,(K w.params).In base->base.Ns bq e->l8 l.prog w (K w.params) e base (jN l.prog w) k m j [x] (Z2 (K w.params) F0))
  (p:∀ c:List Int,c.length<=63->F0 [.list (c.map .int)]=.ok (.bool true)) :
  RL q b A i l.row.toRowW d [] (fun f vs=>Mc f vs) :=
 L2.SU (n:=63) (k:=k) (x:=x) (CX:=fun w=>jN l.prog w) (sp:=fun w=>Z2 (K w.params) F0) y (by decide) g v o F (fun w H a c t _ z=>X6 (p c t) z) fun _ _ _ _ _ h=>X7 h
def gAt (i:Nat) (g:aB->R Fl):aB->R Fl:=fun ρ=>g (shareAt i ρ)
theorem PU (i:Nat) (h:JS c st gs):JS c st (gAt i gs):=Jp i h
end
theorem Eo {α b:Type} (a:α) (f:α->R b):(R.ok a).bind f=f a:=id rfl
def PV (h:aB->R Fl):Fl->R Fl:=fun a=>match a with
 |.nx ρ'=>h ρ'
 |a=>.ok a
theorem Gp (g h:aB->R Fl):bu g h (s::ρ)=(g (s::ρ)).bind (PV h):=id rfl
theorem sS (h:aB->R Fl) (ρ:aB):PV h (.nx ρ)=h ρ:=id rfl
theorem Gq (h:aB->R Fl) (d:D):PV h (.rt d)=.ok (.rt d):=id rfl
def ifK (g h:aB->R Fl) (ρ:aB):Bool->R Fl:=fun b=>bif b then g ρ else h ρ
theorem Z4 (t:aB->R Bool) (g h:aB->R Fl):fS t g h (s::ρ)=(t (s::ρ)).bind (ifK g h (s::ρ)):=by
 show (t (s::ρ)).bind _=_;congr 1;funext b;cases b<;>rfl
theorem PX (g h:aB->R Fl) (ρ:aB):ifK g h ρ false=h ρ:=id rfl
theorem PY (g h:aB->R Fl) (ρ:aB) (b:Bool):ifK g h ρ b=bif b then g ρ else h ρ:=id rfl
def rtK:D->R Fl:=fun d=>.ok (.rt d)
theorem Vo (g:aB->R D):eA g (s::ρ)=(g (dA (s::ρ))).bind rtK:=id rfl
theorem Z5 (d:D):rtK d=.ok (.rt d):=id rfl
def AE:Sl->Sl
 |.own d=>.shr d
 |.ow2 a=>.shr (.list (a.map .list))
 |s=>s
theorem L8:dA (s::ρ)=AE s::dA ρ:=by cases s<;>rfl
theorem Gr:dA []=[]:=id rfl
theorem L9:AE .no=.no:=id rfl
theorem Gs (d:D):AE (.shr d)=.shr d:=id rfl
theorem Gu (d:D):AE (.own d)=.shr d:=id rfl
theorem Gv (d:List (List D)):AE (.ow2 d)=.shr (.list (d.map .list)):=id rfl
def Z6 (i:Nat) (ρ:aB):D->R Fl:=fun d=>.ok (.nx (ρ.set i (.shr d)))
theorem PZ (i:Nat) (g:aB->R D):jl i g (s::ρ)=(g (s::ρ)).bind (Z6 i (s::ρ)):=id rfl
theorem P_ (i:Nat) (ρ:aB) (d:D):Z6 i ρ d=.ok (.nx (ρ.set i (.shr d))):=id rfl
def Vp (i:Nat) (ρ:aB):D->R Fl:=fun d=>.ok (.nx (ρ.set i (.own d)))
theorem Q0 (i:Nat) (g:aB->R D):kW i g (s::ρ)=(g (s::ρ)).bind (Vp i (s::ρ)):=id rfl
theorem La (i:Nat) (ρ:aB) (d:D):Vp i ρ d=.ok (.nx (ρ.set i (.own d))):=id rfl
def ON (ρ:aB):D->R Fl:=fun _=>.ok (.nx ρ)
theorem Q1 (g:aB->R D):CO g (s::ρ)=(g (s::ρ)).bind (J.ON (s::ρ)):=id rfl
theorem Lb (ρ:aB) (d:D):J.ON ρ d=.ok (.nx ρ):=id rfl
def g2K (gb:aB->R D) (h:D->D->R D) (ρ:aB):D->R D:=fun x=>(gb ρ).bind (h x)
theorem Z7 (a gb:aB->R D) (h:D->D->R D):g2 a gb h (s::ρ)=(a (s::ρ)).bind (g2K gb h (s::ρ)):=id rfl
theorem Vq (gb:aB->R D) (h:D->D->R D) (ρ:aB) (x:D):g2K gb h ρ x=(gb ρ).bind (h x):=id rfl
def TJ:D->R Bool:=fun d=>match d with
 |.bool b=>.ok b
 |_=>.no
theorem Vr (g:aB->R D):eT g (s::ρ)=(g (s::ρ)).bind TJ:=id rfl
theorem Q2 (b:Bool):TJ (.bool b)=.ok b:=id rfl
def Z8:Bool->R Bool:=fun b=>.ok (!b)
theorem Vs (g:aB->R Bool):jH g (s::ρ)=(g (s::ρ)).bind Z8:=id rfl
theorem Q3 (b:Bool):Z8 b=.ok (!b):=id rfl
def Z9 (h:aB->R Bool) (ρ:aB):Bool->R Bool:=fun b=>bif b then h ρ else .ok false
def orK (h:aB->R Bool) (ρ:aB):Bool->R Bool:=fun b=>bif b then .ok true else h ρ
theorem Vt (g h:aB->R Bool):oY g h (s::ρ)=(g (s::ρ)).bind (Z9 h (s::ρ)):=by
 show (g (s::ρ)).bind _=_;congr 1;funext b;cases b<;>rfl
theorem Za (g h:aB->R Bool):y0 g h (s::ρ)=(g (s::ρ)).bind (orK h (s::ρ)):=by
 show (g (s::ρ)).bind _=_;congr 1;funext b;cases b<;>rfl
theorem Q4 (h:aB->R Bool) (ρ:aB) (b:Bool):Z9 h ρ b=bif b then h ρ else .ok false:=id rfl
theorem Vu (h:aB->R Bool) (ρ:aB) (b:Bool):orK h ρ b=bif b then .ok true else h ρ:=id rfl
def Vv:Bool->R D:=fun b=>.ok (.bool (!b))
theorem Q5 (g:aB->R D):G7 g (s::ρ)=((g (s::ρ)).bind TJ).bind Vv:=id rfl
theorem Lc (b:Bool):Vv b=.ok (.bool (!b)):=id rfl
def Vw (h:aB->R D) (ρ:aB):Bool->R D:=fun b=>bif b then h ρ else .ok (.bool false)
theorem Q6 (g h:aB->R D):At g h (s::ρ)=((g (s::ρ)).bind TJ).bind (Vw h (s::ρ)):=by
 show (eT g (s::ρ)).bind _=(eT g (s::ρ)).bind _;congr 1;funext b;cases b<;>rfl
theorem Ld (h:aB->R D) (ρ:aB) (b:Bool):Vw h ρ b=bif b then h ρ else .ok (.bool false):=id rfl
def Zb (gb a:aB->R D) (h h':D->D->R D) (ρ:aB):D->R D:=fun x=>(gb ρ).bind fun y=>(h x y).bind fun z=>match z with
 |.bool true=>(a ρ).bind fun w=>h' y w
 |.bool false=>.ok (.bool false)
 |_=>.no
def Zc (a:aB->R D) (h h':D->D->R D) (ρ:aB) (x:D):D->R D:=fun y=>(h x y).bind fun z=>match z with
 |.bool true=>(a ρ).bind fun w=>h' y w
 |.bool false=>.ok (.bool false)
 |_=>.no
def Zd (a:aB->R D) (h':D->D->R D) (ρ:aB) (y:D):D->R D:=fun z=>match z with
 |.bool true=>(a ρ).bind (h' y)
 |.bool false=>.ok (.bool false)
 |_=>.no
theorem Le (b gb a:aB->R D) (h h':D->D->R D):sI b gb a h h' (s::ρ)=(b (s::ρ)).bind (Zb gb a h h' (s::ρ)):=id rfl
theorem Q7 (gb a:aB->R D) (h h':D->D->R D) (ρ:aB) (x:D):Zb gb a h h' ρ x=(gb ρ).bind (Zc a h h' ρ x):=id rfl
theorem Q8 (a:aB->R D) (h h':D->D->R D) (ρ:aB) (x y:D):Zc a h h' ρ x y=(h x y).bind (Zd a h' ρ y):=id rfl
theorem Q9 (a:aB->R D) (h':D->D->R D) (ρ:aB) (y:D) (b:Bool):Zd a h' ρ y (.bool b)=bif b then (a ρ).bind (h' y) else .ok (.bool false):=by cases b<;>rfl
def Qa (a:aB->R (List D)) (ρ:aB):D->R (List D):=fun d=>(a ρ).bind fun ds=>.ok (d::ds)
def Qb (d:D):List D->R (List D):=fun ds=>.ok (d::ds)
theorem Qc (g:aB->R D) (a:aB->R (List D)):J.ah g a (s::ρ)=(g (s::ρ)).bind (Qa a (s::ρ)):=id rfl
theorem Gw (a:aB->R (List D)) (ρ:aB) (d:D):Qa a ρ d=(a ρ).bind (Qb d):=id rfl
theorem Gx (d:D) (ds:List D):Qb d ds=.ok (d::ds):=id rfl
theorem Vx (ρ:aB):J.aN ρ=.ok []:=id rfl
def Vy (k:List D->D):List D->R D:=fun ds=>if ds.length<=1000 then .ok (k ds) else .no
theorem Qd (a:aB->R (List D)) (k:List D->D):fj a k (s::ρ)=(a (s::ρ)).bind (Vy k):=id rfl
theorem Lf (k:List D->D) (ds:List D):Vy k ds=if ds.length<=1000 then .ok (k ds) else .no:=id rfl
theorem Qe (a:aB->R (List D)) (h:List D->R D):c7 a h (s::ρ)=(a (s::ρ)).bind h:=id rfl
def fnK (n:Nat) (F:List D->R D):List D->R D:=fun ds=>if ds.length=n then F ds else .no
theorem Ze (n:Nat) (F:List D->R D) (a:aB->R (List D)):gN n F a (s::ρ)=(a (s::ρ)).bind (fnK n F):=id rfl
theorem Vz (n:Nat) (F:List D->R D) (ds:List D):fnK n F ds=if ds.length=n then F ds else .no:=id rfl
theorem Qf (h:D->R D) (d:D):j9 h [d]=h d:=id rfl
theorem Qg (d:D) (ρ:aB):Jf (.shr d::ρ) 0=.ok d:=id rfl
theorem VA (s:Sl) (ρ:aB) (n:Nat):Jf (s::ρ) (n+1)=Jf ρ n:=by simp [Jf]
theorem Qh (d:D) (ρ:aB):HW (.shr d::ρ) 0=.ok d:=id rfl
theorem Qi (d:D) (ρ:aB):HW (.own d::ρ) 0=.ok d:=id rfl
theorem VB (s:Sl) (ρ:aB) (n:Nat):HW (s::ρ) (n+1)=HW ρ n:=by simp [HW]
def Zf (T:String):D->R D:=fun d=>if wH d then .ok (.bool (Gf T d)) else .no
theorem VC (g:aB->R D) (T:String):wL g T (s::ρ)=(g (s::ρ)).bind (Zf T):=id rfl
theorem Qj (T:String) (d:D):Zf T d=if wH d then .ok (.bool (Gf T d)) else .no:=id rfl
def Zg (a b:aB->R (Option Int)) (ρ:aB):D->R D:=fun x=>(a ρ).bind fun l=>(b ρ).bind fun h=>KY x l h
def Zh (a:aB->R (Option Int)) (ρ:aB) (x:D):Option Int->R D:=fun l=>(a ρ).bind fun h=>KY x l h
theorem Zi (g:aB->R D) (b a:aB->R (Option Int)):Vk g b a (s::ρ)=(g (s::ρ)).bind (Zg b a (s::ρ)):=id rfl
theorem Qk (b a:aB->R (Option Int)) (ρ:aB) (x:D):Zg b a ρ x=(b ρ).bind (Zh a ρ x):=id rfl
theorem Ql (a:aB->R (Option Int)) (ρ:aB) (x:D) (l:Option Int):Zh a ρ x l=(a ρ).bind (KY x l):=id rfl
theorem VD (ρ:aB):XV ρ=.ok none:=id rfl
def Zj:D->R (Option Int):=fun d=>match d with
 |.int i=>.ok (some i)
 |_=>.no
theorem VE (g:aB->R D):Tk g (s::ρ)=(g (s::ρ)).bind Zj:=id rfl
theorem Qm (i:Int):Zj (.int i)=.ok (some i):=id rfl
theorem X8 (g:aB->R D):kz g (s::ρ)=(g (s::ρ)).bind Av:=id rfl
theorem Qn (a:aB->R (List D)):CT a (s::ρ)=(a (s::ρ)).bind Jl:=id rfl
theorem VF (a:aB->R (List D)):Jm a (s::ρ)=(a (s::ρ)).bind enm:=id rfl
theorem VG (a:aB->R (List D)):Tr a (s::ρ)=(a (s::ρ)).bind zp:=id rfl
def VH (nt:Nat) (ix:List Nat) (gt:aB->R Bool) (ge:aB->R D) (ρ:aB):List D->R D:=fun ds=>if ds.length<=1000 then (il (jt nt (o_ nt ix ρ) gt ge) ds).bind fun ys=>.ok (.list ys) else .no
def VI:List D->R D:=fun ys=>.ok (.list ys)
theorem Qo (nt:Nat) (ix:List Nat) (a:aB->R (List D)) (gt:aB->R Bool) (ge:aB->R D):dJ nt ix a gt ge (s::ρ)=(a (s::ρ)).bind (VH nt ix gt ge (s::ρ)):=id rfl
theorem Lg (nt:Nat) (ix:List Nat) (gt:aB->R Bool) (ge:aB->R D) (ρ:aB) (ds:List D):VH nt ix gt ge ρ ds=if ds.length<=1000 then (il (jt nt (o_ nt ix ρ) gt ge) ds).bind VI else .no:=id rfl
theorem Lh (ys:List D):VI ys=.ok (.list ys):=id rfl
theorem yE (a:aB->R (List D)) (kt:D->aB->R aB) (gb:aB->R Fl) (ds:List D) (h:a (s::ρ)=.ok ds):y8 a kt gb (s::ρ)=p7 kt gb ds (s::ρ):=by unfold y8;rw [h]
def TK (k:D->aB->R aB) (ρ:aB):D->R Fl:=fun d=>match k d ρ with
 |.ok ρ'=>.ok (.nx ρ')
 |_=>.no
theorem VJ (g:aB->R D) (k:D->aB->R aB):zc g k (s::ρ)=(g (s::ρ)).bind (TK k (s::ρ)):=id rfl
theorem CW (ds:List D):Av (.list ds)=.ok ds:=id rfl
theorem CY (ds:List D):Av (.tuple ds)=.ok ds:=id rfl
theorem CZ (x:Str):Av (.str x)=.ok (oZ x):=id rfl
theorem Qp (ds:List D):enm [.tuple ds]=.ok (rH 0 ds):=id rfl
theorem Zk (ds a:List D):zp [.tuple ds,.tuple a]=.ok (zd ds a):=id rfl
def C_ (ρ:aB) (i:Nat):Sl:=Tu ((ρ[i]?).getD .no)
def Qq (ix:List Nat) (ρ:aB):aB:=ix.map (C_ ρ)
theorem Qr (ix:List Nat) (ρ:aB):o_ 1 ix ρ=.no::Qq ix ρ:=id rfl
theorem Qs (ix:List Nat) (ρ:aB):o_ 2 ix ρ=.no::.no::Qq ix ρ:=id rfl
theorem Qt (ρ:aB):Qq [] ρ=[]:=id rfl
theorem Qu (i:Nat) (ix:List Nat) (ρ:aB):Qq (i::ix) ρ=C_ ρ i::Qq ix ρ:=id rfl
theorem Qv (s:Sl) (ρ:aB):C_ (s::ρ) 0=Tu s:=id rfl
theorem Qw (s:Sl) (ρ:aB) (n:Nat):C_ (s::ρ) (n+1)=C_ ρ n:=by simp [C_]
theorem D0 (d:D):Tu (.shr d)=.shr d:=id rfl
theorem Qx (h:ρ[i]?=some (Sl.own d)):shareAt i ρ=ρ.set i (.shr d):=by unfold shareAt;rw [h]
theorem dL {α:Type} (f:D->R (Option D)) (c:α->D) (h:α->D):∀ (xs:List α),(∀ x∈xs,f (c x)=.ok (some (h x)))->il f (xs.map c)=.ok (xs.map h)
 |[],_=>rfl
 |x::r,e=>by
  rw [aW,aW];unfold il;rw [e x au,bind_ok,dL f c h r fun y a=>e y (aq _ a),bind_ok]
theorem jm {α:Type} (f:D->R (Option D)) (c:α->D) (h:α->D) (p:α->Bool):∀ (xs:List α),(∀ x∈xs,f (c x)=.ok (if p x then some (h x) else none))->il f (xs.map c)=.ok ((xs.filter p).map h)
 |[],_=>rfl
 |x::r,e=>by
  rw [aW];unfold il;rw [e x au,bind_ok,jm f c h p r fun y b=>e y (aq _ b),bind_ok];cases a:p x<;>simp [a]
theorem VL : jt 1 ρ gt ge d=MR (((gt (ρ.set 0 (.shr d)))).bind fun b=>if b then (ge (ρ.set 0 (.shr d))).bind fun y=>.ok (some y) else .ok none):=id rfl
theorem fM (a:gt (ρ.set 0 (.shr d))=.ok true) (b:ge (ρ.set 0 (.shr d))=.ok y):jt 1 ρ gt ge d=.ok (some y):=by
 rw [VL,a,bind_ok,if_pos rfl,b];rfl
theorem wQ (a:gt (ρ.set 0 (.shr d))=.ok b) (c:b=true->ge (ρ.set 0 (.shr d))=.ok y):jt 1 ρ gt ge d=.ok (if b then some y else none):=by
 rw [VL,a,bind_ok];cases b with
 |true=>rw [if_pos rfl,c rfl];rfl
 |false=>rfl
theorem TL (b:-(2 ^ 62)<=j) (f:j<2 ^ 62):Jl [.int j]=.ok (sO 0 j.toNat):=by
 have h:-(2 ^ 62)<=j/\j<2 ^ 62:=⟨b,f⟩;unfold Jl;split
 ·rename_i c e
  have a:j=c:=by injection e with e;injection e
  subst a;rw [if_pos h]
 ·rename_i d
  exact (d j rfl).elim
end J
namespace L2
open PySem PySem.Spec PyProof.Rows
end L2
namespace J
open PySem L2
open PyProof.Rows (envOfC)
section
variable {c:C}{body:List c9}{x n:Str}{np np2 np3 hpos cpos rpos pos:Pos}{gb:aB->R Fl}{names:List Str}{wh:Str->Option Nat}
end
theorem Fr.consNo (f:Fr K H0 Hs0 (fun _=>none) ρ σ H Hs):Fr K H0 Hs0 (fun _=>none) (.no::ρ) (some v::σ) H Hs:=by
 refine ⟨f.st,congrArg (· + 1) f.len,fun i d h=>?_,fun i d h=>?_,fun i d h=>?_,fun i j d e a c g k m=>?_,fun i a h=>(nomatch h),fun i d h=>?_,fun i j d e c g=>?_⟩
 ·cases i with
  |zero=>cases h
  |succ i=>exact f.sh i d h
 ·cases i with
  |zero=>cases h
  |succ i=>exact f.ow i d h
 ·cases i with
  |zero=>cases h
  |succ i=>exact f.lk i d h
 ·cases i with
  |zero=>cases c
  |succ i =>
   cases j with
   |zero=>cases g
   |succ j=>exact congrArg (· + 1) (f.dj i j d e a c g k m)
 ·cases i with
  |zero=>cases h
  |succ i =>
   obtain ⟨a,l,o⟩:=f.o2 i d h;refine ⟨a,l,o.at_,o.ob,o.nd,o.out,fun b n j e c=>?_,o.inn⟩;cases j with
   |zero=>cases c
   |succ j=>exact o.dj b n j e c
 ·cases i with
  |zero=>cases c
  |succ i =>
   cases j with
   |zero=>cases g
   |succ j=>exact congrArg (· + 1) (f.u2 i j d e c g)
theorem ln1 {α:Type}{us:List α} (h:us.length=1):∃ a,us=[a]:=by
 rcases us with _|⟨a0,_|⟨z,r⟩⟩
 ·simp at h
 ·exact ⟨_,rfl⟩
 ·simp at h
theorem ln2 {α:Type}{us:List α} (h:us.length=2):∃ a b,us=[a,b]:=by
 rcases us with _|⟨a0,_|⟨a0,_|⟨z,r⟩⟩⟩
 ·simp at h
 ·simp at h
 ·exact ⟨_,_,rfl⟩
 ·simp at h
theorem ln3 {α:Type}{us:List α} (h:us.length=3):∃ a b c,us=[a,b,c]:=by
 rcases us with _|⟨a0,_|⟨a0,_|⟨a0,_|⟨z,r⟩⟩⟩⟩
 ·simp at h
 ·simp at h
 ·simp at h
 ·exact ⟨_,_,_,rfl⟩
 ·simp at h
theorem ln4 {α:Type}{us:List α} (h:us.length=4):∃ a b c d,us=[a,b,c,d]:=by
 rcases us with _|⟨a0,_|⟨a0,_|⟨a0,_|⟨a0,_|⟨z,r⟩⟩⟩⟩⟩
 ·simp at h
 ·simp at h
 ·simp at h
 ·simp at h
 ·exact ⟨_,_,_,_,rfl⟩
 ·simp at h
theorem ln5 {α:Type}{us:List α} (h:us.length=5):∃ a b c d e,us=[a,b,c,d,e]:=by
 rcases us with _|⟨a0,_|⟨a0,_|⟨a0,_|⟨a0,_|⟨a0,_|⟨z,r⟩⟩⟩⟩⟩⟩
 ·simp at h
 ·simp at h
 ·simp at h
 ·simp at h
 ·simp at h
 ·exact ⟨_,_,_,_,_,rfl⟩
 ·simp at h
end J
namespace J
open PySem L2
end J
namespace HT
open PySem PyProof.Rows
section
open PySem.SeqAt
open PySem.AutoSeq1 (wpAny_loadPart')
open PySem.MeetsSeq PySem.MeetsSeq2 PySem.MeetsSeq3
end
end HT
namespace L2
open PySem PySem.Spec PyProof.Rows
section
variable {X:Cx}{e st:bc}{te ts:TE}{pos p2:Pos}
end
end L2
namespace J
open PySem L2
section
variable {c:C}{e:bc}{g:aB->R D}{pos p2 p3 p4:Pos}
end
end J
namespace L2
open PySem
def NW (a:Nat):Nat->Nat×Nat->Nat×Nat
 | 0,x=>x
 |n+1,x=>NW a n (SetTable.leap a x.1 x.2)
theorem Li (a:Nat):∀ (n m:Nat) (x:Nat×Nat),NW a (n+m) x=NW a m (NW a n x)
 | 0,m,x=>by rw [Iz];rfl
 |n+1,m,x=>by
  rw [Nat.succ_add];exact Li a n m _
theorem Lj (a:Nat):∀ (n:Nat) (x:Nat×Nat),(NW a n x).2=x.2 / 32 ^ n
 | 0,x=>by simp [NW]
 |n+1,x=>by
  show (NW a n _).2=_;rw [Lj a n];show x.2 / 32 / 32 ^ n=_;rw [Nat.div_div_eq_div_mul,Nat.pow_succ,Nat.mul_comm]
theorem Lk (a:Nat):∀ (n:Nat) (x:Nat×Nat),x.1<=a->(NW a n x).1<=a
 | 0,x,h=>h
 |n+1,x,h=>Lk a n _ (by
  show (x.1*5+1+x.2 / 32) % (a+1)<=a;exact yW (DG _ (IA _)))
theorem D1 : ∀ (fuel i p:Nat),dX mask owner fuel i p=none->∀ n,n<fuel->(owner.getD (NW mask n (i,p)).1 (some 0)).isSome=true
 | 0,_,_,_,n,h=>absurd h (Nat.not_lt_zero n)
 |fuel+1,i,p,e,n,h=>by
  unfold dX at e;split at e
  ·cases e
  ·rename_i b
   cases n with
   |zero =>
    have a:=List.find?_eq_none.mp b 0 (List.mem_range.mpr (by unfold SetTable.runEnd;split<;>omega));simp only [Nat.add_zero] at a;show (owner.getD i (some 0)).isSome=true;cases q:owner.getD i (some 0) with
    |none=>rw [q] at a;exact absurd rfl a
    |some _=>rfl
   |succ n=>exact D1 fuel _ _ e n (IB h)
theorem D2 : ∀ (fuel i p k:Nat),dX mask owner fuel i p=some k->owner.getD k (some 0)=none
 | 0,_,_,_,e=>nomatch e
 |fuel+1,i,p,k,e=>by
  unfold dX at e;split at e
  ·rename_i a b
   cases e;have:=List.find?_some b;cases q:owner.getD (i+a) (some 0) with
   |none=>rfl
   |some _=>rw [q] at this;cases this
  ·exact D2 fuel _ _ k e
def NX (a:Nat):Prop:=a=7\/a=15\/a=31
def Zl (a:Nat):Bool:=(br (a+1)).all fun i=>(br (a+1)).all fun j=>(br (a+1)).any fun n=>decide ((NW a n (i,0)).1=j)
theorem TQ (h:NX mask):Zl mask=true:=by
 rcases h with h|h|h<;>subst h<;>decide +kernel
theorem getD_none {owner:Array (Option Nat)}{k:Nat} (h:owner.getD k (some 0)=none):owner.toList[k]?=some none:=by
 by_cases a:k<owner.size
 ·rw [iZ,jA a] at h;rw [dQ,jA a];simpa using h
 ·rw [iZ,Array.getElem?_eq_none (by omega)] at h;cases h
theorem MV {a:Nat} (h:NX a) {owner:Array (Option Nat)}{j:Nat} (o:j<=a) (d:owner.toList[j]?=some none) {i p:Nat} (s:i<=a) (m:p<2 ^ 64) :
  ∃ k,dX a owner (rZ a) i p=some k/\owner.toList[k]?=some none:=by
 cases e:dX a owner (rZ a) i p with
 |some k=>exact ⟨k,rfl,getD_none (D2 _ _ _ _ e)⟩
 |none =>
  exfalso;have l:(NW a 13 (i,p)).2=0:=by
   rw [Lj];exact Nat.div_eq_of_lt (aL m (by decide))
  have f:=Lk a 13 (i,p) s;have g:=TQ h;unfold Zl at g;rw [cY] at g;have g:=g _ (List.mem_range.mpr (qo f));rw [cY] at g;have g:=g j (List.mem_range.mpr (qo o));rw [lT] at g;obtain ⟨n,c,b⟩:=g;have c:=List.mem_range.mp c;have b:=of_decide_eq_true b;have hs:(NW a (13+n) (i,p)).1=j:=by
   rw [Li,<- b,<- l]
  have:=D1 _ _ _ e (13+n) (by unfold rZ;omega);rw [hs] at this;have q:owner.getD j (some 0)=none:=by
   rw [dQ] at d;rw [iZ,d];rfl
  rw [q] at this;cases this
theorem TU (h:Int):o6 h<2 ^ 64:=by
 unfold o6;have:=oV h (show (0:Int)<2 ^ 64 by decide);have:=tN h (show (2 ^ 64:Int)≠0 by decide);omega
theorem Gy:∀ {l:List (Option Nat)}{j:Nat},l[j]?=some none->((l.set j (some k)).filterMap id).Perm (k::l.filterMap id)
 |[],_,h=>nomatch h
 |x::r,0,h=>by
  cases h;exact .refl _
 |x::r,j+1,h=>by
  have a:=Gy (k:=k) (l:=r) (j:=j) h;cases x with
  |none=>exact a
  |some y=>exact (a.cons y).trans (.swap k y _)
theorem Gz:∀ {l:List (Option Nat)},(l.filterMap id).length<l.length->∃ j,j<l.length/\l[j]?=some none
 |[],h=>absurd h (cZ 0)
 |none::r,_=>⟨0,IA _,rfl⟩
 |some y::r,h=>by
  obtain ⟨j,a,b⟩:=Gz (l:=r) (IB h);exact ⟨j+1,Nat.succ_lt_succ a,b⟩
def Ll (a:Nat) (b:Option (Array (Option Nat)×Nat)) (h:Int):Option (Array (Option Nat)×Nat):=b.bind fun x=>(dX a x.1 (rZ a) (o6 h % (a+1)) (o6 h)).bind fun j=>some (x.1.setIfInBounds j (some x.2),x.2+1)
theorem GC (a:Nat) (hs:Array Int):vZ a hs=(hs.toList.foldl (Ll a) (some (zT (a+1) none,0))).map (·.1):=by
 rw [Array.foldl_toList];rfl
theorem Lm (g:NX mask):∀ (l:List Int) (owner:Array (Option Nat)) (k:Nat),owner.size=mask+1->(owner.toList.filterMap id).Perm (br k)->k+l.length<=mask ->
  ∃ b,l.foldl (Ll mask) (some (owner,k))=some (b,k+l.length)/\b.size=mask+1/\(b.toList.filterMap id).Perm (br (k+l.length))
 |[],owner,k,a,c,_=>⟨owner,rfl,a,c⟩
 |h::r,owner,k,a,c,n=>by
  simp only [aX] at n ⊢;obtain ⟨j,f,o⟩:=Gz (l:=owner.toList) (by rw [c.length_eq,dh,ay,a];omega);rw [ay,a] at f;obtain ⟨m,m1,m2⟩:=MV g (yW f) o (i:=o6 h % (mask+1)) (yW (DG _ (IA _))) (TU h);have e:Ll mask (some (owner,k)) h=some (owner.setIfInBounds m (some k),k+1):=by
   unfold Ll;simp only [NS,m1]
  rw [sv,e];obtain ⟨b,d,a2,a3⟩:=Lm g r (owner.setIfInBounds m (some k)) (k+1) (by rw [Array.size_setIfInBounds];exact a) (by
   rw [Array.toList_setIfInBounds];refine (Gy m2).trans ?_;rw [List.range_succ];exact ((c.cons k).trans (List.perm_append_singleton k _).symm)) (by omega)
  rw [show k+1+r.length=k+(r.length+1) by omega] at d a3;exact ⟨b,d,a2,a3⟩
theorem Ln {n:Nat}{o:Array (Option Nat)} (h:o.size=n):(br n).filterMap (fun j=>o.getD j none)=o.toList.filterMap id:=by
 have e:(br n).map (fun j=>o.getD j none)=o.toList:=by
  refine zq (by simp [h]) fun i a b=>?_;simp only [aw,dh] at a;rw [zt,xv,iZ,jA (by omega)];simp
 rw [<- e,nX];rfl
theorem Lo {mask finger moves:Nat}{led plain:Bool}{hs:Array Int} (f:NX mask) (i:hs.size<=mask):∃ place a,Bw mask finger moves led plain hs=some ({ mask,place,dummies:=#[],finger,led,moves,plain },a)/\place.size=hs.size/\a.toList.Perm (br hs.size):=by
 obtain ⟨o,d,c,b⟩:=Lm f hs.toList (zT (mask+1) none) 0 (by simp) (by
  have:(zT (mask+1) (none:Option Nat)).toList.filterMap id=[]:=by
   rw [Array.toList_replicate,List.filterMap_eq_nil_iff];intro x h;rw [(List.mem_replicate.mp h).2];rfl
  rw [this];exact .refl _) (by rw [ay];omega)
 have g:vZ mask hs=some o:=by
  rw [GC,d];rfl
 rw [Iz,ay] at b;refine ⟨_,_,by unfold Bw;rw [g];rfl,?_,?_⟩
 ·have e:=congrArg pG (Ln c);rw [b.length_eq,dh] at e;rw [aG,aw,<- e];rw [yX,yX];congr 1;funext j;cases o.getD j none<;>rfl
 ·rw [List.map_filterMap];refine .trans (.of_eq ?_) b;rw [<- Ln c];show List.filterMap _ _=List.filterMap _ _;congr 1;funext j;cases o.getD j none<;>rfl
end L2
namespace L2
open PySem
theorem Qy:∀ n:_root_.Fin 31,n.val<cw n.val/\(cw n.val=8\/cw n.val=16\/cw n.val=32):=by decide +kernel
theorem Qz (h:n<=30):n<=cw n-1/\NX (cw n-1)/\cw n<=32:=by
 obtain ⟨a,b⟩:=Qy ⟨n,by omega⟩;simp only at a b;unfold NX;omega
theorem AF {b:Array (Int×ae)}{a:Array Nat} (h:a.toList.Perm (br b.size)):(a.filterMap (b[·]?)).toList.Perm b.toList:=by
 rw [Array.toList_filterMap];refine (h.filterMap _).trans (.of_eq ?_);have e:(br b.size).map (fun i=>b[i]?)=b.toList.map some:=by
  refine zq (by simp) fun i c f=>?_;simp only [aw,dh] at c;rw [zt,xv,zt,Array.getElem_toList];exact jA c
 have d:(br b.size).filterMap (fun i=>b[i]?)=((br b.size).map (fun i=>b[i]?)).filterMap id:=by rw [nX];rfl
 rw [d,e,nX];simp
theorem c_.of (I:c_ w h a es ep t) (p:es'.toList.Perm es.toList) (f:t'.fits es'.size=true) (l:t'.led=t.led) (pl:t'.plain=t.plain):c_ w (h.update a (su es' t')) a es' (ep+1) t':=by
 have sz:es'.size=es.size:=by rw [<- ay,p.length_eq,ay]
 refine ⟨tT I,fun e he=>I.txt e (p.mem_iff.mp he),(p.map kQ).nodup_iff.mpr I.nd,by rw [sz];exact I.few,f,l.trans I.led,?_⟩;rw [sz,pl];exact I.pl
theorem AG {t:m9}{n:Nat} (h:t.fits n=true):t.place.size=n/\t.fill<=t.mask:=by
 unfold nZ at h;rw [aP] at h;exact ⟨eq_of_beq h.1,of_decide_eq_true h.2⟩
theorem Lp {mask finger moves:Nat}{led plain:Bool}{place:Array Nat}{n:Nat} (h:place.size=n) (a:n<=mask):nZ { mask,place,dummies:=#[],finger,led,moves,plain } n=true:=by
 unfold nZ Ob;subst h;simp only [beq_self_eq_true,wp,decide_eq_true_eq];exact a
theorem Js {a:af}{d:Array (Int×ae)}{m:Nat}{t:m9}{b:Nat}{Q:Unit->ak->Prop} (I:c_ w s.heap a d m t) (n:b<=30) (p:d.size<=b)
  (h:∀ h' es' f t',bJ a s.heap h'->c_ w h' a es' f t'->es'.toList.Perm d.toList->NX t'.mask->b<=t'.mask->Q () { s with heap:=h' }):av (aF P w) A (setRelay a b) Q E s:=by
 obtain ⟨l,j,w3⟩:=Qz n;obtain ⟨place,c,e,k,ho⟩:=Lo (finger:=t.finger) (moves:=t.movedTo (cw b-1)) (led:=t.led) (plain:=t.plain) (hs:=d.map (·.1)) j (by rw [uD];omega);rw [uD] at k ho;have g:=AF ho;have sz:(c.filterMap (d[·]?)).size=d.size:=by rw [<- ay,g.length_eq,ay]
 unfold setRelay;refine ac (bD I.at_ rfl I.fits ?_);show av _ _ (if cw b > sizeLine then _ else _) _ _ s;have o:(32:Nat)<=sizeLine:=by decide
 rw [if_neg (by omega)];refine ac ?_;unfold Me;rw [e];show av _ _ (if ((c.filterMap (d[·]?)).size != d.size)=true then _ else pure (c.filterMap (d[·]?),_)) _ _ s;rw [if_neg (by rw [sz];simp)];refine ag ?_;have i:nZ { mask:=cw b-1,place,dummies:=#[],finger:=t.finger,led:=t.led,moves:=t.movedTo (cw b-1),plain:=t.plain } (c.filterMap (d[·]?)).size=true:=Lp (by rw [sz];exact k) (by rw [sz];omega);refine jy I.at_ rfl ?_ (by rw [sz];exact fV I.few);exact h _ _ _ _ (bX s.heap a _) (I.of g i rfl rfl) g j l
theorem Ep {a:af}{d:Array (Int×ae)}{g:Nat}{t:m9}{b:Nat}{Q:Unit->ak->Prop} (I:c_ w s.heap a d g t) (k:d.size+b<=15) (i:d.size≠0\/NX t.mask)
  (h:∀ h' es' c t',bJ a s.heap h'->c_ w h' a es' c t'->es'.toList.Perm d.toList->(d.size≠0\/NX t'.mask)->b<=t'.mask->Q () { s with heap:=h' }):av (aF P w) A (setRoomFor a b) Q E s:=by
 obtain ⟨e,l⟩:=AG I.fits;unfold setRoomFor;refine ac (bD I.at_ rfl I.fits ?_);dsimp only;unfold SetTable.roomFor;by_cases f:(t.fill+b)*5 ≥ t.mask*3
 ·rw [if_pos f];refine Js I (by rw [e];omega) (by rw [e];omega) fun h' es' c t' j a2 a3 a4 a5=>?_;exact h h' es' c t' j a2 a3 (.inr a4) (by rw [e] at a5;omega)
 ·rw [if_neg f];exact ag (h s.heap d g t (.refl ..) I (.refl _) i (by omega))
end L2
namespace L2
open PySem
theorem zE {α σ:Type}{M:NH}{A:bh}{E:ae->ak->Prop}{Q:σ->ak->Prop}{f:α->σ->Sem (ForInStep σ)}{b:σ} (I:List α->ak->Prop)
  (step:∀ x r s,I (x::r) s->av M A (f x b) (fun a s'=>a=.yield b/\I r s') E s) (fin:∀ s,I [] s->Q b s):∀ (l:List α) (s:ak),I l s->av M A (forIn l b f) Q E s
 |[],s,h=>by rw [uN];exact ag (fin s h)
 |x::r,s,h=>by
  rw [mQ];refine ac (cx (step x r s h) (fun a s' q=>?_) fun _ _ e=>e);obtain ⟨rfl,q⟩:=q;exact zE I step fin r s' q
theorem GE (h:∀ a∈l,∃ f g t,c_ w s.heap a f g t) (q:Q true s):av (aF P w) A (setsQuiet l) Q E s:=by
 unfold setsQuiet;refine ac (zE (fun r s'=>s'=s/\∀ a∈r,∃ f g t,c_ w s.heap a f g t) (fun a r s' c=>?_) (fun s' c=>?_) l s ⟨rfl,h⟩)
 ·obtain ⟨rfl,c⟩:=c;obtain ⟨f,g,t,I⟩:=c a au;unfold setEntries;refine ac (ac (bD I.at_ rfl I.fits (ag ?_)));dsimp only;rw [<- Mh];refine ac (zE (fun j i=>i=s'/\∀ e∈j,vd w e) (fun e j i d=>?_) (fun i d=>?_) f.toList s' ⟨rfl,I.txt⟩)
  ·obtain ⟨rfl,d⟩:=d;obtain ⟨x,m,rfl⟩:=d e au;exact ag ⟨rfl,rfl,fun e he=>d e (aq _ he)⟩
  ·obtain ⟨rfl,_⟩:=d;exact ag ⟨rfl,rfl,fun b k=>c b (aq _ k)⟩
 ·obtain ⟨rfl,_⟩:=c;exact ag q
theorem MW (I:c_ w s.heap o es ep t) (b:w.params.followText "set-order"=true\/t.plain=true\/es.size<=1)
  (q:∀ es',es'.toList.Perm es.toList->Q es' s):av (aF P w) A (setWalk o) Q E s:=by
 unfold setWalk;refine ac (bD I.at_ rfl I.fits (ac (fP ?_)));cases a:w.params.followText "set-order" with
 |true =>
  simp only [if_true];exact ac (iK (ag (q _ (xV _ _))))
 |false =>
  simp only [cB,if_false];have d:(!t.plain&&decide (es.size > 1))=false:=by
   rcases b with h|h|h
   ·rw [a] at h;cases h
   ·rw [h];rfl
   ·rw [decide_eq_false (by omega),nY]
  have c:t.led=true:=by rw [I.led,a];rfl
  show av _ _ (if (!t.plain&&decide (es.size > 1))=true then _ else _) _ _ s;rw [d,if_neg aQ];refine ac ?_;show av _ _ (if (!t.led&&decide (es.size > 1))=true then _ else pure ()) _ _ s;rw [c,if_neg (by simp)];exact ag (ag (q _ (.refl _)))
theorem zf (I:c_ w s.heap o eo epo to) (J:c_ w s.heap a es ep t)
  (q:∀ h' es' e t',bJ a s.heap h'->c_ w h' a es e t'->es'.toList.Perm eo.toList->Q es' { s with heap:=h' }):av (aF P w) A (setWalkUnseen o [a] (some a)) Q E s:=by
 unfold setWalkUnseen;refine ac (bD I.at_ rfl I.fits (ac (fP ?_)));cases d:(w.params.followText "set-order" || to.led&&to.plain||decide (eo.size<=1)) with
 |true =>
  rw [if_pos rfl];refine MW I ?_ fun es' p=>q s.heap es' ep t (.refl ..) J p;rw [iR,iR,aP,decide_eq_true_eq] at d;rcases d with (h|h)|h
  ·exact .inl h
  ·exact .inr (.inl h.2)
  ·exact .inr (.inr h)
 |false =>
  rw [if_neg aQ];rw [uP,uP,decide_eq_false_iff_not] at d;obtain ⟨⟨i,_⟩,j⟩:=d;refine ac (GE (fun b g=>?_) ?_)
  ·rcases List.mem_cons.mp g with h|h
   ·rw [h];exact ⟨_,_,_,I⟩
   ·rw [List.mem_singleton.mp h];exact ⟨_,_,_,J⟩
  rw [if_neg (by simp)];refine ac (gO ?_);dsimp only;refine ac (bD J.at_ rfl J.fits ?_);dsimp only;have f:to.plain=false:=I.pl.resolve_left (by omega);have c:(t.led&&to.led)=t.led:=by rw [I.led,J.led,qr]
  split
  ·refine ac (jy J.at_ rfl ?_ (fV J.few));refine ag (q _ _ _ _ (bX s.heap a _) (⟨tT J,J.txt,J.nd,J.few,?_,?_,?_⟩:c_ w _ a es (ep+1) _) (.refl _))
   ·exact J.fits
   ·exact c.trans J.led
   ·exact .inr (by show (t.plain&&to.plain)=false;rw [f,nY])
  ·exact ag (q s.heap eo ep t (.refl ..) J (.refl _))
end L2
namespace L2
open PySem
theorem c_.but (I:c_ w h o eo epo to) (c:a≠o) (b:bJ a h h'):c_ w h' o eo epo to:=I.keep fun _ e=>(b.2 o (eC c)).trans e
theorem AH {a o:af}{i c:Array (Int×ae)}{ep U:Nat}{t p:m9}{l:Sem Unit}{Q:Unit->ak->Prop} (ne:a≠o) (J:c_ w s.heap a i ep t) (I:c_ w s.heap o c U p)
  (hz:i.size+c.size<=15) (hm:i.size≠0\/NX t.mask) (he:∀ (s':ak) (Q':Unit->ak->Prop),c_ w s'.heap o c U p->Q' () s'->av (aF P w) A l Q' E s')
  (q:∀ h' d es' a5 t',bJ a s.heap h'->c_ w h' a es' a5 t'->(∀ x,x∈es'.toList.map kQ↔x∈i.toList.map kQ\/x∈c.toList.map kQ)->(es'.size≠0\/NX t'.mask)->Q () { s with heap:=h',toks:=d }) :
  av (aF P w) A (setMerge a o l) Q E s:=by
 unfold setMerge;rw [if_neg (by simpa using ne)];refine ac (bD I.at_ rfl I.fits ?_);dsimp only;by_cases u:c.size=0
 ·rw [if_pos (by simpa [Array.isEmpty] using u)];have e0:c=#[]:=lJ u;exact ag (q s.heap s.toks i ep t (.refl ..) J (fun x=>by rw [e0];simp) hm)
 rw [if_neg (by simpa [Array.isEmpty] using u)];refine ac (Ep J hz hm fun H G N j k g p1 m1 r1=>?_);have I1:=I.but ne k;have a9:G.size=i.size:=by rw [<- ay,p1.length_eq,ay]
 refine ac (bD (s:={ s with heap:=H }) g.at_ rfl g.fits ?_);dsimp only;obtain ⟨f1,f2⟩:=AG g.fits;have O:p.plain=false:=I.pl.resolve_left u;have v:(j.led&&p.led)=j.led:=by rw [I.led,g.led,qr]
 have kp:∀ x,x∈G.toList.map kQ↔x∈i.toList.map kQ:=fun x=>(p1.map kQ).mem_iff;by_cases hf:j.fill=0
 ·have e1:i.size=0:=by
   unfold Ob at hf;omega
  have mk:NX j.mask:=m1.resolve_left (by omega);have ee:i=#[]:=lJ e1;unfold Oc;rw [if_neg (by rw [hf];decide)];split
  ·refine jy (s:={ s with heap:=H }) g.at_ rfl ?_ (fV I.few);refine q _ s.toks _ _ _ (k.trans (bX H a _)) (⟨tT g,I.txt,I.nd,I.few,?_,?_,?_⟩:c_ w _ a c (N+1) _) (fun x=>by rw [ee];simp) (.inl u)
   ·exact I.fits
   ·exact v.trans g.led
   ·exact .inr (by show (j.plain&&p.plain)=false;rw [O,nY])
  ·obtain ⟨a8,b,e,hp,ho⟩:=Lo (finger:=j.finger) (moves:=j.moves) (led:=j.led&&p.led) (plain:=j.plain&&p.plain) (hs:=c.map (·.1)) mk (by rw [uD];exact r1);rw [uD] at hp ho;have X:=AF ho;have sz:(b.filterMap (c[·]?)).size=c.size:=by rw [<- ay,X.length_eq,ay]
   refine ac ?_;rw [e];show av _ _ (if ((b.filterMap (c[·]?)).size != c.size)=true then _ else pure (b.filterMap (c[·]?),_)) _ _ _;rw [if_neg (by rw [sz];simp)];refine ag ?_;refine jy (s:={ s with heap:=H }) g.at_ rfl ?_ (by rw [sz];exact fV I.few);refine q _ s.toks _ _ _ (k.trans (bX H a _)) (⟨tT g,fun x hx=>I.txt x (X.mem_iff.mp hx),(X.map kQ).nodup_iff.mpr I.nd,by rw [sz];exact I.few,Lp (by rw [sz];exact hp) (by rw [sz];exact r1),v.trans g.led,.inr ?_⟩:c_ w _ a (b.filterMap (c[·]?)) (N+1) _) (fun x=>?_) (.inl (by rw [sz];exact u))
   ·show (j.plain&&p.plain)=false;rw [O,nY]
   ·rw [(X.map kQ).mem_iff,ee];simp
  ·rename_i Y
   split at Y<;>cases Y
 ·unfold Oc;rw [if_pos (by simpa using hf)];dsimp only;refine ac (zf (s:={ s with heap:=H }) I1 g fun h2 S a7 t2 a0 J2 p2=>?_);rw [<- Mh];have hl:S.toList.length=c.size:=by rw [p2.length_eq,ay]
  refine ac (zE (fun r s'=>∃ h' d f M t',s'={ s with heap:=h',toks:=d }/\bJ a s.heap h'/\c_ w h' a f M t'/\f.size+r.length<=15/\(∀ e∈r,vd w e)/\∀ x,(x∈f.toList.map kQ\/x∈r.map kQ)↔x∈i.toList.map kQ\/x∈c.toList.map kQ) ?_ ?_ S.toList _ ⟨h2,s.toks,G,a7,t2,rfl,k.trans a0,J2,by omega,fun e he=>I.txt e (p2.mem_iff.mp he),fun x=>by rw [kp,(p2.map kQ).mem_iff]⟩)
  ·rintro e r s' ⟨h',d,f,M,t',rfl,z,J',z',B,k'⟩;obtain ⟨x,tk,rfl⟩:=B e au;simp only [aX] at z';dsimp only;refine ac (dm (CD (s:={ s with heap:=h',toks:=d }) (⟨f,M,t',J',.refl _⟩:mE w h' a (f.toList.map kQ)) (by rw [aw,ay];exact aL (show f.size+1<100 by omega) (by decide)) fun T n K a1=>?_));obtain ⟨a6,a3,a4,a2,m⟩:=a1;have L:=z.trans K;have I3:=I.but ne L;refine ac (he _ _ I3 ?_);refine ac (bD (s:={ s with heap:=T,toks:=n }) I3.at_ rfl I3.fits ?_);dsimp only;rw [if_neg (by simp)];refine ag ⟨rfl,T,n,a6,a3,a4,rfl,L,a2,?_,fun e he=>B e (aq _ he),fun y=>?_⟩
   ·have:=m.length_eq;rw [aw,ay] at this;have l2:(if x∈f.toList.map kQ then f.toList.map kQ else f.toList.map kQ++[x]).length<=f.size+1:=by
     split<;>simp
    omega
   ·rw [<- k' y,m.mem_iff];have ek:kQ (hashStr w x,ju x tk)=x:=rfl;rw [aW,bf,ek];split
    ·rename_i hx
     constructor
     ·rintro (h|h)
      ·exact .inl h
      ·exact .inr (.inr h)
     ·rintro (h|h|h)
      ·exact .inl h
      ·rw [h];exact .inl hx
      ·exact .inr h
    ·rw [sk,eE];constructor
     ·rintro ((h|h)|h)
      ·exact .inl h
      ·exact .inr (.inl h)
      ·exact .inr (.inr h)
     ·rintro (h|h|h)
      ·exact .inl (.inl h)
      ·exact .inl (.inr h)
      ·exact .inr h
  ·rintro s' ⟨h',d,f,M,t',rfl,z,J',z',B,k'⟩;refine ag (q h' d f M t' z J' (fun x=>?_) (.inl ?_))
   ·rw [<- k' x];simp
   ·intro e0;obtain ⟨e,hh⟩:∃ e,e∈c.toList:=by
     cases Y:c.toList with
     |nil=>rw [<- ay,Y] at u;exact absurd rfl u
     |cons e r=>exact ⟨e,au⟩
    have:=(k' (kQ e)).mpr (.inr (mY hh));rw [lJ e0] at this;simp at this
end L2
namespace L2
open PySem PyProof.Rows
theorem Es:Iq table "set.__or__"=some j6.«frozenset.__or__»:=Ir (id':="frozenset.__or__") (by kernel_rfl) rfl (by decide +kernel) (by kernel_rfl)
section
variable {P:aV}{w:bi}{A:bh}{E:ae->ak->Prop}{s:ak}
theorem c_.ty (I:c_ w s.heap a es ep t):s.TypeIs (.ref a) "set":=⟨_,I.at_,rfl⟩
theorem vv (I:c_ w s.heap a es ep t) (q:Q true s):av (aF P w) A (uE (.ref a)) Q E s:=by
 unfold uE;refine ac (kj I.ty O6 ?_);exact ag q
theorem QA (e:h.get? a=some (gF w)):c_ w h a #[] 0 (.fresh 0 0 (!w.params.followText "set-order")) :=
 ⟨e,(fun _ h=>nomatch h),ij,by decide,rfl,rfl,.inl rfl⟩
theorem TV (O:mE w s.heap a xs) (T:mE w s.heap b ys) (X:a≠b) (hz:xs.length+ys.length<=15)
  (q:∀ h' j,bJ s.heap.objs.size (s.heap.push (gF w)) h'->mE w h' s.heap.objs.size (dz xs ys)->Q (.ref s.heap.objs.size) { s with heap:=h',toks:=j }) :
  av (aF P w) A (fG .BitOr (.ref a) (.ref b)) Q E s:=by
 obtain ⟨h,pa,ta,d,p⟩:=O;obtain ⟨H,U,tb,i,y⟩:=T;have sa:h.size=xs.length:=by rw [<- p.length_eq,aw,ay]
 have sb:H.size=ys.length:=by rw [<- y.length_eq,aw,ay]
 refine wpAny_binaryOp_same d.ty i.ty F.fills_set_or F.slot_set_or (cP F.slot_set_or d.ty Es ?_ (F.args_set_or_2 _ _));have n:a<s.heap.objs.size:=ax d.at_;have t:b<s.heap.objs.size:=ax i.at_;show av _ _ (Sg "__or__" ⟨[.ref a,.ref b],[]⟩ >>= _) _ _ s;refine ac (ac (ag (ag ?_)));dsimp only;refine ac (ac (vv d (vv i ?_)));rw [if_neg (by simp)];refine ac (ag (ac ?_));show av _ _ (v6 a >>= _) _ _ s;refine ac ?_;unfold v6 Sh;refine ac (ac (kj d.ty O6 (ag ?_)));rw [if_pos rfl];refine ac (uU ?_);have M:(s.heap.push (gF w)).get? s.heap.objs.size=some (gF w):=aD _ rfl;have K:=QA M;have m:c_ w (s.heap.push (gF w)) a h pa ta:=d.keep fun _ e=>ai _ e;have u:c_ w (s.heap.push (gF w)) b H U tb:=i.keep fun _ e=>ai _ e;have na:s.heap.objs.size≠a:=eC (aM n);have v:s.heap.objs.size≠b:=eC (aM t);refine ac (ag (ac (AH (s:={ s with heap:=s.heap.push (gF w) }) na K m (by show 0+h.size<=15;omega) (.inr (.inl rfl)) (fun _ _ _ q=>ag q) fun k f Y p1 t1 g I k1 m1=>ag ?_)));have c:=u.but v g;have S:(Y.toList.map kQ).length<=h.size:=by
  have:=(o7 I.nd d.nd).mpr fun x=>by rw [k1];simp
  rw [this.length_eq,aw,ay];exact aA _
 rw [aw,ay] at S;show av _ _ (if (bn b != bn a)=true then _ else _) _ _ _;rw [if_pos (by simp;exact eC X)];refine ac (ag (ac (dm ?_)));show av _ _ (ki _ s.heap.objs.size (bn b)) _ _ _;unfold ki;refine ac (vv (s:={ s with heap:=k,toks:=f }) c ?_);rw [if_pos rfl];refine ac (ag ?_);unfold Si setEpoch;refine ac (ac (bD (s:={ s with heap:=k,toks:=f }) c.at_ rfl c.fits (ag ?_)));refine AH (s:={ s with heap:=k,toks:=f }) v I c (by omega) m1 (fun s' Q' B q'=>?_) fun h2 o e2 L N l G k2 m2=>?_
 ·unfold Sj setEpoch;refine ac (ac (bD B.at_ rfl B.fits (ag ?_)));dsimp only;rw [if_neg (by simp)];exact ag q'
 ·refine ag (ag ⟨_,rfl,(fun z=>nomatch z),q h2 o (g.trans l) ⟨e2,L,N,G,?_⟩⟩);refine (o7 G.nd (j8 _ _ (p.nodup_iff.mp d.nd))).mpr fun x=>?_;rw [k2,jk,k1,p.mem_iff,y.mem_iff];simp
end
end L2
namespace L2
open PySem PyProof.Rows
theorem X9:qu X (fG .BitOr) (fun x y H Q=>∃ a b xs ys,x=.ref a/\y=.ref b/\a≠b/\H a=some (pP X.w a xs)/\H b=some (pP X.w b ys)/\xs.length+ys.length<=15/\∀ p,H p=none->Q (.ref p) (upd H p (pP X.w p (dz xs ys)))):=by
 intro d s σ H x y v u Q I f m h;obtain ⟨a,b,xs,ys,rfl,rfl,l,i,j,g,q⟩:=h;cases f;cases m;have k:=(show dw X.prog X.w H s.heap a (pP X.w a xs) from I.hok a _ i).1;have Sb:=(show dw X.prog X.w H s.heap b (pP X.w b ys) from I.hok b _ j).1;refine TV k Sb l g fun h' c n S=>?_;refine ⟨.ref s.heap.objs.size,_,I.laid (t':=c) (fun b o e=>?_) (aA _) (E5 S),rfl,q _ (I.hok.fresh (aA _))⟩;exact (n.2 b (aM (ax e))).trans (ai _ e)
end L2
namespace J
open PySem L2
def Xa (xs ys:List Str):R (List Str):=if xs.length+ys.length<=15 then .ok (dz xs ys) else .no
def QB (a gb:aB->R (List Str)):aB->R (List Str):=fun ρ=>(a ρ).bind fun xs=>(gb ρ).bind (J.Xa xs)
theorem Xb (y:Tv c a ga) (E:Tv c b gb):Tv c (.BinOp a .BitOr b pos) (QB ga gb):=.of fun ρ=>ni (V1 X9 (y ρ) (E ρ)) fun σ H Q h=>by
 obtain ⟨M,I,N,L,f,q⟩:=h;refine L7 (w:=c.X.w) f q fun xs p n d G m t A=>?_;unfold QB at q;rw [G,bind_ok] at q;have k:cn n d (upd n p (pP c.X.w p xs)) d:=.mine t.st.sub A;refine L7 (w:=c.X.w) (t.step k) (q.on (m.trans k) (q':=fun _=>True) fun _ _=>trivial) fun ys g j e K u B o=>?_;rw [K,bind_ok] at q;unfold J.Xa at q;by_cases i:xs.length+ys.length<=15
 ·rw [if_pos i] at q;have k1:j p=some (pP c.X.w p xs):=u.all p _ aI;have s:p≠g:=fun z=>by rw [z,o] at k1;cases k1
  have v:cn j e (upd j g (pP c.X.w g ys)) e:=.mine B.st.sub o;exact ⟨p,g,xs,ys,rfl,rfl,s,by rw [aC s];exact k1,aI,i,fun l x=>q l _ _ (m.trans (k.trans (u.trans v))) x⟩
 ·rw [if_neg i] at q;exact q.elim
end J
namespace J
open PySem L2
def q0O (i j:Nat) (ρ:aB):List D->R Fl
 |[d,e]=>.ok (.nx ((ρ.set i (.shr d)).set j (.shr e)))
 |_=>.no
def QC (i j:Nat) (a:aB->R (List D)):aB->R Fl:=fun ρ=>(a ρ).bind (q0O i j ρ)
theorem Xc (i j:Nat) (v:c.X.calm=true) (o:c.X.N.Nodup) (u:HV c [a,b] gs) (B:c.X.N[i]?=some x:=by rfl) (G:c.X.N[j]?=some y:=by rfl) (k:i≠j:=by decide)
  (K:c.X.env.scope.names.lookup x=some .local:=by rfl) (p:c.X.env.scope.names.lookup y=some .local:=by rfl) (A:se [.Tuple [.Name x px,.Name y py] kt pt] (.Tuple [a,b] k2 pt2) c.X.env=pure (some [x,y]):=by rfl)
  (hs:sd [.Tuple [.Name x px,.Name y py] kt pt] (.Tuple [a,b] k2 pt2) pos.line c.X.env=pure false:=by rfl):JS c (.Assign [.Tuple [.Name x px,.Name y py] kt pt] (.Tuple [a,b] k2 pt2) pos) (QC i j gs):=.of fun ρ=>wI (Wg v o B G k K p (u ρ) A hs) fun D σ H h=>by
 obtain ⟨w,m,L,t,f,q⟩:=h;refine ⟨w,m,L,t,f,?_⟩;unfold QC at q;cases l:gs ρ with
 |ok ds =>
  rw [l,bind_ok] at q;intro vs H' g s r
  match ds,r,q with
  |[],_,q=>exact q.elim
  |[_],_,q=>exact q.elim
  |[d,e],.cons E (.cons I .nil),q=>exact ⟨_,_,rfl,q _ _ g (((f.step s).set i E).set j I)⟩
  |_::_::_::_,_,q=>exact q.elim
 |ex z n =>
  rw [l] at q;exact fun H' g s=>q H' g (f.st.trans s)
 |no=>rw [l] at q;exact q.elim
end J
namespace J
open PySem L2
end J
namespace L2
open PySem PySem.Spec PyProof.Rows
theorem Et:zP (.type "list") "keys"=pure none:=by rw [Fz,wn];kernel_rfl
theorem D3:Iq table "dict.update.loop"=some j6.«dict.update.loop»:=entryFor_of_tree (by kernel_rfl)
theorem u9:plainId "dict.update.loop"=true:=by decide +kernel
theorem AI
  (u:s.heap.get? a=some o) (l:o.cls=.type "list") (f:o.data=.seq xs k) (q:o.dict=none) (y:A.handled=none)
  (h:∀ h' v,(∀ b o,s.heap.get? b=some o->h'.get? b=some o)->Q none { s with heap:=h',toks:=v }) :
  av (aF prog w) A (Sc (.ref a) "keys") Q E s:=by
 obtain ⟨c,z,B,G⟩:=o;simp only at l f q;subst l f q;obtain ⟨H,g,d,v,p⟩:=s;have t:∀ i,(⟨H,g,d,i,p⟩:ak).TypeIs (.ref a) "list":=fun _=>⟨_,u,rfl⟩;have N:=sub_AttributeError;have M:=F.slot_list_getattribute.lookup;have I:=F.slot_list_getattribute.bind (.ref a);have L:=am_list_getattr_none;have j:(["__module__","__name__","__qualname__","__doc__","__annotations__"] : List Str).contains "keys"=false:=by decide +kernel
 unfold Sc getAttrBy? getAttrBy;repeat (any_goals (first|assumption|exact t _|((with_reducible show av _ _ (call (Value.builtin "list.__getattribute__") _ _) _ _ _);refine qy F.slot_list_getattribute (t _) am_entry_list_getattribute (F.args_list_getattribute_2 _ _) (meets_getattribute_miss_list a xs k G "keys" _ Et j (by size_fits)) ⟨u,y,fun h' i e m=>?_⟩)|wp_step))
 have n:=m.of;obtain ⟨K,vs,he,l,_⟩:=n.there;have x:(⟨h',g,d,i,p⟩:ak).TypeIs (.ref e) "AttributeError":=⟨_,he,l⟩;show av _ _ (getattributeRaised _ _ _ _ _ _ _) _ _ _;unfold getattributeRaised;repeat (any_goals (first|assumption|wp_step))
 exact h _ _ n.keeps
end L2
namespace L2
open PySem PySem.Spec PyProof.Rows
def Lq (b:List (fg×ae)) (l:List (fg×ae×ae)):List (fg×ae):=l.foldl (fun a t=>Il a t.1 t.2.2) b
theorem Jt (kvs:List (fg×ae)) (k:fg) (v:ae):(Il kvs k v).length<=kvs.length+1:=by
 unfold Il;split<;>simp
theorem BV {I:af}{fp u:List af}{n:Nat}{Y:Nat->ae->Prop}{St:Nat->bA->Prop} (W:NN prog w A.in1 I fp u n Y St) (D:af) (hD:D∉fp) (xs:List (fg×ae×ae)) (pa:List af) (hx:xs.length=n)
  (hv:∀ i v,Y i v->∃ p x,pa[i]?=some p/\xs[i]?=some x/\v=.ref p) (hk:∀ x∈xs,(dY prog w).is x.1 x.2.1=true) (hp:∀ p∈pa,p∉D::u) (c:n<=1000) :
  ∀ (k i:Nat) (s:ak) (a:List (fg×ae)) (j:Int),n-i=k->i<=n->a.length<=i->St i s.heap->s.heap.DictOf (dY prog w) D a->(∀ (i:Nat) (p:af) (x:fg×ae×ae),pa[i]?=some p->xs[i]?=some x->HZ s.heap p #[x.2.1,x.2.2]) ->
   (∀ h' f,(∀ b o,b∉D::u->s.heap.get? b=some o->h'.get? b=some o)->h'.DictOf (dY prog w) D (Lq a (xs.drop i))->R (.ok (.ret .none)) { s with heap:=h',toks:=f }) ->
   gZ (aF prog w) A (.builtin "dict.update.loop" ⟨[.ref D,.ref I,cE j,.none],[]⟩) R s:=by
 have q:D∉u:=fun z=>hD (W.sub _ z);intro k;induction k with
 |zero =>
  intro i s a j G hi hl H Q K L;obtain rfl:i=n:=by omega
  refine fY D3 ?_;rw [ft u9 _];show av _ A.in1 (qv (.ref I) >>= _) _ _ s;refine ac (W.done s _ _ H fun h' f kp=>?_);show av _ _ (Builtin.Dict.addKeywords D [] >>= _) _ _ _;refine ac (ag (ag (L h' f (fun b o c e=>kp b o (fun z=>c (aq _ z)) e) ?_)));rw [HN (by omega)];obtain ⟨o,M,y,e,r⟩:=Q;exact ⟨o,M,y,kp D o q e,r⟩
 |succ k ih =>
  intro i s a j G hi hl H Q K L;have l:i<n:=by omega
  refine fY D3 ?_;rw [ft u9 _];show av _ A.in1 (qv (.ref I) >>= _) _ _ s;refine ac (W.item i s _ _ l H fun v h' f hP E kp=>?_);obtain ⟨p,x,h,d,rfl⟩:=hv i v hP;have O:=hp p (bQ h);have N:h'.DictOf (dY prog w) D a:=by
   obtain ⟨o,M,y,e,r⟩:=Q;exact ⟨o,M,y,kp D o q e,r⟩
  obtain ⟨ot,et,ct,nt,dt⟩:=K i p x h d;have g:h'.get? p=some ot:=kp p ot (fun z=>O (aq _ z)) et;have m:=hk x (bQ d);refine ac (dm (ac (wpAny_tryCatch ?_)));unfold Builtin.Dict.pairItems;refine ac (lZ (T:="tuple") (s:={ s with heap:=h',toks:=f }) ⟨_,g,ct⟩ ?_);rw [if_pos (by decide)];refine ac (eW (s:={ s with heap:=h',toks:=f }) g dt (ag ?_));show av _ _ (kg [x.2.1,x.2.2] (dictSet D x.2.1 x.2.2)) _ _ _;refine dm ?_;unfold dictSet;refine dm (ac ((dY prog w).pyHash (k:=x.1) m ?_));refine wpAny_dictSetHashed_pairs (s:={ s with heap:=h',toks:=f+1 }) m N (fun U S X=>?_) (bF hl (bF hi (bF c (bt (bZ (aA _))))));refine ag ⟨nP u9 _,ih (i+1) _ (Il a x.1 x.2.2) _ (by omega) l ?_ (W.frame _ _ _ E fun b c o e=>?_) S (fun i2 t x2 e1 e2=>?_) fun h3 P k3 B=>?_⟩
  ·have:=Jt a x.1 x.2.2;omega
  ·rw [X.2 b fun z=>hD (z ▸ c)];exact e
  ·obtain ⟨o2,g2,r2⟩:=K i2 t x2 e1 e2;have hm:=hp t (bQ e1);exact ⟨o2,(X.2 t fun z=>hm (by rw [z];exact au)).trans (kp t o2 (fun z=>hm (aq _ z)) g2),r2⟩
  ·refine L h3 P (fun b o c e=>k3 b o c ?_) ?_
   ·show U.get? b=_;rw [X.2 b fun z=>c (by rw [z];exact au)];exact kp b o (fun z=>c (aq _ z)) e
   ·have hd:xs.drop i=x::xs.drop (i+1):=by
     obtain ⟨h1,U⟩:=List.getElem?_eq_some_iff.mp d;rw [pA h1,U]
    rw [hd];exact B
theorem BW {l:af}{q:Obj}{c:List ae}{n:Nat}{xs:List (fg×ae×ae)}{pa:List af}{Q:ae->ak->Prop} (S:A.handled=none)
  (u:s.heap.get? l=some q) (y:q.cls=.type "list") (I:q.dict=none) (k:q.data=.seq c.toArray n) (X:∀ (i:Nat) (v:ae),c[i]?=some v->∃ p x,pa[i]?=some p/\xs[i]?=some x/\v=.ref p) (hx:xs.length=c.length) (hk:∀ x∈xs,(dY prog w).is x.1 x.2.1=true) (Y:c.length<=1000)
  (hT:∀ (i:Nat) (p:af) (x:fg×ae×ae),pa[i]?=some p->xs[i]?=some x->HZ s.heap p #[x.2.1,x.2.2]) (K:∀ p∈pa,p<s.heap.objs.size)
  (h:∀ (h':bA) (N:Nat),h'.DictOf (dY prog w) s.heap.objs.size (Lq [] xs)->(∀ b o,s.heap.get? b=some o->h'.get? b=some o)->Q (.ref s.heap.objs.size) { s with heap:=h',toks:=N }) :
  av (aF prog w) A (call (.type "dict") [.ref l]) Q E s:=by
 refine callType_codes (Q₁:=fun t j=>t=.ref s.heap.objs.size/\j={ s with heap:=s.heap.push { cls:=.type "dict",data:=.dict #[] } }) F.kt_called_dict (F.kt_typeCall_dict_1 _) F.entry_dict_init (kt_code_dict_new _ ⟨rfl,rfl⟩) ?_;rintro t j ⟨rfl,rfl⟩;have a:(s.heap.push { cls:=.type "dict",data:=.dict #[] }).DictOf (dY prog w) s.heap.objs.size []:=HL s.heap;have f:(s.heap.push { cls:=.type "dict",data:=.dict #[] }).get? l=some q:=ai _ u;have B:l<s.heap.objs.size:=ax u;refine ⟨a.typeIs,F.args_dict_init_2 _ _,?_⟩;unfold j6.«dict.__init__»;refine ac ?_;unfold Builtin.Dict.selfAndRest;refine ac (wpAny_notOrdered_dict a.typeIs ?_);show av _ _ (pure (s.heap.objs.size,[bn l])) _ _ _;refine ag ?_;show av _ _ (yY "dict.__init__" s.heap.objs.size (.ref l) [] .none) _ _ _;unfold yY;refine ac (lZ (T:="list") ⟨_,f,y⟩ ?_);rw [if_pos (by decide)];refine ac (AI (s:={ s with heap:=s.heap.push { cls:=.type "dict",data:=.dict #[] } }) f y k I (by simpa using S) fun m G k1=>?_);rw [if_pos (by rfl)];refine ac (gO ?_);have d:=k1 l q f;refine ac (lU (s:={ s with heap:=m,toks:=G }) ⟨_,d,y,⟨_,k⟩⟩ ?_);have H:∃ o,m.get? s.heap.objs.size=some o:=by
  obtain ⟨o,O,P,e,_⟩:=a;exact ⟨o,k1 _ _ e⟩
 obtain ⟨oD,U⟩:=H;have M:=ax U;have W:=BA (prog:=prog) (w:=w) (A:=A.in1.in1) (by simpa using S) m.objs.size l (aM (ax d)) c.toArray;have k2:∀ b o,m.get? b=some o->(m.push { cls:=.type "list_iterator",data:=.fields #[.ref l,.int 0 0] }).get? b=some o:=fun b o e=>ai _ e;have z:(m.push { cls:=.type "list_iterator",data:=.fields #[.ref l,.int 0 0] }).DictOf (dY prog w) s.heap.objs.size []:=by
  obtain ⟨o,O,P,e,r⟩:=a;exact ⟨o,O,P,k2 _ _ (k1 _ _ e),r⟩
 refine ag ⟨nP u9 _,BV (A:=A.in1) W s.heap.objs.size ?_ xs pa (by rw [hx,aG]) (fun i v e=>X i v (by simpa using e)) hk (fun p hp=>?_) (by rw [aG];exact Y) c.length 0 _ [] 0 (by rw [aG];omega) (cy _) (aA _) ⟨⟨_,aD _ rfl,rfl,rfl⟩,⟨_,k2 _ _ d,y,⟨_,k⟩⟩⟩ z (fun i p x e1 e2=>?_) fun h' N kp L=>?_⟩
 ·simp only [bf,aY,or_false,not_or];exact ⟨aM M,fW B⟩
 ·have:=K p hp;simp only [bf,aY,or_false,not_or];exact ⟨aM this,aM (yV this M)⟩
 ·obtain ⟨o,g,r⟩:=hT i p x e1 e2;exact ⟨o,k2 _ _ (k1 _ _ (ai _ g)),r⟩
 ·refine ⟨rfl,h h' N L fun b o e=>kp b o ?_ (k2 _ _ (k1 _ _ (ai _ e)))⟩;have:=ax e;simp only [bf,aY,or_false,not_or];exact ⟨aM this,aM (yV this M)⟩
end L2
namespace L2
open PySem PySem.Spec PyProof.Rows
theorem GF (ok:rR P w H h):∀ (pa:List af) (kvs:List (fg×V)),kvs.length=pa.length->(∀ (i:Nat) (a:af) (c:fg×V),pa[i]?=some a->kvs[i]?=some c->H a=some (.tup [kV c.1,c.2])) ->
  ∃ xs:List (fg×ae×ae),xs.length=pa.length/\(∀ (i:Nat) (p:af) (x:fg×ae×ae),pa[i]?=some p->xs[i]?=some x->HZ h p #[x.2.1,x.2.2])/\(∀ x∈xs,(dY P w).is x.1 x.2.1=true)/\KV kvs (xs.map fun x=>(x.1,x.2.2))
 |[],[],_,_=>⟨[],rfl,fun i p x e=>by simp at e,fun _ e=>by simp at e,.nil⟩
 |a::pa,c::kvs,d,j=>by
  obtain ⟨xs,k,u,l,o⟩:=GF ok pa kvs (Nat.succ.inj d) fun i b x f g=>j (i+1) b x f g;have B:=j 0 a c rfl rfl;obtain ⟨_,n,r,it⟩:=(show dw P w H h a (.tup [kV c.1,c.2]) from ok a _ B);cases r with
  |cons s v =>
   cases v with
   |cons y q =>
    cases q;rename_i t m
    refine ⟨(c.1,t,m)::xs,by simp [k],fun i p x f g=>?_,fun x A=>?_,.cons ⟨rfl,y⟩ o⟩
    ·cases i with
     |zero=>cases f;cases g;exact it
     |succ i=>exact u i p x f g
    ·rcases List.mem_cons.mp A with z|z
     ·rw [z];exact FP s
     ·exact l x z
 |[],_::_,d,_=>by simp at d
 |_::_,[],d,_=>by simp at d
theorem D4:∀ {pa:List af}{us:List ae},cS (pa.map V.ref) us->us=pa.map bn
 |[],us,h=>by cases h;rfl
 |a::pa,us,h=>by
  cases h with
  |cons r t=>rw [D4 t,show _=bn a from r];rfl
theorem Eu {X:Cx} (O:X.calm=true):jX X (.type "dict") (fun xs H Q=>∃ (l:af) (pa:List af) (kvs:List (fg×V)),xs=[.ref l]/\pC X.K H l (pa.map V.ref)/\kvs.length=pa.length/\pa.length<=1000/\(∀ (i:Nat) (a:af) (j:fg×V),pa[i]?=some a->kvs[i]?=some j->H a=some (.tup [kV j.1,j.2]))/\∀ d,H d=none->Q (.ref d) (upd H d (.dK (Af [] kvs)))):=by
 intro y s σ H xs us Q I r h;obtain ⟨l,pa,kvs,rfl,P,f,t,A,q⟩:=h;obtain ⟨u,rfl,L⟩:=mz r;cases L;have U:=I.ok.hd O;obtain ⟨T,r',⟨o,n,ho,B,Y,N⟩,_⟩:=I.list P;obtain rfl:=D4 r';obtain ⟨ys,m,G,M,S⟩:=GF I.hok pa kvs f A;refine BW (by simpa using U) ho B Y N (xs:=ys) (pa:=pa) (fun i v e=>?_) (by rw [m,aw]) M (by rw [aw];exact t) G (fun p b=>?_) fun h' E dd kp=>?_
 ·rw [aH] at e;cases b:pa[i]? with
  |none=>rw [b] at e;cases e
  |some p =>
   rw [b] at e;cases e;have c:i<ys.length:=by rw [m];exact (List.getElem?_eq_some_iff.mp b).1
   exact ⟨p,ys[i],rfl,a_ c,rfl⟩
 ·obtain ⟨i,c,e⟩:=jL b;have hk:i<kvs.length:=by rw [f];exact c
  have:=A i p kvs[i] (by rw [<- e];exact a_ c) (a_ hk);obtain ⟨_,_,_,_,g,_⟩:=(show dw X.prog X.w H s.heap p (.tup _) from I.hok p _ this);exact ax g
 ·have e:Lq [] ys=merged [] (ys.map fun x=>(x.1,x.2.2)):=by unfold Lq merged;rw [uQ]
  rw [e] at dd;have k:=KV.merge S (Paired.nil:KV (κ:=fg) [] []);have z:=uT kvs [];simp only [ej] at z;refine ⟨.ref s.heap.objs.size,_,I.laid (t':=E) kp (aA _) (OP (bF z (by rw [Iz,f];exact bt (bZ t))) ?_ k dd),rfl,q _ (I.hok.fresh (aA _))⟩;have:=I.big;exact beq_false_of_ne (fW this)
end L2
namespace J
open PySem L2
def oj:List D->Option (List (fg×D))
 |[]=>some []
 |.tuple [k,v]::r=>(sP k).bind fun y=>(oj r).map ((y,v)::·)
 |_::_=>none
def wR:D->R D
 |.list ds=>if ds.length<=1000 then (match oj ds with
  |some ps=>.ok (.dict (ps.foldl (fun a p=>BS a (kD p.1) p.2) []))
  |none=>.no) else .no
 |_=>.no
theorem D5 : ∀ {ds:List D}{vs:List V}{ps:List (fg×D)},RDs K H vs ds->oj ds=some ps ->
  ∃ (pa:List af) (kvs:List (fg×V)),vs=pa.map V.ref/\kvs.length=pa.length/\(∀ (i:Nat) (a:af) (f:fg×V),pa[i]?=some a->kvs[i]?=some f->H a=some (.tup [kV f.1,f.2]))/\RDk K H kvs (ps.map fun p=>(kD p.1,p.2))
 |[],vs,ps,r,e=>by
  cases r;cases e;exact ⟨[],[],rfl,rfl,fun i a f e=>by simp at e,.nil⟩
 |d::ds,vs,ps,r,e=>by
  unfold oj at e;split at e
  ·rename_i h;cases h
  ·rename_i k v L h
   cases h;cases r with
   |cons A I =>
    rename_i z s
    cases l:sP k with
    |none=>rw [l] at e;cases e
    |some y =>
     rw [l] at e;cases j:oj ds with
     |none=>rw [j] at e;cases e
     |some M =>
      rw [j] at e;cases e;obtain ⟨pa,kvs,q,G,u,x⟩:=D5 I j;obtain ⟨a,c,rfl,g,m⟩:∃ a c,z=V.ref a/\H a=some (.tup c)/\RDs K H c [k,v]:=by
       cases A with
       |tuple g m=>exact ⟨_,_,rfl,g,m⟩
      ·obtain ⟨N,B,rfl,w,E⟩:=m.two;have t:=Az l;subst t;have:=Jo w;subst this;refine ⟨a::pa,(y,B)::kvs,by rw [q];rfl,by simp [G],fun i b f n o=>?_,.cons E x⟩;cases i with
       |zero=>cases n;cases o;exact g
       |succ i=>exact u i b f n o
  ·cases e
theorem GG : ∀ {kvs:List (fg×V)}{c:List (D×D)}{b:List (fg×V)}{ds:List (D×D)},RDk K H kvs c->RDk K H b ds->RDk K H (Af b kvs) (c.foldl (fun a p=>BS a p.1 p.2) ds)
 |[],c,b,ds,r,d=>by
  cases r;exact d
 |f::kvs,c,b,ds,r,d=>by
  cases r with
  |cons h t =>
   rename_i k0 i g e
   have:=GG (kvs:=kvs) t (d.put k0 h);exact this
def ua (g:aB->R D):aB->R D:=fun ρ=>(g ρ).bind wR
theorem MX (G:c.X.calm=true) (h:JE c e g) (o:Gl c.X "dict") (u:c.X.mg "dict"=none) (he:ao [e] c.X.env=(false,bG e c.X.env)::ao [] c.X.env:=by rfl) :
  JN c (.Call (.Name "dict" p) [e] [] cpos) (ua g):=.of fun ρ=>by
 refine ni (tP (Eu G) o u PyProof.Rows.boot_dict (bv (h ρ) cQ he) (he:=he)) fun σ H Q s=>?_;obtain ⟨T,O,U,S,f,q⟩:=s;dsimp only [L2.Wz,L2.A9,L2.BI];refine zb f q fun d v A j t z x M=>?_;unfold ua at q;rw [t,bind_ok] at q;unfold wR at q;split at q
 ·rename_i ds
  by_cases w:ds.length<=1000
  ·rw [if_pos w] at q;split at q
   ·rename_i ps hs
    obtain ⟨a,k,rfl,n,m⟩:∃ a k,v=V.ref a/\pC c.X.K j a k/\RDs c.X.K j k ds:=by
     cases M with
     |list n m=>exact ⟨_,_,rfl,n,m⟩
    ·obtain ⟨pa,kvs,rfl,N,E,L⟩:=D5 m hs;have y:=GG L (RDk.nil (K:=c.X.K) (H:=j));rw [uQ] at y;refine ⟨a,pa,kvs,rfl,?_,N,?_,fun i b I t P=>x.st.sub _ _ (E i b I t P),fun l B=>q l _ A j z B (.dK y)⟩
     ·exact cK.seq x.st.sub n
     ·have:=m.length;rw [aw] at this;omega
   ·exact q.elim
  ·rw [if_neg w] at q;exact q.elim
 ·exact q.elim
end J
namespace L2
open PySem PySem.Spec PyProof.Rows
end L2
namespace J
open PySem L2
end J
namespace L2
open PySem PySem.Spec PyProof.Rows
end L2
namespace J
open PySem L2
end J
namespace J
open PySem L2
end J
namespace J
open PySem L2 PyProof.Rows
structure En where
 P:aV
 w:bi
 K:aa
 mg:Str->Option ae
 base:bA
 cls:Str->af
abbrev FN (e:En):=Fn e.P e.w e.K e.mg e.base e.cls
abbrev ER (e:En):=Er e.mg e.base e.cls
abbrev Cn (a:Str->Option ae) (x:Str) (n:Int):Prop:=∃ t,a x=some (.int n t)
structure jn (K:aa) (mg:Str->Option ae) (x:Str) (st:c9):Prop where
 ex:∃ f fd,xz K x x st f fd/\mg x=some (.ref f)
section
variable {K:aa}{h:bA}{mg:Str->Option ae}{x:Str}
theorem d_in {b:c9}{A:af}{n j:Option af}{e:Array (Option ae)}{f kV g m d i:ae} (X:K.In h) (G:h.Ns bq mg) (a:dW K bq x=some (some (.ref A)))
  (l:K.lookup A=some ⟨f,n,.func (dU x x (jM b) (eF b) (ar b) .none kV g m j d i),e⟩) (c:j4 K d x=true) (k:bV K (.ref A)=true):jn K mg x b :=
 ⟨_,_,I_ l c k,iH X G a⟩
theorem cn_in (X:K.In h) (G:h.Ns bq mg) (t:dW K bq x=some (some (.int n tk))):Cn mg x n:=⟨_,iH X G t⟩
inductive Zs (K:aa):List Str->Prop
 |nil:Zs K []
 |cons {x:Str}{r:List Str}:dW K bq x=some none->Zs K r->Zs K (x::r)
theorem Zs.get (z:Zs K r):∀ x∈r,dW K bq x=some none:=by
 induction z with
 |nil=>exact fun _ h=>nomatch h
 |cons a _ b =>
  intro y c;rcases List.mem_cons.mp c with e|e
  ·rw [e];exact a
  ·exact b y e
abbrev zn:List Str:=["len","isinstance","all","any","zip","tuple","list","sorted","set","range","enumerate","dict","sum","max","min","reversed","str","int","bool","ValueError"]
theorem Zm (X:K.In h) (G:h.Ns bq mg) (z:Zs K zn):Bi mg:=by
 have q:∀ x∈zn,mg x=none:=fun x a=>IC X G (z.get x a);exact ⟨q _ (by decide),q _ (by decide),q _ (by decide),q _ (by decide),q _ (by decide),q _ (by decide),q _ (by decide),q _ (by decide),q _ (by decide),q _ (by decide),q _ (by decide),q _ (by decide),q _ (by decide),q _ (by decide),q _ (by decide),q _ (by decide),q _ (by decide),q _ (by decide),q _ (by decide)⟩
theorem Zn (X:K.In h) (G:h.Ns bq mg) (z:Zs K zn):mg "ValueError"=none:=IC X G (z.get _ (by decide))
end
section
variable {P:aV}{w:bi}{K:aa}{mg:Str->Option ae}{base:bA}{N:List Str}{qual:Str}{scope:fU}{f:af}{cd:ae}{A:bh}{outer:List Env}{s:ak}{H:Hp}{E:XK}
theorem px:gy (jN P w) (iU (jN P w) P w K mg base N qual scope f cd A outer s H E) E:=G3 fun _ _ h=>h
end
theorem jc (G:Fn c.X.prog c.X.w c.X.K c.X.mg c.X.base c.cls x k n F) (g:fJ j c.X.A) (h:gy (jN c.X.prog c.X.w) c.X c.E) (d:HV c (e::es) gs)
  (f:k<=j:=by decide) (i:Gl c.X x:=by exact rfl) (a:(x==("__debug__" : Str))=false:=by decide) (he:ao (e::es) c.X.env=(false,bG e c.X.env)::ao es c.X.env:=by rfl) (b:(cC pos (ao es c.X.env)).any (·.1)=false:=by rfl) :
  JE c (.Call (.Name x p) (e::es) [] pos) (gN n F gs):=To G (g.mono f) i h d a he b
abbrev Bq (x:Str) (c:c9) (us:List ae) (r:List (Str×ae)):Prop:=∀ (kV a f:ae) (d:Option af) (b e:ae),Ig (dU x x (jM c) (eF c) (ar c) .none kV a f d b e) ⟨us,[]⟩=pure r
section
variable {K:aa}{x:Str}{st:c9}{f:af}{fd:cr}
theorem b1 (F:xz K x x st f fd) (h:∀ u,Bq x st [u] [(a,u)]:=by exact fun _ _ _ _ _ _ _=>rfl):eQ K fd [a] []:=F.binds fun _ _ _ _ _ _ us b=>by obtain ⟨_,rfl⟩:=ln1 b;exact h ..
theorem b2 (F:xz K x x st f fd) (h:∀ u v,Bq x st [u,v] [(a,u),(b,v)]:=by exact fun _ _ _ _ _ _ _ _=>rfl):eQ K fd [a,b] []:=F.binds fun _ _ _ _ _ _ us c=>by obtain ⟨_,_,rfl⟩:=ln2 c;exact h ..
theorem b3 (F:xz K x x st f fd) (h:∀ u v w,Bq x st [u,v,w] [(a,u),(b,v),(c,w)]:=by exact fun _ _ _ _ _ _ _ _ _=>rfl):eQ K fd [a,b,c] []:=F.binds fun _ _ _ _ _ _ us d=>by obtain ⟨_,_,_,rfl⟩:=ln3 d;exact h ..
theorem b4 (F:xz K x x st f fd) (h:∀ u v w z,Bq x st [u,v,w,z] [(a,u),(b,v),(c,w),(d,z)]:=by exact fun _ _ _ _ _ _ _ _ _ _=>rfl):eQ K fd [a,b,c,d] []:=F.binds fun _ _ _ _ _ _ us e=>by obtain ⟨_,_,_,_,rfl⟩:=ln4 e;exact h ..
theorem b5 (F:xz K x x st f fd) (h:∀ u v w z y,Bq x st [u,v,w,z,y] [(a,u),(b,v),(c,w),(d,z),(e,y)]:=by exact fun _ _ _ _ _ _ _ _ _ _ _=>rfl):eQ K fd [a,b,c,d,e] []:=F.binds fun _ _ _ _ _ _ us g=>by obtain ⟨_,_,_,_,_,rfl⟩:=ln5 g;exact h ..
end
theorem w5 {e:En}{x:Str}{a:c9}{N ps:List Str}{k:Nat}{g:aB->R Fl} (D:jn e.K e.mg x a) (S:bj N ps (ar a)) (b:∀ {f:af}{d:cr},xz e.K x x a f d->eQ e.K d ps [])
  (h:∀ (f:af) (c:ae) (A:bh) (outer:List Env) (s:ak) (H:Hp) (E:XK),fJ k (A.deeper (gR x (ar a) s.heap.objs.size f c))->Jk ⟨iU (jN e.P e.w) e.P e.w e.K e.mg e.base N x (ar a) f c A outer s H E,e.cls,E⟩ (eF a) g) :
  FN e x (k+1) ps.length (gm N.length g):=by
 obtain ⟨f,d,F,i⟩:=D.ex;exact Z0 F S i (b F) (h f)
def scB (N P:List Str) (a:fU):Bool:=decide (a.kind=.function) && !a.isCoroutine && !a.isGenerator&&decide N.Nodup&&decide (N.take P.length=P)&&P.all (fun x=>decide (a.names.lookup x=some .local)||decide (a.names.lookup x=some .cell))&&a.names.all fun y=>decide (y.2≠.free)
theorem dO (h:scB N P sc=true):bj N P sc:=by
 unfold scB at h;simp only [aP,decide_eq_true_eq,O9,cY,iR] at h;obtain ⟨⟨⟨⟨⟨⟨a,b⟩,c⟩,d⟩,e⟩,f⟩,g⟩:=h;exact ⟨a,b,c,d,e,f,g⟩
structure Cw (K:aa) (x:Str) (C:af):Prop where
 ns:dW K bq x=some (some (.ref C))
 cl:∃ cd,gS K C=some cd
 ty:si K (.ref C)=some (.type "type")
theorem cw_in {K:aa}{x:Str}{C:af}{b:ClassData} (a:dW K bq x=some (some (.ref C))) (i:gS K C=some b) (y:si K (.ref C)=some (.type "type")):Cw K x C:=⟨a,⟨_,i⟩,y⟩
inductive TW (K:aa):List Str->List af->Prop
 |nil:TW K [] []
 |cons {x:Str}{C:af}{ns:List Str}{Cs:List af}:Cw K x C->TW K ns Cs->TW K (x::ns) (C::Cs)
inductive Sb (K:aa) (C:af):List (af×Bool)->Prop
 |nil:Sb K C []
 |cons {D:af}{b:Bool}{l:List (af×Bool)}:oU K (.ref C) (.ref D)=some b->(b=false->C≠D)->Sb K C l->Sb K C ((D,b)::l)
structure Wy (K:aa) (C CP:af) (l:List (af×Bool)):Prop where
 x1:bL K (.ref C) "__getattribute__"=some (some (.builtin "BaseException.__getattribute__"))
 x2:bL K (.ref C) "__getattr__"=some none
 x3:bL K (.ref C) "__class__"=some (some (.builtin "object.__class__"))
 x4:we K (.builtin "object.__class__") "__get__"=some (some (.builtin "getset_descriptor.__get__"))
 x5:yT K (.builtin "object.__class__")=some true
 x6:cz K C (.type "object")=some true
 x7:cz K C (.ref CP)=some true
 x8:oU K (.ref C) (.type "ValueError")=some true
 x9:(bn CP==bn C)=false
 sb:Sb K C l
theorem TW.at {K:aa}{c:List Str}{b:List af} (N:TW K c b):∀ (i:Nat) (n:Str),c[i]?=some n->∃ C,b[i]?=some C/\Cw K n C:=by
 induction N with
 |nil=>intro i n h;simp at h
 |cons a _ d =>
  intro i n h;cases i with
  |zero=>cases h;exact ⟨_,rfl,a⟩
  |succ i=>exact d i n h
theorem Sb.at {K:aa}{C:af}{l:List (af×Bool)} (N:Sb K C l):∀ (i:Nat) (D:af) (b:Bool),l[i]?=some (D,b)->oU K (.ref C) (.ref D)=some b/\(b=false->C≠D):=by
 induction N with
 |nil=>intro i D b h;simp at h
 |cons a c _ d =>
  intro i D b h;cases i with
  |zero=>cases h;exact ⟨a,c⟩
  |succ i=>exact d i D b h
theorem Zo {K:aa}{h:bA}{f:Str->Option ae}{cls:Str->af}{a:List Str}{b:List af} (X:K.In h) (G:h.Ns bq f) (N:TW K a b) (j:a.map cls=b):∀ n∈a,f n=some (.ref (cls n)):=by
 intro n g;obtain ⟨i,l,e⟩:=jL g;have d:a[i]?=some n:=by rw [a_ l,e]
 obtain ⟨C,c,k⟩:=N.at i n d;rw [<- j,aH,d] at c;cases c;exact iH X G k.ns
theorem TX {K:aa}{base:bA}{cls:Str->af}{x:Str}{C u:af}{c:List Str}{g:List af}{l:List (af×Bool)}{j:Nat} (B:cz K C (.type "BaseException")=some true) (Q:∃ bm,E8 base C bm/\∀ v,(v==bn C)=false->cz K C v=some true->bm.contains v=true) (W:Wy K C u l) (N:TW K c g)
  (E:cls x=C) (M:cls "PlanError"=u) (t:c.map cls=g) (s:l.map (·.1)=g) (I:l.map (·.2)=bits j) (O:j<11) (P:x∈c):Xf K base cls c (cls x) j:=by
 obtain ⟨bm,o,G⟩:=Q;subst E M;have p:(gS K (cls x)).isSome=true:=by
  obtain ⟨i,m,e⟩:=jL P;have h:c[i]?=some x:=by rw [a_ m,e]
  obtain ⟨C,a,k⟩:=N.at i x h;rw [<- t,aH,h] at a;cases a;obtain ⟨A,d⟩:=k.cl;rw [d];rfl
 refine ⟨⟨W.x1,W.x2,W.x3,W.x4,W.x5,W.x6,B,p⟩,fun i n e=>?_,X4 W.x8,⟨bm,o,G _ W.x9 W.x7⟩,O⟩;obtain ⟨D,a,k⟩:=N.at i n e;have d:g[i]?=some (cls n):=by rw [<- t,aH,e];rfl
 rw [a] at d;cases d;obtain ⟨A,H⟩:=k.cl;have m:l[i]?≠none:=fun z=>by
  rw [<- s,aH,z] at a;cases a
 cases f:l[i]? with
 |none=>exact (m f).elim
 |some q =>
  obtain ⟨D,b⟩:=q;have h:D=cls n:=by rw [<- s,aH,f] at a;cases a;rfl
  have w:(bits j)[i]?=some b:=by rw [<- I,aH,f];rfl
  subst h;obtain ⟨y,L⟩:=W.sb.at i _ b f;have S:b=decide (i=j):=by
   unfold bits at w
   match i,w with
   | 0,e|1,e|2,e|3,e|4,e|5,e|6,e|7,e|8,e|9,e|10,e=>simpa using e.symm
   |(i+11),e=>simp at e
  rw [<- S];exact TH H k.ty y L
theorem Lr {K:aa}{base:bA}{e:Str->Option ae}{cls:Str->af}{x:Str}{C c:af}{a:List Str}{b:List af}{l:List (af×Bool)}{j:Nat} (X:K.In base) (G:base.Ns bq e) (T:TopC K x C) (W:Wy K C c l) (N:TW K a b)
  (i:cls x=C) (g:cls "PlanError"=c) (d:a.map cls=b) (f:l.map (·.1)=b) (m:l.map (·.2)=bits j) (h:j<11) (k:x∈a):Xf K base cls a (cls x) j:=TX T.mb (Jr X G T.ns T.ex T.mb).2 W N i g d f m h k
end J
namespace L2
open PySem PySem.Spec PyProof.Rows
end L2
namespace J
open PySem L2
def keysOf:List D->Option (List fg)
 |[]=>some []
 |d::r=>(sP d).bind fun k=>(keysOf r).map (k::·)
def VM:D->Option (List fg)
 |.tuple ds=>keysOf ds
 |_=>none
def unF:List (D×D)->List (D×D)
 |(.none,_)::r=>r
 |l=>l
def TY (ds:List (D×D)):Bool:=!ds.isEmpty&&ds.all fun a=>(VM a.1).isSome
section
variable {c:C}{a b e k:bc}{ga gb g gk:aB->R D}{pos p apos:Pos}{x:Str}
def inT (d:Bool):D->D->R D
 |k,.dict ds=>match VM k with
  |some _=>if TY (unF ds)=true then .ok (.bool (if d then !(wN (unF ds) k).isSome else (wN (unF ds) k).isSome)) else .no
  |none=>.no
 |_,_=>.no
end
end J
namespace J
open PySem L2
def MY (g:aB->R D):aB->R Bool:=fun ρ=>(g ρ).bind fun d=>match d with
 |.list ds=>.ok (!ds.isEmpty)
 |_=>.no
theorem QD (h:JB c e g) (he:∀ b,xD e c.X.env b=(do let v <- b;j3 e.pos;kg [v] (N_ v)):=by intro _;rfl):JT c e (MY g):=.of fun ρ=>Tg (Oy (h ρ) he) fun σ H Q o=>by
 obtain ⟨w,t,x,u,f,q⟩:=o;refine one f q fun d v k i n j m p=>?_;unfold MY at q;rw [n,bind_ok] at q;split at q
 ·obtain ⟨a,vs,rfl,l,s⟩:=p.list m.st.sub;refine ⟨_,.inl ⟨vs,l,rfl⟩,?_⟩;cases s with
  |nil=>exact q k i j
  |cons _ _=>exact q k i j
 ·exact q.elim
end J
namespace L2
open PySem PySem.Spec PyProof.Rows
end L2
namespace J
open PySem L2
def vw:List D->Option (List Int)
 |[]=>some []
 |.int b::r=>(vw r).map (b::·)
 |_::_=>none
theorem GH:∀ {bs:List Int},vw ds=some bs->ds=bs.map bM:=by
 induction ds with
 |nil=>intro bs h;cases h;rfl
 |cons d r c =>
  intro bs h;cases d with
  |int b =>
   have h:(vw r).map (b::·)=some bs:=h;cases a:vw r with
   |none=>rw [a] at h;cases h
   |some z=>rw [a] at h;cases h;rw [c a];rfl
  |_=>cases h
theorem AJ:∀ bs:List Int,vw (bs.map bM)=some bs
 |[]=>rfl
 |b::r=>by show (vw (r.map bM)).map (b::·)=_;rw [AJ r];rfl
end J
namespace J
open PySem L2
end J
namespace J
open PySem L2
end J
namespace J
open PySem L2
def rS (i:Nat) (ρ:aB):R D:=Jf ρ i
def rB (i:Nat) (ρ:aB):R D:=HW ρ i
def kI (n:Int) (_:aB):R D:=.ok (.int n)
def kB (b:Bool) (_:aB):R D:=.ok (.bool b)
def kN (_:aB):R D:=.ok .none
def kT (_:aB):R Bool:=.ok true
theorem Zp (i:Nat) (ρ:aB):rS i ρ=Jf ρ i:=id rfl
theorem Xd (i:Nat) (ρ:aB):rB i ρ=HW ρ i:=id rfl
theorem Zq (n:Int) (ρ:aB):kI n ρ=.ok (.int n):=id rfl
theorem Zr (b:Bool) (ρ:aB):kB b ρ=.ok (.bool b):=id rfl
theorem Zt (ρ:aB):kN ρ=.ok .none:=id rfl
end J
namespace L2
open PySem PySem.Spec PyProof.Rows
def Itq (lo:Int) (n:Nat):It:=⟨fun i _=>i<n,fun i H x H'=>H'=H/\x=.int (lo-i),fun i _=>n<=i⟩
theorem MZ {P:aV}{w:bi}{K:aa}{tg:bc} (it:af) (lo:Int) (n:Nat):DN P w K tg (Itq lo n) [it] it (fun i h=>Fg h it (lo+(i:Nat)*(-1)) ((n:Int)-(i:Nat)) (-1)) where
 mem:=by simp
 obj:=fun i h a b d=>by
  have e:b=it:=by simpa using d
  subst e;exact ⟨_,a,fun v z=>by
   have N:Data.fields _=Data.cell v:=z;cases N⟩
 keep:=fun i h h' a k=>k it (by simp) _ a
 item:=by
  intro X u p j m i c s σ H E I g a B;subst u p j;obtain ⟨A,y,M,x,l,q⟩:=g it (by simp);have W:=Walks.range (prog:=X.prog) (w:=X.w) (I.ok.hd m) it lo (-1) n;refine W.item i s _ _ B a fun v h' G Q f L=>?_;obtain ⟨t,rfl⟩:=Q;have S:bH X c σ H { s with heap:=h',toks:=G }:=I.turned (fun b o d e=>L b o (by simpa using d) e) A y x l q;refine ⟨_,rfl,Kw (s:={ s with heap:=h',toks:=G }) (n:="range_iterator") f rfl rfl (by decide) ⟨.int (lo-i),H,S,⟨t,?_⟩,⟨rfl,rfl⟩,f,fun b d=>(g b d).1⟩⟩;rw [show lo+(i:Int)*(-1)=lo-i by omega]
 done:=by
  intro X u p j m i c s σ H E I g a B;subst u p j;obtain ⟨A,y,M,x,l,q⟩:=g it (by simp);exact O0 (I.ok.hd m) a (by have:n<=i:=B;omega) fun h' O=>⟨rfl,I.turned (t':=s.toks) (fun b o d e=>O b o d e) A y x l q⟩
 self:=fun _ _ _ _ _ a h=>O1 a h
theorem D6 (a b:Int):jr a b (-1)=if a > b then a-b else 0:=by
 unfold jr;simp only [show ¬ ((-1:Int) > 0) by decide,if_false,show -(-1:Int)=1 by decide,Int.ediv_one];split<;>omega
theorem QE {c:List (af×Obj)}{σ:St}{H:Hp}{s:ak}{R:It->Hp->Prop}{E:ae->ak->Prop}{lo a:Int}{t u v:Tok}{f:Nat} (I:bH X c σ H s) (k:-1000<=lo) (l:lo<=1000) (m:-1000<=a) (n:a<=1000)
  (q:R (Itq lo (lo-a).toNat) H):av (aF X.prog X.w) X.A (xE (.ref s.heap.objs.size)) (PIE X c σ tg R) E { s with heap:=s.heap.push { cls:=.type "range",data:=.fields #[.int lo t,.int a u,.int (-1) v] },toks:=f }:=by
 have g:Bx lo a (-1)=true:=by
  unfold Bx;rw [D6];simp only [Builtin.Range.rangeFitsLong,aP,iR,decide_eq_true_eq,beq_iff_eq,show ¬ ((-1:Int) > 0) by decide,if_false];split<;>omega
 refine wpAny_pyIter_range (IsRange.new ..) g ?_;have d:bH X c σ H { s with heap:=s.heap.push { cls:=.type "range",data:=.fields #[.int lo t,.int a u,.int (-1) v] },toks:=f }:=I.kept fun b o e=>ai _ e;refine ⟨(s.heap.push { cls:=.type "range",data:=.fields #[.int lo t,.int a u,.int (-1) v] }).objs.size,[(s.heap.push { cls:=.type "range",data:=.fields #[.int lo t,.int a u,.int (-1) v] }).objs.size],_,_,H,rfl,
  d.kept (t':=f) fun b o e=>ai _ e,MZ _ lo (lo-a).toNat,?_,fun b i=>?_,q⟩
 ·have h:lo+((0:Nat):Int)*(-1)=lo:=by simp
  have j:(((lo-a).toNat:Nat):Int)-((0:Nat):Int)=jr lo a (-1):=by rw [D6];split<;>omega
  show Fg _ _ (lo+((0:Nat):Int)*(-1)) ((((lo-a).toNat:Nat):Int)-((0:Nat):Int)) (-1);rw [h,j];exact aD _ rfl
 ·have e:b=(s.heap.push { cls:=.type "range",data:=.fields #[.int lo t,.int a u,.int (-1) v] }).objs.size:=by simpa using i
  subst e;exact d.fpOk (aA _) (d.hok.fresh (aA _))
def Zu (b:TA):TI:=fun σ H R=>b σ H fun vs a=>∃ i j:Int,vs=[.int i,.int j,.int (-1)]/\(-1000<=i/\i<=1000/\-1000<=j/\j<=1000)/\R (Itq i (i-j).toNat) a
theorem M_ (z:Gl X "range") (u:X.mg "range"=none) (m:PA X [a,b,c] ta) (hs:ao [a,b,c] X.env=(false,bG a X.env)::ao [b,c] X.env:=by rfl) (g:ao [b,c] X.env=[(false,bG b X.env),(false,bG c X.env)]:=by rfl) :
  PI X tg (.Call (.Name "range" p) [a,b,c] [] pos) (Zu ta):=by
 intro f s σ H R I h;refine Call_ (v7 I z u boot_range (fu (fE (m pos f s σ H _ I h) fun us B ⟨vs,E,y,v,l⟩=>?_) hs (by rw [g];rfl)));obtain ⟨i,j,e,⟨l,w,A,n⟩,q⟩:=l;subst e;cases v with
 |cons r d =>
  cases d with
  |cons x d =>
   cases d with
   |cons k d =>
    cases d;obtain ⟨t,rfl⟩:=r;obtain ⟨t',rfl⟩:=x;obtain ⟨o,rfl⟩:=k;exact call_range_3 (by decide) (QE y l w A n q) (.inl (DE (by omega)))
end L2
namespace J
open PySem L2
def rJ (lo:Int) (n:Nat):List D:=(br n).map fun (k:Nat)=>bM (lo-k)
theorem TZ (lo:Int) (n:Nat):RX K (Itq lo n) (rJ lo n) Hn Hs:=fun f b g h d=>by
 have c:(rJ lo n).length=n:=by simp [rJ]
 refine ⟨fun i a=>by rw [c] at a;exact a,fun i a=>by rw [c] at a;exact a,fun i v e a y=>?_⟩;obtain ⟨rfl,rfl⟩:=y;refine ⟨.int (lo-i),b,?_,.refl d,.int _⟩;rw [c] at a;unfold rJ;rw [aH,v_ a];rfl
theorem RV.three {K:aa}{H g:Hp}{xs:List V}{d e f:D} (h:RV K H g xs [d,e,f]):∃ x y z,xs=[x,y,z]/\RB K H g x d/\RB K H g y e/\RB K H g z f:=by
 cases h with|cons a t=>cases t with|cons b t=>cases t with|cons c t=>cases t;exact ⟨_,_,_,rfl,a,b,c⟩
def T_:List D->R (List D)
 |[.int i,.int j,.int k]=>if k=-1/\-1000<=i/\i<=1000/\-1000<=j/\j<=1000 then .ok (rJ i (i-j).toNat) else .no
 |_=>.no
def D7 (a:aB->R (List D)):aB->R (List D):=fun ρ=>(a ρ).bind T_
theorem Ju (B:Gl c.X "range") (t:c.X.mg "range"=none) (o:Tf c [a,b,d] gs) (hs:ao [a,b,d] c.X.env=(false,bG a c.X.env)::ao [b,d] c.X.env:=by rfl) (g:ao [b,d] c.X.env=[(false,bG b c.X.env),(false,bG d c.X.env)]:=by rfl) :
  NV c tg (.Call (.Name "range" p) [a,b,d] [] pos) (D7 gs):=.of fun ρ=>MQ (M_ B t (o ρ) hs g) fun σ H Q v=>by
 obtain ⟨I,E,L,G,f,q⟩:=v;refine KO f q fun ds vs n h u l K A=>?_;unfold D7 at q;rw [u,bind_ok] at q;unfold T_ at q;split at q
 ·rename_i i j k
  by_cases e:k=-1/\-1000<=i/\i<=1000/\-1000<=j/\j<=1000
  ·rw [if_pos e] at q;obtain ⟨x,y,z,rfl,m,w,s⟩:=A.three;exact ⟨i,j,by rw [m.int,w.int,s.int,e.1],e.2,q _ n h l (TZ i _)⟩
  ·rw [if_neg e] at q;exact q.elim
 ·exact q.elim
end J
namespace L2
open PySem PySem.Spec PyProof.Rows
section
open Builtin Builtin.ObjectAttr
inductive Ls (h:bA) (bmB:List ae) (nms:List Str):List ae->Prop
 |base:Ls h bmB nms bmB
 |own {A:af}{c0:ae}{dd:Option af}{cd:ClassData}{sl:Array (Option ae)}{mA:Str->Option ae}{tl:List ae} :
   h.get? A=some { cls:=c0,dict:=dd,data:=.cls cd,slots:=sl }->h.Ns cd.ns mA->(∀ n∈nms,mA n=none)->Ls h bmB nms tl->Ls h bmB nms (.ref A::tl)
section
variable {M:NH}{A:bh}{E:ae->ak->Prop}{h:bA}{g:Array I0}{d:NG}{t:Nat}{os:OsState}
variable {nm q:Str}{C N x:af}{bs bm bmB:List ae}{hdct:Bool}{sn:List Str}{sub:List ae}{ab:Bool}{col:Option Bool}{dd:Option af}{k0 k1 k2 k3 k5:Option ae}{B newId initId sa owner:String}{nms:List Str}{name:Str}{v:ae}{mN:Str->Option ae}
end
section
variable {prog:aV}{w:bi}{A:bh}{E:ae->ak->Prop}{h:bA}{g:Array I0}{d:NG}{t:Nat}{os:OsState}
variable {nm q:Str}{C N x:af}{bs bm bmB:List ae}{sn:List Str}{sub:List ae}{ab:Bool}{col:Option Bool}{dd:Option af}{k0 k1 k2 k3 k5:Option ae}{B newId initId sa owner:String}{nms:List Str}{name:Str}{v:ae}{mN:Str->Option ae}
end
end
section
variable {prog:aV}{w:bi}{A:bh}{E:ae->ak->Prop}{h:bA}{g:Array I0}{d:NG}{t:Nat}{os:OsState}
variable {nm q:Str}{C N:af}{bs bm bmB:List ae}{hdct:Bool}{sn:List Str}{sub:List ae}{ab:Bool}{col:Option Bool}{dd:Option af}{k0 k1 k2 k3 k5:Option ae}{B newId initId:String}
end
structure Xe (h:bA) (fI:af):Prop where
 ex:∃ (oI:Obj) (fd:cr) (p1 p2 p3 p4:Pos),h.get? fI=some oI/\oI.cls=.type "function"/\oI.data=.func fd/\h.CodeRec fd.code fd.qualname/\fd.scope.isCoroutine=false/\fd.scope.isGenerator=false/\fd.scope.kind=.function /\
  fd.scope.names=[(("self" : Str),r_),(("number" : Str),r_)]/\fd.body=.stmts [.Assign [.Attribute (.Name "self" p1) "number" p2] (.Name "number" p3) p4]/\∀ (s:ak) (e v:ae),(∀ b o,h.get? b=some o->s.heap.get? b=some o)->yr s fd ⟨[e,v],[]⟩ [("self",e),("number",v)]
structure q0P (x:Str) (C:af) (mg:Str->Option ae) (base:bA):Prop where
 bound:mg x=some (.ref C)
 obj:∃ nm q N bs bm sn sub ab col dd k0 k1 k2 k3 k5 mN fI,base.get? C=some (excClassObj nm q C N bs bm true sn sub ab col dd k0 k1 k2 k3 k5 "ValueError.__new__")/\base.Ns N mN/\mN "__init__"=some (.ref fI)/\mN "__setattr__"=none/\mN "number"=none /\
  Ls base [.type "ValueError",.type "Exception",.type "BaseException",.type "object"] ["__init__","__setattr__","number"] bm/\Xe base fI
section
variable {P:aV}{w:bi}{K:aa}{mg:Str->Option ae}{base:bA}{N:List Str}{qual:Str}{scope:fU}{f:af}{cd:ae}{A:bh}{outer:List Env}{s:ak}{H:Hp}{E:XK}
end
end L2
namespace J
open PySem L2
section
open PySem.W (nsIn nsOkIn codeIn fnOf)
theorem Zv (X:K.In h) (G:h.Ns N mg) (e:nsIn K N n=some (some v)):mg n=some v:=by
 obtain ⟨o,i,g,ho,b,_,a⟩:=G;unfold dW at e;split at e
 ·rename_i c d es' j f q
  have:=X _ _ q;rw [ho] at this;cases this;cases b;split at e
  ·rename_i he
   rw [<- a];unfold nsFind findBy;rw [<- M7,he];cases e;rfl
  ·split at e<;>cases e
 ·cases e
structure q0Q (K:aa) (x:Str) (C:af) (st:c9):Prop where
 ns:nsIn K bq x=some (some (.ref C))
 own:∀ {h:bA}{mg:Str->Option ae},K.In h->h.Ns bq mg->q0P x C mg h
 mb:cz K C (.type "BaseException")=some true
 ox:∀ {h:bA},K.In h->∃ bm,E8 h C bm/\∀ v,(v==bn C)=false->cz K C v=some true->bm.contains v=true
theorem topN {K:aa}{x:Str}{C I T p b g:af}{a:c9}{nm P E y S:Str}{bs M m j sub:List ae}{sn Y:List Str}{ab Q U l:Bool}{col o:Option Bool}{dd dP od dT an:Option af}{k0 k1 k2 k3 k5:Option ae}{c0 kV i pm d ct cT:ae}{N H u:Array (Option ae)}{nT:Nat}{p1 p2 p3 p4:Pos}{cN cM:ae}{dN dM:Option af}{c f:Array DictEntry}{B L:Nat}{w O:Array (Option ae)}
  (a1:nsIn K bq x=some (some (.ref C))) (a4:cz K C (.type "BaseException")=some true)
  (a2:K.lookup C=some ⟨.type "type",dd,.cls ⟨nm,bs,[.ref C,.ref I,.type "ValueError",.type "Exception",.type "BaseException",.type "object"],b,P,true,sn,sub,ab,col,false⟩,#[k0,k1,k2,k3,some (.builtin "ValueError.__new__"),k5]⟩)
  (a3:K.lookup I=some ⟨c0,dP,.cls ⟨E,M,m,g,y,U,Y,j,Q,o,l⟩,N⟩)
  (b1:nsIn K b "__init__"=some (some (.ref T))) (b2:nsIn K b "__setattr__"=some none) (b3:nsIn K b "number"=some none)
  (c1:nsIn K g "__init__"=some none) (c2:nsIn K g "__setattr__"=some none) (c3:nsIn K g "number"=some none)
  (d1:K.lookup T=some ⟨.type "function",od,.func (fnOf "__init__" S (jM a) (eF a) (ar a) (.ref p) kV i pm an d ct),H⟩)
  (d2:K.lookup p=some ⟨cT,dT,.seq #[.none] nT,u⟩) (d3:codeIn K d S=true)
  (g1:K.lookup b=some ⟨cN,dN,.dict c B,w⟩) (g2:K.lookup g=some ⟨cM,dM,.dict f L,O⟩) (g3:(c.toList.all fun e=>match e.key with | .str _ _=>true|_=>false)=true) (g4:(f.toList.all fun e=>match e.key with | .str _ _=>true|_=>false)=true)
  (f1:eF a=[.Assign [.Attribute (.Name "self" p1) "number" p2] (.Name "number" p3) p4]) (f2:(ar a).names=[(("self" : Str),r_),(("number" : Str),r_)])
  (f3:(ar a).isCoroutine=false) (f4:(ar a).isGenerator=false) (f5:(ar a).kind=.function)
  (f6:∀ e v,∃ k,Ig (fnOf "__init__" S (jM a) (eF a) (ar a) (.ref p) kV i pm an d ct) ⟨[e,v],[]⟩=NQ (.ref p) >>= k/\k (some #[.none])=pure [(("self" : Str),e),(("number" : Str),v)]):q0Q K x C a:=by
 have q:nsOkIn K b=true:=by unfold Od;rw [g1];show c.all _=true;rw [<- yZ];exact g3
 have t:nsOkIn K g=true:=by unfold Od;rw [g2];show f.all _=true;rw [<- yZ];exact g4
 refine ⟨a1,fun {h mg} X G=>⟨iH X G a1,nm,P,b,bs,_,sn,sub,ab,col,dd,k0,k1,k2,k3,k5,h.nsMap b,T,X _ _ a2,.of_isNs (mX X q),?_,fc X q b2,fc X q b3,?_,⟨_,_,p1,p2,p3,p4,X _ _ d1,rfl,rfl,v3 X d3,f3,f4,f5,f2,congrArg FuncBody.stmts f1,fun s e v kb=>?_⟩⟩,a4,fun {h} X=>⟨_,⟨⟨nm,P,b,bs,true,sn,sub,ab,col,dd,k0,k1,k2,k3,k5,_,X _ _ a2⟩,rfl⟩,fun v nv A=>?_⟩⟩
 ·exact Zv X (.of_isNs (mX X q)) b1
 ·refine .own (X _ _ a3) (.of_isNs (mX X t)) (fun n hn=>?_) .base;rcases List.mem_cons.mp hn with z|hn
  ·rw [z];exact fc X t c1
  rcases List.mem_cons.mp hn with z|hn
  ·rw [z];exact fc X t c2
  ·rw [List.mem_singleton.mp hn];exact fc X t c3
 ·obtain ⟨k,k1,k2⟩:=f6 e v;exact BindsTo.of_defaults rfl (kb _ _ (X _ _ d2)) rfl k1 k2
 ·unfold cz gS at A;rw [a2] at A;have:(bn C::[bn I,.type "ValueError",.type "Exception",.type "BaseException",.type "object"]).contains v=true:=by simpa using A
  rw [ko,nv,wl] at this;exact this
end
end J
namespace L2
open PySem PySem.Spec PyProof.Rows
theorem U0 (h:cS (ns.map V.int) its):AllInts its.toArray/\numsOf its=ns:=by
 induction ns generalizing its with
 |nil=>cases h;exact ⟨fun v c=>absurd c (by simp),rfl⟩
 |cons n r d =>
  cases h with
  |cons a b =>
   obtain ⟨t,rfl⟩:=a;obtain ⟨e,f⟩:=d b;refine ⟨fun v c=>?_,?_⟩
   ·rcases (by simpa using c:v=.int n t\/_) with z|z
    ·exact ⟨n,t,z⟩
    ·exact e v (by simpa using z)
   ·show n::numsOf _=_;rw [f]
theorem BX (i:X.calm=true):jX X (.builtin "sum") (fun xs H Q=>∃ p,∃ b:List Int,xs=[.ref p]/\pC X.K H p (b.map V.int)/\Q (.int b.sum) H):=by
 intro d s σ H xs us Q I r h;obtain ⟨p,b,rfl,j,q⟩:=h;obtain ⟨u,rfl,g⟩:=mz r;cases g;obtain ⟨a,m,pl,c⟩:=I.list j;obtain ⟨k,l⟩:=U0 m;obtain ⟨xs,e⟩:=k.items;have c:=pl.isList;rw [e] at c;have hs:preSum (numAt xs) xs.size=b.sum:=by
  rw [<- l,show a=a.toArray.toList from rfl,e,nums_intItems,preSum_eq,HR (by simp)]
 refine sum_intListG (I.ok.hd i) c fun h' f t' n=>?_;rw [hs];exact ⟨.int b.sum,H,I.kept (t':=f) n,⟨t',rfl⟩,q⟩
end L2
namespace L2
open PySem PySem.Spec PyProof.Rows
end L2
namespace J
open PySem L2
def BY:D->R D
 |.list ds=>match vw ds with
  |some a=>.ok (.int a.sum)
  |none=>.no
 |_=>.no
theorem QF (k:X.calm=true):NU X (.builtin "sum") (j9 BY):=by
 refine vi (fun d c n=>?_) fun e s σ H x u Q j d d' I m sub i b q=>?_
 ·unfold BY;split<;>(try split)<;>exact fun h=>by cases h
 ·unfold BY at b;split at b
  ·split at b
   ·rename_i l hs
    cases b;obtain ⟨a,vs,rfl,f,g⟩:=i.list sub;rw [GH hs] at g;rw [Ea g] at f;exact BX k e s σ H _ _ Q I (.cons m .nil) ⟨a,l,rfl,f,q _ H j (.refl sub) (.int _)⟩
   ·cases b
  ·cases b
end J
namespace J
open PySem L2
end J
namespace L2
open PySem PySem.Spec PyProof.Rows
end L2
namespace J
open PySem L2
section
variable {c:C}{pos:Pos}{x:Str}{kx vx iter tg:bc}{ifs:List bc}{scope:fU}{N':List Str}{nt:Nat}{ix:List Nat}{gi:aB->R (List D)}{gt:aB->R Bool}{gk gv:aB->R D}
end
end J
namespace L2
open PySem PySem.Spec PyProof.Rows
end L2
namespace J
open PySem L2
end J
namespace J
open PySem L2
def uI (p:HO->Bool) (H a:Hp):Hp:=fun b=>match a b,H b with
 |some o,_=>some o
 |none,some o=>if p o then some o else none
 |none,none=>none
def zg (p:HO->Bool) (H c a:Hp):Hp:=fun b=>match c b,H b with
 |none,some o=>if p o then none else a b
 |_,_=>a b
theorem jZ:cK Hs (uI p H Hs):=fun b o e=>by
 unfold uI;rw [e]
theorem pV (h:H b=some o) (n:Hs b=none) (a:p o=true):uI p H Hs b=some o:=by
 unfold uI;rw [n,h];exact if_pos a
theorem Jv (h:uI p H Hs b=some o):Hs b=some o\/(Hs b=none/\H b=some o/\p o=true):=by
 unfold uI at h;split at h
 ·rename_i e;exact .inl (e.trans h)
 ·rename_i u n e
  split at h
  ·rename_i a;cases h;exact .inr ⟨n,e,a⟩
  ·cases h
 ·cases h
theorem QG (s:cK Hs H):cK (uI p H Hs) H:=fun b o e=>by
 rcases Jv e with h|⟨_,h,_⟩
 ·exact s b o h
 ·exact h
theorem U1 (n:Hs b=none) (h:H b=some o) (a:p o=true):zg p H Hs Hs1 b=none:=by
 unfold zg;rw [n,h];exact if_pos a
theorem Ev (h:∀ o,Hs b=none->H b=some o->p o=false):zg p H Hs Hs1 b=Hs1 b:=by
 unfold zg;split
 ·rename_i o n e
  rw [h o n e];rfl
 ·rfl
theorem QH:cK (zg p H Hs Hs1) Hs1:=fun b o e=>by
 unfold zg at e;split at e
 ·split at e
  ·cases e
  ·exact e
 ·exact e
theorem l9 (sub:cK Hs H) (s:cn H (uI p H Hs) H' Hs1):cn H Hs H' (zg p H Hs Hs1):=by
 refine ⟨s.all,fun b o e=>?_,QH.trans s.sub,fun a o e t n=>?_⟩
 ·rw [Ev fun f n _=>by rw [e] at n;cases n];exact s.sh b o (jZ b o e)
 ·cases c:p o with
  |true=>exact U1 n e c
  |false =>
   rw [Ev fun f _ d=>by rw [e] at d;cases d;exact c];refine s.out a o e t ?_;unfold uI;rw [n,e];simp only [c];rfl
structure q0R (p:HO->Bool) (ok:D->Bool):Prop where
 rd:∀ {K:aa}{H Hs H' Hs1:Hp},cn H (uI p H Hs) H' Hs1->∀ {v d},ok d=true->RD K Hs1 v d->RD K (zg p H Hs Hs1) v d
inductive Zw (p:HO->Bool) (K:aa) (cls:Str->af) (E:XK) (ρ:aB) (r:R (List D)) (σ:St) (H:Hp) (Q:List V->Hp->Prop):Prop
 |mk (H0 Hs0:Hp) (la:Nat->Option af) (Hs:Hp) (f:Fr K H0 Hs0 la ρ σ H Hs) (q:Fin K cls E H Hs r fun d=>∀ v H' Hs',cn H Hs H' Hs'->RDs K (uI p H' Hs') v d->Q v H'):Zw p K cls E ρ r σ H Q
structure JL (p:HO->Bool) (c:C) (es:List bc) (g:aB->R (List D)):Prop where of ::
 run:∀ ρ,PA c.X es (Zw p c.X.K c.cls c.E ρ (g ρ))
end J
namespace L2
open PySem PySem.Spec PyProof.Rows
end L2
namespace J
open PySem L2
end J
namespace J
open PySem L2
end J
namespace L2
open PySem PySem.Spec PyProof.Rows
inductive Zx (X:Cx) (CX:Ky) (E:XK) (t:TA) (σ:St) (Q:VK) (v:V) (H1:Hp):Prop
 |mk (k:Nat) (f:af) (fd:cr) (ps:List Str) (sp:Sp) (h0:v=.ref f) (F:l8 X.prog X.w X.K X.mg X.base CX k f fd ps sp) (hr:fJ k X.A) (hk:bV X.K (.ref f)=true) (hb:eQ X.K fd ps []) (q:Kz sp [] E t σ H1 Q):Zx X CX E t σ Q v H1
end L2
namespace J
open PySem L2
inductive GI (c:C) (n j:Nat):List bc->List (List D->R D)->List af->Prop
 |nil:GI c n j [] [] []
 |cons {x:Str}{p:Pos}{F:List D->R D}{k:Nat}{f:af}{fd:cr}{ps:List Str}{es:List bc}{Fs:List (List D->R D)}{as:List af} (hf:l8 c.X.prog c.X.w c.X.K c.X.mg c.X.base (jN c.X.prog c.X.w) k f fd ps (RW c.X.K c.cls n F)) (hm:c.X.mg x=some (.ref f)) (hk:bV c.X.K (.ref f)=true) (hb:eQ c.X.K fd ps []) (hj:k<=j) (hg:Gl c.X x) (hdb:(x==("__debug__" : Str))=false) (r:GI c n j es Fs as):GI c n j (.Name x p::es) (F::Fs) (f::as)
inductive QI (c:C) (n j:Nat) (F:List D->R D) (f:af):Prop
 |mk (k:Nat) (fd:cr) (ps:List Str) (hf:l8 c.X.prog c.X.w c.X.K c.X.mg c.X.base (jN c.X.prog c.X.w) k f fd ps (RW c.X.K c.cls n F)) (hk:bV c.X.K (.ref f)=true) (hb:eQ c.X.K fd ps []) (hj:k<=j):QI c n j F f
theorem N0 (h:GI c n j g b a):∀ {i:Nat}{F:List D->R D},b[i]?=some F->∃ f,a[i]?=some f/\QI c n j F f:=by
 induction h with
 |nil=>intro i F e;simp at e
 | @cons x p F k f l ps g b a s v o t m w u r d =>
  intro i F e;cases i with
  |zero=>cases e;exact ⟨f,rfl,k,l,ps,s,o,t,m⟩
  |succ i=>have q:=d (i:=i) e;exact q
def VN (c:List (List D->R D)) (n:Nat) (a:aB->R D) (b:aB->R (List D)) (ρ:aB):R Fl:=(a ρ).bind fun d=>match d with
 |.int k=>if 0<=k then (match c[k.toNat]? with
  |some F=>(b ρ).bind fun ds=>if ds.length=n then (F ds).bind fun d=>.ok (.rt d) else .no
  |none=>.no) else .no
 |_=>.no
theorem DY (P:GI c n j es Fs as) (T:fJ j c.X.A) (f:Fr c.X.K H0 Hs0 la ρ σ H Hs) (S:H a=some (.lst (as.map V.ref))) (q:pS c.X.K c.cls c.E H0 Hs0 la D' (VN Fs n gi gs ρ)) :
  TR c.X.K c.cls c.E ρ (gi ρ) σ H fun y L=>Yq c.X.K (.ref a) y L (Zx c.X (jN c.X.prog c.X.w) c.E (TAs c.X.K c.cls c.E ρ (gs ρ)) σ D'.rt):=by
 refine sE f q fun d v L s e1 N o r1=>?_;unfold VN at q;rw [e1,bind_ok] at q;cases r1 with
 |int k =>
  simp only at q;by_cases B:0<=k
  ·rw [if_pos B] at q;split at q
   ·rename_i F O
    obtain ⟨g,M,k',Q,ps,U,u,Y,hj⟩:=N0 P O;have x:Fp (as.map V.ref) k=some (.ref g):=by
     have:=tQ (xs:=as.map V.ref) (j:=k.toNat) (v:=V.ref g) (by rw [aH,M];rfl)
     rwa [eU B] at this
    refine ⟨a,as.map V.ref,k,.ref g,rfl,rfl,.of (N.all _ _ S),x,k',g,Q,ps,_,rfl,U,T.mono hj,u,Y,H0,Hs0,la,s,o,?_⟩;cases G:gs ρ with
    |no=>rw [G] at q;exact q.elim
    |ex y m=>rw [G] at q;exact fun I b z=>q I b (o.st.trans z)
    |ok ds =>
     rw [G,bind_ok] at q;intro vs I b z r3;have p:=o.step z;by_cases t:ds.length=n
     ·rw [if_pos t] at q;show RW _ _ _ _ (vs++[]) _ _ _;rw [cb];refine ⟨b,ds,p.st.sub,t,r3,?_⟩;cases h:F ds with
      |no=>rw [h] at q;exact q.elim
      |ex y m=>rw [h] at q;exact fun l e i=>q l e (p.st.trans i)
      |ok d=>rw [h] at q;exact fun v l e i r4=>q v l e (p.st.trans i) r4
     ·rw [if_neg t] at q;exact q.elim
   ·exact q.elim
  ·rw [if_neg B] at q;exact q.elim
 |list _ _=>exact q.elim
 |none=>exact q.elim
 |bool _=>exact q.elim
 |str _=>exact q.elim
 |tuple _ _=>exact q.elim
 |dictK _ _=>exact q.elim
 |dictT _ _ _=>exact q.elim
 |dictF _ _ _=>exact q.elim
 |desk _ _ _ _=>exact q.elim
end J
namespace J
open PySem L2
end J
namespace TS
open PySem PyProof.Rows
section
variable {prog:aV}{w:bi}{A:bh}{E:ae->ak->Prop}{s:ak}{kd:BE}{rk:ae->Nat}{L:List md}
variable {l:Bool}{k:md}{a:Array md}{b n h i:Nat}{g:Nat->Nat}{st:Oe}
end
structure Mg {α:Type} (lt:α->α->Prop) (T out ra rb:List α):Prop where
 perm:(out++ra++rb).Perm T
 so:out.Pairwise lt
 sa:ra.Pairwise lt
 sb:rb.Pairwise lt
 oa:∀ x∈out,∀ y∈ra,lt x y
 ob:∀ x∈out,∀ y∈rb,lt x y
section
variable {α:Type}{lt:α->α->Prop}{T out ra rb p:List α}
end
section
variable {a:Array md}{i k:Nat}{x:md}
end
section
variable {rk:ae->Nat}{a:Array md}{L:List md}
end
section
variable {prog:aV}{w:bi}{A:bh}{E:ae->ak->Prop}{s:ak}{kd:BE}{rk:ae->Nat}{L:List md}{st st':Oe}
def Ltk (rk:ae->Nat) (x y:md):Prop:=rk x.1<rk y.1
variable {a b out:Array md}{ia ib k:Nat}{p q:md}
end
section
variable {prog:aV}{w:bi}{A:bh}{E:ae->ak->Prop}{s:ak}{kd:BE}{rk:ae->Nat}{L:List md}{st st':Oe}
def W (rk:ae->Nat) (a b out:Array md) (na c:Nat):Prop:=Mg (fun x y=>Ltk rk y x) (a.toList++b.toList) out.toList (a.toList.take na).reverse (b.toList.take c).reverse
variable {a b out:Array md}{n m k:Nat}{p q:md}
end
section
variable {prog:aV}{w:bi}{A:bh}{E:ae->ak->Prop}{s:ak}{kd:BE}{rk:ae->Nat}{L:List md}{st:Oe}{a:Array md}
end
section
variable {prog:aV}{w:bi}{A:bh}{E:ae->ak->Prop}{s:ak}{kd:BE}{rk:ae->Nat}{L:List md}{st:Oe}{a:Array md}
end
section
variable {prog:aV}{w:bi}{A:bh}{E:ae->ak->Prop}{s:ak}{kd:BE}{rk:ae->Nat}{L:List md}{st:Oe}{a:Array md}
end
end TS
namespace TS
open PySem PyProof.Rows PySem.W
section
variable {prog:aV}{w:bi}{A:bh}{E:ae->ak->Prop}{s:ak}
end
end TS
namespace L2
open PySem PySem.Spec PyProof.Rows PySem.W
end L2
namespace J
open PySem L2
end J
namespace L2
open PySem PySem.Spec PyProof.Rows PySem.W
end L2
namespace J
open PySem L2
end J
namespace J
open PySem PySem.Spec PyProof.Rows L2
end J
namespace L2
open PySem PySem.Spec PyProof.Rows
end L2
namespace J
open PySem L2
end J
namespace J
open PySem L2
section
open PyProof.Rows (envOfC)
structure DkC (K:aa) (C:af):Prop where
 ns:dW K bq "Desk"=some (some (.ref C))
 cl:Cls K C
 n1:bL K (.ref C) "book"=some none
 n2:bL K (.ref C) "states"=some none
 n3:bL K (.ref C) "names"=some none
 n4:bL K (.ref C) "undone"=some none
theorem DkC.na {K:aa}{C:af} (T:DkC K C) {i:Nat}{f:Str} (h:Ar[i]?=some f):v8 K C f:=by
 match i,h with
 | 0,h=>cases h;exact T.n1
 | 1,h=>cases h;exact T.n2
 | 2,h=>cases h;exact T.n3
 | 3,h=>cases h;exact T.n4
 |n+4,h=>simp [Ar] at h
def AK:D->Bool
 |.dict l=>dkK l
 |_=>false
inductive DkA (K:aa) (H:Hp) (v:V) (d:D):Prop
 |mk (x C dx:af) (vs:List V) (ds:List D) (e:v=.ref x) (ed:d=.dict (dkD ds)) (ns:dW K bq "Desk"=some (some (.ref C))) (h:H x=some (.ins C dx (Ar.zip vs))) (n:vs.length=4) (r:RDs K H vs ds):DkA K H v d
theorem RD.desk_of {K:aa}{H:Hp}{v:V}{d:D} (h:RD K H v d) (f:AK d=true):DkA K H v d:=by
 cases h with
 |desk a b c e=>exact ⟨_,_,_,_,_,rfl,rfl,a,b,c,e⟩
 |dictK _ r =>
  cases r with
  |nil=>cases f
  | @cons k _ _ _ _ _ _=>cases k<;>cases f
 |dictT _ n r=>cases r<;>cases f
 |dictF _ _ _=>cases f
 |none=>cases f
 |bool _=>cases f
 |int _=>cases f
 |str _=>cases f
 |list _ _=>cases f
 |tuple _ _=>cases f
theorem wS {vs:List V}{v:V}{i:Nat}{f:Str} (n:vs.length=4) (e:Ar[i]?=some f) (g:vs[i]?=some v):(Ar.zip vs).lookup f=some v:=by
 obtain ⟨a,b,c,d,rfl⟩:=ln4 n
 have j:(("states" : Str) == "book")=false:=by decide +kernel
 have m:(("names" : Str) == "book")=false:=by decide +kernel
 have o:(("names" : Str) == "states")=false:=by decide +kernel
 have l:(("undone" : Str) == "book")=false:=by decide +kernel
 have h:(("undone" : Str) == "states")=false:=by decide +kernel
 have k:(("undone" : Str) == "names")=false:=by decide +kernel
 match i,e,g with
 | 0,e,g=>cases e;cases g;simp only [Ar,kq,bd,beq_self_eq_true]
 | 1,e,g=>cases e;cases g;simp only [Ar,kq,bd,beq_self_eq_true,j]
 | 2,e,g=>cases e;cases g;simp only [Ar,kq,bd,beq_self_eq_true,m,o]
 | 3,e,g=>cases e;cases g;simp only [Ar,kq,bd,beq_self_eq_true,l,h,k]
 |n+4,e,g=>simp [Ar] at e
theorem le {m:Str}:∀ {l:List Str}{vs:List V},l.contains m=false->(l.zip vs).lookup m=none
 |[],_,_=>rfl
 |x::r,[],_=>rfl
 |x::r,v::vs,h=>by
  rw [ko,uP] at h
  rw [kq,bd,h.1]
  exact le h.2
def Zy (i:Nat):D->R D
 |.dict ((.bool true,.none)::fs)=>match fs[i]? with
  |some p=>.ok p.2
  |none=>.no
 |_=>.no
def wT (i:Nat) (g:aB->R D):aB->R D:=fun ρ=>(g ρ).bind (Zy i)
section
variable {c:C}{C:af}{e o:bc}{es:List bc}{g:aB->R D}{gs:aB->R (List D)}{f m:Str}{pos apos cpos p:Pos}{k n j:Nat}{F:List D->R D}
theorem qL (i:Nat) (T:DkC c.X.K C) (h:JE c e g) (t:Ar[i]?=some f:=by rfl) (z:dB e f c.X.env (bG e c.X.env)=bG e c.X.env:=by rfl):JE c (.Attribute e f pos) (wT i g):=.of fun ρ=>ni (IR (h ρ) z) fun σ H Q I=>by
 obtain ⟨Y,S,la,U,N,q⟩:=I
 refine zb N q fun d v y l G w B L=>?_
 unfold wT at q
 rw [G,bind_ok] at q
 unfold Zy at q
 split at q
 ·rename_i fs
  split at q
  ·rename_i pr b
   obtain ⟨x,C',A,vs,ds,rfl,a,u,O,E,r⟩:=L.desk_of rfl
   rw [T.ns] at u
   cases u
   unfold dkD at a
   injection a with a
   injection a with _ a
   subst a
   rw [aH] at b
   cases s:ds[i]? with
   |none=>rw [s] at b;cases b
   |some d =>
    rw [s] at b
    cases b
    obtain ⟨v,P,M⟩:=r.get' s
    exact ⟨x,C,A,_,v,rfl,B.st.sub _ _ O,T.cl,T.na t,wS E t P,q v y l w M⟩
  ·exact q.elim
 ·exact q.elim
structure FnM (P:aV) (w:bi) (K:aa) (mg:Str->Option ae) (base:bA) (cls:Str->af) (C:af) (m:Str) (k n:Nat) (F:List D->R D):Prop where
 ex:∃ f fd ps,l8 P w K mg base (jN P w) k f fd ps (RW K cls n F)/\FF K C m f/\eQ K fd ps []
abbrev FM (e:En):=FnM e.P e.w e.K e.mg e.base e.cls
def qM (n:Nat) (F:List D->R D) (g:aB->R D) (gs:aB->R (List D)):aB->R D:=fun ρ=>(g ρ).bind fun d=>if AK d=true then (gs ρ).bind fun ds=>if ds.length+1=n then F (d::ds) else .no else .no
theorem U2 {pl:Sem Bool} (T:DkC c.X.K C) (G:FnM c.X.prog c.X.w c.X.K c.X.mg c.X.base c.cls C m k n F) (P:fJ j c.X.A) (hx:gy (jN c.X.prog c.X.w) c.X c.E) (ho:JE c o g) (O:HV c (e::es) gs)
  (hk:k<=j:=by decide) (hm:Ar.contains m=false:=by decide +kernel) (b:ao (e::es) c.X.env=(false,bG e c.X.env)::ao es c.X.env:=by rfl) (u:(cC pos (ao es c.X.env)).any (·.1)=false:=by rfl)
  (M:bG (.Call (.Attribute o m apos) (e::es) [] pos) c.X.env=(do
   let L <- bG o c.X.env
   j3 apos.atName
   let (f,first) <- kg [L] (lv L m pl)
   qw pos f first (cC pos (ao (e::es) c.X.env)) (ii pos (ef [] c.X.env))):=by rfl) :
  JE c (.Call (.Attribute o m apos) (e::es) [] pos) (qM n F g gs):=.of fun ρ=>by
 obtain ⟨f,fd,ps,U,hM,Y⟩:=G.ex
 refine ni (KA (E:=c.E) (ho ρ) T.cl hM U (P.mono hk) Y .nil hx (O ρ) b u M) fun σ H Q hh=>?_
 obtain ⟨H0,a1,la,Hs,f0,q⟩:=hh
 refine zb f0 q fun d v H1 a0 e1 a B I=>?_
 unfold qM at q
 rw [e1,bind_ok] at q
 by_cases y:AK d=true
 ·rw [if_pos y] at q
  obtain ⟨x,C',dx,vs,ds,N,ed,z,h,hn,r⟩:=I.desk_of y
  rw [T.ns] at z
  cases z
  refine ⟨x,dx,_,N,B.st.sub _ _ h,le hm,?_⟩
  refine G6 B (q.on a (q':=fun _=>True) fun _ _=>trivial) fun es' ws H2 s e2 t S r2=>?_
  rw [e2,bind_ok] at q
  by_cases l:es'.length+1=n
  ·rw [if_pos l] at q
   show RW _ _ _ _ (v::(ws++[])) _ _ _
   rw [cb]
   exact ⟨s,d::es',S.st.sub,l,.cons (I.same t.sh) r2,q.on (a.trans t) fun d k v H3 i s3 r3=>k v H3 i ((a.trans t).trans s3) r3⟩
  ·rw [if_neg l] at q;exact q.elim
 ·rw [if_neg y] at q;exact q.elim
theorem sU {pl:Sem Bool} (T:DkC c.X.K C) (G:FnM c.X.prog c.X.w c.X.K c.X.mg c.X.base c.cls C m k n F) (L:fJ j c.X.A) (hx:gy (jN c.X.prog c.X.w) c.X c.E) (ho:JE c o g)
  (hk:k<=j:=by decide) (P:Ar.contains m=false:=by decide +kernel)
  (B:bG (.Call (.Attribute o m apos) [] [] pos) c.X.env=(do
   let z <- bG o c.X.env
   j3 apos.atName
   let (f,first) <- kg [z] (lv z m pl)
   qw pos f first (cC pos (ao [] c.X.env)) (ii pos (ef [] c.X.env))):=by rfl) :
  JE c (.Call (.Attribute o m apos) [] [] pos) (qM n F g aN):=.of fun ρ=>by
 obtain ⟨f,fd,ps,M,U,N⟩:=G.ex
 refine ni (Aa (E:=c.E) (ho ρ) T.cl U M (L.mono hk) N .nil hx B) fun σ H Q hh=>?_
 obtain ⟨H0,a0,la,Hs,f0,q⟩:=hh
 refine zb f0 q fun d v H1 i Y s u y=>?_
 unfold qM at q
 rw [Y,bind_ok] at q
 by_cases l:AK d=true
 ·rw [if_pos l] at q
  obtain ⟨x,C',S,vs,ds,I,ed,t,a,hn,r⟩:=y.desk_of l
  rw [T.ns] at t
  cases t
  refine ⟨x,S,_,I,u.st.sub _ _ a,le P,?_⟩
  unfold J.aN at q
  rw [bind_ok] at q
  by_cases h:([] : List D).length+1=n
  ·rw [if_pos h] at q
   exact ⟨i,[d],u.st.sub,h,.cons y .nil,q.on s fun d k v O b s3 r3=>k v O b (s.trans s3) r3⟩
  ·rw [if_neg h] at q;exact q.elim
 ·rw [if_neg l] at q;exact q.elim
def VO (K:aa) (cls:Str->af) (E:XK) (F:List D->R D) (ρ:aB):TS:=On (UZ (TR K cls E ρ (gN 2 F (J.ah (fun ρ=>Jf ρ 1) (J.ah (fun ρ=>Jf ρ 2) J.aN)) ρ)))
 (On (OC K (xQ 0) (xQ 1) "book") (On (OC K (xQ 0) (SB (A9 (xQ 2) BI)) "states") (On (OC K (xQ 0) (SB BI) "names") (OC K (xQ 0) (SB BI) "undone"))))
end
theorem wU {f:Str}{v:V}:∀ {fs:List (Str×V)},fs.lookup f=none->nV f v fs=fs++[(f,v)]
 |[],_=>rfl
 |(g,y)::r,h=>by
  rw [bd] at h
  cases a:f==g with
  |true=>rw [a] at h;cases h
  |false =>
   rw [a] at h
   have b:g≠f:=fun z=>by rw [z,beq_self_eq_true] at a;cases a
   unfold nV
   rw [if_neg b,wU h]
   rfl
section
variable {P:aV}{w:bi}{K:aa}{mg:Str->Option ae}{base:bA}{cls:Str->af}{C f:af}{fd:cr}{k:Nat}{F:List D->R D}{x0 x1 x2 qual:Str}{st:c9}
end
end
section
open PyProof.Rows (envOfC)
structure DM (K:aa) (C:af) (m qual:Str) (st:c9):Prop where
 ex:∃ f fd,xz K m qual st f fd/\FF K C m f
theorem dm_in {K:aa}{m b:Str}{d:c9}{C A:af}{p o:Option af}{g:Array (Option ae)}{h kV j f e n:ae} (a:bL K (.ref C) m=some (some (.ref A))) (i:wc K (.ref A)=true)
  (l:K.lookup A=some ⟨h,p,.func (dU m b (jM d) (eF d) (ar d) .none kV j f o e n),g⟩) (c:j4 K e b=true) (k:bV K (.ref A)=true):DM K C m b d :=
 ⟨_,_,I_ l c k,a,i,k⟩
abbrev Bm (x y:Str) (c:c9) (us:List ae) (r:List (Str×ae)):Prop:=∀ (kV a f:ae) (d:Option af) (b e:ae),Ig (dU x y (jM c) (eF c) (ar c) .none kV a f d b e) ⟨us,[]⟩=pure r
section
variable {K:aa}{x y a b c:Str}{st:c9}{f:af}{fd:cr}
theorem m1 (F:xz K x y st f fd) (h:∀ u,Bm x y st [u] [(a,u)]:=by exact fun _ _ _ _ _ _ _=>rfl):eQ K fd [a] []:=F.binds fun _ _ _ _ _ _ us d=>by obtain ⟨_,rfl⟩:=ln1 d;exact h ..
theorem m2 (F:xz K x y st f fd) (h:∀ u v,Bm x y st [u,v] [(a,u),(b,v)]:=by exact fun _ _ _ _ _ _ _ _=>rfl):eQ K fd [a,b] []:=F.binds fun _ _ _ _ _ _ us d=>by obtain ⟨_,_,rfl⟩:=ln2 d;exact h ..
theorem m3 (F:xz K x y st f fd) (h:∀ u v w,Bm x y st [u,v,w] [(a,u),(b,v),(c,w)]:=by exact fun _ _ _ _ _ _ _ _ _=>rfl):eQ K fd [a,b,c] []:=F.binds fun _ _ _ _ _ _ us d=>by obtain ⟨_,_,_,rfl⟩:=ln3 d;exact h ..
end
theorem fnm {e:En}{C:af}{m a:Str}{c:c9}{N ps:List Str}{k:Nat}{g:aB->R Fl} (D:DM e.K C m a c) (S:bj N ps (ar c)) (b:∀ {f:af}{i:cr},xz e.K m a c f i->eQ e.K i ps [])
  (h:∀ (f:af) (d:ae) (A:bh) (outer:List Env) (s:ak) (H:Hp) (E:XK),fJ k (A.deeper (gR a (ar c) s.heap.objs.size f d))->Jk ⟨iU (jN e.P e.w) e.P e.w e.K e.mg e.base N a (ar c) f d A outer s H E,e.cls,E⟩ (eF c) g) :
  FM e C m (k+1) ps.length (gm N.length g):=by
 obtain ⟨f,i,F,j⟩:=D.ex
 exact ⟨f,i,ps,PQ F S (h f),j,b F⟩
section
variable {s:Sl}{ρ:aB}
end
end
def zh:HO->Bool
 |.lst _=>true
 |.ins _ _ _=>true
 |_=>false
mutual
def xB:D->Bool
 |.list _=>false
 |.dict _=>false
 |.tuple xs=>okDs xs
 |_=>true
def okDs:List D->Bool
 |[]=>true
 |x::r=>xB x&&okDs r
end
theorem Ew:q0R zh xB:=.mk fun {K H g H' c} s {v d} l r=>by
 have f:∀ (a:af) (u:HO),zh u=false->c a=some u->zg zh H g c a=some u:=fun a u k e=>by
  rw [Ev fun o n h=>?_]
  ·exact e
  ·cases j:zh o with
   |false=>rfl
   |true =>
    have:=s.sh a o (pV h n j);rw [e] at this;cases this;rw [k] at j;cases j
 exact RD.rec (motive_1:=fun v d _=>xB d=true->RD K (zg zh H g c) v d) (motive_2:=fun v d _=>okDs d=true->RDs K (zg zh H g c) v d) (motive_3:=fun _ _ _=>True) (motive_4:=fun _ _ _=>True)
  (fun _=>.none) (fun b _=>.bool b) (fun i _=>.int i) (fun x _=>.str x) (fun _ _ _ e=>by cases e) (fun h _ r e=>.tuple (f _ _ rfl h) (r e)) (fun _ _ _ e=>by cases e) (fun _ _ _ _ e=>by cases e) (fun _ _ _ _ e=>by cases e) (fun _ _ _ _ _ e=>by cases e)
  (fun _=>.nil) (fun _ _ a b e=>.cons (a (Pn e)) (b (Po e))) trivial (fun _ _ _ _=>trivial) trivial (fun _ _ _ _=>trivial) r l
theorem GJ {K:aa}{H c H' b:Hp} (s:cn H (uI zh H c) H' b):∀ {vs:List V}{ds:List D},okDs ds=true->RDs K b vs ds->RDs K (zg zh H c b) vs ds
 |_,_,_,.nil=>.nil
 |_,_,e,.cons a t=>.cons (Ew.rd s (Pn e) a) (GJ s (Po e) t)
structure yF (ls:List af) (H Hs H' Hs':Hp):Prop where
 all:∀ a o,H a=some o->a∉ls->H' a=some o
 sh:cK Hs Hs'
 sub:cK Hs' H'
 out:∀ a,(a∈ls\/∃ o,H a=some o/\nt o=true)->Hs a=none->Hs' a=none
theorem yF.refl {b:List af}{H a:Hp} (h:cK a H):yF b H a H a:=⟨fun _ _ e _=>e,.refl _,h,fun _ _ e=>e⟩
theorem yF.trans {i:List af}{H l k f j d:Hp} (a:yF i H l k f) (b:yF i k f j d):yF i H l j d :=
 ⟨fun c o e n=>b.all c o (a.all c o e n) n,a.sh.trans b.sh,b.sub,fun c h n=>by
  by_cases g:c∈i
  ·exact b.out c (.inl g) (a.out c (.inl g) n)
  ·rcases h with h|⟨o,h1,h2⟩
   ·exact (g h).elim
   ·exact b.out c (.inr ⟨o,a.all c o h1 g,h2⟩) (a.out c (.inr ⟨o,h1,h2⟩) n)⟩
inductive xC (K:aa) (H Hs:Hp):List af->List (List D)->Prop
 |nil:xC K H Hs [] []
 |cons {a:af}{as:List af}{vs:List V}{ds:List D}{M:List (List D)}:H a=some (.lst vs)->RDs K Hs vs ds->Hs a=none->xC K H Hs as M->xC K H Hs (a::as) (ds::M)
section
variable {K:aa}{H Hs H' Hs':Hp}{ls:List af}{M:List (List D)}
theorem xC.step (s:cn H Hs H' Hs') (h:xC K H Hs ls M):xC K H' Hs' ls M:=by
 induction h with
 |nil=>exact .nil
 |cons a b c t d=>exact .cons (s.all _ _ a) (b.same s.sh) (s.out _ _ a rfl c) d
theorem xC.there (h:xC K H Hs ls M) {a:af} (ha:a∈ls):∃ vs,H a=some (.lst vs)/\Hs a=none:=by
 induction h with
 |nil=>cases ha
 |cons h r n t b =>
  rcases List.mem_cons.mp ha with e|ha
  ·subst e;exact ⟨_,h,n⟩
  ·exact b ha
theorem xC.get (h:xC K H Hs ls M):∀ {j:Nat}{ds:List D},M[j]?=some ds->∃ a vs,ls[j]?=some a/\H a=some (.lst vs)/\RDs K Hs vs ds/\Hs a=none:=by
 induction h with
 |nil=>intro j ds e;cases e
 |cons h r n t b =>
  intro j ds e
  cases j with
  |zero=>cases e;exact ⟨_,_,rfl,h,r,n⟩
  |succ j=>exact b (j:=j) e
theorem xC.upd {a:af}{o:HO} (h:xC K H Hs ls M) (b:a∉ls):xC K (upd H a o) Hs ls M:=by
 induction h with
 |nil=>exact .nil
 |cons h r n t c=>exact .cons (by rw [aC fun z=>b (by rw [<- z];exact au)];exact h) r n (c fun z=>b (aq _ z))
theorem xC.set (h:xC K H Hs ls M) (f:ls.Nodup):∀ {j:Nat}{a:af}{vs:List V}{ds:List D},ls[j]?=some a->RDs K Hs vs ds->xC K (L2.upd H a (.lst vs)) Hs ls (M.set j ds):=by
 induction h with
 |nil=>intro j a vs ds e;cases e
 |cons h r n t d =>
  intro j a vs ds e c
  obtain ⟨b,g⟩:=List.nodup_cons.mp f
  cases j with
  |zero=>cases e;exact .cons aI c n (t.upd b)
  |succ j =>
   have e:_=some a:=e
   refine .cons ?_ r n (d g (j:=j) e c)
   rw [aC fun z=>b (by rw [z];exact bQ e)]
   exact h
end
structure pW (K:aa) (C x:af) (ls:List af) (b:D) (M:List (List D)) (H Hs:Hp):Prop where
 ns:dW K bq "Desk"=some (some (.ref C))
 ex:∃ dx vb l1 l2 l3 r,ls=l1::l2::l3::r/\H x=some (.ins C dx (Ar.zip [vb,.ref l1,.ref l2,.ref l3]))/\RD K Hs vb b
 nx:Hs x=none
 nd:ls.Nodup
 ob:xC K H Hs ls M
def HX (b:D) (M:List (List D)):D:=.dict (dkD (b::(M.take 3).map .list))
section
variable {K:aa}{C x:af}{ls:List af}{b:D}{M:List (List D)}{H Hs H' Hs':Hp}
theorem pW.step (S:pW K C x ls b M H Hs) (s:cn H Hs H' Hs'):pW K C x ls b M H' Hs':=by
 obtain ⟨d,c,g,a,f,r,e,h,i⟩:=S.ex
 exact ⟨S.ns,⟨d,c,g,a,f,r,e,s.all _ _ h,i.same s.sh⟩,s.out _ _ h rfl S.nx,S.nd,S.ob.step s⟩
theorem pW.mst (S:pW K C x ls b M H Hs) (s:cn H Hs H' Hs'):yF ls H Hs H' Hs' :=
 ⟨fun a o e _=>s.all a o e,s.sh,s.sub,fun a h n=>by
  rcases h with h|⟨o,c,h2⟩
  ·obtain ⟨vs,c,_⟩:=S.ob.there h
   exact s.out a _ c rfl n
  ·exact s.out a o c h2 n⟩
theorem pW.xl (S:pW K C x ls b M H Hs):x∉ls:=fun z=>by
 obtain ⟨f,d,i,c,g,r,e,h,j⟩:=S.ex
 obtain ⟨vs,a,_⟩:=S.ob.there z
 rw [h] at a;cases a
theorem pW.set (S:pW K C x ls b M H Hs) {j:Nat}{a:af}{vs:List V}{ds:List D} (e:ls[j]?=some a) (r:RDs K Hs vs ds):pW K C x ls b (M.set j ds) (upd H a (.lst vs)) Hs:=by
 obtain ⟨g,f,m,c,l,i,d,h,k⟩:=S.ex
 exact ⟨S.ns,⟨g,f,m,c,l,i,d,by rw [aC fun z=>S.xl (by rw [z];exact bQ e)];exact h,k⟩,S.nx,S.nd,S.ob.set S.nd e r⟩
theorem pW.mset (S:pW K C x ls b M H Hs) (sub:cK Hs H) {j:Nat}{a:af}{o:HO} (e:ls[j]?=some a):yF ls H Hs (upd H a o) Hs:=by
 have d:=bQ e
 obtain ⟨vs,g,f⟩:=S.ob.there d
 refine ⟨fun c u h n=>?_,.refl _,fun c u h=>?_,fun _ _ n=>n⟩
 ·rw [aC fun z=>n (by rw [z];exact d)];exact h
 ·rw [aC (aK h f)];exact sub c u h
theorem pW.lst (S:pW K C x ls b M H Hs) {j:Nat}{ds:List D} (e:M[j]?=some ds):∃ a,ls[j]?=some a/\RD K (uI zh H Hs) (.ref a) (.list ds):=by
 obtain ⟨a,vs,c,g,d,f⟩:=S.ob.get e
 exact ⟨a,c,.list (.of (pV g f rfl)) (d.same jZ)⟩
theorem pW.desk (S:pW K C x ls b M H Hs):RD K (uI zh H Hs) (.ref x) (HX b M):=by
 obtain ⟨l,n,m,k,q,r,e,h,g⟩:=S.ex
 obtain ⟨j,p,nx,o,a⟩:=S
 subst e
 cases a with
 |cons c b1 i a =>
  cases a with
  |cons a2 b2 f a =>
   cases a with
   |cons a3 b3 d a =>
    exact .desk j (pV h nx rfl) rfl (.cons (g.same jZ) (.cons (.list (.of (pV c i rfl)) (b1.same jZ)) (.cons (.list (.of (pV a2 f rfl)) (b2.same jZ)) (.cons (.list (.of (pV a3 d rfl)) (b3.same jZ)) .nil))))
end
inductive MS where
 |no
 |dat (d:D)
 |dk
 |ml (j:Nat)
abbrev cR:=List MS
def vw1 (b:D) (M:List (List D)):MS->Sl
 |.no=>.no
 |.dat d=>.shr d
 |.dk=>.shr (HX b M)
 |.ml j=>match M[j]? with
  |some ds=>.shr (.list ds)
  |none=>.no
def vw0:MS->Sl
 |.dat d=>.shr d
 |_=>.no
abbrev hJ (b:D) (M:List (List D)) (ρ:cR):aB:=ρ.map (vw1 b M)
abbrev iS (ρ:cR):aB:=ρ.map vw0
structure pX (K:aa) (C x:af) (ls:List af) (b:D) (H0 Hs0:Hp) (ρ:cR) (M:List (List D)) (σ:St) (H Hs:Hp):Prop where
 st:yF ls H0 Hs0 H Hs
 len:ρ.length=σ.length
 so:pW K C x ls b M H Hs
 dt:∀ (i:Nat) (d:D),ρ[i]?=some (MS.dat d)->∃ v,σ[i]?=some (some v)/\RD K Hs v d
 dk:∀ (i:Nat),ρ[i]?=some MS.dk->σ[i]?=some (some (V.ref x))
 ml:∀ (i j:Nat),ρ[i]?=some (MS.ml j)->∃ a,ls[j]?=some a/\σ[i]?=some (some (V.ref a))
theorem QJ {K:aa}{H c:Hp}{ρ:aB}{σ:St} (sub:cK c H) (f:ρ.length=σ.length) (g:∀ s∈ρ,s=.no\/∃ d,s=.shr d) (k:∀ (i:Nat) (d:D),ρ[i]?=some (Sl.shr d)->∃ v,σ[i]?=some (some v)/\RD K c v d):Fr K H c (fun _=>none) ρ σ H c:=by
 have b:∀ {i:Nat}{s:Sl},ρ[i]?=some s->s=.no\/∃ d,s=.shr d:=fun e=>g _ (bQ e)
 refine ⟨.refl sub,f,k,fun i d e=>?_,fun i d e=>?_,fun i j d e a h _ _ _=>?_,fun _ _ h=>(nomatch h),fun i d e=>?_,fun i j d e h _=>?_⟩
 ·rcases b e with z|⟨_,z⟩<;>cases z
 ·rcases b e with z|⟨_,z⟩<;>cases z
 ·rcases b h with z|⟨_,z⟩<;>cases z
 ·rcases b e with z|⟨_,z⟩<;>cases z
 ·rcases b h with z|⟨_,z⟩<;>cases z
section
variable {K:aa}{C x:af}{ls:List af}{b:D}{M M':List (List D)}{H0 Hs0 H Hs H' Hs':Hp}{ρ:cR}{σ:St}
theorem pX.v1 (f:pX K C x ls b H0 Hs0 ρ M σ H Hs):Fr K H (uI zh H Hs) (fun _=>none) (hJ b M ρ) σ H (uI zh H Hs):=by
 refine QJ (QG f.st.sub) (by rw [aw];exact f.len) (fun s hs=>?_) fun i d e=>?_
 ·obtain ⟨m,_,rfl⟩:=List.mem_map.mp hs
  cases m with
  |no=>exact .inl rfl
  |dat d=>exact .inr ⟨d,rfl⟩
  |dk=>exact .inr ⟨_,rfl⟩
  |ml j =>
   unfold vw1
   simp only
   cases M[j]? with
   |none=>exact .inl rfl
   |some ds=>exact .inr ⟨_,rfl⟩
 ·rw [aH] at e
  cases c:ρ[i]? with
  |none=>rw [c] at e;cases e
  |some m =>
   rw [c,cJ] at e
   cases m with
   |no=>cases e
   |dat d' =>
    cases e
    obtain ⟨v,g,k⟩:=f.dt i _ c
    exact ⟨v,g,k.same jZ⟩
   |dk=>cases e;exact ⟨_,f.dk i c,f.so.desk⟩
   |ml j =>
    obtain ⟨a,g,k⟩:=f.ml i j c
    unfold vw1 at e
    simp only at e
    cases h:M[j]? with
    |none=>rw [h] at e;cases e
    |some ds =>
     rw [h] at e
     cases e
     obtain ⟨o,l,n⟩:=f.so.lst h
     rw [g] at l
     cases l
     exact ⟨_,k,n⟩
theorem pX.v0 (f:pX K C x ls b H0 Hs0 ρ M σ H Hs):Fr K H Hs (fun _=>none) (iS ρ) σ H Hs:=by
 refine QJ f.st.sub (by rw [aw];exact f.len) (fun s hs=>?_) fun i d e=>?_
 ·obtain ⟨m,_,rfl⟩:=List.mem_map.mp hs
  cases m<;>first|exact .inl rfl|exact .inr ⟨_,rfl⟩
 ·rw [aH] at e
  cases a:ρ[i]? with
  |none=>rw [a] at e;cases e
  |some m =>
   rw [a,cJ] at e
   cases m with
   |dat d'=>cases e;exact f.dt i _ a
   |no=>cases e
   |dk=>cases e
   |ml j=>cases e
theorem pX.mstep (f:pX K C x ls b H0 Hs0 ρ M σ H Hs) (s:yF ls H Hs H' Hs') (so:pW K C x ls b M' H' Hs'):pX K C x ls b H0 Hs0 ρ M' σ H' Hs' :=
 ⟨f.st.trans s,f.len,so,fun i d e=>by obtain ⟨v,a,c⟩:=f.dt i d e;exact ⟨v,a,c.same s.sh⟩,f.dk,f.ml⟩
theorem pX.step (f:pX K C x ls b H0 Hs0 ρ M σ H Hs) (s:cn H Hs H' Hs'):pX K C x ls b H0 Hs0 ρ M σ H' Hs':=f.mstep (f.so.mst s) (f.so.step s)
theorem pX.set (f:pX K C x ls b H0 Hs0 ρ M σ H Hs) (i:Nat) {v:V}{d:D} (r:RD K Hs v d):pX K C x ls b H0 Hs0 (ρ.set i (.dat d)) M (σ.set i (some v)) H Hs:=by
 have nx:∀ {k:Nat}{s:MS},(∀ d,s≠.dat d)->(ρ.set i (.dat d))[k]?=some s->ρ[k]?=some s/\i≠k:=fun {k s} hs e=>by
  by_cases a:i=k
  ·subst a
   by_cases c:i<ρ.length
   ·rw [aJ c] at e;exact absurd (bO e).symm (hs _)
   ·rw [bS (by simpa using c)] at e;cases e
  ·rw [am a] at e;exact ⟨e,a⟩
 refine ⟨f.st,by rw [sw,sw];exact f.len,f.so,fun k d' e=>?_,fun k e=>?_,fun k j e=>?_⟩
 ·by_cases a:i=k
  ·subst a
   by_cases c:i<ρ.length
   ·rw [aJ c] at e
    cases e
    exact ⟨v,aJ (by rw [<- f.len];exact c),r⟩
   ·rw [bS (by simpa using c)] at e;cases e
  ·rw [am a] at e ⊢
   exact f.dt k d' e
 ·obtain ⟨e,a⟩:=nx (fun _ z=>by cases z) e
  rw [am a];exact f.dk k e
 ·obtain ⟨e,a⟩:=nx (fun _ z=>by cases z) e
  rw [am a];exact f.ml k j e
end
abbrev Mu:=List (List D)
inductive RM (α:Type) where
 |ok (a:α) (M:Mu)
 |ex (c:Str) (M:Mu)
 |no
def RM.bind {α b:Type}:RM α->(α->Mu->RM b)->RM b
 |.ok a M,f=>f a M
 |.ex c M,_=>.ex c M
 |.no,_=>.no
def pY {α:Type} (K:aa) (cls:Str->af) (C:af) (E:XK) (x:af) (e:List af) (b:D) (H f:Hp) (r:RM α) (q:α->Mu->Prop):Prop:=match r with
 |.ok a M=>q a M
 |.ex c M=>∀ H' d,yF e H f H' d->pW K C x e b M H' d->E (.ref (cls c)) none H'
 |.no=>False
inductive TMI (K:aa) (cls:Str->af) (C:af) (E:XK) (ρ:cR) (b:D) (M:Mu) (r:RM D) (σ:St) (H:Hp) (Q:VK):Prop
 |mk (x:af) (ls:List af) (H0 Hs0 Hs:Hp) (f:pX K C x ls b H0 Hs0 ρ M σ H Hs) (q:pY K cls C E x ls b H Hs r fun d M'=>∀ v H' Hs',yF ls H Hs H' Hs'->pW K C x ls b M' H' Hs'->RD K Hs' v d->Q v H'):TMI K cls C E ρ b M r σ H Q
def TM (K:aa) (cls:Str->af) (C:af) (E:XK) (ρ:cR) (b:D) (M:Mu) (r:RM D):TE:=TMI K cls C E ρ b M r
inductive ZA (K:aa) (cls:Str->af) (C:af) (E:XK) (ρ:cR) (b:D) (M:Mu) (r:RM Bool) (σ:St) (H:Hp) (Q:Bool->Hp->Prop):Prop
 |mk (x:af) (ls:List af) (H0 Hs0 Hs:Hp) (f:pX K C x ls b H0 Hs0 ρ M σ H Hs) (q:pY K cls C E x ls b H Hs r fun d M'=>∀ H' Hs',yF ls H Hs H' Hs'->pW K C x ls b M' H' Hs'->Q d H'):ZA K cls C E ρ b M r σ H Q
def TMT (K:aa) (cls:Str->af) (C:af) (E:XK) (ρ:cR) (b:D) (M:Mu) (r:RM Bool):TT:=ZA K cls C E ρ b M r
structure D8 (c:C) (C:af) (e:bc) (G:cR->D->Mu->RM D):Prop where of ::
 run:∀ ρ b M,PE c.X e (TM c.X.K c.cls C c.E ρ b M (G ρ b M))
inductive ZB (K:aa) (C:af) (loc:cR->Option Nat) (ρ:cR) (b:D) (M:Mu) (σ:St) (H:Hp) (Q:VK):Prop
 |mk (x:af) (ls:List af) (H0 Hs0 Hs:Hp) (f:pX K C x ls b H0 Hs0 ρ M σ H Hs) (j:Nat) (hl:loc ρ=some j) (q:∀ a,ls[j]?=some a->Q (.ref a) H):ZB K C loc ρ b M σ H Q
structure ZC (c:C) (C:af) (o:bc) (loc:cR->Option Nat):Prop where of ::
 run:∀ ρ b M,PE c.X o (ZB c.X.K C loc ρ b M)
structure XY (c:C) (C:af) (e:bc) (G:cR->D->Mu->RM Bool):Prop where of ::
 run:∀ ρ b M,PT c.X e (TMT c.X.K c.cls C c.E ρ b M (G ρ b M))
section
variable {K:aa}{cls:Str->af}{C x:af}{E:XK}{ls:List af}{b:D}{H0 Hs0 H Hs H' Hs':Hp}{ρ:cR}{M:Mu}{σ:St}{α β:Type}
theorem pY.on {r:RM α}{q q':α->Mu->Prop} (h:pY K cls C E x ls b H Hs r q) (s:yF ls H Hs H' Hs') (m:∀ a M,q a M->q' a M):pY K cls C E x ls b H' Hs' r q':=by
 cases r with
 |ok a M=>exact m a M h
 |ex c M=>exact fun e d f so=>h e d (s.trans f) so
 |no=>exact h
theorem N1 {r:RM D}{k:D->Mu->RM β}{Q:VK}{q:β->Mu->Prop} (f:pX K C x ls b H0 Hs0 ρ M σ H Hs) (h:pY K cls C E x ls b H Hs (r.bind k) q)
  (m:∀ d M1 v H' Hs',r=.ok d M1->yF ls H Hs H' Hs'->pX K C x ls b H0 Hs0 ρ M1 σ H' Hs'->RD K Hs' v d->Q v H'):TM K cls C E ρ b M r σ H Q:=by
 refine ⟨x,ls,H0,Hs0,Hs,f,?_⟩
 cases r with
 |ok d M1=>exact fun v H' Hs' s so r=>m d M1 v H' Hs' rfl s (f.mstep s so) r
 |ex c M1=>exact h
 |no=>exact h
theorem ZD {r:RM Bool}{k:Bool->Mu->RM β}{Q:Bool->Hp->Prop}{q:β->Mu->Prop} (f:pX K C x ls b H0 Hs0 ρ M σ H Hs) (h:pY K cls C E x ls b H Hs (r.bind k) q)
  (m:∀ d M1 H' Hs',r=.ok d M1->yF ls H Hs H' Hs'->pX K C x ls b H0 Hs0 ρ M1 σ H' Hs'->Q d H'):TMT K cls C E ρ b M r σ H Q:=by
 refine ⟨x,ls,H0,Hs0,Hs,f,?_⟩
 cases r with
 |ok d M1=>exact fun H' Hs' s so=>m d M1 H' Hs' rfl s (f.mstep s so)
 |ex c M1=>exact h
 |no=>exact h
end
def toM (M:Mu):R D->RM D
 |.ok d=>if xB d then .ok d M else .no
 |.ex c none=>.ex c M
 |_=>.no
def gP (g:aB->R D):cR->D->Mu->RM D:=fun ρ b M=>toM M (g (hJ b M ρ))
def Xg (M:Mu):R Bool->RM Bool
 |.ok d=>.ok d M
 |.ex c none=>.ex c M
 |_=>.no
def zF (g:aB->R Bool):cR->D->Mu->RM Bool:=fun ρ b M=>Xg M (g (hJ b M ρ))
section
variable {c:C}{C:af}{e o a:bc}{g:aB->R D}{gt:aB->R Bool}{G Ga:cR->D->Mu->RM D}{Gt:cR->D->Mu->RM Bool}{pos apos cpos p:Pos}
theorem gH (h:JE c e g):D8 c C e (gP g):=.of fun ρ b M=>ni (h (hJ b M ρ)) fun σ H Q l=>by
 obtain ⟨x,w,u,m,t,f,q⟩:=l
 refine ⟨_,_,_,_,f.v1,?_⟩
 unfold gP toM at q
 cases j:g (hJ b M ρ) with
 |no=>rw [j] at q;exact q
 |ex y n =>
  rw [j] at q
  cases n with
  |some _=>exact q.elim
  |none =>
   intro H' k s
   have i:=l9 f.st.sub s
   exact q H' _ (f.so.mst i) (f.so.step i)
 |ok d =>
  rw [j] at q
  simp only at q
  by_cases ho:xB d=true
  ·rw [if_pos ho] at q
   intro v H' k s r
   have i:=l9 f.st.sub s
   exact q v H' _ (f.so.mst i) (f.so.step i) (Ew.rd s ho r)
  ·rw [if_neg ho] at q;exact q.elim
theorem jb (h:JT c e gt):XY c C e (zF gt):=.of fun ρ b M=>Tg (h (hJ b M ρ)) fun σ H Q l=>by
 obtain ⟨x,v,u,m,t,f,q⟩:=l
 refine ⟨_,_,_,_,f.v1,?_⟩
 unfold zF Xg at q
 cases j:gt (hJ b M ρ) with
 |no=>rw [j] at q;exact q
 |ex y n =>
  rw [j] at q
  cases n with
  |some _=>exact q.elim
  |none =>
   intro H' k s
   have i:=l9 f.st.sub s
   exact q H' _ (f.so.mst i) (f.so.step i)
 |ok d =>
  rw [j] at q
  intro H' k s
  have i:=l9 f.st.sub s
  exact q H' _ (f.so.mst i) (f.so.step i)
def pZ (i:Nat):cR->Option Nat:=fun ρ=>match ρ[i]? with
 |some (.ml j)=>some j
 |_=>none
def Ex (i j:Nat):cR->Option Nat:=fun ρ=>match ρ[i]? with
 |some .dk=>some j
 |_=>none
theorem kE {x:Str} (i:Nat) (k:c.X.N[i]?=some x:=by rfl) (u:BH c.X.env.scope x:=by first|exact c8 rfl|exact bC (c8 rfl)|exact bC (bC rfl)) (s:(x==("__debug__" : Str))=false:=by decide)
  (h:(x==("__classdict__" : Str))=false:=by decide):ZC c C (.Name x pos) (pZ i):=.of fun ρ b M=>ni (hV k u s h) fun σ H Q n=>by
 obtain ⟨x,z,y,v,w,f,j,d,q⟩:=n
 unfold pZ at d
 split at d
 ·rename_i A m
  cases d
  obtain ⟨a,l,t⟩:=f.ml i _ m
  exact ⟨_,t,q a l⟩
 ·cases d
theorem qN {x f:Str} (i j:Nat) (T:DkC c.X.K C) (d:Ar[j+1]?=some f:=by rfl) (y:c.X.N[i]?=some x:=by rfl) (E:BH c.X.env.scope x:=by first|exact c8 rfl|exact bC (c8 rfl)|exact bC (bC rfl)) (B:(x==("__debug__" : Str))=false:=by decide)
  (m:(x==("__classdict__" : Str))=false:=by decide) (z:dB (.Name x p) f c.X.env (bG (.Name x p) c.X.env)=bG (.Name x p) c.X.env:=by rfl):ZC c C (.Attribute (.Name x p) f pos) (Ex i j):=.of fun ρ b M=>ni (IR (hV y E B m) z) fun σ H Q A=>by
 obtain ⟨x,S,P,I,L,l,U,k,q⟩:=A
 unfold Ex at k
 split at k
 ·rename_i s
  cases k
  obtain ⟨t,O,w,u,v,r,e,h,Y⟩:=l.so.ex
  subst e
  match j,d with
  | 0,d=>exact ⟨_,l.dk i s,x,C,t,_,.ref w,rfl,h,T.cl,T.na d,wS rfl d rfl,q w rfl⟩
  | 1,d=>exact ⟨_,l.dk i s,x,C,t,_,.ref u,rfl,h,T.cl,T.na d,wS rfl d rfl,q u rfl⟩
  | 2,d=>exact ⟨_,l.dk i s,x,C,t,_,.ref v,rfl,h,T.cl,T.na d,wS rfl d rfl,q v rfl⟩
  |n+3,d=>simp [Ar] at d
 ·cases k
def U3 (j:Nat) (d:D) (M1:Mu):RM D:=match M1[j]? with
 |some ds=>if ds.length<1000 then .ok .none (M1.set j (ds++[d])) else .no
 |none=>.no
def kF (d:cR->Option Nat) (G:cR->D->Mu->RM D):cR->D->Mu->RM D:=fun ρ b M=>match d ρ with
 |some j=>(G ρ b M).bind (U3 j)
 |none=>.no
theorem om {l:cR->Option Nat} (ho:ZC c C o l) (h:D8 c C e G)
  (m:dB o "append" c.X.env (bG o c.X.env)=bG o c.X.env:=by rfl)
  (s:((cC cpos (ao [e] c.X.env)).all (fun x=>!x.1)&&(ii cpos (ef [] c.X.env)).all (fun x=>x.1.isSome)
   && decide ([e].length+([] : List kh).length+(if ([] : List kh).isEmpty then 0 else 1)<30))=true:=by rfl)
  (k:(apos.endLine==cpos.line)=true:=by rfl) (n:ao [e] c.X.env=(false,bG e c.X.env)::ao [] c.X.env:=by rfl) (i:(cC cpos (ao [] c.X.env)).any (·.1)=false:=by rfl) :
  D8 c C (.Call (.Attribute o "append" apos) [e] [] cpos) (kF l G):=.of fun ρ b M=>by
 refine ni (yA cj jD jE tS (ho.run ρ b M) (bv (h.run ρ b M) cQ n) m s k n i) fun σ H Q Y=>?_
 obtain ⟨x,O,S,A,I,f,q⟩:=Y
 unfold kF at q
 cases y:l ρ with
 |none=>rw [y] at q;exact q.elim
 |some j =>
  rw [y] at q
  refine ⟨x,O,S,A,I,f,j,y,fun a t=>?_⟩
  obtain ⟨a0,h0,_⟩:=f.so.ob.there (bQ t)
  refine ⟨.inl ⟨rfl,_,.of h0⟩,?_⟩
  refine N1 f q fun d M1 v H1 T U P u r1=>?_
  rw [U] at q
  replace q:pY c.X.K c.cls C c.E x O b H I (U3 j d M1) _:=q
  unfold U3 at q
  cases z:M1[j]? with
  |none=>rw [z] at q;exact q.elim
  |some ds =>
   rw [z] at q
   simp only at q
   by_cases L:ds.length<1000
   ·rw [if_pos L] at q
    obtain ⟨a',vs,B,h2,N,h4⟩:=u.so.ob.get z
    rw [t] at B
    cases B
    have w:=u.so.set t (N.append (.cons r1 .nil))
    exact ⟨a,vs,v,rfl,rfl,h2,bZ (by rw [N.length];omega),q _ _ _ (P.trans (u.so.mset u.st.sub t)) w .none⟩
   ·rw [if_neg L] at q;exact q.elim
def U4 (j:Nat) (M:Mu):RM D:=match M[j]? with
 |some ds=>match ds[ds.length-1]? with
  |some d=>.ok d (M.set j ds.dropLast)
  |none=>.no
 |none=>.no
def p_ (b:cR->Option Nat):cR->D->Mu->RM D:=fun ρ _ M=>match b ρ with
 |some j=>U4 j M
 |none=>.no
theorem RDs.dropLast {K:aa}{H:Hp}{vs:List V}{ds:List D} (h:RDs K H vs ds):RDs K H vs.dropLast ds.dropLast:=by
 rw [ID,ID,h.length];exact h.take _
theorem uc {i:cR->Option Nat} (ho:ZC c C o i) (k:dB o "pop" c.X.env (bG o c.X.env)=bG o c.X.env:=by rfl) (h:(apos.endLine==cpos.line)=true:=by rfl) :
  D8 c C (.Call (.Attribute o "pop" apos) [] [] cpos) (p_ i):=.of fun ρ b M=>by
 refine ni (OJ cj PySem.F.slot_list_pop PySem.F.type_list_pop WF (ho.run ρ b M) k h) fun σ H Q B=>?_
 obtain ⟨x,z,A,u,y,f,q⟩:=B
 unfold p_ at q
 cases m:i ρ with
 |none=>rw [m] at q;exact q.elim
 |some j =>
  rw [m] at q
  refine ⟨x,z,A,u,y,f,j,m,fun a l=>?_⟩
  obtain ⟨O,P,_⟩:=f.so.ob.there (bQ l)
  refine ⟨.inl ⟨rfl,_,.of P⟩,?_⟩
  replace q:pY c.X.K c.cls C c.E x z b H y (U4 j M) _:=q
  unfold U4 at q
  cases s:M[j]? with
  |none=>rw [s] at q;exact q.elim
  |some ds =>
   rw [s] at q
   simp only at q
   cases t:ds[ds.length-1]? with
   |none=>rw [t] at q;exact q.elim
   |some d =>
    rw [t] at q
    obtain ⟨T,vs,w,L,n,S⟩:=f.so.ob.get s
    rw [l] at w
    cases w
    obtain ⟨v,N,I⟩:=n.get' t
    exact ⟨a,vs,v,rfl,rfl,L,by rw [n.length];exact N,q _ _ _ (f.so.mset f.st.sub l) (f.so.set l n.dropLast) I⟩
def U5 (j:Nat) (M:Mu):RM D:=match M[j]? with
 |some _=>.ok .none (M.set j [])
 |none=>.no
def AL (b:cR->Option Nat):cR->D->Mu->RM D:=fun ρ _ M=>match b ρ with
 |some j=>U5 j M
 |none=>.no
theorem Lu {i:cR->Option Nat} (ho:ZC c C o i) (h:dB o "clear" c.X.env (bG o c.X.env)=bG o c.X.env:=by rfl) (d:(apos.endLine==cpos.line)=true:=by rfl) :
  D8 c C (.Call (.Attribute o "clear" apos) [] [] cpos) (AL i):=.of fun ρ b M=>by
 refine ni (OJ cj PySem.F.slot_list_clear PySem.F.type_list_clear OL (ho.run ρ b M) h d) fun σ H Q v=>?_
 obtain ⟨x,u,w,m,s,f,q⟩:=v
 unfold AL at q
 cases k:i ρ with
 |none=>rw [k] at q;exact q.elim
 |some j =>
  rw [k] at q
  refine ⟨x,u,w,m,s,f,j,k,fun a l=>?_⟩
  obtain ⟨y,t,_⟩:=f.so.ob.there (bQ l)
  refine ⟨.inl ⟨rfl,_,.of t⟩,?_⟩
  replace q:pY c.X.K c.cls C c.E x u b H s (U5 j M) _:=q
  unfold U5 at q
  cases n:M[j]? with
  |none=>rw [n] at q;exact q.elim
  |some ds =>
   rw [n] at q
   exact ⟨a,_,rfl,rfl,t,q _ _ _ (f.so.mset f.st.sub l) (f.so.set l .nil) .none⟩
end
section
variable {K:aa}{C x:af}{ls:List af}{b:D}{M M3:Mu}{H Hs H' Hs':Hp}
theorem xC.split {c bs:List af}:∀ {M:Mu},xC K H Hs (c++bs) M->xC K H Hs c (M.take c.length)/\xC K H Hs bs (M.drop c.length):=by
 induction c with
 |nil=>intro M h;exact ⟨.nil,h⟩
 |cons a c d =>
  intro M h
  cases h with
  |cons e g f t=>obtain ⟨k1,k2⟩:=d t;exact ⟨.cons e g f k1,k2⟩
theorem xC.join {a bs:List af}{M N:Mu} (h:xC K H Hs a M) (h':xC K H Hs bs N):xC K H Hs (a++bs) (M++N):=by
 induction h with
 |nil=>exact h'
 |cons c f e t d=>exact .cons c f e d
theorem xC.keep {c:List af} (s:yF ls H Hs H' Hs') (n:∀ a∈c,a∉ls) (h:xC K H Hs c M):xC K H' Hs' c M:=by
 induction h with
 |nil=>exact .nil
 |cons d i f t e=>exact .cons (s.all _ _ d (n _ au)) (i.same s.sh) (s.out _ (.inr ⟨_,d,rfl⟩) f) (e fun a g=>n a (aq _ g))
inductive ZE (K:aa) (C x:af) (ls:List af) (b:D) (M:Mu) (H Hs:Hp):Prop
 |mk (l3:List af) (h3:l3.length=3) (so:pW K C x l3 b (M.take 3) H Hs) (up:∀ {M3 H' Hs'},yF l3 H Hs H' Hs'->pW K C x l3 b M3 H' Hs'->yF ls H Hs H' Hs'/\pW K C x ls b (M3++M.drop 3) H' Hs'):ZE K C x ls b M H Hs
theorem pW.top3 (S:pW K C x ls b M H Hs):ZE K C x ls b M H Hs:=by
 obtain ⟨w,q,f,c,d,r,e,h,A⟩:=S.ex
 obtain ⟨m,L,nx,i,l⟩:=S
 subst e
 have E:f::c::d::r=[f,c,d]++r:=rfl
 rw [E] at i l
 obtain ⟨k1,k2⟩:=l.split
 obtain ⟨u,G,B⟩:=List.nodup_append.mp i
 refine ⟨[f,c,d],rfl,⟨m,⟨w,q,f,c,d,[],rfl,h,A⟩,nx,u,k1⟩,fun {M3 H' Hs'} s so=>?_⟩
 have y:∀ a∈r,a∉[f,c,d]:=fun a t z=>B a z a t rfl
 refine ⟨⟨fun a o e n=>s.all a o e fun z=>n (my r z),s.sh,s.sub,fun a h n=>?_⟩,?_⟩
 ·rcases h with h|h
  ·rcases List.mem_append.mp (show a∈[f,c,d]++r from h) with z|z
   ·exact s.out a (.inl z) n
   ·obtain ⟨vs,p,_⟩:=k2.there z
    exact s.out a (.inr ⟨_,p,rfl⟩) n
  ·exact s.out a (.inr h) n
 ·obtain ⟨g,j,m1,m2,m3,I,v,h',k⟩:=so.ex
  cases v
  exact ⟨m,⟨g,j,f,c,d,r,rfl,h',k⟩,so.nx,i,so.ob.join (k2.keep s y)⟩
end
inductive ZF (K:aa) (cls:Str->af) (C:af) (n:Nat) (F:D->Mu->List D->RM D) (vs:List V) (H:Hp) (Q:VK) (E:XK):Prop
 |mk (Hs:Hp) (x:af) (ls:List af) (b:D) (M:Mu) (ws:List V) (ds:List D) (h0:vs=.ref x::ws) (sub:cK Hs H) (so:pW K C x ls b M H Hs) (h3:ls.length=3) (hn:ds.length=n) (r:RDs K Hs ws ds)
  (q:pY K cls C E x ls b H Hs (F b M ds) fun d M'=>∀ v H' Hs',yF ls H Hs H' Hs'->pW K C x ls b M' H' Hs'->RD K Hs' v d->Q v H'):ZF K cls C n F vs H Q E
def ZG (K:aa) (cls:Str->af) (C:af) (n:Nat) (F:D->Mu->List D->RM D):Sp:=ZF K cls C n F
structure FnS (P:aV) (w:bi) (K:aa) (mg:Str->Option ae) (base:bA) (cls:Str->af) (C:af) (m:Str) (k n:Nat) (F:D->Mu->List D->RM D):Prop where
 ex:∃ f fd ps,l8 P w K mg base (jN P w) k f fd ps (ZG K cls C n F)/\FF K C m f/\eQ K fd ps []
structure FnG (P:aV) (w:bi) (K:aa) (mg:Str->Option ae) (base:bA) (cls:Str->af) (C:af) (x:Str) (k n:Nat) (F:D->Mu->List D->RM D):Prop where
 ex:∃ f fd ps,l8 P w K mg base (jN P w) k f fd ps (ZG K cls C n F)/\mg x=some (.ref f)/\bV K (.ref f)=true/\eQ K fd ps []
abbrev FS (e:En):=FnS e.P e.w e.K e.mg e.base e.cls
abbrev FG (e:En):=FnG e.P e.w e.K e.mg e.base e.cls
def rK (F:D->Mu->List D->RM D) (b:D) (M:Mu) (ds:List D):RM D:=match F b (M.take 3) ds with
 |.ok d a=>.ok d (a++M.drop 3)
 |.ex c a=>.ex c (a++M.drop 3)
 |.no=>.no
theorem AM {K:aa}{cls:Str->af}{C x:af}{h:List af}{b:D}{M:Mu}{H f:Hp}{n:Nat}{F:D->Mu->List D->RM D}{i:List V}{ds:List D}{Q:VK}{E:XK} (sub:cK f H) (S:pW K C x h b M H f) (k:ds.length=n) (r:RDs K f i ds)
  (q:pY K cls C E x h b H f (rK F b M ds) fun d M'=>∀ v H' a,yF h H f H' a->pW K C x h b M' H' a->RD K a v d->Q v H'):ZG K cls C n F (.ref x::i) H Q E:=by
 obtain ⟨p,m,so,g⟩:=S.top3
 refine ⟨f,x,p,b,M.take 3,i,ds,rfl,sub,so,m,k,r,?_⟩
 unfold rK at q
 cases j:F b (M.take 3) ds with
 |no=>rw [j] at q;exact q
 |ok d o=>rw [j] at q;exact fun v H' a s e l=>q v H' a (g s e).1 (g s e).2 l
 |ex c o=>rw [j] at q;exact fun H' a s e=>q H' a (g s e).1 (g s e).2
section
variable {c:C}{C:af}{e o a:bc}{es:List bc}{g gb:aB->R D}{gs:aB->R (List D)}{gt:aB->R Bool}{G Ga Gb:cR->D->Mu->RM D}{Gt:cR->D->Mu->RM Bool}{pos apos cpos p p2:Pos}{m x y:Str}{k n j:Nat}{F:D->Mu->List D->RM D}
def Xh (i:Nat) (F:D->Mu->List D->RM D) (Ga:cR->D->Mu->RM D):cR->D->Mu->RM D:=fun ρ b M=>match ρ[i]? with
 |some .dk=>(Ga ρ b M).bind fun d M1=>rK F b M1 [d]
 |_=>.no
theorem Jw {pl:Sem Bool} (i:Nat) (T:DkC c.X.K C) (G:FnS c.X.prog c.X.w c.X.K c.X.mg c.X.base c.cls C m k 1 F) (U:fJ j c.X.A) (hx:gy (jN c.X.prog c.X.w) c.X c.E) (S:D8 c C e Ga)
  (hk:k<=j:=by decide) (hm:Ar.contains m=false:=by decide +kernel) (O:c.X.N[i]?=some x:=by rfl) (hv:BH c.X.env.scope x:=by first|exact c8 rfl|exact bC (c8 rfl)|exact bC (bC rfl)) (hd:(x==("__debug__" : Str))=false:=by decide)
  (l:(x==("__classdict__" : Str))=false:=by decide) (h:ao [e] c.X.env=(false,bG e c.X.env)::ao [] c.X.env:=by rfl) (u:(cC pos (ao [] c.X.env)).any (·.1)=false:=by rfl)
  (P:bG (.Call (.Attribute (.Name x p) m apos) [e] [] pos) c.X.env=(do
   let L <- bG (.Name x p) c.X.env
   j3 apos.atName
   let (f,first) <- kg [L] (lv L m pl)
   qw pos f first (cC pos (ao [e] c.X.env)) (ii pos (ef [] c.X.env))):=by rfl) :
  D8 c C (.Call (.Attribute (.Name x p) m apos) [e] [] pos) (Xh i F Ga):=.of fun ρ b M=>by
 obtain ⟨f,fd,ps,Y,hM,hb⟩:=G.ex
 refine ni (KA (E:=c.E) (hV O hv hd l) T.cl hM Y (U.mono hk) hb .nil hx (bv (S.run ρ b M) cQ h) h u P) fun σ H Q hh=>?_
 obtain ⟨x0,ls,H0,a1,Hs,z,q⟩:=hh
 unfold Xh at q
 split at q
 ·rename_i hi
  obtain ⟨dx,vb,l1,l2,l3,r,e',h',rb⟩:=z.so.ex
  refine ⟨_,z.dk i hi,x0,dx,_,rfl,h',le hm,?_⟩
  refine N1 z q fun d M1 v H1 a0 e1 B I r1=>?_
  rw [e1] at q
  exact AM I.st.sub I.so rfl (.cons r1 .nil) (pY.on q B fun d M' k v H' t s so r=>k v H' t (B.trans s) so r)
 ·exact q.elim
def XZ (i:Nat) (F:D->Mu->List D->RM D):cR->D->Mu->RM D:=fun ρ b M=>match ρ[i]? with
 |some .dk=>rK F b M []
 |_=>.no
theorem QK {pl:Sem Bool} (i:Nat) (T:DkC c.X.K C) (G:FnS c.X.prog c.X.w c.X.K c.X.mg c.X.base c.cls C m k 0 F) (u:fJ j c.X.A) (hx:gy (jN c.X.prog c.X.w) c.X c.E)
  (Y:k<=j:=by decide) (L:Ar.contains m=false:=by decide +kernel) (s:c.X.N[i]?=some x:=by rfl) (hv:BH c.X.env.scope x:=by first|exact c8 rfl|exact bC (c8 rfl)|exact bC (bC rfl)) (U:(x==("__debug__" : Str))=false:=by decide)
  (h:(x==("__classdict__" : Str))=false:=by decide)
  (t:bG (.Call (.Attribute (.Name x p) m apos) [] [] pos) c.X.env=(do
   let l <- bG (.Name x p) c.X.env
   j3 apos.atName
   let (f,first) <- kg [l] (lv l m pl)
   qw pos f first (cC pos (ao [] c.X.env)) (ii pos (ef [] c.X.env))):=by rfl) :
  D8 c C (.Call (.Attribute (.Name x p) m apos) [] [] pos) (XZ i F):=.of fun ρ b M=>by
 obtain ⟨f,fd,ps,v,P,B⟩:=G.ex
 refine ni (Aa (E:=c.E) (hV s hv U h) T.cl P v (u.mono Y) B .nil hx t) fun σ H Q S=>?_
 obtain ⟨I,ls,H0,a0,Hs,d,q⟩:=S
 unfold XZ at q
 split at q
 ·rename_i z
  obtain ⟨O,vb,l1,l2,l3,r,e',h',rb⟩:=d.so.ex
  exact ⟨_,d.dk i z,I,O,_,rfl,h',le L,AM d.st.sub d.so rfl .nil q⟩
 ·exact q.elim
def RY (i n:Nat) (F:D->Mu->List D->RM D) (gs:aB->R (List D)):cR->D->Mu->RM D:=fun ρ b M=>match ρ[i]? with
 |some .dk=>match gs (iS ρ) with
  |.ok ds=>if ds.length=n then rK F b M ds else .no
  |_=>.no
 |_=>.no
theorem Jx (i:Nat) (G:FnG c.X.prog c.X.w c.X.K c.X.mg c.X.base c.cls C y k n F) (U:fJ j c.X.A) (hx:gy (jN c.X.prog c.X.w) c.X c.E) (T:HV c es gs)
  (hk:k<=j:=by decide) (hg:Gl c.X y:=by exact rfl) (S:c.X.N[i]?=some x:=by rfl) (hv:BH c.X.env.scope x:=by first|exact c8 rfl|exact bC (c8 rfl)|exact bC (bC rfl)) (hd:(x==("__debug__" : Str))=false:=by decide)
  (t:(x==("__classdict__" : Str))=false:=by decide) (u:(y==("__debug__" : Str))=false:=by decide) (he:ao (.Name x p2::es) c.X.env=(false,bG (.Name x p2) c.X.env)::ao es c.X.env:=by rfl) (L:(cC pos (ao es c.X.env)).any (·.1)=false:=by rfl) :
  D8 c C (.Call (.Name y p) (.Name x p2::es) [] pos) (RY i n F gs):=.of fun ρ b M=>by
 obtain ⟨f,fd,ps,Y,hm,I,hb⟩:=G.ex
 refine ni (DQ (E:=c.E) Y (U.mono hk) hg hm I hb .nil hx (bv (hV S hv hd t) (T (iS ρ)) he) u he L) fun σ H Q hh=>?_
 obtain ⟨x0,ls,H0,a1,Hs,l,q⟩:=hh
 unfold RY at q
 split at q
 ·rename_i hi
  refine ⟨_,l.dk i hi,?_⟩
  cases h:gs (iS ρ) with
  |no=>rw [h] at q;exact q.elim
  |ex y m=>rw [h] at q;exact q.elim
  |ok ds =>
   rw [h] at q
   simp only at q
   refine ⟨_,_,_,_,l.v0,fun vs H1 a0 O r1=>?_⟩
   by_cases B:ds.length=n
   ·rw [if_pos B] at q
    show ZG _ _ _ _ _ (V.ref x0::vs++[]) _ _ _
    rw [cb]
    have P:=l.step O
    have m1:=l.so.mst O
    exact AM P.st.sub P.so B r1 (pY.on q m1 fun d M' k v H' z s so r=>k v H' z (m1.trans s) so r)
   ·rw [if_neg B] at q;exact q.elim
 ·exact q.elim
def U6 (gb:aB->R D) (h:D->D->R D) (ρ:cR) (b x:D) (M1:Mu):RM D:=match gb (hJ b M1 ρ) with
 |.ok y=>match h x y with
  |.ok d=>if xB d then .ok d M1 else .no
  |_=>.no
 |_=>.no
def rL (Ga:cR->D->Mu->RM D) (gb:aB->R D) (h:D->D->R D):cR->D->Mu->RM D:=fun ρ b M=>(Ga ρ b M).bind (U6 gb h ρ b)
theorem Lv {K:aa}{cls:Str->af}{E:XK}{h:D->D->R D}{ρ:cR}{b:D}{M:Mu}{σ:St}{H:Hp}{Q:VK} (q:TM K cls C E ρ b M (rL Ga gb h ρ b M) σ H Q):XS (rD K h) (TM K cls C E ρ b M (Ga ρ b M)) (fun σ H Q=>∃ M1,TB K cls E (hJ b M1 ρ) (gb (hJ b M1 ρ)) σ H Q) σ H Q:=by
 obtain ⟨S,O,H0,a0,N,Y,q⟩:=q
 refine N1 Y q fun d M1 v H1 P U I f X=>?_
 unfold rL at q
 rw [U] at q
 replace q:pY K cls C E S O b H N (U6 gb h ρ b d M1) _:=q
 unfold U6 at q
 refine ⟨M1,_,_,_,_,f.v1,?_⟩
 cases t:gb (hJ b M1 ρ) with
 |no=>rw [t] at q;exact q
 |ex y n=>rw [t] at q;exact q.elim
 |ok y =>
  rw [t] at q
  simp only at q
  intro u H2 s l r2
  cases i:h d y with
  |no=>rw [i] at q;exact q.elim
  |ex y n=>rw [i] at q;exact q.elim
  |ok z =>
   rw [i] at q
   simp only at q
   by_cases ho:xB z=true
   ·rw [if_pos ho] at q
    refine ⟨s,d,y,l.sub,.inl ((X.same jZ).same l.sh),r2,z,i,fun w T L A r3=>?_⟩
    have B:=l9 f.st.sub (l.trans A)
    exact q w T _ (I.trans (f.so.mst B)) (f.so.step B) (Ew.rd (l.trans A) ho r3)
   ·rw [if_neg ho] at q;exact q.elim
theorem QL {X:Cx}{α:Type}{e:bc}{t:α->TE} (h:∀ a,PE X e (t a)):PE X e (fun σ H Q=>∃ a,t a σ H Q):=fun b s σ H Q I d=>by
 obtain ⟨a,q⟩:=d
 exact h a b s σ H Q I q
theorem Lw {d:Ff}{h:D->D->R D} (ho:x_ c.X (bK d) h) (i:D8 c C a Ga) (l:JB c e gb) (f:fD d e=false:=by first|exact zZ _|rfl):D8 c C (.Compare a [d] [e] pos) (rL Ga gb h):=.of fun ρ b M =>
 ni (Kx ho.1 (i.run ρ b M) (QL fun M1=>l (hJ b M1 ρ)) f) fun σ H Q q=>Lv q
def RZ (G:cR->D->Mu->RM D):cR->D->Mu->RM Bool:=fun ρ b M=>(G ρ b M).bind fun d M1=>match d with
 |.bool k=>.ok k M1
 |_=>.no
theorem ZH {K:aa}{cls:Str->af}{E:XK}{ρ:cR}{b:D}{M:Mu}{σ:St}{H:Hp}{Q:Bool->Hp->Prop} (q:TMT K cls C E ρ b M (RZ G ρ b M) σ H Q):TM K cls C E ρ b M (G ρ b M) σ H fun x H'=>∃ k,x=.bl k/\Q k H':=by
 obtain ⟨I,B,A,w,z,u,q⟩:=q
 refine N1 u q fun d M1 v i f s h l t=>?_
 unfold RZ at q
 rw [s] at q
 cases t with
 |bool k=>exact ⟨k,rfl,q i f h l.so⟩
 |_=>exact q.elim
theorem U7 {d:Ff}{h:D->D->R D} (ho:x_ c.X (bK d) h) (i:D8 c C a Ga) (l:JB c e gb) (f:fD d e=false:=by first|exact zZ _|rfl):XY c C (.Compare a [d] [e] pos) (RZ (rL Ga gb h)):=.of fun ρ b M =>
 Tg (DO ho.1 (i.run ρ b M) (QL fun M1=>l (hJ b M1 ρ)) f) fun σ H Q q=>Lv (ZH q)
theorem U8 (h:D8 c C e G) (he:∀ d,xD e c.X.env d=(do let v <- d;j3 e.pos;kg [v] (N_ v)):=by intro _;rfl):XY c C e (RZ G):=.of fun ρ b M=>Tg (IF (h.run ρ b M) he) fun σ H Q q=>ZH q
def D9 (G:cR->D->Mu->RM Bool):cR->D->Mu->RM Bool:=fun ρ b M=>(G ρ b M).bind fun k M1=>.ok (!k) M1
theorem U9 (h:XY c C e Gt):XY c C (.UnaryOp .Not e pos) (D9 Gt):=.of fun ρ b M=>Tg (IG (h.run ρ b M)) fun σ H Q q=>by
 obtain ⟨B,A,z,v,w,u,q⟩:=q
 refine ZD u q fun d M1 l f t i s=>?_
 unfold D9 at q
 rw [t] at q
 exact q l f i s.so
def Da (Ga Gb:cR->D->Mu->RM D):cR->D->Mu->RM D:=fun ρ b M=>(Ga ρ b M).bind fun d M1=>(Gb ρ b M1).bind fun d' M2=>.ok (.tuple [d,d']) M2
theorem Ua {x1} (u:D8 c C a Ga) (w:D8 c C e Gb) (s:ao [a,e] c.X.env=(false,bG a c.X.env)::ao [e] c.X.env:=by rfl) (T:ao [e] c.X.env=(false,bG e c.X.env)::ao [] c.X.env:=by rfl):D8 c C (.Tuple [a,e] x1 pos) (Da Ga Gb):=.of fun ρ b M=>by
 refine ni (IU (bv (u.run ρ b M) (bv (QL fun M1=>w.run ρ b M1) cQ T) s)) fun σ H Q O=>?_
 obtain ⟨A,z,H0,a0,t,S,q⟩:=O
 refine N1 S q fun d M1 v H1 B N i I P=>?_
 unfold Da at q
 rw [N] at q
 refine ⟨M1,?_⟩
 refine N1 I (pY.on q i (q':=fun _ _=>True) fun _ _ _=>trivial) fun d2 M2 Y H2 L e2 l h r2=>?_
 replace q:pY c.X.K c.cls C c.E A z b H t ((Gb ρ b M1).bind _) _:=q
 rw [e2] at q
 refine ⟨bt (bZ (show 2<=1000 by decide)),fun p U=>?_⟩
 have f:=cn.new (o:=.tup [v,Y]) h.st.sub U
 exact q _ _ _ ((i.trans l).trans (h.so.mst f)) (h.so.step f) (.tuple aI (.cons ((P.same l.sh).same f.sh) (.cons (r2.same f.sh) .nil)))
end
inductive RS where
 |nx (ρ:cR) (M:Mu)
 |rt (d:D) (M:Mu)
 |ex (c:Str) (M:Mu)
 |no
def RM.toS {α:Type}:RM α->(α->Mu->RS)->RS
 |.ok a M,f=>f a M
 |.ex c M,_=>.ex c M
 |.no,_=>.no
def ZI (K:aa) (cls:Str->af) (C:af) (E:XK) (x:af) (f:List af) (b:D) (g e:Hp) (D:uG) (r:RS):Prop:=match r with
 |.nx ρ' M'=>∀ σ' H' a,pX K C x f b g e ρ' M' σ' H' a->D.nx σ' H'
 |.rt d M'=>∀ v H' a,yF f g e H' a->pW K C x f b M' H' a->RD K a v d->D.rt v H'
 |.ex c M'=>∀ H' a,yF f g e H' a->pW K C x f b M' H' a->E (.ref (cls c)) none H'
 |.no=>False
inductive SMI (K:aa) (cls:Str->af) (C:af) (E:XK) (ρ:cR) (b:D) (M:Mu) (r:RS) (D:uG) (σ:St) (H:Hp):Prop
 |mk (x:af) (ls:List af) (H0 Hs0 Hs:Hp) (f:pX K C x ls b H0 Hs0 ρ M σ H Hs) (q:ZI K cls C E x ls b H0 Hs0 D r):SMI K cls C E ρ b M r D σ H
def SM (K:aa) (cls:Str->af) (C:af) (E:XK) (ρ:cR) (b:D) (M:Mu) (r:RS):TS:=SMI K cls C E ρ b M r
abbrev GS:=cR->D->Mu->RS
structure NY (c:C) (C:af) (s:c9) (G:GS):Prop where of ::
 run:∀ ρ b M,PS c.X s (SM c.X.K c.cls C c.E ρ b M (G ρ b M))
structure yb (c:C) (C:af) (s:List c9) (G:GS):Prop where of ::
 run:∀ ρ b M,zw c.X s (SM c.X.K c.cls C c.E ρ b M (G ρ b M))
section
variable {K:aa}{cls:Str->af}{C x:af}{E:XK}{ls:List af}{b:D}{H0 Hs0 H Hs H' Hs':Hp}{ρ:cR}{M:Mu}{σ:St}{D':uG}
theorem sM {r:RM D}{k:D->Mu->RS}{Q:VK} (f:pX K C x ls b H0 Hs0 ρ M σ H Hs) (h:ZI K cls C E x ls b H0 Hs0 D' (r.toS k))
  (m:∀ d M1 v H' Hs',r=.ok d M1->pX K C x ls b H0 Hs0 ρ M1 σ H' Hs'->RD K Hs' v d->Q v H'):TM K cls C E ρ b M r σ H Q:=by
 refine ⟨x,ls,H0,Hs0,Hs,f,?_⟩
 cases r with
 |ok d M1=>exact fun v H' Hs' s so r=>m d M1 v H' Hs' rfl (f.mstep s so) r
 |ex c M1=>exact fun H' Hs' s so=>h H' Hs' (f.st.trans s) so
 |no=>exact h
theorem sMT {r:RM Bool}{k:Bool->Mu->RS}{Q:Bool->Hp->Prop} (f:pX K C x ls b H0 Hs0 ρ M σ H Hs) (h:ZI K cls C E x ls b H0 Hs0 D' (r.toS k))
  (m:∀ d M1 H' Hs',r=.ok d M1->pX K C x ls b H0 Hs0 ρ M1 σ H' Hs'->Q d H'):TMT K cls C E ρ b M r σ H Q:=by
 refine ⟨x,ls,H0,Hs0,Hs,f,?_⟩
 cases r with
 |ok d M1=>exact fun H' Hs' s so=>m d M1 H' Hs' rfl (f.mstep s so)
 |ex c M1=>exact fun H' Hs' s so=>h H' Hs' (f.st.trans s) so
 |no=>exact h
end
section
variable {c:C}{C:af}{e a t:bc}{st:c9}{bU A B:List c9}{g:aB->R D}{gs:aB->R Fl}{G:cR->D->Mu->RM D}{Gt:cR->D->Mu->RM Bool}{G1 G2 GA GB:GS}{pos pos' py spos:Pos}{x y:Str}
def fA (G:cR->D->Mu->RM D):GS:=fun ρ b M=>(G ρ b M).toS fun _ M1=>.nx ρ M1
theorem i8 (h:D8 c C e G) (hs:dE e none pos.line c.X.env=pure false:=by rfl):NY c C (.Expr e pos) (fA G):=.of fun ρ b M=>wI (o9 (h.run ρ b M) hs) fun D σ H m=>by
 obtain ⟨x,s,p,n,o,f,q⟩:=m
 refine sM f q fun d M1 v j i l k u=>?_
 unfold fA at q
 rw [l] at q
 exact q _ j i k
def VP (i:Nat) (G:cR->D->Mu->RM D):GS:=fun ρ b M=>(G ρ b M).toS fun d M1=>.nx (ρ.set i (.dat d)) M1
def rM (i:Nat) (g:aB->R D):GS:=fun ρ _ M=>match g (iS ρ) with
 |.ok d=>.nx (ρ.set i (.dat d)) M
 |_=>.no
theorem wV (i:Nat) (h:JE c e g) (l:c.X.N.Nodup) (s:c.X.N[i]?=some x:=by rfl) (z:Fo c.X.env.scope x:=by first|exact c8 rfl|exact bC rfl) (hs:dE e (some (.Name x pos')) pos.line c.X.env=pure false:=by rfl)
  (p:c.X.fn x=true\/c.X.env.scope.names.lookup x=some .local:=by first|exact .inl rfl|exact .inr rfl|assumption):NY c C (.Assign [.Name x pos'] e pos) (rM i g):=.of fun ρ b M=>wI (qz l s z (h (iS ρ)) hs p) fun D σ H u=>by
 obtain ⟨x,L,K,E,I,f,q⟩:=u
 unfold rM at q
 refine ⟨_,_,_,_,f.v0,?_⟩
 cases j:g (iS ρ) with
 |no=>rw [j] at q;exact q
 |ex y n=>rw [j] at q;exact q.elim
 |ok d=>rw [j] at q;exact fun v o k m w=>q _ o k ((f.step m).set i w)
def wW (i:Nat) (g:aB->R D):GS:=fun ρ b M=>match g (hJ b M ρ) with
 |.ok (.list ds)=>if okDs ds then .nx (ρ.set i (.dat (.list ds))) M else .no
 |_=>.no
theorem Xi {K:aa}{cls:Str->af}{E:XK}{i:Nat}{ρ:cR}{b:D}{M:Mu}{D':uG}{σ:St}{H:Hp} (q:SM K cls C E ρ b M (wW i g ρ b M) D' σ H):TN K cls E (hJ b M ρ) (g (hJ b M ρ)) σ H (fun x l=>D'.nx (σ.set i (some x)) l):=by
 obtain ⟨x,w,v,s,u,f,q⟩:=q
 unfold wW at q
 refine ⟨_,_,_,_,f.v1,?_⟩
 cases j:g (hJ b M ρ) with
 |no=>rw [j] at q;exact q
 |ex y n=>rw [j] at q;exact q.elim
 |ok d =>
  rw [j] at q
  intro a o l p k na m
  cases m with
  |lst r =>
   rename_i vs ds
   simp only at q
   by_cases ho:okDs ds=true
   ·rw [if_pos ho] at q
    have st:=l9 f.st.sub k
    have h:=cn.new (o:=.lst vs) st.sub na
    exact q _ _ _ (((f.step st).step h).set i (.list (.of aI) ((GJ k ho r).same h.sh)))
   ·rw [if_neg ho] at q;exact q.elim
  |dK _=>exact q.elim
  |dT _ _=>exact q.elim
  |dF _ _=>exact q.elim
theorem yG {scope:fU}{N':List Str}{ix:List Nat}{tg iter f:bc}{d:List bc}{l:aB->R (List D)}{gt:aB->R Bool}{ge:aB->R D} (i:Nat) (nt:Nat) (h:nt=1\/nt=2) (m:c.X.N.Nodup) (p:c.X.calm=true) (S:oW c.X scope N' nt ix) (s:JI c tg iter l) (u:t_ c N' scope nt tg d f gt ge)
  (k:c.X.N[i]?=some x:=by rfl) (n:c.X.env.scope.names.lookup x=some .local:=by rfl)
  (j:dE (.ListComp f [⟨tg,iter,d,0⟩] scope pos) (some (.Name x py)) spos.line c.X.env=pure true:=by rfl)
  (hs:∀ x,e8 iter c.X.env x=pure x:=by intro _;rfl):NY c C (.Assign [.Name x py] (.ListComp f [⟨tg,iter,d,0⟩] scope pos) spos) (wW i (dJ nt ix l gt ge)):=.of fun ρ b M =>
 wI (Ag m k n p S (zD h) (s (hJ b M ρ)) u.at j hs) fun D σ H q=>Ej (Q:=fun x o=>D.nx (σ.set i (some x)) o) h (Xi q)
def kS (Gt:cR->D->Mu->RM Bool) (GA GB:GS):GS:=fun ρ b M=>(Gt ρ b M).toS fun k M1=>if k then GA ρ b M1 else GB ρ b M1
theorem Jy {X:Cx}{α:Type}{d:List c9}{t:α->TS} (h:∀ a,zw X d (t a)):zw X d (fun D σ H=>∃ a,t a D σ H):=fun b s σ H D I f=>by
 obtain ⟨a,q⟩:=f
 exact h a b s σ H D I q
theorem lf (n:XY c C t Gt) (m:yb c C A GA) (s:yb c C B GB):NY c C (.If t A B pos) (kS Gt GA GB):=.of fun ρ b M=>wI (Oo (n.run ρ b M) (Jy fun M1=>m.run ρ b M1) (Jy fun M1=>s.run ρ b M1)) fun D σ H p=>by
 obtain ⟨x,k,j,i,v,f,q⟩:=p
 refine sMT f q fun d M1 u h o l=>?_
 unfold kS at q
 rw [o] at q
 cases d with
 |true=>exact DV ⟨M1,x,k,j,i,h,l,q⟩
 |false=>exact Ac ⟨M1,x,k,j,i,h,l,q⟩
def iD (G:cR->D->Mu->RM D):GS:=fun ρ b M=>(G ρ b M).toS fun d M1=>.rt d M1
theorem kG (h:D8 c C e G):NY c C (.Return (some e) pos) (iD G):=.of fun ρ b M=>wI (zX (h.run ρ b M)) fun D σ H m=>by
 obtain ⟨x,u,s,o,p,f,q⟩:=m
 refine sM f q fun d M1 v k i l j n=>?_
 unfold iD at q
 rw [l] at q
 exact q v k i j.st j.so n
def Db (gs:aB->R Fl):GS:=fun ρ b M=>match gs (hJ b M ρ) with
 |.ex c none=>.ex c M
 |_=>.no
theorem Lx (h:JS c st gs):NY c C st (Db gs):=.of fun ρ b M=>wI (h (hJ b M ρ)) fun D σ H i=>by
 obtain ⟨x,p,m,j,l,f,q⟩:=i
 unfold Db at q
 refine ⟨_,_,_,_,f.v1,?_⟩
 cases d:gs (hJ b M ρ) with
 |no=>rw [d] at q;exact q
 |ok o=>rw [d] at q;exact q.elim
 |ex y n =>
  rw [d] at q
  cases n with
  |some _=>exact q.elim
  |none =>
   intro H' k s
   have s':=l9 f.st.sub s
   exact q H' _ (f.st.trans (f.so.mst s')) (f.so.step s')
def QM (i j:Nat) (ρ:cR):D->Mu->RS:=fun d M1=>match d with
 |.tuple [b,f]=>.nx ((ρ.set i (.dat b)).set j (.dat f)) M1
 |_=>.no
def Dc (i j:Nat) (G:cR->D->Mu->RM D):GS:=fun ρ b M=>(G ρ b M).toS (QM i j ρ)
theorem QN {m:Nat}{px k l:Pos} (i j:Nat) (h:D8 c C e G) (S:c.X.calm=true) (z:c.X.N.Nodup) (hi:c.X.N[i]?=some x:=by rfl) (hj:c.X.N[j]?=some y:=by rfl) (hx:Fo c.X.env.scope x:=by first|exact c8 rfl|exact bC rfl) (O:Fo c.X.env.scope y:=by first|exact c8 rfl|exact bC rfl)
  (hs:sd [.Tuple [.Name x px,.Name y k] m l] e pos.line c.X.env=pure false:=by rfl) (hw:se [.Tuple [.Name x px,.Name y k] m l] e c.X.env=pure none:=by rfl) (L:(d_ [.Tuple [.Name x px,.Name y k] m l] c.X.env).map (·.2)=[oS (.Tuple [.Name x px,.Name y k] m l) c.X.env]:=by rfl)
  (hn:(d_ [.Name x px,.Name y k] c.X.env).length=2:=by rfl) (n:(d_ [.Name x px,.Name y k] c.X.env).findIdx? (·.1)=none:=by rfl)
  (o:(d_ [.Name x px,.Name y k] c.X.env).map (·.2)=oS (.Name x px) c.X.env::(d_ [.Name y k] c.X.env).map (·.2):=by rfl) (u:(d_ [.Name y k] c.X.env).map (·.2)=oS (.Name y k) c.X.env::(d_ [] c.X.env).map (·.2):=by rfl)
  (hf:c.X.fn x=true\/c.X.env.scope.names.lookup x=some .local:=by first|exact .inl rfl|exact .inr rfl|assumption) (p:c.X.fn y=true\/c.X.env.scope.names.lookup y=some .local:=by first|exact .inl rfl|exact .inr rfl|assumption) :
  NY c C (.Assign [.Tuple [.Name x px,.Name y k] m l] e pos) (Dc i j G):=.of fun ρ b M =>
 wI (IH (h.run ρ b M) (DL S (m_ (cL z hi hx hf) (m_ (cL z hj O p) zx u) o) hn n) hs hw L) fun D σ H hh=>by
 obtain ⟨x,ls,Y,w,Hs,f,q⟩:=hh
 refine sM f q fun d M1 v P s e1 I r1=>?_
 unfold Dc at q
 rw [e1] at q
 replace q:ZI c.X.K c.cls C c.E x ls b Y w D (QM i j ρ d M1):=q
 unfold QM at q
 split at q
 ·rename_i d1 d2
  cases r1 with
  |tuple T Q =>
   obtain ⟨v1,v2,rfl,U,q2⟩:=Q.two
   exact ⟨_,_,rfl,.of (I.st.sub _ _ T),rfl,_,_,rfl,_,_,rfl,rfl,q _ P s ((I.set i U).set j q2)⟩
 ·exact q.elim
def cW (G1 G2:GS):GS:=fun ρ b M=>match G1 ρ b M with
 |.nx ρ' M'=>G2 ρ' b M'
 |r=>r
theorem jd:yb c C [] (fun ρ _ M=>.nx ρ M):=.of fun ρ b M=>WV DK fun D σ H d=>by
 obtain ⟨x,j,k,i,h,f,q⟩:=d
 exact q σ H h f
theorem da (h:NY c C st G1):yb c C [st] G1:=.of fun ρ b M=>tO (h.run ρ b M)
theorem cq (h:NY c C st G1) (p:yb c C bU G2):yb c C (st::bU) (cW G1 G2):=.of fun ρ b M i s σ H D I u=>by
 obtain ⟨x,m,l,j,n,f,q⟩:=u
 unfold cW at q
 cases k:G1 ρ b M with
 |no=>rw [k] at q;exact q.elim
 |nx ρ' M' =>
  rw [k] at q
  refine eu (h.run ρ b M) (p.run ρ' b M') i s σ H D I ⟨x,m,l,j,n,f,?_⟩
  rw [k];exact fun σ' H' o v=>⟨x,m,l,j,o,v,q⟩
 |rt d M' =>
  rw [k] at q
  refine eu (h.run ρ b M) (k_ (X:=c.X) (sts:=bU)) i s σ H D I ⟨x,m,l,j,n,f,?_⟩
  rw [k];exact q
 |ex y M' =>
  rw [k] at q
  refine eu (h.run ρ b M) (k_ (X:=c.X) (sts:=bU)) i s σ H D I ⟨x,m,l,j,n,f,?_⟩
  rw [k];exact q
end
section
open PyProof.Rows (envOfC)
def AN (a:Str->Option Nat) (G:GS):GS:=fun ρ b M=>match G ρ b M with
 |.ex y M'=>match a y with
  |some j=>.rt (.tuple [.str "refused",.int (j:Nat)]) M'
  |none=>.no
 |r=>r
section
variable {c:C}{C:af}{body:List c9}{x n:Str}{names:List Str}{wh:Str->Option Nat}{G:GS}{np np2 np3 cpos rpos hpos pos:Pos}
theorem Ub (i:Nat) (W:Wh c.X.prog c.X.w c.X.K c.X.mg c.X.base c.cls x names wh) (hb:∀ (E:XK) (B:ae->ak->Prop) (v:List (af×Obj)),gy (jN c.X.prog c.X.w) (WR c.X B v) E->yb ⟨WR c.X B v,c.cls,E⟩ C body G)
  (hr:nh 1 c.X.A) (P:Gl c.X x) (hg:Gl c.X "PlanError") (hN:c.X.N.Nodup) (T:c.X.N[i]?=some n:=by rfl) (hn:c.X.env.scope.names.lookup n=some .local:=by rfl)
  (L:∃ l,c.X.stack=c.X.env::l/\c.X.env.frame=some c.X.env.locals:=by exact ⟨_,rfl,rfl⟩) (Q:c.X.ex=[]:=by rfl) (U:(x==("__debug__" : Str))=false:=by decide) (hd:(n==("__debug__" : Str))=false:=by decide) (O:(n==("__classdict__" : Str))=false:=by decide) :
  NY c C (.Try body [.ExceptHandler (some (.Name "PlanError" np)) (some n) [.Return (some (.Call (.Name x np2) [.Name n np3] [] cpos)) rpos] hpos] [] [] pos) (AN wh G):=.of fun ρ b M=>by
 obtain ⟨f,fd,ps,F,hm,hk,Y⟩:=W.fn
 obtain ⟨bp,y⟩:=W.ox
 have hs:∀ h,zw (XU c.X h) [.Return (some (.Call (.Name x np2) [.Name n np3] [] cpos)) rpos] (Wd (Kz (X3 c.X.K c.X.base c.cls names) [] E0 (A9 (xQ i) BI))):=fun h =>
  tO (zX (Ph (X:=XU c.X h) F (hr.mark _) P hm hk Y (bv (hV T (.inl hn) hd O) cQ) U))
 refine wI (WS hg W.pe y hN T hn L Q (tb:=fun E D σ H=>SM c.X.K c.cls C E ρ b M (G ρ b M) D σ H) (fun E B v hp=>(hb E B v hp).run ρ b M) hs) fun D σ H hh=>?_
 obtain ⟨x0,ls,H0,a1,Hs,fr,q⟩:=hh
 refine ⟨x0,ls,H0,a1,Hs,fr,?_⟩
 unfold AN at q
 cases g:G ρ b M with
 |no=>rw [g] at q;exact q
 |nx ρ' M'=>rw [g] at q;exact q
 |rt d M'=>rw [g] at q;exact q
 |ex z M' =>
  rw [g] at q
  simp only at q
  cases S:wh z with
  |none=>rw [S] at q;exact q.elim
  |some j =>
   rw [S] at q
   have X0:=W.xf z j S
   intro H' p st so
   obtain ⟨bm,o1,o2⟩:=X0.ox
   refine ⟨c.cls z,bm,rfl,o1,o2,fun h a0=>?_⟩
   have hl:i<c.X.N.length:=(List.getElem?_eq_some_iff.mp T).1
   refine ⟨.ref h,aJ (by simpa [An] using hl),h,c.cls z,j,rfl,aI,X0,fun t H2 sm ht hT=>?_⟩
   have I:cK H' (upd H' h (Am h (c.cls z))):=jG a0
   have m:H' t=none:=I.free ht
   have s:cn H' p H2 (upd p t (.tup [.str "refused",.int (j:Nat)])):=by
    refine ⟨I.trans sm,jG (st.sub.free m),fun b u e=>?_,fun a o e _ z=>by rw [aC (aK e m)];exact z⟩
    by_cases k:b=t
    ·subst k;rw [aI] at e;cases e;exact hT
    ·rw [aC k] at e;exact sm b u (I b u (st.sub b u e))
   exact q (.ref t) H2 _ (st.trans (so.mst s)) (so.step s) (.tuple aI (.cons (.str _) (.cons (.int _) .nil)))
end
def BZ (a:Nat) (ds:List D):cR:=.dk::(ds.map MS.dat++cg (a-(ds.length+1)) MS.no)
def uJ (a:Nat) (G:GS):D->Mu->List D->RM D:=fun b M ds=>match G (BZ a ds) b M with
 |.nx _ M'=>.ok .none M'
 |.rt d M'=>.ok d M'
 |.ex c M'=>.ex c M'
 |.no=>.no
theorem AO {ds:List D}{n i:Nat}{s:MS} (h:(ds.map MS.dat++cg n MS.no)[i]?=some s):(∃ d,ds[i]?=some d/\s=.dat d)\/s=.no:=by
 by_cases b:i<ds.length
 ·rw [bR (by simpa using b),aH] at h
  cases a:ds[i]? with
  |none=>rw [a] at h;cases h
  |some z=>rw [a] at h;cases h;exact .inl ⟨z,rfl,rfl⟩
 ·rw [bg (by simp;omega),bI] at h
  split at h<;>cases h
  exact .inr rfl
section
variable {K:aa}{C x:af}{ls:List af}{b:D}{M:Mu}{H Hs:Hp}{ws:List V}{ds:List D}
theorem pX.start1 {N:List Str} (sub:cK Hs H) (so:pW K C x ls b M H Hs) (r:RDs K Hs ws ds) (g:ds.length+1<=N.length):pX K C x ls b H Hs (BZ N.length ds) M (L2.start N (.ref x::ws)) H Hs:=by
 have c:=r.length
 have f:L2.start N (.ref x::ws)=some (.ref x)::(ws.map some++cg (N.length-(ws.length+1)) none):=rfl
 refine ⟨.refl sub,by simp [BZ,L2.start,c],so,fun i d h=>?_,fun i h=>?_,fun i j h=>?_⟩
 ·cases i with
  |zero=>cases h
  |succ i =>
   have h:(ds.map MS.dat++cg (N.length-(ds.length+1)) MS.no)[i]?=some (.dat d):=h
   rcases AO h with ⟨z,a,e⟩|e
   ·cases e
    obtain ⟨v,k1,k2⟩:=r.get' a
    exact ⟨v,CV (i:=i+1) k1,k2⟩
   ·cases e
 ·cases i with
  |zero=>rfl
  |succ i =>
   have h:(ds.map MS.dat++cg (N.length-(ds.length+1)) MS.no)[i]?=some .dk:=h
   rcases AO h with ⟨z,a,e⟩|e<;>cases e
 ·cases i with
  |zero=>cases h
  |succ i =>
   have h:(ds.map MS.dat++cg (N.length-(ds.length+1)) MS.no)[i]?=some (.ml j):=h
   rcases AO h with ⟨z,a,e⟩|e<;>cases e
theorem Xj {cls:Str->af}{E:XK}{N:List Str}{G:GS}{Q:VK} (sub:cK Hs H) (so:pW K C x ls b M H Hs) (r:RDs K Hs ws ds) (h:ds.length+1<=N.length)
  (q:pY K cls C E x ls b H Hs (uJ N.length G b M ds) fun d M'=>∀ v H' a,yF ls H Hs H' a->pW K C x ls b M' H' a->RD K a v d->Q v H'):SM K cls C E (BZ N.length ds) b M (G (BZ N.length ds) b M) { nx:=fun _ H'=>Q .non H',rt:=Q } (L2.start N (.ref x::ws)) H:=by
 refine ⟨x,ls,H,Hs,Hs,pX.start1 sub so r h,?_⟩
 unfold uJ at q
 cases e:G (BZ N.length ds) b M with
 |no=>rw [e] at q;exact q
 |nx ρ' M'=>rw [e] at q;exact fun σ' H' a g=>q .non H' a g.st g.so .none
 |rt d M'=>rw [e] at q;exact fun v H' a s f i=>q v H' a s f i
 |ex c M'=>rw [e] at q;exact q
end
theorem QO {P:aV}{w:bi}{K:aa}{m:Str->Option ae}{base:bA}{cls:Str->af}{C f:af}{j:cr}{x a:Str}{d:c9}{N ps:List Str}{k n:Nat}{G:GS} (F:xz K x a d f j) (S:bj N ps (ar d)) (e:ps.length=n+1)
  (h:∀ (c:ae) (A:bh) (outer:List Env) (s:ak) (H:Hp) (E:XK),fJ k (A.deeper (gR a (ar d) s.heap.objs.size f c))->yb ⟨iU (jN P w) P w K m base N a (ar d) f c A outer s H E,cls,E⟩ C (eF d) G) :
  l8 P w K m base (jN P w) (k+1) f j ps (ZG K cls C n (uJ N.length G)):=by
 have y:ps.length<=N.length:=by have:=congrArg pG S.pre;rw [rG] at this;omega
 obtain ⟨U,od,kV,o,T,X,c,Y,t,rfl,u,g⟩:=F.ex
 refine lM u g S (fun vs H Q E v=>by obtain ⟨_,_,_,_,_,_,_,rfl,_,_,_,l,r,_⟩:=v;rw [aX,r.length,l,e]) fun A outer s H vs Q E p i=>?_
 obtain ⟨z,L,I,b,M,O,ds,rfl,sub,so,B,l,r,q⟩:=i
 exact ⟨_,(h c A outer s H E p).run (BZ N.length ds) b M,Xj sub so r (by omega) q⟩
theorem fns {e:En}{C:af}{m a:Str}{c:c9}{N ps:List Str}{k n:Nat}{G:GS} (D:DM e.K C m a c) (S:bj N ps (ar c)) (b:∀ {f:af}{g:cr},xz e.K m a c f g->eQ e.K g ps []) (i:ps.length=n+1)
  (h:∀ (f:af) (d:ae) (A:bh) (outer:List Env) (s:ak) (H:Hp) (E:XK),fJ k (A.deeper (gR a (ar c) s.heap.objs.size f d))->yb ⟨iU (jN e.P e.w) e.P e.w e.K e.mg e.base N a (ar c) f d A outer s H E,e.cls,E⟩ C (eF c) G) :
  FS e C m (k+1) n (uJ N.length G):=by
 obtain ⟨f,g,F,j⟩:=D.ex
 exact ⟨f,g,ps,QO F S i (h f),j,b F⟩
theorem fng {e:En}{C:af}{x:Str}{a:c9}{N ps:List Str}{k n:Nat}{G:GS} (D:jn e.K e.mg x a) (S:bj N ps (ar a)) (b:∀ {f:af}{d:cr},xz e.K x x a f d->eQ e.K d ps []) (g:ps.length=n+1)
  (h:∀ (f:af) (c:ae) (A:bh) (outer:List Env) (s:ak) (H:Hp) (E:XK),fJ k (A.deeper (gR x (ar a) s.heap.objs.size f c))->yb ⟨iU (jN e.P e.w) e.P e.w e.K e.mg e.base N x (ar a) f c A outer s H E,e.cls,E⟩ C (eF a) G) :
  FG e C x (k+1) n (uJ N.length G):=by
 obtain ⟨f,d,F,i⟩:=D.ex
 exact ⟨f,d,ps,QO F S g (h f),i,F.kp,b F⟩
end
section
open PyProof.Rows (envOfC)
inductive ZJ (K:aa) (cls:Str->af) (C:af) (F:D->Mu->List D->RM D) (vs:List V) (H:Hp) (Q:VK) (E:XK):Prop
 |mk (Hs:Hp) (x:af) (ls:List af) (b:D) (M:Mu) (w0 w1 w2:V) (d0 d1 d2:D) (l4 l5 l6:af) (h0:vs=[w0,w1,w2,.ref x,.ref l4,.ref l5,.ref l6]) (sub:cK Hs H) (so:pW K C x ls b M H Hs) (h4:ls[3]?=some l4) (h5:ls[4]?=some l5) (h6:ls[5]?=some l6)
  (r0:RD K Hs w0 d0) (r1:RD K Hs w1 d1) (r2:RD K Hs w2 d2)
  (q:pY K cls C E x ls b H Hs (F b M [d0,d1,d2]) fun d M'=>∀ v H' Hs',yF ls H Hs H' Hs'->pW K C x ls b M' H' Hs'->RD K Hs' v d->Q v H'):ZJ K cls C F vs H Q E
def spG (K:aa) (cls:Str->af) (C:af) (F:D->Mu->List D->RM D):Sp:=ZJ K cls C F
structure ZK (P:aV) (w:bi) (K:aa) (mg:Str->Option ae) (base:bA) (cls:Str->af) (C:af) (x:Str) (k:Nat) (F:D->Mu->List D->RM D):Prop where
 ex:∃ f fd ps,l8 P w K mg base (jN P w) k f fd ps (spG K cls C F)/\mg x=some (.ref f)/\bV K (.ref f)=true/\eQ K fd ps []
abbrev FT3 (e:En):=ZK e.P e.w e.K e.mg e.base e.cls
def N5 (a:Nat):List D->cR
 |[d,b,c]=>.dat d::.dat b::.dat c::.dk::.ml 3::.ml 4::.ml 5::cg (a-7) .no
 |_=>[]
def QP (a:Nat) (G:GS):D->Mu->List D->RM D:=fun b M ds=>match G (N5 a ds) b M with
 |.nx _ M'=>.ok .none M'
 |.rt d M'=>.ok d M'
 |.ex c M'=>.ex c M'
 |.no=>.no
theorem Jz {n i:Nat}{s:MS} (h:(cg n MS.no)[i]?=some s):s=.no:=by
 rw [bI] at h
 split at h<;>cases h
 rfl
theorem pX.start7 {K:aa}{C x:af}{c:List af}{b:D}{M:Mu}{H a:Hp}{N:List Str}{g e k:V}{q o p:D}{m f l:af} (sub:cK a H) (so:pW K C x c b M H a) (t:c[3]?=some m) (w:c[4]?=some f) (u:c[5]?=some l)
  (s:RD K a g q) (v:RD K a e o) (y:RD K a k p):pX K C x c b H a (N5 N.length [q,o,p]) M (L2.start N [g,e,k,.ref x,.ref m,.ref f,.ref l]) H a:=by
 have n:L2.start N [g,e,k,.ref x,.ref m,.ref f,.ref l]=some g::some e::some k::some (.ref x)::some (.ref m)::some (.ref f)::some (.ref l)::cg (N.length-7) none:=rfl
 rw [n]
 refine ⟨.refl sub,by simp [N5],so,fun i d h=>?_,fun i h=>?_,fun i j h=>?_⟩
 ·match i,h with
  | 0,h=>cases h;exact ⟨_,rfl,s⟩
  | 1,h=>cases h;exact ⟨_,rfl,v⟩
  | 2,h=>cases h;exact ⟨_,rfl,y⟩
  | 3,h=>cases h
  | 4,h=>cases h
  | 5,h=>cases h
  | 6,h=>cases h
  |i+7,h=>cases Jz (i:=i) (show (cg (N.length-7) MS.no)[i]?=_ from h)
 ·match i,h with
  | 0,h=>cases h
  | 1,h=>cases h
  | 2,h=>cases h
  | 3,h=>rfl
  | 4,h=>cases h
  | 5,h=>cases h
  | 6,h=>cases h
  |i+7,h=>cases Jz (i:=i) (show (cg (N.length-7) MS.no)[i]?=_ from h)
 ·match i,h with
  | 0,h=>cases h
  | 1,h=>cases h
  | 2,h=>cases h
  | 3,h=>cases h
  | 4,h=>cases h;exact ⟨_,t,rfl⟩
  | 5,h=>cases h;exact ⟨_,w,rfl⟩
  | 6,h=>cases h;exact ⟨_,u,rfl⟩
  |i+7,h=>cases Jz (i:=i) (show (cg (N.length-7) MS.no)[i]?=_ from h)
theorem fn7 {e:En}{C:af}{x:Str}{i:c9}{N ps:List Str}{k:Nat}{G:GS} (D:jn e.K e.mg x i) (S:bj N ps (ar i)) (b:∀ {f:af}{j:cr},xz e.K x x i f j->eQ e.K j ps []) (m:ps.length=7)
  (h:∀ (f:af) (a:ae) (A:bh) (outer:List Env) (s:ak) (H:Hp) (E:XK),fJ k (A.deeper (gR x (ar i) s.heap.objs.size f a))->yb ⟨iU (jN e.P e.w) e.P e.w e.K e.mg e.base N x (ar i) f a A outer s H E,e.cls,E⟩ C (eF i) G) :
  FT3 e C x (k+1) (QP N.length G):=by
 obtain ⟨f,j,F,hm⟩:=D.ex
 refine ⟨f,j,ps,?_,hm,F.kp,b F⟩
 obtain ⟨oc,od,kV,L,pm,an,a,ct,U,rfl,lk,o⟩:=F.ex
 refine lM lk o S (fun vs H Q E hh=>by obtain ⟨_,_,_,_,_,_,_,_,_,_,_,_,_,_,rfl,_⟩:=hh;rw [m];rfl) fun A outer s H vs Q E O p=>?_
 obtain ⟨u,Y,X,b,M,w0,w1,w2,B,t,y,l4,l5,l6,rfl,sub,so,T,h5,h6,I,r1,r2,q⟩:=p
 refine ⟨_,(h f a A outer s H E O).run (N5 N.length [B,t,y]) b M,Y,X,H,u,u,pX.start7 sub so T h5 h6 I r1 r2,?_⟩
 unfold QP at q
 cases l:G (N5 N.length [B,t,y]) b M with
 |no=>rw [l] at q;exact q
 |nx ρ' M'=>rw [l] at q;exact fun σ' H' g z=>q .non H' g z.st z.so .none
 |rt d M'=>rw [l] at q;exact fun v H' g s n rv=>q v H' g s n rv
 |ex c M'=>rw [l] at q;exact q
def X_ (i j a e:Nat) (F:D->Mu->List D->RM D) (g f g2:aB->R D):cR->D->Mu->RM D:=fun ρ b M=>match ρ[i]?,ρ[j]?,ρ[a]?,ρ[e]? with
 |some .dk,some (.ml 3),some (.ml 4),some (.ml 5)=>match g (iS ρ),f (iS ρ),g2 (iS ρ) with
  |.ok h,.ok d,.ok c=>F b M [h,d,c]
  |_,_,_=>.no
 |_,_,_,_=>.no
section
variable {c:C}{C:af}{e0 e1 e2:bc}{g0 g1 g2:aB->R D}{y x3 x4 x5 x6:Str}{p pos p3 p4 p5 p6:Pos}{k j:Nat}{F:D->Mu->List D->RM D}
theorem Ly {K:aa}{x:af}{l:List af}{b:D}{i e H h:Hp}{ρ:cR}{M:Mu}{σ:St}{cls:Str->af}{E:XK}{g:aB->R D}{d:D}{Q:VK} (f:pX K C x l b i e ρ M σ H h) (n:g (iS ρ)=.ok d)
  (m:∀ v H' a,cn H h H' a->pX K C x l b i e ρ M σ H' a->RD K a v d->Q v H'):TR K cls E (iS ρ) (g (iS ρ)) σ H Q:=by
 refine ⟨_,_,_,_,f.v0,?_⟩
 rw [n]
 exact fun v H' a s r=>m v H' a s (f.step s) r
theorem Xk (i3 i4 i5 T:Nat) (G:ZK c.X.prog c.X.w c.X.K c.X.mg c.X.base c.cls C y k F) (hr:fJ j c.X.A) (hx:gy (jN c.X.prog c.X.w) c.X c.E) (h0:JE c e0 g0) (h1:JE c e1 g1) (h2:JE c e2 g2)
  (hk:k<=j:=by decide) (hg:Gl c.X y:=by exact rfl) (S:c.X.N[i3]?=some x3:=by rfl) (o:c.X.N[i4]?=some x4:=by rfl) (P:c.X.N[i5]?=some x5:=by rfl) (t:c.X.N[T]?=some x6:=by rfl)
  (a7:BH c.X.env.scope x3:=by first|exact c8 rfl|exact bC (c8 rfl)|exact bC (bC rfl)) (x:BH c.X.env.scope x4:=by first|exact c8 rfl|exact bC (c8 rfl)|exact bC (bC rfl)) (u:BH c.X.env.scope x5:=by first|exact c8 rfl|exact bC (c8 rfl)|exact bC (bC rfl)) (a3:BH c.X.env.scope x6:=by first|exact c8 rfl|exact bC (c8 rfl)|exact bC (bC rfl))
  (O:(x3==("__debug__" : Str))=false:=by decide) (U:(x3==("__classdict__" : Str))=false:=by decide) (n:(x4==("__debug__" : Str))=false:=by decide) (a2:(x4==("__classdict__" : Str))=false:=by decide)
  (B:(x5==("__debug__" : Str))=false:=by decide) (m:(x5==("__classdict__" : Str))=false:=by decide) (a0:(x6==("__debug__" : Str))=false:=by decide) (h:(x6==("__classdict__" : Str))=false:=by decide)
  (a1:(y==("__debug__" : Str))=false:=by decide)
  (s0:ao [e0,e1,e2,.Name x3 p3,.Name x4 p4,.Name x5 p5,.Name x6 p6] c.X.env=(false,bG e0 c.X.env)::ao [e1,e2,.Name x3 p3,.Name x4 p4,.Name x5 p5,.Name x6 p6] c.X.env:=by rfl)
  (s1:ao [e1,e2,.Name x3 p3,.Name x4 p4,.Name x5 p5,.Name x6 p6] c.X.env=(false,bG e1 c.X.env)::ao [e2,.Name x3 p3,.Name x4 p4,.Name x5 p5,.Name x6 p6] c.X.env:=by rfl)
  (s2:ao [e2,.Name x3 p3,.Name x4 p4,.Name x5 p5,.Name x6 p6] c.X.env=(false,bG e2 c.X.env)::ao [.Name x3 p3,.Name x4 p4,.Name x5 p5,.Name x6 p6] c.X.env:=by rfl)
  (Y:(cC pos (ao [e1,e2,.Name x3 p3,.Name x4 p4,.Name x5 p5,.Name x6 p6] c.X.env)).any (·.1)=false:=by rfl) :
  D8 c C (.Call (.Name y p) [e0,e1,e2,.Name x3 p3,.Name x4 p4,.Name x5 p5,.Name x6 p6] [] pos) (X_ i3 i4 i5 T F g0 g1 g2):=.of fun ρ b M=>by
 obtain ⟨f,fd,ps,hf,hm,l,hb⟩:=G.ex
 refine ni (DQ (E:=c.E) hf (hr.mono hk) hg hm l hb .nil hx (bv (h0 (iS ρ)) (bv (h1 (iS ρ)) (bv (h2 (iS ρ)) (bv (hV S a7 O U) (bv (hV o x n a2) (bv (hV P u B m) (bv (hV t a3 a0 h) cQ)))) s2) s1) s0) a1 s0 Y) fun σ H Q hh=>?_
 obtain ⟨x0,ls,H0,b0,Hs,f0,q⟩:=hh
 unfold X_ at q
 split at q
 ·rename_i k3 k4 k5 k6
  split at q
  ·rename_i d0 d1 d2 g I L
   refine Ly f0 g fun v0 H1 a8 t1 f1 r0=>?_
   refine Ly f1 I fun v1 H2 a9 t2 f2 r1=>?_
   refine Ly f2 L fun v2 H3 e i a r2=>?_
   obtain ⟨l4,a4,b4⟩:=a.ml i4 3 k4
   obtain ⟨l5,a5,b5⟩:=a.ml i5 4 k5
   obtain ⟨l6,a6,b6⟩:=a.ml T 5 k6
   have m3:yF ls H Hs H3 e:=(f0.so.mst t1).trans ((f1.so.mst t2).trans (f2.so.mst i))
   exact ⟨_,a.dk i3 k3,_,b4,_,b5,_,b6,e,x0,ls,b,M,v0,v1,v2,d0,d1,d2,l4,l5,l6,rfl,a.st.sub,a.so,a4,a5,a6,(r0.same t2.sh).same i.sh,r1.same i.sh,r2,pY.on q m3 fun d M' k v H' z s so r=>k v H' z (m3.trans s) so r⟩
  ·exact q.elim
 ·exact q.elim
end
def JA (i:Nat) (G:GS) (b:D):List Nat->cR->Mu->RS
 |[],ρ,M=>.nx ρ M
 |n::r,ρ,M=>match G (ρ.set i (.dat (.int n))) b M with
  |.nx ρ' M'=>JA i G b r ρ' M'
  |.rt d M'=>.rt d M'
  |_=>.no
def Dd (i:Nat) (g:aB->R D) (G:GS):GS:=fun ρ b M=>match g (iS ρ) with
 |.ok (.int n)=>if -(2 ^ 62)<=n/\n<2 ^ 62 then JA i G b (br n.toNat) ρ M else .no
 |_=>.no
section
variable {c:C}{C:af}{a:bc}{g:aB->R D}{G:GS}{body:List c9}{x:Str}{p xp cp pos:Pos}
theorem Uc (i:Nat) (Y:c.X.calm=true) (hg:Gl c.X "range") (hm:c.X.mg "range"=none) (U:JE c.nox a g) (hb:yb c.nox C body G) (Q:c.X.N.Nodup) (hi:c.X.N[i]?=some x:=by rfl) (hx:Fo c.X.env.scope x:=by first|exact c8 rfl|exact bC rfl)
  (hf:c.X.fn x=true\/c.X.env.scope.names.lookup x=some .local:=by first|exact .inl rfl|exact .inr rfl|assumption) (hs:ao [a] c.X.env=[(false,bG a c.X.env)]:=by rfl) (o:∀ x,e8 (.Call (.Name "range" p) [a] [] cp) c.X.env x=pure x:=by intro _;rfl) :
  NY c C (.For (.Name x xp) (.Call (.Name "range" p) [a] [] cp) body [] pos) (Dd i g G):=.of fun ρ b M=>by
 refine PH (wI (Ov (X:=c.X.nox) xP Y (Cr hg hm (bv (U (iS ρ)) cQ hs) hs) (cL Q hi hx hf) (tb:=fun D σ H=>∃ ρ M,SM c.X.K c.cls C E0 ρ b M (G ρ b M) D σ H) ?_ o) fun D σ H hh=>?_)
 ·exact fun k s σ H D I h=>by obtain ⟨ρ',M',h⟩:=h;exact hb.run ρ' b M' k s σ H D I h
 ·obtain ⟨w,u,t,j,Hs,f0,q⟩:=hh
  unfold Dd at q
  split at q
  ·rename_i n hn
   by_cases l:-(2 ^ 62)<=n/\n<2 ^ 62
   ·rw [if_pos l] at q
    refine Ly f0 hn fun v S z t1 f1 r=>?_
    cases r
    refine ⟨n,rfl,l.1,l.2,?_⟩
    refine Exists.elim (Mp (lo:=0) (n:=n.toNat) (g:=wt i) (tb:=fun D σ H=>∃ ρ M,SM c.X.K c.cls C E0 ρ b M (G ρ b M) D σ H) (D:=D) (σ:=σ) (H:=S)
     (fun m σ' H'=>∃ ρ' M' e,pX c.X.K C w u b t j ρ' M' σ' H' e/\ZI c.X.K c.cls C c.E w u b t j D (JA i G b ((br n.toNat).drop m) ρ' M'))
     ⟨ρ,M,z,f1,q⟩ (fun m σ' H' O h=>?_) (fun σ' H' h=>?_)) fun W P=>⟨W,P.1,P.2⟩
    ·obtain ⟨ρ',M',e,L,q'⟩:=h
     have T:m<(br n.toNat).length:=by rw [dh];exact O
     rw [pA T,xv] at q'
     unfold JA at q'
     refine ⟨_,M',w,u,t,j,e,L.set i (.int (0+(m:Int))),?_⟩
     rw [Int.zero_add]
     cases f:G (ρ'.set i (.dat (.int m))) b M' with
     |no=>rw [f] at q';exact q'
     |nx A M2=>rw [f] at q';exact fun a0 H2 B f2=>⟨A,M2,B,f2,q'⟩
     |rt d M2=>rw [f] at q';exact q'
     |ex y M2=>rw [f] at q';exact q'.elim
    ·obtain ⟨ρ',M',e,L,q'⟩:=h
     rw [List.drop_eq_nil_of_le (by rw [dh];exact aA _)] at q'
     exact q' σ' H' e L
   ·rw [if_neg l] at q;exact q.elim
  ·exact q.elim
end
end
section
open PyProof.Rows (envOfC)
inductive ZL (K:aa) (C:af) (vs:List V) (H:Hp) (Q:VK) (E:XK):Prop
 |mk (Hs:Hp) (x:af) (ls:List af) (b:D) (M:Mu) (h0:vs=[.ref x]) (sub:cK Hs H) (so:pW K C x ls b M H Hs) (q:∀ p ws ds,H p=none->M[1]?=some ds->RDs K Hs ws ds->Q (.ref p) (upd H p (.lst ws))):ZL K C vs H Q E
def spR (K:aa) (C:af):Sp:=ZL K C
structure FnR (P:aV) (w:bi) (K:aa) (mg:Str->Option ae) (base:bA) (C:af) (k:Nat):Prop where
 ex:∃ f fd ps,l8 P w K mg base (jN P w) k f fd ps (spR K C)/\FF K C "row" f/\eQ K fd ps []
def q0S (K:aa):TS:=Wd (Wz (fun xs H Q=>∃ p ys,xs=[.ref p]/\(pC K H p ys\/lz K H p ys)/\∀ l,H l=none->Q (.ref l) (upd H l (.lst ys))) (A9 (Yk K (xQ 0) "names") BI))
theorem Xl {e:En}{C:af}{a g:Str}{d:c9}{k:Nat} (D:DM e.K C "row" a d) (T:DkC e.K C) (S:bj [g] [g] (ar d)) (b:∀ {f:af}{j:cr},xz e.K "row" a d f j->eQ e.K j [g] [])
  (h:∀ (f:af) (c:ae) (A:bh) (outer:List Env) (s:ak) (H:Hp) (E:XK),fJ k (A.deeper (gR a (ar d) s.heap.objs.size f c))->zw (iU (jN e.P e.w) e.P e.w e.K e.mg e.base [g] a (ar d) f c A outer s H E) (eF d) (q0S e.K)) :
  FnR e.P e.w e.K e.mg e.base C (k+1):=by
 obtain ⟨f,j,t,I⟩:=D.ex
 refine ⟨f,j,[g],?_,I,b t⟩
 obtain ⟨oc,od,kV,v,pm,an,c,ct,z,rfl,B,m⟩:=t.ex
 refine lM B m S (fun vs H Q E N=>by obtain ⟨_,_,_,_,_,rfl,_⟩:=N;rfl) fun A outer s H vs Q E y n=>?_
 obtain ⟨U,x,ls,bb,M,rfl,sub,so,q⟩:=n
 refine ⟨_,h f c A outer s H E y,?_⟩
 obtain ⟨L,Y,l1,o,l3,r,G,h',rb⟩:=so.ex
 obtain ⟨ns,ex,nx,nd,l⟩:=so
 subst G
 cases l with
 |cons O b1 c1 l =>
  cases l with
  |cons a2 b2 X l =>
   exact ⟨_,rfl,x,C,L,_,.ref o,rfl,h',T.cl,T.n3,wS (i:=2) rfl rfl rfl,o,_,rfl,.inl (.of a2),fun p u=>q p _ _ u rfl b2⟩
def De (i:Nat):GS:=fun ρ _ M=>match ρ[i]? with
 |some .dk=>match M[1]? with
  |some ds=>if ds.length<1000 then .nx ρ M else .no
  |none=>.no
 |_=>.no
section
variable {c:C}{C:af}{x:Str}{p apos rpos bpos cpos pos kp:Pos}{k j kn:Nat}
theorem QQ {pl:Sem Bool} (i:Nat) (T:DkC c.X.K C) (G:FnR c.X.prog c.X.w c.X.K c.X.mg c.X.base C k) (U:fJ j c.X.A) (hx:gy (jN c.X.prog c.X.w) c.X c.E) (hk:k<=j:=by decide) (hm:Ar.contains ("row" : Str)=false:=by decide +kernel) (Q:c.X.N[i]?=some x:=by rfl) (hv:BH c.X.env.scope x:=by first|exact c8 rfl|exact bC (c8 rfl)|exact bC (bC rfl)) (hd:(x==("__debug__" : Str))=false:=by decide)
  (y:(x==("__classdict__" : Str))=false:=by decide)
  (S:bG (.Call (.Attribute (.Name x p) "row" apos) [] [] rpos) c.X.env=(do
   let P <- bG (.Name x p) c.X.env
   j3 apos.atName
   let (f,first) <- kg [P] (lv P "row" pl)
   qw rpos f first (cC rpos (ao [] c.X.env)) (ii rpos (ef [] c.X.env))):=by rfl)
  (h:dB (.Call (.Attribute (.Name x p) "row" apos) [] [] rpos) "append" c.X.env (bG (.Call (.Attribute (.Name x p) "row" apos) [] [] rpos) c.X.env)=bG (.Call (.Attribute (.Name x p) "row" apos) [] [] rpos) c.X.env:=by rfl)
  (s:((cC cpos (ao [.Constant .none kn kp] c.X.env)).all (fun x=>!x.1)&&(ii cpos (ef [] c.X.env)).all (fun x=>x.1.isSome)
   && decide ([Expr.Constant .none kn kp].length+([] : List kh).length+(if ([] : List kh).isEmpty then 0 else 1)<30))=true:=by rfl)
  (g:(bpos.endLine==cpos.line)=true:=by rfl) (m:ao [.Constant .none kn kp] c.X.env=(false,bG (.Constant .none kn kp) c.X.env)::ao [] c.X.env:=by rfl) (d:(cC cpos (ao [] c.X.env)).any (·.1)=false:=by rfl)
  (hs:dE (.Call (.Attribute (.Call (.Attribute (.Name x p) "row" apos) [] [] rpos) "append" bpos) [.Constant .none kn kp] [] cpos) none pos.line c.X.env=pure false:=by rfl) :
  NY c C (.Expr (.Call (.Attribute (.Call (.Attribute (.Name x p) "row" apos) [] [] rpos) "append" bpos) [.Constant .none kn kp] [] cpos) pos) (De i):=.of fun ρ b M=>by
 obtain ⟨f,fd,ps,Y,hM,hb⟩:=G.ex
 refine wI (o9 (yA cj jD jE tS (Aa (E:=c.E) (hV Q hv hd y) T.cl hM Y (U.mono hk) hb .nil hx S) (bv Oi cQ m) h s g m d) hs) fun D σ H hh=>?_
 obtain ⟨O,ls,H0,a0,v,l,q⟩:=hh
 unfold De at q
 split at q
 ·rename_i hi
  obtain ⟨dx,vb,l1,l2,l3,r,u,h',rb⟩:=l.so.ex
  refine ⟨_,l.dk i hi,O,dx,_,rfl,h',le hm,v,O,ls,b,M,rfl,l.st.sub,l.so,fun p B ds t z I=>?_⟩
  rw [z] at q
  simp only at q
  by_cases L:ds.length<1000
  ·rw [if_pos L] at q
   refine ⟨.inl ⟨rfl,_,.of aI⟩,p,B,.non,rfl,rfl,aI,bZ (by rw [I.length];omega),?_⟩
   have st:cn H v (upd (upd H p (.lst B)) p (.lst (B++[.non]))) v:=⟨fun a o e=>by rw [aC (aK e t),aC (aK e t)];exact e,.refl _,fun a o e=>by
    have u:=l.st.sub _ _ e
    rw [aC (aK u t),aC (aK u t)];exact u,fun _ _ _ _ n=>n⟩
   exact q _ _ _ (l.step st)
  ·rw [if_neg L] at q;exact q.elim
 ·exact q.elim
end
structure q0T (K:aa) (C x l1 l2 l3:af) (db dt:D) (H Hs:Hp):Prop where
 ex:∃ dx vb,H x=some (.ins C dx (Ar.zip [vb,.ref l1,.ref l2,.ref l3]))/\RD K Hs vb db
 nx:Hs x=none
 e1:∃ vt,H l1=some (.lst [vt])/\RD K Hs vt dt
 n1:Hs l1=none
 e2:H l2=some (.lst [])
 n2:Hs l2=none
 e3:H l3=some (.lst [])
 n3:Hs l3=none
 nd:[l1,l2,l3].Nodup
structure Lz (K:aa) (C x l1 l2 l3:af) (db dt:D) (H Hs H' Hs':Hp):Prop where
 st:cn H Hs H' Hs'
 at_:q0T K C x l1 l2 l3 db dt H' Hs'
 f1:H l1=none
 f2:H l2=none
 f3:H l3=none
inductive ZM (K:aa) (cls:Str->af) (C:af) (F:List D->R D) (vs:List V) (H1:Hp) (Q:VK) (E:XK):Prop
 |mk (H Hs:Hp) (x dx:af) (vb vt:V) (db dt:D) (h0:vs=[.ref x,vb,vt]) (hx:H x=none) (hdx:H dx=none) (hne:dx≠x) (hH:H1=upd (upd H dx (.own x)) x (.ins C dx [])) (sub:cK Hs H) (rb:RD K Hs vb db) (rt:RD K Hs vt dt)
  (q:Fin K cls E H Hs (F [db,dt]) fun _=>∀ H' Hs' l1 l2 l3,Lz K C x l1 l2 l3 db dt H Hs H' Hs'->Q .non H'):ZM K cls C F vs H1 Q E
def spJ (K:aa) (cls:Str->af) (C:af) (F:List D->R D):Sp:=ZM K cls C F
structure FnJ (P:aV) (w:bi) (K:aa) (mg:Str->Option ae) (base:bA) (cls:Str->af) (C:af) (k:Nat) (F:List D->R D):Prop where
 ex:∃ f fd ps,l8 P w K mg base (jN P w) k f fd ps (spJ K cls C F)/\Mk K C f/\eQ K fd ps []
 mg:mg "Desk"=some (.ref C)
section
variable {P:aV}{w:bi}{K:aa}{mg:Str->Option ae}{base:bA}{cls:Str->af}{C:af}{F:List D->R D}
theorem N6 {H f l g j:Hp}{x k i d h:af}{t s:V}{v y:D} (nx:H x=none) (sub:cK f H) (a:cn (upd (upd H k (.own x)) x (.ins C k [])) f l g) (u:cn H f (upd (upd H k (.own x)) x (.ins C k [])) f) (L:RD K f t v) (M:RD K f s y)
  (n:l i=none) (p:l d=none) (q:l h=none) (A:i≠d) (E:i≠h) (G:d≠h)
  (N:j x=some (.ins C k (Ar.zip [t,.ref i,.ref d,.ref h]))) (z:j i=some (.lst [s])) (I:j d=some (.lst [])) (B:j h=some (.lst [])) (ho:∀ b,b≠x->b≠i->b≠d->b≠h->j b=l b):Lz K C x i d h v y H f j g:=by
 have nm:g x=none:=a.out x _ aI rfl (sub.free nx)
 have m1:=a.sub.free n
 have m2:=a.sub.free p
 have m3:=a.sub.free q
 have m:=u.trans a
 refine ⟨⟨fun b o e=>?_,a.sh,fun b o e=>?_,m.out⟩,⟨⟨k,t,N,L.same a.sh⟩,nm,⟨s,z,M.same a.sh⟩,m1,I,m2,B,m3,by simp [A,E,G]⟩,m.all.free n,m.all.free p,m.all.free q⟩
 ·have c:=m.all _ _ e
  rw [ho b (aK e nx) (aK c n) (aK c p) (aK c q)];exact c
 ·have c:=a.sub _ _ e
  rw [ho b (aK e nm) (aK c n) (aK c p) (aK c q)];exact c
end
end
section
open PyProof.Rows (envOfC)
section
variable {P:aV}{w:bi}{K:aa}{mg:Str->Option ae}{base:bA}{cls:Str->af}{C:af}{F:List D->R D}
theorem N7 {H f:Hp}{x a:af}{c G:V}{k n:D}{E:XK}{D:uG} (T:DkC K C) (nx:H x=none) (a1:H a=none) (ne:a≠x) (sub:cK f H) (rb:RD K f c k) (rt:RD K f G n)
  (q:Fin K cls E H f (F [k,n]) fun _=>∀ H' t i j A,Lz K C x i j A k n H f H' t->D.nx [some (.ref x),some c,some G] H') :
  VO K cls E F [.no,.shr k,.shr n] D [some (.ref x),some c,some G] (upd (upd H a (.own x)) x (.ins C a [])):=by
 have s0:cK H (upd (upd H a (.own x)) x (.ins C a [])):=fun b o e=>by
  rw [aC (aK e nx),aC (aK e a1)];exact e
 have L:cn H f (upd (upd H a (.own x)) x (.ins C a [])) f:=⟨s0,.refl _,sub.trans s0,fun _ _ _ _ z=>z⟩
 have fr:Fr K (upd (upd H a (.own x)) x (.ins C a [])) f (fun _=>none) [.no,.shr k,.shr n] [some (.ref x),some c,some G] (upd (upd H a (.own x)) x (.ins C a [])) f :=
  (Fr.start (N:=["",""]) (sub.trans s0) (.cons rb (.cons rt .nil))).consNo
 refine ⟨_,_,_,_,fr,?_⟩
 show Fin K cls E _ _ (F [k,n]) _
 cases X:F [k,n] with
 |no=>rw [X] at q;exact q
 |ex y m=>rw [X] at q;exact fun H' t s=>q H' t (L.trans s)
 |ok d =>
  rw [X] at q
  intro v H1 I s1 _
  have a0:H1 x=some (.ins C a []):=s1.all _ _ aI
  have p1:nV "book" c []=[(("book" : Str),c)]:=rfl
  have p2:∀ v,nV "states" v [(("book" : Str),c)]=[(("book" : Str),c),(("states" : Str),v)]:=fun v=>wU (by rw [bd,show (("states" : Str) == "book")=false by decide +kernel];rfl)
  have p3:∀ v u,nV "names" u [(("book" : Str),c),(("states" : Str),v)]=[(("book" : Str),c),(("states" : Str),v),(("names" : Str),u)]:=fun v u=>wU (by rw [bd,show (("names" : Str) == "book")=false by decide +kernel,bd,show (("names" : Str) == "states")=false by decide +kernel];rfl)
  have p4:∀ v u z,nV "undone" z [(("book" : Str),c),(("states" : Str),v),(("names" : Str),u)]=Ar.zip [c,v,u,z]:=fun v u z=>wU (by rw [bd,show (("undone" : Str) == "book")=false by decide +kernel,bd,show (("undone" : Str) == "states")=false by decide +kernel,bd,show (("undone" : Str) == "names")=false by decide +kernel];rfl)
  refine ⟨_,rfl,_,rfl,x,C,a,[],rfl,a0,T.cl,T.n1,by decide,?_⟩
  rw [p1]
  refine ⟨_,rfl,bt (bZ (show 1<=1000 by decide)),fun i B=>⟨_,rfl,x,C,a,[(("book" : Str),c)],rfl,by rw [aC (fun z=>by rw [<- z,aI] at B;cases B),aI],T.cl,T.n2,by show 1<1000;decide,?_⟩⟩
  rw [p2]
  have p:i≠x:=fun z=>by rw [z,aI] at B;cases B
  rw [aC p] at B
  refine ⟨cy _,fun j l=>⟨_,rfl,x,C,a,[(("book" : Str),c),(("states" : Str),.ref i)],rfl,by rw [aC (fun z=>by rw [<- z,aI] at l;cases l),aI],T.cl,T.n3,by show 2<1000;decide,?_⟩⟩
  rw [p3]
  have M:j≠x:=fun z=>by rw [z,aI] at l;cases l
  have O:j≠i:=fun z=>by rw [z,aC p,aI] at l;cases l
  rw [aC M,aC O,aC M] at l
  refine ⟨cy _,fun A h=>⟨_,rfl,x,C,a,[(("book" : Str),c),(("states" : Str),.ref i),(("names" : Str),.ref j)],rfl,by rw [aC (fun z=>by rw [<- z,aI] at h;cases h),aI],T.cl,T.n4,by show 3<1000;decide,?_⟩⟩
  rw [p4]
  have S:A≠x:=fun z=>by rw [z,aI] at h;cases h
  have Y:A≠j:=fun z=>by rw [z,aC M,aI] at h;cases h
  have z3:A≠i:=fun z=>by rw [z,aC p,aC O.symm,aC p,aI] at h;cases h
  rw [aC S,aC Y,aC S,aC z3,aC S] at h
  have fin:∀ Q,Lz K C x i j A k n H f Q I->D.nx [some (.ref x),some c,some G] Q:=fun Q g=>q Q I i j A g
  refine fin _ ?_
  exact N6 nx sub s1 L rb rt B l h O.symm z3.symm Y.symm aI (by rw [aC p,aC z3.symm,aC p,aC O.symm,aC p,aI]) (by rw [aC M,aC Y.symm,aC M,aI]) (by rw [aC S,aI]) (fun b U b1 b2 b3=>by rw [aC U,aC b3,aC U,aC b2,aC U,aC b1,aC U])
end
theorem QR {e:En}{C:af}{a i g j:Str}{d:c9}{k:Nat}{F:List D->R D} (D:DM e.K C "__init__" a d) (T:DkC e.K C) (mk:lV e.K C=true) (kp:bV e.K (.ref C)=true) (M:e.mg "Desk"=some (.ref C)) (S:bj [i,g,j] [i,g,j] (ar d))
  (b:∀ {f:af}{l:cr},xz e.K "__init__" a d f l->eQ e.K l [i,g,j] [])
  (h:∀ (f:af) (c:ae) (A:bh) (outer:List Env) (s:ak) (H:Hp) (E:XK),fJ k (A.deeper (gR a (ar d) s.heap.objs.size f c))->∀ ρ,zw (iU (jN e.P e.w) e.P e.w e.K e.mg e.base [i,g,j] a (ar d) f c A outer s H E) (eF d) (VO e.K e.cls E F ρ)) :
  FnJ e.P e.w e.K e.mg e.base e.cls C (k+1) F:=by
 obtain ⟨f,l,u,t⟩:=D.ex
 refine ⟨⟨f,l,[i,g,j],?_,⟨mk,t.at_,t.fn,kp⟩,b u⟩,M⟩
 obtain ⟨oc,od,kV,y,pm,an,c,ct,B,rfl,G,n⟩:=u.ex
 refine lM G n S (fun vs H Q E m=>by obtain ⟨_,_,_,_,_,_,_,_,rfl,_⟩:=m;rfl) fun A outer s H vs Q E z o=>?_
 obtain ⟨H0,X,x,dx,Y,U,v,I,rfl,nx,p,L,rfl,sub,N,O,q⟩:=o
 exact ⟨_,h f c A outer s _ E z [.no,.shr v,.shr I],N7 T nx p L sub N O q⟩
def Xm:Sl->MS
 |.shr d=>.dat d
 |_=>.no
section
variable {K:aa}{C x:af}{ls:List af}{b:D}{M:Mu}{H0 Hs0 H Hs:Hp}{ρ:cR}{σ:St}
theorem pX.put (f:pX K C x ls b H0 Hs0 ρ M σ H Hs) (i:Nat) {s:MS}{v:V} (n:∀ d,s≠.dat d) (l:s=.dk->v=.ref x) (m:∀ j,s=.ml j->∃ a,ls[j]?=some a/\v=.ref a):pX K C x ls b H0 Hs0 (ρ.set i s) M (σ.set i (some v)) H Hs:=by
 have nx:∀ {k:Nat}{t:MS},(ρ.set i s)[k]?=some t->(i=k/\t=s/\i<ρ.length)\/(ρ[k]?=some t/\i≠k):=fun {k t} e=>by
  by_cases c:i=k
  ·subst c
   by_cases g:i<ρ.length
   ·rw [aJ g] at e;exact .inl ⟨rfl,(bO e).symm,g⟩
   ·rw [bS (by simpa using g)] at e;cases e
  ·rw [am c] at e;exact .inr ⟨e,c⟩
 have h:i<ρ.length->(σ.set i (some v))[i]?=some (some v):=fun g=>aJ (by rw [<- f.len];exact g)
 refine ⟨f.st,by rw [sw,sw];exact f.len,f.so,fun k d e=>?_,fun k e=>?_,fun k j e=>?_⟩
 ·rcases nx e with ⟨_,z,_⟩|⟨e,c⟩
  ·exact absurd z.symm (n d)
  ·rw [am c];exact f.dt k d e
 ·rcases nx e with ⟨rfl,z,g⟩|⟨e,c⟩
  ·rw [h g,l z.symm]
  ·rw [am c];exact f.dk k e
 ·rcases nx e with ⟨rfl,z,g⟩|⟨e,c⟩
  ·obtain ⟨a,k1,k2⟩:=m j z.symm
   exact ⟨a,k1,by rw [h g,k2]⟩
  ·rw [am c];exact f.ml k j e
theorem pX.ofFr {a:aB}{n:Nat->Option af}{l g:Hp} (f:Fr K l g n a σ H0 Hs0) (h:cn H0 Hs0 H Hs) (so:pW K C x ls b M H Hs):pX K C x ls b H Hs (a.map Xm) M σ H Hs:=by
 refine ⟨.refl h.sub,by rw [aw];exact f.len,so,fun i d e=>?_,fun i e=>?_,fun i j e=>?_⟩
 all_goals
  rw [aH] at e
  cases c:a[i]? with
  |none=>rw [c] at e;cases e
  |some s =>
   rw [c,cJ] at e
   cases s with
   |shr d'=>first|(cases e;obtain ⟨v,k,m⟩:=f.sh i _ c;exact ⟨v,k,m.same h.sh⟩)|cases e
   |no=>cases e
   |own _=>cases e
   |lck _=>cases e
   |ow2 _=>cases e
end
def mu0 (a:D):Mu:=[[a],[],[],[a],[],[]]
def Df (h i id j e f:Nat) (F:List D->R D) (g:GS):aB->R Fl:=fun a=>match (dA a)[h]?,(dA a)[i]? with
 |some (.shr b),some (.shr c)=>match F [b,c] with
  |.ok _=>match g ((((((dA a).map Xm).set id .dk).set j (.ml 3)).set e (.ml 4)).set f (.ml 5)) b (mu0 c) with
   |.rt d _=>.ok (.rt d)
   |_=>.no
  |_=>.no
 |_,_=>.no
section
variable {c:C}{C:af}{bU:List c9}{GR:GS}{F:List D->R D}{xb xs xd x4 x5 x6:Str}{k j:Nat}{q1 q2 q3 q4 q5 q6 a1 a2 a3 a4 b1 b2 b3 c1 s1 s2 s3 s4:Pos}
theorem QS (ib is id i4 i5 i6:Nat) (b8:is≠id) (G:FnJ c.X.prog c.X.w c.X.K c.X.mg c.X.base c.cls C k F) (T:DkC c.X.K C) (hr:fJ j c.X.A) (hx:gy (jN c.X.prog c.X.w) c.X c.E) (y:yb c C bU GR) (hN:c.X.N.Nodup)
  (hk:k+1<=j:=by decide) (hg:Gl c.X "Desk":=by exact rfl) (hb:c.X.N[ib]?=some xb:=by rfl) (hs:c.X.N[is]?=some xs:=by rfl) (hd:c.X.N[id]?=some xd:=by rfl) (h4:c.X.N[i4]?=some x4:=by rfl) (h5:c.X.N[i5]?=some x5:=by rfl) (h6:c.X.N[i6]?=some x6:=by rfl)
  (vb:BH c.X.env.scope xb:=by first|exact c8 rfl|exact bC (c8 rfl)|exact bC (bC rfl)) (vs:BH c.X.env.scope xs:=by first|exact c8 rfl|exact bC (c8 rfl)|exact bC (bC rfl))
  (ld:Fo c.X.env.scope xd:=by first|exact c8 rfl|exact bC rfl) (l4:Fo c.X.env.scope x4:=by first|exact c8 rfl|exact bC rfl) (l5:Fo c.X.env.scope x5:=by first|exact c8 rfl|exact bC rfl) (l6:Fo c.X.env.scope x6:=by first|exact c8 rfl|exact bC rfl)
  (a6:(xb==("__debug__" : Str))=false:=by decide) (a7:(xb==("__classdict__" : Str))=false:=by decide) (M:(xs==("__debug__" : Str))=false:=by decide) (P:(xs==("__classdict__" : Str))=false:=by decide)
  (he:ao [.Name xb q1,.Name xs q2] c.X.env=(false,bG (.Name xb q1) c.X.env)::ao [.Name xs q2] c.X.env:=by rfl) (b0:ao [.Name xs q2] c.X.env=(false,bG (.Name xs q2) c.X.env)::ao [] c.X.env:=by rfl) (a9:ao [.Name xs q3] c.X.env=(false,bG (.Name xs q3) c.X.env)::ao [] c.X.env:=by rfl)
  (c2:(cC c1 (ao [.Name xs q2] c.X.env)).any (·.1)=false:=by rfl)
  (w1:dE (.Call (.Name "Desk" q4) [.Name xb q1,.Name xs q2] [] c1) (some (.Name xd a1)) s1.line c.X.env=pure false:=by rfl) (w2:dE (.List [.Name xs q3] b1) (some (.Name x4 a2)) s2.line c.X.env=pure false:=by rfl) (w3:dE (.List [] b2) (some (.Name x5 a3)) s3.line c.X.env=pure false:=by rfl) (w4:dE (.List [] b3) (some (.Name x6 a4)) s4.line c.X.env=pure false:=by rfl)
  (fd:c.X.fn xd=true\/c.X.env.scope.names.lookup xd=some .local:=by first|exact .inl rfl|exact .inr rfl|assumption) (f4:c.X.fn x4=true\/c.X.env.scope.names.lookup x4=some .local:=by first|exact .inl rfl|exact .inr rfl|assumption) (f5:c.X.fn x5=true\/c.X.env.scope.names.lookup x5=some .local:=by first|exact .inl rfl|exact .inr rfl|assumption) (f6:c.X.fn x6=true\/c.X.env.scope.names.lookup x6=some .local:=by first|exact .inl rfl|exact .inr rfl|assumption) :
  Jk c (.Assign [.Name xd a1] (.Call (.Name "Desk" q4) [.Name xb q1,.Name xs q2] [] c1) s1::.Assign [.Name x4 a2] (.List [.Name xs q3] b1) s2::.Assign [.Name x5 a3] (.List [] b2) s3::.Assign [.Name x6 a4] (.List [] b3) s4::bU) (Df ib is id i4 i5 i6 F GR):=.of fun c5=>by
 obtain ⟨f,c4,ps,hf,hM,c0⟩:=G.ex
 refine WV (eu (qz hN hd ld (SC (E:=c.E) hM hf (hr.mono hk) hg G.mg c0 .nil hx (bv (hV hb vb a6 a7) (bv (hV hs vs M P) cQ b0) he) (by decide) he c2) w1 fd)
  (eu (qz hN h4 l4 (jv (bv (hV hs vs M P) cQ a9)) w2 f4) (eu (qz hN h5 l5 (jv cQ) w3 f5) (eu (qz hN h6 l6 (jv cQ) w4 f6) (Jy (α:=cR×D×Mu) fun z=>y.run z.1 z.2.1 z.2.2))))) fun D σ H hh=>?_
 obtain ⟨H0,d2,la,O,f',q⟩:=hh
 obtain ⟨Hs,fr⟩:=f'.shared
 unfold Df at q
 split at q
 ·rename_i db dt eb et
  split at q
  ·rename_i d0 hF
   split at q
   ·rename_i d M' hG
    obtain ⟨ub,b6,a8⟩:=fr.sh ib db eb
    obtain ⟨l,L,Q⟩:=fr.sh is dt et
    refine ⟨ub,b6,l,L,fun x dx nx c3 ne=>⟨H,Hs,x,dx,ub,l,db,dt,rfl,nx,c3,ne,rfl,fr.st.sub,a8,Q,?_⟩⟩
    rw [hF]
    intro B g m1 m2 m3 N
    refine ⟨rfl,?_⟩
    refine ⟨l,by rw [am (eC b8)];exact L,bt (bZ (show 1<=1000 by decide)),fun i I=>?_⟩
    refine ⟨cy _,fun m p=>⟨cy _,fun u h=>?_⟩⟩
    have y5:m≠i:=fun z=>by rw [z,aI] at p;cases p
    rw [aC y5] at p
    have U:u≠m:=fun z=>by rw [z,aI] at h;cases h
    rw [aC U] at h
    have z6:u≠i:=fun z=>by rw [z,aI] at h;cases h
    rw [aC z6] at h
    have A:=N.at_
    obtain ⟨a5,a0,hX,rB⟩:=A.ex
    obtain ⟨d1,h1,rT⟩:=A.e1
    have t1:cn B g (upd B i (.lst [l])) g:=.mine N.st.sub I
    have t2:cn (upd B i (.lst [l])) g (upd (upd B i (.lst [l])) m (.lst [])) g:=.mine t1.sub (by rw [aC y5];exact p)
    have t3:cn (upd (upd B i (.lst [l])) m (.lst [])) g (upd (upd (upd B i (.lst [l])) m (.lst [])) u (.lst [])) g:=.mine t2.sub (by rw [aC U,aC z6];exact h)
    have t:=t1.trans (t2.trans t3)
    have S:=N.st.trans t
    have g4:H i=none:=N.st.all.free I
    have g5:H m=none:=N.st.all.free p
    have g6:H u=none:=N.st.all.free h
    have so:pW c.X.K C x [m1,m2,m3,i,m,u] db (mu0 dt) (upd (upd (upd B i (.lst [l])) m (.lst [])) u (.lst [])) g:=by
     refine ⟨T.ns,⟨a5,a0,m1,m2,m3,[i,m,u],rfl,t.all _ _ hX,rB⟩,A.nx,?_,.cons (t.all _ _ h1) (.cons rT .nil) A.n1 (.cons (t.all _ _ A.e2) .nil A.n2 (.cons (t.all _ _ A.e3) .nil A.n3 (.cons (vs:=[l]) ?_ (.cons (Q.same N.st.sh) .nil) (N.st.sub.free I) (.cons ?_ .nil (N.st.sub.free p) (.cons aI .nil (N.st.sub.free h) .nil)))))⟩
     ·have Y:=A.nd
      simp only [Sf,bf,aY,or_false,not_or,not_false_eq_true,ij,and_true] at Y ⊢
      exact ⟨⟨Y.1.1,Y.1.2,aK h1 I,aK h1 p,aK h1 h⟩,⟨Y.2,aK A.e2 I,aK A.e2 p,aK A.e2 h⟩,⟨aK A.e3 I,aK A.e3 p,aK A.e3 h⟩,⟨y5.symm,z6.symm⟩,U.symm⟩
     ·rw [aC z6.symm,aC y5.symm,aI]
     ·rw [aC U.symm,aI]
    have F0:=pX.ofFr fr S so
    have F1:=F0.put id (s:=.dk) (v:=.ref x) (fun _ z=>by cases z) (fun _=>rfl) (fun _ z=>by cases z)
    have F2:=F1.put i4 (s:=.ml 3) (v:=.ref i) (fun _ z=>by cases z) (fun z=>by cases z) (fun _ z=>by cases z;exact ⟨_,rfl,rfl⟩)
    have F3:=F2.put i5 (s:=.ml 4) (v:=.ref m) (fun _ z=>by cases z) (fun z=>by cases z) (fun _ z=>by cases z;exact ⟨_,rfl,rfl⟩)
    have F4:=F3.put i6 (s:=.ml 5) (v:=.ref u) (fun _ z=>by cases z) (fun z=>by cases z) (fun _ z=>by cases z;exact ⟨_,rfl,rfl⟩)
    refine ⟨(_,db,mu0 dt),x,_,_,_,_,F4,?_⟩
    rw [hG]
    intro v H' O ms _ rv
    refine q v H' O ⟨fun a o e=>?_,(fr.st.sh.trans S.sh).trans ms.sh,ms.sub,fun a o e tt n=>?_⟩ rv
    ·have b:=fr.st.all _ _ e
     refine ms.all a o (S.all _ _ b) fun z=>?_
     simp only [bf,aY,or_false] at z
     rcases z with z|z|z|z|z|z<;>subst z
     ·rw [N.f1] at b;cases b
     ·rw [N.f2] at b;cases b
     ·rw [N.f3] at b;cases b
     ·rw [g4] at b;cases b
     ·rw [g5] at b;cases b
     ·rw [g6] at b;cases b
    ·have b:=fr.st.all _ _ e
     exact ms.out a (.inr ⟨o,S.all _ _ b,tt⟩) (S.out _ _ b tt (fr.st.out _ _ e tt n))
   ·exact q.elim
  ·exact q.elim
 ·exact q.elim
end
end
def Dg (i:Nat) (g:aB->R D):aB->R Fl:=fun ρ=>match ρ[i]? with
 |some (Sl.shr (.int a))=>(g ρ).bind fun d=>match d with
  |.int b=>.ok (.nx (ρ.set i (.shr (.int (a-b)))))
  |_=>.no
 |_=>.no
theorem Ud (i:Nat) (h:JE c e g) (l:c.X.N.Nodup) (o:c.X.N[i]?=some x:=by rfl) (z:Fo c.X.env.scope x:=by first|exact c8 rfl|exact bC rfl)
  (n:c.X.fn x=true\/c.X.env.scope.names.lookup x=some .local:=by first|exact .inl rfl|exact .inr rfl|assumption):JS c (.AugAssign (.Name x p) .Sub e pos) (Dg i g):=.of fun ρ=>by
 refine wI (Wi l o z (h ρ) Wj n) fun D' σ H u=>?_;obtain ⟨m,k,A,I,f,q⟩:=u;replace q:pS c.X.K c.cls c.E m k A D' (Dg i g ρ):=q;unfold Dg at q;split at q
 ·rename_i a ho
  obtain ⟨v,k1,k2⟩:=f.sh i _ ho;have y:v=.int a:=by cases k2;rfl
  subst y;refine ⟨.int a,k1,?_⟩;refine sE f q fun d v G j t B s w=>?_;rw [t,bind_ok] at q;cases w with
  |int b=>exact ⟨a,b,rfl,rfl,q _ _ j (s.set i (.int _))⟩
  |list _ _=>exact q.elim
  |none=>exact q.elim
  |bool _=>exact q.elim
  |str _=>exact q.elim
  |tuple _ _=>exact q.elim
  |dictK _ _=>exact q.elim
  |dictT _ _ _=>exact q.elim
  |dictF _ _ _=>exact q.elim
  |desk _ _ _ _=>exact q.elim
 ·exact q.elim
theorem ln7 {α:Type}{us:List α} (h:us.length=7):∃ a b c d e f g,us=[a,b,c,d,e,f,g]:=by
 match us,h with
 |[a,b,c,d,e,f,g],_=>exact ⟨a,b,c,d,e,f,g,rfl⟩
section
variable {K:aa}{x a0 a1 a2 a3 a4 a5 a6:Str}{st:c9}{f:af}{fd:cr}
theorem b7 (F:xz K x x st f fd) (h:∀ d g c a i e b,Bq x st [d,g,c,a,i,e,b] [(a0,d),(a1,g),(a2,c),(a3,a),(a4,i),(a5,e),(a6,b)]:=by exact fun _ _ _ _ _ _ _ _ _ _ _ _ _=>rfl):eQ K fd [a0,a1,a2,a3,a4,a5,a6] []:=F.binds fun _ _ _ _ _ _ us j=>by obtain ⟨_,_,_,_,_,_,_,rfl⟩:=ln7 j;exact h ..
end
end J
namespace Z
open PySem L2 J
def Y0 (y:Str):Option Nat:=if y="NoState" then some 1 else if y="NoBook" then some 0 else if y="NoErrand" then some 3 else if y="Nothing" then some 9 else none
def kH:aB->R Fl:=(eA (G7 (c7 (ah (dJ 1 [1] (kz (rB 0)) kT (g2 (rB 0) (rB 1) (xA false))) aN) (j9 (h_ fun bs=>bs.any id)))))
def gI:List D->R D:=gm 2 kH
def ud:aB->R Fl:=(eA (c7 (ah (dJ 1 [1] (kz (rB 0)) (eT (g2 (rB 0) (rB 1) (xA true))) (rS 0)) aN) (j9 iM)))
def ue:List D->R D:=gm 2 ud
def wX:aB->R Fl:=(eA (c7 (ah (lO (QB (qK (rB 0)) (qK (rB 1)))) aN) (j9 iM)))
def wY:List D->R D:=gm 2 wX
def uf:aB->R Fl:=(bu (fS (y0 (jH (eT (wL (rB 0) "str"))) (jH (eT (sI (kI 1) (c7 (ah (rB 0) aN) (j9 kR)) (kI 6) Vi Vi)))) (eA (kB false)) (fun ρ=>.ok (.nx ρ))) (eA (c7 (ah (dJ 1 [] (kz (rB 0)) kT (sI (fun _=>.ok (.str "a")) (rB 0) (fun _=>.ok (.str "z")) Vi Vi)) aN) (j9 (h_ fun bs=>bs.all id)))))
def q0:List D->R D:=gm 1 uf
def iu:aB->R Fl:=(bu (fS (y0 (jH (eT (wL (rB 0) "tuple"))) (jH (eT (c7 (ah (dJ 1 [] (kz (rB 0)) kT (gN 1 q0 (ah (rS 0) aN))) aN) (j9 (h_ fun bs=>bs.all id)))))) (eA (kB false)) (fun ρ=>.ok (.nx ρ))) (eA (c7 (ah (dJ 2 [] (Tr (ah (rS 0) (ah (Vk (rB 0) (Tk (kI 1)) XV) aN))) kT (g2 (rB 0) (rB 1) Jh)) aN) (j9 (h_ fun bs=>bs.all id)))))
def f_:List D->R D:=gm 1 iu
def oo:aB->R Fl:=(eA (At (gN 1 f_ (ah (rS 1) aN)) (c7 (ah (dJ 1 [0] (kz (rB 1)) kT (g2 (rB 0) (rB 1) (xA false))) aN) (j9 (h_ fun bs=>bs.all id)))))
def j_:List D->R D:=gm 2 oo
def qO:aB->R Fl:=(bu (fS (y0 (jH (eT (wL (rB 0) "int"))) (eT (wL (rB 0) "bool"))) (eA (kB false)) (fun ρ=>.ok (.nx ρ))) (eA (sI (rB 1) (rB 0) (rB 2) Vi Vi)))
def qP:List D->R D:=gm 3 qO
def oq:aB->R Fl:=(bu (fS (y0 (jH (eT (wL (rB 1) "tuple"))) (eT (g2 (c7 (ah (rB 1) aN) (j9 kR)) (kI 6) (ir true)))) (eA (kB false)) (fun ρ=>.ok (.nx ρ))) (bu (zc (rS 1) (sL 6 (eJ (cV 2) (eJ (cV 3) (eJ (cV 4) (eJ (cV 5) (eJ (cV 6) (eJ (cV 7) vj)))))))) (bu (fS (y0 (jH (eT (gN 1 q0 (ah (rS 2) aN)))) (jH (eT (gN 3 qP (ah (rS 7) (ah (kI 0) (ah (kI 9) aN))))))) (eA (kB false)) (fun ρ=>.ok (.nx ρ))) (bu (fS (jH (eT (c7 (ah (dJ 1 [0] (kz (fj (ah (rS 3) (ah (rS 4) (ah (rS 5) (ah (rS 6) aN)))) .tuple)) kT (gN 2 j_ (ah (rS 1) (ah (rS 0) aN)))) aN) (j9 (h_ fun bs=>bs.all id))))) (eA (kB false)) (fun ρ=>.ok (.nx ρ))) (eA (At (gN 2 gI (ah (rS 3) (ah (rS 4) aN))) (gN 2 gI (ah (rS 5) (ah (rS 6) aN)))))))))
def ou:List D->R D:=gm 8 oq
def ug:aB->R Fl:=(bu (fS (y0 (jH (eT (wL (rB 0) "tuple"))) (eT (g2 (c7 (ah (rB 0) aN) (j9 kR)) (kI 2) (ir true)))) (eA (kB false)) (fun ρ=>.ok (.nx ρ))) (bu (zc (rS 0) (sL 2 (eJ (cV 1) (eJ (cV 2) vj)))) (bu (fS (y0 (jH (eT (gN 1 f_ (ah (rS 1) aN)))) (eT (g2 (c7 (ah (rB 1) aN) (j9 kR)) (kI 6) NT))) (eA (kB false)) (fun ρ=>.ok (.nx ρ))) (bu (fS (y0 (jH (eT (wL (rB 2) "tuple"))) (eT (g2 (c7 (ah (rB 2) aN) (j9 kR)) (kI 6) NT))) (eA (kB false)) (fun ρ=>.ok (.nx ρ))) (bu (fS (jH (eT (c7 (ah (dJ 1 [1] (kz (rB 2)) kT (gN 2 ou (ah (rS 1) (ah (rS 0) aN)))) aN) (j9 (h_ fun bs=>bs.all id))))) (eA (kB false)) (fun ρ=>.ok (.nx ρ))) (eA (g2 (wP (y9 1 [] (kz (rB 2)) kT (g2 (rB 0) (kI 0) aS))) (c7 (ah (rB 2) aN) (j9 kR)) (ir false))))))))
def uh:List D->R D:=gm 3 ug
def lA:aB->R Fl:=(fS (jH (eT (gN 2 j_ (ah (g2 (rB 0) (kI 0) aS) (ah (rS 1) aN))))) (pc "NoState" (ah (fun _=>.ok (.str "a state is a rising tuple of the book's facts, none twice")) aN)) (fun ρ=>.ok (.nx ρ)))
def lB:List D->R D:=gm 2 lA
def iE:aB->R Fl:=(bu (fS (jH (eT (wL (rB 1) "str"))) (eA kN) (fun ρ=>.ok (.nx ρ))) (bu (y8 (kz (g2 (rB 0) (kI 1) aS)) (cV 2) (fS (eT (g2 (g2 (rB 2) (kI 0) aS) (rB 1) (ir false))) (eA (rS 2)) (fun ρ=>.ok (.nx ρ)))) (eA kN)))
def eR:List D->R D:=gm 3 iE
def ui:aB->R Fl:=(bu (zc (rS 1) (sL 2 (eJ (cV 2) (eJ (cV 3) vj)))) (eA (At (c7 (ah (dJ 1 [0] (kz (rB 2)) kT (g2 (rB 0) (rB 1) (xA false))) aN) (j9 (h_ fun bs=>bs.all id))) (gN 2 gI (ah (rS 3) (ah (rS 0) aN))))))
def uj:List D->R D:=gm 4 ui
def oy:aB->R Fl:=(eA (gN 2 uj (ah (rS 1) (ah (fj (ah (g2 (rB 0) (kI 1) aS) (ah (g2 (rB 0) (kI 2) aS) aN)) .tuple) aN))))
def oz:List D->R D:=gm 2 oy
def kJ:aB->R Fl:=(bu (QC 2 3 (ah (g2 (rB 0) (kI 3) aS) (ah (g2 (rB 0) (kI 4) aS) aN))) (eA (gN 2 wY (ah (gN 2 ue (ah (rS 1) (ah (rS 3) aN))) (ah (rS 2) aN)))))
def kK:List D->R D:=gm 4 kJ
def uk:aB->R Fl:=(bu (fS (jH (eT (gN 1 uh (ah (rS 0) aN)))) (pc "NoBook" (ah (fun _=>.ok (.str "a book is a tuple of facts and errands, each as the document tells")) aN)) (fun ρ=>.ok (.nx ρ))) (eA (rS 0)))
def ul:List D->R D:=gm 1 uk
def lC:aB->R Fl:=(bu (CO (gN 1 ul (ah (rS 0) aN))) (CO (gN 2 lB (ah (rS 0) (ah (rS 1) aN)))))
def fQ:List D->R D:=gm 2 lC
def yc:aB->R Fl:=(bu (CO (gN 2 fQ (ah (rS 0) (ah (rS 1) aN)))) (bu (jl 3 (gN 2 eR (ah (rS 0) (ah (rS 2) aN)))) (bu (fS (y0 (eT (g2 (rB 3) kN (KQ false))) (jH (eT (gN 2 oz (ah (rS 3) (ah (rS 1) aN)))))) (pc "NoErrand" (ah (fun _=>.ok (.str "it is no name of an errand that can be done")) aN)) (fun ρ=>.ok (.nx ρ))) (eA (gN 2 kK (ah (rS 3) (ah (rS 1) aN)))))))
def gU:List D->R D:=gm 4 yc
def mG:aB->R Fl:=(eA (g2 (wT 1 (rS 0)) (pT (kI 1)) aS))
def eO:List D->R D:=gm 1 mG
def vy:aB->R Fl:=(eA (c7 (ah (wT 2 (rS 0)) aN) (j9 kC)))
def vz:List D->R D:=gm 1 vy
def mH:aB->R Fl:=(eA (c7 (ah (dJ 1 [0] (kz (wT 2 (rS 0))) kT (g2 (gN 2 eR (ah (wT 0 (rS 1)) (ah (rS 0) aN))) (kI 5) aS)) aN) (j9 BY)))
def kL:List D->R D:=gm 1 mH
def gJ:GS:=(cW (fA (kF (Ex 0 0) (gP (gN 3 gU (ah (wT 0 (rS 0)) (ah (qM 1 eO (rS 0) aN) (ah (rS 1) aN))))))) (fA (kF (Ex 0 1) (gP (rS 1)))))
def eX:D->Mu->List D->RM D:=uJ 2 gJ
def nu:GS:=(cW (fA (Xh 0 eX (gP (rS 1)))) (fA (AL (Ex 0 2))))
def q9:D->Mu->List D->RM D:=uJ 2 nu
def gK:GS:=(cW (kS (zF (jH (MY (wT 2 (rS 0))))) (Db (pc "Nothing" (ah (fun _=>.ok (.str "no errand is there to be taken back")) aN))) (fun ρ _ M=>.nx ρ M)) (cW (fA (p_ (Ex 0 0))) (fA (kF (Ex 0 2) (p_ (Ex 0 1))))))
def i9:D->Mu->List D->RM D:=uJ 1 gK
def jK:GS:=(cW (kS (zF (jH (MY (wT 3 (rS 0))))) (Db (pc "Nothing" (ah (fun _=>.ok (.str "no errand is there to be done again")) aN))) (fun ρ _ M=>.nx ρ M)) (fA (Xh 0 eX (p_ (Ex 0 2)))))
def kM:D->Mu->List D->RM D:=uJ 1 jK
def iT:aB->R Fl:=(bu (fS (y0 (jH (eT (wL (rB 1) "str"))) (eT (g2 (rB 1) (qM 1 eO (rS 0) aN) (xA true)))) (eA kN) (fun ρ=>.ok (.nx ρ))) (bu (jl 2 (c7 (ah (wT 2 (rS 0)) aN) (j9 kR))) (bu (kA (oY (eT (g2 (rB 2) (kI 0) NT)) (eT (g2 (rB 1) (g2 (wT 1 (rS 0)) (g2 (rB 2) (kI 1) Au) aS) (xA false)))) (Dg 2 (kI 1)) 100000) (eA (rS 2)))))
def gL:List D->R D:=gm 3 iT
def lE:aB->R Fl:=(bu (fS (eT (g2 (rB 1) (c7 (ah (rB 0) aN) (j9 kR)) Jh)) (eA (g2 (rB 0) (rB 1) aS)) (fun ρ=>.ok (.nx ρ))) (bu (fS (eT (g2 (rB 0) (fj aN .list) (ir false))) (eA (kI 0)) (fun ρ=>.ok (.nx ρ))) (eA (g2 (g2 (g2 (rB 0) (g2 (rB 1) (c7 (ah (rB 0) aN) (j9 kR)) MM) aS) (kI 31) wK) (rB 1) dI))))
def lF:List D->R D:=gm 2 lE
def oA:aB->R Fl:=(bu (jl 3 (g2 (g2 (g2 (g2 (gN 2 lF (ah (rS 0) (ah (rS 1) aN))) (g2 (kI 7919) (rB 1) wK) dI) (kI 1) dI) (kI 48271) wK) (kI 2147483647) MM)) (eA (g2 (g2 (g2 (g2 (g2 (rB 3) (rB 3) wK) (g2 (kI 7) (rB 3) wK) dI) (rB 1) dI) (kI 2147483629) MM) (rB 2) MM)))
def aU:List D->R D:=gm 4 oA
def qQ:aB->R Fl:=(bu (jl 2 (fun _=>.ok (.str ""))) (bu (y8 (CT (ah (g2 (fj (ah (kI 1) (ah (kI 2) (ah (kI 3) (ah (kI 6) (ah (kI 1) (ah (kI 4) aN)))))) .list) (gN 3 aU (ah (rS 0) (ah (rS 1) (ah (kI 6) aN)))) aS) aN)) (cV 3) (jl 2 (g2 (rB 2) (g2 (fun _=>.ok (.str "abcdefghijklmnopqrstuvwxyz")) (gN 3 aU (ah (rS 0) (ah (g2 (g2 (rB 1) (kI 1) dI) (rB 3) dI) (ah (kI 26) aN)))) aS) dI))) (eA (rS 2))))
def li:List D->R D:=gm 4 qQ
def oB:aB->R Fl:=(bu (kW 3 (fun _=>.ok (.dict []))) (bu (y8 (CT (ah (gN 3 aU (ah (rS 0) (ah (rS 1) (ah (g2 (rB 2) (kI 1) dI) aN)))) aN)) (cV 4) (El 3 (gN 2 li (ah (rS 0) (ah (g2 (g2 (rB 1) (kI 1) dI) (g2 (kI 8) (rB 4) wK) dI) aN))) (kB true))) (eA (c7 (ah (c7 (ah (c7 (ah (rB 3) aN) (j9 kC)) aN) (j9 tY)) aN) (j9 iM)))))
def oC:List D->R D:=gm 5 oB
def qR:aB->R Fl:=(eA (c7 (ah (dJ 2 [0,1,3] (Jm (ah (rS 2) aN)) (eT (g2 (gN 3 aU (ah (rS 2) (ah (g2 (rB 3) (rB 0) dI) (ah (kI 12) aN)))) (rB 4) Jh)) (rS 1)) aN) (j9 iM)))
def qS:List D->R D:=gm 4 qR
def qT:aB->R Fl:=(bu (jl 4 (g2 (rB 2) (gN 3 aU (ah (rS 0) (ah (g2 (rB 1) (kI 10) dI) (ah (c7 (ah (rB 2) aN) (j9 kR)) aN)))) aS)) (bu (jl 5 (g2 (rB 2) (gN 3 aU (ah (rS 0) (ah (g2 (rB 1) (kI 11) dI) (ah (c7 (ah (rB 2) aN) (j9 kR)) aN)))) aS)) (bu (jl 6 (g2 (rB 2) (gN 3 aU (ah (rS 0) (ah (g2 (rB 1) (kI 12) dI) (ah (c7 (ah (rB 2) aN) (j9 kR)) aN)))) aS)) (bu (jl 7 (Vk (fj (ah (rS 4) (ah (rS 5) aN)) .list) XV (Tk (g2 (kI 1) (g2 (gN 3 aU (ah (rS 0) (ah (g2 (rB 1) (kI 13) dI) (ah (kI 3) aN)))) (kI 2) Pt) dI)))) (bu (kW 8 (dJ 1 [7,0,1] (kz (fj (ah (rS 6) aN) .list)) (oY (eT (g2 (rB 0) (rB 1) (xA true))) (eT (g2 (gN 3 aU (ah (rS 2) (ah (g2 (rB 3) (kI 14) dI) (ah (kI 4) aN)))) (kI 0) (ir false)))) (rS 0))) (bu (kW 9 (dJ 1 [6,0,1] (kz (fj (ah (rS 4) aN) .list)) (oY (eT (g2 (rB 0) (rB 1) (ir true))) (eT (g2 (gN 3 aU (ah (rS 2) (ah (g2 (rB 3) (kI 15) dI) (ah (kI 3) aN)))) (kI 0) (ir false)))) (rS 0))) (bu (gAt 8 (gAt 9 (kW 10 (dJ 1 [] (kz (fj (ah (rS 7) (ah (rS 8) (ah (fj (ah (rS 6) aN) .list) (ah (rS 9) aN)))) .tuple)) kT (c7 (ah (lO (qK (rB 0))) aN) (j9 iM)))))) (eA (fj (ah (rS 3) (ah (g2 (rB 10) (kI 0) aS) (ah (g2 (rB 10) (kI 1) aS) (ah (g2 (rB 10) (kI 2) aS) (ah (g2 (rB 10) (kI 3) aS) (ah (gN 3 aU (ah (rS 0) (ah (rS 1) (ah (kI 5) aN)))) aN)))))) .tuple)))))))))
def qU:List D->R D:=gm 11 qT
def jo:aB->R Fl:=(bu (fS (oY (eT (g2 (rB 2) (fj aN .tuple) (ir true))) (eT (g2 (gN 3 aU (ah (rS 0) (ah (kI 97) (ah (kI 2) aN)))) (kI 0) (ir false)))) (eA (gN 4 qU (ah (rS 0) (ah (rS 1) (ah (rS 2) (ah (rS 3) aN)))))) (fun ρ=>.ok (.nx ρ))) (bu (Tx 4) (bu (y8 (Jm (ah (rS 2) aN)) (sL 2 (eJ (cV 5) (eJ (cV 6) vj))) (bu (jl 7 (gN 3 aU (ah (rS 0) (ah (g2 (g2 (rB 1) (kI 10) dI) (rB 5) dI) (ah (kI 8) aN))))) (bu (fS (eT (g2 (rB 7) (kI 3) Jh)) (pU 4 (g2 (fj (ah (kI 0) (ah (kI 0) (ah (kI 1) aN))) .list) (rB 7) aS) (rS 6)) (fun ρ=>.ok (.nx ρ))) (bu (jl 7 (gN 3 aU (ah (rS 0) (ah (g2 (g2 (rB 1) (kI 20) dI) (rB 5) dI) (ah (kI 8) aN))))) (fS (eT (g2 (rB 7) (kI 4) Jh)) (pU 4 (g2 (fj (ah (kI 2) (ah (kI 2) (ah (kI 3) (ah (kI 3) aN)))) .list) (rB 7) aS) (rS 6)) (fun ρ=>.ok (.nx ρ))))))) (bu (fun ρ=>(kW 8 (dJ 1 [] (kz (rB 4)) kT (c7 (ah (rB 0) aN) (j9 iM)))) (dA ρ)) (eA (fj (ah (rS 3) (ah (g2 (rB 8) (kI 0) aS) (ah (g2 (rB 8) (kI 1) aS) (ah (g2 (rB 8) (kI 2) aS) (ah (g2 (rB 8) (kI 3) aS) (ah (gN 3 aU (ah (rS 0) (ah (rS 1) (ah (kI 5) aN)))) aN)))))) .tuple))))))
def jp:List D->R D:=gm 9 jo
def nw:aB->R Fl:=(bu (jl 4 (gN 3 oC (ah (rS 0) (ah (rS 1) (ah (rS 2) aN))))) (bu (kW 5 (fun _=>.ok (.dict []))) (bu (y8 (CT (ah (gN 3 aU (ah (rS 0) (ah (g2 (rB 1) (kI 60) dI) (ah (g2 (rB 3) (kI 1) dI) aN)))) aN)) (cV 6) (bu (jl 7 (gN 2 li (ah (rS 0) (ah (g2 (g2 (rB 1) (kI 70) dI) (g2 (kI 40) (rB 6) wK) dI) aN)))) (El 5 (rS 7) (gN 4 jp (ah (rS 0) (ah (g2 (g2 (rB 1) (kI 80) dI) (g2 (kI 40) (rB 6) wK) dI) (ah (rS 4) (ah (rS 7) aN)))))))) (bu (jl 8 (c7 (ah (rB 5) aN) (j9 kC))) (bu (jl 9 (gN 3 aU (ah (rS 0) (ah (g2 (rB 1) (kI 61) dI) (ah (g2 (c7 (ah (rB 8) aN) (j9 kR)) (kI 1) dI) aN))))) (eA (fj (ah (rS 4) (ah (c7 (ah (dJ 1 [5] (kz (g2 (Vk (rB 8) (Tk (rS 9)) XV) (Vk (rB 8) XV (Tk (rS 9))) dI)) kT (g2 (rB 1) (rB 0) aS)) aN) (j9 iM)) aN)) .tuple)))))))
def ny:List D->R D:=gm 10 nw
def nz:aB->R Fl:=(bu (kW 3 (fj aN .list)) (bu (kW 4 (fj aN .list)) (bu (y8 (Jm (ah (rS 2) aN)) (sL 2 (eJ (cV 5) (eJ (cV 6) vj))) (bu (jl 7 (gN 3 aU (ah (rS 0) (ah (g2 (rB 1) (rB 5) dI) (ah (kI 8) aN))))) (fS (eT (g2 (rB 7) (kI 2) Jh)) (Ek 3 (rS 6)) (fS (eT (g2 (rB 7) (kI 2) (ir false))) (Ek 4 (rS 6)) (fun ρ=>.ok (.nx ρ)))))) (eA (fj (ah (c7 (ah (rB 3) aN) (j9 iM)) (ah (c7 (ah (rB 4) aN) (j9 iM)) aN)) .tuple)))))
def vA:List D->R D:=gm 8 nz
def qV:aB->R Fl:=(bu (jl 3 (gN 4 ny (ah (rS 0) (ah (kI 100) (ah (rS 1) (ah (rS 2) aN)))))) (bu (jl 4 (gN 4 qS (ah (rS 0) (ah (kI 20) (ah (g2 (rB 3) (kI 0) aS) (ah (g2 (fj (ah (kI 2) (ah (kI 4) aN)) .list) (gN 3 aU (ah (rS 0) (ah (kI 97) (ah (kI 2) aN)))) aS) aN)))))) (eA (fj (ah (rS 3) (ah (rS 4) (ah (gN 3 vA (ah (rS 0) (ah (kI 30) (ah (g2 (rB 3) (kI 0) aS) aN)))) aN))) .tuple))))
def nA:List D->R D:=gm 5 qV
def qW:aB->R Fl:=(eA (At (c7 (ah (dJ 1 [0] (kz (g2 (rB 1) (kI 0) aS)) kT (g2 (rB 0) (rB 1) (xA false))) aN) (j9 (h_ fun bs=>bs.all id))) (G7 (c7 (ah (dJ 1 [0] (kz (g2 (rB 1) (kI 1) aS)) kT (g2 (rB 0) (rB 1) (xA false))) aN) (j9 (h_ fun bs=>bs.any id))))))
def qX:List D->R D:=gm 2 qW
def qY:aB->R Fl:=(bu (fS (jH (eT (gN 2 qX (ah (rS 1) (ah (Vk (rB 0) (Tk (kI 1)) (Tk (kI 3))) aN))))) (eA kN) (fun ρ=>.ok (.nx ρ))) (bu (kW 2 (dJ 1 [0] (kz (rB 1)) (eT (g2 (rB 0) (g2 (rB 1) (kI 4) aS) (xA true))) (rS 0))) (eA (c7 (ah (lO (qK (g2 (rB 2) (c7 (ah (g2 (rB 0) (kI 3) aS) aN) (j9 kC)) dI))) aN) (j9 iM)))))
def iw:List D->R D:=gm 3 qY
def jq:GS:=(AN Y0 (cW (kS (zF (eT (g2 (rB 1) (kI 0) (ir false)))) (iD (Xh 0 q9 (gP (rS 2)))) (fun ρ _ M=>.nx ρ M)) (cW (kS (zF (eT (g2 (rB 1) (kI 1) (ir false)))) (iD (XZ 0 i9)) (fun ρ _ M=>.nx ρ M)) (iD (XZ 0 kM)))))
def gM:D->Mu->List D->RM D:=uJ 4 jq
def oE:aB->R Fl:=(bu (fS (eT (g2 (rB 1) (g2 (rB 0) (pT (kI 1)) aS) (xA true))) (eA kN) (fun ρ=>.ok (.nx ρ))) (bu (jl 2 (g2 (c7 (ah (rB 0) aN) (j9 kR)) (kI 1) Au)) (bu (y8 (D7 (ah (g2 (c7 (ah (rB 0) aN) (j9 kR)) (kI 1) Au) (ah (pT (kI 1)) (ah (pT (kI 1)) aN)))) (cV 3) (bu (fS (eT (g2 (rB 1) (g2 (rB 0) (rB 3) aS) (xA true))) (eA (g2 (rB 3) (kI 1) dI)) (fun ρ=>.ok (.nx ρ))) (jl 2 (rS 3)))) (eA (rS 2)))))
def lP:List D->R D:=gm 4 oE
def qc:GS:=(cW (rM 7 (g2 (fj (ah (kI 0) (ah (kI 0) (ah (kI 0) (ah (kI 1) (ah (kI 1) (ah (kI 2) (ah (kI 2) aN))))))) .list) (gN 3 aU (ah (rS 0) (ah (rS 1) (ah (kI 7) aN)))) aS)) (cW (rM 8 (g2 (dJ 1 [] (kz (g2 (rB 2) (kI 1) aS)) kT (g2 (rB 0) (kI 0) aS)) (fj (ah (fun _=>.ok (.str "zzzzz")) aN) .list) dI)) (cW (rM 9 (g2 (rB 8) (gN 3 aU (ah (rS 0) (ah (g2 (rB 1) (kI 1) dI) (ah (c7 (ah (rB 8) aN) (j9 kR)) aN)))) aS)) (cW (wW 10 (dJ 1 [4] (kz (g2 (rB 2) (kI 1) aS)) (eT (g2 (gN 2 iw (ah (rS 0) (ah (g2 (rB 1) (pT (kI 1)) aS) aN))) kN (KQ true))) (rS 0))) (cW (kS (zF (oY (eT (g2 (rB 10) (fj aN .list) (ir true))) (eT (g2 (gN 3 aU (ah (rS 0) (ah (g2 (rB 1) (kI 2) dI) (ah (kI 4) aN)))) (kI 0) NT)))) (rM 9 (g2 (g2 (rB 10) (gN 3 aU (ah (rS 0) (ah (g2 (rB 1) (kI 1) dI) (ah (c7 (ah (rB 10) aN) (j9 kR)) aN)))) aS) (kI 0) aS)) (fun ρ _ M=>.nx ρ M)) (cW (wW 11 (dJ 1 [9] (kz (rB 10)) (eT (g2 (g2 (rB 0) (kI 0) aS) (rB 1) (ir false))) (rS 0))) (cW (kS (zF (oY (eT (g2 (rB 7) (kI 0) (ir false))) (eT (g2 (rB 11) (fj aN .list) (ir false))))) (iD (rL (RY 3 2 gM (ah (kI 0) (ah (rS 9) aN))) (fj (ah (fun _=>.ok (.str "refused")) (ah (kI 3) aN)) .tuple) (ir false))) (fun ρ _ M=>.nx ρ M)) (cW (kS (zF (y0 (oY (eT (g2 (rB 7) (kI 1) (ir false))) (eT (g2 (rB 5) (fj aN .list) (ir false)))) (oY (eT (g2 (rB 7) (kI 2) (ir false))) (eT (g2 (rB 6) (fj aN .list) (ir false)))))) (iD (rL (RY 3 2 gM (ah (rS 7) (ah (rS 9) aN))) (fj (ah (fun _=>.ok (.str "refused")) (ah (kI 9) aN)) .tuple) (ir false))) (fun ρ _ M=>.nx ρ M)) (cW (kS (RZ (rL (RY 3 2 gM (ah (rS 7) (ah (rS 9) aN))) kN (KQ true))) (iD (gP (kB false))) (fun ρ _ M=>.nx ρ M)) (cW (kS (zF (eT (g2 (rB 7) (kI 0) (ir false)))) (cW (fA (kF (pZ 4) (gP (gN 2 iw (ah (g2 (rB 11) (kI 0) aS) (ah (g2 (rB 4) (pT (kI 1)) aS) aN)))))) (cW (fA (kF (pZ 5) (gP (rS 9)))) (fA (AL (pZ 6))))) (kS (zF (eT (g2 (rB 7) (kI 1) (ir false)))) (fA (kF (pZ 6) (Da (p_ (pZ 4)) (p_ (pZ 5))))) (cW (Dc 12 9 (p_ (pZ 6))) (cW (fA (kF (pZ 4) (gP (rS 12)))) (fA (kF (pZ 5) (gP (rS 9)))))))) (iD (gP (kB true)))))))))))))
def qd:D->Mu->List D->RM D:=QP 13 qc
def GK:aB->R Fl:=(bu (zc (gN 3 nA (ah (rS 0) (ah (kI 6) (ah (kI 6) aN)))) (sL 3 (eJ (cV 1) (eJ (cV 2) (eJ (cV 3) vj))))) (bu (kW 4 (ua (dJ 1 [] (kz (g2 (rB 1) (kI 1) aS)) kT (fj (ah (g2 (rB 0) (kI 0) aS) (ah (g2 (rB 0) (kI 5) aS) aN)) .tuple)))) (Df 1 2 5 6 7 8 fQ (cW (Dd 9 (gN 3 aU (ah (rS 0) (ah (kI 0) (ah (kI 13) aN)))) (cW (kS (D9 (RZ (X_ 5 6 7 8 qd (rS 0) (g2 (kI 300) (g2 (kI 5) (rB 9) wK) dI) (rS 1)))) (iD (gP (kB false))) (fun ρ _ M=>.nx ρ M)) (cW (kS (zF (y0 (eT (g2 (qM 1 eO (rS 5) aN) (g2 (rB 6) (pT (kI 1)) aS) (ir true))) (y0 (eT (g2 (qM 1 vz (rS 5) aN) (rB 7) (ir true))) (eT (g2 (qM 1 kL (rS 5) aN) (c7 (ah (dJ 1 [4] (kz (rB 7)) kT (g2 (rB 1) (rB 0) aS)) aN) (j9 BY)) (ir true)))))) (iD (gP (kB false))) (fun ρ _ M=>.nx ρ M)) (cW (kS (zF (jH (eT (c7 (ah (dJ 1 [5,6] (kz (g2 (rB 1) (kI 0) aS)) kT (g2 (qM 2 gL (rS 1) (ah (rS 0) aN)) (gN 2 lP (ah (rS 2) (ah (rS 0) aN))) (ir false))) aN) (j9 (h_ fun bs=>bs.all id)))))) (iD (gP (kB false))) (fun ρ _ M=>.nx ρ M)) (De 5))))) (iD (gP (kB true)))))))
def F_law:List D->R D:=gm 10 GK
end Z
section
set_option hygiene false
namespace Z
open PySem L2 J
local macro_rules | `(tactic| left) => `(tactic| simp only [Zp, Xd, Zq, Zr, Zt, Gp, sS, Gq, Z4, PX, PY, Vo, Z5, L8, Gr, L9, Gs, Gu, Gv, PZ, P_, Q0, La, Q1, Lb, Z7, Vq, Vr, Q2, Vs, Q3, Vt, Za, Q4, Vu, Q5, Lc, Q6, Ld, Le, Q7, Q8, Q9, Qc, Gw, Gx, Vx, Qd, Lf, Qe, Ze, Vz, Qf, Qg, VA, Qh, Qi, VB, VC, Qj, Zi, Qk, Ql, VD, VE, Qm, X8, Qn, VF, VG, Qo, Lg, Lh, VJ, CW, CY, CZ, Qp, Zk, Qr, Qs, Qt, Qu, Qv, Qw, D0, Eo, dI, Au, wK, MM, Pt, G8, Jh, Vi, NT, MN, kR, aW, iG, aX, ej, aw, RT, mR, Mi, Mj, xw, xx, Nat.reduceSub, Nat.reduceAdd, Sk, Sm, Nat.sub_self, if_true, if_false, ite_true, ite_false, cB, decide_true, decide_false, cond_true, cond_false, qt, o8, aA, cy, IE, Int.reduceLE, Int.reduceAdd, Int.reduceMul, Nat.reduceLT, Int.reduceNeg, reduceIte])
local macro_rules | `(tactic| walk_at "yy") => `(tactic| simp only [Zp, Xd, Zq, Zr, Zt, Gp, sS, Gq, Vo, Z5, L8, Gr, L9, Gs, Gu, Gv, PZ, P_, Q0, La, Q1, Lb, Z7, Vq, Vr, Q2, Vs, Q3, Vt, Za, Q4, Vu, Q5, Lc, Q6, Ld, Le, Q7, Q8, Q9, Qc, Gw, Gx, Vx, Qd, Lf, Qe, Ze, Vz, Qf, Qg, VA, Qh, Qi, VB, VC, Qj, Zi, Qk, Ql, VD, VE, Qm, X8, Qn, VF, VG, Qo, Lg, Lh, VJ, CW, CY, CZ, Qp, Zk, Qr, Qs, Qt, Qu, Qv, Qw, D0, Eo, dI, kR, aW, iG, aX, ej, aw, RT, mR, Mi, Mj, xw, xx, Nat.reduceSub, Nat.reduceAdd, Sk, Sm, Nat.sub_self, if_true, if_false, ite_true, ite_false, cB, decide_true, decide_false, cond_true, cond_false, qt, o8, aA, cy, IE, Int.reduceLE, Int.reduceAdd, Int.reduceMul, Nat.reduceLT, Int.reduceNeg, reduceIte])
theorem du {n:Nat}{g:aB->R Fl}{ds:List D}{d:D} (h:g (cm n ds)=.ok (.rt d)):gm n g ds=.ok d:=by unfold gm;rw [h]
theorem QT {n:Nat}{g:aB->R Fl}{ds:List D}{c:Str}{m:Option D} (h:g (cm n ds)=.ex c m):gm n g ds=.ex c m:=by unfold gm;rw [h]
def LA (a:List Int) (k:Int):Int:=if k<a.length then a.getD k.toNat 0 else if a=[] then 0 else a.getD (k % a.length).toNat 0*31+k
theorem QU (a:List Int):bN (a.map .int)=true:=by
 induction a with
 |nil=>rfl
 |cons x r b=>simp [bN,dR,b]
theorem Ue (a:List Int):bw (.list (a.map .int)) (.list [])=decide (a=[]):=by
 cases a with
 |nil=>rfl
 |cons x r=>simp [bw,lK]
theorem Xn (a:List Int):ir false (.list (a.map .int)) (.list [])=.ok (.bool (decide (a=[]))):=by
 unfold ir
 have b:(fR (a.map .int)).canLay0=true:=by simp only [dR];exact QU a
 have d:(fR []).canLay0=true:=rfl
 have c:min (fR (a.map .int)).depth (fR []).depth<=60:=bF (rQ _ _) (by decide)
 rw [b,d,decide_eq_true c,Ue]
 rfl
theorem Xo (a:List Int) (k:Int) (c:0<=k) (d:k<a.length):Fp (a.map bM) k=some (.int (a.getD k.toNat 0)):=by
 have b:k.toNat<a.length:=by omega
 have:=tQ (xs:=a.map bM) (j:=k.toNat) (v:=.int (a.getD k.toNat 0)) (by rw [aH,a_ b];simp [b])
 rwa [eU c] at this
theorem QV (a:List Int) (k:Int) (c:0<=k) (b:k<a.length):aS (.list (a.map .int)) (.int k)=.ok (.int (a.getD k.toNat 0)):=by
 have e:∀ xs k,aS (.list xs) k=Ge (.list xs) k:=fun _ _=>rfl
 rw [e]
 unfold Ge
 simp only [Xo a k c b]
theorem LB {i j:Int} (a:-(2 ^ 64)<j) (b:j<2 ^ 64):CJ i j=true:=by
 unfold CJ
 simp only [iR,aP,decide_eq_true_eq]
 exact .inr ⟨a,b⟩
theorem um {i j:Int} (a:-(2 ^ 64)<i) (b:i<2 ^ 64):CJ i j=true:=by
 unfold CJ
 simp only [iR,aP,decide_eq_true_eq]
 exact .inl ⟨a,b⟩
theorem Uf (a:List Int) (k:Int) (d:0<=k):lF [.list (a.map .int),.int k]=.ok (.int (LA a k)):=by
 unfold lF
 refine du ?_
 unfold lE cm LA
 left
 by_cases h:k<a.length
 ·simp only [h,decide_true,cond_true,if_true,QV a k d h,bind_ok]
  left
 ·simp only [h,decide_false,cond_false,if_false]
  left
  rw [Xn]
  left
  by_cases b:a=[]
  ·simp only [b,decide_true,cond_true,if_true]
   left
  ·have c:(0:Int)<a.length:=by have:0<a.length:=List.length_pos_iff.mpr b;omega
   simp only [b,decide_false,cond_false,if_false,c,decide_true]
   left
   simp only [b,decide_false,cond_false,if_false,c,decide_true,if_true]
   left
   rw [QV a _ (tN _ (by omega)) (oV _ c)]
   left
   rw [LB (by decide) (by decide)]
   left
def AQ (a:List Int) (k:Int):Int:=(LA a k+7919*k+1)*48271 % 2147483647
def eB (a:List Int) (k m:Int):Int:=(AQ a k*AQ a k+7*AQ a k+k) % 2147483629 % m
theorem fh (a:List Int) (k m:Int) (h:0<m):0<=eB a k m:=tN _ (by omega)
theorem fN (a:List Int) (k m:Int) (h:0<m):eB a k m<m:=oV _ h
theorem eP (a:List Int) (k m:Int) (c:0<=k) (b:0<m):aU [.list (a.map .int),.int k,.int m]=.ok (.int (eB a k m)):=by
 have e:0<=AQ a k:=tN _ (by decide)
 have d:AQ a k<2147483647:=oV _ (by decide)
 unfold aU
 refine du ?_
 unfold oA cm
 left
 rw [Uf a k c]
 left
 rw [um (by decide) (by decide)]
 left
 rw [LB (by decide) (by decide)]
 left
 rw [show (LA a k+7919*k+1)*48271 % 2147483647=AQ a k from rfl,um (i:=AQ a k) (by omega) (by omega)]
 left
 rw [um (i:=7) (by decide) (by decide)]
 left
 rw [decide_eq_true b]
 left
 rfl
theorem sV {α a:Type}{kt:D->aB->R aB}{gb:aB->R Fl} (c:α->D) (f:a->α->a) (P:List α->a->aB->Prop) (h:∀ x bU b ρ,P (x::bU) b ρ->∃ ρ1 ρ',kt (c x) ρ=.ok ρ1/\gb ρ1=.ok (.nx ρ')/\P bU (f b x) ρ') :
  ∀ (xs:List α) (b:a) (ρ:aB),P xs b ρ->∃ ρ',p7 kt gb (xs.map c) ρ=.ok (.nx ρ')/\P [] (xs.foldl f b) ρ'
 |[],b,ρ,p=>⟨ρ,rfl,p⟩
 |x::r,b,ρ,p=>by
  obtain ⟨ρ1,d,g,j,k⟩:=h x r b ρ p
  obtain ⟨e,l,i⟩:=sV c f P h r (f b x) d k
  refine ⟨e,?_,i⟩
  rw [aW]
  unfold p7
  rw [g]
  simp only [j]
  exact l
theorem LC {α a:Type}{kt:D->aB->R aB}{gb d:aB->R Fl}{r:R Fl} (c:α->D) (f:a->α->a) (P:List α->a->aB->Prop) {xs:List α} (b:a) {ρ:aB}
  (h:∀ x bU b ρ,P (x::bU) b ρ->∃ ρ1 ρ',kt (c x) ρ=.ok ρ1/\gb ρ1=.ok (.nx ρ')/\P bU (f b x) ρ') (g:P xs b ρ) (k:∀ ρ',P [] (xs.foldl f b) ρ'->d ρ'=r):(p7 kt gb (xs.map c) ρ).bind (PV d)=r:=by
 obtain ⟨ρ',e,p⟩:=sV c f P h xs b ρ g
 rw [e,bind_ok,sS]
 exact k ρ' p
theorem Ey (n:Nat) (h:n<=1000):Jl [.int (n:Int)]=.ok ((br n).map fun (i:Nat)=>bM (i:Int)):=by
 have e:Jl [.int (n:Int)]=.ok (sO 0 (n:Int).toNat):=TL (by omega) (by omega)
 rw [e]
 unfold sO
 rw [kY]
 exact congrArg R.ok (mZ fun a _=>congrArg bM (Int.zero_add _))
def uV (x:Str):Bool:=decide (1<=x.cps.size)&&decide (x.cps.size<=6/\x.cps.size≠5)&&x.cps.toList.all fun c=>decide (97<=c)&&decide (c<=122)
def uW (a:List Int) (k:Int):Nat:=[1,2,3,6,1,4].getD (eB a k 6).toNat 0
def Ez (a:List Int) (k:Int) (i:Nat):Nat:=97+(eB a (k+1+i) 26).toNat
def lQ (a:List Int) (k:Int):Str:=⟨((br (uW a k)).map (Ez a k)).toArray⟩
theorem LD (a:List Int) (k:Int):1<=uW a k/\(uW a k<=6/\uW a k≠5):=by
 have c:=fh a k 6 (by decide)
 have b:=fN a k 6 (by decide)
 unfold uW
 have:∀ j:_root_.Fin 6,1<=[1,2,3,6,1,4].getD j.val 0/\([1,2,3,6,1,4].getD j.val 0<=6/\[1,2,3,6,1,4].getD j.val 0≠5):=by decide
 exact this ⟨(eB a k 6).toNat,by omega⟩
theorem Ug (a:List Int) (k:Int) (i:Nat):97<=Ez a k i/\Ez a k i<=122:=by
 have c:=fh a (k+1+i) 26 (by decide)
 have b:=fN a (k+1+i) 26 (by decide)
 unfold Ez
 omega
theorem GL (a:List Int) (k:Int):uV (lQ a k)=true:=by
 have ⟨h1,h2⟩:=LD a k
 unfold uV lQ
 simp only [aG,aw,dh,aP,decide_eq_true_eq,cY]
 refine ⟨⟨h1,h2⟩,fun c b=>?_⟩
 obtain ⟨i,_,rfl⟩:=List.mem_map.mp b
 exact Ug a k i
theorem QW (j:Int) (d:0<=j) (g:j<26):aS (.str "abcdefghijklmnopqrstuvwxyz") (.int j)=.ok (.str ⟨#[97+j.toNat]⟩):=by
 have e:∀ x k,aS (.str x) k=Ge (.str x) k:=fun _ _=>rfl
 rw [e]
 unfold Ge
 have c:("abcdefghijklmnopqrstuvwxyz" : Str).cps.toList=(br 26).map (97 + ·):=by decide +kernel
 have f:("abcdefghijklmnopqrstuvwxyz" : Str).length<=1000:=by decide +kernel
 have b:j.toNat<26:=by omega
 have a:=tQ (xs:=(br 26).map (97 + ·)) (j:=j.toNat) (v:=97+j.toNat) (by rw [aH,v_ b];rfl)
 rw [eU d] at a
 simp only [f,if_true,c,a]
theorem Uh (j:Int) (a:0<=j) (c:j<6):aS (.list [.int 1,.int 2,.int 3,.int 6,.int 1,.int 4]) (.int j)=.ok (.int (([1,2,3,6,1,4].getD j.toNat 0:Nat):Int)):=by
 obtain ⟨n,rfl⟩:=HS a
 have b:n<6:=by omega
 match n,b with
 | 0,_=>rfl
 | 1,_=>rfl
 | 2,_=>rfl
 | 3,_=>rfl
 | 4,_=>rfl
 | 5,_=>rfl
theorem EA (l:List Nat):∀ (b:Str),l.foldl (fun (a:Str) c=>a++⟨#[c]⟩) b=⟨(b.cps.toList++l).toArray⟩:=by
 induction l with
 |nil=>intro b;simp
 |cons c r d =>
  intro b
  rw [sv,d]
  show (⟨((b.cps++#[c]).toList++r).toArray⟩:Str)=_
  simp
theorem N8:("" : Str).cps.toList=[]:=by decide +kernel
theorem LF (b:List Int) (k:Int) (e:0<=k):li [.list (b.map .int),.int k]=.ok (.str (lQ b k)):=by
 have g:=fh b k 6 (by decide)
 have d:=fN b k 6 (by decide)
 have ⟨w1,w2⟩:=LD b k
 unfold li
 refine du ?_
 unfold qQ cm
 left
 rw [yE (ds:=(br (uW b k)).map fun (i:Nat)=>bM i)]
 ·refine LC (fun (i:Nat)=>bM i) (fun (a:Str) i=>a++⟨#[Ez b k i]⟩) (fun bU a ρ=>a.length+bU.length<=900/\∃ z,ρ=[.shr (.list (b.map .int)),.shr (.int k),.shr (.str a),z]) "" ?_ ⟨by rw [dh,show ("" : Str).length=0 by decide];omega,_,rfl⟩ ?_
  ·rintro i bU a ρ ⟨h,z,rfl⟩
   simp only [aX] at h
   refine ⟨_,[.shr (.list (b.map .int)),.shr (.int k),.shr (.str (a++⟨#[Ez b k i]⟩)),.shr (.int i)],rfl,?_,?_,_,rfl⟩
   ·left
    rw [eP b _ 26 (by omega) (by decide)]
    left
    rw [QW _ (fh _ _ _ (by decide)) (fN _ _ _ (by decide))]
    left
    have j:a.length+(⟨#[97+(eB b (k+1+i) 26).toNat]⟩:Str).length<=1000:=by
     show a.length+1<=1000
     omega
    rw [if_pos j]
    left
    rw [show 97+(eB b (k+1+i) 26).toNat=Ez b k i from rfl]
   ·show (a.cps++#[_]).size+bU.length<=900
    rw [Array.size_append]
    show a.cps.size+1+bU.length<=900
    have:a.length=a.cps.size:=rfl
    omega
  ·rintro ρ' ⟨_,z,rfl⟩
   left
   have:(br (uW b k)).foldl (fun (a:Str) i=>a++⟨#[Ez b k i]⟩) ""=lQ b k:=by
    have:=EA ((br (uW b k)).map (Ez b k)) ""
    rw [uQ] at this
    rw [this,N8]
    unfold lQ
    rw [mR]
   rw [this]
 ·left
  rw [eP b k 6 e (by decide)]
  left
  have c:=Uh (eB b k 6) g d
  have f:[1,2,3,6,1,4].getD (eB b k 6).toNat 0=uW b k:=rfl
  rw [f] at c
  rw [c]
  left
  rw [Ey (uW b k) (by omega)]
def jS (l:List (Str×D)):List (D×D):=l.map fun p=>(.str p.1,p.2)
def uK (l:List (Str×D)) (x:Str) (d:D):List (Str×D):=if l.any (fun p=>decide (p.1=x)) then l.map (fun p=>if p.1=x then (p.1,d) else p) else l++[(x,d)]
theorem qZ (x y:Str):bw (.str x) (.str y)=decide (x=y):=by
 show (x==y)=_
 rw [tM]
theorem LG (l:List (Str×D)) (x:Str) (d:D):BS (jS l) (.str x) d=jS (uK l x d):=by
 unfold BS uK jS
 rw [HU]
 have e:((fun a:D×D=>bw a.1 (.str x))∘fun p:Str×D=>(aE p.1,p.2))=fun p=>decide (p.1=x):=by
  funext p
  exact qZ p.1 x
 rw [e]
 split
 ·rw [el,el]
  apply mZ
  intro p _
  simp only [Function.comp,qZ]
  by_cases h:p.1=x
  ·simp [h]
  ·simp [h]
 ·simp
theorem AR (l:List (Str×D)):i7 (jS l)=true:=by
 unfold i7 jS
 rw [yw,cY]
 intro p _
 rfl
theorem GM (l:List (Str×D)) (x:Str) (d:D):(uK l x d).length<=l.length+1:=by
 unfold uK
 split<;>simp
theorem Dh (l:List (Str×D)) (x:Str) (d:D):(uK l x d).map (·.1)=if x∈l.map (·.1) then l.map (·.1) else l.map (·.1)++[x]:=by
 unfold uK
 have e:(l.any fun p=>decide (p.1=x))=decide (x∈l.map (·.1)):=by
  rw [iO]
  simp only [lT,decide_eq_true_eq,List.mem_map]
 rw [e]
 by_cases h:x∈l.map (·.1)
 ·rw [decide_eq_true h,if_pos rfl,if_pos h,el]
  apply mZ
  intro p _
  by_cases a:p.1=x<;>simp [a]
 ·rw [decide_eq_false h,if_neg aQ,if_neg h,fF]
  rfl
theorem QX {Q:Str->D->Prop}{l:List (Str×D)}{x:Str}{d:D} (h:∀ p∈l,Q p.1 p.2) (c:Q x d):∀ p∈uK l x d,Q p.1 p.2:=by
 unfold uK
 split
 ·intro p a
  obtain ⟨f,b,rfl⟩:=List.mem_map.mp a
  by_cases e:f.1=x
  ·rw [if_pos e];rw [e];exact c
  ·rw [if_neg e];exact h f b
 ·intro p a
  rcases List.mem_append.mp a with a|a
  ·exact h p a
  ·rw [List.mem_singleton.mp a];exact c
theorem N9 {l:List Str}{x:Str} (h:l.Nodup):(if x∈l then l else l++[x]).Nodup:=by
 by_cases a:x∈l
 ·rw [if_pos a];exact h
 ·rw [if_neg a];exact KI h a
theorem VQ {i:Nat}{a g:aB->R D}{ρ:aB}{l:List (Str×D)}{x:Str}{d:D} (f:ρ[i]?=some (Sl.own (.dict (jS l)))) (h:g ρ=.ok d) (c:a ρ=.ok (.str x)) (j:l.length<1000):El i a g ρ=.ok (.nx (ρ.set i (.own (.dict (jS (uK l x d)))))):=by
 have b:(jS l).length<1000:=by unfold jS;rw [aw];exact j
 have e:El i a g ρ=(g ρ).bind fun d=>(a ρ).bind fun k=>match sP k with
  |some _=>if (jS l).length<1000/\i7 (jS l)=true then .ok (.nx (ρ.set i (.own (.dict (BS (jS l) k d))))) else .no
  |none=>.no:=by
  unfold El
  simp only [f]
  try rfl
 rw [e,h,Eo,c,Eo]
 simp only [sP,if_pos (zS b (AR l)),LG]
theorem GN (l:List (Str×D)):kC (.dict (jS l))=.ok (.list ((l.map (·.1)).map .str)):=by
 have e:∀ kvs,kC (.dict kvs)=if i7 kvs=true then .ok (.list (kvs.map (·.1))) else .no:=fun _=>rfl
 rw [e,if_pos (AR l)]
 unfold jS
 rw [el,el]
 rfl
theorem sorted_strs (a:List Str) (h:a.length<64):tY (.list (a.map .str))=.ok (.list ((ku a).map .str)):=by
 have e:∀ ds,tY (.list ds)=match gT ds with
  |some a=>if a.length<64 then .ok (.list ((ku a).map .str)) else .no
  |none=>.no:=fun _=>rfl
 rw [e,strsOf_map]
 simp only [if_pos h]
theorem gW (ds:List D):iM (.list ds)=.ok (.tuple ds):=id rfl
def EB (a:List Int) (k:Int) (n:Nat):List Str:=(br n).map fun (i:Nat)=>lQ a (k+1+8*(i:Int))
def EC (a:List Int) (k m:Int):List Str:=ku (dz [] (EB a k (eB a k (m+1)).toNat))
structure Ui (fs:List Str) (n:Nat):Prop where
 ok:∀ x∈fs,uV x=true
 up:fs.Pairwise fun a b=>s9 a b=true
 len:fs.length<=n
theorem QY {α:Type}{a b:List α} (h:a.Perm b):a.length=b.length:=h.length_eq
theorem JC (a:List Int) (k m:Int) (d:0<=m):Ui (EC a k m) m.toNat:=by
 have e:=fh a k (m+1) (by omega)
 have c:=fN a k (m+1) (by omega)
 have b:=iq (dz [] (EB a k (eB a k (m+1)).toNat))
 refine ⟨fun x hx=>?_,?_,?_⟩
 ·have hx:=b.mem_iff.mp hx
  rw [jk] at hx
  rcases hx with hx|hx
  ·cases hx
  ·obtain ⟨i,_,rfl⟩:=List.mem_map.mp hx
   exact GL _ _
 ·exact xY (sC _) (b.nodup_iff.mpr (j8 _ [] ij))
 ·unfold EC
  rw [QY b]
  have:=gG (EB a k (eB a k (m+1)).toNat) []
  unfold EB at this ⊢
  simp at this
  omega
theorem Na (f:Nat->Str) (l:List Nat):∀ b:List (Str×D),((l.foldl (fun (a:List (Str×D)) i=>uK a (f i) (.bool true)) b).map (·.1))=dz (b.map (·.1)) (l.map f):=by
 induction l with
 |nil=>intro b;rfl
 |cons i r c =>
  intro b
  rw [sv,c,aW,Dh]
  rfl
theorem QZ (b:List Int) (k m:Int) (g:0<=k) (n:0<=m) (f:m<=20):oC [.list (b.map .int),.int k,.int m]=.ok (.tuple ((EC b k m).map .str)):=by
 have h:=fh b k (m+1) (by omega)
 have j:=fN b k (m+1) (by omega)
 unfold oC
 refine du ?_
 unfold oB cm
 left
 rw [yE (ds:=(br (eB b k (m+1)).toNat).map fun (i:Nat)=>bM i)]
 ·refine LC (fun (i:Nat)=>bM i) (fun (a:List (Str×D)) i=>uK a (lQ b (k+1+8*(i:Int))) (.bool true)) (fun bU a ρ=>a.length+bU.length<=60/\∃ z,ρ=[.shr (.list (b.map .int)),.shr (.int k),.shr (.int m),.own (.dict (jS a)),z]) [] ?_ ⟨by simp;omega,_,rfl⟩ ?_
  ·rintro i bU a ρ ⟨c,z,rfl⟩
   simp only [aX] at c
   refine ⟨_,[.shr (.list (b.map .int)),.shr (.int k),.shr (.int m),.own (.dict (jS (uK a (lQ b (k+1+8*(i:Int))) (.bool true)))),.shr (.int i)],rfl,?_,?_,_,rfl⟩
   ·refine (VQ (l:=a) (x:=lQ b (k+1+8*(i:Int))) (d:=.bool true) rfl rfl ?_ (by omega)).trans rfl
    left
    rw [um (by decide) (by decide)]
    left
    rw [LF b _ (by omega)]
   ·have:=GM a (lQ b (k+1+8*(i:Int))) (.bool true)
    omega
  ·rintro ρ' ⟨c,z,rfl⟩
   simp only [ej] at c
   left
   rw [GN]
   left
   have e:=Na (fun i=>lQ b (k+1+8*(i:Int))) (br (eB b k (m+1)).toNat) []
   rw [e,sorted_strs]
   ·left
    rw [gW]
    left
    rfl
   ·rw [<- e,aw];omega
 ·left
  rw [eP b k (m+1) g (by omega)]
  left
  have:=Ey (eB b k (m+1)).toNat (by omega)
  rw [eU h] at this
  exact this
structure iy where
 name:Str
 needs:List Str
 bars:List Str
 makes:List Str
 ends:List Str
 price:Int
abbrev b9 (xs:List Str):D:=.tuple (xs.map .str)
def cG (e:iy):D:=.tuple [.str e.name,b9 e.needs,b9 e.bars,b9 e.makes,b9 e.ends,.int e.price]
structure Sub (fs xs:List Str):Prop where
 up:xs.Pairwise fun a b=>s9 a b=true
 mem:∀ x∈xs,x∈fs
structure sW (fs:List Str) (e:iy):Prop where
 name:uV e.name=true
 needs:Sub fs e.needs
 bars:Sub fs e.bars
 makes:Sub fs e.makes
 ends:Sub fs e.ends
 nb:∀ x∈e.needs,x∉e.bars
 me:∀ x∈e.makes,x∉e.ends
 p0:0<=e.price
 p9:e.price<=9
def Fq (xs:List Str):List Str:=ku (dz [] xs)
theorem oF {xs:List Str}{x:Str}:x∈Fq xs↔x∈xs:=by
 unfold Fq
 rw [(iq _).mem_iff,jk]
 simp
theorem JD (xs:List Str):(Fq xs).Pairwise fun a b=>s9 a b=true:=xY (sC _) ((iq _).nodup_iff.mpr (j8 _ [] ij))
theorem zG {fs xs:List Str} (h:∀ x∈xs,x∈fs):Sub fs (Fq xs):=⟨JD xs,fun x a=>h x (oF.mp a)⟩
theorem ED (fs:List Str) (j:Int) (c:0<=j) (d:j<fs.length):∃ x,x∈fs/\aS (b9 fs) (.int j)=.ok (.str x):=by
 have a:j.toNat<fs.length:=by omega
 refine ⟨fs[j.toNat],jx a,?_⟩
 have e:∀ xs k,aS (.tuple xs) k=Ge (.tuple xs) k:=fun _ _=>rfl
 rw [e]
 have b:=tQ (xs:=fs.map aE) (j:=j.toNat) (v:=.str fs[j.toNat]) (by rw [aH,a_ a];rfl)
 rw [eU c] at b
 unfold Ge
 simp only [b]
theorem AS (x:Str):∀ ys:List Str,((ys.map aE).any fun y=>bw y (.str x))=decide (x∈ys)
 |[]=>rfl
 |y::r=>by
  rw [aW,fX,AS x r,qZ]
  by_cases h:y=x
  ·subst h;simp
  ·simp [h,eC h]
theorem AT (ys:List Str):(ys.map aE).all mB=true:=by
 rw [yw,cY];intro _ _;rfl
theorem Uj (a:Bool) (x:Str) (ys:List Str):xA a (.str x) (.list (ys.map .str))=.ok (.bool (if a then !decide (x∈ys) else decide (x∈ys))):=by
 have e:xA a (.str x) (.list (ys.map .str))=if mB (.str x)&&(ys.map aE).all mB then .ok (.bool (if a then !((ys.map aE).any fun y=>bw y (.str x)) else (ys.map aE).any fun y=>bw y (.str x))) else .no:=rfl
 rw [e,AT,AS]
 rfl
theorem mj (a:Bool) (x:Str) (ys:List Str):xA a (.str x) (b9 ys)=.ok (.bool (if a then !decide (x∈ys) else decide (x∈ys))):=by
 have e:xA a (.str x) (b9 ys)=if mB (.str x)&&(ys.map aE).all mB then .ok (.bool (if a then !((ys.map aE).any fun y=>bw y (.str x)) else (ys.map aE).any fun y=>bw y (.str x))) else .no:=rfl
 rw [e,AT,AS]
 rfl
theorem nC (c:Bool) (a b:Int):ir c (.int a) (.int b)=.ok (.bool (if c then !decide (a=b) else decide (a=b))):=by
 have e:ir c (.int a) (.int b)=.ok (.bool (if c then !(a==b) else (a==b))):=rfl
 rw [e,tM]
theorem uo {x:Str} (h:uV x=true):(aE x).canLay0=true:=by
 unfold uV at h
 simp only [aP,cY,decide_eq_true_eq] at h
 show PyData.strOk x=true
 unfold PyData.strOk
 rw [<- yZ,cY]
 intro c a
 have:=h.2 c a
 exact decide_eq_true (by omega)
theorem zH (a:Bool) {x y:Str} (b:uV x=true) (c:uV y=true):ir a (.str x) (.str y)=.ok (.bool (if a then !decide (x=y) else decide (x=y))):=by
 unfold ir
 rw [uo b,uo c,qZ]
 rfl
theorem AU (a:List Str) (h:a.length<60):vp (.list (a.map .str))=.ok (dz [] a):=by
 have e:∀ ds,vp (.list ds)=match gT ds with
  |some a=>if a.length<60 then .ok (dz [] a) else .no
  |none=>.no:=fun _=>rfl
 rw [e,strsOf_map]
 simp only [if_pos h]
theorem LH (g:aB->R D) (s:Sl) (ρ:aB):qK g (s::ρ)=(g (s::ρ)).bind vp:=id rfl
def VR:List Str->R D:=fun a=>if a.length<64 then .ok (.list ((ku a).map .str)) else .no
theorem yd (g:aB->R (List Str)) (s:Sl) (ρ:aB):lO g (s::ρ)=(g (s::ρ)).bind VR:=id rfl
theorem AV (a:List Str) (h:a.length<64):VR a=.ok (.list ((ku a).map .str)):=if_pos h
theorem Nb (a:List Str) (h:a.length<60) (ρ:aB):(c7 (J.ah (lO (qK (rB 0))) J.aN) (j9 iM)) (.shr (.list (a.map .str))::ρ)=.ok (b9 (Fq a)):=by
 left
 rw [yd,LH]
 left
 rw [AU a h]
 left
 rw [AV _ (by have:=gG a [];simp at this;omega)]
 left
 rw [gW]
 rfl
theorem GO {ρ:aB}{gt:aB->R Bool}{x:Str}{b:Bool}{s:Sl}{r:aB} (a:ρ=s::r) (h:gt (.shr (.str x)::r)=.ok b):il (jt 1 ρ gt (rS 0)) [.str x]=.ok ((if b then [x] else []).map .str):=by
 subst a
 have e:=wQ (ρ:=s::r) (gt:=gt) (ge:=(rS 0)) (d:=.str x) (y:=.str x) (b:=b) h fun _=>rfl
 unfold il
 rw [e,Eo]
 unfold il
 rw [Eo]
 cases b<;>rfl
theorem Xp (p q r t:List Str) (b:p.length<60) (c:q.length<60) (e:r.length<60) (d:t.length<60):il (jt 1 [Sl.no] kT (c7 (J.ah (lO (qK (rB 0))) J.aN) (j9 iM))) [.list (p.map .str),.list (q.map .str),.list (r.map .str),.list (t.map .str)]=.ok [b9 (Fq p),b9 (Fq q),b9 (Fq r),b9 (Fq t)] :=
 dL _ (fun a:List Str=>fR (a.map .str)) (fun a=>b9 (Fq a)) [p,q,r,t] fun a hs=>fM rfl (Nb a (by simp at hs;rcases hs with h|h|h|h<;>(rw [h];assumption)) _)
theorem VS (a b c d:D):aS (.list [a,b,c,d]) (.int 0)=.ok a:=id rfl
theorem VT (a b c d:D):aS (.list [a,b,c,d]) (.int 1)=.ok b:=id rfl
theorem VU (a b c d:D):aS (.list [a,b,c,d]) (.int 2)=.ok c:=id rfl
theorem VV (a b c d:D):aS (.list [a,b,c,d]) (.int 3)=.ok d:=id rfl
theorem Uk (d:List Int) (k:Int) (O:0<=k) (fs:List Str) (A:∀ x∈fs,uV x=true) (S:0<fs.length) (nm:Str) (M:uV nm=true) :
  ∃ e,qU [.list (d.map .int),.int k,b9 fs,.str nm]=.ok (cG e)/\sW fs e/\e.name=nm:=by
 have l:(0:Int)<(fs.length:Int):=by omega
 obtain ⟨a,s,K⟩:=ED fs (eB d (k+10) fs.length) (fh _ _ _ l) (fN _ _ _ l)
 obtain ⟨b,L,N⟩:=ED fs (eB d (k+11) fs.length) (fh _ _ _ l) (fN _ _ _ l)
 obtain ⟨c,v,P⟩:=ED fs (eB d (k+12) fs.length) (fh _ _ _ l) (fN _ _ _ l)
 have H:=fh d (k+13) 3 (by decide)
 have E:=fN d (k+13) 3 (by decide)
 obtain ⟨i,u,w,o⟩:∃ i:List Str,(∀ x∈i,x∈fs)/\i.length<60/\KY (.list [.str a,.str b]) none (some (1+eB d (k+13) 3 / 2))=.ok (.list (i.map .str)):=by
  by_cases h:eB d (k+13) 3=2
  ·exact ⟨[a,b],by simp [s,L],by simp,by rw [h];rfl⟩
  ·have:eB d (k+13) 3 / 2=0:=by omega
   exact ⟨[a],by simp [s],by simp,by rw [this];rfl⟩
 let m:Bool:=!decide (c∈i)&&decide (eB d (k+14) 4=0)
 let j:Bool:=!decide (a=c)&&decide (eB d (k+15) 3=0)
 have I:=fh d k 5 (by decide)
 have Q:=fN d k 5 (by decide)
 refine ⟨⟨nm,Fq i,Fq (if m then [c] else []),Fq [c],Fq (if j then [a] else []),eB d k 5⟩,?_,⟨M,zG u,zG ?_,zG (by simp [v]),zG ?_,fun x t h=>?_,fun x t h=>?_,I,by show eB d k 5<=9;omega⟩,rfl⟩
 ·unfold qU
  refine du ?_
  unfold qT cm
  left
  rw [eP d _ _ (by omega) l]
  left
  rw [K]
  left
  rw [eP d (k+11) _ (by omega) l]
  left
  rw [N]
  left
  rw [eP d (k+12) _ (by omega) l]
  left
  rw [P]
  left
  rw [eP d (k+13) 3 (by omega) (by decide)]
  left
  simp only [IE,decide_true,qr,if_true]
  left
  rw [o]
  left
  rw [GO (b:=m) rfl]
  ·left
   rw [GO (b:=j) rfl]
   ·left
    simp only [gAt]
    rw [Qx rfl,Qx rfl]
    left
    have y:=Xp i (if m then [c] else []) [c] (if j then [a] else []) w (by cases m<;>simp) (by simp) (by cases j<;>simp)
    rw [show ([c].map aE)=[aE c] from rfl] at y
    rw [y]
    left
    rw [VS]
    left
    rw [VT]
    left
    rw [VU]
    left
    rw [VV]
    left
    rw [eP d k 5 O (by decide)]
    left
    rfl
   ·left
    rw [zH true (A a s) (A c v)]
    left
    by_cases q:a=c
    ·simp only [j,q,decide_true,qt,Cg,if_true,cond_false]
    ·simp only [j,q,decide_false,o8,wp,if_true,cond_true]
     rw [eP d (k+15) 3 (by omega) (by decide)]
     left
     rw [nC]
     left
  ·left
   rw [Uj]
   left
   by_cases p:c∈i
   ·simp only [m,p,decide_true,qt,Cg,if_true,cond_false]
   ·simp only [m,p,decide_false,o8,wp,if_true,cond_true]
    rw [eP d (k+14) 4 (by omega) (by decide)]
    left
    rw [nC]
    left
 ·intro x n
  cases f:m
  ·simp [f] at n
  ·simp [f] at n;rw [n];exact v
 ·intro x n
  cases g:j
  ·simp [g] at n
  ·simp [g] at n;rw [n];exact s
 ·have h:x∈(if m then [c] else []):=oF.mp h
  cases f:m
  ·simp [f] at h
  ·simp [f] at h
   subst h
   have:(!decide (x∈i))=true:=by
    have:(!decide (x∈i)&&decide (eB d (k+14) 4=0))=true:=f
    simp only [aP] at this
    exact this.1
   simp at this
   exact this (oF.mp t)
 ·cases g:j
  ·have h:x∈(if j then [a] else []):=oF.mp h
   simp [g] at h
  ·skip
   have B:x∈[c]:=oF.mp t
   have G:x∈(if j then [a] else []):=oF.mp h
   simp only [eE] at B
   simp only [g,if_true,eE] at G
   have:(!decide (a=c)&&decide (eB d (k+15) 3=0))=true:=g
   simp only [aP] at this
   have z:=this.1
   simp at z
   exact z (G.symm.trans B)
theorem EE {i:Nat}{b g:aB->R D}{ρ:aB}{a:List (List D)}{ds:List D}{d:D}{j:Int} (e:ρ[i]?=some (Sl.ow2 a)) (c:b ρ=.ok (.int j)) (h:0<=j) (l:a[j.toNat]?=some ds) (f:g ρ=.ok d) (k:ds.length<1000):pU i b g ρ=.ok (.nx (ρ.set i (.ow2 (a.set j.toNat (ds++[d]))))):=by
 unfold pU
 simp only [e,c,bind_ok,if_pos h,l,f,if_pos k]
def oG (n:Nat):List Str->List (Nat×Str)
 |[]=>[]
 |x::r=>(n,x)::oG (n+1) r
abbrev cI (p:Nat×Str):D:=.tuple [.int (p.1:Nat),.str p.2]
theorem zI:∀ (xs:List Str) (n:Nat),rH n (xs.map .str)=(oG n xs).map cI
 |[],_=>rfl
 |x::r,n=>by
  show df [.int n,.str x]::rH (n+1) (r.map .str)=cI (n,x)::(oG (n+1) r).map cI
  rw [zI r (n+1)]
theorem uq:∀ (xs:List Str) (n:Nat),(oG n xs).map (·.2)=xs
 |[],_=>rfl
 |x::r,n=>by
  show x::(oG (n+1) r).map (·.2)=x::r
  rw [uq r]
theorem qe:∀ (fs:List Str),(∀ x∈fs,uV x=true)->bN (fs.map .str)=true
 |[],_=>rfl
 |x::r,h=>by
  have a:=uo (h x au)
  have c:=qe r fun y b=>h y (aq _ b)
  simp only [aW,bN,a,c,qr]
theorem LJ (fs:List Str) (c:∀ x∈fs,uV x=true):ir true (b9 fs) (.tuple [])=.ok (.bool (!decide (fs=[]))):=by
 unfold ir
 have a:(b9 fs).canLay0=true:=by simp only [dR];exact qe fs c
 have e:(df []).canLay0=true:=rfl
 have b:min (b9 fs).depth (df []).depth<=60:=bF (rQ _ _) (by decide)
 have d:bw (b9 fs) (.tuple [])=decide (fs=[]):=by
  cases fs with
  |nil=>rfl
  |cons x r=>simp [bw,lK]
 rw [a,e,decide_eq_true b,d]
 rfl
structure pd (pre p q:List Str):Prop where
 sp:p.Sublist pre
 sq:q.Sublist pre
 d:∀ x∈p,x∉q
theorem pd.skip {a p q:List Str} (h:pd a p q) (x:Str):pd (a++[x]) p q:=⟨h.sp.trans (jW _ _),h.sq.trans (jW _ _),h.d⟩
theorem pd.left {a p q:List Str} (h:pd a p q) (x:Str) (e:x∉a):pd (a++[x]) (p++[x]) q:=⟨h.sp.append (fe _),h.sq.trans (jW _ _),fun y c b=>by
 rcases List.mem_append.mp c with h1|h1
 ·exact h.d y h1 b
 ·rw [List.mem_singleton.mp h1] at b
  exact e (h.sq.subset b)⟩
theorem pd.right {a p q:List Str} (h:pd a p q) (x:Str) (e:x∉a):pd (a++[x]) p (q++[x]):=⟨h.sp.trans (jW _ _),h.sq.append (fe _),fun y b c=>by
 rcases List.mem_append.mp c with h1|h1
 ·exact h.d y b h1
 ·rw [List.mem_singleton.mp h1] at b
  exact e (h.sp.subset b)⟩
abbrev o4 (p q r t:List Str):Sl:=.ow2 [p.map .str,q.map .str,r.map .str,t.map .str]
theorem ZN (j:Int) (c:0<=j) (a:j<3):∃ b:Bool,aS (.list [.int 0,.int 0,.int 1]) (.int j)=.ok (.int (if b then 0 else 1)):=by
 have:j=0\/j=1\/j=2:=by omega
 rcases this with h|h|h<;>subst h
 ·exact ⟨true,rfl⟩
 ·exact ⟨true,rfl⟩
 ·exact ⟨false,rfl⟩
theorem ZO (j:Int) (c:0<=j) (a:j<4):∃ b:Bool,aS (.list [.int 2,.int 2,.int 3,.int 3]) (.int j)=.ok (.int (if b then 2 else 3)):=by
 have:j=0\/j=1\/j=2\/j=3:=by omega
 rcases this with h|h|h|h<;>subst h
 ·exact ⟨true,rfl⟩
 ·exact ⟨true,rfl⟩
 ·exact ⟨false,rfl⟩
 ·exact ⟨false,rfl⟩
theorem wZ (p:List Str) (x:Str):(p++[x]).map aE=p.map .str++[.str x]:=by simp
theorem Q_ {a b c d e f:Sl}{g p q r t:List Str}{x:Str}{j:Int} (h:pd g p q) (l:x∉g) (v:g.length<900) (u:0<=j) :
  ∃ k q',pd (g++[x]) k q'/\fS (eT (g2 (rB 7) (kI 3) Jh)) (pU 4 (g2 (fj (J.ah (kI 0) (J.ah (kI 0) (J.ah (kI 1) J.aN))) .list) (rB 7) aS) (rS 6)) (fun ρ=>.ok (.nx ρ)) [a,b,c,d,o4 p q r t,e,.shr (.str x),.shr (.int j),f]=.ok (.nx [a,b,c,d,o4 k q' r t,e,.shr (.str x),.shr (.int j),f]):=by
 by_cases i:j<3
 ·obtain ⟨o,m⟩:=ZN j u i
  have s:p.length<1000:=by have:=h.sp.length_le;omega
  have n:q.length<1000:=by have:=h.sq.length_le;omega
  cases o
  ·refine ⟨p,q++[x],h.right x l,?_⟩
   left
   rw [decide_eq_true i]
   left
   simp only [o4,wZ]
   refine (EE (j:=1) (ds:=q.map .str) (d:=.str x) rfl ?_ (by decide) rfl rfl (by rw [aw];exact n)).trans rfl
   left
   rw [m]
   rfl
  ·refine ⟨p++[x],q,h.left x l,?_⟩
   left
   rw [decide_eq_true i]
   left
   simp only [o4,wZ]
   refine (EE (j:=0) (ds:=p.map .str) (d:=.str x) rfl ?_ (by decide) rfl rfl (by rw [aw];exact s)).trans rfl
   left
   rw [m]
   rfl
 ·refine ⟨p,q,h.skip x,?_⟩
  left
  rw [decide_eq_false i]
  left
theorem R1 {a b c d e f:Sl}{g p q r t:List Str}{x:Str}{j:Int} (h:pd g r t) (l:x∉g) (v:g.length<900) (u:0<=j) :
  ∃ k t',pd (g++[x]) k t'/\fS (eT (g2 (rB 7) (kI 4) Jh)) (pU 4 (g2 (fj (J.ah (kI 2) (J.ah (kI 2) (J.ah (kI 3) (J.ah (kI 3) J.aN)))) .list) (rB 7) aS) (rS 6)) (fun ρ=>.ok (.nx ρ)) [a,b,c,d,o4 p q r t,e,.shr (.str x),.shr (.int j),f]=.ok (.nx [a,b,c,d,o4 p q k t',e,.shr (.str x),.shr (.int j),f]):=by
 by_cases i:j<4
 ·obtain ⟨o,m⟩:=ZO j u i
  have s:r.length<1000:=by have:=h.sp.length_le;omega
  have n:t.length<1000:=by have:=h.sq.length_le;omega
  cases o
  ·refine ⟨r,t++[x],h.right x l,?_⟩
   left
   rw [decide_eq_true i]
   left
   simp only [o4,wZ]
   refine (EE (j:=3) (ds:=t.map .str) (d:=.str x) rfl ?_ (by decide) rfl rfl (by rw [aw];exact n)).trans rfl
   left
   rw [m]
   rfl
  ·refine ⟨r++[x],t,h.left x l,?_⟩
   left
   rw [decide_eq_true i]
   left
   simp only [o4,wZ]
   refine (EE (j:=2) (ds:=r.map .str) (d:=.str x) rfl ?_ (by decide) rfl rfl (by rw [aw];exact s)).trans rfl
   left
   rw [m]
   rfl
 ·refine ⟨r,t,h.skip x,?_⟩
  left
  rw [decide_eq_false i]
  left
theorem ZP (i:Nat) (ρ:aB):Tx i ρ=.ok (.nx ((clear2 ρ).set i (.ow2 [[],[],[],[]]))):=id rfl
theorem pd.sub {fs p q:List Str} (d:fs.Pairwise fun a b=>s9 a b=true) (h:pd fs p q):Sub fs p/\Sub fs q:=⟨⟨d.sublist h.sp,fun x c=>h.sp.subset c⟩,⟨d.sublist h.sq,fun x c=>h.sq.subset c⟩⟩
theorem R4 (p:List Str) (ρ:aB):(c7 (J.ah (rB 0) J.aN) (j9 iM)) (.shr (.list (p.map .str))::ρ)=.ok (b9 p):=by
 left
 rw [gW]
theorem ZQ (p q r t:List Str):il (jt 1 [Sl.no] kT (c7 (J.ah (rB 0) J.aN) (j9 iM))) [.list (p.map .str),.list (q.map .str),.list (r.map .str),.list (t.map .str)]=.ok [b9 p,b9 q,b9 r,b9 t] :=
 dL _ (fun a:List Str=>fR (a.map .str)) (fun a=>b9 a) [p,q,r,t] fun a hs=>fM rfl (R4 a _)
theorem Nc (g:List Int) (k:Int) (N:0<=k) (fs:List Str) (E:∀ x∈fs,uV x=true) (I:fs.Pairwise fun a b=>s9 a b=true) (K:fs.Nodup) (hl:fs.length<=6) (nm:Str) (L:uV nm=true) :
  ∃ e,jp [.list (g.map .int),.int k,b9 fs,.str nm]=.ok (cG e)/\sW fs e/\e.name=nm:=by
 have P:=fh g k 5 (by decide)
 have p1:=fN g k 5 (by decide)
 have Y:∀ ρ:aB,ρ=[.shr (.list (g.map .int)),.shr (.int k),.shr (b9 fs),.shr (.str nm),.no,.no,.no,.no,.no]->(!decide (fs=[])&&decide (eB g 97 2=0))=false->∃ e,jo ρ=.ok (.rt (cG e))/\sW fs e/\e.name=nm:=by
  rintro ρ rfl n
  obtain ⟨ρ',o,p,q,r,t,m,s,w⟩:∃ ρ',(y8 (Jm (J.ah (rS 2) J.aN)) (sL 2 (eJ (cV 5) (eJ (cV 6) vj))) (bu (jl 7 (gN 3 aU (J.ah (rS 0) (J.ah (g2 (g2 (rB 1) (kI 10) dI) (rB 5) dI) (J.ah (kI 8) J.aN))))) (bu (fS (eT (g2 (rB 7) (kI 3) Jh)) (pU 4 (g2 (fj (J.ah (kI 0) (J.ah (kI 0) (J.ah (kI 1) J.aN))) .list) (rB 7) aS) (rS 6)) (fun ρ=>.ok (.nx ρ))) (bu (jl 7 (gN 3 aU (J.ah (rS 0) (J.ah (g2 (g2 (rB 1) (kI 20) dI) (rB 5) dI) (J.ah (kI 8) J.aN))))) (fS (eT (g2 (rB 7) (kI 4) Jh)) (pU 4 (g2 (fj (J.ah (kI 2) (J.ah (kI 2) (J.ah (kI 3) (J.ah (kI 3) J.aN)))) .list) (rB 7) aS) (rS 6)) (fun ρ=>.ok (.nx ρ))))))) [.shr (.list (g.map .int)),.shr (.int k),.shr (b9 fs),.shr (.str nm),o4 [] [] [] [],.no,.no,.no,.no]=.ok (.nx ρ')/\∃ p q r t,pd fs p q/\pd fs r t/\∃ y A u,ρ'=[.shr (.list (g.map .int)),.shr (.int k),.shr (b9 fs),.shr (.str nm),o4 p q r t,y,A,u,.no]:=by
   rw [yE (ds:=(oG 0 fs).map cI)]
   ·have H:=sV cI (fun (a:Unit) (_:Nat×Str)=>a) (fun bU _ ρ=>∃ l,l++bU.map (·.2)=fs/\∃ p q r t,pd l p q/\pd l r t/\∃ y A u,ρ=[.shr (.list (g.map .int)),.shr (.int k),.shr (b9 fs),.shr (.str nm),o4 p q r t,y,A,u,.no]) (kt:=sL 2 (eJ (cV 5) (eJ (cV 6) vj))) (gb:=(bu (jl 7 (gN 3 aU (J.ah (rS 0) (J.ah (g2 (g2 (rB 1) (kI 10) dI) (rB 5) dI) (J.ah (kI 8) J.aN))))) (bu (fS (eT (g2 (rB 7) (kI 3) Jh)) (pU 4 (g2 (fj (J.ah (kI 0) (J.ah (kI 0) (J.ah (kI 1) J.aN))) .list) (rB 7) aS) (rS 6)) (fun ρ=>.ok (.nx ρ))) (bu (jl 7 (gN 3 aU (J.ah (rS 0) (J.ah (g2 (g2 (rB 1) (kI 20) dI) (rB 5) dI) (J.ah (kI 8) J.aN))))) (fS (eT (g2 (rB 7) (kI 4) Jh)) (pU 4 (g2 (fj (J.ah (kI 2) (J.ah (kI 2) (J.ah (kI 3) (J.ah (kI 3) J.aN)))) .list) (rB 7) aS) (rS 6)) (fun ρ=>.ok (.nx ρ)))))))
    obtain ⟨ρ',o,l,m,p,q,r,t,s,w,T⟩:=H (by
     rintro ⟨i,x⟩ bU _ ρ ⟨l,m,p,q,r,t,s,w,y,A,u,rfl⟩
     have B:x∉l:=by
      rw [<- m,aW] at K
      have:=(List.nodup_append.mp K).2.2
      intro B
      exact this x B x au rfl
     have z:l.length<900:=by
      have:=congrArg pG m
      rw [bB] at this
      omega
     obtain ⟨G,q',k1,k2⟩:=Q_ (a:=.shr (.list (g.map .int))) (b:=.shr (.int k)) (c:=.shr (b9 fs)) (d:=.shr (.str nm)) (e:=.shr (.int (i:Nat))) (f:=.no) (r:=r) (t:=t) (j:=eB g (k+10+i) 8) s B z (fh _ _ _ (by decide))
     obtain ⟨M,t',k3,S⟩:=R1 (a:=.shr (.list (g.map .int))) (b:=.shr (.int k)) (c:=.shr (b9 fs)) (d:=.shr (.str nm)) (e:=.shr (.int (i:Nat))) (f:=.no) (p:=G) (q:=q') (j:=eB g (k+20+i) 8) w B z (fh _ _ _ (by decide))
     refine ⟨[.shr (.list (g.map .int)),.shr (.int k),.shr (b9 fs),.shr (.str nm),o4 p q r t,.shr (.int (i:Nat)),.shr (.str x),u,.no],[.shr (.list (g.map .int)),.shr (.int k),.shr (b9 fs),.shr (.str nm),o4 G q' M t',.shr (.int (i:Nat)),.shr (.str x),.shr (.int (eB g (k+20+i) 8)),.no],rfl,?_,l++[x],?_,G,q',M,t',k1,k3,_,_,_,rfl⟩
     ·rw [Gp,PZ]
      walk_at "yy"
      rw [eP g _ 8 (by omega) (by decide)]
      walk_at "yy"
      rw [k2]
      walk_at "yy"
      rw [eP g _ 8 (by omega) (by decide)]
      walk_at "yy"
      rw [S]
     ·rw [<- m];simp) (oG 0 fs) () [.shr (.list (g.map .int)),.shr (.int k),.shr (b9 fs),.shr (.str nm),o4 [] [] [] [],.no,.no,.no,.no] ⟨[],by rw [uq];rfl,[],[],[],[],⟨fe _,fe _,fun _ h=>nomatch h⟩,⟨fe _,fe _,fun _ h=>nomatch h⟩,_,_,_,rfl⟩
    refine ⟨ρ',o,p,q,r,t,?_,?_,T⟩
    ·simp only [iG,cb] at m
     rw [<- m];exact s
    ·simp only [iG,cb] at m
     rw [<- m];exact w
   ·left
    rw [zI]
  obtain ⟨O,X⟩:=m.sub I
  obtain ⟨U,Q⟩:=s.sub I
  obtain ⟨y,A,u,rfl⟩:=w
  refine ⟨⟨nm,p,q,r,t,eB g k 5⟩,?_,⟨L,O,X,U,Q,m.d,s.d,P,by show eB g k 5<=9;omega⟩,rfl⟩
  unfold jo
  have v:oY (eT (g2 (rB 2) (fj J.aN .tuple) (ir true))) (eT (g2 (gN 3 aU (J.ah (rS 0) (J.ah (kI 97) (J.ah (kI 2) J.aN)))) (kI 0) (ir false))) [.shr (.list (g.map .int)),.shr (.int k),.shr (b9 fs),.shr (.str nm),.no,.no,.no,.no,.no]=.ok false:=by
   left
   rw [LJ fs E]
   left
   by_cases h:fs=[]
   ·simp only [h,decide_true,qt,cond_false]
   ·simp only [h,decide_false,o8,cond_true,wp] at n ⊢
    rw [eP g 97 2 (by decide) (by decide)]
    left
    rw [nC]
    left
    rw [n]
  rw [Gp,Z4,v]
  simp only [Eo,PX,ZP,clear2,aW,iG,xx,xw,Eo,sS,Gp]
  rw [show Sl.ow2 [[],[],[],[]]=o4 [] [] [] [] from rfl,o]
  left
  rw [ZQ]
  left
  rw [VS]
  left
  rw [VT]
  left
  rw [VU]
  left
  rw [VV]
  left
  rw [eP g k 5 N (by decide)]
  left
  rfl
 by_cases n:(!decide (fs=[])&&decide (eB g 97 2=0))=true
 ·have h0:0<fs.length:=by
   rcases fs with _|⟨x,r⟩
   ·simp at n
   ·simp
  obtain ⟨e,o,m⟩:=Uk g k N fs E h0 nm L
  refine ⟨e,?_,m⟩
  unfold jp
  refine du ?_
  unfold jo cm
  left
  rw [LJ fs E]
  left
  simp only [aP] at n
  rw [n.1]
  left
  rw [eP g 97 2 (by decide) (by decide)]
  left
  rw [nC]
  left
  rw [n.2]
  left
  rw [o]
  left
 ·obtain ⟨e,o,m⟩:=Y _ rfl (Bool.eq_false_iff.mpr n)
  exact ⟨e,by unfold jp;exact du o,m⟩
theorem R5 (ds:List D) (t:Nat) (h:t<=ds.length):BR ds (some (t:Int)) none=ds.drop t:=by
 unfold BR
 rw [HT.KB,HT.FI,Nat.min_eq_left h,HR (by rw [zo];exact aA _)]
theorem Xq (ds:List D) (t:Nat) (h:t<=ds.length):BR ds none (some (t:Int))=ds.take t:=by
 unfold BR
 rw [HT.KB,HT.FI,Nat.min_eq_left h,List.drop_zero,Nat.sub_zero]
theorem ZR (ds:List D) (t:Nat) (h:t<=ds.length):KY (.list ds) (some (t:Int)) none=.ok (.list (ds.drop t)):=by
 rw [<- R5 ds t h];rfl
theorem ZS (ds:List D) (t:Nat) (h:t<=ds.length):KY (.list ds) none (some (t:Int))=.ok (.list (ds.take t)):=by
 rw [<- Xq ds t h];rfl
theorem R6 {l:List (Str×D)} (b:(l.map (·.1)).Nodup) {p:Str×D} (a:p∈l):aS (.dict (jS l)) (.str p.1)=.ok p.2:=by
 have e:∀ kvs x,aS (.dict kvs) (.str x)=if i7 kvs=true then (match wN kvs (.str x) with
   |some d=>.ok d
   |none=>.no) else .no:=fun _ _=>rfl
 rw [e,if_pos (AR l)]
 have:wN (jS l) (.str p.1)=some p.2:=by
  unfold wN jS
  clear e
  induction l with
  |nil=>cases a
  |cons q r c =>
   rw [aW] at b
   obtain ⟨f,g⟩:=List.nodup_cons.mp b
   rw [aW,eh,qZ]
   rcases List.mem_cons.mp a with h|h
   ·subst h;simp
   ·have:q.1≠p.1:=fun z=>f (z ▸ mY h)
    rw [decide_eq_false this]
    exact c g h
 rw [this]
structure fz (fs:List Str) (es:List iy):Prop where
 rise:Ui fs 6
 len:es.length<=6
 nd:(es.map (·.name)).Nodup
 ok:∀ e∈es,sW fs e
def dg (fs:List Str) (a:List iy):D:=.tuple [b9 fs,.tuple (a.map cG)]
theorem ZT (fs:List Str):∀ (l:List (Str×D)),(∀ p∈l,∃ e,p.2=cG e/\sW fs e/\e.name=p.1)->∃ a:List iy,l.map (·.2)=a.map cG/\a.map (·.name)=l.map (·.1)/\∀ e∈a,sW fs e
 |[],_=>⟨[],rfl,rfl,fun _ h=>nomatch h⟩
 |p::r,h=>by
  obtain ⟨e,b,f,c⟩:=h p au
  obtain ⟨a,k1,k2,k3⟩:=ZT fs r fun q d=>h q (aq _ d)
  refine ⟨e::a,by rw [aW,aW,b,k1],by rw [aW,aW,c,k2],fun x g=>?_⟩
  rcases List.mem_cons.mp g with z|z
  ·rw [z];exact f
  ·exact k3 x z
theorem Nd {α:Type} (l:List α) (t:Nat):(l.drop t++l.take t).Perm l:=by
 refine List.perm_append_comm.trans ?_
 rw [List.take_append_drop]
theorem lR {l:List Str} (h:l.Pairwise fun a b=>s9 a b=true):l.Nodup:=h.imp fun c z=>by
 rw [z,vg] at c
 cases c
theorem Ul (b:List Int) (k:Int) (P:0<=k) (m n:Int) (j:0<=m) (U:m<=6) (S:0<=n) (X:n<=6):∃ fs c,ny [.list (b.map .int),.int k,.int m,.int n]=.ok (dg fs c)/\fz fs c:=by
 have f:=JC b k m j
 generalize w:EC b k m=fs at f
 have f:Ui fs 6:=⟨f.ok,f.up,by have:=f.len;omega⟩
 have K:=lR f.up
 have I:=fh b (k+60) (n+1) (by omega)
 have m1:=fN b (k+60) (n+1) (by omega)
 suffices H:∃ c,ny [.list (b.map .int),.int k,.int m,.int n]=.ok (dg fs c)/\fz fs c from H.elim fun c h=>⟨fs,c,h⟩
 unfold ny
 suffices H:∃ c,nw (cm 10 [.list (b.map .int),.int k,.int m,.int n])=.ok (.rt (dg fs c))/\fz fs c from H.elim fun c h=>⟨c,du h.1,h.2⟩
 have H:=sV (fun (i:Nat)=>bM i) (fun (a:Unit) (_:Nat)=>a) (fun bU _ ρ=>∃ l,l.length+bU.length<=6/\(l.map (·.1)).Nodup/\(∀ p∈l,∃ e,p.2=cG e/\sW fs e/\e.name=p.1)/\∃ y u,ρ=[.shr (.list (b.map .int)),.shr (.int k),.shr (.int m),.shr (.int n),.shr (b9 fs),.own (.dict (jS l)),y,u,.no,.no]) (kt:=cV 6) (gb:=bu (jl 7 (gN 2 li (J.ah (rS 0) (J.ah (g2 (g2 (rB 1) (kI 70) dI) (g2 (kI 40) (rB 6) wK) dI) J.aN)))) (El 5 (rS 7) (gN 4 jp (J.ah (rS 0) (J.ah (g2 (g2 (rB 1) (kI 80) dI) (g2 (kI 40) (rB 6) wK) dI) (J.ah (rS 4) (J.ah (rS 7) J.aN)))))))
 obtain ⟨ρ',A,l,z,s,v,y,u,O⟩:=H (by
  rintro i bU _ ρ ⟨l,z,s,v,y,u,rfl⟩
  simp only [aX] at z
  have M:=GL b (k+70+40*(i:Int))
  obtain ⟨e,o,T,G⟩:=Nc b (k+80+40*(i:Int)) (by omega) fs f.ok f.up K f.len (lQ b (k+70+40*(i:Int))) M
  have pl:=GM l (lQ b (k+70+40*(i:Int))) (cG e)
  refine ⟨[.shr (.list (b.map .int)),.shr (.int k),.shr (.int m),.shr (.int n),.shr (b9 fs),.own (.dict (jS l)),.shr (.int i),u,.no,.no],[.shr (.list (b.map .int)),.shr (.int k),.shr (.int m),.shr (.int n),.shr (b9 fs),.own (.dict (jS (uK l (lQ b (k+70+40*(i:Int))) (cG e)))),.shr (.int i),.shr (.str (lQ b (k+70+40*(i:Int)))),.no,.no],rfl,?_,uK l (lQ b (k+70+40*(i:Int))) (cG e),by omega,?_,?_,_,_,rfl⟩
  ·left
   rw [um (by decide) (by decide)]
   left
   rw [LF b _ (by omega)]
   left
   refine (VQ (l:=l) (x:=lQ b (k+70+40*(i:Int))) (d:=cG e) rfl ?_ rfl (by omega)).trans rfl
   left
   rw [um (by decide) (by decide)]
   left
   exact o
  ·rw [Dh];exact N9 s
  ·exact QX (Q:=fun x d=>∃ e,d=cG e/\sW fs e/\e.name=x) v ⟨e,rfl,T,G⟩) (br (eB b (k+60) (n+1)).toNat) () [.shr (.list (b.map .int)),.shr (.int k),.shr (.int m),.shr (.int n),.shr (b9 fs),.own (.dict (jS [])),.no,.no,.no,.no] ⟨[],by rw [dh];simp only [ej];omega,ij,fun _ h=>(nomatch h),_,_,rfl⟩
 simp only [ej,Nat.add_zero] at z
 have N:=fh b (k+61) ((l.length:Int)+1) (by omega)
 have Y:=fN b (k+61) ((l.length:Int)+1) (by omega)
 obtain ⟨t,E⟩:∃ t:Nat,eB b (k+61) ((l.length:Int)+1)=t:=⟨_,(eU N).symm⟩
 have B:t<=l.length:=by omega
 have g:=Nd l t
 obtain ⟨c,k1,k2,k3⟩:=ZT fs (l.drop t++l.take t) fun p q=>v p (g.mem_iff.mp q)
 have kl:c.length=l.length:=by
  have:=congrArg pG k1
  rw [aw,aw,g.length_eq] at this
  exact this.symm
 refine ⟨c,?_,f,by omega,?_,k3⟩
 ·unfold nw cm
  walk_at "yy"
  rw [QZ b k m P j (by omega),w]
  walk_at "yy"
  rw [yE (ds:=(br (eB b (k+60) (n+1)).toNat).map fun (i:Nat)=>bM i)]
  ·rw [show PyData.dict []=PyData.dict (jS []) from rfl,A,O]
   walk_at "yy"
   rw [GN]
   walk_at "yy"
   rw [eP b _ _ (by omega) (by omega),E]
   walk_at "yy"
   clear H A
   rw [ZR _ t (by simpa using B)]
   walk_at "yy"
   rw [ZS _ t (by simpa using B)]
   walk_at "yy"
   have o:(List.drop t (Ks aE (Ks (fun x=>x.fst) l))++List.take t (Ks aE (Ks (fun x=>x.fst) l)))=(l.drop t++l.take t).map fun p=>aE p.1:=by
    rw [fF,List.map_drop,List.map_take,el];rfl
   rw [o,if_pos (by rw [<- bB,o,aw,g.length_eq];omega)]
   have pl:=g.length_eq
   have px:∀ p∈l.drop t++l.take t,p∈l:=fun p q=>g.mem_iff.mp q
   clear o g k2
   generalize l.drop t++l.take t=L at pl px k1 ⊢
   walk_at "yy"
   rw [if_pos (by omega)]
   rw [dL _ (fun p:Str×D=>aE p.1) (fun p=>p.2) L fun p q=>fM rfl (by
    walk_at "yy"
    exact R6 s (px p q))]
   walk_at "yy"
   rw [gW]
   walk_at "yy"
   rw [k1]
   rfl
  ·walk_at "yy"
   rw [eP b (k+60) (n+1) (by omega) (by omega)]
   walk_at "yy"
   have:=Ey (eB b (k+60) (n+1)).toNat (by omega)
   rw [eU I] at this
   exact this
 ·rw [k2]
  exact ((g.map _).nodup_iff).mpr s
theorem Di {α:Type} (b:α->Bool):∀ xs:List α,oh (xs.map fun x=>cX (b x))=some (xs.map b)
 |[]=>rfl
 |x::r=>by
  show (oh (r.map fun x=>cX (b x))).map (b x::·)=_
  rw [Di b r]
  rfl
theorem kO {α:Type} (k:List Bool->Bool) (b:α->Bool) (xs:List α):h_ k (.list (xs.map fun x=>cX (b x)))=.ok (.bool (k (xs.map b))):=by
 have e:∀ ds,h_ k (.list ds)=match oh ds with
  |some bs=>.ok (.bool (k bs))
  |none=>.no:=fun _=>rfl
 rw [e,Di]
theorem R7 {s s':Sl}{ρ:aB}{gt:aB->R Bool}{ge:aB->R D}{d d' y:D} (a:gt (.shr d::.shr d'::ρ)=.ok true) (c:ge (.shr d::.shr d'::ρ)=.ok y):jt 2 (s::s'::ρ) gt ge (.tuple [d,d'])=.ok (some y):=by
 have e:jt 2 (s::s'::ρ) gt ge (.tuple [d,d'])=MR ((gt (.shr d::.shr d'::ρ)).bind fun b=>if b then (ge (.shr d::.shr d'::ρ)).bind fun y=>.ok (some y) else .ok none):=id rfl
 rw [e,a,bind_ok,if_pos rfl,c];rfl
theorem JF (x:Str):wH (.str x)=true:=id rfl
theorem R8 (i:Int):wH (.int i)=true:=id rfl
theorem EF {α:Type} (c:α->D) (h:∀ x,wH (c x)=true):∀ xs:List α,noDs (xs.map c)=true
 |[]=>rfl
 |x::r=>by
  show (wH (c x)&&noDs (r.map c))=true
  rw [h x,EF c h r];rfl
theorem R9 (xs:List D):wH (.tuple xs)=noDs xs:=id rfl
theorem ur (xs:List Str):wH (b9 xs)=true:=by
 rw [R9]
 exact EF _ (fun _=>rfl) xs
theorem LK (e:iy):wH (cG e)=true:=by
 have:wH (cG e)=(true&&(wH (b9 e.needs)&&(wH (b9 e.bars)&&(wH (b9 e.makes)&&(wH (b9 e.ends)&&(true&&true)))))):=rfl
 rw [this,ur,ur,ur,ur];rfl
theorem VW (a:List iy):wH (.tuple (a.map cG))=true:=by
 rw [R9]
 exact EF _ LK a
theorem Um (fs:List Str) (a:List iy):wH (dg fs a)=true:=by
 have:wH (dg fs a)=(wH (b9 fs)&&(wH (.tuple (a.map cG))&&true)):=rfl
 rw [this,ur,VW];rfl
theorem JH (x:Str):Gf "str" (.str x)=true:=id rfl
theorem EG (x:List D):Gf "tuple" (.tuple x)=true:=id rfl
theorem Xr (x:Int):Gf "int" (.int x)=true:=id rfl
theorem Xs (x:Int):Gf "bool" (.int x)=false:=id rfl
theorem Uo:∀ c:_root_.Fin 123,97<=c.val->(!s9 ⟨#[c.val]⟩ "a")=true/\(!s9 "z" ⟨#[c.val]⟩)=true:=by decide +kernel
theorem Dj {x:Str} (h:uV x=true):q0 [.str x]=.ok (.bool true):=by
 have f:=h
 unfold uV at h
 simp only [aP,decide_eq_true_eq,cY] at h
 obtain ⟨⟨e,i⟩,a⟩:=h
 have g:x.length=x.cps.size:=rfl
 unfold q0
 refine du ?_
 unfold uf cm
 left
 rw [JF,JH]
 left
 rw [if_pos (by omega)]
 left
 rw [decide_eq_true (by omega)]
 left
 rw [decide_eq_true (by omega)]
 left
 unfold oZ
 left
 rw [if_pos (by rw [ay];omega)]
 rw [dL _ (fun c:Nat=>aE ⟨#[c]⟩) (fun _=>cX true) x.cps.toList fun c b=>fM rfl (by
  obtain ⟨d,a2⟩:=a c b
  obtain ⟨b1,b2⟩:=Uo ⟨c,by omega⟩ d
  left
  simp only at b1 b2
  rw [b1]
  left
  rw [b2])]
 left
 rw [kO _ (fun _=>true)]
 left
 simp
theorem GP:∀ (xs ys:List Str),zd (xs.map .str) (ys.map .str)=(xs.zip ys).map fun p=>df [.str p.1,.str p.2]
 |[],_=>rfl
 |_::_,[]=>rfl
 |x::r,y::a=>by
  show df [.str x,.str y]::zd (r.map .str) (a.map .str)=_
  rw [GP r a]
  rfl
theorem Ra:∀ {l:List Str},(l.Pairwise fun a b=>s9 a b=true)->∀ p∈l.zip (l.drop 1),s9 p.1 p.2=true
 |[],_,p,c=>by cases c
 |[_],_,p,c=>by cases c
 |a::b::r,h,p,c=>by
  obtain ⟨d,e⟩:=List.pairwise_cons.mp h
  rcases List.mem_cons.mp c with z|z
  ·rw [z];exact d b au
  ·exact Ra e p z
theorem Up (xs:List Str):KY (b9 xs) (some 1) none=.ok (b9 (xs.drop 1)):=by
 have e:KY (b9 xs) (some 1) none=.ok (.tuple (BR (xs.map .str) (some 1) none)):=rfl
 rw [e]
 cases xs with
 |nil=>rfl
 |cons x r =>
  rw [show (1:Int)=((1:Nat):Int) from rfl,R5 _ 1 (by simp)]
  rfl
theorem yH {xs:List Str} (e:∀ x∈xs,uV x=true) (f:xs.Pairwise fun a b=>s9 a b=true) (g:xs.length<=6):f_ [b9 xs]=.ok (.bool true):=by
 unfold f_
 refine du ?_
 unfold iu cm
 left
 rw [ur,EG]
 left
 rw [if_pos (by omega)]
 rw [dL _ (fun x:Str=>aE x) (fun _=>cX true) xs fun x d=>fM rfl (by
  left
  rw [Dj (e x d)])]
 left
 rw [kO _ (fun _=>true)]
 left
 rw [show ((xs.map fun _=>true).all id)=true by simp]
 left
 rw [Up]
 left
 rw [GP]
 left
 rw [if_pos (by simp;omega)]
 rw [dL _ (fun p:Str×Str=>df [.str p.1,.str p.2]) (fun _=>cX true) (xs.zip (xs.drop 1)) fun p c=>R7 rfl (by
  left
  rw [Ra f p c])]
 left
 rw [kO _ (fun _=>true)]
 left
 simp
theorem nD {fs xs:List Str} (b:∀ x∈fs,uV x=true) (h:Sub fs xs) (c:xs.length<=6):j_ [b9 fs,b9 xs]=.ok (.bool true):=by
 unfold j_
 refine du ?_
 unfold oo cm
 left
 rw [yH (fun x a=>b x (h.mem x a)) h.up c]
 left
 rw [if_pos (by omega)]
 rw [dL _ (fun x:Str=>aE x) (fun _=>cX true) xs fun x a=>fM rfl (by
  left
  rw [mj,decide_eq_true (h.mem x a)]
  rfl)]
 left
 rw [kO _ (fun _=>true)]
 left
 simp
theorem Dk {xs ys:List Str} (h:∀ x∈xs,x∉ys) (b:xs.length<=6):gI [b9 xs,b9 ys]=.ok (.bool true):=by
 unfold gI
 refine du ?_
 unfold kH cm
 left
 rw [if_pos (by omega)]
 rw [dL _ (fun x:Str=>aE x) (fun _=>cX false) xs fun x a=>fM rfl (by
  left
  rw [mj,decide_eq_false (h x a)]
  rfl)]
 left
 rw [kO _ (fun _=>false)]
 left
 simp
theorem JJ {l i m:Int} (b:l<=i) (a:i<=m):qP [.int i,.int l,.int m]=.ok (.bool true):=by
 unfold qP
 refine du ?_
 unfold qO cm
 left
 rw [R8,Xr]
 left
 rw [R8,Xs]
 left
 rw [decide_eq_true b]
 left
 rw [decide_eq_true a]
theorem EH:∀ (xs fs:List Str),xs.Nodup->(∀ x∈xs,x∈fs)->xs.length<=fs.length
 |[],_,_,_=>cy _
 |x::r,fs,c,h=>by
  obtain ⟨d,e⟩:=List.nodup_cons.mp c
  have b:=h x au
  have:=EH r (fs.erase x) e fun y a=>(List.mem_erase_of_ne fun (z:y=x)=>d (z ▸ a)).mpr (h y (aq _ a))
  rw [List.length_erase_of_mem b] at this
  have:0<fs.length:=List.length_pos_of_mem b
  rw [aX]
  omega
theorem jO {fs xs:List Str} (h:Sub fs xs) (a:fs.length<=6):xs.length<=6:=by
 exact bF (EH xs fs (lR h.up) h.mem) a
theorem q0U (a b c d e f g:D):TK (sL 6 (eJ (cV 2) (eJ (cV 3) (eJ (cV 4) (eJ (cV 5) (eJ (cV 6) (eJ (cV 7) vj))))))) [Sl.shr a,Sl.shr (.tuple [b,c,d,e,f,g]),.no,.no,.no,.no,.no,.no] (.tuple [b,c,d,e,f,g])=.ok (.nx [Sl.shr a,Sl.shr (.tuple [b,c,d,e,f,g]),.shr b,.shr c,.shr d,.shr e,.shr f,.shr g]):=id rfl
theorem GQ {fs:List Str} (a:Ui fs 6) {e:iy} (g:sW fs e):ou [b9 fs,cG e]=.ok (.bool true):=by
 have f:=jO g.needs a.len
 have h:=jO g.bars a.len
 have d:=jO g.makes a.len
 have i:=jO g.ends a.len
 unfold ou
 refine du ?_
 unfold oq cm
 left
 rw [LK]
 unfold cG
 left
 rw [EG]
 left
 rw [nC]
 left
 rw [show decide (((6:Nat):Int)=6)=true from rfl]
 left
 rw [q0U]
 ·left
  rw [Dj g.name]
  left
  rw [JJ g.p0 g.p9]
  left
  have b:=dL (jt 1 [Sl.no,Sl.shr (b9 fs)] kT (gN 2 j_ (J.ah (rS 1) (J.ah (rS 0) J.aN)))) (fun x:List Str=>b9 x) (fun _=>cX true) [e.needs,e.bars,e.makes,e.ends] fun x c=>fM rfl (by
   left
   simp only [bf,aY,or_false] at c
   rcases c with z|z|z|z<;>rw [z]
   ·rw [nD a.ok g.needs f]
   ·rw [nD a.ok g.bars h]
   ·rw [nD a.ok g.makes d]
   ·rw [nD a.ok g.ends i])
  simp only [aW,iG] at b
  rw [b]
  left
  rw [show h_ (fun bs=>bs.all id) (.list [.bool true,.bool true,.bool true,.bool true])=.ok (.bool true) from rfl]
  left
  rw [Dk g.nb f]
  left
  rw [Dk g.me d]
  left
theorem Rb (l:List Str) (b:l.Nodup):(dz [] l).length=l.length:=by
 have c:=EH (dz [] l) l (j8 l [] ij) fun x a=>((jk l [] x).mp a).elim (fun h=>nomatch h) id
 have d:=EH l (dz [] l) b fun x a=>(jk l [] x).mpr (.inr a)
 omega
theorem Nf (a:List iy) (d:a.length<=6) (b:(a.map (·.name)).Nodup) (s:Sl) (ρ:aB) (h:(s::ρ)[2]?=some (.shr (.tuple (a.map cG)))):wP (y9 1 [] (kz (rB 2)) kT (g2 (rB 0) (kI 0) aS)) (s::ρ)=.ok (.int (a.length:Nat)):=by
 have c:HW (s::ρ) 2=.ok (.tuple (a.map cG)):=by unfold HW;rw [h]
 unfold wP y9
 rw [X8,Xd,c]
 left
 rw [if_pos (by omega)]
 rw [dL _ cG (fun e=>aE e.name) a fun e he=>fM rfl (by
  left
  rfl)]
 left
 have:(a.map fun e=>aE e.name)=(a.map (·.name)).map .str:=by rw [el];rfl
 rw [this,strsOf_map]
 simp only [Eo,Rb _ b,aw]
theorem q0V (b c:D):TK (sL 2 (eJ (cV 1) (eJ (cV 2) vj))) [Sl.shr (.tuple [b,c]),.no,.no] (.tuple [b,c])=.ok (.nx [Sl.shr (.tuple [b,c]),.shr b,.shr c]):=id rfl
theorem Ng {fs:List Str}{a:List iy} (g:fz fs a):uh [dg fs a]=.ok (.bool true):=by
 have c:=g.rise.len
 have b:=g.len
 unfold uh
 refine du ?_
 unfold ug cm
 left
 rw [Um]
 unfold dg
 left
 rw [EG]
 left
 rw [nC]
 left
 rw [show decide (((2:Nat):Int)=2)=true from rfl]
 left
 rw [q0V]
 left
 rw [yH g.rise.ok g.rise.up c]
 left
 rw [decide_eq_false (by omega)]
 left
 rw [VW,EG]
 left
 rw [decide_eq_false (by omega)]
 left
 rw [if_pos (by omega)]
 rw [dL _ cG (fun _=>cX true) a fun e he=>fM rfl (by
  left
  rw [GQ g.rise (g.ok e he)])]
 left
 rw [kO _ (fun _=>true)]
 left
 rw [show ((a.map fun _=>true).all id)=true by simp]
 left
 rw [Nf a b g.nd _ _ rfl]
 left
 rw [nC,decide_eq_true rfl]
 rfl
theorem JK {fs:List Str}{a:List iy} (g:fz fs a):ul [dg fs a]=.ok (dg fs a):=by
 unfold ul
 refine du ?_
 unfold uk cm
 left
 rw [Ng g]
 left
theorem Dl {α:Type} (c:α->D) (h:∀ x,bw (c x) (c x)=true):∀ xs:List α,lK (xs.map c) (xs.map c)=true
 |[]=>by simp [lK]
 |x::r=>by simp [lK,h x,Dl c h r]
theorem GT (xs:List Str):bw (b9 xs) (b9 xs)=true:=by
 simp only [bw]
 exact Dl _ (fun x=>by rw [qZ];simp) xs
theorem ye {α:Type} (c:α->D) (n:Nat) (h:∀ x,(c x).depth<=n):∀ xs:List α,zu (xs.map c)<=n
 |[]=>by simp [zu]
 |x::r=>by
  simp only [aW,zu]
  exact Nat.max_le.mpr ⟨h x,ye c n h r⟩
theorem sX {fs xs:List Str} (b:∀ x∈fs,uV x=true) (h:Sub fs xs):bN (xs.map .str)=true:=qe xs fun x a=>b x (h.mem x a)
theorem Rc {fs:List Str} (a:∀ x∈fs,uV x=true) {e:iy} (g:sW fs e):(cG e).canLay0=true:=by
 unfold cG
 simp only [dR,bN]
 have:=uo g.name
 simp only [dR] at this
 rw [sX a g.needs,sX a g.bars,sX a g.makes,sX a g.ends,this]
 rfl
theorem VX {i:Nat}{g:aB->R D}{ρ:aB}{ds:List D}{d:D} (a:ρ[i]?=some (Sl.own (.list ds))) (b:g ρ=.ok d) (c:ds.length<1000):Ek i g ρ=.ok (.nx (ρ.set i (.own (.list (ds++[d]))))):=by
 unfold Ek
 simp only [a,b,bind_ok,if_pos c]
theorem Re {s s':Sl}{ρ:aB}{gt:aB->R Bool}{ge:aB->R D}{d d' y:D}{b:Bool} (a:gt (.shr d::.shr d'::ρ)=.ok b) (c:b=true->ge (.shr d::.shr d'::ρ)=.ok y):jt 2 (s::s'::ρ) gt ge (.tuple [d,d'])=.ok (if b then some y else none):=by
 have e:jt 2 (s::s'::ρ) gt ge (.tuple [d,d'])=MR ((gt (.shr d::.shr d'::ρ)).bind fun b=>if b then (ge (.shr d::.shr d'::ρ)).bind fun y=>.ok (some y) else .ok none):=id rfl
 rw [e,a,bind_ok]
 cases b with
 |true=>rw [if_pos rfl,c rfl];rfl
 |false=>rfl
theorem Dm:∀ (xs:List Str) (n:Nat),(oG n xs).length=xs.length
 |[],_=>rfl
 |x::r,n=>by
  show (oG (n+1) r).length+1=r.length+1
  rw [Dm r]
theorem Uq (a:List Int) (k:Int) (d:0<=k) (fs:List Str) (e:fs.length<=6) (m:Int):∃ b:List Str,qS [.list (a.map .int),.int k,b9 fs,.int m]=.ok (b9 b)/\b.Sublist fs:=by
 refine ⟨((oG 0 fs).filter fun q=>decide (eB a (k+(q.1:Int)) 12<m)).map (·.2),?_,?_⟩
 ·unfold qS
  refine du ?_
  unfold qR cm
  left
  rw [zI]
  left
  rw [if_pos (by rw [Dm];omega)]
  rw [jm _ cI (fun q=>aE q.2) (fun q=>decide (eB a (k+(q.1:Int)) 12<m)) (oG 0 fs) fun q c=>Re (by
   left
   rw [eP a _ 12 (by omega) (by decide)]
   left) fun _=>rfl]
  left
  rw [gW]
  left
  unfold b9
  rw [el]
  rfl
 ·have:=(List.filter_sublist (l:=oG 0 fs) (p:=fun q=>decide (eB a (k+(q.1:Int)) 12<m))).map (·.2)
  rw [uq] at this
  exact this
theorem JM {fs xs:List Str} (d:fs.Pairwise fun a b=>s9 a b=true) (h:xs.Sublist fs):Sub fs xs:=⟨d.sublist h,fun x c=>h.subset c⟩
def GU (P:aB->Prop) (r:R Fl):Prop:=∃ ρ',r=.ok (.nx ρ')/\P ρ'
theorem Nh {P:aB->Prop}{r:R Fl}{a:aB->R Fl}{o:R Fl} (h:GU P r) (k:∀ ρ,P ρ->a ρ=o):r.bind (PV a)=o:=by
 obtain ⟨ρ',b,p⟩:=h
 rw [b,bind_ok,sS]
 exact k ρ' p
theorem Dn {α:Type}{kt:D->aB->R aB}{gb:aB->R Fl} (c:α->D) (P:aB->Prop):∀ (xs:List α) (ρ:aB),(∀ x∈xs,∀ ρ,P ρ->∃ ρ1,kt (c x) ρ=.ok ρ1/\GU P (gb ρ1))->P ρ->GU P (p7 kt gb (xs.map c) ρ)
 |[],ρ,_,p=>⟨ρ,rfl,p⟩
 |x::r,ρ,h,p=>by
  obtain ⟨ρ1,b,a,e,f⟩:=h x au ρ p
  rw [aW]
  unfold p7
  rw [b]
  simp only [e]
  exact Dn c P r a (fun y d=>h y (aq _ d)) f
theorem GV {α:Type}{kt:D->aB->R aB}{gb:aB->R Fl} (c:α->D) (p:α->Bool) (out:α->D) (P:aB->Prop):∀ (xs:List α) (ρ:aB),(∀ x∈xs,∀ ρ,P ρ->∃ ρ1,kt (c x) ρ=.ok ρ1/\(p x=true->gb ρ1=.ok (.rt (out x)))/\(p x=false->GU P (gb ρ1)))->P ρ ->
  (∀ x,xs.find? p=some x->p7 kt gb (xs.map c) ρ=.ok (.rt (out x)))/\(xs.find? p=none->GU P (p7 kt gb (xs.map c) ρ))
 |[],ρ,_,q=>⟨fun x h=>(nomatch h),fun _=>⟨ρ,rfl,q⟩⟩
 |x::r,ρ,h,q=>by
  obtain ⟨ρ1,e,k,f⟩:=h x au ρ q
  rw [aW,eh]
  unfold p7
  rw [e]
  cases d:p x with
  |true =>
   refine ⟨fun y a=>?_,fun i=>nomatch i⟩
   cases a
   simp only [k d]
  |false =>
   obtain ⟨b,g,j⟩:=f d
   simp only [g]
   exact GV c p out P r b (fun y a=>h y (aq _ a)) j
structure VY (fs m b:List Str):Prop where
 must:Sub fs m
 bars:Sub fs b
 mb:∀ x∈m,x∉b
abbrev zi (m b:List Str):D:=.tuple [b9 m,b9 b]
theorem LL (p:List Str) (x:Str):p.map aE++[aE x]=(p++[x]).map .str:=by simp
theorem Ur (e:List Int) (k:Int) (G:0<=k) (fs:List Str) (o:fs.Pairwise fun a b=>s9 a b=true) (A:fs.length<=6):∃ m b,vA [.list (e.map .int),.int k,b9 fs]=.ok (zi m b)/\VY fs m b:=by
 have w:=lR o
 suffices H:∃ p q,nz (cm 8 [.list (e.map .int),.int k,b9 fs])=.ok (.rt (zi p q))/\pd fs p q by
  obtain ⟨p,q,n,f⟩:=H
  exact ⟨p,q,du n,JM o f.sp,JM o f.sq,f.d⟩
 unfold nz cm
 walk_at "yy"
 rw [yE (ds:=(oG 0 fs).map cI)]
 ·have H:=sV cI (fun (a:Unit) (_:Nat×Str)=>a) (fun bU _ ρ=>∃ c,c++bU.map (·.2)=fs/\∃ p q,pd c p q/\∃ s t j,ρ=[.shr (.list (e.map .int)),.shr (.int k),.shr (b9 fs),.own (.list (p.map .str)),.own (.list (q.map .str)),s,t,j]) (kt:=sL 2 (eJ (cV 5) (eJ (cV 6) vj))) (gb:=bu (jl 7 (gN 3 aU (J.ah (rS 0) (J.ah (g2 (rB 1) (rB 5) dI) (J.ah (kI 8) J.aN))))) (fS (eT (g2 (rB 7) (kI 2) Jh)) (Ek 3 (rS 6)) (fS (eT (g2 (rB 7) (kI 2) (ir false))) (Ek 4 (rS 6)) (fun ρ=>.ok (.nx ρ)))))
  obtain ⟨ρ',n,c,f,p,q,g,s,t,j,y⟩:=H (by
   rintro ⟨i,x⟩ bU _ ρ ⟨c,f,p,q,g,s,t,j,rfl⟩
   have l:x∉c:=by
    rw [<- f,aW] at w
    have:=(List.nodup_append.mp w).2.2
    intro l
    exact this x l x au rfl
   have z:c.length<900:=by
    have:=congrArg pG f
    rw [bB] at this
    omega
   have B:=g.sp.length_le
   have E:=g.sq.length_le
   refine ⟨[.shr (.list (e.map .int)),.shr (.int k),.shr (b9 fs),.own (.list (p.map .str)),.own (.list (q.map .str)),.shr (.int (i:Nat)),.shr (.str x),j],?_⟩
   by_cases u:eB e (k+(i:Nat)) 8<2
   ·refine ⟨[.shr (.list (e.map .int)),.shr (.int k),.shr (b9 fs),.own (.list ((p++[x]).map .str)),.own (.list (q.map .str)),.shr (.int (i:Nat)),.shr (.str x),.shr (.int (eB e (k+(i:Nat)) 8))],rfl,?_,c++[x],by rw [<- f];simp,_,_,g.left x l,_,_,_,rfl⟩
    left
    rw [eP e _ 8 (by omega) (by decide)]
    left
    rw [decide_eq_true u]
    left
    rw [<- LL]
    exact VX (ds:=p.map .str) rfl rfl (by rw [aw];omega)
   ·by_cases v:eB e (k+(i:Nat)) 8=2
    ·refine ⟨[.shr (.list (e.map .int)),.shr (.int k),.shr (b9 fs),.own (.list (p.map .str)),.own (.list ((q++[x]).map .str)),.shr (.int (i:Nat)),.shr (.str x),.shr (.int (eB e (k+(i:Nat)) 8))],rfl,?_,c++[x],by rw [<- f];simp,_,_,g.right x l,_,_,_,rfl⟩
     left
     rw [eP e _ 8 (by omega) (by decide)]
     left
     rw [decide_eq_false u]
     left
     rw [nC]
     left
     rw [decide_eq_true v]
     left
     rw [<- LL]
     exact VX (ds:=q.map .str) rfl rfl (by rw [aw];omega)
    ·refine ⟨[.shr (.list (e.map .int)),.shr (.int k),.shr (b9 fs),.own (.list (p.map .str)),.own (.list (q.map .str)),.shr (.int (i:Nat)),.shr (.str x),.shr (.int (eB e (k+(i:Nat)) 8))],rfl,?_,c++[x],by rw [<- f];simp,_,_,g.skip x,_,_,_,rfl⟩
     left
     rw [eP e _ 8 (by omega) (by decide)]
     left
     rw [decide_eq_false u]
     left
     rw [nC]
     left
     rw [decide_eq_false v]
     left) (oG 0 fs) () [.shr (.list (e.map .int)),.shr (.int k),.shr (b9 fs),.own (.list []),.own (.list []),.no,.no,.no] ⟨[],by rw [uq];rfl,[],[],⟨fe _,fe _,fun _ h=>nomatch h⟩,_,_,_,rfl⟩
  refine ⟨p,q,?_,?_⟩
  ·rw [n,y]
   left
   rw [gW]
   left
   rw [gW]
   left
  ·simp only [iG,cb] at f
   rw [<- f];exact g
 ·left
  rw [zI]
theorem Xt (j:Int) (b:0<=j) (a:j<2):∃ m:Int,aS (.list [.int 2,.int 4]) (.int j)=.ok (.int m):=by
 have:j=0\/j=1:=by omega
 rcases this with h|h<;>subst h
 ·exact ⟨2,rfl⟩
 ·exact ⟨4,rfl⟩
theorem Xu (fs:List Str) (a:List iy):aS (dg fs a) (.int 0)=.ok (b9 fs):=id rfl
theorem Us (fs:List Str) (a:List iy):aS (dg fs a) (.int 1)=.ok (.tuple (a.map cG)):=id rfl
theorem Ut (a:List Int) (m n:Int) (f:0<=m) (h:m<=6) (g:0<=n) (i:n<=6):∃ fs c d e b,nA [.list (a.map .int),.int m,.int n]=.ok (.tuple [dg fs c,b9 d,zi e b])/\fz fs c/\Sub fs d/\VY fs e b:=by
 obtain ⟨fs,c,o,gb⟩:=Ul a 100 (by decide) m n f h g i
 obtain ⟨pt,j⟩:=Xt (eB a 97 2) (fh _ _ _ (by decide)) (fN _ _ _ (by decide))
 obtain ⟨d,hs,l⟩:=Uq a 20 (by decide) fs gb.rise.len pt
 obtain ⟨e,b,k,p⟩:=Ur a 30 (by decide) fs gb.rise.up gb.rise.len
 refine ⟨fs,c,d,e,b,?_,gb,JM gb.rise.up l,p⟩
 unfold nA
 refine du ?_
 unfold qV cm
 left
 rw [o]
 left
 rw [Xu]
 left
 rw [eP a 97 2 (by decide) (by decide)]
 left
 rw [j]
 left
 rw [hs]
 left
 rw [Xu]
 left
 rw [k]
 left
theorem Rf {xs ys:List Str} (b:xs.length<=60):gI [b9 xs,b9 ys]=.ok (.bool (!xs.any fun x=>decide (x∈ys))):=by
 unfold gI
 refine du ?_
 unfold kH cm
 left
 rw [if_pos (by omega)]
 rw [dL _ (fun x:Str=>aE x) (fun x=>cX (decide (x∈ys))) xs fun x a=>fM rfl (by
  left
  rw [mj]
  rfl)]
 left
 rw [kO _ (fun x=>decide (x∈ys))]
 left
 rw [HU]
 rfl
theorem VZ (a:Bool) (e:iy):KQ a (cG e) .none=.ok (.bool a):=by cases a<;>rfl
theorem ZU (a:Bool):KQ a .none .none=.ok (.bool (!a)):=by cases a<;>rfl
theorem Ni (e:iy):aS (cG e) (.int 0)=.ok (.str e.name):=id rfl
theorem q0W (e:iy):aS (cG e) (.int 3)=.ok (b9 e.makes):=id rfl
theorem q0X (e:iy):aS (cG e) (.int 4)=.ok (b9 e.ends):=id rfl
theorem ZV (e:iy):KY (cG e) (some 1) (some 3)=.ok (zi e.needs e.bars):=id rfl
theorem LM (x:Str) (a:aB->R (List D)) (s:Sl) (ρ:aB) {ds:List D} (h:a (s::ρ)=.ok ds) (b:ds.length<=1000):pc x a (s::ρ)=.ex x none:=by unfold pc;rw [h,bind_ok,if_pos b]
theorem Rg {x:Str} (h:uV x=true):x≠"zzzzz":=by
 intro e
 rw [e] at h
 have:uV "zzzzz"=false:=by decide +kernel
 rw [this] at h
 cases h
theorem ZW {x:Str} (h:uV x=true):ir false (.str x) (.str "zzzzz")=.ok (.bool false):=by
 unfold ir
 rw [uo h,show (aE "zzzzz").canLay0=true by decide +kernel,qZ,decide_eq_false (Rg h)]
 rfl
theorem tR {xs:List D}{j:Nat}{v:D} (h:xs[j]?=some v):aS (.list xs) (.int (j:Nat))=.ok v:=by
 have e:aS (.list xs) (.int (j:Nat))=Ge (.list xs) (.int (j:Nat)):=rfl
 rw [e]
 unfold Ge
 simp only [tQ h]
def ZX:R D->Bool
 |.ok (.bool b)=>b
 |_=>false
theorem EI {r:R D} (h:ZX r=true):r=.ok (.bool true):=by
 unfold ZX at h
 split at h
 ·rw [h]
 ·cases h
def im (c a b:List Str):Bool:=(a.all fun x=>decide (x∈c)) && !b.any fun x=>decide (x∈c)
theorem q0Y (m b:List Str):aS (zi m b) (.int 0)=.ok (b9 m):=id rfl
theorem q0Z (m b:List Str):aS (zi m b) (.int 1)=.ok (b9 b):=id rfl
theorem Uu {c a b:List Str} (f:a.length<=60) (g:b.length<=60):qX [b9 c,zi a b]=.ok (.bool (im c a b)):=by
 unfold qX
 refine du ?_
 unfold qW cm
 left
 rw [q0Y]
 left
 rw [if_pos (by omega)]
 rw [dL _ (fun x:Str=>aE x) (fun x=>cX (decide (x∈c))) a fun x d=>fM rfl (by
  left
  rw [mj]
  rfl)]
 left
 rw [kO _ (fun x=>decide (x∈c))]
 left
 rw [q0Z]
 left
 rw [if_pos (by omega)]
 rw [dL _ (fun x:Str=>aE x) (fun x=>cX (decide (x∈c))) b fun x d=>fM rfl (by
  left
  rw [mj]
  rfl)]
 left
 rw [kO _ (fun x=>decide (x∈c))]
 left
 unfold im
 rw [yw,HU]
 have e:(id∘fun x=>decide (x∈c))=fun x=>decide (x∈c):=rfl
 rw [e]
 cases (a.all fun x=>decide (x∈c))<;>rfl
def uu (a:List iy) (nm:Str):Option iy:=a.find? fun e=>decide (e.name=nm)
def Xv:Option iy->D
 |none=>.none
 |some e=>cG e
theorem yf {fs:List Str}{a:List iy} (g:fz fs a) {nm:Str} (d:uV nm=true):eR [dg fs a,.str nm]=.ok (Xv (uu a nm)):=by
 unfold eR
 refine du ?_
 unfold iE cm
 left
 rw [JF,JH]
 left
 rw [yE (ds:=a.map cG)]
 ·obtain ⟨f,i⟩:=GV cG (fun e=>decide (e.name=nm)) cG (fun ρ=>∃ z,ρ=[Sl.shr (dg fs a),.shr (.str nm),z]) (kt:=cV 2) (gb:=fS (eT (g2 (g2 (rB 2) (kI 0) aS) (rB 1) (ir false))) (eA (rS 2)) (fun ρ=>.ok (.nx ρ))) a [Sl.shr (dg fs a),.shr (.str nm),.no] (by
   rintro e he ρ ⟨z,rfl⟩
   refine ⟨[.shr (dg fs a),.shr (.str nm),.shr (cG e)],rfl,fun c=>?_,fun c=>⟨[.shr (dg fs a),.shr (.str nm),.shr (cG e)],?_,_,rfl⟩⟩
   ·left
    rw [Ni]
    left
    rw [zH false (g.ok e he).name d]
    left
    rw [c]
    left
   ·left
    rw [Ni]
    left
    rw [zH false (g.ok e he).name d]
    left
    rw [c]
    left) ⟨_,rfl⟩
  cases b:a.find? (fun e=>decide (e.name=nm)) with
  |some e =>
   rw [f e b]
   left
   unfold uu
   rw [b]
   rfl
  |none =>
   obtain ⟨ρ',h,z,rfl⟩:=i b
   rw [h]
   left
   unfold uu
   rw [b]
   rfl
 ·left
  rw [Us]
  left
theorem nE:∀ {a:List iy},(a.map (·.name)).Nodup->∀ {e:iy},e∈a->uu a e.name=some e
 |x::r,b,e,he=>by
  obtain ⟨c,d⟩:=List.nodup_cons.mp b
  unfold uu
  rw [eh]
  rcases List.mem_cons.mp he with h|h
  ·subst h;simp
  ·have:x.name≠e.name:=fun z=>c (by show x.name∈_;rw [z];exact mY h)
   rw [decide_eq_false this]
   exact nE d h
structure LN (e:iy):Prop where
 needs:e.needs.length<=6
 bars:e.bars.length<=6
 makes:e.makes.length<=6
 ends:e.ends.length<=6
theorem sY {fs:List Str}{a:List iy} (g:fz fs a) {e:iy} (he:e∈a):LN e :=
 ⟨jO (g.ok e he).needs g.rise.len,jO (g.ok e he).bars g.rise.len,jO (g.ok e he).makes g.rise.len,jO (g.ok e he).ends g.rise.len⟩
theorem Rh {fs:List Str}{a:List iy} (g:fz fs a):eR [dg fs a,.str "zzzzz"]=.ok .none:=by
 unfold eR
 refine du ?_
 unfold iE cm
 left
 rw [JF,JH]
 left
 rw [yE (ds:=a.map cG)]
 ·refine Nh (P:=fun ρ=>∃ z,ρ=[Sl.shr (dg fs a),.shr (.str "zzzzz"),z]) (Dn cG _ a _ ?_ ⟨_,rfl⟩) ?_
  ·rintro e he ρ ⟨z,rfl⟩
   refine ⟨[.shr (dg fs a),.shr (.str "zzzzz"),.shr (cG e)],rfl,[.shr (dg fs a),.shr (.str "zzzzz"),.shr (cG e)],?_,_,rfl⟩
   left
   rw [Ni]
   left
   rw [ZW (g.ok e he).name]
   left
  ·rintro ρ ⟨z,rfl⟩
   left
 ·left
  rw [Us]
  left
theorem q10 (e:iy):aS (cG e) (.int 1)=.ok (b9 e.needs):=id rfl
theorem q11 (e:iy):aS (cG e) (.int 2)=.ok (b9 e.bars):=id rfl
theorem Ri {n:Nat}{g:aB->R Fl}{ds:List D}{ρ:aB} (h:g (cm n ds)=.ok (.nx ρ)):gm n g ds=.ok .none:=by unfold gm;rw [h]
theorem JP {L:List D}{j:Int} (b:0<=j) (c:j<L.length):∃ d∈L,aS (.list L) (.int j)=.ok d:=by
 obtain ⟨n,rfl⟩:=HS b
 have a:n<L.length:=by omega
 exact ⟨L[n],jx a,tR (a_ a)⟩
theorem Uv:X1 (.int 1)=.ok (.int (-1)):=rfl
theorem ZY (g:aB->R D) (s:Sl) (ρ:aB):pT g (s::ρ)=(g (s::ρ)).bind X1:=id rfl
theorem Uw {kt:D->aB->R aB}{gb:aB->R Fl}{d:D}{r:List D}{ρ ρ1 a:aB} (b:kt d ρ=.ok ρ1) (c:gb ρ1=.ok (.nx a)):p7 kt gb (d::r) ρ=p7 kt gb r a:=by
 rw [p7,b]
 simp only [c]
theorem LO (a:Bool) (ds:List D) (h:bN ds=true):ir a (.list ds) (.list [])=.ok (.bool (a != decide (ds=[]))):=by
 unfold ir
 have b:(fR ds).canLay0=true:=by simp only [dR];exact h
 have d:min (fR ds).depth (fR []).depth<=60:=bF (rQ _ _) (by decide)
 have c:bw (.list ds) (.list [])=decide (ds=[]):=by
  cases ds with
  |nil=>rfl
  |cons x r=>simp [bw,lK]
 rw [b,show (fR []).canLay0=true from rfl,decide_eq_true d,c]
 cases a<;>cases decide (ds=[])<;>rfl
theorem EJ (ds:List D) (h:bN ds=true):ir false (.list ds) (.list [])=.ok (.bool (decide (ds=[]))):=by rw [LO false ds h,Bool.false_bne]
theorem Ux (ds:List D) (h:bN ds=true):ir true (.list ds) (.list [])=.ok (.bool (!decide (ds=[]))):=by rw [LO true ds h,Bool.true_bne]
theorem Rj (xs:List D):kC (.tuple xs)=.ok (.list xs):=id rfl
theorem q12 (a x y:D):TK (sL 2 (eJ (cV 2) (eJ (cV 3) vj))) [Sl.shr a,.shr (.tuple [x,y]),.no,.no] (.tuple [x,y])=.ok (.nx [.shr a,.shr (.tuple [x,y]),.shr x,.shr y]):=id rfl
theorem JQ {c a b:List Str} (d:a.length<=60) (g:b.length<=60):uj [b9 c,zi a b]=.ok (.bool (im c a b)):=by
 unfold uj
 refine du ?_
 unfold ui cm zi
 left
 rw [q12]
 left
 rw [if_pos (by omega)]
 rw [dL _ (fun x:Str=>aE x) (fun x=>cX (decide (x∈c))) a fun x f=>fM rfl (by
  left
  rw [mj]
  rfl)]
 left
 rw [kO _ (fun x=>decide (x∈c))]
 left
 rw [Rf (by omega)]
 unfold im
 rw [yw]
 have e:(id∘fun x=>decide (x∈c))=fun x=>decide (x∈c):=rfl
 rw [e]
 cases (a.all fun x=>decide (x∈c))<;>rfl
theorem Nj {fs b:List Str}{a:List iy} (g:fz fs a) (h:Sub fs b):lB [dg fs a,b9 b]=.ok .none:=by
 unfold lB
 refine Ri (ρ:=[.shr (dg fs a),.shr (b9 b)]) ?_
 unfold lA cm
 left
 rw [Xu]
 left
 rw [nD g.rise.ok h (jO h g.rise.len)]
 left
theorem w_ {fs b:List Str}{a:List iy} (g:fz fs a) (h:Sub fs b):fQ [dg fs a,b9 b]=.ok .none:=by
 unfold fQ
 refine Ri (ρ:=[.shr (dg fs a),.shr (b9 b)]) ?_
 unfold lC cm
 left
 rw [JK g]
 left
 rw [Nj g h]
 left
def LP (e:iy) (a:List Str):Option (List Str):=if im a e.needs e.bars then some (Fq ((a.filter fun x=>!decide (x∈e.ends))++e.makes)) else none
def q13:Option (List Str)->D
 |none=>.none
 |some s=>b9 s
theorem LQ {e:iy} (he:LN e) {a:List Str} (hs:a.length<=30):iw [cG e,b9 a]=.ok (q13 (LP e a)):=by
 have:=he.needs
 have:=he.bars
 have:=he.makes
 unfold iw
 refine du ?_
 unfold qY cm
 left
 rw [ZV]
 left
 rw [Uu (by omega) (by omega)]
 left
 unfold LP
 cases c:im a e.needs e.bars with
 |false =>
  left
  rfl
 |true =>
  left
  rw [if_pos (by omega)]
  rw [jm _ (fun x:Str=>aE x) (fun x=>aE x) (fun x=>!decide (x∈e.ends)) a fun x b=>wQ (by
   left
   rw [q0X]
   left
   rw [mj]
   rfl) fun _=>rfl]
  have d:(a.filter fun x=>!decide (x∈e.ends)).length<=a.length:=lL _ _
  left
  rw [yd,LH]
  left
  rw [q0W]
  left
  rw [Rj]
  left
  rw [if_pos (by omega)]
  left
  rw [<- fF,AU _ (by rw [bB];omega)]
  left
  rw [AV _ (by have:=gG ((a.filter fun x=>!decide (x∈e.ends))++e.makes) [];simp only [ej,bB] at this;omega)]
  left
  rw [gW]
  rfl
theorem Xw:∀ {a b:List Str},(a.Pairwise fun x y=>s9 x y=true)->(b.Pairwise fun x y=>s9 x y=true)->(∀ x,x∈a↔x∈b)->a=b:=by
 intro a b c d h
 have na:=lR c
 have f:=lR d
 have p:a.Perm b:=(o7 na f).mpr h
 exact p.eq_of_pairwise (fun x y _ _ e g=>by
  have:=tV e g
  rw [vg] at this
  cases this) c d
def mI (e:iy) (a:List Str):List Str:=Fq ((a.filter fun x=>!decide (x∈e.ends))++e.makes)
theorem JR {e:iy}{a:List Str}{x:Str}:x∈mI e a↔(x∈a/\x∉e.ends)\/x∈e.makes:=by
 unfold mI
 rw [oF]
 simp [List.mem_filter]
theorem GW {xs:List Str} (h:∀ x∈xs,uV x=true) (a:Bool):ir a (b9 xs) (b9 xs)=.ok (.bool (!a)):=by
 unfold ir
 have b:(b9 xs).canLay0=true:=by simp only [dR];exact qe xs h
 have c:(b9 xs).depth<=60:=by
  have:=ye aE 0 (fun x=>by simp [xy]) xs
  simp only [xy]
  omega
 rw [b,GT,decide_eq_true (bF (Nat.min_le_left _ _) c)]
 cases a<;>rfl
theorem ZZ (a gb:aB->R (List Str)) (s:Sl) (ρ:aB) {xs ys:List Str} (b:a (s::ρ)=.ok xs) (d:gb (s::ρ)=.ok ys) (c:xs.length+ys.length<=15):QB a gb (s::ρ)=.ok (dz xs ys):=by
 unfold QB J.Xa
 rw [b,bind_ok,d,bind_ok,if_pos c]
theorem Do (a:List Str) (h:a.length<60):vp (b9 a)=.ok (dz [] a):=by
 have e:∀ ds,vp (.tuple ds)=match gT ds with
  |some a=>if a.length<60 then .ok (dz [] a) else .no
  |none=>.no:=fun _=>rfl
 rw [e,strsOf_map]
 simp only [if_pos h]
theorem Xx (xs ys:List Str):ku (dz (dz [] xs) (dz [] ys))=Fq (xs++ys):=by
 refine Xw (xY (sC _) ((iq _).nodup_iff.mpr (j8 _ _ (j8 _ [] ij)))) (JD _) fun x=>?_
 rw [(iq _).mem_iff,jk,jk,jk,oF,sk]
 simp
theorem Nk {xs ys:List Str} (h:xs.length+ys.length<=12):wY [b9 xs,b9 ys]=.ok (b9 (Fq (xs++ys))):=by
 have b:=gG xs []
 have a:=gG ys []
 simp only [ej] at b a
 have c:=gG (dz [] ys) (dz [] xs)
 unfold wY
 refine du ?_
 unfold wX cm
 left
 rw [yd,ZZ _ _ _ _ (Do xs (by omega)) (Do ys (by omega)) (by omega)]
 left
 rw [AV _ (by omega),Xx]
 left
 rw [gW]
 left
theorem JU {xs ys:List Str} (h:xs.length<=60):ue [b9 xs,b9 ys]=.ok (b9 (xs.filter fun x=>!decide (x∈ys))):=by
 unfold ue
 refine du ?_
 unfold ud cm
 left
 rw [if_pos (by omega)]
 rw [jm _ (fun x:Str=>aE x) (fun x=>aE x) (fun x=>!decide (x∈ys)) xs fun x a=>wQ (by
  left
  rw [mj]
  rfl) fun _=>rfl]
 left
 rw [gW]
 left
theorem Z_ {i j:Nat}{a:aB->R (List D)}{s:Sl}{ρ:aB}{d e:D} (h:a (s::ρ)=.ok [d,e]):QC i j a (s::ρ)=.ok (.nx (((s::ρ).set i (.shr d)).set j (.shr e))):=by
 unfold QC
 rw [h]
 rfl
theorem Nl {e:iy} (he:LN e) {a:List Str} (hs:a.length<=6):kK [cG e,b9 a]=.ok (b9 (mI e a)):=by
 have:=he.makes
 have b:(a.filter fun x=>!decide (x∈e.ends)).length<=a.length:=lL _ _
 unfold kK
 refine du ?_
 unfold kJ cm
 left
 rw [Z_ (d:=b9 e.makes) (e:=b9 e.ends) rfl]
 left
 rw [JU (by omega)]
 left
 rw [Nk (by omega)]
 rfl
theorem Dp {e:iy} (he:LN e) {a:List Str}:oz [cG e,b9 a]=.ok (.bool (im a e.needs e.bars)):=by
 have:=he.needs
 have:=he.bars
 unfold oz
 refine du ?_
 unfold oy cm
 left
 rw [q10]
 left
 rw [q11]
 left
 rw [JQ (by omega) (by omega)]
 left
theorem Uy {fs b:List Str}{a:List iy}{n:D} (g:fz fs a) (h:Sub fs b) (c:eR [dg fs a,n]=.ok .none):gU [dg fs a,b9 b,n]=.ex "NoErrand" none:=by
 unfold gU
 refine QT ?_
 unfold yc cm
 left
 rw [w_ g h]
 left
 rw [c]
 left
 rw [ZU]
 left
 rw [LM _ _ _ _ rfl (by decide)]
 rfl
theorem Uz {fs b:List Str}{a:List iy}{e:iy} (g:fz fs a) (h:Sub fs b) (he:e∈a) (c:im b e.needs e.bars=false):gU [dg fs a,b9 b,.str e.name]=.ex "NoErrand" none:=by
 unfold gU
 refine QT ?_
 unfold yc cm
 left
 rw [w_ g h]
 left
 rw [yf g (g.ok e he).name,nE g.nd he]
 simp only [Xv]
 left
 rw [VZ]
 left
 rw [Dp (sY g he),c]
 left
 rw [LM _ _ _ _ rfl (by decide)]
 rfl
theorem LR {fs a:List Str}{b:List iy}{e:iy} (g:fz fs b) (h:Sub fs a) (he:e∈b) (c:im a e.needs e.bars=true):gU [dg fs b,b9 a,.str e.name]=.ok (b9 (mI e a)):=by
 unfold gU
 refine du ?_
 unfold yc cm
 left
 rw [w_ g h]
 left
 rw [yf g (g.ok e he).name,nE g.nd he]
 simp only [Xv]
 left
 rw [VZ]
 left
 rw [Dp (sY g he),c]
 left
 rw [Nl (sY g he) (jO h g.rise.len)]
 left
theorem GX:∀ (l b:List (Str×D)),((b++l).map (·.1)).Nodup->l.foldl (fun a p=>BS a (.str p.1) p.2) (jS b)=jS (b++l)
 |[],b,_=>by rw [cb];rfl
 |p::r,b,c=>by
  have g:p.1∉b.map (·.1):=by
   rw [fF,aW] at c
   intro h
   exact (List.nodup_append.mp c).2.2 _ h _ au rfl
  have d:uK b p.1 p.2=b++[p]:=by
   unfold uK
   rw [if_neg]
   rw [lT]
   rintro ⟨q,f,e⟩
   exact g (List.mem_map.mpr ⟨q,f,of_decide_eq_true e⟩)
  rw [sv,LG,d]
  have:=GX r (b++[p]) (by rwa [pI])
  rwa [pI] at this
def R_ (a:List iy):List (Str×D):=a.map fun e=>(e.name,.int e.price)
theorem Dq:∀ a:List iy,J.oj (a.map fun e=>df [.str e.name,.int e.price])=some (a.map fun e=>(vW e.name,.int e.price))
 |[]=>rfl
 |e::r=>by
  show (sP (.str e.name)).bind (fun y=>(J.oj (r.map fun e=>df [.str e.name,.int e.price])).map ((y,.int e.price)::·))=_
  rw [Dq r]
  rfl
theorem Rk {b:List iy} (c:(b.map (·.name)).Nodup) (d:b.length<=6):J.wR (.list (b.map fun e=>df [.str e.name,.int e.price]))=.ok (.dict (jS (R_ b))):=by
 have e:J.wR (.list (b.map fun e=>df [.str e.name,.int e.price]))=if (b.map fun e=>df [.str e.name,.int e.price]).length<=1000 then (match J.oj (b.map fun e=>df [.str e.name,.int e.price]) with
  |some ps=>.ok (.dict (ps.foldl (fun a p=>BS a (kD p.1) p.2) []))
  |none=>.no) else .no:=rfl
 rw [e,if_pos (by rw [aw];omega),Dq]
 have:=GX (R_ b) [] (by rw [mR];unfold R_;rw [el];exact c)
 rw [mR] at this
 rw [<- this]
 unfold R_
 simp only [uQ]
 rfl
theorem Xy {a:List iy} (b:(a.map (·.name)).Nodup) {e:iy} (he:e∈a):aS (.dict (jS (R_ a))) (.str e.name)=.ok (.int e.price) :=
 R6 (l:=R_ a) (by unfold R_;rw [el];exact b) (p:=(e.name,.int e.price)) (mY (f:=fun e=>(e.name,bM e.price)) he)
theorem q14 (e:iy):aS (cG e) (.int 5)=.ok (.int e.price):=id rfl
section
variable {ρ ρ':cR}{b d:D}{M M' M1:Mu}{G1 G2 GA GB:GS}{G:cR->D->Mu->RM D}{Gt:cR->D->Mu->RM Bool}{r:RS}{c:Str}{loc:cR->Option Nat}{j:Nat}{ds:List D}{g:aB->R D}{gt:aB->R Bool}
theorem mq (a:G1 ρ b M=.nx ρ' M') (e:G2 ρ' b M'=r):cW G1 G2 ρ b M=r:=by
 unfold cW;rw [a];exact e
theorem GY (a:G1 ρ b M=.rt d M'):cW G1 G2 ρ b M=.rt d M':=by unfold cW;rw [a]
theorem Dr (a:G1 ρ b M=.ex c M'):cW G1 G2 ρ b M=.ex c M':=by unfold cW;rw [a]
theorem qf (h:G ρ b M=.ok d M'):fA G ρ b M=.nx ρ M':=by unfold fA;rw [h];rfl
theorem GZ (h:G ρ b M=.ex c M'):fA G ρ b M=.ex c M':=by unfold fA;rw [h];rfl
theorem B_ (h:G ρ b M=.ok d M'):iD G ρ b M=.rt d M':=by unfold iD;rw [h];rfl
theorem EK (h:G ρ b M=.ex c M'):iD G ρ b M=.ex c M':=by unfold iD;rw [h];rfl
theorem oH (h:g (hJ b M ρ)=.ok d) (ho:xB d=true):gP g ρ b M=.ok d M:=by unfold gP toM;rw [h];exact if_pos ho
theorem q00 (h:g (hJ b M ρ)=.ex c none):gP g ρ b M=.ex c M:=by unfold gP toM;rw [h]
theorem sZ {k:Bool} (h:gt (hJ b M ρ)=.ok k):zF gt ρ b M=.ok k M:=by unfold zF Xg;rw [h]
theorem rN (h:Gt ρ b M=.ok true M1) (a:GA ρ b M1=r):kS Gt GA GB ρ b M=r:=by unfold kS;rw [h];exact a
theorem ic (h:Gt ρ b M=.ok false M1) (a:GB ρ b M1=r):kS Gt GA GB ρ b M=r:=by unfold kS;rw [h];exact a
theorem G_ (e:loc ρ=some j) (h:G ρ b M=.ok d M1) (a:M1[j]?=some ds) (f:ds.length<1000):kF loc G ρ b M=.ok .none (M1.set j (ds++[d])):=by
 unfold kF;rw [e];simp only [h,RM.bind];unfold U3;rw [a];exact if_pos f
theorem UA (a:loc ρ=some j) (h:G ρ b M=.ex c M1):kF loc G ρ b M=.ex c M1:=by
 unfold kF;rw [a];simp only [h,RM.bind]
theorem Nm (e:loc ρ=some j) (a:M[j]?=some (ds++[d])):p_ loc ρ b M=.ok d (M.set j ds):=by
 unfold p_;rw [e];simp only;unfold U4;rw [a];simp
theorem q01 (e:loc ρ=some j) (a:M[j]?=some ds):AL loc ρ b M=.ok .none (M.set j []):=by
 unfold AL;rw [e];simp only;unfold U5;rw [a]
theorem mset (i:Nat) (h:G ρ b M=.ok d M1):VP i G ρ b M=.nx (ρ.set i (.dat d)) M1:=by unfold VP;rw [h];rfl
theorem LS (i:Nat) (h:g (iS ρ)=.ok d):rM i g ρ b M=.nx (ρ.set i (.dat d)) M:=by unfold rM;rw [h]
theorem V_ (i:Nat) (h:g (hJ b M ρ)=.ok (.list ds)) (ho:okDs ds=true):wW i g ρ b M=.nx (ρ.set i (.dat (.list ds))) M:=by unfold wW;rw [h];exact if_pos ho
theorem mm1 {i:Nat}{F:D->Mu->List D->RM D}{x:RM D} (a:ρ[i]?=some .dk) (h:G ρ b M=.ok d M1) (e:rK F b M1 [d]=x):Xh i F G ρ b M=x:=by
 unfold Xh;rw [a];simp only [h,RM.bind];exact e
theorem mm0 {i:Nat}{F:D->Mu->List D->RM D}{x:RM D} (a:ρ[i]?=some .dk) (e:rK F b M []=x):XZ i F ρ b M=x:=by
 unfold XZ;rw [a];exact e
theorem Y1 {i n:Nat}{F:D->Mu->List D->RM D}{a:aB->R (List D)}{x:RM D} (f:ρ[i]?=some .dk) (h:a (iS ρ)=.ok ds) (e:ds.length=n) (k:rK F b M ds=x):RY i n F a ρ b M=x:=by
 unfold RY;rw [f];simp only [h];rw [if_pos e];exact k
theorem No {gb:aB->R D}{h:D->D->R D}{x y z:D} (a:G ρ b M=.ok x M1) (f:gb (hJ b M1 ρ)=.ok y) (e:h x y=.ok z) (ho:xB z=true):rL G gb h ρ b M=.ok z M1:=by
 unfold rL;rw [a];unfold RM.bind U6;simp only [f,e];exact if_pos ho
theorem UB {k:Bool} (h:G ρ b M=.ok (.bool k) M1):RZ G ρ b M=.ok k M1:=by unfold RZ;rw [h];rfl
theorem q15 {k:Bool} (h:Gt ρ b M=.ok k M1):D9 Gt ρ b M=.ok (!k) M1:=by unfold D9;rw [h];rfl
theorem q16 {h f:cR->D->Mu->RM D}{a e:D}{M2:Mu} (i:h ρ b M=.ok a M1) (k:f ρ b M1=.ok e M2):Da h f ρ b M=.ok (.tuple [a,e]) M2:=by
 unfold Da;rw [i];simp only [RM.bind,k]
theorem q02 (i k:Nat) {a e:D} (h:G ρ b M=.ok (.tuple [a,e]) M1):Dc i k G ρ b M=.nx ((ρ.set i (.dat a)).set k (.dat e)) M1:=by unfold Dc;rw [h];rfl
theorem EL {a:Str->Option Nat} (h:G1 ρ b M=.rt d M'):AN a G1 ρ b M=.rt d M':=by unfold AN;rw [h]
theorem EM {a:Str->Option Nat}{y:Str} (h:G1 ρ b M=.ex y M') (e:a y=some j):AN a G1 ρ b M=.rt (.tuple [.str "refused",.int (j:Nat)]) M':=by unfold AN;rw [h];simp only [e]
theorem q03 {a:aB->R Fl} (h:a (hJ b M ρ)=.ex c none):Db a ρ b M=.ex c M:=by unfold Db;rw [h]
theorem zJ {a:Nat} (h:G1 (BZ a ds) b M=.nx ρ' M'):uJ a G1 b M ds=.ok .none M':=by unfold uJ;rw [h]
theorem uv {a:Nat} (h:G1 (BZ a ds) b M=.rt d M'):uJ a G1 b M ds=.ok d M':=by unfold uJ;rw [h]
theorem zK {a:Nat} (h:G1 (BZ a ds) b M=.ex c M'):uJ a G1 b M ds=.ex c M':=by unfold uJ;rw [h]
end
theorem xa (S:List D) (s:D):aS (.list (S++[s])) (.int (-1))=.ok s:=by
 show Ge (.list (S++[s])) (.int (-1))=_
 unfold Ge
 have:L2.Fp (S++[s]) (-1)=some s:=by
  unfold L2.Fp
  have e:L2.SJ (S++[s]).length (-1)=some S.length:=by
   unfold L2.SJ
   simp
   try omega
  rw [e]
  simp
 simp only [this]
theorem sq {a b:aB->R Fl}{ρ ρ':aB}{r:R Fl} (c:a ρ=.ok (.nx ρ')) (d:b ρ'=r):bu a b ρ=r:=by
 unfold bu
 rw [c]
 exact d
theorem W0 {g:aB->R D}{ρ:aB}{d:D} (h:g (dA ρ)=.ok d):eA g ρ=.ok (.rt d):=by
 unfold eA
 rw [h]
 rfl
theorem eZ {a gb:aB->R D}{h:D->D->R D}{ρ:aB}{x y d:D} (b:a ρ=.ok x) (e:gb ρ=.ok y) (c:h x y=.ok d):g2 a gb h ρ=.ok d:=by
 unfold g2
 rw [b,bind_ok,e,bind_ok,c]
theorem lM {n:Nat}{F:List D->R D}{a:aB->R (List D)}{ρ:aB}{ds:List D}{r:R D} (b:a ρ=.ok ds) (d:ds.length=n) (c:F ds=r):gN n F a ρ=r:=by
 unfold gN
 rw [b,bind_ok,if_pos d,c]
theorem Rl {i:Nat}{g:aB->R D}{ρ:aB}{d:D} (h:g ρ=.ok d):jl i g ρ=.ok (.nx (ρ.set i (.shr d))):=by
 unfold jl
 rw [h]
 rfl
theorem Rm {t:aB->R Bool}{g:aB->R Fl}{ρ:aB} (a:t ρ=.ok false):fS t g (fun ρ=>.ok (.nx ρ)) ρ=.ok (.nx ρ):=by
 unfold fS
 rw [a,bind_ok,if_neg aQ]
theorem Np {n:Nat}{F:List D->R D}{g:aB->R D}{a:aB->R (List D)}{ρ:aB}{d:D}{ds:List D}{r:R D} (b:g ρ=.ok d) (f:AK d=true) (h:a ρ=.ok ds) (e:ds.length+1=n) (c:F (d::ds)=r):qM n F g a ρ=r:=by
 unfold qM
 rw [b,bind_ok,if_pos f,h,bind_ok,if_pos e,c]
theorem k7 {g:aB->R D}{ρ:aB}{b:Bool} (h:g ρ=.ok (.bool b)):eT g ρ=.ok b:=by
 unfold eT
 rw [h]
 rfl
theorem Xz {g:aB->R D}{k:D->aB->R aB}{ρ ρ':aB}{d:D} (a:g ρ=.ok d) (b:k d ρ=.ok ρ'):zc g k ρ=.ok (.nx ρ'):=by
 unfold zc
 rw [a,bind_ok]
 simp only [b]
theorem lG {g:aB->R D}{a:aB->R (List D)}{ρ:aB}{d:D}{ds:List D} (b:g ρ=.ok d) (c:a ρ=.ok ds):J.ah g a ρ=.ok (d::ds):=by
 unfold J.ah
 rw [b,bind_ok,c,bind_ok]
theorem H9 {t u:aB->R Bool}{ρ:aB} (a:t ρ=.ok false) (b:u ρ=.ok false):y0 t u ρ=.ok false:=by
 unfold y0
 rw [a,bind_ok,if_neg aQ,b]
abbrev rfd (j:Nat):D:=.tuple [.str "refused",.int (j:Nat)]
theorem q_ {t u:aB->R Bool}{ρ:aB}{k:Bool} (a:t ρ=.ok true) (b:u ρ=.ok k):oY t u ρ=.ok k:=by
 unfold oY
 rw [a,bind_ok,if_pos rfl,b]
theorem nF {t u:aB->R Bool}{ρ:aB} (a:t ρ=.ok false):oY t u ρ=.ok false:=by
 unfold oY
 rw [a,bind_ok,if_neg aQ]
theorem XA {t u:aB->R Bool}{ρ:aB} (a:t ρ=.ok true):y0 t u ρ=.ok true:=by
 unfold y0
 rw [a,bind_ok,if_pos rfl]
theorem q04 {t u:aB->R Bool}{ρ:aB}{k:Bool} (a:t ρ=.ok false) (b:u ρ=.ok k):y0 t u ρ=.ok k:=by
 unfold y0
 rw [a,bind_ok,if_neg aQ,b]
theorem w3:Y0 "NoErrand"=some 3:=by decide +kernel
theorem w9:Y0 "Nothing"=some 9:=by decide +kernel
theorem s_ {F:D->Mu->List D->RM D}{b d:D}{a c e g i f:List D}{R:Mu}{ds:List D} (h:F b [a,c,e] ds=.ok d [g,i,f]):rK F b (a::c::e::R) ds=.ok d (g::i::f::R):=by
 unfold rK
 rw [show (a::c::e::R).take 3=[a,c,e] from rfl,h]
 rfl
theorem LU {F:D->Mu->List D->RM D}{b:D}{c:Str}{a d e g i f:List D}{R:Mu}{ds:List D} (h:F b [a,d,e] ds=.ex c [g,i,f]):rK F b (a::d::e::R) ds=.ex c (g::i::f::R):=by
 unfold rK
 rw [show (a::d::e::R).take 3=[a,d,e] from rfl,h]
 rfl
section
variable {b s d s' n:D}{S N U:List D}{y:Str}
theorem AW:eO [HX b [S++[s],N,U]]=.ok s:=du (g:=mG) (W0 (eZ rfl rfl (xa S s)))
theorem Ha {r:R D} (h:gU [b,s,d]=r):gN 3 gU (J.ah (wT 0 (rS 0)) (J.ah (qM 1 eO (rS 0) J.aN) (J.ah (rS 1) J.aN))) (hJ b [S++[s],N,U] [.dk,.dat d])=r :=
 lM (ds:=[b,s,d]) (lG rfl (lG (Np rfl rfl rfl rfl AW) rfl)) rfl h
theorem LV (h:gU [b,s,d]=.ok s') (ho:xB s'=true) (a:xB d=true) (e:S.length<900) (c:N.length<900):eX b [S++[s],N,U] [d]=.ok .none [S++[s]++[s'],N++[d],U] :=
 zJ (G1:=gJ) (mq (qf (G_ rfl (oH (Ha h) ho) rfl (by simp;omega))) (qf (G_ (j:=1) (ds:=N) rfl (oH rfl a) rfl (by omega))))
theorem JV (h:gU [b,s,d]=.ex y none):eX b [S++[s],N,U] [d]=.ex y [S++[s],N,U] :=
 zK (G1:=gJ) (Dr (GZ (UA rfl (q00 (Ha h)))))
theorem q17 (h:gU [b,s,d]=.ok s') (ho:xB s'=true) (a:xB d=true) (e:S.length<900) (c:N.length<900):q9 b [S++[s],N,U] [d]=.ok .none [S++[s]++[s'],N++[d],[]] :=
 zJ (G1:=nu) (mq (qf (mm1 rfl (oH rfl a) (s_ (LV h ho a e c)))) (qf (q01 (j:=2) (ds:=U) rfl rfl)))
theorem UC (h:gU [b,s,d]=.ex y none) (a:xB d=true):q9 b [S++[s],N,U] [d]=.ex y [S++[s],N,U] :=
 zK (G1:=nu) (Dr (GZ (mm1 rfl (oH rfl a) (LU (JV h)))))
theorem Rn (i:Nat) (A:List D) (x:D) {ρ:aB}{g:aB->R D} (h:g ρ=.ok (.list (A++[x]))):jH (MY g) ρ=.ok false:=by
 unfold jH MY
 rw [h]
 cases A<;>rfl
theorem UD:i9 b [S,[],U] []=.ex "Nothing" [S,[],U] :=
 zK (G1:=gK) (Dr (rN (sZ rfl) (q03 rfl)))
theorem Ro:kM b [S,N,[]] []=.ex "Nothing" [S,N,[]] :=
 zK (G1:=jK) (Dr (rN (sZ rfl) (q03 rfl)))
theorem XB (l:U.length<900):i9 b [S++[s],N++[n],U] []=.ok .none [S,N,U++[n]] :=
 zJ (G1:=gK) (mq (ic (sZ (Rn 2 N n rfl)) rfl) (mq (qf (Nm (j:=0) (ds:=S) (d:=s) rfl rfl)) (qf (G_ (j:=2) (ds:=U) rfl (Nm (j:=1) (ds:=N) (d:=n) rfl rfl) rfl (by omega)))))
theorem UE (h:gU [b,s,n]=.ok s') (ho:xB s'=true) (c:xB n=true) (e:S.length<900) (a:N.length<900):kM b [S++[s],N,U++[n]] []=.ok .none [S++[s]++[s'],N++[n],U] :=
 zJ (G1:=jK) (mq (ic (sZ (Rn 3 U n rfl)) rfl) (qf (mm1 rfl (Nm rfl rfl) (s_ (LV h ho c e a)))))
theorem ld0 (h:gU [b,s,d]=.ok s') (ho:xB s'=true) (a:xB d=true) (e:S.length<900) (c:N.length<900):gM b [S++[s],N,U] [.int 0,d]=.ok .none [S++[s]++[s'],N++[d],[]] :=
 uv (G1:=jq) (EL (GY (rN (sZ rfl) (B_ (mm1 rfl (oH rfl a) (s_ (q17 h ho a e c)))))))
theorem XC (h:gU [b,s,d]=.ex "NoErrand" none) (a:xB d=true):gM b [S++[s],N,U] [.int 0,d]=.ok (rfd 3) [S++[s],N,U] :=
 uv (G1:=jq) (EM (Dr (rN (sZ rfl) (EK (mm1 rfl (oH rfl a) (LU (UC h a)))))) w3)
theorem XD:gM b [S,[],U] [.int 1,d]=.ok (rfd 9) [S,[],U] :=
 uv (G1:=jq) (EM (mq (ic (sZ rfl) rfl) (Dr (rN (sZ rfl) (EK (mm0 rfl (LU UD)))))) w9)
theorem ld1 (l:U.length<900):gM b [S++[s],N++[n],U] [.int 1,d]=.ok .none [S,N,U++[n]] :=
 uv (G1:=jq) (EL (mq (ic (sZ rfl) rfl) (GY (rN (sZ rfl) (B_ (mm0 rfl (s_ (XB l))))))))
theorem XE:gM b [S,N,[]] [.int 2,d]=.ok (rfd 9) [S,N,[]] :=
 uv (G1:=jq) (EM (mq (ic (sZ rfl) rfl) (mq (ic (sZ rfl) rfl) (EK (mm0 rfl (LU Ro))))) w9)
theorem ld2 (h:gU [b,s,n]=.ok s') (ho:xB s'=true) (c:xB n=true) (e:S.length<900) (a:N.length<900):gM b [S++[s],N,U++[n]] [.int 2,d]=.ok .none [S++[s]++[s'],N++[n],U] :=
 uv (G1:=jq) (EL (mq (ic (sZ rfl) rfl) (mq (ic (sZ rfl) rfl) (B_ (mm0 rfl (s_ (UE h ho c e a)))))))
end
def goI:GS:=(kS (zF (oY (eT (g2 (rB 10) (fj J.aN .list) (ir true))) (eT (g2 (gN 3 aU (J.ah (rS 0) (J.ah (g2 (rB 1) (kI 2) dI) (J.ah (kI 4) J.aN)))) (kI 0) NT)))) (rM 9 (g2 (g2 (rB 10) (gN 3 aU (J.ah (rS 0) (J.ah (g2 (rB 1) (kI 1) dI) (J.ah (c7 (J.ah (rB 10) J.aN) (j9 kR)) J.aN)))) aS) (kI 0) aS)) (fun ρ _ M=>.nx ρ M))
def goT:GS:=(cW (kS (zF (oY (eT (g2 (rB 7) (kI 0) (ir false))) (eT (g2 (rB 11) (fj J.aN .list) (ir false))))) (iD (rL (RY 3 2 gM (J.ah (kI 0) (J.ah (rS 9) J.aN))) (fj (J.ah (fun _=>.ok (.str "refused")) (J.ah (kI 3) J.aN)) .tuple) (ir false))) (fun ρ _ M=>.nx ρ M)) (cW (kS (zF (y0 (oY (eT (g2 (rB 7) (kI 1) (ir false))) (eT (g2 (rB 5) (fj J.aN .list) (ir false)))) (oY (eT (g2 (rB 7) (kI 2) (ir false))) (eT (g2 (rB 6) (fj J.aN .list) (ir false)))))) (iD (rL (RY 3 2 gM (J.ah (rS 7) (J.ah (rS 9) J.aN))) (fj (J.ah (fun _=>.ok (.str "refused")) (J.ah (kI 9) J.aN)) .tuple) (ir false))) (fun ρ _ M=>.nx ρ M)) (cW (kS (RZ (rL (RY 3 2 gM (J.ah (rS 7) (J.ah (rS 9) J.aN))) kN (KQ true))) (iD (gP (kB false))) (fun ρ _ M=>.nx ρ M)) (cW (kS (zF (eT (g2 (rB 7) (kI 0) (ir false)))) (cW (fA (kF (pZ 4) (gP (gN 2 iw (J.ah (g2 (rB 11) (kI 0) aS) (J.ah (g2 (rB 4) (pT (kI 1)) aS) J.aN)))))) (cW (fA (kF (pZ 5) (gP (rS 9)))) (fA (AL (pZ 6))))) (kS (zF (eT (g2 (rB 7) (kI 1) (ir false)))) (fA (kF (pZ 6) (Da (p_ (pZ 4)) (p_ (pZ 5))))) (cW (Dc 12 9 (p_ (pZ 6))) (cW (fA (kF (pZ 4) (gP (rS 12)))) (fA (kF (pZ 5) (gP (rS 9)))))))) (iD (gP (kB true)))))))
theorem JX {fs c:List Str}{e:iy} (f:fs.Pairwise fun a b=>s9 a b=true) (g:sW fs e) (h:Sub fs c):Sub fs (mI e c):=by
 refine ⟨JD _,fun x d=>?_⟩
 rcases JR.mp d with z|z
 ·exact h.mem x z.1
 ·exact g.makes.mem x z
def q05:GS:=(rM 7 (g2 (fj (J.ah (kI 0) (J.ah (kI 0) (J.ah (kI 0) (J.ah (kI 1) (J.ah (kI 1) (J.ah (kI 2) (J.ah (kI 2) J.aN))))))) .list) (gN 3 aU (J.ah (rS 0) (J.ah (rS 1) (J.ah (kI 7) J.aN)))) aS))
def q06:GS:=(rM 8 (g2 (dJ 1 [] (kz (g2 (rB 2) (kI 1) aS)) kT (g2 (rB 0) (kI 0) aS)) (fj (J.ah (fun _=>.ok (.str "zzzzz")) J.aN) .list) dI))
def q07:GS:=(rM 9 (g2 (rB 8) (gN 3 aU (J.ah (rS 0) (J.ah (g2 (rB 1) (kI 1) dI) (J.ah (c7 (J.ah (rB 8) J.aN) (j9 kR)) J.aN)))) aS))
def q08:GS:=(wW 10 (dJ 1 [4] (kz (g2 (rB 2) (kI 1) aS)) (eT (g2 (gN 2 iw (J.ah (rS 0) (J.ah (g2 (rB 1) (pT (kI 1)) aS) J.aN))) kN (KQ true))) (rS 0)))
def q09:GS:=(wW 11 (dJ 1 [9] (kz (rB 10)) (eT (g2 (g2 (rB 0) (kI 0) aS) (rB 1) (ir false))) (rS 0)))
theorem Rp:qc=cW q05 (cW q06 (cW q07 (cW q08 (cW goI (cW q09 goT))))):=rfl
theorem Hb:∀ l:List Str,okDs (l.map .str)=true
 |[]=>rfl
 |_::r=>Hb r
theorem oJ (l:List Str):xB (b9 l)=true:=Hb l
theorem q0a (e:iy):xB (cG e)=true:=by
 show (true&&(xB (b9 e.needs)&&(xB (b9 e.bars)&&(xB (b9 e.makes)&&(xB (b9 e.ends)&&(true&&true))))))=true
 rw [oJ,oJ,oJ,oJ]
 rfl
theorem JY:∀ l:List iy,okDs (l.map cG)=true
 |[]=>rfl
 |e::r=>by show (xB (cG e)&&okDs (r.map cG))=true;rw [q0a,JY r];rfl
abbrev PN:=List Str×Str
def gX (a:List Str):List PN->List Str
 |[]=>a
 |p::_=>p.1
structure Stp (es:List iy) (cur:List Str) (p:PN):Prop where
 ex:∃ e∈es,e.name=p.2/\im cur e.needs e.bars=true/\mI e cur=p.1
def nG (fs:List Str) (a:List iy) (b:List Str):List PN->Prop
 |[]=>True
 |p::r=>Stp a (gX b r) p/\Sub fs p.1/\nG fs a b r
def uX (fs:List Str) (a:List iy):List Str->List PN->Prop
 |_,[]=>True
 |cur,p::r=>Stp a cur p/\Sub fs p.1/\uX fs a p.1 r
def Hc (b:List Str) (a:List PN):List (List Str):=b::a.reverse.map (·.1)
def EN (a:List Str):List PN->List (List Str)
 |[]=>[]
 |_::r=>Hc a r
theorem EO (b:List Str) (a:List PN):Hc b a=EN b a++[gX b a]:=by
 cases a with
 |nil=>rfl
 |cons p r=>simp [Hc,EN,gX]
theorem Rq (a:List Str) (p:PN) (r:List PN):Hc a (p::r)=Hc a r++[p.1]:=by simp [Hc]
theorem zL {fs b:List Str}{c:List iy}{a:List PN} (d:Sub fs b) (h:nG fs c b a):Sub fs (gX b a):=by
 cases a with
 |nil=>exact d
 |cons p r=>exact h.2.1
def dS (b:List Str) (a:List PN):List D:=(Hc b a).map b9
def dN (a:List PN):List D:=a.reverse.map fun p=>aE p.2
def dG (a:List PN):List D:=a.reverse.map fun p=>df [b9 p.1,.str p.2]
def t4 (c:List Str) (a b:List PN):Mu:=[dS c a,dN a,dN b,dS c a,dN a,dG b]
theorem AX (b:List Str) (a:List PN):dS b a=(EN b a).map b9++[b9 (gX b a)]:=by
 unfold dS;rw [EO,fF];rfl
theorem EQ (a:List Str) (p:PN) (r:List PN):dS a (p::r)=dS a r++[b9 p.1]:=by
 unfold dS;rw [Rq,fF];rfl
theorem r6 (p:PN) (r:List PN):dN (p::r)=dN r++[.str p.2]:=by simp [dN]
theorem zM (p:PN) (r:List PN):dG (p::r)=dG r++[.tuple [b9 p.1,.str p.2]]:=by simp [dG]
theorem ES (b:List Str) (a:List PN):(EN b a).length=a.length:=by
 cases a with
 |nil=>rfl
 |cons p r=>simp [EN,Hc]
theorem vB (a:List PN):(dN a).length=a.length:=by simp [dN]
theorem XF (a:List PN):(dG a).length=a.length:=by simp [dG]
theorem q0b {a:Nat}{G1:GS}{b d:D}{M M':Mu}{ds:List D} (h:G1 (N5 a ds) b M=.rt d M'):QP a G1 b M ds=.ok d M':=by unfold QP;rw [h]
def nW (a:List iy):List Str:=a.map (·.name)++[("zzzzz" : Str)]
section
variable {fs s0 cur:List Str}{es:List iy}{past gone:List PN}{S K:D}
theorem Rr {A B:D}{r:aB} (g:fz fs es):g2 (dJ 1 [] (kz (g2 (rB 2) (kI 1) aS)) kT (g2 (rB 0) (kI 0) aS)) (fj (J.ah (fun _=>.ok (.str "zzzzz")) J.aN) .list) dI (.shr A::.shr B::.shr (dg fs es)::r)=.ok (.list ((nW es).map .str)):=by
 have a:=g.len
 left
 rw [Us]
 left
 rw [if_pos (by omega)]
 rw [dL _ cG (fun e=>aE e.name) es fun e he=>fM rfl (by
  left
  rw [Ni])]
 left
 rw [if_pos (by omega)]
 simp [nW]
theorem UF {A B:D}{a3 a5 a6 a7 a8 a9:Sl}{r:aB}{P:List D} (g:fz fs es) (a:Sub fs cur):dJ 1 [4] (kz (g2 (rB 2) (kI 1) aS)) (eT (g2 (gN 2 iw (J.ah (rS 0) (J.ah (g2 (rB 1) (pT (kI 1)) aS) J.aN))) kN (KQ true))) (rS 0) (.shr A::.shr B::.shr (dg fs es)::a3::.shr (.list (P++[b9 cur]))::r)=.ok (.list ((es.filter fun e=>im cur e.needs e.bars).map cG)):=by
 have b:=g.len
 have c:=jO a g.rise.len
 left
 rw [Us]
 left
 rw [if_pos (by omega)]
 rw [jm _ cG cG (fun e=>im cur e.needs e.bars) es fun e he=>wQ (by
  left
  rw [ZY]
  left
  rw [Uv]
  left
  rw [xa]
  left
  rw [LQ (sY g he) (by omega)]
  left
  unfold LP
  cases im cur e.needs e.bars with
  |true=>rfl
  |false=>rfl) fun _=>rfl]
 left
end
def Nq (a:List iy) (n:Str):Prop:=n="zzzzz"\/∃ e∈a,e.name=n
section
variable {fs s0 cur:List Str}{es gd:List iy}{past gone:List PN}{S K:D}
theorem XG {d:D} (h:d∈(nW es).map aE):∃ n,d=.str n/\Nq es n:=by
 obtain ⟨n,a,rfl⟩:=List.mem_map.mp h
 refine ⟨n,rfl,?_⟩
 unfold nW at a
 rcases List.mem_append.mp a with h|h
 ·obtain ⟨e,he,rfl⟩:=List.mem_map.mp h
  exact .inr ⟨e,he,rfl⟩
 ·exact .inl (List.mem_singleton.mp h)
theorem Rs (g:fz fs es) (l:List iy) (h:∀ e∈l,e∈es):bN (l.map cG)=true:=by
 induction l with
 |nil=>rfl
 |cons e r a =>
  show ((cG e).canLay0&&bN (r.map cG))=true
  rw [Rc g.rise.ok (g.ok e (h e au)),a fun x b=>h x (aq _ b)]
  rfl
theorem UG {l a j c h f d k i:Sl}{r:aB}{n:Str} (g:fz fs es) (hs:∀ e∈gd,e∈es) (m:gd.length<=6) (b:Nq es n):dJ 1 [9] (kz (rB 10)) (eT (g2 (g2 (rB 0) (kI 0) aS) (rB 1) (ir false))) (rS 0) (l::a::j::c::h::f::d::k::i::.shr (.str n)::.shr (.list (gd.map cG))::r)=.ok (.list ((gd.filter fun e=>decide (e.name=n)).map cG)):=by
 left
 rw [if_pos (by omega)]
 rw [jm _ cG cG (fun e=>decide (e.name=n)) gd fun e he=>wQ (by
  left
  rw [Ni]
  left
  rcases b with rfl|⟨e',he',rfl⟩
  ·rw [ZW (g.ok e (hs e he)).name,decide_eq_false (Rg (g.ok e (hs e he)).name)]
   rfl
  ·rw [zH false (g.ok e (hs e he)).name (g.ok e' he').name]
   rfl) fun _=>rfl]
 left
theorem XH (g:fz fs es) (hs:∀ e∈gd,e∈es) (x:gd.length<=6) (a:List Int) (k:Int) (y:0<=k) {b:D}{M:Mu}{w m:D}{n:Str}{r:cR} (l:Nq es n) {a2 a3 a4 a5 a6:MS} :
  ∃ i,Nq es i/\goI (.dat (.list (a.map .int))::.dat (.int k)::a2::a3::a4::a5::a6::.dat w::.dat m::.dat (.str n)::.dat (.list (gd.map cG))::r) b M=.nx (.dat (.list (a.map .int))::.dat (.int k)::a2::a3::a4::a5::a6::.dat w::.dat m::.dat (.str i)::.dat (.list (gd.map cG))::r) M:=by
 have f:ir true (.list (gd.map cG)) (.list [])=.ok (.bool (!decide (gd.map cG=[]))):=Ux _ (Rs g gd hs)
 by_cases h:gd=[]
 ·subst h
  refine ⟨n,l,ic (sZ (nF (k7 (eZ rfl rfl f)))) rfl⟩
 ·have s:decide (gd.map cG=[])=false:=decide_eq_false (by simpa using h)
  rw [s] at f
  have o:aU [.list (a.map .int),.int (k+2),.int 4]=.ok (.int (eB a (k+2) 4)):=eP a _ _ (by omega) (by decide)
  have c:NT (.int (eB a (k+2) 4)) (.int 0)=.ok (.bool (decide (eB a (k+2) 4 > 0))):=rfl
  cases p:decide (eB a (k+2) 4 > 0) with
  |false =>
   rw [p] at c
   exact ⟨n,l,ic (sZ (q_ (k7 (eZ rfl rfl f)) (k7 (eZ (lM rfl rfl o) rfl c)))) rfl⟩
  |true =>
   rw [p] at c
   have q:0<gd.length:=List.length_pos_iff.mpr h
   have t:aU [.list (a.map .int),.int (k+1),.int ((gd.map cG).length:Nat)]=.ok (.int (eB a (k+1) ((gd.map cG).length:Nat))):=eP a _ _ (by omega) (by rw [aw];omega)
   obtain ⟨d,u,v⟩:=JP (L:=gd.map cG) (j:=eB a (k+1) ((gd.map cG).length:Nat)) (fh a _ _ (by rw [aw];omega)) (fN a _ _ (by rw [aw];omega))
   obtain ⟨e,he,rfl⟩:=List.mem_map.mp u
   exact ⟨e.name,.inr ⟨e,hs e he,rfl⟩,rN (sZ (q_ (k7 (eZ rfl rfl f)) (k7 (eZ (lM rfl rfl o) rfl c)))) (LS 9 (eZ (eZ rfl (lM rfl rfl t) v) rfl (Ni e)))⟩
end
theorem ix0 (d:D) (r:List D):aS (.list (d::r)) (.int 0)=.ok d:=tR (j:=0) (v:=d) (xs:=d::r) rfl
theorem ET {fs d:List Str}{c:List iy} (g:fz fs c):∀ {a:List PN},nG fs c d a->∀ p∈a,uV p.2=true/\Sub fs p.1
 |[],_,_,h=>nomatch h
 |q::r,h,p,b=>by
  rcases List.mem_cons.mp b with rfl|b
  ·obtain ⟨e,he,f,_⟩:=h.1.ex
   exact ⟨f ▸ (g.ok e he).name,h.2.1⟩
  ·exact ET g h.2.2 p b
theorem LW {fs:List Str}{d:List iy} (g:fz fs d):∀ {a:List PN}{c:List Str},uX fs d c a->∀ p∈a,uV p.2=true/\Sub fs p.1
 |[],_,_,_,h=>nomatch h
 |q::r,_,h,p,b=>by
  rcases List.mem_cons.mp b with rfl|b
  ·obtain ⟨e,he,f,_⟩:=h.1.ex
   exact ⟨f ▸ (g.ok e he).name,h.2.1⟩
  ·exact LW g h.2.2 p b
theorem XI {l:List PN} (h:∀ p∈l,uV p.2=true):bN (dN l)=true:=by
 unfold dN
 rw [show (l.reverse.map fun p=>aE p.2)=(l.reverse.map (·.2)).map aE by rw [el];rfl]
 refine qe _ fun x b=>?_
 obtain ⟨p,a,rfl⟩:=List.mem_map.mp b
 exact h p (List.mem_reverse.mp a)
theorem XJ {fs:List Str} (d:∀ x∈fs,uV x=true) {l:List PN} (h:∀ p∈l,uV p.2=true/\Sub fs p.1):bN (dG l)=true:=by
 unfold dG
 have:∀ l:List PN,(∀ p∈l,uV p.2=true/\Sub fs p.1)->bN (l.map fun p=>df [b9 p.1,.str p.2])=true:=by
  intro l
  induction l with
  |nil=>intro _;rfl
  |cons p r b =>
   intro h
   have a:=h p au
   rw [aW]
   simp only [bN,dR,aP]
   refine ⟨⟨sX d a.2,?_,?_⟩,b fun q c=>h q (aq _ c)⟩
   ·exact uo a.1
   ·trivial
 exact this _ fun p a=>h p (List.mem_reverse.mp a)
structure Y2 (fs:List Str) (es:List iy) (s0:List Str) (past gone:List PN) (M:Mu):Prop where
 ex:∃ past' gone',M=t4 s0 past' gone'/\nG fs es s0 past'/\uX fs es (gX s0 past') gone'/\past'.length+gone'.length<=past.length+gone.length+1
section
variable {fs s0:List Str}{es:List iy}{past gone:List PN}{S K NM GD:D}{n:Str}
abbrev Nr (S K B:D) (w:Int) (NM:D) (n:Str) (GD:D) (SM:List iy):cR:=[.dat S,.dat K,.dat B,.dk,.ml 3,.ml 4,.ml 5,.dat (.int w),.dat NM,.dat (.str n),.dat GD,.dat (.list (SM.map cG)),.no]
theorem go0 (g:fz fs es) (x:Sub fs s0) (k:nG fs es s0 past) (w:uX fs es (gX s0 past) gone) (z:past.length+gone.length<=20) (u:Nq es n) {b:List iy} (hs:b=(es.filter fun e=>im (gX s0 past) e.needs e.bars).filter fun e=>decide (e.name=n)) :
  ∃ M',goT (Nr S K (dg fs es) 0 NM n GD b) (dg fs es) (t4 s0 past gone)=.rt (.bool true) M'/\Y2 fs es s0 past gone M':=by
 have c:=zL x k
 have a:∀ e∈b,e∈es/\im (gX s0 past) e.needs e.bars=true/\e.name=n:=fun e he=>by
  rw [hs] at he
  obtain ⟨p,v⟩:=List.mem_filter.mp he
  obtain ⟨q,s⟩:=List.mem_filter.mp p
  exact ⟨q,s,of_decide_eq_true v⟩
 have i:ir false (.list (b.map cG)) (.list [])=.ok (.bool (decide (b.map cG=[]))):=EJ _ (Rs g b fun e he=>(a e he).1)
 have m:=AX s0 past
 cases l:b with
 |nil =>
  subst l
  refine ⟨t4 s0 past gone,?_,past,gone,rfl,k,w,by omega⟩
  have h:gU [dg fs es,b9 (gX s0 past),.str n]=.ex "NoErrand" none:=by
   rcases u with rfl|⟨e,he,rfl⟩
   ·exact Uy g c (Rh g)
   ·refine Uz g c he ?_
    cases d:im (gX s0 past) e.needs e.bars with
    |false=>rfl
    |true =>
     have:e∈(es.filter fun e=>im (gX s0 past) e.needs e.bars).filter fun t=>decide (t.name=e.name):=List.mem_filter.mpr ⟨List.mem_filter.mpr ⟨he,d⟩,by simp⟩
     rw [<- hs] at this
     cases this
  unfold t4
  rw [m]
  exact GY (rN (sZ (q_ rfl (k7 (eZ rfl rfl i)))) (B_ (No (Y1 rfl rfl rfl (s_ (XC h rfl))) rfl (EI (by decide +kernel)) rfl)))
 |cons e r =>
  rw [l] at a i
  obtain ⟨he,d,o⟩:=a e au
  have h:gU [dg fs es,b9 (gX s0 past),.str n]=.ok (b9 (mI e (gX s0 past))):=o ▸ LR g c he d
  have f:iw [cG e,b9 (gX s0 past)]=.ok (b9 (mI e (gX s0 past))):=by
   rw [LQ (sY g he) (bF (jO c g.rise.len) (by decide))]
   unfold LP
   rw [d]
   rfl
  refine ⟨t4 s0 ((mI e (gX s0 past),n)::past) [],?_,_,_,rfl,⟨⟨e,he,o,d,rfl⟩,JX g.rise.up (g.ok e he) c,k⟩,trivial,by simp only [aX,ej];omega⟩
  have A:=ES s0 past
  have y:=vB past
  unfold t4
  rw [EQ,r6,m]
  refine mq (ic (sZ (q_ rfl (k7 (eZ rfl rfl i)))) rfl) (mq (ic (sZ (H9 (nF rfl) (nF rfl))) rfl) (mq (ic (UB (No (Y1 rfl rfl rfl (s_ (ld0 h (oJ _) rfl (by rw [aw];omega) (by omega)))) rfl rfl rfl)) rfl) (mq (ρ':=Nr S K (dg fs es) 0 NM n GD (e::r)) (rN (sZ rfl) ?_) (B_ (oH rfl rfl)))))
  exact mq (qf (G_ (j:=3) (ds:=(EN s0 past).map b9++[b9 (gX s0 past)]) rfl (oH (lM (ds:=[cG e,b9 (gX s0 past)]) (lG (eZ rfl rfl (ix0 _ _)) (lG (eZ rfl rfl (xa _ _)) rfl)) rfl f) (oJ _)) rfl (by simp;omega))) (mq (qf (G_ (j:=4) (ds:=dN past) rfl (oH rfl rfl) rfl (by omega))) (qf (q01 (j:=5) (ds:=dG gone) rfl rfl)))
end
section
variable {fs s0:List Str}{es:List iy}{past gone:List PN}{S K NM GD:D}{n:Str}
theorem go1 (g:fz fs es) (l:Sub fs s0) (a:nG fs es s0 past) (e:uX fs es (gX s0 past) gone) (i:past.length+gone.length<=20) {c:List iy} :
  ∃ M',goT (Nr S K (dg fs es) 1 NM n GD c) (dg fs es) (t4 s0 past gone)=.rt (.bool true) M'/\Y2 fs es s0 past gone M':=by
 have b:ir false (.list (dN past)) (.list [])=.ok (.bool (decide (dN past=[]))):=EJ _ (XI fun p h=>(ET g a p h).1)
 cases past with
 |nil =>
  refine ⟨t4 s0 [] gone,?_,[],gone,rfl,a,e,by omega⟩
  exact mq (ic (sZ (nF rfl)) rfl) (GY (rN (sZ (XA (q_ rfl (k7 (eZ rfl rfl b))))) (B_ (No (Y1 rfl rfl rfl (s_ XD)) rfl (EI (by decide +kernel)) rfl))))
 |cons p r =>
  have f:decide (dN (p::r)=[])=false:=decide_eq_false (by rw [r6];simp)
  rw [f] at b
  have m:=vB gone
  have k:=XF gone
  simp only [aX] at i
  refine ⟨t4 s0 r (p::gone),?_,r,p::gone,rfl,a.2.2,⟨a.1,a.2.1,e⟩,by simp only [aX];omega⟩
  unfold t4
  rw [r6] at b
  rw [EQ,r6,r6 p gone,zM]
  refine mq (ic (sZ (nF rfl)) rfl) (mq (ic (sZ (H9 (q_ rfl (k7 (eZ rfl rfl b))) (nF rfl))) rfl) (mq (ic (UB (No (Y1 rfl rfl rfl (s_ (ld1 (by omega)))) rfl rfl rfl)) rfl) (mq (ρ':=Nr S K (dg fs es) 1 NM n GD c) (ic (sZ rfl) (rN (sZ rfl) ?_)) (B_ (oH rfl rfl)))))
  exact qf (G_ (j:=5) (ds:=dG gone) rfl (q16 (Nm (j:=3) (ds:=dS s0 r) (d:=b9 p.1) rfl rfl) (Nm (j:=4) (ds:=dN r) (d:=.str p.2) rfl rfl)) rfl (by omega))
theorem go2 (g:fz fs es) (s:Sub fs s0) (c:nG fs es s0 past) (a:uX fs es (gX s0 past) gone) (l:past.length+gone.length<=20) {h:List iy} :
  ∃ M',goT (Nr S K (dg fs es) 2 NM n GD h) (dg fs es) (t4 s0 past gone)=.rt (.bool true) M'/\Y2 fs es s0 past gone M':=by
 have b:ir false (.list (dG gone)) (.list [])=.ok (.bool (decide (dG gone=[]))):=EJ _ (XJ g.rise.ok (LW g a))
 have o:=zL s c
 cases gone with
 |nil =>
  refine ⟨t4 s0 past [],?_,past,[],rfl,c,a,by omega⟩
  exact mq (ic (sZ (nF rfl)) rfl) (GY (rN (sZ (q04 (nF rfl) (q_ rfl (k7 (eZ rfl rfl b))))) (B_ (No (Y1 rfl rfl rfl (s_ XE)) rfl (EI (by decide +kernel)) rfl))))
 |cons p r =>
  have i:decide (dG (p::r)=[])=false:=decide_eq_false (by rw [zM];simp)
  rw [i] at b
  obtain ⟨e,he,f,q,m⟩:=a.1.ex
  have k:gU [dg fs es,b9 (gX s0 past),.str p.2]=.ok (b9 p.1):=by rw [<- f,<- m];exact LR g o he q
  have u:=ES s0 past
  have t:=vB past
  simp only [aX] at l
  refine ⟨t4 s0 (p::past) r,?_,p::past,r,rfl,⟨a.1,a.2.1,c⟩,a.2.2,by simp only [aX];omega⟩
  unfold t4
  rw [zM] at b
  rw [EQ,r6 p past,r6 p r,zM,AX]
  refine mq (ic (sZ (nF rfl)) rfl) (mq (ic (sZ (H9 (nF rfl) (q_ rfl (k7 (eZ rfl rfl b))))) rfl) (mq (ic (UB (No (Y1 rfl rfl rfl (s_ (ld2 k (oJ _) rfl (by rw [aw];omega) (by omega)))) rfl rfl rfl)) rfl) (mq (ic (sZ rfl) (ic (sZ rfl) (mq (q02 12 9 (Nm (j:=5) (ds:=dG r) (d:=.tuple [b9 p.1,.str p.2]) rfl rfl)) (mq (qf (G_ (j:=3) (ds:=(EN s0 past).map b9++[b9 (gX s0 past)]) rfl (oH rfl (oJ p.1)) rfl (by simp;omega))) (qf (G_ (j:=4) (ds:=dN past) rfl (oH rfl rfl) rfl (by omega))))))) (B_ (oH rfl rfl)))))
theorem UH (a:List Int) (k:Int) (d:0<=k) {b:D}{M:Mu}{w:Int} (c:aS (.list [.int 0,.int 0,.int 0,.int 1,.int 1,.int 2,.int 2]) (.int (eB a k 7))=.ok (.int w)):q05 [.dat (.list (a.map .int)),.dat (.int k),.dat (dg fs es),.dk,.ml 3,.ml 4,.ml 5,.no,.no,.no,.no,.no,.no] b M=.nx [.dat (.list (a.map .int)),.dat (.int k),.dat (dg fs es),.dk,.ml 3,.ml 4,.ml 5,.dat (.int w),.no,.no,.no,.no,.no] M :=
 LS 7 (eZ rfl (lM rfl rfl (eP a k 7 d (by decide))) c)
theorem UI (g:fz fs es) (a:List Int) (k:Int) {b:D}{M:Mu}{w:Int}:q06 [.dat (.list (a.map .int)),.dat (.int k),.dat (dg fs es),.dk,.ml 3,.ml 4,.ml 5,.dat (.int w),.no,.no,.no,.no,.no] b M=.nx [.dat (.list (a.map .int)),.dat (.int k),.dat (dg fs es),.dk,.ml 3,.ml 4,.ml 5,.dat (.int w),.dat (.list ((nW es).map aE)),.no,.no,.no,.no] M:=LS 8 (Rr g)
theorem UJ (a:List Int) (k:Int) (d:0<=k) {b:D}{M:Mu}{w:Int} (c:aS (.list ((nW es).map aE)) (.int (eB a (k+1) (((nW es).map aE).length:Nat)))=.ok (.str n)):q07 [.dat (.list (a.map .int)),.dat (.int k),.dat (dg fs es),.dk,.ml 3,.ml 4,.ml 5,.dat (.int w),.dat (.list ((nW es).map aE)),.no,.no,.no,.no] b M=.nx [.dat (.list (a.map .int)),.dat (.int k),.dat (dg fs es),.dk,.ml 3,.ml 4,.ml 5,.dat (.int w),.dat (.list ((nW es).map aE)),.dat (.str n),.no,.no,.no] M :=
 LS 9 (eZ rfl (lM rfl rfl (eP a _ _ (by omega) (by unfold nW;simp<;>omega))) c)
theorem UK (g:fz fs es) (d:Sub fs (gX s0 past)) (a:List Int) (k:Int) {b:D}{w:Int}:q08 [.dat (.list (a.map .int)),.dat (.int k),.dat (dg fs es),.dk,.ml 3,.ml 4,.ml 5,.dat (.int w),.dat (.list ((nW es).map aE)),.dat (.str n),.no,.no,.no] b (t4 s0 past gone)=.nx [.dat (.list (a.map .int)),.dat (.int k),.dat (dg fs es),.dk,.ml 3,.ml 4,.ml 5,.dat (.int w),.dat (.list ((nW es).map aE)),.dat (.str n),.dat (.list ((es.filter fun e=>im (gX s0 past) e.needs e.bars).map cG)),.no,.no] (t4 s0 past gone):=by
 refine V_ 10 (ds:=(es.filter fun e=>im (gX s0 past) e.needs e.bars).map cG) ?_ (JY _)
 have c:=AX s0 past
 unfold t4
 rw [c]
 exact UF (a5:=.no) (a6:=.no) (a7:=.no) (a8:=.no) (a9:=.no) g d
theorem UL (g:fz fs es) (c:Nq es n) (a:List Int) (k:Int) {b:D}{M:Mu}{w:Int}:q09 [.dat (.list (a.map .int)),.dat (.int k),.dat (dg fs es),.dk,.ml 3,.ml 4,.ml 5,.dat (.int w),.dat (.list ((nW es).map aE)),.dat (.str n),.dat (.list ((es.filter fun e=>im (gX s0 past) e.needs e.bars).map cG)),.no,.no] b M=.nx [.dat (.list (a.map .int)),.dat (.int k),.dat (dg fs es),.dk,.ml 3,.ml 4,.ml 5,.dat (.int w),.dat (.list ((nW es).map aE)),.dat (.str n),.dat (.list ((es.filter fun e=>im (gX s0 past) e.needs e.bars).map cG)),.dat (.list (((es.filter fun e=>im (gX s0 past) e.needs e.bars).filter fun e=>decide (e.name=n)).map cG)),.no] M :=
 V_ 11 (UG g (fun e he=>(List.mem_filter.mp he).1) (bF (lL _ _) g.len) c) (JY _)
theorem q0c (g:fz fs es) (o:Sub fs s0) (i:nG fs es s0 past) (t:uX fs es (gX s0 past) gone) (q:past.length+gone.length<=20) (a:List Int) (k:Int) (l:0<=k) :
  ∃ M',qd (dg fs es) (t4 s0 past gone) [.list (a.map .int),.int k,dg fs es]=.ok (.bool true) M'/\Y2 fs es s0 past gone M':=by
 have A:=zL o i
 have N:aU [.list (a.map .int),.int k,.int 7]=.ok (.int (eB a k 7)):=eP a _ _ l (by decide)
 obtain ⟨w,v,H⟩:=JP (L:=[.int 0,.int 0,.int 0,.int 1,.int 1,.int 2,.int 2]) (j:=eB a k 7) (fh a _ _ (by decide)) (fN a _ _ (by decide))
 have O:0<((nW es).map aE).length:=by unfold nW;simp
 have Q:aU [.list (a.map .int),.int (k+1),.int (((nW es).map aE).length:Nat)]=.ok (.int (eB a (k+1) (((nW es).map aE).length:Nat))):=eP a _ _ (by omega) (by omega)
 obtain ⟨P,E,y⟩:=JP (L:=(nW es).map aE) (j:=eB a (k+1) (((nW es).map aE).length:Nat)) (fh a _ _ (by omega)) (fN a _ _ (by omega))
 obtain ⟨n,rfl,B⟩:=XG E
 have s:∀ e∈es.filter (fun e=>im (gX s0 past) e.needs e.bars),e∈es:=fun e he=>(List.mem_filter.mp he).1
 have p:(es.filter fun e=>im (gX s0 past) e.needs e.bars).length<=6:=bF (lL _ _) g.len
 have c:∀ d:Int,(d=0\/d=1\/d=2)->w=.int d->∃ M',qd (dg fs es) (t4 s0 past gone) [.list (a.map .int),.int k,dg fs es]=.ok (.bool true) M'/\Y2 fs es s0 past gone M':=by
  intro d u I
  subst I
  obtain ⟨x,f,z⟩:=XH (b:=dg fs es) (M:=t4 s0 past gone) (w:=.int d) (m:=.list ((nW es).map aE)) (r:=[.no,.no]) (a2:=.dat (dg fs es)) (a3:=.dk) (a4:=.ml 3) (a5:=.ml 4) (a6:=.ml 5) g s p a k l B
  have T:∃ M',goT (Nr (.list (a.map .int)) (.int k) (dg fs es) d (.list ((nW es).map aE)) x (.list ((es.filter fun e=>im (gX s0 past) e.needs e.bars).map cG)) ((es.filter fun e=>im (gX s0 past) e.needs e.bars).filter fun e=>decide (e.name=x))) (dg fs es) (t4 s0 past gone)=.rt (.bool true) M'/\Y2 fs es s0 past gone M':=by
   rcases u with rfl|rfl|rfl
   ·exact go0 g o i t q f rfl
   ·exact go1 g o i t q
   ·exact go2 g o i t q
  obtain ⟨M',G,R⟩:=T
  refine ⟨M',q0b (G1:=qc) ?_,R⟩
  rw [Rp]
  exact mq (UH a k l H) (mq (UI g a k) (mq (UJ a k l y) (mq (UK g A a k) (mq z (mq (UL g f a k) G)))))
 simp only [bf,aY,or_false] at v
 rcases v with h|h|h|h|h|h|h
 ·exact c 0 (.inl rfl) h
 ·exact c 0 (.inl rfl) h
 ·exact c 0 (.inl rfl) h
 ·exact c 1 (.inr (.inl rfl)) h
 ·exact c 1 (.inr (.inl rfl)) h
 ·exact c 2 (.inr (.inr rfl)) h
 ·exact c 2 (.inr (.inr rfl)) h
end
theorem UM (n:Nat) (h:n<=100):J.T_ [.int ((n:Nat)-1),.int (-1),.int (-1)]=.ok (J.rJ ((n:Nat)-1) n):=by
 have e:J.T_ [.int ((n:Nat)-1),.int (-1),.int (-1)]=if (-1:Int)=-1/\-1000<=((n:Nat)-1:Int)/\((n:Nat)-1:Int)<=1000/\(-1000:Int)<=-1/\(-1:Int)<=1000 then .ok (J.rJ ((n:Nat)-1) (((n:Nat)-1:Int) - -1).toNat) else .no:=rfl
 rw [e,if_pos ⟨rfl,by omega,by omega,by omega,by omega⟩]
 rw [show (((n:Nat)-1:Int) - -1).toNat=n by omega]
theorem UN {t:aB->R Bool}{b:aB->R Fl}{n:Nat}{ρ ρ':aB} (a:t ρ=.ok true) (c:b ρ=.ok (.nx ρ')):kA t b (n+1) ρ=kA t b n ρ':=by
 rw [kA,a];simp only [c]
theorem LX {t:aB->R Bool}{b:aB->R Fl}{n:Nat}{ρ:aB} (a:t ρ=.ok false):kA t b (n+1) ρ=.ok (.nx ρ):=by
 rw [kA,a]
theorem EU {xs:List Str} (h:∀ x∈xs,uV x=true) (a:Bool):ir a (.list (xs.map .str)) (.list (xs.map .str))=.ok (.bool (!a)):=by
 have e:∀ ds b:List D,bw (.list ds) (.list b)=bw (.tuple ds) (.tuple b):=fun _ _=>rfl
 have c:(fR (xs.map .str)).canLay0=true:=by simp only [dR];exact qe xs h
 have d:(fR (xs.map .str)).depth<=60:=by
  have:=ye aE 0 (fun x=>by simp [xy]) xs
  simp only [xy]
  omega
 unfold ir
 rw [c,e,GT,decide_eq_true (bF (Nat.min_le_left _ _) d)]
 cases a<;>rfl
def oK (f:Str) (L:List (List Str)):Nat->Nat
 | 0=>0
 |i+1=>if f∈(L[i]?).getD [] then oK f L i else i+1
theorem W2 (L:List (List Str)) {i:Nat} (h:i<L.length):aS (.list (L.map b9)) (.int (i:Nat))=.ok (b9 ((L[i]?).getD [])):=by
 refine tR ?_
 rw [aH,a_ h]
 rfl
def hsT:aB->R Bool:=oY (eT (g2 (rB 2) (kI 0) NT)) (eT (g2 (rB 1) (g2 (wT 1 (rS 0)) (g2 (rB 2) (kI 1) Au) aS) (xA false)))
theorem Rt:iT=bu (fS (y0 (jH (eT (wL (rB 1) "str"))) (eT (g2 (rB 1) (qM 1 eO (rS 0) J.aN) (xA true)))) (eA kN) (fun ρ=>.ok (.nx ρ))) (bu (jl 2 (c7 (J.ah (wT 2 (rS 0)) J.aN) (j9 kR))) (bu (kA hsT (Dg 2 (kI 1)) 100000) (eA (rS 2)))):=rfl
theorem LY {b:D}{L:List (List Str)}{N U:List D}{RR:Mu} (f:Str):∀ (i n:Nat),i<n->i<L.length+1->kA hsT (Dg 2 (kI 1)) n [.shr (HX b (L.map b9::N::U::RR)),.shr (.str f),.shr (.int (i:Nat))]=.ok (.nx [.shr (HX b (L.map b9::N::U::RR)),.shr (.str f),.shr (.int (oK f L i:Nat))])
 | 0,n+1,_,_=>LX (nF rfl)
 |i+1,n+1,g,j=>by
  have d:NT (.int ((i+1:Nat):Int)) (.int 0)=.ok (.bool true):=by
   show R.ok (cX (decide (((i+1:Nat):Int) > 0)))=_
   rw [decide_eq_true (by omega)]
  have c:Au (.int ((i+1:Nat):Int)) (.int 1)=.ok (.int (i:Nat)):=by
   show R.ok (bM (((i+1:Nat):Int)-1))=_
   rw [show ((i+1:Nat):Int)-1=(i:Nat) by omega]
  have e:=mj false f ((L[i]?).getD [])
  have a:hsT [.shr (HX b (L.map b9::N::U::RR)),.shr (.str f),.shr (.int ((i+1:Nat):Int))]=.ok (decide (f∈(L[i]?).getD [])) :=
   q_ (k7 (eZ rfl rfl d)) (k7 (eZ rfl (eZ rfl (eZ rfl rfl c) (W2 L (by omega))) e))
  unfold oK
  by_cases h:f∈(L[i]?).getD []
  ·rw [if_pos h]
   rw [decide_eq_true h] at a
   rw [UN (ρ':=[.shr (HX b (L.map b9::N::U::RR)),.shr (.str f),.shr (.int (i:Nat))]) a ?_]
   ·exact LY f i n (by omega) (by omega)
   ·show R.ok (Fl.nx [_,_,Sl.shr (bM (((i+1:Nat):Int)-1))])=_
    rw [show ((i+1:Nat):Int)-1=(i:Nat) by omega]
  ·rw [if_neg h]
   rw [decide_eq_false h] at a
   exact LX a
def r9 (f:Str) (L:List (List Str)) (a:List Str):D:=if f∈a then .int (oK f L L.length:Nat) else .none
theorem UO {b:D}{P:List (List Str)}{a:List Str}{N U:List D}{RR:Mu} (f:Str) (g:N.length=P.length) (l:P.length<=50):gL [HX b ((P++[a]).map b9::N::U::RR),.str f]=.ok (r9 f (P++[a]) a):=by
 refine du ?_
 rw [Rt]
 have hs:eO [HX b ((P++[a]).map b9::N::U::RR)]=.ok (b9 a):=by
  rw [fF]
  exact AW (S:=P.map b9) (s:=b9 a) (N:=N) (U:=U)
 have j:=mj true f a
 have c:y0 (jH (eT (wL (rB 1) "str"))) (eT (g2 (rB 1) (qM 1 eO (rS 0) J.aN) (xA true))) [.shr (HX b ((P++[a]).map b9::N::U::RR)),.shr (.str f),.no]=.ok (!decide (f∈a)) :=
  q04 rfl (k7 (eZ rfl (Np rfl rfl rfl rfl hs) j))
 unfold r9
 by_cases h:f∈a
 ·rw [if_pos h]
  rw [decide_eq_true h] at c
  have e:(P++[a]).length=P.length+1:=by simp
  have k:oK f (P++[a]) (P++[a]).length=oK f (P++[a]) P.length:=by
   rw [e]
   conv=>lhs;unfold oK
   rw [if_pos]
   simpa using h
  have i:=LY (b:=b) (L:=P++[a]) (N:=N) (U:=U) (RR:=RR) f P.length 100000 (by omega) (by rw [e];omega)
  rw [k]
  refine sq (Rm c) (sq (Rl (d:=.int (P.length:Nat)) ?_) (sq i rfl))
  show R.ok (bM (N.length:Nat))=_
  rw [g]
 ·rw [if_neg h]
  rw [decide_eq_false h] at c
  show bu (fS _ _ _) _ [.shr (HX b ((P++[a]).map b9::N::U::RR)),.shr (.str f),.no]=_
  unfold bu fS
  rw [c]
  rfl
def Y3:aB->R Fl:=bu (fS (eT (g2 (rB 1) (g2 (rB 0) (rB 3) aS) (xA true))) (eA (g2 (rB 3) (kI 1) dI)) (fun ρ=>.ok (.nx ρ))) (jl 2 (rS 3))
theorem Ru:oE=bu (fS (eT (g2 (rB 1) (g2 (rB 0) (pT (kI 1)) aS) (xA true))) (eA kN) (fun ρ=>.ok (.nx ρ))) (bu (jl 2 (g2 (c7 (J.ah (rB 0) J.aN) (j9 kR)) (kI 1) Au)) (bu (y8 (D7 (J.ah (g2 (c7 (J.ah (rB 0) J.aN) (j9 kR)) (kI 1) Au) (J.ah (pT (kI 1)) (J.ah (pT (kI 1)) J.aN)))) (cV 3) Y3) (eA (rS 2)))):=rfl
theorem Nt (i:Nat):J.rJ ((i+1:Nat)-1:Int) (i+1)=.int (i:Nat)::J.rJ ((i:Nat)-1:Int) i:=by
 unfold J.rJ
 rw [List.range_succ_eq_map,aW,el]
 congr 1
 ·congr 1
  omega
 ·refine mZ fun k _=>?_
  show bM (((i+1:Nat)-1:Int)-((k+1:Nat):Int))=bM (((i:Nat)-1:Int)-(k:Int))
  congr 1
  omega
inductive LsR (f:Str) (L:List (List Str)) (i:Nat) (a:Nat) (r:R Fl):Prop
 |rt (h:r=.ok (.rt (.int (oK f L i:Nat))))
 |nx (x:Sl) (h:r=.ok (.nx [.shr (.list (L.map b9)),.shr (.str f),.shr (.int ((if i=0 then a else 0:Nat):Int)),x])) (z:oK f L i=0)
theorem LZ {L:List (List Str)} (f:Str):∀ (i a:Nat) (x:Sl),i<=L.length->LsR f L i a (p7 (cV 3) Y3 (J.rJ ((i:Nat)-1:Int) i) [.shr (.list (L.map b9)),.shr (.str f),.shr (.int (a:Nat)),x])
 | 0,a,x,_=>.nx x rfl rfl
 |i+1,a,x,j=>by
  rw [Nt]
  have g:=mj true f ((L[i]?).getD [])
  have b:eT (g2 (rB 1) (g2 (rB 0) (rB 3) aS) (xA true)) [.shr (.list (L.map b9)),.shr (.str f),.shr (.int (a:Nat)),.shr (.int (i:Nat))]=.ok (!decide (f∈(L[i]?).getD [])):=k7 (eZ rfl (eZ rfl rfl (W2 L (by omega))) g)
  by_cases h:f∈(L[i]?).getD []
  ·rw [decide_eq_true h] at b
   have e:Y3 [.shr (.list (L.map b9)),.shr (.str f),.shr (.int (a:Nat)),.shr (.int (i:Nat))]=.ok (.nx [.shr (.list (L.map b9)),.shr (.str f),.shr (.int (i:Nat)),.shr (.int (i:Nat))]):=sq (Rm b) rfl
   rw [Uw (ρ1:=[.shr (.list (L.map b9)),.shr (.str f),.shr (.int (a:Nat)),.shr (.int (i:Nat))]) rfl e]
   have c:oK f L (i+1)=oK f L i:=by
    conv=>lhs;unfold oK
    rw [if_pos h]
   rcases LZ (L:=L) f i i (.shr (.int (i:Nat))) (by omega) with q|⟨x',q,z⟩
   ·exact .rt (by rw [c];exact q)
   ·refine .nx x' ?_ (c.trans z)
    rw [q,if_neg (Nat.succ_ne_zero i)]
    by_cases d:i=0
    ·rw [if_pos d,d]
    ·rw [if_neg d]
  ·rw [decide_eq_false h] at b
   refine .rt ?_
   have c:oK f L (i+1)=i+1:=by
    conv=>lhs;unfold oK
    rw [if_neg h]
   rw [c]
   unfold p7
   simp only [show cV 3 (bM (i:Nat)) [.shr (.list (L.map b9)),.shr (.str f),.shr (.int (a:Nat)),x]=.ok [.shr (.list (L.map b9)),.shr (.str f),.shr (.int (a:Nat)),.shr (.int (i:Nat))] from rfl]
   have:Y3 [.shr (.list (L.map b9)),.shr (.str f),.shr (.int (a:Nat)),.shr (.int (i:Nat))]=.ok (.rt (.int ((i+1:Nat):Int))):=by
    unfold Y3 bu fS
    rw [b]
    show R.ok (Fl.rt (bM ((i:Int)+1)))=_
    rw [show ((i:Nat):Int)+1=((i+1:Nat):Int) by omega]
   simp only [this]
theorem Rv {P:List (List Str)}{a:List Str} (f:Str) (m:P.length<=50):lP [.list ((P++[a]).map b9),.str f]=.ok (r9 f (P++[a]) a):=by
 refine du ?_
 rw [Ru]
 have l:=mj true f a
 have k:aS (.list ((P++[a]).map b9)) (.int (-1))=.ok (b9 a):=by rw [fF];exact xa _ _
 have e:eT (g2 (rB 1) (g2 (rB 0) (pT (kI 1)) aS) (xA true)) [.shr (.list ((P++[a]).map b9)),.shr (.str f),.no,.no]=.ok (!decide (f∈a)):=k7 (eZ rfl (eZ rfl rfl k) l)
 unfold r9
 by_cases h:f∈a
 ·rw [if_pos h]
  rw [decide_eq_true h] at e
  have c:(P++[a]).length=P.length+1:=by simp
  have g:Au (.int (((P++[a]).map b9).length:Nat)) (.int 1)=.ok (.int (P.length:Nat)):=by
   show R.ok (bM ((((P++[a]).map b9).length:Nat)-1:Int))=_
   rw [aw,c]
   rw [show ((P.length+1:Nat):Int)-1=(P.length:Nat) by omega]
  have j:=UM (P++[a]).length (by rw [c];omega)
  have i:(((P++[a]).length:Nat)-1:Int)=(P.length:Nat):=by rw [c];omega
  refine sq (Rm e) (sq (ρ':=[.shr (.list ((P++[a]).map b9)),.shr (.str f),.shr (.int (P.length:Nat)),.no]) (Rl (eZ rfl rfl g)) ?_)
  have b:=yE (s:=.shr (.list ((P++[a]).map b9))) (ρ:=[.shr (.str f),.shr (.int (P.length:Nat)),.no]) (D7 (J.ah (g2 (c7 (J.ah (rB 0) J.aN) (j9 kR)) (kI 1) Au) (J.ah (pT (kI 1)) (J.ah (pT (kI 1)) J.aN)))) (cV 3) Y3 (J.rJ (((P++[a]).length:Nat)-1) (P++[a]).length) (by
   unfold D7
   rw [lG (eZ rfl rfl g) (lG (d:=.int (-1)) rfl (lG (d:=.int (-1)) rfl rfl)),bind_ok,<- i]
   exact j)
  rcases LZ (L:=P++[a]) f (P++[a]).length P.length .no (aA _) with q|⟨x',q,z⟩
  ·unfold bu
   rw [b,q]
   rfl
  ·unfold bu
   rw [b,q,z,if_neg (by rw [c];omega)]
   rfl
 ·rw [if_neg h]
  rw [decide_eq_false h] at e
  show bu (fS _ _ _) _ [.shr (.list ((P++[a]).map b9)),.shr (.str f),.no,.no]=_
  unfold bu fS
  rw [e]
  rfl
def q0d:aB->R Bool:=(y0 (eT (g2 (qM 1 eO (rS 5) J.aN) (g2 (rB 6) (pT (kI 1)) aS) (ir true))) (y0 (eT (g2 (qM 1 vz (rS 5) J.aN) (rB 7) (ir true))) (eT (g2 (qM 1 kL (rS 5) J.aN) (c7 (J.ah (dJ 1 [4] (kz (rB 7)) kT (g2 (rB 1) (rB 0) aS)) J.aN) (j9 BY)) (ir true)))))
def q0e:aB->R Bool:=(jH (eT (c7 (J.ah (dJ 1 [5,6] (kz (g2 (rB 1) (kI 0) aS)) kT (g2 (qM 2 gL (rS 1) (J.ah (rS 0) J.aN)) (gN 2 lP (J.ah (rS 2) (J.ah (rS 0) J.aN))) (ir false))) J.aN) (j9 (h_ fun bs=>bs.all id)))))
def lpB:GS:=(cW (kS (D9 (RZ (X_ 5 6 7 8 qd (rS 0) (g2 (kI 300) (g2 (kI 5) (rB 9) wK) dI) (rS 1)))) (iD (gP (kB false))) (fun ρ _ M=>.nx ρ M)) (cW (kS (zF q0d) (iD (gP (kB false))) (fun ρ _ M=>.nx ρ M)) (cW (kS (zF q0e) (iD (gP (kB false))) (fun ρ _ M=>.nx ρ M)) (De 5))))
theorem Nu:GK=(bu (zc (gN 3 nA (J.ah (rS 0) (J.ah (kI 6) (J.ah (kI 6) J.aN)))) (sL 3 (eJ (cV 1) (eJ (cV 2) (eJ (cV 3) vj))))) (bu (kW 4 (ua (dJ 1 [] (kz (g2 (rB 1) (kI 1) aS)) kT (fj (J.ah (g2 (rB 0) (kI 0) aS) (J.ah (g2 (rB 0) (kI 5) aS) J.aN)) .tuple)))) (Df 1 2 5 6 7 8 fQ (cW (Dd 9 (gN 3 aU (J.ah (rS 0) (J.ah (kI 0) (J.ah (kI 13) J.aN)))) lpB) (iD (gP (kB true))))))):=rfl
section
variable {ρ:aB}{ds ys:List D}{d:D}
theorem zN {nt:Nat}{ix:List Nat}{a:aB->R (List D)}{gt:aB->R Bool}{ge:aB->R D} (b:a ρ=.ok ds) (e:ds.length<=1000) (c:il (jt nt (o_ nt ix ρ) gt ge) ds=.ok ys):dJ nt ix a gt ge ρ=.ok (.list ys):=by
 unfold dJ
 rw [b,bind_ok,if_pos e,c,bind_ok]
theorem EV {a:aB->R (List D)}{f:List D->R D} (h:a ρ=.ok ds) (b:f ds=.ok d):c7 a f ρ=.ok d:=by
 unfold c7
 rw [h,bind_ok,b]
theorem W3 {g:aB->R D} (h:g ρ=.ok (.list ds)):kz g ρ=.ok ds:=by
 unfold kz
 rw [h]
 rfl
theorem Rw {g:aB->R D} (h:g ρ=.ok (.tuple ds)):kz g ρ=.ok ds:=by
 unfold kz
 rw [h]
 rfl
theorem UP {i:Nat}{g:aB->R D} (h:g ρ=.ok d):kW i g ρ=.ok (.nx (ρ.set i (.own d))):=by
 unfold kW
 rw [h]
 rfl
theorem UQ {g:aB->R D}{x:D} (h:g ρ=.ok d) (a:J.wR d=.ok x):J.ua g ρ=.ok x:=by
 unfold J.ua
 rw [h,bind_ok,a]
theorem not_of {g:aB->R Bool}{k:Bool} (h:g ρ=.ok k):jH g ρ=.ok (!k):=by
 unfold jH
 rw [h]
 rfl
end
theorem Rx (l:List Int):J.BY (.list (l.map bM))=.ok (.int l.sum):=by
 unfold J.BY
 dsimp only
 rw [AJ]
def W4 (a:List iy) (n:Str):Int:=match uu a n with
 |some e=>e.price
 |none=>0
theorem Ry {a:List iy} (b:(a.map (·.name)).Nodup) {e:iy} (he:e∈a):W4 a e.name=e.price:=by
 unfold W4
 rw [nE b he]
section
variable {fs s0:List Str}{es:List iy}{past gone:List PN}
theorem AY:∀ {past:List PN},nG fs es s0 past->∀ p∈past,∃ e∈es,e.name=p.2
 |[],_,_,h=>nomatch h
 |q::r,h,p,a=>by
  rcases List.mem_cons.mp a with rfl|a
  ·obtain ⟨e,he,b,_⟩:=h.1.ex
   exact ⟨e,he,b⟩
  ·exact AY h.2.2 p a
def UR (es:List iy) (past:List PN):Int:=(past.reverse.map fun p=>W4 es p.2).sum
theorem Rz:J.BY (.list (past.reverse.map fun p=>bM (W4 es p.2)))=.ok (.int (UR es past)):=by
 rw [show (past.reverse.map fun p=>bM (W4 es p.2))=(past.reverse.map fun p=>W4 es p.2).map bM by rw [el];rfl]
 exact Rx _
theorem RA {A U:List D}{RR:Mu} (g:fz fs es) (b:nG fs es s0 past) (d:past.length<=50):kL [HX (dg fs es) (A::dN past::U::RR)]=.ok (.int (UR es past)):=by
 refine du (g:=mH) (W0 (EV (lG (zN (W3 rfl) (by rw [vB];omega) (dL _ (fun p:PN=>aE p.2) (fun p=>bM (W4 es p.2)) past.reverse fun p a=>fM rfl ?_)) rfl) Rz))
 obtain ⟨e,he,c⟩:=AY b p (List.mem_reverse.mp a)
 rw [<- c]
 refine eZ (lM (ds:=[dg fs es,.str e.name]) rfl rfl ?_) rfl (?_:aS (cG e) (.int 5)=_)
 ·rw [yf g (g.ok e he).name,nE g.nd he];rfl
 ·rw [Ry g.nd he];exact q14 e
theorem US {d c a2 a3 a5 a6 a8 a9:Sl} (g:fz fs es) (f:nG fs es s0 past) (h:past.length<=50):c7 (J.ah (dJ 1 [4] (kz (rB 7)) kT (g2 (rB 1) (rB 0) aS)) J.aN) (j9 BY) [d,c,a2,a3,.shr (.dict (jS (R_ es))),a5,a6,.shr (.list (dN past)),a8,a9]=.ok (.int (UR es past)):=by
 refine EV (lG (zN (W3 rfl) (by rw [vB];omega) (dL _ (fun p:PN=>aE p.2) (fun p=>bM (W4 es p.2)) past.reverse fun p a=>fM rfl ?_)) rfl) Rz
 obtain ⟨e,he,b⟩:=AY f p (List.mem_reverse.mp a)
 rw [<- b,Ry g.nd he]
 exact eZ rfl rfl (Xy g.nd he)
abbrev Hd (S:D) (fs:List Str) (es:List iy) (s0:List Str) (W:D) (z:MS):cR:=[.dat S,.dat (dg fs es),.dat (b9 s0),.dat W,.dat (.dict (jS (R_ es))),.dk,.ml 3,.ml 4,.ml 5,z]
theorem q0f {S W:D}{z:MS} (g:fz fs es) (j:Sub fs s0) (a:nG fs es s0 past) (e:past.length<=50):zF q0d (Hd S fs es s0 W z) (dg fs es) (t4 s0 past gone)=.ok false (t4 s0 past gone):=by
 have f:=zL j a
 refine sZ ?_
 have i:eO [HX (dg fs es) (t4 s0 past gone)]=.ok (b9 (gX s0 past)):=by
  unfold t4
  rw [AX]
  exact AW
 have k:aS (.list (dS s0 past)) (.int (-1))=.ok (b9 (gX s0 past)):=by rw [AX];exact xa _ _
 have l:ir true (.list (dN past)) (.list (dN past))=.ok (.bool false):=by
  have:=EU (xs:=past.reverse.map (·.2)) (fun x c=>by
   obtain ⟨p,b,rfl⟩:=List.mem_map.mp c
   exact (ET g a p (List.mem_reverse.mp b)).1) true
  rw [el] at this
  exact this
 have h:kL [HX (dg fs es) (t4 s0 past gone)]=.ok (.int (UR es past)):=RA g a e
 exact H9 (k7 (eZ (Np rfl rfl rfl rfl i) (eZ rfl rfl k) (GW (fun x c=>g.rise.ok x (f.mem x c)) true))) (H9 (k7 (eZ (Np (d:=HX (dg fs es) (t4 s0 past gone)) (r:=.ok (.list (dN past))) rfl rfl rfl rfl rfl) rfl l)) (k7 (eZ (Np rfl rfl rfl rfl h) (US g a e) (by rw [nC];simp))))
theorem RC (f:Str) (L:List (List Str)) (a:List Str):ir false (r9 f L a) (r9 f L a)=.ok (.bool true):=by
 unfold r9
 split
 ·rw [nC];simp
 ·rfl
theorem q0g {S W:D}{z:MS} (g:fz fs es) (e:past.length<=50):zF q0e (Hd S fs es s0 W z) (dg fs es) (t4 s0 past gone)=.ok false (t4 s0 past gone):=by
 refine sZ (not_of (k:=true) (k7 (EV (lG (zN (ds:=fs.map .str) (Rw rfl) (by rw [aw];have:=g.rise.len;omega) (dL _ (fun f:Str=>aE f) (fun _=>cX true) fs fun f d=>fM rfl ?_)) rfl) ?_)))
 ·have h:=ES s0 past
  have c:=vB past
  have a:gL [HX (dg fs es) (t4 s0 past gone),.str f]=.ok (r9 f (EN s0 past++[gX s0 past]) (gX s0 past)):=by
   unfold t4 dS
   rw [EO]
   exact UO f (by omega) (by omega)
  have b:lP [.list (dS s0 past),.str f]=.ok (r9 f (EN s0 past++[gX s0 past]) (gX s0 past)):=by
   unfold dS
   rw [EO]
   exact Rv f (by omega)
  exact eZ (Np rfl rfl rfl rfl a) (lM rfl rfl b) (RC _ _ _)
 ·rw [Qf,kO _ (fun _=>true)]
  simp
end
theorem mgo {d k f i:Nat}{F:D->Mu->List D->RM D}{c e g2:aB->R D}{ρ:cR}{b j a g:D}{M:Mu}{r:RM D} (k3:ρ[d]?=some .dk) (n:ρ[k]?=some (.ml 3)) (k5:ρ[f]?=some (.ml 4)) (o:ρ[i]?=some (.ml 5)) (p:c (iS ρ)=.ok j) (l:e (iS ρ)=.ok a) (m:g2 (iS ρ)=.ok g) (h:F b M [j,a,g]=r):X_ d k f i F c e g2 ρ b M=r:=by
 unfold X_
 simp only [k3,n,k5,o,p,l,m]
 exact h
theorem q18 {i:Nat}{ρ:cR}{b:D}{M:Mu}{ds:List D} (c:ρ[i]?=some .dk) (a:M[1]?=some ds) (d:ds.length<1000):De i ρ b M=.nx ρ M:=by
 unfold De
 simp only [c,a]
 exact if_pos d
section
variable {fs s0:List Str}{es:List iy}{past gone:List PN}
theorem XM (g:fz fs es) (h:Sub fs s0) (i:nG fs es s0 past) (l:uX fs es (gX s0 past) gone) (m:past.length+gone.length<=20) (f:List Int) (W:D) (k:Nat) :
  ∃ a b,lpB (Hd (.list (f.map .int)) fs es s0 W (.dat (.int (k:Nat)))) (dg fs es) (t4 s0 past gone)=.nx (Hd (.list (f.map .int)) fs es s0 W (.dat (.int (k:Nat)))) (t4 s0 a b)/\nG fs es s0 a/\uX fs es (gX s0 a) b/\a.length+b.length<=past.length+gone.length+1:=by
 obtain ⟨M',j,⟨a,b,rfl,c,d,e⟩⟩:=q0c g h i l m f (300+5*(k:Int)) (by omega)
 refine ⟨a,b,?_,c,d,e⟩
 have n:=vB a
 unfold lpB
 exact mq (ic (M1:=t4 s0 a b) (q15 (k:=true) (UB (mgo rfl rfl rfl rfl rfl rfl rfl j))) rfl) (mq (ic (q0f g h c (by omega)) rfl) (mq (ic (q0g g (by omega)) rfl) (q18 rfl rfl (by omega))))
theorem L_ (g:fz fs es) (h:Sub fs s0) (c:List Int) (W:D):∀ (l:List Nat) (past gone:List PN) (z:MS),nG fs es s0 past->uX fs es (gX s0 past) gone->past.length+gone.length+l.length<=13 ->
  ∃ d M',J.JA 9 lpB (dg fs es) l (Hd (.list (c.map .int)) fs es s0 W z) (t4 s0 past gone)=.nx (Hd (.list (c.map .int)) fs es s0 W d) M'
 |[],past,gone,z,_,_,_=>⟨z,_,rfl⟩
 |k::r,past,gone,z,n,o,j=>by
  simp only [aX] at j
  obtain ⟨b,a,i,e,f,p⟩:=XM g h n o (by omega) c W k
  obtain ⟨d,M',m⟩:=L_ g h c W r b a (.dat (.int (k:Nat))) e f (by omega)
  refine ⟨d,M',?_⟩
  unfold J.JA
  rw [show (Hd (.list (c.map .int)) fs es s0 W z).set 9 (.dat (.int (k:Nat)))=Hd (.list (c.map .int)) fs es s0 W (.dat (.int (k:Nat))) from rfl,i]
  exact m
end
theorem desk_of {i f id j g h:Nat}{F:List D->R D}{e:GS}{a:aB}{b c x d:D}{M':Mu} (n:(dA a)[i]?=some (.shr b)) (l:(dA a)[f]?=some (.shr c)) (k:F [b,c]=.ok x) (m:e ((((((dA a).map Xm).set id .dk).set j (.ml 3)).set g (.ml 4)).set h (.ml 5)) b (mu0 c)=.rt d M'):Df i f id j g h F e a=.ok (.rt d):=by
 unfold Df
 simp only [n,l,k,m]
theorem q19 {i:Nat}{g:aB->R D}{G:GS}{ρ:cR}{b:D}{M:Mu}{n:Int}{r:RS} (h:g (iS ρ)=.ok (.int n)) (c:0<=n) (d:n<1000) (a:J.JA i G b (br n.toNat) ρ M=r):Dd i g G ρ b M=r:=by
 unfold Dd
 simp only [h]
 rw [if_pos ⟨by omega,by omega⟩]
 exact a
theorem law_true (a:List Int):F_law [.list (a.map .int)]=.ok (.bool true):=by
 obtain ⟨fs,b,f,d,c,l,gb,h,o⟩:=Ut a 6 6 (by decide) (by decide) (by decide) (by decide)
 have i:aU [.list (a.map .int),.int 0,.int 13]=.ok (.int (eB a 0 13)):=eP a 0 13 (by decide) (by decide)
 have k:=fh a 0 13 (by decide)
 have m1:=fN a 0 13 (by decide)
 obtain ⟨n,M',m⟩:=L_ gb h a (zi d c) (br (eB a 0 13).toNat) [] [] .no trivial trivial (by rw [dh];simp;omega)
 have j:=gb.len
 refine du (g:=GK) ?_
 rw [Nu]
 refine sq (ρ':=[.shr (.list (a.map .int)),.shr (dg fs b),.shr (b9 f),.shr (zi d c),.no,.no,.no,.no,.no,.no]) (Xz (lM rfl rfl l) rfl) (sq (ρ':=[.shr (.list (a.map .int)),.shr (dg fs b),.shr (b9 f),.shr (zi d c),.own (.dict (jS (R_ b))),.no,.no,.no,.no,.no]) (UP (UQ (zN (ds:=b.map cG) (Rw rfl) (by rw [aw];omega) (dL _ cG (fun e=>df [.str e.name,.int e.price]) b fun e he=>fM rfl rfl)) (Rk gb.nd j))) ?_)
 exact desk_of (M':=M') rfl rfl (w_ gb h) (mq (q19 (lM rfl rfl i) k (by omega) m) (B_ (oH rfl rfl)))
end Z
end
namespace Z
open PySem L2 J
def pf (i:Nat):c9:=PySem.Challenge.pw_errands_k32_whole_desk.main.body.getD i (.Pass ⟨0,0,0,0⟩)
section
variable {e:En}
abbrev t5:c9:=pf 51
def He:List Str:=["NoBook","NoState","NoWant","NoErrand","NoRow","NoWay","NoPaper","NoFacts","NoNumber","Nothing","NoText"]
theorem xc:bj ["_law_e","_law_own"] ["_law_e"] (ar t5):=dO (by decide +kernel)
theorem C0 {f:af}{fd:cr} (F:xz e.K "_law_which" "_law_which" t5 f fd) (B:Bi e.mg) (mv:e.mg "ValueError"=none) (g:∀ n∈He,e.mg n=some (.ref (e.cls n))):G4 e.P e.w e.K e.mg e.base 1 f fd ["_law_e"] (X3 e.K e.base e.cls He):=by
 refine F.okH xc (fun vs H Q E h=>?_) (fun a0 A outer s H vs Q E hr h=>?_)
 ·obtain ⟨_,_,_,rfl,_⟩:=h;rfl
 obtain ⟨a,C,j,rfl,G,x,q⟩:=h
 refine ⟨_,eu (qz (i:=1) xc.nd rfl (c8 rfl) (jv (bv (nr (names:=He) (cls:=e.cls) (base:=e.base) (pv 0) rfl B.isinstance rfl (g "NoBook" (by decide +kernel))) (bv (nr (names:=He) (cls:=e.cls) (base:=e.base) (pv 0) rfl B.isinstance rfl (g "NoState" (by decide +kernel))) (bv (nr (names:=He) (cls:=e.cls) (base:=e.base) (pv 0) rfl B.isinstance rfl (g "NoWant" (by decide +kernel))) (bv (nr (names:=He) (cls:=e.cls) (base:=e.base) (pv 0) rfl B.isinstance rfl (g "NoErrand" (by decide +kernel))) cQ))))))
  (eu (o9 (yA cj BF BG CB (pv 1) (bv (jv (bv (nr (names:=He) (cls:=e.cls) (base:=e.base) (pv 0) rfl B.isinstance rfl (g "NoRow" (by decide +kernel))) (bv (nr (names:=He) (cls:=e.cls) (base:=e.base) (pv 0) rfl B.isinstance rfl (g "NoWay" (by decide +kernel))) (bv (nr (names:=He) (cls:=e.cls) (base:=e.base) (pv 0) rfl B.isinstance rfl (g "NoPaper" (by decide +kernel))) (bv (nr (names:=He) (cls:=e.cls) (base:=e.base) (pv 0) rfl B.isinstance rfl (g "NoFacts" (by decide +kernel))) cQ))))) cQ)))
  (eu (o9 (yA cj BF BG CB (pv 1) (bv (jv (bv (nr (names:=He) (cls:=e.cls) (base:=e.base) (pv 0) rfl B.isinstance rfl (g "NoNumber" (by decide +kernel))) (bv (nr (names:=He) (cls:=e.cls) (base:=e.base) (pv 0) rfl B.isinstance rfl (g "Nothing" (by decide +kernel))) (bv (nr (names:=He) (cls:=e.cls) (base:=e.base) (pv 0) rfl B.isinstance rfl (g "NoText" (by decide +kernel))) cQ)))) cQ)))
  (eu (Oo (PW.pt (UY (DO Yf (yA cj Cm PySem.F.type_list_count MJ (pv 1) (bv Oh cQ)) Og (zZ _)) (Om (IG (IF (TC (names:=He) (cls:=e.cls) (base:=e.base) (pv 0) rfl B.isinstance rfl mv)))))) k_ DK)
  (tO (zX (IU (bv Oj (bv (yA cj Co PySem.F.type_list_index MK (pv 1) (bv Oh cQ)) cQ)))))))),?_⟩
 refine ⟨a,C,j,0,rfl,G,x,rfl,a,C,j,1,rfl,G,x,rfl,a,C,j,2,rfl,G,x,rfl,a,C,j,3,rfl,G,x,rfl,bt (bZ (show 4<=1000 by decide)),fun p X=>?_⟩
 have O:a≠p:=aK G X
 have c:∀ o,upd H p o a=some (Am a C):=fun o=>by rw [aC O];exact G
 refine ⟨_,rfl,.inl ⟨rfl,_,.of aI⟩,?_⟩
 refine ⟨a,C,j,4,rfl,c _,x,rfl,a,C,j,5,rfl,c _,x,rfl,a,C,j,6,rfl,c _,x,rfl,a,C,j,7,rfl,c _,x,rfl,bt (bZ (show 4<=1000 by decide)),fun I v=>?_⟩
 have T:p≠I:=aK aI v
 have U:a≠I:=aK (c _) v
 refine ⟨p,I,([decide (0=j),decide (1=j),decide (2=j),decide (3=j)].map V.bl),_,rfl,rfl,by rw [aC T];exact aI,aI,bt (bZ (show 8<=1000 by decide)),?_⟩
 have k:∀ o u,upd (upd (upd H p o) I u) p (.lst (([decide (0=j),decide (1=j),decide (2=j),decide (3=j)]++[decide (4=j),decide (5=j),decide (6=j),decide (7=j)]).map V.bl)) a=some (Am a C):=fun o u=>by rw [aC O,aC U];exact c _
 refine ⟨_,rfl,.inl ⟨rfl,_,.of aI⟩,?_⟩
 refine ⟨a,C,j,8,rfl,k _ _,x,rfl,a,C,j,9,rfl,k _ _,x,rfl,a,C,j,10,rfl,k _ _,x,rfl,bt (bZ (show 3<=1000 by decide)),fun N y=>?_⟩
 have Y:p≠N:=aK aI y
 have S:a≠N:=aK (k _ _) y
 refine ⟨p,N,(([decide (0=j),decide (1=j),decide (2=j),decide (3=j)]++[decide (4=j),decide (5=j),decide (6=j),decide (7=j)]).map V.bl),_,rfl,rfl,by rw [aC Y];exact aI,aI,bt (bZ (show 11<=1000 by decide)),?_⟩
 refine ⟨_,rfl,.inl ⟨rfl,_,.of aI⟩,p,bits j,rfl,rfl,.of aI,?_⟩
 rw [Jq j x.lt]
 refine ⟨rfl,_,rfl,Ac ⟨a,C,j,rfl,?_,x,_,rfl,Ac ?_⟩⟩
 ·rw [aC O,aC S];exact k _ _
 obtain ⟨b1,b2⟩:=Tz j x.lt
 refine ⟨_,rfl,.inl ⟨rfl,_,.of aI⟩,p,bits j,j,rfl,rfl,.of aI,b1,b2,bt (aL x.lt (by decide)),bt (bZ (show 2<=1000 by decide)),fun t ht=>?_⟩
 have M:cK H _:=jG (o:=.lst ([decide (0=j),decide (1=j),decide (2=j),decide (3=j)].map V.bl)) X
 have d:∀ b o,H b=some o->b≠p:=fun b o e=>aK e X
 have l:∀ b o,H b=some o->b≠I:=fun b o e=>aK (M b o e) v
 have m:∀ b o,H b=some o->b≠N:=fun b o e=>aK (by rw [aC (d b o e),aC (l b o e)];exact M b o e) y
 have L:∀ b o,H b=some o->b≠t:=fun b o e=>aK (by rw [aC (d b o e),aC (m b o e),aC (d b o e),aC (l b o e)];exact M b o e) ht
 refine q t _ (fun b o e=>?_) ?_ aI
 ·rw [aC (L b o e),aC (d b o e),aC (m b o e),aC (d b o e),aC (l b o e)];exact M b o e
 ·cases z:H t with
  |none=>rfl
  |some o=>exact (L t o z rfl).elim
abbrev mJ:c9:=pf 19
abbrev xg:List Str:=["one","other"]
theorem C1:bj xg ["one","other"] (ar mJ):=dO (by decide +kernel)
abbrev re (e:En):=FN e "share_none" 1 2 gI
theorem C2 (D:jn e.K e.mg "share_none" mJ) (B:Bi e.mg):re e:=w5 (k:=0) (g:=kH) D C1 b2 fun _ _ _ _ _ _ _ f=>by unfold kH;exact (aZ (bY (Pq (cc (Py rfl) rfl B.any zU (bE (JE.bor (JN.je (gj (N':=["fact","other"]) (ix:=[1]) 1 (by decide) rfl (ck (so:=ar mJ) (N:=xg) (by decide +kernel)) (fK (al 0)) (fun a j b c h d=>⟨cL (i:=0) (by show (["fact","other"] : List Str).Nodup;decide +kernel) rfl (.inl rfl),fL,(sG (CM) (al 0) (al 1))⟩)))) c6)))))
abbrev uw:c9:=pf 20
abbrev Ds:List Str:=["facts","others"]
theorem JZ:bj Ds ["facts","others"] (ar uw):=dO (by decide +kernel)
abbrev Dt (e:En):=FN e "without" 1 2 ue
theorem J_ (D:jn e.K e.mg "without" uw) (B:Bi e.mg):Dt e:=w5 (k:=0) (g:=ud) D JZ b2 fun _ _ _ _ _ _ _ f=>by unfold ud;exact (aZ (bY (fv (jJ rfl) rfl B.tuple bz (bE (JE.bor (JN.je (gj (N':=["fact","others"]) (ix:=[1]) 1 (by decide) rfl (ck (so:=ar uw) (N:=Ds) (by decide +kernel)) (fK (al 0)) (fun a j b c h d=>⟨cL (i:=0) (by show (["fact","others"] : List Str).Nodup;decide +kernel) rfl (.inl rfl),(qJ (cA (pR) (al 0) (al 1))),(ap 0)⟩)))) c6))))
abbrev AZ:c9:=pf 21
abbrev RE:List Str:=["one","other"]
theorem Nv:bj RE ["one","other"] (ar AZ):=dO (by decide +kernel)
abbrev Hf (e:En):=FN e "joined" 1 2 wY
theorem Nw (D:jn e.K e.mg "joined" AZ) (B:Bi e.mg):Hf e:=w5 (k:=0) (g:=wX) D Nv b2 fun _ _ _ _ _ _ _ a=>by unfold wX;exact (aZ (bY (fv (jJ rfl) rfl B.tuple bz (bE (JE.bor (vq rfl (Xb (Em rfl (al 0) rfl B.set) (Em rfl (al 1) rfl B.set)) rfl B.sorted)) c6))))
abbrev ux:c9:=pf 22
abbrev Du:List Str:=["thing"]
theorem K0:bj Du ["thing"] (ar ux):=dO (by decide +kernel)
abbrev yg (e:En):=FN e "is_word" 1 1 q0
theorem K1 (D:jn e.K e.mg "is_word" ux) (B:Bi e.mg) (a:Cn e.mg "MOST_LETTERS" 6):yg e:=w5 (k:=0) (g:=uf) D K0 b1 fun _ _ _ _ _ _ _ h=>by unfold uf;exact (aT (ik (JW.t (pQ (gz (hZ (qH (al 0) rfl B.isinstance rfl B.str pB (by decide)))) (mh (gz (PM (CL) (CL) (JE.bor az) (JE.bor (cc ja rfl B.len b_ (bE (al 0) c6))) (JE.bor (wJ rfl a))))))) (aZ (bY lN)) dZ) (aZ (bY (cc (qI rfl) rfl B.all cU (bE (JE.bor (JN.je (gj (N':=["sign"]) (ix:=[]) 1 (by decide) rfl (ck (so:=ar ux) (N:=Du) (by decide +kernel)) (fK (al 0)) (fun b l c d j f=>⟨cL (i:=0) (by show (["sign"] : List Str).Nodup;decide +kernel) rfl (.inl rfl),fL,(Gn (CL) (CL) (JE.bor mf) (al 0) (JE.bor mf))⟩)))) c6)))))
abbrev g9:c9:=pf 23
abbrev jT:List Str:=["thing"]
theorem uL:bj jT ["thing"] (ar g9):=dO (by decide +kernel)
abbrev jU (e:En):=FN e "are_rising_words" 2 1 f_
theorem uM (D:jn e.K e.mg "are_rising_words" g9) (B:Bi e.mg) (a:yg e):jU e:=w5 (k:=1) (g:=iu) D uL b1 fun _ _ _ _ _ _ _ h=>by unfold iu;exact (aT (ik (JW.t (pQ (gz (hZ (qH (al 0) rfl B.isinstance rfl B.tuple bz (by decide)))) (mh (gz (hZ (cc (qI rfl) rfl B.all cU (bE (JE.bor (JN.je (gj (N':=["word"]) (ix:=[]) 1 (by decide) rfl (ck (so:=ar g9) (N:=jT) (by decide +kernel)) (fK (al 0)) (fun b l c d j f=>⟨cL (i:=0) (by show (["word"] : List Str).Nodup;decide +kernel) rfl (.inl rfl),fL,(jc a h fm (aj (ap 0) aO))⟩)))) c6))))))) (aZ (bY lN)) dZ) (aZ (bY (cc (qI rfl) rfl B.all cU (bE (JE.bor (JN.je (gj (N':=["low","high"]) (ix:=[]) 2 (by decide) rfl (ck (so:=ar g9) (N:=jT) (by decide +kernel)) (NV.i (Tt rfl B.zip (aj (ap 0) (aj (sJ (al 0) (tX az) zC) aO)))) (fun b l c d j f=>⟨DL rfl (m_ (cL (i:=0) (by show (["low","high"] : List Str).Nodup;decide +kernel) rfl (.inl rfl)) (m_ (cL (i:=1) (by show (["low","high"] : List Str).Nodup;decide +kernel) rfl (.inl rfl)) zx)),fL,(sG (CK) (al 0) (al 1))⟩)))) c6)))))
abbrev oM:c9:=pf 24
abbrev yI:List Str:=["book_facts","thing"]
theorem EW:bj yI ["book_facts","thing"] (ar oM):=dO (by decide +kernel)
abbrev t6 (e:En):=FN e "are_facts" 3 2 j_
theorem EX (D:jn e.K e.mg "are_facts" oM) (B:Bi e.mg) (b:jU e):t6 e:=w5 (k:=2) (g:=oo) D EW b2 fun _ _ _ _ _ _ _ a=>by unfold oo;exact (aZ (bY (Ec (jc b a px (aj (ap 1) aO)) (Eb (cc (qI rfl) rfl B.all cU (bE (JE.bor (JN.je (gj (N':=["fact","book_facts"]) (ix:=[0]) 1 (by decide) rfl (ck (so:=ar oM) (N:=yI) (by decide +kernel)) (fK (al 1)) (fun c l d f j h=>⟨cL (i:=0) (by show (["fact","book_facts"] : List Str).Nodup;decide +kernel) rfl (.inl rfl),fL,(sG (CM) (al 0) (al 1))⟩)))) c6))))))
abbrev vC:c9:=pf 25
abbrev K2:List Str:=["thing","least","most"]
theorem Hg:bj K2 ["thing","least","most"] (ar vC):=dO (by decide +kernel)
abbrev A_ (e:En):=FN e "is_whole" 1 3 qP
theorem Hh (D:jn e.K e.mg "is_whole" vC) (B:Bi e.mg):A_ e:=w5 (k:=0) (g:=qO) D Hg b3 fun _ _ _ _ _ _ _ a=>by unfold qO;exact (aT (ik (JW.t (pQ (gz (hZ (qH (al 0) rfl B.isinstance rfl B.int PyProof.Rows.boot_int (by decide)))) (mh (hZ (qH (al 0) rfl B.isinstance rfl B.bool PyProof.Rows.boot_bool (by decide)))))) (aZ (bY lN)) dZ) (aZ (bY (Gn (CL) (CL) (al 1) (al 0) (al 2)))))
abbrev oN:c9:=pf 26
abbrev yJ:List Str:=["book_facts","thing","name","needs","bars","makes","ends","price"]
theorem iz:bj yJ ["book_facts","thing"] (ar oN):=dO (by decide +kernel)
abbrev yK (e:En):=FN e "is_errand" 4 2 ou
theorem EY (D:jn e.K e.mg "is_errand" oN) (B:Bi e.mg) (d:yg e) (j:A_ e) (f:t6 e) (c:re e) (h:Cn e.mg "MOST_PRICE" 9):yK e:=w5 (k:=3) (g:=oq) D iz b2 fun _ _ _ _ _ _ _ a=>by have b:=a.units;unfold oq;exact (aT (ik (JW.t (pQ (gz (hZ (qH (al 1) rfl B.isinstance rfl B.tuple bz (by decide)))) (mh (cA (yD b) (JE.bor (cc ja rfl B.len b_ (bE (al 1) c6))) (JE.bor az))))) (aZ (bY lN)) dZ) (aT (Ei (ap 1) (y7 rfl (fk (eV 2 iz.nd) (fk (eV 3 iz.nd) (fk (eV 4 iz.nd) (fk (eV 5 iz.nd) (fk (eV 6 iz.nd) (fk (eV 7 iz.nd) tZ)))))))) (aT (ik (JW.t (pQ (gz (hZ (jc d a px (aj (ap 2) aO)))) (mh (gz (hZ (jc j a px (aj (ap 7) (aj az (aj (wJ rfl h) aO))))))))) (aZ (bY lN)) dZ) (aT (ik (gz (hZ (cc (qI rfl) rfl B.all cU (bE (JE.bor (JN.je (gj (N':=["facts","book_facts"]) (ix:=[0]) 1 (by decide) rfl (ck (so:=ar oN) (N:=yJ) (by decide +kernel)) (fK (JE.bor (mi (aj (ap 3) (aj (ap 4) (aj (ap 5) (aj (ap 6) aO))))))) (fun m l n o q p=>⟨cL (i:=0) (by show (["facts","book_facts"] : List Str).Nodup;decide +kernel) rfl (.inl rfl),fL,(jc f a fm (aj (ap 1) (aj (ap 0) aO)))⟩)))) c6)))) (aZ (bY lN)) dZ) (aZ (bY (Ec (jc c a px (aj (ap 3) (aj (ap 4) aO))) (Eb (jc c a px (aj (ap 5) (aj (ap 6) aO)))))))))))
abbrev qg:c9:=pf 27
abbrev yh:List Str:=["thing","facts","errands"]
theorem vE:bj yh ["thing"] (ar qg):=dO (by decide +kernel)
abbrev Dv (e:En):=FN e "is_book" 5 1 uh
theorem K3 (D:jn e.K e.mg "is_book" qg) (B:Bi e.mg) (n:jU e) (m:yK e) (d:Cn e.mg "MOST_FACTS" 6) (l:Cn e.mg "MOST_ERRANDS" 6):Dv e:=w5 (k:=4) (g:=ug) D vE b1 fun _ _ _ _ _ _ _ b=>by have c:=jY b;have a:=b.units;unfold ug;exact (aT (ik (JW.t (pQ (gz (hZ (qH (al 0) rfl B.isinstance rfl B.tuple bz (by decide)))) (mh (cA (yD a) (JE.bor (cc ja rfl B.len b_ (bE (al 0) c6))) (JE.bor az))))) (aZ (bY lN)) dZ) (aT (Ei (ap 0) (y7 rfl (fk (eV 1 vE.nd) (fk (eV 2 vE.nd) tZ)))) (aT (ik (JW.t (pQ (gz (hZ (jc n b px (aj (ap 1) aO)))) (mh (cA (KP) (JE.bor (cc ja rfl B.len b_ (bE (al 1) c6))) (JE.bor (wJ rfl d)))))) (aZ (bY lN)) dZ) (aT (ik (JW.t (pQ (gz (hZ (qH (al 2) rfl B.isinstance rfl B.tuple bz (by decide)))) (mh (cA (KP) (JE.bor (cc ja rfl B.len b_ (bE (al 2) c6))) (JE.bor (wJ rfl l)))))) (aZ (bY lN)) dZ) (aT (ik (gz (hZ (cc (qI rfl) rfl B.all cU (bE (JE.bor (JN.je (gj (N':=["errand","facts"]) (ix:=[1]) 1 (by decide) rfl (ck (so:=ar qg) (N:=yh) (by decide +kernel)) (fK (al 2)) (fun f q h j o p=>⟨cL (i:=0) (by show (["errand","facts"] : List Str).Nodup;decide +kernel) rfl (.inl rfl),fL,(jc m b fm (aj (ap 1) (aj (ap 0) aO)))⟩)))) c6)))) (aZ (bY lN)) dZ) (aZ (bY (sG (jI a) (JE.bor (MU (PP (N':=["errand"]) (ix:=[]) 1 (by decide) rfl (ck (so:=ar qg) (N:=yh) (by decide +kernel)) (fK (al 2)) (fun f q h j o p=>⟨cL (i:=0) (by show (["errand"] : List Str).Nodup;decide +kernel) rfl (.inl rfl),fL,(bT c (al 0) (JE.bor az))⟩)) rfl B.len)) (JE.bor (cc ja rfl B.len b_ (bE (al 2) c6)))))))))))
abbrev ph:c9:=pf 28
abbrev C3:List Str:=["book","state"]
theorem B0:bj C3 ["book","state"] (ar ph):=dO (by decide +kernel)
abbrev uY (e:En):=FN e "check_state" 4 2 lB
theorem B4 (D:jn e.K e.mg "check_state" ph) (d:t6 e) (c:ER e "NoState"):uY e:=w5 (k:=3) (g:=lA) D B0 b2 fun _ _ _ _ _ _ _ b=>by have a:=jY b;unfold lA;exact (aZ (ik (gz (hZ (jc d b px (aj (bT a (al 0) (JE.bor az)) (aj (ap 1) aO))))) (aZ (sR c rfl (aj mf aO))) dZ))
abbrev mr:c9:=pf 29
abbrev zj:List Str:=["book","name","errand"]
theorem qh:bj zj ["book","name"] (ar mr):=dO (by decide +kernel)
abbrev mx (e:En):=FN e "errand_called" 1 2 eR
theorem yj (D:jn e.K e.mg "errand_called" mr) (B:Bi e.mg):mx e:=w5 (k:=0) (g:=iE) D qh b2 fun _ _ _ _ _ _ _ c=>by have b:=jY c;have a:=c.units;unfold iE;exact (aT (ik (gz (hZ (qH (al 1) rfl B.isinstance rfl B.str pB (by decide)))) (aZ (bY sF)) dZ) (aT (vn rfl (Tq (bT b (al 0) (JE.bor az))) (eV 2 qh.nd) (aZ (ik (cA (jI a) (JE.bor (bT b (al 2) (JE.bor az))) (al 1)) (aZ (bY (ap 2))) dZ))) (aZ (bY sF))))
abbrev uy:c9:=pf 30
abbrev Dw:List Str:=["state","want","must","bars"]
theorem vF:bj Dw ["state","want"] (ar uy):=dO (by decide +kernel)
abbrev Dx (e:En):=FN e "fulfils" 2 2 uj
theorem K4 (D:jn e.K e.mg "fulfils" uy) (B:Bi e.mg) (a:re e):Dx e:=w5 (k:=1) (g:=ui) D vF b2 fun _ _ _ _ _ _ _ b=>by unfold ui;exact (aT (Ei (ap 1) (y7 rfl (fk (eV 2 vF.nd) (fk (eV 3 vF.nd) tZ)))) (aZ (bY (Ec (cc (qI rfl) rfl B.all cU (bE (JE.bor (JN.je (gj (N':=["fact","state"]) (ix:=[0]) 1 (by decide) rfl (ck (so:=ar uy) (N:=Dw) (by decide +kernel)) (fK (al 2)) (fun c l d f j h=>⟨cL (i:=0) (by show (["fact","state"] : List Str).Nodup;decide +kernel) rfl (.inl rfl),fL,(sG (CM) (al 0) (al 1))⟩)))) c6)) (Eb (jc a b px (aj (ap 3) (aj (ap 0) aO))))))))
abbrev tj:c9:=pf 31
abbrev Hi:List Str:=["errand","state"]
theorem EZ:bj Hi ["errand","state"] (ar tj):=dO (by decide +kernel)
abbrev yL (e:En):=FN e "is_doable" 3 2 oz
theorem E_ (D:jn e.K e.mg "is_doable" tj) (c:Dx e):yL e:=w5 (k:=2) (g:=oy) D EZ b2 fun _ _ _ _ _ _ _ b=>by have a:=jY b;unfold oy;exact (aZ (bY (jc c b px (aj (ap 1) (aj (mi (aj (bT a (al 0) (JE.bor az)) (aj (bT a (al 0) (JE.bor az)) aO))) aO)))))
abbrev nK:c9:=pf 32
abbrev B5:List Str:=["errand","state","makes","ends"]
theorem rO:bj B5 ["errand","state"] (ar nK):=dO (by decide +kernel)
abbrev tm (e:En):=FN e "state_behind" 2 2 kK
theorem zk (D:jn e.K e.mg "state_behind" nK) (c:Dt e) (d:Hf e):tm e:=w5 (k:=1) (g:=kJ) D rO b2 fun _ _ _ _ _ _ _ b=>by have a:=jY b;unfold kJ;exact (aT (Xc 2 3 rfl rO.nd (aj (bT a (al 0) (JE.bor az)) (aj (bT a (al 0) (JE.bor az)) aO))) (aZ (bY (jc d b px (aj (jc c b px (aj (ap 1) (aj (ap 3) aO))) (aj (ap 2) aO))))))
abbrev yn:c9:=pf 33
abbrev Nx:List Str:=["book"]
theorem K5:bj Nx ["book"] (ar yn):=dO (by decide +kernel)
abbrev Dy (e:En):=FN e "checked" 6 1 ul
theorem K6 (D:jn e.K e.mg "checked" yn) (a:Dv e) (b:ER e "NoBook"):Dy e:=w5 (k:=5) (g:=uk) D K5 b1 fun _ _ _ _ _ _ _ c=>by unfold uk;exact (aT (ik (gz (hZ (jc a c px (aj (ap 0) aO)))) (aZ (sR b rfl (aj mf aO))) dZ) (aZ (bY (ap 0))))
abbrev pi:c9:=pf 34
abbrev C4:List Str:=["book","state"]
theorem B8:bj C4 ["book","state"] (ar pi):=dO (by decide +kernel)
abbrev pj (e:En):=FN e "check_place" 7 2 fQ
theorem B9 (D:jn e.K e.mg "check_place" pi) (c:Dy e) (b:uY e):pj e:=w5 (k:=6) (g:=lC) D B8 b2 fun _ _ _ _ _ _ _ a=>by unfold lC;exact (aT (Eh (jc c a px (aj (ap 0) aO))) (aZ (Eh (jc b a px (aj (ap 0) (aj (ap 1) aO))))))
abbrev K7:c9:=pf 35
abbrev XN:List Str:=["book","state","name","errand"]
theorem M0:bj XN ["book","state","name"] (ar K7):=dO (by decide +kernel)
abbrev RF (e:En):=FN e "done" 8 3 gU
theorem UT (D:jn e.K e.mg "done" K7) (b:pj e) (f:mx e) (h:yL e) (d:tm e) (c:ER e "NoErrand"):RF e:=w5 (k:=7) (g:=yc) D M0 b3 fun _ _ _ _ _ _ _ a=>by unfold yc;exact (aT (Eh (jc b a px (aj (ap 0) (aj (ap 1) aO)))) (aT (i0 3 (jc f a px (aj (ap 0) (aj (ap 2) aO))) M0.nd) (aT (ik (JW.t (pQ (cA (YN) (al 3) (JE.bor sF)) (mh (gz (hZ (jc h a px (aj (ap 3) (aj (ap 1) aO)))))))) (aZ (sR c rfl (aj mf aO))) dZ) (aZ (bY (jc d a px (aj (ap 3) (aj (ap 1) aO))))))))
abbrev rh:c9:=mD (pf 37) 1
abbrev F5:List Str:=["self"]
theorem C5:bj F5 ["self"] (ar rh):=dO (by decide +kernel)
abbrev mK (e:En) (C:af):=FM e C "state" 1 1 eO
theorem C6 {C:af} (D:DM e.K C "state" "Desk.state" rh) (b:DkC e.K C):mK e C:=fnm (k:=0) (g:=mG) D C5 m1 fun _ _ _ _ _ _ _ c=>by have a:=jY c;unfold mG;exact (aZ (bY (bT a (JE.bor (qL 1 b (ap 0))) (JE.bor (vo az)))))
abbrev rj:c9:=mD (pf 37) 2
abbrev K8:List Str:=["self"]
theorem yM:bj K8 ["self"] (ar rj):=dO (by decide +kernel)
abbrev Ba (e:En) (C:af):=FM e C "row" 1 1 vz
theorem Hj {C:af} (D:DM e.K C "row" "Desk.row" rj) (B:Bi e.mg) (a:DkC e.K C):Ba e C:=fnm (k:=0) (g:=vy) D yM m1 fun _ _ _ _ _ _ _ b=>by unfold vy;exact (aZ (bY (fv (wO rfl) rfl B.list hU (bE (JE.bor (qL 2 a (ap 0))) c6))))
abbrev mL:c9:=mD (pf 37) 3
abbrev xh:List Str:=["self"]
theorem C7:bj xh ["self"] (ar mL):=dO (by decide +kernel)
abbrev xi (e:En) (C:af):=FM e C "spent" 2 1 kL
theorem C8 {C:af} (D:DM e.K C "spent" "Desk.spent" mL) (B:Bi e.mg) (b:DkC e.K C) (d:mx e):xi e C:=fnm (k:=1) (g:=mH) D C7 m1 fun _ _ _ _ _ _ _ c=>by have a:=jY c;unfold mH;exact (aZ (bY (cc (QF rfl) rfl B.sum zV (bE (JE.bor (JN.je (gj (N':=["name","self"]) (ix:=[0]) 1 (by decide) rfl (ck (so:=ar mL) (N:=xh) (by decide +kernel)) (fK (JE.bor (qL 2 b (ap 0)))) (fun f n h j m l=>⟨cL (i:=0) (by show (["name","self"] : List Str).Nodup;decide +kernel) rfl (.inl rfl),fL,(bT a (JE.bor (jc d c fm (aj (qL 0 b (ap 1)) (aj (ap 0) aO)))) (JE.bor az))⟩)))) c6))))
abbrev lj:c9:=mD (pf 37) 4
abbrev qi:List Str:=["self","name"]
theorem xj:bj qi ["self","name"] (ar lj):=dO (by decide +kernel)
theorem xk {C:af} (D:DM e.K C "carry_out" "Desk.carry_out" lj) (b:DkC e.K C) (a:mK e C) (d:RF e):FS e C "carry_out" 9 1 eX:=fns (k:=8) (n:=1) (N:=qi) (ps:=["self","name"]) (G:=gJ) D xj m2 rfl fun _ _ _ _ _ _ _ c=>by unfold gJ;exact (cq (i8 (om (qN 0 0 b) (gH (jc d c px (aj (qL 0 b (ap 0)) (aj (sU b a c px (ap 0)) (aj (ap 1) aO))))))) (da (i8 (om (qN 0 1 b) (gH (ap 1))))))
abbrev yq:c9:=mD (pf 37) 5
abbrev Dz:List Str:=["self","name"]
theorem Ka:bj Dz ["self","name"] (ar yq):=dO (by decide +kernel)
theorem Kb {C:af} (D:DM e.K C "do" "Desk.do" yq) (b:DkC e.K C) (a:FS e C "carry_out" 9 1 eX):FS e C "do" 10 1 q9:=fns (k:=9) (n:=1) (N:=Dz) (ps:=["self","name"]) (G:=nu) D Ka m2 rfl fun _ _ _ _ _ _ _ c=>by unfold nu;exact (cq (i8 (Jw 0 b a c px (gH (ap 1)))) (da (i8 (Lu (qN 0 2 b)))))
abbrev ll:c9:=mD (pf 37) 6
abbrev qj:List Str:=["self"]
theorem xm:bj qj ["self"] (ar ll):=dO (by decide +kernel)
theorem xn {C:af} (D:DM e.K C "take_back" "Desk.take_back" ll) (a:DkC e.K C) (b:ER e "Nothing"):FS e C "take_back" 1 0 i9:=fns (k:=0) (n:=0) (N:=qj) (ps:=["self"]) (G:=gK) D xm m1 rfl fun _ _ _ _ _ _ _ c=>by unfold gK;exact (cq (lf (jb (gz (QD (JE.bor (qL 2 a (ap 0)))))) (da (Lx (sR b rfl (aj mf aO)))) jd) (cq (i8 (uc (qN 0 0 a))) (da (i8 (om (qN 0 2 a) (uc (qN 0 1 a)))))))
abbrev rl:c9:=mD (pf 37) 7
abbrev xo:List Str:=["self"]
theorem C9:bj xo ["self"] (ar rl):=dO (by decide +kernel)
theorem Ca {C:af} (D:DM e.K C "again" "Desk.again" rl) (b:DkC e.K C) (a:FS e C "carry_out" 9 1 eX) (d:ER e "Nothing"):FS e C "again" 10 0 kM:=fns (k:=9) (n:=0) (N:=xo) (ps:=["self"]) (G:=jK) D C9 m1 rfl fun _ _ _ _ _ _ _ c=>by unfold jK;exact (cq (lf (jb (gz (QD (JE.bor (qL 3 b (ap 0)))))) (da (Lx (sR d rfl (aj mf aO)))) jd) (da (i8 (Jw 0 b a c px (uc (qN 0 2 b))))))
abbrev kP:c9:=mD (pf 37) 10
abbrev xq:List Str:=["self","fact","since"]
theorem jV:bj xq ["self","fact"] (ar kP):=dO (by decide +kernel)
abbrev oO (e:En) (C:af):=FM e C "held_since" 2 2 gL
theorem vH {C:af} (D:DM e.K C "held_since" "Desk.held_since" kP) (B:Bi e.mg) (b:DkC e.K C) (a:mK e C):oO e C:=fnm (k:=1) (g:=iT) D jV m2 fun _ _ _ _ _ _ _ d=>by have c:=jY d;unfold iT;exact (aT (ik (JW.t (pQ (gz (hZ (qH (al 1) rfl B.isinstance rfl B.str pB (by decide)))) (mh (cA (pR) (al 1) (JE.bor (sU b a d px (ap 0))))))) (aZ (bY sF)) dZ) (aT (i0 2 (cc ja rfl B.len b_ (bE (JE.bor (qL 2 b (ap 0))) c6)) jV.nd) (aT (PK 100000 (JW.t (sH (cA (KP) (al 2) (JE.bor az)) (og (cA (CM) (al 1) (JE.bor (bT c (JE.bor (qL 1 b (ap 0))) (JE.bor (bP Jg (al 2) (JE.bor az))))))))) (aZ (Ud 2 az jV.nd))) (aZ (bY (ap 2))))))
abbrev pq:c9:=pf 39
abbrev Cb:List Str:=["_law_script","_law_k"]
theorem Bb:bj Cb ["_law_script","_law_k"] (ar pq):=dO (by decide +kernel)
abbrev uZ (e:En):=FN e "_law_cell_at" 1 2 lF
theorem Bc (D:jn e.K e.mg "_law_cell_at" pq) (B:Bi e.mg):uZ e:=w5 (k:=0) (g:=lE) D Bb b2 fun _ _ _ _ _ _ _ c=>by have b:=jY c;have a:=c.units;unfold lE;exact (aT (ik (cA (CK) (al 1) (JE.bor (cc ja rfl B.len b_ (bE (al 0) c6)))) (aZ (bY (bT b (al 0) (al 1)))) dZ) (aT (ik (cA (jI a) (al 0) (JE.bor (jR aO))) (aZ (bY az)) dZ) (aZ (bY (bP cO (JE.bor (bP qG (JE.bor (bT b (al 0) (JE.bor (bP Ee (al 1) (JE.bor (cc ja rfl B.len b_ (bE (al 0) c6))))))) (JE.bor az))) (al 1))))))
abbrev tu:c9:=pf 40
abbrev Hk:List Str:=["_law_script","_law_k","_law_many","_law_drawn"]
theorem xr:bj Hk ["_law_script","_law_k","_law_many"] (ar tu):=dO (by decide +kernel)
abbrev fo (e:En):=FN e "_law_mixed" 2 3 aU
theorem F6 (D:jn e.K e.mg "_law_mixed" tu) (a:uZ e):fo e:=w5 (k:=1) (g:=oA) D xr b3 fun _ _ _ _ _ _ _ b=>by unfold oA;exact (aT (i0 3 (bP Ee (JE.bor (bP qG (JE.bor (bP cO (JE.bor (bP cO (JE.bor (jc a b px (aj (ap 0) (aj (ap 1) aO)))) (JE.bor (bP qG (JE.bor az) (al 1))))) (JE.bor az))) (JE.bor az))) (JE.bor az)) xr.nd) (aZ (bY (bP Ee (JE.bor (bP Ee (JE.bor (bP cO (JE.bor (bP cO (JE.bor (bP qG (al 3) (al 3))) (JE.bor (bP qG (JE.bor az) (al 3))))) (al 1))) (JE.bor az))) (al 2)))))
abbrev vI:c9:=pf 41
abbrev Kc:List Str:=["_law_script","_law_at","_law_made","_law_k"]
theorem oP:bj Kc ["_law_script","_law_at"] (ar vI):=dO (by decide +kernel)
abbrev vJ (e:En):=FN e "_law_word" 3 2 li
theorem Hl (D:jn e.K e.mg "_law_word" vI) (B:Bi e.mg) (c:fo e):vJ e:=w5 (k:=2) (g:=qQ) D oP b2 fun _ _ _ _ _ _ _ b=>by have a:=jY b;unfold qQ;exact (aT (i0 2 mf oP.nd) (aT (vn rfl (vk rfl B.range (bE (JE.bor (bT a (JE.bor (jR (aj az (aj az (aj az (aj az (aj az (aj az aO)))))))) (JE.bor (jc c b fm (aj (ap 0) (aj (ap 1) (aj az aO))))))) c6)) (eV 3 oP.nd) (aZ (i0 2 (bP cO (al 2) (JE.bor (bT a (JE.bor mf) (JE.bor (jc c b fm (aj (ap 0) (aj (bP cO (JE.bor (bP cO (al 1) (JE.bor az))) (al 3)) (aj az aO)))))))) oP.nd))) (aZ (bY (ap 2)))))
abbrev tw:c9:=pf 42
abbrev Hm:List Str:=["_law_script","_law_at","_law_most","_law_found","_law_k"]
theorem rm:bj Hm ["_law_script","_law_at","_law_most"] (ar tw):=dO (by decide +kernel)
abbrev yN (e:En):=FN e "_law_facts" 4 3 oC
theorem F7 (D:jn e.K e.mg "_law_facts" tw) (B:Bi e.mg) (d:vJ e) (c:fo e):yN e:=w5 (k:=3) (g:=oB) D rm b3 fun _ _ _ _ _ _ _ b=>by have a:=jY b;unfold oB;exact (aT (wM 3 K_ rm.nd) (aT (vn rfl (vk rfl B.range (bE (JE.bor (jc c b fm (aj (ap 0) (aj (ap 1) (aj (bP cO (al 2) (JE.bor az)) aO))))) c6)) (eV 4 rm.nd) (aZ (L6 3 lN (jc d b fm (aj (ap 0) (aj (bP cO (JE.bor (bP cO (al 1) (JE.bor az))) (JE.bor (bP qG (JE.bor az) (al 4)))) aO))) a))) (aZ (bY (fv (jJ rfl) rfl B.tuple bz (bE (JE.bor (cc MP rfl B.sorted yv (bE (JE.bor (fv (wO rfl) rfl B.list hU (bE (al 3) c6))) c6))) c6))))))
abbrev rn:c9:=pf 43
abbrev Be:List Str:=["_law_script","_law_at","_law_facts_here","_law_part"]
theorem Ho:bj Be ["_law_script","_law_at","_law_facts_here","_law_part"] (ar rn):=dO (by decide +kernel)
abbrev Bf (e:En):=FN e "_law_some" 3 4 qS
theorem Hq (D:jn e.K e.mg "_law_some" rn) (B:Bi e.mg) (a:fo e):Bf e:=w5 (k:=2) (g:=qR) D Ho b4 fun _ _ _ _ _ _ _ b=>by unfold qR;exact (aZ (bY (fv (jJ rfl) rfl B.tuple bz (bE (JE.bor (JN.je (gj (N':=["_law_k","_law_fact","_law_script","_law_at","_law_part"]) (ix:=[0,1,3]) 2 (by decide) rfl (ck (so:=ar rn) (N:=Be) (by decide +kernel)) (NV.i (Aw rfl B.enumerate (aj (ap 2) aO))) (fun c l d f j h=>⟨DL rfl (m_ (cL (i:=0) (by show (["_law_k","_law_fact","_law_script","_law_at","_law_part"] : List Str).Nodup;decide +kernel) rfl (.inl rfl)) (m_ (cL (i:=1) (by show (["_law_k","_law_fact","_law_script","_law_at","_law_part"] : List Str).Nodup;decide +kernel) rfl (.inl rfl)) zx)),(qJ (cA (CK) (JE.bor (jc a b fm (aj (ap 2) (aj (bP cO (al 3) (al 0)) (aj az aO))))) (al 4))),(ap 1)⟩)))) c6))))
abbrev lr:c9:=pf 44
abbrev ro:List Str:=["_law_script","_law_at","_law_facts_here","_law_name","_law_one","_law_two","_law_goal","_law_needs","_law_bars","_law_ends","_law_parts"]
theorem io:bj ro ["_law_script","_law_at","_law_facts_here","_law_name"] (ar lr):=dO (by decide +kernel)
abbrev Bg (e:En):=FN e "_law_thin" 3 4 qU
theorem Hr (D:jn e.K e.mg "_law_thin" lr) (B:Bi e.mg) (d:fo e):Bg e:=w5 (k:=2) (g:=qT) D io b4 fun _ _ _ _ _ _ _ c=>by have a:=jY c;have b:=c.units;unfold qT;exact (aT (i0 4 (bT a (al 2) (JE.bor (jc d c px (aj (ap 0) (aj (bP cO (al 1) (JE.bor az)) (aj (cc ja rfl B.len b_ (bE (al 2) c6)) aO)))))) io.nd) (aT (i0 5 (bT a (al 2) (JE.bor (jc d c px (aj (ap 0) (aj (bP cO (al 1) (JE.bor az)) (aj (cc ja rfl B.len b_ (bE (al 2) c6)) aO)))))) io.nd) (aT (i0 6 (bT a (al 2) (JE.bor (jc d c px (aj (ap 0) (aj (bP cO (al 1) (JE.bor az)) (aj (cc ja rfl B.len b_ (bE (al 2) c6)) aO)))))) io.nd) (aT (i0 7 (sJ (JE.bor (jR (aj (ap 4) (aj (ap 5) aO)))) zC (tX (bP cO (JE.bor az) (JE.bor (bP Tj (JE.bor (jc d c px (aj (ap 0) (aj (bP cO (al 1) (JE.bor az)) (aj az aO))))) (JE.bor az)))))) io.nd) (aT (nj 8 (N':=["_law_fact","_law_needs","_law_script","_law_at"]) (ix:=[7,0,1]) 1 (by decide) io.nd rfl (ck (so:=ar lr) (N:=ro) (by decide +kernel)) (fK (JE.bor (jR (aj (ap 6) aO)))) (fun f n h j m l=>⟨cL (i:=0) (by show (["_law_fact","_law_needs","_law_script","_law_at"] : List Str).Nodup;decide +kernel) rfl (.inl rfl),(qJ (JW.t (sH (cA (pR) (al 0) (al 1)) (og (cA (jI b) (JE.bor (jc d c fm (aj (ap 2) (aj (bP cO (al 3) (JE.bor az)) (aj az aO))))) (JE.bor az)))))),(ap 0)⟩)) (aT (nj 9 (N':=["_law_fact","_law_goal","_law_script","_law_at"]) (ix:=[6,0,1]) 1 (by decide) io.nd rfl (ck (so:=ar lr) (N:=ro) (by decide +kernel)) (fK (JE.bor (jR (aj (ap 4) aO)))) (fun f n h j m l=>⟨cL (i:=0) (by show (["_law_fact","_law_goal","_law_script","_law_at"] : List Str).Nodup;decide +kernel) rfl (.inl rfl),(qJ (JW.t (sH (cA (yD b) (al 0) (al 1)) (og (cA (jI b) (JE.bor (jc d c fm (aj (ap 2) (aj (bP cO (al 3) (JE.bor az)) (aj az aO))))) (JE.bor az)))))),(ap 0)⟩)) (aT (PU 8 (PU 9 (nj 10 (N':=["_law_part"]) (ix:=[]) 1 (by decide) io.nd rfl (ck (so:=ar lr) (N:=ro) (by decide +kernel)) (fK (JE.bor (mi (aj (ap 7) (aj (ap 8) (aj (jR (aj (ap 6) aO)) (aj (ap 9) aO))))))) (fun f n h j m l=>⟨cL (i:=0) (by show (["_law_part"] : List Str).Nodup;decide +kernel) rfl (.inl rfl),fL,(fv (jJ rfl) rfl B.tuple bz (bE (JE.bor (vq rfl (Em rfl (al 0) rfl B.set) rfl B.sorted)) c6))⟩)))) (aZ (bY (mi (aj (ap 3) (aj (bT a (al 10) (JE.bor az)) (aj (bT a (al 10) (JE.bor az)) (aj (bT a (al 10) (JE.bor az)) (aj (bT a (al 10) (JE.bor az)) (aj (jc d c px (aj (ap 0) (aj (ap 1) (aj az aO)))) aO))))))))))))))))
abbrev mM:c9:=pf 45
abbrev xt:List Str:=["_law_script","_law_at","_law_facts_here","_law_name","_law_parts","_law_k","_law_fact","_law_way","_law_some_here"]
theorem gY:bj xt ["_law_script","_law_at","_law_facts_here","_law_name"] (ar mM):=dO (by decide +kernel)
abbrev xu (e:En):=FN e "_law_errand" 4 4 jp
theorem Cc (D:jn e.K e.mg "_law_errand" mM) (B:Bi e.mg) (d:fo e) (f:Bg e):xu e:=w5 (k:=3) (g:=jo) D gY b4 fun _ _ _ _ _ _ _ c=>by have a:=jY c;have b:=c.units;unfold jo;exact (aT (ik (JW.t (sH (cA (yD b) (al 2) (JE.bor (mi aO))) (og (cA (jI b) (JE.bor (jc d c px (aj (ap 0) (aj az (aj az aO))))) (JE.bor az))))) (aZ (bY (jc f c px (aj (ap 0) (aj (ap 1) (aj (ap 2) (aj (ap 3) aO))))))) dZ) (aT (X2 4 gY.nd) (aT (vn rfl (Aw rfl B.enumerate (aj (ap 2) aO)) (y7 rfl (fk (eV 5 gY.nd) (fk (eV 6 gY.nd) tZ))) (aT (i0 7 (jc d c fm (aj (ap 0) (aj (bP cO (JE.bor (bP cO (al 1) (JE.bor az))) (al 5)) (aj az aO)))) gY.nd) (aT (ik (cA (CK) (al 7) (JE.bor az)) (aZ (AD 4 (bT a (JE.bor (jR (aj az (aj az (aj az aO))))) (al 7)) (ap 6))) dZ) (aT (i0 7 (jc d c fm (aj (ap 0) (aj (bP cO (JE.bor (bP cO (al 1) (JE.bor az))) (al 5)) (aj az aO)))) gY.nd) (aZ (ik (cA (CK) (al 7) (JE.bor az)) (aZ (AD 4 (bT a (JE.bor (jR (aj az (aj az (aj az (aj az aO)))))) (al 7)) (ap 6))) dZ)))))) (aT (PR (nj 8 (N':=["_law_part"]) (ix:=[]) 1 (by decide) gY.nd rfl (ck (so:=ar mM) (N:=xt) (by decide +kernel)) (fK (al 4)) (fun h o j l n m=>⟨cL (i:=0) (by show (["_law_part"] : List Str).Nodup;decide +kernel) rfl (.inl rfl),fL,(fv (jJ rfl) rfl B.tuple bz (bE (al 0) c6))⟩))) (aZ (bY (mi (aj (ap 3) (aj (bT a (al 8) (JE.bor az)) (aj (bT a (al 8) (JE.bor az)) (aj (bT a (al 8) (JE.bor az)) (aj (bT a (al 8) (JE.bor az)) (aj (jc d c px (aj (ap 0) (aj (ap 1) (aj az aO)))) aO)))))))))))))
abbrev rq:c9:=pf 46
abbrev Bh:List Str:=["_law_script","_law_at","_law_most","_law_many","_law_facts_here","_law_made","_law_k","_law_name","_law_names","_law_turn"]
theorem jf:bj Bh ["_law_script","_law_at","_law_most","_law_many"] (ar rq):=dO (by decide +kernel)
abbrev Bj (e:En):=FN e "_law_book" 5 4 ny
theorem Ht (D:jn e.K e.mg "_law_book" rq) (B:Bi e.mg) (d:yN e) (h:vJ e) (f:xu e) (c:fo e):Bj e:=w5 (k:=4) (g:=nw) D jf b4 fun _ _ _ _ _ _ _ a=>by have b:=jY a;unfold nw;exact (aT (i0 4 (jc d a px (aj (ap 0) (aj (ap 1) (aj (ap 2) aO)))) jf.nd) (aT (wM 5 K_ jf.nd) (aT (vn rfl (vk rfl B.range (bE (JE.bor (jc c a fm (aj (ap 0) (aj (bP cO (al 1) (JE.bor az)) (aj (bP cO (al 3) (JE.bor az)) aO))))) c6)) (eV 6 jf.nd) (aT (i0 7 (jc h a fm (aj (ap 0) (aj (bP cO (JE.bor (bP cO (al 1) (JE.bor az))) (JE.bor (bP qG (JE.bor az) (al 6)))) aO))) jf.nd) (aZ (L6 5 (jc f a fm (aj (ap 0) (aj (bP cO (JE.bor (bP cO (al 1) (JE.bor az))) (JE.bor (bP qG (JE.bor az) (al 6)))) (aj (ap 4) (aj (ap 7) aO))))) (ap 7) b)))) (aT (i0 8 (fv (wO rfl) rfl B.list hU (bE (al 5) c6)) jf.nd) (aT (i0 9 (jc c a px (aj (ap 0) (aj (bP cO (al 1) (JE.bor az)) (aj (bP cO (JE.bor (cc ja rfl B.len b_ (bE (al 8) c6))) (JE.bor az)) aO)))) jf.nd) (aZ (bY (mi (aj (ap 4) (aj (fv (jJ rfl) rfl B.tuple bz (bE (JE.bor (JN.je (gj (N':=["_law_name","_law_made"]) (ix:=[5]) 1 (by decide) rfl (ck (so:=ar rq) (N:=Bh) (by decide +kernel)) (fK (JE.bor (bP cO (JE.bor (sJ (al 8) (tX (ap 9)) zC)) (JE.bor (sJ (al 8) zC (tX (ap 9))))))) (fun j p l m o n=>⟨cL (i:=0) (by show (["_law_name","_law_made"] : List Str).Nodup;decide +kernel) rfl (.inl rfl),fL,(bT b (al 1) (al 0))⟩)))) c6)) aO))))))))))
abbrev vL:c9:=pf 47
abbrev Kd:List Str:=["_law_script","_law_at","_law_facts_here","_law_must","_law_bars","_law_k","_law_fact","_law_way"]
theorem k9:bj Kd ["_law_script","_law_at","_law_facts_here"] (ar vL):=dO (by decide +kernel)
abbrev Bk (e:En):=FN e "_law_want" 3 3 vA
theorem Hu (D:jn e.K e.mg "_law_want" vL) (B:Bi e.mg) (c:fo e):Bk e:=w5 (k:=2) (g:=nz) D k9 b3 fun _ _ _ _ _ _ _ b=>by have a:=b.units;unfold nz;exact (aT (wM 3 (PF aO) k9.nd) (aT (wM 4 (PF aO) k9.nd) (aT (vn rfl (Aw rfl B.enumerate (aj (ap 2) aO)) (y7 rfl (fk (eV 5 k9.nd) (fk (eV 6 k9.nd) tZ))) (aT (i0 7 (jc c b fm (aj (ap 0) (aj (bP cO (al 1) (al 5)) (aj az aO)))) k9.nd) (aZ (ik (cA (CK) (al 7) (JE.bor az)) (aZ (CU 3 (ap 6))) (aZ (ik (cA (jI a) (al 7) (JE.bor az)) (aZ (CU 4 (ap 6))) dZ)))))) (aZ (bY (mi (aj (fv (jJ rfl) rfl B.tuple bz (bE (al 3) c6)) (aj (fv (jJ rfl) rfl B.tuple bz (bE (al 4) c6)) aO))))))))
abbrev vM:c9:=pf 48
abbrev Ke:List Str:=["_law_script","_law_most","_law_many","_law_book_here","_law_state"]
theorem tF:bj Ke ["_law_script","_law_most","_law_many"] (ar vM):=dO (by decide +kernel)
abbrev Bl (e:En):=FN e "_law_case" 6 3 nA
theorem Hv (D:jn e.K e.mg "_law_case" vM) (h:Bj e) (c:fo e) (d:Bf e) (f:Bk e):Bl e:=w5 (k:=5) (g:=qV) D tF b3 fun _ _ _ _ _ _ _ b=>by have a:=jY b;unfold qV;exact (aT (i0 3 (jc h b px (aj (ap 0) (aj az (aj (ap 1) (aj (ap 2) aO))))) tF.nd) (aT (i0 4 (jc d b px (aj (ap 0) (aj az (aj (bT a (al 3) (JE.bor az)) (aj (bT a (JE.bor (jR (aj az (aj az aO)))) (JE.bor (jc c b px (aj (ap 0) (aj az (aj az aO)))))) aO))))) tF.nd) (aZ (bY (mi (aj (ap 3) (aj (ap 4) (aj (jc f b px (aj (ap 0) (aj az (aj (bT a (al 3) (JE.bor az)) aO)))) aO))))))))
abbrev nM:c9:=pf 49
abbrev vQ:List Str:=["_law_state","_law_want_here"]
theorem Hw:bj vQ ["_law_state","_law_want_here"] (ar nM):=dO (by decide +kernel)
abbrev Bo (e:En):=FN e "_law_good" 1 2 qX
theorem Hx (D:jn e.K e.mg "_law_good" nM) (B:Bi e.mg):Bo e:=w5 (k:=0) (g:=qW) D Hw b2 fun _ _ _ _ _ _ _ f=>by have a:=jY f;unfold qW;exact (aZ (bY (Ec (cc (qI rfl) rfl B.all cU (bE (JE.bor (JN.je (gj (N':=["_law_fact","_law_state"]) (ix:=[0]) 1 (by decide) rfl (ck (so:=ar nM) (N:=vQ) (by decide +kernel)) (fK (JE.bor (bT a (al 1) (JE.bor az)))) (fun b l c d j h=>⟨cL (i:=0) (by show (["_law_fact","_law_state"] : List Str).Nodup;decide +kernel) rfl (.inl rfl),fL,(sG (CM) (al 0) (al 1))⟩)))) c6)) (Eb (Pq (cc (Py rfl) rfl B.any zU (bE (JE.bor (JN.je (gj (N':=["_law_fact","_law_state"]) (ix:=[0]) 1 (by decide) rfl (ck (so:=ar nM) (N:=vQ) (by decide +kernel)) (fK (JE.bor (bT a (al 1) (JE.bor az)))) (fun b l c d j h=>⟨cL (i:=0) (by show (["_law_fact","_law_state"] : List Str).Nodup;decide +kernel) rfl (.inl rfl),fL,(sG (CM) (al 0) (al 1))⟩)))) c6)))))))
abbrev rE:c9:=pf 50
abbrev Bp:List Str:=["_law_errand_here","_law_state","_law_left"]
theorem yO:bj Bp ["_law_errand_here","_law_state"] (ar rE):=dO (by decide +kernel)
abbrev Br (e:En):=FN e "_law_step" 2 2 iw
theorem Hy (D:jn e.K e.mg "_law_step" rE) (B:Bi e.mg) (c:Bo e):Br e:=w5 (k:=1) (g:=qY) D yO b2 fun _ _ _ _ _ _ _ b=>by have a:=jY b;unfold qY;exact (aT (ik (gz (hZ (jc c b px (aj (ap 1) (aj (sJ (al 0) (tX az) (tX az)) aO))))) (aZ (bY sF)) dZ) (aT (nj 2 (N':=["_law_fact","_law_errand_here"]) (ix:=[0]) 1 (by decide) yO.nd rfl (ck (so:=ar rE) (N:=Bp) (by decide +kernel)) (fK (al 1)) (fun d m f h l j=>⟨cL (i:=0) (by show (["_law_fact","_law_errand_here"] : List Str).Nodup;decide +kernel) rfl (.inl rfl),(qJ (cA (pR) (al 0) (JE.bor (bT a (al 1) (JE.bor az))))),(ap 0)⟩)) (aZ (bY (fv (jJ rfl) rfl B.tuple bz (bE (JE.bor (vq rfl (Em rfl (JE.bor (bP cO (al 2) (JE.bor (fv (wO rfl) rfl B.list hU (bE (JE.bor (bT a (al 0) (JE.bor az))) c6))))) rfl B.set) rfl B.sorted)) c6))))))
abbrev Bs:c9:=pf 52
abbrev Hz:List Str:=["_law_desk","_law_way","_law_name","_law_e"]
theorem DA:bj Hz ["_law_desk","_law_way","_law_name"] (ar Bs):=dO (by decide +kernel)
theorem Ny {C:af} (D:jn e.K e.mg "_law_do" Bs) (i:DkC e.K C) (c:FS e C "do" 10 1 q9) (a:FS e C "take_back" 1 0 i9) (b:FS e C "again" 10 0 kM) (W:Wh e.P e.w e.K e.mg e.base e.cls "_law_which" He Y0):FG e C "_law_do" 11 2 gM:=fng (k:=10) (n:=2) (N:=Hz) (ps:=["_law_desk","_law_way","_law_name"]) (G:=jq) D DA b3 rfl fun _ _ _ _ _ _ _ f=>by have d:=f.units;unfold jq;exact (da (Ub 3 W (fun m l j g=>(cq (lf (jb (cA (jI d) (al 1) (JE.bor az))) (da (kG (Jw 0 i c f g (gH (ap 2))))) jd) (cq (lf (jb (cA (jI d) (al 1) (JE.bor az))) (da (kG (QK 0 i a f g))) jd) (da (kG (QK 0 i b f g)))))) (f.h.mono1) rfl rfl DA.nd))
abbrev tG:c9:=pf 53
abbrev HA:List Str:=["_law_states","_law_fact","_law_at","_law_k"]
theorem mO:bj HA ["_law_states","_law_fact"] (ar tG):=dO (by decide +kernel)
abbrev yP (e:En):=FN e "_law_since" 1 2 lP
theorem F8 (D:jn e.K e.mg "_law_since" tG) (B:Bi e.mg):yP e:=w5 (k:=0) (g:=oE) D mO b2 fun _ _ _ _ _ _ _ b=>by have a:=jY b;unfold oE;exact (aT (ik (cA (pR) (al 1) (JE.bor (bT a (al 0) (JE.bor (vo az))))) (aZ (bY sF)) dZ) (aT (i0 2 (bP Jg (JE.bor (cc ja rfl B.len b_ (bE (al 0) c6))) (JE.bor az)) mO.nd) (aT (vn rfl (Ju rfl B.range (bE (JE.bor (bP Jg (JE.bor (cc ja rfl B.len b_ (bE (al 0) c6))) (JE.bor az))) (bE (JE.bor (vo az)) (bE (JE.bor (vo az)) c6)))) (eV 3 mO.nd) (aT (ik (cA (pR) (al 1) (JE.bor (bT a (al 0) (al 3)))) (aZ (bY (bP cO (al 3) (JE.bor az)))) dZ) (aZ (i0 2 (ap 3) mO.nd)))) (aZ (bY (ap 2))))))
abbrev qk:c9:=pf 54
abbrev tH:List Str:=["_law_script","_law_at","_law_book_here","_law_desk","_law_states","_law_row","_law_gone","_law_way","_law_names","_law_name","_law_good_here","_law_some_here","_law_one"]
theorem ka:bj tH ["_law_script","_law_at","_law_book_here","_law_desk","_law_states","_law_row","_law_gone"] (ar qk):=dO (by decide +kernel)
theorem Nz {C:af} (D:jn e.K e.mg "_law_go" qk) (B:Bi e.mg) (f:FG e C "_law_do" 11 2 gM) (d:fo e) (j:Br e):FT3 e C "_law_go" 12 qd:=fn7 (k:=11) (N:=tH) (ps:=["_law_script","_law_at","_law_book_here","_law_desk","_law_states","_law_row","_law_gone"]) (G:=qc) D ka b7 rfl fun _ _ _ _ _ _ _ c=>by have b:=jY c;have a:=c.units;unfold qc;exact (cq (wV 7 (bT b (JE.bor (jR (aj az (aj az (aj az (aj az (aj az (aj az (aj az aO))))))))) (JE.bor (jc d c px (aj (ap 0) (aj (ap 1) (aj az aO)))))) ka.nd) (cq (wV 8 (bP cO (JE.bor (JN.je (gj (N':=["_law_errand_here"]) (ix:=[]) 1 (by decide) rfl (ck (so:=ar qk) (N:=tH) (by decide +kernel)) (fK (JE.bor (bT b (al 2) (JE.bor az)))) (fun g o h l n m=>⟨cL (i:=0) (by show (["_law_errand_here"] : List Str).Nodup;decide +kernel) rfl (.inl rfl),fL,(bT b (al 0) (JE.bor az))⟩)))) (JE.bor (jR (aj mf aO)))) ka.nd) (cq (wV 9 (bT b (al 8) (JE.bor (jc d c px (aj (ap 0) (aj (bP cO (al 1) (JE.bor az)) (aj (cc ja rfl B.len b_ (bE (al 8) c6)) aO)))))) ka.nd) (cq (yG 10 (N':=["_law_errand_here","_law_states"]) (ix:=[4]) 1 (by decide) ka.nd rfl (ck (so:=ar qk) (N:=tH) (by decide +kernel)) (fK (JE.bor (bT b (al 2) (JE.bor az)))) (fun g o h l n m=>⟨cL (i:=0) (by show (["_law_errand_here","_law_states"] : List Str).Nodup;decide +kernel) rfl (.inl rfl),(qJ (cA (G9) (JE.bor (jc j c fm (aj (ap 0) (aj (bT b (al 1) (JE.bor (vo az))) aO)))) (JE.bor sF))),(ap 0)⟩)) (cq (lf (jb (JW.t (sH (cA (yD a) (al 10) (JE.bor (jR aO))) (og (cA (KP) (JE.bor (jc d c px (aj (ap 0) (aj (bP cO (al 1) (JE.bor az)) (aj az aO))))) (JE.bor az)))))) (da (wV 9 (bT b (JE.bor (bT b (al 10) (JE.bor (jc d c px (aj (ap 0) (aj (bP cO (al 1) (JE.bor az)) (aj (cc ja rfl B.len b_ (bE (al 10) c6)) aO))))))) (JE.bor az)) ka.nd)) jd) (cq (yG 11 (N':=["_law_errand_here","_law_name"]) (ix:=[9]) 1 (by decide) ka.nd rfl (ck (so:=ar qk) (N:=tH) (by decide +kernel)) (fK (al 10)) (fun g o h l n m=>⟨cL (i:=0) (by show (["_law_errand_here","_law_name"] : List Str).Nodup;decide +kernel) rfl (.inl rfl),(qJ (cA (jI a) (JE.bor (bT b (al 0) (JE.bor az))) (al 1))),(ap 0)⟩)) (cq (lf (jb (JW.t (sH (cA (jI a) (al 7) (JE.bor az)) (og (cA (jI a) (al 11) (JE.bor (jR aO))))))) (da (kG (Lw (jI a) (Jx 3 f c px (aj az (aj (ap 9) aO))) (JE.bor (mi (aj mf (aj az aO))))))) jd) (cq (lf (jb (JW.t (pQ (JW.t (sH (cA (jI a) (al 7) (JE.bor az)) (og (cA (jI a) (al 5) (JE.bor (jR aO)))))) (mh (JW.t (sH (cA (jI a) (al 7) (JE.bor az)) (og (cA (jI a) (al 6) (JE.bor (jR aO)))))))))) (da (kG (Lw (jI a) (Jx 3 f c px (aj (ap 7) (aj (ap 9) aO))) (JE.bor (mi (aj mf (aj az aO))))))) jd) (cq (lf (U7 (G9) (Jx 3 f c px (aj (ap 7) (aj (ap 9) aO))) (JE.bor sF)) (da (kG (gH lN))) jd) (cq (lf (jb (cA (jI a) (al 7) (JE.bor az))) (cq (i8 (om (kE 4) (gH (jc j c px (aj (bT b (al 11) (JE.bor az)) (aj (bT b (al 4) (JE.bor (vo az))) aO)))))) (cq (i8 (om (kE 5) (gH (ap 9)))) (da (i8 (Lu (kE 6)))))) (da (lf (jb (cA (jI a) (al 7) (JE.bor az))) (da (i8 (om (kE 6) (Ua (uc (kE 4)) (uc (kE 5)))))) (cq (QN 12 9 (uc (kE 6)) rfl ka.nd) (cq (i8 (om (kE 4) (gH (ap 12)))) (da (i8 (om (kE 5) (gH (ap 9)))))))))) (da (kG (gH lN)))))))))))))
abbrev tK:c9:=pf 55
abbrev M4:List Str:=["_law_script","_law_book_here","_law_state","_law_want_here","_law_prices","_law_desk","_law_states","_law_row","_law_gone","_law_k"]
theorem vS:bj M4 ["_law_script"] (ar tK):=dO (by decide +kernel)
theorem XO {f C:af}{q:cr} (F:xz e.K "law" "law" tK f q) (B:Bi e.mg) (n:DkC e.K C) (O:FT3 e C "_law_go" 12 qd) (m:FnR e.P e.w e.K e.mg e.base C 1) (G:Bl e) (z:fo e) (b:mK e C) (d:Ba e C) (c:xi e C) (a:oO e C) (M:yP e) (L:FnJ e.P e.w e.K e.mg e.base e.cls C 8 fQ):l8 e.P e.w e.K e.mg e.base (jN e.P e.w) 13 f q ["_law_script"] (RW e.K e.cls 1 F_law):=by
 refine PQ (k:=12) (g:=GK) F vS fun I A outer s H E l=>?_
 have j:=jY l
 have h:=l.units
 unfold GK
 exact (aT (Ei (jc G l px (aj (ap 0) (aj az (aj az aO)))) (y7 rfl (fk (eV 1 vS.nd) (fk (eV 2 vS.nd) (fk (eV 3 vS.nd) tZ))))) (aT (wM 4 (MX rfl (JN.je (gj (N':=["_law_errand_here"]) (ix:=[]) 1 (by decide) rfl (ck (so:=ar tK) (N:=M4) (by decide +kernel)) (fK (JE.bor (bT j (al 1) (JE.bor az)))) (fun o v x u y p=>⟨cL (i:=0) (by show (["_law_errand_here"] : List Str).Nodup;decide +kernel) rfl (.inl rfl),fL,(mi (aj (bT j (al 0) (JE.bor az)) (aj (bT j (al 0) (JE.bor az)) aO)))⟩))) rfl B.dict) vS.nd) (QS 1 2 5 6 7 8 (by decide) L n l px (cq (Uc 9 rfl rfl B.range (jc z l fm (aj (ap 0) (aj az (aj az aO)))) (cq (lf (U9 (U8 (Xk 5 6 7 8 O l fm (ap 0) (bP cO (JE.bor az) (JE.bor (bP qG (JE.bor az) (al 9)))) (ap 1)))) (da (kG (gH lN))) jd) (cq (lf (jb (JW.t (pQ (cA (yD h) (JE.bor (sU n b l fm (ap 5))) (JE.bor (bT j (al 6) (JE.bor (vo az))))) (pQ (cA (yD h) (JE.bor (sU n d l fm (ap 5))) (al 7)) (mh (cA (yD h) (JE.bor (sU n c l fm (ap 5))) (JE.bor (cc (QF rfl) rfl B.sum zV (bE (JE.bor (JN.je (gj (N':=["_law_name","_law_prices"]) (ix:=[4]) 1 (by decide) rfl (ck (so:=ar tK) (N:=M4) (by decide +kernel)) (fK (al 7)) (fun o v x u y p=>⟨cL (i:=0) (by show (["_law_name","_law_prices"] : List Str).Nodup;decide +kernel) rfl (.inl rfl),fL,(bT j (al 1) (al 0))⟩)))) c6))))))))) (da (kG (gH lN))) jd) (cq (lf (jb (gz (hZ (cc (qI rfl) rfl B.all cU (bE (JE.bor (JN.je (gj (N':=["_law_fact","_law_desk","_law_states"]) (ix:=[5,6]) 1 (by decide) rfl (ck (so:=ar tK) (N:=M4) (by decide +kernel)) (fK (JE.bor (bT j (al 1) (JE.bor az)))) (fun o v x u y p=>⟨cL (i:=0) (by show (["_law_fact","_law_desk","_law_states"] : List Str).Nodup;decide +kernel) rfl (.inl rfl),fL,(sG (jI h) (JE.bor (U2 n a l fm (ap 1) (aj (ap 0) aO))) (JE.bor (jc M l fm (aj (ap 2) (aj (ap 0) aO)))))⟩)))) c6))))) (da (kG (gH lN))) jd) (da (QQ 5 n m l fm))))) vS.nd) (da (kG (gH lN)))) vS.nd)))
abbrev F9:c9:=mD (pf 37) 0
theorem UU:bj ["self","book","state"] ["self","book","state"] (ar F9):=dO (by decide +kernel)
theorem UV {C:af} (D:DM e.K C "__init__" "Desk.__init__" F9) (d:DkC e.K C) (mk:lV e.K C=true) (kp:bV e.K (.ref C)=true) (h:e.mg "Desk"=some (.ref C)) (b:pj e):FnJ e.P e.w e.K e.mg e.base e.cls C 8 fQ:=QR (k:=7) D d mk kp h UU m3 fun f a A outer s H E g ρ=>eu (o9 ((jc (c:=⟨iU (jN e.P e.w) e.P e.w e.K e.mg e.base ["self","book","state"] "Desk.__init__" (ar F9) f a A outer s H E,e.cls,E⟩) b g px (aj (ap 1) (aj (ap 2) aO))) ρ)) (eu (DP (pv 0) (pv 1) rfl) (eu (DP (pv 0) (jv (bv (pv 2) cQ)) rfl) (eu (DP (pv 0) (jv cQ) rfl) (tO (DP (pv 0) (jv cQ) rfl)))))
theorem UW {C:af} (D:DM e.K C "row" "Desk.row" rj) (a:DkC e.K C) (B:Bi e.mg):FnR e.P e.w e.K e.mg e.base C 1:=Xl (k:=0) D a yM m1 fun _ _ _ _ _ _ _ b=>tO (zX (tP qA rfl B.list hU (bv (IR (pv 0) rfl) cQ)))
end
theorem all_mk {l:yU}{w:bi}{K:aa}{h:bA}{c:Str->Option ae}{fa A:af}{lS:af}{U:af}{ql:af}{jg:af}{uz:af}{uA:af}{mU:af}{mV:af}{lu:af}{Y:af}{qm:af}{kf:af}{z:af}{od an:Option af}{sl:Array (Option ae)}{oc kV dc pm cv ct:ae} (X:K.In h) (G:h.Ns bq c) (a2:c "law"=some (.ref fa))
  (Zz:Zs K zn)
  (Q:DkC K z)
  (a1:lV K z=true)
  (a3:bV K (.ref z)=true)
  (XQ:DM K z "__init__" "Desk.__init__" F9)
  (nI:Cn c "MOST_LETTERS" 6)
  (rf:Cn c "MOST_PRICE" 9)
  (rg:Cn c "MOST_FACTS" 6)
  (nJ:Cn c "MOST_ERRANDS" 6)
  (Ws:TW K He [lS,U,ql,jg,uz,uA,mU,mV,lu,Y,qm])
  (DB:TopC K "NoState" U)
  (HB:TopC K "NoBook" lS)
  (Bu:TopC K "NoErrand" jg)
  (DC:TopC K "Nothing" Y)
  (oQ:TopC K "PlanError" kf)
  (N:Wy K U kf [(lS,false),(U,true),(ql,false),(jg,false),(uz,false),(uA,false),(mU,false),(mV,false),(lu,false),(Y,false),(qm,false)])
  (O:Wy K lS kf [(lS,true),(U,false),(ql,false),(jg,false),(uz,false),(uA,false),(mU,false),(mV,false),(lu,false),(Y,false),(qm,false)])
  (E:Wy K jg kf [(lS,false),(U,false),(ql,false),(jg,true),(uz,false),(uA,false),(mU,false),(mV,false),(lu,false),(Y,false),(qm,false)])
  (L:Wy K Y kf [(lS,false),(U,false),(ql,false),(jg,false),(uz,false),(uA,false),(mU,false),(mV,false),(lu,false),(Y,true),(qm,false)])
  (HC:jn K c "_law_which" t5)
  (Fa:jn K c "share_none" mJ)
  (NA:jn K c "without" uw)
  (RG:jn K c "joined" AZ)
  (NB:jn K c "is_word" ux)
  (vU:jn K c "are_rising_words" g9)
  (HD:jn K c "are_facts" oM)
  (Kg:jn K c "is_whole" vC)
  (HE:jn K c "is_errand" oN)
  (NC:jn K c "is_book" qg)
  (Cd:jn K c "check_state" ph)
  (zm:jn K c "errand_called" mr)
  (ND:jn K c "fulfils" uy)
  (HF:jn K c "is_doable" tj)
  (Bv:jn K c "state_behind" nK)
  (NE:jn K c "checked" yn)
  (Ce:jn K c "check_place" pi)
  (XR:jn K c "done" K7)
  (n:DM K z "state" "Desk.state" rh)
  (m:DM K z "row" "Desk.row" rj)
  (x:DM K z "spent" "Desk.spent" mL)
  (g:DM K z "carry_out" "Desk.carry_out" lj)
  (I:DM K z "do" "Desk.do" yq)
  (i:DM K z "take_back" "Desk.take_back" ll)
  (p:DM K z "again" "Desk.again" rl)
  (f:DM K z "held_since" "Desk.held_since" kP)
  (Cf:jn K c "_law_cell_at" pq)
  (HG:jn K c "_law_mixed" tu)
  (Kh:jn K c "_law_word" vI)
  (HH:jn K c "_law_facts" tw)
  (Ki:jn K c "_law_some" rn)
  (Kj:jn K c "_law_thin" lr)
  (Fb:jn K c "_law_errand" mM)
  (Kk:jn K c "_law_book" rq)
  (Kl:jn K c "_law_want" vL)
  (Km:jn K c "_law_case" vM)
  (Kn:jn K c "_law_good" nM)
  (Ko:jn K c "_law_step" rE)
  (RH:jn K c "_law_do" Bs)
  (HI:jn K c "_law_since" tG)
  (RI:jn K c "_law_go" qk)
  (l0:dW K bq "law"=some (some (.ref A)))
  (l1:K.lookup A=some ⟨oc,od,.func (dU "law" "law" (jM tK) (eF tK) (ar tK) .none kV dc pm an cv ct),sl⟩)
  (l2:j4 K cv "law"=true)
  (l3:bV K (.ref A)=true)
  : ∃ fd:cr,(∀ (s:ak) (v:ae),yr s fd ⟨[v],[]⟩ [("_law_script",v)])/\∀ base:bA,K.In base->base.Ns bq c->l8 l.prog w K c base (jN l.prog w) 13 fa fd ["_law_script"] (Z2 K F_law):=by
 have q:=a2.symm.trans (iH X G l0)
 cases q
 refine ⟨dU "law" "law" (jM tK) (eF tK) (ar tK) .none kV dc pm an cv ct,fun s v=>.of_eq rfl,fun base X G=>?_⟩
 let e:En:=⟨l.prog,w,K,c,base,Z3 [("NoBook",lS),("NoState",U),("NoWant",ql),("NoErrand",jg),("NoRow",uz),("NoWay",uA),("NoPaper",mU),("NoFacts",mV),("NoNumber",lu),("Nothing",Y),("NoText",qm),("PlanError",kf)]⟩
 have B:Bi e.mg:=Zm X G Zz
 have yi:ER e "NoState":=DB.er X G rfl
 have B7:ER e "NoBook":=HB.er X G rfl
 have vG:ER e "NoErrand":=Bu.er X G rfl
 have mT:ER e "Nothing":=DC.er X G rfl
 obtain ⟨fw,a4,Fw,mw⟩:=HC.ex
 have W:Wh e.P e.w e.K e.mg e.base e.cls "_law_which" He Y0:=by
  refine ⟨⟨_,_,_,C0 (e:=e) Fw B (Zn X G Zz) (Zo X G Ws rfl),mw,Fw.kp,b1 Fw⟩,iH X G oQ.ns,?_,fun y j h=>?_⟩
  ·obtain ⟨bm,o,_⟩:=(Jr X G oQ.ns oQ.ex oQ.mb).2
   exact ⟨bm,o⟩
  unfold Y0 at h
  by_cases S:y="NoState"
  ·subst S
   simp at h
   subst h
   exact Lr X G DB N Ws rfl rfl rfl rfl rfl (by decide) (by decide)
  rw [if_neg S] at h
  by_cases S:y="NoBook"
  ·subst S
   simp at h
   subst h
   exact Lr X G HB O Ws rfl rfl rfl rfl rfl (by decide) (by decide)
  rw [if_neg S] at h
  by_cases S:y="NoErrand"
  ·subst S
   simp at h
   subst h
   exact Lr X G Bu E Ws rfl rfl rfl rfl rfl (by decide) (by decide)
  rw [if_neg S] at h
  by_cases S:y="Nothing"
  ·subst S
   simp at h
   subst h
   exact Lr X G DC L Ws rfl rfl rfl rfl rfl (by decide) (by decide)
  rw [if_neg S] at h
  cases h
 have iA:=C2 (e:=e) Fa B
 have ym:=J_ (e:=e) NA B
 have B6:=Nw (e:=e) RG B
 have mS:=K1 (e:=e) NB B nI
 have eY:=uM (e:=e) vU B mS
 have k8:=EX (e:=e) HD B eY
 have vD:=Hh (e:=e) Kg B
 have tf:=EY (e:=e) HE B mS vD k8 iA rf
 have yo:=K3 (e:=e) NC B eY tf rg nJ
 have pp:=B4 (e:=e) Cd k8 yi
 have gE:=yj (e:=e) zm B
 have yk:=K4 (e:=e) ND B iA
 have tq:=E_ (e:=e) HF yk
 have nL:=zk (e:=e) Bv ym B6
 have yp:=K6 (e:=e) NE yo B7
 have iI:=B9 (e:=e) Ce yp pp
 have K9:=UT (e:=e) XR iI gE tq nL vG
 have b:=C6 (e:=e) n Q
 have H:=Hj (e:=e) m B Q
 have t:=C8 (e:=e) x B Q gE
 have a:=xk (e:=e) (C:=z) g Q b K9
 have M:=Kb (e:=e) (C:=z) I Q a
 have k:=xn (e:=e) (C:=z) i Q mT
 have u:=Ca (e:=e) (C:=z) p Q a mT
 have d:=vH (e:=e) f B Q b
 have pw:=Bc (e:=e) Cf B
 have T:=F6 (e:=e) HG pw
 have lm:=Hl (e:=e) Kh B T
 have tE:=F7 (e:=e) HH B lm T
 have vO:=Hq (e:=e) Ki B T
 have vK:=Hr (e:=e) Kj B T
 have rA:=Cc (e:=e) Fb B T vK
 have vN:=Ht (e:=e) Kk B tE lm rA T
 have vP:=Hu (e:=e) Kl B T
 have vT:=Hv (e:=e) Km vN T vO vP
 have vR:=Hx (e:=e) Kn B
 have rF:=Hy (e:=e) Ko B vR
 have tJ:=Ny (e:=e) (C:=z) RH Q M k u W
 have tL:=F8 (e:=e) HI B
 have Bt:=Nz (e:=e) (C:=z) RI B tJ T rF
 have Kf:=UV (e:=e) XQ Q a1 a3 (iH X G Q.ns) iI
 have a0:=UW (e:=e) m Q B
 exact (XO (e:=e) (I_ l1 l2 l3) B Q Bt a0 vT T b H t d tL Kf).imp X5
end Z
section
open PySem PySem.W PyProof.Rows
namespace PySem.W.Fast
def tw15930953041819918638:Nat:=0
def tw123962242854393835:Nat:=0
def tw978679476247423253:Nat:=0
def tw67304164459390721:Nat:=0
def tw11308308109744677765:Nat:=0
def tw3404336079293421414:Nat:=0
def tw16828633706907135707:Nat:=0
def tw10121797172047547729:Nat:=0
def tw7306054975332119122:Nat:=0
def tw13802527936462603667:Nat:=0
def tw4977442489061033049:Nat:=0
def tw1890041501739750619:Nat:=0
def tw2256195251502022769:Nat:=0
def tw4075684256981465872:Nat:=0
def tw10691949780497824007:Nat:=0
def tw3777425083779808919:Nat:=0
def tw4517935784932710465:Nat:=0
def tw11119943560072669405:Nat:=0
def tw17304909600572942477:Nat:=0
def tw2018102986676177018:Nat:=0
def tw83288072527597960:Nat:=0
def tw12899489298518471221:Nat:=0
def tw1447914832873585243:Nat:=0
def tw15762802942543095175:Nat:=0
def tw14621391662922492760:Nat:=0
def tw1985567407612700619:Nat:=0
def tw9890985572885503508:Nat:=0
def tw6833113734421183864:Nat:=0
def tw13730101098571836910:Nat:=0
def tw17331534022195989342:Nat:=0
def tw6989783573407780170:Nat:=0
def tw10184279214041197565:Nat:=0
def tw2659578289209586134:Nat:=0
def tw152578152861509378:Nat:=0
def tw16196588618756199470:Nat:=0
def tw7889721520199334747:Nat:=0
def tw9727845529050436061:Nat:=0
def tw8437021124828178059:Nat:=0
def tw5383453534556016689:Nat:=0
def tw7304947726623726737:Nat:=0
def tw1013810894083873310:Nat:=0
def tw15005917584167874929:Nat:=0
def tw12092057951373650272:Nat:=0
def tw2372534924855046274:Nat:=0
def tw5060297707902785654:Nat:=0
def tw17079054947904971485:Nat:=0
def tw7233041457559076802:Nat:=0
def tw13485374693347740657:Nat:=0
def tw3344895423226377976:Nat:=0
def tw6164692454771989461:Nat:=0
def tw5556287254796566627:Nat:=0
def tw4990140202608220187:Nat:=0
def tw13191401663261631590:Nat:=0
def tw10863493658149053467:Nat:=0
def tw18414265738944599927:Nat:=0
def tw3527612784214394163:Nat:=0
def tw2153510286584662452:Nat:=0
def tw15651076385938795115:Nat:=0
def tw7507784226590166544:Nat:=0
def tw14126058820036044371:Nat:=0
def tw13090822177530584993:Nat:=0
def tw10777662174992447449:Nat:=0
def tw13718940557398597846:Nat:=0
def tw2466802139337891316:Nat:=0
def tw2934023561194309049:Nat:=0
def tw3183392501057445796:Nat:=0
def tw9627937058503111917:Nat:=0
def tw7064196912227341132:Nat:=0
def tw11798649496514179881:Nat:=0
def tw13095159766462073049:Nat:=0
def tw17944367543330894699:Nat:=0
def tw5661438615353337696:Nat:=0
def tw16018002254361867476:Nat:=0
def tw284227496013561607:Nat:=0
def tw7134083486603150839:Nat:=0
def tw11177116426691009035:Nat:=0
def tw15106690167693179434:Nat:=0
def tw10563078459521464732:Nat:=0
def tw3903529492866961852:Nat:=0
def tw703045233237406341:Nat:=0
def tw18297702675606491011:Nat:=0
def tw4823735405639857779:Nat:=0
def tw5026640276016556135:Nat:=0
def tw15606437448077456584:Nat:=0
def tw4995099390365721310:Nat:=0
def tw15700604759597578759:Nat:=0
def tw2330100467743481645:Nat:=0
def tw16874401269656492247:Nat:=0
def tw8118083233996702522:Nat:=0
def tw3462903922654128088:Nat:=0
def tw622523960387461612:Nat:=0
def tw11066497558663367161:Nat:=0
def tw3362435713749624299:Nat:=0
def tw6333382944202752227:Nat:=0
def tw12884036593736265046:Nat:=0
def tw2834227778201750014:Nat:=0
def tw14804884405409518774:Nat:=0
def tw13613299930713805216:Nat:=0
def tw12157298302553248199:Nat:=0
def tw1185409412331756495:Nat:=0
def tw8673616018952500521:Nat:=0
def tw6101605890909961666:Nat:=0
def tw9413370410860756397:Nat:=0
def tw13568876950497514120:Nat:=0
def tw8268895909247522134:Nat:=0
def tw13968701136538114626:Nat:=0
def tw15318172498788558375:Nat:=0
def tw9615383365118820364:Nat:=0
def tw11725322855776739990:Nat:=0
def tw10294678524673203855:Nat:=0
def tw8067259755646148945:Nat:=0
def tw4250615803271413631:Nat:=0
def tw6595058947855426926:Nat:=0
def tw4243786862988139606:Nat:=0
def tw387431670423238140:Nat:=0
def tw16748754210495630451:Nat:=0
def tw16913983508824961645:Nat:=0
def tw6409172461638343481:Nat:=0
def tw13092568412957765186:Nat:=0
def tw11052435895897083305:Nat:=0
def tw4655428297452912871:Nat:=0
def tw4573183006271909375:Nat:=0
def tw8913526480332617323:Nat:=0
def tw6037040781068962574:Nat:=0
def tw13034591124712482897:Nat:=0
def tw2698903732915081604:Nat:=0
def tw16425301446095320537:Nat:=0
def tw15270498090564992631:Nat:=0
def tw15607377828490565643:Nat:=0
def tw7836326564695552743:Nat:=0
end PySem.W.Fast
theorem PySem.Challenge.cw_errands_k32_whole_desk_holds : PySem.Challenge.rw_errands_k32_whole_desk.Holds := by
 w_on;o_law;k_head;(case hw=>w_witness2)
 k_fill
 refine J.walkF (l:=PySem.Challenge.rw_errands_k32_whole_desk) (k:=13) (x:="_law_script") (F0:=Z.F_law) rfl rfl ⟨rfl,by decide,by decide⟩ (fun w h Y=>by first|exact PySem.W.kIn_of Y|exact PySem.W.km_in_of Y) ?F (fun c _=>Z.law_true c)
 case F =>
  intro w d e h b G a
  refine' Z.all_mk b G a ?_ ?_ ?_ ?_ ?_ ?_ ?_ ?_ ?_ ?_ ?_ ?_ ?_ ?_ ?_ ?_ ?_ ?_ ?_ ?_ ?_ ?_ ?_ ?_ ?_ ?_ ?_ ?_ ?_ ?_ ?_ ?_ ?_ ?_ ?_ ?_ ?_ ?_ ?_ ?_ ?_ ?_ ?_ ?_ ?_ ?_ ?_ ?_ ?_ ?_ ?_ ?_ ?_ ?_ ?_ ?_ ?_ ?_ ?_ ?_ ?_ ?_ ?_ ?_
  all_goals first
   |(refine' J.d_in b G ?_ ?_ ?_ ?_<;>try k_is)
   |(refine' J.cn_in b G ?_<;>try k_is)
   |(refine' J.DkC.mk ?_ (L2.Cls.mk ?_ ?_ ?_ ?_) ?_ ?_ ?_ ?_<;>try k_is)
   |(refine' J.dm_in ?_ ?_ ?_ ?_ ?_<;>try k_is)
   |k_is
   |(refine' J.TopC.mk ?_ ?_ ?_<;>try (first|k_is|k_exc))
   |(refine' J.topN ?_ ?_ ?_ ?_ ?_ ?_ ?_ ?_ ?_ ?_ ?_ ?_ ?_ ?_ ?_ ?_ ?_ ?_ ?_ ?_ ?_ ?_ ?_<;>try (first|k_is|rfl|exact fun _ _=>⟨_,rfl,rfl⟩|decide +kernel))
   |((refine' J.Wy.mk ?_ ?_ ?_ ?_ ?_ ?_ ?_ ?_ ?_ ?_)<;>try (first|k_is|decide|((repeat' (first|exact .nil|refine' .cons ?_ ?_ ?_))<;>try (first|k_is|decide))))
   |((repeat' (first|exact .nil|refine' .cons ?_ ?_))<;>try (first|(refine' J.cw_in ?_ ?_ ?_<;>try k_is)|k_is))
   |skip
end
