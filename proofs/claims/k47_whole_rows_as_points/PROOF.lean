import PyProof.Rows.All
import Wide.All
import OpenK.AllK
import Wide.FinOn
import Lean
import PyProof.EqAt
import PyProof.EqKinds
import PyProof.TupleCall
import KE.KLam
import KE.KTurnsDict
import KE.KPairComp
import KE.KDictList
import KE.KSortTup
import PyProof.Rows.SortShell
import PyProof.TupleOfSeq
import KE.KMinKey
import PySem.Challenge.RW_belowpoints_k47_whole_rows_as_points
set_option Elab.async false
set_option linter.all false
set_option maxRecDepth 100000
set_option maxHeartbeats 4000000
open Option renaming bind_some->aA,bind_eq_some_iff->aB,map_some->aF,map_eq_some_iff->aJ,join_some->aY,getD_some->gG,isSome_iff_exists->jY,isSome_map->tD,none->xS
open List renaming getD_eq_getElem?_getD->aC,getElem?_eq_getElem->aE,getElem?_eq_some_iff->aI,mem_cons_of_mem->aK,getElem?_cons_zero->aM,length_map->aN,length_cons->aO,mem_cons_self->aQ,map_cons->aS,mem_append_right->aT,size_toArray->aU,getElem?_cons_succ->aV,length_nil->aX,getElem?_map->bA,range->bB,getElem?_append_left->bC,mem_range->bE,getElem?_set_ne->bF,mem_cons->bG,getElem?_set_self->bI,set_cons_zero->bJ,replicate->bL,append_assoc->bM,append_nil->bO,map_nil->bP,set_cons_succ->bR,mem_singleton->bS,all_eq_true->bT,length_append->bU,map_map->bW,getElem?_append_right->bX,Nodup->bY,length_reverse->cG,getElem?_eq_none->cH,mem_of_getElem?->cI,mem_map->cJ,map_congr_left->cM,map_append->cP,filter_eq_self->cR,cons_append->cS,getElem?_eq_none_iff->cU,getElem_mem->cW,mem_append->cX,nil_append->cZ,replicate_zero->dA,lookup_cons->dF,find?_cons->dM,filter_cons_of_pos->dP,getElem?_range->dR,getElem_of_mem->dS,length_range->dX,pairwise_cons->dY,filter_cons_of_neg->eI,reverse_cons->eJ,flatten_cons->eK,mem_filter->eN,length_take->eQ,replicate_succ->eR,toArray->eV,pairwise_map->eW,mem_append_left->eZ,pairwise_append->fD,length_pos_iff->fH,length_singleton->fJ,nodup_append->fR,pairwise_iff_getElem->fX,getLast?_eq_none_iff->fY,getElem?_reverse->gE,filter->gR,length_eq_zero_iff->gY,nodup_cons->gZ,filterMap_cons->hV,take_of_length_le->iC,any_cons->iD,not_mem_nil->iF,mem_filterMap->iG,nodup_iff_pairwise_ne->iL,drop_eq_getElem_cons->iO,take_add_one->iR,ext_getElem->iZ,take_sublist->jL,length_eraseIdx_of_lt->jT,mem_map_of_mem->jX,sum_cons->kC,range_succ->kG,filterMap_map->kJ,ext_getElem?->kX,drop_zero->kZ,findIdx_le_length->lD,eraseIdx_eq_take_drop_succ->lH,length_filter_le->lK,filter_cons->lN,any_eq_true->lQ,map_reverse->lR,all_cons->lW,reverse_reverse->mB,getElem?_mapIdx->mD,mem_of_getLast?->mH,length_set->mK,forIn_cons->mM,zip_cons_cons->nG,getElem?_zip_eq_some->nU,getLast?_eq_some_iff->nV,mem_or_eq_of_mem_set->nW,getLast?_eq_getElem?->nX,any_eq_false->oA,length->oD,length_erase_of_mem->oX,length_drop->pB,drop_length->pG,eraseIdx_cons_succ->pI,take_length->pJ,nodup_range->pK,getElem_cons_succ->qJ,pairwise_lt_range->qK,of_mem_zip->qL,sum_append->qS,perm_append_comm->qW,take_append_drop->qX,mem_erase_of_ne->rM,flatten_append->rS,map_take->sA,zip_nil_right->sL,zip_nil_left->sW,getLast?_map->tJ,getElem_take->tK,zipIdx_cons->tR,getElem_map->tZ,map_id->vJ,zipIdx_nil->vN,foldl->wF,map->wI,forIn_nil->wJ,map_drop->xA,map_set->xO,range'->xU
open PySem renaming wpAny_bind->aD,Value->aH,Shared->aR,wpAny_pure->aW,starEach->bK,sizeLine_eq->cN,Program->cO,mainGlobals->dD,wpAny_newObj_type->dE,wpAny_mono->dG,World->dH,wpAny_Call_Name_kw->dN,boot_len->dO,wpAny_holding->dQ,wpAny_field->eB,Around->eE,treeTable->eP,FuncData->eT,wpAny_callSpecial?_slot->eX,wpAny_call_entry->fF,wpAny_seqItems->fK,bootBuiltins->fP,wpAny_pyIter_tuple->gF,binaryOp->gQ,codeAny_builtin->hU,compareOp->iE,wpAny_setField_rec->iJ,IsPair->iM,wpAny_passesOwn->iQ,plainId_quiet->iU,wpAny_newList->iV,mem_of_lookup->iX,wpAny_letGo->jB,wpAny_loadPart'->jF,wpAny_truthy_bool->jK,Builtin->jM,Scope->jP,wpAny_tryCatch->jS,Keyword->kD,OsState->kH,wpAny_pyIter_list->kO,NameKind->kQ,wpAny_pyIter_enum->kW,Arguments->lM,wpAny_attempt->lX,wpAny_updateSeq_pair->mC,wpAny_execs_nil->mJ,wpAny_updateSeq->mN,codeAny->mW,Env->nC,builtinsNs->nD,wpAny_letOwnedTupleGo_enum->nK,wpAny_rule->nL,IsZip->nM,wpAny_newTuple->nN,BindsTo->oB,slot_list_getitem->oE,wpAny_standAt->oM,evalPart_none->oO,wpAny_getItem_list_slice->oP,wpAny_comprehension_free->oQ,wpAny_onRaise->oR,GenState->oY,noFill_tuple_add->pA,wpAny_isInstance->pD,wpAny_pyNext_range_end->pO,wpAny_pyIter_rangeiter->pP,codeAny_mono->pR,richCompare_meets_room->pT,IsPart->pW,wpAny_typeOf->pX,wpAny_specialOf->qN,builtinLookup_eq_fast->qV,IsRangeIter->rA,Params->rE,wpAny_newFunctionEnv->rF,ZipApart->rG,ItemsOf->rN,rangeSize_one->rV,seq_tuple_add->rW,nums_intItems->rX,wpAny_pyIter_range->sG,call_meets->sO,tupleKind_room_in1->sP,concat_meets->sX,wpAny_sequenceKey->sY,seqIndex_neg->sZ,wpAny_collect_seq->tI,wpAny_execs_cons->tL,PassesOwn->tM,wpAny_forIn_list->tO,TriplesOk->tQ,wpAny_pyIter_zip->tT,DictEntry->tV,wpAny_Slice->vE,seqIndex_of->vF,wpAny_of_eq->vG,Paired->vV,wpAny_Name->vW,wpAny_load->vX,bindArgs->vZ,wpAny_call->wA,typeIs_int->wD,PyData->wH,call->xY,Stmt->xZ
open PySem.Heap renaming get?_push_of_some->aG,get?_push_size->aZ,lt_size->bD,size_push->eF,get?_update_self->lJ,SameBut->mV,ExtBut->oF,size_update->pF,get?_update_other->pZ,IsTuple->tF
open PySem.W renaming Frag->aL,tabIn->dJ,emptyDict->fQ,boot_heap->fT,kas_ask->gT,fnOf->iA,instObj->iP,piece_app->iS,segRun_of->iT,BT->iW,keepIn->iY,piecesOf->jA,segRunT->jH,kas_sort->jO,findIn->jQ,nsIn->kT,topFrame->lU,OpenLaw->nB,codeIn->nF,boot_drawn->nR,topRun->nS,methodObj->nY,boot_toks->oJ,kat_kind->pH,cellsFrom_some->pS,kas_rev->qD,envX->qH,KatTups->qR,lookIn->rB,kat_lt->rK,Looks->rZ,specialIn->sU,plainGet->tN,kas_item->tX,kat_snds->tY,boot_o_0->vA,kat_nil->vP,kat_run->vR,kla_obj->vS,topStub->vT,blockOf->vU,kla_fn->wN,segRun->wQ,restOf->wR,WalkO->wY,mg_of->wZ,recOk->xD,isFn->xF,xlAt->xP
open Nat renaming le_refl->aP,lt_of_lt_of_le->bN,ne_of_lt->cB,sub_self->dC,lt_irrefl->dI,zero_le->dW,le_trans->eC,lt_succ_self->fE,ne_of_gt->jC,add_sub_cancel->kL,lt_succ_of_lt->kY,lt_trichotomy->lC,le_succ->lZ,le_of_lt->pN,zero_add->qC,sub_zero->qG,min_eq_left->qM,le_of_eq->sV
open PySem.Obj renaming mapSeq->bH,data_mapFields->sQ
open Option.some renaming inj->bQ
open Bool renaming false_eq_true->bV,and_eq_true->bZ,false_ne_true->cQ,eq_iff_iff->kE,and_eq_false_iff->lL,or_eq_true->mL,not_eq_true'->oH,and_true->oV,or_eq_false_iff->rL,and_comm->sB,false_and->vY,and_assoc->wO,or_false->wV,false_or->wW,true_and->xB,not_true->xC
open PyProof.Rows renaming callWith_type1->cC,slot_tuple_getitem->eA,Keyed->eL,get?_update_seq->eO,boot_sum->eS,boot_sorted->fM,IntsAre->fV,SortSt->gH,listUpdate_at->gJ,seqEpoch_at->mE,entry_list_sort->mS,listItems_at->mY,slot_list_sort->nO,IsTup->nZ,truthy_int->pE,AllBare->pM,subscriptTail_builtinR->pY,plain_sorted->qE,entry_sorted->qF,call_function_entry_kw->qI,kind_sorted->rJ,entry_tuple_getitem->rO,wpAny_call_entry_kw->rQ,boot_range->sH,args_tuple_getitem->sM,Subscript_->sN,callWith_kw->vI,tail_any->wC,ksk_tree->wK,ksk_rest->wL,ksk_tail->wM
open PySem.W.Fast renaming te14364793385576792824->cF,te10110043849684766642->dL,te5923862056798008813->kM
open Int renaming toNat_natCast->cK,emod_nonneg->kF,emod_lt_of_pos->kK,le_refl->mF,natCast_nonneg->nJ,ediv_nonneg->qO,toNat_of_nonneg->rR,max_eq_right->tP,mul_one->vC,min_eq_left->vK,ediv_one->xG,ofNat_le->xH,lt_trans->xL
open PySem.Heap.SameBut renaming update->cL
open PySem.Str renaming ofString->cT
open PySem.Builtin.SmallTypes renaming nextOf->cV,ownedTupleIsFree->fL,ownedTupleHandOut->jU
open Array renaming length_toList->cY,getD_eq_getD_getElem?->dZ,getElem?_toList->fZ,getElem?_eq_getElem->iN,append_assoc->sF,forIn_toList->sS,toList->sT,ext->tW,size_push->vQ
open PySem.Builtin.Tuple renaming tupleExact->dB,tupleCompareSizes->lF,tupleItemsOf->nH
open PySem.Builtin.Slice renaming slicePlaces->dU,sliceAdjust->fW,sliceApplied->iH,sliceFields->nT
open PySem.Value renaming none->eD,type->eM,ref->gU,int->nA,notImplemented->rD,bool->sE,isStrOf->wU,str->xE,isInt->xQ
open PySem.PyData renaming eqv->eG,canLay0->iK,depth->jE,eqvAll->kB,canLayAll0->tH,depthAll->vO,strOk->xN,list->xV
open PySem.F renaming plainAttrs_list->eY,plain_min_loop->fG,slot_list_append->gO,type_list_append->gP,slot_tuple_iterator_next->iI,plain_list_iadd->jR,args_tuple_add_2->jZ,entry_tuple_add->kN,slot_tuple_add->kR,entry_min_loop->lB,args_tuple_iterator_next_1->mO,slot_zip_next->mP,entry_tuple_iterator_next->mX,slot_dict_values->oU,args_tuple_lt_2->oZ,entry_tuple_lt->pV,slot_tuple_lt->qT,slot_enumerate_next->qU,slot_list_pop->qY,type_list_pop->qZ,args_object_init_2->rH,args_zip_next_1->tE,plain_tuple_new->tG,entry_zip_next->tS,slot_int_rmul->vM
open PySem.Around renaming under_plainId->fA,in1->lP,frames_deeper->rC
open Ne renaming symm->fN
open False renaming elim->fO
open PySem.PassesOwn renaming never->fU
open PySem.Builtin.Range renaming rangeSize->gW,small->mT
open PySem.Builtin.Str renaming occurrences->gX
open PySem.SeqAt renaming shaped->iB,EqAt->sJ
open ForInStep renaming yield->jG
open PySem.NameKind renaming free->jI,cell->rY
open List.Perm renaming append_left->jJ,refl->nQ,trans->qQ
open PySem.Builtin.List renaming listExtendWith->jN,listTooLong->kA,listSameRef->oT
open PySem.Builtin.Int renaming intBits->jV
open PySem.Calls renaming spliced_cons->kI,spliced_nil->kP,Name_function_global->nE,callWith_builtin->qA,call_function_entry->rP
open Sum renaming inl->lV,inr->pL
open Prod.mk renaming inj->lY
open PySem.W.KatTups renaming cons->mG,nil->mU
open PySem.W.WData renaming weightAll->mQ,int->pC,layableAll->tU,weight->xK,list->xW
open List.cons renaming injEq->mR
open PySem.Builtin.Builtins renaming bindParams->mZ
open PySem.Heap.IsSliceOf renaming new->nI
open PySem.W.Looks renaming now->oG
open PySem.Paired renaming length->oK,snoc->xT
open PySem.AutoSeq1 renaming sub_tuple_tuple->oN
open List.Pairwise renaming imp_of_mem->oW
open True renaming intro->pQ
open PySem.Walks renaming list->qB,range->xR
open StateT renaming run_pure->qP
open PySem.W.SharedT renaming abs->rT
open PySem.SeqAt.EqAt renaming int_str->sC,str_int->sD,int_int->sK,same->vL
open PyProof.Rows.SortSt renaming mk'->sR
open PySem.Data renaming fields->vB
open PySem.IsRange renaming new->vD
open PySem.Shared renaming heap->vH
open Prod renaming ext->wB
open Or renaming inr->wG,inl->xI
open Function renaming comp->wX
open PySem.Txt renaming mul->xJ
open PySem.W.WShape renaming has->xX
noncomputable section
open Option renaming some->ξ,none->ψ
local macro_rules|`(tactic|omega)=>`(tactic|lia)
local macro_rules|`(tactic|lk)=>`(tactic|decide +kernel)
open Lean in
set_option hygiene false in
local macro_rules
 | `($x:ident)=>match x.getId with
 |`Za=>`((by simp))
 |`Zb=>`((by decide))
 |`Zc=>`((by rfl))
 |`Zd=>`((by lk))
 |`Ze=>`((by omega))
 |`Zf=>`((.tup (ps.map p3U)))
 |`Zg=>`((model X.prog X.w))
 |`Zh=>`((fC (.int 1)))
 |`Zi=>`((MR.gTup 2 (MR.gCons (gN 0) (MR.gCons (gN 1) MR.gNil))))
 |`Zj=>`((fun _ _=>rfl))
 |`Zk=>`([ξ (.ref d),x1,ξ (.int n),ξ (.int way),x4,x5,x6,ξ (.ref ℓ),x8,ξ (.int a)])
 |`Zl=>`((Ac (Ad 0) Af))
 |`Zm=>`((hr.mono Zb))
 |`Zn=>`((fC (.int 0)))
 |`Zo=>`((MR.gTup 3 (MR.gCons (gN 0) (MR.gCons (gN 1) (MR.gCons (gN 2) MR.gNil)))))
 |`Zp=>`((blk X scope cl C N' s2 H2 fp pins))
 |`Zq=>`((bH fun _=>(#[]:Array aH)))
 |`Zr=>`([x0,ξ (.ref c),ξ (p3U p),ξ (.int (turnOf cs p:Nat)),ξ (.tup (cw.map nmC))])
 |`Zs=>`((.tbl (ps++#[rawInt pos.line,rawInt pos.col,.ref c'])))
 |`Zt=>`((.ref L.length))
 |`Zu=>`([ξ (.ref d),x1,x2,x3,x4,ξ (.int w),ξ (.int low),ξ (.ref ℓ),x8,x9])
 |`Zv=>`((Aa (Ag 0) Ae))
 |`Zw=>`((model prog w))
 |`Zx=>`((row.map U.int))
 |`Zy=>`((Bi Az A0 (Ag 0) Ah Zj))
 |`Zz=>`((Ac Zh (Ac (f2 Bq Zn (Ay 2 A9 (Ac (Ad 0) (Ac (fC (.int 99)) Af)))) (Ac (f2 Bq Zn (fC (.int 9999999999))) (Ac (f2 Bq (fC (.int 9999999999)) (f2 Df (fC (.int 8)) (Ad 2))) Af)))))
 |`ZA=>`((Ac (Ad 2) Af))
 |`ZB=>`([ξ (.ref r),ξ (.int (f:Int)),ξ (.int (b:Int)),ξ (.int ((b:Int) - (f:Int))),ξ (.int (m:Int)),ξ (Ie (f,b,cr))])
 |`ZC=>`([ξ (.ref r),ξ (.int (f:Int)),ξ (.int (b:Int)),ξ (.int ((b:Int) - (f:Int))),ψ,ψ])
 |`ZD=>`((Ak (Dc C LB) Zm Zc C.ux.g C.ux.F.kp C.ux.b (Aa (Ag 0) (Aa Ah Ae))))
 |`ZE=>`((.int row.length))
 |`ZF=>`((.ListComp elt [⟨tg,iter,ifs,0⟩] scope pos))
 |`ZG=>`((ns.map V.int))
 |`ZH=>`((Ay 2 A9 (Ac (Ad 0) (Ac (fC (.int 4)) Af))))
 |`ZI=>`((s.heap.objs.size+1))
 |`ZJ=>`((fun v H'=>∃ α',Gr H α H' α'/\Abs X.K H' α' L/\RepU X.K H' α' z v))
 |`ZK=>`([ξ (.ref d),x1,ξ (.int n),ξ (.int way),x4,x5,x6,ξ (.ref ℓ),x8,x9])
 |`ZL=>`((ps.map p3U))
 |`ZM=>`((.ref s.heap.objs.size))
 |`ZN=>`((fun _=>true))
 |`ZO=>`((false,eval a X.env))
 |`ZP=>`((Ac Zh (Ac (fC (.int 7)) (Ac (f2 Gd (fC (.int 10)) (fC (.int 6))) (Ac (f2 Fy (fC (.int 19999999998)) (Au Tn (Ac Zh ZA))) Af)))))
 |`ZQ=>`((false,eval e X.env))
 |`ZR=>`((Ac (Ad 1) Af))
 |`ZS=>`((((qsR row).map (cnt (qsR row))).map U.int))
 |`ZU=>`((Option Nat))
 |`ZV=>`((fun z=>hb (by simp[z])))
 |`ZW=>`([ξ (.ref d),x1,ξ (.int n),x3,x4,x5,x6,x7,x8,x9])
 |`ZX=>`((p - (cs.getD p 0).toNat))
 |`ZY=>`((.int (k:Int)))
 |`ZZ=>`((.lst (rs.map U.ref++[.ref M1.length])))
 |`Z0=>`((∀ c o,c≠z->c≠TO->c≠j1->c≠j2->s.heap.get? c=ξ o->h'.get? c=ξ o))
 |`Z1=>`((∀ v H' α',Gr H α H' α'->Abs K H' α' L'->RepU K H' α' z v->Q v H'))
 |`Z2=>`((EP X pins σ Q))
 |`Z3=>`((f+(b - f) / 2))
 |`Z4=>`((ns.map U.int))
 |`Z5=>`((Aa (Ag 2) Ae))
 |`Z6=>`((Gw.new _ _))
 |`Z7=>`([ξ Zf,ξ (.ref W),ξ (.ref E),ξ ZY,ξ (.ref rf),ξ (pU w rr)])
 |`Z8=>`((turnOf cs p))
 |`Z9=>`((row.getD i 0))
 |`Zaa=>`((ha pos pins s σ H _ I h))
 |`Zab=>`((.lst ((xs.set a (xs[a+1]'ha1)).map U.int)))
 |`Zac=>`([ξ Zf,ξ (.ref W),ξ (.ref E),ξ ZY,x4,x5])
 |`Zad=>`((Ac (Ad 0) (Ac (f2 Gd (fC (.int 10)) (fC (.int 5))) Af)))
 |`Zae=>`((I.ok.hd hc))
 |`Zaf=>`((.Call (.Name x p) (e::es) [] pos))
 |`Zag=>`((fC (.bl false)))
 |`Zah=>`((.int (i:Int)))
 |`Zai=>`((ha pins s σ H _ I h))
 |`Zaj=>`([ξ (.int (j:Int)),ξ (p3U (ptAt ps j)),ξ (pr p.2)])
 |`Zak=>`((g1.trans g2))
 |`Zal=>`((Ek (Bp (f2 Dq (Ad 4) Zh)) (Ba (f2 Bq Zn (fC (.int 9999999999))) (gN 6)) Cf))
 |`Zam=>`(((Cc (ltK ks) vs.length).map fun i=>ys.getD i .non))
 |`Zan=>`([ξ Zf,ξ (.ref A),ξ (.ref b),ξ (.ref M.length)])
 |`Zao=>`((Aa (Ag 1) Ae))
 |`Zap=>`((aT _ (aK _ (aK _ hq))))
 |`Zaq=>`((Ak (Ds C LB) Zm Zc C.ur.g C.ur.F.kp C.ur.b Z5))
 |`Zas=>`((n - (cs.getD n 0).toNat))
 |`Zat=>`((at0 p (m - 1)))
 |`Zau=>`((Ac (f2 Am (Ad 7) (f2 Be (Ad 9) Zh)) (Ac (f2 Am (Ad 7) (Ad 9)) Af)))
 |`Zav=>`([ξ R,ξ ZE,ξ P,ξ C,ξ (.ref rb'),ξ (.tup (bk.map U.int)),ψ,ψ])
 |`Zaw=>`((fun _ _ _ _ _ _=>(Ak (Cy C LB) Zm Zc C.uf.g C.uf.F.kp C.uf.b Zv)))
 |`Zax=>`(((xs.filter fun o=>decide (v < o)).map U.int))
 |`Zay=>`((fun z=>hc (by simp[z])))
 |`Zaz=>`((Bd Ci C7 Zc C.uS dO Zv))
 |`ZaA=>`((I1.hok.fresh (aP _)))
 |`ZaC=>`((aT _ (aK _ (aQ ..))))
 |`ZaD=>`((∀ b o,s.heap.get? b=ξ o->h'.get? b=ξ o))
 |`ZaE=>`((k == jI&&env.scope.kind == .function&&env.kindOf n == ξ .cell))
 |`ZaF=>`((MR.gCons (gN 1) (MR.gCons (gN 2) MR.gNil)))
 |`ZaG=>`((Au Na (Ac (f2 Dq (Ad 1) Zn) Af)))
 |`ZaH=>`((Ac (Ad 3) Af))
 |`ZaI=>`(((Hf n).map U.int))
 |`ZaJ=>`(((Di row).map U.int))
 |`ZaK=>`((fC (.int 2)))
 |`ZaL=>`((upd H s.heap.objs.size (.tup [.int i,v])))
 |`ZaM=>`((iA x qual (G1 st) (Ew st) (Aq st) .none kV doc pm an cdv ct))
 |`ZaN=>`((((Cc (ltK kz) vs.length).map fun i=>yr.getD i .non).reverse))
 |`ZaO=>`([ξ (.ref d),x1,ξ (.int n),x3,x4,x5,x6,ξ (.ref ℓ),x8,x9])
 |`ZaP=>`(((qsR row).map swp))
 |`ZaQ=>`((Au semTuple (Ac (Bo [ψ,ψ,ψ] (Bj (Ad 2)) Zo ψ G2) Af)))
 |`ZaR=>`((MR.gCons (gN 3) MR.gNil))
 |`ZaS=>`(((js.map fun j=>bs.getD j 0).map U.int))
 |`ZaT=>`((small_of (by show 1<=16777216;decide)))
 |`ZaU=>`((ks.map fun i=>ys.getD i .non))
 |`ZaV=>`((.lst ((xs++[low]).map U.int)))
 |`ZaW=>`([ξ (.ref c),ξ (p3U p),ψ,ψ])
 |`ZaX=>`((xs[a+1]'ha1))
 |`ZaY=>`((Ky ps (ptAt ps i).2))
 |`ZaZ=>`((K w.params))
 |`Za0=>`((HT.sIx xs.length xs.length hi - HT.sIx xs.length 0 lo))
 |`Za1=>`((A.deeper (envOfC qual (Aq st) s.heap.objs.size f cdv)))
 |`Za2=>`((Au semTuple (Ac (Bo [ψ,ψ] (Bj (Ad 4)) Zi ψ G5) Af)))
 |`Za3=>`((fun i j=>lt (at_ i) (at_ j)))
 |`Za4=>`((X5 CX P w K mg base N qual scope f cdv A outer s H E))
 |`Za5=>`(((qs.filter fun o=>below o q).map pr))
 |`Za6=>`(((qs.filter fun o=>below q o).map pr))
 |`Za7=>`([x0,x1,x2,ξ (.int way),x4,x5,x6,ξ (.ref ℓ),x8,x9])
 |`Za8=>`(((up.map fun q=>cnt lo q).map U.int))
 |`Za9=>`((sIx items.size items.size hi - sIx items.size 0 lo))
 |`Zba=>`([ξ Zf,ξ Zt,y2,ξ (.tup [.int (wS w1 c),nmU ps c])])
 |`Zbb=>`((bK es X.env))
 |`Zbc=>`((l.map U.int))
 |`Zbd=>`((ξ (.ref 6)))
 |`Zbe=>`((fun r=>Pm n r.2/\1<=r.1/\r.1<=nrem/\Up lt r.2 r.1))
 |`Zbf=>`((fun b o hb e=>(sb.2 b hb).trans e))
 |`Zbg=>`((fun z=>by cases z))
 |`Zbh=>`((ξ (.UnaryOp .USub (.Constant (.int 1) k q1) q2)))
 |`Zbi=>`(((abl ps k).map fun j=>pU w (b j)))
 |`Zbj=>`((notedBy Zg X.A X'.env fun e s'=>R (.error e) s'))
 |`Zbk=>`((Ak (Cy C LB) Zm Zc C.uf.g C.uf.F.kp C.uf.b Zao))
 |`Zbl=>`((upd H' D (.lst acc)))
 |`Zbm=>`((.Tuple elts x1 tpos))
 |`Zbn=>`((f2 Am (Ad 0) (Ad 3)))
 |`Zbo=>`(((bg ps 0).map U.int))
 |`Zbp=>`(((Co B8 row).map p3U))
 |`Zbq=>`((Ay 2 A9 (Ac (Ad 0) (Ac (f2 Bq (Ad 2) Zh) Af))))
 |`Zbr=>`((.builtin id))
 |`Zbt=>`((bB ps.length))
 |`Zbu=>`((Aa (Ag 3) Ae))
 |`Zbv=>`((.ListComp elt [⟨tg,iter,[],0⟩] scope pos))
 |`Zbw=>`((.Subscript o i pos))
 |`Zbx=>`((I.hok.fresh (aP _)))
 |`Zby=>`((bH fun _=>#[v,val]))
 |`Zbz=>`((Au Fo (Ac (Bo [ψ,ψ] (De Zl) Zi ψ Gz) Af)))
 |`ZbA=>`([ξ R,ξ ZE,ξ P,ξ C,ξ (.ref rb'),ψ,ψ,ψ])
 |`ZbB=>`((.BoolOp .And (a::b::rest) pos))
 |`ZbC=>`((.int (turnOf cs p:Nat)))
 |`ZbD=>`((out.push p++(b.extract t (nb - 1)).reverse))
 |`ZbE=>`((P6 X A N' q scope f c cl s H))
 |`ZbF=>`([ξ t,ξ (.int k),ξ (.int c)])
 |`ZbG=>`([x0,ξ (p3U p),x2,ξ (.ref r)])
 |`ZbH=>`((fun (i:Nat)=>U.tup [.int (i:Int),.int Z9]))
 |`ZbI=>`((.ref (L.length+1)))
 |`ZbJ=>`((.bool true))
 |`ZbK=>`((ih fun x hx=>hk x (aK _ hx)))
 |`ZbL=>`((envOfC qual scope s.heap.objs.size f cd))
 |`ZbM=>`((fun kv=>if kv.1=k then (kv.1,v) else kv))
 |`ZbN=>`((Ac (f2 Am (f2 Am (Ad 3) (Ip Zh)) Zn) Af))
 |`ZbO=>`((aT _ (aQ ..)))
 |`ZbP=>`((xs.map U.int))
 |`ZbQ=>`((fun k x=>rfl))
 |`ZbR=>`((up.map U.int))
 |`ZbS=>`((he pins s σ H _ I h))
 |`ZbT=>`((keywordEach [] X.env))
 |`ZbU=>`(((its.length:Int) - 1))
 |`ZbV=>`(((i:Int),row.getD i 0))
 |`ZbW=>`((.BoolOp .And (b::rest) pos))
 |`ZbX=>`((fun δ=>∃ a b,δ = [a,b]))
 |`ZbY=>`((fun (j:Nat)=>U.int (j:Int)))
 |`ZbZ=>`(((n::t).map V.int))
 |`Zb0=>`((fun b o hb e=>eb b o hb e))
 |`Zb1=>`((B8 i,(i:Int),row.getD i 0))
 |`Zb2=>`((cnt (qsR row)))
 |`Zb3=>`((fun _=>rfl))
 |`Zb4=>`((cB (bN (bD e) (I.ok.cab x c hfn hc))))
 |`Zb5=>`((.tup [.int i,v]))
 |`Zb6=>`((f2 Am (Ad 0) Zh))
 |`Zb7=>`((Str×(Int×Int)))
 |`Zb9=>`((ixU (Dj ps)))
 |`Zca=>`((if neg then !inV x xs else inV x xs))
 |`Zcb=>`((bH fun _=>(Dx vr q).reverse.toArray))
 |`Zcc=>`((fun b ob q=>aG _ q))
 |`Zcd=>`((b∈X.ex\/X.s₀.heap.objs.size<=b))
 |`Zce=>`((Ki q h (fun z=>by subst z;exact m)))
 |`Zcf=>`((.Compare a [op] [b] pos))
 |`Zcg=>`((fun x hx=>h x (aK _ hx)))
 |`Zch=>`((fun _ _ _ _ _ _=>(Ag 0)))
 |`Zci=>`((eval o X.env))
 |`Zcj=>`((Ac (Ad 0) ZR))
 |`Zck=>`((Ac (Ad 1) Zl))
 |`Zcl=>`((Aa (Ag 1) Zv))
 |`Zcm=>`((ξ (.int most)))
 |`Zcn=>`((fun b o hb e=>(s1.2 b hb).trans e))
 |`Zco=>`((([]::(abl ps k).map b).map (pU w)))
 |`Zcp=>`([ξ Zf,ξ (.ref W),ξ (pU w (b k))])
 |`Zcq=>`(([Ie (f,b,cr)]++(hv qs f m).map Ie))
 |`Zcr=>`([ξ Zah,ξ (.int Z9),ξ (.str abc)])
 |`Zcs=>`((fun x=>x.1.isSome))
 |`Zct=>`((a.length+b.length))
 |`Zcu=>`((c.map fun j=>U.str (ptAt ps j).1))
 |`Zcv=>`((Ao (Ax Qe)))
 |`Zcw=>`((kvs.any fun kv=>decide (kv.1=k)))
 |`Zcx=>`((MR.gTup 2 (MR.gCons (gN 2) ZaR)))
 |`Zcy=>`((aT _ (aT _ (Jt hb e))))
 |`Zcz=>`((Ac Zn (Ac (C0 Af) Af)))
 |`ZcA=>`((Bi Az A0 (Ag 2) Ah Zj))
 |`ZcB=>`((f2 Am (Ad 0) ZaK))
 |`ZcC=>`(((r.length:Int),v))
 |`ZcE=>`((Hf row.length))
 |`ZcF=>`((.Name x pos))
 |`ZcG=>`((.lst ((Kd ps (k+1)).map U.int)))
 |`ZcH=>`((bN (bD e) I.ok.above))
 |`ZcI=>`([ξ Zf,ξ (.ref W),ψ])
 |`ZcJ=>`((.int (if j > i then j else i)))
 |`ZcK=>`(((Dj ps).map fun i=>pU w (b i)))
 |`ZcL=>`(((ps.filter (inC e.2)).map nmC))
 |`ZcM=>`((.tup (k.map kV)))
 |`ZcN=>`((f2 Am (Ad 0) Zn))
 |`ZcO=>`((f2 Be (Ad 9) Zh))
 |`ZcP=>`((f2 Am (Ad 2) Zn))
 |`ZcQ=>`((p,B6 cs Z8++[p]))
 |`ZcR=>`((rs.map U.ref))
 |`ZcS=>`((.lst (M9 lo (hi - lo).toNat)))
 |`ZcT=>`((I2.hok.fresh (aP _)))
 |`ZcU=>`((fun v z=>by cases z))
 |`ZcV=>`((f2 Am (Ad 1) (Ad 0)))
 |`ZcW=>`(((Kd ps T).map U.int))
 |`ZcX=>`((fun k x=>Jv (Cd hr)))
 |`ZcY=>`(((mid qs f m).map pr))
 |`ZcZ=>`(((mid qs m b).map pr))
 |`Zc0=>`((upd H P Zs))
 |`Zc1=>`((qs.map p3U))
 |`Zc2=>`((bH fun _=>(Dx vs q).toArray))
 |`Zc3=>`((Ac (f2 Be (Au Bg Zl) Zh) Af))
 |`Zc4=>`((MR.gTup 2 (MR.gCons Zo ZaR)))
 |`Zc5=>`([x0,x1,x2,x3,x4])
 |`Zc6=>`((ltK ks.reverse))
 |`Zc7=>`((ξ (.int step)))
 |`Zc8=>`((Bf Tj Ox Ah Ah))
 |`Zc9=>`((List Key×Addr×aH))
 |`Zda=>`((if k then 1 else 0))
 |`Zdb=>`((Bh i (j - i).toNat))
 |`Zdc=>`((false,eval b X.env))
 |`Zdd=>`((List Int×List Int))
 |`Zde=>`((.ref (L++x).length))
 |`Zdf=>`([ξ R,ξ ZE,ξ P,ψ])
 |`Zdg=>`((.lst ((bg ps k).map U.int)))
 |`Zdh=>`((hi σ H Q q))
 |`Zdi=>`((.int ns.sum))
 |`Zdj=>`((.bl true,L'))
 |`Zdk=>`((-9999999999))
 |`Zdl=>`((I.base.keep b o e n hb hx))
 |`Zdm=>`((assign (.Name y py) X.env))
 |`Zdn=>`((ha pos' pins s σ H _ I h))
 |`Zdo=>`((Bi Az A0 (Ag 0) (Ag 3) Zj))
 |`Zdp=>`((fun b u e=>aG _ e))
 |`Zdq=>`((upd H p (.tup xs)))
 |`Zdr=>`((upd H p (.lst xs)))
 |`Zds=>`(((Fv ns).map V.int))
 |`Zdt=>`((kv.length - (m+1)))
 |`Zdu=>`((fun _ _ h=>h.elim))
 |`Zdv=>`((G6 Zc C.uQ Zv))
 |`Zdw=>`((Aa (Ag 0) Zao))
 |`Zdx=>`((seqItems? (.ref S) >>= _))
 |`Zdy=>`(((cs.map key).getD i .non))
 |`Zdz=>`(((cs.map key).getD j .non))
 |`ZdA=>`((.frz o (.lst xs)))
 |`ZdB=>`((Ik (Agv j t u v)))
 |`ZdC=>`((Ac fa (Ac fb Af)))
 |`ZdD=>`((M++y++[HU.lst R]))
 |`ZdE=>`((start N vs))
 |`ZdF=>`((bS.mpr rfl))
 |`ZdG=>`((.ret .none))
 |`ZdH=>`((cs.map key))
 |`ZdI=>`((qs.map toL))
 |`ZdJ=>`((f (.int i t) (.int j u)))
 |`ZdK=>`((ns.any fun n=>!(n == 0)))
 |`ZdL=>`((f2 Eu (Ad 3) (Au Bg ZR)))
 |`ZdM=>`((Bd Ci C7 Zc C.uS dO Zao))
 |`ZdN=>`((f2 sem fa fb))
 |`ZdO=>`((Ex.new d _ _))
 |`ZdP=>`((sp (qsR row)))
 |`ZdQ=>`((I.base.free b o e n hx))
 |`ZdR=>`((.ref s3.heap.objs.size))
 |`ZdS=>`((g1.trans (g2.trans g3)))
 |`ZdT=>`((h1.but s1.extBut D.i1z))
 |`ZdU=>`((g1.but s1.extBut D.l1z))
 |`ZdV=>`((fun δ=>∃ a,δ = [a]))
 |`ZdW=>`((σ.set i (ξ v)))
 |`ZdX=>`((f2 Dq (Ad 3) Zn))
 |`ZdY=>`((.lst (l.map eU)))
 |`ZdZ=>`((iP C s.heap.objs.size))
 |`Zd0=>`((HT.sIx xs.length 0 lo))
 |`Zd1=>`((Ac (Vu (Au D8 Zl)) Af))
 |`Zd2=>`(((Ed ps).mem_iff.mp hi))
 |`Zd3=>`(((b:Int) - (f:Int) < 2))
 |`Zd4=>`((Aa Ah (Aa (Cq Ae) Ae)))
 |_=>Macro.throwUnsupported
namespace L2
open PySem PySem.Spec PyProof.Rows
noncomputable abbrev Key:=Sum Int Str
def Vd:Key->aH->Bool
 | .inl k,v=>xQ k v
 | .inr x,v=>wU x v
def Avg(w:dH):Key->Int
 | .inl k=>hashInt k
 | .inr x=>hashStr w x
theorem Cw:∀ {k:Key} {v:aH},Vd k v=true->(∃ i t,k=lV i/\v=nA i t)\/(∃ x t,k=pL x/\v=xE x t)
 | .inl i,v,h=>by
  obtain ⟨t,e⟩:=aH.isInt_shape (k:=i) (v:=v) h;exact .inl ⟨i,t,rfl,e⟩
 | .inr x,v,h=>by
  obtain ⟨t,e⟩:=aH.isStrOf_shape (x:=x) (v:=v) h;exact .inr ⟨x,t,rfl,e⟩
theorem Adk(i:Int)(t:Tok):Vd (.inl i) (.int i t)=true:=by simp[Vd,xQ]
theorem Aev(x:Str)(t:Tok):Vd (.inr x) (.str x t)=true:=by simp[Vd,wU]
theorem Apy(a b:Int):decide ((lV a:Key)=lV b)=(a == b):=by
 by_cases e:a=b
 ·subst e;simp
 ·have h:¬ (lV a:Key)=lV b:=fun q=>e (lV.inj q)
  rw[decide_eq_false h];exact (beq_eq_false_iff_ne.mpr e).symm
theorem Ap2(a b:Str):decide ((pL a:Key)=pL b)=decide (a=b):=by
 by_cases e:a=b
 ·subst e;simp
 ·have h:¬ (pL a:Key)=pL b:=fun q=>e (pL.inj q)
  rw[decide_eq_false h,decide_eq_false e]
theorem An4(a:Int)(b:Str):decide ((lV a:Key)=pL b)=false:=decide_eq_false (fun q=>nomatch q)
theorem An9(a:Str)(b:Int):decide ((pL a:Key)=lV b)=false:=decide_eq_false (fun q=>nomatch q)
def Cv(prog:cO)(w:dH):PySem.KeyKind prog w Key where
 is:=Vd
 hash:=Avg w
 inj:=fun v a b ha hb=>by
  rcases Cw ha with ⟨i,t,rfl,rfl⟩ | ⟨x,t,rfl,rfl⟩
  ·rcases Cw hb with ⟨j,u,rfl,e⟩ | ⟨y,u,rfl,e⟩
   ·injection e with e1 _;rw[e1]
   ·exact nomatch e
  ·rcases Cw hb with ⟨j,u,rfl,e⟩ | ⟨y,u,rfl,e⟩
   ·exact nomatch e
   ·injection e with e1 _;rw[e1]
 byValue:=fun k v h=>by
  rcases Cw h with ⟨i,t,rfl,rfl⟩ | ⟨x,t,rfl,rfl⟩ <;> rfl
 pyHash:=fun hv h=>by
  rcases Cw hv with ⟨i,t,rfl,rfl⟩ | ⟨x,t,rfl,rfl⟩
  ·exact wpAny_pyHash_int h
  ·exact wpAny_pyHash_str h
 eqBool:=fun hu hv h=>by
  rcases Cw hu with ⟨i,t,rfl,rfl⟩ | ⟨x,t,rfl,rfl⟩
  ·rcases Cw hv with ⟨j,u,rfl,rfl⟩ | ⟨y,u,rfl,rfl⟩
   ·rw[Apy] at h;exact wpAny_eqBool_int h
   ·rw[An4] at h;exact sC i t y u _ _ _ _ h
  ·rcases Cw hv with ⟨j,u,rfl,rfl⟩ | ⟨y,u,rfl,rfl⟩
   ·rw[An9] at h;exact sD x t j u _ _ _ _ h
   ·rw[Ap2] at h;exact wpAny_eqBool_str h
 «strs» := fun k x t v h=>by
  rcases Cw h with ⟨i,u,rfl,e⟩ | ⟨y,u,rfl,e⟩
  ·exact nomatch e
  ·injection e with e1 _
   subst e1;cases v <;> rfl
theorem W4(prog:cO)(w:dH)(i:Int)(t:Tok):(Cv prog w).is (.inl i) (.int i t)=true:=Adk i t
theorem Xr(prog:cO)(w:dH)(x:Str)(t:Tok):(Cv prog w).is (.inr x) (.str x t)=true:=Aev x t
inductive V where
 | non | bl (b:Bool) | int (i:Int) | str (x:Str) | byt (b:Array UInt8) | flt (b:UInt64) | ref (a:Addr) | ty (n:String)
 deriving DecidableEq
noncomputable def RelV:V->aH->Prop
 | .non,u=>u=eD
 | .bl b,u=>u=sE b
 | .int i,u=>∃ t,u=nA i t
 | .str x,u=>∃ t,u=xE x t
 | .byt b,u=>∃ t,u=aH.bytes b t
 | .flt b,u=>∃ t,u=aH.float b t
 | .ref a,u=>u=gU a
 | .ty n,u=>u=eM n
abbrev Vals:List V->List aH->Prop:=vV RelV
variable {xs:List V}{us:List aH}
theorem Vals.length(r:Vals xs us):xs.length=us.length:=oK r
variable {i:Nat}
theorem Vals.get{x:V}(h:Vals xs us)(e:xs[i]? = ξ x):∃ u,us[i]? = ξ u/\RelV x u:=by
 induction h generalizing i with
 | nil=>cases e
 | cons r t ih=>
  cases i with
  | zero=>cases e;exact ⟨_,rfl,r⟩
  | succ i=>exact ih (i:=i) e
variable {u:aH}
theorem Vals.set{x:V}(r:RelV x u)(i:Nat)(h:Vals xs us):Vals (xs.set i x) (us.set i u):=by
 induction h generalizing i with
 | nil=>exact .nil
 | cons q t ih=>
  cases i with
  | zero=>exact .cons r t
  | succ i=>exact .cons q (ih i)
variable {ys:List V}
theorem Vals.append{ws:List aH}(h:Vals xs us)(s:Vals ys ws):Vals (xs++ys) (us++ws):=by
 induction h with
 | nil=>exact s
 | cons r t ih=>exact .cons r ih
theorem Vals.take(n:Nat)(h:Vals xs us):Vals (xs.take n) (us.take n):=by
 induction h generalizing n with
 | nil=>cases n <;> exact .nil
 | cons r t ih=>
  cases n with
  | zero=>exact .nil
  | succ n=>exact .cons r (ih n)
theorem Vals.drop(n:Nat)(h:Vals xs us):Vals (xs.drop n) (us.drop n):=by
 induction h generalizing n with
 | nil=>cases n <;> exact .nil
 | cons r t ih=>
  cases n with
  | zero=>exact .cons r t
  | succ n=>exact ih n
def RelO:Option V->Option aH->Prop
 | some v,ξ u=>RelV v u
 | none,ψ=>True
 | _,_=>False
def KV{κ:Type}:List (κ×V)->List (κ×aH)->Prop:=vV fun (p:κ×V) (q:κ×aH)=>p.1=q.1/\RelV p.2 q.2
def kV:Key->V
 | .inl i=>.int i
 | .inr x=>.str x
inductive HO where
 | lst (xs:List V)
 | tup (xs:List V)
 | dK (kvs:List (Key×V)) | dT (kvs:List (List Key×V))
 | set (S:Int->Bool) (n:Nat)
 | ins (C dx:Addr) (fs:List (Str×V))
 | own (x:Addr)
 | xd (fs:List (Str×V))
 | met (f x:Addr)
 | rng (lo hi:Int)
 | frz (o:Obj) (u:HO)
 | tbl (ps:Array aH)
 | ext (φ:Heap->Prop)
noncomputable abbrev Hp:=Addr->Option HO
def upd(H:Hp)(a:Addr)(o:HO):Hp:=fun b=>if b=a then ξ o else H b
variable {H:Hp}{a:Addr}{o:HO}
theorem upd_same:upd H a o a=ξ o:=by unfold upd;rw[if_pos rfl]
variable {b:Addr}
theorem Aw(h:b≠a):upd H a o b=H b:=by unfold upd;rw[if_neg h]
theorem Ki{u:HO}(h:H a=ξ o)(h':H b=ξ u)(d:o≠u):a≠b:=by
 intro e;subst e;rw[h] at h';exact d (bQ h')
theorem Bc(h:H a=ξ o)(h':H b=ψ):a≠b:=by
 intro e;subst e;rw[h] at h';cases h'
def TupN(h:Heap)(a:Addr)(its:Array aH):Prop:=∃ o:Obj,h.get? a=ξ o/\(o.cls,o.dict)=(eM "tuple",(ψ:Option Addr))/\∃ n,o.data = .seq its n
variable {h:Heap}
theorem TupN.is{its:Array aH}(x:TupN h a its):h.IsTuple a its:=by
 obtain ⟨o,e,c,n,d⟩:=x;exact ⟨o,e,(lY c).1,n,d⟩
theorem TupN.new(h:Heap)(its:Array aH):TupN (h.push { cls:=.type "tuple",data:=.seq its }) h.objs.size its:=⟨_,aZ _ rfl,rfl,0,rfl⟩
theorem TupN.lt{its:Array aH}(x:TupN h a its):a < h.objs.size:=by
 obtain ⟨o,e,_⟩:=x;exact bD e
section
variable (P:cO)(w:dH)
def ObjOk(H:Hp)(h:Heap)(a:Addr):HO->Prop
 | .lst xs=>xs.length<=sizeLine/\∃ (its:List aH) (n:Nat),Vals xs its/\h.get? a=ξ { cls:=.type "list",data:=.seq its.toArray n }
 | .tup xs=>xs.length<=sizeLine/\∃ its:List aH,Vals xs its/\TupN h a its.toArray
 | .dK kvs=>kvs.length<=sizeLine/\(a == sysModules)=false/\∃ vs,KV kvs vs/\h.DictOf (Cv P w) a vs
 | .dT kvs=>kvs.length<=sizeLine/\(a == sysModules)=false/\∃ xs:List Zc9,
   vV (fun (p:List Key×V) (q:List Key×Addr×aH)=>p.1=q.1/\H q.2.1=ξ (.tup (p.1.map kV))/\RelV p.2 q.2.2) kvs xs /\
   ∃ o es ep,h.get? a=ξ o/\o.ExactDict/\o.data = .dict es ep/\es.toList=xs.map (entryOfKey (tupleKind (Cv P w)))/\(xs.map (·.1)).Nodup
 | .set S n=>h.SetOf (intKind P w) a S n
 | .ins C dx fs=>H dx=ξ (.own a)/\fs.length<=1000/\dx≠a/\h.get? a=ξ (iP C dx) /\
   ∃ mA,h.Ns1 dx mA/\(∀ f,RelO (fs.lookup f) (mA f))/\PySem.Within mA (fs.map (·.1))
 | .own _=>∃ o,h.get? a=ξ o
 | .xd fs=>∃ mA,h.Ns1 a mA/\∀ f,RelO (fs.lookup f) (mA f)
 | .rng lo hi=>∃ t u v,h.get? a=ξ { cls:=.type "range",data:=.fields #[.int lo t,.int hi u,.int 1 v] }
 | .frz o u=>h.get? a=ξ o/\ObjOk H h a u
 | .tbl ps=>h.get? a=ξ { cls:=.none,data:=.fields ps }
 | .met f x=>h.get? a=ξ (nY (.ref f) (.ref x))
 | .ext φ=>φ h/\(∃ o,h.get? a=ξ o)/\∀ h1 h2:Heap,φ h1->(∀ o,h1.get? a=ξ o->h2.get? a=ξ o)->φ h2
def HOk(H:Hp)(h:Heap):Prop:=∀ a o,H a=ξ o->ObjOk P w H h a o
end
variable {P:cO}{w:dH}{H':Hp}{h':Heap}
section
theorem ObjOk.lt(x:ObjOk P w H h a o):a < h.objs.size:=by
 cases o with
 | lst xs=>obtain ⟨_,_,_,_,e⟩:=x;exact bD e
 | tup xs=>obtain ⟨_,_,_,p⟩:=x;exact p.lt
 | dK kvs=>obtain ⟨_,_,_,_,o,_,_,e,_⟩:=x;exact bD e
 | dT kvs=>obtain ⟨_,_,_,_,o,_,_,e,_⟩:=x;exact bD e
 | set S n=>obtain ⟨o,_,_,_,e,_⟩:=x;exact bD e
 | ins C dx fs=>obtain ⟨_,_,_,e,_⟩:=x;exact bD e
 | own y=>obtain ⟨_,e⟩:=x;exact bD e
 | xd fs=>obtain ⟨_,⟨_,_,_,e,_⟩,_⟩:=x;exact bD e
 | rng lo hi=>obtain ⟨_,_,_,e⟩:=x;exact bD e
 | frz ob u=>obtain ⟨e,_⟩:=x;exact bD e
 | tbl ps=>exact bD (show h.get? a=ξ _ from x)
 | met f y=>exact bD (show h.get? a=ξ _ from x)
 | ext φ=>obtain ⟨_,⟨_,e⟩,_⟩:=x;exact bD e
theorem Paired.mapP{α β:Type}{F G:α->β->Prop}{l₁:List α}{l₂:List β}(h:vV F l₁ l₂)(f:∀ a b,F a b->G a b):vV G l₁ l₂:=by
 induction h with
 | nil=>exact .nil
 | cons r t ih=>exact .cons (f _ _ r) ih
theorem ObjOk.stay(x:ObjOk P w H h a o)(k:∀ b u,(b=a\/H b=ξ (.own a))->h.get? b=ξ u->h'.get? b=ξ u)
  (ho:∀ b,H b=ξ (.own a)->H' b=ξ (.own a)) (ht:∀ b xs,H b=ξ (.tup xs)->H' b=ξ (.tup xs)):ObjOk P w H' h' a o:=by
 induction o with
 | lst xs=>obtain ⟨z,its,n,r,e⟩:=x;exact ⟨z,its,n,r,k _ _ (.inl rfl) e⟩
 | tup xs=>obtain ⟨z,its,r,ob,e,c⟩:=x;exact ⟨z,its,r,ob,k _ _ (.inl rfl) e,c⟩
 | dK kvs=>obtain ⟨z,y,vs,r,ob,es,ep,e,c⟩:=x;exact ⟨z,y,vs,r,ob,es,ep,k _ _ (.inl rfl) e,c⟩
 | dT kvs=>
  obtain ⟨z,y,xs,r,ob,es,ep,e,c⟩:=x;exact ⟨z,y,xs,Paired.mapP r fun p q z=>⟨z.1,ht _ _ z.2.1,z.2.2⟩,ob,es,ep,k _ _ (.inl rfl) e,c⟩
 | set S n=>obtain ⟨ob,es,ep,t,e,c⟩:=x;exact ⟨ob,es,ep,t,k _ _ (.inl rfl) e,c⟩
 | ins C dx fs=>
  obtain ⟨d,z,ne,e,mA,⟨od,es,ep,e2,c⟩,r⟩:=x;exact ⟨ho _ d,z,ne,k _ _ (.inl rfl) e,mA,⟨od,es,ep,k _ _ (.inr d) e2,c⟩,r⟩
 | own y=>obtain ⟨ob,e⟩:=x;exact ⟨ob,k _ _ (.inl rfl) e⟩
 | xd fs=>obtain ⟨mA,⟨od,es,ep,e,c⟩,r⟩:=x;exact ⟨mA,⟨od,es,ep,k _ _ (.inl rfl) e,c⟩,r⟩
 | rng lo hi=>obtain ⟨t,u,v,e⟩:=x;exact ⟨t,u,v,k _ _ (.inl rfl) e⟩
 | frz ob u ih=>obtain ⟨e,q⟩:=x;exact ⟨k _ _ (.inl rfl) e,ih q⟩
 | tbl ps=>
  have e:h.get? a=ξ { cls:=.none,data:=.fields ps }:=x;show h'.get? a=ξ { cls:=.none,data:=.fields ps };exact k a _ (.inl rfl) e
 | met f y=>
  have e:h.get? a=ξ (nY (.ref f) (.ref y)):=x;show h'.get? a=ξ (nY (.ref f) (.ref y));exact k a _ (.inl rfl) e
 | ext φ=>obtain ⟨p,⟨o,e⟩,st⟩:=x;exact ⟨st _ _ p fun o q=>k _ _ (.inl rfl) q,⟨o,k _ _ (.inl rfl) e⟩,st⟩
theorem HOk.lt(x:HOk P w H h)(e:H a=ξ o):a < h.objs.size:=(x a o e).lt
theorem HOk.fresh(x:HOk P w H h)(e:h.objs.size<=a):H a=ψ:=by
 cases q:H a with
 | none=>rfl
 | some u=>exact absurd (bN (x.lt q) e) (dI _)
theorem HOk.kept(x:HOk P w H h)(k:∀ b u,h.get? b=ξ u->h'.get? b=ξ u):HOk P w H h':=fun a o e=>
 (x a o e).stay (fun b u _ q=>k b u q) (fun _ q=>q) fun _ _ q=>q
theorem HOk.laid(x:HOk P w H h)(k:∀ b u,h.get? b=ξ u->h'.get? b=ξ u)(hp:h.objs.size<=a)(new:ObjOk P w (upd H a o) h' a o):HOk P w (upd H a o) h':=fun b u e=>by
 have hn:=x.fresh hp;by_cases hb:b=a
 ·subst hb;rw[upd_same] at e;cases e;exact new
 ·rw[Aw hb] at e;exact (x b u e).stay (fun c v _ q=>k c v q) (fun c q=>by rw[Aw (Bc q hn)];exact q) fun c xs q=>by rw[Aw (Bc q hn)];exact q
end
def Rd(H:Hp)(a:Addr)(u:HO):Prop:=H a=ξ u\/∃ o,H a=ξ (.frz o u)
theorem Rd.of{u:HO}(h:H a=ξ u):Rd H a u:=.inl h
theorem Rd.ok{u:HO}(r:Rd H a u)(x:HOk P w H h):ObjOk P w H h a u:=by
 rcases r with r | ⟨o,r⟩
 ·exact x a u r
 ·obtain ⟨_,q⟩:=x a _ r;exact q
def Mut:Option HO->Prop
 | some (.lst _)=>True
 | some (.dK _)=>True
 | some (.dT _)=>True
 | some (.set _ _)=>True
 | some (.ins _ _ _)=>True
 | some (.ext _)=>True
 | _=>False
section
variable {x e:Addr}{o':HO}
theorem HOk.write(ok:HOk P w H h)(mu:Mut (H x))(he:e=x\/H e=ξ (.own x))(k:∀ b u,b≠e->h.get? b=ξ u->h'.get? b=ξ u)(heo:∃ u,h'.get? e=ξ u)
  (new:ObjOk P w (upd H x o') h' x o'):HOk P w (upd H x o') h':=fun b u q=>by
 have nown:∀ c y,H c=ξ (.own y)->c≠x:=fun c y r z=>by subst z;rw[r] at mu;exact mu
 have ntup:∀ c xs,H c=ξ (.tup xs)->c≠x:=fun c xs r z=>by subst z;rw[r] at mu;exact mu
 by_cases hb:b=x
 ·subst hb;rw[upd_same] at q;cases q;exact new
 ·rw[Aw hb] at q;by_cases hbe:b=e
  ·have q':H b=ξ (.own x):=by
    rcases he with z | z
    ·exact absurd (hbe.trans z) hb
    ·rw[hbe];exact z
   rw[q] at q';cases q';obtain ⟨v,hv⟩:=heo;exact ⟨v,by rw[hbe];exact hv⟩
  ·refine (ok b u q).stay (fun c v hc r=>k c v ?_ r) (fun c r=>by rw[Aw (nown c b r)];exact r) fun c xs r=>by rw[Aw (ntup c xs r)];exact r
   rcases hc with rfl | hc
   ·exact hbe
   ·rintro rfl;rcases he with z | z
    ·exact nown c b hc z
    ·rw[hc] at z;cases z;exact hb rfl
end
structure Un(fs ex:List Addr)(H H':Hp)(h h':Heap):Prop where
 keep:∀ b o,h.get? b=ξ o->H b=ψ->b∉fs->b∉ex->h'.get? b=ξ o
 slot:∀ b o,h.get? b=ξ o->H b=ψ->b∈fs->b∉ex->∃ sl,h'.get? b=ξ { o with slots:=sl }
 free:∀ b o,h.get? b=ξ o->H b=ψ->b∉ex->H' b=ψ
 there:∀ b o,h.get? b=ξ o->b∉ex->∃ o',h'.get? b=ξ o'
 tups:∀ b xs,H b=ξ (.tup xs)->H' b=ξ (.tup xs)
 frzs:∀ b o u,H b=ξ (.frz o u)->H' b=ξ (.frz o u)
 tbls:∀ b ps,H b=ξ (.tbl ps)->∃ more,H' b=ξ (.tbl (ps++more))
section
variable {fs fs' ex ex':List Addr}{H1 H2:Hp}{h1 h2:Heap}{x e:Addr}
theorem Un.any(u:Un fs ex H H1 h h1){ob:Obj}(q:h.get? b=ξ ob)(n:H b=ψ)(hx:b∉ex):∃ sl,h1.get? b=ξ { ob with slots:=sl }:=by
 by_cases hb:b∈fs
 ·exact u.slot b ob q n hb hx
 ·exact ⟨ob.slots,u.keep b ob q n hb hx⟩
theorem Un.trans(a:Un fs ex H H1 h h1)(b:Un fs ex H1 H2 h1 h2):Un fs ex H H2 h h2 where
 keep:=fun c ob q n hc hx=>b.keep c ob (a.keep c ob q n hc hx) (a.free c ob q n hx) hc hx
 slot:=fun c ob q n hc hx=>by
  obtain ⟨sl,e1⟩:=a.slot c ob q n hc hx;obtain ⟨sl',e2⟩:=b.slot c _ e1 (a.free c ob q n hx) hc hx;exact ⟨sl',e2⟩
 free:=fun c ob q n hx=>by
  obtain ⟨o',e1⟩:=a.there c ob q hx;exact b.free c o' e1 (a.free c ob q n hx) hx
 there:=fun c ob q hx=>by
  obtain ⟨o',e1⟩:=a.there c ob q hx;exact b.there c o' e1 hx
 tups:=fun c xs q=>b.tups c xs (a.tups c xs q)
 frzs:=fun c ob xs q=>b.frzs c ob xs (a.frzs c ob xs q)
 tbls:=fun c ps q=>by
  obtain ⟨m1,e1⟩:=a.tbls c ps q;obtain ⟨m2,e2⟩:=b.tbls c _ e1;exact ⟨m1++m2,by rw[e2,sF]⟩
theorem Un.kept(k:∀ b u,h.get? b=ξ u->h'.get? b=ξ u):Un fs ex H H h h':=
 ⟨fun b ob q _ _ _=>k b ob q,fun b ob q _ _ _=>⟨ob.slots,k b ob q⟩,fun _ _ _ n _=>n,fun b ob q _=>⟨ob,k b ob q⟩,fun _ _ q=>q,fun _ _ _ q=>q,fun _ ps q=>⟨#[],by rw[q];simp⟩⟩
theorem Un.refl:Un fs ex H H h h:=Un.kept fun _ _ q=>q
theorem Un.laid(k:∀ b u,h.get? b=ξ u->h'.get? b=ξ u)(hp:h.objs.size<=a)(hn:H a=ψ):Un fs ex H (upd H a o) h h' where
 keep:=fun b u q _ _ _=>k b u q
 slot:=fun b u q _ _ _=>⟨u.slots,k b u q⟩
 free:=fun b u q n _=>by rw[Aw (cB (bN (bD q) hp))];exact n
 there:=fun b u q _=>⟨u,k b u q⟩
 tups:=fun b xs q=>by rw[Aw (Bc q hn)];exact q
 frzs:=fun b u xs q=>by rw[Aw (Bc q hn)];exact q
 tbls:=fun b ps q=>⟨#[],by rw[Aw (Bc q hn),q];simp⟩
theorem Un.write(mu:Mut (H x))(he:e=x\/H e=ξ (.own x))(k:∀ b u,b≠e->h.get? b=ξ u->h'.get? b=ξ u)(heo:∃ u,h'.get? e=ξ u):Un fs ex H (upd H x o) h h':=by
 have hx:∀ b,H b=ψ->b≠x:=fun b n z=>by subst z;rw[n] at mu;exact mu
 have hb:∀ b,H b=ψ->b≠e:=fun b n z=>by
  subst z;rcases he with r | r
  ·exact hx b n r
  ·rw[n] at r;cases r
 have hm:∀ b u,H b=ξ u->¬ Mut (ξ u)->b≠x:=fun b u q nm z=>by subst z;rw[q] at mu;exact nm mu
 refine ⟨fun b u q n _ _=>k b u (hb b n) q,fun b u q n _ _=>⟨u.slots,k b u (hb b n) q⟩,fun b u q n _=>by rw[Aw (hx b n)];exact n,fun b u q _=>?_,
  fun b xs q=>by rw[Aw (hm b _ q fun z=>z)];exact q,fun b u xs q=>by rw[Aw (hm b _ q fun z=>z)];exact q,fun b ps q=>⟨#[],by rw[Aw (hm b _ q fun z=>z),q];simp⟩⟩
 by_cases hbe:b=e
 ·subst hbe;exact heo
 ·exact ⟨u,k b u hbe q⟩
theorem Un.mono(u:Un fs ex H H1 h h1)(hs:∀ b∈fs,b∈fs')(hx:∀ b∈ex,b∈ex'):Un fs' ex' H H1 h h1:=
 ⟨fun b ob q n hb he=>u.keep b ob q n (fun z=>hb (hs b z)) fun z=>he (hx b z),fun _ _ q n _ he=>u.any q n fun z=>he (hx _ z),fun b ob q n he=>u.free b ob q n fun z=>he (hx b z),fun b ob q he=>u.there b ob q fun z=>he (hx b z),u.tups,u.frzs,u.tbls⟩
end
def trk(h:Heap)(H:Hp):List Addr:=(bB h.objs.size).filter fun a=>(H a).isSome
def Ud(h:Heap)(H:Hp):Heap:=PySem.W.hideAll h (trk h H)
theorem Adb(h:Heap)(H:Hp):(Ud h H).objs.size=h.objs.size:=PySem.W.hideAll_size _ _
theorem Ahb{o:Obj}(e:h.get? b=ξ o)(n:H b=ψ):(Ud h H).get? b=ξ o:=
 PySem.W.hideAll_get _ e fun hm=>by
  have q:(H b).isSome=true:=(eN.mp hm).2;rw[n] at q;simp at q
theorem Amb{o:Obj}(e:(Ud h H).get? b=ξ o):h.get? b=ξ o/\H b=ψ:=by
 have e':h.get? b=ξ o:=PySem.W.of_hideAll (trk h H) e;refine ⟨e',?_⟩;cases q:H b with
 | none=>rfl
 | some x=>
  have hm:b∈trk h H:=eN.mpr ⟨bE.mpr (bD e'),by simp[q]⟩;have z:(Ud h H).get? b=ψ:=PySem.W.hideAll_none (trk h H) hm;rw[z] at e;cases e
noncomputable def Alc(g h:Heap)(L:Addr):List (Addr×Obj):=(bB h.objs.size).filterMap fun a=>if a=L\/(g.get? a).isSome=true then ψ else (h.get? a).map fun o=>(a,o)
def rest(g h:Heap)(L d:Addr):List (Addr×Obj):=(Alc g h L).filter fun p=>decide (p.1≠d)
structure Mod(K:aL)(mg:Str->Option aH)(base:Heap):Prop where
 kin:K.In base
 glob:base.Ns dD mg
 blt:∃ mb,base.Ns nD mb/\∀ x:Str,x ≠ "__name__" -> mb x=fP x
 nolimit:base.NoLimit
structure Cx where
 prog:cO
 w:dH
 K:aL
 mg:Str->Option aH
 base:Heap
 A:eE
 N:List Str
 s₀:aR
 H₀:Hp
 env:Env
 outer:List Env
 stack:List Env
 ex:List Addr
 fn:Str->Bool
 calm:Bool
 pn:List (Addr×Obj)
 xe:aH->aR->Prop
noncomputable def frs(l:List Env):List Addr:=l.filterMap (·.frame)
abbrev Cx.fs(X:Cx):List Addr:=frs X.outer
def Vis(sc:jP)(x:Str):Prop:=sc.names.lookup x=ξ .local\/sc.names.lookup x=ξ .cell\/sc.names.lookup x=ξ .free
def Loc(sc:jP)(x:Str):Prop:=sc.names.lookup x=ξ .local\/sc.names.lookup x=ξ .cell
def Aum(env:Env)(h:Heap)(m:Str->Option aH)(x:Str)(u:aH):Prop:=
 (env.kindOf x=ξ .local/\m x=ξ u)\/((env.kindOf x=ξ .cell\/env.kindOf x=ξ .free)/\∃ c,env.cells.lookup x=ξ c/\h.IsCell c (ξ u))
structure Cx.Ok(X:Cx):Prop where
 mod:Mod X.K X.mg X.base
 kind:X.env.scope.kind = .function
 glob:X.env.globals=dD
 blt:X.env.builtins=nD
 above:X.s₀.heap.objs.size<=X.env.locals
 inj:∀ x y c,X.env.cells.lookup x=ξ c->X.env.cells.lookup y=ξ c->x=y
 has:∀ x,(X.env.kindOf x=ξ .cell\/X.env.kindOf x=ξ .free)->∃ c,X.env.cells.lookup x=ξ c
 cab:∀ x c,X.fn x=true->X.env.cells.lookup x=ξ c->X.s₀.heap.objs.size<=c
 hd:X.calm=true->X.A.handled=ψ
 frames:X.A.frames=ξ X.stack
 stk:X.stack=X.outer\/(X.stack=X.env::X.outer/\X.env.frame=ξ X.env.locals)
 exf:∀ b∈X.ex,b≠X.env.locals/\∀ x c,X.env.cells.lookup x=ξ c->c≠b
 bs:∀ b o,X.base.get? b=ξ o->X.s₀.heap.get? b=ξ o/\X.H₀ b=ψ
 bsz:X.base.objs.size<=X.s₀.heap.objs.size
 noex:∀ b o,X.base.get? b=ξ o->b∉X.ex
 exfs:∀ b∈X.ex,b∉X.fs
 funs:X.s₀.heap.FunFrames X.base X.outer
 frf:∀ b∈X.fs,X.H₀ b=ψ
structure Inv(X:Cx)(pins:List (Addr×Obj))(σ:List (Option V))(H:Hp)(s:aR):Prop where
 ok:X.Ok
 os:s.os=X.s₀.os
 bare:pM s.gens
 base:Un X.fs X.ex X.H₀ H X.s₀.heap s.heap
 loc:∃ m,s.heap.Ns X.env.locals m/\∀ (i:Nat) (x:Str) (v:V),X.N[i]? = ξ x->σ[i]? = ξ (ξ v)->Vis X.env.scope x->∃ u,RelV v u/\Aum X.env s.heap m x u
 cell:∀ x c,X.env.cells.lookup x=ξ c->∃ v,s.heap.IsCell c v
 free:H X.env.locals=ψ
 freeC:∀ x c,X.env.cells.lookup x=ξ c->H c=ψ
 pin:∀ p∈X.pn++pins,s.heap.get? p.1=ξ p.2/\H p.1=ψ/\p.1≠X.env.locals/\p.1∉X.fs/\∀ v,p.2.data≠.cell v
 hok:HOk X.prog X.w H s.heap
 len:σ.length=X.N.length
variable {x:Str}{X:Cx}{pins:List (Addr×Obj)}{s s':aR}{t' j:Nat}{ch:List Addr}{M:Model}{A:eE}{E:aH->aR->Prop}{v:V}
section
variable {σ:List (Option V)}
theorem Cx.Ok.nofr(ok:X.Ok){o:Obj}(e:X.base.get? b=ξ o):b∉X.fs:=fun hb=>by
 have:=(ok.funs.mem hb).1;rw[e] at this;cases this
theorem Inv.bs(I:Inv X pins σ H s):∀ b o,X.base.get? b=ξ o->s.heap.get? b=ξ o/\H b=ψ:=fun b o e=>
 ⟨I.base.keep b o (I.ok.bs b o e).1 (I.ok.bs b o e).2 (I.ok.nofr e) (I.ok.noex b o e),I.base.free b o (I.ok.bs b o e).1 (I.ok.bs b o e).2 (I.ok.noex b o e)⟩
theorem Inv.bk(I:Inv X pins σ H s):∀ b o,X.base.get? b=ξ o->s.heap.get? b=ξ o:=fun b o e=>(I.bs b o e).1
theorem Inv.mod(I:Inv X pins σ H s):Mod X.K X.mg X.base:=I.ok.mod
theorem Inv.kIn(I:Inv X pins σ H s):X.K.In s.heap:=I.ok.mod.kin.keeps I.bk
theorem Inv.nolimit(I:Inv X pins σ H s):s.heap.NoLimit:=I.ok.mod.nolimit.keeps I.bk
theorem Inv.fr(I:Inv X pins σ H s):∃ m,Fr X.base X.env.locals s.heap m:=
 let ⟨m,hn,_⟩:=I.loc
 ⟨m,hn,I.bk,eC I.ok.bsz I.ok.above⟩
theorem Inv.lt(I:Inv X pins σ H s):X.env.locals < s.heap.objs.size:=let ⟨_,hn,_⟩:=I.loc;hn.lt
theorem Inv.sz(I:Inv X pins σ H s):X.s₀.heap.objs.size<=s.heap.objs.size:=eC I.ok.above (pN I.lt)
theorem Inv.nofs(I:Inv X pins σ H s)(h:s.heap.objs.size<=a):a∉X.fs:=fun hb=>by
 obtain ⟨_,o,ho,_⟩:=I.ok.funs.mem hb;exact absurd (bN (bD ho) (eC I.sz h)) (dI _)
theorem Inv.cne(I:Inv X pins σ H s):∀ x c,X.env.cells.lookup x=ξ c->c≠X.env.locals:=fun x c e z=>by
 obtain ⟨v,o,ho,hd⟩:=I.cell x c e;obtain ⟨m,⟨o',es,ep,ho',hd',_⟩,_⟩:=I.loc;rw[z,ho'] at ho;cases ho;rw[hd'] at hd;cases hd
theorem Inv.funs(I:Inv X pins σ H s):s.heap.FunFrames X.base X.outer:=by
 have all:∀ (l:List Env),(∀ b∈frs l,b∈X.fs)->X.s₀.heap.FunFrames X.base l->s.heap.FunFrames X.base l:=by
  intro l;induction l with
  | nil=>intro _ _;trivial
  | cons env r ih=>
   intro hs hl;obtain ⟨hk,⟨L,o,hf,hn,ho,hd⟩,hr⟩:=hl;have hL:L∈X.fs:=hs L (by unfold frs;rw[hV,hf];exact aQ)
   obtain ⟨sl,e⟩:=I.base.slot L o ho (I.ok.frf L hL) hL fun z=>I.ok.exfs L z hL
   exact ⟨hk,⟨L,_,hf,hn,e,hd⟩,ih (fun b hb=>hs b (by unfold frs;rw[hV,hf];exact aK _ hb)) hr⟩
 exact all X.outer (fun _ hb=>hb) I.ok.funs
theorem Inv.stack(I:Inv X pins σ H s):s.heap.FunFrames X.base X.stack:=by
 rcases I.ok.stk with e | ⟨e,hf⟩
 ·rw[e];exact I.funs
 ·rw[e];obtain ⟨m,hn,_⟩:=I.loc;refine .cons (by rw[I.ok.kind];decide) hf hn ?_ I.funs;exact Heap.get?_none_of_le (eC I.ok.bsz I.ok.above)
theorem Inv.stkSub(I:Inv X pins σ H s):∀ b∈frs X.stack,b∈X.env.locals::X.fs:=fun b hb=>by
 rcases I.ok.stk with e | ⟨e,hf⟩
 ·rw[e] at hb;exact aK _ hb
 ·rw[e] at hb;unfold frs at hb;rw[hV,hf] at hb;exact hb
theorem Inv.stkFree(I:Inv X pins σ H s):∀ b∈frs X.stack,H b=ψ:=fun b hb=>by
 rcases bG.mp (I.stkSub b hb) with e | hb
 ·rw[e];exact I.free
 ·obtain ⟨_,o,ho,_⟩:=I.ok.funs.mem hb;exact I.base.free b o ho (I.ok.frf b hb) fun z=>I.ok.exfs b z hb
theorem Inv.step{g':Array oY}{d':Drawn}(I:Inv X pins σ H s)
  (hch:∀ b∈ch,Zcd/\b≠X.env.locals/\(∀ x c,X.env.cells.lookup x=ξ c->c≠b)/\∀ p∈X.pn++pins,p.1≠b)
  (keep:∀ b o,b≠X.env.locals->b∉X.fs->b∉ch->s.heap.get? b=ξ o->H b=ψ->h'.get? b=ξ o)
  (slot:∀ b o,b≠X.env.locals->b∈X.fs->b∉ch->s.heap.get? b=ξ o->H b=ψ->∃ sl,h'.get? b=ξ { o with slots:=sl }) (free:∀ b o,b∉ch->s.heap.get? b=ξ o->H b=ψ->H' b=ψ)
  (there:∀ b o,b∉ch->s.heap.get? b=ξ o->∃ o',h'.get? b=ξ o')
  (tups:∀ b xs,H b=ξ (.tup xs)->H' b=ξ (.tup xs)) (frzs:∀ b o u,H b=ξ (.frz o u)->H' b=ξ (.frz o u)) (tbls:∀ b ps,H b=ξ (.tbl ps)->∃ more,H' b=ξ (.tbl (ps++more)))
  (ns:∀ m,s.heap.Ns X.env.locals m->h'.Ns X.env.locals m) (hok:HOk X.prog X.w H' h') (hg:pM g') :
  Inv X pins σ H' { s with heap:=h',gens:=g',drawn:=d',toks:=t' }:=by
 have neL:∀ b o,X.s₀.heap.get? b=ξ o->b≠X.env.locals:=fun b o e=>cB ZcH
 have neC:∀ b o,X.s₀.heap.get? b=ξ o->b∉X.ex->b∉ch:=fun b o e hx hb=>by
  rcases (hch b hb).1 with z | z
  ·exact hx z
  ·exact absurd (bN (bD e) z) (dI _)
 have cellK:∀ x c,X.env.cells.lookup x=ξ c->∀ v,s.heap.IsCell c v->h'.IsCell c v:=fun x c e v zz=>by
  obtain ⟨o,ho,hd⟩:=zz;have nch:c∉ch:=fun z=>(hch c z).2.2.1 x c e rfl
  by_cases hc:c∈X.fs
  ·obtain ⟨sl,q⟩:=slot c o (I.cne x c e) hc nch ho (I.freeC x c e);exact ⟨_,q,hd⟩
  ·exact ⟨o,keep c o (I.cne x c e) hc nch ho (I.freeC x c e),hd⟩
 refine ⟨I.ok,I.os,hg,⟨fun b o e n hb hx=>?_,fun b o e n hb hx=>?_,fun b o e n hx=>?_,fun b o e hx=>?_,fun b xs e=>tups b xs (I.base.tups b xs e),fun b o xs e=>frzs b o xs (I.base.frzs b o xs e),fun b ps e=>?_⟩,?_,fun x c e=>?_,?_,fun x c e=>?_,fun p hp=>?_,hok,I.len⟩
 ·exact keep b o (neL b o e) hb (neC b o e hx) Zdl ZdQ
 ·obtain ⟨sl,e1⟩:=I.base.slot b o e n hb hx;obtain ⟨sl',e2⟩:=slot b _ (neL b o e) hb (neC b o e hx) e1 ZdQ;exact ⟨sl',e2⟩
 ·obtain ⟨o',e1⟩:=I.base.there b o e hx;exact free b o' (neC b o e hx) e1 ZdQ
 ·obtain ⟨o',e1⟩:=I.base.there b o e hx;exact there b o' (neC b o e hx) e1
 ·obtain ⟨m1,e1⟩:=I.base.tbls b ps e;obtain ⟨m2,e2⟩:=tbls b _ e1;exact ⟨m1++m2,by rw[e2,sF]⟩
 ·obtain ⟨m,hn,hl⟩:=I.loc;refine ⟨m,ns m hn,fun i x v e1 e2 e3=>?_⟩;obtain ⟨u,r,l⟩:=hl i x v e1 e2 e3;refine ⟨u,r,?_⟩;rcases l with l | ⟨k,c,e,z⟩
  ·exact .inl l
  ·exact .inr ⟨k,c,e,cellK x c e _ z⟩
 ·obtain ⟨v,z⟩:=I.cell x c e;exact ⟨v,cellK x c e v z⟩
 ·obtain ⟨m,⟨o,_,_,ho,_⟩,_⟩:=I.loc;exact free _ o (fun z=>(hch _ z).2.1 rfl) ho I.free
 ·obtain ⟨v,o,ho,hd⟩:=I.cell x c e;exact free c o (fun z=>(hch c z).2.2.1 x c e rfl) ho (I.freeC x c e)
 ·obtain ⟨e,n,ne,nf,d⟩:=I.pin p hp;have nch:p.1∉ch:=fun z=>(hch p.1 z).2.2.2 p hp rfl
  exact ⟨keep p.1 p.2 ne nf nch e n,free p.1 p.2 nch e n,ne,nf,d⟩
theorem Inv.un(I:Inv X pins σ H s)(u:Un X.fs [] H H' s.heap h')(hok:HOk X.prog X.w H' h'):Inv X pins σ H' { s with heap:=h',toks:=t' }:=by
 obtain ⟨m,⟨o,es,ep,ho,r⟩,_⟩:=id I.loc;obtain ⟨sl,hL⟩:=u.any ho I.free Za;exact I.step (g':=s.gens) (d':=s.drawn) (ch:=[]) (fun _ z=>nomatch z) (fun b o _ hb _ e n=>u.keep b o e n hb Za) (fun b o _ hb _ e n=>u.slot b o e n hb Za) (fun b o _ e n=>u.free b o e n Za) (fun b o _ e=>u.there b o e Za) u.tups u.frzs u.tbls (fun m' hm=>by
  obtain ⟨o',es',ep',ho',r'⟩:=hm;rw[ho] at ho';cases ho';exact ⟨_,es',ep',hL,r'⟩) hok I.bare
theorem Inv.call{g':Array oY}{d':Drawn}(I:Inv X pins σ H s)(u:Un (frs X.stack) ch H H' s.heap h')(hok:HOk X.prog X.w H' h')(hg:pM g')
  (hch:∀ b∈ch,Zcd/\b≠X.env.locals/\(∀ x c,X.env.cells.lookup x=ξ c->c≠b)/\∀ p∈X.pn++pins,p.1≠b) :
  Inv X pins σ H' { s with heap:=h',gens:=g',drawn:=d',toks:=t' }:=by
 obtain ⟨m,⟨o,es,ep,ho,r⟩,_⟩:=id I.loc;obtain ⟨sl,hL⟩:=u.any ho I.free fun z=>(hch _ z).2.1 rfl
 exact I.step (ch:=ch) hch (fun b o hL hb hc e n=>u.keep b o e n (fun z=>(bG.mp (I.stkSub b z)).elim hL hb) hc) (fun b o _ _ hc e n=>u.any e n hc) (fun b o hc e n=>u.free b o e n hc) (fun b o hc e=>u.there b o e hc) u.tups u.frzs u.tbls (fun m' hm=>by
  obtain ⟨o',es',ep',ho',r'⟩:=hm;rw[ho] at ho';cases ho';exact ⟨_,es',ep',hL,r'⟩) hok hg
theorem Inv.turned{it:Addr}(I:Inv X pins σ H s)(k:∀ b o,b≠it->s.heap.get? b=ξ o->h'.get? b=ξ o)(hn:H it=ψ)(hL:it≠X.env.locals)
  (h1:it∈X.ex\/X.s₀.heap.objs.size<=it) (h2:∀ x c,X.env.cells.lookup x=ξ c->c≠it) (h3:∀ p∈X.pn++pins,p.1≠it):Inv X pins σ H { s with heap:=h',toks:=t' }:=by
 have nit:∀ b u,H b=ξ u->b≠it:=fun b u e z=>by rw[z,hn] at e;cases e
 refine I.step (g':=s.gens) (d':=s.drawn) (ch:=[it]) (fun b hb=>?_) (fun b o _ _ hc e _=>k b o Zay e) (fun b o _ _ hc e _=>⟨o.slots,k b o Zay e⟩) (fun _ _ _ _ n=>n)
  (fun b o hc e=>⟨o,k b o Zay e⟩) (fun _ _ e=>e) (fun _ _ _ e=>e) (fun b ps e=>⟨#[],by rw[e];simp⟩) (fun m hm=>?_) (fun b u e=>?_) I.bare
 ·have e:b=it:=by simpa using hb
  subst e;exact ⟨h1,hL,h2,h3⟩
 ·obtain ⟨o,es,ep,ho,r⟩:=hm;exact ⟨o,es,ep,k _ o (fN hL) ho,r⟩
 ·refine (I.hok b u e).stay (fun c v hc q=>k c v ?_ q) (fun _ q=>q) fun _ _ q=>q
  rcases hc with z | z
  ·rw[z];exact nit b u e
  ·exact nit c _ z
theorem Inv.tok(I:Inv X pins σ H s)(t:Nat):Inv X pins σ H { s with toks:=t }:=I.un (h':=s.heap) (t':=t) Un.refl I.hok
theorem Inv.kept(I:Inv X pins σ H s)(k:∀ b u,s.heap.get? b=ξ u->h'.get? b=ξ u):Inv X pins σ H { s with heap:=h',toks:=t' }:=I.un (Un.kept k) (I.hok.kept k)
theorem Inv.laid(I:Inv X pins σ H s)(k:∀ b u,s.heap.get? b=ξ u->h'.get? b=ξ u)(hp:s.heap.objs.size<=a)(new:ObjOk X.prog X.w (upd H a o) h' a o) :
  Inv X pins σ (upd H a o) { s with heap:=h',toks:=t' }:=I.un (Un.laid k hp (I.hok.fresh hp)) (I.hok.laid k hp new)
theorem Inv.write{x e:Addr}(I:Inv X pins σ H s)(mu:Mut (H x))(he:e=x\/H e=ξ (.own x))(k:∀ b u,b≠e->s.heap.get? b=ξ u->h'.get? b=ξ u)(heo:∃ u,h'.get? e=ξ u)
  (new:ObjOk X.prog X.w (upd H x o) h' x o):Inv X pins σ (upd H x o) { s with heap:=h',toks:=t' }:=I.un (Un.write mu he k heo) (I.hok.write mu he k heo new)
theorem Inv.pins_of{pins':List (Addr×Obj)}(I:Inv X pins σ H s)(h:∀ p∈pins',s.heap.get? p.1=ξ p.2/\H p.1=ψ/\p.1≠X.env.locals/\p.1∉X.fs/\∀ v,p.2.data≠.cell v):Inv X pins' σ H s:=
 ⟨I.ok,I.os,I.bare,I.base,I.loc,I.cell,I.free,I.freeC,fun p hp=>(cX.mp hp).elim (fun z=>I.pin p (eZ _ z)) (h p),I.hok,I.len⟩
theorem Xh{N:List Str}(hN:N.Nodup)(a:N[i]? = ξ x)(b:N[j]? = ξ x):i=j:=by
 obtain ⟨h1,e1⟩:=aI.mp a;obtain ⟨h2,e2⟩:=aI.mp b;exact (List.getElem_inj hN).mp (e1.trans e2.symm)
theorem Ae0{Q:Unit->aR->Prop}(I:Inv X pins σ H s)(hN:X.N.Nodup)(hi:X.N[i]? = ξ x)(hx:Loc X.env.scope x)(r:RelV v u)
  (h:∀ s',Inv X pins ZdW H s'->(∃ a,mV a s.heap s'.heap/\(a=X.env.locals\/X.env.cells.lookup x=ξ a))->Q () s') (hf:X.fn x=true\/X.env.scope.names.lookup x=ξ .local:=by first | exact .inl rfl | exact .inr rfl | assumption):wpAny M A (storeName X.env x u) Q E s:=by
 obtain ⟨m,hn,hl⟩:=id I.loc;have hcls:(X.env.scope.kind == .class || (X.env.scope.kind == .module&&X.env.locals != X.env.globals))=false:=by rw[I.ok.kind];rfl
 have hiσ:i < σ.length:=by rw[I.len];exact (aI.mp hi).1
 have cne:=I.cne;have tracked:∀ {a:Addr} {h':Heap},(∃ o,s.heap.get? a=ξ o/\H a=ψ)->mV a s.heap h'->HOk X.prog X.w H h':=fun {a h'} ha hs b ob e=>by
  obtain ⟨_,_,hfree⟩:=ha;refine (I.hok b ob e).stay (fun c w' hc q=>(hs.2 c ?_).trans q) (fun _ q=>q) fun _ _ q=>q
  rintro rfl;rcases hc with rfl | hc
  ·rw[hfree] at e;cases e
  ·rw[hfree] at hc;cases hc
 rcases hx with hk | hk
 ·refine wpAny_storeName_local hk hn (fun h' hn' hs=>?_) hcls;obtain ⟨oL,_,_,hoL,_⟩:=id hn;refine h _ ⟨I.ok,I.os,I.bare,⟨fun b o e n hb hx=>?_,fun b o e n hb hx=>?_,I.base.free,fun b o e hx=>?_,I.base.tups,I.base.frzs,I.base.tbls⟩,⟨_,hn',fun j y v' e1 e2 e3=>?_⟩,fun y c e=>?_,I.free,I.freeC,fun p hp=>?_,tracked ⟨oL,hoL,I.free⟩ hs,by simpa using I.len⟩ ⟨_,hs,.inl rfl⟩
  ·exact (hs.2 b (cB ZcH)).trans Zdl
  ·obtain ⟨sl,e1⟩:=I.base.slot b o e n hb hx;exact ⟨sl,(hs.2 b (cB ZcH)).trans e1⟩
  ·obtain ⟨o',e1⟩:=I.base.there b o e hx;exact ⟨o',(hs.2 b (cB ZcH)).trans e1⟩
  ·by_cases hj:j=i
   ·subst hj;rw[hi] at e1;cases e1;rw[bI hiσ] at e2;cases e2;exact ⟨u,r,.inl ⟨hk,Za⟩⟩
   ·rw[bF (fN hj)] at e2;obtain ⟨u',r',q⟩:=hl j y v' e1 e2 e3;refine ⟨u',r',?_⟩;rcases q with ⟨k,e⟩ | ⟨k,c,e,z⟩
    ·refine .inl ⟨k,?_⟩;have:y≠x:=fun e=>hj (Xh hN e1 (e ▸ hi))
     simp[this,e]
    ·exact .inr ⟨k,c,e,z.sameBut hs (cne y c e)⟩
  ·obtain ⟨w',z⟩:=I.cell y c e;exact ⟨w',z.sameBut hs (cne y c e)⟩
  ·obtain ⟨e,n,ne,nf,d⟩:=I.pin p hp;exact ⟨(hs.2 p.1 ne).trans e,n,ne,nf,d⟩
 ·have hfn:X.fn x=true:=by
   rcases hf with z | z
   ·exact z
   ·rw[z] at hk;cases hk
  obtain ⟨c,hc⟩:=I.ok.has x (.inl hk);obtain ⟨w',z⟩:=I.cell x c hc;refine wpAny_storeName_cell I.ok.kind hk hc z (fun h' hc' hs=>?_);obtain ⟨oc,hoc,hocd⟩:=id z;refine h { s with heap:=h' } ⟨I.ok,I.os,I.bare,⟨fun b o e n hb hx=>?_,fun b o e n hb hx=>?_,I.base.free,fun b o e hx=>?_,I.base.tups,I.base.frzs,I.base.tbls⟩,⟨m,hn.sameBut hs (fN (cne x c hc)),fun j y v' e1 e2 e3=>?_⟩,fun y c' e=>?_,I.free,I.freeC,fun p hp=>?_,tracked ⟨oc,hoc,I.freeC x c hc⟩ hs,by simpa using I.len⟩ ⟨c,hs,.inr hc⟩
  ·exact (hs.2 b Zb4).trans Zdl
  ·obtain ⟨sl,e1⟩:=I.base.slot b o e n hb hx;exact ⟨sl,(hs.2 b Zb4).trans e1⟩
  ·obtain ⟨o',e1⟩:=I.base.there b o e hx;exact ⟨o',(hs.2 b Zb4).trans e1⟩
  ·by_cases hj:j=i
   ·subst hj;rw[hi] at e1;cases e1;rw[bI hiσ] at e2;cases e2;exact ⟨u,r,.inr ⟨.inl hk,c,hc,hc'⟩⟩
   ·rw[bF (fN hj)] at e2;obtain ⟨u',r',q⟩:=hl j y v' e1 e2 e3;refine ⟨u',r',?_⟩;rcases q with q | ⟨k,c',e,z'⟩
    ·exact .inl q
    ·refine .inr ⟨k,c',e,z'.sameBut hs ?_⟩;rintro rfl;exact hj (Xh hN e1 (I.ok.inj _ _ _ e hc ▸ hi))
  ·by_cases hcc:c'=c
   ·subst hcc;exact ⟨_,hc'⟩
   ·obtain ⟨w2,z2⟩:=I.cell y c' e;exact ⟨w2,z2.sameBut hs hcc⟩
  ·obtain ⟨e,n,ne,nf,d⟩:=I.pin p hp;refine ⟨(hs.2 p.1 ?_).trans e,n,ne,nf,d⟩;intro q;rw[q,hoc] at e;have q':oc=p.2:=bQ e;exact d w' (by rw[<- q'];exact hocd)
theorem Yl{Q:Unit->aR->Prop}(I:Inv X pins σ H s)(hN:X.N.Nodup)(hi:X.N[i]? = ξ x)(hx:Loc X.env.scope x)(r:RelV v u)
  (h:∀ s',Inv X pins ZdW H s'->Q () s') (hf:X.fn x=true\/X.env.scope.names.lookup x=ξ .local:=by first | exact .inl rfl | exact .inr rfl | assumption):wpAny M A (storeName X.env x u) Q E s:=
 Ae0 I hN hi hx r (fun s' I' _=>h s' I') hf
theorem Inv.call'(I:Inv X pins σ H s)(ho:s'.os=s.os)(u:Un (frs X.stack) ch H H' s.heap s'.heap)(hok:HOk X.prog X.w H' s'.heap)(hg:pM s'.gens)
  (hch:∀ b∈ch,Zcd/\b≠X.env.locals/\(∀ x c,X.env.cells.lookup x=ξ c->c≠b)/\∀ p∈X.pn++pins,p.1≠b):Inv X pins σ H' s':=by
 obtain ⟨h',g',d',t',o'⟩:=s';have e:o'=s.os:=ho;subst e;exact I.call (g':=g') (t':=t') (d':=d') u hok hg hch
end
abbrev XK:=aH->Option Addr->Hp->Prop
noncomputable abbrev St:=List (Option V)
abbrev VK:=V->Hp->Prop
abbrev TE:=St->Hp->VK->Prop
abbrev TT:=St->Hp->(Bool->Hp->Prop)->Prop
abbrev TA:=St->Hp->(List V->Hp->Prop)->Prop
structure Ends where
 nx:St->Hp->Prop
 rt:VK
 bk:St->Hp->Prop:=fun _ _=>False
 ct:St->Hp->Prop:=fun _ _=>False
abbrev TS:=Ends->St->Hp->Prop
inductive EP(X:Cx)(pins:List (Addr×Obj))(σ:St)(Q:VK)(u:aH)(s':aR):Prop
 | mk (v:V) (H':Hp) (I:Inv X pins σ H' s') (r:RelV v u) (q:Q v H'):EP X pins σ Q u s'
inductive TP(X:Cx)(pins:List (Addr×Obj))(σ:St)(Q:Bool->Hp->Prop)(b:Bool)(s':aR):Prop
 | mk (H':Hp) (I:Inv X pins σ H' s') (q:Q b H'):TP X pins σ Q b s'
inductive AP(X:Cx)(pins:List (Addr×Obj))(σ:St)(Q:List V->Hp->Prop)(us:List aH)(s':aR):Prop
 | mk (vs:List V) (H':Hp) (I:Inv X pins σ H' s') (r:Vals vs us) (q:Q vs H'):AP X pins σ Q us s'
variable {σ:St}{Q:VK}
theorem EP.elim{C:Prop}(h:EP X pins σ Q u s')(k:∀ v H',Inv X pins σ H' s'->RelV v u->Q v H'->C):C:=h.rec k
theorem AP.elim{Q:List V->Hp->Prop}{C:Prop}(h:AP X pins σ Q us s')(k:∀ vs H',Inv X pins σ H' s'->Vals vs us->Q vs H'->C):C:=h.rec k
def SP(X:Cx)(pins:List (Addr×Obj))(D:Ends)(f:Flow)(s':aR):Prop:=
 match f with
 | .next=>∃ σ' H',Inv X pins σ' H' s'/\D.nx σ' H'
 | .brk=>∃ σ' H',Inv X pins σ' H' s'/\D.bk σ' H'
 | .cont=>∃ σ' H',Inv X pins σ' H' s'/\D.ct σ' H'
 | .ret u=>∃ v σ' H',Inv X pins σ' H' s'/\RelV v u/\D.rt v H'
def PE(X:Cx)(e:Expr)(t:TE):Prop:=
 ∀ (pins:List (Addr×Obj)) (s:aR) (σ:St) (H:Hp) (Q:VK),Inv X pins σ H s->t σ H Q->wpAny Zg X.A (eval e X.env) Z2 X.xe s
def PT(X:Cx)(e:Expr)(t:TT):Prop:=
 ∀ (pins:List (Addr×Obj)) (s:aR) (σ:St) (H:Hp) (Q:Bool->Hp->Prop),Inv X pins σ H s->t σ H Q->wpAny Zg X.A (isTrue e X.env (eval e X.env)) (TP X pins σ Q) X.xe s
def PW(X:Cx)(e:Expr)(t:TT):Prop:=
 ∀ (whole:Sem aH) (pins:List (Addr×Obj)) (s:aR) (σ:St) (H:Hp) (Q:Bool->Hp->Prop),Inv X pins σ H s->t σ H Q->wpAny Zg X.A (isTrue e X.env whole) (TP X pins σ Q) X.xe s
variable {e:Expr}
theorem PW.pt{t:TT}(h:PW X e t):PT X e t:=h _
def PA(X:Cx)(es:List Expr)(t:TA):Prop:=
 ∀ (pos:Pos) (pins:List (Addr×Obj)) (s:aR) (σ:St) (H:Hp) (Q:List V->Hp->Prop),Inv X pins σ H s->t σ H Q->wpAny Zg X.A (spliced (backTo pos Zbb)) (AP X pins σ Q) X.xe s
def PS(X:Cx)(st:Stmt)(t:TS):Prop:=
 ∀ (pins:List (Addr×Obj)) (s:aR) (σ:St) (H:Hp) (D:Ends),Inv X pins σ H s->t D σ H->wpAny Zg X.A (exec st X.env) (SP X pins D) X.xe s
def PSs(X:Cx)(st:List Stmt)(t:TS):Prop:=
 ∀ (pins:List (Addr×Obj)) (s:aR) (σ:St) (H:Hp) (D:Ends),Inv X pins σ H s->t D σ H->wpAny Zg X.A (execs st X.env) (SP X pins D) X.xe s
theorem thn{α:Type}{t:Sem α}{Q Q':α->aR->Prop}(h:wpAny M A t Q E s)(hQ:∀ a s,Q a s->Q' a s):wpAny M A t Q' E s:=dG h hQ fun _ _ x=>x
variable {pos:Pos}{ta tb:TE}{c:Expr}
section
def Au8(i:Nat):TE:=fun σ H Q=>∃ v,σ[i]? = ξ (ξ v)/\Q v H
def tC(v:V):TE:=fun _ H Q=>Q v H
theorem Aol(hN:X.N[i]? = ξ x)(hv:Vis X.env.scope x)(hd:(x == ("__debug__" : Str))=false:=by decide)(hcd:(x == ("__classdict__" : Str))=false:=by decide):PE X ZcF (Au8 i):=by
 intro pins s σ H Q I h;obtain ⟨v,e,h⟩:=h;obtain ⟨m,hn,hl⟩:=I.loc;obtain ⟨u,r,l⟩:=hl i x v hN e hv;have fin:EP X pins σ Q u s:=⟨v,H,I,r,h⟩;rcases l with ⟨hk,hm⟩ | ⟨hk,c,hc,hcell⟩
 ·exact vW (wpAny_loadName_local I.ok.kind hk hn hm fin) hd
 ·rcases hk with hk | hk
  ·exact vW (wpAny_loadName_cell I.ok.kind hk hc hcell fin) hd
  ·exact vW (wpAny_loadName_free I.ok.kind hk hc hcell fin hcd) hd
theorem Ap3{i j pos}:PE X (.Constant (.int i) j pos) (tC (.int i)):=fun _ _ _ H _ I h=>wpAny_Constant_int ⟨.int i,H,I.tok _,⟨_,rfl⟩,h⟩
theorem Am4{b j pos}:PE X (.Constant (.bool b) j pos) (tC (.bl b)):=fun _ _ _ H _ I h=>Constant_bool ⟨.bl b,H,I,rfl,h⟩
theorem Ao0{x j pos}:PE X (.Constant (.str x) j pos) (tC (.str x)):=fun _ _ _ H _ I h=>Calls.Constant_str ⟨.str x,H,I.tok _,⟨_,rfl⟩,h⟩
def Gl(X:Cx)(x:Str):Prop:=X.env.kindOf x=ξ .globalImplicit
theorem Ac7{Q:aH->aR->Prop}(I:Inv X pins σ H s)(hg:Gl X x)(hm:X.mg x=ξ u)(h:Q u s)
  (hd:(x == ("__debug__" : Str))=false:=by decide):wpAny Zg X.A (eval ZcF X.env) Q E s:=
 nE I.ok.kind hg (Calls.loadGlobal_global (by rw[I.ok.glob];exact I.mod.glob.keeps I.bk) hm h) hd
theorem Em{Q:aH->aR->Prop}(I:Inv X pins σ H s)(hg:Gl X x)(hm:X.mg x=ψ)(hv:fP x=ξ u)(h:Q u s)
  (hn:x ≠ "__name__" := by decide) (hd:(x == ("__debug__" : Str))=false:=by decide):wpAny Zg X.A (eval ZcF X.env) Q E s:=by
 obtain ⟨mb,h1,h2⟩:=I.mod.blt;exact nE I.ok.kind hg (Calls.loadGlobal_builtin (by rw[I.ok.glob];exact I.mod.glob.keeps I.bk) hm (by rw[I.ok.blt];exact h1.keeps I.bk) ((h2 x hn).trans hv) h) hd
theorem Ala(hg:Gl X x)(hm:X.mg x=ξ u)(r:RelV v u)(hd:(x == ("__debug__" : Str))=false:=by decide):PE X ZcF (tC v):=
 fun _ _ _ H _ I h=>Ac7 I hg hm ⟨v,H,I,r,h⟩ hd
variable {a b:Expr}
variable {tA tB':TT}{rest:List Expr}
def Atr(t u:TT):TT:=fun σ H Q=>t σ H fun c H1=>if c=true then u σ H1 Q else Q false H1
def tOr(t u:TT):TT:=fun σ H Q=>t σ H fun c H1=>if c=true then Q true H1 else u σ H1 Q
def Ava(t:TT):TT:=fun σ H Q=>t σ H fun c H1=>Q (!c) H1
theorem Ak5(ha:PT X a tA):PW X (.BoolOp .And [a] pos) tA:=by
 intro wh pins s σ H Q I h;refine isTrue_and (thn (ha pins s σ H Q I h) fun c s1 e=>?_);cases c with
 | true=>exact isTrue_and_nil e
 | false=>exact e
theorem Aoy(ha:PT X a tA):PW X (.BoolOp .Or [a] pos) tA:=by
 intro wh pins s σ H Q I h;refine isTrue_or (thn (ha pins s σ H Q I h) fun c s1 e=>?_);cases c with
 | false=>exact isTrue_or_nil e
 | true=>exact e
theorem Aov(ha:PT X a tA)(hb:PW X ZbW tB'):PW X ZbB (Atr tA tB'):=by
 intro wh pins s σ H Q I h;refine isTrue_and (thn Zai fun c s1 zz=>?_);obtain ⟨H1,I1,q1⟩:=zz;cases c with
 | true=>exact hb wh pins s1 σ H1 Q I1 q1
 | false=>exact ⟨H1,I1,q1⟩
theorem Ast(ha:PT X a tA)(hb:PW X (.BoolOp .Or (b::rest) pos) tB'):PW X (.BoolOp .Or (a::b::rest) pos) (tOr tA tB'):=by
 intro wh pins s σ H Q I h;refine isTrue_or (thn Zai fun c s1 zz=>?_);obtain ⟨H1,I1,q1⟩:=zz;cases c with
 | true=>exact ⟨H1,I1,q1⟩
 | false=>exact hb wh pins s1 σ H1 Q I1 q1
theorem An0(ha:PT X a tA):PT X (.UnaryOp .Not a pos) (Ava tA):=by
 intro pins s σ H Q I h;exact isTrue_not (thn (ha pins s σ H (fun c H1=>Q (!c) H1) I h) fun _ _ z=>z.rec fun H' I' q=>⟨H',I',q⟩)
def Aq5(ta tb:TE):TE:=fun σ H Q=>ta σ H fun x H1=>∃ c,x = .bl c/\if c=true then tb σ H1 Q else Q (.bl false) H1
theorem Aoe{op}{t:TE}(h:PE X a t):PE X (.BoolOp op [a] pos) t:=fun pins s σ H Q I hw=>BoolOp_one (h pins s σ H Q I hw)
theorem Ans(ha:PE X a ta)(hb:PE X ZbW tb):PE X ZbB (Aq5 ta tb):=by
 intro pins s σ H Q I h;refine BoolOp_and (thn Zai fun v s1 zz=>?_);obtain ⟨x,H1,I1,r1,q1⟩:=zz;obtain ⟨c,rfl,q1⟩:=q1;cases r1;refine jK ?_;cases c with
 | true=>exact hb pins s1 σ H1 Q I1 q1
 | false=>exact ⟨.bl false,H1,I1,rfl,q1⟩
def tIf(t:TT)(ta tb:TE):TE:=fun σ H Q=>t σ H fun c H1=>if c=true then ta σ H1 Q else tb σ H1 Q
theorem Ag7(hc:PT X c tA)(ha:PE X a ta)(hb:PE X b tb):PE X (.IfExp c a b pos) (tIf tA ta tb):=by
 intro pins s σ H Q I h;refine wpAny_IfExp (thn (hc pins s σ H _ I h) fun d s1 zz=>?_);obtain ⟨H1,I1,q1⟩:=zz;cases d with
 | true=>exact ha pins s1 σ H1 Q I1 q1
 | false=>exact hb pins s1 σ H1 Q I1 q1
end
def SqL(K:aL)(H:Hp)(a:Addr)(xs:List V):Prop:=
 Rd H a (.lst xs) \/
  ∃ (o:Obj) (its:Array aH) (n:Nat),K.lookup a=ξ o/\o.cls = .type "list" /\ o.dict=ψ/\o.data = .seq its n/\its.size<=sizeLine/\Vals xs its.toList
def SqT(K:aL)(H:Hp)(a:Addr)(xs:List V):Prop:=
 Rd H a (.tup xs) \/
  ∃ (o:Obj) (its:Array aH) (n:Nat),K.lookup a=ξ o/\(o.cls,o.dict)=(eM "tuple",(ψ:Option Addr))/\o.data = .seq its n/\its.size<=sizeLine/\Vals xs its.toList
noncomputable def Avi:aH->Option V
 | .none=>ξ .non
 | .bool b=>ξ (.bl b)
 | .int i _=>ξ (.int i)
 | .str x _=>ξ (.str x)
 | .bytes b _=>ξ (.byt b)
 | .float b _=>ξ (.flt b)
 | .ref a=>ξ (.ref a)
 | .type n=>ξ (.ty n)
 | _=>ψ
theorem RelV.abs{x:V}(r:RelV x u):Avi u=ξ x:=by
 cases x with
 | non=>cases r;rfl
 | bl _=>cases r;rfl
 | int _=>obtain ⟨t,rfl⟩:=r;rfl
 | str _=>obtain ⟨t,rfl⟩:=r;rfl
 | byt _=>obtain ⟨t,rfl⟩:=r;rfl
 | flt _=>obtain ⟨t,rfl⟩:=r;rfl
 | ref _=>cases r;rfl
 | ty _=>cases r;rfl
theorem RelV.inj{x y:V}(r:RelV x u)(q:RelV y u):x=y:=bQ (r.abs.symm.trans q.abs)
theorem Vals.inj(h:Vals xs us)(h':Vals ys us):xs=ys:=by
 induction h generalizing ys with
 | nil=>cases h';rfl
 | cons r t ih=>
  cases h' with
  | cons r' t'=>rw[r.inj r',ih t']
variable {K:aL}
section
theorem SqL.of(h:H a=ξ (.lst xs)):SqL K H a xs:=.inl (.inl h)
theorem SqT.of(h:H a=ξ (.tup xs)):SqT K H a xs:=.inl (.inl h)
theorem Inv.list(I:Inv X pins σ H s)(h:SqL X.K H a xs):∃ its:List aH,Vals xs its/\PlainL s.heap a its.toArray/\xs.length<=sizeLine:=by
 rcases h with h | ⟨o,its,n,hk,hc,hd,hs,hz,r⟩
 ·obtain ⟨z,its,n,r,e⟩:=h.ok I.hok;exact ⟨its,r,⟨_,n,e,rfl,rfl,rfl⟩,z⟩
 ·refine ⟨its.toList,r,⟨o,n,I.kIn a o hk,hc,hd,by simpa using hs⟩,?_⟩;have e:=r.length;simp only[cY] at e;omega
theorem Inv.tupleN(I:Inv X pins σ H s)(h:SqT X.K H a xs):∃ its:List aH,Vals xs its/\TupN s.heap a its.toArray/\xs.length<=sizeLine:=by
 rcases h with h | ⟨o,its,n,hk,hc,hs,hz,r⟩
 ·obtain ⟨z,its,r,p⟩:=h.ok I.hok;exact ⟨its,r,p,z⟩
 ·refine ⟨its.toList,r,⟨o,I.kIn a o hk,hc,n,by simpa using hs⟩,?_⟩;have e:=r.length;simp only[cY] at e;omega
theorem Inv.tuple(I:Inv X pins σ H s)(h:SqT X.K H a xs):∃ its:List aH,Vals xs its/\nZ s.heap a its.toArray/\xs.length<=sizeLine:=by
 obtain ⟨its,r,p,z⟩:=I.tupleN h;exact ⟨its,r,p.is,z⟩
theorem Inv.list_inj(I:Inv X pins σ H s)(h:SqL X.K H a xs)(h':SqL X.K H a ys):xs=ys:=by
 obtain ⟨its,r,⟨o,n,e,_,_,d⟩,_⟩:=I.list h;obtain ⟨its',r',⟨o',n',e',_,_,d'⟩,_⟩:=I.list h';rw[e] at e';cases e';rw[d] at d';injection d' with d1 _
 have:its=its':=by simpa using congrArg sT d1
 subst this;exact r.inj r'
theorem Inv.tuple_inj(I:Inv X pins σ H s)(h:SqT X.K H a xs)(h':SqT X.K H a ys):xs=ys:=by
 obtain ⟨its,r,⟨o,e,_,n,d⟩,_⟩:=I.tuple h;obtain ⟨its',r',⟨o',e',_,n',d'⟩,_⟩:=I.tuple h';rw[e] at e';cases e';rw[d] at d';injection d' with d1 _
 have:its=its':=by simpa using congrArg sT d1
 subst this;exact r.inj r'
end
noncomputable abbrev Cx.wish(X:Cx)(E:aH->aR->Prop):Cx:={ X with xe:=E }
abbrev Cx.nox(X:Cx):Cx:=X.wish fun _ _=>False
theorem Cx.Ok.wish(ok:X.Ok)(E:aH->aR->Prop):(X.wish E).Ok:=
 ⟨ok.mod,ok.kind,ok.glob,ok.blt,ok.above,ok.inj,ok.has,ok.cab,ok.hd,ok.frames,ok.stk,ok.exf,ok.bs,ok.bsz,ok.noex,ok.exfs,ok.funs,ok.frf⟩
theorem Cx.Ok.unwish(ok:(X.wish E).Ok):X.Ok:=
 ⟨ok.mod,ok.kind,ok.glob,ok.blt,ok.above,ok.inj,ok.has,ok.cab,ok.hd,ok.frames,ok.stk,ok.exf,ok.bs,ok.bsz,ok.noex,ok.exfs,ok.funs,ok.frf⟩
section
theorem Inv.wish(I:Inv X pins σ H s)(E:aH->aR->Prop):Inv (X.wish E) pins σ H s:=⟨I.ok.wish E,I.os,I.bare,I.base,I.loc,I.cell,I.free,I.freeC,I.pin,I.hok,I.len⟩
theorem Inv.unwish(I:Inv (X.wish E) pins σ H s):Inv X pins σ H s:=⟨I.ok.unwish,I.os,I.bare,I.base,I.loc,I.cell,I.free,I.freeC,I.pin,I.hok,I.len⟩
theorem SP.unwish{D:Ends}{f:Flow}(h:SP (X.wish E) pins D f s'):SP X pins D f s':=by
 cases f with
 | next=>obtain ⟨σ',H',I,q⟩:=h;exact ⟨σ',H',I.unwish,q⟩
 | brk=>obtain ⟨σ',H',I,q⟩:=h;exact ⟨σ',H',I.unwish,q⟩
 | cont=>obtain ⟨σ',H',I,q⟩:=h;exact ⟨σ',H',I.unwish,q⟩
 | ret u=>obtain ⟨v,σ',H',I,r,q⟩:=h;exact ⟨v,σ',H',I.unwish,r,q⟩
theorem PE.nox{t:TE}(h:PE X.nox e t):PE X e t:=fun pins s σ H Q I hw=>
 dG (h pins s σ H Q (I.wish _) hw) (fun _ _ zz=>by obtain ⟨v,H',I',r,q⟩:=zz;exact ⟨v,H',I'.unwish,r,q⟩) fun _ _ z=>fO z
theorem PT.nox{t:TT}(h:PT X.nox e t):PT X e t:=fun pins s σ H Q I hw=>
 dG (h pins s σ H Q (I.wish _) hw) (fun _ _ zz=>by obtain ⟨H',I',q⟩:=zz;exact ⟨H',I'.unwish,q⟩) fun _ _ z=>fO z
theorem PSs.nox{st:List Stmt}{t:TS}(h:PSs X.nox st t):PSs X st t:=fun pins s σ H D I hw=>
 dG (h pins s σ H D (I.wish _) hw) (fun _ _ q=>q.unwish) fun _ _ z=>fO z
end
variable {te:TE}
section
variable {st:Stmt}{rest:List Stmt}{t u:TS}
def Ary:TS:=fun D σ H=>D.nx σ H
def Auc(t u:TS):TS:=fun D σ H=>t { D with nx:=u D } σ H
theorem Ajx:PSs X [] Ary:=fun _ _ σ H _ I h=>mJ ⟨σ,H,I,h⟩
theorem Aft(h1:PS X st t)(h2:PSs X rest u):PSs X (st::rest) (Auc t u):=by
 intro pins s σ H D I h;refine tL (thn (h1 pins s σ H { D with nx:=u D } I h) fun f s1 q=>?_);cases f with
 | next=>
  obtain ⟨σ',H',I',q⟩:=q;exact h2 pins s1 σ' H' D I' q
 | ret v=>exact q
 | brk=>exact q
 | cont=>exact q
theorem Ajv(h1:PS X st t):PSs X [st] t:=by
 intro pins s σ H D I h;refine tL (thn (h1 pins s σ H D I h) fun f s1 q=>?_);cases f with
 | next=>exact mJ q
 | ret v=>exact q
 | brk=>exact q
 | cont=>exact q
theorem Inv.quiet(I:Inv X pins σ H s):interactive X.env=false:=by simp[interactive,I.ok.kind]
def Asm(te:TE):TS:=fun D σ H=>te σ H fun _ H1=>D.nx σ H1
theorem Ak1(he:PE X e te)(hs:swapsWith e ψ pos.line X.env=pure false:=by rfl):PS X (.Expr e pos) (Asm te):=by
 intro pins s σ H D I h;exact wpAny_Expr_any (thn ZbS fun v s1 zz=>by obtain ⟨x,H1,I1,r1,q1⟩:=zz;exact ⟨σ,H1,I1,q1⟩) I.quiet hs
def Aun(te:TE):TS:=fun D σ H=>te σ H D.rt
theorem An2(he:PE X e te):PS X (.Return (ξ e) pos) (Aun te):=by
 intro pins s σ H D I h;exact wpAny_Return_some (thn ZbS fun v s1 zz=>by obtain ⟨x,H1,I1,r1,q1⟩:=zz;exact ⟨x,σ,H1,I1,r1,q1⟩)
def Avc(c:TT)(t u:TS):TS:=fun D σ H=>c σ H fun b H1=>if b=true then t D σ H1 else u D σ H1
theorem Atg{a b:List Stmt}{tc:TT}(hc:PT X c tc)(ha:PSs X a t)(hb:PSs X b u):PS X (.If c a b pos) (Avc tc t u):=by
 intro pins s σ H D I h;refine wpAny_If (thn (hc pins s σ H _ I h) fun d s1 zz=>?_);obtain ⟨H1,I1,q1⟩:=zz;cases d with
 | true=>exact ha pins s1 σ H1 D I1 q1
 | false=>exact hb pins s1 σ H1 D I1 q1
def Anv:TS:=fun _ _ _=>False
theorem Af1:PS X st Anv:=fun _ _ _ _ _ _ h=>h.elim
end
abbrev TG:=V->St->Hp->(St->Hp->Prop)->Prop
abbrev TGs:=List V->St->Hp->(St->Hp->Prop)->Prop
def PG(X:Cx)(target:Expr)(t:TG):Prop:=
 ∀ (pins:List (Addr×Obj)) (s:aR) (σ:St) (H:Hp) (v:V) (u:aH) (Q:St->Hp->Prop),Inv X pins σ H s->RelV v u->t v σ H Q ->
  wpAny Zg X.A (assign target X.env u) (fun _ s'=>∃ σ' H',Inv X pins σ' H' s'/\Q σ' H') X.xe s
def PGs(X:Cx)(ts:List Expr)(t:TGs):Prop:=
 ∀ (pins:List (Addr×Obj)) (s:aR) (σ:St) (H:Hp) (vs:List V) (us:List aH) (Q:St->Hp->Prop),Inv X pins σ H s->Vals vs us->t vs σ H Q ->
  wpAny Zg X.A (assignInOrder ((assignEach ts X.env).map (·.2)) us) (fun _ s'=>∃ σ' H',Inv X pins σ' H' s'/\Q σ' H') X.xe s
abbrev Apk:=V->V->V->Hp->(Hp->Prop)->Prop
def Asy(X:Cx)(t:Apk):Prop:=
 ∀ (pins:List (Addr×Obj)) (s:aR) (σ:St) (H:Hp) (o i v:V) (ov iv u:aH) (Q:Hp->Prop),Inv X pins σ H s->RelV o ov->RelV i iv->RelV v u->t o i v H Q ->
  wpAny Zg X.A (setItem ov iv u) (fun _ s'=>∃ H',Inv X pins σ H' s'/\Q H') X.xe s
variable {es:List Expr}{k:Nat}{tg:Expr}
section
def Xd(i:Nat):TG:=fun v σ H Q=>Q ZdW H
theorem Ac9(hN:X.N.Nodup)(hi:X.N[i]? = ξ x)(hx:Loc X.env.scope x)(hf:X.fn x=true\/X.env.scope.names.lookup x=ξ .local:=by first | exact .inl rfl | exact .inr rfl | assumption):PG X (.Name x pos) (Xd i):=by
 intro pins s σ H v u Q I r h;exact wpAny_assign_Name (Yl I hN hi hx r (fun s' I'=>⟨_,H,I',h⟩) hf)
def gNil:TGs:=fun vs σ H Q=>vs=[]/\Q σ H
def gCons(t:TG)(u:TGs):TGs:=fun vs σ H Q=>∃ v r,vs=v::r/\t v σ H fun σ' H'=>u r σ' H' Q
theorem Alf:PGs X [] gNil:=by
 intro pins s σ H vs us Q I r h;obtain ⟨e,h⟩:=h;subst e;cases r;exact assignInOrder_nil ⟨σ,H,I,h⟩
theorem Ai2{t:TG}{u:TGs}(h1:PG X e t)(h2:PGs X es u)
  (hs:(assignEach (e::es) X.env).map (·.2)=assign e X.env::(assignEach es X.env).map (·.2):=by rfl):PGs X (e::es) (gCons t u):=by
 intro pins s σ H vs us Q I r h;obtain ⟨v,vr,e1,h⟩:=h;subst e1;cases r with
 | cons r rr=>
  rw[hs];refine assignInOrder_cons (thn (h1 pins s σ H _ _ _ I r h) fun _ s1 zz=>?_);obtain ⟨σ1,H1,I1,q1⟩:=zz;exact h2 pins s1 σ1 H1 _ _ Q I1 rr q1
def gTup(K:aL)(n:Nat)(t:TGs):TG:=fun v σ H Q=>∃ a xs,v = .ref a/\SqT K H a xs/\xs.length=n/\t xs σ H Q
theorem Apm{t:TGs}{n:Nat}(hc:X.calm=true)(h:PGs X es t)
  (hn:(assignEach es X.env).length=n:=by rfl) (hst:(assignEach es X.env).findIdx? (·.1)=ψ:=by rfl):PG X (.Tuple es k pos) (gTup X.K n t):=by
 intro pins s σ H v u Q I r hw;obtain ⟨a,xs,e1,hq,hl,hw⟩:=hw;subst e1;cases r;obtain ⟨its,rv,ht,hz⟩:=I.tuple hq;refine assign_Tuple_tuple Zae ht (by simp[hn,<- hl,rv.length]) hst fun h' hx=>?_
 have I1:Inv X pins σ H { s with heap:=h' }:=I.kept (t':=s.toks) fun b o e=>hx b o (cB (bD e)) e
 exact h pins _ σ H xs _ Q I1 (by simpa using rv) hw
def gSub(to ti:TE)(t:Apk):TG:=fun v σ H Q=>to σ H fun o H1=>ti σ H1 fun i H2=>t o i v H2 fun H3=>Q σ H3
theorem Anp{o i:Expr}{to ti:TE}{t:Apk}(ho:PE X o to)(hi:PE X i ti)(hs:Asy X t)
  (ha:∀ v,assign Zbw X.env v=(do
   let ov <- holding [v] Zci
   let iv <- holding [v,ov] (eval i X.env)
   standAt pos
   holding [v,ov,iv] (setItem ov iv v)
   release [v,ov,iv] []):=by intro _;rfl):PG X Zbw (gSub to ti t):=by
 intro pins s σ H v u Q I r h;rw[ha];refine aD (dQ (thn (ho pins s σ H _ I h) fun ov s1 zz=>?_));obtain ⟨x,H1,I1,r1,q1⟩:=zz;refine aD (dQ (thn (hi pins s1 σ H1 _ I1 q1) fun iv s2 zz=>?_));obtain ⟨y,H2,I2,r2,q2⟩:=zz;refine aD (oM (aD (dQ (thn (hs pins s2 σ H2 x y v ov iv u _ I2 r1 r2 r q2) fun _ s3 zz=>?_))));obtain ⟨H3,I3,q3⟩:=zz;exact wpAny_release ⟨σ,H3,I3,q3⟩
def Ajz(te:TE)(g:TG):TS:=fun D σ H=>te σ H fun x H1=>g x σ H1 D.nx
theorem Aow{g:TG}(he:PE X e te)(hg:PG X tg g)(hs:swapsWithSole [tg] e pos.line X.env=pure false:=by rfl)(hw:swappedStores [tg] e X.env=pure ψ:=by rfl)
  (h1:(assignEach [tg] X.env).map (·.2)=[assign tg X.env]:=by rfl):PS X (.Assign [tg] e pos) (Ajz te g):=by
 intro pins s σ H D I h;refine wpAny_Assign_stores (thn ZbS fun v s1 zz=>zz.elim fun x H1 I1 r1 q1=>?_) hs hw;rw[h1];exact thn (hg pins s1 σ H1 x v _ I1 r1 q1) fun _ s2 q=>q
theorem Ap0{pos':Pos}(hN:X.N.Nodup)(hi:X.N[i]? = ξ x)(hx:Loc X.env.scope x)(he:PE X e te)(hs:swapsWith e (ξ (.Name x pos')) pos.line X.env=pure false:=by rfl)(hf:X.fn x=true\/X.env.scope.names.lookup x=ξ .local:=by first | exact .inl rfl | exact .inr rfl | assumption) :
  PS X (.Assign [.Name x pos'] e pos) (Ajz te (Xd i)):=by
 intro pins s σ H D I h;refine wpAny_Assign_Name (thn ZbS fun v s1 zz=>zz.elim fun y H1 I1 r1 q1=>?_) hs;exact Yl I1 hN hi hx r1 (fun s2 I2=>⟨_,H1,I2,q1⟩) hf
end
variable {body:List Stmt}
section
def An8(c:TT)(tb:TS):TS:=fun D σ H=>∃ W:Nat->St->Hp->Prop,(∃ m,W m σ H)/\∀ m σ H,W m σ H ->
 c σ H fun b H1=>if b=true then ∃ N:St->Hp->Prop,(∀ σ' H',N σ' H'->∃ m',m' < m/\W m' σ' H')/\tb { D with nx:=N,ct:=N,bk:=D.nx } σ H1 else D.nx σ H1
theorem Aiq{tc:TT}{tb:TS}(hp:tM Zg X.A X.env X.xe)(hc:PT X c tc)(hb:PSs X body tb):PS X (.While c body [] pos) (An8 tc tb):=by
 intro pins s σ H D I h;obtain ⟨W,⟨m0,w0⟩,turn⟩:=h;refine wpAny_While (codeAny_whileLoop (fun n s'=>∃ σ' H',Inv X pins σ' H' s'/\W n σ' H') ?_ m0 ⟨σ,H,I,w0⟩);rintro n s1 ⟨σ1,H1,I1,w1⟩;refine iQ hp (thn (hc pins s1 σ1 H1 _ I1 (turn n σ1 H1 w1)) fun b s2 zz=>?_);obtain ⟨H2,I2,q2⟩:=zz;cases b with
 | true=>
  obtain ⟨N,hN,q2⟩:=q2;rw[if_pos rfl];refine iQ hp (thn (hb pins s2 σ1 H2 _ I2 q2) fun f s3 q3=>?_);cases f with
  | next=>
   obtain ⟨σ3,H3,I3,n3⟩:=q3;obtain ⟨m',hm,w3⟩:=hN σ3 H3 n3;exact ⟨m',hm,σ3,H3,I3,w3⟩
  | cont=>
   obtain ⟨σ3,H3,I3,n3⟩:=q3;obtain ⟨m',hm,w3⟩:=hN σ3 H3 n3;exact ⟨m',hm,σ3,H3,I3,w3⟩
  | brk=>exact q3
  | ret v=>exact q3
 | false=>
  rw[if_neg cQ];exact mJ ⟨σ1,H2,I2,q2⟩
end
structure It where
 go:Nat->Hp->Prop
 yld:Nat->Hp->V->Hp->Prop
 stop:Nat->Hp->Prop
def F9(X:Cx)(pins:List (Addr×Obj))(H:Hp)(b:Addr):Prop:=
 H b=ψ/\b≠X.env.locals/\b∉X.fs/\(b∈X.ex\/X.s₀.heap.objs.size<=b)/\(∀ x c,X.env.cells.lookup x=ξ c->c≠b)/\∀ p∈X.pn++pins,p.1≠b
theorem Inv.fpOk(I:Inv X pins σ H s)(hb:s.heap.objs.size<=b)(hn:H' b=ψ):F9 X pins H' b:=by
 refine ⟨hn,jC (bN I.lt hb),I.nofs hb,.inr (eC I.sz hb),fun x c e z=>?_,fun p hp z=>?_⟩
 ·obtain ⟨v,q⟩:=I.cell x c e;exact absurd (bN q.lt (by rw[z];exact hb)) (dI _)
 ·exact absurd (bN (bD (I.pin p hp).1) (by rw[z];exact hb)) (dI _)
structure Turn(P:cO)(w:dH)(K:aL)(tg:Expr)(J:It)(fp:List Addr)(it:Addr)(tn:Nat->Heap->Prop):Prop where
 mem:it∈fp
 obj:∀ i h,tn i h->∀ b∈fp,∃ o,h.get? b=ξ o/\∀ v,o.data≠.cell v
 keep:∀ i h h',tn i h->(∀ b∈fp,∀ o,h.get? b=ξ o->h'.get? b=ξ o)->tn i h'
 item:∀ (X:Cx),X.prog=P->X.w=w->X.K=K->X.calm=true->∀ (i:Nat) (pins:List (Addr×Obj)) (s:aR) (σ:St) (H:Hp) (E:aH->aR->Prop),Inv X pins σ H s->(∀ b∈fp,F9 X pins H b)->tn i s.heap->J.go i H ->
  wpAny (model P w) X.A (pyNext (.ref it)) (fun r s1=>∃ u,r=ξ u /\
   wpAny (model P w) X.A (letOwnedTupleGo tg (.ref it) u) (fun _ s2=>∃ x H',Inv X pins σ H' s2/\RelV x u/\J.yld i H x H'/\tn (i+1) s2.heap/\∀ b∈fp,H' b=ψ) E s1) E s
 done:∀ (X:Cx),X.prog=P->X.w=w->X.K=K->X.calm=true->∀ (i:Nat) (pins:List (Addr×Obj)) (s:aR) (σ:St) (H:Hp) (E:aH->aR->Prop),Inv X pins σ H s->(∀ b∈fp,F9 X pins H b)->tn i s.heap->J.stop i H ->
  wpAny (model P w) X.A (pyNext (.ref it)) (fun r s1=>r=ψ/\Inv X pins σ H s1) E s
 self:∀ (A:eE) (i:Nat) (s:aR) (Q:aH->aR->Prop) (E:aH->aR->Prop),tn i s.heap->Q (.ref it) s->wpAny (model P w) A (pyIter (.ref it)) Q E s
abbrev TI:=St->Hp->(It->Hp->Prop)->Prop
def PIE(X:Cx)(pins:List (Addr×Obj))(σ:St)(tg:Expr)(R:It->Hp->Prop)(itv:aH)(s2:aR):Prop:=
 ∃ (it:Addr) (fp:List Addr) (tn:Nat->Heap->Prop) (J:It) (H':Hp),itv = .ref it/\Inv X pins σ H' s2/\Turn X.prog X.w X.K tg J fp it tn/\tn 0 s2.heap/\(∀ b∈fp,F9 X pins H' b)/\R J H'
def PI(X:Cx)(tg iter:Expr)(wi:TI):Prop:=
 ∀ (pins:List (Addr×Obj)) (s:aR) (σ:St) (H:Hp) (R:It->Hp->Prop),Inv X pins σ H s->wi σ H R ->
  wpAny Zg X.A (eval iter X.env) (fun v s1=>wpAny Zg X.A (pyIter v) (PIE X pins σ tg R) X.xe s1) X.xe s
theorem Abn{it:Addr}{o:Obj}{n:String}{vs:Array aH}{Q:Unit->aR->Prop}(ho:s.heap.get? it=ξ o)(hc:o.cls = .type n)(hd:o.data = .fields vs)
  (hn:["enumerate","zip","dict_itemiterator","dict_reverseitemiterator","odict_iterator","itertools.zip_longest","itertools.pairwise"].contains n=false) (hQ:Q () s):wpAny M A (letOwnedTupleGo tg (.ref it) u) Q E s:=by
 unfold letOwnedTupleGo;cases tg <;> first
  | exact aW hQ
  | (cases u <;> first
    | exact aW hQ
    | (refine aD (vX ho ?_)
       rw[hc,hd];show wpAny M A (if (["enumerate","zip","dict_itemiterator","dict_reverseitemiterator","odict_iterator","itertools.zip_longest","itertools.pairwise"].contains n&&vs[0]? == ξ (rawInt _))=true then _ else _) Q E s;rw[if_neg (by intro h;rw[hn,vY] at h;cases h)]
       exact aW hQ))
def Itl(K:aL)(a:Addr):It:=
 ⟨fun i H=>∃ xs x,SqL K H a xs/\xs[i]? = ξ x,fun i H x H'=>H'=H/\∀ xs,SqL K H a xs->xs[i]? = ξ x,fun i H=>∃ xs,SqL K H a xs/\xs.length<=i⟩
def Itt(K:aL)(a:Addr):It:=
 ⟨fun i H=>∃ xs x,SqT K H a xs/\xs[i]? = ξ x,fun i H x H'=>H'=H/\∀ xs,SqT K H a xs->xs[i]? = ξ x,fun i H=>∃ xs,SqT K H a xs/\xs.length<=i⟩
noncomputable def Itr(lo:Int)(n:Nat):It:=⟨fun i _=>i < n,fun i H x H'=>H'=H/\x = .int (lo+i),fun i _=>n<=i⟩
theorem Aef(a it:Addr):Turn P w K tg (Itl K a) [it] it (fun i h=>h.IsListIter it a i) where
 mem:=Za
 obj:=fun i h st b hb=>by
  have e:b=it:=by simpa using hb
  subst e;obtain ⟨o,e,c,d⟩:=st;exact ⟨o,e,fun v z=>by rw[d] at z;cases z⟩
 keep:=fun i h h' st k=>st.at fun o e=>k it Za o e
 item:=by
  intro X hP hw hK hc i pins s σ H E I hf st hg;subst hP hw hK;obtain ⟨xs,x,hq,hx⟩:=hg;obtain ⟨its,rv,p,hz⟩:=I.list hq;obtain ⟨u,hu,ru⟩:=rv.get hx;obtain ⟨f0,f1,f2,f3,f4,f5⟩:=hf it Za;refine wpAny_pyNext_list_item st p.isList (x:=u) (by simpa using hu) fun h' st' sb=>?_
  have I1:Inv X pins σ H { s with heap:=h' }:=I.turned (t':=s.toks) Zbf f0 f1 f3 f4 f5;obtain ⟨o,e,c,d⟩:=id st';exact ⟨u,rfl,Abn (s:={ s with heap:=h' }) e c d Zb ⟨x,H,I1,ru,⟨rfl,fun ys hy=>by rw[I.list_inj hy hq];exact hx⟩,st',fun b hb=>(hf b hb).1⟩⟩
 done:=by
  intro X hP hw hK hc i pins s σ H E I hf st hg;subst hP hw hK;obtain ⟨xs,hq,hx⟩:=hg;obtain ⟨its,rv,p,hz⟩:=I.list hq;obtain ⟨f0,f1,f2,f3,f4,f5⟩:=hf it Za;have hl:=rv.length;exact wpAny_pyNext_list_end Zae st p.isList (by simp;omega) fun h' eb=>⟨rfl,I.turned (t':=s.toks) Zb0 f0 f1 f3 f4 f5⟩
 self:=fun _ _ _ _ _ st h=>wpAny_pyIter_listiter st h
theorem Aa4(a it:Addr):Turn P w K tg (Itt K a) [it] it (fun i h=>h.IsTupleIter it a i) where
 mem:=Za
 obj:=fun i h st b hb=>by
  have e:b=it:=by simpa using hb
  subst e;obtain ⟨o,e,c,d⟩:=st;exact ⟨o,e,fun v z=>by rw[d] at z;cases z⟩
 keep:=fun i h h' st k=>st.at fun o e=>k it Za o e
 item:=by
  intro X hP hw hK hc i pins s σ H E I hf st hg;subst hP hw hK;obtain ⟨xs,x,hq,hx⟩:=hg;obtain ⟨its,rv,p,hz⟩:=I.tuple hq;obtain ⟨u,hu,ru⟩:=rv.get hx;obtain ⟨f0,f1,f2,f3,f4,f5⟩:=hf it Za;refine wpAny_pyNext_tuple_item st (show s.heap.IsTuple a its.toArray from p) (x:=u) (by simpa using hu) fun h' st' sb=>?_
  have I1:Inv X pins σ H { s with heap:=h' }:=I.turned (t':=s.toks) Zbf f0 f1 f3 f4 f5;obtain ⟨o,e,c,d⟩:=id st';exact ⟨u,rfl,Abn (s:={ s with heap:=h' }) e c d Zb ⟨x,H,I1,ru,⟨rfl,fun ys hy=>by rw[I.tuple_inj hy hq];exact hx⟩,st',fun b hb=>(hf b hb).1⟩⟩
 done:=by
  intro X hP hw hK hc i pins s σ H E I hf st hg;subst hP hw hK;obtain ⟨xs,hq,hx⟩:=hg;obtain ⟨its,rv,p,hz⟩:=I.tuple hq;obtain ⟨f0,f1,f2,f3,f4,f5⟩:=hf it Za;have hl:=rv.length;exact wpAny_pyNext_tuple_end Zae st (show s.heap.IsTuple a its.toArray from p) (by simp;omega) fun h' eb=>⟨rfl,I.turned (t':=s.toks) Zb0 f0 f1 f3 f4 f5⟩
 self:=fun _ _ _ _ _ st h=>wpAny_pyIter_tupleiter st h
theorem Aak(it:Addr)(lo:Int)(n:Nat):Turn P w K tg (Itr lo n) [it] it (fun i h=>rA h it (lo+(i:Nat) * 1) ((n:Int) - (i:Nat)) 1) where
 mem:=Za
 obj:=fun i h st b hb=>by
  have e:b=it:=by simpa using hb
  subst e;exact ⟨_,st,fun v z=>by
   have z':vB _=Data.cell v:=z;cases z'⟩
 keep:=fun i h h' st k=>k it Za _ st
 item:=by
  intro X hP hw hK hc i pins s σ H E I hf st hg;subst hP hw hK;obtain ⟨f0,f1,f2,f3,f4,f5⟩:=hf it Za;have W:=xR (prog:=X.prog) (w:=X.w) Zae it lo 1 n;refine W.item i s _ _ hg st fun v h' tk hv st' kk=>?_
  obtain ⟨t,rfl⟩:=hv;have I1:Inv X pins σ H { s with heap:=h',toks:=tk }:=I.turned (fun b o hb e=>kk b o (by simpa using hb) e) f0 f1 f3 f4 f5;refine ⟨_,rfl,Abn (s:={ s with heap:=h',toks:=tk }) (n := "range_iterator") st' rfl rfl Zb ⟨.int (lo+i),H,I1,⟨t,?_⟩,⟨rfl,rfl⟩,st',fun b hb=>(hf b hb).1⟩⟩;rw[vC]
 done:=by
  intro X hP hw hK hc i pins s σ H E I hf st hg;subst hP hw hK;obtain ⟨f0,f1,f2,f3,f4,f5⟩:=hf it Za;exact pO Zae st (by have:n<=i:=hg;omega) fun h' eb=>⟨rfl,I.turned (t':=s.toks) Zb0 f0 f1 f3 f4 f5⟩
 self:=fun _ _ _ _ _ st h=>pP st h
variable {p:Pos}{fp:List Addr}
section
def Asc(K:aL)(tl:TE):TI:=fun σ H R=>tl σ H fun x H1=>∃ a,x = .ref a/\(∃ xs,SqL K H1 a xs)/\R (Itl K a) H1
def Avh(K:aL)(tl:TE):TI:=fun σ H R=>tl σ H fun x H1=>∃ a,x = .ref a/\(∃ xs,SqT K H1 a xs)/\R (Itt K a) H1
theorem Aks{l:Expr}{tl:TE}(hl:PE X l tl):PI X tg l (Asc X.K tl):=by
 intro pins s σ H R I h;refine thn (hl pins s σ H _ I h) fun v s1 zz=>?_
 obtain ⟨x,H1,I1,r1,q1⟩:=zz;obtain ⟨a,e,⟨xs,hq⟩,q⟩:=q1;subst e;cases r1;obtain ⟨its,rv,p,hz⟩:=I1.list hq;refine kO p.isList ?_;refine ⟨s1.heap.objs.size,[s1.heap.objs.size],_,_,H1,rfl,I1.kept (t':=s1.toks) fun b o e=>aG _ e,Aef a _,⟨_,aZ _ rfl,rfl,rfl⟩,fun b hb=>?_,q⟩;have e:b=s1.heap.objs.size:=by simpa using hb
 subst e;exact I1.fpOk (aP _) ZaA
theorem Aok{l:Expr}{tl:TE}(hl:PE X l tl):PI X tg l (Avh X.K tl):=by
 intro pins s σ H R I h;refine thn (hl pins s σ H _ I h) fun v s1 zz=>?_
 obtain ⟨x,H1,I1,r1,q1⟩:=zz;obtain ⟨a,e,⟨xs,hq⟩,q⟩:=q1;subst e;cases r1;obtain ⟨its,rv,p,hz⟩:=I1.tuple hq;refine gF (show s1.heap.IsTuple a its.toArray from p) ?_;refine ⟨s1.heap.objs.size,[s1.heap.objs.size],_,_,H1,rfl,I1.kept (t':=s1.toks) fun b o e=>aG _ e,Aa4 a _,⟨_,aZ _ rfl,rfl,rfl⟩,fun b hb=>?_,q⟩;have e:b=s1.heap.objs.size:=by simpa using hb
 subst e;exact I1.fpOk (aP _) ZaA
theorem Afu{R:It->Hp->Prop}{lo hi:Int}{t u v:Tok}{tk:Nat}(I:Inv X pins σ H s)(h1:-(2 ^ 62)<=lo)(h2:lo < 2 ^ 62)(h3:-(2 ^ 62)<=hi)(h4:hi < 2 ^ 62)
  (q:R (Itr lo (hi - lo).toNat) H):wpAny Zg X.A (pyIter ZM) (PIE X pins σ tg R) E { s with heap:=s.heap.push { cls:=.type "range",data:=.fields #[.int lo t,.int hi u,.int 1 v] },toks:=tk }:=by
 refine sG (vD ..) (small_one h1 h2 h3 h4) ?_;have I1:Inv X pins σ H { s with heap:=s.heap.push { cls:=.type "range",data:=.fields #[.int lo t,.int hi u,.int 1 v] },toks:=tk }:=I.kept fun b o e=>aG _ e
 refine ⟨(s.heap.push { cls:=.type "range",data:=.fields #[.int lo t,.int hi u,.int 1 v] }).objs.size,[(s.heap.push { cls:=.type "range",data:=.fields #[.int lo t,.int hi u,.int 1 v] }).objs.size],_,_,H,rfl,
  I1.kept (t':=tk) fun b o e=>aG _ e,Aak _ lo (hi - lo).toNat,?_,fun b hb=>?_,q⟩
 ·have e1:lo+((0:Nat):Int) * 1=lo:=Za
  have e2:(((hi - lo).toNat:Nat):Int) - ((0:Nat):Int)=gW lo hi 1:=by rw[rV];split <;> omega
  show rA _ _ (lo+((0:Nat):Int) * 1) ((((hi - lo).toNat:Nat):Int) - ((0:Nat):Int)) 1;rw[e1,e2];exact aZ _ rfl
 ·have e:b=(s.heap.push { cls:=.type "range",data:=.fields #[.int lo t,.int hi u,.int 1 v] }).objs.size:=by simpa using hb
  subst e;exact I1.fpOk (aP _) ZaA
def Aqr(ta:TA):TI:=fun σ H R=>ta σ H fun vs H1=>∃ j:Int,vs=[.int j]/\-(2 ^ 62)<=j/\j < 2 ^ 62/\R (Itr 0 j.toNat) H1
theorem Afj{a:Expr}{ta:TA}(hg:Gl X "range")(hm:X.mg "range" = ψ)(ha:PA X [a] ta)(hs:bK [a] X.env=[ZO]:=by rfl):PI X tg (.Call (.Name "range" p) [a] [] pos) (Aqr ta):=by
 intro pins s σ H R I h;refine Call_ (Em I hg hm sH (cC (thn Zaa fun us s1 zz=>zz.elim fun vs H1 I1 r1 q1=>?_) hs rfl));obtain ⟨j,e,q1,q2,q⟩:=q1;subst e;cases r1 with
 | cons r rr=>
  cases rr;obtain ⟨t,rfl⟩:=r;exact call_range_1 (Afu I1 Ze Ze q1 q2 (by simpa using q))
def Au3(wi:TI)(g:TG)(tb:TS):TS:=fun D σ H=>wi σ H fun J H1=>∃ W:Nat->Nat->St->Hp->Prop,(∃ m,W 0 m σ H1)/\∀ i m σ H,W i m σ H ->
 (J.stop i H/\D.nx σ H)\/(J.go i H/\∃ N:St->Hp->Prop,(∀ σ' H',N σ' H'->∃ m',m' < m/\W (i+1) m' σ' H')/\∀ x H',J.yld i H x H'->g x σ H' fun σ2 H2=>tb { D with nx:=N,ct:=N,bk:=D.nx } σ2 H2)
noncomputable def Ti(fp:List Addr)(h:Heap):List (Addr×Obj):=fp.filterMap fun b=>(h.get? b).map fun o=>(b,o)
theorem Jt{o:Obj}(hb:b∈fp)(e:h.get? b=ξ o):(b,o)∈Ti fp h:=iG.mpr ⟨b,hb,by rw[e];rfl⟩
theorem Ad6{p:Addr×Obj}(hp:p∈Ti fp h):p.1∈fp/\h.get? p.1=ξ p.2:=by
 obtain ⟨b,hb,e⟩:=iG.mp hp;cases q:h.get? b with
 | none=>rw[q] at e;cases e
 | some o=>
  rw[q] at e;have e':(b,o)=p:=bQ e;subst e';exact ⟨hb,q⟩
theorem Inv.pinned(I:Inv X pins σ H s)(hf:∀ b∈fp,F9 X pins H b)(ho:∀ b∈fp,∃ o,s.heap.get? b=ξ o/\∀ v,o.data≠.cell v):Inv X (pins++Ti fp s.heap) σ H s:=
 I.pins_of fun p hp=>(cX.mp hp).elim (fun z=>I.pin p (aT _ z)) fun z=>by
  obtain ⟨hb,e⟩:=Ad6 z;obtain ⟨f0,f1,f2,_⟩:=hf p.1 hb;obtain ⟨o,e',d⟩:=ho p.1 hb;rw[e] at e';cases e';exact ⟨e,f0,f1,f2,d⟩
theorem Inv.unpinned{pl:List (Addr×Obj)}(I:Inv X (pins++pl) σ H s):Inv X pins σ H s:=I.pins_of fun p hp=>I.pin p (aT _ (eZ _ hp))
theorem Ao3{iter:Expr}{wi:TI}{g:TG}{tb:TS}(hp:tM Zg X.A X.env X.xe)(hc:X.calm=true)(hi:PI X tg iter wi)(hg:PG X tg g)(hb:PSs X body tb)
  (hs:∀ x,foldedSetIterable iter X.env x=pure x:=by intro _;rfl):PS X (.For tg iter body [] pos) (Au3 wi g tb):=by
 intro pins s σ H D I h;refine wpAny_For (thn (hi pins s σ H _ I h) fun v s1 h1=>thn h1 fun itv s2 h2=>?_) hs;obtain ⟨it,fp,tn,J,H2,e,I2,T,st2,f2,W,⟨m0,w0⟩,turn⟩:=h2;subst e;have stat:∀ {H':Hp},(∀ b∈fp,H' b=ψ)->∀ b∈fp,F9 X pins H' b:=fun hn b hb=>⟨hn b hb,(f2 b hb).2⟩
 refine codeAny_forLoop_any (fun n s'=>∃ i σ' H',Inv X pins σ' H' s'/\tn i s'.heap/\(∀ b∈fp,H' b=ψ)/\W i n σ' H') ?_ m0 ⟨0,σ,H2,I2,st2,fun b hb=>(f2 b hb).1,w0⟩;rintro n s3 ⟨i,σ3,H3,I3,st3,fr3,w3⟩;rcases turn i n σ3 H3 w3 with ⟨stop,qn⟩ | ⟨go,N,hN,step⟩
 ·refine iQ hp (thn (T.done X rfl rfl rfl hc i pins s3 σ3 H3 X.xe I3 (stat fr3) st3 stop) fun r s4 zz=>?_);obtain ⟨hr,I4⟩:=zz;subst hr;exact mJ ⟨σ3,H3,I4,qn⟩
 ·refine iQ hp (thn (T.item X rfl rfl rfl hc i pins s3 σ3 H3 X.xe I3 (stat fr3) st3 go) fun r s4 zz=>?_);obtain ⟨u,hr,h4⟩:=zz;subst hr;refine iQ hp (thn h4 fun _ s5 zz=>?_);obtain ⟨x,H5,I5,r5,y5,st5,fr5⟩:=zz;have I5':=I5.pinned (stat fr5) (T.obj _ _ st5);refine iQ hp (thn (hg _ s5 σ3 H5 x u _ I5' r5 (step x H5 y5)) fun _ s6 zz=>?_);obtain ⟨σ6,H6,I6,q6⟩:=zz;refine iQ hp (thn (hb _ s6 σ6 H6 _ I6 q6) fun f s7 q7=>?_);have again:∀ {σ7:St} {H7:Hp},Inv X (pins++Ti fp s5.heap) σ7 H7 s7->N σ7 H7->∃ m,m < n/\∃ i σ' H',Inv X pins σ' H' s7/\tn i s7.heap/\(∀ b∈fp,H' b=ψ)/\W i m σ' H':=fun {σ7 H7} I7 n7=>by
   obtain ⟨m',hm,w7⟩:=hN σ7 H7 n7;refine ⟨m',hm,i+1,σ7,H7,I7.unpinned,T.keep _ _ _ st5 fun b hb o e=>(I7.pin (b,o) Zcy).1,fun b hb=>?_,w7⟩;obtain ⟨o,e,d⟩:=T.obj _ _ st5 b hb;exact (I7.pin (b,o) Zcy).2.1
  cases f with
  | next=>obtain ⟨σ7,H7,I7,n7⟩:=q7;exact again I7 n7
  | cont=>obtain ⟨σ7,H7,I7,n7⟩:=q7;exact again I7 n7
  | brk=>obtain ⟨σ7,H7,I7,q7⟩:=q7;exact ⟨σ7,H7,I7.unpinned,q7⟩
  | ret v=>obtain ⟨x7,σ7,H7,I7,r7,q7⟩:=q7;exact ⟨x7,σ7,H7,I7.unpinned,r7,q7⟩
end
abbrev R2:=V->V->Hp->VK->Prop
def OpR(X:Cx)(f:aH->aH->Sem aH)(r:R2):Prop:=
 ∀ (pins:List (Addr×Obj)) (s:aR) (σ:St) (H:Hp) (x y:V) (v u:aH) (Q:VK),Inv X pins σ H s->RelV x v->RelV y u->r x y H Q ->
  wpAny Zg X.A (f v u) Z2 X.xe s
def UnR(X:Cx)(f:aH->Sem aH)(r:V->Hp->VK->Prop):Prop:=
 ∀ (pins:List (Addr×Obj)) (s:aR) (σ:St) (H:Hp) (x:V) (v:aH) (Q:VK),Inv X pins σ H s->RelV x v->r x H Q ->
  wpAny Zg X.A (f v) Z2 X.xe s
def CallR(X:Cx)(f:aH)(r:List V->Hp->VK->Prop):Prop:=
 ∀ (pins:List (Addr×Obj)) (s:aR) (σ:St) (H:Hp) (xs:List V) (us:List aH) (Q:VK),Inv X pins σ H s->Vals xs us->r xs H Q ->
  wpAny Zg X.A (call f us) Z2 X.xe s
def Avb(X:Cx)(r:V->Hp->(Bool->Hp->Prop)->Prop):Prop:=
 ∀ (pins:List (Addr×Obj)) (s:aR) (σ:St) (H:Hp) (x:V) (v:aH) (Q:Bool->Hp->Prop),Inv X pins σ H s->RelV x v->r x H Q ->
  wpAny Zg X.A (truthy v) (TP X pins σ Q) X.xe s
def tOp(r:R2)(ta tb:TE):TE:=fun σ H Q=>ta σ H fun x H1=>tb σ H1 fun y H2=>r x y H2 Q
def tUn(r:V->Hp->VK->Prop)(ta:TE):TE:=fun σ H Q=>ta σ H fun x H1=>r x H1 Q
def rI(C:Int->Int->Prop)(g:Int->Int->V):R2:=fun x y H Q=>∃ i j,x = .int i/\y = .int j/\C i j/\Q (g i j) H
def rI0(g:Int->Int->V):R2:=fun x y H Q=>∃ i j,x = .int i/\y = .int j/\Q (g i j) H
def rU(g:Int->V):V->Hp->VK->Prop:=fun x H Q=>∃ i,x = .int i/\Q (g i) H
variable {r:R2}
section
variable {a b:Expr}{tc:TE}
theorem Apw(ha:PE X a ta)(hb:PE X b tb){R:V->V->Hp->Prop}(I:Inv X pins σ H s)
  (h:ta σ H fun x H1=>tb σ H1 fun y H2=>R x y H2) {Q:aH->aR->Prop} {f:aH->aH->Sem aH}
  (hf:∀ v u s2 x y H2,Inv X pins σ H2 s2->RelV x v->RelV y u->R x y H2->wpAny Zg X.A (f v u) Q X.xe s2) :
  wpAny Zg X.A (eval a X.env) (fun v s₁=>wpAny Zg X.A (eval b X.env) (fun u s₂=>wpAny Zg X.A (f v u) Q X.xe s₂) X.xe s₁) X.xe s:=by
 refine thn Zai fun v s1 zz=>?_
 obtain ⟨x,H1,I1,r1,q1⟩:=zz;refine thn (hb pins s1 σ H1 _ I1 q1) fun u s2 zz=>?_
 obtain ⟨y,H2,I2,r2,q2⟩:=zz;exact hf v u s2 x y H2 I2 r1 r2 q2
theorem Aqf{op:Operator}(ho:OpR X (gQ op) r)(ha:PE X a ta)(hb:PE X b tb):PE X (.BinOp a op b pos) (tOp r ta tb):=by
 intro pins s σ H Q I h;exact wpAny_BinOp (Apw ha hb I h fun v u s2 x y H2 I2 rx ry q=>ho pins s2 σ H2 x y v u Q I2 rx ry q)
theorem As8{op:UnaryOp}{r:V->Hp->VK->Prop}(ho:UnR X (unaryOp op) r)(ha:PE X a ta):PE X (.UnaryOp op a pos) (tUn r ta):=by
 intro pins s σ H Q I h;exact UnaryOp_ (thn Zai fun v s1 zz=>by obtain ⟨x,H1,I1,r1,q1⟩:=zz;exact ho pins s1 σ H1 x v Q I1 r1 q1)
theorem opI{f:aH->aH->Sem aH}{C:Int->Int->Prop}{g:Int->Int->Int}
  (rule:∀ (i j:Int) (t u:Tok) (s:aR) (Q:aH->aR->Prop) (E:aH->aR->Prop),C i j->Q (.int (g i j) s.toks) { s with toks:=s.toks+1 }->wpAny Zg X.A ZdJ Q E s) :
  OpR X f (rI C fun i j=>.int (g i j)):=by
 intro pins s σ H x y v u Q I rx ry h;obtain ⟨i,j,rfl,rfl,hc,q⟩:=h;obtain ⟨t,rfl⟩:=rx;obtain ⟨t',rfl⟩:=ry;exact rule i j t t' s _ _ hc ⟨.int (g i j),H,I.tok _,⟨_,rfl⟩,q⟩
theorem Ash{f:aH->aH->Sem aH}{g:Int->Int->Int}
  (rule:∀ (i j:Int) (t u:Tok) (s:aR) (Q:aH->aR->Prop) (E:aH->aR->Prop),Q (.int (g i j) s.toks) { s with toks:=s.toks+1 }->wpAny Zg X.A ZdJ Q E s) :
  OpR X f (rI0 fun i j=>.int (g i j)):=by
 intro pins s σ H x y v u Q I rx ry h;obtain ⟨i,j,rfl,rfl,q⟩:=h;obtain ⟨t,rfl⟩:=rx;obtain ⟨t',rfl⟩:=ry;exact rule i j t t' s _ _ ⟨.int (g i j),H,I.tok _,⟨_,rfl⟩,q⟩
theorem Aqc{f:aH->aH->Sem aH}{g:Int->Int->Bool}
  (rule:∀ (i j:Int) (t u:Tok) (s:aR) (Q:aH->aR->Prop) (E:aH->aR->Prop),Q (.bool (g i j)) s->wpAny Zg X.A ZdJ Q E s) :
  OpR X f (rI0 fun i j=>.bl (g i j)):=by
 intro pins s σ H x y v u Q I rx ry h;obtain ⟨i,j,rfl,rfl,q⟩:=h;obtain ⟨t,rfl⟩:=rx;obtain ⟨t',rfl⟩:=ry;exact rule i j t t' s _ _ ⟨.bl (g i j),H,I,rfl,q⟩
def Aru(i j:Int):Prop:=0<=j/\j<=1000000/\i.natAbs < 2 ^ 64
def CMul(i j:Int):Prop:=(-(2 ^ 64) < i/\i < 2 ^ 64)\/(-(2 ^ 64) < j/\j < 2 ^ 64)
theorem CMul.ok{i j:Int}(h:CMul i j):IntMulOk i j:=by
 rcases h with ⟨h1,h2⟩ | ⟨h1,h2⟩
 ·exact .of_left (intBits_le_64 h1 h2)
 ·exact .of_right (intBits_le_64 h1 h2)
theorem Ao2:OpR X (gQ .Add) (rI0 fun i j=>.int (i+j)):=Ash fun _ _ _ _ _ _ _ q=>add_int q
theorem G8:OpR X (gQ .Sub) (rI0 fun i j=>.int (i - j)):=Ash fun _ _ _ _ _ _ _ q=>sub_int q
theorem Ant:OpR X (gQ .Mult) (rI CMul fun i j=>.int (i * j)):=opI fun _ _ _ _ _ _ _ hc q=>mul_int q hc.ok
theorem Jk:OpR X (gQ .Mod) (rI (fun _ j=>0 < j) fun i j=>.int (i % j)):=opI fun i j _ _ _ _ _ hc q=>by
 have h1:(0:Int) < j:=hc;exact mod_int' Ze (by rw[Int.fmod_eq_emod_of_nonneg i Ze];exact q)
theorem Tj:OpR X (gQ .Pow) (rI Aru fun i j=>.int (i ^ j.toNat)):=opI fun _ _ _ _ _ _ _ hc q=>pow_int_small hc.1 hc.2.1 hc.2.2 q
theorem unI{f:aH->Sem aH}{g:Int->Int}
  (rule:∀ (i:Int) (t:Tok) (s:aR) (Q:aH->aR->Prop) (E:aH->aR->Prop),Q (.int (g i) s.toks) { s with toks:=s.toks+1 }->wpAny Zg X.A (f (.int i t)) Q E s) :
  UnR X f (rU fun i=>.int (g i)):=by
 intro pins s σ H x v Q I rx h;obtain ⟨i,rfl,q⟩:=h;obtain ⟨t,rfl⟩:=rx;exact rule i t s _ _ ⟨.int (g i),H,I.tok _,⟨_,rfl⟩,q⟩
theorem Aof:UnR X (unaryOp .USub) (rU fun i=>.int (-i)):=unI fun _ _ _ _ _ q=>neg_int q
end
variable {op:CmpOp}
section
variable {a b:Expr}{tc:TE}
theorem Aoc{k k':Bool}(I:Inv X pins σ H s)(q:Q (.bl k) H)(e:k=k'):EP X pins σ Q (.bool k') s:=by
 subst e;exact ⟨.bl k,H,I,rfl,q⟩
theorem Acw:OpR X (iE .Lt) (rI0 fun i j=>.bl (decide (i < j))):=Aqc fun _ _ _ _ _ _ _ q=>lt_int q
theorem Aqg:OpR X (iE .LtE) (rI0 fun i j=>.bl (decide (i<=j))):=Aqc fun _ _ _ _ _ _ _ q=>le_int q
theorem N5:OpR X (iE .Gt) (rI0 fun i j=>.bl (decide (j < i))):=Aqc fun _ _ _ _ _ _ _ q=>gt_int q
theorem Adp:OpR X (iE .In) (fun x y H Q=>∃ i j,x = .str i/\y = .str j/\Q (.bl (!(gX j i 0 j.length 1).isEmpty)) H):=by
 intro pins s σ H x y v u Q I rx ry h;obtain ⟨i,j,rfl,rfl,q⟩:=h;obtain ⟨t,rfl⟩:=rx;obtain ⟨t',rfl⟩:=ry;exact in_str (Aoc I q rfl)
theorem OpR.or{f:aH->aH->Sem aH}{r':R2}(h:OpR X f r)(h':OpR X f r'):OpR X f (fun x y H Q=>r x y H Q\/r' x y H Q):=by
 intro pins s σ H x y v u Q I rx ry q;rcases q with q | q
 ·exact h pins s σ H x y v u Q I rx ry q
 ·exact h' pins s σ H x y v u Q I rx ry q
theorem Bw(b:Expr)(h:op≠.In:=by decide)(h2:op≠.NotIn:=by decide):behindInMarks op b=false:=by
 have e1:(op == CmpOp.In)=false:=by cases op <;> first | rfl | exact absurd rfl h
 have e2:(op == CmpOp.NotIn)=false:=by cases op <;> first | rfl | exact absurd rfl h2
 cases b <;> simp[behindInMarks,e1,e2]
theorem Alh(ho:OpR X (iE op) r)(ha:PE X a ta)(hb:PE X b tb)(hm:behindInMarks op b=false):PE X Zcf (tOp r ta tb):=by
 intro pins s σ H Q I h;exact wpAny_Compare1 (Apw ha hb I h fun v u s2 x y H2 I2 rx ry q=>ho pins s2 σ H2 x y v u Q I2 rx ry q) hm
def Amz(t:TE):TT:=fun σ H Q=>t σ H fun x H'=>∃ k,x = .bl k/\Q k H'
theorem Aki(ho:OpR X (iE op) r)(ha:PE X a ta)(hb:PE X b tb)(hm:behindInMarks op b=false):PT X Zcf (Amz (tOp r ta tb)):=by
 intro pins s σ H Q I h;refine wpAny_isTrue_Compare1 (thn Zai fun v s1 zz=>zz.elim fun x H1 I1 r1 q1=>thn (hb pins s1 σ H1 _ I1 q1) fun u s2 ⟨y,H2,I2,r2,q2⟩=>
  thn (ho pins s2 σ H2 x y v u _ I2 r1 r2 q2) fun c s3 zz=>zz.elim fun z H3 I3 r3 zq=>?_) hm
 obtain ⟨k,e,q3⟩:=zq;subst e;cases r3;exact jK ⟨H3,I3,q3⟩
def Apq(K:aL)(x:V)(H:Hp)(k:Bool):Prop:=
 match x with
 | .non=>k=false
 | .bl b=>k=b
 | .int i=>k=(i != 0)
 | .str y=>y.length<=sizeLine/\k=((y.length:Int) != 0)
 | .byt y=>y.size<=sizeLine/\k=((y.size:Int) != 0)
 | .ref p=>(∃ xs,SqL K H p xs/\k = !xs.isEmpty)\/(∃ xs,SqT K H p xs/\k = !xs.isEmpty)\/∃ kvs,H p=ξ (.dK kvs)/\k = !kvs.isEmpty
 | _=>False
theorem Aa0{κ:Type}{kvs:List (κ×V)}{vs:List (κ×aH)}(r:KV kvs vs):(!vs.isEmpty) = !kvs.isEmpty:=by
 cases r <;> rfl
theorem Rc{its:List aH}(r:Vals xs its):(!its.toArray.isEmpty) = !xs.isEmpty:=by
 cases r <;> simp
theorem Pb:(sizeLine:Nat) < 2 ^ 63:=by rw[cN];decide
theorem Aoh:Avb X (fun x H Q=>∃ k,Apq X.K x H k/\Q k H):=by
 intro pins s σ H x v Q I rx h;obtain ⟨k,e,q⟩:=h;have hl:=Pb;have hs:sizeLine=16777216:=cN;cases x with
 | non=>
  cases rx;have e':k=false:=e;subst e';exact truthy_none ⟨H,I,q⟩
 | bl b=>
  cases rx;have e':k=b:=e;subst e';exact jK ⟨H,I,q⟩
 | int i=>
  obtain ⟨t,rfl⟩:=rx;have e':k=(i != 0):=e;subst e';exact PySem.P.truthy_int ⟨H,I,q⟩
 | str y=>
  obtain ⟨t,rfl⟩:=rx;obtain ⟨hy,e'⟩:y.length<=sizeLine/\k=((y.length:Int) != 0):=e;subst e';exact PySem.P.truthy_str Ze ⟨H,I.tok _,q⟩
 | byt y=>
  obtain ⟨t,rfl⟩:=rx;obtain ⟨hy,e'⟩:y.size<=sizeLine/\k=((y.size:Int) != 0):=e;subst e';exact PySem.W.truthy_bytes Ze ⟨H,I.tok _,q⟩
 | ref p=>
  cases rx;have e':(∃ xs,SqL X.K H p xs/\k = !xs.isEmpty)\/(∃ xs,SqT X.K H p xs/\k = !xs.isEmpty)\/∃ kvs,H p=ξ (.dK kvs)/\k = !kvs.isEmpty:=e;rcases e' with ⟨xs,hx,e'⟩ | ⟨xs,hx,e'⟩ | ⟨kvs,hx,e'⟩
  ·subst e';obtain ⟨its,r,pl,hz⟩:=I.list hx;have hlen:=r.length;exact wpAny_truthy_list pl.isList (by simp only[aU];omega) ⟨H,I.tok _,by rw[Rc r];exact q⟩
  ·subst e';obtain ⟨its,r,pl,hz⟩:=I.tuple hx;have hlen:=r.length;exact truthy_tuple pl (by simp only[aU];omega) ⟨H,I.tok _,by rw[Rc r];exact q⟩
  ·subst e';obtain ⟨hz,hS,vs,r,m⟩:kvs.length<=sizeLine/\(p == sysModules)=false/\∃ vs,KV kvs vs/\s.heap.DictOf (Cv X.prog X.w) p vs:=I.hok p _ hx;have hlen:kvs.length=vs.length:=oK r;exact wpAny_truthy_dict hS m Ze ⟨H,I.tok _,by rw[Aa0 r];exact q⟩
 | _=>exact (show False from e).elim
theorem Agy(ha:PE X a ta)(he:∀ whole,isTrue a X.env whole=(do let v <- whole;standAt a.pos;holding [v] (truthy v))) :
  PT X a (fun σ H Q=>ta σ H fun x H'=>∃ k,Apq X.K x H' k/\Q k H'):=by
 intro pins s σ H Q I h;exact isTrue_plain (thn Zai fun v s1 zz=>by obtain ⟨x,H1,I1,r1,q1⟩:=zz;exact Aoh pins s1 σ H1 x v Q I1 r1 q1) (he _)
theorem Aae:OpR X (gQ .Add) (fun x y H Q=>∃ i j,x = .str i/\y = .str j/\i.length+j.length<=sizeLine/\Q (.str (i++j)) H):=by
 intro pins s σ H x y v u Q I rx ry h;obtain ⟨i,j,rfl,rfl,hz,q⟩:=h;obtain ⟨t,rfl⟩:=rx;obtain ⟨t',rfl⟩:=ry;exact add_str (fun t' tk=>⟨.str (i++j),H,I.tok _,⟨_,rfl⟩,q⟩) hz
theorem Er{x:V}(r:Vals [x] us):∃ u,us=[u]/\RelV x u:=by
 cases r with
 | cons r1 r2=>cases r2;exact ⟨_,rfl,r1⟩
theorem Xk{x y:V}(r:Vals [x,y] us):∃ u w',us=[u,w']/\RelV x u/\RelV y w':=by
 cases r with
 | cons r1 r2=>
  cases r2 with
  | cons r3 r4=>cases r4;exact ⟨_,_,rfl,r1,r3⟩
theorem Aeh(hc:X.calm=true):CallR X (.builtin "max") (fun xs H Q=>∃ i j,xs=[.int i,.int j]/\Q ZcJ H):=by
 intro pins s σ H xs us Q I r h;obtain ⟨i,j,rfl,q⟩:=h;obtain ⟨u,w',rfl,⟨t,rfl⟩,⟨t',rfl⟩⟩:=Xk r;refine max_two_ints Zae fun h' tk k=>⟨_,H,I.kept k,?_,q⟩
 by_cases hj:j > i
 ·rw[if_pos hj,if_pos hj];exact ⟨_,rfl⟩
 ·rw[if_neg hj,if_neg hj];exact ⟨_,rfl⟩
theorem Vc:CallR X (.type "int") (fun xs H Q=>(∃ i,xs=[.int i]/\Q (.int i) H)\/∃ k,xs=[.bl k]/\Q (.int Zda) H):=by
 intro pins s σ H xs us Q I r h;rcases h with ⟨i,rfl,q⟩ | ⟨k,rfl,q⟩
 ·obtain ⟨u,rfl,t,rfl⟩:=Er r;exact call_int_int ⟨.int i,H,I,⟨_,rfl⟩,q⟩
 ·obtain ⟨u,rfl,r1⟩:=Er r;cases r1;exact call_int_bool ⟨.int Zda,H,I.tok _,⟨_,rfl⟩,q⟩
def Arb(K:aL)(x:V)(H:Hp)(n:Nat):Prop:=
 match x with
 | .str y=>y.length<=sizeLine/\n=y.length
 | .byt y=>y.size<=sizeLine/\n=y.size
 | .ref p=>(∃ xs,SqL K H p xs/\n=xs.length)\/∃ xs,SqT K H p xs/\n=xs.length
 | _=>False
theorem Ci:CallR X (.builtin "len") (fun xs H Q=>∃ x n,xs=[x]/\Arb X.K x H n/\Q (.int n) H):=by
 intro pins s σ H xs us Q I r h;obtain ⟨x,n,rfl,e,q⟩:=h;obtain ⟨u,rfl,rx⟩:=Er r;have hl:=Pb;have hs:sizeLine=16777216:=cN;cases x with
 | str y=>
  obtain ⟨t,rfl⟩:=rx;obtain ⟨hy,e'⟩:y.length<=sizeLine/\n=y.length:=e;subst e';exact len_str Ze ⟨.int _,H,I.tok _,⟨_,rfl⟩,q⟩
 | byt y=>
  obtain ⟨t,rfl⟩:=rx;obtain ⟨hy,e'⟩:y.size<=sizeLine/\n=y.size:=e;subst e';exact PySem.W.len_bytes Ze ⟨.int _,H,I.tok _,⟨_,rfl⟩,q⟩
 | ref p=>
  cases rx;have e':(∃ xs,SqL X.K H p xs/\n=xs.length)\/∃ xs,SqT X.K H p xs/\n=xs.length:=e;rcases e' with ⟨xs,hx,e'⟩ | ⟨xs,hx,e'⟩
  ·subst e';obtain ⟨its,r',pl,hz⟩:=I.list hx;have hlen:=r'.length;exact Calls.call_len_list pl.isList (by simp only[aU];omega) ⟨.int xs.length,H,I.tok _,⟨_,by simp only[aU];rw[hlen]⟩,q⟩
  ·subst e';obtain ⟨its,r',pl,hz⟩:=I.tuple hx;have hlen:=r'.length;exact len_tuple pl (by simp only[aU];omega) ⟨.int xs.length,H,I.tok _,⟨_,by simp only[aU];rw[hlen]⟩,q⟩
 | _=>exact (show False from e).elim
end
structure ObjM(h:Heap)(x dx C:Addr)(mA:Str->Option aH):Prop where
 obj:h.get? x=ξ (iP C dx)
 ns:h.Ns1 dx mA
 ne:dx≠x
variable {dx:Addr}{mA:Str->Option aH}
theorem Aex(n:h.Ns1 dx mA):∃ od,h.get? dx=ξ od/\∀ name,rB name od=ξ (mA name):=by
 obtain ⟨o,es,ep,ho,hd,hk,_,hm⟩:=n;refine ⟨o,ho,fun name=>?_⟩;have e:=hm name;unfold nsFind findBy at e;rw[<- Array.find?_toList] at e;unfold rB;rw[hd];dsimp only;split
 ·rename_i y q;rw[q] at e;exact congrArg ξ e
 ·rename_i q;rw[q] at e;have a:es.toList.any (·.refKey)=false:=by
   rw[oA];intro y hy;obtain ⟨z,t,hkey⟩:=hk y (Array.mem_toList_iff.mp hy);simp[tV.refKey,hkey]
  have a':¬ es.toList.any (·.refKey)=true:=by rw[a];exact cQ
  rw[if_neg a'];exact congrArg ξ e
variable {C:Addr}
theorem ObjM.look{x:Addr}(I:ObjM h x dx C mA):∃ od,PySem.W.InstAt h x (iP C dx) C (ξ od)/\∀ name,rB name od=ξ (mA name):=
 let ⟨od,ho,hl⟩:=Aex I.ns
 ⟨od,⟨I.obj,rfl,rfl,ho⟩,hl⟩
variable {f:Addr}
section
variable {prog:cO}{x:Addr}{name:Str}{v:aH}
end
theorem RelO.some_of{o:Option aH}(r:RelO (ξ v) o):∃ u,o=ξ u/\RelV v u:=by
 cases o with
 | none=>exact (show False from r).elim
 | some u=>exact ⟨u,rfl,r⟩
section
variable {fs fs':List (Str×V)}
end
structure Cls(K:aL)(C:Addr):Prop where
 pg:tN K C Str.empty=true
 hd:PySem.W.hasDictIn K C=true
 po:PySem.W.plainOver K C=true
 sa:jQ K (.ref C) "__setattr__" = ξ (ξ (.builtin "object.__setattr__"))
theorem Cls.get(c:Cls K C)(f:Str):tN K C f=true:=c.pg
def Ap5(K:aL)(C:Addr)(f:Str):Prop:=jQ K (.ref C) f=ξ ψ
structure Con(K:aL)(C:Addr)(f:Str)(v:V)(u:aH):Prop where
 at_:jQ K (.ref C) f=ξ (ξ u)
 rel:RelV v u
 get:sU K u "__get__" = ξ ψ
 cp:PySem.W.copiedNames.contains f=false
structure Meth(K:aL)(C:Addr)(m:Str)(f:Addr):Prop where
 at_:jQ K (.ref C) m=ξ (ξ (.ref f))
 fn:xF K (.ref f)=true
 kp:iY K (.ref f)=true
section
variable {fs:List (Str×V)}{f:Str}
theorem Inv.made(I:Inv X pins σ H s):Inv X pins σ (upd (upd H s.heap.objs.size (.own ZI)) ZI (.ins C s.heap.objs.size []))
  { s with heap:=(s.heap.push fQ).push ZdZ }:=by
 have e1:(s.heap.push fQ).get? s.heap.objs.size=ξ fQ:=aZ s.heap rfl;have e2:((s.heap.push fQ).push ZdZ).get? ZI=ξ ZdZ:=by
  have:=aZ (s.heap.push fQ) (o:=iP C s.heap.objs.size) rfl;rwa [eF] at this
 have e3:(s.heap.push fQ).Ns s.heap.objs.size (fun _=>ψ):=⟨fQ,#[],_,e1,rfl,(fun e he=>absurd he Za),fun _=>rfl⟩;have I1:=I.laid (a:=s.heap.objs.size) (o:=.own ZI) (h':=s.heap.push fQ) (t':=s.toks) (fun b u q=>aG _ q) (aP _) ⟨_,e1⟩;refine I1.laid (a:=s.heap.objs.size+1) (o:=.ins C s.heap.objs.size []) (t':=s.toks) (fun b u q=>aG _ q) (sV (eF _ _)) ?_;have ne:s.heap.objs.size≠s.heap.objs.size+1:=cB (fE _);refine ⟨by rw[Aw ne,upd_same],dW _,ne,e2,fun _=>ψ,(Heap.Ns1.of_empty e3).at fun o q=>aG _ q,fun _=>pQ,fun y hy=>absurd rfl hy⟩
end
section
variable {o value:Expr}{f:Str}{pos' tpos:Pos}{tv:TE}
end
section
variable {Q:aH->aR->Prop}{c:aH}{b:Bool}
inductive TyOf(K:aL)(H:Hp):V->aH->Prop where
 | non:TyOf K H .non (.type "NoneType")
 | bl (x:Bool):TyOf K H (.bl x) (.type "bool")
 | int (i:Int):TyOf K H (.int i) (.type "int")
 | str (x:Str):TyOf K H (.str x) (.type "str")
 | flt (x:UInt64):TyOf K H (.flt x) (.type "float")
 | lst {a:Addr} {xs:List V} (e:H a=ξ (.lst xs)):TyOf K H (.ref a) (.type "list")
 | frz {a:Addr} {o:Obj} {xs:List V} (e:H a=ξ (.frz o (.lst xs))):TyOf K H (.ref a) (.type "list")
 | tup {a:Addr} {xs:List V} (e:H a=ξ (.tup xs)):TyOf K H (.ref a) (.type "tuple")
 | dK {a:Addr} {kvs:List (Key×V)} (e:H a=ξ (.dK kvs)):TyOf K H (.ref a) (.type "dict")
 | dT {a:Addr} {kvs:List (List Key×V)} (e:H a=ξ (.dT kvs)):TyOf K H (.ref a) (.type "dict")
 | ins {a C dx:Addr} {fs:List (Str×V)} (e:H a=ξ (.ins C dx fs)) (cl:Cls K C) (ha:jQ K (.ref C) "__class__" = ξ (ξ (.builtin "object.__class__")))
   (hn:sU K (.builtin "object.__class__") "__get__" = ξ (ξ (.builtin "getset_descriptor.__get__"))) (htk:PySem.W.takesIn K (.builtin "object.__class__")=ξ true)
   (hm:PySem.W.mroIn K C (.type "object")=ξ true):TyOf K H (.ref a) (.ref C)
end
structure Room(k:Nat)(A:eE):Prop where
 hd:A.handled=ψ
 dp:A.depth+3 * k+5 < recursionLimit
 un:A.units+16 * k+200 < cLine
theorem Room.mono(r:Room k A)(h:j<=k):Room j A:=⟨r.hd,by have:=r.dp;omega,by have:=r.un;omega⟩
theorem Room.deeper(r:Room (k+1) A)(env:Env):Room k (A.deeper env):=
 ⟨r.hd,by have:=r.dp;show A.depth+1+3 * k+5 < _;omega,by have:=r.un;show A.units+3+16 * k+200 < _;omega⟩
theorem Room.in1(r:Room (k+1) A):Room k A.in1:=
 ⟨r.hd,by have:=r.dp;show A.depth+3 * k+5 < _;omega,by have:=r.un;show A.units+1+16 * k+200 < _;omega⟩
theorem Room.depth(r:Room k A):A.depth < recursionLimit:=by have:=r.dp;omega
theorem Room.units(r:Room k A):A.units+64 < cLine:=by have:=r.un;omega
def Arp:TA:=fun _ H Q=>Q [] H
def Amr(ta:TE)(tr:TA):TA:=fun σ H Q=>ta σ H fun x H1=>tr σ H1 fun xs H2=>Q (x::xs) H2
variable {t:TA}
section
theorem Ahj:PA X [] Arp:=fun _ _ _ _ H Q I h=>kP ⟨[],H,I,.nil,h⟩
theorem Acj(ha:PE X e te)(hr:PA X es t)(hs:bK (e::es) X.env=ZQ::bK es X.env:=by rfl):PA X (e::es) (Amr te t):=by
 intro pos pins s σ H Q I h;rw[hs];show wpAny _ _ (spliced (ZQ::backTo pos Zbb)) _ _ s;refine kI (thn Zai fun u s1 zz=>?_);obtain ⟨x,H1,I1,r1,q1⟩:=zz;refine thn (hr pos pins s1 σ H1 _ I1 q1) fun us s2 zz=>?_
 obtain ⟨xs,H2,I2,r2,q2⟩:=zz;exact ⟨x::xs,H2,I2,.cons r1 r2,q2⟩
def Auo(t:TA):TE:=fun σ H Q=>t σ H fun xs H1=>xs.length<=sizeLine/\∀ p,H1 p=ψ->Q (.ref p) (upd H1 p (.tup xs))
def At0(t:TA):TE:=fun σ H Q=>t σ H fun xs H1=>xs.length<=sizeLine/\∀ p,H1 p=ψ->Q (.ref p) (upd H1 p (.lst xs))
theorem Anz{x1}(h:PA X es t):PE X (.Tuple es x1 pos) (Auo t):=by
 intro pins s σ H Q I hq;refine wpAny_Tuple_spliced (thn (h pos pins s σ H _ I hq) fun us s1 zz=>zz.elim fun xs H1 I1 r zq=>⟨by rw[<- r.length];exact zq.1,?_⟩);obtain ⟨z,q⟩:=zq;have hf:H1 s1.heap.objs.size=ψ:=I1.hok.fresh (aP _);refine ⟨.ref s1.heap.objs.size,upd H1 s1.heap.objs.size (.tup xs),I1.laid (t':=s1.toks) Zdp (aP _) ?_,rfl,q _ hf⟩;exact ⟨z,us,r,⟨_,aZ _ rfl,rfl,_,rfl⟩⟩
theorem Apz(h:PA X es t):PE X (.List es pos) (At0 t):=by
 intro pins s σ H Q I hq;refine wpAny_List_spliced (thn (h pos pins s σ H _ I hq) fun us s1 zz=>zz.elim fun xs H1 I1 r zq=>⟨by rw[<- r.length];exact zq.1,?_⟩);obtain ⟨z,q⟩:=zq;have hf:H1 s1.heap.objs.size=ψ:=I1.hok.fresh (aP _);refine ⟨.ref s1.heap.objs.size,upd H1 s1.heap.objs.size (.lst xs),I1.laid (t':=s1.toks) Zdp (aP _) ?_,rfl,q _ hf⟩;exact ⟨z,us,0,r,aZ _ rfl⟩
end
abbrev Sp:=List V->Hp->VK->XK->Prop
abbrev CXT:=List Env->Hp->aR->XK->aH->aR->Prop
structure Env0(P:cO)(w:dH)(K:aL)(mg:Str->Option aH)(base:Heap)(A:eE)(outer:List Env)(s:aR)(H:Hp):Prop where
 frames:A.frames=ξ outer
 mod:Mod K mg base
 bs:∀ b o,base.get? b=ξ o->s.heap.get? b=ξ o/\H b=ψ
 bsz:base.objs.size<=s.heap.objs.size
 funs:s.heap.FunFrames base outer
 frf:∀ b∈frs outer,H b=ψ
 hok:HOk P w H s.heap
 bare:pM s.gens
inductive CE(outer:List Env)(P:cO)(w:dH)(H:Hp)(s:aR)(Q:VK)(u:aH)(s':aR):Prop
 | mk (v:V) (H':Hp) (os:s'.os=s.os) (bare:pM s'.gens) (un:Un (frs outer) [] H H' s.heap s'.heap) (hok:HOk P w H' s'.heap) (r:RelV v u) (q:Q v H'):CE outer P w H s Q u s'
def CR(CX:CXT)(outer:List Env)(P:cO)(w:dH)(H:Hp)(s:aR)(Q:VK)(E:XK)(r:Result)(s':aR):Prop:=
 match r with
 | .ok (.ret u)=>CE outer P w H s Q u s'
 | .ok _=>False
 | .error e=>CX outer H s E e s'
structure FnOk(P:cO)(w:dH)(K:aL)(mg:Str->Option aH)(base:Heap)(CX:CXT)(k:Nat)(f:Addr)(fd:eT)(ps:List Str)(sp:Sp):Prop where
 len:∀ vs H Q E,sp vs H Q E->vs.length=ps.length
 run:∀ (A:eE) (outer:List Env) (s:aR) (H:Hp) (args:Args) (us:List aH) (vs:List V) (Q:VK) (E:XK),Room k A->Env0 P w K mg base A outer s H->oB s fd args (ps.zip us)->Vals vs us->sp vs H Q E ->
  mW (model P w) A (.call (.ref f) args) (CR CX outer P w H s Q E) s
variable {mg:Str->Option aH}{base:Heap}{CX:CXT}{fd:eT}{ps:List Str}{sp:Sp}
theorem FnOk.mono(F:FnOk P w K mg base CX j f fd ps sp)(h:j<=k) :
  FnOk P w K mg base CX k f fd ps sp:=⟨F.len,fun A outer s H args us vs Q E hr=>F.run A outer s H args us vs Q E (hr.mono h)⟩
theorem FnOk.imp{sp':Sp}(F:FnOk P w K mg base CX k f fd ps sp)
  (h:∀ vs H Q E,sp' vs H Q E->sp vs H Q E):FnOk P w K mg base CX k f fd ps sp':=
 ⟨fun vs H Q E q=>F.len vs H Q E (h _ _ _ _ q),fun A outer s H args us vs Q E hr he hb hv hs=>F.run A outer s H args us vs Q E hr he hb hv (h _ _ _ _ hs)⟩
theorem Env0.in1{outer:List Env}(e:Env0 P w K mg base A outer s H) :
  Env0 P w K mg base A.in1 outer s H:=⟨e.frames,e.mod,e.bs,e.bsz,e.funs,e.frf,e.hok,e.bare⟩
section
theorem Inv.env0(I:Inv X pins σ H s):Env0 X.prog X.w X.K X.mg X.base X.A X.stack s H:=
 ⟨I.ok.frames,I.ok.mod,I.bs,eC I.ok.bsz I.sz,I.stack,I.stkFree,I.hok,I.bare⟩
theorem Inv.after(I:Inv X pins σ H s)(h:CE X.stack X.prog X.w H s Q u s'):EP X pins σ Q u s':=by
 obtain ⟨v,H',os,bare,un,hok,r,q⟩:=h;obtain ⟨hh,g,d,t,os'⟩:=s';obtain rfl:os'=s.os:=os;exact ⟨v,H',I.call (h':=hh) (g':=g) (d':=d) (t':=t) (ch:=[]) un hok bare (fun b z=>absurd z Za),r,q⟩
end
def Are(sp:Sp)(dvs:List V)(E:XK)(t:TA):TE:=fun σ H Q=>t σ H fun vs H1=>sp (vs++dvs) H1 Q E
def Binds(K:aL)(fd:eT)(ps:List Str)(ds:List aH):Prop:=
 ∀ (s:aR) (us:List aH),K.In s.heap->(us++ds).length=ps.length->oB s fd ⟨us,[]⟩ (ps.zip (us++ds))
theorem Binds.all(h:∀ us:List aH,us.length=ps.length->vZ fd ⟨us,[]⟩=pure (ps.zip us)):Binds K fd ps []:=fun s us _ hl=>by
 rw[bO] at hl ⊢;exact .of_eq (h us hl)
def Aar(CX:CXT)(X:Cx)(E:XK):Prop:=∀ (pins:List (Addr×Obj)) (σ:St) (H:Hp) (s:aR) (e:aH) (s':aR),Inv X pins σ H s->CX X.stack H s E e s'->X.xe e s'
section
variable {dvs:List V}{ds:List aH}{E:XK}{m:Str}{apos:Pos}{o:Expr}
theorem Aqb{vs:List V}(F:FnOk X.prog X.w X.K X.mg X.base CX k f fd ps sp)(hr:Room k X.A)(hb:Binds X.K fd ps ds)(hd:Vals dvs ds)(hx:Aar CX X E)
  (I:Inv X pins σ H s) (r:Vals vs us) (h:sp (vs++dvs) H Q E):wpAny Zg X.A (call (.ref f) us) Z2 X.xe s:=by
 have r2:Vals (vs++dvs) (us++ds):=r.append hd;have hl:(us++ds).length=ps.length:=by rw[<- r2.length];exact F.len _ _ _ _ h
 refine wA (pR (F.run X.A X.stack s H ⟨us,[]⟩ (us++ds) (vs++dvs) Q E hr I.env0 (hb s us I.kIn hl) r2 h) fun r s' hq=>?_);cases r with
 | error e=>exact hx pins σ H s e s' I hq
 | ok fl=>
  cases fl with
  | ret u=>exact I.after hq
  | next=>exact fO hq
  | brk=>exact fO hq
  | cont=>exact fO hq
theorem Aj9(F:FnOk X.prog X.w X.K X.mg X.base CX k f fd ps sp)(hr:Room k X.A)(hg:Gl X x)(hm:X.mg x=ξ (.ref f))(hk:iY X.K (.ref f)=true)(hb:Binds X.K fd ps ds)(hd:Vals dvs ds)(hx:Aar CX X E)
  (ha:PA X (e::es) t) (hdb:(x == ("__debug__" : Str))=false:=by decide) (he:bK (e::es) X.env=ZQ::bK es X.env:=by rfl) (hpl:(backTo pos Zbb).any (·.1)=false:=by rfl) :
  PE X Zaf (Are sp dvs E t):=by
 intro pins s σ H Q I h;refine dN (Ac7 I hg hm ?_ hdb);refine PySem.W.callWith_K (h₀:=X.base) I.ok.mod.kin hk (thn Zaa fun us s1 zz=>zz.elim fun vs H1 I1 r q=>⟨I1.kIn,?_⟩) he hpl;exact Aqb F hr hb hd hx I1 r q
structure Mk(K:aL)(C f:Addr):Prop where
 makes:PySem.W.makesIn K C=true
 init:jQ K (.ref C) "__init__" = ξ (ξ (.ref f))
 fn:xF K (.ref f)=true
 kp:iY K (.ref C)=true
end
def PK(X:Cx)(kws:List kD)(t:TA):Prop:=
 ∀ (pos:Pos) (pins:List (Addr×Obj)) (s:aR) (σ:St) (H:Hp) (Q:List V->Hp->Prop),Inv X pins σ H s->t σ H Q->wpAny Zg X.A (evalAll ((backToKw pos (keywordEach kws X.env)).map (·.2))) (AP X pins σ Q) X.xe s
section
variable {ks:List Str}{E:XK}{m:Str}{apos kpos:Pos}{o:Expr}{kws:List kD}{tk:TA}{nm:Option Str}
theorem Aau:PK X [] Arp:=fun _ _ _ _ H Q I h=>wpAny_evalAll_nil ⟨[],H,I,.nil,h⟩
theorem Qw(ha:PE X e te)(hr:PK X kws t):PK X (⟨nm,e,kpos⟩::kws) (Amr te t):=by
 intro pos pins s σ H Q I h;show wpAny _ _ (evalAll ((do let v <- eval e X.env;standAt pos;pure v)::(backToKw pos (keywordEach kws X.env)).map (·.2))) _ _ s;refine wpAny_evalAll_cons (aD (thn Zai fun u s1 zz=>zz.elim fun x H1 I1 r1 q1=>aD (oM (aW ?_))));refine thn (hr pos pins s1 σ H1 _ I1 q1) fun us s2 zz=>?_
 obtain ⟨xs,H2,I2,r2,q2⟩:=zz;exact ⟨x::xs,H2,I2,.cons r1 r2,q2⟩
structure KBinds(K:aL)(fd:eT)(ps ks:List Str)(g:List aH->List aH->List aH)(gV:List V->List V->List V):Prop where
 to:∀ (s:aR) (us ws:List aH),K.In s.heap->(g us ws).length=ps.length->oB s fd ⟨us,ks.zip ws⟩ (ps.zip (g us ws))
 rel:∀ {vs:List V} {us:List aH} {zs:List V} {ws:List aH},Vals vs us->Vals zs ws->Vals (gV vs zs) (g us ws)
variable {g:List aH->List aH->List aH}{gV:List V->List V->List V}
end
structure FnScope(N P:List Str)(sc:jP):Prop where
 kind:sc.kind = .function
 co:sc.isCoroutine=false
 gen:sc.isGenerator=false
 nd:N.Nodup
 pre:N.take P.length=P
 par:∀ x∈P,sc.names.lookup x=ξ .local\/sc.names.lookup x=ξ .cell
 nofree:∀ y∈sc.names,y.2≠.free
variable {kindOf:Str->Option kQ}
theorem Vb:∀ {binds:List (Str×aH)} {m:Str->Option aH},(∀ v,(x,v)∉binds)->bindL kindOf binds m x=m x
 | [],_,_=>rfl
 | (n,v)::r,m,h=>by
  unfold bindL;rw[Vb fun w hw=>h w (aK _ hw)];split
  ·have:x≠n:=by rintro rfl;exact h v aQ
   simp[this]
  ·rfl
theorem Vl:∀ {binds:List (Str×aH)} {m:Str->Option aH},(∀ v,(x,v)∉binds)->bindC kindOf binds m x=m x
 | [],_,_=>rfl
 | (n,v)::r,m,h=>by
  unfold bindC;rw[Vl fun w hw=>h w (aK _ hw)];split
  ·rfl
  ·have:x≠n:=by rintro rfl;exact h v aQ
   simp[this]
theorem Uz{kindOf:Str->Option kQ}{x:Str}{v:aH}:∀ {P:List Str} {vs:List aH} {i:Nat} {m:Str->Option aH},P.Nodup->P[i]? = ξ x->vs[i]? = ξ v->kindOf x=ξ .local ->
  bindL kindOf (P.zip vs) m x=ξ v
 | [],_,_,_,_,h,_,_=>by simp at h
 | _::_,[],_,_,_,_,h,_=>by simp at h
 | p::P,w::vs,0,m,nd,h1,h2,hk=>by
  simp at h1 h2;subst h1;subst h2;show bindL kindOf ((p,w)::P.zip vs) m p=_;unfold bindL;rw[Vb fun v hv=>(gZ.mp nd).1 (qL hv).1,if_pos hk];simp
 | p::P,w::vs,i+1,m,nd,h1,h2,hk=>by
  show bindL kindOf ((p,w)::P.zip vs) m x=_;unfold bindL;exact Uz (i:=i) (gZ.mp nd).2 (by simpa using h1) (by simpa using h2) hk
theorem Vj{kindOf:Str->Option kQ}{x:Str}{v:aH}:∀ {P:List Str} {vs:List aH} {i:Nat} {m:Str->Option aH},P.Nodup->P[i]? = ξ x->vs[i]? = ξ v->kindOf x≠ξ .local ->
  bindC kindOf (P.zip vs) m x=ξ v
 | [],_,_,_,_,h,_,_=>by simp at h
 | _::_,[],_,_,_,_,h,_=>by simp at h
 | p::P,w::vs,0,m,nd,h1,h2,hk=>by
  simp at h1 h2;subst h1;subst h2;show bindC kindOf ((p,w)::P.zip vs) m p=_;unfold bindC;rw[Vl fun v hv=>(gZ.mp nd).1 (qL hv).1,if_neg hk];simp
 | p::P,w::vs,i+1,m,nd,h1,h2,hk=>by
  show bindC kindOf ((p,w)::P.zip vs) m x=_;unfold bindC;exact Vj (i:=i) (gZ.mp nd).2 (by simpa using h1) (by simpa using h2) hk
def start(N:List Str)(vs:List V):St:=vs.map ξ++bL (N.length - vs.length) ψ
def X5(CX:CXT)(P:cO)(w:dH)(K:aL)(mg:Str->Option aH)(base:Heap)(N:List Str)(qual:Str)(scope:jP)(f:Addr)(cd:aH)(A:eE)(outer:List Env)(s:aR)(H:Hp)(E:XK):Cx where
 prog:=P
 w:=w
 K:=K
 mg:=mg
 base:=base
 A:=A.deeper ZbL
 N:=N
 s₀:=s
 H₀:=H
 env:=envOfC qual scope s.heap.objs.size f cd
 outer:=outer
 stack:=envOfC qual scope s.heap.objs.size f cd::outer
 ex:=[]
 calm:=true
 fn:=fun _=>true
 pn:=[]
 xe:=fun e s'=>wpAny (model P w) (A.deeper ZbL) (leaving ZbL e) (fun _ s''=>CX outer H s E e s'') (fun e' s''=>CX outer H s E e' s'') s'
theorem Xm{sc:jP}{n:Nat}(h:sc.names.lookup x=ξ .cell):∃ c,(cellsFrom n sc.names []).lookup x=ξ c:=by
 have q:=pS sc.names n [] (.inl h);exact jY.mp q
theorem Ad9{N:List Str}{qual:Str}{scope:jP}{cd:aH}{outer:List Env}{s1:aR}{E:XK}{vs:List V}
  (S:FnScope N ps scope) (hd:A.handled=ψ) (e0:Env0 P w K mg base A outer s H) (hl:vs.length=ps.length) (r:Vals vs us)
  (x:InCallC s s.heap.objs.size (bindL (envOfC qual scope s.heap.objs.size f cd).kindOf (ps.zip us) fun _=>ψ) (cellsFrom ZI scope.names []) (bindC (envOfC qual scope s.heap.objs.size f cd).kindOf (ps.zip us) fun _=>ψ) s1) :
  Inv (X5 CX P w K mg base N qual scope f cd A outer s H E) [] ZdE H s1:=by
 have hpl:ps.length<=N.length:=by have:=congrArg oD S.pre;rw[eQ] at this;omega
 obtain ⟨h1,tk,rfl,hk⟩:=x.done;have noA:∀ b:Addr,b∉(X5 CX P w K mg base N qual scope f cd A outer s H E).ex:=fun b z=>absurd (show b∈([]:List Addr) from z) Za
 refine ⟨⟨e0.mod,S.kind,rfl,rfl,aP _,fun y z c h1 h2=>?_,fun y hy=>?_,fun y c _ h=>?_,fun _=>hd,rC e0.frames,.inr ⟨rfl,rfl⟩,fun b z=>absurd z (noA b),e0.bs,e0.bsz,fun b _ _=>noA b,fun b z=>absurd z (noA b),e0.funs,e0.frf⟩,
  rfl,e0.bare,Un.kept hk,⟨_,x.toInCall.ns,fun i y v h1 h2 h3=>?_⟩,fun y c h=>⟨_,x.cell y c h⟩,e0.hok.fresh (aP _),fun y c h=>?_,fun p hp=>absurd (show p∈([]:List (Addr×Obj)) from hp) Za,e0.hok.kept hk,?_⟩
 ·exact name_of_addr x.apart (iX h1) (iX h2)
 ·have hy:scope.names.lookup y=ξ .cell\/scope.names.lookup y=ξ .free:=hy;rcases hy with hy | hy
  ·exact Xm hy
  ·exact absurd rfl (S.nofree _ (iX hy))
 ·exact pN (x.above y c (iX h))
 ·have hi:i < vs.length:=by
   unfold start at h2;by_cases hi:i < vs.length
   ·exact hi
   ·rw[bX (by simpa using hi)] at h2;rw[List.getElem?_replicate] at h2;split at h2 <;> cases h2
  have ha:vs[i]? = ξ v:=by
   unfold start at h2;rw[bC (by simpa using hi),bA] at h2;cases e:vs[i]? with
   | none=>rw[e] at h2;cases h2
   | some a=>rw[e] at h2;cases h2;rfl
  obtain ⟨u,hu,rv⟩:=r.get ha;have hp:ps[i]? = ξ y:=by
   rw[<- S.pre,List.getElem?_take_of_lt Ze];exact h1
  have ndP:ps.Nodup:=by rw[<- S.pre];exact S.nd.sublist (jL _ _)
  refine ⟨u,rv,?_⟩;rcases S.par y (cI hp) with k | k
  ·exact .inl ⟨k,Uz ndP hp hu k⟩
  ·obtain ⟨c,e⟩:=Xm (n:=s.heap.objs.size+1) k;refine .inr ⟨.inl k,c,e,?_⟩;have q:=x.cell y c e;rw[Vj ndP hp hu (by show scope.names.lookup y≠_;rw[k];decide)] at q
   exact q
 ·exact e0.hok.fresh (pN (x.above y c (iX h)))
 ·unfold start;show _=N.length;rw[bU,aN,List.length_replicate];omega
theorem Amf{name qual:Str}{params:lM}{scope:jP}{dV kV doc pm cdv ct oc:aH}{an od:Option Addr}
  {osl:Array (Option aH)} {N ps:List Str} {sp:Sp} (lk:K.lookup f=ξ ⟨oc,od,.func (iA name qual params body scope dV kV doc pm an cdv ct),osl⟩) (hcd:nF K cdv qual=true) (S:FnScope N ps scope)
  (len:∀ vs H Q E,sp vs H Q E->vs.length=ps.length)
  (hbody:∀ (A:eE) (outer:List Env) (s:aR) (H:Hp) (vs:List V) (Q:VK) (E:XK),Room k (A.deeper (envOfC qual scope s.heap.objs.size f cdv))->sp vs H Q E ->
   ∃ t,PSs Za4 body t/\t { nx:=fun _ H'=>Q .non H',rt:=Q } (start N vs) H) :
  FnOk P w K mg base CX (k+1) f (iA name qual params body scope dV kV doc pm an cdv ct) ps sp:=by
 refine ⟨len,fun A outer s H args us vs Q E hr e0 hb r hsp=>?_⟩;have hl:=len _ _ _ _ hsp;have KX:K.In s.heap:=e0.mod.kin.keeps fun b o e=>(e0.bs b o e).1
 have lim:s.heap.NoLimit:=e0.mod.nolimit.keeps fun b o e=>(e0.bs b o e).1
 have hkind:∀ y∈ps.zip us,scope.names.lookup y.1=ξ .local\/(scope.names.lookup y.1=ξ .cell/\((cellsFrom ZI scope.names []).lookup y.1).isSome=true):=fun ⟨n,v⟩ hy=>by
  rcases S.par n (qL hy).1 with q | q
  ·exact .inl q
  ·exact .inr ⟨q,pS _ _ _ (.inl q)⟩
 refine codeAny_call_function hr.depth (KX _ _ lk) rfl S.co S.gen rfl (PySem.W.codeRec_of KX hcd) (hb _ _ _ _ ?_);refine wpAny_newFunctionEnv_cells S.kind hkind fun env he s1 x=>?_
 subst he;refine ⟨lim.keeps x.toInCall.keep,codeAny_func ?_⟩;obtain ⟨t,ht,hq⟩:=hbody A outer s H vs Q E (hr.deeper _) hsp;have I:Inv Za4 [] ZdE H s1:=Ad9 S hr.hd e0 hl r x;refine dG (ht [] s1 ZdE H _ I hq) (fun fl s' hs=>?_) fun e s' hs=>hs
 have fin:∀ {σ':St} {H':Hp} {v:V} {u:aH},Inv Za4 [] σ' H' s'->RelV v u->Q v H'->CE outer P w H s Q u s':=
  fun {σ' H' v u} J rv q=>⟨v,H',J.os,J.bare,J.base,J.hok,rv,q⟩
 cases fl with
 | ret u=>
  obtain ⟨v,σ',H',J,rv,q⟩:=hs;exact fin J rv q
 | next=>
  obtain ⟨σ',H',J,q⟩:=hs;exact fin (v:=V.non) (u:=eD) J rfl q
 | brk=>
  obtain ⟨_,_,_,q⟩:=hs;exact fO q
 | cont=>
  obtain ⟨_,_,_,q⟩:=hs;exact fO q
section
variable {id T:String}{r:List V->Hp->VK->Prop}
def tCB(r:List V->Hp->VK->Prop)(t:TA):TE:=fun σ H Q=>t σ H fun vs H1=>r vs H1 Q
theorem Aiw(hc:CallR X Zbr r)(hg:Gl X x)(hm:X.mg x=ψ)(hv:fP x=ξ Zbr)(ha:PA X (e::es) t)(hn:x ≠ "__name__" := by decide)(hdb:(x == ("__debug__" : Str))=false:=by decide)
  (he:bK (e::es) X.env=ZQ::bK es X.env:=by rfl) (hpl:(backTo pos Zbb).any (·.1)=false:=by rfl):PE X Zaf (tCB r t):=by
 intro pins s σ H Q I h;refine dN (Em I hg hm hv ?_ hn hdb);exact PyProof.Rows.callWith_builtin1 (thn Zaa fun us s1 zz=>by obtain ⟨vs,H1,I1,r1,q1⟩:=zz;exact hc pins s1 σ H1 vs us Q I1 r1 q1) he hpl
theorem Ae4(hc:CallR X (.type T) r)(hg:Gl X x)(hm:X.mg x=ψ)(hv:fP x=ξ (.type T))(ha:PA X (e::es) t)(hn:x ≠ "__name__" := by decide)(hdb:(x == ("__debug__" : Str))=false:=by decide)
  (he:bK (e::es) X.env=ZQ::bK es X.env:=by rfl) (hpl:(backTo pos Zbb).any (·.1)=false:=by rfl):PE X Zaf (tCB r t):=by
 intro pins s σ H Q I h;refine dN (Em I hg hm hv ?_ hn hdb);exact cC (thn Zaa fun us s1 zz=>by obtain ⟨vs,H1,I1,r1,q1⟩:=zz;exact hc pins s1 σ H1 vs us Q I1 r1 q1) he hpl
end
end L2
namespace HT
open PySem PyProof.Rows
noncomputable def Gx:List Int->List Int->Bool
 | [],[]=>false
 | [],_::_=>true
 | _::_,[]=>false
 | x::xs,y::ys=>if x=y then Gx xs ys else decide (x < y)
theorem Sr(x y:Int)(xs ys:List Int):Gx (x::xs) (y::ys)=if x=y then Gx xs ys else decide (x < y):=rfl
theorem T7:Gx [] []=false:=rfl
theorem Sx(y:Int)(ys:List Int):Gx [] (y::ys)=true:=rfl
theorem Tq(x:Int)(xs:List Int):Gx (x::xs) []=false:=rfl
theorem Sm(A:eE)(s:aR)(a:Int)(t:Tok)(c:Int)(u:Tok):∃ e,sJ A s (.int a t) (.int c u) e/\(e=true↔a=c):=
 ⟨(a == c),sK a t c u,Za⟩
theorem W3(A:eE)(s:aR)(a:Int)(t:Tok)(c:Int)(u:Tok)(prog:cO)(w:dH)(E:aH->aR->Prop)(Q:aH->aR->Prop)(h:Q (.bool (decide (a < c))) s) :
  wpAny Zw A (richCompare .Lt (.int a t) (.int c u)) Q E s:=
 (PyProof.Rows.lt_int h:wpAny Zw A (iE .Lt (.int a t) (.int c u)) Q E s)
section
open PySem.SeqAt
open PySem.AutoSeq1 (wpAny_loadPart')
open PySem.MeetsSeq PySem.MeetsSeq2 PySem.MeetsSeq3
theorem Uj(l b:Addr)(items items2:Array aH)(n n2:Nat)(dd dd2:Option Addr)(sl sl2:Array (Option aH))(ns ms:List Int)(hi:fV items.toList ns)(hj:fV items2.toList ms) :
  Meets (jM.«tuple.__lt__» ⟨[.ref l,.ref b],[]⟩)
   (fun _ R s=>s.heap.get? l=ξ { cls:=.type "tuple",dict:=dd,data:=.seq items n,slots:=sl }/\s.heap.get? b=ξ { cls:=.type "tuple",dict:=dd2,data:=.seq items2 n2,slots:=sl2 } /\
    R (.ok (.ret (.bool (Gx ns ms)))) s):=
 .of_wp fun prog w A R s h=>by
  obtain ⟨hp,g,d,tk,os⟩:=s;obtain ⟨hl,hb,h⟩:=h;have f2:=oN;have z1:items.size=ns.length:=by rw[<- hi.length];simp
  have z2:items2.size=ms.length:=by rw[<- hj.length];simp
  wp_walk using jF hl,jF hb,tO _ (fun rest b s'=>b.1=ψ/\s'=⟨hp,g,d,tk,os⟩/\∃ (vs ws:List aH) (ns' ms':List Int),rest=vs.zip ws /\
   fV vs ns'/\fV ws ms'/\ns'.length+items2.size=ms'.length+items.size/\R (.ok (.ret (.bool (Gx ns' ms')))) ⟨hp,g,d,tk,os⟩) _
  case turn=>
   rintro ⟨y,x⟩ rest b s' ⟨hb',rfl,vs,ws,ns',ms',hz,hvi,hwi,hlen,hR⟩;cases hvi with
   | nil=>rw[sW] at hz;cases hz
   | cons a t hvi'=>
    cases hwi with
    | nil=>rw[sL] at hz;cases hz
    | cons c u hwi'=>
     rw[nG] at hz;injection hz with hyx hrest
     injection hyx with hy hx
     subst hy hx;rw[Sr] at hR;simp only[aO] at hlen;obtain ⟨e,he,hiff⟩:=Sm A.in1 ⟨hp,g,d,tk,os⟩ a t c u;refine aD (he prog w _ _ ?_);cases e with
     | true=>
      rw[if_pos (hiff.mp rfl)] at hR
      wp_walk
      exact ⟨rfl,rfl,_,_,_,_,hrest,hvi',hwi',Ze,hR⟩
     | false=>
      rw[if_neg (fun q=>absurd (hiff.mpr q) cQ)] at hR;have hri:=W3 A.in1 ⟨hp,g,d,tk,os⟩ a t c u prog w
      wp_walk using hri
      exact ⟨_,rfl,by simpa using hR⟩
  case fin=>
   rintro ⟨b1,b2⟩ s' ⟨hb',rfl,vs,ws,ns',ms',hz,hvi,hwi,hlen,hR⟩;simp only at hb';subst hb';have hv:Gx ns' ms'=decide (items.size < items2.size):=by
    cases hvi with
    | nil=>
     cases hwi with
     | nil=>
      simp only[aX] at hlen;rw[T7];exact (decide_eq_false Ze).symm
     | cons c u hw=>
      simp only[aX,aO] at hlen;rw[Sx];exact (decide_eq_true Ze).symm
    | cons a t hv=>
     cases hwi with
     | nil=>
      simp only[aX,aO] at hlen;rw[Tq];exact (decide_eq_false Ze).symm
     | cons c u hw=>
      rw[nG] at hz;cases hz
   rw[hv] at hR
   wp_walk
   exact ⟨_,rfl,by simpa[lF] using hR⟩
  case h=>
   exact ⟨rfl,rfl,items.toList,items2.toList,ns,ms,rfl,hi,hj,Ze,h⟩
end
variable {Q:aH->aR->Prop}
section
variable {prog:cO}{w:dH}{A:eE}{E:aH->aR->Prop}{s:aR}
theorem Tc{l b:Addr}{items items2:Array aH}{ns ms:List Int}(hl:nZ s.heap l items)(hb:nZ s.heap b items2)(hi:fV items.toList ns)(hj:fV items2.toList ms)
  (hu:A.units < cLine) (h:Q (.bool (Gx ns ms)) s):wpAny Zw A (iE .Lt (.ref l) (.ref b)) Q E s:=by
 obtain ⟨⟨cls,dd,data,sl⟩,ho,hc,n,hd⟩:=id hl;obtain ⟨⟨cls2,dd2,data2,sl2⟩,ho2,hc2,n2,hd2⟩:=id hb;simp only at hc hd hc2 hd2;subst hc hd hc2 hd2;exact pT (op:=.Lt) ⟨_,ho,rfl⟩ ⟨_,ho2,rfl⟩ qT pV (oZ _ _) (Uj l b items items2 n n2 dd dd2 sl sl2 ns ms hi hj)
  ⟨ho,ho2,show sE (Gx ns ms)≠rD/\Q (.bool (Gx ns ms)) s from ⟨(fun x=>nomatch x),h⟩⟩ hu
theorem Ak4{t b:Addr}{vs ws:List aH}(ht:nZ s.heap t vs.toArray)(hb:nZ s.heap b ws.toArray)(hv:vs≠[])
  (h1:ws=[]->Q (.ref t) s) (h2:ws≠[]->Q ZM { s with heap:=s.heap.push { cls:=.type "tuple",data:=.seq (vs++ws).toArray } })
  (hsz:vs.length+ws.length<=sizeLine):wpAny Zw A (gQ .Add (.ref t) (.ref b)) Q E s:=by
 obtain ⟨⟨cls,dd,data,sl⟩,ho,hc,n,hd⟩:=id ht;obtain ⟨⟨cls2,dd2,data2,sl2⟩,ho2,hc2,n2,hd2⟩:=id hb;simp only at hc hd hc2 hd2;subst hc hd hc2 hd2;have e:vs.toArray++ws.toArray=(vs++ws).toArray:=Za
 by_cases hw:ws=[]
 ·exact sX ⟨_,ho,rfl⟩ ⟨_,ho2,rfl⟩ pA rW kR kN (jZ _ _)
   (tuple_addW1 t b vs.toArray ws.toArray n n2 dd dd2 sl sl2 (by simpa using hv) (by simp[hw])) ⟨ho,ho2,h1 hw⟩
 ·refine sX ⟨_,ho,rfl⟩ ⟨_,ho2,rfl⟩ pA rW kR kN (jZ _ _)
   (tuple_addW2 t b vs.toArray ws.toArray n n2 dd dd2 sl sl2 (by simpa using hv) (by simpa using hw) (by rw[aU,aU];exact hsz)) ⟨ho,ho2,?_⟩
  rw[e];exact h2 hw
noncomputable def sIx(n d:Nat):Option Int->Nat
 | none=>d
 | some v=>if v < 0 then (v+(n:Int)).toNat else min v.toNat n
theorem Xq(n d:Nat):sIx n d ψ=d:=rfl
theorem Qs(n d k:Nat):sIx n d (ξ (k:Int))=min k n:=by
 show (if (k:Int) < 0 then ((k:Int)+(n:Int)).toNat else min (k:Int).toNat n)=min k n;rw[if_neg Ze,cK]
theorem Aou(n d:Nat)(hd:d<=n)(o:Option Int):sIx n d o<=n:=by
 cases o with
 | none=>exact hd
 | some v=>
  show (if v < 0 then (v+(n:Int)).toNat else min v.toNat n)<=n;by_cases hv:v < 0
  ·rw[if_pos hv];omega
  ·rw[if_neg hv];exact Nat.min_le_right _ _
theorem Abw(v:Int)(n d:Nat):(if v < 0 then max (v+(n:Int)) 0 else min v (n:Int))=((sIx n d (ξ v):Nat):Int):=by
 show (if v < 0 then max (v+(n:Int)) 0 else min v (n:Int))=(((if v < 0 then (v+(n:Int)).toNat else min v.toNat n):Nat):Int);by_cases hv:v < 0
 ·simp only[if_pos hv];omega
 ·simp only[if_neg hv];omega
theorem Aaf(lo hi:Option Int)(n:Nat):fW lo hi 1 (n:Int)=(((sIx n 0 lo:Nat):Int),((sIx n n hi:Nat):Int)):=by
 have h1:¬ ((1:Int) < 0):=Ze
 unfold fW;simp only[h1,if_false];refine wB ?_ ?_
 ·cases lo with
  | none=>rfl
  | some v=>exact Abw v n 0
 ·cases hi with
  | none=>rfl
  | some v=>exact Abw v n n
theorem Aaw(i j:Nat):dU (i:Int) (j:Int) 1=j - i:=by
 unfold dU;have h1:(1:Int) > 0:=Ze
 simp only[h1,if_true,xG];split <;> omega
theorem Hj{v:aH}{o:Option Int}{Q:Option Int->aR->Prop}(p:pW v o)(h:Q o s):wpAny Zw A (jM.Slice.slicePartIndex v) Q E s:=by
 cases p with
 | none=>exact slicePart_none h
 | int i t=>exact slicePart_int h
theorem Pj{sl:Addr}{vl vu:aH}{lo hi:Option Int}{n:Nat}{Q:Int×Int×Nat->aR->Prop}(hs:s.heap.IsSliceOf sl vl vu .none)(pl:pW vl lo)(pu:pW vu hi)
  (h:Q (((sIx n 0 lo:Nat):Int),1,sIx n n hi - sIx n 0 lo) s):wpAny Zw A (iH (.ref sl) (pure (n:Int))) Q E s:=by
 obtain ⟨os,hos,hcs,hds⟩:=id hs;unfold iH nT;refine aD (aD (eB hos hds (x:=vl) rfl (aD (eB hos hds (x:=vu) rfl (aD (eB hos hds (x:=.none) rfl (aW ?_)))))));refine aD (slicePart_none ?_);show wpAny _ _ (if ((1:Int) == 0)=true then _ else _) _ _ s;rw[if_neg Zb];refine aD (Hj pl (aD (Hj pu (aD (aW ?_)))));show wpAny _ _ (match fW lo hi 1 (n:Int) with | (lo,hi)=>pure (lo,(1:Int),dU lo hi 1)) _ _ s;rw[Aaf lo hi n];show wpAny _ _ (pure (((sIx n 0 lo:Nat):Int),(1:Int),dU ((sIx n 0 lo:Nat):Int) ((sIx n n hi:Nat):Int) 1)) _ _ s;rw[Aaw];exact aW h
theorem Ahr(xs:Array aH)(i k:Nat):((bB k).filterMap fun (m:Nat)=>xs[((i:Int)+(m:Int) * 1).toNat]?).toArray=((xs.toList.drop i).take k).toArray:=by
 have e:(fun (m:Nat)=>xs[((i:Int)+(m:Int) * 1).toNat]?)=fun m=>xs[i+m]?:=by
  funext m
  have:((i:Int)+(m:Int) * 1).toNat=i+m:=Ze
  rw[this]
 rw[e];have:=pick_run xs i k;rw[kJ] at this;have e2:((fun x=>xs[x]?)∘fun x=>i+x)=fun m=>xs[i+m]?:=rfl
 rw[e2] at this;rw[this]
theorem N6{t sl:Addr}{items:Array aH}{vl vu:aH}{lo hi:Option Int}(ht:nZ s.heap t items)(hs:s.heap.IsSliceOf sl vl vu .none)(pl:pW vl lo)(pu:pW vu hi)
  (hw:¬ (sIx items.size 0 lo=0/\sIx items.size items.size hi=items.size))
  (h:Q ZM { s with heap:=s.heap.push { cls:=.type "tuple",data:=.seq ((items.toList.drop (sIx items.size 0 lo)).take Za9).toArray } })
  (hsz:items.size<=sizeLine):wpAny Zw A (getItem (.ref t) (.ref sl)) Q E s:=by
 have htake:sizeOk (.seq ((items.toList.drop (sIx items.size 0 lo)).take Za9).toArray):=by
  show ((items.toList.drop (sIx items.size 0 lo)).take Za9).toArray.size<=sizeLine;rw[aU,eQ,pB,cY];omega
 have hj:sIx items.size items.size hi<=items.size:=Aou _ _ (aP _) hi;obtain ⟨os,hos,hcs,hds⟩:=id hs;have hTs:s.TypeIs (.ref sl) "slice" := ⟨os,hos,hcs⟩;unfold getItem
 try with_reducible refine dQ ?_
 first | refine aD (aW ?_) | skip
 refine aD (sY ht.typeIs Zb ?_);refine aD (eX (name:=cT "__getitem__") ht.typeIs eA
  (fF eA ht.typeIs rO ?_ (sM _ _)))
 show wpAny _ _ (nH (.ref t) >>= _) _ _ s;refine aD (tupleItemsOf_ ht ?_);refine aD (pX hTs ?_);rw[if_pos Zb];refine aD (Pj hs pl pu ?_);have hno:¬ ((((sIx items.size 0 lo:Nat):Int) == 0&&(1:Int) == 1&&(sIx items.size items.size hi - sIx items.size 0 lo) == items.size)=true):=by
  intro q;rw[bZ,bZ] at q;have q1:((sIx items.size 0 lo:Nat):Int)=0:=eq_of_beq q.1.1;have q2:sIx items.size items.size hi - sIx items.size 0 lo=items.size:=eq_of_beq q.2;exact hw ⟨Ze,Ze⟩
 show wpAny _ _ (if (((sIx items.size 0 lo:Nat):Int) == 0&&(1:Int) == 1&&(sIx items.size items.size hi - sIx items.size 0 lo) == items.size)=true then _ else _) _ _ s;rw[if_neg hno,Ahr]
 first
  | exact aD (m:=dB _) (dE (aW ⟨_,rfl,aW h⟩) htake)
  | exact aD (m:=dB _) (dE (aD (aW (aW ⟨_,rfl,aW h⟩))) htake)
  | exact aD (aD (m:=dB _) (dE (aW (aW ⟨_,rfl,aW h⟩)) htake))
  | exact aD (aD (m:=dB _) (dE (aW ⟨_,rfl,aW h⟩) htake))
end
end HT
namespace L2
open PySem PySem.Spec PyProof.Rows
abbrev TO:=St->Hp->(Option Int->Hp->Prop)->Prop
def PO(X:Cx)(e:Option Expr)(t:TO):Prop:=
 ∀ (pins:List (Addr×Obj)) (s:aR) (σ:St) (H:Hp) (Q:Option Int->Hp->Prop),Inv X pins σ H s->t σ H Q ->
  wpAny Zg X.A (evalPart e X.env) (fun u s'=>∃ o H',Inv X pins σ H' s'/\pW u o/\Q o H') X.xe s
def Alr:TO:=fun _ H Q=>Q ψ H
def Ari(t:TE):TO:=fun σ H Q=>t σ H fun x H1=>∃ i,x = .int i/\Q (ξ i) H1
theorem C2{ns:List Int}:∀ {us:List aH},Vals ZG us->fV us ns:=by
 induction ns with
 | nil=>intro us r;rw[bP] at r;cases r;exact .nil
 | cons n ns ih=>
  intro us r;rw[aS] at r;cases r with
  | cons r1 r2=>
   obtain ⟨t,e⟩:=r1;subst e;exact .cons n t (ih r2)
variable {X:Cx}{xs:List V}{us:List aH}
section
variable {e:Expr}{te:TE}{lo hi:Option Expr}{tl th:TO}{pos p2:Pos}
theorem Akk:PO X ψ Alr:=by
 intro pins s σ H Q I h;rw[oO];exact aW ⟨ψ,H,I,.none,h⟩
theorem Ak3(h:PE X e te):PO X (ξ e) (Ari te):=by
 intro pins s σ H Q I hw;rw[evalPart_some];refine thn (h pins s σ H _ I hw) fun u s1 zz=>?_
 obtain ⟨x,H1,I1,r1,q1⟩:=zz;obtain ⟨i,rfl,q⟩:=q1;obtain ⟨t,rfl⟩:=r1;exact ⟨ξ i,H1,I1,.int i t,q⟩
def SlR(X:Cx)(r:V->Option Int->Option Int->Hp->VK->Prop):Prop:=
 ∀ (pins:List (Addr×Obj)) (s:aR) (σ:St) (H:Hp) (x:V) (v vl vu:aH) (lo hi:Option Int) (sl:Addr) (Q:VK),Inv X pins σ H s->RelV x v->s.heap.IsSliceOf sl vl vu .none->pW vl lo->pW vu hi->r x lo hi H Q ->
  ∃ T id,typeLookup (.type T) "__getitem__" = pure (ξ Zbr)/\s.TypeIs v T/\wpAny Zg X.A (getItem v (.ref sl)) Z2 X.xe s
theorem SlR.or{r r':V->Option Int->Option Int->Hp->VK->Prop}(h:SlR X r)(h':SlR X r'):SlR X (fun x lo hi H Q=>r x lo hi H Q\/r' x lo hi H Q):=by
 intro pins s σ H x v vl vu lo hi sl Q I rx hs pl pu q;rcases q with q | q
 ·exact h pins s σ H x v vl vu lo hi sl Q I rx hs pl pu q
 ·exact h' pins s σ H x v vl vu lo hi sl Q I rx hs pl pu q
def tSl(r:V->Option Int->Option Int->Hp->VK->Prop)(te:TE)(tl th:TO):TE:=fun σ H Q=>te σ H fun x H1=>tl σ H1 fun l H2=>th σ H2 fun u H3=>r x l u H3 Q
theorem Ahk{r:V->Option Int->Option Int->Hp->VK->Prop}(hr:SlR X r)(he:PE X e te)(hl:PO X lo tl)(hu:PO X hi th):PE X (.Subscript e (.Slice lo hi ψ p2) pos) (tSl r te tl th):=by
 intro pins s σ H Q I h;refine sN (thn ZbS fun v s1 zz=>?_);obtain ⟨x,H1,I1,r1,q1⟩:=zz;refine vE (thn (hl pins s1 σ H1 _ I1 q1) fun vl s2 ⟨l,H2,I2,pl,q2⟩=>thn (hu pins s2 σ H2 _ I2 q2) fun vu s3 zz=>?_);obtain ⟨u,H3,I3,pu,q3⟩:=zz;rw[oO];refine aW ?_;have I4:Inv X pins σ H3 { s3 with heap:=s3.heap.push { cls:=.type "slice",data:=.fields #[vl,vu,.none] } }:=I3.kept (t':=s3.toks) fun b ob q=>aG _ q
 obtain ⟨T,id,hT,ht,hg⟩:=hr pins { s3 with heap:=s3.heap.push { cls:=.type "slice",data:=.fields #[vl,vu,.none] } } σ H3 x v vl vu l u s3.heap.objs.size Q I4 r1 (nI ..) pl pu q3;show wpAny Zg X.A (subscriptTail e (.Slice lo hi ψ p2) v ZdR) Z2 X.xe { s3 with heap:=s3.heap.push { cls:=.type "slice",data:=.fields #[vl,vu,.none] } };exact wC (ops:=[.ref s3.heap.objs.size,v]) ht hT hg (by with_unfolding_all rfl)
def Xn(xs:List V)(lo hi:Option Int):List V:=(xs.drop Zd0).take Za0
theorem Px(xs:List V)(lo hi:Option Int):(Xn xs lo hi).length<=xs.length:=by
 unfold Xn;rw[eQ,pB];omega
def As2(K:aL):V->Option Int->Option Int->Hp->VK->Prop:=fun x lo hi H Q=>∃ a xs,x = .ref a/\SqT K H a xs /\
 ¬ (HT.sIx xs.length 0 lo=0/\HT.sIx xs.length xs.length hi=xs.length)/\∀ p,H p=ψ->Q (.ref p) (upd H p (.tup (Xn xs lo hi)))
theorem Aoi:SlR X (As2 X.K):=by
 intro pins s σ H x v vl vu lo hi sl Q I rx hs pl pu h;obtain ⟨a,xs,rfl,hx,hw,q⟩:=h;cases rx;obtain ⟨its,r,ht,hz⟩:=I.tuple hx;have hlen:its.toArray.size=xs.length:=by rw[aU];exact r.length.symm
 refine ⟨"tuple",_,eA.lookup,ht.typeIs,?_⟩;refine HT.N6 ht hs pl pu (by rw[hlen];exact hw) ?_ (by rw[hlen];exact hz);rw[hlen];refine ⟨.ref s.heap.objs.size,_,I.laid (t':=s.toks) (o:=.tup (Xn xs lo hi)) Zcc (aP _) ?_,rfl,q _ Zbx⟩;exact ⟨eC (Px xs lo hi) hz,_,(r.drop Zd0).take Za0,TupN.new _ _⟩
def Amp(K:aL):R2:=fun x y H Q=>∃ a b xs ys,x = .ref a/\y = .ref b/\SqT K H a xs/\SqT K H b ys/\xs≠[]/\xs.length+ys.length<=sizeLine /\
 (ys=[]->Q (.ref a) H)/\(ys≠[]->∀ p,H p=ψ->Q (.ref p) (upd H p (.tup (xs++ys))))
theorem Vals.nil_iff(r:Vals xs us):us=[]↔xs=[]:=by
 cases r with
 | nil=>simp
 | cons _ _=>simp
theorem Akd:OpR X (gQ .Add) (Amp X.K):=by
 intro pins s σ H x y v u Q I rx ry h;obtain ⟨a,b,xs,ys,rfl,rfl,ha,hb,hx,hz,q1,q2⟩:=h;cases rx;cases ry;obtain ⟨its,r1,p1,_⟩:=I.tuple ha;obtain ⟨its2,r2,p2,_⟩:=I.tuple hb;refine HT.Ak4 p1 p2 (fun z=>hx (r1.nil_iff.mp z)) (fun z=>⟨.ref a,H,I,rfl,q1 (r2.nil_iff.mp z)⟩) (fun z=>?_) (by rw[<- r1.length,<- r2.length];exact hz);refine ⟨.ref s.heap.objs.size,_,I.laid (t':=s.toks) (o:=.tup (xs++ys)) Zcc (aP _) ?_,rfl,q2 (fun w=>z (r2.nil_iff.mpr w)) _ Zbx⟩;exact ⟨by rw[bU];exact hz,_,r1.append r2,TupN.new _ _⟩
end
noncomputable def ixN(n:Nat)(i:Int):Option Nat:=if 0<=i then (if i < n then ξ i.toNat else ψ) else if -(n:Int)<=i then ξ (i+n).toNat else ψ
def atI{α:Type}(xs:List α)(i:Int):Option α:=(ixN xs.length i).bind fun j=>xs[j]?
variable {n:Nat}
theorem Ab2{i:Int}{j:Nat}(h:ixN n i=ξ j):seqIndex? i n=ξ j/\j < n/\-(n:Int)<=i/\i < n:=by
 unfold ixN at h;by_cases h0:0<=i
 ·rw[if_pos h0] at h;by_cases h1:i < n
  ·rw[if_pos h1] at h;have e:i.toNat=j:=bQ h;exact ⟨by rw[vF h0 h1,e],Ze,Ze,h1⟩
  ·rw[if_neg h1] at h;cases h
 ·rw[if_neg h0] at h;by_cases h1:-(n:Int)<=i
  ·rw[if_pos h1] at h;have e:(i+n).toNat=j:=bQ h;exact ⟨by rw[sZ Ze h1,e],Ze,h1,Ze⟩
  ·rw[if_neg h1] at h;cases h
theorem Vy{α:Type}{xs:List α}{i:Int}{v:α}(h:atI xs i=ξ v):∃ j,seqIndex? i xs.length=ξ j/\xs[j]? = ξ v/\j < xs.length/\-(xs.length:Int)<=i/\i < xs.length:=by
 unfold atI at h;cases e:ixN xs.length i with
 | none=>rw[e] at h;cases h
 | some j=>
  rw[e] at h;obtain ⟨h1,h2,h3,h4⟩:=Ab2 e;exact ⟨j,h1,h,h2,h3,h4⟩
theorem atI_last{α:Type}(xs:List α)(v:α):atI (xs++[v]) (-1)=ξ v:=by
 have hl:(xs++[v]).length=xs.length+1:=Za
 have e:ixN (xs++[v]).length (-1)=ξ xs.length:=by
  unfold ixN;rw[hl,if_neg Zb,if_pos Ze]
  congr 1
  omega
 unfold atI;rw[e];show (xs++[v])[xs.length]? = ξ v;simp
def Acm(b:Expr):Prop:=∀ o i,subscripted b false o i=operate [o,i] (getItem o i)
def IxR(X:Cx)(r:R2):Prop:=
 ∀ (value slice:Expr) (pins:List (Addr×Obj)) (s:aR) (σ:St) (H:Hp) (x y:V) (v u:aH) (Q:VK),Inv X pins σ H s->RelV x v->RelV y u->r x y H Q ->
  subscripted slice false v u=operate [v,u] (getItem v u)->wpAny Zg X.A (subscriptTail value slice v u) Z2 X.xe s
def MtR(X:Cx)(id:String)(r:V->List V->Hp->VK->Prop):Prop:=
 ∀ (pins:List (Addr×Obj)) (s:aR) (σ:St) (H:Hp) (x:V) (xs:List V) (v:aH) (us:List aH) (Q:VK),Inv X pins σ H s->RelV x v->Vals xs us->r x xs H Q ->
  wpAny Zg X.A (call Zbr (v::us)) Z2 X.xe s
variable {v:aH}{pins:List (Addr×Obj)}{σ:St}{H:Hp}{s:aR}{its:List aH}{A:eE}{y x:V}
section
variable {a b:Expr}{ta tb:TE}{pos:Pos}
theorem IxR.or{r r':R2}(h:IxR X r)(h':IxR X r'):IxR X (fun x y H Q=>r x y H Q\/r' x y H Q):=by
 intro value slice pins s σ H x y v u Q I rx ry q hs;rcases q with q | q
 ·exact h value slice pins s σ H x y v u Q I rx ry q hs
 ·exact h' value slice pins s σ H x y v u Q I rx ry q hs
theorem MtR.or{id:String}{r r':V->List V->Hp->VK->Prop}(h:MtR X id r)(h':MtR X id r'):MtR X id (fun x xs H Q=>r x xs H Q\/r' x xs H Q):=by
 intro pins s σ H x xs v us Q I rx rs q;rcases q with q | q
 ·exact h pins s σ H x xs v us Q I rx rs q
 ·exact h' pins s σ H x xs v us Q I rx rs q
theorem Ar6{r:R2}(hr:IxR X r)(ha:PE X a ta)(hb:PE X b tb)(hs:Acm b):PE X (.Subscript a b pos) (tOp r ta tb):=by
 intro pins s σ H Q I h;exact sN (Apw ha hb I h fun v u s2 x y H2 I2 rx ry q=>hr a b pins s2 σ H2 x y v u Q I2 rx ry q (hs _ _))
def Asu(K:aL):R2:=fun x y H Q=>∃ p xs i v,x = .ref p/\y = .int i/\SqL K H p xs/\atI xs i=ξ v/\Q v H
def Aqi(K:aL):R2:=fun x y H Q=>∃ p xs i v,x = .ref p/\y = .int i/\SqT K H p xs/\atI xs i=ξ v/\Q v H
def Aqq:R2:=fun x y H Q=>∃ z i c,x = .str z/\y = .int i/\z.length<=sizeLine/\atI z.cps.toList i=ξ c/\Q (.str ⟨#[c]⟩) H
theorem Akl:IxR X (Asu X.K):=by
 intro value slice pins s σ H x y v u Q I rx ry h hs;obtain ⟨p,xs,i,z,rfl,rfl,hq,he,q⟩:=h;cases rx;obtain ⟨t,rfl⟩:=ry;obtain ⟨its,r,pl,hz⟩:=I.list hq;obtain ⟨j,h1,h2,h3,h4,h5⟩:=Vy he;obtain ⟨w,ew,rw'⟩:=r.get h2;have hl:=r.length;have hn:=Pb;have fin:EP X pins σ Q w s:=⟨z,H,I,rw',q⟩;by_cases h0:0<=i
 ·have hj:i.toNat=j:=by
   rw[vF h0 h5] at h1;exact bQ h1
  exact item_listR pl.isList h0 Ze (by rw[hj];simpa using ew) fin hs
 ·have hj:(i+(its.toArray.size:Int)).toNat=j:=by
   rw[sZ Ze h4] at h1;rw[aU,<- hl];exact bQ h1
  exact pY (x:=w) pl.isList.typeIs oE.lookup
   (wpAny_getItem_list_neg (Q:=fun r s'=>r=w/\EP X pins σ Q r s') pl.isList Ze (by rw[aU] <;> omega) Ze (by rw[hj];simpa using ew) ⟨rfl,fin⟩) hs
theorem Ao9:IxR X (Aqi X.K):=by
 intro value slice pins s σ H x y v u Q I rx ry h hs;obtain ⟨p,xs,i,z,rfl,rfl,hq,he,q⟩:=h;cases rx;obtain ⟨t,rfl⟩:=ry;obtain ⟨its,r,pl,hz⟩:=I.tuple hq;obtain ⟨j,h1,h2,h3,h4,h5⟩:=Vy he;obtain ⟨w,ew,rw'⟩:=r.get h2;have hl:=r.length;have hn:=Pb;have fin:EP X pins σ Q w s:=⟨z,H,I,rw',q⟩;exact pY (x:=w) pl.typeIs slot_tuple_getitem.lookup
  (getItem_tuple (j:=j) (Q:=fun r s'=>r=w/\EP X pins σ Q r s') pl Ze Ze (by rw[aU,<- hl];exact h1) (by simpa using ew) ⟨rfl,fin⟩) hs
theorem Ao1:IxR X Aqq:=by
 intro value slice pins s σ H x y v u Q I rx ry h hs;obtain ⟨z,i,c,rfl,rfl,hz,he,q⟩:=h;obtain ⟨t,rfl⟩:=rx;obtain ⟨t',rfl⟩:=ry;obtain ⟨j,h1,h2,h3,h4,h5⟩:=Vy he;have hl:z.cps.toList.length=z.length:=by simp[Str.length]
 rw[hl] at h1 h4 h5;have hn:=Pb;exact wC (typeIs_str s z t) slot_str_getitem.lookup (getItem_str (c:=c) (by
  have e1:decide (i < -(2 ^ 63:Int))=false:=decide_eq_false Ze;have e2:decide (i ≥ 2 ^ 63)=false:=decide_eq_false Ze;rw[e1,e2,wV]) (by rw[h1];simpa using h2) ⟨.str ⟨#[c]⟩,H,I.tok _,⟨_,rfl⟩,q⟩) hs
def rIx(K:aL):R2:=fun x y H Q=>Asu K x y H Q\/Aqi K x y H Q\/Aqq x y H Q
theorem Az:IxR X (rIx X.K):=Akl.or (Ao9.or Ao1)
theorem Aab(its:List aH)(n j:Nat)(u:aH):bH (·.setIfInBounds j u) { cls:=.type "list",data:=.seq its.toArray n } = { cls:=.type "list",data:=.seq (its.set j u).toArray n }:=by
 simp[bH]
theorem Inv.lst{p:Addr}(I:Inv X pins σ H s)(h:H p=ξ (.lst xs)) :
  ∃ (its:List aH) (n:Nat),Vals xs its/\s.heap.get? p=ξ { cls:=.type "list",data:=.seq its.toArray n }/\xs.length<=sizeLine:=by
 obtain ⟨z,its,n,r,e⟩:=I.hok p _ h;exact ⟨its,n,r,e,z⟩
theorem Inv.lstUpd{p:Addr}{ys:List V}{its':List aH}{n':Nat}{f:Obj->Obj}(I:Inv X pins σ H s)(h:H p=ξ (.lst xs))
  (ho:s.heap.get? p=ξ { cls:=.type "list",data:=.seq its.toArray n }) (hf:f { cls:=.type "list",data:=.seq its.toArray n } = { cls:=.type "list",data:=.seq its'.toArray n' }) (r:Vals ys its') (hz:ys.length<=sizeLine) (t:Nat) :
  Inv X pins σ (upd H p (.lst ys)) { s with heap:=s.heap.update p f,toks:=t }:=by
 have e:(s.heap.update p f).get? p=ξ { cls:=.type "list",data:=.seq its'.toArray n' }:=by
  rw[lJ f ho (by rw[hf] <;> rfl),hf]
 refine I.write (x:=p) (e:=p) (by rw[h];trivial) (.inl rfl) (fun b u hb q=>(pZ _ _ (fN hb)).trans q) ⟨_,e⟩ ?_;exact ⟨hz,its',n',r,e⟩
def Aqv:V->V->V->Hp->(Hp->Prop)->Prop:=fun o i v H Q=>∃ p xs k j,o = .ref p/\i = .int k/\H p=ξ (.lst xs)/\ixN xs.length k=ξ j/\Q (upd H p (.lst (xs.set j v)))
theorem Aix:Asy X Aqv:=by
 intro pins s σ H o i v ov iv u Q I ro ri rv h;obtain ⟨p,xs,k,j,rfl,rfl,hp,hj,q⟩:=h;cases ro;obtain ⟨t,rfl⟩:=ri;obtain ⟨its,n,r,ho,hz⟩:=I.lst hp;obtain ⟨h1,h2,h3,h4⟩:=Ab2 hj;have hl:=r.length;have hn:=Pb;have I':Inv X pins σ (upd H p (.lst (xs.set j v))) { s with heap:=s.heap.update p (bH (·.setIfInBounds j u)) }:=
  I.lstUpd hp ho (Aab its n j u) (r.set rv j) (by rw[mK];exact hz) s.toks
 by_cases h0:0<=k
 ·have hk:k.toNat=j:=by
   rw[vF h0 h4] at h1;exact bQ h1
  exact PySem.W.ki_setAt ho h0 Ze (by rw[aU,<- hl];exact h4) (by rw[hk];exact ⟨_,I',q⟩)
 ·have hk:(k+(its.toArray.size:Int)).toNat=j:=by
   rw[sZ Ze h3] at h1;rw[aU,<- hl];exact bQ h1
  exact PySem.W.ki_setBack ho Ze (by rw[aU,<- hl];exact h3) Ze (by rw[hk];exact ⟨_,I',q⟩)
theorem Ac3(i:Int)(n:Nat):max 0 (min (if i < 0 then i+(n:Int) else i) (n:Int))=(((if i < 0 then (i+(n:Int)).toNat else min i.toNat n):Nat):Int):=by
 by_cases h:i < 0
 ·have hm:i+(n:Int)<=n:=Ze
  rw[if_pos h,if_pos h,vK hm,Int.ofNat_toNat,Int.max_comm]
 ·obtain ⟨k,rfl⟩:=Int.eq_ofNat_of_zero_le (Int.not_lt.mp h);rw[if_neg h,if_neg h,cK];rcases Nat.le_total k n with hk | hk
  ·rw[qM hk,vK (xH.mpr hk),tP (nJ k)]
  ·rw[Nat.min_eq_right hk,Int.min_eq_right (xH.mpr hk),tP (nJ n)]
theorem We(lo hi:Option Int)(n:Nat):(sliceBounds lo hi ψ n).1=((HT.sIx n 0 lo:Nat):Int)/\(sliceBounds lo hi ψ n).2.1=((HT.sIx n n hi:Nat):Int)/\(sliceBounds lo hi ψ n).2.2=1:=by
 refine ⟨?_,?_,rfl⟩
 ·cases lo with
  | none=>rfl
  | some i=>exact Ac3 i n
 ·cases hi with
  | none=>rfl
  | some i=>exact Ac3 i n
theorem T5(its:List aH)(lo hi:Option Int):slicePick its.toArray lo hi ψ=((its.drop (HT.sIx its.length 0 lo)).take (HT.sIx its.length its.length hi - HT.sIx its.length 0 lo)).toArray:=by
 obtain ⟨h1,h2,h3⟩:=We lo hi its.toArray.size;unfold slicePick;rw[h1,h2,h3];simp only[sliceRange_one,pick_run,aU] <;> rfl
def Ar4(K:aL):V->Option Int->Option Int->Hp->VK->Prop:=fun x lo hi H Q=>∃ a xs,x = .ref a/\SqL K H a xs/\∀ p,H p=ψ->Q (.ref p) (upd H p (.lst (Xn xs lo hi)))
theorem Ajq:SlR X (Ar4 X.K):=by
 intro pins s σ H x v vl vu lo hi sl Q I rx hs pl pu h;obtain ⟨a,xs,rfl,hx,q⟩:=h;cases rx;obtain ⟨its,r,ht,hz⟩:=I.list hx;have hlen:=r.length;refine ⟨"list",_,oE.lookup,ht.isList.typeIs,?_⟩;refine oP ht.isList hs pl pu .none Za ?_ (by rw[aU] <;> omega);rw[T5,<- hlen];refine ⟨.ref s.heap.objs.size,_,I.laid (t':=s.toks) (o:=.lst (Xn xs lo hi)) Zcc (aP _) ?_,rfl,q _ Zbx⟩;exact ⟨eC (Px xs lo hi) hz,_,0,(r.drop Zd0).take Za0,aZ _ rfl⟩
noncomputable def Mv:V->Bool
 | .non=>true
 | .bl _=>true
 | .int _=>true
 | .str _=>true
 | _=>false
noncomputable def eqV:V->V->Bool
 | .non,.non=>true
 | .bl a,.bl b=>a == b
 | .bl a,.int b=>(if a then 1 else 0) == b
 | .int a,.bl b=>a == (if b then 1 else 0)
 | .int a,.int b=>a == b
 | .str a,.str b=>a == b
 | _,_=>false
theorem Aos{u:aH}(ry:RelV y u)(rx:RelV x v)(fy:Mv y=true)(fx:Mv x=true):sJ A s u v (eqV y x):=by
 cases y with
 | non=>
  cases ry;cases x with
  | non=>cases rx;exact vL _
  | bl b=>cases rx;exact sJ.none_bool b
  | int b=>obtain ⟨t,rfl⟩:=rx;exact sJ.none_int b t
  | str b=>obtain ⟨t,rfl⟩:=rx;exact sJ.none_str b t
  | _=>exact absurd (show false=true from fx) cQ
 | bl a=>
  cases ry;cases x with
  | non=>cases rx;exact sJ.bool_none a
  | bl b=>cases rx;exact sJ.bool_bool a b
  | int b=>obtain ⟨t,rfl⟩:=rx;exact sJ.bool_int a b t
  | str b=>obtain ⟨t,rfl⟩:=rx;exact sJ.bool_str a b t
  | _=>exact absurd (show false=true from fx) cQ
 | int a=>
  obtain ⟨t',rfl⟩:=ry;cases x with
  | non=>cases rx;exact sJ.int_none a t'
  | bl b=>cases rx;exact sJ.int_bool a t' b
  | int b=>obtain ⟨t,rfl⟩:=rx;exact sK a t' b t
  | str b=>obtain ⟨t,rfl⟩:=rx;exact sC a t' b t
  | _=>exact absurd (show false=true from fx) cQ
 | str a=>
  obtain ⟨t',rfl⟩:=ry;cases x with
  | non=>cases rx;exact sJ.str_none a t'
  | bl b=>cases rx;exact sJ.str_bool a t' b
  | int b=>obtain ⟨t,rfl⟩:=rx;exact sD a t' b t
  | str b=>obtain ⟨t,rfl⟩:=rx;exact sJ.str_str a t' b t
  | _=>exact absurd (show false=true from fx) cQ
 | _=>exact absurd (show false=true from fy) cQ
def eqU(x:V)(u:aH):Bool:=match u with
 | .none=>eqV .non x
 | .bool b=>eqV (.bl b) x
 | .int i _=>eqV (.int i) x
 | .str z _=>eqV (.str z) x
 | _=>false
theorem Agp{u:aH}(r:RelV y u)(f:Mv y=true):eqU x u=eqV y x:=by
 cases y with
 | non=>cases r;rfl
 | bl b=>cases r;rfl
 | int i=>obtain ⟨t,rfl⟩:=r;rfl
 | str z=>obtain ⟨t,rfl⟩:=r;rfl
 | _=>exact absurd (show false=true from f) cQ
theorem Acg(h:Vals xs us)(f:xs.all Mv=true):us.any (eqU x)=xs.any fun y=>eqV y x:=by
 induction h with
 | nil=>rfl
 | cons r t ih=>
  rw[lW,bZ] at f;rw[iD,iD,Agp r f.1,ih f.2]
theorem Ro(rx:RelV x v)(fx:Mv x=true):∀ {xs:List V} {us:List aH},Vals xs us->xs.all Mv=true->∀ u∈us,sJ A s u v (eqU x u)
 | _,_,.nil,_=>fun u hu=>by cases hu
 | y::xs,u::us,.cons r t,f=>fun u' hu=>by
  rw[lW,bZ] at f;rcases bG.mp hu with rfl | hu
  ·rw[Agp r f.1];exact Aos r rx f.1 fx
  ·exact Ro rx fx t f.2 u' hu
def inV(x:V)(xs:List V):Bool:=xs.any fun y=>eqV y x
def rIn(K:aL)(neg:Bool):R2:=fun x y H Q=>∃ p xs,y = .ref p/\(SqL K H p xs\/SqT K H p xs)/\Mv x=true/\xs.all Mv=true/\Q (.bl Zca) H
theorem Afa:OpR X (iE .In) (rIn X.K false):=by
 intro pins s σ H x y v u Q I rx ry h;obtain ⟨p,xs,rfl,hq,fx,fs,q⟩:=h;cases ry;rcases hq with hq | hq
 ·obtain ⟨its,r,pl,hz⟩:=I.list hq;refine SeqAt.in_listAt (eqU x) pl.isList (fun w hw=>Ro rx fx r fs w (by simpa using hw)) ⟨.bl _,H,I,rfl,?_⟩;rw[show its.toArray.any (eqU x)=its.any (eqU x) by simp,Acg r fs];exact q
 ·obtain ⟨its,r,pl,hz⟩:=I.tuple hq;refine SeqAt.in_tupleAt (eqU x) pl (fun w hw=>Ro rx fx r fs w (by simpa using hw)) ⟨.bl _,H,I,rfl,?_⟩;rw[show its.toArray.any (eqU x)=its.any (eqU x) by simp,Acg r fs];exact q
theorem CallR.or{f:aH}{r r':List V->Hp->VK->Prop}(h:CallR X f r)(h':CallR X f r'):CallR X f (fun xs H Q=>r xs H Q\/r' xs H Q):=by
 intro pins s σ H xs us Q I rs q;rcases q with q | q
 ·exact h pins s σ H xs us Q I rs q
 ·exact h' pins s σ H xs us Q I rs q
theorem Wy:CallR X (.type "list") (fun xs H Q=>∃ p ys,xs=[.ref p]/\(SqL X.K H p ys\/SqT X.K H p ys)/\∀ l,H l=ψ->Q (.ref l) (upd H l (.lst ys))):=by
 intro pins s σ H xs us Q I r h;obtain ⟨p,ys,rfl,hq,q⟩:=h;obtain ⟨u,rfl,rx⟩:=Er r;cases rx;have fin:∀ (its:List aH),Vals ys its->ys.length<=sizeLine->∀ (h':Heap) (c':Nat),(∀ b o',s.heap.get? b=ξ o'->h'.get? b=ξ o') ->
   h'.get? s.heap.objs.size=ξ { cls:=.type "list",dict:=ψ,data:=.seq its.toArray c',slots:=#[] }->EP X pins σ Q ZM { s with heap:=h' }:=fun its r' hz h' c' kp e=>
  ⟨.ref s.heap.objs.size,_,I.laid (t':=s.toks) kp (aP _) (show ObjOk X.prog X.w _ h' _ (.lst ys) from ⟨hz,its,c',r',e⟩),rfl,q _ Zbx⟩
 rcases hq with hq | hq
 ·obtain ⟨its,r',pl,hz⟩:=I.list hq;have hlen:=r'.length;obtain ⟨o,ho,hc,n,hd⟩:=pl.isList;exact call_list_seq p (.inl rfl) ho hc hd (fun h' c' kp e=>fin its r' hz h' c' kp e) (by simp only[aU] <;> omega)
 ·obtain ⟨its,r',pl,hz⟩:=I.tuple hq;have hlen:=r'.length;obtain ⟨o,ho,hc,n,hd⟩:=pl;exact call_list_seq p (.inr rfl) ho hc hd (fun h' c' kp e=>fin its r' hz h' c' kp e) (by simp only[aU] <;> omega)
theorem Bl:CallR X (.type "tuple") (fun xs H Q=>∃ p ys,xs=[.ref p]/\((SqL X.K H p ys/\∀ l,H l=ψ->Q (.ref l) (upd H l (.tup ys)))\/(SqT X.K H p ys/\Q (.ref p) H))):=by
 intro pins s σ H xs us Q I r h;obtain ⟨p,ys,rfl,h⟩:=h;obtain ⟨u,rfl,rx⟩:=Er r;cases rx;rcases h with ⟨hq,q⟩ | ⟨hq,q⟩
 ·obtain ⟨its,r',pl,hz⟩:=I.list hq;have hlen:=r'.length;refine call_tuple_list pl.isList (fun h' kp=>?_) (by simp only[aU] <;> omega);have I1:Inv X pins σ H { s with heap:=h' }:=I.kept (t':=s.toks) kp;have I2:Inv X pins σ (upd H h'.objs.size (.tup ys)) { s with heap:=h'.push { cls:=.type "tuple",data:=.seq its.toArray } }:=
   I1.laid (t':=s.toks) (fun b o e=>aG _ e) (aP _) (show ObjOk X.prog X.w _ _ _ (.tup ys) from ⟨hz,its,r',TupN.new _ _⟩)
  exact ⟨.ref h'.objs.size,_,I2,rfl,q _ ZaA⟩
 ·obtain ⟨its,r',pl,hz⟩:=I.tuple hq;exact call_tuple_same pl ⟨.ref p,H,I,rfl,q⟩
def tyV(K:aL)(T:String)(x:V)(H:Hp):Prop:=match x with
 | .str _=>T = "str"
 | .int _=>T = "int"
 | .ref p=>(T = "list" /\ ∃ xs,SqL K H p xs)\/(T = "tuple" /\ ∃ xs,SqT K H p xs) \/
   (T = "dict" /\ ((∃ kvs,H p=ξ (.dK kvs))\/∃ kvs,H p=ξ (.dT kvs)))\/(T = "set" /\ ∃ S n,H p=ξ (.set S n))
 | _=>False
theorem Aob{T:String}(I:Inv X pins σ H s)(r:RelV x v)(ty:tyV X.K T x H) :
  s.TypeIs v T/\∀ a,v = .ref a->∃ ob,s.heap.get? a=ξ ob/\ob.dict=ψ:=by
 cases x with
 | str z=>
  obtain ⟨t,rfl⟩:=r;cases (show T = "str" from ty);exact ⟨typeIs_str s z t,fun _ e=>nomatch e⟩
 | int i=>
  obtain ⟨t,rfl⟩:=r;cases (show T = "int" from ty);exact ⟨wD s i t,fun _ e=>nomatch e⟩
 | ref p=>
  cases r;rcases ty with ⟨rfl,xs,hq⟩ | ⟨rfl,xs,hq⟩ | ⟨rfl,hk⟩ | ⟨rfl,S,n,hk⟩
  ·obtain ⟨its,_,pl,_⟩:=I.list hq;refine ⟨pl.isList.typeIs,fun a e=>?_⟩;cases e;obtain ⟨o,n,e,c,hd,_⟩:=pl;exact ⟨o,e,hd⟩
  ·obtain ⟨its,_,⟨o,ho,hc,_⟩,_⟩:=I.tupleN hq;obtain ⟨h1,h2⟩:=lY hc;refine ⟨⟨o,ho,h1⟩,fun a e=>?_⟩;cases e;exact ⟨o,ho,h2⟩
  ·have z:∃ o,s.heap.get? p=ξ o/\o.ExactDict:=by
    rcases hk with ⟨kvs,hk⟩ | ⟨kvs,hk⟩
    ·obtain ⟨_,_,_,_,o,_,_,e,ex,_⟩:=I.hok p _ hk;exact ⟨o,e,ex⟩
    ·obtain ⟨_,_,_,_,o,_,_,e,ex,_⟩:=I.hok p _ hk;exact ⟨o,e,ex⟩
   obtain ⟨o,e,ex⟩:=z;refine ⟨⟨o,e,ex.1⟩,fun a e2=>?_⟩;cases e2;exact ⟨o,e,ex.2.1⟩
  ·obtain ⟨o,_,_,_,e,ex,_⟩:=I.hok p _ hk;refine ⟨⟨o,e,ex.1⟩,fun a e2=>?_⟩;cases e2;exact ⟨o,e,ex.2.1⟩
 | _=>exact fO ty
def tBM(K:aL)(T:String)(r:V->List V->Hp->VK->Prop)(to:TE)(t:TA):TE:=fun σ H Q=>to σ H fun x H1=>tyV K T x H1/\t σ H1 fun xs H2=>r x xs H2 Q
variable {o e:Expr}{es:List Expr}{to:TE}{t:TA}{name:Str}{apos cpos:Pos}{T id:String}{r:V->List V->Hp->VK->Prop}
theorem Ata(pa:PlainAttrs T)(slot:Slot T name id)(hty:typeOf Zbr=pure (.type "method_descriptor"))(hm:MtR X id r)(ho:PE X o to)(ha:PA X (e::es) t)
  (hbase:attributeBase o name X.env Zci=eval o X.env:=by rfl)
  (hfew:((backTo cpos (bK (e::es) X.env)).all (fun x=>!x.1)&&(backToKw cpos ZbT).all Zcs
   && decide ((e::es).length+([]:List kD).length+(if ([]:List kD).isEmpty then 0 else 1) < 30))=true:=by rfl)
  (hline:(apos.endLine == cpos.line)=true:=by rfl) (hs:bK (e::es) X.env=ZQ::bK es X.env:=by rfl) (hplain:(backTo cpos Zbb).any (·.1)=false:=by rfl) :
  PE X (.Call (.Attribute o name apos) (e::es) [] cpos) (tBM X.K T r to t):=by
 intro pins s σ H Q I h;refine wpAny_Call_method_late hbase hfew hline rfl (thn (ho pins s σ H _ I h) fun v s1 zz=>?_);obtain ⟨x,H1,I1,r1,ty,q1⟩:=zz;obtain ⟨h1,h2⟩:=Aob I1 r1 ty;refine ⟨T,id,pa,slot,hty,h1,h2,?_⟩;have hA:=ha cpos pins s1 σ H1 _ I1 q1;rw[hs] at hA ⊢;refine qA (by show (false || (backTo cpos (bK es X.env)).any (·.1))=false;rw[hplain] <;> rfl) (Calls.evalArgs_plain ?_)
 exact thn hA fun us s2 zz=>by obtain ⟨vs,H2,I2,r2,q2⟩:=zz;exact hm pins s2 σ H2 x vs v us Q I2 r1 r2 q2
end
def MtM(X:Cx)(id:String)(r:V->List V->Hp->VK->Prop):Prop:=
 ∀ (pins:List (Addr×Obj)) (s:aR) (σ:St) (H:Hp) (x:V) (xs:List V) (v:aH) (us:List aH) (Q:VK),Inv X pins σ H s->RelV x v->Vals xs us->r x xs H Q ->
  wpAny Zg X.A (call Zbr (v::us)) Z2 X.xe s
theorem Vals.one(h:Vals [x] us):∃ u,us=[u]/\RelV x u:=by
 cases h with
 | cons r t=>cases t;exact ⟨_,rfl,r⟩
theorem Vals.two(h:Vals [x,y] us):∃ u v,us=[u,v]/\RelV x u/\RelV y v:=by
 cases h with
 | cons r t=>obtain ⟨v,rfl,q⟩:=Vals.one t;exact ⟨_,v,rfl,r,q⟩
theorem Vals.zero:∀ {us:List aH},Vals [] us->us=[]
 | _,.nil=>rfl
theorem Vals.dropLast(h:Vals xs us):Vals xs.dropLast us.dropLast:=by
 induction h with
 | nil=>exact .nil
 | cons r t ih=>
  cases t with
  | nil=>exact .nil
  | cons q t'=>exact .cons r ih
theorem Vals.eraseIdx(i:Nat)(h:Vals xs us):Vals (xs.eraseIdx i) (us.eraseIdx i):=by
 induction h generalizing i with
 | nil=>exact .nil
 | cons r t ih=>
  cases i with
  | zero=>exact t
  | succ i=>exact .cons r (ih i)
theorem Vals.reverse(h:Vals xs us):Vals xs.reverse us.reverse:=by
 induction h with
 | nil=>exact .nil
 | cons r t ih=>rw[eJ,eJ];exact Vals.append ih (.cons r .nil)
theorem Vals.rep(h:Vals xs us):∀ k:Nat,Vals (bL k xs).flatten (bL k us).flatten
 | 0=>.nil
 | k+1=>by
  rw[eR,eR,eK,eK];exact Vals.append h (Vals.rep h k)
theorem Uv{α:Type}:∀ (l:List α) (i:Nat),(l.eraseIdx i).length<=l.length
 | [],_=>aP _
 | _::_,0=>lZ _
 | _::r,i+1=>Nat.succ_le_succ (Uv r i)
theorem Ve(its:List aH):∀ (k:Nat) (acc:List aH),
  wF (fun x1 x2=>x1++x2) acc.toArray (bL k its.toArray)=(acc++(bL k its).flatten).toArray
 | 0,acc=>by simp
 | k+1,acc=>by
  have e:acc.toArray++its.toArray=(acc++its).toArray:=Za
  have e2:(acc++its)++(bL k its).flatten=acc++(bL (k+1) its).flatten:=by
   rw[eR,eK,bM]
  rw[<- e2,<- Ve its k (acc++its),<- e,eR,List.foldl_cons]
section
variable {l b:Addr}{ys zs:List V}
theorem Inv.lset{its':List aH}{f:Array aH->Array aH}{t':Nat}(I:Inv X pins σ H s)(hH:H l=ξ (.lst xs))
  (e:s.heap.get? l=ξ { cls:=.type "list",data:=.seq its.toArray n }) (hf:f its.toArray=its'.toArray) (hv:Vals ys its') (hz:ys.length<=sizeLine) :
  Inv X pins σ (upd H l (.lst ys)) { s with heap:=s.heap.update l (bH f),toks:=t' }:=by
 have q:=PySem.IsL.update e f;rw[hf] at q;refine I.write (x:=l) (e:=l) (by rw[hH];exact trivial) (.inl rfl) (fun b' u hb hu=>(pZ s.heap (bH f) (fN hb)).trans hu) ⟨_,q⟩ ?_;exact ⟨hz,its',_,hv,q⟩
theorem Inv.lnew{t':Nat}(I:Inv X pins σ H s)(hv:Vals ys its)(hz:ys.length<=sizeLine) :
  Inv X pins σ (upd H s.heap.objs.size (.lst ys)) { s with heap:=s.heap.push { cls:=.type "list",data:=.seq its.toArray },toks:=t' }:=
 I.laid (fun _ _ q=>aG _ q) (aP _) ⟨hz,its,0,hv,aZ _ rfl⟩
theorem Inv.fresh(I:Inv X pins σ H s):H s.heap.objs.size=ψ:=I.hok.fresh (aP _)
theorem Inv.lstM(I:Inv X pins σ H s)(hH:H l=ξ (.lst xs)):xs.length<=sizeLine/\∃ (its:List aH) (n:Nat),Vals xs its/\xs.length=its.length/\s.heap.get? l=ξ { cls:=.type "list",data:=.seq its.toArray n }:=by
 obtain ⟨z,its,n,r,e⟩:=I.hok l _ hH;exact ⟨z,its,n,r,r.length,e⟩
theorem Aid(h:n<=sizeLine):kA n=false:=by
 unfold kA;exact decide_eq_false Ze
end
section
def Ack:V->List V->Hp->VK->Prop:=fun x vs H Q=>∃ l xs y,x = .ref l/\vs=[y]/\H l=ξ (.lst xs)/\xs.length < sizeLine/\Q .non (upd H l (.lst (xs++[y])))
theorem Iv:MtM X "list.append" Ack:=by
 intro pins s σ H x vs v us Q I rx rv h;obtain ⟨l,xs,y,rfl,rfl,hH,hz,q⟩:=h;cases rx;obtain ⟨u,rfl,ru⟩:=rv.one;obtain ⟨z,its,n,r,hl,e⟩:=I.lstM hH;refine sO F.slot_list_append ⟨_,e,rfl⟩ F.entry_list_append (F.args_list_append_2 _ _) (PySem.list_append l its.toArray n u (by rw[aU];omega)) ⟨e,?_⟩;refine ⟨.non,_,I.lset (its':=its++[u]) hH e Za (r.append (.cons ru .nil)) ?_,rfl,q⟩;rw[bU,fJ];omega
def Ahs:V->List V->Hp->VK->Prop:=fun x vs H Q=>∃ l xs i k y,x = .ref l/\vs=[.int i]/\H l=ξ (.lst xs)/\-(2 ^ 63)<=i/\i < 2 ^ 63/\seqIndex? i xs.length=ξ k/\xs[k]? = ξ y/\Q y (upd H l (.lst (xs.eraseIdx k)))
theorem Xw:MtM X "list.pop" Ahs:=by
 intro pins s σ H x vs v us Q I rx rv h;obtain ⟨l,xs,i,k,y,rfl,rfl,hH,h1,h2,hk,hy,q⟩:=h;cases rx;obtain ⟨u,rfl,ru⟩:=rv.one;obtain ⟨t,rfl⟩:=ru;obtain ⟨z,its,n,r,hl,e⟩:=I.lstM hH;obtain ⟨w,hw,rw'⟩:=r.get hy;refine sO F.slot_list_pop ⟨_,e,rfl⟩ F.entry_list_pop (F.args_list_pop_2 _ _)
  (MeetsSeq.list_pop_at l its.toArray n i t k w (fitsIndex_both h1 h2) (by rw[aU,<- hl];exact hk) (by rw[<- fZ];exact hw) (by rw[aU];omega)) ⟨e,?_⟩
 refine ⟨y,_,I.lset (its':=its.eraseIdx k) hH e ?_ (r.eraseIdx k) ?_,rw',q⟩
 ·show its.toArray.eraseIdxIfInBounds k=(its.eraseIdx k).toArray;rw[List.eraseIdxIfInBounds_toArray]
 ·have:=Uv xs k;omega
def As3:R2:=fun x y H Q=>∃ l b xs zs,x = .ref l/\y = .ref b/\H l=ξ (.lst xs)/\H b=ξ (.lst zs)/\xs.length+zs.length<=sizeLine/\∀ p,H p=ψ->Q (.ref p) (upd H p (.lst (xs++zs)))
theorem Aoz:OpR X (gQ .Add) As3:=by
 intro pins s σ H x y v u Q I rx ry h;obtain ⟨l,b,xs,zs,rfl,rfl,hH,hB,hz,q⟩:=h;cases rx;cases ry;obtain ⟨z,its,n,r,hl,e⟩:=I.lstM hH;obtain ⟨z2,its2,n2,r2,hl2,e2⟩:=I.lstM hB;refine PySem.P.add_list e e2 ?_ (by rw[aU,aU];omega);have ea:its.toArray++its2.toArray=(its++its2).toArray:=Za
 rw[ea];exact ⟨.ref _,_,I.lnew (t':=s.toks) (r.append r2) (by rw[bU];omega),rfl,q _ I.fresh⟩
def Arl:R2:=fun x y H Q=>∃ l k xs,x = .ref l/\y = .int k/\H l=ξ (.lst xs)/\-(2 ^ 63)<=k/\k < 2 ^ 63/\xs.length * k.toNat<=sizeLine /\
 ∀ p,H p=ψ->Q (.ref p) (upd H p (.lst (bL k.toNat xs).flatten))
theorem Akr{α:Type}(xs:List α)(k:Nat):(bL k xs).flatten.length=k * xs.length:=by
 induction k with
 | zero=>simp
 | succ k ih=>rw[eR,eK,bU,ih,Nat.succ_mul,Nat.add_comm]
theorem An3:OpR X (gQ .Mult) Arl:=by
 intro pins s σ H x y v u Q I rx ry h;obtain ⟨l,k,xs,rfl,rfl,hH,h1,h2,hz,q⟩:=h;cases rx;obtain ⟨t,rfl⟩:=ry;obtain ⟨z,its,n,r,hl,e⟩:=I.lstM hH;have hlen:its.toArray.size * k.toNat<=sizeLine:=by rw[aU,<- hl];exact hz
 have hcap:¬ its.toArray.size * k.toNat > (2 ^ 63 - 1) / 8:=by
  have:(sizeLine:Nat)<=(2 ^ 63 - 1) / 8:=Zb
  omega
 have hfit:¬ (!Builtin.List.listFitsIndex k)=true:=by
  rw[fitsIndex_both h1 h2];exact cQ
 have hlong:¬ kA (its.toArray.size * k.toNat)=true:=by
  rw[Aid hlen];exact cQ
 have hnew:wF (fun x1 x2=>x1++x2) #[] (bL (if its.toArray.isEmpty=true then 0 else k.toNat) its.toArray)=(bL k.toNat its).flatten.toArray:=by
  have f0:∀ m:Nat,wF (fun x1 x2=>x1++x2) #[] (bL m its.toArray)=(bL m its).flatten.toArray:=fun m=>by
   have:=Ve its m [];rw[cZ] at this;exact this
  rw[f0];cases its with
  | nil=>simp
  | cons a r'=>rw[if_neg Za]
 refine wpAny_binaryOp_repeat_ref (T := "list") (U := "int") Zb ⟨_,e,rfl⟩ (fun s'=>wD s' k t) noFill_list_mul F.fills_int_mul vM repeat_list F.slot_int_index.lookup
  (sO vM (wD s k t) F.entry_int_rmul (F.args_int_rmul_2 _ _) (int___rmul___int_list k t l its.toArray n)
   ⟨e,rfl,⟨_,e,rfl⟩,sO F.slot_list_mul ⟨_,e,rfl⟩ F.entry_list_mul (F.args_list_mul_2 _ _) (AutoListH.list___mul___list_int_3 l its.toArray n k t hfit hcap hlong) ⟨e,?_⟩⟩)
 rw[hnew];exact ⟨.ref _,_,I.lnew (t':=s.toks) (r.rep k.toNat) (by rw[Akr,Nat.mul_comm];exact hz),rfl,q _ I.fresh⟩
end
section
variable {prog:cO}{w:dH}{E:aH->aR->Prop}
end
end L2
namespace Att
open PySem PySem.W PySem.Calls PyProof.Rows
theorem Qm{P:rE}{h:Heap}:∀ (ns:List Int) (vs:List aH),WellAll P h vs (ns.map pC)->fV vs ns:=by
 intro ns;induction ns with
 | nil=>
  intro vs w;rw[bP] at w;cases w;exact .nil
 | cons n ns ih=>
  intro vs w;rw[aS] at w;cases w with
  | cons a b=>
   cases a;exact .cons _ _ (ih _ b)
theorem Afi{l:nB}{n:Nat}(hn:l.most=ξ n){P:rE}{h:Heap}{args:List WData}{vals:List aH}
  (hpre:l.row.toRowW.claim.pre args=true) (hwl:WellAll P h vals args) :
  ∃ a vs ns,vals=[gU a]/\args=[xW (ns.map pC)]/\h.get? a=ξ { cls:=.type "list",data:=.seq vs.toArray }/\fV vs ns/\ns.length<=n:=by
 have hsh:WShape.hasAll [] args [.list .int]=true:=(pre_splitW hpre).1;have hc:l.pre.holds [] { args:=args } = true:=(pre_splitW hpre).2;obtain ⟨d,r,rfl,h1,h2⟩:=hasAllW_cons hsh;obtain rfl:=hasAllW_nil h2;obtain ⟨xs,rfl,h3⟩:=hasW_list h1;obtain ⟨ns,rfl⟩:=items_int h3;have hlen:ns.length<=n:=by
  unfold nB.pre at hc;have h4:(WTm.not (.lt (.lit (.int (n:Int))) (.len (.arg 0)))).holds [] { args:=[.list (ns.map .int)] } = true:=by
   have h4:=(holds_andW hc).1;rw[hn] at h4;exact h4
  have h5:=condW_of h4 (w_not (w_lt w_lit (w_len_list (w_arg rfl))));rw[aN] at h5;refine Nat.le_of_not_lt fun q=>?_
  have q':(n:Int) < ((ns.length:Nat):Int):=Ze
  first
   | (rw[decide_eq_true q'] at h5;exact absurd h5 Zb)
   | (simp at h5;omega)
 cases hwl with
 | cons w1 w2=>
  cases w2;cases w1 with
  | list ho hall=>exact ⟨_,_,ns,rfl,rfl,ho,Qm ns _ hall,hlen⟩
theorem Aej(l:nB)(args:List WData):l.row.toRowW.claim.post args ZbJ args=true:=
 postW_of (r:=l.row.toRowW) (X:=(true == true))
  (show xX [] ZbJ .bool=true by first | rfl | decide | simp[xX,WShape.arms,WShape.armsAll])
  (show (WTm.eq .res (.lit ZbJ)).value [] { args:=args,res:=ξ ZbJ,after:=args } = ξ (.bool (true == true)) from w_eq_bool (w_res rfl) w_lit) rfl
section
variable {prog:cO}{w:dH}{A:eE}{E:aH->aR->Prop}{s:aR}{K:Frag}
end
end Att
namespace L2
open PySem PySem.Spec PyProof.Rows
theorem Ur{vs:List aH}{ns:List Int}(h:fV vs ns):Vals ZG vs:=by
 induction h with
 | nil=>exact .nil
 | cons n t h ih=>exact .cons ⟨t,rfl⟩ ih
def Only(H:Hp):Prop:=∀ b,H b=ψ\/∃ o xs,H b=ξ ZdA
noncomputable def G1(s:Stmt):lM:=match s with
 | .FunctionDef _ a _ _ _ _ _ _ _ _=>a
 | _=>{ posonlyargs:=[],args:=[],vararg:=ψ,kwonlyargs:=[],kw_defaults:=[],kwarg:=ψ,defaults:=[] }
noncomputable def Ew(s:Stmt):List Stmt:=match s with
 | .FunctionDef _ _ b _ _ _ _ _ _ _=>b
 | _=>[]
noncomputable def Aq(s:Stmt):jP:=match s with
 | .FunctionDef _ _ _ _ _ _ sc _ _ _=>sc
 | _=>{ kind:=.function,names:=[],isGenerator:=false,isCoroutine:=false }
abbrev CX0:CXT:=fun _ _ _ _ _ _=>False
abbrev E0:XK:=fun _ _ _=>False
variable {X:Cx}
theorem Asl:Aar CX0 X E0:=fun _ _ _ _ _ _ _ h=>h.elim
structure Fun(K:aL)(x qual:Str)(st:Stmt)(f:Addr)(fd:eT):Prop where
 ex:∃ (oc:aH) (od:Option Addr) (kV doc pm:aH) (an:Option Addr) (cdv ct:aH) (osl:Array (Option aH)),
  fd=iA x qual (G1 st) (Ew st) (Aq st) .none kV doc pm an cdv ct/\K.lookup f=ξ ⟨oc,od,.func fd,osl⟩/\nF K cdv qual=true
 kp:iY K (.ref f)=true
variable {P:cO}{w:dH}{x qual:Str}{st:Stmt}{f:Addr}
section
variable {K:aL}{mg:Str->Option aH}{base:Heap}
theorem Fun.ok{fd:eT}{N ps:List Str}{k:Nat}{sp:Sp}(F:Fun K x qual st f fd)(S:FnScope N ps (Aq st))(len:∀ vs H Q E,sp vs H Q E->vs.length=ps.length)
  (hbody:∀ (cdv:aH) (A:eE) (outer:List Env) (s:aR) (H:Hp) (vs:List V) (Q:VK) (E:XK),Room k Za1->sp vs H Q E ->
   ∃ t,PSs (X5 CX0 P w K mg base N qual (Aq st) f cdv A outer s H E).nox (Ew st) t/\t { nx:=fun _ H'=>Q .non H',rt:=Q } (start N vs) H):FnOk P w K mg base CX0 (k+1) f fd ps sp:=by
 obtain ⟨oc,od,kV,doc,pm,an,cdv,ct,osl,rfl,lk,hcd⟩:=F.ex;refine Amf lk hcd S len fun A outer s H vs Q E hr hsp=>?_
 obtain ⟨t,h,q⟩:=hbody cdv A outer s H vs Q E hr hsp;exact ⟨t,h.nox,q⟩
theorem Fun.binds{fd:eT}{ps:List Str}(F:Fun K x qual st f fd)
  (h:∀ (kV doc pm:aH) (an:Option Addr) (cdv ct:aH) (us:List aH),us.length=ps.length->vZ ZaM ⟨us,[]⟩=pure (ps.zip us)):Binds K fd ps []:=by
 obtain ⟨oc,od,kV,doc,pm,an,cdv,ct,osl,rfl,lk,hcd⟩:=F.ex;exact .all (h kV doc pm an cdv ct)
theorem Aic{oc:aH}{od an:Option Addr}{osl:Array (Option aH)}{kV doc pm cdv ct:aH}(l:K.lookup f=ξ ⟨oc,od,.func ZaM,osl⟩)
  (c:nF K cdv qual=true) (k:iY K (.ref f)=true):Fun K x qual st f ZaM:=⟨⟨oc,od,kV,doc,pm,an,cdv,ct,osl,rfl,l,c⟩,k⟩
end
theorem Aac{A B:Prop}(h:B):if false=true then A else B:=by
 rw[if_neg cQ];exact h
theorem Aat{A B:Prop}(h:A):if true=true then A else B:=by
 rw[if_pos rfl];exact h
def Same(H H':Hp):Prop:=∀ b o,H b=ξ o->H' b=ξ o
theorem Same.refl(H:Hp):Same H H:=fun _ _ h=>h
variable {H:Hp}
theorem Same.trans{H1 H2:Hp}(a:Same H H1)(b:Same H1 H2):Same H H2:=fun c o h=>b c o (a c o h)
variable {H':Hp}
theorem Same.free(e:Same H H'){l:Addr}(h:H' l=xS):H l=xS:=by
 cases q:H l with
 | none=>rfl
 | some o=>
  rw[e l o q] at h;cases h
variable {a:Addr}
theorem Same.seq{K:aL}{xs:List V}(e:Same H H')(h:SqL K H a xs):SqL K H' a xs:=by
 rcases h with (h | ⟨o,h⟩) | h
 ·exact .inl (.inl (e _ _ h))
 ·exact .inl (.inr ⟨o,e _ _ h⟩)
 ·exact .inr h
variable {o:Option V}{u:aH}{y:V}
section
variable {κ:Type}[DecidableEq κ]
noncomputable def Nc(kvs:List (κ×V))(k:κ):Option V:=(kvs.find? fun kv=>decide (kv.1=k)).map (·.2)
noncomputable def Ov(kvs:List (κ×V))(k:κ)(v:V):List (κ×V):=
 if Zcw=true then kvs.map ZbM else kvs++[(k,v)]
noncomputable def Abk(kvs:List (κ×V))(k:κ):List (κ×V):=kvs.filter fun kv=>decide (kv.1≠k)
theorem Ta{p:κ×V}{r:List (κ×V)}{k:κ}(e:p.1=k):Nc (p::r) k=ξ p.2:=by simp[Nc,dM,e]
theorem Si{p:κ×V}{r:List (κ×V)}{k:κ}(e:¬ p.1=k):Nc (p::r) k=Nc r k:=by simp[Nc,dM,e]
theorem Rw(k:κ):∀ kvs:List (κ×V),Zcw=(Nc kvs k).isSome
 | []=>rfl
 | p::r=>by
  rw[iD];by_cases e:p.1=k
  ·simp only[Ta e,decide_eq_true e,Bool.true_or,Option.isSome_some]
  ·rw[Si e,decide_eq_false e,wW];exact Rw k r
theorem Qd(kvs:List (κ×V))(k:κ)(v:V):(Ov kvs k v).length<=kvs.length+1:=by
 unfold Ov;split
 ·rw[aN];omega
 ·rw[bU,aO,aX];omega
theorem RelO.isSome_eq{u:Option aH}(r:RelO o u):o.isSome=u.isSome:=by
 cases o with
 | none=>cases u with
  | none=>rfl
  | some _=>exact (show False from r).elim
 | some _=>cases u with
  | none=>exact (show False from r).elim
  | some _=>rfl
theorem RelO.getD{u:Option aH}{d:V}{d':aH}(r:RelO o u)(rd:RelV d d'):RelV (o.getD d) (u.getD d'):=by
 cases o with
 | none=>cases u with
  | none=>exact rd
  | some _=>exact (show False from r).elim
 | some _=>cases u with
  | none=>exact (show False from r).elim
  | some _=>exact r
theorem KV.val{kvs:List (κ×V)}{vs:List (κ×aH)}(r:KV kvs vs)(k:κ):RelO (Nc kvs k) (valueAt vs k):=by
 unfold KV at r;induction r with
 | nil=>exact pQ
 | @cons p q ps qs h t ih=>
  obtain ⟨h1,h2⟩:=h;by_cases e:p.1=k
  ·have e':q.1=k:=h1.symm.trans e;have b:valueAt (q::qs) k=ξ q.2:=by simp[valueAt,dM,e']
   rw[Ta e,b];exact h2
  ·have e':¬ q.1=k:=fun z=>e (h1.trans z)
   have b:valueAt (q::qs) k=valueAt qs k:=by simp[valueAt,dM,e']
   rw[Si e,b];exact ih
theorem KV.any{kvs:List (κ×V)}{vs:List (κ×aH)}(r:KV kvs vs)(k:κ):(kvs.any fun kv=>decide (kv.1=k))=vs.any fun kv=>decide (kv.1=k):=by
 unfold KV at r;induction r with
 | nil=>rfl
 | cons h t ih=>rw[iD,iD,ih,h.1]
theorem KV.repl{kvs:List (κ×V)}{vs:List (κ×aH)}(r:KV kvs vs)(k:κ)(ry:RelV y u) :
  KV (kvs.map fun kv=>if kv.1=k then (kv.1,y) else kv) (vs.map fun kv=>if kv.1=k then (kv.1,u) else kv):=by
 unfold KV at r ⊢;induction r with
 | nil=>exact .nil
 | @cons p q ps qs h t ih=>
  rw[aS,aS];refine .cons ?_ ih;obtain ⟨h1,h2⟩:=h;by_cases e:p.1=k
  ·rw[if_pos e,if_pos (h1.symm.trans e)];exact ⟨h1,ry⟩
  ·rw[if_neg e,if_neg (fun z=>e (h1.trans z))];exact ⟨h1,h2⟩
theorem KV.put{kvs:List (κ×V)}{vs:List (κ×aH)}(r:KV kvs vs)(k:κ)(ry:RelV y u):KV (Ov kvs k y) (stored vs k u):=by
 unfold Ov stored;rw[r.any k];by_cases e:(vs.any fun kv=>decide (kv.1=k))=true
 ·rw[if_pos e,if_pos e];exact r.repl k ry
 ·rw[if_neg e,if_neg e];exact xT r ⟨rfl,ry⟩
theorem KV.drop{kvs:List (κ×V)}{vs:List (κ×aH)}(r:KV kvs vs)(k:κ):KV (Abk kvs k) (without vs k):=by
 unfold KV at r ⊢;unfold Abk without;induction r with
 | nil=>exact .nil
 | @cons p q ps qs h t ih=>
  obtain ⟨h1,h2⟩:=h;rw[lN,lN];by_cases e:p.1=k
  ·have a:¬ decide (p.1≠k)=true:=by simp[e]
   have b:¬ decide (q.1≠k)=true:=by simp[h1.symm.trans e]
   rw[if_neg a,if_neg b];exact ih
  ·have e':¬ q.1=k:=fun z=>e (h1.trans z)
   have a:decide (p.1≠k)=true:=by simp[e]
   have b:decide (q.1≠k)=true:=by simp[e']
   rw[if_pos a,if_pos b];exact .cons ⟨h1,h2⟩ ih
theorem KV.keys{kvs:List (κ×V)}{vs:List (κ×aH)}(r:KV kvs vs):kvs.map (·.1)=vs.map (·.1):=by
 unfold KV at r;induction r with
 | nil=>rfl
 | cons h t ih=>rw[aS,aS,ih,h.1]
theorem KV.length{kvs:List (κ×V)}{vs:List (κ×aH)}(r:KV kvs vs):kvs.length=vs.length:=oK r
end
theorem Aja{k:Key}(r:RelV (kV k) u):(Cv P w).is k u=true:=by
 cases k with
 | inl i=>obtain ⟨t,e⟩:=(show ∃ t,u=nA i t from r);subst e;exact W4 P w i t
 | inr x=>obtain ⟨t,e⟩:=(show ∃ t,u=xE x t from r);subst e;exact Xr P w x t
theorem Uy:∀ {ks:List Key} {us:List aH},Vals (ks.map kV) us->ItemsAre (Cv P w) ks us
 | [],_,r=>by rw[bP] at r;cases r;exact .nil
 | k::ks,_,r=>by
  rw[aS] at r;cases r with
  | cons h t=>exact .cons (Aja h) (Uy t)
abbrev KT(H:Hp):List (List Key×V)->List Zc9->Prop:=vV fun p q=>p.1=q.1/\H q.2.1=ξ (.tup (p.1.map kV))/\RelV p.2 q.2.2
variable {xs:List Zc9}{kvs:List (List Key×V)}
theorem KT.val(r:KT H kvs xs)(k:List Key):RelO (Nc kvs k) ((atKey xs k).map (·.2)):=by
 induction r with
 | nil=>exact pQ
 | @cons p q ps qs h t ih=>
  obtain ⟨h1,_,h2⟩:=h;by_cases e:p.1=k
  ·have e':q.1=k:=h1.symm.trans e;have b:atKey (q::qs) k=ξ q.2:=by simp[atKey,dM,e']
   rw[Ta e,b];exact h2
  ·have e':¬ q.1=k:=fun z=>e (h1.trans z)
   have b:atKey (q::qs) k=atKey qs k:=by simp[atKey,dM,e']
   rw[Si e,b];exact ih
theorem KT.repl(r:KT H kvs xs)(k:List Key)(ry:RelV y u) :
  KT H (kvs.map fun kv=>if kv.1=k then (kv.1,y) else kv) (xs.map (putAt k u)):=by
 induction r with
 | nil=>exact .nil
 | @cons p q ps qs h t ih=>
  rw[aS,aS];refine .cons ?_ ih;obtain ⟨h1,h2,h3⟩:=h;unfold putAt;by_cases e:p.1=k
  ·rw[if_pos e,if_pos (h1.symm.trans e)];exact ⟨h1,h2,ry⟩
  ·rw[if_neg e,if_neg (fun z=>e (h1.trans z))];exact ⟨h1,h2,h3⟩
variable {b:Addr}
theorem KT.put(r:KT H kvs xs)(k:List Key)(hb:H b=ξ ZcM)(ry:RelV y u) :
  KT H (Ov kvs k y) (storedH xs k b u):=by
 have e:(kvs.any fun kv=>decide (kv.1=k))=(atKey xs k).isSome:=by
  rw[Rw,(r.val k).isSome_eq,tD]
 unfold Ov storedH;rw[e];by_cases q:(atKey xs k).isSome=true
 ·rw[if_pos q,if_pos q];exact r.repl k ry
 ·rw[if_neg q,if_neg q];exact xT r ⟨rfl,hb,ry⟩
theorem KT.keeps(r:KT H kvs xs)(ht:∀ b ys,H b=ξ (.tup ys)->H' b=ξ (.tup ys)):KT H' kvs xs:=
 Paired.mapP r fun _ _ z=>⟨z.1,ht _ _ z.2.1,z.2.2⟩
section
variable {h:Heap}
theorem Ana{u:HO}(ok:HOk P w H h)(e:Rd H a u):ObjOk P w H h a u:=e.ok ok
theorem Ac8{kvs:List (Key×V)}(ok:HOk P w H h)(e:Rd H a (.dK kvs)):kvs.length<=sizeLine/\(a == sysModules)=false/\∃ vs,KV kvs vs/\h.DictOf (Cv P w) a vs:=
 show ObjOk P w H h a (.dK kvs) from Ana ok e
theorem Ah1{kvs:List (Key×V)}(ok:HOk P w H h)(e:H a=ξ (.dK kvs)):kvs.length<=sizeLine/\(a == sysModules)=false/\∃ vs,KV kvs vs/\h.DictOf (Cv P w) a vs:=Ac8 ok (.inl e)
theorem Aaz{ks:List Key}(ok:HOk P w H h)(e:H a=ξ (.tup (ks.map kV))):(tupleKind (Cv P w)).is h ks a:=by
 obtain ⟨_,its,r,o,h1,h2,n,h3⟩:=(show ObjOk P w H h a (.tup (ks.map kV)) from ok a _ e);exact ⟨o,its.toArray,n,h1,(lY h2).1,h3,by simpa using Uy r⟩
theorem Acy(ok:HOk P w H h)(e:Rd H a (.dT kvs)):kvs.length<=sizeLine/\(a == sysModules)=false /\
  ∃ xs,KT H kvs xs/\h.DictOfH (tupleKind (Cv P w)) a xs:=by
 obtain ⟨z,y,xs,r,o,es,ep,h1,h2,h3,h4,h5⟩:=(show ObjOk P w H h a (.dT kvs) from Ana ok e);refine ⟨z,y,xs,r,o,es,ep,h1,h2,h3,h4,fun x hx=>?_,h5⟩;have all:∀ {l:List (List Key×V)} {m:List Zc9},KT H l m->∀ x∈m,(tupleKind (Cv P w)).is h x.1 x.2.1:=by
  intro l m q;induction q with
  | nil=>intro x hx;exact nomatch hx
  | @cons p q ps qs hq t ih=>
   intro x hx;rcases bG.mp hx with e | hx
   ·subst e;exact Aaz ok (by rw[<- hq.1];exact hq.2.1)
   ·exact ih x hx
 exact all r x hx
theorem Aqs(ok:HOk P w H h)(e:H a=ξ (.dT kvs)):kvs.length<=sizeLine/\(a == sysModules)=false /\
  ∃ xs,KT H kvs xs/\h.DictOfH (tupleKind (Cv P w)) a xs:=Acy ok (.inl e)
end
def DGet(H:Hp)(a:Addr)(y:V)(r:Option V):Prop:=
 (∃ kvs k,Rd H a (.dK kvs)/\y=kV k/\r=Nc kvs k)\/∃ kvs k b,Rd H a (.dT kvs)/\y = .ref b/\H b=ξ ZcM/\r=Nc kvs k
def DPut(H:Hp)(a:Addr)(y v:V)(H':Hp):Prop:=
 (∃ kvs k,H a=ξ (.dK kvs)/\y=kV k/\kvs.length < sizeLine/\H'=upd H a (.dK (Ov kvs k v))) \/
 ∃ kvs k b,H a=ξ (.dT kvs)/\y = .ref b/\H b=ξ ZcM/\kvs.length < sizeLine/\H'=upd H a (.dT (Ov kvs k v))
theorem DGet.k{kvs:List (Key×V)}{k:Key}(e:H a=ξ (.dK kvs)):DGet H a (kV k) (Nc kvs k):=.inl ⟨kvs,k,.inl e,rfl,rfl⟩
theorem DGet.t{k:List Key}(e:H a=ξ (.dT kvs))(eb:H b=ξ ZcM):DGet H a (.ref b) (Nc kvs k):=.inr ⟨kvs,k,b,.inl e,rfl,eb,rfl⟩
variable {v:V}
theorem DPut.k{kvs:List (Key×V)}{k:Key}(e:H a=ξ (.dK kvs))(hl:kvs.length < sizeLine):DPut H a (kV k) v (upd H a (.dK (Ov kvs k v))):=.inl ⟨kvs,k,e,rfl,hl,rfl⟩
theorem DPut.t{k:List Key}(e:H a=ξ (.dT kvs))(eb:H b=ξ ZcM)(hl:kvs.length < sizeLine) :
  DPut H a (.ref b) v (upd H a (.dT (Ov kvs k v))):=.inr ⟨kvs,k,b,e,rfl,eb,hl,rfl⟩
variable {A:eE}{pins:List (Addr×Obj)}{σ:St}{s:aR}{E:aH->aR->Prop}
section
variable {r:aH}
theorem Inv.big(I:Inv X pins σ H s):sysModules < s.heap.objs.size:=by
 have h:dD < s.heap.objs.size:=(I.mod.glob.keeps I.bk).lt;exact Nat.lt_trans Zb h
theorem Aec{Q:aH->aR->Prop}(hu:A.units+1 < cLine)(I:Inv X pins σ H s)(g:DGet H a y (ξ v))(ry:RelV y u)(h:∀ w' s',Inv X pins σ H s'->RelV v w'->Q w' s') :
  wpAny Zg A (getItem (.ref a) u) Q E s:=by
 rcases g with ⟨kvs,k,e,ey,l⟩ | ⟨kvs,k,b,e,ey,eb,l⟩
 ·subst ey;obtain ⟨z,hd,vs,rel,dd⟩:=Ac8 I.hok e;obtain ⟨w',hw,rw'⟩:=RelO.some_of (v:=v) (o:=valueAt vs k) (by rw[l];exact rel.val k);exact wpAny_getItem_of (Aja ry) dd.mapOf hw (h w' _ (I.tok _) rw')
 ·subst ey;cases (show u=gU b from ry);obtain ⟨z,hd,xs,rel,dd⟩:=Acy I.hok e;obtain ⟨w',hw,rw'⟩:=RelO.some_of (v:=v) (o:=(atKey xs k).map (·.2)) (by rw[l];exact rel.val k);obtain ⟨p,hp,hp2⟩:=aJ.mp hw;refine wpAny_getItem_heap (sP hu) (Aaz I.hok eb) dd hp ?_;rw[hp2];exact h w' _ (I.tok _) rw'
theorem Abq{h':Heap}{t':Nat}{ob:HO}(I:Inv X pins σ H s)(mu:Mut (H a))(hs:mV a s.heap h')(he:∃ q,h'.get? a=ξ q)(new:ObjOk X.prog X.w (upd H a ob) h' a ob) :
  Inv X pins σ (upd H a ob) { s with heap:=h',toks:=t' }:=
 I.write (x:=a) (e:=a) mu (.inl rfl) (fun b q hb z=>(hs.2 b hb).trans z) he new
theorem Anu{h':Heap}{kvs:List (Key×V)}{vs:List (Key×aH)}(z:kvs.length<=sizeLine)(hd:(a == sysModules)=false)(rel:KV kvs vs)(dd:h'.DictOf (Cv P w) a vs) :
  ObjOk P w H' h' a (.dK kvs):=⟨z,hd,vs,rel,dd⟩
theorem Adw{Q:Unit->aR->Prop}(hu:A.units+1 < cLine)(I:Inv X pins σ H s)(g:DPut H a y v H')(ry:RelV y u)(rv:RelV v r)(h:∀ s',Inv X pins σ H' s'->Q () s') :
  wpAny Zg A (setItem (.ref a) u r) Q E s:=by
 rcases g with ⟨kvs,k,e,ey,l,eH⟩ | ⟨kvs,k,b,e,ey,eb,l,eH⟩
 ·subst ey eH;obtain ⟨z,hd,vs,rel,dd⟩:=Ah1 I.hok e;have hz:vs.length<=sizeLine:=by rw[<- rel.length];exact z
  have hl:(Ov kvs k v).length<=sizeLine:=by have:=Qd kvs k v;omega
  refine wpAny_setItem_pairs (hsz:=hz) (Aja ry) dd fun h' dd' hs=>h _ ?_
  have he:∃ q,h'.get? a=ξ q:=let ⟨q,_,_,hq,_⟩:=dd';⟨q,hq⟩
  exact Abq I (by rw[e];exact pQ) hs he (Anu hl hd (rel.put k rv) dd')
 ·subst ey eH;cases (show u=gU b from ry);obtain ⟨z,hd,xs,rel,dd⟩:=Aqs I.hok e;have hz:xs.length<=sizeLine:=by rw[<- oK rel];exact z
  have hl:(Ov kvs k v).length<=sizeLine:=by have:=Qd kvs k v;omega
  refine wpAny_setItem_heap (hsz:=hz) (sP hu) (Aaz I.hok eb) dd fun h' dd' hs=>h _ ?_
  obtain ⟨q,es,ep,hq,h2,h3,h4,_,h5⟩:=dd';refine Abq I (by rw[e];exact pQ) hs ⟨q,hq⟩ ⟨hl,hd,_,(rel.put k eb rv).keeps fun c ys ec=>?_,q,es,ep,hq,h2,h3,h4,h5⟩;rw[Aw (Ki ec e (fun z=>nomatch z))];exact ec
end
section
variable {kvs:List (Key×V)}{k:Key}
end
def Ao5(i:Expr):Prop:=∀ ov iv,subscripted i false ov iv=operate [ov,iv] (getItem ov iv)
variable {pos:Pos}
theorem Alz{prog:cO}{env:Env}{value slice:Expr}{T id:String}{Q:aH->aR->Prop}
  (hl:typeLookup (.type T) "__getitem__" = pure (ξ Zbr)) (hs:Ao5 slice)
  (h:wpAny Zw A (eval value env) (fun o s₁=>wpAny Zw A (eval slice env) (fun i s₂=>s₂.TypeIs o T/\wpAny Zw A (getItem o i) Q E s₂) E s₁) E s) :
  wpAny Zw A (eval (.Subscript value slice pos) env) Q E s:=by
 refine sN (dG h (fun o s₁ h₁=>dG h₁ (fun i s₂ h₂=>?_) fun _ _ x=>x) fun _ _ x=>x);obtain ⟨hT,h₂⟩:=h₂;unfold subscriptTail;refine aD ?_;rw[getitemInPython_of_ne hT.not_modules];refine aD (qN hT hl ?_);have fin:wpAny Zw A (subscripted slice false o i) (fun r s₃=>wpAny Zw A (letTemporaryGo value o r >>= fun _=>pure r) Q E s₃) E s₂:=by
  rw[hs o i];exact wpAny_operating (dG h₂ (fun r s₃ h₃=>aD (wpAny_letTemporaryGo (aW h₃))) fun _ _ x=>x)
 first
  | exact aW (aD fin)
  | exact aD (aW (aD fin))
  | exact aD fin
theorem X3(I:Inv X pins σ H s)(g:DGet H a y o):s.TypeIs (.ref a) "dict" := by
 rcases g with ⟨kvs,k,e,_,_⟩ | ⟨kvs,k,b,e,_,_,_⟩
 ·obtain ⟨_,_,vs,_,dd⟩:=Ac8 I.hok e;exact dd.typeIs
 ·obtain ⟨_,_,xs,_,dd⟩:=Acy I.hok e;exact dd.typeIs
def Arf(td ty:TE):TE:=fun σ H Q=>td σ H fun x H1=>ty σ H1 fun y H2=>∃ a v,x = .ref a/\DGet H2 a y (ξ v)/\Q v H2
def Arc(td ty tv:TE):TS:=fun D σ H=>tv σ H fun v H1=>td σ H1 fun x H2=>ty σ H2 fun y H3=>∃ a H4,x = .ref a/\DPut H3 a y v H4/\D.nx σ H4
section
variable {o i e value:Expr}{pos' tpos:Pos}{td ty tv:TE}
theorem Ajg(hu:X.A.units+1 < cLine)(ho:PE X o td)(hi:PE X i ty)(hs:Ao5 i):PE X Zbw (Arf td ty):=by
 intro pins s σ H Q I h;refine Alz PySem.F.slot_dict_getitem.lookup hs (thn (ho pins s σ H _ I h) fun u s1 zz=>zz.elim fun x H1 I1 rx q1=>thn (hi pins s1 σ H1 _ I1 q1) fun iv s2 zz=>zz.elim fun y H2 I2 ry zq=>?_);obtain ⟨a,v,ex,g,q2⟩:=zq;subst ex;obtain rfl:u=gU a:=rx;exact ⟨X3 I2 g,Aec hu I2 g ry fun w' s3 I3 rw'=>⟨v,H2,I3,rw',q2⟩⟩
theorem Ajw(hu:X.A.units+1 < cLine)(ho:PE X o td)(hi:PE X i ty)(hv:PE X value tv)(hs:swapsWith value (ξ (.Subscript o i pos')) pos.line X.env=pure false) :
  PS X (.Assign [.Subscript o i pos'] value pos) (Arc td ty tv):=by
 intro pins s σ H D I h;refine wpAny_Assign_Subscript (thn (hv pins s σ H _ I h) fun r s1 zz=>zz.elim fun v H1 I1 rv q1=>thn (ho pins s1 σ H1 _ I1 q1) fun u s2 zz=>zz.elim fun x H2 I2 rx q2=>thn (hi pins s2 σ H2 _ I2 q2) fun iv s3 zz=>zz.elim fun y H3 I3 ry zq=>?_) hs;obtain ⟨a,H4,ex,g,q3⟩:=zq;subst ex;obtain rfl:u=gU a:=rx;exact Adw hu I3 g ry rv fun s4 I4=>⟨σ,H4,I4,q3⟩
end
theorem Agx(h:Heap)(hb:sysModules < h.objs.size):ObjOk P w H (h.push { cls:=.type "dict",data:=.dict #[] }) h.objs.size (.dK []):=
 ⟨dW _,beq_eq_false_iff_ne.mpr (fN (cB hb)),[],.nil,Heap.DictOf.new h⟩
def Apj:TE:=fun _ H Q=>∀ p,H p=ψ->Q (.ref p) (upd H p (.dK []))
section
theorem Ags:PE X (.Dict [] [] pos) Apj:=fun pins s σ H Q I h=>
 wpAny_Dict_empty ⟨.ref s.heap.objs.size,_,I.laid (a:=s.heap.objs.size) (o:=.dK []) (t':=s.toks) (fun _ _ q=>aG _ q) (aP _) (Agx s.heap I.big),rfl,h _ Zbx⟩
end
structure M1(X:Cx)(o:Expr)(m:Str)(apos:Pos)(e:Expr)(cpos:Pos):Prop where
 base:attributeBase o m X.env Zci=eval o X.env
 few:((backTo cpos (bK [e] X.env)).all (fun x=>!x.1)&&(backToKw cpos ZbT).all Zcs
  && decide (([e]:List Expr).length+([]:List kD).length+(if ([]:List kD).isEmpty then 0 else 1) < 30))=true
 line:(apos.endLine == cpos.line)=true
 trees:backTo cpos (bK [e] X.env)=[ZQ]
structure M2(X:Cx)(o:Expr)(m:Str)(apos:Pos)(e f:Expr)(cpos:Pos):Prop where
 base:attributeBase o m X.env Zci=eval o X.env
 few:((backTo cpos (bK [e,f] X.env)).all (fun x=>!x.1)&&(backToKw cpos ZbT).all Zcs
  && decide (([e,f]:List Expr).length+([]:List kD).length+(if ([]:List kD).isEmpty then 0 else 1) < 30))=true
 line:(apos.endLine == cpos.line)=true
 trees:backTo cpos (bK [e,f] X.env)=[ZQ,(false,eval f X.env)]
def IsD(H:Hp)(a:Addr):Prop:=(∃ kvs,Rd H a (.dK kvs))\/∃ kvs,Rd H a (.dT kvs)
theorem Apa(I:Inv X pins σ H s)(d:IsD H a) :
  s.TypeIs (.ref a) "dict" /\ (∀ b,gU a = .ref b->∃ ob,s.heap.get? b=ξ ob/\ob.dict=ψ)/\(a == sysModules)=false:=by
 rcases d with ⟨kvs,e⟩ | ⟨kvs,e⟩
 ·obtain ⟨_,hd,vs,_,dd⟩:=Ac8 I.hok e;refine ⟨dd.typeIs,fun b q=>?_,hd⟩;cases q;obtain ⟨ob,_,_,h1,h2,_⟩:=dd;exact ⟨ob,h1,h2.2.1⟩
 ·obtain ⟨_,hd,xs,_,dd⟩:=Acy I.hok e;refine ⟨dd.typeIs,fun b q=>?_,hd⟩;cases q;obtain ⟨ob,_,_,h1,h2,_⟩:=dd;exact ⟨ob,h1,h2.2.1⟩
section
variable {d:V}{r:aH}
end
section
variable {o e f:Expr}{apos cpos:Pos}{td ty tx:TE}
end
section
variable {kvs:List (Key×V)}
end
end L2
namespace MR
open PySem PySem.Spec PyProof.Rows L2
inductive U where
 | non | bl (b:Bool) | int (i:Int) | str (x:Str) | tup (l:List U) | ref (n:Nat)
inductive HU where
 | lst (xs:List U) | ro (xs:List U) | dic (kvs:List (Key×U)) | rod (kvs:List (Key×U)) | ins (C:Str) (fs:List (Str×U)) | exc (C:Str) (fr:Bool) (fs:List (Str×U))
noncomputable abbrev UH:=List HU
noncomputable abbrev UE:=List (Option U)
section
variable (K:aL)(H:Hp)(α:List Addr)
mutual
def RepU:U->V->Prop
 | .non,v=>v = .non
 | .bl b,v=>v = .bl b
 | .int i,v=>v = .int i
 | .str x,v=>v = .str x
 | .tup l,v=>∃ a xs,v = .ref a/\SqT K H a xs/\RepL l xs
 | .ref n,v=>∃ a,α[n]? = ξ a/\v = .ref a
def RepL:List U->List V->Prop
 | [],xs=>xs=[]
 | u::l,xs=>∃ x r,xs=x::r/\RepU u x/\RepL l r
end
end
noncomputable def Fx:List Str:=["first_heaviest","turns_from_the_highest"]
noncomputable def Me(nm:Str):Str:=nm++(".<locals>." : Str)++("<lambda>" : Str)
def LCode(H:Hp)(q:Str)(cv:aH):Prop:=∃ c oc vs t,cv = .ref c/\H c=ξ (.frz oc (.ext fun _=>True))/\oc.data = .fields vs/\vs[1]? = ξ (.str q t)
def GoodTab(H:Hp)(P:Addr)(q:Str):Prop:=∃ ps,H P=ξ (.tbl ps)/\tQ ps.toList/\∀ pos cv,codeAmong pos ps.toList=ξ cv->LCode H q cv
variable {H H':Hp}
theorem GoodTab.keep{P:Addr}{q:Str}(hf:∀ b o u,H b=ξ (.frz o u)->H' b=ξ (.frz o u))(ht:∀ ps,H P=ξ (.tbl ps)->H' P=ξ (.tbl ps))(h:GoodTab H P q):GoodTab H' P q:=by
 obtain ⟨ps,e,tr,g⟩:=h;refine ⟨ps,ht ps e,tr,fun pos cv ec=>?_⟩;obtain ⟨c,oc,vs,t,e1,e2,r⟩:=g pos cv ec;exact ⟨c,oc,vs,t,e1,hf _ _ _ e2,r⟩
def Stay(H H':Hp):Prop:=(∀ b xs,H b=ξ (.tup xs)->H' b=ξ (.tup xs))/\∀ b o u,H b=ξ (.frz o u)->H' b=ξ (.frz o u)
theorem Stay.refl(H:Hp):Stay H H:=⟨fun _ _ q=>q,fun _ _ _ q=>q⟩
variable {H1 H2:Hp}
theorem Stay.trans(a:Stay H H1)(b:Stay H1 H2):Stay H H2:=⟨fun c xs q=>b.1 c xs (a.1 c xs q),fun c o u q=>b.2 c o u (a.2 c o u q)⟩
variable {K:aL}{a:Addr}{xs:List V}
theorem Stay.sqT(e:Stay H H')(h:SqT K H a xs):SqT K H' a xs:=by
 rcases h with (h | ⟨o,h⟩) | h
 ·exact .inl (.inl (e.1 _ _ h))
 ·exact .inl (.inr ⟨o,e.2 _ _ _ h⟩)
 ·exact .inr h
variable {p:Addr}
theorem Stay.new(h:H p=ψ)(o:HO):Stay H (upd H p o):=⟨fun b u q=>by rw[Aw (Bc q h)];exact q,fun b o u q=>by rw[Aw (Bc q h)];exact q⟩
variable {o:HO}
theorem Stay.write(h:H p=ξ o)(m:Mut (ξ o))(o':HO):Stay H (upd H p o'):=
 ⟨fun b u q=>by rw[Aw Zce];exact q,fun b w u q=>by rw[Aw Zce];exact q⟩
theorem Qy(h:H p=ψ)(o:HO):∀ b ps,H b=ξ (.tbl ps)->upd H p o b=ξ (.tbl ps):=fun b u q=>by rw[Aw (Bc q h)];exact q
theorem Adx(h:H p=ξ o)(m:Mut (ξ o))(o':HO):∀ b ps,H b=ξ (.tbl ps)->upd H p o' b=ξ (.tbl ps):=fun b u q=>by rw[Aw Zce];exact q
structure Gr(H:Hp)(α:List Addr)(H':Hp)(α':List Addr):Prop where
 pre:∃ β,α' = α ++ β
 st:Stay H H'
theorem Gr.refl(H:Hp)(α:List Addr):Gr H α H α:=⟨⟨[],Za⟩,.refl H⟩
variable {α:List Addr}
theorem Gr.trans{α1 α2:List Addr}(a:Gr H α H1 α1)(b:Gr H1 α1 H2 α2):Gr H α H2 α2:=by
 obtain ⟨⟨β,e⟩,s⟩:=a;obtain ⟨⟨γ,e'⟩,s'⟩:=b;exact ⟨⟨β ++ γ,by rw[e',e,bM]⟩,s.trans s'⟩
variable {α':List Addr}{n:Nat}
theorem Gr.at(g:Gr H α H' α')(h:α[n]? = ξ a):α'[n]? = ξ a:=by
 obtain ⟨β,e⟩:=g.pre;have hn:n < α.length:=(aI.mp h).1;rw[e,bC hn];exact h
variable {l:List U}{i:Nat}{u:U}
section
mutual
theorem RepU.mono(g:Gr H α H' α'):∀ (u:U) (v:V),RepU K H α u v->RepU K H' α' u v
 | .non,_,h=>h
 | .bl _,_,h=>h
 | .int _,_,h=>h
 | .str _,_,h=>h
 | .tup l,v,h=>by
  unfold RepU at h ⊢;obtain ⟨a,xs,e,s,r⟩:=h;exact ⟨a,xs,e,g.st.sqT s,RepL.mono g l xs r⟩
 | .ref n,v,h=>by
  unfold RepU at h ⊢;obtain ⟨a,e,q⟩:=h;exact ⟨a,g.at e,q⟩
theorem RepL.mono(g:Gr H α H' α'):∀ (l:List U) (xs:List V),RepL K H α l xs->RepL K H' α' l xs
 | [],xs,h=>h
 | u::l,xs,h=>by
  unfold RepL at h ⊢;obtain ⟨x,r,e,h1,h2⟩:=h;exact ⟨x,r,e,RepU.mono g u x h1,RepL.mono g l r h2⟩
end
theorem RepL.length:∀ {l:List U} {xs:List V},RepL K H α l xs->l.length=xs.length
 | [],xs,h=>by unfold RepL at h;subst h;rfl
 | u::l,xs,h=>by
  unfold RepL at h;obtain ⟨x,r,e,_,h2⟩:=h;subst e;simp[RepL.length h2]
theorem RepL.get:∀ {l:List U} {xs:List V} {i:Nat} {u:U},RepL K H α l xs->l[i]? = ξ u->∃ x,xs[i]? = ξ x/\RepU K H α u x
 | [],xs,i,u,h,e=>by simp at e
 | w::l,xs,i,u,h,e=>by
  unfold RepL at h;obtain ⟨x,r,e',h1,h2⟩:=h;subst e';cases i with
  | zero=>simp at e;subst e;exact ⟨x,rfl,h1⟩
  | succ i=>simpa using RepL.get (i:=i) h2 (by simpa using e)
theorem RepL.get'{x:V}(h:RepL K H α l xs)(e:xs[i]? = ξ x):∃ u,l[i]? = ξ u/\RepU K H α u x:=by
 have hi:i < l.length:=by rw[h.length];exact (aI.mp e).1
 obtain ⟨y,e2,r⟩:=h.get (aE hi);rw[e] at e2;cases e2;exact ⟨_,aE hi,r⟩
theorem RepL.nil:RepL K H α [] []:=by unfold RepL;rfl
theorem RepL.cons{x:V}(h:RepU K H α u x)(t:RepL K H α l xs):RepL K H α (u::l) (x::xs):=by
 unfold RepL;exact ⟨x,xs,rfl,h,t⟩
theorem RepL.append:∀ {l l':List U} {xs ys:List V},RepL K H α l xs->RepL K H α l' ys->RepL K H α (l++l') (xs++ys)
 | [],l',xs,ys,h,t=>by unfold RepL at h;subst h;exact t
 | u::l,l',xs,ys,h,t=>by
  unfold RepL at h;obtain ⟨x,r,e,h1,h2⟩:=h;subst e;exact .cons h1 (RepL.append h2 t)
theorem RepL.take:∀ {l:List U} {xs:List V} (n:Nat),RepL K H α l xs->RepL K H α (l.take n) (xs.take n)
 | [],xs,n,h=>by unfold RepL at h;subst h;simp[RepL.nil]
 | u::l,xs,0,h=>by simp[RepL.nil]
 | u::l,xs,n+1,h=>by
  unfold RepL at h;obtain ⟨x,r,e,h1,h2⟩:=h;subst e;exact .cons h1 (RepL.take n h2)
theorem RepL.drop:∀ {l:List U} {xs:List V} (n:Nat),RepL K H α l xs->RepL K H α (l.drop n) (xs.drop n)
 | [],xs,n,h=>by unfold RepL at h;subst h;simp[RepL.nil]
 | u::l,xs,0,h=>h
 | u::l,xs,n+1,h=>by
  unfold RepL at h;obtain ⟨x,r,e,h1,h2⟩:=h;subst e;exact RepL.drop n h2
theorem RepL.set{x:V}(q:RepU K H α u x):∀ {l:List U} {xs:List V} (n:Nat),RepL K H α l xs->RepL K H α (l.set n u) (xs.set n x)
 | [],xs,n,h=>by unfold RepL at h;subst h;exact .nil
 | w::l,xs,0,h=>by
  unfold RepL at h;obtain ⟨y,r,e,h1,h2⟩:=h;subst e;exact .cons q h2
 | w::l,xs,n+1,h=>by
  unfold RepL at h;obtain ⟨y,r,e,h1,h2⟩:=h;subst e;exact .cons h1 (RepL.set q n h2)
theorem RepL.erase:∀ {l:List U} {xs:List V} (n:Nat),RepL K H α l xs->RepL K H α (l.eraseIdx n) (xs.eraseIdx n)
 | [],xs,n,h=>by unfold RepL at h;subst h;exact .nil
 | w::l,xs,0,h=>by
  unfold RepL at h;obtain ⟨y,r,e,h1,h2⟩:=h;subst e;exact h2
 | w::l,xs,n+1,h=>by
  unfold RepL at h;obtain ⟨y,r,e,h1,h2⟩:=h;subst e;exact .cons h1 (RepL.erase n h2)
theorem RepL.reverse:∀ {l:List U} {xs:List V},RepL K H α l xs->RepL K H α l.reverse xs.reverse
 | [],xs,h=>by unfold RepL at h;subst h;exact .nil
 | w::l,xs,h=>by
  unfold RepL at h;obtain ⟨y,r,e,h1,h2⟩:=h;subst e;rw[eJ,eJ];exact (RepL.reverse h2).append (.cons h1 .nil)
theorem RepL.ints:∀ (ns:List Int),RepL K H α Z4 ZG
 | []=>.nil
 | n::r=>.cons rfl (RepL.ints r)
end
def RO(K:aL)(H:Hp)(a:Addr)(xs:List V):Prop:=
 (∃ o,H a=ξ ZdA)\/∃ (o:Obj) (its:Array aH) (n:Nat),K.lookup a=ξ o/\o.cls = .type "list" /\ o.dict=ψ/\o.data = .seq its n/\its.size<=sizeLine/\Vals xs its.toList
theorem RO.sq(h:RO K H a xs):SqL K H a xs:=by
 rcases h with ⟨o,h⟩ | h
 ·exact .inl (.inr ⟨o,h⟩)
 ·exact .inr h
theorem RO.stay(st:Stay H H')(h:RO K H a xs):RO K H' a xs:=by
 rcases h with ⟨o,h⟩ | h
 ·exact .inl ⟨o,st.2 _ _ _ h⟩
 ·exact .inr h
def Aqz(a Ca:Addr)(dd:Option Addr)(fr:Bool)(h:Heap):Prop:=∃ (o:Obj) (vs:Array aH),h.get? a=ξ o/\o.cls = .ref Ca/\o.dict=dd/\o.data = .fields vs/\1 < vs.size/\o.slots=#[]/\(fr=true->vs[1]? = ξ .none)
def DictIs(H:Hp)(dd:Option Addr)(vs:List (Str×V)):Prop:=match dd with
 | none=>vs=[]
 | some dx=>vs≠[]/\∃ od,H dx=ξ (.frz od (.xd vs))
theorem DictIs.stay{dd:Option Addr}{vs:List (Str×V)}(st:∀ b o ws,H b=ξ (.frz o (.xd ws))->H' b=ξ (.frz o (.xd ws)))(h:DictIs H dd vs):DictIs H' dd vs:=by
 cases dd with
 | none=>exact h
 | some dx=>obtain ⟨ne,od,q⟩:=h;exact ⟨ne,od,st _ _ _ q⟩
def HRep(K:aL)(H:Hp)(α:List Addr)(a:Addr):HU->Prop
 | .lst us=>∃ xs,H a=ξ (.lst xs)/\RepL K H α us xs
 | .ro us=>∃ xs,RO K H a xs/\RepL K H α us xs
 | .dic kvs=>∃ vs,H a=ξ (.dK vs)/\kvs.map (·.1)=vs.map (·.1)/\RepL K H α (kvs.map (·.2)) (vs.map (·.2))
 | .rod kvs=>∃ o vs,H a=ξ (.frz o (.dK vs))/\kvs.map (·.1)=vs.map (·.1)/\RepL K H α (kvs.map (·.2)) (vs.map (·.2))
 | .ins C fs=>∃ Ca dx vs,kT K dD C=ξ (ξ (.ref Ca))/\H a=ξ (.ins Ca dx vs)/\fs.map (·.1)=vs.map (·.1)/\RepL K H α (fs.map (·.2)) (vs.map (·.2))
 | .exc C fr fs=>∃ Ca dd vs,kT K dD C=ξ (ξ (.ref Ca))/\H a=ξ (.ext (Aqz a Ca dd fr))/\DictIs H dd vs/\fs.map (·.1)=vs.map (·.1)/\RepL K H α (fs.map (·.2)) (vs.map (·.2))
noncomputable def HU.isRo:HU->Bool
 | .ro _=>true
 | _=>false
structure Abs(K:aL)(H:Hp)(α:List Addr)(L:UH):Prop where
 len:α.length=L.length
 inj:∀ (i j:Nat) (a:Addr) (o o':HU),α[i]? = ξ a->α[j]? = ξ a->L[i]? = ξ o->L[j]? = ξ o'->i=j\/o.isRo=true\/o'.isRo=true
 rep:∀ (i:Nat) (a:Addr) (o:HU),α[i]? = ξ a->L[i]? = ξ o->HRep K H α a o
 tab:∀ nm∈Fx,∀ c P,dJ K nm=ξ (c,P)->GoodTab H P (Me nm)
variable {L:UH}
theorem Abs.tabs(A:Abs K H α L)(g:Stay H H')(ht:∀ b ps,H b=ξ (.tbl ps)->H' b=ξ (.tbl ps)):∀ nm∈Fx,∀ c P,dJ K nm=ξ (c,P)->GoodTab H' P (Me nm):=fun nm h c P e=>(A.tab nm h c P e).keep g.2 (ht P)
theorem Abs.addr(A:Abs K H α L){o:HU}(h:L[n]? = ξ o):∃ a,α[n]? = ξ a/\HRep K H α a o:=by
 have hn:n < α.length:=by rw[A.len];exact (aI.mp h).1
 exact ⟨α[n],aE hn,A.rep n _ o (aE hn) h⟩
theorem HRep.other{o:HU}(g:Gr H α H' α')(hs:o.isRo=true\/∀ u,H a=ξ u->H' a=ξ u)(h:HRep K H α a o):HRep K H' α' a o:=by
 cases o with
 | lst us=>obtain ⟨xs,e,r⟩:=h;exact ⟨xs,(hs.resolve_left (by simp[HU.isRo])) _ e,r.mono g⟩
 | ro us=>obtain ⟨xs,e,r⟩:=h;exact ⟨xs,e.stay g.st,r.mono g⟩
 | dic kvs=>obtain ⟨vs,e,k,r⟩:=h;exact ⟨vs,(hs.resolve_left (by simp[HU.isRo])) _ e,k,r.mono g⟩
 | rod kvs=>obtain ⟨o,vs,e,k,r⟩:=h;exact ⟨o,vs,(hs.resolve_left (by simp[HU.isRo])) _ e,k,r.mono g⟩
 | ins C fs=>obtain ⟨Ca,dx,vs,n,e,k,r⟩:=h;exact ⟨Ca,dx,vs,n,(hs.resolve_left (by simp[HU.isRo])) _ e,k,r.mono g⟩
 | exc C fr fs=>obtain ⟨Ca,dd,vs,n,e,d,k,r⟩:=h;exact ⟨Ca,dd,vs,n,(hs.resolve_left (by simp[HU.isRo])) _ e,d.stay fun b o ws q=>g.st.2 b o _ q,k,r.mono g⟩
theorem HRep.some{o:HU}(h:HRep K H α a o)(n:o.isRo=false):∃ u,H a=ξ u:=by
 cases o with
 | lst us=>obtain ⟨xs,e,r⟩:=h;exact ⟨_,e⟩
 | ro us=>simp[HU.isRo] at n
 | dic kvs=>obtain ⟨vs,e,k,r⟩:=h;exact ⟨_,e⟩
 | rod kvs=>obtain ⟨o,vs,e,k,r⟩:=h;exact ⟨_,e⟩
 | ins C fs=>obtain ⟨Ca,dx,vs,n',e,k,r⟩:=h;exact ⟨_,e⟩
 | exc C fr fs=>obtain ⟨Ca,dd,vs,n',e,k,r⟩:=h;exact ⟨_,e⟩
theorem Abs.new{u:HU}(A:Abs K H α L)(hp:H p=ψ)(hr:HRep K (upd H p o) (α ++ [p]) p u) :
  Abs K (upd H p o) (α ++ [p]) (L++[u])/\Gr H α (upd H p o) (α ++ [p]):=by
 have g:Gr H α (upd H p o) (α ++ [p]):=⟨⟨[p],rfl⟩,.new hp o⟩;have hl:=A.len;refine ⟨⟨by simp[hl],fun i j a o1 o2 e1 e2 e3 e4=>?_,fun i a o1 e1 e2=>?_,A.tabs g.st (Qy hp o)⟩,g⟩
 ·have fresh:∀ (k:Nat) (o3:HU),α[k]? = ξ p->L[k]? = ξ o3->o3.isRo=true:=fun k o3 q1 q2=>by
   cases hh:o3.isRo with
   | true=>rfl
   | false=>
    obtain ⟨u3,q⟩:=(A.rep k p o3 q1 q2).some hh;rw[hp] at q;cases q
  by_cases hi:i < α.length
  ·rw[bC hi] at e1;rw[bC Ze] at e3;by_cases hj:j < α.length
   ·rw[bC hj] at e2;rw[bC Ze] at e4;exact A.inj i j a o1 o2 e1 e2 e3 e4
   ·rw[bX Ze] at e2;have:a=p:=by
     cases hk:j - α.length with
     | zero=>rw[hk] at e2;simp at e2;exact e2.symm
     | succ k=>rw[hk] at e2;simp at e2
    subst this;exact .inr (.inl (fresh i o1 e1 e3))
  ·rw[bX Ze] at e1;have hia:a=p/\i = α.length:=by
    cases hk:i - α.length with
    | zero=>rw[hk] at e1;simp at e1;exact ⟨e1.symm,Ze⟩
    | succ k=>rw[hk] at e1;simp at e1
   obtain ⟨rfl,hi'⟩:=hia;by_cases hj:j < α.length
   ·rw[bC hj] at e2;rw[bC Ze] at e4;exact .inr (.inr (fresh j o2 e2 e4))
   ·rw[bX Ze] at e2;have:j = α.length:=by
     cases hk:j - α.length with
     | zero=>omega
     | succ k=>rw[hk] at e2;simp at e2
    exact .inl Ze
 ·by_cases hi:i < α.length
  ·rw[bC hi] at e1;rw[bC Ze] at e2;refine (A.rep i a o1 e1 e2).other g ?_;exact .inr fun u3 q=>by rw[Aw (Bc q hp)];exact q
  ·rw[bX Ze] at e1;rw[bX Ze] at e2;have h1:i - α.length=0:=by
    cases hk:i - α.length with
    | zero=>rfl
    | succ k=>rw[hk] at e1;simp at e1
   rw[h1] at e1;rw[show i - L.length=0 by omega] at e2;simp at e1 e2;subst e1;subst e2;exact hr
theorem Abs.put{o0:HO}{u0 u:HU}(A:Abs K H α L)(hn:α[n]? = ξ p)(hL:L[n]? = ξ u0)(hro:u0.isRo=false)(hro':u.isRo=false)(hp:H p=ξ o0)(hm:Mut (ξ o0))(hr:HRep K (upd H p o) α p u) :
  Abs K (upd H p o) α (L.set n u)/\Gr H α (upd H p o) α:=by
 have g:Gr H α (upd H p o) α:=⟨⟨[],Za⟩,.write hp hm o⟩;have hl:=A.len;have hlt:n < L.length:=(aI.mp hL).1;have look:∀ (i:Nat) (o1:HU),(L.set n u)[i]? = ξ o1->∃ o2,L[i]? = ξ o2/\o2.isRo=o1.isRo/\(i≠n->o2=o1):=fun i o1 e=>by
  by_cases hi:n=i
  ·subst hi;rw[bI hlt] at e;cases e;exact ⟨u0,hL,by rw[hro,hro'],fun z=>absurd rfl z⟩
  ·rw[bF hi] at e;exact ⟨o1,e,rfl,fun _=>rfl⟩
 refine ⟨⟨by simp[hl],fun i j a o1 o2 e1 e2 e3 e4=>?_,fun i a o1 e1 e2=>?_,A.tabs g.st (Adx hp hm o)⟩,g⟩
 ·obtain ⟨x1,q1,r1,_⟩:=look i o1 e3;obtain ⟨x2,q2,r2,_⟩:=look j o2 e4;rw[<- r1,<- r2];exact A.inj i j a x1 x2 e1 e2 q1 q2
 ·by_cases hi:n=i
  ·subst hi;rw[bI hlt] at e2;cases e2;rw[hn] at e1;cases e1;exact hr
  ·rw[bF hi] at e2;refine (A.rep i a o1 e1 e2).other g ?_;by_cases hap:a=p
   ·subst hap;rcases A.inj i n a o1 u0 e1 hn e2 hL with z | z | z
    ·exact absurd z.symm hi
    ·exact .inl z
    ·rw[hro] at z;cases z
   ·exact .inr fun u3 q=>by rw[Aw hap];exact q
structure RepS(K:aL)(H:Hp)(α:List Addr)(δ:UE)(σ:L2.St):Prop where
 len:δ.length = σ.length
 at_:∀ (i:Nat) (u:U),δ[i]? = ξ (ξ u)->∃ v,σ[i]? = ξ (ξ v)/\RepU K H α u v
variable {δ:UE}{σ:L2.St}
theorem RepS.mono(g:Gr H α H' α')(h:RepS K H α δ σ):RepS K H' α' δ σ:=
 ⟨h.len,fun i u e=>let ⟨v,q,r⟩:=h.at_ i u e;⟨v,q,r.mono g⟩⟩
theorem RepS.set(h:RepS K H α δ σ)(i:Nat){v:V}(r:RepU K H α u v):RepS K H α (δ.set i (ξ u)) ZdW:=
 ⟨by simp[h.len],fun j w e=>by
  by_cases hj:i=j
  ·subst hj;by_cases hi:i < δ.length
   ·rw[bI hi] at e;cases e;exact ⟨v,bI (by rw[<- h.len];exact hi),r⟩
   ·rw[cH (by simpa using hi)] at e;cases e
  ·rw[bF hj] at e;obtain ⟨v',q,r'⟩:=h.at_ j w e;exact ⟨v',by rw[bF hj];exact q,r'⟩⟩
variable {us:List U}
theorem RepS.start(N:List Str){vs:List V}(h:RepL K H α us vs):RepS K H α (us.map ξ++bL (N.length - us.length) ψ) ZdE:=by
 have hl:=h.length;refine ⟨by simp[L2.start,hl],fun i u e=>?_⟩;by_cases hi:i < us.length
 ·rw[bC (by simpa using hi),bA] at e;cases q:us[i]? with
  | none=>rw[q] at e;simp at e
  | some w=>
   rw[q] at e;simp at e;subst e;obtain ⟨x,e2,r⟩:=h.get q;refine ⟨x,?_,r⟩;unfold L2.start;rw[bC (by simp;omega),bA,e2];rfl
 ·rw[bX (by simpa using hi)] at e;have:=cI e;simp at this
abbrev FE:=UE->UH->Option (U×UH)
abbrev FT:=UE->UH->Option (Bool×UH)
abbrev FA:=UE->UH->Option (List U×UH)
inductive lE(K:aL)(f:FE)(σ:L2.St)(H:Hp)(Q:VK):Prop
 | mk (α:List Addr) (δ:UE) (L:UH) (A:Abs K H α L) (S:RepS K H α δ σ) (u:U) (L':UH) (e:f δ L=ξ (u,L')) (q:∀ v H' α',Gr H α H' α'->Abs K H' α' L'->RepU K H' α' u v->Q v H'):lE K f σ H Q
inductive lT(K:aL)(f:FT)(σ:L2.St)(H:Hp)(Q:Bool->Hp->Prop):Prop
 | mk (α:List Addr) (δ:UE) (L:UH) (A:Abs K H α L) (S:RepS K H α δ σ) (b:Bool) (L':UH) (e:f δ L=ξ (b,L')) (q:∀ H' α',Gr H α H' α'->Abs K H' α' L'->Q b H'):lT K f σ H Q
inductive lA(K:aL)(f:FA)(σ:L2.St)(H:Hp)(Q:List V->Hp->Prop):Prop
 | mk (α:List Addr) (δ:UE) (L:UH) (A:Abs K H α L) (S:RepS K H α δ σ) (us:List U) (L':UH) (e:f δ L=ξ (us,L')) (q:∀ vs H' α',Gr H α H' α'->Abs K H' α' L'->RepL K H' α' us vs->Q vs H'):lA K f σ H Q
def PEF(X:Cx)(e:Expr)(f:FE):Prop:=PE X e (lE X.K f)
def PTF(X:Cx)(e:Expr)(f:FT):Prop:=PT X e (lT X.K f)
def PWF(X:Cx)(e:Expr)(f:FT):Prop:=PW X e (lT X.K f)
def PAF(X:Cx)(es:List Expr)(f:FA):Prop:=PA X es (lA X.K f)
variable {X:Cx}{e:Expr}{es:List Expr}
section
theorem PE.imp{t t':TE}(h:PE X e t)(hi:∀ σ H Q,t' σ H Q->t σ H Q):PE X e t':=fun pins s σ H Q I q=>h pins s σ H Q I Zdh
theorem PT.imp{t t':TT}(h:PT X e t)(hi:∀ σ H Q,t' σ H Q->t σ H Q):PT X e t':=fun pins s σ H Q I q=>h pins s σ H Q I Zdh
theorem PW.imp{t t':TT}(h:PW X e t)(hi:∀ σ H Q,t' σ H Q->t σ H Q):PW X e t':=fun wh pins s σ H Q I q=>h wh pins s σ H Q I Zdh
theorem PA.imp{t t':TA}(h:PA X es t)(hi:∀ σ H Q,t' σ H Q->t σ H Q):PA X es t':=fun pos pins s σ H Q I q=>h pos pins s σ H Q I Zdh
end
def Ad(i:Nat):FE:=fun δ L=>(δ[i]?).join.map fun u=>(u,L)
def fC(u:U):FE:=fun _ L=>ξ (u,L)
variable {x:Str}{b c:Expr}{pos:Pos}{r:R2}{sem:S2}{fa fb f:FE}
section
variable {a:Expr}
theorem Ag(i:Nat)(hN:X.N[i]? = ξ x:=by rfl)(hv:Vis X.env.scope x:=by first | exact xI rfl | exact wG (xI rfl) | exact wG (wG rfl))
  (hd:(x == ("__debug__" : Str))=false:=by decide) (hcd:(x == ("__classdict__" : Str))=false:=by decide):PEF X ZcF (Ad i):=by
 refine PE.imp (Aol hN hv hd hcd) ?_;rintro σ H Q ⟨α,δ,L,A,S,u,L',e,q⟩;unfold Ad at e;cases h:δ[i]? with
 | none=>rw[h] at e;simp at e
 | some o=>
  cases o with
  | none=>rw[h] at e;simp at e
  | some w=>
   rw[h] at e;simp at e;obtain ⟨rfl,rfl⟩:=e;obtain ⟨v,hv,r⟩:=S.at_ i w h;exact ⟨v,hv,q v H α (.refl _ _) A r⟩
theorem Ao4{v:V}(h:PE X e (tC v))(r:∀ H α,RepU X.K H α u v):PEF X e (fC u):=by
 refine PE.imp h ?_;rintro σ H Q ⟨α,δ,L,A,S,w,L',e,q⟩;unfold fC at e;cases e;exact q v H α (.refl _ _) A (r H α)
theorem Ah{i:Int}{j pos}:PEF X (.Constant (.int i) j pos) (fC (.int i)):=Ao4 Ap3 fun _ _=>rfl
theorem Qe{b:Bool}{j pos}:PEF X (.Constant (.bool b) j pos) (fC (.bl b)):=Ao4 Am4 fun _ _=>rfl
theorem Ahh{j pos}:PEF X (.Constant (.str x) j pos) (fC (.str x)):=Ao4 Ao0 fun _ _=>rfl
abbrev S2:=U->U->UH->Option (U×UH)
def Es(K:aL)(r:R2)(sem:S2):Prop:=∀ (H:Hp) (α:List Addr) (L:UH) (u w:U) (x y:V) (z:U) (L':UH) (Q:VK),Abs K H α L->RepU K H α u x->RepU K H α w y->sem u w L=ξ (z,L') ->
 Z1->r x y H Q
def f2(sem:S2)(fa fb:FE):FE:=fun δ L=>(fa δ L).bind fun p=>(fb δ p.2).bind fun q=>sem p.1 q.1 q.2
theorem Abi(h:Es K r sem):∀ σ H Q,lE K ZdN σ H Q->tOp r (lE K fa) (lE K fb) σ H Q:=by
 rintro σ H Q ⟨α,δ,L,A,S,z,L3,e,q⟩;obtain ⟨⟨u,L1⟩,e1,e⟩:=aB.mp e;obtain ⟨⟨w,L2⟩,e2,e3⟩:=aB.mp e;refine ⟨α,δ,L,A,S,u,L1,e1,fun x H1 α1 g1 A1 r1=>⟨α1,δ,L1,A1,S.mono g1,w,L2,e2,fun y H2 α2 g2 A2 r2=>?_⟩⟩;exact h H2 α2 L2 u w x y z L3 Q A2 (r1.mono g2) r2 e3 fun v H3 α3 g3 A3 r3=>q v H3 α3 ZdS A3 r3
theorem Bf{op:Operator}(ho:OpR X (gQ op) r)(h:Es X.K r sem)(ha:PEF X a fa)(hb:PEF X b fb):PEF X (.BinOp a op b pos) ZdN:=PE.imp (Aqf ho ha hb) (Abi h)
theorem M5{op:CmpOp}(ho:OpR X (iE op) r)(h:Es X.K r sem)(ha:PEF X a fa)(hb:PEF X b fb)(hm:behindInMarks op b=false):PEF X Zcf ZdN:=PE.imp (Alh ho ha hb hm) (Abi h)
def Bp(f:FE):FT:=fun δ L=>(f δ L).bind fun p=>match p.1 with | .bl k=>ξ (k,p.2) | _=>ψ
theorem Amc{t:TE}(ht:∀ σ H Q,lE K f σ H Q->t σ H Q):∀ σ H Q,lT K (Bp f) σ H Q->Amz t σ H Q:=by
 rintro σ H Q ⟨α,δ,L,A,S,b,L1,e,q⟩;obtain ⟨⟨u,L2⟩,e1,e⟩:=aB.mp e;refine ht σ H _ ⟨α,δ,L,A,S,u,L2,e1,fun x H1 α1 g1 A1 r1=>?_⟩;cases u with
 | bl k=>simp at e;obtain ⟨rfl,rfl⟩:=e;exact ⟨k,r1,q H1 α1 g1 A1⟩
 | _=>simp at e
theorem Bv{op:CmpOp}(ho:OpR X (iE op) r)(h:Es X.K r sem)(ha:PEF X a fa)(hb:PEF X b fb)(hm:behindInMarks op b=false):PTF X Zcf (Bp ZdN):=PT.imp (Aki ho ha hb hm) (Amc (Abi h))
end
variable {g:FA}
section
variable {a:Expr}{rest:List Expr}
def Ads(f g:FT):FT:=fun δ L=>(f δ L).bind fun p=>if p.1=true then g δ p.2 else ξ (false,p.2)
def fOr(f g:FT):FT:=fun δ L=>(f δ L).bind fun p=>if p.1=true then ξ (true,p.2) else g δ p.2
def Ph(f:FT):FT:=fun δ L=>(f δ L).map fun p=>(!p.1,p.2)
def Acx(f g:FE):FE:=fun δ L=>(f δ L).bind fun p=>match p.1 with | .bl k=>if k=true then g δ p.2 else ξ (.bl false,p.2) | _=>ψ
def Atx(f g:FE):FE:=fun δ L=>(f δ L).bind fun p=>match p.1 with | .bl k=>if k=true then ξ (.bl true,p.2) else g δ p.2 | _=>ψ
def Arx(f:FE):FE:=fun δ L=>(f δ L).bind fun p=>match p.1 with | .bl k=>ξ (.bl (!k),p.2) | _=>ψ
def fIf(c:FT)(f g:FE):FE:=fun δ L=>(c δ L).bind fun p=>if p.1=true then f δ p.2 else g δ p.2
theorem X6{f:FT}(ha:PTF X a f):PWF X (.BoolOp .And [a] pos) f:=Ak5 ha
theorem Q5{f:FT}(ha:PTF X a f):PWF X (.BoolOp .Or [a] pos) f:=Aoy ha
theorem Ab9{f g:FT}(ha:PTF X a f)(hb:PWF X ZbW g):PWF X ZbB (Ads f g):=by
 refine PW.imp (Aov ha hb) ?_;rintro σ H Q ⟨α,δ,L,A,S,z,L3,e,q⟩;obtain ⟨⟨u,L1⟩,e1,e⟩:=aB.mp e;refine ⟨α,δ,L,A,S,u,L1,e1,fun H1 α1 g1 A1=>?_⟩;cases u with
 | true=>exact Aat ⟨α1,δ,L1,A1,S.mono g1,z,L3,e,fun H2 α2 g2 A2=>q H2 α2 Zak A2⟩
 | false=>cases e;exact Aac (q H1 α1 g1 A1)
theorem Wc{f g:FT}(ha:PTF X a f)(hb:PWF X (.BoolOp .Or (b::rest) pos) g):PWF X (.BoolOp .Or (a::b::rest) pos) (fOr f g):=by
 refine PW.imp (Ast ha hb) ?_;rintro σ H Q ⟨α,δ,L,A,S,z,L3,e,q⟩;obtain ⟨⟨u,L1⟩,e1,e⟩:=aB.mp e;refine ⟨α,δ,L,A,S,u,L1,e1,fun H1 α1 g1 A1=>?_⟩;cases u with
 | false=>exact Aac ⟨α1,δ,L1,A1,S.mono g1,z,L3,e,fun H2 α2 g2 A2=>q H2 α2 Zak A2⟩
 | true=>cases e;exact Aat (q H1 α1 g1 A1)
theorem PWF.pt{f:FT}(h:PWF X e f):PTF X e f:=PW.pt h
theorem Oy{f:FT}(ha:PTF X a f):PTF X (.UnaryOp .Not a pos) (Ph f):=by
 refine PT.imp (An0 ha) ?_;rintro σ H Q ⟨α,δ,L,A,S,z,L3,e,q⟩;obtain ⟨⟨u,L1⟩,e1,e⟩:=aJ.mp e;cases e;exact ⟨α,δ,L,A,S,u,L1,e1,fun H1 α1 g1 A1=>q H1 α1 g1 A1⟩
theorem Afx{op}(h:PEF X a f):PEF X (.BoolOp op [a] pos) f:=Aoe h
theorem Ag6{g:FE}(ha:PEF X a f)(hb:PEF X ZbW g):PEF X ZbB (Acx f g):=by
 refine PE.imp (Ans ha hb) ?_;rintro σ H Q ⟨α,δ,L,A,S,z,L3,e,q⟩;obtain ⟨⟨u,L1⟩,e1,e⟩:=aB.mp e;refine ⟨α,δ,L,A,S,u,L1,e1,fun v H1 α1 g1 A1 r1=>?_⟩;cases u with
 | bl k=>
  cases k with
  | true=>exact ⟨true,r1,Aat ⟨α1,δ,L1,A1,S.mono g1,z,L3,e,fun v H2 α2 g2 A2 r=>q v H2 α2 Zak A2 r⟩⟩
  | false=>cases e;exact ⟨false,r1,Aac (q _ H1 α1 g1 A1 rfl)⟩
 | _=>simp at e
theorem Asb{t:FT}{g:FE}(hc:PTF X c t)(ha:PEF X a f)(hb:PEF X b g):PEF X (.IfExp c a b pos) (fIf t f g):=by
 refine PE.imp (Ag7 hc ha hb) ?_;rintro σ H Q ⟨α,δ,L,A,S,z,L3,e,q⟩;obtain ⟨⟨u,L1⟩,e1,e⟩:=aB.mp e;refine ⟨α,δ,L,A,S,u,L1,e1,fun H1 α1 g1 A1=>?_⟩;cases u with
 | true=>exact Aat ⟨α1,δ,L1,A1,S.mono g1,z,L3,e,fun v H2 α2 g2 A2 r=>q v H2 α2 Zak A2 r⟩
 | false=>exact Aac ⟨α1,δ,L1,A1,S.mono g1,z,L3,e,fun v H2 α2 g2 A2 r=>q v H2 α2 Zak A2 r⟩
def Af:FA:=fun _ L=>ξ ([],L)
def Ac(f:FE)(g:FA):FA:=fun δ L=>(f δ L).bind fun p=>(g δ p.2).map fun q=>(p.1::q.1,q.2)
theorem Ae:PAF X [] Af:=by
 refine PA.imp Ahj ?_;rintro σ H Q ⟨α,δ,L,A,S,z,L3,e,q⟩;cases e;exact q [] H α (.refl _ _) A .nil
theorem Aa(ha:PEF X e f)(hr:PAF X es g)(hs:bK (e::es) X.env=ZQ::bK es X.env:=by rfl):PAF X (e::es) (Ac f g):=by
 refine PA.imp (Acj ha hr hs) ?_;rintro σ H Q ⟨α,δ,L,A,S,z,L3,e,q⟩;obtain ⟨⟨u,L1⟩,e1,e⟩:=aB.mp e;obtain ⟨⟨us,L2⟩,e2,e⟩:=aJ.mp e;cases e;exact ⟨α,δ,L,A,S,u,L1,e1,fun x H1 α1 g1 A1 r1=>⟨α1,δ,L1,A1,S.mono g1,us,L2,e2,fun xs H2 α2 g2 A2 r2=>q (x::xs) H2 α2 Zak A2 (.cons (r1.mono g2) r2)⟩⟩
noncomputable def small(n:Nat):Bool:=decide (n<=sizeLine)
def C0(g:FA):FE:=fun δ L=>(g δ L).bind fun p=>if small p.1.length=true then ξ (.tup p.1,p.2) else ψ
def El(g:FA):FE:=fun δ L=>(g δ L).bind fun p=>if small p.1.length=true then ξ (.ref p.2.length,p.2++[.lst p.1]) else ψ
theorem Fs(h:small n=true):n<=sizeLine:=of_decide_eq_true h
theorem Abs.tup(A:Abs K H α L)(r:RepL K H α us xs)(hp:H p=ψ) :
  Gr H α Zdq α/\Abs K Zdq α L/\RepU K Zdq α (.tup us) (.ref p):=by
 have g:Gr H α Zdq α:=⟨⟨[],Za⟩,.new hp _⟩;refine ⟨g,⟨A.len,A.inj,fun i a o e1 e2=>(A.rep i a o e1 e2).other g (.inr fun u q=>by rw[Aw (Bc q hp)];exact q),A.tabs g.st (Qy hp _)⟩,?_⟩;unfold RepU;exact ⟨p,xs,rfl,.of upd_same,r.mono g⟩
theorem Abs.lst(A:Abs K H α L)(r:RepL K H α us xs)(hp:H p=ψ) :
  Gr H α Zdr (α ++ [p])/\Abs K Zdr (α ++ [p]) (L++[.lst us])/\RepU K Zdr (α ++ [p]) Zt (.ref p):=by
 have g:Gr H α Zdr (α ++ [p]):=⟨⟨[p],rfl⟩,.new hp _⟩;obtain ⟨A',_⟩:=A.new (o:=.lst xs) (u:=.lst us) hp ⟨xs,upd_same,r.mono g⟩;refine ⟨g,A',?_⟩;unfold RepU;exact ⟨p,by rw[<- A.len];simp,rfl⟩
theorem Cq{x1}(h:PAF X es g):PEF X (.Tuple es x1 pos) (C0 g):=by
 refine PE.imp (Anz h) ?_;rintro σ H Q ⟨α,δ,L,A,S,z,L3,e,q⟩;obtain ⟨⟨us,L1⟩,e1,e⟩:=aB.mp e;refine ⟨α,δ,L,A,S,us,L1,e1,fun xs H1 α1 g1 A1 r1=>?_⟩;simp only at e;split at e
 ·rename_i hs;cases e;refine ⟨by rw[<- r1.length];exact Fs hs,fun p hp=>?_⟩;obtain ⟨g2,A2,r2⟩:=A1.tup r1 hp;exact q _ _ α1 Zak A2 r2
 ·cases e
theorem Fh(h:PAF X es g):PEF X (.List es pos) (El g):=by
 refine PE.imp (Apz h) ?_;rintro σ H Q ⟨α,δ,L,A,S,z,L3,e,q⟩;obtain ⟨⟨us,L1⟩,e1,e⟩:=aB.mp e;refine ⟨α,δ,L,A,S,us,L1,e1,fun xs H1 α1 g1 A1 r1=>?_⟩;simp only at e;split at e
 ·rename_i hs;cases e;refine ⟨by rw[<- r1.length];exact Fs hs,fun p hp=>?_⟩;obtain ⟨g2,A2,r2⟩:=A1.lst r1 hp;exact q _ _ _ Zak A2 r2
 ·cases e
abbrev SC:=List U->UH->Option (U×UH)
def Ol(K:aL)(r:List V->Hp->VK->Prop)(sem:SC):Prop:=∀ (H:Hp) (α:List Addr) (L:UH) (us:List U) (xs:List V) (z:U) (L':UH) (Q:VK),Abs K H α L->RepL K H α us xs->sem us L=ξ (z,L') ->
 Z1->r xs H Q
def Au(sem:SC)(g:FA):FE:=fun δ L=>(g δ L).bind fun p=>sem p.1 p.2
theorem Am0{r:List V->Hp->VK->Prop}{sem:SC}(h:Ol K r sem):∀ σ H Q,lE K (Au sem g) σ H Q->tCB r (lA K g) σ H Q:=by
 rintro σ H Q ⟨α,δ,L,A,S,z,L3,e,q⟩;obtain ⟨⟨us,L1⟩,e1,e⟩:=aB.mp e;exact ⟨α,δ,L,A,S,us,L1,e1,fun xs H1 α1 g1 A1 r1=>h H1 α1 L1 us xs z L3 Q A1 r1 e fun v H2 α2 g2 A2 r2=>q v H2 α2 Zak A2 r2⟩
variable {p:Pos}{id T:String}{r:List V->Hp->VK->Prop}{sem:SC}
theorem Bd(hc:CallR X Zbr r)(h:Ol X.K r sem)(hg:Gl X x)(hm:X.mg x=ψ)(hv:fP x=ξ Zbr)(ha:PAF X (e::es) g)(hn:x ≠ "__name__" := by decide)(hdb:(x == ("__debug__" : Str))=false:=by decide)
  (he:bK (e::es) X.env=ZQ::bK es X.env:=by rfl) (hpl:(backTo pos Zbb).any (·.1)=false:=by rfl) :
  PEF X Zaf (Au sem g):=PE.imp (Aiw hc hg hm hv ha hn hdb he hpl) (Am0 h)
theorem Bu(hc:CallR X (.type T) r)(h:Ol X.K r sem)(hg:Gl X x)(hm:X.mg x=ψ)(hv:fP x=ξ (.type T))(ha:PAF X (e::es) g)(hn:x ≠ "__name__" := by decide)(hdb:(x == ("__debug__" : Str))=false:=by decide)
  (he:bK (e::es) X.env=ZQ::bK es X.env:=by rfl) (hpl:(backTo pos Zbb).any (·.1)=false:=by rfl) :
  PEF X Zaf (Au sem g):=PE.imp (Ae4 hc hg hm hv ha hn hdb he hpl) (Am0 h)
abbrev SM:=U->List U->UH->Option (U×UH)
def Alx(K:aL)(r:V->List V->Hp->VK->Prop)(sem:SM):Prop:=∀ (H:Hp) (α:List Addr) (L:UH) (u:U) (us:List U) (x:V) (xs:List V) (z:U) (L':UH) (Q:VK),Abs K H α L->RepU K H α u x->RepL K H α us xs->sem u us L=ξ (z,L') ->
 Z1->r x xs H Q
def tyU(T:String)(u:U)(L:UH):Bool:=match u with
 | .str _=>T == "str"
 | .int _=>T == "int"
 | .tup _=>T == "tuple"
 | .ref n=>match L[n]? with
  | some (.lst _)=>T == "list"
  | some (.ro _)=>T == "list"
  | some (.dic _)=>T == "dict"
  | _=>false
 | _=>false
theorem Anx{x:V}(A:Abs K H α L)(r:RepU K H α u x)(h:tyU T u L=true):tyV K T x H:=by
 cases u with
 | str y=>unfold RepU at r;subst r;simpa[tyU,tyV] using h
 | int i=>unfold RepU at r;subst r;simpa[tyU,tyV] using h
 | ref n=>
  unfold RepU at r;obtain ⟨a,ea,rfl⟩:=r;unfold tyU at h;simp only at h;cases q:L[n]? with
  | none=>rw[q] at h;simp at h
  | some o=>
   have hr:=A.rep n a o ea q;rw[q] at h;cases o with
   | lst us=>simp at h;obtain ⟨xs,e,_⟩:=hr;exact .inl ⟨h,xs,.of e⟩
   | ro us=>simp at h;obtain ⟨xs,e,_⟩:=hr;exact .inl ⟨h,xs,e.sq⟩
   | dic kvs=>simp at h;obtain ⟨vs,e,_⟩:=hr;exact .inr (.inr (.inl ⟨h,.inl ⟨vs,e⟩⟩))
   | rod kvs=>simp at h
   | ins C fs=>simp at h
   | exc C fr fs=>simp at h
 | non=>simp[tyU] at h
 | bl b=>simp[tyU] at h
 | tup l=>
  unfold RepU at r;obtain ⟨a,ys,rfl,sq,_⟩:=r;have hT:T = "tuple" := by simpa[tyU] using h
  exact .inr (.inl ⟨hT,ys,sq⟩)
def Ht(T:String)(sem:SM)(f:FE)(g:FA):FE:=fun δ L=>(f δ L).bind fun p=>if tyU T p.1 p.2=true then (g δ p.2).bind fun q=>sem p.1 q.1 q.2 else ψ
theorem Ar9{r:V->List V->Hp->VK->Prop}{sem:SM}(h:Alx K r sem):∀ σ H Q,lE K (Ht T sem f g) σ H Q->tBM K T r (lE K f) (lA K g) σ H Q:=by
 rintro σ H Q ⟨α,δ,L,A,S,z,L3,e,q⟩;obtain ⟨⟨u,L1⟩,e1,e⟩:=aB.mp e;simp only at e;split at e
 ·rename_i ht;obtain ⟨⟨us,L2⟩,e2,e⟩:=aB.mp e;refine ⟨α,δ,L,A,S,u,L1,e1,fun x H1 α1 g1 A1 r1=>⟨Anx A1 r1 ht,α1,δ,L1,A1,S.mono g1,us,L2,e2,fun xs H2 α2 g2 A2 r2=>?_⟩⟩;exact h H2 α2 L2 u us x xs z L3 Q A2 (r1.mono g2) r2 e fun v H3 α3 g3 A3 r3=>q v H3 α3 ZdS A3 r3
 ·cases e
section
variable {o:Expr}{name:Str}{apos cpos:Pos}{T id:String}{r:V->List V->Hp->VK->Prop}{sem:SM}
theorem Su(pa:PlainAttrs T)(slot:Slot T name id)(hty:typeOf Zbr=pure (.type "method_descriptor"))(hm:MtR X id r)(h:Alx X.K r sem)(ho:PEF X o f)(ha:PAF X (e::es) g)
  (hbase:attributeBase o name X.env Zci=eval o X.env:=by rfl)
  (hfew:((backTo cpos (bK (e::es) X.env)).all (fun x=>!x.1)&&(backToKw cpos ZbT).all Zcs&&decide ((e::es).length+([]:List kD).length+(if ([]:List kD).isEmpty then 0 else 1) < 30))=true:=by rfl)
  (hline:(apos.endLine == cpos.line)=true:=by rfl) (hst:bK (e::es) X.env=ZQ::bK es X.env:=by rfl) (hpl:(backTo cpos Zbb).any (·.1)=false:=by rfl) :
  PEF X (.Call (.Attribute o name apos) (e::es) [] cpos) (Ht T sem f g):=
 PE.imp (Ata pa slot hty hm ho ha hbase hfew hline hst hpl) (Ar9 h)
end
end
abbrev FN:=List U->UH->Option (U×UH)
inductive spF(K:aL)(n:Nat)(f:FN)(vs:List V)(H:Hp)(Q:VK)(E:XK):Prop
 | mk (α:List Addr) (L:UH) (us:List U) (A:Abs K H α L) (r:RepL K H α us vs) (hl:us.length=n) (u:U) (L':UH) (e:f us L=ξ (u,L')) (q:∀ v H' α',Gr H α H' α'->Abs K H' α' L'->RepU K H' α' u v->Q v H'):spF K n f vs H Q E
variable {k:Nat}
section
variable {a o:Expr}{p:Pos}{f:Addr}{fd:eT}{ps:List Str}{F:FN}{fc:FE}
def Ay(n:Nat)(F:FN)(g:FA):FE:=fun δ L=>(g δ L).bind fun p=>if p.1.length=n then F p.1 p.2 else ψ
theorem Ak(hF:FnOk X.prog X.w X.K X.mg X.base CX0 k f fd ps (spF X.K n F))(hr:Room k X.A)(hg:Gl X x)(hm:X.mg x=ξ (.ref f))(hk:iY X.K (.ref f)=true)(hb:Binds X.K fd ps [])
  (ha:PAF X (e::es) g) (hdb:(x == ("__debug__" : Str))=false:=by decide) (he:bK (e::es) X.env=ZQ::bK es X.env:=by rfl) (hpl:(backTo pos Zbb).any (·.1)=false:=by rfl) :
  PEF X Zaf (Ay n F g):=by
 refine PE.imp (Aj9 hF hr hg hm hk hb .nil Asl ha hdb he hpl) ?_;rintro σ H Q ⟨α,δ,L,A,S,z,L3,e,q⟩;obtain ⟨⟨us,L1⟩,e1,e⟩:=aB.mp e;simp only at e;split at e
 ·rename_i hl;refine ⟨α,δ,L,A,S,us,L1,e1,fun xs H1 α1 g1 A1 r1=>?_⟩;exact ⟨α1,L1,us,A1,by rw[bO];exact r1,hl,z,L3,e,fun v H2 α2 g2 A2 r2=>q v H2 α2 Zak A2 r2⟩
 ·cases e
theorem Bi(hr:IxR X r)(h:Es X.K r sem)(ha:PEF X a fa)(hb:PEF X b fb)(hs:Acm b):PEF X (.Subscript a b pos) ZdN:=PE.imp (Ar6 hr ha hb hs) (Abi h)
abbrev FO:=UE->UH->Option (Option Int×UH)
inductive lO(K:aL)(f:FO)(σ:L2.St)(H:Hp)(Q:Option Int->Hp->Prop):Prop
 | mk (α:List Addr) (δ:UE) (L:UH) (A:Abs K H α L) (S:RepS K H α δ σ) (i:Option Int) (L':UH) (e:f δ L=ξ (i,L')) (q:∀ H' α',Gr H α H' α'->Abs K H' α' L'->Q i H'):lO K f σ H Q
def POF(X:Cx)(e:Option Expr)(f:FO):Prop:=PO X e (lO X.K f)
def Md:FO:=fun _ L=>ξ (ψ,L)
def Gs(f:FE):FO:=fun δ L=>(f δ L).bind fun p=>match p.1 with | .int i=>ξ (ξ i,p.2) | _=>ψ
theorem PO.imp{e:Option Expr}{t t':TO}(h:PO X e t)(hi:∀ σ H Q,t' σ H Q->t σ H Q):PO X e t':=fun pins s σ H Q I q=>h pins s σ H Q I Zdh
theorem Rm:POF X ψ Md:=by
 refine PO.imp Akk ?_;rintro σ H Q ⟨α,δ,L,A,S,z,L3,e,q⟩;cases e;exact q H α (.refl _ _) A
theorem Fi(h:PEF X e fa):POF X (ξ e) (Gs fa):=by
 refine PO.imp (Ak3 h) ?_;rintro σ H Q ⟨α,δ,L,A,S,z,L3,e,q⟩;obtain ⟨⟨u,L1⟩,e1,e⟩:=aB.mp e;refine ⟨α,δ,L,A,S,u,L1,e1,fun x H1 α1 g1 A1 r1=>?_⟩;cases u with
 | int i=>cases e;exact ⟨i,r1,q H1 α1 g1 A1⟩
 | _=>simp at e
abbrev SS:=U->Option Int->Option Int->UH->Option (U×UH)
def Amx(K:aL)(r:V->Option Int->Option Int->Hp->VK->Prop)(sem:SS):Prop:=∀ (H:Hp) (α:List Addr) (L:UH) (u:U) (x:V) (lo hi:Option Int) (z:U) (L':UH) (Q:VK),Abs K H α L->RepU K H α u x->sem u lo hi L=ξ (z,L') ->
 Z1->r x lo hi H Q
def fSl(sem:SS)(f:FE)(l h:FO):FE:=fun δ L=>(f δ L).bind fun p=>(l δ p.2).bind fun q=>(h δ q.2).bind fun r=>sem p.1 q.1 r.1 r.2
theorem Ln{r:V->Option Int->Option Int->Hp->VK->Prop}{sem:SS}{lo hi:Option Expr}{fl fh:FO}{p2:Pos}(hr:SlR X r)(h:Amx X.K r sem)(he:PEF X e fa)(hl:POF X lo fl)(hu:POF X hi fh):PEF X (.Subscript e (.Slice lo hi ψ p2) pos) (fSl sem fa fl fh):=by
 refine PE.imp (Ahk hr he hl hu) ?_;rintro σ H Q ⟨α,δ,L,A,S,z,L3,e,q⟩;obtain ⟨⟨u,L1⟩,e1,e⟩:=aB.mp e;obtain ⟨⟨i,L2⟩,e2,e⟩:=aB.mp e;obtain ⟨⟨j,L4⟩,e3,e⟩:=aB.mp e;refine ⟨α,δ,L,A,S,u,L1,e1,fun x H1 α1 g1 A1 r1=>⟨α1,δ,L1,A1,S.mono g1,i,L2,e2,fun H2 α2 g2 A2=>⟨α2,δ,L2,A2,(S.mono g1).mono g2,j,L4,e3,fun H3 α3 g3 A3=>?_⟩⟩⟩;exact h H3 α3 L4 u x i j z L3 Q A3 ((r1.mono g2).mono g3) e fun v H4 α4 g4 A4 r4=>q v H4 α4 (g1.trans (g2.trans (g3.trans g4))) A4 r4
def Ip(f:FE):FE:=fun δ L=>(f δ L).bind fun p=>match p.1 with | .int i=>ξ (.int (-i),p.2) | _=>ψ
theorem H9(ha:PEF X a fa):PEF X (.UnaryOp .USub a pos) (Ip fa):=by
 refine PE.imp (As8 Aof ha) ?_;rintro σ H Q ⟨α,δ,L,A,S,z,L3,e,q⟩;obtain ⟨⟨u,L1⟩,e1,e⟩:=aB.mp e;refine ⟨α,δ,L,A,S,u,L1,e1,fun x H1 α1 g1 A1 r1=>?_⟩;cases u with
 | int i=>cases e;exact ⟨i,r1,q _ H1 α1 g1 A1 rfl⟩
 | _=>simp at e
def Uo(u:U)(L:UH):Option Bool:=match u with
 | .non=>ξ false
 | .bl b=>ξ b
 | .int i=>ξ (i != 0)
 | .str y=>if small y.length=true then ξ ((y.length:Int) != 0) else ψ
 | .tup l=>ξ (!l.isEmpty)
 | .ref n=>match L[n]? with
  | some (.lst xs)=>ξ (!xs.isEmpty)
  | some (.ro xs)=>ξ (!xs.isEmpty)
  | some (.dic kvs)=>ξ (!kvs.isEmpty)
  | _=>ψ
theorem Hw{α β:Type}{l:List α}{m:List β}(h:l.length=m.length):l.isEmpty=m.isEmpty:=by
 cases l <;> cases m <;> simp_all
theorem Ama{x:V}{k:Bool}(A:Abs K H α L)(r:RepU K H α u x)(h:Uo u L=ξ k):Apq K x H k:=by
 cases u with
 | non=>unfold RepU at r;subst r;exact (bQ h).symm
 | bl b=>unfold RepU at r;subst r;exact (bQ h).symm
 | int i=>unfold RepU at r;subst r;exact (bQ h).symm
 | str y=>
  unfold RepU at r;subst r;unfold Uo at h;simp only at h;split at h
  ·rename_i hs;cases h;exact ⟨Fs hs,rfl⟩
  ·cases h
 | tup l=>
  unfold RepU at r;obtain ⟨a,xs,rfl,s,r⟩:=r;exact .inr (.inl ⟨xs,s,by rw[<- Hw r.length];exact (bQ h).symm⟩)
 | ref n=>
  unfold RepU at r;obtain ⟨a,ea,rfl⟩:=r;unfold Uo at h;simp only at h;cases q:L[n]? with
  | none=>rw[q] at h;simp at h
  | some o=>
   have hr:=A.rep n a o ea q;rw[q] at h;cases o with
   | lst us=>obtain ⟨xs,e,r⟩:=hr;exact .inl ⟨xs,.of e,by rw[<- Hw r.length];exact (bQ h).symm⟩
   | ro us=>obtain ⟨xs,e,r⟩:=hr;exact .inl ⟨xs,e.sq,by rw[<- Hw r.length];exact (bQ h).symm⟩
   | dic kvs=>obtain ⟨vs,e,ek,_⟩:=hr;exact .inr (.inr ⟨vs,e,by rw[<- Hw (show kvs.length=vs.length by simpa using congrArg oD ek)];exact (bQ h).symm⟩)
   | rod kvs=>simp at h
   | ins C fs=>simp at h
   | exc C fr fs=>simp at h
def Js(f:FE):FT:=fun δ L=>(f δ L).bind fun p=>(Uo p.1 p.2).map fun k=>(k,p.2)
theorem F4(ha:PEF X a fa)(he:∀ whole,isTrue a X.env whole=(do let v <- whole;standAt a.pos;holding [v] (truthy v)):=by intro _;rfl):PTF X a (Js fa):=by
 refine PT.imp (Agy ha he) ?_;rintro σ H Q ⟨α,δ,L,A,S,z,L3,e,q⟩;obtain ⟨⟨u,L1⟩,e1,e⟩:=aB.mp e;obtain ⟨k,e2,e⟩:=aJ.mp e;cases e;exact ⟨α,δ,L,A,S,u,_,e1,fun x H1 α1 g1 A1 r1=>⟨_,Ama A1 r1 e2,q H1 α1 g1 A1⟩⟩
end
inductive Fl where
 | nx (δ:UE) | rt (u:U) | bk (δ:UE) | ct (δ:UE)
abbrev FS:=UE->UH->Option (Fl×UH)
def Post(K:aL)(D:Ends)(H:Hp)(α:List Addr)(fl:Fl)(L':UH):Prop:=match fl with
 | .nx δ'=>∀ σ' H' α',Gr H α H' α'->Abs K H' α' L'->RepS K H' α' δ' σ'->D.nx σ' H'
 | .bk δ'=>∀ σ' H' α',Gr H α H' α'->Abs K H' α' L'->RepS K H' α' δ' σ'->D.bk σ' H'
 | .ct δ'=>∀ σ' H' α',Gr H α H' α'->Abs K H' α' L'->RepS K H' α' δ' σ'->D.ct σ' H'
 | .rt u=>∀ v H' α',Gr H α H' α'->Abs K H' α' L'->RepU K H' α' u v->D.rt v H'
theorem Post.from{D:Ends}{α1:List Addr}{fl:Fl}{L':UH}(g:Gr H α H1 α1)(p:Post K D H α fl L'):Post K D H1 α1 fl L':=by
 cases fl with
 | nx δ=>exact fun σ' H' α' g'=>p σ' H' α' (g.trans g')
 | bk δ=>exact fun σ' H' α' g'=>p σ' H' α' (g.trans g')
 | ct δ=>exact fun σ' H' α' g'=>p σ' H' α' (g.trans g')
 | rt u=>exact fun v H' α' g'=>p v H' α' (g.trans g')
inductive lS(K:aL)(f:FS)(D:Ends)(σ:L2.St)(H:Hp):Prop
 | mk (α:List Addr) (δ:UE) (L:UH) (A:Abs K H α L) (S:RepS K H α δ σ) (fl:Fl) (L':UH) (e:f δ L=ξ (fl,L')) (q:Post K D H α fl L'):lS K f D σ H
def PSF(X:Cx)(st:Stmt)(f:FS):Prop:=PS X st (lS X.K f)
def Ua(X:Cx)(st:List Stmt)(f:FS):Prop:=PSs X st (lS X.K f)
variable {fe:FE}
section
variable {st:Stmt}{rest:List Stmt}{f g:FS}
theorem PS.imp{t t':TS}(h:PS X st t)(hi:∀ D σ H,t' D σ H->t D σ H):PS X st t':=fun pins s σ H D I q=>h pins s σ H D I (hi D σ H q)
theorem PSs.imp{sts:List Stmt}{t t':TS}(h:PSs X sts t)(hi:∀ D σ H,t' D σ H->t D σ H):PSs X sts t':=fun pins s σ H D I q=>h pins s σ H D I (hi D σ H q)
def Cf:FS:=fun δ L=>ξ (.nx δ,L)
def Bb(f g:FS):FS:=fun δ L=>(f δ L).bind fun p=>match p.1 with | .nx δ'=>g δ' p.2 | fl=>ξ (fl,p.2)
theorem B7:Ua X [] Cf:=by
 refine PSs.imp Ajx ?_;rintro D σ H ⟨α,δ,L,A,S,fl,L',e,q⟩;cases e;exact q σ H α (.refl _ _) A S
theorem Ai(h1:PSF X st f)(h2:Ua X rest g):Ua X (st::rest) (Bb f g):=by
 refine PSs.imp (Aft h1 h2) ?_;rintro D σ H ⟨α,δ,L,A,S,fl,L',e,q⟩;obtain ⟨⟨fl1,L1⟩,e1,e⟩:=aB.mp e;refine ⟨α,δ,L,A,S,fl1,L1,e1,?_⟩;cases fl1 with
 | nx δ1=>exact fun σ1 H1 α1 g1 A1 S1=>⟨α1,δ1,L1,A1,S1,fl,L',e,q.from g1⟩
 | rt u=>cases e;exact q
 | bk δ1=>cases e;exact q
 | ct δ1=>cases e;exact q
theorem Ao(h1:PSF X st f):Ua X [st] f:=Ajv h1
def Bx(f:FE):FS:=fun δ L=>(f δ L).map fun p=>(.rt p.1,p.2)
def Ka(f:FE):FS:=fun δ L=>(f δ L).map fun p=>(.nx δ,p.2)
def Ase:FS:=fun _ L=>ξ (.rt .non,L)
theorem Ax(he:PEF X e fe):PSF X (.Return (ξ e) pos) (Bx fe):=by
 refine PS.imp (An2 he) ?_;rintro D σ H ⟨α,δ,L,A,S,fl,L',e,q⟩;obtain ⟨⟨u,L1⟩,e1,e⟩:=aJ.mp e;cases e;exact ⟨α,δ,L,A,S,u,_,e1,fun v H1 α1 g1 A1 r1=>q v H1 α1 g1 A1 r1⟩
theorem I0(he:PEF X e fe)(hs:swapsWith e ψ pos.line X.env=pure false:=by rfl):PSF X (.Expr e pos) (Ka fe):=by
 refine PS.imp (Ak1 he hs) ?_;rintro D σ H ⟨α,δ,L,A,S,fl,L',e,q⟩;obtain ⟨⟨u,L1⟩,e1,e⟩:=aJ.mp e;cases e;exact ⟨α,δ,L,A,S,u,_,e1,fun v H1 α1 g1 A1 r1=>q σ H1 α1 g1 A1 (S.mono g1)⟩
def Ek(c:FT)(f g:FS):FS:=fun δ L=>(c δ L).bind fun p=>if p.1=true then f δ p.2 else g δ p.2
theorem C1{a b:List Stmt}{tc:FT}(hc:PTF X c tc)(ha:Ua X a f)(hb:Ua X b g):PSF X (.If c a b pos) (Ek tc f g):=by
 refine PS.imp (Atg hc ha hb) ?_;rintro D σ H ⟨α,δ,L,A,S,fl,L',e,q⟩;obtain ⟨⟨u,L1⟩,e1,e⟩:=aB.mp e;refine ⟨α,δ,L,A,S,u,L1,e1,fun H1 α1 g1 A1=>?_⟩;cases u with
 | true=>exact Aat ⟨α1,δ,L1,A1,S.mono g1,fl,L',e,q.from g1⟩
 | false=>exact Aac ⟨α1,δ,L1,A1,S.mono g1,fl,L',e,q.from g1⟩
def Ag1:FS:=fun _ _=>ψ
theorem Ad8:PSF X st Ag1:=by
 refine PS.imp Af1 ?_;rintro D σ H ⟨α,δ,L,A,S,fl,L',e,q⟩;cases e
end
abbrev FG:=U->UE->UH->Option (UE×UH)
abbrev FGs:=List U->UE->UH->Option (UE×UH)
inductive lG(K:aL)(f:FG)(v:V)(σ:L2.St)(H:Hp)(Q:L2.St->Hp->Prop):Prop
 | mk (α:List Addr) (δ:UE) (L:UH) (u:U) (A:Abs K H α L) (S:RepS K H α δ σ) (r:RepU K H α u v) (δ':UE) (L':UH) (e:f u δ L=ξ (δ',L')) (q:∀ σ' H' α',Gr H α H' α'->Abs K H' α' L'->RepS K H' α' δ' σ'->Q σ' H'):lG K f v σ H Q
inductive lGs(K:aL)(f:FGs)(vs:List V)(σ:L2.St)(H:Hp)(Q:L2.St->Hp->Prop):Prop
 | mk (α:List Addr) (δ:UE) (L:UH) (us:List U) (A:Abs K H α L) (S:RepS K H α δ σ) (r:RepL K H α us vs) (δ':UE) (L':UH) (e:f us δ L=ξ (δ',L')) (q:∀ σ' H' α',Gr H α H' α'->Abs K H' α' L'->RepS K H' α' δ' σ'->Q σ' H'):lGs K f vs σ H Q
def PGF(X:Cx)(e:Expr)(f:FG):Prop:=PG X e (lG X.K f)
def Als(X:Cx)(es:List Expr)(f:FGs):Prop:=PGs X es (lGs X.K f)
variable {tg:Expr}
section
theorem PG.imp{t t':TG}(h:PG X e t)(hi:∀ v σ H Q,t' v σ H Q->t v σ H Q):PG X e t':=fun pins s σ H v u Q I r q=>h pins s σ H v u Q I r (hi v σ H Q q)
theorem PGs.imp{t t':TGs}(h:PGs X es t)(hi:∀ v σ H Q,t' v σ H Q->t v σ H Q):PGs X es t':=fun pins s σ H v u Q I r q=>h pins s σ H v u Q I r (hi v σ H Q q)
def gN(i:Nat):FG:=fun u δ L=>ξ (δ.set i (ξ u),L)
theorem Ar(hN:X.N.Nodup)(hi:X.N[i]? = ξ x:=by rfl)(hx:Loc X.env.scope x:=by first | exact xI rfl | exact wG rfl)(hf:X.fn x=true\/X.env.scope.names.lookup x=ξ .local:=by first | exact .inl rfl | exact .inr rfl):PGF X (.Name x pos) (gN i):=by
 refine PG.imp (Ac9 (i:=i) hN hi hx hf) ?_;rintro v σ H Q ⟨α,δ,L,u,A,S,r,δ',L',e,q⟩;cases e;exact q _ H α (.refl _ _) A (S.set i r)
def gNil:FGs:=fun us δ L=>match us with | []=>ξ (δ,L) | _=>ψ
def gCons(f:FG)(g:FGs):FGs:=fun us δ L=>match us with | []=>ψ | u::r=>(f u δ L).bind fun p=>g r p.1 p.2
theorem Ct:Als X [] MR.gNil:=by
 refine PGs.imp Alf ?_;rintro vs σ H Q ⟨α,δ,L,us,A,S,r,δ',L',e,q⟩;cases us with
 | nil=>cases e;exact ⟨by unfold RepL at r;exact r,q σ H α (.refl _ _) A S⟩
 | cons u us=>cases e
theorem A8{f:FG}{g:FGs}(h1:PGF X e f)(h2:Als X es g)(hs:(assignEach (e::es) X.env).map (·.2)=assign e X.env::(assignEach es X.env).map (·.2):=by rfl):Als X (e::es) (MR.gCons f g):=by
 refine PGs.imp (Ai2 h1 h2 hs) ?_;rintro vs σ H Q ⟨α,δ,L,us,A,S,r,δ',L',e,q⟩;cases us with
 | nil=>cases e
 | cons u us=>
  unfold RepL at r;obtain ⟨x,xs,rfl,r1,r2⟩:=r;obtain ⟨⟨δ1,L1⟩,e1,e⟩:=aB.mp e;refine ⟨x,xs,rfl,α,δ,L,u,A,S,r1,δ1,L1,e1,fun σ1 H1 α1 g1 A1 S1=>?_⟩;exact ⟨α1,δ1,L1,us,A1,S1,r2.mono g1,δ',L',e,fun σ2 H2 α2 g2 A2 S2=>q σ2 H2 α2 Zak A2 S2⟩
def gTup(n:Nat)(g:FGs):FG:=fun u δ L=>match u with | .tup us=>if us.length=n then g us δ L else ψ | _=>ψ
theorem Dy{g:FGs}(hc:X.calm=true)(h:Als X es g)(hn:(assignEach es X.env).length=n:=by rfl)(hst:(assignEach es X.env).findIdx? (·.1)=ψ:=by rfl):PGF X (.Tuple es k pos) (MR.gTup n g):=by
 refine PG.imp (Apm hc h hn hst) ?_;rintro v σ H Q ⟨α,δ,L,u,A,S,r,δ',L',e,q⟩;cases u with
 | tup us=>
  unfold RepU at r;obtain ⟨a,xs,rfl,s,r⟩:=r;unfold MR.gTup at e;simp only at e;split at e
  ·rename_i hl;exact ⟨a,xs,rfl,s,by rw[<- r.length];exact hl,α,δ,L,us,A,S,r,δ',L',e,q⟩
  ·cases e
 | _=>simp[MR.gTup] at e
def Ba(fe:FE)(g:FG):FS:=fun δ L=>(fe δ L).bind fun p=>(g p.1 δ p.2).map fun q=>(.nx q.1,q.2)
theorem Og{g:FG}(he:PEF X e fe)(hg:PGF X tg g)(hs:swapsWithSole [tg] e pos.line X.env=pure false:=by rfl)(hw:swappedStores [tg] e X.env=pure ψ:=by rfl)(h1:(assignEach [tg] X.env).map (·.2)=[assign tg X.env]:=by rfl) :
  PSF X (.Assign [tg] e pos) (Ba fe g):=by
 refine PS.imp (Aow he hg hs hw h1) ?_;rintro D σ H ⟨α,δ,L,A,S,fl,L',e,q⟩;obtain ⟨⟨u,L1⟩,e1,e⟩:=aB.mp e;obtain ⟨⟨δ2,L2⟩,e2,e⟩:=aJ.mp e;cases e;exact ⟨α,δ,L,A,S,u,L1,e1,fun v H1 α1 g1 A1 r1=>⟨α1,δ,L1,u,A1,S.mono g1,r1,δ2,_,e2,fun σ2 H2 α2 g2 A2 S2=>q σ2 H2 α2 Zak A2 S2⟩⟩
theorem Av{pos':Pos}(hN:X.N.Nodup)(he:PEF X e fe)(hi:X.N[i]? = ξ x:=by rfl)(hx:Loc X.env.scope x:=by first | exact xI rfl | exact wG rfl)
  (hs:swapsWith e (ξ (.Name x pos')) pos.line X.env=pure false:=by rfl) (hf:X.fn x=true\/X.env.scope.names.lookup x=ξ .local:=by first | exact .inl rfl | exact .inr rfl) :
  PSF X (.Assign [.Name x pos'] e pos) (Ba fe (gN i)):=by
 refine PS.imp (Ap0 (i:=i) hN hi hx he hs hf) ?_;rintro D σ H ⟨α,δ,L,A,S,fl,L',e,q⟩;obtain ⟨⟨u,L1⟩,e1,e⟩:=aB.mp e;obtain ⟨⟨δ2,L2⟩,e2,e⟩:=aJ.mp e;cases e;cases e2;exact ⟨α,δ,L,A,S,u,_,e1,fun v H1 α1 g1 A1 r1=>q _ H1 α1 g1 A1 ((S.mono g1).set i r1)⟩
end
def Gq(L:UH)(n:Nat):Option (List U):=match L[n]? with
 | some (.lst us)=>ξ us
 | _=>ψ
def Ap(L:UH)(n:Nat):Option (List U):=match L[n]? with
 | some (.lst us)=>ξ us
 | some (.ro us)=>ξ us
 | _=>ψ
inductive IU where
 | seq (us:List U) | ref (n:Nat) | enm (n:Nat) | zip2 (n m:Nat) | zipT (us:List U) (m:Nat) | zipL (n:Nat) (ws:List U)
noncomputable def Pu:Option U->Option U->Option U
 | some x,ξ y=>ξ (.tup [x,y])
 | _,_=>ψ
def IU.at(i:IU)(k:Nat)(L:UH):Option (Option U):=match i with
 | .seq us=>ξ us[k]?
 | .ref n=>match L[n]? with
  | some (.lst us)=>ξ us[k]?
  | some (.ro us)=>ξ us[k]?
  | _=>ψ
 | .enm n=>(Ap L n).map fun us=>(us[k]?).map fun u=>.tup [.int k,u]
 | .zip2 n m=>(Ap L n).bind fun us=>(Ap L m).map fun ws=>Pu us[k]? ws[k]?
 | .zipT us m=>(Ap L m).map fun ws=>Pu us[k]? ws[k]?
 | .zipL n ws=>(Ap L n).map fun us=>Pu us[k]? ws[k]?
def IU.size(i:IU)(L:UH):Nat:=match i with
 | .seq us=>us.length
 | .ref n=>match L[n]? with
  | some (.lst us)=>us.length
  | some (.ro us)=>us.length
  | _=>0
 | .enm n=>match Ap L n with
  | some us=>us.length
  | none=>0
 | .zip2 n m=>match Ap L n,Ap L m with
  | some us,ξ ws=>min us.length ws.length
  | _,_=>0
 | .zipT us m=>match Ap L m with
  | some ws=>min us.length ws.length
  | none=>0
 | .zipL n ws=>match Ap L n with
  | some us=>min us.length ws.length
  | none=>0
abbrev FI:=UE->UH->Option (IU×UH)
def P4(K:aL)(J:It)(i:IU)(H:Hp)(α:List Addr):Prop:=∀ (H2:Hp) (α2:List Addr) (L2:UH),Gr H α H2 α2->Abs K H2 α2 L2->∀ k:Nat,
 (∀ u,i.at k L2=ξ (ξ u)->J.go k H2/\∀ x H3,J.yld k H2 x H3->Gr H2 α2 H3 α2/\Abs K H3 α2 L2/\RepU K H3 α2 u x)/\(i.at k L2=ξ ψ->J.stop k H2)
inductive lI(K:aL)(f:FI)(σ:L2.St)(H:Hp)(R:It->Hp->Prop):Prop
 | mk (α:List Addr) (δ:UE) (L:UH) (A:Abs K H α L) (S:RepS K H α δ σ) (i:IU) (L':UH) (e:f δ L=ξ (i,L')) (q:∀ J H' α',Gr H α H' α'->Abs K H' α' L'->P4 K J i H' α'->R J H'):lI K f σ H R
def PIF(X:Cx)(tg iter:Expr)(f:FI):Prop:=PI X tg iter (lI X.K f)
variable {iter:Expr}{fi:FI}
section
variable {l:Expr}
theorem PI.imp{t t':TI}(h:PI X tg iter t)(hi:∀ σ H R,t' σ H R->t σ H R):PI X tg iter t':=fun pins s σ H R I q=>h pins s σ H R I (hi σ H R q)
theorem PI.or{t t':TI}(h:PI X tg iter t)(h':PI X tg iter t'):PI X tg iter (fun σ H R=>t σ H R\/t' σ H R):=fun pins s σ H R I q=>by
 rcases q with q | q
 ·exact h pins s σ H R I q
 ·exact h' pins s σ H R I q
def Il(u:U)(L:UH):Option IU:=match u with
 | .tup us=>ξ (.seq us)
 | .ref n=>match L[n]? with
  | some (.lst _)=>ξ (.ref n)
  | some (.ro _)=>ξ (.ref n)
  | _=>ψ
 | _=>ψ
theorem Acl(ea:α[n]? = ξ a):P4 K (Itl K a) (.ref n) H α:=by
 intro H2 α2 L2 g A2 k;have ea2:=g.at ea;have go:∀ (us:List U) (xs:List V),SqL K H2 a xs->RepL K H2 α2 us xs->(∀ ys,SqL K H2 a ys->True)->(∀ u,us[k]? = ξ u->(Itl K a).go k H2/\∀ x H3,(Itl K a).yld k H2 x H3->Gr H2 α2 H3 α2/\Abs K H3 α2 L2/\RepU K H3 α2 u x)/\(us[k]? = ψ->(Itl K a).stop k H2):=by
  intro us xs sq r _;refine ⟨fun u eu=>?_,fun eu=>?_⟩
  ·obtain ⟨x,ex,rx⟩:=r.get eu;refine ⟨⟨xs,x,sq,ex⟩,?_⟩;rintro y H3 ⟨rfl,hy⟩;have:=hy xs sq;rw[ex] at this;cases this;exact ⟨.refl _ _,A2,rx⟩
  ·exact ⟨xs,sq,by rw[<- r.length];exact cU.mp eu⟩
 unfold IU.at;simp only;cases q:L2[n]? with
 | none=>simp
 | some o=>
  have hr:=A2.rep n a o ea2 q;cases o with
  | lst us=>
   obtain ⟨xs,e,r⟩:=hr;obtain ⟨h1,h2⟩:=go us xs (.of e) r fun _ _=>trivial
   exact ⟨fun u eu=>h1 u (bQ eu),fun eu=>h2 (bQ eu)⟩
  | ro us=>
   obtain ⟨xs,e,r⟩:=hr;obtain ⟨h1,h2⟩:=go us xs e.sq r fun _ _=>trivial
   exact ⟨fun u eu=>h1 u (bQ eu),fun eu=>h2 (bQ eu)⟩
  | dic kvs=>simp
  | rod kvs=>simp
  | ins C fs=>simp
  | exc C fr fs=>simp
theorem Al5(sq:SqT K H a xs)(r:RepL K H α us xs):P4 K (Itt K a) (.seq us) H α:=by
 intro H2 α2 L2 g A2 k;have sq2:=g.st.sqT (K:=K) sq;have r2:=r.mono g;refine ⟨fun u eu=>?_,fun eu=>?_⟩
 ·obtain ⟨x,ex,rx⟩:=r2.get (bQ eu);refine ⟨⟨xs,x,sq2,ex⟩,?_⟩;rintro y H3 ⟨rfl,hy⟩;have:=hy xs sq2;rw[ex] at this;cases this;exact ⟨.refl _ _,A2,rx⟩
 ·exact ⟨xs,sq2,by rw[<- r2.length];exact cU.mp (bQ eu)⟩
theorem Aju(lo:Int)(n:Nat):P4 K (Itr lo n) (.seq ((bB n).map fun i=>U.int (lo+(i:Nat)))) H α:=by
 intro H2 α2 L2 g A2 k;refine ⟨fun u eu=>?_,fun eu=>?_⟩
 ·have eu:=bQ eu;rw[bA] at eu;by_cases hk:k < n
  ·rw[dR hk] at eu;simp at eu;refine ⟨hk,?_⟩;rintro x H3 ⟨rfl,rfl⟩;subst eu;exact ⟨.refl _ _,A2,rfl⟩
  ·rw[cH (by simpa using hk)] at eu;simp at eu
 ·have:=cU.mp (bQ eu);show n<=k;simpa using this
def Bj(f:FE):FI:=fun δ L=>(f δ L).bind fun p=>(Il p.1 p.2).map fun i=>(i,p.2)
theorem B5(h:PEF X l fe):PIF X tg l (Bj fe):=by
 refine PI.imp (PI.or (Aks h) (Aok h)) ?_;rintro σ H R ⟨α,δ,L,A,S,i,L3,e,q⟩;obtain ⟨⟨u,L1⟩,e1,e⟩:=aB.mp e;obtain ⟨j,e2,e⟩:=aJ.mp e;cases e;cases u with
 | tup us=>
  cases e2;refine .inr ⟨α,δ,L,A,S,_,_,e1,fun x H1 α1 g1 A1 r1=>?_⟩;unfold RepU at r1;obtain ⟨a,xs,rfl,sq,r⟩:=r1;exact ⟨a,rfl,⟨xs,sq⟩,q _ H1 α1 g1 A1 (Al5 sq r)⟩
 | ref n=>
  refine .inl ⟨α,δ,L,A,S,_,_,e1,fun x H1 α1 g1 A1 r1=>?_⟩;unfold RepU at r1;obtain ⟨a,ea,rfl⟩:=r1;refine ⟨a,rfl,?_⟩;unfold Il at e2;simp only at e2;cases w:L1[n]? with
  | none=>simp only[w] at e2;cases e2
  | some o=>
   have hr:=A1.rep n a o ea w;cases o with
   | lst us=>simp only[w] at e2;cases e2;obtain ⟨xs,e,r⟩:=hr;exact ⟨⟨xs,.of e⟩,q _ H1 α1 g1 A1 (Acl ea)⟩
   | ro us=>simp only[w] at e2;cases e2;obtain ⟨xs,e,r⟩:=hr;exact ⟨⟨xs,e.sq⟩,q _ H1 α1 g1 A1 (Acl ea)⟩
   | dic kvs=>simp only[w] at e2;cases e2
   | rod kvs=>simp only[w] at e2;cases e2
   | ins C fs=>simp only[w] at e2;cases e2
   | exc C fr fs=>simp only[w] at e2;cases e2
 | _=>cases e2
noncomputable def Bh(lo:Int)(n:Nat):List U:=(bB n).map fun i=>U.int (lo+(i:Nat))
def Jd(g:FA):FI:=fun δ L=>(g δ L).bind fun p=>match p.1 with
 | [.int j]=>if -(2 ^ 62)<=j/\j < 2 ^ 62 then ξ (.seq (Bh 0 j.toNat),p.2) else ψ
 | _=>ψ
def Amo(g:FA):FI:=fun δ L=>(g δ L).bind fun p=>match p.1 with
 | [.int i,.int j]=>if (-(2 ^ 62)<=i/\i < 2 ^ 62)/\-(2 ^ 62)<=j/\j < 2 ^ 62 then ξ (.seq Zdb,p.2) else ψ
 | _=>ψ
theorem RepL.one(h:RepL K H α [u] xs):∃ x,xs=[x]/\RepU K H α u x:=by
 unfold RepL at h;obtain ⟨x,r,e,h1,h2⟩:=h;unfold RepL at h2;subst h2;exact ⟨x,e,h1⟩
theorem RepL.two{w:U}(h:RepL K H α [u,w] xs):∃ x y,xs=[x,y]/\RepU K H α u x/\RepU K H α w y:=by
 unfold RepL at h;obtain ⟨x,r,e,h1,h2⟩:=h;obtain ⟨y,e2,h3⟩:=h2.one;subst e2;exact ⟨x,y,e,h1,h3⟩
theorem M6{a:Expr}{p:Pos}(hg:Gl X "range")(hm:X.mg "range" = ψ)(ha:PAF X [a] g)(hs:bK [a] X.env=[ZO]:=by rfl):PIF X tg (.Call (.Name "range" p) [a] [] pos) (Jd g):=by
 refine PI.imp (Afj hg hm ha hs) ?_;rintro σ H R ⟨α,δ,L,A,S,i,L3,e,q⟩;obtain ⟨⟨us,L1⟩,e1,e⟩:=aB.mp e;refine ⟨α,δ,L,A,S,us,L1,e1,fun xs H1 α1 g1 A1 r1=>?_⟩;simp only at e;split at e
 ·rename_i _ j;split at e
  ·rename_i hj;cases e;obtain ⟨x,rfl,rx⟩:=r1.one;unfold RepU at rx;subst rx;exact ⟨j,rfl,hj.1,hj.2,q _ H1 α1 g1 A1 (Aju 0 _)⟩
  ·cases e
 ·cases e
def Kc(i:IU)(g:FG)(body:FS):Nat->Nat->UE->UH->Option (Fl×UH)
 | 0,_,_,_=>ψ
 | m+1,k,δ,L=>match i.at k L with
  | none=>ψ
  | some ψ=>ξ (.nx δ,L)
  | some (ξ u)=>(g u δ L).bind fun p=>(body p.1 p.2).bind fun q=>match q.1 with
   | .nx δ'=>Kc i g body m (k+1) δ' q.2
   | .ct δ'=>Kc i g body m (k+1) δ' q.2
   | .bk δ'=>ξ (.nx δ',q.2)
   | .rt w=>ξ (.rt w,q.2)
def Jo(fi:FI)(g:FG)(body:FS):FS:=fun δ L=>(fi δ L).bind fun p=>Kc p.1 g body (p.1.size p.2+1) 0 δ p.2
inductive FI_(K:aL)(D:Ends)(H1:Hp)(α1:List Addr)(fl:Fl)(L':UH)(go:UE->UH->Option (Fl×UH))(σ2:_root_.L2.St)(H2:Hp):Prop
 | mk (α2:List Addr) (δ2:UE) (L2:UH) (g2:Gr H1 α1 H2 α2) (A2:Abs K H2 α2 L2) (S2:RepS K H2 α2 δ2 σ2) (e2:go δ2 L2=ξ (fl,L')) (q2:Post K D H2 α2 fl L'):FI_ K D H1 α1 fl L' go σ2 H2
theorem Ho{body:List Stmt}{g:FG}{fb:FS}(hp:tM Zg X.A X.env X.xe)(hc:X.calm=true)(hi:PIF X tg iter fi)(hg:PGF X tg g)(hb:Ua X body fb)
  (hs:∀ x,foldedSetIterable iter X.env x=pure x:=by intro _;rfl):PSF X (.For tg iter body [] pos) (Jo fi g fb):=by
 refine PS.imp (Ao3 hp hc hi hg hb hs) ?_;rintro D σ H ⟨α,δ,L,A,S,fl,L',e,q⟩;obtain ⟨⟨it,L1⟩,e1,e⟩:=aB.mp e;refine ⟨α,δ,L,A,S,it,L1,e1,fun J H1 α1 g1 A1 hJ=>?_⟩;refine ⟨fun k m=>FI_ X.K D H1 α1 fl L' (Kc it g fb m k),⟨_,α1,δ,L1,.refl _ _,A1,S.mono g1,e,q.from g1⟩,?_⟩;rintro k m σ2 H2 ⟨α2,δ2,L2,g2,A2,S2,e2,q2⟩;cases m with
 | zero=>cases e2
 | succ m=>
  obtain ⟨hgo,hstop⟩:=hJ H2 α2 L2 g2 A2 k;unfold Kc at e2;cases hat:it.at k L2 with
  | none=>rw[hat] at e2;cases e2
  | some o=>
   cases o with
   | none=>
    rw[hat] at e2;cases e2;exact .inl ⟨hstop hat,q2 σ2 H2 α2 (.refl _ _) A2 S2⟩
   | some u=>
    rw[hat] at e2;obtain ⟨go,yld⟩:=hgo u hat;obtain ⟨⟨δ3,L3⟩,e3,e2⟩:=aB.mp e2;obtain ⟨⟨fl4,L4⟩,e4,e2⟩:=aB.mp e2;refine .inr ⟨go,FI_ X.K D H1 α1 fl L' (Kc it g fb m (k+1)),fun σ5 H5 h5=>⟨m,fE _,h5⟩,fun x H3 y3=>?_⟩;obtain ⟨g3,A3,r3⟩:=yld x H3 y3;refine ⟨α2,δ2,L2,u,A3,S2.mono g3,r3,δ3,L3,e3,fun σ4 H4 α4 g4 A4 S4=>⟨α4,δ3,L3,A4,S4,fl4,L4,e4,?_⟩⟩;have gA:=g2.trans (g3.trans g4);have gB:=g3.trans g4;cases fl4 with
    | nx δ5=>exact fun σ5 H5 α5 g5 A5 S5=>⟨α5,δ5,L4,gA.trans g5,A5,S5,e2,q2.from (gB.trans g5)⟩
    | ct δ5=>exact fun σ5 H5 α5 g5 A5 S5=>⟨α5,δ5,L4,gA.trans g5,A5,S5,e2,q2.from (gB.trans g5)⟩
    | bk δ5=>cases e2;exact fun σ5 H5 α5 g5 A5 S5=>q2 σ5 H5 α5 (gB.trans g5) A5 S5
    | rt w=>cases e2;exact fun v H5 α5 g5 A5 r5=>q2 v H5 α5 (gB.trans g5) A5 r5
def Ib(c:FT)(body:FS):Nat->UE->UH->Option (Fl×UH)
 | 0,_,_=>ψ
 | m+1,δ,L=>(c δ L).bind fun p=>if p.1=true then (body δ p.2).bind fun q=>match q.1 with
   | .nx δ'=>Ib c body m δ' q.2
   | .ct δ'=>Ib c body m δ' q.2
   | .bk δ'=>ξ (.nx δ',q.2)
   | .rt w=>ξ (.rt w,q.2)
  else ξ (.nx δ,p.2)
inductive WI_(K:aL)(D:Ends)(fl:Fl)(L':UH)(go:UE->UH->Option (Fl×UH))(σ2:_root_.L2.St)(H2:Hp):Prop
 | mk (α2:List Addr) (δ2:UE) (L2:UH) (A2:Abs K H2 α2 L2) (S2:RepS K H2 α2 δ2 σ2) (e2:go δ2 L2=ξ (fl,L')) (q2:Post K D H2 α2 fl L'):WI_ K D fl L' go σ2 H2
theorem Ae2{body:List Stmt}{tc:FT}{fb:FS}(n:Nat)(hp:tM Zg X.A X.env X.xe)(hc:PTF X c tc)(hb:Ua X body fb):PSF X (.While c body [] pos) (Ib tc fb n):=by
 refine PS.imp (Aiq hp hc hb) ?_;rintro D σ H ⟨α,δ,L,A,S,fl,L',e,q⟩;refine ⟨fun m=>WI_ X.K D fl L' (Ib tc fb m),⟨n,α,δ,L,A,S,e,q⟩,?_⟩;rintro m σ2 H2 ⟨α2,δ2,L2,A2,S2,e2,q2⟩;cases m with
 | zero=>cases e2
 | succ m=>
  unfold Ib at e2;obtain ⟨⟨b,L3⟩,e3,e2⟩:=aB.mp e2;refine ⟨α2,δ2,L2,A2,S2,b,L3,e3,fun H3 α3 g3 A3=>?_⟩;cases b with
  | false=>cases e2;exact Aac (q2 σ2 H3 α3 g3 A3 (S2.mono g3))
  | true=>
   obtain ⟨⟨fl4,L4⟩,e4,e2⟩:=aB.mp e2;refine Aat ⟨WI_ X.K D fl L' (Ib tc fb m),fun σ5 H5 h5=>⟨m,fE _,h5⟩,?_⟩;refine ⟨α3,δ2,L3,A3,S2.mono g3,fl4,L4,e4,?_⟩;cases fl4 with
   | nx δ5=>exact fun σ5 H5 α5 g5 A5 S5=>⟨α5,δ5,L4,A5,S5,e2,q2.from (g3.trans g5)⟩
   | ct δ5=>exact fun σ5 H5 α5 g5 A5 S5=>⟨α5,δ5,L4,A5,S5,e2,q2.from (g3.trans g5)⟩
   | bk δ5=>cases e2;exact fun σ5 H5 α5 g5 A5 S5=>q2 σ5 H5 α5 (g3.trans g5) A5 S5
   | rt w=>cases e2;exact fun v H5 α5 g5 A5 r5=>q2 v H5 α5 (g3.trans g5) A5 r5
end
def fnU(n m:Nat)(body:FS):FN:=fun us L=>if us.length=m then (body (us.map ξ++bL (n - us.length) ψ) L).bind fun p=>match p.1 with
 | .rt u=>ξ (u,p.2)
 | .nx _=>ξ (.non,p.2)
 | _=>ψ
 else ψ
variable {P:cO}{w:dH}
section
variable {mg:Str->Option aH}{base:Heap}
theorem Fun.okF{qual:Str}{st:Stmt}{f:Addr}{fd:eT}{N ps:List Str}{body:FS}(F:Fun K x qual st f fd)(S:FnScope N ps (Aq st))
  (hbody:∀ (cdv:aH) (A:eE) (outer:List nC) (s:aR) (H:Hp) (E:XK),Room k Za1->Ua (X5 CX0 P w K mg base N qual (Aq st) f cdv A outer s H E).nox (Ew st) body) :
  FnOk P w K mg base CX0 (k+1) f fd ps (spF K ps.length (fnU N.length ps.length body)):=by
 refine F.ok S (fun vs H Q E ⟨α,L,us,A,r,hl,_,_,_,_⟩=>by rw[<- r.length];exact hl) (fun cdv A outer s H vs Q E hr h=>?_);obtain ⟨α,L,us,Ab,r,hl,u,L',e,q⟩:=h;refine ⟨_,hbody cdv A outer s H E hr,?_⟩;unfold fnU at e;rw[if_pos hl] at e;obtain ⟨⟨fl,L1⟩,e1,e⟩:=aB.mp e;refine ⟨α,_,L,Ab,RepS.start N r,fl,L1,e1,?_⟩;cases fl with
 | rt w=>cases e;exact q
 | nx δ=>cases e;exact fun σ' H' α' g' A' S'=>q .non H' α' g' A' rfl
 | bk δ=>cases e
 | ct δ=>cases e
end
section
variable {x:V}
theorem Tz(h:Gq L n=ξ us):L[n]? = ξ (.lst us):=by
 unfold Gq at h;split at h
 ·rename_i e;cases h;exact e
 ·cases h
theorem Ou(A:Abs K H α L)(h:Gq L n=ξ us):∃ a xs,α[n]? = ξ a/\H a=ξ (.lst xs)/\RepL K H α us xs:=by
 obtain ⟨a,ea,xs,e,r⟩:=A.addr (Tz h);exact ⟨a,xs,ea,e,r⟩
theorem Fm(A:Abs K H α L)(h:Ap L n=ξ us):∃ a xs,α[n]? = ξ a/\SqL K H a xs/\RepL K H α us xs:=by
 unfold Ap at h;split at h
 ·rename_i e;cases h;obtain ⟨a,ea,xs,e,r⟩:=A.addr e;exact ⟨a,xs,ea,.of e,r⟩
 ·rename_i e;cases h;obtain ⟨a,ea,xs,e,r⟩:=A.addr e;exact ⟨a,xs,ea,e.sq,r⟩
 ·cases h
theorem Abs.setL{ys:List V}{ws:List U}(A:Abs K H α L)(h:Gq L n=ξ us)(ea:α[n]? = ξ a)(e:H a=ξ (.lst xs))(r:RepL K H α ws ys) :
  Gr H α (upd H a (.lst ys)) α/\Abs K (upd H a (.lst ys)) α (L.set n (.lst ws)):=by
 have g:Gr H α (upd H a (.lst ys)) α:=⟨⟨[],Za⟩,.write e (by exact trivial) _⟩;obtain ⟨A',_⟩:=A.put (o:=.lst ys) (u:=.lst ws) ea (Tz h) rfl rfl e (by exact trivial) ⟨ys,upd_same,r.mono g⟩;exact ⟨g,A'⟩
theorem RepU.ref_of(A:Abs K H α L)(h:RepU K H α (.ref n) x):∃ a,α[n]? = ξ a/\x = .ref a:=by unfold RepU at h;exact h
end
def Be:S2:=fun u w L=>match u,w with
 | .int i,.int j=>ξ (.int (i+j),L)
 | .str a,.str b=>if small Zct=true then ξ (.str (a++b),L) else ψ
 | .tup a,.tup b=>if a.isEmpty=false/\small Zct=true then ξ (.tup (a++b),L) else ψ
 | .ref n,.ref m=>(Gq L n).bind fun a=>(Gq L m).bind fun b=>if small Zct=true then ξ (.ref L.length,L++[.lst (a++b)]) else ψ
 | _,_=>ψ
def Ah2(K:aL):R2:=fun x y H Q=>rI0 (fun i j=>.int (i+j)) x y H Q\/(∃ i j,x = .str i/\y = .str j/\i.length+j.length<=sizeLine/\Q (.str (i++j)) H)\/Amp K x y H Q\/As3 x y H Q
theorem B2:OpR X (gQ .Add) (Ah2 X.K):=Ao2.or (Aae.or (Akd.or Aoz))
theorem B1:Es K (Ah2 K) Be:=by
 intro H α L u w x y z L' Q A ru rw e q;unfold Be at e;split at e
 ·cases e;unfold RepU at ru rw;exact .inl ⟨_,_,ru,rw,q _ H α (.refl _ _) A rfl⟩
 ·split at e
  ·rename_i h;cases e;unfold RepU at ru rw;exact .inr (.inl ⟨_,_,ru,rw,Fs h,q _ H α (.refl _ _) A rfl⟩)
  ·cases e
 ·rename_i a b;split at e
  ·rename_i h;cases e;unfold RepU at ru rw;obtain ⟨p,xs,rfl,s1,r1⟩:=ru;obtain ⟨p2,ys,rfl,s2,r2⟩:=rw;have e1:=r1.length;have e2:=r2.length;refine .inr (.inr (.inl ⟨p,p2,xs,ys,rfl,rfl,s1,s2,?_,by rw[<- e1,<- e2];exact Fs h.2,fun hy=>?_,fun hy l hl=>?_⟩))
   ·intro hx;subst hx;cases a with
    | nil=>simp at h
    | cons _ _=>simp at e1
   ·subst hy;have hb:b=[]:=by
     cases b with
     | nil=>rfl
     | cons _ _=>simp at e2
    subst hb;refine q _ H α (.refl _ _) A ?_;unfold RepU;exact ⟨p,xs,rfl,s1,by rw[bO];exact r1⟩
   ·obtain ⟨g,A',r⟩:=A.tup (r1.append r2) hl;exact q _ _ α g A' r
  ·cases e
 ·rename_i n m;obtain ⟨a,ha,e⟩:=aB.mp e;obtain ⟨b,hb,e⟩:=aB.mp e;split at e
  ·rename_i h;cases e;obtain ⟨p,xs,e1,h1,r1⟩:=Ou A ha;obtain ⟨p2,ys,e2,h2,r2⟩:=Ou A hb;obtain ⟨p',e1',rfl⟩:=ru.ref_of A;obtain ⟨p2',e2',rfl⟩:=rw.ref_of A;rw[e1] at e1';cases e1';rw[e2] at e2';cases e2';refine .inr (.inr (.inr ⟨p,p2,xs,ys,rfl,rfl,h1,h2,by rw[<- r1.length,<- r2.length];exact Fs h,fun l hl=>?_⟩));obtain ⟨g,A',r⟩:=A.lst (r1.append r2) hl;exact q _ _ _ g A' r
  ·cases e
 ·cases e
def Afo(C:Int->Int->Bool)(g:Int->Int->U):S2:=fun u w L=>match u,w with
 | .int i,.int j=>if C i j=true then ξ (g i j,L) else ψ
 | _,_=>ψ
theorem Ahd{C:Int->Int->Prop}{Cb:Int->Int->Bool}{g:Int->Int->V}{g':Int->Int->U}(hC:∀ i j,Cb i j=true->C i j)(hg:∀ i j H α,RepU K H α (g' i j) (g i j)):Es K (rI C g) (Afo Cb g'):=by
 intro H α L u w x y z L' Q A ru rw e q;unfold Afo at e;split at e
 ·split at e
  ·rename_i h;cases e;unfold RepU at ru rw;exact ⟨_,_,ru,rw,hC _ _ h,q _ H α (.refl _ _) A (hg _ _ _ _)⟩
  ·cases e
 ·cases e
def Sj(g:Int->Int->U):S2:=fun u w L=>match u,w with
 | .int i,.int j=>ξ (g i j,L)
 | _,_=>ψ
theorem Vs{g:Int->Int->V}{g':Int->Int->U}(hg:∀ i j H α,RepU K H α (g' i j) (g i j)):Es K (rI0 g) (Sj g'):=by
 intro H α L u w x y z L' Q A ru rw e q;unfold Sj at e;split at e
 ·cases e;unfold RepU at ru rw;exact ⟨_,_,ru,rw,q _ H α (.refl _ _) A (hg _ _ _ _)⟩
 ·cases e
def Bq:S2:=Sj fun i j=>.int (i - j)
theorem Fp:Es K (rI0 fun i j=>.int (i - j)) Bq:=Vs fun _ _ _ _=>rfl
noncomputable def Hq(i j:Int):Bool:=(decide (-(2 ^ 64) < i)&&decide (i < 2 ^ 64)) || (decide (-(2 ^ 64) < j)&&decide (j < 2 ^ 64))
def Df:S2:=fun u w L=>match u,w with
 | .int i,.int j=>if Hq i j=true then ξ (.int (i * j),L) else ψ
 | .str a,.int j=>if a.length<=1000/\-1000<=j/\j<=1000 then ξ (.str (xJ a j),L) else ψ
 | .ref n,.int k=>(Gq L n).bind fun a=>if -1000000<=k/\k<=1000000/\small (a.length * k.toNat)=true then ξ (.ref L.length,L++[.lst (bL k.toNat a).flatten]) else ψ
 | _,_=>ψ
def Am8:R2:=fun x y H Q=>rI CMul (fun i j=>.int (i * j)) x y H Q\/(∃ a j,x = .str a/\y = .int j/\MulOk a j/\Q (.str (xJ a j)) H)\/Arl x y H Q
theorem Aa1:OpR X (gQ .Mult) (fun x y H Q=>∃ a j,x = .str a/\y = .int j/\MulOk a j/\Q (.str (xJ a j)) H):=by
 intro pins s σ H x y v u Q I rx ry h;obtain ⟨a,j,rfl,rfl,hok,q⟩:=h;obtain ⟨t,rfl⟩:=rx;obtain ⟨t',rfl⟩:=ry;exact SB.mul hok fun t' k=>⟨.str (xJ a j),H,I.tok _,⟨_,rfl⟩,q⟩
theorem G3:OpR X (gQ .Mult) Am8:=Ant.or (Aa1.or An3)
theorem RepL.flat(h:RepL K H α us xs):∀ k:Nat,RepL K H α (bL k us).flatten (bL k xs).flatten
 | 0=>.nil
 | k+1=>by rw[eR,eR,eK,eK];exact h.append (RepL.flat h k)
theorem G0:Es K Am8 Df:=by
 intro H α L u w x y z L' Q A ru rw e q;unfold Df at e;split at e
 ·rename_i i j;split at e
  ·rename_i h;cases e;unfold RepU at ru rw;refine .inl ⟨_,_,ru,rw,?_,q _ H α (.refl _ _) A rfl⟩;simp only[Hq,mL,bZ,decide_eq_true_eq] at h;exact h
  ·cases e
 ·rename_i a j;split at e
  ·rename_i h;cases e;unfold RepU at ru rw;exact .inr (.inl ⟨_,_,ru,rw,mulOk_of 1000 1000 h.1 Ze Ze Zb Zb,q _ H α (.refl _ _) A rfl⟩)
  ·cases e
 ·rename_i n k;obtain ⟨a,ha,e⟩:=aB.mp e;split at e
  ·rename_i h;cases e;obtain ⟨p,xs,e1,h1,r1⟩:=Ou A ha;obtain ⟨p',e1',rfl⟩:=ru.ref_of A;rw[e1] at e1';cases e1';unfold RepU at rw;refine .inr (.inr ⟨p,k,xs,rfl,rw,h1,Ze,Ze,by rw[<- r1.length];exact Fs h.2.2,fun l hl=>?_⟩);obtain ⟨g,A',r⟩:=A.lst (r1.flat k.toNat) hl;exact q _ _ _ g A' r
  ·cases e
 ·cases e
def Agc(i j:Int):Prop:=0 < j/\j < 1152921504606846976
theorem Ij:OpR X (gQ .FloorDiv) (rI Agc fun i j=>.int (i / j)):=opI fun i j _ _ _ _ _ hc q=>by
 have h1:(0:Int) < j:=hc.1;have h2:j < 1152921504606846976:=hc.2;refine floordiv_int Ze (by rw[Int.fdiv_eq_ediv_of_nonneg i Ze];exact q) (.inl (PyProof.noPylong_of_log2 ?_));have h3:j.natAbs.log2 < 60:=(Nat.log2_lt Ze).mpr Ze;omega
noncomputable def Kl(i j:Int):Bool:=decide (0 < j)&&decide (j < 1152921504606846976)
def Fy:S2:=Afo Kl fun i j=>.int (i / j)
theorem Ls:Es K (rI Agc fun i j=>.int (i / j)) Fy:=Ahd (fun i j h=>by simpa[Kl,Agc] using h) fun _ _ _ _=>rfl
def Gb:S2:=Afo (fun _ j=>decide (0 < j)) fun i j=>.int (i % j)
theorem Gy:Es K (rI (fun _ j=>0 < j) fun i j=>.int (i % j)) Gb:=Ahd (fun i j h=>by simpa using h) fun _ _ _ _=>rfl
noncomputable def Tu(i j:Int):Bool:=decide (0<=j)&&decide (j<=1000000)&&decide (i.natAbs < 2 ^ 64)
def Gd:S2:=Afo Tu fun i j=>.int (i ^ j.toNat)
theorem Ox:Es K (rI Aru fun i j=>.int (i ^ j.toNat)) Gd:=Ahd (fun i j h=>by simp[Tu] at h;exact ⟨h.1.1,h.1.2,h.2⟩) fun _ _ _ _=>rfl
def Aig:S2:=Sj fun i j=>.bl (decide (i<=j))
def Dq:S2:=Sj fun i j=>.bl (decide (j < i))
def Asn:S2:=Sj fun i j=>.bl (decide (j<=i))
def P8:S2:=Sj fun i j=>.bl (decide (i < j))
theorem Aox:Es K (rI0 fun i j=>.bl (decide (i<=j))) Aig:=Vs fun _ _ _ _=>rfl
theorem Jn:Es K (rI0 fun i j=>.bl (decide (j < i))) Dq:=Vs fun _ _ _ _=>rfl
theorem Ww:Es K (rI0 fun i j=>.bl (decide (i < j))) P8:=Vs fun _ _ _ _=>rfl
noncomputable def mapO{β γ:Type}(f:β->Option γ):List β->Option (List γ)
 | []=>ξ []
 | u::r=>(f u).bind fun d=>(mapO f r).map fun ds=>d::ds
def toP(L:UH):Nat->U->Option wH
 | 0,_=>ψ
 | _+1,.non=>ξ .none
 | _+1,.bl b=>ξ (.bool b)
 | _+1,.int i=>ξ (.int i)
 | _+1,.str x=>ξ (.str x)
 | n+1,.tup l=>(mapO (toP L n) l).map .tuple
 | n+1,.ref k=>(Ap L k).bind fun l=>(mapO (toP L n) l).map .list
variable {pins:List (Addr×Obj)}
section
variable {s:aR}
theorem Vr(ih:∀ (u:U) (x:V) (v:aH) (d:wH),RepU X.K H α u x->RelV x v->toP L n u=ξ d->∃ as,Reads s.heap v d as):∀ (l:List U) (xs:List V) (vs:List aH) (ds:List wH),RepL X.K H α l xs->Vals xs vs->mapO (toP L n) l=ξ ds->∃ as,ReadsAll s.heap vs ds as
 | [],xs,vs,ds,r,hv,e=>by
  unfold RepL at r;subst r;cases hv;cases e;exact ⟨_,.nil⟩
 | u::l,xs,vs,ds,r,hv,e=>by
  unfold RepL at r;obtain ⟨x,xr,rfl,r1,r2⟩:=r;cases hv with
  | cons h1 h2=>
   obtain ⟨d,e1,e⟩:=aB.mp e;obtain ⟨dr,e2,e⟩:=aJ.mp e;subst e;obtain ⟨as,q1⟩:=ih u x _ d r1 h1 e1;obtain ⟨bs,q2⟩:=Vr ih l xr _ dr r2 h2 e2;exact ⟨_,.cons q1 q2⟩
theorem Pf(I:Inv X pins σ H s)(A:Abs X.K H α L):∀ (n:Nat) (u:U) (x:V) (v:aH) (d:wH),RepU X.K H α u x->RelV x v->toP L n u=ξ d->∃ as,Reads s.heap v d as
 | 0,_,_,_,_,_,_,e=>by cases e
 | n+1,u,x,v,d,r,hv,e=>by
  cases u with
  | non=>unfold RepU at r;subst r;cases hv;cases e;exact ⟨_,.none⟩
  | bl b=>unfold RepU at r;subst r;cases hv;cases e;exact ⟨_,.bool b⟩
  | int i=>unfold RepU at r;subst r;obtain ⟨t,rfl⟩:=hv;cases e;exact ⟨_,.int i t⟩
  | str y=>unfold RepU at r;subst r;obtain ⟨t,rfl⟩:=hv;cases e;exact ⟨_,.str y t⟩
  | tup l=>
   unfold RepU at r;obtain ⟨a,xs,rfl,sq,r⟩:=r;cases hv;unfold toP at e;obtain ⟨ds,e1,e⟩:=aJ.mp e;subst e;obtain ⟨its,hv,⟨o,h1,h2,m,h3⟩,_⟩:=I.tuple sq;obtain ⟨as,q⟩:=Vr (Pf I A n) l xs its ds r hv e1;exact ⟨_,.tuple h1 h2 h3 (by simpa using q)⟩
  | ref k=>
   unfold RepU at r;obtain ⟨a,ea,rfl⟩:=r;cases hv;unfold toP at e;obtain ⟨l,hl,e⟩:=aB.mp e;obtain ⟨ds,e1,e⟩:=aJ.mp e;subst e;obtain ⟨a',xs,ea',sq,r⟩:=Fm A hl;rw[ea] at ea';cases ea';obtain ⟨its,hv,⟨o,m,h1,h2,_,h3⟩,_⟩:=I.list sq;obtain ⟨as,q⟩:=Vr (Pf I A n) l xs its ds r hv e1;exact ⟨_,.list h1 h2 h3 (by simpa using q)⟩
end
def eqP(u w:U)(L:UH):Option Bool:=(toP L 8 u).bind fun d=>(toP L 8 w).bind fun e=>if iB d=true/\iB e=true then ξ (eG d e) else ψ
def Aku(K:aL)(neg:Bool):R2:=fun x y H Q=>∃ α L u w b,Abs K H α L/\RepU K H α u x/\RepU K H α w y/\eqP u w L=ξ b/\Q (.bl (if neg then !b else b)) H
theorem Nd(hu:X.A.units+64 < cLine):OpR X (iE .Eq) (Aku X.K false):=by
 intro pins s σ H x y v u Q I rx ry h;obtain ⟨α,L,a,b,k,A,ra,rb,e,q⟩:=h;obtain ⟨d,e1,e⟩:=aB.mp e;obtain ⟨d2,e2,e⟩:=aB.mp e;split at e
 ·rename_i hs;cases e;obtain ⟨as,q1⟩:=Pf I A 8 a x v d ra rx e1;obtain ⟨bs,q2⟩:=Pf I A 8 b y u d2 rb ry e2;exact eq_dataH q1 q2 hs.1 hs.2 hu ⟨.bl _,H,I,rfl,q⟩
 ·cases e
theorem Jp(hu:X.A.units+64 < cLine):OpR X (iE .NotEq) (Aku X.K true):=by
 intro pins s σ H x y v u Q I rx ry h;obtain ⟨α,L,a,b,k,A,ra,rb,e,q⟩:=h;obtain ⟨d,e1,e⟩:=aB.mp e;obtain ⟨d2,e2,e⟩:=aB.mp e;split at e
 ·rename_i hs;cases e;obtain ⟨as,q1⟩:=Pf I A 8 a x v d ra rx e1;obtain ⟨bs,q2⟩:=Pf I A 8 b y u d2 rb ry e2;exact ne_dataH q1 q2 hs.1 hs.2 hu ⟨.bl _,H,I,rfl,q⟩
 ·cases e
def Eu:S2:=fun u w L=>(eqP u w L).map fun b=>(.bl b,L)
def Fw:S2:=fun u w L=>(eqP u w L).map fun b=>(.bl (!b),L)
theorem Ng:Es K (Aku K false) Eu:=by
 intro H α L u w x y z L' Q A ru rw e q;obtain ⟨b,e1,e⟩:=aJ.mp e;cases e;exact ⟨α,_,u,w,b,A,ru,rw,e1,q _ H α (.refl _ _) A rfl⟩
theorem Jx:Es K (Aku K true) Fw:=by
 intro H α L u w x y z L' Q A ru rw e q;obtain ⟨b,e1,e⟩:=aJ.mp e;cases e;exact ⟨α,_,u,w,b,A,ru,rw,e1,q _ H α (.refl _ _) A rfl⟩
def Atl(neg:Bool):S2:=fun u w L=>match u,w with
 | .non,.non=>ξ (.bl (!neg),L)
 | .bl a,.bl b=>ξ (.bl (if neg then !(a == b) else a == b),L)
 | .int _,.non=>ξ (.bl neg,L)
 | .bl _,.non=>ξ (.bl neg,L)
 | .str _,.non=>ξ (.bl neg,L)
 | .tup _,.non=>ξ (.bl neg,L)
 | .ref _,.non=>ξ (.bl neg,L)
 | _,_=>ψ
noncomputable def isSome:U->Bool
 | .non=>false
 | _=>true
theorem RepL.atI{i:Int}(r:RepL K H α us xs)(h:L2.atI us i=ξ u):∃ x,L2.atI xs i=ξ x/\RepU K H α u x:=by
 unfold L2.atI at h ⊢;obtain ⟨j,e1,e2⟩:=aB.mp h;obtain ⟨x,e3,r3⟩:=r.get e2;exact ⟨x,by rw[<- r.length,e1];exact e3,r3⟩
def Am:S2:=fun u w L=>match u,w with
 | .tup l,.int i=>(L2.atI l i).map fun z=>(z,L)
 | .ref n,.int i=>(Ap L n).bind fun l=>(L2.atI l i).map fun z=>(z,L)
 | .str x,.int i=>if small x.length=true then (L2.atI x.cps.toList i).map fun c=>(.str ⟨#[c]⟩,L) else ψ
 | _,_=>ψ
theorem A0:Es K (rIx K) Am:=by
 intro H α L u w x y z L' Q A ru rw e q;unfold Am at e;split at e
 ·obtain ⟨c,e1,e⟩:=aJ.mp e;cases e;unfold RepU at ru rw;obtain ⟨a,xs,rfl,sq,r⟩:=ru;obtain ⟨v,e2,r2⟩:=r.atI e1;exact .inr (.inl ⟨a,xs,_,v,rfl,rw,sq,e2,q _ H α (.refl _ _) A r2⟩)
 ·obtain ⟨l,hl,e⟩:=aB.mp e;obtain ⟨c,e1,e⟩:=aJ.mp e;cases e;obtain ⟨a,xs,ea,sq,r⟩:=Fm A hl;obtain ⟨a',ea',rfl⟩:=ru.ref_of A;rw[ea] at ea';cases ea';unfold RepU at rw;obtain ⟨v,e2,r2⟩:=r.atI e1;exact .inl ⟨a,xs,_,v,rfl,rw,sq,e2,q _ H α (.refl _ _) A r2⟩
 ·split at e
  ·rename_i hs;obtain ⟨c,e1,e⟩:=aJ.mp e;cases e;unfold RepU at ru rw;exact .inr (.inr ⟨_,_,c,ru,rw,Fs hs,e1,q _ H α (.refl _ _) A rfl⟩)
  ·cases e
 ·cases e
def T4(l:List U)(lo hi:Option Int):List U:=(l.drop (HT.sIx l.length 0 lo)).take (HT.sIx l.length l.length hi - HT.sIx l.length 0 lo)
theorem RepL.cut(r:RepL K H α us xs)(lo hi:Option Int):RepL K H α (T4 us lo hi) (Xn xs lo hi):=by
 unfold T4 Xn;rw[r.length];exact (r.drop _).take _
def semSl:SS:=fun u lo hi L=>match u with
 | .tup l=>if HT.sIx l.length 0 lo=0/\HT.sIx l.length l.length hi=l.length then ψ else ξ (.tup (T4 l lo hi),L)
 | .ref n=>(Ap L n).map fun l=>(.ref L.length,L++[.lst (T4 l lo hi)])
 | _=>ψ
def Ar8(K:aL):V->Option Int->Option Int->Hp->VK->Prop:=fun x lo hi H Q=>As2 K x lo hi H Q\/Ar4 K x lo hi H Q
theorem R8:SlR X (Ar8 X.K):=Aoi.or Ajq
theorem R4:Amx K (Ar8 K) semSl:=by
 intro H α L u x lo hi z L' Q A ru e q;unfold semSl at e;split at e
 ·split at e
  ·cases e
  ·rename_i hn;cases e;unfold RepU at ru;obtain ⟨a,xs,rfl,sq,r⟩:=ru;refine .inl ⟨a,xs,rfl,sq,by rw[<- r.length];exact hn,fun p hp=>?_⟩;obtain ⟨g,A',r'⟩:=A.tup (r.cut lo hi) hp;exact q _ _ α g A' r'
 ·obtain ⟨l,hl,e⟩:=aJ.mp e;cases e;obtain ⟨a,xs,ea,sq,r⟩:=Fm A hl;obtain ⟨a',ea',rfl⟩:=ru.ref_of A;rw[ea] at ea';cases ea';refine .inr ⟨a,xs,rfl,sq,fun p hp=>?_⟩;obtain ⟨g,A',r'⟩:=A.lst (r.cut lo hi) hp;exact q _ _ _ g A' r'
 ·cases e
noncomputable def toV:U->Option V
 | .non=>ξ .non
 | .bl b=>ξ (.bl b)
 | .int i=>ξ (.int i)
 | .str x=>ξ (.str x)
 | _=>ψ
theorem Abg{x y:V}(r:RepU K H α u x)(h:toV u=ξ y):x=y/\Mv y=true:=by
 cases u <;> simp only[toV] at h <;> first
  | (cases h;unfold RepU at r;exact ⟨r,rfl⟩)
  | cases h
theorem Vp:∀ {us:List U} {xs ys:List V},RepL K H α us xs->mapO toV us=ξ ys->xs=ys/\ys.all Mv=true
 | [],xs,ys,r,h=>by unfold RepL at r;subst r;cases h;exact ⟨rfl,rfl⟩
 | u::us,xs,ys,r,h=>by
  unfold RepL at r;obtain ⟨x,xr,rfl,r1,r2⟩:=r;obtain ⟨y,e1,h⟩:=aB.mp h;obtain ⟨yr,e2,h⟩:=aJ.mp h;subst h;obtain ⟨rfl,h1⟩:=Abg r1 e1;obtain ⟨rfl,h2⟩:=Vp r2 e2;exact ⟨rfl,by simp[h1,h2]⟩
def Yd(neg:Bool):S2:=fun u w L=>match w with
 | .tup l=>(toV u).bind fun x=>(mapO toV l).map fun xs=>(.bl Zca,L)
 | .ref n=>(Ap L n).bind fun l=>(toV u).bind fun x=>(mapO toV l).map fun xs=>(.bl Zca,L)
 | .str j=>match u with
  | .str i=>ξ (.bl (if neg then !(!(gX j i 0 j.length 1).isEmpty) else !(gX j i 0 j.length 1).isEmpty),L)
  | _=>ψ
 | _=>ψ
def Ath(K:aL)(neg:Bool):R2:=fun x y H Q=>rIn K neg x y H Q\/∃ i j,x = .str i/\y = .str j/\Q (.bl (if neg then !(!(gX j i 0 j.length 1).isEmpty) else !(gX j i 0 j.length 1).isEmpty)) H
theorem Aps:OpR X (iE .In) (Ath X.K false):=Afa.or Adp
theorem Aoa(neg:Bool):Es K (Ath K neg) (Yd neg):=by
 intro H α L u w x y z L' Q A ru rw e q;unfold Yd at e;split at e
 ·obtain ⟨x',e1,e⟩:=aB.mp e;obtain ⟨xs,e2,e⟩:=aJ.mp e;cases e;unfold RepU at rw;obtain ⟨a,ys,rfl,sq,r⟩:=rw;obtain ⟨rfl,f1⟩:=Abg ru e1;obtain ⟨rfl,f2⟩:=Vp r e2;exact .inl ⟨a,ys,rfl,.inr sq,f1,f2,q _ H α (.refl _ _) A rfl⟩
 ·obtain ⟨l,hl,e⟩:=aB.mp e;obtain ⟨x',e1,e⟩:=aB.mp e;obtain ⟨xs,e2,e⟩:=aJ.mp e;cases e;obtain ⟨a,ys,ea,sq,r⟩:=Fm A hl;obtain ⟨a',ea',rfl⟩:=rw.ref_of A;rw[ea] at ea';cases ea';obtain ⟨rfl,f1⟩:=Abg ru e1;obtain ⟨rfl,f2⟩:=Vp r e2;exact .inl ⟨a,ys,rfl,.inl sq,f1,f2,q _ H α (.refl _ _) A rfl⟩
 ·split at e
  ·cases e;unfold RepU at ru rw;exact .inr ⟨_,_,ru,rw,q _ H α (.refl _ _) A rfl⟩
  ·cases e
 ·cases e
def lenU(u:U)(L:UH):Option Nat:=match u with
 | .str y=>if small y.length=true then ξ y.length else ψ
 | .tup l=>ξ l.length
 | .ref n=>(Ap L n).map oD
 | _=>ψ
def Bg:SC:=fun us L=>match us with
 | [u]=>(lenU u L).map fun (n:Nat)=>(U.int (n:Int),L)
 | _=>ψ
theorem C7:Ol K (fun xs H Q=>∃ x n,xs=[x]/\Arb K x H n/\Q (.int n) H) Bg:=by
 intro H α L us xs z L' Q A r e q;unfold Bg at e;split at e
 ·rename_i u;obtain ⟨n,e1,e⟩:=aJ.mp e;cases e;obtain ⟨x,rfl,rx⟩:=r.one;refine ⟨x,n,rfl,?_,q _ H α (.refl _ _) A rfl⟩;cases u with
  | str y=>
   unfold lenU at e1;simp only at e1;split at e1
   ·rename_i hs;cases e1;unfold RepU at rx;subst rx;exact ⟨Fs hs,rfl⟩
   ·cases e1
  | tup l=>
   cases e1;unfold RepU at rx;obtain ⟨a,ys,rfl,sq,r2⟩:=rx;exact .inr ⟨ys,sq,r2.length⟩
  | ref k=>
   obtain ⟨l,hl,e2⟩:=aJ.mp e1;subst e2;obtain ⟨a,ys,ea,sq,r2⟩:=Fm A hl;obtain ⟨a',ea',rfl⟩:=rx.ref_of A;rw[ea] at ea';cases ea';exact .inl ⟨ys,sq,r2.length⟩
  | _=>cases e1
 ·cases e
noncomputable def toI:U->Option Int
 | .int i=>ξ i
 | _=>ψ
theorem Ei:∀ {us:List U} {xs:List V} {ns:List Int},RepL K H α us xs->mapO toI us=ξ ns->xs=ns.map V.int
 | [],xs,ys,r,h=>by unfold RepL at r;subst r;cases h;rfl
 | u::us,xs,ys,r,h=>by
  unfold RepL at r;obtain ⟨x,xr,rfl,r1,r2⟩:=r;obtain ⟨y,e1,h⟩:=aB.mp h;obtain ⟨yr,e2,h⟩:=aJ.mp h;subst h;cases u <;> simp only[toI] at e1 <;> first
   | (cases e1;unfold RepU at r1;subst r1;rw[Ei r2 e2];rfl)
   | cases e1
noncomputable def Vv:List Int->Int
 | []=>0
 | [a]=>a
 | a::r=>max a (Vv r)
theorem Abh:∀ (ns:List Int) (M:Int),M∈ns->(∀ a,a∈ns->a<=M)->Vv ns=M
 | [],M,h,_=>by cases h
 | [a],M,h,_=>by simp at h;exact h.symm
 | a::b::r,M,h,hm=>by
  show max a (Vv (b::r))=M;by_cases hb:M∈b::r
  ·rw[Abh (b::r) M hb fun c hc=>hm c (aK _ hc)];have:=hm a (aQ ..);omega
  ·rcases bG.mp h with rfl | h
   ·have hle:∀ (l:List Int),l≠[]->(∀ c,c∈l->c<=M)->Vv l<=M:=by
     intro l;induction l with
     | nil=>intro h;exact absurd rfl h
     | cons c t ih=>
      intro _ hc;cases t with
      | nil=>exact hc c (aQ ..)
      | cons d t=>
       have h1:=hc c (aQ ..);have h2:=ih Za fun e he=>hc e (aK _ he)
       show max c (Vv (d::t))<=M;omega
    have:=hle (b::r) Za fun c hc=>hm c (aK _ hc)
    omega
   ·exact absurd h hb
section
theorem Afg(hc:X.calm=true):CallR X (.builtin "sum") (fun xs H Q=>∃ (p:Addr) (ns:List Int),xs=[.ref p]/\SqL X.K H p ZG/\Q Zdi H):=by
 intro pins s σ H xs us Q I r h;obtain ⟨p,ns,rfl,hq,q⟩:=h;obtain ⟨u,rfl,rx⟩:=Er r;cases rx;obtain ⟨its,r',pl,hz⟩:=I.list hq;have hi:fV its ns:=C2 r';obtain ⟨m,F⟩:=I.fr;obtain ⟨xs,hx⟩:=hi.allInts.items;have hl':s.heap.IsList p (intItems xs):=hx ▸ pl.isList;refine sum_intListG Zae hl' fun h' tk t' hk=>?_
 have e1:ns=xs.toList.map (·.1):=by
  rw[<- rX,<- hx];exact (show numsOf its.toArray.toList=ns from hi.numsOf).symm
 have e2:preSum (numAt xs) xs.size=ns.sum:=by
  rw[preSum_eq,iC Za,e1]
 rw[e2];exact ⟨.int ns.sum,H,I.kept hk,⟨_,rfl⟩,q⟩
theorem Adt(hc:X.calm=true):CallR X (.builtin "sum") (fun xs H Q=>∃ (p:Addr) (ns:List Int),xs=[.ref p]/\SqT X.K H p ZG/\Q Zdi H):=by
 intro pins s σ H xs us Q I r h;obtain ⟨p,ns,rfl,hq,q⟩:=h;obtain ⟨u,rfl,rx⟩:=Er r;cases rx;obtain ⟨its,r',pl,hz⟩:=I.tuple hq;have hi:fV its ns:=C2 r';obtain ⟨xs,hx⟩:=hi.allInts.items;have hl':s.heap.IsTuple p (intItems xs):=hx ▸ pl;refine PySem.W.ktm_sumG Zae hl' fun h' tk t' hk=>?_
 have e1:ns=xs.toList.map (·.1):=by
  rw[<- rX,<- hx];exact (show numsOf its.toArray.toList=ns from hi.numsOf).symm
 have e2:preSum (numAt xs) xs.size=ns.sum:=by
  rw[preSum_eq,iC Za,e1]
 rw[e2];exact ⟨.int ns.sum,H,I.kept hk,⟨_,rfl⟩,q⟩
theorem E7(hc:X.calm=true):CallR X (.builtin "sum") (fun xs H Q=>(∃ (p:Addr) (ns:List Int),xs=[.ref p]/\SqL X.K H p ZG/\Q Zdi H)\/∃ (p:Addr) (ns:List Int),xs=[.ref p]/\SqT X.K H p ZG/\Q Zdi H):=(Afg hc).or (Adt hc)
theorem Afh(hc:X.calm=true):CallR X (.builtin "max") (fun xs H Q=>∃ (p:Addr) (ns:List Int),xs=[.ref p]/\SqL X.K H p ZG/\0 < ns.length/\Q (.int (Vv ns)) H):=by
 intro pins s σ H xs us Q I r h;obtain ⟨p,ns,rfl,hq,hne,q⟩:=h;obtain ⟨u,rfl,rx⟩:=Er r;cases rx;obtain ⟨its,r',pl,hz⟩:=I.list hq;have hi:fV its ns:=C2 r';obtain ⟨xs,e⟩:=hi.allInts.items;have hns:ns=xs.toList.map (·.1):=by rw[<- hi.numsOf,<- rX,<- e]
 have hsz:0 < xs.size:=by
  have h3:=hne;rw[hns,aN,cY] at h3;exact h3
 have hl':s.heap.IsList p (intItems xs):=e ▸ pl.isList;refine max_intList Zae hl' hsz fun v h' tk hv hk=>?_
 obtain ⟨t,rfl⟩:=intItems_at hv;obtain ⟨h1,h2⟩:=argBest_gt (numAt xs) (xs.size - 1);have hM:=Abh ns (numAt xs (argBest (fun i j=>decide (numAt xs i > numAt xs j)) (xs.size - 1))) (by rw[hns,numAt_eq];exact getD_mem (by rw[aN,cY];omega)) (fun a ha=>by
  rw[hns] at ha;obtain ⟨j,hj,rfl⟩:=mem_getD ha;rw[aN,cY] at hj;rw[<- numAt_eq];exact h2 j Ze)
 rw[hM] at q;exact ⟨.int _,H,I.kept hk,⟨_,rfl⟩,q⟩
end
def semSum:SC:=fun us L=>match us with
 | [.ref n]=>(Ap L n).bind fun l=>(mapO toI l).map fun ns=>(.int ns.sum,L)
 | [.tup l]=>(mapO toI l).map fun ns=>(.int ns.sum,L)
 | _=>ψ
theorem Ey{x:V}(A:Abs K H α L)(hl:Ap L n=ξ l)(rx:RepU K H α (.ref n) x):∃ a ys,x = .ref a/\SqL K H a ys/\RepL K H α l ys:=by
 obtain ⟨a,ys,ea,sq,r2⟩:=Fm A hl;obtain ⟨a',ea',rfl⟩:=rx.ref_of A;rw[ea] at ea';cases ea';exact ⟨a,ys,rfl,sq,r2⟩
theorem Hu:Ol K (fun xs H Q=>(∃ (p:Addr) (ns:List Int),xs=[.ref p]/\SqL K H p ZG/\Q Zdi H)\/∃ (p:Addr) (ns:List Int),xs=[.ref p]/\SqT K H p ZG/\Q Zdi H) semSum:=by
 intro H α L us xs z L' Q A r e q;unfold semSum at e;split at e
 ·obtain ⟨l,hl,e⟩:=aB.mp e;obtain ⟨ns,e1,e⟩:=aJ.mp e;cases e;obtain ⟨x,rfl,rx⟩:=r.one;obtain ⟨a,ys,rfl,sq,r2⟩:=Ey A hl rx;rw[Ei r2 e1] at sq;exact .inl ⟨a,ns,rfl,sq,q _ H α (.refl _ _) A rfl⟩
 ·obtain ⟨ns,e1,e⟩:=aJ.mp e;cases e;obtain ⟨x,rfl,rx⟩:=r.one;unfold RepU at rx;obtain ⟨a,ys,rfl,sq,r2⟩:=rx;rw[Ei r2 e1] at sq;exact .inr ⟨a,ns,rfl,sq,q _ H α (.refl _ _) A rfl⟩
 ·cases e
def Aia(g2:Int->Int->Int)(gl:List Int->Int):SC:=fun us L=>match us with
 | [.int i,.int j]=>ξ (.int (g2 i j),L)
 | [.ref n]=>(Ap L n).bind fun l=>(mapO toI l).bind fun ns=>if ns.isEmpty=true then ψ else ξ (.int (gl ns),L)
 | _=>ψ
def Tn:SC:=Aia (fun i j=>if j > i then j else i) Vv
theorem Ap8{g2:Int->Int->Int}{gl:List Int->Int}:Ol K (fun xs H Q=>(∃ i j,xs=[.int i,.int j]/\Q (.int (g2 i j)) H)\/∃ (p:Addr) (ns:List Int),xs=[.ref p]/\SqL K H p ZG/\0 < ns.length/\Q (.int (gl ns)) H) (Aia g2 gl):=by
 intro H α L us xs z L' Q A r e q;unfold Aia at e;split at e
 ·cases e;obtain ⟨x,y,rfl,rx,ry⟩:=r.two;unfold RepU at rx ry;exact .inl ⟨_,_,by rw[rx,ry],q _ H α (.refl _ _) A rfl⟩
 ·obtain ⟨l,hl,e⟩:=aB.mp e;obtain ⟨ns,e1,e⟩:=aB.mp e;split at e
  ·cases e
  ·rename_i hne;cases e;obtain ⟨x,rfl,rx⟩:=r.one;obtain ⟨a,ys,rfl,sq,r2⟩:=Ey A hl rx;rw[Ei r2 e1] at sq;exact .inr ⟨a,ns,rfl,sq,by cases ns <;> simp_all,q _ H α (.refl _ _) A rfl⟩
 ·cases e
theorem Adc(hc:X.calm=true):CallR X (.builtin "max") (fun xs H Q=>(∃ i j,xs=[.int i,.int j]/\Q ZcJ H)\/∃ (p:Addr) (ns:List Int),xs=[.ref p]/\SqL X.K H p ZG/\0 < ns.length/\Q (.int (Vv ns)) H):=(Aeh hc).or (Afh hc)
theorem Al2:Ol K (fun xs H Q=>(∃ i j,xs=[.int i,.int j]/\Q ZcJ H)\/∃ (p:Addr) (ns:List Int),xs=[.ref p]/\SqL K H p ZG/\0 < ns.length/\Q (.int (Vv ns)) H) Tn:=Ap8
def Na:SC:=fun us L=>match us with
 | [.int i]=>ξ (.int i,L)
 | [.bl k]=>ξ (.int Zda,L)
 | _=>ψ
theorem Acs:Ol K (fun xs H Q=>(∃ i,xs=[.int i]/\Q (.int i) H)\/∃ k,xs=[.bl k]/\Q (.int Zda) H) Na:=by
 intro H α L us xs z L' Q A r e q;unfold Na at e;split at e
 ·cases e;obtain ⟨x,rfl,rx⟩:=r.one;unfold RepU at rx;exact .inl ⟨_,by rw[rx],q _ H α (.refl _ _) A rfl⟩
 ·cases e;obtain ⟨x,rfl,rx⟩:=r.one;unfold RepU at rx;exact .inr ⟨_,by rw[rx],q _ H α (.refl _ _) A rfl⟩
 ·cases e
def O6:SC:=fun us L=>match us with
 | [.ref n]=>(Ap L n).map fun l=>(.ref L.length,L++[.lst l])
 | [.tup l]=>ξ (.ref L.length,L++[.lst l])
 | _=>ψ
theorem Afl:Ol K (fun xs H Q=>∃ p ys,xs=[.ref p]/\(SqL K H p ys\/SqT K H p ys)/\∀ l,H l=ψ->Q (.ref l) (upd H l (.lst ys))) O6:=by
 intro H α L us xs z L' Q A r e q;unfold O6 at e;split at e
 ·obtain ⟨l,hl,e⟩:=aJ.mp e;cases e;obtain ⟨x,rfl,rx⟩:=r.one;obtain ⟨a,ys,rfl,sq,r2⟩:=Ey A hl rx;refine ⟨a,ys,rfl,.inl sq,fun p hp=>?_⟩;obtain ⟨g,A',r'⟩:=A.lst r2 hp;exact q _ _ _ g A' r'
 ·cases e;obtain ⟨x,rfl,rx⟩:=r.one;unfold RepU at rx;obtain ⟨a,ys,rfl,sq,r2⟩:=rx;refine ⟨a,ys,rfl,.inr sq,fun p hp=>?_⟩;obtain ⟨g,A',r'⟩:=A.lst r2 hp;exact q _ _ _ g A' r'
 ·cases e
def semTuple:SC:=fun us L=>match us with
 | [.ref n]=>(Ap L n).map fun l=>(.tup l,L)
 | [.tup l]=>ξ (.tup l,L)
 | _=>ψ
theorem B9:Ol K (fun xs H Q=>∃ p ys,xs=[.ref p]/\((SqL K H p ys/\∀ l,H l=ψ->Q (.ref l) (upd H l (.tup ys)))\/(SqT K H p ys/\Q (.ref p) H))) semTuple:=by
 intro H α L us xs z L' Q A r e q;unfold semTuple at e;split at e
 ·obtain ⟨l,hl,e⟩:=aJ.mp e;cases e;obtain ⟨x,rfl,rx⟩:=r.one;obtain ⟨a,ys,rfl,sq,r2⟩:=Ey A hl rx;refine ⟨a,ys,rfl,.inl ⟨sq,fun p hp=>?_⟩⟩;obtain ⟨g,A',r'⟩:=A.tup r2 hp;exact q _ _ _ g A' r'
 ·cases e;obtain ⟨x,rfl,rx⟩:=r.one;have rx':=rx;unfold RepU at rx;obtain ⟨a,ys,rfl,sq,r2⟩:=rx;exact ⟨a,ys,rfl,.inr ⟨sq,q _ H α (.refl _ _) A rx'⟩⟩
 ·cases e
def C9:SM:=fun u us L=>match u,us with
 | .ref n,[y]=>(Gq L n).bind fun l=>if decide (l.length < sizeLine)=true then ξ (.non,L.set n (.lst (l++[y]))) else ψ
 | _,_=>ψ
theorem V8{x:V}(A:Abs K H α L)(hl:Gq L n=ξ l)(rx:RepU K H α (.ref n) x):∃ a ys,x = .ref a/\α[n]? = ξ a/\H a=ξ (.lst ys)/\RepL K H α l ys:=by
 obtain ⟨a,ys,ea,sq,r2⟩:=Ou A hl;obtain ⟨a',ea',rfl⟩:=rx.ref_of A;rw[ea] at ea';cases ea';exact ⟨a,ys,rfl,ea,sq,r2⟩
theorem G9:Alx K Ack C9:=by
 intro H α L u us x xs z L' Q A ru r e q;unfold C9 at e;split at e
 ·obtain ⟨l,hl,e⟩:=aB.mp e;split at e
  ·rename_i hs;cases e;obtain ⟨y,rfl,ry⟩:=r.one;obtain ⟨a,ys,rfl,ea,h,r2⟩:=V8 A hl ru;obtain ⟨g,A'⟩:=A.setL hl ea h (r2.append (.cons ry .nil));exact ⟨a,ys,y,rfl,rfl,h,by rw[<- r2.length];exact of_decide_eq_true hs,q _ _ _ g A' rfl⟩
  ·cases e
 ·cases e
def Nn:SM:=fun u us L=>match u,us with
 | .ref n,[.int i]=>(Gq L n).bind fun l=>if -(2 ^ 63)<=i/\i < 2 ^ 63 then (seqIndex? i l.length).bind fun k=>(l[k]?).map fun y=>(y,L.set n (.lst (l.eraseIdx k))) else ψ
 | _,_=>ψ
theorem Ac1:Alx K Ahs Nn:=by
 intro H α L u us x xs z L' Q A ru r e q;unfold Nn at e;split at e
 ·obtain ⟨l,hl,e⟩:=aB.mp e;split at e
  ·rename_i hs;obtain ⟨k,ek,e⟩:=aB.mp e;obtain ⟨y,ey,e⟩:=aJ.mp e;cases e;obtain ⟨v,rfl,rv⟩:=r.one;unfold RepU at rv;subst rv;obtain ⟨a,ys,rfl,ea,h,r2⟩:=V8 A hl ru;obtain ⟨w,ew,rw⟩:=r2.get ey;obtain ⟨g,A'⟩:=A.setL hl ea h (r2.erase k);exact ⟨a,ys,_,k,w,rfl,rfl,h,hs.1,hs.2,by rw[<- r2.length];exact ek,ew,q _ _ _ g A' (rw.mono g)⟩
  ·cases e
 ·cases e
def gSub(fo fi:FE):FG:=fun v δ L=>(fo δ L).bind fun p=>(fi δ p.2).bind fun q=>match p.1,q.1 with
 | .ref n,.int k=>(Gq q.2 n).bind fun l=>(ixN l.length k).map fun j=>(δ,q.2.set n (.lst (l.set j v)))
 | _,_=>ψ
theorem Lr{o i:Expr}{fo fi:FE}(ho:PEF X o fo)(hi:PEF X i fi)(ha:∀ v,assign Zbw X.env v=(do let ov <- holding [v] Zci;let iv <- holding [v,ov] (eval i X.env);standAt pos;holding [v,ov,iv] (setItem ov iv v);release [v,ov,iv] []):=by intro _;rfl):PGF X Zbw (MR.gSub fo fi):=by
 refine PG.imp (Anp ho hi Aix ha) ?_;rintro v σ H Q ⟨α,δ,L,u,A,S,r,δ',L',e,q⟩;obtain ⟨⟨o',L1⟩,e1,e⟩:=aB.mp e;obtain ⟨⟨i',L2⟩,e2,e⟩:=aB.mp e;refine ⟨α,δ,L,A,S,o',L1,e1,fun x H1 α1 g1 A1 r1=>⟨α1,δ,L1,A1,S.mono g1,i',L2,e2,fun y H2 α2 g2 A2 r2=>?_⟩⟩;simp only at e;split at e
 ·obtain ⟨l,hl,e⟩:=aB.mp e;obtain ⟨j,ej,e⟩:=aJ.mp e;cases e;unfold RepU at r2;subst r2;obtain ⟨a,ys,rfl,ea,h,r3⟩:=V8 A2 hl (r1.mono g2);obtain ⟨g,A'⟩:=A2.setL hl ea h (r3.set ((r.mono g1).mono g2) j);exact ⟨a,ys,_,j,rfl,rfl,h,by rw[<- r3.length];exact ej,q _ _ _ (g1.trans (g2.trans g)) A' (((S.mono g1).mono g2).mono g)⟩
 ·cases e
def Aho(u:U)(L:UH):Option String:=match u with
 | .non=>ξ "NoneType"
 | .bl _=>ξ "bool"
 | .int _=>ξ "int"
 | .str _=>ξ "str"
 | .tup _=>ξ "tuple"
 | .ref n=>match L[n]? with
  | some (.lst _)=>ξ "list"
  | some (.ro _)=>ξ "list"
  | some (.dic _)=>ξ "dict"
  | _=>ψ
noncomputable def isT(t c:String):Bool:=t == c || (t == "bool" && c == "int")
def Au9(c:String)(f:FE):FE:=fun δ L=>(f δ L).bind fun p=>(Aho p.1 p.2).map fun t=>(.bl (isT t c),p.2)
def Agh(H:Hp):Prop:=∀ b,H b=ψ\/(∃ o xs,H b=ξ ZdA)\/∃ ps,H b=ξ (.tbl ps)
theorem Only.t(h:Only H):Agh H:=fun b=>(h b).elim .inl fun z=>.inr (.inl z)
theorem Aot{F:FN}{ns:List Int}{E:XK}(ho:Agh H)(hT:∀ nm∈Fx,∀ c P,dJ K nm=ξ (c,P)->GoodTab H P (Me nm))(hS:SqL K H a ZG)(h:∃ L',F [.ref 0] [.ro Z4]=ξ Zdj):spF K 1 F [.ref a] H (fun v _=>v = .bl true) E:=by
 obtain ⟨L',e⟩:=h;have ro:RO K H a ZG:=by
  rcases hS with (q | ⟨o,q⟩) | q
  ·rcases ho a with z | ⟨o,xs,z⟩ | ⟨ps,z⟩
   ·rw[z] at q;cases q
   ·rw[z] at q;cases q
   ·rw[z] at q;cases q
  ·exact .inl ⟨o,q⟩
  ·exact .inr q
 refine ⟨[a],[.ro Z4],[.ref 0],⟨rfl,fun i j b o o' e1 e2 e3 e4=>?_,fun i b o e1 e2=>?_,hT⟩,.cons ?_ .nil,rfl,.bl true,L',e,fun v H' α' _ _ r=>r⟩
 ·cases i with
  | zero=>cases j with
   | zero=>exact .inl rfl
   | succ j=>simp at e2
  | succ i=>simp at e1
 ·cases i with
  | zero=>simp at e1 e2;subst e1;subst e2;exact ⟨_,ro,RepL.ints ns⟩
  | succ i=>simp at e1
 ·unfold RepU;exact ⟨a,rfl,rfl⟩
theorem Nf(env:nC):∀ (names:List (Str×kQ)) (cs:List (Str×Addr)),(∀ y∈names,y.2 = .free->∃ c,env.cells.lookup y.1=ξ c)->(∀ x c,cs.lookup x=ξ c->env.cells.lookup x=ξ c) ->
  ∃ cl:List (Str×Addr),(forIn names cs fun (x:Str×kQ) r=>if (x.2 == jI)=true then do let c <- cellOf env x.1;pure (jG ((x.1,c)::r)) else pure (jG r):Sem (List (Str×Addr)))=pure cl /\
   (∀ x c,cl.lookup x=ξ c->env.cells.lookup x=ξ c)/\(∀ y∈names,y.2 = .free->∃ c,cl.lookup y.1=ξ c)/\∀ x,(∃ c,cs.lookup x=ξ c)->∃ c,cl.lookup x=ξ c
 | [],cs,_,h2=>⟨cs,rfl,h2,(fun _ h=>nomatch h),fun _ h=>h⟩
 | (n,k)::r,cs,h1,h2=>by
  cases hk:k == jI with
  | true=>
   have hk':k = .free:=by simpa using hk
   obtain ⟨c,hc⟩:=h1 (n,k) (aQ ..) hk';have look:∀ x c',List.lookup x ((n,c)::cs)=ξ c'->env.cells.lookup x=ξ c':=fun x c' e=>by
    rw[dF] at e;cases hx:x == n with
    | true => rw [hx] at e; simp at e; subst e; have : x = n := by simpa using hx
              rw[this];exact hc
    | false=>rw[hx] at e;exact h2 x c' e
   obtain ⟨cl,e,p1,p2,p3⟩:=Nf env r ((n,c)::cs) (fun y hy=>h1 y (aK _ hy)) look;refine ⟨cl,?_,p1,fun y hy hf=>?_,fun x hx=>?_⟩
   ·rw[mM];have e0:(cellOf env n:Sem Addr)=pure c:=by unfold cellOf;rw[hc]
    simp only[hk,if_true,e0];exact e
   ·rcases bG.mp hy with rfl | hy
    ·exact p3 n ⟨c,Za⟩
    ·exact p2 y hy hf
   ·refine p3 x ?_;rw[dF];cases hx':x == n with
    | true=>exact ⟨c,rfl⟩
    | false=>exact hx
  | false=>
   obtain ⟨cl,e,p1,p2,p3⟩:=Nf env r cs (fun y hy=>h1 y (aK _ hy)) h2;refine ⟨cl,?_,p1,fun y hy hf=>?_,p3⟩
   ·rw[mM];simp only[hk,bV,if_false];exact e
   ·rcases bG.mp hy with rfl | hy
    ·rw[show k=jI from hf] at hk;cases hk
    ·exact p2 y hy hf
variable {scope:jP}{env:nC}
theorem Mp(h:∀ y∈scope.names,y.2 = .free->∃ c,env.cells.lookup y.1=ξ c) :
  ∃ cl,closureFor scope env=pure cl/\(∀ x c,cl.lookup x=ξ c->env.cells.lookup x=ξ c)/\∀ y∈scope.names,y.2 = .free->∃ c,cl.lookup y.1=ξ c:=by
 obtain ⟨cl,e,p1,p2,_⟩:=Nf env scope.names [] h (fun x c e=>by simp at e);refine ⟨cl,?_,p1,p2⟩;unfold closureFor;show (forIn scope.names [] _ >>= fun cs=>pure cs)=pure cl;have:(forIn scope.names ([]:List (Str×Addr)) (fun (x:Str×kQ) (r:List (Str×Addr))=>if (x.2 == jI)=true then do let c <- cellOf env x.1;pure (jG ((x.1,c)::r)) else pure (jG r)):Sem (List (Str×Addr))) >>= (fun cs=>pure cs)=pure cl:=by rw[e];rfl
 exact this
def blk(X:Cx)(scope:jP)(cl:List (Str×Addr))(C:Addr)(N':List Str)(s2:aR)(H2:Hp)(fp:List Addr)(pins:List (Addr×Obj)):Cx:=
 { X with env:=compEnvC scope cl C X.env,N:=N',s₀:=s2,H₀:=H2,outer:=X.stack,ex:=fp,fn:=fun _=>false,pn:=X.pn++pins,xe:=fun _ _=>False }
theorem HOk.adopt{h:Heap}(x:HOk P w H h)(hn:H a=ψ)(new:ObjOk P w (upd H a o) h a o):HOk P w (upd H a o) h:=fun b u e=>by
 by_cases hb:b=a
 ·subst hb;rw[upd_same] at e;cases e;exact new
 ·rw[Aw hb] at e;exact (x b u e).stay (fun c v _ q=>q) (fun c q=>by rw[Aw (Bc q hn)];exact q) fun c xs q=>by rw[Aw (Bc q hn)];exact q
theorem Un.adopt{fs ex:List Addr}{h h1:Heap}(u:Un fs ex H H1 h h1)(hn:H1 a=ψ)(ha:h.get? a=ψ):Un fs ex H (upd H1 a o) h h1 where
 keep:=u.keep
 slot:=u.slot
 free:=fun b ob q n hx=>by
  have:b≠a:=fun z=>by rw[z,ha] at q;cases q
  rw[Aw this];exact u.free b ob q n hx
 there:=u.there
 tups:=fun b xs q=>by have q':=u.tups b xs q;rw[Aw (Bc q' hn)];exact q'
 frzs:=fun b ob xs q=>by have q':=u.frzs b ob xs q;rw[Aw (Bc q' hn)];exact q'
 tbls:=fun b ps q=>by
  obtain ⟨m,q'⟩:=u.tbls b ps q;exact ⟨m,by rw[Aw (Bc q' hn)];exact q'⟩
structure CompSc(X:Cx)(scope:jP)(N':List Str)(ix:List ZU):Prop where
 kind:scope.kind = .function
 cell:(scope.names.all fun y=>y.2 != .cell)=true
 loc:(scope.names.all fun y=>y.2 != .local || scope.names.lookup y.1 == ξ .local)=true
 free:(scope.names.all fun y=>y.2 != .free || (X.env.kindOf y.1 == ξ .cell || X.env.kindOf y.1 == ξ .free))=true
 ixs:((N'.zip ix).all fun p=>match p.2 with | none=>true | some i=>(X.N[i]? == ξ p.1)&&(scope.names.lookup p.1 == ξ .free))=true
 len:N'.length=ix.length
def inner(ix:List ZU)(σ:L2.St):L2.St:=ix.map fun o=>o.bind fun i=>(σ[i]?).join
def Agd(J:It)(g:TG)(tt:TT)(te:TE)(σ':L2.St)(H:Hp)(Fin:List V->Hp->Prop):Prop:=∃ W:Nat->Nat->List V->L2.St->Hp->Prop,(∃ m,W 0 m [] σ' H)/\∀ i m acc σ1 H1,W i m acc σ1 H1 ->
 (J.stop i H1/\Fin acc H1)\/(J.go i H1/\∀ x H3,J.yld i H1 x H3->g x σ1 H3 fun σ2 H4=>tt σ2 H4 fun b H5=>
  if b=true then te σ2 H5 fun y H6=>acc.length < sizeLine/\∃ m',m' < m/\W (i+1) m' (acc++[y]) σ2 H6 else ∃ m',m' < m/\W (i+1) m' acc σ2 H5)
variable {N':List Str}{ix:List ZU}{s2:aR}{cl:List (Str×Addr)}{fp:List Addr}
section
theorem Dp{β:Type}{v:β}:∀ {l:List (Str×β)},l.lookup x=ξ v->(x,v)∈l
 | [],h=>by simp at h
 | (n,k)::r,h=>by
  rw[dF] at h;cases hx:x == n with
  | true => rw [hx] at h; simp at h; have : x = n := by simpa using hx
            subst this;subst h;exact aQ ..
  | false=>rw[hx] at h;exact aK _ (Dp h)
theorem Hb{env:nC}{x:Str}:∀ {names:List (Str×kQ)} {k:kQ},(names.map fun (n,k)=>if ZaE then (n,rY) else (n,k)).lookup x=ξ k ->
  names.lookup x=ξ k\/(names.lookup x=ξ .free/\k = .cell)
 | [],k,h=>by simp at h
 | (n,k')::r,k,h=>by
  have ih:=@Hb env x r k;rw[aS] at h;cases hx:x == n with
  | true=>
   rw[dF,hx];simp only at h ⊢;split at h
   ·rename_i hc;rw[dF,hx] at h;simp at h;simp only[bZ] at hc;have:k' = .free:=by simpa using hc.1.1
    subst this;exact .inr ⟨rfl,h.symm⟩
   ·rw[dF,hx] at h;exact .inl h
  | false=>
   rw[dF,hx];simp only at h ⊢;split at h
   ·rw[dF,hx] at h;exact ih h
   ·rw[dF,hx] at h;exact ih h
theorem Gn{env:nC}{x:Str}:∀ {names:List (Str×kQ)},names.lookup x=ξ .free ->
  (names.map fun (n,k)=>if ZaE then (n,rY) else (n,k)).lookup x=ξ .free\/(names.map fun (n,k)=>if ZaE then (n,rY) else (n,k)).lookup x=ξ .cell
 | [],h=>by simp at h
 | (n,k')::r,h=>by
  have ih:=@Gn env x r;rw[aS];cases hx:x == n with
  | true=>
   rw[dF,hx] at h;simp at h;subst h;simp only;split
   ·right;rw[dF,hx]
   ·left;rw[dF,hx]
  | false=>
   rw[dF,hx] at h;have:=ih h;simp only;split
   ·rw[dF,hx];exact this
   ·rw[dF,hx];exact this
theorem Afd(S:CompSc X scope N' ix)(hcalm:X.calm=true)(I2:Inv X pins σ H2 s2)(hcl:∀ x c,cl.lookup x=ξ c->X.env.cells.lookup x=ξ c)(hcl2:∀ y∈scope.names,y.2 = .free->∃ c,cl.lookup y.1=ξ c)
  (f2:∀ b∈fp,F9 X pins H2 b) (hfp:∀ b∈fp,b < s2.heap.objs.size) {C:Addr} {h4:Heap} {m:Str->Option aH} {t4:Nat} (hC:s2.heap.objs.size<=C) (hns:h4.Ns C m) (keep:∀ b o,s2.heap.get? b=ξ o->h4.get? b=ξ o) :
  Inv Zp [] (inner ix σ) H2 { s2 with heap:=h4,toks:=t4 }:=by
 have hkindC:(relabel scope X.env).kind = .function:=S.kind;have ok:(blk X scope cl C N' s2 H2 fp pins).Ok:=
  { mod:=I2.ok.mod
    kind:=hkindC
    glob:=I2.ok.glob
    blt:=I2.ok.blt
    above:=hC
    inj:=fun x y c e1 e2=>I2.ok.inj x y c (hcl x c e1) (hcl y c e2)
    has:=fun x h=>by
     have h':(relabel scope X.env).names.lookup x=ξ .cell\/(relabel scope X.env).names.lookup x=ξ .free:=h;have hfree:scope.names.lookup x=ξ .free:=by
      rcases h' with h' | h'
      ·rcases Hb h' with q | ⟨q,_⟩
       ·have:=bT.mp S.cell _ (Dp q);simp at this
       ·exact q
      ·rcases Hb h' with q | ⟨q,z⟩
       ·exact q
       ·cases z
     exact hcl2 _ (Dp hfree) rfl
    cab:=fun x c h=>by cases h
    hd:=fun _=>I2.ok.hd hcalm
    frames:=I2.ok.frames
    stk:=.inl rfl
    exf:=fun b hb=>⟨cB (bN (hfp b hb) hC),fun x c e=>(f2 b hb).2.2.2.2.1 x c (hcl x c e)⟩
    bs:=fun b o e=>I2.bs b o e
    bsz:=eC I2.ok.bsz I2.sz
    noex:=fun b o e hb=>by
     rcases (f2 b hb).2.2.2.1 with z | z
     ·exact I2.ok.noex b o e z
     ·exact absurd (bN (bD (I2.ok.bs b o e).1) z) (dI _)
    exfs:=fun b hb z=>by
     rcases bG.mp (I2.stkSub b z) with q | q
     ·exact (f2 b hb).2.1 q
     ·exact (f2 b hb).2.2.1 q
    funs:=I2.stack
    frf:=I2.stkFree }
 obtain ⟨m0,hn0,hl0⟩:=id I2.loc;refine ⟨ok,rfl,I2.bare,Un.kept keep,⟨m,hns,fun j x v e1 e2 e3=>?_⟩,fun x c e=>?_,I2.hok.fresh hC,fun x c e=>I2.freeC x c (hcl x c e),fun p hp=>?_,I2.hok.kept keep,?_⟩
 ·-- a name that the block Iz along
  have e1':N'[j]? = ξ x:=e1;have e2':(inner ix σ)[j]? = ξ (ξ v):=e2;unfold inner at e2';rw[bA] at e2';cases hx:ix[j]? with
  | none=>rw[hx] at e2';simp at e2'
  | some o=>
   rw[hx] at e2';cases o with
   | none=>simp at e2'
   | some i=>
    simp at e2';have hz:(x,ξ i)∈N'.zip ix:=cI (i:=j) (by rw[nU];exact ⟨e1',hx⟩)
    have hz':=bT.mp S.ixs _ hz;simp only[bZ,beq_iff_eq] at hz';obtain ⟨hXN,hfr⟩:=hz';have hσ:σ[i]? = ξ (ξ v):=by
     cases q:σ[i]? with
     | none=>rw[q] at e2';simp at e2'
     | some o=>rw[q] at e2';simp at e2';rw[e2']
    have hk:=bT.mp S.free _ (Dp hfr);simp at hk;have hvis:Vis X.env.scope x:=by
     rcases hk with q | q
     ·exact .inr (.inl q)
     ·exact .inr (.inr q)
    obtain ⟨u,r,look⟩:=hl0 i x v hXN hσ hvis;rcases look with ⟨q,_⟩ | ⟨_,c,ec,hc⟩
    ·rcases hk with z | z
     ·rw[z] at q;cases q
     ·rw[z] at q;cases q
    ·obtain ⟨c',ec'⟩:=hcl2 _ (Dp hfr) rfl;have:c'=c:=by have:=hcl x c' ec';rw[ec] at this;cases this;rfl
     subst this;refine ⟨u,r,.inr ⟨?_,c',ec',?_⟩⟩
     ·rcases Gn (env:=X.env) hfr with q | q
      ·exact .inr q
      ·exact .inl q
     ·obtain ⟨oc,ho,hd⟩:=hc;exact ⟨oc,keep _ _ ho,hd⟩
 ·obtain ⟨v,oc,ho,hd⟩:=I2.cell x c (hcl x c e);exact ⟨v,oc,keep _ _ ho,hd⟩
 ·have hp':p∈X.pn++pins:=by simpa[blk] using hp
  obtain ⟨q1,q2,q3,q4,q5⟩:=I2.pin p hp';refine ⟨keep _ _ q1,q2,cB (bN (bD q1) hC),fun z=>?_,q5⟩;rcases bG.mp (I2.stkSub p.1 z) with q | q
  ·exact q3 q
  ·exact q4 q
 ·show (inner ix σ).length=N'.length;rw[S.len];simp[inner]
end
variable {X':Cx}{tt:TT}{elt:Expr}{ifs:List Expr}{te:TE}
section
def U7(X':Cx)(ifs:List Expr)(tt:TT):Prop:=∀ (pins:List (Addr×Obj)) (s:aR) (σ:L2.St) (H:Hp) (Q:Bool->Hp->Prop) (E:aH->aR->Prop),Inv X' pins σ H s->tt σ H Q->(∀ e s,X'.xe e s->E e s) ->
 wpAny (model X'.prog X'.w) X'.A (forIn ifs true fun c r=>if r=true then do let ok <- isTrue c X'.env (eval c X'.env);pure (jG ok) else pure (jG r)) (TP X' pins σ Q) E s
def Aj5:TT:=fun _ H Q=>Q true H
theorem U2:U7 X' [] Aj5:=fun pins s σ H Q E I h _=>wpAny_tests_nil ⟨H,I,h⟩
theorem Adf(h:PT X' c tt):U7 X' [c] tt:=fun pins s σ H Q E I q hE=>wpAny_tests_one (dG (h pins s σ H Q I q) (fun _ _ z=>z) hE)
noncomputable def Dm(its:List aH)(n:Nat):Obj:={ cls:=.type "list",data:=.seq its.toArray n }
theorem Adv{elt tg iter:Expr}{ifs:List Expr}{pos:Pos}{it D C:Addr}{J:It}{tn:Nat->Heap->Prop}{g:TG}{tt:TT}{te:TE}{Fin:List V->Hp->Prop}{R:Result->aR->Prop}{X':Cx}
  (hX:X'.A=X.A/\X'.prog=X.prog/\X'.w=X.w/\X'.K=X.K/\X'.calm=true/\∀ e s,¬ X'.xe e s) (T:Turn X.prog X.w X.K tg J fp it tn) (hg:PG X' tg g) (ht:U7 X' ifs tt) (he:PE X' elt te)
  (hD1:s2.heap.objs.size<=D) (hDC:D≠C) (hC:s2.heap.objs.size<=C) (hfp:∀ b∈fp,F9 X' [] H2 b/\b≠D) (hDf:∀ H,H D=ψ->F9 X' [] H D)
  {s:aR} {σ1:L2.St} {H1:Hp} {n0:Nat} (I:Inv X' [(D,Dm [] n0)] σ1 H1 s) (st:tn 0 s.heap) (fr:∀ b∈fp,H1 b=ψ) (hloop:Agd J g tt te σ1 H1 Fin)
  (hR:∀ (s':aR) (σ':L2.St) (H':Hp) (acc:List V) (its:List aH) (n:Nat),Inv X' [(D,Dm its n)] σ' H' s'->Vals acc its->acc.length<=sizeLine->Fin acc H'->R (.ok .next) s') :
  mW Zg X.A (.compLoop ZF 0 (.ref it) (.ref D) X'.env) R s:=by
 obtain ⟨W,⟨m0,w0⟩,turn⟩:=hloop;obtain ⟨hXA,hXp,hXw,hXK,hXc,hxe⟩:=hX;have hfpo:∀ (o:Obj) (H:Hp),(∀ b∈fp,H b=ψ)->∀ b∈fp,F9 X' [(D,o)] H b:=fun o H hn b hb=>by
  obtain ⟨⟨_,q1,q2,q3,q4,q5⟩,q6⟩:=hfp b hb;refine ⟨hn b hb,q1,q2,q3,q4,fun p hp=>?_⟩;rcases cX.mp hp with z | z
  ·exact q5 p (eZ _ z)
  ·have:p=(D,o):=by simpa using z
   rw[this];exact fun z=>q6 z.symm
 refine codeAny_loop rfl (fun n s=>∃ i acc its k σ1 H1,Inv X' [(D,Dm its k)] σ1 H1 s/\Vals acc its/\acc.length<=sizeLine/\tn i s.heap/\(∀ b∈fp,H1 b=ψ)/\W i n acc σ1 H1) (fun n s hI=>?_) m0 ⟨0,[],[],n0,σ1,H1,I,.nil,dW _,st,fr,w0⟩;show wpAny _ X.A ((compTurn ZF 0 (.ref it) (.ref D) X'.env).onRaise (fun x=>do noteFrame x X'.env;theTreesLotGoes x)) _ _ s;refine wpAny_noted ?_;rw[compTurn_list];obtain ⟨i,acc,its,k,σ1,H1,I,hv,hz,st,fr,w1⟩:=hI;refine aD (oM (aD ?_));rcases turn i n acc σ1 H1 w1 with ⟨stop,fin⟩ | ⟨go,step⟩
 ·have h:=T.done X' hXp hXw hXK hXc i _ s σ1 H1 Zbj I (hfpo _ H1 fr) st stop;rw[hXA] at h;refine thn h fun r s4 zz=>?_
  obtain ⟨hr,I4⟩:=zz;subst hr;exact aW (hR s4 σ1 H1 acc its k I4 hv hz fin)
 ·have h:=T.item X' hXp hXw hXK hXc i _ s σ1 H1 Zbj I (hfpo _ H1 fr) st go;rw[hXA] at h;refine thn h fun r s4 zz=>?_
  obtain ⟨u,hr,h4⟩:=zz;subst hr;refine aD (thn h4 fun _ s5 zz=>?_);obtain ⟨x,H5,I5,r5,y5,st5,fr5⟩:=zz;have I5':=I5.pinned (hfpo _ H5 fr5) (T.obj _ _ st5);have hg5:=hg _ s5 σ1 H5 x u _ I5' r5 (step x H5 y5);rw[hXp,hXw,hXA] at hg5;refine aD (dG hg5 (fun _ s6 zz=>?_) fun e s z=>absurd z (hxe e s));obtain ⟨σ6,H6,I6,q6⟩:=zz;have ht6:=ht _ s6 σ6 H6 _ Zbj I6 q6 (fun e s z=>absurd z (hxe e s));rw[hXp,hXw,hXA] at ht6;refine aD (thn ht6 fun b s7 zz=>?_);obtain ⟨H7,I7,q7⟩:=zz;have back:∀ {σ8:L2.St} {H8:Hp} {s8:aR},Inv X' ([(D,Dm its k)]++Ti fp s5.heap) σ8 H8 s8->tn (i+1) s8.heap/\(∀ b∈fp,H8 b=ψ)/\s8.heap.get? D=ξ (Dm its k)/\H8 D=ψ:=fun {σ8 H8 s8} I8=>by
   refine ⟨T.keep _ _ _ st5 fun b hb o e=>(I8.pin (b,o) Zcy).1,fun b hb=>?_,?_,?_⟩
   ·obtain ⟨o,e,d⟩:=T.obj _ _ st5 b hb;exact (I8.pin (b,o) Zcy).2.1
   ·exact (I8.pin (D,Dm its k) (aT _ (eZ _ ZdF))).1
   ·exact (I8.pin (D,Dm its k) (aT _ (eZ _ ZdF))).2.1
  cases b with
  | false=>
   obtain ⟨m',hm,w8⟩:=(q7:if false=true then _ else _);obtain ⟨st8,fr8,_,_⟩:=back I7;refine aW ⟨rfl,m',hm,i+1,acc,its,k,σ6,H7,?_,hv,hz,st8,fr8,w8⟩;exact I7.pins_of fun p hp=>I7.pin p (aT _ (eZ _ hp))
  | true=>
   have q7':te σ6 H7 fun y H6=>acc.length < sizeLine/\∃ m',m' < n/\W (i+1) m' (acc++[y]) σ6 H6:=q7
   have he7:=he _ s7 σ6 H7 _ I7 q7';rw[hXp,hXw,hXA] at he7;refine aD (aD (dG he7 (fun y s8 zz=>zz.elim fun v H8 I8 r8 zq=>?_) fun e s z=>absurd z (hxe e s)));obtain ⟨hlt,m',hm,w8⟩:=zq;obtain ⟨st8,fr8,hDo,hDn⟩:=back I8;have hlen:=hv.length;have hisl:s8.heap.IsList D its.toArray:=⟨_,hDo,rfl,k,rfl⟩;refine aD ?_;obtain ⟨k',hd'⟩:∃ k',bH (·.push y) (Dm its k)=Dm (its++[y]) k':=⟨_,by simp[Dm,bH];rfl⟩;refine fF slot_list_append hisl.typeIs entry_list_append ?_ (args_list_append _ _);show wpAny _ _ (updateSeq D (·.push y) >>= fun _=>ret .none) _ _ s8;refine aD (mN hDo rfl (aW ⟨.none,rfl,?_⟩));have hk9:∀ b o,b≠D->s8.heap.get? b=ξ o->(s8.heap.update D (bH (·.push y))).get? b=ξ o:=fun b o hb e=>(cL (h:=s8.heap) (a:=D) ..).2 b hb |>.trans e
   have hD9:(s8.heap.update D (bH (·.push y))).get? D=ξ (Dm (its++[y]) k'):=by
    rw[<- hd'];exact lJ _ hDo (by rw[hd'];exact Obj.isFreed_of_seq (xs:=(its++[y]).toArray) (n:=k') rfl)
   have I8':Inv X' [] σ6 H8 s8:=I8.pins_of fun p hp=>by cases hp
   obtain ⟨d0,d1,d2,d3,d4,d5⟩:=hDf H8 hDn;have I9:Inv X' [] σ6 H8 { s8 with heap:=s8.heap.update D (bH (·.push y)) }:=I8'.turned (t':=s8.toks) hk9 hDn d1 d3 d4 d5;have I10:=I9.pins_of (pins':=[(D,Dm (its++[y]) k')]) fun p hp=>by
    have:p=(D,Dm (its++[y]) k'):=by simpa using hp
    subst this;exact ⟨hD9,hDn,d1,d2,fun v z=>by simp[Dm] at z⟩
   refine aW (aW ⟨rfl,m',hm,i+1,acc++[v],its++[y],k',σ6,H8,I10,Vals.append hv (.cons r8 .nil),by rw[bU];simp;omega,?_,fr8,w8⟩);refine T.keep _ _ _ st8 fun b hb o e=>hk9 b o (hfp b hb).2 e
end
section
def Ai8(ix:List ZU)(wi:TI)(g:TG)(tt:TT)(te:TE):TE:=fun σ H Q=>wi σ H fun J H1=>Agd J g tt te (inner ix σ) H1 fun acc H2=>∀ p,H2 p=ψ->Q (.ref p) (upd H2 p (.lst acc))
theorem Uw{elt tg iter:Expr}{ifs:List Expr}{pos:Pos}{g:TG}{tt:TT}{te:TE}{pins:List (Addr×Obj)}{σ:L2.St}{H2:Hp}{s2:aR}{cl:List (Str×Addr)}{fp:List Addr}{it:Addr}{J:It}{tn:Nat->Heap->Prop}{E:aH->aR->Prop}{Fin:List V->Hp->Prop}{RR:aH->Addr->Result->aR->Prop}
  (S:CompSc X scope N' ix) (hcalm:X.calm=true) (hcl:∀ x c,cl.lookup x=ξ c->X.env.cells.lookup x=ξ c) (hcl2:∀ y∈scope.names,y.2 = .free->∃ c,cl.lookup y.1=ξ c)
  (hg:∀ C,PG Zp tg g) (ht:∀ C,U7 Zp ifs tt) (he:∀ C,PE Zp elt te)
  (I2:Inv X pins σ H2 s2) (T:Turn X.prog X.w X.K tg J fp it tn) (st2:tn 0 s2.heap) (f2:∀ b∈fp,F9 X pins H2 b) (hloop:Agd J g tt te (inner ix σ) H2 Fin)
  (hRR:∀ (D C:Addr) (s':aR) (H':Hp) (acc:List V),Inv X pins σ Zbl s'->H' D=ψ->(∃ m,s'.heap.Ns C m)->(upd H' D (.lst acc)) C=ψ->F9 X pins Zbl C->Fin acc H'->RR (.ref D) C (.ok .next) s') :
  wpAny Zg X.A (newList []) (fun acc s₃=>wpAny Zg X.A (newFunctionEnv scope X.env.globals cl [] X.env.qual ψ .none (ξ X.env)) (fun cenv s₄=>
   mW Zg X.A (.compStart ZF 0 (.ref it) acc { cenv with scope:=relabel scope X.env }) (RR acc cenv.locals) s₄) E s₃) E s2:=by
 have hcell:∀ y∈scope.names,y.2≠.cell:=fun y hy z=>by
  have:=bT.mp S.cell y hy;rw[z] at this;simp at this
 refine dE (rF hcell (by intro y hy;simp at hy) (fun h₁ hns₁ hsb₁=>?_) S.kind);dsimp only at hns₁ hsb₁ ⊢;generalize hH2:s2.heap.push { cls:=.type "list",dict:=ψ,data:=.seq ([]:List aH).toArray } = HP at hns₁ hsb₁ ⊢;have hCs:HP.objs.size=s2.heap.objs.size+1:=by rw[<- hH2,eF]
 have hDC:s2.heap.objs.size≠HP.objs.size:=by rw[hCs];exact cB (fE _)
 have hCle:s2.heap.objs.size<=HP.objs.size:=by rw[hCs];exact lZ _
 have old:∀ b o,s2.heap.get? b=ξ o->h₁.get? b=ξ o:=fun b o e=>hsb₁.extBut b o (cB (bN (bD e) hCle)) (aG _ (hH2 ▸ aG _ e))
 have hacc:h₁.get? s2.heap.objs.size=ξ (Dm [] 0):=hsb₁.extBut _ _ hDC (aG _ (hH2 ▸ aZ _ rfl));have hfp:∀ b∈fp,b < s2.heap.objs.size:=fun b hb=>by
  obtain ⟨o,e,_⟩:=T.obj _ _ st2 b hb;exact bD e
 generalize hDg:s2.heap.objs.size=D at hDC hacc;generalize hCg:HP.objs.size=C at *;have hDle:s2.heap.objs.size<=D:=sV hDg;have hD2:s2.heap.get? D=ψ:=by
  cases q:s2.heap.get? D with
  | none=>rfl
  | some o=>exact absurd (bN (bD q) hDle) (dI _)
 have I4:=Afd (t4:=s2.toks+([]:List (Str×aH)).length) S hcalm I2 hcl hcl2 f2 hfp hCle hns₁ old;have above:∀ a,s2.heap.objs.size<=a->a∉frs X.stack/\(∀ x c,X.env.cells.lookup x=ξ c->c≠a)/\(∀ p∈X.pn++pins,p.1≠a)/\a≠X.env.locals:=fun a ha=>by
  refine ⟨fun z=>?_,fun x c e z=>?_,fun p hp z=>?_,?_⟩
  ·rcases bG.mp (I2.stkSub a z) with q | q
   ·exact absurd (bN I2.lt (q ▸ ha)) (dI _)
   ·exact I2.nofs ha q
  ·obtain ⟨v,q⟩:=I2.cell x c e;exact absurd (bN q.lt (z ▸ ha)) (dI _)
  ·exact absurd (bN (bD (I2.pin p hp).1) (z ▸ ha)) (dI _)
  ·intro z;exact absurd (bN I2.lt (z ▸ ha)) (dI _)
 have hfpX:∀ b∈fp,F9 Zp [] H2 b/\b≠D:=fun b hb=>by
  obtain ⟨q0,q1,q2,q3,q4,q5⟩:=f2 b hb;have hlt:=hfp b hb;refine ⟨⟨q0,cB (bN hlt hCle),fun z=>?_,.inl hb,fun x c e=>q4 x c (hcl x c e),fun p hp=>q5 p (by simpa[blk] using hp)⟩,cB (bN hlt hDle)⟩;rcases bG.mp (I2.stkSub b z) with q | q
  ·exact q1 q
  ·exact q2 q
 have hDf:∀ H:Hp,H D=ψ->F9 Zp [] H D:=fun H hn=>by
  obtain ⟨a1,a2,a3,a4⟩:=above D hDle;exact ⟨hn,hDC,a1,.inr hDle,fun x c e=>a2 x c (hcl x c e),fun p hp=>a3 p (by simpa[blk] using hp)⟩
 have hDn2:H2 D=ψ:=I2.hok.fresh hDle;have I5:Inv Zp [(D,Dm [] 0)] (inner ix σ) H2 { s2 with heap:=h₁,toks:=s2.toks+([]:List (Str×aH)).length }:=I4.pins_of fun p hp=>by
  have:p=(D,Dm [] 0):=by simpa using hp
  subst this;obtain ⟨_,d1,d2,_⟩:=hDf H2 hDn2;exact ⟨hacc,hDn2,d1,d2,fun v z=>by simp[Dm] at z⟩
 have st5:tn 0 h₁:=T.keep _ _ _ st2 fun b _ o e=>old b o e
 have loop:mW Zg X.A (.compLoop ZF 0 (.ref it) (.ref D) (blk X scope cl C N' s2 H2 fp pins).env) (RR (.ref D) C) { s2 with heap:=h₁,toks:=s2.toks+([]:List (Str×aH)).length }:=by
  refine Adv (X':=blk X scope cl C N' s2 H2 fp pins) ⟨rfl,rfl,rfl,rfl,hcalm,fun _ _ z=>z⟩ T (hg C) (ht C) (he C) hDle hDC hCle hfpX hDf I5 st5 (fun b hb=>(f2 b hb).1) hloop ?_;intro s' σ' H' acc its n I hv hz fin;obtain ⟨hDo,hDn,_⟩:=I.pin (D,Dm its n) (aT _ ZdF);have hbase:Un (frs X.stack) fp H2 H' s2.heap s'.heap:=I.base;have hok:HOk X.prog X.w Zbl s'.heap:=HOk.adopt I.hok hDn ⟨hz,its,n,hv,hDo⟩;have IX:Inv X pins σ Zbl s':=I2.call' I.os (Un.adopt hbase hDn hD2) hok I.bare fun b hb=>⟨(f2 b hb).2.2.2.1,(f2 b hb).2.1,(f2 b hb).2.2.2.2.1,(f2 b hb).2.2.2.2.2⟩
  obtain ⟨m,hm,_⟩:=I.loc;have hCn:(upd H' D (.lst acc)) C=ψ:=by rw[Aw (fN hDC)];exact I.free
  obtain ⟨a1,a2,a3,a4⟩:=above C hCle;refine hRR D C s' H' acc IX hDn ⟨m,hm⟩ hCn ⟨hCn,a4,fun z=>?_,.inr (eC I2.sz hCle),a2,a3⟩ fin;exact I2.nofs hCle z
 have e1:({ newEnv scope C X.env.globals cl X.env.qual ψ .none (ξ X.env) nD with scope:=relabel scope X.env }:nC)=(blk X scope cl C N' s2 H2 fp pins).env:=rfl;exact codeAny_compStart_list loop (T.self _ 0 _ _ _ st5 loop)
theorem CompSc.names(S:CompSc X scope N' ix):∀ x∈scope.names,x.2 = .local->scope.names.lookup x.1=ξ .local:=fun x hx hl=>by
 have:=bT.mp S.loc x hx;rw[hl] at this;simpa using this
theorem CompSc.clos(S:CompSc X scope N' ix)(ok:X.Ok):∃ cl,closureFor scope X.env=pure cl/\(∀ x c,cl.lookup x=ξ c->X.env.cells.lookup x=ξ c)/\∀ y∈scope.names,y.2 = .free->∃ c,cl.lookup y.1=ξ c:=by
 refine Mp fun y hy hf=>?_
 have:=bT.mp S.free y hy;rw[hf] at this;simp at this;exact ok.has y.1 this
theorem Ace{elt tg iter:Expr}{ifs:List Expr}{pos:Pos}{wi:TI}{g:TG}{tt:TT}{te:TE}(S:CompSc X scope N' ix)(hcalm:X.calm=true)(hi:PI X tg iter wi)
  (hg:∀ cl C s2 H2 fp pins,PG Zp tg g) (ht:∀ cl C s2 H2 fp pins,U7 Zp ifs tt) (he:∀ cl C s2 H2 fp pins,PE Zp elt te)
  (hs:∀ x,foldedSetIterable iter X.env x=pure x:=by intro _;rfl):PE X ZF (Ai8 ix wi g tt te):=by
 intro pins s σ H Q I h;obtain ⟨cl,hclos,hcl,hcl2⟩:=S.clos I.ok;rw[eval_ListComp];refine oQ (use:=ψ) rfl hs hclos S.kind S.names (thn (hi pins s σ H _ I h) fun v s1 h1=>thn h1 fun itv s2 h2=>?_);obtain ⟨it,fp,tn,J,H2,e,I2,T,st2,f2,loop⟩:=h2;subst e;refine Uw (RR:=fun acc C=>compPost Zg X.A X.xe ψ (EP X pins σ Q) acc C) S hcalm hcl hcl2 (fun C=>hg cl C s2 H2 fp pins) (fun C=>ht cl C s2 H2 fp pins) (fun C=>he cl C s2 H2 fp pins) I2 T st2 f2 loop ?_;intro D C s' H' acc IX hDn ⟨m,hm⟩ hCn hC fin;refine ⟨m,hm,fun h' hsb=>?_⟩;obtain ⟨c0,c1,c2,c3,c4,c5⟩:=hC;exact ⟨.ref D,_,IX.turned (t':=s'.toks) (fun b o hb e=>hsb.2 b hb |>.trans e) c0 c1 c3 c4 c5,rfl,fin D hDn⟩
theorem Aj2{i:Nat}{y:Str}{py spos:Pos}{elt tg iter:Expr}{ifs:List Expr}{pos:Pos}{wi:TI}{g:TG}{tt:TT}{te:TE}(hN:X.N.Nodup)(hiN:X.N[i]? = ξ y)(hx:Loc X.env.scope y)(hf:X.fn y=true\/X.env.scope.names.lookup y=ξ .local)
  (S:CompSc X scope N' ix) (hcalm:X.calm=true) (hi:PI X tg iter wi)
  (hg:∀ cl C s2 H2 fp pins,PG Zp tg g) (ht:∀ cl C s2 H2 fp pins,U7 Zp ifs tt) (he:∀ cl C s2 H2 fp pins,PE Zp elt te)
  (hsw:swapsWith ZF (ξ (.Name y py)) spos.line X.env=pure true)
  (hs:∀ x,foldedSetIterable iter X.env x=pure x:=by intro _;rfl):PS X (.Assign [.Name y py] ZF spos) (Ajz (Ai8 ix wi g tt te) (Xd i)):=by
 intro pins s σ H Dn I h;obtain ⟨cl,hclos,hcl,hcl2⟩:=S.clos I.ok;rw[exec_Assign_Name_used _ _ _ _ hsw];refine aD (oM (aD ?_));show wpAny _ X.A (do let _ <- comprehension ZF scope X.env _ (newList []) false (eval iter X.env) (ξ Zdm)) _ _ s;refine aD (dG (oQ (Q:=fun _ s'=>SP X pins Dn .next s') (use:=ξ Zdm) rfl hs hclos S.kind S.names (thn (hi pins s σ H _ I h) fun v s1 h1=>thn h1 fun itv s2 h2=>?_)) (fun _ s' hq=>aW (aW hq)) fun _ _ e=>e);obtain ⟨it,fp,tn,J,H2,e,I2,T,st2,f2,loop⟩:=h2;subst e;refine Uw (RR:=fun acc C=>compPost Zg X.A X.xe (ξ Zdm) (fun _ s'=>SP X pins Dn .next s') acc C) S hcalm hcl hcl2 (fun C=>hg cl C s2 H2 fp pins) (fun C=>ht cl C s2 H2 fp pins) (fun C=>he cl C s2 H2 fp pins) I2 T st2 f2 loop ?_;intro D C s' H' acc IX hDn ⟨m,hm⟩ hCn hC fin;obtain ⟨c0,c1,c2,c3,c4,c5⟩:=hC;obtain ⟨oC,es,ep,hoC,hdC,hrest⟩:=id hm;have IP:Inv X (pins++[(C,oC)]) σ Zbl s':=IX.pins_of fun p hp=>by
  rcases cX.mp hp with z | z
  ·exact IX.pin p (aT _ z)
  ·have:p=(C,oC):=by simpa using z
   subst this;exact ⟨hoC,c0,c1,c2,fun v z=>by rw[hdC] at z;cases z⟩
 have hq:Xd i (.ref D) σ Zbl Dn.nx:=fin D hDn;refine thn (Ac9 (i:=i) (pos:=py) hN hiN hx hf (pins++[(C,oC)]) s' σ _ (.ref D) (.ref D) Dn.nx IP rfl hq) fun _ s'' zz=>?_
 obtain ⟨σ'',H'',I'',q''⟩:=zz;obtain ⟨p1,p2,p3,p4,p5⟩:=I''.pin (C,oC) (aT _ (aT _ ZdF));refine ⟨m,⟨oC,es,ep,p1,hdC,hrest⟩,fun h' hsb=>?_⟩;exact ⟨σ'',H'',(I''.unpinned).turned (t':=s''.toks) (fun b o hb e=>hsb.2 b hb |>.trans e) p2 p3 c3 c4 c5,q''⟩
end
def E9(tt:Option FT):FT:=fun δ L=>match tt with
 | none=>ξ (true,L)
 | some f=>f δ L
def Tx(it:IU)(g:FG)(tt:Option FT)(fe:FE):Nat->Nat->List U->UE->UH->Option (List U×UH)
 | 0,_,_,_,_=>ψ
 | m+1,k,acc,δ,L=>match it.at k L with
  | none=>ψ
  | some ψ=>ξ (acc,L)
  | some (ξ u)=>(g u δ L).bind fun p=>(E9 tt p.1 p.2).bind fun q=>if q.1=true then (fe p.1 q.2).bind fun r=>if decide (acc.length < sizeLine)=true then Tx it g tt fe m (k+1) (acc++[r.1]) p.1 r.2 else ψ
   else Tx it g tt fe m (k+1) acc p.1 q.2
def Ea(ix:List ZU)(δ:UE):UE:=ix.map fun o=>o.bind fun i=>(δ[i]?).join
def Bo(ix:List ZU)(fi:FI)(g:FG)(tt:Option FT)(fe:FE):FE:=fun δ L=>(fi δ L).bind fun p=>(Tx p.1 g tt fe (p.1.size p.2+1) 0 [] (Ea ix δ) p.2).map fun q=>(.ref q.2.length,q.2++[.lst q.1])
theorem RepS.inner(S:RepS K H α δ σ)(ix:List ZU):RepS K H α (Ea ix δ) (MR.inner ix σ):=by
 refine ⟨by simp[Ea,MR.inner],fun j u e=>?_⟩;unfold Ea at e;unfold MR.inner;rw[bA] at e ⊢;cases hx:ix[j]? with
 | none=>rw[hx] at e;simp at e
 | some o=>
  rw[hx] at e;cases o with
  | none=>simp at e
  | some i=>
   simp at e;have:δ[i]? = ξ (ξ u):=by
    cases q:δ[i]? with
    | none=>rw[q] at e;simp at e
    | some o=>rw[q] at e;simp at e;rw[e]
   obtain ⟨v,hv,r⟩:=S.at_ i u this;exact ⟨v,by simp[hv],r⟩
def lTo(K:aL)(tt:Option FT):TT:=match tt with
 | none=>Aj5
 | some f=>lT K f
inductive CI(K:aL)(it:IU)(g:FG)(tt:Option FT)(fe:FE)(H1:Hp)(α1:List Addr)(ys:List U)(L2:UH)(k m:Nat)(acc:List V)(σ2:_root_.L2.St)(H2:Hp):Prop
 | mk (α2:List Addr) (δ2:UE) (M:UH) (us:List U) (g2:Gr H1 α1 H2 α2) (A2:Abs K H2 α2 M) (S2:RepS K H2 α2 δ2 σ2) (r2:RepL K H2 α2 us acc) (e:Tx it g tt fe m k us δ2 M=ξ (ys,L2)):CI K it g tt fe H1 α1 ys L2 k m acc σ2 H2
theorem Wl{g:FG}{tt:Option FT}:∀ σ H Q,lE K (Bo ix fi g tt fe) σ H Q->Ai8 ix (lI K fi) (lG K g) (lTo K tt) (lE K fe) σ H Q:=by
 rintro σ H Q ⟨α,δ,L,A,S,z,L3,e,q⟩;obtain ⟨⟨it,L1⟩,e1,e⟩:=aB.mp e;obtain ⟨⟨ys,L2⟩,e2,e⟩:=aJ.mp e;cases e;refine ⟨α,δ,L,A,S,it,L1,e1,fun J H1 α1 g1 A1 hJ=>?_⟩;refine ⟨CI K it g tt fe H1 α1 ys L2,⟨_,α1,_,L1,[],.refl _ _,A1,(S.mono g1).inner ix,.nil,e2⟩,?_⟩;rintro k m acc σ2 H2 ⟨α2,δ2,M,us,g2,A2,S2,r2,e3⟩;cases m with
 | zero=>cases e3
 | succ m=>
  obtain ⟨hgo,hstop⟩:=hJ H2 α2 M g2 A2 k;unfold Tx at e3;cases hat:it.at k M with
  | none=>rw[hat] at e3;cases e3
  | some o=>
   cases o with
   | none=>
    rw[hat] at e3;cases e3;refine .inl ⟨hstop hat,fun p hp=>?_⟩;obtain ⟨g3,A3,r3⟩:=A2.lst r2 hp;exact q _ _ _ ZdS A3 r3
   | some u=>
    rw[hat] at e3;obtain ⟨go,yld⟩:=hgo u hat;obtain ⟨⟨δ3,L3⟩,e4,e3⟩:=aB.mp e3;obtain ⟨⟨b,L4⟩,e5,e3⟩:=aB.mp e3;refine .inr ⟨go,fun x H3 y3=>?_⟩;obtain ⟨g3,A3,r3⟩:=yld x H3 y3;refine ⟨α2,δ2,M,u,A3,S2.mono g3,r3,δ3,L3,e4,fun σ4 H4 α4 g4 A4 S4=>?_⟩;have after:∀ H5 α5,Gr H4 α4 H5 α5->Abs K H5 α5 L4->(if b=true then lE K fe σ4 H5 (fun y H6=>acc.length < sizeLine/\∃ m',m' < m+1/\CI K it g tt fe H1 α1 ys L2 (k+1) m' (acc++[y]) σ4 H6) else ∃ m',m' < m+1/\CI K it g tt fe H1 α1 ys L2 (k+1) m' acc σ4 H5):=fun H5 α5 g5 A5=>by
     have gA:=g2.trans (g3.trans (g4.trans g5));have gB:=g3.trans (g4.trans g5);cases b with
     | false=>exact Aac ⟨m,fE _,α5,δ3,L4,us,gA,A5,S4.mono g5,r2.mono gB,e3⟩
     | true=>
      obtain ⟨⟨w,L5⟩,e6,e3⟩:=aB.mp e3;simp only at e3;split at e3
      ·rename_i hlt;refine Aat ⟨α5,δ3,L4,A5,S4.mono g5,w,L5,e6,fun y H6 α6 g6 A6 r6=>?_⟩;exact ⟨by rw[<- r2.length];exact of_decide_eq_true hlt,m,fE _,α6,δ3,L5,us++[w],gA.trans g6,A6,(S4.mono g5).mono g6,(r2.mono (gB.trans g6)).append (.cons r6 .nil),e3⟩
      ·cases e3
    cases tt with
    | none=>
     cases e5;exact after H4 α4 (.refl _ _) A4
    | some f=>exact ⟨α4,δ3,L3,A4,S4,b,L4,e5,fun H5 α5 g5 A5=>after H5 α5 g5 A5⟩
section
variable {g:FG}{ft:FT}
theorem Ck(S:CompSc X scope N' ix)(hcalm:X.calm=true)(hi:PIF X tg iter fi)(hg:∀ cl C s2 H2 fp pins,PGF Zp tg g)(he:∀ cl C s2 H2 fp pins,PEF Zp elt fe)
  (hs:∀ x,foldedSetIterable iter X.env x=pure x:=by intro _;rfl):PEF X Zbv (Bo ix fi g ψ fe):=
 PE.imp (Ace (g:=lG X.K g) (te:=lE X.K fe) (tt:=Aj5) S hcalm hi hg (fun _ _ _ _ _ _=>U2) he hs) Wl
theorem Kg(S:CompSc X scope N' ix)(hcalm:X.calm=true)(hi:PIF X tg iter fi)(hg:∀ cl C s2 H2 fp pins,PGF Zp tg g)(ht:∀ cl C s2 H2 fp pins,PTF Zp c ft)(he:∀ cl C s2 H2 fp pins,PEF Zp elt fe)
  (hs:∀ x,foldedSetIterable iter X.env x=pure x:=by intro _;rfl):PEF X (.ListComp elt [⟨tg,iter,[c],0⟩] scope pos) (Bo ix fi g (ξ ft) fe):=
 PE.imp (Ace (g:=lG X.K g) (te:=lE X.K fe) (tt:=lT X.K ft) S hcalm hi hg (fun _ _ _ _ _ _=>Adf (ht _ _ _ _ _ _)) he hs) (Wl (tt:=ξ ft))
theorem Apv{fc:FE}{t:TE}(ht:∀ σ H Q,lE K fc σ H Q->t σ H Q):∀ D σ H,lS K (Ba fc (gN i)) D σ H->Ajz t (Xd i) D σ H:=by
 rintro D σ H ⟨α,δ,L,A,S,fl,L',e,q⟩;obtain ⟨⟨u,L1⟩,e1,e⟩:=aB.mp e;obtain ⟨⟨δ2,L2⟩,e2,e⟩:=aJ.mp e;cases e;cases e2;exact ht σ H _ ⟨α,δ,L,A,S,u,_,e1,fun v H1 α1 g1 A1 r1=>q _ H1 α1 g1 A1 ((S.mono g1).set i r1)⟩
theorem Y1{i:Nat}{y:Str}{py spos:Pos}(hN:X.N.Nodup)(S:CompSc X scope N' ix)(hcalm:X.calm=true)(hi:PIF X tg iter fi)(hg:∀ cl C s2 H2 fp pins,PGF Zp tg g)(he:∀ cl C s2 H2 fp pins,PEF Zp elt fe)
  (hiN:X.N[i]? = ξ y:=by rfl) (hx:Loc X.env.scope y:=by first | exact xI rfl | exact wG rfl) (hf:X.fn y=true\/X.env.scope.names.lookup y=ξ .local:=by first | exact .inl rfl | exact .inr rfl)
  (hsw:swapsWith Zbv (ξ (.Name y py)) spos.line X.env=pure true:=by rfl)
  (hs:∀ x,foldedSetIterable iter X.env x=pure x:=by intro _;rfl):PSF X (.Assign [.Name y py] Zbv spos) (Ba (Bo ix fi g ψ fe) (gN i)):=
 PS.imp (Aj2 (i:=i) (g:=lG X.K g) (te:=lE X.K fe) (tt:=Aj5) hN hiN hx hf S hcalm hi hg (fun _ _ _ _ _ _=>U2) he hsw hs) (Apv Wl)
end
section
variable {s:aR}{h':Heap}
theorem Inv.turnNew{ch:List Addr}{t':Nat}(I:L2.Inv X pins σ H s)(hch:∀ b∈ch,F9 X pins H b)(k:∀ b o,b∉ch->s.heap.get? b=ξ o->h'.get? b=ξ o)(hp:s.heap.objs.size<=p)(new:ObjOk X.prog X.w (upd H p o) h' p o) :
  L2.Inv X pins σ (upd H p o) { s with heap:=h',toks:=t' }:=by
 have hn:H p=ψ:=I.hok.fresh hp;have nch:∀ b u,H b=ξ u->b∉ch:=fun b u e hb=>by rw[(hch b hb).1] at e;cases e
 have st:=Stay.new hn o;refine I.step (g':=s.gens) (d':=s.drawn) (ch:=ch) (fun b hb=>?_) (fun b o _ _ hc e _=>k b o hc e) (fun b o _ _ hc e _=>⟨o.slots,k b o hc e⟩) (fun b u hc e n=>?_) (fun b u hc e=>⟨u,k b u hc e⟩) st.1 st.2 (fun b ps e=>⟨#[],?_⟩) (fun m hm=>?_) (fun b u e=>?_) I.bare
 ·obtain ⟨_,f1,_,f3,f4,f5⟩:=hch b hb;exact ⟨f3,f1,f4,f5⟩
 ·rw[Aw (cB (bN (bD e) hp))];exact n
 ·rw[Aw (Bc e hn),e];simp
 ·obtain ⟨o1,es,ep,ho,r⟩:=hm;exact ⟨o1,es,ep,k _ o1 (fun z=>(hch _ z).2.1 rfl) ho,r⟩
 ·by_cases hb:b=p
  ·subst hb;rw[upd_same] at e;cases e;exact new
  ·rw[Aw hb] at e;refine (I.hok b u e).stay (fun c v hc q=>k c v ?_ q) (fun c q=>by rw[Aw (Bc q hn)];exact q) fun c xs q=>by rw[Aw (Bc q hn)];exact q
   rcases hc with z | z
   ·rw[z];exact nch b u e
   ·exact nch c _ z
end
def Ite(K:aL)(a:Addr):It:=
 ⟨fun i H=>∃ xs x,SqL K H a xs/\xs[i]? = ξ x,fun i H x H'=>∃ p v,H p=ψ/\x = .ref p/\H'=upd H p Zb5/\∀ xs,SqL K H a xs->xs[i]? = ξ v,fun i H=>∃ xs,SqL K H a xs/\xs.length<=i⟩
theorem Aeq{elts:List Expr}{x1}(a e it:Addr)(hne:e≠it):Turn P w K (.Tuple elts x1 pos) (Ite K a) [e,it] e (fun i h=>(∃ old,IsEnum h e it i old)/\h.IsListIter it a i) where
 mem:=Za
 obj:=fun i h st b hb=>by
  obtain ⟨⟨old,he⟩,o,ho,hc,hd⟩:=st;rcases bG.mp hb with rfl | hb
  ·exact ⟨_,he,fun v z=>by simp at z⟩
  ·have:b=it:=by simpa using hb
   subst this;exact ⟨o,ho,fun v z=>by rw[hd] at z;cases z⟩
 keep:=fun i h h' st k=>by
  obtain ⟨⟨old,he⟩,o,ho,hc,hd⟩:=st;exact ⟨⟨old,k e Za _ he⟩,o,k it Za _ ho,hc,hd⟩
 item:=by
  intro X hP hw hK hc i pins s σ H E I hf st hg;subst hP hw hK;obtain ⟨⟨old,he⟩,hit⟩:=st;obtain ⟨xs,v,sq,hx⟩:=hg;obtain ⟨its,hv,pl,hz⟩:=I.list sq;obtain ⟨u,hu,r⟩:=hv.get hx;refine wpAny_pyNext_enum_item he hit pl.isList (by simpa using hu) hne fun h' o1 o2 o3 o4 o5=>?_
  refine ⟨_,rfl,?_⟩;have hfr:H s.heap.objs.size=ψ:=I.hok.fresh (aP _);have I1:L2.Inv X pins σ ZaL { s with heap:=h',toks:=s.toks+1 }:=
   Inv.turnNew (ch:=[e,it]) I hf (fun b o hb q=>o5 b o ZV ZV q) (aP _)
    (show ObjOk X.prog X.w _ h' _ Zb5 from ⟨by show 2<=sizeLine;decide,[.int i s.toks,u],.cons ⟨_,rfl⟩ (.cons r .nil),⟨_,o3,rfl,_,rfl⟩⟩)
  refine nK o1 fun h2 e2 sb2=>?_
  have hne2:∀ b∈[e,it],b≠s.heap.objs.size:=fun b hb z=>by
   rcases bG.mp hb with q | q
   ·have:=bD he;rw[<- q,z] at this;exact dI _ this
   ·have q:b=it:=by simpa using q
    obtain ⟨o,ho,_⟩:=hit;have:=bD ho;rw[<- q,z] at this;exact dI _ this
  have hnone:∀ b∈[e,it],(upd H s.heap.objs.size Zb5) b=ψ:=fun b hb=>by rw[Aw (hne2 b hb)];exact (hf b hb).1
  obtain ⟨f0,f1,f2,f3,f4,f5⟩:=hf e Za;have I2:=I1.turned (t':=s.toks+1) (h':=h2) (it:=e) (fun b o hb q=>sb2.2 b hb |>.trans q) (hnone e Za) f1 f3 f4 f5;obtain ⟨oi,hoi,hci,hdi⟩:=o2;refine ⟨.ref s.heap.objs.size,_,I2,rfl,⟨_,v,hfr,rfl,rfl,fun ys sq'=>?_⟩,⟨⟨_,e2⟩,oi,(sb2.2 it (fN hne)).trans hoi,hci,hdi⟩,hnone⟩;rw[I.list_inj sq' sq];exact hx
 done:=by
  intro X hP hw hK hc i pins s σ H E I hf st hg;subst hP hw hK;obtain ⟨⟨old,he⟩,hit⟩:=st;obtain ⟨xs,sq,hx⟩:=hg;obtain ⟨its,hv,pl,hz⟩:=I.list sq;obtain ⟨f0,f1,f2,f3,f4,f5⟩:=hf it Za;have hlen:=hv.length;refine wpAny_pyNext_enum_end Zae he hit pl.isList (by simp;omega) fun h' eb=>⟨rfl,I.turned (t':=s.toks) (fun b o hb q=>eb b o hb q) f0 f1 f3 f4 f5⟩
 self:=fun _ _ _ _ _ st h=>by obtain ⟨⟨old,he⟩,_⟩:=st;exact kW he h
theorem Ae3(n l1 l2:Nat)(h1:l1 < n)(h2:l2 < n):rG (n+4) (n+2) (n+3) n (n+1) l1 l2:=by
 constructor <;> (intro q;exact absurd (show (_:Nat)=_ from q) Ze)
section
variable {elts:List Expr}{x1:Nat}{tpos:Pos}
theorem Uu:fP "enumerate" = ξ (.type "enumerate"):=Zd
theorem Ah9:fP "zip" = ξ (.type "zip"):=Zd
def Ar2(K:aL)(ta:TA):TI:=fun σ H R=>ta σ H fun vs H1=>∃ a xs,vs=[.ref a]/\SqL K H1 a xs/\R (Ite K a) H1
theorem Ab4{a:Expr}{ta:TA}{p:Pos}(hg:Gl X "enumerate")(hm:X.mg "enumerate" = ψ)(ha:PA X [a] ta)(hs:bK [a] X.env=[ZO]:=by rfl):PI X Zbm (.Call (.Name "enumerate" p) [a] [] pos) (Ar2 X.K ta):=by
 intro pins s σ H R I h;refine Call_ (Em I hg hm Uu (cC (thn Zaa fun us s1 ⟨vs,H1,I1,r1,q1⟩=>?_) hs rfl));obtain ⟨l,xs,rfl,sq,q⟩:=q1;obtain ⟨u,rfl,ru⟩:=Er r1;cases ru;obtain ⟨its,hv,pl,hz⟩:=I1.list sq;refine call_enumerate_list pl.isList fun h' o1 o2 o3 o4=>?_
 have I2:L2.Inv X pins σ H1 { s1 with heap:=h' }:=I1.kept (t':=s1.toks) o4;refine kW o1 ⟨_,_,_,_,H1,rfl,I2,Aeq l (s1.heap.objs.size+1) s1.heap.objs.size (jC (fE _)),⟨⟨_,o1⟩,o2⟩,fun b hb=>?_,q⟩;have hb':s1.heap.objs.size<=b:=by
  simp only[bG,iF,or_false] at hb;rcases hb with rfl | rfl
  ·exact lZ _
  ·exact aP _
 exact L2.Inv.fpOk I1 hb' (I1.hok.fresh hb')
def Us(g:FA):FI:=fun δ L=>(g δ L).bind fun p=>match p.1 with
 | [.ref n]=>(Ap p.2 n).map fun _=>(.enm n,p.2)
 | _=>ψ
def Au5(g:FA):FI:=fun δ L=>(g δ L).bind fun p=>match p.1 with
 | [.ref n,.ref m]=>(Ap p.2 n).bind fun _=>(Ap p.2 m).map fun _=>(.zip2 n m,p.2)
 | _=>ψ
theorem Sw(A:Abs K H α L)(ea:α[n]? = ξ a)(h:Ap L n=ξ us):∃ xs,SqL K H a xs/\RepL K H α us xs:=by
 obtain ⟨a',xs,ea',sq,r⟩:=Fm A h;rw[ea] at ea';cases ea';exact ⟨xs,sq,r⟩
theorem Acd(hinj:∀ (H:Hp) xs ys,SqL K H a xs->SqL K H a ys->True)(ea:α[n]? = ξ a):P4 K (Ite K a) (.enm n) H α:=by
 intro H2 α2 L2 g A2 k;have ea2:=g.at ea;refine ⟨fun u eu=>?_,fun eu=>?_⟩
 ·obtain ⟨us,hs,eu⟩:=aJ.mp eu;obtain ⟨xs,sq,r⟩:=Sw A2 ea2 hs;obtain ⟨w,hw,eu⟩:=aJ.mp eu;subst eu;obtain ⟨x,hx,rx⟩:=r.get hw;refine ⟨⟨xs,x,sq,hx⟩,?_⟩;rintro y H3 ⟨p,v,hp,rfl,rfl,hy⟩;have:=hy xs sq;rw[hx] at this;cases this;exact A2.tup (.cons rfl (.cons rx .nil)) hp
 ·obtain ⟨us,hs,eu⟩:=aJ.mp eu;obtain ⟨xs,sq,r⟩:=Sw A2 ea2 hs;have:us[k]? = ψ:=by simpa using eu
  exact ⟨xs,sq,by rw[<- r.length];exact cU.mp this⟩
theorem Agb{a:Expr}{p:Pos}(hg:Gl X "enumerate")(hm:X.mg "enumerate" = ψ)(ha:PAF X [a] g)(hs:bK [a] X.env=[ZO]:=by rfl):PIF X Zbm (.Call (.Name "enumerate" p) [a] [] pos) (Us g):=by
 refine PI.imp (Ab4 hg hm ha hs) ?_;rintro σ H R ⟨α,δ,L,A,S,i,L3,e,q⟩;obtain ⟨⟨us,L1⟩,e1,e⟩:=aB.mp e;refine ⟨α,δ,L,A,S,us,L1,e1,fun xs H1 α1 g1 A1 r1=>?_⟩;simp only at e;split at e
 ·obtain ⟨l,hl,e⟩:=aJ.mp e;cases e;obtain ⟨x,rfl,rx⟩:=r1.one;obtain ⟨a',ys,rfl,sq,r2⟩:=Ey A1 hl rx;obtain ⟨a2,ea,ha2⟩:=rx.ref_of A1;cases ha2;exact ⟨a',ys,rfl,sq,q _ H1 α1 g1 A1 (Acd (fun _ _ _ _ _=>trivial) ea)⟩
 ·cases e
end
theorem R1{β γ:Type}{f g:β->Option γ}:∀ {l:List β},(∀ x∈l,f x=g x)->l.filterMap f=l.filterMap g
 | [],_=>rfl
 | a::l,h=>by rw[hV,hV,h a (aQ ..),R1 fun x hx=>h x (aK _ hx)]
theorem R0{β:Type}:∀ r:List β,((bB r.length).map fun (k:Nat)=>(((r.length:Int) - 1 + -1 * (k:Int)).toNat)).filterMap (r.reverse[·]?)=r
 | []=>rfl
 | a::r=>by
  have ih:=R0 r;rw[aO,List.range_succ_eq_map,aS,hV];have h0:(a::r).reverse[(((r.length+1:Nat):Int) - 1 + -1 * ((0:Nat):Int)).toNat]? = ξ a:=by
   have:(((r.length+1:Nat):Int) - 1 + -1 * ((0:Nat):Int)).toNat=r.reverse.length:=by rw[cG];omega
   rw[this,eJ,bX (aP _)];simp
  rw[h0];simp only
  congr 1
  rw[bW,kJ];rw[kJ] at ih;refine Eq.trans (R1 fun k hk=>?_) ih;have hk:=bE.mp hk;simp only[wX];have:(((r.length+1:Nat):Int) - 1 + -1 * ((k.succ:Nat):Int)).toNat=((r.length:Int) - 1 + -1 * (k:Int)).toNat:=by simp only[Nat.succ_eq_add_one];omega
  rw[this,eJ,bC (by rw[cG];omega)]
theorem Ra(its:List aH):slicePick its.toArray ψ ψ (ξ (-1))=its.reverse.toArray:=by
 unfold slicePick;have e:sliceBounds ψ ψ (ξ (-1)) its.toArray.size=((its.length:Int) - 1,-1,-1):=by simp[sliceBounds]
 rw[e];have e2:sliceRange ZbU (-1) (-1)=(bB its.length).map fun (k:Nat)=>(((its.length:Int) - 1 + -1 * (k:Int)).toNat):=by
  unfold sliceRange;have:(if (-1:Int) > 0 then (if ZbU < -1 then (-1 - ((its.length:Int) - 1) + -1 - 1) / -1 else 0) else (if ZbU > -1 then (((its.length:Int) - 1) - -1 - -1 - 1) / (- -1) else 0)).toNat=its.length:=by
   rw[if_neg Zb];split
   ·have:(its.length:Int) - 1 - -1 - -1 - 1=its.length:=Ze
    rw[this];simp
   ·simp;omega
  simp only[this]
 simp only;rw[e2];have:=R0 its.reverse;rw[cG,mB] at this;have h2:(List.filterMap (fun x=>its.toArray[x]?) (wI (fun (k:Nat)=>(((its.length:Int) - 1 + -1 * (k:Int)).toNat)) (bB its.length)))=its.reverse:=by
  rw[<- this];simp
 rw[h2]
theorem Vals.rev{us:List aH}(h:Vals xs us):Vals xs.reverse us.reverse:=by
 induction h with
 | nil=>exact .nil
 | cons h1 _ ih=>rw[eJ,eJ];exact ih.append (.cons h1 .nil)
theorem RepL.rev:∀ {us:List U} {xs:List V},RepL K H α us xs->RepL K H α us.reverse xs.reverse
 | [],xs,r=>by unfold RepL at r;subst r;exact .nil
 | u::us,xs,r=>by
  unfold RepL at r;obtain ⟨x,xr,rfl,r1,r2⟩:=r;rw[eJ,eJ];exact (RepL.rev r2).append (.cons r1 .nil)
end MR
namespace HT
open PySem PySem.Spec PyProof.Rows
section
variable {prog:cO}{w:dH}{A:eE}{E:aH->aR->Prop}{s:aR}
theorem Ow{sl:Addr}{vs:aH}{n:Nat}{Q:Int×Int×Nat->aR->Prop}(hs:s.heap.IsSliceOf sl .none .none vs)(pu:pW vs (ξ (-1)))
  (h:Q ((n:Int) - 1,-1,n) s):wpAny Zw A (iH (.ref sl) (pure (n:Int))) Q E s:=by
 obtain ⟨os,hos,hcs,hds⟩:=id hs;unfold iH nT;refine aD (aD (eB hos hds (x:=.none) rfl (aD (eB hos hds (x:=.none) rfl (aD (eB hos hds (x:=vs) rfl (aW ?_)))))));refine aD (Hj pu ?_);show wpAny _ _ (if ((-1:Int) == 0)=true then _ else _) _ _ s;rw[if_neg Zb];refine aD (Hj .none (aD (Hj .none (aD (aW ?_)))));show wpAny _ _ (match fW ψ ψ (-1) (n:Int) with | (lo,hi)=>pure (lo,(-1:Int),dU lo hi (-1))) _ _ s;have e1:fW ψ ψ (-1) (n:Int)=((n:Int) - 1,-1):=rfl;rw[e1];show wpAny _ _ (pure ((n:Int) - 1,(-1:Int),dU ((n:Int) - 1) (-1) (-1))) _ _ s;have e2:dU ((n:Int) - 1) (-1) (-1)=n:=by
  unfold dU;rw[if_neg Zb];split
  ·simp
  ·simp;omega
 rw[e2];exact aW h
theorem Aei(xs:List aH):((bB xs.length).filterMap fun (m:Nat)=>xs.toArray[((xs.length:Int) - 1+(m:Int) * -1).toNat]?).toArray=xs.reverse.toArray:=by
 have:=MR.R0 xs.reverse;rw[cG,mB,kJ] at this;rw[<- this]
 congr 1
 refine MR.R1 fun k _=>?_
 simp only[wX];have:((xs.length:Int) - 1+(k:Int) * -1)=((xs.length:Int) - 1 + -1 * (k:Int)):=Ze
 rw[this];simp
theorem Nq{t sl:Addr}{its:List aH}{vs:aH}{Q:aH->aR->Prop}(ht:nZ s.heap t its.toArray)(hs:s.heap.IsSliceOf sl .none .none vs)(pu:pW vs (ξ (-1)))
  (h:Q ZM { s with heap:=s.heap.push { cls:=.type "tuple",data:=.seq its.reverse.toArray } })
  (hsz:its.length<=sizeLine):wpAny Zw A (getItem (.ref t) (.ref sl)) Q E s:=by
 have htake:sizeOk (.seq its.reverse.toArray):=by
  show its.reverse.toArray.size<=sizeLine;rw[aU,cG];exact hsz
 obtain ⟨os,hos,hcs,hds⟩:=id hs;have hTs:s.TypeIs (.ref sl) "slice" := ⟨os,hos,hcs⟩;unfold getItem
 try with_reducible refine dQ ?_
 first | refine aD (aW ?_) | skip
 refine aD (sY ht.typeIs Zb ?_);refine aD (eX (name:=cT "__getitem__") ht.typeIs eA
  (fF eA ht.typeIs rO ?_ (sM _ _)))
 show wpAny _ _ (nH (.ref t) >>= _) _ _ s;refine aD (tupleItemsOf_ ht ?_);refine aD (pX hTs ?_);rw[if_pos Zb];refine aD (Ow hs pu ?_);show wpAny _ _ (if ((((its.toArray.size:Nat):Int) - 1) == 0&&(-1:Int) == 1&&its.toArray.size == its.toArray.size)=true then _ else _) _ _ s;have hno:¬ (((((its.toArray.size:Nat):Int) - 1) == 0&&(-1:Int) == 1&&its.toArray.size == its.toArray.size)=true):=Za
 rw[if_neg hno];have e:((bB its.toArray.size).filterMap fun (m:Nat)=>its.toArray[((its.toArray.size:Int) - 1+(m:Int) * -1).toNat]?).toArray=its.reverse.toArray:=by
  have:=Aei its;simpa using this
 first
  | (rw[e]
     first
      | exact aD (m:=dB _) (dE (aW ⟨_,rfl,aW h⟩) htake)
      | exact aD (m:=dB _) (dE (aD (aW (aW ⟨_,rfl,aW h⟩))) htake)
      | exact aD (aD (m:=dB _) (dE (aW (aW ⟨_,rfl,aW h⟩)) htake))
      | exact aD (aD (m:=dB _) (dE (aW ⟨_,rfl,aW h⟩) htake)))
end
end HT
namespace MR
open PySem PySem.Spec PyProof.Rows L2
section
variable {X:Cx}{e st:Expr}{fa fs:FE}{p2 pos:Pos}
def Vu(f:FE):FE:=fun δ L=>(f δ L).bind fun p=>match p.1 with | .ref n=>(Ap p.2 n).map fun l=>(.ref p.2.length,p.2++[.lst l.reverse]) | .tup l=>ξ (.tup l.reverse,p.2) | _=>ψ
theorem Ah5(he:PEF X e fa){q1 q2:Pos}{k:Nat}:PEF X (.Subscript e (.Slice ψ ψ (ξ (.UnaryOp .USub (.Constant (.int 1) k q1) q2)) p2) pos) (Vu fa):=by
 rintro pins s σ H Q I ⟨α,δ,L,A,S,z,L3,ee,q⟩;obtain ⟨⟨u,L1⟩,e1,ee⟩:=aB.mp ee;refine sN (thn (he pins s σ H (fun x H1=>∃ α1,Gr H α H1 α1/\Abs X.K H1 α1 L1/\RepU X.K H1 α1 u x) I ⟨α,δ,L,A,S,u,L1,e1,fun x H1 α1 g1 A1 r1=>⟨α1,g1,A1,r1⟩⟩) fun v s1 ⟨x,H1,I1,r1,α1,g1,A1,ru⟩=>?_);cases u with
 | ref n=>
  obtain ⟨l,hl,ee⟩:=aJ.mp ee;cases ee;obtain ⟨a,xs,ea,sq,r⟩:=Fm A1 hl;obtain ⟨a',ea',rfl⟩:=ru.ref_of A1;rw[ea] at ea';cases ea';cases r1;have ps:POF X Zbh (Gs (Ip Zh)):=Fi (H9 Ah);refine vE ?_;rw[oO];refine aW (aW ?_);refine thn (ps pins s1 σ H1 (fun o H'=>o=ξ (-1)/\∃ α2,Gr H1 α1 H' α2/\Abs X.K H' α2 L1) I1 ⟨α1,δ,L1,A1,S.mono g1,ξ (-1),L1,rfl,fun H2 α2 g2 A2=>⟨rfl,α2,g2,A2⟩⟩) fun vs s3 ⟨o,H3,I3,pu,ho,α3,g3,A3⟩=>?_
  subst ho;have I4:L2.Inv X pins σ H3 { s3 with heap:=s3.heap.push { cls:=.type "slice",data:=.fields #[.none,.none,vs] } }:=I3.kept (t':=s3.toks) fun b ob q=>aG _ q
  obtain ⟨a3,xs3,ea3,sq3,r3⟩:=Fm A3 hl;have:a3=a:=by
   obtain ⟨ys,hy⟩:=g3.1;rw[hy,bC (aI.mp ea).1,ea] at ea3;exact (bQ ea3).symm
  subst this;obtain ⟨its,rv,ht,hz⟩:=I4.list sq3;have hlen:=rv.length;show wpAny Zg X.A (subscriptTail e (.Slice ψ ψ _ p2) (.ref _) ZdR) Z2 X.xe { s3 with heap:=s3.heap.push { cls:=.type "slice",data:=.fields #[.none,.none,vs] } };refine wC (ops:=[.ref _,.ref s3.heap.objs.size]) ht.isList.typeIs oE.lookup ?_ (by with_unfolding_all rfl);refine oP ht.isList (nI ..) .none .none pu Za ?_ (by rw[aU] <;> omega);rw[Ra];obtain ⟨g4,A4,r4⟩:=A3.lst r3.rev (I4.hok.fresh (aP _));refine ⟨.ref _,_,I4.laid (t':=s3.toks) (o:=.lst xs3.reverse) Zcc (aP _) ?_,rfl,q _ _ _ (g1.trans (g3.trans g4)) A4 r4⟩;exact ⟨by rw[cG];exact hz,_,0,Vals.rev rv,aZ _ rfl⟩
 | tup l=>
  cases ee;unfold RepU at ru;obtain ⟨a,xs,rfl,sq,r⟩:=ru;cases r1;have ps:POF X Zbh (Gs (Ip Zh)):=Fi (H9 Ah);refine vE ?_;rw[oO];refine aW (aW ?_);refine thn (ps pins s1 σ H1 (fun o H'=>o=ξ (-1)/\∃ α2,Gr H1 α1 H' α2/\Abs X.K H' α2 L1) I1 ⟨α1,δ,L1,A1,S.mono g1,ξ (-1),L1,rfl,fun H2 α2 g2 A2=>⟨rfl,α2,g2,A2⟩⟩) fun vs s3 ⟨o,H3,I3,pu,ho,α3,g3,A3⟩=>?_
  subst ho;have I4:L2.Inv X pins σ H3 { s3 with heap:=s3.heap.push { cls:=.type "slice",data:=.fields #[.none,.none,vs] } }:=I3.kept (t':=s3.toks) fun b ob q=>aG _ q
  have rr:RepU X.K H3 α3 (.tup l) (.ref a):=(show RepU X.K H1 α1 (.tup l) (.ref a) by unfold RepU;exact ⟨a,xs,rfl,sq,r⟩).mono g3
  unfold RepU at rr;obtain ⟨a3,xs3,ha3,sq3,r3⟩:=rr;cases ha3;obtain ⟨its,rv,ht,hz⟩:=I4.tuple sq3;have hlen:=rv.length;show wpAny Zg X.A (subscriptTail e (.Slice ψ ψ _ p2) (.ref _) ZdR) Z2 X.xe { s3 with heap:=s3.heap.push { cls:=.type "slice",data:=.fields #[.none,.none,vs] } };refine wC (ops:=[.ref _,.ref s3.heap.objs.size]) ht.typeIs eA.lookup ?_ (by with_unfolding_all rfl);refine HT.Nq ht (nI ..) pu ?_ Ze;obtain ⟨g4,A4,r4⟩:=A3.tup r3.rev (I4.hok.fresh (aP _));refine ⟨.ref _,_,I4.laid (t':=s3.toks) (o:=.tup xs3.reverse) Zcc (aP _) ?_,rfl,q _ _ _ (g1.trans (g3.trans g4)) A4 r4⟩;exact ⟨by rw[cG];exact hz,_,Vals.rev rv,TupN.new _ _⟩
 | _=>cases ee
end
structure ClsF(K:aL)(C:Str)(Ca:Addr):Prop where
 ns:kT K dD C=ξ (ξ (.ref Ca))
 cl:Cls K Ca
theorem ClsF.eq{K:aL}{C:Str}{Ca Cb:Addr}(T:ClsF K C Ca)(h:kT K dD C=ξ (ξ (.ref Cb))):Cb=Ca:=by
 have:=T.ns.symm.trans h;simpa using this.symm
section
variable {X:Cx}{o e value:Expr}{es:List Expr}{f m C x:Str}{p pos pos' apos:Pos}{Ca fa:Addr}{fd:eT}{ps:List Str}{k n:Nat}{F:FN}{fe fo fv:FE}{g:FA}
end
end MR
namespace ZT
open PySem PySem.Spec PyProof.Rows
open Sem (wp)
def SqK(b:Bool)(h:Heap)(l:Addr)(xs:Array aH):Prop:=match b with
 | true=>h.IsList l xs
 | false=>h.IsTuple l xs
def ItK(b:Bool)(h:Heap)(jt l:Addr)(k:Nat):Prop:=match b with
 | true=>h.IsListIter jt l k
 | false=>h.IsTupleIter jt l k
variable {b:Bool}{h h':Heap}{l:Addr}{xs:Array aH}
theorem SqK.keep(x:SqK b h l xs)(e:∀ o,h.get? l=ξ o->h'.get? l=ξ o):SqK b h' l xs:=by
 cases b with
 | true=>obtain ⟨o,ho,r⟩:=x;exact ⟨o,e _ ho,r⟩
 | false=>obtain ⟨o,ho,r⟩:=x;exact ⟨o,e _ ho,r⟩
variable {jt:Addr}{k:Nat}
theorem ItK.keep(x:ItK b h jt l k)(e:∀ o,h.get? jt=ξ o->h'.get? jt=ξ o):ItK b h' jt l k:=by
 cases b with
 | true=>obtain ⟨o,ho,r⟩:=x;exact ⟨o,e _ ho,r⟩
 | false=>obtain ⟨o,ho,r⟩:=x;exact ⟨o,e _ ho,r⟩
theorem ItK.lt(x:ItK b h jt l k):jt < h.objs.size:=by
 cases b with
 | true=>obtain ⟨o,ho,r⟩:=x;exact bD ho
 | false=>obtain ⟨o,ho,r⟩:=x;exact bD ho
theorem ItK.obj(x:ItK b h jt l k):∃ o,h.get? jt=ξ o/\o.data = .fields #[.ref l,.int k 0]:=by
 cases b with
 | true=>obtain ⟨o,ho,_,r⟩:=x;exact ⟨o,ho,r⟩
 | false=>obtain ⟨o,ho,_,r⟩:=x;exact ⟨o,ho,r⟩
variable {its:Array aH}{Q:aH->aR->Prop}
section
variable {prog:cO}{w:dH}{A:eE}{E:aH->aR->Prop}{s:aR}
theorem Ym{t:Addr}{v:aH}(hj:s.heap.IsTupleIter jt t k)(ht:s.heap.IsTuple t its)(hv:its[k]? = ξ v)
  (hQ:∀ h',h'.IsTupleIter jt t (k+1)->mV jt s.heap h'->Q v { s with heap:=h' }):wpAny Zw A (cV (.ref jt)) Q E s:=by
 obtain ⟨ob,hob,hcl,hda⟩:=id hj;obtain ⟨ot,hot,_,nt,hdt⟩:=ht;unfold cV;refine aD (eX (name:=cT "__next__") hj.typeIs iI (fF iI hj.typeIs mX ?_ (mO _)));show wpAny _ _ (field (.ref jt) 0 >>= _) _ _ s;refine aD (eB hob hda (x:=.ref t) rfl ?_);show wpAny _ _ (if (gU t == eD)=true then _ else _) _ _ s;rw[if_neg (show ¬ ((gU t == eD)=true) from (fun z=>cQ z))];show wpAny _ _ (field (.ref jt) 1 >>= _) _ _ s;refine aD (eB hob hda (x:=.int k 0) rfl ?_);show wpAny _ _ (seqItems? (.ref t) >>= fun z=>_) _ _ s;refine aD (fK hot hdt ?_);simp only[cK,hv];refine aD (wpAny_setField hob hda Za (aW ⟨v,rfl,aW (hQ _ ?_ (cL ..))⟩));exact ⟨_,lJ _ hob (Obj.isFreed_of_fields (sQ hda _)),(Obj.cls_mapFields ..).trans hcl,by rw[sQ hda];simp[rawInt]⟩
theorem Ts{t:Addr}(hh:A.handled=ψ)(hj:s.heap.IsTupleIter jt t k)(ht:s.heap.IsTuple t its)(hv:its[k]? = ψ)
  (hE:∀ h' e,oF jt s.heap h'->(∃ ob,h'.get? e=ξ ob/\ob.cls = .type "StopIteration")->E (.ref e) { s with heap:=h' }):wpAny Zw A (cV (.ref jt)) Q E s:=by
 obtain ⟨ob,hob,hcl,hda⟩:=id hj;obtain ⟨ot,hot,_,nt,hdt⟩:=ht;unfold cV;refine aD (eX (name:=cT "__next__") hj.typeIs iI (fF iI hj.typeIs mX ?_ (mO _)));show wpAny _ _ (field (.ref jt) 0 >>= _) _ _ s;refine aD (eB hob hda (x:=.ref t) rfl ?_);show wpAny _ _ (if (gU t == eD)=true then _ else _) _ _ s;rw[if_neg (show ¬ ((gU t == eD)=true) from (fun z=>cQ z))];show wpAny _ _ (field (.ref jt) 1 >>= _) _ _ s;refine aD (eB hob hda (x:=.int k 0) rfl ?_);show wpAny _ _ (seqItems? (.ref t) >>= fun z=>_) _ _ s;refine aD (fK hot hdt ?_);simp only[cK,hv];refine aD (nL (aD (wpAny_setField hob hda Za ?_)));show wpAny _ _ (newExc (.type "StopIteration") [] >>= fun z=>_) _ _ _;refine aD ?_;simp only[newExc,newTuple];refine aD (dE ?_ (by size_fits));refine aD (m:=firstArgMember _ _) (vG (a:=eD) (by first | rfl | (simp only[firstArgMember];rfl)) (dE ?_ (by size_fits)));simp only[raiseNew];refine aD (wpAny_handled ?_)
 first | rw[show A.in1.handled=ψ from hh] | (rw[hh])
 exact aD (aW (wpAny_throw (hE _ _ (((cL ..).extBut.push _).push _) ⟨_,aZ _ rfl,rfl⟩)))
theorem Aap{v:aH}(hj:ItK b s.heap jt l k)(hl:SqK b s.heap l its)(hv:its[k]? = ξ v)
  (hQ:∀ h',ItK b h' jt l (k+1)->mV jt s.heap h'->Q v { s with heap:=h' }):wpAny Zw A (cV (.ref jt)) Q E s:=by
 cases b with
 | true=>exact wpAny_nextOf_list_item hj hl hv hQ
 | false=>exact Ym hj hl hv hQ
theorem Af5(hh:A.handled=ψ)(hj:ItK b s.heap jt l k)(hl:SqK b s.heap l its)(hv:its[k]? = ψ)
  (hE:∀ h' e,oF jt s.heap h'->(∃ ob,h'.get? e=ξ ob/\ob.cls = .type "StopIteration")->E (.ref e) { s with heap:=h' }):wpAny Zw A (cV (.ref jt)) Q E s:=by
 cases b with
 | true=>exact wpAny_nextOf_list_end hh hj hl hv hE
 | false=>exact Ts hh hj hl hv hE
theorem SqK.but{c:Addr}(x:SqK b h l xs)(e:oF c h h')(hne:l≠c):SqK b h' l xs:=x.keep fun o q=>e l o hne q
theorem ItK.but{c:Addr}(x:ItK b h jt l k)(e:oF c h h')(hne:jt≠c):ItK b h' jt l k:=x.keep fun o q=>e jt o hne q
variable {b1 b2:Bool}{z TI TO j1 j2 l1 l2:Addr}{k1 k2:Nat}{ys:Array aH}{a b:aH}
theorem Aj4{x y:aH}(D:rG z TI TO j1 j2 l1 l2)(hz:nM s.heap z TI TO .none)(hI:iM s.heap TI (.ref j1) (.ref j2))(hO:iM s.heap TO a b)
  (h1:ItK b1 s.heap j1 l1 k1) (h2:ItK b2 s.heap j2 l2 k2) (g1:SqK b1 s.heap l1 xs) (g2:SqK b2 s.heap l2 ys) (hx:xs[k1]? = ξ x) (hy:ys[k2]? = ξ y)
  (hQ:∀ h',nM h' z TI TO (rawInt s.heap.objs.size)->iM h' TO x y->ItK b1 h' j1 l1 (k1+1)->ItK b2 h' j2 l2 (k2+1)->iM h' s.heap.objs.size x y->h'.objs.size=s.heap.objs.size+1 ->
   Z0->Q ZM { s with heap:=h' }) :
  wpAny Zw A (jM.«zip.__next__» ⟨[.ref z],[]⟩) (fun fin s'=>∃ v,fin = .done (.ret v)/\Q v s') E s:=by
 show wpAny _ _ (field (.ref z) 2 >>= fun q=>_) _ _ _;refine aD (eB hz rfl (x:=.bool false) rfl ?_);show wpAny _ _ (field (.ref z) 3 >>= _) _ _ _;refine aD (eB hz rfl (x:=.ref TI) rfl (aD (fK hI rfl ?_)));show wpAny _ _ (fL (.ref z) >>= fun q=>_) _ _ _;refine aD ?_;unfold fL;refine aD (eB hz rfl (x:=.none) rfl (aW ?_));simp only[if_true];refine aD (nL (aD (eB hz rfl (x:=.ref TO) rfl (aD (iJ hz Za fun p1 z1 s1=>?_)))));replace z1:nM p1 z TI TO .ellipsis:=z1;refine aD ?_;simp only[tR,vN,mM,wJ];refine aD (aD (oR ?_));show wpAny _ _ (cV (.ref j1) >>= _) _ _ _;refine aD (Aap ZdT ZdU hx fun p2 i2 s2=>aW ?_);have O2:iM p2 TO a b:=s2.extBut _ _ D.TOi1 (s1.extBut _ _ D.TOz hO);refine aD (fK O2 rfl (aD (mC O2 fun p3 O3 s3=>?_)));replace O3:iM p3 TO x b:=O3;refine aD (jB (aW ?_));refine aD (aD (oR ?_));show wpAny _ _ (cV (.ref j2) >>= fun q=>_) _ _ _;refine aD (Aap (((h2.but s1.extBut D.i2z).but s2.extBut D.i12.symm).but s3.extBut D.TOi2.symm) (((g2.but s1.extBut D.l2z).but s2.extBut D.l2i1).but s3.extBut D.l2TO) hy fun p4 i4 s4=>aW ?_);have O4:iM p4 TO x b:=s4.extBut _ _ D.TOi2 O3;refine aD (fK O4 rfl (aD (mC O4 fun p5 O5 s5=>?_)));replace O5:iM p5 TO x y:=O5;refine aD (jB (aW (aW ?_)));refine aD (fK O5 rfl (aD (nN ?_)));have hsz:p5.objs.size=s.heap.objs.size:=by rw[s5.1,s4.1,s3.1,s2.1,s1.1]
 have z5:nM p5 z TI TO .ellipsis:=s5.extBut _ _ D.TOz.symm (s4.extBut _ _ D.i2z.symm (s3.extBut _ _ D.TOz.symm (s2.extBut _ _ D.i1z.symm z1)));have k5:∀ c o,c≠z->c≠TO->c≠j1->c≠j2->s.heap.get? c=ξ o->p5.get? c=ξ o:=fun c o c1 c2 c3 c4 e=>s5.extBut _ _ c2 (s4.extBut _ _ c4 (s3.extBut _ _ c2 (s2.extBut _ _ c3 (s1.extBut _ _ c1 e))))
 have i15:ItK b1 p5 j1 l1 (k1+1):=((i2.but s3.extBut D.TOi1.symm).but s4.extBut D.i12).but s5.extBut D.TOi1.symm;have i25:ItK b2 p5 j2 l2 (k2+1):=i4.but s5.extBut D.TOi2.symm;have zlt:z < p5.objs.size:=bD z5;show wpAny _ _ (jU (.ref z) (.ref p5.objs.size) >>= fun q=>_) _ _ _;refine aD ?_;unfold jU;have z6:nM (p5.push { cls:=.type "tuple",data:=.seq #[x,y] }) z TI TO .ellipsis:=aG _ z5;refine aD (iJ z6 Za fun p7 z7 s7=>?_);replace z7:nM p7 z TI TO (rawInt p5.objs.size):=z7;refine iJ z7 Za fun p8 z8 s8=>?_
 replace z8:nM p8 z TI TO (rawInt p5.objs.size):=z8;have up:∀ c o,c≠z->p5.get? c=ξ o->p8.get? c=ξ o:=fun c o c1 e=>s8.extBut _ _ c1 (s7.extBut _ _ c1 (aG _ e))
 have t8:iM p8 p5.objs.size x y:=s8.extBut _ _ (jC zlt) (s7.extBut _ _ (jC zlt) (aZ _ rfl));have e8:p8.objs.size=p5.objs.size+1:=by rw[s8.1,s7.1,eF]
 rw[hsz] at z8 t8 e8;refine aW ⟨_,rfl,?_⟩;show Q (.ref p5.objs.size) _;rw[hsz];exact hQ p8 z8 (up _ _ D.TOz O5) (i15.keep fun o e=>up _ o D.i1z e) (i25.keep fun o e=>up _ o D.i2z e) t8 e8 fun c o c1 c2 c3 c4 e=>up c o c1 (k5 c o c1 c2 c3 c4 e)
theorem Apr{Q:Fin->aR->Prop}(hh:A.handled=ψ)(D:rG z TI TO j1 j2 l1 l2)(hz:nM s.heap z TI TO .none)(hI:iM s.heap TI (.ref j1) (.ref j2))(hO:iM s.heap TO a b)
  (h1:ItK b1 s.heap j1 l1 k1) (h2:ItK b2 s.heap j2 l2 k2) (g1:SqK b1 s.heap l1 xs) (g2:SqK b2 s.heap l2 ys) (hend:xs[k1]? = ψ\/ys[k2]? = ψ)
  (hE:∀ h' e,Z0->(∃ ob,h'.get? e=ξ ob/\ob.cls = .type "StopIteration")->E (.ref e) { s with heap:=h' }) :
  wpAny Zw A (jM.«zip.__next__» ⟨[.ref z],[]⟩) Q E s:=by
 show wpAny _ _ (field (.ref z) 2 >>= fun q=>_) _ _ _;refine aD (eB hz rfl (x:=.bool false) rfl ?_);show wpAny _ _ (field (.ref z) 3 >>= _) _ _ _;refine aD (eB hz rfl (x:=.ref TI) rfl (aD (fK hI rfl ?_)));show wpAny _ _ (fL (.ref z) >>= fun q=>_) _ _ _;refine aD ?_;unfold fL;refine aD (eB hz rfl (x:=.none) rfl (aW ?_));simp only[if_true];refine aD (nL (aD (eB hz rfl (x:=.ref TO) rfl (aD (iJ hz Za fun p1 z1 s1=>?_)))));replace z1:nM p1 z TI TO .ellipsis:=z1;refine aD ?_;simp only[tR,vN,mM,wJ];refine aD (aD (oR ?_));show wpAny _ _ (cV (.ref j1) >>= _) _ _ _;cases hx:xs[k1]? with
 | none=>
  refine aD (Af5 hh ZdT ZdU hx fun p2 e s2 he=>?_);obtain ⟨oe,hoe,hce⟩:=he;have z2:nM p2 z TI TO .ellipsis:=s2 _ _ D.i1z.symm z1;have hez:e≠z:=fun q=>by subst q;rw[z2] at hoe;cases hoe;simp at hce
  refine iJ z2 Za fun p3 _ s3=>hE p3 e (fun c o c1 _ c3 _ q=>s3.extBut _ _ c1 (s2 _ _ c3 (s1.extBut _ _ c1 q))) ⟨oe,s3.extBut _ _ hez hoe,hce⟩
 | some x=>
  have hy:ys[k2]? = ψ:=by rcases hend with h | h;(rw[hx] at h;cases h);exact h
  refine aD (Aap ZdT ZdU hx fun p2 i2 s2=>aW ?_);have O2:iM p2 TO a b:=s2.extBut _ _ D.TOi1 (s1.extBut _ _ D.TOz hO);refine aD (fK O2 rfl (aD (mC O2 fun p3 O3 s3=>?_)));refine aD (jB (aW ?_));refine aD (aD (oR ?_));show wpAny _ _ (cV (.ref j2) >>= fun q=>_) _ _ _;refine aD (Af5 hh (((h2.but s1.extBut D.i2z).but s2.extBut D.i12.symm).but s3.extBut D.TOi2.symm) (((g2.but s1.extBut D.l2z).but s2.extBut D.l2i1).but s3.extBut D.l2TO) hy fun p4 e s4 he=>?_);obtain ⟨oe,hoe,hce⟩:=he;have z4:nM p4 z TI TO .ellipsis:=s4 _ _ D.i2z.symm (s3.extBut _ _ D.TOz.symm (s2.extBut _ _ D.i1z.symm z1));have hez:e≠z:=fun q=>by subst q;rw[z4] at hoe;cases hoe;simp at hce
  refine iJ z4 Za fun p5 _ s5=>hE p5 e (fun c o c1 c2 c3 c4 q=>s5.extBut _ _ c1 (s4 _ _ c4 (s3.extBut _ _ c2 (s2.extBut _ _ c3 (s1.extBut _ _ c1 q))))) ⟨oe,s5.extBut _ _ hez hoe,hce⟩
theorem Akp{x y:aH}{Q:Option aH->aR->Prop}(D:rG z TI TO j1 j2 l1 l2)(hz:nM s.heap z TI TO .none)(hI:iM s.heap TI (.ref j1) (.ref j2))(hO:iM s.heap TO a b)
  (h1:ItK b1 s.heap j1 l1 k1) (h2:ItK b2 s.heap j2 l2 k2) (g1:SqK b1 s.heap l1 xs) (g2:SqK b2 s.heap l2 ys) (hx:xs[k1]? = ξ x) (hy:ys[k2]? = ξ y)
  (hQ:∀ h',nM h' z TI TO (rawInt s.heap.objs.size)->iM h' TO x y->ItK b1 h' j1 l1 (k1+1)->ItK b2 h' j2 l2 (k2+1)->iM h' s.heap.objs.size x y->h'.objs.size=s.heap.objs.size+1 ->
   Z0->Q (ξ ZM) { s with heap:=h' }) :
  wpAny Zw A (pyNext (.ref z)) Q E s:=by
 have ty:s.TypeIs (.ref z) "zip" := ⟨_,hz,rfl⟩;unfold pyNext;exact aD (lX (eX (name:=cT "__next__") ty mP (fF mP ty tS (Aj4 D hz hI hO h1 h2 g1 g2 hx hy fun h' q1 q2 q3 q4 q5 q6 q7=>aW (hQ h' q1 q2 q3 q4 q5 q6 q7)) (tE _))))
theorem Apb{Q:Option aH->aR->Prop}(hh:A.handled=ψ)(D:rG z TI TO j1 j2 l1 l2)(hz:nM s.heap z TI TO .none)(hI:iM s.heap TI (.ref j1) (.ref j2))(hO:iM s.heap TO a b)
  (h1:ItK b1 s.heap j1 l1 k1) (h2:ItK b2 s.heap j2 l2 k2) (g1:SqK b1 s.heap l1 xs) (g2:SqK b2 s.heap l2 ys) (hend:xs[k1]? = ψ\/ys[k2]? = ψ)
  (hQ:∀ h',Z0->Q ψ { s with heap:=h' }):wpAny Zw A (pyNext (.ref z)) Q E s:=by
 have ty:s.TypeIs (.ref z) "zip" := ⟨_,hz,rfl⟩;unfold pyNext;refine aD (lX (eX (name:=cT "__next__") ty mP (fF mP ty tS (Apr hh D hz hI hO h1 h2 g1 g2 hend fun h' e hk he=>?_) (tE _))));obtain ⟨ob,hob,hcl⟩:=he;exact aD (pD (T := "StopIteration") (b:=true) ⟨ob,hob,hcl⟩ isSubtype_stop (aW (hQ _ hk)))
end
noncomputable abbrev zh1(c1:String)(h:Heap)(l1:Addr):Heap:=h.push { cls:=.type c1,data:=.fields #[.ref l1,.int 0 0] }
abbrev zh2(c1 c2:String)(h:Heap)(l1 l2:Addr):Heap:=(zh1 c1 h l1).push { cls:=.type c2,data:=.fields #[.ref l2,.int 0 0] }
abbrev zh3(c1 c2:String)(h:Heap)(l1 l2:Addr):Heap:=(zh2 c1 c2 h l1 l2).push { cls:=.type "tuple",data:=.seq #[.ref h.objs.size,.ref (zh1 c1 h l1).objs.size] }
abbrev zh4(c1 c2:String)(h:Heap)(l1 l2:Addr):Heap:=(zh3 c1 c2 h l1 l2).push { cls:=.type "tuple",data:=.seq #[.none,.none] }
abbrev zh5(c1 c2:String)(h:Heap)(l1 l2:Addr):Heap:=(zh4 c1 c2 h l1 l2).push { cls:=.type "zip",data:=.fields #[.none,.bool false,.bool false,.ref (zh2 c1 c2 h l1 l2).objs.size,.ref (zh3 c1 c2 h l1 l2).objs.size] }
theorem Apf (l1 l2 : Addr) (xs ys : Array aH) : Meets (jM.«zip.__new__» ⟨[.type "zip", .ref l1, .ref l2], []⟩) (fun _ R s => s.heap.IsTuple l1 xs /\ s.heap.IsTuple l2 ys /\
   R (.ok (.ret (.ref (zh4 "tuple_iterator" "tuple_iterator" s.heap l1 l2).objs.size))) { s with heap:=zh5 "tuple_iterator" "tuple_iterator" s.heap l1 l2 }):=
 .of_wp fun prog w A R s h=>by
  obtain ⟨hp,g,d,tk,os⟩:=s;obtain ⟨t1,t2,h⟩:=h;have hsub:=sub_zip;have T1:tF (vH ⟨hp,g,d,tk,os⟩) l1 xs:=t1;have T2:tF (vH ⟨hp.push { cls:=.type "tuple_iterator",data:=.fields #[.ref l1,.int 0 0] },g,d,tk,os⟩) l2 ys:=tF.push t2 _
  wp_walk using gF T1,gF T2
  exact ⟨_,rfl,h⟩
section
variable {prog:cO}{w:dH}{A:eE}{E:aH->aR->Prop}{s:aR}
theorem Aje{l1 l2:Addr}{ys:Array aH}(t1:s.heap.IsTuple l1 xs)(t2:s.heap.IsTuple l2 ys)
  (h:∀ h',nM h' (s.heap.objs.size+4) (s.heap.objs.size+2) (s.heap.objs.size+3) .none->iM h' (s.heap.objs.size+2) ZM (.ref ZI) ->
   iM h' (s.heap.objs.size+3) .none .none->ItK false h' s.heap.objs.size l1 0->ItK false h' ZI l2 0->(∀ c o,s.heap.get? c=ξ o->h'.get? c=ξ o)->Q (.ref (s.heap.objs.size+4)) { s with heap:=h' }) :
  wpAny Zw A (call (.type "zip") [.ref l1,.ref l2]) Q E s:=by
 refine callType_new F.called_zip Zb (F.typeCall_zip_2 _ _) (F.newCall_zip_2 _ _) (fun obj=>F.args_object_init_3 obj _ _) F.entry_zip_new (Apf l1 l2 xs ys) ⟨t1,t2,?_⟩;have z1:(zh1 "tuple_iterator" s.heap l1).objs.size=s.heap.objs.size+1:=eF ..;have z2:(zh2 "tuple_iterator" "tuple_iterator" s.heap l1 l2).objs.size=s.heap.objs.size+2:=by rw[eF,z1]
 have z3:(zh3 "tuple_iterator" "tuple_iterator" s.heap l1 l2).objs.size=s.heap.objs.size+3:=by rw[eF,z2]
 have z4:(zh4 "tuple_iterator" "tuple_iterator" s.heap l1 l2).objs.size=s.heap.objs.size+4:=by rw[eF,z3]
 have q5:(zh5 "tuple_iterator" "tuple_iterator" s.heap l1 l2).get? (zh4 "tuple_iterator" "tuple_iterator" s.heap l1 l2).objs.size=ξ _:=aZ _ rfl;have q4:(zh5 "tuple_iterator" "tuple_iterator" s.heap l1 l2).get? (zh3 "tuple_iterator" "tuple_iterator" s.heap l1 l2).objs.size=ξ _:=aG _ (aZ _ rfl);have q3:(zh5 "tuple_iterator" "tuple_iterator" s.heap l1 l2).get? (zh2 "tuple_iterator" "tuple_iterator" s.heap l1 l2).objs.size=ξ _:=aG _ (aG _ (aZ _ rfl));have q2:(zh5 "tuple_iterator" "tuple_iterator" s.heap l1 l2).get? (zh1 "tuple_iterator" s.heap l1).objs.size=ξ _:=aG _ (aG _ (aG _ (aZ _ rfl)));have q1:(zh5 "tuple_iterator" "tuple_iterator" s.heap l1 l2).get? s.heap.objs.size=ξ _:=aG _ (aG _ (aG _ (aG _ (aZ _ rfl))));show _/\_;rw[z2,z3,z4] at q5;rw[z1,z2] at q3;rw[z3] at q4;rw[z1] at q2;rw[z4];exact ⟨⟨_,q5,rfl⟩,h _ q5 q3 q4 ⟨_,q1,rfl,rfl⟩ ⟨_,q2,rfl,rfl⟩ fun c o q=>aG _ (aG _ (aG _ (aG _ (aG _ q))))⟩
end
end ZT
namespace MR
open PySem PySem.Spec PyProof.Rows L2
def SK(bb:Bool)(K:aL)(H:Hp)(a:Addr)(xs:List V):Prop:=match bb with
 | true=>SqL K H a xs
 | false=>SqT K H a xs
variable {X:Cx}{H:Hp}{a:Addr}{xs:List V}
theorem SK.at{pins:List (Addr×Obj)}{σ:L2.St}{s:aR}{bb:Bool}(I:L2.Inv X pins σ H s)(h:SK bb X.K H a xs):∃ its:List aH,Vals xs its/\ZT.SqK bb s.heap a its.toArray/\xs.length<=sizeLine:=by
 cases bb with
 | true=>obtain ⟨its,r,p,z⟩:=I.list h;exact ⟨its,r,p.isList,z⟩
 | false=>obtain ⟨its,r,p,z⟩:=I.tuple h;exact ⟨its,r,p,z⟩
theorem SK.inj{pins:List (Addr×Obj)}{σ:L2.St}{s:aR}{bb:Bool}{ys:List V}(I:L2.Inv X pins σ H s)(h:SK bb X.K H a xs)(h':SK bb X.K H a ys):xs=ys:=by
 cases bb with
 | true=>exact I.list_inj h h'
 | false=>exact I.tuple_inj h h'
def Apg(b1 b2:Bool)(K:aL)(a b:Addr):It:=
 ⟨fun i H=>∃ xs ys x y,SK b1 K H a xs/\SK b2 K H b ys/\xs[i]? = ξ x/\ys[i]? = ξ y,fun i H z H'=>∃ p x y,H p=ψ/\z = .ref p/\H'=upd H p (.tup [x,y])/\(∀ xs,SK b1 K H a xs->xs[i]? = ξ x)/\∀ ys,SK b2 K H b ys->ys[i]? = ξ y,
  fun i H=>∃ xs ys,SK b1 K H a xs/\SK b2 K H b ys/\(xs.length<=i\/ys.length<=i)⟩
theorem Aey{b1 b2:Bool}{P:cO}{w:dH}{K:aL}{elts:List Expr}{x1}{pos:Pos}(a b z TI TO i1 i2:Addr)(D:rG z TI TO i1 i2 a b):Turn P w K (.Tuple elts x1 pos) (Apg b1 b2 K a b) [z,TI,TO,i1,i2] z
  (fun i h=>nM h z TI TO .none/\iM h TI (.ref i1) (.ref i2)/\(∃ u v,iM h TO u v)/\ZT.ItK b1 h i1 a i/\ZT.ItK b2 h i2 b i) where
 mem:=Za
 obj:=fun i h st c hb=>by
  obtain ⟨h1,h2,⟨u,v,h3⟩,h4',h5'⟩:=st;obtain ⟨o4,h4,d4⟩:=h4'.obj;obtain ⟨o5,h5,d5⟩:=h5'.obj;simp only[bG,iF,or_false] at hb;rcases hb with rfl | rfl | rfl | rfl | rfl
  ·exact ⟨_,h1,fun v z=>by simp at z⟩
  ·exact ⟨_,h2,fun v z=>by simp at z⟩
  ·exact ⟨_,h3,fun v z=>by simp at z⟩
  ·exact ⟨_,h4,fun v z=>by rw[d4] at z;cases z⟩
  ·exact ⟨_,h5,fun v z=>by rw[d5] at z;cases z⟩
 keep:=fun i h h' st k=>by
  obtain ⟨h1,h2,⟨u,v,h3⟩,h4,h5⟩:=st;exact ⟨k z Za _ h1,k TI Za _ h2,⟨u,v,k TO Za _ h3⟩,h4.keep (k i1 Za),h5.keep (k i2 Za)⟩
 item:=by
  intro X hP hw hK hc i pins s σ H E I hf st hg;subst hP hw hK;obtain ⟨h1,h2,⟨u0,v0,h3⟩,h4,h5⟩:=st;obtain ⟨xs,ys,x,y,sq1,sq2,hx,hy⟩:=hg;obtain ⟨its1,hv1,pl1,hz1⟩:=SK.at I sq1;obtain ⟨its2,hv2,pl2,hz2⟩:=SK.at I sq2;obtain ⟨u,hu,r⟩:=hv1.get hx;obtain ⟨u',hu',r'⟩:=hv2.get hy;refine ZT.Akp D h1 h2 h3 h4 h5 pl1 pl2 (by simpa using hu) (by simpa using hu') fun h' o1 o2 o3 o4 o5 o6 o7=>?_
  refine ⟨_,rfl,?_⟩;have hfr:H s.heap.objs.size=ψ:=I.hok.fresh (aP _);have I1:L2.Inv X pins σ (upd H s.heap.objs.size (.tup [x,y])) { s with heap:=h',toks:=s.toks }:=
   Inv.turnNew (ch:=[z,TI,TO,i1,i2]) I hf (fun c o hb q=>o7 c o ZV ZV ZV ZV q) (aP _)
    (show ObjOk X.prog X.w _ h' _ (.tup [x,y]) from ⟨by show 2<=sizeLine;decide,[u,u'],.cons r (.cons r' .nil),⟨_,o5,rfl,_,rfl⟩⟩)
  refine wpAny_letOwnedTupleGo_zip o1 fun h9 e2 sb2=>?_
  have hlt:∀ c∈[z,TI,TO,i1,i2],c < s.heap.objs.size:=fun c hb=>by
   simp only[bG,iF,or_false] at hb;rcases hb with rfl | rfl | rfl | rfl | rfl
   ·exact bD h1
   ·exact bD h2
   ·exact bD h3
   ·exact h4.lt
   ·exact h5.lt
  have hnone:∀ c∈[z,TI,TO,i1,i2],(upd H s.heap.objs.size (.tup [x,y])) c=ψ:=fun c hb=>by rw[Aw (cB (hlt c hb))];exact (hf c hb).1
  obtain ⟨f0,f1,f2,f3,f4,f5⟩:=hf z Za;have I2:=I1.turned (t':=s.toks) (h':=h9) (it:=z) (fun c o hb q=>sb2.2 c hb |>.trans q) (hnone z Za) f1 f3 f4 f5;have hTI:iM h' TI (.ref i1) (.ref i2):=o7 TI _ D.TIz D.TITO D.TIi1 D.TIi2 h2;refine ⟨.ref s.heap.objs.size,_,I2,rfl,⟨_,x,y,hfr,rfl,rfl,fun ys sq'=>?_,fun ys sq'=>?_⟩,⟨e2,(sb2.2 TI D.TIz).trans hTI,⟨_,_,(sb2.2 TO D.TOz).trans o2⟩,o3.keep (fun o q=>(sb2.2 i1 D.i1z).trans q),o4.keep (fun o q=>(sb2.2 i2 D.i2z).trans q)⟩,hnone⟩
  ·rw[SK.inj I sq' sq1];exact hx
  ·rw[SK.inj I sq' sq2];exact hy
 done:=by
  intro X hP hw hK hc i pins s σ H E I hf st hg;subst hP hw hK;obtain ⟨h1,h2,⟨u0,v0,h3⟩,h4,h5⟩:=st;obtain ⟨xs,ys,sq1,sq2,hx⟩:=hg;obtain ⟨its1,hv1,pl1,hz1⟩:=SK.at I sq1;obtain ⟨its2,hv2,pl2,hz2⟩:=SK.at I sq2;have hl1:=hv1.length;have hl2:=hv2.length;refine ZT.Apb Zae D h1 h2 h3 h4 h5 pl1 pl2 (by simp;omega) fun h' k=>⟨rfl,?_⟩
  have nch:∀ b u,H b=ξ u->b∉[z,TI,TO,i1,i2]:=fun b u e hb=>by rw[(hf b hb).1] at e;cases e
  have k':∀ b o,b∉[z,TI,TO,i1,i2]->s.heap.get? b=ξ o->h'.get? b=ξ o:=fun c o hb q=>k c o ZV ZV ZV ZV q
  refine I.step (g':=s.gens) (d':=s.drawn) (t':=s.toks) (ch:=[z,TI,TO,i1,i2]) (fun b hb=>?_) (fun b o _ _ hc e _=>k' b o hc e) (fun b o _ _ hc e _=>⟨o.slots,k' b o hc e⟩) (fun _ _ _ _ n=>n) (fun b u hc e=>⟨u,k' b u hc e⟩) (fun _ _ e=>e) (fun _ _ _ e=>e) (fun b ps e=>⟨#[],by rw[e];simp⟩) (fun m hm=>?_) (fun b u e=>?_) I.bare
  ·obtain ⟨_,f1,_,f3,f4,f5⟩:=hf b hb;exact ⟨f3,f1,f4,f5⟩
  ·obtain ⟨o1,es,ep,ho,r⟩:=hm;exact ⟨o1,es,ep,k' _ o1 (fun z=>(hf _ z).2.1 rfl) ho,r⟩
  ·refine (I.hok b u e).stay (fun c v hc q=>k' c v ?_ q) (fun _ q=>q) fun _ _ q=>q
   rcases hc with z | z
   ·rw[z];exact nch b u e
   ·exact nch c _ z
 self:=fun _ _ _ _ _ st h=>tT st.1 h
section
variable {elts:List Expr}{x1:Nat}{tpos:Pos}
def Asw(K:aL)(ta:TA):TI:=fun σ H R=>ta σ H fun vs H1=>∃ a b xs ys,vs=[.ref a,.ref b]/\SqT K H1 a xs/\SqT K H1 b ys/\R (Apg false false K a b) H1
theorem Al6{a b:Expr}{ta:TA}{p pos:Pos}(hg:Gl X "zip")(hm:X.mg "zip" = ψ)(ha:PA X [a,b] ta)(hs:bK [a,b] X.env=ZO::bK [b] X.env:=by rfl)(hpl:(backTo pos (bK [b] X.env)).any (·.1)=false:=by rfl):PI X Zbm (.Call (.Name "zip" p) [a,b] [] pos) (Asw X.K ta):=by
 intro pins s σ H R I h;refine Call_ (Em I hg hm Ah9 (cC (thn Zaa fun us s1 ⟨vs,H1,I1,r1,q1⟩=>?_) hs hpl));obtain ⟨l1,l2,xs,ys,rfl,sq1,sq2,q⟩:=q1;obtain ⟨u,u',rfl,ru,ru'⟩:=Xk r1;cases ru;cases ru';obtain ⟨its1,hv1,pl1,hz1⟩:=I1.tuple sq1;obtain ⟨its2,hv2,pl2,hz2⟩:=I1.tuple sq2;have lt1:l1 < s1.heap.objs.size:=by obtain ⟨o,e,_⟩:=pl1;exact bD e
 have lt2:l2 < s1.heap.objs.size:=by obtain ⟨o,e,_⟩:=pl2;exact bD e
 refine ZT.Aje pl1 pl2 fun h' o1 o2 o3 o4 o5 o7=>?_
 have I2:L2.Inv X pins σ H1 { s1 with heap:=h' }:=I1.kept (t':=s1.toks) o7;refine tT o1 ⟨_,_,_,_,H1,rfl,I2,Aey (b1:=false) (b2:=false) l1 l2 _ _ _ _ _ (Ae3 _ _ _ lt1 lt2),⟨o1,o2,⟨_,_,o3⟩,o4,o5⟩,fun b hb=>?_,q⟩;have hb':s1.heap.objs.size<=b:=by
  simp only[bG,iF,or_false] at hb;rcases hb with rfl | rfl | rfl | rfl | rfl <;> first | exact Nat.le_add_right _ _ | exact aP _
 exact L2.Inv.fpOk I1 hb' (I1.hok.fresh hb')
noncomputable def Kw(us ws:List U):List U:=(us.zip ws).map fun p=>.tup [p.1,p.2]
theorem M8(us ws:List U)(k:Nat):(Kw us ws)[k]? = Pu us[k]? ws[k]?:=by
 unfold Kw;rw[bA,List.zip,List.getElem?_zipWith];cases us[k]? <;> cases ws[k]? <;> rfl
theorem Af9{K:aL}{α:List Addr}{b:Addr}{us ws:List U}{ys:List V}(sa:SqT K H a xs)(sb:SqT K H b ys)(ra:RepL K H α us xs)(rb:RepL K H α ws ys):P4 K (Apg false false K a b) (.seq (Kw us ws)) H α:=by
 intro H2 α2 L2 g A2 k;have mv:∀ (c:Addr) (vs:List U) (zs:List V),SqT K H c zs->RepL K H α vs zs->∃ zs2,SqT K H2 c zs2/\RepL K H2 α2 vs zs2:=fun c vs zs s r=>by
  have m:=(show RepU K H α (.tup vs) (.ref c) by unfold RepU;exact ⟨c,zs,rfl,s,r⟩).mono g
  unfold RepU at m;obtain ⟨c',zs2,e,s2,r2⟩:=m;cases e;exact ⟨zs2,s2,r2⟩
 obtain ⟨xs2,sa2,ra2⟩:=mv a us xs sa ra;obtain ⟨ys2,sb2,rb2⟩:=mv b ws ys sb rb;refine ⟨fun u eu=>?_,fun eu=>?_⟩
 ·have eu:(Kw us ws)[k]? = ξ u:=by simpa[IU.at] using eu
  rw[M8] at eu;cases h1:us[k]? with
  | none=>rw[h1] at eu;simp[Pu] at eu
  | some u1=>
   cases h2:ws[k]? with
   | none=>rw[h1,h2] at eu;simp[Pu] at eu
   | some u2=>
    rw[h1,h2] at eu;simp[Pu] at eu;subst eu;obtain ⟨x,hx,rx⟩:=ra2.get h1;obtain ⟨y,hy,ry⟩:=rb2.get h2;refine ⟨⟨xs2,ys2,x,y,sa2,sb2,hx,hy⟩,?_⟩;rintro z H3 ⟨p,v,v',hp,rfl,rfl,hy1,hy2⟩;have e1:=hy1 xs2 sa2;have e2:=hy2 ys2 sb2;rw[hx] at e1;cases e1;rw[hy] at e2;cases e2;exact A2.tup (.cons rx (.cons ry .nil)) hp
 ·have eu:(Kw us ws)[k]? = ψ:=by simpa[IU.at] using eu
  rw[M8] at eu;refine ⟨xs2,ys2,sa2,sb2,?_⟩;cases h1:us[k]? with
  | none=>left;rw[<- ra2.length];exact cU.mp h1
  | some u1=>
   cases h2:ws[k]? with
   | none=>right;rw[<- rb2.length];exact cU.mp h2
   | some u2=>rw[h1,h2] at eu;simp[Pu] at eu
end
end MR
namespace MR
open PySem PySem.Spec PyProof.Rows PySem.Calls L2
theorem Alj{bs:List Bool}:∀ {us:List aH},Vals (bs.map V.bl) us->∀ (i:Nat) (v:aH),us[i]? = ξ v->∃ b,bs[i]? = ξ b/\v = .bool b:=by
 induction bs with
 | nil=>intro us r i v e;rw[bP] at r;cases r;simp at e
 | cons n ns ih=>
  intro us r i v e;rw[aS] at r;cases r with
  | cons r1 r2=>
   cases i with
   | zero=>simp at e;subst e;exact ⟨n,rfl,r1⟩
   | succ i=>simpa using ih r2 i v (by simpa using e)
theorem Alw{bs:List Bool}:∀ {us:List aH},Vals (bs.map V.bl) us->us.length=bs.length:=by
 induction bs with
 | nil=>intro us r;rw[bP] at r;cases r;rfl
 | cons n ns ih=>
  intro us r;rw[aS] at r;cases r with
  | cons r1 r2=>simp[ih r2]
theorem Ajk(bs:List Bool):((bB bs.length).all fun i=>(bs[i]?).getD true)=bs.all id:=by
 rw[kE,bT,bT];constructor
 ·intro h b hb;obtain ⟨i,hi,e⟩:=dS hb;have:=h i (bE.mpr hi);simp only[aE hi,gG,e] at this;exact this
 ·intro h i hi;have hi':=bE.mp hi;simp only[aE hi',gG];exact h _ (cW hi')
section
variable {X:Cx}
theorem Abp{s:aR}{h':Heap}{o:Obj}(hk:∀ b x,b∉[s.heap.objs.size]->(s.heap.push o).get? b=ξ x->h'.get? b=ξ x):∀ b x,s.heap.get? b=ξ x->h'.get? b=ξ x:=
 fun b x e=>hk b x (fun hm=>by rw[bS.mp hm] at e;exact dI _ (bD e)) (aG _ e)
theorem Aea(hc:X.calm=true):CallR X (.builtin "all") (fun xs H Q=>∃ (p:Addr) (bs:List Bool),xs=[.ref p]/\SqL X.K H p (bs.map V.bl)/\Q (.bl (bs.all id)) H):=by
 intro pins s σ H xs us Q I r h;obtain ⟨p,bs,rfl,hq,q⟩:=h;obtain ⟨u,rfl,rx⟩:=Er r;cases rx;obtain ⟨its,r',pl,hz⟩:=I.list hq;have hl:=pl.isList;have hlt:p < s.heap.objs.size:=by obtain ⟨_,e,_⟩:=hl;exact bD e
 refine call_all_walk (kO hl ?_);refine ⟨s.heap.objs.size,[s.heap.objs.size,p],[s.heap.objs.size],its.toArray.size,_,_,fun i=>(bs[i]?).getD true,rfl,qB (A:=lP _) Zae _ p (cB hlt) its.toArray,
  ⟨⟨_,aZ _ rfl,rfl,rfl⟩,hl.push _⟩,fun i v s' Q' E' hP hQ=>?_,fun h' tk hk=>?_⟩
 ·obtain ⟨b,e,rfl⟩:=Alj r' i v (by simpa using hP);simp only[e,gG] at hQ;exact jK hQ
 ·have e:((bB its.toArray.size).all fun i=>(bs[i]?).getD true)=bs.all id:=by
   rw[aU,Alw r'];exact Ajk bs
  rw[e];exact ⟨.bl (bs.all id),H,I.kept (Abp hk),rfl,q⟩
end
noncomputable def toB:U->Option Bool
 | .bl b=>ξ b
 | _=>ψ
theorem Abu{K:aL}{H:Hp}{α:List Addr}:∀ {us:List U} {xs:List V} {bs:List Bool},RepL K H α us xs->mapO toB us=ξ bs->xs=bs.map V.bl
 | [],xs,ys,r,h=>by unfold RepL at r;subst r;cases h;rfl
 | u::us,xs,ys,r,h=>by
  unfold RepL at r;obtain ⟨x,xr,rfl,r1,r2⟩:=r;obtain ⟨y,e1,h⟩:=aB.mp h;obtain ⟨yr,e2,h⟩:=aJ.mp h;subst h;cases u <;> simp only[toB] at e1 <;> first
   | (cases e1;unfold RepU at r1;subst r1;rw[Abu r2 e2];rfl)
   | cases e1
def Rv:SC:=fun us L=>match us with
 | [.ref n]=>(Ap L n).bind fun l=>(mapO toB l).map fun bs=>(.bl (bs.all id),L)
 | _=>ψ
theorem Al9{K:aL}:Ol K (fun xs H Q=>∃ (p:Addr) (bs:List Bool),xs=[.ref p]/\SqL K H p (bs.map V.bl)/\Q (.bl (bs.all id)) H) Rv:=by
 intro H α L us xs z L' Q A r e q;unfold Rv at e;split at e
 ·obtain ⟨l,hl,e⟩:=aB.mp e;obtain ⟨bs,e1,e⟩:=aJ.mp e;cases e;obtain ⟨x,rfl,rx⟩:=r.one;obtain ⟨a,ys,rfl,sq,r2⟩:=Ey A hl rx;rw[Abu r2 e1] at sq;exact ⟨a,bs,rfl,sq,q _ H α (.refl _ _) A rfl⟩
 ·cases e
section
variable {X:Cx}
end
end MR
namespace ZT
open PySem PySem.Spec PyProof.Rows
open Sem (wp)
theorem Kt(l:Addr)(items:Array aH) :
  Meets (jM.«enumerate.__new__» ⟨[.type "enumerate",.ref l],[]⟩) (fun _ R s=>s.heap.IsTuple l items /\
   R (.ok (.ret (.ref (s.heap.push { cls:=.type "tuple_iterator",data:=.fields #[.ref l,.int 0 0] }).objs.size)))
    { s with heap:=(s.heap.push { cls:=.type "tuple_iterator",data:=.fields #[.ref l,.int 0 0] }).push { cls:=.type "enumerate",data:=.fields #[.none,.bool false,.ref s.heap.objs.size,rawInt 0,.none,.none] } }):=
 .of_wp fun prog w A R s h=>by
  obtain ⟨hp,g,d,tk,os⟩:=s;obtain ⟨hl,h⟩:=h;have hsub:=sub_enumerate;have hL:tF (vH ⟨hp,g,d,tk,os⟩) l items:=hl
  wp_walk using gF hL
  refine wpAny_stack_any fun st=>aW ?_
  split
  ·rename_i c _ _ _ _ _;cases (c == eM "enumerate")
   ·wp_walk using gF hL
    exact ⟨_,rfl,h⟩
   ·wp_walk using gF hL
    exact ⟨_,rfl,h⟩
  ·wp_walk using gF hL
   exact ⟨_,rfl,h⟩
variable {prog:cO}{w:dH}{A:eE}
section
variable {E:aH->aR->Prop}{s:aR}
theorem Kq{l:Addr}{items:Array aH}{Q:aH->aR->Prop}(hL:s.heap.IsTuple l items)
  (h:∀ h',IsEnum h' ZI s.heap.objs.size 0 .none->h'.IsTupleIter s.heap.objs.size l 0->h'.objs.size=s.heap.objs.size+2 ->
   ZaD->Q (.ref ZI) { s with heap:=h' }) :
  wpAny Zw A (call (.type "enumerate") [.ref l]) Q E s:=by
 refine callType_new F.called_enumerate Zb (F.typeCall_enumerate_1 _) (F.newCall_enumerate_1 _) (fun obj=>rH obj _) F.entry_enumerate_new
  (Kt l items) ⟨hL,?_⟩
 have hz:(s.heap.push { cls:=.type "tuple_iterator",data:=.fields #[.ref l,.int 0 0] }).objs.size=s.heap.objs.size+1:=eF ..;show _/\_;rw[hz];have he:IsEnum ((s.heap.push { cls:=.type "tuple_iterator",data:=.fields #[.ref l,.int 0 0] }).push
   { cls:=.type "enumerate",data:=.fields #[.none,.bool false,.ref s.heap.objs.size,rawInt 0,.none,.none] }) ZI s.heap.objs.size 0 .none:=by
  have:=aZ (s.heap.push { cls:=.type "tuple_iterator",data:=.fields #[.ref l,.int 0 0] })
   (o:={ cls:=.type "enumerate",data:=.fields #[.none,.bool false,.ref s.heap.objs.size,rawInt 0,.none,.none] }) rfl
  rw[hz] at this;exact this
 refine ⟨⟨_,he,rfl⟩,h _ he ⟨_,aG _ (aZ _ rfl),rfl,rfl⟩ (by rw[eF,hz]) fun b o x=>aG _ (aG _ x)⟩
end
theorem W7(hh:A.handled=ψ)(it l:Addr)(hne:l≠it)(items:Array aH) :
  Draws prog w A it [it,l] items.size (fun i v=>items[i]? = ξ v) (fun i h=>h.IsTupleIter it l i/\h.IsTuple l items) where
 live:=fun _ _ st=>let ⟨o,ho,_⟩:=st.1;⟨o,ho⟩
 frame:=fun _ _ _ st hk=>⟨st.1.at fun o e=>hk it Za o e,st.2.at fun o e=>hk l Za o e⟩
 item:=fun i s Q E hi st hQ=>by
  refine Ym st.1 st.2 (v:=items[i]) (by simp[hi]) fun h' hit' hs'=>?_
  exact hQ _ h' s.toks (by simp[hi]) ⟨hit',st.2.extBut hs'.extBut hne⟩ hs'
 done:=fun s Q E st hE=>Ts hh st.1 st.2 Za hE
section
variable {E:aH->aR->Prop}{s:aR}
theorem Wg{e it l:Addr}{n:Nat}{i:Int}{items:Array aH}{old:aH}{Q:Option aH->aR->Prop}(hh:A.handled=ψ)
  (he:IsEnum s.heap e it i old) (hit:s.heap.IsTupleIter it l n) (hl:s.heap.IsTuple l items) (hn:items.size<=n)
  (hQ:∀ h',oF it s.heap h'->Q ψ { s with heap:=h' }):wpAny Zw A (pyNext (.ref e)) Q E s:=by
 have hT:s.TypeIs (.ref e) "enumerate" := ⟨_,he,rfl⟩;unfold pyNext;refine aD (lX (eX (name:=cT "__next__") hT qU
  (fF qU hT F.entry_enumerate_next ?_ (F.args_enumerate_next_1 _))))
 show wpAny _ _ (field (.ref e) 2 >>= _) _ _ _;refine aD (eB he rfl (x:=.ref it) rfl ?_);refine aD (Ts (A:=lP A) hh hit hl (by simp;omega) fun h' x he' hx'=>?_);obtain ⟨o,ho,hc⟩:=hx';refine aD (pD (T := "StopIteration") (b:=true) ⟨o,ho,hc⟩ isSubtype_stop ?_);exact aW (hQ _ he')
end
end ZT
namespace MR
open PySem PySem.Spec PyProof.Rows L2
def Ao8(K:aL)(a:Addr):It:=
 ⟨fun i H=>∃ xs x,SqT K H a xs/\xs[i]? = ξ x,fun i H x H'=>∃ p v,H p=ψ/\x = .ref p/\H'=upd H p Zb5/\∀ xs,SqT K H a xs->xs[i]? = ξ v,fun i H=>∃ xs,SqT K H a xs/\xs.length<=i⟩
variable {pos:Pos}
theorem Aaj{P:cO}{w:dH}{K:aL}{elts:List Expr}{x1}(a e it:Addr)(hne:e≠it):Turn P w K (.Tuple elts x1 pos) (Ao8 K a) [e,it] e (fun i h=>(∃ old,IsEnum h e it i old)/\h.IsTupleIter it a i) where
 mem:=Za
 obj:=fun i h st b hb=>by
  obtain ⟨⟨old,he⟩,o,ho,hc,hd⟩:=st;rcases bG.mp hb with rfl | hb
  ·exact ⟨_,he,fun v z=>by simp at z⟩
  ·have:b=it:=by simpa using hb
   subst this;exact ⟨o,ho,fun v z=>by rw[hd] at z;cases z⟩
 keep:=fun i h h' st k=>by
  obtain ⟨⟨old,he⟩,o,ho,hc,hd⟩:=st;exact ⟨⟨old,k e Za _ he⟩,o,k it Za _ ho,hc,hd⟩
 item:=by
  intro X hP hw hK hc i pins s σ H E I hf st hg;subst hP hw hK;obtain ⟨⟨old,he⟩,hit⟩:=st;obtain ⟨xs,v,sq,hx⟩:=hg;obtain ⟨its,hv,pl,hz⟩:=I.tuple sq;obtain ⟨u,hu,r⟩:=hv.get hx;have hae:e≠a:=fun q=>by
   subst q;obtain ⟨o,ho,hc,_⟩:=pl;have:ξ o=ξ _:=ho.symm.trans he;cases this;simp at hc
  have hai:a≠it:=fun q=>by
   subst q;obtain ⟨o,ho,hc,_⟩:=pl;obtain ⟨o',ho',hc',_⟩:=hit;have:ξ o=ξ o':=ho.symm.trans ho';cases this;rw[hc] at hc';simp at hc'
  have hlt:i < its.toArray.size:=by
   have:=(aI.mp hu).1;simpa using this
  refine wpAny_pyNext_enum_itemD (ZT.W7 (A:=lP _) Zae it a hai its.toArray) he ⟨hit,pl⟩ hlt hne (by simp[hne,hae]) fun x h' tk px o1 o2 o3 o4 o5=>?_
  have hxu:x=u:=by
   have:its[i]? = ξ x:=by simpa using px
   rw[hu] at this;cases this;rfl
  subst hxu;refine ⟨_,rfl,?_⟩;have hfr:H s.heap.objs.size=ψ:=I.hok.fresh (aP _);have I1:L2.Inv X pins σ ZaL { s with heap:=h',toks:=tk+1 }:=
   Inv.turnNew (ch:=[e,it]) I hf (fun b o hb q=>o5 b o ZV ZV q) (aP _)
    (show ObjOk X.prog X.w _ h' _ Zb5 from ⟨by show 2<=sizeLine;decide,[.int i tk,x],.cons ⟨_,rfl⟩ (.cons r .nil),⟨_,o3,rfl,_,rfl⟩⟩)
  refine nK o1 fun h2 e2 sb2=>?_
  have hne2:∀ b∈[e,it],b≠s.heap.objs.size:=fun b hb z=>by
   rcases bG.mp hb with q | q
   ·have:=bD he;rw[<- q,z] at this;exact dI _ this
   ·have q:b=it:=by simpa using q
    obtain ⟨o,ho,_⟩:=hit;have:=bD ho;rw[<- q,z] at this;exact dI _ this
  have hnone:∀ b∈[e,it],(upd H s.heap.objs.size Zb5) b=ψ:=fun b hb=>by rw[Aw (hne2 b hb)];exact (hf b hb).1
  obtain ⟨f0,f1,f2,f3,f4,f5⟩:=hf e Za;have I2:=I1.turned (t':=tk+1) (h':=h2) (it:=e) (fun b o hb q=>sb2.2 b hb |>.trans q) (hnone e Za) f1 f3 f4 f5;obtain ⟨oi,hoi,hci,hdi⟩:=o2.1;refine ⟨.ref s.heap.objs.size,_,I2,rfl,⟨_,v,hfr,rfl,rfl,fun ys sq'=>?_⟩,⟨⟨_,e2⟩,oi,(sb2.2 it (fN hne)).trans hoi,hci,hdi⟩,hnone⟩;rw[I.tuple_inj sq' sq];exact hx
 done:=by
  intro X hP hw hK hc i pins s σ H E I hf st hg;subst hP hw hK;obtain ⟨⟨old,he⟩,hit⟩:=st;obtain ⟨xs,sq,hx⟩:=hg;obtain ⟨its,hv,pl,hz⟩:=I.tuple sq;obtain ⟨f0,f1,f2,f3,f4,f5⟩:=hf it Za;have hlen:=hv.length;exact ZT.Wg Zae he hit pl (by simp;omega) fun h' eb=>⟨rfl,I.turned (t':=s.toks) (fun b o hb q=>eb b o hb q) f0 f1 f3 f4 f5⟩
 self:=fun _ _ _ _ _ st h=>by obtain ⟨⟨old,he⟩,_⟩:=st;exact kW he h
variable {X:Cx}
section
variable {elts:List Expr}{x1:Nat}{tpos:Pos}
def Ap6(K:aL)(ta:TA):TI:=fun σ H R=>ta σ H fun vs H1=>∃ a xs,vs=[.ref a]/\SqT K H1 a xs/\R (Ao8 K a) H1
theorem Agf{a:Expr}{ta:TA}{p:Pos}(hg:Gl X "enumerate")(hm:X.mg "enumerate" = ψ)(ha:PA X [a] ta)(hs:bK [a] X.env=[ZO]:=by rfl):PI X Zbm (.Call (.Name "enumerate" p) [a] [] pos) (Ap6 X.K ta):=by
 intro pins s σ H R I h;refine Call_ (Em I hg hm Uu (cC (thn Zaa fun us s1 ⟨vs,H1,I1,r1,q1⟩=>?_) hs rfl));obtain ⟨l,xs,rfl,sq,q⟩:=q1;obtain ⟨u,rfl,ru⟩:=Er r1;cases ru;obtain ⟨its,hv,pl,hz⟩:=I1.tuple sq;refine ZT.Kq pl fun h' o1 o2 o3 o4=>?_
 have I2:L2.Inv X pins σ H1 { s1 with heap:=h' }:=I1.kept (t':=s1.toks) o4;refine kW o1 ⟨_,_,_,_,H1,rfl,I2,Aaj l (s1.heap.objs.size+1) s1.heap.objs.size (jC (fE _)),⟨⟨_,o1⟩,o2⟩,fun b hb=>?_,q⟩;have hb':s1.heap.objs.size<=b:=by
  simp only[bG,iF,or_false] at hb;rcases hb with rfl | rfl
  ·exact lZ _
  ·exact aP _
 exact L2.Inv.fpOk I1 hb' (I1.hok.fresh hb')
noncomputable def Gm(us:List U):List U:=us.mapIdx fun i u=>.tup [.int i,u]
def De(g:FA):FI:=fun δ L=>(g δ L).bind fun p=>match p.1 with
 | [.ref n]=>(Ap p.2 n).map fun _=>(.enm n,p.2)
 | [.tup us]=>ξ (.seq (Gm us),p.2)
 | _=>ψ
theorem Ah6{K:aL}{H:Hp}{α:List Addr}{a:Addr}{us:List U}{xs:List V}(sq:SqT K H a xs)(r:RepL K H α us xs):P4 K (Ao8 K a) (.seq (Gm us)) H α:=by
 intro H2 α2 L2 g A2 k;have m:=(show RepU K H α (.tup us) (.ref a) by unfold RepU;exact ⟨a,xs,rfl,sq,r⟩).mono g
 unfold RepU at m;obtain ⟨c',xs,e,sq2,r2⟩:=m;cases e;refine ⟨fun u eu=>?_,fun eu=>?_⟩
 ·have eu:(Gm us)[k]? = ξ u:=by simpa[IU.at] using eu
  unfold Gm at eu;rw[mD] at eu;obtain ⟨w,hw,eu⟩:=aJ.mp eu;subst eu;obtain ⟨x,hx,rx⟩:=r2.get hw;refine ⟨⟨xs,x,sq2,hx⟩,?_⟩;rintro y H3 ⟨p,v,hp,rfl,rfl,hy⟩;have:=hy xs sq2;rw[hx] at this;cases this;exact A2.tup (.cons rfl (.cons rx .nil)) hp
 ·have eu:(Gm us)[k]? = ψ:=by simpa[IU.at] using eu
  unfold Gm at eu;rw[mD] at eu;have:us[k]? = ψ:=by simpa using eu
  exact ⟨xs,sq2,by rw[<- r2.length];exact cU.mp this⟩
theorem G6{a:Expr}{g:FA}{p:Pos}(hg:Gl X "enumerate")(hm:X.mg "enumerate" = ψ)(ha:PAF X [a] g)(hs:bK [a] X.env=[ZO]:=by rfl):PIF X Zbm (.Call (.Name "enumerate" p) [a] [] pos) (De g):=by
 refine PI.imp (PI.or (Ab4 hg hm ha hs) (Agf hg hm ha hs)) ?_;rintro σ H R ⟨α,δ,L,A,S,i,L3,e,q⟩;obtain ⟨⟨us,L1⟩,e1,e⟩:=aB.mp e;simp only at e;split at e
 ·obtain ⟨l,hl,e⟩:=aJ.mp e;cases e;refine .inl ⟨α,δ,L,A,S,_,_,e1,fun xs H1 α1 g1 A1 r1=>?_⟩;obtain ⟨x,rfl,rx⟩:=r1.one;obtain ⟨a',ys,rfl,sq,r2⟩:=Ey A1 hl rx;obtain ⟨a2,ea,ha2⟩:=rx.ref_of A1;cases ha2;exact ⟨a',ys,rfl,sq,q _ H1 α1 g1 A1 (Acd (fun _ _ _ _ _=>trivial) ea)⟩
 ·cases e;refine .inr ⟨α,δ,L,A,S,_,_,e1,fun xs H1 α1 g1 A1 r1=>?_⟩;obtain ⟨x,rfl,rx⟩:=r1.one;unfold RepU at rx;obtain ⟨a',ys,rfl,sq,r2⟩:=rx;exact ⟨a',ys,rfl,sq,q _ H1 α1 g1 A1 (Ah6 sq r2)⟩
 ·cases e
end
structure CompScC(X:Cx)(scope:jP)(N':List Str)(ix:List ZU):Prop where
 kind:scope.kind = .function
 own:(scope.names.all fun y=>scope.names.lookup y.1 == ξ y.2)=true
 free:(scope.names.all fun y=>y.2 != .free || (X.env.kindOf y.1 == ξ .cell || X.env.kindOf y.1 == ξ .free))=true
 ixs:((N'.zip ix).all fun p=>match p.2 with | none=>true | some i=>(X.N[i]? == ξ p.1)&&(scope.names.lookup p.1 == ξ .free))=true
 len:N'.length=ix.length
section
variable {scope:jP}{N':List Str}{ix:List ZU}{pins:List (Addr×Obj)}{σ:L2.St}{H2:Hp}{s2:aR}{cl:List (Str×Addr)}{fp:List Addr}
theorem CompScC.lk(S:CompScC X scope N' ix){x:Str}{k:kQ}(h:(x,k)∈scope.names):scope.names.lookup x=ξ k:=by
 have:=bT.mp S.own _ h;simpa using this
theorem CompScC.names(S:CompScC X scope N' ix):∀ x∈scope.names,x.2 = .local->scope.names.lookup x.1=ξ .local:=fun x hx hl=>by
 have:=S.lk (x:=x.1) (k:=x.2) hx;rw[hl] at this;exact this
theorem CompScC.clos(S:CompScC X scope N' ix)(ok:X.Ok):∃ cl,closureFor scope X.env=pure cl/\(∀ x c,cl.lookup x=ξ c->X.env.cells.lookup x=ξ c)/\∀ y∈scope.names,y.2 = .free->∃ c,cl.lookup y.1=ξ c:=by
 refine Mp fun y hy hf=>?_
 have:=bT.mp S.free y hy;rw[hf] at this;simp at this;exact ok.has y.1 this
end
section
variable {scope:jP}{N':List Str}{ix:List ZU}{elt tg iter c:Expr}{fi:FI}{g:FG}{ft:FT}{fe:FE}
end
section
variable {tg:Expr}
end
end MR
namespace ZT
open PySem PySem.Spec PyProof.Rows
open Sem (wp)
theorem Ady:typeLookup (.type "list_reverseiterator") "__len__" = pure ψ:=by rw[typeLookup_type,qV];kernel_rfl
theorem Ail:typeLookup (.type "list_reverseiterator") "__length_hint__" = pure (ξ (.builtin "list_reverseiterator.__length_hint__")):=by rw[typeLookup_type,qV];kernel_rfl
section
variable {prog:cO}{w:dH}{A:eE}{s:aR}{R:Result->aR->Prop}
variable {I:Addr}{fp wr:List Addr}{G:Array oY->Array oY->Prop}{n:Nat}{P:Nat->aH->Prop}{St:Nat->aR->Prop}
end
section
variable {prog:cO}{w:dH}{A:eE}{E:aH->aR->Prop}{s:aR}
variable {I:Addr}{fp wr:List Addr}{G:Array oY->Array oY->Prop}{n:Nat}{P:Nat->aH->Prop}{St:Nat->aR->Prop}
theorem Yq{Q:List aH->aR->Prop}
  (W:WalksS prog w A.in1 I fp wr G n P St) (hT:∀ i s,St i s->s.TypeIs (.ref I) "list_reverseiterator") (hst:St 0 s) (hfp:∀ b∈fp,b < s.heap.objs.size) (hI:I∈fp)
  (hQ:∀ s' acc,Moved wr G s s'->rN P acc n->Q acc.toList s') (hn:n<=sizeLine):wpAny Zw A (collect (.ref I)) Q E s:=by
 have hSf:s.heap.objs.size∉fp:=fun hm=>dI _ (hfp _ hm)
 unfold collect;refine aD (wpAny_runValue (hU F.entry_proto_collect ?_));rw[fA F.plain_proto_collect _];show wpAny _ A.in1 (newList [] >>= fun l=>again (.builtin "list.__iadd__" ⟨[l,.ref I],[]⟩)) _ _ s;refine aD (dE ?_);refine aW ⟨iU jR _,hU F.entry_list_iadd ?_⟩;rw[fA jR _];have hst₁:=W.frame 0 s (s.heap.push { cls:=.type "list",data:=.seq ([]:List aH).toArray }) s.toks hst (aP _) fun b _ o e=>aG _ e
 have hS₁:(s.heap.push { cls:=.type "list",data:=.seq ([]:List aH).toArray }).get? s.heap.objs.size=ξ { cls:=.type "list",data:=.seq ([]:List aH).toArray }:=aZ _ rfl;show wpAny _ A.in1 (jN ZM (.ref I) ZM) _ _ _;have hSI:s.heap.objs.size≠I:=fun e=>hSf (e ▸ hI)
 unfold jN;refine aD (pX (hT 0 _ hst₁) ?_);have h1:oT ZM (.ref I)=false:=by simp[oT,hSI]
 have h2:(eM "list_reverseiterator" == eM "list")=false:=Zb
 have h3:(eM "list_reverseiterator" == eM "tuple")=false:=Zb
 simp only[h1,h2,h3,wV,bV,if_false];refine aD (W.self 0 _ _ _ hst₁ ?_);refine aD (dQ ?_);unfold jM.List.listLengthHint;refine aD (qN (hT 0 _ hst₁) Ady ?_);show wpAny _ A.in1 (specialOf (gU I) (cT "__length_hint__") >>= _) _ _ _;refine aD (qN (hT 0 _ hst₁) Ail ?_);generalize hid:("list_reverseiterator.__length_hint__" : String)=id0
 wp_delta
 rw[show splitId id0=ξ ("list_reverseiterator","__length_hint__") from by subst hid;lk];subst hid;refine aD (pD (b:=true) (hT 0 _ hst₁) (by rw[isSubtype_type];kernel_rfl) ?_);refine aW ?_;rw[if_neg Zb];refine aW ⟨iU F.plain_extend_loop _,codeAny_extend_loopS W hn _ hSf _ n 0 _ _ _ rfl (dW _) hst₁ hS₁ (rN.nil P) fun s' acc' c' hm hS' hacc=>?_⟩;show wpAny _ A (load s.heap.objs.size >>= _) _ _ s';refine aD (vX hS' ?_);exact aW (hQ s' acc' (Moved.drop_new (o:={ cls:=.type "list",data:=.seq ([]:List aH).toArray }) (tk:=s.toks) hm (aP _)) hacc)
theorem Nm{Q₁:aH->aR->Prop}(W:WalksS prog w A.in1.in1 I fp wr G n P St)(hT:∀ i s,St i s->s.TypeIs (.ref I) "list_reverseiterator")(hst:St 0 s)(hfp:∀ b∈fp,b < s.heap.objs.size)(hI:I∈fp)
  (h:∀ s' acc,Moved wr G s s'->rN P acc n->Q₁ (.ref s'.heap.objs.size) { s' with heap:=s'.heap.push { cls:=.type "tuple",data:=.seq acc } }) (hsz:n<=sizeLine) :
  mW Zw A (.call (.builtin "tuple.__new__") ⟨[.type "tuple",.ref I],[]⟩) (wants Q₁ E) s:=by
 refine codeAny_of_tree ?_;show wpAny _ A.in1 (do checkBuiltinCall "tuple.__new__" ⟨[.type "tuple",.ref I],[]⟩;again (.builtin "tuple.__new__" ⟨[.type "tuple",.ref I],[]⟩)) _ _ s
 refine aD (vG (F.newCall_tuple_1 _) (aW ⟨iU tG _,hU F.entry_tuple_new ?_⟩));rw[fA tG _];have hsub:=sub_tuple_self;have hinit:=init_tuple_lookup;have hmh:=madeHere_tuple;have hTI:=hT 0 s hst
 wp_walk using pX hTI,Yq (hn:=hsz) W hT hst hfp hI
 intro s' acc hm hacc;show wpAny _ _ (dB acc.toList.toArray >>= fun v=>ret v) _ _ _;unfold dB;refine aD (dE ?_ (by show acc.toList.toArray.size<=sizeLine;simp only[Array.toArray_toList];rw[hacc.1];exact hsz))
 refine aW ?_;have e:acc.toList.toArray=acc:=Za
 rw[e];exact h s' acc hm hacc
theorem Tf{Q:aH->aR->Prop}(W:WalksS prog w A.in1.in1.in1 I fp wr G n P St)(hT:∀ i s,St i s->s.TypeIs (.ref I) "list_reverseiterator")(hst:St 0 s)(hfp:∀ b∈fp,b < s.heap.objs.size)(hI:I∈fp)
  (hQ:∀ s' acc,Moved wr G s s'->rN P acc n->Q (.ref s'.heap.objs.size) { s' with heap:=s'.heap.push { cls:=.type "tuple",data:=.seq acc } }) (hsz:n<=sizeLine) :
  wpAny Zw A (call (.type "tuple") [.ref I]) Q E s:=by
 refine callType_codes (Q₁:=fun obj s₁=>s₁.TypeIs obj "tuple" /\ Q obj s₁) F.called_tuple (F.typeCall_tuple_1 _) F.entry_object_init
  (Nm (hsz:=hsz) W hT hst hfp hI fun s' acc hm hacc=>⟨⟨_,aZ _ rfl,rfl⟩,hQ s' acc hm hacc⟩) fun obj s₁ h₁=>?_
 exact ⟨h₁.1,rH obj _,object_init_meets F.called_tuple.init.lookup F.called_tuple.made Zb prog w A.in1 _ s₁ ⟨h₁.1,rfl,h₁.2⟩⟩
end
end ZT
namespace MR
open PySem PySem.Spec PyProof.Rows PySem.Calls L2
section
variable {X:Cx}
theorem Ub:fP "reversed" = ξ (.type "reversed"):=Zd
theorem Ry:fP "list" = ξ (.type "list"):=Zd
theorem Xl:fP "tuple" = ξ (.type "tuple"):=Zd
theorem Aez{its:List aH}{acc:Array aH}(h:rN (fun i v=>its.toArray[its.toArray.size - 1 - i]? = ξ v) acc its.toArray.size):acc.toList=its.reverse:=by
 obtain ⟨h1,h2⟩:=h;apply kX;intro i;have hz:its.toArray.size=its.length:=Za
 by_cases hi:i < its.length
 ·have hs:i < acc.size:=by rw[h1,hz];exact hi
  have:=h2 i acc[i] (iN hs);rw[hz,List.getElem?_toArray] at this;rw[fZ,iN hs,gE hi,this]
 ·rw[cH (by simp;omega),cH (by simp;omega)]
def Ark(K:aL)(ta:TA):TE:=fun σ H Q=>ta σ H fun vs H1=>∃ q ys,vs=[.ref q]/\SqL K H1 q ys/\∀ l,H1 l=ψ->Q (.ref l) (upd H1 l (.tup ys.reverse))
theorem Al4{a:Expr}{ta:TA}{p p' pos pos':Pos}(hc:X.calm=true)(hgL:Gl X "tuple")(hmL:X.mg "tuple" = ψ)(hg:Gl X "reversed")(hm:X.mg "reversed" = ψ)(ha:PA X [a] ta)(hs:bK [a] X.env=[ZO]:=by rfl)
  (hs2:bK [.Call (.Name "reversed" p') [a] [] pos'] X.env=[(false,eval (.Call (.Name "reversed" p') [a] [] pos') X.env)]:=by rfl):PE X (.Call (.Name "tuple" p) [.Call (.Name "reversed" p') [a] [] pos'] [] pos) (Ark X.K ta):=by
 intro pins s σ H Q I h;refine dN (Em I hgL hmL Xl ?_);refine cC ?_ hs2 rfl;rw[hs2];refine kI ?_;refine dN (Em I hg hm Ub (cC (thn Zdn fun us s1 ⟨vs,H1,I1,r1,q1⟩=>?_) hs rfl));obtain ⟨l,ys,rfl,sq,q⟩:=q1;obtain ⟨u,rfl,ru⟩:=Er r1;cases ru;obtain ⟨its,hv,pl,hz⟩:=I1.list sq;have hlt:l < s1.heap.objs.size:=by obtain ⟨_,e,_⟩:=pl.isList;exact bD e
 refine call_reversed_list pl.isList ?_;refine kP ?_;have hlen:=hv.length;refine ZT.Tf (n:=its.toArray.size) ((Walks.listRev (A:=lP (lP (lP X.A))) (I1.ok.hd hc) s1.heap.objs.size l (cB hlt) its.toArray).toS) (fun i s st=>st.2.1.typeIs)
  ⟨dW _,⟨_,aZ _ rfl,rfl,by simp[revObj]⟩,pl.isList.push _⟩ (fun b hb=>?_) Za (fun s' acc hm' hacc=>?_) (by simp;omega)
 ·simp only[bG,iF,or_false] at hb;have hz2:(s1.heap.push (revObj l ((its.toArray.size:Int) - 1))).objs.size=s1.heap.objs.size+1:=eF ..;show b < (s1.heap.push (revObj l ((its.toArray.size:Int) - 1))).objs.size;rw[hz2];rcases hb with rfl | rfl
  ·exact fE _
  ·exact kY hlt
 ·obtain ⟨h',g',d',tk',os'⟩:=s';have e1:g'=s1.gens:=hm'.gens;have e2:d'=s1.drawn:=hm'.drawn;have e3:os'=s1.os:=hm'.os;subst e1 e2 e3;have kp:∀ b o,s1.heap.get? b=ξ o->h'.get? b=ξ o:=fun b o e=>hm'.heap b o (fun hb=>by
   have hb':b < s1.heap.objs.size:=bD e;simp only[bG,iF,or_false] at hb;rw[hb] at hb';exact absurd hb' (dI _)) (aG _ e)
  have hacc':=Aez hacc;have hacc2:acc=its.reverse.toArray:=by rw[<- hacc']
  have I2:L2.Inv X pins σ H1 { s1 with heap:=h',toks:=tk' }:=I1.kept (t':=tk') kp;have I3:L2.Inv X pins σ (upd H1 h'.objs.size (.tup ys.reverse)) { s1 with heap:=h'.push { cls:=.type "tuple",data:=.seq acc },toks:=tk' }:=
   I2.laid (t':=tk') (fun b o e=>aG _ e) (aP _) (show ObjOk X.prog X.w _ _ _ (.tup ys.reverse) from ⟨by rw[cG];exact hz,its.reverse,Vals.reverse hv,by rw[hacc2];exact TupN.new _ _⟩)
  exact ⟨.ref h'.objs.size,_,I3,rfl,q _ ZcT⟩
def Ac5(g:FA):FE:=fun δ L=>(g δ L).bind fun p=>match p.1 with
 | [.ref n]=>(Ap p.2 n).map fun l=>(.tup l.reverse,p.2)
 | _=>ψ
theorem Akz{a:Expr}{g:FA}{p p' pos pos':Pos}(hc:X.calm=true)(hgL:Gl X "tuple")(hmL:X.mg "tuple" = ψ)(hg:Gl X "reversed")(hm:X.mg "reversed" = ψ)(ha:PAF X [a] g)(hs:bK [a] X.env=[ZO]:=by rfl)
  (hs2:bK [.Call (.Name "reversed" p') [a] [] pos'] X.env=[(false,eval (.Call (.Name "reversed" p') [a] [] pos') X.env)]:=by rfl):PEF X (.Call (.Name "tuple" p) [.Call (.Name "reversed" p') [a] [] pos'] [] pos) (Ac5 g):=by
 refine PE.imp (Al4 hc hgL hmL hg hm ha hs hs2) ?_;rintro σ H Q ⟨α,δ,L,A,S,u,L3,e,q⟩;obtain ⟨⟨us,L1⟩,e1,e⟩:=aB.mp e;refine ⟨α,δ,L,A,S,us,L1,e1,fun xs H1 α1 g1 A1 r1=>?_⟩;simp only at e;split at e
 ·obtain ⟨l,hl,e⟩:=aJ.mp e;cases e;obtain ⟨x,rfl,rx⟩:=r1.one;obtain ⟨a',ys,rfl,sq,r2⟩:=Ey A1 hl rx;refine ⟨a',ys,rfl,sq,fun p hp=>?_⟩;obtain ⟨g',A',r'⟩:=A1.tup (RepL.reverse r2) hp;exact q _ _ _ (g1.trans g') A' r'
 ·cases e
end
noncomputable def Itd(hi:Int)(n:Nat):It:=⟨fun i _=>i < n,fun i H x H'=>H'=H/\x = .int (hi - i),fun i _=>n<=i⟩
theorem Ad4{P:cO}{w:dH}{K:aL}{tg:Expr}(it:Addr)(hi:Int)(n:Nat):Turn P w K tg (Itd hi n) [it] it (fun i h=>rA h it (hi+(i:Nat) * (-1)) ((n:Int) - (i:Nat)) (-1)) where
 mem:=Za
 obj:=fun i h st b hb=>by
  have e:b=it:=by simpa using hb
  subst e;exact ⟨_,st,fun v z=>by
   have z':vB _=Data.cell v:=z;cases z'⟩
 keep:=fun i h h' st k=>k it Za _ st
 item:=by
  intro X hP hw hK hc i pins s σ H E I hf st hg;subst hP hw hK;obtain ⟨f0,f1,f2,f3,f4,f5⟩:=hf it Za;have W:=xR (prog:=X.prog) (w:=X.w) Zae it hi (-1) n;refine W.item i s _ _ hg st fun v h' tk hv st' kk=>?_
  obtain ⟨t,rfl⟩:=hv;have I1:L2.Inv X pins σ H { s with heap:=h',toks:=tk }:=I.turned (fun b o hb e=>kk b o (by simpa using hb) e) f0 f1 f3 f4 f5;refine ⟨_,rfl,Abn (s:={ s with heap:=h',toks:=tk }) (n := "range_iterator") st' rfl rfl Zb ⟨.int (hi - i),H,I1,⟨t,?_⟩,⟨rfl,rfl⟩,st',fun b hb=>(hf b hb).1⟩⟩;have:hi+(i:Int) * (-1)=hi - i:=Ze
  rw[this]
 done:=by
  intro X hP hw hK hc i pins s σ H E I hf st hg;subst hP hw hK;obtain ⟨f0,f1,f2,f3,f4,f5⟩:=hf it Za;exact pO Zae st (by have:n<=i:=hg;omega) fun h' eb=>⟨rfl,I.turned (t':=s.toks) Zb0 f0 f1 f3 f4 f5⟩
 self:=fun _ _ _ _ _ st h=>pP st h
end MR
namespace ZT
open PySem PySem.Spec PyProof.Rows HT
section
variable {prog:cO}{w:dH}{A:eE}{E:aH->aR->Prop}{s:aR}
end
end ZT
namespace MR
open PySem PySem.Spec PyProof.Rows PySem.Calls L2
variable {X:Cx}
section
variable {tg:Expr}
theorem Vn(a b:Int):gW a b (-1)=if b < a then a - b else 0:=by
 unfold gW;simp only[show ¬ ((-1:Int) > 0) by decide,if_false,show -(-1:Int)=1 by decide,xG];split <;> omega
theorem Y4{a b:Int}(ha:-(2 ^ 62)<=a)(ha':a < 2 ^ 62)(hb:-(2 ^ 62)<=b)(hb':b < 2 ^ 62):mT a b (-1)=true:=by
 unfold mT;rw[Vn];simp only[jM.Range.rangeFitsLong,bZ,mL,decide_eq_true_eq,beq_iff_eq,show ¬ ((-1:Int) > 0) by decide,if_false];split <;> omega
theorem Adm{pins:List (Addr×Obj)}{σ:L2.St}{H:Hp}{s:aR}{R:It->Hp->Prop}{E:aH->aR->Prop}{hi lo:Int}{t u v:Tok}{tk:Nat}(I:L2.Inv X pins σ H s)(h1:-(2 ^ 62)<=hi)(h2:hi < 2 ^ 62)(h3:-(2 ^ 62)<=lo)(h4:lo < 2 ^ 62)
  (q:R (Itd hi (hi - lo).toNat) H):wpAny Zg X.A (pyIter ZM) (PIE X pins σ tg R) E { s with heap:=s.heap.push { cls:=.type "range",data:=.fields #[.int hi t,.int lo u,.int (-1) v] },toks:=tk }:=by
 refine sG (vD ..) (Y4 h1 h2 h3 h4) ?_;have I1:L2.Inv X pins σ H { s with heap:=s.heap.push { cls:=.type "range",data:=.fields #[.int hi t,.int lo u,.int (-1) v] },toks:=tk }:=I.kept fun b o e=>aG _ e
 refine ⟨(s.heap.push { cls:=.type "range",data:=.fields #[.int hi t,.int lo u,.int (-1) v] }).objs.size,[(s.heap.push { cls:=.type "range",data:=.fields #[.int hi t,.int lo u,.int (-1) v] }).objs.size],_,_,H,rfl,
  I1.kept (t':=tk) fun b o e=>aG _ e,Ad4 _ hi (hi - lo).toNat,?_,fun b hb=>?_,q⟩
 ·have e1:hi+((0:Nat):Int) * (-1)=hi:=Za
  have e2:(((hi - lo).toNat:Nat):Int) - ((0:Nat):Int)=gW hi lo (-1):=by rw[Vn];split <;> omega
  show rA _ _ (hi+((0:Nat):Int) * (-1)) ((((hi - lo).toNat:Nat):Int) - ((0:Nat):Int)) (-1);rw[e1,e2];exact aZ _ rfl
 ·have e:b=(s.heap.push { cls:=.type "range",data:=.fields #[.int hi t,.int lo u,.int (-1) v] }).objs.size:=by simpa using hb
  subst e;exact L2.Inv.fpOk I1 (aP _) ZaA
def Asi(ta:TA):TI:=fun σ H R=>ta σ H fun vs H1=>∃ i j:Int,vs=[.int i,.int j,.int (-1)]/\(-(2 ^ 62)<=i/\i < 2 ^ 62/\-(2 ^ 62)<=j/\j < 2 ^ 62)/\R (Itd i (i - j).toNat) H1
theorem Ael{a b c:Expr}{ta:TA}{p pos:Pos}(hg:Gl X "range")(hm:X.mg "range" = ψ)(ha:PA X [a,b,c] ta)(hs:bK [a,b,c] X.env=ZO::bK [b,c] X.env:=by rfl)(hpl:(backTo pos (bK [b,c] X.env)).any (·.1)=false:=by rfl) :
  PI X tg (.Call (.Name "range" p) [a,b,c] [] pos) (Asi ta):=by
 intro pins s σ H R I h;refine Call_ (Em I hg hm sH (cC (thn Zaa fun us s1 ⟨vs,H1,I1,r1,q1⟩=>?_) hs hpl));obtain ⟨i,j,e,⟨q1,q2,q3,q4⟩,q⟩:=q1;subst e;cases r1 with
 | cons r rr=>
  cases rr with
  | cons r' rr=>
   cases rr with
   | cons r'' rr=>
    cases rr;obtain ⟨t,rfl⟩:=r;obtain ⟨t',rfl⟩:=r';obtain ⟨t'',rfl⟩:=r'';exact call_range_3 Zb (Adm I1 q1 q2 q3 q4 q) (.inl (PyProof.noPylong_small Ze))
noncomputable def Hy(hi:Int)(n:Nat):List U:=(bB n).map fun (i:Nat)=>.int (hi - (i:Int))
def Abl(g:FA):FI:=fun δ L=>(g δ L).bind fun p=>match p.1 with
 | [.int i,.int j,.int k]=>if k = -1/\-1000000<=i/\i<=1000000/\-1000000<=j/\j<=1000000 then ξ (.seq (Hy i (i - j).toNat),p.2) else ψ
 | _=>ψ
theorem Al1{K:aL}{H:Hp}{α:List Addr}(hi:Int)(n:Nat):P4 K (Itd hi n) (.seq (Hy hi n)) H α:=by
 intro H2 α2 L2 g A2 k;refine ⟨fun u eu=>?_,fun eu=>?_⟩
 ·have eu:(Hy hi n)[k]? = ξ u:=by simpa[IU.at] using eu
  unfold Hy at eu;rw[bA] at eu;obtain ⟨c,hc,eu⟩:=aJ.mp eu;have hk:k < n:=by
   have:=(aI.mp hc).1;simpa using this
  rw[dR hk] at hc;cases hc;subst eu;refine ⟨hk,?_⟩;rintro y H3 ⟨rfl,rfl⟩;exact ⟨.refl _ _,A2,rfl⟩
 ·have eu:(Hy hi n)[k]? = ψ:=by simpa[IU.at] using eu
  have:(Hy hi n).length<=k:=cU.mp eu;show n<=k;simpa[Hy] using this
theorem Y5{a b c:Expr}{g:FA}{p pos:Pos}(hg:Gl X "range")(hm:X.mg "range" = ψ)(ha:PAF X [a,b,c] g)(hs:bK [a,b,c] X.env=ZO::bK [b,c] X.env:=by rfl)(hpl:(backTo pos (bK [b,c] X.env)).any (·.1)=false:=by rfl):PIF X tg (.Call (.Name "range" p) [a,b,c] [] pos) (Abl g):=by
 refine PI.imp (Ael hg hm ha hs hpl) ?_;rintro σ H R ⟨α,δ,L,A,S,i,L3,e,q⟩;obtain ⟨⟨us,L1⟩,e1,e⟩:=aB.mp e;refine ⟨α,δ,L,A,S,us,L1,e1,fun xs H1 α1 g1 A1 r1=>?_⟩;simp only at e;split at e
 ·split at e
  ·rename_i hj;cases e;obtain ⟨rfl,h1,h2,h3,h4⟩:=hj;unfold RepL at r1;obtain ⟨x,xr,rfl,rx,r1⟩:=r1;unfold RepL at r1;obtain ⟨y,yr,rfl,ry,r1⟩:=r1;unfold RepL at r1;obtain ⟨z,zr,rfl,rz,r1⟩:=r1;unfold RepL at r1;subst r1;unfold RepU at rx ry rz;subst rx ry rz;exact ⟨_,_,rfl,⟨Ze,Ze,Ze,Ze⟩,q _ H1 α1 g1 A1 (Al1 _ _)⟩
  ·cases e
 ·cases e
end
section
def Am7(K:aL):R2:=fun x y H Q=>∃ a b ys,x = .ref a/\y = .ref b/\SqT K H a []/\SqT K H b ys/\Q (.ref b) H
theorem Aj6:OpR X (gQ .Add) (Am7 X.K):=by
 intro pins s σ H x y v u Q I rx ry h;obtain ⟨a,b,ys,rfl,rfl,ha,hb,q⟩:=h;cases rx;cases ry;obtain ⟨its,r1,p1,_⟩:=I.tuple ha;obtain ⟨its2,r2,p2,_⟩:=I.tuple hb;have he:its=[]:=r1.nil_iff.mpr rfl;obtain ⟨⟨cls,dd,data,sl⟩,ho,hc,n,hd⟩:=id p1;obtain ⟨⟨cls2,dd2,data2,sl2⟩,ho2,hc2,n2,hd2⟩:=id p2;simp only at hc hd hc2 hd2;subst hc hd hc2 hd2;exact sX ⟨_,ho,rfl⟩ ⟨_,ho2,rfl⟩ pA rW kR kN (jZ _ _)
  (tuple_addW0 a b its.toArray its2.toArray n n2 dd dd2 sl sl2 (by simp[he])) ⟨ho,ho2,⟨.ref b,H,I,rfl,q⟩⟩
end
def Jq:S2:=fun u w L=>match u,w with
 | .tup [],.tup b=>ξ (.tup b,L)
 | u,w=>Be u w L
def Amu(K:aL):R2:=fun x y H Q=>Ah2 K x y H Q\/Am7 K x y H Q
theorem Ak7:OpR X (gQ .Add) (Amu X.K):=B2.or Aj6
theorem Ah3{K:aL}:Es K (Amu K) Jq:=by
 intro H α L u w x y z L' Q A ru rw e q;unfold Jq at e;split at e
 ·cases e;have rw':=rw;unfold RepU at ru rw;obtain ⟨a,xs,rfl,sq,r2⟩:=ru;obtain ⟨b,ys,rfl,sq',r2'⟩:=rw;unfold RepL at r2;subst r2;exact .inr ⟨a,b,ys,rfl,rfl,sq,sq',q _ H α (.refl _ _) A rw'⟩
 ·exact .inl (B1 H α L _ _ x y z L' Q A ru rw e q)
@[simp] theorem Anj(i j:Int)(L:UH):Jq (.int i) (.int j) L=ξ (.int (i+j),L):=rfl
end MR
namespace MR
open PySem PyProof.Rows L2
section
variable {X:Cx}
end
noncomputable def toS:U->Option Str
 | .str a=>ξ a
 | _=>ψ
end MR
namespace MR
open PySem PySem.W PyProof.Rows L2
theorem Rl:∀ (ns:List Int) (n:Int),n∈ns->jV n<=mQ (ns.map pC)
 | [],_,h=>by cases h
 | m::ns,n,h=>by
  have e:mQ ((m::ns).map pC)=jV m+1+mQ (ns.map pC):=by
   rw[aS,mQ,xK];rfl
  rw[e];rcases bG.mp h with rfl | h
  ·omega
  ·have:=Rl ns n h;omega
theorem Uh{ns:List Int}(h:tU [xW (ns.map pC)]=true):∀ n∈ns,jV n<=2 ^ 20:=by
 intro n hn;unfold tU at h;rw[lW,bZ] at h;have h1:=h.1;unfold WData.layable at h1;rw[bZ] at h1;have h2:=of_decide_eq_true h1.2;rw[xK] at h2;exact eC (Rl ns n hn) h2
end MR
namespace Att
open PySem PySem.W PySem.Calls PyProof.Rows L2 MR
structure _root_.MR.LamB(K:aL)(mg:Str->Option aH)(base:Heap):Prop where
 bm:∃ bm ob,mg "__builtins__" = ξ (.ref bm)/\bm≠nD/\base.get? bm=ξ ob/\ob.cls = .type "module" /\ ob.dict=ξ nD/\ob.data = .plain
 hd:∀ nm∈Fx,∀ c P,dJ K nm=ξ (c,P)->PySem.W.CodeHd base c P
 inj:∀ nm1∈Fx,∀ nm2∈Fx,∀ c1 c2 P,dJ K nm1=ξ (c1,P)->dJ K nm2=ξ (c2,P)->nm1=nm2
open PySem.Spec in
theorem Adh{P:cO}{w:dH}{K:aL}{mg mb:Str->Option aH}{k:Nat}{fa a:Addr}{fd:eT}{x:Str}{sp:Sp}{s₁:aR}{vs:List aH}{ns:List Int}(tabs:List Addr)
  (hT:∀ b∈tabs,(∃ c,CodeHd s₁.heap c b)/\s₁.heap.get? b=ξ (tabObj #[])) (hKT:noTabs K=true) (LB:LamB K mg s₁.heap)
  (KX:K.In s₁.heap) (hns:s₁.heap.Ns dD mg) (hb:s₁.heap.Ns nD mb) (hbb:∀ x:Str,x ≠ "__name__" -> mb x=fP x) (hlim:s₁.heap.NoLimit) (hg:s₁.gens=#[])
  (ha:s₁.heap.get? a=ξ { cls:=.type "list",data:=.seq vs.toArray }) (hi:fV vs ns) (hl:ns.length<=sizeLine) (hr:Room k callerA)
  (F:∀ base:Heap,K.In base->base.Ns dD mg->LamB K mg base->FnOk P w K mg base CX0 k fa fd [x] sp) (hbind:∀ (s:aR) (u:aH),oB s fd ⟨[u],[]⟩ [(x,u)])
  (hsp:∀ H:Hp,Agh H->(∀ b∈tabs,H b=ξ (.tbl #[]))->SqL K H a ZG->sp [.ref a] H (fun v _=>v = .bl true) fun _ _ _=>False) :
  mW (model P w) callerA (.call (.ref fa) ⟨[.ref a],[]⟩) (fun r s'=>r = .ok (.ret ZbJ)/\OldK s₁.heap s'.heap/\s'.os=s₁.os/\pM s'.gens) s₁:=by
 have rv:=Ur hi;have lenV:=hi.length;have noK:∀ b∈tabs,K.lookup b=ψ:=fun b hb=>by
  cases q:K.lookup b with
  | none=>rfl
  | some o=>
   have e:=KX b o q;rw[(hT b hb).2] at e;cases e;have h2:=bT.mp hKT (b,_) (mem_of_lookupK q);exact absurd (show false=true from h2) cQ
 have naT:a∉tabs:=fun z=>by
  have e:=(hT a z).2;rw[ha] at e;cases e
 have core:∀ H:Hp,(∀ b,H b=ψ\/(b=a/\H b=ξ (.frz { cls:=.type "list",data:=.seq vs.toArray } (.lst ZG)))\/(b∈tabs/\H b=ξ (.tbl #[])))->(∀ b∈tabs,H b=ξ (.tbl #[]))->SqL K H a ZG->HOk P w H s₁.heap->(H a≠ψ->K.lookup a=ψ) ->
   mW (model P w) callerA (.call (.ref fa) ⟨[.ref a],[]⟩) (fun r s'=>r = .ok (.ret ZbJ)/\OldK s₁.heap s'.heap/\s'.os=s₁.os/\pM s'.gens) s₁:=by
  intro H hO hB hS hok hK;have base_of:∀ {b:Addr} {o:Obj},s₁.heap.get? b=ξ o->H b=ψ->(Ud s₁.heap H).get? b=ξ o:=fun e n=>Ahb e n
  have noA:∀ {b:Addr} {o:Obj} {es:Array tV} {ep:Nat},s₁.heap.get? b=ξ o->o.data = .dict es ep->H b=ψ:=fun {b o es ep} e d=>by
   rcases hO b with z | ⟨e',_⟩ | ⟨e',_⟩
   ·exact z
   ·subst e';rw[ha] at e;cases e;have d':Data.seq vs.toArray _=Data.dict es ep:=d;cases d'
   ·rw[(hT b e').2] at e;cases e;have d':vB #[]=Data.dict es ep:=d;cases d'
  have nsK:∀ {b:Addr} {m:Str->Option aH},s₁.heap.Ns b m->(Ud s₁.heap H).Ns b m:=fun {b m} ⟨o,es,ep,e,d,r⟩=>⟨o,es,ep,base_of e (noA e d),d,r⟩
  have hKb:K.In (Ud s₁.heap H):=fun b o e=>base_of (KX b o e) (by
   rcases hO b with z | ⟨e',z⟩ | ⟨e',z⟩
   ·exact z
   ·subst e';rw[hK (by rw[z];simp)] at e;cases e
   ·rw[noK b e'] at e;cases e)
  have noO:∀ {b:Addr} {o:Obj} {n:String},s₁.heap.get? b=ξ o->o.cls = .type n->n ≠ "list" -> H b=ψ:=fun {b o n} e d ne=>by
   rcases hO b with z | ⟨e',_⟩ | ⟨e',_⟩
   ·exact z
   ·subst e';rw[ha] at e;cases e;have d':eM "list" = eM n:=d;cases d';exact absurd rfl ne
   ·rw[(hT b e').2] at e;cases e;cases d
  have hLB:LamB K mg (Ud s₁.heap H):=by
   obtain ⟨bm,ob,b1,b2,b3,b4,b5,b6⟩:=LB.bm;refine ⟨⟨bm,ob,b1,b2,base_of b3 (noO b3 b4 Zb),b4,b5,b6⟩,fun nm hn c P e=>?_,LB.inj⟩;obtain ⟨o,vs,file,tf,flags,tg,inF,text,tt,c1,c2,c3⟩:=LB.hd nm hn c P e;exact ⟨o,vs,file,tf,flags,tg,inF,text,tt,base_of c1 (noO c1 c2 Zb),c2,c3⟩
  have hM:Mod K mg (Ud s₁.heap H):=⟨hKb,nsK hns,⟨mb,nsK hb,hbb⟩,let ⟨mc,h1,h2⟩:=hlim;⟨mc,nsK h1,h2⟩⟩
  have e0:Env0 P w K mg (Ud s₁.heap H) callerA [] s₁ H:=⟨rfl,hM,fun b o e=>Amb e,sV (Adb _ _),trivial,fun b hb=>absurd (show b∈([]:List Addr) from hb) Za,hok,.of_eq hg⟩;refine pR ((F _ hKb (nsK hns) hLB).run callerA [] s₁ H ⟨[.ref a],[]⟩ [.ref a] [.ref a] _ _ hr e0 (hbind s₁ (.ref a)) (.cons rfl .nil) (hsp H (fun b=>?_) hB hS)) fun r s' h=>?_
  ·rcases hO b with z | ⟨_,z⟩ | ⟨_,z⟩
   ·exact .inl z
   ·exact .inr (.inl ⟨_,_,z⟩)
   ·exact .inr (.inr ⟨_,z⟩)
  cases r with
  | error e=>exact fO h
  | ok fl=>
   cases fl with
   | next=>exact fO h
   | brk=>exact fO h
   | cont=>exact fO h
   | ret u=>
    obtain ⟨v,H',os,bare,un,hok',r',q⟩:=h;have q':v = .bl true:=q;subst q';obtain rfl:u=sE true:=r';have grow:∀ b∈tabs,∃ more,s'.heap.get? b=ξ (tabObj (#[]++more)):=fun b hb=>by
     obtain ⟨more,e2⟩:=un.tbls b _ (hB b hb);exact ⟨more,hok' b _ e2⟩
    have keep:∀ b o,b∉tabs->s₁.heap.get? b=ξ o->s'.heap.get? b=ξ o:=fun b o hb e=>by
     rcases hO b with z | ⟨e',z⟩ | ⟨e',z⟩
     ·exact un.keep b o e z (by intro z;exact absurd (show b∈([]:List Addr) from z) Za) Za
     ·have z2:=un.frzs b _ _ z;obtain ⟨e1,_⟩:=hok b _ z;obtain ⟨e2,_⟩:=hok' b _ z2;rw[e] at e1;cases e1;exact e2
     ·exact absurd e' hb
    refine ⟨rfl,⟨fun b o e=>?_,fun b o e=>?_⟩,os,bare⟩
    ·by_cases hb:b∈tabs
     ·obtain ⟨more,e2⟩:=grow b hb;obtain ⟨⟨c,hc⟩,e3⟩:=hT b hb;rw[e] at e3;cases e3;exact .inr (.inl ⟨(hc.tab e).isCodeTable,rfl,#[],more,rfl,e2⟩)
     ·exact .inl (keep b o hb e)
    ·by_cases hb:b∈tabs
     ·obtain ⟨more,e2⟩:=grow b hb;exact ⟨_,e2⟩
     ·exact ⟨o,keep b o hb e⟩
 have tabok:∀ b∈tabs,∀ H:Hp,ObjOk P w H s₁.heap b (.tbl #[]):=fun b hb H=>(hT b hb).2
 cases hk:K.lookup a with
 | some o=>
  have e:=KX a o hk;rw[ha] at e;cases e;refine core (fun b=>if b∈tabs then ξ (.tbl #[]) else ψ) (fun b=>?_) (fun b hb=>if_pos hb) (.inr ⟨_,vs.toArray,_,hk,rfl,rfl,rfl,by rw[aU,lenV];exact hl,by simpa using rv⟩) (fun b u z=>?_) fun z=>absurd (if_neg naT) z
  ·by_cases hb:b∈tabs
   ·exact .inr (.inr ⟨hb,if_pos hb⟩)
   ·exact .inl (if_neg hb)
  ·by_cases hb:b∈tabs
   ·have z':=(if_pos hb).symm.trans z;cases z';exact tabok b hb _
   ·have z':=(if_neg hb).symm.trans z;cases z'
 | none=>
  refine core (fun b=>if b=a then ξ (.frz { cls:=.type "list",data:=.seq vs.toArray } (.lst ZG)) else if b∈tabs then ξ (.tbl #[]) else ψ) (fun b=>?_) (fun b hb=>?_) (.inl (.inr ⟨{ cls:=.type "list",data:=.seq vs.toArray },if_pos rfl⟩)) (fun b u z=>?_) fun _=>hk
  ·by_cases hb:b=a
   ·exact .inr (.inl ⟨hb,if_pos hb⟩)
   ·by_cases hb2:b∈tabs
    ·exact .inr (.inr ⟨hb2,(if_neg hb).trans (if_pos hb2)⟩)
    ·exact .inl ((if_neg hb).trans (if_neg hb2))
  ·exact (if_neg (fun z=>naT (by rw[<- z];exact hb))).trans (if_pos hb)
  ·by_cases hb:b=a
   ·have z':=(if_pos hb).symm.trans z;cases z';subst hb;exact ⟨ha,by rw[aN];exact hl,vs,_,rv,ha⟩
   ·have z:=(if_neg hb).symm.trans z;by_cases hb2:b∈tabs
    ·have z':=(if_pos hb2).symm.trans z;cases z';exact tabok b hb2 _
    ·have z':=(if_neg hb2).symm.trans z;cases z'
def Aii(K:aL):List (Addr×Addr):=Fx.filterMap fun nm=>dJ K nm
def V1(K:aL):List (Str×Addr):=Fx.filterMap fun nm=>(dJ K nm).map fun q=>(nm,q.2)
def O8(K:aL):Bool:=(V1 K).all fun x=>(V1 K).all fun y=>x.1 == y.1 || x.2 != y.2
theorem Aik{K:aL}(h:O8 K=true):∀ nm1∈Fx,∀ nm2∈Fx,∀ c1 c2 P,dJ K nm1=ξ (c1,P)->dJ K nm2=ξ (c2,P)->nm1=nm2:=by
 intro nm1 h1 nm2 h2 c1 c2 P e1 e2;have m1:(nm1,P)∈V1 K:=iG.mpr ⟨nm1,h1,by rw[e1];rfl⟩;have m2:(nm2,P)∈V1 K:=iG.mpr ⟨nm2,h2,by rw[e2];rfl⟩;have:=bT.mp (bT.mp h _ m1) _ m2;simpa using this
theorem Apo{l:nB}{k:Nat}{q:cO}{loose:List Str}{XP:(Str->Option aH)->Heap->Prop}{YP:dH->Heap->Prop}{d:DefRec}{K:rE->aL}{m:FN}{x:Str}
  (hn:l.most=ξ 63) (hdf:d.params.defaults=[]) (hr:Room k callerA) (hY:∀ (w:dH) (h:Heap),YP w h->(K w.params).In h)
  (hTK:∀ w:dH,noTabs ZaZ=true/\O8 ZaZ=true) (hrec:∀ nm∈Fx,∃ d,(recsOf q).find? (fun e=>e.name == nm)=ξ d)
  (F:∀ (w:dH) (mg:Str->Option aH) (fa:Addr) (h:Heap),(K w.params).In h->h.Ns dD mg->mg d.name=ξ (.ref fa) ->
   ∃ fd:eT,(∀ (s:aR) (u:aH),oB s fd ⟨[u],[]⟩ [(x,u)])/\∀ base:Heap,(K w.params).In base->base.Ns dD mg->LamB ZaZ mg base->FnOk l.prog w ZaZ mg base CX0 k fa fd [x] (spF ZaZ 1 m))
  (ht:∀ ns:List Int,ns.length<=63->(∀ n∈ns,jV n<=2 ^ 20)->∃ L',m [.ref 0] [.ro Z4]=ξ Zdj) :
  wY q loose XP YP l.row.toRowW d [] (fun f vs=>xY f vs):=by
 intro w s₀ s₁ mg mb G Y fa o pm cd doc dV kV ho hd hcd hD hmg hg args vals as hpre hlay hrd hwl hlo;obtain rfl:dV = .none:=Dflts.none hD hdf;obtain rfl:kV = .none:=Dflts.noKw hD;obtain ⟨a,vs,ns,rfl,rfl,hobj,hints,hlen⟩:=Afi hn hpre hwl;have KX:=hY w _ Y;obtain ⟨fd,hb,hF⟩:=F w mg fa _ KX G.T.g hmg;have hwt:=Uh hlay;have hT:∀ b∈(Aii ZaZ).map (·.2),(∃ c,CodeHd s₁.heap c b)/\s₁.heap.get? b=ξ (tabObj #[]):=fun b hb=>by
  obtain ⟨⟨c,b'⟩,h1,h2⟩:=cJ.mp hb;obtain ⟨nm,h3,h4⟩:=iG.mp h1;cases h2;obtain ⟨dr,hd⟩:=hrec nm h3;obtain ⟨e1,e2⟩:=tab_of G.T KX hd h4;exact ⟨⟨c,e1⟩,e2⟩
 have LB:LamB ZaZ mg s₁.heap:=⟨G.T.bmain,fun nm hn c P e=>by
  obtain ⟨dr,hd⟩:=hrec nm hn;exact (tab_of G.T KX hd e).1,Aik (hTK w).2⟩
 have all:=Adh ((Aii ZaZ).map (·.2)) hT (hTK w).1 LB KX G.T.g G.T.b G.T.builtins G.T.nolimit hg hobj hints (eC hlen Zb) hr hF hb (fun H hO hB hS=>Aot hO (fun nm hn c P e=>?_) hS (ht ns hlen hwt))
 ·refine enter_call (pR all fun r s' hq=>?_);obtain ⟨rfl,h2,h3,h4⟩:=hq;exact ⟨.inl ⟨.bool true,.bool true,[],rfl,fun _=>rfl,.bool true,Aej l _,fun _=>⟨List.Pairwise.nil,fun _ hm=>(nomatch hm)⟩⟩,h2,h3,h4⟩
 ·exact ⟨#[],hB P (cJ.mpr ⟨(c,P),iG.mpr ⟨nm,hn,e⟩,rfl⟩),trivial,fun pos cv z=>by cases z⟩
end Att
namespace MR
open PySem PyProof.Rows L2
noncomputable def g0(us ws:List aH):List aH:=match us with | []=>ws | _=>[]
section
variable {X:Cx}{k:Nat}{f:Addr}{fd:eT}{p:Str}{ps:List Str}{x:Str}{pp pos kpos:Pos}{e:Expr}{kws:List kD}{nm:Option Str}
theorem PK.imp{t t':TA}(h:PK X kws t)(hi:∀ σ H Q,t' σ H Q->t σ H Q):PK X kws t':=fun pos pins s σ H Q I q=>h pos pins s σ H Q I Zdh
end
end MR
namespace MR
open PySem PySem.Spec PyProof.Rows PySem.Calls L2
theorem Acf{ns:List Int}:∀ {us:List aH},Vals ZG us->∀ (i:Nat) (v:aH),us[i]? = ξ v->∃ n t,ns[i]? = ξ n/\v = .int n t:=by
 induction ns with
 | nil=>intro us r i v e;rw[bP] at r;cases r;simp at e
 | cons n ns ih=>
  intro us r i v e;rw[aS] at r;cases r with
  | cons r1 r2=>
   cases i with
   | zero=>
    simp at e;subst e;obtain ⟨t,rfl⟩:=r1;exact ⟨n,t,rfl,rfl⟩
   | succ i=>simpa using ih r2 i v (by simpa using e)
theorem Akg(ns:List Int):((bB ns.length).any fun i=>!((ns[i]?).getD 0 == 0))=ns.any fun n=>!(n == 0):=by
 rw[kE,lQ,lQ];constructor
 ·rintro ⟨i,hi,h⟩;have hi':=bE.mp hi;simp only[aE hi',gG] at h;exact ⟨_,cW hi',h⟩
 ·rintro ⟨n,hn,h⟩;obtain ⟨i,hi,e⟩:=dS hn;refine ⟨i,bE.mpr hi,?_⟩;simp only[aE hi,gG,e];exact h
section
variable {X:Cx}
theorem Adu(hc:X.calm=true):CallR X (.builtin "any") (fun xs H Q=>∃ (p:Addr) (ns:List Int),xs=[.ref p]/\SqL X.K H p ZG/\Q (.bl ZdK) H):=by
 intro pins s σ H xs us Q I r h;obtain ⟨p,ns,rfl,hq,q⟩:=h;obtain ⟨u,rfl,rx⟩:=Er r;cases rx;obtain ⟨its,r',pl,hz⟩:=I.list hq;have hl:=pl.isList;have hlt:p < s.heap.objs.size:=by obtain ⟨_,e,_⟩:=hl;exact bD e
 refine call_any_walk (kO hl ?_);refine ⟨s.heap.objs.size,[s.heap.objs.size,p],[s.heap.objs.size],its.toArray.size,_,_,fun i=>!((ns[i]?).getD 0 == 0),rfl,qB (A:=lP _) Zae _ p (cB hlt) its.toArray,
  ⟨⟨_,aZ _ rfl,rfl,rfl⟩,hl.push _⟩,fun i v s' Q' E' hP hQ=>?_,fun h' tk hk=>?_⟩
 ·obtain ⟨n,t,e,rfl⟩:=Acf r' i v (by simpa using hP);simp only[e,gG] at hQ
  first
   | exact pE hQ
   | exact pE (by simpa[bne] using hQ)
 ·have hlen:its.length=ns.length:=by have:=r'.length;rw[aN] at this;exact this.symm
  have e:((bB its.toArray.size).any fun i=>!((ns[i]?).getD 0 == 0))=ns.any fun n=>!(n == 0):=by
   rw[aU,hlen];exact Akg ns
  rw[e];exact ⟨.bl _,H,I.kept (Abp hk),rfl,q⟩
end
def Rh:SC:=fun us L=>match us with
 | [.ref n]=>(Ap L n).bind fun l=>(mapO toI l).map fun ns=>(.bl ZdK,L)
 | _=>ψ
theorem Akm{K:aL}:Ol K (fun xs H Q=>∃ (p:Addr) (ns:List Int),xs=[.ref p]/\SqL K H p ZG/\Q (.bl ZdK) H) Rh:=by
 intro H α L us xs z L' Q A r e q;unfold Rh at e;split at e
 ·obtain ⟨l,hl,e⟩:=aB.mp e;obtain ⟨ns,hns,e⟩:=aJ.mp e;cases e;obtain ⟨x,rfl,rx⟩:=r.one;obtain ⟨a,ys,rfl,sq,r2⟩:=Ey A hl rx;rw[Ei r2 hns] at sq;exact ⟨a,ns,rfl,sq,q _ H α (.refl _ _) A rfl⟩
 ·cases e
noncomputable def M9(lo:Int)(n:Nat):List V:=(bB n).map fun i=>V.int (lo+(i:Nat))
theorem Vf{lo:Int}{n:Nat}{acc:Array aH}(h:rN (fun i v=>∃ t,v=nA (lo+(i:Nat) * 1) t) acc n):Vals (M9 lo n) acc.toList:=by
 obtain ⟨h1,h2⟩:=h;have key:∀ (k:Nat) (l:List aH) (m:Nat),l.length=k->(∀ i v,l[i]? = ξ v->∃ t,v=nA (lo+((m+i:Nat):Int)) t)->Vals ((xU m k).map fun i=>V.int (lo+((i:Nat):Int))) l:=by
  intro k;induction k with
  | zero=>intro l m hl _;cases l with | nil=>exact .nil | cons _ _=>simp at hl
  | succ k ih=>
   intro l m hl hv;cases l with
   | nil=>simp at hl
   | cons v l=>
    rw[List.range'_succ,aS];obtain ⟨t,ht⟩:=hv 0 v rfl;refine .cons ⟨t,by rw[ht];rfl⟩ (ih l (m+1) (by simpa using hl) fun i w hw=>?_);obtain ⟨t',ht'⟩:=hv (i+1) w (by simpa using hw);refine ⟨t',?_⟩;rw[ht'];have:m+(i+1)=m+1+i:=Ze
    rw[this]
 have:=key n acc.toList 0 (by simpa using h1) (fun i v hv=>by
  obtain ⟨t,ht⟩:=h2 i v (by simpa using hv);refine ⟨t,?_⟩;rw[ht,vC,qC])
 unfold M9;rw[List.range_eq_range'];exact this
section
variable {X:Cx}
theorem Afs{pins:List (Addr×Obj)}{σ:L2.St}{H:Hp}{s:aR}{Q:VK}{lo hi:Int}{t u v:Tok}{tk:Nat}(hc:X.calm=true)(I:L2.Inv X pins σ H s)(h1:-(2 ^ 62)<=lo)(h2:lo < 2 ^ 62)(h3:-(2 ^ 62)<=hi)(h4:hi < 2 ^ 62)(hn:(hi - lo).toNat<=1000000)
  (q:∀ l,H l=ψ->Q (.ref l) (upd H l ZcS)) :
  wpAny Zg X.A (call (.type "list") [.ref s.heap.objs.size]) Z2 X.xe { s with heap:=s.heap.push { cls:=.type "range",data:=.fields #[.int lo t,.int hi u,.int 1 v] },toks:=tk }:=by
 have I1:L2.Inv X pins σ H { s with heap:=s.heap.push { cls:=.type "range",data:=.fields #[.int lo t,.int hi u,.int 1 v] },toks:=tk }:=I.kept fun b o e=>aG _ e
 refine call_list_range (n:=(hi - lo).toNat) Zae (vD ..) (small_one h1 h2 h3 h4) (by rw[rV];split <;> omega) Ze fun h' tk' acc c' hk hS hacc=>?_
 have hz2:(s.heap.push { cls:=.type "range",data:=.fields #[.int lo t,.int hi u,.int 1 v] }).objs.size=s.heap.objs.size+1:=eF ..;have hv:=Vf hacc;have kp:∀ b o,(s.heap.push { cls:=.type "range",data:=.fields #[.int lo t,.int hi u,.int 1 v] }).get? b=ξ o->h'.get? b=ξ o:=hk;have hlen:(M9 lo (hi - lo).toNat).length<=sizeLine:=by
  unfold M9 sizeLine;rw[aN,dX];omega
 have new:ObjOk X.prog X.w (upd H (s.heap.push { cls:=.type "range",data:=.fields #[.int lo t,.int hi u,.int 1 v] }).objs.size ZcS) h' (s.heap.push { cls:=.type "range",data:=.fields #[.int lo t,.int hi u,.int 1 v] }).objs.size ZcS:=
  ⟨hlen,acc.toList,c',hv,by simpa using hS⟩
 exact ⟨.ref (s.heap.push { cls:=.type "range",data:=.fields #[.int lo t,.int hi u,.int 1 v] }).objs.size,_,I1.laid (t':=tk') kp (aP _) new,rfl,q _ ZaA⟩
end
theorem Vx{K:aL}{H:Hp}{α:List Addr}(lo:Int)(n:Nat):RepL K H α (Bh lo n) (M9 lo n):=by
 unfold Bh M9;generalize bB n=ks;induction ks with
 | nil=>exact .nil
 | cons k ks ih=>exact .cons (by unfold RepU;rfl) ih
end MR
namespace MR
open PySem PyProof.Rows L2
variable {K:aL}{H:Hp}{α:List Addr}
theorem RepL.init:∀ {us:List U} {xs:List V},RepL K H α us xs->RepL K H α us.dropLast xs.dropLast
 | [],xs,r=>by unfold RepL at r;subst r;exact .nil
 | [u],xs,r=>by
  unfold RepL at r;obtain ⟨x,xr,rfl,rx,r⟩:=r;unfold RepL at r;subst r;exact .nil
 | u::w::us,xs,r=>by
  unfold RepL at r;obtain ⟨x,xr,rfl,rx,r⟩:=r;have r':=r;unfold RepL at r';obtain ⟨y,yr,rfl,ry,_⟩:=r';exact .cons rx (RepL.init r)
def toK:U->Option Key
 | .int i=>ξ (.inl i)
 | .str x=>ξ (.inr x)
 | _=>ψ
variable {u:U}{x:V}{k:Key}
theorem Ag9(r:RepU K H α u x)(h:toK u=ξ k):x=kV k:=by
 cases u <;> simp only[toK] at h <;> first | (cases h;unfold RepU at r;exact r) | cases h
def Ji(kvs:List (Key×U))(k:Key):Option U:=(kvs.find? fun kv=>decide (kv.1=k)).map (·.2)
def Ui(kvs:List (Key×U))(k:Key)(v:U):List (Key×U):=
 if Zcw=true then kvs.map ZbM else kvs++[(k,v)]
variable {kvs:List (Key×U)}{vs:List (Key×V)}
section
def RepKV(K:aL)(H:Hp)(α:List Addr)(kvs:List (Key×U))(vs:List (Key×V)):Prop:=kvs.map (·.1)=vs.map (·.1)/\RepL K H α (kvs.map (·.2)) (vs.map (·.2))
theorem RepKV.nil:RepKV K H α [] []:=⟨rfl,.nil⟩
theorem RepKV.cons{kv:Key×U}(h:RepKV K H α (kv::kvs) vs):∃ x vs',vs=(kv.1,x)::vs'/\RepU K H α kv.2 x/\RepKV K H α kvs vs':=by
 obtain ⟨h1,h2⟩:=h;cases vs with
 | nil=>simp at h1
 | cons w vs'=>
  simp only[aS,mR] at h1;rw[aS,aS] at h2;unfold RepL at h2;obtain ⟨x,xr,hx,rx,r⟩:=h2;injection hx with e1 e2
  subst e1;refine ⟨w.2,vs',by rw[h1.1],rx,h1.2,?_⟩;rw[e2];exact r
theorem RepKV.mk(r:RepU K H α u x)(h:RepKV K H α kvs vs):RepKV K H α ((k,u)::kvs) ((k,x)::vs):=
 ⟨by simp[h.1],by rw[aS,aS];exact .cons r h.2⟩
theorem RepKV.val:∀ {kvs:List (Key×U)} {vs:List (Key×V)},RepKV K H α kvs vs->Ji kvs k=ξ u->∃ x,Nc vs k=ξ x/\RepU K H α u x
 | [],vs,_,e=>by simp[Ji] at e
 | kv::kvs,vs,r,e=>by
  obtain ⟨x,vs',rfl,rx,r'⟩:=r.cons;unfold Ji at e;unfold Nc;rw[dM] at e ⊢;by_cases h:kv.1=k
  ·simp only[h,decide_true,aF] at e ⊢;cases e;exact ⟨x,rfl,rx⟩
  ·simp only[h,decide_false] at e ⊢;exact RepKV.val r' e
theorem RepKV.any:∀ {kvs:List (Key×U)} {vs:List (Key×V)},RepKV K H α kvs vs->(kvs.any fun kv=>decide (kv.1=k))=(vs.any fun kv=>decide (kv.1=k))
 | [],vs,r=>by
  obtain ⟨h1,_⟩:=r;cases vs with
  | nil=>rfl
  | cons _ _=>simp at h1
 | kv::kvs,vs,r=>by
  obtain ⟨x,vs',rfl,rx,r'⟩:=r.cons;rw[iD,iD,RepKV.any r']
theorem RepKV.len(r:RepKV K H α kvs vs):kvs.length=vs.length:=by
 have:=congrArg oD r.1;simpa using this
theorem RepKV.upd(ru:RepU K H α u x):∀ {kvs:List (Key×U)} {vs:List (Key×V)},RepKV K H α kvs vs->RepKV K H α (kvs.map fun kv=>if kv.1=k then (kv.1,u) else kv) (vs.map fun kv=>if kv.1=k then (kv.1,x) else kv)
 | [],vs,r=>by
  obtain ⟨h1,_⟩:=r;cases vs with
  | nil=>exact .nil
  | cons _ _=>simp at h1
 | kv::kvs,vs,r=>by
  obtain ⟨y,vs',rfl,ry,r'⟩:=r.cons;rw[aS,aS];by_cases h:kv.1=k
  ·rw[if_pos h,if_pos h];exact .mk ru (RepKV.upd ru r')
  ·rw[if_neg h,if_neg h];exact .mk ry (RepKV.upd ru r')
theorem RepKV.add(ru:RepU K H α u x):∀ {kvs:List (Key×U)} {vs:List (Key×V)},RepKV K H α kvs vs->RepKV K H α (kvs++[(k,u)]) (vs++[(k,x)])
 | [],vs,r=>by
  obtain ⟨h1,_⟩:=r;cases vs with
  | nil=>exact .mk ru .nil
  | cons _ _=>simp at h1
 | kv::kvs,vs,r=>by
  obtain ⟨y,vs',rfl,ry,r'⟩:=r.cons;exact .mk ry (RepKV.add ru r')
theorem RepKV.put(ru:RepU K H α u x)(r:RepKV K H α kvs vs):RepKV K H α (Ui kvs k u) (Ov vs k x):=by
 unfold Ui Ov;rw[r.any];split
 ·exact r.upd ru
 ·exact r.add ru
theorem RepKV.mono{H':Hp}{α':List Addr}(r:RepKV K H α kvs vs)(g:Gr H α H' α'):RepKV K H' α' kvs vs:=⟨r.1,r.2.mono g⟩
end
def Ir(L:UH)(n:Nat):Option (List (Key×U)):=match L[n]? with
 | some (.dic kvs)=>ξ kvs
 | _=>ψ
variable {L:UH}{n:Nat}
theorem Rj(h:Ir L n=ξ kvs):L[n]? = ξ (.dic kvs):=by
 unfold Ir at h;split at h
 ·rename_i e;cases h;exact e
 ·cases h
theorem Wi(A:Abs K H α L)(h:Ir L n=ξ kvs)(r:RepU K H α (.ref n) x):∃ a vs,x = .ref a/\α[n]? = ξ a/\H a=ξ (.dK vs)/\RepKV K H α kvs vs:=by
 unfold RepU at r;obtain ⟨a,ea,rfl⟩:=r;obtain ⟨vs,e,k1,k2⟩:=A.rep n a _ ea (Rj h);exact ⟨a,vs,rfl,ea,e,k1,k2⟩
theorem Abs.setD{a:Addr}{ws:List (Key×V)}{kws:List (Key×U)}(A:Abs K H α L)(h:Ir L n=ξ kvs)(ea:α[n]? = ξ a)(e:H a=ξ (.dK vs))(r:RepKV K H α kws ws) :
  Gr H α (upd H a (.dK ws)) α/\Abs K (upd H a (.dK ws)) α (L.set n (.dic kws)):=by
 have g:Gr H α (upd H a (.dK ws)) α:=⟨⟨[],Za⟩,.write e (by exact trivial) _⟩;obtain ⟨A',_⟩:=A.put (o:=.dK ws) (u:=.dic kws) ea (Rj h) rfl rfl e (by exact trivial) ⟨ws,upd_same,(r.mono g).1,(r.mono g).2⟩;exact ⟨g,A'⟩
section
variable {X:Cx}{o i value:Expr}{pos pos':Pos}{fo fi fv:FE}
def W5:FE:=fun _ L=>ξ (.ref L.length,L++[.dic []])
theorem Acu:PEF X (.Dict [] [] pos) W5:=by
 refine PE.imp Ags ?_;rintro σ H Q ⟨α,δ,L,A,S,z,L3,e,q⟩;cases e;intro p hp;have g:Gr H α (upd H p (.dK [])) (α ++ [p]):=⟨⟨[p],rfl⟩,.new hp _⟩;obtain ⟨A',_⟩:=A.new (o:=.dK []) (u:=.dic []) hp ⟨[],upd_same,rfl,.nil⟩;refine q _ _ _ g A' ?_;unfold RepU;exact ⟨p,by rw[<- A.len];simp,rfl⟩
def Xg(fo fi:FE):FE:=fun δ L=>(fo δ L).bind fun p=>(fi δ p.2).bind fun q=>match p.1 with
 | .ref n=>(toK q.1).bind fun k=>(Ir q.2 n).bind fun kvs=>(Ji kvs k).map fun u=>(u,q.2)
 | _=>ψ
theorem Acn(hu:X.A.units+64 < cLine)(ho:PEF X o fo)(hi:PEF X i fi)(hs:Ao5 i):PEF X Zbw (Xg fo fi):=by
 refine PE.imp (Ajg Ze ho hi hs) ?_;rintro σ H Q ⟨α,δ,L,A,S,z,L3,e,q⟩;obtain ⟨⟨u,L1⟩,e1,e⟩:=aB.mp e;obtain ⟨⟨w,L2⟩,e2,e⟩:=aB.mp e;refine ⟨α,δ,L,A,S,u,L1,e1,fun x H1 α1 g1 A1 r1=>⟨α1,δ,L1,A1,S.mono g1,w,L2,e2,fun y H2 α2 g2 A2 r2=>?_⟩⟩;simp only at e;split at e
 ·obtain ⟨k,hk,e⟩:=aB.mp e;obtain ⟨kvs,hd,e⟩:=aB.mp e;obtain ⟨v,hv,e⟩:=aJ.mp e;cases e;obtain ⟨a,vs,rfl,ea,ha,rk⟩:=Wi A2 hd (r1.mono g2);obtain ⟨x',hx',rx'⟩:=rk.val hv;refine ⟨a,x',rfl,?_,q _ _ _ Zak A2 rx'⟩;rw[Ag9 r2 hk,<- hx'];exact DGet.k ha
 ·cases e
def Yt(fo fi fv:FE):FS:=fun δ L=>(fv δ L).bind fun p=>(fo δ p.2).bind fun q=>(fi δ q.2).bind fun r=>match q.1 with
 | .ref n=>(toK r.1).bind fun k=>(Ir r.2 n).bind fun kvs=>if kvs.length < 1000000 then ξ (.nx δ,r.2.set n (.dic (Ui kvs k p.1))) else ψ
 | _=>ψ
theorem Yk(hu:X.A.units+64 < cLine)(ho:PEF X o fo)(hi:PEF X i fi)(hv:PEF X value fv)(hs:swapsWith value (ξ (.Subscript o i pos')) pos.line X.env=pure false:=by rfl):PSF X (.Assign [.Subscript o i pos'] value pos) (Yt fo fi fv):=by
 refine PS.imp (Ajw Ze ho hi hv hs) ?_;rintro D σ H ⟨α,δ,L,A,S,fl,L',e,q⟩;obtain ⟨⟨v,L1⟩,e1,e⟩:=aB.mp e;obtain ⟨⟨u,L2⟩,e2,e⟩:=aB.mp e;obtain ⟨⟨w,L3⟩,e3,e⟩:=aB.mp e;refine ⟨α,δ,L,A,S,v,L1,e1,fun xv H1 α1 g1 A1 rv=>⟨α1,δ,L1,A1,S.mono g1,u,L2,e2,fun x H2 α2 g2 A2 rx=>⟨α2,δ,L2,A2,(S.mono g1).mono g2,w,L3,e3,fun y H3 α3 g3 A3 ry=>?_⟩⟩⟩;simp only at e;split at e
 ·obtain ⟨k,hk,e⟩:=aB.mp e;obtain ⟨kvs,hd,e⟩:=aB.mp e;split at e
  ·rename_i hl;cases e;obtain ⟨a,vs,rfl,ea,ha,rk⟩:=Wi A3 hd (rx.mono g3);have rv':=rv.mono (g2.trans g3);obtain ⟨g4,A4⟩:=A3.setD hd ea ha (rk.put (k:=k) rv');refine ⟨a,_,rfl,?_,q σ _ α3 ((g1.trans (g2.trans g3)).trans g4) A4 ((((S.mono g1).mono g2).mono g3).mono g4)⟩;rw[Ag9 ry hk];exact DPut.k ha (by rw[<- rk.len];unfold sizeLine;omega)
  ·cases e
 ·cases e
end
theorem At8{β:Type}{P:List β->Prop}(h:P [])(us:List β)(hl:us.length=0):P us:=by
 cases us with
 | nil=>exact h
 | cons=>cases hl
theorem Apn{β:Type}{P:List β->Prop}(h:∀ (a:β) (us:List β),us.length=n->P (a::us))(us:List β)(hl:us.length=n+1):P us:=by
 cases us with
 | nil=>cases hl
 | cons a us=>exact h a us (Nat.succ.inj hl)
theorem Ap9{β:Type}{P:List β->Prop}(h:∀ a,P [a]):∀ us:List β,us.length=1->P us:=Apn fun a=>At8 (h a)
theorem An7{β:Type}{P:List β->Prop}(h:∀ a b,P [a,b]):∀ us:List β,us.length=2->P us:=Apn fun a=>Ap9 (h a)
theorem As4{β:Type}{P:List β->Prop}(h:∀ a b c,P [a,b,c]):∀ us:List β,us.length=3->P us:=Apn fun a=>An7 (h a)
section
variable {X:Cx}{elts:List Expr}{x1:Nat}{tpos:Pos}
def P9(g:FA):FI:=fun δ L=>(g δ L).bind fun p=>match p.1 with
 | [.tup us,.tup ws]=>ξ (.seq (Kw us ws),p.2)
 | _=>ψ
theorem Xy{a b:Expr}{g:FA}{p pos:Pos}(hg:Gl X "zip")(hm:X.mg "zip" = ψ)(ha:PAF X [a,b] g)(hs:bK [a,b] X.env=ZO::bK [b] X.env:=by rfl)(hpl:(backTo pos (bK [b] X.env)).any (·.1)=false:=by rfl):PIF X Zbm (.Call (.Name "zip" p) [a,b] [] pos) (P9 g):=by
 refine PI.imp (Al6 hg hm ha hs hpl) ?_;rintro σ H R ⟨α,δ,L,A,S,i,L3,e,q⟩;obtain ⟨⟨us,L1⟩,e1,ee⟩:=aB.mp e;simp only at ee;split at ee
 ·cases ee;refine ⟨α,δ,L,A,S,_,_,e1,fun xs H1 α1 g1 A1 r1=>?_⟩;obtain ⟨x,y,rfl,rx,ry⟩:=r1.two;unfold RepU at rx ry;obtain ⟨a',ys,rfl,sq,r2⟩:=rx;obtain ⟨b',ys',rfl,sq',r2'⟩:=ry;exact ⟨a',b',ys,ys',rfl,sq,sq',q _ H1 α1 g1 A1 (Af9 sq sq' r2 r2')⟩
 ·cases ee
end
end MR
namespace MR
open PySem L2
@[simp] theorem fVar_eq(i:Nat)(δ:UE)(L:UH):Ad i δ L=(δ[i]?).join.map fun u=>(u,L):=rfl
@[simp] theorem fC_eq(u:U)(δ:UE)(L:UH):fC u δ L=ξ (u,L):=rfl
@[simp] theorem f2_eq(s:S2)(a b:FE)(δ:UE)(L:UH):f2 s a b δ L=(a δ L).bind fun p=>(b δ p.2).bind fun q=>s p.1 q.1 q.2:=rfl
@[simp] theorem fTest_eq(f:FE)(δ:UE)(L:UH):Bp f δ L=(f δ L).bind fun p=>match p.1 with | .bl k=>ξ (k,p.2) | _=>ψ:=rfl
@[simp] theorem Alp(f g:FT)(δ:UE)(L:UH):Ads f g δ L=(f δ L).bind fun p=>if p.1=true then g δ p.2 else ξ (false,p.2):=rfl
@[simp] theorem Apt(f g:FT)(δ:UE)(L:UH):fOr f g δ L=(f δ L).bind fun p=>if p.1=true then ξ (true,p.2) else g δ p.2:=rfl
@[simp] theorem Qz(f:FT)(δ:UE)(L:UH):Ph f δ L=(f δ L).map fun p=>(!p.1,p.2):=rfl
@[simp] theorem Tw(f g:FE)(δ:UE)(L:UH):Acx f g δ L=(f δ L).bind fun p=>match p.1 with | .bl k=>if k=true then g δ p.2 else ξ (.bl false,p.2) | _=>ψ:=rfl
@[simp] theorem Atq(f g:FE)(δ:UE)(L:UH):Atx f g δ L=(f δ L).bind fun p=>match p.1 with | .bl k=>if k=true then ξ (.bl true,p.2) else g δ p.2 | _=>ψ:=rfl
@[simp] theorem Ar7(f:FE)(δ:UE)(L:UH):Arx f δ L=(f δ L).bind fun p=>match p.1 with | .bl k=>ξ (.bl (!k),p.2) | _=>ψ:=rfl
@[simp] theorem Apd(c:FT)(f g:FE)(δ:UE)(L:UH):fIf c f g δ L=(c δ L).bind fun p=>if p.1=true then f δ p.2 else g δ p.2:=rfl
@[simp] theorem fNil_eq(δ:UE)(L:UH):Af δ L=ξ ([],L):=rfl
@[simp] theorem fCons_eq(f:FE)(g:FA)(δ:UE)(L:UH):Ac f g δ L=(f δ L).bind fun p=>(g δ p.2).map fun q=>(p.1::q.1,q.2):=rfl
@[simp] theorem fTup_eq(g:FA)(δ:UE)(L:UH):C0 g δ L=(g δ L).bind fun p=>if small p.1.length=true then ξ (.tup p.1,p.2) else ψ:=rfl
@[simp] theorem fLst_eq(g:FA)(δ:UE)(L:UH):El g δ L=(g δ L).bind fun p=>if small p.1.length=true then ξ (.ref p.2.length,p.2++[.lst p.1]) else ψ:=rfl
@[simp] theorem fCall_eq(s:SC)(g:FA)(δ:UE)(L:UH):Au s g δ L=(g δ L).bind fun p=>s p.1 p.2:=rfl
@[simp] theorem fOwn_eq(n:Nat)(F:FN)(g:FA)(δ:UE)(L:UH):Ay n F g δ L=(g δ L).bind fun p=>if p.1.length=n then F p.1 p.2 else ψ:=rfl
@[simp] theorem fMeth_eq(T:String)(s:SM)(f:FE)(g:FA)(δ:UE)(L:UH):Ht T s f g δ L=(f δ L).bind fun p=>if tyU T p.1 p.2=true then (g δ p.2).bind fun q=>s p.1 q.1 q.2 else ψ:=rfl
@[simp] theorem Yz(f:FE)(δ:UE)(L:UH):Gs f δ L=(f δ L).bind fun p=>match p.1 with | .int i=>ξ (ξ i,p.2) | _=>ψ:=rfl
@[simp] theorem fNoPart_eq(δ:UE)(L:UH):Md δ L=ξ (ψ,L):=rfl
@[simp] theorem fSl_eq(s:SS)(f:FE)(l h:FO)(δ:UE)(L:UH):fSl s f l h δ L=(f δ L).bind fun p=>(l δ p.2).bind fun q=>(h δ q.2).bind fun r=>s p.1 q.1 r.1 r.2:=rfl
@[simp] theorem V6(f:FE)(δ:UE)(L:UH):Ip f δ L=(f δ L).bind fun p=>match p.1 with | .int i=>ξ (.int (-i),p.2) | _=>ψ:=rfl
@[simp] theorem fTru_eq(f:FE)(δ:UE)(L:UH):Js f δ L=(f δ L).bind fun p=>(Uo p.1 p.2).map fun k=>(k,p.2):=rfl
@[simp] theorem Ato(c:String)(f:FE)(δ:UE)(L:UH):Au9 c f δ L=(f δ L).bind fun p=>(Aho p.1 p.2).map fun t=>(.bl (isT t c),p.2):=rfl
@[simp] theorem Sb(δ:UE)(L:UH):Cf δ L=ξ (.nx δ,L):=rfl
@[simp] theorem fSeq_eq(f g:FS)(δ:UE)(L:UH):Bb f g δ L=(f δ L).bind fun p=>match p.1 with | .nx δ'=>g δ' p.2 | fl=>ξ (fl,p.2):=rfl
@[simp] theorem fRet_eq(f:FE)(δ:UE)(L:UH):Bx f δ L=(f δ L).map fun p=>(.rt p.1,p.2):=rfl
@[simp] theorem Hc(f:FE)(δ:UE)(L:UH):Ka f δ L=(f δ L).map fun p=>(.nx δ,p.2):=rfl
@[simp] theorem Asa(δ:UE)(L:UH):Ase δ L=ξ (.rt .non,L):=rfl
@[simp] theorem Dz(c:FT)(f g:FS)(δ:UE)(L:UH):Ek c f g δ L=(c δ L).bind fun p=>if p.1=true then f δ p.2 else g δ p.2:=rfl
@[simp] theorem gN_eq(i:Nat)(u:U)(δ:UE)(L:UH):gN i u δ L=ξ (δ.set i (ξ u),L):=rfl
@[simp] theorem gNil_eq(δ:UE)(L:UH):MR.gNil [] δ L=ξ (δ,L):=rfl
@[simp] theorem Ain(f:FG)(g:FGs)(u:U)(r:List U)(δ:UE)(L:UH):MR.gCons f g (u::r) δ L=(f u δ L).bind fun p=>g r p.1 p.2:=rfl
@[simp] theorem Alo(n:Nat)(g:FGs)(us:List U)(δ:UE)(L:UH):MR.gTup n g (.tup us) δ L=if us.length=n then g us δ L else ψ:=rfl
@[simp] theorem Abt(a b:FE)(v:U)(δ:UE)(L:UH):MR.gSub a b v δ L=(a δ L).bind fun p=>(b δ p.2).bind fun q=>match p.1,q.1 with
 | .ref n,.int k=>(Gq q.2 n).bind fun l=>(ixN l.length k).map fun j=>(δ,q.2.set n (.lst (l.set j v)))
 | _,_=>ψ:=rfl
@[simp] theorem fAsg_eq(f:FE)(g:FG)(δ:UE)(L:UH):Ba f g δ L=(f δ L).bind fun p=>(g p.1 δ p.2).map fun q=>(.nx q.1,q.2):=rfl
@[simp] theorem V4(fi:FI)(g:FG)(b:FS)(δ:UE)(L:UH):Jo fi g b δ L=(fi δ L).bind fun p=>Kc p.1 g b (p.1.size p.2+1) 0 δ p.2:=rfl
@[simp] theorem F8(f:FE)(δ:UE)(L:UH):Bj f δ L=(f δ L).bind fun p=>(Il p.1 p.2).map fun i=>(i,p.2):=rfl
@[simp] theorem Ahc(g:FA)(δ:UE)(L:UH):Jd g δ L=(g δ L).bind fun p=>match p.1 with
 | [.int j]=>if -(2 ^ 62)<=j/\j < 2 ^ 62 then ξ (.seq (Bh 0 j.toNat),p.2) else ψ
 | _=>ψ:=rfl
@[simp] theorem semAdd_int(i j:Int)(L:UH):Be (.int i) (.int j) L=ξ (.int (i+j),L):=rfl
@[simp] theorem semSub_int(i j:Int)(L:UH):Bq (.int i) (.int j) L=ξ (.int (i - j),L):=rfl
@[simp] theorem semMul_int(i j:Int)(L:UH):Df (.int i) (.int j) L=if Hq i j=true then ξ (.int (i * j),L) else ψ:=rfl
@[simp] theorem semDiv_int(i j:Int)(L:UH):Fy (.int i) (.int j) L=if Kl i j=true then ξ (.int (i / j),L) else ψ:=rfl
@[simp] theorem semMod_int(i j:Int)(L:UH):Gb (.int i) (.int j) L=if decide (0 < j)=true then ξ (.int (i % j),L) else ψ:=rfl
@[simp] theorem Apl(i j:Int)(L:UH):Gd (.int i) (.int j) L=if Tu i j=true then ξ (.int (i ^ j.toNat),L) else ψ:=rfl
@[simp] theorem Aqe(i j:Int)(L:UH):Aig (.int i) (.int j) L=ξ (.bl (decide (i<=j)),L):=rfl
@[simp] theorem semLt_int(i j:Int)(L:UH):P8 (.int i) (.int j) L=ξ (.bl (decide (i < j)),L):=rfl
@[simp] theorem Mb(i j:Int)(L:UH):Dq (.int i) (.int j) L=ξ (.bl (decide (j < i)),L):=rfl
@[simp] theorem Aqd(i j:Int)(L:UH):Asn (.int i) (.int j) L=ξ (.bl (decide (j<=i)),L):=rfl
@[simp] theorem semEq_int(i j:Int)(L:UH):Eu (.int i) (.int j) L=ξ (.bl (i == j),L):=rfl
@[simp] theorem Afb(i j:Int)(L:UH):Fw (.int i) (.int j) L=ξ (.bl (!(i == j)),L):=rfl
@[simp] theorem Asf(i j:Bool)(L:UH):Eu (.bl i) (.bl j) L=ξ (.bl (i == j),L):=rfl
@[simp] theorem Aqp(i j:Bool)(L:UH):Fw (.bl i) (.bl j) L=ξ (.bl (!(i == j)),L):=rfl
@[simp] theorem As6(i j:Bool)(L:UH):Atl false (.bl i) (.bl j) L=ξ (.bl (i == j),L):=rfl
@[simp] theorem Pc(l:List U)(i:Int)(L:UH):Am (.tup l) (.int i) L=(L2.atI l i).map fun z=>(z,L):=rfl
@[simp] theorem semIx_ref(n:Nat)(i:Int)(L:UH):Am (.ref n) (.int i) L=(Ap L n).bind fun l=>(L2.atI l i).map fun z=>(z,L):=rfl
@[simp] theorem Wu(b:Bool)(L:UH):Uo (.bl b) L=ξ b:=rfl
variable {n:Nat}
theorem Aj{L:UH}{us:List U}(h:L[n]? = ξ (.lst us)):Ap L n=ξ us:=by unfold Ap;rw[h]
theorem Dh{L:UH}{us:List U}(h:L[n]? = ξ (.lst us)):Gq L n=ξ us:=by unfold Gq;rw[h]
theorem small_of(h:n<=16777216):small n=true:=by unfold small sizeLine;exact decide_eq_true Ze
variable {i:Int}
theorem Kv{β:Type}{l:List β}(h0:0<=i)(h:i < l.length):L2.atI l i=l[i.toNat]?:=by
 unfold L2.atI ixN;rw[if_pos h0,if_pos h];rfl
theorem Ait(h0:0<=i)(h:i < n):ixN n i=ξ i.toNat:=by
 unfold ixN;rw[if_pos h0,if_pos h]
variable {j:Int}
theorem Ny(h1:-1000000000000000000<=i)(h2:i<=1000000000000000000):Hq i j=true:=by
 unfold Hq;simp only[mL,bZ,decide_eq_true_eq];left;constructor <;> omega
theorem Abm(h1:-1000000000000000000<=j)(h2:j<=1000000000000000000):Hq i j=true:=by
 unfold Hq;simp only[mL,bZ,decide_eq_true_eq];right;constructor <;> omega
theorem Kj(h1:0 < j)(h2:j < 1152921504606846976):Kl i j=true:=by
 unfold Kl;simp only[bZ,decide_eq_true_eq];exact ⟨h1,h2⟩
end MR
namespace Lw
open PySem L2 MR
def Yw:FS:=(Bx (El (Ac (fSl semSl (Ad 0) Md (Gs (fC (.int 63)))) (Ac Zn (Ac Zn (Ac Zn (Ac (Au semSum (Ac (fSl semSl (Ad 0) Md (Gs (fC (.int 63)))) Af)) Af)))))))
def Km:FN:=fnU 1 1 Yw
def Abj:FS:=(Bb (Ba (f2 Be (f2 Gb (Ad 0) (fC (.int 2147483629))) (f2 Df (f2 Df (fC (.int 1000003)) (Ad 1)) (Ad 1))) (gN 2)) (Bb (Ba (f2 Gb (f2 Be (Ad 2) (f2 Df (fC (.int 7919)) (Ad 1))) (fC (.int 2147483629))) (gN 2)) (Bb (Ba (f2 Gb (f2 Df (Ad 2) (Ad 2)) (fC (.int 2147483587))) (gN 2)) (Bx (f2 Fy (f2 Gb (f2 Df (Ad 2) (f2 Be (Ad 2) (fC (.int 40961)))) (fC (.int 2147483563))) (fC (.int 4)))))))
def Om:FN:=fnU 3 2 Abj
def Ks:FS:=(Bb (Ek (Ads (Bp (f2 Eu ZcB Zn)) (Bp (f2 P8 Zb6 (Au Bg (Ac ZcN Af))))) (Bb (Ba (f2 Am ZcN Zb6) (gN 2)) (Bb (Ba (f2 Be Zb6 Zh) (MR.gSub (Ad 0) Zh)) (Bb (Ek (Bp (f2 P8 (Ad 2) (f2 Gd (fC (.int 10)) (fC (.int 18))))) (Bx (f2 Gb (Ay 2 Om (Ac (Ad 2) (Ac Zb6 Af))) (Ad 1))) Cf) (Ba (Ad 2) (MR.gSub (Ad 0) ZaK))))) Cf) (Bb (Ek (Bp (f2 Dq ZcB Zn)) (Bb (Ba (f2 Gb ZcB (Ad 1)) (gN 3)) (Bb (Ba (f2 Fy ZcB (Ad 1)) (MR.gSub (Ad 0) ZaK)) (Bx (Ad 3)))) Cf) (Bb (Ba (f2 Be (f2 Am (Ad 0) (fC (.int 3))) Zh) (MR.gSub (Ad 0) (fC (.int 3)))) (Bx (f2 Gb (Ay 2 Om (Ac (f2 Am (Ad 0) (fC (.int 4))) (Ac (f2 Be (f2 Am (Ad 0) (fC (.int 3))) (fC (.int 683))) Af))) (Ad 1))))))
def A9:FN:=fnU 4 2 Ks
structure Ex(d:Nat)(L L':UH):Prop where
 le:L.length<=L'.length
 at_:∀ i,i < L.length->i≠d->L'[i]? = L[i]?
theorem Ex.refl(d:Nat)(L:UH):Ex d L L:=⟨aP _,fun _ _ _=>rfl⟩
variable {d:Nat}{L:UH}
theorem Ex.trans{L1 L2:UH}(a:Ex d L L1)(b:Ex d L1 L2):Ex d L L2:=
 ⟨eC a.le b.le,fun i h1 h2=>by rw[b.at_ i (bN h1 a.le) h2,a.at_ i h1 h2]⟩
theorem Ex.new(d:Nat)(L:UH)(x:List HU):Ex d L (L++x):=⟨Za,fun i h _=>by rw[bC h]⟩
theorem Ex.put(d:Nat)(L:UH)(o:HU):Ex d L (L.set d o):=⟨Za,fun i _ h=>by rw[bF (fN h)]⟩
structure Deck(L:UH)(d:Nat)(B:Int):Prop where
 ex:∃ (sn:Nat) (cells:List Int) (a b c e:Int),L[d]? = ξ (.lst [.ref sn,.int a,.int b,.int c,.int e])/\L[sn]? = ξ (.lst (cells.map U.int))/\sn < d/\cells.length<=63/\0<=a/\a<=cells.length/\0<=b/\0<=c/\c<=B
variable {B:Int}
theorem Deck.lt(h:Deck L d B):d < L.length:=by
 obtain ⟨sn,cells,a,b,c,e,h1,_⟩:=h.ex;exact (aI.mp h1).1
theorem Deck.mono{B':Int}(h:Deck L d B)(hb:B<=B'):Deck L d B':=by
 obtain ⟨sn,cells,a,b,c,e,h1,h2,h3,h4,h5,h6,h7,h8,h9⟩:=h.ex;exact ⟨sn,cells,a,b,c,e,h1,h2,h3,h4,h5,h6,h7,h8,Ze⟩
theorem Deck.new(h:Deck L d B)(x:List HU):Deck (L++x) d B:=by
 obtain ⟨sn,cells,a,b,c,e,h1,h2,h3⟩:=h.ex;exact ⟨sn,cells,a,b,c,e,by rw[bC (aI.mp h1).1];exact h1,by rw[bC (aI.mp h2).1];exact h2,h3⟩
theorem Deck.set(h:Deck L d B){n:Nat}(hn:d < n)(o:HU):Deck (L.set n o) d B:=by
 obtain ⟨sn,cells,a,b,c,e,h1,h2,h3,h4⟩:=h.ex;exact ⟨sn,cells,a,b,c,e,by rw[bF Ze];exact h1,by rw[bF Ze];exact h2,h3,h4⟩
theorem Ex.set{L':UH}(h:Ex d L L'){n:Nat}(hn:L.length<=n)(o:HU):Ex d L (L'.set n o):=
 ⟨by rw[mK];exact h.le,fun i h1 h2=>by rw[bF Ze];exact h.at_ i h1 h2⟩
theorem Ex.get{L':UH}{i:Nat}{o:HU}(h:Ex d L L')(e:L[i]? = ξ o)(hi:i≠d):L'[i]? = ξ o:=by
 rw[h.at_ i (aI.mp e).1 hi];exact e
theorem Ahv(c k:Int)(L:UH)(h0:0<=k)(h1:k<=1000000000000000000):∃ r,Om [.int c,.int k] L=ξ (.int r,L)/\0<=r:=by
 have e1:∀ x:Int,0<=x % 2147483629/\x % 2147483629 < 2147483629:=fun x=>⟨kF _ Zb,kK _ Zb⟩
 have e2:∀ x:Int,0<=x % 2147483587/\x % 2147483587 < 2147483587:=fun x=>⟨kF _ Zb,kK _ Zb⟩
 have e3:∀ x:Int,0<=x % 2147483563/\x % 2147483563 < 2147483563:=fun x=>⟨kF _ Zb,kK _ Zb⟩
 generalize hA:(c % 2147483629+1000003 * k * k+7919 * k) % 2147483629=A;have hA':=e1 (c % 2147483629+1000003 * k * k+7919 * k);rw[hA] at hA';generalize hB:A * A % 2147483587=Bn;have hB':=e2 (A * A);rw[hB] at hB';refine ⟨(Bn * (Bn+40961) % 2147483563) / 4,?_,qO (e3 _).1 Zb⟩;have m1:Hq 1000003 k=true:=Ny Zb Zb;have m2:Hq (1000003 * k) k=true:=Abm Ze Ze;have m3:Hq 7919 k=true:=Ny Zb Zb;have m4:Hq A A=true:=Ny Ze Ze;have m5:Hq Bn (Bn+40961)=true:=Ny Ze Ze;have d1:∀ x:Int,Kl x 4=true:=fun x=>Kj Zb Zb
 simp[Om,fnU,Abj,m1,m2,m3,hA,m4,hB,m5,d1]
theorem Fz{many:Int}(D:Deck L d B)(hB:B<=100000000000000000)(h0:0 < many)(h1:many < 1073741824) :
  ∃ r L',A9 [.ref d,.int many] L=ξ (.int r,L')/\0<=r/\r < many/\Deck L' d (B+1)/\Ex d L L':=by
 obtain ⟨sn,cells,a,b,c,e,hd,hs,hlt0,hl,ha0,ha1,hb0,hc0,hc1⟩:=D.ex;have hne:sn≠d:=cB hlt0;have hdl:d < L.length:=(aI.mp hd).1;have q1:=Aj hd;have q2:=Dh hd;have q3:=Aj hs;have md:∀ x:Int,0<=x % many/\x % many < many:=fun x=>⟨kF _ Ze,kK _ h0⟩
 have i0:∀ (x0 x1 x2 x3 x4:U),L2.atI Zc5 0=ξ x0:=fun _ _ _ _ _=>rfl
 have i1:∀ (x0 x1 x2 x3 x4:U),L2.atI Zc5 1=ξ x1:=fun _ _ _ _ _=>rfl
 have i2:∀ (x0 x1 x2 x3 x4:U),L2.atI Zc5 2=ξ x2:=fun _ _ _ _ _=>rfl
 have i3:∀ (x0 x1 x2 x3 x4:U),L2.atI Zc5 3=ξ x3:=fun _ _ _ _ _=>rfl
 have i4:∀ (x0 x1 x2 x3 x4:U),L2.atI Zc5 4=ξ x4:=fun _ _ _ _ _=>rfl
 have j1:ixN 5 1=ξ 1:=rfl;have j2:ixN 5 2=ξ 2:=rfl;have j3:ixN 5 3=ξ 3:=rfl;have set1:∀ (o:HU) (us:List U),o = .lst us->Ap (L.set d o) d=ξ us/\Gq (L.set d o) d=ξ us:=fun o us ho=>by
  have:(L.set d o)[d]? = ξ (.lst us):=by rw[bI hdl,ho]
  exact ⟨Aj this,Dh this⟩
 have keep:∀ (x1 x2 x3:Int) (o:HU),o = .lst [.ref sn,.int x1,.int x2,.int x3,.int e]->0<=x1->x1<=cells.length->0<=x2->0<=x3->x3<=B+1->Deck (L.set d o) d (B+1)/\Ex d L (L.set d o):=fun x1 x2 x3 o ho g1 g2 g3 g4 g5=>
  ⟨⟨sn,cells,x1,x2,x3,e,by rw[bI hdl,ho],by rw[bF (fN hne)];exact hs,hlt0,hl,g1,g2,g3,g4,g5⟩,Ex.put d L o⟩
 have seto:∀ (o:HU) (i:Nat),i≠d->Ap (L.set d o) i=Ap L i:=fun o i hi=>by
  unfold Ap;rw[bF (fN hi)]
 have lens:Bg [.ref sn] L=ξ (.int cells.length,L):=by simp[Bg,lenU,q3]
 by_cases hb:b=0
 ·subst hb;by_cases hal:a < cells.length
  ·have hat:L2.atI (cells.map U.int) a=ξ (.int (cells[a.toNat]'(by omega))):=by
    rw[Kv ha0 (by simpa using hal),bA,aE Ze];rfl
   generalize hcell:cells[a.toNat]'(by omega)=cell at hat;have s1:=set1 (.lst [.ref sn,.int (a+1),.int 0,.int c,.int e]) _ rfl;by_cases hc:cell < 1000000000000000000
   ·obtain ⟨r,er,hr⟩:=Ahv cell (a+1) (L.set d (.lst [.ref sn,.int (a+1),.int 0,.int c,.int e])) Ze Ze;have hk:=keep (a+1) 0 c _ rfl Ze Ze Ze hc0 Ze;refine ⟨r % many,_,?_,(md r).1,(md r).2,hk.1,hk.2⟩;simp[A9,fnU,Ks,q1,q2,i0,i1,i2,i3,i4,lens,hal,q3,hat,j1,s1,hc,er,h0,show Tu 10 18=true from rfl]
   ·have s2:=set1 (.lst [.ref sn,.int (a+1),.int cell,.int c,.int e]) _ rfl;have hcp:0 < cell:=Ze
    have hk:=keep (a+1) (cell / many) c _ rfl Ze Ze (qO Ze Ze) hc0 Ze;refine ⟨cell % many,_,?_,(md cell).1,(md cell).2,hk.1,hk.2⟩;simp[A9,fnU,Ks,q1,q2,i0,i1,i2,i3,i4,lens,hal,q3,hat,j1,j2,s1,hc,h0,show Tu 10 18=true from rfl,s2,hcp,Kj h0 (xL h1 Zb)]
  ·have hk:=keep a 0 (c+1) _ rfl ha0 ha1 Ze Ze Ze;have s1:=set1 (.lst [.ref sn,.int a,.int 0,.int (c+1),.int e]) _ rfl;obtain ⟨r,er,hr⟩:=Ahv e (c+1+683) (L.set d (.lst [.ref sn,.int a,.int 0,.int (c+1),.int e])) Ze Ze;refine ⟨r % many,_,?_,(md r).1,(md r).2,hk.1,hk.2⟩;simp[A9,fnU,Ks,q1,q2,i0,i1,i2,i3,i4,lens,hal,q3,j3,s1,h0,er]
 ·have hb':0 < b:=Ze
  have hk:=keep a (b / many) c _ rfl ha0 ha1 (qO Ze Ze) hc0 Ze;refine ⟨b % many,_,?_,(md b).1,(md b).2,hk.1,hk.2⟩;simp[A9,fnU,Ks,q1,q2,i0,i1,i2,i3,i4,hb,hb',j2,h0,Kj h0 (xL h1 Zb)]
theorem Deck.start(ns:List Int)(L:UH)(n:Nat)(hn:L[n]? = ξ (.ro Z4))(hl:ns.length<=63):∃ d L',Km [.ref n] L=ξ (.ref d,L')/\Deck L' d 0/\L.length<=d/\(∀ i,i < L.length->L'[i]? = L[i]?):=by
 have hq:Ap L n=ξ Z4:=by unfold Ap;rw[hn]
 have hcut:T4 Z4 ψ (ξ 63)=ns.map U.int:=by
  unfold T4 HT.sIx;simp only[aN,kZ];rw[if_neg Zb];exact iC (by simp;omega)
 have hI:∀ l:List Int,mapO toI Zbc=ξ l:=by
  intro l;induction l with
  | nil=>rfl
  | cons a r ih=>simp[mapO,toI,ih]
 have hlt:n < L.length:=(aI.mp hn).1;refine ⟨L.length+2,L++[.lst Z4]++[.lst Z4]++[.lst [.ref L.length,.int 0,.int 0,.int 0,.int ns.sum]],?_,⟨L.length,ns,0,0,0,ns.sum,Za,by simp[List.getElem?_append],Ze,hl,Ze,Ze,Ze,Ze,Ze⟩,Ze,fun i hi=>by rw[bM,bM,bC hi]⟩;have hq2:Ap (L++[HU.lst Z4]) n=ξ Z4:=by unfold Ap;rw[bC hlt,hn]
 have hq3:Ap (L++[HU.lst Z4,HU.lst Z4]) (L.length+1)=ξ Z4:=by unfold Ap;rw[bX Ze];simp
 simp[Km,fnU,Yw,semSl,hq,hcut,hq2,semSum,hq3,hI,small_of]
end Lw
namespace MR
open PySem L2
def Y9(g:FG)(body:FS)(u:U)(δ:UE)(L:UH)(R:UE->UH->Prop):Prop:=∃ δ1 L1,g u δ L=ξ (δ1,L1)/\∃ δ2 L2,(body δ1 L1=ξ (.nx δ2,L2)\/body δ1 L1=ξ (.ct δ2,L2))/\R δ2 L2
variable {it:IU}{g:FG}{body:FS}{us:List U}
theorem Oi{it:IU}{g:FG}{body:FS}{us:List U}(P:Nat->UE->UH->Prop)(hat:∀ k δ L,k<=us.length->P k δ L->it.at k L=ξ us[k]?)
  (step:∀ k u δ L,us[k]? = ξ u->P k δ L->Y9 g body u δ L (P (k+1))) :
  ∀ (m k:Nat) (δ:UE) (L:UH),us.length < m+k->k<=us.length->P k δ L->∃ δ' L',Kc it g body m k δ L=ξ (.nx δ',L')/\P us.length δ' L'
 | 0,k,δ,L,h1,h2,_=>by omega
 | m+1,k,δ,L,h1,h2,hP=>by
  have hk:=hat k δ L h2 hP;unfold Kc;rw[hk];cases hu:us[k]? with
  | none=>
   have:k=us.length:=by have:=cU.mp hu;omega
   subst this;exact ⟨δ,L,rfl,hP⟩
  | some u=>
   have hlt:k < us.length:=(aI.mp hu).1;obtain ⟨δ1,L1,e1,δ2,L2,e2,hP2⟩:=step k u δ L hu hP;obtain ⟨δ',L',e3,hP3⟩:=Oi P hat step m (k+1) δ2 L2 Ze Ze hP2;refine ⟨δ',L',?_,hP3⟩;rcases e2 with e2 | e2
   ·simp only[e1,aA,e2,e3]
   ·simp only[e1,aA,e2,e3]
variable {fi:FI}{δ:UE}{L L0:UH}
theorem Qq(P:Nat->UE->UH->Prop)(hi:fi δ L=ξ (.seq us,L0))(h0:P 0 δ L0)(step:∀ k u δ L,us[k]? = ξ u->P k δ L->Y9 g body u δ L (P (k+1))) :
  ∃ δ' L',Jo fi g body δ L=ξ (.nx δ',L')/\P us.length δ' L':=by
 obtain ⟨δ',L',e,h⟩:=Oi (it:=.seq us) (g:=g) (body:=body) (us:=us) P (fun _ _ _ _ _=>rfl) step (us.length+1) 0 δ L0 Ze Ze h0;exact ⟨δ',L',by rw[V4,hi];exact e,h⟩
variable {n:Nat}
theorem Ab0(P:Nat->UE->UH->Prop)(hi:fi δ L=ξ (.ref n,L0))(h0:P 0 δ L0)(hl:∀ k δ L,P k δ L->Ap L n=ξ us)(step:∀ k u δ L,us[k]? = ξ u->P k δ L->Y9 g body u δ L (P (k+1))) :
  ∃ δ' L',Jo fi g body δ L=ξ (.nx δ',L')/\P us.length δ' L':=by
 have hat:∀ k δ L,k<=us.length->P k δ L->(IU.ref n).at k L=ξ us[k]?:=fun k δ L _ hp=>by
  have:=hl k δ L hp;unfold Ap at this;unfold IU.at;simp only;split at this
  ·rename_i e;cases this;first | rw[e] | rfl
  ·rename_i e;cases this;first | rw[e] | rfl
  ·cases this
 have hsz:(IU.ref n).size L0=us.length:=by
  have:=hl 0 δ L0 h0;unfold Ap at this;unfold IU.size;simp only;split at this
  ·rename_i e;cases this;first | rw[e] | rfl
  ·rename_i e;cases this;first | rw[e] | rfl
  ·cases this
 obtain ⟨δ',L',e,h⟩:=Oi (it:=.ref n) (g:=g) (body:=body) (us:=us) P hat step (us.length+1) 0 δ L0 Ze Ze h0;exact ⟨δ',L',by rw[V4,hi];simp only[aA,hsz];exact e,h⟩
theorem Du(h:Ap L n=ξ us):Il (.ref n) L=ξ (.ref n):=by
 unfold Ap at h;unfold Il;simp only;split at h
 ·rename_i e;first | rw[e] | rfl
 ·rename_i e;first | rw[e] | rfl
 ·cases h
variable {k:Nat}{u:U}
theorem Np{lo:Int}(h:(Bh lo n)[k]? = ξ u):k < n/\u = .int (lo+k):=by
 unfold Bh at h;rw[bA] at h;by_cases hk:k < n
 ·rw[dR hk] at h;simp at h;exact ⟨hk,h.symm⟩
 ·rw[cH (by simpa using hk)] at h;simp at h
theorem Sn{lo:Int}:(Bh lo n).length=n:=by simp[Bh]
@[simp] theorem Asd(g:FA)(δ:UE)(L:UH):Us g δ L=(g δ L).bind fun p=>match p.1 with
 | [.ref n]=>(Ap p.2 n).map fun _=>(.enm n,p.2)
 | _=>ψ:=rfl
@[simp] theorem Atp(g:FA)(δ:UE)(L:UH):Au5 g δ L=(g δ L).bind fun p=>match p.1 with
 | [.ref n,.ref m]=>(Ap p.2 n).bind fun _=>(Ap p.2 m).map fun _=>(.zip2 n m,p.2)
 | _=>ψ:=rfl
@[simp] theorem Ac0(f:FE)(δ:UE)(L:UH):Vu f δ L=(f δ L).bind fun p=>match p.1 with | .ref n=>(Ap p.2 n).map fun l=>(.ref p.2.length,p.2++[.lst l.reverse]) | .tup l=>ξ (.tup l.reverse,p.2) | _=>ψ:=rfl
@[simp] theorem Atb(g:FA)(δ:UE)(L:UH):Amo g δ L=(g δ L).bind fun p=>match p.1 with
 | [.int i,.int j]=>if (-(2 ^ 62)<=i/\i < 2 ^ 62)/\(-(2 ^ 62)<=j/\j < 2 ^ 62) then ξ (.seq Zdb,p.2) else ψ
 | _=>ψ:=by first | rfl | (unfold Amo;rfl)
variable {tt:Option FT}{fe:FE}
theorem S0(P:Nat->List U->UE->UH->Prop)(hat:∀ k acc δ L,k<=us.length->P k acc δ L->it.at k L=ξ us[k]?)
  (step:∀ k u acc δ L,us[k]? = ξ u->P k acc δ L->∃ δ1 L1,g u δ L=ξ (δ1,L1)/\∃ b L2,E9 tt δ1 L1=ξ (b,L2)/\(b=true->∃ r L3,fe δ1 L2=ξ (r,L3)/\acc.length < 16777216/\P (k+1) (acc++[r]) δ1 L3)/\(b=false->P (k+1) acc δ1 L2)) :
  ∀ (m k:Nat) (acc:List U) (δ:UE) (L:UH),us.length < m+k->k<=us.length->P k acc δ L->∃ ys δ' L',Tx it g tt fe m k acc δ L=ξ (ys,L')/\P us.length ys δ' L'
 | 0,k,acc,δ,L,h1,h2,_=>by omega
 | m+1,k,acc,δ,L,h1,h2,hP=>by
  have hk:=hat k acc δ L h2 hP;unfold Tx;rw[hk];cases hu:us[k]? with
  | none=>
   have:k=us.length:=by have:=cU.mp hu;omega
   subst this;exact ⟨acc,δ,L,rfl,hP⟩
  | some u=>
   have hlt:k < us.length:=(aI.mp hu).1;obtain ⟨δ1,L1,e1,b,L2,e2,h3,h4⟩:=step k u acc δ L hu hP;cases b with
   | true=>
    obtain ⟨r,L3,e3,hl,hP2⟩:=h3 rfl;obtain ⟨ys,δ',L',e4,hP3⟩:=S0 P hat step m (k+1) (acc++[r]) δ1 L3 Ze Ze hP2;refine ⟨ys,δ',L',?_,hP3⟩;have hz:decide (acc.length < sizeLine)=true:=decide_eq_true (by unfold sizeLine;omega);simp only[e1,aA,e2,e3,if_true,hz,e4]
   | false=>
    obtain ⟨ys,δ',L',e4,hP3⟩:=S0 P hat step m (k+1) acc δ1 L2 Ze Ze (h4 rfl);refine ⟨ys,δ',L',?_,hP3⟩;simp only[e1,aA,e2,e4,bV,if_false]
theorem Afv{ix:List ZU}{fi:FI}{it:IU}{g:FG}{tt:Option FT}{fe:FE}{us:List U}{δ:UE}{L L0:UH}(P:Nat->List U->UE->UH->Prop)(hi:fi δ L=ξ (it,L0))(hsz:us.length<=it.size L0)(h0:P 0 [] (Ea ix δ) L0)
  (hat:∀ k acc δ L,k<=us.length->P k acc δ L->it.at k L=ξ us[k]?)
  (step:∀ k u acc δ L,us[k]? = ξ u->P k acc δ L->∃ δ1 L1,g u δ L=ξ (δ1,L1)/\∃ b L2,E9 tt δ1 L1=ξ (b,L2)/\(b=true->∃ r L3,fe δ1 L2=ξ (r,L3)/\acc.length < 16777216/\P (k+1) (acc++[r]) δ1 L3)/\(b=false->P (k+1) acc δ1 L2)) :
  ∃ ys δ' L',Bo ix fi g tt fe δ L=ξ (.ref L'.length,L'++[.lst ys])/\P us.length ys δ' L':=by
 obtain ⟨ys,δ',L',e,h⟩:=S0 P hat step (it.size L0+1) 0 [] (Ea ix δ) L0 Ze Ze h0;refine ⟨ys,δ',L',?_,h⟩;unfold Bo;simp only[hi,aA,e,aF]
theorem Jv(h:Ap L n=ξ us):(IU.ref n).at k L=ξ us[k]?:=by
 unfold Ap at h;unfold IU.at;simp only;split at h
 ·rename_i e;cases h;first | rw[e] | rfl
 ·rename_i e;cases h;first | rw[e] | rfl
 ·cases h
theorem Fe(h:Ap L n=ξ us):(IU.ref n).size L=us.length:=by
 unfold Ap at h;unfold IU.size;simp only;split at h
 ·rename_i e;cases h;first | rw[e] | rfl
 ·rename_i e;cases h;first | rw[e] | rfl
 ·cases h
noncomputable def enU(us:List U):List U:=us.mapIdx fun k u=>.tup [.int k,u]
theorem Api(h:Ap L n=ξ us):(IU.enm n).at k L=ξ (enU us)[k]?:=by
 show (Ap L n).map _=_;rw[h];simp[enU]
theorem Aiu(h:Ap L n=ξ us):(IU.enm n).size L=(enU us).length:=by
 show (match Ap L n with | some us=>us.length | none=>0)=_;rw[h];simp[enU]
noncomputable def Aqu(us ws:List U):List U:=(us.zip ws).map fun p=>.tup [p.1,p.2]
variable {m:Nat}{ws:List U}
theorem size_zip(h:Ap L n=ξ us)(h2:Ap L m=ξ ws):(IU.zip2 n m).size L=(Aqu us ws).length:=by
 show (match Ap L n,Ap L m with | some us,ξ ws=>min us.length ws.length | _,_=>0)=_;rw[h,h2];simp[Aqu]
theorem Br{β:Type}{ix:List ZU}{fi:FI}{it:IU}{g:FG}{tt:Option FT}{fe:FE}{δ:UE}{L L0:UH}(as:List β)(rep:β->U)(f:β->Bool)(e:β->U)(E:UE->Prop)(hi:fi δ L=ξ (it,L0))(hsz:as.length<=it.size L0)(hl:as.length < 16777216)(h0:E (Ea ix δ))
  (hat:∀ k x,it.at k (L0++x)=ξ (as.map rep)[k]?)
  (step:∀ (a:β) δ x,a∈as->E δ->∃ δ1,g (rep a) δ (L0++x)=ξ (δ1,L0++x)/\E δ1/\∃ y,E9 tt δ1 (L0++x)=ξ (f a,L0++x++y)/\(f a=true->∃ z,fe δ1 (L0++x++y)=ξ (e a,L0++x++y++z))) :
  ∃ x,Bo ix fi g tt fe δ L=ξ (.ref (L0++x).length,L0++x++[.lst ((as.filter f).map e)]):=by
 obtain ⟨ys,δ',L',e1,⟨h1,h2,x,rfl⟩,h3⟩:=Afv (us:=as.map rep) (ix:=ix) (tt:=tt) (g:=g) (fe:=fe) (δ:=δ) (fun k acc δ L=>(acc=((as.take k).filter f).map e/\E δ/\∃ x,L=L0++x)/\acc.length<=k) hi (by simpa using hsz) ⟨⟨rfl,h0,[],Za⟩,Za⟩
  (fun k acc δ L _ zz=>by obtain ⟨⟨_,_,x,hx⟩,_⟩:=zz;rw[hx];exact hat k x)
  (fun k u acc δ L hu zz=>by
   obtain ⟨⟨ha,hE,x,hx⟩,hlen⟩:=zz;subst hx;rw[bA] at hu;obtain ⟨a,hk,rfl⟩:=aJ.mp hu;have hk':=(aI.mp hk).1;obtain ⟨δ1,g1,E1,y,t1,r1⟩:=step a δ x (cI hk) hE;have ht:as.take (k+1)=as.take k++[a]:=by
    rw[iR,hk];rfl
   refine ⟨δ1,_,g1,f a,_,t1,fun hf=>?_,fun hf=>?_⟩
   ·obtain ⟨z,q⟩:=r1 hf;refine ⟨_,_,q,Ze,⟨?_,E1,x++y++z,Za⟩,by simp;omega⟩;rw[ha,ht];simp[hf]
   ·refine ⟨⟨?_,E1,x++y,Za⟩,Ze⟩;rw[ha,ht];simp[hf])
 refine ⟨x,?_⟩;rw[e1,h1];simp
theorem Cd{x:UH}(h:Ap L n=ξ us):Ap (L++x) n=ξ us:=by
 unfold Ap at h ⊢;cases hn:L[n]? with
 | none=>rw[hn] at h;cases h
 | some o=>rw[bC (aI.mp hn).1,hn];rw[hn] at h;exact h
noncomputable def Pl:Nat->U->Prop
 | _,.non=>True
 | _,.int _=>True
 | _,.str x=>xN x=true
 | n+1,.tup l=>∀ u∈l,Pl n u
 | _,_=>False
mutual
def pd:U->wH
 | .non=>.none
 | .bl b=>.bool b
 | .int i=>.int i
 | .str x=>.str x
 | .tup l=>.tuple (pds l)
 | .ref _=>.none
def pds:List U->List wH
 | []=>[]
 | u::r=>pd u::pds r
end
theorem Se{l:List U}:Pl (n+1) (.tup l)↔∀ u∈l,Pl n u:=by rw[Pl]
theorem Qn(ih:∀ u,Pl n u->toP L m u=ξ (pd u)):∀ l:List U,(∀ u∈l,Pl n u)->mapO (toP L m) l=ξ (pds l)
 | [],_=>rfl
 | u::r,h=>by
  simp only[mapO,ih u (h u (aQ ..)),Qn ih r Zcg,aA,aF,pds]
theorem Th(L:UH):∀ (n m:Nat) (u:U),n < m->Pl n u->toP L m u=ξ (pd u)
 | n,0,u,h,_=>by omega
 | n,m+1,.non,_,_=>rfl
 | n,m+1,.int _,_,_=>rfl
 | n,m+1,.str _,_,_=>rfl
 | n,m+1,.bl _,_,h=>by cases n <;> exact absurd h (by simp[Pl])
 | n,m+1,.ref _,_,h=>by cases n <;> exact absurd h (by simp[Pl])
 | 0,m+1,.tup l,_,h=>absurd h (by simp[Pl])
 | n+1,m+1,.tup l,hm,h=>by
  have:=Qn (L:=L) (n:=n) (m:=m) (fun u hu=>Th L n m u Ze hu) l (Se.mp h);show (mapO (toP L m) l).map wH.tuple=_;rw[this];rfl
theorem Qp(ih:∀ u,Pl n u->iK (pd u)=true/\jE (pd u)<=n):∀ l:List U,(∀ u∈l,Pl n u)->tH (pds l)=true/\vO (pds l)<=n
 | [],_=>⟨rfl,dW _⟩
 | u::r,h=>by
  obtain ⟨a1,a2⟩:=ih u (h u (aQ ..));obtain ⟨b1,b2⟩:=Qp ih r Zcg;refine ⟨by simp[pds,tH,a1,b1],?_⟩;simp only[pds,vO];omega
theorem Rt:∀ (n:Nat) (u:U),Pl n u->iK (pd u)=true/\jE (pd u)<=n
 | n,.non,_=>by simp[pd,iK,jE]
 | n,.int _,_=>by simp[pd,iK,jE]
 | n,.str x,h=>by
  have h':xN x=true:=by cases n <;> simpa[Pl] using h
  simp[pd,iK,jE,h']
 | n,.bl _,h=>by cases n <;> exact absurd h (by simp[Pl])
 | n,.ref _,h=>by cases n <;> exact absurd h (by simp[Pl])
 | 0,.tup l,h=>absurd h (by simp[Pl])
 | n+1,.tup l,h=>by
  obtain ⟨a,b⟩:=Qp (fun u hu=>Rt n u hu) l (Se.mp h);simp only[pd,iK,jE];exact ⟨a,Ze⟩
theorem Nl(ih:∀ u w,Pl n u->Pl n w->(eG (pd u) (pd w)=true↔u=w)):∀ l m:List U,(∀ u∈l,Pl n u)->(∀ u∈m,Pl n u)->(kB (pds l) (pds m)=true↔l=m)
 | [],[],_,_=>by simp[pds,kB]
 | [],_::_,_,_=>by simp[pds,kB]
 | _::_,[],_,_=>by simp[pds,kB]
 | u::l,w::m,h1,h2=>by
  simp only[pds,kB,bZ,ih u w (h1 u (aQ ..)) (h2 w (aQ ..)),Nl ih l m (fun x hx=>h1 x (aK _ hx)) (fun x hx=>h2 x (aK _ hx)),mR]
theorem Wr:∀ (n:Nat) (u w:U),Pl n u->Pl n w->(eG (pd u) (pd w)=true↔u=w)
 | n,.bl _,_,h,_=>by cases n <;> exact absurd h (by simp[Pl])
 | n,.ref _,_,h,_=>by cases n <;> exact absurd h (by simp[Pl])
 | n,_,.bl _,_,h=>by cases n <;> exact absurd h (by simp[Pl])
 | n,_,.ref _,_,h=>by cases n <;> exact absurd h (by simp[Pl])
 | 0,.tup _,_,h,_=>absurd h (by simp[Pl])
 | 0,_,.tup _,_,h=>absurd h (by simp[Pl])
 | n+1,.tup l,.tup m,h1,h2=>by
  simp only[pd,eG,U.tup.injEq];exact Nl (fun u w=>Wr n u w) l m (Se.mp h1) (Se.mp h2)
 | n,.non,.non,_,_=>by simp[pd,eG]
 | n,.non,.int _,_,_=>by simp[pd,eG]
 | n,.non,.str _,_,_=>by simp[pd,eG]
 | n+1,.non,.tup _,_,_=>by simp[pd,eG]
 | n,.int _,.non,_,_=>by simp[pd,eG]
 | n,.int _,.int _,_,_=>by simp[pd,eG]
 | n,.int _,.str _,_,_=>by simp[pd,eG]
 | n+1,.int _,.tup _,_,_=>by simp[pd,eG]
 | n,.str _,.non,_,_=>by simp[pd,eG]
 | n,.str _,.int _,_,_=>by simp[pd,eG]
 | n,.str _,.str _,_,_=>by simp[pd,eG]
 | n+1,.str _,.tup _,_,_=>by simp[pd,eG]
 | n+1,.tup _,.non,_,_=>by simp[pd,eG]
 | n+1,.tup _,.int _,_,_=>by simp[pd,eG]
 | n+1,.tup _,.str _,_,_=>by simp[pd,eG]
noncomputable def eqB(u w:U):Bool:=eG (pd u) (pd w)
variable {w:U}
theorem Aln(h1:Pl 6 u)(h2:Pl 6 w):eqB u w=true↔u=w:=Wr 6 u w h1 h2
theorem Aie(h1:Pl 6 u):eqB u u=true:=(Aln h1 h1).mpr rfl
theorem Apx(L:UH)(h1:Pl 6 u)(h2:Pl 6 w):eqP u w L=ξ (eqB u w):=by
 obtain ⟨a1,a2⟩:=Rt 6 u h1;obtain ⟨b1,b2⟩:=Rt 6 w h2;have s1:iB (pd u)=true:=by unfold iB;rw[a1];simp;omega
 have s2:iB (pd w)=true:=by unfold iB;rw[b1];simp;omega
 unfold eqP;simp only[Th L 6 8 u Zb h1,Th L 6 8 w Zb h2,aA,s1,s2,and_self,if_true,eqB]
theorem Agu(L:UH)(h1:Pl 6 u)(h2:Pl 6 w):Eu u w L=ξ (.bl (eqB u w),L):=by unfold Eu;rw[Apx L h1 h2];rfl
noncomputable def Aht(us ws:List U):Bool:=kB (pds us) (pds ws)
theorem Agw(h1:∀ u∈us,Pl 6 u)(h2:∀ u∈ws,Pl 6 u):Aht us ws=true↔us=ws:=Nl (fun u w=>Wr 6 u w) us ws h1 h2
theorem Akc(e1:Ap L n=ξ us)(e2:Ap L m=ξ ws)(h1:∀ u∈us,Pl 6 u)(h2:∀ u∈ws,Pl 6 u):eqP (.ref n) (.ref m) L=ξ (Aht us ws):=by
 obtain ⟨a1,a2⟩:=Qp (Rt 6) us h1;obtain ⟨b1,b2⟩:=Qp (Rt 6) ws h2;have s1:iB (.list (pds us))=true:=by unfold iB;simp[iK,jE,a1];omega
 have s2:iB (.list (pds ws))=true:=by unfold iB;simp[iK,jE,b1];omega
 have t1:toP L 8 (.ref n)=ξ (.list (pds us)):=by
  show (Ap L n).bind (fun l=>(mapO (toP L 7) l).map xV)=_;rw[e1];simp only[aA,Qn (fun u hu=>Th L 6 7 u Zb hu) us h1,aF]
 have t2:toP L 8 (.ref m)=ξ (.list (pds ws)):=by
  show (Ap L m).bind (fun l=>(mapO (toP L 7) l).map xV)=_;rw[e2];simp only[aA,Qn (fun u hu=>Th L 6 7 u Zb hu) ws h2,aF]
 unfold eqP;simp only[t1,t2,aA,s1,s2,and_self,if_true,eG,Aht]
theorem Ad7(e1:Ap L n=ξ us)(e2:Ap L m=ξ ws)(h1:∀ u∈us,Pl 6 u)(h2:∀ u∈ws,Pl 6 u):Fw (.ref n) (.ref m) L=ξ (.bl (!Aht us ws),L):=by unfold Fw;rw[Akc e1 e2 h1 h2];rfl
theorem Pl.int(n:Nat)(i:Int):Pl n (.int i):=by cases n <;> exact trivial
theorem Alv{g:FA}{L':UH}{j:Int}(hg:g δ L=ξ ([.int j],L'))(h0:0<=j)(h1:j < 1000000):Jd g δ L=ξ (.seq (Bh 0 j.toNat),L'):=by
 rw[Ahc,hg];simp only[aA];rw[if_pos ⟨Ze,Ze⟩]
theorem Tv{g:FA}{L':UH}(hg:g δ L=ξ ([.int n],L'))(h1:n < 1000000):Jd g δ L=ξ (.seq (Bh 0 n),L'):=by
 have:=Alv hg Ze Ze;rwa [cK] at this
end MR
namespace Lw
open PySem L2 MR
theorem U4{it:IU}{g:FG}{body:FS}{us:List U}(P:Nat->UE->UH->Prop)(R:Nat->UH->Prop)(stop:Nat->Bool)(val:Nat->U)(hat:∀ k δ L,k<=us.length->P k δ L->it.at k L=ξ us[k]?)
  (step:∀ k u δ L,us[k]? = ξ u->P k δ L->∃ δ1 L1,g u δ L=ξ (δ1,L1)/\(stop k=true->∃ L2,body δ1 L1=ξ (.rt (val k),L2)/\R k L2)/\(stop k=false->∃ δ2 L2,body δ1 L1=ξ (.nx δ2,L2)/\P (k+1) δ2 L2)) :
  ∀ (m k:Nat) (δ:UE) (L:UH),us.length < m+k->k<=us.length->P k δ L ->
   (∃ j,k<=j/\j < us.length/\stop j=true/\(∀ i,k<=i->i < j->stop i=false)/\∃ L',Kc it g body m k δ L=ξ (.rt (val j),L')/\R j L')\/((∀ i,k<=i->i < us.length->stop i=false)/\∃ δ' L',Kc it g body m k δ L=ξ (.nx δ',L')/\P us.length δ' L')
 | 0,k,δ,L,h,hk,_=>by omega
 | m+1,k,δ,L,h,hk,hP=>by
  have ha:=hat k δ L hk hP;unfold Kc;rw[ha];by_cases hlt:k < us.length
  ·rw[aE hlt];obtain ⟨δ1,L1,e1,s1,s2⟩:=step k _ δ L (aE hlt) hP;simp only[e1,aA];cases hs:stop k with
   | true=>
    obtain ⟨L2,e2,r⟩:=s1 hs;exact .inl ⟨k,aP _,hlt,hs,fun i h1 h2=>by omega,L2,by rw[e2];rfl,r⟩
   | false=>
    obtain ⟨δ2,L2,e2,p2⟩:=s2 hs;have ih:=U4 P R stop val hat step m (k+1) δ2 L2 Ze Ze p2;simp only[e2,aA];rcases ih with ⟨j,h1,h2,h3,h4,h5⟩ | ⟨h1,h2⟩
    ·refine .inl ⟨j,Ze,h2,h3,fun i i1 i2=>?_,h5⟩;by_cases q:i=k
     ·rw[q];exact hs
     ·exact h4 i Ze i2
    ·refine .inr ⟨fun i i1 i2=>?_,h2⟩;by_cases q:i=k
     ·rw[q];exact hs
     ·exact h1 i Ze i2
  ·have:k=us.length:=Ze
   subst this;rw[cH (aP _)];exact .inr ⟨fun i i1 i2=>by omega,δ,L,rfl,hP⟩
theorem Ak0{fi:FI}{g:FG}{body:FS}{us:List U}{it:IU}{δ:UE}{L L0:UH}(P:Nat->UE->UH->Prop)(R:Nat->UH->Prop)(stop:Nat->Bool)(val:Nat->U)(hi:fi δ L=ξ (it,L0))(hsz:us.length<=it.size L0)(hat:∀ k δ L,k<=us.length->P k δ L->it.at k L=ξ us[k]?)(h0:P 0 δ L0)
  (step:∀ k u δ L,us[k]? = ξ u->P k δ L->∃ δ1 L1,g u δ L=ξ (δ1,L1)/\(stop k=true->∃ L2,body δ1 L1=ξ (.rt (val k),L2)/\R k L2)/\(stop k=false->∃ δ2 L2,body δ1 L1=ξ (.nx δ2,L2)/\P (k+1) δ2 L2)) :
   (∃ j,j < us.length/\stop j=true/\(∀ i,i < j->stop i=false)/\∃ L',Jo fi g body δ L=ξ (.rt (val j),L')/\R j L')\/((∀ i,i < us.length->stop i=false)/\∃ δ' L',Jo fi g body δ L=ξ (.nx δ',L')/\P us.length δ' L'):=by
 have:=U4 P R stop val hat step (it.size L0+1) 0 δ L0 Ze Ze h0;unfold Jo;rw[hi];simp only[aA];rcases this with ⟨j,h1,h2,h3,h4,h5⟩ | ⟨h1,h2⟩
 ·exact .inl ⟨j,h2,h3,fun i q=>h4 i Ze q,h5⟩
 ·exact .inr ⟨fun i q=>h1 i Ze q,h2⟩
end Lw
namespace MR
open PySem PySem.Spec PyProof.Rows L2
variable {X:Cx}{H:Hp}
section
variable {pins:List (Addr×Obj)}{σ:L2.St}{H':Hp}{s:aR}
def Thaw(H H' H2:Hp):Prop:=∀ b,H2 b=H' b\/∃ o vs,H' b=ξ (.frz o (.dK vs))/\H2 b=ξ (.dK vs)/\∀ o u,H b≠ξ (.frz o u)
theorem Thaw.stay{H2:Hp}(t:Thaw H H' H2){b:Addr}{u:Option HO}(e:H' b=u)(n:∀ o ks,u≠ξ (.frz o (.dK ks))):H2 b=u:=by
 rcases t b with z | ⟨o,vs,z,_⟩
 ·rw[z];exact e
 ·rw[e] at z;exact absurd z (n _ _)
end
variable {K:aL}{α:List Addr}
section
variable {H':Hp}
mutual
theorem RepU.via(g:∀ a xs,SqT K H a xs->SqT K H' a xs):∀ (u:U) (v:V),RepU K H α u v->RepU K H' α u v
 | .non,_,h=>h
 | .bl _,_,h=>h
 | .int _,_,h=>h
 | .str _,_,h=>h
 | .tup l,v,h=>by
  unfold RepU at h ⊢;obtain ⟨a,xs,e,s,r⟩:=h;exact ⟨a,xs,e,g _ _ s,RepL.via g l xs r⟩
 | .ref n,v,h=>by
  unfold RepU at h ⊢;exact h
theorem RepL.via(g:∀ a xs,SqT K H a xs->SqT K H' a xs):∀ (l:List U) (xs:List V),RepL K H α l xs->RepL K H' α l xs
 | [],xs,h=>h
 | u::l,xs,h=>by
  unfold RepL at h ⊢;obtain ⟨x,r,e,h1,h2⟩:=h;exact ⟨x,r,e,RepU.via g u x h1,RepL.via g l r h2⟩
end
end
structure DObj(P:cO)(w:dH)(o:Obj)(kvs:List (Key×V))(vs:List (Key×aH))(ep:Nat):Prop where
 rel:KV kvs vs
 at_:∀ (h:Heap) (d:Addr),h.get? d=ξ o->h.DictAt (Cv P w) d vs ep
theorem KV.at_:∀ {kvs:List (Key×V)} {vs:List (Key×aH)} {i:Nat} {p:Key×aH},KV kvs vs->vs[i]? = ξ p->∃ q,kvs[i]? = ξ q/\q.1=p.1/\RelV q.2 p.2
 | _,_,i,p,.nil,e=>by simp at e
 | _,_,0,p,.cons r t,e=>by simp at e;subst e;exact ⟨_,rfl,r⟩
 | _,_,i+1,p,.cons r t,e=>by simpa using KV.at_ (i:=i) t (by simpa using e)
section
variable {P:cO}{w:dH}{d it:Addr}{o:Obj}{kvs:List (Key×V)}{vs:List (Key×aH)}{ep:Nat}
end
section
variable {tg o e:Expr}{apos cpos:Pos}{td:TE}
structure M0(X:Cx)(o:Expr)(m:Str)(apos cpos:Pos):Prop where
 base:attributeBase o m X.env Zci=eval o X.env
 few:((backTo cpos (bK [] X.env)).all (fun x=>!x.1)&&(backToKw cpos ZbT).all Zcs
  && decide (([]:List Expr).length+([]:List kD).length+(if ([]:List kD).isEmpty then 0 else 1) < 30))=true
 line:(apos.endLine == cpos.line)=true
 trees:backTo cpos (bK [] X.env)=[]
theorem Ajy{pins:List (Addr×Obj)}{σ:L2.St}{s:aR}{a:Addr}{kvs:List (Key×V)}(I:L2.Inv X pins σ H s)(e:H a=ξ (.dK kvs)) :
  (a == sysModules)=false/\∃ ob vs ep,s.heap.get? a=ξ ob/\DObj X.prog X.w ob kvs vs ep:=by
 obtain ⟨z,hd,vs,rel,ob,es,ep,h1,h2⟩:=Ah1 I.hok e;exact ⟨hd,ob,vs,ep,h1,rel,fun h d hg=>⟨ob,es,hg,h2⟩⟩
end
def kU:Key->U
 | .inl i=>.int i
 | .inr x=>.str x
def Ag3(kvs:List (Key×U)):List U:=kvs.map fun kv=>kv.2
section
variable {L:UH}{a:Addr}{ob:Obj}
end
section
variable {tg o:Expr}{apos cpos:Pos}{fo:FE}
theorem X7(k:Key):∀ kvs:List (Key×U),(kvs.find? fun kv=>decide (kv.1=k)).isSome=kvs.any fun kv=>decide (kv.1=k)
 | []=>rfl
 | kv::kvs=>by
  rw[dM,iD];by_cases h:kv.1=k
  ·simp[h]
  ·simp only[h,decide_false,wW];exact X7 k kvs
theorem RepKV.some{kvs:List (Key×U)}{vs:List (Key×V)}(r:RepKV K H α kvs vs)(k:Key):(Ji kvs k).isSome=(Nc vs k).isSome:=by
 have h1:(Ji kvs k).isSome=kvs.any fun kv=>decide (kv.1=k):=by
  unfold Ji;rw[tD];exact X7 k kvs
 rw[h1,r.any,Rw]
end
def Ank(kvs:List (Key×U))(k:Key):List (Key×U):=kvs.filter fun kv=>decide (kv.1≠k)
theorem RepKV.drop(k:Key):∀ {kvs:List (Key×U)} {vs:List (Key×V)},RepKV K H α kvs vs->RepKV K H α (Ank kvs k) (Abk vs k)
 | [],vs,r=>by
  have:=r.1;cases vs with
  | nil=>exact .nil
  | cons _ _=>simp at this
 | kv::kvs,vs,r=>by
  obtain ⟨x,vs',rfl,rx,r'⟩:=r.cons;unfold Ank Abk;rw[lN,lN];by_cases h:kv.1=k
  ·simp only[h,ne_eq,not_true_eq_false,decide_false,bV,if_false];exact RepKV.drop k r'
  ·simp only[h,ne_eq,not_false_eq_true,decide_true,if_true];exact .mk rx (RepKV.drop k r')
end MR
namespace MR
open PySem PyProof.Rows L2
end MR
namespace ZT
open PySem PySem.Spec PyProof.Rows PySem.W
open Sem (wp)
section
variable {prog:cO}{w:dH}{A:eE}{E:aH->aR->Prop}{s:aR}{T:String}{r d:Addr}{n:Nat}{P:Nat->aH->Prop}{OK:Heap->Prop}
end
end ZT
namespace MR
open PySem PySem.Spec PyProof.Rows PySem.Calls L2
theorem Ac6:∀ {kvs:List (Key×V)} {vs:List (Key×aH)},KV kvs vs->Vals (kvs.map (·.2)) (vs.map (·.2))
 | _,_,.nil=>.nil
 | _,_,.cons r t=>.cons r.2 (Ac6 t)
theorem Aag{vs:List (Key×aH)}{acc:Array aH}(h:rN (fun i v=>∃ k,vs[i]? = ξ (k,v)) acc vs.length):acc.toList=vs.map (·.2):=
 PySem.W.kdl_vals_eq acc.toList (by rw[cY];exact h.1) fun j v e=>h.2 j v (by rw[<- fZ];exact e)
section
variable {X:Cx}{o:Expr}{apos cpos p pos:Pos}{td:TE}{fo:FE}
def Aoq(td:TE):TE:=fun σ H Q=>td σ H fun x H1=>∃ a kvs,x = .ref a/\H1 a=ξ (.dK kvs)/\∀ l,H1 l=ψ->Q (.ref l) (upd H1 l (.lst (kvs.map (·.2))))
theorem Ah4(hc:X.calm=true)(hgL:Gl X "list")(hmL:X.mg "list" = ψ)(hl:PE X o td)(m:M0 X o "values" apos cpos)
  (hs2:bK [.Call (.Attribute o "values" apos) [] [] cpos] X.env=[(false,eval (.Call (.Attribute o "values" apos) [] [] cpos) X.env)]:=by rfl):PE X (.Call (.Name "list" p) [.Call (.Attribute o "values" apos) [] [] cpos] [] pos) (Aoq td):=by
 intro pins s σ H Q I h;refine dN (Em I hgL hmL Ry ?_);refine cC ?_ hs2 rfl;rw[hs2];refine kI ?_;refine wpAny_Call_method m.base m.few m.line PySem.F.plainAttrs_dict oU PySem.F.type_dict_values (thn (hl pins s σ H _ I h) fun u s1 zz=>zz.elim fun x H1 I1 rx zq=>?_);obtain ⟨a,kvs,ex,ea,q⟩:=zq;subst ex;obtain rfl:u=gU a:=rx;obtain ⟨t1,t2,_⟩:=Apa I1 (.inl ⟨kvs,.inl ea⟩);refine ⟨t1,t2,?_⟩;rw[m.trees];obtain ⟨hd,ob,vs,ep,ho,D⟩:=Ajy I1 ea;have da:=D.at_ _ _ ho;refine qA rfl (PySem.evalArgs_none ?_);refine call_meetsIn oU t1 PySem.F.entry_dict_values (PySem.F.args_dict_values_1 _) (meets_dict_values (Cv X.prog X.w) a hd) ⟨⟨vs,da.dictOf⟩,?_⟩;refine kP ?_;have I2:L2.Inv X pins σ H1 { s1 with heap:=s1.heap.push { cls:=.type "dict_values",data:=.fields #[.ref a] } }:=I1.kept (t':=s1.toks) fun b o e=>aG _ e
 have hz:kvs.length<=sizeLine:=(Ah1 I1.hok ea).1;have hl:=KV.length D.rel;refine PySem.W.kdl_call (PySem.W.kdl_values (knd:=Cv X.prog X.w) (kvs:=vs) (ep:=ep)) (I2.ok.hd hc) ⟨⟨_,aZ _ rfl,rfl,rfl⟩,da.push _⟩ (by rw[<- hl];exact hz) fun h' tk acc c' hk hS hacc=>?_
 have hacc':=Aag hacc;have hacc2:acc=(vs.map (·.2)).toArray:=by rw[<- hacc']
 have new:ObjOk X.prog X.w (upd H1 (s1.heap.push { cls:=.type "dict_values",data:=.fields #[.ref a] }).objs.size (.lst (kvs.map (·.2)))) h' (s1.heap.push { cls:=.type "dict_values",data:=.fields #[.ref a] }).objs.size (.lst (kvs.map (·.2))):=
  ⟨by rw[aN];exact hz,vs.map (·.2),c',Ac6 D.rel,by rw[hS,hacc2]⟩
 exact ⟨.ref _,_,I2.laid (t':=tk) hk (aP _) new,rfl,q _ ZcT⟩
def V5(f:FE):FE:=fun δ L=>(f δ L).bind fun p=>match p.1 with
 | .ref n=>(Ir p.2 n).map fun kvs=>(.ref p.2.length,p.2++[.lst (Ag3 kvs)])
 | _=>ψ
theorem Afp(hc:X.calm=true)(hgL:Gl X "list")(hmL:X.mg "list" = ψ)(hl:PEF X o fo)(m:M0 X o "values" apos cpos)
  (hs2:bK [.Call (.Attribute o "values" apos) [] [] cpos] X.env=[(false,eval (.Call (.Attribute o "values" apos) [] [] cpos) X.env)]:=by rfl):PEF X (.Call (.Name "list" p) [.Call (.Attribute o "values" apos) [] [] cpos] [] pos) (V5 fo):=by
 refine PE.imp (Ah4 hc hgL hmL hl m hs2) ?_;rintro σ H Q ⟨α,δ,L,A,S,u,L3,e,q⟩;obtain ⟨⟨u,L1⟩,e1,e⟩:=aB.mp e;simp only at e;split at e
 ·obtain ⟨kvs,hd,e⟩:=aJ.mp e;cases e;refine ⟨α,δ,L,A,S,_,_,e1,fun x H1 α1 g1 A1 r1=>?_⟩;obtain ⟨a,vs,rfl,ea,ha,rk⟩:=Wi A1 hd r1;refine ⟨a,vs,rfl,ha,fun l hl=>?_⟩;obtain ⟨g',A',r'⟩:=A1.lst rk.2 hl;exact q _ _ _ (g1.trans g') A' r'
 ·cases e
end
end MR
namespace MR
open PySem PySem.Spec PyProof.Rows L2
section
variable {X:Cx}{o i e f:Expr}{pos apos cpos:Pos}{fo fi fe fx:FE}
end
end MR
namespace MR
open PySem PySem.Spec PyProof.Rows PySem.Calls L2
section
variable {X:Cx}
def Ap1(ta:TA):TE:=fun σ H Q=>ta σ H fun vs H1=>∃ i j:Int,vs=[.int i,.int j]/\(-(2 ^ 62)<=i/\i < 2 ^ 62/\-(2 ^ 62)<=j/\j < 2 ^ 62/\(j - i).toNat<=1000000)/\∀ l,H1 l=ψ->Q (.ref l) (upd H1 l (.lst (M9 i (j - i).toNat)))
theorem Agr{a b:Expr}{ta:TA}{p p' pos pos':Pos}(hc:X.calm=true)(hgL:Gl X "list")(hmL:X.mg "list" = ψ)(hg:Gl X "range")(hm:X.mg "range" = ψ)(ha:PA X [a,b] ta)(hs:bK [a,b] X.env=[ZO,Zdc]:=by rfl)(hs1:bK [b] X.env=[Zdc]:=by rfl)
  (hs2:bK [.Call (.Name "range" p') [a,b] [] pos'] X.env=[(false,eval (.Call (.Name "range" p') [a,b] [] pos') X.env)]:=by rfl):PE X (.Call (.Name "list" p) [.Call (.Name "range" p') [a,b] [] pos'] [] pos) (Ap1 ta):=by
 intro pins s σ H Q I h;refine dN (Em I hgL hmL Ry ?_);refine cC ?_ hs2 rfl;rw[hs2];refine kI ?_;refine dN (Em I hg hm sH (cC (thn Zdn fun us s1 ⟨vs,H1,I1,r1,q1⟩=>?_) (by rw[hs,hs1]) (by rw[hs1];rfl)));obtain ⟨i,j,rfl,⟨i0,i1,j0,j1,hn⟩,q⟩:=q1;cases r1 with
 | cons r rr=>
  cases rr with
  | cons r' rr=>
   cases rr;obtain ⟨t,rfl⟩:=r;obtain ⟨t',rfl⟩:=r';refine call_range_2 ?_;refine kP ?_;exact Afs (lo:=i) (hi:=j) hc I1 i0 i1 j0 j1 hn q
end
def Pe(g:FA):FE:=fun δ L=>(g δ L).bind fun p=>match p.1 with
 | [.int i,.int j]=>if -(2 ^ 62)<=i/\i < 2 ^ 62/\-(2 ^ 62)<=j/\j < 2 ^ 62/\(j - i).toNat<=1000000 then ξ (.ref p.2.length,p.2++[.lst Zdb]) else ψ
 | _=>ψ
theorem Ah8{X:Cx}{a b:Expr}{g:FA}{p p' pos pos':Pos}(hc:X.calm=true)(hgL:Gl X "list")(hmL:X.mg "list" = ψ)(hg:Gl X "range")(hm:X.mg "range" = ψ)(ha:PAF X [a,b] g)(hs:bK [a,b] X.env=[ZO,Zdc]:=by rfl)(hs1:bK [b] X.env=[Zdc]:=by rfl)
  (hs2:bK [.Call (.Name "range" p') [a,b] [] pos'] X.env=[(false,eval (.Call (.Name "range" p') [a,b] [] pos') X.env)]:=by rfl):PEF X (.Call (.Name "list" p) [.Call (.Name "range" p') [a,b] [] pos'] [] pos) (Pe g):=by
 refine PE.imp (Agr hc hgL hmL hg hm ha hs hs1 hs2) ?_;rintro σ H Q ⟨α,δ,L,A,S,z,L3,e,q⟩;obtain ⟨⟨us,L1⟩,e1,e⟩:=aB.mp e;refine ⟨α,δ,L,A,S,us,L1,e1,fun xs H1 α1 g1 A1 r1=>?_⟩;simp only at e;split at e
 ·split at e
  ·rename_i hj;cases e;obtain ⟨x,y,rfl,rx,ry⟩:=r1.two;unfold RepU at rx ry;subst rx;subst ry;refine ⟨_,_,rfl,hj,fun l hl=>?_⟩;obtain ⟨g2,A2,r2⟩:=A1.lst (Vx (K:=X.K) (H:=H1) (α:=α1) _ _) hl;exact q _ _ _ Zak A2 r2
  ·cases e
 ·cases e
end MR
namespace SO
open PySem PySem.W PyProof.Rows
noncomputable def On{α:Type}(n:Nat)(lt:Nat->Nat->Bool)(P:α->Prop):KasT α->Prop
 | .ret a=>P a
 | .ask i j k=>i < n/\j < n/\On n lt P (k (lt i j))
variable {n:Nat}{lt:Nat->Nat->Bool}
theorem On.bind{α β:Type}{P:α->Prop}{Q:β->Prop}{f:α->KasT β}(hf:∀ a,P a->On n lt Q (f a)):∀ {t:KasT α},On n lt P t->On n lt Q (t.bind f)
 | .ret a,h=>hf a h
 | .ask i j k,h=>⟨h.1,h.2.1,On.bind hf h.2.2⟩
theorem On.imp{α:Type}{P Q:α->Prop}(hf:∀ a,P a->Q a):∀ {t:KasT α},On n lt P t->On n lt Q t
 | .ret a,h=>hf a h
 | .ask i j k,h=>⟨h.1,h.2.1,On.imp hf h.2.2⟩
theorem On.wp{α:Type}{P:α->Prop}{cmp:Nat->Nat->(Bool->aR->Prop)->aR->Prop}{s:aR}{Q:α->aR->Prop}(hc:∀ i j C,i < n->j < n->C (lt i j) s->cmp i j C s)(hq:∀ a,P a->Q a s):∀ {t:KasT α},On n lt P t->t.kasWp cmp Q s
 | .ret a,h=>hq a h
 | .ask i j k,h=>hc i j _ h.1 h.2.1 (On.wp hc hq h.2.2)
structure Wo(lt:Nat->Nat->Bool):Prop where
 asym:∀ i j,lt i j=true->lt j i=false
 tr:∀ i j k,lt j i=false->lt k j=false->lt k i=false
variable {i j k m nrem:Nat}{p:Array Nat}
section
def Le(lt:Nat->Nat->Bool)(i j:Nat):Prop:=lt j i=false
def Eqv(lt:Nat->Nat->Bool)(i j:Nat):Prop:=Le lt i j/\Le lt j i
theorem Wo.refl(W:Wo lt)(i:Nat):Le lt i i:=by
 unfold Le;cases h:lt i i with
 | false=>rfl
 | true=>have:=W.asym i i h;rw[h] at this;cases this
theorem Wo.le(W:Wo lt)(h:lt i j=true):Le lt i j:=W.asym i j h
theorem Wo.trans(W:Wo lt)(h1:Le lt i j)(h2:Le lt j k):Le lt i k:=W.tr i j k h1 h2
noncomputable def at0(p:Array Nat)(i:Nat):Nat:=p.getD i 0
theorem Sf{q:Array Nat}(h:p[i]? = q[j]?):at0 p i=at0 q j:=by
 unfold at0;rw[dZ,dZ,h]
structure Pm(n:Nat)(p:Array Nat):Prop where
 size:p.size=n
 perm:p.toList.Perm (bB n)
theorem Pm.bd(h:Pm n p)(h0:0 < n)(i:Nat):at0 p i < n:=by
 unfold at0;rw[dZ];cases hi:p[i]? with
 | none=>exact h0
 | some x=>
  have:x∈p.toList:=by
   rw[<- fZ] at hi;exact cI hi
  exact bE.mp (h.perm.mem_iff.mp this)
def Up(lt:Nat->Nat->Bool)(p:Array Nat)(k:Nat):Prop:=∀ i j,i<=j->j < k->Le lt (at0 p i) (at0 p j)
def Dn(lt:Nat->Nat->Bool)(p:Array Nat)(k:Nat):Prop:=∀ i j,i<=j->j < k->Le lt (at0 p j) (at0 p i)
theorem Up.one(W:Wo lt)(p:Array Nat):Up lt p 1:=fun i j h1 h2=>by
 have:i=j:=Ze
 subst this;exact W.refl _
theorem Up.snoc(W:Wo lt)(h:Up lt p m)(hm:1<=m)(hl:Le lt Zat (at0 p m)):Up lt p (m+1):=fun i j h1 h2=>by
 by_cases hj:j < m
 ·exact h i j h1 hj
 ·have hj:j=m:=Ze
  subst hj;by_cases hi:i=j
  ·subst hi;exact W.refl _
  ·exact W.trans (h i (j - 1) Ze Ze) hl
theorem Dn.snoc(W:Wo lt)(h:Dn lt p m)(hm:1<=m)(hl:Le lt (at0 p m) Zat):Dn lt p (m+1):=fun i j h1 h2=>by
 by_cases hj:j < m
 ·exact h i j h1 hj
 ·have hj:j=m:=Ze
  subst hj;by_cases hi:i=j
  ·subst hi;exact W.refl _
  ·exact W.trans hl (h i (j - 1) Ze Ze)
theorem Kz(hj:j<=p.size)(k:Nat):at0 (qD p i j) k=if i<=k/\k < j then at0 p (i+j - 1 - k) else at0 p k:=by
 have h:=getElem?_mirror_all (xs:=p) (i:=i) hj k;unfold qD;split
 ·rename_i hc;rw[if_pos hc] at h;exact Sf h
 ·rename_i hc;rw[if_neg hc] at h;exact Sf h
theorem Pm.rev(h:Pm n p)(i j:Nat):Pm n (qD p i j):=⟨by unfold qD;rw[mirror_size];exact h.size,(mirror_perm p i j _).toList.trans h.perm⟩
theorem Pm.bub(h:Pm n p)(i j:Nat):Pm n (bubble p i j):=⟨by rw[bubble_size];exact h.size,(bubble_perm p i j).toList.trans h.perm⟩
theorem Afz{l:Nat}(hk:k < p.size)(hl:l<=k)(i:Nat):at0 (bubble p k (k - l)) i=if i=l then at0 p k else if l < i/\i<=k then at0 p (i - 1) else at0 p i:=by
 have h:=getElem?_bubble (xs:=p) hk (k - l) Ze i;have e:k - (k - l)=l:=Ze
 rw[e] at h;split
 ·rename_i hc;rw[if_pos hc] at h;exact Sf h
 ·rename_i hc;rw[if_neg hc] at h;split
  ·rename_i hd;rw[if_pos hd] at h;exact Sf h
  ·rename_i hd;rw[if_neg hd] at h;exact Sf h
theorem Aas(W:Wo lt)(h0:0 < n)(hp:Pm n p):∀ (f m:Nat),1<=m->m+f=nrem->Up lt p m->On n lt (fun m'=>m<=m'/\m'<=nrem/\Up lt p m'/\(m'=nrem\/lt (at0 p m') (at0 p (m' - 1))=true)) (kas_asc p f m)
 | 0,m,h1,hf,hu=>⟨aP _,Ze,hu,.inl Ze⟩
 | f+1,m,h1,hf,hu=>by
  refine ⟨hp.bd h0 _,hp.bd h0 _,?_⟩;show On n lt _ (if lt (at0 p m) Zat=true then KasT.ret m else kas_asc p f (m+1));cases hl:lt (at0 p m) Zat with
  | true=>exact ⟨aP _,Ze,hu,.inr hl⟩
  | false=>
   exact (Aas W h0 hp f (m+1) Ze Ze (hu.snoc W h1 hl)).imp fun m' ⟨a,b,c⟩=>⟨Ze,b,c⟩
def Tl(lt:Nat->Nat->Bool)(p:Array Nat)(m q:Nat):Prop:=∀ i,m - (q+1)<=i->i < m->Eqv lt (at0 p i) Zat
theorem Tl.rev(W:Wo lt){q:Nat}(h:Tl lt p m q)(hq:q < m)(hm:m<=p.size)(k:Nat):Eqv lt (at0 (qD p (m - (q+1)) m) k) (at0 p k):=by
 rw[Kz hm];split
 ·rename_i hc;have a:=h (m - (q+1)+m - 1 - k) Ze Ze;have b:=h k hc.1 hc.2;exact ⟨W.trans a.1 b.2,W.trans b.1 a.2⟩
 ·exact ⟨W.refl _,W.refl _⟩
theorem Dn.eqv(W:Wo lt){p':Array Nat}(h:Dn lt p m)(he:∀ k,Eqv lt (at0 p' k) (at0 p k)):Dn lt p' m:=fun i j h1 h2=>W.trans (he j).1 (W.trans (h i j h1 h2) (he i).2)
theorem Q0(W:Wo lt)(h0:0 < n)(hz:nrem<=n):∀ (f:Nat) (p:Array Nat) (m q:Nat),Pm n p->1<=m->m+f=nrem->Dn lt p m->q < m->Tl lt p m q ->
  On n lt (fun r=>Pm n r.1/\1<=r.2.1/\r.2.1<=nrem/\Dn lt r.1 r.2.1/\r.2.2 < r.2.1/\Tl lt r.1 r.2.1 r.2.2) (kas_desc f p m q)
 | 0,p,m,q,hp,h1,hf,hd,hq,ht=>⟨hp,h1,(by show m<=nrem;omega),hd,hq,ht⟩
 | f+1,p,m,q,hp,h1,hf,hd,hq,ht=>by
  refine ⟨hp.bd h0 _,hp.bd h0 _,?_⟩;show On n lt _ (if lt (at0 p m) Zat=true then _ else _);have tl0:∀ p':Array Nat,Tl lt p' (m+1) 0:=fun p' i i1 i2=>by
   have:i=m:=Ze
   subst this;rw[kL];exact ⟨W.refl _,W.refl _⟩
  cases hl:lt (at0 p m) Zat with
  | true=>
   have hms:m<=p.size:=by rw[hp.size];omega
   rw[if_pos rfl];by_cases hq0:q > 0
   ·rw[if_pos hq0];have he:=ht.rev W hq hms;have hm':at0 (qD p (m - (q+1)) m) m=at0 p m:=by rw[Kz hms,if_neg Ze]
    have hd':=(hd.eqv W he).snoc W h1 (by rw[hm'];exact W.trans (W.le hl) (he (m - 1)).2)
    exact Q0 W h0 hz f _ (m+1) 0 (hp.rev _ _) Ze Ze hd' Ze (tl0 _)
   ·rw[if_neg hq0];exact Q0 W h0 hz f p (m+1) 0 hp Ze Ze (hd.snoc W h1 (W.le hl)) Ze (tl0 _)
  | false=>
   rw[if_neg Za];refine ⟨hp.bd h0 _,hp.bd h0 _,?_⟩;show On n lt _ (if lt Zat (at0 p m)=true then _ else _);cases hl2:lt Zat (at0 p m) with
   | true=>rw[if_pos rfl];exact ⟨hp,h1,(by show m<=nrem;omega),hd,hq,ht⟩
   | false=>
    rw[if_neg Za];refine Q0 W h0 hz f p (m+1) (q+1) hp Ze Ze (hd.snoc W h1 hl2) Ze fun i i1 i2=>?_
    rw[kL];by_cases hi:i=m
    ·subst hi;exact ⟨W.refl _,W.refl _⟩
    ·have a:=ht i Ze Ze;exact ⟨W.trans a.1 hl,W.trans hl2 a.2⟩
theorem Acz(W:Wo lt)(h0:0 < n)(hz:nrem<=n)(hp:Pm n p)(h1:1<=m)(hm:m<=nrem)(hd:Dn lt p m):On n lt Zbe (kas_tail3 m nrem p):=by
 have hms:m<=p.size:=by rw[hp.size];omega
 have hu:Up lt (qD p 0 m) m:=fun i j i1 i2=>by
  rw[Kz hms,Kz hms,if_pos Ze,if_pos Ze];exact hd _ _ Ze Ze
 unfold kas_tail3;exact On.bind (fun a ⟨a1,a2,a3,_⟩=>⟨hp.rev _ _,Ze,a2,a3⟩) (Aas (nrem:=nrem) W h0 (hp.rev 0 m) (nrem - m) m h1 Ze hu)
theorem Qf(W:Wo lt)(h0:0 < n)(hz:nrem<=n)(hp:Pm n p)(hm:m+1<=nrem)(hd:Dn lt p (m+1)):On n lt Zbe (kas_descPart m nrem p):=by
 unfold kas_descPart;have tl0:Tl lt p (m+1) 0:=fun i i1 i2=>by
  have:i=m:=Ze
  subst this;rw[kL];exact ⟨W.refl _,W.refl _⟩
 refine On.bind (fun r ⟨a1,a2,a3,a4,a5,a6⟩=>?_) (Q0 W h0 hz (nrem - (m+1)) p (m+1) 0 hp Ze Ze hd Ze tl0);have hms:r.2.1<=r.1.size:=by rw[a1.size];omega
 split
 ·exact Acz W h0 hz (a1.rev _ _) a2 a3 (a4.eqv W (a6.rev W a5 hms))
 ·exact Acz W h0 hz a1 a2 a3 a4
theorem Ai3(W:Wo lt)(h0:0 < n)(hz:nrem<=n)(h1:1<=nrem)(hp:Pm n p):On n lt Zbe (kas_count nrem p):=by
 unfold kas_count;refine On.bind (fun m ⟨a1,a2,a3,a4⟩=>?_) (Aas (nrem:=nrem) W h0 hp (nrem - 1) 1 (aP _) Ze (Up.one W p));by_cases hm:(m == nrem)=true
 ·rw[if_pos hm];exact ⟨hp,Ze,a2,a3⟩
 ·rw[if_neg hm];have hne:m≠nrem:=by simpa using hm
  have hlt:lt (at0 p m) Zat=true:=a4.resolve_left hne;by_cases hm1:m > 1
  ·rw[if_pos hm1];refine ⟨hp.bd h0 _,hp.bd h0 _,?_⟩;show On n lt _ (if lt (at0 p 0) Zat=true then _ else _);cases hl:lt (at0 p 0) Zat with
   | true=>rw[if_pos rfl];exact ⟨hp,Ze,a2,a3⟩
   | false=>
    rw[if_neg Za];have hms:m<=p.size:=by rw[hp.size];omega
    have hall:∀ i j,i < m->j < m->Le lt (at0 p i) (at0 p j):=fun i j i1 j1=>W.trans (a3 i (m - 1) Ze Ze) (W.trans hl (a3 0 j Ze j1))
    refine Qf W h0 hz (hp.rev 0 m) Ze ?_;have hd:Dn lt (qD p 0 m) m:=fun i j i1 i2=>by
     rw[Kz hms,Kz hms,if_pos Ze,if_pos Ze];exact hall _ _ Ze Ze
    refine hd.snoc W Ze ?_;rw[Kz hms,Kz hms,if_neg Ze,if_pos Ze];exact W.trans (W.le hlt) (hall _ _ Ze Ze)
  ·rw[if_neg hm1];have:m=1:=Ze
   subst this;refine Qf W h0 hz hp Ze ?_;have hd:Dn lt p 1:=fun i j h1 h2=>by
    have:i=j:=Ze
    subst this;exact W.refl _
   exact hd.snoc W (aP _) (W.le hlt)
theorem Sz(W:Wo lt)(h0:0 < n)(hp:Pm n p)(hu:Up lt p k):∀ (f l r:Nat),l<=r->r<=k->r - l<=f->(∀ i,i < l->Le lt (at0 p i) (at0 p k))->(∀ i,r<=i->i < k->Le lt (at0 p k) (at0 p i)) ->
  On n lt (fun l'=>l'<=k/\(∀ i,i < l'->Le lt (at0 p i) (at0 p k))/\∀ i,l'<=i->i < k->Le lt (at0 p k) (at0 p i)) (kas_place p k f l r)
 | 0,l,r,h1,h2,h3,h4,h5=>⟨Ze,h4,fun i i1 i2=>h5 i Ze i2⟩
 | f+1,l,r,h1,h2,h3,h4,h5=>by
  unfold kas_place;by_cases hlr:l ≥ r
  ·rw[if_pos hlr];exact ⟨Ze,h4,fun i i1 i2=>h5 i Ze i2⟩
  ·rw[if_neg hlr];refine ⟨hp.bd h0 _,hp.bd h0 _,?_⟩;show On n lt _ (if lt (at0 p k) (at0 p ((l+r) / 2))=true then _ else _);cases hl:lt (at0 p k) (at0 p ((l+r) / 2)) with
   | true=>
    rw[if_pos rfl];exact Sz W h0 hp hu f l ((l+r) / 2) Ze Ze Ze h4 fun i i1 i2=>W.trans (W.le hl) (hu _ _ i1 i2)
   | false=>
    rw[if_neg Za];exact Sz W h0 hp hu f ((l+r) / 2+1) r Ze h2 Ze (fun i i1=>W.trans (hu i ((l+r) / 2) Ze Ze) hl) h5
theorem Ais(W:Wo lt)(h0:0 < n):∀ (f:Nat) (p:Array Nat) (k:Nat),Pm n p->Up lt p k->k+f=n->On n lt (fun p'=>Pm n p'/\Up lt p' n) (kas_bin f p k)
 | 0,p,k,hp,hu,hk=>⟨hp,(show k=n by omega) ▸ hu⟩
 | f+1,p,k,hp,hu,hk=>by
  unfold kas_bin;refine On.bind (fun l ⟨a1,a2,a3⟩=>?_) (Sz W h0 hp hu k 0 k Ze (aP _) Ze (fun i h=>by omega) fun i h1 h2=>by omega);have hks:k < p.size:=by rw[hp.size];omega
  refine Ais W h0 f _ (k+1) (hp.bub _ _) (fun i j i1 i2=>?_) Ze;rw[Afz hks a1,Afz hks a1];by_cases hi:i=l
  ·rw[if_pos hi];by_cases hj:j=l
   ·rw[if_pos hj];exact W.refl _
   ·rw[if_neg hj,if_pos Ze];exact a3 _ Ze Ze
  ·rw[if_neg hi];by_cases hi2:l < i/\i<=k
   ·rw[if_pos hi2,if_neg Ze,if_pos Ze];exact hu _ _ Ze Ze
   ·rw[if_neg hi2];by_cases hj:j=l
    ·rw[if_pos hj];exact a2 _ Ze
    ·rw[if_neg hj];by_cases hj2:l < j/\j<=k
     ·rw[if_pos hj2];exact hu _ _ Ze Ze
     ·rw[if_neg hj2];exact hu _ _ i1 Ze
theorem Nu(W:Wo lt)(h0:0 < n):On n lt (fun p=>Pm n p/\Up lt p n) (jO n):=by
 unfold jO;have hp:Pm n (eV (bB n)):=⟨Za,Za⟩;refine On.bind (fun r ⟨a1,a2,a3,a4⟩=>?_) (Ai3 W h0 (aP n) h0 hp);by_cases hr:r.1 < n
 ·rw[if_pos hr];have hm:max r.1 1=r.1:=Ze
  rw[hm];exact Ais W h0 _ _ _ a1 a4 Ze
 ·rw[if_neg hr];have:r.1=n:=Ze
  exact ⟨a1,by rw[<- this];exact a4⟩
end
end SO
namespace SO
open PySem PySem.W PySem.Calls PyProof.Rows
section
variable {P:cO}{w:dH}{A:eE}{E:aH->aR->Prop}{s:aR}{vs:List aH}{lt:Nat->Nat->Bool}{κ:SortKind}
def Kb(a:Addr)(h h':Heap):Prop:=∀ b o,b≠a->h.get? b=ξ o->h'.get? b=ξ o
theorem Kb.trans{a:Addr}{h h1 h2:Heap}(x:Kb a h h1)(y:Kb a h1 h2):Kb a h h2:=fun b o hb e=>y b o hb (x b o hb e)
theorem R7(h:Heap)(a:Addr)(f:Obj->Obj):Kb a h (h.update a f):=fun b o hb e=>((cL h a f).2 b hb).trans e
theorem Q6(a:Addr)(h:Heap)(o:Obj):Kb a h (h.push o):=fun _ _ _ e=>aG _ e
noncomputable def Dx(vs:List aH)(p:Array Nat):List aH:=p.toList.map fun i=>vs.getD i eD
theorem Nb(vs:List aH):Dx vs (eV (bB vs.length))=vs:=by
 unfold Dx;apply iZ
 ·simp
 ·intro i h1 h2;simp[h2]
theorem Ai1{a:Addr}{c0:Nat}{F:PySem.Fin->aR->Prop}(W:Wo lt)(ho:s.heap.get? a=ξ (seqObj "list" vs.toArray c0))(h64:vs.length < 64)
  (hkind:2<=vs.length->∀ (h':Heap) (Q:SortKind->aR->Prop),Kb a s.heap h'->Q κ { s with heap:=h' }->wpAny (model P w) A (keyKind' vs.toArray) Q E { s with heap:=h' })
  (hask:∀ (h':Heap) (i j:Nat) (C:Bool->aR->Prop),Kb a s.heap h'->i < vs.length->j < vs.length->C (lt i j) { s with heap:=h' }->gT P w A κ vs i j C { s with heap:=h' })
  (hq:∀ (p:Array Nat) (h':Heap) (c:Nat),Pm vs.length p->Up lt p vs.length->Kb a s.heap h'->h'.get? a=ξ (seqObj "list" (Dx vs p).toArray c)->F (.done ZdG) { s with heap:=h' }) :
  wpAny (model P w) A (jM.«list.sort» ⟨[.ref a],[]⟩) F E s:=by
 obtain ⟨c1,h1⟩:∃ c1,(s.heap.update a Zq).get? a=ξ (seqObj "list" #[] c1):=⟨_,eO ho fun _=>#[]⟩;have k1:Kb a s.heap (((s.heap.update a Zq).push (seqObj "tuple" vs.toArray 0)).push (seqObj "list" #[] 0)):=((R7 _ _ _).trans (Q6 _ _ _)).trans (Q6 _ _ _);have h3:(((s.heap.update a Zq).push (seqObj "tuple" vs.toArray 0)).push (seqObj "list" #[] 0)).get? a=ξ (seqObj "list" #[] c1):=aG _ (aG _ h1);rw[list_sort_plain];refine aD (mY ho rfl (aD (gJ ho rfl (aD (mE h1 rfl (aD (nN (aD (iV (dQ ?_) (dW _))) ?z2)))) ?z1 (dW _))))
 case z1=>rw[aU,cN];omega
 case z2=>show vs.length<=_;rw[cN];omega
 show wpAny (model P w) A _ F E ({ s with heap:=((s.heap.update a Zq).push (seqObj "tuple" vs.toArray 0)).push (seqObj "list" #[] 0) }:aR);generalize ((s.heap.update a Zq).push (seqObj "tuple" vs.toArray 0)).push (seqObj "list" #[] 0)=hp at k1 h3;dsimp only;have fin:∀ (p:Array Nat) (st:gH),Pm vs.length p->Up lt p vs.length->(arrOf st).map (·.2)=(Dx vs p).toArray->failedOf st=ψ->wpAny (model P w) A (do
   let touched:=(<- seqEpoch a) != c1
   jM.List.listUpdate (.ref a) fun _=>(arrOf st).map (·.2)
   if let ξ e:=failedOf st then rule "list.sort.comparison-raised";throw e
   if touched then rule "list.sort.modified";raiseError "ValueError" "list modified during sort"
   ret .none) F E { s with heap:=hp }:=by
  intro p st hpm hup hout hfail;have hlen:(Dx vs p).length=vs.length:=by unfold Dx;rw[aN,cY,hpm.size]
  obtain ⟨c2,h4⟩:∃ c2,(hp.update a (bH fun _=>(Dx vs p).toArray)).get? a=ξ (seqObj "list" (Dx vs p).toArray c2):=⟨_,eO h3 fun _=>(Dx vs p).toArray⟩;rw[hout,hfail];refine aD (mE h3 rfl (aD (gJ h3 rfl ?_ (dW _) ?z3)))
  case z3=>rw[aU,hlen,cN];omega
  simp only[bne_self_eq_false,bV,if_false];exact aW (hq p _ c2 hpm hup (k1.trans (R7 _ _ _)) h4)
 by_cases hsmall:vs.toArray.size < 2
 ·rw[if_pos hsmall,if_pos hsmall];have hs2:vs.length < 2:=by simpa using hsmall
  refine aD (aW ?_);rw[qP];refine aD (aW (fin (eV (bB vs.length)) (sR general' (vs.toArray.zip vs.toArray) #[] 7 ψ) ⟨Za,Za⟩ ?_ ?_ rfl))
  ·intro i j hij hj;have:i=j:=Ze
   subst this;exact W.refl _
  ·rw[Nb];show (vs.toArray.zip vs.toArray).map (·.2)=vs.toArray;apply tW
   ·simp
   ·intro i i1 i2;simp
 ·rw[if_neg hsmall,if_neg hsmall];have hs2:2<=vs.length:=by simp at hsmall;omega
  refine aD (hkind hs2 hp _ k1 ?_);have on:=(Nu (n:=vs.length) W Ze).wp (cmp:=gT P w A κ vs) (s:={ s with heap:=hp }) (Q:=fun p s'=>(Pm vs.length p/\Up lt p vs.length)/\s' = { s with heap:=hp }) (fun i j C hi hj hC=>hask hp i j C k1 hi hj hC) fun p h=>⟨h,rfl⟩
  refine aD (dG (kat_run (Q:=fun st s'=>∃ p:Array Nat,arrOf st=p.map (kas_item (vs.toArray.zip vs.toArray))/\failedOf st=ψ/\(Pm vs.length p/\Up lt p vs.length)/\s' = { s with heap:=hp }) rfl hs2 h64 (fun p st s' _ q1 q2 q3=>⟨p,q1,q2,q3⟩) on) ?_ fun _ _ e=>e);rintro ⟨⟨⟩,st⟩ s' ⟨p,q1,q2,⟨q3,q4⟩,rfl⟩;exact fin p st q3 q4 (kat_snds rfl q1) q2
theorem Ae9{l:Addr}{Q:aH->aR->Prop}(W:Wo lt)(hl:s.heap.IsList l vs.toArray)(h64:vs.length < 64)
  (hkind:2<=vs.length->∀ (h':Heap) (Q:SortKind->aR->Prop) (E:aH->aR->Prop),ZaD->Q κ { s with heap:=h' }->wpAny (model P w) A.in1.in1 (keyKind' vs.toArray) Q E { s with heap:=h' })
  (hask:∀ (h':Heap) (i j:Nat) (C:Bool->aR->Prop),ZaD->i < vs.length->j < vs.length->C (lt i j) { s with heap:=h' }->gT P w A.in1.in1 κ vs i j C { s with heap:=h' })
  (hq:∀ (p:Array Nat) (h':Heap) (c:Nat),Pm vs.length p->Up lt p vs.length->(∀ b o,s.heap.get? b=ξ o->h'.get? b=ξ o)->h'.get? ZI=ξ (seqObj "list" (Dx vs p).toArray c)->Q (.ref ZI) { s with heap:=h' }) :
  wpAny (model P w) A (call (.builtin "sorted") [.ref l]) Q E s:=by
 have e1:((s.heap.push (seqObj "list" #[] 0)).update s.heap.objs.size (bH (· ++ vs.toArray))).objs.size=s.heap.objs.size+1:=by rw[pF,size_push']
 have e2:(((s.heap.push (seqObj "list" #[] 0)).update s.heap.objs.size (bH (· ++ vs.toArray))).push (seqObj "list" vs.toArray 0)).get? ZI=ξ (seqObj "list" vs.toArray 0):=by rw[<- e1];exact aZ _ rfl
 have e3:∀ b o,s.heap.get? b=ξ o->(((s.heap.push (seqObj "list" #[] 0)).update s.heap.objs.size (bH (· ++ vs.toArray))).push (seqObj "list" vs.toArray 0)).get? b=ξ o:=fun b o q=>
  aG _ (R7 _ _ _ b o (cB (bD q)) (aG _ q))
 have e4:∀ (h':Heap),Kb ZI (((s.heap.push (seqObj "list" #[] 0)).update s.heap.objs.size (bH (· ++ vs.toArray))).push (seqObj "list" vs.toArray 0)) h'->∀ b o,s.heap.get? b=ξ o->h'.get? b=ξ o:=fun h' k b o q=>
  k b o (cB (kY (bD q))) (e3 b o q)
 refine rP rJ qE qF (args_sorted1 _) ?_;unfold jM.«sorted»;refine aD (m:=checkCount "sorted" 1 1 _) (aW (aD (collect_list hl (aD (iV ?_ ?y2)) ?y1)))
 case y1=>rw[cN];omega
 case y2=>rw[cN];omega
 show wpAny _ _ _ _ _ ({ s with heap:=((s.heap.push (seqObj "list" #[] 0)).update s.heap.objs.size (bH (· ++ vs.toArray))).push (seqObj "list" vs.toArray 0) }:aR);rw[e1];generalize ((s.heap.push (seqObj "list" #[] 0)).update s.heap.objs.size (bH (· ++ vs.toArray))).push (seqObj "list" vs.toArray 0)=hp at e2 e3 e4;refine aD (dQ (fF nO ⟨_,e2,rfl⟩ mS (Ai1 (s:={ s with heap:=hp }) W e2 h64 (fun h2 h' Q' k q=>hkind h2 h' Q' _ (e4 h' k) q) (fun h' i j C k=>hask h' i j C (e4 h' k)) fun p h' c a1 a2 a3 a4=>⟨_,rfl,?_⟩) (args_list_sort _)));exact aW ⟨_,rfl,hq p h' c a1 a2 (e4 h' a3) a4⟩
end
end SO
namespace LS
open PySem PyProof PyProof.Rows
noncomputable def Akv:Bool->eL->Array eL->Nat->Nat->Nat->StateT gH Sem ZU:=sortPriv% PySem.Builtin.gallop
noncomputable abbrev Aq4(st:gH)(g:Nat):gH:=sR (kindOf st) (arrOf st) (pendingOf st) g (failedOf st)
variable {prog:cO}{w:dH}{A:eE}{E:aH->aR->Prop}{s:aR}
noncomputable def nk(p:eL):Int:=numOf p.1
def IK(p:eL):Prop:=∃ n t,p.1 = .int n t
def Srt(l:List eL):Prop:=l.Pairwise fun p q=>nk p<=nk q
structure J(L out x y:List eL):Prop where
 perm:(out++(x++y)).Perm L
 sx:Srt (out++x)
 sy:Srt (out++y)
variable {x y:List eL}
theorem Mc:Srt (x++y)↔Srt x/\Srt y/\∀ p∈x,∀ q∈y,nk p<=nk q:=fD
variable {L out:List eL}
theorem J.ga{x1 x2:List eL}(h:J L out (x1++x2) y)(hl:∀ p∈x1,∀ q∈y,nk p<=nk q):J L (out++x1) x2 y:=by
 have a:=h.sx;have b:=Mc.mp h.sy;refine ⟨by simpa[bM] using h.perm,by simpa[bM] using a,?_⟩;rw[<- bM] at a;refine Mc.mpr ⟨(Mc.mp a).1,b.2.1,?_⟩;intro p hp q hq;rcases cX.mp hp with hp | hp
 ·exact b.2.2 p hp q hq
 ·exact hl p hp q hq
theorem J.swap(h:J L out x y):J L out y x:=⟨(qW.append_left out).trans h.perm,h.sy,h.sx⟩
theorem J.gb{y1 y2:List eL}(h:J L out x (y1++y2))(hl:∀ p∈y1,∀ q∈x,nk p<=nk q):J L (out++y1) x y2:=(h.swap.ga hl).swap
def Fin(L:List eL)(r:Array eL):Prop:=r.toList.Perm L/\Srt r.toList
abbrev dn(a b out:Array eL)(ia ib:Nat):Array eL:=out++a.extract ia a.size++b.extract ib b.size
abbrev lA(a b out:Array eL)(ia ib:Nat):Array eL:=out++b.extract ib b.size++a.extract ia a.size
noncomputable abbrev GS:Type:=Option (Array eL)×Array eL×Nat×Nat×Nat×Nat×Nat
noncomputable abbrev AS:Type:=Option (Array eL)×Array eL×Nat×Nat×Nat×Nat
variable {st st':gH}
section
variable {a b:Array eL}
structure Lo(L:List eL)(a b out:Array eL)(ia ib:Nat):Prop where
 ha:ia+1 < a.size
 hb:ib < b.size
 j:J L out.toList (a.toList.drop ia) (b.toList.drop ib)
structure Ms(a b:Array eL)(st:gH):Prop where
 kind:kindOf st=oneType'
 ka:∀ p∈a.toList,IK p
 kb:∀ p∈b.toList,IK p
def Sg(st st':gH):Prop:=∃ g,st'=Aq4 st g
theorem Sg.kind(h:Sg st st'):kindOf st'=kindOf st:=by obtain ⟨g,rfl⟩:=h;rfl
theorem Sg.set(h:Sg st st')(g:Nat):Sg st (Aq4 st' g):=by obtain ⟨g',rfl⟩:=h;exact ⟨g,rfl⟩
theorem Ms.of(h:Ms a b st)(e:Sg st st'):Ms a b st':=⟨e.kind.trans h.kind,h.ka,h.kb⟩
def PG(L:List eL)(a b:Array eL)(st:gH)(m:Nat)(r:ForInStep GS)(st':gH):Prop:=
 Sg st st'/\match r with
 | .done (ξ r,_)=>Fin L r
 | .done (ψ,out,ia,ib,_)=>Lo L a b out ia ib/\m<=ia+ib
 | .yield (ψ,out,ia,ib,_)=>Lo L a b out ia ib/\m<=ia+ib
 | .yield (ξ _,_)=>False
def PA(L:List eL)(a b:Array eL)(st:gH)(m:Nat)(r:ForInStep AS)(st':gH):Prop:=
 Sg st st'/\match r with
 | .done (ξ r,_)=>Fin L r
 | .done (ψ,out,ia,ib,_)=>Lo L a b out ia ib/\m<=ia+ib
 | .yield (ψ,out,ia,ib,_)=>Lo L a b out ia ib/\m<=ia+ib
 | .yield (ξ _,_)=>False
end
noncomputable abbrev HG:Type:=Option (Array eL)×Nat×Nat×Array eL×Nat×Nat×Nat
noncomputable abbrev HO:Type:=Option (Array eL)×Nat×Nat×Array eL×Nat
noncomputable abbrev dnH(a b out:Array eL)(na nb:Nat):Array eL:=a.extract 0 na++b.extract 0 nb++out.reverse
noncomputable abbrev fB(a b out:Array eL)(na nb:Nat):Array eL:=b.extract 0 nb++a.extract 0 na++out.reverse
def hi3(a b:Array eL)(g k k2:Nat)(out:Array eL)(na nb:Nat):StateT gH Sem (ForInStep HG):=do
 let p <- elem' a (na - 1)
 if (na - 1 == 0)=true then pure (.done (ξ (dnH a b (out.push p) (na - 1) nb),na - 1,nb,out.push p,g,k,k2)) else
 if (decide (k < 7)&&decide (k2 < 7))=true then pure (.done (ψ,na - 1,nb,out.push p,g,k,k2)) else pure (.yield (ψ,na - 1,nb,out.push p,g,k,k2))
def hi2(a b:Array eL)(g k bc:Nat)(out:Array eL)(na nb:Nat):StateT gH Sem (ForInStep HG):=do
 let p <- elem' b (nb - 1)
 if (nb - 1 == 1)=true then pure (.done (ξ (fB a b (out.push p) na (nb - 1)),na,nb - 1,out.push p,g,k,bc)) else do
 let q <- elem' a (na - 1)
 let x <- Akv true q b 0 (nb - 1) (nb - 1 - 1)
 match x with
 | some t=>
  if nb - 1 - t > 0 then
   if (t == 1)=true then
    pure (.done (ξ (fB a b ZbD na t),na,t,out.push p++(b.extract t (nb - 1)).reverse,g,k,nb - 1 - t))
   else if (t == 0)=true then
    pure (.done (ξ (dnH a b ZbD na t),na,t,out.push p++(b.extract t (nb - 1)).reverse,g,k,nb - 1 - t))
   else hi3 a b g k (nb - 1 - t) ZbD na t
  else hi3 a b g k (nb - 1 - t) (out.push p) na (nb - 1)
 | _=>pure (.done (ξ (dnH a b (out.push p) na (nb - 1)),na,nb - 1,out.push p,g,k,bc))
structure JH(L R x y:List eL):Prop where
 perm:(x++y++R).Perm L
 sx:Srt (x++R)
 sy:Srt (y++R)
variable {R:List eL}
theorem JH.ga{x1 x2:List eL}(h:JH L R (x1++x2) y)(hl:∀ p∈x2,∀ q∈y,nk q<=nk p):JH L (x2++R) x1 y:=by
 have a:=h.sx;have b:=Mc.mp h.sy;refine ⟨?_,by simpa[bM] using a,?_⟩
 ·refine qQ ?_ h.perm;rw[bM,bM,bM];refine jJ x1 ?_;rw[<- bM,<- bM];exact List.Perm.append_right R qW
 ·rw[bM] at a;refine Mc.mpr ⟨b.1,(Mc.mp a).2.1,?_⟩;intro p hp q hq;rcases cX.mp hq with hq | hq
  ·exact hl q hq p hp
  ·exact b.2.2 p hp q hq
theorem JH.swap(h:JH L R x y):JH L R y x:=⟨(qW.append_right R).trans h.perm,h.sy,h.sx⟩
theorem JH.gb{y1 y2:List eL}(h:JH L R x (y1++y2))(hl:∀ p∈y2,∀ q∈x,nk q<=nk p):JH L (y2++R) x y1:=(h.swap.ga hl).swap
section
variable {a b:Array eL}
structure Hi(L:List eL)(a b out:Array eL)(na nb:Nat):Prop where
 h1:0 < na
 h2:1 < nb
 ha:na<=a.size
 hb:nb<=b.size
 j:JH L out.toList.reverse (a.toList.take na) (b.toList.take nb)
end
section
structure Kn(st:gH):Prop where
 kind:kindOf st=oneType'
 fl:failedOf st=ψ
 ik:∀ p∈(arrOf st).toList,IK p
end
noncomputable abbrev CA:Type:=Option ZU×Nat
noncomputable abbrev CD:Type:=Option ZU×Nat×Nat
def cA(lo:Nat)(_:Nat)(c:CA):StateT gH Sem (ForInStep CA):=do
 let x <- ltAt' (lo+c.2) (lo+c.2 - 1)
 match x with
 | some smaller=>if smaller=true then pure (.done (ψ,c.2)) else pure (.yield (ψ,c.2+1))
 | _=>pure (.done (ξ ψ,c.2))
def c3(lo nrem n:Nat):StateT gH Sem ZU:=do
 reverseSlice' lo (lo+n)
 let d <- forIn [n:nrem] ((ψ,n):CA) (cA lo)
 match d.1 with
 | some r=>pure r
 | none=>pure (ξ d.2)
def cD(lo:Nat)(_:Nat)(c:CD):StateT gH Sem (ForInStep CD):=do
 let x <- ltAt' (lo+c.2.1) (lo+c.2.1 - 1)
 match x with
 | some smaller=>
  if smaller=true then
   if c.2.2 > 0 then do
    reverseSlice' (lo+c.2.1 - (c.2.2+1)) (lo+c.2.1)
    pure (.yield (ψ,c.2.1+1,0))
   else pure (.yield (ψ,c.2.1+1,0))
  else do
   let y <- ltAt' (lo+c.2.1 - 1) (lo+c.2.1)
   match y with
   | some larger=>if larger=true then pure (.done (ψ,c.2.1,c.2.2)) else pure (.yield (ψ,c.2.1+1,c.2.2+1))
   | _=>pure (.done (ξ ψ,c.2.1,c.2.2))
 | _=>pure (.done (ξ ψ,c.2.1,c.2.2))
def c2(lo nrem n:Nat):StateT gH Sem ZU:=do
 liftM (rule "list.sort.descending-run")
 let d <- forIn [n+1:nrem] ((ψ,n+1,0):CD) (cD lo)
 match d.1 with
 | some r=>pure r
 | none=>
  if d.2.2 > 0 then do
   reverseSlice' (lo+d.2.1 - (d.2.2+1)) (lo+d.2.1)
   c3 lo nrem d.2.1
  else c3 lo nrem d.2.1
structure Rb(lo:Nat)(st0 st:gH):Prop where
 perm:(arrOf st).Perm (arrOf st0)
 low:∀ k,k < lo->(arrOf st)[k]? = (arrOf st0)[k]?
 kind:kindOf st=kindOf st0
 fl:failedOf st=failedOf st0
 pend:pendingOf st=pendingOf st0
variable {lo:Nat}{st0:gH}
theorem Rb.size(h:Rb lo st0 st):(arrOf st).size=(arrOf st0).size:=h.perm.size_eq
variable {xs:Array eL}
theorem Rb.set(h:Rb lo st0 st)(hp:xs.Perm (arrOf st))(hl:∀ k,k < lo->xs[k]? = (arrOf st)[k]?):Rb lo st0 (setArr st xs):=
 ⟨hp.trans h.perm,fun k hk=>(hl k hk).trans (h.low k hk),h.kind,h.fl,h.pend⟩
theorem Rb.kn(h:Rb lo st0 st)(k:Kn st0):Kn st:=
 ⟨h.kind.trans k.kind,h.fl.trans k.fl,fun p hp=>k.ik p ((Array.perm_iff_toList_perm.mp h.perm).mem_iff.mp hp)⟩
def So(xs:Array eL)(lo n:Nat):Prop:=∀ i j,i<=j->j < n->K xs (lo+i)<=K xs (lo+j)
def Ni(xs:Array eL)(lo n:Nat):Prop:=∀ i j,i<=j->j < n->K xs (lo+j)<=K xs (lo+i)
theorem So.one:So xs lo 1:=fun i j h1 h2=>by
 have:i=j:=Ze
 subst this;exact mF _
variable {n:Nat}
theorem So.more(h:So xs lo n)(hn:0 < n)(hl:K xs (lo+n - 1)<=K xs (lo+n)):So xs lo (n+1):=fun i j h1 h2=>by
 by_cases hj:j < n
 ·exact h i j h1 hj
 ·have:j=n:=Ze
  subst this;by_cases hi:i=j
  ·subst hi;exact mF _
  ·have:=h i (j - 1) Ze Ze;rw[show lo+(j - 1)=lo+j - 1 by omega] at this;omega
theorem Ni.more(h:Ni xs lo n)(hn:0 < n)(hl:K xs (lo+n)<=K xs (lo+n - 1)):Ni xs lo (n+1):=fun i j h1 h2=>by
 by_cases hj:j < n
 ·exact h i j h1 hj
 ·have:j=n:=Ze
  subst this;by_cases hi:i=j
  ·subst hi;exact mF _
  ·have:=h i (j - 1) Ze Ze;rw[show lo+(j - 1)=lo+j - 1 by omega] at this;omega
variable {ys:Array eL}
theorem Ni.congr(h:Ni xs lo n)(e:∀ k,K ys k=K xs k):Ni ys lo n:=fun i j h1 h2=>by rw[e,e];exact h i j h1 h2
noncomputable abbrev MI:Type:=Option Unit×Unit
noncomputable abbrev RO:Type:=Option Unit×Nat
def mI(pw:Nat)(_:Nat)(_:MI):StateT gH Sem (ForInStep MI):=do
 let s <- get
 match (if (pendingOf s).size > 1 then (pendingOf s)[(pendingOf s).size - 2]? else ψ) with
 | some (_,_,older)=>
  if older<=pw then pure (.done (ψ,())) else do
  let b <- mergeAt' ((pendingOf s).size - 2)
  if (!b)=true then pure (.done (ξ (),())) else pure (.yield (ψ,()))
 | _=>pure (.done (ψ,()))
def r3(lo n:Nat):StateT gH Sem (ForInStep RO):=do
 modify fun s=>setPending s ((pendingOf s).push (lo,n,0))
 pure (.yield (ψ,lo+n))
def r2(size lo n:Nat):StateT gH Sem (ForInStep RO):=do
 let s <- get
 match (pendingOf s).back? with
 | some (s1,n1,_)=>do
  let c <- forIn [0:size] ((ψ,()):MI) (mI (power' size (2 * s1+n1) (2 * s1+n1+n1+n) size))
  match c.1 with
  | some r=>pure (.done (ξ r,lo))
  | none=>do
   modify fun s=>setPending s ((pendingOf s).modify ((pendingOf s).size - 1) fun x=>(x.1,x.2.1,power' size (2 * s1+n1) (2 * s1+n1+n1+n) size))
   r3 lo n
 | _=>r3 lo n
def r1(size:Nat)(_:Nat)(c:RO):StateT gH Sem (ForInStep RO):=
 if c.2 ≥ size then pure (.done (ψ,c.2)) else do
 let x <- countRun' c.2 (size - c.2)
 match x with
 | some found=>
  if found < minRun' size size 0 then do
   liftM (rule "list.sort.binary-insertion")
   let b <- binarySort' c.2 (min (size - c.2) (minRun' size size 0)) found
   if (!b)=true then pure (.done (ξ (),c.2)) else r2 size c.2 (min (size - c.2) (minRun' size size 0))
  else r2 size c.2 found
 | _=>pure (.done (ξ (),c.2))
def f1(_:Nat)(_:MI):StateT gH Sem (ForInStep MI):=do
 let s <- get
 if (pendingOf s).size<=1 then pure (.done (ψ,())) else do
 let b <- mergeAt' (if (if (pendingOf s).size - 2 > 0 then (pendingOf s)[(pendingOf s).size - 2 - 1]?.map (·.2.1) else ψ).any (· < ((pendingOf s)[(pendingOf s).size - 2+1]?.elim 0 (·.2.1)))
  then (pendingOf s).size - 2 - 1 else (pendingOf s).size - 2)
 if (!b)=true then pure (.done (ξ (),())) else pure (.yield (ψ,()))
noncomputable abbrev Pn:Type:=Nat×Nat×Nat
def RL(xs:Array eL):Nat->List Pn->Nat->Prop
 | s,[],e=>s=e
 | s,x::t,e=>x.1=s/\0 < x.2.1/\So xs s x.2.1/\RL xs (s+x.2.1) t e
theorem RL.le:∀ {l:List Pn} {s e:Nat},RL xs s l e->s+l.length<=e
 | [],s,e,h=>by have:s=e:=h;simp[this]
 | x::t,s,e,h=>by have:=RL.le h.2.2.2;have:=h.2.1;simp;omega
theorem So.congr{s:Nat}(h:So xs s n)(e:∀ k,s<=k->k < s+n->K ys k=K xs k):So ys s n:=fun i j a b=>by
 rw[e _ Ze Ze,e _ Ze Ze];exact h i j a b
theorem RL.congr:∀ {l:List Pn} {s e:Nat},RL xs s l e->(∀ k,s<=k->k < e->K ys k=K xs k)->RL ys s l e
 | [],s,e,h,_=>h
 | x::t,s,e,h,hc=>by
  have l1:=RL.le h.2.2.2;exact ⟨h.1,h.2.1,h.2.2.1.congr fun k a b=>hc k a Ze,RL.congr h.2.2.2 fun k a b=>hc k Ze b⟩
section
variable {a₀:Array eL}
structure Rn(a₀:Array eL)(e:Nat)(st:gH):Prop where
 kn:Kn st
 perm:(arrOf st).Perm a₀
 rl:RL (arrOf st) 0 (pendingOf st).toList e
 le:e<=a₀.size
theorem Rn.size{e:Nat}(h:Rn a₀ e st):(arrOf st).size=a₀.size:=h.perm.size_eq
theorem Rn.of(h:Rn a₀ lo st)(b:Rb lo st st'):Rn a₀ lo st':=by
 refine ⟨b.kn h.kn,b.perm.trans h.perm,?_,h.le⟩;rw[b.pend];exact h.rl.congr fun k _ hk=>K_congr (b.low k hk)
end
end LS
namespace SO
open PySem PySem.W PySem.Calls PyProof.Rows
section
variable {P:cO}{w:dH}{A:eE}{E:aH->aR->Prop}{s:aR}{vs:List aH}
end
end SO
namespace MR
open PySem PySem.Spec PyProof.Rows PySem.Calls L2 SO
noncomputable def Fv(ns:List Int):List Int:=ns.mergeSort (fun a b=>decide (a<=b))
theorem Jr(ns:List Int):(Fv ns).Perm ns:=List.mergeSort_perm _ _
theorem Yu(ns:List Int):(Fv ns).Pairwise (·<=·):=by
 have:=List.pairwise_mergeSort (le:=fun a b:Int=>decide (a<=b)) (fun a b c h1 h2=>by simp at h1 h2 ⊢;omega) (fun a b=>by simp;omega) ns;exact this.imp fun h=>by simpa using h
theorem Ali{a b:List Int}(h:a.Perm b)(ha:a.Pairwise (·<=·))(hb:b.Pairwise (·<=·)):a=b:=
 h.eq_of_pairwise (fun x y _ _ h1 h2=>Int.le_antisymm h1 h2) ha hb
theorem Ajb{a b:List Int}(h:a.Perm b)(hb:b.Pairwise (·<=·)):Fv a=b:=Ali ((Jr a).trans h) (Yu a) hb
section
variable {X:Cx}
end
end MR
namespace SO
open PySem PySem.W PySem.Calls PyProof.Rows
section
variable {P:cO}{w:dH}{A:eE}{E:aH->aR->Prop}{s:aR}{vs:List aH}
theorem Ad1{a:Addr}{c0:Nat}{ns:List Int}{F:PySem.Fin->aR->Prop}(ho:s.heap.get? a=ξ (seqObj "list" vs.toArray c0))(hI:fV vs ns)(h64:vs.length < 64)
  (hq:∀ (out:List aH) (ns':List Int) (h':Heap) (c:Nat),fV out ns'->ns'.Perm ns->ns'.Pairwise (·<=·)->Kb a s.heap h'->h'.get? a=ξ (seqObj "list" out.toArray c)->F (.done ZdG) { s with heap:=h' }) :
  wpAny (model P w) A (jM.«list.sort» ⟨[.ref a],[]⟩) F E s:=by
 obtain ⟨c1,h1⟩:∃ c1,(s.heap.update a Zq).get? a=ξ (seqObj "list" #[] c1):=⟨_,eO ho fun _=>#[]⟩;have h3:(((s.heap.update a Zq).push (seqObj "tuple" vs.toArray 0)).push (seqObj "list" #[] 0)).get? a=ξ (seqObj "list" #[] c1):=aG _ (aG _ h1);refine list_sort_tree ho hI h64 fun out ns' a1 a2 a3=>?_
 obtain ⟨c2,h4⟩:∃ c2,(sortedHeap s.heap a vs out).get? a=ξ (seqObj "list" out c2):=⟨_,eO h3 fun _=>out⟩;exact hq out.toList ns' _ c2 a1 a2 a3 ((((R7 _ _ _).trans (Q6 _ _ _)).trans (Q6 _ _ _)).trans (R7 _ _ _)) (by rw[h4])
end
end SO
namespace MR
open PySem PySem.Spec PyProof.Rows PySem.Calls L2 SO
section
variable {X:Cx}
theorem Rk(hc:X.calm=true):CallR X (.builtin "sorted") (fun xs H Q=>∃ (l:Addr) (ns:List Int),xs=[.ref l]/\ns.length < 64/\SqT X.K H l ZG /\
  ∀ (p:Addr),H p=ψ->Q (.ref p) (upd H p (.lst Zds))):=by
 intro pins s σ H xs us Q I r h;obtain ⟨l,ns,rfl,h64,hq,q⟩:=h;obtain ⟨u,rfl,rx⟩:=Er r;cases rx;obtain ⟨its,rv,tp,hz⟩:=I.tuple hq;obtain ⟨o,ho,hcl,cn,hd⟩:=tp;have hI:fV its ns:=C2 rv;have hlen:=rv.length;rw[aN] at hlen;refine rP rJ qE qF (args_sorted1 _) ?_;unfold jM.«sorted»;refine aD (m:=checkCount "sorted" 1 1 _) (aW (aD (tI l (.inr rfl) ho hcl hd (fun h1 kp=>?_) (by rw[aU,cN];omega))));rw[show its.toArray.toList=its from by simp];refine aD (iV ?_ (by rw[cN];omega));have e2:(h1.push (seqObj "list" its.toArray 0)).get? h1.objs.size=ξ (seqObj "list" its.toArray 0):=aZ _ rfl;have e3:∀ b o,h1.get? b=ξ o->(h1.push (seqObj "list" its.toArray 0)).get? b=ξ o:=fun b o q=>aG _ q
 have e4:∀ (h':Heap),Kb h1.objs.size (h1.push (seqObj "list" its.toArray 0)) h'->∀ b o,h1.get? b=ξ o->h'.get? b=ξ o:=fun h' k b o q=>
  k b o (cB (bD q)) (e3 b o q)
 show wpAny _ _ _ _ _ ({ s with heap:=h1.push (seqObj "list" its.toArray 0) }:aR);generalize h1.push (seqObj "list" its.toArray 0)=hp at e2 e3 e4;refine aD (dQ (fF nO ⟨_,e2,rfl⟩ mS (Ad1 (s:={ s with heap:=hp }) e2 hI Ze fun out ns' h' c a1 a2 a3 a4 a5=>⟨_,rfl,?_⟩) (args_list_sort _)));have J0:L2.Inv X pins σ H { s with heap:=h1 }:=I.kept (t':=s.toks) kp;have en:ns'=Fv ns:=(Ajb a2.symm a3).symm;subst en;have hsz:((Fv ns).map V.int).length<=sizeLine:=by
  rw[aN,(Jr ns).length_eq];rw[aN] at hz;exact hz
 have I1:Inv X pins σ (upd H h1.objs.size (.lst Zds)) { s with heap:=h' }:=J0.laid (t':=s.toks) (e4 h' a4) (aP _) ⟨hsz,out,c,Ur a1,a5⟩;exact aW ⟨_,rfl,.ref h1.objs.size,_,I1,rfl,q _ (J0.hok.fresh (aP _))⟩
end
def D8:SC:=fun us L=>match us with
 | [.tup l]=>(mapO toI l).bind fun ns=>if ns.length < 64 then ξ (.ref L.length,L++[.lst ((Fv ns).map U.int)]) else ψ
 | _=>ψ
variable {K:aL}
theorem U5:Ol K (fun xs H Q=>∃ (l:Addr) (ns:List Int),xs=[.ref l]/\ns.length < 64/\SqT K H l ZG /\
  ∀ (p:Addr),H p=ψ->Q (.ref p) (upd H p (.lst Zds))) D8:=by
 intro H α L us xs z L' Q A r e q;unfold D8 at e;split at e
 ·obtain ⟨ns,hns,e⟩:=aB.mp e;split at e
  ·rename_i h64;cases e;obtain ⟨x,rfl,rx⟩:=r.one;unfold RepU at rx;obtain ⟨a,ys,rfl,sq,r2⟩:=rx;rw[Ei r2 hns] at sq;refine ⟨a,ns,rfl,h64,sq,fun p hp=>?_⟩;have rl:RepL K H α ((Fv ns).map U.int) Zds:=by
    generalize Fv ns=ws;induction ws with
    | nil=>exact .nil
    | cons w ws ih=>exact .cons (by unfold RepU;rfl) ih
   obtain ⟨g2,A2,r3⟩:=A.lst rl hp;exact q _ _ _ g2 A2 r3
  ·cases e
 ·cases e
noncomputable def ltT:List Int->List Int->Bool
 | _,[]=>false
 | [],_::_=>true
 | a::x,b::y=>if a == b then ltT x y else decide (a < b)
theorem Jf:∀ x y:List Int,ltT x y=true->ltT y x=false
 | x,[],h=>by unfold ltT at h;cases h
 | [],b::y,_=>by simp[ltT]
 | a::x,b::y,h=>by
  unfold ltT at h ⊢;by_cases e:a=b
  ·subst e;simp only[beq_self_eq_true,if_true] at h ⊢;exact Jf x y h
  ·have h1:(a == b)=false:=by simpa using e
   have h2:(b == a)=false:=by simpa using fun q=>e q.symm
   simp only[h1,h2,bV,if_false,decide_eq_true_eq] at h ⊢;simp only[decide_eq_false_iff_not];omega
theorem Q9:∀ x y z:List Int,ltT y x=false->ltT z y=false->ltT z x=false
 | [],_,z,_,_=>by unfold ltT;rfl
 | a::x,[],z,h,_=>by simp[ltT] at h
 | a::x,b::y,[],_,h=>by simp[ltT] at h
 | a::x,b::y,c::z,h1,h2=>by
  unfold ltT at h1 h2 ⊢;by_cases e1:b=a
  ·subst e1;simp only[beq_self_eq_true,if_true] at h1;by_cases e2:c=b
   ·subst e2;simp only[beq_self_eq_true,if_true] at h2 ⊢;exact Q9 x y z h1 h2
   ·have q:(c == b)=false:=by simpa using e2
    simp only[q,bV,if_false] at h2 ⊢;exact h2
  ·have q1:(b == a)=false:=by simpa using e1
   simp only[q1,bV,if_false,decide_eq_false_iff_not] at h1;by_cases e2:c=b
   ·subst e2;simp only[q1,bV,if_false,decide_eq_false_iff_not];exact h1
   ·have q2:(c == b)=false:=by simpa using e2
    simp only[q2,bV,if_false,decide_eq_false_iff_not] at h2;have e3:c≠a:=Ze
    have q3:(c == a)=false:=by simpa using e3
    simp only[q3,bV,if_false,decide_eq_false_iff_not];omega
theorem Xb:∀ x y:List Int,ltT x y=false->ltT y x=false->x=y
 | [],[],_,_=>rfl
 | a::x,[],_,h=>by simp[ltT] at h
 | [],b::y,h,_=>by simp[ltT] at h
 | a::x,b::y,h1,h2=>by
  unfold ltT at h1 h2;by_cases e:a=b
  ·subst e;simp only[beq_self_eq_true,if_true] at h1 h2;rw[Xb x y h1 h2]
  ·have q1:(a == b)=false:=by simpa using e
   have q2:(b == a)=false:=by simpa using fun q=>e q.symm
   simp only[q1,q2,bV,if_false,decide_eq_false_iff_not] at h1 h2;omega
def leT(x y:List Int):Prop:=ltT y x=false
theorem U0:∀ {a b:List (List Int)},a.Perm b->a.Pairwise leT->b.Pairwise leT->a=b
 | [],b,p,_,_=>p.nil_eq
 | x::r,[],p,_,_=>absurd p.length_eq Za
 | x::r,y::t,p,ha,hb=>by
  have hx:x∈y::t:=p.mem_iff.mp (aQ ..);have hy:y∈x::r:=p.mem_iff.mpr (aQ ..);have e:x=y:=by
   rcases bG.mp hx with h | h
   ·exact h
   ·rcases bG.mp hy with h' | h'
    ·exact h'.symm
    ·exact Xb x y ((dY.mp hb).1 x h) ((dY.mp ha).1 y h')
  subst e;rw[U0 p.cons_inv (dY.mp ha).2 (dY.mp hb).2]
def Adr(x:List Int):List (List Int)->List (List Int)
 | []=>[x]
 | y::r=>if ltT y x=true then y::Adr x r else x::y::r
theorem Pq(x:List Int):∀ l,(Adr x l).Perm (x::l)
 | []=>.refl _
 | y::r=>by
  unfold Adr;split
  ·exact ((Pq x r).cons y).trans (.swap ..)
  ·exact .refl _
theorem P0(x:List Int):∀ l,l.Pairwise leT->(Adr x l).Pairwise leT
 | [],_=>List.pairwise_singleton ..
 | y::r,h=>by
  obtain ⟨h1,h2⟩:=dY.mp h;unfold Adr;split
  ·rename_i hl;refine dY.mpr ⟨fun z hz=>?_,P0 x r h2⟩;rcases bG.mp ((Pq x r).mem_iff.mp hz) with e | e
   ·subst e;exact Jf _ _ hl
   ·exact h1 z e
  ·rename_i hl;have hl:leT x y:=by unfold leT;simpa using hl
   refine dY.mpr ⟨fun z hz=>?_,h⟩;rcases bG.mp hz with e | e
   ·subst e;exact hl
   ·exact Q9 x y z hl (h1 z e)
def K8:List (List Int)->List (List Int)
 | []=>[]
 | x::r=>Adr x (K8 r)
theorem Jj:∀ l,(K8 l).Perm l
 | []=>.refl _
 | x::r=>(Pq x _).trans ((Jj r).cons x)
theorem Ju:∀ l,(K8 l).Pairwise leT
 | []=>.nil
 | x::r=>P0 x _ (Ju r)
inductive Tups(K:aL)(H:Hp):List (List Int)->List V->Prop
 | nil:Tups K H [] []
 | cons {a:Addr} {n:Int} {t:List Int} {ts:List (List Int)} {ys:List V} (h:SqT K H a ((n::t).map V.int)) (r:Tups K H ts ys):Tups K H ((n::t)::ts) (.ref a::ys)
variable {H:Hp}
theorem Tups.len{ts:List (List Int)}{ys:List V}(r:Tups K H ts ys):ts.length=ys.length:=by
 induction r with
 | nil=>rfl
 | cons h r ih=>simp[ih]
theorem Tups.at_{ts:List (List Int)}{ys:List V}(r:Tups K H ts ys):∀ i,i < ts.length->∃ (a:Addr) (n:Int) (t:List Int),ts[i]? = ξ (n::t)/\ys[i]? = ξ (.ref a)/\SqT K H a ZbZ:=by
 induction r with
 | nil=>intro i h;simp at h
 | @cons a n t ts ys h r ih=>
  intro i hi;cases i with
  | zero=>exact ⟨a,n,t,rfl,rfl,h⟩
  | succ i=>simpa using ih i (by simpa using hi)
theorem Ada{ns:List Int}{us:List aH}(r:Vals ZG us):∀ (i:Nat) (v:aH),us[i]? = ξ v->∃ n t,ns[i]? = ξ n/\v = .int n t:=Acf r
theorem Vo{P:cO}{w:dH}{A:eE}{b fin:Bool}{s:aR}{Q:Bool->aR->Prop}:∀ (ns ms:List Int) (xs ys:List aH) (i:Nat),Vals ZG xs->Vals (ms.map V.int) ys->fin=decide (ns.length < ms.length)->Q (ltT ns ms) s->PySem.W.KatLex P w A b fin Q (xs.zip ys) i s
 | [],ms,xs,ys,i,rx,ry,hf,q=>by
  rw[bP] at rx;cases rx;rw[sW];refine vP ?_;rw[hf];cases ms with
  | nil=>exact q
  | cons m ms=>simpa[ltT] using q
 | n::ns,[],xs,ys,i,rx,ry,hf,q=>by
  rw[bP] at ry;cases ry;rw[sL];refine vP ?_;rw[hf];simpa[ltT] using q
 | n::ns,m::ms,xs,ys,i,rx,ry,hf,q=>by
  rw[aS] at rx ry;cases rx with
  | cons r1 r2=>
   cases ry with
   | cons s1 s2=>
    obtain ⟨t,rfl⟩:=r1;obtain ⟨u,rfl⟩:=s1;rw[nG];refine PySem.W.kat_cons (PySem.wpAny_eqBool_int ?_);unfold ltT at q;cases e:(n == m) with
    | true=>
     rw[e,if_pos rfl] at q;exact PySem.W.kat_yes (Vo ns ms _ _ (i+1) r2 s2 (by rw[hf];simp) q)
    | false=>
     rw[e,if_neg Za] at q;refine PySem.W.kat_no ?_;cases (b&&i == 0) with
     | true=>exact oneLt_int q
     | false=>exact PySem.W.kat_one _ _ (lt_int q)
section
variable {X:Cx}
theorem Te(hc:X.calm=true):CallR X (.builtin "sorted") (fun xs H Q=>∃ (l:Addr) (ys:List V) (ts:List (List Int)),xs=[.ref l]/\SqL X.K H l ys/\Tups X.K H ts ys/\ys.length < 64 /\
  ∀ (p:Addr) (ks:List Nat),H p=ψ->(ks.map fun i=>ts.getD i [])=K8 ts->(∀ k∈ks,k < ys.length)->Q (.ref p) (upd H p (.lst ZaU))):=by
 intro pins s σ H xs us Q I r h;obtain ⟨l,ys,ts,rfl,hq,tp,h64,q⟩:=h;obtain ⟨u,rfl,rx⟩:=Er r;cases rx;obtain ⟨its,rv,pl,hz⟩:=I.list hq;have hlen:=rv.length;have htl:=tp.len;have hat:∀ i,i < its.length->∃ (a:Addr) (n:Int) (t:List Int) (vs:List aH),its[i]? = ξ (.ref a)/\ts.getD i []=n::t/\Vals ZbZ vs/\nZ s.heap a vs.toArray:=by
  intro i hi;obtain ⟨a,n,t,e1,e2,sq⟩:=tp.at_ i Ze;obtain ⟨v,e3,rr⟩:=rv.get e2;cases rr;obtain ⟨vs,r2,it,_⟩:=I.tuple sq;exact ⟨a,n,t,vs,e3,by rw[aC,e1];rfl,r2,it⟩
 have W:Wo fun i j=>ltT (ts.getD i []) (ts.getD j []):=⟨fun i j h=>Jf _ _ h,fun i j k h1 h2=>Q9 _ _ _ h1 h2⟩
 refine Ae9 (κ:=tuples' (eM "int" != eM "tuple")) W pl.isList Ze ?kd ?ak ?en
 case kd=>
  intro h2 h' Q' E' kp q';have mk:∀ (m:Nat),m<=its.length->∃ fs:List aH,qR h' (its.drop (its.length - m)) fs/\fs.length=m/\∀ v∈fs,rZ Zg h' (typeOf v) (.type "int"):=by
   intro m;induction m with
   | zero=>intro _;exact ⟨[],by rw[qG,pG];exact mU,rfl,Za⟩
   | succ m ih=>
    intro hm;obtain ⟨fs,k1,k2,k3⟩:=ih Ze;obtain ⟨a,n,t,vs,e1,_,r2,it⟩:=hat (its.length - (m+1)) Ze;obtain ⟨o,ho,hcls,nn,hd⟩:=it;rw[aS] at r2;cases r2 with
    | @cons _ v0 _ vr rr rs=>
     obtain ⟨tk,rfl⟩:=rr;have hdrop:its.drop (its.length - (m+1)) = .ref a::its.drop (its.length - m):=by
      have hlt:its.length - (m+1) < its.length:=Ze
      rw[iO hlt];have:its[its.length - (m+1)] = .ref a:=by
       rw[aE hlt] at e1;exact bQ e1
      rw[this]
      congr 2;omega
     refine ⟨.int n tk::fs,?_,by simp[k2],fun v hv=>?_⟩
     ·rw[hdrop];exact mG (kp _ _ ho) hcls hd rfl k1
     ·rcases bG.mp hv with e | e
      ·subst e;exact oG
      ·exact k3 v e
  obtain ⟨fs,k1,k2,k3⟩:=mk its.length (aP _);rw[dC,kZ] at k1;exact pH (s:={ s with heap:=h' }) k1 Ze k3 rfl q'
 case ak=>
  intro h' i j C kp hi hj hC;obtain ⟨a,n,t,vs,e1,e2,r2,it⟩:=hat i hi;obtain ⟨b,m,u,ws,f1,f2,s2,jt⟩:=hat j hj;obtain ⟨o,ho,_,c1,hd⟩:=it;obtain ⟨o',ho',_,c2,hd'⟩:=jt;have g1:its.getD i eD = .ref a:=by rw[aC,e1];rfl
  have g2:its.getD j eD = .ref b:=by rw[aC,f1];rfl
  unfold gT;rw[g1,g2];refine rK (s:={ s with heap:=h' }) (kp _ _ ho) hd (kp _ _ ho') hd' ?_;have hl1:=r2.length;have hl2:=s2.length;rw[aN] at hl1 hl2;refine Vo (n::t) (m::u) vs ws 0 r2 s2 ?_ ?_
  ·rw[aU,aU,<- hl1,<- hl2]
  ·rw[<- e2,<- f2];exact hC
 case en=>
  intro p h' c hp hu kp hl;have hks:(p.toList.map fun i=>ts.getD i [])=K8 ts:=by
   refine U0 ?_ ?_ (Ju ts)
   ·have e:(bB its.length).map (fun i=>ts.getD i [])=ts:=by
     apply iZ
     ·simp;omega
     ·intro i h1 h2;simp[h2]
    exact ((hp.perm.map _).trans (by rw[e])).trans (Jj ts).symm
   ·rw[eW,fX];intro i j hi hj hij;have hz:p.toList.length=its.length:=by rw[cY];exact hp.size
    have:=hu i j (pN hij) Ze;have ai:at0 p i=p.toList[i]:=by unfold at0;rw[dZ,<- fZ,aE hi];rfl
    have aj:at0 p j=p.toList[j]:=by unfold at0;rw[dZ,<- fZ,aE hj];rfl
    rw[ai,aj] at this;exact this
  have hlt:∀ k∈p.toList,k < ys.length:=fun k hk=>by
   have:=bE.mp (hp.perm.mem_iff.mp hk);omega
  have hrel:Vals (p.toList.map fun i=>ys.getD i .non) (Dx its p):=by
   unfold Dx;have:∀ ks:List Nat,(∀ k∈ks,k < ys.length)->Vals ZaU (ks.map fun i=>its.getD i eD):=by
    intro ks;induction ks with
    | nil=>intro _;exact .nil
    | cons k ks ih=>
     intro hk;have hk0:=hk k (aQ ..);obtain ⟨v,e3,rr⟩:=rv.get (aE hk0);refine .cons ?_ ZbK;show L2.RelV (ys.getD k .non) (its.getD k eD);rw[aC,aC,aE hk0,e3];exact rr
   exact this _ hlt
  have hsz:(p.toList.map fun i=>ys.getD i .non).length<=sizeLine:=by
   have:p.toList.length=its.length:=by rw[cY];exact hp.size
   rw[aN,this,cN];omega
  have I1:Inv X pins σ (upd H ZI (.lst (p.toList.map fun i=>ys.getD i .non))) { s with heap:=h' }:=I.laid (t':=s.toks) kp (lZ _) ⟨hsz,Dx its p,c,hrel,hl⟩;exact ⟨.ref ZI,_,I1,rfl,q _ _ (I.hok.fresh (lZ _)) hks hlt⟩
end
def Nj:U->Option (List Int)
 | .tup l=>mapO toI l
 | _=>ψ
noncomputable def tupI(l:List Int):U:=.tup Zbc
def Fo:SC:=fun us L=>match us with
 | [.ref n]=>(Ap L n).bind fun l=>(mapO Nj l).bind fun ts=>if ts.length < 64/\(ts.all fun t=>!t.isEmpty)=true then ξ (.ref L.length,L++[.lst ((K8 ts).map tupI)]) else ψ
 | _=>ψ
theorem Acq{α:List Addr}:∀ {us:List U} {ys:List V} {ts:List (List Int)},RepL K H α us ys->mapO Nj us=ξ ts->(ts.all fun t=>!t.isEmpty)=true->Tups K H ts ys
 | [],ys,ts,r,e,h=>by
  unfold RepL at r;subst r;simp only[mapO] at e;cases e;exact .nil
 | u::us,ys,ts,r,e,h=>by
  unfold RepL at r;obtain ⟨x,xr,rfl,r1,r2⟩:=r;simp only[mapO] at e;obtain ⟨t,e1,e⟩:=aB.mp e;obtain ⟨tr,e2,e⟩:=aJ.mp e;subst e;rw[lW,bZ] at h;have ih:=Acq r2 e2 h.2;cases u with
  | tup l=>
   unfold RepU at r1;obtain ⟨a,vs,rfl,sq,rl⟩:=r1;have hv:=Ei rl e1;rw[hv] at sq;cases t with
   | nil=>simp at h
   | cons n t=>exact .cons sq ih
  | _=>cases e1
theorem Qr:∀ {us:List U} {ts:List (List Int)},mapO Nj us=ξ ts->us=ts.map tupI
 | [],ts,e=>by simp only[mapO] at e;cases e;rfl
 | u::us,ts,e=>by
  simp only[mapO] at e;obtain ⟨t,e1,e⟩:=aB.mp e;obtain ⟨tr,e2,e⟩:=aJ.mp e;subst e;rw[aS,Qr e2]
  congr 1
  cases u with
  | tup l=>
   have:∀ (l:List U) (t:List Int),mapO toI l=ξ t->l=t.map U.int:=by
    intro l;induction l with
    | nil=>intro t e;simp only[mapO] at e;cases e;rfl
    | cons a l ih=>
     intro t e;simp only[mapO] at e;obtain ⟨x,x1,e⟩:=aB.mp e;obtain ⟨y,y1,e⟩:=aJ.mp e;subst e;rw[aS,<- ih y y1];cases a <;> first | (cases x1;rfl) | cases x1
   unfold tupI;rw[this l t e1]
  | _=>cases e1
theorem Vg:Ol K (fun xs H Q=>∃ (l:Addr) (ys:List V) (ts:List (List Int)),xs=[.ref l]/\SqL K H l ys/\Tups K H ts ys/\ys.length < 64 /\
  ∀ (p:Addr) (ks:List Nat),H p=ψ->(ks.map fun i=>ts.getD i [])=K8 ts->(∀ k∈ks,k < ys.length)->Q (.ref p) (upd H p (.lst ZaU))) Fo:=by
 intro H α L us xs z L' Q A r e q;unfold Fo at e;split at e
 ·obtain ⟨l,hl,e⟩:=aB.mp e;obtain ⟨ts,hts,e⟩:=aB.mp e;split at e
  ·rename_i hc;cases e;obtain ⟨x,rfl,rx⟩:=r.one;obtain ⟨a,ys,rfl,sq,r2⟩:=Ey A hl rx;have tp:=Acq r2 hts hc.2;have hlen:=tp.len;refine ⟨a,ys,ts,rfl,sq,tp,Ze,fun p ks hp hks hlt=>?_⟩;have rl:RepL K H α ((K8 ts).map tupI) ZaU:=by
    rw[<- hks];have hus:=Qr hts;have:∀ ks:List Nat,(∀ k∈ks,k < ys.length)->RepL K H α ((ks.map fun i=>ts.getD i []).map tupI) ZaU:=by
     intro ks;induction ks with
     | nil=>intro _;exact .nil
     | cons k ks ih=>
      intro hk;have hk0:=hk k (aQ ..);have hkt:k < ts.length:=Ze
      refine .cons ?_ ZbK;have eu:l[k]? = ξ (tupI (ts.getD k [])):=by
       rw[hus,bA,aC,aE hkt];rfl
      obtain ⟨x,ex,rx⟩:=r2.get eu;show RepU K H α (tupI (ts.getD k [])) (ys.getD k .non);rw[aC (l:=ys),ex];exact rx
    exact this ks hlt
   obtain ⟨g2,A2,r3⟩:=A.lst rl hp;exact q _ _ _ g2 A2 r3
  ·cases e
 ·cases e
end MR
namespace SO
open PySem PySem.W PyProof.Rows
noncomputable def Wz{α:Type}(lt:Nat->Nat->Bool):KasT α->α
 | .ret a=>a
 | .ask i j k=>Wz lt (k (lt i j))
variable {n:Nat}{lt:Nat->Nat->Bool}
theorem On.run{α:Type}{P:α->Prop}:∀ {t:KasT α},On n lt P t->On n lt (fun a=>a=Wz lt t) t
 | .ret a,h=>rfl
 | .ask i j k,h=>⟨h.1,h.2.1,On.run h.2.2⟩
theorem On.holds{α:Type}{P:α->Prop}:∀ {t:KasT α},On n lt P t->P (Wz lt t)
 | .ret a,h=>h
 | .ask i j k,h=>by
  show P (Wz lt (k (lt i j)));exact On.holds h.2.2
def Cc(lt:Nat->Nat->Bool)(n:Nat):List Nat:=if n < 2 then bB n else (Wz lt (jO n)).toList
theorem F3(W:Wo lt):(Cc lt n).Perm (bB n):=by
 unfold Cc;split
 ·exact .refl _
 ·exact (Nu (n:=n) W Ze).holds.1.perm
end SO
namespace MR
open PySem PySem.Spec PyProof.Rows PySem.Calls L2 SO
section
variable {X:Cx}{pins:List (Addr×Obj)}{σ:L2.St}{H:Hp}{s:aR}{h':Heap}
theorem Inv.adopt{a:Addr}{o:HO}{t':Nat}(I:L2.Inv X pins σ H s)(hf:F9 X pins H a)(k:∀ b o,b≠a->s.heap.get? b=ξ o->h'.get? b=ξ o)(new:ObjOk X.prog X.w (upd H a o) h' a o) :
  L2.Inv X pins σ (upd H a o) { s with heap:=h',toks:=t' }:=by
 have hn:H a=ψ:=hf.1;have na:∀ b u,H b=ξ u->b≠a:=fun b u e z=>by rw[z,hn] at e;cases e
 have st:=Stay.new hn o;refine I.step (g':=s.gens) (d':=s.drawn) (ch:=[a]) (fun b hb=>?_) (fun b o _ _ hc e _=>k b o Zay e) (fun b o _ _ hc e _=>⟨o.slots,k b o Zay e⟩) (fun b u hc e n=>?_) (fun b u hc e=>⟨u,k b u Zay e⟩) st.1 st.2 (fun b ps e=>⟨#[],?_⟩) (fun m hm=>?_) (fun b u e=>?_) I.bare
 ·have e:b=a:=by simpa using hb
  subst e;obtain ⟨_,f1,_,f3,f4,f5⟩:=hf;exact ⟨f3,f1,f4,f5⟩
 ·rw[Aw Zay];exact n
 ·rw[Aw (na b _ e),e];simp
 ·obtain ⟨o1,es,ep,ho,r⟩:=hm;exact ⟨o1,es,ep,k _ o1 (fN hf.2.1) ho,r⟩
 ·by_cases hb:b=a
  ·subst hb;rw[upd_same] at e;cases e;exact new
  ·rw[Aw hb] at e;refine (I.hok b u e).stay (fun c v hc q=>k c v ?_ q) (fun c q=>by rw[Aw (na c _ q)];exact q) fun c xs q=>by rw[Aw (na c _ q)];exact q
   rcases hc with z | z
   ·rw[z];exact hb
   ·exact na c _ z
theorem Ako{A:eE}{k:Nat}{f:Addr}{fd:eT}{p:Str}{m:FN}(F:FnOk X.prog X.w X.K X.mg X.base CX0 k f fd [p] (spF X.K 1 m))(hr:Room k A)(hA:A.frames=X.A.frames)(hb:Binds X.K fd [p] [])
  (I:L2.Inv X pins σ H s) {α:List Addr} {L:UH} {u z:U} {y:V} {x:aH} (Ab:Abs X.K H α L) (ru:RepU X.K H α u y) (rx:L2.RelV y x) (hm:m [u] L=ξ (z,L)) :
  wpAny Zg A (call (.ref f) [x]) (EP X pins σ ZJ) (fun _ _=>False) s:=by
 have e0:=I.env0;have e1:Env0 X.prog X.w X.K X.mg X.base A X.stack s H:=⟨hA.trans e0.frames,e0.mod,e0.bs,e0.bsz,e0.funs,e0.frf,e0.hok,e0.bare⟩;have hsp:spF X.K 1 m [y] H ZJ E0:=⟨α,L,[u],Ab,.cons ru .nil,rfl,z,L,hm,fun v H' α' g A' r'=>⟨α',g,A',r'⟩⟩;have hbt:=hb s [x] I.kIn Za;refine wA (pR (F.run A X.stack s H ⟨[x],[]⟩ [x] [y] _ E0 hr e1 (by simpa using hbt) (.cons rx .nil) hsp) fun r s' hq=>?_);cases r with
 | error e=>exact hq
 | ok fl=>
  cases fl with
  | ret u=>exact I.after hq
  | next=>exact fO hq
  | brk=>exact fO hq
  | cont=>exact fO hq
end
section
variable {X:Cx}{pins:List (Addr×Obj)}{σ:L2.St}{H:Hp}{s:aR}
theorem Wq:∀ l:List Int,mapO toI Zbc=ξ l
 | []=>rfl
 | a::r=>by simp only[aS,mapO,toI,Wq r,aA,aF]
def ltK(ks:List (List Int))(i j:Nat):Bool:=ltT (ks.getD i []) (ks.getD j [])
theorem Ia(ks:List (List Int)):Wo (ltK ks):=⟨fun i j h=>Jf _ _ h,fun i j k h1 h2=>Q9 _ _ _ h1 h2⟩
theorem An1{k:Nat}{f a:Addr}{fd:eT}{p:Str}{m:FN}{c0:Nat}{vs:List aH}{ys:List V}{us:List U}{ks:List (List Int)}{α:List Addr}{L:UH}
  (F:FnOk X.prog X.w X.K X.mg X.base CX0 k f fd [p] (spF X.K 1 m)) (hr:Room k X.A.in1.in1) (hb:Binds X.K fd [p] []) (I:L2.Inv X pins σ H s) (fa:F9 X pins H a)
  (ho:s.heap.get? a=ξ (seqObj "list" vs.toArray c0)) (rv:Vals ys vs) (ru:RepL X.K H α us ys) (Ab:Abs X.K H α L) (hl:ks.length=vs.length) (hk1:∀ t∈ks,t≠[])
  (hk:∀ (i:Nat) (u:U) (t:List Int),us[i]? = ξ u->ks[i]? = ξ t->m [u] L=ξ (tupI t,L)) (h64:vs.length < 64) :
  wpAny Zg X.A.in1.in1 (wK a (.ref f) false) (fun fin s'=>fin = .done ZdG/\∃ H' α',L2.Inv X pins σ (upd H' a (.lst Zam)) s'/\H' a=ψ/\Gr H α H' α'/\Abs X.K H' α' L) X.xe s:=by
 have hyl:=rv.length;have hul:=ru.length;have z1:vs.toArray.size<=sizeLine:=by rw[aU,cN];omega
 obtain ⟨e1,h1⟩:∃ e1,(s.heap.update a Zq).get? a=ξ (seqObj "list" #[] e1):=⟨_,eO ho fun _=>#[]⟩;have hlt:a < s.heap.objs.size:=bD ho;have sb:=cL s.heap a Zq;have I1:L2.Inv X pins σ H { s with heap:=s.heap.update a Zq }:=I.turned (t':=s.toks) Zbf fa.1 fa.2.1 fa.2.2.2.1 fa.2.2.2.2.1 fa.2.2.2.2.2;have hs1:(s.heap.update a Zq).objs.size=s.heap.objs.size:=pF ..;generalize hA:s.heap.update a Zq=hp1 at h1 I1 hs1;have I2:L2.Inv X pins σ H { s with heap:=hp1.push { cls:=.type "tuple",data:=.seq vs.toArray } }:=I1.kept (t':=s.toks) fun b o e=>aG _ e
 have h2:(hp1.push { cls:=.type "tuple",data:=.seq vs.toArray }).get? a=ξ (seqObj "list" #[] e1):=aG _ h1;have hs2:(hp1.push { cls:=.type "tuple",data:=.seq vs.toArray }).objs.size=s.heap.objs.size+1:=by rw[eF,hs1]
 generalize hB:hp1.push { cls:=.type "tuple",data:=.seq vs.toArray } = hp2 at I2 h2 hs2;have I3:L2.Inv X pins σ H { s with heap:=hp2.push { cls:=.type "list",data:=.seq (eV []) } }:=I2.kept (t':=s.toks) fun b o e=>aG _ e
 have h3:(hp2.push { cls:=.type "list",data:=.seq (eV []) }).get? a=ξ (seqObj "list" #[] e1):=aG _ h2;have hkS:(hp2.push { cls:=.type "list",data:=.seq (eV []) }).get? hp2.objs.size=ξ (seqObj "list" #[] 0):=aZ _ rfl;have fk:F9 X pins H hp2.objs.size:=I2.fpOk (s:={ s with heap:=hp2 }) (aP _) ZcT;have hne:hp2.objs.size≠a:=by rw[hs2];exact jC (kY hlt)
 generalize hC:hp2.push { cls:=.type "list",data:=.seq (eV []) } = hp3 at I3 h3 hkS;generalize hS:hp2.objs.size=kS at hkS fk hne;unfold wK;refine aD (mY ho rfl (aD (gJ ho rfl ?_ z1 (dW _))));rw[hA];refine aD (mE (s:={ s with heap:=hp1 }) h1 rfl (aD (nN ?_ (by show vs.length<=_;rw[cN];omega))))
 show wpAny _ _ _ _ _ ({ s with heap:=hp1.push { cls:=.type "tuple",data:=.seq vs.toArray } }:aR);rw[hB];refine aD (iV ?_ (dW _));show wpAny _ _ _ _ _ ({ s with heap:=hp2.push { cls:=.type "list",data:=.seq (eV []) } }:aR);rw[hC];show wpAny _ _ (holding _ (wL a (.ref f) false vs.toArray e1 (.ref hp2.objs.size))) _ _ _;rw[hS];refine dQ ?_;unfold wL;refine aD (nL ?_);rw[<- sS];have pin2:∀ (kv:List aH) (e:Nat) (H':Hp) (s':aR),L2.Inv X pins σ H' s'->H' kS=ψ->H' a=ψ->s'.heap.get? kS=ξ (seqObj "list" kv.toArray e)->s'.heap.get? a=ξ (seqObj "list" #[] e1)->L2.Inv X ((kS,seqObj "list" kv.toArray e)::(a,seqObj "list" #[] e1)::pins) σ H' s':=by
  intro kv e H' s' J n1 n2 g1 g2;refine J.pins_of fun q hq=>?_
  rcases bG.mp hq with rfl | hq
  ·exact ⟨g1,n1,fk.2.1,fk.2.2.1,fun v z=>by cases z⟩
  ·rcases bG.mp hq with rfl | hq
   ·exact ⟨g2,n2,fa.2.1,fa.2.2.1,fun v z=>by cases z⟩
   ·exact J.pin q (aT _ hq)
 refine aD (ksk_fold (fun j s'=>∃ (H':Hp) (α':List Addr) (kv:List aH) (kx:List V) (e:Nat),L2.Inv X ((kS,seqObj "list" kv.toArray e)::(a,seqObj "list" #[] e1)::pins) σ H' s'/\Gr H α H' α'/\Abs X.K H' α' L/\Vals kx kv/\RepL X.K H' α' ((ks.take j).map tupI) kx) vs 0 _
  ⟨H,α,[],[],0,pin2 [] 0 H _ I3 fk.1 fa.1 hkS h3,.refl _ _,Ab,.nil,.nil⟩ ?step ?done)
 case step=>
  rintro j x s' hx ⟨H',α',kv,kx,e,J,g,A',rk,rr⟩;simp only[qC] at rr ⊢;have hj:j < vs.length:=(aI.mp hx).1;obtain ⟨t,ht⟩:∃ t,ks[j]? = ξ t:=⟨ks[j],aE Ze⟩;obtain ⟨y,hy⟩:∃ y,ys[j]? = ξ y:=⟨ys[j],aE Ze⟩;obtain ⟨x',hx',rx⟩:=rv.get hy;rw[hx] at hx';cases hx';obtain ⟨u,hu,ry⟩:=ru.get' hy;have hkl:=rr.length;have hkl2:=rk.length;rw[aN,eQ] at hkl;refine aD (lX (dG (Ako (A:=X.A.in1.in1) F hr rfl hb J A' (ry.mono g) rx (hk j u t hu ht)) (fun v s'' hv=>?_) fun _ _ hF=>hF.elim));obtain ⟨v',H2,J2,rv',α2,g2,A2,r2⟩:=hv;dsimp only;have p1:=J2.pin (kS,seqObj "list" kv.toArray e) ZbO;have p2:=J2.pin (a,seqObj "list" #[] e1) ZaC;have J3:L2.Inv X pins σ H2 s'':=J2.pins_of fun q hq=>J2.pin q Zap
  have sb2:=cL s''.heap kS (bH (·.push v));obtain ⟨e2,he2⟩:∃ e2,(s''.heap.update kS (bH (·.push v))).get? kS=ξ (seqObj "list" (kv.toArray.push v) e2):=⟨_,eO p1.1 (·.push v)⟩;have J4:L2.Inv X pins σ H2 { s'' with heap:=s''.heap.update kS (bH (·.push v)) }:=J3.turned (t':=s''.toks) (fun b o hb e=>(sb2.2 b hb).trans e) p1.2.1 fk.2.1 fk.2.2.2.1 fk.2.2.2.2.1 fk.2.2.2.2.2;refine aD (gJ p1.1 rfl ?_ (by rw[aU,cN];omega) (by rw[vQ,aU,cN];omega));have hpush:kv.toArray.push v=(kv++[v]).toArray:=Za
  rw[hpush] at he2;refine aW ⟨rfl,H2,α2,kv++[v],kx++[v'],e2,pin2 (kv++[v]) e2 H2 _ J4 p1.2.1 p2.2.1 he2 ((sb2.2 a (fN hne)).trans p2.1),g.trans g2,A2,rk.append (.cons rv' .nil),?_⟩;have htk:ks.take (j+1)=ks.take j++[t]:=by rw[iR,ht];rfl
  rw[htk,cP];exact (rr.mono g2).append (.cons r2 .nil)
 case done=>
  rintro s' ⟨H',α',kv,kx,e,J,g,A',rk,rr⟩;have htk:ks.take (0+vs.length)=ks:=iC Ze;rw[htk] at rr;have hkl:=rr.length;have hkl2:=rk.length;rw[aN] at hkl;have hkv:kv.length=vs.length:=Ze
  have p1:=J.pin (kS,seqObj "list" kv.toArray e) ZbO;have p2:=J.pin (a,seqObj "list" #[] e1) ZaC;have J3:L2.Inv X pins σ H' s':=J.pins_of fun q hq=>J.pin q Zap
  refine aD (mY p1.1 rfl ?_);have hat:∀ i,i < kv.length->∃ (b:Addr) (n:Int) (t:List Int) (ws:List aH),kv[i]? = ξ (.ref b)/\ks.getD i []=n::t/\Vals ZbZ ws/\nZ s'.heap b ws.toArray:=by
   intro i hi;obtain ⟨t,ht⟩:∃ t,ks[i]? = ξ t:=⟨ks[i],aE Ze⟩;obtain ⟨y,hy,ry⟩:=rr.get (i:=i) (u:=tupI t) (by rw[bA,ht];rfl);obtain ⟨v,hv,rx⟩:=rk.get hy;unfold tupI RepU at ry;obtain ⟨b,xs,rfl,sq,rl⟩:=ry;cases rx;have hxs:=Ei rl (Wq t);rw[hxs] at sq;obtain ⟨ws,r2,it,_⟩:=J3.tuple sq;cases t with
   | nil=>exact absurd rfl (hk1 [] (cI ht))
   | cons n t=>exact ⟨b,n,t,ws,hv,by rw[aC,ht];rfl,r2,it⟩
  have fin:∀ (q:Array Nat) (st:gH),q.toList=Cc (ltK ks) vs.length->(arrOf st).map (·.2)=(Dx vs q).toArray->failedOf st=ψ->wpAny Zg X.A.in1.in1 (wM a false e1 (.ref kS) st)
    (fun fin s'=>fin = .done ZdG/\∃ H' α',L2.Inv X pins σ (upd H' a (.lst Zam)) s'/\H' a=ψ/\Gr H α H' α'/\Abs X.K H' α' L) X.xe s':=by
   intro q st hq hout hfail;have hperm:=F3 (n:=vs.length) (Ia ks);have hlen:(Dx vs q).length=vs.length:=by unfold Dx;rw[hq,aN,hperm.length_eq,dX]
   have sb1:=cL s'.heap kS Zq;have J4:L2.Inv X pins σ H' { s' with heap:=s'.heap.update kS Zq }:=J3.turned (t':=s'.toks) (fun b o hb e=>(sb1.2 b hb).trans e) p1.2.1 fk.2.1 fk.2.2.2.1 fk.2.2.2.2.1 fk.2.2.2.2.2;have ga:(s'.heap.update kS Zq).get? a=ξ (seqObj "list" #[] e1):=(sb1.2 a (fN hne)).trans p2.1;generalize hG:s'.heap.update kS Zq=g1 at J4 ga;have sb3:=cL g1 a Zc2;obtain ⟨c2,hc2⟩:∃ c2,(g1.update a Zc2).get? a=ξ (seqObj "list" (Dx vs q).toArray c2):=⟨_,eO ga fun _=>(Dx vs q).toArray⟩;have hlt':∀ k∈Cc (ltK ks) vs.length,k < ys.length:=fun k hk=>by
    have:=bE.mp (hperm.mem_iff.mp hk);omega
   have hrel:Vals Zam (Dx vs q):=by
    unfold Dx;rw[hq];have:∀ js:List Nat,(∀ k∈js,k < ys.length)->Vals (js.map fun i=>ys.getD i .non) (js.map fun i=>vs.getD i eD):=by
     intro js;induction js with
     | nil=>intro _;exact .nil
     | cons k js ih=>
      intro hk;have hk0:=hk k (aQ ..);obtain ⟨v,e3,rr⟩:=rv.get (aE hk0);refine .cons ?_ ZbK;show L2.RelV (ys.getD k .non) (vs.getD k eD);rw[aC,aC,aE hk0,e3];exact rr
    exact this _ hlt'
   have hsz:((Cc (ltK ks) vs.length).map fun i=>ys.getD i .non).length<=sizeLine:=by
    rw[aN,hperm.length_eq,dX,cN];omega
   have J5:L2.Inv X pins σ (upd H' a (.lst Zam)) { s' with heap:=g1.update a Zc2 }:=
    Inv.adopt (s:={ s' with heap:=g1 }) (t':=s'.toks) J4 ⟨p2.2.1,fa.2⟩ (fun b o hb e=>(sb3.2 b hb).trans e) ⟨hsz,Dx vs q,c2,hrel,hc2⟩
   unfold wM;refine aD (gJ p1.1 rfl ?_ (by rw[aU,cN];omega) (dW _));rw[hG];refine aD (jB (aD (mE (s:={ s' with heap:=g1 }) ga rfl ?_)));have hout':(if false=true then ((arrOf st).map (·.2)).reverse else (arrOf st).map (·.2))=(Dx vs q).toArray:=by rw[if_neg Za];exact hout
   rw[hout',hfail];refine aD (gJ (s:={ s' with heap:=g1 }) ga rfl ?_ (dW _) (by rw[aU,hlen,cN];omega));simp only[bne_self_eq_false,bV,if_false];exact aW ⟨rfl,H',α',J5,p2.2.1,g,A'⟩
  unfold ksk_end;simp only[bV,if_false];by_cases hsmall:vs.toArray.size < 2
  ·rw[if_pos hsmall,if_pos hsmall];have hs2:vs.length < 2:=by simpa using hsmall
   refine aD (aW ?_);rw[qP];refine aD (aW (fin (eV (bB vs.length)) (sR general' (kv.toArray.zip vs.toArray) #[] 7 ψ) ?_ ?_ rfl))
   ·unfold Cc;rw[if_pos hs2]
   ·rw[Nb];show (kv.toArray.zip vs.toArray).map (·.2)=vs.toArray;apply tW
    ·simp;omega
    ·intro i i1 i2;simp
  ·rw[if_neg hsmall,if_neg hsmall];have hs2:2<=vs.length:=by simp at hsmall;omega
   have mk:∀ (m:Nat),m<=kv.length->∃ fs:List aH,qR s'.heap (kv.drop (kv.length - m)) fs/\fs.length=m/\∀ v∈fs,rZ Zg s'.heap (typeOf v) (.type "int"):=by
    intro m;induction m with
    | zero=>intro _;exact ⟨[],by rw[qG,pG];exact mU,rfl,Za⟩
    | succ m ih=>
     intro hm;obtain ⟨fs,k1,k2,k3⟩:=ih Ze;obtain ⟨b,n,t,ws,q1,_,r2,it⟩:=hat Zdt Ze;obtain ⟨o,ho',hcls,nn,hd⟩:=it;rw[aS] at r2;cases r2 with
     | @cons _ v0 _ vr rr rs=>
      obtain ⟨tk,rfl⟩:=rr;have hdrop:kv.drop Zdt = .ref b::kv.drop (kv.length - m):=by
       have hlt2:kv.length - (m+1) < kv.length:=Ze
       rw[iO hlt2];have:kv[kv.length - (m+1)] = .ref b:=by
        rw[aE hlt2] at q1;exact bQ q1
       rw[this]
       congr 2;omega
      refine ⟨.int n tk::fs,?_,by simp[k2],fun v hv=>?_⟩
      ·rw[hdrop];exact mG ho' hcls hd rfl k1
      ·rcases bG.mp hv with e | e
       ·subst e;exact oG
       ·exact k3 v e
   obtain ⟨fs,k1,k2,k3⟩:=mk kv.length (aP _);rw[dC,kZ] at k1;refine aD (pH k1 Ze k3 rfl ?_);have ask:∀ (i j:Nat) (C:Bool->aR->Prop),i < vs.length->j < vs.length->C (ltK ks i j) s'->gT X.prog X.w X.A.in1.in1 (tuples' (eM "int" != eM "tuple")) kv i j C s':=by
    intro i j C hi hj hC;obtain ⟨b,n,t,ws,q1,q2,r2,it⟩:=hat i Ze;obtain ⟨b',n',t',ws',q1',q2',r2',it'⟩:=hat j Ze;obtain ⟨o,ho1,_,c1,hd⟩:=it;obtain ⟨o',ho2,_,c2,hd'⟩:=it';have g1:kv.getD i eD = .ref b:=by rw[aC,q1];rfl
    have g2:kv.getD j eD = .ref b':=by rw[aC,q1'];rfl
    unfold gT;rw[g1,g2];refine rK ho1 hd ho2 hd' ?_;have hl1:=r2.length;have hl2:=r2'.length;rw[aN] at hl1 hl2;refine Vo (n::t) (n'::t') ws ws' 0 r2 r2' ?_ ?_
    ·rw[aU,aU,<- hl1,<- hl2]
    ·rw[<- q2,<- q2'];exact hC
   have on:=(Nu (n:=vs.length) (Ia ks) Ze).run.wp (cmp:=gT X.prog X.w X.A.in1.in1 (tuples' (eM "int" != eM "tuple")) kv) (s:=s') (Q:=fun q s2=>q=Wz (ltK ks) (jO vs.length)/\s2=s') (fun i j C hi hj hC=>ask i j C hi hj hC) fun q h=>⟨h,rfl⟩
   refine aD (dG (vR (ks:=kv) (vs:=vs) (Q:=fun st s2=>∃ q:Array Nat,arrOf st=q.map (tX (kv.toArray.zip vs.toArray))/\failedOf st=ψ/\q=Wz (ltK ks) (jO vs.length)/\s2=s') hkv hs2 h64 (fun q st s2 _ q1 q2 q3=>⟨q,q1,q2,q3⟩) on) ?_ fun _ _ e=>e);rintro ⟨⟨⟩,st⟩ s2 ⟨q,q1,q2,q3,rfl⟩;refine fin q st ?_ (tY hkv q1) q2;unfold Cc;rw[if_neg Ze,q3]
end
end MR
namespace MR
open PySem PySem.Spec PyProof.Rows PySem.Calls L2
abbrev Ik(o:Obj):HO:=.frz o (.ext fun _=>True)
variable {H:Hp}
theorem Qt{P:cO}{w:dH}{h:Heap}{a:Addr}{o:Obj}(e:h.get? a=ξ o):ObjOk P w H h a (Ik o):=⟨e,trivial,⟨o,e⟩,fun _ _ _ _=>trivial⟩
noncomputable abbrev An6(q:Str)(params:lM)(body:Expr)(scope:jP)(cl:List (Str×Addr))(pm:aH)(c:Addr)(ct:aH):Obj:=vS "<lambda>" q params body scope cl pm c ct
def LamAt(H:Hp)(q:Str)(params:lM)(body:Expr)(scope:jP)(cl:List (Str×Addr))(f:Addr):Prop:=∃ pm c ct,H f=ξ (Ik (An6 q params body scope cl pm c ct))/\LCode H q (.ref c)
variable {q:Str}{v:aH}
theorem LCode.stay{H':Hp}(st:Stay H H')(h:LCode H q v):LCode H' q v:=by
 obtain ⟨c,oc,vs,t,e1,e2,r⟩:=h;exact ⟨c,oc,vs,t,e1,st.2 _ _ _ e2,r⟩
variable {params:lM}{body:Expr}{scope:jP}{cl:List (Str×Addr)}
theorem LamAt.stay{H':Hp}{f:Addr}(st:Stay H H')(h:LamAt H q params body scope cl f):LamAt H' q params body scope cl f:=by
 obtain ⟨pm,c,ct,e,l⟩:=h;exact ⟨pm,c,ct,st.2 _ _ _ e,l.stay st⟩
section
variable {X:Cx}{pins:List (Addr×Obj)}{σ:L2.St}{s:aR}{α:List Addr}{L:UH}{nm:Str}{c P:Addr}{pos:Pos}
theorem Inv.grow{t':Nat}{h':Heap}{P:Addr}{ps more:Array aH}(I:L2.Inv X pins σ H s)(hP:H P=ξ (.tbl ps))(k:∀ b o,b≠P->s.heap.get? b=ξ o->h'.get? b=ξ o)(hp:h'.get? P=ξ { cls:=.none,data:=.fields (ps++more) }) :
  L2.Inv X pins σ (upd H P (.tbl (ps++more))) { s with heap:=h',toks:=t' }:=by
 have nP:∀ b,H b=ψ->b≠P:=fun b n z=>by rw[z,hP] at n;cases n
 refine I.step (g':=s.gens) (d':=s.drawn) (ch:=[]) (fun _ z=>nomatch z) (fun b o _ _ _ e n=>k b o (nP b n) e) (fun b o _ _ _ e n=>⟨o.slots,k b o (nP b n) e⟩) (fun b o _ e n=>by rw[Aw (nP b n)];exact n) (fun b o _ e=>?_) (fun b xs e=>?_) (fun b o u e=>?_) (fun b qs e=>?_) (fun m hm=>?_) (fun b u e=>?_) I.bare
 ·by_cases hb:b=P
  ·subst hb;exact ⟨_,hp⟩
  ·exact ⟨o,k b o hb e⟩
 ·rw[Aw (Ki e hP Zbg)];exact e
 ·rw[Aw (Ki e hP Zbg)];exact e
 ·by_cases hb:b=P
  ·subst hb;rw[hP] at e;cases e;exact ⟨more,upd_same⟩
  ·exact ⟨#[],by rw[Aw hb,e];simp⟩
 ·obtain ⟨o1,es,ep,ho,r⟩:=hm;exact ⟨o1,es,ep,k _ o1 (nP _ I.free) ho,r⟩
 ·by_cases hb:b=P
  ·subst hb;rw[upd_same] at e;cases e;exact hp
  ·rw[Aw hb] at e;refine (I.hok b u e).stay (fun c v hc q=>k c v ?_ q) (fun c q=>by rw[Aw (Ki q hP Zbg)];exact q) fun c xs q=>by rw[Aw (Ki q hP Zbg)];exact q
   rcases hc with z | z
   ·rw[z];exact hb
   ·exact Ki z hP Zbg
theorem Nx{a b:Nat}{v:aH}:∀ {ps:List aH},tQ ps->tQ (ps++[rawInt a,rawInt b,v])
 | [],_=>trivial
 | .int _ _ :: .int _ _::_::rest,h=>Nx (ps:=rest) h
theorem R5{pos:Pos}{a b:Nat}{v cv:aH}:∀ {ps:List aH},tQ ps->codeAmong pos (ps++[rawInt a,rawInt b,v])=ξ cv->codeAmong pos ps=ξ cv\/cv=v
 | [],_,e=>by
  have e':(if ((a:Int) == pos.line&&(b:Int) == pos.col)=true then ξ v else codeAmong pos [])=ξ cv:=e;split at e'
  ·cases e';exact .inr rfl
  ·cases e'
 | .int x _ :: .int y _::w::rest,h,e=>by
  have e':(if (x == pos.line&&y == pos.col)=true then ξ w else codeAmong pos (rest++[rawInt a,rawInt b,v]))=ξ cv:=e;show (if (x == pos.line&&y == pos.col)=true then ξ w else codeAmong pos rest)=ξ cv\/cv=v;split at e'
  ·rename_i hc;rw[if_pos hc];exact .inl e'
  ·rename_i hc;rw[if_neg hc];exact R5 (ps:=rest) h e'
theorem Air(B:LamB X.K X.mg X.base)(hnm:nm∈Fx)(ht:dJ X.K nm=ξ (c,P))(hcode:X.env.code = .ref c)(hq:X.env.qual++("<lambda>" : Str)=Me nm)(hdef:defaultsOf params X.env=([],[]))(hcl:closureFor scope X.env=pure cl)
  (I:L2.Inv X pins σ H s) (A:Abs X.K H α L):wpAny Zg X.A (eval (.Lambda params body scope pos) X.env)
   (fun v s'=>∃ f H',v = .ref f/\L2.Inv X pins σ H' s'/\Gr H α H' α/\Abs X.K H' α L/\LamAt H' (Me nm) params body scope cl f) X.xe s:=by
 obtain ⟨ps,hP,tr,Adg⟩:=A.tab nm hnm c P ht;have hPo:s.heap.get? P=ξ (PySem.W.tabObj ps):=I.hok P _ hP;have C:=(B.hd nm hnm c P ht).keeps I.bk;have G:s.heap.Ns dD X.mg:=I.mod.glob.keeps I.bk;have nbP:∀ b o,X.base.get? b=ξ o->b≠P:=fun b o e z=>by
  have:=(I.bs b o e).2;rw[z,hP] at this;cases this
 have hgP:dD≠P:=by
  obtain ⟨o,es,ep,e,_⟩:=I.mod.glob;exact nbP _ o e
 obtain ⟨bm,ob,b1,b2,b3,b4,b5,b6⟩:=B.bm;have hbG:bm≠dD:=fun z=>by
  obtain ⟨o,es,ep,e,hd,_⟩:=I.mod.glob;rw[z,e] at b3;cases b3;rw[hd] at b6;cases b6
 have hb:s.heap.BuiltinsAt X.mg P:=⟨bm,ob,b1,b2,hbG,nbP _ ob b3,I.bk _ _ b3,b4,b5,b6⟩;refine PySem.W.kla_eval hdef ?_;rw[hq];cases hca:codeAmong pos ps.toList with
 | none=>
  refine PySem.W.kla_makeFunction (mg:=X.mg) hcl I.ok.glob G hcode C hPo tr hca hgP hb fun c' ctv h' tk hx hge hlt hrec htb=>?_
  obtain ⟨c₂,oc,vs,t,e2,hoc,hd,hv⟩:=hrec;cases e2;have I1:L2.Inv X pins σ Zc0 { s with heap:=h',toks:=tk }:=Inv.grow I hP (fun b o hb e=>hx b o hb e) htb;have hc'n:H c'=ψ:=I.hok.fresh hge;have hc'P:c'≠P:=fun z=>by rw[z,hP] at hc'n;cases hc'n
  have hn1:(upd H P Zs) c'=ψ:=by rw[Aw hc'P];exact hc'n
  have I2:L2.Inv X pins σ (upd Zc0 c' (Ik oc)) { s with heap:=h',toks:=tk }:=by
   refine Inv.adopt (s:={ s with heap:=h',toks:=tk }) (t':=tk) I1 ?_ (fun b o _ e=>e) (Qt hoc);exact ⟨hn1,(I.fpOk hge hc'n).2⟩
  have hfs:(upd Zc0 c' (Ik oc)) h'.objs.size=ψ:=I2.hok.fresh (aP _);generalize hO:vS "<lambda>" (Me nm) params body scope cl ((X.mg "__name__").getD .none) c' ctv=fo;have I3:=I2.laid (t':=tk) (o:=Ik fo) (a:=h'.objs.size) (h':=h'.push fo) Zdp (aP _) (Qt (aZ _ (by rw[<- hO];rfl)));have st1:Stay H Zc0:=⟨fun b xs q=>by rw[Aw (Ki q hP Zbg)];exact q,fun b o u q=>by rw[Aw (Ki q hP Zbg)];exact q⟩
  have st2:=Stay.new hn1 (Ik oc);have st3:=Stay.new hfs (Ik fo);have st:=st1.trans (st2.trans st3);have g:Gr H α _ α:=⟨⟨[],Za⟩,st⟩;have keep:∀ b u,b≠P->H b=ξ u->(upd (upd Zc0 c' (Ik oc)) h'.objs.size (Ik fo)) b=ξ u:=fun b u hb e=>by
   have e1:(upd H P Zs) b=ξ u:=by rw[Aw hb];exact e
   have e2:(upd Zc0 c' (Ik oc)) b=ξ u:=by rw[Aw (Bc e1 hn1)];exact e1
   rw[Aw (Bc e2 hfs)];exact e2
  have lc:LCode (upd (upd Zc0 c' (Ik oc)) h'.objs.size (Ik fo)) (Me nm) (.ref c'):=
   ⟨c',oc,vs,t,rfl,by rw[Aw (cB hlt),upd_same],hd,hv⟩
  refine ⟨h'.objs.size,_,rfl,I3,g,⟨A.len,A.inj,fun i a o e1 e2=>(A.rep i a o e1 e2).other g ?_,fun nm2 hn2 c2 P2 e2=>?_⟩,⟨_,c',ctv,by rw[<- hO];exact upd_same,lc⟩⟩
  ·by_cases hr:o.isRo=true
   ·exact .inl hr
   ·refine .inr fun u q=>keep a u (fun z=>?_) q
    rw[z,hP] at q;cases q;have hr':=A.rep i a o e1 e2;rw[z] at hr';cases o with
    | lst us=>obtain ⟨xs,e,_⟩:=hr';rw[hP] at e;cases e
    | ro us=>exact hr rfl
    | dic kvs=>obtain ⟨xs,e,_⟩:=hr';rw[hP] at e;cases e
    | rod kvs=>obtain ⟨o,xs,e,_⟩:=hr';rw[hP] at e;cases e
    | ins C fs=>obtain ⟨_,_,_,_,e,_⟩:=hr';rw[hP] at e;cases e
    | exc C fr fs=>obtain ⟨_,_,_,_,e,_⟩:=hr';rw[hP] at e;cases e
  ·by_cases hPP:P2=P
   ·subst hPP;obtain ⟨ps2,hP2,tr2,good2⟩:=A.tab nm2 hn2 c2 P2 e2;rw[hP] at hP2;cases hP2;have hqq:Me nm2=Me nm:=by rw[B.inj nm2 hn2 nm hnm c2 c P2 e2 ht]
    have e3:(upd (upd H P2 Zs) c' (Ik oc)) P2=ξ Zs:=by rw[Aw (fN hc'P),upd_same]
    refine ⟨_,by rw[Aw (Bc e3 hfs)];exact e3,?_,fun p cv e=>?_⟩
    ·simpa using Nx (a:=pos.line) (b:=pos.col) (v:=.ref c') tr
    ·rcases R5 (a:=pos.line) (b:=pos.col) (v:=.ref c') tr (by simpa using e) with z | z
     ·exact (good2 p cv z).stay st
     ·rw[z,hqq];exact lc
   ·exact (A.tab nm2 hn2 c2 P2 e2).keep st.2 fun ps' e=>keep P2 _ hPP e
 | some cv=>
  obtain ⟨c',oc,vs,t,rfl,e2,hd,hv⟩:=Adg pos cv hca;refine PySem.W.kla_makeFunctionHit (mg:=X.mg) hcl I.ok.glob G hcode C hPo tr hca hb fun ctv h' tk hk hsz=>?_
  have I1:L2.Inv X pins σ H { s with heap:=h',toks:=tk }:=I.kept hk;have hfs:H h'.objs.size=ψ:=I1.hok.fresh (aP _);generalize hO:({ cls:=.type "function",data:=.func (wN "<lambda>" (Me nm) params body scope cl ((X.mg "__name__").getD .none) (.ref c') ctv) }:Obj)=fo;have I3:=I1.laid (t':=tk) (o:=Ik fo) (a:=h'.objs.size) (h':=h'.push fo) Zdp (aP _) (Qt (aZ _ (by rw[<- hO];rfl)));have g:Gr H α (upd H h'.objs.size (Ik fo)) α:=⟨⟨[],Za⟩,.new hfs _⟩;refine ⟨h'.objs.size,_,rfl,I3,g,⟨A.len,A.inj,fun i a o e1 e2=>(A.rep i a o e1 e2).other g (.inr fun u q=>by rw[Aw (Bc q hfs)];exact q),A.tabs g.st (Qy hfs _)⟩,⟨_,c',ctv,by rw[<- hO];exact upd_same,?_⟩⟩;exact LCode.stay g.st ⟨c',oc,vs,t,rfl,e2,hd,hv⟩
end
def P6(X:Cx)(A:eE)(N':List Str)(q:Str)(scope:jP)(f c:Addr)(cl:List (Str×Addr))(s:aR)(H:Hp):Cx where
 prog:=X.prog
 w:=X.w
 K:=X.K
 mg:=X.mg
 base:=X.base
 A:=A.deeper (qH q scope s.heap.objs.size f (.ref c) cl)
 N:=N'
 s₀:=s
 H₀:=H
 env:=qH q scope s.heap.objs.size f (.ref c) cl
 outer:=X.stack
 stack:=qH q scope s.heap.objs.size f (.ref c) cl::X.stack
 ex:=[]
 calm:=true
 fn:=fun _=>false
 pn:=[]
 xe:=fun _ _=>False
structure LamSc(X:Cx)(params:lM)(body:Expr)(scope:jP)(N':List Str)(ix:List ZU)(p:Str):Prop where
 sc:CompSc X scope N' ix
 pre:N'[0]? = ξ p
 par:scope.names.lookup p=ξ .local
 co:scope.isCoroutine=false
 gen:scope.isGenerator=false
 binds:∀ (q:Str) (cl:List (Str×Addr)) (pm cd ct v:aH),vZ (wN "<lambda>" q params body scope cl pm cd ct) ⟨[v],[]⟩=pure [(p,v)]
def Xc(ix:List ZU)(u:U)(δ:UE):UE:=(Ea ix δ).set 0 (ξ u)
section
variable {X:Cx}{pins:List (Addr×Obj)}{σ:L2.St}{s:aR}{α:List Addr}{L:UH}{c f:Addr}{N':List Str}{ix:List ZU}{p:Str}{A:eE}
theorem Ad5(S:LamSc X params body scope N' ix p)(hA:A.frames=X.A.frames)(hh:A.handled=ψ)(I2:L2.Inv X pins σ H s)(hcl:∀ x c,cl.lookup x=ξ c->X.env.cells.lookup x=ξ c)(hcl2:∀ y∈scope.names,y.2 = .free->∃ c,cl.lookup y.1=ξ c)
  {y:V} {x0:aH} (ry:L2.RelV y x0) {h4:Heap} {t4:Nat} (hns:h4.Ns s.heap.objs.size (fun z=>[(p,x0)].reverse.lookup z)) (keep:∀ b o,s.heap.get? b=ξ o->h4.get? b=ξ o) :
  L2.Inv ZbE [] ((inner ix σ).set 0 (ξ y)) H { s with heap:=h4,toks:=t4 }:=by
 have e0:=I2.env0;have ok:(P6 X A N' q scope f c cl s H).Ok:=
  { mod:=I2.ok.mod
    kind:=S.sc.kind
    glob:=rfl
    blt:=rfl
    above:=aP _
    inj:=fun x y c e1 e2=>I2.ok.inj x y c (hcl x c e1) (hcl y c e2)
    has:=fun x h=>by
     have h':scope.names.lookup x=ξ .cell\/scope.names.lookup x=ξ .free:=h;rcases h' with h' | h'
     ·have:=bT.mp S.sc.cell _ (Dp h');simp at this
     ·exact hcl2 _ (Dp h') rfl
    cab:=fun x c h=>by cases h
    hd:=fun _=>hh
    frames:=rC (hA.trans e0.frames)
    stk:=.inr ⟨rfl,rfl⟩
    exf:=fun b hb=>absurd (show b∈([]:List Addr) from hb) Za
    bs:=fun b o e=>I2.bs b o e
    bsz:=eC I2.ok.bsz I2.sz
    noex:=fun b o e hb=>absurd (show b∈([]:List Addr) from hb) Za
    exfs:=fun b hb z=>absurd (show b∈([]:List Addr) from hb) Za
    funs:=I2.stack
    frf:=I2.stkFree }
 obtain ⟨m0,hn0,hl0⟩:=id I2.loc;refine ⟨ok,rfl,I2.bare,Un.kept keep,⟨_,hns,fun j x v e1 e2 e3=>?_⟩,fun x c e=>?_,I2.hok.fresh (aP _),fun x c e=>I2.freeC x c (hcl x c e),fun p hp=>absurd (show p∈([]:List (Addr×Obj)) from hp) Za,I2.hok.kept keep,?_⟩
 ·have e1':N'[j]? = ξ x:=e1;have e2':((inner ix σ).set 0 (ξ y))[j]? = ξ (ξ v):=e2;by_cases hj:0=j
  ·subst hj;rw[S.pre] at e1';cases e1';have hlen:0 < (inner ix σ).length:=by
    unfold inner;rw[aN,<- S.sc.len];exact (aI.mp S.pre).1
   rw[bI hlen] at e2';cases e2';exact ⟨x0,ry,.inl ⟨S.par,Za⟩⟩
  ·rw[bF hj] at e2';unfold inner at e2';rw[bA] at e2';cases hx:ix[j]? with
   | none=>rw[hx] at e2';simp at e2'
   | some o=>
    rw[hx] at e2';cases o with
    | none=>simp at e2'
    | some i=>
     simp at e2';have hz:(x,ξ i)∈N'.zip ix:=cI (i:=j) (by rw[nU];exact ⟨e1',hx⟩)
     have hz':=bT.mp S.sc.ixs _ hz;simp only[bZ,beq_iff_eq] at hz';obtain ⟨hXN,hfr⟩:=hz';have hσ:σ[i]? = ξ (ξ v):=by
      cases q:σ[i]? with
      | none=>rw[q] at e2';simp at e2'
      | some o=>rw[q] at e2';simp at e2';rw[e2']
     have hk:=bT.mp S.sc.free _ (Dp hfr);simp at hk;have hvis:Vis X.env.scope x:=by
      rcases hk with q | q
      ·exact .inr (.inl q)
      ·exact .inr (.inr q)
     obtain ⟨u,r,look⟩:=hl0 i x v hXN hσ hvis;rcases look with ⟨q,_⟩ | ⟨_,c,ec,hc⟩
     ·rcases hk with z | z
      ·rw[z] at q;cases q
      ·rw[z] at q;cases q
     ·obtain ⟨c',ec'⟩:=hcl2 _ (Dp hfr) rfl;have:c'=c:=by have:=hcl x c' ec';rw[ec] at this;cases this;rfl
      subst this;refine ⟨u,r,.inr ⟨.inr hfr,c',ec',?_⟩⟩;obtain ⟨oc,ho,hd⟩:=hc;exact ⟨oc,keep _ _ ho,hd⟩
 ·obtain ⟨v,oc,ho,hd⟩:=I2.cell x c (hcl x c e);exact ⟨v,oc,keep _ _ ho,hd⟩
 ·show ((inner ix σ).set 0 (ξ y)).length=N'.length;rw[mK,S.sc.len];simp[inner]
theorem Ajj{k:Nat}{fb:FE}{δ:UE}(S:LamSc X params body scope N' ix p)(hr:Room (k+1) A)(hA:A.frames=X.A.frames)(hcl:∀ x c,cl.lookup x=ξ c->X.env.cells.lookup x=ξ c)(hcl2:∀ y∈scope.names,y.2 = .free->∃ c,cl.lookup y.1=ξ c)
  (hb:∀ (c:Addr) (s:aR) (H:Hp),Room k (P6 X A N' q scope f c cl s H).A->PEF ZbE body fb)
  (I:L2.Inv X pins σ H s) (Ab:Abs X.K H α L) (Sg:RepS X.K H α δ σ) (la:LamAt H q params body scope cl f) {u z:U} {y:V} {x:aH} (ru:RepU X.K H α u y) (rx:L2.RelV y x) (hm:fb (Xc ix u δ) L=ξ (z,L)) :
  wpAny Zg A (call (.ref f) [x]) (EP X pins σ ZJ) (fun _ _=>False) s:=by
 obtain ⟨pm,c,ct,hf,c',oc,vs,t,e1,e2,hd,hv⟩:=la;cases e1;have ho:=(I.hok f _ hf).1;have hoc:=(I.hok c _ e2).1;refine wA (PySem.W.kla_callFunE hr.depth ho rfl S.co S.gen rfl ⟨c,oc,vs,t,rfl,hoc,hd,hv⟩ ?_);rw[S.binds q cl pm (.ref c) ct x];have hcell:∀ z∈scope.names,z.2≠.cell:=fun z hz=>by
  have:=bT.mp S.sc.cell z hz;simpa using this
 refine aW (rF hcell (fun z hz=>by obtain rfl:z=(p,x):=bS.mp hz;exact S.par) (fun h₁ hns hsb=>⟨I.nolimit.fresh _ hsb,?_⟩) S.sc.kind);have hk₁:∀ b o,s.heap.get? b=ξ o->h₁.get? b=ξ o:=fun b o e=>hsb.extBut b o (cB (bD e)) (aG _ e)
 have J:L2.Inv ZbE [] ((inner ix σ).set 0 (ξ y)) H { s with heap:=h₁,toks:=s.toks+[(p,x)].length }:=Ad5 S hA hr.hd I hcl hcl2 rx hns hk₁;have hrr:Room k (P6 X A N' q scope f c cl s H).A:=hr.deeper _;show mW _ _ (.expr body (qH q scope s.heap.objs.size f (.ref c) cl)) _ _;refine PySem.W.kla_codeExpr (dG (hb c s H hrr [] _ _ H ZJ J ⟨α,Xc ix u δ,L,Ab,(Sg.inner ix).set 0 ru,z,L,hm,fun v H' α' g A' r'=>⟨α',g,A',r'⟩⟩) (fun v s' he=>?_) fun _ _ hF=>hF.elim);obtain ⟨v',H',J',rv',hq⟩:=he;exact I.after ⟨v',H',J'.os,J'.bare,J'.base,J'.hok,rv',hq⟩
end
end MR
namespace MR
open PySem PySem.Spec PyProof.Rows PySem.Calls L2 SO
theorem Adn{A:eE}{s:aR}{a b:Addr}{vs us:List aH}{ns ms:List Int}(ha:nZ s.heap a vs.toArray)(hb:nZ s.heap b us.toArray)(ra:Vals ZG vs)(rb:Vals (ms.map V.int) us)(hu:A.units < cLine):sJ A s (.ref a) (.ref b) (decide (ns=ms)):=by
 by_cases h:a=b
 ·subst h;obtain ⟨o,e1,_,n,d1⟩:=ha;obtain ⟨o',e2,_,n',d2⟩:=hb;rw[e1] at e2;cases e2;rw[d1] at d2;injection d2 with d3 _
  have:vs=us:=by simpa using congrArg sT d3
  subst this;have:ns=ms:=by
   have h1:=C2 ra;have h2:=C2 rb;have:∀ (vs:List aH) (ns ms:List Int),fV vs ns->fV vs ms->ns=ms:=by
    intro vs;induction vs with
    | nil=>intro ns ms a b;cases a;cases b;rfl
    | cons v vs ih=>
     intro ns ms a b;cases a with
     | cons _ _ a'=>cases b with
      | cons _ _ b'=>rw[ih _ _ a' b']
   exact this vs ns ms h1 h2
  rw[decide_eq_true this];exact vL _
 ·have hl1:=ra.length;have hl2:=rb.length;rw[aN] at hl1 hl2;have key:=SeqAt.RcAt.tuples (A:=A) (s:=s) (l:=a) (b:=b) (items:=vs.toArray) (items2:=us.toArray) (e:=fun j=>decide (ns[j]? = ms[j]?)) ha hb hu (fun j h1 h2=>by
   simp only[aU] at h1 h2;obtain ⟨n,t,en,ev⟩:=Ada ra j vs[j] (aE h1);obtain ⟨m,t',em,eu⟩:=Ada rb j us[j] (aE h2);have e1:(vs.toArray)[j]=nA n t:=by simpa using ev
   have e2:(us.toArray)[j]=nA m t':=by simpa using eu
   rw[e1,e2];obtain ⟨e,he,hiff⟩:=HT.Sm A.in1 s n t m t';have:e=decide (ns[j]? = ms[j]?):=by
    rw[en,em,kE,hiff];simp
   rw[<- this];exact he)
  have e:((bB (min vs.toArray.size us.toArray.size)).all (fun j=>decide (ns[j]? = ms[j]?))&&vs.toArray.size == us.toArray.size)=decide (ns=ms):=by
   rw[kE,bZ,bT,beq_iff_eq,decide_eq_true_eq];simp only[aU,bE,decide_eq_true_eq];constructor
   ·rintro ⟨h1,h2⟩;apply kX;intro i;by_cases hi:i < ns.length
    ·exact h1 i Ze
    ·rw[cH Ze,cH Ze]
   ·rintro rfl;exact ⟨fun i _=>rfl,Ze⟩
  rw[e] at key;exact sJ.of_refs h key
inductive PTups(K:aL)(H:Hp)(m:Nat):List Zdd->List V->Prop
 | nil:PTups K H m [] []
 | cons {a b c:Addr} {p:List Int×List Int} {ts:List (List Int×List Int)} {ys:List V} (h:SqT K H a [.ref b,.ref c]) (hb:SqT K H b (p.1.map V.int)) (hc:SqT K H c (p.2.map V.int)) (hm:p.1.length=m) (r:PTups K H m ts ys):PTups K H m (p::ts) (.ref a::ys)
theorem PTups.len{K:aL}{H:Hp}{m:Nat}{ts:List Zdd}{ys:List V}(r:PTups K H m ts ys):ts.length=ys.length:=by
 induction r with
 | nil=>rfl
 | cons _ _ _ _ _ ih=>simp[ih]
theorem PTups.at_{K:aL}{H:Hp}{m:Nat}{ts:List Zdd}{ys:List V}(r:PTups K H m ts ys):∀ i,i < ts.length->∃ (a b c:Addr) (p:List Int×List Int),ts[i]? = ξ p/\ys[i]? = ξ (.ref a)/\SqT K H a [.ref b,.ref c]/\SqT K H b (p.1.map V.int)/\SqT K H c (p.2.map V.int)/\p.1.length=m:=by
 induction r with
 | nil=>intro i h;simp at h
 | @cons a b c p ts ys h hb hc hm r ih=>
  intro i hi;cases i with
  | zero=>exact ⟨a,b,c,p,rfl,rfl,h,hb,hc,hm⟩
  | succ i=>simpa using ih i (by simpa using hi)
section
variable {X:Cx}
end
end MR
namespace MR
open PySem PyProof.Rows L2
theorem Sv:∀ x y:List Int,HT.Gx x y=ltT x y
 | [],[]=>by unfold HT.Gx ltT;rfl
 | a::x,[]=>by unfold HT.Gx ltT;rfl
 | [],b::y=>by unfold HT.Gx ltT;rfl
 | a::x,b::y=>by
  have ih:=Sv x y;rw[HT.Sr,ltT,ih];by_cases h:a=b
  ·subst h;simp
  ·have h':(a == b)=false:=by simpa using h
   rw[h',if_neg h,if_neg Za]
end MR
namespace HT
open PySem PyProof.Rows
open PySem.SeqAt
open PySem.AutoSeq1 (wpAny_loadPart')
open PySem.MeetsSeq PySem.MeetsSeq2 PySem.MeetsSeq3
def RcL(A:eE)(s:aR)(y x:aH)(b:Bool):Prop:=
 ∀ (prog:cO) (w:dH) (E:aH->aR->Prop) (Q:aH->aR->Prop),Q (.bool b) s->wpAny Zw A (richCompare .Lt y x) Q E s
theorem Uk(l b:Addr)(x1 x2 y1 y2:aH)(n n2:Nat)(dd dd2:Option Addr)(sl sl2:Array (Option aH))(e1 e2 r:Bool) :
  Meets (jM.«tuple.__lt__» ⟨[.ref l,.ref b],[]⟩)
   (fun A R s=>s.heap.get? l=ξ { cls:=.type "tuple",dict:=dd,data:=.seq #[x1,x2] n,slots:=sl }/\s.heap.get? b=ξ { cls:=.type "tuple",dict:=dd2,data:=.seq #[y1,y2] n2,slots:=sl2 } /\
    EqAt A.in1 s x1 y1 e1/\EqAt A.in1 s x2 y2 e2/\(e1=false->RcL A.in1 s x1 y1 r)/\(e1=true->e2=false->RcL A.in1 s x2 y2 r)/\(e1=true->e2=true->r=false)/\R (.ok (.ret (.bool r))) s):=
 .of_wp fun prog w A R s h=>by
  obtain ⟨hp,g,d,tk,os⟩:=s;obtain ⟨hl,hb,q1,q2,c1,c2,c3,h⟩:=h;have f2:=oN
  wp_walk using jF hl,jF hb,tO _ (fun rest b s'=>b.1=ψ/\s'=⟨hp,g,d,tk,os⟩/\(rest=[(x1,y1),(x2,y2)]\/(e1=true/\rest=[(x2,y2)])\/(e1=true/\e2=true/\rest=[]))) _
  case turn=>
   rintro ⟨y,x⟩ rest b s' ⟨hb',rfl,hz⟩;rcases hz with hz | ⟨he,hz⟩ | ⟨_,_,hz⟩
   ·cases hz;refine aD (q1 prog w _ _ ?_);cases e1 with
    | true=>
     wp_walk
     exact ⟨rfl,rfl,.inr (.inl ⟨rfl,rfl⟩)⟩
    | false=>
     have hri:=c1 rfl prog w
     wp_walk using hri
     exact ⟨_,rfl,by simpa using h⟩
   ·cases hz;refine aD (q2 prog w _ _ ?_);cases e2 with
    | true=>
     wp_walk
     exact ⟨rfl,rfl,.inr (.inr ⟨he,rfl,rfl⟩)⟩
    | false=>
     have hri:=c2 he rfl prog w
     wp_walk using hri
     exact ⟨_,rfl,by simpa using h⟩
   ·cases hz
  case fin=>
   rintro ⟨b1,b2⟩ s' ⟨hb',rfl,hz⟩;simp only at hb';subst hb';rcases hz with hz | ⟨he,hz⟩ | ⟨he,he2,hz⟩
   ·cases hz
   ·cases hz
   ·have hr:=c3 he he2;subst hr
    wp_walk
    exact ⟨_,rfl,by simpa[lF] using h⟩
  case h=>exact ⟨rfl,rfl,.inl rfl⟩
section
variable {prog:cO}{w:dH}{A:eE}{E:aH->aR->Prop}{s:aR}
theorem Akx{l b:Addr}{x1 x2 y1 y2:aH}{e1 e2 r:Bool}{Q:aH->aR->Prop}(hl:nZ s.heap l #[x1,x2])(hb:nZ s.heap b #[y1,y2])(q1:EqAt A.in1 s x1 y1 e1)(q2:EqAt A.in1 s x2 y2 e2)
  (c1:e1=false->RcL A.in1 s x1 y1 r) (c2:e1=true->e2=false->RcL A.in1 s x2 y2 r) (c3:e1=true->e2=true->r=false)
  (hu:A.units < cLine) (h:Q (.bool r) s):wpAny Zw A (richCompare .Lt (.ref l) (.ref b)) Q E s:=by
 obtain ⟨⟨cls,dd,data,sl⟩,ho,hc,n,hd⟩:=id hl;obtain ⟨⟨cls2,dd2,data2,sl2⟩,ho2,hc2,n2,hd2⟩:=id hb;simp only at hc hd hc2 hd2;subst hc hd hc2 hd2;exact pT (op:=.Lt) ⟨_,ho,rfl⟩ ⟨_,ho2,rfl⟩ qT pV (oZ _ _) (Uk l b x1 x2 y1 y2 n n2 dd dd2 sl sl2 e1 e2 r)
  ⟨ho,ho2,q1,q2,c1,c2,c3,show sE r≠rD/\Q (.bool r) s from ⟨(fun x=>nomatch x),h⟩⟩ hu
end
end HT
namespace MR
open PySem PySem.Spec PyProof.Rows L2 SO
def ltU:U->U->Option Bool
 | .tup [.int a,.tup b],.tup [.int c,.tup d]=>(mapO toI b).bind fun bs=>(mapO toI d).map fun ds=>if a=c then ltT bs ds else decide (a < c)
 | .tup a,.tup b=>(mapO toI a).bind fun ns=>(mapO toI b).map fun ms=>ltT ns ms
 | _,_=>ψ
theorem Ao6{X:Cx}{pins:List (Addr×Obj)}{σ:L2.St}{H:Hp}{s:aR}{α:List Addr}{u w:U}{x y:V}{v v':aH}{b:Bool}{A:eE}{E:aH->aR->Prop}{Q:aH->aR->Prop}(I:L2.Inv X pins σ H s)(ru:RepU X.K H α u x)(rw:RepU X.K H α w y)
  (rx:L2.RelV x v) (ry:L2.RelV y v') (h:ltU u w=ξ b) (hu:A.units+4 < cLine) (q:Q (.bool b) s):wpAny Zg A (richCompare .Lt v v') Q E s:=by
 have tups:∀ {l r:List U} {a c:V} {va vc:aH} {ns ms:List Int} {A:eE} {E:aH->aR->Prop} {Q:aH->aR->Prop},RepU X.K H α (.tup l) a->RepU X.K H α (.tup r) c->L2.RelV a va->L2.RelV c vc->mapO toI l=ξ ns->mapO toI r=ξ ms->A.units < cLine->Q (.bool (ltT ns ms)) s ->
   wpAny Zg A (richCompare .Lt va vc) Q E s:=by
  intro l r a c va vc ns ms A E Q ra rc r1 r2 e1 e2 hu hq;unfold RepU at ra rc;obtain ⟨p,xs,rfl,sq,rl⟩:=ra;obtain ⟨p',ys,rfl,sq',rl'⟩:=rc;cases r1;cases r2;rw[Ei rl e1] at sq;rw[Ei rl' e2] at sq';obtain ⟨its,i1,p1,_⟩:=I.tuple sq;obtain ⟨its2,i2,p2,_⟩:=I.tuple sq';have i1':fV its.toArray.toList ns:=C2 i1;have i2':fV its2.toArray.toList ms:=C2 i2;exact HT.Tc p1 p2 i1' i2' hu (by rw[Sv];exact hq)
 unfold ltU at h;split at h
 ·rename_i a b' c d;obtain ⟨bs,h1,h⟩:=aB.mp h;obtain ⟨ds,h2,h⟩:=aJ.mp h;unfold RepU at ru rw;obtain ⟨p,xs,rfl,sq,rl⟩:=ru;obtain ⟨p',ys,rfl,sq',rl'⟩:=rw;obtain ⟨xa,xb,rfl,ra,rb⟩:=rl.two;obtain ⟨ya,yb,rfl,rc,rd⟩:=rl'.two;cases rx;cases ry;obtain ⟨its,i1,p1,_⟩:=I.tuple sq;obtain ⟨its2,i2,p2,_⟩:=I.tuple sq';obtain ⟨va,vb,rfl,qa,qb⟩:=Xk i1;obtain ⟨vc,vd,rfl,qc,qd⟩:=Xk i2;have rb0:=rb;have rd0:=rd;unfold RepU at ra rb rc rd;subst ra;subst rc;obtain ⟨t1,rfl⟩:=qa;obtain ⟨t2,rfl⟩:=qc;obtain ⟨pb,xs2,rfl,sqb,rlb⟩:=rb;obtain ⟨pd,ys2,rfl,sqd,rld⟩:=rd;cases qb;cases qd;rw[Ei rlb h1] at sqb;rw[Ei rld h2] at sqd;obtain ⟨jts,j1,k1,_⟩:=I.tuple sqb;obtain ⟨jts2,j2,k2,_⟩:=I.tuple sqd;obtain ⟨e,he,hiff⟩:=HT.Sm A.in1 s a t1 c t2;have hun:A.in1.units < cLine:=by show A.units+1 < cLine;omega
  refine HT.Akx (r:=b) p1 p2 he (Adn k1 k2 j1 j2 hun) (fun z=>?_) (fun z1 z2=>?_) (fun z1 z2=>?_) Ze q
  ·have hne:a≠c:=fun z'=>by rw[hiff.mpr z'] at z;cases z
   rw[if_neg hne] at h;intro prog w E Q hQ;exact HT.W3 A.in1 s a t1 c t2 prog w E Q (by rw[h];exact hQ)
  ·have hac:a=c:=hiff.mp z1;rw[if_pos hac] at h;intro prog w E Q hQ;obtain ⟨o1,o2,o3⟩:=id k1;have i1':fV jts.toArray.toList bs:=C2 j1;have i2':fV jts2.toArray.toList ds:=C2 j2;exact HT.Tc k1 k2 i1' i2' hun (by rw[Sv,h];exact hQ)
  ·have hac:a=c:=hiff.mp z1;rw[if_pos hac] at h;have hbd:bs=ds:=of_decide_eq_true z2;subst hbd;rw[<- h];cases hh:ltT bs bs with
   | false=>rfl
   | true=>have:=Jf _ _ hh;rw[hh] at this;exact this
 ·obtain ⟨ns,h1,h⟩:=aB.mp h;obtain ⟨ms,h2,h⟩:=aJ.mp h;subst h;exact tups ru rw rx ry h1 h2 Ze q
 ·cases h
end MR
namespace MR
open PySem PySem.Spec PyProof.Rows PySem.Calls L2
noncomputable def Ce(bt:Nat->Nat->Bool):Nat->Nat
 | 0=>0
 | j+1=>if bt (j+1) (Ce bt j)=true then j+1 else Ce bt j
theorem Pp(bt:Nat->Nat->Bool):∀ j,Ce bt j<=j
 | 0=>aP _
 | j+1=>by
  unfold Ce;split
  ·exact aP _
  ·exact Nat.le_succ_of_le (Pp bt j)
def Sl(X:Cx)(A:eE)(σ:L2.St)(H0:Hp)(α0:List Addr)(L:UH)(f:Addr)(m:U->Option U):Prop:=
 ∀ (pins:List (Addr×Obj)) (H:Hp) (α:List Addr) (s:aR) (u z:U) (y:V) (x:aH),L2.Inv X pins σ H s->Gr H0 α0 H α->Abs X.K H α L->RepU X.K H α u y->L2.RelV y x->m u=ξ z ->
  wpAny Zg A (call (.ref f) [x]) (EP X pins σ ZJ) (fun _ _=>False) s
noncomputable def Y6:Option Addr->aH
 | none=>.none
 | some f=>.ref f
noncomputable def Aqt(kf:Option Addr)(m:U->Option U):U->Option U:=match kf with
 | none=>ξ
 | some _=>m
section
variable {X:Cx}{pins:List (Addr×Obj)}{σ:L2.St}{H:Hp}{s:aR}{α:List Addr}{L:UH}{kf:Option Addr}{m:U->Option U}{us ks:List U}{n:Nat}{bt:Nat->Nat->Bool}{l I S:Addr}{R:Result->aR->Prop}
inductive MS(X:Cx)(pins:List (Addr×Obj))(σ:L2.St)(H:Hp)(α:List Addr)(L:UH)(us ks:List U)(bt:Nat->Nat->Bool)(l I S:Addr)(j:Nat)(s:aR):Prop
 | mk (H':Hp) (α':List Addr) (vb kb:aH) (yb zb:V) (c:Nat) (oI:Obj) (ub kub:U) (J:L2.Inv X ((S,seqObj "list" #[vb,kb] c)::(I,oI)::pins) σ H' s) (g:Gr H α H' α') (A':Abs X.K H' α' L) (hit:s.heap.IsListIter I l (j+1))
   (hu:us[Ce bt j]? = ξ ub) (hk:ks[Ce bt j]? = ξ kub) (r1:L2.RelV yb vb) (r2:RepU X.K H' α' ub yb) (r3:L2.RelV zb kb) (r4:RepU X.K H' α' kub zb):MS X pins σ H α L us ks bt l I S j s
theorem Afm(hh:X.A.handled=ψ)(hu:X.A.in1.units+4 < cLine)(hL:Ap L n=ξ us)(hal:α[n]? = ξ l)(hlk:us.length=ks.length)(KR:∀ f,kf=ξ f->Sl X X.A.in1 σ H α L f m)(hm:∀ (i:Nat) (u z:U),us[i]? = ξ u->ks[i]? = ξ z->Aqt kf m u=ξ z)
  (hbt:∀ (i j:Nat) (a b:U),ks[i]? = ξ a->ks[j]? = ξ b->ltU a b=ξ (bt i j)) (hlI:l≠I) (hSI:S≠I) (fI:F9 X pins H I) (fS:F9 X pins H S)
  (hR:∀ (s':aR) (H':Hp) (α':List Addr) (v:aH) (y:V) (u:U),L2.Inv X pins σ H' s'->Gr H α H' α'->Abs X.K H' α' L->us[Ce bt (us.length - 1)]? = ξ u->L2.RelV y v->RepU X.K H' α' u y->R (.ok (.ret v)) s') :
  ∀ (r j:Nat) (s':aR),us.length - (j+1)=r->j+1<=us.length->MS X pins σ H α L us ks bt l I S j s'->mW Zg X.A (.builtin "min.loop" ⟨[.ref I,Y6 kf,.ref S],[]⟩) R s':=by
 have hname:(toString "min" ++ toString ".loop" : String) = "min.loop" := by decide
 have pin2:∀ (oS oI:Obj) (H':Hp) (s':aR),L2.Inv X pins σ H' s'->H' S=ψ->H' I=ψ->s'.heap.get? S=ξ oS->s'.heap.get? I=ξ oI->(∀ v,oS.data≠.cell v)->(∀ v,oI.data≠.cell v)->L2.Inv X ((S,oS)::(I,oI)::pins) σ H' s':=by
  intro oS oI H' s' J n1 n2 g1 g2 d1 d2;refine J.pins_of fun q hq=>?_
  rcases bG.mp hq with rfl | hq
  ·exact ⟨g1,n1,fS.2.1,fS.2.2.1,d1⟩
  ·rcases bG.mp hq with rfl | hq
   ·exact ⟨g2,n2,fI.2.1,fI.2.2.1,d2⟩
   ·exact J.pin q (aT _ hq)
 have lst:∀ (H':Hp) (α':List Addr),Gr H α H' α'->Abs X.K H' α' L->∃ xs,SqL X.K H' l xs/\RepL X.K H' α' us xs:=by
  intro H' α' g A';obtain ⟨b,ys,e,sq,r⟩:=Ey A' hL (show RepU X.K H' α' (.ref n) (.ref l) by unfold RepU;exact ⟨l,g.at hal,rfl⟩)
  cases e;exact ⟨ys,sq,r⟩
 intro r;induction r with
 | zero=>
  intro j s' hr hj hms;obtain ⟨H',α',vb,kb,yb,zb,c,oI,ub,kub,J,g,A',hit,h1,h2,r1,r2,r3,r4⟩:=hms;have p1:=J.pin (S,seqObj "list" #[vb,kb] c) ZbO;have p2:=J.pin (I,oI) ZaC;have J3:L2.Inv X pins σ H' s':=J.pins_of fun q hq=>J.pin q Zap
  obtain ⟨xs,sq,rl⟩:=lst H' α' g A';obtain ⟨its,rv,pl,hz⟩:=J3.list sq;have hil:=pl.isList;have hin:j+1=its.length:=by rw[<- rv.length,<- rl.length];omega
  have W:=qB (prog:=X.prog) (w:=X.w) (A:=X.A.in1) hh I l hlI its.toArray;have hsz:its.toArray.size=its.length:=aU ..;refine hU lB ?_;rw[fA fG _];show wpAny _ X.A.in1 Zdx _ _ _;refine aD (fK p1.1 rfl ?_);show wpAny _ X.A.in1 (tryCatch (pyNext (.ref I)) _ >>= _) _ _ _;refine aD (jS (W.done _ _ _ ⟨by rw[hsz,<- hin];exact hit,hil⟩ fun h' tk' hk'=>?_));have J4:L2.Inv X pins σ H' { s' with heap:=h',toks:=tk' }:=J3.turned (fun b o hb e=>hk' b o (by simpa using hb) e) p2.2.1 fI.2.1 fI.2.2.2.1 fI.2.2.2.2.1 fI.2.2.2.2.2;have hS':=hk' S _ (by simpa using hSI) p1.1;have s1:=cL h' S Zq;show wpAny _ X.A.in1 (updateSeq S (fun _=>#[]) >>= _) _ _ _;refine aD ?_;refine mN hS' rfl (aD (jB (aW ?_)));have J5:L2.Inv X pins σ H' { s' with heap:=h'.update S Zq,toks:=tk' }:=J4.turned (t':=tk') Zcn p1.2.1 fS.2.1 fS.2.2.2.1 fS.2.2.2.2.1 fS.2.2.2.2.2;exact hR _ H' α' vb yb ub J5 g A' (by rw[show us.length - 1=j by omega];exact h1) r1 r2
 | succ r ih=>
  intro j s' hr hj hms;obtain ⟨H',α',vb,kb,yb,zb,c,oI,ub,kub,J,g,A',hit,h1,h2,r1,r2,r3,r4⟩:=hms;have p1:=J.pin (S,seqObj "list" #[vb,kb] c) ZbO;have p2:=J.pin (I,oI) ZaC;have J3:L2.Inv X pins σ H' s':=J.pins_of fun q hq=>J.pin q Zap
  obtain ⟨xs,sq,rl⟩:=lst H' α' g A';obtain ⟨its,rv,pl,hz⟩:=J3.list sq;have hil:=pl.isList;have hlt:j+1 < its.length:=by rw[<- rv.length,<- rl.length];omega
  have W:=qB (prog:=X.prog) (w:=X.w) (A:=X.A.in1) hh I l hlI its.toArray;have hsz:its.toArray.size=its.length:=aU ..;refine hU lB ?_;rw[fA fG _];show wpAny _ X.A.in1 Zdx _ _ _;refine aD (fK p1.1 rfl ?_);show wpAny _ X.A.in1 (tryCatch (pyNext (.ref I)) _ >>= _) _ _ _;refine aD (jS (W.item (j+1) _ _ _ (by rw[hsz];exact hlt) ⟨hit,hil⟩ fun v h' tk' hP hst' hk'=>?_));have hv:its[j+1]? = ξ v:=by simpa using hP
  obtain ⟨oI',hoI',hoc,hod⟩:=id hst'.1;have hS':=hk' S _ (by simpa using hSI) p1.1;have J4:L2.Inv X pins σ H' { s' with heap:=h',toks:=tk' }:=J3.turned (fun b o hb e=>hk' b o (by simpa using hb) e) p2.2.1 fI.2.1 fI.2.2.2.1 fI.2.2.2.2.1 fI.2.2.2.2.2;have J6:=pin2 (seqObj "list" #[vb,kb] c) oI' H' { s' with heap:=h',toks:=tk' } J4 p1.2.1 p2.2.1 hS' hoI' ZcU (fun v z=>by rw[hod] at z;cases z);obtain ⟨u,hu1⟩:∃ u,us[j+1]? = ξ u:=⟨us[j+1],aE Ze⟩;obtain ⟨zk,hz1⟩:∃ z,ks[j+1]? = ξ z:=⟨ks[j+1],aE Ze⟩;obtain ⟨y,hy,ry⟩:=rl.get hu1;obtain ⟨v2,hv2,rvy⟩:=rv.get hy;rw[hv] at hv2;cases hv2;have hmm:=hm (j+1) u zk hu1 hz1;cases kf
  case' none=>(
   dsimp only[Y6];refine aD (dG (Q:=fun val s''=>∃ (H2:Hp) (α2:List Addr) (z:V),L2.Inv X ((S,seqObj "list" #[vb,kb] c)::(I,oI')::pins) σ H2 s''/\Gr H' α' H2 α2/\Abs X.K H2 α2 L/\L2.RelV z val/\RepU X.K H2 α2 zk z) (E:=fun _ _=>False) (by
    cases hmm;exact aW ⟨H',α',y,J6,.refl _ _,A',rvy,ry⟩) (fun val s'' hv=>?_) Zdu))
  case' some f=>(
   dsimp only[Y6];refine aD (jS (dQ (dG (Q:=fun val s''=>∃ (H2:Hp) (α2:List Addr) (z:V),L2.Inv X ((S,seqObj "list" #[vb,kb] c)::(I,oI')::pins) σ H2 s''/\Gr H' α' H2 α2/\Abs X.K H2 α2 L/\L2.RelV z val/\RepU X.K H2 α2 zk z) (E:=fun _ _=>False) (dG (KR f rfl _ H' α' _ u zk y v J6 g A' ry rvy hmm) (fun x s'' he=>by
    obtain ⟨z,H2,J7,rz,α2,g2,A2,r5⟩:=he;exact ⟨H2,α2,z,J7,g2,A2,rz,r5⟩) fun _ _ hF=>hF.elim) (fun val s'' hv=>?_) Zdu))))
  all_goals
   obtain ⟨H2,α2,z,J7,g2,A2,rz,r5⟩:=hv;have p1':=J7.pin (S,seqObj "list" #[vb,kb] c) ZbO;have p2':=J7.pin (I,oI') ZaC;have J8:L2.Inv X pins σ H2 s'':=J7.pins_of fun q hq=>J7.pin q Zap
   have hb:=hbt (j+1) (Ce bt j) zk kub hz1 h2;show wpAny _ X.A.in1 (tryCatch (holding [v,val] (richCompare .Lt val kb >>= _)) _ >>= _) _ _ _;refine aD (jS (dQ (aD (Ao6 J7 r5 (r4.mono g2) rz r3 hb hu ?_))));refine aD (dQ (jK ?_));refine aD (jB (aW ?_));cases hbb:bt (j+1) (Ce bt j) with
   | true=>
    have s1:=cL s''.heap S Zby;obtain ⟨c2,hc2⟩:∃ c2,(s''.heap.update S Zby).get? S=ξ (seqObj "list" #[v,val] c2):=⟨_,eO p1'.1 fun _=>#[v,val]⟩;simp only[if_true];refine aD ?_;refine mN p1'.1 rfl (aD (jB ?_));rw[hname];have J9:L2.Inv X pins σ H2 { s'' with heap:=s''.heap.update S Zby }:=J8.turned (t':=s''.toks) Zcn p1'.2.1 fS.2.1 fS.2.2.2.1 fS.2.2.2.2.1 fS.2.2.2.2.2;have gI:=(s1.2 I hSI.symm).trans p2'.1;have hbo:Ce bt (j+1)=j+1:=by unfold Ce;rw[if_pos hbb]
    refine aW ⟨iU fG _,ih (j+1) _ Ze Ze ⟨H2,α2,v,val,y,z,c2,oI',u,zk,pin2 _ oI' H2 _ J9 p1'.2.1 p2'.2.1 hc2 gI ZcU (fun v z=>by rw[hod] at z;cases z),g.trans g2,A2,⟨oI',gI,hoc,hod⟩,by rw[hbo];exact hu1,by rw[hbo];exact hz1,rvy,ry.mono g2,rz,r5⟩⟩
   | false=>
    simp only[bV,if_false];refine aD (jB ?_);rw[hname];have hbo:Ce bt (j+1)=Ce bt j:=by
     show (if bt (j+1) (Ce bt j)=true then j+1 else Ce bt j)=_;rw[if_neg (by rw[hbb];simp)]
    refine aW ⟨iU fG _,ih (j+1) _ Ze Ze ⟨H2,α2,vb,kb,yb,zb,c,oI',ub,kub,J7,g.trans g2,A2,⟨oI',p2'.1,hoc,hod⟩,by rw[hbo];exact h1,by rw[hbo];exact h2,r1,r2.mono g2,r3,r4.mono g2⟩⟩
end
noncomputable def Acb:Option Addr->List (Str×aH)
 | none=>[]
 | some f=>[(cT "key",.ref f)]
theorem Ahl(a:aH):∀ kf,argsOk "min" ⟨[a],Acb kf⟩
 | none=>by unfold argsOk;kernel_rfl
 | some f=>by unfold argsOk;kernel_rfl
section
variable {X:Cx}{pins:List (Addr×Obj)}{σ:L2.St}{H:Hp}{s:aR}{α:List Addr}{L:UH}{kf:Option Addr}{m:U->Option U}{us ks:List U}{n:Nat}{bt:Nat->Nat->Bool}{l:Addr}{Q:aH->aR->Prop}{E:aH->aR->Prop}
theorem Agl(hh:X.A.handled=ψ)(hu:X.A.in1.units+4 < cLine)(hL:Ap L n=ξ us)(hal:α[n]? = ξ l)(hlk:us.length=ks.length)(hne:0 < us.length)(KR:∀ f,kf=ξ f->Sl X X.A.in1 σ H α L f m)(hm:∀ (i:Nat) (u z:U),us[i]? = ξ u->ks[i]? = ξ z->Aqt kf m u=ξ z)
  (hbt:∀ (i j:Nat) (a b:U),ks[i]? = ξ a->ks[j]? = ξ b->ltU a b=ξ (bt i j)) (I:L2.Inv X pins σ H s) (Ab:Abs X.K H α L)
  (hQ:∀ (s':aR) (H':Hp) (α':List Addr) (v:aH) (y:V) (u:U),L2.Inv X pins σ H' s'->Gr H α H' α'->Abs X.K H' α' L->us[Ce bt (us.length - 1)]? = ξ u->L2.RelV y v->RepU X.K H' α' u y->Q v s') :
  wpAny Zg X.A (call (.builtin "min") [.ref l] (Acb kf)) Q E s:=by
 have hname:(toString "min" ++ toString ".loop" : String) = "min.loop" := by decide
 obtain ⟨b0,ys0,e0,sq0,rl0⟩:=Ey Ab hL (show RepU X.K H α (.ref n) (.ref l) by unfold RepU;exact ⟨l,hal,rfl⟩)
 cases e0;obtain ⟨its,rv,pl,hz⟩:=I.list sq0;have hls:=pl.isList;obtain ⟨ol,hol,_⟩:=id hls;have hll:l < s.heap.objs.size:=bD hol;refine kmk_tree PySem.F.kind_min PySem.F.plain_min PySem.F.entry_min (Ahl _ kf) ?_;show wpAny _ X.A.in1 (mZ "min" ["key","default"] 0 ⟨[],Acb kf⟩ >>= _) _ _ s;refine aD (vG (show mZ "min" ["key","default"] 0 ⟨[],Acb kf⟩=pure [kf.map gU,ψ] by cases kf <;> rfl) ?_);refine aD (aW ?_);refine aD (kO hls ?_);refine aD (iV ?_ (dW _));rw[hname];have hkv:(kf.map gU).getD eD=Y6 kf:=by cases kf <;> rfl
 rw[hkv];have hS:(s.heap.push { cls:=.type "list_iterator",data:=.fields #[.ref l,.int 0 0] }).objs.size=s.heap.objs.size+1:=size_push' ..;have hlI:l≠s.heap.objs.size:=cB hll;have I1:L2.Inv X pins σ H { s with heap:=s.heap.push { cls:=.type "list_iterator",data:=.fields #[.ref l,.int 0 0] } }:=I.kept (t':=s.toks) fun b o e=>aG _ e
 have fI:F9 X pins H s.heap.objs.size:=I.fpOk (aP _) Zbx;have fS:F9 X pins H (s.heap.push { cls:=.type "list_iterator",data:=.fields #[.ref l,.int 0 0] }).objs.size:=I1.fpOk (s:={ s with heap:=s.heap.push { cls:=.type "list_iterator",data:=.fields #[.ref l,.int 0 0] } }) (aP _) ZaA;have hSI:(s.heap.push { cls:=.type "list_iterator",data:=.fields #[.ref l,.int 0 0] }).objs.size≠s.heap.objs.size:=by rw[hS];exact jC (fE _)
 have I2:L2.Inv X pins σ H { s with heap:=(s.heap.push { cls:=.type "list_iterator",data:=.fields #[.ref l,.int 0 0] }).push (seqObj "list" #[] 0) }:=I1.kept (t':=s.toks) fun b o e=>aG _ e
 have gI:((s.heap.push { cls:=.type "list_iterator",data:=.fields #[.ref l,.int 0 0] }).push (seqObj "list" #[] 0)).get? s.heap.objs.size=ξ { cls:=.type "list_iterator",data:=.fields #[.ref l,.int 0 0] }:=
  aG _ (aZ _ rfl)
 have gS:((s.heap.push { cls:=.type "list_iterator",data:=.fields #[.ref l,.int 0 0] }).push (seqObj "list" #[] 0)).get? (s.heap.push { cls:=.type "list_iterator",data:=.fields #[.ref l,.int 0 0] }).objs.size=ξ (seqObj "list" #[] 0):=aZ _ rfl;refine aW ⟨iU fG _,?_⟩;obtain ⟨its2,rv2,pl2,_⟩:=I2.list sq0;have hls2:=pl2.isList;have hsz:its2.toArray.size=its2.length:=aU ..;have hn2:0 < its2.length:=by rw[<- rv2.length,<- rl0.length];exact hne
 generalize hSS:(s.heap.push { cls:=.type "list_iterator",data:=.fields #[.ref l,.int 0 0] }).objs.size=S at fS hSI gS;generalize hII:s.heap.objs.size=It at fI hSI gI hlI;generalize hHH:(s.heap.push { cls:=.type "list_iterator",data:=.fields #[.ref l,.int 0 0] }).push (seqObj "list" #[] 0)=hp at gI gS I2 hls2;have W:=qB (prog:=X.prog) (w:=X.w) (A:=X.A.in1) hh It l hlI its2.toArray;show mW _ _ (.builtin "min.loop" ⟨[.ref It,Y6 kf,.ref S],[]⟩) _ ({ s with heap:=hp }:aR);refine hU lB ?_;rw[fA fG _];show wpAny _ X.A.in1 Zdx _ _ _;refine aD (fK gS rfl ?_);show wpAny _ X.A.in1 (tryCatch (pyNext (.ref It)) _ >>= _) _ _ _;refine aD (jS (W.item 0 _ _ _ (by rw[hsz];exact hn2) ⟨⟨_,gI,rfl,rfl⟩,hls2⟩ fun v h' tk' hP hst' hk'=>?_));have hv:its2[0]? = ξ v:=by simpa using hP
 obtain ⟨oI',hoI',hoc,hod⟩:=id hst'.1;have hS':=hk' S _ (by simpa using hSI) gS;have J4:L2.Inv X pins σ H { s with heap:=h',toks:=tk' }:=I2.turned (fun b o hb e=>hk' b o (by simpa using hb) e) fI.1 fI.2.1 fI.2.2.2.1 fI.2.2.2.2.1 fI.2.2.2.2.2;have pin2:∀ (oS oI:Obj) (H':Hp) (s':aR),L2.Inv X pins σ H' s'->H' S=ψ->H' It=ψ->s'.heap.get? S=ξ oS->s'.heap.get? It=ξ oI->(∀ v,oS.data≠.cell v)->(∀ v,oI.data≠.cell v)->L2.Inv X ((S,oS)::(It,oI)::pins) σ H' s':=by
  intro oS oI H' s' J n1 n2 g1 g2 d1 d2;refine J.pins_of fun q hq=>?_
  rcases bG.mp hq with rfl | hq
  ·exact ⟨g1,n1,fS.2.1,fS.2.2.1,d1⟩
  ·rcases bG.mp hq with rfl | hq
   ·exact ⟨g2,n2,fI.2.1,fI.2.2.1,d2⟩
   ·exact J.pin q (aT _ hq)
 have J6:=pin2 (seqObj "list" #[] 0) oI' H { s with heap:=h',toks:=tk' } J4 fS.1 fI.1 hS' hoI' ZcU (fun v z=>by rw[hod] at z;cases z);obtain ⟨u,hu1⟩:∃ u,us[0]? = ξ u:=⟨us[0],aE Ze⟩;obtain ⟨zk,hz1⟩:∃ z,ks[0]? = ξ z:=⟨ks[0],aE Ze⟩;obtain ⟨y,hy,ry⟩:=rl0.get hu1;obtain ⟨v2,hv2,rvy⟩:=rv2.get hy;rw[hv] at hv2;cases hv2;have hmm:=hm 0 u zk hu1 hz1;cases kf
 case' none=>(
  dsimp only[Y6];refine aD (dG (Q:=fun val s''=>∃ (H2:Hp) (α2:List Addr) (z:V),L2.Inv X ((S,seqObj "list" #[] 0)::(It,oI')::pins) σ H2 s''/\Gr H α H2 α2/\Abs X.K H2 α2 L/\L2.RelV z val/\RepU X.K H2 α2 zk z) (E:=fun _ _=>False) (by
   cases hmm;exact aW ⟨H,α,y,J6,.refl _ _,Ab,rvy,ry⟩) (fun val s'' hv=>?_) Zdu))
 case' some f=>(
  dsimp only[Y6];refine aD (jS (dQ (dG (Q:=fun val s''=>∃ (H2:Hp) (α2:List Addr) (z:V),L2.Inv X ((S,seqObj "list" #[] 0)::(It,oI')::pins) σ H2 s''/\Gr H α H2 α2/\Abs X.K H2 α2 L/\L2.RelV z val/\RepU X.K H2 α2 zk z) (E:=fun _ _=>False) (dG (KR f rfl _ H α _ u zk y v J6 (.refl _ _) Ab ry rvy hmm) (fun x s'' he=>by
   obtain ⟨z,H2,J7,rz,α2,g2,A2,r5⟩:=he;exact ⟨H2,α2,z,J7,g2,A2,rz,r5⟩) fun _ _ hF=>hF.elim) (fun val s'' hv=>?_) Zdu))))
 all_goals
  obtain ⟨H2,α2,z,J7,g2,A2,rz,r5⟩:=hv;have p1':=J7.pin (S,seqObj "list" #[] 0) ZbO;have p2':=J7.pin (It,oI') ZaC;have J8:L2.Inv X pins σ H2 s'':=J7.pins_of fun q hq=>J7.pin q Zap
  have s1:=cL s''.heap S Zby;obtain ⟨c2,hc2⟩:∃ c2,(s''.heap.update S Zby).get? S=ξ (seqObj "list" #[v,val] c2):=⟨_,eO p1'.1 fun _=>#[v,val]⟩;show wpAny _ X.A.in1 (updateSeq S (fun _=>#[v,val]) >>= _) _ _ _;refine aD ?_;refine mN p1'.1 rfl ?_;rw[hname];have J9:L2.Inv X pins σ H2 { s'' with heap:=s''.heap.update S Zby }:=J8.turned (t':=s''.toks) Zcn p1'.2.1 fS.2.1 fS.2.2.2.1 fS.2.2.2.2.1 fS.2.2.2.2.2;have gI2:=(s1.2 It hSI.symm).trans p2'.1;refine aW ⟨iU fG _,?_⟩;refine Afm (m:=m) hh hu hL hal hlk KR hm hbt hlI hSI fI fS (fun s' H' α' v y u J g A e r1 r2=>hQ s' H' α' v y u J g A e r1 r2) _ 0 _ rfl hne ⟨H2,α2,v,val,y,z,c2,oI',u,zk,pin2 _ oI' H2 _ J9 p1'.2.1 p2'.2.1 hc2 gI2 ZcU (fun v z=>by rw[hod] at z;cases z),g2,A2,⟨oI',gI2,hoc,hod⟩,hu1,hz1,rvy,ry.mono g2,rz,r5⟩
end
end MR
namespace MR
open PySem PySem.Spec PyProof.Rows PySem.Calls L2 SO
variable {X:Cx}{σ:L2.St}{H:Hp}{s:aR}{f:Addr}{α:List Addr}{L:UH}
section
variable {pins:List (Addr×Obj)}
theorem Aji{a:Addr}{m:U->Option U}{c0:Nat}{vs:List aH}{ys:List V}{us:List U}{ks:List (List Int)}
  (KR:Sl X X.A.in1.in1 σ H α L f m) (I:L2.Inv X pins σ H s) (fa:F9 X pins H a)
  (ho:s.heap.get? a=ξ (seqObj "list" vs.toArray c0)) (rv:Vals ys vs) (ru:RepL X.K H α us ys) (Ab:Abs X.K H α L) (hl:ks.length=vs.length) (hk1:∀ t∈ks,t≠[])
  (hk:∀ (i:Nat) (u:U) (t:List Int),us[i]? = ξ u->ks[i]? = ξ t->m u=ξ (tupI t)) (h64:vs.length < 64) :
  wpAny Zg X.A.in1.in1 (wK a (.ref f) true) (fun fin s'=>fin = .done ZdG/\∃ H' α',L2.Inv X pins σ (upd H' a (.lst (((Cc Zc6 vs.length).map fun i=>ys.reverse.getD i .non).reverse))) s'/\H' a=ψ/\Gr H α H' α'/\Abs X.K H' α' L) X.xe s:=by
 have hyl:=rv.length;have hul:=ru.length;have z1:vs.toArray.size<=sizeLine:=by rw[aU,cN];omega
 obtain ⟨e1,h1⟩:∃ e1,(s.heap.update a Zq).get? a=ξ (seqObj "list" #[] e1):=⟨_,eO ho fun _=>#[]⟩;have hlt:a < s.heap.objs.size:=bD ho;have sb:=cL s.heap a Zq;have I1:L2.Inv X pins σ H { s with heap:=s.heap.update a Zq }:=I.turned (t':=s.toks) Zbf fa.1 fa.2.1 fa.2.2.2.1 fa.2.2.2.2.1 fa.2.2.2.2.2;have hs1:(s.heap.update a Zq).objs.size=s.heap.objs.size:=pF ..;generalize hA:s.heap.update a Zq=hp1 at h1 I1 hs1;have I2:L2.Inv X pins σ H { s with heap:=hp1.push { cls:=.type "tuple",data:=.seq vs.toArray } }:=I1.kept (t':=s.toks) fun b o e=>aG _ e
 have h2:(hp1.push { cls:=.type "tuple",data:=.seq vs.toArray }).get? a=ξ (seqObj "list" #[] e1):=aG _ h1;have hs2:(hp1.push { cls:=.type "tuple",data:=.seq vs.toArray }).objs.size=s.heap.objs.size+1:=by rw[eF,hs1]
 generalize hB:hp1.push { cls:=.type "tuple",data:=.seq vs.toArray } = hp2 at I2 h2 hs2;have I3:L2.Inv X pins σ H { s with heap:=hp2.push { cls:=.type "list",data:=.seq (eV []) } }:=I2.kept (t':=s.toks) fun b o e=>aG _ e
 have h3:(hp2.push { cls:=.type "list",data:=.seq (eV []) }).get? a=ξ (seqObj "list" #[] e1):=aG _ h2;have hkS:(hp2.push { cls:=.type "list",data:=.seq (eV []) }).get? hp2.objs.size=ξ (seqObj "list" #[] 0):=aZ _ rfl;have fk:F9 X pins H hp2.objs.size:=I2.fpOk (s:={ s with heap:=hp2 }) (aP _) ZcT;have hne:hp2.objs.size≠a:=by rw[hs2];exact jC (kY hlt)
 generalize hC:hp2.push { cls:=.type "list",data:=.seq (eV []) } = hp3 at I3 h3 hkS;generalize hS:hp2.objs.size=kS at hkS fk hne;unfold wK;refine aD (mY ho rfl (aD (gJ ho rfl ?_ z1 (dW _))));rw[hA];refine aD (mE (s:={ s with heap:=hp1 }) h1 rfl (aD (nN ?_ (by show vs.length<=_;rw[cN];omega))))
 show wpAny _ _ _ _ _ ({ s with heap:=hp1.push { cls:=.type "tuple",data:=.seq vs.toArray } }:aR);rw[hB];refine aD (iV ?_ (dW _));show wpAny _ _ _ _ _ ({ s with heap:=hp2.push { cls:=.type "list",data:=.seq (eV []) } }:aR);rw[hC];show wpAny _ _ (holding _ (wL a (.ref f) true vs.toArray e1 (.ref hp2.objs.size))) _ _ _;rw[hS];refine dQ ?_;unfold wL;refine aD (nL ?_);rw[<- sS];have pin2:∀ (kv:List aH) (e:Nat) (H':Hp) (s':aR),L2.Inv X pins σ H' s'->H' kS=ψ->H' a=ψ->s'.heap.get? kS=ξ (seqObj "list" kv.toArray e)->s'.heap.get? a=ξ (seqObj "list" #[] e1)->L2.Inv X ((kS,seqObj "list" kv.toArray e)::(a,seqObj "list" #[] e1)::pins) σ H' s':=by
  intro kv e H' s' J n1 n2 g1 g2;refine J.pins_of fun q hq=>?_
  rcases bG.mp hq with rfl | hq
  ·exact ⟨g1,n1,fk.2.1,fk.2.2.1,fun v z=>by cases z⟩
  ·rcases bG.mp hq with rfl | hq
   ·exact ⟨g2,n2,fa.2.1,fa.2.2.1,fun v z=>by cases z⟩
   ·exact J.pin q (aT _ hq)
 refine aD (ksk_fold (fun j s'=>∃ (H':Hp) (α':List Addr) (kv:List aH) (kx:List V) (e:Nat),L2.Inv X ((kS,seqObj "list" kv.toArray e)::(a,seqObj "list" #[] e1)::pins) σ H' s'/\Gr H α H' α'/\Abs X.K H' α' L/\Vals kx kv/\RepL X.K H' α' ((ks.take j).map tupI) kx) vs 0 _
  ⟨H,α,[],[],0,pin2 [] 0 H _ I3 fk.1 fa.1 hkS h3,.refl _ _,Ab,.nil,.nil⟩ ?step ?done)
 case step=>
  rintro j x s' hx ⟨H',α',kv,kx,e,J,g,A',rk,rr⟩;simp only[qC] at rr ⊢;have hj:j < vs.length:=(aI.mp hx).1;obtain ⟨t,ht⟩:∃ t,ks[j]? = ξ t:=⟨ks[j],aE Ze⟩;obtain ⟨y,hy⟩:∃ y,ys[j]? = ξ y:=⟨ys[j],aE Ze⟩;obtain ⟨x',hx',rx⟩:=rv.get hy;rw[hx] at hx';cases hx';obtain ⟨u,hu,ry⟩:=ru.get' hy;have hkl:=rr.length;have hkl2:=rk.length;rw[aN,eQ] at hkl;refine aD (lX (dG (KR _ H' α' _ u (tupI t) y x J g A' (ry.mono g) rx (hk j u t hu ht)) (fun v s'' hv=>?_) fun _ _ hF=>hF.elim));obtain ⟨v',H2,J2,rv',α2,g2,A2,r2⟩:=hv;dsimp only;have p1:=J2.pin (kS,seqObj "list" kv.toArray e) ZbO;have p2:=J2.pin (a,seqObj "list" #[] e1) ZaC;have J3:L2.Inv X pins σ H2 s'':=J2.pins_of fun q hq=>J2.pin q Zap
  have sb2:=cL s''.heap kS (bH (·.push v));obtain ⟨e2,he2⟩:∃ e2,(s''.heap.update kS (bH (·.push v))).get? kS=ξ (seqObj "list" (kv.toArray.push v) e2):=⟨_,eO p1.1 (·.push v)⟩;have J4:L2.Inv X pins σ H2 { s'' with heap:=s''.heap.update kS (bH (·.push v)) }:=J3.turned (t':=s''.toks) (fun b o hb e=>(sb2.2 b hb).trans e) p1.2.1 fk.2.1 fk.2.2.2.1 fk.2.2.2.2.1 fk.2.2.2.2.2;refine aD (gJ p1.1 rfl ?_ (by rw[aU,cN];omega) (by rw[vQ,aU,cN];omega));have hpush:kv.toArray.push v=(kv++[v]).toArray:=Za
  rw[hpush] at he2;refine aW ⟨rfl,H2,α2,kv++[v],kx++[v'],e2,pin2 (kv++[v]) e2 H2 _ J4 p1.2.1 p2.2.1 he2 ((sb2.2 a (fN hne)).trans p2.1),g.trans g2,A2,rk.append (.cons rv' .nil),?_⟩;have htk:ks.take (j+1)=ks.take j++[t]:=by rw[iR,ht];rfl
  rw[htk,cP];exact (rr.mono g2).append (.cons r2 .nil)
 case done=>
  rintro s' ⟨H',α',kv,kx,e,J,g,A',rk,rr⟩;have htk:ks.take (0+vs.length)=ks:=iC Ze;rw[htk] at rr;have hkl:=rr.length;have hkl2:=rk.length;rw[aN] at hkl;have hkv:kv.length=vs.length:=Ze
  have p1:=J.pin (kS,seqObj "list" kv.toArray e) ZbO;have p2:=J.pin (a,seqObj "list" #[] e1) ZaC;have J3:L2.Inv X pins σ H' s':=J.pins_of fun q hq=>J.pin q Zap
  refine aD (mY p1.1 rfl ?_);have hat:∀ i,i < kv.length->∃ (b:Addr) (n:Int) (t:List Int) (ws:List aH),kv[i]? = ξ (.ref b)/\ks.getD i []=n::t/\Vals ZbZ ws/\nZ s'.heap b ws.toArray:=by
   intro i hi;obtain ⟨t,ht⟩:∃ t,ks[i]? = ξ t:=⟨ks[i],aE Ze⟩;obtain ⟨y,hy,ry⟩:=rr.get (i:=i) (u:=tupI t) (by rw[bA,ht];rfl);obtain ⟨v,hv,rx⟩:=rk.get hy;unfold tupI RepU at ry;obtain ⟨b,xs,rfl,sq,rl⟩:=ry;cases rx;have hxs:=Ei rl (Wq t);rw[hxs] at sq;obtain ⟨ws,r2,it,_⟩:=J3.tuple sq;cases t with
   | nil=>exact absurd rfl (hk1 [] (cI ht))
   | cons n t=>exact ⟨b,n,t,ws,hv,by rw[aC,ht];rfl,r2,it⟩
  have hatR:∀ i,i < kv.length->∃ (b:Addr) (n:Int) (t:List Int) (ws:List aH),kv.reverse[i]? = ξ (.ref b)/\ks.reverse.getD i []=n::t/\Vals ZbZ ws/\nZ s'.heap b ws.toArray:=by
   intro i hi;obtain ⟨b,n,t,ws,q1,q2,r2,it⟩:=hat (kv.length - 1 - i) Ze;refine ⟨b,n,t,ws,by rw[gE hi];exact q1,?_,r2,it⟩;rw[aC,gE Ze,<- aC,show ks.length - 1 - i=kv.length - 1 - i by omega];exact q2
  have rvr:Vals ys.reverse vs.reverse:=Vals.rev rv;have hvrl:vs.reverse.length=vs.length:=cG;have hyrl:ys.reverse.length=ys.length:=cG;generalize hvr:vs.reverse=vr at rvr hvrl;generalize hyr:ys.reverse=yr at rvr hyrl;generalize hkz:ks.reverse=kz at hatR;generalize hkr:kv.reverse=kr at hatR;have fin:∀ (q:Array Nat) (st:gH),q.toList=Cc (ltK kz) vs.length->(arrOf st).map (·.2)=(Dx vr q).toArray->failedOf st=ψ->wpAny Zg X.A.in1.in1 (wM a true e1 (.ref kS) st)
    (fun fin s'=>fin = .done ZdG/\∃ H' α',L2.Inv X pins σ (upd H' a (.lst ZaN)) s'/\H' a=ψ/\Gr H α H' α'/\Abs X.K H' α' L) X.xe s':=by
   intro q st hq hout hfail;have hperm:=F3 (n:=vs.length) (Ia kz);have hlen:(Dx vr q).length=vs.length:=by unfold Dx;rw[hq,aN,hperm.length_eq,dX]
   have sb1:=cL s'.heap kS Zq;have J4:L2.Inv X pins σ H' { s' with heap:=s'.heap.update kS Zq }:=J3.turned (t':=s'.toks) (fun b o hb e=>(sb1.2 b hb).trans e) p1.2.1 fk.2.1 fk.2.2.2.1 fk.2.2.2.2.1 fk.2.2.2.2.2;have ga:(s'.heap.update kS Zq).get? a=ξ (seqObj "list" #[] e1):=(sb1.2 a (fN hne)).trans p2.1;generalize hG:s'.heap.update kS Zq=g1 at J4 ga;have sb3:=cL g1 a Zcb;obtain ⟨c2,hc2⟩:∃ c2,(g1.update a Zcb).get? a=ξ (seqObj "list" (Dx vr q).reverse.toArray c2):=⟨_,eO ga fun _=>(Dx vr q).reverse.toArray⟩;have hlt':∀ k∈Cc (ltK kz) vs.length,k < yr.length:=fun k hk=>by
    have:=bE.mp (hperm.mem_iff.mp hk);omega
   have hrel:Vals ZaN (Dx vr q).reverse:=by
    refine Vals.rev ?_;unfold Dx;rw[hq];have:∀ js:List Nat,(∀ k∈js,k < yr.length)->Vals (js.map fun i=>yr.getD i .non) (js.map fun i=>vr.getD i eD):=by
     intro js;induction js with
     | nil=>intro _;exact .nil
     | cons k js ih=>
      intro hk;have hk0:=hk k (aQ ..);obtain ⟨v,e3,rr⟩:=rvr.get (aE hk0);refine .cons ?_ ZbK;show L2.RelV (yr.getD k .non) (vr.getD k eD);rw[aC,aC,aE hk0,e3];exact rr
    exact this _ hlt'
   have hsz:(((Cc (ltK kz) vs.length).map fun i=>yr.getD i .non).reverse).length<=sizeLine:=by
    rw[cG,aN,hperm.length_eq,dX,cN];omega
   have J5:L2.Inv X pins σ (upd H' a (.lst ZaN)) { s' with heap:=g1.update a Zcb }:=
    Inv.adopt (s:={ s' with heap:=g1 }) (t':=s'.toks) J4 ⟨p2.2.1,fa.2⟩ (fun b o hb e=>(sb3.2 b hb).trans e) ⟨hsz,(Dx vr q).reverse,c2,hrel,hc2⟩
   unfold wM;refine aD (gJ p1.1 rfl ?_ (by rw[aU,cN];omega) (dW _));rw[hG];refine aD (jB (aD (mE (s:={ s' with heap:=g1 }) ga rfl ?_)));have hout':(if true=true then ((arrOf st).map (·.2)).reverse else (arrOf st).map (·.2))=(Dx vr q).reverse.toArray:=by rw[if_pos rfl,hout];simp
   rw[hout',hfail];refine aD (gJ (s:={ s' with heap:=g1 }) ga rfl ?_ (dW _) (by rw[aU,cG,hlen,cN];omega));simp only[bne_self_eq_false,bV,if_false];exact aW ⟨rfl,H',α',J5,p2.2.1,g,A'⟩
  have hzip:(kv.toArray.zip vs.toArray).reverse=kr.toArray.zip vr.toArray:=by
   rw[<- hkr,<- hvr];apply tW
   ·simp
   ·intro i i1 i2;simp at i1;simp only[Array.getElem_reverse,Array.getElem_zip,List.getElem_toArray,List.getElem_reverse,Array.size_zip,aU];have e1:min kv.length vs.length - 1 - i=kv.length - 1 - i:=Ze
    have e2:min kv.length vs.length - 1 - i=vs.length - 1 - i:=Ze
    congr 1 <;> congr 1
  have hkrl:kr.length=vr.length:=by rw[<- hkr,<- hvr,cG,cG];exact hkv
  unfold ksk_end;simp only[if_true];refine aD (nL ?_);rw[hzip];by_cases hsmall:vs.toArray.size < 2
  ·rw[if_pos hsmall,if_pos hsmall];have hs2:vs.length < 2:=by simpa using hsmall
   refine aD (aW ?_);rw[qP];refine aD (aW (fin (eV (bB vr.length)) (sR general' (kr.toArray.zip vr.toArray) #[] 7 ψ) ?_ ?_ rfl))
   ·unfold Cc;rw[if_pos hs2,hvrl]
   ·rw[Nb];show (kr.toArray.zip vr.toArray).map (·.2)=vr.toArray;apply tW
    ·simp;omega
    ·intro i i1 i2;simp
  ·rw[if_neg hsmall,if_neg hsmall];have hs2:2<=vs.length:=by simp at hsmall;omega
   have mk:∀ (m:Nat),m<=kv.length->∃ fs:List aH,qR s'.heap (kv.drop (kv.length - m)) fs/\fs.length=m/\∀ v∈fs,rZ Zg s'.heap (typeOf v) (.type "int"):=by
    intro m;induction m with
    | zero=>intro _;exact ⟨[],by rw[qG,pG];exact mU,rfl,Za⟩
    | succ m ih=>
     intro hm;obtain ⟨fs,k1,k2,k3⟩:=ih Ze;obtain ⟨b,n,t,ws,q1,_,r2,it⟩:=hat Zdt Ze;obtain ⟨o,ho',hcls,nn,hd⟩:=it;rw[aS] at r2;cases r2 with
     | @cons _ v0 _ vr rr rs=>
      obtain ⟨tk,rfl⟩:=rr;have hdrop:kv.drop Zdt = .ref b::kv.drop (kv.length - m):=by
       have hlt2:kv.length - (m+1) < kv.length:=Ze
       rw[iO hlt2];have:kv[kv.length - (m+1)] = .ref b:=by
        rw[aE hlt2] at q1;exact bQ q1
       rw[this]
       congr 2;omega
      refine ⟨.int n tk::fs,?_,by simp[k2],fun v hv=>?_⟩
      ·rw[hdrop];exact mG ho' hcls hd rfl k1
      ·rcases bG.mp hv with e | e
       ·subst e;exact oG
       ·exact k3 v e
   obtain ⟨fs,k1,k2,k3⟩:=mk kv.length (aP _);rw[dC,kZ] at k1;refine aD (pH k1 Ze k3 rfl ?_);have ask:∀ (i j:Nat) (C:Bool->aR->Prop),i < vs.length->j < vs.length->C (ltK kz i j) s'->gT X.prog X.w X.A.in1.in1 (tuples' (eM "int" != eM "tuple")) kr i j C s':=by
    intro i j C hi hj hC;obtain ⟨b,n,t,ws,q1,q2,r2,it⟩:=hatR i Ze;obtain ⟨b',n',t',ws',q1',q2',r2',it'⟩:=hatR j Ze;obtain ⟨o,ho1,_,c1,hd⟩:=it;obtain ⟨o',ho2,_,c2,hd'⟩:=it';have g1:kr.getD i eD = .ref b:=by rw[aC,q1];rfl
    have g2:kr.getD j eD = .ref b':=by rw[aC,q1'];rfl
    unfold gT;rw[g1,g2];refine rK ho1 hd ho2 hd' ?_;have hl1:=r2.length;have hl2:=r2'.length;rw[aN] at hl1 hl2;refine Vo (n::t) (n'::t') ws ws' 0 r2 r2' ?_ ?_
    ·rw[aU,aU,<- hl1,<- hl2]
    ·rw[<- q2,<- q2'];exact hC
   have on:=(Nu (n:=vr.length) (Ia kz) Ze).run.wp (cmp:=gT X.prog X.w X.A.in1.in1 (tuples' (eM "int" != eM "tuple")) kr) (s:=s') (Q:=fun q s2=>q=Wz (ltK kz) (jO vr.length)/\s2=s') (fun i j C hi hj hC=>ask i j C Ze Ze hC) fun q h=>⟨h,rfl⟩
   refine aD (dG (vR (ks:=kr) (vs:=vr) (Q:=fun st s2=>∃ q:Array Nat,arrOf st=q.map (tX (kr.toArray.zip vr.toArray))/\failedOf st=ψ/\q=Wz (ltK kz) (jO vr.length)/\s2=s') hkrl Ze Ze (fun q st s2 _ q1 q2 q3=>⟨q,q1,q2,q3⟩) on) ?_ fun _ _ e=>e);rintro ⟨⟨⟩,st⟩ s2 ⟨q,q1,q2,q3,rfl⟩;refine fin q st ?_ (tY hkrl q1) q2;unfold Cc;rw[if_neg Ze,q3,hvrl]
end
open Classical in
noncomputable def Vh(m:FN)(L:UH)(u:U):Option (List Int):=(m [u] L).bind fun r=>if r.2=L then Nj r.1 else ψ
variable {u:U}
theorem Aib{m:FN}{t:List Int}(h:Vh m L u=ξ t):m [u] L=ξ (tupI t,L):=by
 unfold Vh at h;obtain ⟨⟨z,L'⟩,e,h⟩:=aB.mp h;simp only at h;split at h
 ·rename_i hL;subst hL;have h1:mapO Nj [z]=ξ [t]:=by
   have h0:Nj z=ξ t:=by assumption
   simp only[mapO,h0,aA,aF]
  have h2:=Qr h1;simp only[aS,bP,mR,and_true] at h2;rw[e,h2]
 ·cases h
theorem Oc{β γ:Type}{f:β->Option γ}:∀ {l:List β} {r:List γ},mapO f l=ξ r->l.length=r.length
 | [],r,h=>by simp only[mapO] at h;cases h;rfl
 | a::l,r,h=>by
  simp only[mapO] at h;obtain ⟨x,_,h⟩:=aB.mp h;obtain ⟨y,hy,h⟩:=aJ.mp h;subst h;simp[Oc hy]
theorem Oz{β γ:Type}{f:β->Option γ}:∀ {l:List β} {r:List γ} {i:Nat} {a:β} {b:γ},mapO f l=ξ r->l[i]? = ξ a->r[i]? = ξ b->f a=ξ b
 | [],r,i,a,b,h,h1,h2=>by simp at h1
 | c::l,r,i,a,b,h,h1,h2=>by
  simp only[mapO] at h;obtain ⟨x,hx,h⟩:=aB.mp h;obtain ⟨y,hy,h⟩:=aJ.mp h;subst h;cases i with
  | zero=>simp at h1 h2;subst h1;subst h2;exact hx
  | succ i=>exact Oz hy (by simpa using h1) (by simpa using h2)
section
variable {prog:cO}{w:dH}{A:eE}{E:aH->aR->Prop}
theorem Yi{Q:List aH->aR->Prop}{r:Addr}{a b c:Int}{t u v:Tok}{n:Nat}(hh:A.handled=ψ)(hr:IsRange s.heap r a b c t u v)(hsmall:mT a b c=true)
  (hn:gW a b c=n) (hlen:n<=2 ^ 24)
  (hQ:∀ (h':Heap) (tk:Nat) (acc:Array aH),ZaD->rN (fun i v=>∃ t,v = .int (a+i * c) t) acc n->Q acc.toList { s with heap:=h',toks:=tk }):wpAny Zw A (collect (.ref r)) Q E s:=by
 unfold collect;refine aD (wpAny_runValue (hU PySem.F.entry_proto_collect ?_));rw[fA PySem.F.plain_proto_collect _];show wpAny _ A.in1 (newList [] >>= fun l=>again (.builtin "list.__iadd__" ⟨[l,.ref r],[]⟩)) _ _ s;refine aD (dE ?_);refine aW ⟨iU jR _,hU PySem.F.entry_list_iadd ?_⟩;rw[fA jR _];have hS₁:(s.heap.push { cls:=.type "list",data:=.seq ([]:List aH).toArray }).get? s.heap.objs.size=ξ { cls:=.type "list",data:=.seq ([]:List aH).toArray }:=aZ _ rfl;show wpAny _ A.in1 (jN ZM (.ref r) ZM) _ _ _;refine wpAny_extend_range (R:=wants _ E) (s:={ s with heap:=s.heap.push { cls:=.type "list",data:=.seq ([]:List aH).toArray } }) hh (aG _ hr) hsmall hn hlen s.heap.objs.size _ _ hS₁ fun h' tk acc' c' hk hS' hacc=>?_
 show wpAny _ A (load s.heap.objs.size >>= _) _ _ _;refine aD (vX hS' ?_);exact aW (hQ h' tk acc' (fun b o e=>hk b o (cB (bD e)) (aG _ e)) hacc)
end
noncomputable abbrev Agv(j:Int)(t u v:Tok):Obj:={ cls:=.type "range",data:=.fields #[.int 0 t,.int j u,.int 1 v] }
section
variable {pins:List (Addr×Obj)}
theorem Alu{f r:Addr}{m:U->Option U}{j:Int}{t u v:Tok}{us:List U}{ks:List (List Int)}{α:List Addr}{L:UH}{Q:VK}(hc:X.calm=true)
  (KR:Sl X X.A.in1.in1 σ H α L f m) (I:L2.Inv X pins σ H s) (hr:H r=ξ ZdB) (h0:-(2 ^ 62)<=j) (h64:j < 64) (Ab:Abs X.K H α L) (hus:us=Bh 0 j.toNat) (hl:ks.length=us.length) (hk1:∀ t∈ks,t≠[])
  (hk:∀ (i:Nat) (u:U) (t:List Int),us[i]? = ξ u->ks[i]? = ξ t->m u=ξ (tupI t))
  (q:∀ (b:Addr) (H':Hp) (α':List Addr),H' b=ψ->Gr H α H' α'->Abs X.K H' α' L->Q (.ref b) (upd H' b (.lst (((Cc Zc6 us.length).map fun i=>(M9 0 j.toNat).reverse.getD i .non).reverse)))) :
  wpAny Zg X.A (call (.builtin "sorted") [.ref r] [(cT "key",.ref f),(cT "reverse",.bool true)]) Z2 X.xe s:=by
 have hh:=I.ok.hd hc;have hro:=(I.hok r _ hr).1;have hul:us.length=j.toNat:=by rw[hus];unfold Bh;rw[aN,dX]
 refine qI rJ qE qF (ksk_s2 _ _ _) ?_;unfold jM.«sorted»;refine aD (m:=checkCount "sorted" 1 1 _) (aW (aD (Yi (a:=0) (b:=j) (c:=1) (n:=j.toNat) hh hro (small_one Ze Ze h0 Ze) (by rw[rV];split <;> omega) Ze fun h1 tk1 acc hk1' hacc=>aD (iV ?_ ?y2))))
 case y2=>rw[cN,cY,hacc.1];omega
 have hv:=Vf hacc;have J0:L2.Inv X pins σ H { s with heap:=h1,toks:=tk1 }:=I.kept hk1';have e2:(h1.push (seqObj "list" acc.toList.toArray 0)).get? h1.objs.size=ξ (seqObj "list" acc.toList.toArray 0):=aZ _ rfl;have J1:L2.Inv X pins σ H { s with heap:=h1.push (seqObj "list" acc.toList.toArray 0),toks:=tk1 }:=J0.kept (s:={ s with heap:=h1,toks:=tk1 }) (t':=tk1) fun b o e=>aG _ e
 have fp:F9 X pins H h1.objs.size:=J0.fpOk (s:={ s with heap:=h1,toks:=tk1 }) (aP _) (J0.hok.fresh (aP _));have hal:acc.toList.length=j.toNat:=by rw[cY];exact hacc.1
 refine aD (dQ (rQ nO ⟨_,e2,rfl⟩ mS ?body (ksk_l2 _ _ _)))
 case body=>
  show wpAny Zg X.A.in1.in1 (jM.«list.sort» ⟨[.ref h1.objs.size],[(cT "key",.ref f),(cT "reverse",.bool true)]⟩) _ _ _;rw[ksk_t2];refine dG (Aji KR J1 fp e2 hv (by rw[hus];exact Vx 0 _) Ab Ze hk1 hk Ze) (fun fin s' ⟨hf,H',α',J,hn,g,A'⟩=>?_) fun _ _ e=>e
  subst hf;refine ⟨_,rfl,aW ⟨_,rfl,.ref h1.objs.size,_,J,rfl,?_⟩⟩;have:=q h1.objs.size H' α' hn g A';rw[hul] at this;rw[hal];exact this
def Am3(ta:TA):TE:=fun σ H Q=>ta σ H fun vs H1=>∃ j:Int,vs=[.int j]/\∀ r t u v,H1 r=ψ->Q (.ref r) (upd H1 r ZdB)
theorem Al7{a:Expr}{ta:TA}{p' pos':Pos}(hg:Gl X "range")(hm:X.mg "range" = ψ)(ha:PA X [a] ta)(hs:bK [a] X.env=[ZO]:=by rfl):PE X (.Call (.Name "range" p') [a] [] pos') (Am3 ta):=by
 intro pins s σ H Q I h;refine dN (Em I hg hm sH (cC (thn Zdn fun us s1 ⟨vs,H1,I1,r1,q1⟩=>?_) hs rfl));obtain ⟨j,rfl,q⟩:=q1;obtain ⟨u,rfl,ru⟩:=Er r1;obtain ⟨t,rfl⟩:=ru;refine call_range_1 ?_;exact ⟨.ref s1.heap.objs.size,_,I1.laid (o:=Ik (Agv j _ _ _)) (fun b o e=>aG _ e) (aP _) (Qt (aZ _ rfl)),rfl,q _ _ _ _ ZaA⟩
end
structure LamX(X:Cx)(nm:Str):Prop where
 b:LamB X.K X.mg X.base
 mem:nm∈Fx
 tab:∃ c P,dJ X.K nm=ξ (c,P)/\X.env.code = .ref c
 q:X.env.qual++("<lambda>" : Str)=Me nm
def Abr(X:Cx)(scope:jP)(cl:List (Str×Addr)):Prop:=(∀ x c,cl.lookup x=ξ c->X.env.cells.lookup x=ξ c)/\∀ y∈scope.names,y.2 = .free->∃ c,cl.lookup y.1=ξ c
def Aur(X:Cx)(q:Str)(params:lM)(body:Expr)(scope:jP):TE:=fun σ H Q=>∃ α L,Abs X.K H α L/\∀ f cl H',Abr X scope cl->Gr H α H' α->Abs X.K H' α L->LamAt H' q params body scope cl f->Q (.ref f) H'
theorem Ak9{K:aL}{nm:Str}{oc:aH}{od:Option Addr}{fd:eT}{sl:Array (Option aH)}(h:(dJ K nm).isSome=true)(a:kT K dD nm=ξ (ξ (.ref f)))(l:K.lookup f=ξ ⟨oc,od,.func fd,sl⟩):∃ c P,dJ K nm=ξ (c,P)/\fd.code = .ref c:=by
 obtain ⟨⟨c,P⟩,e⟩:=jY.mp h;refine ⟨c,P,e,?_⟩;unfold dJ at e;rw[a] at e;simp only[l] at e;split at e
 ·rename_i c' hc;split at e
  ·split at e
   ·cases e;exact hc
   ·cases e
  ·cases e
 ·cases e
variable {k:Nat}
section
variable {P:cO}{w:dH}{K:aL}{mg:Str->Option aH}{base:Heap}
theorem Fun.okFL{x qual:Str}{st:Stmt}{fd:eT}{N ps:List Str}{body:FS}(F:Fun K x qual st f fd)(S:FnScope N ps (Aq st))
  (hbody:∀ (cdv:aH) (A:eE) (outer:List nC) (s:aR) (H:Hp) (E:XK),fd.code=cdv->Room k Za1->Ua (X5 CX0 P w K mg base N qual (Aq st) f cdv A outer s H E).nox (Ew st) body) :
  FnOk P w K mg base CX0 (k+1) f fd ps (spF K ps.length (fnU N.length ps.length body)):=by
 obtain ⟨oc,od,kV,doc,pm,an,cdv0,ct,osl,rfl,lk,hcd⟩:=F.ex;refine Amf lk hcd S (fun vs H Q E ⟨α,L,us,A,r,hl,_,_,_,_⟩=>by rw[<- r.length];exact hl) fun A outer s H vs Q E hr h=>?_
 obtain ⟨α,L,us,Ab,r,hl,u,L',e,q⟩:=h;refine ⟨_,(hbody cdv0 A outer s H E rfl hr).nox,?_⟩;unfold fnU at e;rw[if_pos hl] at e;obtain ⟨⟨fl,L1⟩,e1,e⟩:=aB.mp e;refine ⟨α,_,L,Ab,RepS.start N r,fl,L1,e1,?_⟩;cases fl with
 | rt w=>cases e;exact q
 | nx δ=>cases e;exact fun σ' H' α' g' A' S'=>q .non H' α' g' A' rfl
 | bk δ=>cases e
 | ct δ=>cases e
end
variable {δ:UE}
section
variable {nm:Str}{params:lM}{body:Expr}{scope:jP}{lpos:Pos}{N':List Str}{ix:List ZU}{pn:Str}{fb:FE}
theorem Ahw(LX:LamX X nm)(S:LamSc X params body scope N' ix pn)(hdef:defaultsOf params X.env=([],[])):PE X (.Lambda params body scope lpos) (Aur X (Me nm) params body scope):=by
 intro pins s σ H Q I h;obtain ⟨α,L,A,q⟩:=h;obtain ⟨c,P,ht,hc⟩:=LX.tab;obtain ⟨cl,hcl,h1,h2⟩:=S.sc.clos I.ok;refine thn (Air LX.b LX.mem ht hc LX.q hdef hcl I A) fun v s' hq=>?_
 obtain ⟨f,H',rfl,I',g,A',la⟩:=hq;exact ⟨.ref f,H',I',rfl,q f cl H' ⟨h1,h2⟩ g A' la⟩
def LamP(X:Cx)(A:eE)(N':List Str)(q:Str)(scope:jP)(k:Nat)(body:Expr)(fb:FE):Prop:=∀ (f c:Addr) (cl:List (Str×Addr)) (s:aR) (H:Hp),Room k (P6 X A N' q scope f c cl s H).A->PEF ZbE body fb
open Classical in
noncomputable def Mh(ix:List ZU)(fb:FE)(δ:UE)(L:UH)(u:U):Option U:=(fb (Xc ix u δ) L).bind fun r=>if r.2=L then ξ r.1 else ψ
theorem Alm{z:U}(h:Mh ix fb δ L u=ξ z):fb (Xc ix u δ) L=ξ (z,L):=by
 unfold Mh at h;obtain ⟨⟨y,L'⟩,e,h⟩:=aB.mp h;simp only at h;split at h
 ·rename_i hL;cases h;subst hL;exact e
 ·cases h
theorem Abz{z:U}(h:fb (Xc ix u δ) L=ξ (z,L)):Mh ix fb δ L u=ξ z:=by
 unfold Mh;rw[h];simp
theorem LamP.key{A:eE}{q:Str}{cl:List (Str×Addr)}(P:LamP X A N' q scope k body fb)(S:LamSc X params body scope N' ix pn)(hr:Room (k+1) A)(hA:A.frames=X.A.frames)(hcl:Abr X scope cl)
  (Sg:RepS X.K H α δ σ) (la:LamAt H q params body scope cl f):Sl X A σ H α L f (Mh ix fb δ L):=by
 intro pins H' α' s u z y x I g Ab ru rx hm;exact Ajj S hr hA hcl.1 hcl.2 (fun c s H hr=>P f c cl s H hr) I Ab (Sg.mono g) (la.stay g.st) ru rx (Alm hm)
def Kx(ks:List U):Nat:=Ce (fun i j=>(ltU (ks.getD i .non) (ks.getD j .non)).getD false) (ks.length - 1)
def Abx(ks:List U):Bool:=ks.all fun a=>ks.all fun b=>(ltU a b).isSome
theorem Ahq{ks:List U}(h:Abx ks=true):∀ (i j:Nat) (a b:U),ks[i]? = ξ a->ks[j]? = ξ b->ltU a b=ξ ((ltU (ks.getD i .non) (ks.getD j .non)).getD false):=by
 intro i j a b ha hb;have h1:=bT.mp h a (cI ha);have h2:=bT.mp h1 b (cI hb);rw[aC,aC,ha,hb];simp only[gG];cases e:ltU a b with
 | none=>rw[e] at h2;cases h2
 | some c=>rfl
noncomputable def N9(ix:List ZU)(fb:FE)(fe:FE):FE:=fun δ L=>(fe δ L).bind fun p=>match p.1 with
 | .ref n=>(Ap p.2 n).bind fun us=>(mapO (Mh ix fb δ p.2) us).bind fun ks=>if 0 < us.length/\Abx ks=true then ξ (us.getD (Kx ks) .non,p.2) else ψ
 | _=>ψ
theorem Ad2{e:Expr}{fe:FE}{p kpos pos:Pos}(LX:LamX X nm)(S:LamSc X params body scope N' ix pn)(hdef:defaultsOf params X.env=([],[]))(P:LamP X X.A.in1 N' (Me nm) scope k body fb)(hr:Room (k+2) X.A)(hc:X.calm=true)
  (hg:Gl X "min") (hm:X.mg "min" = ψ) (he:PEF X e fe) (hs:bK [e] X.env=[ZQ]:=by rfl) :
  PEF X (.Call (.Name "min" p) [e] [⟨ξ (cT "key"),.Lambda params body scope lpos,kpos⟩] pos) (N9 ix fb fe):=by
 intro pins s σ H Q I h;obtain ⟨α,δ,L,A,Sg,z,L3,ez,q⟩:=h;unfold N9 at ez;obtain ⟨⟨u,L1⟩,e1,ez⟩:=aB.mp ez;simp only at ez;split at ez
 ·rename_i n;obtain ⟨us,hus,ez⟩:=aB.mp ez;obtain ⟨ks,hks,ez⟩:=aB.mp ez;split at ez
  ·rename_i hcc;cases ez;refine dN (Em I hg hm PyProof.Rows.boot_min ?_);refine vI ?_ (by rw[hs];rfl) (by rw[hs];rfl) Zc;have hpa:PAF X [e] (Ac fe Af):=Aa he Ae (hs:=by rw[hs];rfl);have hA:(Ac fe Af) δ L=ξ ([.ref n],L3):=by
    show (fe δ L).bind _=_;rw[e1];rfl
   refine thn (hpa pos pins s σ H (fun vs H1=>∃ α1,Gr H α H1 α1/\Abs X.K H1 α1 L3/\RepL X.K H1 α1 [.ref n] vs) I ⟨α,δ,L,A,Sg,_,L3,hA,fun vs H1 α1 g1 A1 r1=>⟨α1,g1,A1,r1⟩⟩) fun vs s1 ⟨xs,H1,I1,rx,α1,g1,A1,r1⟩=>?_
   refine thn (Qw (nm:=ξ (cT "key")) (kpos:=kpos) (Ahw LX S hdef) Aau pos pins s1 σ H1 (fun zs H2=>∃ f cl,zs=[.ref f]/\Abr X scope cl/\Gr H1 α1 H2 α1/\Abs X.K H2 α1 L3/\LamAt H2 (Me nm) params body scope cl f) I1 ⟨α1,L3,A1,fun f cl H2 h1 h2 h3 h4=>⟨f,cl,rfl,h1,h2,h3,h4⟩⟩) fun ws s2 ⟨zs,H2,I2,rz,f,cl,hz,hcl,g2,A2,la⟩=>?_
   subst hz;obtain ⟨y,rfl,ry⟩:=r1.one;unfold RepU at ry;obtain ⟨l,hal,rfl⟩:=ry;obtain ⟨v,rfl,rv⟩:=Er rx;cases rv;obtain ⟨v2,rfl,rv2⟩:=Er rz;cases rv2;have hlk:=Oc hks;refine Agl (kf:=ξ f) (m:=Mh ix fb δ L3) (bt:=fun i j=>(ltU (ks.getD i .non) (ks.getD j .non)).getD false) Zae (by have:=hr.un;show X.A.units+1+4 < cLine;omega) hus (g2.at hal) hlk hcc.1 (fun f' hf'=>?_) (fun i u z hu hz=>Oz hks hu hz) (Ahq hcc.2) I2 A2 (fun s' H' α' v y u J g A' hu1 rv ru=>?_)
   ·cases hf';exact P.key S hr.in1 rfl hcl (Sg.mono Zak) la
   ·refine ⟨y,H',J,rv,q _ H' α' (g1.trans (g2.trans g)) A' ?_⟩;have:us.getD (Kx ks) .non=u:=by
     unfold Kx;rw[aC,<- hlk,hu1];rfl
    rw[this];exact ru
  ·cases ez
 ·cases ez
noncomputable def K6(ix:List ZU)(fb:FE)(ga:FA):FE:=fun δ L=>(ga δ L).bind fun p=>match p.1 with
 | [.int j]=>(mapO (fun u=>(Mh ix fb δ p.2 u).bind Nj) (Bh 0 j.toNat)).bind fun ks=>if (-(2 ^ 62)<=j/\j < 64)/\(ks.all fun t=>!t.isEmpty)=true then
   ξ (.ref p.2.length,p.2++[.lst (((Cc Zc6 j.toNat).map fun i=>(Bh 0 j.toNat).reverse.getD i .non).reverse)]) else ψ
 | _=>ψ
theorem Ajr{t:List Int}(h:Nj u=ξ t):u=tupI t:=by
 have h1:mapO Nj [u]=ξ [t]:=by simp only[mapO,h,aA,aF]
 have h2:=Qr h1;simpa using h2
theorem Aa7{a:Expr}{ga:FA}{p p' kpos kpos2 pos pos' bpos:Pos}{kd:Nat}(LX:LamX X nm)(S:LamSc X params body scope N' ix pn)(hdef:defaultsOf params X.env=([],[]))(P:LamP X X.A.in1.in1 N' (Me nm) scope k body fb)(hr:Room (k+3) X.A)(hc:X.calm=true)
  (hg:Gl X "sorted") (hm:X.mg "sorted" = ψ) (hg2:Gl X "range") (hm2:X.mg "range" = ψ) (ha:PAF X [a] ga) (hs:bK [a] X.env=[ZO]:=by rfl)
  (hs2:bK [.Call (.Name "range" p') [a] [] pos'] X.env=[(false,eval (.Call (.Name "range" p') [a] [] pos') X.env)]:=by rfl) :
  PEF X (.Call (.Name "sorted" p) [.Call (.Name "range" p') [a] [] pos'] [⟨ξ (cT "key"),.Lambda params body scope lpos,kpos⟩,⟨ξ (cT "reverse"),.Constant ZbJ kd bpos,kpos2⟩] pos) (K6 ix fb ga):=by
 intro pins s σ H Q I h;obtain ⟨α,δ,L,A,Sg,z,L3,ez,q⟩:=h;unfold K6 at ez;obtain ⟨⟨us,L1⟩,e1,ez⟩:=aB.mp ez;simp only at ez;split at ez
 ·rename_i j;obtain ⟨ks,hks,ez⟩:=aB.mp ez;split at ez
  ·rename_i hcc;cases ez;refine dN (Em I hg hm fM ?_);refine vI ?_ (by rw[hs2];rfl) (by rw[hs2];rfl) Zc;have hpr:PE X (.Call (.Name "range" p') [a] [] pos') (Am3 (lA X.K ga)):=Al7 hg2 hm2 ha hs;refine thn (Acj hpr Ahj (hs:=hs2) pos pins s σ H (fun vs H1=>∃ α1 r t u v,vs=[.ref r]/\H1 r=ξ ZdB/\Gr H α H1 α1/\Abs X.K H1 α1 L1) I ?_) fun vs s1 ⟨xs,H1,I1,rx,α1,r,t,u,v,hx,hr1,g1,A1⟩=>?_
   ·refine ⟨α,δ,L,A,Sg,_,L1,e1,fun vs H1 α1 g1 A1 r1=>?_⟩;obtain ⟨y,rfl,ry⟩:=r1.one;unfold RepU at ry;subst ry;refine ⟨j,rfl,fun r t u v hn=>?_⟩;have g2:Gr H1 α1 (upd H1 r ZdB) α1:=⟨⟨[],Za⟩,.new hn _⟩;exact ⟨α1,r,t,u,v,rfl,upd_same,g1.trans g2,⟨A1.len,A1.inj,fun i a o e1 e2=>(A1.rep i a o e1 e2).other g2 (.inr fun u q=>by rw[Aw (Bc q hn)];exact q),A1.tabs g2.st (Qy hn _)⟩⟩
   subst hx;refine thn (Qw (nm:=ξ (cT "key")) (kpos:=kpos) (Ahw LX S hdef) (Qw (nm:=ξ (cT "reverse")) (kpos:=kpos2) (Am4 (b:=true)) Aau) pos pins s1 σ H1 (fun zs H2=>∃ f cl,zs=[.ref f,.bl true]/\Abr X scope cl/\Gr H1 α1 H2 α1/\Abs X.K H2 α1 L1/\LamAt H2 (Me nm) params body scope cl f) I1 ⟨α1,L1,A1,fun f cl H2 h1 h2 h3 h4=>⟨f,cl,rfl,h1,h2,h3,h4⟩⟩) fun ws s2 ⟨zs,H2,I2,rz,f,cl,hz,hcl,g2,A2,la⟩=>?_
   subst hz;obtain ⟨v1,rfl,rv1⟩:=Er rx;cases rv1;obtain ⟨v2,v3,rfl,rv2,rv3⟩:=Xk rz;cases rv2;cases rv3;have hlk:=Oc hks;have hlen:(Bh 0 j.toNat).length=j.toNat:=by unfold Bh;rw[aN,dX]
   refine Alu (m:=Mh ix fb δ L1) (us:=Bh 0 j.toNat) (ks:=ks) hc (P.key S hr.in1.in1 rfl hcl (Sg.mono Zak) la) I2 (g2.st.2 _ _ _ hr1) hcc.1.1 hcc.1.2 A2 rfl hlk.symm (fun t ht=>?_) (fun i u t hu ht=>?_) fun b H' α' hn g A'=>?_
   ·have:=bT.mp hcc.2 t ht;intro z;rw[z] at this;simp at this
   ·obtain ⟨y,hy1,hy2⟩:=aB.mp (Oz (f:=fun u=>(Mh ix fb δ L1 u).bind Nj) hks hu ht);rw[hy1,Ajr hy2]
   ·have hperm:=F3 (n:=j.toNat) (Ia ks.reverse);rw[hlen];have rl:RepL X.K H' α' (((Cc Zc6 j.toNat).map fun i=>(Bh 0 j.toNat).reverse.getD i .non).reverse) (((Cc Zc6 j.toNat).map fun i=>(M9 0 j.toNat).reverse.getD i .non).reverse):=by
     refine RepL.reverse ?_;have r2:RepL X.K H' α' (Bh 0 j.toNat).reverse (M9 0 j.toNat).reverse:=(Vx 0 _).reverse;have hl2:(Bh 0 j.toNat).reverse.length=j.toNat:=by rw[cG,hlen]
     have:∀ js:List Nat,(∀ i∈js,i < j.toNat)->RepL X.K H' α' (js.map fun i=>(Bh 0 j.toNat).reverse.getD i .non) (js.map fun i=>(M9 0 j.toNat).reverse.getD i .non):=by
      intro js;induction js with
      | nil=>intro _;exact .nil
      | cons i js ih=>
       intro hj;have hj0:=hj i (aQ ..);obtain ⟨x,hx,rx'⟩:=r2.get (aE (by rw[hl2];exact hj0));refine .cons ?_ (ih fun x hx=>hj x (aK _ hx));show RepU X.K H' α' ((Bh 0 j.toNat).reverse.getD i .non) ((M9 0 j.toNat).reverse.getD i .non);rw[aC,aC,aE (by rw[hl2];exact hj0),hx];exact rx'
     exact this _ fun i hi=>bE.mp (hperm.mem_iff.mp hi)
    obtain ⟨g3,A3,r3⟩:=A'.lst rl hn;exact q _ _ _ (g1.trans (g2.trans (g.trans g3))) A3 r3
  ·cases ez
 ·cases ez
end
end MR
namespace MR
open PySem PySem.Spec PyProof.Rows PySem.Calls L2
section
variable {X:Cx}{o:Expr}{apos cpos p pos:Pos}{td:TE}{fo:FE}
end
end MR
namespace MR
open PySem PySem.Spec PyProof.Rows PySem.Calls L2 SO
section
variable {X:Cx}{pins:List (Addr×Obj)}{σ:L2.St}{H:Hp}{s:aR}{h':Heap}
theorem Aip{k:Nat}{f l:Addr}{fd:eT}{p:Str}{m:FN}{ys:List V}{us:List U}{ks:List (List Int)}{α:List Addr}{L:UH}{Q:VK}
  (F:FnOk X.prog X.w X.K X.mg X.base CX0 k f fd [p] (spF X.K 1 m)) (hr:Room (k+2) X.A) (hb:Binds X.K fd [p] []) (I:L2.Inv X pins σ H s) (hq:SqT X.K H l ys) (ru:RepL X.K H α us ys) (Ab:Abs X.K H α L) (hl:ks.length=ys.length) (hk1:∀ t∈ks,t≠[])
  (hk:∀ (i:Nat) (u:U) (t:List Int),us[i]? = ξ u->ks[i]? = ξ t->m [u] L=ξ (tupI t,L)) (h64:ys.length < 64)
  (q:∀ (b:Addr) (H':Hp) (α':List Addr),H' b=ψ->Gr H α H' α'->Abs X.K H' α' L->Q (.ref b) (upd H' b (.lst ((Cc (ltK ks) ys.length).map fun i=>ys.getD i .non)))) :
  wpAny Zg X.A (call (.builtin "sorted") [.ref l] [(cT "key",.ref f)]) Z2 X.xe s:=by
 obtain ⟨its,rv,it,hz⟩:=I.tuple hq;have hlen:=rv.length;obtain ⟨o,ho,hc,cn,hd⟩:=it;refine qI rJ qE qF (ksk_s1 _ _) ?_;unfold jM.«sorted»;refine aD (m:=checkCount "sorted" 1 1 _) (aW (aD (tI l (.inr rfl) ho hc hd (fun h1 kp=>?_) (by rw[cN,aU];omega))));rw[show its.toArray.toList=its from by simp];refine aD (iV ?_ (by rw[cN];omega));have J0:L2.Inv X pins σ H { s with heap:=h1 }:=I.kept (t':=s.toks) kp;have J1:L2.Inv X pins σ H { s with heap:=h1.push (seqObj "list" its.toArray 0) }:=J0.kept (t':=s.toks) fun b o e=>aG _ e
 have e2:(h1.push (seqObj "list" its.toArray 0)).get? h1.objs.size=ξ (seqObj "list" its.toArray 0):=aZ _ rfl;have fp:F9 X pins H h1.objs.size:=J0.fpOk (aP _) (J0.hok.fresh (aP _));show wpAny _ _ _ _ _ ({ s with heap:=h1.push (seqObj "list" its.toArray 0) }:aR);refine aD (dQ (rQ nO ⟨_,e2,rfl⟩ mS ?body (ksk_l1 _ _)))
 case body=>
  show wpAny Zg X.A.in1.in1 (jM.«list.sort» ⟨[.ref h1.objs.size],[(cT "key",.ref f)]⟩) _ _ _;rw[ksk_t1];refine dG (An1 F (hr.in1.in1) hb J1 fp e2 rv ru Ab Ze hk1 hk Ze) (fun fin s' ⟨hf,H',α',J,hn,g,A'⟩=>?_) fun _ _ e=>e
  subst hf;refine ⟨_,rfl,aW ⟨_,rfl,.ref h1.objs.size,_,J,rfl,?_⟩⟩;have:=q h1.objs.size H' α' hn g A';rw[hlen] at this;exact this
end
noncomputable def Ly(m:FN)(f:FE):FE:=fun δ L=>(f δ L).bind fun q=>match q.1 with
 | .tup us=>(mapO (Vh m q.2) us).bind fun ks=>if us.length < 64/\(ks.all fun t=>!t.isEmpty)=true then ξ (.ref q.2.length,q.2++[.lst ((Cc (ltK ks) us.length).map fun i=>us.getD i .non)]) else ψ
 | _=>ψ
theorem Aeg{X:Cx}{k:Nat}{f:Addr}{fd:eT}{pn kf:Str}{m:FN}{e:Expr}{fe:FE}{p kp kpos pos:Pos}(F:FnOk X.prog X.w X.K X.mg X.base CX0 k f fd [pn] (spF X.K 1 m))(hr:Room (k+2) X.A)(hb:Binds X.K fd [pn] [])
  (hg:Gl X "sorted") (hm:X.mg "sorted" = ψ) (hgk:Gl X kf) (hmk:X.mg kf=ξ (.ref f)) (he:PEF X e fe) (hd:(kf == ("__debug__" : Str))=false:=by decide)
  (hs:bK [e] X.env=[ZQ]:=by rfl):PEF X (.Call (.Name "sorted" p) [e] [⟨ξ (cT "key"),.Name kf kp,kpos⟩] pos) (Ly m fe):=by
 intro pins s σ H Q I h;obtain ⟨α,δ,L,A,S,z,L3,ez,q⟩:=h;unfold Ly at ez;obtain ⟨⟨u,L1⟩,e1,ez⟩:=aB.mp ez;simp only at ez;split at ez
 ·rename_i us;obtain ⟨ks,hks,ez⟩:=aB.mp ez;split at ez
  ·rename_i hc;cases ez;refine dN (Em I hg hm fM ?_);refine vI ?_ (by rw[hs];rfl) (by rw[hs];rfl) Zc;have hpa:PAF X [e] (Ac fe Af):=Aa he Ae (hs:=by rw[hs];rfl);have hA:(Ac fe Af) δ L=ξ ([.tup us],L1):=by
    show (fe δ L).bind _=_;rw[e1];rfl
   refine thn (hpa pos pins s σ H (fun vs H1=>∃ α1,Gr H α H1 α1/\Abs X.K H1 α1 L1/\RepL X.K H1 α1 [.tup us] vs) I ⟨α,δ,L,A,S,_,L1,hA,fun vs H1 α1 g1 A1 r1=>⟨α1,g1,A1,r1⟩⟩) fun vs s1 ⟨xs,H1,I1,rx,α1,g1,A1,r1⟩=>?_
   refine thn (Qw (nm:=ξ (cT "key")) (kpos:=kpos) (Ala (v:=.ref f) hgk hmk rfl hd) Aau pos pins s1 σ H1 (fun zs H2=>zs=[.ref f]/\H2=H1) I1 ⟨rfl,rfl⟩) fun ws s2 ⟨zs,H2,I2,rz,hz,hH⟩=>?_
   subst hH;subst hz;obtain ⟨y,rfl,ry⟩:=r1.one;unfold RepU at ry;obtain ⟨b,ys,rfl,sq,r2⟩:=ry;obtain ⟨v,rfl,rv⟩:=Er rx;cases rv;obtain ⟨v2,rfl,rv2⟩:=Er rz;cases rv2;have hlu:=r2.length;have hlk:=Oc hks;refine Aip F hr hb I2 sq r2 A1 Ze (fun t ht=>?_) (fun i u t hu ht=>Aib (Oz hks hu ht)) Ze fun c H' α' hn g' A'=>?_
   ·have:=bT.mp hc.2 t ht;intro z;rw[z] at this;simp at this
   ·have hperm:=F3 (n:=us.length) (Ia ks);have rl:RepL X.K H' α' ((Cc (ltK ks) us.length).map fun i=>us.getD i .non) ((Cc (ltK ks) ys.length).map fun i=>ys.getD i .non):=by
     rw[<- hlu];have:∀ js:List Nat,(∀ j∈js,j < us.length)->RepL X.K H' α' (js.map fun i=>us.getD i .non) (js.map fun i=>ys.getD i .non):=by
      intro js;induction js with
      | nil=>intro _;exact .nil
      | cons j js ih=>
       intro hj;have hj0:=hj j (aQ ..);obtain ⟨x,hx,rx'⟩:=r2.get (aE hj0);refine .cons ?_ (ih fun x hx=>hj x (aK _ hx));show RepU X.K H' α' (us.getD j .non) (ys.getD j .non);rw[aC,aC,aE hj0,hx];exact rx'.mono g'
     exact this _ fun j hj=>bE.mp (hperm.mem_iff.mp hj)
    obtain ⟨g2,A2,r3⟩:=A'.lst rl hn;exact q _ _ _ (g1.trans (g'.trans g2)) A2 r3
  ·cases ez
 ·cases ez
end MR
namespace MR
open PySem PySem.Spec PyProof.Rows PySem.Calls L2
structure FnG(K:aL)(mg:Str->Option aH)(x:Str)(st:Stmt)(ps:List Str) where
 f:Addr
 d:eT
 F:Fun K x x st f d
 b:Binds K d ps []
 g:mg x=ξ (.ref f)
abbrev As1(x q:Str)(st:Stmt)(ps:List Str):Prop:=∀ (kV doc pm:aH) (an:Option Addr) (cdv ct:aH) (us:List aH),us.length=ps.length->vZ (iA x q (G1 st) (Ew st) (Aq st) .none kV doc pm an cdv ct) ⟨us,[]⟩=pure (ps.zip us)
theorem scm{N P:List Str}{sc:jP}(h1:sc.kind = .function:=by rfl)(h2:sc.isCoroutine=false:=by rfl)(h3:sc.isGenerator=false:=by rfl)(h4:N.Nodup:=by lk)(h5:N.take P.length=P:=by rfl)
  (h6:∀ x∈P,sc.names.lookup x=ξ .local\/sc.names.lookup x=ξ .cell:=by lk) (h7:∀ y∈sc.names,y.2≠.free:=by lk):FnScope N P sc:=⟨h1,h2,h3,h4,h5,h6,h7⟩
section
variable {K:aL}{h:Heap}{mg:Str->Option aH}{x q:Str}{st:Stmt}{ps:List Str}{f C:Addr}{od an:Option Addr}{sl:Array (Option aH)}{oc kV dc pm cd ct:aH}
def mkG(X:K.In h)(G:h.Ns dD mg)(a:kT K dD x=ξ (ξ (.ref f)))(l:K.lookup f=ξ ⟨oc,od,.func (iA x x (G1 st) (Ew st) (Aq st) .none kV dc pm an cd ct),sl⟩)(c:nF K cd x=true)(k:iY K (.ref f)=true)(hb:As1 x x st ps):FnG K mg x st ps:=
 ⟨f,_,Aic l c k,(Aic l c k).binds hb,wZ X G a⟩
theorem FnG.law(c:FnG K mg "law" st ["script"]){Q:Addr->eT->Prop}{fa:Addr}(hfa:mg "law" = ξ (.ref fa))(hl:∀ (kV doc pm:aH) (an:Option Addr) (cdv ct:aH) (s:aR) (v:aH),oB s (iA "law" "law" (G1 st) (Ew st) (Aq st) .none kV doc pm an cdv ct) ⟨[v],[]⟩ [("script",v)])(hQ:Q c.f c.d) :
  ∃ fd:eT,(∀ (s:aR) (v:aH),oB s fd ⟨[v],[]⟩ [("script",v)])/\Q fa fd:=by
 have e:=hfa.symm.trans c.g;cases e;obtain ⟨oc,od,kV,doc,pm,an,cdv,ct,osl,e,lk,hcd⟩:=c.F.ex;refine ⟨c.d,fun s v=>?_,hQ⟩;rw[e];exact hl kV doc pm an cdv ct s v
end
section
variable {X:Cx}{x m q C:Str}{Ca:Addr}{st:Stmt}{ps:List Str}{k n j:Nat}{F:FN}{e o:Expr}{es:List Expr}{g:FA}{fo:FE}{p pos apos:Pos}
end
def Aoj(K:aL)(mg:Str->Option aH)(nm:Str):Prop:=∃ c P,dJ K nm=ξ (c,P)/\∀ f d st,Fun K nm nm st f d->mg nm=ξ (.ref f)->d.code = .ref c
theorem Arq{K:aL}{h:Heap}{mg:Str->Option aH}{nm:Str}(X:K.In h)(G:h.Ns dD mg)(ht:(dJ K nm).isSome=true):Aoj K mg nm:=by
 obtain ⟨⟨c,P⟩,e⟩:=jY.mp ht;refine ⟨c,P,e,fun f d st F g=>?_⟩;have e2:=e;unfold dJ at e2;split at e2
 ·rename_i f0 hn;have:=g.symm.trans (wZ X G hn);cases this;obtain ⟨oc,od,kV,doc,pm,an,cdv,ct,osl,e3,lk,hcd⟩:=F.ex;obtain ⟨c',P',q1,q2⟩:=Ak9 ht hn lk;rw[e] at q1;cases q1;exact q2
 ·cases e2
end MR
namespace Lw
open PySem L2 MR
noncomputable def Mm:FE:=(C0 (Ac (f2 Be (f2 Am (Ad 2) (f2 Fy (Ad 0) (fC (.int 26)))) (f2 Am (Ad 2) (f2 Gb (Ad 0) (fC (.int 26))))) Zcj))
noncomputable def Nh:FS:=(Bb (Ba (fC (.str "abcdefghijklmnopqrstuvwxyz")) (gN 1)) (Bx (Au semTuple (Ac (Bo [ψ,ψ,ξ 1] (De Zl) Zi ψ Mm) Af))))
noncomputable def Eb:FN:=fnU 2 1 Nh
noncomputable def Gj:FE:=(f2 Aig (Ad 0) (Ad 1))
noncomputable def Jy:FS:=(Bx (Acx (f2 Fw (Ad 0) (Ad 1)) (Au Rv (Ac (Bo [ψ,ψ] (P9 Zcj) Zi ψ Gj) Af))))
noncomputable def Cm:FN:=fnU 2 2 Jy
noncomputable def Ge:FE:=(Ad 0)
noncomputable def b_many_above_1t:FT:=(Js (Ay 2 Cm Zck))
noncomputable def N8:FS:=(Bx (Au Bg (Ac (Bo [ψ,ξ 1] (Bj (Ad 0)) (gN 0) (ξ b_many_above_1t) Ge) Af)))
noncomputable def G4:FN:=fnU 2 2 N8
noncomputable def Ru:FS:=(Bx (C0 (Ac Zb6 (Ac ZcB Af))))
noncomputable def Bk:FN:=fnU 1 1 Ru
noncomputable def Gh:FE:=(Ay 2 G4 Zck)
noncomputable def Gf:FE:=(Ay 1 Bk Zl)
noncomputable def Ot:FS:=(Bb (Ba (Bo [ψ] (Bj (Ad 0)) (gN 0) ψ Gf) (gN 1)) (Bx (Au semTuple (Ac (Bo [ψ,ξ 1] (Bj (Ad 1)) (gN 0) ψ Gh) Af))))
noncomputable def Ee:FN:=fnU 2 1 Ot
noncomputable def Gi:FE:=(Ad 0)
noncomputable def b_many_below_1t:FT:=(Js (Ay 2 Cm Zcj))
noncomputable def Oh:FS:=(Bx (Au Bg (Ac (Bo [ψ,ξ 1] (Bj (Ad 0)) (gN 0) (ξ b_many_below_1t) Gi) Af)))
noncomputable def Ff:FN:=fnU 2 2 Oh
noncomputable def Gg:FE:=(Ay 2 Ff Zck)
noncomputable def Ga:FE:=(Ay 1 Bk Zl)
noncomputable def O0:FS:=(Bb (Ba (Bo [ψ] (Bj (Ad 0)) (gN 0) ψ Ga) (gN 1)) (Bx (Au semTuple (Ac (Bo [ψ,ξ 1] (Bj (Ad 1)) (gN 0) ψ Gg) Af))))
noncomputable def Cj:FN:=fnU 2 1 O0
noncomputable def Fq:FE:=(Ad 0)
noncomputable def Fu:FT:=(Bp (f2 Dq (Ad 0) (Ad 1)))
noncomputable def Lp:FS:=(Bx (Au Bg (Ac (Bo [ψ,ξ 1] (Bj (Ad 0)) (gN 0) (ξ Fu) Fq) Af)))
noncomputable def Fj:FN:=fnU 2 2 Lp
noncomputable def Hh:FE:=(Ay 2 Fj (Ac (fSl semSl (Ad 2) Md (Gs (Ad 0))) ZR))
noncomputable def Qb:FS:=(Bx (Au semTuple (Ac (Bo [ψ,ψ,ξ 0] (De Zl) Zi ψ Hh) Af)))
noncomputable def E8:FN:=fnU 1 1 Qb
noncomputable def Sy:FS:=(Bx (Au semSum (Ac (Ay 1 E8 Zl) Af)))
noncomputable def F1:FN:=fnU 1 1 Sy
noncomputable def Fd:FE:=(Ay 2 Ff Zck)
noncomputable def Kr:FS:=(Bx (Au semSum (Ac (Bo [ψ,ξ 0] (Bj (Ad 1)) (gN 0) ψ Fd) Af)))
noncomputable def D7:FN:=fnU 2 2 Kr
noncomputable def B4(R:FN):FS:=(Bb (Ba (f2 Bq (Ad 2) (Ad 1)) (gN 3)) (Bb (Ek (Bp (f2 P8 (Ad 3) ZaK)) (Bx (El Af)) Cf) (Bb (Ba (f2 Be (Ad 1) (f2 Fy (Ad 3) ZaK)) (gN 4)) (Bb (Ba (C0 (Ac (Ad 1) (Ac (Ad 2) (Ac (Ay 2 D7 (Ac (fSl semSl (Ad 0) (Gs (Ad 1)) (Gs (Ad 4))) (Ac (fSl semSl (Ad 0) (Gs (Ad 4)) (Gs (Ad 2))) Af))) Af)))) (gN 5)) (Bx (f2 Be (f2 Be (El (Ac (Ad 5) Af)) (Ay 3 R (Ac (Ad 0) (Ac (Ad 1) (Ac (Ad 4) Af))))) (Ay 3 R (Ac (Ad 0) (Ac (Ad 4) ZA)))))))))
noncomputable def By:Nat->FN
 | 0=>fun _ _=>ψ
 | k+1=>fnU 6 3 (B4 (By k))
noncomputable def F0:FN:=By 7
noncomputable def Fg:FE:=(Ay 1 Bk Zl)
noncomputable def Pt:FS:=(Bb (Ba (Au Fo (Ac (Bo [ψ] (Bj (Ad 0)) (gN 0) ψ Fg) Af)) (gN 1)) (Bx (Au semTuple (Ac (Ay 3 F0 (Ac (Ad 1) (Ac Zn (Ac (Au Bg ZR) Af)))) Af))))
noncomputable def D6:FN:=fnU 2 1 Pt
noncomputable def K1:FS:=(Bx (Au semSum (Ac (Ay 1 Cj Zl) Af)))
noncomputable def B0:FN:=fnU 1 1 K1
noncomputable def Dr:FS:=(Ek (fOr (Bp (f2 P8 (Ad 2) Zn)) (Bp (f2 Dq (Ad 2) (Ad 1)))) Ag1 Cf)
noncomputable def Mi:FS:=(Jo (De Zl) (MR.gTup 2 ZaF) Dr)
noncomputable def Eo:FN:=fnU 3 1 Mi
noncomputable def M7:FS:=(Ka (Ht "list" C9 (Ad 2) (Ac (Ht "list" Nn (Ad 1) (Ac (f2 Bq (Ad 3) Zbn) Af)) Af)))
noncomputable def Xf:FS:=(Bb (Ka (Ay 1 Eo Zl)) (Bb (Ba (Pe (Ac Zh Zc3)) (gN 1)) (Bb (Ba (El Af) (gN 2)) (Bb (Jo (Abl (Ac (f2 Bq (Au Bg Zl) Zh) (Ac (Ip Zh) (Ac (Ip Zh) Af)))) (gN 3) M7) (Bx (Ac5 ZA))))))
noncomputable def K3:FN:=fnU 4 1 Xf
noncomputable def Jl:FE:=(C0 (Ac (f2 Be (fC (.str "a")) (Ad 0)) (Ac (Ad 1) ZaH)))
noncomputable def G2:FE:=(C0 (Ac (Ad 0) (Ac (Ad 2) ZR)))
noncomputable def G5:FE:=(Ad 1)
noncomputable def Gz:FE:=(C0 Zck)
noncomputable def Jw:FE:=(Ad 2)
noncomputable def N4:FE:=(f2 Bq (Ad 0) (Ad 1))
noncomputable def Pk:FS:=(Bb (Ba (Au Bg Zl) (gN 1)) (Bb (Ba (Ay 1 Eb Zl) (gN 2)) (Bb (Ba (Ay 1 E8 Zl) (gN 3)) (Bb (Ek (Bp (f2 Fw (f2 Be (Ay 1 F1 Zl) (Ay 1 B0 ZA)) (f2 Fy (f2 Df (Ad 1) (f2 Bq (Ad 1) Zh)) ZaK))) (Bx Zag) Cf) (Bb (Ek (Bp (f2 Fw (Au O6 (Ac (Ay 1 Cj ZA) Af)) (Bo [ψ,ψ] (De ZaH) Zi ψ N4))) (Bx Zag) Cf) (Bb (Ek (Bp (f2 Fw (Au semSum (Ac (Bo [ψ,ψ,ψ] (Bj (Ay 1 D6 ZA)) Zo ψ Jw) Af)) (Ay 1 B0 ZA))) (Bx Zag) Cf) (Bb (Ek (Bp (f2 Fw (Au semSum (Ac (Ay 1 Ee ZA) Af)) (Ay 1 B0 ZA))) (Bx Zag) Cf) (Bb (Ba Zbz (gN 4)) (Bb (Ba Za2 (gN 5)) (Bb (Ba ZaQ (gN 6)) (Bb (Ek (fOr (Bp (f2 Fw (Ay 1 B0 (Ac (Ad 6) Af)) (Ay 1 B0 ZA))) (Bp (f2 Fw (Ay 1 F1 (Ac (Ad 5) Af)) (Ay 1 F1 Zl)))) (Bx Zag) Cf) (Bb (Ba (Au semTuple (Ac (Bo [ψ,ψ,ψ,ψ] (P9 (Ac (Ad 2) (Ac (Ay 1 K3 ZaH) Af))) Zc4 ψ Jl) Af)) (gN 7)) (Bx (f2 Eu (Ay 1 Cj (Ac (Ad 7) Af)) (Ay 1 Cj ZA)))))))))))))))
noncomputable def Pa:FN:=fnU 8 1 Pk
noncomputable def F2:FE:=(Ht "list" Nn (Ad 1) (Ac (Ay 2 A9 (Ac (Ad 2) (Ac (Au Bg ZR) Af))) Af))
noncomputable def Je:FS:=(Bb (Ka (Ht "list" C9 (Ad 7) (Ac (Ad 6) Af))) (Ba (f2 Be (f2 Be (Ad 6) Zh) (f2 Gb (f2 Be (f2 Df (Ay 2 A9 Zad) (f2 Gd (fC (.int 10)) (fC (.int 5)))) (Ay 2 A9 Zad)) (Ad 5))) (gN 6)))
noncomputable def Aco:FS:=(Bb (Ba (f2 Am (El (Ac (Ay 2 A9 (Ac (Ad 0) (Ac (f2 Be (Ad 1) Zh) Af))) (Ac (Ay 2 A9 (Ac (Ad 0) (Ac (fC (.int 7)) Af))) ZR))) (Ay 2 A9 (Ac (Ad 0) (Ac (fC (.int 3)) Af)))) (gN 2)) (Bb (Ba ZH (gN 3)) (Bb (Ba ZH (gN 4)) (Bb (Ba (f2 Am (El ZP) (Ad 4)) (gN 5)) (Bb (Ba (f2 Am (El Zz) ZH) (gN 6)) (Bb Zal (Bb (Ba (El Af) (gN 7)) (Bb (Jo (Jd ZA) (gN 8) Je) (Bb (Ek (Bp (f2 Eu (Ad 3) Zh)) (Ba (Vu (Ad 7)) (gN 7)) Cf) (Bb (Ek (Bp (f2 Dq (Ad 3) Zh)) (Ba (Bo [ψ,ξ 7,ξ 0] (Jd ZA) (gN 0) ψ F2) (gN 7)) Cf) (Bb (Ek (Ads (Bp (f2 Eu (Ad 3) Zn)) (Bp (f2 Dq (Ad 2) Zh))) (Bb (Ba Zbq (gN 9)) (Ba (C0 Zau) (MR.gTup 2 (MR.gCons (MR.gSub (Ad 7) (Ad 9)) (MR.gCons (MR.gSub (Ad 7) ZcO) MR.gNil))))) Cf) (Bx (Au semTuple (Ac (Ad 7) Af))))))))))))))
noncomputable def Qx:FN:=fnU 10 2 Aco
noncomputable def Cs:FS:=(Ek (Js (Ay 2 Cm (Ac (Ay 1 Bk ZbN) (Ac (Ay 1 Bk ZR) Af)))) (Bx (Ad 2)) Cf)
noncomputable def E2:FS:=(Bb (Jo (Us Zl) Zcx Cs) (Bx (Au Bg Zl)))
noncomputable def Dl:FN:=fnU 4 2 E2
noncomputable def Dt:FS:=(Bb (Ba (Ay 2 Dl (Ac (Ad 1) ZA)) (gN 3)) (Bb (Ba (fIf (Bp ZdX) (f2 Am (f2 Am (f2 Am (Ad 1) (f2 Bq (Ad 3) Zh)) (Ip Zh)) Zh) (C0 Af)) (gN 4)) (Bb (Ek (Bp ZdL) (Ka (Ht "list" C9 (Ad 1) (Ac (El Af) Af))) Cf) (Ka (Ht "list" C9 (f2 Am (Ad 1) (Ad 3)) (Ac (C0 (Ac (Ad 2) (Ac (f2 Jq (Ad 4) (C0 (Ac ZcP Af))) Af))) Af))))))
noncomputable def My:FS:=(Bb (Ba (El Af) (gN 1)) (Bb (Jo (Bj (Ly Bk (Ad 0))) (gN 2) Dt) (Bx (Ad 1))))
noncomputable def Ic:FN:=fnU 5 1 My
noncomputable def Mj:FE:=ZcN
noncomputable def Mt:FT:=(Bp (f2 (Yd false) ZcN (Ad 1)))
noncomputable def Jz:FS:=(Bb (Ba (Ay 1 Ic Zl) (gN 1)) (Bb (Ek (Ph (Js (Ad 1))) (Bx (C0 Af)) Cf) (Bb (Ba (f2 Am (f2 Am (f2 Am (Ad 1) (Ip Zh)) (Ip Zh)) Zh) (gN 2)) (Bx (Au semTuple (Ac (Bo [ψ,ξ 2] (Bj (Ad 0)) (gN 0) (ξ Mt) Mj) Af))))))
noncomputable def E6:FN:=fnU 3 1 Jz
noncomputable def K7:FE:=ZcV
noncomputable def Yo:FS:=(Bx (Au semSum (Ac (Bo [ψ,ξ 0] (Bj (Ad 1)) (gN 0) ψ K7) Af)))
noncomputable def Nw:FN:=fnU 2 2 Yo
noncomputable def Iy:FE:=(Ad 0)
noncomputable def Eh:FT:=(Js (Ay 2 Cm (Ac (Ad 2) (Ac (Ay 1 Bk ZR) Af))))
noncomputable def Mr:FS:=(Bb (Ba (Ay 1 Bk ZR) (gN 2)) (Bx (Bo [ψ,ψ,ξ 2] (De Zl) Zi (ξ Eh) Iy)))
noncomputable def Dv:FN:=fnU 3 2 Mr
noncomputable def C4:FE:=(Ay 2 Nw Zck)
noncomputable def C6:FT:=(Js (Au Rh ZA))
noncomputable def E4:FS:=(Bb (Ka (Ht "list" C9 (Ad 3) (Ac (Au semSum ZA) Af))) (Ba (Bo [ψ,ξ 2] (Bj (Ad 1)) (gN 0) ψ C4) (gN 2)))
noncomputable def C5:FE:=(Ay 2 Dv Zck)
noncomputable def Ja:FS:=(Bb (Ba (Bo [ψ,ξ 0] (Bj (Ad 0)) (gN 0) ψ C5) (gN 1)) (Bb (Ba (f2 Df (El (Ac Zh Af)) (Au Bg Zl)) (gN 2)) (Bb (Ba (El Af) (gN 3)) (Bb (Ib C6 E4 100000) (Bx (Au semTuple ZaH))))))
noncomputable def Dg:FN:=fnU 4 1 Ja
noncomputable def B3:FE:=(C0 (Ac (Ip ZcN) (Ac Zb6 Af)))
noncomputable def Jh:FS:=(Bx (N9 [ψ] B3 (Ad 0)))
noncomputable def C8:FN:=fnU 1 1 Jh
noncomputable def A7:FE:=(Ay 1 Bk (Ac ZcV Af))
noncomputable def Ep:FS:=(Bx (K6 [ψ,ξ 0] A7 (Ac (Au Bg Zl) Af)))
noncomputable def Bt:FN:=fnU 1 1 Ep
noncomputable def Gk:FE:=(Xg (Ad 1) (Ad 0))
noncomputable def Dk:FS:=(Bb (Ba (Bo [ψ,ξ 2] (Bj (Ay 2 Dv (Ac (Ad 0) (Ac Zbn Af)))) (gN 0) ψ Gk) (gN 4)) (Bb (Ba (Ay 1 C8 (Ac (f2 Be (El (Ac (C0 Zcz) Af)) (Ad 4)) Af)) (gN 5)) (Yt (Ad 2) (Ad 3) (C0 (Ac (f2 Be (Xg (Ad 1) (f2 Am Zbn Zn)) (f2 Am (Ad 5) Zn)) (Ac (f2 Be (C0 ZaH) (f2 Am (Ad 5) Zh)) Af))))))
noncomputable def Jg:FS:=(Bb (Ba W5 (gN 2)) (Bb (Jo (Bj (Ay 1 Bt Zl)) (gN 3) Dk) (Bx (V5 (Ad 2)))))
noncomputable def Ef:FN:=fnU 6 2 Jg
noncomputable def Gp:FE:=(f2 Am ZcV Zn)
noncomputable def Ih:FS:=(Bb (Ek (Ph (Js (Ad 0))) (Bx (C0 Zcz)) Cf) (Bb (Ba (Ay 1 C8 (Ac (Ay 2 Ef Zcj) Af)) (gN 2)) (Bx (C0 (Ac ZcP (Ac (Au semTuple (Ac (Bo [ψ,ξ 0] (Bj (f2 Am (Ad 2) Zh)) (gN 0) ψ Gp) Af)) Af))))))
noncomputable def Eg:FN:=fnU 3 2 Ih
noncomputable def E5:FS:=(Yt (Ad 1) ZcP Zh)
noncomputable def Iu:FS:=(Bb (Ek (Ph (Js (Ad 0))) (Bx (C0 (Ac Zn (Ac Zh (Ac (C0 Af) Af))))) Cf) (Bb (Ba W5 (gN 1)) (Bb (Jo (Bj (Ad 0)) (gN 2) E5) (Bb (Ba (Ay 2 Eg Zcj) (gN 3)) (Bx (C0 (Ac (f2 Am (Ad 3) Zn) (Ac (f2 Am (Ay 1 Dg Zl) (Ip Zh)) (Ac (f2 Am (Ad 3) Zh) Af)))))))))
noncomputable def Bm:FN:=fnU 4 1 Iu
noncomputable def Ez:FS:=(Bb (Ba (Au Bg Zl) (gN 1)) (Bb (Ba (Ay 1 Eb (Ac (Au semTuple (Ac (Au D8 Zl) Af)) Af)) (gN 2)) (Bb (Ba (Ay 1 Eb (Ac (Au semTuple Zd1) Af)) (gN 3)) (Bb (Ek (fOr (Bp (f2 Fw (f2 Am (Ay 1 Bm ZA) Zn) (Ad 1))) (Bp (f2 Fw (Au Bg (Ac (Ay 1 E6 ZaH) Af)) (Ad 1)))) (Bx Zag) Cf) (Bx (Acx (f2 Eu (Au Bg (Ac (Ay 1 E6 ZA) Af)) ZaG) (f2 Eu (f2 Am (Ay 1 Bm ZaH) Zn) ZaG)))))))
noncomputable def E3:FN:=fnU 4 1 Ez
noncomputable def Q3:FS:=(Bb (Ba (Ay 2 Qx (Ac (Ad 1) (Ac (f2 Am (El (Ac (fC (.int 60)) (Ac (fC (.int 30)) (Ac (fC (.int 9)) (Ac (fC (.int 5)) Af))))) (Ad 2)) Af))) (gN 3)) (Ek (fOr (Ph (Js (Ay 1 Pa ZaH))) (Ph (Js (Ay 1 E3 ZaH)))) (Bx Zag) Cf))
noncomputable def Ag0:FS:=(Bb (Ba (Ay 1 Km Zl) (gN 1)) (Bb (Jo (Jd (Ac (fC (.int 4)) Af)) (gN 2) Q3) (Bx (fC (.bl true)))))
noncomputable def Yv:FN:=fnU 4 1 Ag0
variable {δ:UE}{L L':UH}
theorem Al{f g:FS}{δ':UE}(h:f δ L=ξ (.nx δ',L')):Bb f g δ L=g δ' L':=by rw[fSeq_eq,h];rfl
variable {n:Nat}{l:List U}
theorem G7(u:U)(h:L[n]? = ξ (.lst l))(hl:l.length < 16777216):C9 (.ref n) [u] L=ξ (.non,L.set n (.lst (l++[u]))):=by
 show (Gq L n).bind _=_;rw[Dh h];simp only[aA];rw[if_pos (decide_eq_true (by unfold sizeLine;omega))]
theorem Hx(h:L[n]? = ξ (.lst l)):tyU "list" (.ref n) L=true:=by simp[tyU,h]
theorem Au1{i:Int}(h0:0<=i)(h1:i < n):seqIndex? i n=ξ i.toNat:=by
 unfold seqIndex?;show (if (decide (0<=if i < 0 then i+(n:Int) else i)&&decide ((if i < 0 then i+(n:Int) else i) < n))=true then ξ (if i < 0 then i+(n:Int) else i).toNat else ψ)=_;rw[if_neg (Int.not_lt.mpr h0),decide_eq_true h0,decide_eq_true h1];rfl
theorem Ag8{i:Int}(h:L[n]? = ξ (.lst l))(h0:0<=i)(h1:i < l.length)(hs:l.length < 1000000):Nn (.ref n) [.int i] L=ξ (l[i.toNat]'(by omega),L.set n (.lst (l.eraseIdx i.toNat))):=by
 have hk:seqIndex? i l.length=ξ i.toNat:=Au1 h0 h1;have hg:l[i.toNat]? = ξ (l[i.toNat]'(by omega)):=aE Ze;simp only[Nn,Dh h,aA,hk,hg,aF];rw[if_pos ⟨Ze,Ze⟩]
theorem Hz(h:L[n]? = ξ (.lst l)):Bg [.ref n] L=ξ (.int l.length,L):=by simp[Bg,lenU,Aj h]
theorem Mn{β γ:Type}(f:β->γ)(l:List β)(i:Nat):(l.map f).eraseIdx i=(l.eraseIdx i).map f:=by
 rw[lH,lH,cP,sA,xA]
theorem Nk{β:Type}:∀ (l:List β) (i:Nat) (h:i < l.length),(l[i]'h::l.eraseIdx i).Perm l
 | a::l,0,_=>by simp
 | a::l,i+1,h=>by
  have ih:=Nk l i (by simpa using h);simp only[qJ,pI];exact (List.Perm.swap _ _ _).trans (ih.cons a)
variable {d:Nat}{B:Int}
theorem Aed{β:Type}(rep:β->U){l:List β}(D:Deck L d B)(hB:B<=10000000000000000)(hd:d < n)(h:L[n]? = ξ (.lst (l.map rep)))(hl:0 < l.length)(hs:l.length < 1000)(x0:Option U) :
  ∃ (r:β) (L':UH) (l':List β),(Ht "list" Nn (Ad 1) (Ac (Ay 2 A9 (Ac (Ad 2) (Ac (Au Bg ZR) Af))) Af)) [x0,ξ (.ref n),ξ (.ref d)] L=ξ (rep r,L')/\Deck L' d (B+1)/\L'[n]? = ξ (.lst (l'.map rep))/\l'.length+1=l.length/\r∈l/\(∀ y∈l',y∈l)/\(∀ L0,Ex d L0 L->L0.length<=n->Ex d L0 L')/\(r::l').Perm l:=by
 obtain ⟨i,L1,e1,i0,i1,D1,x1⟩:=Fz (many:=((l.map rep).length:Nat)) D Ze (by simp;omega) (by simp;omega);have h':L1[n]? = ξ (.lst (l.map rep)):=x1.get h Ze;have hi:i < l.length:=by simpa using i1
 have hp:=Ag8 h' i0 i1 (by simp;omega);refine ⟨l[i.toNat]'(by omega),L1.set n (.lst ((l.map rep).eraseIdx i.toNat)),l.eraseIdx i.toNat,?_,D1.set hd _,?_,?_,cW _,fun y hy=>List.mem_of_mem_eraseIdx hy,fun L0 x0 hn=>(x0.trans x1).set hn _,Nk l i.toNat Ze⟩
 ·have ty:=Hx h;have e1':=e1;simp only[aN] at e1';simp[ty,Hz h,e1',hp]
 ·rw[bI (by have:=(aI.mp h').1;exact this)];rw[Mn]
 ·rw[List.length_eraseIdx,if_pos Ze];omega
def Gw(L L':UH):Prop:=∃ x,L'=L++x
theorem Gw.refl(L:UH):Gw L L:=⟨[],Za⟩
variable {L1 M:UH}
theorem Gw.trans(a:Gw L L1)(b:Gw L1 M):Gw L M:=by obtain ⟨x,rfl⟩:=a;obtain ⟨y,rfl⟩:=b;exact ⟨x++y,Za⟩
theorem Gw.new(L x:UH):Gw L (L++x):=⟨x,rfl⟩
theorem Gw.set(h:Gw L L')(hn:L.length<=n)(o:HU):Gw L (L'.set n o):=by
 obtain ⟨x,rfl⟩:=h;exact ⟨x.set (n - L.length) o,by rw[List.set_append_right _ _ hn]⟩
theorem Gw.le(h:Gw L L'):L.length<=L'.length:=by obtain ⟨x,rfl⟩:=h;simp
theorem Gw.get(h:Gw L L'){o:HU}(e:L[n]? = ξ o):L'[n]? = ξ o:=by
 obtain ⟨x,rfl⟩:=h;rw[bC (aI.mp e).1];exact e
variable {us:List U}
theorem Gw.seq(h:Gw L L')(e:Ap L n=ξ us):Ap L' n=ξ us:=by
 obtain ⟨x,rfl⟩:=h;exact Cd e
theorem Gw.deck(h:Gw L L')(D:Deck L d B):Deck L' d B:=by obtain ⟨x,rfl⟩:=h;exact D.new x
theorem Gw.ex(h:Gw L L')(d:Nat):Ex d L L':=by obtain ⟨x,rfl⟩:=h;exact Ex.new d L x
noncomputable def gtv(row:List Int)(i:Nat):Nat:=((row.take i).filter fun o=>decide (row.getD i 0 < o)).length
def Di(row:List Int):List Int:=(bB row.length).map fun i=>((gtv row i:Nat):Int)
theorem toI_ints(l:List Int):mapO toI Zbc=ξ l:=by
 induction l with
 | nil=>rfl
 | cons a r ih=>simp only[aS,mapO,toI,ih,aA,aF]
theorem W0(l:List Int)(L:UH):semSum [.tup Zbc] L=ξ (.int l.sum,L):=by
 simp only[semSum,toI_ints,aF]
variable {row:List Int}{k:Nat}
theorem Aij(h:k < row.length):row.take (k+1)=row.take k++[row.getD k 0]:=by
 rw[iR,aE h];simp[aC,h]
theorem Wj(xs:List Int):Pl 6 (.tup ZbP):=by
 rw[Se];intro u hu;obtain ⟨a,_,rfl⟩:=cJ.mp hu;exact Pl.int _ _
theorem Al0(xs ys:List Int)(h:xs=ys)(L:UH):Eu (.tup ZbP) (.tup (ys.map U.int)) L=ξ (.bl true,L):=by
 rw[h,Agu L (Wj ys) (Wj ys),Aie (Wj ys)]
theorem Ql(xs:List Int)(v:Int)(L:UH)(hl:xs.length < 1000000):∃ L',Fj [.tup ZbP,.int v] L=ξ (.int ((xs.filter fun o=>decide (v < o)).length:Nat),L')/\Gw L L':=by
 obtain ⟨x,e⟩:=Br (ix:=[ψ,ξ 1]) (fi:=Bj (Ad 0)) (it:=.seq ZbP) (g:=gN 0) (tt:=ξ Fu) (fe:=Fq) (δ:=[ξ (.tup ZbP),ξ (.int v)]) (L:=L) (L0:=L)
  xs U.int (fun o=>decide (v < o)) U.int (fun δ=>∃ a,δ = [a,ξ (.int v)]) (by simp[Il]) (by simp[IU.size]) Ze ⟨ψ,rfl⟩
  ZbQ
  (fun a δ x _ zz=>by
   obtain ⟨y,hδ⟩:=zz;subst hδ;refine ⟨_,rfl,⟨_,rfl⟩,[],?_,fun _=>⟨[],?_⟩⟩
   ·simp[E9,Fu]
   ·simp[Fq])
 have q1:(L++x++[HU.lst Zax])[(L++x).length]? = ξ (.lst Zax):=Za
 have hlen:=Hz q1;rw[aN] at hlen;refine ⟨L++x++[HU.lst Zax],?_,⟨x++[HU.lst Zax],by rw[bM]⟩⟩;unfold Fj fnU Lp;simp only[aO,aX,if_true,aS,bP,dC,dA,bO,fRet_eq,fCall_eq,fCons_eq,fNil_eq,aF,aA,e,hlen]
theorem Ma(row:List Int):Gm Zx=(bB row.length).map fun (i:Nat)=>U.tup [.int (i:Int),.int Z9]:=by
 apply kX;intro i;unfold Gm;rw[mD,bA,bA];by_cases h:i < row.length
 ·rw[dR h,aE h];simp[aC,h]
 ·rw[cH Ze,cH (by simpa using h)];rfl
theorem Al3(row:List Int)(i:Nat)(h:i < row.length)(L:UH):semSl (.tup Zx) ψ (ξ (i:Int)) L=ξ (.tup ((row.take i).map U.int),L):=by
 have hs:T4 Zx ψ (ξ (i:Int))=(row.take i).map U.int:=by
  unfold T4;rw[HT.Xq,HT.Qs,kZ,qG,aN,qM Ze,sA]
 unfold semSl;simp only;rw[if_neg (by
  rw[HT.Xq,HT.Qs,aN,qM Ze];omega),hs]
theorem Oj(row:List Int)(L:UH)(hl:row.length < 100000):∃ L',E8 [.tup Zx] L=ξ (.tup ZaJ,L')/\Gw L L':=by
 have hi:(De Zl) [ξ (.tup Zx)] L=ξ (.seq ((bB row.length).map fun (i:Nat)=>U.tup [.int (i:Int),.int Z9]),L):=by
  rw[<- Ma];rfl
 obtain ⟨x,e⟩:=Br (ix:=[ψ,ψ,ξ 0]) (fi:=De Zl) (it:=.seq ((bB row.length).map fun (i:Nat)=>U.tup [.int (i:Int),.int Z9])) (g:=Zi) (tt:=ψ) (fe:=Hh) (δ:=[ξ (.tup Zx)]) (L:=L) (L0:=L)
  (bB row.length) ZbH ZN (fun i=>.int ((gtv row i:Nat):Int)) (fun δ=>∃ a b,δ = [a,b,ξ (.tup Zx)]) hi (by simp[IU.size]) (by simp;omega) ⟨ψ,ψ,rfl⟩
  ZbQ
  (fun i δ x hi zz=>by
   obtain ⟨y,z,hδ⟩:=zz;subst hδ;have hin:=bE.mp hi;obtain ⟨L',e1,w,hw⟩:=Ql (row.take i) Z9 (L++x) (by rw[eQ];omega);refine ⟨[ξ Zah,ξ (.int Z9),ξ (.tup Zx)],rfl,⟨_,_,rfl⟩,[],by simp[E9],fun _=>⟨w,?_⟩⟩;have c1:(fSl semSl (Ad 2) Md (Gs (Ad 0))) [ξ Zah,ξ (.int Z9),ξ (.tup Zx)] (L++x)=ξ (.tup ((row.take i).map U.int),L++x):=by
    rw[fSl_eq];simp only[fVar_eq,fNoPart_eq,Yz,aV,aM,aY,aF,aA,Al3 row i hin]
   unfold Hh;simp only[bO];rw[fOwn_eq,fCons_eq,c1,aA,fCons_eq];simp only[fVar_eq,fNil_eq,aV,aM,aY,aF,aA,aO,aX,if_true,e1];rw[<- hw];rfl)
 have hf:gR ZN (bB row.length)=bB row.length:=cR.mpr Zj;have hc:(bB row.length).map (fun i=>U.int ((gtv row i:Nat):Int))=(Di row).map U.int:=by simp[Di]
 rw[hf,hc] at e;have q2:Ap (L++x++[HU.lst ZaJ]) (L++x).length=ξ ZaJ:=Aj Za;refine ⟨L++x++[HU.lst ZaJ],?_,⟨x++[HU.lst ZaJ],by rw[bM]⟩⟩;unfold E8 fnU Qb;simp only[aO,aX,if_true,aS,bP,dC,dA,bO];rw[fRet_eq,fCall_eq,fCons_eq,e];simp only[aA,fNil_eq,aF,semTuple,q2]
noncomputable def bad(cs:List Int)(k:Nat):Bool:=decide (cs.getD k 0 < 0) || decide ((k:Int) < cs.getD k 0)
noncomputable def rb(cs:List Int):Nat->List Int->List Int
 | 0,_=>[]
 | n+1,l=>rb cs n (l.eraseIdx Zas)++[l.getD Zas 0]
theorem Afr(cs:List Int):∀ n l,(rb cs n l).length=n
 | 0,_=>rfl
 | n+1,l=>by unfold rb;rw[bU,Afr cs n];rfl
theorem Vz(cs:List Int):∀ n (l:List Int),l.length=n->(rb cs n l).Perm l
 | 0,l,h=>by rw[gY.mp h];exact nQ _
 | n+1,l,h=>by
  unfold rb;have hi:n - (cs.getD n 0).toNat < l.length:=Ze
  have e:l.getD Zas 0=l[n - (cs.getD n 0).toNat]:=by rw[aC,aE hi];rfl
  rw[e];have ih:=Vz cs n (l.eraseIdx Zas) (by rw[jT hi];omega);exact (ih.append_right _).trans ((List.perm_append_singleton _ _).trans (Nk l _ hi))
theorem Va:∀ (l:List Int) (i:Nat) (h:i < l.length),l.Pairwise (· < ·)->((l.eraseIdx i).filter fun o=>decide (l[i] < o)).length=l.length - 1 - i
 | [],i,h,_=>by simp at h
 | x::t,0,h,hp=>by
  have h1:=(dY.mp hp).1;rw[List.eraseIdx_cons_zero,List.getElem_cons_zero,cR.mpr fun o ho=>by simpa using h1 o ho];simp
 | x::t,i+1,h,hp=>by
  have h1:=(dY.mp hp).1;have ht:i < t.length:=by simpa using h
  rw[pI,qJ,eI (by have:=h1 _ (cW ht);simp;omega),Va t i ht (dY.mp hp).2];simp;omega
theorem Wm(r:List Int)(v:Int):Di (r++[v])=Di r++[(((r.filter fun o=>decide (v < o)).length:Nat):Int)]:=by
 unfold Di;rw[bU,fJ,kG,cP,List.map_singleton]
 congr 1
 ·refine cM fun i hi=>?_
  have hi':i < r.length:=bE.mp hi;unfold gtv;rw[List.take_append_of_le_length Ze,aC,aC,bC hi']
 ·unfold gtv;rw[List.take_left' rfl];simp
theorem Agg(cs:List Int):∀ n (l:List Int),l.length=n->n<=cs.length->l.Pairwise (· < ·)->(∀ i,i < n->bad cs i=false)->Di (rb cs n l)=cs.take n
 | 0,l,_,_,_,_=>rfl
 | n+1,l,h,hc,hp,hb=>by
  unfold rb;have hbn:=hb n Ze;unfold bad at hbn;simp only[rL,decide_eq_false_iff_not] at hbn;have hi:n - (cs.getD n 0).toNat < l.length:=Ze
  have e:l.getD Zas 0=l[n - (cs.getD n 0).toNat]:=by rw[aC,aE hi];rfl
  have le:(l.eraseIdx Zas).length=n:=by rw[jT hi];omega
  rw[Wm,Agg cs n _ le Ze (hp.sublist (List.eraseIdx_sublist _ _)) fun i hi=>hb i Ze];have pf:=((Vz cs n _ le).filter fun o=>decide (l.getD Zas 0 < o)).length_eq;rw[pf,e,Va l _ hi hp,Aij (by omega:n < cs.length)]
  congr 2
  omega
noncomputable def Adg(cs:List Int):Prop:=∀ i,i < cs.length->bad cs i=false
variable {i:Nat}{fe:FE}{v:U}
theorem F7(e:fe δ L=ξ (v,L')):(Ba fe (gN i)) δ L=ξ (.nx (δ.set i (ξ v)),L'):=by
 rw[fAsg_eq,e];simp only[aA,gN_eq,aF]
variable {f:FN}{u:U}
theorem Fb(h:Ad i δ L=ξ (u,L))(e:f [u] L=ξ (v,L')):(Ay 1 f (Ac (Ad i) Af)) δ L=ξ (v,L'):=by
 rw[fOwn_eq,fCons_eq,h];simp only[aA,fNil_eq,aF,aO,aX,if_true,e]
theorem Ab5(h:fe δ L=ξ (u,L1))(e:f [u] L1=ξ (v,L')):(Ay 1 f (Ac fe Af)) δ L=ξ (v,L'):=by
 rw[fOwn_eq,fCons_eq,h];simp only[aA,fNil_eq,aF,aO,aX,if_true,e]
theorem fn1{b:FS}(h:b (ξ u::bL n ψ) L=ξ (.rt v,L')):fnU (n+1) 1 b [u] L=ξ (v,L'):=by
 unfold fnU;simp only[aO,aX,if_true,aS,bP,cS,cZ,kL,h];rfl
theorem Tt(e:fe δ L=ξ (v,L')):Bx fe δ L=ξ (.rt v,L'):=by
 rw[fRet_eq,e];rfl
theorem Mw{c:FT}{f:FS}(h:c δ L=ξ (false,L')):Ek c f Cf δ L=ξ (.nx δ,L'):=by
 rw[Dz,h];rfl
theorem Hv(l:List Int):∀ u∈l.map U.int,Pl 6 u:=fun u hu=>by
 obtain ⟨a,_,rfl⟩:=cJ.mp hu;exact Pl.int _ _
theorem Aen(l:List Int):Aht Zbc Zbc=true:=(Agw (Hv l) (Hv l)).mpr rfl
variable {fa fb:FE}
theorem Anq{w:U}{L2:UH}(h:fa δ L=ξ (u,L1))(h2:fb δ L1=ξ (w,L2))(e:f [u,w] L2=ξ (v,L')):(Ay 2 f ZdC) δ L=ξ (v,L'):=by
 rw[fOwn_eq,fCons_eq,h,aA,fCons_eq,h2];simp only[aA,fNil_eq,aF,aO,aX,if_true,e]
theorem Apu{X:Nat}{l:List Int}(h:L[X]? = ξ (.lst Zbc))(hi:i < l.length):Am (.ref X) Zah L=ξ (.int (l.getD i 0),L):=by
 rw[semIx_ref,Aj h,aA,Kv Ze (by simp;omega),bA,cK,aE hi];simp[aC,hi]
noncomputable abbrev Mu(cs:List Int):List U:=(bB cs.length).map fun (i:Nat)=>U.tup [.int (i:Int),.int (cs.getD i 0)]
theorem Yg{cs:List Int}(h:k < cs.length):(Mu cs)[k]? = ξ (.tup [.int (k:Int),.int (cs.getD k 0)]):=by
 unfold Mu;rw[bA,dR h];rfl
theorem need_tst(t:U)(k c:Int)(L:UH):(fOr (Bp (f2 P8 (Ad 2) Zn)) (Bp (f2 Dq (Ad 2) (Ad 1)))) ZbF L=ξ (decide (c < 0) || decide (k < c),L):=by
 by_cases c1:c < 0
 ·simp[c1]
 ·by_cases c2:k < c <;> simp[c1,c2]
theorem Ahn(t:U)(y1 y2:Option U)(k c:Int)(L:UH):(MR.gTup 2 ZaF) (.tup [.int k,.int c]) [ξ t,y1,y2] L=ξ (ZbF,L):=rfl
theorem Adl{t:U}{k c:Int}(h:(decide (c < 0) || decide (k < c))=false):Dr [ξ t,ξ (.int k),ξ (.int c)] L=ξ (.nx [ξ t,ξ (.int k),ξ (.int c)],L):=by
 unfold Dr;rw[Dz,need_tst,h];rfl
theorem Aim{g:FA}{i j:Int}(hg:g δ L=ξ ([.int i,.int j],L'))(h0:0<=i)(h1:i < 1000000)(h2:0<=j)(h3:j < 1000000):Pe g δ L=ξ (.ref L'.length,L'++[.lst Zdb]):=by
 unfold Pe;rw[hg];simp only[aA];rw[if_pos ⟨Ze,Ze,Ze,Ze,Ze⟩]
theorem Ae1{g:FA}(hg:g δ L=ξ ([.int 1,.int ((n:Int)+1)],L'))(h:n<=1000):Pe g δ L=ξ (.ref L'.length,L'++[.lst (Bh 1 n)]):=by
 have:=Aim hg Ze Ze Ze Ze;rw[this,Int.add_sub_cancel,cK]
theorem Akh(h:k < row.length)(L:UH):Am (.tup Zx) ZY L=ξ (.int (row.getD k 0),L):=by
 rw[Pc,Kv Ze (by simp;omega),bA,cK,aE h];simp[aC,h]
theorem Aly(row:List Int)(L:UH):Bg [.tup Zx] L=ξ (.int row.length,L):=by simp[Bg,lenU]
noncomputable abbrev Hf(n:Nat):List Int:=(bB n).map fun (i:Nat)=>(1:Int)+(i:Int)
theorem Acp(n:Nat):(Hf n).Pairwise (· < ·):=by
 rw[eW];exact qK.imp fun h=>by omega
theorem Xv(n:Nat):Bh 1 n=(Hf n).map U.int:=by unfold Bh Hf;rw[bW];rfl
theorem Ahm{h:Int}(hk:k < n):(Hy h n)[k]? = ξ (.int (h - (k:Int))):=by
 unfold Hy;rw[bA,dR hk];rfl
noncomputable def SqV(L:UH)(u:U)(cs:List Int):Prop:=u = .tup (cs.map U.int)\/∃ n,u = .ref n/\L[n]? = ξ (.lst (cs.map U.int))
theorem SqV.mono{cs:List Int}(h:SqV L u cs)(g:Gw L L'):SqV L' u cs:=by
 rcases h with h | ⟨n,h1,h2⟩
 ·exact .inl h
 ·exact .inr ⟨n,h1,g.get h2⟩
theorem SqV.len{cs:List Int}(h:SqV L u cs):Bg [u] L=ξ (.int (cs.length:Int),L):=by
 rcases h with rfl | ⟨n,rfl,h2⟩
 ·exact Aly cs L
 ·have:=Hz h2;rwa [aN] at this
theorem SqV.ix{cs:List Int}(h:SqV L u cs)(hk:k < cs.length):Am u ZY L=ξ (.int (cs.getD k 0),L):=by
 rcases h with rfl | ⟨n,rfl,h2⟩
 ·exact Akh hk L
 ·exact Apu h2 hk
theorem SqV.need{cs:List Int}(h:SqV L u cs)(hg:Adg cs):Eo [u] L=ξ (.non,L):=by
 obtain ⟨it,hi,hat,hsz⟩:∃ it,(De Zl) [ξ u,ψ,ψ] L=ξ (it,L)/\(∀ k,it.at k L=ξ (Mu cs)[k]?)/\it.size L=(Mu cs).length:=by
  rcases h with rfl | ⟨n,rfl,h2⟩
  ·refine ⟨.seq (Mu cs),?_,fun k=>rfl,rfl⟩;unfold De;simp only[fCons_eq,fNil_eq,fVar_eq,aM,aY,aF,aA,Ma]
  ·have q:=Aj h2;refine ⟨.enm n,?_,fun k=>?_,?_⟩
   ·unfold De;simp only[fCons_eq,fNil_eq,fVar_eq,aM,aY,aF,aA,q]
   ·unfold IU.at;simp only[q,aF];by_cases hk:k < cs.length
    ·rw[Yg hk,bA,aE hk];simp[aC,hk]
    ·rw[cH (by simp;omega),cH (by unfold Mu;simp;omega)];rfl
   ·unfold IU.size;simp[q,Mu]
 obtain ⟨δ',L',e,y1,y2,hδ,hL⟩:=Oi (it:=it) (us:=Mu cs) (body:=Dr) (g:=(MR.gTup 2 ZaF))
  (fun _ δ' L'=>∃ y1 y2,δ'=[ξ u,y1,y2]/\L'=L) (fun k δ M _ hP=>by obtain ⟨_,_,_,rfl⟩:=hP;exact hat k)
  (fun k v δ M hu hP=>by
   obtain ⟨y1,y2,hδ,hM⟩:=hP;subst hδ hM;have hk:k < cs.length:=by have:=(aI.mp hu).1;unfold Mu at this;simpa using this
   rw[Yg hk] at hu;cases hu;exact ⟨_,_,Ahn _ _ _ _ _ _,_,_,.inl (Adl (hg k hk)),_,_,rfl,rfl⟩) ((Mu cs).length+1) 0 [ξ u,ψ,ψ] L Ze Ze ⟨ψ,ψ,rfl,rfl⟩
 have ef:(Jo (De Zl) (MR.gTup 2 ZaF) Dr) [ξ u,ψ,ψ] L=ξ (.nx δ',L'):=by
  rw[V4,hi,aA,hsz];exact e
 unfold Eo fnU Mi;simp only[aO,aX,if_true,aS,bP,bL,cS,cZ];subst hL;rw[ef];rfl
theorem Afe{cs:List Int}(hS:SqV L u cs)(hl:cs.length<=1000)(hb:Adg cs):∃ L',K3 [u] L=ξ (.tup ((rb cs cs.length (Hf cs.length)).map U.int),L')/\Gw L L':=by
 have hgd:=hb;unfold Adg at hb;generalize hn:cs.length=n at hl hb ⊢;have sm0:small ([]:List U).length=true:=small_of (by show 0<=16777216;decide);have hlen:∀ M:UH,Gw L M->Bg [u] M=ξ (.int (n:Int),M):=fun M g=>by rw[(hS.mono g).len,hn]
 have hl0:=hlen L (Gw.refl L);have hl2:=hlen (L++[.lst ZaI]++[.lst []]) ⟨[.lst ZaI,.lst []],Za⟩;have s0:(Ka (Ay 1 Eo Zl)) [ξ u,ψ,ψ,ψ] L=ξ (.nx [ξ u,ψ,ψ,ψ],L):=by
  have:=hS.need hgd;simp only[Hc,fOwn_eq,fCons_eq,fNil_eq,fVar_eq,aM,aY,aF,aA,aO,aX,if_true,this]
 have s1:(Ba (Pe (Ac Zh Zc3)) (gN 1)) [ξ u,ψ,ψ,ψ] L=ξ (.nx [ξ u,ξ Zt,ψ,ψ],L++[.lst ZaI]):=by
  have c1:(Ac Zh Zc3) [ξ u,ψ,ψ,ψ] L=ξ ([.int 1,.int ((n:Int)+1)],L):=by
   simp only[fCons_eq,fNil_eq,fC_eq,f2_eq,fCall_eq,fVar_eq,aM,aY,aF,aA,hl0,semAdd_int]
  rw[fAsg_eq,Ae1 c1 Ze,Xv];rfl
 have s2:(Ba (El Af) (gN 2)) [ξ u,ξ Zt,ψ,ψ] (L++[.lst ZaI])=ξ (.nx [ξ u,ξ Zt,ξ ZbI,ψ],L++[.lst ZaI]++[.lst []]):=by
  have hl1:(L++[HU.lst ZaI]).length=L.length+1:=Za
  rw[fAsg_eq,fLst_eq,fNil_eq,aA,if_pos sm0,hl1];rfl
 have hi:Abl (Ac (f2 Bq (Au Bg Zl) Zh) (Ac (Ip Zh) (Ac (Ip Zh) Af))) [ξ u,ξ Zt,ξ ZbI,ψ] (L++[.lst ZaI]++[.lst []])=ξ (.seq (Hy ((n:Int) - 1) n),L++[.lst ZaI]++[.lst []]):=by
  unfold Abl;simp only[fCons_eq,fNil_eq,f2_eq,fCall_eq,fVar_eq,fC_eq,V6,aV,aM,aY,aF,aA,hl2,semSub_int];rw[if_pos ⟨trivial,Ze,Ze,Ze,Ze⟩];have:((n:Int) - 1 - -1).toNat=n:=Ze
  rw[this]
 obtain ⟨δ',L',e,P⟩:=Qq (us:=Hy ((n:Int) - 1) n) (body:=M7) (g:=gN 3)
  (fun k δ' L'=>∃ (y3:Option U) (l B:List Int),δ'=[ξ u,ξ Zt,ξ ZbI,y3]/\L'[L.length]? = ξ (.lst Zbc)/\L'[L.length+1]? = ξ (.lst (B.map U.int))/\l.length=n - k/\B.length=k/\rb cs (n - k) l++B.reverse=rb cs n (Hf n)/\Gw L L')
  hi ⟨ψ,Hf n,[],rfl,Za,Za,Za,rfl,Za,⟨[.lst ZaI,.lst []],Za⟩⟩
  (fun k v δ M hu hP=>by
   obtain ⟨y3,l,B,hδ,h1,h2,h3,h4,h5,gM⟩:=hP;subst hδ;have hk:k < n:=by
    have:=(aI.mp hu).1;unfold Hy at this;simpa using this
   rw[Ahm hk] at hu;cases hu;obtain ⟨p,hp⟩:∃ p,n - k=p+1:=⟨n - k - 1,Ze⟩;have hpu:(n:Int) - 1 - (k:Int)=(p:Int):=Ze
   rw[hpu];have hbp:=hb p Ze;unfold bad at hbp;simp only[rL,decide_eq_false_iff_not] at hbp;have hix:=(hS.mono gM).ix (k:=p) Ze;have hidx:(p:Int) - cs.getD p 0=((p - (cs.getD p 0).toNat:Nat):Int):=Ze
   have pp:=Ag8 (i:=((p - (cs.getD p 0).toNat:Nat):Int)) h1 Ze (by rw[aN];omega) (by rw[aN];omega);have hlt:p - (cs.getD p 0).toNat < l.length:=Ze
   have hval:(l.map U.int)[((p - (cs.getD p 0).toNat:Nat):Int).toNat]'(by simp;omega) = .int (l.getD ZX 0):=by
    simp only[cK,tZ];rw[aC (l:=l),aE hlt];rfl
   rw[hval,cK,Mn] at pp;generalize hM1:M.set L.length (.lst ((l.eraseIdx ZX).map U.int))=M1 at pp;have k1:M1[L.length]? = ξ (.lst ((l.eraseIdx ZX).map U.int)):=by rw[<- hM1];exact bI (aI.mp h1).1
   have k2:M1[L.length+1]? = ξ (.lst (B.map U.int)):=by rw[<- hM1,bF Ze];exact h2
   have g1:Gw L M1:=by rw[<- hM1];exact gM.set (aP _) _
   have ap:=G7 (.int (l.getD ZX 0)) k2 (by rw[aN];omega);have hx:B.map U.int++[.int (l.getD ZX 0)]=(B++[l.getD ZX 0]).map U.int:=Za
   rw[hx] at ap;have ty1:=Hx h1;have ty2:=Hx h2;refine ⟨[ξ u,ξ Zt,ξ ZbI,ξ (.int (p:Int))],M,rfl,[ξ u,ξ Zt,ξ ZbI,ξ (.int (p:Int))],M1.set (L.length+1) (.lst ((B++[l.getD ZX 0]).map U.int)),.inl ?_,_,l.eraseIdx ZX,B++[l.getD ZX 0],rfl,?_,?_,?_,?_,?_,?_⟩
   ·unfold M7;simp only[Hc,fMeth_eq,fVar_eq,fCons_eq,fNil_eq,f2_eq,aV,aM,aY,aF,aA,ty1,ty2,if_true,hix,semSub_int,hidx,pp,ap]
   ·rw[bF Ze];exact k1
   ·exact bI (aI.mp k2).1
   ·rw[jT hlt];omega
   ·rw[bU,h4];rfl
   ·rw[<- h5,hp,show n - (k+1)=p by omega,List.reverse_append];show _=(rb cs p (l.eraseIdx ZX)++[l.getD ZX 0])++B.reverse;simp
   ·exact g1.set Ze _)
 obtain ⟨y3,l,B,hδ,h1,h2,h3,h4,h5,gM⟩:=P;have hnl:(Hy ((n:Int) - 1) n).length=n:=by unfold Hy;simp
 rw[hnl,dC] at h5;have h5':B.reverse=rb cs n (Hf n):=h5;rw[hδ] at e;have ht:(Ac5 ZA) [ξ u,ξ Zt,ξ ZbI,y3] L'=ξ (.tup ((rb cs n (Hf n)).map U.int),L'):=by
  unfold Ac5;simp only[fCons_eq,fNil_eq,fVar_eq,aV,aM,aY,aF,aA,Aj h2,<- h5',lR]
 refine ⟨L',?_,gM⟩;unfold K3 fnU Xf;simp only[aO,aX,if_true,aS,bP,bL,cS,cZ];rw[Al s0,Al s1,Al s2,Al e,fRet_eq,ht];rfl
theorem cntv_len(row:List Int):(Di row).length=row.length:=by simp[Di]
abbrev T6(row:List Int):Int:=(Di row).sum
noncomputable abbrev gr(l:List Int)(v:Int):Nat:=(l.filter fun o=>decide (v < o)).length
theorem sumc_snoc(r:List Int)(v:Int):T6 (r++[v])=T6 r+(gr r v:Int):=by
 unfold T6;rw[Wm,qS];simp
theorem Aql(v:Int):∀ r:List Int,v∉r->gr r v+(r.filter fun o=>decide (o < v)).length=r.length
 | [],_=>rfl
 | x::t,h=>by
  have h1:v≠x:=fun e=>h (by rw[e];exact aQ)
  have ih:=Aql v t fun q=>h (aK _ q)
  unfold gr at *;by_cases c:v < x
  ·have c2:¬ x < v:=Ze
   simp[c,c2];omega
  ·have c2:x < v:=Ze
   simp[c,c2];omega
theorem Akq(hn:row.Nodup):(Fv row).Pairwise (· < ·):=by
 have h1:=Yu row;have h2:(Fv row).Nodup:=(Jr row).nodup_iff.mpr hn;exact (h1.and h2).imp fun h=>by omega
theorem Vm(row:List Int):Adg (Di row):=by
 intro i hi;rw[cntv_len] at hi;have:(Di row).getD i 0=((gtv row i:Nat):Int):=by
  unfold Di;rw[aC,bA,dR hi];rfl
 have hle:gtv row i<=i:=by
  unfold gtv;exact eC (lK _ _) (by rw[eQ];omega)
 unfold bad;rw[this];simp;omega
theorem Ahg(row:List Int):Di (rb (Di row) row.length ZcE)=Di row:=by
 have:=Agg (Di row) row.length ZcE Za (by rw[cntv_len];exact aP _) (Acp _) (fun i hi=>Vm row i (by rw[cntv_len];exact hi));rw[this,<- cntv_len row,pJ]
theorem K4(row:List Int)(L:UH)(hl:row.length < 100000):∃ L',F1 [.tup Zx] L=ξ (.int (Di row).sum,L')/\Gw L L':=by
 obtain ⟨L',e,g⟩:=Oj row L hl;refine ⟨L',?_,g⟩;unfold F1 fnU Sy;simp only[aO,aX,if_true,aS,bP,dC,dA,bO,fRet_eq,fCall_eq,fCons_eq,fNil_eq,fOwn_eq,fVar_eq,aM,aY,aF,aA,e,W0]
theorem neI{u:Int}{L2:UH}(h1:fa δ L=ξ (.int u,L1))(h2:fb δ L1=ξ (.int u,L2)):(Bp (f2 Fw fa fb)) δ L=ξ (false,L2):=by
 rw[fTest_eq,f2_eq,h1,aA,h2,aA,Afb];simp
theorem orF{a b:FT}{L2:UH}(h1:a δ L=ξ (false,L1))(h2:b δ L1=ξ (false,L2)):fOr a b δ L=ξ (false,L2):=by
 rw[Apt,h1,aA];exact h2
theorem Aky{m A:Int}(h0:0<=m)(h1:m<=1000)(h:2 * (A+B)=m * (m - 1))(ha:∀ M,fa δ M=ξ (.int m,M)):(f2 Fy (f2 Df fa (f2 Bq fa Zh)) ZaK) δ L=ξ (.int (A+B),L):=by
 have mk:Hq m (m - 1)=true:=Ny Ze Ze;have e1:(f2 Df fa (f2 Bq fa Zh)) δ L=ξ (.int (m * (m - 1)),L):=by
  simp only[f2_eq,ha,fC_eq,aA,semSub_int,semMul_int,mk,if_true]
 have dk:Kl (m * (m - 1)) 2=true:=by
  unfold Kl;rfl
 rw[f2_eq,e1,aA,fC_eq,aA,semDiv_int,if_pos dk,<- h]
 congr 3
 omega
noncomputable def Aaa:FS:=(Ba (f2 Am (El (Ac (Ay 2 A9 (Ac (Ad 0) (Ac (f2 Be (Ad 1) Zh) Af))) (Ac (Ay 2 A9 (Ac (Ad 0) (Ac (fC (.int 7)) Af))) ZR))) (Ay 2 A9 (Ac (Ad 0) (Ac (fC (.int 3)) Af)))) (gN 2))
theorem Ad3{most:Nat}(D:Deck L d B)(hB:B<=1000000000)(hm:most<=200)(x2 x3 x4 x5 x6 x7 x8 x9:Option U) :
  ∃ (n:Nat) (L':UH),Aaa [ξ (.ref d),ξ (.int most),x2,x3,x4,x5,x6,x7,x8,x9] L=ξ (.nx [ξ (.ref d),ξ (.int most),ξ (.int n),x3,x4,x5,x6,x7,x8,x9],L')/\n<=200/\n<=max most 6/\Deck L' d (B+3)/\Ex d L L':=by
 obtain ⟨i1,L1,e1,a1,b1,D1,y1⟩:=Fz (many:=(most:Int)+1) D Ze Ze Ze;obtain ⟨i2,K2,e2,a2,b2,D2,y2⟩:=Fz (many:=7) D1 Ze Zb Zb;obtain ⟨i3,L3,e3,a3,b3,D3,y3⟩:=Fz (many:=3) (D2.new [HU.lst [.int i1,.int i2,.int most]]) Ze Zb Zb;have hdl:=D2.lt;have q5:Ap L3 K2.length=ξ [.int i1,.int i2,.int most]:=Aj (y3.get (i:=K2.length) Za Ze);have hp:∃ n:Nat,L2.atI [U.int i1,.int i2,.int most] i3=ξ (.int n)/\n<=200/\n<=max most 6:=by
  have:i3=0\/i3=1\/i3=2:=Ze
  rcases this with rfl | rfl | rfl
  ·refine ⟨i1.toNat,?_,Ze,Ze⟩;rw[rR Ze];rfl
  ·refine ⟨i2.toNat,?_,Ze,Ze⟩;rw[rR Ze];rfl
  ·exact ⟨most,rfl,hm,Ze⟩
 obtain ⟨n,hp,hn,hn6⟩:=hp;refine ⟨n,L3,?_,hn,hn6,D3.mono Ze,((y1.trans y2).trans ZdO).trans y3⟩;simp[Aaa,e1,e2,small_of,e3,q5,hp]
noncomputable def Y8:FS:=(Ba (f2 Am (El ZP) (Ad 4)) (gN 5))
theorem Afc{L:UH}{n:Nat}{step:Int}(hn:n<=200)(h0:0<=step)(h1:step < 4)(x0 x1 x3 x5 x6 x7 x8 x9:Option U) :
  ∃ (w:Int) (y:UH),Y8 [x0,x1,ξ (.int n),x3,ξ (.int step),x5,x6,x7,x8,x9] L=ξ (.nx [x0,x1,ξ (.int n),x3,ξ (.int step),ξ (.int w),x6,x7,x8,x9],L++y)/\0 < w:=by
 obtain ⟨m,hm,m1,m2⟩:∃ m:Int,(∀ L,Tn [.int 1,.int n] L=ξ (.int m,L))/\1<=m/\m<=200:=by
  refine ⟨if (n:Int) > 1 then n else 1,fun _=>rfl,?_,?_⟩
  ·split <;> omega
  ·split <;> omega
 have hd:Kl 19999999998 m=true:=by unfold Kl;simp only[bZ,decide_eq_true_eq];omega
 have hq:0 < 19999999998 / m:=by
  have:=Int.le_ediv_of_mul_le (show 0 < m by omega) (show 1 * m<=19999999998 by omega);omega
 generalize hqq:(19999999998:Int) / m=q at hq;have hdv:∀ L,Fy (.int 19999999998) (.int m) L=ξ (.int q,L):=fun L=>by rw[semDiv_int,if_pos hd,hqq]
 have hp6:Tu 10 6=true:=rfl;have hl:(El ZP) [x0,x1,ξ (.int n),x3,ξ (.int step),x5,x6,x7,x8,x9] L=ξ (.ref L.length,L++[.lst [.int 1,.int 7,.int 1000000,.int q]]):=by
  simp[hp6,hm,hdv,small_of]
 have q5:Ap (L++[HU.lst [.int 1,.int 7,.int 1000000,.int q]]) L.length=ξ [.int 1,.int 7,.int 1000000,.int q]:=Aj Za;have hv:∃ w,L2.atI [U.int 1,.int 7,.int 1000000,.int q] step=ξ (.int w)/\0 < w:=by
  have:step=0\/step=1\/step=2\/step=3:=Ze
  rcases this with rfl | rfl | rfl | rfl
  ·exact ⟨_,rfl,Zb⟩
  ·exact ⟨_,rfl,Zb⟩
  ·exact ⟨_,rfl,Zb⟩
  ·exact ⟨q,rfl,hq⟩
 obtain ⟨w,hv,hw⟩:=hv;refine ⟨w,[.lst [.int 1,.int 7,.int 1000000,.int q]],?_,hw⟩;unfold Y8;rw[fAsg_eq,f2_eq,hl];simp only[aA,fVar_eq,aV,aM,aY,aF,semIx_ref,q5,hv,gN_eq,bR,bJ]
noncomputable def Agn:FS:=(Ba (f2 Am (El Zz) ZH) (gN 6))
theorem Aif{L:UH}{d n:Nat}{B:Int}(D:Deck L d B)(hB:B<=1000000000)(x1 x3 x4 x5 x6 x7 x8 x9:Option U) :
  ∃ (w:Int) (L':UH),Agn ZW L=ξ (.nx [ξ (.ref d),x1,ξ (.int n),x3,x4,x5,ξ (.int w),x7,x8,x9],L')/\Deck L' d (B+2)/\Ex d L L':=by
 obtain ⟨i1,L1,e1,a1,b1,D1,y1⟩:=Fz (many:=99) D Ze Zb Zb;generalize hu:(9999999999:Int) - 8 * (n:Int)=u;obtain ⟨i2,K2,e2,a2,b2,D2,y2⟩:=Fz (many:=4) (D1.new [HU.lst [.int 1,.int (0 - i1),.int Zdk,.int u]]) Ze Zb Zb;have hdl:=D1.lt;have q5:Ap K2 L1.length=ξ [.int 1,.int (0 - i1),.int Zdk,.int u]:=Aj (y2.get (i:=L1.length) Za Ze);have hl:(El Zz) ZW L=ξ (.ref L1.length,L1++[.lst [.int 1,.int (0 - i1),.int Zdk,.int u]]):=by
  have c1:(f2 Bq Zn (Ay 2 A9 (Ac (Ad 0) (Ac (fC (.int 99)) Af)))) ZW L=ξ (.int (0 - i1),L1):=by
   rw[f2_eq,fC_eq,aA];simp only[fOwn_eq,fCons_eq,fNil_eq,fVar_eq,fC_eq,aV,aM,aY,aF,aA,aO,aX,if_true,e1,semSub_int]
  have c2:(f2 Bq Zn (fC (.int 9999999999))) ZW L1=ξ (.int Zdk,L1):=rfl;have c3:(f2 Bq (fC (.int 9999999999)) (f2 Df (fC (.int 8)) (Ad 2))) ZW L1=ξ (.int u,L1):=by
   rw[<- hu];rfl
  have sm4:∀ x y z t:U,small [x,y,z,t].length=true:=fun _ _ _ _=>small_of (by show 4<=16777216;decide)
  rw[fLst_eq,fCons_eq,fC_eq,aA,fCons_eq,c1,aA,fCons_eq,c2,aA,fCons_eq,c3];simp only[aA,fNil_eq,aF];rw[if_pos (sm4 _ _ _ _)]
 have hv:∃ w,L2.atI [U.int 1,.int (0 - i1),.int Zdk,.int u] i2=ξ (.int w):=by
  have:i2=0\/i2=1\/i2=2\/i2=3:=Ze
  rcases this with rfl | rfl | rfl | rfl <;> exact ⟨_,rfl⟩
 obtain ⟨w,hv⟩:=hv;refine ⟨w,K2,?_,D2.mono Ze,(y1.trans ZdO).trans y2⟩;unfold Agn;have c4:(Ay 2 A9 (Ac (Ad 0) (Ac (fC (.int 4)) Af))) ZW (L1++[.lst [.int 1,.int (0 - i1),.int Zdk,.int u]])=ξ (.int i2,K2):=by
  simp only[fOwn_eq,fCons_eq,fNil_eq,fVar_eq,fC_eq,aV,aM,aY,aF,aA,aO,aX,if_true,e2]
 rw[fAsg_eq,f2_eq,hl,aA,c4];simp only[aA,semIx_ref,q5,hv,aF,gN_eq,bR,bJ]
structure Lf(L0 L:UH)(d ℓ:Nat)(B:Int)(xs:List Int):Prop where
 dk:Deck L d B
 at_:L[ℓ]? = ξ (.lst ZbP)
 ge:L0.length<=ℓ
 gt:d < ℓ
 ex:Ex d L0 L
variable {L0:UH}{ℓ:Nat}{xs:List Int}
theorem Aga{L0 L:UH}{d ℓ:Nat}{B low w:Int}{xs:List Int}(S:Lf L0 L d ℓ B xs)(hB:B<=1000000000)(hw:0 < w)(hl:xs.length < 1000)(x1 x2 x3 x4 x8 x9:Option U) :
  ∃ (low':Int) (L':UH),Je Zu L=ξ (.nx [ξ (.ref d),x1,x2,x3,x4,ξ (.int w),ξ (.int low'),ξ (.ref ℓ),x8,x9],L')/\Lf L0 L' d ℓ (B+2) (xs++[low])/\low < low':=by
 have g:=S.gt;have ap:=G7 (.int low) S.at_ (by simp;omega);have hx:xs.map U.int++[.int low]=(xs++[low]).map U.int:=Za
 rw[hx] at ap;have ty:=Hx S.at_;have s1:(Ka (Ht "list" C9 (Ad 7) (Ac (Ad 6) Af))) Zu L=ξ (.nx Zu,L.set ℓ ZaV):=by
  simp only[Hc,fMeth_eq,fVar_eq,fCons_eq,fNil_eq,aV,aM,aY,aF,aA,ty,if_true,ap]
 have S1:Lf L0 (L.set ℓ ZaV) d ℓ B (xs++[low]):=⟨S.dk.set g _,bI (aI.mp S.at_).1,S.ge,g,S.ex.set S.ge _⟩;obtain ⟨i1,L1,e1,a1,b1,D1,y1⟩:=Fz (many:=100000) S1.dk Ze Zb Zb;obtain ⟨i2,K2,e2,a2,b2,D2,y2⟩:=Fz (many:=100000) D1 Ze Zb Zb;have hp5:Tu 10 5=true:=rfl;have n1:(Ay 2 A9 Zad) Zu (L.set ℓ ZaV)=ξ (.int i1,L1):=by
  simp[hp5,e1,-cP]
 have n2:(Ay 2 A9 Zad) Zu L1=ξ (.int i2,K2):=by
  simp[hp5,e2]
 have hmul:Hq i1 100000=true:=Abm Zb Zb;have p5:(f2 Gd (fC (.int 10)) (fC (.int 5))) Zu L1=ξ (.int 100000,L1):=by simp[hp5]
 have hm0:0<=(i1 * 100000+i2) % w:=kF _ Ze;refine ⟨low+1+(i1 * 100000+i2) % w,K2,?_,⟨D2.mono Ze,y2.get (y1.get S1.at_ Ze) Ze,S.ge,g,(S1.ex.trans y1).trans y2⟩,Ze⟩;unfold Je;rw[Al s1,fAsg_eq,f2_eq];have c1:(f2 Be (Ad 6) Zh) Zu (L.set ℓ ZaV)=ξ (.int (low+1),L.set ℓ ZaV):=rfl;rw[c1,aA,f2_eq,f2_eq,f2_eq,n1,aA,p5,aA,semMul_int,if_pos hmul,aA,n2];simp only[aA,semAdd_int,fVar_eq,aV,aM,aY,aF,semMod_int,decide_eq_true hw,if_true,gN_eq,bR,bJ]
noncomputable def Aio:FS:=(Jo (Jd ZA) (gN 8) Je)
theorem Aeu{L0 L:UH}{d ℓ n:Nat}{B low w:Int}(S:Lf L0 L d ℓ B [])(hB:B<=100000000)(hw:0 < w)(hn:n<=200)(x1 x3 x4 x8 x9:Option U) :
  ∃ (y6 y8:Option U) (L':UH) (xs:List Int),Aio [ξ (.ref d),x1,ξ (.int n),x3,x4,ξ (.int w),ξ (.int low),ξ (.ref ℓ),x8,x9] L=ξ (.nx [ξ (.ref d),x1,ξ (.int n),x3,x4,ξ (.int w),y6,ξ (.ref ℓ),y8,x9],L')/\Lf L0 L' d ℓ (B+400) xs/\xs.length=n/\xs.Nodup:=by
 have hi:Jd ZA [ξ (.ref d),x1,ξ (.int n),x3,x4,ξ (.int w),ξ (.int low),ξ (.ref ℓ),x8,x9] L=ξ (.seq (Bh 0 n),L):=Tv rfl Ze;obtain ⟨δ',L',e,P⟩:=Qq (us:=Bh 0 n) (body:=Je) (g:=gN 8) (fun k δ' L'=>∃ (low':Int) (y8:Option U) (xs:List Int),δ'=[ξ (.ref d),x1,ξ (.int n),x3,x4,ξ (.int w),ξ (.int low'),ξ (.ref ℓ),y8,x9]/\Lf L0 L' d ℓ (B+2 * k) xs/\xs.length=k/\xs.Nodup/\∀ x∈xs,x < low') hi ⟨low,x8,[],rfl,by simpa using S,rfl,List.nodup_nil,fun x h=>by cases h⟩
  (fun k u δ M hu ⟨low',y8,xs,hδ,S',hl,hnd,hlt⟩=>by
   subst hδ;obtain ⟨hk,rfl⟩:=Np hu;obtain ⟨low2,M',e,S2,h2⟩:=Aga (low:=low') S' Ze hw Ze x1 (ξ (.int n)) x3 x4 (ξ (.int (0+k))) x9;refine ⟨[ξ (.ref d),x1,ξ (.int n),x3,x4,ξ (.int w),ξ (.int low'),ξ (.ref ℓ),ξ (.int (0+k)),x9],M,rfl,_,M',.inl e,low2,_,xs++[low'],rfl,?_,by simp[hl],?_,fun x hx=>?_⟩
   ·have:B+2 * ((k+1:Nat):Int)=B+2 * (k:Int)+2:=Ze
    rw[this];exact S2
   ·rw[fR];refine ⟨hnd,Za,fun a ha b hb q=>?_⟩;have hb':b=low':=by simpa using hb
    have:=hlt a ha;omega
   ·rcases cX.mp hx with q | q
    ·have:=hlt x q;omega
    ·have:x=low':=by simpa using q
     omega)
 obtain ⟨low',y8,xs,hδ,S',hl,hnd,_⟩:=P;rw[Sn] at S' hl;rw[hδ] at e;exact ⟨_,y8,L',xs,e,⟨S'.dk.mono Ze,S'.at_,S'.ge,S'.gt,S'.ex⟩,hl,hnd⟩
noncomputable def Ajc:FS:=(Ek (Bp (f2 Eu (Ad 3) Zh)) (Ba (Vu (Ad 7)) (gN 7)) Cf)
variable {way:Int}
theorem Ahf{L0 L:UH}{d ℓ:Nat}{B way:Int}{xs:List Int}(S:Lf L0 L d ℓ B xs)(x0 x1 x2 x4 x5 x6 x8 x9:Option U) :
  ∃ (ℓ':Nat) (L':UH) (ys:List Int),Ajc Za7 L=ξ (.nx [x0,x1,x2,ξ (.int way),x4,x5,x6,ξ (.ref ℓ'),x8,x9],L')/\Lf L0 L' d ℓ' B ys/\ys.Perm xs:=by
 have tt:(Bp (f2 Eu (Ad 3) Zh)) Za7 L=ξ (way == 1,L):=by
  simp only[fTest_eq,f2_eq,fVar_eq,fC_eq,aV,aM,aY,aF,aA,semEq_int]
 unfold Ajc;rw[Dz,tt];cases hb:(way == 1) with
 | true=>
  have hq:=Aj S.at_;have dl:=S.dk.lt;have le:=S.ex.le;refine ⟨L.length,L++[.lst (xs.reverse.map U.int)],xs.reverse,?_,⟨S.dk.new _,Za,le,dl,S.ex.trans ZdO⟩,List.reverse_perm xs⟩;have hr:Vu (Ad 7) Za7 L=ξ (.ref L.length,L++[.lst (xs.reverse.map U.int)]):=by
   simp only[Ac0,fVar_eq,aV,aM,aY,aF,aA,hq,lR]
  rw[aA,if_pos rfl,fAsg_eq,hr];rfl
 | false=>
  exact ⟨ℓ,L,xs,rfl,S,nQ _⟩
noncomputable def Aa9:FS:=(Ek (Bp (f2 Dq (Ad 3) Zh)) (Ba (Bo [ψ,ξ 7,ξ 0] (Jd ZA) (gN 0) ψ F2) (gN 7)) Cf)
theorem Aer{vs rest:List Int}(hg:d < ℓ)(hge:L0.length<=ℓ)(hB:B<=100000000)(hk:k < n)(hn:n<=200)(hlv:vs.length=k)(hlr:rest.length+k=n)(hp:(vs++rest).Perm xs)(hat:M[ℓ]? = ξ (.lst (rest.map U.int)))(DM:Deck M d (B+k))(xM:Ex d L0 M)(z:Option U) :
  ∃ (r:Int) (M':UH) (l':List Int),F2 [z,ξ (.ref ℓ),ξ (.ref d)] M=ξ (.int r,M')/\(vs++[r]).length=k+1/\l'.length+(k+1)=n/\((vs++[r])++l').Perm xs/\M'[ℓ]? = ξ (.lst (l'.map U.int))/\Deck M' d (B+(k+1:Nat))/\Ex d L0 M':=by
 obtain ⟨r,M',l',e,D',hat',hl',_,_,hx',hperm⟩:=Aed U.int DM Ze hg hat Ze Ze z;refine ⟨r,M',l',?_,by simp[hlv],Ze,?_,hat',?_,hx' L0 xM hge⟩
 ·unfold F2;exact e
 ·refine qQ ?_ hp;rw[bM];exact jJ vs hperm
 ·have:B+((k+1:Nat):Int)=B+(k:Int)+1:=Ze
  rw[this];exact D'
theorem Ae8{L0 L:UH}{d ℓ n:Nat}{B way:Int}{xs:List Int}(S:Lf L0 L d ℓ B xs)(hB:B<=100000000)(hl:xs.length=n)(hn:n<=200)(x1 x3 x4 x5 x6 x8 x9:Option U) :
  ∃ (M:UH) (vs:List Int),Bo [ψ,ξ 7,ξ 0] (Jd ZA) (gN 0) ψ F2 ZaO L=ξ (.ref M.length,M++[.lst (vs.map U.int)])/\vs.Perm xs/\Deck M d (B+n)/\Ex d L0 M:=by
 have hi:Jd ZA ZaO L=ξ (.seq (Bh 0 n),L):=Tv rfl Ze;obtain ⟨ys,δ',M,e,⟨z,hδ⟩,vs,rest,hvs,hlv,hlr,hp,hat,DM,xM⟩:=Afv (ix:=[ψ,ξ 7,ξ 0]) (it:=.seq (Bh 0 n)) (g:=gN 0) (tt:=ψ) (fe:=F2) (us:=Bh 0 n) (δ:=ZaO) (L:=L) (L0:=L)
   (fun k acc δ' M=>(∃ z,δ'=[z,ξ (.ref ℓ),ξ (.ref d)])/\∃ (vs rest:List Int),acc=vs.map U.int/\vs.length=k/\rest.length+k=n/\(vs++rest).Perm xs/\M[ℓ]? = ξ (.lst (rest.map U.int))/\Deck M d (B+k)/\Ex d L0 M)
   hi (by simp[IU.size]) ⟨⟨ψ,rfl⟩,[],xs,rfl,rfl,by simpa using hl,Za,S.at_,by simpa using S.dk,S.ex⟩
   (fun k acc δ L _ _=>rfl)
   (fun k u acc δ M hu ⟨⟨z,hδ⟩,vs,rest,hvs,hlv,hlr,hp,hat,DM,xM⟩=>by
    subst hδ;obtain ⟨hk,rfl⟩:=Np hu;obtain ⟨r,M',l',e,h1,h2,h3,h4,h5,h6⟩:=Aer S.gt S.ge hB hk hn hlv hlr hp hat DM xM (ξ (.int (0+(k:Int))));have ha:acc.length < 16777216:=by rw[hvs,aN,hlv];omega
    exact ⟨[ξ (.int (0+k)),ξ (.ref ℓ),ξ (.ref d)],M,rfl,true,M,rfl,fun _=>⟨.int r,M',e,ha,⟨_,rfl⟩,vs++[r],l',by simp[hvs],h1,h2,h3,h4,h5,h6⟩,fun h=>by cases h⟩)
 rw[Sn] at hlr hlv DM;have hr:rest=[]:=gY.mp Ze;rw[hr,bO] at hp;exact ⟨M,vs,by rw[e,hvs],hp,DM,xM⟩
theorem Aek{L0 L:UH}{d ℓ n:Nat}{B way:Int}{xs:List Int}(S:Lf L0 L d ℓ B xs)(hB:B<=100000000)(hl:xs.length=n)(hn:n<=200)(x1 x4 x5 x6 x8 x9:Option U) :
  ∃ (ℓ':Nat) (L':UH) (ys:List Int),Aa9 ZK L=ξ (.nx [ξ (.ref d),x1,ξ (.int n),ξ (.int way),x4,x5,x6,ξ (.ref ℓ'),x8,x9],L')/\Lf L0 L' d ℓ' (B+200) ys/\ys.Perm xs:=by
 have tt:(Bp (f2 Dq (Ad 3) Zh)) ZK L=ξ (decide (1 < way),L):=by
  simp only[fTest_eq,f2_eq,fVar_eq,fC_eq,aV,aM,aY,aF,aA,Mb]
 unfold Aa9;rw[Dz,tt];cases h:decide (1 < way) with
 | true=>
  obtain ⟨M,vs,e,hp,DM,xM⟩:=Ae8 (way:=way) S hB hl hn x1 (ξ (.int way)) x4 x5 x6 x8 x9;refine ⟨M.length,M++[.lst (vs.map U.int)],vs,?_,⟨(DM.new _).mono Ze,Za,xM.le,DM.lt,xM.trans ZdO⟩,hp⟩;rw[aA,if_pos rfl,fAsg_eq,e];rfl
 | false=>exact ⟨ℓ,L,xs,rfl,⟨S.dk.mono Ze,S.at_,S.ge,S.gt,S.ex⟩,nQ _⟩
noncomputable def Y2:FS:=(Ek (Ads (Bp (f2 Eu (Ad 3) Zn)) (Bp (f2 Dq (Ad 2) Zh))) (Bb (Ba Zbq (gN 9)) (Ba (C0 Zau) (MR.gTup 2 (MR.gCons (MR.gSub (Ad 7) (Ad 9)) (MR.gCons (MR.gSub (Ad 7) ZcO) MR.gNil))))) Cf)
theorem Aee{L0 L:UH}{d ℓ n:Nat}{B way:Int}{xs:List Int}(S:Lf L0 L d ℓ B xs)(hB:B<=100000000)(hl:xs.length=n)(hn:n<=200)(x1 x4 x5 x6 x8 x9:Option U) :
  ∃ (y9:Option U) (L':UH) (ys:List Int),Y2 ZK L=ξ (.nx [ξ (.ref d),x1,ξ (.int n),ξ (.int way),x4,x5,x6,ξ (.ref ℓ),x8,y9],L')/\Lf L0 L' d ℓ (B+1) ys/\ys.Perm xs:=by
 have tt:(Ads (Bp (f2 Eu (Ad 3) Zn)) (Bp (f2 Dq (Ad 2) Zh))) ZK L=ξ ((way == 0)&&decide ((1:Int) < n),L):=by
  cases h:(way == 0) <;> simp only[Alp,fTest_eq,f2_eq,fVar_eq,fC_eq,aV,aM,aY,aF,aA,semEq_int,Mb,h,xB,vY,if_true,bV,if_false]
 unfold Y2;rw[Dz,tt];cases h:((way == 0)&&decide ((1:Int) < n)) with
 | false=>exact ⟨x9,L,xs,rfl,⟨S.dk.mono Ze,S.at_,S.ge,S.gt,S.ex⟩,nQ _⟩
 | true=>
  have h1:(1:Int) < n:=by
   rw[bZ] at h;exact of_decide_eq_true h.2
  have g:=S.gt;obtain ⟨i,L1,e1,a1,b1,D1,y1⟩:=Fz (many:=(n:Int) - 1) S.dk Ze Ze Ze;obtain ⟨a,ha⟩:∃ a:Nat,i=(a:Int):=⟨i.toNat,Ze⟩;subst ha;have at1:=y1.get S.at_ Ze;have s1:(Ba Zbq (gN 9)) ZK L=ξ (.nx Zk,L1):=by
   simp only[fAsg_eq,fOwn_eq,fCons_eq,fNil_eq,f2_eq,fVar_eq,fC_eq,aV,aM,aY,aF,aA,semSub_int,aO,aX,if_true,e1,gN_eq,bR,bJ]
  have ha0:a < xs.length:=Ze
  have ha1:a+1 < xs.length:=Ze
  have hc:(a:Int)+1=((a+1:Nat):Int):=Ze
  have ix:∀ k:Nat,(hk:k < xs.length)->L2.atI ZbP (k:Int)=ξ (.int (xs[k]'hk)):=fun k hk=>by
   rw[Kv Ze (by simp;omega),bA,cK,aE hk];rfl
  have e7:∀ M,Ad 7 Zk M=ξ (.ref ℓ,M):=fun _=>rfl
  have e9:∀ M,Ad 9 Zk M=ξ (.int a,M):=fun _=>rfl
  have e91:∀ M,(f2 Be (Ad 9) Zh) Zk M=ξ (.int ((a+1:Nat):Int),M):=fun _=>by rw[<- hc];rfl
  have v1:(f2 Am (Ad 7) ZcO) Zk L1=ξ (.int ZaX,L1):=by
   rw[f2_eq,e7,aA,e91,aA,semIx_ref,Aj at1];simp only[aA,ix (a+1) ha1,aF]
  have v2:(f2 Am (Ad 7) (Ad 9)) Zk L1=ξ (.int (xs[a]'ha0),L1):=by
   rw[f2_eq,e7,aA,e9,aA,semIx_ref,Aj at1];simp only[aA,ix a ha0,aF]
  have sm2:∀ x y:U,small [x,y].length=true:=fun _ _=>small_of (by show 2<=16777216;decide)
  have v3:(C0 Zau) Zk L1=ξ (.tup [.int ZaX,.int (xs[a]'ha0)],L1):=by
   rw[fTup_eq,fCons_eq,v1,aA,fCons_eq,v2];simp only[aA,fNil_eq,aF];rw[if_pos (sm2 _ _)]
  have i1:ixN (xs.map U.int).length (a:Int)=ξ a:=by rw[Ait Ze (by simp;omega)];simp
  have hs1:(xs.map U.int).set a (.int ZaX)=(xs.set a ZaX).map U.int:=by rw[xO]
  have at2:(L1.set ℓ Zab)[ℓ]? = ξ Zab:=bI (aI.mp at1).1;have i2:ixN ((xs.set a ZaX).map U.int).length ((a+1:Nat):Int)=ξ (a+1):=by rw[Ait Ze (by simp;omega)];simp
  have hs2:((xs.set a ZaX).map U.int).set (a+1) (.int (xs[a]'ha0))=((xs.set a ZaX).set (a+1) (xs[a]'ha0)).map U.int:=by simp only[xO]
  have hperm:((xs.set a ZaX).set (a+1) (xs[a]'ha0)).Perm xs:=List.set_set_perm ha0 ha1;have w1:MR.gSub (Ad 7) (Ad 9) (.int ZaX) Zk L1=ξ (Zk,L1.set ℓ Zab):=by
   rw[Abt,e7,aA,e9];simp only[aA,Dh at1,i1,aF,hs1]
  have w2:MR.gSub (Ad 7) ZcO (.int (xs[a]'ha0)) Zk (L1.set ℓ Zab)=ξ (Zk,(L1.set ℓ Zab).set ℓ (.lst (((xs.set a ZaX).set (a+1) (xs[a]'ha0)).map U.int))):=by
   rw[Abt,e7,aA,e91];simp only[aA,Dh at2,i2,aF,hs2]
  generalize hys:(xs.set a ZaX).set (a+1) (xs[a]'ha0)=ys at w2 hperm;generalize hzs:xs.set a ZaX=zs at w1 w2 at2;refine ⟨ξ (.int a),(L1.set ℓ (.lst (zs.map U.int))).set ℓ (.lst (ys.map U.int)),ys,?_,⟨(D1.set g _).set g _,bI (aI.mp at2).1,S.ge,g,((S.ex.trans y1).set S.ge _).set S.ge _⟩,hperm⟩;rw[aA,if_pos rfl,Al s1,fAsg_eq,v3,aA,Alo];simp only[aO,aX,if_true,Ain,gNil_eq,w1,w2,aA,aF]
theorem Ape{most:Nat}(D:Deck L d B)(hB:B<=10000000)(hm:most<=200) :
  ∃ (row:List Int) (L':UH),Qx [.ref d,.int most] L=ξ (.tup Zx,L')/\row.Nodup/\row.length<=200/\row.length<=max most 6/\Deck L' d (B+700)/\Ex d L L':=by
 obtain ⟨n,L1,e1,hn,hn6,D1,y1⟩:=Ad3 D Ze hm ψ ψ ψ ψ ψ ψ ψ ψ;obtain ⟨way,K2,e2,a2,b2,D2,y2⟩:=Fz (many:=4) D1 Ze Zb Zb;have s2:(Ba ZH (gN 3)) [ξ (.ref d),ξ (.int most),ξ (.int n),ψ,ψ,ψ,ψ,ψ,ψ,ψ] L1=ξ (.nx [ξ (.ref d),ξ (.int most),ξ (.int n),ξ (.int way),ψ,ψ,ψ,ψ,ψ,ψ],K2):=by
  simp only[fAsg_eq,fOwn_eq,fCons_eq,fNil_eq,fVar_eq,fC_eq,aV,aM,aY,aF,aA,aO,aX,if_true,e2,gN_eq,bR,bJ]
 obtain ⟨step,L3,e3,a3,b3,D3,y3⟩:=Fz (many:=4) D2 Ze Zb Zb;have s3:(Ba ZH (gN 4)) [ξ (.ref d),ξ (.int most),ξ (.int n),ξ (.int way),ψ,ψ,ψ,ψ,ψ,ψ] K2=ξ (.nx [ξ (.ref d),ξ (.int most),ξ (.int n),ξ (.int way),ξ (.int step),ψ,ψ,ψ,ψ,ψ],L3):=by
  simp only[fAsg_eq,fOwn_eq,fCons_eq,fNil_eq,fVar_eq,fC_eq,aV,aM,aY,aF,aA,aO,aX,if_true,e3,gN_eq,bR,bJ]
 obtain ⟨w,z4,e4,hw⟩:=Afc (L:=L3) hn a3 b3 (ξ (.ref d)) Zcm (ξ (.int way)) ψ ψ ψ ψ ψ;obtain ⟨low,L5,e5,D5,y5⟩:=Aif (n:=n) (D3.new z4) Ze Zcm (ξ (.int way)) Zc7 (ξ (.int w)) ψ ψ ψ ψ;have s6:∃ low':Int,(Ek (Bp (f2 Dq (Ad 4) Zh)) (Ba (f2 Bq Zn (fC (.int 9999999999))) (gN 6)) Cf) [ξ (.ref d),ξ (.int most),ξ (.int n),ξ (.int way),ξ (.int step),ξ (.int w),ξ (.int low),ψ,ψ,ψ] L5=ξ (.nx [ξ (.ref d),ξ (.int most),ξ (.int n),ξ (.int way),ξ (.int step),ξ (.int w),ξ (.int low'),ψ,ψ,ψ],L5):=by
  have tt:(Bp (f2 Dq (Ad 4) Zh)) [ξ (.ref d),ξ (.int most),ξ (.int n),ξ (.int way),ξ (.int step),ξ (.int w),ξ (.int low),ψ,ψ,ψ] L5=ξ (decide (1 < step),L5):=by
   simp only[fTest_eq,f2_eq,fVar_eq,fC_eq,aV,aM,aY,aF,aA,Mb]
  rw[Dz,tt];cases h:decide (1 < step) with
  | true=>exact ⟨-9999999999,rfl⟩
  | false=>exact ⟨low,rfl⟩
 obtain ⟨low',s6⟩:=s6;have sm0:small ([]:List U).length=true:=small_of (by show 0<=16777216;decide);have s7:(Ba (El Af) (gN 7)) [ξ (.ref d),ξ (.int most),ξ (.int n),ξ (.int way),ξ (.int step),ξ (.int w),ξ (.int low'),ψ,ψ,ψ] L5=ξ (.nx [ξ (.ref d),ξ (.int most),ξ (.int n),ξ (.int way),ξ (.int step),ξ (.int w),ξ (.int low'),ξ (.ref L5.length),ψ,ψ],L5++[.lst []]):=by
  rw[fAsg_eq,fLst_eq,fNil_eq,aA,if_pos sm0];rfl
 have x5:=(((y1.trans y2).trans y3).trans (Ex.new d L3 z4)).trans y5;have S7:Lf L (L5++[.lst []]) d L5.length (B+7) []:=⟨(D5.new _).mono Ze,Za,x5.le,D5.lt,x5.trans ZdO⟩;obtain ⟨y6,y8,L8,xs,e8,S8,hl8,hnd⟩:=Aeu (low:=low') S7 Ze hw hn Zcm (ξ (.int way)) Zc7 ψ ψ;obtain ⟨ℓ9,L9,xs9,e9,S9,p9⟩:=Ahf (way:=way) S8 (ξ (.ref d)) Zcm (ξ (.int n)) Zc7 (ξ (.int w)) y6 y8 ψ;obtain ⟨ℓ10,L10,xs10,e10,S10,p10⟩:=Aek (way:=way) S9 Ze (by rw[p9.length_eq,hl8]) hn Zcm Zc7 (ξ (.int w)) y6 y8 ψ;have hp10:=p10.trans p9;obtain ⟨y9,L11,xs11,e11,S11,p11⟩:=Aee (way:=way) S10 Ze (by rw[hp10.length_eq,hl8]) hn Zcm Zc7 (ξ (.int w)) y6 y8 ψ;have hp11:=p11.trans hp10;refine ⟨xs11,L11,?_,hp11.nodup_iff.mpr hnd,by rw[hp11.length_eq,hl8];exact hn,by rw[hp11.length_eq,hl8];exact hn6,S11.dk.mono Ze,S11.ex⟩
 have sp:Aco=Bb Aaa (Bb (Ba ZH (gN 3)) (Bb (Ba ZH (gN 4)) (Bb Y8 (Bb Agn (Bb Zal (Bb (Ba (El Af) (gN 7)) (Bb Aio (Bb Ajc (Bb Aa9 (Bb Y2 (Bx (Au semTuple (Ac (Ad 7) Af))))))))))))):=rfl;unfold Qx fnU;simp only[aO,aX,if_true,aS,bP,bL,cS,cZ];rw[sp,Al e1,Al s2,Al s3,Al e4,Al e5,Al s6,Al s7,Al e8,Al e9,Al e10,Al e11];simp only[fRet_eq,fCall_eq,fCons_eq,fNil_eq,fVar_eq,aV,aM,aY,aF,aA,semTuple,Aj S11.at_]
variable {j:Nat}
theorem X8{w:U}(h:Ad i δ L=ξ (u,L))(h2:Ad j δ L=ξ (w,L))(e:f [u,w] L=ξ (v,L')):(Ay 2 f (Ac (Ad i) (Ac (Ad j) Af))) δ L=ξ (v,L'):=by
 rw[fOwn_eq,fCons_eq,h,aA,fCons_eq,h2];simp only[aA,fNil_eq,aF,aO,aX,if_true,e]
noncomputable abbrev P3:=Str×Int×Int
noncomputable def p3U(p:P3):U:=.tup [.str p.1,.int p.2.1,.int p.2.2]
noncomputable def pr(p:Int×Int):U:=.tup [.int p.1,.int p.2]
noncomputable def below(p q:Int×Int):Bool:=decide (p.1<=q.1)&&(decide (p.2<=q.2) && !(p.1 == q.1&&(p.2 == q.2&&true)))
theorem Ane(p q:Int×Int)(L:UH):Fw (pr p) (pr q) L=ξ (.bl (!(p.1 == q.1&&(p.2 == q.2&&true))),L):=rfl
theorem Ai0{β:Type}(as:List β)(f:β->Bool):mapO toB (as.map fun a=>U.bl (f a))=ξ (as.map f):=by
 induction as with
 | nil=>rfl
 | cons a as ih=>simp[mapO,toB,ih]
theorem Ak6{β:Type}(as:List β)(f:β->Bool)(h:Ap L n=ξ (as.map fun a=>U.bl (f a))):Rv [.ref n] L=ξ (.bl (as.all f),L):=by
 simp[Rv,h,Ai0]
theorem Qv(p q:Int×Int)(L:UH):∃ x,Cm [pr p,pr q] L=ξ (.bl (below p q),L++x):=by
 have hz:(P9 Zcj) [ξ (pr p),ξ (pr q)] L=ξ (.seq ([(p.1,q.1),(p.2,q.2)].map fun a=>.tup [.int a.1,.int a.2]),L):=rfl;obtain ⟨x,e⟩:=Br (ix:=[ψ,ψ]) (fi:=P9 Zcj) (it:=.seq ([(p.1,q.1),(p.2,q.2)].map fun a=>.tup [.int a.1,.int a.2])) (g:=Zi) (tt:=ψ) (fe:=Gj) (δ:=[ξ (pr p),ξ (pr q)]) (L:=L) (L0:=L)
  [(p.1,q.1),(p.2,q.2)] (fun a=>.tup [.int a.1,.int a.2]) ZN (fun a=>.bl (decide (a.1<=a.2))) ZbX hz (by simp[IU.size]) Za ⟨ψ,ψ,rfl⟩
  ZbQ
  (fun a δ x _ ⟨y,z,hδ⟩=>by
   subst hδ;refine ⟨_,rfl,⟨_,_,rfl⟩,[],by simp[E9],fun _=>⟨[],?_⟩⟩;simp[Gj])
 have hf:gR (fun _:Int×Int=>true) [(p.1,q.1),(p.2,q.2)]=[(p.1,q.1),(p.2,q.2)]:=Za
 rw[hf] at e;have q1:Ap (L++x++[HU.lst ([(p.1,q.1),(p.2,q.2)].map fun a=>.bl (decide (a.1<=a.2)))]) (L++x).length=ξ ([(p.1,q.1),(p.2,q.2)].map fun a=>U.bl (decide (a.1<=a.2))):=Aj Za;have ha:=Ak6 _ _ q1;by_cases h:(!(p.1 == q.1&&(p.2 == q.2&&true)))=true
 ·refine ⟨x++[HU.lst ([(p.1,q.1),(p.2,q.2)].map fun a=>.bl (decide (a.1<=a.2)))],?_⟩;have hb:below p q=List.all [(p.1,q.1),(p.2,q.2)] fun a=>decide (a.1<=a.2):=by
   simp only[below,h,lW,List.all_nil]
  have hn:=Ane p q L;rw[h] at hn;unfold Cm fnU Jy;simp only[aO,aX,if_true,aS,bP,dC,dA,bO,fRet_eq,Tw,f2_eq,fVar_eq,aM,aV,aY,aF,aA,hn,fCall_eq,fCons_eq,fNil_eq];simp only[aS,bP] at e ha;rw[hb,<- bM];simp only[e,ha,aF,aA]
 ·have h':(!(p.1 == q.1&&(p.2 == q.2&&true)))=false:=by simpa using h
  refine ⟨[],?_⟩;have hb:below p q=false:=by simp only[below,h',Bool.and_false]
  have hn:=Ane p q L;rw[h'] at hn;unfold Cm fnU Jy;simp only[aO,aX,if_true,aS,bP,dC,dA,bO,fRet_eq,Tw,f2_eq,fVar_eq,aM,aV,aY,aF,aA,hn,hb];simp
theorem Cz(p:P3)(L:UH):Bk [p3U p] L=ξ (pr p.2,L):=by
 have sm2:small (0+1+1)=true:=small_of Zb;have i1:∀ p:P3,Am (p3U p) (.int 1) L=ξ (.int p.2.1,L):=fun _=>rfl
 have i2:∀ p:P3,Am (p3U p) (.int 2) L=ξ (.int p.2.2,L):=fun _=>rfl
 unfold Bk fnU Ru;simp only[aO,aX,if_true,aS,bP,dC,dA,bO,fRet_eq,fTup_eq,fCons_eq,fNil_eq,f2_eq,fVar_eq,fC_eq,aM,aY,aF,aA,i1,i2];rw[if_pos sm2];rfl
noncomputable def Atj:P3:=("",0,0)
noncomputable def ptAt(ps:List P3)(i:Nat):P3:=ps.getD i Atj
noncomputable def Ky(ps:List P3)(a:Int×Int):List Nat:=(bB ps.length).filter fun j=>below a (ptAt ps j).2
noncomputable def ixU(l:List Nat):List U:=l.map fun (j:Nat)=>U.int (j:Int)
theorem Aiz(ps:List P3):Gm ZL=(bB ps.length).map fun (i:Nat)=>U.tup [.int (i:Int),p3U (ptAt ps i)]:=by
 apply iZ
 ·simp[Gm]
 ·intro i h1 h2;have hi:i < ps.length:=by simpa[Gm] using h1
  simp[Gm,ptAt,aC,hi]
theorem Xz(ps:List P3)(hl:ps.length<=1000)(p:P3)(L:UH):∃ (r:Nat) (L':UH),Dv [.tup ZL,p3U p] L=ξ (.ref r,L')/\L'[r]? = ξ (.lst (ixU (Ky ps p.2)))/\Gw L L'/\L.length<=r:=by
 have s1:=F7 (i:=2) (Fb (i:=1) (δ:=[ξ Zf,ξ (p3U p),ψ]) rfl (Cz p L));simp only[bR,bJ] at s1;have hi:(De Zl) [ξ Zf,ξ (p3U p),ξ (pr p.2)] L=ξ (.seq ((bB ps.length).map fun (i:Nat)=>U.tup [.int (i:Int),p3U (ptAt ps i)]),L):=by
  rw[<- Aiz];rfl
 obtain ⟨x,e⟩:=Br (ix:=[ψ,ψ,ξ 2]) (it:=.seq ((bB ps.length).map fun (i:Nat)=>U.tup [.int (i:Int),p3U (ptAt ps i)])) (g:=Zi) (tt:=ξ Eh) (fe:=Iy) (δ:=[ξ Zf,ξ (p3U p),ξ (pr p.2)]) (L:=L) (L0:=L)
  (bB ps.length) (fun (i:Nat)=>U.tup [.int (i:Int),p3U (ptAt ps i)]) (fun j=>below p.2 (ptAt ps j).2) (fun (j:Nat)=>.int (j:Int)) (fun δ=>∃ a b,δ = [a,b,ξ (pr p.2)]) hi (by simp[IU.size]) (by simp;omega) ⟨ψ,ψ,rfl⟩
  ZbQ
  (fun j δ x _ ⟨y,z,hδ⟩=>by
   subst hδ;obtain ⟨w,e1⟩:=Qv p.2 (ptAt ps j).2 (L++x);refine ⟨Zaj,rfl,⟨_,_,rfl⟩,w,?_,fun _=>⟨[],?_⟩⟩
   ·show Eh Zaj (L++x)=_;have hp:=Fb (i:=1) (δ:=Zaj) rfl (Cz (ptAt ps j) (L++x));have v2:Ad 2 Zaj (L++x)=ξ (pr p.2,L++x):=rfl;unfold Eh;rw[fTru_eq,fOwn_eq,fCons_eq,v2,aA,fCons_eq,hp];simp only[aA,fNil_eq,aF,aO,aX,if_true,e1,Wu]
   ·rw[bO];rfl)
 have hm:((bB ps.length).filter fun j=>below p.2 (ptAt ps j).2).map ZbY=ixU (Ky ps p.2):=rfl;rw[hm] at e;generalize ixU (Ky ps p.2)=us at e;refine ⟨(L++x).length,L++x++[HU.lst us],?_,Za,⟨x++[HU.lst us],by rw[bM]⟩,Za⟩;unfold Dv fnU Mr;simp only[aO,aX,if_true,aS,bP,bL,cS,cZ];rw[Al s1,fRet_eq,e];simp only[aF,aA]
noncomputable def O7(bs:List Int)(js:List Nat):Int:=(js.map fun j=>bs.getD j 0).sum
variable {b t:Nat}
theorem Aet{bs:List Int}{js:List Nat}(hb:L[b]? = ξ (.lst (bs.map U.int)))(ht:L[t]? = ξ (.lst (ixU js)))(hj:∀ j∈js,j < bs.length)(hl:js.length<=1000):∃ L',Nw [.ref b,.ref t] L=ξ (.int (O7 bs js),L')/\Gw L L':=by
 have hbs:=Aj hb;have hts:Ap L t=ξ (js.map fun (j:Nat)=>U.int (j:Int)):=Aj ht;obtain ⟨x,e⟩:=Br (ix:=[ψ,ξ 0]) (fi:=Bj (Ad 1)) (it:=.ref t) (g:=gN 0) (tt:=ψ) (fe:=K7) (δ:=[ξ (.ref b),ξ (.ref t)]) (L:=L) (L0:=L)
  js ZbY ZN (fun (j:Nat)=>.int (bs.getD j 0)) (fun δ=>∃ z,δ = [z,ξ (.ref b)]) (by simp[Du hts]) (by rw[Fe hts];simp) Ze ⟨ψ,rfl⟩
  (fun k x=>Jv (Cd hts))
  (fun j δ x hjm ⟨y,hδ⟩=>by
   subst hδ;refine ⟨[ξ (.int (j:Int)),ξ (.ref b)],rfl,⟨_,rfl⟩,[],by simp[E9],fun _=>⟨[],?_⟩⟩;have hjl:=hj j hjm;have hix:L2.atI (bs.map U.int) (j:Int)=ξ (.int (bs.getD j 0)):=by
    rw[Kv Ze (by rw[aN];omega),cK,bA,aE hjl];simp[aC,hjl]
   rw[bO,bO];unfold K7;simp only[f2_eq,fVar_eq,aV,aM,aY,aF,aA,semIx_ref,Cd hbs,hix])
 have hff:gR ZN js=js:=cR.mpr Zj;have hmm:js.map (fun (j:Nat)=>U.int (bs.getD j 0))=(js.map fun j=>bs.getD j 0).map U.int:=Za
 rw[hff,hmm] at e;have q2:Ap (L++x++[HU.lst ZaS]) (L++x).length=ξ ZaS:=Aj Za;have hs:semSum [.ref (L++x).length] (L++x++[HU.lst ZaS])=ξ (.int (O7 bs js),L++x++[HU.lst ZaS]):=by
  simp only[semSum,q2,aA,toI_ints,aF,O7]
 generalize O7 bs js=sm at hs;generalize (js.map fun j=>bs.getD j 0).map U.int=us at e hs;refine ⟨L++x++[HU.lst us],?_,⟨x++[HU.lst us],by rw[bM]⟩⟩;unfold Nw fnU Yo;simp only[aO,aX,if_true,aS,bP,dC,dA,bO];rw[fRet_eq,fCall_eq,fCons_eq,e];simp only[aA,fNil_eq,aF,hs]
theorem Aai(ps:List P3)(hl:ps.length<=100)(L:UH)(x1 x2 x3:Option U):∃ (r:Nat) (rs:List Nat) (L':UH),Bo [ψ,ξ 0] (Bj (Ad 0)) (gN 0) ψ C5 [ξ Zf,x1,x2,x3] L=ξ (.ref r,L')/\L'[r]? = ξ (.lst ZcR)/\rs.length=ps.length/\(∀ (i ρ:Nat),rs[i]? = ξ ρ->L'[ρ]? = ξ (HU.lst (ixU ZaY)))/\Gw L L':=by
 have hi:Bj (Ad 0) [ξ Zf,x1,x2,x3] L=ξ (.seq ZL,L):=by simp[Il]
 obtain ⟨us,δ',M',e,⟨z,hδ⟩,rs,hrs,hlr,hat,gM⟩:=Afv (ix:=[ψ,ξ 0]) (it:=.seq ZL) (g:=gN 0) (tt:=ψ) (fe:=C5) (us:=ps.map p3U) (δ:=[ξ Zf,x1,x2,x3]) (L:=L) (L0:=L)
   (fun k acc δ' (M:UH)=>(∃ z,δ'=[z,ξ Zf])/\∃ (rs:List Nat),acc=rs.map U.ref/\rs.length=k/\(∀ (i ρ:Nat),rs[i]? = ξ ρ->M[ρ]? = ξ (HU.lst (ixU ZaY)))/\Gw L M)
   hi (by simp[IU.size]) ⟨⟨ψ,rfl⟩,[],rfl,rfl,Za,Gw.refl L⟩
   (fun k acc δ L _ _=>rfl)
   (fun k u acc δ M hu ⟨⟨z,hδ⟩,rs,hrs,hlr,hat,gM⟩=>by
    subst hδ;rw[bA] at hu;obtain ⟨p,hp,rfl⟩:=aJ.mp hu;have hk:=(aI.mp hp).1;have hpk:ptAt ps k=p:=by unfold ptAt;rw[aC,hp];rfl
    obtain ⟨r,M',e1,h1,g1,_⟩:=Xz ps Ze p M;have ha:acc.length < 16777216:=by rw[hrs,aN,hlr];omega
    refine ⟨[ξ (p3U p),ξ Zf],M,rfl,true,M,rfl,fun _=>⟨.ref r,M',?_,ha,⟨_,rfl⟩,rs++[r],by simp[hrs],by simp[hlr],?_,gM.trans g1⟩,fun h=>by cases h⟩
    ·unfold C5;exact X8 (i:=1) (j:=0) rfl rfl e1
    ·intro i ρ hρ;by_cases hi:i < rs.length
     ·rw[bC hi] at hρ;exact g1.get (hat i ρ hρ)
     ·have hik:i=k:=by
       have:=(aI.mp hρ).1;simp at this;omega
      subst hik;rw[bX Ze,hlr,dC] at hρ;cases hρ;rw[hpk];exact h1)
 rw[aN] at hlr;exact ⟨_,rs,_,e,by rw[hrs];simp,hlr,fun i ρ hρ=>(Gw.new M' _).get (hat i ρ hρ),gM.trans Z6⟩
theorem Rx{a b c:Int×Int}(h1:below a b=true)(h2:below b c=true):below a c=true:=by
 simp only[below,oV,bZ,oH,lL,beq_eq_false_iff_ne,decide_eq_true_eq] at h1 h2 ⊢;obtain ⟨a1,a2,a3⟩:=h1;obtain ⟨b1,b2,b3⟩:=h2;refine ⟨Ze,Ze,?_⟩;rcases a3 with h | h
 ·left;intro e;omega
 ·right;intro e;omega
theorem Ri(a:Int×Int):below a a=false:=by
 simp[below]
theorem Adi{β:Type}{p q:β->Bool}(l:List β)(h:∀ x∈l,p x=true->q x=true):(l.filter p).length<=(l.filter q).length:=by
 induction l with
 | nil=>simp
 | cons a l ih=>
  have ih':=ih Zcg;have ha:=h a (aQ ..);cases hp:p a with
  | true=>
   rw[dP hp,dP (ha hp),aO,aO];omega
  | false=>
   rw[eI (by simp[hp])];cases hq:q a with
   | true=>rw[dP hq,aO];omega
   | false=>rw[eI (by simp[hq])];exact ih'
theorem Lv{β:Type}{p q:β->Bool}:∀ (l:List β),(∀ x∈l,p x=true->q x=true)->(∃ x∈l,q x=true/\p x=false)->(l.filter p).length < (l.filter q).length
 | [],_,h=>by obtain ⟨x,hx,_⟩:=h;cases hx
 | a::l,h,hx=>by
  have h':∀ x∈l,p x=true->q x=true:=fun x hx=>h x (aK _ hx)
  have ha:=h a (aQ ..);obtain ⟨x,hx,hq,hp⟩:=hx;rcases bG.mp hx with rfl | hx
  ·rw[eI (by simp[hp]),dP hq,aO];have:=Adi l h';omega
  ·have ih:=Lv l h' ⟨x,hx,hq,hp⟩;cases hpa:p a with
   | true=>rw[dP hpa,dP (ha hpa),aO,aO];omega
   | false=>
    rw[eI (by simp[hpa])];cases hqa:q a with
    | true=>rw[dP hqa,aO];omega
    | false=>rw[eI (by simp[hqa])];exact ih
variable {ps:List P3}
theorem Ajs{a:Int×Int}(h:j∈Ky ps a):(Ky ps (ptAt ps j).2).length < (Ky ps a).length:=by
 have hj:=eN.mp h;exact Lv _ (fun x _ hx=>Rx hj.2 hx) ⟨j,hj.1,hj.2,Ri _⟩
theorem X9{a:Int×Int}(h:j∈Ky ps a):j < ps.length:=bE.mp (eN.mp h).1
theorem X0(ps:List P3)(a:Int×Int):(Ky ps a).length<=ps.length:=by
 have:=lK (fun j=>below a (ptAt ps j).2) Zbt;simpa[Ky] using this
noncomputable def bg(ps:List P3):Nat->List Int
 | 0=>bL ps.length 1
 | t+1=>(bB ps.length).map fun i=>O7 (bg ps t) ZaY
theorem Tp(ps:List P3)(t:Nat):(bg ps t).length=ps.length:=by
 cases t <;> simp[bg]
theorem Anm(h:i < ps.length):(bg ps (t+1)).getD i 0=O7 (bg ps t) ZaY:=by
 simp[bg,aC,h]
theorem Y0:∀ l:List Int,(∀ x∈l,x=0)->l.sum=0
 | [],_=>rfl
 | a::l,h=>by
  rw[kC,h a (aQ ..),Y0 l Zcg];rfl
theorem Ah0(ps:List P3):∀ (t i:Nat),i < ps.length->(Ky ps (ptAt ps i).2).length < t->(bg ps t).getD i 0=0
 | 0,i,_,h=>by omega
 | t+1,i,hi,h=>by
  rw[Anm hi];unfold O7;refine Y0 _ fun x hx=>?_
  obtain ⟨j,hj,rfl⟩:=cJ.mp hx;exact Ah0 ps t j (X9 hj) (by have:=Ajs hj;omega)
theorem Aj3(ps:List P3):(bg ps (ps.length+1)).any (fun n=>!(n == 0))=false:=by
 rw[oA];intro x hx;obtain ⟨i,hi,rfl⟩:=dS hx;have hi':i < ps.length:=by rw[Tp] at hi;exact hi
 have:=Ah0 ps (ps.length+1) i hi' (by have:=X0 ps (ptAt ps i).2;omega);rw[aC,aE hi] at this;simpa using this
theorem Ux{c:FT}{body:FS}{N:Nat}{P:Nat->UE->UH->Prop}{Q:UE->UH->Prop}
  (hgo:∀ k δ L,k < N->P k δ L->∃ L1,c δ L=ξ (true,L1)/\∃ δ2 M2,body δ L1=ξ (.nx δ2,M2)/\P (k+1) δ2 M2)
  (hend:∀ δ L,P N δ L->∃ L1,c δ L=ξ (false,L1)/\Q δ L1):∀ (f k m:Nat) (δ:UE) (L:UH),k+f=N->f < m->P k δ L->∃ δ' L',Ib c body m δ L=ξ (.nx δ',L')/\Q δ' L'
 | 0,k,m+1,δ,L,hk,hm,h=>by
  have:k=N:=Ze
  subst this;obtain ⟨L1,e1,q⟩:=hend δ L h;refine ⟨δ,L1,?_,q⟩;unfold Ib;simp only[e1,aA,bV,if_false]
 | f+1,k,m+1,δ,L,hk,hm,h=>by
  obtain ⟨L1,e1,δ2,M2,e2,h2⟩:=hgo k δ L Ze h;obtain ⟨δ',L',e3,q⟩:=Ux hgo hend f (k+1) m δ2 M2 Ze Ze h2;refine ⟨δ',L',?_,q⟩;unfold Ib;simp only[e1,aA,if_true,e2,e3]
theorem P7(b:Nat->Bool):∀ n,b n=false->∃ T,T<=n/\b T=false/\∀ t,t < T->b t=true
 | 0,h=>⟨0,aP _,h,fun t ht=>by omega⟩
 | n+1,h=>by
  by_cases hx:∃ t,t<=n/\b t=false
  ·obtain ⟨t,ht,hb⟩:=hx;obtain ⟨T,hT,h1,h2⟩:=P7 b t hb;exact ⟨T,Ze,h1,h2⟩
  ·refine ⟨n+1,aP _,h,fun t ht=>?_⟩;cases hb:b t with
   | true=>rfl
   | false=>exact absurd ⟨t,Ze,hb⟩ hx
noncomputable def Kd(ps:List P3)(T:Nat):List Int:=(bB T).map fun t=>(bg ps t).sum
noncomputable def Gv(ps:List P3)(t:Nat):Bool:=(bg ps t).any fun n=>!(n == 0)
structure Ab(M:UH)(A n:Nat)(rs:List Nat)(ps:List P3):Prop where
 hA:M[A]? = ξ (.lst ZcR)
 hl:rs.length=ps.length
 at_:∀ (i ρ:Nat),rs[i]? = ξ ρ->M[ρ]? = ξ (HU.lst (ixU ZaY))
 An:A < n
 rn:∀ (i ρ:Nat),rs[i]? = ξ ρ->ρ < n
variable {A:Nat}{M':UH}{rs:List Nat}
theorem Ab.gw(h:Ab M A n rs ps)(g:Gw M M'):Ab M' A n rs ps:=⟨g.get h.hA,h.hl,fun i ρ e=>g.get (h.at_ i ρ e),h.An,h.rn⟩
theorem Ab.set(h:Ab M A n rs ps)(o:HU):Ab (M.set n o) A n rs ps:=
 ⟨by rw[bF (by have:=h.An;omega)];exact h.hA,h.hl,fun i ρ e=>by rw[bF (by have:=h.rn i ρ e;omega)];exact h.at_ i ρ e,h.An,h.rn⟩
theorem Aba(h:Ab M A n rs ps)(hb:M[b]? = ξ Zdg)(hn:ps.length<=100)(x0 x3:Option U) :
  ∃ (r:Nat) (M':UH),Bo [ψ,ξ 2] (Bj (Ad 1)) (gN 0) ψ C4 [x0,ξ (.ref A),ξ (.ref b),x3] M=ξ (.ref r,M')/\M'[r]? = ξ (.lst ((bg ps (k+1)).map U.int))/\Gw M M'/\M.length<=r:=by
 have hrr:rs.map U.ref=(bB ps.length).map fun i=>U.ref (rs.getD i 0):=by
  apply iZ
  ·simp[h.hl]
  ·intro i h1 h2;have hi:i < rs.length:=by simpa using h1
   simp[aC,hi]
 have hs:Ap M A=ξ ((bB ps.length).map fun i=>U.ref (rs.getD i 0)):=by rw[<- hrr];exact Aj h.hA
 obtain ⟨x,e⟩:=Br (ix:=[ψ,ξ 2]) (fi:=Bj (Ad 1)) (it:=.ref A) (g:=gN 0) (tt:=ψ) (fe:=C4) (δ:=[x0,ξ (.ref A),ξ (.ref b),x3]) (L:=M) (L0:=M)
  (bB ps.length) (fun i=>U.ref (rs.getD i 0)) ZN (fun i=>.int (O7 (bg ps k) ZaY)) (fun δ=>∃ z,δ = [z,ξ (.ref b)]) (by simp[Du hs]) (by rw[Fe hs];simp) (by simp;omega) ⟨ψ,rfl⟩
  (fun k x=>Jv (Cd hs))
  (fun i δ x hi ⟨y,hδ⟩=>by
   subst hδ;have hil:=bE.mp hi;have hg:rs[i]? = ξ (rs.getD i 0):=by
    have:i < rs.length:=by rw[h.hl];exact hil
    simp[aC,this]
   have hat:=h.at_ i _ hg;obtain ⟨M',e1,z,hz⟩:=Aet (L:=M++x) ((Gw.new M x).get hb) ((Gw.new M x).get hat) (fun j hj=>by rw[Tp];exact X9 hj) (by have:=X0 ps (ptAt ps i).2;omega);rw[hz] at e1;refine ⟨[ξ (.ref (rs.getD i 0)),ξ (.ref b)],rfl,⟨_,rfl⟩,[],by simp[E9],fun _=>⟨z,?_⟩⟩;rw[bO];unfold C4;exact X8 (i:=1) (j:=0) rfl rfl e1)
 have hff:gR ZN Zbt=bB ps.length:=cR.mpr Zj;have hmm:(bB ps.length).map (fun i=>U.int (O7 (bg ps k) ZaY))=(bg ps (k+1)).map U.int:=by simp[bg]
 rw[hff,hmm] at e;exact ⟨_,_,e,Za,⟨x++[HU.lst ((bg ps (k+1)).map U.int)],by rw[bM]⟩,Za⟩
theorem Ajd{bs:List Int}(h:L[b]? = ξ (.lst (bs.map U.int))):Rh [.ref b] L=ξ (.bl (bs.any fun n=>!(n == 0)),L):=by
 simp only[Rh,Aj h,aA,toI_ints,aF]
theorem told_step(ps:List P3)(k:Nat):Kd ps (k+1)=Kd ps k++[(bg ps k).sum]:=by
 unfold Kd;rw[kG];simp
theorem Alb(ps:List P3)(hn:ps.length<=100)(L:UH):∃ (T:Nat) (L':UH),Dg [.tup ZL] L=ξ (.tup ZcW,L')/\T<=ps.length+1/\Gv ps T=false/\(∀ t,t < T->Gv ps t=true)/\Gw L L':=by
 obtain ⟨T,hT,h1,h2⟩:=P7 (Gv ps) (ps.length+1) (Aj3 ps);have sm0:small ([]:List U).length=true:=small_of (by show 0<=16777216;decide);have sm1:∀ x:U,small [x].length=true:=fun _=>small_of (by show 1<=16777216;decide)
 obtain ⟨A,rs,L1,e1,hA,hlr,hat,g1⟩:=Aai ps hn L ψ ψ ψ;have s1:=F7 (i:=1) e1;simp only[bR,bJ] at s1;have hl1:(El (Ac Zh Af)) [ξ Zf,ξ (.ref A),ψ,ψ] L1=ξ (.ref L1.length,L1++[.lst [.int 1]]):=by
  simp only[fLst_eq,fCons_eq,fC_eq,fNil_eq,aA,aF];rw[if_pos (sm1 _)]
 have q1:(L1++[HU.lst [.int 1]])[L1.length]? = ξ (.lst [.int 1]):=Za
 have hlen:Bg [.tup ZL] (L1++[HU.lst [.int 1]])=ξ (.int ps.length,L1++[HU.lst [.int 1]]):=by simp[Bg,lenU]
 have hrep:(bL ((ps.length:Int)).toNat [U.int 1]).flatten=(bg ps 0).map U.int:=by
  rw[cK];show _=(bL ps.length (1:Int)).map U.int;generalize ps.length=k;induction k with
  | zero=>rfl
  | succ k ih=>rw[eR,eK,ih,eR];rfl
 have hmul:Df (.ref L1.length) (.int ps.length) (L1++[.lst [.int 1]])=ξ (.ref (L1++[HU.lst [.int 1]]).length,L1++[.lst [.int 1]]++[.lst Zbo]):=by
  rw[<- hrep];unfold Df;simp only[Dh q1,aA];rw[if_pos ⟨Ze,Ze,small_of (by simp;omega)⟩]
 have h2':(f2 Df (El (Ac Zh Af)) (Au Bg Zl)) [ξ Zf,ξ (.ref A),ψ,ψ] L1=ξ (.ref (L1++[HU.lst [.int 1]]).length,L1++[.lst [.int 1]]++[.lst Zbo]):=by
  rw[f2_eq,hl1];simp only[aA,fCall_eq,fCons_eq,fVar_eq,fNil_eq,aM,aY,aF,hlen,hmul]
 have s2:=F7 (i:=2) h2';simp only[bR,bJ] at s2;have gM:Gw L1 (L1++[HU.lst [.int 1]]++[HU.lst Zbo]):=(Gw.new _ _).trans Z6;have hb0:(L1++[HU.lst [.int 1]]++[HU.lst Zbo])[(L1++[HU.lst [.int 1]]).length]? = ξ (.lst Zbo):=Za
 generalize hM:L1++[HU.lst [.int 1]]++[HU.lst Zbo]=M at s2 gM hb0;generalize (L1++[HU.lst [.int 1]]).length=b0 at s2 hb0;have s3:(Ba (El Af) (gN 3)) [ξ Zf,ξ (.ref A),ξ (.ref b0),ψ] M=ξ (.nx [ξ Zf,ξ (.ref A),ξ (.ref b0),ξ (.ref M.length)],M++[.lst []]):=by
  rw[fAsg_eq,fLst_eq,fNil_eq,aA,if_pos sm0];rfl
 have hAl:=(aI.mp (gM.get hA)).1;have hbl:=(aI.mp hb0).1;have ab0:Ab (M++[.lst []]) A M.length rs ps:=⟨(Gw.new M _).get (gM.get hA),hlr,fun i ρ h=>(Gw.new M _).get (gM.get (hat i ρ h)),hAl,fun i ρ h=>(aI.mp (gM.get (hat i ρ h))).1⟩;obtain ⟨δ',L',e,P⟩:=Ux (c:=C6) (body:=E4) (N:=T)
  (P:=fun k δ K=>∃ b,δ = Zan/\Ab K A M.length rs ps/\K[b]? = ξ Zdg/\b≠M.length/\K[M.length]? = ξ (.lst ((Kd ps k).map U.int))/\Gw M K/\k<=T)
  (Q:=fun δ K=>∃ b,δ = Zan/\K[M.length]? = ξ (.lst ZcW)/\Gw M K)
  (fun k δ K hk ⟨b,hδ,ab,hb,hbn,ht,gK,_⟩=>by
   subst hδ;have hany:=Ajd hb;have hlv:=h2 k hk;unfold Gv at hlv;rw[hlv] at hany;have hlen2:(Kd ps k).length=k:=by simp[Kd]
   have hsum:semSum [.ref b] K=ξ (.int (bg ps k).sum,K):=by simp only[semSum,Aj hb,aA,toI_ints,aF]
   have ap:=G7 (.int (bg ps k).sum) ht (by rw[aN,hlen2];omega);have hm:(Kd ps k).map U.int++[.int (bg ps k).sum]=(Kd ps (k+1)).map U.int:=by rw[told_step];simp
   rw[hm] at ap;have ty:=Hx ht;have htl:=(aI.mp ht).1;have ab2:=ab.set ZcG;have hb2:(K.set M.length ZcG)[b]? = ξ Zdg:=by rw[bF (fN hbn)];exact hb
   obtain ⟨r,K2,e2,hr,g2,hge⟩:=Aba ab2 hb2 hn (ξ Zf) (ξ (.ref M.length));have s:=F7 (i:=2) e2;simp only[bR,bJ] at s;rw[mK] at hge;have d1:(Ka (Ht "list" C9 (Ad 3) (Ac (Au semSum ZA) Af))) Zan K=ξ (.nx Zan,K.set M.length ZcG):=by
    generalize (bg ps k).sum=sm at hsum ap;rw[Hc,fMeth_eq];simp only[fVar_eq,aV,aM,aY,aF,aA,ty,if_true,fCons_eq,fCall_eq,fNil_eq,hsum,ap]
   refine ⟨K,?_,[ξ Zf,ξ (.ref A),ξ (.ref r),ξ (.ref M.length)],K2,?_,r,rfl,ab2.gw g2,hr,Ze,g2.get (bI htl),(gK.set (aP _) _).trans g2,Ze⟩
   ·unfold C6;simp only[fTru_eq,fCall_eq,fCons_eq,fVar_eq,fNil_eq,aV,aM,aY,aF,aA,hany,Wu]
   ·unfold E4;rw[Al d1,s])
  (fun δ K ⟨b,hδ,ab,hb,hbn,ht,gK,_⟩=>by
   subst hδ;have hany:=Ajd hb;unfold Gv at h1;rw[h1] at hany;refine ⟨K,?_,b,rfl,ht,gK⟩;unfold C6;simp only[fTru_eq,fCall_eq,fCons_eq,fVar_eq,fNil_eq,aV,aM,aY,aF,aA,hany,Wu])
  T 0 100000 [ξ Zf,ξ (.ref A),ξ (.ref b0),ξ (.ref M.length)] (M++[.lst []]) Ze Ze ⟨b0,rfl,ab0,(Gw.new M _).get hb0,Ze,by simp[Kd],Gw.new _ _,Ze⟩
 obtain ⟨b,hδ,ht,gK⟩:=P;rw[hδ] at e;have t2:semTuple [.ref M.length] L'=ξ (.tup ZcW,L'):=by simp only[semTuple,Aj ht,aF]
 refine ⟨T,L',?_,hT,h1,h2,(g1.trans gM).trans gK⟩;generalize (Kd ps T).map U.int=tt at t2;unfold Dg fnU Ja;simp only[aO,aX,if_true,aS,bP,bL,cS,cZ];rw[Al s1,Al s2,Al s3,Al e,fRet_eq,fCall_eq,fCons_eq];simp only[fVar_eq,fNil_eq,aV,aM,aY,aF,aA,t2]
noncomputable def Ab1(ps:List P3)(i j:Nat):Bool:=below (ptAt ps i).2 (ptAt ps j).2
noncomputable def sm(l:List Nat)(f:Nat->Int):Int:=(l.map f).sum
theorem Xi{l:List Nat}{f g:Nat->Int}(h:∀ x∈l,f x=g x):sm l f=sm l g:=by
 unfold sm;rw[cM h]
theorem sm_cons(a:Nat)(l:List Nat)(f:Nat->Int):sm (a::l) f=f a+sm l f:=by simp[sm]
theorem Pg(p:Nat->Bool)(f:Nat->Int):∀ l:List Nat,sm (l.filter p) f=sm l fun j=>if p j then f j else 0
 | []=>rfl
 | a::l=>by
  have ih:=Pg p f l;cases hp:p a with
  | true=>rw[dP hp,sm_cons,sm_cons,ih];simp[hp]
  | false=>rw[eI (by simp[hp]),sm_cons,ih];simp[hp]
theorem Wk:∀ l:List Nat,sm l (fun _=>0)=0
 | []=>rfl
 | a::l=>by rw[sm_cons,Wk l];rfl
theorem Af6{f:Nat->Int}:∀ {l:List Nat},(∀ x∈l,0<=f x)->0<=sm l f
 | [],_=>mF _
 | a::l,h=>by
  have h1:=h a (aQ ..);have h2:=Af6 (f:=f) (l:=l) fun x hx=>h x (aK _ hx)
  rw[sm_cons];omega
noncomputable def bgf(ps:List P3)(t i:Nat):Int:=(bg ps t).getD i 0
theorem Xa(h:i < ps.length):bgf ps 0 i=1:=by simp[bgf,bg,aC,h]
theorem R6(h:i < ps.length):bgf ps (t+1) i=sm Zbt fun j=>if Ab1 ps i j then bgf ps t j else 0:=by
 unfold bgf;rw[Anm h,<- Pg];rfl
theorem Ano(ps:List P3)(t:Nat):(bg ps t).sum=sm Zbt (bgf ps t):=by
 unfold sm
 congr 1
 apply iZ
 ·simp[Tp]
 ·intro i h1 h2;simp[bgf,aC,h1]
theorem Tr(ps:List P3):∀ t i,i < ps.length->0<=bgf ps t i
 | 0,i,h=>by rw[Xa h];decide
 | t+1,i,h=>by
  rw[R6 h];exact Af6 fun x hx=>by
   split
   ·exact Tr ps t x (bE.mp hx)
   ·exact mF _
theorem Ab8:∀ l:List Int,(∀ x∈l,0<=x)->(∃ x∈l,x≠0)->0 < l.sum
 | [],_,h=>by obtain ⟨x,hx,_⟩:=h;cases hx
 | a::l,hn,h=>by
  have ha:=hn a (aQ ..);have hl:0<=l.sum:=by
   have:∀ m:List Int,(∀ x∈m,0<=x)->0<=m.sum:=fun m=>by
    induction m with
    | nil=>intro _;exact mF _
    | cons b m ih=>
     intro h;rw[kC];have h1:=h b (aQ ..);have h2:=ih fun x hx=>h x (aK _ hx)
     omega
   exact this l fun x hx=>hn x (aK _ hx)
  rw[kC];obtain ⟨x,hx,h0⟩:=h;rcases bG.mp hx with rfl | hx
  ·omega
  ·have:=Ab8 l (fun x hx=>hn x (aK _ hx)) ⟨x,hx,h0⟩;omega
theorem Aqa{x:Int}(h:x∈bg ps t):∃ i,i < ps.length/\x=bgf ps t i:=by
 obtain ⟨i,hi,rfl⟩:=dS h;have hi':i < ps.length:=by rw[Tp] at hi;exact hi
 exact ⟨i,hi',by simp[bgf,aC,hi]⟩
theorem X1(h:Gv ps t=true):0 < (bg ps t).sum:=by
 obtain ⟨x,hx,h0⟩:=lQ.mp h;refine Ab8 _ (fun y hy=>?_) ⟨x,hx,by simpa using h0⟩;obtain ⟨i,hi,rfl⟩:=Aqa hy;exact Tr ps t i hi
theorem Aca(h:Gv ps t=false):∀ i,i < ps.length->bgf ps t i=0:=fun i hi=>by
 have:=oA.mp h (bgf ps t i) (by
  unfold bgf;rw[aC,aE (by rw[Tp];exact hi)];exact cW ..)
 simpa using this
variable {T:Nat}
theorem Acv(h:Gv ps T=false):∀ d i,i < ps.length->bgf ps (T+d) i=0
 | 0,i,hi=>Aca h i hi
 | d+1,i,hi=>by
  rw[show T+(d+1)=T+d+1 from rfl,R6 hi];exact (Xi (g:=fun _=>0) fun j hj=>by rw[Acv h d j (bE.mp hj)];simp).trans (Wk _)
theorem Ai7(h:Gv ps T=false)(ht:T<=t):(bg ps t).sum=0:=by
 rw[Ano,<- Wk Zbt];refine Xi fun i hi=>?_
 have:=Acv h (t - T) i (bE.mp hi);rwa [show T+(t - T)=t by omega] at this
theorem Aqw(h1:Ab1 ps i j=true)(h2:Ab1 ps j k=true):Ab1 ps i k=true:=Rx h1 h2
theorem Ahi(ps:List P3)(i:Nat):Ab1 ps i i=false:=Ri _
theorem Ab7(h:j < ps.length)(L:UH):Am Zf (.int (j:Int)) L=ξ (p3U (ptAt ps j),L):=by
 rw[Pc,Kv Ze (by rw[aN];omega),cK,bA,aE h];simp[ptAt,aC,h]
theorem Ahp(kvs:List (Key×U))(k k':Key)(v:U):Ji (Ui kvs k v) k'=if k'=k then ξ v else Ji kvs k':=by
 unfold Ui;by_cases ha:(kvs.any fun kv=>decide (kv.1=k))=true
 ·rw[if_pos ha];induction kvs with
  | nil=>simp at ha
  | cons kv kvs ih=>
   by_cases h1:kv.1=k
   ·by_cases h2:k'=k
    ·subst h2;simp[Ji,h1]
    ·have hn:¬ k=k':=fun e=>h2 e.symm
     rw[if_neg h2];by_cases hr:(kvs.any fun kv=>decide (kv.1=k))=true
     ·have:=ih hr;rw[if_neg h2] at this;unfold Ji at this ⊢;rw[aS,if_pos h1,dM,dM];simp only[h1,hn,decide_false];exact this
     ·have hm:kvs.map ZbM=kvs:=by
       conv=>rhs;rw[<- vJ kvs]
       refine cM fun a hx=>?_
       have:¬ a.1=k:=fun e=>hr (lQ.mpr ⟨a,hx,by simpa using e⟩)
       rw[if_neg this];rfl
      unfold Ji;rw[aS,if_pos h1,hm,dM,dM];simp only[h1,hn,decide_false]
   ·have hr:(kvs.any fun kv=>decide (kv.1=k))=true:=by
     rw[iD] at ha;simpa[h1] using ha
    have:=ih hr;unfold Ji at this ⊢;rw[aS,if_neg h1,dM,dM];by_cases h3:kv.1=k'
    ·have h2:¬ k'=k:=fun e=>h1 (h3.trans e)
     simp only[h3,decide_true,aF,if_neg h2]
    ·simp only[h3,decide_false];exact this
 ·rw[if_neg ha];unfold Ji;rw[List.find?_append];by_cases h2:k'=k
  ·subst h2;have:kvs.find? (fun kv=>decide (kv.1=k'))=ψ:=by
    rw[List.find?_eq_none];intro x hx;simp only[decide_eq_true_eq];exact fun e=>ha (lQ.mpr ⟨x,hx,by simpa using e⟩)
   rw[this,if_pos rfl];simp
  ·have hn:¬ k=k':=fun e=>h2 e.symm
   rw[if_neg h2];cases kvs.find? (fun kv=>decide (kv.1=k')) <;> simp[hn]
theorem Ai4(kvs:List (Key×U))(k:Key)(v:U):(Ui kvs k v).length<=kvs.length+1:=by
 unfold Ui;split <;> simp
noncomputable def abl(ps:List P3)(e:Nat):List Nat:=(bB ps.length).filter (Ab1 ps e)
noncomputable def ixI(l:List Nat):List Int:=l.map fun (j:Nat)=>(j:Int)
noncomputable def wS(w:Nat->Int)(c:List Nat):Int:=(c.map w).sum
noncomputable def kl(w:Nat->Int)(a b:List Nat):Bool:=if -(wS w a) = -(wS w b) then ltT (ixI a) (ixI b) else decide (-(wS w a) < -(wS w b))
theorem Wh(w:Nat->Int)(i:Nat)(c:List Nat):wS w (i::c)=w i+wS w c:=by simp[wS]
theorem Ajm(w:Nat->Int)(i:Nat)(a b:List Nat):kl w (i::a) (i::b)=kl w a b:=by
 unfold kl;rw[Wh,Wh];have h1:ltT (ixI (i::a)) (ixI (i::b))=ltT (ixI a) (ixI b):=by simp[ixI,ltT]
 rw[h1];by_cases h:-(wS w a) = -(wS w b)
 ·rw[if_pos h,if_pos Ze]
 ·rw[if_neg h,if_neg Ze]
  congr 1
  rw[eq_iff_iff];omega
variable {w:Nat->Int}
theorem Akt{a b:List Nat}(h:kl w a b=true):kl w b a=false:=by
 unfold kl at h ⊢;by_cases e:-(wS w a) = -(wS w b)
 ·rw[if_pos e] at h;rw[if_pos e.symm];exact Jf _ _ h
 ·rw[if_neg e] at h;rw[if_neg (fun z=>e z.symm)];simp only[decide_eq_true_eq,decide_eq_false_iff_not] at h ⊢;omega
variable {c:List Nat}
theorem Aad{a b:List Nat}(h1:kl w a b=false)(h2:kl w b c=false):kl w a c=false:=by
 unfold kl at h1 h2 ⊢;by_cases e1:-(wS w a) = -(wS w b)
 ·rw[if_pos e1] at h1;by_cases e2:-(wS w b) = -(wS w c)
  ·rw[if_pos e2] at h2;rw[if_pos (e1.trans e2)];exact Q9 _ _ _ h2 h1
  ·rw[if_neg e2] at h2;rw[if_neg Ze];simp only[decide_eq_false_iff_not] at h2 ⊢;omega
 ·rw[if_neg e1] at h1;simp only[decide_eq_false_iff_not] at h1;by_cases e2:-(wS w b) = -(wS w c)
  ·rw[if_neg Ze];simp only[decide_eq_false_iff_not];omega
  ·rw[if_neg e2] at h2;simp only[decide_eq_false_iff_not] at h2;rw[if_neg Ze];simp only[decide_eq_false_iff_not];omega
noncomputable def Bst(P:List Nat->Prop)(w:Nat->Int)(c:List Nat):Prop:=P c/\∀ d,P d->kl w d c=false
noncomputable def IsC(ps:List P3):List Nat->Prop
 | []=>False
 | [i]=>i < ps.length
 | i::j::r=>i < ps.length/\Ab1 ps i j=true/\IsC ps (j::r)
noncomputable def Wx(ps:List P3)(i:Nat)(c:List Nat):Prop:=IsC ps c/\c.head? = ξ i
theorem IsC.head(h:IsC ps (i::c)):i < ps.length:=by
 cases c with
 | nil=>exact h
 | cons j r=>exact h.1
theorem IsC.ex(h:IsC ps c):∃ i r,c=i::r:=by
 cases c with
 | nil=>exact h.elim
 | cons i r=>exact ⟨i,r,rfl⟩
theorem Ag2{b:Nat->List Nat}{r:List Nat}(hi:i < ps.length)(hb:∀ j∈abl ps i,Bst (Wx ps j) w (b j))(hr:r=[]\/∃ j∈abl ps i,r=b j)(h0:kl w [] r=false)(h1:∀ j∈abl ps i,kl w (b j) r=false) :
  Bst (Wx ps i) w (i::r):=by
 refine ⟨⟨?_,rfl⟩,fun d hd=>?_⟩
 ·rcases hr with rfl | ⟨j,hj,rfl⟩
  ·exact hi
  ·obtain ⟨⟨hc,hh⟩,_⟩:=hb j hj;obtain ⟨k,t,e⟩:=hc.ex;rw[e] at hc hh ⊢;cases hh;exact ⟨hi,(eN.mp hj).2,hc⟩
 ·obtain ⟨hc,hh⟩:=hd;obtain ⟨k,t,e⟩:=hc.ex;rw[e] at hc hh ⊢;cases hh;rw[Ajm];cases t with
  | nil=>exact h0
  | cons j t=>
   have hj:j∈abl ps i:=eN.mpr ⟨bE.mpr hc.2.2.head,hc.2.1⟩;exact Aad ((hb j hj).2 _ ⟨hc.2.2,rfl⟩) (h1 j hj)
theorem Ajf{b:Nat->List Nat}(hk:k < ps.length)(hb:∀ i,i < ps.length->Bst (Wx ps i) w (b i))(h:∀ i,i < ps.length->kl w (b i) (b k)=false):Bst (IsC ps) w (b k):=by
 refine ⟨(hb k hk).1.1,fun d hd=>?_⟩;obtain ⟨i,t,e⟩:=hd.ex;have hi:i < ps.length:=by rw[e] at hd;exact hd.head
 exact Aad ((hb i hi).2 d ⟨hd,by rw[e];rfl⟩) (h i hi)
theorem Yp{bt:Nat->Nat->Bool}(asy:∀ i j,bt i j=true->bt j i=false)(ntr:∀ i j k,bt i j=false->bt j k=false->bt i k=false):∀ (m j:Nat),j<=m->bt j (Ce bt m)=false
 | 0,j,h=>by
  have:j=0:=Ze
  subst this;show bt 0 0=false;cases e:bt 0 0 with
  | false=>rfl
  | true=>rw[<- e];exact asy _ _ e
 | m+1,j,h=>by
  unfold Ce;have ih:=Yp asy ntr m;split
  ·rename_i hb;by_cases hj:j=m+1
   ·subst hj;cases e:bt (m+1) (m+1) with
    | false=>rfl
    | true=>rw[<- e];exact asy _ _ e
   ·exact ntr _ _ _ (ih j Ze) (asy _ _ hb)
  ·rename_i hb;by_cases hj:j=m+1
   ·subst hj;simpa using hb
   ·exact ih j Ze
theorem Aod(l:List Nat):mapO toI (ixU l)=ξ (ixI l):=by
 induction l with
 | nil=>rfl
 | cons a l ih=>
  unfold ixU ixI at ih ⊢;simp only[aS,mapO,toI,ih,aA,aF]
theorem Aon{β:Type}(cs:List β)(key:β->U)(lt:β->β->Bool)(hne:cs≠[])(hlt:∀ a∈cs,∀ b∈cs,ltU (key a) (key b)=ξ (lt a b))(asy:∀ a b,lt a b=true->lt b a=false)(ntr:∀ a b c,lt a b=false->lt b c=false->lt a c=false) :
  Abx ZdH=true/\∃ c,cs[Kx ZdH]? = ξ c/\∀ d∈cs,lt d c=false:=by
 have hpos:0 < cs.length:=fH.mpr hne;refine ⟨?_,?_⟩
 ·unfold Abx;rw[bT];intro x hx;obtain ⟨a,ha,rfl⟩:=cJ.mp hx;rw[bT];intro y hy;obtain ⟨b,hb,rfl⟩:=cJ.mp hy;rw[hlt a ha b hb];rfl
 ·have hle:=Pp (fun i j=>(ltU Zdy Zdz).getD false) ((cs.map key).length - 1);have hmi:Kx ZdH < cs.length:=by
   unfold Kx;rw[aN] at hle ⊢;omega
  refine ⟨cs[Kx ZdH],aE hmi,fun d hd=>?_⟩
  let at_:Nat->β:=fun i=>cs.getD i cs[0]
  have hat:∀ i,at_ i∈cs:=fun i=>by
   show cs.getD i cs[0]∈cs;rw[aC];by_cases h:i < cs.length
   ·rw[aE h];exact cW h
   ·rw[cH Ze];exact cW hpos
  have hbt:∀ i j,i < cs.length->j < cs.length->(ltU Zdy Zdz).getD false=lt (at_ i) (at_ j):=fun i j hi hj=>by
   have e:∀ i,i < cs.length->(cs.map key).getD i .non=key (at_ i):=fun i hi=>by
    show _=key (cs.getD i cs[0]);rw[aC,bA,aE hi,aC,aE hi];rfl
   rw[e i hi,e j hj,hlt _ (hat i) _ (hat j)];rfl
  have hcong:∀ m,m < cs.length->Ce (fun i j=>(ltU Zdy Zdz).getD false) m=Ce Za3 m:=by
   intro m;induction m with
   | zero=>intro _;rfl
   | succ m ih=>
    intro hm;unfold Ce;rw[ih Ze];have hb:=Pp Za3 m;rw[hbt (m+1) _ hm Ze]
  obtain ⟨k,hk,rfl⟩:=dS hd;have hmin:=Yp (bt:=fun i j=>lt (at_ i) (at_ j)) (fun i j h=>asy _ _ h) (fun i j k h1 h2=>ntr _ _ _ h1 h2) (cs.length - 1) k Ze;have e1:at_ k=cs[k]:=by show cs.getD k cs[0]=_;rw[aC,aE hk];rfl
  have e2:at_ (Ce Za3 (cs.length - 1))=cs[Kx ZdH]:=by
   have:Kx ZdH=Ce Za3 (cs.length - 1):=by
    unfold Kx;rw[aN];exact hcong _ Ze
   show cs.getD _ cs[0]=_;rw[aC];have hlt2:Ce Za3 (cs.length - 1) < cs.length:=by rw[<- this];exact hmi
   rw[aE hlt2];simp only[gG]
   congr 1
   exact this.symm
  rw[e1,e2] at hmin;exact hmin
noncomputable def pU(w:Nat->Int)(c:List Nat):U:=.tup [.int (wS w c),.tup (ixU c)]
noncomputable def kU(w:Nat->Int)(c:List Nat):U:=.tup [.int (-(wS w c)),.tup (ixU c)]
theorem Aq2(w:Nat->Int)(a b:List Nat):ltU (kU w a) (kU w b)=ξ (kl w a b):=by
 unfold kU ltU kl;simp only[Aod,aA,aF]
theorem Aq8(w:Nat->Int)(c:List Nat)(δ:UE)(L:UH):Mh [ψ] B3 δ L (pU w c)=ξ (kU w c):=by
 have sm2:∀ x y:U,small [x,y].length=true:=fun _ _=>small_of (by show 2<=16777216;decide)
 refine Abz ?_;have i0:Am (pU w c) (.int 0) L=ξ (.int (wS w c),L):=rfl;have i1:Am (pU w c) (.int 1) L=ξ (.tup (ixU c),L):=rfl;have hd:Xc [ψ] (pU w c) δ = [ξ (pU w c)]:=rfl;rw[hd];unfold B3;generalize pU w c=u at i0 i1;simp only[fTup_eq,fCons_eq,V6,f2_eq,fVar_eq,fC_eq,fNil_eq,aM,aY,aF,aA,i0,i1];rw[if_pos (sm2 _ _)];rfl
theorem W9{β γ δ:Type}{f:γ->Option δ}{g:β->γ}{h:β->δ}(e:∀ b,f (g b)=ξ (h b)):∀ l:List β,mapO f (l.map g)=ξ (l.map h)
 | []=>rfl
 | b::l=>by simp only[aS,mapO,e,W9 e l,aA,aF]
theorem Amq{cs:List (List Nat)}(h:L[n]? = ξ (.lst (cs.map (pU w))))(hne:cs≠[]):∃ c,c∈cs/\C8 [.ref n] L=ξ (pU w c,L)/\∀ d∈cs,kl w d c=false:=by
 obtain ⟨hall,c,hc,hmin⟩:=Aon cs (kU w) (kl w) hne (fun a _ b _=>Aq2 w a b) (fun a b h=>Akt h) (fun a b c h1 h2=>Aad h1 h2);refine ⟨c,cI hc,?_,hmin⟩;have hs:=Aj h;have hk:=W9 (f:=Mh [ψ] B3 [ξ (.ref n)] L) (g:=pU w) (h:=kU w) (fun c=>Aq8 w c _ L) cs;have hg:(cs.map (pU w)).getD (Kx (cs.map (kU w))) .non=pU w c:=by
  rw[aC,bA,hc];rfl
 have hpos:0 < (cs.map (pU w)).length:=by rw[aN];exact fH.mpr hne
 have e:(N9 [ψ] B3 (Ad 0)) [ξ (.ref n)] L=ξ (pU w c,L):=by
  unfold N9;simp only[fVar_eq,aM,aY,aF,aA,hs,hk];rw[if_pos ⟨hpos,hall⟩,hg]
 unfold C8 fnU Jh;simp only[aO,aX,if_true,aS,bP,dC,dA,bO,fRet_eq,e,aF,aA]
theorem Ye{lt:Nat->Nat->Bool}(W:SO.Wo lt)(n:Nat):(SO.Cc lt n).Pairwise (SO.Le lt):=by
 unfold SO.Cc;split
 ·rename_i h;match n,h with
  | 0,_=>exact .nil
  | 1,_=>simp[kG]
 ·rename_i h;obtain ⟨hp,hu⟩:=(SO.Nu (n:=n) W Ze).holds;refine fX.mpr fun i j hi hj hij=>?_
  have h:=hu i j Ze (by rw[<- hp.size];simpa using hj);unfold SO.at0 at h;rw[dZ,dZ] at h;simp only[cY] at hi hj;rw[iN hi,iN hj] at h;simpa using h
noncomputable def kyI(p:Int×Int):List Int:=[p.1,p.2]
noncomputable def kys(ps:List P3):List (List Int):=(bB ps.length).map fun i=>kyI (ptAt ps i).2
noncomputable def O9(ps:List P3):List Nat:=SO.Cc (ltK (kys ps).reverse) ps.length
noncomputable def Dj(ps:List P3):List Nat:=((O9 ps).map fun i=>ps.length - 1 - i).reverse
theorem Ed(ps:List P3):(O9 ps).Perm Zbt:=SO.F3 (Ia _)
theorem Iq(ps:List P3):k∈Dj ps↔k < ps.length:=by
 unfold Dj;rw[List.mem_reverse,cJ];constructor
 ·rintro ⟨i,hi,rfl⟩;have:=bE.mp Zd2;omega
 ·intro hk;exact ⟨ps.length - 1 - k,(Ed ps).mem_iff.mpr (bE.mpr Ze),Ze⟩
theorem Rp(ps:List P3):(Dj ps).length=ps.length:=by
 unfold Dj;rw[cG,aN,(Ed ps).length_eq,dX]
theorem Aan(ps:List P3):(Dj ps).Nodup:=by
 unfold Dj;rw[iL,List.pairwise_reverse];have hnd:(O9 ps).Nodup:=(Ed ps).nodup_iff.mpr pK;have hlt:∀ i∈O9 ps,i < ps.length:=fun i hi=>bE.mp Zd2
 rw[eW];rw[iL] at hnd;refine oW (fun {a b} ha hb hab=>?_) hnd;have:=hlt a ha;have:=hlt b hb;omega
theorem Ai6(h:Ab1 ps i j=true):ltT (kyI (ptAt ps i).2) (kyI (ptAt ps j).2)=true:=by
 unfold Ab1 below at h;simp only[oV,bZ,oH,lL,beq_eq_false_iff_ne,decide_eq_true_eq] at h;obtain ⟨h1,h2,h3⟩:=h;unfold kyI ltT;by_cases e:(ptAt ps i).2.1=(ptAt ps j).2.1
 ·rw[if_pos (by simpa using e)];unfold ltT;have e2:(ptAt ps i).2.2≠(ptAt ps j).2.2:=by rcases h3 with q | q;exact absurd e q;exact q
  rw[if_neg (by simpa using e2)];exact decide_eq_true Ze
 ·rw[if_neg (by simpa using e)];exact decide_eq_true Ze
theorem Abo(h:i < ps.length):(kys ps).reverse.getD i []=kyI (ptAt ps (ps.length - 1 - i)).2:=by
 have hl:(kys ps).length=ps.length:=by simp[kys]
 rw[aC,gE Ze,hl];simp[kys,show ps.length - 1 - i < ps.length by omega]
theorem Aa5{p:Nat}(hk:(Dj ps)[p]? = ξ k)(hj:j < ps.length)(hb:Ab1 ps k j=true):j∈(Dj ps).take p:=by
 have hkn:k < ps.length:=(Iq ps).mp (cI hk);obtain ⟨q,hq,hqe⟩:=dS ((Iq ps).mpr hj);have hp:=(aI.mp hk).1;have hpe:(Dj ps)[p]=k:=by rw[aE hp] at hk;exact bQ hk
 by_cases hqp:q < p
 ·rw[<- hqe];rw[List.mem_take_iff_getElem];exact ⟨q,Ze,rfl⟩
 ·exfalso;have hne:q≠p:=fun e=>by
   subst e;rw[hqe] at hpe;rw[hpe,Ahi] at hb;cases hb
  have hpw:=Ye (Ia (kys ps).reverse) ps.length;have hl:=Rp ps;have hrl:(O9 ps).length=ps.length:=by rw[(Ed ps).length_eq,dX]
  have hR:∀ t (ht:t < (Dj ps).length),∃ (h2:ps.length - 1 - t < (O9 ps).length),(Dj ps)[t]=ps.length - 1 - (O9 ps)[ps.length - 1 - t]:=fun t ht=>by
   have h2:ps.length - 1 - t < (O9 ps).length:=Ze
   refine ⟨h2,?_⟩;have e:(Dj ps)[t]? = ξ (ps.length - 1 - (O9 ps)[ps.length - 1 - t]):=by
    unfold Dj;rw[gE (by rw[aN];omega),bA,aN,hrl,aE h2];rfl
   rw[aE ht] at e;exact bQ e
  obtain ⟨a1,a2⟩:=hR q hq;obtain ⟨b1,b2⟩:=hR p hp;have hle:=fX.mp hpw (ps.length - 1 - q) (ps.length - 1 - p) a1 b1 Ze;have la:(O9 ps)[ps.length - 1 - q] < ps.length:=bE.mp ((Ed ps).mem_iff.mp (cW a1));have lb:(O9 ps)[ps.length - 1 - p] < ps.length:=bE.mp ((Ed ps).mem_iff.mp (cW b1));have hle2:ltK (kys ps).reverse (O9 ps)[ps.length - 1 - p] (O9 ps)[ps.length - 1 - q]=false:=hle;unfold ltK at hle2;rw[Abo la,Abo lb,<- a2,<- b2,hqe,hpe,Ai6 hb] at hle2;cases hle2
theorem Aiy(n:Nat):Bh 0 n=ixU (bB n):=by
 unfold Bh ixU;exact cM fun i _=>by rw[Int.zero_add]
theorem Adz(h:i < ps.length)(δ:UE)(L:UH)(hd:δ[0]? = ξ (ξ Zf)):(Mh [ψ,ξ 0] A7 δ L Zah).bind Nj=ξ (kyI (ptAt ps i).2):=by
 have e:Mh [ψ,ξ 0] A7 δ L Zah=ξ (pr (ptAt ps i).2):=by
  refine Abz ?_;have hδ:Xc [ψ,ξ 0] Zah δ = [ξ Zah,ξ Zf]:=by
   unfold Xc Ea;simp[hd]
  rw[hδ];have i1:(f2 Am (Ad 1) (Ad 0)) [ξ Zah,ξ Zf] L=ξ (p3U (ptAt ps i),L):=by
   rw[f2_eq];simp only[fVar_eq,aV,aM,aY,aF,aA,Ab7 h]
  unfold A7;rw[fOwn_eq,fCons_eq,i1];simp only[aA,fNil_eq,aF,aO,aX,if_true,Cz]
 rw[e];rfl
theorem Aa3(ps:List P3)(hn:ps.length<=60)(L:UH):Bt [.tup ZL] L=ξ (.ref L.length,L++[.lst Zb9]):=by
 have hlen:Bg [.tup ZL] L=ξ (.int ps.length,L):=by simp[Bg,lenU]
 have hk:mapO (fun u=>(Mh [ψ,ξ 0] A7 [ξ Zf] L u).bind Nj) (Bh 0 ps.length)=ξ (kys ps):=by
  rw[Aiy];unfold ixU kys;have:∀ l:List Nat,(∀ i∈l,i < ps.length)->mapO (fun u=>(Mh [ψ,ξ 0] A7 [ξ Zf] L u).bind Nj) (l.map fun (j:Nat)=>U.int (j:Int))=ξ (l.map fun i=>kyI (ptAt ps i).2):=by
   intro l;induction l with
   | nil=>intro _;rfl
   | cons a l ih=>
    intro h;simp only[aS,mapO];rw[Adz (h a (aQ ..)) _ L rfl,ih fun i hi=>h i (aK _ hi)];rfl
  exact this _ fun i hi=>bE.mp hi
 have hall:((kys ps).all fun t=>!t.isEmpty)=true:=by
  rw[bT];intro t ht;obtain ⟨i,_,rfl⟩:=cJ.mp ht;rfl
 have hres:((SO.Cc (ltK (kys ps).reverse) ps.length).map fun i=>(Bh 0 ps.length).reverse.getD i .non).reverse=ixU (Dj ps):=by
  unfold Dj ixU;rw[lR,bW]
  congr 1
  refine cM fun i hi=>?_
  have hin:i < ps.length:=bE.mp Zd2;have hl:(Bh 0 ps.length).length=ps.length:=by unfold Bh;rw[aN,dX]
  rw[aC,gE Ze,hl,Aiy];unfold ixU;rw[bA,dR Ze];rfl
 have e:(K6 [ψ,ξ 0] A7 (Ac (Au Bg Zl) Af)) [ξ Zf] L=ξ (.ref L.length,L++[.lst Zb9]):=by
  unfold K6;simp only[fCons_eq,fCall_eq,fVar_eq,fNil_eq,aM,aY,aF,aA,hlen,cK,hk];rw[if_pos ⟨⟨Ze,Ze⟩,hall⟩,hres]
 unfold Bt fnU Ep;simp only[aO,aX,if_true,aS,bP,dC,dA,bO,fRet_eq,e,aF,aA]
variable {K:UH}
theorem Cp{s:S2}{a b c:U}{J:UH}(ha:fa δ L=ξ (a,M))(hb:fb δ M=ξ (b,K))(h:s a b K=ξ (c,J)):(f2 s fa fb) δ L=ξ (c,J):=by
 rw[f2_eq,ha,aA,hb,aA,h]
theorem Ass{w:U}(h:fa δ L=ξ (u,M))(h2:fb δ M=ξ (w,K))(e:f [u,w] K=ξ (v,L')):(Ay 2 f ZdC) δ L=ξ (v,L'):=by
 rw[fOwn_eq,fCons_eq,h,aA,fCons_eq,h2,aA,fNil_eq,aF,aF];simp only[aA,aO,aX,if_true,e]
theorem Dw{s:SC}(h:fa δ L=ξ (u,M))(e:s [u] M=ξ (v,L')):(Au s (Ac fa Af)) δ L=ξ (v,L'):=by
 rw[fCall_eq,fCons_eq,h,aA,fNil_eq,aF,aA,e]
theorem Ahz(h:fa δ L=ξ (u,M))(h2:fb δ M=ξ (v,K)):(C0 ZdC) δ L=ξ (.tup [u,v],K):=by
 rw[fTup_eq,fCons_eq,h,aA,fCons_eq,h2,aA,fNil_eq,aF,aF,aA,if_pos (small_of (by show 2<=16777216;decide))]
theorem Ahu{fc:FE}{w:U}{J:UH}(h:fa δ L=ξ (u,M))(h2:fb δ M=ξ (v,K))(h3:fc δ K=ξ (w,J)):(C0 (Ac fa (Ac fb (Ac fc Af)))) δ L=ξ (.tup [u,v,w],J):=by
 rw[fTup_eq,fCons_eq,h,aA,fCons_eq,h2,aA,fCons_eq,h3,aA,fNil_eq,aF,aF,aF,aA,if_pos (small_of (by show 3<=16777216;decide))]
theorem As0(h:fa δ L=ξ (u,M)):(C0 (Ac fa Af)) δ L=ξ (.tup [u],M):=by
 rw[fTup_eq,fCons_eq,h,aA,fNil_eq,aF,aA,if_pos ZaT]
theorem As9(δ:UE)(L:UH):(C0 Af) δ L=ξ (.tup [],L):=by
 rw[fTup_eq,fNil_eq,aA,if_pos (small_of (by show 0<=16777216;decide))]
theorem Aqo(h:fa δ L=ξ (u,M)):(El (Ac fa Af)) δ L=ξ (.ref M.length,M++[.lst [u]]):=by
 rw[fLst_eq,fCons_eq,h,aA,fNil_eq,aF,aA,if_pos ZaT]
theorem Aka{a:Nat}{x y:List U}(ha:L[a]? = ξ (.lst x))(hb:L[b]? = ξ (.lst y))(hl:x.length+y.length<=16777216):Be (.ref a) (.ref b) L=ξ (.ref L.length,L++[.lst (x++y)]):=by
 unfold Be;simp only[Dh ha,Dh hb,aA];rw[if_pos (small_of hl)]
theorem Aj0{a b:List U}(L:UH)(ha:a≠[])(hl:a.length+b.length<=16777216):Be (.tup a) (.tup b) L=ξ (.tup (a++b),L):=by
 show (if a.isEmpty=false/\small Zct=true then ξ (U.tup (a++b),L) else ψ)=_;rw[if_pos ⟨by cases a with | nil=>exact absurd rfl ha | cons _ _=>rfl,small_of hl⟩]
variable {E:Nat}
theorem Anl{fo fi:FE}{kvs:List (Key×U)}{k:Key}(hv:fo δ M=ξ (.ref E,M))(hw:fi δ M=ξ (u,M))(hk:toK u=ξ k)(hE:M[E]? = ξ (.dic kvs))(h:Ji kvs k=ξ v):Xg fo fi δ M=ξ (v,M):=by
 have hd:Ir M E=ξ kvs:=by unfold Ir;rw[hE]
 unfold Xg;simp only[hv,aA,hw,hk,hd,h,aF]
theorem Am5{fo fi fv:FE}{kvs:List (Key×U)}{k:Key}(hv:fv δ L=ξ (v,M))(ho:fo δ M=ξ (.ref E,M))(hi:fi δ M=ξ (u,M))(hk:toK u=ξ k)(hE:M[E]? = ξ (.dic kvs))(hl:kvs.length < 1000000):Yt fo fi fv δ L=ξ (.nx δ,M.set E (.dic (Ui kvs k v))):=by
 have hd:Ir M E=ξ kvs:=by unfold Ir;rw[hE]
 unfold Yt;simp only[hv,aA,ho,hi,hk,hd];rw[if_pos hl]
noncomputable def dK(F:List Nat)(g:Nat->U):List (Key×U):=F.map fun (i:Nat)=>((lV (i:Int):Key),g i)
variable {F:List Nat}
theorem Aoo{g:Nat->U}(h:j∈F):Ji (dK F g) (.inl (j:Int))=ξ (g j):=by
 unfold Ji dK;induction F with
 | nil=>cases h
 | cons a F ih=>
  rw[aS,dM];by_cases e:a=j
  ·subst e;simp
  ·have hn:¬ (lV (a:Int):Key) = .inl (j:Int):=fun q=>e (by injection q with q;omega)
   simp only[hn,decide_false];exact ih (by rcases bG.mp h with z | z;exact absurd z.symm e;exact z)
theorem Aph{g:Nat->U}(h:k∉F):Ui (dK F g) (.inl (k:Int)) v=dK (F++[k]) (fun j=>if j=k then v else g j):=by
 have ha:((dK F g).any fun kv=>decide (kv.1 = .inl (k:Int)))=false:=by
  rw[oA];intro x hx;obtain ⟨i,hi,rfl⟩:=cJ.mp hx;simp only[decide_eq_true_eq];intro q;injection q with q
  exact h (by rw[show k=i by omega];exact hi)
 unfold Ui;rw[if_neg (by rw[ha];simp)];unfold dK;rw[cP]
 congr 1
 ·refine cM fun i hi=>?_
  have hik:i≠k:=fun e=>h (by rw[<- e];exact hi)
  show ((lV (i:Int):Key),g i)=(lV (i:Int),if i=k then v else g i);rw[if_neg hik]
 ·simp
theorem Afw{g g':Nat->U}(h:∀ i∈F,g i=g' i):dK F g=dK F g':=cM fun i hi=>by rw[h i hi]
structure Wt(M:UH)(W:Nat)(ps:List P3)(w:Nat->Int):Prop where
 ex:∃ kvs,M[W]? = ξ (.dic kvs)/\∀ i,i < ps.length->Ji kvs (.inr (ptAt ps i).1)=ξ (.int (w i))
variable {W:Nat}
theorem Wt.gw(h:Wt M W ps w)(g:Gw M M'):Wt M' W ps w:=by
 obtain ⟨kvs,h1,h2⟩:=h;exact ⟨kvs,g.get h1,h2⟩
theorem Wt.set(h:Wt M W ps w)(hne:E≠W)(o:HU):Wt (M.set E o) W ps w:=by
 obtain ⟨kvs,h1,h2⟩:=h;exact ⟨kvs,by rw[bF hne];exact h1,h2⟩
theorem IsC.len(hF:∀ i∈F,i < ps.length):F.length=F.length:=rfl
theorem Aav{ps:List P3}{w:Nat->Int}{b:Nat->List Nat}{M:UH}{W E k:Nat}{F:List Nat}{x4 x5:Option U}(hn:ps.length<=60)(hk:k < ps.length)(hW:Wt M W ps w)(hE:M[E]? = ξ (.dic (dK F fun i=>pU w (b i))))(hF:∀ j,j < ps.length->Ab1 ps k j=true->j∈F)(hkF:k∉F)(hFl:F.length<=60)
  (hb:∀ i∈F,Bst (Wx ps i) w (b i)) (hbl:∀ i∈F,(b i).length<=1000) :
  ∃ (b':Nat->List Nat) (y4 y5:Option U) (M':UH),Dk Zac M=ξ (.nx [ξ Zf,ξ (.ref W),ξ (.ref E),ξ ZY,y4,y5],M'.set E (.dic (dK (F++[k]) fun i=>pU w (b' i))))/\Gw M M'/\(∀ i∈F,b' i=b i)/\Bst (Wx ps k) w (b' k):=by
 obtain ⟨r,L1,e1,h1,g1,_⟩:=Xz ps Ze (ptAt ps k) M;have hE1:=g1.get hE;have hi:(f2 Am (Ad 0) (Ad 3)) Zac M=ξ (p3U (ptAt ps k),M):=Cp rfl rfl (Ab7 hk M);have hi2:∀ N x4 x5,(f2 Am (Ad 0) (Ad 3)) Zac N=ξ (p3U (ptAt ps k),N):=fun N x4 x5=>Cp rfl rfl (Ab7 hk N)
 have ht:=Ass (fa:=Ad 0) (δ:=Zac) rfl hi e1;have hs:Ap L1 r=ξ ((abl ps k).map fun (j:Nat)=>U.int (j:Int)):=Aj h1;have hab:∀ j∈abl ps k,j∈F:=fun j hj=>hF j (bE.mp (eN.mp hj).1) (eN.mp hj).2
 have hal:(abl ps k).length<=60:=by
  have:=lK (Ab1 ps k) Zbt;rw[dX] at this;unfold abl;omega
 obtain ⟨x,ec⟩:=Br (ix:=[ψ,ξ 2]) (fi:=Bj (Ay 2 Dv (Ac (Ad 0) (Ac Zbn Af)))) (it:=.ref r) (g:=gN 0) (tt:=ψ) (fe:=Gk) (δ:=Zac) (L:=M) (L0:=L1)
  (abl ps k) ZbY ZN (fun j=>pU w (b j)) (fun δ=>∃ z,δ = [z,ξ (.ref E)]) (by rw[F8,ht];simp only[aA,Du hs,aF]) (by rw[Fe hs];simp) Ze ⟨ψ,rfl⟩
  (fun k x=>Jv (Cd hs))
  (fun j δ x hj ⟨z,hδ⟩=>by
   subst hδ;refine ⟨[ξ (.int (j:Int)),ξ (.ref E)],rfl,⟨_,rfl⟩,[],by simp[E9],fun _=>⟨[],?_⟩⟩;rw[bO,bO];exact Anl (u:=.int (j:Int)) rfl rfl rfl ((Gw.new L1 x).get hE1) (Aoo (hab j hj)))
 have hff:gR ZN (abl ps k)=abl ps k:=cR.mpr Zj;rw[hff] at ec;have s1:=F7 (i:=4) ec;simp only[bR,bJ] at s1;have g2:Gw M (L1++x++[HU.lst Zbi]):=(g1.trans (Gw.new _ x)).trans Z6;have hf:(L1++x++[HU.lst Zbi])[(L1++x).length]? = ξ (.lst Zbi):=Za
 generalize L1++x++[HU.lst Zbi]=L2 at s1 g2 hf;generalize (L1++x).length=rf at s1 hf;have hz:(C0 Zcz) [ξ Zf,ξ (.ref W),ξ (.ref E),ξ ZY,ξ (.ref rf),x5] L2=ξ (pU w [],L2):=Ahz rfl (As9 _ _);have hl1:=Aqo hz;have hq1:(L2++[HU.lst [pU w []]])[L2.length]? = ξ (.lst [pU w []]):=Za
 have hq2:=(Gw.new L2 [HU.lst [pU w []]]).get hf;have hadd:=Aka hq1 hq2 (by simp only[aO,aX,aN];omega);have hcs:[pU w []]++(abl ps k).map (fun j=>pU w (b j))=([]::(abl ps k).map b).map (pU w):=Za
 rw[hcs] at hadd;obtain ⟨rr,hrm,er,hrmin⟩:=Amq (L:=L2++[HU.lst [pU w []]]++[HU.lst Zco]) (n:=(L2++[HU.lst [pU w []]]).length) (w:=w) (cs:=[]::(abl ps k).map b) Za Za;have s2:=F7 (i:=5) (Ab5 (Cp (fb:=Ad 4) hl1 rfl hadd) er);simp only[bR,bJ] at s2;have g3:Gw M (L2++[HU.lst [pU w []]]++[HU.lst Zco]):=(g2.trans Z6).trans Z6;generalize L2++[HU.lst [pU w []]]++[HU.lst Zco]=L3 at s2 g3;have hrl:rr.length<=1000:=by
  rcases bG.mp hrm with rfl | h
  ·simp
  ·obtain ⟨j,hj,rfl⟩:=cJ.mp h;exact hbl j (hab j hj)
 obtain ⟨wk,hw1,hw2⟩:=hW.gw g3;have hnm:∀ N,(f2 Am Zbn Zn) Z7 N=ξ (.str (ptAt ps k).1,N):=fun N=>Cp (hi2 N _ _) rfl rfl
 have hwk:=Anl (fo:=Ad 1) (δ:=Z7) rfl (hnm L3) rfl hw1 (hw2 k hk);have hr0:(f2 Am (Ad 5) Zn) Z7 L3=ξ (.int (wS w rr),L3):=Cp rfl rfl rfl;have hr1:(f2 Am (Ad 5) Zh) Z7 L3=ξ (.tup (ixU rr),L3):=Cp rfl rfl rfl;have hv:=Ahz (Cp (s:=Be) hwk hr0 rfl) (Cp (s:=Be) (As0 (fa:=Ad 3) rfl) hr1 (Aj0 (a:=[.int (k:Int)]) (b:=ixU rr) L3 Za (by simp only[ixU,aO,aX,aN];omega)));have hvU:(.tup [.int (w k+wS w rr),.tup ([.int (k:Int)]++ixU rr)]:U)=pU w (k::rr):=by
  unfold pU;rw[Wh];rfl
 rw[hvU] at hv;have s3:=Am5 (fo:=Ad 2) (fi:=Ad 3) (u:=.int (k:Int)) hv rfl rfl rfl (g3.get hE) (by unfold dK;rw[aN];omega)
 rw[Aph hkF] at s3;refine ⟨fun j=>if j=k then k::rr else b j,ξ (.ref rf),ξ (pU w rr),L3,?_,g3,fun i hi=>if_neg (fun e=>hkF (by rw[<- e];exact hi)),?_⟩
 ·have hd:dK (F++[k]) (fun j=>if j=k then pU w (k::rr) else pU w (b j))=dK (F++[k]) fun i=>pU w (if i=k then k::rr else b i):=Afw fun i _=>by
   by_cases h:i=k
   ·rw[if_pos h,if_pos h]
   ·rw[if_neg h,if_neg h]
  rw[hd] at s3;unfold Dk;rw[Al s1,Al s2];exact s3
 ·show Bst (Wx ps k) w (if k=k then k::rr else b k);rw[if_pos rfl];refine Ag2 hk (fun j hj=>hb j (hab j hj)) ?_ (hrmin [] (aQ ..)) fun j hj=>hrmin _ (aK _ (jX hj))
  rcases bG.mp hrm with h | h
  ·exact .inl h
  ·obtain ⟨j,hj,rfl⟩:=cJ.mp h;exact .inr ⟨j,hj,rfl⟩
theorem Ws:∀ {c:List Nat},IsC ps c->c.length<=ps.length:=by
 have key:∀ (c:List Nat),IsC ps c->∀ i r,c=i::r->c.length<=(abl ps i).length+1:=by
  intro c;induction c with
  | nil=>intro h;exact h.elim
  | cons a c ih=>
   intro h i r e;cases e;cases c with
   | nil=>simp
   | cons j r=>
    have h2:=ih h.2.2 j r rfl;have h3:(abl ps j).length < (abl ps a).length:=Lv _ (fun x _ hx=>Aqw h.2.1 hx) ⟨j,bE.mpr h.2.2.head,h.2.1,Ahi ps j⟩;simp only[aO] at h2 ⊢;omega
 intro c h;obtain ⟨i,r,e⟩:=h.ex;have h1:=key c h i r e;have hi:i < ps.length:=by rw[e] at h;exact h.head
 have h2:(abl ps i).length < (bB ps.length).length:=by
  have:(bB ps.length).filter ZN=bB ps.length:=cR.mpr fun _ _=>rfl
  conv=>rhs;rw[<- this]
  exact Lv _ (fun _ _ _=>rfl) ⟨i,bE.mpr hi,rfl,Ahi ps i⟩
 rw[dX] at h2;omega
theorem Agm(hn:ps.length<=60)(hW:Wt L W ps w):∃ (b:Nat->List Nat) (r:Nat) (L':UH),Ef [.tup ZL,.ref W] L=ξ (.ref r,L')/\L'[r]? = ξ (.lst ZcK)/\(∀ i,i < ps.length->Bst (Wx ps i) w (b i))/\Gw L L':=by
 have hWl:W < L.length:=by
  obtain ⟨kvs,h,_⟩:=hW;exact (aI.mp h).1
 have s1:(Ba W5 (gN 2)) [ξ Zf,ξ (.ref W),ψ,ψ,ψ,ψ] L=ξ (.nx [ξ Zf,ξ (.ref W),ξ Zt,ψ,ψ,ψ],L++[.dic []]):=rfl;have hh:=Aa3 ps hn (L++[HU.dic []]);have hFl:=Rp ps;have gA:Gw L (L++[HU.dic []]++[HU.lst Zb9]):=(Gw.new L _).trans Z6;have hr:(L++[HU.dic []]++[HU.lst Zb9])[(L++[HU.dic []]).length]? = ξ (.lst Zb9):=Za
 have hE0:(L++[HU.dic []]++[HU.lst Zb9])[L.length]? = ξ (.dic (dK [] fun i=>pU w [])):=by simp[dK]
 have hre:(L++[HU.dic []]).length≠L.length:=Za
 generalize hM:L++[HU.dic []]++[HU.lst Zb9]=M at hh gA hr hE0;generalize (L++[HU.dic []]).length=r at hh hr hre;have hi:(Bj (Ay 1 Bt Zl)) [ξ Zf,ξ (.ref W),ξ Zt,ψ,ψ,ψ] (L++[HU.dic []])=ξ (.ref r,M):=by
  rw[F8,Fb (i:=0) rfl hh];simp only[aA,Du (Aj hr),aF]
 obtain ⟨δ',L',e,P⟩:=Ab0 (us:=ixU (Dj ps)) (n:=r) (body:=Dk) (g:=gN 3)
  (fun p δ' M'=>∃ (b:Nat->List Nat) (y3 y4 y5:Option U),δ'=[ξ Zf,ξ (.ref W),ξ Zt,y3,y4,y5]/\M'[L.length]? = ξ (.dic (dK ((Dj ps).take p) fun i=>pU w (b i)))/\(∀ i∈(Dj ps).take p,Bst (Wx ps i) w (b i))/\M'[r]? = ξ (.lst Zb9)/\Gw L M')
  hi ⟨fun _=>[],ψ,ψ,ψ,rfl,hE0,(fun i hi=>by cases hi),hr,gA⟩
  (fun k δ M ⟨_,_,_,_,_,_,_,h,_⟩=>Aj h)
  (fun p u δ M' hu ⟨b,y3,y4,y5,hδ,h1,h2,h3,h4⟩=>by
   subst hδ;unfold ixU at hu;rw[bA] at hu;obtain ⟨k,hk,rfl⟩:=aJ.mp hu;have hpl:=(aI.mp hk).1;have hkn:k < ps.length:=(Iq ps).mp (cI hk);have htake:(Dj ps).take (p+1)=(Dj ps).take p++[k]:=by rw[iR,hk];rfl
   have hkF:k∉(Dj ps).take p:=fun hm=>by
    obtain ⟨q,hq,hqe⟩:=List.mem_take_iff_getElem.mp hm;have hpe:(Dj ps)[p]=k:=by rw[aE hpl] at hk;exact bQ hk
    have:=(iL.mp (Aan ps));have h5:=fX.mp this q p Ze hpl Ze;exact h5 (by rw[hqe,hpe])
   obtain ⟨b',z4,z5,M2,e2,g2,q1,q2⟩:=Aav (x4:=y4) (x5:=y5) hn hkn (hW.gw h4) h1 (fun j hj hb=>Aa5 hk hj hb) hkF (by rw[eQ];omega) h2 (fun i hi=>by have:=Ws (h2 i hi).1.1;omega);have hEl:L.length < M2.length:=by
    have:=(aI.mp (g2.get h1)).1;exact this
   refine ⟨[ξ Zf,ξ (.ref W),ξ Zt,ξ ZY,y4,y5],M',rfl,_,_,.inl e2,b',_,_,_,rfl,by rw[htake];exact bI hEl,fun i hi=>?_,by rw[bF (fN hre)];exact g2.get h3,(h4.trans g2).set (aP _) _⟩
   rw[htake] at hi;rcases cX.mp hi with hi | hi
   ·rw[q1 i hi];exact h2 i hi
   ·rw[bS.mp hi];exact q2)
 obtain ⟨b,y3,y4,y5,hδ,h1,h2,h3,h4⟩:=P;rw[hδ] at e;have hxl:(ixU (Dj ps)).length=(Dj ps).length:=by simp[ixU]
 rw[hxl,pJ] at h1 h2;have hdic:Ir L' L.length=ξ (dK (Dj ps) fun i=>pU w (b i)):=by unfold Ir;rw[h1]
 have hvals:Ag3 (dK (Dj ps) fun i=>pU w (b i))=(Dj ps).map fun i=>pU w (b i):=by
  unfold Ag3 dK;rw[bW];rfl
 have ev:(V5 (Ad 2)) [ξ Zf,ξ (.ref W),ξ Zt,y3,y4,y5] L'=ξ (.ref L'.length,L'++[.lst ZcK]):=by
  rw[<- hvals];unfold V5;simp only[fVar_eq,aV,aM,aY,aF,aA,hdic]
 refine ⟨b,L'.length,L'++[.lst ZcK],?_,Za,fun i hi=>h2 i ((Iq ps).mpr hi),h4.trans Z6⟩;unfold Ef fnU Jg;simp only[aO,aX,if_true,aS,bP,bL,cS,cZ];rw[Al s1,Al e,fRet_eq,ev];simp only[aF,aA]
noncomputable def nmU(ps:List P3)(c:List Nat):U:=.tup (c.map fun i=>U.str (ptAt ps i).1)
theorem Akf{v0 v1:Nat}(h:j < ps.length)(L:UH)(h0:Ad v0 δ L=ξ (.tup ZL,L))(h1:Ad v1 δ L=ξ (.int (j:Int),L)):(f2 Am (f2 Am (Ad v0) (Ad v1)) Zn) δ L=ξ (.str (ptAt ps j).1,L):=Cp (Cp h0 h1 (Ab7 h L)) rfl rfl
variable {fi:FI}
theorem Aao{it:IU}{i0:Nat}(hfe:fe=f2 Am ZcV Zn)(hi:fi δ L=ξ (it,L0))(hsz:c.length<=it.size L0)(hat:∀ k x,it.at k (L0++x)=ξ (c.map fun (j:Nat)=>U.int (j:Int))[k]?)(hd:δ[i0]? = ξ (ξ Zf))(hc:∀ j∈c,j < ps.length)(hl:c.length<=1000) :
  ∃ L',(Au semTuple (Ac (Bo [ψ,ξ i0] fi (gN 0) ψ fe) Af)) δ L=ξ (nmU ps c,L')/\Gw L0 L':=by
 obtain ⟨x,e⟩:=Br (ix:=[ψ,ξ i0]) (fi:=fi) (it:=it) (g:=gN 0) (tt:=ψ) (fe:=fe) (δ:=δ) (L:=L) (L0:=L0) c ZbY ZN (fun j=>U.str (ptAt ps j).1) (fun δ=>∃ z,δ = [z,ξ Zf]) hi hsz Ze ⟨ψ,by simp[Ea,hd]⟩ hat
  (fun j δ x hj ⟨z,hδ⟩=>by
   subst hδ;refine ⟨[ξ (.int (j:Int)),ξ Zf],rfl,⟨_,rfl⟩,[],by simp[E9],fun _=>⟨[],?_⟩⟩;rw[bO,bO,hfe];exact Akf (hc j hj) _ rfl rfl)
 have hff:gR ZN c=c:=cR.mpr Zj;rw[hff] at e;refine ⟨L0++x++[HU.lst Zcu],Dw e ?_,(Gw.new _ x).trans Z6⟩;have hq:Ap (L0++x++[HU.lst Zcu]) (L0++x).length=ξ Zcu:=Aj Za;simp only[semTuple,hq,aF,nmU]
theorem IsC.all:∀ {c:List Nat},IsC ps c->∀ j∈c,j < ps.length:=by
 intro c;induction c with
 | nil=>intro h;exact h.elim
 | cons a c ih=>
  intro h j hj;rcases bG.mp hj with rfl | hj
  ·exact h.head
  ·cases c with
   | nil=>cases hj
   | cons b c=>exact ih h.2.2 j hj
theorem Yr(hn:ps.length<=60)(hne:ps≠[])(hW:Wt L W ps w):∃ (c:List Nat) (L':UH),Eg [.tup ZL,.ref W] L=ξ (.tup [.int (wS w c),nmU ps c],L')/\Bst (IsC ps) w c/\Gw L L':=by
 have hpos:0 < ps.length:=fH.mpr hne;obtain ⟨b,r,L1,e1,h1,hb,g1⟩:=Agm hn hW;have hm:(Dj ps).map (fun i=>pU w (b i))=((Dj ps).map b).map (pU w):=by rw[bW];rfl
 rw[hm] at h1;obtain ⟨c,hc,e2,hmin⟩:=Amq h1 (by
  intro z;have:=congrArg oD z;rw[aN,Rp] at this;have h0:ps.length=0:=this;omega)
 obtain ⟨k,hk,rfl⟩:=cJ.mp hc;have hkn:=(Iq ps).mp hk;have hB:=Ajf hkn hb (fun i hi=>hmin _ (jX ((Iq ps).mpr hi)));have t0:(Ph (Js (Ad 0))) ZcI L=ξ (false,L):=by
  have:Uo Zf L=ξ true:=by
   cases ps with
   | nil=>exact absurd rfl hne
   | cons _ _=>rfl
  simp only[Qz,fTru_eq,fVar_eq,aM,aY,aF,aA,this,xC]
 have s0:(Ek (Ph (Js (Ad 0))) (Bx (C0 Zcz)) Cf) ZcI L=ξ (.nx ZcI,L):=by
  rw[Dz,t0];simp only[aA,bV,if_false,Sb]
 have s1:=F7 (i:=2) (Ab5 (X8 (i:=0) (j:=1) (δ:=ZcI) rfl rfl e1) e2);simp only[bR,bJ] at s1;have hcl:=Ws hB.1;have hx:(f2 Am (Ad 2) Zh) Zcp L1=ξ (.tup (ixU (b k)),L1):=Cp rfl rfl rfl;have h0:(f2 Am (Ad 2) Zn) Zcp L1=ξ (.int (wS w (b k)),L1):=Cp rfl rfl rfl;obtain ⟨L2,e3,g3⟩:=Aao (ps:=ps) (fi:=Bj (f2 Am (Ad 2) Zh)) (it:=.seq (ixU (b k))) (fe:=Gp) (δ:=Zcp) (L:=L1) (L0:=L1) (c:=b k) (i0:=0) rfl (by rw[F8,hx];rfl) (by simp[IU.size,ixU]) Zj rfl hB.1.all Ze;refine ⟨b k,L2,?_,hB,g1.trans g3⟩;have ht:=Ahz h0 e3;unfold Eg fnU Ih;simp only[aO,aX,if_true,aS,bP,bL,cS,cZ];rw[Al s0,Al s1,fRet_eq,ht];simp only[aF,aA]
noncomputable def w1:Nat->Int:=fun _=>1
theorem Aa8(c:List Nat):wS w1 c=(c.length:Int):=by
 unfold wS w1;induction c with
 | nil=>rfl
 | cons a c ih=>rw[aS,kC,ih,aO];omega
theorem Aha{f:Nat->Int}{l:List Nat}(hn:∀ x∈l,0<=f x)(h:0 < sm l f):∃ x∈l,0 < f x:=by
 induction l with
 | nil=>simp[sm] at h
 | cons a l ih=>
  rw[sm_cons] at h;by_cases ha:0 < f a
  ·exact ⟨a,aQ ..,ha⟩
  ·obtain ⟨x,hx,h2⟩:=ih (fun x hx=>hn x (aK _ hx)) (by have:=hn a (aQ ..);omega);exact ⟨x,aK _ hx,h2⟩
theorem Atf{f:Nat->Int}{l:List Nat}(hn:∀ x∈l,0<=f x){x:Nat}(hx:x∈l):f x<=sm l f:=by
 induction l with
 | nil=>cases hx
 | cons a l ih=>
  rw[sm_cons];have h1:=hn a (aQ ..);have h2:=Af6 (f:=f) (l:=l) fun y hy=>hn y (aK _ hy)
  rcases bG.mp hx with rfl | hx
  ·omega
  ·have:=ih (fun y hy=>hn y (aK _ hy)) hx;omega
theorem Ao7(h:i < ps.length):bgf ps (t+1) i=sm (abl ps i) (bgf ps t):=by
 rw[R6 h];unfold abl;rw[Pg]
theorem V2(h:j∈abl ps i):j < ps.length:=bE.mp (eN.mp h).1
theorem Lu:∀ (t i:Nat),i < ps.length->(0 < bgf ps t i↔∃ c,Wx ps i c/\c.length=t+1)
 | 0,i,h=>by
  rw[Xa h];exact ⟨fun _=>⟨[i],⟨h,rfl⟩,rfl⟩,fun _=>by decide⟩
 | t+1,i,h=>by
  rw[Ao7 h];constructor
  ·intro hp;obtain ⟨j,hj,hq⟩:=Aha (fun x hx=>Tr ps t x (V2 hx)) hp;obtain ⟨c,⟨hc,hh⟩,hl⟩:=(Lu t j (V2 hj)).mp hq;obtain ⟨k,r,e⟩:=hc.ex;rw[e] at hc hh hl;cases hh;exact ⟨i::j::r,⟨⟨h,(eN.mp hj).2,hc⟩,rfl⟩,by rw[aO,hl]⟩
  ·rintro ⟨c,⟨hc,hh⟩,hl⟩;obtain ⟨k,r,e⟩:=hc.ex;rw[e] at hc hh hl;cases hh;cases r with
   | nil=>simp at hl
   | cons j r=>
    have hj:j∈abl ps i:=eN.mpr ⟨bE.mpr hc.2.2.head,hc.2.1⟩;have h1:=(Lu t j (V2 hj)).mpr ⟨j::r,⟨hc.2.2,rfl⟩,by simpa using hl⟩;have h2:=Atf (fun x hx=>Tr ps t x (V2 hx)) hj;omega
theorem Tb:Gv ps t=true↔∃ c,IsC ps c/\c.length=t+1:=by
 constructor
 ·intro h;have hp:=X1 h;rw[Ano] at hp;obtain ⟨i,hi,hq⟩:=Aha (fun x hx=>Tr ps t x (bE.mp hx)) hp;obtain ⟨c,hc,hl⟩:=(Lu t i (bE.mp hi)).mp hq;exact ⟨c,hc.1,hl⟩
 ·rintro ⟨c,hc,hl⟩;obtain ⟨i,r,e⟩:=hc.ex;have hi:i < ps.length:=by rw[e] at hc;exact hc.head
  have hp:=(Lu t i hi).mpr ⟨c,⟨hc,by rw[e];rfl⟩,hl⟩;cases h:Gv ps t with
  | true=>rfl
  | false=>rw[Aca h i hi] at hp;exact absurd hp Zb
theorem W6{d:List Nat}(h:Bst (IsC ps) w1 c)(hd:IsC ps d):d.length<=c.length:=by
 have:=h.2 d hd;unfold kl at this;rw[Aa8,Aa8] at this;by_cases e:(d.length:Int)=c.length
 ·omega
 ·rw[if_neg Ze] at this;simp only[decide_eq_false_iff_not] at this;omega
noncomputable def Avf(ps:List P3)(c:List Nat):U:=.tup [.int (c.length:Int),.int (bg ps (c.length - 1)).sum,nmU ps c]
theorem Abf(h:Bst (IsC ps) w1 c)(h1:Gv ps T=false)(h2:∀ t,t < T->Gv ps t=true):T=c.length:=by
 obtain ⟨i,r,e⟩:=h.1.ex;have hpos:0 < c.length:=by rw[e];simp
 have la:Gv ps (c.length - 1)=true:=Tb.mpr ⟨c,h.1,Ze⟩;have lb:Gv ps c.length=false:=by
  cases q:Gv ps c.length with
  | false=>rfl
  | true=>
   obtain ⟨d,hd,hl⟩:=Tb.mp q;have:=W6 h hd;omega
 rcases lC T c.length with q | q | q
 ·exfalso;have hp:=X1 la;rw[Ai7 h1 Ze] at hp;exact absurd hp Zb
 ·exact q
 ·rw[h2 _ q] at lb;cases lb
theorem Aeb(ps:List P3)(hn:ps.length<=60)(L:UH):∃ (y2:Option U) (L':UH),(Jo (Bj (Ad 0)) (gN 2) E5) [ξ Zf,ξ Zt,ψ,ψ] (L++[.dic []])=ξ (.nx [ξ Zf,ξ Zt,y2,ψ],L')/\Wt L' L.length ps w1/\Gw L L':=by
 obtain ⟨δ',L',e,P⟩:=Qq (us:=ps.map p3U) (L0:=L++[.dic []]) (L:=L++[.dic []]) (δ:=[ξ Zf,ξ Zt,ψ,ψ]) (body:=E5) (g:=gN 2) (fi:=Bj (Ad 0))
  (fun p δ' M=>∃ (y2:Option U) (kvs:List (Key×U)),δ'=[ξ Zf,ξ Zt,y2,ψ]/\M[L.length]? = ξ (.dic kvs)/\kvs.length<=p/\(∀ i,i < p->Ji kvs (.inr (ptAt ps i).1)=ξ (.int 1))/\Gw L M)
  (by simp[Il]) ⟨ψ,[],rfl,Za,Za,(fun i hi=>by omega),Gw.new _ _⟩
  (fun p u δ M hu ⟨y2,kvs,hδ,h1,h2,h3,h4⟩=>by
   subst hδ;rw[bA] at hu;obtain ⟨q,hq,rfl⟩:=aJ.mp hu;have hpl:=(aI.mp hq).1;have hqe:ptAt ps p=q:=by unfold ptAt;rw[aC,hq];rfl
   have s:=Am5 (fo:=Ad 1) (fi:=f2 Am (Ad 2) Zn) (fv:=fC (.int 1)) (u:=.str q.1) (k:=.inr q.1) (v:=.int 1) (δ:=[ξ Zf,ξ Zt,ξ (p3U q),ψ]) (L:=M) (M:=M) rfl rfl (Cp rfl rfl rfl) rfl h1 Ze;have hEl:=(aI.mp h1).1;refine ⟨[ξ Zf,ξ Zt,ξ (p3U q),ψ],M,rfl,_,_,.inl s,_,_,rfl,bI hEl,by have:=Ai4 kvs (.inr q.1) (.int 1);omega,fun i hi=>?_,h4.set (aP _) _⟩
   rw[Ahp];by_cases hk:(pL (ptAt ps i).1:Key) = .inr q.1
   ·rw[if_pos hk]
   ·rw[if_neg hk];refine h3 i ?_;by_cases hip:i=p
    ·rw[hip,hqe] at hk;exact absurd rfl hk
    ·omega)
 obtain ⟨y2,kvs,hδ,h1,h2,h3,h4⟩:=P;rw[hδ] at e;rw[aN] at h3;exact ⟨y2,L',e,⟨kvs,h1,h3⟩,h4⟩
theorem Aah(ps:List P3)(hn:ps.length<=60)(hne:ps≠[])(L:UH):∃ (c:List Nat) (L':UH),Bm [.tup ZL] L=ξ (Avf ps c,L')/\Bst (IsC ps) w1 c/\Gw L L':=by
 have t0:(Ph (Js (Ad 0))) [ξ Zf,ψ,ψ,ψ] L=ξ (false,L):=by
  have:Uo Zf L=ξ true:=by
   cases ps with
   | nil=>exact absurd rfl hne
   | cons _ _=>rfl
  simp only[Qz,fTru_eq,fVar_eq,aM,aY,aF,aA,this,xC]
 have s0:(Ek (Ph (Js (Ad 0))) (Bx (C0 (Ac Zn (Ac Zh (Ac (C0 Af) Af))))) Cf) [ξ Zf,ψ,ψ,ψ] L=ξ (.nx [ξ Zf,ψ,ψ,ψ],L):=by
  rw[Dz,t0];simp only[aA,bV,if_false,Sb]
 have s1:(Ba W5 (gN 1)) [ξ Zf,ψ,ψ,ψ] L=ξ (.nx [ξ Zf,ξ Zt,ψ,ψ],L++[.dic []]):=rfl;obtain ⟨y2,K2,s2,hW,g2⟩:=Aeb ps hn L;obtain ⟨c,L3,e3,hB,g3⟩:=Yr hn hne hW;have s3:=F7 (i:=3) (X8 (i:=0) (j:=1) (δ:=[ξ Zf,ξ Zt,y2,ψ]) rfl rfl e3);simp only[bR,bJ] at s3;obtain ⟨T,L4,e4,hT,h1,h2,g4⟩:=Alb ps Ze L3;have hTc:=Abf hB h1 h2;have hcp:0 < c.length:=by obtain ⟨i,r,e⟩:=hB.1.ex;rw[e];simp
 have a1:(f2 Am (Ad 3) Zn) Zba L3=ξ (.int (c.length:Int),L3):=by
  rw[<- Aa8];exact Cp rfl rfl rfl
 have hix:Am (.tup ZcW) (.int (-1)) L4=ξ (.int (bg ps (c.length - 1)).sum,L4):=by
  obtain ⟨m,hm⟩:∃ m,T=m+1:=⟨T - 1,Ze⟩;have hc1:c.length - 1=m:=Ze
  rw[hm,told_step,hc1,cP];generalize hl:(Kd ps m).map U.int=l;generalize (bg ps m).sum=z;have hn1:ixN (l.length+1) (-1)=ξ l.length:=by
   unfold ixN;rw[if_neg Zb,if_pos Ze]
   congr 1;omega
  have:L2.atI (l++[.int z]) (-1)=ξ (.int z):=by
   unfold L2.atI;rw[bU,aO,aX,qC,hn1];simp
  rw[Pc];show (L2.atI (l++[.int z]) (-1)).map _=_;rw[this];rfl
 have a2:(f2 Am (Ay 1 Dg Zl) (Ip Zh)) Zba L3=ξ (.int (bg ps (c.length - 1)).sum,L4):=Cp (Fb (i:=0) rfl e4) (by rw[V6];rfl) hix;have a3:(f2 Am (Ad 3) Zh) Zba L4=ξ (nmU ps c,L4):=Cp rfl rfl rfl;have ht:=Ahu a1 a2 a3;refine ⟨c,L4,?_,hB,(g2.trans g3).trans g4⟩;unfold Bm fnU Iu;simp only[aO,aX,if_true,aS,bP,bL,cS,cZ];rw[Al s0,Al s1,Al s2,Al s3,fRet_eq,ht];simp only[aF,aA];rfl
noncomputable def Q8(q:Int×Int):List Int:=[q.1,q.2]
noncomputable def Ajo(qs:List P3):List Nat:=SO.Cc (ltK (qs.map fun p=>Q8 p.2)) qs.length
theorem Lz(qs:List P3):(Ajo qs).Perm (bB qs.length):=SO.F3 (Ia _)
noncomputable def Ahy:P3:=("",0,0)
noncomputable def srt(qs:List P3):List P3:=(Ajo qs).map fun i=>qs.getD i Ahy
theorem Ku(qs:List P3):(srt qs).Perm qs:=by
 have e:(bB qs.length).map (fun i=>qs.getD i Ahy)=qs:=by
  apply iZ
  ·simp
  ·intro i h1 h2;have hi:i < qs.length:=by simpa using h2
   rw[tZ,List.getElem_range,aC,aE hi];rfl
 have:=(Lz qs).map fun i=>qs.getD i Ahy
 rw[e] at this;exact this
noncomputable def LeK(a b:P3):Prop:=a.2.1 < b.2.1\/a.2.1=b.2.1/\a.2.2<=b.2.2
variable {a:P3}
theorem Aor{b:P3}(h:ltT (Q8 b.2) (Q8 a.2)=false):LeK a b:=by
 unfold Q8 at h;simp only[ltT,beq_iff_eq] at h;unfold LeK;split at h
 ·split at h
  ·omega
  ·have:=of_decide_eq_false h;omega
 ·have:=of_decide_eq_false h;omega
theorem Y7(qs:List P3):(srt qs).Pairwise LeK:=by
 have hst:(Ajo qs).Pairwise (SO.Le (ltK (qs.map fun p=>Q8 p.2))):=Ye (Ia _) _;refine eW.mpr (oW (fun {i j} hi hj h=>?_) hst);have hi:i < qs.length:=bE.mp ((Lz qs).mem_iff.mp hi);have hj:j < qs.length:=bE.mp ((Lz qs).mem_iff.mp hj);have h1:=h;unfold SO.Le ltK at h1;have e:∀ i (h:i < qs.length),(qs.map fun p=>Q8 p.2).getD i []=Q8 (qs.getD i Ahy).2:=fun i h=>by
  rw[aC,aC,bA,aE h];rfl
 rw[e i hi,e j hj] at h1;exact Aor h1
abbrev En:=P3×List P3
noncomputable def Iz(p:P3)(ch:List En):Bool:=match ch.getLast? with
 | some e=>below e.1.2 p.2
 | none=>false
noncomputable def turnOf(cs:List (List En))(p:P3):Nat:=cs.findIdx (Iz p)
noncomputable def B6(cs:List (List En)):Nat->List P3
 | 0=>[]
 | t+1=>((cs.getD t []).getLast?.map (·.2)).getD []
noncomputable def lay(cs:List (List En))(p:P3):List (List En):=
 if turnOf cs p=cs.length then cs++[[ZcQ]] else cs.set Z8 (cs.getD Z8 []++[ZcQ])
noncomputable def Rr(a b:P3):Prop:=LeK a b/\(b.2.2 < a.2.2\/a.2=b.2)
theorem below_iff(a b:Int×Int):below a b=true↔a.1<=b.1/\a.2<=b.2/\a≠b:=by
 unfold below;obtain ⟨a1,a2⟩:=a;obtain ⟨b1,b2⟩:=b;simp only[bZ,decide_eq_true_eq,oH,oV,lL,beq_eq_false_iff_ne,ne_eq,Prod.mk.injEq];constructor
 ·rintro ⟨h1,h2,h3⟩;exact ⟨h1,h2,fun e=>h3.elim (fun q=>q e.1) (fun q=>q e.2)⟩
 ·rintro ⟨h1,h2,h3⟩;refine ⟨h1,h2,?_⟩;by_cases e:a1=b1
  ·exact .inr fun q=>h3 ⟨e,q⟩
  ·exact .inl e
theorem Ae5{b:P3}(h:LeK a b)(hb:below a.2 b.2=false):Rr a b:=by
 refine ⟨h,?_⟩;by_cases e:a.2=b.2
 ·exact .inr e
 ·left;have:¬ (a.2.1<=b.2.1/\a.2.2<=b.2.2/\a.2≠b.2):=fun q=>by rw[(below_iff _ _).mpr q] at hb;cases hb
  unfold LeK at h;have:¬ (a.2.2<=b.2.2):=fun q=>this ⟨Ze,q,e⟩
  omega
theorem Rr.no{b:P3}(h:Rr a b):below a.2 b.2=false/\below b.2 a.2=false:=by
 obtain ⟨h1,h2⟩:=h;unfold LeK at h1;constructor
 ·cases hb:below a.2 b.2 with
  | false=>rfl
  | true=>
   rw[below_iff] at hb;rcases h2 with h2 | h2
   ·omega
   ·exact absurd h2 hb.2.2
 ·cases hb:below b.2 a.2 with
  | false=>rfl
  | true=>
   rw[below_iff] at hb;rcases h2 with h2 | h2
   ·exact absurd (wB Ze Ze) hb.2.2
   ·exact absurd h2.symm hb.2.2
theorem Rr.tr{b c:P3}(h:Rr a b)(h2:Rr b c)(hl:LeK a c):Rr a c:=by
 refine ⟨hl,?_⟩;rcases h.2 with x | x
 ·rcases h2.2 with y | y
  ·left;omega
  ·left;rw[<- y];exact x
 ·rcases h2.2 with y | y
  ·left;rw[x];exact y
  ·right;rw[x,y]
structure Laid(cs:List (List En))(dn:List P3):Prop where
 ne:∀ ch∈cs,ch≠[]
 perm:(cs.flatten.map (·.1)).Perm dn
 chn:∀ ch∈cs,ch.Pairwise fun a b=>below a.1.2 b.1.2=true
 cr:∀ (t:Nat) (ch:List En),cs[t]? = ξ ch->∀ e∈ch,e.2.length=t+1/\e.2.getLast? = ξ e.1/\e.2.Pairwise Rr/\(∀ c∈e.2,c∈dn)/\e.2.Nodup
theorem Laid.start:Laid [] [] where
 ne ch h:=by cases h
 perm:=.nil
 chn ch h:=by cases h
 cr t ch h:=by simp at h
variable {cs:List (List En)}{p:P3}{dn:List P3}
theorem Qc(A:Laid cs dn)(hle:∀ c∈dn,LeK c p)(hp:p∉dn)(ht:t=turnOf cs p) :
  (B6 cs t++[p]).length=t+1/\(B6 cs t++[p]).Pairwise Rr/\(∀ c∈B6 cs t,c∈dn)/\(B6 cs t++[p]).Nodup:=by
 cases t with
 | zero=>simp[B6]
 | succ t=>
  have htl:t < cs.length:=by
   have:=lD (p:=Iz p) (xs:=cs);unfold turnOf at ht;omega
  have hno:Iz p cs[t]=false:=by
   have:=List.not_of_lt_findIdx (p:=Iz p) (xs:=cs) (i:=t) (by unfold turnOf at ht;omega);simpa using this
  have hmem:cs[t]∈cs:=cW htl;obtain ⟨e,he⟩:∃ e,cs[t].getLast? = ξ e:=by
   cases hg:cs[t].getLast? with
   | none=>exact absurd (fY.mp hg) (A.ne _ hmem)
   | some e=>exact ⟨e,rfl⟩
  have hem:e∈cs[t]:=mH he;obtain ⟨c1,c2,c3,c4,c5⟩:=A.cr t _ (aE htl) e hem;have hcr:B6 cs (t+1)=e.2:=by
   show ((cs.getD t []).getLast?.map (·.2)).getD []=e.2;rw[aC,aE htl];simp[he]
  have hbl:below e.1.2 p.2=false:=by unfold Iz at hno;rw[he] at hno;exact hno
  have hep:e.1∈e.2:=mH c2;have hR:Rr e.1 p:=Ae5 (hle _ (c4 _ hep)) hbl;rw[hcr];refine ⟨by rw[bU,c1];rfl,fD.mpr ⟨c3,Za,fun c hc q hq=>?_⟩,c4,fR.mpr ⟨c5,Za,fun c hc q hq=>?_⟩⟩
  ·rw[bS.mp hq];by_cases hce:c=e.1
   ·rw[hce];exact hR
   ·have hce':Rr c e.1:=by
     obtain ⟨ini,hini⟩:=nV.mp c2;rw[hini] at c3 hc;rcases cX.mp hc with h | h
     ·exact (fD.mp c3).2.2 c h e.1 Za
     ·exact absurd (bS.mp h) hce
    exact hce'.tr hR (hle _ (c4 _ hc))
  ·rw[bS.mp hq];intro h;rw[h] at hc;exact hp (c4 _ hc)
theorem Laid.step(A:Laid cs dn)(hle:∀ c∈dn,LeK c p)(hp:p∉dn):Laid (lay cs p) (dn++[p]):=by
 obtain ⟨f1,f2,f3,f4⟩:=Qc A hle hp (t:=turnOf cs p) rfl;have hnew:∀ e:En,e=ZcQ->e.2.length=turnOf cs p+1/\e.2.getLast? = ξ e.1/\e.2.Pairwise Rr/\(∀ c∈e.2,c∈dn++[p])/\e.2.Nodup:=fun e he=>by
  subst he;refine ⟨f1,Za,f2,fun c hc=>?_,f4⟩;rcases cX.mp hc with h | h
  ·exact eZ _ (f3 c h)
  ·exact aT _ h
 have hold:∀ (t:Nat) (ch:List En),cs[t]? = ξ ch->∀ e∈ch,e.2.length=t+1/\e.2.getLast? = ξ e.1/\e.2.Pairwise Rr/\(∀ c∈e.2,c∈dn++[p])/\e.2.Nodup:=fun t ch h e he=>by
  obtain ⟨a,b,c,d,f⟩:=A.cr t ch h e he;exact ⟨a,b,c,fun x hx=>eZ _ (d x hx),f⟩
 have htl:turnOf cs p<=cs.length:=lD;unfold lay;by_cases h:turnOf cs p=cs.length
 ·rw[if_pos h];refine ⟨fun ch hc=>?_,?_,fun ch hc=>?_,fun t ch hc e he=>?_⟩
  ·rcases cX.mp hc with q | q
   ·exact A.ne ch q
   ·rw[bS.mp q];simp
  ·rw[rS,cP];simpa using A.perm.append_right [p]
  ·rcases cX.mp hc with q | q
   ·exact A.chn ch q
   ·rw[bS.mp q];simp
  ·by_cases ht:t < cs.length
   ·rw[bC ht] at hc;exact hold t ch hc e he
   ·have hl:=(aI.mp hc).1;rw[bU,fJ] at hl;have:t=cs.length:=Ze
    subst this;rw[bX (aP _),dC] at hc;cases hc;have:=hnew e (bS.mp he);rw[h] at this;exact this
 ·rw[if_neg h];have hlt:turnOf cs p < cs.length:=Ze
  have hg:cs.getD Z8 []=cs[turnOf cs p]:=by rw[aC,aE hlt];rfl
  rw[hg];have htk:Iz p cs[turnOf cs p]=true:=List.findIdx_getElem (w:=hlt);have hmem:cs[turnOf cs p]∈cs:=cW hlt;refine ⟨fun ch hc=>?_,?_,fun ch hc=>?_,fun t ch hc e he=>?_⟩
  ·rcases nW hc with q | q
   ·exact A.ne ch q
   ·rw[q];simp
  ·have hsplit:cs=cs.take Z8++cs[turnOf cs p]::cs.drop (turnOf cs p+1):=by
    rw[<- iO hlt,qX]
   have hset:cs.set Z8 (cs[turnOf cs p]++[ZcQ])=cs.take Z8++(cs[turnOf cs p]++[ZcQ])::cs.drop (turnOf cs p+1):=List.set_eq_take_append_cons_drop.trans (if_pos hlt);rw[hset];have hper:=A.perm;rw[hsplit] at hper;simp only[rS,eK,cP,aS,bP] at hper ⊢;refine qQ ?_ (hper.append_right [p]);simp only[bM];refine jJ _ (jJ _ ?_);exact qW
  ·rcases nW hc with q | q
   ·exact A.chn ch q
   ·rw[q];refine fD.mpr ⟨A.chn _ hmem,Za,fun a ha b hb=>?_⟩;rw[bS.mp hb];show below a.1.2 p.2=true;cases hgl:cs[turnOf cs p].getLast? with
    | none=>unfold Iz at htk;rw[hgl] at htk;cases htk
    | some e=>
     have hbe:below e.1.2 p.2=true:=by unfold Iz at htk;rw[hgl] at htk;exact htk
     by_cases hae:a=e
     ·rw[hae];exact hbe
     ·obtain ⟨ini,hini⟩:=nV.mp hgl;have hch:=A.chn _ hmem;rw[hini] at hch ha;rcases cX.mp ha with q2 | q2
      ·exact Rx ((fD.mp hch).2.2 a q2 e Za) hbe
      ·exact absurd (bS.mp q2) hae
  ·by_cases ht:t=turnOf cs p
   ·rw[ht,bI hlt] at hc;cases hc;rcases cX.mp he with q | q
    ·rw[ht];exact hold _ _ (aE hlt) e q
    ·rw[ht];exact hnew e (bS.mp q)
   ·rw[bF (fN ht)] at hc;exact hold t ch hc e he
noncomputable def Jm(qs:List P3):List (List En):=qs.foldl lay []
theorem X2:∀ (qs:List P3) (cs:List (List En)) (dn:List P3),Laid cs dn->(dn++qs).Pairwise LeK->(dn++qs).Nodup->Laid (qs.foldl lay cs) (dn++qs)
 | [],cs,dn,A,_,_=>by rw[bO];exact A
 | p::qs,cs,dn,A,h,hn=>by
  have e:dn++p::qs=(dn++[p])++qs:=Za
  obtain ⟨_,_,h3⟩:=fD.mp h;obtain ⟨_,_,n3⟩:=fR.mp hn;have A':=A.step (p:=p) (fun c hc=>h3 c hc p Za) fun hp=>n3 p hp p Za rfl
  rw[e] at h hn ⊢;exact X2 qs _ _ A' h hn
theorem Ko(qs:List P3)(h:qs.Pairwise LeK)(hn:qs.Nodup):Laid (Jm qs) qs:=X2 qs [] [] Laid.start h hn
theorem Vt{f:FE}{b:Bool}(h:f δ L=ξ (.bl b,L')):Bp f δ L=ξ (b,L'):=by
 rw[fTest_eq,h];rfl
theorem Gu{s:S2}{L2 L3:UH}{w:U}(h1:fa δ L=ξ (u,L1))(h2:fb δ L1=ξ (v,L2))(h:s u v L2=ξ (w,L3)):f2 s fa fb δ L=ξ (w,L3):=by
 rw[f2_eq,h1];simp only[aA,h2,h]
theorem fnN{b:FS}(hn:us.length=k)(h:b (us.map ξ++bL (n - k) ψ) L=ξ (.rt v,L')):fnU n k b us L=ξ (v,L'):=by
 subst hn;unfold fnU;rw[if_pos rfl,h];rfl
theorem Agj{s:SC}{L2:UH}(h:fa δ L=ξ (u,L1))(e:s [u] L1=ξ (v,L2)):(Au s (Ac fa Af)) δ L=ξ (v,L2):=by
 rw[fCall_eq,fCons_eq,h];exact e
theorem Ac4(h:fe δ L=ξ Zdj):(Ph (Js fe)) δ L=ξ (false,L'):=by
 rw[Qz,fTru_eq,h];rfl
theorem Wa(h:l[k]? = ξ u):L2.atI l (k:Int)=ξ u:=by
 have:=(aI.mp h).1;rw[Kv Ze Ze,cK,h]
theorem Rq{i:Int}(h:L[n]? = ξ (.lst l))(hu:L2.atI l i=ξ u):Am (.ref n) (.int i) L=ξ (u,L):=by
 rw[semIx_ref,Aj h];simp only[aA,hu,aF]
theorem Avd(h:fa δ L=ξ (u,L')):(C0 (Ac fa Af)) δ L=ξ (.tup [u],L'):=by
 rw[fTup_eq,fCons_eq,h];simp only[aA,fNil_eq,aF];rw[if_pos ZaT]
theorem Auk{L2:UH}(h:fa δ L=ξ (u,L1))(h2:fb δ L1=ξ (v,L2)):(C0 ZdC) δ L=ξ (.tup [u,v],L2):=by
 rw[fTup_eq,fCons_eq,h,aA,fCons_eq,h2];simp only[aA,fNil_eq,aF];rw[if_pos (small_of (by show 2<=16777216;decide))]
theorem Ajh(δ:UE)(L:UH):(El Af) δ L=ξ (.ref L.length,L++[.lst []]):=by
 rw[fLst_eq,fNil_eq];rfl
theorem atI_last{β:Type}{l:List β}{a:β}(h:l.getLast? = ξ a):L2.atI l (-1)=ξ a:=by
 have hl:l≠[]:=by rintro rfl;cases h
 have hn:0 < l.length:=fH.mpr hl;unfold L2.atI L2.ixN;rw[if_neg Zb];have e:-(l.length:Int)<=-1:=Ze
 rw[if_pos e];have e2:((-1:Int)+(l.length:Int)).toNat=l.length - 1:=Ze
 rw[nX] at h;simp[e2,h]
theorem Agk(a b:List U)(h:a.length+b.length<=1000)(L:UH):Jq (.tup a) (.tup b) L=ξ (.tup (a++b),L):=by
 cases a with
 | nil=>rfl
 | cons x a=>
  show Be (.tup (x::a)) (.tup b) L=_;unfold Be;simp only;rw[if_pos ⟨rfl,small_of Ze⟩]
noncomputable def nmC(q:P3):U:=.str q.1
noncomputable def eU(e:En):U:=.tup [p3U e.1,.tup (e.2.map nmC)]
structure CH(M:UH)(lo c:Nat)(rs:List Nat)(cs:List (List En)):Prop where
 at_:M[c]? = ξ (.lst ZcR)
 len:rs.length=cs.length
 ch:∀ (i r:Nat) (l:List En),rs[i]? = ξ r->cs[i]? = ξ l->M[r]? = ξ ZdY
 nd:rs.Nodup
 nc:c∉rs
 lo:lo<=c/\∀ r∈rs,lo<=r
variable {lo:Nat}
theorem CH.gw{c:Nat}(A:CH M lo c rs cs)(g:Gw M M'):CH M' lo c rs cs:=⟨g.get A.at_,A.len,fun i r l h1 h2=>g.get (A.ch i r l h1 h2),A.nd,A.nc,A.lo⟩
theorem CH.get{c:Nat}(A:CH M lo c rs cs){l:List En}(h:cs[i]? = ξ l):∃ r,rs[i]? = ξ r/\M[r]? = ξ ZdY:=by
 have hi:=(aI.mp h).1;have hr:i < rs.length:=by rw[A.len];exact hi
 exact ⟨rs[i],aE hr,A.ch i _ l (aE hr) h⟩
variable {r:Nat}
theorem Vw{l:List En}{e:En}(h:M[r]? = ξ ZdY)(he:l.getLast? = ξ e):Am (.ref r) (.int (-1)) M=ξ (eU e,M):=Rq h (atI_last (by rw[tJ,he];rfl))
theorem Aj8(δ:UE)(L:UH):(Ip Zh) δ L=ξ (.int (-1),L):=rfl
theorem Agq{l:List En}{e:En}(h:M[r]? = ξ ZdY)(he:l.getLast? = ξ e)(p:P3)(x0 x2:Option U):∃ x,(Js (Ay 2 Cm (Ac (Ay 1 Bk ZbN) (Ac (Ay 1 Bk ZR) Af)))) ZbG M=ξ (Iz p l,M++x):=by
 obtain ⟨x,ex⟩:=Qv e.1.2 p.2 M;refine ⟨x,?_⟩;have t:Iz p l=below e.1.2 p.2:=by unfold Iz;rw[he]
 have a1:(f2 Am (f2 Am (Ad 3) (Ip Zh)) Zn) ZbG M=ξ (p3U e.1,M):=Gu (Gu rfl (Aj8 _ M) (Vw h he)) rfl rfl;have a2:(Ay 1 Bk ZbN) ZbG M=ξ (pr e.1.2,M):=by
  rw[fOwn_eq,fCons_eq,a1];simp only[aA,fNil_eq,aF,aO,aX,if_true,Cz]
 have a3:(Ay 1 Bk ZR) ZbG M=ξ (pr p.2,M):=Fb rfl (Cz p M);rw[t,fTru_eq,Anq a2 a3 ex];rfl
theorem Aih{c:Nat}(A:CH M lo c rs cs)(hne:∀ ch∈cs,ch≠[])(p:P3):∃ M',Dl [.ref c,p3U p] M=ξ (.int (turnOf cs p:Nat),M')/\Gw M M':=by
 have hsq:=Aj A.at_;have hen:(enU ZcR).length=cs.length:=by simp[enU,A.len]
 have hi:(Us Zl) ZaW M=ξ (.enm c,M):=by
  unfold Us;have v:Ad 0 ZaW M=ξ (.ref c,M):=rfl;simp only[fCons_eq,v,aA,fNil_eq,aF,hsq]
 have key:=Ak0 (us:=enU ZcR) (it:=.enm c) (body:=Cs) (g:=Zcx)
  (fun k δ L=>(∃ y2 y3,δ = [ξ (.ref c),ξ (p3U p),y2,y3])/\Gw M L) (fun k L=>Gw M L) (fun k=>Iz p (cs.getD k [])) (fun k=>.int (k:Int)) hi (by rw[Aiu hsq];exact aP _)
  (fun k δ L _ ⟨_,g⟩=>Api (Aj (g.get A.at_))) ⟨⟨_,_,rfl⟩,Gw.refl _⟩
  (fun k u δ L hu ⟨⟨y2,y3,hδ⟩,g⟩=>by
   subst hδ;have hk:=(aI.mp hu).1;rw[hen] at hk;have:(enU ZcR)[k]? = ((rs.map U.ref)[k]?).map fun u=>U.tup [.int (k:Int),u]:=by simp[enU]
   rw[this,bA] at hu;obtain ⟨w,hw,rfl⟩:=aJ.mp hu;obtain ⟨r,hr,rfl⟩:=aJ.mp hw;have hc:cs[k]? = ξ cs[k]:=aE hk;have hg:cs.getD k []=cs[k]:=by rw[aC,hc];rfl
   have hm:=g.get (A.ch k r _ hr hc);obtain ⟨e,he⟩:∃ e,cs[k].getLast? = ξ e:=by
    cases hg:cs[k].getLast? with
    | none=>exact absurd (fY.mp hg) (hne _ (cW hk))
    | some e=>exact ⟨e,rfl⟩
   obtain ⟨x,ex⟩:=Agq hm he p (ξ (.ref c)) (ξ ZY);refine ⟨[ξ (.ref c),ξ (p3U p),ξ ZY,ξ (.ref r)],L,rfl,fun hs=>⟨L++x,?_,g.trans Z6⟩,fun hs=>⟨[ξ (.ref c),ξ (p3U p),ξ ZY,ξ (.ref r)],L++x,?_,⟨_,_,rfl⟩,g.trans Z6⟩⟩
   ·rw[hg] at hs;rw[hs] at ex;unfold Cs;rw[Dz,ex];rfl
   ·rw[hg] at hs;rw[hs] at ex;exact Mw ex)
 have hb:∀ v M',(Jo (Us Zl) Zcx Cs) ZaW M=ξ (.rt v,M')->Dl [.ref c,p3U p] M=ξ (v,M'):=fun v M' h=>by
  refine fnN rfl ?_;unfold E2;show Bb _ _ ZaW M=_;rw[fSeq_eq,h];rfl
 rw[hen] at key;rcases key with ⟨j,hj,hs,hall,L',e,g⟩ | ⟨hall,δ',L',e,⟨y2,y3,hδ⟩,g⟩
 ·refine ⟨L',?_,g⟩;have ht:turnOf cs p=j:=by
   unfold turnOf;rw[List.findIdx_eq hj];refine ⟨by rw[aC,aE hj] at hs;exact hs,fun i hi=>?_⟩;have:=hall i hi;rw[aC,aE Ze] at this;exact this
  rw[ht];exact hb _ _ e
 ·refine ⟨L',?_,g⟩;have ht:turnOf cs p=cs.length:=by
   unfold turnOf;rw[List.findIdx_eq_length];intro ch hc;obtain ⟨i,hi,rfl⟩:=dS hc;have:=hall i hi;rw[aC,aE hi] at this;exact this
  rw[ht,<- A.len];rw[hδ] at e;refine fnN rfl ?_;unfold E2;show Bb _ _ ZaW M=_;rw[Al e];have:=Hz (g.get A.at_);rw[aN] at this;exact Tt (Agj rfl this)
theorem Abb{c:Nat}(A:CH M lo c rs cs)(hne:∀ ch∈cs,ch≠[])(ht:t<=cs.length)(x0 x2 x4:Option U) :
  (fIf (Bp ZdX) (f2 Am (f2 Am (f2 Am (Ad 1) (f2 Bq (Ad 3) Zh)) (Ip Zh)) Zh) (C0 Af)) [x0,ξ (.ref c),x2,ξ (.int (t:Nat)),x4] M=ξ (.tup ((B6 cs t).map nmC),M):=by
 rw[Apd];cases t with
 | zero=>
  have c1:(Bp ZdX) [x0,ξ (.ref c),x2,ξ (.int ((0:Nat):Int)),x4] M=ξ (false,M):=rfl;rw[c1];rfl
 | succ t=>
  have c1:(Bp ZdX) [x0,ξ (.ref c),x2,ξ (.int ((t+1:Nat):Int)),x4] M=ξ (decide ((0:Int) < ((t+1:Nat):Int)),M):=rfl;have d1:decide ((0:Int) < ((t+1:Nat):Int))=true:=Za
  rw[c1,d1];simp only[aA,if_true];have hc:cs[t]? = ξ cs[t]:=aE Ze;obtain ⟨r,hr,hm⟩:=A.get hc;obtain ⟨e,he⟩:∃ e,cs[t].getLast? = ξ e:=by
   cases hg:cs[t].getLast? with
   | none=>exact absurd (fY.mp hg) (hne _ (cW Ze))
   | some e=>exact ⟨e,rfl⟩
  have hcr:B6 cs (t+1)=e.2:=by
   show ((cs.getD t []).getLast?.map (·.2)).getD []=e.2;rw[aC,hc];simp[he]
  rw[hcr];have s:(f2 Bq (Ad 3) Zh) [x0,ξ (.ref c),x2,ξ (.int ((t+1:Nat):Int)),x4] M=ξ (.int (t:Int),M):=by
   refine Gu rfl rfl ?_;show ξ (U.int (((t+1:Nat):Int) - 1),M)=_
   congr 2
   rw[U.int.injEq];omega
  exact Gu (Gu (Gu rfl s (Rq A.at_ (Wa (by rw[bA,hr];rfl)))) (Aj8 _ M) (Vw hm he)) rfl rfl
theorem Afk{c:Nat}(A:CH M lo c rs cs)(hlo:lo<=M.length)(hne:∀ ch∈cs,ch≠[])(hl:cs.length<=60)(hll:∀ ch∈cs,ch.length<=60)(p:P3)(hcr:(B6 cs Z8).length<=60)(x0 x3 x4:Option U) :
  ∃ (y3 y4:Option U) (rs':List Nat) (M':UH),Dt [x0,ξ (.ref c),ξ (p3U p),x3,x4] M=ξ (.nx [x0,ξ (.ref c),ξ (p3U p),y3,y4],M')/\CH M' lo c rs' (lay cs p)/\(∀ L,L.length<=lo->Gw L M->Gw L M')/\(∀ b o,b≠c->b∉rs->M[b]? = ξ o->M'[b]? = ξ o/\b∉rs'):=by
 obtain ⟨M1,e1,g1⟩:=Aih A hne p;have ht:turnOf cs p<=cs.length:=lD;have s1:=F7 (i:=3) (Anq (fa:=Ad 1) (fb:=Ad 2) (δ:=[x0,ξ (.ref c),ξ (p3U p),x3,x4]) rfl rfl e1);simp only[bR,bJ] at s1;have A1:=A.gw g1;have s2:=F7 (i:=4) (Abb A1 hne ht x0 (ξ (p3U p)) x4);simp only[bR,bJ] at s2;have hln:=Hz A1.at_;rw[aN,A1.len] at hln;have c3:(Bp ZdL) [x0,ξ (.ref c),ξ (p3U p),ξ ZbC,ξ (.tup ((B6 cs Z8).map nmC))] M1=ξ (((turnOf cs p:Nat):Int) == (cs.length:Int),M1):=Vt (Gu rfl (Agj rfl hln) rfl);have hcs:=(aI.mp A1.at_).1;generalize hcw:B6 cs Z8=cw at s2 c3 hcr;have ent:∀ M2:UH,(C0 (Ac (Ad 2) (Ac (f2 Jq (Ad 4) (C0 (Ac ZcP Af))) Af))) Zr M2=ξ (eU (p,cw++[p]),M2):=fun M2=>by
  have a1:=Gu (s:=Jq) (fa:=Ad 4) (fb:=C0 (Ac ZcP Af)) (δ:=Zr) (L:=M2) rfl (Avd (Gu rfl rfl rfl)) (Agk (cw.map nmC) [nmC p] (by rw[aN];simp;omega) M2);have a2:=Auk (fa:=Ad 2) (δ:=Zr) (L:=M2) rfl a1;rw[a2];unfold eU;rw[cP];rfl
 have lays:lay cs p=if turnOf cs p=cs.length then cs++[[(p,cw++[p])]] else cs.set Z8 (cs.getD Z8 []++[(p,cw++[p])]):=by unfold lay;rw[hcw]
 by_cases h:turnOf cs p=cs.length
 ·have hb:(((turnOf cs p:Nat):Int) == (cs.length:Int))=true:=by rw[h];simp
  rw[hb] at c3;have ap:=G7 (.ref M1.length) ((Gw.new M1 [HU.lst []]).get A1.at_) (by rw[aN,A1.len];omega);have ty:=Hx A1.at_;have s3:(Ek (Bp ZdL) (Ka (Ht "list" C9 (Ad 1) (Ac (El Af) Af))) Cf) Zr M1=ξ (.nx Zr,(M1++[HU.lst []]).set c ZZ):=by
   rw[Dz,c3];simp only[aA,if_true];have v:Ad 1 Zr M1=ξ (.ref c,M1):=rfl;rw[Hc,fMeth_eq,v];simp only[aA,ty,if_true];rw[fCons_eq,Ajh];simp only[aA,fNil_eq,aF,ap]
  have hcn:c≠M1.length:=Ze
  have q1:((M1++[HU.lst []]).set c ZZ)[c]? = ξ (.lst ((rs++[M1.length]).map U.ref)):=by
   rw[bI (by simp;omega),cP];rfl
  have q2:((M1++[HU.lst []]).set c ZZ)[M1.length]? = ξ (.lst []):=by
   rw[bF hcn];simp
  have q3:∀ b o,b≠c->M1[b]? = ξ o->((M1++[HU.lst []]).set c ZZ)[b]? = ξ o:=fun b o hb ho=>by
   rw[bF (fN hb)];exact (Gw.new M1 _).get ho
  have qg:∀ L,L.length<=lo->Gw L M1->Gw L ((M1++[HU.lst []]).set c ZZ):=fun L hL g=>(g.trans Z6).set (by have:=A.lo.1;omega) _
  have ql:M1.length < ((M1++[HU.lst []]).set c ZZ).length:=Za
  generalize (M1++[HU.lst []]).set c ZZ=M2 at s3 q1 q2 q3 qg ql;have hix:Am (.ref c) ZbC M2=ξ (.ref M1.length,M2):=Rq q1 (Wa (by rw[h,<- A1.len];simp));have ap2:=G7 (eU (p,cw++[p])) q2 Za;have ty2:=Hx q2;have hrsn:M1.length∉rs:=fun hm=>by
   obtain ⟨i,hi,he⟩:=dS hm;have hci:i < cs.length:=by rw[<- A1.len];exact hi
   have:=(aI.mp (A1.ch i rs[i] _ (aE hi) (aE hci))).1;omega
  refine ⟨ξ ZbC,ξ (.tup (cw.map nmC)),rs++[M1.length],M2.set M1.length (.lst ([]++[eU (p,cw++[p])])),?_,?_,fun L hL g=>(qg L hL (g.trans g1)).set (by have:=(g.trans g1).le;omega) _,fun b o hb hbr ho=>?_⟩
  ·unfold Dt;rw[Al s1,Al s2,Al s3];have v:(f2 Am (Ad 1) (Ad 3)) Zr M2=ξ (.ref M1.length,M2):=Gu rfl rfl hix;rw[Hc,fMeth_eq,v];simp only[aA,ty2,if_true];rw[fCons_eq,ent M2];simp only[aA,fNil_eq,aF,ap2]
  ·rw[lays,if_pos h];refine ⟨?_,by simp[A1.len],fun i r l h1 h2=>?_,?_,?_,A.lo.1,fun r hr=>?_⟩
   ·rw[bF (fN hcn)];exact q1
   ·by_cases hi:i < cs.length
    ·rw[bC (by rw[A1.len];exact hi)] at h1;rw[bC hi] at h2;have hrm:r∈rs:=cI h1;have hx:M1.length≠r:=fun e=>hrsn (by rw[e];exact hrm)
     rw[bF hx];exact q3 r _ (fun e:r=c=>A1.nc (by rw[<- e];exact hrm)) (A1.ch i r l h1 h2)
    ·have hl2:=(aI.mp h2).1;rw[bU,fJ] at hl2;have:i=cs.length:=Ze
     subst this;rw[bX (aP _),dC] at h2;cases h2;rw[<- A1.len,bX (aP _),dC] at h1;cases h1;rw[bI ql];rfl
   ·exact fR.mpr ⟨A1.nd,Za,fun a ha b hb e=>hrsn (by rw[bS.mp hb] at e;exact e ▸ ha)⟩
   ·intro hm;rcases cX.mp hm with q | q
    ·exact A1.nc q
    ·exact hcn (bS.mp q)
   ·rcases cX.mp hr with q | q
    ·exact A1.lo.2 r q
    ·rw[bS.mp q];have:=g1.le;omega
  ·have hbl:=(aI.mp ho).1;have:=g1.le;have hx:M1.length≠b:=Ze
   refine ⟨?_,fun hm=>?_⟩
   ·rw[bF hx];exact q3 b o hb (g1.get ho)
   ·rcases cX.mp hm with q | q
    ·exact hbr q
    ·exact hx (bS.mp q).symm
 ·have hb:(((turnOf cs p:Nat):Int) == (cs.length:Int))=false:=by simp;omega
  rw[hb] at c3;have hlt:turnOf cs p < cs.length:=Ze
  have hc:cs[turnOf cs p]? = ξ cs[turnOf cs p]:=aE hlt;obtain ⟨r,hr,hm⟩:=A1.get hc;have hrm:r∈rs:=cI hr;have hrl:=(aI.mp hm).1;have hix:Am (.ref c) ZbC M1=ξ (.ref r,M1):=Rq A1.at_ (Wa (by rw[bA,hr];rfl));have ap:=G7 (eU (p,cw++[p])) hm (by rw[aN];have:=hll _ (cW hlt);omega)
  have ty:=Hx hm;refine ⟨ξ ZbC,ξ (.tup (cw.map nmC)),rs,M1.set r (.lst (cs[turnOf cs p].map eU++[eU (p,cw++[p])])),?_,?_,fun L hL g=>(g.trans g1).set (by have:=A1.lo.2 r hrm;omega) _,fun b o hb hbr ho=>⟨?_,hbr⟩⟩
  ·unfold Dt;rw[Al s1,Al s2,Al (Mw c3)];have v:(f2 Am (Ad 1) (Ad 3)) Zr M1=ξ (.ref r,M1):=Gu rfl rfl hix;rw[Hc,fMeth_eq,v];simp only[aA,ty,if_true];rw[fCons_eq,ent M1];simp only[aA,fNil_eq,aF,ap]
  ·rw[lays,if_neg h];have hg:cs.getD Z8 []=cs[turnOf cs p]:=by rw[aC,hc];rfl
   rw[hg];refine ⟨?_,by simp[A1.len],fun i r' l h1 h2=>?_,A1.nd,A1.nc,A1.lo⟩
   ·have hx:r≠c:=fun e=>A1.nc (by rw[<- e];exact hrm)
    rw[bF hx];exact A1.at_
   ·by_cases hi:i=turnOf cs p
    ·rw[hi,hr] at h1;cases h1;rw[hi,bI hlt] at h2;cases h2;rw[bI hrl,cP];rfl
    ·rw[bF (fN hi)] at h2;have hne2:r≠r':=fun e=>by
      subst e;obtain ⟨i1,e1⟩:=aI.mp h1;obtain ⟨i2,e2⟩:=aI.mp hr;have hpw:=fX.mp (iL.mp A1.nd);rcases lC i Z8 with q | q | q
      ·exact hpw i _ i1 i2 q (e1.trans e2.symm)
      ·exact hi q
      ·exact hpw _ i i2 i1 q (e2.trans e1.symm)
     rw[bF hne2];exact A1.ch i r' l h1 h2
  ·have hx:r≠b:=fun e=>hbr (by rw[<- e];exact hrm)
   rw[bF hx];exact g1.get ho
theorem key_of_ok(p:P3)(L:UH):Vh Bk L (p3U p)=ξ (Q8 p.2):=by
 unfold Vh;rw[Cz p L];simp only[aA,if_true];rfl
theorem Ach(L:UH):∀ ps:List P3,mapO (Vh Bk L) ZL=ξ (ps.map fun p=>Q8 p.2)
 | []=>rfl
 | p::ps=>by
  rw[aS,aS];simp only[mapO,key_of_ok,Ach L ps,aA,aF]
theorem Age(hl:ps.length<=60)(h:Ad 0 δ L=ξ (.tup ZL,L)):Ly Bk (Ad 0) δ L=ξ (.ref L.length,L++[.lst ((srt ps).map p3U)]):=by
 have hall:((ps.map fun p=>Q8 p.2).all fun t=>!t.isEmpty)=true:=by
  rw[bT];intro t ht;obtain ⟨p,_,rfl⟩:=cJ.mp ht;rfl
 unfold Ly;rw[h];simp only[aA,Ach];rw[if_pos ⟨by rw[aN];omega,hall⟩];have:(srt ps).map p3U=(SO.Cc (ltK (ps.map fun p=>Q8 p.2)) (ps.map p3U).length).map fun i=>(ps.map p3U).getD i .non:=by
  unfold srt Ajo;rw[bW,aN];refine cM fun i hi=>?_
  have hi:i < ps.length:=bE.mp ((Lz ps).mem_iff.mp hi);show p3U (ps.getD i Ahy)=(ps.map p3U).getD i .non;rw[aC,aC,bA,aE hi];rfl
 rw[this]
theorem Af7(cs:List (List En))(h:∀ ch∈cs,ch≠[]):cs.length<=cs.flatten.length/\∀ ch∈cs,ch.length<=cs.flatten.length:=by
 induction cs with
 | nil=>simp
 | cons c cs ih=>
  obtain ⟨i1,i2⟩:=ih fun ch hc=>h ch (aK _ hc)
  have:0 < c.length:=fH.mpr (h c (aQ ..));rw[eK,bU,aO];refine ⟨Ze,fun ch hc=>?_⟩;rcases bG.mp hc with e | e
  ·rw[e];omega
  ·have:=i2 ch e;omega
theorem Laid.lens(A:Laid cs dn):cs.length<=dn.length/\∀ ch∈cs,ch.length<=dn.length:=by
 have h:=Af7 cs A.ne;have e:=A.perm.length_eq;rw[aN] at e;rw[e] at h;exact h
theorem U9{β:Type}[DecidableEq β]{a b:List β}(h:a.Nodup)(hs:∀ x∈a,x∈b):a.length<=b.length:=by
 induction a generalizing b with
 | nil=>exact dW _
 | cons x a ih=>
  obtain ⟨h1,h2⟩:=gZ.mp h;have hx:=hs x (aQ ..);have:=ih (b:=b.erase x) h2 fun y hy=>(rM (fun e:y=x=>h1 (by rw[<- e];exact hy))).mpr (hs y (aK _ hy))
  rw[oX hx] at this;have:0 < b.length:=List.length_pos_of_mem hx;rw[aO];omega
theorem Ake(hl:ps.length<=60)(hn:ps.Nodup)(L:UH):∃ (rs:List Nat) (L':UH),Ic [.tup ZL] L=ξ (.ref L.length,L')/\CH L' L.length L.length rs (Jm (srt ps))/\Gw L L':=by
 have hup:=Y7 ps;have hnd:(srt ps).Nodup:=(Ku ps).nodup_iff.mpr hn;have hlen:(srt ps).length<=60:=by rw[(Ku ps).length_eq];exact hl
 have s1:=F7 (i:=1) (Ajh [ξ Zf,ψ,ψ,ψ,ψ] L);simp only[bR,bJ] at s1;have e2:=Age (ps:=ps) hl (δ:=[ξ Zf,ξ Zt,ψ,ψ,ψ]) (L:=L++[.lst []]) rfl;generalize hqs:srt ps=qs at hup hnd hlen e2;have hs:(L++[HU.lst []]++[HU.lst Zc1])[(L++[HU.lst []]).length]? = ξ (.lst Zc1):=Za
 have hi:Bj (Ly Bk (Ad 0)) [ξ Zf,ξ Zt,ψ,ψ,ψ] (L++[.lst []])=ξ (.ref (L++[HU.lst []]).length,L++[HU.lst []]++[HU.lst Zc1]):=by
  rw[F8,e2];simp only[aA,Du (Aj hs),aF]
 have hsl:L.length≠(L++[HU.lst []]).length:=Za
 generalize hsr:(L++[HU.lst []]).length=sr at hs hi hsl;have hc0:(L++[HU.lst []]++[HU.lst Zc1])[L.length]? = ξ (.lst []):=Za
 have g0:Gw L (L++[HU.lst []]++[HU.lst Zc1]):=(Gw.new _ _).trans Z6;generalize L++[HU.lst []]++[HU.lst Zc1]=L2 at hs hi hc0 g0;obtain ⟨δ',L',e,y2,y3,y4,rs,hδ,A,hsr',hsn,gL⟩:=Ab0 (us:=qs.map p3U) (n:=sr) (body:=Dt) (g:=gN 2)
  (fun k δ' M=>∃ (y2 y3 y4:Option U) (rs:List Nat),δ'=[ξ Zf,ξ Zt,y2,y3,y4]/\CH M L.length L.length rs (Jm (qs.take k))/\M[sr]? = ξ (.lst Zc1)/\sr∉rs/\Gw L M)
  hi ⟨ψ,ψ,ψ,[],rfl,⟨hc0,rfl,fun i r l h=>by simp at h,.nil,Za,aP _,Za⟩,hs,Za,g0⟩
  (fun k δ M ⟨_,_,_,_,_,_,h,_⟩=>Aj h)
  (fun k u δ M hu ⟨y2,y3,y4,rs,hδ,A,hsr',hsn,gL⟩=>by
   subst hδ;rw[bA] at hu;obtain ⟨p,hp,rfl⟩:=aJ.mp hu;have hk:=(aI.mp hp).1;have hpk:qs.take (k+1)=qs.take k++[p]:=by rw[iR,hp];rfl
   have hu1:(qs.take (k+1)).Pairwise LeK:=hup.sublist (jL _ _);have hn1:(qs.take (k+1)).Nodup:=hnd.sublist (jL _ _);have B:=Ko (qs.take k) (hup.sublist (jL _ _)) (hnd.sublist (jL _ _));rw[hpk] at hu1 hn1;obtain ⟨_,_,h3⟩:=fD.mp hu1;obtain ⟨_,_,n3⟩:=fR.mp hn1;obtain ⟨f1,f2,f3,f4⟩:=Qc B (p:=p) (fun c hc=>h3 c hc p Za) (fun hp=>n3 p hp p Za rfl) (t:=turnOf (Jm (qs.take k)) p) rfl;have ln:=B.lens;have htk:(qs.take k).length<=60:=by rw[eQ];omega
   have hcl:(B6 (Jm (qs.take k)) (turnOf (Jm (qs.take k)) p)).length<=60:=eC (U9 (fR.mp f4).1 f3) htk;obtain ⟨z3,z4,rs',M',e,A',gk,kp⟩:=Afk A gL.le B.ne Ze (fun ch hc=>eC (ln.2 ch hc) htk) p hcl (ξ Zf) y3 y4;obtain ⟨k1,k2⟩:=kp sr _ (fN hsl) hsn hsr';refine ⟨[ξ Zf,ξ Zt,ξ (p3U p),y3,y4],M,rfl,_,M',.inl e,ξ (p3U p),z3,z4,rs',rfl,?_,k1,k2,gk L (aP _) gL⟩;rw[hpk];unfold Jm;rw[List.foldl_append];exact A')
 rw[aN,pJ] at A;rw[hδ] at e;refine ⟨rs,L',fnN rfl ?_,A,gL⟩;unfold My;show Bb _ _ [ξ Zf,ψ,ψ,ψ,ψ] L=_;rw[Al s1,Al e];rfl
noncomputable def topC(cs:List (List En)):List P3:=B6 cs cs.length
theorem Alk(s:Str)(l:List Str):inV (.str s) (l.map L2.V.str)=decide (s∈l):=by
 induction l with
 | nil=>rfl
 | cons a r ih=>
  have h1:inV (.str s) (wI L2.V.str (a::r))=(eqV (.str a) (.str s) || inV (.str s) (r.map L2.V.str)):=rfl;have h2:eqV (.str a) (.str s)=(a == s):=rfl;rw[h1,ih,h2];by_cases h:a=s
  ·simp[h]
  ·have h':¬ s=a:=fun z=>h z.symm
   simp[h,h']
theorem toV_strs(ts:List Str):mapO toV (ts.map U.str)=ξ (ts.map L2.V.str):=by
 induction ts with
 | nil=>rfl
 | cons t ts ih=>simp only[aS,mapO,toV,ih,aA,aF]
theorem Anr(ws:List P3):ws.map nmC=(ws.map (·.1)).map U.str:=by rw[bW];rfl
theorem Af8(a:Str)(ws:List P3)(L:UH):Yd false (.str a) (.tup (ws.map nmC)) L=ξ (.bl ((ws.map (·.1)).contains a),L):=by
 unfold Yd;simp only[Anr,toV,aA,toV_strs,aF,Alk];simp
noncomputable def inC(w:List P3)(p:P3):Bool:=(w.map (·.1)).contains p.1
noncomputable def Aog(ps:List P3):U:=.tup (ps.map nmC)
theorem Ag4(hl:ps.length<=60)(hn:ps.Nodup)(L:UH):∃ L',E6 [.tup ZL] L=ξ (Aog (ps.filter (inC (topC (Jm (srt ps))))),L')/\Gw L L':=by
 obtain ⟨rs,L1,e1,A,g1⟩:=Ake hl hn L;have B:=Ko (srt ps) (Y7 ps) ((Ku ps).nodup_iff.mpr hn);have hpe:=(Ku ps).length_eq;generalize hcs:Jm (srt ps)=cs at A B;have s1:=F7 (i:=1) (Fb (i:=0) (δ:=[ξ Zf,ψ,ψ]) rfl e1);simp only[bR,bJ] at s1;have tr:Uo Zt L1=ξ (!(rs.map U.ref).isEmpty):=by
  unfold Uo;simp only[A.at_]
 have c2:(Ph (Js (Ad 1))) [ξ Zf,ξ Zt,ψ] L1=ξ (!!(rs.map U.ref).isEmpty,L1):=by
  have v:Ad 1 [ξ Zf,ξ Zt,ψ] L1=ξ (.ref L.length,L1):=rfl;rw[Qz,fTru_eq,v];simp only[aA,tr,aF]
 have hb:∀ v M',Jz [ξ Zf,ψ,ψ] L=ξ (.rt v,M')->E6 [.tup ZL] L=ξ (v,M'):=fun v M' h=>fnN rfl h
 by_cases hc:cs=[]
 ·subst hc;have hr:rs=[]:=gY.mp A.len;subst hr;refine ⟨L1,hb _ _ ?_,g1⟩;have hps:ps.filter (inC (topC []))=[]:=List.filter_eq_nil_iff.mpr fun p _=>by simp[inC,topC,B6]
  rw[hps];unfold Jz;rw[Al s1,fSeq_eq,Dz,c2];rfl
 ·obtain ⟨t,ht⟩:∃ t,cs.length=t+1:=⟨cs.length - 1,by have:=fH.mpr hc;omega⟩;have hne:(rs.map U.ref).isEmpty=false:=by
   cases rs with
   | nil=>have:=A.len;simp at this;exact absurd this.symm Ze
   | cons=>rfl
  rw[hne] at c2;have hct:cs[t]? = ξ cs[t]:=aE Ze;obtain ⟨r,hr,hm⟩:=A.get hct;obtain ⟨e,he⟩:∃ e,cs[t].getLast? = ξ e:=by
   cases hg:cs[t].getLast? with
   | none=>exact absurd (fY.mp hg) (B.ne _ (cW Ze))
   | some e=>exact ⟨e,rfl⟩
  have htop:topC cs=e.2:=by
   unfold topC;rw[ht];show ((cs.getD t []).getLast?.map (·.2)).getD []=e.2;rw[aC,hct];simp[he]
  have hlast:rs.getLast? = ξ r:=by
   rw[nX,A.len,ht];exact hr
  have s3:=F7 (i:=2) (δ:=[ξ Zf,ξ Zt,ψ]) (Gu (s:=Am) (fb:=fC (.int 1)) (Gu (s:=Am) (Gu (s:=Am) (fa:=Ad 1) rfl (Aj8 _ L1) (Rq A.at_ (atI_last (by rw[tJ,hlast];rfl)))) (Aj8 _ L1) (Vw hm he)) rfl (w:=.tup (e.2.map nmC)) (L3:=L1) rfl);simp only[bR,bJ] at s3;rw[htop];obtain ⟨x,e4⟩:=Br (ix:=[ψ,ξ 2]) (fi:=Bj (Ad 0)) (it:=.seq ZL) (g:=gN 0) (tt:=ξ Mt) (fe:=Mj) (δ:=[ξ Zf,ξ Zt,ξ (.tup (e.2.map nmC))]) (L:=L1) (L0:=L1)
   ps p3U (inC e.2) nmC (fun δ=>∃ a,δ = [a,ξ (.tup (e.2.map nmC))]) rfl (by simp[IU.size]) Ze ⟨ψ,rfl⟩
   ZbQ
   (fun p δ x _ ⟨y,hδ⟩=>by
    subst hδ;refine ⟨[ξ (p3U p),ξ (.tup (e.2.map nmC))],rfl,⟨_,rfl⟩,[],?_,fun _=>⟨[],?_⟩⟩
    ·rw[bO];exact Vt (Gu (Gu rfl rfl rfl) rfl (Af8 p.1 e.2 _))
    ·rw[bO,bO];rfl)
  have q2:Ap (L1++x++[HU.lst ZcL]) (L1++x).length=ξ ZcL:=Aj Za;refine ⟨L1++x++[HU.lst ZcL],hb _ _ ?_,(g1.trans Z6).trans Z6⟩;unfold Jz;rw[Al s1,Al (Mw c2),Al s3];refine Tt (Agj e4 ?_);simp only[semTuple,q2,aF];rfl
theorem Yn(hn:(ps.map (·.1)).Nodup){q:P3}(hp:p∈ps)(hq:q∈ps)(h:p.1=q.1):p=q:=by
 induction ps with
 | nil=>cases hp
 | cons a ps ih=>
  rw[aS] at hn;obtain ⟨n1,n2⟩:=gZ.mp hn;rcases bG.mp hp with e | e
  ·rcases bG.mp hq with f | f
   ·rw[e,f]
   ·subst e;exact absurd (cJ.mpr ⟨q,f,h.symm⟩) n1
  ·rcases bG.mp hq with f | f
   ·subst f;exact absurd (cJ.mpr ⟨p,e,h⟩) n1
   ·exact ih n2 e f
theorem Qa{β:Type}[DecidableEq β]:∀ {a b:List β},a.Nodup->(∀ x∈a,x∈b)->b.length<=a.length->a.Perm b
 | [],b,_,_,hl=>by
  have:b=[]:=gY.mp (Nat.le_zero.mp hl);rw[this]
 | x::a,b,h,hs,hl=>by
  obtain ⟨h1,h2⟩:=gZ.mp h;have hx:=hs x (aQ ..);have hb:=oX hx;have:=Qa (b:=b.erase x) h2 (fun y hy=>(rM (fun e:y=x=>h1 (by rw[<- e];exact hy))).mpr (hs y (aK _ hy))) (by rw[hb,<- Nat.add_le_add_iff_right (n:=1)];rw[aO] at hl;omega)
  exact (this.cons x).trans (List.perm_cons_erase hx).symm
theorem below_self(p:Int×Int):below p p=false:=by
 cases h:below p p with
 | false=>rfl
 | true=>exact absurd rfl ((below_iff p p).mp h).2.2
theorem Ut(A:Laid cs dn):(topC cs).length=cs.length/\(topC cs).Pairwise Rr/\(∀ c∈topC cs,c∈dn)/\(topC cs).Nodup:=by
 unfold topC;cases hl:cs.length with
 | zero=>simp[B6]
 | succ t=>
  have hct:cs[t]? = ξ cs[t]:=aE Ze;obtain ⟨e,he⟩:∃ e,cs[t].getLast? = ξ e:=by
   cases hg:cs[t].getLast? with
   | none=>exact absurd (fY.mp hg) (A.ne _ (cW Ze))
   | some e=>exact ⟨e,rfl⟩
  have htop:B6 cs (t+1)=e.2:=by
   show ((cs.getD t []).getLast?.map (·.2)).getD []=e.2;rw[aC,hct];simp[he]
  rw[htop];obtain ⟨c1,_,c3,c4,c5⟩:=A.cr t _ hct e (mH he);exact ⟨c1,c3,c4,c5⟩
theorem Aew(hn:(ps.map (·.1)).Nodup):ps.Nodup:=(eW.mp hn).imp fun h e=>h (by rw[e])
noncomputable def Rf(ps:List P3)(top:List P3):List Str:=(ps.filter (inC top)).map (·.1)
theorem Aal(hn:(ps.map (·.1)).Nodup)(A:Laid cs dn)(hd:dn.Perm ps):(Rf ps (topC cs)).length=cs.length/\(Rf ps (topC cs)).Nodup/\(∀ p∈ps,p.1∈Rf ps (topC cs)->p∈topC cs)/\∀ p∈topC cs,∀ q∈topC cs,below p.2 q.2=false:=by
 obtain ⟨t1,t2,t3,t4⟩:=Ut A;have htp:∀ c∈topC cs,c∈ps:=fun c hc=>hd.mem_iff.mp (t3 c hc)
 have hmem:∀ p,p∈ps.filter (inC (topC cs))↔p∈topC cs:=fun p=>by
  rw[eN];unfold inC;simp only[List.contains_iff_mem];constructor
  ·rintro ⟨h1,h2⟩;obtain ⟨q,hq,he⟩:=cJ.mp h2;rw[<- Yn hn (htp q hq) h1 he];exact hq
  ·exact fun h=>⟨htp p h,cJ.mpr ⟨p,h,rfl⟩⟩
 have hperm:(ps.filter (inC (topC cs))).Perm (topC cs):=Qa ((Aew hn).sublist List.filter_sublist) (fun p hp=>(hmem p).mp hp) (U9 t4 fun p hp=>(hmem p).mpr hp);refine ⟨by unfold Rf;rw[aN,hperm.length_eq,t1],hn.sublist (List.filter_sublist.map _),fun p hp h=>?_,fun p hp q hq=>?_⟩
 ·obtain ⟨q,hq,he⟩:=cJ.mp h;rw[<- Yn hn (eN.mp hq).1 hp he];exact (hmem q).mp hq
 ·obtain ⟨i,hi,rfl⟩:=dS hp;obtain ⟨j,hj,rfl⟩:=dS hq;have hpw:=fX.mp t2;rcases lC i j with h | h | h
  ·exact (hpw i j hi hj h).no.1
  ·subst h;exact below_self _
  ·exact (hpw j i hj hi h).no.2
theorem Anc{w t:U}(h:∀ M,Ad i δ M=ξ (u,M))(h2:∀ M,Ad j δ M=ξ (w,M))(h3:∀ M,Ad k δ M=ξ (t,M))(e:f [u,w,t] L=ξ (v,L')):(Ay 3 f (Ac (Ad i) (Ac (Ad j) (Ac (Ad k) Af)))) δ L=ξ (v,L'):=by
 rw[fOwn_eq,fCons_eq,h,aA,fCons_eq,h2,aA,fCons_eq,h3];simp only[aA,fNil_eq,aF,aO,aX,if_true,e]
theorem Aj1(l:List U)(f m:Nat)(h:f<=m)(hm:m<=l.length):T4 l (ξ (f:Int)) (ξ (m:Int))=(l.drop f).take (m - f):=by
 unfold T4;have e1:min f l.length=f:=Ze
 have e2:min m l.length=m:=Ze
 rw[HT.Qs,HT.Qs,e1,e2]
noncomputable def mid{β:Type}(l:List β)(f m:Nat):List β:=(l.drop f).take (m - f)
theorem Qu{β:Type}(l:List β)(f m:Nat)(hm:m<=l.length):(mid l f m).length=m - f:=by unfold mid;simp;omega
variable {m:Nat}
theorem Af4{β:Type}{f:Nat}{qs:List β}(g:β->U)(h:L[r]? = ξ (.lst (qs.map g)))(hf:f<=m)(hm:m<=qs.length):semSl (.ref r) (ξ (f:Int)) (ξ (m:Int)) L=ξ (.ref L.length,L++[.lst ((mid qs f m).map g)]):=by
 unfold semSl;simp only[Aj h,aF];rw[Aj1 _ _ _ hf (by rw[aN];exact hm),<- xA,<- sA];rfl
noncomputable def toL(q:Int×Int):List Int:=[q.1,q.2]
noncomputable def ofL(l:List Int):Int×Int:=(l.getD 0 0,l.getD 1 0)
theorem Anw(qs:List (Int×Int)):(qs.map toL).map ofL=qs:=by rw[bW];exact (cM fun q _=>rfl).trans (vJ qs)
noncomputable def sp(qs:List (Int×Int)):List (Int×Int):=(K8 ZdI).map ofL
theorem Wb(qs:List (Int×Int)):(sp qs).Perm qs:=by
 have:=(Jj ZdI).map ofL;rwa [Anw] at this
theorem sp_len(qs:List (Int×Int)):(sp qs).length=qs.length:=(Wb qs).length_eq
theorem Af0(qs:List (Int×Int)):(sp qs).map toL=K8 ZdI:=by
 unfold sp;rw[bW];refine (cM fun l hl=>?_).trans (vJ _);obtain ⟨q,_,rfl⟩:=cJ.mp ((Jj ZdI).mem_iff.mp hl);rfl
theorem Vk(qs:List (Int×Int)):((sp qs).map toL).Pairwise leT:=by rw[Af0];exact Ju _
theorem Ar5(qs:List (Int×Int)):mapO Nj (qs.map pr)=ξ ZdI:=by
 induction qs with
 | nil=>rfl
 | cons q qs ih=>
  have:Nj (pr q)=ξ (toL q):=rfl;rw[aS,aS];simp only[mapO,this,ih,aA,aF]
variable {qs:List (Int×Int)}
theorem U8(h:Ap L r=ξ (qs.map pr))(hl:qs.length < 64):Fo [.ref r] L=ξ (.ref L.length,L++[.lst ((sp qs).map pr)]):=by
 have hm:(K8 ZdI).map tupI=(sp qs).map pr:=by
  rw[<- Af0,bW];rfl
 unfold Fo;simp only[h,aA,Ar5];rw[if_pos,hm];refine ⟨by rw[aN];exact hl,?_⟩;rw[bT];intro t ht;obtain ⟨q,_,rfl⟩:=cJ.mp ht;rfl
noncomputable def cnt(qs:List (Int×Int))(q:Int×Int):Int:=((qs.filter fun o=>below o q).length:Nat)
theorem Mq(q:Int×Int)(hr:Ap L r=ξ (qs.map pr))(hl:qs.length < 1000000):∃ L',Ff [.ref r,pr q] L=ξ (.int (cnt qs q),L')/\Gw L L':=by
 obtain ⟨x,e⟩:=Br (ix:=[ψ,ξ 1]) (fi:=Bj (Ad 0)) (it:=.ref r) (g:=gN 0) (tt:=ξ b_many_below_1t) (fe:=Gi) (δ:=[ξ (.ref r),ξ (pr q)]) (L:=L) (L0:=L)
  qs pr (fun o=>below o q) pr (fun δ=>∃ a,δ = [a,ξ (pr q)]) (by simp[Du hr]) (by rw[Fe hr];simp) Ze ⟨ψ,rfl⟩
  ZcX
  (fun a δ x _ ⟨y,hδ⟩=>by
   subst hδ;obtain ⟨xl,hx⟩:=Qv a q (L++x);refine ⟨_,rfl,⟨_,rfl⟩,xl,?_,fun _=>⟨[],?_⟩⟩
   ·simp[E9,b_many_below_1t,hx]
   ·simp[Gi])
 have q1:(L++x++[HU.lst Za5])[(L++x).length]? = ξ (.lst Za5):=Za
 have hlen:=Hz q1;rw[aN] at hlen;refine ⟨L++x++[HU.lst Za5],?_,⟨x++[HU.lst Za5],by rw[bM]⟩⟩;unfold Ff fnU Oh;simp only[aO,aX,if_true,aS,bP,dC,dA,bO,fRet_eq,fCall_eq,fCons_eq,fNil_eq,aF,aA,e,hlen,cnt]
noncomputable def Ft(lo up:List (Int×Int)):Int:=(up.map fun q=>cnt lo q).sum
theorem V3{a:Nat}{lo up:List (Int×Int)}(ha:Ap L a=ξ (lo.map pr))(hb:Ap L b=ξ (up.map pr))(h1:lo.length < 1000)(h2:up.length < 1000):∃ L',D7 [.ref a,.ref b] L=ξ (.int (Ft lo up),L')/\Gw L L':=by
 obtain ⟨x,e⟩:=Br (ix:=[ψ,ξ 0]) (fi:=Bj (Ad 1)) (it:=.ref b) (g:=gN 0) (tt:=ψ) (fe:=Fd) (δ:=[ξ (.ref a),ξ (.ref b)]) (L:=L) (L0:=L)
  up pr ZN (fun q=>.int (cnt lo q)) (fun δ=>∃ z,δ = [z,ξ (.ref a)]) (by simp[Du hb]) (by rw[Fe hb];simp) Ze ⟨ψ,rfl⟩
  (fun k x=>Jv (Cd hb))
  (fun q δ x _ ⟨y,hδ⟩=>by
   subst hδ;obtain ⟨L',e3,w,hw⟩:=Mq (L:=L++x) q (Cd ha) Ze;refine ⟨[ξ (pr q),ξ (.ref a)],rfl,⟨_,rfl⟩,[],by simp[E9],fun _=>⟨w,?_⟩⟩;rw[bO,<- hw];unfold Fd;exact X8 (i:=1) (j:=0) rfl rfl e3)
 have hff:gR ZN up=up:=cR.mpr Zj;have hmm:up.map (fun q=>U.int (cnt lo q))=(up.map fun q=>cnt lo q).map U.int:=by rw[bW];rfl
 rw[hff,hmm] at e;have q2:Ap (L++x++[HU.lst Za8]) (L++x).length=ξ Za8:=Aj Za;have hs:semSum [.ref (L++x).length] (L++x++[HU.lst Za8])=ξ (.int (Ft lo up),L++x++[HU.lst Za8]):=by
  simp only[semSum,q2,aA,toI_ints,aF,Ft]
 generalize Ft lo up=sm at hs;generalize (up.map fun q=>cnt lo q).map U.int=us at e hs;refine ⟨L++x++[HU.lst us],?_,⟨x++[HU.lst us],by rw[bM]⟩⟩;unfold D7 fnU Kr;simp only[aO,aX,if_true,aS,bP,dC,dA,bO];rw[fRet_eq,fCall_eq,fCons_eq,e];simp only[aA,fNil_eq,aF,hs]
noncomputable abbrev Tri:=Nat×Nat×Int
noncomputable def Ie(t:Tri):U:=.tup [.int (t.1:Int),.int (t.2.1:Int),.int t.2.2]
noncomputable def hv(qs:List (Int×Int))(f b:Nat):List Tri:=
 if _h:b - f < 2 then [] else (f,b,Ft (mid qs f Z3) (mid qs Z3 b))::(hv qs f Z3++hv qs Z3 b)
termination_by b - f
decreasing_by all_goals omega
theorem Wv(qs:List (Int×Int)):∀ (n f b:Nat),b - f<=n->(hv qs f b).length<=b - f - 1
 | 0,f,b,h=>by rw[hv,dif_pos Ze];simp
 | n+1,f,b,h=>by
  rw[hv];by_cases hc:b - f < 2
  ·rw[dif_pos hc];simp
  ·rw[dif_neg hc];have h2:=Wv qs n f Z3 Ze;have h3:=Wv qs n Z3 b Ze;simp only[aO,bU];omega
theorem Af2(f b:Nat)(h:f<=b):(f:Int)+((b:Int) - (f:Int)) / 2=((f+(b - f) / 2:Nat):Int):=Ze
theorem Auw(u:U)(h:fe δ M=ξ (u,M)):(El (Ac fe Af)) δ M=ξ (.ref M.length,M++[.lst [u]]):=by
 simp only[fLst_eq,fCons_eq,h,fNil_eq,aA,aF];rw[if_pos ZaT]
theorem Aiv{a b:List U}(h1:L[n]? = ξ (.lst a))(h2:L[m]? = ξ (.lst b))(hl:a.length+b.length<=1000):Be (.ref n) (.ref m) L=ξ (.ref L.length,L++[.lst (a++b)]):=by
 unfold Be;simp only[Dh h1,Dh h2,aA];rw[if_pos (small_of Ze)]
theorem Aa2(hq:qs.length<=100):∀ (k f b r:Nat) (L:UH),f<=b->b<=qs.length->b - f<=2 ^ k->L[r]? = ξ (.lst (qs.map pr)) ->
  ∃ (r':Nat) (L':UH),By (k+1) [.ref r,.int (f:Int),.int (b:Int)] L=ξ (.ref r',L')/\L'[r']? = ξ (.lst ((hv qs f b).map Ie))/\Gw L L':=by
 intro k;induction k with
 | zero=>
  intro f b r L hfb hb hk hr;have hlt:decide Zd3=true:=decide_eq_true (by simp at hk;omega);refine ⟨L.length,L++[.lst []],?_,by rw[hv,dif_pos (by simp at hk;omega)];simp,Gw.new _ _⟩;show (fnU 6 3 (B4 (By 0))) _ L=_;unfold fnU B4;simp only[aO,aX,if_true,aS,bP,bL,cS,cZ];have s1:(Ba (f2 Bq (Ad 2) (Ad 1)) (gN 3)) [ξ (.ref r),ξ (.int (f:Int)),ξ (.int (b:Int)),ψ,ψ,ψ] L=ξ (.nx ZC,L):=by
   simp only[fAsg_eq,f2_eq,fVar_eq,aV,aM,aY,aF,aA,semSub_int,gN_eq,bR,bJ]
  rw[Al s1,fSeq_eq,Dz];simp only[fTest_eq,f2_eq,fVar_eq,fC_eq,aV,aM,aY,aF,aA,semLt_int,hlt,if_true,fRet_eq,Ajh]
 | succ k ih=>
  intro f b r L hfb hb hk hr;have s1:(Ba (f2 Bq (Ad 2) (Ad 1)) (gN 3)) [ξ (.ref r),ξ (.int (f:Int)),ξ (.int (b:Int)),ψ,ψ,ψ] L=ξ (.nx ZC,L):=by
   simp only[fAsg_eq,f2_eq,fVar_eq,aV,aM,aY,aF,aA,semSub_int,gN_eq,bR,bJ]
  by_cases hc:b - f < 2
  ·have hlt:decide Zd3=true:=decide_eq_true Ze;refine ⟨L.length,L++[.lst []],?_,by rw[hv,dif_pos hc];simp,Gw.new _ _⟩;show (fnU 6 3 (B4 (By (k+1)))) _ L=_;unfold fnU B4;simp only[aO,aX,if_true,aS,bP,bL,cS,cZ];rw[Al s1,fSeq_eq,Dz];simp only[fTest_eq,f2_eq,fVar_eq,fC_eq,aV,aM,aY,aF,aA,semLt_int,hlt,if_true,fRet_eq,Ajh]
  ·have hlt:decide Zd3=false:=decide_eq_false Ze;have h2k:2 ^ (k+1)=2 ^ k+2 ^ k:=by rw[Nat.pow_succ];omega
   have hmid:=Af2 f b hfb;have hu:hv qs f b=(f,b,Ft (mid qs f Z3) (mid qs Z3 b))::(hv qs f Z3++hv qs Z3 b):=by rw[hv,dif_neg hc]
   have hm1:f<=f+(b - f) / 2:=Ze
   have hm2:f+(b - f) / 2<=b:=Ze
   have hm3:f+(b - f) / 2 - f<=2 ^ k:=Ze
   have hm4:b - Z3<=2 ^ k:=Ze
   generalize f+(b - f) / 2=m at hmid hu hm1 hm2 hm3 hm4;have hdiv:Kl ((b:Int) - (f:Int)) 2=true:=Kj Zb Zb;have s2:(Ek (Bp (f2 P8 (Ad 3) ZaK)) (Bx (El Af)) Cf) ZC L=ξ (.nx ZC,L):=by
    simp only[Dz,fTest_eq,f2_eq,fVar_eq,fC_eq,aV,aM,aY,aF,aA,semLt_int,hlt,bV,if_false,Sb]
   have s3:(Ba (f2 Be (Ad 1) (f2 Fy (Ad 3) ZaK)) (gN 4)) ZC L=ξ (.nx [ξ (.ref r),ξ (.int (f:Int)),ξ (.int (b:Int)),ξ (.int ((b:Int) - (f:Int))),ξ (.int (m:Int)),ψ],L):=by
    simp only[fAsg_eq,f2_eq,fVar_eq,fC_eq,aV,aM,aY,aF,aA,semDiv_int,hdiv,if_true,semAdd_int,hmid,gN_eq,bR,bJ]
   have c1:=Af4 pr hr hm1 (by omega:m<=qs.length);have gA:Gw L (L++[HU.lst ZcY]):=Gw.new _ _;have hA:(L++[HU.lst ZcY])[L.length]? = ξ (.lst ZcY):=Za
   have c2:=Af4 pr (gA.get hr) hm2 hb;generalize hLA:L++[HU.lst ZcY]=LA at c1 gA hA c2;have gB:Gw LA (LA++[HU.lst ZcZ]):=Gw.new _ _;have hB:(LA++[HU.lst ZcZ])[LA.length]? = ξ (.lst ZcZ):=Za
   generalize hLB:LA++[HU.lst ZcZ]=LB at c2 gB hB;obtain ⟨LC,c3,gC⟩:=V3 (Aj (gB.get hA)) (Aj hB) (by rw[Qu _ _ _ Ze];omega) (by rw[Qu _ _ _ hb];omega);generalize Ft (mid qs f m) (mid qs m b)=cr at c3 hu;have gLC:Gw L LC:=(gA.trans gB).trans gC;have s4:(Ba (C0 (Ac (Ad 1) (Ac (Ad 2) (Ac (Ay 2 D7 (Ac (fSl semSl (Ad 0) (Gs (Ad 1)) (Gs (Ad 4))) (Ac (fSl semSl (Ad 0) (Gs (Ad 4)) (Gs (Ad 2))) Af))) Af)))) (gN 5)) [ξ (.ref r),ξ (.int (f:Int)),ξ (.int (b:Int)),ξ (.int ((b:Int) - (f:Int))),ξ (.int (m:Int)),ψ] L=ξ (.nx ZB,LC):=by
    have sm3:small (0+1+1+1)=true:=small_of Zb;simp only[fAsg_eq,fTup_eq,fCons_eq,fVar_eq,fOwn_eq,fSl_eq,Yz,fNil_eq,aV,aM,aY,aF,aA,c1,c2,aO,aX,if_true,c3,sm3,gN_eq,bR,bJ];rfl
   obtain ⟨r1,L1,i1,j1,g1⟩:=ih f m r (LC++[.lst [Ie (f,b,cr)]]) hm1 Ze hm3 ((gLC.trans Z6).get hr);have jW:L1[LC.length]? = ξ (.lst [Ie (f,b,cr)]):=g1.get Za;have hl1:=Wv qs (m - f) f m (aP _);have hl2:=Wv qs (b - m) m b (aP _);have a1:=Aiv jW j1 (by simp;omega);have gD:Gw LC L1:=(Gw.new _ _).trans g1;have jD:(L1++[HU.lst Zcq])[L1.length]? = ξ (.lst Zcq):=Za
   obtain ⟨r2,L2,i2,j2,g2⟩:=ih m b r (L1++[.lst Zcq]) hm2 hb hm4 (((gLC.trans gD).trans Z6).get hr);have a2:=Aiv (g2.get jD) j2 (by simp;omega);refine ⟨L2.length,L2++[.lst ([Ie (f,b,cr)]++(hv qs f m).map Ie++(hv qs m b).map Ie)],?_,by rw[hu];simp,((gLC.trans gD).trans Z6).trans (g2.trans Z6)⟩
   show (fnU 6 3 (B4 (By (k+1)))) _ L=_;unfold fnU B4;simp only[aO,aX,if_true,aS,bP,bL,cS,cZ];rw[Al s1,Al s2,Al s3,Al s4];have w1:=Auw (Ie (f,b,cr)) (fe:=Ad 5) (δ:=ZB) (M:=LC) rfl;have w2:=Anc (i:=0) (j:=1) (k:=4) (δ:=ZB) Zb3 Zb3 Zb3 i1;have w3:=Anc (i:=0) (j:=4) (k:=2) (δ:=ZB) Zb3 Zb3 Zb3 i2;rw[fRet_eq,f2_eq,f2_eq,w1];simp only[aA,w2,a1,w3,a2,aF];simp only[cS,cZ]
theorem Wn(ps:List Zb7)(hl:ps.length<=60)(L:UH):∃ L',D6 [.tup ZL] L=ξ (.tup ((hv (sp (ps.map (·.2))) 0 ps.length).map Ie),L')/\Gw L L':=by
 obtain ⟨x,e⟩:=Br (ix:=[ψ]) (fi:=Bj (Ad 0)) (it:=.seq ZL) (g:=gN 0) (tt:=ψ) (fe:=Fg) (δ:=[ξ Zf,ψ]) (L:=L) (L0:=L)
  ps p3U ZN (fun p=>pr p.2) ZdV (by simp[Il]) (by simp[IU.size]) Ze ⟨ψ,rfl⟩
  ZbQ
  (fun a δ x _ ⟨y,hδ⟩=>by
   subst hδ;refine ⟨_,rfl,⟨_,rfl⟩,[],by simp[E9],fun _=>⟨[],?_⟩⟩;simp[Fg,Cz])
 have hf:∀ (l:List Zb7),gR ZN l=l:=fun l=>cR.mpr Zj
 have hm:(ps.map fun p=>pr p.2)=(ps.map (·.2)).map pr:=by rw[bW];rfl
 rw[hf,hm] at e;have q1:Ap (L++x++[HU.lst ((ps.map (·.2)).map pr)]) (L++x).length=ξ ((ps.map (·.2)).map pr):=Aj Za;have so:=U8 q1 (by rw[aN];omega);have gM:Gw L (L++x++[HU.lst ((ps.map (·.2)).map pr)]++[HU.lst ((sp (ps.map (·.2))).map pr)]):=((Gw.new L x).trans Z6).trans Z6;have hr:(L++x++[HU.lst ((ps.map (·.2)).map pr)]++[HU.lst ((sp (ps.map (·.2))).map pr)])[(L++x++[HU.lst ((ps.map (·.2)).map pr)]).length]? = ξ (.lst ((sp (ps.map (·.2))).map pr)):=Za
 have hsl:(sp (ps.map (·.2))).length=ps.length:=by rw[sp_len,aN]
 generalize L++x++[HU.lst ((ps.map (·.2)).map pr)]++[HU.lst ((sp (ps.map (·.2))).map pr)]=M at so gM hr;generalize (L++x++[HU.lst ((ps.map (·.2)).map pr)]).length=r at so hr;generalize sp (ps.map (·.2))=qs at hr hsl;have s1:(Ba (Au Fo (Ac (Bo [ψ] (Bj (Ad 0)) (gN 0) ψ Fg) Af)) (gN 1)) [ξ Zf,ψ] L=ξ (.nx [ξ Zf,ξ (.ref r)],M):=by
  rw[fAsg_eq,fCall_eq,fCons_eq,e];simp only[aA,fNil_eq,aF,so,gN_eq,bR,bJ]
 have hlen:=Hz hr;rw[aN] at hlen;obtain ⟨r',L',e2,hr',g2⟩:=Aa2 (qs:=qs) Ze 6 0 qs.length r M Ze (aP _) (by simp;omega) hr;have t2:semTuple [.ref r'] L'=ξ (.tup ((hv qs 0 qs.length).map Ie),L'):=by simp only[semTuple,Aj hr',aF]
 rw[hsl] at t2 e2 hlen;refine ⟨L',?_,gM.trans g2⟩;have e2':F0 [.ref r,.int 0,.int (ps.length:Int)] M=ξ (.ref r',L'):=e2;unfold D6 fnU Pt;simp only[aO,aX,if_true,aS,bP,bL,cS,cZ];rw[Al s1,fRet_eq,fCall_eq,fCons_eq,fOwn_eq];simp only[fCons_eq,fVar_eq,fC_eq,fCall_eq,fNil_eq,aV,aM,aY,aF,aA,hlen,aO,aX,if_true,e2',t2]
noncomputable def S3(qs:List (Int×Int))(q:Int×Int):Int:=((qs.filter fun o=>below q o).length:Nat)
theorem T3(q:Int×Int)(hr:Ap L r=ξ (qs.map pr))(hl:qs.length < 1000000):∃ L',G4 [.ref r,pr q] L=ξ (.int (S3 qs q),L')/\Gw L L':=by
 obtain ⟨x,e⟩:=Br (ix:=[ψ,ξ 1]) (fi:=Bj (Ad 0)) (it:=.ref r) (g:=gN 0) (tt:=ξ b_many_above_1t) (fe:=Ge) (δ:=[ξ (.ref r),ξ (pr q)]) (L:=L) (L0:=L)
  qs pr (fun o=>below q o) pr (fun δ=>∃ a,δ = [a,ξ (pr q)]) (by simp[Du hr]) (by rw[Fe hr];simp) Ze ⟨ψ,rfl⟩
  ZcX
  (fun a δ x _ ⟨y,hδ⟩=>by
   subst hδ;obtain ⟨xl,hx⟩:=Qv q a (L++x);refine ⟨_,rfl,⟨_,rfl⟩,xl,?_,fun _=>⟨[],?_⟩⟩
   ·simp[E9,b_many_above_1t,hx]
   ·simp[Ge])
 have q1:(L++x++[HU.lst Za6])[(L++x).length]? = ξ (.lst Za6):=Za
 have hlen:=Hz q1;rw[aN] at hlen;refine ⟨L++x++[HU.lst Za6],?_,⟨x++[HU.lst Za6],by rw[bM]⟩⟩;unfold G4 fnU N8;simp only[aO,aX,if_true,aS,bP,dC,dA,bO,fRet_eq,fCall_eq,fCons_eq,fNil_eq,aF,aA,e,hlen,S3]
theorem Ue(ps:List Zb7)(L:UH)(hl:ps.length < 1000000):∃ L',Cj [.tup ZL] L=ξ (.tup (ps.map fun p=>.int (cnt (ps.map (·.2)) p.2)),L')/\Gw L L':=by
 obtain ⟨x,e⟩:=Br (ix:=[ψ]) (fi:=Bj (Ad 0)) (it:=.seq ZL) (g:=gN 0) (tt:=ψ) (fe:=Ga) (δ:=[ξ Zf,ψ]) (L:=L) (L0:=L)
  ps p3U ZN (fun p=>pr p.2) ZdV (by simp[Il]) (by simp[IU.size]) Ze ⟨ψ,rfl⟩
  ZbQ
  (fun a δ x _ ⟨y,hδ⟩=>by
   subst hδ;refine ⟨_,rfl,⟨_,rfl⟩,[],by simp[E9],fun _=>⟨[],?_⟩⟩;simp[Ga,Cz])
 have hf:∀ (l:List Zb7),gR ZN l=l:=fun l=>cR.mpr Zj
 rw[hf] at e;have hm:(ps.map fun p=>pr p.2)=(ps.map (·.2)).map pr:=by rw[bW];rfl
 rw[hm] at e;generalize hM:L++x++[HU.lst ((ps.map (·.2)).map pr)]=M at e;have hr:Ap M (L++x).length=ξ ((ps.map (·.2)).map pr):=by rw[<- hM];exact Aj Za
 have gM:Gw L M:=⟨x++[HU.lst ((ps.map (·.2)).map pr)],by rw[<- hM,bM]⟩;obtain ⟨y,e2⟩:=Br (ix:=[ψ,ξ 1]) (fi:=Bj (Ad 1)) (it:=.ref (L++x).length) (g:=gN 0) (tt:=ψ) (fe:=Gg) (δ:=[ξ Zf,ξ Zde]) (L:=M) (L0:=M)
  (ps.map (·.2)) pr ZN (fun q=>.int (cnt (ps.map (·.2)) q)) (fun δ=>∃ a,δ = [a,ξ Zde]) (by simp only[F8,fVar_eq,aV,aM,aY,aF,aA,Du hr]) (by rw[Fe hr];simp) (by simp;omega) ⟨ψ,rfl⟩
  ZcX
  (fun a δ z _ ⟨y,hδ⟩=>by
   subst hδ;obtain ⟨L',e3,w,hw⟩:=Mq (L:=M++z) a (Cd hr) (by simp;omega);refine ⟨_,rfl,⟨_,rfl⟩,[],by simp[E9],fun _=>⟨w,?_⟩⟩;rw[bO,<- hw];unfold Gg;simp only[fOwn_eq,fCons_eq,fNil_eq,fVar_eq,bJ,aV,aM,aY,aF,aA,aO,aX,if_true,e3])
 have hf2:∀ (l:List (Int×Int)),gR ZN l=l:=fun l=>cR.mpr Zj
 rw[hf2] at e2;generalize hR:((ps.map (·.2)).map fun q=>U.int (cnt (ps.map (·.2)) q))=R at e2;have q2:Ap ZdD (M++y).length=ξ R:=Aj Za;have ht:semTuple [.ref (M++y).length] ZdD=ξ (.tup R,M++y++[HU.lst R]):=by simp only[semTuple,q2,aF]
 refine ⟨M++y++[HU.lst R],?_,gM.trans ⟨y++[HU.lst R],by rw[bM]⟩⟩;have hR':(ps.map fun p=>U.int (cnt (ps.map (·.2)) p.2))=R:=by rw[<- hR,bW];rfl
 rw[hR'];unfold Cj fnU O0;simp only[aO,aX,if_true,aS,bP,bL,cS,cZ,fSeq_eq,fAsg_eq,e,gN_eq,aF,aA,bR,bJ,fRet_eq,fCall_eq,fCons_eq,fNil_eq,e2,ht]
theorem T9(ps:List Zb7)(L:UH)(hl:ps.length < 1000000):∃ L',Ee [.tup ZL] L=ξ (.tup (ps.map fun p=>.int (S3 (ps.map (·.2)) p.2)),L')/\Gw L L':=by
 obtain ⟨x,e⟩:=Br (ix:=[ψ]) (fi:=Bj (Ad 0)) (it:=.seq ZL) (g:=gN 0) (tt:=ψ) (fe:=Gf) (δ:=[ξ Zf,ψ]) (L:=L) (L0:=L)
  ps p3U ZN (fun p=>pr p.2) ZdV (by simp[Il]) (by simp[IU.size]) Ze ⟨ψ,rfl⟩
  ZbQ
  (fun a δ x _ ⟨y,hδ⟩=>by
   subst hδ;refine ⟨_,rfl,⟨_,rfl⟩,[],by simp[E9],fun _=>⟨[],?_⟩⟩;simp[Gf,Cz])
 have hf:∀ (l:List Zb7),gR ZN l=l:=fun l=>cR.mpr Zj
 rw[hf] at e;have hm:(ps.map fun p=>pr p.2)=(ps.map (·.2)).map pr:=by rw[bW];rfl
 rw[hm] at e;generalize hM:L++x++[HU.lst ((ps.map (·.2)).map pr)]=M at e;have hr:Ap M (L++x).length=ξ ((ps.map (·.2)).map pr):=by rw[<- hM];exact Aj Za
 have gM:Gw L M:=⟨x++[HU.lst ((ps.map (·.2)).map pr)],by rw[<- hM,bM]⟩;obtain ⟨y,e2⟩:=Br (ix:=[ψ,ξ 1]) (fi:=Bj (Ad 1)) (it:=.ref (L++x).length) (g:=gN 0) (tt:=ψ) (fe:=Gh) (δ:=[ξ Zf,ξ Zde]) (L:=M) (L0:=M)
  (ps.map (·.2)) pr ZN (fun q=>.int (S3 (ps.map (·.2)) q)) (fun δ=>∃ a,δ = [a,ξ Zde]) (by simp only[F8,fVar_eq,aV,aM,aY,aF,aA,Du hr]) (by rw[Fe hr];simp) (by simp;omega) ⟨ψ,rfl⟩
  ZcX
  (fun a δ z _ ⟨y,hδ⟩=>by
   subst hδ;obtain ⟨L',e3,w,hw⟩:=T3 (L:=M++z) a (Cd hr) (by simp;omega);refine ⟨_,rfl,⟨_,rfl⟩,[],by simp[E9],fun _=>⟨w,?_⟩⟩;rw[bO,<- hw];unfold Gh;simp only[fOwn_eq,fCons_eq,fNil_eq,fVar_eq,bJ,aV,aM,aY,aF,aA,aO,aX,if_true,e3])
 have hf2:∀ (l:List (Int×Int)),gR ZN l=l:=fun l=>cR.mpr Zj
 rw[hf2] at e2;generalize hR:((ps.map (·.2)).map fun q=>U.int (S3 (ps.map (·.2)) q))=R at e2;have q2:Ap ZdD (M++y).length=ξ R:=Aj Za;have ht:semTuple [.ref (M++y).length] ZdD=ξ (.tup R,M++y++[HU.lst R]):=by simp only[semTuple,q2,aF]
 refine ⟨M++y++[HU.lst R],?_,gM.trans ⟨y++[HU.lst R],by rw[bM]⟩⟩;have hR':(ps.map fun p=>U.int (S3 (ps.map (·.2)) p.2))=R:=by rw[<- hR,bW];rfl
 rw[hR'];unfold Ee fnU Ot;simp only[aO,aX,if_true,aS,bP,bL,cS,cZ,fSeq_eq,fAsg_eq,e,gN_eq,aF,aA,bR,bJ,fRet_eq,fCall_eq,fCons_eq,fNil_eq,e2,ht]
noncomputable abbrev Q2:=Int×Int
noncomputable def sI{β:Type}(l:List β)(f:β->Int):Int:=(l.map f).sum
theorem sI_cons{β:Type}(a:β)(l:List β)(f:β->Int):sI (a::l) f=f a+sI l f:=by simp[sI]
theorem sI_nil{β:Type}(f:β->Int):sI [] f=0:=rfl
theorem Cg{β:Type}{l:List β}{f g:β->Int}(h:∀ x∈l,f x=g x):sI l f=sI l g:=by unfold sI;rw[cM h]
theorem sI_append{β:Type}(l m:List β)(f:β->Int):sI (l++m) f=sI l f+sI m f:=by
 induction l with
 | nil=>simp[sI]
 | cons a l ih=>rw[cS,sI_cons,sI_cons,ih];omega
theorem sI_add{β:Type}(f g:β->Int):∀ l:List β,(sI l fun j=>f j+g j)=sI l f+sI l g
 | []=>rfl
 | a::l=>by rw[sI_cons,sI_cons,sI_cons,sI_add f g l];omega
theorem Q1{β:Type}:∀ l:List β,sI l (fun _=>0)=0
 | []=>rfl
 | a::l=>by rw[sI_cons,Q1 l];rfl
theorem V0{β γ:Type}(f:β->γ->Int)(m:List γ):∀ l:List β,(sI l fun i=>sI m fun j=>f i j)=sI m fun j=>sI l fun i=>f i j
 | []=>(Q1 m).symm
 | a::l=>by
  rw[sI_cons,V0 f m l,<- sI_add];exact Cg fun j _=>(sI_cons a l fun i=>f i j).symm
theorem Qo{β:Type}(f:β->Int){l m:List β}(h:l.Perm m):sI l f=sI m f:=by
 induction h with
 | nil=>rfl
 | cons a _ ih=>rw[sI_cons,sI_cons,ih]
 | swap a b l=>rw[sI_cons,sI_cons,sI_cons,sI_cons];omega
 | trans _ _ h1 h2=>rw[h1,h2]
theorem Tg{β:Type}(p:β->Bool):∀ l:List β,(((l.filter p).length:Nat):Int)=sI l fun o=>if p o then 1 else 0
 | []=>rfl
 | a::l=>by
  have ih:=Tg p l;rw[sI_cons,<- ih];cases hp:p a with
  | true=>rw[dP hp,aO];simp;omega
  | false=>rw[eI (by simp[hp])];simp
theorem cnt_sI(qs:List Q2)(q:Q2):cnt qs q=sI qs fun o=>if below o q then 1 else 0:=Tg (fun o=>below o q) qs
theorem Ajp(qs:List Q2)(q:Q2):S3 qs q=sI qs fun o=>if below q o then 1 else 0:=Tg (fun o=>below q o) qs
theorem Yc(qs:List Q2):(qs.map (S3 qs)).sum=(qs.map (cnt qs)).sum:=by
 show sI qs (S3 qs)=sI qs (cnt qs);rw[Cg (fun q _=>Ajp qs q),Cg (f:=cnt qs) (fun q _=>cnt_sI qs q)];exact V0 (fun q o=>if below q o then 1 else 0) qs qs
theorem cnt_append(a b:List Q2)(q:Q2):cnt (a++b) q=cnt a q+cnt b q:=by rw[cnt_sI,cnt_sI,cnt_sI,sI_append]
theorem cross_sI(a b:List Q2):Ft a b=sI b (cnt a):=rfl
theorem cross_append(a b c d:List Q2):Ft (a++b) (c++d)=Ft a c+Ft b c+(Ft a d+Ft b d):=by
 rw[cross_sI,sI_append,Cg (fun q _=>cnt_append a b q),Cg (l:=d) (fun q _=>cnt_append a b q),sI_add,sI_add];rfl
theorem Ahx{a b:List Q2}(h:a.Perm b)(q:Q2):cnt a q=cnt b q:=by rw[cnt_sI,cnt_sI];exact Qo _ h
theorem Y3{a b:List Q2}(h:a.Perm b):Ft a a=Ft b b:=by
 rw[cross_sI,cross_sI,Qo _ h];exact Cg fun q _=>Ahx h q
theorem Adj{β:Type}(l:List β){f:Nat}(h1:f<=m)(h2:m<=b):mid l f b=mid l f m++mid l m b:=by
 unfold mid;have e:b - f=(m - f)+(b - m):=Ze
 rw[e,List.take_add,List.drop_drop]
 congr 3;omega
theorem Afn{a b:Q2}(h:leT (toL a) (toL b)):a.1<=b.1/\(a.1=b.1->a.2<=b.2):=by
 unfold leT toL at h;rw[ltT] at h;by_cases e:b.1=a.1
 ·have q:(b.1 == a.1)=true:=by simpa using e
  rw[q,if_pos rfl,ltT] at h;refine ⟨Ze,fun _=>?_⟩;by_cases e2:b.2=a.2
  ·omega
  ·have q2:(b.2 == a.2)=false:=by simpa using e2
   rw[q2,if_neg Za] at h;have:=of_decide_eq_false h;omega
 ·have q:(b.1 == a.1)=false:=by simpa using e
  rw[q,if_neg Za] at h;have:=of_decide_eq_false h;exact ⟨Ze,fun x=>absurd x.symm e⟩
theorem Aom{qs:List Q2}(hs:(qs.map toL).Pairwise leT){f:Nat}{o q:Q2}(hq:q∈mid qs f m)(ho:o∈mid qs m b):below o q=false:=by
 have hq':q∈qs.take m:=by
  unfold mid at hq;obtain ⟨i,hi,e⟩:=dS hq;simp only[eQ,pB] at hi;rw[tK,List.getElem_drop] at e;rw[<- e];refine List.mem_iff_getElem.mpr ⟨f+i,by rw[eQ];omega,by rw[tK]⟩
 have ho':o∈qs.drop m:=by unfold mid at ho;exact List.mem_of_mem_take ho
 have h':=hs;rw[<- qX m qs,cP] at h';obtain ⟨h1,h2⟩:=Afn ((fD.mp h').2.2 _ (jX hq') _ (jX ho'));unfold below;by_cases c1:o.1<=q.1
 ·have e1:q.1=o.1:=Ze
  have c2:=h2 e1;by_cases c3:o.2<=q.2
  ·have e2:o.2=q.2:=Ze
   simp[e1,e2]
  ·simp[c3]
 ·simp[c1]
theorem R3{a b:List Q2}(h:∀ o∈a,∀ q∈b,below o q=false):Ft a b=0:=by
 rw[cross_sI];refine (Cg (g:=fun _=>0) fun q hq=>?_).trans (Q1 b);rw[cnt_sI];exact (Cg (g:=fun _=>0) fun o ho=>by rw[h o ho q hq];rfl).trans (Q1 a)
theorem Abe{qs:List Q2}(hs:(qs.map toL).Pairwise leT):∀ (n f b:Nat),b - f<=n->f<=b->b<=qs.length->((hv qs f b).map (·.2.2)).sum=Ft (mid qs f b) (mid qs f b)
 | 0,f,b,h,hfb,hb=>by
  rw[hv,dif_pos Ze];have:mid qs f b=[]:=gY.mp (by rw[Qu _ _ _ hb];omega);rw[this];rfl
 | n+1,f,b,h,hfb,hb=>by
  rw[hv];by_cases hc:b - f < 2
  ·rw[dif_pos hc];have hl:=Qu qs f b hb;symm;refine R3 fun o ho q hq=>?_
   match hm:mid qs f b,ho,hq with
   | [],ho,_=>cases ho
   | [x],ho,hq=>rw[bS.mp ho,bS.mp hq];exact Ri x
   | x::y::r,_,_=>rw[hm] at hl;simp at hl;omega
  ·rw[dif_neg hc];have h1:=Abe hs n f Z3 Ze Ze Ze;have h2:=Abe hs n Z3 b Ze Ze hb;have hsp:=Adj qs (f:=f) (m:=f+(b - f) / 2) (b:=b) Ze Ze;rw[hsp,cross_append,aS,kC,cP,qS,h1,h2];have h0:Ft (mid qs Z3 b) (mid qs f Z3)=0:=R3 fun o ho q hq=>Aom hs hq ho
   rw[h0];show Ft _ _+_=_;omega
theorem V7(qs:List Q2):∀ (n f b:Nat),b - f<=n->(hv qs f b).length=b - f - 1
 | 0,f,b,h=>by rw[hv,dif_pos Ze];simp;omega
 | n+1,f,b,h=>by
  rw[hv];by_cases hc:b - f < 2
  ·rw[dif_pos hc];simp;omega
  ·rw[dif_neg hc];have h2:=V7 qs n f Z3 Ze;have h3:=V7 qs n Z3 b Ze;simp only[aO,bU];omega
theorem Akb{β:Type}(l:List β):mid l 0 l.length=l:=by unfold mid;simp
theorem Abd(qs:List Q2):((hv (sp qs) 0 qs.length).map (·.2.2)).sum=(qs.map (cnt qs)).sum:=by
 have h:=Abe (Vk qs) qs.length 0 qs.length Ze Ze (by rw[sp_len];exact aP _);rw[h];have:mid (sp qs) 0 qs.length=sp qs:=by rw[<- sp_len qs];exact Akb _
 rw[this];exact Y3 (Wb qs)
noncomputable def swp(q:Q2):Q2:=(q.2,q.1)
theorem Ad0(o q:Q2):below (swp o) (swp q)=below o q:=by
 unfold below swp;simp only[oV];rw[sB (o.2 == q.2),<- wO,<- wO,sB (decide (o.2<=q.2))]
theorem Sd{β γ:Type}(g:β->γ)(f:γ->Int)(l:List β):sI (l.map g) f=sI l fun x=>f (g x):=by unfold sI;rw[bW];rfl
theorem Ajl(qs:List Q2)(q:Q2):cnt (qs.map swp) (swp q)=cnt qs q:=by
 rw[cnt_sI,cnt_sI,Sd];exact Cg fun o _=>by rw[Ad0]
theorem Aml(ps:List (Str×Q2))(hl:ps.length<=1000)(L:UH):∃ L',Cj [.tup ZL] L=ξ (.tup (((ps.map (·.2)).map (cnt (ps.map (·.2)))).map U.int),L')/\Gw L L':=by
 obtain ⟨L',e,g⟩:=Ue ps L Ze;exact ⟨L',by rw[e,bW,bW];rfl,g⟩
theorem As5(ps:List (Str×Q2))(hl:ps.length<=1000)(L:UH):∃ L',Ee [.tup ZL] L=ξ (.tup (((ps.map (·.2)).map (S3 (ps.map (·.2)))).map U.int),L')/\Gw L L':=by
 obtain ⟨L',e,g⟩:=T9 ps L Ze;exact ⟨L',by rw[e,bW,bW];rfl,g⟩
theorem Xj(ps:List (Str×Q2))(hl:ps.length<=1000)(L:UH):∃ L',B0 [.tup ZL] L=ξ (.int ((ps.map (·.2)).map (cnt (ps.map (·.2)))).sum,L')/\Gw L L':=by
 obtain ⟨L',e,g⟩:=Aml ps hl L;have hs:=W0 ((ps.map (·.2)).map (cnt (ps.map (·.2)))) L';refine ⟨L',?_,g⟩;generalize ((ps.map (·.2)).map (cnt (ps.map (·.2)))).map U.int=us at e hs;generalize ((ps.map (·.2)).map (cnt (ps.map (·.2)))).sum=sm at hs;have a:=Fb (i:=0) (δ:=[ξ Zf]) rfl e;unfold B0 fnU K1;simp only[aO,aX,if_true,aS,bP,dC,dA,bO];rw[fRet_eq,fCall_eq,fCons_eq,a];simp only[aA,fNil_eq,aF,hs]
theorem Ahe(ps:List (Str×Q2))(f:Q2->Q2):(ps.map fun p=>(p.1,f p.2)).map (·.2)=(ps.map (·.2)).map f:=by rw[bW,bW];rfl
theorem sm3:small (0+1+1+1)=true:=small_of Zb
theorem Ac2{β:Type}{P:List β->Prop}(h0:P [])(h1:∀ r v,P r->P (r++[v]))(l:List β):P l:=by
 have:∀ l:List β,P l.reverse:=fun l=>by
  induction l with
  | nil=>exact h0
  | cons a r ih=>rw[eJ];exact h1 _ _ ih
 have:=this l.reverse;rwa [mB] at this
noncomputable def qsR(row:List Int):List Q2:=(bB row.length).map fun (i:Nat)=>((i:Int),row.getD i 0)
theorem Yx(r:List Int)(v:Int):qsR (r++[v])=qsR r++[ZcC]:=by
 unfold qsR;rw[bU,fJ,kG,cP]
 congr 1
 ·refine cM fun i hi=>?_
  have:=bE.mp hi;rw[aC,bC this,<- aC]
 ·simp[aC]
theorem Lx(row:List Int):(qsR row).length=row.length:=by simp[qsR]
theorem Q4(row:List Int):(qsR row).map (·.2)=row:=by
 refine Ac2 (P:=fun row=>(qsR row).map (·.2)=row) rfl (fun r v ih=>?_) row;rw[Yx,cP,ih];rfl
theorem Ab6(row:List Int):∀ o∈qsR row,0<=o.1/\o.1 < row.length:=fun o ho=>by
 obtain ⟨i,hi,rfl⟩:=cJ.mp ho;have:=bE.mp hi;show (0:Int)<=(i:Int)/\(i:Int) < row.length;omega
theorem Ak8:∀ o∈qsR row,o.2∈row:=fun o ho=>by
 have:o.2∈(qsR row).map (·.2):=cJ.mpr ⟨o,ho,rfl⟩;rwa [Q4] at this
theorem Apc(row:List Int):(qsR row).Pairwise fun a b=>a.1 < b.1:=by
 unfold qsR;rw[eW];exact qK.imp fun h=>by omega
noncomputable def W2(T:List Q2):Int:=sI T fun p=>sI T fun o=>if decide (o.1 < p.1)&&decide (p.2 < o.2) then 1 else 0
theorem Aq1(T:List Q2)(v:Int):(gr (T.map (·.2)) v:Int)=sI T fun o=>if decide (v < o.2) then 1 else 0:=by
 unfold gr;rw[Tg (fun o=>decide (v < o)),Sd]
theorem X4(T:List Q2)(h:T.Pairwise fun a b=>a.1 < b.1):T6 (T.map (·.2))=W2 T:=by
 refine Ac2 (P:=fun T=>T.Pairwise (fun a b=>a.1 < b.1)->T6 (T.map (·.2))=W2 T) Zb3 (fun r v ih h=>?_) T h;obtain ⟨h1,_,h3⟩:=fD.mp h;have hv:∀ o∈r,o.1 < v.1:=fun o ho=>h3 o ho v ZdF
 rw[cP,aS,bP,sumc_snoc,ih h1,Aq1];unfold W2;rw[sI_append];have e1:(sI r fun p=>sI (r++[v]) fun o=>if (decide (o.1 < p.1)&&decide (p.2 < o.2))=true then 1 else 0)=sI r fun p=>sI r fun o=>if (decide (o.1 < p.1)&&decide (p.2 < o.2))=true then 1 else 0:=
  Cg fun p hp=>by
   rw[sI_append,sI_cons,sI_nil,decide_eq_false (by have:=hv p hp;omega:¬ v.1 < p.1)];simp
 have e2:(sI [v] fun p=>sI (r++[v]) fun o=>if (decide (o.1 < p.1)&&decide (p.2 < o.2))=true then 1 else 0)=sI r fun o=>if decide (v.2 < o.2)=true then 1 else 0:=by
  rw[sI_cons,sI_nil,sI_append,sI_cons,sI_nil,decide_eq_false (by omega:¬ v.1 < v.1)];have:(sI r fun o=>if (decide (o.1 < v.1)&&decide (v.2 < o.2))=true then (1:Int) else 0)=sI r fun o=>if decide (v.2 < o.2)=true then 1 else 0:=
   Cg fun o ho=>by rw[decide_eq_true (hv o ho),xB]
  rw[this];simp
 rw[e1,e2]
theorem Afq{a b:List Q2}(h:a.Perm b):W2 a=W2 b:=by
 unfold W2;rw[Qo _ h];exact Cg fun p _=>Qo _ h
theorem inv_swp(T:List Q2):W2 (T.map swp)=W2 T:=by
 unfold W2;rw[Sd];have:(sI T fun x=>sI (T.map swp) fun o=>if (decide (o.1 < (swp x).1)&&decide ((swp x).2 < o.2))=true then (1:Int) else 0)=sI T fun x=>sI T fun o=>if (decide (o.2 < x.2)&&decide (x.1 < o.1))=true then 1 else 0:=
  Cg fun x _=>by rw[Sd];rfl
 rw[this,V0];exact Cg fun o _=>Cg fun x _=>by rw[sB]
theorem Ago(hn:row.Nodup):T6 ((sp ZaP).map (·.2))=T6 row:=by
 have hp:=Wb ZaP;have hf:((sp ZaP).map (·.1)).Nodup:=by
  have e:((sp ZaP).map (·.1)).Perm row:=by
   have:=hp.map (·.1);rwa [bW,show (wI ((fun x:Q2=>x.1)∘swp) (qsR row))=row from Q4 row] at this
  exact e.nodup_iff.mpr hn
 have hs:=eW.mp (Vk ZaP);have hu:(sp ZaP).Pairwise fun a b=>a.1 < b.1:=(hs.and (eW.mp hf)).imp fun {a b} h=>by
  have:=(Afn h.1).1;have:=h.2;omega
 rw[X4 _ hu,Afq hp,inv_swp,<- X4 _ (Apc row),Q4]
theorem Ab3(r:List Int)(v:Int)(hn:(r++[v]).Nodup):(qsR (r++[v])).map (cnt (qsR (r++[v])))=(qsR r).map (cnt (qsR r))++[(r.length:Int) - (gr r v:Int)]:=by
 obtain ⟨_,_,hd⟩:=fR.mp hn;have hv:v∉r:=fun h=>hd v h v ZdF rfl
 rw[Yx,cP]
 congr 1
 ·refine cM fun q hq=>?_
  rw[cnt_append,cnt_sI [_],sI_cons,sI_nil];have:=(Ab6 r q hq).2;have hb:below ZcC q=false:=by
   cases h:below ZcC q with
   | false=>rfl
   | true=>have:=((below_iff _ _).mp h).1;simp only at this;omega
  rw[hb];simp
 ·rw[aS,bP,cnt_append,cnt_sI [_],sI_cons,sI_nil,below_self,cnt_sI];have e:(sI (qsR r) fun o=>if below o ZcC=true then (1:Int) else 0)=sI (qsR r) fun o=>if decide (o.2 < v)=true then 1 else 0:=
   Cg fun o ho=>by
    have h1:=(Ab6 r o ho).2;have h2:o.2≠v:=fun q=>hv (q ▸ Ak8 o ho)
    have:below o ZcC=decide (o.2 < v):=by
     rw[kE,below_iff,decide_eq_true_eq];refine ⟨fun h=>by have:=h.2.1;simp only at this;omega,fun h=>⟨by simp only;omega,by simp only;omega,fun q=>?_⟩⟩
     rw[q] at h1;simp only at h1;omega
    rw[this]
  have e2:(sI (qsR r) fun o=>if decide (o.2 < v)=true then (1:Int) else 0)=((r.filter fun o=>decide (o < v)).length:Nat):=by
   rw[Tg (fun o=>decide (o < v)) r]
   conv=>rhs;rw[<- Q4 r]
   rw[Sd]
  rw[e,e2];have:=Aql v r hv
  congr 1
  simp only[bV,if_false];omega
theorem Rz(hn:row.Nodup):(qsR row).map Zb2=(bB row.length).map fun (i:Nat)=>(i:Int) - (Di row).getD i 0:=by
 refine Ac2 (P:=fun row=>row.Nodup->(qsR row).map Zb2=(bB row.length).map fun (i:Nat)=>(i:Int) - (Di row).getD i 0) Zb3 (fun r v ih h=>?_) row hn;rw[Ab3 r v h,ih (fR.mp h).1,bU,fJ,kG,cP,Wm]
 congr 1
 ·refine cM fun i hi=>?_
  have:=bE.mp hi;rw[aC (l:=Di r++_),bC (by rw[cntv_len];exact this),<- aC]
 ·rw[aS,bP,aC,bX (by rw[cntv_len];exact aP _),cntv_len,dC];rfl
theorem Ajt(hn:row.Nodup):2 * (T6 row+((qsR row).map Zb2).sum)=(row.length:Int) * ((row.length:Int) - 1):=by
 refine Ac2 (P:=fun row=>row.Nodup->2 * (T6 row+((qsR row).map Zb2).sum)=(row.length:Int) * ((row.length:Int) - 1)) Zb3 (fun r v ih h=>?_) row hn;have:=ih (fR.mp h).1;rw[Ab3 r v h,sumc_snoc,qS,kC,List.sum_nil,bU,fJ,Int.natCast_add];generalize T6 r=A at *;generalize (wI (cnt (qsR r)) (qsR r)).sum=Bs at *;generalize (r.length:Int)=n at *;have e:(n+((1:Nat):Int)) * (n+((1:Nat):Int) - 1)=n * (n - 1)+2 * n:=by
  rw[show n+((1:Nat):Int) - 1=n by omega,Int.add_mul,Int.mul_sub,vC];simp only[Int.natCast_one,Int.one_mul];omega
 rw[e];omega
noncomputable def Co(g:Nat->Str)(row:List Int):List P3:=(bB row.length).map fun (i:Nat)=>(g i,(i:Int),row.getD i 0)
theorem ptsW_q(g:Nat->Str)(row:List Int):(Co g row).map (·.2)=qsR row:=by unfold Co;rw[bW];rfl
theorem ptsW_len(g:Nat->Str)(row:List Int):(Co g row).length=row.length:=by unfold Co;simp
variable {g:Nat->Str}
theorem Q7(h:i < row.length):ptAt (Co g row) i=(g i,(i:Int),row.getD i 0):=by
 unfold ptAt Co;rw[aC,bA,dR h];rfl
theorem Afy(h:p∈Co g row):∃ i,i < row.length/\p.2=ZbV:=by
 obtain ⟨i,hi,rfl⟩:=cJ.mp h;exact ⟨i,bE.mp hi,rfl⟩
theorem Am9{R:Int->Int->Prop}(h:row.Pairwise R)(hij:i < j)(hj:j < row.length):R Z9 (row.getD j 0):=by
 have:=fX.mp h i j Ze hj hij;rw[aC,aC,aE hj,aE Ze];exact this
theorem R9(h:row.Pairwise (· < ·))(hij:i < j)(hj:j < row.length):below ZbV ((j:Int),row.getD j 0)=true:=by
 have:=Am9 h hij hj;rw[below_iff];refine ⟨by simp only;omega,by simp only;omega,fun q=>?_⟩;have:=(lY q).1;omega
theorem Rg(h:row.Pairwise fun a b=>b < a)(hi:i < row.length)(hj:j < row.length):below ZbV ((j:Int),row.getD j 0)=false:=by
 cases hb:below ZbV ((j:Int),row.getD j 0) with
 | false=>rfl
 | true=>
  obtain ⟨h1,h2,h3⟩:=(below_iff _ _).mp hb;simp only at h1 h2;by_cases e:i=j
  ·subst e;exact absurd rfl h3
  ·have:=Am9 h (show i < j by omega) hj;omega
theorem Xp(h:row.Pairwise (· < ·)):∀ (k i:Nat),0 < k->k+i=row.length->IsC (Co g row) (xU i k)
 | 0,i,h0,_=>by omega
 | 1,i,_,e=>by
  show i < (Co g row).length;rw[ptsW_len];omega
 | k+2,i,_,e=>by
  refine ⟨by rw[ptsW_len];omega,?_,Xp h (k+1) (i+1) Ze Ze⟩
  unfold Ab1;rw[Q7 Ze,Q7 Ze];exact R9 h Ze Ze
theorem Aj7(h:row.Pairwise (· < ·))(h0:row≠[])(b:Bst (IsC (Co g row)) w1 c):c.length=row.length:=by
 have h1:=Ws b.1;rw[ptsW_len] at h1;have h2:=W6 b (Xp h row.length 0 (fH.mpr h0) rfl);rw[List.length_range'] at h2;omega
theorem Adq(h:row.Pairwise fun a b=>b < a)(b:IsC (Co g row) c):c.length=1:=by
 match c,b with
 | [i],_=>rfl
 | i::j::r,b=>
  obtain ⟨hi,ha,hr⟩:=b;have hj:=hr.head;rw[ptsW_len] at hi hj;unfold Ab1 at ha;rw[Q7 hi,Q7 hj,Rg h hi hj] at ha;cases ha
theorem Yb{β:Type}:∀ cs:List (List β),(∀ ch∈cs,ch.length=1)->cs.flatten.length=cs.length
 | [],_=>rfl
 | c::cs,h=>by
  rw[eK,bU,h c (aQ ..),Yb cs fun ch hc=>h ch (aK _ hc),aO];omega
theorem Aay(h:row.Pairwise fun a b=>b < a)(A:Laid cs dn)(hd:dn.Perm (Co g row)):cs.length=row.length:=by
 have h1:∀ ch∈cs,ch.length=1:=fun ch hc=>by
  have hm:∀ e∈ch,∃ i,i < row.length/\e.1.2=ZbV:=fun e he=>
   Afy (hd.mem_iff.mp (A.perm.mem_iff.mp (cJ.mpr ⟨e,List.mem_flatten.mpr ⟨ch,hc,he⟩,rfl⟩)))
  have hp:=A.chn ch hc;have hn:=A.ne ch hc;match ch,hn,hp,hm with
  | [a],_,_,_=>rfl
  | a::b::r,_,hp,hm=>
   have hb:=(dY.mp hp).1 b (aQ ..);obtain ⟨i,hi,e⟩:=hm a (aQ ..);obtain ⟨j,hj,e2⟩:=hm b (aK _ (aQ ..));rw[e,e2,Rg h hi hj] at hb;cases hb
 have:=A.perm.length_eq;rw[aN,Yb cs h1,hd.length_eq,ptsW_len] at this;exact this
theorem Ai5(h:row.Pairwise (· < ·))(A:Laid cs dn)(hd:dn.Perm (Co g row))(hno:∀ p∈topC cs,∀ q∈topC cs,below p.2 q.2=false):cs.length=if 0 < row.length then 1 else 0:=by
 obtain ⟨t1,_,t3,t4⟩:=Ut A;have hle:cs.length<=1:=by
  rw[<- t1];match hT:topC cs with
  | []=>exact dW _
  | [_]=>exact aP _
  | p::q::r=>
   exfalso;rw[hT] at t3 t4 hno;have hp:p∈p::q::r:=aQ ..;have hq:q∈p::q::r:=aK _ (aQ ..);obtain ⟨i,hi,ei⟩:=cJ.mp (hd.mem_iff.mp (t3 p hp));obtain ⟨j,hj,ej⟩:=cJ.mp (hd.mem_iff.mp (t3 q hq));have hi:=bE.mp hi;have hj:=bE.mp hj;have hpq:p≠q:=(gZ.mp t4).1∘fun e=>e ▸ aQ ..
   have n1:=hno p hp q hq;have n2:=hno q hq p hp;rw[<- ei,<- ej] at n1 n2;rcases lC i j with c | c | c
   ·rw[R9 h c hj] at n1;cases n1
   ·subst c;exact hpq (ei.symm.trans ej)
   ·rw[R9 h c hi] at n2;cases n2
 have he:=A.perm.length_eq;rw[aN,hd.length_eq,ptsW_len] at he;split
 ·match cs,he,hle with
  | [],he,_=>simp at he;omega
  | [_],_,_=>rfl
 ·match cs,A.ne,he with
  | [],_,_=>rfl
  | ch::r,hn,he=>
   have:=fH.mpr (hn ch (aQ ..));rw[eK,bU] at he;omega
theorem Anb{β:Type}{ix:List ZU}{it:IU}{g:FG}(as:List β)(rep:β->U)(e:β->U)(E:UE->Prop)(hi:fi δ L=ξ (it,L0))(hat:∀ k x,it.at k (L0++x)=ξ (as.map rep)[k]?)(hsz:as.length<=it.size L0)(hl:as.length<=1000)(h0:E (Ea ix δ))
  (step:∀ (a:β) δ M,a∈as->E δ->Gw L0 M->∃ δ1,g (rep a) δ M=ξ (δ1,M)/\E δ1/\∃ M',fe δ1 M=ξ (e a,M')/\Gw M M') :
  ∃ r L',Bo ix fi g ψ fe δ L=ξ (.ref r,L')/\L'[r]? = ξ (.lst (as.map e))/\Gw L0 L':=by
 obtain ⟨x,h⟩:=Br (tt:=ψ) (g:=g) (fe:=fe) as rep ZN e E hi hsz Ze h0 hat (fun a δ x ha hE=>by
  obtain ⟨δ1,h1,h2,M',h3,z,rfl⟩:=step a δ (L0++x) ha hE ⟨x,rfl⟩;exact ⟨δ1,h1,h2,[],by simp[E9],fun _=>⟨z,by simpa using h3⟩⟩)
 have hf:as.filter ZN=as:=cR.mpr fun _ _=>rfl
 rw[hf] at h;exact ⟨_,_,h,Za,x++[.lst (as.map e)],Za⟩
theorem U1{β:Type}{ix:List ZU}{g:FG}(as:List β)(rep:β->U)(e:β->U)(E:UE->Prop)(hi:fi δ L=ξ (.seq us,L0))(hu:us=as.map rep)(hl:as.length<=1000)(h0:E (Ea ix δ))
  (step:∀ (a:β) δ M,a∈as->E δ->Gw L0 M->∃ δ1,g (rep a) δ M=ξ (δ1,M)/\E δ1/\∃ M',fe δ1 M=ξ (e a,M')/\Gw M M') :
  ∃ r L',Bo ix fi g ψ fe δ L=ξ (.ref r,L')/\L'[r]? = ξ (.lst (as.map e))/\Gw L0 L':=
 Anb as rep e E hi (fun k x=>by rw[hu];rfl) (by rw[hu];simp[IU.size]) hl h0 step
noncomputable def B8(i:Nat):Str:=⟨#[97+i / 26,97+i % 26]⟩
noncomputable def nmA(i:Nat):Str:=("a" : Str)++B8 i
theorem Agt(h:i < 26)(L:UH):Am (.str "abcdefghijklmnopqrstuvwxyz") Zah L=ξ (.str ⟨#[97+i]⟩,L):=by
 have hl:("abcdefghijklmnopqrstuvwxyz" : Str).cps.toList=(bB 26).map (97 + ·):=Zd
 have hs:small ("abcdefghijklmnopqrstuvwxyz" : Str).length=true:=Zd
 show (if small ("abcdefghijklmnopqrstuvwxyz" : Str).length=true then (L2.atI ("abcdefghijklmnopqrstuvwxyz" : Str).cps.toList (i:Int)).map fun c=>(U.str ⟨#[c]⟩,L) else ψ)=_;rw[if_pos hs,hl,Kv Ze (by simp;omega),cK,bA,dR h];rfl
theorem Abv{a b:Str}(h:small Zct=true)(L:UH):Be (.str a) (.str b) L=ξ (.str (a++b),L):=if_pos h
theorem Amw(row:List Int):Gm Zx=(bB row.length).map fun (i:Nat)=>U.tup [.int (i:Int),.int Z9]:=Ma row
theorem Aa6(hl:row.length<=60)(L:UH):∃ L',Eb [.tup Zx] L=ξ (.tup Zbp,L')/\Gw L L':=by
 generalize habc:("abcdefghijklmnopqrstuvwxyz" : Str)=abc;obtain ⟨r,L',e,hr,g⟩:=U1 (ix:=[ψ,ψ,ξ 1]) (fi:=De Zl) (us:=Gm Zx) (g:=Zi) (fe:=Mm) (δ:=[ξ (.tup Zx),ξ (.str abc)]) (L:=L) (L0:=L)
  (bB row.length) ZbH (fun i=>p3U Zb1) (fun δ=>∃ a b,δ = [a,b,ξ (.str abc)]) rfl (Amw row) (by simp;omega) ⟨ψ,ψ,rfl⟩
  (fun i δ M hi ⟨y,z,hδ⟩ _=>by
   subst hδ;have h60:=bE.mp hi;refine ⟨Zcr,rfl,⟨_,_,rfl⟩,M,?_,.refl M⟩;have hd:(f2 Fy (Ad 0) (fC (.int 26))) Zcr M=ξ (.int ((i / 26:Nat):Int),M):=
    Cp rfl rfl (by rw[semDiv_int,if_pos (Kj Zb Zb)];rfl)
   have hm:(f2 Gb (Ad 0) (fC (.int 26))) Zcr M=ξ (.int ((i % 26:Nat):Int),M):=
    Cp rfl rfl (by rw[semMod_int,if_pos Zb];rfl)
   have l1:=Agt (i:=i / 26) Ze M;have l2:=Agt (i:=i % 26) Ze M;rw[habc] at l1 l2;have hs:small ((⟨#[97+i / 26]⟩:Str).length+(⟨#[97+i % 26]⟩:Str).length)=true:=small_of (by show 2<=16777216;decide);exact Ahu (Cp (Cp rfl hd l1) (Cp rfl hm l2) (Abv hs M)) rfl rfl)
 have hq:(bB row.length).map (fun i=>p3U Zb1)=(Co B8 row).map p3U:=by unfold Co;rw[bW];rfl
 rw[hq] at hr;refine ⟨L',fn1 (n:=1) ?_,g⟩;show Nh [ξ (.tup Zx),ψ] L=_;unfold Nh;rw[habc,Al (F7 rfl)];exact Tt (Dw e (by show (Ap L' r).map _=_;rw[Aj hr];rfl))
theorem Akw(hi:i < 676)(hj:j < 676)(h:B8 i=B8 j):i=j:=by
 unfold B8 at h;have h1:=congrArg (fun s:Str=>s.cps.toList) h;simp only[mR,and_true] at h1;omega
theorem Aep(hl:row.length<=60):((Co B8 row).map (·.1)).Nodup:=by
 unfold Co;rw[bW];refine eW.mpr ((pK).imp_of_mem fun {i j} hi hj h e=>h ?_);have hi:=bE.mp hi;have hj:=bE.mp hj;exact Akw Ze Ze e
theorem Aaq(g:Nat->Str)(row:List Int):(Co g row).Nodup:=by
 unfold Co;refine eW.mpr ((pK).imp fun {i j} h e=>h ?_);have:=(lY (lY e).2).1;omega
theorem neR{q:Nat}{ys:List Int}(h1:L[r]? = ξ (.lst ZbP))(h2:L[q]? = ξ (.lst (ys.map U.int)))(he:xs=ys):Fw (.ref r) (.ref q) L=ξ (.bl false,L):=by
 subst he;rw[Ad7 (Aj h1) (Aj h2) (Hv xs) (Hv xs),Aen];rfl
theorem Aq3{L2 L3:UH}(h1:fa δ L=ξ (u,L1))(h2:fb δ L1=ξ (v,L2))(h:Fw u v L2=ξ (.bl false,L3)):(Bp (f2 Fw fa fb)) δ L=ξ (false,L3):=Vt (Cp h1 h2 h)
theorem Ave(h:fa δ L=ξ (.ref n,M))(hn:M[n]? = ξ (.lst us)):Bj fa δ L=ξ (.ref n,M):=by
 rw[F8,h];show (Il (.ref n) M).map _=_;simp[Il,hn]
theorem tupI(h:fa δ L=ξ (.tup us,M)):Bj fa δ L=ξ (.seq us,M):=by
 rw[F8,h];rfl
theorem Oe(h:L[r]? = ξ (.lst us)):semTuple [.ref r] L=ξ (.tup us,L):=by
 show (Ap L r).map _=_;rw[Aj h];rfl
theorem Ak2{l:List Int}(h:L[r]? = ξ (.lst Zbc)):semSum [.ref r] L=ξ (.int l.sum,L):=by
 show (Ap L r).bind _=_;rw[Aj h];show (mapO toI Zbc).map _=_;rw[toI_ints];rfl
theorem Ald(qs:List Q2):(((qs.map swp).map (cnt (qs.map swp)))).sum=(qs.map (cnt qs)).sum:=by
 rw[bW];exact congrArg List.sum (cM fun q _=>Ajl qs q)
structure RwP(row:List Int)(P:U):Prop where
 pairs:∀ M,∃ M',B0 [P] M=ξ (.int ((qsR row).map Zb2).sum,M')/\Gw M M'
 below:∀ M,∃ M',Cj [P] M=ξ (.tup ZS,M')/\Gw M M'
 above:∀ M,∃ M',Ee [P] M=ξ (.tup (((qsR row).map (S3 (qsR row))).map U.int),M')/\Gw M M'
 halves:∀ M,∃ M',D6 [P] M=ξ (.tup ((hv ZdP 0 (qsR row).length).map Ie),M')/\Gw M M'
theorem RwP.of(hl:row.length<=60)(g:Nat->Str):RwP row (.tup ((Co g row).map p3U)) where
 pairs M:=by have:=Xj (Co g row) (by rw[ptsW_len];omega) M;rwa [ptsW_q] at this
 below M:=by have:=Aml (Co g row) (by rw[ptsW_len];omega) M;rwa [ptsW_q] at this
 above M:=by have:=As5 (Co g row) (by rw[ptsW_len];omega) M;rwa [ptsW_q] at this
 halves M:=by have:=Wn (Co g row) (by rw[ptsW_len];omega) M;rwa [ptsW_q,ptsW_len,<- Lx row] at this
theorem Akj{P:U}(hl:row.length<=60)(A:RwP row P)(h:∀ M,Ad 2 δ M=ξ (P,M))(hi:Ea [ψ,ψ,ψ] δ = [ψ,ψ,ψ])(L:UH):∃ L',(Au semSum (Ac (Bo [ψ,ψ,ψ] (Bj (Ay 1 D6 ZA)) Zo ψ Jw) Af)) δ L=ξ (.int ((qsR row).map Zb2).sum,L')/\Gw L L':=by
 obtain ⟨L1,e1,g1⟩:=A.halves L;have hlen:=V7 ZdP (qsR row).length 0 (qsR row).length Ze;rw[Lx] at hlen;obtain ⟨r,L2,e2,hr,g2⟩:=U1 (ix:=[ψ,ψ,ψ]) (fi:=Bj (Ay 1 D6 ZA)) (g:=Zo) (fe:=Jw) (δ:=δ) (L:=L) (L0:=L1)
  (hv ZdP 0 (qsR row).length) Ie (fun t=>.int t.2.2) (fun δ=>∃ a b c,δ = [a,b,c]) (tupI (Fb (h L) e1)) rfl (by rw[Lx];omega) ⟨ψ,ψ,ψ,hi⟩
  (fun t δ M _ ⟨y,z,w,hδ⟩ _=>by
   subst hδ;exact ⟨[ξ (.int t.1),ξ (.int t.2.1),ξ (.int t.2.2)],rfl,⟨_,_,_,rfl⟩,M,rfl,.refl M⟩)
 have hs:=Abd (qsR row);have hm:(hv ZdP 0 (qsR row).length).map (fun t=>U.int t.2.2)=((hv ZdP 0 (qsR row).length).map (·.2.2)).map U.int:=by rw[bW];rfl
 rw[hm] at hr;exact ⟨L2,Dw e2 (by rw[Ak2 hr,hs]),g1.trans g2⟩
theorem Ae7(hl:row.length<=60)(h:∀ M,Ad 0 δ M=ξ (.tup Zx,M))(hi:Ea [ψ,ψ] δ = [ψ,ψ])(L:UH):∃ r L',(Au Fo (Ac (Bo [ψ,ψ] (De Zl) Zi ψ Gz) Af)) δ L=ξ (.ref r,L')/\L'[r]? = ξ (.lst ((sp ZaP).map pr))/\Gw L L':=by
 have hen:De Zl δ L=ξ (.seq (Gm Zx),L):=by
  unfold De;rw[fCons_eq,h];rfl
 obtain ⟨r,L2,e2,hr,g2⟩:=U1 (ix:=[ψ,ψ]) (g:=Zi) (fe:=Gz) (δ:=δ) (L:=L) (L0:=L)
  (bB row.length) ZbH (fun i=>pr (row.getD i 0,(i:Int))) ZbX hen (Amw row) (by simp;omega) ⟨ψ,ψ,hi⟩
  (fun i δ M _ ⟨y,z,hδ⟩ _=>by
   subst hδ;exact ⟨[ξ Zah,ξ (.int Z9)],rfl,⟨_,_,rfl⟩,M,rfl,.refl M⟩)
 have hm:(bB row.length).map (fun i=>pr (row.getD i 0,(i:Int)))=((qsR row).map swp).map pr:=by unfold qsR;rw[bW,bW];rfl
 rw[hm] at hr;exact ⟨_,_,Dw e2 (U8 (Aj hr) (by rw[aN,Lx];omega)),Za,g2.trans Z6⟩
theorem Ag5{T:List Q2}(hl:T.length<=60)(h:Ad 4 δ L=ξ (.ref r,L))(hr:L[r]? = ξ (.lst (T.map pr)))(hi:Ea [ψ,ψ] δ = [ψ,ψ]):∃ L',(Au semTuple (Ac (Bo [ψ,ψ] (Bj (Ad 4)) Zi ψ G5) Af)) δ L=ξ (.tup ((T.map (·.2)).map U.int),L')/\Gw L L':=by
 obtain ⟨q,L2,e2,hq,g2⟩:=Anb (ix:=[ψ,ψ]) (fi:=Bj (Ad 4)) (it:=.ref r) (g:=Zi) (fe:=G5) (δ:=δ) (L:=L) (L0:=L)
  T pr (fun q=>.int q.2) ZbX (Ave h hr) (fun k x=>Jv (Cd (Aj hr))) (by rw[Fe (Aj hr)];simp) Ze ⟨ψ,ψ,hi⟩
  (fun t δ M _ ⟨y,z,hδ⟩ _=>by
   subst hδ;exact ⟨[ξ (.int t.1),ξ (.int t.2)],rfl,⟨_,_,rfl⟩,M,rfl,.refl M⟩)
 refine ⟨L2,Dw e2 ?_,g2⟩;rw[Oe hq,bW];rfl
theorem Ae6(hl:ps.length<=60)(h:Ad 2 δ L=ξ (.tup ZL,L))(hi:Ea [ψ,ψ,ψ] δ = [ψ,ψ,ψ]):∃ L',(Au semTuple (Ac (Bo [ψ,ψ,ψ] (Bj (Ad 2)) Zo ψ G2) Af)) δ L=ξ (.tup ((ps.map fun p=>(p.1,swp p.2)).map p3U),L')/\Gw L L':=by
 obtain ⟨q,L2,e2,hq,g2⟩:=U1 (ix:=[ψ,ψ,ψ]) (fi:=Bj (Ad 2)) (g:=Zo) (fe:=G2) (δ:=δ) (L:=L) (L0:=L)
  ps p3U (fun p=>p3U (p.1,swp p.2)) (fun δ=>∃ a b c,δ = [a,b,c]) (tupI h) rfl Ze ⟨ψ,ψ,ψ,hi⟩
  (fun t δ M _ ⟨y,z,w,hδ⟩ _=>by
   subst hδ;exact ⟨[ξ (.str t.1),ξ (.int t.2.1),ξ (.int t.2.2)],rfl,⟨_,_,_,rfl⟩,M,rfl,.refl M⟩)
 refine ⟨L2,Dw e2 ?_,g2⟩;rw[Oe hq,bW];rfl
theorem Alq{rr:List Int}(hl:row.length<=60)(he:rr.length=row.length)(h:Ad 2 δ L=ξ (.tup Zbp,L))(hb:fb δ L=ξ (.tup (rr.map U.int),L1))(hi:Ea [ψ,ψ,ψ,ψ] δ = [ψ,ψ,ψ,ψ]):∃ L',(Au semTuple (Ac (Bo [ψ,ψ,ψ,ψ] (P9 (Ac (Ad 2) (Ac fb Af))) Zc4 ψ Jl) Af)) δ L=ξ (.tup ((Co nmA rr).map p3U),L')/\Gw L1 L':=by
 have hz:(P9 (Ac (Ad 2) (Ac fb Af))) δ L=ξ (.seq (Kw Zbp (rr.map U.int)),L1):=by
  unfold P9;rw[fCons_eq,h,aA,fCons_eq,hb];rfl
 have hu:Kw Zbp (rr.map U.int)=(bB row.length).map fun (i:Nat)=>U.tup [p3U Zb1,.int (rr.getD i 0)]:=by
  refine kX fun k=>?_
  rw[M8,bA,bA,bA];unfold Co;rw[bA];by_cases hk:k < row.length
  ·have hg:rr[k]? = ξ (rr.getD k 0):=by rw[aC,aE (show k < rr.length by omega)];rfl
   rw[dR hk,hg];rfl
  ·rw[cH (l:=bB row.length) (by simp;omega),cH (l:=rr) Ze];rfl
 obtain ⟨q,L2,e2,hq,g2⟩:=U1 (ix:=[ψ,ψ,ψ,ψ]) (g:=Zc4) (fe:=Jl) (δ:=δ) (L:=L) (L0:=L1)
  (bB row.length) (fun (i:Nat)=>U.tup [p3U Zb1,.int (rr.getD i 0)]) (fun i=>p3U (nmA i,(i:Int),rr.getD i 0)) (fun δ=>∃ a b c d,δ = [a,b,c,d]) hz hu (by simp;omega) ⟨ψ,ψ,ψ,ψ,hi⟩
  (fun i δ M _ ⟨y,z,w,v,hδ⟩ _=>by
   subst hδ;refine ⟨[ξ (.str (B8 i)),ξ Zah,ξ (.int Z9),ξ (.int (rr.getD i 0))],rfl,⟨_,_,_,_,rfl⟩,M,?_,.refl M⟩;have hs:small (("a" : Str).length+(B8 i).length)=true:=small_of (by show ("a" : Str).length+2<=16777216;lk);exact Ahu (Cp rfl rfl (Abv hs M)) rfl rfl)
 refine ⟨L2,Dw e2 ?_,g2⟩;rw[Oe hq];unfold Co;rw[bW,he];rfl
theorem Ai9(hn:row.Nodup)(hl:row.length<=60)(L:UH):∃ L',Pa [.tup Zx] L=ξ Zdj/\Gw L L':=by
 obtain ⟨L1,e1,g1⟩:=Aa6 hl L;obtain ⟨L2,e2,g2⟩:=Oj row L1 Ze;have A:=RwP.of hl B8;have hk:=fun M=>SqV.len (L:=M) (u:=.tup Zx) (.inl rfl)
 generalize hR:U.tup Zx=R at *;generalize hP:U.tup Zbp=P at *;generalize hC:U.tup ZaJ=C at *;have z1:(Ba (Au Bg Zl) (gN 1)) [ξ R,ψ,ψ,ψ,ψ,ψ,ψ,ψ] L=ξ (.nx [ξ R,ξ ZE,ψ,ψ,ψ,ψ,ψ,ψ],L):=F7 (Dw rfl (hk L));have z2:(Ba (Ay 1 Eb Zl) (gN 2)) [ξ R,ξ ZE,ψ,ψ,ψ,ψ,ψ,ψ] L=ξ (.nx [ξ R,ξ ZE,ξ P,ψ,ψ,ψ,ψ,ψ],L1):=F7 (Fb rfl e1);have z3:(Ba (Ay 1 E8 Zl) (gN 3)) [ξ R,ξ ZE,ξ P,ψ,ψ,ψ,ψ,ψ] L1=ξ (.nx [ξ R,ξ ZE,ξ P,ξ C,ψ,ψ,ψ,ψ],L2):=F7 (Fb rfl e2);obtain ⟨L3,e3,g3⟩:=K4 row L2 Ze;rw[hR] at e3;obtain ⟨L4,e4,g4⟩:=A.pairs L3;generalize hδ:[ξ R,ξ ZE,ξ P,ξ C,ψ,ψ,ψ,ψ] = δ;have v0:∀ M,Ad 0 δ M=ξ (R,M):=fun M=>by rw[<- hδ];rfl
 have v1:∀ M,Ad 1 δ M=ξ (.int row.length,M):=fun M=>by rw[<- hδ];rfl
 have v2:∀ M,Ad 2 δ M=ξ (P,M):=fun M=>by rw[<- hδ];rfl
 have z4:=Mw (f:=Bx Zag) (neI (Cp (Fb (v0 L2) e3) (Fb (v2 L3) e4) (semAdd_int _ _ _)) (Aky (δ:=δ) (L:=L4) (fa:=Ad 1) (nJ _) Ze (Ajt hn) v1));obtain ⟨L5,e5,g5⟩:=A.below L4;have e5l:=Dw (s:=O6) (Fb (v2 L4) e5) (show O6 [.tup ZS] L5=ξ (.ref L5.length,L5++[.lst ZS]) from rfl);have en:De ZaH δ (L5++[.lst ZS])=ξ (.seq (Gm ZaJ),L5++[.lst ZS]):=by rw[<- hδ,<- hC];rfl
 obtain ⟨r6,L6,e6,h6,g6⟩:=U1 (ix:=[ψ,ψ]) (g:=Zi) (fe:=N4) (δ:=δ) (L0:=L5++[.lst ZS])
  (bB row.length) (fun (i:Nat)=>U.tup [.int (i:Int),.int ((Di row).getD i 0)]) (fun i=>.int ((i:Int) - (Di row).getD i 0)) ZbX en (by rw[Ma,cntv_len]) (by simp;omega) ⟨ψ,ψ,by rw[<- hδ];rfl⟩
  (fun i δ M _ ⟨y,z,hδ⟩ _=>by
   subst hδ;exact ⟨[ξ Zah,ξ (.int ((Di row).getD i 0))],rfl,⟨_,_,rfl⟩,M,rfl,.refl M⟩)
 have h6b:L6[L5.length]? = ξ (.lst ZS):=g6.get Za;have h6c:(bB row.length).map (fun (i:Nat)=>U.int ((i:Int) - (Di row).getD i 0))=((bB row.length).map fun (i:Nat)=>(i:Int) - (Di row).getD i 0).map U.int:=by rw[bW];rfl
 rw[h6c] at h6;have z5:=Mw (f:=Bx Zag) (Aq3 e5l e6 (neR h6b h6 (Rz hn)));obtain ⟨L7,e7,g7⟩:=Akj hl A v2 (by rw[<- hδ];rfl) L6;obtain ⟨L8,e8,g8⟩:=A.pairs L7;have z6:=Mw (f:=Bx Zag) (neI e7 (Fb (v2 L7) e8));obtain ⟨L9,e9,g9⟩:=A.above L8;obtain ⟨La,ea,ga⟩:=A.pairs L9;have z7:=Mw (f:=Bx Zag) (neI (Dw (s:=semSum) (Fb (v2 L8) e9) (by rw[W0,Yc])) (Fb (v2 L9) ea));obtain ⟨rb',Lb,eb,hb,gb⟩:=Ae7 hl (δ:=δ) (by rw[hR];exact v0) (by rw[<- hδ];rfl) La;have z8:(Ba Zbz (gN 4)) δ La=ξ (.nx ZbA,Lb):=by rw[F7 eb,<- hδ];rfl
 obtain ⟨Lc,ec,gc⟩:=Ag5 (δ:=ZbA) (by rw[sp_len,aN,Lx];exact hl) rfl hb rfl;generalize hbk:(sp ZaP).map (·.2)=bk at ec;have z9:(Ba Za2 (gN 5)) ZbA Lb=ξ (.nx Zav,Lc):=F7 ec;obtain ⟨Ld,ed,gd⟩:=Ae6 (ps:=Co B8 row) (L:=Lc) (δ:=Zav) (by rw[ptsW_len];exact hl) (by rw[hP];rfl) rfl;obtain ⟨Le,ee,ge⟩:=Xj ((Co B8 row).map fun p=>(p.1,swp p.2)) (by rw[aN,ptsW_len];omega) Ld;rw[Ahe,ptsW_q,Ald] at ee;generalize hO:U.tup (((Co B8 row).map fun p=>(p.1,swp p.2)).map p3U)=O at ed ee;have za:(Ba ZaQ (gN 6)) Zav Lc=ξ (.nx [ξ R,ξ ZE,ξ P,ξ C,ξ (.ref rb'),ξ (.tup (bk.map U.int)),ξ O,ψ],Ld):=F7 ed;generalize hδ2:[ξ R,ξ ZE,ξ P,ξ C,ξ (.ref rb'),ξ (.tup (bk.map U.int)),ξ O,ψ] = δ2;have k0:∀ M,Ad 0 δ2 M=ξ (R,M):=fun M=>by rw[<- hδ2];rfl
 have k2:∀ M,Ad 2 δ2 M=ξ (P,M):=fun M=>by rw[<- hδ2];rfl
 have k3:∀ M,Ad 3 δ2 M=ξ (C,M):=fun M=>by rw[<- hδ2];rfl
 have k5:∀ M,Ad 5 δ2 M=ξ (.tup (bk.map U.int),M):=fun M=>by rw[<- hδ2];rfl
 have k6:∀ M,Ad 6 δ2 M=ξ (O,M):=fun M=>by rw[<- hδ2];rfl
 obtain ⟨Lf,ef,gf⟩:=A.pairs Le;have hbl:bk.length<=60:=by rw[<- hbk,aN,sp_len,aN,Lx];exact hl
 obtain ⟨Lg,eg,gg⟩:=K4 bk Lf Ze;obtain ⟨Lh,eh,gh⟩:=K4 row Lg Ze;rw[hR] at eh;have hbs:(Di bk).sum=(Di row).sum:=by rw[<- hbk];exact Ago hn
 rw[hbs] at eg;have zb:=Mw (f:=Bx Zag) (orF (neI (Fb (k6 Ld) ee) (Fb (k2 Le) ef)) (neI (Fb (k5 Lf) eg) (Fb (k0 Lg) eh)));obtain ⟨Li,ei,gi⟩:=Afe (cs:=Di row) (u:=.tup ZaJ) (L:=Lh) (.inl rfl) (by rw[cntv_len];omega) (Vm row);rw[hC,cntv_len] at ei;have hbc:=Ahg row;have hrl:=Afr (Di row) row.length ZcE;have hrn:(rb (Di row) row.length ZcE).Nodup:=((Vz (Di row) row.length ZcE Za).nodup_iff).mpr ((Acp row.length).imp fun h e=>by omega);generalize rb (Di row) row.length ZcE=rr at ei hbc hrl hrn;obtain ⟨Lj,ej,gj⟩:=Alq (row:=row) (L:=Lh) (δ:=δ2) (fb:=Ay 1 K3 ZaH) hl hrl (by rw[hP];exact k2 Lh) (Fb (k3 Lh) ei) (by rw[<- hδ2];rfl);have B:=RwP.of (row:=rr) Ze nmA;generalize U.tup ((Co nmA rr).map p3U)=O2 at ej B;obtain ⟨Lk,ek,gk⟩:=B.below Lj;obtain ⟨Ll,el,gl⟩:=A.below Lk;have hbb:(qsR rr).map (cnt (qsR rr))=(qsR row).map Zb2:=by rw[Rz hrn,Rz hn,hbc,hrl]
 rw[hbb] at ek;refine ⟨Ll,fn1 (n:=7) ?_,g1.trans (g2.trans (g3.trans (g4.trans (g5.trans ((Gw.new _ _).trans (g6.trans (g7.trans (g8.trans (g9.trans (ga.trans (gb.trans (gc.trans (gd.trans (ge.trans (gf.trans (gg.trans (gh.trans (gi.trans (gj.trans (gk.trans gl))))))))))))))))))))⟩;show Pk [ξ R,ψ,ψ,ψ,ψ,ψ,ψ,ψ] L=_;unfold Pk;rw[Al z1,Al z2,Al z3,hδ,Al z4,Al z5,Al z6,Al z7,Al z8,Al z9,Al za,hδ2,Al zb];have zc:=F7 (i:=7) ej;rw[Al zc,<- hδ2];exact Tt (Cp (Fb rfl ek) (Fb rfl el) (Al0 _ _ rfl _))
theorem Agz(L:UH):Bm [.tup []] L=ξ (.tup [.int 0,.int 1,.tup []],L):=rfl
theorem Xo(hl:ps.length<=60)(L:UH)(h0:ps=[]->k=0)(h:∀ c,Bst (IsC ps) w1 c->c.length=k):∃ us L',Bm [.tup ZL] L=ξ (.tup (.int (k:Int)::us),L')/\Gw L L':=by
 by_cases he:ps=[]
 ·rw[h0 he,he];exact ⟨_,L,Agz L,.refl L⟩
 ·obtain ⟨c,L',e,b,g⟩:=Aah ps hl he L;rw[<- h c b];exact ⟨_,L',e,g⟩
theorem Vi(hl:row.length<=60)(L:UH)(h:∀ (cs:List (List En)) (dn:List P3),Laid cs dn->dn.Perm (Co B8 row)->(∀ p∈topC cs,∀ q∈topC cs,below p.2 q.2=false)->cs.length=k):∃ us L',E6 [.tup Zbp] L=ξ (.tup us,L')/\us.length=k/\Gw L L':=by
 have hn:=Aaq B8 row;have hp:=Ku (Co B8 row);have A:=Ko _ (Y7 (Co B8 row)) (hp.nodup_iff.mpr hn);obtain ⟨c1,_,_,c4⟩:=Aal (Aep hl) A hp;obtain ⟨L',e,g⟩:=Ag4 (ps:=Co B8 row) (by rw[ptsW_len];exact hl) hn L;refine ⟨_,L',e,?_,g⟩;rw[aN,<- h _ _ A hp c4,<- c1];unfold Rf;rw[aN]
theorem ix0(u:U)(us:List U)(L:UH):Am (.tup (u::us)) (.int 0) L=ξ (u,L):=by
 show (L2.atI (u::us) ((0:Nat):Int)).map _=_;rw[Wa (u:=u) rfl];rfl
theorem Agi(us:List U)(L:UH):Bg [.tup us] L=ξ (.int us.length,L):=by simp[Bg,lenU]
theorem Aam(row:List Int)(hl:row.length<=60)(L:UH):D8 [.tup Zx] L=ξ (.ref L.length,L++[.lst ((Fv row).map U.int)]):=by
 show (mapO toI Zx).bind _=_;rw[toI_ints,aA,if_pos Ze]
theorem Ys(hn:row.Nodup)(hl:row.length<=60)(L:UH):∃ L',E3 [.tup Zx] L=ξ Zdj/\Gw L L':=by
 have hk:=fun M=>SqV.len (L:=M) (u:=.tup Zx) (.inl rfl)
 have hs:=fun M=>Aam row hl M
 have hup:=Akq hn;have hul:(Fv row).length=row.length:=(Jr row).length_eq;have hdn:(Fv row).reverse.Pairwise fun a b=>b < a:=List.pairwise_reverse.mpr hup
 have hdl:(Fv row).reverse.length=row.length:=by rw[cG,hul]
 generalize hR:U.tup Zx=R at *;generalize hu:Fv row=up at *;generalize hd:up.reverse=dn at *;have z1:(Ba (Au Bg Zl) (gN 1)) [ξ R,ψ,ψ,ψ] L=ξ (.nx [ξ R,ξ ZE,ψ,ψ],L):=F7 (Dw rfl (hk L));have t1:(Au semTuple (Ac (Au D8 Zl) Af)) [ξ R,ξ ZE,ψ,ψ] L=ξ (.tup ZbR,L++[.lst ZbR]):=Dw (Dw rfl (hs L)) (Oe Za);obtain ⟨L1,e1,g1⟩:=Aa6 (row:=up) Ze (L++[.lst ZbR]);have z2:=F7 (i:=2) (Ab5 t1 e1);have hq1:∀ L,∃ us L',Bm [.tup ((Co B8 up).map p3U)] L=ξ (.tup (.int (row.length:Int)::us),L')/\Gw L L':=fun L=>Xo (by rw[ptsW_len];omega) L (fun h=>by have:=ptsW_len B8 up;rw[h] at this;simp at this;omega) fun c b=>by
  by_cases h0:up=[]
  ·obtain ⟨i,r,rfl⟩:=b.1.ex;have:=b.1.head;rw[ptsW_len,h0] at this;simp at this
  ·rw[Aj7 hup h0 b,hul]
 have hq2:=fun L=>Vi (row:=up) Ze L (k:=if 0 < row.length then 1 else 0) fun cs dn A hd hno=>by rw[Ai5 hup A hd hno,hul]
 generalize U.tup ((Co B8 up).map p3U)=P at *;have z2':(Ba (Ay 1 Eb (Ac (Au semTuple (Ac (Au D8 Zl) Af)) Af)) (gN 2)) [ξ R,ξ ZE,ψ,ψ] L=ξ (.nx Zdf,L1):=z2;have t2:(Au semTuple Zd1) Zdf L1=ξ (.tup (dn.map U.int),L1++[.lst ZbR]++[.lst (dn.map U.int)]):=by
  have e:(Vu (Au D8 Zl)) Zdf L1=ξ (.ref (L1++[HU.lst ZbR]).length,L1++[.lst ZbR]++[.lst (dn.map U.int)]):=by
   rw[Ac0,Dw (s:=D8) rfl (hs L1),aA];show (Ap (L1++[HU.lst ZbR]) L1.length).map _=_;rw[Aj (us:=up.map U.int) Za,<- hd,lR];rfl
  exact Dw e (Oe Za)
 obtain ⟨L2,e2,g2⟩:=Aa6 (row:=dn) Ze (L1++[.lst ZbR]++[.lst (dn.map U.int)]);have z3:=F7 (i:=3) (Ab5 t2 e2);have hq3:∀ L,∃ us L',Bm [.tup ((Co B8 dn).map p3U)] L=ξ (.tup (.int ((if 0 < row.length then 1 else 0:Nat):Int)::us),L')/\Gw L L':=fun L=>Xo (by rw[ptsW_len];omega) L (fun h=>by have h2:=ptsW_len B8 dn;rw[h,hdl] at h2;have h3:row.length=0:=h2.symm;rw[if_neg Ze]) fun c b=>by
  obtain ⟨i,r,hc⟩:=b.1.ex;have hi:i < (Co B8 dn).length:=(hc ▸ b.1:IsC (Co B8 dn) (i::r)).head;rw[ptsW_len] at hi;rw[Adq hdn b.1,if_pos Ze]
 have hq4:=fun L=>Vi (row:=dn) Ze L (k:=row.length) fun cs _ A hd _=>by rw[Aay hdn A hd,hdl]
 generalize U.tup ((Co B8 dn).map p3U)=Pd at *;have z3':(Ba (Ay 1 Eb (Ac (Au semTuple Zd1) Af)) (gN 3)) Zdf L1=ξ (.nx [ξ R,ξ ZE,ξ P,ξ Pd],L2):=z3;generalize hδ:[ξ R,ξ ZE,ξ P,ξ Pd] = δ;have v1:∀ M,Ad 1 δ M=ξ (.int row.length,M):=fun M=>by rw[<- hδ];rfl
 have v2:∀ M,Ad 2 δ M=ξ (P,M):=fun M=>by rw[<- hδ];rfl
 have v3:∀ M,Ad 3 δ M=ξ (Pd,M):=fun M=>by rw[<- hδ];rfl
 obtain ⟨u3,L3,e3,g3⟩:=hq1 L2;obtain ⟨u4,L4,e4,l4,g4⟩:=hq4 L3;obtain ⟨u5,L5,e5,l5,g5⟩:=hq2 L4;obtain ⟨u6,L6,e6,g6⟩:=hq3 L5;have z4:=Mw (f:=Bx Zag) (orF (neI (Cp (Fb (v2 L2) e3) (show (fC (.int 0)) δ L3=_ from rfl) (ix0 (.int (row.length:Int)) u3 L3)) (v1 L3)) (neI (Dw (s:=Bg) (Fb (v3 L3) e4) (by rw[Agi,l4])) (v1 L4)));have hint:∀ M,(Au Na (Ac (f2 Dq (Ad 1) Zn) Af)) δ M=ξ (.int ((if 0 < row.length then 1 else 0:Nat):Int),M):=fun M=>by
  refine Dw (Cp (v1 M) rfl (Mb _ _ _)) ?_;show ξ (U.int (if decide ((0:Int) < row.length)=true then 1 else 0),M)=_;by_cases h:0 < row.length
  ·rw[if_pos h,if_pos (decide_eq_true Ze)];rfl
  ·rw[if_neg h,if_neg (by rw[decide_eq_true_eq];omega)];rfl
 have c1:(f2 Eu (Au Bg (Ac (Ay 1 E6 ZA) Af)) ZaG) δ L4=ξ (.bl true,L5):=
  Cp (Dw (Fb (v2 L4) e5) (by rw[Agi,l5])) (hint L5) (by rw[semEq_int,beq_self_eq_true])
 have c2:(f2 Eu (f2 Am (Ay 1 Bm ZaH) Zn) ZaG) δ L5=ξ (.bl true,L6):=
  Cp (Cp (Fb (v3 L5) e6) rfl (ix0 (.int ((if 0 < row.length then 1 else 0:Nat):Int)) u6 L6)) (hint L6) (by rw[semEq_int,beq_self_eq_true])
 refine ⟨L6,fn1 (n:=3) ?_,(Gw.new _ _).trans (g1.trans ((Gw.new _ _).trans ((Gw.new _ _).trans (g2.trans (g3.trans (g4.trans (g5.trans g6)))))))⟩;show Ez [ξ R,ψ,ψ,ψ] L=_;unfold Ez;rw[Al z1,Al z2',Al z3',hδ,Al z4];refine Tt ?_;rw[Tw,c1];simp only[aA,if_true,c2]
theorem Ale(h:k < 4):∃ m:Nat,L2.atI [U.int 60,.int 30,.int 9,.int 5] (k:Int)=ξ (.int m)/\m<=60:=by
 have:k=0\/k=1\/k=2\/k=3:=Ze
 rcases this with rfl | rfl | rfl | rfl
 ·exact ⟨60,rfl,Zb⟩
 ·exact ⟨30,rfl,Zb⟩
 ·exact ⟨9,rfl,Zb⟩
 ·exact ⟨5,rfl,Zb⟩
theorem Akn{a:U}(D:Deck M d B)(hB:B<=1000000)(hk:k < 4)(y3:Option U):∃ z3 M',Q3 [ξ a,ξ (.ref d),ξ ZY,y3] M=ξ (.nx [ξ a,ξ (.ref d),ξ ZY,z3],M')/\Deck M' d (B+700):=by
 obtain ⟨m,hm,h60⟩:=Ale hk;have e0:(f2 Am (El (Ac (fC (.int 60)) (Ac (fC (.int 30)) (Ac (fC (.int 9)) (Ac (fC (.int 5)) Af))))) (Ad 2)) [ξ a,ξ (.ref d),ξ ZY,y3] M=ξ (.int m,M++[.lst [.int 60,.int 30,.int 9,.int 5]]):=by
  refine Cp (show _=ξ (.ref M.length,M++[.lst [.int 60,.int 30,.int 9,.int 5]]) from ?_) rfl ?_
  ·simp[small_of]
  ·rw[semIx_ref,Aj (us:=[.int 60,.int 30,.int 9,.int 5]) Za,aA,hm];rfl
 obtain ⟨row,L1,e1,hn,_,hr,D1,_⟩:=Ape (most:=m) (D.new [.lst [.int 60,.int 30,.int 9,.int 5]]) Ze Ze;obtain ⟨L2,e2,g2⟩:=Ai9 hn Ze L1;obtain ⟨L3,e3,g3⟩:=Ys hn Ze L2;refine ⟨ξ (.tup Zx),L3,?_,g3.deck (g2.deck D1)⟩;unfold Q3;rw[Al (F7 (i:=3) (Anq rfl e0 e1))];exact Mw (orF (Ac4 (Fb rfl e2)) (Ac4 (Fb rfl e3)))
theorem Ah7(ns:List Int)(hl:ns.length<=63)(hb:∀ n∈ns,PySem.Builtin.Int.intBits n<=2 ^ 20):∃ L',Yv [.ref 0] [.ro Z4]=ξ Zdj:=by
 obtain ⟨d,L1,e1,D1,_,_⟩:=Deck.start ns [.ro Z4] 0 rfl hl;have s1:(Ba (Ay 1 Km Zl) (gN 1)) [ξ (.ref 0),ψ,ψ,ψ] [.ro Z4]=ξ (.nx [ξ (.ref 0),ξ (.ref d),ψ,ψ],L1):=F7 (Fb rfl e1);have hi:Jd (Ac (fC (.int 4)) Af) [ξ (.ref 0),ξ (.ref d),ψ,ψ] L1=ξ (.seq (Bh 0 4),L1):=Tv (n:=4) rfl Ze;obtain ⟨δ2,L2,e2,⟨y2,y3,hδ⟩,D2⟩:=Qq (us:=Bh 0 4) (body:=Q3) (g:=gN 2)
  (fun k δ' L'=>(∃ y2 y3,δ'=[ξ (.ref 0),ξ (.ref d),y2,y3])/\Deck L' d (700 * k)) hi ⟨⟨ψ,ψ,rfl⟩,D1.mono Ze⟩
  (fun k u δ M hu ⟨⟨y2,y3,hδ⟩,DM⟩=>by
   subst hδ;obtain ⟨hk,rfl⟩:=Np hu;rw[show (0:Int)+(k:Int)=(k:Int) by omega];obtain ⟨z3,M',e,D'⟩:=Akn (a:=.ref 0) (y3:=y3) DM Ze hk;exact ⟨_,_,rfl,_,M',.inl e,⟨_,z3,rfl⟩,D'.mono Ze⟩)
 refine ⟨L2,fn1 (n:=3) ?_⟩;show Ag0 [ξ (.ref 0),ψ,ψ,ψ] [.ro Z4]=_;unfold Ag0;rw[Al s1,Al e2,hδ];rfl
noncomputable def top(i:Nat):Stmt:=PySem.Challenge.pw_belowpoints_k47_whole_rows_as_points.main.body.getD i (.Pass ⟨0,0,0,0⟩)
abbrev Xe:Stmt:=top 37
theorem Aem:FnScope ["script"] ["script"] (Aq Xe):=scm
abbrev Sa:Stmt:=top 40
theorem P5:FnScope ["row","letters"] ["row"] (Aq Sa):=scm
abbrev Oo:Stmt:=top 10
theorem Ul:FnScope ["one","other"] ["one","other"] (Aq Oo):=scm
abbrev N1:Stmt:=top 17
theorem Um:FnScope ["places","place"] ["places","place"] (Aq N1):=scm
abbrev Td:Stmt:=top 11
theorem Yj:FnScope ["point"] ["point"] (Aq Td):=scm
abbrev Nr:Stmt:=top 14
theorem M4:FnScope ["points","places"] ["points"] (Aq Nr):=scm
abbrev Ob:Stmt:=top 16
theorem T8:FnScope ["places","place"] ["places","place"] (Aq Ob):=scm
abbrev N0:Stmt:=top 13
theorem Ml:FnScope ["points","places"] ["points"] (Aq N0):=scm
abbrev K9:Stmt:=top 7
theorem Qj:FnScope ["numbers","number"] ["numbers","number"] (Aq K9):=scm
abbrev P1:Stmt:=top 4
theorem V9:FnScope ["row"] ["row"] (Aq P1):=scm
abbrev Ss:Stmt:=top 5
theorem Xu:FnScope ["row"] ["row"] (Aq Ss):=scm
abbrev K5:Stmt:=top 34
theorem Qk:FnScope ["lower","upper"] ["lower","upper"] (Aq K5):=scm
abbrev Im:Stmt:=top 33
theorem D0:FnScope ["places","first","behind","many","middle","whole"] ["places","first","behind"] (Aq Im):=scm
abbrev Py:Stmt:=top 32
theorem Nv:FnScope ["points","places"] ["points"] (Aq Py):=scm
abbrev Kh:Stmt:=top 15
theorem Qh:FnScope ["points"] ["points"] (Aq Kh):=scm
abbrev Mo:Stmt:=top 8
theorem Hg:FnScope ["counts","place","count"] ["counts"] (Aq Mo):=scm
abbrev W8:Stmt:=top 6
theorem Lq:FnScope ["counts","left","backwards","place"] ["counts"] (Aq W8):=scm
abbrev U3:Stmt:=top 41
theorem Ec:FnScope ["row","many","points","counts","turned","back","other","own"] ["row"] (Aq U3):=scm
abbrev Acr:Stmt:=top 36
theorem Od:FnScope ["cell","k","number"] ["cell","k"] (Aq Acr):=scm
abbrev Yy:Stmt:=top 38
theorem Po:FnScope ["deck","many","cell","found"] ["deck","many"] (Aq Yy):=scm
abbrev Aci:Stmt:=top 39
theorem Dd:FnScope ["deck","most","many","way","step","wide","low","left","k","at"] ["deck","most"] (Aq Aci):=scm
abbrev Ha:Stmt:=top 21
theorem Ej:FnScope ["chains","point","turn","chain"] ["chains","point"] (Aq Ha):=scm
abbrev Mx:Stmt:=top 20
theorem D9:FnScope ["points","chains","point","turn","crowd"] ["points"] (Aq Mx):=scm
abbrev Sh:Stmt:=top 19
theorem Lm:FnScope ["points","chains","crowd"] ["points"] (Aq Sh):=scm
abbrev Xx:Stmt:=top 30
theorem Ado:FnScope ["numbers","turns"] ["numbers","turns"] (Aq Xx):=scm
abbrev M3:Stmt:=top 29
theorem Ke:FnScope ["points","point","place"] ["points","point"] (Aq M3):=scm
abbrev Ii:Stmt:=top 25
theorem Cr:FnScope ["points","above","begun","told"] ["points"] (Aq Ii):=scm
abbrev Iw:Stmt:=top 27
theorem N3:FnScope ["chains"] ["chains"] (Aq Iw):=scm
abbrev Et:Stmt:=top 28
theorem Hl:FnScope ["points"] ["points"] (Aq Et):=scm
abbrev Jc:Stmt:=top 26
theorem Cu:FnScope ["points","weights","begun","turn","following","rest"] ["points","weights"] (Aq Jc):=scm
abbrev Jb:Stmt:=top 24
theorem Hr:FnScope ["points","weights","heaviest"] ["points","weights"] (Aq Jb):=scm
abbrev Ig:Stmt:=top 23
theorem D4:FnScope ["points","ones","point","heaviest"] ["points"] (Aq Ig):=scm
abbrev He:Stmt:=top 42
theorem C3:FnScope ["row","many","rising","falling"] ["row"] (Aq He):=scm
abbrev Amd:Stmt:=top 43
theorem Wd:FnScope ["script","deck","turn","row"] ["script"] (Aq Amd):=scm
set_option genInjectivity false
set_option genSizeOf false
set_option genSizeOfSpec false
structure Defs(K:aL)(mg:Str->Option aH) where
 ua:FnG K mg "_law_deck" Xe ["script"]
 uc:FnG K mg "_law_points" Sa ["row"]
 ud:FnG K mg "lies_below" Oo ["one","other"]
 ue:FnG K mg "many_above" N1 ["places","place"]
 uf:FnG K mg "place_of" Td ["point"]
 ug:FnG K mg "above_each" Nr ["points"]
 uh:FnG K mg "many_below" Ob ["places","place"]
 ui:FnG K mg "below_each" N0 ["points"]
 uj:FnG K mg "many_greater" K9 ["numbers","number"]
 uk:FnG K mg "counts_of" P1 ["row"]
 ul:FnG K mg "count_of" Ss ["row"]
 um:FnG K mg "crossings_of" K5 ["lower","upper"]
 uo:FnG K mg "halves_between" Im ["places","first","behind"]
 uq:FnG K mg "halves_of" Py ["points"]
 ur:FnG K mg "pairs_in_all" Kh ["points"]
 ut:FnG K mg "need_counts" Mo ["counts"]
 uu:FnG K mg "row_of" W8 ["counts"]
 uv:FnG K mg "_law_right" U3 ["row"]
 uw:FnG K mg "_law_mix" Acr ["cell","k"]
 ux:FnG K mg "_law_next" Yy ["deck","many"]
 uy:FnG K mg "_law_row" Aci ["deck","most"]
 uz:FnG K mg "first_that_takes" Ha ["chains","point"]
 uA:FnG K mg "chains_laid" Mx ["points"]
 uB:FnG K mg "crowd_of" Sh ["points"]
 uC:FnG K mg "sum_at" Xx ["numbers","turns"]
 uD:FnG K mg "turns_above" M3 ["points","point"]
 uE:FnG K mg "chains_of_each" Ii ["points"]
 uF:FnG K mg "first_heaviest" Iw ["chains"]
 uG:FnG K mg "turns_from_the_highest" Et ["points"]
 uH:FnG K mg "heaviest_begun" Jc ["points","weights"]
 uI:FnG K mg "heaviest_chain" Jb ["points","weights"]
 uJ:FnG K mg "longest_chains" Ig ["points"]
 uK:FnG K mg "_law_straight_right" He ["row"]
 uL:FnG K mg "law" Amd ["script"]
 uM:Aoj K mg "first_heaviest"
 uN:Aoj K mg "turns_from_the_highest"
 uO:mg "all" = ψ
 uP:mg "any" = ψ
 uQ:mg "enumerate" = ψ
 uR:mg "int" = ψ
 uS:mg "len" = ψ
 uT:mg "list" = ψ
 uU:mg "max" = ψ
 uV:mg "min" = ψ
 uW:mg "range" = ψ
 uX:mg "reversed" = ψ
 uY:mg "sorted" = ψ
 uZ:mg "sum" = ψ
 u7:mg "tuple" = ψ
 u8:mg "zip" = ψ
section
variable {P:cO}{w:dH}{K:aL}{mg:Str->Option aH}{base:Heap}
theorem Aes(C:Defs K mg)(LB:LamB K mg base):FnOk P w K mg base CX0 1 C.ua.f C.ua.d ["script"] (spF K 1 Km):=by
 refine Fun.okF C.ua.F Aem (fun cdv A outer s H E hr=>?_);have hu:=hr.units;exact (Ao (Ax (Fh (by refine Aa (Ln R8 R4 (Ag 0) Rm (Fi Ah)) ?_;refine Aa Ah ?_;refine Aa Ah ?_;refine Aa Ah ?_;refine Aa (Bd (E7 rfl) Hu Zc C.uZ eS (Aa (Ln R8 R4 (Ag 0) Rm (Fi Ah)) Ae)) ?_;exact Ae))))
theorem Kp(C:Defs K mg)(LB:LamB K mg base):FnOk P w K mg base CX0 1 C.uc.f C.uc.d ["row"] (spF K 1 Eb):=by
 refine Fun.okF C.uc.F P5 (fun cdv A outer s H E hr=>?_);have hu:=hr.units;refine Ai ?s0 ?t0
 case s0=>exact (Av (i:=1) (by exact P5.nd) Ahh)
 exact (Ao (Ax (Bu Bl B9 Zc C.u7 Zd (Aa (Ck (N':=["place","number","letters"]) (ix:=[ψ,ψ,ξ 1]) ⟨rfl,rfl,rfl,rfl,rfl,rfl⟩ rfl Zdv (fun _ _ _ _ _ _=>(Dy rfl (A8 (Ar (i:=0) (show bY (α:=Str) ["place","number","letters"] by lk)) (A8 (Ar (i:=1) (show bY (α:=Str) ["place","number","letters"] by lk)) Ct)))) (fun _ _ _ _ _ _=>(Cq (Aa (Bf B2 B1 (Bi Az A0 (Ag 2) (Bf Ij Ls (Ag 0) Ah) Zj) (Bi Az A0 (Ag 2) (Bf Jk Gy (Ag 0) Ah) Zj)) Zdw)))) Ae))))
theorem F5(C:Defs K mg)(LB:LamB K mg base):FnOk P w K mg base CX0 1 C.ud.f C.ud.d ["one","other"] (spF K 2 Cm):=by
 refine Fun.okF C.ud.F Ul (fun cdv A outer s H E hr=>?_);have hu:=hr.units;exact (Ao (Ax (Ag6 (M5 (Jp hu) Jx (Ag 0) (Ag 1) (Bw _)) (Afx (Bd (Aea rfl) Al9 Zc C.uO PyProof.Rows.boot_all (Aa (Ck (N':=["number","above"]) (ix:=[ψ,ψ]) ⟨rfl,rfl,rfl,rfl,rfl,rfl⟩ rfl (Xy Zc C.u8 Zdw) (fun _ _ _ _ _ _=>(Dy rfl (A8 (Ar (i:=0) (show bY (α:=Str) ["number","above"] by lk)) (A8 (Ar (i:=1) (show bY (α:=Str) ["number","above"] by lk)) Ct)))) (fun _ _ _ _ _ _=>(M5 Aqg Aox (Ag 0) (Ag 1) (Bw _)))) Ae))))))
theorem Ug(C:Defs K mg)(LB:LamB K mg base):FnOk P w K mg base CX0 2 C.ue.f C.ue.d ["places","place"] (spF K 2 G4):=by
 refine Fun.okF C.ue.F Um (fun cdv A outer s H E hr=>?_);have hu:=hr.units;exact (Ao (Ax (Bd Ci C7 Zc C.uS dO (Aa (Kg (N':=["other","place"]) (ix:=[ψ,ξ 1]) ⟨rfl,rfl,rfl,rfl,rfl,rfl⟩ rfl (B5 (Ag 0)) (fun _ _ _ _ _ _=>(Ar (i:=0) (show bY (α:=Str) ["other","place"] by lk))) (fun _ _ _ _ _ _=>(F4 (Ak (F5 C LB) Zm Zc C.ud.g C.ud.F.kp C.ud.b Zcl))) Zch) Ae))))
theorem Cy(C:Defs K mg)(LB:LamB K mg base):FnOk P w K mg base CX0 1 C.uf.f C.uf.d ["point"] (spF K 1 Bk):=by
 refine Fun.okF C.uf.F Yj (fun cdv A outer s H E hr=>?_);have hu:=hr.units;exact (Ao (Ax (Cq (Aa Zy (Aa Zy Ae)))))
theorem Uc(C:Defs K mg)(LB:LamB K mg base):FnOk P w K mg base CX0 3 C.ug.f C.ug.d ["points"] (spF K 1 Ee):=by
 refine Fun.okF C.ug.F M4 (fun cdv A outer s H E hr=>?_);have hu:=hr.units;refine Ai ?s0 ?t0
 case s0=>exact (Av (i:=1) (by exact M4.nd) (Ck (N':=["point"]) (ix:=[ψ]) ⟨rfl,rfl,rfl,rfl,rfl,rfl⟩ rfl (B5 (Ag 0)) (fun _ _ _ _ _ _=>(Ar (i:=0) (show bY (α:=Str) ["point"] by lk))) Zaw))
 exact (Ao (Ax (Bu Bl B9 Zc C.u7 Zd (Aa (Ck (N':=["place","places"]) (ix:=[ψ,ξ 1]) ⟨rfl,rfl,rfl,rfl,rfl,rfl⟩ rfl (B5 (Ag 1)) (fun _ _ _ _ _ _=>(Ar (i:=0) (show bY (α:=Str) ["place","places"] by lk))) (fun _ _ _ _ _ _=>(Ak (Ug C LB) Zm Zc C.ue.g C.ue.F.kp C.ue.b Zcl))) Ae))))
theorem Mz(C:Defs K mg)(LB:LamB K mg base):FnOk P w K mg base CX0 2 C.uh.f C.uh.d ["places","place"] (spF K 2 Ff):=by
 refine Fun.okF C.uh.F T8 (fun cdv A outer s H E hr=>?_);have hu:=hr.units;exact (Ao (Ax (Bd Ci C7 Zc C.uS dO (Aa (Kg (N':=["other","place"]) (ix:=[ψ,ξ 1]) ⟨rfl,rfl,rfl,rfl,rfl,rfl⟩ rfl (B5 (Ag 0)) (fun _ _ _ _ _ _=>(Ar (i:=0) (show bY (α:=Str) ["other","place"] by lk))) (fun _ _ _ _ _ _=>(F4 (Ak (F5 C LB) Zm Zc C.ud.g C.ud.F.kp C.ud.b Zdw))) Zch) Ae))))
theorem F6(C:Defs K mg)(LB:LamB K mg base):FnOk P w K mg base CX0 3 C.ui.f C.ui.d ["points"] (spF K 1 Cj):=by
 refine Fun.okF C.ui.F Ml (fun cdv A outer s H E hr=>?_);have hu:=hr.units;refine Ai ?s0 ?t0
 case s0=>exact (Av (i:=1) (by exact Ml.nd) (Ck (N':=["point"]) (ix:=[ψ]) ⟨rfl,rfl,rfl,rfl,rfl,rfl⟩ rfl (B5 (Ag 0)) (fun _ _ _ _ _ _=>(Ar (i:=0) (show bY (α:=Str) ["point"] by lk))) Zaw))
 exact (Ao (Ax (Bu Bl B9 Zc C.u7 Zd (Aa (Ck (N':=["place","places"]) (ix:=[ψ,ξ 1]) ⟨rfl,rfl,rfl,rfl,rfl,rfl⟩ rfl (B5 (Ag 1)) (fun _ _ _ _ _ _=>(Ar (i:=0) (show bY (α:=Str) ["place","places"] by lk))) (fun _ _ _ _ _ _=>(Ak (Mz C LB) Zm Zc C.uh.g C.uh.F.kp C.uh.b Zcl))) Ae))))
theorem Qi(C:Defs K mg)(LB:LamB K mg base):FnOk P w K mg base CX0 1 C.uj.f C.uj.d ["numbers","number"] (spF K 2 Fj):=by
 refine Fun.okF C.uj.F Qj (fun cdv A outer s H E hr=>?_);have hu:=hr.units;exact (Ao (Ax (Bd Ci C7 Zc C.uS dO (Aa (Kg (N':=["other","number"]) (ix:=[ψ,ξ 1]) ⟨rfl,rfl,rfl,rfl,rfl,rfl⟩ rfl (B5 (Ag 0)) (fun _ _ _ _ _ _=>(Ar (i:=0) (show bY (α:=Str) ["other","number"] by lk))) (fun _ _ _ _ _ _=>(Bv N5 Jn (Ag 0) (Ag 1) (Bw _))) Zch) Ae))))
theorem Nt(C:Defs K mg)(LB:LamB K mg base):FnOk P w K mg base CX0 2 C.uk.f C.uk.d ["row"] (spF K 1 E8):=by
 refine Fun.okF C.uk.F V9 (fun cdv A outer s H E hr=>?_);have hu:=hr.units;exact (Ao (Ax (Bu Bl B9 Zc C.u7 Zd (Aa (Ck (N':=["place","number","row"]) (ix:=[ψ,ψ,ξ 0]) ⟨rfl,rfl,rfl,rfl,rfl,rfl⟩ rfl Zdv (fun _ _ _ _ _ _=>(Dy rfl (A8 (Ar (i:=0) (show bY (α:=Str) ["place","number","row"] by lk)) (A8 (Ar (i:=1) (show bY (α:=Str) ["place","number","row"] by lk)) Ct)))) (fun _ _ _ _ _ _=>(Ak (Qi C LB) Zm Zc C.uj.g C.uj.F.kp C.uj.b (Aa (Ln R8 R4 (Ag 2) Rm (Fi (Ag 0))) Zao)))) Ae))))
theorem Kk(C:Defs K mg)(LB:LamB K mg base):FnOk P w K mg base CX0 3 C.ul.f C.ul.d ["row"] (spF K 1 F1):=by
 refine Fun.okF C.ul.F Xu (fun cdv A outer s H E hr=>?_);have hu:=hr.units;exact (Ao (Ax (Bd (E7 rfl) Hu Zc C.uZ eS (Aa (Ak (Nt C LB) Zm Zc C.uk.g C.uk.F.kp C.uk.b Zv) Ae))))
theorem Qg(C:Defs K mg)(LB:LamB K mg base):FnOk P w K mg base CX0 3 C.um.f C.um.d ["lower","upper"] (spF K 2 D7):=by
 refine Fun.okF C.um.F Qk (fun cdv A outer s H E hr=>?_);have hu:=hr.units;exact (Ao (Ax (Bd (E7 rfl) Hu Zc C.uZ eS (Aa (Ck (N':=["place","lower"]) (ix:=[ψ,ξ 0]) ⟨rfl,rfl,rfl,rfl,rfl,rfl⟩ rfl (B5 (Ag 1)) (fun _ _ _ _ _ _=>(Ar (i:=0) (show bY (α:=Str) ["place","lower"] by lk))) (fun _ _ _ _ _ _=>(Ak (Mz C LB) Zm Zc C.uh.g C.uh.F.kp C.uh.b Zcl))) Ae))))
theorem Hk(C:Defs K mg)(LB:LamB K mg base):∀ k:Nat,FnOk P w K mg base CX0 (4+k) C.uo.f C.uo.d ["places","first","behind"] (spF K 3 (By k))
 | 0=>⟨fun _ _ _ _ h=>(by obtain ⟨_,_,_,_,_,_,_,_,e,_⟩:=h;cases e),fun _ _ _ _ _ _ _ _ _ _ _ _ _ h=>(by obtain ⟨_,_,_,_,_,_,_,_,e,_⟩:=h;cases e)⟩
 | k+1=>by
  have hR:=Hk C LB k;refine Fun.okF C.uo.F D0 (fun cdv A outer s H E hr=>?_);have hu:=hr.units;refine Ai ?s0 ?t0
  case s0=>exact (Av (i:=3) (by exact D0.nd) (Bf G8 Fp (Ag 2) (Ag 1)))
  refine Ai ?s1 ?t1
  case s1=>exact (C1 (Bv Acw Ww (Ag 3) Ah (Bw _)) (Ao (Ax (Fh Ae))) B7)
  refine Ai ?s2 ?t2
  case s2=>exact (Av (i:=4) (by exact D0.nd) (Bf B2 B1 (Ag 1) (Bf Ij Ls (Ag 3) Ah)))
  refine Ai ?s3 ?t3
  case s3=>exact (Av (i:=5) (by exact D0.nd) (Cq (Aa (Ag 1) (Aa (Ag 2) (Aa (Ak (Qg C LB) (hr.mono (by show _<=_+k;omega)) Zc C.um.g C.um.F.kp C.um.b (Aa (Ln R8 R4 (Ag 0) (Fi (Ag 1)) (Fi (Ag 4))) (Aa (Ln R8 R4 (Ag 0) (Fi (Ag 4)) (Fi (Ag 2))) Ae))) Ae)))))
  exact (Ao (Ax (Bf B2 B1 (Bf B2 B1 (Fh (Aa (Ag 5) Ae)) (Ak hR hr Zc C.uo.g C.uo.F.kp C.uo.b (Aa (Ag 0) (Aa (Ag 1) (Aa (Ag 4) Ae))))) (Ak hR hr Zc C.uo.g C.uo.F.kp C.uo.b (Aa (Ag 0) (Aa (Ag 4) Z5))))))
theorem O1(C:Defs K mg)(LB:LamB K mg base):FnOk P w K mg base CX0 11 C.uo.f C.uo.d ["places","first","behind"] (spF K 3 F0):=Hk C LB 7
theorem Vq(C:Defs K mg)(LB:LamB K mg base):FnOk P w K mg base CX0 12 C.uq.f C.uq.d ["points"] (spF K 1 D6):=by
 refine Fun.okF C.uq.F Nv (fun cdv A outer s H E hr=>?_);have hu:=hr.units;refine Ai ?s0 ?t0
 case s0=>exact (Av (i:=1) (by exact Nv.nd) (Bd (Te rfl) Vg Zc C.uY fM (Aa (Ck (N':=["point"]) (ix:=[ψ]) ⟨rfl,rfl,rfl,rfl,rfl,rfl⟩ rfl (B5 (Ag 0)) (fun _ _ _ _ _ _=>(Ar (i:=0) (show bY (α:=Str) ["point"] by lk))) Zaw) Ae)))
 exact (Ao (Ax (Bu Bl B9 Zc C.u7 Zd (Aa (Ak (O1 C LB) Zm Zc C.uo.g C.uo.F.kp C.uo.b (Aa (Ag 1) (Aa Ah (Aa ZdM Ae)))) Ae))))
theorem Ds(C:Defs K mg)(LB:LamB K mg base):FnOk P w K mg base CX0 4 C.ur.f C.ur.d ["points"] (spF K 1 B0):=by
 refine Fun.okF C.ur.F Qh (fun cdv A outer s H E hr=>?_);have hu:=hr.units;exact (Ao (Ax (Bd (E7 rfl) Hu Zc C.uZ eS (Aa (Ak (F6 C LB) Zm Zc C.ui.g C.ui.F.kp C.ui.b Zv) Ae))))
theorem Sk(C:Defs K mg)(LB:LamB K mg base):FnOk P w K mg base CX0 1 C.ut.f C.ut.d ["counts"] (spF K 1 Eo):=by
 refine Fun.okF C.ut.F Hg (fun cdv A outer s H E hr=>?_);have hu:=hr.units;exact (Ao (Ho fU rfl Zdv (Dy rfl (A8 (Ar (i:=1) (by exact Hg.nd)) (A8 (Ar (i:=2) (by exact Hg.nd)) Ct))) (Ao (C1 (PWF.pt (Wc (Bv Acw Ww (Ag 2) Ah (Bw _)) (Q5 (Bv N5 Jn (Ag 2) (Ag 1) (Bw _))))) (Ao Ad8) B7))))
theorem Ade(C:Defs K mg)(LB:LamB K mg base):FnOk P w K mg base CX0 2 C.uu.f C.uu.d ["counts"] (spF K 1 K3):=by
 refine Fun.okF C.uu.F Lq (fun cdv A outer s H E hr=>?_);have hu:=hr.units;refine Ai ?s0 ?t0
 case s0=>exact (I0 (Ak (Sk C LB) Zm Zc C.ut.g C.ut.F.kp C.ut.b Zv))
 refine Ai ?s1 ?t1
 case s1=>exact (Av (i:=1) (by exact Lq.nd) (Ah8 rfl Zc C.uT Zc C.uW (Aa Ah (Aa (Bf B2 B1 Zaz Ah) Ae))))
 refine Ai ?s2 ?t2
 case s2=>exact (Av (i:=2) (by exact Lq.nd) (Fh Ae))
 refine Ai ?s3 ?t3
 case s3=>exact (Ho fU rfl (Y5 Zc C.uW (Aa (Bf G8 Fp Zaz Ah) (Aa (H9 Ah) (Aa (H9 Ah) Ae)))) (Ar (i:=3) (by exact Lq.nd)) (Ao (I0 (Su eY gO gP Iv G9 (Ag 2) (Aa (Su eY qY qZ Xw Ac1 (Ag 1) (Aa (Bf G8 Fp (Ag 3) Zdo) Ae)) Ae)))))
 exact (Ao (Ax (Akz rfl Zc C.u7 Zc C.uX Z5)))
theorem Aax(C:Defs K mg)(LB:LamB K mg base):FnOk P w K mg base CX0 13 C.uv.f C.uv.d ["row"] (spF K 1 Pa):=by
 refine Fun.okF C.uv.F Ec (fun cdv A outer s H E hr=>?_);have hu:=hr.units;refine Ai ?s0 ?t0
 case s0=>exact (Av (i:=1) (by exact Ec.nd) Zaz)
 refine Ai ?s1 ?t1
 case s1=>exact (Av (i:=2) (by exact Ec.nd) (Ak (Kp C LB) Zm Zc C.uc.g C.uc.F.kp C.uc.b Zv))
 refine Ai ?s2 ?t2
 case s2=>exact (Av (i:=3) (by exact Ec.nd) (Ak (Nt C LB) Zm Zc C.uk.g C.uk.F.kp C.uk.b Zv))
 refine Ai ?s3 ?t3
 case s3=>exact (C1 (Bv (Jp hu) Jx (Bf B2 B1 (Ak (Kk C LB) Zm Zc C.ul.g C.ul.F.kp C.ul.b Zv) Zaq) (Bf Ij Ls (Bf G3 G0 (Ag 1) (Bf G8 Fp (Ag 1) Ah)) Ah) (Bw _)) Zcv B7)
 refine Ai ?s4 ?t4
 case s4=>exact (C1 (Bv (Jp hu) Jx (Bu Wy Afl Zc C.uT Zd (Aa (Ak (F6 C LB) Zm Zc C.ui.g C.ui.F.kp C.ui.b Z5) Ae)) (Ck (N':=["place","count"]) (ix:=[ψ,ψ]) ⟨rfl,rfl,rfl,rfl,rfl,rfl⟩ rfl (G6 Zc C.uQ Zbu) (fun _ _ _ _ _ _=>(Dy rfl (A8 (Ar (i:=0) (show bY (α:=Str) ["place","count"] by lk)) (A8 (Ar (i:=1) (show bY (α:=Str) ["place","count"] by lk)) Ct)))) (fun _ _ _ _ _ _=>(Bf G8 Fp (Ag 0) (Ag 1)))) (Bw _)) Zcv B7)
 refine Ai ?s5 ?t5
 case s5=>exact (C1 (Bv (Jp hu) Jx (Bd (E7 rfl) Hu Zc C.uZ eS (Aa (Ck (N':=["first","behind","across"]) (ix:=[ψ,ψ,ψ]) ⟨rfl,rfl,rfl,rfl,rfl,rfl⟩ rfl (B5 (Ak (Vq C LB) Zm Zc C.uq.g C.uq.F.kp C.uq.b Z5)) (fun _ _ _ _ _ _=>(Dy rfl (A8 (Ar (i:=0) (show bY (α:=Str) ["first","behind","across"] by lk)) (A8 (Ar (i:=1) (show bY (α:=Str) ["first","behind","across"] by lk)) (A8 (Ar (i:=2) (show bY (α:=Str) ["first","behind","across"] by lk)) Ct))))) (fun _ _ _ _ _ _=>(Ag 2))) Ae)) Zaq (Bw _)) Zcv B7)
 refine Ai ?s6 ?t6
 case s6=>exact (C1 (Bv (Jp hu) Jx (Bd (E7 rfl) Hu Zc C.uZ eS (Aa (Ak (Uc C LB) Zm Zc C.ug.g C.ug.F.kp C.ug.b Z5) Ae)) Zaq (Bw _)) Zcv B7)
 refine Ai ?s7 ?t7
 case s7=>exact (Av (i:=4) (by exact Ec.nd) (Bd (Te rfl) Vg Zc C.uY fM (Aa (Ck (N':=["place","number"]) (ix:=[ψ,ψ]) ⟨rfl,rfl,rfl,rfl,rfl,rfl⟩ rfl Zdv (fun _ _ _ _ _ _=>(Dy rfl (A8 (Ar (i:=0) (show bY (α:=Str) ["place","number"] by lk)) (A8 (Ar (i:=1) (show bY (α:=Str) ["place","number"] by lk)) Ct)))) (fun _ _ _ _ _ _=>(Cq Zcl))) Ae)))
 refine Ai ?s8 ?t8
 case s8=>exact (Av (i:=5) (by exact Ec.nd) (Bu Bl B9 Zc C.u7 Zd (Aa (Ck (N':=["number","place"]) (ix:=[ψ,ψ]) ⟨rfl,rfl,rfl,rfl,rfl,rfl⟩ rfl (B5 (Ag 4)) (fun _ _ _ _ _ _=>(Dy rfl (A8 (Ar (i:=0) (show bY (α:=Str) ["number","place"] by lk)) (A8 (Ar (i:=1) (show bY (α:=Str) ["number","place"] by lk)) Ct)))) (fun _ _ _ _ _ _=>(Ag 1))) Ae)))
 refine Ai ?s9 ?t9
 case s9=>exact (Av (i:=6) (by exact Ec.nd) (Bu Bl B9 Zc C.u7 Zd (Aa (Ck (N':=["name","x","y"]) (ix:=[ψ,ψ,ψ]) ⟨rfl,rfl,rfl,rfl,rfl,rfl⟩ rfl (B5 (Ag 2)) (fun _ _ _ _ _ _=>(Dy rfl (A8 (Ar (i:=0) (show bY (α:=Str) ["name","x","y"] by lk)) (A8 (Ar (i:=1) (show bY (α:=Str) ["name","x","y"] by lk)) (A8 (Ar (i:=2) (show bY (α:=Str) ["name","x","y"] by lk)) Ct))))) (fun _ _ _ _ _ _=>(Cq (Aa (Ag 0) (Aa (Ag 2) Zao))))) Ae)))
 refine Ai ?s10 ?t10
 case s10=>exact (C1 (PWF.pt (Wc (Bv (Jp hu) Jx (Ak (Ds C LB) Zm Zc C.ur.g C.ur.F.kp C.ur.b (Aa (Ag 6) Ae)) Zaq (Bw _)) (Q5 (Bv (Jp hu) Jx (Ak (Kk C LB) Zm Zc C.ul.g C.ul.F.kp C.ul.b (Aa (Ag 5) Ae)) (Ak (Kk C LB) Zm Zc C.ul.g C.ul.F.kp C.ul.b Zv) (Bw _))))) Zcv B7)
 refine Ai ?s11 ?t11
 case s11=>exact (Av (i:=7) (by exact Ec.nd) (Bu Bl B9 Zc C.u7 Zd (Aa (Ck (N':=["name","place","far","number"]) (ix:=[ψ,ψ,ψ,ψ]) ⟨rfl,rfl,rfl,rfl,rfl,rfl⟩ rfl (Xy Zc C.u8 (Aa (Ag 2) (Aa (Ak (Ade C LB) Zm Zc C.uu.g C.uu.F.kp C.uu.b Zbu) Ae))) (fun _ _ _ _ _ _=>(Dy rfl (A8 (Dy rfl (A8 (Ar (i:=0) (show bY (α:=Str) ["name","place","far","number"] by lk)) (A8 (Ar (i:=1) (show bY (α:=Str) ["name","place","far","number"] by lk)) (A8 (Ar (i:=2) (show bY (α:=Str) ["name","place","far","number"] by lk)) Ct)))) (A8 (Ar (i:=3) (show bY (α:=Str) ["name","place","far","number"] by lk)) Ct)))) (fun _ _ _ _ _ _=>(Cq (Aa (Bf B2 B1 Ahh (Ag 0)) (Aa (Ag 1) Zbu))))) Ae)))
 exact (Ao (Ax (M5 (Nd hu) Ng (Ak (F6 C LB) Zm Zc C.ui.g C.ui.F.kp C.ui.b (Aa (Ag 7) Ae)) (Ak (F6 C LB) Zm Zc C.ui.g C.ui.F.kp C.ui.b Z5) (Bw _))))
theorem Yh(C:Defs K mg)(LB:LamB K mg base):FnOk P w K mg base CX0 1 C.uw.f C.uw.d ["cell","k"] (spF K 2 Om):=by
 refine Fun.okF C.uw.F Od (fun cdv A outer s H E hr=>?_);have hu:=hr.units;refine Ai ?s0 ?t0
 case s0=>exact (Av (i:=2) (by exact Od.nd) (Bf B2 B1 (Bf Jk Gy (Ag 0) Ah) (Bf G3 G0 (Bf G3 G0 Ah (Ag 1)) (Ag 1))))
 refine Ai ?s1 ?t1
 case s1=>exact (Av (i:=2) (by exact Od.nd) (Bf Jk Gy (Bf B2 B1 (Ag 2) (Bf G3 G0 Ah (Ag 1))) Ah))
 refine Ai ?s2 ?t2
 case s2=>exact (Av (i:=2) (by exact Od.nd) (Bf Jk Gy (Bf G3 G0 (Ag 2) (Ag 2)) Ah))
 exact (Ao (Ax (Bf Ij Ls (Bf Jk Gy (Bf G3 G0 (Ag 2) (Bf B2 B1 (Ag 2) Ah)) Ah) Ah)))
theorem Dc(C:Defs K mg)(LB:LamB K mg base):FnOk P w K mg base CX0 2 C.ux.f C.ux.d ["deck","many"] (spF K 2 A9):=by
 refine Fun.okF C.ux.F Po (fun cdv A outer s H E hr=>?_);have hu:=hr.units;refine Ai ?s0 ?t0
 case s0=>exact (C1 (PWF.pt (Ab9 (Bv (Nd hu) Ng Zy Ah (Bw _)) (X6 (Bv Acw Ww Zy (Bd Ci C7 Zc C.uS dO (Aa Zy Ae)) (Bw _))))) (Ai (Av (i:=2) (by exact Po.nd) (Bi Az A0 Zy Zy Zj)) (Ai (Og (Bf B2 B1 Zy Ah) (Lr (Ag 0) Ah)) (Ai (C1 (Bv Acw Ww (Ag 2) Zc8 (Bw _)) (Ao (Ax (Bf Jk Gy (Ak (Yh C LB) Zm Zc C.uw.g C.uw.F.kp C.uw.b (Aa (Ag 2) (Aa Zy Ae))) (Ag 1)))) B7) (Ao (Og (Ag 2) (Lr (Ag 0) Ah)))))) B7)
 refine Ai ?s1 ?t1
 case s1=>exact (C1 (Bv N5 Jn Zy Ah (Bw _)) (Ai (Av (i:=3) (by exact Po.nd) (Bf Jk Gy Zy (Ag 1))) (Ai (Og (Bf Ij Ls Zy (Ag 1)) (Lr (Ag 0) Ah)) (Ao (Ax (Ag 3))))) B7)
 refine Ai ?s2 ?t2
 case s2=>exact (Og (Bf B2 B1 Zy Ah) (Lr (Ag 0) Ah))
 exact (Ao (Ax (Bf Jk Gy (Ak (Yh C LB) Zm Zc C.uw.g C.uw.F.kp C.uw.b (Aa Zy (Aa (Bf B2 B1 Zy Ah) Ae))) (Ag 1))))
theorem Af3(C:Defs K mg)(LB:LamB K mg base):FnOk P w K mg base CX0 3 C.uy.f C.uy.d ["deck","most"] (spF K 2 Qx):=by
 refine Fun.okF C.uy.F Dd (fun cdv A outer s H E hr=>?_);have hu:=hr.units;refine Ai ?s0 ?t0
 case s0=>exact (Av (i:=2) (by exact Dd.nd) (Bi Az A0 (Fh (Aa (Ak (Dc C LB) Zm Zc C.ux.g C.ux.F.kp C.ux.b (Aa (Ag 0) (Aa (Bf B2 B1 (Ag 1) Ah) Ae))) (Aa ZD Zao))) ZD Zj))
 refine Ai ?s1 ?t1
 case s1=>exact (Av (i:=3) (by exact Dd.nd) ZD)
 refine Ai ?s2 ?t2
 case s2=>exact (Av (i:=4) (by exact Dd.nd) ZD)
 refine Ai ?s3 ?t3
 case s3=>exact (Av (i:=5) (by exact Dd.nd) (Bi Az A0 (Fh (Aa Ah (Aa Ah (Aa Zc8 (Aa (Bf Ij Ls Ah (Bd (Adc rfl) Al2 Zc C.uU PyProof.Rows.boot_max (Aa Ah Z5))) Ae))))) (Ag 4) Zj))
 refine Ai ?s4 ?t4
 case s4=>exact (Av (i:=6) (by exact Dd.nd) (Bi Az A0 (Fh (Aa Ah (Aa (Bf G8 Fp Ah ZD) (Aa (Bf G8 Fp Ah Ah) (Aa (Bf G8 Fp Ah (Bf G3 G0 Ah (Ag 2))) Ae))))) ZD Zj))
 refine Ai ?s5 ?t5
 case s5=>exact (C1 (Bv N5 Jn (Ag 4) Ah (Bw _)) (Ao (Av (i:=6) (by exact Dd.nd) (Bf G8 Fp Ah Ah))) B7)
 refine Ai ?s6 ?t6
 case s6=>exact (Av (i:=7) (by exact Dd.nd) (Fh Ae))
 refine Ai ?s7 ?t7
 case s7=>exact (Ho fU rfl (M6 Zc C.uW Z5) (Ar (i:=8) (by exact Dd.nd)) (Ai (I0 (Su eY gO gP Iv G9 (Ag 7) (Aa (Ag 6) Ae))) (Ao (Av (i:=6) (by exact Dd.nd) (Bf B2 B1 (Bf B2 B1 (Ag 6) Ah) (Bf Jk Gy (Bf B2 B1 (Bf G3 G0 (Ak (Dc C LB) Zm Zc C.ux.g C.ux.F.kp C.ux.b (Aa (Ag 0) (Aa Zc8 Ae))) Zc8) (Ak (Dc C LB) Zm Zc C.ux.g C.ux.F.kp C.ux.b (Aa (Ag 0) (Aa Zc8 Ae)))) (Ag 5)))))))
 refine Ai ?s8 ?t8
 case s8=>exact (C1 (Bv (Nd hu) Ng (Ag 3) Ah (Bw _)) (Ao (Av (i:=7) (by exact Dd.nd) (Ah5 (Ag 7)))) B7)
 refine Ai ?s9 ?t9
 case s9=>exact (C1 (Bv N5 Jn (Ag 3) Ah (Bw _)) (Ao (Av (i:=7) (by exact Dd.nd) (Ck (N':=["k","left","deck"]) (ix:=[ψ,ξ 7,ξ 0]) ⟨rfl,rfl,rfl,rfl,rfl,rfl⟩ rfl (M6 Zc C.uW Z5) (fun _ _ _ _ _ _=>(Ar (i:=0) (show bY (α:=Str) ["k","left","deck"] by lk))) (fun _ _ _ _ _ _=>(Su eY qY qZ Xw Ac1 (Ag 1) (Aa (Ak (Dc C LB) Zm Zc C.ux.g C.ux.F.kp C.ux.b (Aa (Ag 2) (Aa ZdM Ae))) Ae)))))) B7)
 refine Ai ?s10 ?t10
 case s10=>exact (C1 (PWF.pt (Ab9 (Bv (Nd hu) Ng (Ag 3) Ah (Bw _)) (X6 (Bv N5 Jn (Ag 2) Ah (Bw _))))) (Ai (Av (i:=9) (by exact Dd.nd) (Ak (Dc C LB) Zm Zc C.ux.g C.ux.F.kp C.ux.b (Aa (Ag 0) (Aa (Bf G8 Fp (Ag 2) Ah) Ae)))) (Ao (Og (Cq (Aa (Bi Az A0 (Ag 7) (Bf B2 B1 (Ag 9) Ah) Zj) (Aa (Bi Az A0 (Ag 7) (Ag 9) Zj) Ae))) (Dy rfl (A8 (Lr (Ag 7) (Ag 9)) (A8 (Lr (Ag 7) (Bf B2 B1 (Ag 9) Ah)) Ct)))))) B7)
 exact (Ao (Ax (Bu Bl B9 Zc C.u7 Zd (Aa (Ag 7) Ae))))
theorem Mf(C:Defs K mg)(LB:LamB K mg base):FnOk P w K mg base CX0 2 C.uz.f C.uz.d ["chains","point"] (spF K 2 Dl):=by
 refine Fun.okF C.uz.F Ej (fun cdv A outer s H E hr=>?_);have hu:=hr.units;refine Ai ?s0 ?t0
 case s0=>exact (Ho fU rfl (Agb Zc C.uQ Zv) (Dy rfl (A8 (Ar (i:=2) (by exact Ej.nd)) (A8 (Ar (i:=3) (by exact Ej.nd)) Ct))) (Ao (C1 (F4 (Ak (F5 C LB) Zm Zc C.ud.g C.ud.F.kp C.ud.b (Aa (Ak (Cy C LB) Zm Zc C.uf.g C.uf.F.kp C.uf.b (Aa (Bi Az A0 (Bi Az A0 (Ag 3) (H9 Ah) Zj) Ah Zj) Ae)) (Aa Zbk Ae)))) (Ao (Ax (Ag 2))) B7)))
 exact (Ao (Ax Zaz))
theorem S6(C:Defs K mg)(LB:LamB K mg base):FnOk P w K mg base CX0 4 C.uA.f C.uA.d ["points"] (spF K 1 Ic):=by
 refine Fun.okF C.uA.F D9 (fun cdv A outer s H E hr=>?_);have hu:=hr.units;refine Ai ?s0 ?t0
 case s0=>exact (Av (i:=1) (by exact D9.nd) (Fh Ae))
 refine Ai ?s1 ?t1
 case s1=>exact (Ho fU rfl (B5 (Aeg (Cy C LB) Zm C.uf.b Zc C.uY Zc C.uf.g (Ag 0))) (Ar (i:=2) (by exact D9.nd)) (Ai (Av (i:=3) (by exact D9.nd) (Ak (Mf C LB) Zm Zc C.uz.g C.uz.F.kp C.uz.b (Aa (Ag 1) Z5))) (Ai (Av (i:=4) (by exact D9.nd) (Asb (Bv N5 Jn (Ag 3) Ah (Bw _)) (Bi Az A0 (Bi Az A0 (Bi Az A0 (Ag 1) (Bf G8 Fp (Ag 3) Ah) Zj) (H9 Ah) Zj) Ah Zj) (Cq Ae))) (Ai (C1 (Bv (Nd hu) Ng (Ag 3) ZdM (Bw _)) (Ao (I0 (Su eY gO gP Iv G9 (Ag 1) (Aa (Fh Ae) Ae)))) B7) (Ao (I0 (Su eY gO gP Iv G9 (Bi Az A0 (Ag 1) (Ag 3) Zj) (Aa (Cq (Aa (Ag 2) (Aa (Bf Ak7 Ah3 (Ag 4) (Cq (Aa ZcA Ae))) Ae))) Ae))))))))
 exact (Ao (Ax (Ag 1)))
theorem Pz(C:Defs K mg)(LB:LamB K mg base):FnOk P w K mg base CX0 5 C.uB.f C.uB.d ["points"] (spF K 1 E6):=by
 refine Fun.okF C.uB.F Lm (fun cdv A outer s H E hr=>?_);have hu:=hr.units;refine Ai ?s0 ?t0
 case s0=>exact (Av (i:=1) (by exact Lm.nd) (Ak (S6 C LB) Zm Zc C.uA.g C.uA.F.kp C.uA.b Zv))
 refine Ai ?s1 ?t1
 case s1=>exact (C1 (Oy (F4 (Ag 1))) (Ao (Ax (Cq Ae))) B7)
 refine Ai ?s2 ?t2
 case s2=>exact (Av (i:=2) (by exact Lm.nd) (Bi Az A0 (Bi Az A0 (Bi Az A0 (Ag 1) (H9 Ah) Zj) (H9 Ah) Zj) Ah Zj))
 exact (Ao (Ax (Bu Bl B9 Zc C.u7 Zd (Aa (Kg (N':=["point","crowd"]) (ix:=[ψ,ξ 2]) ⟨rfl,rfl,rfl,rfl,rfl,rfl⟩ rfl (B5 (Ag 0)) (fun _ _ _ _ _ _=>(Ar (i:=0) (show bY (α:=Str) ["point","crowd"] by lk))) (fun _ _ _ _ _ _=>(Bv Aps (Aoa false) Zy (Ag 1) (by with_unfolding_all rfl))) (fun _ _ _ _ _ _=>(Bi Az A0 (Ag 0) Ah Zj))) Ae))))
theorem Aeo(C:Defs K mg)(LB:LamB K mg base):FnOk P w K mg base CX0 1 C.uC.f C.uC.d ["numbers","turns"] (spF K 2 Nw):=by
 refine Fun.okF C.uC.F Ado (fun cdv A outer s H E hr=>?_);have hu:=hr.units;exact (Ao (Ax (Bd (E7 rfl) Hu Zc C.uZ eS (Aa (Ck (N':=["turn","numbers"]) (ix:=[ψ,ξ 0]) ⟨rfl,rfl,rfl,rfl,rfl,rfl⟩ rfl (B5 (Ag 1)) (fun _ _ _ _ _ _=>(Ar (i:=0) (show bY (α:=Str) ["turn","numbers"] by lk))) (fun _ _ _ _ _ _=>(Bi Az A0 (Ag 1) (Ag 0) Zj))) Ae))))
theorem Kf(C:Defs K mg)(LB:LamB K mg base):FnOk P w K mg base CX0 2 C.uD.f C.uD.d ["points","point"] (spF K 2 Dv):=by
 refine Fun.okF C.uD.F Ke (fun cdv A outer s H E hr=>?_);have hu:=hr.units;refine Ai ?s0 ?t0
 case s0=>exact (Av (i:=2) (by exact Ke.nd) Zbk)
 exact (Ao (Ax (Kg (N':=["turn","other","place"]) (ix:=[ψ,ψ,ξ 2]) ⟨rfl,rfl,rfl,rfl,rfl,rfl⟩ rfl Zdv (fun _ _ _ _ _ _=>(Dy rfl (A8 (Ar (i:=0) (show bY (α:=Str) ["turn","other","place"] by lk)) (A8 (Ar (i:=1) (show bY (α:=Str) ["turn","other","place"] by lk)) Ct)))) (fun _ _ _ _ _ _=>(F4 (Ak (F5 C LB) Zm Zc C.ud.g C.ud.F.kp C.ud.b (Aa (Ag 2) (Aa Zbk Ae))))) Zch)))
theorem Oq(C:Defs K mg)(LB:LamB K mg base):FnOk P w K mg base CX0 3 C.uE.f C.uE.d ["points"] (spF K 1 Dg):=by
 refine Fun.okF C.uE.F Cr (fun cdv A outer s H E hr=>?_);have hu:=hr.units;refine Ai ?s0 ?t0
 case s0=>exact (Y1 (i:=1) (N':=["point","points"]) (ix:=[ψ,ξ 0]) (by exact Cr.nd) ⟨rfl,rfl,rfl,rfl,rfl,rfl⟩ rfl (B5 (Ag 0)) (fun _ _ _ _ _ _=>(Ar (i:=0) (show bY (α:=Str) ["point","points"] by lk))) (fun _ _ _ _ _ _=>(Ak (Kf C LB) Zm Zc C.uD.g C.uD.F.kp C.uD.b Zcl)))
 refine Ai ?s1 ?t1
 case s1=>exact (Av (i:=2) (by exact Cr.nd) (Bf G3 G0 (Fh (Aa Ah Ae)) Zaz))
 refine Ai ?s2 ?t2
 case s2=>exact (Av (i:=3) (by exact Cr.nd) (Fh Ae))
 refine Ai ?s3 ?t3
 case s3=>exact (Ae2 100000 fU (F4 (Bd (Adu rfl) Akm Zc C.uP PyProof.Rows.boot_any Z5)) (Ai (I0 (Su eY gO gP Iv G9 (Ag 3) (Aa (Bd (E7 rfl) Hu Zc C.uZ eS Z5) Ae))) (Ao (Av (i:=2) (by exact Cr.nd) (Ck (N':=["turns","begun"]) (ix:=[ψ,ξ 2]) ⟨rfl,rfl,rfl,rfl,rfl,rfl⟩ rfl (B5 (Ag 1)) (fun _ _ _ _ _ _=>(Ar (i:=0) (show bY (α:=Str) ["turns","begun"] by lk))) (fun _ _ _ _ _ _=>(Ak (Aeo C LB) Zm Zc C.uC.g C.uC.F.kp C.uC.b Zcl)))))))
 exact (Ao (Ax (Bu Bl B9 Zc C.u7 Zd Zbu)))
theorem Hn(C:Defs K mg)(LB:LamB K mg base):FnOk P w K mg base CX0 3 C.uF.f C.uF.d ["chains"] (spF K 1 C8):=by
 refine Fun.okFL (N:=["chains"]) C.uF.F N3 (fun cdv A outer s H E hcd hr=>?_);have hu:=hr.units;exact (Ao (Ax (Ad2 (nm := "first_heaviest") (N':=["chain"]) (ix:=[ψ]) (pn := "chain") (fb:=B3) (k:=0) ⟨LB,Zb,(by obtain ⟨c,P,h1,h2⟩:=C.uM;exact ⟨c,P,h1,hcd.symm.trans (h2 _ _ _ C.uF.F C.uF.g)⟩),rfl⟩ ⟨⟨rfl,rfl,rfl,rfl,rfl,rfl⟩,rfl,rfl,rfl,rfl,fun _ _ _ _ _ _=>rfl⟩ rfl (fun _ _ _ _ _ hr=>by have hu:=hr.units;exact (Cq (Aa (H9 Zy) (Aa Zy Ae)))) Zm rfl Zc C.uV (Ag 0))))
theorem Hm(C:Defs K mg)(LB:LamB K mg base):FnOk P w K mg base CX0 5 C.uG.f C.uG.d ["points"] (spF K 1 Bt):=by
 refine Fun.okFL (N:=["points"]) C.uG.F Hl (fun cdv A outer s H E hcd hr=>?_);have hu:=hr.units;exact (Ao (Ax (Aa7 (nm := "turns_from_the_highest") (N':=["turn","points"]) (ix:=[ψ,ξ 0]) (pn := "turn") (fb:=A7) (k:=1) ⟨LB,Zb,(by obtain ⟨c,P,h1,h2⟩:=C.uN;exact ⟨c,P,h1,hcd.symm.trans (h2 _ _ _ C.uG.F C.uG.g)⟩),rfl⟩ ⟨⟨rfl,rfl,rfl,rfl,rfl,rfl⟩,rfl,rfl,rfl,rfl,fun _ _ _ _ _ _=>rfl⟩ rfl (fun _ _ _ _ _ hr=>by have hu:=hr.units;exact (Ak (Cy C LB) Zm Zc C.uf.g C.uf.F.kp C.uf.b (Aa (Bi Az A0 (Ag 1) (Ag 0) Zj) Ae))) Zm rfl Zc C.uY Zc C.uW (Aa Zaz Ae))))
theorem N2(C:Defs K mg)(LB:LamB K mg base):FnOk P w K mg base CX0 6 C.uH.f C.uH.d ["points","weights"] (spF K 2 Ef):=by
 refine Fun.okF C.uH.F Cu (fun cdv A outer s H E hr=>?_);have hu:=hr.units;refine Ai ?s0 ?t0
 case s0=>exact (Av (i:=2) (by exact Cu.nd) Acu)
 refine Ai ?s1 ?t1
 case s1=>exact (Ho fU rfl (B5 (Ak (Hm C LB) Zm Zc C.uG.g C.uG.F.kp C.uG.b Zv)) (Ar (i:=3) (by exact Cu.nd)) (Ai (Y1 (i:=4) (N':=["other","begun"]) (ix:=[ψ,ξ 2]) (by exact Cu.nd) ⟨rfl,rfl,rfl,rfl,rfl,rfl⟩ rfl (B5 (Ak (Kf C LB) Zm Zc C.uD.g C.uD.F.kp C.uD.b (Aa (Ag 0) (Aa Zdo Ae)))) (fun _ _ _ _ _ _=>(Ar (i:=0) (show bY (α:=Str) ["other","begun"] by lk))) (fun _ _ _ _ _ _=>(Acn hu (Ag 1) (Ag 0) Zj))) (Ai (Av (i:=5) (by exact Cu.nd) (Ak (Hn C LB) Zm Zc C.uF.g C.uF.F.kp C.uF.b (Aa (Bf B2 B1 (Fh (Aa (Cq Zd4) Ae)) (Ag 4)) Ae))) (Ao (Yk hu (Ag 2) (Ag 3) (Cq (Aa (Bf B2 B1 (Acn hu (Ag 1) (Bi Az A0 Zdo Ah Zj) Zj) (Bi Az A0 (Ag 5) Ah Zj)) (Aa (Bf B2 B1 (Cq Zbu) (Bi Az A0 (Ag 5) Ah Zj)) Ae))))))))
 exact (Ao (Ax (Afp rfl Zc C.uT (Ag 2) ⟨rfl,rfl,rfl,rfl⟩)))
theorem Oa(C:Defs K mg)(LB:LamB K mg base):FnOk P w K mg base CX0 7 C.uI.f C.uI.d ["points","weights"] (spF K 2 Eg):=by
 refine Fun.okF C.uI.F Hr (fun cdv A outer s H E hr=>?_);have hu:=hr.units;refine Ai ?s0 ?t0
 case s0=>exact (C1 (Oy (F4 (Ag 0))) (Ao (Ax (Cq Zd4))) B7)
 refine Ai ?s1 ?t1
 case s1=>exact (Av (i:=2) (by exact Hr.nd) (Ak (Hn C LB) Zm Zc C.uF.g C.uF.F.kp C.uF.b (Aa (Ak (N2 C LB) Zm Zc C.uH.g C.uH.F.kp C.uH.b Zdw) Ae)))
 exact (Ao (Ax (Cq (Aa ZcA (Aa (Bu Bl B9 Zc C.u7 Zd (Aa (Ck (N':=["turn","points"]) (ix:=[ψ,ξ 0]) ⟨rfl,rfl,rfl,rfl,rfl,rfl⟩ rfl (B5 ZcA) (fun _ _ _ _ _ _=>(Ar (i:=0) (show bY (α:=Str) ["turn","points"] by lk))) (fun _ _ _ _ _ _=>(Bi Az A0 (Bi Az A0 (Ag 1) (Ag 0) Zj) Ah Zj))) Ae)) Ae)))))
theorem Hs(C:Defs K mg)(LB:LamB K mg base):FnOk P w K mg base CX0 8 C.uJ.f C.uJ.d ["points"] (spF K 1 Bm):=by
 refine Fun.okF C.uJ.F D4 (fun cdv A outer s H E hr=>?_);have hu:=hr.units;refine Ai ?s0 ?t0
 case s0=>exact (C1 (Oy (F4 (Ag 0))) (Ao (Ax (Cq (Aa Ah Zd4)))) B7)
 refine Ai ?s1 ?t1
 case s1=>exact (Av (i:=1) (by exact D4.nd) Acu)
 refine Ai ?s2 ?t2
 case s2=>exact (Ho fU rfl (B5 (Ag 0)) (Ar (i:=2) (by exact D4.nd)) (Ao (Yk hu (Ag 1) ZcA Ah)))
 refine Ai ?s3 ?t3
 case s3=>exact (Av (i:=3) (by exact D4.nd) (Ak (Oa C LB) Zm Zc C.uI.g C.uI.F.kp C.uI.b Zdw))
 exact (Ao (Ax (Cq (Aa (Bi Az A0 (Ag 3) Ah Zj) (Aa (Bi Az A0 (Ak (Oq C LB) Zm Zc C.uE.g C.uE.F.kp C.uE.b Zv) (H9 Ah) Zj) (Aa (Bi Az A0 (Ag 3) Ah Zj) Ae))))))
theorem Mg(C:Defs K mg)(LB:LamB K mg base):FnOk P w K mg base CX0 9 C.uK.f C.uK.d ["row"] (spF K 1 E3):=by
 refine Fun.okF C.uK.F C3 (fun cdv A outer s H E hr=>?_);have hu:=hr.units;refine Ai ?s0 ?t0
 case s0=>exact (Av (i:=1) (by exact C3.nd) Zaz)
 refine Ai ?s1 ?t1
 case s1=>exact (Av (i:=2) (by exact C3.nd) (Ak (Kp C LB) Zm Zc C.uc.g C.uc.F.kp C.uc.b (Aa (Bu Bl B9 Zc C.u7 Zd (Aa (Bd (Rk rfl) U5 Zc C.uY fM Zv) Ae)) Ae)))
 refine Ai ?s2 ?t2
 case s2=>exact (Av (i:=3) (by exact C3.nd) (Ak (Kp C LB) Zm Zc C.uc.g C.uc.F.kp C.uc.b (Aa (Bu Bl B9 Zc C.u7 Zd (Aa (Ah5 (Bd (Rk rfl) U5 Zc C.uY fM Zv)) Ae)) Ae)))
 refine Ai ?s3 ?t3
 case s3=>exact (C1 (PWF.pt (Wc (Bv (Jp hu) Jx (Bi Az A0 (Ak (Hs C LB) Zm Zc C.uJ.g C.uJ.F.kp C.uJ.b Z5) Ah Zj) (Ag 1) (Bw _)) (Q5 (Bv (Jp hu) Jx (Bd Ci C7 Zc C.uS dO (Aa (Ak (Pz C LB) Zm Zc C.uB.g C.uB.F.kp C.uB.b Zbu) Ae)) (Ag 1) (Bw _))))) Zcv B7)
 exact (Ao (Ax (Ag6 (M5 (Nd hu) Ng (Bd Ci C7 Zc C.uS dO (Aa (Ak (Pz C LB) Zm Zc C.uB.g C.uB.F.kp C.uB.b Z5) Ae)) (Bu Vc Acs Zc C.uR Zd (Aa (M5 N5 Jn (Ag 1) Ah (Bw _)) Ae)) (Bw _)) (Afx (M5 (Nd hu) Ng (Bi Az A0 (Ak (Hs C LB) Zm Zc C.uJ.g C.uJ.F.kp C.uJ.b Zbu) Ah Zj) (Bu Vc Acs Zc C.uR Zd (Aa (M5 N5 Jn (Ag 1) Ah (Bw _)) Ae)) (Bw _))))))
theorem An5(C:Defs K mg)(LB:LamB K mg base):FnOk P w K mg base CX0 14 C.uL.f C.uL.d ["script"] (spF K 1 Yv):=by
 refine Fun.okF C.uL.F Wd (fun cdv A outer s H E hr=>?_);have hu:=hr.units;refine Ai ?s0 ?t0
 case s0=>exact (Av (i:=1) (by exact Wd.nd) (Ak (Aes C LB) Zm Zc C.ua.g C.ua.F.kp C.ua.b Zv))
 refine Ai ?s1 ?t1
 case s1=>exact (Ho fU rfl (M6 Zc C.uW (Aa Ah Ae)) (Ar (i:=2) (by exact Wd.nd)) (Ai (Av (i:=3) (by exact Wd.nd) (Ak (Af3 C LB) Zm Zc C.uy.g C.uy.F.kp C.uy.b (Aa (Ag 1) (Aa (Bi Az A0 (Fh (Aa Ah (Aa Ah (Aa Ah (Aa Ah Ae))))) (Ag 2) Zj) Ae)))) (Ao (C1 (PWF.pt (Wc (Oy (F4 (Ak (Aax C LB) Zm Zc C.uv.g C.uv.F.kp C.uv.b Zbu))) (Q5 (Oy (F4 (Ak (Mg C LB) Zm Zc C.uK.g C.uK.F.kp C.uK.b Zbu)))))) Zcv B7))))
 exact Zcv
end
theorem Aop{l:nB}{w:dH}{K:aL}{mg:Str->Option aH}{fa:Addr}(C:Defs K mg)(hfa:mg "law" = ξ (.ref fa)) :
  ∃ fd:eT,(∀ (s:aR) (v:aH),oB s fd ⟨[v],[]⟩ [("script",v)])/\∀ base:Heap,K.In base->base.Ns dD mg->LamB K mg base->FnOk l.prog w K mg base CX0 14 fa fd ["script"] (spF K 1 Yv):=
 C.uL.law (Q:=fun fa fd=>∀ base:Heap,K.In base->base.Ns dD mg->LamB K mg base->FnOk l.prog w K mg base CX0 14 fa fd ["script"] (spF K 1 Yv)) hfa (fun _ _ _ _ _ _ s v=>.of_eq rfl) fun base _ _ LB=>An5 C LB
noncomputable def Aby(s:xZ)(j:Nat):xZ:=match s with
 | .ClassDef _ _ _ body _ _ _ _ _ _ _=>body.getD j (.Pass ⟨0,0,0,0⟩)
 | _=>.Pass ⟨0,0,0,0⟩
noncomputable section
variable (P:rE)
abbrev fn(a b:Str)(s:Stmt)(dV kV d p:aH)(n:Option Addr)(c t:aH):eT:=iA a b (G1 s) (Ew s) (Aq s) dV kV d p n c t
abbrev zf(a b:Str)(s:Stmt)(p c:aH):Obj:=⟨.type "function",ψ,.func (fn a b s .none .none .none p ψ c .none),#[]⟩
abbrev zx(a b:Str)(s:Stmt):Obj:=⟨.none,ψ,.func ⟨a,b,G1 s,.stmts (Ew s),Aq s,0,[],.none,.none,.none,.none,ψ,.none,.none,0⟩,#[]⟩
noncomputable abbrev zi(n:Int):aH:=.int n 0
noncomputable abbrev zr(a:Addr):aH:=.ref a
noncomputable abbrev zs(a:Str)(n:Nat):aH:=.str a n
noncomputable abbrev zc(l:List aH):Obj:=⟨.type "code",ψ,.fields l.toArray,#[]⟩
noncomputable abbrev zt(l:List aH):Obj:=⟨.type "tuple",ψ,.seq l.toArray 0,#[]⟩
noncomputable abbrev zl(l:List aH):Obj:=⟨.none,ψ,.fields l.toArray,#[]⟩
noncomputable abbrev zd(l:List tV)(n:Nat):Obj:=⟨.type "dict",ψ,.dict l.toArray n,#[]⟩
noncomputable abbrev zn(o:Obj)(l r:iW):iW:=.node o l r
noncomputable abbrev zg(o:Obj):iW:=.node o .nil .nil
noncomputable abbrev de(s:Str)(n:Nat)(v:aH):tV:=⟨wH.keyHash P s,.str s n,v⟩
abbrev zA(a b:Str)(n:Nat)(l c:Int)(r:Nat)(m e:Int):Obj:=zc [zs a n,zs b (n+1),zs "/claim/cut.py" (n+2),zi l,zi c,zi 0,zi 0,zi 3,zr r,.bool true,zi m,zr (r+1),.none,zr (r+2),zr (r+3),zr (r+4),zi e,zi l,zs "/claim/cut.py" (e.toNat+1)]
abbrev zB(a b:Str)(n:Nat)(l c:Int)(r:Nat)(m e:Int):Obj:=zc [zs a n,zs b (n+1),zs "/claim/cut.py" (n+2),zi l,zi c,zi 0,zi 0,zi 3,zr r,.bool true,zi m,zr (r+1),.none,.none,.none,zr (r+2),zi e,zi l,zs "/claim/cut.py" (e.toNat+1)]
noncomputable def sp2(l:List Obj):List Obj×List Obj:=l.foldr (fun a p=>(a::p.2,p.1)) ([],[])
def mkT:Nat->List Obj->iW
 | 0,_=>.nil
 | _+1,[]=>.nil
 | k+1,o::l=>.node o (mkT k (sp2 l).1) (mkT k (sp2 l).2)
abbrev Pw:aH:=zs "belowpoints.errors" 187
abbrev U6:aH:=zs "belowpoints.rows" 232
abbrev Uq:aH:=zs "belowpoints.counts.pairs" 287
abbrev N7:aH:=zs "belowpoints.chains.stairs" 349
def zo1:Obj:=zd [de P "builtins" 162 (zr 4),de P "__main__" 163 (zr 5)] 2
noncomputable def zo2:Obj:=⟨.none,ψ,(.dict #[] 0),#[]⟩
noncomputable def zo4:Obj:=⟨(.type "module"),(ξ 0),.plain,#[]⟩
noncomputable def zo5:Obj:=⟨(.type "module"),(ξ 3),.plain,#[]⟩
def zo6:Obj:=zd [] 0
def zo7:Obj:=zt []
def zo8:Obj:=zl []
def zo9:Obj:=zc [(zs "<module>" 176),(zs "<module>" 177),(zs "/claim/cut.py" 178),(zi 1),(zi 0),(zi 0),(zi 0),(zi 0),(zr 7),(.bool false),(zi 175),(zr 8),.none,.none,.none,.none,(zi 179),(zi 1),(zs "/claim/cut.py" 180)]
def zo10:Obj:=⟨(.type "frame"),ψ,.plain,#[(ξ (zr 9)),(ξ (zr 3)),(ξ (zr 3)),ψ,(ξ (zs "__main__" 164)),ψ,(ξ (zr 0))]⟩
def Atz:Obj:=zc [(zs "<module>" 182),(zs "<module>" 183),(zs "/claim/cut.py" 184),(zi 1),(zi 0),(zi 0),(zi 0),(zi 0),(zr 11),(.bool false),(zi 181),(zr 12),.none,.none,.none,.none,(zi 185),(zi 1),(zs "/claim/cut.py" 186)]
def At5:Obj:=⟨(.type "frame"),ψ,.plain,#[(ξ (zr 13)),(ξ (zr 3)),(ξ (zr 3)),ψ,(ξ (zs "__main__" 164)),ψ,(ξ (zr 0))]⟩
def gz:List tV:=[de P "__doc__" 166 .none,de P "__package__" 167 .none,de P "__loader__" 168 (.builtin "__main__.__loader__#opaque"),de P "__spec__" 169 .none,de P "__annotations__" 170 (zr 6),de P "__builtins__" 171 (zr 4),de P "__file__" 173 (zs "/claim/cut.py" 172),de P "__cached__" 174 .none,de P "BelowError" 206 (zr 24),de P "NoCounts" 231 (zr 44),de P "counts_of" 239 (zr 51),de P "count_of" 246 (zr 58),de P "row_of" 256 (zr 65),de P "many_greater" 262 (zr 70),de P "need_counts" 271 (zr 77),de P "lies_below" 279 (zr 82),de P "place_of" 286 (zr 89),de P "below_each" 294 (zr 94),de P "above_each" 300 (zr 99),de P "pairs_in_all" 307 (zr 106),de P "many_below" 313 (zr 111),de P "many_above" 319 (zr 116),de P "crowd_of" 327 (zr 121),de P "chains_laid" 338 (zr 128),de P "first_that_takes" 348 (zr 135),de P "longest_chains" 360 (zr 142),de P "heaviest_chain" 366 (zr 147),de P "chains_of_each" 372 (zr 152),de P "heaviest_begun" 378 (zr 157),de P "first_heaviest" 385 (zr 164),de P "turns_from_the_highest" 393 (zr 171),de P "turns_above" 399 (zr 176),de P "sum_at" 405 (zr 181),de P "halves_of" 413 (zr 186),de P "halves_between" 425 (zr 193),de P "crossings_of" 431 (zr 198),de P "_law_mix" 442 (zr 205),de P "_law_deck" 449 (zr 212),de P "_law_next" 459 (zr 219),de P "_law_row" 465 (zr 224),de P "_law_points" 471 (zr 229),de P "_law_right" 477 (zr 234),de P "_law_straight_right" 487 (zr 241),de P "law" 497 (zr 248)]
def Aty:Obj:=zd (de P "__name__" 165 Pw::((gz P).take 9)) 10
def Auh:Obj:=zl [(zi 2),(zi 0),(zr 20)]
def Atw:Obj:=zt [(.type "ValueError")]
noncomputable def zo16:Obj:=⟨(.type "builtin_function_or_method"),ψ,(.fields #[(.builtin "type.__prepare__"),(.type "type")]),#[]⟩
def Arv:Obj:=zd [de P "__module__" 196 Pw,de P "__qualname__" 198 (zs "BelowError" 197),de P "__firstlineno__" 200 (.int 2 199),de P "__static_attributes__" 201 (zr 22)] 4
def zo18:Obj:=zc [(zs "BelowError" 191),(zs "BelowError" 192),(zs "/claim/cut.py" 193),(zi 2),(zi 0),(zi 0),(zi 0),(zi 0),(zr 18),(.bool false),(zi 181),(zr 19),.none,.none,.none,.none,(zi 194),(zi 2),(zs "/claim/cut.py" 195)]
def Aui:Obj:=⟨(.type "frame"),ψ,.plain,#[(ξ (zr 20)),(ξ (zr 3)),(ξ (zr 17)),ψ,(ξ Pw),ψ,(ξ (zr 0))]⟩
def Aqk:Obj:=zd [de P "__module__" 196 Pw,de P "__firstlineno__" 200 (.int 2 199),de P "__static_attributes__" 201 (zr 22),de P "__weakref__" 203 (zr 25),de P "__doc__" 204 .none] 3
def zo21:Obj:=⟨(.type "type"),ψ,(.cls ⟨"BelowError",[(.type "ValueError")],[(zr 24),(.type "ValueError"),(.type "Exception"),(.type "BaseException"),(.type "object")],23,"BelowError",true,[],[],false,ψ,false⟩),#[(ξ (zr 15)),ψ,(ξ (zs "BelowError" 189)),(ξ (zs "BelowError" 197)),(ξ (.builtin "ValueError.__new__")),(ξ ZbJ)]⟩
def Au6:Obj:=⟨(.type "getset_descriptor"),ψ,(.fields #[(zs "__weakref__" 202),(zr 24),(.builtin "ExceptionGroup.__weakref__"),.none]),#[]⟩
def zo23:Obj:=⟨(.type "super"),ψ,(.fields #[(zr 24),(zr 24),(zr 24)]),#[]⟩
def Atv:Obj:=⟨(.type "builtin_function_or_method"),ψ,(.fields #[(.builtin "object.__init_subclass__"),(zr 24)]),#[]⟩
def Aut:Obj:=zd (de P "__name__" 165 U6::((gz P).take 11)) 12
def cz:List aH:=[(zi 2),(zi 0),(zr 20),(zi 4),(zi 0),(zr 33),(zi 10),(zi 0),(zr 50),(zi 12),(zi 0),(zr 57),(zi 14),(zi 0),(zr 64),(zi 21),(zi 0),(zr 69),(zi 23),(zi 0),(zr 76),(zi 28),(zi 0),(zr 81),(zi 30),(zi 0),(zr 88),(zi 33),(zi 0),(zr 93),(zi 36),(zi 0),(zr 98),(zi 39),(zi 0),(zr 105),(zi 41),(zi 0),(zr 110),(zi 43),(zi 0),(zr 115),(zi 46),(zi 0),(zr 120),(zi 52),(zi 0),(zr 127),(zi 61),(zi 0),(zr 134),(zi 67),(zi 0),(zr 141),(zi 75),(zi 0),(zr 146),(zi 80),(zi 0),(zr 151),(zi 88),(zi 0),(zr 156),(zi 95),(zi 0),(zr 163),(zi 97),(zi 0),(zr 170),(zi 99),(zi 0),(zr 175),(zi 102),(zi 0),(zr 180),(zi 105),(zi 0),(zr 185),(zi 108),(zi 0),(zr 192),(zi 115),(zi 0),(zr 197),(zi 118),(zi 0),(zr 204),(zi 123),(zi 0),(zr 211),(zi 125),(zi 0),(zr 218),(zi 138),(zi 0),(zr 223),(zi 158),(zi 0),(zr 228),(zi 161),(zi 0),(zr 233),(zi 180),(zi 0),(zr 240),(zi 187),(zi 0),(zr 247)]
def Atu:Obj:=zl (cz.take 9)
def Asj:Obj:=⟨(.type "type"),ψ,(.cls ⟨"BelowError",[(.type "ValueError")],[(zr 24),(.type "ValueError"),(.type "Exception"),(.type "BaseException"),(.type "object")],23,"BelowError",true,[],[(zr 44)],false,ψ,false⟩),#[(ξ (zr 15)),ψ,(ξ (zs "BelowError" 189)),(ξ (zs "BelowError" 197)),(ξ (.builtin "ValueError.__new__")),(ξ ZbJ)]⟩
def Aua:Obj:=zt [(zr 24)]
def Asq:Obj:=zd [de P "__module__" 214 Pw,de P "__qualname__" 216 (zs "NoCounts" 215),de P "__firstlineno__" 218 (.int 4 217),de P "__init__" 226 (zr 41),de P "__static_attributes__" 228 (zr 42)] 5
def Aue:Obj:=zl [(zi 6),(zi 4),(zr 40)]
def zo31:Obj:=zc [(zs "NoCounts" 209),(zs "NoCounts" 210),(zs "/claim/cut.py" 211),(zi 4),(zi 0),(zi 0),(zi 0),(zi 0),(zr 31),(.bool false),(zi 181),(zr 32),.none,.none,.none,.none,(zi 212),(zi 4),(zs "/claim/cut.py" 213)]
def At4:Obj:=⟨(.type "frame"),ψ,.plain,#[(ξ (zr 33)),(ξ (zr 3)),(ξ (zr 30)),ψ,(ξ Pw),ψ,(ξ (zr 0))]⟩
def zo33:Obj:=zt [(zs "self" 222),(zs "row" 223)]
def zo34:Obj:=zx "__init__" "NoCounts.__init__" (Aby (top 2) 0)
def At9:Obj:=zA "__init__" "NoCounts.__init__" 219 6 2 35 181 224
def zo36:Obj:=zf "__init__" "NoCounts.__init__" (Aby (top 2) 0) Pw (zr 40)
def Aud:Obj:=zt [(zs "row" 227)]
def Ati:Obj:=zd [de P "__module__" 214 Pw,de P "__firstlineno__" 218 (.int 4 217),de P "__init__" 226 (zr 41),de P "__static_attributes__" 228 (zr 42),de P "__doc__" 229 .none] 2
def zo39:Obj:=⟨(.type "type"),ψ,(.cls ⟨"NoCounts",[(zr 24)],[(zr 44),(zr 24),(.type "ValueError"),(.type "Exception"),(.type "BaseException"),(.type "object")],43,"NoCounts",true,[],[],false,ψ,false⟩),#[(ξ (zr 28)),ψ,(ξ (zs "NoCounts" 207)),(ξ (zs "NoCounts" 215)),(ξ (.builtin "ValueError.__new__")),(ξ ZbJ)]⟩
def Auf:Obj:=⟨(.type "super"),ψ,(.fields #[(zr 44),(zr 44),(zr 44)]),#[]⟩
def zo41:Obj:=⟨(.type "builtin_function_or_method"),ψ,(.fields #[(.builtin "object.__init_subclass__"),(zr 44)]),#[]⟩
def Au2:Obj:=zx "counts_of" "counts_of" (top 4)
def zo43:Obj:=zB "counts_of" "counts_of" 234 10 1 47 181 237
def Arz:Obj:=zf "counts_of" "counts_of" (top 4) U6 (zr 50)
def Aus:Obj:=zd (de P "__name__" 165 Uq::((gz P).take 21)) 22
def At6:Obj:=zl (cz.take 39)
def Aul:Obj:=zt [(zs "row" 243)]
def Auj:Obj:=zx "count_of" "count_of" (top 5)
def zo49:Obj:=zA "count_of" "count_of" 240 12 1 52 181 244
def Atm:Obj:=zf "count_of" "count_of" (top 5) U6 (zr 57)
def zo51:Obj:=zt [(zs "counts" 250),(zs "left" 251),(zs "backwards" 252),(zs "place" 253)]
def zo52:Obj:=zx "row_of" "row_of" (top 6)
def Ar0:Obj:=zA "row_of" "row_of" 247 14 1 59 181 254
def zo54:Obj:=zf "row_of" "row_of" (top 6) U6 (zr 64)
def At7:Obj:=zx "many_greater" "many_greater" (top 7)
def zo56:Obj:=zB "many_greater" "many_greater" 257 21 2 66 181 260
def Arw:Obj:=zf "many_greater" "many_greater" (top 7) U6 (zr 69)
def zo58:Obj:=zt [(zs "counts" 266),(zs "place" 267),(zs "count" 268)]
def zo59:Obj:=zx "need_counts" "need_counts" (top 8)
def Asx:Obj:=zA "need_counts" "need_counts" 263 23 1 71 181 269
def zo61:Obj:=zf "need_counts" "need_counts" (top 8) U6 (zr 76)
def Aux:Obj:=zx "lies_below" "lies_below" (top 10)
def zo63:Obj:=zB "lies_below" "lies_below" 274 28 2 78 181 277
def Arh:Obj:=zf "lies_below" "lies_below" (top 10) (zs "belowpoints.heaps.texts" 272) (zr 81)
def zo65:Obj:=zt [(zs "point" 283)]
def zo66:Obj:=zx "place_of" "place_of" (top 11)
def Aqm:Obj:=zA "place_of" "place_of" 280 30 1 83 181 284
def zo68:Obj:=zf "place_of" "place_of" (top 11) (zs "belowpoints.heaps.texts" 272) (zr 88)
def Aub:Obj:=zx "below_each" "below_each" (top 13)
def zo70:Obj:=zB "below_each" "below_each" 289 33 1 90 181 292
def Ars:Obj:=zf "below_each" "below_each" (top 13) Uq (zr 93)
def zo72:Obj:=zx "above_each" "above_each" (top 14)
def Atc:Obj:=zB "above_each" "above_each" 295 36 1 95 181 298
def zo74:Obj:=zf "above_each" "above_each" (top 14) Uq (zr 98)
def Au0:Obj:=zt [(zs "points" 304)]
def Au4:Obj:=zx "pairs_in_all" "pairs_in_all" (top 15)
def zo77:Obj:=zA "pairs_in_all" "pairs_in_all" 301 39 1 100 181 305
def Aq7:Obj:=zf "pairs_in_all" "pairs_in_all" (top 15) Uq (zr 105)
def zo79:Obj:=zx "many_below" "many_below" (top 16)
def Asp:Obj:=zB "many_below" "many_below" 308 41 2 107 181 311
def Ar3:Obj:=zf "many_below" "many_below" (top 16) Uq (zr 110)
def Auu:Obj:=zd (de P "__name__" 165 N7::((gz P).take 30)) 31
def Au7:Obj:=zl (cz.take 66)
def At2:Obj:=zx "many_above" "many_above" (top 17)
def zo85:Obj:=zB "many_above" "many_above" 314 43 2 112 181 317
def Aqn:Obj:=zf "many_above" "many_above" (top 17) Uq (zr 115)
def zo87:Obj:=zx "crowd_of" "crowd_of" (top 19)
def Aqh:Obj:=zB "crowd_of" "crowd_of" 322 46 1 117 181 325
def zo89:Obj:=zf "crowd_of" "crowd_of" (top 19) (zs "belowpoints.chains.covers" 320) (zr 120)
def At1:Obj:=zt [(zs "points" 331),(zs "chains" 332),(zs "point" 333),(zs "turn" 334),(zs "crowd" 335)]
def Ats:Obj:=zx "chains_laid" "chains_laid" (top 20)
def zo92:Obj:=zA "chains_laid" "chains_laid" 328 52 1 122 181 336
def As7:Obj:=zf "chains_laid" "chains_laid" (top 20) (zs "belowpoints.chains.covers" 320) (zr 127)
def zo94:Obj:=zt [(zs "chains" 342),(zs "point" 343),(zs "turn" 344),(zs "chain" 345)]
def zo95:Obj:=zx "first_that_takes" "first_that_takes" (top 21)
def Aqj:Obj:=zA "first_that_takes" "first_that_takes" 339 61 2 129 181 346
def zo97:Obj:=zf "first_that_takes" "first_that_takes" (top 21) (zs "belowpoints.chains.covers" 320) (zr 134)
def At3:Obj:=zt [(zs "points" 354),(zs "ones" 355),(zs "point" 356),(zs "heaviest" 357)]
def Auv:Obj:=zx "longest_chains" "longest_chains" (top 23)
def zo100:Obj:=zA "longest_chains" "longest_chains" 351 67 1 136 181 358
def Amt:Obj:=zf "longest_chains" "longest_chains" (top 23) N7 (zr 141)
def zo102:Obj:=zx "heaviest_chain" "heaviest_chain" (top 24)
def Am2:Obj:=zB "heaviest_chain" "heaviest_chain" 361 75 2 143 181 364
def zo104:Obj:=zf "heaviest_chain" "heaviest_chain" (top 24) N7 (zr 146)
def Atn:Obj:=zx "chains_of_each" "chains_of_each" (top 25)
def zo106:Obj:=zB "chains_of_each" "chains_of_each" 367 80 1 148 181 370
def Am1:Obj:=zf "chains_of_each" "chains_of_each" (top 25) N7 (zr 151)
def zo108:Obj:=zx "heaviest_begun" "heaviest_begun" (top 26)
def Anf:Obj:=zB "heaviest_begun" "heaviest_begun" 373 88 2 153 181 376
def zo110:Obj:=zf "heaviest_begun" "heaviest_begun" (top 26) N7 (zr 156)
def Atk:Obj:=zt [(zs "chains" 382)]
def Atd:Obj:=zx "first_heaviest" "first_heaviest" (top 27)
def zo113:Obj:=zA "first_heaviest" "first_heaviest" 379 95 1 158 181 383
def Amj:Obj:=zf "first_heaviest" "first_heaviest" (top 27) N7 (zr 163)
def Aso:Obj:=zd (de P "__name__" 165 (zs "law_belowpoints_k47_whole_rows_as_points" 432)::((gz P).take 39)) 40
def Ar1:Obj:=zl (cz.take 93)
def Ard:Obj:=zt [(zs "points" 389)]
def zo118:Obj:=zt [(zs "points" 390)]
def Asg:Obj:=zx "turns_from_the_highest" "turns_from_the_highest" (top 28)
def zo120:Obj:=zA "turns_from_the_highest" "turns_from_the_highest" 386 97 1 165 181 391
def Amn:Obj:=zf "turns_from_the_highest" "turns_from_the_highest" (top 28) N7 (zr 170)
def zo122:Obj:=zx "turns_above" "turns_above" (top 29)
def Amk:Obj:=zB "turns_above" "turns_above" 394 99 2 172 181 397
def zo124:Obj:=zf "turns_above" "turns_above" (top 29) N7 (zr 175)
def Arn:Obj:=zx "sum_at" "sum_at" (top 30)
def zo126:Obj:=zB "sum_at" "sum_at" 400 102 2 177 181 403
def Amg:Obj:=zf "sum_at" "sum_at" (top 30) N7 (zr 180)
def zo128:Obj:=zx "halves_of" "halves_of" (top 32)
def Ann:Obj:=zB "halves_of" "halves_of" 408 105 1 182 181 411
def zo130:Obj:=zf "halves_of" "halves_of" (top 32) (zs "belowpoints.counts.halves" 406) (zr 185)
def Asr:Obj:=zt [(zs "places" 417),(zs "first" 418),(zs "behind" 419),(zs "many" 420),(zs "middle" 421),(zs "whole" 422)]
def Aq9:Obj:=zx "halves_between" "halves_between" (top 33)
def zo133:Obj:=zA "halves_between" "halves_between" 414 108 3 187 181 423
def Anh:Obj:=zf "halves_between" "halves_between" (top 33) (zs "belowpoints.counts.halves" 406) (zr 192)
def zo135:Obj:=zx "crossings_of" "crossings_of" (top 34)
def Amh:Obj:=zB "crossings_of" "crossings_of" 426 115 2 194 181 429
def zo137:Obj:=zf "crossings_of" "crossings_of" (top 34) (zs "belowpoints.counts.halves" 406) (zr 197)
def Arj:Obj:=zt [(zs "cell" 437),(zs "k" 438),(zs "number" 439)]
def Aro:Obj:=zx "_law_mix" "_law_mix" (top 36)
def zo140:Obj:=zA "_law_mix" "_law_mix" 434 118 2 199 181 440
def Ami:Obj:=zf "_law_mix" "_law_mix" (top 36) (zs "law_belowpoints_k47_whole_rows_as_points" 432) (zr 204)
def zo142:Obj:=zt [(zs "script" 446)]
def zo143:Obj:=zx "_law_deck" "_law_deck" (top 37)
def Ams:Obj:=zA "_law_deck" "_law_deck" 443 123 1 206 181 447
def zo145:Obj:=zf "_law_deck" "_law_deck" (top 37) (zs "law_belowpoints_k47_whole_rows_as_points" 432) (zr 211)
def Art:Obj:=zt [(zs "deck" 453),(zs "many" 454),(zs "cell" 455),(zs "found" 456)]
def Asz:Obj:=zx "_law_next" "_law_next" (top 38)
def zo148:Obj:=zA "_law_next" "_law_next" 450 125 2 213 181 457
def Amy:Obj:=zf "_law_next" "_law_next" (top 38) (zs "law_belowpoints_k47_whole_rows_as_points" 432) (zr 218)
def Ame:Obj:=zd (de P "__name__" 165 (zs "law_belowpoints_k47_whole_rows_as_points" 432)::(gz P)) 45
def Asv:Obj:=zl cz
def Ate:Obj:=zx "_law_row" "_law_row" (top 39)
def zo153:Obj:=zB "_law_row" "_law_row" 460 138 2 220 181 463
def Am6:Obj:=zf "_law_row" "_law_row" (top 39) (zs "law_belowpoints_k47_whole_rows_as_points" 432) (zr 223)
def zo155:Obj:=zx "_law_points" "_law_points" (top 40)
def Amm:Obj:=zB "_law_points" "_law_points" 466 158 1 225 181 469
def zo157:Obj:=zf "_law_points" "_law_points" (top 40) (zs "law_belowpoints_k47_whole_rows_as_points" 432) (zr 228)
def Ara:Obj:=zx "_law_right" "_law_right" (top 41)
def zo159:Obj:=zB "_law_right" "_law_right" 472 161 1 230 181 475
def Ani:Obj:=zf "_law_right" "_law_right" (top 41) (zs "law_belowpoints_k47_whole_rows_as_points" 432) (zr 233)
def zo161:Obj:=zt [(zs "row" 481),(zs "many" 482),(zs "rising" 483),(zs "falling" 484)]
def zo162:Obj:=zx "_law_straight_right" "_law_straight_right" (top 42)
def Amv:Obj:=zA "_law_straight_right" "_law_straight_right" 478 180 1 235 181 485
def zo164:Obj:=zf "_law_straight_right" "_law_straight_right" (top 42) (zs "law_belowpoints_k47_whole_rows_as_points" 432) (zr 240)
def Aq0:Obj:=zt [(zs "script" 491),(zs "deck" 492),(zs "turn" 493),(zs "row" 494)]
def Aqx:Obj:=zx "law" "law" (top 43)
def zo167:Obj:=zA "law" "law" 488 187 1 242 181 495
def Ang:Obj:=zf "law" "law" (top 43) (zs "law_belowpoints_k47_whole_rows_as_points" 432) (zr 247)
def l_0:List Obj:=[(vA P),(zo1 P),zo2,(PySem.W.boot_o_3 P),zo4,zo5,zo6,zo7,zo8,zo9,zo10,zo7,zo8,Atz,At5]
def l_1:List Obj:=(l_0 P)
def t_0:iW:=mkT 11 (l_1 P)
def l_2:List Obj:=(((l_1 P).set 3 (Aty P)).set 12 Auh)++[Atw,zo16,(Arv P),zo7,zo8,zo18,Aui,zo7,(Aqk P),zo21,Au6,zo23,Atv]
def t_1:iW:=mkT 11 (l_2 P)
def l_3:List Obj:=((((l_2 P).set 3 (Aut P)).set 12 Atu).set 24 Asj)++[Aua,zo16,(Asq P),zo7,Aue,zo31,At4,zo7,zo8,zo33,zo7,zo34,At9,zo36,Aud,(Ati P),zo39,Auf,zo41,zo7,zo8,Au2,zo43,Arz]
def t_2:iW:=mkT 11 (l_3 P)
def l_4:List Obj:=(((l_3 P).set 3 (Aus P)).set 12 At6)++[zo7,zo8,Aul,zo7,Auj,zo49,Atm,zo7,zo8,zo51,zo7,zo52,Ar0,zo54,zo7,zo8,At7,zo56,Arw,zo7,zo8,zo58,zo7,zo59,Asx,zo61,zo7,zo8,Aux,zo63,Arh,zo7,zo8,zo65,zo7,zo66,Aqm,zo68,zo7,zo8,Aub,zo70,Ars,zo7,zo8,zo72,Atc,zo74,zo7,zo8,Au0,zo7,Au4,zo77,Aq7,zo7,zo8,zo79,Asp,Ar3]
def t_3:iW:=mkT 11 (l_4 P)
def l_5:List Obj:=(((l_4 P).set 3 (Auu P)).set 12 Au7)++[zo7,zo8,At2,zo85,Aqn,zo7,zo8,zo87,Aqh,zo89,zo7,zo8,At1,zo7,Ats,zo92,As7,zo7,zo8,zo94,zo7,zo95,Aqj,zo97,zo7,zo8,At3,zo7,Auv,zo100,Amt,zo7,zo8,zo102,Am2,zo104,zo7,zo8,Atn,zo106,Am1,zo7,zo8,zo108,Anf,zo110,zo7,zo8,Atk,zo7,Atd,zo113,Amj]
def t_4:iW:=mkT 11 (l_5 P)
def l_6:List Obj:=(((l_5 P).set 3 (Aso P)).set 12 Ar1)++[zo7,zo8,Ard,zo118,Asg,zo120,Amn,zo7,zo8,zo122,Amk,zo124,zo7,zo8,Arn,zo126,Amg,zo7,zo8,zo128,Ann,zo130,zo7,zo8,Asr,zo7,Aq9,zo133,Anh,zo7,zo8,zo135,Amh,zo137,zo7,zo8,Arj,zo7,Aro,zo140,Ami,zo7,zo8,zo142,zo7,zo143,Ams,zo145,zo7,zo8,Art,zo7,Asz,zo148,Amy]
def t_5:iW:=mkT 11 (l_6 P)
def l_7:List Obj:=(((l_6 P).set 3 (Ame P)).set 12 Asv)++[zo7,zo8,Ate,zo153,Am6,zo7,zo8,zo155,Amm,zo157,zo7,zo8,Ara,zo159,Ani,zo7,zo8,zo161,zo7,zo162,Amv,zo164,zo7,zo8,Aq0,zo7,Aqx,zo167,Ang]
def t_6:iW:=mkT 11 (l_7 P)
def l_8:List Obj:=(l_7 P)
def hA:Heap:=⟨⟨l_0 P⟩,{}⟩
def hZ:Heap:=⟨⟨l_8 P⟩,{}⟩
noncomputable abbrev pp:cO:=PySem.Challenge.pw_belowpoints_k47_whole_rows_as_points
def q0:cO:={ pp with main:={ pp.main with body:=[1,2,4,5,6,7,8,10,11,13,14,15,16,17,19,20,21,23,24,25,26,27,28,29,30,32,33,34,36,37,38,39,40,41,42,43].map top } }
def ev:Env:={ scope:=pp.main.scope,locals:=mainNs,globals:=mainNs,cells:=[],code:=(.ref 13),frame:=ξ 14 }
abbrev bd:List Stmt:=PySem.W.behindTheImports pp
abbrev cE:Code:=.body bd ev
noncomputable abbrev tB:List Frame:=[lU ⟨0,0,0,0⟩]
def sl(i j:Nat):List Stmt:=(bd.drop i).take j
theorem Arm(w:dH)(os:kH):PySem.W.topGo eP pp w 11 Zbd 12 ⟨fT w.params,⟨[]⟩,nR,oJ,os⟩ (vT pp)=ξ (⟨hA w.params,⟨[]⟩,{},187,os⟩,⟨denote eP cE,cE,⟨0,0,0,0⟩,tB⟩):=by
 rw[PySem.W.Fast.te15667345088766844465,cF,PySem.W.Fast.te11892475500146522536];kernel_rfl
theorem Ajn(w:dH)(os:kH):wQ eP pp w 11 Zbd 1 1 ⟨hA w.params,⟨[]⟩,{},187,os⟩ (vU bd ev cE ⟨0,0,0,0⟩ tB)=ξ (.next,rT ⟨t_0 w.params,15,{},⟨[]⟩,{},187,os⟩,cE,⟨0,0,0,0⟩):=by
 rw[PySem.W.Fast.te14374325043358763698,cF];kernel_rfl
theorem r_0(w:dH)(os:kH):jH eP pp w 11 Zbd 1 196 ⟨t_0 w.params,15,{},⟨[]⟩,{},187,os⟩ (jA (sl 0 2) ev cE ⟨0,0,0,0⟩ tB)=ξ (.next,⟨t_1 w.params,28,{},⟨[]⟩,{},207,os⟩,cE,⟨2,0,3,8⟩):=by
 rw[dL,cF];kernel_rfl
theorem r_1(w:dH)(os:kH):jH eP pp w 11 Zbd 1 281 ⟨t_1 w.params,28,{},⟨[]⟩,{},207,os⟩ (jA (sl 2 3) ev cE ⟨2,0,3,8⟩ tB)=ξ (.next,⟨t_2 w.params,52,{},⟨[]⟩,{},240,os⟩,cE,⟨10,0,11,89⟩):=by
 rw[dL,cF];kernel_rfl
theorem r_2(w:dH)(os:kH):jH eP pp w 11 Zbd 1 299 ⟨t_2 w.params,52,{},⟨[]⟩,{},240,os⟩ (jA (sl 5 12) ev cE ⟨10,0,11,89⟩ tB)=ξ (.next,⟨t_3 w.params,112,{},⟨[]⟩,{},314,os⟩,cE,⟨41,0,42,71⟩):=by
 rw[dL,cF];kernel_rfl
theorem r_3(w:dH)(os:kH):jH eP pp w 11 Zbd 1 275 ⟨t_3 w.params,112,{},⟨[]⟩,{},314,os⟩ (jA (sl 17 11) ev cE ⟨41,0,42,71⟩ tB)=ξ (.next,⟨t_4 w.params,165,{},⟨[]⟩,{},386,os⟩,cE,⟨95,0,96,63⟩):=by
 rw[dL,cF];kernel_rfl
theorem r_4(w:dH)(os:kH):jH eP pp w 11 Zbd 1 279 ⟨t_4 w.params,165,{},⟨[]⟩,{},386,os⟩ (jA (sl 28 11) ev cE ⟨95,0,96,63⟩ tB)=ξ (.next,⟨t_5 w.params,220,{},⟨[]⟩,{},460,os⟩,cE,⟨125,0,137,50⟩):=by
 rw[dL,cF];kernel_rfl
theorem r_5(w:dH)(os:kH):jH eP pp w 11 Zbd 1 143 ⟨t_5 w.params,220,{},⟨[]⟩,{},460,os⟩ (jA (sl 39 5) ev cE ⟨125,0,137,50⟩ tB)=ξ (.next,⟨t_6 w.params,249,{},⟨[]⟩,{},498,os⟩,cE,⟨187,0,193,15⟩):=by
 rw[dL,cF];kernel_rfl
theorem Aq6(w:dH)(os:kH):nS eP pp w 11 Zbd 2 (rT ⟨t_6 w.params,249,{},⟨[]⟩,{},498,os⟩) (wR [] ev cE ⟨187,0,193,15⟩ tB)=ξ ⟨hZ w.params,⟨[]⟩,{},498,os⟩:=by
 rw[PySem.W.Fast.te14082659384304107361,cF];kernel_rfl
theorem bdE:bd=(sl 0 2++(sl 2 3++(sl 5 12++(sl 17 11++(sl 28 11++(sl 39 5++[])))))):=by kernel_rfl
theorem Al8{tb:String->Option jM}{p:cO}{w:dH}{n₀:Nat}{ann:Option aH}{env:Env}{q:Pos}{N:Nat}{s s1 r:aR}{b b1:List Stmt}{c:Code}{pos p1:Pos}(hb:b=b1)(h:wQ tb p w n₀ ann 1 n s (vU b env c pos [lU q])=ξ (.next,s1,c,p1))(k:nS tb p w n₀ ann N s1 (wR b1 env c p1 [lU q])=ξ r):nS tb p w n₀ ann (n+N) s ⟨denote tb (.body b env),c,pos,[lU q]⟩=ξ r:=by
 subst hb;exact PySem.W.piece_block h k
theorem Aqy(w:dH)(os:kH):nS eP pp w 11 Zbd (12+(1+(196+(281+(299+(275+(279+(143+2)))))))) ⟨fT w.params,⟨[]⟩,nR,oJ,os⟩ (vT pp)=ξ ⟨hZ w.params,⟨[]⟩,{},498,os⟩:=
 PySem.W.go_top (Arm w os) (Al8 bdE (Ajn w os) (iS (iT (r_0 w os)) (iS (iT (r_1 w os)) (iS (iT (r_2 w os)) (iS (iT (r_3 w os)) (iS (iT (r_4 w os)) (iS (iT (r_5 w os)) (Aq6 w os))))))))
theorem Ap4:∀ w:dH,(PySem.W.fencedOpening eP pp w 3060).map (fun s=>(s.heap,s.gens,s.drawn,s.toks))=ξ (fT w.params,Array.mk [],nR,oJ):=
 PySem.W.boot_open (by kernel_rfl) Zb (fun s=>by kernel_rfl)
theorem Ap7(w:dH):((fT w.params).isNs dD&&(Array.mk []:Array oY).size == 0,(fT w.params).objs.size,(fT w.params).nsMap dD "__annotations__")=(true,11,Zbd):=by
 rw[PySem.W.Fast.te8920871248978507458];kernel_rfl
def K0(P:rE):aL:=(nat_lit 51,Arz)::(nat_lit 58,Atm)::(nat_lit 65,zo54)::(nat_lit 70,Arw)::(nat_lit 77,zo61)::(nat_lit 82,Arh)::(nat_lit 89,zo68)::(nat_lit 94,Ars)::(nat_lit 99,zo74)::(nat_lit 106,Aq7)::(nat_lit 111,Ar3)::(nat_lit 116,Aqn)::(nat_lit 121,zo89)::(nat_lit 128,As7)::(nat_lit 135,zo97)::(nat_lit 142,Amt)::(nat_lit 147,zo104)::(nat_lit 152,Am1)::(nat_lit 157,zo110)::(nat_lit 164,Amj)::(nat_lit 171,Amn)::(nat_lit 176,zo124)::(nat_lit 181,Amg)::(nat_lit 186,zo130)::(nat_lit 193,Anh)::(nat_lit 198,zo137)::(nat_lit 205,Ami)::(nat_lit 212,zo145)::(nat_lit 219,Amy)::(nat_lit 224,Am6)::(nat_lit 229,zo157)::(nat_lit 234,Ani)::(nat_lit 241,zo164)::(nat_lit 248,Ang)::(nat_lit 0,(vA P))::(nat_lit 1,(zo1 P))::(nat_lit 2,zo2)::(nat_lit 3,(Ame P))::(nat_lit 6,zo6)::(nat_lit 17,(Arv P))::(nat_lit 23,(Aqk P))::(nat_lit 24,Asj)::(nat_lit 30,(Asq P))::(nat_lit 43,(Ati P))::(nat_lit 44,zo39)::(nat_lit 50,zo43)::(nat_lit 57,zo49)::(nat_lit 64,Ar0)::(nat_lit 69,zo56)::(nat_lit 76,Asx)::(nat_lit 81,zo63)::(nat_lit 88,Aqm)::(nat_lit 93,zo70)::(nat_lit 98,Atc)::(nat_lit 105,zo77)::(nat_lit 110,Asp)::(nat_lit 115,zo85)::(nat_lit 120,Aqh)::(nat_lit 127,zo92)::(nat_lit 134,Aqj)::(nat_lit 141,zo100)::(nat_lit 146,Am2)::(nat_lit 151,zo106)::(nat_lit 156,Anf)::(nat_lit 163,zo113)::(nat_lit 170,zo120)::(nat_lit 175,Amk)::(nat_lit 180,zo126)::(nat_lit 185,Ann)::(nat_lit 192,zo133)::(nat_lit 197,Amh)::(nat_lit 204,zo140)::(nat_lit 211,Ams)::(nat_lit 218,zo148)::(nat_lit 223,zo153)::(nat_lit 228,Amm)::(nat_lit 233,zo159)::(nat_lit 240,Amv)::(nat_lit 247,zo167)::[]
abbrev hK:PySem.W.Hook:=PySem.W.kHook K0 [nat_lit 51,nat_lit 58,nat_lit 65,nat_lit 70,nat_lit 77,nat_lit 82,nat_lit 89,nat_lit 94,nat_lit 99,nat_lit 106,nat_lit 111,nat_lit 116,nat_lit 121,nat_lit 128,nat_lit 135,nat_lit 142,nat_lit 147,nat_lit 152,nat_lit 157,nat_lit 164,nat_lit 171,nat_lit 176,nat_lit 181,nat_lit 186,nat_lit 193,nat_lit 198,nat_lit 205,nat_lit 212,nat_lit 219,nat_lit 224,nat_lit 229,nat_lit 234,nat_lit 241,nat_lit 248,nat_lit 0,nat_lit 1,nat_lit 2,nat_lit 3,nat_lit 6,nat_lit 17,nat_lit 23,nat_lit 24,nat_lit 30,nat_lit 43,nat_lit 44,nat_lit 50,nat_lit 57,nat_lit 64,nat_lit 69,nat_lit 76,nat_lit 81,nat_lit 88,nat_lit 93,nat_lit 98,nat_lit 105,nat_lit 110,nat_lit 115,nat_lit 120,nat_lit 127,nat_lit 134,nat_lit 141,nat_lit 146,nat_lit 151,nat_lit 156,nat_lit 163,nat_lit 170,nat_lit 175,nat_lit 180,nat_lit 185,nat_lit 192,nat_lit 197,nat_lit 204,nat_lit 211,nat_lit 218,nat_lit 223,nat_lit 228,nat_lit 233,nat_lit 240,nat_lit 247] (fun _=>by kernel_rfl)
noncomputable abbrev lz:List Str:=[]
theorem Auq(w:dH)(os:kH):(PySem.W.staticsOk (importedModules pp.main.body) (fT w.params) (hZ w.params)&&PySem.W.namesBound pp (hZ w.params)&&PySem.W.gensDone ⟨hZ w.params,⟨[]⟩,{},498,os⟩&&PySem.W.laidKept (fT w.params) (hZ w.params))=true:=by
 rw[kM];kernel_rfl
theorem Aup(w:dH)(os:kH):PySem.W.openSeen q0 lz (importedModules pp.main.body) (fun s=>xP q0 [] s&&xD [] s) true ⟨hZ w.params,⟨[]⟩,{},498,os⟩=PySem.W.openGood q0 lz:=by
 rw[kM,PySem.W.Fast.te4187177175401517315];kernel_rfl
theorem Auy(w:dH)(os:kH):hK.obs ⟨hZ w.params,⟨[]⟩,{},498,os⟩=hK.val w:=by kernel_rfl
theorem Auz:PySem.W.LeftO pp q0 lz (fun s=>xP q0 [] s&&xD [] s) hK.obs hK.val 3060:=
 PySem.W.LeftO.of_pieces Ap4 Ap7 Aqy Zb fun w=>funext fun os=>wB (Auq w os) (wB (Aup w os) (Auy w os))
end
theorem Aug{l:nB}{q:cO}{loose:List Str}{XP:(Str->Option aH)->Heap->Prop}{YP:dH->Heap->Prop}{d:DefRec}{K:rE->aL}(hn:l.most=ξ 63)(hdf:d.params.defaults=[])
  (hY:∀ (w:dH) (h:Heap),YP w h->(K w.params).In h) (hTK:∀ w:dH,PySem.W.noTabs ZaZ=true/\Att.O8 ZaZ=true) (hrec:∀ nm∈Fx,∃ d,(PyProof.Rows.recsOf q).find? (fun e=>e.name == nm)=ξ d)
  (F:∀ (w:dH) (mg:Str->Option aH) (fa:Addr) (h:Heap),(K w.params).In h->h.Ns dD mg->mg d.name=ξ (.ref fa) ->
   ∃ fd:eT,(∀ (s:aR) (u:aH),oB s fd ⟨[u],[]⟩ [("script",u)])/\∀ base:Heap,(K w.params).In base->base.Ns dD mg->LamB ZaZ mg base->FnOk l.prog w ZaZ mg base CX0 14 fa fd ["script"] (spF ZaZ 1 Yv)) :
  wY q loose XP YP l.row.toRowW d [] (fun f vs=>xY f vs):=
 Att.Apo (k:=14) (x := "script") hn hdf ⟨rfl,Zb,Zb⟩ hY hTK hrec F (fun ns hl hb=>Ah7 ns hl hb)
end Lw
end
open PySem PySem.W PyProof.Rows
set_option maxRecDepth 100000 in
set_option maxHeartbeats 0 in
theorem PySem.Challenge.cw_belowpoints_k47_whole_rows_as_points_holds : PySem.Challenge.rw_belowpoints_k47_whole_rows_as_points.Holds := by
  w_on; o_law
  refine holds_open (q := Lw.q0) (loose := Lw.lz) (Xt := fun s => xlAt Lw.q0 [] s && recOk [] s) (XP := XL Lw.q0 []) (Yf := Lw.hK.obs) (Ya := Lw.hK.val) (YP := InK Lw.K0) Lw.Auz Lw.hK.of Lw.hK.keeps (fun s e => xl_of s (Bool.and_eq_true_iff.mp e).1) XL.keeps (by rfl) (by rfl) (by rfl) (fun s e => recFacts_of (Bool.and_eq_true_iff.mp e).2) (by rfl) (by first | assumption | decide +kernel) (by decide +kernel) ⟨rfl, rfl, rfl, rfl, rfl, by decide +kernel⟩ ?hw ?hc
  case hw => w_witness2
  k_fill
  refine Lw.Aug (l := PySem.Challenge.rw_belowpoints_k47_whole_rows_as_points) rfl rfl (K := Lw.K0) (fun w h Y => Y) ?T1 ?T2 ?F
  case T1 => exact fun w => ⟨by kernel_rfl, by kernel_rfl⟩
  case T2 => exact List.forall_mem_cons.mpr ⟨⟨_, rfl⟩, List.forall_mem_cons.mpr ⟨⟨_, rfl⟩, fun _ h => nomatch h⟩⟩
  case F =>
    intro w mg fa h KX G hmg
    refine Lw.Aop ?C hmg
    case C =>
      apply Lw.Defs.mk
      all_goals first | (refine' MR.mkG KX G ?a ?l ?c ?k ?h; (case a => k_is); (case l => k_is); (case c => k_is); (case k => k_is); case h => first | exact fun _ _ _ _ _ _ => MR.Ap9 (fun _ => rfl) | exact fun _ _ _ _ _ _ => MR.An7 (fun _ _ => rfl) | exact fun _ _ _ _ _ _ => MR.As4 (fun _ _ _ => rfl)) | (refine' MR.mkM ?a ?i ?l ?c ?k ?h; (case a => k_is); (case i => k_is); (case l => k_is); (case c => k_is); (case k => k_is); case h => first | exact fun _ _ _ _ _ _ => MR.Ap9 (fun _ => rfl) | exact fun _ _ _ _ _ _ => MR.An7 (fun _ _ => rfl) | exact fun _ _ _ _ _ _ => MR.As4 (fun _ _ _ => rfl)) | (refine' MR.Arq KX G ?_; kernel_rfl) | (refine' ⟨?_, ?_⟩ <;> first | k_is | kernel_rfl) | (refine' ⟨?_, ?_, ?_⟩ <;> first | k_is | kernel_rfl) | (refine' MR.mkVI KX G ?a; (case a => k_is)) | (refine' MR.mkVS KX G ?a; (case a => k_is)) | (unfold L2.Ap5; k_is) | (refine' PySem.W.mg_of KX G ?_; k_is) | (refine' PySem.W.mg_none_of KX G ?_; k_is) | k_is | kernel_rfl
