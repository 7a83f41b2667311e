import PyProof.Rows.All
import Wide.All
import OpenK.AllK
import Wide.FinOn
import Lean
import PyProof.EqAt
import PyProof.EqKinds
import PyProof.TupleCall
import KE.KTurnsDict
import KE.KPairComp
import KE.KTryMore
import PyProof.ExcInit
import KE.KIsNot
import KE.KIntText
import PyProof.ReprStr
import PyProof.StrLawsRepr
import KE.KDictList
import KE.KEqDict
import KE.KSortTup
import PyProof.Rows.SortShell
import PyProof.TupleOfSeq
import PySem.Challenge.RW_belowpoints_k41_desk_halves_and_stairs
set_option Elab.async false
set_option linter.all false
set_option maxRecDepth 100000
set_option maxHeartbeats 4000000
open Option renaming bind_eq_some_iff->aA,bind_some->aB,map_some->aE,map_eq_some_iff->aJ,join_some->bF,isSome_map->iT,getD_some->kN,map->mQ,isSome_iff_exists->nC,none->vW
open PySem.Heap renaming get?_push_of_some->aC,get?_push_size->aX,lt_size->aY,size_push->dR,SameBut->iV,get?_update_self->kE,ExtBut->lC,size_update->nV,get?_update_other->oF,IsTuple->rA
open PySem renaming wpAny_bind->aD,Value->aH,Shared->aN,wpAny_pure->bB,starEach->bH,mainGlobals->bU,boot_len->cB,Program->cC,treeTable->cI,World->cM,compareOp->dA,sizeLine_eq->dM,FuncData->dS,wpAny_holding->dW,Around->eA,wpAny_field->eI,wpAny_newObj_type->eJ,wpAny_mono->eR,wpAny_truthy_bool->fA,wpAny_call_entry->fM,OsState->fW,wpAny_callSpecial?_slot->fZ,IsPair->gJ,binaryOp->gP,wpAny_Call_Name_kw->gQ,wpAny_seqItems->gS,wpAny_setField_rec->gT,wpAny_passesOwn->hV,bootBuiltins->iA,mem_of_lookup->iF,wpAny_getItem_str_slice->iG,Keyword->iS,Env->iW,wpAny_pyIter_tuple->jN,wpAny_pyIter_list->jX,NameKind->jZ,call_meets->kM,wpAny_standAt->kR,codeAny->kT,Builtin->kW,wpAny_newList->kX,wpAny_updateSeq_pair->lD,wpAny_execs_nil->lJ,post_val_or_str->lU,IsZip->lX,BindsTo->mB,codeAny_mono->mC,typeIs_str->mL,tupleKind_room_in1->mM,intText?->mN,Scope->mW,wpAny_Call_method->mY,Params->nE,nums_intItems->nF,wpAny_comprehension_free->nG,wpAny_onRaise->nH,GenState->nL,wpAny_pyIter_zip->nR,wpAny_pyNext_list_item->nZ,codeAny_builtin->oS,wpAny_pyNext_list_end->oW,ZipApart->pD,wpAny_letGo->pE,wpAny_newTuple->pF,DictEntry->pR,wpAny_attempt->qC,builtinsNs->qH,IsPart->qJ,wpAny_rule->qN,Within->qQ,seqIndex_neg->qV,slot_list_getitem->qW,call_meetsIn->qY,wpAny_execs_cons->rQ,PassesOwn->rR,noFill_tuple_add->rT,seqIndex_of->sL,Paired->tM,wpAny_Name->tN,wpAny_call->tO,typeIs_int->tP,call->tR,PyData->tT,numAt_eq->tU
open PySem.W renaming Frag->aF,findIn->cQ,piecesOf->dB,piece_app->dC,segRun_of->dD,segRunT->dJ,nsIn->dO,BT->dX,keepIn->dZ,emptyDict->eF,boot_heap->fF,fnOf->fP,instObj->gF,kas_rev->iN,hasDictIn->iQ,specialIn->iR,kas_ask->jF,makesIn->jK,codeIn->kA,kas_sort->kD,plainGet->kK,topFrame->kQ,OpenLaw->lB,plainGet_of->lW,isFn->lZ,lookIn->mJ,boot_drawn->mT,topRun->mU,methodObj->mV,boot_toks->nA,mg_of->nJ,cellsFrom_some->oA,kas_descPart->oG,takerIn->oN,takesIn->oO,methodCall_KW->oX,exmOne->pI,kitOne->pJ,callWith_K0->pS,mroIn->qA,callWith_K->qI,plainOver->qR,handedIn->rS,kas_tail3->sD,kas_count->sE,kas_place->sF,kat_kind->sH,boot_o_0->sJ,findCls->sV,kat_nil->sX,KatTups->sY,topStub->tH,blockOf->tK,kat_lt->tZ,segRun->vB,restOf->vC,WalkO->vF,subIn->vH,Looks->vI,recOk->vK,xlAt->vR
open List renaming getElem?_eq_getElem->aG,map_cons->aI,getD_eq_getElem?_getD->aK,length_map->aL,length_cons->aM,mem_cons_of_mem->aO,getElem?_eq_some_iff->aQ,append_nil->aR,getElem?_cons_zero->aS,size_toArray->aT,mem_cons_self->aU,length_nil->aV,getElem?_cons_succ->aZ,append_assoc->bA,getElem?_map->bD,mem_cons->bG,map_nil->bI,map_map->bJ,mem_append_right->bK,getElem?_append_left->bL,range->bM,replicate_zero->bO,replicate->bP,all_eq_true->bQ,mem_map->bT,length_append->bV,getElem?_set_self->bX,getElem_mem->bZ,Nodup->cG,mem_filter->cH,getElem?_set_ne->cJ,lookup_cons->cK,mem_range->cL,mem_singleton->cR,mem_append->cT,getElem?_eq_none_iff->cU,not_mem_nil->cX,map_congr_left->cY,filter_eq_self->cZ,length_filter_le->dF,getElem?_append_right->dL,mem_of_getElem?->dN,take_of_length_le->dQ,filter_cons->eB,set_cons_succ->eS,set_cons_zero->eT,mem_append_left->eU,lookup->eV,any_cons->eZ,reverse_cons->fD,replicate_succ->fG,nodup_cons->fH,map_append->fJ,length_take->fL,pairwise_cons->fN,cons_append->fO,toArray->fR,sum_cons->fT,nil_append->gG,find?_cons->gH,flatten_cons->iC,length_range->iD,eraseIdx_eq_take_drop_succ->iE,length_eq_zero_iff->iH,length->iI,filter->iJ,ext_getElem->iX,getElem_map->iY,drop_eq_getElem_cons->jB,filter_map->jM,map_id->jT,length_singleton->kF,getElem?_eq_none->kH,take_length->kP,all_cons->kU,map_take->kY,length_set->lK,forIn_cons->lM,filterMap_cons->lV,drop_zero->mO,zip_cons_cons->mP,getElem_range->mS,filter_congr->mZ,getElem_inj->nM,length_drop->nP,map->nY,getElem_cons_succ->oJ,filter_eq_nil_iff->oK,drop_of_length_le->oM,of_mem_zip->oP,foldl_cons->oR,take_succ->pO,getElem?_range->pT,take_succ_cons->pU,mem_map_of_mem->pY,map_drop->qD,take_add_one->rC,nodup_append->rP,zipIdx_cons->rZ,drop_length->sG,nodup_range->sI,zipIdx_nil->sQ,range_succ->sZ,foldl->tQ,forIn_nil->tV,sum_nil->vQ
open Nat renaming le_refl->aP,lt_of_lt_of_le->bC,le_trans->bW,ne_of_lt->cF,sub_self->cS,zero_le->eG,lt_irrefl->eK,lt_succ_self->gO,add_sub_cancel->gW,le_of_lt->jU,ne_of_gt->jV,le_succ->mX,min_eq_right->nQ,toDigits_of_lt_base->nX,toDigits->oI,min_eq_left->oQ,lt_of_le_of_lt->qO,le_of_eq->qS,lt_succ_of_lt->rG,sub_zero->rK,pow_succ->rM,min_le_right->rV,succ_le_succ->rX,le_add_right->sC,strongRecOn->tE,toList_repr->tF,not_lt->tW,mul_comm->vM,zero_add->vO
open PySem.W.Fast renaming te14364793385576792824->aW,te10110043849684766642->bE,te5923862056798008813->jP
open Bool renaming false_eq_true->bN,and_eq_true->bY,false_ne_true->dG,or_eq_true->lL,eq_iff_iff->lR,not_true->nK,false_and->pC,not_false->pN,and_false->vA,false_or->vG,true_and->vJ
open PySem.Obj renaming mapSeq->bR,data_mapFields->qM
open Option.some renaming inj->bS
open Array renaming length_toList->cN,getD_eq_getD_getElem?->dI,getElem?_toList->gZ,getElem?_eq_getElem->jA,all_toList->nW,toList_append->pX,append_assoc->qG,size_append->rO,toList->vL
open PySem.Builtin.Str renaming occurrences->cO,strSliceIndices->gL,strKind->jE
open Prod renaming snd->cP,fst->iU,ext->nO
open PySem.Builtin.SmallTypes renaming nextOf->cV,ownedTupleIsFree->eO,ownedTupleHandOut->jC
open PySem.Value renaming ref->cW,none->eD,type->iK,str->mG,int->pQ,bool->tL,isStrOf->vD,isInt->vS,bytes->vT,float->vU
open PySem.PyData renaming eqv->dH,strOk->fE,canLay0->fX,depth->gK,eqvAll->jH,canLayAll0->rD,list->sM,depthAll->sT,keyHash->tX
open PySem.SeqAt renaming shaped->dP,canLay_of_shaped->oH,EqAt->vY
open PyProof.Rows renaming Keyed->dU,callWith_type1->eY,boot_sorted->fS,SortSt->fY,get?_update_seq->hW,listUpdate_at->jJ,IntsAre->jL,slot_tuple_getitem->kC,AllBare->lY,subscriptTail_builtinR->oE,entry_list_sort->oU,boot_all->pB,seqEpoch_at->pK,slot_list_sort->pL,listItems_at->rF,plain_sorted->rH,entry_sorted->rJ,kind_sorted->sN
open False renaming elim->dY
open PySem.F renaming plainAttrs_str->eC,plainAttrs_list->eX,slot_list_append->fU,type_list_append->fV,slot_tuple_iterator_next->gR,slot_str_split->iM,args_str_split_2->jI,plainAttrs_dict->jR,entry_str_split->jS,slot_str_join->kI,type_str_join->kJ,args_tuple_iterator_next_1->lP,slot_zip_next->lQ,entry_tuple_iterator_next->mD,slot_str_startswith->mE,type_str_startswith->mF,args_tuple_add_2->nD,slot_dict_values->nI,entry_tuple_add->nN,plain_list_iadd->nS,plain_tuple_new->nT,slot_tuple_add->oB,slot_dict_pop->oY,slot_dict_get->oZ,args_object_init_3->pH,args_zip_next_1->qZ,entry_zip_next->sA,typeCall_zip_2->sB,slot_int_rmul->sP,newCall_zip_2->sR,entry_zip_new->sS
open PySem.Heap.SameBut renaming update->eE
open PySem.Builtin.Tuple renaming tupleExact->eM
open PySem.Txt renaming lstripChars->eP,split->eW,join->gU,startswith->kB,slice->kO,mul->vN
open PySem.PassesOwn renaming never->eQ
open List.cons renaming injEq->fI
open PySem.Str renaming cps->fK,ofString->fQ,join->gX,empty->jQ,length->qK
open List.Pairwise renaming map->gE
open Sum renaming inr->gI,inl->pP
open Ne renaming symm->gY
open PySem.Builtin.Slice renaming slicePlaces->hU,sliceAdjust->iZ,sliceApplied->mK
open Int renaming toNat_natCast->iB,le_refl->lH,emod_lt_of_pos->mR,emod_nonneg->oV,natCast_nonneg->qL,ofNat_le->qX,max_eq_right->rW,min_eq_left->sO,ediv_nonneg->tG,zero_add->vP
open PySem.Calls renaming callWith_builtin->iL,spliced_cons->jO,spliced_nil->jY,evalArgs_plain->kZ,Name_function_global->mH,call_function_entry->pV
open ForInStep renaming yield->iO
open PySem.NameKind renaming free->iP,cell->qB
open PySem.Builtin.List renaming listTooLong->jG
open True renaming intro->kL
open PySem.Around renaming under_plainId->lF,under->qT
open PySem.Paired renaming length->nB,snoc->vX
open List.Perm renaming append_left->pA,trans->tD
open PySem.Shared renaming heap->pG
open PySem.W.KatTups renaming cons->pM,nil->pW
open PySem.W.SharedT renaming abs->pZ
open PySem.SeqAt.EqAt renaming int_str->qE,str_int->qF
open Char renaming toNat->qP
open PySem.Code renaming isFrame->qU,frames->vV
open PySem.Heap.IsTuple renaming push->rB
open PySem.W.Looks renaming now->rL
open PySem.StrLaws renaming found_one->rN
open Or renaming inr->rY,inl->tS
open Prod.mk renaming inj->sK
open StateT renaming run_pure->sW
open PyProof.Rows.SortSt renaming mk'->tY
open PySem.W.WShape renaming has->vZ
noncomputable section
open Option renaming some->ξ,none->ψ
local macro_rules|`(tactic|omega)=>`(tactic|lia)
local macro_rules|`(tactic|lk)=>`(tactic|decide +kernel)
open Lean in
set_option hygiene false in
local macro_rules
 | `($x:ident)=>match x.getId with
 |`Za=>`((by simp))
 |`Zb=>`((by decide))
 |`Zc=>`((by rfl))
 |`Zd=>`((by lk))
 |`Ze=>`((by omega))
 |`Zf=>`((model X.prog X.w))
 |`Zg=>`((fun _ _=>rfl))
 |`Zh=>`((fC (.int 0)))
 |`Zi=>`((fC (.int 1)))
 |`Zj=>`((blk X scope cl C N' s2 H2 fp pins))
 |`Zk=>`([ξ (.ref d),x1,ξ (.ref rp),ξ (.int kd),ξ (.ref n),ξ (.int k),ξ (.int x),ξ (.int y)])
 |`Zl=>`((s.heap.objs.size+1))
 |`Zm=>`((Ad (Ay Lh (Ad (fC (.int 60)) (Ad (f2 Az (Ay Ap (Ad (Ae 3) Ah)) (fC (.int 9))) Ah))) Ah))
 |`Zn=>`((MR.gTup 2 (MR.gCons (gN 0) (MR.gCons (gN 1) MR.gNil))))
 |`Zo=>`((Ad (Ae 0) (Ad (Ae 1) Ah)))
 |`Zp=>`((fC (.int 2)))
 |`Zq=>`((bR fun _=>(#[]:Array aH)))
 |`Zr=>`((Ad (Ae 0) Ah))
 |`Zs=>`([ξ (.ref r),ξ (.int (f:Int)),ξ (.int (b:Int)),ξ (.int ((b:Int) - (f:Int))),ξ (.int (m:Int)),ξ (Kt (f,b,cr))])
 |`Zt=>`([ξ (.ref r),ξ (.int (f:Int)),ξ (.int (b:Int)),ξ (.int ((b:Int) - (f:Int))),ψ,ψ])
 |`Zu=>`((model prog w))
 |`Zv=>`((.ListComp elt [⟨tg,iter,ifs,0⟩] scope pos))
 |`Zw=>`((Bg Aq Ar (Ag 0) Aj Zg))
 |`Zx=>`((at0 p (m - 1)))
 |`Zy=>`((false,eval e X.env))
 |`Zz=>`([ξ (.ref k),ξ (.str nm),ξ (.int x),ξ (.int y)])
 |`ZA=>`((ns.map V.int))
 |`ZB=>`((Ad (Ae 3) Ah))
 |`ZC=>`((.lst (sts++[.tup (((srtN (topN lf)).map iU).map U.str)])))
 |`ZD=>`((.ref L.length))
 |`ZE=>`((inB (x,y,u,v)))
 |`ZF=>`((fun _=>rfl))
 |`ZG=>`((.tup [.str nm,.int x,.int y]))
 |`ZH=>`([ξ (.ref n),ξ (.ref f),ξ (.ref l),ξ (.ref b),z4])
 |`ZI=>`((dE d rp n t kd wy x y e8 e9 e10 e11))
 |`ZJ=>`((Bi C.uL (Ce C) hr (Ac (Ag 0) (Ac Aj Af))))
 |`ZK=>`([x0,ξ (.ref s),ξ u,ξ (.tup ((cAs (lf.map cP)).map U.int)),ξ (.ref M2.length)])
 |`ZL=>`([ξ (.str (fig n)),ξ (.str (L8 n))])
 |`ZM=>`((Ac (Ag 0) Af))
 |`ZN=>`([ξ (.ref n),ξ (.ref f),ξ (.ref l),ξ (.ref b),ξ (ptU p)])
 |`ZO=>`((.dic (kG ptU (Lv m nm (x,y)))))
 |`ZP=>`((Bg Aq Ar (Ag 2) Aj Zg))
 |`ZQ=>`((f2 Al (Ae 2) Zh))
 |`ZR=>`((.lst (fs++[.str (txN (srt (tp lf)))])))
 |`ZS=>`((∀ c o,c≠z->c≠TO->c≠j1->c≠j2->s.heap.get? c=ξ o->h'.get? c=ξ o))
 |`ZU=>`((ha pins s σ H _ I h))
 |`ZV=>`((f+(b - f) / 2))
 |`ZW=>`((ps.map ptU))
 |`ZX=>`((Ad (Ae 6) (Ad (Ae 7) Ah)))
 |`ZY=>`((∀ v H' α',Gr H α H' α'->Abs K H' α' L'->RepU K H' α' z v->Q v H'))
 |`ZZ=>`((MR.gTup 3 (MR.gCons (gN 0) (MR.gCons (gN 1) (MR.gCons (gN 2) MR.gNil)))))
 |`Z0=>`((Ad (Bv [ψ,ξ 2,ξ 0] (Eh (Ad (f2 Az Zi (A9 2 A0 (Ad (Ae 0) (Ad (fC (.int 8)) Ah)))) Ah)) (gN 0) ψ Hn) Ah))
 |`Z1=>`((fC (.int 10)))
 |`Z2=>`((Ac (Ag 1) Af))
 |`Z3=>`((.Call (.Attribute o m apos) (e::es) [] pos))
 |`Z4=>`((Bb (Dh hu) Dj (Ag 1) Be (Bj _)))
 |`Z5=>`((.ref s.heap.objs.size))
 |`Z6=>`((.lst (pl.map U.str)))
 |`Z7=>`((ξ (.ref 6)))
 |`Z8=>`([ξ (.ref r),ξ (.tup ((as.map (·.2.1)).map U.str))])
 |`Z9=>`((Bh (A9 2 A0 (Ad (Ae 0) (Ad (Ay Ap ZB) Ah))) (gN 8)))
 |`Zaa=>`((f2 Al (Ae 4) (A9 2 A0 (Ad (Ae 0) (Ad (Ay Ap (Ad (Ae 4) Ah)) Ah)))))
 |`Zab=>`((keywordEach [] X.env))
 |`Zac=>`((G5 (A9 4 Ip (Ad (Ae 2) (Ad (Ae 4) (Ad (Ae 6) (Ad (Ae 5) Ah)))))))
 |`Zad=>`((.Call (.Name x p) (e::es) [] pos))
 |`Zae=>`((.Call (.Attribute o m apos) [] [] pos))
 |`Zaf=>`((fun _=>true))
 |`Zag=>`((Gw.new _ _))
 |`Zah=>`((fun r s'=>r = .ok (.ret (.bool true))/\OldK s₁.heap s'.heap/\s'.os=s₁.os/\lY s'.gens))
 |`Zai=>`([x0,ξ (.ref s),ξ u,x3,x4])
 |`Zaj=>`((EP X pins σ Q))
 |`Zak=>`([ξ (.ref r),ξ (.int (f:Int)),ξ (.int (b:Int)),ξ (.int (c:Int)),ξ (.int 0),ψ,ψ])
 |`Zal=>`((∀ b o,s.heap.get? b=ξ o->h'.get? b=ξ o))
 |`Zam=>`((.lst (m.map ptU)))
 |`Zan=>`(((ns.take many).map U.int))
 |`Zao=>`((Ad ZQ (Ad (f2 Al (Ae 2) Zi) (Ad (f2 Al (Ae 2) Zp) Ah))))
 |`Zap=>`((Gi (Ad (f2 Al (Ae 10) (A9 2 A0 (Ad (Ae 0) (Ad (Ay Ap (Ad (Ae 10) Ah)) Ah)))) ZX)))
 |`Zaq=>`((Option Nat))
 |`Zar=>`((he pins s σ H _ I h))
 |`Zas=>`((Ax (fa:=Ae 2) (fb:=Ae 1) rfl rfl (semSub_int _ _ _)))
 |`Zat=>`((bH es X.env))
 |`Zau=>`((fun z=>hb (by simp[z])))
 |`Zav=>`((Bb (Dh hu) Dj (Ag 0) Be (Bj _)))
 |`Zaw=>`([ξ (.ref d),ξ (.ref rp),ξ (.int kd),ξ (.ref n),ψ,ψ,ψ,ψ,ψ,ψ,ψ,ψ])
 |`Zax=>`(((Gb (ltK ks) vs.length).map fun i=>ys.getD i .non))
 |`Zay=>`((Ad (Ae 1) Ah))
 |`Zaz=>`((Ac (Ag 3) Af))
 |`ZaA=>`([ξ (.ref d),x1,ξ (.ref rp),ξ (.int kd),ξ (.ref n),ξ (.int k),y6,y7])
 |`ZaB=>`(((E3 key qs).map fun i=>(qs.map ptU).getD i .non))
 |`ZaC=>`([ξ (.ref d),ξ (.str line),ξ ZD,ξ (.tup us)])
 |`ZaD=>`((fun k x=>Hf (Cr hsq)))
 |`ZaF=>`((fun _ _ _ _ _ _=>(Ag 0)))
 |`ZaG=>`((ws.map U.str))
 |`ZaH=>`((fun r=>Pm n r.2/\1<=r.1/\r.1<=nrem/\UpS lt r.2 r.1/\Fx n r.2 r.1))
 |`ZaI=>`((Bv [ψ,ξ 1,ξ 4] (Eh Zm) (gN 0) (ξ Hq) Ho))
 |`ZaJ=>`((fun z=>hc (by simp[z])))
 |`ZaK=>`((f2 Al (Ae 0) Zh))
 |`ZaL=>`((Ad (A9 2 G0 (Ad (Ae 2) (Ad (Ae 5) Ah))) ZX))
 |`ZaM=>`((I.ok.hd hc))
 |`ZaN=>`((k == iP&&env.scope.kind == .function&&env.kindOf n == ξ .cell))
 |`ZaO=>`((A9 2 A0 (Ad (Ae 0) (Ad (fC (.int 4)) Ah))))
 |`ZaP=>`([ξ (.ref n),ξ (.ref f),ξ (.ref l),y3,y4])
 |`ZaQ=>`((Bg Aq Ar (Ag 1) Aj Zg))
 |`ZaR=>`((.int (f:Int)))
 |`ZaS=>`((.int (b:Int)))
 |`ZaT=>`([ξ (.ref d),ξ (.ref n),ξ (.str ab),ξ (.int k),ξ (.str w)])
 |`ZaU=>`((Ad (Ae 11) Ah))
 |`ZaV=>`((g1.trans g2))
 |`ZaW=>`((fP x qual (Hl st) (Fw st) (An st) .none kV doc pm an cdv ct))
 |`ZaX=>`((w.cps.toList.map fun c=>.bl (decide (c∈signs.cps.toList))))
 |`ZaY=>`((ha pos pins s σ H _ I h))
 |`ZaZ=>`((fSl Cj (Ae 3) (B3 (f2 Az (Ae 8) Zi)) Bw))
 |`Za0=>`((Ay Ld (Ad (Cg (Ad (A9 2 C5 Zo) (Ad (A9 2 C5 Zo) Ah))) Ah)))
 |`Za1=>`((ξ (.bool true)))
 |`Za2=>`((.str (fig n)))
 |`Za3=>`((ks.map fun i=>ys.getD i .non))
 |`Za4=>`((fSl Cj (Ae 3) Bw (B3 (Ae 8))))
 |`Za5=>`((Str×List Str))
 |`Za6=>`((l.map fun e=>((gI e.1:Key),cW e.2.2)))
 |`Za7=>`((((bM m.length).map (Ig sg m)).map F3))
 |`Za8=>`((g1.trans (g2.trans g3)))
 |`Za9=>`((Ae9 CX P w K mg base N qual scope f cdv A outer s H E))
 |`Zba=>`((HT.sIx xs.length xs.length hi - HT.sIx xs.length 0 lo))
 |`Zbb=>`((.tup (lf.map nU)))
 |`Zbc=>`(((cAs (lf.map cP)).map U.int))
 |`Zbd=>`((((srt m).filter ZE).map ptU))
 |`Zbe=>`((f2 B9 (A9 2 A0 (Ad (Ae 0) (Ad (fC (.int 6)) Ah))) Zh))
 |`Zbf=>`((I.hok.fresh (aP _)))
 |`Zbg=>`(((ps[b]'hb).1,(x,y)))
 |`Zbh=>`(((up.map fun q=>cnt lo q).map U.int))
 |`Zbi=>`((sIx items.size items.size hi - sIx items.size 0 lo))
 |`Zbj=>`([ξ (.ref d),ξ (.str line),ξ ZD,ξ (.tup (u::us))])
 |`Zbk=>`((fun r=>Pm n r.2/\1<=r.1/\r.1<=nrem/\Up lt r.2 r.1))
 |`Zbl=>`((fun b o hb e=>(sb.2 b hb).trans e))
 |`Zbm=>`(((qs.filter fun o=>Ct o q).map prU))
 |`Zbn=>`((dE d rp n t kd wy x y ψ ψ ψ ψ))
 |`Zbo=>`((triS (f,b,cr)))
 |`Zbp=>`([ξ (.ref d),ξ (.str line),ψ,ψ])
 |`Zbq=>`((((E3 Ei m).map (Ig sg m)).map F3))
 |`Zbr=>`((Bi C.uN (E9 C) hr (Ac (Ag 0) Z2)))
 |`Zbs=>`((notedBy Zf X.A X'.env fun e s'=>R (.error e) s'))
 |`Zbt=>`((upd H' D (.lst acc)))
 |`Zbu=>`((Cf (fC (.bl false))))
 |`Zbv=>`((f2 Fp (Ae 2) (Ae 1)))
 |`Zbw=>`((Hy C.ub C.vd (Ag 0)))
 |`Zbx=>`((Hy C.ud C.vc (Ag 0)))
 |`Zby=>`((.ListComp elt [⟨tg,iter,[c],0⟩] scope pos))
 |`Zbz=>`((dE d rp n t kd wy x y e8 e9 (ξ (.ref r)) e11))
 |`ZbA=>`((.builtin id))
 |`ZbB=>`((L.length+1))
 |`ZbC=>`((A9 2 A0 (Ad (Ae 0) (Ad Zp Ah))))
 |`ZbD=>`((.ins C dx fs))
 |`ZbE=>`((ns.map U.int))
 |`ZbF=>`((Ad (Ae 2) Ah))
 |`ZbG=>`((false,eval a X.env))
 |`ZbH=>`((.BoolOp .And (a::b::rest) pos))
 |`ZbI=>`((.Compare a [op,op'] [b,c] pos))
 |`ZbJ=>`((Bk B6 Cv Zc C.vn cB ZM))
 |`ZbK=>`((f2 Al (Ae 0) Zi))
 |`ZbL=>`((f2 Al (Ae 1) Zh))
 |`ZbM=>`((out.map U.str))
 |`ZbN=>`((out.push p++(b.extract t (nb - 1)).reverse))
 |`ZbO=>`((Ac (Bk B6 Cv Zc C.vn cB (Ac (Ag 4) Af)) Af))
 |`ZbP=>`((.BoolOp .Or (a::b::rest) pos))
 |`ZbQ=>`((getMethod ov m pl))
 |`ZbR=>`((.Name x pos))
 |`ZbS=>`((fC (.int 8)))
 |`ZbT=>`((ξ (.int b)))
 |`ZbU=>`((fun _ _ _ _ _ _=>(Bg Aq Ar (Ag 0) Aj Zg)))
 |`ZbV=>`([ξ (.ref n),ξ (.int sg),ψ])
 |`ZbW=>`((envOfC qual scope s.heap.objs.size f cd))
 |`ZbX=>`((ξ (.ref Ca)))
 |`ZbY=>`((fC (.int 60)))
 |`ZbZ=>`((.BoolOp .And (b::rest) pos))
 |`Zb0=>`(((ps++[(nm,(x,y))]).map ptU))
 |`Zb1=>`((backToKw pos Zab))
 |`Zb2=>`((ho pins s2 σ H2 x y v u _ I2 r1 r2 q2))
 |`Zb3=>`((fSl Cj (Ae 0) (B3 (Ae 1)) (B3 (Ae 3))))
 |`Zb4=>`((.BoolOp .Or (b::rest) pos))
 |`Zb5=>`((fun b o hb e=>eb b o hb e))
 |`Zb6=>`((Av (f2 Dd (Ae 3) (Cg Ah))))
 |`Zb7=>`((I1.hok.fresh (aP _)))
 |`Zb8=>`((f2 Al (Ae 4) (Ae 8)))
 |`Zb9=>`((cF (bC (aY e) (I.ok.cab x c hfn hc))))
 |`Zca=>`((aC _ (aX _ rfl)))
 |`Zcb=>`((f2 Al (Ae 0) Zp))
 |`Zcc=>`((hb pins s1 σ H1 _ I1 q1))
 |`Zcd=>`((Ad (Ae 1) (Ad (Ae 2) ZB)))
 |`Zce=>`((fSl Cj (Ae 0) (B3 Zi) Bw))
 |`Zcf=>`((.bl true,L'))
 |`Zcg=>`((.bool false))
 |`Zch=>`((if neg then !inV x xs else inV x xs))
 |`Zci=>`((A9 2 Fi (Ad (Ae 3) (Ad (Rw Zi) Ah))))
 |`Zcj=>`([ξ (.ref d),ξ (.str line),ξ ZD,ψ])
 |`Zck=>`((dE d rp n t kd wy x' y' ψ ψ ψ ψ))
 |`Zcl=>`((Bb (Hz hu) H9 (Ag 3) (Cd Af) (Bj _)))
 |`Zcm=>`((Bk B6 Cv Zc C.vn cB (Ac (Ag 11) Af)))
 |`Zcn=>`((if k then 1 else 0))
 |`Zco=>`((iN p (m - (q+1)) m))
 |`Zcp=>`((Ki p.1 p.2.1 p.2.2))
 |`Zcq=>`((b∈X.ex\/X.s₀.heap.objs.size<=b))
 |`Zcr=>`([ξ (.ref d),x1,ξ (.str abc),x3,x4])
 |`Zcs=>`((.Compare a [op] [b] pos))
 |`Zct=>`((fun x hx=>h x (aO _ hx)))
 |`Zcu=>`((.dic (kG ptU (O1 m nm))))
 |`Zcv=>`((Bs [.ref d,.str line] L))
 |`Zcw=>`([ξ (.ref r),ξ (.int k)])
 |`Zcx=>`((Bk B6 Cv Zc C.vn cB Zaz))
 |`Zcy=>`((eval o X.env))
 |`Zcz=>`((Ad (Ae 4) Ah))
 |`ZcA=>`((fun k x=>rfl))
 |`ZcB=>`((.int (k:Int)))
 |`ZcC=>`((Ac (Ag 2) Af))
 |`ZcD=>`((Bm Sn Oy Aj Aj))
 |`ZcE=>`((.call (.ref fa) ⟨[.ref a],[]⟩))
 |`ZcF=>`([ξ (.ref d),ξ (.ref n2),x2,x3,x4])
 |`ZcG=>`(([Kt (f,b,cr)]++(hv qs f m).map Kt))
 |`ZcH=>`((fun x=>x.1.isSome))
 |`ZcI=>`((Cg (Ad (Ae 9) Ah)))
 |`ZcJ=>`((fun l=>(mapO (toP L 7) l).map sM))
 |`ZcK=>`((Bv [ψ] (Br (Ae 0)) (gN 0) ψ Fd))
 |`ZcL=>`((Ax q3 (Aja rfl rfl rfl) (hin L2)))
 |`ZcM=>`((r1.mono g2))
 |`ZcN=>`((kvs.any fun kv=>decide (kv.1=k)))
 |`ZcO=>`((Ad (Ae 0) (Ad (fC (.int 3)) Ah)))
 |`ZcP=>`((bK _ (bK _ (Mg hb e))))
 |`ZcQ=>`((gF C s.heap.objs.size))
 |`ZcR=>`([ξ (prU a),ξ (prU b)])
 |`ZcS=>`((bH (e::es) X.env))
 |`ZcT=>`((Ad (Ay Ap Zr) Ah))
 |`ZcU=>`((.dic (kG ptU m')))
 |`ZcV=>`((kfl (L.length+2)))
 |`ZcW=>`((fun p=>U.str p.1))
 |`ZcX=>`((ξ (.ref f)))
 |`ZcY=>`((spF X.K n F))
 |`ZcZ=>`((small_of Ze))
 |`Zc0=>`((bC (aY e) I.ok.above))
 |`Zc1=>`((hl pins s σ H _ I h))
 |`Zc2=>`(((mid qs f m).map prU))
 |`Zc3=>`(((mid qs m b).map prU))
 |`Zc4=>`((.int (if j > i then j else i)))
 |`Zc5=>`((.int (if j < i then j else i)))
 |`Zc6=>`((.tup (k.map kV)))
 |`Zc7=>`((eval e X.env))
 |`Zc8=>`((Ad (Ae 1) Zr))
 |`Zc9=>`((Gp.map U.str))
 |`Zda=>`((.int (c:Int)))
 |`Zdb=>`((Ac (Ag 5) Af))
 |`Zdd=>`((.Tuple elts x1 tpos))
 |`Zde=>`((.lst (sp.map U.str)))
 |`Zdf=>`(((mid m f c).map ptU))
 |`Zdg=>`((Ak (Au W4)))
 |`Zdh=>`((ih fun x hx=>hk x (aO _ hx)))
 |`Zdi=>`((bR fun _=>(H0 vs q).toArray))
 |`Zdj=>`(((ps.filter (inB b)).map ptU))
 |`Zdk=>`((Abv C.ub C.ue (Dw C) hr Zbx))
 |`Zdl=>`((Str×Nat×Addr))
 |`Zdm=>`((List Key×Addr×aH))
 |`Zdn=>`((.Subscript o i pos))
 |`Zdo=>`((upd H1 dx (.own x)))
 |`Zdp=>`((s.heap.objs.size+4))
 |`Zdq=>`((s.heap.objs.size+2))
 |`Zdr=>`((s.heap.objs.size+3))
 |`Zds=>`((fun u hu=>P6 L 6 7 u Zb hu))
 |`Zdt=>`((.ext (ExcIs e Ca dd false)))
 |`Zdu=>`((f2 (G7 true) (Ae 4) (Ae 1)))
 |`Zdv=>`((fun δ=>∃ a b,δ = [a,b]))
 |`Zdw=>`((Dg Fq E7 (Ag 0) (Co Aj) Ep))
 |`Zdx=>`((Bb (Dh hu) Dj ZJ Aj (Bj _)))
 |`Zdy=>`((hi σ H Q q))
 |`Zdz=>`((.int ns.sum))
 |`ZdA=>`((ξ (.ref r)))
 |`ZdB=>`((ξ (.int c)))
 |`ZdC=>`(((N:Int) / 2))
 |`ZdD=>`((I.base.keep b o e n hb hx))
 |`ZdE=>`((assign (.Name y py) X.env))
 |`ZdF=>`(((Ua u M).map fun k=>(k,M)))
 |`ZdG=>`((vE s rp n d kd cell e7 e8))
 |`ZdH=>`((Bb Yx Sv (Ag 1) Aj (Bj _)))
 |`ZdI=>`((upd H p (.tup xs)))
 |`ZdJ=>`((upd H p (.lst xs)))
 |`ZdK=>`((at0 p ((l+r) / 2)))
 |`ZdL=>`(((Hs ns).map V.int))
 |`ZdM=>`(((b:Int) - (f:Int)))
 |`ZdN=>`((.lst (lf.map ptU)))
 |`ZdO=>`((backTo pos (bH [] X.env)))
 |`ZdP=>`((Ad fa (Ad fb (Ad fc Ah))))
 |`ZdQ=>`((Ad (Ae i) (Ad (Ae j) Ah)))
 |`ZdR=>`((Ac (Ag 6) (Ac (Ag 7) Af)))
 |`ZdS=>`(((n::t).map V.int))
 |`ZdT=>`(((topN lf).map nU))
 |`ZdU=>`((start N vs))
 |`ZdV=>`((qs.map toL))
 |`ZdW=>`((pd (ptU p)))
 |`ZdX=>`((f (.int i t) (.int j u)))
 |`ZdZ=>`([ψ,ξ 7,ξ 9,ξ 8,ξ 10])
 |`Zd0=>`((Acl xs lo hi))
 |`Zd1=>`((f2 sem fa fb))
 |`Zd2=>`((Ex.new d _ _))
 |`Zd3=>`((Ac (Ag 0) Z2))
 |`Zd4=>`((Ac (Ag 1) ZM))
 |`Zd5=>`((I.base.free b o e n hx))
 |`Zd6=>`((h1.but s1.extBut D.i1z))
 |`Zd7=>`((g1.but s1.extBut D.l1z))
 |`Zd8=>`((f2 Hx Z1 (fC (.int 5))))
 |`Zd9=>`((Ea (fa:=Ae 3) rfl hlen))
 |`Zea=>`((fun δ=>∃ a,δ = [a]))
 |`Zeb=>`((0 < cA (lf.map cP) p.2))
 |`Zec=>`((Bk B6 Cv Zc C.vn cB Z2))
 |`Zed=>`((Bm Nj Jx (Ag 2) (Ag 1)))
 |`Zee=>`((σ.set i (ξ v)))
 |`Zef=>`((.Tuple es k pos))
 |`Zeg=>`((lU ⟨hz,fin⟩))
 |`Zeh=>`((f2 Al (Ae 1) Zi))
 |`Zei=>`((.non,L.set p ZO))
 |`Zej=>`((Str×(Int×Int)))
 |`Zek=>`((HT.sIx xs.length 0 lo))
 |`Zel=>`((fun v _=>v = .bl true))
 |`Zem=>`([ξ (ptU p),ξ (bxU b)])
 |`Zen=>`((.bl (!decide (a=b)),L))
 |`Zeo=>`((fun u hu=>by cases hu))
 |`Zep=>`(((b:Int) - (f:Int) < 2))
 |`Zeq=>`((fun k=>F3 (Ig sg m k)))
 |`Zer=>`((F1 Zc C.vt (Ac Aj Af)))
 |_=>Macro.throwUnsupported
namespace L2
open PySem PySem.Spec PyProof.Rows
noncomputable abbrev Key:=Sum Int Str
def Ym:Key->aH->Bool
 | .inl k,v=>vS k v
 | .inr x,v=>vD x v
def A5l(w:cM):Key->Int
 | .inl k=>hashInt k
 | .inr x=>hashStr w x
theorem Dv:∀ {k:Key} {v:aH},Ym k v=true->(∃ i t,k=pP i/\v=pQ i t)\/(∃ x t,k=gI x/\v=mG x t)
 | .inl i,v,h=>by
  obtain ⟨t,e⟩:=aH.isInt_shape (k:=i) (v:=v) h;exact .inl ⟨i,t,rfl,e⟩
 | .inr x,v,h=>by
  obtain ⟨t,e⟩:=aH.isStrOf_shape (x:=x) (v:=v) h;exact .inr ⟨x,t,rfl,e⟩
theorem Aiw(i:Int)(t:Tok):Ym (.inl i) (.int i t)=true:=by simp[Ym,vS]
theorem Akb(x:Str)(t:Tok):Ym (.inr x) (.str x t)=true:=by simp[Ym,vD]
theorem Axj(a b:Int):decide ((pP a:Key)=pP b)=(a == b):=by
 by_cases e:a=b
 ·subst e;simp
 ·have h:¬ (pP a:Key)=pP b:=fun q=>e (pP.inj q)
  rw[decide_eq_false h];exact (beq_eq_false_iff_ne.mpr e).symm
theorem Axm(a b:Str):decide ((gI a:Key)=gI b)=decide (a=b):=by
 by_cases e:a=b
 ·subst e;simp
 ·have h:¬ (gI a:Key)=gI b:=fun q=>e (gI.inj q)
  rw[decide_eq_false h,decide_eq_false e]
theorem Avs(a:Int)(b:Str):decide ((pP a:Key)=gI b)=false:=decide_eq_false (fun q=>nomatch q)
theorem Avw(a:Str)(b:Int):decide ((gI a:Key)=pP b)=false:=decide_eq_false (fun q=>nomatch q)
def C9(prog:cC)(w:cM):PySem.KeyKind prog w Key where
 is:=Ym
 hash:=A5l w
 inj:=fun v a b ha hb=>by
  rcases Dv ha with ⟨i,t,rfl,rfl⟩ | ⟨x,t,rfl,rfl⟩
  ·rcases Dv hb with ⟨j,u,rfl,e⟩ | ⟨y,u,rfl,e⟩
   ·injection e with e1 _;rw[e1]
   ·exact nomatch e
  ·rcases Dv hb with ⟨j,u,rfl,e⟩ | ⟨y,u,rfl,e⟩
   ·exact nomatch e
   ·injection e with e1 _;rw[e1]
 byValue:=fun k v h=>by
  rcases Dv h with ⟨i,t,rfl,rfl⟩ | ⟨x,t,rfl,rfl⟩ <;> rfl
 pyHash:=fun hv h=>by
  rcases Dv hv with ⟨i,t,rfl,rfl⟩ | ⟨x,t,rfl,rfl⟩
  ·exact wpAny_pyHash_int h
  ·exact wpAny_pyHash_str h
 eqBool:=fun hu hv h=>by
  rcases Dv hu with ⟨i,t,rfl,rfl⟩ | ⟨x,t,rfl,rfl⟩
  ·rcases Dv hv with ⟨j,u,rfl,rfl⟩ | ⟨y,u,rfl,rfl⟩
   ·rw[Axj] at h;exact wpAny_eqBool_int h
   ·rw[Avs] at h;exact qE i t y u _ _ _ _ h
  ·rcases Dv hv with ⟨j,u,rfl,rfl⟩ | ⟨y,u,rfl,rfl⟩
   ·rw[Avw] at h;exact qF x t j u _ _ _ _ h
   ·rw[Axm] at h;exact wpAny_eqBool_str h
 «strs» := fun k x t v h=>by
  rcases Dv h with ⟨i,u,rfl,e⟩ | ⟨y,u,rfl,e⟩
  ·exact nomatch e
  ·injection e with e1 _
   subst e1;cases v <;> rfl
theorem Ab0(prog:cC)(w:cM)(i:Int)(t:Tok):(C9 prog w).is (.inl i) (.int i t)=true:=Aiw i t
theorem Nu(prog:cC)(w:cM)(x:Str)(t:Tok):(C9 prog w).is (.inr x) (.str x t)=true:=Akb x t
inductive V where
 | non | bl (b:Bool) | int (i:Int) | str (x:Str) | byt (b:Array UInt8) | flt (b:UInt64) | ref (a:Addr) | ty (n:String)
 deriving DecidableEq
noncomputable def RelV:V->aH->Prop
 | .non,u=>u=eD
 | .bl b,u=>u=tL b
 | .int i,u=>∃ t,u=pQ i t
 | .str x,u=>∃ t,u=mG x t
 | .byt b,u=>∃ t,u=vT b t
 | .flt b,u=>∃ t,u=vU b t
 | .ref a,u=>u=cW a
 | .ty n,u=>u=iK n
abbrev Vals:List V->List aH->Prop:=tM RelV
variable {xs:List V}{us:List aH}
theorem Vals.length(r:Vals xs us):xs.length=us.length:=nB r
variable {i:Nat}
theorem Vals.get{x:V}(h:Vals xs us)(e:xs[i]? = ξ x):∃ u,us[i]? = ξ u/\RelV x u:=by
 induction h generalizing i with
 | nil=>cases e
 | cons r t ih=>
  cases i with
  | zero=>cases e;exact ⟨_,rfl,r⟩
  | succ i=>exact ih (i:=i) e
variable {u:aH}
theorem Vals.set{x:V}(r:RelV x u)(i:Nat)(h:Vals xs us):Vals (xs.set i x) (us.set i u):=by
 induction h generalizing i with
 | nil=>exact .nil
 | cons q t ih=>
  cases i with
  | zero=>exact .cons r t
  | succ i=>exact .cons q (ih i)
variable {ys:List V}
theorem Vals.append{ws:List aH}(h:Vals xs us)(s:Vals ys ws):Vals (xs++ys) (us++ws):=by
 induction h with
 | nil=>exact s
 | cons r t ih=>exact .cons r ih
theorem Vals.take(n:Nat)(h:Vals xs us):Vals (xs.take n) (us.take n):=by
 induction h generalizing n with
 | nil=>cases n <;> exact .nil
 | cons r t ih=>
  cases n with
  | zero=>exact .nil
  | succ n=>exact .cons r (ih n)
theorem Vals.drop(n:Nat)(h:Vals xs us):Vals (xs.drop n) (us.drop n):=by
 induction h generalizing n with
 | nil=>cases n <;> exact .nil
 | cons r t ih=>
  cases n with
  | zero=>exact .cons r t
  | succ n=>exact ih n
theorem Vals.none_of:∀ {xs:List V} {us:List aH} {i:Nat},Vals xs us->xs[i]? = ψ->us[i]? = ψ:=fun {xs us i} r e=>by
 have h1:=r.length;have h2:xs.length<=i:=cU.mp e;exact cU.mpr Ze
def RelO:Option V->Option aH->Prop
 | some v,ξ u=>RelV v u
 | none,ψ=>True
 | _,_=>False
def KV{κ:Type}:List (κ×V)->List (κ×aH)->Prop:=tM fun (p:κ×V) (q:κ×aH)=>p.1=q.1/\RelV p.2 q.2
def kV:Key->V
 | .inl i=>.int i
 | .inr x=>.str x
inductive HO where
 | lst (xs:List V)
 | tup (xs:List V)
 | dK (kvs:List (Key×V)) | dT (kvs:List (List Key×V))
 | set (S:Int->Bool) (n:Nat)
 | ins (C dx:Addr) (fs:List (Str×V))
 | own (x:Addr)
 | xd (fs:List (Str×V))
 | met (f x:Addr)
 | rng (lo hi:Int)
 | frz (o:Obj) (u:HO)
 | tbl (ps:Array aH)
 | ext (φ:Heap->Prop)
noncomputable abbrev Hp:=Addr->Option HO
def upd(H:Hp)(a:Addr)(o:HO):Hp:=fun b=>if b=a then ξ o else H b
variable {H:Hp}{a:Addr}{o:HO}
theorem upd_same:upd H a o a=ξ o:=by unfold upd;rw[if_pos rfl]
variable {b:Addr}
theorem Bq(h:b≠a):upd H a o b=H b:=by unfold upd;rw[if_neg h]
theorem Alm{u:HO}(h:H a=ξ o)(h':H b=ξ u)(d:o≠u):a≠b:=by
 intro e;subst e;rw[h] at h';exact d (bS h')
theorem B4(h:H a=ξ o)(h':H b=ψ):a≠b:=by
 intro e;subst e;rw[h] at h';cases h'
def TupN(h:Heap)(a:Addr)(its:Array aH):Prop:=∃ o:Obj,h.get? a=ξ o/\(o.cls,o.dict)=(iK "tuple",(ψ:Option Addr))/\∃ n,o.data = .seq its n
variable {h:Heap}
theorem TupN.is{its:Array aH}(x:TupN h a its):h.IsTuple a its:=by
 obtain ⟨o,e,c,n,d⟩:=x;exact ⟨o,e,(sK c).1,n,d⟩
theorem TupN.new(h:Heap)(its:Array aH):TupN (h.push { cls:=.type "tuple",data:=.seq its }) h.objs.size its:=⟨_,aX _ rfl,rfl,0,rfl⟩
theorem TupN.lt{its:Array aH}(x:TupN h a its):a < h.objs.size:=by
 obtain ⟨o,e,_⟩:=x;exact aY e
section
variable (P:cC)(w:cM)
def ObjOk(H:Hp)(h:Heap)(a:Addr):HO->Prop
 | .lst xs=>xs.length<=sizeLine/\∃ (its:List aH) (n:Nat),Vals xs its/\h.get? a=ξ { cls:=.type "list",data:=.seq its.toArray n }
 | .tup xs=>xs.length<=sizeLine/\∃ its:List aH,Vals xs its/\TupN h a its.toArray
 | .dK kvs=>kvs.length<=sizeLine/\(a == sysModules)=false/\∃ vs,KV kvs vs/\h.DictOf (C9 P w) a vs
 | .dT kvs=>kvs.length<=sizeLine/\(a == sysModules)=false/\∃ xs:List Zdm,
   tM (fun (p:List Key×V) (q:List Key×Addr×aH)=>p.1=q.1/\H q.2.1=ξ (.tup (p.1.map kV))/\RelV p.2 q.2.2) kvs xs /\
   ∃ o es ep,h.get? a=ξ o/\o.ExactDict/\o.data = .dict es ep/\es.toList=xs.map (entryOfKey (tupleKind (C9 P w)))/\(xs.map (·.1)).Nodup
 | .set S n=>h.SetOf (intKind P w) a S n
 | .ins C dx fs=>H dx=ξ (.own a)/\fs.length<=1000/\dx≠a/\h.get? a=ξ (gF C dx) /\
   ∃ mA,h.Ns1 dx mA/\(∀ f,RelO (fs.lookup f) (mA f))/\qQ mA (fs.map (·.1))
 | .own _=>∃ o,h.get? a=ξ o
 | .xd fs=>∃ mA,h.Ns1 a mA/\∀ f,RelO (fs.lookup f) (mA f)
 | .rng lo hi=>∃ t u v,h.get? a=ξ { cls:=.type "range",data:=.fields #[.int lo t,.int hi u,.int 1 v] }
 | .frz o u=>h.get? a=ξ o/\ObjOk H h a u
 | .tbl ps=>h.get? a=ξ { cls:=.none,data:=.fields ps }
 | .met f x=>h.get? a=ξ (mV (.ref f) (.ref x))
 | .ext φ=>φ h/\(∃ o,h.get? a=ξ o)/\∀ h1 h2:Heap,φ h1->(∀ o,h1.get? a=ξ o->h2.get? a=ξ o)->φ h2
def HOk(H:Hp)(h:Heap):Prop:=∀ a o,H a=ξ o->ObjOk P w H h a o
end
variable {P:cC}{w:cM}{H':Hp}{h':Heap}
section
theorem ObjOk.lt(x:ObjOk P w H h a o):a < h.objs.size:=by
 cases o with
 | lst xs=>obtain ⟨_,_,_,_,e⟩:=x;exact aY e
 | tup xs=>obtain ⟨_,_,_,p⟩:=x;exact p.lt
 | dK kvs=>obtain ⟨_,_,_,_,o,_,_,e,_⟩:=x;exact aY e
 | dT kvs=>obtain ⟨_,_,_,_,o,_,_,e,_⟩:=x;exact aY e
 | set S n=>obtain ⟨o,_,_,_,e,_⟩:=x;exact aY e
 | ins C dx fs=>obtain ⟨_,_,_,e,_⟩:=x;exact aY e
 | own y=>obtain ⟨_,e⟩:=x;exact aY e
 | xd fs=>obtain ⟨_,⟨_,_,_,e,_⟩,_⟩:=x;exact aY e
 | rng lo hi=>obtain ⟨_,_,_,e⟩:=x;exact aY e
 | frz ob u=>obtain ⟨e,_⟩:=x;exact aY e
 | tbl ps=>exact aY (show h.get? a=ξ _ from x)
 | met f y=>exact aY (show h.get? a=ξ _ from x)
 | ext φ=>obtain ⟨_,⟨_,e⟩,_⟩:=x;exact aY e
theorem Paired.mapP{α β:Type}{F G:α->β->Prop}{l₁:List α}{l₂:List β}(h:tM F l₁ l₂)(f:∀ a b,F a b->G a b):tM G l₁ l₂:=by
 induction h with
 | nil=>exact .nil
 | cons r t ih=>exact .cons (f _ _ r) ih
theorem ObjOk.stay(x:ObjOk P w H h a o)(k:∀ b u,(b=a\/H b=ξ (.own a))->h.get? b=ξ u->h'.get? b=ξ u)
  (ho:∀ b,H b=ξ (.own a)->H' b=ξ (.own a)) (ht:∀ b xs,H b=ξ (.tup xs)->H' b=ξ (.tup xs)):ObjOk P w H' h' a o:=by
 induction o with
 | lst xs=>obtain ⟨z,its,n,r,e⟩:=x;exact ⟨z,its,n,r,k _ _ (.inl rfl) e⟩
 | tup xs=>obtain ⟨z,its,r,ob,e,c⟩:=x;exact ⟨z,its,r,ob,k _ _ (.inl rfl) e,c⟩
 | dK kvs=>obtain ⟨z,y,vs,r,ob,es,ep,e,c⟩:=x;exact ⟨z,y,vs,r,ob,es,ep,k _ _ (.inl rfl) e,c⟩
 | dT kvs=>
  obtain ⟨z,y,xs,r,ob,es,ep,e,c⟩:=x;exact ⟨z,y,xs,Paired.mapP r fun p q z=>⟨z.1,ht _ _ z.2.1,z.2.2⟩,ob,es,ep,k _ _ (.inl rfl) e,c⟩
 | set S n=>obtain ⟨ob,es,ep,t,e,c⟩:=x;exact ⟨ob,es,ep,t,k _ _ (.inl rfl) e,c⟩
 | ins C dx fs=>
  obtain ⟨d,z,ne,e,mA,⟨od,es,ep,e2,c⟩,r⟩:=x;exact ⟨ho _ d,z,ne,k _ _ (.inl rfl) e,mA,⟨od,es,ep,k _ _ (.inr d) e2,c⟩,r⟩
 | own y=>obtain ⟨ob,e⟩:=x;exact ⟨ob,k _ _ (.inl rfl) e⟩
 | xd fs=>obtain ⟨mA,⟨od,es,ep,e,c⟩,r⟩:=x;exact ⟨mA,⟨od,es,ep,k _ _ (.inl rfl) e,c⟩,r⟩
 | rng lo hi=>obtain ⟨t,u,v,e⟩:=x;exact ⟨t,u,v,k _ _ (.inl rfl) e⟩
 | frz ob u ih=>obtain ⟨e,q⟩:=x;exact ⟨k _ _ (.inl rfl) e,ih q⟩
 | tbl ps=>
  have e:h.get? a=ξ { cls:=.none,data:=.fields ps }:=x;show h'.get? a=ξ { cls:=.none,data:=.fields ps };exact k a _ (.inl rfl) e
 | met f y=>
  have e:h.get? a=ξ (mV (.ref f) (.ref y)):=x;show h'.get? a=ξ (mV (.ref f) (.ref y));exact k a _ (.inl rfl) e
 | ext φ=>obtain ⟨p,⟨o,e⟩,st⟩:=x;exact ⟨st _ _ p fun o q=>k _ _ (.inl rfl) q,⟨o,k _ _ (.inl rfl) e⟩,st⟩
theorem HOk.lt(x:HOk P w H h)(e:H a=ξ o):a < h.objs.size:=(x a o e).lt
theorem HOk.fresh(x:HOk P w H h)(e:h.objs.size<=a):H a=ψ:=by
 cases q:H a with
 | none=>rfl
 | some u=>exact absurd (bC (x.lt q) e) (eK _)
theorem HOk.kept(x:HOk P w H h)(k:∀ b u,h.get? b=ξ u->h'.get? b=ξ u):HOk P w H h':=fun a o e=>
 (x a o e).stay (fun b u _ q=>k b u q) (fun _ q=>q) fun _ _ q=>q
theorem HOk.laid(x:HOk P w H h)(k:∀ b u,h.get? b=ξ u->h'.get? b=ξ u)(hp:h.objs.size<=a)(new:ObjOk P w (upd H a o) h' a o):HOk P w (upd H a o) h':=fun b u e=>by
 have hn:=x.fresh hp;by_cases hb:b=a
 ·subst hb;rw[upd_same] at e;cases e;exact new
 ·rw[Bq hb] at e;exact (x b u e).stay (fun c v _ q=>k c v q) (fun c q=>by rw[Bq (B4 q hn)];exact q) fun c xs q=>by rw[Bq (B4 q hn)];exact q
end
def Rd(H:Hp)(a:Addr)(u:HO):Prop:=H a=ξ u\/∃ o,H a=ξ (.frz o u)
theorem Rd.of{u:HO}(h:H a=ξ u):Rd H a u:=.inl h
theorem Rd.ok{u:HO}(r:Rd H a u)(x:HOk P w H h):ObjOk P w H h a u:=by
 rcases r with r | ⟨o,r⟩
 ·exact x a u r
 ·obtain ⟨_,q⟩:=x a _ r;exact q
noncomputable def Mut:Option HO->Prop
 | some (.lst _)=>True
 | some (.dK _)=>True
 | some (.dT _)=>True
 | some (.set _ _)=>True
 | some (.ins _ _ _)=>True
 | some (.ext _)=>True
 | _=>False
section
variable {x e:Addr}{o':HO}
theorem HOk.write(ok:HOk P w H h)(mu:Mut (H x))(he:e=x\/H e=ξ (.own x))(k:∀ b u,b≠e->h.get? b=ξ u->h'.get? b=ξ u)(heo:∃ u,h'.get? e=ξ u)
  (new:ObjOk P w (upd H x o') h' x o'):HOk P w (upd H x o') h':=fun b u q=>by
 have nown:∀ c y,H c=ξ (.own y)->c≠x:=fun c y r z=>by subst z;rw[r] at mu;exact mu
 have ntup:∀ c xs,H c=ξ (.tup xs)->c≠x:=fun c xs r z=>by subst z;rw[r] at mu;exact mu
 by_cases hb:b=x
 ·subst hb;rw[upd_same] at q;cases q;exact new
 ·rw[Bq hb] at q;by_cases hbe:b=e
  ·have q':H b=ξ (.own x):=by
    rcases he with z | z
    ·exact absurd (hbe.trans z) hb
    ·rw[hbe];exact z
   rw[q] at q';cases q';obtain ⟨v,hv⟩:=heo;exact ⟨v,by rw[hbe];exact hv⟩
  ·refine (ok b u q).stay (fun c v hc r=>k c v ?_ r) (fun c r=>by rw[Bq (nown c b r)];exact r) fun c xs r=>by rw[Bq (ntup c xs r)];exact r
   rcases hc with rfl | hc
   ·exact hbe
   ·rintro rfl;rcases he with z | z
    ·exact nown c b hc z
    ·rw[hc] at z;cases z;exact hb rfl
end
structure Un(fs ex:List Addr)(H H':Hp)(h h':Heap):Prop where
 keep:∀ b o,h.get? b=ξ o->H b=ψ->b∉fs->b∉ex->h'.get? b=ξ o
 slot:∀ b o,h.get? b=ξ o->H b=ψ->b∈fs->b∉ex->∃ sl,h'.get? b=ξ { o with slots:=sl }
 free:∀ b o,h.get? b=ξ o->H b=ψ->b∉ex->H' b=ψ
 there:∀ b o,h.get? b=ξ o->b∉ex->∃ o',h'.get? b=ξ o'
 tups:∀ b xs,H b=ξ (.tup xs)->H' b=ξ (.tup xs)
 frzs:∀ b o u,H b=ξ (.frz o u)->H' b=ξ (.frz o u)
 tbls:∀ b ps,H b=ξ (.tbl ps)->∃ more,H' b=ξ (.tbl (ps++more))
section
variable {fs fs' ex ex':List Addr}{H1 H2:Hp}{h1 h2:Heap}{x e:Addr}
theorem Un.any(u:Un fs ex H H1 h h1){ob:Obj}(q:h.get? b=ξ ob)(n:H b=ψ)(hx:b∉ex):∃ sl,h1.get? b=ξ { ob with slots:=sl }:=by
 by_cases hb:b∈fs
 ·exact u.slot b ob q n hb hx
 ·exact ⟨ob.slots,u.keep b ob q n hb hx⟩
theorem Un.trans(a:Un fs ex H H1 h h1)(b:Un fs ex H1 H2 h1 h2):Un fs ex H H2 h h2 where
 keep:=fun c ob q n hc hx=>b.keep c ob (a.keep c ob q n hc hx) (a.free c ob q n hx) hc hx
 slot:=fun c ob q n hc hx=>by
  obtain ⟨sl,e1⟩:=a.slot c ob q n hc hx;obtain ⟨sl',e2⟩:=b.slot c _ e1 (a.free c ob q n hx) hc hx;exact ⟨sl',e2⟩
 free:=fun c ob q n hx=>by
  obtain ⟨o',e1⟩:=a.there c ob q hx;exact b.free c o' e1 (a.free c ob q n hx) hx
 there:=fun c ob q hx=>by
  obtain ⟨o',e1⟩:=a.there c ob q hx;exact b.there c o' e1 hx
 tups:=fun c xs q=>b.tups c xs (a.tups c xs q)
 frzs:=fun c ob xs q=>b.frzs c ob xs (a.frzs c ob xs q)
 tbls:=fun c ps q=>by
  obtain ⟨m1,e1⟩:=a.tbls c ps q;obtain ⟨m2,e2⟩:=b.tbls c _ e1;exact ⟨m1++m2,by rw[e2,qG]⟩
theorem Un.kept(k:∀ b u,h.get? b=ξ u->h'.get? b=ξ u):Un fs ex H H h h':=
 ⟨fun b ob q _ _ _=>k b ob q,fun b ob q _ _ _=>⟨ob.slots,k b ob q⟩,fun _ _ _ n _=>n,fun b ob q _=>⟨ob,k b ob q⟩,fun _ _ q=>q,fun _ _ _ q=>q,fun _ ps q=>⟨#[],by rw[q];simp⟩⟩
theorem Un.refl:Un fs ex H H h h:=Un.kept fun _ _ q=>q
theorem Un.laid(k:∀ b u,h.get? b=ξ u->h'.get? b=ξ u)(hp:h.objs.size<=a)(hn:H a=ψ):Un fs ex H (upd H a o) h h' where
 keep:=fun b u q _ _ _=>k b u q
 slot:=fun b u q _ _ _=>⟨u.slots,k b u q⟩
 free:=fun b u q n _=>by rw[Bq (cF (bC (aY q) hp))];exact n
 there:=fun b u q _=>⟨u,k b u q⟩
 tups:=fun b xs q=>by rw[Bq (B4 q hn)];exact q
 frzs:=fun b u xs q=>by rw[Bq (B4 q hn)];exact q
 tbls:=fun b ps q=>⟨#[],by rw[Bq (B4 q hn),q];simp⟩
theorem Un.write(mu:Mut (H x))(he:e=x\/H e=ξ (.own x))(k:∀ b u,b≠e->h.get? b=ξ u->h'.get? b=ξ u)(heo:∃ u,h'.get? e=ξ u):Un fs ex H (upd H x o) h h':=by
 have hx:∀ b,H b=ψ->b≠x:=fun b n z=>by subst z;rw[n] at mu;exact mu
 have hb:∀ b,H b=ψ->b≠e:=fun b n z=>by
  subst z;rcases he with r | r
  ·exact hx b n r
  ·rw[n] at r;cases r
 have hm:∀ b u,H b=ξ u->¬ Mut (ξ u)->b≠x:=fun b u q nm z=>by subst z;rw[q] at mu;exact nm mu
 refine ⟨fun b u q n _ _=>k b u (hb b n) q,fun b u q n _ _=>⟨u.slots,k b u (hb b n) q⟩,fun b u q n _=>by rw[Bq (hx b n)];exact n,fun b u q _=>?_,
  fun b xs q=>by rw[Bq (hm b _ q fun z=>z)];exact q,fun b u xs q=>by rw[Bq (hm b _ q fun z=>z)];exact q,fun b ps q=>⟨#[],by rw[Bq (hm b _ q fun z=>z),q];simp⟩⟩
 by_cases hbe:b=e
 ·subst hbe;exact heo
 ·exact ⟨u,k b u hbe q⟩
theorem Un.mono(u:Un fs ex H H1 h h1)(hs:∀ b∈fs,b∈fs')(hx:∀ b∈ex,b∈ex'):Un fs' ex' H H1 h h1:=
 ⟨fun b ob q n hb he=>u.keep b ob q n (fun z=>hb (hs b z)) fun z=>he (hx b z),fun _ _ q n _ he=>u.any q n fun z=>he (hx _ z),fun b ob q n he=>u.free b ob q n fun z=>he (hx b z),fun b ob q he=>u.there b ob q fun z=>he (hx b z),u.tups,u.frzs,u.tbls⟩
end
def trk(h:Heap)(H:Hp):List Addr:=(bM h.objs.size).filter fun a=>(H a).isSome
def Aa3(h:Heap)(H:Hp):Heap:=PySem.W.hideAll h (trk h H)
theorem Aim(h:Heap)(H:Hp):(Aa3 h H).objs.size=h.objs.size:=PySem.W.hideAll_size _ _
theorem Anb{o:Obj}(e:h.get? b=ξ o)(n:H b=ψ):(Aa3 h H).get? b=ξ o:=
 PySem.W.hideAll_get _ e fun hm=>by
  have q:(H b).isSome=true:=(cH.mp hm).2;rw[n] at q;simp at q
theorem Asq{o:Obj}(e:(Aa3 h H).get? b=ξ o):h.get? b=ξ o/\H b=ψ:=by
 have e':h.get? b=ξ o:=PySem.W.of_hideAll (trk h H) e;refine ⟨e',?_⟩;cases q:H b with
 | none=>rfl
 | some x=>
  have hm:b∈trk h H:=cH.mpr ⟨cL.mpr (aY e'),by simp[q]⟩;have z:(Aa3 h H).get? b=ψ:=PySem.W.hideAll_none (trk h H) hm;rw[z] at e;cases e
noncomputable def Ard(g h:Heap)(L:Addr):List (Addr×Obj):=(bM h.objs.size).filterMap fun a=>if a=L\/(g.get? a).isSome=true then ψ else (h.get? a).map fun o=>(a,o)
def rest(g h:Heap)(L d:Addr):List (Addr×Obj):=(Ard g h L).filter fun p=>decide (p.1≠d)
structure Mod(K:aF)(mg:Str->Option aH)(base:Heap):Prop where
 kin:K.In base
 glob:base.Ns bU mg
 blt:∃ mb,base.Ns qH mb/\∀ x:Str,x ≠ "__name__" -> mb x=iA x
 nolimit:base.NoLimit
structure Cx where
 prog:cC
 w:cM
 K:aF
 mg:Str->Option aH
 base:Heap
 A:eA
 N:List Str
 s₀:aN
 H₀:Hp
 env:Env
 outer:List Env
 stack:List Env
 ex:List Addr
 fn:Str->Bool
 calm:Bool
 pn:List (Addr×Obj)
 xe:aH->aN->Prop
noncomputable def frs(l:List Env):List Addr:=l.filterMap (·.frame)
abbrev Cx.fs(X:Cx):List Addr:=frs X.outer
def Vis(sc:mW)(x:Str):Prop:=sc.names.lookup x=ξ .local\/sc.names.lookup x=ξ .cell\/sc.names.lookup x=ξ .free
def Loc(sc:mW)(x:Str):Prop:=sc.names.lookup x=ξ .local\/sc.names.lookup x=ξ .cell
def A4j(env:Env)(h:Heap)(m:Str->Option aH)(x:Str)(u:aH):Prop:=
 (env.kindOf x=ξ .local/\m x=ξ u)\/((env.kindOf x=ξ .cell\/env.kindOf x=ξ .free)/\∃ c,env.cells.lookup x=ξ c/\h.IsCell c (ξ u))
structure Cx.Ok(X:Cx):Prop where
 mod:Mod X.K X.mg X.base
 kind:X.env.scope.kind = .function
 glob:X.env.globals=bU
 blt:X.env.builtins=qH
 above:X.s₀.heap.objs.size<=X.env.locals
 inj:∀ x y c,X.env.cells.lookup x=ξ c->X.env.cells.lookup y=ξ c->x=y
 has:∀ x,(X.env.kindOf x=ξ .cell\/X.env.kindOf x=ξ .free)->∃ c,X.env.cells.lookup x=ξ c
 cab:∀ x c,X.fn x=true->X.env.cells.lookup x=ξ c->X.s₀.heap.objs.size<=c
 hd:X.calm=true->X.A.handled=ψ
 frames:X.A.frames=ξ X.stack
 stk:X.stack=X.outer\/(X.stack=X.env::X.outer/\X.env.frame=ξ X.env.locals)
 exf:∀ b∈X.ex,b≠X.env.locals/\∀ x c,X.env.cells.lookup x=ξ c->c≠b
 bs:∀ b o,X.base.get? b=ξ o->X.s₀.heap.get? b=ξ o/\X.H₀ b=ψ
 bsz:X.base.objs.size<=X.s₀.heap.objs.size
 noex:∀ b o,X.base.get? b=ξ o->b∉X.ex
 exfs:∀ b∈X.ex,b∉X.fs
 funs:X.s₀.heap.FunFrames X.base X.outer
 frf:∀ b∈X.fs,X.H₀ b=ψ
structure Inv(X:Cx)(pins:List (Addr×Obj))(σ:List (Option V))(H:Hp)(s:aN):Prop where
 ok:X.Ok
 os:s.os=X.s₀.os
 bare:lY s.gens
 base:Un X.fs X.ex X.H₀ H X.s₀.heap s.heap
 loc:∃ m,s.heap.Ns X.env.locals m/\∀ (i:Nat) (x:Str) (v:V),X.N[i]? = ξ x->σ[i]? = ξ (ξ v)->Vis X.env.scope x->∃ u,RelV v u/\A4j X.env s.heap m x u
 cell:∀ x c,X.env.cells.lookup x=ξ c->∃ v,s.heap.IsCell c v
 free:H X.env.locals=ψ
 freeC:∀ x c,X.env.cells.lookup x=ξ c->H c=ψ
 pin:∀ p∈X.pn++pins,s.heap.get? p.1=ξ p.2/\H p.1=ψ/\p.1≠X.env.locals/\p.1∉X.fs/\∀ v,p.2.data≠.cell v
 hok:HOk X.prog X.w H s.heap
 len:σ.length=X.N.length
variable {x:Str}{X:Cx}{pins:List (Addr×Obj)}{s s':aN}{t' j:Nat}{ch:List Addr}{M:Model}{A:eA}{E:aH->aN->Prop}{v:V}
section
variable {σ:List (Option V)}
theorem Cx.Ok.nofr(ok:X.Ok){o:Obj}(e:X.base.get? b=ξ o):b∉X.fs:=fun hb=>by
 have:=(ok.funs.mem hb).1;rw[e] at this;cases this
theorem Inv.bs(I:Inv X pins σ H s):∀ b o,X.base.get? b=ξ o->s.heap.get? b=ξ o/\H b=ψ:=fun b o e=>
 ⟨I.base.keep b o (I.ok.bs b o e).1 (I.ok.bs b o e).2 (I.ok.nofr e) (I.ok.noex b o e),I.base.free b o (I.ok.bs b o e).1 (I.ok.bs b o e).2 (I.ok.noex b o e)⟩
theorem Inv.bk(I:Inv X pins σ H s):∀ b o,X.base.get? b=ξ o->s.heap.get? b=ξ o:=fun b o e=>(I.bs b o e).1
theorem Inv.mod(I:Inv X pins σ H s):Mod X.K X.mg X.base:=I.ok.mod
theorem Inv.kIn(I:Inv X pins σ H s):X.K.In s.heap:=I.ok.mod.kin.keeps I.bk
theorem Inv.nolimit(I:Inv X pins σ H s):s.heap.NoLimit:=I.ok.mod.nolimit.keeps I.bk
theorem Inv.fr(I:Inv X pins σ H s):∃ m,Fr X.base X.env.locals s.heap m:=
 let ⟨m,hn,_⟩:=I.loc
 ⟨m,hn,I.bk,bW I.ok.bsz I.ok.above⟩
theorem Inv.lt(I:Inv X pins σ H s):X.env.locals < s.heap.objs.size:=let ⟨_,hn,_⟩:=I.loc;hn.lt
theorem Inv.sz(I:Inv X pins σ H s):X.s₀.heap.objs.size<=s.heap.objs.size:=bW I.ok.above (jU I.lt)
theorem Inv.nofs(I:Inv X pins σ H s)(h:s.heap.objs.size<=a):a∉X.fs:=fun hb=>by
 obtain ⟨_,o,ho,_⟩:=I.ok.funs.mem hb;exact absurd (bC (aY ho) (bW I.sz h)) (eK _)
theorem Inv.cne(I:Inv X pins σ H s):∀ x c,X.env.cells.lookup x=ξ c->c≠X.env.locals:=fun x c e z=>by
 obtain ⟨v,o,ho,hd⟩:=I.cell x c e;obtain ⟨m,⟨o',es,ep,ho',hd',_⟩,_⟩:=I.loc;rw[z,ho'] at ho;cases ho;rw[hd'] at hd;cases hd
theorem Inv.funs(I:Inv X pins σ H s):s.heap.FunFrames X.base X.outer:=by
 have all:∀ (l:List Env),(∀ b∈frs l,b∈X.fs)->X.s₀.heap.FunFrames X.base l->s.heap.FunFrames X.base l:=by
  intro l;induction l with
  | nil=>intro _ _;trivial
  | cons env r ih=>
   intro hs hl;obtain ⟨hk,⟨L,o,hf,hn,ho,hd⟩,hr⟩:=hl;have hL:L∈X.fs:=hs L (by unfold frs;rw[lV,hf];exact aU)
   obtain ⟨sl,e⟩:=I.base.slot L o ho (I.ok.frf L hL) hL fun z=>I.ok.exfs L z hL
   exact ⟨hk,⟨L,_,hf,hn,e,hd⟩,ih (fun b hb=>hs b (by unfold frs;rw[lV,hf];exact aO _ hb)) hr⟩
 exact all X.outer (fun _ hb=>hb) I.ok.funs
theorem Inv.stack(I:Inv X pins σ H s):s.heap.FunFrames X.base X.stack:=by
 rcases I.ok.stk with e | ⟨e,hf⟩
 ·rw[e];exact I.funs
 ·rw[e];obtain ⟨m,hn,_⟩:=I.loc;refine .cons (by rw[I.ok.kind];decide) hf hn ?_ I.funs;exact Heap.get?_none_of_le (bW I.ok.bsz I.ok.above)
theorem Inv.stkSub(I:Inv X pins σ H s):∀ b∈frs X.stack,b∈X.env.locals::X.fs:=fun b hb=>by
 rcases I.ok.stk with e | ⟨e,hf⟩
 ·rw[e] at hb;exact aO _ hb
 ·rw[e] at hb;unfold frs at hb;rw[lV,hf] at hb;exact hb
theorem Inv.stkFree(I:Inv X pins σ H s):∀ b∈frs X.stack,H b=ψ:=fun b hb=>by
 rcases bG.mp (I.stkSub b hb) with e | hb
 ·rw[e];exact I.free
 ·obtain ⟨_,o,ho,_⟩:=I.ok.funs.mem hb;exact I.base.free b o ho (I.ok.frf b hb) fun z=>I.ok.exfs b z hb
theorem Inv.step{g':Array nL}{d':Drawn}(I:Inv X pins σ H s)
  (hch:∀ b∈ch,Zcq/\b≠X.env.locals/\(∀ x c,X.env.cells.lookup x=ξ c->c≠b)/\∀ p∈X.pn++pins,p.1≠b)
  (keep:∀ b o,b≠X.env.locals->b∉X.fs->b∉ch->s.heap.get? b=ξ o->H b=ψ->h'.get? b=ξ o)
  (slot:∀ b o,b≠X.env.locals->b∈X.fs->b∉ch->s.heap.get? b=ξ o->H b=ψ->∃ sl,h'.get? b=ξ { o with slots:=sl }) (free:∀ b o,b∉ch->s.heap.get? b=ξ o->H b=ψ->H' b=ψ)
  (there:∀ b o,b∉ch->s.heap.get? b=ξ o->∃ o',h'.get? b=ξ o')
  (tups:∀ b xs,H b=ξ (.tup xs)->H' b=ξ (.tup xs)) (frzs:∀ b o u,H b=ξ (.frz o u)->H' b=ξ (.frz o u)) (tbls:∀ b ps,H b=ξ (.tbl ps)->∃ more,H' b=ξ (.tbl (ps++more)))
  (ns:∀ m,s.heap.Ns X.env.locals m->h'.Ns X.env.locals m) (hok:HOk X.prog X.w H' h') (hg:lY g') :
  Inv X pins σ H' { s with heap:=h',gens:=g',drawn:=d',toks:=t' }:=by
 have neL:∀ b o,X.s₀.heap.get? b=ξ o->b≠X.env.locals:=fun b o e=>cF Zc0
 have neC:∀ b o,X.s₀.heap.get? b=ξ o->b∉X.ex->b∉ch:=fun b o e hx hb=>by
  rcases (hch b hb).1 with z | z
  ·exact hx z
  ·exact absurd (bC (aY e) z) (eK _)
 have cellK:∀ x c,X.env.cells.lookup x=ξ c->∀ v,s.heap.IsCell c v->h'.IsCell c v:=fun x c e v zz=>by
  obtain ⟨o,ho,hd⟩:=zz;have nch:c∉ch:=fun z=>(hch c z).2.2.1 x c e rfl
  by_cases hc:c∈X.fs
  ·obtain ⟨sl,q⟩:=slot c o (I.cne x c e) hc nch ho (I.freeC x c e);exact ⟨_,q,hd⟩
  ·exact ⟨o,keep c o (I.cne x c e) hc nch ho (I.freeC x c e),hd⟩
 refine ⟨I.ok,I.os,hg,⟨fun b o e n hb hx=>?_,fun b o e n hb hx=>?_,fun b o e n hx=>?_,fun b o e hx=>?_,fun b xs e=>tups b xs (I.base.tups b xs e),fun b o xs e=>frzs b o xs (I.base.frzs b o xs e),fun b ps e=>?_⟩,?_,fun x c e=>?_,?_,fun x c e=>?_,fun p hp=>?_,hok,I.len⟩
 ·exact keep b o (neL b o e) hb (neC b o e hx) ZdD Zd5
 ·obtain ⟨sl,e1⟩:=I.base.slot b o e n hb hx;obtain ⟨sl',e2⟩:=slot b _ (neL b o e) hb (neC b o e hx) e1 Zd5;exact ⟨sl',e2⟩
 ·obtain ⟨o',e1⟩:=I.base.there b o e hx;exact free b o' (neC b o e hx) e1 Zd5
 ·obtain ⟨o',e1⟩:=I.base.there b o e hx;exact there b o' (neC b o e hx) e1
 ·obtain ⟨m1,e1⟩:=I.base.tbls b ps e;obtain ⟨m2,e2⟩:=tbls b _ e1;exact ⟨m1++m2,by rw[e2,qG]⟩
 ·obtain ⟨m,hn,hl⟩:=I.loc;refine ⟨m,ns m hn,fun i x v e1 e2 e3=>?_⟩;obtain ⟨u,r,l⟩:=hl i x v e1 e2 e3;refine ⟨u,r,?_⟩;rcases l with l | ⟨k,c,e,z⟩
  ·exact .inl l
  ·exact .inr ⟨k,c,e,cellK x c e _ z⟩
 ·obtain ⟨v,z⟩:=I.cell x c e;exact ⟨v,cellK x c e v z⟩
 ·obtain ⟨m,⟨o,_,_,ho,_⟩,_⟩:=I.loc;exact free _ o (fun z=>(hch _ z).2.1 rfl) ho I.free
 ·obtain ⟨v,o,ho,hd⟩:=I.cell x c e;exact free c o (fun z=>(hch c z).2.2.1 x c e rfl) ho (I.freeC x c e)
 ·obtain ⟨e,n,ne,nf,d⟩:=I.pin p hp;have nch:p.1∉ch:=fun z=>(hch p.1 z).2.2.2 p hp rfl
  exact ⟨keep p.1 p.2 ne nf nch e n,free p.1 p.2 nch e n,ne,nf,d⟩
theorem Inv.un(I:Inv X pins σ H s)(u:Un X.fs [] H H' s.heap h')(hok:HOk X.prog X.w H' h'):Inv X pins σ H' { s with heap:=h',toks:=t' }:=by
 obtain ⟨m,⟨o,es,ep,ho,r⟩,_⟩:=id I.loc;obtain ⟨sl,hL⟩:=u.any ho I.free Za;exact I.step (g':=s.gens) (d':=s.drawn) (ch:=[]) (fun _ z=>nomatch z) (fun b o _ hb _ e n=>u.keep b o e n hb Za) (fun b o _ hb _ e n=>u.slot b o e n hb Za) (fun b o _ e n=>u.free b o e n Za) (fun b o _ e=>u.there b o e Za) u.tups u.frzs u.tbls (fun m' hm=>by
  obtain ⟨o',es',ep',ho',r'⟩:=hm;rw[ho] at ho';cases ho';exact ⟨_,es',ep',hL,r'⟩) hok I.bare
theorem Inv.call{g':Array nL}{d':Drawn}(I:Inv X pins σ H s)(u:Un (frs X.stack) ch H H' s.heap h')(hok:HOk X.prog X.w H' h')(hg:lY g')
  (hch:∀ b∈ch,Zcq/\b≠X.env.locals/\(∀ x c,X.env.cells.lookup x=ξ c->c≠b)/\∀ p∈X.pn++pins,p.1≠b) :
  Inv X pins σ H' { s with heap:=h',gens:=g',drawn:=d',toks:=t' }:=by
 obtain ⟨m,⟨o,es,ep,ho,r⟩,_⟩:=id I.loc;obtain ⟨sl,hL⟩:=u.any ho I.free fun z=>(hch _ z).2.1 rfl
 exact I.step (ch:=ch) hch (fun b o hL hb hc e n=>u.keep b o e n (fun z=>(bG.mp (I.stkSub b z)).elim hL hb) hc) (fun b o _ _ hc e n=>u.any e n hc) (fun b o hc e n=>u.free b o e n hc) (fun b o hc e=>u.there b o e hc) u.tups u.frzs u.tbls (fun m' hm=>by
  obtain ⟨o',es',ep',ho',r'⟩:=hm;rw[ho] at ho';cases ho';exact ⟨_,es',ep',hL,r'⟩) hok hg
theorem Inv.turned{it:Addr}(I:Inv X pins σ H s)(k:∀ b o,b≠it->s.heap.get? b=ξ o->h'.get? b=ξ o)(hn:H it=ψ)(hL:it≠X.env.locals)
  (h1:it∈X.ex\/X.s₀.heap.objs.size<=it) (h2:∀ x c,X.env.cells.lookup x=ξ c->c≠it) (h3:∀ p∈X.pn++pins,p.1≠it):Inv X pins σ H { s with heap:=h',toks:=t' }:=by
 have nit:∀ b u,H b=ξ u->b≠it:=fun b u e z=>by rw[z,hn] at e;cases e
 refine I.step (g':=s.gens) (d':=s.drawn) (ch:=[it]) (fun b hb=>?_) (fun b o _ _ hc e _=>k b o ZaJ e) (fun b o _ _ hc e _=>⟨o.slots,k b o ZaJ e⟩) (fun _ _ _ _ n=>n)
  (fun b o hc e=>⟨o,k b o ZaJ e⟩) (fun _ _ e=>e) (fun _ _ _ e=>e) (fun b ps e=>⟨#[],by rw[e];simp⟩) (fun m hm=>?_) (fun b u e=>?_) I.bare
 ·have e:b=it:=by simpa using hb
  subst e;exact ⟨h1,hL,h2,h3⟩
 ·obtain ⟨o,es,ep,ho,r⟩:=hm;exact ⟨o,es,ep,k _ o (gY hL) ho,r⟩
 ·refine (I.hok b u e).stay (fun c v hc q=>k c v ?_ q) (fun _ q=>q) fun _ _ q=>q
  rcases hc with z | z
  ·rw[z];exact nit b u e
  ·exact nit c _ z
theorem Inv.tok(I:Inv X pins σ H s)(t:Nat):Inv X pins σ H { s with toks:=t }:=I.un (h':=s.heap) (t':=t) Un.refl I.hok
theorem Inv.kept(I:Inv X pins σ H s)(k:∀ b u,s.heap.get? b=ξ u->h'.get? b=ξ u):Inv X pins σ H { s with heap:=h',toks:=t' }:=I.un (Un.kept k) (I.hok.kept k)
theorem Inv.laid(I:Inv X pins σ H s)(k:∀ b u,s.heap.get? b=ξ u->h'.get? b=ξ u)(hp:s.heap.objs.size<=a)(new:ObjOk X.prog X.w (upd H a o) h' a o) :
  Inv X pins σ (upd H a o) { s with heap:=h',toks:=t' }:=I.un (Un.laid k hp (I.hok.fresh hp)) (I.hok.laid k hp new)
theorem Inv.write{x e:Addr}(I:Inv X pins σ H s)(mu:Mut (H x))(he:e=x\/H e=ξ (.own x))(k:∀ b u,b≠e->s.heap.get? b=ξ u->h'.get? b=ξ u)(heo:∃ u,h'.get? e=ξ u)
  (new:ObjOk X.prog X.w (upd H x o) h' x o):Inv X pins σ (upd H x o) { s with heap:=h',toks:=t' }:=I.un (Un.write mu he k heo) (I.hok.write mu he k heo new)
theorem Inv.pins_of{pins':List (Addr×Obj)}(I:Inv X pins σ H s)(h:∀ p∈pins',s.heap.get? p.1=ξ p.2/\H p.1=ψ/\p.1≠X.env.locals/\p.1∉X.fs/\∀ v,p.2.data≠.cell v):Inv X pins' σ H s:=
 ⟨I.ok,I.os,I.bare,I.base,I.loc,I.cell,I.free,I.freeC,fun p hp=>(cT.mp hp).elim (fun z=>I.pin p (eU _ z)) (h p),I.hok,I.len⟩
theorem Ab9{N:List Str}(hN:N.Nodup)(a:N[i]? = ξ x)(b:N[j]? = ξ x):i=j:=by
 obtain ⟨h1,e1⟩:=aQ.mp a;obtain ⟨h2,e2⟩:=aQ.mp b;exact (nM hN).mp (e1.trans e2.symm)
theorem Ake{Q:Unit->aN->Prop}(I:Inv X pins σ H s)(hN:X.N.Nodup)(hi:X.N[i]? = ξ x)(hx:Loc X.env.scope x)(r:RelV v u)
  (h:∀ s',Inv X pins Zee H s'->(∃ a,iV a s.heap s'.heap/\(a=X.env.locals\/X.env.cells.lookup x=ξ a))->Q () s') (hf:X.fn x=true\/X.env.scope.names.lookup x=ξ .local:=by first | exact .inl rfl | exact .inr rfl | assumption):wpAny M A (storeName X.env x u) Q E s:=by
 obtain ⟨m,hn,hl⟩:=id I.loc;have hcls:(X.env.scope.kind == .class || (X.env.scope.kind == .module&&X.env.locals != X.env.globals))=false:=by rw[I.ok.kind];rfl
 have hiσ:i < σ.length:=by rw[I.len];exact (aQ.mp hi).1
 have cne:=I.cne;have tracked:∀ {a:Addr} {h':Heap},(∃ o,s.heap.get? a=ξ o/\H a=ψ)->iV a s.heap h'->HOk X.prog X.w H h':=fun {a h'} ha hs b ob e=>by
  obtain ⟨_,_,hfree⟩:=ha;refine (I.hok b ob e).stay (fun c w' hc q=>(hs.2 c ?_).trans q) (fun _ q=>q) fun _ _ q=>q
  rintro rfl;rcases hc with rfl | hc
  ·rw[hfree] at e;cases e
  ·rw[hfree] at hc;cases hc
 rcases hx with hk | hk
 ·refine wpAny_storeName_local hk hn (fun h' hn' hs=>?_) hcls;obtain ⟨oL,_,_,hoL,_⟩:=id hn;refine h _ ⟨I.ok,I.os,I.bare,⟨fun b o e n hb hx=>?_,fun b o e n hb hx=>?_,I.base.free,fun b o e hx=>?_,I.base.tups,I.base.frzs,I.base.tbls⟩,⟨_,hn',fun j y v' e1 e2 e3=>?_⟩,fun y c e=>?_,I.free,I.freeC,fun p hp=>?_,tracked ⟨oL,hoL,I.free⟩ hs,by simpa using I.len⟩ ⟨_,hs,.inl rfl⟩
  ·exact (hs.2 b (cF Zc0)).trans ZdD
  ·obtain ⟨sl,e1⟩:=I.base.slot b o e n hb hx;exact ⟨sl,(hs.2 b (cF Zc0)).trans e1⟩
  ·obtain ⟨o',e1⟩:=I.base.there b o e hx;exact ⟨o',(hs.2 b (cF Zc0)).trans e1⟩
  ·by_cases hj:j=i
   ·subst hj;rw[hi] at e1;cases e1;rw[bX hiσ] at e2;cases e2;exact ⟨u,r,.inl ⟨hk,Za⟩⟩
   ·rw[cJ (gY hj)] at e2;obtain ⟨u',r',q⟩:=hl j y v' e1 e2 e3;refine ⟨u',r',?_⟩;rcases q with ⟨k,e⟩ | ⟨k,c,e,z⟩
    ·refine .inl ⟨k,?_⟩;have:y≠x:=fun e=>hj (Ab9 hN e1 (e ▸ hi))
     simp[this,e]
    ·exact .inr ⟨k,c,e,z.sameBut hs (cne y c e)⟩
  ·obtain ⟨w',z⟩:=I.cell y c e;exact ⟨w',z.sameBut hs (cne y c e)⟩
  ·obtain ⟨e,n,ne,nf,d⟩:=I.pin p hp;exact ⟨(hs.2 p.1 ne).trans e,n,ne,nf,d⟩
 ·have hfn:X.fn x=true:=by
   rcases hf with z | z
   ·exact z
   ·rw[z] at hk;cases hk
  obtain ⟨c,hc⟩:=I.ok.has x (.inl hk);obtain ⟨w',z⟩:=I.cell x c hc;refine wpAny_storeName_cell I.ok.kind hk hc z (fun h' hc' hs=>?_);obtain ⟨oc,hoc,hocd⟩:=id z;refine h { s with heap:=h' } ⟨I.ok,I.os,I.bare,⟨fun b o e n hb hx=>?_,fun b o e n hb hx=>?_,I.base.free,fun b o e hx=>?_,I.base.tups,I.base.frzs,I.base.tbls⟩,⟨m,hn.sameBut hs (gY (cne x c hc)),fun j y v' e1 e2 e3=>?_⟩,fun y c' e=>?_,I.free,I.freeC,fun p hp=>?_,tracked ⟨oc,hoc,I.freeC x c hc⟩ hs,by simpa using I.len⟩ ⟨c,hs,.inr hc⟩
  ·exact (hs.2 b Zb9).trans ZdD
  ·obtain ⟨sl,e1⟩:=I.base.slot b o e n hb hx;exact ⟨sl,(hs.2 b Zb9).trans e1⟩
  ·obtain ⟨o',e1⟩:=I.base.there b o e hx;exact ⟨o',(hs.2 b Zb9).trans e1⟩
  ·by_cases hj:j=i
   ·subst hj;rw[hi] at e1;cases e1;rw[bX hiσ] at e2;cases e2;exact ⟨u,r,.inr ⟨.inl hk,c,hc,hc'⟩⟩
   ·rw[cJ (gY hj)] at e2;obtain ⟨u',r',q⟩:=hl j y v' e1 e2 e3;refine ⟨u',r',?_⟩;rcases q with q | ⟨k,c',e,z'⟩
    ·exact .inl q
    ·refine .inr ⟨k,c',e,z'.sameBut hs ?_⟩;rintro rfl;exact hj (Ab9 hN e1 (I.ok.inj _ _ _ e hc ▸ hi))
  ·by_cases hcc:c'=c
   ·subst hcc;exact ⟨_,hc'⟩
   ·obtain ⟨w2,z2⟩:=I.cell y c' e;exact ⟨w2,z2.sameBut hs hcc⟩
  ·obtain ⟨e,n,ne,nf,d⟩:=I.pin p hp;refine ⟨(hs.2 p.1 ?_).trans e,n,ne,nf,d⟩;intro q;rw[q,hoc] at e;have q':oc=p.2:=bS e;exact d w' (by rw[<- q'];exact hocd)
theorem Adk{Q:Unit->aN->Prop}(I:Inv X pins σ H s)(hN:X.N.Nodup)(hi:X.N[i]? = ξ x)(hx:Loc X.env.scope x)(r:RelV v u)
  (h:∀ s',Inv X pins Zee H s'->Q () s') (hf:X.fn x=true\/X.env.scope.names.lookup x=ξ .local:=by first | exact .inl rfl | exact .inr rfl | assumption):wpAny M A (storeName X.env x u) Q E s:=
 Ake I hN hi hx r (fun s' I' _=>h s' I') hf
theorem Inv.call'(I:Inv X pins σ H s)(ho:s'.os=s.os)(u:Un (frs X.stack) ch H H' s.heap s'.heap)(hok:HOk X.prog X.w H' s'.heap)(hg:lY s'.gens)
  (hch:∀ b∈ch,Zcq/\b≠X.env.locals/\(∀ x c,X.env.cells.lookup x=ξ c->c≠b)/\∀ p∈X.pn++pins,p.1≠b):Inv X pins σ H' s':=by
 obtain ⟨h',g',d',t',o'⟩:=s';have e:o'=s.os:=ho;subst e;exact I.call (g':=g') (t':=t') (d':=d') u hok hg hch
end
abbrev XK:=aH->Option Addr->Hp->Prop
noncomputable abbrev St:=List (Option V)
abbrev VK:=V->Hp->Prop
abbrev TE:=St->Hp->VK->Prop
abbrev TT:=St->Hp->(Bool->Hp->Prop)->Prop
abbrev TA:=St->Hp->(List V->Hp->Prop)->Prop
structure Ends where
 nx:St->Hp->Prop
 rt:VK
 bk:St->Hp->Prop:=fun _ _=>False
 ct:St->Hp->Prop:=fun _ _=>False
abbrev TS:=Ends->St->Hp->Prop
inductive EP(X:Cx)(pins:List (Addr×Obj))(σ:St)(Q:VK)(u:aH)(s':aN):Prop
 | mk (v:V) (H':Hp) (I:Inv X pins σ H' s') (r:RelV v u) (q:Q v H'):EP X pins σ Q u s'
inductive TP(X:Cx)(pins:List (Addr×Obj))(σ:St)(Q:Bool->Hp->Prop)(b:Bool)(s':aN):Prop
 | mk (H':Hp) (I:Inv X pins σ H' s') (q:Q b H'):TP X pins σ Q b s'
inductive AP(X:Cx)(pins:List (Addr×Obj))(σ:St)(Q:List V->Hp->Prop)(us:List aH)(s':aN):Prop
 | mk (vs:List V) (H':Hp) (I:Inv X pins σ H' s') (r:Vals vs us) (q:Q vs H'):AP X pins σ Q us s'
variable {σ:St}
theorem EP.elim{Q:VK}{C:Prop}(h:EP X pins σ Q u s')(k:∀ v H',Inv X pins σ H' s'->RelV v u->Q v H'->C):C:=h.rec k
theorem AP.elim{Q:List V->Hp->Prop}{C:Prop}(h:AP X pins σ Q us s')(k:∀ vs H',Inv X pins σ H' s'->Vals vs us->Q vs H'->C):C:=h.rec k
def SP(X:Cx)(pins:List (Addr×Obj))(D:Ends)(f:Flow)(s':aN):Prop:=
 match f with
 | .next=>∃ σ' H',Inv X pins σ' H' s'/\D.nx σ' H'
 | .brk=>∃ σ' H',Inv X pins σ' H' s'/\D.bk σ' H'
 | .cont=>∃ σ' H',Inv X pins σ' H' s'/\D.ct σ' H'
 | .ret u=>∃ v σ' H',Inv X pins σ' H' s'/\RelV v u/\D.rt v H'
def PE(X:Cx)(e:Expr)(t:TE):Prop:=
 ∀ (pins:List (Addr×Obj)) (s:aN) (σ:St) (H:Hp) (Q:VK),Inv X pins σ H s->t σ H Q->wpAny Zf X.A Zc7 Zaj X.xe s
def PT(X:Cx)(e:Expr)(t:TT):Prop:=
 ∀ (pins:List (Addr×Obj)) (s:aN) (σ:St) (H:Hp) (Q:Bool->Hp->Prop),Inv X pins σ H s->t σ H Q->wpAny Zf X.A (isTrue e X.env Zc7) (TP X pins σ Q) X.xe s
def PW(X:Cx)(e:Expr)(t:TT):Prop:=
 ∀ (whole:Sem aH) (pins:List (Addr×Obj)) (s:aN) (σ:St) (H:Hp) (Q:Bool->Hp->Prop),Inv X pins σ H s->t σ H Q->wpAny Zf X.A (isTrue e X.env whole) (TP X pins σ Q) X.xe s
variable {e:Expr}
theorem PW.pt{t:TT}(h:PW X e t):PT X e t:=h _
def PA(X:Cx)(es:List Expr)(t:TA):Prop:=
 ∀ (pos:Pos) (pins:List (Addr×Obj)) (s:aN) (σ:St) (H:Hp) (Q:List V->Hp->Prop),Inv X pins σ H s->t σ H Q->wpAny Zf X.A (spliced (backTo pos Zat)) (AP X pins σ Q) X.xe s
def PS(X:Cx)(st:Stmt)(t:TS):Prop:=
 ∀ (pins:List (Addr×Obj)) (s:aN) (σ:St) (H:Hp) (D:Ends),Inv X pins σ H s->t D σ H->wpAny Zf X.A (exec st X.env) (SP X pins D) X.xe s
def PSs(X:Cx)(st:List Stmt)(t:TS):Prop:=
 ∀ (pins:List (Addr×Obj)) (s:aN) (σ:St) (H:Hp) (D:Ends),Inv X pins σ H s->t D σ H->wpAny Zf X.A (execs st X.env) (SP X pins D) X.xe s
theorem thn{α:Type}{t:Sem α}{Q Q':α->aN->Prop}(h:wpAny M A t Q E s)(hQ:∀ a s,Q a s->Q' a s):wpAny M A t Q' E s:=eR h hQ fun _ _ x=>x
variable {Q:aH->aN->Prop}{pos:Pos}{ta tb:TE}{c:Expr}
section
def A5c(i:Nat):TE:=fun σ H Q=>∃ v,σ[i]? = ξ (ξ v)/\Q v H
def tC(v:V):TE:=fun _ H Q=>Q v H
theorem Av4(hN:X.N[i]? = ξ x)(hv:Vis X.env.scope x)(hd:(x == ("__debug__" : Str))=false:=by decide)(hcd:(x == ("__classdict__" : Str))=false:=by decide):PE X ZbR (A5c i):=by
 intro pins s σ H Q I h;obtain ⟨v,e,h⟩:=h;obtain ⟨m,hn,hl⟩:=I.loc;obtain ⟨u,r,l⟩:=hl i x v hN e hv;have fin:EP X pins σ Q u s:=⟨v,H,I,r,h⟩;rcases l with ⟨hk,hm⟩ | ⟨hk,c,hc,hcell⟩
 ·exact tN (wpAny_loadName_local I.ok.kind hk hn hm fin) hd
 ·rcases hk with hk | hk
  ·exact tN (wpAny_loadName_cell I.ok.kind hk hc hcell fin) hd
  ·exact tN (wpAny_loadName_free I.ok.kind hk hc hcell fin hcd) hd
theorem Axn{i j pos}:PE X (.Constant (.int i) j pos) (tC (.int i)):=fun _ _ _ H _ I h=>wpAny_Constant_int ⟨.int i,H,I.tok _,⟨_,rfl⟩,h⟩
theorem A08{b j pos}:PE X (.Constant (.bool b) j pos) (tC (.bl b)):=fun _ _ _ H _ I h=>Constant_bool ⟨.bl b,H,I,rfl,h⟩
theorem Aw1{j pos}:PE X (.Constant .none j pos) (tC .non):=fun _ _ _ H _ I h=>Constant_none ⟨.non,H,I,rfl,h⟩
theorem Awj{x j pos}:PE X (.Constant (.str x) j pos) (tC (.str x)):=fun _ _ _ H _ I h=>Calls.Constant_str ⟨.str x,H,I.tok _,⟨_,rfl⟩,h⟩
def Gl(X:Cx)(x:Str):Prop:=X.env.kindOf x=ξ .globalImplicit
theorem Uw(I:Inv X pins σ H s)(hg:Gl X x)(hm:X.mg x=ξ u)(h:Q u s)
  (hd:(x == ("__debug__" : Str))=false:=by decide):wpAny Zf X.A (eval ZbR X.env) Q E s:=
 mH I.ok.kind hg (Calls.loadGlobal_global (by rw[I.ok.glob];exact I.mod.glob.keeps I.bk) hm h) hd
theorem P7(I:Inv X pins σ H s)(hg:Gl X x)(hm:X.mg x=ψ)(hv:iA x=ξ u)(h:Q u s)
  (hn:x ≠ "__name__" := by decide) (hd:(x == ("__debug__" : Str))=false:=by decide):wpAny Zf X.A (eval ZbR X.env) Q E s:=by
 obtain ⟨mb,h1,h2⟩:=I.mod.blt;exact mH I.ok.kind hg (Calls.loadGlobal_builtin (by rw[I.ok.glob];exact I.mod.glob.keeps I.bk) hm (by rw[I.ok.blt];exact h1.keeps I.bk) ((h2 x hn).trans hv) h) hd
theorem Uh(hg:Gl X x)(hm:X.mg x=ξ u)(r:RelV v u)(hd:(x == ("__debug__" : Str))=false:=by decide):PE X ZbR (tC v):=
 fun _ _ _ H _ I h=>Uw I hg hm ⟨v,H,I,r,h⟩ hd
variable {a b:Expr}
variable {tA tB':TT}{rest:List Expr}
def A3f(t u:TT):TT:=fun σ H Q=>t σ H fun c H1=>if c=true then u σ H1 Q else Q false H1
def tOr(t u:TT):TT:=fun σ H Q=>t σ H fun c H1=>if c=true then Q true H1 else u σ H1 Q
def A5e(t:TT):TT:=fun σ H Q=>t σ H fun c H1=>Q (!c) H1
theorem Aq2(ha:PT X a tA):PW X (.BoolOp .And [a] pos) tA:=by
 intro wh pins s σ H Q I h;refine isTrue_and (thn (ha pins s σ H Q I h) fun c s1 e=>?_);cases c with
 | true=>exact isTrue_and_nil e
 | false=>exact e
theorem Awg(ha:PT X a tA):PW X (.BoolOp .Or [a] pos) tA:=by
 intro wh pins s σ H Q I h;refine isTrue_or (thn (ha pins s σ H Q I h) fun c s1 e=>?_);cases c with
 | false=>exact isTrue_or_nil e
 | true=>exact e
theorem Awb(ha:PT X a tA)(hb:PW X ZbZ tB'):PW X ZbH (A3f tA tB'):=by
 intro wh pins s σ H Q I h;refine isTrue_and (thn ZU fun c s1 zz=>?_);obtain ⟨H1,I1,q1⟩:=zz;cases c with
 | true=>exact hb wh pins s1 σ H1 Q I1 q1
 | false=>exact ⟨H1,I1,q1⟩
theorem A1b(ha:PT X a tA)(hb:PW X Zb4 tB'):PW X ZbP (tOr tA tB'):=by
 intro wh pins s σ H Q I h;refine isTrue_or (thn ZU fun c s1 zz=>?_);obtain ⟨H1,I1,q1⟩:=zz;cases c with
 | true=>exact ⟨H1,I1,q1⟩
 | false=>exact hb wh pins s1 σ H1 Q I1 q1
theorem Avl(ha:PT X a tA):PT X (.UnaryOp .Not a pos) (A5e tA):=by
 intro pins s σ H Q I h;exact isTrue_not (thn (ha pins s σ H (fun c H1=>Q (!c) H1) I h) fun _ _ z=>z.rec fun H' I' q=>⟨H',I',q⟩)
def Ayz(ta tb:TE):TE:=fun σ H Q=>ta σ H fun x H1=>∃ c,x = .bl c/\if c=true then tb σ H1 Q else Q (.bl false) H1
def A4x(ta tb:TE):TE:=fun σ H Q=>ta σ H fun x H1=>∃ c,x = .bl c/\if c=true then Q (.bl true) H1 else tb σ H1 Q
theorem Avy{op}{t:TE}(h:PE X a t):PE X (.BoolOp op [a] pos) t:=fun pins s σ H Q I hw=>BoolOp_one (h pins s σ H Q I hw)
theorem Au2(ha:PE X a ta)(hb:PE X ZbZ tb):PE X ZbH (Ayz ta tb):=by
 intro pins s σ H Q I h;refine BoolOp_and (thn ZU fun v s1 zz=>?_);obtain ⟨x,H1,I1,r1,q1⟩:=zz;obtain ⟨c,rfl,q1⟩:=q1;cases r1;refine fA ?_;cases c with
 | true=>exact hb pins s1 σ H1 Q I1 q1
 | false=>exact ⟨.bl false,H1,I1,rfl,q1⟩
theorem A1i(ha:PE X a ta)(hb:PE X Zb4 tb):PE X ZbP (A4x ta tb):=by
 intro pins s σ H Q I h;refine BoolOp_or (thn ZU fun v s1 zz=>?_);obtain ⟨x,H1,I1,r1,q1⟩:=zz;obtain ⟨c,rfl,q1⟩:=q1;cases r1;refine fA ?_;cases c with
 | false=>exact hb pins s1 σ H1 Q I1 q1
 | true=>exact ⟨.bl true,H1,I1,rfl,q1⟩
def tIf(t:TT)(ta tb:TE):TE:=fun σ H Q=>t σ H fun c H1=>if c=true then ta σ H1 Q else tb σ H1 Q
theorem Am7(hc:PT X c tA)(ha:PE X a ta)(hb:PE X b tb):PE X (.IfExp c a b pos) (tIf tA ta tb):=by
 intro pins s σ H Q I h;refine wpAny_IfExp (thn (hc pins s σ H _ I h) fun d s1 zz=>?_);obtain ⟨H1,I1,q1⟩:=zz;cases d with
 | true=>exact ha pins s1 σ H1 Q I1 q1
 | false=>exact hb pins s1 σ H1 Q I1 q1
end
def SqL(K:aF)(H:Hp)(a:Addr)(xs:List V):Prop:=
 Rd H a (.lst xs) \/
  ∃ (o:Obj) (its:Array aH) (n:Nat),K.lookup a=ξ o/\o.cls = .type "list" /\ o.dict=ψ/\o.data = .seq its n/\its.size<=sizeLine/\Vals xs its.toList
def SqT(K:aF)(H:Hp)(a:Addr)(xs:List V):Prop:=
 Rd H a (.tup xs) \/
  ∃ (o:Obj) (its:Array aH) (n:Nat),K.lookup a=ξ o/\(o.cls,o.dict)=(iK "tuple",(ψ:Option Addr))/\o.data = .seq its n/\its.size<=sizeLine/\Vals xs its.toList
noncomputable def A5o:aH->Option V
 | .none=>ξ .non
 | .bool b=>ξ (.bl b)
 | .int i _=>ξ (.int i)
 | .str x _=>ξ (.str x)
 | .bytes b _=>ξ (.byt b)
 | .float b _=>ξ (.flt b)
 | .ref a=>ξ (.ref a)
 | .type n=>ξ (.ty n)
 | _=>ψ
theorem RelV.abs{x:V}(r:RelV x u):A5o u=ξ x:=by
 cases x with
 | non=>cases r;rfl
 | bl _=>cases r;rfl
 | int _=>obtain ⟨t,rfl⟩:=r;rfl
 | str _=>obtain ⟨t,rfl⟩:=r;rfl
 | byt _=>obtain ⟨t,rfl⟩:=r;rfl
 | flt _=>obtain ⟨t,rfl⟩:=r;rfl
 | ref _=>cases r;rfl
 | ty _=>cases r;rfl
variable {y:V}
theorem RelV.inj{x:V}(r:RelV x u)(q:RelV y u):x=y:=bS (r.abs.symm.trans q.abs)
theorem Vals.inj(h:Vals xs us)(h':Vals ys us):xs=ys:=by
 induction h generalizing ys with
 | nil=>cases h';rfl
 | cons r t ih=>
  cases h' with
  | cons r' t'=>rw[r.inj r',ih t']
variable {K:aF}
section
theorem SqL.of(h:H a=ξ (.lst xs)):SqL K H a xs:=.inl (.inl h)
theorem SqT.of(h:H a=ξ (.tup xs)):SqT K H a xs:=.inl (.inl h)
theorem Inv.list(I:Inv X pins σ H s)(h:SqL X.K H a xs):∃ its:List aH,Vals xs its/\PlainL s.heap a its.toArray/\xs.length<=sizeLine:=by
 rcases h with h | ⟨o,its,n,hk,hc,hd,hs,hz,r⟩
 ·obtain ⟨z,its,n,r,e⟩:=h.ok I.hok;exact ⟨its,r,⟨_,n,e,rfl,rfl,rfl⟩,z⟩
 ·refine ⟨its.toList,r,⟨o,n,I.kIn a o hk,hc,hd,by simpa using hs⟩,?_⟩;have e:=r.length;simp only[cN] at e;omega
theorem Inv.tupleN(I:Inv X pins σ H s)(h:SqT X.K H a xs):∃ its:List aH,Vals xs its/\TupN s.heap a its.toArray/\xs.length<=sizeLine:=by
 rcases h with h | ⟨o,its,n,hk,hc,hs,hz,r⟩
 ·obtain ⟨z,its,r,p⟩:=h.ok I.hok;exact ⟨its,r,p,z⟩
 ·refine ⟨its.toList,r,⟨o,I.kIn a o hk,hc,n,by simpa using hs⟩,?_⟩;have e:=r.length;simp only[cN] at e;omega
theorem Inv.tuple(I:Inv X pins σ H s)(h:SqT X.K H a xs):∃ its:List aH,Vals xs its/\IsTup s.heap a its.toArray/\xs.length<=sizeLine:=by
 obtain ⟨its,r,p,z⟩:=I.tupleN h;exact ⟨its,r,p.is,z⟩
theorem Inv.list_inj(I:Inv X pins σ H s)(h:SqL X.K H a xs)(h':SqL X.K H a ys):xs=ys:=by
 obtain ⟨its,r,⟨o,n,e,_,_,d⟩,_⟩:=I.list h;obtain ⟨its',r',⟨o',n',e',_,_,d'⟩,_⟩:=I.list h';rw[e] at e';cases e';rw[d] at d';injection d' with d1 _
 have:its=its':=by simpa using congrArg vL d1
 subst this;exact r.inj r'
theorem Inv.tuple_inj(I:Inv X pins σ H s)(h:SqT X.K H a xs)(h':SqT X.K H a ys):xs=ys:=by
 obtain ⟨its,r,⟨o,e,_,n,d⟩,_⟩:=I.tuple h;obtain ⟨its',r',⟨o',e',_,n',d'⟩,_⟩:=I.tuple h';rw[e] at e';cases e';rw[d] at d';injection d' with d1 _
 have:its=its':=by simpa using congrArg vL d1
 subst this;exact r.inj r'
end
noncomputable abbrev Cx.wish(X:Cx)(E:aH->aN->Prop):Cx:={ X with xe:=E }
abbrev Cx.nox(X:Cx):Cx:=X.wish fun _ _=>False
theorem Cx.Ok.wish(ok:X.Ok)(E:aH->aN->Prop):(X.wish E).Ok:=
 ⟨ok.mod,ok.kind,ok.glob,ok.blt,ok.above,ok.inj,ok.has,ok.cab,ok.hd,ok.frames,ok.stk,ok.exf,ok.bs,ok.bsz,ok.noex,ok.exfs,ok.funs,ok.frf⟩
theorem Cx.Ok.unwish(ok:(X.wish E).Ok):X.Ok:=
 ⟨ok.mod,ok.kind,ok.glob,ok.blt,ok.above,ok.inj,ok.has,ok.cab,ok.hd,ok.frames,ok.stk,ok.exf,ok.bs,ok.bsz,ok.noex,ok.exfs,ok.funs,ok.frf⟩
section
theorem Inv.wish(I:Inv X pins σ H s)(E:aH->aN->Prop):Inv (X.wish E) pins σ H s:=⟨I.ok.wish E,I.os,I.bare,I.base,I.loc,I.cell,I.free,I.freeC,I.pin,I.hok,I.len⟩
theorem Inv.unwish(I:Inv (X.wish E) pins σ H s):Inv X pins σ H s:=⟨I.ok.unwish,I.os,I.bare,I.base,I.loc,I.cell,I.free,I.freeC,I.pin,I.hok,I.len⟩
theorem SP.unwish{D:Ends}{f:Flow}(h:SP (X.wish E) pins D f s'):SP X pins D f s':=by
 cases f with
 | next=>obtain ⟨σ',H',I,q⟩:=h;exact ⟨σ',H',I.unwish,q⟩
 | brk=>obtain ⟨σ',H',I,q⟩:=h;exact ⟨σ',H',I.unwish,q⟩
 | cont=>obtain ⟨σ',H',I,q⟩:=h;exact ⟨σ',H',I.unwish,q⟩
 | ret u=>obtain ⟨v,σ',H',I,r,q⟩:=h;exact ⟨v,σ',H',I.unwish,r,q⟩
theorem PE.nox{t:TE}(h:PE X.nox e t):PE X e t:=fun pins s σ H Q I hw=>
 eR (h pins s σ H Q (I.wish _) hw) (fun _ _ zz=>by obtain ⟨v,H',I',r,q⟩:=zz;exact ⟨v,H',I'.unwish,r,q⟩) fun _ _ z=>dY z
theorem PT.nox{t:TT}(h:PT X.nox e t):PT X e t:=fun pins s σ H Q I hw=>
 eR (h pins s σ H Q (I.wish _) hw) (fun _ _ zz=>by obtain ⟨H',I',q⟩:=zz;exact ⟨H',I'.unwish,q⟩) fun _ _ z=>dY z
theorem PSs.nox{st:List Stmt}{t:TS}(h:PSs X.nox st t):PSs X st t:=fun pins s σ H D I hw=>
 eR (h pins s σ H D (I.wish _) hw) (fun _ _ q=>q.unwish) fun _ _ z=>dY z
end
variable {te:TE}
section
variable {st:Stmt}{rest:List Stmt}{t u:TS}
def Az1:TS:=fun D σ H=>D.nx σ H
def A33(t u:TS):TS:=fun D σ H=>t { D with nx:=u D } σ H
theorem Apu:PSs X [] Az1:=fun _ _ σ H _ I h=>lJ ⟨σ,H,I,h⟩
theorem Ak9(h1:PS X st t)(h2:PSs X rest u):PSs X (st::rest) (A33 t u):=by
 intro pins s σ H D I h;refine rQ (thn (h1 pins s σ H { D with nx:=u D } I h) fun f s1 q=>?_);cases f with
 | next=>
  obtain ⟨σ',H',I',q⟩:=q;exact h2 pins s1 σ' H' D I' q
 | ret v=>exact q
 | brk=>exact q
 | cont=>exact q
theorem Aps(h1:PS X st t):PSs X [st] t:=by
 intro pins s σ H D I h;refine rQ (thn (h1 pins s σ H D I h) fun f s1 q=>?_);cases f with
 | next=>exact lJ q
 | ret v=>exact q
 | brk=>exact q
 | cont=>exact q
theorem Inv.quiet(I:Inv X pins σ H s):interactive X.env=false:=by simp[interactive,I.ok.kind]
def A03(te:TE):TS:=fun D σ H=>te σ H fun _ H1=>D.nx σ H1
theorem Aqx(he:PE X e te)(hs:swapsWith e ψ pos.line X.env=pure false:=by rfl):PS X (.Expr e pos) (A03 te):=by
 intro pins s σ H D I h;exact wpAny_Expr_any (thn Zar fun v s1 zz=>by obtain ⟨x,H1,I1,r1,q1⟩:=zz;exact ⟨σ,H1,I1,q1⟩) I.quiet hs
def A4k(te:TE):TS:=fun D σ H=>te σ H D.rt
theorem Avp(he:PE X e te):PS X (.Return (ξ e) pos) (A4k te):=by
 intro pins s σ H D I h;exact wpAny_Return_some (thn Zar fun v s1 zz=>by obtain ⟨x,H1,I1,r1,q1⟩:=zz;exact ⟨x,σ,H1,I1,r1,q1⟩)
def A5h(c:TT)(t u:TS):TS:=fun D σ H=>c σ H fun b H1=>if b=true then t D σ H1 else u D σ H1
theorem A2r{a b:List Stmt}{tc:TT}(hc:PT X c tc)(ha:PSs X a t)(hb:PSs X b u):PS X (.If c a b pos) (A5h tc t u):=by
 intro pins s σ H D I h;refine wpAny_If (thn (hc pins s σ H _ I h) fun d s1 zz=>?_);obtain ⟨H1,I1,q1⟩:=zz;cases d with
 | true=>exact ha pins s1 σ H1 D I1 q1
 | false=>exact hb pins s1 σ H1 D I1 q1
def Au7:TS:=fun _ _ _=>False
theorem Alp:PS X st Au7:=fun _ _ _ _ _ _ h=>h.elim
end
abbrev TG:=V->St->Hp->(St->Hp->Prop)->Prop
abbrev TGs:=List V->St->Hp->(St->Hp->Prop)->Prop
def PG(X:Cx)(target:Expr)(t:TG):Prop:=
 ∀ (pins:List (Addr×Obj)) (s:aN) (σ:St) (H:Hp) (v:V) (u:aH) (Q:St->Hp->Prop),Inv X pins σ H s->RelV v u->t v σ H Q ->
  wpAny Zf X.A (assign target X.env u) (fun _ s'=>∃ σ' H',Inv X pins σ' H' s'/\Q σ' H') X.xe s
def PGs(X:Cx)(ts:List Expr)(t:TGs):Prop:=
 ∀ (pins:List (Addr×Obj)) (s:aN) (σ:St) (H:Hp) (vs:List V) (us:List aH) (Q:St->Hp->Prop),Inv X pins σ H s->Vals vs us->t vs σ H Q ->
  wpAny Zf X.A (assignInOrder ((assignEach ts X.env).map (·.2)) us) (fun _ s'=>∃ σ' H',Inv X pins σ' H' s'/\Q σ' H') X.xe s
abbrev Aw5:=V->V->V->Hp->(Hp->Prop)->Prop
def A1t(X:Cx)(t:Aw5):Prop:=
 ∀ (pins:List (Addr×Obj)) (s:aN) (σ:St) (H:Hp) (o i v:V) (ov iv u:aH) (Q:Hp->Prop),Inv X pins σ H s->RelV o ov->RelV i iv->RelV v u->t o i v H Q ->
  wpAny Zf X.A (setItem ov iv u) (fun _ s'=>∃ H',Inv X pins σ H' s'/\Q H') X.xe s
variable {es:List Expr}{k:Nat}{tg:Expr}
section
def Ab5(i:Nat):TG:=fun v σ H Q=>Q Zee H
theorem Aij(hN:X.N.Nodup)(hi:X.N[i]? = ξ x)(hx:Loc X.env.scope x)(hf:X.fn x=true\/X.env.scope.names.lookup x=ξ .local:=by first | exact .inl rfl | exact .inr rfl | assumption):PG X (.Name x pos) (Ab5 i):=by
 intro pins s σ H v u Q I r h;exact wpAny_assign_Name (Adk I hN hi hx r (fun s' I'=>⟨_,H,I',h⟩) hf)
def gNil:TGs:=fun vs σ H Q=>vs=[]/\Q σ H
def gCons(t:TG)(u:TGs):TGs:=fun vs σ H Q=>∃ v r,vs=v::r/\t v σ H fun σ' H'=>u r σ' H' Q
theorem Ark:PGs X [] gNil:=by
 intro pins s σ H vs us Q I r h;obtain ⟨e,h⟩:=h;subst e;cases r;exact assignInOrder_nil ⟨σ,H,I,h⟩
theorem Aox{t:TG}{u:TGs}(h1:PG X e t)(h2:PGs X es u)
  (hs:(assignEach (e::es) X.env).map (·.2)=assign e X.env::(assignEach es X.env).map (·.2):=by rfl):PGs X (e::es) (gCons t u):=by
 intro pins s σ H vs us Q I r h;obtain ⟨v,vr,e1,h⟩:=h;subst e1;cases r with
 | cons r rr=>
  rw[hs];refine assignInOrder_cons (thn (h1 pins s σ H _ _ _ I r h) fun _ s1 zz=>?_);obtain ⟨σ1,H1,I1,q1⟩:=zz;exact h2 pins s1 σ1 H1 _ _ Q I1 rr q1
def gTup(K:aF)(n:Nat)(t:TGs):TG:=fun v σ H Q=>∃ a xs,v = .ref a/\SqT K H a xs/\xs.length=n/\t xs σ H Q
theorem Aw7{t:TGs}{n:Nat}(hc:X.calm=true)(h:PGs X es t)
  (hn:(assignEach es X.env).length=n:=by rfl) (hst:(assignEach es X.env).findIdx? (·.1)=ψ:=by rfl):PG X Zef (gTup X.K n t):=by
 intro pins s σ H v u Q I r hw;obtain ⟨a,xs,e1,hq,hl,hw⟩:=hw;subst e1;cases r;obtain ⟨its,rv,ht,hz⟩:=I.tuple hq;refine assign_Tuple_tuple ZaM ht (by simp[hn,<- hl,rv.length]) hst fun h' hx=>?_
 have I1:Inv X pins σ H { s with heap:=h' }:=I.kept (t':=s.toks) fun b o e=>hx b o (cF (aY e)) e
 exact h pins _ σ H xs _ Q I1 (by simpa using rv) hw
def gSub(to ti:TE)(t:Aw5):TG:=fun v σ H Q=>to σ H fun o H1=>ti σ H1 fun i H2=>t o i v H2 fun H3=>Q σ H3
theorem Au0{o i:Expr}{to ti:TE}{t:Aw5}(ho:PE X o to)(hi:PE X i ti)(hs:A1t X t)
  (ha:∀ v,assign Zdn X.env v=(do
   let ov <- holding [v] Zcy
   let iv <- holding [v,ov] (eval i X.env)
   standAt pos
   holding [v,ov,iv] (setItem ov iv v)
   release [v,ov,iv] []):=by intro _;rfl):PG X Zdn (gSub to ti t):=by
 intro pins s σ H v u Q I r h;rw[ha];refine aD (dW (thn (ho pins s σ H _ I h) fun ov s1 zz=>?_));obtain ⟨x,H1,I1,r1,q1⟩:=zz;refine aD (dW (thn (hi pins s1 σ H1 _ I1 q1) fun iv s2 zz=>?_));obtain ⟨y,H2,I2,r2,q2⟩:=zz;refine aD (kR (aD (dW (thn (hs pins s2 σ H2 x y v ov iv u _ I2 r1 r2 r q2) fun _ s3 zz=>?_))));obtain ⟨H3,I3,q3⟩:=zz;exact wpAny_release ⟨σ,H3,I3,q3⟩
def Apx(te:TE)(g:TG):TS:=fun D σ H=>te σ H fun x H1=>g x σ H1 D.nx
theorem Awc{g:TG}(he:PE X e te)(hg:PG X tg g)(hs:swapsWithSole [tg] e pos.line X.env=pure false:=by rfl)(hw:swappedStores [tg] e X.env=pure ψ:=by rfl)
  (h1:(assignEach [tg] X.env).map (·.2)=[assign tg X.env]:=by rfl):PS X (.Assign [tg] e pos) (Apx te g):=by
 intro pins s σ H D I h;refine wpAny_Assign_stores (thn Zar fun v s1 zz=>zz.elim fun x H1 I1 r1 q1=>?_) hs hw;rw[h1];exact thn (hg pins s1 σ H1 x v _ I1 r1 q1) fun _ s2 q=>q
theorem Axl{pos':Pos}(hN:X.N.Nodup)(hi:X.N[i]? = ξ x)(hx:Loc X.env.scope x)(he:PE X e te)(hs:swapsWith e (ξ (.Name x pos')) pos.line X.env=pure false:=by rfl)(hf:X.fn x=true\/X.env.scope.names.lookup x=ξ .local:=by first | exact .inl rfl | exact .inr rfl | assumption) :
  PS X (.Assign [.Name x pos'] e pos) (Apx te (Ab5 i)):=by
 intro pins s σ H D I h;refine wpAny_Assign_Name (thn Zar fun v s1 zz=>zz.elim fun y H1 I1 r1 q1=>?_) hs;exact Adk I1 hN hi hx r1 (fun s2 I2=>⟨_,H1,I2,q1⟩) hf
end
variable {body:List Stmt}
section
def Avv(c:TT)(tb:TS):TS:=fun D σ H=>∃ W:Nat->St->Hp->Prop,(∃ m,W m σ H)/\∀ m σ H,W m σ H ->
 c σ H fun b H1=>if b=true then ∃ N:St->Hp->Prop,(∀ σ' H',N σ' H'->∃ m',m' < m/\W m' σ' H')/\tb { D with nx:=N,ct:=N,bk:=D.nx } σ H1 else D.nx σ H1
theorem Aoi{tc:TT}{tb:TS}(hp:rR Zf X.A X.env X.xe)(hc:PT X c tc)(hb:PSs X body tb):PS X (.While c body [] pos) (Avv tc tb):=by
 intro pins s σ H D I h;obtain ⟨W,⟨m0,w0⟩,turn⟩:=h;refine wpAny_While (codeAny_whileLoop (fun n s'=>∃ σ' H',Inv X pins σ' H' s'/\W n σ' H') ?_ m0 ⟨σ,H,I,w0⟩);rintro n s1 ⟨σ1,H1,I1,w1⟩;refine hV hp (thn (hc pins s1 σ1 H1 _ I1 (turn n σ1 H1 w1)) fun b s2 zz=>?_);obtain ⟨H2,I2,q2⟩:=zz;cases b with
 | true=>
  obtain ⟨N,hN,q2⟩:=q2;rw[if_pos rfl];refine hV hp (thn (hb pins s2 σ1 H2 _ I2 q2) fun f s3 q3=>?_);cases f with
  | next=>
   obtain ⟨σ3,H3,I3,n3⟩:=q3;obtain ⟨m',hm,w3⟩:=hN σ3 H3 n3;exact ⟨m',hm,σ3,H3,I3,w3⟩
  | cont=>
   obtain ⟨σ3,H3,I3,n3⟩:=q3;obtain ⟨m',hm,w3⟩:=hN σ3 H3 n3;exact ⟨m',hm,σ3,H3,I3,w3⟩
  | brk=>exact q3
  | ret v=>exact q3
 | false=>
  rw[if_neg dG];exact lJ ⟨σ1,H2,I2,q2⟩
end
structure It where
 go:Nat->Hp->Prop
 yld:Nat->Hp->V->Hp->Prop
 stop:Nat->Hp->Prop
def Ml(X:Cx)(pins:List (Addr×Obj))(H:Hp)(b:Addr):Prop:=
 H b=ψ/\b≠X.env.locals/\b∉X.fs/\(b∈X.ex\/X.s₀.heap.objs.size<=b)/\(∀ x c,X.env.cells.lookup x=ξ c->c≠b)/\∀ p∈X.pn++pins,p.1≠b
theorem Inv.fpOk(I:Inv X pins σ H s)(hb:s.heap.objs.size<=b)(hn:H' b=ψ):Ml X pins H' b:=by
 refine ⟨hn,jV (bC I.lt hb),I.nofs hb,.inr (bW I.sz hb),fun x c e z=>?_,fun p hp z=>?_⟩
 ·obtain ⟨v,q⟩:=I.cell x c e;exact absurd (bC q.lt (by rw[z];exact hb)) (eK _)
 ·exact absurd (bC (aY (I.pin p hp).1) (by rw[z];exact hb)) (eK _)
structure Turn(P:cC)(w:cM)(K:aF)(tg:Expr)(J:It)(fp:List Addr)(it:Addr)(tn:Nat->Heap->Prop):Prop where
 mem:it∈fp
 obj:∀ i h,tn i h->∀ b∈fp,∃ o,h.get? b=ξ o/\∀ v,o.data≠.cell v
 keep:∀ i h h',tn i h->(∀ b∈fp,∀ o,h.get? b=ξ o->h'.get? b=ξ o)->tn i h'
 item:∀ (X:Cx),X.prog=P->X.w=w->X.K=K->X.calm=true->∀ (i:Nat) (pins:List (Addr×Obj)) (s:aN) (σ:St) (H:Hp) (E:aH->aN->Prop),Inv X pins σ H s->(∀ b∈fp,Ml X pins H b)->tn i s.heap->J.go i H ->
  wpAny (model P w) X.A (pyNext (.ref it)) (fun r s1=>∃ u,r=ξ u /\
   wpAny (model P w) X.A (letOwnedTupleGo tg (.ref it) u) (fun _ s2=>∃ x H',Inv X pins σ H' s2/\RelV x u/\J.yld i H x H'/\tn (i+1) s2.heap/\∀ b∈fp,H' b=ψ) E s1) E s
 done:∀ (X:Cx),X.prog=P->X.w=w->X.K=K->X.calm=true->∀ (i:Nat) (pins:List (Addr×Obj)) (s:aN) (σ:St) (H:Hp) (E:aH->aN->Prop),Inv X pins σ H s->(∀ b∈fp,Ml X pins H b)->tn i s.heap->J.stop i H ->
  wpAny (model P w) X.A (pyNext (.ref it)) (fun r s1=>r=ψ/\Inv X pins σ H s1) E s
 self:∀ (A:eA) (i:Nat) (s:aN) (Q:aH->aN->Prop) (E:aH->aN->Prop),tn i s.heap->Q (.ref it) s->wpAny (model P w) A (pyIter (.ref it)) Q E s
abbrev TI:=St->Hp->(It->Hp->Prop)->Prop
inductive PIE(X:Cx)(pins:List (Addr×Obj))(σ:St)(tg:Expr)(R:It->Hp->Prop)(itv:aH)(s2:aN):Prop
 | mk (it:Addr) (fp:List Addr) (tn:Nat->Heap->Prop) (J:It) (H':Hp) (h0:itv = .ref it) (h1:Inv X pins σ H' s2) (h2:Turn X.prog X.w X.K tg J fp it tn) (h3:tn 0 s2.heap) (h4:(∀ b∈fp,Ml X pins H' b)) (h5:R J H'):PIE X pins σ tg R itv s2
def PI(X:Cx)(tg iter:Expr)(wi:TI):Prop:=
 ∀ (pins:List (Addr×Obj)) (s:aN) (σ:St) (H:Hp) (R:It->Hp->Prop),Inv X pins σ H s->wi σ H R ->
  wpAny Zf X.A (eval iter X.env) (fun v s1=>wpAny Zf X.A (pyIter v) (PIE X pins σ tg R) X.xe s1) X.xe s
theorem Ago{it:Addr}{o:Obj}{n:String}{vs:Array aH}{Q:Unit->aN->Prop}(ho:s.heap.get? it=ξ o)(hc:o.cls = .type n)(hd:o.data = .fields vs)
  (hn:["enumerate","zip","dict_itemiterator","dict_reverseitemiterator","odict_iterator","itertools.zip_longest","itertools.pairwise"].contains n=false) (hQ:Q () s):wpAny M A (letOwnedTupleGo tg (.ref it) u) Q E s:=by
 unfold letOwnedTupleGo;cases tg <;> first
  | exact bB hQ
  | (cases u <;> first
    | exact bB hQ
    | (refine aD (wpAny_load ho ?_)
       rw[hc,hd];show wpAny M A (if (["enumerate","zip","dict_itemiterator","dict_reverseitemiterator","odict_iterator","itertools.zip_longest","itertools.pairwise"].contains n&&vs[0]? == ξ (rawInt _))=true then _ else _) Q E s;rw[if_neg (by intro h;rw[hn,pC] at h;cases h)]
       exact bB hQ))
def Itl(K:aF)(a:Addr):It:=
 ⟨fun i H=>∃ xs x,SqL K H a xs/\xs[i]? = ξ x,fun i H x H'=>H'=H/\∀ xs,SqL K H a xs->xs[i]? = ξ x,fun i H=>∃ xs,SqL K H a xs/\xs.length<=i⟩
def Itt(K:aF)(a:Addr):It:=
 ⟨fun i H=>∃ xs x,SqT K H a xs/\xs[i]? = ξ x,fun i H x H'=>H'=H/\∀ xs,SqT K H a xs->xs[i]? = ξ x,fun i H=>∃ xs,SqT K H a xs/\xs.length<=i⟩
noncomputable def Itr(lo:Int)(n:Nat):It:=⟨fun i _=>i < n,fun i H x H'=>H'=H/\x = .int (lo+i),fun i _=>n<=i⟩
theorem Aj1(a it:Addr):Turn P w K tg (Itl K a) [it] it (fun i h=>h.IsListIter it a i) where
 mem:=Za
 obj:=fun i h st b hb=>by
  have e:b=it:=by simpa using hb
  subst e;obtain ⟨o,e,c,d⟩:=st;exact ⟨o,e,fun v z=>by rw[d] at z;cases z⟩
 keep:=fun i h h' st k=>st.at fun o e=>k it Za o e
 item:=by
  intro X hP hw hK hc i pins s σ H E I hf st hg;subst hP hw hK;obtain ⟨xs,x,hq,hx⟩:=hg;obtain ⟨its,rv,p,hz⟩:=I.list hq;obtain ⟨u,hu,ru⟩:=rv.get hx;obtain ⟨f0,f1,f2,f3,f4,f5⟩:=hf it Za;refine nZ st p.isList (x:=u) (by simpa using hu) fun h' st' sb=>?_
  have I1:Inv X pins σ H { s with heap:=h' }:=I.turned (t':=s.toks) Zbl f0 f1 f3 f4 f5;obtain ⟨o,e,c,d⟩:=id st';exact ⟨u,rfl,Ago (s:={ s with heap:=h' }) e c d Zb ⟨x,H,I1,ru,⟨rfl,fun ys hy=>by rw[I.list_inj hy hq];exact hx⟩,st',fun b hb=>(hf b hb).1⟩⟩
 done:=by
  intro X hP hw hK hc i pins s σ H E I hf st hg;subst hP hw hK;obtain ⟨xs,hq,hx⟩:=hg;obtain ⟨its,rv,p,hz⟩:=I.list hq;obtain ⟨f0,f1,f2,f3,f4,f5⟩:=hf it Za;have hl:=rv.length;exact oW ZaM st p.isList (by simp;omega) fun h' eb=>⟨rfl,I.turned (t':=s.toks) Zb5 f0 f1 f3 f4 f5⟩
 self:=fun _ _ _ _ _ st h=>wpAny_pyIter_listiter st h
theorem Af3(a it:Addr):Turn P w K tg (Itt K a) [it] it (fun i h=>h.IsTupleIter it a i) where
 mem:=Za
 obj:=fun i h st b hb=>by
  have e:b=it:=by simpa using hb
  subst e;obtain ⟨o,e,c,d⟩:=st;exact ⟨o,e,fun v z=>by rw[d] at z;cases z⟩
 keep:=fun i h h' st k=>st.at fun o e=>k it Za o e
 item:=by
  intro X hP hw hK hc i pins s σ H E I hf st hg;subst hP hw hK;obtain ⟨xs,x,hq,hx⟩:=hg;obtain ⟨its,rv,p,hz⟩:=I.tuple hq;obtain ⟨u,hu,ru⟩:=rv.get hx;obtain ⟨f0,f1,f2,f3,f4,f5⟩:=hf it Za;refine wpAny_pyNext_tuple_item st (show s.heap.IsTuple a its.toArray from p) (x:=u) (by simpa using hu) fun h' st' sb=>?_
  have I1:Inv X pins σ H { s with heap:=h' }:=I.turned (t':=s.toks) Zbl f0 f1 f3 f4 f5;obtain ⟨o,e,c,d⟩:=id st';exact ⟨u,rfl,Ago (s:={ s with heap:=h' }) e c d Zb ⟨x,H,I1,ru,⟨rfl,fun ys hy=>by rw[I.tuple_inj hy hq];exact hx⟩,st',fun b hb=>(hf b hb).1⟩⟩
 done:=by
  intro X hP hw hK hc i pins s σ H E I hf st hg;subst hP hw hK;obtain ⟨xs,hq,hx⟩:=hg;obtain ⟨its,rv,p,hz⟩:=I.tuple hq;obtain ⟨f0,f1,f2,f3,f4,f5⟩:=hf it Za;have hl:=rv.length;exact wpAny_pyNext_tuple_end ZaM st (show s.heap.IsTuple a its.toArray from p) (by simp;omega) fun h' eb=>⟨rfl,I.turned (t':=s.toks) Zb5 f0 f1 f3 f4 f5⟩
 self:=fun _ _ _ _ _ st h=>wpAny_pyIter_tupleiter st h
theorem Ae5(it:Addr)(lo:Int)(n:Nat):Turn P w K tg (Itr lo n) [it] it (fun i h=>IsRangeIter h it (lo+(i:Nat) * 1) ((n:Int) - (i:Nat)) 1) where
 mem:=Za
 obj:=fun i h st b hb=>by
  have e:b=it:=by simpa using hb
  subst e;exact ⟨_,st,fun v z=>by
   have z':Data.fields _=Data.cell v:=z;cases z'⟩
 keep:=fun i h h' st k=>k it Za _ st
 item:=by
  intro X hP hw hK hc i pins s σ H E I hf st hg;subst hP hw hK;obtain ⟨f0,f1,f2,f3,f4,f5⟩:=hf it Za;have W:=Walks.range (prog:=X.prog) (w:=X.w) ZaM it lo 1 n;refine W.item i s _ _ hg st fun v h' tk hv st' kk=>?_
  obtain ⟨t,rfl⟩:=hv;have I1:Inv X pins σ H { s with heap:=h',toks:=tk }:=I.turned (fun b o hb e=>kk b o (by simpa using hb) e) f0 f1 f3 f4 f5;refine ⟨_,rfl,Ago (s:={ s with heap:=h',toks:=tk }) (n := "range_iterator") st' rfl rfl Zb ⟨.int (lo+i),H,I1,⟨t,?_⟩,⟨rfl,rfl⟩,st',fun b hb=>(hf b hb).1⟩⟩;rw[Int.mul_one]
 done:=by
  intro X hP hw hK hc i pins s σ H E I hf st hg;subst hP hw hK;obtain ⟨f0,f1,f2,f3,f4,f5⟩:=hf it Za;exact wpAny_pyNext_range_end ZaM st (by have:n<=i:=hg;omega) fun h' eb=>⟨rfl,I.turned (t':=s.toks) Zb5 f0 f1 f3 f4 f5⟩
 self:=fun _ _ _ _ _ st h=>wpAny_pyIter_rangeiter st h
variable {p:Pos}{fp:List Addr}
section
def A0q(K:aF)(tl:TE):TI:=fun σ H R=>tl σ H fun x H1=>∃ a,x = .ref a/\(∃ xs,SqL K H1 a xs)/\R (Itl K a) H1
def A5m(K:aF)(tl:TE):TI:=fun σ H R=>tl σ H fun x H1=>∃ a,x = .ref a/\(∃ xs,SqT K H1 a xs)/\R (Itt K a) H1
theorem Aqt{l:Expr}{tl:TE}(hl:PE X l tl):PI X tg l (A0q X.K tl):=by
 intro pins s σ H R I h;refine thn Zc1 fun v s1 zz=>?_
 obtain ⟨x,H1,I1,r1,q1⟩:=zz;obtain ⟨a,e,⟨xs,hq⟩,q⟩:=q1;subst e;cases r1;obtain ⟨its,rv,p,hz⟩:=I1.list hq;refine jX p.isList ?_;refine ⟨s1.heap.objs.size,[s1.heap.objs.size],_,_,H1,rfl,I1.kept (t':=s1.toks) fun b o e=>aC _ e,Aj1 a _,⟨_,aX _ rfl,rfl,rfl⟩,fun b hb=>?_,q⟩;have e:b=s1.heap.objs.size:=by simpa using hb
 subst e;exact I1.fpOk (aP _) Zb7
theorem Av3{l:Expr}{tl:TE}(hl:PE X l tl):PI X tg l (A5m X.K tl):=by
 intro pins s σ H R I h;refine thn Zc1 fun v s1 zz=>?_
 obtain ⟨x,H1,I1,r1,q1⟩:=zz;obtain ⟨a,e,⟨xs,hq⟩,q⟩:=q1;subst e;cases r1;obtain ⟨its,rv,p,hz⟩:=I1.tuple hq;refine jN (show s1.heap.IsTuple a its.toArray from p) ?_;refine ⟨s1.heap.objs.size,[s1.heap.objs.size],_,_,H1,rfl,I1.kept (t':=s1.toks) fun b o e=>aC _ e,Af3 a _,⟨_,aX _ rfl,rfl,rfl⟩,fun b hb=>?_,q⟩;have e:b=s1.heap.objs.size:=by simpa using hb
 subst e;exact I1.fpOk (aP _) Zb7
theorem Ala{R:It->Hp->Prop}{lo hi:Int}{t u v:Tok}{tk:Nat}(I:Inv X pins σ H s)(h1:-(2 ^ 62)<=lo)(h2:lo < 2 ^ 62)(h3:-(2 ^ 62)<=hi)(h4:hi < 2 ^ 62)
  (q:R (Itr lo (hi - lo).toNat) H):wpAny Zf X.A (pyIter Z5) (PIE X pins σ tg R) E { s with heap:=s.heap.push { cls:=.type "range",data:=.fields #[.int lo t,.int hi u,.int 1 v] },toks:=tk }:=by
 refine wpAny_pyIter_range (IsRange.new ..) (small_one h1 h2 h3 h4) ?_;have I1:Inv X pins σ H { s with heap:=s.heap.push { cls:=.type "range",data:=.fields #[.int lo t,.int hi u,.int 1 v] },toks:=tk }:=I.kept fun b o e=>aC _ e
 refine ⟨(s.heap.push { cls:=.type "range",data:=.fields #[.int lo t,.int hi u,.int 1 v] }).objs.size,[(s.heap.push { cls:=.type "range",data:=.fields #[.int lo t,.int hi u,.int 1 v] }).objs.size],_,_,H,rfl,
  I1.kept (t':=tk) fun b o e=>aC _ e,Ae5 _ lo (hi - lo).toNat,?_,fun b hb=>?_,q⟩
 ·have e1:lo+((0:Nat):Int) * 1=lo:=Za
  have e2:(((hi - lo).toNat:Nat):Int) - ((0:Nat):Int)=kW.Range.rangeSize lo hi 1:=by rw[rangeSize_one];split <;> omega
  show IsRangeIter _ _ (lo+((0:Nat):Int) * 1) ((((hi - lo).toNat:Nat):Int) - ((0:Nat):Int)) 1;rw[e1,e2];exact aX _ rfl
 ·have e:b=(s.heap.push { cls:=.type "range",data:=.fields #[.int lo t,.int hi u,.int 1 v] }).objs.size:=by simpa using hb
  subst e;exact I1.fpOk (aP _) Zb7
def Ayd(ta:TA):TI:=fun σ H R=>ta σ H fun vs H1=>∃ j:Int,vs=[.int j]/\-(2 ^ 62)<=j/\j < 2 ^ 62/\R (Itr 0 j.toNat) H1
theorem Akx{a:Expr}{ta:TA}(hg:Gl X "range")(hm:X.mg "range" = ψ)(ha:PA X [a] ta)(hs:bH [a] X.env=[ZbG]:=by rfl):PI X tg (.Call (.Name "range" p) [a] [] pos) (Ayd ta):=by
 intro pins s σ H R I h;refine Call_ (P7 I hg hm boot_range (eY (thn ZaY fun us s1 zz=>zz.elim fun vs H1 I1 r1 q1=>?_) hs rfl));obtain ⟨j,e,q1,q2,q⟩:=q1;subst e;cases r1 with
 | cons r rr=>
  cases rr;obtain ⟨t,rfl⟩:=r;exact call_range_1 (Ala I1 Ze Ze q1 q2 (by simpa using q))
def A45(wi:TI)(g:TG)(tb:TS):TS:=fun D σ H=>wi σ H fun J H1=>∃ W:Nat->Nat->St->Hp->Prop,(∃ m,W 0 m σ H1)/\∀ i m σ H,W i m σ H ->
 (J.stop i H/\D.nx σ H)\/(J.go i H/\∃ N:St->Hp->Prop,(∀ σ' H',N σ' H'->∃ m',m' < m/\W (i+1) m' σ' H')/\∀ x H',J.yld i H x H'->g x σ H' fun σ2 H2=>tb { D with nx:=N,ct:=N,bk:=D.nx } σ2 H2)
noncomputable def Wu(fp:List Addr)(h:Heap):List (Addr×Obj):=fp.filterMap fun b=>(h.get? b).map fun o=>(b,o)
theorem Mg{o:Obj}(hb:b∈fp)(e:h.get? b=ξ o):(b,o)∈Wu fp h:=List.mem_filterMap.mpr ⟨b,hb,by rw[e];rfl⟩
theorem Ajq{p:Addr×Obj}(hp:p∈Wu fp h):p.1∈fp/\h.get? p.1=ξ p.2:=by
 obtain ⟨b,hb,e⟩:=List.mem_filterMap.mp hp;cases q:h.get? b with
 | none=>rw[q] at e;cases e
 | some o=>
  rw[q] at e;have e':(b,o)=p:=bS e;subst e';exact ⟨hb,q⟩
theorem Inv.pinned(I:Inv X pins σ H s)(hf:∀ b∈fp,Ml X pins H b)(ho:∀ b∈fp,∃ o,s.heap.get? b=ξ o/\∀ v,o.data≠.cell v):Inv X (pins++Wu fp s.heap) σ H s:=
 I.pins_of fun p hp=>(cT.mp hp).elim (fun z=>I.pin p (bK _ z)) fun z=>by
  obtain ⟨hb,e⟩:=Ajq z;obtain ⟨f0,f1,f2,_⟩:=hf p.1 hb;obtain ⟨o,e',d⟩:=ho p.1 hb;rw[e] at e';cases e';exact ⟨e,f0,f1,f2,d⟩
theorem Inv.unpinned{pl:List (Addr×Obj)}(I:Inv X (pins++pl) σ H s):Inv X pins σ H s:=I.pins_of fun p hp=>I.pin p (bK _ (eU _ hp))
theorem Awn{iter:Expr}{wi:TI}{g:TG}{tb:TS}(hp:rR Zf X.A X.env X.xe)(hc:X.calm=true)(hi:PI X tg iter wi)(hg:PG X tg g)(hb:PSs X body tb)
  (hs:∀ x,foldedSetIterable iter X.env x=pure x:=by intro _;rfl):PS X (.For tg iter body [] pos) (A45 wi g tb):=by
 intro pins s σ H D I h;refine wpAny_For (thn (hi pins s σ H _ I h) fun v s1 h1=>thn h1 fun itv s2 h2=>?_) hs;obtain ⟨it,fp,tn,J,H2,e,I2,T,st2,f2,W,⟨m0,w0⟩,turn⟩:=h2;subst e;have stat:∀ {H':Hp},(∀ b∈fp,H' b=ψ)->∀ b∈fp,Ml X pins H' b:=fun hn b hb=>⟨hn b hb,(f2 b hb).2⟩
 refine codeAny_forLoop_any (fun n s'=>∃ i σ' H',Inv X pins σ' H' s'/\tn i s'.heap/\(∀ b∈fp,H' b=ψ)/\W i n σ' H') ?_ m0 ⟨0,σ,H2,I2,st2,fun b hb=>(f2 b hb).1,w0⟩;rintro n s3 ⟨i,σ3,H3,I3,st3,fr3,w3⟩;rcases turn i n σ3 H3 w3 with ⟨stop,qn⟩ | ⟨go,N,hN,step⟩
 ·refine hV hp (thn (T.done X rfl rfl rfl hc i pins s3 σ3 H3 X.xe I3 (stat fr3) st3 stop) fun r s4 zz=>?_);obtain ⟨hr,I4⟩:=zz;subst hr;exact lJ ⟨σ3,H3,I4,qn⟩
 ·refine hV hp (thn (T.item X rfl rfl rfl hc i pins s3 σ3 H3 X.xe I3 (stat fr3) st3 go) fun r s4 zz=>?_);obtain ⟨u,hr,h4⟩:=zz;subst hr;refine hV hp (thn h4 fun _ s5 zz=>?_);obtain ⟨x,H5,I5,r5,y5,st5,fr5⟩:=zz;have I5':=I5.pinned (stat fr5) (T.obj _ _ st5);refine hV hp (thn (hg _ s5 σ3 H5 x u _ I5' r5 (step x H5 y5)) fun _ s6 zz=>?_);obtain ⟨σ6,H6,I6,q6⟩:=zz;refine hV hp (thn (hb _ s6 σ6 H6 _ I6 q6) fun f s7 q7=>?_);have again:∀ {σ7:St} {H7:Hp},Inv X (pins++Wu fp s5.heap) σ7 H7 s7->N σ7 H7->∃ m,m < n/\∃ i σ' H',Inv X pins σ' H' s7/\tn i s7.heap/\(∀ b∈fp,H' b=ψ)/\W i m σ' H':=fun {σ7 H7} I7 n7=>by
   obtain ⟨m',hm,w7⟩:=hN σ7 H7 n7;refine ⟨m',hm,i+1,σ7,H7,I7.unpinned,T.keep _ _ _ st5 fun b hb o e=>(I7.pin (b,o) ZcP).1,fun b hb=>?_,w7⟩;obtain ⟨o,e,d⟩:=T.obj _ _ st5 b hb;exact (I7.pin (b,o) ZcP).2.1
  cases f with
  | next=>obtain ⟨σ7,H7,I7,n7⟩:=q7;exact again I7 n7
  | cont=>obtain ⟨σ7,H7,I7,n7⟩:=q7;exact again I7 n7
  | brk=>obtain ⟨σ7,H7,I7,q7⟩:=q7;exact ⟨σ7,H7,I7.unpinned,q7⟩
  | ret v=>obtain ⟨x7,σ7,H7,I7,r7,q7⟩:=q7;exact ⟨x7,σ7,H7,I7.unpinned,r7,q7⟩
end
abbrev R2:=V->V->Hp->VK->Prop
def OpR(X:Cx)(f:aH->aH->Sem aH)(r:R2):Prop:=
 ∀ (pins:List (Addr×Obj)) (s:aN) (σ:St) (H:Hp) (x y:V) (v u:aH) (Q:VK),Inv X pins σ H s->RelV x v->RelV y u->r x y H Q ->
  wpAny Zf X.A (f v u) Zaj X.xe s
def UnR(X:Cx)(f:aH->Sem aH)(r:V->Hp->VK->Prop):Prop:=
 ∀ (pins:List (Addr×Obj)) (s:aN) (σ:St) (H:Hp) (x:V) (v:aH) (Q:VK),Inv X pins σ H s->RelV x v->r x H Q ->
  wpAny Zf X.A (f v) Zaj X.xe s
def CallR(X:Cx)(f:aH)(r:List V->Hp->VK->Prop):Prop:=
 ∀ (pins:List (Addr×Obj)) (s:aN) (σ:St) (H:Hp) (xs:List V) (us:List aH) (Q:VK),Inv X pins σ H s->Vals xs us->r xs H Q ->
  wpAny Zf X.A (call f us) Zaj X.xe s
def A5g(X:Cx)(r:V->Hp->(Bool->Hp->Prop)->Prop):Prop:=
 ∀ (pins:List (Addr×Obj)) (s:aN) (σ:St) (H:Hp) (x:V) (v:aH) (Q:Bool->Hp->Prop),Inv X pins σ H s->RelV x v->r x H Q ->
  wpAny Zf X.A (truthy v) (TP X pins σ Q) X.xe s
def tOp(r:R2)(ta tb:TE):TE:=fun σ H Q=>ta σ H fun x H1=>tb σ H1 fun y H2=>r x y H2 Q
def tUn(r:V->Hp->VK->Prop)(ta:TE):TE:=fun σ H Q=>ta σ H fun x H1=>r x H1 Q
def rI(C:Int->Int->Prop)(g:Int->Int->V):R2:=fun x y H Q=>∃ i j,x = .int i/\y = .int j/\C i j/\Q (g i j) H
def rI0(g:Int->Int->V):R2:=fun x y H Q=>∃ i j,x = .int i/\y = .int j/\Q (g i j) H
def rU(g:Int->V):V->Hp->VK->Prop:=fun x H Q=>∃ i,x = .int i/\Q (g i) H
variable {r:R2}
section
variable {a b:Expr}{tc:TE}
theorem Axh(ha:PE X a ta)(hb:PE X b tb){R:V->V->Hp->Prop}(I:Inv X pins σ H s)
  (h:ta σ H fun x H1=>tb σ H1 fun y H2=>R x y H2) {Q:aH->aN->Prop} {f:aH->aH->Sem aH}
  (hf:∀ v u s2 x y H2,Inv X pins σ H2 s2->RelV x v->RelV y u->R x y H2->wpAny Zf X.A (f v u) Q X.xe s2) :
  wpAny Zf X.A (eval a X.env) (fun v s₁=>wpAny Zf X.A (eval b X.env) (fun u s₂=>wpAny Zf X.A (f v u) Q X.xe s₂) X.xe s₁) X.xe s:=by
 refine thn ZU fun v s1 zz=>?_
 obtain ⟨x,H1,I1,r1,q1⟩:=zz;refine thn Zcc fun u s2 zz=>?_
 obtain ⟨y,H2,I2,r2,q2⟩:=zz;exact hf v u s2 x y H2 I2 r1 r2 q2
theorem Axw{op:Operator}(ho:OpR X (gP op) r)(ha:PE X a ta)(hb:PE X b tb):PE X (.BinOp a op b pos) (tOp r ta tb):=by
 intro pins s σ H Q I h;exact wpAny_BinOp (Axh ha hb I h fun v u s2 x y H2 I2 rx ry q=>ho pins s2 σ H2 x y v u Q I2 rx ry q)
theorem A14{op:UnaryOp}{r:V->Hp->VK->Prop}(ho:UnR X (unaryOp op) r)(ha:PE X a ta):PE X (.UnaryOp op a pos) (tUn r ta):=by
 intro pins s σ H Q I h;exact UnaryOp_ (thn ZU fun v s1 zz=>by obtain ⟨x,H1,I1,r1,q1⟩:=zz;exact ho pins s1 σ H1 x v Q I1 r1 q1)
theorem opI{f:aH->aH->Sem aH}{C:Int->Int->Prop}{g:Int->Int->Int}
  (rule:∀ (i j:Int) (t u:Tok) (s:aN) (Q:aH->aN->Prop) (E:aH->aN->Prop),C i j->Q (.int (g i j) s.toks) { s with toks:=s.toks+1 }->wpAny Zf X.A ZdX Q E s) :
  OpR X f (rI C fun i j=>.int (g i j)):=by
 intro pins s σ H x y v u Q I rx ry h;obtain ⟨i,j,rfl,rfl,hc,q⟩:=h;obtain ⟨t,rfl⟩:=rx;obtain ⟨t',rfl⟩:=ry;exact rule i j t t' s _ _ hc ⟨.int (g i j),H,I.tok _,⟨_,rfl⟩,q⟩
theorem A01{f:aH->aH->Sem aH}{g:Int->Int->Int}
  (rule:∀ (i j:Int) (t u:Tok) (s:aN) (Q:aH->aN->Prop) (E:aH->aN->Prop),Q (.int (g i j) s.toks) { s with toks:=s.toks+1 }->wpAny Zf X.A ZdX Q E s) :
  OpR X f (rI0 fun i j=>.int (g i j)):=by
 intro pins s σ H x y v u Q I rx ry h;obtain ⟨i,j,rfl,rfl,q⟩:=h;obtain ⟨t,rfl⟩:=rx;obtain ⟨t',rfl⟩:=ry;exact rule i j t t' s _ _ ⟨.int (g i j),H,I.tok _,⟨_,rfl⟩,q⟩
theorem Asr{f:aH->aH->Sem aH}{g:Int->Int->Bool}
  (rule:∀ (i j:Int) (t u:Tok) (s:aN) (Q:aH->aN->Prop) (E:aH->aN->Prop),Q (.bool (g i j)) s->wpAny Zf X.A ZdX Q E s) :
  OpR X f (rI0 fun i j=>.bl (g i j)):=by
 intro pins s σ H x y v u Q I rx ry h;obtain ⟨i,j,rfl,rfl,q⟩:=h;obtain ⟨t,rfl⟩:=rx;obtain ⟨t',rfl⟩:=ry;exact rule i j t t' s _ _ ⟨.bl (g i j),H,I,rfl,q⟩
def Azv(i j:Int):Prop:=0<=j/\j<=1000000/\i.natAbs < 2 ^ 64
def CMul(i j:Int):Prop:=(-(2 ^ 64) < i/\i < 2 ^ 64)\/(-(2 ^ 64) < j/\j < 2 ^ 64)
theorem CMul.ok{i j:Int}(h:CMul i j):IntMulOk i j:=by
 rcases h with ⟨h1,h2⟩ | ⟨h1,h2⟩
 ·exact .of_left (intBits_le_64 h1 h2)
 ·exact .of_right (intBits_le_64 h1 h2)
theorem Awl:OpR X (gP .Add) (rI0 fun i j=>.int (i+j)):=A01 fun _ _ _ _ _ _ _ q=>add_int q
theorem Nj:OpR X (gP .Sub) (rI0 fun i j=>.int (i - j)):=A01 fun _ _ _ _ _ _ _ q=>sub_int q
theorem Au5:OpR X (gP .Mult) (rI CMul fun i j=>.int (i * j)):=opI fun _ _ _ _ _ _ _ hc q=>mul_int q hc.ok
theorem Pp:OpR X (gP .Mod) (rI (fun _ j=>0 < j) fun i j=>.int (i % j)):=opI fun i j _ _ _ _ _ hc q=>by
 have h1:(0:Int) < j:=hc;exact mod_int' Ze (by rw[Int.fmod_eq_emod_of_nonneg i Ze];exact q)
theorem Sn:OpR X (gP .Pow) (rI Azv fun i j=>.int (i ^ j.toNat)):=opI fun _ _ _ _ _ _ _ hc q=>pow_int_small hc.1 hc.2.1 hc.2.2 q
theorem unI{f:aH->Sem aH}{g:Int->Int}
  (rule:∀ (i:Int) (t:Tok) (s:aN) (Q:aH->aN->Prop) (E:aH->aN->Prop),Q (.int (g i) s.toks) { s with toks:=s.toks+1 }->wpAny Zf X.A (f (.int i t)) Q E s) :
  UnR X f (rU fun i=>.int (g i)):=by
 intro pins s σ H x v Q I rx h;obtain ⟨i,rfl,q⟩:=h;obtain ⟨t,rfl⟩:=rx;exact rule i t s _ _ ⟨.int (g i),H,I.tok _,⟨_,rfl⟩,q⟩
theorem Avz:UnR X (unaryOp .USub) (rU fun i=>.int (-i)):=unI fun _ _ _ _ _ q=>neg_int q
end
variable {op:CmpOp}{r':R2}
section
variable {a b:Expr}{tc:TE}
theorem Amm{Q:VK}{k k':Bool}(I:Inv X pins σ H s)(q:Q (.bl k) H)(e:k=k'):EP X pins σ Q (.bool k') s:=by
 subst e;exact ⟨.bl k,H,I,rfl,q⟩
theorem Yx:OpR X (dA .Lt) (rI0 fun i j=>.bl (decide (i < j))):=Asr fun _ _ _ _ _ _ _ q=>lt_int q
theorem Jp:OpR X (dA .LtE) (rI0 fun i j=>.bl (decide (i<=j))):=Asr fun _ _ _ _ _ _ _ q=>le_int q
theorem Am0:OpR X (dA .Gt) (rI0 fun i j=>.bl (decide (j < i))):=Asr fun _ _ _ _ _ _ _ q=>gt_int q
theorem Ank:OpR X (dA .GtE) (rI0 fun i j=>.bl (decide (j<=i))):=Asr fun _ _ _ _ _ _ _ q=>ge_int q
theorem Ai4:OpR X (dA .In) (fun x y H Q=>∃ i j,x = .str i/\y = .str j/\Q (.bl (!(cO j i 0 j.length 1).isEmpty)) H):=by
 intro pins s σ H x y v u Q I rx ry h;obtain ⟨i,j,rfl,rfl,q⟩:=h;obtain ⟨t,rfl⟩:=rx;obtain ⟨t',rfl⟩:=ry;exact in_str (Amm I q rfl)
theorem Au1:OpR X (dA .Is) (fun x y H Q=>y = .non/\Q (.bl (decide (x = .non))) H):=by
 intro pins s σ H x y v u Q I rx ry h;obtain ⟨rfl,q⟩:=h;cases ry;refine is_none_gen (Amm I q ?_);cases x <;> first
  | (cases rx;rfl)
  | (obtain ⟨t,rfl⟩:=rx;rfl)
theorem OpR.or{f:aH->aH->Sem aH}(h:OpR X f r)(h':OpR X f r'):OpR X f (fun x y H Q=>r x y H Q\/r' x y H Q):=by
 intro pins s σ H x y v u Q I rx ry q;rcases q with q | q
 ·exact h pins s σ H x y v u Q I rx ry q
 ·exact h' pins s σ H x y v u Q I rx ry q
theorem Bj(b:Expr)(h:op≠.In:=by decide)(h2:op≠.NotIn:=by decide):behindInMarks op b=false:=by
 have e1:(op == CmpOp.In)=false:=by cases op <;> first | rfl | exact absurd rfl h
 have e2:(op == CmpOp.NotIn)=false:=by cases op <;> first | rfl | exact absurd rfl h2
 cases b <;> simp[behindInMarks,e1,e2]
theorem Arq(ho:OpR X (dA op) r)(ha:PE X a ta)(hb:PE X b tb)(hm:behindInMarks op b=false):PE X Zcs (tOp r ta tb):=by
 intro pins s σ H Q I h;exact wpAny_Compare1 (Axh ha hb I h fun v u s2 x y H2 I2 rx ry q=>ho pins s2 σ H2 x y v u Q I2 rx ry q) hm
def Am8(t:TE):TT:=fun σ H Q=>t σ H fun x H'=>∃ k,x = .bl k/\Q k H'
theorem Aqe(ho:OpR X (dA op) r)(ha:PE X a ta)(hb:PE X b tb)(hm:behindInMarks op b=false):PT X Zcs (Am8 (tOp r ta tb)):=by
 intro pins s σ H Q I h;refine wpAny_isTrue_Compare1 (thn ZU fun v s1 zz=>zz.elim fun x H1 I1 r1 q1=>thn Zcc fun u s2 ⟨y,H2,I2,r2,q2⟩=>
  thn Zb2 fun c s3 zz=>zz.elim fun z H3 I3 r3 zq=>?_) hm
 obtain ⟨k,e,q3⟩:=zq;subst e;cases r3;exact fA ⟨H3,I3,q3⟩
def Aet(r r':R2)(ta tb tc:TE):TE:=fun σ H Q=>ta σ H fun x H1=>tb σ H1 fun y H2=>r x y H2 fun z H3=>∃ k,z = .bl k /\
 (if k=true then tc σ H3 fun w' H4=>r' y w' H4 Q else Q (.bl false) H3)
theorem Anu{op':CmpOp}(ho:OpR X (dA op) r)(ho':OpR X (dA op') r')(ha:PE X a ta)(hb:PE X b tb)(hc:PE X c tc)
  (hm:lastMarks [op,op'] [b,c]=false:=by with_unfolding_all rfl):PE X ZbI (Aet r r' ta tb tc):=by
 intro pins s σ H Q I h;refine Compare_chain (thn ZU fun v s1 zz=>zz.elim fun x H1 I1 r1 q1=>chain_link (thn Zcc fun u s2 ⟨y,H2,I2,r2,q2⟩=>
  thn Zb2 fun d s3 zz=>zz.elim fun z H3 I3 r3 zq=>?_)) hm
 obtain ⟨k,e,q3⟩:=zq;subst e;cases r3;refine fA ?_;cases k with
 | false=>exact ite_ff ⟨.bl false,H3,I3,rfl,q3⟩
 | true=>exact ite_tt (chain_last (thn (hc pins s3 σ H3 _ I3 q3) fun w' s4 zz=>by obtain ⟨z',H4,I4,r4,q4⟩:=zz;exact ho' pins s4 σ H4 y z' u w' Q I4 r2 r4 q4))
theorem An1{op':CmpOp}(ho:OpR X (dA op) r)(ho':OpR X (dA op') r')(ha:PE X a ta)(hb:PE X b tb)(hc:PE X c tc)
  (hm:lastMarks [op,op'] [b,c]=false:=by with_unfolding_all rfl):PT X ZbI (Am8 (Aet r r' ta tb tc)):=by
 intro pins s σ H Q I h;refine isTrue_chain (thn ZU fun v s1 zz=>zz.elim fun x H1 I1 r1 q1=>test_link (thn Zcc fun u s2 ⟨y,H2,I2,r2,q2⟩=>
  thn Zb2 fun d s3 zz=>zz.elim fun z H3 I3 r3 zq=>?_)) hm
 obtain ⟨k,e,q3⟩:=zq;subst e;cases r3;refine fA ?_;cases k with
 | false=>
  obtain ⟨k',e',q'⟩:=q3;cases e';exact ite_ff ⟨H3,I3,q'⟩
 | true=>
  refine ite_tt (test_last (thn (hc pins s3 σ H3 _ I3 q3) fun w' s4 zz=>zz.elim fun z' H4 I4 r4 q4=>thn (ho' pins s4 σ H4 y z' u w' _ I4 r2 r4 q4) fun d' s5 zz=>?_));obtain ⟨z2,H5,I5,r5,k2,e2,q5⟩:=zz;subst e2;cases r5;exact fA ⟨H5,I5,q5⟩
def Axd(K:aF)(x:V)(H:Hp)(k:Bool):Prop:=
 match x with
 | .non=>k=false
 | .bl b=>k=b
 | .int i=>k=(i != 0)
 | .str y=>y.length<=sizeLine/\k=((y.length:Int) != 0)
 | .byt y=>y.size<=sizeLine/\k=((y.size:Int) != 0)
 | .ref p=>(∃ xs,SqL K H p xs/\k = !xs.isEmpty)\/(∃ xs,SqT K H p xs/\k = !xs.isEmpty)\/∃ kvs,H p=ξ (.dK kvs)/\k = !kvs.isEmpty
 | _=>False
theorem Afx{κ:Type}{kvs:List (κ×V)}{vs:List (κ×aH)}(r:KV kvs vs):(!vs.isEmpty) = !kvs.isEmpty:=by
 cases r <;> rfl
theorem Ux{its:List aH}(r:Vals xs its):(!its.toArray.isEmpty) = !xs.isEmpty:=by
 cases r <;> simp
theorem R9:(sizeLine:Nat) < 2 ^ 63:=by rw[dM];decide
theorem tru_ok:A5g X (fun x H Q=>∃ k,Axd X.K x H k/\Q k H):=by
 intro pins s σ H x v Q I rx h;obtain ⟨k,e,q⟩:=h;have hl:=R9;have hs:sizeLine=16777216:=dM;cases x with
 | non=>
  cases rx;have e':k=false:=e;subst e';exact truthy_none ⟨H,I,q⟩
 | bl b=>
  cases rx;have e':k=b:=e;subst e';exact fA ⟨H,I,q⟩
 | int i=>
  obtain ⟨t,rfl⟩:=rx;have e':k=(i != 0):=e;subst e';exact PySem.P.truthy_int ⟨H,I,q⟩
 | str y=>
  obtain ⟨t,rfl⟩:=rx;obtain ⟨hy,e'⟩:y.length<=sizeLine/\k=((y.length:Int) != 0):=e;subst e';exact PySem.P.truthy_str Ze ⟨H,I.tok _,q⟩
 | byt y=>
  obtain ⟨t,rfl⟩:=rx;obtain ⟨hy,e'⟩:y.size<=sizeLine/\k=((y.size:Int) != 0):=e;subst e';exact PySem.W.truthy_bytes Ze ⟨H,I.tok _,q⟩
 | ref p=>
  cases rx;have e':(∃ xs,SqL X.K H p xs/\k = !xs.isEmpty)\/(∃ xs,SqT X.K H p xs/\k = !xs.isEmpty)\/∃ kvs,H p=ξ (.dK kvs)/\k = !kvs.isEmpty:=e;rcases e' with ⟨xs,hx,e'⟩ | ⟨xs,hx,e'⟩ | ⟨kvs,hx,e'⟩
  ·subst e';obtain ⟨its,r,pl,hz⟩:=I.list hx;have hlen:=r.length;exact wpAny_truthy_list pl.isList (by simp only[aT];omega) ⟨H,I.tok _,by rw[Ux r];exact q⟩
  ·subst e';obtain ⟨its,r,pl,hz⟩:=I.tuple hx;have hlen:=r.length;exact truthy_tuple pl (by simp only[aT];omega) ⟨H,I.tok _,by rw[Ux r];exact q⟩
  ·subst e';obtain ⟨hz,hS,vs,r,m⟩:kvs.length<=sizeLine/\(p == sysModules)=false/\∃ vs,KV kvs vs/\s.heap.DictOf (C9 X.prog X.w) p vs:=I.hok p _ hx;have hlen:kvs.length=vs.length:=nB r;exact wpAny_truthy_dict hS m Ze ⟨H,I.tok _,by rw[Afx r];exact q⟩
 | _=>exact (show False from e).elim
theorem Amv(ha:PE X a ta)(he:∀ whole,isTrue a X.env whole=(do let v <- whole;standAt a.pos;holding [v] (truthy v))) :
  PT X a (fun σ H Q=>ta σ H fun x H'=>∃ k,Axd X.K x H' k/\Q k H'):=by
 intro pins s σ H Q I h;exact isTrue_plain (thn ZU fun v s1 zz=>by obtain ⟨x,H1,I1,r1,q1⟩:=zz;exact tru_ok pins s1 σ H1 x v Q I1 r1 q1) (he _)
theorem Aey:OpR X (gP .Add) (fun x y H Q=>∃ i j,x = .str i/\y = .str j/\i.length+j.length<=sizeLine/\Q (.str (i++j)) H):=by
 intro pins s σ H x y v u Q I rx ry h;obtain ⟨i,j,rfl,rfl,hz,q⟩:=h;obtain ⟨t,rfl⟩:=rx;obtain ⟨t',rfl⟩:=ry;exact add_str (fun t' tk=>⟨.str (i++j),H,I.tok _,⟨_,rfl⟩,q⟩) hz
theorem Jw{x:V}(r:Vals [x] us):∃ u,us=[u]/\RelV x u:=by
 cases r with
 | cons r1 r2=>cases r2;exact ⟨_,rfl,r1⟩
theorem Agu{x:V}(r:Vals [x,y] us):∃ u w',us=[u,w']/\RelV x u/\RelV y w':=by
 cases r with
 | cons r1 r2=>
  cases r2 with
  | cons r3 r4=>cases r4;exact ⟨_,_,rfl,r1,r3⟩
theorem Aj3(hc:X.calm=true):CallR X (.builtin "max") (fun xs H Q=>∃ i j,xs=[.int i,.int j]/\Q Zc4 H):=by
 intro pins s σ H xs us Q I r h;obtain ⟨i,j,rfl,q⟩:=h;obtain ⟨u,w',rfl,⟨t,rfl⟩,⟨t',rfl⟩⟩:=Agu r;refine max_two_ints ZaM fun h' tk k=>⟨_,H,I.kept k,?_,q⟩
 by_cases hj:j > i
 ·rw[if_pos hj,if_pos hj];exact ⟨_,rfl⟩
 ·rw[if_neg hj,if_neg hj];exact ⟨_,rfl⟩
theorem Aiu(hc:X.calm=true):CallR X (.builtin "min") (fun xs H Q=>∃ i j,xs=[.int i,.int j]/\Q Zc5 H):=by
 intro pins s σ H xs us Q I r h;obtain ⟨i,j,rfl,q⟩:=h;obtain ⟨u,w',rfl,⟨t,rfl⟩,⟨t',rfl⟩⟩:=Agu r;refine min_two_ints ZaM fun h' tk k=>⟨_,H,I.kept k,?_,q⟩
 by_cases hj:j < i
 ·rw[if_pos hj,if_pos hj];exact ⟨_,rfl⟩
 ·rw[if_neg hj,if_neg hj];exact ⟨_,rfl⟩
theorem Aj6:CallR X (.type "int") (fun xs H Q=>(∃ i,xs=[.int i]/\Q (.int i) H)\/∃ k,xs=[.bl k]/\Q (.int Zcn) H):=by
 intro pins s σ H xs us Q I r h;rcases h with ⟨i,rfl,q⟩ | ⟨k,rfl,q⟩
 ·obtain ⟨u,rfl,t,rfl⟩:=Jw r;exact call_int_int ⟨.int i,H,I,⟨_,rfl⟩,q⟩
 ·obtain ⟨u,rfl,r1⟩:=Jw r;cases r1;exact call_int_bool ⟨.int Zcn,H,I.tok _,⟨_,rfl⟩,q⟩
def Ay6(K:aF)(x:V)(H:Hp)(n:Nat):Prop:=
 match x with
 | .str y=>y.length<=sizeLine/\n=y.length
 | .byt y=>y.size<=sizeLine/\n=y.size
 | .ref p=>(∃ xs,SqL K H p xs/\n=xs.length)\/∃ xs,SqT K H p xs/\n=xs.length
 | _=>False
theorem B6:CallR X (.builtin "len") (fun xs H Q=>∃ x n,xs=[x]/\Ay6 X.K x H n/\Q (.int n) H):=by
 intro pins s σ H xs us Q I r h;obtain ⟨x,n,rfl,e,q⟩:=h;obtain ⟨u,rfl,rx⟩:=Jw r;have hl:=R9;have hs:sizeLine=16777216:=dM;cases x with
 | str y=>
  obtain ⟨t,rfl⟩:=rx;obtain ⟨hy,e'⟩:y.length<=sizeLine/\n=y.length:=e;subst e';exact len_str Ze ⟨.int _,H,I.tok _,⟨_,rfl⟩,q⟩
 | byt y=>
  obtain ⟨t,rfl⟩:=rx;obtain ⟨hy,e'⟩:y.size<=sizeLine/\n=y.size:=e;subst e';exact PySem.W.len_bytes Ze ⟨.int _,H,I.tok _,⟨_,rfl⟩,q⟩
 | ref p=>
  cases rx;have e':(∃ xs,SqL X.K H p xs/\n=xs.length)\/∃ xs,SqT X.K H p xs/\n=xs.length:=e;rcases e' with ⟨xs,hx,e'⟩ | ⟨xs,hx,e'⟩
  ·subst e';obtain ⟨its,r',pl,hz⟩:=I.list hx;have hlen:=r'.length;exact Calls.call_len_list pl.isList (by simp only[aT];omega) ⟨.int xs.length,H,I.tok _,⟨_,by simp only[aT];rw[hlen]⟩,q⟩
  ·subst e';obtain ⟨its,r',pl,hz⟩:=I.tuple hx;have hlen:=r'.length;exact len_tuple pl (by simp only[aT];omega) ⟨.int xs.length,H,I.tok _,⟨_,by simp only[aT];rw[hlen]⟩,q⟩
 | _=>exact (show False from e).elim
end
structure ObjM(h:Heap)(x dx C:Addr)(mA:Str->Option aH):Prop where
 obj:h.get? x=ξ (gF C dx)
 ns:h.Ns1 dx mA
 ne:dx≠x
variable {dx:Addr}{mA:Str->Option aH}
theorem Akc(n:h.Ns1 dx mA):∃ od,h.get? dx=ξ od/\∀ name,mJ name od=ξ (mA name):=by
 obtain ⟨o,es,ep,ho,hd,hk,_,hm⟩:=n;refine ⟨o,ho,fun name=>?_⟩;have e:=hm name;unfold nsFind findBy at e;rw[<- Array.find?_toList] at e;unfold mJ;rw[hd];dsimp only;split
 ·rename_i y q;rw[q] at e;exact congrArg ξ e
 ·rename_i q;rw[q] at e;have a:es.toList.any (·.refKey)=false:=by
   rw[List.any_eq_false];intro y hy;obtain ⟨z,t,hkey⟩:=hk y (Array.mem_toList_iff.mp hy);simp[pR.refKey,hkey]
  have a':¬ es.toList.any (·.refKey)=true:=by rw[a];exact dG
  rw[if_neg a'];exact congrArg ξ e
variable {C:Addr}
theorem ObjM.look{x:Addr}(I:ObjM h x dx C mA):∃ od,PySem.W.InstAt h x (gF C dx) C (ξ od)/\∀ name,mJ name od=ξ (mA name):=
 let ⟨od,ho,hl⟩:=Akc I.ns
 ⟨od,⟨I.obj,rfl,rfl,ho⟩,hl⟩
variable {f:Addr}{pl:Sem Bool}{kw:List (Str×aH)}
section
variable {prog:cC}{x:Addr}{name:Str}{v:aH}
theorem Apv{expr:Bool}(X:K.In s.heap)(I:ObjM s.heap x dx C mA)(hg:kK K C name=true)(hh:iQ K C=true)
  (ha:cQ K (.ref C) name=ξ ψ) (hv:mA name=ξ v) (hv':rS v=true) (h:Q v { s with toks:=s.toks+1 }) :
  wpAny Zu A (getAttr (.ref x) name expr) Q E s:=by
 obtain ⟨od,J,hl⟩:=I.look;exact PySem.W.get_value X J (lW hg).1 (PySem.W.findObj_own hh ha rfl (by rw[hl,hv])) hv' h
theorem Amt{Q:aH×List aH->aN->Prop}(X:K.In s.heap)(I:ObjM s.heap x dx C mA)(hg:kK K C name=true)
  (hf:cQ K (.ref C) name=ξ ZcX) (ht:lZ K (.ref f)=true) (hv:mA name=ψ) (h:Q (.ref f,[.ref x]) s) :
  wpAny Zu A (getMethod (.ref x) name pl) Q E s:=by
 obtain ⟨od,J,hl⟩:=I.look;exact PySem.W.method_fn X J (lW hg).1 (lW hg).2 hf (beq_iff_eq.mp ht) (by show (mJ name od).map (·.isSome)=ξ false;rw[hl,hv];rfl) h
theorem Aq0{ns:List Str}{Q:Unit->aN->Prop}(X:K.In s.heap)(I:ObjM s.heap x dx C mA)
  (hs:cQ K (.ref C) "__setattr__" = ξ (ξ (.builtin "object.__setattr__"))) (hp:qR K C=true) (ht:oN K C name=ξ ψ) (hh:iQ K C=true)
  (hw:qQ mA ns) (hsz:ns.length<=sizeLine)
  (h:∀ h',ObjM h' x dx C (fun y=>if y=name then ξ v else mA y)->iV dx s.heap h'->Q () { s with heap:=h',toks:=s.toks+2 }) :
  wpAny Zu A (setAttr (.ref x) name v) Q E s:=by
 obtain ⟨od,J,hl⟩:=I.look;refine PySem.W.set_plain X J hs (PySem.W.osa_open (s:={ s with toks:=s.toks+1 }) (r:=ψ) X J hp ht fun b=>?_);obtain ⟨cd,hc,hd'⟩:=PySem.W.any_some hh;have hx:s.heap.get? x=ξ ⟨.ref C,ξ dx,.plain,#[]⟩:=I.obj;refine aD (bB (aD (aD (wpAny_loadPart hx (aD (vI.here (s:={ s with toks:=s.toks+1 }) (PySem.W.looks_clsIn X hc) ?_))))));rw[hd'];refine bB (a:=ξ dx) (aD (bB (aD ?_)));refine wpAny_nsSet1 (s:={ s with toks:=s.toks+1 }) I.ns fun h' hn2 hs2=>?_
 obtain ⟨oD,esD,epD,hoD,hdD,hcD⟩:=hn2.count (qQ.cons name v hw);refine aD (wpAny_lookBehind hoD (by rw[hdD];exact pastItsLine_dict (bW hcD (by rw[aM];omega))) ?_)
 exact bB (h _ ⟨(hs2.2 _ (gY I.ne)).trans I.obj,hn2,I.ne⟩ hs2)
theorem Aom{R:Result->aN->Prop}{vs:List aH}{kw:List (Str×aH)}(X:K.In s.heap)(hm:jK K C=true)
  (hi:cQ K (.ref C) "__init__" = ξ ZcX) (hf:PySem.W.typeIn K (.ref f)=ξ (.type "function"))
  (h:kT Zu (A.under (.builtin "type.__call__" ⟨.ref C::vs,kw⟩)) (.call (.ref f) ⟨.ref Zl::vs,kw⟩) (PySem.W.InitBack Zl R)
   { s with heap:=(s.heap.push eF).push ZcQ }) :
  kT Zu A (.call (.ref C) ⟨vs,kw⟩) R s:=by
 obtain ⟨hh,g,d,t,os⟩:=s;exact PySem.W.make_core (PySem.W.makes_of X hm) (PySem.W.looks_findIn X hi) (fun self=>PySem.W.bind_fn X self hf) (.inl rfl) h
end
noncomputable def Kj(f:Str)(v:V):List (Str×V)->List (Str×V)
 | []=>[(f,v)]
 | (g,x)::r=>if g=f then (g,v)::r else (g,x)::Kj f v r
theorem Ta(f g:Str)(v:V):∀ fs:List (Str×V),(Kj f v fs).lookup g=if g=f then ξ v else fs.lookup g
 | []=>by
  show eV g [(f,v)]=_;by_cases h:g=f
  ·have hb:(g == f)=true:=beq_iff_eq.mpr h;simp only[eV,hb,if_pos h]
  ·have hb:(g == f)=false:=beq_eq_false_iff_ne.mpr h;simp only[eV,hb,if_neg h]
 | (k,x)::r=>by
  have ih:=Ta f g v r;rw[show Kj f v ((k,x)::r)=(if k=f then (k,v)::r else (k,x)::Kj f v r) from rfl];by_cases hk:k=f
  ·rw[if_pos hk];by_cases h:g=k
   ·have hb:(g == k)=true:=beq_iff_eq.mpr h;simp only[eV,hb,if_pos (h.trans hk)]
   ·have hb:(g == k)=false:=beq_eq_false_iff_ne.mpr h;simp only[eV,hb,if_neg (fun e:g=f=>h (e.trans hk.symm))]
  ·rw[if_neg hk];by_cases h:g=k
   ·have hb:(g == k)=true:=beq_iff_eq.mpr h;simp only[eV,hb,if_neg (fun e:g=f=>hk (h.symm.trans e))]
   ·have hb:(g == k)=false:=beq_eq_false_iff_ne.mpr h;simp only[eV,hb];exact ih
theorem Rz(f:Str)(v:V):∀ fs:List (Str×V),f∈(Kj f v fs).map (·.1)/\∀ g,g∈fs.map (·.1)->g∈(Kj f v fs).map (·.1)
 | []=>⟨by simp[Kj],fun g h=>by simp at h⟩
 | (k,x)::r=>by
  obtain ⟨i1,i2⟩:=Rz f v r;rw[show Kj f v ((k,x)::r)=(if k=f then (k,v)::r else (k,x)::Kj f v r) from rfl];by_cases hk:k=f
  ·rw[if_pos hk];subst hk;exact ⟨Za,fun g h=>by simpa using h⟩
  ·rw[if_neg hk];refine ⟨?_,fun g h=>?_⟩
   ·rw[aI];exact aO _ i1
   ·rw[aI] at h ⊢;rcases bG.mp h with e | e
    ·exact bG.mpr (.inl e)
    ·exact aO _ (i2 g e)
theorem Tp(f:Str)(v:V):∀ fs:List (Str×V),(Kj f v fs).length<=fs.length+1
 | []=>by simp[Kj]
 | (k,x)::r=>by
  have ih:=Tp f v r;rw[show Kj f v ((k,x)::r)=(if k=f then (k,v)::r else (k,x)::Kj f v r) from rfl];by_cases hk:k=f
  ·rw[if_pos hk,aM,aM];omega
  ·rw[if_neg hk,aM,aM];omega
theorem RelO.some_of{o:Option aH}(r:RelO (ξ v) o):∃ u,o=ξ u/\RelV v u:=by
 cases o with
 | none=>exact (show False from r).elim
 | some u=>exact ⟨u,rfl,r⟩
theorem RelO.none_of{o:Option aH}(r:RelO ψ o):o=ψ:=by
 cases o with
 | none=>rfl
 | some u=>exact (show False from r).elim
theorem Aku(r:RelV v u):rS u=true:=by
 cases v with
 | non=>cases (show u=eD from r);rfl
 | bl b=>cases (show u=tL b from r);rfl
 | int i=>obtain ⟨t,e⟩:=(show ∃ t,u=pQ i t from r);cases e;rfl
 | str x=>obtain ⟨t,e⟩:=(show ∃ t,u=mG x t from r);cases e;rfl
 | byt b=>obtain ⟨t,e⟩:=(show ∃ t,u=vT b t from r);cases e;rfl
 | flt b=>obtain ⟨t,e⟩:=(show ∃ t,u=vU b t from r);cases e;rfl
 | ref a=>cases (show u=cW a from r);rfl
 | ty n=>cases (show u=iK n from r);rfl
section
variable {fs fs':List (Str×V)}
theorem Aa6(hok:HOk P w H h)(e:H a=ξ ZbD):∃ mA,ObjM h a dx C mA/\(∀ f,RelO (fs.lookup f) (mA f))/\qQ mA (fs.map (·.1))/\fs.length<=1000/\H dx=ξ (.own a):=by
 obtain ⟨d,z,ne,ob,mA,n,r,q⟩:=(show ObjOk P w H h a ZbD from hok a _ e);exact ⟨mA,⟨ob,n,ne⟩,r,q,z,d⟩
end
structure Cls(K:aF)(C:Addr):Prop where
 pg:kK K C jQ=true
 hd:iQ K C=true
 po:qR K C=true
 sa:cQ K (.ref C) "__setattr__" = ξ (ξ (.builtin "object.__setattr__"))
theorem Cls.get(c:Cls K C)(f:Str):kK K C f=true:=c.pg
def NoAttr(K:aF)(C:Addr)(f:Str):Prop:=cQ K (.ref C) f=ξ ψ
theorem NoAttr.taker{f:Str}(n:NoAttr K C f):oN K C f=ξ ψ:=by
 unfold oN;rw[show cQ K (.ref C) f=ξ ψ from n];rfl
structure Con(K:aF)(C:Addr)(f:Str)(v:V)(u:aH):Prop where
 at_:cQ K (.ref C) f=ξ (ξ u)
 rel:RelV v u
 get:iR K u "__get__" = ξ ψ
 cp:PySem.W.copiedNames.contains f=false
structure Meth(K:aF)(C:Addr)(m:Str)(f:Addr):Prop where
 at_:cQ K (.ref C) m=ξ ZcX
 fn:lZ K (.ref f)=true
 kp:dZ K (.ref f)=true
variable {m:Str}
section
variable {fs:List (Str×V)}{f:Str}
theorem Af2{b:Bool}(I:Inv X pins σ H s)(e:H a=ξ ZbD)(c:Cls X.K C)(n:NoAttr X.K C f)(l:fs.lookup f=ξ v)
  (h:∀ u s',Inv X pins σ H s'->RelV v u->Q u s'):wpAny Zf A (getAttr (.ref a) f b) Q E s:=by
 obtain ⟨mA,O,r,_,_,_⟩:=Aa6 I.hok e;obtain ⟨u,hu,ru⟩:=RelO.some_of (v:=v) (o:=mA f) (by rw[<- l];exact r f);exact Apv I.kIn O (c.get f) c.hd n hu (Aku ru) (h u _ (I.tok _) ru)
theorem Vh{g:Addr}{Q:aH×List aH->aN->Prop}(I:Inv X pins σ H s)(e:H a=ξ ZbD)(c:Cls X.K C)(k:Meth X.K C m g)(l:fs.lookup m=ψ)
  (h:Q (.ref g,[.ref a]) s):wpAny Zf A (getMethod (.ref a) m pl) Q E s:=by
 obtain ⟨mA,O,r,_,_,_⟩:=Aa6 I.hok e;have hn:mA m=ψ:=RelO.none_of (by rw[<- l];exact r m);exact Amt I.kIn O (c.get m) k.at_ k.fn hn h
theorem Afw{Q:Unit->aN->Prop}(I:Inv X pins σ H s)(e:H a=ξ ZbD)(c:Cls X.K C)(n:NoAttr X.K C f)(hl:fs.length < 1000)(ry:RelV y u)
  (h:∀ s',Inv X pins σ (upd H a (.ins C dx (Kj f y fs))) s'->Q () s'):wpAny Zf A (setAttr (.ref a) f u) Q E s:=by
 obtain ⟨mA,O,r,wi,_,ho⟩:=Aa6 I.hok e;have hz:(fs.map (·.1)).length<=sizeLine:=by rw[aL,dM];omega
 refine Aq0 I.kIn O c.sa c.po n.taker c.hd wi hz fun h' O' sb=>h _ ?_
 have hd:∃ o,h'.get? dx=ξ o:=let ⟨o,_,_,e',_⟩:=O'.ns;⟨o,e'⟩
 refine I.write (x:=a) (e:=dx) (by rw[e];exact kL) (.inr ho) (fun b q hb z=>(sb.2 b hb).trans z) hd ?_;refine ⟨by rw[Bq O.ne];exact ho,?_,O.ne,O'.obj,_,O'.ns,fun g=>?_,fun g hg=>?_⟩
 ·have:=Tp f y fs;omega
 ·show RelO ((Kj f y fs).lookup g) (if g=f then ξ u else mA g);rw[Ta];by_cases q:g=f
  ·rw[if_pos q,if_pos q];exact ry
  ·rw[if_neg q,if_neg q];exact r g
 ·by_cases q:g=f
  ·rw[q];exact (Rz f y fs).1
  ·refine (Rz f y fs).2 g (wi g fun z=>hg ?_);show (if g=f then ξ u else mA g)=ψ;rw[if_neg q];exact z
theorem Inv.made(I:Inv X pins σ H s):Inv X pins σ (upd (upd H s.heap.objs.size (.own Zl)) Zl (.ins C s.heap.objs.size []))
  { s with heap:=(s.heap.push eF).push ZcQ }:=by
 have e1:(s.heap.push eF).get? s.heap.objs.size=ξ eF:=aX s.heap rfl;have e2:((s.heap.push eF).push ZcQ).get? Zl=ξ ZcQ:=by
  have:=aX (s.heap.push eF) (o:=gF C s.heap.objs.size) rfl;rwa [dR] at this
 have e3:(s.heap.push eF).Ns s.heap.objs.size (fun _=>ψ):=⟨eF,#[],_,e1,rfl,(fun e he=>absurd he Za),fun _=>rfl⟩;have I1:=I.laid (a:=s.heap.objs.size) (o:=.own Zl) (h':=s.heap.push eF) (t':=s.toks) (fun b u q=>aC _ q) (aP _) ⟨_,e1⟩;refine I1.laid (a:=s.heap.objs.size+1) (o:=.ins C s.heap.objs.size []) (t':=s.toks) (fun b u q=>aC _ q) (qS (dR _ _)) ?_;have ne:s.heap.objs.size≠s.heap.objs.size+1:=cF (gO _);refine ⟨by rw[Bq ne,upd_same],eG _,ne,e2,fun _=>ψ,(Heap.Ns1.of_empty e3).at fun o q=>aC _ q,fun _=>kL,fun y hy=>absurd rfl hy⟩
theorem Ar3{prog:cC}{env:Env}{f:Str}(hb:attributeBase e f env (eval e env)=eval e env)
  (h:wpAny Zu A (eval e env) (fun o s₁=>wpAny Zu A (getAttr o f true) Q E s₁) E s):wpAny Zu A (eval (.Attribute e f pos) env) Q E s:=
 Attribute_any_ h (by rw[arm_eval_Attribute,hb])
end
inductive FldR(K:aF)(f:Str)(Q:VK)(x:V)(H1:Hp):Prop
 | mk (a:_) (C:_) (dx:_) (fs:_) (v:_) (h0:x = .ref a) (h1:H1 a=ξ (.ins C dx fs)) (h2:Cls K C) (h3:NoAttr K C f) (h4:fs.lookup f=ξ v) (h5:Q v H1):FldR K f Q x H1
def A3p(K:aF)(ta:TE)(f:Str):TE:=fun σ H Q=>ta σ H (FldR K f Q)
def A3x(K:aF)(ta tv:TE)(f:Str):TS:=fun D σ H=>tv σ H fun y H1=>ta σ H1 fun x H2=>∃ a C dx fs,x = .ref a/\H2 a=ξ ZbD/\Cls K C/\NoAttr K C f/\fs.length < 1000 /\
 D.nx σ (upd H2 a (.ins C dx (Kj f y fs)))
section
variable {o value:Expr}{f:Str}{pos' tpos:Pos}{tv:TE}
theorem Awx(he:PE X e ta)(hb:attributeBase e f X.env Zc7=eval e X.env):PE X (.Attribute e f pos) (A3p X.K ta f):=by
 intro pins s σ H Q I h;refine Ar3 hb (thn Zar fun u s1 zz=>?_);obtain ⟨x,H1,I1,rx,a,C,dx,fs,v,ex,ea,c,n,l,q⟩:=zz;subst ex;obtain rfl:u=cW a:=rx;exact Af2 I1 ea c n l fun u' s2 I2 ru=>⟨v,H1,I2,ru,q⟩
theorem Avb(ha:PE X o ta)(hv:PE X value tv)(hs:swapsWith value (ξ (.Attribute o f pos')) pos.line X.env=pure false):PS X (.Assign [.Attribute o f pos'] value pos) (A3x X.K ta tv f):=by
 intro pins s σ H D I h;refine plainObj_wpAny_Assign_Attribute (thn (hv pins s σ H _ I h) fun u s1 zz=>zz.elim fun y H1 I1 ry q=>thn (ha pins s1 σ H1 _ I1 q) fun ov s2 zz=>zz.elim fun x H2 I2 rx zq=>?_) hs;obtain ⟨a,C,dx,fs,ex,ea,c,n,l,q2⟩:=zq;subst ex;obtain rfl:ov=cW a:=rx;exact Afw I2 ea c n l ry fun s3 I3=>⟨σ,_,I3,q2⟩
end
section
variable {c:aH}{b:Bool}
inductive TyOf(K:aF)(H:Hp):V->aH->Prop where
 | non:TyOf K H .non (.type "NoneType")
 | bl (x:Bool):TyOf K H (.bl x) (.type "bool")
 | int (i:Int):TyOf K H (.int i) (.type "int")
 | str (x:Str):TyOf K H (.str x) (.type "str")
 | flt (x:UInt64):TyOf K H (.flt x) (.type "float")
 | lst {a:Addr} {xs:List V} (e:H a=ξ (.lst xs)):TyOf K H (.ref a) (.type "list")
 | frz {a:Addr} {o:Obj} {xs:List V} (e:H a=ξ (.frz o (.lst xs))):TyOf K H (.ref a) (.type "list")
 | tup {a:Addr} {xs:List V} (e:H a=ξ (.tup xs)):TyOf K H (.ref a) (.type "tuple")
 | dK {a:Addr} {kvs:List (Key×V)} (e:H a=ξ (.dK kvs)):TyOf K H (.ref a) (.type "dict")
 | dT {a:Addr} {kvs:List (List Key×V)} (e:H a=ξ (.dT kvs)):TyOf K H (.ref a) (.type "dict")
 | ins {a C dx:Addr} {fs:List (Str×V)} (e:H a=ξ (.ins C dx fs)) (cl:Cls K C) (ha:cQ K (.ref C) "__class__" = ξ (ξ (.builtin "object.__class__")))
   (hn:iR K (.builtin "object.__class__") "__get__" = ξ (ξ (.builtin "getset_descriptor.__get__"))) (htk:oO K (.builtin "object.__class__")=ξ true)
   (hm:qA K C (.type "object")=ξ true):TyOf K H (.ref a) (.ref C)
end
structure Room(k:Nat)(A:eA):Prop where
 hd:A.handled=ψ
 dp:A.depth+3 * k+5 < recursionLimit
 un:A.units+16 * k+200 < cLine
theorem Room.mono(r:Room k A)(h:j<=k):Room j A:=⟨r.hd,by have:=r.dp;omega,by have:=r.un;omega⟩
theorem Room.deeper(r:Room (k+1) A)(env:Env):Room k (A.deeper env):=
 ⟨r.hd,by have:=r.dp;show A.depth+1+3 * k+5 < _;omega,by have:=r.un;show A.units+3+16 * k+200 < _;omega⟩
theorem Room.in1(r:Room (k+1) A):Room k A.in1:=
 ⟨r.hd,by have:=r.dp;show A.depth+3 * k+5 < _;omega,by have:=r.un;show A.units+1+16 * k+200 < _;omega⟩
theorem Agc:(A.under (.builtin "type.__call__" ⟨.ref C::us,kw⟩)).depth=A.depth+1:=by
 first | rfl | simp[qT,Code.weight,Code.isCreation,Code.isGuard,Code.isCaller,vV,qU,guardIds]
theorem Af7:(A.under (.builtin "type.__call__" ⟨.ref C::us,kw⟩)).units=A.units+1:=by
 first | rfl | simp[qT,Code.cUnits,vV,qU]
theorem Room.make(r:Room (k+1) A)(C:Addr)(us:List aH)(kw:List (Str×aH)):Room k (A.under (.builtin "type.__call__" ⟨.ref C::us,kw⟩)):=
 ⟨r.hd,by have:=r.dp;rw[Agc];omega,by have:=r.un;rw[Af7];omega⟩
theorem Room.depth(r:Room k A):A.depth < recursionLimit:=by have:=r.dp;omega
theorem Room.units(r:Room k A):A.units+64 < cLine:=by have:=r.un;omega
def Ap9:TA:=fun _ H Q=>Q [] H
def Atf(ta:TE)(tr:TA):TA:=fun σ H Q=>ta σ H fun x H1=>tr σ H1 fun xs H2=>Q (x::xs) H2
variable {t:TA}
section
theorem Anh:PA X [] Ap9:=fun _ _ _ _ H Q I h=>jY ⟨[],H,I,.nil,h⟩
theorem Ahl(ha:PE X e te)(hr:PA X es t)(hs:bH (e::es) X.env=Zy::bH es X.env:=by rfl):PA X (e::es) (Atf te t):=by
 intro pos pins s σ H Q I h;rw[hs];show wpAny _ _ (spliced (Zy::backTo pos Zat)) _ _ s;refine jO (thn ZU fun u s1 zz=>?_);obtain ⟨x,H1,I1,r1,q1⟩:=zz;refine thn (hr pos pins s1 σ H1 _ I1 q1) fun us s2 zz=>?_
 obtain ⟨xs,H2,I2,r2,q2⟩:=zz;exact ⟨x::xs,H2,I2,.cons r1 r2,q2⟩
def A4l(t:TA):TE:=fun σ H Q=>t σ H fun xs H1=>xs.length<=sizeLine/\∀ p,H1 p=ψ->Q (.ref p) (upd H1 p (.tup xs))
def A3s(t:TA):TE:=fun σ H Q=>t σ H fun xs H1=>xs.length<=sizeLine/\∀ p,H1 p=ψ->Q (.ref p) (upd H1 p (.lst xs))
theorem Avj{x1}(h:PA X es t):PE X (.Tuple es x1 pos) (A4l t):=by
 intro pins s σ H Q I hq;refine wpAny_Tuple_spliced (thn (h pos pins s σ H _ I hq) fun us s1 zz=>zz.elim fun xs H1 I1 r zq=>⟨by rw[<- r.length];exact zq.1,?_⟩);obtain ⟨z,q⟩:=zq;have hf:H1 s1.heap.objs.size=ψ:=I1.hok.fresh (aP _);refine ⟨.ref s1.heap.objs.size,upd H1 s1.heap.objs.size (.tup xs),I1.laid (t':=s1.toks) (fun b u e=>aC _ e) (aP _) ?_,rfl,q _ hf⟩;exact ⟨z,us,r,⟨_,aX _ rfl,rfl,_,rfl⟩⟩
theorem Axk(h:PA X es t):PE X (.List es pos) (A3s t):=by
 intro pins s σ H Q I hq;refine wpAny_List_spliced (thn (h pos pins s σ H _ I hq) fun us s1 zz=>zz.elim fun xs H1 I1 r zq=>⟨by rw[<- r.length];exact zq.1,?_⟩);obtain ⟨z,q⟩:=zq;have hf:H1 s1.heap.objs.size=ψ:=I1.hok.fresh (aP _);refine ⟨.ref s1.heap.objs.size,upd H1 s1.heap.objs.size (.lst xs),I1.laid (t':=s1.toks) (fun b u e=>aC _ e) (aP _) ?_,rfl,q _ hf⟩;exact ⟨z,us,0,r,aX _ rfl⟩
end
abbrev Sp:=List V->Hp->VK->XK->Prop
abbrev CXT:=List Env->Hp->aN->XK->aH->aN->Prop
structure Env0(P:cC)(w:cM)(K:aF)(mg:Str->Option aH)(base:Heap)(A:eA)(outer:List Env)(s:aN)(H:Hp):Prop where
 frames:A.frames=ξ outer
 mod:Mod K mg base
 bs:∀ b o,base.get? b=ξ o->s.heap.get? b=ξ o/\H b=ψ
 bsz:base.objs.size<=s.heap.objs.size
 funs:s.heap.FunFrames base outer
 frf:∀ b∈frs outer,H b=ψ
 hok:HOk P w H s.heap
 bare:lY s.gens
inductive CE(outer:List Env)(P:cC)(w:cM)(H:Hp)(s:aN)(Q:VK)(u:aH)(s':aN):Prop
 | mk (v:V) (H':Hp) (os:s'.os=s.os) (bare:lY s'.gens) (un:Un (frs outer) [] H H' s.heap s'.heap) (hok:HOk P w H' s'.heap) (r:RelV v u) (q:Q v H'):CE outer P w H s Q u s'
def CR(CX:CXT)(outer:List Env)(P:cC)(w:cM)(H:Hp)(s:aN)(Q:VK)(E:XK)(r:Result)(s':aN):Prop:=
 match r with
 | .ok (.ret u)=>CE outer P w H s Q u s'
 | .ok _=>False
 | .error e=>CX outer H s E e s'
structure FnOk(P:cC)(w:cM)(K:aF)(mg:Str->Option aH)(base:Heap)(CX:CXT)(k:Nat)(f:Addr)(fd:dS)(ps:List Str)(sp:Sp):Prop where
 len:∀ vs H Q E,sp vs H Q E->vs.length=ps.length
 run:∀ (A:eA) (outer:List Env) (s:aN) (H:Hp) (args:Args) (us:List aH) (vs:List V) (Q:VK) (E:XK),Room k A->Env0 P w K mg base A outer s H->mB s fd args (ps.zip us)->Vals vs us->sp vs H Q E ->
  kT (model P w) A (.call (.ref f) args) (CR CX outer P w H s Q E) s
variable {mg:Str->Option aH}{base:Heap}{CX:CXT}{fd:dS}{ps:List Str}{sp:Sp}
theorem FnOk.mono(F:FnOk P w K mg base CX j f fd ps sp)(h:j<=k) :
  FnOk P w K mg base CX k f fd ps sp:=⟨F.len,fun A outer s H args us vs Q E hr=>F.run A outer s H args us vs Q E (hr.mono h)⟩
theorem FnOk.imp{sp':Sp}(F:FnOk P w K mg base CX k f fd ps sp)
  (h:∀ vs H Q E,sp' vs H Q E->sp vs H Q E):FnOk P w K mg base CX k f fd ps sp':=
 ⟨fun vs H Q E q=>F.len vs H Q E (h _ _ _ _ q),fun A outer s H args us vs Q E hr he hb hv hs=>F.run A outer s H args us vs Q E hr he hb hv (h _ _ _ _ hs)⟩
variable {outer:List Env}
theorem Env0.make(e:Env0 P w K mg base A outer s H)(C:Addr)(us:List aH)(kw:List (Str×aH)) :
  Env0 P w K mg base (A.under (.builtin "type.__call__" ⟨.ref C::us,kw⟩)) outer s H:=⟨by first | exact e.frames | (simpa[qT,Code.envs,qU,pushEnvs] using e.frames),e.mod,e.bs,e.bsz,e.funs,e.frf,e.hok,e.bare⟩
theorem Env0.in1(e:Env0 P w K mg base A outer s H) :
  Env0 P w K mg base A.in1 outer s H:=⟨e.frames,e.mod,e.bs,e.bsz,e.funs,e.frf,e.hok,e.bare⟩
section
theorem Inv.env0(I:Inv X pins σ H s):Env0 X.prog X.w X.K X.mg X.base X.A X.stack s H:=
 ⟨I.ok.frames,I.ok.mod,I.bs,bW I.ok.bsz I.sz,I.stack,I.stkFree,I.hok,I.bare⟩
theorem Inv.after{Q:VK}(I:Inv X pins σ H s)(h:CE X.stack X.prog X.w H s Q u s'):EP X pins σ Q u s':=by
 obtain ⟨v,H',os,bare,un,hok,r,q⟩:=h;obtain ⟨hh,g,d,t,os'⟩:=s';obtain rfl:os'=s.os:=os;exact ⟨v,H',I.call (h':=hh) (g':=g) (d':=d) (t':=t) (ch:=[]) un hok bare (fun b z=>absurd z Za),r,q⟩
end
def Azb(sp:Sp)(dvs:List V)(E:XK)(t:TA):TE:=fun σ H Q=>t σ H fun vs H1=>sp (vs++dvs) H1 Q E
def Ams(C:Addr)(m:Str)(sp:Sp)(dvs:List V)(E:XK)(ta:TE)(t:TA):TE:=fun σ H Q=>ta σ H fun x H1=>∃ a dx fs,x = .ref a/\H1 a=ξ ZbD/\fs.lookup m=ψ /\
 t σ H1 fun vs H2=>sp (x::(vs++dvs)) H2 Q E
def At6(C:Addr)(sp:Sp)(dvs:List V)(E:XK)(t:TA):TE:=fun σ H Q=>t σ H fun vs H1=>∀ x dx,H1 x=ψ->H1 dx=ψ->dx≠x ->
 sp (.ref x::(vs++dvs)) (upd Zdo x (.ins C dx [])) (fun v H2=>v = .non/\Q (.ref x) H2) E
def Binds(K:aF)(fd:dS)(ps:List Str)(ds:List aH):Prop:=
 ∀ (s:aN) (us:List aH),K.In s.heap->(us++ds).length=ps.length->mB s fd ⟨us,[]⟩ (ps.zip (us++ds))
theorem Binds.all(h:∀ us:List aH,us.length=ps.length->bindArgs fd ⟨us,[]⟩=pure (ps.zip us)):Binds K fd ps []:=fun s us _ hl=>by
 rw[aR] at hl ⊢;exact .of_eq (h us hl)
def P1(CX:CXT)(X:Cx)(E:XK):Prop:=∀ (pins:List (Addr×Obj)) (σ:St) (H:Hp) (s:aN) (e:aH) (s':aN),Inv X pins σ H s->CX X.stack H s E e s'->X.xe e s'
variable {vs:List V}
section
variable {dvs:List V}{ds:List aH}{E:XK}{apos:Pos}{o:Expr}
theorem Agf{pins:List (Addr×Obj)}{σ:St}{H:Hp}{s:aN}{Q:VK}{us:List aH}{vs:List V}(F:FnOk X.prog X.w X.K X.mg X.base CX k f fd ps sp)(hr:Room k X.A)(hb:Binds X.K fd ps ds)(hd:Vals dvs ds)(hx:P1 CX X E)
  (I:Inv X pins σ H s) (r:Vals vs us) (h:sp (vs++dvs) H Q E):wpAny Zf X.A (call (.ref f) us) Zaj X.xe s:=by
 have r2:Vals (vs++dvs) (us++ds):=r.append hd;have hl:(us++ds).length=ps.length:=by rw[<- r2.length];exact F.len _ _ _ _ h
 refine tO (mC (F.run X.A X.stack s H ⟨us,[]⟩ (us++ds) (vs++dvs) Q E hr I.env0 (hb s us I.kIn hl) r2 h) fun r s' hq=>?_);cases r with
 | error e=>exact hx pins σ H s e s' I hq
 | ok fl=>
  cases fl with
  | ret u=>exact I.after hq
  | next=>exact dY hq
  | brk=>exact dY hq
  | cont=>exact dY hq
theorem Ap4(F:FnOk X.prog X.w X.K X.mg X.base CX k f fd ps sp)(hr:Room k X.A)(hg:Gl X x)(hm:X.mg x=ξ (.ref f))(hk:dZ X.K (.ref f)=true)(hb:Binds X.K fd ps ds)(hd:Vals dvs ds)(hx:P1 CX X E)
  (ha:PA X (e::es) t) (hdb:(x == ("__debug__" : Str))=false:=by decide) (he:bH (e::es) X.env=Zy::bH es X.env:=by rfl) (hpl:(backTo pos Zat).any (·.1)=false:=by rfl) :
  PE X Zad (Azb sp dvs E t):=by
 intro pins s σ H Q I h;refine gQ (Uw I hg hm ?_ hdb);refine qI (h₀:=X.base) I.ok.mod.kin hk (thn ZaY fun us s1 zz=>zz.elim fun vs H1 I1 r q=>⟨I1.kIn,?_⟩) he hpl;exact Agf F hr hb hd hx I1 r q
theorem Ap3{pl:Sem Bool}(he:PE X o ta)(c:Cls X.K C)(hm:Meth X.K C m f)(F:FnOk X.prog X.w X.K X.mg X.base CX k f fd ps sp)(hr:Room k X.A)(hb:Binds X.K fd ps ds)(hd:Vals dvs ds)(hx:P1 CX X E)(ha:PA X (e::es) t)
  (hst:bH (e::es) X.env=Zy::bH es X.env:=by rfl) (hpl:(backTo pos Zat).any (·.1)=false:=by rfl)
  (ht:eval Z3 X.env=(do
   let ov <- eval o X.env
   standAt apos.atName
   let (f,first) <- holding [ov] ZbQ
   callWith pos f first (backTo pos ZcS) Zb1):=by rfl) :
  PE X Z3 (Ams C m sp dvs E ta t):=by
 intro pins s σ H Q I h;refine oX (pl:=pl) (thn Zar fun u s1 zz=>zz.elim fun x H1 I1 rx zq=>?_) ht;obtain ⟨a,dx,fs,ex,ea,l,q⟩:=zq;subst ex;obtain rfl:u=cW a:=rx;refine Vh I1 ea c hm l ?_;refine qI (first:=[.ref a]) (h₀:=X.base) I.ok.mod.kin hm.kp (thn (ha pos pins s1 σ H1 _ I1 q) fun us s2 zz=>zz.elim fun vs H2 I2 r q2=>⟨I2.kIn,?_⟩) hst hpl;exact Agf (us:=.ref a::us) (vs:=.ref a::vs) F hr hb hd hx I2 (.cons rfl r) q2
theorem Al2{pl:Sem Bool}(he:PE X o ta)(c:Cls X.K C)(hm:Meth X.K C m f)(F:FnOk X.prog X.w X.K X.mg X.base CX k f fd ps sp)(hr:Room k X.A)(hb:Binds X.K fd ps ds)(hd:Vals dvs ds)(hx:P1 CX X E)
  (ht:eval Zae X.env=(do
   let ov <- eval o X.env
   standAt apos.atName
   let (f,first) <- holding [ov] ZbQ
   callWith pos f first ZdO Zb1):=by rfl) :
  PE X Zae (Ams C m sp dvs E ta Ap9):=by
 intro pins s σ H Q I h;refine oX (pl:=pl) (thn Zar fun u s1 zz=>zz.elim fun x H1 I1 rx zq=>?_) ht;obtain ⟨a,dx,fs,ex,ea,l,q⟩:=zq;subst ex;obtain rfl:u=cW a:=rx;refine Vh I1 ea c hm l ?_;exact pS (first:=[.ref a]) I1.kIn hm.kp (Agf (us:=[.ref a]) (vs:=[.ref a]) F hr hb hd hx I1 (.cons rfl .nil) q)
structure Mk(K:aF)(C f:Addr):Prop where
 makes:jK K C=true
 init:cQ K (.ref C) "__init__" = ξ ZcX
 fn:lZ K (.ref f)=true
 kp:dZ K (.ref C)=true
theorem Alk{pins:List (Addr×Obj)}{σ:St}{H:Hp}{s:aN}{Q:VK}{us:List aH}{vs:List V}(M:Mk X.K C f)(F:FnOk X.prog X.w X.K X.mg X.base CX k f fd ps sp)(hr:Room (k+1) X.A)(hb:Binds X.K fd ps ds)(hd:Vals dvs ds)
  (hx:P1 CX X E) (I:Inv X pins σ H s) (r:Vals vs us)
  (h:∀ x dx,H x=ψ->H dx=ψ->dx≠x->sp (.ref x::(vs++dvs)) (upd (upd H dx (.own x)) x (.ins C dx [])) (fun v H2=>v = .non/\Q (.ref x) H2) E) :
  wpAny Zf X.A (call (.ref C) us) Zaj X.xe s:=by
 have hq:=h Zl s.heap.objs.size (I.hok.fresh (mX _)) Zbf (cF (gO _));have I2:=Inv.made (C:=C) I;have r2:Vals (V.ref Zl::(vs++dvs)) (cW Zl::(us++ds)):=.cons rfl (r.append hd);have hl:(cW Zl::us++ds).length=ps.length:=by
  have e:=r2.length;rw[F.len _ _ _ _ hq] at e;exact e.symm
 refine tO (Aom (f:=f) I.kIn M.makes M.init (beq_iff_eq.mp M.fn) (mC (F.run _ X.stack _ _ ⟨cW Zl::us,[]⟩ (cW Zl::(us++ds)) _ _ E (hr.make C us [])
  (I2.env0.make C us []) (hb _ (cW Zl::us) I2.kIn hl) r2 hq) fun r s' hq'=>?_))
 cases r with
 | error e=>exact hx pins σ _ _ e s' I2 hq'
 | ok fl=>
  cases fl with
  | ret u=>
   obtain ⟨v,H',I3,rv,ev,q3⟩:=I2.after hq';subst ev;exact ⟨rv,⟨V.ref Zl,H',I3,rfl,q3⟩⟩
  | next=>exact dY hq'
  | brk=>exact dY hq'
  | cont=>exact dY hq'
theorem Ang(M:Mk X.K C f)(F:FnOk X.prog X.w X.K X.mg X.base CX k f fd ps sp)(hr:Room (k+1) X.A)(hg:Gl X x)(hm:X.mg x=ξ (.ref C))(hb:Binds X.K fd ps ds)(hd:Vals dvs ds)(hx:P1 CX X E)
  (hdb:(x == ("__debug__" : Str))=false:=by decide):PE X (.Call (.Name x p) [] [] pos) (At6 C sp dvs E Ap9):=by
 intro pins s σ H Q I h;refine gQ (Uw I hg hm ?_ hdb);exact pS I.kIn M.kp (Alk (us:=[]) M F hr hb hd hx I .nil h)
end
def PK(X:Cx)(kws:List iS)(t:TA):Prop:=
 ∀ (pos:Pos) (pins:List (Addr×Obj)) (s:aN) (σ:St) (H:Hp) (Q:List V->Hp->Prop),Inv X pins σ H s->t σ H Q->wpAny Zf X.A (evalAll ((backToKw pos (keywordEach kws X.env)).map (·.2))) (AP X pins σ Q) X.xe s
section
variable {ks:List Str}{E:XK}{apos kpos:Pos}{o:Expr}{kws:List iS}{tk:TA}{nm:Option Str}
theorem Aww:PK X [] Ap9:=fun _ _ _ _ H Q I h=>wpAny_evalAll_nil ⟨[],H,I,.nil,h⟩
theorem Aqy(ha:PE X e te)(hr:PK X kws t):PK X (⟨nm,e,kpos⟩::kws) (Atf te t):=by
 intro pos pins s σ H Q I h;show wpAny _ _ (evalAll ((do let v <- eval e X.env;standAt pos;pure v)::(backToKw pos (keywordEach kws X.env)).map (·.2))) _ _ s;refine wpAny_evalAll_cons (aD (thn ZU fun u s1 zz=>zz.elim fun x H1 I1 r1 q1=>aD (kR (bB ?_))));refine thn (hr pos pins s1 σ H1 _ I1 q1) fun us s2 zz=>?_
 obtain ⟨xs,H2,I2,r2,q2⟩:=zz;exact ⟨x::xs,H2,I2,.cons r1 r2,q2⟩
structure KBinds(K:aF)(fd:dS)(ps ks:List Str)(g:List aH->List aH->List aH)(gV:List V->List V->List V):Prop where
 to:∀ (s:aN) (us ws:List aH),K.In s.heap->(g us ws).length=ps.length->mB s fd ⟨us,ks.zip ws⟩ (ps.zip (g us ws))
 rel:∀ {vs:List V} {us:List aH} {zs:List V} {ws:List aH},Vals vs us->Vals zs ws->Vals (gV vs zs) (g us ws)
variable {g:List aH->List aH->List aH}{gV:List V->List V->List V}
end
structure FnScope(N P:List Str)(sc:mW):Prop where
 kind:sc.kind = .function
 co:sc.isCoroutine=false
 gen:sc.isGenerator=false
 nd:N.Nodup
 pre:N.take P.length=P
 par:∀ x∈P,sc.names.lookup x=ξ .local\/sc.names.lookup x=ξ .cell
 nofree:∀ y∈sc.names,y.2≠.free
variable {kindOf:Str->Option jZ}
theorem Yl:∀ {binds:List (Str×aH)} {m:Str->Option aH},(∀ v,(x,v)∉binds)->bindL kindOf binds m x=m x
 | [],_,_=>rfl
 | (n,v)::r,m,h=>by
  unfold bindL;rw[Yl fun w hw=>h w (aO _ hw)];split
  ·have:x≠n:=by rintro rfl;exact h v aU
   simp[this]
  ·rfl
theorem Y7:∀ {binds:List (Str×aH)} {m:Str->Option aH},(∀ v,(x,v)∉binds)->bindC kindOf binds m x=m x
 | [],_,_=>rfl
 | (n,v)::r,m,h=>by
  unfold bindC;rw[Y7 fun w hw=>h w (aO _ hw)];split
  ·rfl
  ·have:x≠n:=by rintro rfl;exact h v aU
   simp[this]
theorem X3{kindOf:Str->Option jZ}{x:Str}{v:aH}:∀ {P:List Str} {vs:List aH} {i:Nat} {m:Str->Option aH},P.Nodup->P[i]? = ξ x->vs[i]? = ξ v->kindOf x=ξ .local ->
  bindL kindOf (P.zip vs) m x=ξ v
 | [],_,_,_,_,h,_,_=>by simp at h
 | _::_,[],_,_,_,_,h,_=>by simp at h
 | p::P,w::vs,0,m,nd,h1,h2,hk=>by
  simp at h1 h2;subst h1;subst h2;show bindL kindOf ((p,w)::P.zip vs) m p=_;unfold bindL;rw[Yl fun v hv=>(fH.mp nd).1 (oP hv).1,if_pos hk];simp
 | p::P,w::vs,i+1,m,nd,h1,h2,hk=>by
  show bindL kindOf ((p,w)::P.zip vs) m x=_;unfold bindL;exact X3 (i:=i) (fH.mp nd).2 (by simpa using h1) (by simpa using h2) hk
theorem Y4{kindOf:Str->Option jZ}{x:Str}{v:aH}:∀ {P:List Str} {vs:List aH} {i:Nat} {m:Str->Option aH},P.Nodup->P[i]? = ξ x->vs[i]? = ξ v->kindOf x≠ξ .local ->
  bindC kindOf (P.zip vs) m x=ξ v
 | [],_,_,_,_,h,_,_=>by simp at h
 | _::_,[],_,_,_,_,h,_=>by simp at h
 | p::P,w::vs,0,m,nd,h1,h2,hk=>by
  simp at h1 h2;subst h1;subst h2;show bindC kindOf ((p,w)::P.zip vs) m p=_;unfold bindC;rw[Y7 fun v hv=>(fH.mp nd).1 (oP hv).1,if_neg hk];simp
 | p::P,w::vs,i+1,m,nd,h1,h2,hk=>by
  show bindC kindOf ((p,w)::P.zip vs) m x=_;unfold bindC;exact Y4 (i:=i) (fH.mp nd).2 (by simpa using h1) (by simpa using h2) hk
def start(N:List Str)(vs:List V):St:=vs.map ξ++bP (N.length - vs.length) ψ
def Ae9(CX:CXT)(P:cC)(w:cM)(K:aF)(mg:Str->Option aH)(base:Heap)(N:List Str)(qual:Str)(scope:mW)(f:Addr)(cd:aH)(A:eA)(outer:List Env)(s:aN)(H:Hp)(E:XK):Cx where
 prog:=P
 w:=w
 K:=K
 mg:=mg
 base:=base
 A:=A.deeper ZbW
 N:=N
 s₀:=s
 H₀:=H
 env:=envOfC qual scope s.heap.objs.size f cd
 outer:=outer
 stack:=envOfC qual scope s.heap.objs.size f cd::outer
 ex:=[]
 calm:=true
 fn:=fun _=>true
 pn:=[]
 xe:=fun e s'=>wpAny (model P w) (A.deeper ZbW) (leaving ZbW e) (fun _ s''=>CX outer H s E e s'') (fun e' s''=>CX outer H s E e' s'') s'
theorem Ack{sc:mW}{n:Nat}(h:sc.names.lookup x=ξ .cell):∃ c,(cellsFrom n sc.names []).lookup x=ξ c:=by
 have q:=oA sc.names n [] (.inl h);exact nC.mp q
theorem Ajt{N:List Str}{qual:Str}{scope:mW}{cd:aH}{s1:aN}{E:XK}
  (S:FnScope N ps scope) (hd:A.handled=ψ) (e0:Env0 P w K mg base A outer s H) (hl:vs.length=ps.length) (r:Vals vs us)
  (x:InCallC s s.heap.objs.size (bindL (envOfC qual scope s.heap.objs.size f cd).kindOf (ps.zip us) fun _=>ψ) (cellsFrom Zl scope.names []) (bindC (envOfC qual scope s.heap.objs.size f cd).kindOf (ps.zip us) fun _=>ψ) s1) :
  Inv (Ae9 CX P w K mg base N qual scope f cd A outer s H E) [] ZdU H s1:=by
 have hpl:ps.length<=N.length:=by have:=congrArg iI S.pre;rw[fL] at this;omega
 obtain ⟨h1,tk,rfl,hk⟩:=x.done;have noA:∀ b:Addr,b∉(Ae9 CX P w K mg base N qual scope f cd A outer s H E).ex:=fun b z=>absurd (show b∈([]:List Addr) from z) Za
 refine ⟨⟨e0.mod,S.kind,rfl,rfl,aP _,fun y z c h1 h2=>?_,fun y hy=>?_,fun y c _ h=>?_,fun _=>hd,eA.frames_deeper e0.frames,.inr ⟨rfl,rfl⟩,fun b z=>absurd z (noA b),e0.bs,e0.bsz,fun b _ _=>noA b,fun b z=>absurd z (noA b),e0.funs,e0.frf⟩,
  rfl,e0.bare,Un.kept hk,⟨_,x.toInCall.ns,fun i y v h1 h2 h3=>?_⟩,fun y c h=>⟨_,x.cell y c h⟩,e0.hok.fresh (aP _),fun y c h=>?_,fun p hp=>absurd (show p∈([]:List (Addr×Obj)) from hp) Za,e0.hok.kept hk,?_⟩
 ·exact name_of_addr x.apart (iF h1) (iF h2)
 ·have hy:scope.names.lookup y=ξ .cell\/scope.names.lookup y=ξ .free:=hy;rcases hy with hy | hy
  ·exact Ack hy
  ·exact absurd rfl (S.nofree _ (iF hy))
 ·exact jU (x.above y c (iF h))
 ·have hi:i < vs.length:=by
   unfold start at h2;by_cases hi:i < vs.length
   ·exact hi
   ·rw[dL (by simpa using hi)] at h2;rw[List.getElem?_replicate] at h2;split at h2 <;> cases h2
  have ha:vs[i]? = ξ v:=by
   unfold start at h2;rw[bL (by simpa using hi),bD] at h2;cases e:vs[i]? with
   | none=>rw[e] at h2;cases h2
   | some a=>rw[e] at h2;cases h2;rfl
  obtain ⟨u,hu,rv⟩:=r.get ha;have hp:ps[i]? = ξ y:=by
   rw[<- S.pre,List.getElem?_take_of_lt Ze];exact h1
  have ndP:ps.Nodup:=by rw[<- S.pre];exact S.nd.sublist (List.take_sublist _ _)
  refine ⟨u,rv,?_⟩;rcases S.par y (dN hp) with k | k
  ·exact .inl ⟨k,X3 ndP hp hu k⟩
  ·obtain ⟨c,e⟩:=Ack (n:=s.heap.objs.size+1) k;refine .inr ⟨.inl k,c,e,?_⟩;have q:=x.cell y c e;rw[Y4 ndP hp hu (by show scope.names.lookup y≠_;rw[k];decide)] at q
   exact q
 ·exact e0.hok.fresh (jU (x.above y c (iF h)))
 ·unfold start;show _=N.length;rw[bV,aL,List.length_replicate];omega
theorem Ax3{name qual:Str}{params:Arguments}{scope:mW}{dV kV doc pm cdv ct oc:aH}{an od:Option Addr}
  {osl:Array (Option aH)} {N ps:List Str} {sp:Sp} (lk:K.lookup f=ξ ⟨oc,od,.func (fP name qual params body scope dV kV doc pm an cdv ct),osl⟩) (hcd:kA K cdv qual=true) (S:FnScope N ps scope)
  (len:∀ vs H Q E,sp vs H Q E->vs.length=ps.length)
  (hbody:∀ (A:eA) (outer:List Env) (s:aN) (H:Hp) (vs:List V) (Q:VK) (E:XK),Room k (A.deeper (envOfC qual scope s.heap.objs.size f cdv))->sp vs H Q E ->
   ∃ t,PSs Za9 body t/\t { nx:=fun _ H'=>Q .non H',rt:=Q } (start N vs) H) :
  FnOk P w K mg base CX (k+1) f (fP name qual params body scope dV kV doc pm an cdv ct) ps sp:=by
 refine ⟨len,fun A outer s H args us vs Q E hr e0 hb r hsp=>?_⟩;have hl:=len _ _ _ _ hsp;have KX:K.In s.heap:=e0.mod.kin.keeps fun b o e=>(e0.bs b o e).1
 have lim:s.heap.NoLimit:=e0.mod.nolimit.keeps fun b o e=>(e0.bs b o e).1
 have hkind:∀ y∈ps.zip us,scope.names.lookup y.1=ξ .local\/(scope.names.lookup y.1=ξ .cell/\((cellsFrom Zl scope.names []).lookup y.1).isSome=true):=fun ⟨n,v⟩ hy=>by
  rcases S.par n (oP hy).1 with q | q
  ·exact .inl q
  ·exact .inr ⟨q,oA _ _ _ (.inl q)⟩
 refine codeAny_call_function hr.depth (KX _ _ lk) rfl S.co S.gen rfl (PySem.W.codeRec_of KX hcd) (hb _ _ _ _ ?_);refine wpAny_newFunctionEnv_cells S.kind hkind fun env he s1 x=>?_
 subst he;refine ⟨lim.keeps x.toInCall.keep,codeAny_func ?_⟩;obtain ⟨t,ht,hq⟩:=hbody A outer s H vs Q E (hr.deeper _) hsp;have I:Inv Za9 [] ZdU H s1:=Ajt S hr.hd e0 hl r x;refine eR (ht [] s1 ZdU H _ I hq) (fun fl s' hs=>?_) fun e s' hs=>hs
 have fin:∀ {σ':St} {H':Hp} {v:V} {u:aH},Inv Za9 [] σ' H' s'->RelV v u->Q v H'->CE outer P w H s Q u s':=
  fun {σ' H' v u} J rv q=>⟨v,H',J.os,J.bare,J.base,J.hok,rv,q⟩
 cases fl with
 | ret u=>
  obtain ⟨v,σ',H',J,rv,q⟩:=hs;exact fin J rv q
 | next=>
  obtain ⟨σ',H',J,q⟩:=hs;exact fin (v:=V.non) (u:=eD) J rfl q
 | brk=>
  obtain ⟨_,_,_,q⟩:=hs;exact dY q
 | cont=>
  obtain ⟨_,_,_,q⟩:=hs;exact dY q
section
variable {id T:String}{r:List V->Hp->VK->Prop}
def tCB(r:List V->Hp->VK->Prop)(t:TA):TE:=fun σ H Q=>t σ H fun vs H1=>r vs H1 Q
theorem Aoq(hc:CallR X ZbA r)(hg:Gl X x)(hm:X.mg x=ψ)(hv:iA x=ξ ZbA)(ha:PA X (e::es) t)(hn:x ≠ "__name__" := by decide)(hdb:(x == ("__debug__" : Str))=false:=by decide)
  (he:bH (e::es) X.env=Zy::bH es X.env:=by rfl) (hpl:(backTo pos Zat).any (·.1)=false:=by rfl):PE X Zad (tCB r t):=by
 intro pins s σ H Q I h;refine gQ (P7 I hg hm hv ?_ hn hdb);exact PyProof.Rows.callWith_builtin1 (thn ZaY fun us s1 zz=>by obtain ⟨vs,H1,I1,r1,q1⟩:=zz;exact hc pins s1 σ H1 vs us Q I1 r1 q1) he hpl
theorem Akg(hc:CallR X (.type T) r)(hg:Gl X x)(hm:X.mg x=ψ)(hv:iA x=ξ (.type T))(ha:PA X (e::es) t)(hn:x ≠ "__name__" := by decide)(hdb:(x == ("__debug__" : Str))=false:=by decide)
  (he:bH (e::es) X.env=Zy::bH es X.env:=by rfl) (hpl:(backTo pos Zat).any (·.1)=false:=by rfl):PE X Zad (tCB r t):=by
 intro pins s σ H Q I h;refine gQ (P7 I hg hm hv ?_ hn hdb);exact eY (thn ZaY fun us s1 zz=>by obtain ⟨vs,H1,I1,r1,q1⟩:=zz;exact hc pins s1 σ H1 vs us Q I1 r1 q1) he hpl
end
end L2
namespace HT
open PySem PyProof.Rows
section
open PySem.SeqAt
open PySem.AutoSeq1 (wpAny_loadPart')
open PySem.MeetsSeq PySem.MeetsSeq2 PySem.MeetsSeq3
end
section
variable {prog:cC}{w:cM}{A:eA}{E:aH->aN->Prop}{s:aN}
theorem Aq1{t b:Addr}{vs ws:List aH}{Q:aH->aN->Prop}(ht:IsTup s.heap t vs.toArray)(hb:IsTup s.heap b ws.toArray)(hv:vs≠[])
  (h1:ws=[]->Q (.ref t) s) (h2:ws≠[]->Q Z5 { s with heap:=s.heap.push { cls:=.type "tuple",data:=.seq (vs++ws).toArray } })
  (hsz:vs.length+ws.length<=sizeLine):wpAny Zu A (gP .Add (.ref t) (.ref b)) Q E s:=by
 obtain ⟨⟨cls,dd,data,sl⟩,ho,hc,n,hd⟩:=id ht;obtain ⟨⟨cls2,dd2,data2,sl2⟩,ho2,hc2,n2,hd2⟩:=id hb;simp only at hc hd hc2 hd2;subst hc hd hc2 hd2;have e:vs.toArray++ws.toArray=(vs++ws).toArray:=Za
 by_cases hw:ws=[]
 ·exact concat_meets ⟨_,ho,rfl⟩ ⟨_,ho2,rfl⟩ rT seq_tuple_add oB nN (nD _ _)
   (tuple_addW1 t b vs.toArray ws.toArray n n2 dd dd2 sl sl2 (by simpa using hv) (by simp[hw])) ⟨ho,ho2,h1 hw⟩
 ·refine concat_meets ⟨_,ho,rfl⟩ ⟨_,ho2,rfl⟩ rT seq_tuple_add oB nN (nD _ _)
   (tuple_addW2 t b vs.toArray ws.toArray n n2 dd dd2 sl sl2 (by simpa using hv) (by simpa using hw) (by rw[aT,aT];exact hsz)) ⟨ho,ho2,?_⟩
  rw[e];exact h2 hw
noncomputable def sIx(n d:Nat):Option Int->Nat
 | none=>d
 | some v=>if v < 0 then (v+(n:Int)).toNat else min v.toNat n
theorem Acu(n d:Nat):sIx n d ψ=d:=rfl
theorem Ue(n d k:Nat):sIx n d (ξ (k:Int))=min k n:=by
 show (if (k:Int) < 0 then ((k:Int)+(n:Int)).toNat else min (k:Int).toNat n)=min k n;rw[if_neg Ze,iB]
theorem Awa(n d:Nat)(hd:d<=n)(o:Option Int):sIx n d o<=n:=by
 cases o with
 | none=>exact hd
 | some v=>
  show (if v < 0 then (v+(n:Int)).toNat else min v.toNat n)<=n;by_cases hv:v < 0
  ·rw[if_pos hv];omega
  ·rw[if_neg hv];exact rV _ _
theorem Agr(v:Int)(n d:Nat):(if v < 0 then max (v+(n:Int)) 0 else min v (n:Int))=((sIx n d (ξ v):Nat):Int):=by
 show (if v < 0 then max (v+(n:Int)) 0 else min v (n:Int))=(((if v < 0 then (v+(n:Int)).toNat else min v.toNat n):Nat):Int);by_cases hv:v < 0
 ·simp only[if_pos hv];omega
 ·simp only[if_neg hv];omega
theorem Ae1(lo hi:Option Int)(n:Nat):iZ lo hi 1 (n:Int)=(((sIx n 0 lo:Nat):Int),((sIx n n hi:Nat):Int)):=by
 have h1:¬ ((1:Int) < 0):=Ze
 unfold iZ;simp only[h1,if_false];refine nO ?_ ?_
 ·cases lo with
  | none=>rfl
  | some v=>exact Agr v n 0
 ·cases hi with
  | none=>rfl
  | some v=>exact Agr v n n
theorem Afr(i j:Nat):hU (i:Int) (j:Int) 1=j - i:=by
 unfold hU;have h1:(1:Int) > 0:=Ze
 simp only[h1,if_true,Int.ediv_one];split <;> omega
theorem W2{v:aH}{o:Option Int}{Q:Option Int->aN->Prop}(p:qJ v o)(h:Q o s):wpAny Zu A (kW.Slice.slicePartIndex v) Q E s:=by
 cases p with
 | none=>exact slicePart_none h
 | int i t=>exact slicePart_int h
theorem Sm{sl:Addr}{vl vu:aH}{lo hi:Option Int}{n:Nat}{Q:Int×Int×Nat->aN->Prop}(hs:s.heap.IsSliceOf sl vl vu .none)(pl:qJ vl lo)(pu:qJ vu hi)
  (h:Q (((sIx n 0 lo:Nat):Int),1,sIx n n hi - sIx n 0 lo) s):wpAny Zu A (mK (.ref sl) (pure (n:Int))) Q E s:=by
 obtain ⟨os,hos,hcs,hds⟩:=id hs;unfold mK kW.Slice.sliceFields;refine aD (aD (eI hos hds (x:=vl) rfl (aD (eI hos hds (x:=vu) rfl (aD (eI hos hds (x:=.none) rfl (bB ?_)))))));refine aD (slicePart_none ?_);show wpAny _ _ (if ((1:Int) == 0)=true then _ else _) _ _ s;rw[if_neg Zb];refine aD (W2 pl (aD (W2 pu (aD (bB ?_)))));show wpAny _ _ (match iZ lo hi 1 (n:Int) with | (lo,hi)=>pure (lo,(1:Int),hU lo hi 1)) _ _ s;rw[Ae1 lo hi n];show wpAny _ _ (pure (((sIx n 0 lo:Nat):Int),(1:Int),hU ((sIx n 0 lo:Nat):Int) ((sIx n n hi:Nat):Int) 1)) _ _ s;rw[Afr];exact bB h
theorem Anq(xs:Array aH)(i k:Nat):((bM k).filterMap fun (m:Nat)=>xs[((i:Int)+(m:Int) * 1).toNat]?).toArray=((xs.toList.drop i).take k).toArray:=by
 have e:(fun (m:Nat)=>xs[((i:Int)+(m:Int) * 1).toNat]?)=fun m=>xs[i+m]?:=by
  funext m
  have:((i:Int)+(m:Int) * 1).toNat=i+m:=Ze
  rw[this]
 rw[e];have:=pick_run xs i k;rw[List.filterMap_map] at this;have e2:((fun x=>xs[x]?)∘fun x=>i+x)=fun m=>xs[i+m]?:=rfl
 rw[e2] at this;rw[this]
theorem Qu{t sl:Addr}{items:Array aH}{vl vu:aH}{lo hi:Option Int}{Q:aH->aN->Prop}(ht:IsTup s.heap t items)(hs:s.heap.IsSliceOf sl vl vu .none)(pl:qJ vl lo)(pu:qJ vu hi)
  (hw:¬ (sIx items.size 0 lo=0/\sIx items.size items.size hi=items.size))
  (h:Q Z5 { s with heap:=s.heap.push { cls:=.type "tuple",data:=.seq ((items.toList.drop (sIx items.size 0 lo)).take Zbi).toArray } })
  (hsz:items.size<=sizeLine):wpAny Zu A (getItem (.ref t) (.ref sl)) Q E s:=by
 have htake:sizeOk (.seq ((items.toList.drop (sIx items.size 0 lo)).take Zbi).toArray):=by
  show ((items.toList.drop (sIx items.size 0 lo)).take Zbi).toArray.size<=sizeLine;rw[aT,fL,nP,cN];omega
 have hj:sIx items.size items.size hi<=items.size:=Awa _ _ (aP _) hi;obtain ⟨os,hos,hcs,hds⟩:=id hs;have hTs:s.TypeIs (.ref sl) "slice" := ⟨os,hos,hcs⟩;unfold getItem
 try with_reducible refine dW ?_
 first | refine aD (bB ?_) | skip
 refine aD (wpAny_sequenceKey ht.typeIs Zb ?_);refine aD (fZ (name:=fQ "__getitem__") ht.typeIs kC
  (fM kC ht.typeIs entry_tuple_getitem ?_ (args_tuple_getitem _ _)))
 show wpAny _ _ (kW.Tuple.tupleItemsOf (.ref t) >>= _) _ _ s;refine aD (tupleItemsOf_ ht ?_);refine aD (wpAny_typeOf hTs ?_);rw[if_pos Zb];refine aD (Sm hs pl pu ?_);have hno:¬ ((((sIx items.size 0 lo:Nat):Int) == 0&&(1:Int) == 1&&(sIx items.size items.size hi - sIx items.size 0 lo) == items.size)=true):=by
  intro q;rw[bY,bY] at q;have q1:((sIx items.size 0 lo:Nat):Int)=0:=eq_of_beq q.1.1;have q2:sIx items.size items.size hi - sIx items.size 0 lo=items.size:=eq_of_beq q.2;exact hw ⟨Ze,Ze⟩
 show wpAny _ _ (if (((sIx items.size 0 lo:Nat):Int) == 0&&(1:Int) == 1&&(sIx items.size items.size hi - sIx items.size 0 lo) == items.size)=true then _ else _) _ _ s;rw[if_neg hno,Anq]
 first
  | exact aD (m:=eM _) (eJ (bB ⟨_,rfl,bB h⟩) htake)
  | exact aD (m:=eM _) (eJ (aD (bB (bB ⟨_,rfl,bB h⟩))) htake)
  | exact aD (aD (m:=eM _) (eJ (bB (bB ⟨_,rfl,bB h⟩)) htake))
  | exact aD (aD (m:=eM _) (eJ (bB ⟨_,rfl,bB h⟩) htake))
end
end HT
namespace L2
open PySem PySem.Spec PyProof.Rows
abbrev TO:=St->Hp->(Option Int->Hp->Prop)->Prop
def PO(X:Cx)(e:Option Expr)(t:TO):Prop:=
 ∀ (pins:List (Addr×Obj)) (s:aN) (σ:St) (H:Hp) (Q:Option Int->Hp->Prop),Inv X pins σ H s->t σ H Q ->
  wpAny Zf X.A (evalPart e X.env) (fun u s'=>∃ o H',Inv X pins σ H' s'/\qJ u o/\Q o H') X.xe s
def Ar2:TO:=fun _ H Q=>Q ψ H
def Azh(t:TE):TO:=fun σ H Q=>t σ H fun x H1=>∃ i,x = .int i/\Q (ξ i) H1
theorem Jl{ns:List Int}:∀ {us:List aH},Vals ZA us->jL us ns:=by
 induction ns with
 | nil=>intro us r;rw[bI] at r;cases r;exact .nil
 | cons n ns ih=>
  intro us r;rw[aI] at r;cases r with
  | cons r1 r2=>
   obtain ⟨t,e⟩:=r1;subst e;exact .cons n t (ih r2)
variable {X:Cx}{xs:List V}{us:List aH}
section
variable {e:Expr}{te:TE}{lo hi:Option Expr}{tl th:TO}{pos p2:Pos}
theorem Aqg:PO X ψ Ar2:=by
 intro pins s σ H Q I h;rw[evalPart_none];exact bB ⟨ψ,H,I,.none,h⟩
theorem Aqz(h:PE X e te):PO X (ξ e) (Azh te):=by
 intro pins s σ H Q I hw;rw[evalPart_some];refine thn (h pins s σ H _ I hw) fun u s1 zz=>?_
 obtain ⟨x,H1,I1,r1,q1⟩:=zz;obtain ⟨i,rfl,q⟩:=q1;obtain ⟨t,rfl⟩:=r1;exact ⟨ξ i,H1,I1,.int i t,q⟩
def SlR(X:Cx)(r:V->Option Int->Option Int->Hp->VK->Prop):Prop:=
 ∀ (pins:List (Addr×Obj)) (s:aN) (σ:St) (H:Hp) (x:V) (v vl vu:aH) (lo hi:Option Int) (sl:Addr) (Q:VK),Inv X pins σ H s->RelV x v->s.heap.IsSliceOf sl vl vu .none->qJ vl lo->qJ vu hi->r x lo hi H Q ->
  ∃ T id,typeLookup (.type T) "__getitem__" = pure (ξ ZbA)/\s.TypeIs v T/\wpAny Zf X.A (getItem v (.ref sl)) Zaj X.xe s
theorem SlR.or{r r':V->Option Int->Option Int->Hp->VK->Prop}(h:SlR X r)(h':SlR X r'):SlR X (fun x lo hi H Q=>r x lo hi H Q\/r' x lo hi H Q):=by
 intro pins s σ H x v vl vu lo hi sl Q I rx hs pl pu q;rcases q with q | q
 ·exact h pins s σ H x v vl vu lo hi sl Q I rx hs pl pu q
 ·exact h' pins s σ H x v vl vu lo hi sl Q I rx hs pl pu q
def tSl(r:V->Option Int->Option Int->Hp->VK->Prop)(te:TE)(tl th:TO):TE:=fun σ H Q=>te σ H fun x H1=>tl σ H1 fun l H2=>th σ H2 fun u H3=>r x l u H3 Q
theorem Ani{r:V->Option Int->Option Int->Hp->VK->Prop}(hr:SlR X r)(he:PE X e te)(hl:PO X lo tl)(hu:PO X hi th):PE X (.Subscript e (.Slice lo hi ψ p2) pos) (tSl r te tl th):=by
 intro pins s σ H Q I h;refine Subscript_ (thn Zar fun v s1 zz=>?_);obtain ⟨x,H1,I1,r1,q1⟩:=zz;refine wpAny_Slice (thn (hl pins s1 σ H1 _ I1 q1) fun vl s2 ⟨l,H2,I2,pl,q2⟩=>thn (hu pins s2 σ H2 _ I2 q2) fun vu s3 zz=>?_);obtain ⟨u,H3,I3,pu,q3⟩:=zz;rw[evalPart_none];refine bB ?_;have I4:Inv X pins σ H3 { s3 with heap:=s3.heap.push { cls:=.type "slice",data:=.fields #[vl,vu,.none] } }:=I3.kept (t':=s3.toks) fun b ob q=>aC _ q
 obtain ⟨T,id,hT,ht,hg⟩:=hr pins { s3 with heap:=s3.heap.push { cls:=.type "slice",data:=.fields #[vl,vu,.none] } } σ H3 x v vl vu l u s3.heap.objs.size Q I4 r1 (Heap.IsSliceOf.new ..) pl pu q3;show wpAny Zf X.A (subscriptTail e (.Slice lo hi ψ p2) v (.ref s3.heap.objs.size)) Zaj X.xe { s3 with heap:=s3.heap.push { cls:=.type "slice",data:=.fields #[vl,vu,.none] } };exact tail_any (ops:=[.ref s3.heap.objs.size,v]) ht hT hg (by with_unfolding_all rfl)
def Acl(xs:List V)(lo hi:Option Int):List V:=(xs.drop Zek).take Zba
theorem Tc(xs:List V)(lo hi:Option Int):(Acl xs lo hi).length<=xs.length:=by
 unfold Acl;rw[fL,nP];omega
def A1x(K:aF):V->Option Int->Option Int->Hp->VK->Prop:=fun x lo hi H Q=>∃ a xs,x = .ref a/\SqT K H a xs /\
 ¬ (HT.sIx xs.length 0 lo=0/\HT.sIx xs.length xs.length hi=xs.length)/\∀ p,H p=ψ->Q (.ref p) (upd H p (.tup Zd0))
theorem Av0:SlR X (A1x X.K):=by
 intro pins s σ H x v vl vu lo hi sl Q I rx hs pl pu h;obtain ⟨a,xs,rfl,hx,hw,q⟩:=h;cases rx;obtain ⟨its,r,ht,hz⟩:=I.tuple hx;have hlen:its.toArray.size=xs.length:=by rw[aT];exact r.length.symm
 refine ⟨"tuple",_,kC.lookup,ht.typeIs,?_⟩;refine HT.Qu ht hs pl pu (by rw[hlen];exact hw) ?_ (by rw[hlen];exact hz);rw[hlen];refine ⟨.ref s.heap.objs.size,_,I.laid (t':=s.toks) (o:=.tup Zd0) (fun b ob q=>aC _ q) (aP _) ?_,rfl,q _ Zbf⟩;exact ⟨bW (Tc xs lo hi) hz,_,(r.drop Zek).take Zba,TupN.new _ _⟩
inductive rCatT(K:aF)(x y:V)(H:Hp)(Q:VK):Prop
 | mk (a:_) (b:_) (xs:_) (ys:_) (h0:x = .ref a) (h1:y = .ref b) (h2:SqT K H a xs) (h3:SqT K H b ys) (h4:xs≠[]) (h5:xs.length+ys.length<=sizeLine) (h6:(ys=[]->Q (.ref a) H)) (h7:(ys≠[]->∀ p,H p=ψ->Q (.ref p) (upd H p (.tup (xs++ys))))):rCatT K x y H Q
theorem Vals.nil_iff(r:Vals xs us):us=[]↔xs=[]:=by
 cases r with
 | nil=>simp
 | cons _ _=>simp
theorem Aqa:OpR X (gP .Add) (rCatT X.K):=by
 intro pins s σ H x y v u Q I rx ry h;obtain ⟨a,b,xs,ys,rfl,rfl,ha,hb,hx,hz,q1,q2⟩:=h;cases rx;cases ry;obtain ⟨its,r1,p1,_⟩:=I.tuple ha;obtain ⟨its2,r2,p2,_⟩:=I.tuple hb;refine HT.Aq1 p1 p2 (fun z=>hx (r1.nil_iff.mp z)) (fun z=>⟨.ref a,H,I,rfl,q1 (r2.nil_iff.mp z)⟩) (fun z=>?_) (by rw[<- r1.length,<- r2.length];exact hz);refine ⟨.ref s.heap.objs.size,_,I.laid (t':=s.toks) (o:=.tup (xs++ys)) (fun b ob q=>aC _ q) (aP _) ?_,rfl,q2 (fun w=>z (r2.nil_iff.mpr w)) _ Zbf⟩;exact ⟨by rw[bV];exact hz,_,r1.append r2,TupN.new _ _⟩
end
noncomputable def ixN(n:Nat)(i:Int):Option Nat:=if 0<=i then (if i < n then ξ i.toNat else ψ) else if -(n:Int)<=i then ξ (i+n).toNat else ψ
def atI{α:Type}(xs:List α)(i:Int):Option α:=(ixN xs.length i).bind fun j=>xs[j]?
variable {n:Nat}
theorem Ag5{i:Int}{j:Nat}(h:ixN n i=ξ j):seqIndex? i n=ξ j/\j < n/\-(n:Int)<=i/\i < n:=by
 unfold ixN at h;by_cases h0:0<=i
 ·rw[if_pos h0] at h;by_cases h1:i < n
  ·rw[if_pos h1] at h;have e:i.toNat=j:=bS h;exact ⟨by rw[sL h0 h1,e],Ze,Ze,h1⟩
  ·rw[if_neg h1] at h;cases h
 ·rw[if_neg h0] at h;by_cases h1:-(n:Int)<=i
  ·rw[if_pos h1] at h;have e:(i+n).toNat=j:=bS h;exact ⟨by rw[qV Ze h1,e],Ze,h1,Ze⟩
  ·rw[if_neg h1] at h;cases h
theorem Aan{α:Type}{xs:List α}{i:Int}{v:α}(h:atI xs i=ξ v):∃ j,seqIndex? i xs.length=ξ j/\xs[j]? = ξ v/\j < xs.length/\-(xs.length:Int)<=i/\i < xs.length:=by
 unfold atI at h;cases e:ixN xs.length i with
 | none=>rw[e] at h;cases h
 | some j=>
  rw[e] at h;obtain ⟨h1,h2,h3,h4⟩:=Ag5 e;exact ⟨j,h1,h,h2,h3,h4⟩
def Ahq(b:Expr):Prop:=∀ o i,subscripted b false o i=operate [o,i] (getItem o i)
def IxR(X:Cx)(r:R2):Prop:=
 ∀ (value slice:Expr) (pins:List (Addr×Obj)) (s:aN) (σ:St) (H:Hp) (x y:V) (v u:aH) (Q:VK),Inv X pins σ H s->RelV x v->RelV y u->r x y H Q ->
  subscripted slice false v u=operate [v,u] (getItem v u)->wpAny Zf X.A (subscriptTail value slice v u) Zaj X.xe s
def MtR(X:Cx)(id:String)(r:V->List V->Hp->VK->Prop):Prop:=
 ∀ (pins:List (Addr×Obj)) (s:aN) (σ:St) (H:Hp) (x:V) (xs:List V) (v:aH) (us:List aH) (Q:VK),Inv X pins σ H s->RelV x v->Vals xs us->r x xs H Q ->
  wpAny Zf X.A (call ZbA (v::us)) Zaj X.xe s
variable {v:aH}{pins:List (Addr×Obj)}{σ:St}{H:Hp}{s:aN}{its:List aH}{A:eA}{y x:V}
section
variable {a b:Expr}{ta tb:TE}{pos:Pos}
theorem IxR.or{r r':R2}(h:IxR X r)(h':IxR X r'):IxR X (fun x y H Q=>r x y H Q\/r' x y H Q):=by
 intro value slice pins s σ H x y v u Q I rx ry q hs;rcases q with q | q
 ·exact h value slice pins s σ H x y v u Q I rx ry q hs
 ·exact h' value slice pins s σ H x y v u Q I rx ry q hs
theorem MtR.or{id:String}{r r':V->List V->Hp->VK->Prop}(h:MtR X id r)(h':MtR X id r'):MtR X id (fun x xs H Q=>r x xs H Q\/r' x xs H Q):=by
 intro pins s σ H x xs v us Q I rx rs q;rcases q with q | q
 ·exact h pins s σ H x xs v us Q I rx rs q
 ·exact h' pins s σ H x xs v us Q I rx rs q
theorem Az9{r:R2}(hr:IxR X r)(ha:PE X a ta)(hb:PE X b tb)(hs:Ahq b):PE X (.Subscript a b pos) (tOp r ta tb):=by
 intro pins s σ H Q I h;exact Subscript_ (Axh ha hb I h fun v u s2 x y H2 I2 rx ry q=>hr a b pins s2 σ H2 x y v u Q I2 rx ry q (hs _ _))
inductive rIxL(K:aF)(x y:V)(H:Hp)(Q:VK):Prop
 | mk (p:_) (xs:_) (i:_) (v:_) (h0:x = .ref p) (h1:y = .int i) (h2:SqL K H p xs) (h3:atI xs i=ξ v) (h4:Q v H):rIxL K x y H Q
inductive rIxT(K:aF)(x y:V)(H:Hp)(Q:VK):Prop
 | mk (p:_) (xs:_) (i:_) (v:_) (h0:x = .ref p) (h1:y = .int i) (h2:SqT K H p xs) (h3:atI xs i=ξ v) (h4:Q v H):rIxT K x y H Q
def Aya:R2:=fun x y H Q=>∃ z i c,x = .str z/\y = .int i/\z.length<=sizeLine/\atI z.cps.toList i=ξ c/\Q (.str ⟨#[c]⟩) H
theorem Aqh:IxR X (rIxL X.K):=by
 intro value slice pins s σ H x y v u Q I rx ry h hs;obtain ⟨p,xs,i,z,rfl,rfl,hq,he,q⟩:=h;cases rx;obtain ⟨t,rfl⟩:=ry;obtain ⟨its,r,pl,hz⟩:=I.list hq;obtain ⟨j,h1,h2,h3,h4,h5⟩:=Aan he;obtain ⟨w,ew,rw'⟩:=r.get h2;have hl:=r.length;have hn:=R9;have fin:EP X pins σ Q w s:=⟨z,H,I,rw',q⟩;by_cases h0:0<=i
 ·have hj:i.toNat=j:=by
   rw[sL h0 h5] at h1;exact bS h1
  exact item_listR pl.isList h0 Ze (by rw[hj];simpa using ew) fin hs
 ·have hj:(i+(its.toArray.size:Int)).toNat=j:=by
   rw[qV Ze h4] at h1;rw[aT,<- hl];exact bS h1
  exact oE (x:=w) pl.isList.typeIs qW.lookup
   (wpAny_getItem_list_neg (Q:=fun r s'=>r=w/\EP X pins σ Q r s') pl.isList Ze (by rw[aT] <;> omega) Ze (by rw[hj];simpa using ew) ⟨rfl,fin⟩) hs
theorem Aws:IxR X (rIxT X.K):=by
 intro value slice pins s σ H x y v u Q I rx ry h hs;obtain ⟨p,xs,i,z,rfl,rfl,hq,he,q⟩:=h;cases rx;obtain ⟨t,rfl⟩:=ry;obtain ⟨its,r,pl,hz⟩:=I.tuple hq;obtain ⟨j,h1,h2,h3,h4,h5⟩:=Aan he;obtain ⟨w,ew,rw'⟩:=r.get h2;have hl:=r.length;have hn:=R9;have fin:EP X pins σ Q w s:=⟨z,H,I,rw',q⟩;exact oE (x:=w) pl.typeIs slot_tuple_getitem.lookup
  (getItem_tuple (j:=j) (Q:=fun r s'=>r=w/\EP X pins σ Q r s') pl Ze Ze (by rw[aT,<- hl];exact h1) (by simpa using ew) ⟨rfl,fin⟩) hs
theorem Awk:IxR X Aya:=by
 intro value slice pins s σ H x y v u Q I rx ry h hs;obtain ⟨z,i,c,rfl,rfl,hz,he,q⟩:=h;obtain ⟨t,rfl⟩:=rx;obtain ⟨t',rfl⟩:=ry;obtain ⟨j,h1,h2,h3,h4,h5⟩:=Aan he;have hl:z.cps.toList.length=z.length:=by simp[qK]
 rw[hl] at h1 h4 h5;have hn:=R9;exact tail_any (mL s z t) slot_str_getitem.lookup (getItem_str (c:=c) (by
  have e1:decide (i < -(2 ^ 63:Int))=false:=decide_eq_false Ze;have e2:decide (i ≥ 2 ^ 63)=false:=decide_eq_false Ze;rw[e1,e2,Bool.or_false]) (by rw[h1];simpa using h2) ⟨.str ⟨#[c]⟩,H,I.tok _,⟨_,rfl⟩,q⟩) hs
def rIx(K:aF):R2:=fun x y H Q=>rIxL K x y H Q\/rIxT K x y H Q\/Aya x y H Q
theorem Aq:IxR X (rIx X.K):=Aqh.or (Aws.or Awk)
theorem Aev(its:List aH)(n j:Nat)(u:aH):bR (·.setIfInBounds j u) { cls:=.type "list",data:=.seq its.toArray n } = { cls:=.type "list",data:=.seq (its.set j u).toArray n }:=by
 simp[bR]
theorem Inv.lst{p:Addr}(I:Inv X pins σ H s)(h:H p=ξ (.lst xs)) :
  ∃ (its:List aH) (n:Nat),Vals xs its/\s.heap.get? p=ξ { cls:=.type "list",data:=.seq its.toArray n }/\xs.length<=sizeLine:=by
 obtain ⟨z,its,n,r,e⟩:=I.hok p _ h;exact ⟨its,n,r,e,z⟩
theorem Inv.lstUpd{p:Addr}{ys:List V}{its':List aH}{n':Nat}{f:Obj->Obj}(I:Inv X pins σ H s)(h:H p=ξ (.lst xs))
  (ho:s.heap.get? p=ξ { cls:=.type "list",data:=.seq its.toArray n }) (hf:f { cls:=.type "list",data:=.seq its.toArray n } = { cls:=.type "list",data:=.seq its'.toArray n' }) (r:Vals ys its') (hz:ys.length<=sizeLine) (t:Nat) :
  Inv X pins σ (upd H p (.lst ys)) { s with heap:=s.heap.update p f,toks:=t }:=by
 have e:(s.heap.update p f).get? p=ξ { cls:=.type "list",data:=.seq its'.toArray n' }:=by
  rw[kE f ho (by rw[hf] <;> rfl),hf]
 refine I.write (x:=p) (e:=p) (by rw[h];trivial) (.inl rfl) (fun b u hb q=>(oF _ _ (gY hb)).trans q) ⟨_,e⟩ ?_;exact ⟨hz,its',n',r,e⟩
def Ayl:V->V->V->Hp->(Hp->Prop)->Prop:=fun o i v H Q=>∃ p xs k j,o = .ref p/\i = .int k/\H p=ξ (.lst xs)/\ixN xs.length k=ξ j/\Q (upd H p (.lst (xs.set j v)))
theorem Aot:A1t X Ayl:=by
 intro pins s σ H o i v ov iv u Q I ro ri rv h;obtain ⟨p,xs,k,j,rfl,rfl,hp,hj,q⟩:=h;cases ro;obtain ⟨t,rfl⟩:=ri;obtain ⟨its,n,r,ho,hz⟩:=I.lst hp;obtain ⟨h1,h2,h3,h4⟩:=Ag5 hj;have hl:=r.length;have hn:=R9;have I':Inv X pins σ (upd H p (.lst (xs.set j v))) { s with heap:=s.heap.update p (bR (·.setIfInBounds j u)) }:=
  I.lstUpd hp ho (Aev its n j u) (r.set rv j) (by rw[lK];exact hz) s.toks
 by_cases h0:0<=k
 ·have hk:k.toNat=j:=by
   rw[sL h0 h4] at h1;exact bS h1
  exact PySem.W.ki_setAt ho h0 Ze (by rw[aT,<- hl];exact h4) (by rw[hk];exact ⟨_,I',q⟩)
 ·have hk:(k+(its.toArray.size:Int)).toNat=j:=by
   rw[qV Ze h3] at h1;rw[aT,<- hl];exact bS h1
  exact PySem.W.ki_setBack ho Ze (by rw[aT,<- hl];exact h3) Ze (by rw[hk];exact ⟨_,I',q⟩)
theorem Aib(i:Int)(n:Nat):max 0 (min (if i < 0 then i+(n:Int) else i) (n:Int))=(((if i < 0 then (i+(n:Int)).toNat else min i.toNat n):Nat):Int):=by
 by_cases h:i < 0
 ·have hm:i+(n:Int)<=n:=Ze
  rw[if_pos h,if_pos h,sO hm,Int.ofNat_toNat,Int.max_comm]
 ·obtain ⟨k,rfl⟩:=Int.eq_ofNat_of_zero_le (Int.not_lt.mp h);rw[if_neg h,if_neg h,iB];rcases Nat.le_total k n with hk | hk
  ·rw[oQ hk,sO (qX.mpr hk),rW (qL k)]
  ·rw[nQ hk,Int.min_eq_right (qX.mpr hk),rW (qL n)]
theorem Abf(lo hi:Option Int)(n:Nat):(sliceBounds lo hi ψ n).1=((HT.sIx n 0 lo:Nat):Int)/\(sliceBounds lo hi ψ n).2.1=((HT.sIx n n hi:Nat):Int)/\(sliceBounds lo hi ψ n).2.2=1:=by
 refine ⟨?_,?_,rfl⟩
 ·cases lo with
  | none=>rfl
  | some i=>exact Aib i n
 ·cases hi with
  | none=>rfl
  | some i=>exact Aib i n
theorem W9(its:List aH)(lo hi:Option Int):slicePick its.toArray lo hi ψ=((its.drop (HT.sIx its.length 0 lo)).take (HT.sIx its.length its.length hi - HT.sIx its.length 0 lo)).toArray:=by
 obtain ⟨h1,h2,h3⟩:=Abf lo hi its.toArray.size;unfold slicePick;rw[h1,h2,h3];simp only[sliceRange_one,pick_run,aT] <;> rfl
def Az5(K:aF):V->Option Int->Option Int->Hp->VK->Prop:=fun x lo hi H Q=>∃ a xs,x = .ref a/\SqL K H a xs/\∀ p,H p=ψ->Q (.ref p) (upd H p (.lst Zd0))
theorem Apl:SlR X (Az5 X.K):=by
 intro pins s σ H x v vl vu lo hi sl Q I rx hs pl pu h;obtain ⟨a,xs,rfl,hx,q⟩:=h;cases rx;obtain ⟨its,r,ht,hz⟩:=I.list hx;have hlen:=r.length;refine ⟨"list",_,qW.lookup,ht.isList.typeIs,?_⟩;refine wpAny_getItem_list_slice ht.isList hs pl pu .none Za ?_ (by rw[aT] <;> omega);rw[W9,<- hlen];refine ⟨.ref s.heap.objs.size,_,I.laid (t':=s.toks) (o:=.lst Zd0) (fun b ob q=>aC _ q) (aP _) ?_,rfl,q _ Zbf⟩;exact ⟨bW (Tc xs lo hi) hz,_,0,(r.drop Zek).take Zba,aX _ rfl⟩
noncomputable def Pf:V->Bool
 | .non=>true
 | .bl _=>true
 | .int _=>true
 | .str _=>true
 | _=>false
noncomputable def eqV:V->V->Bool
 | .non,.non=>true
 | .bl a,.bl b=>a == b
 | .bl a,.int b=>(if a then 1 else 0) == b
 | .int a,.bl b=>a == (if b then 1 else 0)
 | .int a,.int b=>a == b
 | .str a,.str b=>a == b
 | _,_=>false
theorem Av8{u:aH}(ry:RelV y u)(rx:RelV x v)(fy:Pf y=true)(fx:Pf x=true):vY A s u v (eqV y x):=by
 cases y with
 | non=>
  cases ry;cases x with
  | non=>cases rx;exact vY.same _
  | bl b=>cases rx;exact vY.none_bool b
  | int b=>obtain ⟨t,rfl⟩:=rx;exact vY.none_int b t
  | str b=>obtain ⟨t,rfl⟩:=rx;exact vY.none_str b t
  | _=>exact absurd (show false=true from fx) dG
 | bl a=>
  cases ry;cases x with
  | non=>cases rx;exact vY.bool_none a
  | bl b=>cases rx;exact vY.bool_bool a b
  | int b=>obtain ⟨t,rfl⟩:=rx;exact vY.bool_int a b t
  | str b=>obtain ⟨t,rfl⟩:=rx;exact vY.bool_str a b t
  | _=>exact absurd (show false=true from fx) dG
 | int a=>
  obtain ⟨t',rfl⟩:=ry;cases x with
  | non=>cases rx;exact vY.int_none a t'
  | bl b=>cases rx;exact vY.int_bool a t' b
  | int b=>obtain ⟨t,rfl⟩:=rx;exact vY.int_int a t' b t
  | str b=>obtain ⟨t,rfl⟩:=rx;exact qE a t' b t
  | _=>exact absurd (show false=true from fx) dG
 | str a=>
  obtain ⟨t',rfl⟩:=ry;cases x with
  | non=>cases rx;exact vY.str_none a t'
  | bl b=>cases rx;exact vY.str_bool a t' b
  | int b=>obtain ⟨t,rfl⟩:=rx;exact qF a t' b t
  | str b=>obtain ⟨t,rfl⟩:=rx;exact vY.str_str a t' b t
  | _=>exact absurd (show false=true from fx) dG
 | _=>exact absurd (show false=true from fy) dG
def eqU(x:V)(u:aH):Bool:=match u with
 | .none=>eqV .non x
 | .bool b=>eqV (.bl b) x
 | .int i _=>eqV (.int i) x
 | .str z _=>eqV (.str z) x
 | _=>false
theorem Amg{u:aH}(r:RelV y u)(f:Pf y=true):eqU x u=eqV y x:=by
 cases y with
 | non=>cases r;rfl
 | bl b=>cases r;rfl
 | int i=>obtain ⟨t,rfl⟩:=r;rfl
 | str z=>obtain ⟨t,rfl⟩:=r;rfl
 | _=>exact absurd (show false=true from f) dG
theorem Ug(h:Vals xs us)(f:xs.all Pf=true):us.any (eqU x)=xs.any fun y=>eqV y x:=by
 induction h with
 | nil=>rfl
 | cons r t ih=>
  rw[kU,bY] at f;rw[eZ,eZ,Amg r f.1,ih f.2]
theorem Nr(rx:RelV x v)(fx:Pf x=true):∀ {xs:List V} {us:List aH},Vals xs us->xs.all Pf=true->∀ u∈us,vY A s u v (eqU x u)
 | _,_,.nil,_=>fun u hu=>by cases hu
 | y::xs,u::us,.cons r t,f=>fun u' hu=>by
  rw[kU,bY] at f;rcases bG.mp hu with rfl | hu
  ·rw[Amg r f.1];exact Av8 r rx f.1 fx
  ·exact Nr rx fx t f.2 u' hu
def inV(x:V)(xs:List V):Bool:=xs.any fun y=>eqV y x
def rIn(K:aF)(neg:Bool):R2:=fun x y H Q=>∃ p xs,y = .ref p/\(SqL K H p xs\/SqT K H p xs)/\Pf x=true/\xs.all Pf=true/\Q (.bl Zch) H
theorem Akk:OpR X (dA .In) (rIn X.K false):=by
 intro pins s σ H x y v u Q I rx ry h;obtain ⟨p,xs,rfl,hq,fx,fs,q⟩:=h;cases ry;rcases hq with hq | hq
 ·obtain ⟨its,r,pl,hz⟩:=I.list hq;refine SeqAt.in_listAt (eqU x) pl.isList (fun w hw=>Nr rx fx r fs w (by simpa using hw)) ⟨.bl _,H,I,rfl,?_⟩;rw[show its.toArray.any (eqU x)=its.any (eqU x) by simp,Ug r fs];exact q
 ·obtain ⟨its,r,pl,hz⟩:=I.tuple hq;refine SeqAt.in_tupleAt (eqU x) pl (fun w hw=>Nr rx fx r fs w (by simpa using hw)) ⟨.bl _,H,I,rfl,?_⟩;rw[show its.toArray.any (eqU x)=its.any (eqU x) by simp,Ug r fs];exact q
theorem Aaf:OpR X (dA .NotIn) (rIn X.K true):=by
 intro pins s σ H x y v u Q I rx ry h;obtain ⟨p,xs,rfl,hq,fx,fs,q⟩:=h;cases ry;rcases hq with hq | hq
 ·obtain ⟨its,r,pl,hz⟩:=I.list hq;refine SeqAt.notIn_listAt (eqU x) pl.isList (fun w hw=>Nr rx fx r fs w (by simpa using hw)) ⟨.bl _,H,I,rfl,?_⟩;rw[show its.toArray.any (eqU x)=its.any (eqU x) by simp,Ug r fs];exact q
 ·obtain ⟨its,r,pl,hz⟩:=I.tuple hq;refine SeqAt.notIn_tupleAt (eqU x) pl (fun w hw=>Nr rx fx r fs w (by simpa using hw)) ⟨.bl _,H,I,rfl,?_⟩;rw[show its.toArray.any (eqU x)=its.any (eqU x) by simp,Ug r fs];exact q
theorem Abe:OpR X (dA .NotIn) (fun x y H Q=>∃ i j,x = .str i/\y = .str j/\Q (.bl (!(!(cO j i 0 j.length 1).isEmpty))) H):=by
 intro pins s σ H x y v u Q I rx ry h;obtain ⟨i,j,rfl,rfl,q⟩:=h;obtain ⟨t,rfl⟩:=rx;obtain ⟨t',rfl⟩:=ry;exact notIn_str ⟨.bl _,H,I,rfl,q⟩
theorem CallR.or{f:aH}{r r':List V->Hp->VK->Prop}(h:CallR X f r)(h':CallR X f r'):CallR X f (fun xs H Q=>r xs H Q\/r' xs H Q):=by
 intro pins s σ H xs us Q I rs q;rcases q with q | q
 ·exact h pins s σ H xs us Q I rs q
 ·exact h' pins s σ H xs us Q I rs q
theorem Abt:CallR X (.type "list") (fun xs H Q=>∃ p ys,xs=[.ref p]/\(SqL X.K H p ys\/SqT X.K H p ys)/\∀ l,H l=ψ->Q (.ref l) (upd H l (.lst ys))):=by
 intro pins s σ H xs us Q I r h;obtain ⟨p,ys,rfl,hq,q⟩:=h;obtain ⟨u,rfl,rx⟩:=Jw r;cases rx;have fin:∀ (its:List aH),Vals ys its->ys.length<=sizeLine->∀ (h':Heap) (c':Nat),(∀ b o',s.heap.get? b=ξ o'->h'.get? b=ξ o') ->
   h'.get? s.heap.objs.size=ξ { cls:=.type "list",dict:=ψ,data:=.seq its.toArray c',slots:=#[] }->EP X pins σ Q Z5 { s with heap:=h' }:=fun its r' hz h' c' kp e=>
  ⟨.ref s.heap.objs.size,_,I.laid (t':=s.toks) kp (aP _) (show ObjOk X.prog X.w _ h' _ (.lst ys) from ⟨hz,its,c',r',e⟩),rfl,q _ Zbf⟩
 rcases hq with hq | hq
 ·obtain ⟨its,r',pl,hz⟩:=I.list hq;have hlen:=r'.length;obtain ⟨o,ho,hc,n,hd⟩:=pl.isList;exact call_list_seq p (.inl rfl) ho hc hd (fun h' c' kp e=>fin its r' hz h' c' kp e) (by simp only[aT] <;> omega)
 ·obtain ⟨its,r',pl,hz⟩:=I.tuple hq;have hlen:=r'.length;obtain ⟨o,ho,hc,n,hd⟩:=pl;exact call_list_seq p (.inr rfl) ho hc hd (fun h' c' kp e=>fin its r' hz h' c' kp e) (by simp only[aT] <;> omega)
theorem Fu:CallR X (.type "tuple") (fun xs H Q=>∃ p ys,xs=[.ref p]/\((SqL X.K H p ys/\∀ l,H l=ψ->Q (.ref l) (upd H l (.tup ys)))\/(SqT X.K H p ys/\Q (.ref p) H))):=by
 intro pins s σ H xs us Q I r h;obtain ⟨p,ys,rfl,h⟩:=h;obtain ⟨u,rfl,rx⟩:=Jw r;cases rx;rcases h with ⟨hq,q⟩ | ⟨hq,q⟩
 ·obtain ⟨its,r',pl,hz⟩:=I.list hq;have hlen:=r'.length;refine call_tuple_list pl.isList (fun h' kp=>?_) (by simp only[aT] <;> omega);have I1:Inv X pins σ H { s with heap:=h' }:=I.kept (t':=s.toks) kp;have I2:Inv X pins σ (upd H h'.objs.size (.tup ys)) { s with heap:=h'.push { cls:=.type "tuple",data:=.seq its.toArray } }:=
   I1.laid (t':=s.toks) (fun b o e=>aC _ e) (aP _) (show ObjOk X.prog X.w _ _ _ (.tup ys) from ⟨hz,its,r',TupN.new _ _⟩)
  exact ⟨.ref h'.objs.size,_,I2,rfl,q _ Zb7⟩
 ·obtain ⟨its,r',pl,hz⟩:=I.tuple hq;exact call_tuple_same pl ⟨.ref p,H,I,rfl,q⟩
def tyV(K:aF)(T:String)(x:V)(H:Hp):Prop:=match x with
 | .str _=>T = "str"
 | .int _=>T = "int"
 | .ref p=>(T = "list" /\ ∃ xs,SqL K H p xs)\/(T = "tuple" /\ ∃ xs,SqT K H p xs) \/
   (T = "dict" /\ ((∃ kvs,H p=ξ (.dK kvs))\/∃ kvs,H p=ξ (.dT kvs)))\/(T = "set" /\ ∃ S n,H p=ξ (.set S n))
 | _=>False
theorem Avx{T:String}(I:Inv X pins σ H s)(r:RelV x v)(ty:tyV X.K T x H) :
  s.TypeIs v T/\∀ a,v = .ref a->∃ ob,s.heap.get? a=ξ ob/\ob.dict=ψ:=by
 cases x with
 | str z=>
  obtain ⟨t,rfl⟩:=r;cases (show T = "str" from ty);exact ⟨mL s z t,fun _ e=>nomatch e⟩
 | int i=>
  obtain ⟨t,rfl⟩:=r;cases (show T = "int" from ty);exact ⟨tP s i t,fun _ e=>nomatch e⟩
 | ref p=>
  cases r;rcases ty with ⟨rfl,xs,hq⟩ | ⟨rfl,xs,hq⟩ | ⟨rfl,hk⟩ | ⟨rfl,S,n,hk⟩
  ·obtain ⟨its,_,pl,_⟩:=I.list hq;refine ⟨pl.isList.typeIs,fun a e=>?_⟩;cases e;obtain ⟨o,n,e,c,hd,_⟩:=pl;exact ⟨o,e,hd⟩
  ·obtain ⟨its,_,⟨o,ho,hc,_⟩,_⟩:=I.tupleN hq;obtain ⟨h1,h2⟩:=sK hc;refine ⟨⟨o,ho,h1⟩,fun a e=>?_⟩;cases e;exact ⟨o,ho,h2⟩
  ·have z:∃ o,s.heap.get? p=ξ o/\o.ExactDict:=by
    rcases hk with ⟨kvs,hk⟩ | ⟨kvs,hk⟩
    ·obtain ⟨_,_,_,_,o,_,_,e,ex,_⟩:=I.hok p _ hk;exact ⟨o,e,ex⟩
    ·obtain ⟨_,_,_,_,o,_,_,e,ex,_⟩:=I.hok p _ hk;exact ⟨o,e,ex⟩
   obtain ⟨o,e,ex⟩:=z;refine ⟨⟨o,e,ex.1⟩,fun a e2=>?_⟩;cases e2;exact ⟨o,e,ex.2.1⟩
  ·obtain ⟨o,_,_,_,e,ex,_⟩:=I.hok p _ hk;refine ⟨⟨o,e,ex.1⟩,fun a e2=>?_⟩;cases e2;exact ⟨o,e,ex.2.1⟩
 | _=>exact dY ty
def tBM(K:aF)(T:String)(r:V->List V->Hp->VK->Prop)(to:TE)(t:TA):TE:=fun σ H Q=>to σ H fun x H1=>tyV K T x H1/\t σ H1 fun xs H2=>r x xs H2 Q
variable {o e:Expr}{es:List Expr}{to:TE}{t:TA}{name:Str}{apos cpos:Pos}{T id:String}{r:V->List V->Hp->VK->Prop}
theorem A16(pa:PlainAttrs T)(slot:Slot T name id)(hty:typeOf ZbA=pure (.type "method_descriptor"))(hm:MtR X id r)(ho:PE X o to)(ha:PA X (e::es) t)
  (hbase:attributeBase o name X.env Zcy=eval o X.env:=by rfl)
  (hfew:((backTo cpos ZcS).all (fun x=>!x.1)&&(backToKw cpos Zab).all ZcH
   && decide ((e::es).length+([]:List iS).length+(if ([]:List iS).isEmpty then 0 else 1) < 30))=true:=by rfl)
  (hline:(apos.endLine == cpos.line)=true:=by rfl) (hs:bH (e::es) X.env=Zy::bH es X.env:=by rfl) (hplain:(backTo cpos Zat).any (·.1)=false:=by rfl) :
  PE X (.Call (.Attribute o name apos) (e::es) [] cpos) (tBM X.K T r to t):=by
 intro pins s σ H Q I h;refine wpAny_Call_method_late hbase hfew hline rfl (thn (ho pins s σ H _ I h) fun v s1 zz=>?_);obtain ⟨x,H1,I1,r1,ty,q1⟩:=zz;obtain ⟨h1,h2⟩:=Avx I1 r1 ty;refine ⟨T,id,pa,slot,hty,h1,h2,?_⟩;have hA:=ha cpos pins s1 σ H1 _ I1 q1;rw[hs] at hA ⊢;refine iL (by show (false || (backTo cpos (bH es X.env)).any (·.1))=false;rw[hplain] <;> rfl) (kZ ?_)
 exact thn hA fun us s2 zz=>by obtain ⟨vs,H2,I2,r2,q2⟩:=zz;exact hm pins s2 σ H2 x vs v us Q I2 r1 r2 q2
end
def MtM(X:Cx)(id:String)(r:V->List V->Hp->VK->Prop):Prop:=
 ∀ (pins:List (Addr×Obj)) (s:aN) (σ:St) (H:Hp) (x:V) (xs:List V) (v:aH) (us:List aH) (Q:VK),Inv X pins σ H s->RelV x v->Vals xs us->r x xs H Q ->
  wpAny Zf X.A (call ZbA (v::us)) Zaj X.xe s
theorem Vals.one(h:Vals [x] us):∃ u,us=[u]/\RelV x u:=by
 cases h with
 | cons r t=>cases t;exact ⟨_,rfl,r⟩
theorem Vals.two(h:Vals [x,y] us):∃ u v,us=[u,v]/\RelV x u/\RelV y v:=by
 cases h with
 | cons r t=>obtain ⟨v,rfl,q⟩:=Vals.one t;exact ⟨_,v,rfl,r,q⟩
theorem Vals.zero:∀ {us:List aH},Vals [] us->us=[]
 | _,.nil=>rfl
theorem Vals.dropLast(h:Vals xs us):Vals xs.dropLast us.dropLast:=by
 induction h with
 | nil=>exact .nil
 | cons r t ih=>
  cases t with
  | nil=>exact .nil
  | cons q t'=>exact .cons r ih
theorem Vals.eraseIdx(i:Nat)(h:Vals xs us):Vals (xs.eraseIdx i) (us.eraseIdx i):=by
 induction h generalizing i with
 | nil=>exact .nil
 | cons r t ih=>
  cases i with
  | zero=>exact t
  | succ i=>exact .cons r (ih i)
theorem Vals.reverse(h:Vals xs us):Vals xs.reverse us.reverse:=by
 induction h with
 | nil=>exact .nil
 | cons r t ih=>rw[fD,fD];exact Vals.append ih (.cons r .nil)
theorem Vals.rep(h:Vals xs us):∀ k:Nat,Vals (bP k xs).flatten (bP k us).flatten
 | 0=>.nil
 | k+1=>by
  rw[fG,fG,iC,iC];exact Vals.append h (Vals.rep h k)
theorem Xy{α:Type}:∀ (l:List α) (i:Nat),(l.eraseIdx i).length<=l.length
 | [],_=>aP _
 | _::_,0=>mX _
 | _::r,i+1=>rX (Xy r i)
theorem Yn(its:List aH):∀ (k:Nat) (acc:List aH),
  tQ (fun x1 x2=>x1++x2) acc.toArray (bP k its.toArray)=(acc++(bP k its).flatten).toArray
 | 0,acc=>by simp
 | k+1,acc=>by
  have e:acc.toArray++its.toArray=(acc++its).toArray:=Za
  have e2:(acc++its)++(bP k its).flatten=acc++(bP (k+1) its).flatten:=by
   rw[fG,iC,bA]
  rw[<- e2,<- Yn its k (acc++its),<- e,fG,oR]
section
variable {l b:Addr}{ys zs:List V}
theorem Inv.lset{its':List aH}{f:Array aH->Array aH}{t':Nat}(I:Inv X pins σ H s)(hH:H l=ξ (.lst xs))
  (e:s.heap.get? l=ξ { cls:=.type "list",data:=.seq its.toArray n }) (hf:f its.toArray=its'.toArray) (hv:Vals ys its') (hz:ys.length<=sizeLine) :
  Inv X pins σ (upd H l (.lst ys)) { s with heap:=s.heap.update l (bR f),toks:=t' }:=by
 have q:=PySem.IsL.update e f;rw[hf] at q;refine I.write (x:=l) (e:=l) (by rw[hH];exact trivial) (.inl rfl) (fun b' u hb hu=>(oF s.heap (bR f) (gY hb)).trans hu) ⟨_,q⟩ ?_;exact ⟨hz,its',_,hv,q⟩
theorem Inv.lnew{t':Nat}(I:Inv X pins σ H s)(hv:Vals ys its)(hz:ys.length<=sizeLine) :
  Inv X pins σ (upd H s.heap.objs.size (.lst ys)) { s with heap:=s.heap.push { cls:=.type "list",data:=.seq its.toArray },toks:=t' }:=
 I.laid (fun _ _ q=>aC _ q) (aP _) ⟨hz,its,0,hv,aX _ rfl⟩
theorem Inv.fresh(I:Inv X pins σ H s):H s.heap.objs.size=ψ:=I.hok.fresh (aP _)
theorem Inv.lstM(I:Inv X pins σ H s)(hH:H l=ξ (.lst xs)):xs.length<=sizeLine/\∃ (its:List aH) (n:Nat),Vals xs its/\xs.length=its.length/\s.heap.get? l=ξ { cls:=.type "list",data:=.seq its.toArray n }:=by
 obtain ⟨z,its,n,r,e⟩:=I.hok l _ hH;exact ⟨z,its,n,r,r.length,e⟩
theorem An8(h:n<=sizeLine):jG n=false:=by
 unfold jG;exact decide_eq_false Ze
end
section
def Aho:V->List V->Hp->VK->Prop:=fun x vs H Q=>∃ l xs y,x = .ref l/\vs=[y]/\H l=ξ (.lst xs)/\xs.length < sizeLine/\Q .non (upd H l (.lst (xs++[y])))
theorem K9:MtM X "list.append" Aho:=by
 intro pins s σ H x vs v us Q I rx rv h;obtain ⟨l,xs,y,rfl,rfl,hH,hz,q⟩:=h;cases rx;obtain ⟨u,rfl,ru⟩:=rv.one;obtain ⟨z,its,n,r,hl,e⟩:=I.lstM hH;refine kM F.slot_list_append ⟨_,e,rfl⟩ F.entry_list_append (F.args_list_append_2 _ _) (PySem.list_append l its.toArray n u (by rw[aT];omega)) ⟨e,?_⟩;refine ⟨.non,_,I.lset (its':=its++[u]) hH e Za (r.append (.cons ru .nil)) ?_,rfl,q⟩;rw[bV,kF];omega
inductive rPop  (x:V) (vs:List V) (H:Hp) (Q:VK):Prop
 | mk (l:_) (xs:_) (y:_) (h0:x = .ref l) (h1:vs=[]) (h2:H l=ξ (.lst xs)) (h3:xs[xs.length - 1]? = ξ y) (h4:Q y (upd H l (.lst xs.dropLast))):rPop  x vs H Q
inductive rPopAt  (x:V) (vs:List V) (H:Hp) (Q:VK):Prop
 | mk (l:_) (xs:_) (i:_) (k:_) (y:_) (h0:x = .ref l) (h1:vs=[.int i]) (h2:H l=ξ (.lst xs)) (h3:-(2 ^ 63)<=i) (h4:i < 2 ^ 63) (h5:seqIndex? i xs.length=ξ k) (h6:xs[k]? = ξ y) (h7:Q y (upd H l (.lst (xs.eraseIdx k)))):rPopAt  x vs H Q
theorem Amn:MtM X "list.pop" rPopAt:=by
 intro pins s σ H x vs v us Q I rx rv h;obtain ⟨l,xs,i,k,y,rfl,rfl,hH,h1,h2,hk,hy,q⟩:=h;cases rx;obtain ⟨u,rfl,ru⟩:=rv.one;obtain ⟨t,rfl⟩:=ru;obtain ⟨z,its,n,r,hl,e⟩:=I.lstM hH;obtain ⟨w,hw,rw'⟩:=r.get hy;refine kM F.slot_list_pop ⟨_,e,rfl⟩ F.entry_list_pop (F.args_list_pop_2 _ _)
  (MeetsSeq.list_pop_at l its.toArray n i t k w (fitsIndex_both h1 h2) (by rw[aT,<- hl];exact hk) (by rw[<- gZ];exact hw) (by rw[aT];omega)) ⟨e,?_⟩
 refine ⟨y,_,I.lset (its':=its.eraseIdx k) hH e ?_ (r.eraseIdx k) ?_,rw',q⟩
 ·show its.toArray.eraseIdxIfInBounds k=(its.eraseIdx k).toArray;rw[List.eraseIdxIfInBounds_toArray]
 ·have:=Xy xs k;omega
inductive rCat  (x y:V) (H:Hp) (Q:VK):Prop
 | mk (l:_) (b:_) (xs:_) (zs:_) (h0:x = .ref l) (h1:y = .ref b) (h2:H l=ξ (.lst xs)) (h3:H b=ξ (.lst zs)) (h4:xs.length+zs.length<=sizeLine) (h5:∀ p,H p=ψ->Q (.ref p) (upd H p (.lst (xs++zs)))):rCat  x y H Q
theorem Awi:OpR X (gP .Add) rCat:=by
 intro pins s σ H x y v u Q I rx ry h;obtain ⟨l,b,xs,zs,rfl,rfl,hH,hB,hz,q⟩:=h;cases rx;cases ry;obtain ⟨z,its,n,r,hl,e⟩:=I.lstM hH;obtain ⟨z2,its2,n2,r2,hl2,e2⟩:=I.lstM hB;refine PySem.P.add_list e e2 ?_ (by rw[aT,aT];omega);have ea:its.toArray++its2.toArray=(its++its2).toArray:=Za
 rw[ea];exact ⟨.ref _,_,I.lnew (t':=s.toks) (r.append r2) (by rw[bV];omega),rfl,q _ I.fresh⟩
inductive rRep  (x y:V) (H:Hp) (Q:VK):Prop
 | mk (l:_) (k:_) (xs:_) (h0:x = .ref l) (h1:y = .int k) (h2:H l=ξ (.lst xs)) (h3:-(2 ^ 63)<=k) (h4:k < 2 ^ 63) (h5:xs.length * k.toNat<=sizeLine) (h6:∀ p,H p=ψ->Q (.ref p) (upd H p (.lst (bP k.toNat xs).flatten))):rRep  x y H Q
theorem Aqr{α:Type}(xs:List α)(k:Nat):(bP k xs).flatten.length=k * xs.length:=by
 induction k with
 | zero=>simp
 | succ k ih=>rw[fG,iC,bV,ih,Nat.succ_mul,Nat.add_comm]
theorem Avq:OpR X (gP .Mult) rRep:=by
 intro pins s σ H x y v u Q I rx ry h;obtain ⟨l,k,xs,rfl,rfl,hH,h1,h2,hz,q⟩:=h;cases rx;obtain ⟨t,rfl⟩:=ry;obtain ⟨z,its,n,r,hl,e⟩:=I.lstM hH;have hlen:its.toArray.size * k.toNat<=sizeLine:=by rw[aT,<- hl];exact hz
 have hcap:¬ its.toArray.size * k.toNat > (2 ^ 63 - 1) / 8:=by
  have:(sizeLine:Nat)<=(2 ^ 63 - 1) / 8:=Zb
  omega
 have hfit:¬ (!Builtin.List.listFitsIndex k)=true:=by
  rw[fitsIndex_both h1 h2];exact dG
 have hlong:¬ jG (its.toArray.size * k.toNat)=true:=by
  rw[An8 hlen];exact dG
 have hnew:tQ (fun x1 x2=>x1++x2) #[] (bP (if its.toArray.isEmpty=true then 0 else k.toNat) its.toArray)=(bP k.toNat its).flatten.toArray:=by
  have f0:∀ m:Nat,tQ (fun x1 x2=>x1++x2) #[] (bP m its.toArray)=(bP m its).flatten.toArray:=fun m=>by
   have:=Yn its m [];rw[gG] at this;exact this
  rw[f0];cases its with
  | nil=>simp
  | cons a r'=>rw[if_neg Za]
 refine wpAny_binaryOp_repeat_ref (T := "list") (U := "int") Zb ⟨_,e,rfl⟩ (fun s'=>tP s' k t) noFill_list_mul F.fills_int_mul sP repeat_list F.slot_int_index.lookup
  (kM sP (tP s k t) F.entry_int_rmul (F.args_int_rmul_2 _ _) (int___rmul___int_list k t l its.toArray n)
   ⟨e,rfl,⟨_,e,rfl⟩,kM F.slot_list_mul ⟨_,e,rfl⟩ F.entry_list_mul (F.args_list_mul_2 _ _) (AutoListH.list___mul___list_int_3 l its.toArray n k t hfit hcap hlong) ⟨e,?_⟩⟩)
 rw[hnew];exact ⟨.ref _,_,I.lnew (t':=s.toks) (r.rep k.toNat) (by rw[Aqr,vM];exact hz),rfl,q _ I.fresh⟩
end
section
variable {prog:cC}{w:cM}{E:aH->aN->Prop}
end
end L2
namespace Att
open PySem PySem.W PySem.Calls PyProof.Rows
theorem T9{P:nE}{h:Heap}:∀ (ns:List Int) (vs:List aH),WellAll P h vs (ns.map WData.int)->jL vs ns:=by
 intro ns;induction ns with
 | nil=>
  intro vs w;rw[bI] at w;cases w;exact .nil
 | cons n ns ih=>
  intro vs w;rw[aI] at w;cases w with
  | cons a b=>
   cases a;exact .cons _ _ (ih _ b)
theorem Akv{l:lB}{n:Nat}(hn:l.most=ξ n){P:nE}{h:Heap}{args:List WData}{vals:List aH}
  (hpre:l.row.toRowW.claim.pre args=true) (hwl:WellAll P h vals args) :
  ∃ a vs ns,vals=[cW a]/\args=[WData.list (ns.map WData.int)]/\h.get? a=ξ { cls:=.type "list",data:=.seq vs.toArray }/\jL vs ns/\ns.length<=n:=by
 have hsh:WShape.hasAll [] args [.list .int]=true:=(pre_splitW hpre).1;have hc:l.pre.holds [] { args:=args } = true:=(pre_splitW hpre).2;obtain ⟨d,r,rfl,h1,h2⟩:=hasAllW_cons hsh;obtain rfl:=hasAllW_nil h2;obtain ⟨xs,rfl,h3⟩:=hasW_list h1;obtain ⟨ns,rfl⟩:=items_int h3;have hlen:ns.length<=n:=by
  unfold lB.pre at hc;have h4:(WTm.not (.lt (.lit (.int (n:Int))) (.len (.arg 0)))).holds [] { args:=[.list (ns.map .int)] } = true:=by
   have h4:=(holds_andW hc).1;rw[hn] at h4;exact h4
  have h5:=condW_of h4 (w_not (w_lt w_lit (w_len_list (w_arg rfl))));rw[aL] at h5;refine Nat.le_of_not_lt fun q=>?_
  have q':(n:Int) < ((ns.length:Nat):Int):=Ze
  first
   | (rw[decide_eq_true q'] at h5;exact absurd h5 Zb)
   | (simp at h5;omega)
 cases hwl with
 | cons w1 w2=>
  cases w2;cases w1 with
  | list ho hall=>exact ⟨_,_,ns,rfl,rfl,ho,T9 ns _ hall,hlen⟩
theorem Aj4(l:lB)(args:List WData):l.row.toRowW.claim.post args (.bool true) args=true:=
 postW_of (r:=l.row.toRowW) (X:=(true == true))
  (show vZ [] (.bool true) .bool=true by first | rfl | decide | simp[vZ,WShape.arms,WShape.armsAll])
  (show (WTm.eq .res (.lit (.bool true))).value [] { args:=args,res:=ξ (.bool true),after:=args } = ξ (.bool (true == true)) from w_eq_bool (w_res rfl) w_lit) rfl
theorem Acx{l:lB}{n:Nat}{q:cC}{loose:List Str}{XP:(Str->Option aH)->Heap->Prop}{YP:cM->Heap->Prop}{d:DefRec}
  (hn:l.most=ξ n) (hdf:d.params.defaults=[])
  (call:∀ (w:cM) (s₀ s₁:aN) (mg mb:Str->Option aH) (fa:Addr) (o:Obj) (pm cd doc:aH) (a:Addr) (vs:List aH) (ns:List Int),
   Ground q loose [] XP w s₀ mg mb s₁.heap->YP w s₁.heap ->
   s₁.heap.get? fa=ξ o->o.data = .func (docDef d.name d.params d.body d.scope pm cd doc)->s₁.heap.CodeRec cd d.name->mg d.name=ξ (.ref fa) ->
   s₁.heap.get? a=ξ { cls:=.type "list",data:=.seq vs.toArray }->jL vs ns->ns.length<=n->s₁.gens=#[] ->
   kT (model l.prog w) callerA ZcE Zah s₁) :
  WalkO q loose XP YP l.row.toRowW d [] (fun f vs=>tR f vs):=by
 intro w s₀ s₁ mg mb G Y fa o pm cd doc dV kV ho hd hcd hD hmg hg args vals as hpre hlay hrd hwl hlo;obtain rfl:dV = .none:=Dflts.none hD hdf;obtain rfl:kV = .none:=Dflts.noKw hD;obtain ⟨a,vs,ns,rfl,rfl,hobj,hints,hlen⟩:=Akv hn hpre hwl;refine enter_call (mC (call w s₀ s₁ mg mb fa o pm cd doc a vs ns G Y ho (fd_plain hd) hcd hmg hobj hints hlen hg) fun r s' hq=>?_);obtain ⟨rfl,h2,h3,h4⟩:=hq;exact ⟨.inl ⟨.bool true,.bool true,[],rfl,fun _=>rfl,.bool true,Aj4 l _,fun _=>⟨List.Pairwise.nil,fun _ hm=>(nomatch hm)⟩⟩,h2,h3,h4⟩
section
variable {prog:cC}{w:cM}{A:eA}{E:aH->aN->Prop}{s:aN}{K:Frag}
end
end Att
namespace L2
open PySem PySem.Spec PyProof.Rows
theorem Xu{vs:List aH}{ns:List Int}(h:jL vs ns):Vals ZA vs:=by
 induction h with
 | nil=>exact .nil
 | cons n t h ih=>exact .cons ⟨t,rfl⟩ ih
def Arx(H:Hp):Prop:=∀ b,H b=ψ\/∃ o xs,H b=ξ (.frz o (.lst xs))
variable {P:cC}{w:cM}{K:aF}{a:Addr}{fd:dS}{x:Str}
theorem Ann{mg mb:Str->Option aH}{CX:CXT}{k:Nat}{fa:Addr}{sp:Sp}{s₁:aN}{vs:List aH}{ns:List Int}
  (KX:K.In s₁.heap) (hns:s₁.heap.Ns bU mg) (hb:s₁.heap.Ns qH mb) (hbb:∀ x:Str,x ≠ "__name__" -> mb x=iA x) (hlim:s₁.heap.NoLimit) (hg:s₁.gens=#[])
  (ha:s₁.heap.get? a=ξ { cls:=.type "list",data:=.seq vs.toArray }) (hi:jL vs ns) (hl:ns.length<=sizeLine) (hr:Room k callerA)
  (F:∀ base:Heap,K.In base->base.Ns bU mg->FnOk P w K mg base CX k fa fd [x] sp) (hbind:∀ (s:aN) (u:aH),mB s fd ⟨[u],[]⟩ [(x,u)])
  (hsp:∀ H:Hp,Arx H->SqL K H a ZA->sp [.ref a] H Zel fun _ _ _=>False)
  (hCX:∀ H e s',CX [] H s₁ (fun _ _ _=>False) e s'->False) :
  kT (model P w) callerA ZcE Zah s₁:=by
 have rv:=Xu hi;have lenV:=hi.length;have core:∀ H:Hp,Arx H->SqL K H a ZA->HOk P w H s₁.heap->(∀ b,H b≠ψ->b=a)->(H a≠ψ->K.lookup a=ψ) ->
   kT (model P w) callerA ZcE Zah s₁:=by
  intro H hO hS hok hA hK;have base_of:∀ {b:Addr} {o:Obj},s₁.heap.get? b=ξ o->H b=ψ->(Aa3 s₁.heap H).get? b=ξ o:=fun e n=>Anb e n
  have noA:∀ {b:Addr} {o:Obj} {es:Array pR} {ep:Nat},s₁.heap.get? b=ξ o->o.data = .dict es ep->H b=ψ:=fun {b o es ep} e d=>by
   cases q:H b with
   | none=>rfl
   | some u=>
    have e':b=a:=hA b (by rw[q];simp);subst e';rw[ha] at e;cases e;have d':Data.seq vs.toArray _=Data.dict es ep:=d;cases d'
  have nsK:∀ {b:Addr} {m:Str->Option aH},s₁.heap.Ns b m->(Aa3 s₁.heap H).Ns b m:=fun {b m} ⟨o,es,ep,e,d,r⟩=>⟨o,es,ep,base_of e (noA e d),d,r⟩
  have hKb:K.In (Aa3 s₁.heap H):=fun b o e=>base_of (KX b o e) (by
   cases q:H b with
   | none=>rfl
   | some u=>
    have e':b=a:=hA b (by rw[q];simp);subst e';rw[hK (by rw[q];simp)] at e;cases e)
  have hM:Mod K mg (Aa3 s₁.heap H):=⟨hKb,nsK hns,⟨mb,nsK hb,hbb⟩,let ⟨mc,h1,h2⟩:=hlim;⟨mc,nsK h1,h2⟩⟩
  have e0:Env0 P w K mg (Aa3 s₁.heap H) callerA [] s₁ H:=⟨rfl,hM,fun b o e=>Asq e,qS (Aim _ _),trivial,fun b hb=>absurd (show b∈([]:List Addr) from hb) Za,hok,.of_eq hg⟩;refine mC ((F _ hKb (nsK hns)).run callerA [] s₁ H ⟨[.ref a],[]⟩ [.ref a] [.ref a] _ _ hr e0 (hbind s₁ (.ref a)) (.cons rfl .nil) (hsp H hO hS)) fun r s' h=>?_
  cases r with
  | error e=>exact (hCX H e s' h).elim
  | ok fl=>
   cases fl with
   | next=>exact dY h
   | brk=>exact dY h
   | cont=>exact dY h
   | ret u=>
    obtain ⟨v,H',os,bare,un,hok',r',q⟩:=h;have q':v = .bl true:=q;subst q';obtain rfl:u=tL true:=r';refine ⟨rfl,OldK.of_keep fun b o e=>?_,os,bare⟩;cases q:H b with
    | none=>exact un.keep b o e q (by intro z;exact absurd (show b∈([]:List Addr) from z) Za) Za
    | some u=>
     rcases hO b with z | ⟨ob,xs,z⟩
     ·rw[q] at z;cases z
     ·have z2:=un.frzs b ob _ z;obtain ⟨e1,_⟩:=hok b _ z;obtain ⟨e2,_⟩:=hok' b _ z2;rw[e] at e1;cases e1;exact e2
 cases hk:K.lookup a with
 | some o=>
  have e:=KX a o hk;rw[ha] at e;cases e;refine core (fun _=>ψ) (fun _=>.inl rfl) (.inr ⟨_,vs.toArray,_,hk,rfl,rfl,rfl,by rw[aT,lenV];exact hl,by simpa using rv⟩) (fun b u z=>by have z':(ψ:Option HO)=ξ u:=z;cases z') (fun b z=>absurd rfl z) fun z=>absurd rfl z
 | none=>
  refine core (fun b=>if b=a then ξ (.frz { cls:=.type "list",data:=.seq vs.toArray } (.lst ZA)) else ψ) (fun b=>?_) (.inl (.inr ⟨{ cls:=.type "list",data:=.seq vs.toArray },if_pos rfl⟩)) (fun b u z=>?_) (fun b z=>?_) fun _=>hk
  ·by_cases hb:b=a
   ·exact .inr ⟨_,_,if_pos hb⟩
   ·exact .inl (if_neg hb)
  ·by_cases hb:b=a
   ·have z':=(if_pos hb).symm.trans z;cases z';subst hb;exact ⟨ha,by rw[aL];exact hl,vs,_,rv,ha⟩
   ·have z':=(if_neg hb).symm.trans z;cases z'
  ·by_cases hb:b=a
   ·exact hb
   ·exact absurd (if_neg hb) z
theorem Ar9{l:lB}{n k:Nat}{q:cC}{loose:List Str}{XP:(Str->Option aH)->Heap->Prop}{YP:cM->Heap->Prop}{d:DefRec}{K:nE->aF}{CX:cM->CXT}{sp:cM->Sp}{x:Str}
  (hn:l.most=ξ n) (hn2:n<=sizeLine) (hdf:d.params.defaults=[]) (hr:Room k callerA)
  (hY:∀ (w:cM) (h:Heap),YP w h->(K w.params).In h)
  (F:∀ (w:cM) (mg:Str->Option aH) (fa:Addr) (h:Heap),(K w.params).In h->h.Ns bU mg->mg d.name=ξ (.ref fa) ->
   ∃ fd:dS,(∀ (s:aN) (u:aH),mB s fd ⟨[u],[]⟩ [(x,u)]) /\
    ∀ base:Heap,(K w.params).In base->base.Ns bU mg->FnOk l.prog w (K w.params) mg base (CX w) k fa fd [x] (sp w))
  (hsp:∀ (w:cM) (H:Hp) (a:Addr) (ns:List Int),ns.length<=n->Arx H->SqL (K w.params) H a ZA->sp w [.ref a] H Zel fun _ _ _=>False)
  (hCX:∀ (w:cM) (H:Hp) (s:aN) (e:aH) (s':aN),CX w [] H s (fun _ _ _=>False) e s'->False) :
  vF q loose XP YP l.row.toRowW d [] (fun f vs=>tR f vs):=by
 refine Att.Acx hn hdf fun w s₀ s₁ mg mb fa o pm cd doc a vs ns G Y ho hd hcd hmg hobj hints hlen hg=>?_
 have KX:=hY w _ Y;obtain ⟨fd,hb,hF⟩:=F w mg fa _ KX G.T.g hmg;exact Ann KX G.T.g G.T.b G.T.builtins G.T.nolimit hg hobj hints (bW hlen hn2) hr hF hb (fun H hO hS=>hsp w H a ns hlen hO hS) fun H e s'=>hCX w H s₁ e s'
noncomputable def Bc(s:Stmt)(j:Nat):Stmt:=match s with
 | .ClassDef _ _ _ body _ _ _ _ _ _ _=>body.getD j (.Pass ⟨0,0,0,0⟩)
 | _=>.Pass ⟨0,0,0,0⟩
noncomputable def Hl(s:Stmt):Arguments:=match s with
 | .FunctionDef _ a _ _ _ _ _ _ _ _=>a
 | _=>{ posonlyargs:=[],args:=[],vararg:=ψ,kwonlyargs:=[],kw_defaults:=[],kwarg:=ψ,defaults:=[] }
noncomputable def Fw(s:Stmt):List Stmt:=match s with
 | .FunctionDef _ _ b _ _ _ _ _ _ _=>b
 | _=>[]
noncomputable def An(s:Stmt):mW:=match s with
 | .FunctionDef _ _ _ _ _ _ sc _ _ _=>sc
 | _=>{ kind:=.function,names:=[],isGenerator:=false,isCoroutine:=false }
abbrev CX0:CXT:=fun _ _ _ _ _ _=>False
abbrev E0:XK:=fun _ _ _=>False
variable {X:Cx}
theorem Ahm:P1 CX0 X E0:=fun _ _ _ _ _ _ _ h=>h.elim
inductive FunE(K:aF)(x qual:Str)(st:Stmt)(f:Addr)(fd:dS):Prop
 | mk (oc:aH) (od:Option Addr) (kV doc pm:aH) (an:Option Addr) (cdv ct:aH) (osl:Array (Option aH)) (h0:fd=fP x qual (Hl st) (Fw st) (An st) .none kV doc pm an cdv ct) (h1:K.lookup f=ξ ⟨oc,od,.func fd,osl⟩) (h2:kA K cdv qual=true):FunE K x qual st f fd
structure Fun(K:aF)(x qual:Str)(st:Stmt)(f:Addr)(fd:dS):Prop where
 ex:FunE K x qual st f fd
 kp:dZ K (.ref f)=true
variable {qual:Str}{st:Stmt}{f:Addr}
section
variable {mg:Str->Option aH}{base:Heap}
theorem Fun.ok{N ps:List Str}{k:Nat}{sp:Sp}(F:Fun K x qual st f fd)(S:FnScope N ps (An st))(len:∀ vs H Q E,sp vs H Q E->vs.length=ps.length)
  (hbody:∀ (cdv:aH) (A:eA) (outer:List Env) (s:aN) (H:Hp) (vs:List V) (Q:VK) (E:XK),Room k (A.deeper (envOfC qual (An st) s.heap.objs.size f cdv))->sp vs H Q E ->
   ∃ t,PSs (Ae9 CX0 P w K mg base N qual (An st) f cdv A outer s H E).nox (Fw st) t/\t { nx:=fun _ H'=>Q .non H',rt:=Q } (start N vs) H):FnOk P w K mg base CX0 (k+1) f fd ps sp:=by
 obtain ⟨oc,od,kV,doc,pm,an,cdv,ct,osl,rfl,lk,hcd⟩:=F.ex;refine Ax3 lk hcd S len fun A outer s H vs Q E hr hsp=>?_
 obtain ⟨t,h,q⟩:=hbody cdv A outer s H vs Q E hr hsp;exact ⟨t,h.nox,q⟩
theorem Fun.binds{ps:List Str}(F:Fun K x qual st f fd)
  (h:∀ (kV doc pm:aH) (an:Option Addr) (cdv ct:aH) (us:List aH),us.length=ps.length->bindArgs ZaW ⟨us,[]⟩=pure (ps.zip us)):Binds K fd ps []:=by
 obtain ⟨oc,od,kV,doc,pm,an,cdv,ct,osl,rfl,lk,hcd⟩:=F.ex;exact .all (h kV doc pm an cdv ct)
theorem Abi{oc:aH}{od an:Option Addr}{osl:Array (Option aH)}{kV doc pm cdv ct:aH}(l:K.lookup f=ξ ⟨oc,od,.func ZaW,osl⟩)
  (c:kA K cdv qual=true) (k:dZ K (.ref f)=true):Fun K x qual st f ZaW:=⟨⟨oc,od,kV,doc,pm,an,cdv,ct,osl,rfl,l,c⟩,k⟩
end
theorem Aau{A B:Prop}(h:B):if false=true then A else B:=by
 rw[if_neg dG];exact h
theorem Abb{A B:Prop}(h:A):if true=true then A else B:=by
 rw[if_pos rfl];exact h
def Same(H H':Hp):Prop:=∀ b o,H b=ξ o->H' b=ξ o
theorem Same.refl(H:Hp):Same H H:=fun _ _ h=>h
variable {H:Hp}
theorem Same.trans{H1 H2:Hp}(a:Same H H1)(b:Same H1 H2):Same H H2:=fun c o h=>b c o (a c o h)
variable {H':Hp}
theorem Same.free(e:Same H H'){l:Addr}(h:H' l=vW):H l=vW:=by
 cases q:H l with
 | none=>rfl
 | some o=>
  rw[e l o q] at h;cases h
theorem Same.seq{xs:List V}(e:Same H H')(h:SqL K H a xs):SqL K H' a xs:=by
 rcases h with (h | ⟨o,h⟩) | h
 ·exact .inl (.inl (e _ _ h))
 ·exact .inl (.inr ⟨o,e _ _ h⟩)
 ·exact .inr h
variable {o:Option V}{u:aH}{y:V}
section
variable {κ:Type}[DecidableEq κ]
noncomputable def Ny(kvs:List (κ×V))(k:κ):Option V:=(kvs.find? fun kv=>decide (kv.1=k)).map (·.2)
noncomputable def Rj(kvs:List (κ×V))(k:κ)(v:V):List (κ×V):=
 if ZcN=true then kvs.map (fun kv=>if kv.1=k then (kv.1,v) else kv) else kvs++[(k,v)]
noncomputable def Uz(kvs:List (κ×V))(k:κ):List (κ×V):=kvs.filter fun kv=>decide (kv.1≠k)
theorem Wj{p:κ×V}{r:List (κ×V)}{k:κ}(e:p.1=k):Ny (p::r) k=ξ p.2:=by simp[Ny,gH,e]
theorem Vz{p:κ×V}{r:List (κ×V)}{k:κ}(e:¬ p.1=k):Ny (p::r) k=Ny r k:=by simp[Ny,gH,e]
theorem Vk(k:κ):∀ kvs:List (κ×V),ZcN=(Ny kvs k).isSome
 | []=>rfl
 | p::r=>by
  rw[eZ];by_cases e:p.1=k
  ·simp only[Wj e,decide_eq_true e,Bool.true_or,Option.isSome_some]
  ·rw[Vz e,decide_eq_false e,vG];exact Vk k r
theorem Tt(kvs:List (κ×V))(k:κ)(v:V):(Rj kvs k v).length<=kvs.length+1:=by
 unfold Rj;split
 ·rw[aL];omega
 ·rw[bV,aM,aV];omega
theorem RelO.isSome_eq{u:Option aH}(r:RelO o u):o.isSome=u.isSome:=by
 cases o with
 | none=>cases u with
  | none=>rfl
  | some _=>exact (show False from r).elim
 | some _=>cases u with
  | none=>exact (show False from r).elim
  | some _=>rfl
theorem RelO.getD{u:Option aH}{d:V}{d':aH}(r:RelO o u)(rd:RelV d d'):RelV (o.getD d) (u.getD d'):=by
 cases o with
 | none=>cases u with
  | none=>exact rd
  | some _=>exact (show False from r).elim
 | some _=>cases u with
  | none=>exact (show False from r).elim
  | some _=>exact r
theorem KV.val{kvs:List (κ×V)}{vs:List (κ×aH)}(r:KV kvs vs)(k:κ):RelO (Ny kvs k) (valueAt vs k):=by
 unfold KV at r;induction r with
 | nil=>exact kL
 | @cons p q ps qs h t ih=>
  obtain ⟨h1,h2⟩:=h;by_cases e:p.1=k
  ·have e':q.1=k:=h1.symm.trans e;have b:valueAt (q::qs) k=ξ q.2:=by simp[valueAt,gH,e']
   rw[Wj e,b];exact h2
  ·have e':¬ q.1=k:=fun z=>e (h1.trans z)
   have b:valueAt (q::qs) k=valueAt qs k:=by simp[valueAt,gH,e']
   rw[Vz e,b];exact ih
theorem KV.any{kvs:List (κ×V)}{vs:List (κ×aH)}(r:KV kvs vs)(k:κ):(kvs.any fun kv=>decide (kv.1=k))=vs.any fun kv=>decide (kv.1=k):=by
 unfold KV at r;induction r with
 | nil=>rfl
 | cons h t ih=>rw[eZ,eZ,ih,h.1]
theorem KV.repl{kvs:List (κ×V)}{vs:List (κ×aH)}(r:KV kvs vs)(k:κ)(ry:RelV y u) :
  KV (kvs.map fun kv=>if kv.1=k then (kv.1,y) else kv) (vs.map fun kv=>if kv.1=k then (kv.1,u) else kv):=by
 unfold KV at r ⊢;induction r with
 | nil=>exact .nil
 | @cons p q ps qs h t ih=>
  rw[aI,aI];refine .cons ?_ ih;obtain ⟨h1,h2⟩:=h;by_cases e:p.1=k
  ·rw[if_pos e,if_pos (h1.symm.trans e)];exact ⟨h1,ry⟩
  ·rw[if_neg e,if_neg (fun z=>e (h1.trans z))];exact ⟨h1,h2⟩
theorem KV.put{kvs:List (κ×V)}{vs:List (κ×aH)}(r:KV kvs vs)(k:κ)(ry:RelV y u):KV (Rj kvs k y) (stored vs k u):=by
 unfold Rj stored;rw[r.any k];by_cases e:(vs.any fun kv=>decide (kv.1=k))=true
 ·rw[if_pos e,if_pos e];exact r.repl k ry
 ·rw[if_neg e,if_neg e];exact vX r ⟨rfl,ry⟩
theorem KV.drop{kvs:List (κ×V)}{vs:List (κ×aH)}(r:KV kvs vs)(k:κ):KV (Uz kvs k) (without vs k):=by
 unfold KV at r ⊢;unfold Uz without;induction r with
 | nil=>exact .nil
 | @cons p q ps qs h t ih=>
  obtain ⟨h1,h2⟩:=h;rw[eB,eB];by_cases e:p.1=k
  ·have a:¬ decide (p.1≠k)=true:=by simp[e]
   have b:¬ decide (q.1≠k)=true:=by simp[h1.symm.trans e]
   rw[if_neg a,if_neg b];exact ih
  ·have e':¬ q.1=k:=fun z=>e (h1.trans z)
   have a:decide (p.1≠k)=true:=by simp[e]
   have b:decide (q.1≠k)=true:=by simp[e']
   rw[if_pos a,if_pos b];exact .cons ⟨h1,h2⟩ ih
theorem KV.keys{kvs:List (κ×V)}{vs:List (κ×aH)}(r:KV kvs vs):kvs.map (·.1)=vs.map (·.1):=by
 unfold KV at r;induction r with
 | nil=>rfl
 | cons h t ih=>rw[aI,aI,ih,h.1]
theorem KV.length{kvs:List (κ×V)}{vs:List (κ×aH)}(r:KV kvs vs):kvs.length=vs.length:=nB r
theorem An2(kvs:List (κ×V))(k:κ):(Uz kvs k).length<=kvs.length:=dF _ _
end
theorem Y8{k:Key}(r:RelV (kV k) u):(C9 P w).is k u=true:=by
 cases k with
 | inl i=>obtain ⟨t,e⟩:=(show ∃ t,u=pQ i t from r);subst e;exact Ab0 P w i t
 | inr x=>obtain ⟨t,e⟩:=(show ∃ t,u=mG x t from r);subst e;exact Nu P w x t
theorem X1:∀ {ks:List Key} {us:List aH},Vals (ks.map kV) us->ItemsAre (C9 P w) ks us
 | [],_,r=>by rw[bI] at r;cases r;exact .nil
 | k::ks,_,r=>by
  rw[aI] at r;cases r with
  | cons h t=>exact .cons (Y8 h) (X1 t)
abbrev KT(H:Hp):List (List Key×V)->List Zdm->Prop:=tM fun p q=>p.1=q.1/\H q.2.1=ξ (.tup (p.1.map kV))/\RelV p.2 q.2.2
variable {xs:List Zdm}{kvs:List (List Key×V)}
theorem KT.val(r:KT H kvs xs)(k:List Key):RelO (Ny kvs k) ((atKey xs k).map (·.2)):=by
 induction r with
 | nil=>exact kL
 | @cons p q ps qs h t ih=>
  obtain ⟨h1,_,h2⟩:=h;by_cases e:p.1=k
  ·have e':q.1=k:=h1.symm.trans e;have b:atKey (q::qs) k=ξ q.2:=by simp[atKey,gH,e']
   rw[Wj e,b];exact h2
  ·have e':¬ q.1=k:=fun z=>e (h1.trans z)
   have b:atKey (q::qs) k=atKey qs k:=by simp[atKey,gH,e']
   rw[Vz e,b];exact ih
theorem KT.repl(r:KT H kvs xs)(k:List Key)(ry:RelV y u) :
  KT H (kvs.map fun kv=>if kv.1=k then (kv.1,y) else kv) (xs.map (putAt k u)):=by
 induction r with
 | nil=>exact .nil
 | @cons p q ps qs h t ih=>
  rw[aI,aI];refine .cons ?_ ih;obtain ⟨h1,h2,h3⟩:=h;unfold putAt;by_cases e:p.1=k
  ·rw[if_pos e,if_pos (h1.symm.trans e)];exact ⟨h1,h2,ry⟩
  ·rw[if_neg e,if_neg (fun z=>e (h1.trans z))];exact ⟨h1,h2,h3⟩
variable {b:Addr}
theorem KT.put(r:KT H kvs xs)(k:List Key)(hb:H b=ξ Zc6)(ry:RelV y u) :
  KT H (Rj kvs k y) (storedH xs k b u):=by
 have e:(kvs.any fun kv=>decide (kv.1=k))=(atKey xs k).isSome:=by
  rw[Vk,(r.val k).isSome_eq,iT]
 unfold Rj storedH;rw[e];by_cases q:(atKey xs k).isSome=true
 ·rw[if_pos q,if_pos q];exact r.repl k ry
 ·rw[if_neg q,if_neg q];exact vX r ⟨rfl,hb,ry⟩
theorem KT.keeps(r:KT H kvs xs)(ht:∀ b ys,H b=ξ (.tup ys)->H' b=ξ (.tup ys)):KT H' kvs xs:=
 Paired.mapP r fun _ _ z=>⟨z.1,ht _ _ z.2.1,z.2.2⟩
section
variable {h:Heap}
theorem Aud{u:HO}(ok:HOk P w H h)(e:Rd H a u):ObjOk P w H h a u:=e.ok ok
theorem Aih{kvs:List (Key×V)}(ok:HOk P w H h)(e:Rd H a (.dK kvs)):kvs.length<=sizeLine/\(a == sysModules)=false/\∃ vs,KV kvs vs/\h.DictOf (C9 P w) a vs:=
 show ObjOk P w H h a (.dK kvs) from Aud ok e
theorem Ahu{kvs:List (Key×V)}(ok:HOk P w H h)(e:H a=ξ (.dK kvs)):kvs.length<=sizeLine/\(a == sysModules)=false/\∃ vs,KV kvs vs/\h.DictOf (C9 P w) a vs:=Aih ok (.inl e)
theorem Abg{ks:List Key}(ok:HOk P w H h)(e:H a=ξ (.tup (ks.map kV))):(tupleKind (C9 P w)).is h ks a:=by
 obtain ⟨_,its,r,o,h1,h2,n,h3⟩:=(show ObjOk P w H h a (.tup (ks.map kV)) from ok a _ e);exact ⟨o,its.toArray,n,h1,(sK h2).1,h3,by simpa using X1 r⟩
theorem Ah6(ok:HOk P w H h)(e:Rd H a (.dT kvs)):kvs.length<=sizeLine/\(a == sysModules)=false /\
  ∃ xs,KT H kvs xs/\h.DictOfH (tupleKind (C9 P w)) a xs:=by
 obtain ⟨z,y,xs,r,o,es,ep,h1,h2,h3,h4,h5⟩:=(show ObjOk P w H h a (.dT kvs) from Aud ok e);refine ⟨z,y,xs,r,o,es,ep,h1,h2,h3,h4,fun x hx=>?_,h5⟩;have all:∀ {l:List (List Key×V)} {m:List Zdm},KT H l m->∀ x∈m,(tupleKind (C9 P w)).is h x.1 x.2.1:=by
  intro l m q;induction q with
  | nil=>intro x hx;exact nomatch hx
  | @cons p q ps qs hq t ih=>
   intro x hx;rcases bG.mp hx with e | hx
   ·subst e;exact Abg ok (by rw[<- hq.1];exact hq.2.1)
   ·exact ih x hx
 exact all r x hx
theorem Ayg(ok:HOk P w H h)(e:H a=ξ (.dT kvs)):kvs.length<=sizeLine/\(a == sysModules)=false /\
  ∃ xs,KT H kvs xs/\h.DictOfH (tupleKind (C9 P w)) a xs:=Ah6 ok (.inl e)
end
def DGet(H:Hp)(a:Addr)(y:V)(r:Option V):Prop:=
 (∃ kvs k,Rd H a (.dK kvs)/\y=kV k/\r=Ny kvs k)\/∃ kvs k b,Rd H a (.dT kvs)/\y = .ref b/\H b=ξ Zc6/\r=Ny kvs k
def DPut(H:Hp)(a:Addr)(y v:V)(H':Hp):Prop:=
 (∃ kvs k,H a=ξ (.dK kvs)/\y=kV k/\kvs.length < sizeLine/\H'=upd H a (.dK (Rj kvs k v))) \/
 ∃ kvs k b,H a=ξ (.dT kvs)/\y = .ref b/\H b=ξ Zc6/\kvs.length < sizeLine/\H'=upd H a (.dT (Rj kvs k v))
theorem DGet.k{kvs:List (Key×V)}{k:Key}(e:H a=ξ (.dK kvs)):DGet H a (kV k) (Ny kvs k):=.inl ⟨kvs,k,.inl e,rfl,rfl⟩
theorem DGet.t{k:List Key}(e:H a=ξ (.dT kvs))(eb:H b=ξ Zc6):DGet H a (.ref b) (Ny kvs k):=.inr ⟨kvs,k,b,.inl e,rfl,eb,rfl⟩
variable {v:V}
theorem DPut.k{kvs:List (Key×V)}{k:Key}(e:H a=ξ (.dK kvs))(hl:kvs.length < sizeLine):DPut H a (kV k) v (upd H a (.dK (Rj kvs k v))):=.inl ⟨kvs,k,e,rfl,hl,rfl⟩
theorem DPut.t{k:List Key}(e:H a=ξ (.dT kvs))(eb:H b=ξ Zc6)(hl:kvs.length < sizeLine) :
  DPut H a (.ref b) v (upd H a (.dT (Rj kvs k v))):=.inr ⟨kvs,k,b,e,rfl,eb,hl,rfl⟩
variable {A:eA}{pins:List (Addr×Obj)}{σ:St}{s:aN}{E Q:aH->aN->Prop}
section
variable {r:aH}
theorem Inv.big(I:Inv X pins σ H s):sysModules < s.heap.objs.size:=by
 have h:bU < s.heap.objs.size:=(I.mod.glob.keeps I.bk).lt;exact Nat.lt_trans Zb h
theorem A5k(hu:A.units+1 < cLine)(I:Inv X pins σ H s)(g:DGet H a y o)(ry:RelV y u)(h:∀ s',Inv X pins σ H s'->Q (.bool o.isSome) s') :
  wpAny Zf A (dA .In u (.ref a)) Q E s:=by
 rcases g with ⟨kvs,k,e,ey,l⟩ | ⟨kvs,k,b,e,ey,eb,l⟩
 ·subst ey;obtain ⟨z,hd,vs,rel,dd⟩:=Aih I.hok e;refine wpAny_in_of (Y8 ry) hd dd.mapOf ?_;rw[<- (rel.val k).isSome_eq,<- l];exact h _ (I.tok _)
 ·subst ey;cases (show u=cW b from ry);obtain ⟨z,hd,xs,rel,dd⟩:=Ah6 I.hok e;refine wpAny_in_heap (mM hu) (Abg I.hok eb) hd dd ?_;have q:=(rel.val k).isSome_eq;rw[iT] at q;rw[<- q,<- l];exact h _ (I.tok _)
theorem Art(hu:A.units+1 < cLine)(I:Inv X pins σ H s)(g:DGet H a y o)(ry:RelV y u)(h:∀ s',Inv X pins σ H s'->Q (.bool (!o.isSome)) s') :
  wpAny Zf A (dA .NotIn u (.ref a)) Q E s:=by
 rcases g with ⟨kvs,k,e,ey,l⟩ | ⟨kvs,k,b,e,ey,eb,l⟩
 ·subst ey;obtain ⟨z,hd,vs,rel,dd⟩:=Aih I.hok e;refine wpAny_notIn_of (Y8 ry) hd dd.mapOf ?_;rw[<- (rel.val k).isSome_eq,<- l];exact h _ (I.tok _)
 ·subst ey;cases (show u=cW b from ry);obtain ⟨z,hd,xs,rel,dd⟩:=Ah6 I.hok e;refine wpAny_notIn_heap (mM hu) (Abg I.hok eb) hd dd ?_;have q:=(rel.val k).isSome_eq;rw[iT] at q;rw[<- q,<- l];exact h _ (I.tok _)
theorem Aai{h':Heap}{t':Nat}{ob:HO}(I:Inv X pins σ H s)(mu:Mut (H a))(hs:iV a s.heap h')(he:∃ q,h'.get? a=ξ q)(new:ObjOk X.prog X.w (upd H a ob) h' a ob) :
  Inv X pins σ (upd H a ob) { s with heap:=h',toks:=t' }:=
 I.write (x:=a) (e:=a) mu (.inl rfl) (fun b q hb z=>(hs.2 b hb).trans z) he new
theorem Als{h':Heap}{kvs:List (Key×V)}{vs:List (Key×aH)}(z:kvs.length<=sizeLine)(hd:(a == sysModules)=false)(rel:KV kvs vs)(dd:h'.DictOf (C9 P w) a vs) :
  ObjOk P w H' h' a (.dK kvs):=⟨z,hd,vs,rel,dd⟩
theorem Ajj{Q:Unit->aN->Prop}(hu:A.units+1 < cLine)(I:Inv X pins σ H s)(g:DPut H a y v H')(ry:RelV y u)(rv:RelV v r)(h:∀ s',Inv X pins σ H' s'->Q () s') :
  wpAny Zf A (setItem (.ref a) u r) Q E s:=by
 rcases g with ⟨kvs,k,e,ey,l,eH⟩ | ⟨kvs,k,b,e,ey,eb,l,eH⟩
 ·subst ey eH;obtain ⟨z,hd,vs,rel,dd⟩:=Ahu I.hok e;have hz:vs.length<=sizeLine:=by rw[<- rel.length];exact z
  have hl:(Rj kvs k v).length<=sizeLine:=by have:=Tt kvs k v;omega
  refine wpAny_setItem_pairs (hsz:=hz) (Y8 ry) dd fun h' dd' hs=>h _ ?_
  have he:∃ q,h'.get? a=ξ q:=let ⟨q,_,_,hq,_⟩:=dd';⟨q,hq⟩
  exact Aai I (by rw[e];exact kL) hs he (Als hl hd (rel.put k rv) dd')
 ·subst ey eH;cases (show u=cW b from ry);obtain ⟨z,hd,xs,rel,dd⟩:=Ayg I.hok e;have hz:xs.length<=sizeLine:=by rw[<- nB rel];exact z
  have hl:(Rj kvs k v).length<=sizeLine:=by have:=Tt kvs k v;omega
  refine wpAny_setItem_heap (hsz:=hz) (mM hu) (Abg I.hok eb) dd fun h' dd' hs=>h _ ?_
  obtain ⟨q,es,ep,hq,h2,h3,h4,_,h5⟩:=dd';refine Aai I (by rw[e];exact kL) hs ⟨q,hq⟩ ⟨hl,hd,_,(rel.put k eb rv).keeps fun c ys ec=>?_,q,es,ep,hq,h2,h3,h4,h5⟩;rw[Bq (Alm ec e (fun z=>nomatch z))];exact ec
end
section
variable {kvs:List (Key×V)}{k:Key}
theorem Ayb{more:List aH}(I:Inv X pins σ H s)(e:H a=ξ (.dK kvs))(ry:RelV (kV k) u)(l:Ny kvs k=ξ v)(hm:more=[]\/∃ x,more=[x])
  (h:∀ w' s',Inv X pins σ (upd H a (.dK (Uz kvs k))) s'->RelV v w'->Q w' s'):wpAny Zf A (call (.builtin "dict.pop") (.ref a::u::more)) Q E s:=by
 obtain ⟨z,hd,vs,rel,dd⟩:=Ahu I.hok e;obtain ⟨w',hw,rw'⟩:=RelO.some_of (v:=v) (o:=valueAt vs k) (by rw[<- l];exact rel.val k);have hp:(keyPart u).isSome=true:=by
  cases k with
  | inl i=>obtain ⟨t,q⟩:=(show ∃ t,u=pQ i t from ry);subst q;rfl
  | inr x=>obtain ⟨t,q⟩:=(show ∃ t,u=mG x t from ry);subst q;rfl
 have ha:argsOk "dict.pop" ⟨.ref a::u::more,[]⟩:=by
  rcases hm with q | ⟨x,q⟩
  ·subst q;exact PySem.F.args_dict_pop_2 _ _
  ·subst q;exact PySem.F.args_dict_pop_3 _ _ _
 refine qY oY dd.typeIs PySem.F.entry_dict_pop ha (meets_dict_pop_there (C9 X.prog X.w) a (Y8 ry) more hm hp)
  ⟨vs,w',dd,by rw[<- rel.length];exact z,hw,fun h' dd' hs=>h w' _ ?_ rw'⟩
 have he:∃ q,h'.get? a=ξ q:=let ⟨q,_,_,hq,_⟩:=dd';⟨q,hq⟩
 exact Aai I (by rw[e];exact kL) hs he (Als (bW (An2 kvs k) z) hd (rel.drop k) dd')
end
def Ay7(td ty tv:TE):TS:=fun D σ H=>tv σ H fun v H1=>td σ H1 fun x H2=>ty σ H2 fun y H3=>∃ a H4,x = .ref a/\DPut H3 a y v H4/\D.nx σ H4
section
variable {o i e value:Expr}{pos pos' tpos:Pos}{td ty tv:TE}
theorem Apt(hu:X.A.units+1 < cLine)(ho:PE X o td)(hi:PE X i ty)(hv:PE X value tv)(hs:swapsWith value (ξ (.Subscript o i pos')) pos.line X.env=pure false) :
  PS X (.Assign [.Subscript o i pos'] value pos) (Ay7 td ty tv):=by
 intro pins s σ H D I h;refine wpAny_Assign_Subscript (thn (hv pins s σ H _ I h) fun r s1 zz=>zz.elim fun v H1 I1 rv q1=>thn (ho pins s1 σ H1 _ I1 q1) fun u s2 zz=>zz.elim fun x H2 I2 rx q2=>thn (hi pins s2 σ H2 _ I2 q2) fun iv s3 zz=>zz.elim fun y H3 I3 ry zq=>?_) hs;obtain ⟨a,H4,ex,g,q3⟩:=zq;subst ex;obtain rfl:u=cW a:=rx;exact Ajj hu I3 g ry rv fun s4 I4=>⟨σ,H4,I4,q3⟩
end
theorem Amr(h:Heap)(hb:sysModules < h.objs.size):ObjOk P w H (h.push { cls:=.type "dict",data:=.dict #[] }) h.objs.size (.dK []):=
 ⟨eG _,beq_eq_false_iff_ne.mpr (gY (cF hb)),[],.nil,Heap.DictOf.new h⟩
def Aw3:TE:=fun _ H Q=>∀ p,H p=ψ->Q (.ref p) (upd H p (.dK []))
section
variable {pos:Pos}
theorem Aml:PE X (.Dict [] [] pos) Aw3:=fun pins s σ H Q I h=>
 wpAny_Dict_empty ⟨.ref s.heap.objs.size,_,I.laid (a:=s.heap.objs.size) (o:=.dK []) (t':=s.toks) (fun _ _ q=>aC _ q) (aP _) (Amr s.heap I.big),rfl,h _ Zbf⟩
end
structure M1(X:Cx)(o:Expr)(m:Str)(apos:Pos)(e:Expr)(cpos:Pos):Prop where
 base:attributeBase o m X.env Zcy=eval o X.env
 few:((backTo cpos (bH [e] X.env)).all (fun x=>!x.1)&&(backToKw cpos Zab).all ZcH
  && decide (([e]:List Expr).length+([]:List iS).length+(if ([]:List iS).isEmpty then 0 else 1) < 30))=true
 line:(apos.endLine == cpos.line)=true
 trees:backTo cpos (bH [e] X.env)=[Zy]
structure M2(X:Cx)(o:Expr)(m:Str)(apos:Pos)(e f:Expr)(cpos:Pos):Prop where
 base:attributeBase o m X.env Zcy=eval o X.env
 few:((backTo cpos (bH [e,f] X.env)).all (fun x=>!x.1)&&(backToKw cpos Zab).all ZcH
  && decide (([e,f]:List Expr).length+([]:List iS).length+(if ([]:List iS).isEmpty then 0 else 1) < 30))=true
 line:(apos.endLine == cpos.line)=true
 trees:backTo cpos (bH [e,f] X.env)=[Zy,(false,eval f X.env)]
def IsD(H:Hp)(a:Addr):Prop:=(∃ kvs,Rd H a (.dK kvs))\/∃ kvs,Rd H a (.dT kvs)
theorem Anr(I:Inv X pins σ H s)(d:IsD H a) :
  s.TypeIs (.ref a) "dict" /\ (∀ b,cW a = .ref b->∃ ob,s.heap.get? b=ξ ob/\ob.dict=ψ)/\(a == sysModules)=false:=by
 rcases d with ⟨kvs,e⟩ | ⟨kvs,e⟩
 ·obtain ⟨_,hd,vs,_,dd⟩:=Aih I.hok e;refine ⟨dd.typeIs,fun b q=>?_,hd⟩;cases q;obtain ⟨ob,_,_,h1,h2,_⟩:=dd;exact ⟨ob,h1,h2.2.1⟩
 ·obtain ⟨_,hd,xs,_,dd⟩:=Ah6 I.hok e;refine ⟨dd.typeIs,fun b q=>?_,hd⟩;cases q;obtain ⟨ob,_,_,h1,h2,_⟩:=dd;exact ⟨ob,h1,h2.2.1⟩
section
variable {d:V}{r:aH}
end
def Axb(td ty:TE):TE:=fun σ H Q=>td σ H fun x H1=>∃ a,x = .ref a/\IsD H1 a/\ty σ H1 fun y H2=>∃ kvs k v,H2 a=ξ (.dK kvs)/\y=kV k/\Ny kvs k=ξ v/\Q v (upd H2 a (.dK (Uz kvs k)))
section
variable {o e f:Expr}{apos cpos:Pos}{td ty tx:TE}
theorem Ale(ho:PE X o td)(he:PE X e ty)(m:M1 X o "pop" apos e cpos):PE X (.Call (.Attribute o "pop" apos) [e] [] cpos) (Axb td ty):=by
 intro pins s σ H Q I h;refine mY m.base m.few m.line jR oY PySem.F.type_dict_pop (thn (ho pins s σ H _ I h) fun u s1 zz=>zz.elim fun x H1 I1 rx zq=>?_);obtain ⟨a,ex,d,q1⟩:=zq;subst ex;obtain rfl:u=cW a:=rx;obtain ⟨t1,t2,_⟩:=Anr I1 d;refine ⟨t1,t2,?_⟩;rw[m.trees];refine iL rfl (kZ (jO (thn (he pins s1 σ H1 _ I1 q1) fun iv s2 zz=>zz.elim fun y H2 I2 ry zq=>jY ?_)));obtain ⟨kvs,k,v,ea,ey,l,q2⟩:=zq;subst ey;exact Ayb I2 ea ry l (.inl rfl) fun w' s3 I3 rw'=>⟨v,_,I3,rw',q2⟩
end
section
variable {kvs:List (Key×V)}
end
end L2
namespace MR
open PySem PySem.Spec PyProof.Rows L2
inductive U where
 | non | bl (b:Bool) | int (i:Int) | str (x:Str) | tup (l:List U) | ref (n:Nat)
inductive HU where
 | lst (xs:List U) | ro (xs:List U) | dic (kvs:List (Key×U)) | rod (kvs:List (Key×U)) | ins (C:Str) (fs:List (Str×U)) | exc (C:Str) (fr:Bool) (fs:List (Str×U))
noncomputable abbrev UH:=List HU
noncomputable abbrev UE:=List (Option U)
section
variable (K:aF)(H:Hp)(α:List Addr)
mutual
def RepU:U->V->Prop
 | .non,v=>v = .non
 | .bl b,v=>v = .bl b
 | .int i,v=>v = .int i
 | .str x,v=>v = .str x
 | .tup l,v=>∃ a xs,v = .ref a/\SqT K H a xs/\RepL l xs
 | .ref n,v=>∃ a,α[n]? = ξ a/\v = .ref a
def RepL:List U->List V->Prop
 | [],xs=>xs=[]
 | u::l,xs=>∃ x r,xs=x::r/\RepU u x/\RepL l r
end
end
def Stay(H H':Hp):Prop:=(∀ b xs,H b=ξ (.tup xs)->H' b=ξ (.tup xs))/\∀ b o u,H b=ξ (.frz o u)->H' b=ξ (.frz o u)
theorem Stay.refl(H:Hp):Stay H H:=⟨fun _ _ q=>q,fun _ _ _ q=>q⟩
variable {H H1 H2:Hp}
theorem Stay.trans(a:Stay H H1)(b:Stay H1 H2):Stay H H2:=⟨fun c xs q=>b.1 c xs (a.1 c xs q),fun c o u q=>b.2 c o u (a.2 c o u q)⟩
variable {K:aF}{H':Hp}{a:Addr}{xs:List V}
theorem Stay.sqT(e:Stay H H')(h:SqT K H a xs):SqT K H' a xs:=by
 rcases h with (h | ⟨o,h⟩) | h
 ·exact .inl (.inl (e.1 _ _ h))
 ·exact .inl (.inr ⟨o,e.2 _ _ _ h⟩)
 ·exact .inr h
variable {p:Addr}
theorem Stay.new(h:H p=ψ)(o:HO):Stay H (upd H p o):=⟨fun b u q=>by rw[Bq (B4 q h)];exact q,fun b o u q=>by rw[Bq (B4 q h)];exact q⟩
variable {o:HO}
theorem Stay.write(h:H p=ξ o)(m:Mut (ξ o))(o':HO):Stay H (upd H p o'):=
 ⟨fun b u q=>by rw[Bq (Alm q h (fun z=>by subst z;exact m))];exact q,fun b w u q=>by rw[Bq (Alm q h (fun z=>by subst z;exact m))];exact q⟩
structure Gr(H:Hp)(α:List Addr)(H':Hp)(α':List Addr):Prop where
 pre:∃ β,α' = α ++ β
 st:Stay H H'
theorem Gr.refl(H:Hp)(α:List Addr):Gr H α H α:=⟨⟨[],Za⟩,.refl H⟩
variable {α:List Addr}
theorem Gr.trans{α1 α2:List Addr}(a:Gr H α H1 α1)(b:Gr H1 α1 H2 α2):Gr H α H2 α2:=by
 obtain ⟨⟨β,e⟩,s⟩:=a;obtain ⟨⟨γ,e'⟩,s'⟩:=b;exact ⟨⟨β ++ γ,by rw[e',e,bA]⟩,s.trans s'⟩
variable {α':List Addr}{n:Nat}
theorem Gr.at(g:Gr H α H' α')(h:α[n]? = ξ a):α'[n]? = ξ a:=by
 obtain ⟨β,e⟩:=g.pre;have hn:n < α.length:=(aQ.mp h).1;rw[e,bL hn];exact h
variable {l:List U}{i:Nat}{u:U}
section
mutual
theorem RepU.mono(g:Gr H α H' α'):∀ (u:U) (v:V),RepU K H α u v->RepU K H' α' u v
 | .non,_,h=>h
 | .bl _,_,h=>h
 | .int _,_,h=>h
 | .str _,_,h=>h
 | .tup l,v,h=>by
  unfold RepU at h ⊢;obtain ⟨a,xs,e,s,r⟩:=h;exact ⟨a,xs,e,g.st.sqT s,RepL.mono g l xs r⟩
 | .ref n,v,h=>by
  unfold RepU at h ⊢;obtain ⟨a,e,q⟩:=h;exact ⟨a,g.at e,q⟩
theorem RepL.mono(g:Gr H α H' α'):∀ (l:List U) (xs:List V),RepL K H α l xs->RepL K H' α' l xs
 | [],xs,h=>h
 | u::l,xs,h=>by
  unfold RepL at h ⊢;obtain ⟨x,r,e,h1,h2⟩:=h;exact ⟨x,r,e,RepU.mono g u x h1,RepL.mono g l r h2⟩
end
theorem RepL.length:∀ {l:List U} {xs:List V},RepL K H α l xs->l.length=xs.length
 | [],xs,h=>by unfold RepL at h;subst h;rfl
 | u::l,xs,h=>by
  unfold RepL at h;obtain ⟨x,r,e,_,h2⟩:=h;subst e;simp[RepL.length h2]
theorem RepL.get:∀ {l:List U} {xs:List V} {i:Nat} {u:U},RepL K H α l xs->l[i]? = ξ u->∃ x,xs[i]? = ξ x/\RepU K H α u x
 | [],xs,i,u,h,e=>by simp at e
 | w::l,xs,i,u,h,e=>by
  unfold RepL at h;obtain ⟨x,r,e',h1,h2⟩:=h;subst e';cases i with
  | zero=>simp at e;subst e;exact ⟨x,rfl,h1⟩
  | succ i=>simpa using RepL.get (i:=i) h2 (by simpa using e)
theorem RepL.get'{x:V}(h:RepL K H α l xs)(e:xs[i]? = ξ x):∃ u,l[i]? = ξ u/\RepU K H α u x:=by
 have hi:i < l.length:=by rw[h.length];exact (aQ.mp e).1
 obtain ⟨y,e2,r⟩:=h.get (aG hi);rw[e] at e2;cases e2;exact ⟨_,aG hi,r⟩
theorem RepL.nil:RepL K H α [] []:=by unfold RepL;rfl
theorem RepL.cons{x:V}(h:RepU K H α u x)(t:RepL K H α l xs):RepL K H α (u::l) (x::xs):=by
 unfold RepL;exact ⟨x,xs,rfl,h,t⟩
theorem RepL.append:∀ {l l':List U} {xs ys:List V},RepL K H α l xs->RepL K H α l' ys->RepL K H α (l++l') (xs++ys)
 | [],l',xs,ys,h,t=>by unfold RepL at h;subst h;exact t
 | u::l,l',xs,ys,h,t=>by
  unfold RepL at h;obtain ⟨x,r,e,h1,h2⟩:=h;subst e;exact .cons h1 (RepL.append h2 t)
theorem RepL.take:∀ {l:List U} {xs:List V} (n:Nat),RepL K H α l xs->RepL K H α (l.take n) (xs.take n)
 | [],xs,n,h=>by unfold RepL at h;subst h;simp[RepL.nil]
 | u::l,xs,0,h=>by simp[RepL.nil]
 | u::l,xs,n+1,h=>by
  unfold RepL at h;obtain ⟨x,r,e,h1,h2⟩:=h;subst e;exact .cons h1 (RepL.take n h2)
theorem RepL.drop:∀ {l:List U} {xs:List V} (n:Nat),RepL K H α l xs->RepL K H α (l.drop n) (xs.drop n)
 | [],xs,n,h=>by unfold RepL at h;subst h;simp[RepL.nil]
 | u::l,xs,0,h=>h
 | u::l,xs,n+1,h=>by
  unfold RepL at h;obtain ⟨x,r,e,h1,h2⟩:=h;subst e;exact RepL.drop n h2
theorem RepL.set{x:V}(q:RepU K H α u x):∀ {l:List U} {xs:List V} (n:Nat),RepL K H α l xs->RepL K H α (l.set n u) (xs.set n x)
 | [],xs,n,h=>by unfold RepL at h;subst h;exact .nil
 | w::l,xs,0,h=>by
  unfold RepL at h;obtain ⟨y,r,e,h1,h2⟩:=h;subst e;exact .cons q h2
 | w::l,xs,n+1,h=>by
  unfold RepL at h;obtain ⟨y,r,e,h1,h2⟩:=h;subst e;exact .cons h1 (RepL.set q n h2)
theorem RepL.erase:∀ {l:List U} {xs:List V} (n:Nat),RepL K H α l xs->RepL K H α (l.eraseIdx n) (xs.eraseIdx n)
 | [],xs,n,h=>by unfold RepL at h;subst h;exact .nil
 | w::l,xs,0,h=>by
  unfold RepL at h;obtain ⟨y,r,e,h1,h2⟩:=h;subst e;exact h2
 | w::l,xs,n+1,h=>by
  unfold RepL at h;obtain ⟨y,r,e,h1,h2⟩:=h;subst e;exact .cons h1 (RepL.erase n h2)
theorem RepL.reverse:∀ {l:List U} {xs:List V},RepL K H α l xs->RepL K H α l.reverse xs.reverse
 | [],xs,h=>by unfold RepL at h;subst h;exact .nil
 | w::l,xs,h=>by
  unfold RepL at h;obtain ⟨y,r,e,h1,h2⟩:=h;subst e;rw[fD,fD];exact (RepL.reverse h2).append (.cons h1 .nil)
theorem RepL.ints:∀ (ns:List Int),RepL K H α ZbE ZA
 | []=>.nil
 | n::r=>.cons rfl (RepL.ints r)
end
def RO(K:aF)(H:Hp)(a:Addr)(xs:List V):Prop:=
 (∃ o,H a=ξ (.frz o (.lst xs)))\/∃ (o:Obj) (its:Array aH) (n:Nat),K.lookup a=ξ o/\o.cls = .type "list" /\ o.dict=ψ/\o.data = .seq its n/\its.size<=sizeLine/\Vals xs its.toList
theorem RO.sq(h:RO K H a xs):SqL K H a xs:=by
 rcases h with ⟨o,h⟩ | h
 ·exact .inl (.inr ⟨o,h⟩)
 ·exact .inr h
theorem RO.stay(st:Stay H H')(h:RO K H a xs):RO K H' a xs:=by
 rcases h with ⟨o,h⟩ | h
 ·exact .inl ⟨o,st.2 _ _ _ h⟩
 ·exact .inr h
inductive ExcIs(a Ca:Addr)(dd:Option Addr)(fr:Bool)(h:Heap):Prop
 | mk (o:Obj) (vs:Array aH) (h0:h.get? a=ξ o) (h1:o.cls = .ref Ca) (h2:o.dict=dd) (h3:o.data = .fields vs) (h4:1 < vs.size) (h5:o.slots=#[]) (h6:(fr=true->vs[1]? = ξ .none)):ExcIs a Ca dd fr h
def DictIs(H:Hp)(dd:Option Addr)(vs:List (Str×V)):Prop:=match dd with
 | none=>vs=[]
 | some dx=>vs≠[]/\∃ od,H dx=ξ (.frz od (.xd vs))
theorem DictIs.stay{dd:Option Addr}{vs:List (Str×V)}(st:∀ b o ws,H b=ξ (.frz o (.xd ws))->H' b=ξ (.frz o (.xd ws)))(h:DictIs H dd vs):DictIs H' dd vs:=by
 cases dd with
 | none=>exact h
 | some dx=>obtain ⟨ne,od,q⟩:=h;exact ⟨ne,od,st _ _ _ q⟩
inductive InsRep(K:aF)(H:Hp)(α:List Addr)(a:Addr)(C:Str)(fs:List (Str×U)):Prop
 | mk (Ca:_) (dx:_) (vs:_) (h0:dO K bU C=ξ (ξ (.ref Ca))) (h1:H a=ξ (.ins Ca dx vs)) (h2:fs.map (·.1)=vs.map (·.1)) (h3:RepL K H α (fs.map (·.2)) (vs.map (·.2))):InsRep K H α a C fs
inductive ExcRep(K:aF)(H:Hp)(α:List Addr)(a:Addr)(C:Str)(fr:Bool)(fs:List (Str×U)):Prop
 | mk (Ca:_) (dd:_) (vs:_) (h0:dO K bU C=ξ (ξ (.ref Ca))) (h1:H a=ξ (.ext (ExcIs a Ca dd fr))) (h2:DictIs H dd vs) (h3:fs.map (·.1)=vs.map (·.1)) (h4:RepL K H α (fs.map (·.2)) (vs.map (·.2))):ExcRep K H α a C fr fs
def HRep(K:aF)(H:Hp)(α:List Addr)(a:Addr):HU->Prop
 | .lst us=>∃ xs,H a=ξ (.lst xs)/\RepL K H α us xs
 | .ro us=>∃ xs,RO K H a xs/\RepL K H α us xs
 | .dic kvs=>∃ vs,H a=ξ (.dK vs)/\kvs.map (·.1)=vs.map (·.1)/\RepL K H α (kvs.map (·.2)) (vs.map (·.2))
 | .rod kvs=>∃ o vs,H a=ξ (.frz o (.dK vs))/\kvs.map (·.1)=vs.map (·.1)/\RepL K H α (kvs.map (·.2)) (vs.map (·.2))
 | .ins C fs=>InsRep K H α a C fs
 | .exc C fr fs=>ExcRep K H α a C fr fs
noncomputable def HU.isRo:HU->Bool
 | .ro _=>true
 | _=>false
structure Abs(K:aF)(H:Hp)(α:List Addr)(L:UH):Prop where
 len:α.length=L.length
 inj:∀ (i j:Nat) (a:Addr) (o o':HU),α[i]? = ξ a->α[j]? = ξ a->L[i]? = ξ o->L[j]? = ξ o'->i=j\/o.isRo=true\/o'.isRo=true
 rep:∀ (i:Nat) (a:Addr) (o:HU),α[i]? = ξ a->L[i]? = ξ o->HRep K H α a o
variable {L:UH}
theorem Abs.addr(A:Abs K H α L){o:HU}(h:L[n]? = ξ o):∃ a,α[n]? = ξ a/\HRep K H α a o:=by
 have hn:n < α.length:=by rw[A.len];exact (aQ.mp h).1
 exact ⟨α[n],aG hn,A.rep n _ o (aG hn) h⟩
theorem HRep.other{o:HU}(g:Gr H α H' α')(hs:o.isRo=true\/∀ u,H a=ξ u->H' a=ξ u)(h:HRep K H α a o):HRep K H' α' a o:=by
 cases o with
 | lst us=>obtain ⟨xs,e,r⟩:=h;exact ⟨xs,(hs.resolve_left (by simp[HU.isRo])) _ e,r.mono g⟩
 | ro us=>obtain ⟨xs,e,r⟩:=h;exact ⟨xs,e.stay g.st,r.mono g⟩
 | dic kvs=>obtain ⟨vs,e,k,r⟩:=h;exact ⟨vs,(hs.resolve_left (by simp[HU.isRo])) _ e,k,r.mono g⟩
 | rod kvs=>obtain ⟨o,vs,e,k,r⟩:=h;exact ⟨o,vs,(hs.resolve_left (by simp[HU.isRo])) _ e,k,r.mono g⟩
 | ins C fs=>obtain ⟨Ca,dx,vs,n,e,k,r⟩:=h;exact ⟨Ca,dx,vs,n,(hs.resolve_left (by simp[HU.isRo])) _ e,k,r.mono g⟩
 | exc C fr fs=>obtain ⟨Ca,dd,vs,n,e,d,k,r⟩:=h;exact ⟨Ca,dd,vs,n,(hs.resolve_left (by simp[HU.isRo])) _ e,d.stay fun b o ws q=>g.st.2 b o _ q,k,r.mono g⟩
theorem HRep.some{o:HU}(h:HRep K H α a o)(n:o.isRo=false):∃ u,H a=ξ u:=by
 cases o with
 | lst us=>obtain ⟨xs,e,r⟩:=h;exact ⟨_,e⟩
 | ro us=>simp[HU.isRo] at n
 | dic kvs=>obtain ⟨vs,e,k,r⟩:=h;exact ⟨_,e⟩
 | rod kvs=>obtain ⟨o,vs,e,k,r⟩:=h;exact ⟨_,e⟩
 | ins C fs=>obtain ⟨Ca,dx,vs,n',e,k,r⟩:=h;exact ⟨_,e⟩
 | exc C fr fs=>obtain ⟨Ca,dd,vs,n',e,k,r⟩:=h;exact ⟨_,e⟩
theorem Abs.new{u:HU}(A:Abs K H α L)(hp:H p=ψ)(hr:HRep K (upd H p o) (α ++ [p]) p u) :
  Abs K (upd H p o) (α ++ [p]) (L++[u])/\Gr H α (upd H p o) (α ++ [p]):=by
 have g:Gr H α (upd H p o) (α ++ [p]):=⟨⟨[p],rfl⟩,.new hp o⟩;have hl:=A.len;refine ⟨⟨by simp[hl],fun i j a o1 o2 e1 e2 e3 e4=>?_,fun i a o1 e1 e2=>?_⟩,g⟩
 ·have fresh:∀ (k:Nat) (o3:HU),α[k]? = ξ p->L[k]? = ξ o3->o3.isRo=true:=fun k o3 q1 q2=>by
   cases hh:o3.isRo with
   | true=>rfl
   | false=>
    obtain ⟨u3,q⟩:=(A.rep k p o3 q1 q2).some hh;rw[hp] at q;cases q
  by_cases hi:i < α.length
  ·rw[bL hi] at e1;rw[bL Ze] at e3;by_cases hj:j < α.length
   ·rw[bL hj] at e2;rw[bL Ze] at e4;exact A.inj i j a o1 o2 e1 e2 e3 e4
   ·rw[dL Ze] at e2;have:a=p:=by
     cases hk:j - α.length with
     | zero=>rw[hk] at e2;simp at e2;exact e2.symm
     | succ k=>rw[hk] at e2;simp at e2
    subst this;exact .inr (.inl (fresh i o1 e1 e3))
  ·rw[dL Ze] at e1;have hia:a=p/\i = α.length:=by
    cases hk:i - α.length with
    | zero=>rw[hk] at e1;simp at e1;exact ⟨e1.symm,Ze⟩
    | succ k=>rw[hk] at e1;simp at e1
   obtain ⟨rfl,hi'⟩:=hia;by_cases hj:j < α.length
   ·rw[bL hj] at e2;rw[bL Ze] at e4;exact .inr (.inr (fresh j o2 e2 e4))
   ·rw[dL Ze] at e2;have:j = α.length:=by
     cases hk:j - α.length with
     | zero=>omega
     | succ k=>rw[hk] at e2;simp at e2
    exact .inl Ze
 ·by_cases hi:i < α.length
  ·rw[bL hi] at e1;rw[bL Ze] at e2;refine (A.rep i a o1 e1 e2).other g ?_;exact .inr fun u3 q=>by rw[Bq (B4 q hp)];exact q
  ·rw[dL Ze] at e1;rw[dL Ze] at e2;have h1:i - α.length=0:=by
    cases hk:i - α.length with
    | zero=>rfl
    | succ k=>rw[hk] at e1;simp at e1
   rw[h1] at e1;rw[show i - L.length=0 by omega] at e2;simp at e1 e2;subst e1;subst e2;exact hr
theorem Abs.put{o0:HO}{u0 u:HU}(A:Abs K H α L)(hn:α[n]? = ξ p)(hL:L[n]? = ξ u0)(hro:u0.isRo=false)(hro':u.isRo=false)(hp:H p=ξ o0)(hm:Mut (ξ o0))(hr:HRep K (upd H p o) α p u) :
  Abs K (upd H p o) α (L.set n u)/\Gr H α (upd H p o) α:=by
 have g:Gr H α (upd H p o) α:=⟨⟨[],Za⟩,.write hp hm o⟩;have hl:=A.len;have hlt:n < L.length:=(aQ.mp hL).1;have look:∀ (i:Nat) (o1:HU),(L.set n u)[i]? = ξ o1->∃ o2,L[i]? = ξ o2/\o2.isRo=o1.isRo/\(i≠n->o2=o1):=fun i o1 e=>by
  by_cases hi:n=i
  ·subst hi;rw[bX hlt] at e;cases e;exact ⟨u0,hL,by rw[hro,hro'],fun z=>absurd rfl z⟩
  ·rw[cJ hi] at e;exact ⟨o1,e,rfl,fun _=>rfl⟩
 refine ⟨⟨by simp[hl],fun i j a o1 o2 e1 e2 e3 e4=>?_,fun i a o1 e1 e2=>?_⟩,g⟩
 ·obtain ⟨x1,q1,r1,_⟩:=look i o1 e3;obtain ⟨x2,q2,r2,_⟩:=look j o2 e4;rw[<- r1,<- r2];exact A.inj i j a x1 x2 e1 e2 q1 q2
 ·by_cases hi:n=i
  ·subst hi;rw[bX hlt] at e2;cases e2;rw[hn] at e1;cases e1;exact hr
  ·rw[cJ hi] at e2;refine (A.rep i a o1 e1 e2).other g ?_;by_cases hap:a=p
   ·subst hap;rcases A.inj i n a o1 u0 e1 hn e2 hL with z | z | z
    ·exact absurd z.symm hi
    ·exact .inl z
    ·rw[hro] at z;cases z
   ·exact .inr fun u3 q=>by rw[Bq hap];exact q
structure RepS(K:aF)(H:Hp)(α:List Addr)(δ:UE)(σ:L2.St):Prop where
 len:δ.length = σ.length
 at_:∀ (i:Nat) (u:U),δ[i]? = ξ (ξ u)->∃ v,σ[i]? = ξ (ξ v)/\RepU K H α u v
variable {δ:UE}{σ:L2.St}
theorem RepS.mono(g:Gr H α H' α')(h:RepS K H α δ σ):RepS K H' α' δ σ:=
 ⟨h.len,fun i u e=>let ⟨v,q,r⟩:=h.at_ i u e;⟨v,q,r.mono g⟩⟩
theorem RepS.set(h:RepS K H α δ σ)(i:Nat){v:V}(r:RepU K H α u v):RepS K H α (δ.set i (ξ u)) Zee:=
 ⟨by simp[h.len],fun j w e=>by
  by_cases hj:i=j
  ·subst hj;by_cases hi:i < δ.length
   ·rw[bX hi] at e;cases e;exact ⟨v,bX (by rw[<- h.len];exact hi),r⟩
   ·rw[kH (by simpa using hi)] at e;cases e
  ·rw[cJ hj] at e;obtain ⟨v',q,r'⟩:=h.at_ j w e;exact ⟨v',by rw[cJ hj];exact q,r'⟩⟩
variable {us:List U}
theorem RepS.start(N:List Str){vs:List V}(h:RepL K H α us vs):RepS K H α (us.map ξ++bP (N.length - us.length) ψ) ZdU:=by
 have hl:=h.length;refine ⟨by simp[L2.start,hl],fun i u e=>?_⟩;by_cases hi:i < us.length
 ·rw[bL (by simpa using hi),bD] at e;cases q:us[i]? with
  | none=>rw[q] at e;simp at e
  | some w=>
   rw[q] at e;simp at e;subst e;obtain ⟨x,e2,r⟩:=h.get q;refine ⟨x,?_,r⟩;unfold L2.start;rw[bL (by simp;omega),bD,e2];rfl
 ·rw[dL (by simpa using hi)] at e;have:=dN e;simp at this
abbrev FE:=UE->UH->Option (U×UH)
abbrev FT:=UE->UH->Option (Bool×UH)
abbrev FA:=UE->UH->Option (List U×UH)
inductive lE(K:aF)(f:FE)(σ:L2.St)(H:Hp)(Q:VK):Prop
 | mk (α:List Addr) (δ:UE) (L:UH) (A:Abs K H α L) (S:RepS K H α δ σ) (u:U) (L':UH) (e:f δ L=ξ (u,L')) (q:∀ v H' α',Gr H α H' α'->Abs K H' α' L'->RepU K H' α' u v->Q v H'):lE K f σ H Q
inductive lT(K:aF)(f:FT)(σ:L2.St)(H:Hp)(Q:Bool->Hp->Prop):Prop
 | mk (α:List Addr) (δ:UE) (L:UH) (A:Abs K H α L) (S:RepS K H α δ σ) (b:Bool) (L':UH) (e:f δ L=ξ (b,L')) (q:∀ H' α',Gr H α H' α'->Abs K H' α' L'->Q b H'):lT K f σ H Q
inductive lA(K:aF)(f:FA)(σ:L2.St)(H:Hp)(Q:List V->Hp->Prop):Prop
 | mk (α:List Addr) (δ:UE) (L:UH) (A:Abs K H α L) (S:RepS K H α δ σ) (us:List U) (L':UH) (e:f δ L=ξ (us,L')) (q:∀ vs H' α',Gr H α H' α'->Abs K H' α' L'->RepL K H' α' us vs->Q vs H'):lA K f σ H Q
def PEF(X:Cx)(e:Expr)(f:FE):Prop:=PE X e (lE X.K f)
def PTF(X:Cx)(e:Expr)(f:FT):Prop:=PT X e (lT X.K f)
def PWF(X:Cx)(e:Expr)(f:FT):Prop:=PW X e (lT X.K f)
def PAF(X:Cx)(es:List Expr)(f:FA):Prop:=PA X es (lA X.K f)
variable {X:Cx}{e:Expr}{es:List Expr}{t:TE}
section
theorem PE.imp{t':TE}(h:PE X e t)(hi:∀ σ H Q,t' σ H Q->t σ H Q):PE X e t':=fun pins s σ H Q I q=>h pins s σ H Q I Zdy
theorem PT.imp{t t':TT}(h:PT X e t)(hi:∀ σ H Q,t' σ H Q->t σ H Q):PT X e t':=fun pins s σ H Q I q=>h pins s σ H Q I Zdy
theorem PW.imp{t t':TT}(h:PW X e t)(hi:∀ σ H Q,t' σ H Q->t σ H Q):PW X e t':=fun wh pins s σ H Q I q=>h wh pins s σ H Q I Zdy
theorem PA.imp{t t':TA}(h:PA X es t)(hi:∀ σ H Q,t' σ H Q->t σ H Q):PA X es t':=fun pos pins s σ H Q I q=>h pos pins s σ H Q I Zdy
end
def Ae(i:Nat):FE:=fun δ L=>(δ[i]?).join.map fun u=>(u,L)
def fC(u:U):FE:=fun _ L=>ξ (u,L)
variable {x:Str}{b c:Expr}{pos:Pos}{r:R2}{sem:S2}{fa fb f:FE}{op:CmpOp}
section
variable {a:Expr}
theorem Ag(i:Nat)(hN:X.N[i]? = ξ x:=by rfl)(hv:Vis X.env.scope x:=by first | exact tS rfl | exact rY (tS rfl) | exact rY (rY rfl))
  (hd:(x == ("__debug__" : Str))=false:=by decide) (hcd:(x == ("__classdict__" : Str))=false:=by decide):PEF X ZbR (Ae i):=by
 refine PE.imp (Av4 hN hv hd hcd) ?_;rintro σ H Q ⟨α,δ,L,A,S,u,L',e,q⟩;unfold Ae at e;cases h:δ[i]? with
 | none=>rw[h] at e;simp at e
 | some o=>
  cases o with
  | none=>rw[h] at e;simp at e
  | some w=>
   rw[h] at e;simp at e;obtain ⟨rfl,rfl⟩:=e;obtain ⟨v,hv,r⟩:=S.at_ i w h;exact ⟨v,hv,q v H α (.refl _ _) A r⟩
theorem Ajz{v:V}(h:PE X e (tC v))(r:∀ H α,RepU X.K H α u v):PEF X e (fC u):=by
 refine PE.imp h ?_;rintro σ H Q ⟨α,δ,L,A,S,w,L',e,q⟩;unfold fC at e;cases e;exact q v H α (.refl _ _) A (r H α)
theorem Aj{i:Int}{j pos}:PEF X (.Constant (.int i) j pos) (fC (.int i)):=Ajz Axn fun _ _=>rfl
theorem W4{b:Bool}{j pos}:PEF X (.Constant (.bool b) j pos) (fC (.bl b)):=Ajz A08 fun _ _=>rfl
theorem Axt{j pos}:PEF X (.Constant .none j pos) (fC .non):=Ajz Aw1 fun _ _=>rfl
theorem Be{j pos}:PEF X (.Constant (.str x) j pos) (fC (.str x)):=Ajz Awj fun _ _=>rfl
abbrev S2:=U->U->UH->Option (U×UH)
def Dr(K:aF)(r:R2)(sem:S2):Prop:=∀ (H:Hp) (α:List Addr) (L:UH) (u w:U) (x y:V) (z:U) (L':UH) (Q:VK),Abs K H α L->RepU K H α u x->RepU K H α w y->sem u w L=ξ (z,L') ->
 ZY->r x y H Q
def f2(sem:S2)(fa fb:FE):FE:=fun δ L=>(fa δ L).bind fun p=>(fb δ p.2).bind fun q=>sem p.1 q.1 q.2
theorem Agj(h:Dr K r sem):∀ σ H Q,lE K Zd1 σ H Q->tOp r (lE K fa) (lE K fb) σ H Q:=by
 rintro σ H Q ⟨α,δ,L,A,S,z,L3,e,q⟩;obtain ⟨⟨u,L1⟩,e1,e⟩:=aA.mp e;obtain ⟨⟨w,L2⟩,e2,e3⟩:=aA.mp e;refine ⟨α,δ,L,A,S,u,L1,e1,fun x H1 α1 g1 A1 r1=>⟨α1,δ,L1,A1,S.mono g1,w,L2,e2,fun y H2 α2 g2 A2 r2=>?_⟩⟩;exact h H2 α2 L2 u w x y z L3 Q A2 ZcM r2 e3 fun v H3 α3 g3 A3 r3=>q v H3 α3 Za8 A3 r3
theorem Bm{op:Operator}(ho:OpR X (gP op) r)(h:Dr X.K r sem)(ha:PEF X a fa)(hb:PEF X b fb):PEF X (.BinOp a op b pos) Zd1:=PE.imp (Axw ho ha hb) (Agj h)
theorem Lk(ho:OpR X (dA op) r)(h:Dr X.K r sem)(ha:PEF X a fa)(hb:PEF X b fb)(hm:behindInMarks op b=false):PEF X Zcs Zd1:=PE.imp (Arq ho ha hb hm) (Agj h)
def Av(f:FE):FT:=fun δ L=>(f δ L).bind fun p=>match p.1 with | .bl k=>ξ (k,p.2) | _=>ψ
theorem Aik(ht:∀ σ H Q,lE K f σ H Q->t σ H Q):∀ σ H Q,lT K (Av f) σ H Q->Am8 t σ H Q:=by
 rintro σ H Q ⟨α,δ,L,A,S,b,L1,e,q⟩;obtain ⟨⟨u,L2⟩,e1,e⟩:=aA.mp e;refine ht σ H _ ⟨α,δ,L,A,S,u,L2,e1,fun x H1 α1 g1 A1 r1=>?_⟩;cases u with
 | bl k=>simp at e;obtain ⟨rfl,rfl⟩:=e;exact ⟨k,r1,q H1 α1 g1 A1⟩
 | _=>simp at e
theorem Bb(ho:OpR X (dA op) r)(h:Dr X.K r sem)(ha:PEF X a fa)(hb:PEF X b fb)(hm:behindInMarks op b=false):PTF X Zcs (Av Zd1):=PT.imp (Aqe ho ha hb hm) (Aik (Agj h))
end
variable {g:FA}
section
variable {a:Expr}{rest:List Expr}
def Nt(f g:FT):FT:=fun δ L=>(f δ L).bind fun p=>if p.1=true then g δ p.2 else ξ (false,p.2)
def fOr(f g:FT):FT:=fun δ L=>(f δ L).bind fun p=>if p.1=true then ξ (true,p.2) else g δ p.2
def Wg(f:FT):FT:=fun δ L=>(f δ L).map fun p=>(!p.1,p.2)
def Wx(f g:FE):FE:=fun δ L=>(f δ L).bind fun p=>match p.1 with | .bl k=>if k=true then g δ p.2 else ξ (.bl false,p.2) | _=>ψ
def Apa(f g:FE):FE:=fun δ L=>(f δ L).bind fun p=>match p.1 with | .bl k=>if k=true then ξ (.bl true,p.2) else g δ p.2 | _=>ψ
def Az0(f:FE):FE:=fun δ L=>(f δ L).bind fun p=>match p.1 with | .bl k=>ξ (.bl (!k),p.2) | _=>ψ
def fIf(c:FT)(f g:FE):FE:=fun δ L=>(c δ L).bind fun p=>if p.1=true then f δ p.2 else g δ p.2
theorem Gv{f:FT}(ha:PTF X a f):PWF X (.BoolOp .And [a] pos) f:=Aq2 ha
theorem Oz{f:FT}(ha:PTF X a f):PWF X (.BoolOp .Or [a] pos) f:=Awg ha
theorem Ih{f g:FT}(ha:PTF X a f)(hb:PWF X ZbZ g):PWF X ZbH (Nt f g):=by
 refine PW.imp (Awb ha hb) ?_;rintro σ H Q ⟨α,δ,L,A,S,z,L3,e,q⟩;obtain ⟨⟨u,L1⟩,e1,e⟩:=aA.mp e;refine ⟨α,δ,L,A,S,u,L1,e1,fun H1 α1 g1 A1=>?_⟩;cases u with
 | true=>exact Abb ⟨α1,δ,L1,A1,S.mono g1,z,L3,e,fun H2 α2 g2 A2=>q H2 α2 ZaV A2⟩
 | false=>cases e;exact Aau (q H1 α1 g1 A1)
theorem Sh{f g:FT}(ha:PTF X a f)(hb:PWF X Zb4 g):PWF X ZbP (fOr f g):=by
 refine PW.imp (A1b ha hb) ?_;rintro σ H Q ⟨α,δ,L,A,S,z,L3,e,q⟩;obtain ⟨⟨u,L1⟩,e1,e⟩:=aA.mp e;refine ⟨α,δ,L,A,S,u,L1,e1,fun H1 α1 g1 A1=>?_⟩;cases u with
 | false=>exact Aau ⟨α1,δ,L1,A1,S.mono g1,z,L3,e,fun H2 α2 g2 A2=>q H2 α2 ZaV A2⟩
 | true=>cases e;exact Abb (q H1 α1 g1 A1)
theorem PWF.pt{f:FT}(h:PWF X e f):PTF X e f:=PW.pt h
theorem Rm{f:FT}(ha:PTF X a f):PTF X (.UnaryOp .Not a pos) (Wg f):=by
 refine PT.imp (Avl ha) ?_;rintro σ H Q ⟨α,δ,L,A,S,z,L3,e,q⟩;obtain ⟨⟨u,L1⟩,e1,e⟩:=aJ.mp e;cases e;exact ⟨α,δ,L,A,S,u,L1,e1,fun H1 α1 g1 A1=>q H1 α1 g1 A1⟩
theorem U3{op}(h:PEF X a f):PEF X (.BoolOp op [a] pos) f:=Avy h
theorem Vy{g:FE}(ha:PEF X a f)(hb:PEF X ZbZ g):PEF X ZbH (Wx f g):=by
 refine PE.imp (Au2 ha hb) ?_;rintro σ H Q ⟨α,δ,L,A,S,z,L3,e,q⟩;obtain ⟨⟨u,L1⟩,e1,e⟩:=aA.mp e;refine ⟨α,δ,L,A,S,u,L1,e1,fun v H1 α1 g1 A1 r1=>?_⟩;cases u with
 | bl k=>
  cases k with
  | true=>exact ⟨true,r1,Abb ⟨α1,δ,L1,A1,S.mono g1,z,L3,e,fun v H2 α2 g2 A2 r=>q v H2 α2 ZaV A2 r⟩⟩
  | false=>cases e;exact ⟨false,r1,Aau (q _ H1 α1 g1 A1 rfl)⟩
 | _=>simp at e
theorem Ax2{g:FE}(ha:PEF X a f)(hb:PEF X Zb4 g):PEF X ZbP (Apa f g):=by
 refine PE.imp (A1i ha hb) ?_;rintro σ H Q ⟨α,δ,L,A,S,z,L3,e,q⟩;obtain ⟨⟨u,L1⟩,e1,e⟩:=aA.mp e;refine ⟨α,δ,L,A,S,u,L1,e1,fun v H1 α1 g1 A1 r1=>?_⟩;cases u with
 | bl k=>
  cases k with
  | false=>exact ⟨false,r1,Aau ⟨α1,δ,L1,A1,S.mono g1,z,L3,e,fun v H2 α2 g2 A2 r=>q v H2 α2 ZaV A2 r⟩⟩
  | true=>cases e;exact ⟨true,r1,Abb (q _ H1 α1 g1 A1 rfl)⟩
 | _=>simp at e
theorem A0p{t:FT}{g:FE}(hc:PTF X c t)(ha:PEF X a f)(hb:PEF X b g):PEF X (.IfExp c a b pos) (fIf t f g):=by
 refine PE.imp (Am7 hc ha hb) ?_;rintro σ H Q ⟨α,δ,L,A,S,z,L3,e,q⟩;obtain ⟨⟨u,L1⟩,e1,e⟩:=aA.mp e;refine ⟨α,δ,L,A,S,u,L1,e1,fun H1 α1 g1 A1=>?_⟩;cases u with
 | true=>exact Abb ⟨α1,δ,L1,A1,S.mono g1,z,L3,e,fun v H2 α2 g2 A2 r=>q v H2 α2 ZaV A2 r⟩
 | false=>exact Aau ⟨α1,δ,L1,A1,S.mono g1,z,L3,e,fun v H2 α2 g2 A2 r=>q v H2 α2 ZaV A2 r⟩
def Ah:FA:=fun _ L=>ξ ([],L)
def Ad(f:FE)(g:FA):FA:=fun δ L=>(f δ L).bind fun p=>(g δ p.2).map fun q=>(p.1::q.1,q.2)
theorem Af:PAF X [] Ah:=by
 refine PA.imp Anh ?_;rintro σ H Q ⟨α,δ,L,A,S,z,L3,e,q⟩;cases e;exact q [] H α (.refl _ _) A .nil
theorem Ac(ha:PEF X e f)(hr:PAF X es g)(hs:bH (e::es) X.env=Zy::bH es X.env:=by rfl):PAF X (e::es) (Ad f g):=by
 refine PA.imp (Ahl ha hr hs) ?_;rintro σ H Q ⟨α,δ,L,A,S,z,L3,e,q⟩;obtain ⟨⟨u,L1⟩,e1,e⟩:=aA.mp e;obtain ⟨⟨us,L2⟩,e2,e⟩:=aJ.mp e;cases e;exact ⟨α,δ,L,A,S,u,L1,e1,fun x H1 α1 g1 A1 r1=>⟨α1,δ,L1,A1,S.mono g1,us,L2,e2,fun xs H2 α2 g2 A2 r2=>q (x::xs) H2 α2 ZaV A2 (.cons ZcM r2)⟩⟩
noncomputable def E4(n:Nat):Bool:=decide (n<=sizeLine)
def Gi(g:FA):FE:=fun δ L=>(g δ L).bind fun p=>if E4 p.1.length=true then ξ (.tup p.1,p.2) else ψ
def Cg(g:FA):FE:=fun δ L=>(g δ L).bind fun p=>if E4 p.1.length=true then ξ (.ref p.2.length,p.2++[.lst p.1]) else ψ
theorem Ec(h:E4 n=true):n<=sizeLine:=of_decide_eq_true h
theorem Abs.tup(A:Abs K H α L)(r:RepL K H α us xs)(hp:H p=ψ) :
  Gr H α ZdI α/\Abs K ZdI α L/\RepU K ZdI α (.tup us) (.ref p):=by
 have g:Gr H α ZdI α:=⟨⟨[],Za⟩,.new hp _⟩;refine ⟨g,⟨A.len,A.inj,fun i a o e1 e2=>(A.rep i a o e1 e2).other g (.inr fun u q=>by rw[Bq (B4 q hp)];exact q)⟩,?_⟩;unfold RepU;exact ⟨p,xs,rfl,.of upd_same,r.mono g⟩
theorem Abs.lst(A:Abs K H α L)(r:RepL K H α us xs)(hp:H p=ψ) :
  Gr H α ZdJ (α ++ [p])/\Abs K ZdJ (α ++ [p]) (L++[.lst us])/\RepU K ZdJ (α ++ [p]) ZD (.ref p):=by
 have g:Gr H α ZdJ (α ++ [p]):=⟨⟨[p],rfl⟩,.new hp _⟩;obtain ⟨A',_⟩:=A.new (o:=.lst xs) (u:=.lst us) hp ⟨xs,upd_same,r.mono g⟩;refine ⟨g,A',?_⟩;unfold RepU;exact ⟨p,by rw[<- A.len];simp,rfl⟩
theorem Ja{x1}(h:PAF X es g):PEF X (.Tuple es x1 pos) (Gi g):=by
 refine PE.imp (Avj h) ?_;rintro σ H Q ⟨α,δ,L,A,S,z,L3,e,q⟩;obtain ⟨⟨us,L1⟩,e1,e⟩:=aA.mp e;refine ⟨α,δ,L,A,S,us,L1,e1,fun xs H1 α1 g1 A1 r1=>?_⟩;simp only at e;split at e
 ·rename_i hs;cases e;refine ⟨by rw[<- r1.length];exact Ec hs,fun p hp=>?_⟩;obtain ⟨g2,A2,r2⟩:=A1.tup r1 hp;exact q _ _ α1 ZaV A2 r2
 ·cases e
theorem Cd(h:PAF X es g):PEF X (.List es pos) (Cg g):=by
 refine PE.imp (Axk h) ?_;rintro σ H Q ⟨α,δ,L,A,S,z,L3,e,q⟩;obtain ⟨⟨us,L1⟩,e1,e⟩:=aA.mp e;refine ⟨α,δ,L,A,S,us,L1,e1,fun xs H1 α1 g1 A1 r1=>?_⟩;simp only at e;split at e
 ·rename_i hs;cases e;refine ⟨by rw[<- r1.length];exact Ec hs,fun p hp=>?_⟩;obtain ⟨g2,A2,r2⟩:=A1.lst r1 hp;exact q _ _ _ ZaV A2 r2
 ·cases e
abbrev SC:=List U->UH->Option (U×UH)
def O0(K:aF)(r:List V->Hp->VK->Prop)(sem:SC):Prop:=∀ (H:Hp) (α:List Addr) (L:UH) (us:List U) (xs:List V) (z:U) (L':UH) (Q:VK),Abs K H α L->RepL K H α us xs->sem us L=ξ (z,L') ->
 ZY->r xs H Q
def Ay(sem:SC)(g:FA):FE:=fun δ L=>(g δ L).bind fun p=>sem p.1 p.2
theorem Aty{r:List V->Hp->VK->Prop}{sem:SC}(h:O0 K r sem):∀ σ H Q,lE K (Ay sem g) σ H Q->tCB r (lA K g) σ H Q:=by
 rintro σ H Q ⟨α,δ,L,A,S,z,L3,e,q⟩;obtain ⟨⟨us,L1⟩,e1,e⟩:=aA.mp e;exact ⟨α,δ,L,A,S,us,L1,e1,fun xs H1 α1 g1 A1 r1=>h H1 α1 L1 us xs z L3 Q A1 r1 e fun v H2 α2 g2 A2 r2=>q v H2 α2 ZaV A2 r2⟩
variable {p:Pos}{id T:String}{r:List V->Hp->VK->Prop}{sem:SC}
theorem Bk(hc:CallR X ZbA r)(h:O0 X.K r sem)(hg:Gl X x)(hm:X.mg x=ψ)(hv:iA x=ξ ZbA)(ha:PAF X (e::es) g)(hn:x ≠ "__name__" := by decide)(hdb:(x == ("__debug__" : Str))=false:=by decide)
  (he:bH (e::es) X.env=Zy::bH es X.env:=by rfl) (hpl:(backTo pos Zat).any (·.1)=false:=by rfl) :
  PEF X Zad (Ay sem g):=PE.imp (Aoq hc hg hm hv ha hn hdb he hpl) (Aty h)
theorem Fo(hc:CallR X (.type T) r)(h:O0 X.K r sem)(hg:Gl X x)(hm:X.mg x=ψ)(hv:iA x=ξ (.type T))(ha:PAF X (e::es) g)(hn:x ≠ "__name__" := by decide)(hdb:(x == ("__debug__" : Str))=false:=by decide)
  (he:bH (e::es) X.env=Zy::bH es X.env:=by rfl) (hpl:(backTo pos Zat).any (·.1)=false:=by rfl) :
  PEF X Zad (Ay sem g):=PE.imp (Akg hc hg hm hv ha hn hdb he hpl) (Aty h)
abbrev SM:=U->List U->UH->Option (U×UH)
def Ad2(K:aF)(r:V->List V->Hp->VK->Prop)(sem:SM):Prop:=∀ (H:Hp) (α:List Addr) (L:UH) (u:U) (us:List U) (x:V) (xs:List V) (z:U) (L':UH) (Q:VK),Abs K H α L->RepU K H α u x->RepL K H α us xs->sem u us L=ξ (z,L') ->
 ZY->r x xs H Q
def tyU(T:String)(u:U)(L:UH):Bool:=match u with
 | .str _=>T == "str"
 | .int _=>T == "int"
 | .tup _=>T == "tuple"
 | .ref n=>match L[n]? with
  | some (.lst _)=>T == "list"
  | some (.ro _)=>T == "list"
  | some (.dic _)=>T == "dict"
  | _=>false
 | _=>false
theorem Avc{x:V}(A:Abs K H α L)(r:RepU K H α u x)(h:tyU T u L=true):tyV K T x H:=by
 cases u with
 | str y=>unfold RepU at r;subst r;simpa[tyU,tyV] using h
 | int i=>unfold RepU at r;subst r;simpa[tyU,tyV] using h
 | ref n=>
  unfold RepU at r;obtain ⟨a,ea,rfl⟩:=r;unfold tyU at h;simp only at h;cases q:L[n]? with
  | none=>rw[q] at h;simp at h
  | some o=>
   have hr:=A.rep n a o ea q;rw[q] at h;cases o with
   | lst us=>simp at h;obtain ⟨xs,e,_⟩:=hr;exact .inl ⟨h,xs,.of e⟩
   | ro us=>simp at h;obtain ⟨xs,e,_⟩:=hr;exact .inl ⟨h,xs,e.sq⟩
   | dic kvs=>simp at h;obtain ⟨vs,e,_⟩:=hr;exact .inr (.inr (.inl ⟨h,.inl ⟨vs,e⟩⟩))
   | rod kvs=>simp at h
   | ins C fs=>simp at h
   | exc C fr fs=>simp at h
 | non=>simp[tyU] at h
 | bl b=>simp[tyU] at h
 | tup l=>
  unfold RepU at r;obtain ⟨a,ys,rfl,sq,_⟩:=r;have hT:T = "tuple" := by simpa[tyU] using h
  exact .inr (.inl ⟨hT,ys,sq⟩)
def Dc(T:String)(sem:SM)(f:FE)(g:FA):FE:=fun δ L=>(f δ L).bind fun p=>if tyU T p.1 p.2=true then (g δ p.2).bind fun q=>sem p.1 q.1 q.2 else ψ
theorem A0h{r:V->List V->Hp->VK->Prop}{sem:SM}(h:Ad2 K r sem):∀ σ H Q,lE K (Dc T sem f g) σ H Q->tBM K T r (lE K f) (lA K g) σ H Q:=by
 rintro σ H Q ⟨α,δ,L,A,S,z,L3,e,q⟩;obtain ⟨⟨u,L1⟩,e1,e⟩:=aA.mp e;simp only at e;split at e
 ·rename_i ht;obtain ⟨⟨us,L2⟩,e2,e⟩:=aA.mp e;refine ⟨α,δ,L,A,S,u,L1,e1,fun x H1 α1 g1 A1 r1=>⟨Avc A1 r1 ht,α1,δ,L1,A1,S.mono g1,us,L2,e2,fun xs H2 α2 g2 A2 r2=>?_⟩⟩;exact h H2 α2 L2 u us x xs z L3 Q A2 ZcM r2 e fun v H3 α3 g3 A3 r3=>q v H3 α3 Za8 A3 r3
 ·cases e
section
variable {o:Expr}{name:Str}{apos cpos:Pos}{T id:String}{r:V->List V->Hp->VK->Prop}{sem:SM}
theorem K7(pa:PlainAttrs T)(slot:Slot T name id)(hty:typeOf ZbA=pure (.type "method_descriptor"))(hm:MtR X id r)(h:Ad2 X.K r sem)(ho:PEF X o f)(ha:PAF X (e::es) g)
  (hbase:attributeBase o name X.env Zcy=eval o X.env:=by rfl)
  (hfew:((backTo cpos ZcS).all (fun x=>!x.1)&&(backToKw cpos Zab).all ZcH&&decide ((e::es).length+([]:List iS).length+(if ([]:List iS).isEmpty then 0 else 1) < 30))=true:=by rfl)
  (hline:(apos.endLine == cpos.line)=true:=by rfl) (hst:bH (e::es) X.env=Zy::bH es X.env:=by rfl) (hpl:(backTo cpos Zat).any (·.1)=false:=by rfl) :
  PEF X (.Call (.Attribute o name apos) (e::es) [] cpos) (Dc T sem f g):=
 PE.imp (A16 pa slot hty hm ho ha hbase hfew hline hst hpl) (A0h h)
end
end
abbrev FN:=List U->UH->Option (U×UH)
inductive spF(K:aF)(n:Nat)(f:FN)(vs:List V)(H:Hp)(Q:VK)(E:XK):Prop
 | mk (α:List Addr) (L:UH) (us:List U) (A:Abs K H α L) (r:RepL K H α us vs) (hl:us.length=n) (u:U) (L':UH) (e:f us L=ξ (u,L')) (q:∀ v H' α',Gr H α H' α'->Abs K H' α' L'->RepU K H' α' u v->Q v H'):spF K n f vs H Q E
variable {k:Nat}{r':R2}{s1 s2:S2}
section
variable {a o:Expr}{p:Pos}{f:Addr}{fd:dS}{ps:List Str}{F:FN}{fc:FE}
def A9(n:Nat)(F:FN)(g:FA):FE:=fun δ L=>(g δ L).bind fun p=>if p.1.length=n then F p.1 p.2 else ψ
theorem Ly(hF:FnOk X.prog X.w X.K X.mg X.base CX0 k f fd ps ZcY)(hr:Room k X.A)(hg:Gl X x)(hm:X.mg x=ξ (.ref f))(hk:dZ X.K (.ref f)=true)(hb:Binds X.K fd ps [])
  (ha:PAF X (e::es) g) (hdb:(x == ("__debug__" : Str))=false:=by decide) (he:bH (e::es) X.env=Zy::bH es X.env:=by rfl) (hpl:(backTo pos Zat).any (·.1)=false:=by rfl) :
  PEF X Zad (A9 n F g):=by
 refine PE.imp (Ap4 hF hr hg hm hk hb .nil Ahm ha hdb he hpl) ?_;rintro σ H Q ⟨α,δ,L,A,S,z,L3,e,q⟩;obtain ⟨⟨us,L1⟩,e1,e⟩:=aA.mp e;simp only at e;split at e
 ·rename_i hl;refine ⟨α,δ,L,A,S,us,L1,e1,fun xs H1 α1 g1 A1 r1=>?_⟩;exact ⟨α1,L1,us,A1,by rw[aR];exact r1,hl,z,L3,e,fun v H2 α2 g2 A2 r2=>q v H2 α2 ZaV A2 r2⟩
 ·cases e
theorem Bg(hr:IxR X r)(h:Dr X.K r sem)(ha:PEF X a fa)(hb:PEF X b fb)(hs:Ahq b):PEF X (.Subscript a b pos) Zd1:=PE.imp (Az9 hr ha hb hs) (Agj h)
abbrev FO:=UE->UH->Option (Option Int×UH)
inductive lO(K:aF)(f:FO)(σ:L2.St)(H:Hp)(Q:Option Int->Hp->Prop):Prop
 | mk (α:List Addr) (δ:UE) (L:UH) (A:Abs K H α L) (S:RepS K H α δ σ) (i:Option Int) (L':UH) (e:f δ L=ξ (i,L')) (q:∀ H' α',Gr H α H' α'->Abs K H' α' L'->Q i H'):lO K f σ H Q
def POF(X:Cx)(e:Option Expr)(f:FO):Prop:=PO X e (lO X.K f)
def Bw:FO:=fun _ L=>ξ (ψ,L)
def B3(f:FE):FO:=fun δ L=>(f δ L).bind fun p=>match p.1 with | .int i=>ξ (ξ i,p.2) | _=>ψ
theorem PO.imp{e:Option Expr}{t t':TO}(h:PO X e t)(hi:∀ σ H Q,t' σ H Q->t σ H Q):PO X e t':=fun pins s σ H Q I q=>h pins s σ H Q I Zdy
theorem Ep:POF X ψ Bw:=by
 refine PO.imp Aqg ?_;rintro σ H Q ⟨α,δ,L,A,S,z,L3,e,q⟩;cases e;exact q H α (.refl _ _) A
theorem Co(h:PEF X e fa):POF X (ξ e) (B3 fa):=by
 refine PO.imp (Aqz h) ?_;rintro σ H Q ⟨α,δ,L,A,S,z,L3,e,q⟩;obtain ⟨⟨u,L1⟩,e1,e⟩:=aA.mp e;refine ⟨α,δ,L,A,S,u,L1,e1,fun x H1 α1 g1 A1 r1=>?_⟩;cases u with
 | int i=>cases e;exact ⟨i,r1,q H1 α1 g1 A1⟩
 | _=>simp at e
abbrev SS:=U->Option Int->Option Int->UH->Option (U×UH)
def Am5(K:aF)(r:V->Option Int->Option Int->Hp->VK->Prop)(sem:SS):Prop:=∀ (H:Hp) (α:List Addr) (L:UH) (u:U) (x:V) (lo hi:Option Int) (z:U) (L':UH) (Q:VK),Abs K H α L->RepU K H α u x->sem u lo hi L=ξ (z,L') ->
 ZY->r x lo hi H Q
def fSl(sem:SS)(f:FE)(l h:FO):FE:=fun δ L=>(f δ L).bind fun p=>(l δ p.2).bind fun q=>(h δ q.2).bind fun r=>sem p.1 q.1 r.1 r.2
theorem Dg{r:V->Option Int->Option Int->Hp->VK->Prop}{sem:SS}{lo hi:Option Expr}{fl fh:FO}{p2:Pos}(hr:SlR X r)(h:Am5 X.K r sem)(he:PEF X e fa)(hl:POF X lo fl)(hu:POF X hi fh):PEF X (.Subscript e (.Slice lo hi ψ p2) pos) (fSl sem fa fl fh):=by
 refine PE.imp (Ani hr he hl hu) ?_;rintro σ H Q ⟨α,δ,L,A,S,z,L3,e,q⟩;obtain ⟨⟨u,L1⟩,e1,e⟩:=aA.mp e;obtain ⟨⟨i,L2⟩,e2,e⟩:=aA.mp e;obtain ⟨⟨j,L4⟩,e3,e⟩:=aA.mp e;refine ⟨α,δ,L,A,S,u,L1,e1,fun x H1 α1 g1 A1 r1=>⟨α1,δ,L1,A1,S.mono g1,i,L2,e2,fun H2 α2 g2 A2=>⟨α2,δ,L2,A2,(S.mono g1).mono g2,j,L4,e3,fun H3 α3 g3 A3=>?_⟩⟩⟩;exact h H3 α3 L4 u x i j z L3 Q A3 ((r1.mono g2).mono g3) e fun v H4 α4 g4 A4 r4=>q v H4 α4 (g1.trans (g2.trans (g3.trans g4))) A4 r4
def Rw(f:FE):FE:=fun δ L=>(f δ L).bind fun p=>match p.1 with | .int i=>ξ (.int (-i),p.2) | _=>ψ
theorem Aao(ha:PEF X a fa):PEF X (.UnaryOp .USub a pos) (Rw fa):=by
 refine PE.imp (A14 Avz ha) ?_;rintro σ H Q ⟨α,δ,L,A,S,z,L3,e,q⟩;obtain ⟨⟨u,L1⟩,e1,e⟩:=aA.mp e;refine ⟨α,δ,L,A,S,u,L1,e1,fun x H1 α1 g1 A1 r1=>?_⟩;cases u with
 | int i=>cases e;exact ⟨i,r1,q _ H1 α1 g1 A1 rfl⟩
 | _=>simp at e
def Fe(s1 s2:S2)(fa fb fc:FE):FE:=fun δ L=>(fa δ L).bind fun p=>(fb δ p.2).bind fun q=>(s1 p.1 q.1 q.2).bind fun r=>match r.1 with
 | .bl k=>if k=true then (fc δ r.2).bind fun t=>s2 q.1 t.1 t.2 else ξ (.bl false,r.2)
 | _=>ψ
theorem Acm(h1:Dr K r s1)(h2:Dr K r' s2):∀ σ H Q,lE K (Fe s1 s2 fa fb fc) σ H Q->Aet r r' (lE K fa) (lE K fb) (lE K fc) σ H Q:=by
 rintro σ H Q ⟨α,δ,L,A,S,z,L3,e,q⟩;obtain ⟨⟨u,L1⟩,e1,e⟩:=aA.mp e;obtain ⟨⟨w,L2⟩,e2,e⟩:=aA.mp e;obtain ⟨⟨t,L4⟩,e3,e⟩:=aA.mp e;refine ⟨α,δ,L,A,S,u,L1,e1,fun x H1 α1 g1 A1 r1=>⟨α1,δ,L1,A1,S.mono g1,w,L2,e2,fun y H2 α2 g2 A2 r2=>?_⟩⟩;refine h1 H2 α2 L2 u w x y t L4 _ A2 ZcM r2 e3 fun v H3 α3 g3 A3 r3=>?_
 cases t with
 | bl k=>
  refine ⟨k,r3,?_⟩;cases k with
  | true=>
   obtain ⟨⟨s,L5⟩,e4,e⟩:=aA.mp e;refine Abb ⟨α3,δ,L4,A3,((S.mono g1).mono g2).mono g3,s,L5,e4,fun y' H4 α4 g4 A4 r4=>?_⟩;exact h2 H4 α4 L5 w s y y' z L3 Q A4 ((r2.mono g3).mono g4) r4 e fun v H5 α5 g5 A5 r5=>q v H5 α5 (g1.trans (g2.trans (g3.trans (g4.trans g5)))) A5 r5
  | false=>cases e;exact Aau (q _ H3 α3 Za8 A3 rfl)
 | _=>simp at e
theorem Wc{op':CmpOp}(ho:OpR X (dA op) r)(ho':OpR X (dA op') r')(h1:Dr X.K r s1)(h2:Dr X.K r' s2)(ha:PEF X a fa)(hb:PEF X b fb)(hc:PEF X c fc)(hm:lastMarks [op,op'] [b,c]=false:=by with_unfolding_all rfl) :
  PEF X ZbI (Fe s1 s2 fa fb fc):=PE.imp (Anu ho ho' ha hb hc hm) (Acm h1 h2)
theorem R7{op':CmpOp}(ho:OpR X (dA op) r)(ho':OpR X (dA op') r')(h1:Dr X.K r s1)(h2:Dr X.K r' s2)(ha:PEF X a fa)(hb:PEF X b fb)(hc:PEF X c fc)(hm:lastMarks [op,op'] [b,c]=false:=by with_unfolding_all rfl) :
  PTF X ZbI (Av (Fe s1 s2 fa fb fc)):=PT.imp (An1 ho ho' ha hb hc hm) (Aik (Acm h1 h2))
def Ua(u:U)(L:UH):Option Bool:=match u with
 | .non=>ξ false
 | .bl b=>ξ b
 | .int i=>ξ (i != 0)
 | .str y=>if E4 y.length=true then ξ ((y.length:Int) != 0) else ψ
 | .tup l=>ξ (!l.isEmpty)
 | .ref n=>match L[n]? with
  | some (.lst xs)=>ξ (!xs.isEmpty)
  | some (.ro xs)=>ξ (!xs.isEmpty)
  | some (.dic kvs)=>ξ (!kvs.isEmpty)
  | _=>ψ
theorem J6{α β:Type}{l:List α}{m:List β}(h:l.length=m.length):l.isEmpty=m.isEmpty:=by
 cases l <;> cases m <;> simp_all
theorem Asn{x:V}{k:Bool}(A:Abs K H α L)(r:RepU K H α u x)(h:Ua u L=ξ k):Axd K x H k:=by
 cases u with
 | non=>unfold RepU at r;subst r;exact (bS h).symm
 | bl b=>unfold RepU at r;subst r;exact (bS h).symm
 | int i=>unfold RepU at r;subst r;exact (bS h).symm
 | str y=>
  unfold RepU at r;subst r;unfold Ua at h;simp only at h;split at h
  ·rename_i hs;cases h;exact ⟨Ec hs,rfl⟩
  ·cases h
 | tup l=>
  unfold RepU at r;obtain ⟨a,xs,rfl,s,r⟩:=r;exact .inr (.inl ⟨xs,s,by rw[<- J6 r.length];exact (bS h).symm⟩)
 | ref n=>
  unfold RepU at r;obtain ⟨a,ea,rfl⟩:=r;unfold Ua at h;simp only at h;cases q:L[n]? with
  | none=>rw[q] at h;simp at h
  | some o=>
   have hr:=A.rep n a o ea q;rw[q] at h;cases o with
   | lst us=>obtain ⟨xs,e,r⟩:=hr;exact .inl ⟨xs,.of e,by rw[<- J6 r.length];exact (bS h).symm⟩
   | ro us=>obtain ⟨xs,e,r⟩:=hr;exact .inl ⟨xs,e.sq,by rw[<- J6 r.length];exact (bS h).symm⟩
   | dic kvs=>obtain ⟨vs,e,ek,_⟩:=hr;exact .inr (.inr ⟨vs,e,by rw[<- J6 (show kvs.length=vs.length by simpa using congrArg iI ek)];exact (bS h).symm⟩)
   | rod kvs=>simp at h
   | ins C fs=>simp at h
   | exc C fr fs=>simp at h
def G5(f:FE):FT:=fun δ L=>(f δ L).bind fun p=>(Ua p.1 p.2).map fun k=>(k,p.2)
theorem Ej(ha:PEF X a fa)(he:∀ whole,isTrue a X.env whole=(do let v <- whole;standAt a.pos;holding [v] (truthy v)):=by intro _;rfl):PTF X a (G5 fa):=by
 refine PT.imp (Amv ha he) ?_;rintro σ H Q ⟨α,δ,L,A,S,z,L3,e,q⟩;obtain ⟨⟨u,L1⟩,e1,e⟩:=aA.mp e;obtain ⟨k,e2,e⟩:=aJ.mp e;cases e;exact ⟨α,δ,L,A,S,u,_,e1,fun x H1 α1 g1 A1 r1=>⟨_,Asn A1 r1 e2,q H1 α1 g1 A1⟩⟩
end
inductive Fl where
 | nx (δ:UE) | rt (u:U) | bk (δ:UE) | ct (δ:UE)
abbrev FS:=UE->UH->Option (Fl×UH)
def Post(K:aF)(D:Ends)(H:Hp)(α:List Addr)(fl:Fl)(L':UH):Prop:=match fl with
 | .nx δ'=>∀ σ' H' α',Gr H α H' α'->Abs K H' α' L'->RepS K H' α' δ' σ'->D.nx σ' H'
 | .bk δ'=>∀ σ' H' α',Gr H α H' α'->Abs K H' α' L'->RepS K H' α' δ' σ'->D.bk σ' H'
 | .ct δ'=>∀ σ' H' α',Gr H α H' α'->Abs K H' α' L'->RepS K H' α' δ' σ'->D.ct σ' H'
 | .rt u=>∀ v H' α',Gr H α H' α'->Abs K H' α' L'->RepU K H' α' u v->D.rt v H'
theorem Post.from{D:Ends}{α1:List Addr}{fl:Fl}{L':UH}(g:Gr H α H1 α1)(p:Post K D H α fl L'):Post K D H1 α1 fl L':=by
 cases fl with
 | nx δ=>exact fun σ' H' α' g'=>p σ' H' α' (g.trans g')
 | bk δ=>exact fun σ' H' α' g'=>p σ' H' α' (g.trans g')
 | ct δ=>exact fun σ' H' α' g'=>p σ' H' α' (g.trans g')
 | rt u=>exact fun v H' α' g'=>p v H' α' (g.trans g')
inductive lS(K:aF)(f:FS)(D:Ends)(σ:L2.St)(H:Hp):Prop
 | mk (α:List Addr) (δ:UE) (L:UH) (A:Abs K H α L) (S:RepS K H α δ σ) (fl:Fl) (L':UH) (e:f δ L=ξ (fl,L')) (q:Post K D H α fl L'):lS K f D σ H
def PSF(X:Cx)(st:Stmt)(f:FS):Prop:=PS X st (lS X.K f)
def Aax(X:Cx)(st:List Stmt)(f:FS):Prop:=PSs X st (lS X.K f)
variable {fe:FE}
section
variable {st:Stmt}{rest:List Stmt}{f g:FS}
theorem PS.imp{t t':TS}(h:PS X st t)(hi:∀ D σ H,t' D σ H->t D σ H):PS X st t':=fun pins s σ H D I q=>h pins s σ H D I (hi D σ H q)
theorem PSs.imp{sts:List Stmt}{t t':TS}(h:PSs X sts t)(hi:∀ D σ H,t' D σ H->t D σ H):PSs X sts t':=fun pins s σ H D I q=>h pins s σ H D I (hi D σ H q)
def B2:FS:=fun δ L=>ξ (.nx δ,L)
def Ba(f g:FS):FS:=fun δ L=>(f δ L).bind fun p=>match p.1 with | .nx δ'=>g δ' p.2 | fl=>ξ (fl,p.2)
theorem Bn:Aax X [] B2:=by
 refine PSs.imp Apu ?_;rintro D σ H ⟨α,δ,L,A,S,fl,L',e,q⟩;cases e;exact q σ H α (.refl _ _) A S
theorem Ai(h1:PSF X st f)(h2:Aax X rest g):Aax X (st::rest) (Ba f g):=by
 refine PSs.imp (Ak9 h1 h2) ?_;rintro D σ H ⟨α,δ,L,A,S,fl,L',e,q⟩;obtain ⟨⟨fl1,L1⟩,e1,e⟩:=aA.mp e;refine ⟨α,δ,L,A,S,fl1,L1,e1,?_⟩;cases fl1 with
 | nx δ1=>exact fun σ1 H1 α1 g1 A1 S1=>⟨α1,δ1,L1,A1,S1,fl,L',e,q.from g1⟩
 | rt u=>cases e;exact q
 | bk δ1=>cases e;exact q
 | ct δ1=>cases e;exact q
theorem Ak(h1:PSF X st f):Aax X [st] f:=Aps h1
def Cf(f:FE):FS:=fun δ L=>(f δ L).map fun p=>(.rt p.1,p.2)
def Dl(f:FE):FS:=fun δ L=>(f δ L).map fun p=>(.nx δ,p.2)
def A0w:FS:=fun _ L=>ξ (.rt .non,L)
theorem Au(he:PEF X e fe):PSF X (.Return (ξ e) pos) (Cf fe):=by
 refine PS.imp (Avp he) ?_;rintro D σ H ⟨α,δ,L,A,S,fl,L',e,q⟩;obtain ⟨⟨u,L1⟩,e1,e⟩:=aJ.mp e;cases e;exact ⟨α,δ,L,A,S,u,_,e1,fun v H1 α1 g1 A1 r1=>q v H1 α1 g1 A1 r1⟩
theorem Dp(he:PEF X e fe)(hs:swapsWith e ψ pos.line X.env=pure false:=by rfl):PSF X (.Expr e pos) (Dl fe):=by
 refine PS.imp (Aqx he hs) ?_;rintro D σ H ⟨α,δ,L,A,S,fl,L',e,q⟩;obtain ⟨⟨u,L1⟩,e1,e⟩:=aJ.mp e;cases e;exact ⟨α,δ,L,A,S,u,_,e1,fun v H1 α1 g1 A1 r1=>q σ H1 α1 g1 A1 (S.mono g1)⟩
def C6(c:FT)(f g:FS):FS:=fun δ L=>(c δ L).bind fun p=>if p.1=true then f δ p.2 else g δ p.2
theorem By{a b:List Stmt}{tc:FT}(hc:PTF X c tc)(ha:Aax X a f)(hb:Aax X b g):PSF X (.If c a b pos) (C6 tc f g):=by
 refine PS.imp (A2r hc ha hb) ?_;rintro D σ H ⟨α,δ,L,A,S,fl,L',e,q⟩;obtain ⟨⟨u,L1⟩,e1,e⟩:=aA.mp e;refine ⟨α,δ,L,A,S,u,L1,e1,fun H1 α1 g1 A1=>?_⟩;cases u with
 | true=>exact Abb ⟨α1,δ,L1,A1,S.mono g1,fl,L',e,q.from g1⟩
 | false=>exact Aau ⟨α1,δ,L1,A1,S.mono g1,fl,L',e,q.from g1⟩
def El:FS:=fun _ _=>ψ
theorem Cp:PSF X st El:=by
 refine PS.imp Alp ?_;rintro D σ H ⟨α,δ,L,A,S,fl,L',e,q⟩;cases e
end
abbrev FG:=U->UE->UH->Option (UE×UH)
abbrev FGs:=List U->UE->UH->Option (UE×UH)
inductive lG(K:aF)(f:FG)(v:V)(σ:L2.St)(H:Hp)(Q:L2.St->Hp->Prop):Prop
 | mk (α:List Addr) (δ:UE) (L:UH) (u:U) (A:Abs K H α L) (S:RepS K H α δ σ) (r:RepU K H α u v) (δ':UE) (L':UH) (e:f u δ L=ξ (δ',L')) (q:∀ σ' H' α',Gr H α H' α'->Abs K H' α' L'->RepS K H' α' δ' σ'->Q σ' H'):lG K f v σ H Q
inductive lGs(K:aF)(f:FGs)(vs:List V)(σ:L2.St)(H:Hp)(Q:L2.St->Hp->Prop):Prop
 | mk (α:List Addr) (δ:UE) (L:UH) (us:List U) (A:Abs K H α L) (S:RepS K H α δ σ) (r:RepL K H α us vs) (δ':UE) (L':UH) (e:f us δ L=ξ (δ',L')) (q:∀ σ' H' α',Gr H α H' α'->Abs K H' α' L'->RepS K H' α' δ' σ'->Q σ' H'):lGs K f vs σ H Q
def PGF(X:Cx)(e:Expr)(f:FG):Prop:=PG X e (lG X.K f)
def Aod(X:Cx)(es:List Expr)(f:FGs):Prop:=PGs X es (lGs X.K f)
variable {tg:Expr}
section
theorem PG.imp{t t':TG}(h:PG X e t)(hi:∀ v σ H Q,t' v σ H Q->t v σ H Q):PG X e t':=fun pins s σ H v u Q I r q=>h pins s σ H v u Q I r (hi v σ H Q q)
theorem PGs.imp{t t':TGs}(h:PGs X es t)(hi:∀ v σ H Q,t' v σ H Q->t v σ H Q):PGs X es t':=fun pins s σ H v u Q I r q=>h pins s σ H v u Q I r (hi v σ H Q q)
def gN(i:Nat):FG:=fun u δ L=>ξ (δ.set i (ξ u),L)
theorem Ao(hN:X.N.Nodup)(hi:X.N[i]? = ξ x:=by rfl)(hx:Loc X.env.scope x:=by first | exact tS rfl | exact rY rfl)(hf:X.fn x=true\/X.env.scope.names.lookup x=ξ .local:=by first | exact .inl rfl | exact .inr rfl):PGF X (.Name x pos) (gN i):=by
 refine PG.imp (Aij (i:=i) hN hi hx hf) ?_;rintro v σ H Q ⟨α,δ,L,u,A,S,r,δ',L',e,q⟩;cases e;exact q _ H α (.refl _ _) A (S.set i r)
def gNil:FGs:=fun us δ L=>match us with | []=>ξ (δ,L) | _=>ψ
def gCons(f:FG)(g:FGs):FGs:=fun us δ L=>match us with | []=>ψ | u::r=>(f u δ L).bind fun p=>g r p.1 p.2
theorem Gn:Aod X [] MR.gNil:=by
 refine PGs.imp Ark ?_;rintro vs σ H Q ⟨α,δ,L,us,A,S,r,δ',L',e,q⟩;cases us with
 | nil=>cases e;exact ⟨by unfold RepL at r;exact r,q σ H α (.refl _ _) A S⟩
 | cons u us=>cases e
theorem Bt{f:FG}{g:FGs}(h1:PGF X e f)(h2:Aod X es g)(hs:(assignEach (e::es) X.env).map (·.2)=assign e X.env::(assignEach es X.env).map (·.2):=by rfl):Aod X (e::es) (MR.gCons f g):=by
 refine PGs.imp (Aox h1 h2 hs) ?_;rintro vs σ H Q ⟨α,δ,L,us,A,S,r,δ',L',e,q⟩;cases us with
 | nil=>cases e
 | cons u us=>
  unfold RepL at r;obtain ⟨x,xs,rfl,r1,r2⟩:=r;obtain ⟨⟨δ1,L1⟩,e1,e⟩:=aA.mp e;refine ⟨x,xs,rfl,α,δ,L,u,A,S,r1,δ1,L1,e1,fun σ1 H1 α1 g1 A1 S1=>?_⟩;exact ⟨α1,δ1,L1,us,A1,S1,r2.mono g1,δ',L',e,fun σ2 H2 α2 g2 A2 S2=>q σ2 H2 α2 ZaV A2 S2⟩
def gTup(n:Nat)(g:FGs):FG:=fun u δ L=>match u with | .tup us=>if us.length=n then g us δ L else ψ | _=>ψ
theorem Jv{g:FGs}(hc:X.calm=true)(h:Aod X es g)(hn:(assignEach es X.env).length=n:=by rfl)(hst:(assignEach es X.env).findIdx? (·.1)=ψ:=by rfl):PGF X Zef (MR.gTup n g):=by
 refine PG.imp (Aw7 hc h hn hst) ?_;rintro v σ H Q ⟨α,δ,L,u,A,S,r,δ',L',e,q⟩;cases u with
 | tup us=>
  unfold RepU at r;obtain ⟨a,xs,rfl,s,r⟩:=r;unfold MR.gTup at e;simp only at e;split at e
  ·rename_i hl;exact ⟨a,xs,rfl,s,by rw[<- r.length];exact hl,α,δ,L,us,A,S,r,δ',L',e,q⟩
  ·cases e
 | _=>simp[MR.gTup] at e
def Bh(fe:FE)(g:FG):FS:=fun δ L=>(fe δ L).bind fun p=>(g p.1 δ p.2).map fun q=>(.nx q.1,q.2)
theorem Q2{g:FG}(he:PEF X e fe)(hg:PGF X tg g)(hs:swapsWithSole [tg] e pos.line X.env=pure false:=by rfl)(hw:swappedStores [tg] e X.env=pure ψ:=by rfl)(h1:(assignEach [tg] X.env).map (·.2)=[assign tg X.env]:=by rfl) :
  PSF X (.Assign [tg] e pos) (Bh fe g):=by
 refine PS.imp (Awc he hg hs hw h1) ?_;rintro D σ H ⟨α,δ,L,A,S,fl,L',e,q⟩;obtain ⟨⟨u,L1⟩,e1,e⟩:=aA.mp e;obtain ⟨⟨δ2,L2⟩,e2,e⟩:=aJ.mp e;cases e;exact ⟨α,δ,L,A,S,u,L1,e1,fun v H1 α1 g1 A1 r1=>⟨α1,δ,L1,u,A1,S.mono g1,r1,δ2,_,e2,fun σ2 H2 α2 g2 A2 S2=>q σ2 H2 α2 ZaV A2 S2⟩⟩
theorem A7{i:Nat}{x:Str}{fe:FE}{pos':Pos}(hN:X.N.Nodup)(he:PEF X e fe)(hi:X.N[i]? = ξ x:=by rfl)(hx:Loc X.env.scope x:=by first | exact tS rfl | exact rY rfl)
  (hs:swapsWith e (ξ (.Name x pos')) pos.line X.env=pure false:=by rfl) (hf:X.fn x=true\/X.env.scope.names.lookup x=ξ .local:=by first | exact .inl rfl | exact .inr rfl) :
  PSF X (.Assign [.Name x pos'] e pos) (Bh fe (gN i)):=by
 refine PS.imp (Axl (i:=i) hN hi hx he hs hf) ?_;rintro D σ H ⟨α,δ,L,A,S,fl,L',e,q⟩;obtain ⟨⟨u,L1⟩,e1,e⟩:=aA.mp e;obtain ⟨⟨δ2,L2⟩,e2,e⟩:=aJ.mp e;cases e;cases e2;exact ⟨α,δ,L,A,S,u,_,e1,fun v H1 α1 g1 A1 r1=>q _ H1 α1 g1 A1 ((S.mono g1).set i r1)⟩
end
def Gz(L:UH)(n:Nat):Option (List U):=match L[n]? with
 | some (.lst us)=>ξ us
 | _=>ψ
def Aw(L:UH)(n:Nat):Option (List U):=match L[n]? with
 | some (.lst us)=>ξ us
 | some (.ro us)=>ξ us
 | _=>ψ
inductive IU where
 | seq (us:List U) | ref (n:Nat) | enm (n:Nat) | zip2 (n m:Nat) | zipT (us:List U) (m:Nat) | zipL (n:Nat) (ws:List U)
noncomputable def Mt:Option U->Option U->Option U
 | some x,ξ y=>ξ (.tup [x,y])
 | _,_=>ψ
def IU.at(i:IU)(k:Nat)(L:UH):Option (Option U):=match i with
 | .seq us=>ξ us[k]?
 | .ref n=>match L[n]? with
  | some (.lst us)=>ξ us[k]?
  | some (.ro us)=>ξ us[k]?
  | _=>ψ
 | .enm n=>(Aw L n).map fun us=>(us[k]?).map fun u=>.tup [.int k,u]
 | .zip2 n m=>(Aw L n).bind fun us=>(Aw L m).map fun ws=>Mt us[k]? ws[k]?
 | .zipT us m=>(Aw L m).map fun ws=>Mt us[k]? ws[k]?
 | .zipL n ws=>(Aw L n).map fun us=>Mt us[k]? ws[k]?
def IU.size(i:IU)(L:UH):Nat:=match i with
 | .seq us=>us.length
 | .ref n=>match L[n]? with
  | some (.lst us)=>us.length
  | some (.ro us)=>us.length
  | _=>0
 | .enm n=>match Aw L n with
  | some us=>us.length
  | none=>0
 | .zip2 n m=>match Aw L n,Aw L m with
  | some us,ξ ws=>min us.length ws.length
  | _,_=>0
 | .zipT us m=>match Aw L m with
  | some ws=>min us.length ws.length
  | none=>0
 | .zipL n ws=>match Aw L n with
  | some us=>min us.length ws.length
  | none=>0
abbrev FI:=UE->UH->Option (IU×UH)
def V0(K:aF)(J:It)(i:IU)(H:Hp)(α:List Addr):Prop:=∀ (H2:Hp) (α2:List Addr) (L2:UH),Gr H α H2 α2->Abs K H2 α2 L2->∀ k:Nat,
 (∀ u,i.at k L2=ξ (ξ u)->J.go k H2/\∀ x H3,J.yld k H2 x H3->Gr H2 α2 H3 α2/\Abs K H3 α2 L2/\RepU K H3 α2 u x)/\(i.at k L2=ξ ψ->J.stop k H2)
inductive lI(K:aF)(f:FI)(σ:L2.St)(H:Hp)(R:It->Hp->Prop):Prop
 | mk (α:List Addr) (δ:UE) (L:UH) (A:Abs K H α L) (S:RepS K H α δ σ) (i:IU) (L':UH) (e:f δ L=ξ (i,L')) (q:∀ J H' α',Gr H α H' α'->Abs K H' α' L'->V0 K J i H' α'->R J H'):lI K f σ H R
def PIF(X:Cx)(tg iter:Expr)(f:FI):Prop:=PI X tg iter (lI X.K f)
variable {iter:Expr}{fi:FI}
section
variable {l:Expr}
theorem PI.imp{t t':TI}(h:PI X tg iter t)(hi:∀ σ H R,t' σ H R->t σ H R):PI X tg iter t':=fun pins s σ H R I q=>h pins s σ H R I (hi σ H R q)
theorem PI.or{t t':TI}(h:PI X tg iter t)(h':PI X tg iter t'):PI X tg iter (fun σ H R=>t σ H R\/t' σ H R):=fun pins s σ H R I q=>by
 rcases q with q | q
 ·exact h pins s σ H R I q
 ·exact h' pins s σ H R I q
def Gm(u:U)(L:UH):Option IU:=match u with
 | .tup us=>ξ (.seq us)
 | .ref n=>match L[n]? with
  | some (.lst _)=>ξ (.ref n)
  | some (.ro _)=>ξ (.ref n)
  | _=>ψ
 | _=>ψ
theorem Ahp(ea:α[n]? = ξ a):V0 K (Itl K a) (.ref n) H α:=by
 intro H2 α2 L2 g A2 k;have ea2:=g.at ea;have go:∀ (us:List U) (xs:List V),SqL K H2 a xs->RepL K H2 α2 us xs->(∀ ys,SqL K H2 a ys->True)->(∀ u,us[k]? = ξ u->(Itl K a).go k H2/\∀ x H3,(Itl K a).yld k H2 x H3->Gr H2 α2 H3 α2/\Abs K H3 α2 L2/\RepU K H3 α2 u x)/\(us[k]? = ψ->(Itl K a).stop k H2):=by
  intro us xs sq r _;refine ⟨fun u eu=>?_,fun eu=>?_⟩
  ·obtain ⟨x,ex,rx⟩:=r.get eu;refine ⟨⟨xs,x,sq,ex⟩,?_⟩;rintro y H3 ⟨rfl,hy⟩;have:=hy xs sq;rw[ex] at this;cases this;exact ⟨.refl _ _,A2,rx⟩
  ·exact ⟨xs,sq,by rw[<- r.length];exact cU.mp eu⟩
 unfold IU.at;simp only;cases q:L2[n]? with
 | none=>simp
 | some o=>
  have hr:=A2.rep n a o ea2 q;cases o with
  | lst us=>
   obtain ⟨xs,e,r⟩:=hr;obtain ⟨h1,h2⟩:=go us xs (.of e) r fun _ _=>trivial
   exact ⟨fun u eu=>h1 u (bS eu),fun eu=>h2 (bS eu)⟩
  | ro us=>
   obtain ⟨xs,e,r⟩:=hr;obtain ⟨h1,h2⟩:=go us xs e.sq r fun _ _=>trivial
   exact ⟨fun u eu=>h1 u (bS eu),fun eu=>h2 (bS eu)⟩
  | dic kvs=>simp
  | rod kvs=>simp
  | ins C fs=>simp
  | exc C fr fs=>simp
theorem Asg(sq:SqT K H a xs)(r:RepL K H α us xs):V0 K (Itt K a) (.seq us) H α:=by
 intro H2 α2 L2 g A2 k;have sq2:=g.st.sqT (K:=K) sq;have r2:=r.mono g;refine ⟨fun u eu=>?_,fun eu=>?_⟩
 ·obtain ⟨x,ex,rx⟩:=r2.get (bS eu);refine ⟨⟨xs,x,sq2,ex⟩,?_⟩;rintro y H3 ⟨rfl,hy⟩;have:=hy xs sq2;rw[ex] at this;cases this;exact ⟨.refl _ _,A2,rx⟩
 ·exact ⟨xs,sq2,by rw[<- r2.length];exact cU.mp (bS eu)⟩
theorem Apq(lo:Int)(n:Nat):V0 K (Itr lo n) (.seq ((bM n).map fun i=>U.int (lo+(i:Nat)))) H α:=by
 intro H2 α2 L2 g A2 k;refine ⟨fun u eu=>?_,fun eu=>?_⟩
 ·have eu:=bS eu;rw[bD] at eu;by_cases hk:k < n
  ·rw[pT hk] at eu;simp at eu;refine ⟨hk,?_⟩;rintro x H3 ⟨rfl,rfl⟩;subst eu;exact ⟨.refl _ _,A2,rfl⟩
  ·rw[kH (by simpa using hk)] at eu;simp at eu
 ·have:=cU.mp (bS eu);show n<=k;simpa using this
def Br(f:FE):FI:=fun δ L=>(f δ L).bind fun p=>(Gm p.1 p.2).map fun i=>(i,p.2)
theorem C0(h:PEF X l fe):PIF X tg l (Br fe):=by
 refine PI.imp (PI.or (Aqt h) (Av3 h)) ?_;rintro σ H R ⟨α,δ,L,A,S,i,L3,e,q⟩;obtain ⟨⟨u,L1⟩,e1,e⟩:=aA.mp e;obtain ⟨j,e2,e⟩:=aJ.mp e;cases e;cases u with
 | tup us=>
  cases e2;refine .inr ⟨α,δ,L,A,S,_,_,e1,fun x H1 α1 g1 A1 r1=>?_⟩;unfold RepU at r1;obtain ⟨a,xs,rfl,sq,r⟩:=r1;exact ⟨a,rfl,⟨xs,sq⟩,q _ H1 α1 g1 A1 (Asg sq r)⟩
 | ref n=>
  refine .inl ⟨α,δ,L,A,S,_,_,e1,fun x H1 α1 g1 A1 r1=>?_⟩;unfold RepU at r1;obtain ⟨a,ea,rfl⟩:=r1;refine ⟨a,rfl,?_⟩;unfold Gm at e2;simp only at e2;cases w:L1[n]? with
  | none=>simp only[w] at e2;cases e2
  | some o=>
   have hr:=A1.rep n a o ea w;cases o with
   | lst us=>simp only[w] at e2;cases e2;obtain ⟨xs,e,r⟩:=hr;exact ⟨⟨xs,.of e⟩,q _ H1 α1 g1 A1 (Ahp ea)⟩
   | ro us=>simp only[w] at e2;cases e2;obtain ⟨xs,e,r⟩:=hr;exact ⟨⟨xs,e.sq⟩,q _ H1 α1 g1 A1 (Ahp ea)⟩
   | dic kvs=>simp only[w] at e2;cases e2
   | rod kvs=>simp only[w] at e2;cases e2
   | ins C fs=>simp only[w] at e2;cases e2
   | exc C fr fs=>simp only[w] at e2;cases e2
 | _=>cases e2
noncomputable def C4(lo:Int)(n:Nat):List U:=(bM n).map fun i=>U.int (lo+(i:Nat))
def Eh(g:FA):FI:=fun δ L=>(g δ L).bind fun p=>match p.1 with
 | [.int j]=>if -(2 ^ 62)<=j/\j < 2 ^ 62 then ξ (.seq (C4 0 j.toNat),p.2) else ψ
 | _=>ψ
def Atb(g:FA):FI:=fun δ L=>(g δ L).bind fun p=>match p.1 with
 | [.int i,.int j]=>if (-(2 ^ 62)<=i/\i < 2 ^ 62)/\-(2 ^ 62)<=j/\j < 2 ^ 62 then ξ (.seq (C4 i (j - i).toNat),p.2) else ψ
 | _=>ψ
theorem RepL.one(h:RepL K H α [u] xs):∃ x,xs=[x]/\RepU K H α u x:=by
 unfold RepL at h;obtain ⟨x,r,e,h1,h2⟩:=h;unfold RepL at h2;subst h2;exact ⟨x,e,h1⟩
theorem RepL.two{w:U}(h:RepL K H α [u,w] xs):∃ x y,xs=[x,y]/\RepU K H α u x/\RepU K H α w y:=by
 unfold RepL at h;obtain ⟨x,r,e,h1,h2⟩:=h;obtain ⟨y,e2,h3⟩:=h2.one;subst e2;exact ⟨x,y,e,h1,h3⟩
theorem F1{a:Expr}{p:Pos}(hg:Gl X "range")(hm:X.mg "range" = ψ)(ha:PAF X [a] g)(hs:bH [a] X.env=[ZbG]:=by rfl):PIF X tg (.Call (.Name "range" p) [a] [] pos) (Eh g):=by
 refine PI.imp (Akx hg hm ha hs) ?_;rintro σ H R ⟨α,δ,L,A,S,i,L3,e,q⟩;obtain ⟨⟨us,L1⟩,e1,e⟩:=aA.mp e;refine ⟨α,δ,L,A,S,us,L1,e1,fun xs H1 α1 g1 A1 r1=>?_⟩;simp only at e;split at e
 ·rename_i _ j;split at e
  ·rename_i hj;cases e;obtain ⟨x,rfl,rx⟩:=r1.one;unfold RepU at rx;subst rx;exact ⟨j,rfl,hj.1,hj.2,q _ H1 α1 g1 A1 (Apq 0 _)⟩
  ·cases e
 ·cases e
def Q4(i:IU)(g:FG)(body:FS):Nat->Nat->UE->UH->Option (Fl×UH)
 | 0,_,_,_=>ψ
 | m+1,k,δ,L=>match i.at k L with
  | none=>ψ
  | some ψ=>ξ (.nx δ,L)
  | some (ξ u)=>(g u δ L).bind fun p=>(body p.1 p.2).bind fun q=>match q.1 with
   | .nx δ'=>Q4 i g body m (k+1) δ' q.2
   | .ct δ'=>Q4 i g body m (k+1) δ' q.2
   | .bk δ'=>ξ (.nx δ',q.2)
   | .rt w=>ξ (.rt w,q.2)
def Qo(fi:FI)(g:FG)(body:FS):FS:=fun δ L=>(fi δ L).bind fun p=>Q4 p.1 g body (p.1.size p.2+1) 0 δ p.2
inductive FI_(K:aF)(D:Ends)(H1:Hp)(α1:List Addr)(fl:Fl)(L':UH)(go:UE->UH->Option (Fl×UH))(σ2:_root_.L2.St)(H2:Hp):Prop
 | mk (α2:List Addr) (δ2:UE) (L2:UH) (g2:Gr H1 α1 H2 α2) (A2:Abs K H2 α2 L2) (S2:RepS K H2 α2 δ2 σ2) (e2:go δ2 L2=ξ (fl,L')) (q2:Post K D H2 α2 fl L'):FI_ K D H1 α1 fl L' go σ2 H2
theorem Js{body:List Stmt}{g:FG}{fb:FS}(hp:rR Zf X.A X.env X.xe)(hc:X.calm=true)(hi:PIF X tg iter fi)(hg:PGF X tg g)(hb:Aax X body fb)
  (hs:∀ x,foldedSetIterable iter X.env x=pure x:=by intro _;rfl):PSF X (.For tg iter body [] pos) (Qo fi g fb):=by
 refine PS.imp (Awn hp hc hi hg hb hs) ?_;rintro D σ H ⟨α,δ,L,A,S,fl,L',e,q⟩;obtain ⟨⟨it,L1⟩,e1,e⟩:=aA.mp e;refine ⟨α,δ,L,A,S,it,L1,e1,fun J H1 α1 g1 A1 hJ=>?_⟩;refine ⟨fun k m=>FI_ X.K D H1 α1 fl L' (Q4 it g fb m k),⟨_,α1,δ,L1,.refl _ _,A1,S.mono g1,e,q.from g1⟩,?_⟩;rintro k m σ2 H2 ⟨α2,δ2,L2,g2,A2,S2,e2,q2⟩;cases m with
 | zero=>cases e2
 | succ m=>
  obtain ⟨hgo,hstop⟩:=hJ H2 α2 L2 g2 A2 k;unfold Q4 at e2;cases hat:it.at k L2 with
  | none=>rw[hat] at e2;cases e2
  | some o=>
   cases o with
   | none=>
    rw[hat] at e2;cases e2;exact .inl ⟨hstop hat,q2 σ2 H2 α2 (.refl _ _) A2 S2⟩
   | some u=>
    rw[hat] at e2;obtain ⟨go,yld⟩:=hgo u hat;obtain ⟨⟨δ3,L3⟩,e3,e2⟩:=aA.mp e2;obtain ⟨⟨fl4,L4⟩,e4,e2⟩:=aA.mp e2;refine .inr ⟨go,FI_ X.K D H1 α1 fl L' (Q4 it g fb m (k+1)),fun σ5 H5 h5=>⟨m,gO _,h5⟩,fun x H3 y3=>?_⟩;obtain ⟨g3,A3,r3⟩:=yld x H3 y3;refine ⟨α2,δ2,L2,u,A3,S2.mono g3,r3,δ3,L3,e3,fun σ4 H4 α4 g4 A4 S4=>⟨α4,δ3,L3,A4,S4,fl4,L4,e4,?_⟩⟩;have gA:=g2.trans (g3.trans g4);have gB:=g3.trans g4;cases fl4 with
    | nx δ5=>exact fun σ5 H5 α5 g5 A5 S5=>⟨α5,δ5,L4,gA.trans g5,A5,S5,e2,q2.from (gB.trans g5)⟩
    | ct δ5=>exact fun σ5 H5 α5 g5 A5 S5=>⟨α5,δ5,L4,gA.trans g5,A5,S5,e2,q2.from (gB.trans g5)⟩
    | bk δ5=>cases e2;exact fun σ5 H5 α5 g5 A5 S5=>q2 σ5 H5 α5 (gB.trans g5) A5 S5
    | rt w=>cases e2;exact fun v H5 α5 g5 A5 r5=>q2 v H5 α5 (gB.trans g5) A5 r5
def F2(c:FT)(body:FS):Nat->UE->UH->Option (Fl×UH)
 | 0,_,_=>ψ
 | m+1,δ,L=>(c δ L).bind fun p=>if p.1=true then (body δ p.2).bind fun q=>match q.1 with
   | .nx δ'=>F2 c body m δ' q.2
   | .ct δ'=>F2 c body m δ' q.2
   | .bk δ'=>ξ (.nx δ',q.2)
   | .rt w=>ξ (.rt w,q.2)
  else ξ (.nx δ,p.2)
inductive WI_(K:aF)(D:Ends)(fl:Fl)(L':UH)(go:UE->UH->Option (Fl×UH))(σ2:_root_.L2.St)(H2:Hp):Prop
 | mk (α2:List Addr) (δ2:UE) (L2:UH) (A2:Abs K H2 α2 L2) (S2:RepS K H2 α2 δ2 σ2) (e2:go δ2 L2=ξ (fl,L')) (q2:Post K D H2 α2 fl L'):WI_ K D fl L' go σ2 H2
theorem Yu{body:List Stmt}{tc:FT}{fb:FS}(n:Nat)(hp:rR Zf X.A X.env X.xe)(hc:PTF X c tc)(hb:Aax X body fb):PSF X (.While c body [] pos) (F2 tc fb n):=by
 refine PS.imp (Aoi hp hc hb) ?_;rintro D σ H ⟨α,δ,L,A,S,fl,L',e,q⟩;refine ⟨fun m=>WI_ X.K D fl L' (F2 tc fb m),⟨n,α,δ,L,A,S,e,q⟩,?_⟩;rintro m σ2 H2 ⟨α2,δ2,L2,A2,S2,e2,q2⟩;cases m with
 | zero=>cases e2
 | succ m=>
  unfold F2 at e2;obtain ⟨⟨b,L3⟩,e3,e2⟩:=aA.mp e2;refine ⟨α2,δ2,L2,A2,S2,b,L3,e3,fun H3 α3 g3 A3=>?_⟩;cases b with
  | false=>cases e2;exact Aau (q2 σ2 H3 α3 g3 A3 (S2.mono g3))
  | true=>
   obtain ⟨⟨fl4,L4⟩,e4,e2⟩:=aA.mp e2;refine Abb ⟨WI_ X.K D fl L' (F2 tc fb m),fun σ5 H5 h5=>⟨m,gO _,h5⟩,?_⟩;refine ⟨α3,δ2,L3,A3,S2.mono g3,fl4,L4,e4,?_⟩;cases fl4 with
   | nx δ5=>exact fun σ5 H5 α5 g5 A5 S5=>⟨α5,δ5,L4,A5,S5,e2,q2.from (g3.trans g5)⟩
   | ct δ5=>exact fun σ5 H5 α5 g5 A5 S5=>⟨α5,δ5,L4,A5,S5,e2,q2.from (g3.trans g5)⟩
   | bk δ5=>cases e2;exact fun σ5 H5 α5 g5 A5 S5=>q2 σ5 H5 α5 (g3.trans g5) A5 S5
   | rt w=>cases e2;exact fun v H5 α5 g5 A5 r5=>q2 v H5 α5 (g3.trans g5) A5 r5
end
def fnU(n m:Nat)(body:FS):FN:=fun us L=>if us.length=m then (body (us.map ξ++bP (n - us.length) ψ) L).bind fun p=>match p.1 with
 | .rt u=>ξ (u,p.2)
 | .nx _=>ξ (.non,p.2)
 | _=>ψ
 else ψ
section
variable {P:cC}{w:cM}{mg:Str->Option aH}{base:Heap}
theorem Fun.okF{qual:Str}{st:Stmt}{f:Addr}{fd:dS}{N ps:List Str}{body:FS}(F:Fun K x qual st f fd)(S:FnScope N ps (An st))
  (hbody:∀ (cdv:aH) (A:eA) (outer:List iW) (s:aN) (H:Hp) (E:XK),Room k (A.deeper (envOfC qual (An st) s.heap.objs.size f cdv))->Aax (Ae9 CX0 P w K mg base N qual (An st) f cdv A outer s H E).nox (Fw st) body) :
  FnOk P w K mg base CX0 (k+1) f fd ps (spF K ps.length (fnU N.length ps.length body)):=by
 refine F.ok S (fun vs H Q E ⟨α,L,us,A,r,hl,_,_,_,_⟩=>by rw[<- r.length];exact hl) (fun cdv A outer s H vs Q E hr h=>?_);obtain ⟨α,L,us,Ab,r,hl,u,L',e,q⟩:=h;refine ⟨_,hbody cdv A outer s H E hr,?_⟩;unfold fnU at e;rw[if_pos hl] at e;obtain ⟨⟨fl,L1⟩,e1,e⟩:=aA.mp e;refine ⟨α,_,L,Ab,RepS.start N r,fl,L1,e1,?_⟩;cases fl with
 | rt w=>cases e;exact q
 | nx δ=>cases e;exact fun σ' H' α' g' A' S'=>q .non H' α' g' A' rfl
 | bk δ=>cases e
 | ct δ=>cases e
end
section
variable {x:V}
theorem W7(h:Gz L n=ξ us):L[n]? = ξ (.lst us):=by
 unfold Gz at h;split at h
 ·rename_i e;cases h;exact e
 ·cases h
theorem Ri(A:Abs K H α L)(h:Gz L n=ξ us):∃ a xs,α[n]? = ξ a/\H a=ξ (.lst xs)/\RepL K H α us xs:=by
 obtain ⟨a,ea,xs,e,r⟩:=A.addr (W7 h);exact ⟨a,xs,ea,e,r⟩
theorem I0(A:Abs K H α L)(h:Aw L n=ξ us):∃ a xs,α[n]? = ξ a/\SqL K H a xs/\RepL K H α us xs:=by
 unfold Aw at h;split at h
 ·rename_i e;cases h;obtain ⟨a,ea,xs,e,r⟩:=A.addr e;exact ⟨a,xs,ea,.of e,r⟩
 ·rename_i e;cases h;obtain ⟨a,ea,xs,e,r⟩:=A.addr e;exact ⟨a,xs,ea,e.sq,r⟩
 ·cases h
theorem Abs.setL{ys:List V}{ws:List U}(A:Abs K H α L)(h:Gz L n=ξ us)(ea:α[n]? = ξ a)(e:H a=ξ (.lst xs))(r:RepL K H α ws ys) :
  Gr H α (upd H a (.lst ys)) α/\Abs K (upd H a (.lst ys)) α (L.set n (.lst ws)):=by
 have g:Gr H α (upd H a (.lst ys)) α:=⟨⟨[],Za⟩,.write e (by exact trivial) _⟩;obtain ⟨A',_⟩:=A.put (o:=.lst ys) (u:=.lst ws) ea (W7 h) rfl rfl e (by exact trivial) ⟨ys,upd_same,r.mono g⟩;exact ⟨g,A'⟩
theorem RepU.ref_of(A:Abs K H α L)(h:RepU K H α (.ref n) x):∃ a,α[n]? = ξ a/\x = .ref a:=by unfold RepU at h;exact h
end
def Az:S2:=fun u w L=>match u,w with
 | .int i,.int j=>ξ (.int (i+j),L)
 | .str a,.str b=>if E4 (a.length+b.length)=true then ξ (.str (a++b),L) else ψ
 | .tup a,.tup b=>if a.isEmpty=false/\E4 (a.length+b.length)=true then ξ (.tup (a++b),L) else ψ
 | .ref n,.ref m=>(Gz L n).bind fun a=>(Gz L m).bind fun b=>if E4 (a.length+b.length)=true then ξ (.ref L.length,L++[.lst (a++b)]) else ψ
 | _,_=>ψ
def At3(K:aF):R2:=fun x y H Q=>rI0 (fun i j=>.int (i+j)) x y H Q\/(∃ i j,x = .str i/\y = .str j/\i.length+j.length<=sizeLine/\Q (.str (i++j)) H)\/rCatT K x y H Q\/rCat x y H Q
theorem B7:OpR X (gP .Add) (At3 X.K):=Awl.or (Aey.or (Aqa.or Awi))
theorem B5:Dr K (At3 K) Az:=by
 intro H α L u w x y z L' Q A ru rw e q;unfold Az at e;split at e
 ·cases e;unfold RepU at ru rw;exact .inl ⟨_,_,ru,rw,q _ H α (.refl _ _) A rfl⟩
 ·split at e
  ·rename_i h;cases e;unfold RepU at ru rw;exact .inr (.inl ⟨_,_,ru,rw,Ec h,q _ H α (.refl _ _) A rfl⟩)
  ·cases e
 ·rename_i a b;split at e
  ·rename_i h;cases e;unfold RepU at ru rw;obtain ⟨p,xs,rfl,s1,r1⟩:=ru;obtain ⟨p2,ys,rfl,s2,r2⟩:=rw;have e1:=r1.length;have e2:=r2.length;refine .inr (.inr (.inl ⟨p,p2,xs,ys,rfl,rfl,s1,s2,?_,by rw[<- e1,<- e2];exact Ec h.2,fun hy=>?_,fun hy l hl=>?_⟩))
   ·intro hx;subst hx;cases a with
    | nil=>simp at h
    | cons _ _=>simp at e1
   ·subst hy;have hb:b=[]:=by
     cases b with
     | nil=>rfl
     | cons _ _=>simp at e2
    subst hb;refine q _ H α (.refl _ _) A ?_;unfold RepU;exact ⟨p,xs,rfl,s1,by rw[aR];exact r1⟩
   ·obtain ⟨g,A',r⟩:=A.tup (r1.append r2) hl;exact q _ _ α g A' r
  ·cases e
 ·rename_i n m;obtain ⟨a,ha,e⟩:=aA.mp e;obtain ⟨b,hb,e⟩:=aA.mp e;split at e
  ·rename_i h;cases e;obtain ⟨p,xs,e1,h1,r1⟩:=Ri A ha;obtain ⟨p2,ys,e2,h2,r2⟩:=Ri A hb;obtain ⟨p',e1',rfl⟩:=ru.ref_of A;obtain ⟨p2',e2',rfl⟩:=rw.ref_of A;rw[e1] at e1';cases e1';rw[e2] at e2';cases e2';refine .inr (.inr (.inr ⟨p,p2,xs,ys,rfl,rfl,h1,h2,by rw[<- r1.length,<- r2.length];exact Ec h,fun l hl=>?_⟩));obtain ⟨g,A',r⟩:=A.lst (r1.append r2) hl;exact q _ _ _ g A' r
  ·cases e
 ·cases e
def Ak3(C:Int->Int->Bool)(g:Int->Int->U):S2:=fun u w L=>match u,w with
 | .int i,.int j=>if C i j=true then ξ (g i j,L) else ψ
 | _,_=>ψ
theorem Ane{C:Int->Int->Prop}{Cb:Int->Int->Bool}{g:Int->Int->V}{g':Int->Int->U}(hC:∀ i j,Cb i j=true->C i j)(hg:∀ i j H α,RepU K H α (g' i j) (g i j)):Dr K (rI C g) (Ak3 Cb g'):=by
 intro H α L u w x y z L' Q A ru rw e q;unfold Ak3 at e;split at e
 ·split at e
  ·rename_i h;cases e;unfold RepU at ru rw;exact ⟨_,_,ru,rw,hC _ _ h,q _ H α (.refl _ _) A (hg _ _ _ _)⟩
  ·cases e
 ·cases e
def V1(g:Int->Int->U):S2:=fun u w L=>match u,w with
 | .int i,.int j=>ξ (g i j,L)
 | _,_=>ψ
theorem U4{g:Int->Int->V}{g':Int->Int->U}(hg:∀ i j H α,RepU K H α (g' i j) (g i j)):Dr K (rI0 g) (V1 g'):=by
 intro H α L u w x y z L' Q A ru rw e q;unfold V1 at e;split at e
 ·cases e;unfold RepU at ru rw;exact ⟨_,_,ru,rw,q _ H α (.refl _ _) A (hg _ _ _ _)⟩
 ·cases e
def Fp:S2:=V1 fun i j=>.int (i - j)
theorem Jx:Dr K (rI0 fun i j=>.int (i - j)) Fp:=U4 fun _ _ _ _=>rfl
noncomputable def Jt(i j:Int):Bool:=(decide (-(2 ^ 64) < i)&&decide (i < 2 ^ 64)) || (decide (-(2 ^ 64) < j)&&decide (j < 2 ^ 64))
def Kp:S2:=fun u w L=>match u,w with
 | .int i,.int j=>if Jt i j=true then ξ (.int (i * j),L) else ψ
 | .str a,.int j=>if a.length<=1000/\-1000<=j/\j<=1000 then ξ (.str (vN a j),L) else ψ
 | .ref n,.int k=>(Gz L n).bind fun a=>if -1000000<=k/\k<=1000000/\E4 (a.length * k.toNat)=true then ξ (.ref L.length,L++[.lst (bP k.toNat a).flatten]) else ψ
 | _,_=>ψ
def At4:R2:=fun x y H Q=>rI CMul (fun i j=>.int (i * j)) x y H Q\/(∃ a j,x = .str a/\y = .int j/\MulOk a j/\Q (.str (vN a j)) H)\/rRep x y H Q
theorem Afy:OpR X (gP .Mult) (fun x y H Q=>∃ a j,x = .str a/\y = .int j/\MulOk a j/\Q (.str (vN a j)) H):=by
 intro pins s σ H x y v u Q I rx ry h;obtain ⟨a,j,rfl,rfl,hok,q⟩:=h;obtain ⟨t,rfl⟩:=rx;obtain ⟨t',rfl⟩:=ry;exact SB.mul hok fun t' k=>⟨.str (vN a j),H,I.tok _,⟨_,rfl⟩,q⟩
theorem Mb:OpR X (gP .Mult) At4:=Au5.or (Afy.or Avq)
theorem RepL.flat(h:RepL K H α us xs):∀ k:Nat,RepL K H α (bP k us).flatten (bP k xs).flatten
 | 0=>.nil
 | k+1=>by rw[fG,fG,iC,iC];exact h.append (RepL.flat h k)
theorem Lx:Dr K At4 Kp:=by
 intro H α L u w x y z L' Q A ru rw e q;unfold Kp at e;split at e
 ·rename_i i j;split at e
  ·rename_i h;cases e;unfold RepU at ru rw;refine .inl ⟨_,_,ru,rw,?_,q _ H α (.refl _ _) A rfl⟩;simp only[Jt,lL,bY,decide_eq_true_eq] at h;exact h
  ·cases e
 ·rename_i a j;split at e
  ·rename_i h;cases e;unfold RepU at ru rw;exact .inr (.inl ⟨_,_,ru,rw,mulOk_of 1000 1000 h.1 Ze Ze Zb Zb,q _ H α (.refl _ _) A rfl⟩)
  ·cases e
 ·rename_i n k;obtain ⟨a,ha,e⟩:=aA.mp e;split at e
  ·rename_i h;cases e;obtain ⟨p,xs,e1,h1,r1⟩:=Ri A ha;obtain ⟨p',e1',rfl⟩:=ru.ref_of A;rw[e1] at e1';cases e1';unfold RepU at rw;refine .inr (.inr ⟨p,k,xs,rfl,rw,h1,Ze,Ze,by rw[<- r1.length];exact Ec h.2.2,fun l hl=>?_⟩);obtain ⟨g,A',r⟩:=A.lst (r1.flat k.toNat) hl;exact q _ _ _ g A' r
  ·cases e
 ·cases e
def Al4(i j:Int):Prop:=0 < j/\j < 1152921504606846976
theorem Kw:OpR X (gP .FloorDiv) (rI Al4 fun i j=>.int (i / j)):=opI fun i j _ _ _ _ _ hc q=>by
 have h1:(0:Int) < j:=hc.1;have h2:j < 1152921504606846976:=hc.2;refine floordiv_int Ze (by rw[Int.fdiv_eq_ediv_of_nonneg i Ze];exact q) (.inl (PyProof.noPylong_of_log2 ?_));have h3:j.natAbs.log2 < 60:=(Nat.log2_lt Ze).mpr Ze;omega
noncomputable def Te(i j:Int):Bool:=decide (0 < j)&&decide (j < 1152921504606846976)
def He:S2:=Ak3 Te fun i j=>.int (i / j)
theorem Oh:Dr K (rI Al4 fun i j=>.int (i / j)) He:=Ane (fun i j h=>by simpa[Te,Al4] using h) fun _ _ _ _=>rfl
def Kc:S2:=Ak3 (fun _ j=>decide (0 < j)) fun i j=>.int (i % j)
theorem Lj:Dr K (rI (fun _ j=>0 < j) fun i j=>.int (i % j)) Kc:=Ane (fun i j h=>by simpa using h) fun _ _ _ _=>rfl
noncomputable def Y3(i j:Int):Bool:=decide (0<=j)&&decide (j<=1000000)&&decide (i.natAbs < 2 ^ 64)
def Hx:S2:=Ak3 Y3 fun i j=>.int (i ^ j.toNat)
theorem Oy:Dr K (rI Azv fun i j=>.int (i ^ j.toNat)) Hx:=Ane (fun i j h=>by simp[Y3] at h;exact ⟨h.1.1,h.1.2,h.2⟩) fun _ _ _ _=>rfl
def Dx:S2:=V1 fun i j=>.bl (decide (i<=j))
def Vd:S2:=V1 fun i j=>.bl (decide (j < i))
def V8:S2:=V1 fun i j=>.bl (decide (j<=i))
def Nb:S2:=V1 fun i j=>.bl (decide (i < j))
theorem Gu:Dr K (rI0 fun i j=>.bl (decide (i<=j))) Dx:=U4 fun _ _ _ _=>rfl
theorem Ae0:Dr K (rI0 fun i j=>.bl (decide (j < i))) Vd:=U4 fun _ _ _ _=>rfl
theorem Aex:Dr K (rI0 fun i j=>.bl (decide (j<=i))) V8:=U4 fun _ _ _ _=>rfl
theorem Sv:Dr K (rI0 fun i j=>.bl (decide (i < j))) Nb:=U4 fun _ _ _ _=>rfl
noncomputable def mapO{β γ:Type}(f:β->Option γ):List β->Option (List γ)
 | []=>ξ []
 | u::r=>(f u).bind fun d=>(mapO f r).map fun ds=>d::ds
def toP(L:UH):Nat->U->Option tT
 | 0,_=>ψ
 | _+1,.non=>ξ .none
 | _+1,.bl b=>ξ (.bool b)
 | _+1,.int i=>ξ (.int i)
 | _+1,.str x=>ξ (.str x)
 | n+1,.tup l=>(mapO (toP L n) l).map .tuple
 | n+1,.ref k=>(Aw L k).bind fun l=>(mapO (toP L n) l).map .list
variable {pins:List (Addr×Obj)}
section
variable {s:aN}
theorem Aae(ih:∀ (u:U) (x:V) (v:aH) (d:tT),RepU X.K H α u x->RelV x v->toP L n u=ξ d->∃ as,Reads s.heap v d as):∀ (l:List U) (xs:List V) (vs:List aH) (ds:List tT),RepL X.K H α l xs->Vals xs vs->mapO (toP L n) l=ξ ds->∃ as,ReadsAll s.heap vs ds as
 | [],xs,vs,ds,r,hv,e=>by
  unfold RepL at r;subst r;cases hv;cases e;exact ⟨_,.nil⟩
 | u::l,xs,vs,ds,r,hv,e=>by
  unfold RepL at r;obtain ⟨x,xr,rfl,r1,r2⟩:=r;cases hv with
  | cons h1 h2=>
   obtain ⟨d,e1,e⟩:=aA.mp e;obtain ⟨dr,e2,e⟩:=aJ.mp e;subst e;obtain ⟨as,q1⟩:=ih u x _ d r1 h1 e1;obtain ⟨bs,q2⟩:=Aae ih l xr _ dr r2 h2 e2;exact ⟨_,.cons q1 q2⟩
theorem N0(I:Inv X pins σ H s)(A:Abs X.K H α L):∀ (n:Nat) (u:U) (x:V) (v:aH) (d:tT),RepU X.K H α u x->RelV x v->toP L n u=ξ d->∃ as,Reads s.heap v d as
 | 0,_,_,_,_,_,_,e=>by cases e
 | n+1,u,x,v,d,r,hv,e=>by
  cases u with
  | non=>unfold RepU at r;subst r;cases hv;cases e;exact ⟨_,.none⟩
  | bl b=>unfold RepU at r;subst r;cases hv;cases e;exact ⟨_,.bool b⟩
  | int i=>unfold RepU at r;subst r;obtain ⟨t,rfl⟩:=hv;cases e;exact ⟨_,.int i t⟩
  | str y=>unfold RepU at r;subst r;obtain ⟨t,rfl⟩:=hv;cases e;exact ⟨_,.str y t⟩
  | tup l=>
   unfold RepU at r;obtain ⟨a,xs,rfl,sq,r⟩:=r;cases hv;unfold toP at e;obtain ⟨ds,e1,e⟩:=aJ.mp e;subst e;obtain ⟨its,hv,⟨o,h1,h2,m,h3⟩,_⟩:=I.tuple sq;obtain ⟨as,q⟩:=Aae (N0 I A n) l xs its ds r hv e1;exact ⟨_,.tuple h1 h2 h3 (by simpa using q)⟩
  | ref k=>
   unfold RepU at r;obtain ⟨a,ea,rfl⟩:=r;cases hv;unfold toP at e;obtain ⟨l,hl,e⟩:=aA.mp e;obtain ⟨ds,e1,e⟩:=aJ.mp e;subst e;obtain ⟨a',xs,ea',sq,r⟩:=I0 A hl;rw[ea] at ea';cases ea';obtain ⟨its,hv,⟨o,m,h1,h2,_,h3⟩,_⟩:=I.list sq;obtain ⟨as,q⟩:=Aae (N0 I A n) l xs its ds r hv e1;exact ⟨_,.list h1 h2 h3 (by simpa using q)⟩
end
def eqP(u w:U)(L:UH):Option Bool:=(toP L 8 u).bind fun d=>(toP L 8 w).bind fun e=>if dP d=true/\dP e=true then ξ (dH d e) else ψ
inductive rEqU(K:aF)(neg:Bool)(x y:V)(H:Hp)(Q:VK):Prop
 | mk (α:_) (L:_) (u:_) (w:_) (b:_) (h0:Abs K H α L) (h1:RepU K H α u x) (h2:RepU K H α w y) (h3:eqP u w L=ξ b) (h4:Q (.bl (if neg then !b else b)) H):rEqU K neg x y H Q
theorem Dh(hu:X.A.units+64 < cLine):OpR X (dA .Eq) (rEqU X.K false):=by
 intro pins s σ H x y v u Q I rx ry h;obtain ⟨α,L,a,b,k,A,ra,rb,e,q⟩:=h;obtain ⟨d,e1,e⟩:=aA.mp e;obtain ⟨d2,e2,e⟩:=aA.mp e;split at e
 ·rename_i hs;cases e;obtain ⟨as,q1⟩:=N0 I A 8 a x v d ra rx e1;obtain ⟨bs,q2⟩:=N0 I A 8 b y u d2 rb ry e2;exact eq_dataH q1 q2 hs.1 hs.2 hu ⟨.bl _,H,I,rfl,q⟩
 ·cases e
theorem Hz(hu:X.A.units+64 < cLine):OpR X (dA .NotEq) (rEqU X.K true):=by
 intro pins s σ H x y v u Q I rx ry h;obtain ⟨α,L,a,b,k,A,ra,rb,e,q⟩:=h;obtain ⟨d,e1,e⟩:=aA.mp e;obtain ⟨d2,e2,e⟩:=aA.mp e;split at e
 ·rename_i hs;cases e;obtain ⟨as,q1⟩:=N0 I A 8 a x v d ra rx e1;obtain ⟨bs,q2⟩:=N0 I A 8 b y u d2 rb ry e2;exact ne_dataH q1 q2 hs.1 hs.2 hu ⟨.bl _,H,I,rfl,q⟩
 ·cases e
def B9:S2:=fun u w L=>(eqP u w L).map fun b=>(.bl b,L)
def Dd:S2:=fun u w L=>(eqP u w L).map fun b=>(.bl (!b),L)
theorem Dj:Dr K (rEqU K false) B9:=by
 intro H α L u w x y z L' Q A ru rw e q;obtain ⟨b,e1,e⟩:=aJ.mp e;cases e;exact ⟨α,_,u,w,b,A,ru,rw,e1,q _ H α (.refl _ _) A rfl⟩
theorem H9:Dr K (rEqU K true) Dd:=by
 intro H α L u w x y z L' Q A ru rw e q;obtain ⟨b,e1,e⟩:=aJ.mp e;cases e;exact ⟨α,_,u,w,b,A,ru,rw,e1,q _ H α (.refl _ _) A rfl⟩
def A22(neg:Bool):S2:=fun u w L=>match u,w with
 | .non,.non=>ξ (.bl (!neg),L)
 | .bl a,.bl b=>ξ (.bl (if neg then !(a == b) else a == b),L)
 | .int _,.non=>ξ (.bl neg,L)
 | .bl _,.non=>ξ (.bl neg,L)
 | .str _,.non=>ξ (.bl neg,L)
 | .tup _,.non=>ξ (.bl neg,L)
 | .ref _,.non=>ξ (.bl neg,L)
 | _,_=>ψ
noncomputable def isSome:U->Bool
 | .non=>false
 | _=>true
theorem RepL.atI{i:Int}(r:RepL K H α us xs)(h:L2.atI us i=ξ u):∃ x,L2.atI xs i=ξ x/\RepU K H α u x:=by
 unfold L2.atI at h ⊢;obtain ⟨j,e1,e2⟩:=aA.mp h;obtain ⟨x,e3,r3⟩:=r.get e2;exact ⟨x,by rw[<- r.length,e1];exact e3,r3⟩
def Al:S2:=fun u w L=>match u,w with
 | .tup l,.int i=>(L2.atI l i).map fun z=>(z,L)
 | .ref n,.int i=>(Aw L n).bind fun l=>(L2.atI l i).map fun z=>(z,L)
 | .str x,.int i=>if E4 x.length=true then (L2.atI x.cps.toList i).map fun c=>(.str ⟨#[c]⟩,L) else ψ
 | _,_=>ψ
theorem Ar:Dr K (rIx K) Al:=by
 intro H α L u w x y z L' Q A ru rw e q;unfold Al at e;split at e
 ·obtain ⟨c,e1,e⟩:=aJ.mp e;cases e;unfold RepU at ru rw;obtain ⟨a,xs,rfl,sq,r⟩:=ru;obtain ⟨v,e2,r2⟩:=r.atI e1;exact .inr (.inl ⟨a,xs,_,v,rfl,rw,sq,e2,q _ H α (.refl _ _) A r2⟩)
 ·obtain ⟨l,hl,e⟩:=aA.mp e;obtain ⟨c,e1,e⟩:=aJ.mp e;cases e;obtain ⟨a,xs,ea,sq,r⟩:=I0 A hl;obtain ⟨a',ea',rfl⟩:=ru.ref_of A;rw[ea] at ea';cases ea';unfold RepU at rw;obtain ⟨v,e2,r2⟩:=r.atI e1;exact .inl ⟨a,xs,_,v,rfl,rw,sq,e2,q _ H α (.refl _ _) A r2⟩
 ·split at e
  ·rename_i hs;obtain ⟨c,e1,e⟩:=aJ.mp e;cases e;unfold RepU at ru rw;exact .inr (.inr ⟨_,_,c,ru,rw,Ec hs,e1,q _ H α (.refl _ _) A rfl⟩)
  ·cases e
 ·cases e
def T4(l:List U)(lo hi:Option Int):List U:=(l.drop (HT.sIx l.length 0 lo)).take (HT.sIx l.length l.length hi - HT.sIx l.length 0 lo)
theorem RepL.cut(r:RepL K H α us xs)(lo hi:Option Int):RepL K H α (T4 us lo hi) Zd0:=by
 unfold T4 Acl;rw[r.length];exact (r.drop _).take _
def Cj:SS:=fun u lo hi L=>match u with
 | .tup l=>if HT.sIx l.length 0 lo=0/\HT.sIx l.length l.length hi=l.length then ψ else ξ (.tup (T4 l lo hi),L)
 | .ref n=>(Aw L n).map fun l=>(.ref L.length,L++[.lst (T4 l lo hi)])
 | _=>ψ
def Aqj(K:aF):V->Option Int->Option Int->Hp->VK->Prop:=fun x lo hi H Q=>A1x K x lo hi H Q\/Az5 K x lo hi H Q
theorem Fq:SlR X (Aqj X.K):=Av0.or Apl
theorem E7:Am5 K (Aqj K) Cj:=by
 intro H α L u x lo hi z L' Q A ru e q;unfold Cj at e;split at e
 ·split at e
  ·cases e
  ·rename_i hn;cases e;unfold RepU at ru;obtain ⟨a,xs,rfl,sq,r⟩:=ru;refine .inl ⟨a,xs,rfl,sq,by rw[<- r.length];exact hn,fun p hp=>?_⟩;obtain ⟨g,A',r'⟩:=A.tup (r.cut lo hi) hp;exact q _ _ α g A' r'
 ·obtain ⟨l,hl,e⟩:=aJ.mp e;cases e;obtain ⟨a,xs,ea,sq,r⟩:=I0 A hl;obtain ⟨a',ea',rfl⟩:=ru.ref_of A;rw[ea] at ea';cases ea';refine .inr ⟨a,xs,rfl,sq,fun p hp=>?_⟩;obtain ⟨g,A',r'⟩:=A.lst (r.cut lo hi) hp;exact q _ _ _ g A' r'
 ·cases e
noncomputable def toV:U->Option V
 | .non=>ξ .non
 | .bl b=>ξ (.bl b)
 | .int i=>ξ (.int i)
 | .str x=>ξ (.str x)
 | _=>ψ
theorem Agg{x y:V}(r:RepU K H α u x)(h:toV u=ξ y):x=y/\Pf y=true:=by
 cases u <;> simp only[toV] at h <;> first
  | (cases h;unfold RepU at r;exact ⟨r,rfl⟩)
  | cases h
theorem Aab:∀ {us:List U} {xs ys:List V},RepL K H α us xs->mapO toV us=ξ ys->xs=ys/\ys.all Pf=true
 | [],xs,ys,r,h=>by unfold RepL at r;subst r;cases h;exact ⟨rfl,rfl⟩
 | u::us,xs,ys,r,h=>by
  unfold RepL at r;obtain ⟨x,xr,rfl,r1,r2⟩:=r;obtain ⟨y,e1,h⟩:=aA.mp h;obtain ⟨yr,e2,h⟩:=aJ.mp h;subst h;obtain ⟨rfl,h1⟩:=Agg r1 e1;obtain ⟨rfl,h2⟩:=Aab r2 e2;exact ⟨rfl,by simp[h1,h2]⟩
def G7(neg:Bool):S2:=fun u w L=>match w with
 | .tup l=>(toV u).bind fun x=>(mapO toV l).map fun xs=>(.bl Zch,L)
 | .ref n=>(Aw L n).bind fun l=>(toV u).bind fun x=>(mapO toV l).map fun xs=>(.bl Zch,L)
 | .str j=>match u with
  | .str i=>ξ (.bl (if neg then !(!(cO j i 0 j.length 1).isEmpty) else !(cO j i 0 j.length 1).isEmpty),L)
  | _=>ψ
 | _=>ψ
def Axq(K:aF)(neg:Bool):R2:=fun x y H Q=>rIn K neg x y H Q\/∃ i j,x = .str i/\y = .str j/\Q (.bl (if neg then !(!(cO j i 0 j.length 1).isEmpty) else !(cO j i 0 j.length 1).isEmpty)) H
theorem Aoa:OpR X (dA .In) (Axq X.K false):=Akk.or Ai4
theorem R8:OpR X (dA .NotIn) (Axq X.K true):=Aaf.or Abe
theorem Vm(neg:Bool):Dr K (Axq K neg) (G7 neg):=by
 intro H α L u w x y z L' Q A ru rw e q;unfold G7 at e;split at e
 ·obtain ⟨x',e1,e⟩:=aA.mp e;obtain ⟨xs,e2,e⟩:=aJ.mp e;cases e;unfold RepU at rw;obtain ⟨a,ys,rfl,sq,r⟩:=rw;obtain ⟨rfl,f1⟩:=Agg ru e1;obtain ⟨rfl,f2⟩:=Aab r e2;exact .inl ⟨a,ys,rfl,.inr sq,f1,f2,q _ H α (.refl _ _) A rfl⟩
 ·obtain ⟨l,hl,e⟩:=aA.mp e;obtain ⟨x',e1,e⟩:=aA.mp e;obtain ⟨xs,e2,e⟩:=aJ.mp e;cases e;obtain ⟨a,ys,ea,sq,r⟩:=I0 A hl;obtain ⟨a',ea',rfl⟩:=rw.ref_of A;rw[ea] at ea';cases ea';obtain ⟨rfl,f1⟩:=Agg ru e1;obtain ⟨rfl,f2⟩:=Aab r e2;exact .inl ⟨a,ys,rfl,.inl sq,f1,f2,q _ H α (.refl _ _) A rfl⟩
 ·split at e
  ·cases e;unfold RepU at ru rw;exact .inr ⟨_,_,ru,rw,q _ H α (.refl _ _) A rfl⟩
  ·cases e
 ·cases e
def lenU(u:U)(L:UH):Option Nat:=match u with
 | .str y=>if E4 y.length=true then ξ y.length else ψ
 | .tup l=>ξ l.length
 | .ref n=>(Aw L n).map iI
 | _=>ψ
def Ap:SC:=fun us L=>match us with
 | [u]=>(lenU u L).map fun (n:Nat)=>(U.int (n:Int),L)
 | _=>ψ
theorem Cv:O0 K (fun xs H Q=>∃ x n,xs=[x]/\Ay6 K x H n/\Q (.int n) H) Ap:=by
 intro H α L us xs z L' Q A r e q;unfold Ap at e;split at e
 ·rename_i u;obtain ⟨n,e1,e⟩:=aJ.mp e;cases e;obtain ⟨x,rfl,rx⟩:=r.one;refine ⟨x,n,rfl,?_,q _ H α (.refl _ _) A rfl⟩;cases u with
  | str y=>
   unfold lenU at e1;simp only at e1;split at e1
   ·rename_i hs;cases e1;unfold RepU at rx;subst rx;exact ⟨Ec hs,rfl⟩
   ·cases e1
  | tup l=>
   cases e1;unfold RepU at rx;obtain ⟨a,ys,rfl,sq,r2⟩:=rx;exact .inr ⟨ys,sq,r2.length⟩
  | ref k=>
   obtain ⟨l,hl,e2⟩:=aJ.mp e1;subst e2;obtain ⟨a,ys,ea,sq,r2⟩:=I0 A hl;obtain ⟨a',ea',rfl⟩:=rx.ref_of A;rw[ea] at ea';cases ea';exact .inl ⟨ys,sq,r2.length⟩
  | _=>cases e1
 ·cases e
noncomputable def toI:U->Option Int
 | .int i=>ξ i
 | _=>ψ
theorem Md:∀ {us:List U} {xs:List V} {ns:List Int},RepL K H α us xs->mapO toI us=ξ ns->xs=ns.map V.int
 | [],xs,ys,r,h=>by unfold RepL at r;subst r;cases h;rfl
 | u::us,xs,ys,r,h=>by
  unfold RepL at r;obtain ⟨x,xr,rfl,r1,r2⟩:=r;obtain ⟨y,e1,h⟩:=aA.mp h;obtain ⟨yr,e2,h⟩:=aJ.mp h;subst h;cases u <;> simp only[toI] at e1 <;> first
   | (cases e1;unfold RepU at r1;subst r1;rw[Md r2 e2];rfl)
   | cases e1
noncomputable def Aaj:List Int->Int
 | []=>0
 | [a]=>a
 | a::r=>max a (Aaj r)
noncomputable def Aah:List Int->Int
 | []=>0
 | [a]=>a
 | a::r=>min a (Aah r)
theorem Agi:∀ (ns:List Int) (M:Int),M∈ns->(∀ a,a∈ns->a<=M)->Aaj ns=M
 | [],M,h,_=>by cases h
 | [a],M,h,_=>by simp at h;exact h.symm
 | a::b::r,M,h,hm=>by
  show max a (Aaj (b::r))=M;by_cases hb:M∈b::r
  ·rw[Agi (b::r) M hb fun c hc=>hm c (aO _ hc)];have:=hm a (aU ..);omega
  ·rcases bG.mp h with rfl | h
   ·have hle:∀ (l:List Int),l≠[]->(∀ c,c∈l->c<=M)->Aaj l<=M:=by
     intro l;induction l with
     | nil=>intro h;exact absurd rfl h
     | cons c t ih=>
      intro _ hc;cases t with
      | nil=>exact hc c (aU ..)
      | cons d t=>
       have h1:=hc c (aU ..);have h2:=ih Za fun e he=>hc e (aO _ he)
       show max c (Aaj (d::t))<=M;omega
    have:=hle (b::r) Za fun c hc=>hm c (aO _ hc)
    omega
   ·exact absurd h hb
theorem Ahd:∀ (ns:List Int) (M:Int),M∈ns->(∀ a,a∈ns->M<=a)->Aah ns=M
 | [],M,h,_=>by cases h
 | [a],M,h,_=>by simp at h;exact h.symm
 | a::b::r,M,h,hm=>by
  show min a (Aah (b::r))=M;by_cases hb:M∈b::r
  ·rw[Ahd (b::r) M hb fun c hc=>hm c (aO _ hc)];have:=hm a (aU ..);omega
  ·rcases bG.mp h with rfl | h
   ·have hle:∀ (l:List Int),l≠[]->(∀ c,c∈l->M<=c)->M<=Aah l:=by
     intro l;induction l with
     | nil=>intro h;exact absurd rfl h
     | cons c t ih=>
      intro _ hc;cases t with
      | nil=>exact hc c (aU ..)
      | cons d t=>
       have h1:=hc c (aU ..);have h2:=ih Za fun e he=>hc e (aO _ he)
       show M<=min c (Aah (d::t));omega
    have:=hle (b::r) Za fun c hc=>hm c (aO _ hc)
    omega
   ·exact absurd h hb
section
theorem Akr(hc:X.calm=true):CallR X (.builtin "sum") (fun xs H Q=>∃ (p:Addr) (ns:List Int),xs=[.ref p]/\SqL X.K H p ZA/\Q Zdz H):=by
 intro pins s σ H xs us Q I r h;obtain ⟨p,ns,rfl,hq,q⟩:=h;obtain ⟨u,rfl,rx⟩:=Jw r;cases rx;obtain ⟨its,r',pl,hz⟩:=I.list hq;have hi:jL its ns:=Jl r';obtain ⟨m,F⟩:=I.fr;obtain ⟨xs,hx⟩:=hi.allInts.items;have hl':s.heap.IsList p (intItems xs):=hx ▸ pl.isList;refine sum_intListG ZaM hl' fun h' tk t' hk=>?_
 have e1:ns=xs.toList.map (·.1):=by
  rw[<- nF,<- hx];exact (show numsOf its.toArray.toList=ns from hi.numsOf).symm
 have e2:preSum (numAt xs) xs.size=ns.sum:=by
  rw[preSum_eq,dQ Za,e1]
 rw[e2];exact ⟨.int ns.sum,H,I.kept hk,⟨_,rfl⟩,q⟩
theorem Ajd(hc:X.calm=true):CallR X (.builtin "sum") (fun xs H Q=>∃ (p:Addr) (ns:List Int),xs=[.ref p]/\SqT X.K H p ZA/\Q Zdz H):=by
 intro pins s σ H xs us Q I r h;obtain ⟨p,ns,rfl,hq,q⟩:=h;obtain ⟨u,rfl,rx⟩:=Jw r;cases rx;obtain ⟨its,r',pl,hz⟩:=I.tuple hq;have hi:jL its ns:=Jl r';obtain ⟨xs,hx⟩:=hi.allInts.items;have hl':s.heap.IsTuple p (intItems xs):=hx ▸ pl;refine PySem.W.ktm_sumG ZaM hl' fun h' tk t' hk=>?_
 have e1:ns=xs.toList.map (·.1):=by
  rw[<- nF,<- hx];exact (show numsOf its.toArray.toList=ns from hi.numsOf).symm
 have e2:preSum (numAt xs) xs.size=ns.sum:=by
  rw[preSum_eq,dQ Za,e1]
 rw[e2];exact ⟨.int ns.sum,H,I.kept hk,⟨_,rfl⟩,q⟩
theorem Aji(hc:X.calm=true):CallR X (.builtin "sum") (fun xs H Q=>(∃ (p:Addr) (ns:List Int),xs=[.ref p]/\SqL X.K H p ZA/\Q Zdz H)\/∃ (p:Addr) (ns:List Int),xs=[.ref p]/\SqT X.K H p ZA/\Q Zdz H):=(Akr hc).or (Ajd hc)
theorem Akt(hc:X.calm=true):CallR X (.builtin "max") (fun xs H Q=>∃ (p:Addr) (ns:List Int),xs=[.ref p]/\SqL X.K H p ZA/\0 < ns.length/\Q (.int (Aaj ns)) H):=by
 intro pins s σ H xs us Q I r h;obtain ⟨p,ns,rfl,hq,hne,q⟩:=h;obtain ⟨u,rfl,rx⟩:=Jw r;cases rx;obtain ⟨its,r',pl,hz⟩:=I.list hq;have hi:jL its ns:=Jl r';obtain ⟨xs,e⟩:=hi.allInts.items;have hns:ns=xs.toList.map (·.1):=by rw[<- hi.numsOf,<- nF,<- e]
 have hsz:0 < xs.size:=by
  have h3:=hne;rw[hns,aL,cN] at h3;exact h3
 have hl':s.heap.IsList p (intItems xs):=e ▸ pl.isList;refine max_intList ZaM hl' hsz fun v h' tk hv hk=>?_
 obtain ⟨t,rfl⟩:=intItems_at hv;obtain ⟨h1,h2⟩:=argBest_gt (numAt xs) (xs.size - 1);have hM:=Agi ns (numAt xs (argBest (fun i j=>decide (numAt xs i > numAt xs j)) (xs.size - 1))) (by rw[hns,tU];exact getD_mem (by rw[aL,cN];omega)) (fun a ha=>by
  rw[hns] at ha;obtain ⟨j,hj,rfl⟩:=mem_getD ha;rw[aL,cN] at hj;rw[<- tU];exact h2 j Ze)
 rw[hM] at q;exact ⟨.int _,H,I.kept hk,⟨_,rfl⟩,q⟩
theorem Ai0(hc:X.calm=true):CallR X (.builtin "min") (fun xs H Q=>∃ (p:Addr) (ns:List Int),xs=[.ref p]/\SqL X.K H p ZA/\0 < ns.length/\Q (.int (Aah ns)) H):=by
 intro pins s σ H xs us Q I r h;obtain ⟨p,ns,rfl,hq,hne,q⟩:=h;obtain ⟨u,rfl,rx⟩:=Jw r;cases rx;obtain ⟨its,r',pl,hz⟩:=I.list hq;have hi:jL its ns:=Jl r';obtain ⟨xs,e⟩:=hi.allInts.items;have hns:ns=xs.toList.map (·.1):=by rw[<- hi.numsOf,<- nF,<- e]
 have hsz:0 < xs.size:=by
  have h3:=hne;rw[hns,aL,cN] at h3;exact h3
 have hl':s.heap.IsList p (intItems xs):=e ▸ pl.isList;refine min_intList ZaM hl' hsz fun v h' tk hv hk=>?_
 obtain ⟨t,rfl⟩:=intItems_at hv;obtain ⟨h1,h2⟩:=argBest_lt (numAt xs) (xs.size - 1);have hM:=Ahd ns (numAt xs (argBest (fun i j=>decide (numAt xs i < numAt xs j)) (xs.size - 1))) (by rw[hns,tU];exact getD_mem (by rw[aL,cN];omega)) (fun a ha=>by
  rw[hns] at ha;obtain ⟨j,hj,rfl⟩:=mem_getD ha;rw[aL,cN] at hj;rw[<- tU];exact h2 j Ze)
 rw[hM] at q;exact ⟨.int _,H,I.kept hk,⟨_,rfl⟩,q⟩
end
def Vq:SC:=fun us L=>match us with
 | [.ref n]=>(Aw L n).bind fun l=>(mapO toI l).map fun ns=>(.int ns.sum,L)
 | [.tup l]=>(mapO toI l).map fun ns=>(.int ns.sum,L)
 | _=>ψ
theorem Hm{x:V}(A:Abs K H α L)(hl:Aw L n=ξ l)(rx:RepU K H α (.ref n) x):∃ a ys,x = .ref a/\SqL K H a ys/\RepL K H α l ys:=by
 obtain ⟨a,ys,ea,sq,r2⟩:=I0 A hl;obtain ⟨a',ea',rfl⟩:=rx.ref_of A;rw[ea] at ea';cases ea';exact ⟨a,ys,rfl,sq,r2⟩
theorem Aq6:O0 K (fun xs H Q=>(∃ (p:Addr) (ns:List Int),xs=[.ref p]/\SqL K H p ZA/\Q Zdz H)\/∃ (p:Addr) (ns:List Int),xs=[.ref p]/\SqT K H p ZA/\Q Zdz H) Vq:=by
 intro H α L us xs z L' Q A r e q;unfold Vq at e;split at e
 ·obtain ⟨l,hl,e⟩:=aA.mp e;obtain ⟨ns,e1,e⟩:=aJ.mp e;cases e;obtain ⟨x,rfl,rx⟩:=r.one;obtain ⟨a,ys,rfl,sq,r2⟩:=Hm A hl rx;rw[Md r2 e1] at sq;exact .inl ⟨a,ns,rfl,sq,q _ H α (.refl _ _) A rfl⟩
 ·obtain ⟨ns,e1,e⟩:=aJ.mp e;cases e;obtain ⟨x,rfl,rx⟩:=r.one;unfold RepU at rx;obtain ⟨a,ys,rfl,sq,r2⟩:=rx;rw[Md r2 e1] at sq;exact .inr ⟨a,ns,rfl,sq,q _ H α (.refl _ _) A rfl⟩
 ·cases e
def Ahy(g2:Int->Int->Int)(gl:List Int->Int):SC:=fun us L=>match us with
 | [.int i,.int j]=>ξ (.int (g2 i j),L)
 | [.ref n]=>(Aw L n).bind fun l=>(mapO toI l).bind fun ns=>if ns.isEmpty=true then ψ else ξ (.int (gl ns),L)
 | _=>ψ
def Afz:SC:=Ahy (fun i j=>if j > i then j else i) Aaj
def Lh:SC:=Ahy (fun i j=>if j < i then j else i) Aah
theorem Ao0{g2:Int->Int->Int}{gl:List Int->Int}:O0 K (fun xs H Q=>(∃ i j,xs=[.int i,.int j]/\Q (.int (g2 i j)) H)\/∃ (p:Addr) (ns:List Int),xs=[.ref p]/\SqL K H p ZA/\0 < ns.length/\Q (.int (gl ns)) H) (Ahy g2 gl):=by
 intro H α L us xs z L' Q A r e q;unfold Ahy at e;split at e
 ·cases e;obtain ⟨x,y,rfl,rx,ry⟩:=r.two;unfold RepU at rx ry;exact .inl ⟨_,_,by rw[rx,ry],q _ H α (.refl _ _) A rfl⟩
 ·obtain ⟨l,hl,e⟩:=aA.mp e;obtain ⟨ns,e1,e⟩:=aA.mp e;split at e
  ·cases e
  ·rename_i hne;cases e;obtain ⟨x,rfl,rx⟩:=r.one;obtain ⟨a,ys,rfl,sq,r2⟩:=Hm A hl rx;rw[Md r2 e1] at sq;exact .inr ⟨a,ns,rfl,sq,by cases ns <;> simp_all,q _ H α (.refl _ _) A rfl⟩
 ·cases e
theorem Ain(hc:X.calm=true):CallR X (.builtin "max") (fun xs H Q=>(∃ i j,xs=[.int i,.int j]/\Q Zc4 H)\/∃ (p:Addr) (ns:List Int),xs=[.ref p]/\SqL X.K H p ZA/\0 < ns.length/\Q (.int (Aaj ns)) H):=(Aj3 hc).or (Akt hc)
theorem Ajn(hc:X.calm=true):CallR X (.builtin "min") (fun xs H Q=>(∃ i j,xs=[.int i,.int j]/\Q Zc5 H)\/∃ (p:Addr) (ns:List Int),xs=[.ref p]/\SqL X.K H p ZA/\0 < ns.length/\Q (.int (Aah ns)) H):=(Aiu hc).or (Ai0 hc)
theorem Ase:O0 K (fun xs H Q=>(∃ i j,xs=[.int i,.int j]/\Q Zc4 H)\/∃ (p:Addr) (ns:List Int),xs=[.ref p]/\SqL K H p ZA/\0 < ns.length/\Q (.int (Aaj ns)) H) Afz:=Ao0
theorem Apj:O0 K (fun xs H Q=>(∃ i j,xs=[.int i,.int j]/\Q Zc5 H)\/∃ (p:Addr) (ns:List Int),xs=[.ref p]/\SqL K H p ZA/\0 < ns.length/\Q (.int (Aah ns)) H) Lh:=Ao0
def Aa1:SC:=fun us L=>match us with
 | [.int i]=>ξ (.int i,L)
 | [.bl k]=>ξ (.int Zcn,L)
 | _=>ψ
theorem Arl:O0 K (fun xs H Q=>(∃ i,xs=[.int i]/\Q (.int i) H)\/∃ k,xs=[.bl k]/\Q (.int Zcn) H) Aa1:=by
 intro H α L us xs z L' Q A r e q;unfold Aa1 at e;split at e
 ·cases e;obtain ⟨x,rfl,rx⟩:=r.one;unfold RepU at rx;exact .inl ⟨_,by rw[rx],q _ H α (.refl _ _) A rfl⟩
 ·cases e;obtain ⟨x,rfl,rx⟩:=r.one;unfold RepU at rx;exact .inr ⟨_,by rw[rx],q _ H α (.refl _ _) A rfl⟩
 ·cases e
def Rq:SC:=fun us L=>match us with
 | [.ref n]=>(Aw L n).map fun l=>(.ref L.length,L++[.lst l])
 | [.tup l]=>ξ (.ref L.length,L++[.lst l])
 | _=>ψ
theorem Ak1:O0 K (fun xs H Q=>∃ p ys,xs=[.ref p]/\(SqL K H p ys\/SqT K H p ys)/\∀ l,H l=ψ->Q (.ref l) (upd H l (.lst ys))) Rq:=by
 intro H α L us xs z L' Q A r e q;unfold Rq at e;split at e
 ·obtain ⟨l,hl,e⟩:=aJ.mp e;cases e;obtain ⟨x,rfl,rx⟩:=r.one;obtain ⟨a,ys,rfl,sq,r2⟩:=Hm A hl rx;refine ⟨a,ys,rfl,.inl sq,fun p hp=>?_⟩;obtain ⟨g,A',r'⟩:=A.lst r2 hp;exact q _ _ _ g A' r'
 ·cases e;obtain ⟨x,rfl,rx⟩:=r.one;unfold RepU at rx;obtain ⟨a,ys,rfl,sq,r2⟩:=rx;refine ⟨a,ys,rfl,.inr sq,fun p hp=>?_⟩;obtain ⟨g,A',r'⟩:=A.lst r2 hp;exact q _ _ _ g A' r'
 ·cases e
def Ee:SC:=fun us L=>match us with
 | [.ref n]=>(Aw L n).map fun l=>(.tup l,L)
 | [.tup l]=>ξ (.tup l,L)
 | _=>ψ
theorem K4:O0 K (fun xs H Q=>∃ p ys,xs=[.ref p]/\((SqL K H p ys/\∀ l,H l=ψ->Q (.ref l) (upd H l (.tup ys)))\/(SqT K H p ys/\Q (.ref p) H))) Ee:=by
 intro H α L us xs z L' Q A r e q;unfold Ee at e;split at e
 ·obtain ⟨l,hl,e⟩:=aJ.mp e;cases e;obtain ⟨x,rfl,rx⟩:=r.one;obtain ⟨a,ys,rfl,sq,r2⟩:=Hm A hl rx;refine ⟨a,ys,rfl,.inl ⟨sq,fun p hp=>?_⟩⟩;obtain ⟨g,A',r'⟩:=A.tup r2 hp;exact q _ _ _ g A' r'
 ·cases e;obtain ⟨x,rfl,rx⟩:=r.one;have rx':=rx;unfold RepU at rx;obtain ⟨a,ys,rfl,sq,r2⟩:=rx;exact ⟨a,ys,rfl,.inr ⟨sq,q _ H α (.refl _ _) A rx'⟩⟩
 ·cases e
def Dm:SM:=fun u us L=>match u,us with
 | .ref n,[y]=>(Gz L n).bind fun l=>if decide (l.length < sizeLine)=true then ξ (.non,L.set n (.lst (l++[y]))) else ψ
 | _,_=>ψ
theorem Ud{x:V}(A:Abs K H α L)(hl:Gz L n=ξ l)(rx:RepU K H α (.ref n) x):∃ a ys,x = .ref a/\α[n]? = ξ a/\H a=ξ (.lst ys)/\RepL K H α l ys:=by
 obtain ⟨a,ys,ea,sq,r2⟩:=Ri A hl;obtain ⟨a',ea',rfl⟩:=rx.ref_of A;rw[ea] at ea';cases ea';exact ⟨a,ys,rfl,ea,sq,r2⟩
theorem Iw:Ad2 K Aho Dm:=by
 intro H α L u us x xs z L' Q A ru r e q;unfold Dm at e;split at e
 ·obtain ⟨l,hl,e⟩:=aA.mp e;split at e
  ·rename_i hs;cases e;obtain ⟨y,rfl,ry⟩:=r.one;obtain ⟨a,ys,rfl,ea,h,r2⟩:=Ud A hl ru;obtain ⟨g,A'⟩:=A.setL hl ea h (r2.append (.cons ry .nil));exact ⟨a,ys,y,rfl,rfl,h,by rw[<- r2.length];exact of_decide_eq_true hs,q _ _ _ g A' rfl⟩
  ·cases e
 ·cases e
def Sx:SM:=fun u us L=>match u,us with
 | .ref n,[.int i]=>(Gz L n).bind fun l=>if -(2 ^ 63)<=i/\i < 2 ^ 63 then (seqIndex? i l.length).bind fun k=>(l[k]?).map fun y=>(y,L.set n (.lst (l.eraseIdx k))) else ψ
 | _,_=>ψ
theorem Ar6:Ad2 K rPopAt Sx:=by
 intro H α L u us x xs z L' Q A ru r e q;unfold Sx at e;split at e
 ·obtain ⟨l,hl,e⟩:=aA.mp e;split at e
  ·rename_i hs;obtain ⟨k,ek,e⟩:=aA.mp e;obtain ⟨y,ey,e⟩:=aJ.mp e;cases e;obtain ⟨v,rfl,rv⟩:=r.one;unfold RepU at rv;subst rv;obtain ⟨a,ys,rfl,ea,h,r2⟩:=Ud A hl ru;obtain ⟨w,ew,rw⟩:=r2.get ey;obtain ⟨g,A'⟩:=A.setL hl ea h (r2.erase k);exact ⟨a,ys,_,k,w,rfl,rfl,h,hs.1,hs.2,by rw[<- r2.length];exact ek,ew,q _ _ _ g A' (rw.mono g)⟩
  ·cases e
 ·cases e
def gSub(fo fi:FE):FG:=fun v δ L=>(fo δ L).bind fun p=>(fi δ p.2).bind fun q=>match p.1,q.1 with
 | .ref n,.int k=>(Gz q.2 n).bind fun l=>(ixN l.length k).map fun j=>(δ,q.2.set n (.lst (l.set j v)))
 | _,_=>ψ
theorem Agn{o i:Expr}{fo fi:FE}(ho:PEF X o fo)(hi:PEF X i fi)(ha:∀ v,assign Zdn X.env v=(do let ov <- holding [v] Zcy;let iv <- holding [v,ov] (eval i X.env);standAt pos;holding [v,ov,iv] (setItem ov iv v);release [v,ov,iv] []):=by intro _;rfl):PGF X Zdn (MR.gSub fo fi):=by
 refine PG.imp (Au0 ho hi Aot ha) ?_;rintro v σ H Q ⟨α,δ,L,u,A,S,r,δ',L',e,q⟩;obtain ⟨⟨o',L1⟩,e1,e⟩:=aA.mp e;obtain ⟨⟨i',L2⟩,e2,e⟩:=aA.mp e;refine ⟨α,δ,L,A,S,o',L1,e1,fun x H1 α1 g1 A1 r1=>⟨α1,δ,L1,A1,S.mono g1,i',L2,e2,fun y H2 α2 g2 A2 r2=>?_⟩⟩;simp only at e;split at e
 ·obtain ⟨l,hl,e⟩:=aA.mp e;obtain ⟨j,ej,e⟩:=aJ.mp e;cases e;unfold RepU at r2;subst r2;obtain ⟨a,ys,rfl,ea,h,r3⟩:=Ud A2 hl ZcM;obtain ⟨g,A'⟩:=A2.setL hl ea h (r3.set ((r.mono g1).mono g2) j);exact ⟨a,ys,_,j,rfl,rfl,h,by rw[<- r3.length];exact ej,q _ _ _ (g1.trans (g2.trans g)) A' (((S.mono g1).mono g2).mono g)⟩
 ·cases e
def Ano(u:U)(L:UH):Option String:=match u with
 | .non=>ξ "NoneType"
 | .bl _=>ξ "bool"
 | .int _=>ξ "int"
 | .str _=>ξ "str"
 | .tup _=>ξ "tuple"
 | .ref n=>match L[n]? with
  | some (.lst _)=>ξ "list"
  | some (.ro _)=>ξ "list"
  | some (.dic _)=>ξ "dict"
  | _=>ψ
noncomputable def isT(t c:String):Bool:=t == c || (t == "bool" && c == "int")
def A5d(c:String)(f:FE):FE:=fun δ L=>(f δ L).bind fun p=>(Ano p.1 p.2).map fun t=>(.bl (isT t c),p.2)
theorem Av9{F:FN}{ns:List Int}{E:XK}(ho:Arx H)(hS:SqL K H a ZA)(h:∃ L',F [.ref 0] [.ro ZbE]=ξ Zcf):spF K 1 F [.ref a] H Zel E:=by
 obtain ⟨L',e⟩:=h;have ro:RO K H a ZA:=by
  rcases hS with (q | ⟨o,q⟩) | q
  ·rcases ho a with z | ⟨o,xs,z⟩
   ·rw[z] at q;cases q
   ·rw[z] at q;cases q
  ·exact .inl ⟨o,q⟩
  ·exact .inr q
 refine ⟨[a],[.ro ZbE],[.ref 0],⟨rfl,fun i j b o o' e1 e2 e3 e4=>?_,fun i b o e1 e2=>?_⟩,.cons ?_ .nil,rfl,.bl true,L',e,fun v H' α' _ _ r=>r⟩
 ·cases i with
  | zero=>cases j with
   | zero=>exact .inl rfl
   | succ j=>simp at e2
  | succ i=>simp at e1
 ·cases i with
  | zero=>simp at e1 e2;subst e1;subst e2;exact ⟨_,ro,RepL.ints ns⟩
  | succ i=>simp at e1
 ·unfold RepU;exact ⟨a,rfl,rfl⟩
theorem P5(env:iW):∀ (names:List (Str×jZ)) (cs:List (Str×Addr)),(∀ y∈names,y.2 = .free->∃ c,env.cells.lookup y.1=ξ c)->(∀ x c,cs.lookup x=ξ c->env.cells.lookup x=ξ c) ->
  ∃ cl:List (Str×Addr),(forIn names cs fun (x:Str×jZ) r=>if (x.2 == iP)=true then do let c <- cellOf env x.1;pure (iO ((x.1,c)::r)) else pure (iO r):Sem (List (Str×Addr)))=pure cl /\
   (∀ x c,cl.lookup x=ξ c->env.cells.lookup x=ξ c)/\(∀ y∈names,y.2 = .free->∃ c,cl.lookup y.1=ξ c)/\∀ x,(∃ c,cs.lookup x=ξ c)->∃ c,cl.lookup x=ξ c
 | [],cs,_,h2=>⟨cs,rfl,h2,(fun _ h=>nomatch h),fun _ h=>h⟩
 | (n,k)::r,cs,h1,h2=>by
  cases hk:k == iP with
  | true=>
   have hk':k = .free:=by simpa using hk
   obtain ⟨c,hc⟩:=h1 (n,k) (aU ..) hk';have look:∀ x c',eV x ((n,c)::cs)=ξ c'->env.cells.lookup x=ξ c':=fun x c' e=>by
    rw[cK] at e;cases hx:x == n with
    | true => rw [hx] at e; simp at e; subst e; have : x = n := by simpa using hx
              rw[this];exact hc
    | false=>rw[hx] at e;exact h2 x c' e
   obtain ⟨cl,e,p1,p2,p3⟩:=P5 env r ((n,c)::cs) (fun y hy=>h1 y (aO _ hy)) look;refine ⟨cl,?_,p1,fun y hy hf=>?_,fun x hx=>?_⟩
   ·rw[lM];have e0:(cellOf env n:Sem Addr)=pure c:=by unfold cellOf;rw[hc]
    simp only[hk,if_true,e0];exact e
   ·rcases bG.mp hy with rfl | hy
    ·exact p3 n ⟨c,Za⟩
    ·exact p2 y hy hf
   ·refine p3 x ?_;rw[cK];cases hx':x == n with
    | true=>exact ⟨c,rfl⟩
    | false=>exact hx
  | false=>
   obtain ⟨cl,e,p1,p2,p3⟩:=P5 env r cs (fun y hy=>h1 y (aO _ hy)) h2;refine ⟨cl,?_,p1,fun y hy hf=>?_,p3⟩
   ·rw[lM];simp only[hk,bN,if_false];exact e
   ·rcases bG.mp hy with rfl | hy
    ·rw[show k=iP from hf] at hk;cases hk
    ·exact p2 y hy hf
variable {scope:mW}{env:iW}
theorem O8(h:∀ y∈scope.names,y.2 = .free->∃ c,env.cells.lookup y.1=ξ c) :
  ∃ cl,closureFor scope env=pure cl/\(∀ x c,cl.lookup x=ξ c->env.cells.lookup x=ξ c)/\∀ y∈scope.names,y.2 = .free->∃ c,cl.lookup y.1=ξ c:=by
 obtain ⟨cl,e,p1,p2,_⟩:=P5 env scope.names [] h (fun x c e=>by simp at e);refine ⟨cl,?_,p1,p2⟩;unfold closureFor;show (forIn scope.names [] _ >>= fun cs=>pure cs)=pure cl;have:(forIn scope.names ([]:List (Str×Addr)) (fun (x:Str×jZ) (r:List (Str×Addr))=>if (x.2 == iP)=true then do let c <- cellOf env x.1;pure (iO ((x.1,c)::r)) else pure (iO r)):Sem (List (Str×Addr))) >>= (fun cs=>pure cs)=pure cl:=by rw[e];rfl
 exact this
def blk(X:Cx)(scope:mW)(cl:List (Str×Addr))(C:Addr)(N':List Str)(s2:aN)(H2:Hp)(fp:List Addr)(pins:List (Addr×Obj)):Cx:=
 { X with env:=compEnvC scope cl C X.env,N:=N',s₀:=s2,H₀:=H2,outer:=X.stack,ex:=fp,fn:=fun _=>false,pn:=X.pn++pins,xe:=fun _ _=>False }
theorem HOk.adopt{P:cC}{w:cM}{h:Heap}(x:HOk P w H h)(hn:H a=ψ)(new:ObjOk P w (upd H a o) h a o):HOk P w (upd H a o) h:=fun b u e=>by
 by_cases hb:b=a
 ·subst hb;rw[upd_same] at e;cases e;exact new
 ·rw[Bq hb] at e;exact (x b u e).stay (fun c v _ q=>q) (fun c q=>by rw[Bq (B4 q hn)];exact q) fun c xs q=>by rw[Bq (B4 q hn)];exact q
theorem Un.adopt{fs ex:List Addr}{h h1:Heap}(u:Un fs ex H H1 h h1)(hn:H1 a=ψ)(ha:h.get? a=ψ):Un fs ex H (upd H1 a o) h h1 where
 keep:=u.keep
 slot:=u.slot
 free:=fun b ob q n hx=>by
  have:b≠a:=fun z=>by rw[z,ha] at q;cases q
  rw[Bq this];exact u.free b ob q n hx
 there:=u.there
 tups:=fun b xs q=>by have q':=u.tups b xs q;rw[Bq (B4 q' hn)];exact q'
 frzs:=fun b ob xs q=>by have q':=u.frzs b ob xs q;rw[Bq (B4 q' hn)];exact q'
 tbls:=fun b ps q=>by
  obtain ⟨m,q'⟩:=u.tbls b ps q;exact ⟨m,by rw[Bq (B4 q' hn)];exact q'⟩
structure CompSc(X:Cx)(scope:mW)(N':List Str)(ix:List Zaq):Prop where
 kind:scope.kind = .function
 cell:(scope.names.all fun y=>y.2 != .cell)=true
 loc:(scope.names.all fun y=>y.2 != .local || scope.names.lookup y.1 == ξ .local)=true
 free:(scope.names.all fun y=>y.2 != .free || (X.env.kindOf y.1 == ξ .cell || X.env.kindOf y.1 == ξ .free))=true
 ixs:((N'.zip ix).all fun p=>match p.2 with | none=>true | some i=>(X.N[i]? == ξ p.1)&&(scope.names.lookup p.1 == ξ .free))=true
 len:N'.length=ix.length
def inner(ix:List Zaq)(σ:L2.St):L2.St:=ix.map fun o=>o.bind fun i=>(σ[i]?).join
def Al7(J:It)(g:TG)(tt:TT)(te:TE)(σ':L2.St)(H:Hp)(Fin:List V->Hp->Prop):Prop:=∃ W:Nat->Nat->List V->L2.St->Hp->Prop,(∃ m,W 0 m [] σ' H)/\∀ i m acc σ1 H1,W i m acc σ1 H1 ->
 (J.stop i H1/\Fin acc H1)\/(J.go i H1/\∀ x H3,J.yld i H1 x H3->g x σ1 H3 fun σ2 H4=>tt σ2 H4 fun b H5=>
  if b=true then te σ2 H5 fun y H6=>acc.length < sizeLine/\∃ m',m' < m/\W (i+1) m' (acc++[y]) σ2 H6 else ∃ m',m' < m/\W (i+1) m' acc σ2 H5)
variable {N':List Str}{ix:List Zaq}{cl:List (Str×Addr)}{fp:List Addr}
section
variable {s2:aN}
theorem Jk{β:Type}{v:β}:∀ {l:List (Str×β)},l.lookup x=ξ v->(x,v)∈l
 | [],h=>by simp at h
 | (n,k)::r,h=>by
  rw[cK] at h;cases hx:x == n with
  | true => rw [hx] at h; simp at h; have : x = n := by simpa using hx
            subst this;subst h;exact aU ..
  | false=>rw[hx] at h;exact aO _ (Jk h)
theorem Jg{env:iW}{x:Str}:∀ {names:List (Str×jZ)} {k:jZ},(names.map fun (n,k)=>if ZaN then (n,qB) else (n,k)).lookup x=ξ k ->
  names.lookup x=ξ k\/(names.lookup x=ξ .free/\k = .cell)
 | [],k,h=>by simp at h
 | (n,k')::r,k,h=>by
  have ih:=@Jg env x r k;rw[aI] at h;cases hx:x == n with
  | true=>
   rw[cK,hx];simp only at h ⊢;split at h
   ·rename_i hc;rw[cK,hx] at h;simp at h;simp only[bY] at hc;have:k' = .free:=by simpa using hc.1.1
    subst this;exact .inr ⟨rfl,h.symm⟩
   ·rw[cK,hx] at h;exact .inl h
  | false=>
   rw[cK,hx];simp only at h ⊢;split at h
   ·rw[cK,hx] at h;exact ih h
   ·rw[cK,hx] at h;exact ih h
theorem Ic{env:iW}{x:Str}:∀ {names:List (Str×jZ)},names.lookup x=ξ .free ->
  (names.map fun (n,k)=>if ZaN then (n,qB) else (n,k)).lookup x=ξ .free\/(names.map fun (n,k)=>if ZaN then (n,qB) else (n,k)).lookup x=ξ .cell
 | [],h=>by simp at h
 | (n,k')::r,h=>by
  have ih:=@Ic env x r;rw[aI];cases hx:x == n with
  | true=>
   rw[cK,hx] at h;simp at h;subst h;simp only;split
   ·right;rw[cK,hx]
   ·left;rw[cK,hx]
  | false=>
   rw[cK,hx] at h;have:=ih h;simp only;split
   ·rw[cK,hx];exact this
   ·rw[cK,hx];exact this
theorem Akp(S:CompSc X scope N' ix)(hcalm:X.calm=true)(I2:Inv X pins σ H2 s2)(hcl:∀ x c,cl.lookup x=ξ c->X.env.cells.lookup x=ξ c)(hcl2:∀ y∈scope.names,y.2 = .free->∃ c,cl.lookup y.1=ξ c)
  (f2:∀ b∈fp,Ml X pins H2 b) (hfp:∀ b∈fp,b < s2.heap.objs.size) {C:Addr} {h4:Heap} {m:Str->Option aH} {t4:Nat} (hC:s2.heap.objs.size<=C) (hns:h4.Ns C m) (keep:∀ b o,s2.heap.get? b=ξ o->h4.get? b=ξ o) :
  Inv Zj [] (inner ix σ) H2 { s2 with heap:=h4,toks:=t4 }:=by
 have hkindC:(relabel scope X.env).kind = .function:=S.kind;have ok:(blk X scope cl C N' s2 H2 fp pins).Ok:=
  { mod:=I2.ok.mod
    kind:=hkindC
    glob:=I2.ok.glob
    blt:=I2.ok.blt
    above:=hC
    inj:=fun x y c e1 e2=>I2.ok.inj x y c (hcl x c e1) (hcl y c e2)
    has:=fun x h=>by
     have h':(relabel scope X.env).names.lookup x=ξ .cell\/(relabel scope X.env).names.lookup x=ξ .free:=h;have hfree:scope.names.lookup x=ξ .free:=by
      rcases h' with h' | h'
      ·rcases Jg h' with q | ⟨q,_⟩
       ·have:=bQ.mp S.cell _ (Jk q);simp at this
       ·exact q
      ·rcases Jg h' with q | ⟨q,z⟩
       ·exact q
       ·cases z
     exact hcl2 _ (Jk hfree) rfl
    cab:=fun x c h=>by cases h
    hd:=fun _=>I2.ok.hd hcalm
    frames:=I2.ok.frames
    stk:=.inl rfl
    exf:=fun b hb=>⟨cF (bC (hfp b hb) hC),fun x c e=>(f2 b hb).2.2.2.2.1 x c (hcl x c e)⟩
    bs:=fun b o e=>I2.bs b o e
    bsz:=bW I2.ok.bsz I2.sz
    noex:=fun b o e hb=>by
     rcases (f2 b hb).2.2.2.1 with z | z
     ·exact I2.ok.noex b o e z
     ·exact absurd (bC (aY (I2.ok.bs b o e).1) z) (eK _)
    exfs:=fun b hb z=>by
     rcases bG.mp (I2.stkSub b z) with q | q
     ·exact (f2 b hb).2.1 q
     ·exact (f2 b hb).2.2.1 q
    funs:=I2.stack
    frf:=I2.stkFree }
 obtain ⟨m0,hn0,hl0⟩:=id I2.loc;refine ⟨ok,rfl,I2.bare,Un.kept keep,⟨m,hns,fun j x v e1 e2 e3=>?_⟩,fun x c e=>?_,I2.hok.fresh hC,fun x c e=>I2.freeC x c (hcl x c e),fun p hp=>?_,I2.hok.kept keep,?_⟩
 ·-- a name that the block takes along
  have e1':N'[j]? = ξ x:=e1;have e2':(inner ix σ)[j]? = ξ (ξ v):=e2;unfold inner at e2';rw[bD] at e2';cases hx:ix[j]? with
  | none=>rw[hx] at e2';simp at e2'
  | some o=>
   rw[hx] at e2';cases o with
   | none=>simp at e2'
   | some i=>
    simp at e2';have hz:(x,ξ i)∈N'.zip ix:=dN (i:=j) (by rw[List.getElem?_zip_eq_some];exact ⟨e1',hx⟩)
    have hz':=bQ.mp S.ixs _ hz;simp only[bY,beq_iff_eq] at hz';obtain ⟨hXN,hfr⟩:=hz';have hσ:σ[i]? = ξ (ξ v):=by
     cases q:σ[i]? with
     | none=>rw[q] at e2';simp at e2'
     | some o=>rw[q] at e2';simp at e2';rw[e2']
    have hk:=bQ.mp S.free _ (Jk hfr);simp at hk;have hvis:Vis X.env.scope x:=by
     rcases hk with q | q
     ·exact .inr (.inl q)
     ·exact .inr (.inr q)
    obtain ⟨u,r,look⟩:=hl0 i x v hXN hσ hvis;rcases look with ⟨q,_⟩ | ⟨_,c,ec,hc⟩
    ·rcases hk with z | z
     ·rw[z] at q;cases q
     ·rw[z] at q;cases q
    ·obtain ⟨c',ec'⟩:=hcl2 _ (Jk hfr) rfl;have:c'=c:=by have:=hcl x c' ec';rw[ec] at this;cases this;rfl
     subst this;refine ⟨u,r,.inr ⟨?_,c',ec',?_⟩⟩
     ·rcases Ic (env:=X.env) hfr with q | q
      ·exact .inr q
      ·exact .inl q
     ·obtain ⟨oc,ho,hd⟩:=hc;exact ⟨oc,keep _ _ ho,hd⟩
 ·obtain ⟨v,oc,ho,hd⟩:=I2.cell x c (hcl x c e);exact ⟨v,oc,keep _ _ ho,hd⟩
 ·have hp':p∈X.pn++pins:=by simpa[blk] using hp
  obtain ⟨q1,q2,q3,q4,q5⟩:=I2.pin p hp';refine ⟨keep _ _ q1,q2,cF (bC (aY q1) hC),fun z=>?_,q5⟩;rcases bG.mp (I2.stkSub p.1 z) with q | q
  ·exact q3 q
  ·exact q4 q
 ·show (inner ix σ).length=N'.length;rw[S.len];simp[inner]
end
variable {X':Cx}{tt:TT}{elt:Expr}{ifs:List Expr}{te:TE}
section
variable {s2:aN}
def Yc(X':Cx)(ifs:List Expr)(tt:TT):Prop:=∀ (pins:List (Addr×Obj)) (s:aN) (σ:L2.St) (H:Hp) (Q:Bool->Hp->Prop) (E:aH->aN->Prop),Inv X' pins σ H s->tt σ H Q->(∀ e s,X'.xe e s->E e s) ->
 wpAny (model X'.prog X'.w) X'.A (forIn ifs true fun c r=>if r=true then do let ok <- isTrue c X'.env (eval c X'.env);pure (iO ok) else pure (iO r)) (TP X' pins σ Q) E s
def Avr:TT:=fun _ H Q=>Q true H
theorem Ajk:Yc X' [] Avr:=fun pins s σ H Q E I h _=>wpAny_tests_nil ⟨H,I,h⟩
theorem Xm(h:PT X' c tt):Yc X' [c] tt:=fun pins s σ H Q E I q hE=>wpAny_tests_one (eR (h pins s σ H Q I q) (fun _ _ z=>z) hE)
noncomputable def En(its:List aH)(n:Nat):Obj:={ cls:=.type "list",data:=.seq its.toArray n }
theorem Ajg{elt tg iter:Expr}{ifs:List Expr}{pos:Pos}{it D C:Addr}{J:It}{tn:Nat->Heap->Prop}{g:TG}{tt:TT}{te:TE}{Fin:List V->Hp->Prop}{R:Result->aN->Prop}{X':Cx}
  (hX:X'.A=X.A/\X'.prog=X.prog/\X'.w=X.w/\X'.K=X.K/\X'.calm=true/\∀ e s,¬ X'.xe e s) (T:Turn X.prog X.w X.K tg J fp it tn) (hg:PG X' tg g) (ht:Yc X' ifs tt) (he:PE X' elt te)
  (hD1:s2.heap.objs.size<=D) (hDC:D≠C) (hC:s2.heap.objs.size<=C) (hfp:∀ b∈fp,Ml X' [] H2 b/\b≠D) (hDf:∀ H,H D=ψ->Ml X' [] H D)
  {s:aN} {σ1:L2.St} {H1:Hp} {n0:Nat} (I:Inv X' [(D,En [] n0)] σ1 H1 s) (st:tn 0 s.heap) (fr:∀ b∈fp,H1 b=ψ) (hloop:Al7 J g tt te σ1 H1 Fin)
  (hR:∀ (s':aN) (σ':L2.St) (H':Hp) (acc:List V) (its:List aH) (n:Nat),Inv X' [(D,En its n)] σ' H' s'->Vals acc its->acc.length<=sizeLine->Fin acc H'->R (.ok .next) s') :
  kT Zf X.A (.compLoop Zv 0 (.ref it) (.ref D) X'.env) R s:=by
 obtain ⟨W,⟨m0,w0⟩,turn⟩:=hloop;obtain ⟨hXA,hXp,hXw,hXK,hXc,hxe⟩:=hX;have hfpo:∀ (o:Obj) (H:Hp),(∀ b∈fp,H b=ψ)->∀ b∈fp,Ml X' [(D,o)] H b:=fun o H hn b hb=>by
  obtain ⟨⟨_,q1,q2,q3,q4,q5⟩,q6⟩:=hfp b hb;refine ⟨hn b hb,q1,q2,q3,q4,fun p hp=>?_⟩;rcases cT.mp hp with z | z
  ·exact q5 p (eU _ z)
  ·have:p=(D,o):=by simpa using z
   rw[this];exact fun z=>q6 z.symm
 refine codeAny_loop rfl (fun n s=>∃ i acc its k σ1 H1,Inv X' [(D,En its k)] σ1 H1 s/\Vals acc its/\acc.length<=sizeLine/\tn i s.heap/\(∀ b∈fp,H1 b=ψ)/\W i n acc σ1 H1) (fun n s hI=>?_) m0 ⟨0,[],[],n0,σ1,H1,I,.nil,eG _,st,fr,w0⟩;show wpAny _ X.A ((compTurn Zv 0 (.ref it) (.ref D) X'.env).onRaise (fun x=>do noteFrame x X'.env;theTreesLotGoes x)) _ _ s;refine wpAny_noted ?_;rw[compTurn_list];obtain ⟨i,acc,its,k,σ1,H1,I,hv,hz,st,fr,w1⟩:=hI;refine aD (kR (aD ?_));rcases turn i n acc σ1 H1 w1 with ⟨stop,fin⟩ | ⟨go,step⟩
 ·have h:=T.done X' hXp hXw hXK hXc i _ s σ1 H1 Zbs I (hfpo _ H1 fr) st stop;rw[hXA] at h;refine thn h fun r s4 zz=>?_
  obtain ⟨hr,I4⟩:=zz;subst hr;exact bB (hR s4 σ1 H1 acc its k I4 hv hz fin)
 ·have h:=T.item X' hXp hXw hXK hXc i _ s σ1 H1 Zbs I (hfpo _ H1 fr) st go;rw[hXA] at h;refine thn h fun r s4 zz=>?_
  obtain ⟨u,hr,h4⟩:=zz;subst hr;refine aD (thn h4 fun _ s5 zz=>?_);obtain ⟨x,H5,I5,r5,y5,st5,fr5⟩:=zz;have I5':=I5.pinned (hfpo _ H5 fr5) (T.obj _ _ st5);have hg5:=hg _ s5 σ1 H5 x u _ I5' r5 (step x H5 y5);rw[hXp,hXw,hXA] at hg5;refine aD (eR hg5 (fun _ s6 zz=>?_) fun e s z=>absurd z (hxe e s));obtain ⟨σ6,H6,I6,q6⟩:=zz;have ht6:=ht _ s6 σ6 H6 _ Zbs I6 q6 (fun e s z=>absurd z (hxe e s));rw[hXp,hXw,hXA] at ht6;refine aD (thn ht6 fun b s7 zz=>?_);obtain ⟨H7,I7,q7⟩:=zz;have back:∀ {σ8:L2.St} {H8:Hp} {s8:aN},Inv X' ([(D,En its k)]++Wu fp s5.heap) σ8 H8 s8->tn (i+1) s8.heap/\(∀ b∈fp,H8 b=ψ)/\s8.heap.get? D=ξ (En its k)/\H8 D=ψ:=fun {σ8 H8 s8} I8=>by
   refine ⟨T.keep _ _ _ st5 fun b hb o e=>(I8.pin (b,o) ZcP).1,fun b hb=>?_,?_,?_⟩
   ·obtain ⟨o,e,d⟩:=T.obj _ _ st5 b hb;exact (I8.pin (b,o) ZcP).2.1
   ·exact (I8.pin (D,En its k) (bK _ (eU _ (cR.mpr rfl)))).1
   ·exact (I8.pin (D,En its k) (bK _ (eU _ (cR.mpr rfl)))).2.1
  cases b with
  | false=>
   obtain ⟨m',hm,w8⟩:=(q7:if false=true then _ else _);obtain ⟨st8,fr8,_,_⟩:=back I7;refine bB ⟨rfl,m',hm,i+1,acc,its,k,σ6,H7,?_,hv,hz,st8,fr8,w8⟩;exact I7.pins_of fun p hp=>I7.pin p (bK _ (eU _ hp))
  | true=>
   have q7':te σ6 H7 fun y H6=>acc.length < sizeLine/\∃ m',m' < n/\W (i+1) m' (acc++[y]) σ6 H6:=q7
   have he7:=he _ s7 σ6 H7 _ I7 q7';rw[hXp,hXw,hXA] at he7;refine aD (aD (eR he7 (fun y s8 zz=>zz.elim fun v H8 I8 r8 zq=>?_) fun e s z=>absurd z (hxe e s)));obtain ⟨hlt,m',hm,w8⟩:=zq;obtain ⟨st8,fr8,hDo,hDn⟩:=back I8;have hlen:=hv.length;have hisl:s8.heap.IsList D its.toArray:=⟨_,hDo,rfl,k,rfl⟩;refine aD ?_;obtain ⟨k',hd'⟩:∃ k',bR (·.push y) (En its k)=En (its++[y]) k':=⟨_,by simp[En,bR];rfl⟩;refine fM slot_list_append hisl.typeIs entry_list_append ?_ (args_list_append _ _);show wpAny _ _ (updateSeq D (·.push y) >>= fun _=>ret .none) _ _ s8;refine aD (wpAny_updateSeq hDo rfl (bB ⟨.none,rfl,?_⟩));have hk9:∀ b o,b≠D->s8.heap.get? b=ξ o->(s8.heap.update D (bR (·.push y))).get? b=ξ o:=fun b o hb e=>(eE (h:=s8.heap) (a:=D) ..).2 b hb |>.trans e
   have hD9:(s8.heap.update D (bR (·.push y))).get? D=ξ (En (its++[y]) k'):=by
    rw[<- hd'];exact kE _ hDo (by rw[hd'];exact Obj.isFreed_of_seq (xs:=(its++[y]).toArray) (n:=k') rfl)
   have I8':Inv X' [] σ6 H8 s8:=I8.pins_of fun p hp=>by cases hp
   obtain ⟨d0,d1,d2,d3,d4,d5⟩:=hDf H8 hDn;have I9:Inv X' [] σ6 H8 { s8 with heap:=s8.heap.update D (bR (·.push y)) }:=I8'.turned (t':=s8.toks) hk9 hDn d1 d3 d4 d5;have I10:=I9.pins_of (pins':=[(D,En (its++[y]) k')]) fun p hp=>by
    have:p=(D,En (its++[y]) k'):=by simpa using hp
    subst this;exact ⟨hD9,hDn,d1,d2,fun v z=>by simp[En] at z⟩
   refine bB (bB ⟨rfl,m',hm,i+1,acc++[v],its++[y],k',σ6,H8,I10,Vals.append hv (.cons r8 .nil),by rw[bV];simp;omega,?_,fr8,w8⟩);refine T.keep _ _ _ st8 fun b hb o e=>hk9 b o (hfp b hb).2 e
end
section
def Aoz(ix:List Zaq)(wi:TI)(g:TG)(tt:TT)(te:TE):TE:=fun σ H Q=>wi σ H fun J H1=>Al7 J g tt te (inner ix σ) H1 fun acc H2=>∀ p,H2 p=ψ->Q (.ref p) (upd H2 p (.lst acc))
theorem Xz{elt tg iter:Expr}{ifs:List Expr}{pos:Pos}{g:TG}{tt:TT}{te:TE}{pins:List (Addr×Obj)}{σ:L2.St}{H2:Hp}{s2:aN}{cl:List (Str×Addr)}{fp:List Addr}{it:Addr}{J:It}{tn:Nat->Heap->Prop}{E:aH->aN->Prop}{Fin:List V->Hp->Prop}{RR:aH->Addr->Result->aN->Prop}
  (S:CompSc X scope N' ix) (hcalm:X.calm=true) (hcl:∀ x c,cl.lookup x=ξ c->X.env.cells.lookup x=ξ c) (hcl2:∀ y∈scope.names,y.2 = .free->∃ c,cl.lookup y.1=ξ c)
  (hg:∀ C,PG Zj tg g) (ht:∀ C,Yc Zj ifs tt) (he:∀ C,PE Zj elt te)
  (I2:Inv X pins σ H2 s2) (T:Turn X.prog X.w X.K tg J fp it tn) (st2:tn 0 s2.heap) (f2:∀ b∈fp,Ml X pins H2 b) (hloop:Al7 J g tt te (inner ix σ) H2 Fin)
  (hRR:∀ (D C:Addr) (s':aN) (H':Hp) (acc:List V),Inv X pins σ Zbt s'->H' D=ψ->(∃ m,s'.heap.Ns C m)->(upd H' D (.lst acc)) C=ψ->Ml X pins Zbt C->Fin acc H'->RR (.ref D) C (.ok .next) s') :
  wpAny Zf X.A (newList []) (fun acc s₃=>wpAny Zf X.A (newFunctionEnv scope X.env.globals cl [] X.env.qual ψ .none (ξ X.env)) (fun cenv s₄=>
   kT Zf X.A (.compStart Zv 0 (.ref it) acc { cenv with scope:=relabel scope X.env }) (RR acc cenv.locals) s₄) E s₃) E s2:=by
 have hcell:∀ y∈scope.names,y.2≠.cell:=fun y hy z=>by
  have:=bQ.mp S.cell y hy;rw[z] at this;simp at this
 refine eJ (wpAny_newFunctionEnv hcell (by intro y hy;simp at hy) (fun h₁ hns₁ hsb₁=>?_) S.kind);dsimp only at hns₁ hsb₁ ⊢;generalize hH2:s2.heap.push { cls:=.type "list",dict:=ψ,data:=.seq ([]:List aH).toArray } = HP at hns₁ hsb₁ ⊢;have hCs:HP.objs.size=s2.heap.objs.size+1:=by rw[<- hH2,dR]
 have hDC:s2.heap.objs.size≠HP.objs.size:=by rw[hCs];exact cF (gO _)
 have hCle:s2.heap.objs.size<=HP.objs.size:=by rw[hCs];exact mX _
 have old:∀ b o,s2.heap.get? b=ξ o->h₁.get? b=ξ o:=fun b o e=>hsb₁.extBut b o (cF (bC (aY e) hCle)) (aC _ (hH2 ▸ aC _ e))
 have hacc:h₁.get? s2.heap.objs.size=ξ (En [] 0):=hsb₁.extBut _ _ hDC (aC _ (hH2 ▸ aX _ rfl));have hfp:∀ b∈fp,b < s2.heap.objs.size:=fun b hb=>by
  obtain ⟨o,e,_⟩:=T.obj _ _ st2 b hb;exact aY e
 generalize hDg:s2.heap.objs.size=D at hDC hacc;generalize hCg:HP.objs.size=C at *;have hDle:s2.heap.objs.size<=D:=qS hDg;have hD2:s2.heap.get? D=ψ:=by
  cases q:s2.heap.get? D with
  | none=>rfl
  | some o=>exact absurd (bC (aY q) hDle) (eK _)
 have I4:=Akp (t4:=s2.toks+([]:List (Str×aH)).length) S hcalm I2 hcl hcl2 f2 hfp hCle hns₁ old;have above:∀ a,s2.heap.objs.size<=a->a∉frs X.stack/\(∀ x c,X.env.cells.lookup x=ξ c->c≠a)/\(∀ p∈X.pn++pins,p.1≠a)/\a≠X.env.locals:=fun a ha=>by
  refine ⟨fun z=>?_,fun x c e z=>?_,fun p hp z=>?_,?_⟩
  ·rcases bG.mp (I2.stkSub a z) with q | q
   ·exact absurd (bC I2.lt (q ▸ ha)) (eK _)
   ·exact I2.nofs ha q
  ·obtain ⟨v,q⟩:=I2.cell x c e;exact absurd (bC q.lt (z ▸ ha)) (eK _)
  ·exact absurd (bC (aY (I2.pin p hp).1) (z ▸ ha)) (eK _)
  ·intro z;exact absurd (bC I2.lt (z ▸ ha)) (eK _)
 have hfpX:∀ b∈fp,Ml Zj [] H2 b/\b≠D:=fun b hb=>by
  obtain ⟨q0,q1,q2,q3,q4,q5⟩:=f2 b hb;have hlt:=hfp b hb;refine ⟨⟨q0,cF (bC hlt hCle),fun z=>?_,.inl hb,fun x c e=>q4 x c (hcl x c e),fun p hp=>q5 p (by simpa[blk] using hp)⟩,cF (bC hlt hDle)⟩;rcases bG.mp (I2.stkSub b z) with q | q
  ·exact q1 q
  ·exact q2 q
 have hDf:∀ H:Hp,H D=ψ->Ml Zj [] H D:=fun H hn=>by
  obtain ⟨a1,a2,a3,a4⟩:=above D hDle;exact ⟨hn,hDC,a1,.inr hDle,fun x c e=>a2 x c (hcl x c e),fun p hp=>a3 p (by simpa[blk] using hp)⟩
 have hDn2:H2 D=ψ:=I2.hok.fresh hDle;have I5:Inv Zj [(D,En [] 0)] (inner ix σ) H2 { s2 with heap:=h₁,toks:=s2.toks+([]:List (Str×aH)).length }:=I4.pins_of fun p hp=>by
  have:p=(D,En [] 0):=by simpa using hp
  subst this;obtain ⟨_,d1,d2,_⟩:=hDf H2 hDn2;exact ⟨hacc,hDn2,d1,d2,fun v z=>by simp[En] at z⟩
 have st5:tn 0 h₁:=T.keep _ _ _ st2 fun b _ o e=>old b o e
 have loop:kT Zf X.A (.compLoop Zv 0 (.ref it) (.ref D) (blk X scope cl C N' s2 H2 fp pins).env) (RR (.ref D) C) { s2 with heap:=h₁,toks:=s2.toks+([]:List (Str×aH)).length }:=by
  refine Ajg (X':=blk X scope cl C N' s2 H2 fp pins) ⟨rfl,rfl,rfl,rfl,hcalm,fun _ _ z=>z⟩ T (hg C) (ht C) (he C) hDle hDC hCle hfpX hDf I5 st5 (fun b hb=>(f2 b hb).1) hloop ?_;intro s' σ' H' acc its n I hv hz fin;obtain ⟨hDo,hDn,_⟩:=I.pin (D,En its n) (bK _ (cR.mpr rfl));have hbase:Un (frs X.stack) fp H2 H' s2.heap s'.heap:=I.base;have hok:HOk X.prog X.w Zbt s'.heap:=HOk.adopt I.hok hDn ⟨hz,its,n,hv,hDo⟩;have IX:Inv X pins σ Zbt s':=I2.call' I.os (Un.adopt hbase hDn hD2) hok I.bare fun b hb=>⟨(f2 b hb).2.2.2.1,(f2 b hb).2.1,(f2 b hb).2.2.2.2.1,(f2 b hb).2.2.2.2.2⟩
  obtain ⟨m,hm,_⟩:=I.loc;have hCn:(upd H' D (.lst acc)) C=ψ:=by rw[Bq (gY hDC)];exact I.free
  obtain ⟨a1,a2,a3,a4⟩:=above C hCle;refine hRR D C s' H' acc IX hDn ⟨m,hm⟩ hCn ⟨hCn,a4,fun z=>?_,.inr (bW I2.sz hCle),a2,a3⟩ fin;exact I2.nofs hCle z
 have e1:({ newEnv scope C X.env.globals cl X.env.qual ψ .none (ξ X.env) qH with scope:=relabel scope X.env }:iW)=(blk X scope cl C N' s2 H2 fp pins).env:=rfl;exact codeAny_compStart_list loop (T.self _ 0 _ _ _ st5 loop)
theorem CompSc.names(S:CompSc X scope N' ix):∀ x∈scope.names,x.2 = .local->scope.names.lookup x.1=ξ .local:=fun x hx hl=>by
 have:=bQ.mp S.loc x hx;rw[hl] at this;simpa using this
theorem CompSc.clos(S:CompSc X scope N' ix)(ok:X.Ok):∃ cl,closureFor scope X.env=pure cl/\(∀ x c,cl.lookup x=ξ c->X.env.cells.lookup x=ξ c)/\∀ y∈scope.names,y.2 = .free->∃ c,cl.lookup y.1=ξ c:=by
 refine O8 fun y hy hf=>?_
 have:=bQ.mp S.free y hy;rw[hf] at this;simp at this;exact ok.has y.1 this
theorem Ahg{elt tg iter:Expr}{ifs:List Expr}{pos:Pos}{wi:TI}{g:TG}{tt:TT}{te:TE}(S:CompSc X scope N' ix)(hcalm:X.calm=true)(hi:PI X tg iter wi)
  (hg:∀ cl C s2 H2 fp pins,PG Zj tg g) (ht:∀ cl C s2 H2 fp pins,Yc Zj ifs tt) (he:∀ cl C s2 H2 fp pins,PE Zj elt te)
  (hs:∀ x,foldedSetIterable iter X.env x=pure x:=by intro _;rfl):PE X Zv (Aoz ix wi g tt te):=by
 intro pins s σ H Q I h;obtain ⟨cl,hclos,hcl,hcl2⟩:=S.clos I.ok;rw[eval_ListComp];refine nG (use:=ψ) rfl hs hclos S.kind S.names (thn (hi pins s σ H _ I h) fun v s1 h1=>thn h1 fun itv s2 h2=>?_);obtain ⟨it,fp,tn,J,H2,e,I2,T,st2,f2,loop⟩:=h2;subst e;refine Xz (RR:=fun acc C=>compPost Zf X.A X.xe ψ (EP X pins σ Q) acc C) S hcalm hcl hcl2 (fun C=>hg cl C s2 H2 fp pins) (fun C=>ht cl C s2 H2 fp pins) (fun C=>he cl C s2 H2 fp pins) I2 T st2 f2 loop ?_;intro D C s' H' acc IX hDn ⟨m,hm⟩ hCn hC fin;refine ⟨m,hm,fun h' hsb=>?_⟩;obtain ⟨c0,c1,c2,c3,c4,c5⟩:=hC;exact ⟨.ref D,_,IX.turned (t':=s'.toks) (fun b o hb e=>hsb.2 b hb |>.trans e) c0 c1 c3 c4 c5,rfl,fin D hDn⟩
theorem Ap0{i:Nat}{y:Str}{py spos:Pos}{elt tg iter:Expr}{ifs:List Expr}{pos:Pos}{wi:TI}{g:TG}{tt:TT}{te:TE}(hN:X.N.Nodup)(hiN:X.N[i]? = ξ y)(hx:Loc X.env.scope y)(hf:X.fn y=true\/X.env.scope.names.lookup y=ξ .local)
  (S:CompSc X scope N' ix) (hcalm:X.calm=true) (hi:PI X tg iter wi)
  (hg:∀ cl C s2 H2 fp pins,PG Zj tg g) (ht:∀ cl C s2 H2 fp pins,Yc Zj ifs tt) (he:∀ cl C s2 H2 fp pins,PE Zj elt te)
  (hsw:swapsWith Zv (ξ (.Name y py)) spos.line X.env=pure true)
  (hs:∀ x,foldedSetIterable iter X.env x=pure x:=by intro _;rfl):PS X (.Assign [.Name y py] Zv spos) (Apx (Aoz ix wi g tt te) (Ab5 i)):=by
 intro pins s σ H Dn I h;obtain ⟨cl,hclos,hcl,hcl2⟩:=S.clos I.ok;rw[exec_Assign_Name_used _ _ _ _ hsw];refine aD (kR (aD ?_));show wpAny _ X.A (do let _ <- comprehension Zv scope X.env _ (newList []) false (eval iter X.env) (ξ ZdE)) _ _ s;refine aD (eR (nG (Q:=fun _ s'=>SP X pins Dn .next s') (use:=ξ ZdE) rfl hs hclos S.kind S.names (thn (hi pins s σ H _ I h) fun v s1 h1=>thn h1 fun itv s2 h2=>?_)) (fun _ s' hq=>bB (bB hq)) fun _ _ e=>e);obtain ⟨it,fp,tn,J,H2,e,I2,T,st2,f2,loop⟩:=h2;subst e;refine Xz (RR:=fun acc C=>compPost Zf X.A X.xe (ξ ZdE) (fun _ s'=>SP X pins Dn .next s') acc C) S hcalm hcl hcl2 (fun C=>hg cl C s2 H2 fp pins) (fun C=>ht cl C s2 H2 fp pins) (fun C=>he cl C s2 H2 fp pins) I2 T st2 f2 loop ?_;intro D C s' H' acc IX hDn ⟨m,hm⟩ hCn hC fin;obtain ⟨c0,c1,c2,c3,c4,c5⟩:=hC;obtain ⟨oC,es,ep,hoC,hdC,hrest⟩:=id hm;have IP:Inv X (pins++[(C,oC)]) σ Zbt s':=IX.pins_of fun p hp=>by
  rcases cT.mp hp with z | z
  ·exact IX.pin p (bK _ z)
  ·have:p=(C,oC):=by simpa using z
   subst this;exact ⟨hoC,c0,c1,c2,fun v z=>by rw[hdC] at z;cases z⟩
 have hq:Ab5 i (.ref D) σ Zbt Dn.nx:=fin D hDn;refine thn (Aij (i:=i) (pos:=py) hN hiN hx hf (pins++[(C,oC)]) s' σ _ (.ref D) (.ref D) Dn.nx IP rfl hq) fun _ s'' zz=>?_
 obtain ⟨σ'',H'',I'',q''⟩:=zz;obtain ⟨p1,p2,p3,p4,p5⟩:=I''.pin (C,oC) (bK _ (bK _ (cR.mpr rfl)));refine ⟨m,⟨oC,es,ep,p1,hdC,hrest⟩,fun h' hsb=>?_⟩;exact ⟨σ'',H'',(I''.unpinned).turned (t':=s''.toks) (fun b o hb e=>hsb.2 b hb |>.trans e) p2 p3 c3 c4 c5,q''⟩
end
def Ft(tt:Option FT):FT:=fun δ L=>match tt with
 | none=>ξ (true,L)
 | some f=>f δ L
def W6(it:IU)(g:FG)(tt:Option FT)(fe:FE):Nat->Nat->List U->UE->UH->Option (List U×UH)
 | 0,_,_,_,_=>ψ
 | m+1,k,acc,δ,L=>match it.at k L with
  | none=>ψ
  | some ψ=>ξ (acc,L)
  | some (ξ u)=>(g u δ L).bind fun p=>(Ft tt p.1 p.2).bind fun q=>if q.1=true then (fe p.1 q.2).bind fun r=>if decide (acc.length < sizeLine)=true then W6 it g tt fe m (k+1) (acc++[r.1]) p.1 r.2 else ψ
   else W6 it g tt fe m (k+1) acc p.1 q.2
def Ko(ix:List Zaq)(δ:UE):UE:=ix.map fun o=>o.bind fun i=>(δ[i]?).join
def Bv(ix:List Zaq)(fi:FI)(g:FG)(tt:Option FT)(fe:FE):FE:=fun δ L=>(fi δ L).bind fun p=>(W6 p.1 g tt fe (p.1.size p.2+1) 0 [] (Ko ix δ) p.2).map fun q=>(.ref q.2.length,q.2++[.lst q.1])
theorem RepS.inner(S:RepS K H α δ σ)(ix:List Zaq):RepS K H α (Ko ix δ) (MR.inner ix σ):=by
 refine ⟨by simp[Ko,MR.inner],fun j u e=>?_⟩;unfold Ko at e;unfold MR.inner;rw[bD] at e ⊢;cases hx:ix[j]? with
 | none=>rw[hx] at e;simp at e
 | some o=>
  rw[hx] at e;cases o with
  | none=>simp at e
  | some i=>
   simp at e;have:δ[i]? = ξ (ξ u):=by
    cases q:δ[i]? with
    | none=>rw[q] at e;simp at e
    | some o=>rw[q] at e;simp at e;rw[e]
   obtain ⟨v,hv,r⟩:=S.at_ i u this;exact ⟨v,by simp[hv],r⟩
def lTo(K:aF)(tt:Option FT):TT:=match tt with
 | none=>Avr
 | some f=>lT K f
inductive CI(K:aF)(it:IU)(g:FG)(tt:Option FT)(fe:FE)(H1:Hp)(α1:List Addr)(ys:List U)(L2:UH)(k m:Nat)(acc:List V)(σ2:_root_.L2.St)(H2:Hp):Prop
 | mk (α2:List Addr) (δ2:UE) (M:UH) (us:List U) (g2:Gr H1 α1 H2 α2) (A2:Abs K H2 α2 M) (S2:RepS K H2 α2 δ2 σ2) (r2:RepL K H2 α2 us acc) (e:W6 it g tt fe m k us δ2 M=ξ (ys,L2)):CI K it g tt fe H1 α1 ys L2 k m acc σ2 H2
theorem Abj{g:FG}{tt:Option FT}:∀ σ H Q,lE K (Bv ix fi g tt fe) σ H Q->Aoz ix (lI K fi) (lG K g) (lTo K tt) (lE K fe) σ H Q:=by
 rintro σ H Q ⟨α,δ,L,A,S,z,L3,e,q⟩;obtain ⟨⟨it,L1⟩,e1,e⟩:=aA.mp e;obtain ⟨⟨ys,L2⟩,e2,e⟩:=aJ.mp e;cases e;refine ⟨α,δ,L,A,S,it,L1,e1,fun J H1 α1 g1 A1 hJ=>?_⟩;refine ⟨CI K it g tt fe H1 α1 ys L2,⟨_,α1,_,L1,[],.refl _ _,A1,(S.mono g1).inner ix,.nil,e2⟩,?_⟩;rintro k m acc σ2 H2 ⟨α2,δ2,M,us,g2,A2,S2,r2,e3⟩;cases m with
 | zero=>cases e3
 | succ m=>
  obtain ⟨hgo,hstop⟩:=hJ H2 α2 M g2 A2 k;unfold W6 at e3;cases hat:it.at k M with
  | none=>rw[hat] at e3;cases e3
  | some o=>
   cases o with
   | none=>
    rw[hat] at e3;cases e3;refine .inl ⟨hstop hat,fun p hp=>?_⟩;obtain ⟨g3,A3,r3⟩:=A2.lst r2 hp;exact q _ _ _ Za8 A3 r3
   | some u=>
    rw[hat] at e3;obtain ⟨go,yld⟩:=hgo u hat;obtain ⟨⟨δ3,L3⟩,e4,e3⟩:=aA.mp e3;obtain ⟨⟨b,L4⟩,e5,e3⟩:=aA.mp e3;refine .inr ⟨go,fun x H3 y3=>?_⟩;obtain ⟨g3,A3,r3⟩:=yld x H3 y3;refine ⟨α2,δ2,M,u,A3,S2.mono g3,r3,δ3,L3,e4,fun σ4 H4 α4 g4 A4 S4=>?_⟩;have after:∀ H5 α5,Gr H4 α4 H5 α5->Abs K H5 α5 L4->(if b=true then lE K fe σ4 H5 (fun y H6=>acc.length < sizeLine/\∃ m',m' < m+1/\CI K it g tt fe H1 α1 ys L2 (k+1) m' (acc++[y]) σ4 H6) else ∃ m',m' < m+1/\CI K it g tt fe H1 α1 ys L2 (k+1) m' acc σ4 H5):=fun H5 α5 g5 A5=>by
     have gA:=g2.trans (g3.trans (g4.trans g5));have gB:=g3.trans (g4.trans g5);cases b with
     | false=>exact Aau ⟨m,gO _,α5,δ3,L4,us,gA,A5,S4.mono g5,r2.mono gB,e3⟩
     | true=>
      obtain ⟨⟨w,L5⟩,e6,e3⟩:=aA.mp e3;simp only at e3;split at e3
      ·rename_i hlt;refine Abb ⟨α5,δ3,L4,A5,S4.mono g5,w,L5,e6,fun y H6 α6 g6 A6 r6=>?_⟩;exact ⟨by rw[<- r2.length];exact of_decide_eq_true hlt,m,gO _,α6,δ3,L5,us++[w],gA.trans g6,A6,(S4.mono g5).mono g6,(r2.mono (gB.trans g6)).append (.cons r6 .nil),e3⟩
      ·cases e3
    cases tt with
    | none=>
     cases e5;exact after H4 α4 (.refl _ _) A4
    | some f=>exact ⟨α4,δ3,L3,A4,S4,b,L4,e5,fun H5 α5 g5 A5=>after H5 α5 g5 A5⟩
section
variable {g:FG}{ft:FT}
theorem Dy(S:CompSc X scope N' ix)(hcalm:X.calm=true)(hi:PIF X tg iter fi)(hg:∀ cl C s2 H2 fp pins,PGF Zj tg g)(he:∀ cl C s2 H2 fp pins,PEF Zj elt fe)
  (hs:∀ x,foldedSetIterable iter X.env x=pure x:=by intro _;rfl):PEF X (.ListComp elt [⟨tg,iter,[],0⟩] scope pos) (Bv ix fi g ψ fe):=
 PE.imp (Ahg (g:=lG X.K g) (te:=lE X.K fe) (tt:=Avr) S hcalm hi hg (fun _ _ _ _ _ _=>Ajk) he hs) Abj
theorem Kv(S:CompSc X scope N' ix)(hcalm:X.calm=true)(hi:PIF X tg iter fi)(hg:∀ cl C s2 H2 fp pins,PGF Zj tg g)(ht:∀ cl C s2 H2 fp pins,PTF Zj c ft)(he:∀ cl C s2 H2 fp pins,PEF Zj elt fe)
  (hs:∀ x,foldedSetIterable iter X.env x=pure x:=by intro _;rfl):PEF X Zby (Bv ix fi g (ξ ft) fe):=
 PE.imp (Ahg (g:=lG X.K g) (te:=lE X.K fe) (tt:=lT X.K ft) S hcalm hi hg (fun _ _ _ _ _ _=>Xm (ht _ _ _ _ _ _)) he hs) (Abj (tt:=ξ ft))
theorem Axg{fc:FE}(ht:∀ σ H Q,lE K fc σ H Q->t σ H Q):∀ D σ H,lS K (Bh fc (gN i)) D σ H->Apx t (Ab5 i) D σ H:=by
 rintro D σ H ⟨α,δ,L,A,S,fl,L',e,q⟩;obtain ⟨⟨u,L1⟩,e1,e⟩:=aA.mp e;obtain ⟨⟨δ2,L2⟩,e2,e⟩:=aJ.mp e;cases e;cases e2;exact ht σ H _ ⟨α,δ,L,A,S,u,_,e1,fun v H1 α1 g1 A1 r1=>q _ H1 α1 g1 A1 ((S.mono g1).set i r1)⟩
theorem Kx{i:Nat}{y:Str}{py spos:Pos}(hN:X.N.Nodup)(S:CompSc X scope N' ix)(hcalm:X.calm=true)(hi:PIF X tg iter fi)(hg:∀ cl C s2 H2 fp pins,PGF Zj tg g)(ht:∀ cl C s2 H2 fp pins,PTF Zj c ft)(he:∀ cl C s2 H2 fp pins,PEF Zj elt fe)
  (hiN:X.N[i]? = ξ y:=by rfl) (hx:Loc X.env.scope y:=by first | exact tS rfl | exact rY rfl) (hf:X.fn y=true\/X.env.scope.names.lookup y=ξ .local:=by first | exact .inl rfl | exact .inr rfl)
  (hsw:swapsWith Zby (ξ (.Name y py)) spos.line X.env=pure true:=by rfl)
  (hs:∀ x,foldedSetIterable iter X.env x=pure x:=by intro _;rfl):PSF X (.Assign [.Name y py] Zby spos) (Bh (Bv ix fi g (ξ ft) fe) (gN i)):=
 PS.imp (Ap0 (i:=i) (g:=lG X.K g) (te:=lE X.K fe) (tt:=lT X.K ft) hN hiN hx hf S hcalm hi hg (fun _ _ _ _ _ _=>Xm (ht _ _ _ _ _ _)) he hsw hs) (Axg (Abj (tt:=ξ ft)))
end
section
variable {s:aN}{h':Heap}
theorem Inv.turnNew{ch:List Addr}{t':Nat}(I:L2.Inv X pins σ H s)(hch:∀ b∈ch,Ml X pins H b)(k:∀ b o,b∉ch->s.heap.get? b=ξ o->h'.get? b=ξ o)(hp:s.heap.objs.size<=p)(new:ObjOk X.prog X.w (upd H p o) h' p o) :
  L2.Inv X pins σ (upd H p o) { s with heap:=h',toks:=t' }:=by
 have hn:H p=ψ:=I.hok.fresh hp;have nch:∀ b u,H b=ξ u->b∉ch:=fun b u e hb=>by rw[(hch b hb).1] at e;cases e
 have st:=Stay.new hn o;refine I.step (g':=s.gens) (d':=s.drawn) (ch:=ch) (fun b hb=>?_) (fun b o _ _ hc e _=>k b o hc e) (fun b o _ _ hc e _=>⟨o.slots,k b o hc e⟩) (fun b u hc e n=>?_) (fun b u hc e=>⟨u,k b u hc e⟩) st.1 st.2 (fun b ps e=>⟨#[],?_⟩) (fun m hm=>?_) (fun b u e=>?_) I.bare
 ·obtain ⟨_,f1,_,f3,f4,f5⟩:=hch b hb;exact ⟨f3,f1,f4,f5⟩
 ·rw[Bq (cF (bC (aY e) hp))];exact n
 ·rw[Bq (B4 e hn),e];simp
 ·obtain ⟨o1,es,ep,ho,r⟩:=hm;exact ⟨o1,es,ep,k _ o1 (fun z=>(hch _ z).2.1 rfl) ho,r⟩
 ·by_cases hb:b=p
  ·subst hb;rw[upd_same] at e;cases e;exact new
  ·rw[Bq hb] at e;refine (I.hok b u e).stay (fun c v hc q=>k c v ?_ q) (fun c q=>by rw[Bq (B4 q hn)];exact q) fun c xs q=>by rw[Bq (B4 q hn)];exact q
   rcases hc with z | z
   ·rw[z];exact nch b u e
   ·exact nch c _ z
end
theorem Yt(n l1 l2:Nat)(h1:l1 < n)(h2:l2 < n):pD (n+4) (n+2) (n+3) n (n+1) l1 l2:=by
 constructor <;> (intro q;exact absurd (show (_:Nat)=_ from q) Ze)
section
variable {elts:List Expr}{x1:Nat}{tpos:Pos}
theorem Adp:iA "zip" = ξ (.type "zip"):=Zd
def Ax9(g:FA):FI:=fun δ L=>(g δ L).bind fun p=>match p.1 with
 | [.ref n]=>(Aw p.2 n).map fun _=>(.enm n,p.2)
 | _=>ψ
def A48(g:FA):FI:=fun δ L=>(g δ L).bind fun p=>match p.1 with
 | [.ref n,.ref m]=>(Aw p.2 n).bind fun _=>(Aw p.2 m).map fun _=>(.zip2 n m,p.2)
 | _=>ψ
theorem V7(A:Abs K H α L)(ea:α[n]? = ξ a)(h:Aw L n=ξ us):∃ xs,SqL K H a xs/\RepL K H α us xs:=by
 obtain ⟨a',xs,ea',sq,r⟩:=I0 A h;rw[ea] at ea';cases ea';exact ⟨xs,sq,r⟩
end
theorem Vals.rev{us:List aH}(h:Vals xs us):Vals xs.reverse us.reverse:=by
 induction h with
 | nil=>exact .nil
 | cons h1 _ ih=>rw[fD,fD];exact ih.append (.cons h1 .nil)
theorem RepL.rev:∀ {us:List U} {xs:List V},RepL K H α us xs->RepL K H α us.reverse xs.reverse
 | [],xs,r=>by unfold RepL at r;subst r;exact .nil
 | u::us,xs,r=>by
  unfold RepL at r;obtain ⟨x,xr,rfl,r1,r2⟩:=r;rw[fD,fD];exact (RepL.rev r2).append (.cons r1 .nil)
end MR
namespace HT
open PySem PySem.Spec PyProof.Rows
section
variable {prog:cC}{w:cM}{A:eA}{E:aH->aN->Prop}{s:aN}
end
end HT
namespace MR
open PySem PySem.Spec PyProof.Rows L2
section
variable {X:Cx}{e st:Expr}{fa fs:FE}{p2 pos:Pos}
def A3r(f:FE):FE:=fun δ L=>(f δ L).bind fun p=>match p.1 with | .ref n=>(Aw p.2 n).map fun l=>(.ref p.2.length,p.2++[.lst l.reverse]) | .tup l=>ξ (.tup l.reverse,p.2) | _=>ψ
end
structure ClsF(K:aF)(C:Str)(Ca:Addr):Prop where
 ns:dO K bU C=ξ ZbX
 cl:Cls K Ca
variable {K:aF}{C:Str}
theorem ClsF.eq{Ca Cb:Addr}(T:ClsF K C Ca)(h:dO K bU C=ξ (ξ (.ref Cb))):Cb=Ca:=by
 have:=T.ns.symm.trans h;simpa using this.symm
def Wz(C:Str)(u:U)(L:UH):Option (Nat×List (Str×U)):=match u with
 | .ref n=>match L[n]? with
  | some (.ins C' fs)=>if C'=C then ξ (n,fs) else ψ
  | _=>ψ
 | _=>ψ
theorem Vb{u:U}{L:UH}{n:Nat}{fs:List (Str×U)}(h:Wz C u L=ξ (n,fs)):u = .ref n/\L[n]? = ξ (.ins C fs):=by
 unfold Wz at h;split at h
 ·split at h
  ·rename_i e;split at h
   ·rename_i hc;cases h;exact ⟨rfl,by rw[e,hc]⟩
   ·cases h
  ·cases h
 ·cases h
variable {f:Str}
theorem Px{K:aF}{H:Hp}{α:List Addr}{f:Str}:∀ {fs:List (Str×U)} {vs:List (Str×V)},fs.map (·.1)=vs.map (·.1)->RepL K H α (fs.map (·.2)) (vs.map (·.2))->(∀ u,fs.lookup f=ξ u->∃ v,vs.lookup f=ξ v/\RepU K H α u v)/\(fs.lookup f=ψ->vs.lookup f=ψ)
 | [],[],_,_=>⟨fun u h=>by simp at h,fun _=>rfl⟩
 | [],_::_,h,_=>by simp at h
 | _::_,[],h,_=>by simp at h
 | (g,u)::fs,(g',v)::vs,h,r=>by
  simp only[aI,fI] at h;obtain ⟨h1,h2⟩:=h;subst h1;simp only[aI] at r;unfold RepL at r;obtain ⟨x,xr,e,r1,r2⟩:=r;cases e;obtain ⟨i1,i2⟩:=Px (f:=f) h2 r2;rw[cK,cK];cases hq:f == g with
  | true=>exact ⟨fun w hw=>by cases hw;exact ⟨v,rfl,r1⟩,fun hw=>by cases hw⟩
  | false=>exact ⟨i1,i2⟩
noncomputable def Ad8(f:Str)(v:U):List (Str×U)->List (Str×U)
 | []=>[(f,v)]
 | (g,x)::r=>if g=f then (g,v)::r else (g,x)::Ad8 f v r
theorem Ag1{K:aF}{H:Hp}{α:List Addr}{f:Str}{u:U}{v:V}(ru:RepU K H α u v):∀ {fs:List (Str×U)} {vs:List (Str×V)},fs.map (·.1)=vs.map (·.1)->RepL K H α (fs.map (·.2)) (vs.map (·.2))->(Ad8 f u fs).map (·.1)=(Kj f v vs).map (·.1)/\RepL K H α ((Ad8 f u fs).map (·.2)) ((Kj f v vs).map (·.2))
 | [],[],_,_=>⟨rfl,.cons ru .nil⟩
 | [],_::_,h,_=>by simp at h
 | _::_,[],h,_=>by simp at h
 | (g,x)::fs,(g',y)::vs,h,r=>by
  simp only[aI,fI] at h;obtain ⟨h1,h2⟩:=h;subst h1;simp only[aI] at r;unfold RepL at r;obtain ⟨z,zr,e,r1,r2⟩:=r;cases e;obtain ⟨i1,i2⟩:=Ag1 (f:=f) ru h2 r2;unfold Ad8 Kj;by_cases hq:g=f
  ·simp only[hq,if_true,aI];exact ⟨by rw[h2],.cons ru r2⟩
  ·simp only[hq,if_false,aI];exact ⟨by rw[i1],.cons r1 i2⟩
section
variable {X:Cx}{o e value:Expr}{es:List Expr}{m x:Str}{p pos pos' apos:Pos}{Ca fa:Addr}{fd:dS}{ps:List Str}{k n:Nat}{F:FN}{fe fo fv:FE}{g:FA}
def Ij(C f:Str)(fe:FE):FE:=fun δ L=>(fe δ L).bind fun p=>(Wz C p.1 p.2).bind fun q=>(q.2.lookup f).map fun v=>(v,p.2)
theorem Hy(T:ClsF X.K C Ca)(hn:NoAttr X.K Ca f)(he:PEF X e fe)(hb:attributeBase e f X.env Zc7=eval e X.env:=by rfl):PEF X (.Attribute e f pos) (Ij C f fe):=by
 refine PE.imp (Awx he hb) ?_;rintro σ H Q ⟨α,δ,L,A,S,z,L3,ee,q⟩;obtain ⟨⟨u,L1⟩,e1,ee⟩:=aA.mp ee;obtain ⟨⟨n,fs⟩,e2,ee⟩:=aA.mp ee;obtain ⟨w,e3,ee⟩:=aJ.mp ee;cases ee;obtain ⟨rfl,hL⟩:=Vb e2;refine ⟨α,δ,L,A,S,_,L1,e1,fun x H1 α1 g1 A1 r1=>?_⟩;obtain ⟨a,ea,Cb,dx,vs,hns,ha,hk,rr⟩:=A1.addr hL;obtain ⟨a',ea',rfl⟩:=r1.ref_of A1;rw[ea] at ea';cases ea';have:=T.eq hns;subst this;obtain ⟨v,hv,rv⟩:=(Px hk rr).1 _ e3;exact ⟨a,Cb,dx,vs,v,rfl,ha,T.cl,hn,hv,q v H1 α1 g1 A1 rv⟩
def Aec(C f:Str)(fo fv:FE):FS:=fun δ L=>(fv δ L).bind fun p=>(fo δ p.2).bind fun q=>(Wz C q.1 q.2).bind fun r=>if r.2.length < 1000 then ξ (.nx δ,q.2.set r.1 (.ins C (Ad8 f p.1 r.2))) else ψ
theorem Ah1(T:ClsF X.K C Ca)(hn:NoAttr X.K Ca f)(ho:PEF X o fo)(hv:PEF X value fv)(hs:swapsWith value (ξ (.Attribute o f pos')) pos.line X.env=pure false:=by rfl):PSF X (.Assign [.Attribute o f pos'] value pos) (Aec C f fo fv):=by
 refine PS.imp (Avb ho hv hs) ?_;rintro D σ H ⟨α,δ,L,A,S,fl,L',ee,q⟩;obtain ⟨⟨u,L1⟩,e1,ee⟩:=aA.mp ee;obtain ⟨⟨w,L2⟩,e2,ee⟩:=aA.mp ee;obtain ⟨⟨n,fs⟩,e3,ee⟩:=aA.mp ee;simp only at ee;split at ee
 ·rename_i hlen;cases ee;obtain ⟨rfl,hL⟩:=Vb e3;refine ⟨α,δ,L,A,S,u,L1,e1,fun y H1 α1 g1 A1 r1=>⟨α1,δ,L1,A1,S.mono g1,_,L2,e2,fun x H2 α2 g2 A2 r2=>?_⟩⟩;obtain ⟨a,ea,Cb,dx,vs,hns,ha,hk,rr⟩:=A2.addr hL;obtain ⟨a',ea',rfl⟩:=r2.ref_of A2;rw[ea] at ea';cases ea';have:=T.eq hns;subst this;have hl:vs.length < 1000:=by
   have:=congrArg iI hk;rw[aL,aL] at this;omega
  have g3:Gr H2 α2 (upd H2 a (.ins Cb dx (Kj f y vs))) α2:=⟨⟨[],Za⟩,.write ha (by exact trivial) _⟩;obtain ⟨k1,k2⟩:=Ag1 (f:=f) (ZcM) hk rr;obtain ⟨A3,_⟩:=A2.put (o:=.ins Cb dx (Kj f y vs)) (u:=.ins C (Ad8 f u fs)) ea hL rfl rfl ha (by exact trivial) ⟨Cb,dx,_,hns,upd_same,k1,k2.mono g3⟩;exact ⟨a,Cb,dx,vs,rfl,ha,T.cl,hn,hl,q _ _ α2 ((g1.trans g2).trans g3) A3 (((S.mono g1).mono g2).mono g3)⟩
 ·cases ee
def B0(C m:Str)(k:Nat)(F:FN)(fo:FE)(g:FA):FE:=fun δ L=>(fo δ L).bind fun p=>(Wz C p.1 p.2).bind fun r=>if r.2.lookup m=ψ then (g δ p.2).bind fun q=>if q.1.length+1=k then F (.ref r.1::q.1) q.2 else ψ else ψ
theorem Ac9{E:XK}(T:ClsF K C Ca):∀ σ H Q,lE K (B0 C m n F fo g) σ H Q->Ams Ca m (spF K n F) [] E (lE K fo) (lA K g) σ H Q:=by
 rintro σ H Q ⟨α,δ,L,A,S,z,L3,ee,q⟩;obtain ⟨⟨u,L1⟩,e1,ee⟩:=aA.mp ee;obtain ⟨⟨j,fs⟩,e2,ee⟩:=aA.mp ee;simp only at ee;split at ee
 ·rename_i hno;obtain ⟨⟨us,L2⟩,e3,ff⟩:=aA.mp ee;simp only at ff;split at ff
  ·rename_i hlen;obtain ⟨rfl,hL⟩:=Vb e2;refine ⟨α,δ,L,A,S,_,L1,e1,fun x H1 α1 g1 A1 r1=>?_⟩;obtain ⟨a,ea,Cb,dx,vs,hns,ha,hk,rr⟩:=A1.addr hL;obtain ⟨a',ea',hx⟩:=r1.ref_of A1;rw[ea] at ea';cases ea';have:=T.eq hns;subst this;refine ⟨a,dx,vs,hx,ha,(Px hk rr).2 hno,α1,δ,L1,A1,S.mono g1,us,L2,e3,fun xs H2 α2 g2 A2 r2=>?_⟩;refine ⟨α2,L2,.ref j::us,A2,?_,by simpa using hlen,z,L3,ff,fun v H3 α3 g3 A3 r3=>q v H3 α3 Za8 A3 r3⟩;rw[aR];exact .cons ZcM r2
  ·cases ff
 ·cases ee
theorem Aqk{pl:Sem Bool}(T:ClsF X.K C Ca)(hm:Meth X.K Ca m fa)(hF:FnOk X.prog X.w X.K X.mg X.base CX0 k fa fd ps ZcY)(hr:Room k X.A)(hb:Binds X.K fd ps [])(ho:PEF X o fo)(ha:PAF X (e::es) g)
  (hst:bH (e::es) X.env=Zy::bH es X.env:=by rfl) (hpl:(backTo pos Zat).any (·.1)=false:=by rfl)
  (ht:eval Z3 X.env=(do
   let ov <- eval o X.env
   standAt apos.atName
   let (f,first) <- holding [ov] ZbQ
   callWith pos f first (backTo pos ZcS) Zb1):=by rfl) :
  PEF X Z3 (B0 C m n F fo g):=
 PE.imp (Ap3 (pl:=pl) ho T.cl hm hF hr hb .nil Ahm ha hst hpl ht) (Ac9 T)
theorem Ak5{pl:Sem Bool}(T:ClsF X.K C Ca)(hm:Meth X.K Ca m fa)(hF:FnOk X.prog X.w X.K X.mg X.base CX0 k fa fd ps ZcY)(hr:Room k X.A)(hb:Binds X.K fd ps [])(ho:PEF X o fo)
  (ht:eval Zae X.env=(do
   let ov <- eval o X.env
   standAt apos.atName
   let (f,first) <- holding [ov] ZbQ
   callWith pos f first ZdO Zb1):=by rfl) :
  PEF X Zae (B0 C m n F fo Ah):=
 PE.imp (Al2 (pl:=pl) ho T.cl hm hF hr hb .nil Ahm ht) (fun σ H Q h=>by
  have h:=Ac9 (E:=E0) T σ H Q h;obtain ⟨α,δ,L,A,S,u,L1,e1,h⟩:=h;refine ⟨α,δ,L,A,S,u,L1,e1,fun x H1 α1 g1 A1 r1=>?_⟩;obtain ⟨a,dx,vs,hx,ha,hl,α2,δ2,L2,A2,S2,us,L3,e3,h3⟩:=h x H1 α1 g1 A1 r1;cases e3;exact ⟨a,dx,vs,hx,ha,hl,h3 [] H1 α2 (.refl _ _) A2 .nil⟩)
def Tu(C:Str)(k:Nat)(F:FN)(g:FA):FE:=fun δ L=>(g δ L).bind fun p=>if p.1.length+1=k then (F (.ref p.2.length::p.1) (p.2++[.ins C []])).bind fun q=>match q.1 with | .non=>ξ (.ref p.2.length,q.2) | _=>ψ else ψ
theorem Aoh{E:XK}(hns:dO K bU C=ξ ZbX):∀ σ H Q,lE K (Tu C n F g) σ H Q->At6 Ca (spF K n F) [] E (lA K g) σ H Q:=by
 rintro σ H Q ⟨α,δ,L,A,S,z,L3,ee,q⟩;obtain ⟨⟨us,L1⟩,e1,ee⟩:=aA.mp ee;simp only at ee;split at ee
 ·rename_i hlen;obtain ⟨⟨w,L2⟩,e2,ee⟩:=aA.mp ee;cases w with
  | non=>
   cases ee;refine ⟨α,δ,L,A,S,us,L1,e1,fun xs H1 α1 g1 A1 r1 x dx nx ndx nex=>?_⟩;have ga:Gr H1 α1 Zdo α1:=⟨⟨[],Za⟩,.new ndx _⟩;have Aa:Abs K Zdo α1 L1:=⟨A1.len,A1.inj,fun i a o e1 e2=>(A1.rep i a o e1 e2).other ga (.inr fun u q=>by rw[Bq (B4 q ndx)];exact q)⟩;have nx':(upd H1 dx (.own x)) x=ψ:=by rw[Bq (gY nex)];exact nx
   obtain ⟨Ab,gb⟩:=Aa.new (o:=.ins Ca dx []) (u:=.ins C []) nx' ⟨Ca,dx,[],hns,upd_same,rfl,.nil⟩;have rx:RepU K (upd Zdo x (.ins Ca dx [])) (α1++[x]) (.ref L1.length) (.ref x):=by
    unfold RepU;exact ⟨x,by rw[<- A1.len];simp,rfl⟩
   refine ⟨α1++[x],L1++[.ins C []],.ref L1.length::us,Ab,?_,by simpa using hlen,.non,L2,e2,fun v H3 α3 g3 A3 r3=>?_⟩
   ·rw[aR];exact .cons rx ((r1.mono ga).mono gb)
   ·have hv:v = .non:=by unfold RepU at r3;exact r3
    exact ⟨hv,q _ H3 α3 (g1.trans (ga.trans (gb.trans g3))) A3 (rx.mono g3)⟩
  | _=>cases ee
 ·cases ee
theorem Ads(hns:dO X.K bU C=ξ ZbX)(M:Mk X.K Ca fa)(hF:FnOk X.prog X.w X.K X.mg X.base CX0 k fa fd ps ZcY)(hr:Room (k+1) X.A)(hg:Gl X C)(hm:X.mg C=ξ (.ref Ca))(hb:Binds X.K fd ps [])
  (hdb:(C == ("__debug__" : Str))=false:=by decide):PEF X (.Call (.Name C p) [] [] pos) (Tu C n F Ah):=
 PE.imp (Ang M hF hr hg hm hb .nil Ahm hdb) (fun σ H Q h=>by
  obtain ⟨α,δ,L,A,S,us,L1,e1,h⟩:=Aoh (E:=E0) hns σ H Q h;cases e1;exact h [] H α (.refl _ _) A .nil)
end
end MR
namespace ZT
open PySem PySem.Spec PyProof.Rows
open Sem (wp)
def SqK(b:Bool)(h:Heap)(l:Addr)(xs:Array aH):Prop:=match b with
 | true=>h.IsList l xs
 | false=>h.IsTuple l xs
def ItK(b:Bool)(h:Heap)(jt l:Addr)(k:Nat):Prop:=match b with
 | true=>h.IsListIter jt l k
 | false=>h.IsTupleIter jt l k
variable {b:Bool}{h h':Heap}{l:Addr}{xs:Array aH}
theorem SqK.keep(x:SqK b h l xs)(e:∀ o,h.get? l=ξ o->h'.get? l=ξ o):SqK b h' l xs:=by
 cases b with
 | true=>obtain ⟨o,ho,r⟩:=x;exact ⟨o,e _ ho,r⟩
 | false=>obtain ⟨o,ho,r⟩:=x;exact ⟨o,e _ ho,r⟩
variable {jt:Addr}{k:Nat}
theorem ItK.keep(x:ItK b h jt l k)(e:∀ o,h.get? jt=ξ o->h'.get? jt=ξ o):ItK b h' jt l k:=by
 cases b with
 | true=>obtain ⟨o,ho,r⟩:=x;exact ⟨o,e _ ho,r⟩
 | false=>obtain ⟨o,ho,r⟩:=x;exact ⟨o,e _ ho,r⟩
theorem ItK.lt(x:ItK b h jt l k):jt < h.objs.size:=by
 cases b with
 | true=>obtain ⟨o,ho,r⟩:=x;exact aY ho
 | false=>obtain ⟨o,ho,r⟩:=x;exact aY ho
theorem ItK.obj(x:ItK b h jt l k):∃ o,h.get? jt=ξ o/\o.data = .fields #[.ref l,.int k 0]:=by
 cases b with
 | true=>obtain ⟨o,ho,_,r⟩:=x;exact ⟨o,ho,r⟩
 | false=>obtain ⟨o,ho,_,r⟩:=x;exact ⟨o,ho,r⟩
variable {its:Array aH}{Q:aH->aN->Prop}
section
variable {prog:cC}{w:cM}{A:eA}{E:aH->aN->Prop}{s:aN}
theorem Anx{t:Addr}{v:aH}(hj:s.heap.IsTupleIter jt t k)(ht:s.heap.IsTuple t its)(hv:its[k]? = ξ v)
  (hQ:∀ h',h'.IsTupleIter jt t (k+1)->iV jt s.heap h'->Q v { s with heap:=h' }):wpAny Zu A (cV (.ref jt)) Q E s:=by
 obtain ⟨ob,hob,hcl,hda⟩:=id hj;obtain ⟨ot,hot,_,nt,hdt⟩:=ht;unfold cV;refine aD (fZ (name:=fQ "__next__") hj.typeIs gR (fM gR hj.typeIs mD ?_ (lP _)));show wpAny _ _ (field (.ref jt) 0 >>= _) _ _ s;refine aD (eI hob hda (x:=.ref t) rfl ?_);show wpAny _ _ (if (cW t == eD)=true then _ else _) _ _ s;rw[if_neg (show ¬ ((cW t == eD)=true) from (fun z=>dG z))];show wpAny _ _ (field (.ref jt) 1 >>= _) _ _ s;refine aD (eI hob hda (x:=.int k 0) rfl ?_);show wpAny _ _ (seqItems? (.ref t) >>= fun z=>_) _ _ s;refine aD (gS hot hdt ?_);simp only[iB,hv];refine aD (wpAny_setField hob hda Za (bB ⟨v,rfl,bB (hQ _ ?_ (eE ..))⟩));exact ⟨_,kE _ hob (Obj.isFreed_of_fields (qM hda _)),(Obj.cls_mapFields ..).trans hcl,by rw[qM hda];simp[rawInt]⟩
theorem Aoo{t:Addr}(hh:A.handled=ψ)(hj:s.heap.IsTupleIter jt t k)(ht:s.heap.IsTuple t its)(hv:its[k]? = ψ)
  (hE:∀ h' e,lC jt s.heap h'->(∃ ob,h'.get? e=ξ ob/\ob.cls = .type "StopIteration")->E (.ref e) { s with heap:=h' }):wpAny Zu A (cV (.ref jt)) Q E s:=by
 obtain ⟨ob,hob,hcl,hda⟩:=id hj;obtain ⟨ot,hot,_,nt,hdt⟩:=ht;unfold cV;refine aD (fZ (name:=fQ "__next__") hj.typeIs gR (fM gR hj.typeIs mD ?_ (lP _)));show wpAny _ _ (field (.ref jt) 0 >>= _) _ _ s;refine aD (eI hob hda (x:=.ref t) rfl ?_);show wpAny _ _ (if (cW t == eD)=true then _ else _) _ _ s;rw[if_neg (show ¬ ((cW t == eD)=true) from (fun z=>dG z))];show wpAny _ _ (field (.ref jt) 1 >>= _) _ _ s;refine aD (eI hob hda (x:=.int k 0) rfl ?_);show wpAny _ _ (seqItems? (.ref t) >>= fun z=>_) _ _ s;refine aD (gS hot hdt ?_);simp only[iB,hv];refine aD (qN (aD (wpAny_setField hob hda Za ?_)));show wpAny _ _ (newExc (.type "StopIteration") [] >>= fun z=>_) _ _ _;refine aD ?_;simp only[newExc,newTuple];refine aD (eJ ?_ (by size_fits));refine aD (m:=firstArgMember _ _) (wpAny_of_eq (a:=eD) (by first | rfl | (simp only[firstArgMember];rfl)) (eJ ?_ (by size_fits)));simp only[raiseNew];refine aD (wpAny_handled ?_)
 first | rw[show A.in1.handled=ψ from hh] | (rw[hh])
 exact aD (bB (wpAny_throw (hE _ _ (((eE ..).extBut.push _).push _) ⟨_,aX _ rfl,rfl⟩)))
theorem Afd{v:aH}(hj:ItK b s.heap jt l k)(hl:SqK b s.heap l its)(hv:its[k]? = ξ v)
  (hQ:∀ h',ItK b h' jt l (k+1)->iV jt s.heap h'->Q v { s with heap:=h' }):wpAny Zu A (cV (.ref jt)) Q E s:=by
 cases b with
 | true=>exact wpAny_nextOf_list_item hj hl hv hQ
 | false=>exact Anx hj hl hv hQ
theorem Alx(hh:A.handled=ψ)(hj:ItK b s.heap jt l k)(hl:SqK b s.heap l its)(hv:its[k]? = ψ)
  (hE:∀ h' e,lC jt s.heap h'->(∃ ob,h'.get? e=ξ ob/\ob.cls = .type "StopIteration")->E (.ref e) { s with heap:=h' }):wpAny Zu A (cV (.ref jt)) Q E s:=by
 cases b with
 | true=>exact wpAny_nextOf_list_end hh hj hl hv hE
 | false=>exact Aoo hh hj hl hv hE
theorem SqK.but{c:Addr}(x:SqK b h l xs)(e:lC c h h')(hne:l≠c):SqK b h' l xs:=x.keep fun o q=>e l o hne q
theorem ItK.but{c:Addr}(x:ItK b h jt l k)(e:lC c h h')(hne:jt≠c):ItK b h' jt l k:=x.keep fun o q=>e jt o hne q
variable {b1 b2:Bool}{z TI TO j1 j2 l1 l2:Addr}{k1 k2:Nat}{ys:Array aH}{a b:aH}
theorem Ap1{x y:aH}(D:pD z TI TO j1 j2 l1 l2)(hz:lX s.heap z TI TO .none)(hI:gJ s.heap TI (.ref j1) (.ref j2))(hO:gJ s.heap TO a b)
  (h1:ItK b1 s.heap j1 l1 k1) (h2:ItK b2 s.heap j2 l2 k2) (g1:SqK b1 s.heap l1 xs) (g2:SqK b2 s.heap l2 ys) (hx:xs[k1]? = ξ x) (hy:ys[k2]? = ξ y)
  (hQ:∀ h',lX h' z TI TO (rawInt s.heap.objs.size)->gJ h' TO x y->ItK b1 h' j1 l1 (k1+1)->ItK b2 h' j2 l2 (k2+1)->gJ h' s.heap.objs.size x y->h'.objs.size=s.heap.objs.size+1 ->
   ZS->Q Z5 { s with heap:=h' }) :
  wpAny Zu A (kW.«zip.__next__» ⟨[.ref z],[]⟩) (fun fin s'=>∃ v,fin = .done (.ret v)/\Q v s') E s:=by
 show wpAny _ _ (field (.ref z) 2 >>= fun q=>_) _ _ _;refine aD (eI hz rfl (x:=.bool false) rfl ?_);show wpAny _ _ (field (.ref z) 3 >>= _) _ _ _;refine aD (eI hz rfl (x:=.ref TI) rfl (aD (gS hI rfl ?_)));show wpAny _ _ (eO (.ref z) >>= fun q=>_) _ _ _;refine aD ?_;unfold eO;refine aD (eI hz rfl (x:=.none) rfl (bB ?_));simp only[if_true];refine aD (qN (aD (eI hz rfl (x:=.ref TO) rfl (aD (gT hz Za fun p1 z1 s1=>?_)))));replace z1:lX p1 z TI TO .ellipsis:=z1;refine aD ?_;simp only[rZ,sQ,lM,tV];refine aD (aD (nH ?_));show wpAny _ _ (cV (.ref j1) >>= _) _ _ _;refine aD (Afd Zd6 Zd7 hx fun p2 i2 s2=>bB ?_);have O2:gJ p2 TO a b:=s2.extBut _ _ D.TOi1 (s1.extBut _ _ D.TOz hO);refine aD (gS O2 rfl (aD (lD O2 fun p3 O3 s3=>?_)));replace O3:gJ p3 TO x b:=O3;refine aD (pE (bB ?_));refine aD (aD (nH ?_));show wpAny _ _ (cV (.ref j2) >>= fun q=>_) _ _ _;refine aD (Afd (((h2.but s1.extBut D.i2z).but s2.extBut D.i12.symm).but s3.extBut D.TOi2.symm) (((g2.but s1.extBut D.l2z).but s2.extBut D.l2i1).but s3.extBut D.l2TO) hy fun p4 i4 s4=>bB ?_);have O4:gJ p4 TO x b:=s4.extBut _ _ D.TOi2 O3;refine aD (gS O4 rfl (aD (lD O4 fun p5 O5 s5=>?_)));replace O5:gJ p5 TO x y:=O5;refine aD (pE (bB (bB ?_)));refine aD (gS O5 rfl (aD (pF ?_)));have hsz:p5.objs.size=s.heap.objs.size:=by rw[s5.1,s4.1,s3.1,s2.1,s1.1]
 have z5:lX p5 z TI TO .ellipsis:=s5.extBut _ _ D.TOz.symm (s4.extBut _ _ D.i2z.symm (s3.extBut _ _ D.TOz.symm (s2.extBut _ _ D.i1z.symm z1)));have k5:∀ c o,c≠z->c≠TO->c≠j1->c≠j2->s.heap.get? c=ξ o->p5.get? c=ξ o:=fun c o c1 c2 c3 c4 e=>s5.extBut _ _ c2 (s4.extBut _ _ c4 (s3.extBut _ _ c2 (s2.extBut _ _ c3 (s1.extBut _ _ c1 e))))
 have i15:ItK b1 p5 j1 l1 (k1+1):=((i2.but s3.extBut D.TOi1.symm).but s4.extBut D.i12).but s5.extBut D.TOi1.symm;have i25:ItK b2 p5 j2 l2 (k2+1):=i4.but s5.extBut D.TOi2.symm;have zlt:z < p5.objs.size:=aY z5;show wpAny _ _ (jC (.ref z) (.ref p5.objs.size) >>= fun q=>_) _ _ _;refine aD ?_;unfold jC;have z6:lX (p5.push { cls:=.type "tuple",data:=.seq #[x,y] }) z TI TO .ellipsis:=aC _ z5;refine aD (gT z6 Za fun p7 z7 s7=>?_);replace z7:lX p7 z TI TO (rawInt p5.objs.size):=z7;refine gT z7 Za fun p8 z8 s8=>?_
 replace z8:lX p8 z TI TO (rawInt p5.objs.size):=z8;have up:∀ c o,c≠z->p5.get? c=ξ o->p8.get? c=ξ o:=fun c o c1 e=>s8.extBut _ _ c1 (s7.extBut _ _ c1 (aC _ e))
 have t8:gJ p8 p5.objs.size x y:=s8.extBut _ _ (jV zlt) (s7.extBut _ _ (jV zlt) (aX _ rfl));have e8:p8.objs.size=p5.objs.size+1:=by rw[s8.1,s7.1,dR]
 rw[hsz] at z8 t8 e8;refine bB ⟨_,rfl,?_⟩;show Q (.ref p5.objs.size) _;rw[hsz];exact hQ p8 z8 (up _ _ D.TOz O5) (i15.keep fun o e=>up _ o D.i1z e) (i25.keep fun o e=>up _ o D.i2z e) t8 e8 fun c o c1 c2 c3 c4 e=>up c o c1 (k5 c o c1 c2 c3 c4 e)
theorem Axe{Q:Fin->aN->Prop}(hh:A.handled=ψ)(D:pD z TI TO j1 j2 l1 l2)(hz:lX s.heap z TI TO .none)(hI:gJ s.heap TI (.ref j1) (.ref j2))(hO:gJ s.heap TO a b)
  (h1:ItK b1 s.heap j1 l1 k1) (h2:ItK b2 s.heap j2 l2 k2) (g1:SqK b1 s.heap l1 xs) (g2:SqK b2 s.heap l2 ys) (hend:xs[k1]? = ψ\/ys[k2]? = ψ)
  (hE:∀ h' e,ZS->(∃ ob,h'.get? e=ξ ob/\ob.cls = .type "StopIteration")->E (.ref e) { s with heap:=h' }) :
  wpAny Zu A (kW.«zip.__next__» ⟨[.ref z],[]⟩) Q E s:=by
 show wpAny _ _ (field (.ref z) 2 >>= fun q=>_) _ _ _;refine aD (eI hz rfl (x:=.bool false) rfl ?_);show wpAny _ _ (field (.ref z) 3 >>= _) _ _ _;refine aD (eI hz rfl (x:=.ref TI) rfl (aD (gS hI rfl ?_)));show wpAny _ _ (eO (.ref z) >>= fun q=>_) _ _ _;refine aD ?_;unfold eO;refine aD (eI hz rfl (x:=.none) rfl (bB ?_));simp only[if_true];refine aD (qN (aD (eI hz rfl (x:=.ref TO) rfl (aD (gT hz Za fun p1 z1 s1=>?_)))));replace z1:lX p1 z TI TO .ellipsis:=z1;refine aD ?_;simp only[rZ,sQ,lM,tV];refine aD (aD (nH ?_));show wpAny _ _ (cV (.ref j1) >>= _) _ _ _;cases hx:xs[k1]? with
 | none=>
  refine aD (Alx hh Zd6 Zd7 hx fun p2 e s2 he=>?_);obtain ⟨oe,hoe,hce⟩:=he;have z2:lX p2 z TI TO .ellipsis:=s2 _ _ D.i1z.symm z1;have hez:e≠z:=fun q=>by subst q;rw[z2] at hoe;cases hoe;simp at hce
  refine gT z2 Za fun p3 _ s3=>hE p3 e (fun c o c1 _ c3 _ q=>s3.extBut _ _ c1 (s2 _ _ c3 (s1.extBut _ _ c1 q))) ⟨oe,s3.extBut _ _ hez hoe,hce⟩
 | some x=>
  have hy:ys[k2]? = ψ:=by rcases hend with h | h;(rw[hx] at h;cases h);exact h
  refine aD (Afd Zd6 Zd7 hx fun p2 i2 s2=>bB ?_);have O2:gJ p2 TO a b:=s2.extBut _ _ D.TOi1 (s1.extBut _ _ D.TOz hO);refine aD (gS O2 rfl (aD (lD O2 fun p3 O3 s3=>?_)));refine aD (pE (bB ?_));refine aD (aD (nH ?_));show wpAny _ _ (cV (.ref j2) >>= fun q=>_) _ _ _;refine aD (Alx hh (((h2.but s1.extBut D.i2z).but s2.extBut D.i12.symm).but s3.extBut D.TOi2.symm) (((g2.but s1.extBut D.l2z).but s2.extBut D.l2i1).but s3.extBut D.l2TO) hy fun p4 e s4 he=>?_);obtain ⟨oe,hoe,hce⟩:=he;have z4:lX p4 z TI TO .ellipsis:=s4 _ _ D.i2z.symm (s3.extBut _ _ D.TOz.symm (s2.extBut _ _ D.i1z.symm z1));have hez:e≠z:=fun q=>by subst q;rw[z4] at hoe;cases hoe;simp at hce
  refine gT z4 Za fun p5 _ s5=>hE p5 e (fun c o c1 c2 c3 c4 q=>s5.extBut _ _ c1 (s4 _ _ c4 (s3.extBut _ _ c2 (s2.extBut _ _ c3 (s1.extBut _ _ c1 q))))) ⟨oe,s5.extBut _ _ hez hoe,hce⟩
theorem Aqm{x y:aH}{Q:Option aH->aN->Prop}(D:pD z TI TO j1 j2 l1 l2)(hz:lX s.heap z TI TO .none)(hI:gJ s.heap TI (.ref j1) (.ref j2))(hO:gJ s.heap TO a b)
  (h1:ItK b1 s.heap j1 l1 k1) (h2:ItK b2 s.heap j2 l2 k2) (g1:SqK b1 s.heap l1 xs) (g2:SqK b2 s.heap l2 ys) (hx:xs[k1]? = ξ x) (hy:ys[k2]? = ξ y)
  (hQ:∀ h',lX h' z TI TO (rawInt s.heap.objs.size)->gJ h' TO x y->ItK b1 h' j1 l1 (k1+1)->ItK b2 h' j2 l2 (k2+1)->gJ h' s.heap.objs.size x y->h'.objs.size=s.heap.objs.size+1 ->
   ZS->Q (ξ Z5) { s with heap:=h' }) :
  wpAny Zu A (pyNext (.ref z)) Q E s:=by
 have ty:s.TypeIs (.ref z) "zip" := ⟨_,hz,rfl⟩;unfold pyNext;exact aD (qC (fZ (name:=fQ "__next__") ty lQ (fM lQ ty sA (Ap1 D hz hI hO h1 h2 g1 g2 hx hy fun h' q1 q2 q3 q4 q5 q6 q7=>bB (hQ h' q1 q2 q3 q4 q5 q6 q7)) (qZ _))))
theorem Awv{Q:Option aH->aN->Prop}(hh:A.handled=ψ)(D:pD z TI TO j1 j2 l1 l2)(hz:lX s.heap z TI TO .none)(hI:gJ s.heap TI (.ref j1) (.ref j2))(hO:gJ s.heap TO a b)
  (h1:ItK b1 s.heap j1 l1 k1) (h2:ItK b2 s.heap j2 l2 k2) (g1:SqK b1 s.heap l1 xs) (g2:SqK b2 s.heap l2 ys) (hend:xs[k1]? = ψ\/ys[k2]? = ψ)
  (hQ:∀ h',ZS->Q ψ { s with heap:=h' }):wpAny Zu A (pyNext (.ref z)) Q E s:=by
 have ty:s.TypeIs (.ref z) "zip" := ⟨_,hz,rfl⟩;unfold pyNext;refine aD (qC (fZ (name:=fQ "__next__") ty lQ (fM lQ ty sA (Axe hh D hz hI hO h1 h2 g1 g2 hend fun h' e hk he=>?_) (qZ _))));obtain ⟨ob,hob,hcl⟩:=he;exact aD (wpAny_isInstance (T := "StopIteration") (b:=true) ⟨ob,hob,hcl⟩ isSubtype_stop (bB (hQ _ hk)))
end
noncomputable abbrev zh1(c1:String)(h:Heap)(l1:Addr):Heap:=h.push { cls:=.type c1,data:=.fields #[.ref l1,.int 0 0] }
abbrev zh2(c1 c2:String)(h:Heap)(l1 l2:Addr):Heap:=(zh1 c1 h l1).push { cls:=.type c2,data:=.fields #[.ref l2,.int 0 0] }
abbrev zh3(c1 c2:String)(h:Heap)(l1 l2:Addr):Heap:=(zh2 c1 c2 h l1 l2).push { cls:=.type "tuple",data:=.seq #[.ref h.objs.size,.ref (zh1 c1 h l1).objs.size] }
abbrev zh4(c1 c2:String)(h:Heap)(l1 l2:Addr):Heap:=(zh3 c1 c2 h l1 l2).push { cls:=.type "tuple",data:=.seq #[.none,.none] }
abbrev zh5(c1 c2:String)(h:Heap)(l1 l2:Addr):Heap:=(zh4 c1 c2 h l1 l2).push { cls:=.type "zip",data:=.fields #[.none,.bool false,.bool false,.ref (zh2 c1 c2 h l1 l2).objs.size,.ref (zh3 c1 c2 h l1 l2).objs.size] }
theorem Aw2 (l1 l2 : Addr) (xs ys : Array aH) : Meets (kW.«zip.__new__» ⟨[.type "zip", .ref l1, .ref l2], []⟩) (fun _ R s => s.heap.IsTuple l1 xs /\ s.heap.IsTuple l2 ys /\
   R (.ok (.ret (.ref (zh4 "tuple_iterator" "tuple_iterator" s.heap l1 l2).objs.size))) { s with heap:=zh5 "tuple_iterator" "tuple_iterator" s.heap l1 l2 }):=
 .of_wp fun prog w A R s h=>by
  obtain ⟨hp,g,d,tk,os⟩:=s;obtain ⟨t1,t2,h⟩:=h;have hsub:=sub_zip;have T1:rA (pG ⟨hp,g,d,tk,os⟩) l1 xs:=t1;have T2:rA (pG ⟨hp.push { cls:=.type "tuple_iterator",data:=.fields #[.ref l1,.int 0 0] },g,d,tk,os⟩) l2 ys:=rB t2 _
  wp_walk using jN T1,jN T2
  exact ⟨_,rfl,h⟩
section
variable {prog:cC}{w:cM}{A:eA}{E:aH->aN->Prop}{s:aN}
theorem Ao7{l1 l2:Addr}{ys:Array aH}(t1:s.heap.IsTuple l1 xs)(t2:s.heap.IsTuple l2 ys)
  (h:∀ h',lX h' Zdp Zdq Zdr .none->gJ h' Zdq Z5 (.ref Zl) ->
   gJ h' Zdr .none .none->ItK false h' s.heap.objs.size l1 0->ItK false h' Zl l2 0->(∀ c o,s.heap.get? c=ξ o->h'.get? c=ξ o)->Q (.ref Zdp) { s with heap:=h' }) :
  wpAny Zu A (call (.type "zip") [.ref l1,.ref l2]) Q E s:=by
 refine callType_new F.called_zip Zb (sB _ _) (sR _ _) (fun obj=>pH obj _ _) sS (Aw2 l1 l2 xs ys) ⟨t1,t2,?_⟩;have z1:(zh1 "tuple_iterator" s.heap l1).objs.size=s.heap.objs.size+1:=dR ..;have z2:(zh2 "tuple_iterator" "tuple_iterator" s.heap l1 l2).objs.size=s.heap.objs.size+2:=by rw[dR,z1]
 have z3:(zh3 "tuple_iterator" "tuple_iterator" s.heap l1 l2).objs.size=s.heap.objs.size+3:=by rw[dR,z2]
 have z4:(zh4 "tuple_iterator" "tuple_iterator" s.heap l1 l2).objs.size=s.heap.objs.size+4:=by rw[dR,z3]
 have q5:(zh5 "tuple_iterator" "tuple_iterator" s.heap l1 l2).get? (zh4 "tuple_iterator" "tuple_iterator" s.heap l1 l2).objs.size=ξ _:=aX _ rfl;have q4:(zh5 "tuple_iterator" "tuple_iterator" s.heap l1 l2).get? (zh3 "tuple_iterator" "tuple_iterator" s.heap l1 l2).objs.size=ξ _:=aC _ (aX _ rfl);have q3:(zh5 "tuple_iterator" "tuple_iterator" s.heap l1 l2).get? (zh2 "tuple_iterator" "tuple_iterator" s.heap l1 l2).objs.size=ξ _:=aC _ Zca;have q2:(zh5 "tuple_iterator" "tuple_iterator" s.heap l1 l2).get? (zh1 "tuple_iterator" s.heap l1).objs.size=ξ _:=aC _ (aC _ Zca);have q1:(zh5 "tuple_iterator" "tuple_iterator" s.heap l1 l2).get? s.heap.objs.size=ξ _:=aC _ (aC _ (aC _ Zca));show _/\_;rw[z2,z3,z4] at q5;rw[z1,z2] at q3;rw[z3] at q4;rw[z1] at q2;rw[z4];exact ⟨⟨_,q5,rfl⟩,h _ q5 q3 q4 ⟨_,q1,rfl,rfl⟩ ⟨_,q2,rfl,rfl⟩ fun c o q=>aC _ (aC _ (aC _ (aC _ (aC _ q))))⟩
end
end ZT
namespace MR
open PySem PySem.Spec PyProof.Rows L2
def SK(bb:Bool)(K:aF)(H:Hp)(a:Addr)(xs:List V):Prop:=match bb with
 | true=>SqL K H a xs
 | false=>SqT K H a xs
variable {X:Cx}{H:Hp}{a:Addr}{xs:List V}
theorem SK.at{pins:List (Addr×Obj)}{σ:L2.St}{s:aN}{bb:Bool}(I:L2.Inv X pins σ H s)(h:SK bb X.K H a xs):∃ its:List aH,Vals xs its/\ZT.SqK bb s.heap a its.toArray/\xs.length<=sizeLine:=by
 cases bb with
 | true=>obtain ⟨its,r,p,z⟩:=I.list h;exact ⟨its,r,p.isList,z⟩
 | false=>obtain ⟨its,r,p,z⟩:=I.tuple h;exact ⟨its,r,p,z⟩
theorem SK.inj{pins:List (Addr×Obj)}{σ:L2.St}{s:aN}{bb:Bool}{ys:List V}(I:L2.Inv X pins σ H s)(h:SK bb X.K H a xs)(h':SK bb X.K H a ys):xs=ys:=by
 cases bb with
 | true=>exact I.list_inj h h'
 | false=>exact I.tuple_inj h h'
def Anv(b1 b2:Bool)(K:aF)(a b:Addr):It:=
 ⟨fun i H=>∃ xs ys x y,SK b1 K H a xs/\SK b2 K H b ys/\xs[i]? = ξ x/\ys[i]? = ξ y,fun i H z H'=>∃ p x y,H p=ψ/\z = .ref p/\H'=upd H p (.tup [x,y])/\(∀ xs,SK b1 K H a xs->xs[i]? = ξ x)/\∀ ys,SK b2 K H b ys->ys[i]? = ξ y,
  fun i H=>∃ xs ys,SK b1 K H a xs/\SK b2 K H b ys/\(xs.length<=i\/ys.length<=i)⟩
theorem Yr{b1 b2:Bool}{P:cC}{w:cM}{K:aF}{elts:List Expr}{x1}{pos:Pos}(a b z TI TO i1 i2:Addr)(D:pD z TI TO i1 i2 a b):Turn P w K (.Tuple elts x1 pos) (Anv b1 b2 K a b) [z,TI,TO,i1,i2] z
  (fun i h=>lX h z TI TO .none/\gJ h TI (.ref i1) (.ref i2)/\(∃ u v,gJ h TO u v)/\ZT.ItK b1 h i1 a i/\ZT.ItK b2 h i2 b i) where
 mem:=Za
 obj:=fun i h st c hb=>by
  obtain ⟨h1,h2,⟨u,v,h3⟩,h4',h5'⟩:=st;obtain ⟨o4,h4,d4⟩:=h4'.obj;obtain ⟨o5,h5,d5⟩:=h5'.obj;simp only[bG,cX,or_false] at hb;rcases hb with rfl | rfl | rfl | rfl | rfl
  ·exact ⟨_,h1,fun v z=>by simp at z⟩
  ·exact ⟨_,h2,fun v z=>by simp at z⟩
  ·exact ⟨_,h3,fun v z=>by simp at z⟩
  ·exact ⟨_,h4,fun v z=>by rw[d4] at z;cases z⟩
  ·exact ⟨_,h5,fun v z=>by rw[d5] at z;cases z⟩
 keep:=fun i h h' st k=>by
  obtain ⟨h1,h2,⟨u,v,h3⟩,h4,h5⟩:=st;exact ⟨k z Za _ h1,k TI Za _ h2,⟨u,v,k TO Za _ h3⟩,h4.keep (k i1 Za),h5.keep (k i2 Za)⟩
 item:=by
  intro X hP hw hK hc i pins s σ H E I hf st hg;subst hP hw hK;obtain ⟨h1,h2,⟨u0,v0,h3⟩,h4,h5⟩:=st;obtain ⟨xs,ys,x,y,sq1,sq2,hx,hy⟩:=hg;obtain ⟨its1,hv1,pl1,hz1⟩:=SK.at I sq1;obtain ⟨its2,hv2,pl2,hz2⟩:=SK.at I sq2;obtain ⟨u,hu,r⟩:=hv1.get hx;obtain ⟨u',hu',r'⟩:=hv2.get hy;refine ZT.Aqm D h1 h2 h3 h4 h5 pl1 pl2 (by simpa using hu) (by simpa using hu') fun h' o1 o2 o3 o4 o5 o6 o7=>?_
  refine ⟨_,rfl,?_⟩;have hfr:H s.heap.objs.size=ψ:=I.hok.fresh (aP _);have I1:L2.Inv X pins σ (upd H s.heap.objs.size (.tup [x,y])) { s with heap:=h',toks:=s.toks }:=
   Inv.turnNew (ch:=[z,TI,TO,i1,i2]) I hf (fun c o hb q=>o7 c o Zau Zau Zau Zau q) (aP _)
    (show ObjOk X.prog X.w _ h' _ (.tup [x,y]) from ⟨by show 2<=sizeLine;decide,[u,u'],.cons r (.cons r' .nil),⟨_,o5,rfl,_,rfl⟩⟩)
  refine wpAny_letOwnedTupleGo_zip o1 fun h9 e2 sb2=>?_
  have hlt:∀ c∈[z,TI,TO,i1,i2],c < s.heap.objs.size:=fun c hb=>by
   simp only[bG,cX,or_false] at hb;rcases hb with rfl | rfl | rfl | rfl | rfl
   ·exact aY h1
   ·exact aY h2
   ·exact aY h3
   ·exact h4.lt
   ·exact h5.lt
  have hnone:∀ c∈[z,TI,TO,i1,i2],(upd H s.heap.objs.size (.tup [x,y])) c=ψ:=fun c hb=>by rw[Bq (cF (hlt c hb))];exact (hf c hb).1
  obtain ⟨f0,f1,f2,f3,f4,f5⟩:=hf z Za;have I2:=I1.turned (t':=s.toks) (h':=h9) (it:=z) (fun c o hb q=>sb2.2 c hb |>.trans q) (hnone z Za) f1 f3 f4 f5;have hTI:gJ h' TI (.ref i1) (.ref i2):=o7 TI _ D.TIz D.TITO D.TIi1 D.TIi2 h2;refine ⟨.ref s.heap.objs.size,_,I2,rfl,⟨_,x,y,hfr,rfl,rfl,fun ys sq'=>?_,fun ys sq'=>?_⟩,⟨e2,(sb2.2 TI D.TIz).trans hTI,⟨_,_,(sb2.2 TO D.TOz).trans o2⟩,o3.keep (fun o q=>(sb2.2 i1 D.i1z).trans q),o4.keep (fun o q=>(sb2.2 i2 D.i2z).trans q)⟩,hnone⟩
  ·rw[SK.inj I sq' sq1];exact hx
  ·rw[SK.inj I sq' sq2];exact hy
 done:=by
  intro X hP hw hK hc i pins s σ H E I hf st hg;subst hP hw hK;obtain ⟨h1,h2,⟨u0,v0,h3⟩,h4,h5⟩:=st;obtain ⟨xs,ys,sq1,sq2,hx⟩:=hg;obtain ⟨its1,hv1,pl1,hz1⟩:=SK.at I sq1;obtain ⟨its2,hv2,pl2,hz2⟩:=SK.at I sq2;have hl1:=hv1.length;have hl2:=hv2.length;refine ZT.Awv ZaM D h1 h2 h3 h4 h5 pl1 pl2 (by simp;omega) fun h' k=>⟨rfl,?_⟩
  have nch:∀ b u,H b=ξ u->b∉[z,TI,TO,i1,i2]:=fun b u e hb=>by rw[(hf b hb).1] at e;cases e
  have k':∀ b o,b∉[z,TI,TO,i1,i2]->s.heap.get? b=ξ o->h'.get? b=ξ o:=fun c o hb q=>k c o Zau Zau Zau Zau q
  refine I.step (g':=s.gens) (d':=s.drawn) (t':=s.toks) (ch:=[z,TI,TO,i1,i2]) (fun b hb=>?_) (fun b o _ _ hc e _=>k' b o hc e) (fun b o _ _ hc e _=>⟨o.slots,k' b o hc e⟩) (fun _ _ _ _ n=>n) (fun b u hc e=>⟨u,k' b u hc e⟩) (fun _ _ e=>e) (fun _ _ _ e=>e) (fun b ps e=>⟨#[],by rw[e];simp⟩) (fun m hm=>?_) (fun b u e=>?_) I.bare
  ·obtain ⟨_,f1,_,f3,f4,f5⟩:=hf b hb;exact ⟨f3,f1,f4,f5⟩
  ·obtain ⟨o1,es,ep,ho,r⟩:=hm;exact ⟨o1,es,ep,k' _ o1 (fun z=>(hf _ z).2.1 rfl) ho,r⟩
  ·refine (I.hok b u e).stay (fun c v hc q=>k' c v ?_ q) (fun _ q=>q) fun _ _ q=>q
   rcases hc with z | z
   ·rw[z];exact nch b u e
   ·exact nch c _ z
 self:=fun _ _ _ _ _ st h=>nR st.1 h
section
variable {elts:List Expr}{x1:Nat}{tpos:Pos}
def A1o(K:aF)(ta:TA):TI:=fun σ H R=>ta σ H fun vs H1=>∃ a b xs ys,vs=[.ref a,.ref b]/\SqT K H1 a xs/\SqT K H1 b ys/\R (Anv false false K a b) H1
theorem Aie{a b:Expr}{ta:TA}{p pos:Pos}(hg:Gl X "zip")(hm:X.mg "zip" = ψ)(ha:PA X [a,b] ta)(hs:bH [a,b] X.env=ZbG::bH [b] X.env:=by rfl)(hpl:(backTo pos (bH [b] X.env)).any (·.1)=false:=by rfl):PI X Zdd (.Call (.Name "zip" p) [a,b] [] pos) (A1o X.K ta):=by
 intro pins s σ H R I h;refine Call_ (P7 I hg hm Adp (eY (thn ZaY fun us s1 ⟨vs,H1,I1,r1,q1⟩=>?_) hs hpl));obtain ⟨l1,l2,xs,ys,rfl,sq1,sq2,q⟩:=q1;obtain ⟨u,u',rfl,ru,ru'⟩:=Agu r1;cases ru;cases ru';obtain ⟨its1,hv1,pl1,hz1⟩:=I1.tuple sq1;obtain ⟨its2,hv2,pl2,hz2⟩:=I1.tuple sq2;have lt1:l1 < s1.heap.objs.size:=by obtain ⟨o,e,_⟩:=pl1;exact aY e
 have lt2:l2 < s1.heap.objs.size:=by obtain ⟨o,e,_⟩:=pl2;exact aY e
 refine ZT.Ao7 pl1 pl2 fun h' o1 o2 o3 o4 o5 o7=>?_
 have I2:L2.Inv X pins σ H1 { s1 with heap:=h' }:=I1.kept (t':=s1.toks) o7;refine nR o1 ⟨_,_,_,_,H1,rfl,I2,Yr (b1:=false) (b2:=false) l1 l2 _ _ _ _ _ (Yt _ _ _ lt1 lt2),⟨o1,o2,⟨_,_,o3⟩,o4,o5⟩,fun b hb=>?_,q⟩;have hb':s1.heap.objs.size<=b:=by
  simp only[bG,cX,or_false] at hb;rcases hb with rfl | rfl | rfl | rfl | rfl <;> first | exact sC _ _ | exact aP _
 exact L2.Inv.fpOk I1 hb' (I1.hok.fresh hb')
noncomputable def Fb(us ws:List U):List U:=(us.zip ws).map fun p=>.tup [p.1,p.2]
theorem Lr(us ws:List U)(k:Nat):(Fb us ws)[k]? = Mt us[k]? ws[k]?:=by
 unfold Fb;rw[bD,List.zip,List.getElem?_zipWith];cases us[k]? <;> cases ws[k]? <;> rfl
theorem Aca{K:aF}{α:List Addr}{b:Addr}{us ws:List U}{ys:List V}(sa:SqT K H a xs)(sb:SqT K H b ys)(ra:RepL K H α us xs)(rb:RepL K H α ws ys):V0 K (Anv false false K a b) (.seq (Fb us ws)) H α:=by
 intro H2 α2 L2 g A2 k;have mv:∀ (c:Addr) (vs:List U) (zs:List V),SqT K H c zs->RepL K H α vs zs->∃ zs2,SqT K H2 c zs2/\RepL K H2 α2 vs zs2:=fun c vs zs s r=>by
  have m:=(show RepU K H α (.tup vs) (.ref c) by unfold RepU;exact ⟨c,zs,rfl,s,r⟩).mono g
  unfold RepU at m;obtain ⟨c',zs2,e,s2,r2⟩:=m;cases e;exact ⟨zs2,s2,r2⟩
 obtain ⟨xs2,sa2,ra2⟩:=mv a us xs sa ra;obtain ⟨ys2,sb2,rb2⟩:=mv b ws ys sb rb;refine ⟨fun u eu=>?_,fun eu=>?_⟩
 ·have eu:(Fb us ws)[k]? = ξ u:=by simpa[IU.at] using eu
  rw[Lr] at eu;cases h1:us[k]? with
  | none=>rw[h1] at eu;simp[Mt] at eu
  | some u1=>
   cases h2:ws[k]? with
   | none=>rw[h1,h2] at eu;simp[Mt] at eu
   | some u2=>
    rw[h1,h2] at eu;simp[Mt] at eu;subst eu;obtain ⟨x,hx,rx⟩:=ra2.get h1;obtain ⟨y,hy,ry⟩:=rb2.get h2;refine ⟨⟨xs2,ys2,x,y,sa2,sb2,hx,hy⟩,?_⟩;rintro z H3 ⟨p,v,v',hp,rfl,rfl,hy1,hy2⟩;have e1:=hy1 xs2 sa2;have e2:=hy2 ys2 sb2;rw[hx] at e1;cases e1;rw[hy] at e2;cases e2;exact A2.tup (.cons rx (.cons ry .nil)) hp
 ·have eu:(Fb us ws)[k]? = ψ:=by simpa[IU.at] using eu
  rw[Lr] at eu;refine ⟨xs2,ys2,sa2,sb2,?_⟩;cases h1:us[k]? with
  | none=>left;rw[<- ra2.length];exact cU.mp h1
  | some u1=>
   cases h2:ws[k]? with
   | none=>right;rw[<- rb2.length];exact cU.mp h2
   | some u2=>rw[h1,h2] at eu;simp[Mt] at eu
end
end MR
namespace MR
open PySem PySem.Spec PyProof.Rows PySem.Calls L2
theorem Arv{bs:List Bool}:∀ {us:List aH},Vals (bs.map V.bl) us->∀ (i:Nat) (v:aH),us[i]? = ξ v->∃ b,bs[i]? = ξ b/\v = .bool b:=by
 induction bs with
 | nil=>intro us r i v e;rw[bI] at r;cases r;simp at e
 | cons n ns ih=>
  intro us r i v e;rw[aI] at r;cases r with
  | cons r1 r2=>
   cases i with
   | zero=>simp at e;subst e;exact ⟨n,rfl,r1⟩
   | succ i=>simpa using ih r2 i v (by simpa using e)
theorem Ar5{bs:List Bool}:∀ {us:List aH},Vals (bs.map V.bl) us->us.length=bs.length:=by
 induction bs with
 | nil=>intro us r;rw[bI] at r;cases r;rfl
 | cons n ns ih=>
  intro us r;rw[aI] at r;cases r with
  | cons r1 r2=>simp[ih r2]
theorem Apg(bs:List Bool):((bM bs.length).all fun i=>(bs[i]?).getD true)=bs.all id:=by
 rw[lR,bQ,bQ];constructor
 ·intro h b hb;obtain ⟨i,hi,e⟩:=List.getElem_of_mem hb;have:=h i (cL.mpr hi);simp only[aG hi,kN,e] at this;exact this
 ·intro h i hi;have hi':=cL.mp hi;simp only[aG hi',kN];exact h _ (bZ hi')
section
variable {X:Cx}
theorem Apf{s:aN}{h':Heap}{o:Obj}(hk:∀ b x,b∉[s.heap.objs.size]->(s.heap.push o).get? b=ξ x->h'.get? b=ξ x):∀ b x,s.heap.get? b=ξ x->h'.get? b=ξ x:=
 fun b x e=>hk b x (fun hm=>by rw[cR.mp hm] at e;exact eK _ (aY e)) (aC _ e)
theorem Yd(hc:X.calm=true):CallR X (.builtin "all") (fun xs H Q=>∃ (p:Addr) (bs:List Bool),xs=[.ref p]/\SqL X.K H p (bs.map V.bl)/\Q (.bl (bs.all id)) H):=by
 intro pins s σ H xs us Q I r h;obtain ⟨p,bs,rfl,hq,q⟩:=h;obtain ⟨u,rfl,rx⟩:=Jw r;cases rx;obtain ⟨its,r',pl,hz⟩:=I.list hq;have hl:=pl.isList;have hlt:p < s.heap.objs.size:=by obtain ⟨_,e,_⟩:=hl;exact aY e
 refine call_all_walk (jX hl ?_);refine ⟨s.heap.objs.size,[s.heap.objs.size,p],[s.heap.objs.size],its.toArray.size,_,_,fun i=>(bs[i]?).getD true,rfl,Walks.list (A:=eA.in1 _) ZaM _ p (cF hlt) its.toArray,
  ⟨⟨_,aX _ rfl,rfl,rfl⟩,hl.push _⟩,fun i v s' Q' E' hP hQ=>?_,fun h' tk hk=>?_⟩
 ·obtain ⟨b,e,rfl⟩:=Arv r' i v (by simpa using hP);simp only[e,kN] at hQ;exact fA hQ
 ·have e:((bM its.toArray.size).all fun i=>(bs[i]?).getD true)=bs.all id:=by
   rw[aT,Ar5 r'];exact Apg bs
  rw[e];exact ⟨.bl (bs.all id),H,I.kept (Apf hk),rfl,q⟩
end
noncomputable def toB:U->Option Bool
 | .bl b=>ξ b
 | _=>ψ
theorem Agp{K:aF}{H:Hp}{α:List Addr}:∀ {us:List U} {xs:List V} {bs:List Bool},RepL K H α us xs->mapO toB us=ξ bs->xs=bs.map V.bl
 | [],xs,ys,r,h=>by unfold RepL at r;subst r;cases h;rfl
 | u::us,xs,ys,r,h=>by
  unfold RepL at r;obtain ⟨x,xr,rfl,r1,r2⟩:=r;obtain ⟨y,e1,h⟩:=aA.mp h;obtain ⟨yr,e2,h⟩:=aJ.mp h;subst h;cases u <;> simp only[toB] at e1 <;> first
   | (cases e1;unfold RepU at r1;subst r1;rw[Agp r2 e2];rfl)
   | cases e1
def R1:SC:=fun us L=>match us with
 | [.ref n]=>(Aw L n).bind fun l=>(mapO toB l).map fun bs=>(.bl (bs.all id),L)
 | _=>ψ
theorem Aii{K:aF}:O0 K (fun xs H Q=>∃ (p:Addr) (bs:List Bool),xs=[.ref p]/\SqL K H p (bs.map V.bl)/\Q (.bl (bs.all id)) H) R1:=by
 intro H α L us xs z L' Q A r e q;unfold R1 at e;split at e
 ·obtain ⟨l,hl,e⟩:=aA.mp e;obtain ⟨bs,e1,e⟩:=aJ.mp e;cases e;obtain ⟨x,rfl,rx⟩:=r.one;obtain ⟨a,ys,rfl,sq,r2⟩:=Hm A hl rx;rw[Agp r2 e1] at sq;exact ⟨a,bs,rfl,sq,q _ H α (.refl _ _) A rfl⟩
 ·cases e
section
variable {X:Cx}
end
end MR
namespace ZT
open PySem PySem.Spec PyProof.Rows
open Sem (wp)
section
variable {prog:cC}{w:cM}{A:eA}{E:aH->aN->Prop}{s:aN}
end
section
variable {prog:cC}{w:cM}{A:eA}{E:aH->aN->Prop}{s:aN}
end
end ZT
namespace MR
open PySem PySem.Spec PyProof.Rows L2
variable {X:Cx}
section
variable {elts:List Expr}{x1:Nat}{tpos:Pos}
end
structure CompScC(X:Cx)(scope:mW)(N':List Str)(ix:List Zaq):Prop where
 kind:scope.kind = .function
 own:(scope.names.all fun y=>scope.names.lookup y.1 == ξ y.2)=true
 free:(scope.names.all fun y=>y.2 != .free || (X.env.kindOf y.1 == ξ .cell || X.env.kindOf y.1 == ξ .free))=true
 ixs:((N'.zip ix).all fun p=>match p.2 with | none=>true | some i=>(X.N[i]? == ξ p.1)&&(scope.names.lookup p.1 == ξ .free))=true
 len:N'.length=ix.length
section
variable {scope:mW}{N':List Str}{ix:List Zaq}{pins:List (Addr×Obj)}{σ:L2.St}{H2:Hp}{s2:aN}{cl:List (Str×Addr)}{fp:List Addr}
theorem CompScC.lk(S:CompScC X scope N' ix){x:Str}{k:jZ}(h:(x,k)∈scope.names):scope.names.lookup x=ξ k:=by
 have:=bQ.mp S.own _ h;simpa using this
theorem CompScC.names(S:CompScC X scope N' ix):∀ x∈scope.names,x.2 = .local->scope.names.lookup x.1=ξ .local:=fun x hx hl=>by
 have:=S.lk (x:=x.1) (k:=x.2) hx;rw[hl] at this;exact this
theorem CompScC.clos(S:CompScC X scope N' ix)(ok:X.Ok):∃ cl,closureFor scope X.env=pure cl/\(∀ x c,cl.lookup x=ξ c->X.env.cells.lookup x=ξ c)/\∀ y∈scope.names,y.2 = .free->∃ c,cl.lookup y.1=ξ c:=by
 refine O8 fun y hy hf=>?_
 have:=bQ.mp S.free y hy;rw[hf] at this;simp at this;exact ok.has y.1 this
end
variable {tg:Expr}
section
variable {scope:mW}{N':List Str}{ix:List Zaq}{elt iter c:Expr}{pos:Pos}{fi:FI}{g:FG}{ft:FT}{fe:FE}
end
def Its(x:Str):It:=⟨fun i _=>i < x.cps.size,fun i H v H'=>H'=H/\∃ c,x.cps[i]? = ξ c/\v = .str ⟨#[c]⟩,fun i _=>x.cps.size<=i⟩
theorem Alu{P:cC}{w:cM}{K:aF}(x:Str)(t:Tok)(it:Addr):Turn P w K tg (Its x) [it] it (fun i h=>h.IsStrIter it "str_ascii_iterator" x t i) where
 mem:=Za
 obj:=fun i h st b hb=>by
  have e:b=it:=by simpa using hb
  subst e;obtain ⟨o,e,c,d⟩:=st;exact ⟨o,e,fun v z=>by rw[d] at z;cases z⟩
 keep:=fun i h h' st k=>by
  obtain ⟨o,e,r⟩:=st;exact ⟨o,k it Za o e,r⟩
 item:=by
  intro X hP hw hK hc i pins s σ H E I hf st hg;subst hP hw hK;obtain ⟨f0,f1,f2,f3,f4,f5⟩:=hf it Za;have hg:i < x.cps.size:=hg;have hx:x.cps[i]? = ξ (x.cps[i]'hg):=jA hg;refine wpAny_pyNext_ascii_item st hx fun h' st' sb=>?_
  have I1:Inv X pins σ H { s with heap:=h',toks:=s.toks+1 }:=I.turned (t':=s.toks+1) Zbl f0 f1 f3 f4 f5;obtain ⟨o,e,c,d⟩:=id st';exact ⟨_,rfl,Ago (s:={ s with heap:=h',toks:=s.toks+1 }) e c d Zb ⟨.str ⟨#[x.cps[i]'hg]⟩,H,I1,⟨_,rfl⟩,⟨rfl,_,hx,rfl⟩,st',fun b hb=>(hf b hb).1⟩⟩
 done:=by
  intro X hP hw hK hc i pins s σ H E I hf st hg;subst hP hw hK;obtain ⟨f0,f1,f2,f3,f4,f5⟩:=hf it Za;have hx:x.cps[i]? = ψ:=Array.getElem?_eq_none hg;exact wpAny_pyNext_ascii_end ZaM st hx fun h' eb=>⟨rfl,I.turned (t':=s.toks) Zb5 f0 f1 f3 f4 f5⟩
 self:=fun _ _ _ _ _ st h=>wpAny_pyIter_striter_ascii st h
def A43(tl:TE):TI:=fun σ H R=>tl σ H fun v H1=>∃ x:Str,v = .str x/\x.cps.all (· < 128)=true/\R (Its x) H1
section
theorem Axf{l:Expr}{tl:TE}(hl:PE X l tl):PI X tg l (A43 tl):=by
 intro pins s σ H R I h;refine thn Zc1 fun v s1 ⟨x,H1,I1,r1,q1⟩=>?_
 obtain ⟨x,rfl,ha,q⟩:=q1;obtain ⟨t,rfl⟩:=r1;refine wpAny_pyIter_ascii ha ?_;refine ⟨s1.heap.objs.size,[s1.heap.objs.size],_,_,H1,rfl,I1.kept (t':=s1.toks) fun b o e=>aC _ e,Alu x t _,⟨_,aX _ rfl,rfl,rfl⟩,fun b hb=>?_,q⟩;have e:b=s1.heap.objs.size:=by simpa using hb
 subst e;exact I1.fpOk (aP _) Zb7
noncomputable def Akd(x:Str):List U:=x.cps.toList.map fun c=>.str ⟨#[c]⟩
def Adc(f:FE):FI:=fun δ L=>(f δ L).bind fun p=>match p.1 with
 | .str x=>if x.cps.all (· < 128)=true then ξ (.seq (Akd x),p.2) else ψ
 | _=>ψ
theorem Ap2{K:aF}{H:Hp}{α:List Addr}(x:Str):V0 K (Its x) (.seq (Akd x)) H α:=by
 intro H2 α2 L2 g A2 k;refine ⟨fun u eu=>?_,fun eu=>?_⟩
 ·have eu:(Akd x)[k]? = ξ u:=by simpa[IU.at] using eu
  unfold Akd at eu;rw[bD] at eu;obtain ⟨c,hc,eu⟩:=aJ.mp eu;subst eu;have hc':x.cps[k]? = ξ c:=by simpa using hc
  have hk:k < x.cps.size:=by
   have:=(aQ.mp hc).1;simpa using this
  refine ⟨hk,?_⟩;rintro y H3 ⟨rfl,c',hc2,rfl⟩;rw[hc'] at hc2;cases hc2;exact ⟨.refl _ _,A2,rfl⟩
 ·have eu:(Akd x)[k]? = ψ:=by simpa[IU.at] using eu
  unfold Akd at eu;have:x.cps.toList.length<=k:=by simpa using eu
  show x.cps.size<=k;simpa using this
theorem Asa{l:Expr}{f:FE}(hl:PEF X l f):PIF X tg l (Adc f):=by
 refine PI.imp (Axf hl) ?_;rintro σ H R ⟨α,δ,L,A,S,i,L3,e,q⟩;obtain ⟨⟨u,L1⟩,e1,e⟩:=aA.mp e;simp only at e;split at e
 ·split at e
  ·rename_i ha;cases e;refine ⟨α,δ,L,A,S,_,_,e1,fun x H1 α1 g1 A1 r1=>?_⟩;unfold RepU at r1;subst r1;exact ⟨_,rfl,ha,q _ H1 α1 g1 A1 (Ap2 _)⟩
  ·cases e
 ·cases e
end
end MR
namespace ZT
open PySem PySem.Spec PyProof.Rows
open Sem (wp)
section
variable {prog:cC}{w:cM}{A:eA}{s:aN}{R:Result->aN->Prop}
variable {I:Addr}{fp wr:List Addr}{G:Array nL->Array nL->Prop}{n:Nat}{P:Nat->aH->Prop}{St:Nat->aN->Prop}
end
section
variable {prog:cC}{w:cM}{A:eA}{E:aH->aN->Prop}{s:aN}
variable {I:Addr}{fp wr:List Addr}{G:Array nL->Array nL->Prop}{n:Nat}{P:Nat->aH->Prop}{St:Nat->aN->Prop}
end
end ZT
namespace MR
open PySem PySem.Spec PyProof.Rows PySem.Calls L2
section
variable {X:Cx}
theorem Acj:iA "tuple" = ξ (.type "tuple"):=Zd
end
end MR
namespace ZT
open PySem PySem.Spec PyProof.Rows HT
section
variable {prog:cC}{w:cM}{A:eA}{E:aH->aN->Prop}{s:aN}
end
end ZT
namespace MR
open PySem PySem.Spec PyProof.Rows PySem.Calls L2
section
variable {X:Cx}{tg:Expr}
end
section
variable {X:Cx}
end
def Aqw:S2:=fun u w L=>match u,w with
 | .tup [],.tup b=>ξ (.tup b,L)
 | u,w=>Az u w L
@[simp] theorem Aur(i j:Int)(L:UH):Aqw (.int i) (.int j) L=ξ (.int (i+j),L):=rfl
end MR
namespace MR
open PySem PyProof.Rows L2
section
variable {X:Cx}
def Awm:V->Option Int->Option Int->Hp->VK->Prop:=fun x lo hi H Q=>∃ a,x = .str a/\a.length<=sizeLine/\Q (.str (kO a lo hi)) H
theorem Au3:SlR X Awm:=by
 intro pins s σ H x v vl vu lo hi sl Q I rx hs pl pu h;obtain ⟨a,rfl,hl,q⟩:=h;obtain ⟨t,rfl⟩:=rx;refine ⟨"str",_,F.slot_str_getitem.lookup,mL _ _ _,?_⟩;have fin:∀ (t':Tok) (k:Nat),EP X pins σ Q (.str (kO a lo hi) t') { s with toks:=k }:=fun t' k=>⟨.str (kO a lo hi),H,I.tok k,⟨_,rfl⟩,q⟩
 have hz:(kO a lo hi).length<=sizeLine:=bW (Txt.slice_le a _ _) hl;cases pl with
 | none=>
  cases pu with
  | none=>exact iG (l:=ψ) (u:=ψ) (st:=ψ) hs rfl Zeg
  | int j tj=>exact iG (l:=ψ) (u:=ξ (j,tj)) (st:=ψ) hs rfl Zeg
 | int i ti=>
  cases pu with
  | none=>exact iG (l:=ξ (i,ti)) (u:=ψ) (st:=ψ) hs rfl Zeg
  | int j tj=>exact iG (l:=ξ (i,ti)) (u:=ξ (j,tj)) (st:=ψ) hs rfl Zeg
def Ati:V->List V->Hp->VK->Prop:=fun x vs H Q=>∃ (a:Str) (l:Addr) (ys:List Str),x = .str a/\vs=[.ref l]/\H l=ξ (.lst (ys.map V.str))/\a.length<=16/\(ys.map (·.length)).sum+ys.length<=1048576/\Q (.str (gU a ys)) H
theorem Vl:∀ {its:List aH} {ys:List Str},Vals (ys.map V.str) its->StrsAre its ys
 | its,[],r=>by rw[bI] at r;cases r;exact .nil
 | its,y::ys,r=>by
  rw[aI] at r;cases r with
  | cons r1 r2=>
   obtain ⟨t',rfl⟩:=r1;exact .cons _ _ (Vl r2)
theorem Aas:MtR X "str.join" Ati:=by
 intro pins s σ H x vs v us Q I rx rv h;obtain ⟨a,l,ys,rfl,rfl,hH,ha,hw,q⟩:=h;obtain ⟨t,rfl⟩:=rx;obtain ⟨u,rfl,ru⟩:=rv.one;cases ru;obtain ⟨z,its,n,r,hl,e⟩:=I.lstM hH;exact join_listW ⟨_,e,rfl,_,rfl⟩ (by simpa using Vl r) ha hw fun t' k=>⟨.str (gU a ys),H,I.tok k,⟨_,rfl⟩,q⟩
end
def Vu:SS:=fun u lo hi L=>match u with
 | .str x=>if E4 x.length=true then ξ (.str (kO x lo hi),L) else ψ
 | u=>Cj u lo hi L
theorem Ape{X:Cx}:SlR X (fun x lo hi H Q=>Aqj X.K x lo hi H Q\/Awm x lo hi H Q):=Fq.or Au3
variable {K:aF}
theorem Arj:Am5 K (fun x lo hi H Q=>Aqj K x lo hi H Q\/Awm x lo hi H Q) Vu:=by
 intro H α L u x lo hi z L' Q A ru e q;cases u with
 | str a=>
  unfold Vu at e;simp only at e;split at e
  ·rename_i hs;cases e;unfold RepU at ru;subst ru;exact .inr ⟨a,rfl,Ec hs,q _ H α (.refl _ _) A rfl⟩
  ·cases e
 | tup l=>exact .inl (E7 H α L (.tup l) x lo hi z L' Q A ru e q)
 | ref n=>exact .inl (E7 H α L (.ref n) x lo hi z L' Q A ru e q)
 | _=>cases e
noncomputable def toS:U->Option Str
 | .str a=>ξ a
 | _=>ψ
theorem Ah0{H:Hp}{α:List Addr}:∀ {us:List U} {xs:List V} {ys:List Str},RepL K H α us xs->mapO toS us=ξ ys->xs=ys.map V.str
 | [],xs,ys,r,e=>by
  unfold RepL at r;cases e;exact r
 | u::us,xs,ys,r,e=>by
  unfold RepL at r;obtain ⟨x,xr,rfl,rx,r⟩:=r;unfold mapO at e;obtain ⟨y,hy,e⟩:=aA.mp e;obtain ⟨yr,hyr,e⟩:=aJ.mp e;cases e;cases u with
  | str a=>
   cases hy;unfold RepU at rx;rw[rx,Ah0 r hyr];rfl
  | _=>cases hy
def Ey:SM:=fun u us L=>match u,us with
 | .str a,[.ref n]=>(Gz L n).bind fun l=>(mapO toS l).bind fun ys=>if a.length<=16/\(ys.map (·.length)).sum+ys.length<=1048576 then ξ (.str (gU a ys),L) else ψ
 | _,_=>ψ
theorem Vo:Ad2 K Ati Ey:=by
 intro H α L u us x xs z L' Q A ru r e q;unfold Ey at e;split at e
 ·obtain ⟨l,hl,e⟩:=aA.mp e;obtain ⟨ys,hys,e⟩:=aA.mp e;split at e
  ·rename_i hc;cases e;unfold RepU at ru;subst ru;obtain ⟨v,rfl,rv⟩:=r.one;obtain ⟨a',zs,rfl,ea,h,r2⟩:=Ud A hl rv;rw[Ah0 r2 hys] at h;exact ⟨_,a',ys,rfl,rfl,h,hc.1,hc.2,q _ H α (.refl _ _) A rfl⟩
  ·cases e
 ·cases e
end MR
namespace MR
open PySem PySem.W PyProof.Rows L2
end MR
namespace Att
open PySem PySem.W PySem.Calls PyProof.Rows L2 MR
end Att
namespace MR
open PySem PyProof.Rows L2
noncomputable def g0(us ws:List aH):List aH:=match us with | []=>ws | _=>[]
section
variable {X:Cx}{k:Nat}{f:Addr}{fd:dS}{p:Str}{ps:List Str}{x:Str}{pp pos kpos:Pos}{e:Expr}{kws:List iS}{nm:Option Str}
theorem PK.imp{t t':TA}(h:PK X kws t)(hi:∀ σ H Q,t' σ H Q->t σ H Q):PK X kws t':=fun pos pins s σ H Q I q=>h pos pins s σ H Q I Zdy
end
end MR
namespace MR
open PySem PySem.Spec PyProof.Rows PySem.Calls L2
section
variable {X:Cx}
end
section
variable {X:Cx}
end
end MR
namespace MR
open PySem PyProof.Rows L2
variable {K:aF}{H:Hp}{α:List Addr}
theorem RepL.init:∀ {us:List U} {xs:List V},RepL K H α us xs->RepL K H α us.dropLast xs.dropLast
 | [],xs,r=>by unfold RepL at r;subst r;exact .nil
 | [u],xs,r=>by
  unfold RepL at r;obtain ⟨x,xr,rfl,rx,r⟩:=r;unfold RepL at r;subst r;exact .nil
 | u::w::us,xs,r=>by
  unfold RepL at r;obtain ⟨x,xr,rfl,rx,r⟩:=r;have r':=r;unfold RepL at r';obtain ⟨y,yr,rfl,ry,_⟩:=r';exact .cons rx (RepL.init r)
def toK:U->Option Key
 | .int i=>ξ (.inl i)
 | .str x=>ξ (.inr x)
 | _=>ψ
variable {u:U}{x:V}{k:Key}
theorem Aa2(r:RepU K H α u x)(h:toK u=ξ k):x=kV k:=by
 cases u <;> simp only[toK] at h <;> first | (cases h;unfold RepU at r;exact r) | cases h
def U7(kvs:List (Key×U))(k:Key):Option U:=(kvs.find? fun kv=>decide (kv.1=k)).map (·.2)
def An0(kvs:List (Key×U))(k:Key)(v:U):List (Key×U):=
 if ZcN=true then kvs.map (fun kv=>if kv.1=k then (kv.1,v) else kv) else kvs++[(k,v)]
variable {kvs:List (Key×U)}{vs:List (Key×V)}
section
def RepKV(K:aF)(H:Hp)(α:List Addr)(kvs:List (Key×U))(vs:List (Key×V)):Prop:=kvs.map (·.1)=vs.map (·.1)/\RepL K H α (kvs.map (·.2)) (vs.map (·.2))
theorem RepKV.nil:RepKV K H α [] []:=⟨rfl,.nil⟩
theorem RepKV.cons{kv:Key×U}(h:RepKV K H α (kv::kvs) vs):∃ x vs',vs=(kv.1,x)::vs'/\RepU K H α kv.2 x/\RepKV K H α kvs vs':=by
 obtain ⟨h1,h2⟩:=h;cases vs with
 | nil=>simp at h1
 | cons w vs'=>
  simp only[aI,fI] at h1;rw[aI,aI] at h2;unfold RepL at h2;obtain ⟨x,xr,hx,rx,r⟩:=h2;injection hx with e1 e2
  subst e1;refine ⟨w.2,vs',by rw[h1.1],rx,h1.2,?_⟩;rw[e2];exact r
theorem RepKV.mk(r:RepU K H α u x)(h:RepKV K H α kvs vs):RepKV K H α ((k,u)::kvs) ((k,x)::vs):=
 ⟨by simp[h.1],by rw[aI,aI];exact .cons r h.2⟩
theorem RepKV.val:∀ {kvs:List (Key×U)} {vs:List (Key×V)},RepKV K H α kvs vs->U7 kvs k=ξ u->∃ x,Ny vs k=ξ x/\RepU K H α u x
 | [],vs,_,e=>by simp[U7] at e
 | kv::kvs,vs,r,e=>by
  obtain ⟨x,vs',rfl,rx,r'⟩:=r.cons;unfold U7 at e;unfold Ny;rw[gH] at e ⊢;by_cases h:kv.1=k
  ·simp only[h,decide_true,aE] at e ⊢;cases e;exact ⟨x,rfl,rx⟩
  ·simp only[h,decide_false] at e ⊢;exact RepKV.val r' e
theorem RepKV.any:∀ {kvs:List (Key×U)} {vs:List (Key×V)},RepKV K H α kvs vs->(kvs.any fun kv=>decide (kv.1=k))=(vs.any fun kv=>decide (kv.1=k))
 | [],vs,r=>by
  obtain ⟨h1,_⟩:=r;cases vs with
  | nil=>rfl
  | cons _ _=>simp at h1
 | kv::kvs,vs,r=>by
  obtain ⟨x,vs',rfl,rx,r'⟩:=r.cons;rw[eZ,eZ,RepKV.any r']
theorem RepKV.len(r:RepKV K H α kvs vs):kvs.length=vs.length:=by
 have:=congrArg iI r.1;simpa using this
theorem RepKV.upd(ru:RepU K H α u x):∀ {kvs:List (Key×U)} {vs:List (Key×V)},RepKV K H α kvs vs->RepKV K H α (kvs.map fun kv=>if kv.1=k then (kv.1,u) else kv) (vs.map fun kv=>if kv.1=k then (kv.1,x) else kv)
 | [],vs,r=>by
  obtain ⟨h1,_⟩:=r;cases vs with
  | nil=>exact .nil
  | cons _ _=>simp at h1
 | kv::kvs,vs,r=>by
  obtain ⟨y,vs',rfl,ry,r'⟩:=r.cons;rw[aI,aI];by_cases h:kv.1=k
  ·rw[if_pos h,if_pos h];exact .mk ru (RepKV.upd ru r')
  ·rw[if_neg h,if_neg h];exact .mk ry (RepKV.upd ru r')
theorem RepKV.add(ru:RepU K H α u x):∀ {kvs:List (Key×U)} {vs:List (Key×V)},RepKV K H α kvs vs->RepKV K H α (kvs++[(k,u)]) (vs++[(k,x)])
 | [],vs,r=>by
  obtain ⟨h1,_⟩:=r;cases vs with
  | nil=>exact .mk ru .nil
  | cons _ _=>simp at h1
 | kv::kvs,vs,r=>by
  obtain ⟨y,vs',rfl,ry,r'⟩:=r.cons;exact .mk ry (RepKV.add ru r')
theorem RepKV.put(ru:RepU K H α u x)(r:RepKV K H α kvs vs):RepKV K H α (An0 kvs k u) (Rj vs k x):=by
 unfold An0 Rj;rw[r.any];split
 ·exact r.upd ru
 ·exact r.add ru
theorem RepKV.mono{H':Hp}{α':List Addr}(r:RepKV K H α kvs vs)(g:Gr H α H' α'):RepKV K H' α' kvs vs:=⟨r.1,r.2.mono g⟩
end
def Mx(L:UH)(n:Nat):Option (List (Key×U)):=match L[n]? with
 | some (.dic kvs)=>ξ kvs
 | _=>ψ
variable {L:UH}{n:Nat}
theorem U9(h:Mx L n=ξ kvs):L[n]? = ξ (.dic kvs):=by
 unfold Mx at h;split at h
 ·rename_i e;cases h;exact e
 ·cases h
theorem Ov(A:Abs K H α L)(h:Mx L n=ξ kvs)(r:RepU K H α (.ref n) x):∃ a vs,x = .ref a/\α[n]? = ξ a/\H a=ξ (.dK vs)/\RepKV K H α kvs vs:=by
 unfold RepU at r;obtain ⟨a,ea,rfl⟩:=r;obtain ⟨vs,e,k1,k2⟩:=A.rep n a _ ea (U9 h);exact ⟨a,vs,rfl,ea,e,k1,k2⟩
theorem Abs.setD{a:Addr}{ws:List (Key×V)}{kws:List (Key×U)}(A:Abs K H α L)(h:Mx L n=ξ kvs)(ea:α[n]? = ξ a)(e:H a=ξ (.dK vs))(r:RepKV K H α kws ws) :
  Gr H α (upd H a (.dK ws)) α/\Abs K (upd H a (.dK ws)) α (L.set n (.dic kws)):=by
 have g:Gr H α (upd H a (.dK ws)) α:=⟨⟨[],Za⟩,.write e (by exact trivial) _⟩;obtain ⟨A',_⟩:=A.put (o:=.dK ws) (u:=.dic kws) ea (U9 h) rfl rfl e (by exact trivial) ⟨ws,upd_same,(r.mono g).1,(r.mono g).2⟩;exact ⟨g,A'⟩
section
variable {X:Cx}{o i value:Expr}{pos pos':Pos}{fo fi fv:FE}
def Alb:FE:=fun _ L=>ξ (.ref L.length,L++[.dic []])
theorem Aru:PEF X (.Dict [] [] pos) Alb:=by
 refine PE.imp Aml ?_;rintro σ H Q ⟨α,δ,L,A,S,z,L3,e,q⟩;cases e;intro p hp;have g:Gr H α (upd H p (.dK [])) (α ++ [p]):=⟨⟨[p],rfl⟩,.new hp _⟩;obtain ⟨A',_⟩:=A.new (o:=.dK []) (u:=.dic []) hp ⟨[],upd_same,rfl,.nil⟩;refine q _ _ _ g A' ?_;unfold RepU;exact ⟨p,by rw[<- A.len];simp,rfl⟩
def Adx(fo fi fv:FE):FS:=fun δ L=>(fv δ L).bind fun p=>(fo δ p.2).bind fun q=>(fi δ q.2).bind fun r=>match q.1 with
 | .ref n=>(toK r.1).bind fun k=>(Mx r.2 n).bind fun kvs=>if kvs.length < 1000000 then ξ (.nx δ,r.2.set n (.dic (An0 kvs k p.1))) else ψ
 | _=>ψ
theorem Adj(hu:X.A.units+64 < cLine)(ho:PEF X o fo)(hi:PEF X i fi)(hv:PEF X value fv)(hs:swapsWith value (ξ (.Subscript o i pos')) pos.line X.env=pure false:=by rfl):PSF X (.Assign [.Subscript o i pos'] value pos) (Adx fo fi fv):=by
 refine PS.imp (Apt Ze ho hi hv hs) ?_;rintro D σ H ⟨α,δ,L,A,S,fl,L',e,q⟩;obtain ⟨⟨v,L1⟩,e1,e⟩:=aA.mp e;obtain ⟨⟨u,L2⟩,e2,e⟩:=aA.mp e;obtain ⟨⟨w,L3⟩,e3,e⟩:=aA.mp e;refine ⟨α,δ,L,A,S,v,L1,e1,fun xv H1 α1 g1 A1 rv=>⟨α1,δ,L1,A1,S.mono g1,u,L2,e2,fun x H2 α2 g2 A2 rx=>⟨α2,δ,L2,A2,(S.mono g1).mono g2,w,L3,e3,fun y H3 α3 g3 A3 ry=>?_⟩⟩⟩;simp only at e;split at e
 ·obtain ⟨k,hk,e⟩:=aA.mp e;obtain ⟨kvs,hd,e⟩:=aA.mp e;split at e
  ·rename_i hl;cases e;obtain ⟨a,vs,rfl,ea,ha,rk⟩:=Ov A3 hd (rx.mono g3);have rv':=rv.mono (g2.trans g3);obtain ⟨g4,A4⟩:=A3.setD hd ea ha (rk.put (k:=k) rv');refine ⟨a,_,rfl,?_,q σ _ α3 ((g1.trans (g2.trans g3)).trans g4) A4 ((((S.mono g1).mono g2).mono g3).mono g4)⟩;rw[Aa2 ry hk];exact DPut.k ha (by rw[<- rk.len];unfold sizeLine;omega)
  ·cases e
 ·cases e
end
theorem A3y{β:Type}{P:List β->Prop}(h:P [])(us:List β)(hl:us.length=0):P us:=by
 cases us with
 | nil=>exact h
 | cons=>cases hl
theorem Arn{β:Type}{P:List β->Prop}(h:∀ (a:β) (us:List β),us.length=n->P (a::us))(us:List β)(hl:us.length=n+1):P us:=by
 cases us with
 | nil=>cases hl
 | cons a us=>exact h a us (Nat.succ.inj hl)
theorem Axu{β:Type}{P:List β->Prop}(h:∀ a,P [a]):∀ us:List β,us.length=1->P us:=Arn fun a=>A3y (h a)
theorem Avu{β:Type}{P:List β->Prop}(h:∀ a b,P [a,b]):∀ us:List β,us.length=2->P us:=Arn fun a=>Axu (h a)
theorem Axa{β:Type}{P:List β->Prop}(h:∀ a b c,P [a,b,c]):∀ us:List β,us.length=3->P us:=Arn fun a=>Avu (h a)
theorem Ayn{β:Type}{P:List β->Prop}(h:∀ a b c d,P [a,b,c,d]):∀ us:List β,us.length=4->P us:=Arn fun a=>Axa (h a)
section
variable {X:Cx}{elts:List Expr}{x1:Nat}{tpos:Pos}
def Ys(g:FA):FI:=fun δ L=>(g δ L).bind fun p=>match p.1 with
 | [.tup us,.tup ws]=>ξ (.seq (Fb us ws),p.2)
 | _=>ψ
theorem Amq{a b:Expr}{g:FA}{p pos:Pos}(hg:Gl X "zip")(hm:X.mg "zip" = ψ)(ha:PAF X [a,b] g)(hs:bH [a,b] X.env=ZbG::bH [b] X.env:=by rfl)(hpl:(backTo pos (bH [b] X.env)).any (·.1)=false:=by rfl):PIF X Zdd (.Call (.Name "zip" p) [a,b] [] pos) (Ys g):=by
 refine PI.imp (Aie hg hm ha hs hpl) ?_;rintro σ H R ⟨α,δ,L,A,S,i,L3,e,q⟩;obtain ⟨⟨us,L1⟩,e1,ee⟩:=aA.mp e;simp only at ee;split at ee
 ·cases ee;refine ⟨α,δ,L,A,S,_,_,e1,fun xs H1 α1 g1 A1 r1=>?_⟩;obtain ⟨x,y,rfl,rx,ry⟩:=r1.two;unfold RepU at rx ry;obtain ⟨a',ys,rfl,sq,r2⟩:=rx;obtain ⟨b',ys',rfl,sq',r2'⟩:=ry;exact ⟨a',b',ys,ys',rfl,sq,sq',q _ H1 α1 g1 A1 (Aca sq sq' r2 r2')⟩
 ·cases ee
end
end MR
namespace MR
open PySem L2
@[simp] theorem fVar_eq(i:Nat)(δ:UE)(L:UH):Ae i δ L=(δ[i]?).join.map fun u=>(u,L):=rfl
@[simp] theorem fC_eq(u:U)(δ:UE)(L:UH):fC u δ L=ξ (u,L):=rfl
@[simp] theorem f2_eq(s:S2)(a b:FE)(δ:UE)(L:UH):f2 s a b δ L=(a δ L).bind fun p=>(b δ p.2).bind fun q=>s p.1 q.1 q.2:=rfl
@[simp] theorem fTest_eq(f:FE)(δ:UE)(L:UH):Av f δ L=(f δ L).bind fun p=>match p.1 with | .bl k=>ξ (k,p.2) | _=>ψ:=rfl
@[simp] theorem Rh(f g:FT)(δ:UE)(L:UH):Nt f g δ L=(f δ L).bind fun p=>if p.1=true then g δ p.2 else ξ (false,p.2):=rfl
@[simp] theorem fOr_eq(f g:FT)(δ:UE)(L:UH):fOr f g δ L=(f δ L).bind fun p=>if p.1=true then ξ (true,p.2) else g δ p.2:=rfl
@[simp] theorem Ah2(f:FT)(δ:UE)(L:UH):Wg f δ L=(f δ L).map fun p=>(!p.1,p.2):=rfl
@[simp] theorem Hu(f g:FE)(δ:UE)(L:UH):Wx f g δ L=(f δ L).bind fun p=>match p.1 with | .bl k=>if k=true then g δ p.2 else ξ (.bl false,p.2) | _=>ψ:=rfl
@[simp] theorem Asb(f g:FE)(δ:UE)(L:UH):Apa f g δ L=(f δ L).bind fun p=>match p.1 with | .bl k=>if k=true then ξ (.bl true,p.2) else g δ p.2 | _=>ψ:=rfl
@[simp] theorem A0c(f:FE)(δ:UE)(L:UH):Az0 f δ L=(f δ L).bind fun p=>match p.1 with | .bl k=>ξ (.bl (!k),p.2) | _=>ψ:=rfl
@[simp] theorem Awz(c:FT)(f g:FE)(δ:UE)(L:UH):fIf c f g δ L=(c δ L).bind fun p=>if p.1=true then f δ p.2 else g δ p.2:=rfl
@[simp] theorem fNil_eq(δ:UE)(L:UH):Ah δ L=ξ ([],L):=rfl
@[simp] theorem fCons_eq(f:FE)(g:FA)(δ:UE)(L:UH):Ad f g δ L=(f δ L).bind fun p=>(g δ p.2).map fun q=>(p.1::q.1,q.2):=rfl
@[simp] theorem fTup_eq(g:FA)(δ:UE)(L:UH):Gi g δ L=(g δ L).bind fun p=>if E4 p.1.length=true then ξ (.tup p.1,p.2) else ψ:=rfl
@[simp] theorem fLst_eq(g:FA)(δ:UE)(L:UH):Cg g δ L=(g δ L).bind fun p=>if E4 p.1.length=true then ξ (.ref p.2.length,p.2++[.lst p.1]) else ψ:=rfl
@[simp] theorem fCall_eq(s:SC)(g:FA)(δ:UE)(L:UH):Ay s g δ L=(g δ L).bind fun p=>s p.1 p.2:=rfl
@[simp] theorem fOwn_eq(n:Nat)(F:FN)(g:FA)(δ:UE)(L:UH):A9 n F g δ L=(g δ L).bind fun p=>if p.1.length=n then F p.1 p.2 else ψ:=rfl
@[simp] theorem fMeth_eq(T:String)(s:SM)(f:FE)(g:FA)(δ:UE)(L:UH):Dc T s f g δ L=(f δ L).bind fun p=>if tyU T p.1 p.2=true then (g δ p.2).bind fun q=>s p.1 q.1 q.2 else ψ:=rfl
@[simp] theorem fPart_eq(f:FE)(δ:UE)(L:UH):B3 f δ L=(f δ L).bind fun p=>match p.1 with | .int i=>ξ (ξ i,p.2) | _=>ψ:=rfl
@[simp] theorem fNoPart_eq(δ:UE)(L:UH):Bw δ L=ξ (ψ,L):=rfl
@[simp] theorem fSl_eq(s:SS)(f:FE)(l h:FO)(δ:UE)(L:UH):fSl s f l h δ L=(f δ L).bind fun p=>(l δ p.2).bind fun q=>(h δ q.2).bind fun r=>s p.1 q.1 r.1 r.2:=rfl
@[simp] theorem Ap7(f:FE)(δ:UE)(L:UH):Rw f δ L=(f δ L).bind fun p=>match p.1 with | .int i=>ξ (.int (-i),p.2) | _=>ψ:=rfl
@[simp] theorem fTru_eq(f:FE)(δ:UE)(L:UH):G5 f δ L=(f δ L).bind fun p=>(Ua p.1 p.2).map fun k=>(k,p.2):=rfl
@[simp] theorem A29(c:String)(f:FE)(δ:UE)(L:UH):A5d c f δ L=(f δ L).bind fun p=>(Ano p.1 p.2).map fun t=>(.bl (isT t c),p.2):=rfl
@[simp] theorem Qs(δ:UE)(L:UH):B2 δ L=ξ (.nx δ,L):=rfl
@[simp] theorem fSeq_eq(f g:FS)(δ:UE)(L:UH):Ba f g δ L=(f δ L).bind fun p=>match p.1 with | .nx δ'=>g δ' p.2 | fl=>ξ (fl,p.2):=rfl
@[simp] theorem fRet_eq(f:FE)(δ:UE)(L:UH):Cf f δ L=(f δ L).map fun p=>(.rt p.1,p.2):=rfl
@[simp] theorem V3(f:FE)(δ:UE)(L:UH):Dl f δ L=(f δ L).map fun p=>(.nx δ,p.2):=rfl
@[simp] theorem A0l(δ:UE)(L:UH):A0w δ L=ξ (.rt .non,L):=rfl
@[simp] theorem Il(c:FT)(f g:FS)(δ:UE)(L:UH):C6 c f g δ L=(c δ L).bind fun p=>if p.1=true then f δ p.2 else g δ p.2:=rfl
@[simp] theorem gN_eq(i:Nat)(u:U)(δ:UE)(L:UH):gN i u δ L=ξ (δ.set i (ξ u),L):=rfl
@[simp] theorem A28(δ:UE)(L:UH):MR.gNil [] δ L=ξ (δ,L):=rfl
@[simp] theorem A2b(f:FG)(g:FGs)(u:U)(r:List U)(δ:UE)(L:UH):MR.gCons f g (u::r) δ L=(f u δ L).bind fun p=>g r p.1 p.2:=rfl
@[simp] theorem A3b(n:Nat)(g:FGs)(us:List U)(δ:UE)(L:UH):MR.gTup n g (.tup us) δ L=if us.length=n then g us δ L else ψ:=rfl
@[simp] theorem A27(a b:FE)(v:U)(δ:UE)(L:UH):MR.gSub a b v δ L=(a δ L).bind fun p=>(b δ p.2).bind fun q=>match p.1,q.1 with
 | .ref n,.int k=>(Gz q.2 n).bind fun l=>(ixN l.length k).map fun j=>(δ,q.2.set n (.lst (l.set j v)))
 | _,_=>ψ:=rfl
@[simp] theorem Hg(f:FE)(g:FG)(δ:UE)(L:UH):Bh f g δ L=(f δ L).bind fun p=>(g p.1 δ p.2).map fun q=>(.nx q.1,q.2):=rfl
@[simp] theorem Ag4(fi:FI)(g:FG)(b:FS)(δ:UE)(L:UH):Qo fi g b δ L=(fi δ L).bind fun p=>Q4 p.1 g b (p.1.size p.2+1) 0 δ p.2:=rfl
@[simp] theorem Df(f:FE)(δ:UE)(L:UH):Br f δ L=(f δ L).bind fun p=>(Gm p.1 p.2).map fun i=>(i,p.2):=rfl
@[simp] theorem Anc(g:FA)(δ:UE)(L:UH):Eh g δ L=(g δ L).bind fun p=>match p.1 with
 | [.int j]=>if -(2 ^ 62)<=j/\j < 2 ^ 62 then ξ (.seq (C4 0 j.toNat),p.2) else ψ
 | _=>ψ:=rfl
@[simp] theorem E6(i j:Int)(L:UH):Az (.int i) (.int j) L=ξ (.int (i+j),L):=rfl
@[simp] theorem semSub_int(i j:Int)(L:UH):Fp (.int i) (.int j) L=ξ (.int (i - j),L):=rfl
@[simp] theorem Afm(i j:Int)(L:UH):Kp (.int i) (.int j) L=if Jt i j=true then ξ (.int (i * j),L) else ψ:=rfl
@[simp] theorem semDiv_int(i j:Int)(L:UH):He (.int i) (.int j) L=if Te i j=true then ξ (.int (i / j),L) else ψ:=rfl
@[simp] theorem Afh(i j:Int)(L:UH):Kc (.int i) (.int j) L=if decide (0 < j)=true then ξ (.int (i % j),L) else ψ:=rfl
@[simp] theorem Afu(i j:Int)(L:UH):Hx (.int i) (.int j) L=if Y3 i j=true then ξ (.int (i ^ j.toNat),L) else ψ:=rfl
@[simp] theorem semLe_int(i j:Int)(L:UH):Dx (.int i) (.int j) L=ξ (.bl (decide (i<=j)),L):=rfl
@[simp] theorem semLt_int(i j:Int)(L:UH):Nb (.int i) (.int j) L=ξ (.bl (decide (i < j)),L):=rfl
@[simp] theorem Yo(i j:Int)(L:UH):Vd (.int i) (.int j) L=ξ (.bl (decide (j < i)),L):=rfl
@[simp] theorem Ai9(i j:Int)(L:UH):V8 (.int i) (.int j) L=ξ (.bl (decide (j<=i)),L):=rfl
@[simp] theorem Lg(i j:Int)(L:UH):B9 (.int i) (.int j) L=ξ (.bl (i == j),L):=rfl
@[simp] theorem Akn(i j:Int)(L:UH):Dd (.int i) (.int j) L=ξ (.bl (!(i == j)),L):=rfl
@[simp] theorem A0y(i j:Bool)(L:UH):B9 (.bl i) (.bl j) L=ξ (.bl (i == j),L):=rfl
@[simp] theorem Ax8(i j:Bool)(L:UH):Dd (.bl i) (.bl j) L=ξ (.bl (!(i == j)),L):=rfl
@[simp] theorem A11(i j:Bool)(L:UH):A22 false (.bl i) (.bl j) L=ξ (.bl (i == j),L):=rfl
@[simp] theorem Sa(l:List U)(i:Int)(L:UH):Al (.tup l) (.int i) L=(L2.atI l i).map fun z=>(z,L):=rfl
@[simp] theorem Ai3(n:Nat)(i:Int)(L:UH):Al (.ref n) (.int i) L=(Aw L n).bind fun l=>(L2.atI l i).map fun z=>(z,L):=rfl
@[simp] theorem truU_bl(b:Bool)(L:UH):Ua (.bl b) L=ξ b:=rfl
variable {L:UH}{n:Nat}{us:List U}
theorem Am(h:L[n]? = ξ (.lst us)):Aw L n=ξ us:=by unfold Aw;rw[h]
theorem Ew(h:L[n]? = ξ (.lst us)):Gz L n=ξ us:=by unfold Gz;rw[h]
theorem small_of(h:n<=16777216):E4 n=true:=by unfold E4 sizeLine;exact decide_eq_true Ze
variable {i:Int}
theorem Sf{β:Type}{l:List β}(h0:0<=i)(h:i < l.length):L2.atI l i=l[i.toNat]?:=by
 unfold L2.atI ixN;rw[if_pos h0,if_pos h];rfl
variable {j:Int}
theorem Aap(h1:-1000000000000000000<=i)(h2:i<=1000000000000000000):Jt i j=true:=by
 unfold Jt;simp only[lL,bY,decide_eq_true_eq];left;constructor <;> omega
theorem Ub(h1:-1000000000000000000<=j)(h2:j<=1000000000000000000):Jt i j=true:=by
 unfold Jt;simp only[lL,bY,decide_eq_true_eq];right;constructor <;> omega
theorem Nn(h1:0 < j)(h2:j < 1152921504606846976):Te i j=true:=by
 unfold Te;simp only[bY,decide_eq_true_eq];exact ⟨h1,h2⟩
def Aes(g:FG)(body:FS)(u:U)(δ:UE)(L:UH)(R:UE->UH->Prop):Prop:=∃ δ1 L1,g u δ L=ξ (δ1,L1)/\∃ δ2 L2,(body δ1 L1=ξ (.nx δ2,L2)\/body δ1 L1=ξ (.ct δ2,L2))/\R δ2 L2
variable {it:IU}{g:FG}{body:FS}
theorem Wk{it:IU}{g:FG}{body:FS}{us:List U}(P:Nat->UE->UH->Prop)(hat:∀ k δ L,k<=us.length->P k δ L->it.at k L=ξ us[k]?)
  (step:∀ k u δ L,us[k]? = ξ u->P k δ L->Aes g body u δ L (P (k+1))) :
  ∀ (m k:Nat) (δ:UE) (L:UH),us.length < m+k->k<=us.length->P k δ L->∃ δ' L',Q4 it g body m k δ L=ξ (.nx δ',L')/\P us.length δ' L'
 | 0,k,δ,L,h1,h2,_=>by omega
 | m+1,k,δ,L,h1,h2,hP=>by
  have hk:=hat k δ L h2 hP;unfold Q4;rw[hk];cases hu:us[k]? with
  | none=>
   have:k=us.length:=by have:=cU.mp hu;omega
   subst this;exact ⟨δ,L,rfl,hP⟩
  | some u=>
   have hlt:k < us.length:=(aQ.mp hu).1;obtain ⟨δ1,L1,e1,δ2,L2,e2,hP2⟩:=step k u δ L hu hP;obtain ⟨δ',L',e3,hP3⟩:=Wk P hat step m (k+1) δ2 L2 Ze Ze hP2;refine ⟨δ',L',?_,hP3⟩;rcases e2 with e2 | e2
   ·simp only[e1,aB,e2,e3]
   ·simp only[e1,aB,e2,e3]
variable {fi:FI}{δ:UE}{L0:UH}
theorem Aaq(P:Nat->UE->UH->Prop)(hi:fi δ L=ξ (.seq us,L0))(h0:P 0 δ L0)(step:∀ k u δ L,us[k]? = ξ u->P k δ L->Aes g body u δ L (P (k+1))) :
  ∃ δ' L',Qo fi g body δ L=ξ (.nx δ',L')/\P us.length δ' L':=by
 obtain ⟨δ',L',e,h⟩:=Wk (it:=.seq us) (g:=g) (body:=body) (us:=us) P (fun _ _ _ _ _=>rfl) step (us.length+1) 0 δ L0 Ze Ze h0;exact ⟨δ',L',by rw[Ag4,hi];exact e,h⟩
theorem Qm(P:Nat->UE->UH->Prop)(hi:fi δ L=ξ (.ref n,L0))(h0:P 0 δ L0)(hl:∀ k δ L,P k δ L->Aw L n=ξ us)(step:∀ k u δ L,us[k]? = ξ u->P k δ L->Aes g body u δ L (P (k+1))) :
  ∃ δ' L',Qo fi g body δ L=ξ (.nx δ',L')/\P us.length δ' L':=by
 have hat:∀ k δ L,k<=us.length->P k δ L->(IU.ref n).at k L=ξ us[k]?:=fun k δ L _ hp=>by
  have:=hl k δ L hp;unfold Aw at this;unfold IU.at;simp only;split at this
  ·rename_i e;cases this;first | rw[e] | rfl
  ·rename_i e;cases this;first | rw[e] | rfl
  ·cases this
 have hsz:(IU.ref n).size L0=us.length:=by
  have:=hl 0 δ L0 h0;unfold Aw at this;unfold IU.size;simp only;split at this
  ·rename_i e;cases this;first | rw[e] | rfl
  ·rename_i e;cases this;first | rw[e] | rfl
  ·cases this
 obtain ⟨δ',L',e,h⟩:=Wk (it:=.ref n) (g:=g) (body:=body) (us:=us) P hat step (us.length+1) 0 δ L0 Ze Ze h0;exact ⟨δ',L',by rw[Ag4,hi];simp only[aB,hsz];exact e,h⟩
theorem Ck(h:Aw L n=ξ us):Gm (.ref n) L=ξ (.ref n):=by
 unfold Aw at h;unfold Gm;simp only;split at h
 ·rename_i e;first | rw[e] | rfl
 ·rename_i e;first | rw[e] | rfl
 ·cases h
variable {u:U}
theorem Jn{lo:Int}{k:Nat}(h:(C4 lo n)[k]? = ξ u):k < n/\u = .int (lo+k):=by
 unfold C4 at h;rw[bD] at h;by_cases hk:k < n
 ·rw[pT hk] at h;simp at h;exact ⟨hk,h.symm⟩
 ·rw[kH (by simpa using hk)] at h;simp at h
theorem Jf{lo:Int}:(C4 lo n).length=n:=by simp[C4]
@[simp] theorem A0s(g:FA)(δ:UE)(L:UH):Ax9 g δ L=(g δ L).bind fun p=>match p.1 with
 | [.ref n]=>(Aw p.2 n).map fun _=>(.enm n,p.2)
 | _=>ψ:=rfl
@[simp] theorem A3a(g:FA)(δ:UE)(L:UH):A48 g δ L=(g δ L).bind fun p=>match p.1 with
 | [.ref n,.ref m]=>(Aw p.2 n).bind fun _=>(Aw p.2 m).map fun _=>(.zip2 n m,p.2)
 | _=>ψ:=rfl
@[simp] theorem A3c(f:FE)(δ:UE)(L:UH):A3r f δ L=(f δ L).bind fun p=>match p.1 with | .ref n=>(Aw p.2 n).map fun l=>(.ref p.2.length,p.2++[.lst l.reverse]) | .tup l=>ξ (.tup l.reverse,p.2) | _=>ψ:=rfl
@[simp] theorem A18(g:FA)(δ:UE)(L:UH):Atb g δ L=(g δ L).bind fun p=>match p.1 with
 | [.int i,.int j]=>if (-(2 ^ 62)<=i/\i < 2 ^ 62)/\(-(2 ^ 62)<=j/\j < 2 ^ 62) then ξ (.seq (C4 i (j - i).toNat),p.2) else ψ
 | _=>ψ:=by first | rfl | (unfold Atb;rfl)
variable {tt:Option FT}{fe:FE}
theorem Wh(P:Nat->List U->UE->UH->Prop)(hat:∀ k acc δ L,k<=us.length->P k acc δ L->it.at k L=ξ us[k]?)
  (step:∀ k u acc δ L,us[k]? = ξ u->P k acc δ L->∃ δ1 L1,g u δ L=ξ (δ1,L1)/\∃ b L2,Ft tt δ1 L1=ξ (b,L2)/\(b=true->∃ r L3,fe δ1 L2=ξ (r,L3)/\acc.length < 16777216/\P (k+1) (acc++[r]) δ1 L3)/\(b=false->P (k+1) acc δ1 L2)) :
  ∀ (m k:Nat) (acc:List U) (δ:UE) (L:UH),us.length < m+k->k<=us.length->P k acc δ L->∃ ys δ' L',W6 it g tt fe m k acc δ L=ξ (ys,L')/\P us.length ys δ' L'
 | 0,k,acc,δ,L,h1,h2,_=>by omega
 | m+1,k,acc,δ,L,h1,h2,hP=>by
  have hk:=hat k acc δ L h2 hP;unfold W6;rw[hk];cases hu:us[k]? with
  | none=>
   have:k=us.length:=by have:=cU.mp hu;omega
   subst this;exact ⟨acc,δ,L,rfl,hP⟩
  | some u=>
   have hlt:k < us.length:=(aQ.mp hu).1;obtain ⟨δ1,L1,e1,b,L2,e2,h3,h4⟩:=step k u acc δ L hu hP;cases b with
   | true=>
    obtain ⟨r,L3,e3,hl,hP2⟩:=h3 rfl;obtain ⟨ys,δ',L',e4,hP3⟩:=Wh P hat step m (k+1) (acc++[r]) δ1 L3 Ze Ze hP2;refine ⟨ys,δ',L',?_,hP3⟩;have hz:decide (acc.length < sizeLine)=true:=decide_eq_true (by unfold sizeLine;omega);simp only[e1,aB,e2,e3,if_true,hz,e4]
   | false=>
    obtain ⟨ys,δ',L',e4,hP3⟩:=Wh P hat step m (k+1) acc δ1 L2 Ze Ze (h4 rfl);refine ⟨ys,δ',L',?_,hP3⟩;simp only[e1,aB,e2,e4,bN,if_false]
theorem Ald{ix:List Zaq}{fi:FI}{it:IU}{g:FG}{tt:Option FT}{fe:FE}{us:List U}{δ:UE}{L L0:UH}(P:Nat->List U->UE->UH->Prop)(hi:fi δ L=ξ (it,L0))(hsz:us.length<=it.size L0)(h0:P 0 [] (Ko ix δ) L0)
  (hat:∀ k acc δ L,k<=us.length->P k acc δ L->it.at k L=ξ us[k]?)
  (step:∀ k u acc δ L,us[k]? = ξ u->P k acc δ L->∃ δ1 L1,g u δ L=ξ (δ1,L1)/\∃ b L2,Ft tt δ1 L1=ξ (b,L2)/\(b=true->∃ r L3,fe δ1 L2=ξ (r,L3)/\acc.length < 16777216/\P (k+1) (acc++[r]) δ1 L3)/\(b=false->P (k+1) acc δ1 L2)) :
  ∃ ys δ' L',Bv ix fi g tt fe δ L=ξ (.ref L'.length,L'++[.lst ys])/\P us.length ys δ' L':=by
 obtain ⟨ys,δ',L',e,h⟩:=Wh P hat step (it.size L0+1) 0 [] (Ko ix δ) L0 Ze Ze h0;refine ⟨ys,δ',L',?_,h⟩;unfold Bv;simp only[hi,aB,e,aE]
theorem Hf{k:Nat}(h:Aw L n=ξ us):(IU.ref n).at k L=ξ us[k]?:=by
 unfold Aw at h;unfold IU.at;simp only;split at h
 ·rename_i e;cases h;first | rw[e] | rfl
 ·rename_i e;cases h;first | rw[e] | rfl
 ·cases h
theorem D9(h:Aw L n=ξ us):(IU.ref n).size L=us.length:=by
 unfold Aw at h;unfold IU.size;simp only;split at h
 ·rename_i e;cases h;first | rw[e] | rfl
 ·rename_i e;cases h;first | rw[e] | rfl
 ·cases h
theorem Bu{β:Type}{ix:List Zaq}{fi:FI}{it:IU}{g:FG}{tt:Option FT}{fe:FE}{δ:UE}{L L0:UH}(as:List β)(rep:β->U)(f:β->Bool)(e:β->U)(E:UE->Prop)(hi:fi δ L=ξ (it,L0))(hsz:as.length<=it.size L0)(hl:as.length < 16777216)(h0:E (Ko ix δ))
  (hat:∀ k x,it.at k (L0++x)=ξ (as.map rep)[k]?)
  (step:∀ (a:β) δ x,a∈as->E δ->∃ δ1,g (rep a) δ (L0++x)=ξ (δ1,L0++x)/\E δ1/\∃ y,Ft tt δ1 (L0++x)=ξ (f a,L0++x++y)/\(f a=true->∃ z,fe δ1 (L0++x++y)=ξ (e a,L0++x++y++z))) :
  ∃ x,Bv ix fi g tt fe δ L=ξ (.ref (L0++x).length,L0++x++[.lst ((as.filter f).map e)]):=by
 obtain ⟨ys,δ',L',e1,⟨h1,h2,x,rfl⟩,h3⟩:=Ald (us:=as.map rep) (ix:=ix) (tt:=tt) (g:=g) (fe:=fe) (δ:=δ) (fun k acc δ L=>(acc=((as.take k).filter f).map e/\E δ/\∃ x,L=L0++x)/\acc.length<=k) hi (by simpa using hsz) ⟨⟨rfl,h0,[],Za⟩,Za⟩
  (fun k acc δ L _ zz=>by obtain ⟨⟨_,_,x,hx⟩,_⟩:=zz;rw[hx];exact hat k x)
  (fun k u acc δ L hu zz=>by
   obtain ⟨⟨ha,hE,x,hx⟩,hlen⟩:=zz;subst hx;rw[bD] at hu;obtain ⟨a,hk,rfl⟩:=aJ.mp hu;have hk':=(aQ.mp hk).1;obtain ⟨δ1,g1,E1,y,t1,r1⟩:=step a δ x (dN hk) hE;have ht:as.take (k+1)=as.take k++[a]:=by
    rw[rC,hk];rfl
   refine ⟨δ1,_,g1,f a,_,t1,fun hf=>?_,fun hf=>?_⟩
   ·obtain ⟨z,q⟩:=r1 hf;refine ⟨_,_,q,Ze,⟨?_,E1,x++y++z,Za⟩,by simp;omega⟩;rw[ha,ht];simp[hf]
   ·refine ⟨⟨?_,E1,x++y,Za⟩,Ze⟩;rw[ha,ht];simp[hf])
 refine ⟨x,?_⟩;rw[e1,h1];simp
theorem Cr{x:UH}(h:Aw L n=ξ us):Aw (L++x) n=ξ us:=by
 unfold Aw at h ⊢;cases hn:L[n]? with
 | none=>rw[hn] at h;cases h
 | some o=>rw[bL (aQ.mp hn).1,hn];rw[hn] at h;exact h
noncomputable def Pl:Nat->U->Prop
 | _,.non=>True
 | _,.int _=>True
 | _,.str x=>fE x=true
 | n+1,.tup l=>∀ u∈l,Pl n u
 | _,_=>False
mutual
def pd:U->tT
 | .non=>.none
 | .bl b=>.bool b
 | .int i=>.int i
 | .str x=>.str x
 | .tup l=>.tuple (pds l)
 | .ref _=>.none
def pds:List U->List tT
 | []=>[]
 | u::r=>pd u::pds r
end
theorem Nv{l:List U}:Pl (n+1) (.tup l)↔∀ u∈l,Pl n u:=by rw[Pl]
variable {m:Nat}
theorem Qc(ih:∀ u,Pl n u->toP L m u=ξ (pd u)):∀ l:List U,(∀ u∈l,Pl n u)->mapO (toP L m) l=ξ (pds l)
 | [],_=>rfl
 | u::r,h=>by
  simp only[mapO,ih u (h u (aU ..)),Qc ih r Zct,aB,aE,pds]
theorem P6(L:UH):∀ (n m:Nat) (u:U),n < m->Pl n u->toP L m u=ξ (pd u)
 | n,0,u,h,_=>by omega
 | n,m+1,.non,_,_=>rfl
 | n,m+1,.int _,_,_=>rfl
 | n,m+1,.str _,_,_=>rfl
 | n,m+1,.bl _,_,h=>by cases n <;> exact absurd h (by simp[Pl])
 | n,m+1,.ref _,_,h=>by cases n <;> exact absurd h (by simp[Pl])
 | 0,m+1,.tup l,_,h=>absurd h (by simp[Pl])
 | n+1,m+1,.tup l,hm,h=>by
  have:=Qc (L:=L) (n:=n) (m:=m) (fun u hu=>P6 L n m u Ze hu) l (Nv.mp h);show (mapO (toP L m) l).map tT.tuple=_;rw[this];rfl
theorem Qk(ih:∀ u,Pl n u->fX (pd u)=true/\gK (pd u)<=n):∀ l:List U,(∀ u∈l,Pl n u)->rD (pds l)=true/\sT (pds l)<=n
 | [],_=>⟨rfl,eG _⟩
 | u::r,h=>by
  obtain ⟨a1,a2⟩:=ih u (h u (aU ..));obtain ⟨b1,b2⟩:=Qk ih r Zct;refine ⟨by simp[pds,rD,a1,b1],?_⟩;simp only[pds,sT];omega
theorem Pq:∀ (n:Nat) (u:U),Pl n u->fX (pd u)=true/\gK (pd u)<=n
 | n,.non,_=>by simp[pd,fX,gK]
 | n,.int _,_=>by simp[pd,fX,gK]
 | n,.str x,h=>by
  have h':fE x=true:=by cases n <;> simpa[Pl] using h
  simp[pd,fX,gK,h']
 | n,.bl _,h=>by cases n <;> exact absurd h (by simp[Pl])
 | n,.ref _,h=>by cases n <;> exact absurd h (by simp[Pl])
 | 0,.tup l,h=>absurd h (by simp[Pl])
 | n+1,.tup l,h=>by
  obtain ⟨a,b⟩:=Qk (fun u hu=>Pq n u hu) l (Nv.mp h);simp only[pd,fX,gK];exact ⟨a,Ze⟩
theorem P9(ih:∀ u w,Pl n u->Pl n w->(dH (pd u) (pd w)=true↔u=w)):∀ l m:List U,(∀ u∈l,Pl n u)->(∀ u∈m,Pl n u)->(jH (pds l) (pds m)=true↔l=m)
 | [],[],_,_=>by simp[pds,jH]
 | [],_::_,_,_=>by simp[pds,jH]
 | _::_,[],_,_=>by simp[pds,jH]
 | u::l,w::m,h1,h2=>by
  simp only[pds,jH,bY,ih u w (h1 u (aU ..)) (h2 w (aU ..)),P9 ih l m (fun x hx=>h1 x (aO _ hx)) (fun x hx=>h2 x (aO _ hx)),fI]
theorem Us:∀ (n:Nat) (u w:U),Pl n u->Pl n w->(dH (pd u) (pd w)=true↔u=w)
 | n,.bl _,_,h,_=>by cases n <;> exact absurd h (by simp[Pl])
 | n,.ref _,_,h,_=>by cases n <;> exact absurd h (by simp[Pl])
 | n,_,.bl _,_,h=>by cases n <;> exact absurd h (by simp[Pl])
 | n,_,.ref _,_,h=>by cases n <;> exact absurd h (by simp[Pl])
 | 0,.tup _,_,h,_=>absurd h (by simp[Pl])
 | 0,_,.tup _,_,h=>absurd h (by simp[Pl])
 | n+1,.tup l,.tup m,h1,h2=>by
  simp only[pd,dH,U.tup.injEq];exact P9 (fun u w=>Us n u w) l m (Nv.mp h1) (Nv.mp h2)
 | n,.non,.non,_,_=>by simp[pd,dH]
 | n,.non,.int _,_,_=>by simp[pd,dH]
 | n,.non,.str _,_,_=>by simp[pd,dH]
 | n+1,.non,.tup _,_,_=>by simp[pd,dH]
 | n,.int _,.non,_,_=>by simp[pd,dH]
 | n,.int _,.int _,_,_=>by simp[pd,dH]
 | n,.int _,.str _,_,_=>by simp[pd,dH]
 | n+1,.int _,.tup _,_,_=>by simp[pd,dH]
 | n,.str _,.non,_,_=>by simp[pd,dH]
 | n,.str _,.int _,_,_=>by simp[pd,dH]
 | n,.str _,.str _,_,_=>by simp[pd,dH]
 | n+1,.str _,.tup _,_,_=>by simp[pd,dH]
 | n+1,.tup _,.non,_,_=>by simp[pd,dH]
 | n+1,.tup _,.int _,_,_=>by simp[pd,dH]
 | n+1,.tup _,.str _,_,_=>by simp[pd,dH]
noncomputable def eqB(u w:U):Bool:=dH (pd u) (pd w)
variable {w:U}
theorem Um(h1:Pl 6 u)(h2:Pl 6 w):eqB u w=true↔u=w:=Us 6 u w h1 h2
theorem An9(h1:Pl 6 u):eqB u u=true:=(Um h1 h1).mpr rfl
theorem Aoj(L:UH)(h1:Pl 6 u)(h2:Pl 6 w):eqP u w L=ξ (eqB u w):=by
 obtain ⟨a1,a2⟩:=Pq 6 u h1;obtain ⟨b1,b2⟩:=Pq 6 w h2;have s1:dP (pd u)=true:=by unfold dP;rw[a1];simp;omega
 have s2:dP (pd w)=true:=by unfold dP;rw[b1];simp;omega
 unfold eqP;simp only[P6 L 6 8 u Zb h1,P6 L 6 8 w Zb h2,aB,s1,s2,and_self,if_true,eqB]
theorem Amp(L:UH)(h1:Pl 6 u)(h2:Pl 6 w):B9 u w L=ξ (.bl (eqB u w),L):=by unfold B9;rw[Aoj L h1 h2];rfl
theorem U8(L:UH)(h1:Pl 6 u)(h2:Pl 6 w):Dd u w L=ξ (.bl (!eqB u w),L):=by unfold Dd;rw[Aoj L h1 h2];rfl
noncomputable def Afn(us ws:List U):Bool:=jH (pds us) (pds ws)
variable {ws:List U}
theorem Acw(h1:∀ u∈us,Pl 6 u)(h2:∀ u∈ws,Pl 6 u):Afn us ws=true↔us=ws:=P9 (fun u w=>Us 6 u w) us ws h1 h2
theorem Ag8(e1:Aw L n=ξ us)(e2:Aw L m=ξ ws)(h1:∀ u∈us,Pl 6 u)(h2:∀ u∈ws,Pl 6 u):eqP (.ref n) (.ref m) L=ξ (Afn us ws):=by
 obtain ⟨a1,a2⟩:=Qk (Pq 6) us h1;obtain ⟨b1,b2⟩:=Qk (Pq 6) ws h2;have s1:dP (.list (pds us))=true:=by unfold dP;simp[fX,gK,a1];omega
 have s2:dP (.list (pds ws))=true:=by unfold dP;simp[fX,gK,b1];omega
 have t1:toP L 8 (.ref n)=ξ (.list (pds us)):=by
  show (Aw L n).bind ZcJ=_;rw[e1];simp only[aB,Qc Zds us h1,aE]
 have t2:toP L 8 (.ref m)=ξ (.list (pds ws)):=by
  show (Aw L m).bind ZcJ=_;rw[e2];simp only[aB,Qc Zds ws h2,aE]
 unfold eqP;simp only[t1,t2,aB,s1,s2,and_self,if_true,dH,Afn]
theorem Aj8(e1:Aw L n=ξ us)(e2:Aw L m=ξ ws)(h1:∀ u∈us,Pl 6 u)(h2:∀ u∈ws,Pl 6 u):B9 (.ref n) (.ref m) L=ξ (.bl (Afn us ws),L):=by unfold B9;rw[Ag8 e1 e2 h1 h2];rfl
theorem Yb(e1:Aw L n=ξ us)(e2:Aw L m=ξ ws)(h1:∀ u∈us,Pl 6 u)(h2:∀ u∈ws,Pl 6 u):Dd (.ref n) (.ref m) L=ξ (.bl (!Afn us ws),L):=by unfold Dd;rw[Ag8 e1 e2 h1 h2];rfl
theorem Pl.int(n:Nat)(i:Int):Pl n (.int i):=by cases n <;> exact trivial
theorem Abm{g:FA}{L':UH}(hg:g δ L=ξ ([.int j],L'))(h0:0<=j)(h1:j < 1000000):Eh g δ L=ξ (.seq (C4 0 j.toNat),L'):=by
 rw[Anc,hg];simp only[aB];rw[if_pos ⟨Ze,Ze⟩]
theorem Og{g:FA}{L':UH}(hg:g δ L=ξ ([.int n],L'))(h1:n < 1000000):Eh g δ L=ξ (.seq (C4 0 n),L'):=by
 have:=Abm hg Ze Ze;rwa [iB] at this
end MR
namespace Lw
open PySem L2 MR
end Lw
namespace MR
open PySem PySem.Spec PyProof.Rows L2
variable {X:Cx}{H:Hp}
section
variable {pins:List (Addr×Obj)}{σ:L2.St}{H':Hp}{s:aN}
def Thaw(H H' H2:Hp):Prop:=∀ b,H2 b=H' b\/∃ o vs,H' b=ξ (.frz o (.dK vs))/\H2 b=ξ (.dK vs)/\∀ o u,H b≠ξ (.frz o u)
theorem Thaw.stay{H2:Hp}(t:Thaw H H' H2){b:Addr}{u:Option HO}(e:H' b=u)(n:∀ o ks,u≠ξ (.frz o (.dK ks))):H2 b=u:=by
 rcases t b with z | ⟨o,vs,z,_⟩
 ·rw[z];exact e
 ·rw[e] at z;exact absurd z (n _ _)
end
variable {K:aF}{α:List Addr}
section
variable {H':Hp}
mutual
theorem RepU.via(g:∀ a xs,SqT K H a xs->SqT K H' a xs):∀ (u:U) (v:V),RepU K H α u v->RepU K H' α u v
 | .non,_,h=>h
 | .bl _,_,h=>h
 | .int _,_,h=>h
 | .str _,_,h=>h
 | .tup l,v,h=>by
  unfold RepU at h ⊢;obtain ⟨a,xs,e,s,r⟩:=h;exact ⟨a,xs,e,g _ _ s,RepL.via g l xs r⟩
 | .ref n,v,h=>by
  unfold RepU at h ⊢;exact h
theorem RepL.via(g:∀ a xs,SqT K H a xs->SqT K H' a xs):∀ (l:List U) (xs:List V),RepL K H α l xs->RepL K H' α l xs
 | [],xs,h=>h
 | u::l,xs,h=>by
  unfold RepL at h ⊢;obtain ⟨x,r,e,h1,h2⟩:=h;exact ⟨x,r,e,RepU.via g u x h1,RepL.via g l r h2⟩
end
end
structure DObj(P:cC)(w:cM)(o:Obj)(kvs:List (Key×V))(vs:List (Key×aH))(ep:Nat):Prop where
 rel:KV kvs vs
 at_:∀ (h:Heap) (d:Addr),h.get? d=ξ o->h.DictAt (C9 P w) d vs ep
theorem KV.at_:∀ {kvs:List (Key×V)} {vs:List (Key×aH)} {i:Nat} {p:Key×aH},KV kvs vs->vs[i]? = ξ p->∃ q,kvs[i]? = ξ q/\q.1=p.1/\RelV q.2 p.2
 | _,_,i,p,.nil,e=>by simp at e
 | _,_,0,p,.cons r t,e=>by simp at e;subst e;exact ⟨_,rfl,r⟩
 | _,_,i+1,p,.cons r t,e=>by simpa using KV.at_ (i:=i) t (by simpa using e)
section
variable {P:cC}{w:cM}{d it:Addr}{o:Obj}{kvs:List (Key×V)}{vs:List (Key×aH)}{ep:Nat}
end
variable {o:Expr}{apos cpos:Pos}
section
variable {tg e:Expr}{td:TE}
structure M0(X:Cx)(o:Expr)(m:Str)(apos cpos:Pos):Prop where
 base:attributeBase o m X.env Zcy=eval o X.env
 few:((backTo cpos (bH [] X.env)).all (fun x=>!x.1)&&(backToKw cpos Zab).all ZcH
  && decide (([]:List Expr).length+([]:List iS).length+(if ([]:List iS).isEmpty then 0 else 1) < 30))=true
 line:(apos.endLine == cpos.line)=true
 trees:backTo cpos (bH [] X.env)=[]
theorem Apw{pins:List (Addr×Obj)}{σ:L2.St}{s:aN}{a:Addr}{kvs:List (Key×V)}(I:L2.Inv X pins σ H s)(e:H a=ξ (.dK kvs)) :
  (a == sysModules)=false/\∃ ob vs ep,s.heap.get? a=ξ ob/\DObj X.prog X.w ob kvs vs ep:=by
 obtain ⟨z,hd,vs,rel,ob,es,ep,h1,h2⟩:=Ahu I.hok e;exact ⟨hd,ob,vs,ep,h1,rel,fun h d hg=>⟨ob,es,hg,h2⟩⟩
end
def Amz(kvs:List (Key×U)):List U:=kvs.map fun kv=>kv.2
section
variable {L:UH}{a:Addr}{ob:Obj}
end
section
variable {tg:Expr}{fo:FE}
def Azp:R2:=fun y x H Q=>∃ a r,x = .ref a/\DGet H a y r/\Q (.bl r.isSome) H
def Ahw:R2:=fun y x H Q=>∃ a r,x = .ref a/\DGet H a y r/\Q (.bl (!r.isSome)) H
theorem Axv(hu:X.A.units+64 < cLine):OpR X (dA .In) Azp:=by
 intro pins s σ H x y u w Q I rx ry h;obtain ⟨a,r,rfl,g,q⟩:=h;obtain rfl:w=cW a:=ry;exact A5k Ze I g rx fun s' I'=>⟨.bl _,H,I',rfl,q⟩
theorem Aiq(hu:X.A.units+64 < cLine):OpR X (dA .NotIn) Ahw:=by
 intro pins s σ H x y u w Q I rx ry h;obtain ⟨a,r,rfl,g,q⟩:=h;obtain rfl:w=cW a:=ry;exact Art Ze I g rx fun s' I'=>⟨.bl _,H,I',rfl,q⟩
def Se:S2:=fun y x L=>match x with
 | .ref n=>(toK y).bind fun k=>(Mx L n).map fun kvs=>(.bl (U7 kvs k).isSome,L)
 | _=>ψ
def K8:S2:=fun y x L=>match x with
 | .ref n=>(toK y).bind fun k=>(Mx L n).map fun kvs=>(.bl (!(U7 kvs k).isSome),L)
 | _=>ψ
theorem find_any(k:Key):∀ kvs:List (Key×U),(kvs.find? fun kv=>decide (kv.1=k)).isSome=kvs.any fun kv=>decide (kv.1=k)
 | []=>rfl
 | kv::kvs=>by
  rw[gH,eZ];by_cases h:kv.1=k
  ·simp[h]
  ·simp only[h,decide_false,vG];exact find_any k kvs
theorem RepKV.some{kvs:List (Key×U)}{vs:List (Key×V)}(r:RepKV K H α kvs vs)(k:Key):(U7 kvs k).isSome=(Ny vs k).isSome:=by
 have h1:(U7 kvs k).isSome=kvs.any fun kv=>decide (kv.1=k):=by
  unfold U7;rw[iT];exact find_any k kvs
 rw[h1,r.any,Vk]
theorem Apm:Dr K Azp Se:=by
 intro H α L u w x y z L' Q A ru rw' e q;unfold Se at e;split at e
 ·obtain ⟨k,hk,e⟩:=aA.mp e;obtain ⟨kvs,hd,e⟩:=aJ.mp e;cases e;obtain ⟨a,vs,rfl,ea,ha,rk⟩:=Ov A hd rw';refine ⟨a,_,rfl,by rw[Aa2 ru hk];exact DGet.k ha,?_⟩;rw[<- rk.some k];exact q _ H α (.refl _ _) A rfl
 ·cases e
theorem Agb:Dr K Ahw K8:=by
 intro H α L u w x y z L' Q A ru rw' e q;unfold K8 at e;split at e
 ·obtain ⟨k,hk,e⟩:=aA.mp e;obtain ⟨kvs,hd,e⟩:=aJ.mp e;cases e;obtain ⟨a,vs,rfl,ea,ha,rk⟩:=Ov A hd rw';refine ⟨a,_,rfl,by rw[Aa2 ru hk];exact DGet.k ha,?_⟩;rw[<- rk.some k];exact q _ H α (.refl _ _) A rfl
 ·cases e
end
def Ad3(kvs:List (Key×U))(k:Key):List (Key×U):=kvs.filter fun kv=>decide (kv.1≠k)
theorem RepKV.drop(k:Key):∀ {kvs:List (Key×U)} {vs:List (Key×V)},RepKV K H α kvs vs->RepKV K H α (Ad3 kvs k) (Uz vs k)
 | [],vs,r=>by
  have:=r.1;cases vs with
  | nil=>exact .nil
  | cons _ _=>simp at this
 | kv::kvs,vs,r=>by
  obtain ⟨x,vs',rfl,rx,r'⟩:=r.cons;unfold Ad3 Uz;rw[eB,eB];by_cases h:kv.1=k
  ·simp only[h,ne_eq,not_true_eq_false,decide_false,bN,if_false];exact RepKV.drop k r'
  ·simp only[h,ne_eq,not_false_eq_true,decide_true,if_true];exact .mk rx (RepKV.drop k r')
def Ahj(fo fe:FE):FE:=fun δ L=>(fo δ L).bind fun p=>match p.1 with
 | .ref n=>(Mx p.2 n).bind fun _=>(fe δ p.2).bind fun q=>(toK q.1).bind fun k=>(Mx q.2 n).bind fun kvs=>(U7 kvs k).map fun u=>(u,q.2.set n (.dic (Ad3 kvs k)))
 | _=>ψ
theorem Asd{e:Expr}{fo fe:FE}(ho:PEF X o fo)(he:PEF X e fe)(m:M1 X o "pop" apos e cpos):PEF X (.Call (.Attribute o "pop" apos) [e] [] cpos) (Ahj fo fe):=by
 refine PE.imp (Ale ho he m) ?_;rintro σ H Q ⟨α,δ,L,A,S,z,L3,e,q⟩;obtain ⟨⟨u,L1⟩,e1,e⟩:=aA.mp e;simp only at e;split at e
 ·obtain ⟨kvs0,hd0,e⟩:=aA.mp e;obtain ⟨⟨w,L2⟩,e2,e⟩:=aA.mp e;obtain ⟨k,hk,e⟩:=aA.mp e;obtain ⟨kvs,hd,e⟩:=aA.mp e;obtain ⟨v,hv,e⟩:=aJ.mp e;cases e;refine ⟨α,δ,L,A,S,_,L1,e1,fun x H1 α1 g1 A1 r1=>?_⟩;obtain ⟨a,vs0,rfl,ea0,ha0,rk0⟩:=Ov A1 hd0 r1;refine ⟨a,rfl,.inl ⟨vs0,.inl ha0⟩,α1,δ,L1,A1,S.mono g1,w,L2,e2,fun y H2 α2 g2 A2 r2=>?_⟩;obtain ⟨a',vs,e',ea,ha,rk⟩:=Ov A2 hd ZcM;cases e';obtain ⟨x',hx',rx'⟩:=rk.val hv;obtain ⟨g3,A3⟩:=A2.setD hd ea ha (rk.drop k);exact ⟨vs,k,x',ha,Aa2 r2 hk,hx',q _ _ _ Za8 A3 (rx'.mono g3)⟩
 ·cases e
end MR
namespace MR
open PySem PyProof.Rows L2
end MR
namespace MR
open PySem PySem.Spec PyProof.Rows L2
inductive XObj(e Ca:Addr)(dd:Option Addr)(h:Heap)(vs:Array aH):Prop
 | mk (o:Obj) (h0:h.get? e=ξ o) (h1:o.cls = .ref Ca) (h2:o.dict=dd) (h3:o.data = .fields vs) (h4:1 < vs.size) (h5:o.slots=#[]):XObj e Ca dd h vs
inductive Tra(N:Nat)(e Ca:Addr)(dd:Option Addr)(fl:aH)(h:Heap):Prop
 | mk (vs:_) (T:_) (oT:_) (ts:_) (h0:XObj e Ca dd h vs) (h1:vs[1]? = ξ (.ref T)) (h2:N<=T) (h3:T≠e) (h4:h.get? T=ξ oT) (h5:oT.data = .fields ts) (h6:ts[3]? = ξ fl):Tra N e Ca dd fl h
def Raw(e Ca:Addr)(dd:Option Addr)(h:Heap):Prop:=∃ vs,XObj e Ca dd h vs/\vs[1]? = ξ .none
def Fly(N:Nat)(e Ca:Addr)(dd:Option Addr)(h:Heap):Prop:=N<=h.objs.size/\(Raw e Ca dd h\/∃ fl,Tra N e Ca dd fl h)
variable {e Ca:Addr}{dd:Option Addr}{h:Heap}
theorem XObj.excIs{vs:Array aH}(x:XObj e Ca dd h vs):ExcIs e Ca dd false h:=by
 obtain ⟨o,h1,h2,h3,h4,h5,h6⟩:=x;exact ⟨o,vs,h1,h2,h3,h4,h5,h6,fun z=>nomatch z⟩
variable {N:Nat}
theorem Fly.excIs(x:Fly N e Ca dd h):ExcIs e Ca dd false h:=by
 rcases x.2 with ⟨vs,q,_⟩ | ⟨_,vs,_,_,_,q,_⟩
 ·exact q.excIs
 ·exact q.excIs
theorem Tra.excIs{fl:aH}(x:Tra N e Ca dd fl h):ExcIs e Ca dd false h:=by
 obtain ⟨vs,_,_,_,q,_⟩:=x;exact q.excIs
structure Stp(N:Nat)(fs:List Addr)(e:Addr)(h h':Heap):Prop where
 keep:∀ b o,b < N->b∉fs->b≠e->h.get? b=ξ o->h'.get? b=ξ o
 slot:∀ b o,b∈fs->h.get? b=ξ o->∃ sl,h'.get? b=ξ { o with slots:=sl }
 all:∀ b o,h.get? b=ξ o->∃ o',h'.get? b=ξ o'
 sz:h.objs.size<=h'.objs.size
variable {fs:List Addr}
theorem Stp.refl:Stp N fs e h h:=⟨fun _ _ _ _ _ q=>q,fun b o _ q=>⟨o.slots,q⟩,fun _ o q=>⟨o,q⟩,aP _⟩
theorem Stp.trans{h1 h2:Heap}(x:Stp N fs e h h1)(y:Stp N fs e h1 h2):Stp N fs e h h2:=
 ⟨fun b o l n z q=>y.keep b o l n z (x.keep b o l n z q),fun b o m q=>let ⟨_,q1⟩:=x.slot b o m q;let ⟨sl,q2⟩:=y.slot b _ m q1;⟨sl,q2⟩,fun b o q=>let ⟨o1,q1⟩:=x.all b o q;y.all b o1 q1,bW x.sz y.sz⟩
variable {A:eA}{E:aH->aN->Prop}{s:aN}
section
variable {M:Model}{base:Heap}{env:iW}{outer:List iW}{L:Addr}
end
variable {w:cM}{H:Hp}
theorem Aq7{P:cC}{h':Heap}(ok:HOk P w H h)(hf:∀ b∈fs,H b=ψ)(tr:∀ b o,H b=ξ o->b < N)(S:Stp N fs e h h')
  (me:H e=ξ Zdt) (x:ExcIs e Ca dd false h'):HOk P w H h':=fun a o q=>by
 by_cases ha:a=e
 ·subst ha;rw[me] at q;cases q;obtain ⟨o,vs,h1,_,_,_,_,_,_⟩:=id x;refine ⟨x,⟨o,h1⟩,fun h1 h2 z k=>?_⟩;obtain ⟨o1,ws,q1,r1,r2,r3,r4,r5,r6⟩:=z;exact ⟨o1,ws,k _ q1,r1,r2,r3,r4,r5,r6⟩
 ·refine (ok a o q).stay (fun b u hb z=>?_) (fun _ z=>z) fun _ _ z=>z
  have hbt:∃ ob,H b=ξ ob:=by
   rcases hb with hb | hb
   ·exact ⟨o,by rw[hb];exact q⟩
   ·exact ⟨_,hb⟩
  obtain ⟨ob,hob⟩:=hbt;refine S.keep b u (tr b ob hob) (fun m=>by rw[hf b m] at hob;cases hob) ?_ z;rintro rfl;rcases hb with hb | hb
  ·exact ha hb.symm
  ·rw[me] at hb;cases hb
structure Bd(X:Cx)(pins:List (Addr×Obj))(N:Nat):Prop where
 s0:X.s₀.heap.objs.size<=N
 lo:X.env.locals < N
 ce:∀ x c,X.env.cells.lookup x=ξ c->c < N
 pi:∀ p∈X.pn++pins,p.1 < N
variable {X:Cx}{pins:List (Addr×Obj)}{σ:L2.St}
theorem Bd.of(I:L2.Inv X pins σ H s)(h:s.heap.objs.size<=N):Bd X pins N:=
 ⟨bW I.sz h,bC I.lt h,fun x c q=>by
  obtain ⟨v,o,ho,_⟩:=I.cell x c q;exact bC (aY ho) h,fun p hp=>bC (aY (I.pin p hp).1) h⟩
structure FlX(X:Cx)(pins:List (Addr×Obj))(σ:L2.St)(H:Hp)(e Ca:Addr)(dd:Option Addr)(N:Nat)(s:aN):Prop where
 inv:L2.Inv X pins σ H s
 bd:Bd X pins N
 fly:Fly N e Ca dd s.heap
 tr:∀ b o,H b=ξ o->b < N
 me:H e=ξ Zdt
section
variable {h':Heap}
theorem FlX.stk(F:FlX X pins σ H e Ca dd N s):∀ b∈frs X.stack,H b=ψ:=F.inv.stkFree
theorem Inv.stepX{t':Nat}(I:L2.Inv X pins σ H s)(bd:Bd X pins N)(tr:∀ b o,H b=ξ o->b < N)(me:H e=ξ Zdt)(S:Stp N (frs X.stack) e s.heap h')(fl:ExcIs e Ca dd false h'):L2.Inv X pins σ H { s with heap:=h',toks:=t' }:=by
 refine I.call (g':=s.gens) (d':=s.drawn) (t':=t') (h':=h') (ch:=(bM s.heap.objs.size).filter (N<=·)) ⟨fun b o q n hb hx=>?_,fun b o q n hb hx=>S.slot b o hb q,fun _ _ _ n _=>n,fun b o q _=>S.all b o q,fun _ _ z=>z,fun _ _ _ z=>z,fun b ps z=>⟨#[],by rw[z];simp⟩⟩ (Aq7 I.hok I.stkFree tr S me fl) I.bare (fun b hb=>?_)
 ·refine S.keep b o ?_ hb (fun z=>by rw[z,me] at n;cases n) q;by_cases hl:b < N
  ·exact hl
  ·exact absurd (cH.mpr ⟨cL.mpr (aY q),by simpa using hl⟩) hx
 ·have hb:N<=b:=by simpa using (cH.mp hb).2
  refine ⟨.inr (bW bd.s0 hb),fun z=>absurd bd.lo (by rw[<- z];exact tW.mpr hb),fun x c q z=>absurd (bd.ce x c q) (by rw[z];exact tW.mpr hb),fun p hp z=>absurd (bd.pi p hp) (by rw[z];exact tW.mpr hb)⟩
theorem FlX.step(F:FlX X pins σ H e Ca dd N s)(S:Stp N (frs X.stack) e s.heap h')(fl:Fly N e Ca dd h'):FlX X pins σ H e Ca dd N { s with heap:=h' }:=
 ⟨Inv.stepX (t':=s.toks) F.inv F.bd F.tr F.me S fl.excIs,F.bd,fl,F.tr,F.me⟩
end
inductive CFl(P:cC)(w:cM)(K:aF)(outer:List iW)(H:Hp)(α:List Addr)(s:aN)(n:Nat)(L':UH)(e:aH)(s':aN):Prop
 | mk (ea:_) (Ca:_) (dd:_) (N:_) (H':_) (α':_) (h0:e = .ref ea) (h1:s'.os=s.os) (h2:lY s'.gens) (h3:Un (frs outer) [] H H' s.heap s'.heap) (h4:HOk P w H' s'.heap) (h5:s.heap.objs.size<=N) (h6:Fly N ea Ca dd s'.heap) (h7:(∀ b o,H' b=ξ o->b < N)) (h8:H' ea=ξ (.ext (ExcIs ea Ca dd false))) (h9:Gr H α H' α') (h10:Abs K H' α' L') (h11:α'[n]? = ξ ea):CFl P w K outer H α s n L' e s'
abbrev XN:=List U->UH->Option (Nat×UH)
structure FnX(P:cC)(w:cM)(K:aF)(mg:Str->Option aH)(base:Heap)(k:Nat)(f:Addr)(fd:dS)(ps:List Str)(x:XN):Prop where
 run:∀ (A:eA) (outer:List iW) (s:aN) (H:Hp) (args:Args) (us:List aH) (vs:List V) (α:List Addr) (L:UH) (ws:List U) (n:Nat) (L':UH),Room k A->Env0 P w K mg base A outer s H->mB s fd args (ps.zip us)->Vals vs us ->
  Abs K H α L->RepL K H α ws vs->ws.length=ps.length->x ws L=ξ (n,L')->kT (model P w) A (.call (.ref f) args) (fun r s'=>∃ e,r = .error e/\CFl P w K outer H α s n L' e s') s
abbrev XS:=UE->UH->Option (Nat×UE×UH)
abbrev XE:=UE->UH->Option (Nat×UH)
inductive FXP(X:Cx)(pins:List (Addr×Obj))(H:Hp)(α:List Addr)(n:Nat)(δ':UE)(L':UH)(e:aH)(s':aN):Prop
 | mk (ea:_) (Ca:_) (dd:_) (N:_) (σ':_) (H':_) (α':_) (h0:e = .ref ea) (h1:FlX X pins σ' H' ea Ca dd N s') (h2:Gr H α H' α') (h3:Abs X.K H' α' L') (h4:RepS X.K H' α' δ' σ') (h5:α'[n]? = ξ ea):FXP X pins H α n δ' L' e s'
variable {n:Nat}
theorem FXP.from{H1:Hp}{α α1:List Addr}{δ':UE}{L':UH}{e:aH}{s':aN}(g:Gr H α H1 α1)(h:FXP X pins H1 α1 n δ' L' e s'):FXP X pins H α n δ' L' e s':=by
 obtain ⟨ea,Ca,dd,N,σ',H',α',h1,h2,h3,r1,r2,r3⟩:=h;exact ⟨ea,Ca,dd,N,σ',H',α',h1,h2,g.trans h3,r1,r2,r3⟩
variable {es:List Expr}{pos:Pos}
section
variable {e:Expr}{st:Stmt}{α:List Addr}{δ:UE}{L L':UH}
theorem PEF.go{f:FE}{u:U}{Q:aH->aN->Prop}(h:PEF X e f)(hx:∀ e s,X.xe e s->False)(I:L2.Inv X pins σ H s)(A:Abs X.K H α L)(S:RepS X.K H α δ σ)(hf:f δ L=ξ (u,L'))
  (q:∀ x v H' α' s',L2.Inv X pins σ H' s'->Gr H α H' α'->Abs X.K H' α' L'->RepU X.K H' α' u v->RelV v x->Q x s'):wpAny Zf X.A Zc7 Q E s:=
 eR (h pins s σ H (fun v H'=>∃ α',Gr H α H' α'/\Abs X.K H' α' L'/\RepU X.K H' α' u v) I ⟨α,δ,L,A,S,u,L',hf,fun v H' α' g A' r=>⟨α',g,A',r⟩⟩) (fun x s' ⟨v,H',I',rv,α',g,A',r⟩=>q x v H' α' s' I' g A' r rv) fun _ _ z=>(hx _ _ z).elim
theorem PTF.go{f:FT}{b:Bool}{Q:Bool->aN->Prop}(h:PTF X e f)(hx:∀ e s,X.xe e s->False)(I:L2.Inv X pins σ H s)(A:Abs X.K H α L)(S:RepS X.K H α δ σ)(hf:f δ L=ξ (b,L'))
  (q:∀ H' α' s',L2.Inv X pins σ H' s'->Gr H α H' α'->Abs X.K H' α' L'->Q b s'):wpAny Zf X.A (isTrue e X.env Zc7) Q E s:=
 eR (h pins s σ H (fun b' H'=>b'=b/\∃ α',Gr H α H' α'/\Abs X.K H' α' L') I ⟨α,δ,L,A,S,b,L',hf,fun H' α' g A'=>⟨rfl,α',g,A'⟩⟩) (fun x s' ⟨H',I',hb,α',g,A'⟩=>by subst hb;exact q H' α' s' I' g A') fun _ _ z=>(hx _ _ z).elim
theorem PAF.go{f:FA}{us:List U}{Q:List aH->aN->Prop}(h:PAF X es f)(hx:∀ e s,X.xe e s->False)(I:L2.Inv X pins σ H s)(A:Abs X.K H α L)(S:RepS X.K H α δ σ)(hf:f δ L=ξ (us,L'))
  (q:∀ xs vs H' α' s',L2.Inv X pins σ H' s'->Gr H α H' α'->Abs X.K H' α' L'->RepL X.K H' α' us vs->Vals vs xs->Q xs s'):wpAny Zf X.A (spliced (backTo pos Zat)) Q E s:=
 eR (h pos pins s σ H (fun vs H'=>∃ α',Gr H α H' α'/\Abs X.K H' α' L'/\RepL X.K H' α' us vs) I ⟨α,δ,L,A,S,us,L',hf,fun vs H' α' g A' r=>⟨α',g,A',r⟩⟩) (fun x s' ⟨vs,H',I',rv,α',g,A',r⟩=>q x vs H' α' s' I' g A' r rv) fun _ _ z=>(hx _ _ z).elim
end
section
variable {e:Expr}{st:Stmt}{rest:List Stmt}
end
variable {f:Addr}{p apos:Pos}{x C:Str}
section
variable {e o:Expr}{m:Str}{k:Nat}{fa:Addr}{fd:dS}{ps:List Str}{F:XN}{g:FA}{fo:FE}
end
variable {K:aF}
section
variable {P:cC}{mg:Str->Option aH}{base:Heap}
end
noncomputable def bmV:List aH:=[.type "ValueError",.type "Exception",.type "BaseException",.type "object"]
noncomputable def A3h(d:Data):Option ClassData:=match d with
 | .cls cd=>ξ cd
 | _=>ψ
def Ap8(K:aF)(C:Addr):Bool:=match K.lookup C with
 | some o=>(o.cls == .type "type" && (match A3h o.data with | some cd=>!cd.hasDel&&(cd.mro.head? == ξ (.ref C)&&PySem.W.tailIn K bmV cd.mro.tail) | none=>false))&&(o.slots.toList.length == 6&&o.slots.toList[4]? == ξ (ξ (.builtin "ValueError.__new__")))
 | none=>false
inductive six_I(α:Type)(l:List α)(k:α):Prop
 | mk (k0:_) (k1:_) (k2:_) (k3:_) (k5:_) (h0:l=[k0,k1,k2,k3,k,k5]):six_I α l k
inductive exc_obj_I(h:Heap)(C:Addr):Prop
 | mk (nm:_) (qn:_) (N:_) (bs:_) (bm:_) (hdct:_) (sn:_) (sub:_) (ab:_) (col:_) (dd:_) (k0:_) (k1:_) (k2:_) (k3:_) (k5:_) (h0:h.get? C=ξ (excClassObj nm qn C N bs bm hdct sn sub ab col dd k0 k1 k2 k3 k5 "ValueError.__new__")) (h1:OwnTail h bmV bm):exc_obj_I h C
section
variable {prog:cC}{C:Addr}{rest:List aH}
end
structure MkX(K:aF)(C f:Addr):Prop where
 ex:Ap8 K C=true
 init:cQ K (.ref C) "__init__" = ξ ZcX
 fn:lZ K (.ref f)=true
 kp:dZ K (.ref C)=true
section
variable {k:Nat}{fd:dS}{ps:List Str}{sp:Sp}{e:Expr}{t:TA}
end
noncomputable def At0(K:aF)(B:Addr):Bool:=match sV K (.ref B) (.type "type") "__init__" with
 | some (.val (.builtin id))=>id == "ValueError.__init__"
 | _=>false
structure BInit(K:aF)(B:Addr):Prop where
 sp:iR K (.ref B) "__getattribute__" = ξ (ξ (.builtin "type.__getattribute__"))
 rd:PySem.W.readsIn K B (.type "type")=true
 fd:At0 K B=true
theorem BInit.found{B:Addr}(b:BInit K B):sV K (.ref B) (.type "type") "__init__" = ξ (.val (.builtin "ValueError.__init__")):=by
 have h:=b.fd;unfold At0 at h;split at h
 ·rename_i id q;rw[q,beq_iff_eq.mp h]
 ·cases h
section
variable {B:Addr}{a b:Expr}{t:TA}
def AllX(K:aF)(Cs:List Str):Prop:=∀ C∈Cs,∀ Ca,dO K bU C=ξ ZbX->Ap8 K Ca=true
end
variable {Cs:List Str}
section
variable {e:Expr}{fe:FE}
end
def AllM(K:aF)(Cs:List Str)(D:Addr):Prop:=∀ C∈Cs,∀ Ca,dO K bU C=ξ ZbX->pI K (.ref Ca) (.ref D)=ξ true
section
variable {body suite:List Stmt}{b0:Stmt}{n:Str}{np hpos:Pos}{D:Addr}{fb fs:FS}{xb:XS}{i:Nat}
end
def Awq(K:aF)(C:Addr):Bool:=Ap8 K C&&cQ K (.ref C) "__getattribute__" == ξ (ξ (.builtin "BaseException.__getattribute__"))&&cQ K (.ref C) "__getattr__" == ξ ψ &&
 vH K (.ref C) (.type "BaseException") == ξ true&&cQ K (.ref C) "__class__" == ξ (ξ (.builtin "object.__class__"))&&qA K C (.type "object") == ξ true&&iQ K C &&
 iR K (.builtin "object.__class__") "__get__" == ξ (ξ (.builtin "getset_descriptor.__get__"))&&oO K (.builtin "object.__class__") == ξ true
structure ExcA(K:aF)(C:Addr):Prop where
 ex:Ap8 K C=true
 ga:cQ K (.ref C) "__getattribute__" = ξ (ξ (.builtin "BaseException.__getattribute__"))
 gk:cQ K (.ref C) "__getattr__" = ξ ψ
 sb:vH K (.ref C) (.type "BaseException")=ξ true
 cl:cQ K (.ref C) "__class__" = ξ (ξ (.builtin "object.__class__"))
 mo:qA K C (.type "object")=ξ true
 hd:iQ K C=true
 sg:iR K (.builtin "object.__class__") "__get__" = ξ (ξ (.builtin "getset_descriptor.__get__"))
 tk:oO K (.builtin "object.__class__")=ξ true
theorem Aq5{C:Addr}(h:Awq K C=true):ExcA K C:=by
 unfold Awq at h;simp only[bY,beq_iff_eq] at h;obtain ⟨⟨⟨⟨⟨⟨⟨⟨a,b⟩,c⟩,d⟩,e⟩,f⟩,g⟩,i⟩,j⟩:=h;exact ⟨a,b,c,d,e,f,g,i,j⟩
noncomputable def isX(C D:Str):Bool:=C == D || D == "BelowError" || D == "ValueError"
noncomputable def Ara(K:aF)(D:Str):Option aH:=match dO K bU D with
 | some (ξ (.ref a))=>ξ (.ref a)
 | some ψ=>if D == "ValueError" then ξ (.type "ValueError") else ψ
 | _=>ψ
def Apo(K:aF)(Cs Ds:List Str):Bool:=Cs.all fun C=>match dO K bU C with
 | some (ξ (.ref a))=>Awq K a&&Ds.all fun D=>match Ara K D with
  | some v=>pJ K (.ref a) v == ξ (isX C D)&&(!isX C D || pI K (.ref a) v == ξ true)
  | none=>false
 | _=>false
variable {D:Str}{Da:Addr}
section
variable {Ds:List Str}
theorem Aag(T:Apo K Cs Ds=true)(hC:C∈Cs)(hn:dO K bU C=ξ ZbX):ExcA K Ca/\∀ D∈Ds,∃ v,Ara K D=ξ v/\pJ K (.ref Ca) v=ξ (isX C D)/\(isX C D=true->pI K (.ref Ca) v=ξ true):=by
 have h:=bQ.mp T C hC;rw[hn] at h;simp only[bY] at h;refine ⟨Aq5 h.1,fun D hD=>?_⟩;have h2:=bQ.mp h.2 D hD;split at h2
 ·rename_i v hv;simp only[bY,beq_iff_eq,lL,Bool.not_eq_true'] at h2;exact ⟨v,hv,h2.1,fun z=>h2.2.resolve_left (by rw[z];exact Bool.noConfusion)⟩
 ·cases h2
theorem AllX.of(T:Apo K Cs Ds=true):AllX K Cs:=fun C hC Ca hn=>(Aag T hC hn).1.ex
theorem Ab8(h:dO K bU D=ξ (ξ (.ref Da))):Ara K D=ξ (.ref Da):=by unfold Ara;rw[h]
theorem AllM.of(T:Apo K Cs Ds=true)(hD:D∈Ds)(hn:dO K bU D=ξ (ξ (.ref Da)))(ha:Cs.all (fun C=>isX C D)=true):AllM K Cs Da:=fun C hC Ca hc=>by
 obtain ⟨v,hv,_,h2⟩:=(Aag T hC hc).2 D hD;rw[Ab8 hn] at hv;cases hv;exact h2 (bQ.mp ha C hC)
theorem AllM.sub{Es:List Str}(T:Apo K Cs Ds=true)(hs:∀ C∈Es,C∈Cs)(hD:D∈Ds)(hn:dO K bU D=ξ (ξ (.ref Da)))(ha:Es.all (fun C=>isX C D)=true):AllM K Es Da:=fun C hC Ca hc=>by
 obtain ⟨v,hv,_,h2⟩:=(Aag T (hs C hC) hc).2 D hD;rw[Ab8 hn] at hv;cases hv;exact h2 (bQ.mp ha C hC)
end
section
variable {prog:cC}{x C:Addr}{ox:Obj}{od:Option Obj}{name:Str}
end
section
variable {Ds:List Str}
noncomputable def vOf:aH->Option V
 | .ref a=>ξ (.ref a)
 | .type T=>ξ (.ty T)
 | _=>ψ
inductive IsxR(K:aF)(xs:List V)(H:Hp)(Q:VK):Prop
 | mk (a:_) (Ca:_) (dd:_) (fr:_) (vs:_) (c:_) (v:_) (b:_) (h0:xs=[.ref a,v]) (h1:vOf c=ξ v) (h2:H a=ξ (.ext (ExcIs a Ca dd fr))) (h3:DictIs H dd vs) (h4:ExcA K Ca) (h5:pJ K (.ref Ca) c=ξ b) (h6:Q (.bl b) H):IsxR K xs H Q
inductive IsxtR(K:aF)(xs:List V)(H:Hp)(Q:VK):Prop
 | mk (a Ca:Addr) (dd:Option Addr) (fr:Bool) (vs:List (Str×V)) (tp:Addr) (ds:List Addr) (b:Bool) (h0:xs=[.ref a,.ref tp]) (h1:H tp=ξ (.tup (ds.map V.ref))) (h2:H a=ξ (.ext (ExcIs a Ca dd fr))) (h3:DictIs H dd vs) (h4:ExcA K Ca) (h5:PySem.W.kitAny K (.ref Ca) (ds.map cW)=ξ b) (h6:Q (.bl b) H):IsxtR K xs H Q
inductive Names(X:Cx):List Str->List Addr->List Expr->Prop where
 | nil:Names X [] [] []
 | cons {D:Str} {Da:Addr} {Dn:List Str} {ds:List Addr} {es:List Expr} {p2:Pos} (hns:dO X.K bU D=ξ (ξ (.ref Da))) (hg2:Gl X D) (hm2:X.mg D=ξ (.ref Da)) (t:Names X Dn ds es)
   (hdb:(D == ("__debug__" : Str))=false:=by decide) (hs:bH (.Name D p2::es) X.env=(false,eval (.Name D p2) X.env)::bH es X.env:=by rfl):Names X (D::Dn) (Da::ds) (.Name D p2::es)
theorem Names.pa{Dn:List Str}{ds:List Addr}(h:Names X Dn ds es):PA X es (fun _ H Q=>Q (ds.map V.ref) H):=by
 induction h with
 | nil=>exact Anh
 | cons hns hg2 hm2 t hdb hs ih=>exact Ahl (Uh hg2 hm2 (v:=.ref _) rfl hdb) ih hs
theorem Names.len{Dn:List Str}{ds:List Addr}(h:Names X Dn ds es):ds.length=Dn.length:=by
 induction h with
 | nil=>rfl
 | cons _ _ _ _ _ _ ih=>simp[ih]
end
section
variable {e:Expr}{pos':Pos}{xe:XE}
end
end MR
namespace MR
open PySem PySem.Spec PyProof.Rows PySem.Calls L2
theorem Yz(x y:Str):(eW x y).length<=x.length+2:=by
 unfold eW;split
 ·simp
 ·split
  ·simp
  ·have e1:=StrLaws.occ_length_le x y 0 x.length (x.length+1);rw[length_partsBetween];omega
variable {x:Str}
theorem Ail{P:cC}{w:cM}{A:eA}{E:aH->aN->Prop}{s:aN}{Q:aH->aN->Prop}{y:Str}{t u:Tok}(hy:(y.length == 0)=false)(hsz:x.length+2<=sizeLine)
  (h:∀ (l:List (Str×Tok)) (k:Nat),l.map (·.1)=eW x y->Q Z5 { s with heap:=s.heap.push { cls:=.type "list",data:=.seq (strValues l).toArray },toks:=k }) :
  wpAny (model P w) A (call (.builtin "str.split") [.str x t,.str y u]) Q E s:=by
 have hn:=Yz x y;by_cases c1:(decide (x.length < y.length) || decide (jE x < jE y))=true
 ·have e:eW x y=[x]:=by unfold eW;rw[if_pos c1]
  exact kM iM (mL _ _ _) jS (jI _ _) (meets_str_split_cannot_occur x y t u c1) (h [(x,t)] s.toks (by rw[e];rfl))
 have c1':(decide (x.length < y.length) || decide (jE x < jE y))=false:=by simpa using c1
 by_cases c2:(cO x y 0 x.length (x.length+1)).isEmpty=true
 ·have e:eW x y=[x]:=by unfold eW;rw[if_neg c1,if_pos c2]
  exact kM iM (mL _ _ _) jS (jI _ _) (meets_str_split_not_found x y t u c1' hy c2) (h [(x,t)] s.toks (by rw[e];rfl))
 have c2':(cO x y 0 x.length (x.length+1)).isEmpty=false:=by simpa using c2
 have e:eW x y=kW.Str.partsBetween x (cO x y 0 x.length (x.length+1)) y.length:=by unfold eW;rw[if_neg c1,if_neg c2]
 rw[e] at hn;refine kM iM (mL _ _ _) jS (jI _ _) (meets_str_split_sep x y t u c1' hy c2' Ze Ze) ?_;show wants Q E _ _;rw[strsFrom_eq];exact h (numbered s.toks _) _ ((numbered_texts _ _).trans e.symm)
theorem Tb:∀ (l:List (Str×Tok)),Vals ((l.map (·.1)).map V.str) (strValues l)
 | []=>.nil
 | p::r=>.cons ⟨p.2,rfl⟩ (Tb r)
variable {X:Cx}
section
def An6:V->List V->Hp->VK->Prop:=fun x vs H Q=>∃ a b,x = .str a/\vs=[.str b]/\(b.length == 0)=false/\a.length+2<=sizeLine/\∀ l,H l=ψ->Q (.ref l) (upd H l (.lst ((eW a b).map V.str)))
theorem Aon:MtR X "str.split" An6:=by
 intro pins s σ H x vs v us Q I rx rv h;obtain ⟨a,b,rfl,rfl,hb,hz,q⟩:=h;obtain ⟨t,rfl⟩:=rx;obtain ⟨u,rfl,ru⟩:=rv.one;obtain ⟨t',rfl⟩:=ru;refine Ail hb hz fun l k e=>?_
 have hlen:=Yz a b;refine ⟨.ref s.heap.objs.size,_,I.laid (t':=k) (o:=.lst ((eW a b).map V.str)) (fun b o e=>aC _ e) (aP _) ⟨by rw[aL];omega,strValues l,0,by rw[<- e];exact Tb l,aX _ rfl⟩,rfl,q _ Zbf⟩
def Ags:V->List V->Hp->VK->Prop:=fun x vs H Q=>∃ a b,x = .str a/\vs=[.str b]/\Q (.bl (kB a b)) H
theorem Xq:MtR X "str.startswith" Ags:=by
 intro pins s σ H x vs v us Q I rx rv h;obtain ⟨a,b,rfl,rfl,q⟩:=h;obtain ⟨t,rfl⟩:=rx;obtain ⟨u,rfl,ru⟩:=rv.one;obtain ⟨t',rfl⟩:=ru;exact SC.startswith ⟨.bl (kB a b),H,I,rfl,q⟩
theorem Aio:CallR X (.type "int") (fun xs H Q=>∃ a n,xs=[.str a]/\mN a=ξ n/\a.length<=640/\Q (.int n) H):=by
 intro pins s σ H xs us Q I r h;obtain ⟨a,n,rfl,hn,hl,q⟩:=h;obtain ⟨u,rfl,ru⟩:=r.one;obtain ⟨t,rfl⟩:=ru;exact PySem.W.KIN.call_text hn hl ⟨.int n,H,I.tok _,⟨_,rfl⟩,q⟩
end
def Jh:SM:=fun u us L=>match u,us with
 | .str a,[.str b]=>if (b.length == 0)=false/\a.length<=1000000 then ξ (.ref L.length,L++[.lst ((eW a b).map U.str)]) else ψ
 | _,_=>ψ
variable {K:aF}
theorem U5{H:Hp}{α:List Addr}:∀ l:List Str,RepL K H α (l.map U.str) (l.map V.str)
 | []=>.nil
 | a::l=>.cons (by unfold RepU;rfl) (U5 l)
theorem Aky:Ad2 K An6 Jh:=by
 intro H α L u us x xs z L' Q A ru r e q;unfold Jh at e;split at e
 ·rename_i a b;split at e
  ·rename_i hc;cases e;unfold RepU at ru;subst ru;obtain ⟨v,rfl,rv⟩:=r.one;unfold RepU at rv;subst rv;refine ⟨a,b,rfl,rfl,hc.1,by unfold sizeLine;omega,fun l hl=>?_⟩;obtain ⟨g2,A2,r2⟩:=A.lst (U5 (K:=K) (H:=H) (α:=α) (eW a b)) hl;exact q _ _ _ g2 A2 r2
  ·cases e
 ·cases e
def semStarts:SM:=fun u us L=>match u,us with
 | .str a,[.str b]=>ξ (.bl (kB a b),L)
 | _,_=>ψ
theorem Wa:Ad2 K Ags semStarts:=by
 intro H α L u us x xs z L' Q A ru r e q;unfold semStarts at e;split at e
 ·cases e;unfold RepU at ru;subst ru;obtain ⟨v,rfl,rv⟩:=r.one;unfold RepU at rv;subst rv;exact ⟨_,_,rfl,rfl,q _ H α (.refl _ _) A rfl⟩
 ·cases e
def Lq:SC:=fun us L=>match us with
 | [.str a]=>if a.length<=640 then (mN a).map fun n=>(.int n,L) else ψ
 | _=>ψ
theorem Anj:O0 K (fun xs H Q=>∃ a n,xs=[.str a]/\mN a=ξ n/\a.length<=640/\Q (.int n) H) Lq:=by
 intro H α L us xs z L' Q A r e q;unfold Lq at e;split at e
 ·split at e
  ·rename_i hc;obtain ⟨n,hn,e⟩:=aJ.mp e;cases e;obtain ⟨x,rfl,rx⟩:=r.one;unfold RepU at rx;subst rx;exact ⟨_,n,rfl,hn,hc,q _ H α (.refl _ _) A rfl⟩
  ·cases e
 ·cases e
variable {pos:Pos}
theorem Ab3{a:Str}(hg:Gl X x)(hm:∃ t,X.mg x=ξ (.str a t))(hd:(x == ("__debug__" : Str))=false:=by decide):PEF X ZbR (fC (.str a)):=
 let ⟨t,h⟩:=hm
 Ajz (Uh (v:=.str a) hg h ⟨t,rfl⟩ hd) fun _ _=>by unfold RepU;rfl
theorem Uy{i:Int}(hg:Gl X x)(hm:∃ t,X.mg x=ξ (.int i t))(hd:(x == ("__debug__" : Str))=false:=by decide):PEF X ZbR (fC (.int i)):=
 let ⟨t,h⟩:=hm
 Ajz (Uh (v:=.int i) hg h ⟨t,rfl⟩ hd) fun _ _=>by unfold RepU;rfl
noncomputable def Nl(n:Int):Bool:=decide (-100000000000000000000<=n)&&decide (n<=100000000000000000000)
theorem Ahc{n:Int}(h:Nl n=true):n.natAbs.log2 < 1920:=by
 unfold Nl at h;simp only[bY,decide_eq_true_eq] at h;have h1:n.natAbs<=100000000000000000000:=Ze
 by_cases h0:n.natAbs=0
 ·rw[h0];decide
 ·rw[Nat.log2_lt h0];refine qO h1 ?_;have:(100000000000000000000:Nat) < 2 ^ 100:=Zb
  exact bC this (Nat.pow_le_pow_right Zb Zb)
noncomputable def Wy(n:Int):Str:=fQ (toString n)
def A4p(t:TE):TE:=fun σ H Q=>t σ H fun v H1=>(∃ x,v = .str x/\x.length<=sizeLine/\Q (.str x) H1)\/∃ n,v = .int n/\Nl n=true/\Q (.str (Wy n)) H1
variable {es:List Expr}
section
theorem Aw9{e:Expr}{t:TE}(h:PE X e t):PE X (.FormattedValue e (-1) ψ pos) (A4p t):=by
 intro pins s σ H Q I q;refine FormattedValue_plain (thn (h pins s σ H _ I q) fun v s1 zz=>?_);obtain ⟨x,H1,I1,r1,q1⟩:=zz;rcases q1 with ⟨a,rfl,hl,q⟩ | ⟨n,rfl,hn,q⟩
 ·obtain ⟨t',rfl⟩:=r1;exact formatField_str (fun t'' tk=>⟨.str a,H1,I1.tok tk,⟨_,rfl⟩,q⟩) hl
 ·obtain ⟨t',rfl⟩:=r1;exact formatField_int_small (Ahc hn) ⟨.str (Wy n),H1,I1.tok _,⟨_,rfl⟩,q⟩
def tJ:Str->List TE->L2.St->Hp->VK->Prop
 | out,[],_,H,Q=>out.length<=sizeLine/\Q (.str out) H
 | out,t::r,σ,H,Q=>t σ H fun v H1=>∃ x,v = .str x/\(out++x).length<=sizeLine/\tJ (out++x) r σ H1 Q
inductive PEs(X:Cx):List Expr->List TE->Prop
 | nil:PEs X [] []
 | cons {e:Expr} {t:TE} {es:List Expr} {ts:List TE} (h:PE X e t) (r:PEs X es ts):PEs X (e::es) (t::ts)
theorem Ajf{ts:List TE}(h:PEs X es ts):∀ (pins:List (Addr×Obj)) (s:aN) (σ:L2.St) (H:Hp) (Q:VK) (out:Str),Inv X pins σ H s ->
  tJ out ts σ H Q->wpAny Zf X.A (joinParts out (evalEach es X.env)) Zaj X.xe s:=by
 induction h with
 | nil=>
  intro pins s σ H Q out I q;obtain ⟨hl,q⟩:=q;exact joinParts_nil ⟨.str out,H,I.tok _,⟨_,rfl⟩,q⟩ hl
 | @cons e t es ts h r ih=>
  intro pins s σ H Q out I q;show wpAny _ _ (joinParts out (eval e X.env::evalEach es X.env)) _ _ _;refine joinParts_cons (thn (h pins s σ H _ I q) fun v s1 zz=>?_);obtain ⟨x,H1,I1,r1,y,ey,hl,q1⟩:=zz;subst ey;obtain ⟨t',rfl⟩:=r1;exact ⟨hl,ih pins s1 σ H1 Q (out++y) I1 q1⟩
theorem Akh{v1 v2:Expr}{ts:List TE}(h:PEs X (v1::v2::es) ts):PE X (.JoinedStr (v1::v2::es) pos) (tJ jQ ts):=fun pins s σ H Q I q=>
 JoinedStr_many (Ajf h pins s σ H Q jQ I q)
end
def Hv(f:FE):FE:=fun δ L=>(f δ L).bind fun p=>match p.1 with
 | .str x=>if E4 x.length=true then ξ (.str x,p.2) else ψ
 | .int n=>if Nl n=true then ξ (.str (Wy n),p.2) else ψ
 | _=>ψ
theorem Kh{e:Expr}{f:FE}(h:PEF X e f):PEF X (.FormattedValue e (-1) ψ pos) (Hv f):=by
 refine PE.imp (Aw9 h) ?_;rintro σ H Q ⟨α,δ,L,A,S,z,L3,e,q⟩;obtain ⟨⟨u,L1⟩,e1,e⟩:=aA.mp e;refine ⟨α,δ,L,A,S,u,L1,e1,fun x H1 α1 g1 A1 r1=>?_⟩;simp only at e;split at e
 ·split at e
  ·rename_i hc;cases e;unfold RepU at r1;subst r1;exact .inl ⟨_,rfl,Ec hc,q _ _ _ g1 A1 (by unfold RepU;rfl)⟩
  ·cases e
 ·split at e
  ·rename_i hc;cases e;unfold RepU at r1;subst r1;exact .inr ⟨_,rfl,hc,q _ _ _ g1 A1 (by unfold RepU;rfl)⟩
  ·cases e
 ·cases e
def goJ:Str->List FE->UE->UH->Option (U×UH)
 | out,[],_,L=>ξ (.str out,L)
 | out,f::r,δ,L=>(f δ L).bind fun p=>match p.1 with
  | .str x=>if E4 (out++x).length=true then goJ (out++x) r δ p.2 else ψ
  | _=>ψ
def Jr(fs:List FE):FE:=fun δ L=>goJ jQ fs δ L
inductive PFs(X:Cx):List Expr->List FE->Prop
 | nil:PFs X [] []
 | cons {e:Expr} {f:FE} {es:List Expr} {fs:List FE} (h:PEF X e f) (r:PFs X es fs):PFs X (e::es) (f::fs)
theorem PFs.pes{fs:List FE}(h:PFs X es fs):PEs X es (fs.map (lE X.K)):=by
 induction h with
 | nil=>exact .nil
 | cons h r ih=>exact .cons h ih
theorem Ak4:∀ (fs:List FE) (out:Str) (σ:L2.St) (H:Hp) (Q:VK) (α:List Addr) (δ:UE) (L:UH) (z:U) (L3:UH),Abs K H α L->RepS K H α δ σ->goJ out fs δ L=ξ (z,L3)->out.length<=sizeLine ->
  (∀ v H' α',Gr H α H' α'->Abs K H' α' L3->RepU K H' α' z v->Q v H')->tJ out (fs.map (lE K)) σ H Q
 | [],out,σ,H,Q,α,δ,L,z,L3,A,S,e,hl,q=>by
  cases e;exact ⟨hl,q _ H α (.refl _ _) A (by unfold RepU;rfl)⟩
 | f::r,out,σ,H,Q,α,δ,L,z,L3,A,S,e,hl,q=>by
  unfold goJ at e;obtain ⟨⟨u,L1⟩,e1,e⟩:=aA.mp e;refine ⟨α,δ,L,A,S,u,L1,e1,fun x H1 α1 g1 A1 r1=>?_⟩;simp only at e;split at e
  ·split at e
   ·rename_i x' hc;unfold RepU at r1;subst r1;exact ⟨x',rfl,Ec hc,Ak4 r (out++x') σ H1 Q α1 δ L1 z L3 A1 (S.mono g1) e (Ec hc) fun v H' α' g A' r'=>q v H' α' (g1.trans g) A' r'⟩
   ·cases e
  ·cases e
theorem Sj{v1 v2:Expr}{fs:List FE}(h:PFs X (v1::v2::es) fs):PEF X (.JoinedStr (v1::v2::es) pos) (Jr fs):=by
 refine PE.imp (Akh h.pes) ?_;rintro σ H Q ⟨α,δ,L,A,S,z,L3,e,q⟩;exact Ak4 fs jQ σ H Q α δ L z L3 A S e (eG _) q
end MR
namespace MR
open PySem PySem.Spec PyProof.Rows L2
variable {X:Cx}
section
variable {prog:cC}{w:cM}{A:eA}{E:aH->aN->Prop}{s:aN}{K:aF}{x C:Addr}{name:Str}{v:aH}{vs:Array aH}
end
section
variable {o e value:Expr}{f:Str}{p pos pos':Pos}{to tv:TE}
end
section
variable {o e value:Expr}{f:Str}{p pos pos':Pos}{fo fv fe:FE}{Cs Ds:List Str}
inductive FldXR(K:aF)(f:Str)(Q:VK)(x:V)(H1:Hp):Prop
 | mk (a:_) (Ca:_) (dx:_) (fr:_) (vs:_) (od:_) (v:_) (h0:x = .ref a) (h1:H1 a=ξ (.ext (ExcIs a Ca (ξ dx) fr))) (h2:H1 dx=ξ (.frz od (.xd vs))) (h3:ExcA K Ca) (h4:cQ K (.ref Ca) f=ξ ψ) (h5:vs.lookup f=ξ v) (h6:Q v H1):FldXR K f Q x H1
end
end MR
namespace MR
open PySem PySem.Spec PyProof.Rows PySem.Calls L2
variable {X:Cx}
section
def Agk:V->List V->Hp->VK->Prop:=fun x vs H Q=>∃ a b,x = .str a/\vs=[.str b]/\a.length<=sizeLine/\Q (.str (eP a b)) H
theorem Aj0:MtR X "str.lstrip" Agk:=by
 intro pins s σ H x vs v us Q I rx rv h;obtain ⟨a,b,rfl,rfl,hl,q⟩:=h;obtain ⟨t,rfl⟩:=rx;obtain ⟨u,rfl,ru⟩:=rv.one;obtain ⟨t',rfl⟩:=ru;exact SC.lstripChars (fun t' k=>⟨.str (eP a b),H,I.tok k,⟨_,rfl⟩,q⟩) hl
end
def Fh:SM:=fun u us L=>match u,us with
 | .str a,[.str b]=>if a.length<=1000000 then ξ (.str (eP a b),L) else ψ
 | _,_=>ψ
theorem Afp{K:aF}:Ad2 K Agk Fh:=by
 intro H α L u us x xs z L' Q A ru r e q;unfold Fh at e;split at e
 ·split at e
  ·rename_i hc;cases e;unfold RepU at ru;subst ru;obtain ⟨v,rfl,rv⟩:=r.one;unfold RepU at rv;subst rv;exact ⟨_,_,rfl,rfl,by unfold sizeLine;omega,q _ H α (.refl _ _) A (by unfold RepU;rfl)⟩
  ·cases e
 ·cases e
section
def Atg:List V->Hp->VK->Prop:=fun xs H Q=>(∃ n,xs=[.int n]/\Nl n=true/\Q (.str (Wy n)) H)\/∃ x,xs=[.str x]/\Q (.str x) H
theorem Air:CallR X (.type "str") Atg:=by
 intro pins s σ H xs us Q I r h;rcases h with ⟨n,rfl,hn,q⟩ | ⟨x,rfl,q⟩
 ·obtain ⟨u,rfl,ru⟩:=r.one;obtain ⟨t,rfl⟩:=ru;exact P.str_of_int (Ahc hn) ⟨.str (Wy n),H,I.tok _,⟨_,rfl⟩,q⟩
 ·obtain ⟨u,rfl,ru⟩:=r.one;obtain ⟨t,rfl⟩:=ru;exact P.str_of_str ⟨.str x,H,I,⟨_,rfl⟩,q⟩
end
def Uc:SC:=fun us L=>match us with
 | [.int n]=>if Nl n=true then ξ (.str (Wy n),L) else ψ
 | [.str x]=>ξ (.str x,L)
 | _=>ψ
theorem Ak8{K:aF}:O0 K Atg Uc:=by
 intro H α L us xs z L' Q A r e q;unfold Uc at e;split at e
 ·split at e
  ·rename_i hc;cases e;obtain ⟨x,rfl,rx⟩:=r.one;unfold RepU at rx;subst rx;exact .inl ⟨_,rfl,hc,q _ H α (.refl _ _) A (by unfold RepU;rfl)⟩
  ·cases e
 ·cases e;obtain ⟨x,rfl,rx⟩:=r.one;unfold RepU at rx;subst rx;exact .inr ⟨_,rfl,q _ H α (.refl _ _) A (by unfold RepU;rfl)⟩
 ·cases e
end MR
namespace ZT
open PySem PySem.Spec PyProof.Rows PySem.W
open Sem (wp)
section
variable {prog:cC}{w:cM}{A:eA}{E:aH->aN->Prop}{s:aN}{T:String}{r d:Addr}{n:Nat}{P:Nat->aH->Prop}{OK:Heap->Prop}
theorem Aco{Q:List aH->aN->Prop}(K:KdlSrc prog w T r d n P OK)(hh:A.handled=ψ)(hok:OK s.heap)
  (hQ:∀ (h':Heap) (tk:Nat) (acc:Array aH),Zal->ItemsOf P acc n->Q acc.toList { s with heap:=h',toks:=tk }) (hn:n<=sizeLine):wpAny Zu A (collect (.ref r)) Q E s:=by
 have hlt:=K.there _ hok;unfold collect;refine aD (wpAny_runValue (oS PySem.F.entry_proto_collect ?_));rw[lF PySem.F.plain_proto_collect _];show wpAny _ A.in1 (newList [] >>= fun l=>again (.builtin "list.__iadd__" ⟨[l,.ref r],[]⟩)) _ _ s;refine aD (eJ ?_);refine bB ⟨plainId_quiet nS _,oS PySem.F.entry_list_iadd ?_⟩;rw[lF nS _];have hS₁:(s.heap.push { cls:=.type "list",data:=.seq ([]:List aH).toArray }).get? s.heap.objs.size=ξ { cls:=.type "list",data:=.seq ([]:List aH).toArray }:=aX _ rfl;show wpAny _ A.in1 (kW.List.listExtendWith Z5 (.ref r) Z5) _ _ _;refine kdl_extend (R:=wants _ E) (s:={ s with heap:=s.heap.push { cls:=.type "list",data:=.seq ([]:List aH).toArray } }) K hh (K.keep _ _ hok fun b _ o e=>aC _ e) s.heap.objs.size (jV hlt.1) (jV hlt.2) _ _ hS₁ (fun h' tk acc' c' hk hS' hacc=>?_) hn;show wpAny _ A (load s.heap.objs.size >>= _) _ _ _;refine aD (wpAny_load hS' ?_);exact bB (hQ h' tk acc' (fun b o e=>hk b o (cF (aY e)) (aC _ e)) hacc)
theorem W0{Q₁:aH->aN->Prop}(K:KdlSrc prog w T r d n P OK)(hh:A.handled=ψ)(hok:OK s.heap)
  (h:∀ (h':Heap) (tk:Nat) (acc:Array aH),Zal->ItemsOf P acc n->Q₁ (.ref h'.objs.size) { s with heap:=h'.push { cls:=.type "tuple",data:=.seq acc },toks:=tk }) (hsz:n<=sizeLine) :
  kT Zu A (.call (.builtin "tuple.__new__") ⟨[.type "tuple",.ref r],[]⟩) (wants Q₁ E) s:=by
 refine codeAny_of_tree ?_;show wpAny _ A.in1 (do checkBuiltinCall "tuple.__new__" ⟨[.type "tuple",.ref r],[]⟩;again (.builtin "tuple.__new__" ⟨[.type "tuple",.ref r],[]⟩)) _ _ s
 refine aD (wpAny_of_eq (PySem.F.newCall_tuple_1 _) (bB ⟨plainId_quiet nT _,oS PySem.F.entry_tuple_new ?_⟩));rw[lF nT _];have hsub:=sub_tuple_self;have hinit:=init_tuple_lookup;have hmh:=madeHere_tuple;have hTI:=K.type s hok;have hnt:=K.notTuple
 wp_walk using wpAny_typeOf hTI,Aco (A:=A.in1) (hn:=hsz) K hh hok
 intro h' tk acc hm hacc;show wpAny _ _ (eM acc.toList.toArray >>= fun v=>ret v) _ _ _;unfold eM;refine aD (eJ ?_ (by show acc.toList.toArray.size<=sizeLine;simp only[Array.toArray_toList];rw[hacc.1];exact hsz))
 refine bB ?_;have e:acc.toList.toArray=acc:=Za
 rw[e];exact h h' tk acc hm hacc
theorem Vf{Q:aH->aN->Prop}(K:KdlSrc prog w T r d n P OK)(hh:A.handled=ψ)(hok:OK s.heap)
  (hQ:∀ (h':Heap) (tk:Nat) (acc:Array aH),Zal->ItemsOf P acc n->Q (.ref h'.objs.size) { s with heap:=h'.push { cls:=.type "tuple",data:=.seq acc },toks:=tk }) (hsz:n<=sizeLine) :
  wpAny Zu A (call (.type "tuple") [.ref r]) Q E s:=by
 refine callType_codes (Q₁:=fun obj s₁=>s₁.TypeIs obj "tuple" /\ Q obj s₁) PySem.F.called_tuple (PySem.F.typeCall_tuple_1 _) PySem.F.entry_object_init
  (W0 (hsz:=hsz) K hh hok fun h' tk acc hm hacc=>⟨⟨_,aX _ rfl,rfl⟩,hQ h' tk acc hm hacc⟩) fun obj s₁ h₁=>?_
 exact ⟨h₁.1,PySem.F.args_object_init_2 obj _,object_init_meets PySem.F.called_tuple.init.lookup PySem.F.called_tuple.made Zb prog w A.in1 _ s₁ ⟨h₁.1,rfl,h₁.2⟩⟩
end
end ZT
namespace MR
open PySem PySem.Spec PyProof.Rows PySem.Calls L2
theorem Aif:∀ {kvs:List (Key×V)} {vs:List (Key×aH)},KV kvs vs->Vals (kvs.map (·.2)) (vs.map (·.2))
 | _,_,.nil=>.nil
 | _,_,.cons r t=>.cons r.2 (Aif t)
theorem Ae3{vs:List (Key×aH)}{acc:Array aH}(h:ItemsOf (fun i v=>∃ k,vs[i]? = ξ (k,v)) acc vs.length):acc.toList=vs.map (·.2):=
 PySem.W.kdl_vals_eq acc.toList (by rw[cN];exact h.1) fun j v e=>h.2 j v (by rw[<- gZ];exact e)
section
variable {X:Cx}{o:Expr}{apos cpos p pos:Pos}{td:TE}{fo:FE}
def Axc(td:TE):TE:=fun σ H Q=>td σ H fun x H1=>∃ a kvs,x = .ref a/\H1 a=ξ (.dK kvs)/\∀ l,H1 l=ψ->Q (.ref l) (upd H1 l (.tup (kvs.map (·.2))))
theorem Ao4(hc:X.calm=true)(hgL:Gl X "tuple")(hmL:X.mg "tuple" = ψ)(hl:PE X o td)(m:M0 X o "values" apos cpos)
  (hs2:bH [.Call (.Attribute o "values" apos) [] [] cpos] X.env=[(false,eval (.Call (.Attribute o "values" apos) [] [] cpos) X.env)]:=by rfl):PE X (.Call (.Name "tuple" p) [.Call (.Attribute o "values" apos) [] [] cpos] [] pos) (Axc td):=by
 intro pins s σ H Q I h;refine gQ (P7 I hgL hmL Acj ?_);refine eY ?_ hs2 rfl;rw[hs2];refine jO ?_;refine mY m.base m.few m.line jR nI PySem.F.type_dict_values (thn Zc1 fun u s1 zz=>zz.elim fun x H1 I1 rx zq=>?_);obtain ⟨a,kvs,ex,ea,q⟩:=zq;subst ex;obtain rfl:u=cW a:=rx;obtain ⟨t1,t2,_⟩:=Anr I1 (.inl ⟨kvs,.inl ea⟩);refine ⟨t1,t2,?_⟩;rw[m.trees];obtain ⟨hd,ob,vs,ep,ho,D⟩:=Apw I1 ea;have da:=D.at_ _ _ ho;refine iL rfl (PySem.evalArgs_none ?_);refine qY nI t1 PySem.F.entry_dict_values (PySem.F.args_dict_values_1 _) (meets_dict_values (C9 X.prog X.w) a hd) ⟨⟨vs,da.dictOf⟩,?_⟩;refine jY ?_;have I2:L2.Inv X pins σ H1 { s1 with heap:=s1.heap.push { cls:=.type "dict_values",data:=.fields #[.ref a] } }:=I1.kept (t':=s1.toks) fun b o e=>aC _ e
 have hz:kvs.length<=sizeLine:=(Ahu I1.hok ea).1;have hl:=KV.length D.rel;refine ZT.Vf (PySem.W.kdl_values (knd:=C9 X.prog X.w) (kvs:=vs) (ep:=ep)) (I2.ok.hd hc) ⟨⟨_,aX _ rfl,rfl,rfl⟩,da.push _⟩ (fun h' tk acc hk hacc=>?_) (by rw[<- hl];exact hz);have hacc':=Ae3 hacc;have hacc2:acc=(vs.map (·.2)).toArray:=by rw[<- hacc']
 have I3:L2.Inv X pins σ H1 { s1 with heap:=h',toks:=tk }:=I2.kept (t':=tk) hk;have I4:L2.Inv X pins σ (upd H1 h'.objs.size (.tup (kvs.map (·.2)))) { s1 with heap:=h'.push { cls:=.type "tuple",data:=.seq acc },toks:=tk }:=
  I3.laid (t':=tk) (fun b o e=>aC _ e) (aP _) (show ObjOk X.prog X.w _ _ _ (.tup (kvs.map (·.2))) from ⟨by rw[aL];exact hz,vs.map (·.2),Aif D.rel,by rw[hacc2];exact TupN.new _ _⟩)
 exact ⟨.ref h'.objs.size,_,I4,rfl,q _ (I3.hok.fresh (aP _))⟩
def Ael(f:FE):FE:=fun δ L=>(f δ L).bind fun p=>match p.1 with
 | .ref n=>(Mx p.2 n).map fun kvs=>(.tup (Amz kvs),p.2)
 | _=>ψ
theorem Ant(hc:X.calm=true)(hgL:Gl X "tuple")(hmL:X.mg "tuple" = ψ)(hl:PEF X o fo)(m:M0 X o "values" apos cpos)
  (hs2:bH [.Call (.Attribute o "values" apos) [] [] cpos] X.env=[(false,eval (.Call (.Attribute o "values" apos) [] [] cpos) X.env)]:=by rfl):PEF X (.Call (.Name "tuple" p) [.Call (.Attribute o "values" apos) [] [] cpos] [] pos) (Ael fo):=by
 refine PE.imp (Ao4 hc hgL hmL hl m hs2) ?_;rintro σ H Q ⟨α,δ,L,A,S,u,L3,e,q⟩;obtain ⟨⟨u,L1⟩,e1,e⟩:=aA.mp e;simp only at e;split at e
 ·obtain ⟨kvs,hd,e⟩:=aJ.mp e;cases e;refine ⟨α,δ,L,A,S,_,_,e1,fun x H1 α1 g1 A1 r1=>?_⟩;obtain ⟨a,vs,rfl,ea,ha,rk⟩:=Ov A1 hd r1;refine ⟨a,vs,rfl,ha,fun l hl=>?_⟩;obtain ⟨g',A',r'⟩:=A1.tup rk.2 hl;exact q _ _ _ (g1.trans g') A' r'
 ·cases e
end
end MR
namespace MR
open PySem PySem.Spec PyProof.Rows L2
section
variable {X:Cx}{o i e f:Expr}{pos apos cpos:Pos}{fo fi fe fx:FE}
end
end MR
namespace MR
open PySem PySem.Spec PyProof.Rows PySem.Calls L2
variable {X:Cx}
noncomputable def Awe(P:nE)(e:Str×Nat×Addr):pR:=⟨tX P e.1,.str e.1 e.2.1,.ref e.2.2⟩
def Avk(P:nE)(l:List Zdl)(ep:Nat):Obj:=⟨.type "dict",ψ,.dict (l.map (Awe P)).toArray ep,#[]⟩
noncomputable def Av5(ws:List (Str×Nat)):Obj:=⟨.type "tuple",ψ,.seq (ws.map fun w=>mG w.1 w.2).toArray 0,#[]⟩
inductive Fm(K:aF):List Zdl->List Za5->Prop
 | nil:Fm K [] []
 | cons {x:Str} {n:Nat} {r:Addr} {ws:List (Str×Nat)} {l:List (Str×Nat×Addr)} {t:List (Str×List Str)} (h:K.lookup r=ξ (Av5 ws)) (hl:ws.length<=1000) (k:Fm K l t):Fm K ((x,n,r)::l) ((x,ws.map (·.1))::t)
inductive FormsAt(K:aF)(w:cM)(mg:Str->Option aH)(x:Str)(tbl:List Za5):Prop
 | mk (a:Addr) (l:List (Str×Nat×Addr)) (ep:Nat) (hm:mg x=ξ (.ref a)) (hK:K.lookup a=ξ (Avk w.params l ep)) (hs:(a == sysModules)=false) (hn:(tbl.map (·.1)).Nodup) (hf:Fm K l tbl):FormsAt K w mg x tbl
variable {l:List Zdl}
theorem Fm.keys{K:aF}{t:List Za5}(h:Fm K l t):l.map (·.1)=t.map (·.1):=by
 induction h with
 | nil=>rfl
 | cons _ _ _ ih=>simp[ih]
theorem Fm.find{K:aF}{t:List Za5}(h:Fm K l t)(s:Str) :
  (t.lookup s=ψ/\valueAt Za6 (.inr s)=ψ) \/
  ∃ (r:Addr) (ws:List (Str×Nat)),t.lookup s=ξ (ws.map (·.1))/\valueAt Za6 (.inr s)=ξ (.ref r)/\K.lookup r=ξ (Av5 ws)/\ws.length<=1000:=by
 induction h with
 | nil=>exact .inl ⟨rfl,rfl⟩
 | @cons x n r ws l t h hl _ ih=>
  by_cases e:x=s
  ·subst e;refine .inr ⟨r,ws,by simp[eV],?_,h,hl⟩;simp[valueAt]
  ·have e1:(s == x)=false:=beq_false_of_ne (gY e);have e2:¬ ((gI x:Key) = .inr s):=fun q=>e (by injection q)
   have hv:valueAt (((x,n,r)::l).map fun e=>((gI e.1:Key),cW e.2.2)) (.inr s)=valueAt Za6 (.inr s):=by
    simp[valueAt,e2]
   rw[hv];simp only[eV,e1];exact ih
theorem Aic{P:cC}{w:cM}{h:Heap}{a:Addr}{ep:Nat}(ho:h.get? a=ξ (Avk w.params l ep))(hn:(l.map (·.1)).Nodup):h.DictOf (C9 P w) a Za6:=by
 refine ⟨_,_,ep,ho,⟨rfl,rfl,rfl⟩,rfl,?_,?_,?_⟩
 ·intro e he;have:e∈l.map (Awe w.params):=by simpa using he
  obtain ⟨q,_,rfl⟩:=bT.mp this;exact ⟨.inr q.1,Nu P w q.1 q.2.1,rfl⟩
 ·show Pairs (C9 P w) (l.map (Awe w.params)) _;clear ho hn;induction l with
  | nil=>exact .nil
  | cons q l ih=>exact .cons (Nu P w q.1 q.2.1) rfl ih
 ·rw[bJ];have:(l.map (·.1)).map (gI:Str->Key)=l.map ((fun x=>x.fst)∘fun e=>((gI e.1:Key),cW e.2.2)):=by rw[bJ];rfl
  rw[<- this];exact gE _ (fun a b h q=>h (by injection q)) hn
section
variable {e:Expr}{x:Str}{p apos cpos:Pos}{ty:TE}{tbl:List Za5}
def Axi(K:aF)(tbl:List Za5)(ty:TE):TE:=fun σ H Q=>ty σ H fun y H2=>∃ s,y = .str s/\(tbl.lookup s=ψ->Q .non H2)/\∀ (r:Addr) (ws:List (Str×Nat)),tbl.lookup s=ξ (ws.map (·.1))->K.lookup r=ξ (Av5 ws)->ws.length<=1000->Q (.ref r) H2
theorem Aly(F:FormsAt X.K X.w X.mg x tbl)(hg:Gl X x)(he:PE X e ty)(m:M1 X (.Name x p) "get" apos e cpos)(hd:(x == ("__debug__" : Str))=false:=by decide):PE X (.Call (.Attribute (.Name x p) "get" apos) [e] [] cpos) (Axi X.K tbl ty):=by
 intro pins s σ H Q I h;obtain ⟨a,l,ep,hm,hK,hs,hn,hf⟩:=F;rw[<- hf.keys] at hn;have hat:∀ {s1:aN} {H1:Hp},Inv X pins σ H1 s1->s1.heap.get? a=ξ (Avk X.w.params l ep):=fun I1=>I1.kIn _ _ hK
 refine mY m.base m.few m.line jR oZ PySem.F.type_dict_get (Uw I hg hm ?_ hd);have dd:=Aic (P:=X.prog) (hat I) hn;refine ⟨dd.typeIs,fun b q=>?_,?_⟩
 ·cases q;exact ⟨_,hat I,rfl⟩
 rw[m.trees];refine iL rfl (kZ (jO (thn Zar fun iv s2 zz=>zz.elim fun y H2 I2 ry zq=>jY ?_)));obtain ⟨sx,rfl,q1,q2⟩:=zq;have d2:=Aic (P:=X.prog) (hat I2) hn;refine qY oZ d2.typeIs PySem.F.entry_dict_get (PySem.F.args_dict_get_2 _ _) (meets_dict_get (C9 X.prog X.w) a (Y8 (k:=.inr sx) ry) hs) ⟨_,d2.mapOf,?_⟩;rcases hf.find sx with ⟨f1,f2⟩ | ⟨r,ws,f1,f2,f3,f4⟩
 ·exact ⟨.non,H2,I2.tok _,by rw[f2];rfl,q1 f1⟩
 ·exact ⟨.ref r,H2,I2.tok _,by rw[f2];rfl,q2 r ws f1 f3 f4⟩
end
def Aa9(tbl:List Za5)(fe:FE):FE:=fun δ L=>(fe δ L).bind fun q=>match q.1 with
 | .str s=>ξ (match tbl.lookup s with | some ws=>.tup ZaG | none=>.non,q.2)
 | _=>ψ
theorem Xn:∀ ws:List (Str×Nat),Vals ((ws.map (·.1)).map V.str) (ws.map fun w=>mG w.1 w.2)
 | []=>.nil
 | w::ws=>.cons ⟨_,rfl⟩ (Xn ws)
theorem Anw{e:Expr}{x:Str}{p apos cpos:Pos}{fe:FE}{tbl:List Za5}(F:FormsAt X.K X.w X.mg x tbl)(hg:Gl X x)(he:PEF X e fe)(m:M1 X (.Name x p) "get" apos e cpos)(hd:(x == ("__debug__" : Str))=false:=by decide):PEF X (.Call (.Attribute (.Name x p) "get" apos) [e] [] cpos) (Aa9 tbl fe):=by
 refine PE.imp (Aly F hg he m hd) ?_;rintro σ H Q ⟨α,δ,L,A,S,z,L3,ee,q⟩;obtain ⟨⟨u,L1⟩,e1,ee⟩:=aA.mp ee;refine ⟨α,δ,L,A,S,u,L1,e1,fun y H1 α1 g1 A1 r1=>?_⟩;simp only at ee;split at ee
 ·rename_i s;cases ee;unfold RepU at r1;subst r1;refine ⟨s,rfl,fun h0=>?_,fun r ws h1 h2 h3=>?_⟩
  ·exact q _ _ _ g1 A1 (by rw[h0];unfold RepU;rfl)
  ·refine q _ _ _ g1 A1 ?_;rw[h1];unfold RepU;exact ⟨r,(ws.map (·.1)).map V.str,rfl,.inr ⟨_,_,0,h2,rfl,rfl,by simp;unfold sizeLine;omega,by simpa using Xn ws⟩,U5 _⟩
 ·cases ee
end MR
namespace ZT
open PySem PySem.Spec PyProof.Rows
open Sem (wp)
theorem Awh (l1 l2 : Addr) (xs ys : Array aH) : Meets (kW.«zip.__new__» ⟨[.type "zip", .ref l1, .ref l2], []⟩) (fun _ R s => s.heap.IsList l1 xs /\ s.heap.IsTuple l2 ys /\
   R (.ok (.ret (.ref (zh4 "list_iterator" "tuple_iterator" s.heap l1 l2).objs.size))) { s with heap:=zh5 "list_iterator" "tuple_iterator" s.heap l1 l2 }):=
 .of_wp fun prog w A R s h=>by
  obtain ⟨hp,g,d,tk,os⟩:=s;obtain ⟨t1,t2,h⟩:=h;have hsub:=sub_zip;have T1:Heap.IsList (pG ⟨hp,g,d,tk,os⟩) l1 xs:=t1;have T2:rA (pG ⟨hp.push { cls:=.type "list_iterator",data:=.fields #[.ref l1,.int 0 0] },g,d,tk,os⟩) l2 ys:=rB t2 _
  wp_walk using jX T1,jN T2
  exact ⟨_,rfl,h⟩
section
variable {prog:cC}{w:cM}{A:eA}{E:aH->aN->Prop}{s:aN}
theorem Ar7{l1 l2:Addr}{xs ys:Array aH}{Q:aH->aN->Prop}(t1:s.heap.IsList l1 xs)(t2:s.heap.IsTuple l2 ys)
  (h:∀ h',lX h' Zdp Zdq Zdr .none->gJ h' Zdq Z5 (.ref Zl) ->
   gJ h' Zdr .none .none->ItK true h' s.heap.objs.size l1 0->ItK false h' Zl l2 0->(∀ c o,s.heap.get? c=ξ o->h'.get? c=ξ o)->Q (.ref Zdp) { s with heap:=h' }) :
  wpAny Zu A (call (.type "zip") [.ref l1,.ref l2]) Q E s:=by
 refine callType_new F.called_zip Zb (sB _ _) (sR _ _) (fun obj=>pH obj _ _) sS (Awh l1 l2 xs ys) ⟨t1,t2,?_⟩;have z1:(zh1 "list_iterator" s.heap l1).objs.size=s.heap.objs.size+1:=dR ..;have z2:(zh2 "list_iterator" "tuple_iterator" s.heap l1 l2).objs.size=s.heap.objs.size+2:=by rw[dR,z1]
 have z3:(zh3 "list_iterator" "tuple_iterator" s.heap l1 l2).objs.size=s.heap.objs.size+3:=by rw[dR,z2]
 have z4:(zh4 "list_iterator" "tuple_iterator" s.heap l1 l2).objs.size=s.heap.objs.size+4:=by rw[dR,z3]
 have q5:(zh5 "list_iterator" "tuple_iterator" s.heap l1 l2).get? (zh4 "list_iterator" "tuple_iterator" s.heap l1 l2).objs.size=ξ _:=aX _ rfl;have q4:(zh5 "list_iterator" "tuple_iterator" s.heap l1 l2).get? (zh3 "list_iterator" "tuple_iterator" s.heap l1 l2).objs.size=ξ _:=aC _ (aX _ rfl);have q3:(zh5 "list_iterator" "tuple_iterator" s.heap l1 l2).get? (zh2 "list_iterator" "tuple_iterator" s.heap l1 l2).objs.size=ξ _:=aC _ Zca;have q2:(zh5 "list_iterator" "tuple_iterator" s.heap l1 l2).get? (zh1 "list_iterator" s.heap l1).objs.size=ξ _:=aC _ (aC _ Zca);have q1:(zh5 "list_iterator" "tuple_iterator" s.heap l1 l2).get? s.heap.objs.size=ξ _:=aC _ (aC _ (aC _ Zca));show _/\_;rw[z2,z3,z4] at q5;rw[z1,z2] at q3;rw[z3] at q4;rw[z1] at q2;rw[z4];exact ⟨⟨_,q5,rfl⟩,h _ q5 q3 q4 ⟨_,q1,rfl,rfl⟩ ⟨_,q2,rfl,rfl⟩ fun c o q=>aC _ (aC _ (aC _ (aC _ (aC _ q))))⟩
end
end ZT
namespace MR
open PySem PySem.Spec PyProof.Rows L2
section
variable {X:Cx}{elts:List Expr}{x1:Nat}{tpos:Pos}
def A1p(K:aF)(ta:TA):TI:=fun σ H R=>ta σ H fun vs H1=>∃ a b xs ys,vs=[.ref a,.ref b]/\SqL K H1 a xs/\SqT K H1 b ys/\R (Anv true false K a b) H1
theorem Asp{a b:Expr}{ta:TA}{p pos:Pos}(hg:Gl X "zip")(hm:X.mg "zip" = ψ)(ha:PA X [a,b] ta)(hs:bH [a,b] X.env=ZbG::bH [b] X.env:=by rfl)(hpl:(backTo pos (bH [b] X.env)).any (·.1)=false:=by rfl):PI X Zdd (.Call (.Name "zip" p) [a,b] [] pos) (A1p X.K ta):=by
 intro pins s σ H R I h;refine Call_ (P7 I hg hm Adp (eY (thn ZaY fun us s1 ⟨vs,H1,I1,r1,q1⟩=>?_) hs hpl));obtain ⟨l1,l2,xs,ys,rfl,sq1,sq2,q⟩:=q1;obtain ⟨u,u',rfl,ru,ru'⟩:=Agu r1;cases ru;cases ru';obtain ⟨its1,hv1,pl1,hz1⟩:=I1.list sq1;obtain ⟨its2,hv2,pl2,hz2⟩:=I1.tuple sq2;have lt1:l1 < s1.heap.objs.size:=by obtain ⟨o,_,e,_⟩:=pl1;exact aY e
 have lt2:l2 < s1.heap.objs.size:=by obtain ⟨o,e,_⟩:=pl2;exact aY e
 refine ZT.Ar7 pl1.isList pl2 fun h' o1 o2 o3 o4 o5 o7=>?_
 have I2:L2.Inv X pins σ H1 { s1 with heap:=h' }:=I1.kept (t':=s1.toks) o7;refine nR o1 ⟨_,_,_,_,H1,rfl,I2,Yr (b1:=true) (b2:=false) l1 l2 _ _ _ _ _ (Yt _ _ _ lt1 lt2),⟨o1,o2,⟨_,_,o3⟩,o4,o5⟩,fun b hb=>?_,q⟩;have hb':s1.heap.objs.size<=b:=by
  simp only[bG,cX,or_false] at hb;rcases hb with rfl | rfl | rfl | rfl | rfl <;> first | exact sC _ _ | exact aP _
 exact L2.Inv.fpOk I1 hb' (I1.hok.fresh hb')
theorem Ame{K:aF}{H:Hp}{α:List Addr}{n:Nat}{a b:Addr}{ws:List U}{ys:List V}(ea:α[n]? = ξ a)(sb:SqT K H b ys)(rb:RepL K H α ws ys):V0 K (Anv true false K a b) (.zipL n ws) H α:=by
 intro H2 α2 L2 g A2 k;have ea2:=g.at ea;have mv:∃ zs2,SqT K H2 b zs2/\RepL K H2 α2 ws zs2:=by
  have m:=(show RepU K H α (.tup ws) (.ref b) by unfold RepU;exact ⟨b,ys,rfl,sb,rb⟩).mono g
  unfold RepU at m;obtain ⟨c',zs2,e,s2,r2⟩:=m;cases e;exact ⟨zs2,s2,r2⟩
 obtain ⟨ys2,sb2,rb2⟩:=mv;refine ⟨fun u eu=>?_,fun eu=>?_⟩
 ·obtain ⟨us,hw,eu⟩:=aJ.mp eu;obtain ⟨xs2,sa2,ra2⟩:=V7 A2 ea2 hw;cases h1:us[k]? with
  | none=>rw[h1] at eu;simp[Mt] at eu
  | some u1=>
   cases h2:ws[k]? with
   | none=>rw[h1,h2] at eu;simp[Mt] at eu
   | some u2=>
    rw[h1,h2] at eu;simp[Mt] at eu;subst eu;obtain ⟨x,hx,rx⟩:=ra2.get h1;obtain ⟨y,hy,ry⟩:=rb2.get h2;refine ⟨⟨xs2,ys2,x,y,sa2,sb2,hx,hy⟩,?_⟩;rintro z H3 ⟨p,v,v',hp,rfl,rfl,hy1,hy2⟩;have e1:=hy1 xs2 sa2;have e2:=hy2 ys2 sb2;rw[hx] at e1;cases e1;rw[hy] at e2;cases e2;exact A2.tup (.cons rx (.cons ry .nil)) hp
 ·obtain ⟨us,hw,eu⟩:=aJ.mp eu;obtain ⟨xs2,sa2,ra2⟩:=V7 A2 ea2 hw;refine ⟨xs2,ys2,sa2,sb2,?_⟩;cases h1:us[k]? with
  | none=>left;rw[<- ra2.length];exact cU.mp h1
  | some u1=>
   cases h2:ws[k]? with
   | none=>right;rw[<- rb2.length];exact cU.mp h2
   | some u2=>rw[h1,h2] at eu;simp[Mt] at eu
def Ob(g:FA):FI:=fun δ L=>(g δ L).bind fun p=>match p.1 with
 | [.tup us,.tup ws]=>ξ (.seq (Fb us ws),p.2)
 | [.ref n,.tup ws]=>(Aw p.2 n).map fun _=>(.zipL n ws,p.2)
 | _=>ψ
theorem Vt{a b:Expr}{g:FA}{p pos:Pos}(hg:Gl X "zip")(hm:X.mg "zip" = ψ)(ha:PAF X [a,b] g)(hs:bH [a,b] X.env=ZbG::bH [b] X.env:=by rfl)(hpl:(backTo pos (bH [b] X.env)).any (·.1)=false:=by rfl):PIF X Zdd (.Call (.Name "zip" p) [a,b] [] pos) (Ob g):=by
 refine PI.imp (PI.or (Aie hg hm ha hs hpl) (Asp hg hm ha hs hpl)) ?_;rintro σ H R ⟨α,δ,L,A,S,i,L3,e,q⟩;obtain ⟨⟨us,L1⟩,e1,ee⟩:=aA.mp e;simp only at ee;split at ee
 ·cases ee;refine .inl ⟨α,δ,L,A,S,_,_,e1,fun xs H1 α1 g1 A1 r1=>?_⟩;obtain ⟨x,y,rfl,rx,ry⟩:=r1.two;unfold RepU at rx ry;obtain ⟨a',ys,rfl,sq,r2⟩:=rx;obtain ⟨b',ys',rfl,sq',r2'⟩:=ry;exact ⟨a',b',ys,ys',rfl,sq,sq',q _ H1 α1 g1 A1 (Aca sq sq' r2 r2')⟩
 ·obtain ⟨l,hl,e3⟩:=aJ.mp ee;cases e3;refine .inr ⟨α,δ,L,A,S,_,_,e1,fun xs H1 α1 g1 A1 r1=>?_⟩;obtain ⟨x,y,rfl,rx,ry⟩:=r1.two;unfold RepU at ry;obtain ⟨b',ys',rfl,sq',r2'⟩:=ry;obtain ⟨a',ys,rfl,sq,r2⟩:=Hm A1 hl rx;obtain ⟨a2,ea,ha2⟩:=rx.ref_of A1;cases ha2;exact ⟨a',b',ys,ys',rfl,sq,sq',q _ H1 α1 g1 A1 (Ame ea sq' r2')⟩
 ·cases ee
end
end MR
namespace MR
open PySem PyProof.Rows L2
section
variable {X:Cx}{k n q:Nat}{π:List Nat}{f:Addr}{fd:dS}{p:Str}{ps ks:List Str}{x:Str}{pp pos apos kpos:Pos}{kws:List iS}{F:FN}{g:FA}
end
section
variable {X:Cx}{k n q:Nat}{π:List Nat}{f Ca:Addr}{fd:dS}{p:Str}{ps ks:List Str}{C:Str}{pp pos:Pos}{kws:List iS}{F:FN}{g:FA}
end
end MR
namespace MR
open PySem PySem.Spec PyProof.Rows PySem.Calls L2
section
variable {X:Cx}
end
def Af8:S2:=fun u w L=>match w with
 | .non=>ξ (.bl (!isSome u),L)
 | _=>ψ
theorem Aqp{K:aF}:Dr K (fun x y H Q=>y = .non/\Q (.bl (decide (x = .non))) H) Af8:=by
 intro H α L u w x y z L' Q A ru rw e q;cases w with
 | non=>
  cases e;unfold RepU at rw;refine ⟨rw,?_⟩;have:(decide (x=V.non)) = !isSome u:=by
   cases u with
   | non=>unfold RepU at ru;simp[ru,isSome]
   | bl b=>unfold RepU at ru;simp[ru,isSome]
   | int b=>unfold RepU at ru;simp[ru,isSome]
   | str b=>unfold RepU at ru;simp[ru,isSome]
   | tup b=>unfold RepU at ru;obtain ⟨_,_,rfl,_⟩:=ru;simp[isSome]
   | ref b=>unfold RepU at ru;obtain ⟨_,_,rfl⟩:=ru;simp[isSome]
  rw[this];exact q _ H α (.refl _ _) A (by unfold RepU;rfl)
 | _=>cases e
end MR
namespace UL
open PySem PySem.Spec PyProof.Rows
variable {items:Array aH}
section
variable {prog:cC}{w:cM}{A:eA}{E:aH->aN->Prop}{s:aN}
theorem Y5{it l:Addr}(hne:l≠it):∀ (n i:Nat) (s:aN) (Q:List aH->aN->Prop),s.heap.IsListIter it l i->s.heap.IsList l items->i+n<=items.size ->
  (∀ h',h'.IsListIter it l (i+n)->iV it s.heap h'->Q ((items.toList.drop i).take n) { s with heap:=h' })->wpAny Zu A (draw (.ref it) n) Q E s
 | 0,i,s,Q,hit,_,_,hQ=>by
  show wpAny _ _ (pure []) Q E s;exact bB (by simpa using hQ s.heap hit (iV.refl ..))
 | n+1,i,s,Q,hit,ht,hle,hQ=>by
  have hlt:i < items.size:=Ze
  show wpAny _ _ (pyNext (.ref it) >>= _) Q E s;refine aD (nZ hit ht (x:=items[i]) (by simp[hlt]) fun h₁ hit₁ hs₁=>?_);refine aD (dW (Y5 hne n (i+1) _ _ hit₁ (ht.extBut hs₁.extBut hne) Ze fun h₂ hit₂ hs₂=>bB ?_));have hd:items.toList.drop i=items[i]::items.toList.drop (i+1):=by simp[jB,hlt]
  have:=hQ h₂ (by rw[show i+(n+1)=i+1+n by omega];exact hit₂) (hs₁.trans hs₂);rw[hd,pU] at this;exact this
theorem Si{t:Addr}{Q:List aH->aN->Prop}(hh:A.handled=ψ)(ht:s.heap.IsList t items)
  (hQ:∀ h',lC s.heap.objs.size s.heap h'->Q items.toList { s with heap:=h' }):wpAny Zu A (unpackItems (.ref t) items.size ψ) Q E s:=by
 have hlt:t≠s.heap.objs.size:=by obtain ⟨o,ho,_⟩:=ht;exact cF (aY ho)
 have ty:s.TypeIs (.ref t) "list" := by obtain ⟨o,ho,hc,_⟩:=ht;exact ⟨o,ho,hc⟩
 unfold unpackItems;refine aD ?_
 ·unfold notIterableAtAll;refine aD (wpAny_specialOf ty F.slot_list_iter.lookup ?_);refine bB ?_;simp only[bN,if_false];refine aD (dW (jX ht ?_));refine aD (dW (Y5 hlt items.size 0 _ _ ⟨_,aX _ rfl,rfl,rfl⟩ (ht.push _) Ze fun h₁ hit₁ hs₁=>?_));have hall:List.take items.size (List.drop 0 items.toList)=items.toList:=by
   rw[mO];exact dQ Za
  rw[hall];rw[if_neg Za];have ht₁:h₁.IsList t items:=(ht.push _).extBut hs₁.extBut hlt;refine aD (dW (oW hh hit₁ ht₁ Za fun h₂ he₂=>?_));simp only[Option.isSome_none,bN,if_false];refine bB (hQ h₂ fun b o hb e=>he₂ b o hb (hs₁.extBut b o hb (aC _ e)))
theorem assign_Tuple_list{env:Env}{elts:List Expr}{x1}{pos:Pos}{t:Addr}{Q:Unit->aN->Prop}(hh:A.handled=ψ)(ht:s.heap.IsList t items)
  (hn:(assignEach elts env).length=items.size) (hstar:(assignEach elts env).findIdx? (·.1)=ψ)
  (h:∀ h',lC s.heap.objs.size s.heap h'->wpAny Zu A (assignInOrder ((assignEach elts env).map (·.2)) items.toList) Q E { s with heap:=h' }) :
  wpAny Zu A (assign (.Tuple elts x1 pos) env (.ref t)) Q E s:=by
 rw[assign_Tuple];refine aD (kR ?_);unfold unpack;rw[hn,hstar];exact aD (dW (Si hh ht h))
end
end UL
namespace MR
open PySem PySem.Spec PyProof.Rows PySem.Calls L2
variable {k n:Nat}
section
variable {X:Cx}{es:List Expr}{pos:Pos}
def A1c(K:aF)(n:Nat)(t:TGs):TG:=fun v σ H Q=>∃ a xs,v = .ref a/\SqL K H a xs/\xs.length=n/\t xs σ H Q
theorem Aq9{t:TGs}(hc:X.calm=true)(h:PGs X es t)
  (hn:(assignEach es X.env).length=n:=by rfl) (hst:(assignEach es X.env).findIdx? (·.1)=ψ:=by rfl):PG X Zef (A1c X.K n t):=by
 intro pins s σ H v u Q I r hw;obtain ⟨a,xs,e1,hq,hl,hw⟩:=hw;subst e1;cases r;obtain ⟨its,rv,ht,hz⟩:=I.list hq;refine UL.assign_Tuple_list ZaM ht.isList (by simp[hn,<- hl,rv.length]) hst fun h' hx=>?_
 have I1:L2.Inv X pins σ H { s with heap:=h' }:=I.kept (t':=s.toks) fun b o e=>hx b o (cF (aY e)) e
 exact h pins _ σ H xs _ Q I1 (by simpa using rv) hw
def U2(n:Nat)(g:FGs):FG:=fun u δ L=>match u with
 | .ref m=>(Aw L m).bind fun us=>if us.length=n then g us δ L else ψ
 | u=>MR.gTup n g u δ L
theorem Ade{g:FGs}(hc:X.calm=true)(h:Aod X es g)(hn:(assignEach es X.env).length=n:=by rfl)(hst:(assignEach es X.env).findIdx? (·.1)=ψ:=by rfl):PGF X Zef (U2 n g):=by
 intro pins s σ H v u Q I r hw;obtain ⟨α,δ,L,w,A,S,rw,δ',L',e,q⟩:=hw;cases w with
 | ref m=>
  unfold U2 at e;simp only at e;obtain ⟨us,hus,e⟩:=aA.mp e;split at e
  ·rename_i hl;obtain ⟨a,ys,rfl,sq,r2⟩:=Hm A hus rw;exact Aq9 hc h hn hst pins s σ H _ u Q I r ⟨a,ys,rfl,sq,by rw[<- r2.length];exact hl,α,δ,L,us,A,S,r2,δ',L',e,q⟩
  ·cases e
 | tup us=>exact Jv (k:=k) (pos:=pos) hc h hn hst pins s σ H v u Q I r ⟨α,δ,L,.tup us,A,S,rw,δ',L',e,q⟩
 | _=>simp[U2,MR.gTup] at e
end
structure FnG(K:aF)(mg:Str->Option aH)(x:Str)(st:Stmt)(ps:List Str) where
 f:Addr
 d:dS
 F:Fun K x x st f d
 b:Binds K d ps []
 g:mg x=ξ (.ref f)
structure FnM(K:aF)(C:Addr)(x q:Str)(st:Stmt)(ps:List Str) where
 f:Addr
 d:dS
 F:Fun K x q st f d
 b:Binds K d ps []
 me:Meth K C x f
abbrev Aua(x q:Str)(st:Stmt)(ps:List Str):Prop:=∀ (kV doc pm:aH) (an:Option Addr) (cdv ct:aH) (us:List aH),us.length=ps.length->bindArgs (fP x q (Hl st) (Fw st) (An st) .none kV doc pm an cdv ct) ⟨us,[]⟩=pure (ps.zip us)
theorem scm{N P:List Str}{sc:mW}(h1:sc.kind = .function:=by rfl)(h2:sc.isCoroutine=false:=by rfl)(h3:sc.isGenerator=false:=by rfl)(h4:N.Nodup:=by lk)(h5:N.take P.length=P:=by rfl)
  (h6:∀ x∈P,sc.names.lookup x=ξ .local\/sc.names.lookup x=ξ .cell:=by lk) (h7:∀ y∈sc.names,y.2≠.free:=by lk):FnScope N P sc:=⟨h1,h2,h3,h4,h5,h6,h7⟩
section
variable {K:aF}{h:Heap}{mg:Str->Option aH}{x q:Str}{st:Stmt}{ps:List Str}{f C:Addr}{od an:Option Addr}{sl:Array (Option aH)}{oc kV dc pm cd ct:aH}
def mkG(X:K.In h)(G:h.Ns bU mg)(a:dO K bU x=ξ ZcX)(l:K.lookup f=ξ ⟨oc,od,.func (fP x x (Hl st) (Fw st) (An st) .none kV dc pm an cd ct),sl⟩)(c:kA K cd x=true)(k:dZ K (.ref f)=true)(hb:Aua x x st ps):FnG K mg x st ps:=
 ⟨f,_,Abi l c k,(Abi l c k).binds hb,nJ X G a⟩
def mkM(a:cQ K (.ref C) x=ξ ZcX)(i:lZ K (.ref f)=true)(l:K.lookup f=ξ ⟨oc,od,.func (fP x q (Hl st) (Fw st) (An st) .none kV dc pm an cd ct),sl⟩)(c:kA K cd q=true)(k:dZ K (.ref f)=true)(hb:Aua x q st ps):FnM K C x q st ps:=
 ⟨f,_,Abi l c k,(Abi l c k).binds hb,⟨a,i,k⟩⟩
theorem A5a{i:Int}{t:Tok}(X:K.In h)(G:h.Ns bU mg)(a:dO K bU x=ξ (ξ (.int i t))):∃ t,mg x=ξ (.int i t):=⟨t,nJ X G a⟩
theorem A39{z:Str}{t:Tok}(X:K.In h)(G:h.Ns bU mg)(a:dO K bU x=ξ (ξ (.str z t))):∃ t,mg x=ξ (.str z t):=⟨t,nJ X G a⟩
theorem A1m(M:FnM K C "__init__" q st ps)(h:jK K C=true/\dZ K (.ref C)=true):Mk K C M.f:=⟨h.1,M.me.at_,M.me.fn,h.2⟩
theorem FnG.law(c:FnG K mg "law" st ["script"]){Q:Addr->dS->Prop}{fa:Addr}(hfa:mg "law" = ξ (.ref fa))(hl:∀ (kV doc pm:aH) (an:Option Addr) (cdv ct:aH) (s:aN) (v:aH),mB s (fP "law" "law" (Hl st) (Fw st) (An st) .none kV doc pm an cdv ct) ⟨[v],[]⟩ [("script",v)])(hQ:Q c.f c.d) :
  ∃ fd:dS,(∀ (s:aN) (v:aH),mB s fd ⟨[v],[]⟩ [("script",v)])/\Q fa fd:=by
 have e:=hfa.symm.trans c.g;cases e;obtain ⟨oc,od,kV,doc,pm,an,cdv,ct,osl,e,lk,hcd⟩:=c.F.ex;refine ⟨c.d,fun s v=>?_,hQ⟩;rw[e];exact hl kV doc pm an cdv ct s v
end
section
variable {X:Cx}{x m q C:Str}{Ca:Addr}{st:Stmt}{ps:List Str}{j:Nat}{F:FN}{e o:Expr}{es:List Expr}{g:FA}{fo:FE}{p pos apos:Pos}
theorem Bi(c:FnG X.K X.mg x st ps)(hF:FnOk X.prog X.w X.K X.mg X.base CX0 k c.f c.d ps ZcY)(hr:Room j X.A)(ha:PAF X (e::es) g)(hg:Gl X x:=by rfl)(hk:k<=j:=by decide)
  (hdb:(x == ("__debug__" : Str))=false:=by decide) (he:bH (e::es) X.env=Zy::bH es X.env:=by rfl) (hpl:(backTo pos Zat).any (·.1)=false:=by rfl) :
  PEF X Zad (A9 n F g):=Ly hF (hr.mono hk) hg c.g c.F.kp c.b ha hdb he hpl
theorem Mn{pl:Sem Bool}(T:ClsF X.K C Ca)(c:FnM X.K Ca m q st ps)(hF:FnOk X.prog X.w X.K X.mg X.base CX0 k c.f c.d ps ZcY)(hr:Room j X.A)(ho:PEF X o fo)(ha:PAF X (e::es) g)(hk:k<=j:=by decide)
  (hst:bH (e::es) X.env=Zy::bH es X.env:=by rfl) (hpl:(backTo pos Zat).any (·.1)=false:=by rfl)
  (ht:eval Z3 X.env=(do
   let ov <- eval o X.env
   standAt apos.atName
   let (f,first) <- holding [ov] ZbQ
   callWith pos f first (backTo pos ZcS) Zb1):=by rfl) :
  PEF X Z3 (B0 C m n F fo g):=Aqk (pl:=pl) T c.me hF (hr.mono hk) c.b ho ha hst hpl ht
theorem Abv{pl:Sem Bool}(T:ClsF X.K C Ca)(c:FnM X.K Ca m q st ps)(hF:FnOk X.prog X.w X.K X.mg X.base CX0 k c.f c.d ps ZcY)(hr:Room j X.A)(ho:PEF X o fo)(hk:k<=j:=by decide)
  (ht:eval Zae X.env=(do
   let ov <- eval o X.env
   standAt apos.atName
   let (f,first) <- holding [ov] ZbQ
   callWith pos f first ZdO Zb1):=by rfl) :
  PEF X Zae (B0 C m n F fo Ah):=Ak5 (pl:=pl) T c.me hF (hr.mono hk) c.b ho ht
end
end MR
namespace SO
open PySem PySem.W PyProof.Rows
noncomputable def On{α:Type}(n:Nat)(lt:Nat->Nat->Bool)(P:α->Prop):KasT α->Prop
 | .ret a=>P a
 | .ask i j k=>i < n/\j < n/\On n lt P (k (lt i j))
variable {n:Nat}{lt:Nat->Nat->Bool}
theorem On.bind{α β:Type}{P:α->Prop}{Q:β->Prop}{f:α->KasT β}(hf:∀ a,P a->On n lt Q (f a)):∀ {t:KasT α},On n lt P t->On n lt Q (t.bind f)
 | .ret a,h=>hf a h
 | .ask i j k,h=>⟨h.1,h.2.1,On.bind hf h.2.2⟩
theorem On.imp{α:Type}{P Q:α->Prop}(hf:∀ a,P a->Q a):∀ {t:KasT α},On n lt P t->On n lt Q t
 | .ret a,h=>hf a h
 | .ask i j k,h=>⟨h.1,h.2.1,On.imp hf h.2.2⟩
theorem On.wp{α:Type}{P:α->Prop}{cmp:Nat->Nat->(Bool->aN->Prop)->aN->Prop}{s:aN}{Q:α->aN->Prop}(hc:∀ i j C,i < n->j < n->C (lt i j) s->cmp i j C s)(hq:∀ a,P a->Q a s):∀ {t:KasT α},On n lt P t->t.kasWp cmp Q s
 | .ret a,h=>hq a h
 | .ask i j k,h=>hc i j _ h.1 h.2.1 (On.wp hc hq h.2.2)
structure Wo(lt:Nat->Nat->Bool):Prop where
 asym:∀ i j,lt i j=true->lt j i=false
 tr:∀ i j k,lt j i=false->lt k j=false->lt k i=false
variable {i j k m nrem:Nat}{p:Array Nat}
section
def Le(lt:Nat->Nat->Bool)(i j:Nat):Prop:=lt j i=false
def Eqv(lt:Nat->Nat->Bool)(i j:Nat):Prop:=Le lt i j/\Le lt j i
theorem Wo.refl(W:Wo lt)(i:Nat):Le lt i i:=by
 unfold Le;cases h:lt i i with
 | false=>rfl
 | true=>have:=W.asym i i h;rw[h] at this;cases this
theorem Wo.le(W:Wo lt)(h:lt i j=true):Le lt i j:=W.asym i j h
theorem Wo.trans(W:Wo lt)(h1:Le lt i j)(h2:Le lt j k):Le lt i k:=W.tr i j k h1 h2
noncomputable def at0(p:Array Nat)(i:Nat):Nat:=p.getD i 0
theorem Vx{q:Array Nat}(h:p[i]? = q[j]?):at0 p i=at0 q j:=by
 unfold at0;rw[dI,dI,h]
structure Pm(n:Nat)(p:Array Nat):Prop where
 size:p.size=n
 perm:p.toList.Perm (bM n)
theorem Pm.bd(h:Pm n p)(h0:0 < n)(i:Nat):at0 p i < n:=by
 unfold at0;rw[dI];cases hi:p[i]? with
 | none=>exact h0
 | some x=>
  have:x∈p.toList:=by
   rw[<- gZ] at hi;exact dN hi
  exact cL.mp (h.perm.mem_iff.mp this)
def Up(lt:Nat->Nat->Bool)(p:Array Nat)(k:Nat):Prop:=∀ i j,i<=j->j < k->Le lt (at0 p i) (at0 p j)
def Dn(lt:Nat->Nat->Bool)(p:Array Nat)(k:Nat):Prop:=∀ i j,i<=j->j < k->Le lt (at0 p j) (at0 p i)
theorem Up.one(W:Wo lt)(p:Array Nat):Up lt p 1:=fun i j h1 h2=>by
 have:i=j:=Ze
 subst this;exact W.refl _
theorem Up.snoc(W:Wo lt)(h:Up lt p m)(hm:1<=m)(hl:Le lt Zx (at0 p m)):Up lt p (m+1):=fun i j h1 h2=>by
 by_cases hj:j < m
 ·exact h i j h1 hj
 ·have hj:j=m:=Ze
  subst hj;by_cases hi:i=j
  ·subst hi;exact W.refl _
  ·exact W.trans (h i (j - 1) Ze Ze) hl
theorem Dn.snoc(W:Wo lt)(h:Dn lt p m)(hm:1<=m)(hl:Le lt (at0 p m) Zx):Dn lt p (m+1):=fun i j h1 h2=>by
 by_cases hj:j < m
 ·exact h i j h1 hj
 ·have hj:j=m:=Ze
  subst hj;by_cases hi:i=j
  ·subst hi;exact W.refl _
  ·exact W.trans hl (h i (j - 1) Ze Ze)
theorem Ef(hj:j<=p.size)(k:Nat):at0 (iN p i j) k=if i<=k/\k < j then at0 p (i+j - 1 - k) else at0 p k:=by
 have h:=getElem?_mirror_all (xs:=p) (i:=i) hj k;unfold iN;split
 ·rename_i hc;rw[if_pos hc] at h;exact Vx h
 ·rename_i hc;rw[if_neg hc] at h;exact Vx h
theorem Pm.rev(h:Pm n p)(i j:Nat):Pm n (iN p i j):=⟨by unfold iN;rw[mirror_size];exact h.size,(mirror_perm p i j _).toList.trans h.perm⟩
theorem Pm.bub(h:Pm n p)(i j:Nat):Pm n (bubble p i j):=⟨by rw[bubble_size];exact h.size,(bubble_perm p i j).toList.trans h.perm⟩
theorem Rt{l:Nat}(hk:k < p.size)(hl:l<=k)(i:Nat):at0 (bubble p k (k - l)) i=if i=l then at0 p k else if l < i/\i<=k then at0 p (i - 1) else at0 p i:=by
 have h:=getElem?_bubble (xs:=p) hk (k - l) Ze i;have e:k - (k - l)=l:=Ze
 rw[e] at h;split
 ·rename_i hc;rw[if_pos hc] at h;exact Vx h
 ·rename_i hc;rw[if_neg hc] at h;split
  ·rename_i hd;rw[if_pos hd] at h;exact Vx h
  ·rename_i hd;rw[if_neg hd] at h;exact Vx h
theorem Afl(W:Wo lt)(h0:0 < n)(hp:Pm n p):∀ (f m:Nat),1<=m->m+f=nrem->Up lt p m->On n lt (fun m'=>m<=m'/\m'<=nrem/\Up lt p m'/\(m'=nrem\/lt (at0 p m') (at0 p (m' - 1))=true)) (kas_asc p f m)
 | 0,m,h1,hf,hu=>⟨aP _,Ze,hu,.inl Ze⟩
 | f+1,m,h1,hf,hu=>by
  refine ⟨hp.bd h0 _,hp.bd h0 _,?_⟩;show On n lt _ (if lt (at0 p m) Zx=true then KasT.ret m else kas_asc p f (m+1));cases hl:lt (at0 p m) Zx with
  | true=>exact ⟨aP _,Ze,hu,.inr hl⟩
  | false=>
   exact (Afl W h0 hp f (m+1) Ze Ze (hu.snoc W h1 hl)).imp fun m' ⟨a,b,c⟩=>⟨Ze,b,c⟩
def Tl(lt:Nat->Nat->Bool)(p:Array Nat)(m q:Nat):Prop:=∀ i,m - (q+1)<=i->i < m->Eqv lt (at0 p i) Zx
theorem Tl.rev(W:Wo lt){q:Nat}(h:Tl lt p m q)(hq:q < m)(hm:m<=p.size)(k:Nat):Eqv lt (at0 Zco k) (at0 p k):=by
 rw[Ef hm];split
 ·rename_i hc;have a:=h (m - (q+1)+m - 1 - k) Ze Ze;have b:=h k hc.1 hc.2;exact ⟨W.trans a.1 b.2,W.trans b.1 a.2⟩
 ·exact ⟨W.refl _,W.refl _⟩
theorem Dn.eqv(W:Wo lt){p':Array Nat}(h:Dn lt p m)(he:∀ k,Eqv lt (at0 p' k) (at0 p k)):Dn lt p' m:=fun i j h1 h2=>W.trans (he j).1 (W.trans (h i j h1 h2) (he i).2)
theorem Ut(W:Wo lt)(h0:0 < n)(hz:nrem<=n):∀ (f:Nat) (p:Array Nat) (m q:Nat),Pm n p->1<=m->m+f=nrem->Dn lt p m->q < m->Tl lt p m q ->
  On n lt (fun r=>Pm n r.1/\1<=r.2.1/\r.2.1<=nrem/\Dn lt r.1 r.2.1/\r.2.2 < r.2.1/\Tl lt r.1 r.2.1 r.2.2) (kas_desc f p m q)
 | 0,p,m,q,hp,h1,hf,hd,hq,ht=>⟨hp,h1,(by show m<=nrem;omega),hd,hq,ht⟩
 | f+1,p,m,q,hp,h1,hf,hd,hq,ht=>by
  refine ⟨hp.bd h0 _,hp.bd h0 _,?_⟩;show On n lt _ (if lt (at0 p m) Zx=true then _ else _);have tl0:∀ p':Array Nat,Tl lt p' (m+1) 0:=fun p' i i1 i2=>by
   have:i=m:=Ze
   subst this;rw[gW];exact ⟨W.refl _,W.refl _⟩
  cases hl:lt (at0 p m) Zx with
  | true=>
   have hms:m<=p.size:=by rw[hp.size];omega
   rw[if_pos rfl];by_cases hq0:q > 0
   ·rw[if_pos hq0];have he:=ht.rev W hq hms;have hm':at0 Zco m=at0 p m:=by rw[Ef hms,if_neg Ze]
    have hd':=(hd.eqv W he).snoc W h1 (by rw[hm'];exact W.trans (W.le hl) (he (m - 1)).2)
    exact Ut W h0 hz f _ (m+1) 0 (hp.rev _ _) Ze Ze hd' Ze (tl0 _)
   ·rw[if_neg hq0];exact Ut W h0 hz f p (m+1) 0 hp Ze Ze (hd.snoc W h1 (W.le hl)) Ze (tl0 _)
  | false=>
   rw[if_neg Za];refine ⟨hp.bd h0 _,hp.bd h0 _,?_⟩;show On n lt _ (if lt Zx (at0 p m)=true then _ else _);cases hl2:lt Zx (at0 p m) with
   | true=>rw[if_pos rfl];exact ⟨hp,h1,(by show m<=nrem;omega),hd,hq,ht⟩
   | false=>
    rw[if_neg Za];refine Ut W h0 hz f p (m+1) (q+1) hp Ze Ze (hd.snoc W h1 hl2) Ze fun i i1 i2=>?_
    rw[gW];by_cases hi:i=m
    ·subst hi;exact ⟨W.refl _,W.refl _⟩
    ·have a:=ht i Ze Ze;exact ⟨W.trans a.1 hl,W.trans hl2 a.2⟩
theorem Ah7(W:Wo lt)(h0:0 < n)(hz:nrem<=n)(hp:Pm n p)(h1:1<=m)(hm:m<=nrem)(hd:Dn lt p m):On n lt Zbk (sD m nrem p):=by
 have hms:m<=p.size:=by rw[hp.size];omega
 have hu:Up lt (iN p 0 m) m:=fun i j i1 i2=>by
  rw[Ef hms,Ef hms,if_pos Ze,if_pos Ze];exact hd _ _ Ze Ze
 unfold sD;exact On.bind (fun a ⟨a1,a2,a3,_⟩=>⟨hp.rev _ _,Ze,a2,a3⟩) (Afl (nrem:=nrem) W h0 (hp.rev 0 m) (nrem - m) m h1 Ze hu)
theorem Tv(W:Wo lt)(h0:0 < n)(hz:nrem<=n)(hp:Pm n p)(hm:m+1<=nrem)(hd:Dn lt p (m+1)):On n lt Zbk (oG m nrem p):=by
 unfold oG;have tl0:Tl lt p (m+1) 0:=fun i i1 i2=>by
  have:i=m:=Ze
  subst this;rw[gW];exact ⟨W.refl _,W.refl _⟩
 refine On.bind (fun r ⟨a1,a2,a3,a4,a5,a6⟩=>?_) (Ut W h0 hz (nrem - (m+1)) p (m+1) 0 hp Ze Ze hd Ze tl0);have hms:r.2.1<=r.1.size:=by rw[a1.size];omega
 split
 ·exact Ah7 W h0 hz (a1.rev _ _) a2 a3 (a4.eqv W (a6.rev W a5 hms))
 ·exact Ah7 W h0 hz a1 a2 a3 a4
theorem Aoy(W:Wo lt)(h0:0 < n)(hz:nrem<=n)(h1:1<=nrem)(hp:Pm n p):On n lt Zbk (sE nrem p):=by
 unfold sE;refine On.bind (fun m ⟨a1,a2,a3,a4⟩=>?_) (Afl (nrem:=nrem) W h0 hp (nrem - 1) 1 (aP _) Ze (Up.one W p));by_cases hm:(m == nrem)=true
 ·rw[if_pos hm];exact ⟨hp,Ze,a2,a3⟩
 ·rw[if_neg hm];have hne:m≠nrem:=by simpa using hm
  have hlt:lt (at0 p m) Zx=true:=a4.resolve_left hne;by_cases hm1:m > 1
  ·rw[if_pos hm1];refine ⟨hp.bd h0 _,hp.bd h0 _,?_⟩;show On n lt _ (if lt (at0 p 0) Zx=true then _ else _);cases hl:lt (at0 p 0) Zx with
   | true=>rw[if_pos rfl];exact ⟨hp,Ze,a2,a3⟩
   | false=>
    rw[if_neg Za];have hms:m<=p.size:=by rw[hp.size];omega
    have hall:∀ i j,i < m->j < m->Le lt (at0 p i) (at0 p j):=fun i j i1 j1=>W.trans (a3 i (m - 1) Ze Ze) (W.trans hl (a3 0 j Ze j1))
    refine Tv W h0 hz (hp.rev 0 m) Ze ?_;have hd:Dn lt (iN p 0 m) m:=fun i j i1 i2=>by
     rw[Ef hms,Ef hms,if_pos Ze,if_pos Ze];exact hall _ _ Ze Ze
    refine hd.snoc W Ze ?_;rw[Ef hms,Ef hms,if_neg Ze,if_pos Ze];exact W.trans (W.le hlt) (hall _ _ Ze Ze)
  ·rw[if_neg hm1];have:m=1:=Ze
   subst this;refine Tv W h0 hz hp Ze ?_;have hd:Dn lt p 1:=fun i j h1 h2=>by
    have:i=j:=Ze
    subst this;exact W.refl _
   exact hd.snoc W (aP _) (W.le hlt)
theorem Wd(W:Wo lt)(h0:0 < n)(hp:Pm n p)(hu:Up lt p k):∀ (f l r:Nat),l<=r->r<=k->r - l<=f->(∀ i,i < l->Le lt (at0 p i) (at0 p k))->(∀ i,r<=i->i < k->Le lt (at0 p k) (at0 p i)) ->
  On n lt (fun l'=>l'<=k/\(∀ i,i < l'->Le lt (at0 p i) (at0 p k))/\∀ i,l'<=i->i < k->Le lt (at0 p k) (at0 p i)) (sF p k f l r)
 | 0,l,r,h1,h2,h3,h4,h5=>⟨Ze,h4,fun i i1 i2=>h5 i Ze i2⟩
 | f+1,l,r,h1,h2,h3,h4,h5=>by
  unfold sF;by_cases hlr:l ≥ r
  ·rw[if_pos hlr];exact ⟨Ze,h4,fun i i1 i2=>h5 i Ze i2⟩
  ·rw[if_neg hlr];refine ⟨hp.bd h0 _,hp.bd h0 _,?_⟩;show On n lt _ (if lt (at0 p k) ZdK=true then _ else _);cases hl:lt (at0 p k) ZdK with
   | true=>
    rw[if_pos rfl];exact Wd W h0 hp hu f l ((l+r) / 2) Ze Ze Ze h4 fun i i1 i2=>W.trans (W.le hl) (hu _ _ i1 i2)
   | false=>
    rw[if_neg Za];exact Wd W h0 hp hu f ((l+r) / 2+1) r Ze h2 Ze (fun i i1=>W.trans (hu i ((l+r) / 2) Ze Ze) hl) h5
theorem Aok(W:Wo lt)(h0:0 < n):∀ (f:Nat) (p:Array Nat) (k:Nat),Pm n p->Up lt p k->k+f=n->On n lt (fun p'=>Pm n p'/\Up lt p' n) (kas_bin f p k)
 | 0,p,k,hp,hu,hk=>⟨hp,(show k=n by omega) ▸ hu⟩
 | f+1,p,k,hp,hu,hk=>by
  unfold kas_bin;refine On.bind (fun l ⟨a1,a2,a3⟩=>?_) (Wd W h0 hp hu k 0 k Ze (aP _) Ze (fun i h=>by omega) fun i h1 h2=>by omega);have hks:k < p.size:=by rw[hp.size];omega
  refine Aok W h0 f _ (k+1) (hp.bub _ _) (fun i j i1 i2=>?_) Ze;rw[Rt hks a1,Rt hks a1];by_cases hi:i=l
  ·rw[if_pos hi];by_cases hj:j=l
   ·rw[if_pos hj];exact W.refl _
   ·rw[if_neg hj,if_pos Ze];exact a3 _ Ze Ze
  ·rw[if_neg hi];by_cases hi2:l < i/\i<=k
   ·rw[if_pos hi2,if_neg Ze,if_pos Ze];exact hu _ _ Ze Ze
   ·rw[if_neg hi2];by_cases hj:j=l
    ·rw[if_pos hj];exact a2 _ Ze
    ·rw[if_neg hj];by_cases hj2:l < j/\j<=k
     ·rw[if_pos hj2];exact hu _ _ Ze Ze
     ·rw[if_neg hj2];exact hu _ _ i1 Ze
theorem Aak(W:Wo lt)(h0:0 < n):On n lt (fun p=>Pm n p/\Up lt p n) (kD n):=by
 unfold kD;have hp:Pm n (fR (bM n)):=⟨Za,Za⟩;refine On.bind (fun r ⟨a1,a2,a3,a4⟩=>?_) (Aoy W h0 (aP n) h0 hp);by_cases hr:r.1 < n
 ·rw[if_pos hr];have hm:max r.1 1=r.1:=Ze
  rw[hm];exact Aok W h0 _ _ _ a1 a4 Ze
 ·rw[if_neg hr];have:r.1=n:=Ze
  exact ⟨a1,by rw[<- this];exact a4⟩
end
end SO
namespace SO
open PySem PySem.W PySem.Calls PyProof.Rows
section
variable {P:cC}{w:cM}{A:eA}{E:aH->aN->Prop}{s:aN}{vs:List aH}{lt:Nat->Nat->Bool}{κ:SortKind}
def Kb(a:Addr)(h h':Heap):Prop:=∀ b o,b≠a->h.get? b=ξ o->h'.get? b=ξ o
theorem Kb.trans{a:Addr}{h h1 h2:Heap}(x:Kb a h h1)(y:Kb a h1 h2):Kb a h h2:=fun b o hb e=>y b o hb (x b o hb e)
theorem R5(h:Heap)(a:Addr)(f:Obj->Obj):Kb a h (h.update a f):=fun b o hb e=>((eE h a f).2 b hb).trans e
theorem Uv(a:Addr)(h:Heap)(o:Obj):Kb a h (h.push o):=fun _ _ _ e=>aC _ e
noncomputable def H0(vs:List aH)(p:Array Nat):List aH:=p.toList.map fun i=>vs.getD i eD
theorem V2(vs:List aH):H0 vs (fR (bM vs.length))=vs:=by
 unfold H0;apply iX
 ·simp
 ·intro i h1 h2;simp[h2]
theorem Aow{a:Addr}{c0:Nat}{F:PySem.Fin->aN->Prop}(W:Wo lt)(ho:s.heap.get? a=ξ (seqObj "list" vs.toArray c0))(h64:vs.length < 64)
  (hkind:2<=vs.length->∀ (h':Heap) (Q:SortKind->aN->Prop),Kb a s.heap h'->Q κ { s with heap:=h' }->wpAny (model P w) A (keyKind' vs.toArray) Q E { s with heap:=h' })
  (hask:∀ (h':Heap) (i j:Nat) (C:Bool->aN->Prop),Kb a s.heap h'->i < vs.length->j < vs.length->C (lt i j) { s with heap:=h' }->jF P w A κ vs i j C { s with heap:=h' })
  (hq:∀ (p:Array Nat) (h':Heap) (c:Nat),Pm vs.length p->Up lt p vs.length->Kb a s.heap h'->h'.get? a=ξ (seqObj "list" (H0 vs p).toArray c)->F (.done (.ret .none)) { s with heap:=h' }) :
  wpAny (model P w) A (kW.«list.sort» ⟨[.ref a],[]⟩) F E s:=by
 obtain ⟨c1,h1⟩:∃ c1,(s.heap.update a Zq).get? a=ξ (seqObj "list" #[] c1):=⟨_,hW ho fun _=>#[]⟩;have k1:Kb a s.heap (((s.heap.update a Zq).push (seqObj "tuple" vs.toArray 0)).push (seqObj "list" #[] 0)):=((R5 _ _ _).trans (Uv _ _ _)).trans (Uv _ _ _);have h3:(((s.heap.update a Zq).push (seqObj "tuple" vs.toArray 0)).push (seqObj "list" #[] 0)).get? a=ξ (seqObj "list" #[] c1):=aC _ (aC _ h1);rw[list_sort_plain];refine aD (rF ho rfl (aD (jJ ho rfl (aD (pK h1 rfl (aD (pF (aD (kX (dW ?_) (eG _))) ?z2)))) ?z1 (eG _))))
 case z1=>rw[aT,dM];omega
 case z2=>show vs.length<=_;rw[dM];omega
 show wpAny (model P w) A _ F E ({ s with heap:=((s.heap.update a Zq).push (seqObj "tuple" vs.toArray 0)).push (seqObj "list" #[] 0) }:aN);generalize ((s.heap.update a Zq).push (seqObj "tuple" vs.toArray 0)).push (seqObj "list" #[] 0)=hp at k1 h3;dsimp only;have fin:∀ (p:Array Nat) (st:fY),Pm vs.length p->Up lt p vs.length->(arrOf st).map (·.2)=(H0 vs p).toArray->failedOf st=ψ->wpAny (model P w) A (do
   let touched:=(<- seqEpoch a) != c1
   kW.List.listUpdate (.ref a) fun _=>(arrOf st).map (·.2)
   if let ξ e:=failedOf st then rule "list.sort.comparison-raised";throw e
   if touched then rule "list.sort.modified";raiseError "ValueError" "list modified during sort"
   ret .none) F E { s with heap:=hp }:=by
  intro p st hpm hup hout hfail;have hlen:(H0 vs p).length=vs.length:=by unfold H0;rw[aL,cN,hpm.size]
  obtain ⟨c2,h4⟩:∃ c2,(hp.update a (bR fun _=>(H0 vs p).toArray)).get? a=ξ (seqObj "list" (H0 vs p).toArray c2):=⟨_,hW h3 fun _=>(H0 vs p).toArray⟩;rw[hout,hfail];refine aD (pK h3 rfl (aD (jJ h3 rfl ?_ (eG _) ?z3)))
  case z3=>rw[aT,hlen,dM];omega
  simp only[bne_self_eq_false,bN,if_false];exact bB (hq p _ c2 hpm hup (k1.trans (R5 _ _ _)) h4)
 by_cases hsmall:vs.toArray.size < 2
 ·rw[if_pos hsmall,if_pos hsmall];have hs2:vs.length < 2:=by simpa using hsmall
  refine aD (bB ?_);rw[sW];refine aD (bB (fin (fR (bM vs.length)) (tY general' (vs.toArray.zip vs.toArray) #[] 7 ψ) ⟨Za,Za⟩ ?_ ?_ rfl))
  ·intro i j hij hj;have:i=j:=Ze
   subst this;exact W.refl _
  ·rw[V2];show (vs.toArray.zip vs.toArray).map (·.2)=vs.toArray;apply Array.ext
   ·simp
   ·intro i i1 i2;simp
 ·rw[if_neg hsmall,if_neg hsmall];have hs2:2<=vs.length:=by simp at hsmall;omega
  refine aD (hkind hs2 hp _ k1 ?_);have on:=(Aak (n:=vs.length) W Ze).wp (cmp:=jF P w A κ vs) (s:={ s with heap:=hp }) (Q:=fun p s'=>(Pm vs.length p/\Up lt p vs.length)/\s' = { s with heap:=hp }) (fun i j C hi hj hC=>hask hp i j C k1 hi hj hC) fun p h=>⟨h,rfl⟩
  refine aD (eR (kat_run (Q:=fun st s'=>∃ p:Array Nat,arrOf st=p.map (kas_item (vs.toArray.zip vs.toArray))/\failedOf st=ψ/\(Pm vs.length p/\Up lt p vs.length)/\s' = { s with heap:=hp }) rfl hs2 h64 (fun p st s' _ q1 q2 q3=>⟨p,q1,q2,q3⟩) on) ?_ fun _ _ e=>e);rintro ⟨⟨⟩,st⟩ s' ⟨p,q1,q2,⟨q3,q4⟩,rfl⟩;exact fin p st q3 q4 (kat_snds rfl q1) q2
theorem Akj{l:Addr}{Q:aH->aN->Prop}(W:Wo lt)(hl:s.heap.IsList l vs.toArray)(h64:vs.length < 64)
  (hkind:2<=vs.length->∀ (h':Heap) (Q:SortKind->aN->Prop) (E:aH->aN->Prop),Zal->Q κ { s with heap:=h' }->wpAny (model P w) A.in1.in1 (keyKind' vs.toArray) Q E { s with heap:=h' })
  (hask:∀ (h':Heap) (i j:Nat) (C:Bool->aN->Prop),Zal->i < vs.length->j < vs.length->C (lt i j) { s with heap:=h' }->jF P w A.in1.in1 κ vs i j C { s with heap:=h' })
  (hq:∀ (p:Array Nat) (h':Heap) (c:Nat),Pm vs.length p->Up lt p vs.length->(∀ b o,s.heap.get? b=ξ o->h'.get? b=ξ o)->h'.get? Zl=ξ (seqObj "list" (H0 vs p).toArray c)->Q (.ref Zl) { s with heap:=h' }) :
  wpAny (model P w) A (call (.builtin "sorted") [.ref l]) Q E s:=by
 have e1:((s.heap.push (seqObj "list" #[] 0)).update s.heap.objs.size (bR (· ++ vs.toArray))).objs.size=s.heap.objs.size+1:=by rw[nV,size_push']
 have e2:(((s.heap.push (seqObj "list" #[] 0)).update s.heap.objs.size (bR (· ++ vs.toArray))).push (seqObj "list" vs.toArray 0)).get? Zl=ξ (seqObj "list" vs.toArray 0):=by rw[<- e1];exact aX _ rfl
 have e3:∀ b o,s.heap.get? b=ξ o->(((s.heap.push (seqObj "list" #[] 0)).update s.heap.objs.size (bR (· ++ vs.toArray))).push (seqObj "list" vs.toArray 0)).get? b=ξ o:=fun b o q=>
  aC _ (R5 _ _ _ b o (cF (aY q)) (aC _ q))
 have e4:∀ (h':Heap),Kb Zl (((s.heap.push (seqObj "list" #[] 0)).update s.heap.objs.size (bR (· ++ vs.toArray))).push (seqObj "list" vs.toArray 0)) h'->∀ b o,s.heap.get? b=ξ o->h'.get? b=ξ o:=fun h' k b o q=>
  k b o (cF (rG (aY q))) (e3 b o q)
 refine pV sN rH rJ (args_sorted1 _) ?_;unfold kW.«sorted»;refine aD (m:=checkCount "sorted" 1 1 _) (bB (aD (collect_list hl (aD (kX ?_ ?y2)) ?y1)))
 case y1=>rw[dM];omega
 case y2=>rw[dM];omega
 show wpAny _ _ _ _ _ ({ s with heap:=((s.heap.push (seqObj "list" #[] 0)).update s.heap.objs.size (bR (· ++ vs.toArray))).push (seqObj "list" vs.toArray 0) }:aN);rw[e1];generalize ((s.heap.push (seqObj "list" #[] 0)).update s.heap.objs.size (bR (· ++ vs.toArray))).push (seqObj "list" vs.toArray 0)=hp at e2 e3 e4;refine aD (dW (fM pL ⟨_,e2,rfl⟩ oU (Aow (s:={ s with heap:=hp }) W e2 h64 (fun h2 h' Q' k q=>hkind h2 h' Q' _ (e4 h' k) q) (fun h' i j C k=>hask h' i j C (e4 h' k)) fun p h' c a1 a2 a3 a4=>⟨_,rfl,?_⟩) (args_list_sort _)));exact bB ⟨_,rfl,hq p h' c a1 a2 (e4 h' a3) a4⟩
end
end SO
namespace MR
open PySem PySem.Spec PyProof.Rows PySem.Calls L2 SO
noncomputable def ltT:List Int->List Int->Bool
 | _,[]=>false
 | [],_::_=>true
 | a::x,b::y=>if a == b then ltT x y else decide (a < b)
theorem Ro:∀ x y:List Int,ltT x y=true->ltT y x=false
 | x,[],h=>by unfold ltT at h;cases h
 | [],b::y,_=>by simp[ltT]
 | a::x,b::y,h=>by
  unfold ltT at h ⊢;by_cases e:a=b
  ·subst e;simp only[beq_self_eq_true,if_true] at h ⊢;exact Ro x y h
  ·have h1:(a == b)=false:=by simpa using e
   have h2:(b == a)=false:=by simpa using fun q=>e q.symm
   simp only[h1,h2,bN,if_false,decide_eq_true_eq] at h ⊢;simp only[decide_eq_false_iff_not];omega
theorem Aaa:∀ x y z:List Int,ltT y x=false->ltT z y=false->ltT z x=false
 | [],_,z,_,_=>by unfold ltT;rfl
 | a::x,[],z,h,_=>by simp[ltT] at h
 | a::x,b::y,[],_,h=>by simp[ltT] at h
 | a::x,b::y,c::z,h1,h2=>by
  unfold ltT at h1 h2 ⊢;by_cases e1:b=a
  ·subst e1;simp only[beq_self_eq_true,if_true] at h1;by_cases e2:c=b
   ·subst e2;simp only[beq_self_eq_true,if_true] at h2 ⊢;exact Aaa x y z h1 h2
   ·have q:(c == b)=false:=by simpa using e2
    simp only[q,bN,if_false] at h2 ⊢;exact h2
  ·have q1:(b == a)=false:=by simpa using e1
   simp only[q1,bN,if_false,decide_eq_false_iff_not] at h1;by_cases e2:c=b
   ·subst e2;simp only[q1,bN,if_false,decide_eq_false_iff_not];exact h1
   ·have q2:(c == b)=false:=by simpa using e2
    simp only[q2,bN,if_false,decide_eq_false_iff_not] at h2;have e3:c≠a:=Ze
    have q3:(c == a)=false:=by simpa using e3
    simp only[q3,bN,if_false,decide_eq_false_iff_not];omega
theorem Ab4:∀ x y:List Int,ltT x y=false->ltT y x=false->x=y
 | [],[],_,_=>rfl
 | a::x,[],_,h=>by simp[ltT] at h
 | [],b::y,h,_=>by simp[ltT] at h
 | a::x,b::y,h1,h2=>by
  unfold ltT at h1 h2;by_cases e:a=b
  ·subst e;simp only[beq_self_eq_true,if_true] at h1 h2;rw[Ab4 x y h1 h2]
  ·have q1:(a == b)=false:=by simpa using e
   have q2:(b == a)=false:=by simpa using fun q=>e q.symm
   simp only[q1,q2,bN,if_false,decide_eq_false_iff_not] at h1 h2;omega
def leT(x y:List Int):Prop:=ltT y x=false
theorem K6:∀ {a b:List (List Int)},a.Perm b->a.Pairwise leT->b.Pairwise leT->a=b
 | [],b,p,_,_=>p.nil_eq
 | x::r,[],p,_,_=>absurd p.length_eq Za
 | x::r,y::t,p,ha,hb=>by
  have hx:x∈y::t:=p.mem_iff.mp (aU ..);have hy:y∈x::r:=p.mem_iff.mpr (aU ..);have e:x=y:=by
   rcases bG.mp hx with h | h
   ·exact h
   ·rcases bG.mp hy with h' | h'
    ·exact h'.symm
    ·exact Ab4 x y ((fN.mp hb).1 x h) ((fN.mp ha).1 y h')
  subst e;rw[K6 p.cons_inv (fN.mp ha).2 (fN.mp hb).2]
def Ajc(x:List Int):List (List Int)->List (List Int)
 | []=>[x]
 | y::r=>if ltT y x=true then y::Ajc x r else x::y::r
theorem Sy(x:List Int):∀ l,(Ajc x l).Perm (x::l)
 | []=>.refl _
 | y::r=>by
  unfold Ajc;split
  ·exact ((Sy x r).cons y).trans (.swap ..)
  ·exact .refl _
theorem Tf(x:List Int):∀ l,l.Pairwise leT->(Ajc x l).Pairwise leT
 | [],_=>List.pairwise_singleton ..
 | y::r,h=>by
  obtain ⟨h1,h2⟩:=fN.mp h;unfold Ajc;split
  ·rename_i hl;refine fN.mpr ⟨fun z hz=>?_,Tf x r h2⟩;rcases bG.mp ((Sy x r).mem_iff.mp hz) with e | e
   ·subst e;exact Ro _ _ hl
   ·exact h1 z e
  ·rename_i hl;have hl:leT x y:=by unfold leT;simpa using hl
   refine fN.mpr ⟨fun z hz=>?_,h⟩;rcases bG.mp hz with e | e
   ·subst e;exact hl
   ·exact Aaa x y z hl (h1 z e)
def Nd:List (List Int)->List (List Int)
 | []=>[]
 | x::r=>Ajc x (Nd r)
theorem Hb:∀ l,(Nd l).Perm l
 | []=>.refl _
 | x::r=>(Sy x _).trans ((Hb r).cons x)
theorem Ik:∀ l,(Nd l).Pairwise leT
 | []=>.nil
 | x::r=>Tf x _ (Ik r)
inductive Tups(K:aF)(H:Hp):List (List Int)->List V->Prop
 | nil:Tups K H [] []
 | cons {a:Addr} {n:Int} {t:List Int} {ts:List (List Int)} {ys:List V} (h:SqT K H a ((n::t).map V.int)) (r:Tups K H ts ys):Tups K H ((n::t)::ts) (.ref a::ys)
variable {K:aF}{H:Hp}
theorem Tups.len{ts:List (List Int)}{ys:List V}(r:Tups K H ts ys):ts.length=ys.length:=by
 induction r with
 | nil=>rfl
 | cons h r ih=>simp[ih]
theorem Tups.at_{ts:List (List Int)}{ys:List V}(r:Tups K H ts ys):∀ i,i < ts.length->∃ (a:Addr) (n:Int) (t:List Int),ts[i]? = ξ (n::t)/\ys[i]? = ξ (.ref a)/\SqT K H a ZdS:=by
 induction r with
 | nil=>intro i h;simp at h
 | @cons a n t ts ys h r ih=>
  intro i hi;cases i with
  | zero=>exact ⟨a,n,t,rfl,rfl,h⟩
  | succ i=>simpa using ih i (by simpa using hi)
theorem Aed{P:cC}{w:cM}{A:eA}{b fin:Bool}{s:aN}{Q:Bool->aN->Prop}:∀ (ns ms:List Int) (xs ys:List aH) (i:Nat),Vals ZA xs->Vals (ms.map V.int) ys->fin=decide (ns.length < ms.length)->Q (ltT ns ms) s->PySem.W.KatLex P w A b fin Q (xs.zip ys) i s
 | [],ms,xs,ys,i,rx,ry,hf,q=>by
  rw[bI] at rx;cases rx;rw[List.zip_nil_left];refine sX ?_;rw[hf];cases ms with
  | nil=>exact q
  | cons m ms=>simpa[ltT] using q
 | n::ns,[],xs,ys,i,rx,ry,hf,q=>by
  rw[bI] at ry;cases ry;rw[List.zip_nil_right];refine sX ?_;rw[hf];simpa[ltT] using q
 | n::ns,m::ms,xs,ys,i,rx,ry,hf,q=>by
  rw[aI] at rx ry;cases rx with
  | cons r1 r2=>
   cases ry with
   | cons s1 s2=>
    obtain ⟨t,rfl⟩:=r1;obtain ⟨u,rfl⟩:=s1;rw[mP];refine PySem.W.kat_cons (PySem.wpAny_eqBool_int ?_);unfold ltT at q;cases e:(n == m) with
    | true=>
     rw[e,if_pos rfl] at q;exact PySem.W.kat_yes (Aed ns ms _ _ (i+1) r2 s2 (by rw[hf];simp) q)
    | false=>
     rw[e,if_neg Za] at q;refine PySem.W.kat_no ?_;cases (b&&i == 0) with
     | true=>exact oneLt_int q
     | false=>exact PySem.W.kat_one _ _ (lt_int q)
section
variable {X:Cx}
theorem Wr(hc:X.calm=true):CallR X (.builtin "sorted") (fun xs H Q=>∃ (l:Addr) (ys:List V) (ts:List (List Int)),xs=[.ref l]/\SqL X.K H l ys/\Tups X.K H ts ys/\ys.length < 64 /\
  ∀ (p:Addr) (ks:List Nat),H p=ψ->(ks.map fun i=>ts.getD i [])=Nd ts->(∀ k∈ks,k < ys.length)->Q (.ref p) (upd H p (.lst Za3))):=by
 intro pins s σ H xs us Q I r h;obtain ⟨l,ys,ts,rfl,hq,tp,h64,q⟩:=h;obtain ⟨u,rfl,rx⟩:=Jw r;cases rx;obtain ⟨its,rv,pl,hz⟩:=I.list hq;have hlen:=rv.length;have htl:=tp.len;have hat:∀ i,i < its.length->∃ (a:Addr) (n:Int) (t:List Int) (vs:List aH),its[i]? = ξ (.ref a)/\ts.getD i []=n::t/\Vals ZdS vs/\IsTup s.heap a vs.toArray:=by
  intro i hi;obtain ⟨a,n,t,e1,e2,sq⟩:=tp.at_ i Ze;obtain ⟨v,e3,rr⟩:=rv.get e2;cases rr;obtain ⟨vs,r2,it,_⟩:=I.tuple sq;exact ⟨a,n,t,vs,e3,by rw[aK,e1];rfl,r2,it⟩
 have W:Wo fun i j=>ltT (ts.getD i []) (ts.getD j []):=⟨fun i j h=>Ro _ _ h,fun i j k h1 h2=>Aaa _ _ _ h1 h2⟩
 refine Akj (κ:=tuples' (iK "int" != iK "tuple")) W pl.isList Ze ?kd ?ak ?en
 case kd=>
  intro h2 h' Q' E' kp q';have mk:∀ (m:Nat),m<=its.length->∃ fs:List aH,sY h' (its.drop (its.length - m)) fs/\fs.length=m/\∀ v∈fs,vI Zf h' (typeOf v) (.type "int"):=by
   intro m;induction m with
   | zero=>intro _;exact ⟨[],by rw[rK,sG];exact pW,rfl,Za⟩
   | succ m ih=>
    intro hm;obtain ⟨fs,k1,k2,k3⟩:=ih Ze;obtain ⟨a,n,t,vs,e1,_,r2,it⟩:=hat (its.length - (m+1)) Ze;obtain ⟨o,ho,hcls,nn,hd⟩:=it;rw[aI] at r2;cases r2 with
    | @cons _ v0 _ vr rr rs=>
     obtain ⟨tk,rfl⟩:=rr;have hdrop:its.drop (its.length - (m+1)) = .ref a::its.drop (its.length - m):=by
      have hlt:its.length - (m+1) < its.length:=Ze
      rw[jB hlt];have:its[its.length - (m+1)] = .ref a:=by
       rw[aG hlt] at e1;exact bS e1
      rw[this]
      congr 2;omega
     refine ⟨.int n tk::fs,?_,by simp[k2],fun v hv=>?_⟩
     ·rw[hdrop];exact pM (kp _ _ ho) hcls hd rfl k1
     ·rcases bG.mp hv with e | e
      ·subst e;exact rL
      ·exact k3 v e
  obtain ⟨fs,k1,k2,k3⟩:=mk its.length (aP _);rw[cS,mO] at k1;exact sH (s:={ s with heap:=h' }) k1 Ze k3 rfl q'
 case ak=>
  intro h' i j C kp hi hj hC;obtain ⟨a,n,t,vs,e1,e2,r2,it⟩:=hat i hi;obtain ⟨b,m,u,ws,f1,f2,s2,jt⟩:=hat j hj;obtain ⟨o,ho,_,c1,hd⟩:=it;obtain ⟨o',ho',_,c2,hd'⟩:=jt;have g1:its.getD i eD = .ref a:=by rw[aK,e1];rfl
  have g2:its.getD j eD = .ref b:=by rw[aK,f1];rfl
  unfold jF;rw[g1,g2];refine tZ (s:={ s with heap:=h' }) (kp _ _ ho) hd (kp _ _ ho') hd' ?_;have hl1:=r2.length;have hl2:=s2.length;rw[aL] at hl1 hl2;refine Aed (n::t) (m::u) vs ws 0 r2 s2 ?_ ?_
  ·rw[aT,aT,<- hl1,<- hl2]
  ·rw[<- e2,<- f2];exact hC
 case en=>
  intro p h' c hp hu kp hl;have hks:(p.toList.map fun i=>ts.getD i [])=Nd ts:=by
   refine K6 ?_ ?_ (Ik ts)
   ·have e:(bM its.length).map (fun i=>ts.getD i [])=ts:=by
     apply iX
     ·simp;omega
     ·intro i h1 h2;simp[h2]
    exact ((hp.perm.map _).trans (by rw[e])).trans (Hb ts).symm
   ·rw[List.pairwise_map,List.pairwise_iff_getElem];intro i j hi hj hij;have hz:p.toList.length=its.length:=by rw[cN];exact hp.size
    have:=hu i j (jU hij) Ze;have ai:at0 p i=p.toList[i]:=by unfold at0;rw[dI,<- gZ,aG hi];rfl
    have aj:at0 p j=p.toList[j]:=by unfold at0;rw[dI,<- gZ,aG hj];rfl
    rw[ai,aj] at this;exact this
  have hlt:∀ k∈p.toList,k < ys.length:=fun k hk=>by
   have:=cL.mp (hp.perm.mem_iff.mp hk);omega
  have hrel:Vals (p.toList.map fun i=>ys.getD i .non) (H0 its p):=by
   unfold H0;have:∀ ks:List Nat,(∀ k∈ks,k < ys.length)->Vals Za3 (ks.map fun i=>its.getD i eD):=by
    intro ks;induction ks with
    | nil=>intro _;exact .nil
    | cons k ks ih=>
     intro hk;have hk0:=hk k (aU ..);obtain ⟨v,e3,rr⟩:=rv.get (aG hk0);refine .cons ?_ Zdh;show L2.RelV (ys.getD k .non) (its.getD k eD);rw[aK,aK,aG hk0,e3];exact rr
   exact this _ hlt
  have hsz:(p.toList.map fun i=>ys.getD i .non).length<=sizeLine:=by
   have:p.toList.length=its.length:=by rw[cN];exact hp.size
   rw[aL,this,dM];omega
  have I1:Inv X pins σ (upd H Zl (.lst (p.toList.map fun i=>ys.getD i .non))) { s with heap:=h' }:=I.laid (t':=s.toks) kp (mX _) ⟨hsz,H0 its p,c,hrel,hl⟩;exact ⟨.ref Zl,_,I1,rfl,q _ _ (I.hok.fresh (mX _)) hks hlt⟩
end
def Ws:U->Option (List Int)
 | .tup l=>mapO toI l
 | _=>ψ
noncomputable def F3(l:List Int):U:=.tup (l.map U.int)
def Gs:SC:=fun us L=>match us with
 | [.ref n]=>(Aw L n).bind fun l=>(mapO Ws l).bind fun ts=>if ts.length < 64/\(ts.all fun t=>!t.isEmpty)=true then ξ (.ref L.length,L++[.lst ((Nd ts).map F3)]) else ψ
 | _=>ψ
theorem Ahx{α:List Addr}:∀ {us:List U} {ys:List V} {ts:List (List Int)},RepL K H α us ys->mapO Ws us=ξ ts->(ts.all fun t=>!t.isEmpty)=true->Tups K H ts ys
 | [],ys,ts,r,e,h=>by
  unfold RepL at r;subst r;simp only[mapO] at e;cases e;exact .nil
 | u::us,ys,ts,r,e,h=>by
  unfold RepL at r;obtain ⟨x,xr,rfl,r1,r2⟩:=r;simp only[mapO] at e;obtain ⟨t,e1,e⟩:=aA.mp e;obtain ⟨tr,e2,e⟩:=aJ.mp e;subst e;rw[kU,bY] at h;have ih:=Ahx r2 e2 h.2;cases u with
  | tup l=>
   unfold RepU at r1;obtain ⟨a,vs,rfl,sq,rl⟩:=r1;have hv:=Md rl e1;rw[hv] at sq;cases t with
   | nil=>simp at h
   | cons n t=>exact .cons sq ih
  | _=>cases e1
theorem Aav:∀ {us:List U} {ts:List (List Int)},mapO Ws us=ξ ts->us=ts.map F3
 | [],ts,e=>by simp only[mapO] at e;cases e;rfl
 | u::us,ts,e=>by
  simp only[mapO] at e;obtain ⟨t,e1,e⟩:=aA.mp e;obtain ⟨tr,e2,e⟩:=aJ.mp e;subst e;rw[aI,Aav e2]
  congr 1
  cases u with
  | tup l=>
   have:∀ (l:List U) (t:List Int),mapO toI l=ξ t->l=t.map U.int:=by
    intro l;induction l with
    | nil=>intro t e;simp only[mapO] at e;cases e;rfl
    | cons a l ih=>
     intro t e;simp only[mapO] at e;obtain ⟨x,x1,e⟩:=aA.mp e;obtain ⟨y,y1,e⟩:=aJ.mp e;subst e;rw[aI,<- ih y y1];cases a <;> first | (cases x1;rfl) | cases x1
   unfold F3;rw[this l t e1]
  | _=>cases e1
theorem Y2:O0 K (fun xs H Q=>∃ (l:Addr) (ys:List V) (ts:List (List Int)),xs=[.ref l]/\SqL K H l ys/\Tups K H ts ys/\ys.length < 64 /\
  ∀ (p:Addr) (ks:List Nat),H p=ψ->(ks.map fun i=>ts.getD i [])=Nd ts->(∀ k∈ks,k < ys.length)->Q (.ref p) (upd H p (.lst Za3))) Gs:=by
 intro H α L us xs z L' Q A r e q;unfold Gs at e;split at e
 ·obtain ⟨l,hl,e⟩:=aA.mp e;obtain ⟨ts,hts,e⟩:=aA.mp e;split at e
  ·rename_i hc;cases e;obtain ⟨x,rfl,rx⟩:=r.one;obtain ⟨a,ys,rfl,sq,r2⟩:=Hm A hl rx;have tp:=Ahx r2 hts hc.2;have hlen:=tp.len;refine ⟨a,ys,ts,rfl,sq,tp,Ze,fun p ks hp hks hlt=>?_⟩;have rl:RepL K H α ((Nd ts).map F3) Za3:=by
    rw[<- hks];have hus:=Aav hts;have:∀ ks:List Nat,(∀ k∈ks,k < ys.length)->RepL K H α ((ks.map fun i=>ts.getD i []).map F3) Za3:=by
     intro ks;induction ks with
     | nil=>intro _;exact .nil
     | cons k ks ih=>
      intro hk;have hk0:=hk k (aU ..);have hkt:k < ts.length:=Ze
      refine .cons ?_ Zdh;have eu:l[k]? = ξ (F3 (ts.getD k [])):=by
       rw[hus,bD,aK,aG hkt];rfl
      obtain ⟨x,ex,rx⟩:=r2.get eu;show RepU K H α (F3 (ts.getD k [])) (ys.getD k .non);rw[aK (l:=ys),ex];exact rx
    exact this ks hlt
   obtain ⟨g2,A2,r3⟩:=A.lst rl hp;exact q _ _ _ g2 A2 r3
  ·cases e
 ·cases e
end MR
namespace SO
open PySem PySem.W PyProof.Rows
noncomputable def Agh{α:Type}(lt:Nat->Nat->Bool):KasT α->α
 | .ret a=>a
 | .ask i j k=>Agh lt (k (lt i j))
variable {n:Nat}{lt:Nat->Nat->Bool}
theorem On.run{α:Type}{P:α->Prop}:∀ {t:KasT α},On n lt P t->On n lt (fun a=>a=Agh lt t) t
 | .ret a,h=>rfl
 | .ask i j k,h=>⟨h.1,h.2.1,On.run h.2.2⟩
theorem On.holds{α:Type}{P:α->Prop}:∀ {t:KasT α},On n lt P t->P (Agh lt t)
 | .ret a,h=>h
 | .ask i j k,h=>by
  show P (Agh lt (k (lt i j)));exact On.holds h.2.2
def Gb(lt:Nat->Nat->Bool)(n:Nat):List Nat:=if n < 2 then bM n else (Agh lt (kD n)).toList
theorem Mc(W:Wo lt):(Gb lt n).Perm (bM n):=by
 unfold Gb;split
 ·exact .refl _
 ·exact (Aak (n:=n) W Ze).holds.1.perm
end SO
namespace MR
open PySem PySem.Spec PyProof.Rows PySem.Calls L2 SO
variable {k:Nat}{f:Addr}{fd:dS}{p:Str}{m:FN}
section
variable {X:Cx}{pins:List (Addr×Obj)}{σ:L2.St}{H:Hp}{s:aN}{h':Heap}
theorem Inv.adopt{a:Addr}{o:HO}{t':Nat}(I:L2.Inv X pins σ H s)(hf:Ml X pins H a)(k:∀ b o,b≠a->s.heap.get? b=ξ o->h'.get? b=ξ o)(new:ObjOk X.prog X.w (upd H a o) h' a o) :
  L2.Inv X pins σ (upd H a o) { s with heap:=h',toks:=t' }:=by
 have hn:H a=ψ:=hf.1;have na:∀ b u,H b=ξ u->b≠a:=fun b u e z=>by rw[z,hn] at e;cases e
 have st:=Stay.new hn o;refine I.step (g':=s.gens) (d':=s.drawn) (ch:=[a]) (fun b hb=>?_) (fun b o _ _ hc e _=>k b o ZaJ e) (fun b o _ _ hc e _=>⟨o.slots,k b o ZaJ e⟩) (fun b u hc e n=>?_) (fun b u hc e=>⟨u,k b u ZaJ e⟩) st.1 st.2 (fun b ps e=>⟨#[],?_⟩) (fun m hm=>?_) (fun b u e=>?_) I.bare
 ·have e:b=a:=by simpa using hb
  subst e;obtain ⟨_,f1,_,f3,f4,f5⟩:=hf;exact ⟨f3,f1,f4,f5⟩
 ·rw[Bq ZaJ];exact n
 ·rw[Bq (na b _ e),e];simp
 ·obtain ⟨o1,es,ep,ho,r⟩:=hm;exact ⟨o1,es,ep,k _ o1 (gY hf.2.1) ho,r⟩
 ·by_cases hb:b=a
  ·subst hb;rw[upd_same] at e;cases e;exact new
  ·rw[Bq hb] at e;refine (I.hok b u e).stay (fun c v hc q=>k c v ?_ q) (fun c q=>by rw[Bq (na c _ q)];exact q) fun c xs q=>by rw[Bq (na c _ q)];exact q
   rcases hc with z | z
   ·rw[z];exact hb
   ·exact na c _ z
theorem Aql{A:eA}(F:FnOk X.prog X.w X.K X.mg X.base CX0 k f fd [p] (spF X.K 1 m))(hr:Room k A)(hA:A.frames=X.A.frames)(hb:Binds X.K fd [p] [])
  (I:L2.Inv X pins σ H s) {α:List Addr} {L:UH} {u z:U} {y:V} {x:aH} (Ab:Abs X.K H α L) (ru:RepU X.K H α u y) (rx:L2.RelV y x) (hm:m [u] L=ξ (z,L)) :
  wpAny Zf A (call (.ref f) [x]) (EP X pins σ (fun v H'=>∃ α',Gr H α H' α'/\Abs X.K H' α' L/\RepU X.K H' α' z v)) (fun _ _=>False) s:=by
 have e0:=I.env0;have e1:Env0 X.prog X.w X.K X.mg X.base A X.stack s H:=⟨hA.trans e0.frames,e0.mod,e0.bs,e0.bsz,e0.funs,e0.frf,e0.hok,e0.bare⟩;have hsp:spF X.K 1 m [y] H (fun v H'=>∃ α',Gr H α H' α'/\Abs X.K H' α' L/\RepU X.K H' α' z v) E0:=⟨α,L,[u],Ab,.cons ru .nil,rfl,z,L,hm,fun v H' α' g A' r'=>⟨α',g,A',r'⟩⟩;have hbt:=hb s [x] I.kIn Za;refine tO (mC (F.run A X.stack s H ⟨[x],[]⟩ [x] [y] _ E0 hr e1 (by simpa using hbt) (.cons rx .nil) hsp) fun r s' hq=>?_);cases r with
 | error e=>exact hq
 | ok fl=>
  cases fl with
  | ret u=>exact I.after hq
  | next=>exact dY hq
  | brk=>exact dY hq
  | cont=>exact dY hq
end
section
variable {X:Cx}{pins:List (Addr×Obj)}{σ:L2.St}{H:Hp}{s:aN}
theorem toI_map:∀ l:List Int,mapO toI (l.map U.int)=ξ l
 | []=>rfl
 | a::r=>by simp only[aI,mapO,toI,toI_map r,aB,aE]
def ltK(ks:List (List Int))(i j:Nat):Bool:=ltT (ks.getD i []) (ks.getD j [])
theorem R3(ks:List (List Int)):Wo (ltK ks):=⟨fun i j h=>Ro _ _ h,fun i j k h1 h2=>Aaa _ _ _ h1 h2⟩
theorem Avm{a:Addr}{c0:Nat}{vs:List aH}{ys:List V}{us:List U}{ks:List (List Int)}{α:List Addr}{L:UH}
  (F:FnOk X.prog X.w X.K X.mg X.base CX0 k f fd [p] (spF X.K 1 m)) (hr:Room k X.A.in1.in1) (hb:Binds X.K fd [p] []) (I:L2.Inv X pins σ H s) (fa:Ml X pins H a)
  (ho:s.heap.get? a=ξ (seqObj "list" vs.toArray c0)) (rv:Vals ys vs) (ru:RepL X.K H α us ys) (Ab:Abs X.K H α L) (hl:ks.length=vs.length) (hk1:∀ t∈ks,t≠[])
  (hk:∀ (i:Nat) (u:U) (t:List Int),us[i]? = ξ u->ks[i]? = ξ t->m [u] L=ξ (F3 t,L)) (h64:vs.length < 64) :
  wpAny Zf X.A.in1.in1 (ksk_tree a (.ref f) false) (fun fin s'=>fin = .done (.ret .none)/\∃ H' α',L2.Inv X pins σ (upd H' a (.lst Zax)) s'/\H' a=ψ/\Gr H α H' α'/\Abs X.K H' α' L) X.xe s:=by
 have hyl:=rv.length;have hul:=ru.length;have z1:vs.toArray.size<=sizeLine:=by rw[aT,dM];omega
 obtain ⟨e1,h1⟩:∃ e1,(s.heap.update a Zq).get? a=ξ (seqObj "list" #[] e1):=⟨_,hW ho fun _=>#[]⟩;have hlt:a < s.heap.objs.size:=aY ho;have sb:=eE s.heap a Zq;have I1:L2.Inv X pins σ H { s with heap:=s.heap.update a Zq }:=I.turned (t':=s.toks) Zbl fa.1 fa.2.1 fa.2.2.2.1 fa.2.2.2.2.1 fa.2.2.2.2.2;have hs1:(s.heap.update a Zq).objs.size=s.heap.objs.size:=nV ..;generalize hA:s.heap.update a Zq=hp1 at h1 I1 hs1;have I2:L2.Inv X pins σ H { s with heap:=hp1.push { cls:=.type "tuple",data:=.seq vs.toArray } }:=I1.kept (t':=s.toks) fun b o e=>aC _ e
 have h2:(hp1.push { cls:=.type "tuple",data:=.seq vs.toArray }).get? a=ξ (seqObj "list" #[] e1):=aC _ h1;have hs2:(hp1.push { cls:=.type "tuple",data:=.seq vs.toArray }).objs.size=s.heap.objs.size+1:=by rw[dR,hs1]
 generalize hB:hp1.push { cls:=.type "tuple",data:=.seq vs.toArray } = hp2 at I2 h2 hs2;have I3:L2.Inv X pins σ H { s with heap:=hp2.push { cls:=.type "list",data:=.seq (fR []) } }:=I2.kept (t':=s.toks) fun b o e=>aC _ e
 have h3:(hp2.push { cls:=.type "list",data:=.seq (fR []) }).get? a=ξ (seqObj "list" #[] e1):=aC _ h2;have hkS:(hp2.push { cls:=.type "list",data:=.seq (fR []) }).get? hp2.objs.size=ξ (seqObj "list" #[] 0):=aX _ rfl;have fk:Ml X pins H hp2.objs.size:=I2.fpOk (s:={ s with heap:=hp2 }) (aP _) (I2.hok.fresh (aP _));have hne:hp2.objs.size≠a:=by rw[hs2];exact jV (rG hlt)
 generalize hC:hp2.push { cls:=.type "list",data:=.seq (fR []) } = hp3 at I3 h3 hkS;generalize hS:hp2.objs.size=kS at hkS fk hne;unfold ksk_tree;refine aD (rF ho rfl (aD (jJ ho rfl ?_ z1 (eG _))));rw[hA];refine aD (pK (s:={ s with heap:=hp1 }) h1 rfl (aD (pF ?_ (by show vs.length<=_;rw[dM];omega))))
 show wpAny _ _ _ _ _ ({ s with heap:=hp1.push { cls:=.type "tuple",data:=.seq vs.toArray } }:aN);rw[hB];refine aD (kX ?_ (eG _));show wpAny _ _ _ _ _ ({ s with heap:=hp2.push { cls:=.type "list",data:=.seq (fR []) } }:aN);rw[hC];show wpAny _ _ (holding _ (ksk_rest a (.ref f) false vs.toArray e1 (.ref hp2.objs.size))) _ _ _;rw[hS];refine dW ?_;unfold ksk_rest;refine aD (qN ?_);rw[<- Array.forIn_toList];have pin2:∀ (kv:List aH) (e:Nat) (H':Hp) (s':aN),L2.Inv X pins σ H' s'->H' kS=ψ->H' a=ψ->s'.heap.get? kS=ξ (seqObj "list" kv.toArray e)->s'.heap.get? a=ξ (seqObj "list" #[] e1)->L2.Inv X ((kS,seqObj "list" kv.toArray e)::(a,seqObj "list" #[] e1)::pins) σ H' s':=by
  intro kv e H' s' J n1 n2 g1 g2;refine J.pins_of fun q hq=>?_
  rcases bG.mp hq with rfl | hq
  ·exact ⟨g1,n1,fk.2.1,fk.2.2.1,fun v z=>by cases z⟩
  ·rcases bG.mp hq with rfl | hq
   ·exact ⟨g2,n2,fa.2.1,fa.2.2.1,fun v z=>by cases z⟩
   ·exact J.pin q (bK _ hq)
 refine aD (ksk_fold (fun j s'=>∃ (H':Hp) (α':List Addr) (kv:List aH) (kx:List V) (e:Nat),L2.Inv X ((kS,seqObj "list" kv.toArray e)::(a,seqObj "list" #[] e1)::pins) σ H' s'/\Gr H α H' α'/\Abs X.K H' α' L/\Vals kx kv/\RepL X.K H' α' ((ks.take j).map F3) kx) vs 0 _
  ⟨H,α,[],[],0,pin2 [] 0 H _ I3 fk.1 fa.1 hkS h3,.refl _ _,Ab,.nil,.nil⟩ ?step ?done)
 case step=>
  rintro j x s' hx ⟨H',α',kv,kx,e,J,g,A',rk,rr⟩;simp only[vO] at rr ⊢;have hj:j < vs.length:=(aQ.mp hx).1;obtain ⟨t,ht⟩:∃ t,ks[j]? = ξ t:=⟨ks[j],aG Ze⟩;obtain ⟨y,hy⟩:∃ y,ys[j]? = ξ y:=⟨ys[j],aG Ze⟩;obtain ⟨x',hx',rx⟩:=rv.get hy;rw[hx] at hx';cases hx';obtain ⟨u,hu,ry⟩:=ru.get' hy;have hkl:=rr.length;have hkl2:=rk.length;rw[aL,fL] at hkl;refine aD (qC (eR (Aql (A:=X.A.in1.in1) F hr rfl hb J A' (ry.mono g) rx (hk j u t hu ht)) (fun v s'' hv=>?_) fun _ _ hF=>hF.elim));obtain ⟨v',H2,J2,rv',α2,g2,A2,r2⟩:=hv;dsimp only;have p1:=J2.pin (kS,seqObj "list" kv.toArray e) (bK _ (aU ..));have p2:=J2.pin (a,seqObj "list" #[] e1) (bK _ (aO _ (aU ..)));have J3:L2.Inv X pins σ H2 s'':=J2.pins_of fun q hq=>J2.pin q (bK _ (aO _ (aO _ hq)))
  have sb2:=eE s''.heap kS (bR (·.push v));obtain ⟨e2,he2⟩:∃ e2,(s''.heap.update kS (bR (·.push v))).get? kS=ξ (seqObj "list" (kv.toArray.push v) e2):=⟨_,hW p1.1 (·.push v)⟩;have J4:L2.Inv X pins σ H2 { s'' with heap:=s''.heap.update kS (bR (·.push v)) }:=J3.turned (t':=s''.toks) (fun b o hb e=>(sb2.2 b hb).trans e) p1.2.1 fk.2.1 fk.2.2.2.1 fk.2.2.2.2.1 fk.2.2.2.2.2;refine aD (jJ p1.1 rfl ?_ (by rw[aT,dM];omega) (by rw[Array.size_push,aT,dM];omega));have hpush:kv.toArray.push v=(kv++[v]).toArray:=Za
  rw[hpush] at he2;refine bB ⟨rfl,H2,α2,kv++[v],kx++[v'],e2,pin2 (kv++[v]) e2 H2 _ J4 p1.2.1 p2.2.1 he2 ((sb2.2 a (gY hne)).trans p2.1),g.trans g2,A2,rk.append (.cons rv' .nil),?_⟩;have htk:ks.take (j+1)=ks.take j++[t]:=by rw[rC,ht];rfl
  rw[htk,fJ];exact (rr.mono g2).append (.cons r2 .nil)
 case done=>
  rintro s' ⟨H',α',kv,kx,e,J,g,A',rk,rr⟩;have htk:ks.take (0+vs.length)=ks:=dQ Ze;rw[htk] at rr;have hkl:=rr.length;have hkl2:=rk.length;rw[aL] at hkl;have hkv:kv.length=vs.length:=Ze
  have p1:=J.pin (kS,seqObj "list" kv.toArray e) (bK _ (aU ..));have p2:=J.pin (a,seqObj "list" #[] e1) (bK _ (aO _ (aU ..)));have J3:L2.Inv X pins σ H' s':=J.pins_of fun q hq=>J.pin q (bK _ (aO _ (aO _ hq)))
  refine aD (rF p1.1 rfl ?_);have hat:∀ i,i < kv.length->∃ (b:Addr) (n:Int) (t:List Int) (ws:List aH),kv[i]? = ξ (.ref b)/\ks.getD i []=n::t/\Vals ZdS ws/\IsTup s'.heap b ws.toArray:=by
   intro i hi;obtain ⟨t,ht⟩:∃ t,ks[i]? = ξ t:=⟨ks[i],aG Ze⟩;obtain ⟨y,hy,ry⟩:=rr.get (i:=i) (u:=F3 t) (by rw[bD,ht];rfl);obtain ⟨v,hv,rx⟩:=rk.get hy;unfold F3 RepU at ry;obtain ⟨b,xs,rfl,sq,rl⟩:=ry;cases rx;have hxs:=Md rl (toI_map t);rw[hxs] at sq;obtain ⟨ws,r2,it,_⟩:=J3.tuple sq;cases t with
   | nil=>exact absurd rfl (hk1 [] (dN ht))
   | cons n t=>exact ⟨b,n,t,ws,hv,by rw[aK,ht];rfl,r2,it⟩
  have fin:∀ (q:Array Nat) (st:fY),q.toList=Gb (ltK ks) vs.length->(arrOf st).map (·.2)=(H0 vs q).toArray->failedOf st=ψ->wpAny Zf X.A.in1.in1 (ksk_tail a false e1 (.ref kS) st)
    (fun fin s'=>fin = .done (.ret .none)/\∃ H' α',L2.Inv X pins σ (upd H' a (.lst Zax)) s'/\H' a=ψ/\Gr H α H' α'/\Abs X.K H' α' L) X.xe s':=by
   intro q st hq hout hfail;have hperm:=Mc (n:=vs.length) (R3 ks);have hlen:(H0 vs q).length=vs.length:=by unfold H0;rw[hq,aL,hperm.length_eq,iD]
   have sb1:=eE s'.heap kS Zq;have J4:L2.Inv X pins σ H' { s' with heap:=s'.heap.update kS Zq }:=J3.turned (t':=s'.toks) (fun b o hb e=>(sb1.2 b hb).trans e) p1.2.1 fk.2.1 fk.2.2.2.1 fk.2.2.2.2.1 fk.2.2.2.2.2;have ga:(s'.heap.update kS Zq).get? a=ξ (seqObj "list" #[] e1):=(sb1.2 a (gY hne)).trans p2.1;generalize hG:s'.heap.update kS Zq=g1 at J4 ga;have sb3:=eE g1 a Zdi;obtain ⟨c2,hc2⟩:∃ c2,(g1.update a Zdi).get? a=ξ (seqObj "list" (H0 vs q).toArray c2):=⟨_,hW ga fun _=>(H0 vs q).toArray⟩;have hlt':∀ k∈Gb (ltK ks) vs.length,k < ys.length:=fun k hk=>by
    have:=cL.mp (hperm.mem_iff.mp hk);omega
   have hrel:Vals Zax (H0 vs q):=by
    unfold H0;rw[hq];have:∀ js:List Nat,(∀ k∈js,k < ys.length)->Vals (js.map fun i=>ys.getD i .non) (js.map fun i=>vs.getD i eD):=by
     intro js;induction js with
     | nil=>intro _;exact .nil
     | cons k js ih=>
      intro hk;have hk0:=hk k (aU ..);obtain ⟨v,e3,rr⟩:=rv.get (aG hk0);refine .cons ?_ Zdh;show L2.RelV (ys.getD k .non) (vs.getD k eD);rw[aK,aK,aG hk0,e3];exact rr
    exact this _ hlt'
   have hsz:((Gb (ltK ks) vs.length).map fun i=>ys.getD i .non).length<=sizeLine:=by
    rw[aL,hperm.length_eq,iD,dM];omega
   have J5:L2.Inv X pins σ (upd H' a (.lst Zax)) { s' with heap:=g1.update a Zdi }:=
    Inv.adopt (s:={ s' with heap:=g1 }) (t':=s'.toks) J4 ⟨p2.2.1,fa.2⟩ (fun b o hb e=>(sb3.2 b hb).trans e) ⟨hsz,H0 vs q,c2,hrel,hc2⟩
   unfold ksk_tail;refine aD (jJ p1.1 rfl ?_ (by rw[aT,dM];omega) (eG _));rw[hG];refine aD (pE (aD (pK (s:={ s' with heap:=g1 }) ga rfl ?_)));have hout':(if false=true then ((arrOf st).map (·.2)).reverse else (arrOf st).map (·.2))=(H0 vs q).toArray:=by rw[if_neg Za];exact hout
   rw[hout',hfail];refine aD (jJ (s:={ s' with heap:=g1 }) ga rfl ?_ (eG _) (by rw[aT,hlen,dM];omega));simp only[bne_self_eq_false,bN,if_false];exact bB ⟨rfl,H',α',J5,p2.2.1,g,A'⟩
  unfold ksk_end;simp only[bN,if_false];by_cases hsmall:vs.toArray.size < 2
  ·rw[if_pos hsmall,if_pos hsmall];have hs2:vs.length < 2:=by simpa using hsmall
   refine aD (bB ?_);rw[sW];refine aD (bB (fin (fR (bM vs.length)) (tY general' (kv.toArray.zip vs.toArray) #[] 7 ψ) ?_ ?_ rfl))
   ·unfold Gb;rw[if_pos hs2]
   ·rw[V2];show (kv.toArray.zip vs.toArray).map (·.2)=vs.toArray;apply Array.ext
    ·simp;omega
    ·intro i i1 i2;simp
  ·rw[if_neg hsmall,if_neg hsmall];have hs2:2<=vs.length:=by simp at hsmall;omega
   have mk:∀ (m:Nat),m<=kv.length->∃ fs:List aH,sY s'.heap (kv.drop (kv.length - m)) fs/\fs.length=m/\∀ v∈fs,vI Zf s'.heap (typeOf v) (.type "int"):=by
    intro m;induction m with
    | zero=>intro _;exact ⟨[],by rw[rK,sG];exact pW,rfl,Za⟩
    | succ m ih=>
     intro hm;obtain ⟨fs,k1,k2,k3⟩:=ih Ze;obtain ⟨b,n,t,ws,q1,_,r2,it⟩:=hat (kv.length - (m+1)) Ze;obtain ⟨o,ho',hcls,nn,hd⟩:=it;rw[aI] at r2;cases r2 with
     | @cons _ v0 _ vr rr rs=>
      obtain ⟨tk,rfl⟩:=rr;have hdrop:kv.drop (kv.length - (m+1)) = .ref b::kv.drop (kv.length - m):=by
       have hlt2:kv.length - (m+1) < kv.length:=Ze
       rw[jB hlt2];have:kv[kv.length - (m+1)] = .ref b:=by
        rw[aG hlt2] at q1;exact bS q1
       rw[this]
       congr 2;omega
      refine ⟨.int n tk::fs,?_,by simp[k2],fun v hv=>?_⟩
      ·rw[hdrop];exact pM ho' hcls hd rfl k1
      ·rcases bG.mp hv with e | e
       ·subst e;exact rL
       ·exact k3 v e
   obtain ⟨fs,k1,k2,k3⟩:=mk kv.length (aP _);rw[cS,mO] at k1;refine aD (sH k1 Ze k3 rfl ?_);have ask:∀ (i j:Nat) (C:Bool->aN->Prop),i < vs.length->j < vs.length->C (ltK ks i j) s'->jF X.prog X.w X.A.in1.in1 (tuples' (iK "int" != iK "tuple")) kv i j C s':=by
    intro i j C hi hj hC;obtain ⟨b,n,t,ws,q1,q2,r2,it⟩:=hat i Ze;obtain ⟨b',n',t',ws',q1',q2',r2',it'⟩:=hat j Ze;obtain ⟨o,ho1,_,c1,hd⟩:=it;obtain ⟨o',ho2,_,c2,hd'⟩:=it';have g1:kv.getD i eD = .ref b:=by rw[aK,q1];rfl
    have g2:kv.getD j eD = .ref b':=by rw[aK,q1'];rfl
    unfold jF;rw[g1,g2];refine tZ ho1 hd ho2 hd' ?_;have hl1:=r2.length;have hl2:=r2'.length;rw[aL] at hl1 hl2;refine Aed (n::t) (n'::t') ws ws' 0 r2 r2' ?_ ?_
    ·rw[aT,aT,<- hl1,<- hl2]
    ·rw[<- q2,<- q2'];exact hC
   have on:=(Aak (n:=vs.length) (R3 ks) Ze).run.wp (cmp:=jF X.prog X.w X.A.in1.in1 (tuples' (iK "int" != iK "tuple")) kv) (s:=s') (Q:=fun q s2=>q=Agh (ltK ks) (kD vs.length)/\s2=s') (fun i j C hi hj hC=>ask i j C hi hj hC) fun q h=>⟨h,rfl⟩
   refine aD (eR (PySem.W.kat_run (ks:=kv) (vs:=vs) (Q:=fun st s2=>∃ q:Array Nat,arrOf st=q.map (PySem.W.kas_item (kv.toArray.zip vs.toArray))/\failedOf st=ψ/\q=Agh (ltK ks) (kD vs.length)/\s2=s') hkv hs2 h64 (fun q st s2 _ q1 q2 q3=>⟨q,q1,q2,q3⟩) on) ?_ fun _ _ e=>e);rintro ⟨⟨⟩,st⟩ s2 ⟨q,q1,q2,q3,rfl⟩;refine fin q st ?_ (PySem.W.kat_snds hkv q1) q2;unfold Gb;rw[if_neg Ze,q3]
theorem Aqn{l:Addr}{ys:List V}{us:List U}{ks:List (List Int)}{α:List Addr}{L:UH}{Q:VK}
  (F:FnOk X.prog X.w X.K X.mg X.base CX0 k f fd [p] (spF X.K 1 m)) (hr:Room (k+2) X.A) (hb:Binds X.K fd [p] []) (I:L2.Inv X pins σ H s) (hq:SqL X.K H l ys) (ru:RepL X.K H α us ys) (Ab:Abs X.K H α L) (hl:ks.length=ys.length) (hk1:∀ t∈ks,t≠[])
  (hk:∀ (i:Nat) (u:U) (t:List Int),us[i]? = ξ u->ks[i]? = ξ t->m [u] L=ξ (F3 t,L)) (h64:ys.length < 64)
  (q:∀ (b:Addr) (H':Hp) (α':List Addr),H' b=ψ->Gr H α H' α'->Abs X.K H' α' L->Q (.ref b) (upd H' b (.lst ((Gb (ltK ks) ys.length).map fun i=>ys.getD i .non)))) :
  wpAny Zf X.A (call (.builtin "sorted") [.ref l] [(fQ "key",.ref f)]) Zaj X.xe s:=by
 obtain ⟨its,rv,pl,hz⟩:=I.list hq;have hlen:=rv.length;have hil:=pl.isList;have e1:((s.heap.push (seqObj "list" #[] 0)).update s.heap.objs.size (bR (· ++ its.toArray))).objs.size=s.heap.objs.size+1:=by rw[nV,size_push']
 have e2:(((s.heap.push (seqObj "list" #[] 0)).update s.heap.objs.size (bR (· ++ its.toArray))).push (seqObj "list" its.toArray 0)).get? Zl=ξ (seqObj "list" its.toArray 0):=by rw[<- e1];exact aX _ rfl
 have e0:∀ b o,s.heap.get? b=ξ o->((s.heap.push (seqObj "list" #[] 0)).update s.heap.objs.size (bR (· ++ its.toArray))).get? b=ξ o:=fun b o q=>R5 _ _ _ b o (cF (aY q)) (aC _ q)
 have J0:L2.Inv X pins σ H { s with heap:=(s.heap.push (seqObj "list" #[] 0)).update s.heap.objs.size (bR (· ++ its.toArray)) }:=I.kept (t':=s.toks) e0;have J1:L2.Inv X pins σ H { s with heap:=((s.heap.push (seqObj "list" #[] 0)).update s.heap.objs.size (bR (· ++ its.toArray))).push (seqObj "list" its.toArray 0) }:=J0.kept (t':=s.toks) fun b o e=>aC _ e
 have fp:Ml X pins H Zl:=by
  rw[<- e1];exact J0.fpOk (aP _) (J0.hok.fresh (aP _))
 refine call_function_entry_kw sN rH rJ (ksk_s1 _ _) ?_;unfold kW.«sorted»;refine aD (m:=checkCount "sorted" 1 1 _) (bB (aD (collect_list hil (aD (kX ?_ ?y2)) ?y1)))
 case y1=>rw[dM];omega
 case y2=>rw[dM];omega
 show wpAny _ _ _ _ _ ({ s with heap:=((s.heap.push (seqObj "list" #[] 0)).update s.heap.objs.size (bR (· ++ its.toArray))).push (seqObj "list" its.toArray 0) }:aN);rw[e1];refine aD (dW (wpAny_call_entry_kw pL ⟨_,e2,rfl⟩ oU ?body (ksk_l1 _ _)))
 case body=>
  show wpAny Zf X.A.in1.in1 (kW.«list.sort» ⟨[.ref Zl],[(fQ "key",.ref f)]⟩) _ _ _;rw[ksk_t1];refine eR (Avm F (hr.in1.in1) hb J1 fp e2 rv ru Ab Ze hk1 hk Ze) (fun fin s' ⟨hf,H',α',J,hn,g,A'⟩=>?_) fun _ _ e=>e
  subst hf;refine ⟨_,rfl,bB ⟨_,rfl,.ref Zl,_,J,rfl,?_⟩⟩;have:=q Zl H' α' hn g A';rw[hlen] at this;exact this
end
end MR
namespace SO
open PySem PySem.W PyProof.Rows
variable {a b c k m nrem:Nat}{p:Array Nat}
section
variable {lt:Nat->Nat->Bool}{n:Nat}
def Ls(lt:Nat->Nat->Bool)(i j:Nat):Prop:=Le lt i j/\(Le lt j i->i<=j)
theorem Wo.lt_le(W:Wo lt)(h:lt a b=true)(h2:Le lt b c):lt a c=true:=by
 cases hc:lt a c with
 | true=>rfl
 | false=>have:lt a b=false:=W.trans (lt:=lt) (i:=b) (j:=c) (k:=a) h2 hc;rw[h] at this;cases this
theorem Wo.le_lt(W:Wo lt)(h:Le lt a b)(h2:lt b c=true):lt a c=true:=by
 cases hc:lt a c with
 | true=>rfl
 | false=>have:lt b c=false:=W.trans (lt:=lt) (i:=c) (j:=a) (k:=b) hc h;rw[h2] at this;cases this
theorem Ls.of_lt(W:Wo lt)(h:lt a b=true):Ls lt a b:=⟨W.le h,fun q=>by unfold Le at q;rw[h] at q;cases q⟩
theorem Ls.trans(W:Wo lt)(h1:Ls lt a b)(h2:Ls lt b c):Ls lt a c:=⟨W.trans h1.1 h2.1,fun q=>bW (h1.2 (W.trans h2.1 q)) (h2.2 (W.trans q h1.1))⟩
theorem Ls.refl(W:Wo lt)(a:Nat):Ls lt a a:=⟨W.refl a,fun _=>aP _⟩
theorem Ls.of_le(h:Le lt a b)(h2:a<=b):Ls lt a b:=⟨h,fun _=>h2⟩
def UpS(lt:Nat->Nat->Bool)(p:Array Nat)(k:Nat):Prop:=∀ i j,i<=j->j < k->Ls lt (at0 p i) (at0 p j)
def DnS(lt:Nat->Nat->Bool)(p:Array Nat)(k:Nat):Prop:=∀ i j,i<=j->j < k->Ls lt (at0 p j) (at0 p i)
def Fx(n:Nat)(p:Array Nat)(k:Nat):Prop:=(∀ i,i < k->at0 p i < k)/\∀ i,k<=i->i < n->at0 p i=i
theorem Fx.up(h:Fx n p k)(hk:k<=m)(hm:m<=n):Fx n p m:=⟨fun i hi=>by
 by_cases h1:i < k
 ·have:=h.1 i h1;omega
 ·rw[h.2 i Ze Ze];exact hi,fun i h1 h2=>h.2 i Ze h2⟩
theorem Fx.rev{i:Nat}(h:Fx n p k)(hk:k<=m)(hm:m<=n)(hs:p.size=n)(hi:i=0\/k<=i):Fx n (iN p i m) m:=by
 have h':=h.up hk hm;refine ⟨fun j hj=>?_,fun j h1 h2=>?_⟩
 ·rw[Ef Ze];split
  ·exact h'.1 _ Ze
  ·exact h'.1 j hj
 ·rw[Ef Ze,if_neg Ze];exact h'.2 j h1 h2
theorem UpS.snoc(W:Wo lt)(h:UpS lt p m)(hm:1<=m)(hl:Ls lt Zx (at0 p m)):UpS lt p (m+1):=fun i j h1 h2=>by
 by_cases hj:j < m
 ·exact h i j h1 hj
 ·have hj:j=m:=Ze
  subst hj;by_cases hi:i=j
  ·subst hi;exact Ls.refl W _
  ·exact (h i (j - 1) Ze Ze).trans W hl
theorem Aby(W:Wo lt)(h0:0 < n)(hp:Pm n p)(hn:nrem<=n):∀ (f m:Nat),1<=m->m+f=nrem->UpS lt p m->Fx n p m->On n lt (fun m'=>m<=m'/\m'<=nrem/\UpS lt p m'/\Fx n p m'/\(m'=nrem\/lt (at0 p m') (at0 p (m' - 1))=true)) (kas_asc p f m)
 | 0,m,h1,hf,hu,hx=>⟨aP _,Ze,hu,hx,.inl Ze⟩
 | f+1,m,h1,hf,hu,hx=>by
  refine ⟨hp.bd h0 _,hp.bd h0 _,?_⟩;show On n lt _ (if lt (at0 p m) Zx=true then KasT.ret m else kas_asc p f (m+1));cases hl:lt (at0 p m) Zx with
  | true=>exact ⟨aP _,Ze,hu,hx,.inr hl⟩
  | false=>
   have hs:Ls lt Zx (at0 p m):=.of_le hl (by have:=hx.1 (m - 1) Ze;have:=hx.2 m (aP _) Ze;omega)
   exact (Aby W h0 hp hn f (m+1) Ze Ze (hu.snoc W h1 hs) (hx.up Ze Ze)).imp fun m' ⟨a,b,c⟩=>⟨Ze,b,c⟩
structure Dq(lt:Nat->Nat->Bool)(n:Nat)(p:Array Nat)(m s:Nat):Prop where
 lo:DnS lt p s
 st:∀ i j,i < s->s<=j->j < m->lt (at0 p j) (at0 p i)=true
 tl:∀ i,s<=i->i < m->Eqv lt (at0 p i) Zx
 fx:Fx n p s
 lt:s < m
theorem Dq.turn(W:Wo lt){s:Nat}(h:Dq lt n p m s)(hs:p.size=n)(hm:m<=n):DnS lt (iN p s m) m/\Fx n (iN p s m) m:=by
 refine ⟨fun i j h1 h2=>?_,h.fx.rev (jU h.lt) hm hs (.inr (aP _))⟩;rw[Ef Ze,Ef Ze];by_cases hj:s<=j
 ·rw[if_pos (show s<=j/\j < m from ⟨hj,h2⟩)];by_cases hi:s<=i
  ·rw[if_pos (show s<=i/\i < m from ⟨hi,Ze⟩)];have a:=h.tl (s+m - 1 - j) Ze Ze;have b:=h.tl (s+m - 1 - i) Ze Ze;refine .of_le (W.trans a.1 b.2) ?_;rw[h.fx.2 _ Ze Ze,h.fx.2 _ Ze Ze];omega
  ·rw[if_neg Ze];exact Ls.of_lt W (h.st _ _ Ze Ze Ze)
 ·rw[if_neg Ze,if_neg Ze];exact h.lo i j h1 Ze
theorem Dq.one(W:Wo lt){s:Nat}(h:Dq lt n p m s)(h1:s+1=m)(hm:m<=n):DnS lt p m/\Fx n p m:=by
 refine ⟨fun i j i1 i2=>?_,h.fx.up Ze hm⟩;by_cases hj:j < s
 ·exact h.lo i j i1 hj
 ·have hj:j=s:=Ze
  subst hj;by_cases hi:i=j
  ·subst hi;exact Ls.refl W _
  ·exact Ls.of_lt W (h.st _ _ Ze Ze Ze)
theorem Dq.next(W:Wo lt)(h:DnS lt p m/\Fx n p m)(h1:1<=m)(hl:lt (at0 p m) Zx=true):Dq lt n p (m+1) m where
 lo:=h.1
 st i j h1 h2 h3:=by
  have hj:j=m:=Ze
  subst hj;exact W.lt_le hl (h.1 i (j - 1) Ze Ze).1
 tl i h1 h2:=by
  have hi:i=m:=Ze
  subst hi;rw[gW];exact ⟨W.refl _,W.refl _⟩
 fx:=h.2
 lt:=Ze
theorem Rg(W:Wo lt)(h0:0 < n)(hz:nrem<=n):∀ (f:Nat) (p:Array Nat) (m q:Nat),Pm n p->1<=m->m+f=nrem->q < m->Dq lt n p m (m - (q+1)) ->
  On n lt (fun r=>Pm n r.1/\1<=r.2.1/\r.2.1<=nrem/\r.2.2 < r.2.1/\Dq lt n r.1 r.2.1 (r.2.1 - (r.2.2+1))) (kas_desc f p m q)
 | 0,p,m,q,hp,h1,hf,hq,hd=>⟨hp,h1,(by show m<=nrem;omega),hq,hd⟩
 | f+1,p,m,q,hp,h1,hf,hq,hd=>by
  refine ⟨hp.bd h0 _,hp.bd h0 _,?_⟩;show On n lt _ (if lt (at0 p m) Zx=true then _ else _);have e0:m+1 - (0+1)=m:=Ze
  cases hl:lt (at0 p m) Zx with
  | true=>
   have hms:m<=p.size:=by rw[hp.size];omega
   rw[if_pos rfl];by_cases hq0:q > 0
   ·rw[if_pos hq0];have ht:=hd.turn W hp.size Ze;have hm':at0 Zco m=at0 p m:=by rw[Ef hms,if_neg Ze]
    have hm2:lt (at0 Zco m) (at0 Zco (m - 1))=true:=by
     rw[hm',Ef hms,if_pos Ze];exact W.lt_le hl (hd.tl _ Ze Ze).2
    exact Rg W h0 hz f _ (m+1) 0 (hp.rev _ _) Ze Ze Ze (by rw[e0];exact Dq.next W ht h1 hm2)
   ·rw[if_neg hq0];have hq1:q=0:=Ze
    subst hq1;exact Rg W h0 hz f p (m+1) 0 hp Ze Ze Ze (by rw[e0];exact Dq.next W (hd.one W Ze Ze) h1 hl)
  | false=>
   rw[if_neg Za];refine ⟨hp.bd h0 _,hp.bd h0 _,?_⟩;show On n lt _ (if lt Zx (at0 p m)=true then _ else _);cases hl2:lt Zx (at0 p m) with
   | true=>rw[if_pos rfl];exact ⟨hp,h1,(by show m<=nrem;omega),hq,hd⟩
   | false=>
    rw[if_neg Za];have es:m+1 - (q+1+1)=m - (q+1):=Ze
    refine Rg W h0 hz f p (m+1) (q+1) hp Ze Ze Ze ?_;rw[es];refine ⟨hd.lo,fun i j i1 i2 i3=>?_,fun i i1 i2=>?_,hd.fx,Ze⟩
    ·by_cases hj:j < m
     ·exact hd.st i j i1 i2 hj
     ·have hj:j=m:=Ze
      subst hj;exact W.le_lt hl2 (hd.st i (j - 1) i1 Ze Ze)
    ·rw[gW];by_cases hi:i=m
     ·subst hi;exact ⟨W.refl _,W.refl _⟩
     ·have a:=hd.tl i i1 Ze;exact ⟨W.trans a.1 hl,W.trans hl2 a.2⟩
theorem Acp(W:Wo lt)(h0:0 < n)(hz:nrem<=n)(hp:Pm n p)(h1:1<=m)(hm:m<=nrem)(hd:DnS lt p m/\Fx n p m):On n lt ZaH (sD m nrem p):=by
 have hms:m<=p.size:=by rw[hp.size];omega
 have hu:UpS lt (iN p 0 m) m:=fun i j i1 i2=>by
  rw[Ef hms,Ef hms,if_pos Ze,if_pos Ze];exact hd.1 _ _ Ze Ze
 unfold sD;exact On.bind (fun a ⟨a1,a2,a3,a4,_⟩=>⟨hp.rev _ _,Ze,a2,a3,a4⟩) (Aby (nrem:=nrem) W h0 (hp.rev 0 m) hz (nrem - m) m h1 Ze hu (hd.2.rev (aP _) Ze hp.size (.inl rfl)))
theorem Qx(W:Wo lt)(h0:0 < n)(hz:nrem<=n)(hp:Pm n p)(hm:m+1<=nrem)(hd:Dq lt n p (m+1) m):On n lt ZaH (oG m nrem p):=by
 unfold oG;have e0:m+1 - (0+1)=m:=Ze
 refine On.bind (fun r ⟨a1,a2,a3,a4,a5⟩=>?_) (Rg W h0 hz (nrem - (m+1)) p (m+1) 0 hp Ze Ze Ze (by rw[e0];exact hd));have hms:r.2.1<=r.1.size:=by rw[a1.size];omega
 split
 ·exact Acp W h0 hz (a1.rev _ _) a2 a3 (a5.turn W a1.size Ze)
 ·exact Acp W h0 hz a1 a2 a3 (a5.one W Ze Ze)
theorem Ajv(W:Wo lt)(h0:0 < n)(hz:nrem<=n)(h1:1<=nrem)(hp:Pm n p)(hid:∀ i,i < n->at0 p i=i):On n lt ZaH (sE nrem p):=by
 unfold sE;have fx0:Fx n p 0:=⟨fun i h=>by omega,fun i _ h=>hid i h⟩;have up1:UpS lt p 1:=fun i j h1 h2=>by
  have:i=j:=Ze
  subst this;exact Ls.refl W _
 refine On.bind (fun m ⟨a1,a2,a3,ax,a4⟩=>?_) (Aby (nrem:=nrem) W h0 hp hz (nrem - 1) 1 (aP _) Ze up1 (fx0.up Ze Ze));by_cases hm:(m == nrem)=true
 ·rw[if_pos hm];exact ⟨hp,Ze,a2,a3,ax⟩
 ·rw[if_neg hm];have hne:m≠nrem:=by simpa using hm
  have hlt:lt (at0 p m) Zx=true:=a4.resolve_left hne;by_cases hm1:m > 1
  ·rw[if_pos hm1];refine ⟨hp.bd h0 _,hp.bd h0 _,?_⟩;show On n lt _ (if lt (at0 p 0) Zx=true then _ else _);cases hl:lt (at0 p 0) Zx with
   | true=>rw[if_pos rfl];exact ⟨hp,Ze,a2,a3,ax⟩
   | false=>
    rw[if_neg Za];have hms:m<=p.size:=by rw[hp.size];omega
    have hall:∀ i j,i < m->j < m->Le lt (at0 p i) (at0 p j):=fun i j i1 j1=>W.trans (a3 i (m - 1) Ze Ze).1 (W.trans hl (a3 0 j Ze j1).1)
    refine Qx W h0 hz (hp.rev 0 m) Ze ?_;have hd:DnS lt (iN p 0 m) m:=fun i j i1 i2=>by
     rw[Ef hms,Ef hms,if_pos Ze,if_pos Ze];refine .of_le (hall _ _ Ze Ze) ?_;rw[hid _ Ze,hid _ Ze];omega
    refine Dq.next W ⟨hd,fx0.rev Ze Ze hp.size (.inl rfl)⟩ Ze ?_;rw[Ef hms,Ef hms,if_neg Ze,if_pos Ze];exact W.lt_le hlt (hall _ _ Ze Ze)
  ·rw[if_neg hm1];have:m=1:=Ze
   subst this;refine Qx W h0 hz hp Ze ?_;have hd:DnS lt p 1:=fun i j h1 h2=>by
    have:i=j:=Ze
    subst this;exact Ls.refl W _
   exact Dq.next W ⟨hd,ax⟩ (aP _) hlt
theorem Sb(W:Wo lt)(h0:0 < n)(hp:Pm n p)(hu:UpS lt p k):∀ (f l r:Nat),l<=r->r<=k->r - l<=f->(∀ i,i < l->Le lt (at0 p i) (at0 p k))->(∀ i,r<=i->i < k->lt (at0 p k) (at0 p i)=true) ->
  On n lt (fun l'=>l'<=k/\(∀ i,i < l'->Le lt (at0 p i) (at0 p k))/\∀ i,l'<=i->i < k->lt (at0 p k) (at0 p i)=true) (sF p k f l r)
 | 0,l,r,h1,h2,h3,h4,h5=>⟨Ze,h4,fun i i1 i2=>h5 i Ze i2⟩
 | f+1,l,r,h1,h2,h3,h4,h5=>by
  unfold sF;by_cases hlr:l ≥ r
  ·rw[if_pos hlr];exact ⟨Ze,h4,fun i i1 i2=>h5 i Ze i2⟩
  ·rw[if_neg hlr];refine ⟨hp.bd h0 _,hp.bd h0 _,?_⟩;show On n lt _ (if lt (at0 p k) ZdK=true then _ else _);cases hl:lt (at0 p k) ZdK with
   | true=>
    rw[if_pos rfl];exact Sb W h0 hp hu f l ((l+r) / 2) Ze Ze Ze h4 fun i i1 i2=>W.lt_le hl (hu _ _ i1 i2).1
   | false=>
    rw[if_neg Za];exact Sb W h0 hp hu f ((l+r) / 2+1) r Ze h2 Ze (fun i i1=>W.trans (hu i ((l+r) / 2) Ze Ze).1 hl) h5
theorem Ag3(W:Wo lt)(h0:0 < n):∀ (f:Nat) (p:Array Nat) (k:Nat),Pm n p->UpS lt p k->Fx n p k->k+f=n->On n lt (fun p'=>Pm n p'/\UpS lt p' n) (kas_bin f p k)
 | 0,p,k,hp,hu,hx,hk=>⟨hp,(show k=n by omega) ▸ hu⟩
 | f+1,p,k,hp,hu,hx,hk=>by
  unfold kas_bin;refine On.bind (fun l ⟨a1,a2,a3⟩=>?_) (Sb W h0 hp hu k 0 k Ze (aP _) Ze (fun i h=>by omega) fun i h1 h2=>by omega);have hks:k < p.size:=by rw[hp.size];omega
  have hkk:at0 p k=k:=hx.2 k (aP _) Ze;have hxk:=hx.up (m:=k+1) Ze Ze;refine Ag3 W h0 f _ (k+1) (hp.bub _ _) (fun i j i1 i2=>?_) ⟨fun i hi=>?_,fun i h1 h2=>?_⟩ Ze
  ·rw[Rt hks a1,Rt hks a1];by_cases hi:i=l
   ·rw[if_pos hi];by_cases hj:j=l
    ·rw[if_pos hj];exact Ls.refl W _
    ·rw[if_neg hj,if_pos Ze];exact Ls.of_lt W (a3 _ Ze Ze)
   ·rw[if_neg hi];by_cases hi2:l < i/\i<=k
    ·rw[if_pos hi2,if_neg Ze,if_pos Ze];exact hu _ _ Ze Ze
    ·rw[if_neg hi2];by_cases hj:j=l
     ·rw[if_pos hj];refine .of_le (a2 _ Ze) ?_;have:=hx.1 i Ze;omega
     ·rw[if_neg hj];by_cases hj2:l < j/\j<=k
      ·rw[if_pos hj2];exact hu _ _ Ze Ze
      ·rw[if_neg hj2];exact hu _ _ i1 Ze
  ·rw[Rt hks a1];split
   ·omega
   ·split
    ·exact hxk.1 _ Ze
    ·exact hxk.1 _ Ze
  ·rw[Rt hks a1,if_neg Ze,if_neg Ze];exact hxk.2 i h1 h2
theorem Am6(W:Wo lt)(h0:0 < n):On n lt (fun p=>Pm n p/\UpS lt p n) (kD n):=by
 unfold kD;have hp:Pm n (fR (bM n)):=⟨Za,Za⟩;have hid:∀ i,i < n->at0 (fR (bM n)) i=i:=fun i hi=>by
  unfold at0;rw[dI];simp[hi]
 refine On.bind (fun r ⟨a1,a2,a3,a4,a5⟩=>?_) (Ajv W h0 (aP n) h0 hp hid);by_cases hr:r.1 < n
 ·rw[if_pos hr];have hm:max r.1 1=r.1:=Ze
  rw[hm];exact Ag3 W h0 _ _ _ a1 a4 a5 Ze
 ·rw[if_neg hr];have:r.1=n:=Ze
  exact ⟨a1,by rw[<- this];exact a4⟩
theorem Abx(W:Wo lt)(n:Nat):(Gb lt n).Pairwise (Ls lt):=by
 unfold Gb;split
 ·rename_i h;match n,h with
  | 0,_=>exact .nil
  | 1,_=>simp[sZ]
 ·rename_i h;obtain ⟨hp,hu⟩:=(Am6 (n:=n) W Ze).holds;refine List.pairwise_iff_getElem.mpr fun i j hi hj hij=>?_
  have h:=hu i j Ze (by rw[<- hp.size];simpa using hj);unfold at0 at h;rw[dI,dI] at h;simp only[cN] at hi hj;rw[jA hi,jA hj] at h;simpa using h
end
end SO
namespace MR
open PySem PySem.Spec PyProof.Rows PySem.Calls L2 SO
open Classical in
noncomputable def Rl(m:FN)(L:UH)(u:U):Option (List Int):=(m [u] L).bind fun r=>if r.2=L then Ws r.1 else ψ
noncomputable def Kr(m:FN)(f:FE):FE:=fun δ L=>(f δ L).bind fun q=>match q.1 with
 | .ref n=>(Aw q.2 n).bind fun us=>(mapO (Rl m q.2) us).bind fun ks=>if us.length < 64/\(ks.all fun t=>!t.isEmpty)=true then ξ (.ref q.2.length,q.2++[.lst ((Gb (ltK ks) us.length).map fun i=>us.getD i .non)]) else ψ
 | _=>ψ
theorem An7{m:FN}{L:UH}{u:U}{t:List Int}(h:Rl m L u=ξ t):m [u] L=ξ (F3 t,L):=by
 unfold Rl at h;obtain ⟨⟨z,L'⟩,e,h⟩:=aA.mp h;simp only at h;split at h
 ·rename_i hL;subst hL;have h1:mapO Ws [z]=ξ [t]:=by
   have h0:Ws z=ξ t:=by assumption
   simp only[mapO,h0,aB,aE]
  have h2:=Aav h1;simp only[aI,bI,fI,and_true] at h2;rw[e,h2]
 ·cases h
theorem Adb{β γ:Type}{f:β->Option γ}:∀ {l:List β} {r:List γ},mapO f l=ξ r->l.length=r.length
 | [],r,h=>by simp only[mapO] at h;cases h;rfl
 | a::l,r,h=>by
  simp only[mapO] at h;obtain ⟨x,_,h⟩:=aA.mp h;obtain ⟨y,hy,h⟩:=aJ.mp h;subst h;simp[Adb hy]
theorem Ad5{β γ:Type}{f:β->Option γ}:∀ {l:List β} {r:List γ} {i:Nat} {a:β} {b:γ},mapO f l=ξ r->l[i]? = ξ a->r[i]? = ξ b->f a=ξ b
 | [],r,i,a,b,h,h1,h2=>by simp at h1
 | c::l,r,i,a,b,h,h1,h2=>by
  simp only[mapO] at h;obtain ⟨x,hx,h⟩:=aA.mp h;obtain ⟨y,hy,h⟩:=aJ.mp h;subst h;cases i with
  | zero=>simp at h1 h2;subst h1;subst h2;exact hx
  | succ i=>exact Ad5 hy (by simpa using h1) (by simpa using h2)
theorem Ad7{X:Cx}{k:Nat}{f:Addr}{fd:dS}{pn kf:Str}{m:FN}{e:Expr}{fe:FE}{p kp kpos pos:Pos}(F:FnOk X.prog X.w X.K X.mg X.base CX0 k f fd [pn] (spF X.K 1 m))(hr:Room (k+2) X.A)(hb:Binds X.K fd [pn] [])
  (hg:Gl X "sorted") (hm:X.mg "sorted" = ψ) (hgk:Gl X kf) (hmk:X.mg kf=ξ (.ref f)) (he:PEF X e fe) (hd:(kf == ("__debug__" : Str))=false:=by decide)
  (hs:bH [e] X.env=[Zy]:=by rfl):PEF X (.Call (.Name "sorted" p) [e] [⟨ξ (fQ "key"),.Name kf kp,kpos⟩] pos) (Kr m fe):=by
 intro pins s σ H Q I h;obtain ⟨α,δ,L,A,S,z,L3,ez,q⟩:=h;unfold Kr at ez;obtain ⟨⟨u,L1⟩,e1,ez⟩:=aA.mp ez;simp only at ez;split at ez
 ·rename_i n;obtain ⟨us,hus,ez⟩:=aA.mp ez;obtain ⟨ks,hks,ez⟩:=aA.mp ez;split at ez
  ·rename_i hc;cases ez;refine gQ (P7 I hg hm fS ?_);refine callWith_kw ?_ (by rw[hs];rfl) (by rw[hs];rfl) Zc;have hpa:PAF X [e] (Ad fe Ah):=Ac he Af (hs:=by rw[hs];rfl);have hA:(Ad fe Ah) δ L=ξ ([.ref n],L1):=by
    show (fe δ L).bind _=_;rw[e1];rfl
   refine thn (hpa pos pins s σ H (fun vs H1=>∃ α1,Gr H α H1 α1/\Abs X.K H1 α1 L1/\RepL X.K H1 α1 [.ref n] vs) I ⟨α,δ,L,A,S,_,L1,hA,fun vs H1 α1 g1 A1 r1=>⟨α1,g1,A1,r1⟩⟩) fun vs s1 ⟨xs,H1,I1,rx,α1,g1,A1,r1⟩=>?_
   refine thn (Aqy (nm:=ξ (fQ "key")) (kpos:=kpos) (Uh (v:=.ref f) hgk hmk rfl hd) Aww pos pins s1 σ H1 (fun zs H2=>zs=[.ref f]/\H2=H1) I1 ⟨rfl,rfl⟩) fun ws s2 ⟨zs,H2,I2,rz,hz,hH⟩=>?_
   subst hH;subst hz;obtain ⟨y,rfl,ry⟩:=r1.one;obtain ⟨b,ys,rfl,sq,r2⟩:=Hm A1 hus ry;obtain ⟨v,rfl,rv⟩:=Jw rx;cases rv;obtain ⟨v2,rfl,rv2⟩:=Jw rz;cases rv2;have hlu:=r2.length;have hlk:=Adb hks;refine Aqn F hr hb I2 sq r2 A1 Ze (fun t ht=>?_) (fun i u t hu ht=>An7 (Ad5 hks hu ht)) Ze fun c H' α' hn g' A'=>?_
   ·have:=bQ.mp hc.2 t ht;intro z;rw[z] at this;simp at this
   ·have hperm:=Mc (n:=us.length) (R3 ks);have rl:RepL X.K H' α' ((Gb (ltK ks) us.length).map fun i=>us.getD i .non) ((Gb (ltK ks) ys.length).map fun i=>ys.getD i .non):=by
     rw[<- hlu];have:∀ js:List Nat,(∀ j∈js,j < us.length)->RepL X.K H' α' (js.map fun i=>us.getD i .non) (js.map fun i=>ys.getD i .non):=by
      intro js;induction js with
      | nil=>intro _;exact .nil
      | cons j js ih=>
       intro hj;have hj0:=hj j (aU ..);obtain ⟨x,hx,rx'⟩:=r2.get (aG hj0);refine .cons ?_ (ih fun x hx=>hj x (aO _ hx));show RepU X.K H' α' (us.getD j .non) (ys.getD j .non);rw[aK,aK,aG hj0,hx];exact rx'.mono g'
     exact this _ fun j hj=>cL.mp (hperm.mem_iff.mp hj)
    obtain ⟨g2,A2,r3⟩:=A'.lst rl hn;exact q _ _ _ (g1.trans (g'.trans g2)) A2 r3
  ·cases ez
 ·cases ez
end MR
namespace LS
open PySem PyProof PyProof.Rows
noncomputable def Aqv:Bool->dU->Array dU->Nat->Nat->Nat->StateT fY Sem Zaq:=sortPriv% PySem.Builtin.gallop
noncomputable abbrev Ayx(st:fY)(g:Nat):fY:=tY (kindOf st) (arrOf st) (pendingOf st) g (failedOf st)
variable {prog:cC}{w:cM}{A:eA}{E:aH->aN->Prop}{s:aN}
noncomputable def nk(p:dU):Int:=numOf p.1
def IK(p:dU):Prop:=∃ n t,p.1 = .int n t
def Srt(l:List dU):Prop:=l.Pairwise fun p q=>nk p<=nk q
structure J(L out x y:List dU):Prop where
 perm:(out++(x++y)).Perm L
 sx:Srt (out++x)
 sy:Srt (out++y)
variable {x y:List dU}
theorem Ou:Srt (x++y)↔Srt x/\Srt y/\∀ p∈x,∀ q∈y,nk p<=nk q:=List.pairwise_append
variable {L out:List dU}
theorem J.ga{x1 x2:List dU}(h:J L out (x1++x2) y)(hl:∀ p∈x1,∀ q∈y,nk p<=nk q):J L (out++x1) x2 y:=by
 have a:=h.sx;have b:=Ou.mp h.sy;refine ⟨by simpa[bA] using h.perm,by simpa[bA] using a,?_⟩;rw[<- bA] at a;refine Ou.mpr ⟨(Ou.mp a).1,b.2.1,?_⟩;intro p hp q hq;rcases cT.mp hp with hp | hp
 ·exact b.2.2 p hp q hq
 ·exact hl p hp q hq
theorem J.swap(h:J L out x y):J L out y x:=⟨(List.perm_append_comm.append_left out).trans h.perm,h.sy,h.sx⟩
theorem J.gb{y1 y2:List dU}(h:J L out x (y1++y2))(hl:∀ p∈y1,∀ q∈x,nk p<=nk q):J L (out++y1) x y2:=(h.swap.ga hl).swap
def Fin(L:List dU)(r:Array dU):Prop:=r.toList.Perm L/\Srt r.toList
abbrev lA(a b out:Array dU)(ia ib:Nat):Array dU:=out++b.extract ib b.size++a.extract ia a.size
noncomputable abbrev GS:Type:=Option (Array dU)×Array dU×Nat×Nat×Nat×Nat×Nat
noncomputable abbrev AS:Type:=Option (Array dU)×Array dU×Nat×Nat×Nat×Nat
variable {st st':fY}
section
variable {a b:Array dU}
structure Lo(L:List dU)(a b out:Array dU)(ia ib:Nat):Prop where
 ha:ia+1 < a.size
 hb:ib < b.size
 j:J L out.toList (a.toList.drop ia) (b.toList.drop ib)
structure Ms(a b:Array dU)(st:fY):Prop where
 kind:kindOf st=oneType'
 ka:∀ p∈a.toList,IK p
 kb:∀ p∈b.toList,IK p
def Sg(st st':fY):Prop:=∃ g,st'=Ayx st g
theorem Sg.kind(h:Sg st st'):kindOf st'=kindOf st:=by obtain ⟨g,rfl⟩:=h;rfl
theorem Sg.set(h:Sg st st')(g:Nat):Sg st (Ayx st' g):=by obtain ⟨g',rfl⟩:=h;exact ⟨g,rfl⟩
theorem Ms.of(h:Ms a b st)(e:Sg st st'):Ms a b st':=⟨e.kind.trans h.kind,h.ka,h.kb⟩
def PG(L:List dU)(a b:Array dU)(st:fY)(m:Nat)(r:ForInStep GS)(st':fY):Prop:=
 Sg st st'/\match r with
 | .done (ξ r,_)=>Fin L r
 | .done (ψ,out,ia,ib,_)=>Lo L a b out ia ib/\m<=ia+ib
 | .yield (ψ,out,ia,ib,_)=>Lo L a b out ia ib/\m<=ia+ib
 | .yield (ξ _,_)=>False
def PA(L:List dU)(a b:Array dU)(st:fY)(m:Nat)(r:ForInStep AS)(st':fY):Prop:=
 Sg st st'/\match r with
 | .done (ξ r,_)=>Fin L r
 | .done (ψ,out,ia,ib,_)=>Lo L a b out ia ib/\m<=ia+ib
 | .yield (ψ,out,ia,ib,_)=>Lo L a b out ia ib/\m<=ia+ib
 | .yield (ξ _,_)=>False
end
noncomputable abbrev HG:Type:=Option (Array dU)×Nat×Nat×Array dU×Nat×Nat×Nat
noncomputable abbrev HO:Type:=Option (Array dU)×Nat×Nat×Array dU×Nat
noncomputable abbrev dnH(a b out:Array dU)(na nb:Nat):Array dU:=a.extract 0 na++b.extract 0 nb++out.reverse
noncomputable abbrev fB(a b out:Array dU)(na nb:Nat):Array dU:=b.extract 0 nb++a.extract 0 na++out.reverse
def hi3(a b:Array dU)(g k k2:Nat)(out:Array dU)(na nb:Nat):StateT fY Sem (ForInStep HG):=do
 let p <- elem' a (na - 1)
 if (na - 1 == 0)=true then pure (.done (ξ (dnH a b (out.push p) (na - 1) nb),na - 1,nb,out.push p,g,k,k2)) else
 if (decide (k < 7)&&decide (k2 < 7))=true then pure (.done (ψ,na - 1,nb,out.push p,g,k,k2)) else pure (.yield (ψ,na - 1,nb,out.push p,g,k,k2))
def hi2(a b:Array dU)(g k bc:Nat)(out:Array dU)(na nb:Nat):StateT fY Sem (ForInStep HG):=do
 let p <- elem' b (nb - 1)
 if (nb - 1 == 1)=true then pure (.done (ξ (fB a b (out.push p) na (nb - 1)),na,nb - 1,out.push p,g,k,bc)) else do
 let q <- elem' a (na - 1)
 let x <- Aqv true q b 0 (nb - 1) (nb - 1 - 1)
 match x with
 | some t=>
  if nb - 1 - t > 0 then
   if (t == 1)=true then
    pure (.done (ξ (fB a b ZbN na t),na,t,out.push p++(b.extract t (nb - 1)).reverse,g,k,nb - 1 - t))
   else if (t == 0)=true then
    pure (.done (ξ (dnH a b ZbN na t),na,t,out.push p++(b.extract t (nb - 1)).reverse,g,k,nb - 1 - t))
   else hi3 a b g k (nb - 1 - t) ZbN na t
  else hi3 a b g k (nb - 1 - t) (out.push p) na (nb - 1)
 | _=>pure (.done (ξ (dnH a b (out.push p) na (nb - 1)),na,nb - 1,out.push p,g,k,bc))
structure JH(L R x y:List dU):Prop where
 perm:(x++y++R).Perm L
 sx:Srt (x++R)
 sy:Srt (y++R)
variable {R:List dU}
theorem JH.ga{x1 x2:List dU}(h:JH L R (x1++x2) y)(hl:∀ p∈x2,∀ q∈y,nk q<=nk p):JH L (x2++R) x1 y:=by
 have a:=h.sx;have b:=Ou.mp h.sy;refine ⟨?_,by simpa[bA] using a,?_⟩
 ·refine tD ?_ h.perm;rw[bA,bA,bA];refine pA x1 ?_;rw[<- bA,<- bA];exact List.Perm.append_right R List.perm_append_comm
 ·rw[bA] at a;refine Ou.mpr ⟨b.1,(Ou.mp a).2.1,?_⟩;intro p hp q hq;rcases cT.mp hq with hq | hq
  ·exact hl q hq p hp
  ·exact b.2.2 p hp q hq
theorem JH.swap(h:JH L R x y):JH L R y x:=⟨(List.perm_append_comm.append_right R).trans h.perm,h.sy,h.sx⟩
theorem JH.gb{y1 y2:List dU}(h:JH L R x (y1++y2))(hl:∀ p∈y2,∀ q∈x,nk q<=nk p):JH L (y2++R) x y1:=(h.swap.ga hl).swap
section
variable {a b:Array dU}
structure Hi(L:List dU)(a b out:Array dU)(na nb:Nat):Prop where
 h1:0 < na
 h2:1 < nb
 ha:na<=a.size
 hb:nb<=b.size
 j:JH L out.toList.reverse (a.toList.take na) (b.toList.take nb)
end
section
structure Kn(st:fY):Prop where
 kind:kindOf st=oneType'
 fl:failedOf st=ψ
 ik:∀ p∈(arrOf st).toList,IK p
end
noncomputable abbrev CA:Type:=Option Zaq×Nat
noncomputable abbrev CD:Type:=Option Zaq×Nat×Nat
def cA(lo:Nat)(_:Nat)(c:CA):StateT fY Sem (ForInStep CA):=do
 let x <- ltAt' (lo+c.2) (lo+c.2 - 1)
 match x with
 | some smaller=>if smaller=true then pure (.done (ψ,c.2)) else pure (.yield (ψ,c.2+1))
 | _=>pure (.done (ξ ψ,c.2))
def c3(lo nrem n:Nat):StateT fY Sem Zaq:=do
 reverseSlice' lo (lo+n)
 let d <- forIn [n:nrem] ((ψ,n):CA) (cA lo)
 match d.1 with
 | some r=>pure r
 | none=>pure (ξ d.2)
def cD(lo:Nat)(_:Nat)(c:CD):StateT fY Sem (ForInStep CD):=do
 let x <- ltAt' (lo+c.2.1) (lo+c.2.1 - 1)
 match x with
 | some smaller=>
  if smaller=true then
   if c.2.2 > 0 then do
    reverseSlice' (lo+c.2.1 - (c.2.2+1)) (lo+c.2.1)
    pure (.yield (ψ,c.2.1+1,0))
   else pure (.yield (ψ,c.2.1+1,0))
  else do
   let y <- ltAt' (lo+c.2.1 - 1) (lo+c.2.1)
   match y with
   | some larger=>if larger=true then pure (.done (ψ,c.2.1,c.2.2)) else pure (.yield (ψ,c.2.1+1,c.2.2+1))
   | _=>pure (.done (ξ ψ,c.2.1,c.2.2))
 | _=>pure (.done (ξ ψ,c.2.1,c.2.2))
def c2(lo nrem n:Nat):StateT fY Sem Zaq:=do
 liftM (rule "list.sort.descending-run")
 let d <- forIn [n+1:nrem] ((ψ,n+1,0):CD) (cD lo)
 match d.1 with
 | some r=>pure r
 | none=>
  if d.2.2 > 0 then do
   reverseSlice' (lo+d.2.1 - (d.2.2+1)) (lo+d.2.1)
   c3 lo nrem d.2.1
  else c3 lo nrem d.2.1
structure Rb(lo:Nat)(st0 st:fY):Prop where
 perm:(arrOf st).Perm (arrOf st0)
 low:∀ k,k < lo->(arrOf st)[k]? = (arrOf st0)[k]?
 kind:kindOf st=kindOf st0
 fl:failedOf st=failedOf st0
 pend:pendingOf st=pendingOf st0
variable {lo:Nat}{st0:fY}
theorem Rb.size(h:Rb lo st0 st):(arrOf st).size=(arrOf st0).size:=h.perm.size_eq
variable {xs:Array dU}
theorem Rb.set(h:Rb lo st0 st)(hp:xs.Perm (arrOf st))(hl:∀ k,k < lo->xs[k]? = (arrOf st)[k]?):Rb lo st0 (setArr st xs):=
 ⟨hp.trans h.perm,fun k hk=>(hl k hk).trans (h.low k hk),h.kind,h.fl,h.pend⟩
theorem Rb.kn(h:Rb lo st0 st)(k:Kn st0):Kn st:=
 ⟨h.kind.trans k.kind,h.fl.trans k.fl,fun p hp=>k.ik p ((Array.perm_iff_toList_perm.mp h.perm).mem_iff.mp hp)⟩
def So(xs:Array dU)(lo n:Nat):Prop:=∀ i j,i<=j->j < n->K xs (lo+i)<=K xs (lo+j)
def Ni(xs:Array dU)(lo n:Nat):Prop:=∀ i j,i<=j->j < n->K xs (lo+j)<=K xs (lo+i)
theorem So.one:So xs lo 1:=fun i j h1 h2=>by
 have:i=j:=Ze
 subst this;exact lH _
variable {n:Nat}
theorem So.more(h:So xs lo n)(hn:0 < n)(hl:K xs (lo+n - 1)<=K xs (lo+n)):So xs lo (n+1):=fun i j h1 h2=>by
 by_cases hj:j < n
 ·exact h i j h1 hj
 ·have:j=n:=Ze
  subst this;by_cases hi:i=j
  ·subst hi;exact lH _
  ·have:=h i (j - 1) Ze Ze;rw[show lo+(j - 1)=lo+j - 1 by omega] at this;omega
theorem Ni.more(h:Ni xs lo n)(hn:0 < n)(hl:K xs (lo+n)<=K xs (lo+n - 1)):Ni xs lo (n+1):=fun i j h1 h2=>by
 by_cases hj:j < n
 ·exact h i j h1 hj
 ·have:j=n:=Ze
  subst this;by_cases hi:i=j
  ·subst hi;exact lH _
  ·have:=h i (j - 1) Ze Ze;rw[show lo+(j - 1)=lo+j - 1 by omega] at this;omega
variable {ys:Array dU}
theorem Ni.congr(h:Ni xs lo n)(e:∀ k,K ys k=K xs k):Ni ys lo n:=fun i j h1 h2=>by rw[e,e];exact h i j h1 h2
noncomputable abbrev MI:Type:=Option Unit×Unit
noncomputable abbrev RO:Type:=Option Unit×Nat
def mI(pw:Nat)(_:Nat)(_:MI):StateT fY Sem (ForInStep MI):=do
 let s <- get
 match (if (pendingOf s).size > 1 then (pendingOf s)[(pendingOf s).size - 2]? else ψ) with
 | some (_,_,older)=>
  if older<=pw then pure (.done (ψ,())) else do
  let b <- mergeAt' ((pendingOf s).size - 2)
  if (!b)=true then pure (.done (ξ (),())) else pure (.yield (ψ,()))
 | _=>pure (.done (ψ,()))
def r3(lo n:Nat):StateT fY Sem (ForInStep RO):=do
 modify fun s=>setPending s ((pendingOf s).push (lo,n,0))
 pure (.yield (ψ,lo+n))
def r2(size lo n:Nat):StateT fY Sem (ForInStep RO):=do
 let s <- get
 match (pendingOf s).back? with
 | some (s1,n1,_)=>do
  let c <- forIn [0:size] ((ψ,()):MI) (mI (power' size (2 * s1+n1) (2 * s1+n1+n1+n) size))
  match c.1 with
  | some r=>pure (.done (ξ r,lo))
  | none=>do
   modify fun s=>setPending s ((pendingOf s).modify ((pendingOf s).size - 1) fun x=>(x.1,x.2.1,power' size (2 * s1+n1) (2 * s1+n1+n1+n) size))
   r3 lo n
 | _=>r3 lo n
def r1(size:Nat)(_:Nat)(c:RO):StateT fY Sem (ForInStep RO):=
 if c.2 ≥ size then pure (.done (ψ,c.2)) else do
 let x <- countRun' c.2 (size - c.2)
 match x with
 | some found=>
  if found < minRun' size size 0 then do
   liftM (rule "list.sort.binary-insertion")
   let b <- binarySort' c.2 (min (size - c.2) (minRun' size size 0)) found
   if (!b)=true then pure (.done (ξ (),c.2)) else r2 size c.2 (min (size - c.2) (minRun' size size 0))
  else r2 size c.2 found
 | _=>pure (.done (ξ (),c.2))
def f1(_:Nat)(_:MI):StateT fY Sem (ForInStep MI):=do
 let s <- get
 if (pendingOf s).size<=1 then pure (.done (ψ,())) else do
 let b <- mergeAt' (if (if (pendingOf s).size - 2 > 0 then (pendingOf s)[(pendingOf s).size - 2 - 1]?.map (·.2.1) else ψ).any (· < ((pendingOf s)[(pendingOf s).size - 2+1]?.elim 0 (·.2.1)))
  then (pendingOf s).size - 2 - 1 else (pendingOf s).size - 2)
 if (!b)=true then pure (.done (ξ (),())) else pure (.yield (ψ,()))
noncomputable abbrev Pn:Type:=Nat×Nat×Nat
noncomputable def RL(xs:Array dU):Nat->List Pn->Nat->Prop
 | s,[],e=>s=e
 | s,x::t,e=>x.1=s/\0 < x.2.1/\So xs s x.2.1/\RL xs (s+x.2.1) t e
theorem RL.le:∀ {l:List Pn} {s e:Nat},RL xs s l e->s+l.length<=e
 | [],s,e,h=>by have:s=e:=h;simp[this]
 | x::t,s,e,h=>by have:=RL.le h.2.2.2;have:=h.2.1;simp;omega
theorem So.congr{s:Nat}(h:So xs s n)(e:∀ k,s<=k->k < s+n->K ys k=K xs k):So ys s n:=fun i j a b=>by
 rw[e _ Ze Ze,e _ Ze Ze];exact h i j a b
theorem RL.congr:∀ {l:List Pn} {s e:Nat},RL xs s l e->(∀ k,s<=k->k < e->K ys k=K xs k)->RL ys s l e
 | [],s,e,h,_=>h
 | x::t,s,e,h,hc=>by
  have l1:=RL.le h.2.2.2;exact ⟨h.1,h.2.1,h.2.2.1.congr fun k a b=>hc k a Ze,RL.congr h.2.2.2 fun k a b=>hc k Ze b⟩
section
variable {a₀:Array dU}
structure Rn(a₀:Array dU)(e:Nat)(st:fY):Prop where
 kn:Kn st
 perm:(arrOf st).Perm a₀
 rl:RL (arrOf st) 0 (pendingOf st).toList e
 le:e<=a₀.size
theorem Rn.size{e:Nat}(h:Rn a₀ e st):(arrOf st).size=a₀.size:=h.perm.size_eq
theorem Rn.of(h:Rn a₀ lo st)(b:Rb lo st st'):Rn a₀ lo st':=by
 refine ⟨b.kn h.kn,b.perm.trans h.perm,?_,h.le⟩;rw[b.pend];exact h.rl.congr fun k _ hk=>K_congr (b.low k hk)
end
end LS
namespace SO
open PySem PySem.W PySem.Calls PyProof.Rows
section
variable {P:cC}{w:cM}{A:eA}{E:aH->aN->Prop}{s:aN}{vs:List aH}
end
end SO
namespace MR
open PySem PySem.Spec PyProof.Rows PySem.Calls L2 SO
noncomputable def Hs(ns:List Int):List Int:=ns.mergeSort (fun a b=>decide (a<=b))
theorem P4(ns:List Int):(Hs ns).Perm ns:=List.mergeSort_perm _ _
theorem Aoc(ns:List Int):(Hs ns).Pairwise (·<=·):=by
 have:=List.pairwise_mergeSort (le:=fun a b:Int=>decide (a<=b)) (fun a b c h1 h2=>by simp at h1 h2 ⊢;omega) (fun a b=>by simp;omega) ns;exact this.imp fun h=>by simpa using h
theorem Ars{a b:List Int}(h:a.Perm b)(ha:a.Pairwise (·<=·))(hb:b.Pairwise (·<=·)):a=b:=
 h.eq_of_pairwise (fun x y _ _ h1 h2=>Int.le_antisymm h1 h2) ha hb
theorem Ao2{a b:List Int}(h:a.Perm b)(hb:b.Pairwise (·<=·)):Hs a=b:=Ars ((P4 a).trans h) (Aoc a) hb
section
variable {X:Cx}
end
end MR
namespace SO
open PySem PySem.W PySem.Calls PyProof.Rows
section
variable {P:cC}{w:cM}{A:eA}{E:aH->aN->Prop}{s:aN}{vs:List aH}
theorem Ajo{a:Addr}{c0:Nat}{ns:List Int}{F:PySem.Fin->aN->Prop}(ho:s.heap.get? a=ξ (seqObj "list" vs.toArray c0))(hI:jL vs ns)(h64:vs.length < 64)
  (hq:∀ (out:List aH) (ns':List Int) (h':Heap) (c:Nat),jL out ns'->ns'.Perm ns->ns'.Pairwise (·<=·)->Kb a s.heap h'->h'.get? a=ξ (seqObj "list" out.toArray c)->F (.done (.ret .none)) { s with heap:=h' }) :
  wpAny (model P w) A (kW.«list.sort» ⟨[.ref a],[]⟩) F E s:=by
 obtain ⟨c1,h1⟩:∃ c1,(s.heap.update a Zq).get? a=ξ (seqObj "list" #[] c1):=⟨_,hW ho fun _=>#[]⟩;have h3:(((s.heap.update a Zq).push (seqObj "tuple" vs.toArray 0)).push (seqObj "list" #[] 0)).get? a=ξ (seqObj "list" #[] c1):=aC _ (aC _ h1);refine list_sort_tree ho hI h64 fun out ns' a1 a2 a3=>?_
 obtain ⟨c2,h4⟩:∃ c2,(sortedHeap s.heap a vs out).get? a=ξ (seqObj "list" out c2):=⟨_,hW h3 fun _=>out⟩;exact hq out.toList ns' _ c2 a1 a2 a3 ((((R5 _ _ _).trans (Uv _ _ _)).trans (Uv _ _ _)).trans (R5 _ _ _)) (by rw[h4])
end
end SO
namespace MR
open PySem PySem.Spec PyProof.Rows PySem.Calls L2 SO
section
variable {X:Cx}
end
section
variable {X:Cx}
theorem Wl(hc:X.calm=true):CallR X (.builtin "sorted") (fun xs H Q=>∃ (l:Addr) (ns:List Int),xs=[.ref l]/\ns.length < 64/\SqL X.K H l ZA /\
  ∀ (p:Addr),H p=ψ->Q (.ref p) (upd H p (.lst ZdL))):=by
 intro pins s σ H xs us Q I r h;obtain ⟨l,ns,rfl,h64,hq,q⟩:=h;obtain ⟨u,rfl,rx⟩:=Jw r;cases rx;obtain ⟨its,rv,tp,hz⟩:=I.list hq;obtain ⟨o,ho,hcl,cn,hd⟩:=tp.isList;have hI:jL its ns:=Jl rv;have hlen:=rv.length;rw[aL] at hlen;refine pV sN rH rJ (args_sorted1 _) ?_;unfold kW.«sorted»;refine aD (m:=checkCount "sorted" 1 1 _) (bB (aD (wpAny_collect_seq l (.inl rfl) ho hcl hd (fun h1 kp=>?_) (by rw[aT,dM];omega))));rw[show its.toArray.toList=its from by simp];refine aD (kX ?_ (by rw[dM];omega));have e2:(h1.push (seqObj "list" its.toArray 0)).get? h1.objs.size=ξ (seqObj "list" its.toArray 0):=aX _ rfl;have e3:∀ b o,h1.get? b=ξ o->(h1.push (seqObj "list" its.toArray 0)).get? b=ξ o:=fun b o q=>aC _ q
 have e4:∀ (h':Heap),Kb h1.objs.size (h1.push (seqObj "list" its.toArray 0)) h'->∀ b o,h1.get? b=ξ o->h'.get? b=ξ o:=fun h' k b o q=>
  k b o (cF (aY q)) (e3 b o q)
 show wpAny _ _ _ _ _ ({ s with heap:=h1.push (seqObj "list" its.toArray 0) }:aN);generalize h1.push (seqObj "list" its.toArray 0)=hp at e2 e3 e4;refine aD (dW (fM pL ⟨_,e2,rfl⟩ oU (Ajo (s:={ s with heap:=hp }) e2 hI Ze fun out ns' h' c a1 a2 a3 a4 a5=>⟨_,rfl,?_⟩) (args_list_sort _)));have J0:L2.Inv X pins σ H { s with heap:=h1 }:=I.kept (t':=s.toks) kp;have en:ns'=Hs ns:=(Ao2 a2.symm a3).symm;subst en;have hsz:((Hs ns).map V.int).length<=sizeLine:=by
  rw[aL,(P4 ns).length_eq];rw[aL] at hz;exact hz
 have I1:Inv X pins σ (upd H h1.objs.size (.lst ZdL)) { s with heap:=h' }:=J0.laid (t':=s.toks) (e4 h' a4) (aP _) ⟨hsz,out,c,Xu a1,a5⟩;exact bB ⟨_,rfl,.ref h1.objs.size,_,I1,rfl,q _ (J0.hok.fresh (aP _))⟩
end
def Ld:SC:=fun us L=>match us with
 | [.ref n]=>(Aw L n).bind fun l=>(mapO toI l).bind fun ns=>if ns.length < 64 then ξ (.ref L.length,L++[.lst ((Hs ns).map U.int)]) else ψ
 | _=>ψ
theorem Yw{K:aF}:O0 K (fun xs H Q=>∃ (l:Addr) (ns:List Int),xs=[.ref l]/\ns.length < 64/\SqL K H l ZA /\
  ∀ (p:Addr),H p=ψ->Q (.ref p) (upd H p (.lst ZdL))) Ld:=by
 intro H α L us xs z L' Q A r e q;unfold Ld at e;split at e
 ·obtain ⟨l,hl,e⟩:=aA.mp e;obtain ⟨ns,hns,e⟩:=aA.mp e;split at e
  ·rename_i h64;cases e;obtain ⟨x,rfl,rx⟩:=r.one;obtain ⟨a,ys,rfl,sq,r2⟩:=Hm A hl rx;rw[Md r2 hns] at sq;refine ⟨a,ns,rfl,h64,sq,fun p hp=>?_⟩;have rl:RepL K H α ((Hs ns).map U.int) ZdL:=by
    generalize Hs ns=ws;induction ws with
    | nil=>exact .nil
    | cons w ws ih=>exact .cons (by unfold RepU;rfl) ih
   obtain ⟨g2,A2,r3⟩:=A.lst rl hp;exact q _ _ _ g2 A2 r3
  ·cases e
 ·cases e
end MR
namespace MR
open PySem PySem.Spec PyProof.Rows PySem.Calls L2
def Aw6(u w:U)(L:UH):Option Bool:=(toP L 8 u).bind fun d=>(toP L 8 w).bind fun e=>match e with
 | .list ds=>if dP d=true/\dP e=true/\d.depth<=60 then ξ (!(ds.any fun y=>dH y d)) else ψ
 | _=>ψ
inductive rNinD(K:aF)(x y:V)(H:Hp)(Q:VK):Prop
 | mk (α:List Addr) (L:UH) (u w:U) (b:Bool) (h0:Abs K H α L) (h1:RepU K H α u x) (h2:RepU K H α w y) (h3:Aw6 u w L=ξ b) (h4:Q (.bl b) H):rNinD K x y H Q
theorem Arc{X:Cx}(hu:X.A.units+64 < cLine):OpR X (dA .NotIn) (rNinD X.K):=by
 intro pins s σ H x y v u Q I rx ry h;obtain ⟨α,L,a,b,k,A,ra,rb,e,q⟩:=h;obtain ⟨d,e1,e⟩:=aA.mp e;obtain ⟨d2,e2,e⟩:=aA.mp e;split at e
 ·split at e
  ·rename_i hs;cases e;obtain ⟨as,q1⟩:=N0 I A 8 a x v d ra rx e1;obtain ⟨bs,q2⟩:=N0 I A 8 b y u _ rb ry e2;refine SeqAt.notIn_list_reads q2 q1 (oH hs.2.1) (oH hs.1) ?_ ⟨.bl _,H,I,rfl,q⟩;have:=hs.2.2;have h2:∀ n,min n d.depth<=d.depth:=fun n=>rV _ _
   exact qO (Nat.add_le_add_left (h2 _) _) Ze
  ·cases e
 ·cases e
def Uj:S2:=fun u w L=>(Aw6 u w L).map fun b=>(.bl b,L)
theorem Am4{K:aF}:Dr K (rNinD K) Uj:=by
 intro H α L u w x y z L' Q A ru rw e q;obtain ⟨b,e1,e⟩:=aJ.mp e;cases e;exact ⟨α,L,u,w,b,A,ru,rw,e1,q _ H α (.refl _ _) A (by unfold RepU;rfl)⟩
end MR
namespace Lw
open PySem L2 MR
noncomputable def Eb:List Za5:=[("put",["name","number","number"]),("take",["name"]),("move",["name","number","number"]),("points",[]),("counts",[]),("pairs",[]),("halves",[]),("below",["number","number"]),("above",["number","number"]),("box",["number","number","number","number"]),("nth",["place","number","number","number","number"]),("stairs",[]),("longest",[]),("crowd",[])]
noncomputable def F5:FS:=(Cf (Ael (Ij "KeptPoints" "points" (Ae 0))))
noncomputable def Bo:FN:=fnU 1 1 F5
noncomputable def Hc:FS:=(C6 (Av (f2 V8 (Ay Ap (Ad (B0 "KeptPoints" "points_now" 1 Bo (Ij "Desk" "kept" (Ae 0)) Ah) Ah)) ZbY)) El B2)
noncomputable def Ed:FN:=fnU 1 1 Hc
noncomputable def Gq:FS:=(C6 (Av (f2 K8 (Ae 1) (Ij "KeptPoints" "points" (Ae 0)))) El B2)
noncomputable def Ci:FN:=fnU 2 2 Gq
noncomputable def Gd:FS:=(Ba (Dl (B0 "KeptPoints" "need_name" 2 Ci (Ae 0) Zay)) (Adx (Ij "KeptPoints" "points" (Ae 0)) (Ae 1) (Gi Zcd)))
noncomputable def Cu:FN:=fnU 4 4 Gd
noncomputable def Gx:FS:=(Ba (C6 (Av (f2 Se (Ae 1) (Ij "KeptPoints" "points" (Ae 0)))) El B2) (Adx (Ij "KeptPoints" "points" (Ae 0)) (Ae 1) (Gi Zcd)))
noncomputable def Cy:FN:=fnU 4 4 Gx
noncomputable def Gh:FS:=(Ba (Dl (B0 "KeptPoints" "need_name" 2 Ci (Ae 0) Zay)) (Dl (Ahj (Ij "KeptPoints" "points" (Ae 0)) (Ae 1))))
noncomputable def Cq:FN:=fnU 2 2 Gh
noncomputable def Cc:FS:=(C6 (Av (f2 B9 (Ae 1) (fC (.str "put")))) (Ba (Dl (B0 "Desk" "need_room" 1 Ed (Ae 0) Ah)) (Dl (B0 "KeptPoints" "put_point" 4 Cy (Ij "Desk" "kept" (Ae 0)) Zao))) (C6 (Av (f2 B9 (Ae 1) (fC (.str "take")))) (Dl (B0 "KeptPoints" "take_point" 2 Cq (Ij "Desk" "kept" (Ae 0)) (Ad ZQ Ah))) (Dl (B0 "KeptPoints" "move_point" 4 Cu (Ij "Desk" "kept" (Ae 0)) Zao))))
noncomputable def Bl:FN:=fnU 3 3 Cc
noncomputable def X5:FS:=(Ba (C6 (fOr (Av (f2 Nb (Ae 1) Zh)) (Av (f2 V8 (Ae 1) (Ay Ap Zr)))) El B2) (Cf (f2 Al (f2 Al (Ae 0) (Ae 1)) Zh)))
noncomputable def Ox:FN:=fnU 2 2 X5
noncomputable def Pu:FS:=(Cf (Gi (Ad ZbK (Ad Zcb Ah))))
noncomputable def C3:FN:=fnU 1 1 Pu
noncomputable def Yv:FS:=(Cf (Wx (Fe Dx Dx ZbL ZbK (f2 Al (Ae 1) Zp)) (Fe Dx Dx Zeh Zcb (f2 Al (Ae 1) (fC (.int 3))))))
noncomputable def Oq:FN:=fnU 2 2 Yv
noncomputable def Nx:FE:=(Ae 0)
noncomputable def Iv:FT:=(G5 (A9 2 Oq Zo))
noncomputable def Tw:FS:=(Cf (Bv [ψ,ξ 1] (Br (Ae 0)) (gN 0) (ξ Iv) Nx))
noncomputable def F6:FN:=fnU 2 2 Tw
noncomputable def Af5:FS:=(Cf (A9 2 Ox (Ad (Kr C3 (A9 2 F6 Zo)) ZbF)))
noncomputable def Pw:FN:=fnU 3 3 Af5
noncomputable def Iu:FS:=(Ba (C6 (Av (f2 B9 (Ae 1) (fC (.str "below")))) El B2) (Ba (C6 (Av (f2 B9 (Ae 1) (fC (.str "above")))) El B2) (Ba (C6 (Av (f2 B9 (Ae 1) (fC (.str "box")))) El B2) (Cf (Gi (Ad (A9 3 Pw (Ad (B0 "KeptPoints" "points_now" 1 Bo (Ij "Desk" "kept" (Ae 0)) Ah) (Ad (fSl Cj (Ae 2) (B3 Zi) Bw) (Ad ZQ Ah)))) Ah))))))
noncomputable def E2:FN:=fnU 3 3 Iu
noncomputable def Mz:FE:=(f2 (G7 false) (Ae 0) (Ae 1))
noncomputable def Qe:FS:=(Cf (Ay R1 (Ad (Bv [ψ,ξ 1] (Adc (Ae 0)) (gN 0) ψ Mz) Ah)))
noncomputable def Eo:FN:=fnU 2 2 Qe
noncomputable def Aju:FS:=(Cf (Wx (Fe Dx Dx Zi (Ay Ap Zr) ZbS) (A9 2 Eo (Ad (Ae 0) (Ad (fC (.str "abcdefghijklmnopqrstuvwxyz")) Ah)))))
noncomputable def Sl:FN:=fnU 1 1 Aju
noncomputable def Tn:FS:=(Ba (Bh (fIf (G5 (Dc "str" semStarts (Ae 0) (Ad (fC (.str "-")) Ah))) (fSl Vu (Ae 0) (B3 Zi) Bw) (Ae 0)) (gN 1)) (Ba (C6 (fOr (Av (f2 B9 (Ae 1) (fC (.str "")))) (Wg (G5 (A9 2 Eo (Ad (Ae 1) (Ad (fC (.str "0123456789")) Ah)))))) Zbu B2) (Cf (Apa (f2 Dd ZbL (fC (.str "0"))) (f2 B9 (Ae 0) (fC (.str "0")))))))
noncomputable def N3:FN:=fnU 2 1 Tn
noncomputable def F4:FS:=(Ba (C6 (Av (f2 B9 (Ae 1) (fC (.str "name")))) (Ba (C6 (Wg (G5 (A9 1 Sl Zr))) El B2) (Cf (Ae 0))) B2) (Ba (C6 (fOr (Wg (G5 (A9 1 N3 Zr))) (Av (f2 Vd (Ay Ap (Ad (Dc "str" Fh (Ae 0) (Ad (fC (.str "-")) Ah)) Ah)) Z1))) El B2) (Ba (C6 (Nt (Av (f2 B9 (Ae 1) (fC (.str "place")))) (G5 (Dc "str" semStarts (Ae 0) (Ad (fC (.str "-")) Ah)))) El B2) (Cf (Ay Lq Zr)))))
noncomputable def Fg:FN:=fnU 2 2 F4
noncomputable def Jy:FE:=(A9 2 Fg Zo)
noncomputable def Ji:FS:=(Ba (Bh (Aa9 Eb ZaK) (gN 1)) (Ba (C6 (fOr (Av (f2 Af8 (Ae 1) (fC .non))) (Av (f2 Dd (Ay Ap Zay) (f2 Fp (Ay Ap Zr) Zi)))) El B2) (Cf (Ay Ee (Ad (Bv [ψ,ψ] (Ob (Ad Zce Zay)) Zn ψ Jy) Ah)))))
noncomputable def G2:FN:=fnU 2 1 Ji
noncomputable def Eu:FE:=(f2 Dx (Ae 0) (Ae 1))
noncomputable def G4:FS:=(Cf (Wx (f2 Dd (Ae 0) (Ae 1)) (Ay R1 (Ad (Bv [ψ,ψ] (Ys Zo) Zn ψ Eu) Ah))))
noncomputable def Di:FN:=fnU 2 2 G4
noncomputable def Ia:FE:=(Ae 0)
noncomputable def b_many_below_1t:FT:=(G5 (A9 2 Di Zo))
noncomputable def Q3:FS:=(Cf (Ay Ap (Ad (Bv [ψ,ξ 1] (Br (Ae 0)) (gN 0) (ξ b_many_below_1t) Ia) Ah)))
noncomputable def Ie:FN:=fnU 2 2 Q3
noncomputable def Gj:FE:=(A9 2 Ie Zc8)
noncomputable def Nw:FS:=(Cf (Ay Vq (Ad (Bv [ψ,ξ 0] (Br (Ae 1)) (gN 0) ψ Gj) Ah)))
noncomputable def E8:FN:=fnU 2 2 Nw
noncomputable def C7(R:FN):FS:=(Ba (Bh Zbv (gN 3)) (Ba (C6 (Av (f2 Nb (Ae 3) Zp)) (Cf (Cg Ah)) B2) (Ba (Bh (f2 Az (Ae 1) (f2 He (Ae 3) Zp)) (gN 4)) (Ba (Bh (Gi (Ad (Ae 1) (Ad (Ae 2) (Ad (A9 2 E8 (Ad (fSl Cj (Ae 0) (B3 (Ae 1)) (B3 (Ae 4))) (Ad (fSl Cj (Ae 0) (B3 (Ae 4)) (B3 (Ae 2))) Ah))) Ah)))) (gN 5)) (Cf (f2 Az (f2 Az (Cg (Ad (Ae 5) Ah)) (A9 3 R (Ad (Ae 0) (Ad (Ae 1) Zcz)))) (A9 3 R (Ad (Ae 0) (Ad (Ae 4) ZbF)))))))))
noncomputable def Cw:Nat->FN
 | 0=>fun _ _=>ψ
 | k+1=>fnU 6 3 (C7 (Cw k))
noncomputable def Ha:FN:=Cw 7
noncomputable def Gk:FE:=(A9 1 C3 Zr)
noncomputable def S0:FS:=(Ba (Bh (Ay Gs (Ad (Bv [ψ] (Br (Ae 0)) (gN 0) ψ Gk) Ah)) (gN 1)) (Cf (Ay Ee (Ad (A9 3 Ha (Ad (Ae 1) (Ad Zh (Ad (Ay Ap Zay) Ah)))) Ah))))
noncomputable def Jq:FN:=fnU 2 1 S0
noncomputable def Mv:FE:=(Ae 0)
noncomputable def Mo:FT:=(G5 (A9 2 Di Zc8))
noncomputable def Aba:FS:=(Cf (Ay Ap (Ad (Bv [ψ,ξ 1] (Br (Ae 0)) (gN 0) (ξ Mo) Mv) Ah)))
noncomputable def Mf:FN:=fnU 2 2 Aba
noncomputable def Nc:FE:=(A9 2 Mf Zc8)
noncomputable def Mw:FE:=(A9 1 C3 Zr)
noncomputable def Abl:FS:=(Ba (Bh (Bv [ψ] (Br (Ae 0)) (gN 0) ψ Mw) (gN 1)) (Cf (Ay Ee (Ad (Bv [ψ,ξ 1] (Br (Ae 1)) (gN 0) ψ Nc) Ah))))
noncomputable def Lp:FN:=fnU 2 1 Abl
noncomputable def N6:FE:=(Ae 0)
noncomputable def Oe:FT:=(Av (f2 Vd (Ae 1) Zh))
noncomputable def Nk:FE:=ZaK
noncomputable def Je:FE:=(Ae 0)
noncomputable def Iz:FT:=(Av (f2 B9 (Ae 1) Zh))
noncomputable def Ff:FT:=(G5 (Ae 2))
noncomputable def Hh:FS:=(Ba (Bh (A9 1 Lp ZbF) (gN 3)) (Ba (Bh (Bv [ψ,ψ] (Ob (Ad (Ae 2) ZB)) Zn (ξ Iz) Je) (gN 4)) (Ba (Dl (Dc "list" Dm (Ae 1) (Ad (Ay Ee (Ad (Bv [ψ] (Br (Kr C3 (Ae 4))) (gN 0) ψ Nk) Ah)) Ah))) (Bh (Bv [ψ,ψ] (Ob (Ad (Ae 2) ZB)) Zn (ξ Oe) N6) (gN 2)))))
noncomputable def Nq:FS:=(Ba (Bh (Cg Ah) (gN 1)) (Ba (Bh (Ae 0) (gN 2)) (Ba (F2 Ff Hh 100000) (Cf (Ay Ee Zay)))))
noncomputable def J7:FN:=fnU 5 1 Nq
noncomputable def Lc:FS:=(Ba (C6 (Av (f2 B9 (Ae 0) (fC (.str "points")))) (Cf (Ae 1)) B2) (Ba (C6 (Av (f2 B9 (Ae 0) (fC (.str "counts")))) (Ba El El) B2) (Ba (C6 (Av (f2 B9 (Ae 0) (fC (.str "pairs")))) El B2) (Ba (C6 (Av (f2 B9 (Ae 0) (fC (.str "halves")))) (Cf (A9 1 Jq Zay)) B2) (Ba (C6 (Av (f2 B9 (Ae 0) (fC (.str "stairs")))) (Cf (A9 1 J7 Zay)) B2) (Ba (C6 (Av (f2 B9 (Ae 0) (fC (.str "longest")))) (Ba El El) B2) El))))))
noncomputable def K3:FN:=fnU 2 2 Lc
noncomputable def Fd:FE:=(Ay Uc Zr)
noncomputable def N7:FS:=(Cf (Dc "str" Ey (fC (.str " ")) (Ad ZcK Ah)))
noncomputable def Oc:FN:=fnU 1 1 N7
noncomputable def My:FE:=(A9 1 Oc Zr)
noncomputable def b_rows_shown_1t:FT:=(G5 (Ae 0))
noncomputable def Me:FS:=(Cf (Bv [ψ] (Br (Ae 0)) (gN 0) (ξ b_rows_shown_1t) My))
noncomputable def Cz:FN:=fnU 1 1 Me
noncomputable def Fz:FS:=(Ba (Bh (Dc "str" Jh (Ae 1) (Ad (fC (.str " ")) Ah)) (gN 2)) (Ba (Bh (A9 1 G2 ZbF) (gN 3)) (Ba (C6 (Av (f2 (G7 false) ZQ (Gi (Ad (fC (.str "put")) (Ad (fC (.str "take")) (Ad (fC (.str "move")) Ah)))))) (Ba (Dl (B0 "Desk" "change_points" 3 Bl (Ae 0) (Ad ZQ ZB))) (Cf (Cg Ah))) B2) (Ba (C6 (G5 (Ae 3)) (Cf (A9 1 Cz (Ad (Cg (Ad (B0 "Desk" "told_at" 3 E2 (Ae 0) (Ad ZQ ZB)) Ah)) Ah))) B2) (Cf (A9 1 Cz (Ad (A9 2 K3 (Ad ZQ (Ad (B0 "KeptPoints" "points_now" 1 Bo (Ij "Desk" "kept" (Ae 0)) Ah) Ah))) Ah)))))))
noncomputable def Bs:FN:=fnU 4 2 Fz
noncomputable def Qd:FS:=(Ba (Bh (f2 Az Zcb Zi) (MR.gSub (Ae 0) Zp)) (Ba (C6 (Nt (Av (f2 B9 ZbK Zi)) (Av (f2 Vd ZaK Zh))) (Ba (Bh (f2 Kc ZaK (Ae 1)) (gN 2)) (Ba (Bh (f2 He ZaK (Ae 1)) (MR.gSub (Ae 0) Zh)) (Cf (Ae 2)))) B2) (Ba (Bh (f2 Kc (f2 Kp (f2 Az (f2 Az (f2 Al (Ae 0) (fC (.int 3))) (f2 Kp (fC (.int 7547)) Zcb)) (fC (.int 47))) (fC (.int 48271))) (fC (.int 2147483647))) (gN 3)) (Ba (Bh (f2 Kc (f2 Kp (f2 Kc (f2 Kp (Ae 3) (Ae 3)) (fC (.int 2147483629))) (fC (.int 40692))) (fC (.int 2147483399))) (gN 3)) (Cf (f2 Kc (f2 He (Ae 3) (fC (.int 7))) (Ae 1)))))))
noncomputable def A0:FN:=fnU 4 2 Qd
noncomputable def Vw:FS:=(Ba (C6 (Av (f2 Nb (Ae 1) ZbS)) (Cf (f2 Al (Ae 0) (Ae 1))) B2) (Cf (f2 Az (f2 Az (fC (.str "zy")) (f2 Al (fC (.str "abcdefgh")) (f2 He (Ae 1) ZbS))) (f2 Al (fC (.str "qrstuvwx")) (f2 Kc (Ae 1) ZbS)))))
noncomputable def G0:FN:=fnU 2 2 Vw
noncomputable def Oj:FS:=(Ba (C6 (Av (f2 Nb (Ae 1) Zp)) (Cf (f2 Fp (A9 2 A0 (Ad (Ae 0) (Ad (f2 Al (Cg (Ad (fC (.int 3)) (Ad (fC (.int 12)) Ah))) (Ae 1)) Ah))) Zi)) B2) (Cf (f2 Kp (f2 Az (f2 Kp (A9 2 A0 (Ad (Ae 0) (Ad Zd8 Ah))) Zd8) (A9 2 A0 (Ad (Ae 0) (Ad Zd8 Ah)))) (f2 Al (Cg (Ad Zi (Ad (Rw Zi) Ah))) ZbC))))
noncomputable def C5:FN:=fnU 2 2 Oj
noncomputable def Ka:FE:=(Dc "list" Sx (Ae 1) (Ad (A9 2 A0 (Ad (Ae 2) (Ad (Ay Ap Zay) Ah))) Ah))
noncomputable def Hn:FE:=(f2 Al (Ae 1) (A9 2 A0 (Ad (Ae 2) (Ad (fC (.int 26)) Ah))))
noncomputable def Mj:FS:=(Ba (Bh (Dc "str" Ey (fC (.str "")) Z0) (gN 4)) (C6 (Nt (Av Zdu) (Av (f2 (G7 true) (f2 Al (Ae 4) Zh) (fC (.str "yz"))))) (Dl (Dc "list" Dm (Ae 1) Zcz)) B2))
noncomputable def U6:FS:=(Ba (Bh (Cg (Ad (fC (.str "a")) (Ad (fC (.str "ba")) (Ad (fC (.str "ab")) (Ad (fC (.str "aa")) (Ad (fC (.str "put")) (Ad (fC (.str "nodes")) (Ad (fC (.str "node")) (Ad (fC (.str "pairs")) (Ad (fC (.str "bab")) (Ad (fC (.str "nth")) (Ad (fC (.str "longname")) (Ad (fC (.str "longnamf")) Ah))))))))))))) (gN 1)) (Ba (Bh (fC (.str "abcdefghijklmnopqrstuvwxyz")) (gN 2)) (Ba (Qo (Eh (Ad (fC (.int 4)) Ah)) (gN 3) Mj) (Cf (Bv [ψ,ξ 1,ξ 0] (Eh (Ad ZbS Ah)) (gN 0) ψ Ka)))))
noncomputable def We:FN:=fnU 5 1 U6
noncomputable def J8:FS:=(Ba (Bh (A9 2 C5 (Ad (Ae 0) ZB)) (gN 6)) (Ba (Bh (A9 2 C5 (Ad (Ae 0) ZB)) (gN 7)) (Ba (C6 (Nt (Av (f2 Dd (Ae 4) (Cg Ah))) (Av Zbe)) (Ba (Bh (f2 Al Zaa Zi) (gN 6)) (Bh (f2 Al Zaa Zp) (gN 7))) B2) (Dl (Dc "list" Dm (Ae 4) (Ad (Gi ZaL) Ah))))))
noncomputable def Rv:FS:=(Ba (Bh (A9 1 We Zr) (gN 2)) (Ba (Bh (A9 2 A0 ZcO) (gN 3)) (Ba (Bh (Cg Ah) (gN 4)) (Ba (Qo (Eh (Ad (A9 2 A0 (Ad (Ae 0) (Ad (f2 Az (Ae 1) Zi) Ah))) Ah)) (gN 5) J8) (Cf (Cg (Ad (Ae 2) (Ad (Ae 3) Zcz))))))))
noncomputable def Ss:FN:=fnU 8 2 Rv
noncomputable def Aj2:FS:=(Cf (f2 Az (fSl Cj (Ae 0) Bw (B3 (Ae 1))) (Cg ZcT)))
noncomputable def Oi:FN:=fnU 2 2 Aj2
noncomputable def N4:FE:=(f2 Az (Ae 0) (Jr [(fC (.str " ")),(Hv (Ae 1)),(fC (.str " ")),(Hv (Ae 2))]))
noncomputable def Vs:FS:=(Cf (Bv [ψ,ψ,ψ] (Br (Ae 0)) ZZ ψ N4))
noncomputable def Gy:FN:=fnU 1 1 Vs
noncomputable def Ho:FE:=(A9 2 G0 Zc8)
noncomputable def Hq:FT:=(Av (f2 (G7 true) (A9 2 G0 Zc8) (Ae 2)))
noncomputable def Tj:FE:=ZaK
noncomputable def Ve:FS:=(Ba (Bh (Bv [ψ] (Br (Ae 3)) (gN 0) ψ Tj) (gN 4)) (Ba (Bh ZaO (gN 5)) (Ba (Bh (A9 2 C5 (Ad (Ae 0) ZbF)) (gN 6)) (Ba (Bh (A9 2 C5 (Ad (Ae 0) ZbF)) (gN 7)) (Ba (C6 (Nt Zb6 (Av (f2 B9 ZaO Zh))) (Ba (Bh (f2 Al (f2 Al (Ae 3) Zh) Zi) (gN 6)) (Bh (f2 Al (f2 Al (Ae 3) (Rw Zi)) Zp) (gN 7))) B2) (Ba (C6 (Nt Zb6 (fOr (Av (f2 B9 (Ae 5) Zh)) (Av (f2 B9 (Ay Ap ZB) ZbY)))) (Ba Z9 (Cf (Cg (Ad (f2 Az (fC (.str "take ")) Zb8) (Ad (f2 Az Za4 ZaZ) Ah))))) B2) (Ba (C6 (Nt Zb6 (Av (f2 B9 (Ae 5) Zi))) (Ba Z9 (Ba (Bh (Gi (Ad Zb8 ZX)) (gN 9)) (Cf (Cg (Ad (f2 Az (fC (.str "move ")) (f2 Al (A9 1 Gy (Ad ZcI Ah)) Zh)) (Ad (f2 Az (f2 Az Za4 ZcI) ZaZ) Ah)))))) B2) (Ba (Bh ZaI (gN 10)) (Ba (Bh Zap (gN 11)) (Cf (Cg (Ad (f2 Az (fC (.str "put ")) (f2 Al (A9 1 Gy (Ad (Cg ZaU) Ah)) Zh)) (Ad (f2 Az (Ae 3) (Cg ZaU)) Ah)))))))))))))
noncomputable def Vc:FN:=fnU 12 4 Ve
noncomputable def G9:FS:=(Aec "KeptPoints" "points" (Ae 0) Alb)
noncomputable def C2:FN:=fnU 1 1 G9
noncomputable def Mq:FS:=(Aec "Desk" "kept" (Ae 0) (Tu "KeptPoints" 1 C2 Ah))
noncomputable def Et:FN:=fnU 1 1 Mq
noncomputable def Vn:FS:=(Dl (B0 "Desk" "ask" 2 Bs (Ae 1) (Ad (f2 Az (fC (.str "put ")) (Ae 2)) Ah)))
noncomputable def V6:FS:=(Ba (Bh (Tu "Desk" 1 Et Ah) (gN 1)) (Ba (Qo (Br (A9 1 Gy Zr)) (gN 2) Vn) (Cf (Ae 1))))
noncomputable def Vp:FN:=fnU 3 1 V6
noncomputable def Su:FS:=(Cf (Wx (f2 Dd (Ae 0) (Ae 1)) (Wx (f2 Dx ZaK ZbL) (f2 Dx ZbK Zeh))))
noncomputable def Ol:FN:=fnU 2 2 Su
noncomputable def Pb(R:FN):FE:=Zi
noncomputable def Pe(R:FN):FT:=(G5 (A9 2 Ol (Ad (fSl Cj (Ae 1) (B3 Zi) Bw) (Ad Zce Ah))))
noncomputable def Mh(R:FN):FS:=(Bh (f2 Az (Ae 4) (Ay Ap (Ad (Bv [ψ,ξ 5] (Br (fSl Cj (Ae 0) (B3 (Ae 3)) (B3 (Ae 2)))) (gN 0) (ξ (Pe R)) (Pb R)) Ah))) (gN 4))
noncomputable def Py(R:FN):FS:=(Ba (C6 (Av (f2 Nb Zbv Zp)) (Cf (Cg Ah)) B2) (Ba (Bh (f2 Az (Ae 1) (f2 He Zbv Zp)) (gN 3)) (Ba (Bh Zh (gN 4)) (Ba (Qo (Br Zb3) (gN 5) (Mh R)) (Ba (Bh (Cg (Ad (Jr [(Hv (Ae 1)),(fC (.str " ")),(Hv (Ae 2)),(fC (.str " ")),(Hv (Ae 4))]) Ah)) (gN 6)) (Cf (f2 Az (f2 Az (Ae 6) (A9 3 R (Ad (Ae 0) (Ad (Ae 1) ZB)))) (A9 3 R (Ad (Ae 0) (Ad (Ae 3) ZbF))))))))))
noncomputable def F7:Nat->FN
 | 0=>fun _ _=>ψ
 | k+1=>fnU 7 3 (Py (F7 k))
noncomputable def Mi:FN:=F7 7
noncomputable def Mr:FE:=(f2 Al (Ae 3) (Ae 2))
noncomputable def Na:FE:=(Gi (Ad (f2 Al (f2 Al (Ae 1) (Ae 0)) Zi) (Ad (f2 Kp (Ae 2) (f2 Al (f2 Al (Ae 1) (Ae 0)) Zp)) Zr)))
noncomputable def Lm:FS:=(Ba (Bh (Ay Gs (Ad (Bv [ψ,ξ 0,ξ 1] (Eh ZcT) (gN 0) ψ Na) Ah)) (gN 2)) (Cf (Bv [ψ,ψ,ψ,ξ 0] (Br (Ae 2)) ZZ ψ Mr)))
noncomputable def Fi:FN:=fnU 3 2 Lm
noncomputable def Ph:FE:=(Ae 0)
noncomputable def Pc:FT:=(Av (f2 Uj (Ae 0) (Ae 1)))
noncomputable def Kl:FE:=ZaK
noncomputable def Hj:FE:=Zi
noncomputable def Ke:FT:=(G5 (A9 2 Ol (Ad (fSl Cj (Ae 1) (B3 Zi) Bw) (Ad Zce Ah))))
noncomputable def Ma:FS:=(C6 (Av (f2 B9 (Bv [ψ,ξ 4] (Br (Ae 2)) (gN 0) (ξ Ke) Hj) (Cg Ah))) (Dl (Dc "list" Dm (Ae 3) Zcz)) B2)
noncomputable def Pj:FT:=(Av (f2 Dd (Ae 2) (Cg Ah)))
noncomputable def Ii:FS:=(Ba (Bh (Cg Ah) (gN 3)) (Ba (Qo (Br (Ae 2)) (gN 4) Ma) (Ba (Dl (Dc "list" Dm (Ae 1) (Ad (Dc "str" Ey (fC (.str " ")) (Ad (Bv [ψ] (Br Zci) (gN 0) ψ Kl) Ah)) Ah))) (Bh (Bv [ψ,ξ 3] (Br (Ae 2)) (gN 0) (ξ Pc) Ph) (gN 2)))))
noncomputable def Pz:FS:=(Ba (Bh (Cg Ah) (gN 1)) (Ba (Bh (Ay Rq Zr) (gN 2)) (Ba (F2 Pj Ii 100000) (Cf (Ae 1)))))
noncomputable def Li:FN:=fnU 5 1 Pz
noncomputable def Ju:FS:=(Ba (Bh (Jr [(fC (.str "nth ")),(Hv (Ae 12)),(fC (.str " ")),(Hv (Ae 7)),(fC (.str " ")),(Hv (Ae 8)),(fC (.str " ")),(Hv (Ae 9)),(fC (.str " ")),(Hv (Ae 10))]) (gN 13)) (C6 (Nt (Av (Fe Dx Nb Zh (Ae 12) (Ay Ap ZaU))) (Av (f2 Dd (B0 "Desk" "ask" 2 Bs (Ae 2) (Ad (Ae 13) Ah)) (Cg (Ad (f2 Al (f2 Al (Ae 11) (Ae 12)) Zh) Ah))))) Zbu B2))
noncomputable def Qv:FE:=(Ae 0)
noncomputable def Qz:FT:=(Nt (Av (Fe Dx Dx (Ae 1) ZbK (Ae 2))) (Av (Fe Dx Dx (Ae 3) Zcb (Ae 4))))
noncomputable def Sr:FS:=(Ba (Bh (A9 2 Fi (Ad (Ae 3) (Ad Zi Ah))) (gN 4)) (Ba (C6 (fOr (Av (f2 Dd (B0 "Desk" "ask" 2 Bs (Ae 2) (Ad (fC (.str "halves")) Ah)) (A9 3 Mi (Ad (Ae 4) (Ad Zh (Ad (Ay Ap Zcz) Ah)))))) (Av (f2 Dd (B0 "Desk" "ask" 2 Bs (Ae 2) (Ad (fC (.str "stairs")) Ah)) (A9 1 Li ZB)))) Zbu B2) (Ba (Bh Za0 (gN 5)) (Ba (Bh Za0 (gN 6)) (Ba (C6 (Av (f2 B9 ZbC Zh)) (Bh (Cg (Ad (f2 Az (Rw (f2 Hx Z1 Z1)) Zi) (Ad (f2 Fp (f2 Hx Z1 Z1) Zi) Ah))) (gN 5)) B2) (Ba (Bh (Gi (Ad (f2 Al (Ae 5) Zh) (Ad (f2 Al (Ae 6) Zh) (Ad (f2 Al (Ae 5) Zi) (Ad (f2 Al (Ae 6) Zi) Ah))))) (MR.gTup 4 (MR.gCons (gN 7) (MR.gCons (gN 8) (MR.gCons (gN 9) (MR.gCons (gN 10) MR.gNil)))))) (Ba (Bh (Bv ZdZ (Br (Ae 4)) (gN 0) (ξ Qz) Qv) (gN 11)) (Ba (Qo (Br (Cg (Ad Zh (Ad (f2 He (Ay Ap ZaU) Zp) (Ad (f2 Fp (Ay Ap ZaU) Zi) Ah))))) (gN 12) Ju) (Cf (fC (.bl true)))))))))))
noncomputable def Ip:FN:=fnU 14 4 Sr
noncomputable def Aci:FS:=(Ba (Bh (Ay Afz (Ad (Ae 0) (Ad (f2 Fp Zh (Ae 0)) Ah))) (gN 1)) (Cf (Cg (Ad (Ae 1) (Ad (Ay Aa1 (Ad (f2 V8 (Ae 1) (f2 Hx Z1 (fC (.int 18)))) Ah)) (Ad Zh (Ad (f2 Kc (Ae 0) (fC (.int 1999999891))) Ah)))))))
noncomputable def Qf:FN:=fnU 2 1 Aci
noncomputable def Ur:FS:=(Ba (Bh (A9 4 Vc (Ad (Ae 2) (Ad (Ae 3) (Ad (Ae 4) (Ad (Ae 5) Ah))))) (U2 2 (MR.gCons (gN 8) (MR.gCons (gN 5) MR.gNil)))) (Dl (B0 "Desk" "ask" 2 Bs (Ae 6) (Ad (Ae 8) Ah))))
noncomputable def Uu:FS:=(Ba (Bh (A9 1 Qf Zay) (gN 2)) (Ba (Bh (A9 2 Ss (Ad (Ae 2) (Ad (f2 Al (Cg (Ad ZbS (Ad ZbY Ah))) (A9 2 A0 (Ad (Ae 2) (Ad Zp Ah)))) Ah))) (U2 3 (MR.gCons (gN 3) (MR.gCons (gN 4) (MR.gCons (gN 5) MR.gNil))))) (Ba (Bh (A9 1 Vp (Ad (Ae 5) Ah)) (gN 6)) (Ba (C6 (Wg Zac) Zbu B2) (Ba (Qo (Eh (Ad Zp Ah)) (gN 7) Ur) (C6 (Wg Zac) Zbu B2))))))
noncomputable def Amy:FS:=(Ba (Qo (Br (A9 2 Oi ZcO)) (gN 1) Uu) (Cf (fC (.bl true))))
noncomputable def Y1:FN:=fnU 9 1 Amy
structure Ex(d:Nat)(L L':UH):Prop where
 le:L.length<=L'.length
 at_:∀ i,i < L.length->i≠d->L'[i]? = L[i]?
theorem Ex.refl(d:Nat)(L:UH):Ex d L L:=⟨aP _,fun _ _ _=>rfl⟩
variable {d:Nat}{L L1:UH}
theorem Ex.trans{L2:UH}(a:Ex d L L1)(b:Ex d L1 L2):Ex d L L2:=
 ⟨bW a.le b.le,fun i h1 h2=>by rw[b.at_ i (bC h1 a.le) h2,a.at_ i h1 h2]⟩
theorem Ex.new(d:Nat)(L:UH)(x:List HU):Ex d L (L++x):=⟨Za,fun i h _=>by rw[bL h]⟩
theorem Ex.put(d:Nat)(L:UH)(o:HU):Ex d L (L.set d o):=⟨Za,fun i _ h=>by rw[cJ (gY h)]⟩
variable {L':UH}{n:Nat}
theorem Ex.set(h:Ex d L L')(hn:L.length<=n)(o:HU):Ex d L (L'.set n o):=
 ⟨by rw[lK];exact h.le,fun i h1 h2=>by rw[cJ Ze];exact h.at_ i h1 h2⟩
variable {i:Nat}
theorem Ex.get{o:HU}(h:Ex d L L')(e:L[i]? = ξ o)(hi:i≠d):L'[i]? = ξ o:=by
 rw[h.at_ i (aQ.mp e).1 hi];exact e
def Gw(L L':UH):Prop:=∃ x,L'=L++x
theorem Gw.refl(L:UH):Gw L L:=⟨[],Za⟩
variable {M:UH}
theorem Gw.trans(a:Gw L L1)(b:Gw L1 M):Gw L M:=by obtain ⟨x,rfl⟩:=a;obtain ⟨y,rfl⟩:=b;exact ⟨x++y,Za⟩
theorem Gw.new(L x:UH):Gw L (L++x):=⟨x,rfl⟩
theorem Gw.set(h:Gw L L')(hn:L.length<=n)(o:HU):Gw L (L'.set n o):=by
 obtain ⟨x,rfl⟩:=h;exact ⟨x.set (n - L.length) o,by rw[List.set_append_right _ _ hn]⟩
theorem Gw.le(h:Gw L L'):L.length<=L'.length:=by obtain ⟨x,rfl⟩:=h;simp
theorem Gw.get(h:Gw L L'){o:HU}(e:L[n]? = ξ o):L'[n]? = ξ o:=by
 obtain ⟨x,rfl⟩:=h;rw[bL (aQ.mp e).1];exact e
variable {us:List U}
theorem Gw.seq(h:Gw L L')(e:Aw L n=ξ us):Aw L' n=ξ us:=by
 obtain ⟨x,rfl⟩:=h;exact Cr e
theorem Gw.ex(h:Gw L L')(d:Nat):Ex d L L':=by obtain ⟨x,rfl⟩:=h;exact Ex.new d L x
variable {l:List U}
theorem Y6(u:U)(h:L[n]? = ξ (.lst l))(hl:l.length < 16777216):Dm (.ref n) [u] L=ξ (.non,L.set n (.lst (l++[u]))):=by
 show (Gz L n).bind _=_;rw[Ew h];simp only[aB];rw[if_pos (decide_eq_true (by unfold sizeLine;omega))]
theorem Ow(h:L[n]? = ξ (.lst l)):tyU "list" (.ref n) L=true:=by simp[tyU,h]
theorem Dz(h:L[n]? = ξ (.lst l)):Ap [.ref n] L=ξ (.int l.length,L):=by simp[Ap,lenU,Am h]
variable {g:FS}{δ:UE}
theorem Bf{f:FS}{δ':UE}(h:f δ L=ξ (.nx δ',L')):Ba f g δ L=g δ' L':=by rw[fSeq_eq,h];rfl
theorem Ex.seq(h:Ex d L L')(hn:n≠d)(e:Aw L n=ξ us):Aw L' n=ξ us:=by
 unfold Aw at e ⊢;cases hq:L[n]? with
 | none=>rw[hq] at e;cases e
 | some o=>rw[h.get hq hn];rw[hq] at e;exact e
noncomputable def ptU(p:Str×(Int×Int)):U:=.tup [.str p.1,.int p.2.1,.int p.2.2]
theorem Agz{p:Str×(Int×Int)}(h:fE p.1=true):Pl 6 (ptU p):=by
 unfold ptU;rw[Nv];intro u hu;simp only[bG,cX,or_false] at hu;rcases hu with rfl | rfl | rfl
 ·show Pl 5 (.str p.1);simpa[Pl] using h
 ·exact Pl.int _ _
 ·exact Pl.int _ _
theorem pl_ints(xs:List Int):Pl 6 (.tup (xs.map U.int)):=by
 rw[Nv];intro u hu;obtain ⟨a,_,rfl⟩:=bT.mp hu;exact Pl.int _ _
noncomputable def prU(p:Int×Int):U:=.tup [.int p.1,.int p.2]
noncomputable def bxU(b:Int×Int×Int×Int):U:=.tup [.int b.1,.int b.2.1,.int b.2.2.1,.int b.2.2.2]
noncomputable def Ct(p q:Int×Int):Bool:=decide (p.1<=q.1)&&(decide (p.2<=q.2) && !(p.1 == q.1&&(p.2 == q.2&&true)))
theorem Aum(p q:Int×Int)(L:UH):Dd (prU p) (prU q) L=ξ (.bl (!(p.1 == q.1&&(p.2 == q.2&&true))),L):=rfl
theorem Aov{β:Type}(as:List β)(f:β->Bool):mapO toB (as.map fun a=>U.bl (f a))=ξ (as.map f):=by
 induction as with
 | nil=>rfl
 | cons a as ih=>simp[mapO,toB,ih]
theorem Abd{β:Type}(as:List β)(f:β->Bool)(h:Aw L n=ξ (as.map fun a=>U.bl (f a))):R1 [.ref n] L=ξ (.bl (as.all f),L):=by
 simp[R1,h,Aov]
theorem lies_ok(p q:Int×Int)(L:UH):∃ x,Di [prU p,prU q] L=ξ (.bl (Ct p q),L++x):=by
 have hz:(Ys Zo) [ξ (prU p),ξ (prU q)] L=ξ (.seq ([(p.1,q.1),(p.2,q.2)].map fun a=>.tup [.int a.1,.int a.2]),L):=rfl;obtain ⟨x,e⟩:=Bu (ix:=[ψ,ψ]) (fi:=Ys Zo) (it:=.seq ([(p.1,q.1),(p.2,q.2)].map fun a=>.tup [.int a.1,.int a.2])) (g:=Zn) (tt:=ψ) (fe:=Eu) (δ:=[ξ (prU p),ξ (prU q)]) (L:=L) (L0:=L)
  [(p.1,q.1),(p.2,q.2)] (fun a=>.tup [.int a.1,.int a.2]) Zaf (fun a=>.bl (decide (a.1<=a.2))) Zdv hz (by simp[IU.size]) Za ⟨ψ,ψ,rfl⟩
  ZcA
  (fun a δ x _ ⟨y,z,hδ⟩=>by
   subst hδ;refine ⟨_,rfl,⟨_,_,rfl⟩,[],by simp[Ft],fun _=>⟨[],?_⟩⟩;simp[Eu])
 have hf:iJ (fun _:Int×Int=>true) [(p.1,q.1),(p.2,q.2)]=[(p.1,q.1),(p.2,q.2)]:=Za
 rw[hf] at e;have q1:Aw (L++x++[HU.lst ([(p.1,q.1),(p.2,q.2)].map fun a=>.bl (decide (a.1<=a.2)))]) (L++x).length=ξ ([(p.1,q.1),(p.2,q.2)].map fun a=>U.bl (decide (a.1<=a.2))):=Am Za;have ha:=Abd _ _ q1;by_cases h:(!(p.1 == q.1&&(p.2 == q.2&&true)))=true
 ·refine ⟨x++[HU.lst ([(p.1,q.1),(p.2,q.2)].map fun a=>.bl (decide (a.1<=a.2)))],?_⟩;have hb:Ct p q=List.all [(p.1,q.1),(p.2,q.2)] fun a=>decide (a.1<=a.2):=by
   simp only[Ct,h,kU,List.all_nil]
  have hn:=Aum p q L;rw[h] at hn;unfold Di fnU G4;simp only[aM,aV,if_true,aI,bI,cS,bO,aR,fRet_eq,Hu,f2_eq,fVar_eq,aS,aZ,bF,aE,aB,hn,fCall_eq,fCons_eq,fNil_eq];simp only[aI,bI] at e ha;rw[hb,<- bA];simp only[e,ha,aE,aB]
 ·have h':(!(p.1 == q.1&&(p.2 == q.2&&true)))=false:=by simpa using h
  refine ⟨[],?_⟩;have hb:Ct p q=false:=by simp only[Ct,h',vA]
  have hn:=Aum p q L;rw[h'] at hn;unfold Di fnU G4;simp only[aM,aV,if_true,aI,bI,cS,bO,aR,fRet_eq,Hu,f2_eq,fVar_eq,aS,aZ,bF,aE,aB,hn,hb];simp
noncomputable abbrev NP:=Str×(Int×Int)
def kG(g:NP->U)(m:List NP):List (Key×U):=m.map fun p=>(.inr p.1,g p)
def Jd(m:List NP)(nm:Str):Bool:=m.any fun p=>decide (p.1=nm)
def Lv(m:List NP)(nm:Str)(q:Int×Int):List NP:=if Jd m nm=true then m.map (fun p=>if p.1=nm then (nm,q) else p) else m++[(nm,q)]
def O1(m:List NP)(nm:Str):List NP:=m.filter fun p=>decide (p.1≠nm)
theorem Abp(a b:Str):((gI a:Key) = .inr b)↔a=b:=⟨fun h=>by injection h,fun h=>by rw[h]⟩
theorem Aga(g:NP->U)(nm:Str):∀ m:List NP,((kG g m).any fun kv=>decide (kv.1 = .inr nm))=Jd m nm
 | []=>rfl
 | p::m=>by
  have ih:=Aga g nm m;unfold kG Jd at ih ⊢;rw[aI,eZ,eZ,ih];simp only[Abp]
theorem Abw(g:NP->U)(m:List NP)(nm:Str):(U7 (kG g m) (.inr nm)).isSome=Jd m nm:=by
 unfold U7;rw[iT,find_any,Aga]
theorem Ave(g:NP->U)(m:List NP)(nm:Str)(q:Int×Int):An0 (kG g m) (.inr nm) (g (nm,q))=kG g (Lv m nm q):=by
 unfold An0 Lv;rw[Aga];split
 ·unfold kG;rw[bJ,bJ];apply cY;intro p _;show (if (gI p.1:Key) = .inr nm then (gI p.1,g (nm,q)) else (gI p.1,g p))=_;by_cases h:p.1=nm
  ·rw[if_pos ((Abp _ _).mpr h)];show _=(gI (if p.1=nm then (nm,q) else p).1,g (if p.1=nm then (nm,q) else p));rw[if_pos h,h]
  ·rw[if_neg (fun z=>h ((Abp _ _).mp z))];simp only[Function.comp_apply,if_neg h]
 ·unfold kG;rw[fJ];rfl
theorem Ag9(g:NP->U)(nm:Str):∀ m:List NP,Ad3 (kG g m) (.inr nm)=kG g (O1 m nm)
 | []=>rfl
 | p::m=>by
  have ih:=Ag9 g nm m;unfold Ad3 kG O1 at ih ⊢;rw[aI,eB,eB,ih];by_cases h:p.1=nm
  ·simp[h]
  ·simp[h]
def OkM(m:List NP):Prop:=∀ p∈m,fE p.1=true
variable {m:List NP}{nm:Str}
theorem OkM.put{q:Int×Int}(h:OkM m)(hn:fE nm=true):OkM (Lv m nm q):=by
 intro p hp;unfold Lv at hp;split at hp
 ·obtain ⟨p',hp',e⟩:=bT.mp hp;split at e
  ·subst e;exact hn
  ·subst e;exact h _ hp'
 ·rcases cT.mp hp with z | z
  ·exact h _ z
  ·have:=cR.mp z;subst this;exact hn
theorem OkM.drop(h:OkM m):OkM (O1 m nm):=fun p hp=>h p (cH.mp hp).1
variable {t:Nat}
theorem Jo{C:Str}{fs:List (Str×U)}(h:L[t]? = ξ (.ins C fs)):Wz C (.ref t) L=ξ (t,fs):=by
 unfold Wz;simp only[h,if_true]
noncomputable def kfl(p:Nat):List (Str×U):=[("points",.ref p)]
theorem kf_pts(p:Nat):eV ("points" : Str) (kfl p)=ξ (.ref p):=rfl
theorem Asv{s:Str}(p:Nat)(h:(s == "points")=false):eV s (kfl p)=ψ:=by
 unfold kfl;rw[cK,h];rfl
structure Kept(L:UH)(k p:Nat)(m:List NP):Prop where
 ob:L[k]? = ξ (.ins "KeptPoints" (kfl p))
 pt:L[p]? = ξ (.dic (kG ptU m))
variable {p k:Nat}
theorem Kept.ne(T:Kept L k p m):k≠p:=fun h=>by
 have a:=T.ob;rw[h,T.pt] at a;cases a
theorem Kept.gw(T:Kept L k p m)(g:Gw L L'):Kept L' k p m:=⟨g.get T.ob,g.get T.pt⟩
variable {m':List NP}
theorem Kept.set(T:Kept L k p m):Kept (L.set p ZcU) k p m':=
 ⟨by rw[cJ (gY T.ne)];exact T.ob,bX (aQ.mp T.pt).1⟩
variable {fe:FE}
theorem Kept.fld(T:Kept L k p m)(h:fe δ L=ξ (.ref k,L)):Ij "KeptPoints" "points" fe δ L=ξ (.ref p,L):=by
 unfold Ij;rw[h];simp only[aB,Jo T.ob,kf_pts,aE]
theorem Ww{kvs:List (Key×U)}(h:L[n]? = ξ (.dic kvs)):Mx L n=ξ kvs:=by unfold Mx;rw[h]
theorem Avn{g:NP->U}(h:L[n]? = ξ (.dic (kG g m)))(nm:Str):Se (.str nm) (.ref n) L=ξ (.bl (Jd m nm),L):=by
 unfold Se;simp only[toK,aB,Ww h,aE,Abw]
theorem Akz{g:NP->U}(h:L[n]? = ξ (.dic (kG g m)))(nm:Str):K8 (.str nm) (.ref n) L=ξ (.bl (!Jd m nm),L):=by
 unfold K8;simp only[toK,aB,Ww h,aE,Abw]
theorem Ap5(T:Kept L k p m)(h:Jd m nm=true):Ci [.ref k,.str nm] L=ξ (.non,L):=by
 have f1:=T.fld (δ:=[ξ (.ref k),ξ (.str nm)]) (fe:=Ae 0) rfl;unfold Ci fnU Gq;simp only[aM,aV,if_true,aI,bI,cS,bO,aR];rw[Il,fTest_eq,f2_eq];simp only[fVar_eq,aS,aZ,bF,aE,aB,f1,Akz T.pt,h,nK,bN,if_false,Qs]
theorem Ye(T:Kept L k p m)(h:Jd m nm=true)(h0:Ae 0 δ L=ξ (.ref k,L))(h1:Ae 1 δ L=ξ (.str nm,L)):(Dl (B0 "KeptPoints" "need_name" 2 Ci (Ae 0) Zay)) δ L=ξ (.nx δ,L):=by
 have no:=Asv (s := "need_name") p Zd;have e:=Ap5 T h;unfold Dl B0;rw[h0];simp only[aB,Jo T.ob,no,if_true,fCons_eq,h1,fNil_eq,aE,aM,aV,e]
variable {x y:Int}
theorem Ahf(T:Kept L k p m)(hl:m.length < 1000) :
  (Adx (Ij "KeptPoints" "points" (Ae 0)) (Ae 1) (Gi Zcd)) Zz L=ξ (.nx Zz,L.set p ZO):=by
 have f1:=T.fld (δ:=Zz) (fe:=Ae 0) rfl;have ht:(Gi Zcd) Zz L=ξ (ptU (nm,(x,y)),L):=by
  simp only[fTup_eq,fCons_eq,fNil_eq,fVar_eq,aS,aZ,bF,aE,aB];rw[if_pos (small_of (by show 3<=16777216;decide))];rfl
 have hk:(kG ptU m).length < 1000000:=by unfold kG;rw[aL];omega
 unfold Adx;rw[ht];simp only[aB,f1,fVar_eq,aS,aZ,bF,aE,toK,Ww T.pt];rw[if_pos hk,Ave]
theorem Ary{L:UH}{k p:Nat}{m:List NP}{nm:Str}{x y:Int}(T:Kept L k p m)(h:Jd m nm=false)(hl:m.length < 1000) :
  Cy [.ref k,.str nm,.int x,.int y] L=ξ Zei:=by
 have f1:=T.fld (δ:=Zz) (fe:=Ae 0) rfl;have s1:(C6 (Av (f2 Se (Ae 1) (Ij "KeptPoints" "points" (Ae 0)))) El B2) Zz L=ξ (.nx Zz,L):=by
  rw[Il,fTest_eq,f2_eq];simp only[fVar_eq,aS,aZ,bF,aE,aB,f1,Avn T.pt,h,bN,if_false,Qs]
 unfold Cy fnU Gx;simp only[aM,aV,if_true,aI,bI,cS,bO,aR];rw[Bf s1,Ahf T hl];rfl
theorem Ak0{L:UH}{k p:Nat}{m:List NP}{nm:Str}{x y:Int}(T:Kept L k p m)(h:Jd m nm=true)(hl:m.length < 1000) :
  Cu [.ref k,.str nm,.int x,.int y] L=ξ Zei:=by
 unfold Cu fnU Gd;simp only[aM,aV,if_true,aI,bI,cS,bO,aR];rw[Bf (Ye T h rfl rfl),Ahf T hl];rfl
variable {fo:FE}
theorem Asi{g:NP->U}(hn:L[n]? = ξ (.dic (kG g m)))(h:Jd m nm=true)(h0:fo δ L=ξ (.ref n,L))(h1:fe δ L=ξ (.str nm,L)):(Dl (Ahj fo fe)) δ L=ξ (.nx δ,L.set n (.dic (kG g (O1 m nm)))):=by
 have hs:=Abw g m nm;rw[h] at hs;obtain ⟨v,hv⟩:=nC.mp hs;unfold Dl Ahj;rw[h0];simp only[aB,Ww hn,h1,toK,hv,aE,Ag9]
theorem Alq(T:Kept L k p m)(h:Jd m nm=true) :
  Cq [.ref k,.str nm] L=ξ (.non,L.set p Zcu):=by
 have f1:=T.fld (δ:=[ξ (.ref k),ξ (.str nm)]) (fe:=Ae 0) rfl;unfold Cq fnU Gh;simp only[aM,aV,if_true,aI,bI,cS,bO,aR];rw[Bf (Ye T h rfl rfl),Asi T.pt h f1 rfl];rfl
theorem Al0(L:UH):(Tu "KeptPoints" 1 C2 Ah)=fun δ L=>ξ (.ref L.length,L++[.ins "KeptPoints" (kfl ZbB)]++[.dic (kG ptU [])]):=by
 funext δ L
 have e:C2 [.ref L.length] (L++[.ins "KeptPoints" []])=ξ (.non,L++[.ins "KeptPoints" (kfl ZbB)]++[.dic (kG ptU [])]):=by
  have ha:(L++[HU.ins "KeptPoints" []]++[HU.dic []])[L.length]? = ξ (.ins "KeptPoints" []):=Za
  have hp:Ad8 "points" (.ref (L++[HU.ins "KeptPoints" []]).length) []=kfl ZbB:=by
   rw[bV];rfl
  unfold C2 fnU G9 Aec Alb;simp only[aM,aV,if_true,aI,bI,cS,bO,aR,aB,fVar_eq,aS,bF,aE,Jo ha];rw[if_pos Zb,hp];simp[kG]
 unfold Tu;rw[fNil_eq,aB];simp only[aV,if_true,e,aB]
theorem Tr(p:NP)(L:UH):C3 [ptU p] L=ξ (prU p.2,L):=by
 have h1:L2.atI [U.str p.1,.int p.2.1,.int p.2.2] 1=ξ (.int p.2.1):=rfl;have h2:L2.atI [U.str p.1,.int p.2.1,.int p.2.2] 2=ξ (.int p.2.2):=rfl;simp[C3,fnU,Pu,ptU,h1,h2,small_of,prU]
theorem Ar4(g:NP->U)(m:List NP):Amz (kG g m)=m.map g:=by
 unfold Amz kG;rw[bJ];rfl
def cnt(qs:List (Int×Int))(q:Int×Int):Int:=((qs.filter fun o=>Ct o q).length:Nat)
variable {r:Nat}{qs:List (Int×Int)}
theorem Xf(q:Int×Int)(hr:Aw L r=ξ (qs.map prU))(hl:qs.length < 1000000):∃ L',Ie [.ref r,prU q] L=ξ (.int (cnt qs q),L')/\Gw L L':=by
 obtain ⟨x,e⟩:=Bu (ix:=[ψ,ξ 1]) (fi:=Br (Ae 0)) (it:=.ref r) (g:=gN 0) (tt:=ξ b_many_below_1t) (fe:=Ia) (δ:=[ξ (.ref r),ξ (prU q)]) (L:=L) (L0:=L)
  qs prU (fun o=>Ct o q) prU (fun δ=>∃ a,δ = [a,ξ (prU q)]) (by simp[Ck hr]) (by rw[D9 hr];simp) Ze ⟨ψ,rfl⟩
  (fun k x=>Hf (Cr hr))
  (fun a δ x _ ⟨y,hδ⟩=>by
   subst hδ;obtain ⟨xl,hx⟩:=lies_ok a q (L++x);refine ⟨_,rfl,⟨_,rfl⟩,xl,?_,fun _=>⟨[],?_⟩⟩
   ·simp[Ft,b_many_below_1t,hx]
   ·simp[Ia])
 have q1:(L++x++[HU.lst Zbm])[(L++x).length]? = ξ (.lst Zbm):=Za
 have hlen:=Dz q1;rw[aL] at hlen;refine ⟨L++x++[HU.lst Zbm],?_,⟨x++[HU.lst Zbm],by rw[bA]⟩⟩;unfold Ie fnU Q3;simp only[aM,aV,if_true,aI,bI,cS,bO,aR,fRet_eq,fCall_eq,fCons_eq,fNil_eq,aE,aB,e,hlen,cnt]
theorem toI_map{β:Type}(f:β->Int):∀ l:List β,mapO toI (l.map fun a=>U.int (f a))=ξ (l.map f)
 | []=>rfl
 | a::l=>by simp only[aI,mapO,toI,toI_map f l,aB,aE]
theorem Xa(T:Kept L k p m):Bo [.ref k] L=ξ (.tup (m.map ptU),L):=by
 have f1:=T.fld (δ:=[ξ (.ref k)]) (fe:=Ae 0) rfl;unfold Bo fnU F5;simp only[aM,aV,if_true,aI,bI,cS,bO,aR];rw[fRet_eq];unfold Ael;rw[f1];simp only[aB,Ww T.pt,aE,Ar4]
noncomputable def inB(b:Int×Int×Int×Int)(p:Str×(Int×Int)):Bool:=decide (b.1<=p.2.1)&&(decide (p.2.1<=b.2.2.1)&&(decide (b.2.1<=p.2.2)&&decide (p.2.2<=b.2.2.2)))
def Vj(ps:List Zej)(b:Int×Int×Int×Int):Nat:=(ps.filter (inB b)).length
theorem pt1(p:Str×(Int×Int)):L2.atI [U.str p.1,.int p.2.1,.int p.2.2] 1=ξ (.int p.2.1):=rfl
theorem pt2(p:Str×(Int×Int)):L2.atI [U.str p.1,.int p.2.1,.int p.2.2] 2=ξ (.int p.2.2):=rfl
theorem ix1(p:Str×(Int×Int))(L:UH):Al (ptU p) (.int 1) L=ξ (.int p.2.1,L):=by unfold ptU;rw[Sa,pt1];rfl
theorem ix2(p:Str×(Int×Int))(L:UH):Al (ptU p) (.int 2) L=ξ (.int p.2.2,L):=by unfold ptU;rw[Sa,pt2];rfl
theorem bx0(b:Int×Int×Int×Int)(L:UH):Al (bxU b) (.int 0) L=ξ (.int b.1,L):=rfl
theorem bx1(b:Int×Int×Int×Int)(L:UH):Al (bxU b) (.int 1) L=ξ (.int b.2.1,L):=rfl
theorem bx2(b:Int×Int×Int×Int)(L:UH):Al (bxU b) (.int 2) L=ξ (.int b.2.2.1,L):=rfl
theorem bx3(b:Int×Int×Int×Int)(L:UH):Al (bxU b) (.int 3) L=ξ (.int b.2.2.2,L):=rfl
variable {fa fb fc:FE}
theorem N5{a b c:Int}(ha:fa δ L=ξ (.int a,L))(hb:fb δ L=ξ (.int b,L))(hc:fc δ L=ξ (.int c,L)):Fe Dx Dx fa fb fc δ L=ξ (.bl (decide (a<=b)&&decide (b<=c)),L):=by
 unfold Fe;simp only[ha,hb,hc,aB,semLe_int];cases decide (a<=b) <;> rfl
theorem Afg(p:Str×(Int×Int))(b:Int×Int×Int×Int)(L:UH):Oq [ptU p,bxU b] L=ξ (.bl (inB b p),L):=by
 have c1:Fe Dx Dx ZbL ZbK (f2 Al (Ae 1) Zp) Zem L=ξ (.bl (decide (b.1<=p.2.1)&&decide (p.2.1<=b.2.2.1)),L):=N5 (by simp only[f2_eq,fVar_eq,fC_eq,aZ,aS,bF,aE,aB,bx0]) (by simp only[f2_eq,fVar_eq,fC_eq,aZ,aS,bF,aE,aB,ix1]) (by simp only[f2_eq,fVar_eq,fC_eq,aZ,aS,bF,aE,aB,bx2]);have c2:Fe Dx Dx Zeh Zcb (f2 Al (Ae 1) (fC (.int 3))) Zem L=ξ (.bl (decide (b.2.1<=p.2.2)&&decide (p.2.2<=b.2.2.2)),L):=N5 (by simp only[f2_eq,fVar_eq,fC_eq,aZ,aS,bF,aE,aB,bx1]) (by simp only[f2_eq,fVar_eq,fC_eq,aZ,aS,bF,aE,aB,ix2]) (by simp only[f2_eq,fVar_eq,fC_eq,aZ,aS,bF,aE,aB,bx3]);unfold Oq fnU Yv inB;simp only[aM,aV,if_true,aI,bI,cS,bO,aR,fRet_eq,Hu,c1,c2,aE,aB];cases decide (b.1<=p.2.1) <;> cases decide (p.2.1<=b.2.2.1) <;> cases decide (b.2.1<=p.2.2) <;> cases decide (p.2.2<=b.2.2.2) <;> rfl
theorem Abu{ps:List Zej}(hl:ps.length<=1000)(b:Int×Int×Int×Int)(L:UH):∃ (r:Nat) (L':UH),F6 [.tup ZW,bxU b] L=ξ (.ref r,L')/\L'[r]? = ξ (.lst Zdj)/\Gw L L':=by
 obtain ⟨x,e⟩:=Bu (ix:=[ψ,ξ 1]) (fi:=Br (Ae 0)) (it:=.seq ZW) (g:=gN 0) (tt:=ξ Iv) (fe:=Nx) (δ:=[ξ (.tup ZW),ξ (bxU b)]) (L:=L) (L0:=L)
  ps ptU (inB b) ptU (fun δ=>∃ a,δ = [a,ξ (bxU b)]) (by simp[Gm]) (by simp[IU.size]) Ze ⟨ψ,rfl⟩
  ZcA
  (fun p δ x _ ⟨y,hδ⟩=>by
   subst hδ;refine ⟨Zem,rfl,⟨_,rfl⟩,[],?_,fun _=>⟨[],?_⟩⟩
   ·unfold Ft Iv;simp only[fTru_eq,fOwn_eq,fCons_eq,fNil_eq,fVar_eq,aZ,aS,bF,aE,aB,aM,aV,if_true,Afg,truU_bl,aR]
   ·rw[aR,aR];rfl)
 refine ⟨(L++x).length,L++x++[HU.lst Zdj],?_,Za,⟨x++[HU.lst Zdj],by rw[bA]⟩⟩;unfold F6 fnU Tw;simp only[aM,aV,if_true,aI,bI,cS,bO,aR,fRet_eq,e,aE,aB]
theorem Gw.of(h:L.length<=L'.length)(e:∀ i,i < L.length->L'[i]? = L[i]?):Gw L L':=by
 refine ⟨L'.drop L.length,?_⟩;apply List.ext_getElem?;intro i;by_cases hi:i < L.length
 ·rw[bL hi];exact e i hi
 ·rw[dL Ze,List.getElem?_drop]
  congr 1
  omega
variable {a:Str}
theorem Fv{b:Str}(h:a.cps.toList=b.cps.toList):a=b:=by
 cases a;cases b;simp only[Str.mk.injEq];exact Array.toList_inj.mp h
theorem app_cps(a b:Str):(a++b).cps.toList=a.cps.toList++b.cps.toList:=by
 show (a.cps++b.cps).toList=_;simp
theorem Im(c:Nat)(a b:Str)(r:List Str):(gX ⟨#[c]⟩ (a::b::r)).cps.toList=a.cps.toList++c::(gX ⟨#[c]⟩ (b::r)).cps.toList:=by
 show (a++⟨#[c]⟩++gX ⟨#[c]⟩ (b::r)).cps.toList=_;rw[app_cps,app_cps];simp
variable {c:Nat}
theorem Anp:∀ {a a' r r':List Nat},c∉a->c∉a'->a++c::r=a'++c::r'->a=a'/\r=r'
 | [],[],r,r',_,_,h=>by simp at h;exact ⟨rfl,h⟩
 | [],x::a',r,r',_,h2,h=>by
  simp at h;exact absurd (by rw[<- h.1];exact aU ..) h2
 | x::a,[],r,r',h1,_,h=>by
  simp at h;exact absurd (by rw[h.1];exact aU ..) h1
 | x::a,y::a',r,r',h1,h2,h=>by
  simp only[fO,fI] at h;obtain ⟨e1,e2⟩:=Anp (fun q=>h1 (aO _ q)) (fun q=>h2 (aO _ q)) h.2;exact ⟨by rw[h.1,e1],e2⟩
theorem Acg(c:Nat):∀ (l l':List Str),l≠[]->l'≠[]->(∀ p∈l,c∉p.cps.toList)->(∀ p∈l',c∉p.cps.toList)->(gX ⟨#[c]⟩ l).cps.toList=(gX ⟨#[c]⟩ l').cps.toList->l=l'
 | [],_,h,_,_,_,_=>absurd rfl h
 | _,[],_,h,_,_,_=>absurd rfl h
 | [a],[b],_,_,_,_,h=>by
  have:a=b:=Fv h;rw[this]
 | [a],b::b'::r,_,_,h1,_,h=>by
  rw[Im] at h;have h':a.cps.toList=b.cps.toList++c::(gX ⟨#[c]⟩ (b'::r)).cps.toList:=h;exact absurd (by rw[h'];simp) (h1 a (aU ..))
 | a::a'::r,[b],_,_,_,h2,h=>by
  rw[Im] at h;have h':a.cps.toList++c::(gX ⟨#[c]⟩ (a'::r)).cps.toList=b.cps.toList:=h;exact absurd (by rw[<- h'];simp) (h2 b (aU ..))
 | a::a'::r,b::b'::r',_,_,h1,h2,h=>by
  rw[Im,Im] at h;obtain ⟨e1,e2⟩:=Anp (h1 a (aU ..)) (h2 b (aU ..)) h;have ih:=Acg c (a'::r) (b'::r') Za Za (fun p hp=>h1 p (aO _ hp)) (fun p hp=>h2 p (aO _ hp)) e2;rw[Fv e1,ih]
theorem Alj(x y:Str):eW x y≠[]:=by
 unfold eW;split
 ·simp
 ·split
  ·simp
  ·rw[StrLaws.partsBetween_eq];obtain ⟨p,r,e⟩:=StrLaws.partsFrom_ne x y.length 0 (cO x y 0 x.length (x.length+1));rw[e];simp
theorem Aeu{l:List Str}(hne:l≠[])(hf:∀ p∈l,c∉p.cps.toList):eW (gX ⟨#[c]⟩ l) ⟨#[c]⟩=l:=
 Acg c _ l (Alj _ _) hne (fun p hp=>StrLaws.split_free _ c p hp) hf (by rw[StrLaws.join_split])
noncomputable def dig(n:Nat):List Nat:=if h:n < 10 then [48+n] else dig (n / 10)++[48+n % 10]
termination_by n
decreasing_by omega
theorem W5(h:n < 10):dig n=[48+n]:=by rw[dig,dif_pos h]
theorem Aei(h:¬ n < 10):dig n=dig (n / 10)++[48+n % 10]:=by rw[dig,dif_neg h]
theorem Iq:∀ n:Nat,NumText.AllDigits (dig n)/\dig n≠[]/\NumText.digitsVal (dig n)=n/\(n≠0->∃ c r,dig n=c::r/\c≠48):=by
 intro n;induction n using tE with
 | _ n ih=>
  by_cases h:n < 10
  ·rw[W5 h];refine ⟨fun c hc=>?_,Za,?_,fun h0=>⟨48+n,[],rfl,Ze⟩⟩
   ·have:c=48+n:=by simpa using hc
    omega
   ·show 0 * 10+(48+n - 48)=n;omega
  ·obtain ⟨h1,h2,h3,h4⟩:=ih (n / 10) Ze;rw[Aei h];refine ⟨fun c hc=>?_,Za,?_,fun _=>?_⟩
   ·rcases cT.mp hc with q | q
    ·exact h1 c q
    ·have:c=48+n % 10:=by simpa using q
     omega
   ·rw[NumText.digitsVal_snoc,h3];omega
   ·obtain ⟨c,r,e,hc⟩:=h4 Ze;exact ⟨c,r++[48+n % 10],by rw[e];rfl,hc⟩
theorem Abq:∀ (k n:Nat),n < 10 ^ (k+1)->(dig n).length<=k+1
 | 0,n,h=>by rw[W5 (by simpa using h)];simp
 | k+1,n,h=>by
  by_cases hn:n < 10
  ·rw[W5 hn];simp
  ·rw[Aei hn,bV];have:=Abq k (n / 10) (by
    rw[rM] at h;exact Nat.div_lt_of_lt_mul (by rw[vM];exact h))
   simp;omega
def fig(n:Int):Str:=⟨((if n < 0 then [45] else [])++dig n.natAbs).toArray⟩
theorem fig_cps(n:Int):(fig n).cps.toList=(if n < 0 then [45] else [])++dig n.natAbs:=by unfold fig;simp
theorem C1{n:Int}(h:-9999999999<=n/\n<=9999999999):(fig n).length<=11:=by
 have e:(fig n).length=(fig n).cps.toList.length:=by simp[qK]
 rw[e,fig_cps,bV];have:=Abq 9 n.natAbs Ze;split <;> simp <;> omega
theorem Ahn{n:Int}(h:-9999999999<=n/\n<=9999999999):mN (fig n)=ξ n:=by
 have hl:=C1 h;have en:n < 0->-((n.natAbs:Nat):Int)=n:=fun q=>by omega
 have ep:¬ n < 0->((n.natAbs:Nat):Int)=n:=fun q=>by omega
 obtain ⟨h1,h2,h3,_⟩:=Iq n.natAbs;by_cases h0:n < 0
 ·have hx:(fig n).cps.toList=45::dig n.natAbs:=by rw[fig_cps,if_pos h0];rfl
  rw[PySem.intText_neg hx h1 h2 Ze,h3,en h0]
 ·have hx:(fig n).cps.toList=dig n.natAbs:=by rw[fig_cps,if_neg h0];rfl
  rw[PySem.intText_digits (by rw[hx];exact h1) (by rw[hx];exact h2) Ze,hx,h3,ep h0]
theorem Adh{n:Int}(hc:c < 45):c∉(fig n).cps.toList:=fun h=>by
 rw[fig_cps] at h;rcases cT.mp h with q | q
 ·split at q
  ·have:c=45:=by simpa using q
   omega
  ·simp at q
 ·have:=(Iq n.natAbs).1 c q;omega
def Low(s:Str):Prop:=∀ c∈s.cps.toList,97<=c/\c<=122
def Nm(s:Str):Prop:=1<=s.length/\s.length<=8/\Low s
theorem Rx(x:Str)(i:Int)(L:UH):Al (.str x) (.int i) L=if E4 x.length=true then (L2.atI x.cps.toList i).map fun c=>(.str ⟨#[c]⟩,L) else ψ:=rfl
variable {v:U}
theorem Eg(e:fe δ L=ξ (v,L')):(Bh fe (gN i)) δ L=ξ (.nx (δ.set i (ξ v)),L'):=by
 rw[Hg,e];simp only[aB,gN_eq,aE]
variable {f:FN}{u:U}
theorem Qj(h:Ae i δ L=ξ (u,L))(e:f [u] L=ξ (v,L')):(A9 1 f (Ad (Ae i) Ah)) δ L=ξ (v,L'):=by
 rw[fOwn_eq,fCons_eq,h];simp only[aB,fNil_eq,aE,aM,aV,if_true,e]
theorem Amx(h:fe δ L=ξ (u,L1))(e:f [u] L1=ξ (v,L')):(A9 1 f (Ad fe Ah)) δ L=ξ (v,L'):=by
 rw[fOwn_eq,fCons_eq,h];simp only[aB,fNil_eq,aE,aM,aV,if_true,e]
theorem Fy{w:U}{L2:UH}(h:fa δ L=ξ (u,L1))(h2:fb δ L1=ξ (w,L2))(e:f [u,w] L2=ξ (v,L')):(A9 2 f (Ad fa (Ad fb Ah))) δ L=ξ (v,L'):=by
 rw[fOwn_eq,fCons_eq,h,aB,fCons_eq,h2];simp only[aB,fNil_eq,aE,aM,aV,if_true,e]
theorem fn1{b:FS}(h:b (ξ u::bP n ψ) L=ξ (.rt v,L')):fnU (n+1) 1 b [u] L=ξ (v,L'):=by
 unfold fnU;simp only[aM,aV,if_true,aI,bI,fO,gG,gW,h];rfl
theorem B8(e:fe δ L=ξ (v,L')):Cf fe δ L=ξ (.rt v,L'):=by
 rw[fRet_eq,e];rfl
def asc(w:Str):Prop:=w.cps.all (· < 128)=true
theorem len_cps(w:Str):w.length=w.cps.toList.length:=by simp[qK]
theorem Adv(w signs:Str)(ha:asc w)(hl:w.length<=1000)(L:UH):∃ L',Eo [.str w,.str signs] L=ξ (.bl (w.cps.toList.all fun c=>decide (c∈signs.cps.toList)),L')/\Gw L L':=by
 have hlc:=len_cps w;have hi:Adc (Ae 0) [ξ (.str w),ξ (.str signs)] L=ξ (.seq (w.cps.toList.map fun c=>.str ⟨#[c]⟩),L):=by
  unfold Adc;simp only[fVar_eq,aS,bF,aE,aB];rw[if_pos (show (w.cps.all (· < 128))=true from ha)];rfl
 obtain ⟨x,e⟩:=Bu (ix:=[ψ,ξ 1]) (fi:=Adc (Ae 0)) (it:=.seq (w.cps.toList.map fun c=>U.str ⟨#[c]⟩)) (g:=gN 0) (tt:=ψ) (fe:=Mz) (δ:=[ξ (.str w),ξ (.str signs)]) (L:=L) (L0:=L)
  w.cps.toList (fun c=>U.str ⟨#[c]⟩) Zaf (fun c=>.bl (decide (c∈signs.cps.toList))) (fun δ=>∃ a,δ = [a,ξ (.str signs)]) hi (by simp[IU.size]) Ze ⟨ψ,rfl⟩
  ZcA
  (fun c δ x _ ⟨y,hδ⟩=>by
   subst hδ;refine ⟨[ξ (.str ⟨#[c]⟩),ξ (.str signs)],rfl,⟨_,rfl⟩,[],by simp[Ft],fun _=>⟨[],?_⟩⟩;have hfo:=rN signs c;show ξ (U.bl (!(cO signs ⟨#[c]⟩ 0 signs.length 1).isEmpty),L++x++[])=_;rw[hfo];simp)
 have hff:iJ Zaf w.cps.toList=w.cps.toList:=cZ.mpr Zg;rw[hff] at e;have q1:Aw (L++x++[HU.lst ZaX]) (L++x).length=ξ (w.cps.toList.map fun c=>U.bl (decide (c∈signs.cps.toList))):=Am Za;have ha:=Abd _ _ q1;refine ⟨L++x++[HU.lst ZaX],?_,⟨x++[HU.lst ZaX],by rw[bA]⟩⟩;unfold Eo fnU Qe;simp only[aM,aV,if_true,aI,bI,cS,bO,aR,fRet_eq,fCall_eq,fCons_eq,fNil_eq,aE,aB,e,ha]
theorem Aso:(fK "abcdefghijklmnopqrstuvwxyz").toList=(bM 26).map (97 + ·):=Zd
theorem Aix:(fK "0123456789").toList=(bM 10).map (48 + ·):=Zd
theorem Asf(h:97<=c/\c<=122):c∈(fK "abcdefghijklmnopqrstuvwxyz").toList:=by
 rw[Aso];exact bT.mpr ⟨c - 97,cL.mpr Ze,Ze⟩
theorem Ao1(h:48<=c/\c<=57):c∈(fK "0123456789").toList:=by
 rw[Aix];exact bT.mpr ⟨c - 48,cL.mpr Ze,Ze⟩
variable {w:Str}
theorem Qa(h:∀ c∈w.cps.toList,c < 128):asc w:=by
 unfold asc;rw[<- nW,bQ];intro c hc;exact decide_eq_true (h c hc)
theorem Ae7(h:w.length<=1000)(L:UH):Ap [.str w] L=ξ (.int w.length,L):=by
 unfold Ap lenU;simp only[small_of (show w.length<=16777216 by omega),if_true,aE]
theorem Aew(h:Nm w)(L:UH):∃ L',Sl [.str w] L=ξ Zcf/\Gw L L':=by
 obtain ⟨h1,h2,h3⟩:=h;obtain ⟨L',e,g⟩:=Adv w "abcdefghijklmnopqrstuvwxyz" (Qa fun c hc=>by have:=h3 c hc;omega) Ze L;have ht:(w.cps.toList.all fun c=>decide (c∈(fK "abcdefghijklmnopqrstuvwxyz").toList))=true:=bQ.mpr fun c hc=>decide_eq_true (Asf (h3 c hc))
 rw[ht] at e;refine ⟨L',fn1 (n:=0) ?_,g⟩;have c1:Fe Dx Dx Zi (Ay Ap Zr) ZbS [ξ (.str w)] L=ξ (.bl true,L):=by
  have hb:(Ay Ap Zr) [ξ (.str w)] L=ξ (.int w.length,L):=by
   simp only[fCall_eq,fCons_eq,fNil_eq,fVar_eq,aS,bF,aE,aB,Ae7 (show w.length<=1000 by omega)]
  rw[N5 (a:=1) (b:=w.length) (c:=8) rfl hb rfl,decide_eq_true (show (1:Int)<=w.length by omega),decide_eq_true (show (w.length:Int)<=8 by omega)];rfl
 show Cf _ [ξ (.str w)] L=_;refine B8 ?_;rw[Hu,c1];simp only[aB,if_true];exact Fy (u:=.str w) rfl rfl e
theorem zero_cps:(fK "0").toList=[48]:=Zd
theorem minus_cps:(fK "-").toList=[45]:=Zd
theorem Ait:(fK "").toList=[]:=Zd
theorem Avi{b:Str}(h:a.cps.toList≠b.cps.toList):a≠b:=fun q=>h (by rw[q])
theorem P0(h:asc w):Pl 6 (.str w):=by
 show fE w=true;unfold fE;unfold asc at h;rw[<- nW,bQ] at h ⊢;intro c hc;have:=of_decide_eq_true (h c hc);exact decide_eq_true Ze
theorem Ahs{b:Str}(ha:asc a)(hb:asc b):eqB (.str a) (.str b)=decide (a=b):=by
 rw[lR,Um (P0 ha) (P0 hb),decide_eq_true_eq];exact ⟨fun q=>by injection q,fun q=>by rw[q]⟩
theorem Sd{b:Str}(ha:asc a)(hb:asc b)(L:UH):B9 (.str a) (.str b) L=ξ (.bl (decide (a=b)),L):=by
 rw[Amp L (P0 ha) (P0 hb),Ahs ha hb]
theorem Ai7{b:Str}(ha:asc a)(hb:asc b)(L:UH):Dd (.str a) (.str b) L=ξ Zen:=by
 rw[U8 L (P0 ha) (P0 hb),Ahs ha hb]
theorem Ac2:asc "0" := by unfold asc;lk
theorem Akf:asc "" := by unfold asc;lk
theorem Asm(h:c < 128):asc ⟨#[c]⟩:=Qa fun x hx=>by
 have:x=c:=by simpa using hx
 omega
theorem Uo(n:Int):asc (fig n):=Qa fun c hc=>by
 rw[fig_cps] at hc;rcases cT.mp hc with q | q
 ·split at q
  ·have:c=45:=by simpa using q
   omega
  ·simp at q
 ·have:=(Iq n.natAbs).1 c q;omega
def L8(n:Int):Str:=⟨(dig n.natAbs).toArray⟩
theorem figA_cps(n:Int):(L8 n).cps.toList=dig n.natAbs:=by unfold L8;simp
theorem Ab1(n:Nat):∃ c r,dig n=c::r/\48<=c/\c<=57:=by
 obtain ⟨h1,h2,_,_⟩:=Iq n;cases e:dig n with
 | nil=>exact absurd e h2
 | cons c r=>exact ⟨c,r,rfl,h1 c (by rw[e];exact aU ..)⟩
theorem Q9(n:Int):kB (fig n) "-" = decide (n < 0):=by
 unfold kB;rw[StrLaws.subAt_eq,minus_cps,fig_cps];have hm:qK "-" = 1:=by rw[len_cps,minus_cps];rfl
 have hl:(fig n).length=(fig n).cps.toList.length:=len_cps _;rw[hm,hl,fig_cps];obtain ⟨c,r,e,h1,h2⟩:=Ab1 n.natAbs;rw[e];by_cases h:n < 0
 ·rw[if_pos h,decide_eq_true h];simp
 ·rw[if_neg h,decide_eq_false h];have:(c == 45)=false:=by simp;omega
  simp[this]
theorem Aln(a len:Nat):gL (ξ (a:Int)) ψ 1 len=gL (ξ (a:Int)) (ξ (len:Int)) 1 len:=by
 unfold gL;have h2:¬ ((len:Int) < 0):=Ze
 have e2:max (0:Int) (min (len:Int) (len:Int))=len:=Ze
 simp only[h2,if_false,e2,show ((1:Int) > 0)=True from by simp,if_true]
theorem Ajh{x:Str}(h:1<=x.length):(kO x (ξ 1) ψ).cps.toList=x.cps.toList.drop 1:=by
 have e:=Aln 1 x.length;have p:=StrLaws.strSliceIndices_plain (a:=1) (b:=x.length) (len:=x.length) h (aP _);have q:=StrLaws.sliced_plain x (a:=1) (b:=x.length) h (aP _);have i1:((1:Nat):Int)=1:=rfl;rw[i1] at e p q;unfold kO;rw[e];have hl:(gL (ξ 1) (ξ (x.length:Int)) 1 x.length).length=x.length - 1:=by rw[p];simp
 rw[if_neg (by rw[hl];simp;omega),q];have:x.length=x.cps.toList.length:=len_cps x;simp only[dQ (by rw[nP];omega:(x.cps.toList.drop 1).length<=x.length - 1)]
theorem Ac5(n:Int):asc (L8 n):=Qa fun c hc=>by
 rw[figA_cps] at hc;have:=(Iq n.natAbs).1 c hc;omega
theorem Qw{n:Int}(h:-9999999999<=n/\n<=9999999999)(L:UH):∃ L',N3 [.str (fig n)] L=ξ Zcf/\Gw L L':=by
 have hlf:=C1 h;have hst:=Q9 n;have hlA:(L8 n).length<=11:=by
  rw[len_cps,figA_cps];have h1:(fig n).length=(fig n).cps.toList.length:=len_cps _;rw[fig_cps,bV] at h1;omega
 obtain ⟨L',e,g⟩:=Adv (L8 n) "0123456789" (Ac5 n) Ze L;have hd:=Iq n.natAbs;have ht:((L8 n).cps.toList.all fun c=>decide (c∈(fK "0123456789").toList))=true:=bQ.mpr fun c hc=>decide_eq_true (Ao1 (hd.1 c (by rw[figA_cps] at hc;exact hc)))
 rw[ht] at e;have ty:∀ L,tyU "str" (.str (fig n)) L=true:=fun _=>rfl
 have c0:(G5 (Dc "str" semStarts (Ae 0) (Ad (fC (.str "-")) Ah))) [ξ Za2,ψ] L=ξ (decide (n < 0),L):=by
  rw[fTru_eq,fMeth_eq];simp only[fVar_eq,fCons_eq,fC_eq,fNil_eq,aS,bF,aE,aB,ty,if_true,semStarts,hst,truU_bl]
 have s1:(Bh (fIf (G5 (Dc "str" semStarts (Ae 0) (Ad (fC (.str "-")) Ah))) (fSl Vu (Ae 0) (B3 Zi) Bw) (Ae 0)) (gN 1)) [ξ Za2,ψ] L=ξ (.nx ZL,L):=by
  refine Eg ?_;rw[Awz,c0,aB];by_cases h0:n < 0
  ·have hx:(fig n).cps.toList=45::dig n.natAbs:=by rw[fig_cps,if_pos h0];rfl
   have hs:kO (fig n) (ξ 1) ψ=L8 n:=by
    apply Fv;rw[Ajh (by rw[len_cps,hx];simp),hx,figA_cps];rfl
   simp only[decide_eq_true h0,if_true,fSl_eq,fVar_eq,fPart_eq,fNoPart_eq,fC_eq,aS,bF,aE,aB,Vu];rw[if_pos ZcZ,hs]
  ·have hx:fig n=L8 n:=Fv (by rw[fig_cps,if_neg h0,figA_cps];rfl);simp only[decide_eq_false h0,bN,if_false,fVar_eq,aS,bF,aE];rw[<- hx]
 have hne:(decide (L8 n = ""))=false:=decide_eq_false (Avi (by rw[figA_cps,Ait];exact hd.2.1));have s2:(C6 (fOr (Av (f2 B9 (Ae 1) (fC (.str "")))) (Wg (G5 (A9 2 Eo (Ad (Ae 1) (Ad (fC (.str "0123456789")) Ah)))))) Zbu B2) ZL L=ξ (.nx ZL,L'):=by
  have t1:(Av (f2 B9 (Ae 1) (fC (.str "")))) ZL L=ξ (false,L):=by
   rw[fTest_eq,f2_eq];simp only[fVar_eq,fC_eq,aS,aZ,bF,aE,aB,Sd (Ac5 n) Akf,hne]
  have t2:(A9 2 Eo (Ad (Ae 1) (Ad (fC (.str "0123456789")) Ah))) ZL L=ξ Zcf:=Fy (u:=.str (L8 n)) rfl rfl e;rw[Il,fOr_eq,t1];simp only[aB,bN,if_false,Ah2,fTru_eq,t2,truU_bl,aE,nK,Qs]
 refine ⟨L',fn1 (n:=1) ?_,g⟩;obtain ⟨c,r,ec,h1,h2⟩:=Ab1 n.natAbs;have hix:∀ L,Al (.str (L8 n)) (.int 0) L=ξ (.str ⟨#[c]⟩,L):=fun L=>by
  rw[Rx,if_pos ZcZ,figA_cps,ec,Sf Ze Za];rfl
 have hc0:(decide ((⟨#[c]⟩:Str) = "0"))=decide (c=48):=by
  rw[lR,decide_eq_true_eq,decide_eq_true_eq];constructor
  ·intro q;have:([c]:List Nat)=(fK "0").toList:=by rw[<- q]
   rw[zero_cps] at this;simpa using this
  ·intro q;apply Fv;rw[zero_cps,q]
 have s3:(Apa (f2 Dd ZbL (fC (.str "0"))) (f2 B9 (Ae 0) (fC (.str "0")))) ZL L'=ξ Zcf:=by
  have t1:(f2 Dd ZbL (fC (.str "0"))) ZL L'=ξ (.bl (!decide (c=48)),L'):=by
   rw[f2_eq,f2_eq];simp only[fVar_eq,fC_eq,aS,aZ,bF,aE,aB,hix,Ai7 (Asm (show c < 128 by omega)) Ac2,hc0]
  rw[Asb,t1];by_cases q:c=48
  ·have hz:n.natAbs=0:=by
    by_cases z:n.natAbs=0
    ·exact z
    ·obtain ⟨c',r',e',hc'⟩:=hd.2.2.2 z;rw[ec] at e';injection e' with a b
     exact absurd (a.symm.trans q) hc'
   have hn0:n=0:=Ze
   have hf0:fig n = "0" := by
    apply Fv;rw[fig_cps,zero_cps,hn0,if_neg Zb];show []++dig 0=[48];rw[W5 Zb];rfl
   have t2:(f2 B9 (Ae 0) (fC (.str "0"))) ZL L'=ξ Zcf:=by
    rw[f2_eq];simp only[fVar_eq,fC_eq,aS,bF,aE,aB,Sd (Uo n) Ac2,decide_eq_true hf0]
   rw[decide_eq_true q];simp only[aB,nK,bN,if_false,t2]
  ·rw[decide_eq_false q];simp only[aB,pN,if_true]
 unfold Tn;show Ba _ _ [ξ Za2,ψ] L=_;rw[Bf s1,Bf s2];exact B8 s3
theorem Cm{c:FT}{f:FS}(h:c δ L=ξ (false,L')):C6 c f B2 δ L=ξ (.nx δ,L'):=by
 rw[Il,h];rfl
theorem A20{c d:FT}{L2:UH}(h:c δ L=ξ (false,L1))(h2:d δ L1=ξ (false,L2)):fOr c d δ L=ξ (false,L2):=by
 rw[fOr_eq,h];exact h2
theorem B1{f:FE}{b:Bool}(h:f δ L=ξ (.bl b,L')):Av f δ L=ξ (b,L'):=by
 rw[fTest_eq,h];rfl
variable {L3:UH}
theorem Ax{s:S2}{L2:UH}{w:U}(h1:fa δ L=ξ (u,L1))(h2:fb δ L1=ξ (v,L2))(h:s u v L2=ξ (w,L3)):f2 s fa fb δ L=ξ (w,L3):=by
 rw[f2_eq,h1];simp only[aB,h2,h]
theorem fnN{b:FS}(hn:us.length=k)(h:b (us.map ξ++bP (n - k) ψ) L=ξ (.rt v,L')):fnU n k b us L=ξ (v,L'):=by
 subst hn;unfold fnU;rw[if_pos rfl,h];rfl
theorem Ea{s:SC}{L2:UH}(h:fa δ L=ξ (u,L1))(e:s [u] L1=ξ (v,L2)):(Ay s (Ad fa Ah)) δ L=ξ (v,L2):=by
 rw[fCall_eq,fCons_eq,h];exact e
theorem A3e{w x:U}{L2:UH}(h:fa δ L=ξ (u,L1))(h2:fb δ L1=ξ (w,L2))(h3:fc δ L2=ξ (x,L3))(e:f [u,w,x] L3=ξ (v,L')):(A9 3 f ZdP) δ L=ξ (v,L'):=by
 rw[fOwn_eq,fCons_eq,h];simp only[aB,fCons_eq,h2,h3,fNil_eq,aE,aM,aV,if_true,e]
theorem Rk(h:fe δ L=ξ Zcf):(Wg (G5 fe)) δ L=ξ (false,L'):=by
 rw[Ah2,fTru_eq,h];rfl
theorem Jb(h:l[k]? = ξ u):L2.atI l (k:Int)=ξ u:=by
 have:=(aQ.mp h).1;rw[Sf Ze Ze,iB,h]
theorem F0{i:Int}(h:L[n]? = ξ (.lst l))(hu:L2.atI l i=ξ u):Al (.ref n) (.int i) L=ξ (u,L):=by
 rw[Ai3,Am h];simp only[aB,hu,aE]
theorem A5i(h:fa δ L=ξ (u,L')):(Gi (Ad fa Ah)) δ L=ξ (.tup [u],L'):=by
 rw[fTup_eq,fCons_eq,h];simp only[aB,fNil_eq,aE];rw[if_pos (small_of (by show 1<=16777216;decide))]
theorem Aja{w:U}(h:fa δ L=ξ (u,L))(h2:fb δ L=ξ (v,L))(h3:fc δ L=ξ (w,L)):(Gi ZdP) δ L=ξ (.tup [u,v,w],L):=by
 rw[fTup_eq,fCons_eq,h,aB,fCons_eq,h2,aB,fCons_eq,h3];simp only[aB,fNil_eq,aE];rw[if_pos (small_of (by show 3<=16777216;decide))]
theorem Bp{g:FA}{L2:UH}(h1:fe δ L=ξ (u,L1))(h2:g δ L1=ξ (us,L2)):Ad fe g δ L=ξ (u::us,L2):=by
 rw[fCons_eq,h1,aB,h2];rfl
theorem E5{c:FT}{f:FS}(h:c δ L=ξ (true,L')):C6 c f g δ L=f δ L':=by
 rw[Il,h];rfl
theorem neI{u:Int}{L2:UH}(h1:fa δ L=ξ (.int u,L1))(h2:fb δ L1=ξ (.int u,L2)):(Av (f2 Dd fa fb)) δ L=ξ (false,L2):=by
 rw[fTest_eq,f2_eq,h1,aB,h2,aB,Akn];simp
theorem orF{a b:FT}{L2:UH}(h1:a δ L=ξ (false,L1))(h2:b δ L1=ξ (false,L2)):fOr a b δ L=ξ (false,L2):=by
 rw[fOr_eq,h1,aB];exact h2
theorem Am3:(fK " ").toList=[32]:=Zd
theorem Atv:(" " : Str)=⟨#[32]⟩:=Fv (by rw[Am3])
theorem Azn:∀ d:Nat,d < 10->(Nat.digitChar d).toNat=48+d:=Zb
theorem Axs(m:Nat):dig m=(oI 10 m).map qP:=by
 induction m using tE with
 | _ m ih=>
  by_cases h:m < 10
  ·rw[nX h,W5 h,aI,bI,Azn m h]
  ·have hm:m % 10 < 10:=Nat.mod_lt m Zb;have t:oI 10 (m / 10)++oI 10 (m % 10)=oI 10 (10 * (m / 10)+m % 10):=Nat.toDigits_append_toDigits Zb Ze hm;rw[Nat.div_add_mod] at t;rw[<- t,fJ,nX hm,Aei h,ih (m / 10) Ze,aI,bI,Azn _ hm]
theorem Av7(s:String):(fQ s).cps.toList=s.toList.map qP:=by rw[Str.ofString_eq_toList,List.toList_toArray]
theorem Agx(n:Int):Wy n=fig n:=by
 apply Fv;unfold Wy;rw[Av7,fig_cps,Axs];cases n with
 | ofNat m=>
  rw[if_neg (by show ¬ ((m:Nat):Int) < 0;omega)];show (Nat.repr m).toList.map qP=[]++_;rw[tF];rfl
 | negSucc m=>
  rw[if_pos (by show Int.negSucc m < 0;omega)];show ("-" ++ Nat.repr (m+1)).toList.map qP=_;rw[String.toList_append,fJ,tF];rfl
theorem Ahi{n:Int}(h:-9999999999<=n/\n<=9999999999):Nl n=true:=by
 unfold Nl;simp only[bY,decide_eq_true_eq];omega
theorem lapp(a b:Str):(a++b).length=a.length+b.length:=by rw[len_cps,app_cps,bV,<- len_cps,<- len_cps]
theorem Kq{f:FS}(h:f δ L=ξ (.rt v,L')):Ba f g δ L=ξ (.rt v,L'):=by rw[fSeq_eq,h];rfl
theorem A8{f:FS}{δ':UE}{r:Option (Fl×UH)}(h:f δ L=ξ (.nx δ',L'))(k:g δ' L'=r):Ba f g δ L=r:=by rw[Bf h,k]
theorem eqS{b:Str}(ha:asc a)(hb:asc b)(hv:fe δ L=ξ (.str a,L1)):(Av (f2 B9 fe (fC (.str b)))) δ L=ξ (decide (a=b),L1):=
 B1 (Ax hv rfl (Sd ha hb L1))
theorem Abo:asc "name" := by unfold asc;lk
theorem Acz:asc "number" := by unfold asc;lk
theorem Uq:asc "place" := by unfold asc;lk
theorem Ae8(h:Nm w)(L:UH):∃ L',Fg [.str w,.str "name"] L=ξ (.str w,L')/\Gw L L':=by
 obtain ⟨L1,e,g⟩:=Aew h L;refine ⟨L1,fnN (n:=2) rfl ?_,g⟩;show F4 [ξ (.str w),ξ (.str "name")] L=_;unfold F4;refine Kq ?_;rw[E5 (by rw[eqS Abo Abo rfl,decide_eq_true rfl])];refine A8 (Cm (Rk (Qj rfl e))) ?_;exact B8 rfl
theorem Amj(a b:Str):(eP a b).length<=a.length:=by
 obtain ⟨i,hi,e⟩:=PyProof.Rows.lstripChars_is_suffix a b;rw[e];exact PySem.le_strSub _ _ _
noncomputable abbrev Wv:=Str×Str×U
variable {w0:Str}{as:List Wv}
theorem Al5(hr:L[r]? = ξ (.lst ((w0::as.map (·.1)).map U.str)))(hf:Eb.lookup w0=ξ (as.map (·.2.1)))(hl:as.length<=10)
  (hv:∀ a∈as,∀ M:UH,∃ M',Fg [.str a.1,.str a.2.1] M=ξ (a.2.2,M')/\Gw M M') :
  ∃ L',G2 [.ref r] L=ξ (.tup (as.map (·.2.2)),L')/\Gw L L':=by
 have i0:(f2 Al (Ae 0) Zh) [ξ (.ref r),ψ] L=ξ (.str w0,L):=Ax rfl rfl (F0 hr (by exact Jb (k:=0) rfl));have s1:(Bh (Aa9 Eb ZaK) (gN 1)) [ξ (.ref r),ψ] L=ξ (.nx Z8,L):=by
  refine Eg (i:=1) (δ:=[ξ (.ref r),ψ]) ?_;unfold Aa9;rw[i0];simp only[aB,hf]
 have c1:(Av (f2 Af8 (Ae 1) (fC .non))) Z8 L=ξ (false,L):=rfl;have c2:(Av (f2 Dd (Ay Ap Zay) (f2 Fp (Ay Ap Zr) Zi))) Z8 L=ξ (false,L):=by
  have h1:Ap [.tup ((as.map (·.2.1)).map U.str)] L=ξ (.int (as.length:Nat),L):=by simp[Ap,lenU]
  refine neI (Ea rfl h1) (Ax (Ea rfl (Dz hr)) rfl ?_);rw[semSub_int];simp
 generalize hL1:L++[HU.lst ((as.map (·.1)).map U.str)]=L1;have hs:(fSl Cj (Ae 0) (B3 Zi) Bw) Z8 L=ξ (.ref L.length,L1):=by
  subst hL1;have:Cj (.ref r) (ξ 1) ψ L=ξ (.ref L.length,L++[HU.lst ((as.map (·.1)).map U.str)]):=by
   show mQ (fun l=>(U.ref (iI L),L++[HU.lst (T4 l (ξ 1) ψ)])) (Aw L r)=_;rw[Am hr];simp[T4,HT.sIx];exact dQ Za
  exact this
 have hr1:L1[L.length]? = ξ (.lst ((as.map (·.1)).map U.str)):=by subst hL1;simp
 have hsq:=Am hr1;have hz:Ob (Ad Zce Zay) Z8 L=ξ (.zipL L.length ((as.map (·.2.1)).map U.str),L1):=by
  unfold Ob;rw[fCons_eq,hs];simp only[aB,fCons_eq,fNil_eq,aE];show ((Aw L1 L.length).map _)=_;rw[hsq];rfl
 have hp:Fb ((as.map (·.1)).map U.str) ((as.map (·.2.1)).map U.str)=as.map fun a=>U.tup [.str a.1,.str a.2.1]:=by
  clear hr hf hl hv i0 s1 c1 c2 hs hL1 hr1 hsq hz;induction as with
  | nil=>rfl
  | cons a as ih=>simp only[aI];unfold Fb at ih ⊢;simp only[mP,aI,ih]
 obtain ⟨x,ec⟩:=Bu (ix:=[ψ,ψ]) (g:=MR.gTup 2 (MR.gCons (gN 0) (MR.gCons (gN 1) MR.gNil))) (tt:=ψ) (fe:=Jy) as (fun a=>U.tup [.str a.1,.str a.2.1]) Zaf (·.2.2) (fun δ=>δ.length=2) hz
  (by show _<=(match Aw L1 L.length with | some us=>min us.length _ | none=>0);rw[hsq];simp) Ze rfl
  (fun k x=>by show (Aw (L1++x) L.length).map _=_;rw[Cr hsq,aE,<- hp,Lr])
  (fun a δ x ha hδ=>by
   match δ,hδ with
   | [u0,u1],_=>
    refine ⟨[ξ (.str a.1),ξ (.str a.2.1)],rfl,rfl,[],?_,fun _=>?_⟩
    ·simp[Ft]
    ·obtain ⟨M',em,z,hz2⟩:=hv a ha (L1++x++[]);subst hz2;exact ⟨z,Fy rfl rfl em⟩)
 have hfl:as.filter Zaf=as:=Za
 rw[hfl] at ec;refine ⟨L1++x++[.lst (as.map (·.2.2))],?_,by subst hL1;exact ⟨_,by rw[bA,bA]⟩⟩
 refine fn1 (n:=1) ?_;show Ji [ξ (.ref r),ψ] L=_;unfold Ji;refine A8 s1 (A8 (Cm (orF c1 c2)) (B8 (Ea ec ?_)));have:Aw (L1++x++[HU.lst (as.map (·.2.2))]) (L1++x).length=ξ (as.map (·.2.2)):=Am Za;simp only[Ee,this];rfl
theorem Aft(h:fe δ L=ξ (v,L1)):Cg (Ad fe Ah) δ L=ξ (.ref L1.length,L1++[.lst [v]]):=by
 rw[fLst_eq,Bp h rfl];rfl
theorem Aka{L2:UH}(h:fa δ L=ξ (u,L1))(h2:fb δ L1=ξ (v,L2)):Cg (Ad fa (Ad fb Ah)) δ L=ξ (.ref L2.length,L2++[.lst [u,v]]):=by
 rw[fLst_eq,Bp h (Bp h2 rfl)];rfl
theorem A0f{w:U}{L2:UH}(h:fa δ L=ξ (u,L1))(h2:fb δ L1=ξ (v,L2))(h3:fc δ L2=ξ (w,L3)):Cg ZdP δ L=ξ (.ref L3.length,L3++[.lst [u,v,w]]):=by
 rw[fLst_eq,Bp h (Bp h2 (Bp h3 rfl))];rfl
structure Dk(L:UH)(d k p:Nat)(m:List NP):Prop where
 ob:L[d]? = ξ (.ins "Desk" [("kept",.ref k)])
 kp:Kept L k p m
theorem Dk.gw(T:Dk L d k p m)(g:Gw L L'):Dk L' d k p m:=⟨g.get T.ob,T.kp.gw g⟩
theorem Dk.ne(T:Dk L d k p m):d≠p:=fun h=>by
 have h1:=T.ob;rw[h,T.kp.pt] at h1;cases h1
theorem Dk.set(T:Dk L d k p m):Dk (L.set p ZcU) d k p m':=
 ⟨by rw[cJ (gY T.ne)];exact T.ob,T.kp.set⟩
theorem dk_lk(k:Nat):eV ("kept" : Str) [(("kept" : Str),U.ref k)]=ξ (.ref k):=rfl
theorem A0z{s:Str}(k:Nat)(h:(s == "kept")=false):eV s [(("kept" : Str),U.ref k)]=ψ:=by rw[cK,h];rfl
theorem Dk.fld(T:Dk L d k p m)(h:fe δ L=ξ (.ref d,L)):Ij "Desk" "kept" fe δ L=ξ (.ref k,L):=by
 unfold Ij;rw[h];simp only[aB,Jo T.ob,dk_lk,aE]
theorem Wn{L2:UH}{s:Str}{F:FN}{g:FA}(T:Dk L d k p m)(hno:(s == "kept")=false)(ho:fo δ L=ξ (.ref d,L))(hg:g δ L=ξ (us,L1))(hk:us.length+1=n)(e:F (.ref d::us) L1=ξ (v,L2)):(B0 "Desk" s n F fo g) δ L=ξ (v,L2):=by
 unfold B0;simp only[ho,aB,Jo T.ob,A0z (s:=s) k hno,if_true,hg,hk,e]
theorem Ag0{L2:UH}{s:Str}{F:FN}{g:FA}(T:Kept L k p m)(hno:(s == "points")=false)(ho:fo δ L=ξ (.ref k,L))(hg:g δ L=ξ (us,L1))(hk:us.length+1=n)(e:F (.ref k::us) L1=ξ (v,L2)):(B0 "KeptPoints" s n F fo g) δ L=ξ (v,L2):=by
 unfold B0;simp only[ho,aB,Jo T.ob,Asv (s:=s) p hno,if_true,hg,hk,e]
theorem L9(e:fe δ L=ξ (v,L')):Dl fe δ L=ξ (.nx δ,L'):=by
 rw[V3,e];rfl
theorem n1:(("put_point" : Str) == "points")=false:=Zd
theorem n7:(("points_now" : Str) == "points")=false:=Zd
theorem d1:(("need_room" : Str) == "kept")=false:=Zd
theorem d2:(("change_points" : Str) == "kept")=false:=Zd
theorem d3:(("ask" : Str) == "kept")=false:=Zd
theorem d4:(("told_at" : Str) == "kept")=false:=Zd
theorem n2:(("take_point" : Str) == "points")=false:=Zd
theorem n3:(("move_point" : Str) == "points")=false:=Zd
theorem Acy:asc "points" := by unfold asc;lk
theorem Adg:asc "counts" := by unfold asc;lk
theorem Agl:asc "pairs" := by unfold asc;lk
theorem Aa7:asc "take" := by unfold asc;lk
theorem Alw:asc "move" := by unfold asc;lk
theorem Aha:asc "put" := by unfold asc;lk
theorem Sz(T:Dk L d k p m)(hi:Ae i δ L=ξ (.ref d,L)):(B0 "KeptPoints" "points_now" 1 Bo (Ij "Desk" "kept" (Ae i)) Ah) δ L=ξ (.tup (m.map ptU),L):=
 Ag0 T.kp n7 (T.fld hi) (us:=[]) rfl rfl (Xa T.kp)
theorem Aq4(T:Dk L d k p m)(hl:m.length < 60):Ed [.ref d] L=ξ (.non,L):=by
 have h1:Ap [.tup (m.map ptU)] L=ξ (.int (m.length:Nat),L):=by simp[Ap,lenU]
 have h2:(Av (f2 V8 (Ay Ap (Ad (B0 "KeptPoints" "points_now" 1 Bo (Ij "Desk" "kept" (Ae 0)) Ah) Ah)) ZbY)) [ξ (.ref d)] L=ξ (false,L):=by
  refine B1 (Ax (Ea (Sz T rfl) h1) rfl ?_);rw[Ai9];have:¬ ((m.length:Int) ≥ 60):=Ze
  simp[this]
 have h3:Hc [ξ (.ref d)] L=ξ (.nx [ξ (.ref d)],L):=by
  unfold Hc;exact Cm h2
 unfold Ed fnU;simp only[aM,aV,if_true,aI,bI,cS,bO,aR];rw[h3];rfl
theorem Aa8{c:FT}{f:FS}(h:c δ L=ξ (false,L')):C6 c f g δ L=g δ L':=by
 rw[Il,h];rfl
theorem Aj7(T:Dk L d k p m)(hl:m.length < 60)(h:Jd m nm=false) :
  Bl [.ref d,.str "put",.tup [.str nm,.int x,.int y]] L=ξ Zei:=by
 have e:=Ary (nm:=nm) (x:=x) (y:=y) T.kp h Ze;have s1:(Dl (B0 "Desk" "need_room" 1 Ed (Ae 0) Ah)) [ξ (.ref d),ξ (.str "put"),ξ ZG] L=ξ (.nx [ξ (.ref d),ξ (.str "put"),ξ ZG],L):=
  L9 (Wn T d1 rfl (us:=[]) rfl rfl (Aq4 T hl))
 have s2:(Dl (B0 "KeptPoints" "put_point" 4 Cy (Ij "Desk" "kept" (Ae 0)) Zao)) [ξ (.ref d),ξ (.str "put"),ξ ZG] L=ξ (.nx [ξ (.ref d),ξ (.str "put"),ξ ZG],L.set p ZO):=
  L9 (Ag0 T.kp n1 (T.fld rfl) (us:=[.str nm,.int x,.int y]) rfl rfl e)
 have s3:Cc [ξ (.ref d),ξ (.str "put"),ξ ZG] L=ξ (.nx [ξ (.ref d),ξ (.str "put"),ξ ZG],L.set p ZO):=by
  unfold Cc;rw[E5 (by rw[eqS Aha Aha rfl,decide_eq_true rfl]),Bf s1,s2]
 unfold Bl fnU;simp only[aM,aV,if_true,aI,bI,cS,bO,aR];rw[s3];rfl
theorem Adz(T:Dk L d k p m)(h:Jd m nm=true) :
  Bl [.ref d,.str "take",.tup [.str nm]] L=ξ (.non,L.set p Zcu):=by
 have e:=Alq (nm:=nm) T.kp h;have s2:(Dl (B0 "KeptPoints" "take_point" 2 Cq (Ij "Desk" "kept" (Ae 0)) (Ad ZQ Ah))) [ξ (.ref d),ξ (.str "take"),ξ (.tup [.str nm])] L=ξ (.nx [ξ (.ref d),ξ (.str "take"),ξ (.tup [.str nm])],L.set p Zcu):=
  L9 (Ag0 T.kp n2 (T.fld rfl) (us:=[.str nm]) rfl rfl e)
 have s3:Cc [ξ (.ref d),ξ (.str "take"),ξ (.tup [.str nm])] L=ξ (.nx [ξ (.ref d),ξ (.str "take"),ξ (.tup [.str nm])],L.set p Zcu):=by
  unfold Cc;rw[Aa8 (by rw[eqS Aa7 Aha rfl,decide_eq_false Zb]),E5 (by rw[eqS Aa7 Aa7 rfl,decide_eq_true rfl]),s2]
 unfold Bl fnU;simp only[aM,aV,if_true,aI,bI,cS,bO,aR];rw[s3];rfl
theorem Ac8(T:Dk L d k p m)(h:Jd m nm=true)(hl:m.length < 1000) :
  Bl [.ref d,.str "move",.tup [.str nm,.int x,.int y]] L=ξ Zei:=by
 have e:=Ak0 (nm:=nm) (x:=x) (y:=y) T.kp h hl;have s2:(Dl (B0 "KeptPoints" "move_point" 4 Cu (Ij "Desk" "kept" (Ae 0)) Zao)) [ξ (.ref d),ξ (.str "move"),ξ ZG] L=ξ (.nx [ξ (.ref d),ξ (.str "move"),ξ ZG],L.set p ZO):=
  L9 (Ag0 T.kp n3 (T.fld rfl) (us:=[.str nm,.int x,.int y]) rfl rfl e)
 have s3:Cc [ξ (.ref d),ξ (.str "move"),ξ ZG] L=ξ (.nx [ξ (.ref d),ξ (.str "move"),ξ ZG],L.set p ZO):=by
  unfold Cc;rw[Aa8 (by rw[eqS Alw Aha rfl,decide_eq_false Zb]),Aa8 (by rw[eqS Alw Aa7 rfl,decide_eq_false Zb]),s2]
 unfold Bl fnU;simp only[aM,aV,if_true,aI,bI,cS,bO,aR];rw[s3];rfl
theorem Lb:asc "halves" := by unfold asc;lk
theorem La:asc "stairs" := by unfold asc;lk
theorem Aqq:asc "below" := by unfold asc;lk
theorem Arb:asc "above" := by unfold asc;lk
theorem A21:asc "box" := by unfold asc;lk
theorem Ao5:asc "nth" := by unfold asc;lk
variable {line:Str}
theorem Aor{d:U}{line:Str}{ws:List Str}{L:UH}(hw:eW line " " = ws)(hl:line.length<=1000) :
  (Bh (Dc "str" Jh (Ae 1) (Ad (fC (.str " ")) Ah)) (gN 2)) [ξ d,ξ (.str line),ψ,ψ] L=ξ (.nx [ξ d,ξ (.str line),ξ ZD,ψ],L++[.lst ZaG]):=by
 refine Eg (i:=2) (δ:=[ξ d,ξ (.str line),ψ,ψ]) ?_;rw[fMeth_eq];have h1:((" " : Str).length == 0)=false:=Zd
 have h2:Jh (.str line) [.str " "] L=ξ (.ref L.length,L++[.lst ZaG]):=by
  unfold Jh;simp only;rw[if_pos ⟨h1,Ze⟩,hw]
 exact h2
theorem Am2:Eb.lookup ("put" : Str)=ξ (["name","number","number"]:List Str):=Zd
theorem Aj5:Eb.lookup ("take" : Str)=ξ (["name"]:List Str):=Zd
theorem Ajx:Eb.lookup ("move" : Str)=ξ (["name","number","number"]:List Str):=Zd
theorem Ab2:Eb.lookup ("halves" : Str)=ξ []:=Zd
theorem Ado:Eb.lookup ("stairs" : Str)=ξ []:=Zd
theorem Aog:Eb.lookup ("nth" : Str)=ξ (["place","number","number","number","number"]:List Str):=Zd
abbrev inD(w:Str)(b:Bool):Prop:=∀ L:UH,G7 false (.str w) (.tup [.str "put",.str "take",.str "move"]) L=ξ (.bl b,L)
theorem Avh:inD "put" true:=fun L=>by kernel_rfl
theorem Ash:inD "take" true:=fun L=>by kernel_rfl
theorem Ari:inD "move" true:=fun L=>by kernel_rfl
theorem Aj9:inD "halves" false:=fun L=>by kernel_rfl
theorem Aks:inD "stairs" false:=fun L=>by kernel_rfl
theorem Avg:inD "nth" false:=fun L=>by kernel_rfl
structure Asks(line w0:Str)(as:List Wv):Prop where
 ws:eW line " " = w0::as.map (·.1)
 le:line.length<=1000
 lk:Eb.lookup w0=ξ (as.map (·.2.1))
 sz:as.length<=10
 vl:∀ a∈as,∀ M:UH,∃ M',Fg [.str a.1,.str a.2.1] M=ξ (a.2.2,M')/\Gw M M'
structure Asked(L L2:UH)(d k p:Nat)(m:List NP)(line w0:Str)(as:List Wv):Prop where
 s1:(Bh (Dc "str" Jh (Ae 1) (Ad (fC (.str " ")) Ah)) (gN 2)) Zbp L=ξ (.nx Zcj,L++[.lst ((w0::as.map (·.1)).map U.str)])
 s2:(Bh (A9 1 G2 ZbF) (gN 3)) Zcj (L++[.lst ((w0::as.map (·.1)).map U.str)])=ξ (.nx [ξ (.ref d),ξ (.str line),ξ ZD,ξ (.tup (as.map (·.2.2)))],L2)
 i0:(f2 Al (Ae 2) Zh) [ξ (.ref d),ξ (.str line),ξ ZD,ξ (.tup (as.map (·.2.2)))] L2=ξ (.str w0,L2)
 dk:Dk L2 d k p m
 gw:Gw L L2
theorem asked(T:Dk L d k p m)(W:Asks line w0 as):∃ L2,Asked L L2 d k p m line w0 as:=by
 have s1:=Aor (d:=.ref d) (L:=L) W.ws W.le;have g1:=Gw.new L [.lst ((w0::as.map (·.1)).map U.str)];have hr:(L++[HU.lst ((w0::as.map (·.1)).map U.str)])[L.length]? = ξ (.lst ((w0::as.map (·.1)).map U.str)):=Za
 obtain ⟨L2,e2,g2⟩:=Al5 hr W.lk W.sz W.vl;have hr2:=g2.get hr;exact ⟨L2,s1,Eg (i:=3) (δ:=Zcj) (Qj (i:=2) rfl e2),Ax rfl rfl (F0 hr2 (by exact Jb (k:=0) rfl)),(T.gw g1).gw g2,g1.trans g2⟩
inductive Ans(v:Option (U×UH))(L:UH)(out:List Str):Prop
 | mk (r:Nat) (L':UH) (e:v=ξ (.ref r,L')) (h:L'[r]? = ξ (.lst (out.map U.str))) (g:Gw L L') (l:L.length<=r)
inductive Chg(v:Option (U×UH))(L:UH)(d k p:Nat)(m:List NP):Prop
 | mk (r:Nat) (L':UH) (e:v=ξ (.ref r,L')) (h:L'[r]? = ξ (.lst [])) (T:Dk L' d k p m) (x:Ex p L L') (l:L.length<=r)
theorem P2(T:Dk L d k p m)(W:Asks line w0 as)(hin:inD w0 true)
  (hc:∀ L:UH,Dk L d k p m->Bl [.ref d,.str w0,.tup (as.map (·.2.2))] L=ξ (.non,L.set p ZcU)) :
  Chg Zcv L d k p m':=by
 obtain ⟨L2,q1,q2,q3,q4,q5⟩:=asked T W;generalize L++[HU.lst ((w0::nY (·.1) as).map U.str)]=L1 at q1 q2;generalize as.map (·.2.2)=us at q2 q3 hc;have c3:(Av (f2 (G7 false) ZQ (Gi (Ad (fC (.str "put")) (Ad (fC (.str "take")) (Ad (fC (.str "move")) Ah)))))) ZaC L2=ξ (true,L2):=
  B1 ZcL
 have e3:=hc L2 q4;have T3:=q4.set (m':=m');have x3:=(q5.ex p).trans (Ex.put p L2 ZcU);generalize L2.set p ZcU=L3 at e3 T3 x3;have s3:(Dl (B0 "Desk" "change_points" 3 Bl (Ae 0) (Ad ZQ ZB))) ZaC L2=ξ (.nx ZaC,L3):=
  L9 (Wn q4 d2 rfl (us:=[.str w0,.tup us]) (Bp q3 rfl) rfl e3)
 refine ⟨L3.length,L3++[.lst []],?_,Za,T3.gw (Gw.new L3 _),x3.trans (Ex.new p L3 _),x3.le⟩;refine fnN (n:=4) rfl ?_;show Fz Zbp L=_;unfold Fz;refine A8 q1 (A8 q2 (Kq ?_));show (C6 _ _ B2) ZaC L2=_;rw[E5 c3,Bf s3];refine B8 ?_;rw[fLst_eq];rfl
variable {out:List Str}
theorem Acq(T:Dk L d k p m)(W:Asks line w0 [])(hin:inD w0 false)
  (hc:∀ L:UH,∃ v L1,K3 [.str w0,.tup (m.map ptU)] L=ξ (v,L1)/\Gw L L1/\Ans (Cz [v] L1) L1 out) :
  Ans Zcv L out:=by
 obtain ⟨L2,q1,q2,q3,q4,q5⟩:=asked T W;generalize L++[HU.lst ((w0::nY (·.1) ([]:List Wv)).map U.str)]=L1 at q1 q2;have c3:(Av (f2 (G7 false) ZQ (Gi (Ad (fC (.str "put")) (Ad (fC (.str "take")) (Ad (fC (.str "move")) Ah)))))) [ξ (.ref d),ξ (.str line),ξ ZD,ξ (.tup (([]:List Wv).map (·.2.2)))] L2=ξ (false,L2):=
  B1 ZcL
 have c4:(G5 (Ae 3)) [ξ (.ref d),ξ (.str line),ξ ZD,ξ (.tup (([]:List Wv).map (·.2.2)))] L2=ξ (false,L2):=rfl;obtain ⟨v,L3,e3,g3,r,L4,e4,h4,g4,l4⟩:=hc L2;have gg:=q5.trans g3;refine ⟨r,L4,fnN (n:=4) rfl ?_,h4,gg.trans g4,bW gg.le l4⟩;show Fz Zbp L=_;unfold Fz;refine A8 q1 (A8 q2 (A8 (Cm c3) (A8 (Cm c4) (B8 (Amx (Fy q3 (Sz (i:=0) q4 rfl) e3) e4)))))
theorem Aof{a:Wv}(T:Dk L d k p m)(W:Asks line w0 (a::as))(hin:inD w0 false)
  (hc:∀ L:UH,Dk L d k p m->∃ v L1,E2 [.ref d,.str w0,.tup ((a::as).map (·.2.2))] L=ξ (v,L1)/\Gw L L1/\Ans (Cz [.ref L1.length] (L1++[.lst [v]])) (L1++[.lst [v]]) out) :
  Ans Zcv L out:=by
 obtain ⟨L2,q1,q2,q3,q4,q5⟩:=asked T W;generalize L++[HU.lst ((w0::nY (·.1) (a::as)).map U.str)]=L1 at q1 q2;obtain ⟨v,L3,e3,g3,r,L4,e4,h4,g4,l4⟩:=hc L2 q4;have hc4:∃ u us,(a::as).map (·.2.2)=u::us:=⟨_,_,rfl⟩;obtain ⟨u,us,hus⟩:=hc4;rw[hus] at q2 q3 e3;have c3:(Av (f2 (G7 false) ZQ (Gi (Ad (fC (.str "put")) (Ad (fC (.str "take")) (Ad (fC (.str "move")) Ah)))))) Zbj L2=ξ (false,L2):=
  B1 ZcL
 have c4:(G5 (Ae 3)) Zbj L2=ξ (true,L2):=rfl;have gg:=q5.trans (g3.trans (Gw.new L3 [.lst [v]]));have e5:(Cg (Ad (B0 "Desk" "told_at" 3 E2 (Ae 0) (Ad ZQ ZB)) Ah)) Zbj L2=ξ (.ref L3.length,L3++[.lst [v]]):=by
  exact Aft (Wn q4 d4 rfl (us:=[.str w0,.tup (u::us)]) (Bp q3 rfl) rfl e3)
 refine ⟨r,L4,fnN (n:=4) rfl ?_,h4,gg.trans g4,bW gg.le l4⟩;show Fz Zbp L=_;unfold Fz;refine A8 q1 (A8 q2 (A8 (Cm c3) (Kq ?_)));rw[E5 c4];exact B8 (Amx e5 e4)
noncomputable abbrev Po:=U×Str
def Ru(p:Po):Prop:=∀ L:UH,Uc [p.1] L=ξ (.str p.2,L)
theorem Acr(x:Str):Ru (.str x,x):=fun _=>rfl
theorem Al3{n:Int}(h:Nl n=true):Ru (.int n,Wy n):=fun L=>by
 show (if Nl n=true then ξ (U.str (Wy n),L) else ψ)=_;rw[if_pos h]
theorem Ra:∀ ws:List Str,mapO toS ZaG=ξ ws
 | []=>rfl
 | w::ws=>by
  rw[aI];show (ξ w).bind (fun a=>(mapO toS ZaG).map (a :: ·))=_;rw[Ra ws];rfl
theorem Aw0{ps:List Po}(hp:∀ p∈ps,Ru p)(hl:ps.length<=1000)(hs:((ps.map (·.2)).map (·.length)).sum+(ps.map (·.2)).length<=1048576)(L:UH) :
  ∃ L',Oc [.tup (ps.map (·.1))] L=ξ (.str (gU " " (ps.map (·.2))),L')/\Gw L L':=by
 obtain ⟨x,ec⟩:=Bu (ix:=[ψ]) (fi:=Br (Ae 0)) (g:=gN 0) (tt:=ψ) (fe:=Fd) (δ:=[ξ (.tup (ps.map (·.1)))]) (L:=L) (L0:=L) (it:=.seq (ps.map (·.1))) ps (·.1) Zaf (fun p=>U.str p.2) (fun δ=>δ.length=1) rfl
  (by simp[IU.size]) Ze rfl (fun k x=>by simp[IU.at])
  (fun a δ x ha hδ=>by
   match δ,hδ with
   | [u0],_=>
    refine ⟨[ξ a.1],rfl,rfl,[],by simp[Ft],fun _=>⟨[],?_⟩⟩;unfold Fd;refine Ea rfl ?_;rw[hp a ha];simp)
 rw[cZ.mpr Zg] at ec;have em:ps.map (fun p=>U.str p.2)=(ps.map (·.2)).map U.str:=by rw[bJ];rfl
 rw[em] at ec;generalize hws:ps.map (·.2)=ws at ec hs;refine ⟨_,fnN (n:=1) rfl ?_,⟨x++[.lst ZaG],by rw[<- bA]⟩⟩;show N7 [ξ (.tup (ps.map (·.1)))] L=_;unfold N7;refine B8 ?_;have h2:Ey (.str " ") [.ref (L++x).length] (L++x++[.lst ZaG])=ξ (.str (gU " " ws),L++x++[.lst ZaG]):=by
  have h1:Gz (L++x++[HU.lst ZaG]) (L++x).length=ξ ZaG:=by
   have:(L++x++[HU.lst ZaG])[(L++x).length]? = ξ (.lst ZaG):=Za
   unfold Gz;rw[this]
  have h4:(" " : Str).length<=16/\(ws.map (·.length)).sum+ws.length<=1048576:=⟨Zd,hs⟩;unfold Ey;simp only[h1,aB,Ra];rw[if_pos h4]
 have ha:(Ad ZcK Ah) [ξ (.tup (ps.map (·.1)))] L=ξ ([.ref (L++x).length],L++x++[.lst ZaG]):=Bp ec rfl;rw[fMeth_eq,fC_eq,aB];show (if true=true then ((Ad ZcK Ah) [ξ (.tup (ps.map (·.1)))] L).bind _ else ψ)=_;rw[if_pos rfl,ha];exact h2
structure RowsOk(rows:List (List Po)):Prop where
 n:rows.length<=1000
 ok:∀ ps∈rows,ps≠[]/\(∀ p∈ps,Ru p)/\ps.length<=1000/\((ps.map (·.2)).map (·.length)).sum+(ps.map (·.2)).length<=1048576
def Hw(rows:List (List Po)):List Str:=rows.map fun ps=>gU " " (ps.map (·.2))
variable {rows:List (List Po)}
theorem X0{it:IU}(hi:(Br (Ae 0)) [ξ v] L=ξ (it,L))(hsz:rows.length<=it.size L)(hat:∀ k x,it.at k (L++x)=ξ (rows.map fun ps=>U.tup (ps.map (·.1)))[k]?)(R:RowsOk rows) :
  Ans (Cz [v] L) L (Hw rows):=by
 obtain ⟨x,ec⟩:=Bu (ix:=[ψ]) (fi:=Br (Ae 0)) (g:=gN 0) (tt:=ξ b_rows_shown_1t) (fe:=My) (δ:=[ξ v]) (L:=L) (L0:=L) (it:=it) rows (fun ps=>U.tup (ps.map (·.1))) Zaf (fun ps=>U.str (gU " " (ps.map (·.2)))) (fun δ=>δ.length=1)
  hi (by simpa using hsz) (by have:=R.n;omega) rfl hat
  (fun a δ x ha hδ=>by
   match δ,hδ with
   | [u0],_=>
    obtain ⟨h1,h2,h3,h4⟩:=R.ok a ha;have ht:Ft (ξ b_rows_shown_1t) [ξ (.tup (a.map (·.1)))] (L++x)=ξ (true,L++x++[]):=by
     cases a with
     | nil=>exact absurd rfl h1
     | cons p ps=>simp[Ft,b_rows_shown_1t,Ua]
    refine ⟨[ξ (.tup (a.map (·.1)))],rfl,rfl,[],ht,fun _=>?_⟩;obtain ⟨M',em,z,hz⟩:=Aw0 h2 h3 h4 (L++x++[]);subst hz;exact ⟨z,Qj rfl em⟩)
 rw[cZ.mpr Zg] at ec;have em:rows.map (fun ps=>U.str (gU " " (ps.map (·.2))))=(Hw rows).map U.str:=by unfold Hw;rw[bJ];rfl
 rw[em] at ec;generalize Hw rows=out at ec;refine ⟨(L++x).length,L++x++[.lst ZbM],fnN (n:=1) rfl ?_,Za,⟨x++[.lst ZbM],by rw[<- bA]⟩,Za⟩;show Me [ξ v] L=_;unfold Me;exact B8 ec
theorem Al1(hr:L[r]? = ξ (.lst (rows.map fun ps=>U.tup (ps.map (·.1)))))(R:RowsOk rows):Ans (Cz [.ref r] L) L (Hw rows):=by
 have hsq:=Am hr;exact X0 (it:=.ref r) (by rw[Df];show (Gm (.ref r) L).map _=_;rw[Ck hsq];rfl) (by rw[D9 hsq];simp) ZaD R
theorem Xo(R:RowsOk rows):Ans (Cz [.tup (rows.map fun ps=>U.tup (ps.map (·.1)))] L) L (Hw rows):=
 X0 (it:=.seq (rows.map fun ps=>U.tup (ps.map (·.1)))) rfl (by simp[IU.size]) (fun k x=>by simp[IU.at]) R
theorem Ah5{n:Int}(h:-9999999999<=n/\n<=9999999999):(eP (fig n) "-").length<=10:=by
 have hd:=Abq 9 n.natAbs Ze;by_cases h0:n < 0
 ·have hx:(fig n).cps.toList=45::dig n.natAbs:=by rw[fig_cps,if_pos h0];rfl
  have hm:(fK "-").contains 45=true:=Zd
  have hlo:1<=stripLo (fK "-").contains true (fig n):=by
   unfold stripLo;rw[if_pos rfl,hx,List.takeWhile_cons,if_pos hm];simp
  have hsame:stripSame (fK "-").contains true false (fig n)=false:=by
   unfold stripSame;have:(stripLo (fK "-").contains true (fig n) == 0)=false:=by simp;omega
   rw[this];rfl
  have hl:(fig n).length=(dig n.natAbs).length+1:=by rw[len_cps,hx];rfl
  unfold eP Txt.stripBy;rw[hsame];simp only[bN,if_false];unfold stripped stripHi;simp only[bN,if_false];rw[len_cps,StrLaws.strSub_toList,fL];omega
 ·have hx:(fig n).cps.toList=dig n.natAbs:=by rw[fig_cps,if_neg h0];rfl
  have hl:(fig n).length=(dig n.natAbs).length:=by rw[len_cps,hx]
  have:=Amj (fig n) "-";omega
theorem Akq{n:Int}(h:-9999999999<=n/\n<=9999999999)(L:UH):∃ L',Fg [.str (fig n),.str "number"] L=ξ (.int n,L')/\Gw L L':=by
 obtain ⟨L1,e,g⟩:=Qw (n:=n) h L;have hl:=C1 h;have hs:=Ah5 h;have n1:¬ (("number" : Str) = "name"):=Zd
 have n2:¬ (("number" : Str) = "place"):=Zd
 refine ⟨L1,fnN (n:=2) rfl ?_,g⟩;show F4 [ξ Za2,ξ (.str "number")] L=_;unfold F4;refine A8 (Cm (by rw[eqS Acz Abo rfl,decide_eq_false n1])) ?_;have hg:(Av (f2 Vd (Ay Ap (Ad (Dc "str" Fh (Ae 0) (Ad (fC (.str "-")) Ah)) Ah)) Z1)) [ξ Za2,ξ (.str "number")] L1=ξ (false,L1):=by
  have e0:(Dc "str" Fh (Ae 0) (Ad (fC (.str "-")) Ah)) [ξ Za2,ξ (.str "number")] L1=ξ (.str (eP (fig n) "-"),L1):=by
   rw[fMeth_eq];simp[tyU,Fh];omega
  refine B1 (Ax (Ea e0 (Ae7 Ze L1)) rfl ?_);rw[Yo];have:¬ (((eP (fig n) "-").length:Int) > 10):=Ze
  simp[this]
 refine A8 (Cm (orF (Rk (Qj rfl e)) hg)) ?_;refine A8 (L':=L1) (Cm ?_) ?_
 ·rw[Rh,eqS Acz Uq rfl,decide_eq_false n2];rfl
 refine B8 ?_;have hi:Lq [.str (fig n)] L1=ξ (.int n,L1):=by
  unfold Lq;simp only[Ahn h,aE];rw[if_pos Ze]
 exact Ea rfl hi
theorem Acd{n:Int}(h:-9999999999<=n/\n<=9999999999)(h0:0<=n)(L:UH):∃ L',Fg [.str (fig n),.str "place"] L=ξ (.int n,L')/\Gw L L':=by
 obtain ⟨L1,e,g⟩:=Qw (n:=n) h L;have hl:=C1 h;have hs:=Ah5 h;have n1:¬ (("place" : Str) = "name"):=Zd
 refine ⟨L1,fnN (n:=2) rfl ?_,g⟩;show F4 [ξ Za2,ξ (.str "place")] L=_;unfold F4;refine A8 (Cm (by rw[eqS Uq Abo rfl,decide_eq_false n1])) ?_;have hg:(Av (f2 Vd (Ay Ap (Ad (Dc "str" Fh (Ae 0) (Ad (fC (.str "-")) Ah)) Ah)) Z1)) [ξ Za2,ξ (.str "place")] L1=ξ (false,L1):=by
  have e0:(Dc "str" Fh (Ae 0) (Ad (fC (.str "-")) Ah)) [ξ Za2,ξ (.str "place")] L1=ξ (.str (eP (fig n) "-"),L1):=by
   rw[fMeth_eq];simp[tyU,Fh];omega
  refine B1 (Ax (Ea e0 (Ae7 Ze L1)) rfl ?_);rw[Yo];have:¬ (((eP (fig n) "-").length:Int) > 10):=Ze
  simp[this]
 refine A8 (Cm (orF (Rk (Qj rfl e)) hg)) ?_;refine A8 (L':=L1) (Cm ?_) ?_
 ·have h1:(G5 (Dc "str" semStarts (Ae 0) (Ad (fC (.str "-")) Ah))) [ξ Za2,ξ (.str "place")] L1=ξ (false,L1):=by
   have h2:=Q9 n;rw[decide_eq_false Ze] at h2;rw[fTru_eq,fMeth_eq];simp[tyU,semStarts,h2]
  rw[Rh,eqS Uq Uq rfl,decide_eq_true rfl];simp only[aB,if_true,h1]
 refine B8 ?_;have hi:Lq [.str (fig n)] L1=ξ (.int n,L1):=by
  unfold Lq;simp only[Ahn h,aE];rw[if_pos Ze]
 exact Ea rfl hi
abbrev Ten(n:Int):Prop:=-9999999999<=n/\n<=9999999999
inductive GoodW:Wv->Prop
 | name {w:Str} (h:Nm w):GoodW (w,"name",.str w)
 | num {n:Int} (h:Ten n):GoodW (fig n,"number",.int n)
 | plc {n:Int} (h:Ten n) (h0:0<=n):GoodW (fig n,"place",.int n)
theorem Aqd(h:Nm w):32∉w.cps.toList:=fun hc=>by have:=h.2.2 _ hc;omega
theorem GoodW.free{a:Wv}(h:GoodW a):32∉a.1.cps.toList:=by
 cases h with
 | name h=>exact Aqd h
 | num h=>exact Adh Ze
 | plc h h0=>exact Adh Ze
theorem GoodW.len{a:Wv}(h:GoodW a):a.1.length<=11:=by
 cases h with
 | name h=>have:=h.2.1;simp only;omega
 | num h=>exact C1 h
 | plc h h0=>exact C1 h
theorem GoodW.val{a:Wv}(h:GoodW a)(M:UH):∃ M',Fg [.str a.1,.str a.2.1] M=ξ (a.2.2,M')/\Gw M M':=by
 cases h with
 | name h=>exact Ae8 h M
 | num h=>exact Akq h M
 | plc h h0=>exact Acd h h0 M
theorem Aia:∀ l:List Str,(∀ w∈l,w.length<=11)->(gX ⟨#[32]⟩ l).length<=12 * l.length
 | [],_=>by rw[len_cps];exact eG _
 | [x],h=>by
  have:=h x Za;show x.length<=_;simp only[aM,aV];omega
 | a::b::r,h=>by
  have h1:=h a Za;have h2:=Aia (b::r) (fun w hw=>h w (aO _ hw));rw[len_cps] at h1 h2 ⊢;rw[Im,bV,aM];simp only[aM] at h2 ⊢;omega
theorem Ot(hw:line=gX ⟨#[32]⟩ (w0::as.map (·.1)))(h0:32∉w0.cps.toList)(hl:w0.length<=11)(lk:Eb.lookup w0=ξ (as.map (·.2.1)))(sz:as.length<=10)(vl:∀ a∈as,GoodW a):Asks line w0 as:=by
 have hf:∀ w∈w0::as.map (·.1),32∉w.cps.toList/\w.length<=11:=fun w hw=>by
  rcases bG.mp hw with rfl | hw
  ·exact ⟨h0,hl⟩
  ·obtain ⟨a,ha,rfl⟩:=bT.mp hw;exact ⟨(vl a ha).free,(vl a ha).len⟩
 refine ⟨?_,?_,lk,sz,fun a ha M=>(vl a ha).val M⟩
 ·rw[hw,Atv];exact Aeu Za fun w hw=>(hf w hw).1
 ·have:=Aia (w0::as.map (·.1)) (fun w hw=>(hf w hw).2);rw[hw];simp only[aM,aL] at this;omega
theorem Alr(l:List Str):gU " " l=gX ⟨#[32]⟩ l:=by rw[Atv];exact StrLaws.glued_eq_join _ _
theorem Agy(a:Str):gX ⟨#[32]⟩ [a]=a:=rfl
theorem join2(a b:Str)(r:List Str):gX ⟨#[32]⟩ (a::b::r)=a ++ " " ++ gX ⟨#[32]⟩ (b::r):=by
 apply Fv;rw[Im,app_cps,app_cps,Am3];simp
theorem Ry(a b c:Str):a++b++c=a++(b++c):=by
 apply Fv;rw[app_cps,app_cps,app_cps,app_cps,bA]
theorem e_app(a:Str):jQ++a=a:=by
 apply Fv;rw[app_cps];rfl
theorem Aym:("put " : Str) = "put" ++ " " := by lk
theorem Au6:("take " : Str) = "take" ++ " " := by lk
theorem Au4:("move " : Str) = "move" ++ " " := by lk
theorem Atq:("put " : Str).length=4:=Zd
theorem Awp:("take " : Str).length=5:=Zd
theorem Awo:("move " : Str).length=5:=Zd
theorem At9:32∉(fK "put").toList/\("put" : Str).length<=11:=Zd
theorem Ami:32∉(fK "take").toList/\("take" : Str).length<=11:=Zd
theorem Ak7:32∉(fK "move").toList/\("move" : Str).length<=11:=Zd
def Ki(a:Str)(x y:Int):Str:=gX ⟨#[32]⟩ [a,fig x,fig y]
theorem Ahz(a:Str)(x y:Int):Ki a x y=a++(" " ++ fig x ++ " " ++ fig y):=by
 unfold Ki;rw[join2,join2,Agy];simp only[Ry]
theorem Aou(hn:Nm nm)(hx:Ten x)(hy:Ten y):Asks ("put " ++ Ki nm x y) "put" [(nm,"name",.str nm),(fig x,"number",.int x),(fig y,"number",.int y)]:=
 Ot (by rw[Aym,aI,join2];rfl) At9.1 At9.2 Am2 Za (fun a ha=>by
  simp only[bG,cX,or_false] at ha;rcases ha with rfl | rfl | rfl
  ·exact .name hn
  ·exact .num hx
  ·exact .num hy)
theorem Ai1(hn:Nm nm)(hx:Ten x)(hy:Ten y):Asks ("move " ++ Ki nm x y) "move" [(nm,"name",.str nm),(fig x,"number",.int x),(fig y,"number",.int y)]:=
 Ot (by rw[Au4,aI,join2];rfl) Ak7.1 Ak7.2 Ajx Za (fun a ha=>by
  simp only[bG,cX,or_false] at ha;rcases ha with rfl | rfl | rfl
  ·exact .name hn
  ·exact .num hx
  ·exact .num hy)
theorem Ajr(hn:Nm nm):Asks ("take " ++ nm) "take" [(nm,"name",.str nm)]:=
 Ot (by rw[Au6,aI,join2];rfl) Ami.1 Ami.2 Aj5 Za (fun a ha=>by
  simp only[bG,cX,or_false] at ha;subst ha;exact .name hn)
def OkP(m:List NP):Prop:=∀ p∈m,Nm p.1/\Ten p.2.1/\Ten p.2.2
theorem V9{n:Int}(h:Ten n):Ru (.int n,fig n):=by have:=Al3 (Ahi h);rw[Agx] at this;exact this
def Qy(m:List NP):List Str:=m.map fun p=>Ki p.1 p.2.1 p.2.2
theorem Agq(T:Dk L d k p m)(hl:m.length < 60)(h:Jd m nm=false)(hn:Nm nm)(hx:Ten x)(hy:Ten y):Chg (Bs [.ref d,.str ("put " ++ Ki nm x y)] L) L d k p (Lv m nm (x,y)):=
 P2 T (Aou hn hx hy) Avh fun L T=>Aj7 T hl h
theorem Amh(T:Dk L d k p m)(h:Jd m nm=true)(hn:Nm nm):Chg (Bs [.ref d,.str ("take " ++ nm)] L) L d k p (O1 m nm):=
 P2 T (Ajr hn) Ash fun L T=>Adz T h
theorem Anz(T:Dk L d k p m)(hl:m.length < 1000)(h:Jd m nm=true)(hn:Nm nm)(hx:Ten x)(hy:Ten y):Chg (Bs [.ref d,.str ("move " ++ Ki nm x y)] L) L d k p (Lv m nm (x,y)):=
 P2 T (Ai1 hn hx hy) Ari fun L T=>Ac8 T h hl
structure Seed(L:UH)(d:Nat)(B:Int):Prop where
 ex:∃ (a b c e:Int),L[d]? = ξ (.lst [.int a,.int b,.int c,.int e])/\0<=a/\0<=c/\c<=B/\0<=e/\e < 1999999891
variable {B:Int}
theorem Seed.lt(h:Seed L d B):d < L.length:=by
 obtain ⟨a,b,c,e,h1,_⟩:=h.ex;exact (aQ.mp h1).1
variable {B':Int}
theorem Seed.mono(h:Seed L d B)(hb:B<=B'):Seed L d B':=by
 obtain ⟨a,b,c,e,h1,h2,h3,h4,h5⟩:=h.ex;exact ⟨a,b,c,e,h1,h2,h3,Ze,h5⟩
theorem Seed.new(h:Seed L d B)(x:List HU):Seed (L++x) d B:=by
 obtain ⟨a,b,c,e,h1,h2⟩:=h.ex;exact ⟨a,b,c,e,by rw[bL (aQ.mp h1).1];exact h1,h2⟩
theorem Seed.set(h:Seed L d B)(hn:n≠d)(o:HU):Seed (L.set n o) d B:=by
 obtain ⟨a,b,c,e,h1,h2⟩:=h.ex;exact ⟨a,b,c,e,by rw[cJ hn];exact h1,h2⟩
theorem Seed.gw(h:Seed L d B)(g:Gw L L'):Seed L' d B:=by obtain ⟨x,rfl⟩:=g;exact h.new x
theorem Dt{many:Int}(D:Seed L d B)(hB:B<=1000000000000)(h0:0 < many)(h1:many < 1000000000000000) :
  ∃ r L',A0 [.ref d,.int many] L=ξ (.int r,L')/\0<=r/\r < many/\Seed L' d (B+1)/\Ex d L L':=by
 obtain ⟨a,b,c,e,hd,ha,hc0,hc1,he0,he1⟩:=D.ex;have hdl:d < L.length:=(aQ.mp hd).1;have q1:=Am hd;have q2:=Ew hd;have md:∀ x:Int,0<=x % many/\x % many < many:=fun x=>⟨oV _ Ze,mR _ h0⟩
 have i0:∀ (x0 x1 x2 x3:U),L2.atI [x0,x1,x2,x3] 0=ξ x0:=fun _ _ _ _=>rfl
 have i1:∀ (x0 x1 x2 x3:U),L2.atI [x0,x1,x2,x3] 1=ξ x1:=fun _ _ _ _=>rfl
 have i2:∀ (x0 x1 x2 x3:U),L2.atI [x0,x1,x2,x3] 2=ξ x2:=fun _ _ _ _=>rfl
 have i3:∀ (x0 x1 x2 x3:U),L2.atI [x0,x1,x2,x3] 3=ξ x3:=fun _ _ _ _=>rfl
 have j0:ixN 4 0=ξ 0:=rfl;have j2:ixN 4 2=ξ 2:=rfl;have set1:∀ us:List U,Aw (L.set d (.lst us)) d=ξ us/\Gz (L.set d (.lst us)) d=ξ us:=fun us=>by
  have:(L.set d (.lst us))[d]? = ξ (.lst us):=bX hdl;exact ⟨Am this,Ew this⟩
 have s1:=set1 [.int a,.int b,.int (c+1),.int e];have keep:∀ x:Int,0<=x->Seed (L.set d (.lst [.int x,.int b,.int (c+1),.int e])) d (B+1)/\Ex d L (L.set d (.lst [.int x,.int b,.int (c+1),.int e])):=fun x hx=>
  ⟨⟨x,b,c+1,e,bX hdl,hx,Ze,Ze,he0,he1⟩,Ex.put d L _⟩
 by_cases hb:b=1/\0 < a
 ·obtain ⟨rfl,hap⟩:=hb;refine ⟨a % many,L.set d (.lst [.int (a / many),.int 1,.int (c+1),.int e]),?_,(md a).1,(md a).2,(keep (a / many) (tG Ze Ze)).1,(keep (a / many) (tG Ze Ze)).2⟩;simp[A0,fnU,Qd,q1,q2,i0,i1,i2,i3,j0,j2,s1,hap,h0,Nn h0 Ze,bP]
 ·generalize hA:(e+7547 * (c+1)+47) * 48271 % 2147483647=A;have hA0:0<=A/\A < 2147483647:=by rw[<- hA];exact ⟨oV _ Zb,mR _ Zb⟩
  generalize hC:A * A % 2147483629 * 40692 % 2147483399=Cn;have m1:Jt 7547 (c+1)=true:=Aap Zb Zb;have m2:∀ x:Int,Jt x 48271=true:=fun x=>Ub Zb Zb
  have m3:Jt A A=true:=Aap Ze Ze;have m4:∀ x:Int,Jt x 40692=true:=fun x=>Ub Zb Zb
  have d7:∀ x:Int,Te x 7=true:=fun x=>Nn Zb Zb
  refine ⟨Cn / 7 % many,L.set d (.lst [.int a,.int b,.int (c+1),.int e]),?_,(md _).1,(md _).2,(keep a ha).1,(keep a ha).2⟩;by_cases hb1:b=1
  ·have hna:¬ 0 < a:=fun z=>hb ⟨hb1,z⟩
   simp[A0,fnU,Qd,q1,q2,i0,i1,i2,i3,j0,j2,s1,hb1,hna,h0,m1,m2,m3,m4,d7,hA,hC,bP];subst hb1;simp[q1,q2,i0,i1,i2,i3,j2,s1,hna,h0,m1,m2,m3,m4,d7,hA,hC]
  ·simp[A0,fnU,Qd,q1,q2,i0,i1,i2,i3,j0,j2,s1,hb1,h0,m1,m2,m3,m4,d7,hA,hC,bP]
theorem Apc(cell:Int)(L:UH):∃ L',Qf [.int cell] L=ξ (.ref L.length,L')/\Seed L' L.length 0/\Gw L L':=by
 have hmax:Afz [.int cell,.int (0 - cell)] L=ξ (.int (if 0 - cell > cell then 0 - cell else cell),L):=rfl;generalize hn:(if 0 - cell > cell then 0 - cell else cell)=n at hmax;have hn0:0<=n:=by rw[<- hn];split <;> omega
 have p18:Y3 10 18=true:=rfl;have hint:∀ k:Bool,Aa1 [.bl k] L=ξ (.int Zcn,L):=fun _=>rfl
 refine ⟨L++[.lst [.int n,.int (if decide (1000000000000000000<=n)=true then 1 else 0),.int 0,.int (cell % 1999999891)]],?_,⟨n,(if decide (1000000000000000000<=n)=true then 1 else 0),0,cell % 1999999891,Za,hn0,Ze,Ze,oV _ Zb,mR _ Zb⟩,Gw.new _ _⟩;simp only[Int.zero_sub] at hmax;simp[Qf,fnU,Aci,hmax,p18,hint,small_of,bP]
theorem Awd{i:Int}(h:L[n]? = ξ (.lst l))(h0:0<=i)(h1:i < l.length)(hs:l.length < 1000000):Sx (.ref n) [.int i] L=ξ (l[i.toNat]'(by omega),L.set n (.lst (l.eraseIdx i.toNat))):=by
 have hk:seqIndex? i l.length=ξ i.toNat:=by unfold seqIndex?;simp;omega
 have hg:l[i.toNat]? = ξ (l[i.toNat]'(by omega)):=aG Ze;simp only[Sx,Ew h,aB,hk,hg,aE];rw[if_pos ⟨Ze,Ze⟩]
theorem Xd{β γ:Type}(f:β->γ)(l:List β)(i:Nat):(l.map f).eraseIdx i=(l.eraseIdx i).map f:=by
 rw[iE,iE,fJ,kY,qD]
theorem Wt{β:Type}:∀ (l:List β) (i:Nat) (h:i < l.length),(l[i]'h::l.eraseIdx i).Perm l
 | a::l,0,_=>by simp
 | a::l,i+1,h=>by
  have ih:=Wt l i (by simpa using h);simp only[oJ,List.eraseIdx_cons_succ];exact (List.Perm.swap _ _ _).trans (ih.cons a)
theorem Low.ok{s:Str}(h:Low s):fE s=true:=by
 unfold fE;rw[Array.all_eq_true];intro i hi;have:=h (s.cps[i]) Za;exact decide_eq_true Ze
theorem Low.fold(g:Str)(hg:Low g):∀ (ys:List Str) (acc:Array Nat),(∀ y∈ys,Low y)->(∀ c∈acc.toList,97<=c/\c<=122)->∀ c∈(ys.foldl (fun acc p=>acc++g.cps++p.cps) acc).toList,97<=c/\c<=122
 | [],acc,_,h=>h
 | y::ys,acc,hy,h=>by
  rw[oR];refine Low.fold g hg ys _ (fun z hz=>hy z (aO _ hz)) ?_;intro c hc;rw[pX,pX,cT,cT] at hc;rcases hc with (hc | hc) | hc
  ·exact h c hc
  ·exact hg c hc
  ·exact hy y (aU ..) c hc
noncomputable def abc:Str := "abcdefghijklmnopqrstuvwxyz"
theorem Aht:abc.cps.toList.length=26:=Zd
theorem Ajy:E4 abc.length=true:=small_of (by show abc.cps.size<=16777216;have:=Aht;simp only[cN] at this;omega)
noncomputable def one(c:Nat):Str:=⟨#[c]⟩
theorem Low.one(h:97<=c/\c<=122):Low (Lw.one c):=by
 intro x hx;have:x=c:=by simpa[Lw.one] using hx
 rw[this];exact h
theorem Apb:Low abc:=by unfold Low;lk
theorem Av1{i:Int}(h0:0<=i)(h1:i < 26)(L:UH):∃ c,(97<=c/\c<=122)/\Al (.str abc) (.int i) L=ξ (.str (one c),L):=by
 have hl:=Aht;have hi:i.toNat < abc.cps.toList.length:=Ze
 refine ⟨abc.cps.toList[i.toNat]'hi,Apb _ (bZ hi),?_⟩;unfold Al;simp only;rw[if_pos Ajy,Sf h0 Ze,aG hi];rfl
theorem Ll(a b:Str)(h:a.length+b.length<=10000)(L:UH):Az (.str a) (.str b) L=ξ (.str (a++b),L):=by
 unfold Az;simp only;rw[if_pos ZcZ]
theorem W8:∀ ys:List Str,(∀ y∈ys,y.length=1)->(ys.map (·.length)).sum=ys.length
 | [],_=>rfl
 | y::ys,h=>by
  rw[aI,fT,W8 ys (fun z hz=>h z (aO _ hz)),h y (aU ..),aM];omega
noncomputable def nul:Str := ""
theorem Aqu:Low nul:=by unfold Low;lk
theorem Aig:nul.length=0:=Zd
theorem Yg(g:Str)(hg:g.length=0):∀ (ys:List Str) (acc:Array Nat),(ys.foldl (fun acc p=>acc++g.cps++p.cps) acc).size=acc.size+(ys.map (·.length)).sum
 | [],acc=>by simp
 | y::ys,acc=>by
  have hg':g.cps.size=0:=hg;have hy:y.length=y.cps.size:=rfl;rw[oR,Yg g hg ys,aI,fT,rO,rO,hg',hy];omega
variable {kd:Int}
theorem Ir(D:Seed L d B)(hB:B<=100000000000)(hw:kd=0\/kd=1\/kd=2) :
  ∃ r L',C5 [.ref d,.int kd] L=ξ (.int r,L')/\Ten r/\Seed L' d (B+3)/\Ex d L L':=by
 have q:Aw (L++[HU.lst [.int 3,.int 12]]) L.length=ξ [.int 3,.int 12]:=Am Za;rcases hw with rfl | rfl | rfl
 ·obtain ⟨r,L1,e1,a1,b1,D1,x1⟩:=Dt (many:=3) (D.new [HU.lst [.int 3,.int 12]]) Ze Zb Zb;have i0:L2.atI [U.int 3,.int 12] 0=ξ (.int 3):=rfl;exact ⟨r - 1,L1,by simp[C5,fnU,Oj,small_of,q,i0,e1,bP],⟨Ze,Ze⟩,D1.mono Ze,(Ex.new d L _).trans x1⟩
 ·obtain ⟨r,L1,e1,a1,b1,D1,x1⟩:=Dt (many:=12) (D.new [HU.lst [.int 3,.int 12]]) Ze Zb Zb;have i0:L2.atI [U.int 3,.int 12] 1=ξ (.int 12):=rfl;exact ⟨r - 1,L1,by simp[C5,fnU,Oj,small_of,q,i0,e1,bP],⟨Ze,Ze⟩,D1.mono Ze,(Ex.new d L _).trans x1⟩
 ·obtain ⟨r1,L1,e1,a1,b1,D1,x1⟩:=Dt (many:=100000) D Ze Zb Zb;obtain ⟨r2,K2,e2,a2,b2,D2,x2⟩:=Dt (many:=100000) D1 Ze Zb Zb;obtain ⟨r4,L4,e4,a4,b4,D4,x4⟩:=Dt (many:=2) (D2.new [HU.lst [.int 1,.int (-1)]]) Ze Zb Zb;have q4:Aw L4 K2.length=ξ [.int 1,.int (-1)]:=Am (x4.get (i:=K2.length) Za (by have:=D2.lt;omega));have hs:∃ sg:Int,L2.atI [U.int 1,.int (-1)] r4=ξ (.int sg)/\(sg=1\/sg = -1):=by
   have:r4=0\/r4=1:=Ze
   rcases this with rfl | rfl
   ·exact ⟨1,rfl,.inl rfl⟩
   ·exact ⟨-1,rfl,.inr rfl⟩
  obtain ⟨sg,hs,hsg⟩:=hs;have p5:Y3 10 5=true:=rfl;have m1:Jt r1 100000=true:=Ub Zb Zb;have m2:Jt (r1 * 100000+r2) sg=true:=Ub Ze Ze;refine ⟨(r1 * 100000+r2) * sg,L4,?_,by rcases hsg with rfl | rfl <;> constructor <;> omega,D4.mono Ze,x1.trans (x2.trans ((Ex.new d K2 _).trans x4))⟩
  simp[C5,fnU,Oj,p5,e1,m1,e2,small_of,e4,q4,hs,m2,bP]
theorem toV_strs(l:List Str):mapO toV (l.map U.str)=ξ (l.map L2.V.str):=by
 induction l with
 | nil=>rfl
 | cons a r ih=>simp[mapO,toV,ih]
theorem inV_str(s:Str)(l:List Str):inV (.str s) (l.map L2.V.str)=decide (s∈l):=by
 induction l with
 | nil=>rfl
 | cons a r ih=>
  have h1:inV (.str s) (nY L2.V.str (a::r))=(eqV (.str a) (.str s) || inV (.str s) (r.map L2.V.str)):=rfl;have h2:eqV (.str a) (.str s)=(a == s):=rfl;rw[h1,ih,h2];by_cases h:a=s
  ·simp[h]
  ·have h':¬ s=a:=fun z=>h z.symm
   simp[h,h']
theorem cutU_take(l:List U)(k:Nat):T4 l ψ (ξ (k:Int))=l.take k:=by
 unfold T4;rw[HT.Acu,HT.Ue,mO,rK];by_cases hk:k<=l.length
 ·rw[oQ hk]
 ·rw[nQ Ze,kP,dQ Ze]
theorem Ako{β:Type}(rep:β->U){l:List β}(D:Seed L d B)(hB:B<=1000000000)(hd:n≠d)(h:L[n]? = ξ (.lst (l.map rep)))(hl:0 < l.length)(hs:l.length < 1000)(x0:Option U) :
  ∃ (r:β) (L':UH) (l':List β),(Dc "list" Sx (Ae 1) (Ad (A9 2 A0 (Ad (Ae 2) (Ad (Ay Ap Zay) Ah))) Ah)) [x0,ξ (.ref n),ξ (.ref d)] L=ξ (rep r,L')/\Seed L' d (B+1)/\L'[n]? = ξ (.lst (l'.map rep))/\l'.length+1=l.length/\(∀ L0,Ex d L0 L->L0.length<=n->Ex d L0 L')/\(r::l').Perm l:=by
 obtain ⟨i,L1,e1,i0,i1,D1,x1⟩:=Dt (many:=((l.map rep).length:Nat)) D Ze (by simp;omega) (by simp;omega);have h':L1[n]? = ξ (.lst (l.map rep)):=x1.get h hd;have hi:i < l.length:=by simpa using i1
 have hp:=Awd h' i0 i1 (by simp;omega);refine ⟨l[i.toNat]'(by omega),L1.set n (.lst ((l.map rep).eraseIdx i.toNat)),l.eraseIdx i.toNat,?_,D1.set hd _,?_,?_,fun L0 x0 hn=>(x0.trans x1).set hn _,Wt l i.toNat Ze⟩
 ·have ty:=Ow h;have e1':=e1;simp only[aL] at e1';simp[ty,Dz h,e1',hp]
 ·rw[bX (by have:=(aQ.mp h').1;exact this)];rw[Xd]
 ·rw[List.length_eraseIdx,if_pos Ze];omega
theorem Aki{n2 many:Nat}{sp:List Str}(D:Seed M d B)(hB:B<=100000000)(hnd:n2≠d)(hat:M[n2]? = ξ Zde)(hm:many<=sp.length)(hs:sp.length<=72)(x2 x3 x4:Option U) :
  ∃ (r:Nat) (names:List Str) (M':UH),Bv [ψ,ξ 1,ξ 0] (Eh (Ad (fC (.int many)) Ah)) (gN 0) ψ Ka ZcF M=ξ (.ref r,M')/\M'[r]? = ξ (.lst (names.map U.str))/\names.length=many/\(∃ rest,(names++rest).Perm sp)/\Seed M' d (B+many)/\(∀ L,Ex d L M->L.length<=n2->Ex d L M'/\L.length<=r):=by
 have hi:Eh (Ad (fC (.int many)) Ah) ZcF M=ξ (.seq (C4 0 many),M):=Og rfl Ze;obtain ⟨ys,δ',M',e,⟨z,hδ⟩,vs,rest,hvs,hlv,hlr,hp,hat,DM,xM⟩:=Ald (ix:=[ψ,ξ 1,ξ 0]) (it:=.seq (C4 0 many)) (g:=gN 0) (tt:=ψ) (fe:=Ka) (us:=C4 0 many) (δ:=ZcF) (L:=M) (L0:=M)
   (fun k acc δ' M'=>(∃ z,δ'=[z,ξ (.ref n2),ξ (.ref d)])/\∃ (vs rest:List Str),acc=vs.map U.str/\vs.length=k/\rest.length+k=sp.length/\(vs++rest).Perm sp/\M'[n2]? = ξ (.lst (rest.map U.str))/\Seed M' d (B+k)/\(∀ L,Ex d L M->L.length<=n2->Ex d L M'))
   hi (by simp[IU.size]) ⟨⟨ψ,rfl⟩,[],sp,rfl,rfl,rfl,Za,hat,by simpa using D,fun _ e _=>e⟩
   (fun k acc δ L _ _=>rfl)
   (fun k u acc δ N hu ⟨⟨z,hδ⟩,vs,rest,hvs,hlv,hlr,hp,hat,DM,xM⟩=>by
    subst hδ;obtain ⟨hk,rfl⟩:=Jn hu;obtain ⟨r,N',l',e,D',hat',hl',hx',hperm⟩:=Ako U.str DM Ze hnd hat Ze Ze (ξ (.int (0+(k:Int))));have ha:acc.length < 16777216:=by rw[hvs,aL,hlv];omega
    refine ⟨[ξ (.int (0+k)),ξ (.ref n2),ξ (.ref d)],N,rfl,true,N,rfl,fun _=>⟨.str r,N',?_,ha,⟨_,rfl⟩,vs++[r],l',by simp[hvs],by simp[hlv],Ze,?_,hat',?_,fun L eL hL=>hx' L (xM L eL hL) hL⟩,fun h=>by cases h⟩
    ·unfold Ka;exact e
    ·refine tD ?_ hp;rw[bA];exact pA vs hperm
    ·have:B+((k+1:Nat):Int)=B+(k:Int)+1:=Ze
     rw[this];exact D')
 rw[Jf] at hlv DM;exact ⟨_,vs,_,e,by rw[hvs];simp,hlv,⟨rest,hp⟩,DM.new _,fun L eL hL=>⟨(xM L eL hL).trans Zd2,(xM L eL hL).le⟩⟩
noncomputable def hdB(s:Str):Bool:=match s.cps.toList with | c::_=>decide (c < 121) | []=>false
def Pn(s:Str):Prop:=Nm s/\hdB s=true
noncomputable def A1s(s:Str):Bool:=s.cps.toList.all fun c=>decide (97<=c/\c<=122)
def pnB(s:Str):Bool:=decide (1<=s.length)&&(decide (s.length<=8)&&(A1s s&&hdB s))
theorem A0v{s:Str}(h:pnB s=true):Pn s:=by
 unfold pnB A1s at h;simp only[bY,decide_eq_true_eq,bQ] at h;exact ⟨⟨h.1,h.2.1,h.2.2.1⟩,h.2.2.2⟩
noncomputable def Gp:List Str:=["a","ba","ab","aa","put","nodes","node","pairs","bab","nth","longname","longnamf"]
theorem Ae4:∀ x∈Gp,Pn x:=fun x hx=>A0v (bQ.mp (show (Gp.all pnB)=true by lk) x hx)
theorem Aeh:Gp.Nodup:=Zd
theorem Ali{ys:List Str}(h1:∀ y∈ys,y.length=1/\Low y)(h2:1<=ys.length/\ys.length<=8)(h:L[r]? = ξ (.lst (ys.map U.str))):∃ w:Str,Ey (.str nul) [.ref r] L=ξ (.str w,L)/\Nm w:=by
 have hs:=W8 ys (fun y hy=>(h1 y hy).1);refine ⟨gU nul ys,?_,?_⟩
 ·unfold Ey;simp only[Ew h,aB,Ra];rw[if_pos ⟨by rw[Aig];omega,by rw[hs];omega⟩]
 ·cases ys with
  | nil=>simp at h2
  | cons y ys=>
   have hy:y.cps.size=1:=(h1 y (aU ..)).1;have hl:(gU nul (y::ys)).length=1+ys.length:=by
    show (ys.foldl (fun acc p=>acc++nul.cps++p.cps) y.cps).size=_;rw[Yg nul Aig ys y.cps,hy,W8 ys (fun z hz=>(h1 z (aO _ hz)).1)]
   simp only[aM] at h2;exact ⟨Ze,Ze,Low.fold nul Aqu ys y.cps (fun z hz=>(h1 z (aO _ hz)).2) (h1 y (aU ..)).2⟩
inductive WordR(v:Option (U×UH))(L:UH)(d:Nat)(B:Int):Prop
 | mk (w:Str) (L':UH) (e:v=ξ (.str w,L')) (n:Nm w) (D:Seed L' d B) (x:Ex d L L')
theorem Aqi(D:Seed L d B)(hB:B<=100000000)(x1 x3 x4:Option U) :
  WordR ((Dc "str" Ey (fC (.str nul)) Z0) Zcr L) L d (B+9):=by
 obtain ⟨i,L1,e1,i0,i1,D1,z1⟩:=Dt (many:=8) D Ze Zb Zb;have hi:Eh (Ad (f2 Az Zi (A9 2 A0 (Ad (Ae 0) (Ad ZbS Ah)))) Ah) Zcr L=ξ (.seq (C4 0 (1+i).toNat),L1):=by
  refine Abm (j:=1+i) (Bp (Ax (u:=.int 1) (v:=.int i) (L1:=L) (L2:=L1) rfl (Fy rfl rfl e1) (E6 _ _ _)) rfl) Ze Ze
 generalize hn:(1+i).toNat=n at hi;have hn1:1<=n/\n<=8:=Ze
 obtain ⟨us,δ',M',e,⟨z,hδ⟩,ys,hys,hl1,hly,DM,xM⟩:=Ald (ix:=[ψ,ξ 2,ξ 0]) (it:=.seq (C4 0 n)) (g:=gN 0) (tt:=ψ) (fe:=Hn) (us:=C4 0 n) (δ:=Zcr) (L:=L) (L0:=L1)
   (fun k acc δ' M=>(∃ z,δ'=[z,ξ (.str abc),ξ (.ref d)])/\∃ (ys:List Str),acc=ys.map U.str/\(∀ y∈ys,y.length=1/\Low y)/\ys.length=k/\Seed M d (B+1+k)/\Ex d L M)
   hi (by simp[IU.size]) ⟨⟨ψ,rfl⟩,[],rfl,Za,rfl,by simpa using D1,z1⟩
   (fun k acc δ L _ _=>rfl)
   (fun k u acc δ M hu hP=>by
    obtain ⟨⟨z,rfl⟩,ys,hys,hl1,hly,DM,xM⟩:=hP;obtain ⟨hk,rfl⟩:=Jn hu;obtain ⟨r,M',e1,r0,r1,D',x'⟩:=Dt (many:=26) DM Ze Zb Zb;obtain ⟨c,wc,hc⟩:=Av1 r0 r1 M';have ha:acc.length < 16777216:=by rw[hys,aL,hly];omega
    refine ⟨[ξ (.int (0+k)),ξ (.str abc),ξ (.ref d)],M,rfl,true,M,rfl,fun _=>⟨.str (one c),M',?_,ha,⟨_,rfl⟩,ys++[one c],by simp[hys],?_,by simp[hly],?_,xM.trans x'⟩,fun h=>by cases h⟩
    ·unfold Hn;generalize abc=ab at hc;simp only[f2_eq,fOwn_eq,fCons_eq,fNil_eq,fC_eq,fVar_eq,aZ,aS,bF,aE,aB,aM,aV,if_true,e1,hc]
    ·intro y hy;rcases cT.mp hy with h | h
     ·exact hl1 y h
     ·rw[cR.mp h];exact ⟨rfl,Low.one wc⟩
    ·have:B+1+((k+1:Nat):Int)=B+1+(k:Int)+1:=Ze
     rw[this];exact D')
 rw[Jf] at hly DM;have hat:(M'++[HU.lst us])[M'.length]? = ξ (.lst (ys.map U.str)):=by rw[hys];simp
 obtain ⟨w,ew,nw⟩:=Ali hl1 Ze hat;refine ⟨w,M'++[.lst us],?_,nw,(DM.mono Ze).new _,xM.trans Zd2⟩;generalize nul=nu at ew;rw[fMeth_eq,fC_eq,aB];show (if true=true then _ else ψ)=_;rw[if_pos rfl,Bp e rfl];exact ew
theorem Ahv{sp:List Str}(w:Str)(h:L[n]? = ξ Zde):G7 true (.str w) (.ref n) L=ξ (.bl (!decide (w∈sp)),L):=by
 unfold G7;simp only[Am h,toV,aB,toV_strs,aE,inV_str,if_true]
theorem Avo:(fK "yz").toList=[121,122]:=Zd
theorem A2u(c:Nat)(L:UH):G7 true (.str ⟨#[c]⟩) (.str "yz") L=ξ (.bl (!decide (c=121\/c=122)),L):=by
 have h:=rN "yz" c;show ξ (U.bl (!(!(cO "yz" ⟨#[c]⟩ 0 ("yz" : Str).length 1).isEmpty)),L)=_;rw[h,Avo];simp
theorem Ap6(h:Nm w):∃ c r,w.cps.toList=c::r/\97<=c/\c<=122:=by
 have h1:=h.1;rw[len_cps] at h1;cases hw:w.cps.toList with
 | nil=>rw[hw] at h1;simp at h1
 | cons c r=>exact ⟨c,r,rfl,h.2.2 c (by rw[hw];simp)⟩
theorem Ar1{r:List Nat}(h:Nm w)(hw:w.cps.toList=c::r)(L:UH):Al (.str w) (.int 0) L=ξ (.str ⟨#[c]⟩,L):=by
 rw[Rx,if_pos (small_of (by have:=h.2.1;omega)),hw,Sf Zb (by simp only[aM];omega)];rfl
inductive PoolT(v:Option (Fl×UH))(L:UH)(d n:Nat)(B:Int)(k:Nat)(sp:List Str)(ab:Str):Prop
 | mk (y:Option U) (L':UH) (sp':List Str) (e:v=ξ (.nx [ξ (.ref d),ξ (.ref n),ξ (.str ab),ξ (.int k),y],L')) (D:Seed L' d (B+9)) (h:L'[n]? = ξ (.lst (sp'.map U.str))) (nd:sp'.Nodup) (ok:∀ x∈sp',Pn x) (l1:sp.length<=sp'.length) (l2:sp'.length<=sp.length+1) (x:∀ L0,Ex d L0 L->L0.length<=n->Ex d L0 L')
theorem Np{f g:FT}{b:Bool}{L2:UH}(h:f δ L=ξ (true,L1))(h2:g δ L1=ξ (b,L2)):Nt f g δ L=ξ (b,L2):=by
 rw[Rh,h];simp only[aB,if_true,h2]
theorem Xp{f g:FT}(h:f δ L=ξ (false,L1)):Nt f g δ L=ξ (false,L1):=by
 rw[Rh,h];rfl
theorem Rc(hi:Ae i δ L=ξ (.ref n,L))(hf:fe δ L=ξ (u,L1))(h0:tyU "list" (.ref n) L=true)(h:L1[n]? = ξ (.lst l))(hl:l.length < 16777216):(Dl (Dc "list" Dm (Ae i) (Ad fe Ah))) δ L=ξ (.nx δ,L1.set n (.lst (l++[u]))):=by
 rw[V3,fMeth_eq,hi,aB];simp only[h0,if_true];rw[Bp hf rfl];simp only[aB,Y6 u h hl,aE]
theorem Ai8{L:UH}{d n k:Nat}{B:Int}{sp:List Str}(D:Seed L d B)(hB:B<=100000000)(hnd:n≠d)(h:L[n]? = ξ Zde)(nd:sp.Nodup)(ok:∀ x∈sp,Pn x)(hl:sp.length<=1000)(x4:Option U) :
  PoolT (Mj [ξ (.ref d),ξ (.ref n),ξ (.str abc),ξ (.int k),x4] L) L d n B k sp abc:=by
 obtain ⟨w,L1,e1,nw,D1,x1⟩:=Aqi D hB (ξ (.ref n)) (ξ (.int k)) x4;have h1:=x1.get h hnd;obtain ⟨c,r,hc,c0,c1⟩:=Ap6 nw;have s1:=Eg (i:=4) (δ:=[ξ (.ref d),ξ (.ref n),ξ (.str abc),ξ (.int k),x4]) e1;have b1:Mj=Ba (Bh (Dc "str" Ey (fC (.str nul)) Z0) (gN 4)) (C6 (Nt (Av Zdu) (Av (f2 (G7 true) (f2 Al (Ae 4) Zh) (fC (.str "yz"))))) (Dl (Dc "list" Dm (Ae 1) Zcz)) B2):=rfl;rw[b1,Bf s1];generalize abc=ab;show PoolT (C6 _ _ B2 ZaT L1) L d n B k sp ab;have t1:(Av Zdu) ZaT L1=ξ (!decide (w∈sp),L1):=B1 (Ax rfl rfl (Ahv w h1));have t2:(Av (f2 (G7 true) (f2 Al (Ae 4) Zh) (fC (.str "yz")))) ZaT L1=ξ (!decide (c=121\/c=122),L1):=B1 (Ax (Ax rfl rfl (Ar1 nw hc L1)) rfl (A2u c L1));by_cases hw:w∈sp
 ·rw[decide_eq_true hw] at t1;rw[Cm (Xp t1)];exact ⟨ξ (.str w),L1,sp,rfl,D1,h1,nd,ok,aP _,Ze,fun L0 x0 _=>x0.trans x1⟩
 rw[decide_eq_false hw] at t1;by_cases hy:c=121\/c=122
 ·rw[decide_eq_true hy] at t2;rw[Cm (Np t1 t2)];exact ⟨ξ (.str w),L1,sp,rfl,D1,h1,nd,ok,aP _,Ze,fun L0 x0 _=>x0.trans x1⟩
 rw[decide_eq_false hy] at t2;rw[E5 (Np t1 t2),Rc (i:=1) (n:=n) (l:=sp.map U.str) (u:=.str w) (fe:=Ae 4) rfl rfl (Ow h1) h1 (by simp;omega)];have hm:sp.map U.str++[.str w]=(sp++[w]).map U.str:=Za
 rw[hm];refine ⟨ξ (.str w),_,sp++[w],rfl,D1.set hnd _,bX (aQ.mp h1).1,?_,fun x hx=>?_,Za,Za,fun L0 x0 hn=>(x0.trans x1).set hn _⟩
 ·rw[rP];exact ⟨nd,Za,fun a ha b hb=>by rw[cR.mp hb];intro q;exact hw (q ▸ ha)⟩
 ·rcases cT.mp hx with hx | hx
  ·exact ok x hx
  ·rw[cR.mp hx];refine ⟨nw,?_⟩;unfold hdB;rw[hc];exact decide_eq_true Ze
inductive PoolR(v:Option (U×UH))(L:UH)(d:Nat)(B:Int):Prop
 | mk (r:Nat) (L':UH) (pl:List Str) (e:v=ξ (.ref r,L')) (h:L'[r]? = ξ (.lst (pl.map U.str))) (l:pl.length=8) (nd:pl.Nodup) (ok:∀ x∈pl,Pn x) (D:Seed L' d B) (x:Ex d L L') (lr:L.length<=r)
theorem Apk(D:Seed L d B)(hB:B<=10000000):PoolR (We [.ref d] L) L d (B+44):=by
 have h0:(L++[HU.lst Zc9])[L.length]? = ξ (.lst Zc9):=Za
 have D0:=D.new [HU.lst Zc9];have x0:=Ex.new d L [HU.lst Zc9];have hnd:L.length≠d:=by have:=D.lt;omega
 have s1:(Bh (Cg (Ad (fC (.str "a")) (Ad (fC (.str "ba")) (Ad (fC (.str "ab")) (Ad (fC (.str "aa")) (Ad (fC (.str "put")) (Ad (fC (.str "nodes")) (Ad (fC (.str "node")) (Ad (fC (.str "pairs")) (Ad (fC (.str "bab")) (Ad (fC (.str "nth")) (Ad (fC (.str "longname")) (Ad (fC (.str "longnamf")) Ah))))))))))))) (gN 1)) [ξ (.ref d),ψ,ψ,ψ,ψ] L=ξ (.nx [ξ (.ref d),ξ ZD,ψ,ψ,ψ],L++[.lst Zc9]):=rfl;generalize L++[HU.lst Zc9]=L0 at h0 D0 x0 s1;generalize hn:L.length=n at h0 hnd s1;have hlt:Gp.length=12:=rfl;have ok0:=Ae4;have nd0:=Aeh;generalize Gp=s12 at h0 hlt ok0 nd0;have s2:(Bh (fC (.str "abcdefghijklmnopqrstuvwxyz")) (gN 2)) [ξ (.ref d),ξ (.ref n),ψ,ψ,ψ] L0=ξ (.nx [ξ (.ref d),ξ (.ref n),ξ (.str abc),ψ,ψ],L0):=rfl;have hi:Eh (Ad (fC (.int 4)) Ah) [ξ (.ref d),ξ (.ref n),ξ (.str abc),ψ,ψ] L0=ξ (.seq (C4 0 4),L0):=Og (n:=4) rfl Ze;obtain ⟨δ',L1,e1,P⟩:=Aaq (us:=C4 0 4) (body:=Mj) (g:=gN 3) (fun k δ' M=>(∃ y3 y4,δ'=[ξ (.ref d),ξ (.ref n),ξ (.str abc),y3,y4])/\Seed M d (B+9 * k)/\Ex d L M/\∃ sp:List Str,M[n]? = ξ Zde/\sp.Nodup/\(∀ x∈sp,Pn x)/\12<=sp.length/\sp.length<=12+k) hi
  ⟨⟨_,_,rfl⟩,D0.mono Ze,x0,s12,h0,nd0,ok0,Ze,Ze⟩
  (fun k u δ M hu hP=>by
   obtain ⟨⟨y3,y4,rfl⟩,DM,xM,sp,hs,nd,ok,l1,l2⟩:=hP;obtain ⟨hk,rfl⟩:=Jn hu;obtain ⟨y,M',sp',e,D',h',nd',ok',m1,m2,x'⟩:=Ai8 (k:=k) DM Ze hnd hs nd ok Ze y4;refine ⟨[ξ (.ref d),ξ (.ref n),ξ (.str abc),ξ (.int k),y4],M,by rw[vP];rfl,_,M',.inl e,⟨_,_,rfl⟩,D'.mono (by push_cast;omega),x' L xM Ze,sp',h',nd',ok',Ze,Ze⟩)
 obtain ⟨⟨y3,y4,rfl⟩,DM,xM,sp,hs,nd,ok,l1,l2⟩:=P;rw[Jf] at DM l2;obtain ⟨r,names,M',e2,h2,hl2,⟨rest,hp⟩,D2,x2⟩:=Aki (many:=8) DM Ze hnd hs Ze Ze (ξ (.str abc)) y3 y4;have hnd2:(names++rest).Nodup:=hp.nodup_iff.mpr nd;refine ⟨r,M',names,fn1 (n:=4) ?_,h2,hl2,(rP.mp hnd2).1,fun x hx=>ok x (hp.mem_iff.mp (eU _ hx)),D2.mono Ze,(x2 L xM Ze).1,by have:=(x2 L xM Ze).2;omega⟩;show U6 [ξ (.ref d),ψ,ψ,ψ,ψ] L=_;unfold U6;exact A8 s1 (A8 s2 (A8 e1 (B8 e2)))
noncomputable def ah:Str := "abcdefgh"
noncomputable def qx:Str := "qrstuvwx"
theorem Aw8:ah.cps.toList=[97,98,99,100,101,102,103,104]:=Zd
theorem Awu:qx.cps.toList=[113,114,115,116,117,118,119,120]:=Zd
theorem Aep:(fK "zy").toList=[122,121]:=Zd
theorem Alz{s:Str}{a:Nat}{cs:List Nat}(hs:s.cps.toList=cs)(hc:cs=(bM 8).map (a + ·))(h:i < 8)(L:UH):Al (.str s) (.int (i:Int)) L=ξ (.str ⟨#[a+i]⟩,L):=by
 have hl:s.length=8:=by rw[len_cps,hs,hc];simp
 rw[Rx,if_pos ZcZ,hs,hc,Sf Ze (by simp;omega)];simp[h]
noncomputable def Fs(pl:List Str)(k:Nat):Str:=if k < 8 then pl.getD k "" else ⟨#[122,121,97+k / 8,113+k % 8]⟩
variable {pl:List Str}
theorem Agt(h:L[r]? = ξ Z6)(hl:pl.length=8)(hk:k < 64):G0 [.ref r,.int k] L=ξ (.str (Fs pl k),L):=by
 refine fnN (n:=2) rfl ?_;show Vw Zcw L=_;unfold Vw;by_cases h8:k < 8
 ·refine Kq ?_;rw[E5 (B1 (Ax rfl rfl (by rw[semLt_int,decide_eq_true Ze])))];refine B8 (Ax rfl rfl (F0 h (Jb ?_)));unfold Fs;rw[if_pos h8,bD,aK,aG Ze];rfl
 ·refine A8 (Cm (B1 (Ax rfl rfl (by rw[semLt_int,decide_eq_false Ze])))) (B8 ?_);have hd:He ZcB (.int 8) L=ξ (.int ((k / 8:Nat):Int),L):=by
   rw[semDiv_int,if_pos (Nn Zb Zb)];simp
  have hm:Kc ZcB (.int 8) L=ξ (.int ((k % 8:Nat):Int),L):=by
   rw[Afh,if_pos Zb];simp
  have a1:Al (.str "abcdefgh") (.int ((k / 8:Nat):Int)) L=ξ (.str ⟨#[97+k / 8]⟩,L):=Alz Aw8 Zb Ze L;have a2:Al (.str "qrstuvwx") (.int ((k % 8:Nat):Int)) L=ξ (.str ⟨#[113+k % 8]⟩,L):=Alz Awu Zb Ze L;have c1:=Ll "zy" ⟨#[97+k / 8]⟩ (by rw[len_cps,len_cps,Aep];simp) L;have c2:=Ll ("zy" ++ ⟨#[97+k / 8]⟩) ⟨#[113+k % 8]⟩ (by rw[len_cps,app_cps,len_cps,Aep];simp) L;have hn:("zy" ++ ⟨#[97+k / 8]⟩++⟨#[113+k % 8]⟩:Str)=Fs pl k:=by
   unfold Fs;rw[if_neg h8];apply Fv;rw[app_cps,app_cps,Aep];rfl
  rw[hn] at c2;exact Ax (Ax rfl (Ax rfl (Ax rfl rfl hd) a1) c1) (Ax rfl (Ax rfl rfl hm) a2) c2
theorem Ahr(hl:pl.length=8)(ok:∀ x∈pl,Pn x)(hk:k < 64):Nm (Fs pl k):=by
 unfold Fs;by_cases h8:k < 8
 ·rw[if_pos h8,aK,aG Ze];exact (ok _ (bZ _)).1
 ·rw[if_neg h8];refine ⟨by rw[len_cps];simp,by rw[len_cps];simp,fun c hc=>?_⟩
  simp only[bG,cX,or_false] at hc;omega
variable {j:Nat}
theorem Adu(hl:pl.length=8)(ok:∀ x∈pl,Pn x)(nd:pl.Nodup)(h:Fs pl i=Fs pl j):i=j:=by
 have key:∀ a b:Nat,a < 8->¬ b < 8->Fs pl a≠Fs pl b:=fun a b ha hb q=>by
  unfold Fs at q;rw[if_pos ha,if_neg hb,aK,aG Ze] at q;have:=(ok _ (bZ (show a < pl.length by omega))).2;simp only[kN] at q;rw[q] at this;unfold hdB at this;simp at this
 by_cases hi:i < 8
 ·by_cases hj:j < 8
  ·unfold Fs at h;rw[if_pos hi,if_pos hj,aK,aG Ze,aK,aG Ze] at h;exact (nM nd).mp h
  ·exact absurd h (key i j hi hj)
 ·by_cases hj:j < 8
  ·exact absurd h.symm (key j i hj hi)
  ·unfold Fs at h;rw[if_neg hi,if_neg hj] at h;injection h with h
   have h1:=congrArg (fun a=>a.toList) h;simp only[fI,and_true,true_and] at h1;omega
theorem Azz(h:Nm w):fE w=true:=h.2.2.ok
variable {ps:List NP}
theorem OkP.ok(h:OkP ps):∀ p∈ps,fE p.1=true:=fun p hp=>Azz (h p hp).1
theorem Sw(hi:∀ M,Ae i δ M=ξ (.ref n,M))(h:L[n]? = ξ (.lst ZW))(ok:OkP ps):(Av (f2 Dd (Ae i) (Cg Ah))) δ L=ξ (!ps.isEmpty,L++[.lst []]):=by
 have hl:(Cg Ah) δ L=ξ (.ref L.length,L++[.lst []]):=by rw[fLst_eq];rfl
 refine B1 (Ax (hi L) hl ?_);have hpl:∀ u∈ps.map ptU,Pl 6 u:=fun u hu=>by
  obtain ⟨p,hp,rfl⟩:=bT.mp hu;exact Agz (ok.ok p hp)
 rw[Yb (Am ((Gw.new L _).get h)) (Am (us:=[]) Za) hpl Zeo];cases ps with
 | nil=>rfl
 | cons p ps=>
  have:Afn ((p::ps).map ptU) []=false:=by
   cases hb:Afn ((p::ps).map ptU) [] with
   | false=>rfl
   | true=>
    have:=(Acw hpl Zeo).mp hb;cases this
  rw[this];rfl
inductive PickP(v:Option (U×UH))(L:UH)(d:Nat)(B:Int)(ps:List NP):Prop
 | mk (p:NP) (L':UH) (e:v=ξ (ptU p,L')) (m:p∈ps) (D:Seed L' d B) (x:Ex d L L')
theorem Ah3(D:Seed L d B)(hB:B<=1000000000)(hi:∀ M,Ae i δ M=ξ (.ref d,M))(hj:∀ M,Ae j δ M=ξ (.ref n,M))(hnd:n≠d)(h:L[n]? = ξ (.lst ZW))(h0:0 < ps.length)(hl:ps.length<=1000) :
  PickP ((f2 Al (Ae j) (A9 2 A0 (Ad (Ae i) (Ad (Ay Ap (Ad (Ae j) Ah)) Ah)))) δ L) L d (B+1) ps:=by
 have hlen:=Dz h;rw[aL] at hlen;obtain ⟨a,L1,e1,a0,a1,D1,x1⟩:=Dt (many:=(ps.length:Nat)) D Ze Ze Ze;have h1:=x1.get h hnd;obtain ⟨b,rfl⟩:∃ b:Nat,a=(b:Int):=⟨a.toNat,Ze⟩;have hb:b < ps.length:=Ze
 refine ⟨ps[b]'hb,L1,?_,bZ _,D1,x1⟩;refine Ax (hj L) (Fy (hi L) (Ea (hj L) hlen) e1) (F0 h1 (Jb ?_));rw[bD,aG Ze];rfl
inductive BegT(v:Option (Fl×UH))(L:UH)(d rp n:Nat)(B:Int)(k:Nat)(kd:Int)(x1:Option U)(pl:List Str)(ps:List NP):Prop
 | mk (y6 y7:Option U) (L':UH) (q:Int×Int) (e:v=ξ (.nx [ξ (.ref d),x1,ξ (.ref rp),ξ (.int kd),ξ (.ref n),ξ (.int k),y6,y7],L')) (D:Seed L' d (B+9)) (h:L'[n]? = ξ (.lst ((ps++[(Fs pl k,q)]).map ptU))) (t1:Ten q.1) (t2:Ten q.2) (hp:L'[rp]? = ξ (.lst (pl.map U.str))) (x:∀ L0,Ex d L0 L->L0.length<=n->Ex d L0 L')
variable {rp:Nat}
theorem Aro{L:UH}{d rp n k:Nat}{B kd x y:Int}{x1:Option U}{pl:List Str}{ps:List NP}(D:Seed L d (B+9))(hp:L[rp]? = ξ Z6)(lp:pl.length=8)(h:L[n]? = ξ (.lst ZW))(hl:ps.length<=100)(hk:k < 64)(hnd:n≠d)(hnp:n≠rp)(tx:Ten x)(ty:Ten y) :
  BegT ((Dl (Dc "list" Dm (Ae 4) (Ad (Gi ZaL) Ah))) Zk L) L d rp n B k kd x1 pl ps:=by
 have en:=Agt hp lp hk;have et:(Gi ZaL) Zk L=ξ (ptU (Fs pl k,(x,y)),L):=Aja (Fy rfl rfl en) rfl rfl;rw[Rc (i:=4) (n:=n) (u:=ptU (Fs pl k,(x,y))) rfl et (Ow h) h (by simp;omega)];have hm:ps.map ptU++[ptU (Fs pl k,(x,y))]=(ps++[(Fs pl k,(x,y))]).map ptU:=Za
 rw[hm];exact ⟨_,_,_,(x,y),rfl,D.set hnd _,bX (aQ.mp h).1,tx,ty,by rw[cJ hnp];exact hp,fun L0 x0 hn=>x0.set hn _⟩
theorem Am9{L:UH}{d rp n k:Nat}{B kd:Int}{x1 y6 y7:Option U}{pl:List Str}{ps:List NP}(D:Seed L d B)(hB:B<=1000000)(hp:L[rp]? = ξ Z6)(lp:pl.length=8)(h:L[n]? = ξ (.lst ZW))(ok:OkP ps)(hl:ps.length<=100)(hk:k < 64)(hnd:n≠d)(hpd:rp≠d)(hnp:n≠rp)(kk:kd=0\/kd=1\/kd=2) :
  BegT (J8 ZaA L) L d rp n B k kd x1 pl ps:=by
 obtain ⟨x,L1,e1,tx,D1,z1⟩:=Ir D Ze kk;obtain ⟨y,L2,e2,ty,D2,z2⟩:=Ir D1 Ze kk;have z12:=z1.trans z2;have s1:=Eg (i:=6) (δ:=ZaA) (Fy (fa:=Ae 0) (fb:=Ae 3) rfl rfl e1);have s2:=Eg (i:=7) (δ:=[ξ (.ref d),x1,ξ (.ref rp),ξ (.int kd),ξ (.ref n),ξ (.int k),ξ (.int x),y7]) (Fy (fa:=Ae 0) (fb:=Ae 3) rfl rfl e2);unfold J8;rw[Bf s1];show BegT (Ba _ _ [ξ (.ref d),x1,ξ (.ref rp),ξ (.int kd),ξ (.ref n),ξ (.int k),ξ (.int x),y7] L1) _ _ _ _ _ _ _ _ _ _;rw[Bf s2];show BegT (Ba _ _ Zk L2) _ _ _ _ _ _ _ _ _ _;have t1:=Sw (i:=4) (δ:=Zk) ZF (z12.get h hnd) ok;have D3:=D2.new [HU.lst []];have z3:=z12.trans (Ex.new d L2 [HU.lst []]);generalize L2++[HU.lst []]=L3 at t1 D3 z3;have fin:∀ (x y:Int) (M:UH),Ten x->Ten y->Seed M d (B+9)->Ex d L M->BegT ((Dl (Dc "list" Dm (Ae 4) (Ad (Gi ZaL) Ah))) Zk M) L d rp n B k kd x1 pl ps:=fun x y M tx ty DM xM=>by
  obtain ⟨a6,a7,L',q,e,D',h',q1,q2,hp',x'⟩:=Aro (x1:=x1) (kd:=kd) DM (xM.get hp hpd) lp (xM.get h hnd) hl hk hnd hnp tx ty;exact ⟨a6,a7,L',q,e,D',h',q1,q2,hp',fun L0 x0 hn=>x' L0 (x0.trans xM) hn⟩
 cases ps with
 | nil=>
  rw[Bf (Cm (Xp t1))];exact fin x y L3 tx ty (D3.mono Ze) z3
 | cons p0 ps0=>
  generalize hps:p0::ps0=ps at *;have hpos:0 < ps.length:=by rw[<- hps];simp
  have hne:(!ps.isEmpty)=true:=by rw[<- hps];rfl
  rw[hne] at t1;obtain ⟨a,L4,e4,a0,a1,D4,z4⟩:=Dt (many:=6) D3 Ze Zb Zb;have t2:(Av Zbe) Zk L3=ξ (a == 0,L4):=B1 (Ax (Fy rfl rfl e4) rfl (Lg _ _ _));have z34:=z3.trans z4;by_cases ha:a=0
  ·have hb:(a == 0)=true:=by simp[ha]
   rw[hb] at t2;obtain ⟨p,L5,e5,m5,D5,z5⟩:=Ah3 (i:=0) (j:=4) (δ:=Zk) D4 Ze ZF ZF hnd (z34.get h hnd) hpos Ze;have z35:=z34.trans z5;have s5:=Eg (i:=6) (Ax (fb:=fC (.int 1)) e5 rfl (ix1 p L5));obtain ⟨p',L6,e6,m6,D6,z6⟩:=Ah3 (i:=0) (j:=4) (δ:=[ξ (.ref d),x1,ξ (.ref rp),ξ (.int kd),ξ (.ref n),ξ (.int k),ξ (.int p.2.1),ξ (.int y)]) D5 Ze ZF ZF hnd (z35.get h hnd) hpos Ze;have s6:=Eg (i:=7) (Ax (fb:=fC (.int 2)) e6 rfl (ix2 p' L6));have s7:(C6 (Nt (Av (f2 Dd (Ae 4) (Cg Ah))) (Av Zbe)) (Ba (Bh (f2 Al Zaa Zi) (gN 6)) (Bh (f2 Al Zaa Zp) (gN 7))) B2) Zk L2=ξ (.nx [ξ (.ref d),x1,ξ (.ref rp),ξ (.int kd),ξ (.ref n),ξ (.int k),ξ (.int p.2.1),ξ (.int p'.2.2)],L6):=by
    rw[E5 (Np t1 t2),Bf s5];exact s6
   rw[Bf s7];exact fin _ _ L6 (ok p m5).2.1 (ok p' m6).2.2 (D6.mono Ze) (z35.trans z6)
  ·have hb:(a == 0)=false:=by simp[ha]
   rw[hb] at t2;rw[Bf (Cm (Np t1 t2))];exact fin x y L4 tx ty (D4.mono Ze) z34
inductive BegR(v:Option (U×UH))(L:UH)(d:Nat)(B:Int):Prop
 | mk (r rp n:Nat) (kd:Int) (L':UH) (pl:List Str) (ps:List NP) (e:v=ξ (.ref r,L')) (hr:L'[r]? = ξ (.lst [.ref rp,.int kd,.ref n])) (hp:L'[rp]? = ξ (.lst (pl.map U.str))) (hn:L'[n]? = ξ (.lst (ps.map ptU))) (lp:pl.length=8) (nd:pl.Nodup) (ok:∀ x∈pl,Pn x) (kk:kd=0\/kd=1\/kd=2) (okp:OkP ps) (ndp:(ps.map (·.1)).Nodup) (l:ps.length<=60) (D:Seed L' d B) (x:Ex d L L') (l1:L.length<=rp) (l2:L.length<=n)
theorem Ama{most:Int}(D:Seed L d B)(hB:B<=100000)(hm:most=8\/most=60):BegR (Ss [.ref d,.int most] L) L d (B+1000):=by
 obtain ⟨rp,L1,pl,e1,h1,lp,nd,ok,D1,x1,l1⟩:=Apk D Ze;have hpd:rp≠d:=by have:=D.lt;omega
 obtain ⟨kd,L2,e2,k0,k1,D2,x2⟩:=Dt (many:=3) D1 Ze Zb Zb;have kk:kd=0\/kd=1\/kd=2:=Ze
 have h2:=x2.get h1 hpd;have x12:=x1.trans x2;have s1:=Eg (i:=2) (δ:=[ξ (.ref d),ξ (.int most),ψ,ψ,ψ,ψ,ψ,ψ]) (Qj (i:=0) rfl e1);have s2:=Eg (i:=3) (δ:=[ξ (.ref d),ξ (.int most),ξ (.ref rp),ψ,ψ,ψ,ψ,ψ]) (Fy (fa:=Ae 0) (fb:=fC (.int 3)) rfl rfl e2);have s3:(Bh (Cg Ah) (gN 4)) [ξ (.ref d),ξ (.int most),ξ (.ref rp),ξ (.int kd),ψ,ψ,ψ,ψ] L2=ξ (.nx [ξ (.ref d),ξ (.int most),ξ (.ref rp),ξ (.int kd),ξ (.ref L2.length),ψ,ψ,ψ],L2++[.lst []]):=rfl;have h3:(L2++[HU.lst []])[rp]? = ξ Z6:=(Gw.new L2 _).get h2;have hn3:(L2++[HU.lst []])[L2.length]? = ξ (.lst (([]:List NP).map ptU)):=Za
 have D3:=D2.new [HU.lst []];have x3:=x12.trans (Ex.new d L2 [HU.lst []]);have hlt:L.length<=L2.length:=x12.le;have hnp:L2.length≠rp:=by have:=(aQ.mp h2).1;omega
 have hnd:L2.length≠d:=by have:=D2.lt;omega
 generalize hnn:L2.length=n at s3 hn3 hlt hnp hnd;generalize L2++[HU.lst []]=L3 at s3 h3 hn3 D3 x3;obtain ⟨mn,L4,e4,m0,m1,D4,x4⟩:=Dt (many:=most+1) D3 Ze Ze Ze;have hi:Eh (Ad (A9 2 A0 (Ad (Ae 0) (Ad (f2 Az (Ae 1) Zi) Ah))) Ah) [ξ (.ref d),ξ (.int most),ξ (.ref rp),ξ (.int kd),ξ (.ref n),ψ,ψ,ψ] L3=ξ (.seq (C4 0 mn.toNat),L4):=
  Abm (Bp (Fy rfl (Ax rfl rfl (E6 _ _ _)) e4) rfl) m0 Ze
 obtain ⟨δ',L5,e5,P⟩:=Aaq (us:=C4 0 mn.toNat) (body:=J8) (g:=gN 5) (fun k δ' M=>(∃ y5 y6 y7,δ'=[ξ (.ref d),ξ (.int most),ξ (.ref rp),ξ (.int kd),ξ (.ref n),y5,y6,y7])/\Seed M d (B+46+9 * k)/\Ex d L M/\M[rp]? = ξ Z6/\∃ ps:List NP,M[n]? = ξ (.lst ZW)/\OkP ps/\ps.map (·.1)=(bM k).map (Fs pl)) hi
  ⟨⟨_,_,_,rfl⟩,D4.mono Ze,x3.trans x4,x4.get h3 hpd,[],x4.get hn3 hnd,(fun p hp=>by cases hp),rfl⟩
  (fun k u δ M hu hP=>by
   obtain ⟨⟨y5,y6,y7,rfl⟩,DM,xM,hpM,ps,hps,okp,hnm⟩:=hP;obtain ⟨hk,rfl⟩:=Jn hu;have hlen:ps.length=k:=by have:=congrArg iI hnm;simpa using this
   obtain ⟨a6,a7,M',q,e,D',h',q1,q2,hp',x'⟩:=Am9 (k:=k) (x1:=ξ (.int most)) (y6:=y6) (y7:=y7) DM Ze hpM lp hps okp Ze Ze hnd hpd hnp kk;refine ⟨[ξ (.ref d),ξ (.int most),ξ (.ref rp),ξ (.int kd),ξ (.ref n),ξ (.int k),y6,y7],M,by rw[vP];rfl,_,M',.inl e,⟨_,_,_,rfl⟩,D'.mono (by push_cast;omega),x' L xM Ze,hp',_,h',fun p hp=>?_,?_⟩
   ·rcases cT.mp hp with hp | hp
    ·exact okp p hp
    ·rw[cR.mp hp];exact ⟨Ahr lp ok Ze,q1,q2⟩
   ·rw[fJ,hnm,sZ,fJ];rfl)
 obtain ⟨⟨y5,y6,y7,rfl⟩,DM,xM,hpM,ps,hps,okp,hnm⟩:=P;rw[Jf] at DM hnm;have hlen:ps.length=mn.toNat:=by have:=congrArg iI hnm;simpa using this
 refine ⟨L5.length,rp,n,kd,L5++[.lst [.ref rp,.int kd,.ref n]],pl,ps,fnN (n:=8) rfl ?_,Za,(Gw.new L5 _).get hpM,(Gw.new L5 _).get hps,lp,nd,ok,kk,okp,?_,Ze,(DM.new _).mono Ze,xM.trans (Ex.new d L5 _),l1,Ze⟩
 ·show Rv [ξ (.ref d),ξ (.int most),ψ,ψ,ψ,ψ,ψ,ψ] L=_;unfold Rv;exact A8 s1 (A8 s2 (A8 s3 (A8 e5 (B8 (A0f rfl rfl rfl)))))
 ·rw[hnm];exact gE (Fs pl) (fun i j hne h=>hne (Adu lp ok nd h)) sI
theorem Ana(h:asc w):∀ c∈w.cps.toList,c < 128:=by
 unfold asc at h;rw[<- nW,bQ] at h;intro c hc;exact of_decide_eq_true (h c hc)
theorem Om{b:Str}(ha:asc a)(hb:asc b):asc (a++b):=Qa fun c hc=>by
 rw[app_cps] at hc;rcases cT.mp hc with h | h
 ·exact Ana ha c h
 ·exact Ana hb c h
theorem Ao6(h:Nm w):asc w:=Qa fun c hc=>by have:=h.2.2 c hc;omega
theorem Awt:asc " " := by unfold asc;lk
theorem Vv(ha:Nm a)(hx:Ten x)(hy:Ten y):(Ki a x y).length<=100:=by
 have h1:=ha.2.1;have h2:=C1 hx;have h3:=C1 hy;have h4:(" " : Str).length=1:=Zd
 rw[Ahz,lapp,lapp,lapp,lapp];omega
theorem Uk(h:∀ w∈out,asc w):∀ u∈out.map U.str,Pl 6 u:=fun u hu=>by
 obtain ⟨w,hw,rfl⟩:=bT.mp hu;exact P0 (h w hw)
variable {b:Nat}
theorem Abr{a:Nat}(ha:L[a]? = ξ (.lst ZbM))(hb:L[b]? = ξ (.lst ZbM))(h:∀ w∈out,asc w):Dd (.ref a) (.ref b) L=ξ (.bl false,L):=by
 rw[Yb (Am ha) (Am hb) (Uk h) (Uk h),(Acw (Uk h) (Uk h)).mpr rfl];rfl
theorem Em{out x:Str}{f:FE}{r:List FE}(h:f δ L=ξ (.str x,L))(hs:(out++x).length<=1000):goJ out (f::r) δ L=goJ (out++x) r δ L:=by
 show ((f δ L).bind _)=_;rw[h];show (if E4 (out++x).length=true then goJ (out++x) r δ L else ψ)=_;rw[if_pos ZcZ]
theorem Hk{n:Int}(h:Ten n)(hv:Ae i δ L=ξ (.int n,L)):Hv (Ae i) δ L=ξ (.str (fig n),L):=by
 unfold Hv;rw[hv];show (if Nl n=true then ξ (U.str (Wy n),L) else ψ)=_;rw[if_pos (Ahi h),Agx]
theorem Aaz:(" " : Str).length=1:=Zd
theorem Afv(hw:w.length<=100)(hx:Ten x)(hy:Ten y)(hi:Ae i δ L=ξ (.int x,L))(hj:Ae j δ L=ξ (.int y,L)) :
  (Jr [(fC (.str w)),(Hv (Ae i)),(fC (.str " ")),(Hv (Ae j))]) δ L=ξ (.str (w++fig x ++ " " ++ fig y),L):=by
 have h2:=C1 hx;have h3:=C1 hy;have h4:=Aaz;show goJ jQ _ δ L=_;rw[Em (x:=w) rfl (by rw[e_app];omega),e_app,Em (Hk hx hi) (by rw[lapp];omega),Em (x := " ") rfl (by rw[lapp,lapp];omega),Em (Hk hy hj) (by rw[lapp,lapp,lapp];omega)];rfl
theorem Al8{ia:Nat}(ha:Nm a)(hx:Ten x)(hy:Ten y)(h0:Ae ia δ L=ξ (.str a,L))(hi:Ae i δ L=ξ (.int x,L))(hj:Ae j δ L=ξ (.int y,L)) :
  (f2 Az (Ae ia) (Jr [(fC (.str " ")),(Hv (Ae i)),(fC (.str " ")),(Hv (Ae j))])) δ L=ξ (.str (Ki a x y),L):=by
 have h1:=ha.2.1;have h2:=C1 hx;have h3:=C1 hy;have h4:=Aaz;refine Ax h0 (Afv Ze hx hy hi hj) ?_;rw[Ahz];exact Ll a _ (by rw[lapp,lapp,lapp];omega) L
theorem X9(h:L[n]? = ξ Zam)(ok:OkP m)(hl:m.length<=1000):Ans (Gy [.ref n] L) L (Qy m):=by
 have hsq:=Am h;obtain ⟨x,ec⟩:=Bu (ix:=[ψ,ψ,ψ]) (fi:=Br (Ae 0)) (g:=ZZ) (tt:=ψ) (fe:=N4) (δ:=[ξ (.ref n)]) (L:=L) (L0:=L) (it:=.ref n) m ptU Zaf (fun p=>U.str Zcp) (fun δ=>δ.length=3)
  (by rw[Df];show (Gm (.ref n) L).map _=_;rw[Ck hsq];rfl) (by rw[D9 hsq];simp) Ze rfl ZaD
  (fun p δ x hp hδ=>by
   match δ,hδ with
   | [u0,u1,u2],_=>
    refine ⟨[ξ (.str p.1),ξ (.int p.2.1),ξ (.int p.2.2)],rfl,rfl,[],by simp[Ft],fun _=>⟨[],?_⟩⟩;unfold N4;rw[Al8 (ok p hp).1 (ok p hp).2.1 (ok p hp).2.2 rfl rfl rfl];simp)
 rw[cZ.mpr Zg] at ec;have em:m.map (fun p=>U.str Zcp)=(Qy m).map U.str:=by unfold Qy;rw[bJ];rfl
 rw[em] at ec;generalize Qy m=out at ec;refine ⟨(L++x).length,L++x++[.lst ZbM],fnN (n:=1) rfl ?_,Za,⟨x++[.lst ZbM],by rw[<- bA]⟩,Za⟩;show Vs [ξ (.ref n)] L=_;unfold Vs;exact B8 ec
variable {M':UH}
theorem Ad0(g:Gw L M)(x:Ex p M M')(h:L.length<=p):Gw L M':=
 Gw.of (bW g.le x.le) fun i hi=>by
  have h1:=g.le;rw[x.at_ i Ze Ze];obtain ⟨y,rfl⟩:=g;rw[bL hi]
theorem Ahk(m:List NP)(nm:Str):Jd m nm=decide (nm∈m.map (·.1)):=by
 unfold Jd;induction m with
 | nil=>rfl
 | cons p m ih=>
  rw[eZ,ih];by_cases h:p.1=nm
  ·simp[h]
  ·have h':¬ nm=p.1:=fun q=>h q.symm
   simp[h,h']
theorem Aat{p:NP}(h:p∈m):Jd m p.1=true:=by rw[Ahk];exact decide_eq_true (bT.mpr ⟨p,h,rfl⟩)
theorem Ul(h:nm∉m.map (·.1)):Jd m nm=false:=by rw[Ahk];exact decide_eq_false h
theorem Acb{q:Int×Int}(h:Jd m nm=false):Lv m nm q=m++[(nm,q)]:=by
 unfold Lv;rw[h];rfl
theorem Alh(δ:UE)(L:UH):(Tu "Desk" 1 Et Ah) δ L=ξ (.ref L.length,L++[.ins "Desk" [("kept",.ref ZbB)]]++[.ins "KeptPoints" ZcV]++[.dic (kG ptU [])]):=by
 have e:Et [.ref L.length] (L++[.ins "Desk" []])=ξ (.non,L++[.ins "Desk" [("kept",.ref ZbB)]]++[.ins "KeptPoints" ZcV]++[.dic (kG ptU [])]):=by
  have hk:=congrFun (congrFun (Al0 L) [ξ ZD]) (L++[.ins "Desk" []]);have hl:(L++[HU.ins "Desk" []]).length=L.length+1:=Za
  rw[hl] at hk;have ha:(L++[HU.ins "Desk" []]++[HU.ins "KeptPoints" (kfl (L.length+1+1))]++[HU.dic (kG ptU [])])[L.length]? = ξ (.ins "Desk" []):=Za
  have hp:Ad8 "kept" (.ref ZbB) []=[(("kept" : Str),U.ref ZbB)]:=rfl;unfold Et fnU Mq Aec;simp only[aM,aV,if_true,aI,bI,cS,bO,aR,hk,aB,fVar_eq,aS,bF,aE,Jo ha];rw[if_pos Zb,hp];simp
 unfold Tu;rw[fNil_eq,aB];simp only[aV,if_true,e,aB]
inductive LaidR(v:Option (U×UH))(L:UH)(m:List NP):Prop
 | mk (d k p:Nat) (L':UH) (e:v=ξ (.ref d,L')) (T:Dk L' d k p m) (g:Gw L L') (l1:L.length<=d) (l2:L.length<=k) (l3:L.length<=p)
theorem Aqb(h:L[n]? = ξ Zam)(ok:OkP m)(nd:(m.map (·.1)).Nodup)(hl:m.length<=60):LaidR (Vp [.ref n] L) L m:=by
 have s1:=Eg (i:=1) (δ:=[ξ (.ref n),ψ,ψ]) (Alh [ξ (.ref n),ψ,ψ] L);have g1:Gw L (L++[.ins "Desk" [("kept",.ref ZbB)]]++[.ins "KeptPoints" ZcV]++[.dic (kG ptU [])]):=((Gw.new _ _).trans Zag).trans Zag;have T1:Dk (L++[.ins "Desk" [("kept",.ref ZbB)]]++[.ins "KeptPoints" ZcV]++[.dic (kG ptU [])]) L.length ZbB (L.length+2) []:=⟨Za,⟨Za,Za⟩⟩;generalize hL1:L++[.ins "Desk" [("kept",.ref ZbB)]]++[.ins "KeptPoints" ZcV]++[.dic (kG ptU [])]=L1 at s1 g1 T1;generalize hd:L.length=d at s1 T1;obtain ⟨r,L2,e2,h2,g2,l2⟩:=X9 (g1.get h) ok Ze;have hi:(Br (A9 1 Gy Zr)) [ξ (.ref n),ξ (.ref d),ψ] L1=ξ (.ref r,L2):=by
  rw[Df,Qj (i:=0) rfl e2];show (Gm (.ref r) L2).map _=_;rw[Ck (Am h2)];rfl
 obtain ⟨δ',L3,e3,P⟩:=Qm (us:=(Qy m).map U.str) (n:=r) (body:=Vn) (g:=gN 2) (fun j δ' M=>(∃ y,δ'=[ξ (.ref n),ξ (.ref d),y])/\Dk M d (d+1) (d+2) (m.take j)/\Gw L M/\M[r]? = ξ (.lst ((Qy m).map U.str))) hi
  ⟨⟨_,rfl⟩,T1.gw g2,g1.trans g2,h2⟩ (fun k δ M hP=>Am hP.2.2.2)
  (fun j u δ M hu hP=>by
   obtain ⟨⟨y,rfl⟩,T,g,hr⟩:=hP;rw[bD] at hu;obtain ⟨w,hw,rfl⟩:=aJ.mp hu;unfold Qy at hw;rw[bD] at hw;obtain ⟨p,hp,rfl⟩:=aJ.mp hw;have hpm:=dN hp;obtain ⟨hj,hpe⟩:=aQ.mp hp;obtain ⟨o1,o2,o3⟩:=ok p hpm;have hno:p.1∉(m.take j).map (·.1):=fun hin=>by
    rw[kY] at hin;obtain ⟨i,hi,hie⟩:=List.mem_iff_getElem.mp hin;rw[fL,aL] at hi;rw[List.getElem_take] at hie;have h1:(m.map (·.1))[j]'(by simpa using hj)=p.1:=by rw[iY,hpe]
    rw[<- h1] at hie;have:=(nM nd).mp hie;omega
   obtain ⟨r1,M',e,_,T',x',_⟩:=Agq (x:=p.2.1) (y:=p.2.2) T (by rw[fL];omega) (Ul hno) o1 o2 o3;have ec:=Ll "put " (Ki p.1 p.2.1 p.2.2) (by have:=Vv o1 o2 o3;have h4:=Atq;omega) M;have hrp:r≠d+2:=fun q=>by rw[q,T.kp.pt] at hr;cases hr
   refine ⟨[ξ (.ref n),ξ (.ref d),ξ (.str Zcp)],M,rfl,_,M',.inl (L9 (Wn T d3 rfl (us:=[.str ("put " ++ Ki p.1 p.2.1 p.2.2)]) (Bp (Ax rfl rfl ec) rfl) rfl e)),⟨_,rfl⟩,?_,Ad0 g x' Ze,x'.get hr hrp⟩;rw[Acb (Ul hno)] at T';rw[pO,hp];exact T')
 obtain ⟨⟨y,rfl⟩,T,g,hr⟩:=P;have hlen:((Qy m).map U.str).length=m.length:=by unfold Qy;simp
 rw[hlen,kP] at T;refine ⟨d,d+1,d+2,L3,fn1 (n:=2) ?_,T,g,Ze,Ze,Ze⟩;show V6 [ξ (.ref n),ψ,ψ] L=_;unfold V6;exact A8 s1 (A8 e3 (B8 rfl))
inductive Deed(ps:List NP):Str->List NP->Prop
 | take (i:Nat) (h:i < ps.length):Deed ps ("take " ++ (ps[i]'h).1) (ps.take i++ps.drop (i+1))
 | move (i:Nat) (h:i < ps.length) (x y:Int) (tx:Ten x) (ty:Ten y):Deed ps ("move " ++ Ki (ps[i]'h).1 x y) (ps.take i++[((ps[i]'h).1,(x,y))]++ps.drop (i+1))
 | put (nm:Str) (x y:Int) (hn:Nm nm) (hno:nm∉ps.map (·.1)) (hl:ps.length < 60) (tx:Ten x) (ty:Ten y):Deed ps ("put " ++ Ki nm x y) (ps++[(nm,(x,y))])
theorem Ahh:∀ (ps:List NP),(ps.map (·.1)).Nodup->∀ (i:Nat) (h:i < ps.length),O1 ps (ps[i]'h).1=ps.take i++ps.drop (i+1)
 | p::ps,nd,0,_=>by
  rw[aI,fH] at nd;show iJ _ (p::ps)=ps;rw[eB,if_neg Za];refine cZ.mpr fun q hq=>decide_eq_true fun e=>nd.1 (bT.mpr ⟨q,hq,e⟩)
 | p::ps,nd,i+1,h=>by
  rw[aI,fH] at nd;have hi:i < ps.length:=by simpa using h
  have ih:=Ahh ps nd.2 i hi;have hne:p.1≠(ps[i]'hi).1:=fun e=>nd.1 (bT.mpr ⟨_,bZ hi,e.symm⟩)
  show iJ (fun r=>decide (r.1≠(ps[i]'hi).1)) (p::ps)=p::(ps.take i++ps.drop (i+1));rw[eB,if_pos (decide_eq_true hne),<- ih];rfl
theorem Agm:∀ (ps:List NP),(ps.map (·.1)).Nodup->∀ (i:Nat) (h:i < ps.length) (q:Int×Int),ps.map (fun p=>if p.1=(ps[i]'h).1 then ((ps[i]'h).1,q) else p)=ps.take i++[((ps[i]'h).1,q)]++ps.drop (i+1)
 | p::ps,nd,0,_,q=>by
  rw[aI,fH] at nd;show nY _ (p::ps)=(p.1,q)::ps;rw[aI];have:ps.map (fun r=>if r.1=p.1 then (p.1,q) else r)=ps:=by
   conv=>rhs;rw[<- jT ps]
   refine cY fun r hr=>?_
   rw[if_neg (fun e=>nd.1 (bT.mpr ⟨r,hr,e⟩))];rfl
  simp only[List.getElem_cons_zero,if_true,this]
 | p::ps,nd,i+1,h,q=>by
  rw[aI,fH] at nd;have hi:i < ps.length:=by simpa using h
  have ih:=Agm ps nd.2 i hi q;have hne:p.1≠(ps[i]'hi).1:=fun e=>nd.1 (bT.mpr ⟨_,bZ hi,e.symm⟩)
  simp only[oJ,aI,if_neg hne,ih,pU,List.drop_succ_cons,fO]
theorem Awy(nd:(ps.map (·.1)).Nodup)(h:i < ps.length)(q:Int×Int):Lv ps (ps[i]'h).1 q=ps.take i++[((ps[i]'h).1,q)]++ps.drop (i+1):=by
 unfold Lv;rw[Aat (bZ h),if_pos rfl];exact Agm ps nd i h q
theorem Deed.asked{ps':List NP}(D:Deed ps line ps')(T:Dk L d k p ps)(ok:OkP ps)(nd:(ps.map (·.1)).Nodup)(hl:ps.length<=60):Chg Zcv L d k p ps':=by
 cases D with
 | take i h=>
  rw[<- Ahh ps nd i h];exact Amh T (Aat (bZ h)) (ok _ (bZ h)).1
 | move i h x y tx ty=>
  rw[<- Awy nd h];exact Anz T Ze (Aat (bZ h)) (ok _ (bZ h)).1 tx ty
 | put nm x y hn hno hl tx ty=>
  rw[<- Acb (Ul hno)];exact Agq T hl (Ul hno) hn tx ty
theorem Deed.ok{ps':List NP}(D:Deed ps line ps')(ok:OkP ps)(nd:(ps.map (·.1)).Nodup)(hl:ps.length<=60):OkP ps'/\(ps'.map (·.1)).Nodup/\ps'.length<=60:=by
 cases D with
 | take i h=>
  rw[<- iE];have hs:=List.eraseIdx_sublist ps i;exact ⟨fun p hp=>ok p (hs.subset hp),nd.sublist (hs.map _),bW hs.length_le hl⟩
 | move i h x y tx ty=>
  have he:ps.take i++[((ps[i]'h).1,(x,y))]++ps.drop (i+1)=ps.set i ((ps[i]'h).1,(x,y)):=by rw[List.set_eq_take_append_cons_drop,if_pos h,bA];rfl
  rw[he];refine ⟨fun p hp=>?_,?_,by rw[lK];exact hl⟩
  ·rcases List.mem_or_eq_of_mem_set hp with hp | hp
   ·exact ok p hp
   ·rw[hp];exact ⟨(ok _ (bZ h)).1,tx,ty⟩
  ·rw[List.map_set];have:(ps.map (·.1)).set i (ps[i]'h).1=ps.map (·.1):=by
    have h2:(ps.map (·.1))[i]'(by simpa using h)=(ps[i]'h).1:=iY ..;rw[<- h2,List.set_getElem_self]
   rw[this];exact nd
 | put nm x y hn hno hl tx ty=>
  refine ⟨fun p hp=>?_,?_,by simp;omega⟩
  ·rcases cT.mp hp with hp | hp
   ·exact ok p hp
   ·rw[cR.mp hp];exact ⟨hn,tx,ty⟩
  ·rw[fJ,rP];refine ⟨nd,Za,fun a ha b hb=>?_⟩;simp only[aI,bI,cR] at hb;intro q;exact hno (by rw[<- hb,<- q];exact ha)
theorem Yi{β:Type}[DecidableEq β]:∀ (l m:List β),l.Nodup->(∀ x∈l,x∈m)->l.length<=m.length
 | [],m,_,_=>eG _
 | a::l,m,nd,h=>by
  rw[fH] at nd;have ham:=h a Za;have:=Yi l (m.erase a) nd.2 (fun x hx=>(List.mem_erase_of_ne (fun (e:x=a)=>nd.1 (by rw[<- e];exact hx))).mpr (h x (aO _ hx)));rw[List.length_erase_of_mem ham] at this;have:0 < m.length:=List.length_pos_of_mem ham;simp only[aM];omega
theorem Aip(lp:pl.length=8)(ok:∀ x∈pl,Pn x)(nd:pl.Nodup){N:Nat}(h:ps.length < N):0 < ((bM N).filter fun k=>!decide (Fs pl k∈ps.map (·.1))).length:=by
 rcases Nat.eq_zero_or_pos ((bM N).filter fun k=>!decide (Fs pl k∈ps.map (·.1))).length with h0 | h0
 ·rw[iH,oK] at h0;have hn:((bM N).map (Fs pl)).Nodup:=gE (Fs pl) (fun i j hne h=>hne (Adu lp ok nd h)) sI;have:=Yi _ (ps.map (·.1)) hn (fun x hx=>by
   obtain ⟨k,hk,rfl⟩:=bT.mp hx;have:=h0 k hk;simpa using this)
  simp only[aL,iD] at this;omega
 ·exact h0
theorem Ajw(l:List U)(k:Nat):T4 l (ξ (k:Int)) ψ=l.drop k:=by
 unfold T4;rw[HT.Acu,HT.Ue];by_cases h:k<=l.length
 ·rw[oQ h];exact dQ Za
 ·rw[nQ Ze,oM Ze,oM Ze];simp
theorem Apy(hi:Ae i δ L=ξ (.ref n,L))(hj:Ae j δ L=ξ (.int (k:Int),L))(h:L[n]? = ξ (.lst l)):(fSl Cj (Ae i) Bw (B3 (Ae j))) δ L=ξ (.ref L.length,L++[.lst (l.take k)]):=by
 rw[fSl_eq,hi];simp only[aB,fNoPart_eq,fPart_eq,hj];show mQ _ (Aw L n)=_;rw[Am h,aE,cutU_take]
theorem Ar0(hi:Ae i δ L=ξ (.ref n,L))(hj:fe δ L=ξ (.int (k:Int),L))(h:L[n]? = ξ (.lst l)):(fSl Cj (Ae i) (B3 fe) Bw) δ L=ξ (.ref L.length,L++[.lst (l.drop k)]):=by
 rw[fSl_eq,hi];simp only[aB,fNoPart_eq,fPart_eq,hj];show mQ _ (Aw L n)=_;rw[Am h,aE,Ajw]
theorem Qn{a:Nat}{xs ys:List U}(h1:L[a]? = ξ (.lst xs))(h2:L[b]? = ξ (.lst ys))(hs:xs.length+ys.length<=1000):Az (.ref a) (.ref b) L=ξ (.ref L.length,L++[.lst (xs++ys)]):=by
 unfold Az;simp only[Ew h1,Ew h2,aB];rw[if_pos ZcZ]
inductive NewL(v:Option (U×UH))(L:UH)(us:List U):Prop
 | mk (r:Nat) (L':UH) (e:v=ξ (.ref r,L')) (h:L'[r]? = ξ (.lst us)) (g:Gw L L') (l:L.length<=r)
theorem NewL.add{ws:List U}(ha:NewL (fa δ L) L us)(hb:∀ M,Gw L M->NewL (fb δ M) M ws)(hs:us.length+ws.length<=1000):NewL ((f2 Az fa fb) δ L) L (us++ws):=by
 obtain ⟨r,L1,e1,h1,g1,l1⟩:=ha;obtain ⟨r2,L2,e2,h2,g2,l2⟩:=hb L1 g1;exact ⟨L2.length,L2++[.lst (us++ws)],Ax e1 e2 (Qn (g2.get h1) h2 hs),Za,(g1.trans g2).trans Zag,(g1.trans g2).le⟩
theorem NewL.one(h:fe δ L=ξ (v,L1))(g:Gw L L1):NewL (Cg (Ad fe Ah) δ L) L [v]:=
 ⟨L1.length,L1++[.lst [v]],Aft h,Za,g.trans Zag,g.le⟩
theorem NewL.tk(hi:Ae i δ L=ξ (.ref n,L))(hj:Ae j δ L=ξ (.int (k:Int),L))(h:L[n]? = ξ (.lst l)):NewL ((fSl Cj (Ae i) Bw (B3 (Ae j))) δ L) L (l.take k):=
 ⟨L.length,_,Apy hi hj h,Za,Gw.new _ _,aP _⟩
theorem NewL.dr(hi:Ae i δ L=ξ (.ref n,L))(hj:fe δ L=ξ (.int (k:Int),L))(h:L[n]? = ξ (.lst l)):NewL ((fSl Cj (Ae i) (B3 fe) Bw) δ L) L (l.drop k):=
 ⟨L.length,_,Ar0 hi hj h,Za,Gw.new _ _,aP _⟩
abbrev dE(d rp n t:Nat)(kd wy x y:Int)(e8 e9 e10 e11:Option U):UE:=[ξ (.ref d),ξ (.ref rp),ξ (.int kd),ξ (.ref n),ξ (.ref t),ξ (.int wy),ξ (.int x),ξ (.int y),e8,e9,e10,e11]
structure DS(M:UH)(d rp n t:Nat)(B:Int)(pl:List Str)(ps:List NP):Prop where
 D:Seed M d B
 hp:M[rp]? = ξ Z6
 hn:M[n]? = ξ (.lst ZW)
 ht:M[t]? = ξ (.lst ((ps.map (·.1)).map U.str))
 rd:rp≠d
 nd:n≠d
 td:t≠d
theorem DS.ex(S:DS M d rp n t B pl ps)(D':Seed M' d B')(x:Ex d M M'):DS M' d rp n t B' pl ps:=⟨D',x.get S.hp S.rd,x.get S.hn S.nd,x.get S.ht S.td,S.rd,S.nd,S.td⟩
theorem DS.gw(S:DS M d rp n t B pl ps)(g:Gw M M'):DS M' d rp n t B pl ps:=S.ex (S.D.gw g) (g.ex d)
inductive DeedF(v:Option (Fl×UH))(L:UH)(d:Nat)(B:Int)(ps:List NP):Prop
 | mk (r n':Nat) (line:Str) (ps':List NP) (L':UH) (e:v=ξ (.rt (.ref r),L')) (hr:L'[r]? = ξ (.lst [.str line,.ref n'])) (hn:L'[n']? = ξ (.lst (ps'.map ptU))) (dd:Deed ps line ps') (D:Seed L' d B) (x:Ex d L L') (l:L.length<=n')
theorem DeedF.from{v:Option (Fl×UH)}(h:DeedF v M d B ps)(x:Ex d L M)(hb:B<=B'):DeedF v L d B' ps:=by
 obtain ⟨r,n',line,ps',L',e,hr,hn,dd,D,x',l⟩:=h;exact ⟨r,n',line,ps',L',e,hr,hn,dd,D.mono hb,x.trans x',bW x.le l⟩
inductive AtR(v:Option (Fl×UH))(L:UH)(d rp n t:Nat)(B:Int)(pl:List Str)(ps:List NP)(f:Nat->UE):Prop
 | mk (b:Nat) (L':UH) (e:v=ξ (.nx (f b),L')) (hb:b < ps.length) (S:DS L' d rp n t B pl ps) (x:Ex d L L')
variable {wy:Int}{e8 e9 e10 e11:Option U}
theorem Ahe{M:UH}{d rp n t:Nat}{B kd wy x y:Int}{pl:List Str}{ps:List NP}{e8 e9 e10 e11:Option U}(S:DS M d rp n t B pl ps)(hB:B<=1000000000)(h0:0 < ps.length)(hl:ps.length<=1000) :
  AtR ((Bh (A9 2 A0 (Ad (Ae 0) (Ad (Ay Ap ZB) Ah))) (gN 8)) ZI M) M d rp n t (B+1) pl ps (fun b=>dE d rp n t kd wy x y ZbT e9 e10 e11):=by
 have hlen:=Dz S.hn;rw[aL] at hlen;obtain ⟨a,L1,e1,a0,a1,D1,x1⟩:=Dt (many:=(ps.length:Nat)) S.D Ze Ze Ze;obtain ⟨b,rfl⟩:∃ b:Nat,a=(b:Int):=⟨a.toNat,Ze⟩;exact ⟨b,L1,Eg (i:=8) (δ:=dE d rp n t kd wy x y e8 e9 e10 e11) (Fy (fa:=Ae 0) rfl Zd9 e1),Ze,S.ex D1 x1,x1⟩
theorem Abz(ht:M[t]? = ξ (.lst ((ps.map (·.1)).map U.str)))(hb:b < ps.length)(hi:Ae i δ M=ξ (.ref t,M))(hj:Ae j δ M=ξ (.int (b:Int),M)):(f2 Al (Ae i) (Ae j)) δ M=ξ (.str (ps[b]'hb).1,M):=by
 refine Ax hi hj (F0 ht (Jb ?_));rw[bD,bD,aG hb];rfl
theorem Auo(hj:Ae j δ M=ξ (.int (b:Int),M)):(f2 Az (Ae j) Zi) δ M=ξ (.int ((b+1:Nat):Int),M):=by
 refine Ax hj rfl ?_;rw[E6];push_cast;rfl
theorem Ava(h:Nm w):w.length<=8:=h.2.1
theorem Ajb{M:UH}{d rp n t:Nat}{B kd wy x y:Int}{pl:List Str}{ps:List NP}{e8 e9 e10 e11:Option U}(S:DS M d rp n t B pl ps)(hB:B<=1000000000)(ok:OkP ps)(h0:0 < ps.length)(hl:ps.length<=60) :
  DeedF ((Ba Z9 (Cf (Cg (Ad (f2 Az (fC (.str "take ")) Zb8) (Ad (f2 Az Za4 ZaZ) Ah))))) ZI M) M d (B+1) ps:=by
 obtain ⟨b,M1,e1,hb,S1,x1⟩:=Ahe (kd:=kd) (wy:=wy) (x:=x) (y:=y) (e8:=e8) (e9:=e9) (e10:=e10) (e11:=e11) S hB h0 Ze;have hnm:=ok _ (bZ hb);have ec:=Ll "take " (ps[b]'hb).1 (by have:=Ava hnm.1;have h4:=Awp;omega) M1;have et:=Abz (i:=4) (j:=8) (δ:=dE d rp n t kd wy x y ZbT e9 e10 e11) S1.ht hb rfl rfl;obtain ⟨r,M2,e2,h2,g2,l2⟩:=NewL.add (fa:=fSl Cj (Ae 3) Bw (B3 (Ae 8))) (fb:=fSl Cj (Ae 3) (B3 (f2 Az (Ae 8) Zi)) Bw) (δ:=dE d rp n t kd wy x y ZbT e9 e10 e11) (NewL.tk rfl rfl S1.hn) (fun M g=>NewL.dr rfl (Auo rfl) (g.get S1.hn)) (by simp;omega);have hm:(ps.map ptU).take b++(ps.map ptU).drop (b+1)=(ps.take b++ps.drop (b+1)).map ptU:=Za
 rw[hm] at h2;refine ⟨M2.length,r,_,_,M2++[.lst [.str ("take " ++ (ps[b]'hb).1),.ref r]],?_,Za,(Gw.new M2 _).get h2,.take b hb,(S1.D.gw g2).new _,(x1.trans (g2.ex d)).trans Zd2,bW x1.le l2⟩;rw[Bf e1];exact B8 (Aka (Ax rfl et ec) e2)
inductive RowO(v:Option (U×UH))(L:UH)(w:Str):Prop
 | mk (L':UH) (e:v=ξ (.str w,L')) (g:Gw L L')
theorem Ag7{p:NP}(hi:Ae i δ M=ξ (ptU p,M))(ok:Nm p.1/\Ten p.2.1/\Ten p.2.2):RowO ((f2 Al (A9 1 Gy (Ad (Cg (Ad (Ae i) Ah)) Ah)) Zh) δ M) M Zcp:=by
 have h1:(M++[HU.lst [ptU p]])[M.length]? = ξ (.lst ([p].map ptU)):=Za
 obtain ⟨r,L',e,h,g,l⟩:=X9 h1 (fun q hq=>by rw[cR.mp hq];exact ok) Za;exact ⟨L',Ax (Amx (Aft hi) e) rfl (F0 h (by exact Jb (k:=0) rfl)),(Gw.new _ _).trans g⟩
theorem Ajl{M:UH}{d rp n t:Nat}{B kd wy x y:Int}{pl:List Str}{ps:List NP}{e8 e9 e10 e11:Option U}(S:DS M d rp n t B pl ps)(hB:B<=1000000000)(ok:OkP ps)(h0:0 < ps.length)(hl:ps.length<=60)(tx:Ten x)(ty:Ten y) :
  DeedF ((Ba Z9 (Ba (Bh (Gi (Ad Zb8 ZX)) (gN 9)) (Cf (Cg (Ad (f2 Az (fC (.str "move ")) (f2 Al (A9 1 Gy (Ad ZcI Ah)) Zh)) (Ad (f2 Az (f2 Az Za4 ZcI) ZaZ) Ah)))))) ZI M) M d (B+1) ps:=by
 obtain ⟨b,M1,e1,hb,S1,x1⟩:=Ahe (kd:=kd) (wy:=wy) (x:=x) (y:=y) (e8:=e8) (e9:=e9) (e10:=e10) (e11:=e11) S hB h0 Ze;have hnm:=ok _ (bZ hb);have et:=Abz (i:=4) (j:=8) (δ:=dE d rp n t kd wy x y ZbT e9 e10 e11) S1.ht hb rfl rfl;have s2:=Eg (i:=9) (δ:=dE d rp n t kd wy x y ZbT e9 e10 e11) (Aja (fb:=Ae 6) (fc:=Ae 7) et rfl rfl);have s2':(Bh (Gi (Ad Zb8 ZX)) (gN 9)) (dE d rp n t kd wy x y ZbT e9 e10 e11) M1=ξ (.nx (dE d rp n t kd wy x y ZbT (ξ (ptU Zbg)) e10 e11),M1):=s2;obtain ⟨M2,e2,g2⟩:=Ag7 (M:=M1) (i:=9) (δ:=dE d rp n t kd wy x y ZbT (ξ (ptU Zbg)) e10 e11) (p:=Zbg) rfl ⟨hnm.1,tx,ty⟩;have ec:=Ll "move " (Ki (ps[b]'hb).1 x y) (by have:=Vv hnm.1 tx ty;have h4:=Awo;omega) M2;have S2:=S1.gw g2;obtain ⟨r,M3,e3,h3,g3,l3⟩:=NewL.add (fa:=f2 Az Za4 ZcI) (fb:=fSl Cj (Ae 3) (B3 (f2 Az (Ae 8) Zi)) Bw) (δ:=dE d rp n t kd wy x y ZbT (ξ (ptU Zbg)) e10 e11) (NewL.add (us:=(ps.map ptU).take b) (ws:=[ptU Zbg]) (NewL.tk rfl rfl S2.hn) (fun M g=>NewL.one rfl (Gw.refl M)) (by simp;omega)) (fun M g=>NewL.dr (k:=b+1) rfl (Auo rfl) (g.get S2.hn)) (by simp;omega);have hm:(ps.map ptU).take b++[ptU Zbg]++(ps.map ptU).drop (b+1)=(ps.take b++[Zbg]++ps.drop (b+1)).map ptU:=Za
 rw[hm] at h3;have g23:=g2.trans g3;refine ⟨M3.length,r,_,_,M3++[.lst [.str ("move " ++ Ki (ps[b]'hb).1 x y),.ref r]],?_,Za,(Gw.new M3 _).get h3,.move b hb x y tx ty,(S1.D.gw g23).new _,(x1.trans (g23.ex d)).trans Zd2,bW (x1.trans (g2.ex d)).le l3⟩;rw[Bf e1,Bf s2'];exact B8 (Aka (Ax rfl e2 ec) e3)
inductive SpR(v:Option (U×UH))(L:UH)(pl:List Str)(ps:List NP):Prop
 | mk (r:Nat) (L':UH) (ks:List Nat) (e:v=ξ (.ref r,L')) (h:L'[r]? = ξ (.lst (ks.map fun k=>U.str (Fs pl k)))) (hk:∀ k∈ks,k < 64/\Fs pl k∉ps.map (·.1)) (hp:0 < ks.length) (hl:ks.length<=60) (g:Gw L L')
theorem Afq{M:UH}{d rp n t:Nat}{B kd wy x y:Int}{pl:List Str}{ps:List NP}{e8 e9 e10 e11:Option U}(S:DS M d rp n t B pl ps)(lp:pl.length=8)(okl:∀ x∈pl,Pn x)(ndl:pl.Nodup)(hl:ps.length < 60) :
  SpR ((Bv [ψ,ξ 1,ξ 4] (Eh Zm) (gN 0) (ξ Hq) Ho) ZI M) M pl ps:=by
 have hlen:=Dz S.hn;rw[aL] at hlen;have hmin:∃ N:Nat,Lh [.int 60,.int ((ps.length:Int)+9)] M=ξ (.int (N:Int),M)/\ps.length < N/\N<=60:=by
  have e:Lh [.int 60,.int ((ps.length:Int)+9)] M=ξ (.int (if (ps.length:Int)+9 < 60 then (ps.length:Int)+9 else 60),M):=rfl;by_cases h:(ps.length:Int)+9 < 60
  ·rw[if_pos h] at e;exact ⟨ps.length+9,by rw[e];push_cast;rfl,Ze,Ze⟩
  ·rw[if_neg h] at e;exact ⟨60,e,Ze,Ze⟩
 obtain ⟨N,eN,N1,N2⟩:=hmin;have ea:(Ad ZbY (Ad (f2 Az (Ay Ap ZB) (fC (.int 9))) Ah)) ZI M=ξ ([.int 60,.int ((ps.length:Int)+9)],M):=Bp rfl (Bp (Ax Zd9 rfl (E6 _ _ _)) rfl);have hi:Eh Zm ZI M=ξ (.seq (C4 0 N),M):=by
  refine Og (Bp ?_ rfl) Ze;rw[fCall_eq,ea];exact eN
 have hr0:C4 0 N=(bM N).map fun (k:Nat)=>U.int (k:Int):=by unfold C4;simp
 rw[hr0] at hi;have hnm:∀ (k:Nat) (M':UH),k < N->M'[rp]? = ξ Z6->(A9 2 G0 Zc8) [ξ ZcB,ξ (.ref rp),ξ (.ref t)] M'=ξ (.str (Fs pl k),M'):=fun k M' hk h=>Fy rfl rfl (Agt h lp Ze)
 obtain ⟨z,ec⟩:=Bu (ix:=[ψ,ξ 1,ξ 4]) (fi:=Eh Zm) (g:=gN 0) (tt:=ξ Hq) (fe:=Ho) (δ:=dE d rp n t kd wy x y e8 e9 e10 e11) (L:=M) (L0:=M) (it:=.seq ((bM N).map fun (k:Nat)=>U.int (k:Int))) (bM N) (fun (k:Nat)=>U.int (k:Int)) (fun k=>!decide (Fs pl k∈ps.map (·.1))) (fun k=>U.str (Fs pl k)) (fun δ=>∃ z,δ = [z,ξ (.ref rp),ξ (.ref t)]) hi (by simp[IU.size]) (by simp;omega) ⟨ψ,rfl⟩
  ZcA
  (fun k δ x hk hδ=>by
   obtain ⟨z,rfl⟩:=hδ;have hk':=cL.mp hk;have h1:=hnm k (M++x) hk' ((Gw.new M x).get S.hp);refine ⟨[ξ ZcB,ξ (.ref rp),ξ (.ref t)],rfl,⟨_,rfl⟩,[],?_,fun _=>⟨[],?_⟩⟩
   ·rw[aR];exact B1 (Ax h1 rfl (Ahv _ ((Gw.new M x).get S.ht)))
   ·rw[aR,aR];exact h1)
 have hpos:=Aip (ps:=ps) lp okl ndl N1;refine ⟨(M++z).length,_,(bM N).filter fun k=>!decide (Fs pl k∈ps.map (·.1)),ec,Za,fun k hk=>?_,hpos,?_,⟨z++[_],by rw[bA]⟩⟩
 ·obtain ⟨h1,h2⟩:=cH.mp hk;have:=cL.mp h1;refine ⟨Ze,?_⟩;simpa using h2
 ·have:=dF (fun k=>!decide (Fs pl k∈ps.map (·.1))) (bM N);rw[iD] at this;omega
theorem Ad4(S:DS M d rp n t B pl ps)(hB:B<=1000000000)(lp:pl.length=8)(okl:∀ x∈pl,Pn x)(ndl:pl.Nodup)(hl:ps.length < 60)(tx:Ten x)(ty:Ten y) :
  DeedF ((Ba (Bh ZaI (gN 10)) (Ba (Bh Zap (gN 11)) (Cf (Cg (Ad (f2 Az (fC (.str "put ")) (f2 Al (A9 1 Gy (Ad (Cg ZaU) Ah)) Zh)) (Ad (f2 Az (Ae 3) (Cg ZaU)) Ah)))))) ZI M) M d (B+1) ps:=by
 obtain ⟨r,M1,ks,e1,h1,hk,hp,hkl,g1⟩:=Afq (kd:=kd) (wy:=wy) (x:=x) (y:=y) (e8:=e8) (e9:=e9) (e10:=e10) (e11:=e11) S lp okl ndl hl;have S1:=S.gw g1;have s1:(Bh ZaI (gN 10)) ZI M=ξ (.nx Zbz,M1):=Eg (i:=10) (δ:=dE d rp n t kd wy x y e8 e9 e10 e11) e1;have hrd:r≠d:=fun q=>by
  obtain ⟨a,b,c,e,hd,_⟩:=S1.D.ex;rw[q,hd] at h1;cases ks with
  | nil=>simp at hp
  | cons k ks=>cases h1
 have hlen:=Dz h1;rw[aL] at hlen;obtain ⟨a,M2,e2,a0,a1,D2,x2⟩:=Dt (many:=(ks.length:Nat)) S1.D Ze Ze Ze;obtain ⟨b,rfl⟩:∃ b:Nat,a=(b:Int):=⟨a.toNat,Ze⟩;have hb:b < ks.length:=Ze
 have S2:=S1.ex D2 x2;have h2:=x2.get h1 hrd;obtain ⟨k64,hno⟩:=hk _ (bZ hb);have hnm:=Ahr lp okl k64;generalize hnn:Fs pl (ks[b]'hb)=nm at hno hnm;have en:(f2 Al (Ae 10) (A9 2 A0 (Ad (Ae 0) (Ad (Ay Ap (Ad (Ae 10) Ah)) Ah)))) Zbz M1=ξ (.str nm,M2):=by
  refine Ax (u:=.ref r) (L1:=M1) rfl (Fy (fa:=Ae 0) rfl (Ea (fa:=Ae 10) rfl hlen) e2) (F0 h2 (Jb ?_));rw[bD,aG hb];rw[<- hnn];rfl
 have s2:(Bh Zap (gN 11)) Zbz M1=ξ (.nx (dE d rp n t kd wy x y e8 e9 ZdA (ξ (ptU (nm,(x,y))))),M2):=by
  refine Eg (i:=11) (δ:=dE d rp n t kd wy x y e8 e9 ZdA e11) (v:=ptU (nm,(x,y))) ?_;rw[fTup_eq,Bp en (Bp (fe:=Ae 6) (u:=.int x) (L1:=M2) rfl (Bp (fe:=Ae 7) (u:=.int y) (L1:=M2) rfl rfl))];rfl
 obtain ⟨M3,e3,g3⟩:=Ag7 (M:=M2) (i:=11) (δ:=dE d rp n t kd wy x y e8 e9 ZdA (ξ (ptU (nm,(x,y))))) (p:=(nm,(x,y))) rfl ⟨hnm,tx,ty⟩;have ec:=Ll "put " (Ki nm x y) (by have:=Vv hnm tx ty;have h4:=Atq;omega) M3;have S3:=S2.gw g3;have h4:(M3++[HU.lst [ptU (nm,(x,y))]])[n]? = ξ (.lst ZW):=(Gw.new M3 _).get S3.hn;have ea:=Qn h4 (b:=M3.length) (ys:=[ptU (nm,(x,y))]) Za (by simp;omega);have hm:ps.map ptU++[ptU (nm,(x,y))]=(ps++[(nm,(x,y))]).map ptU:=Za
 rw[hm] at ea;have e4:=Ax (fa:=Ae 3) (δ:=dE d rp n t kd wy x y e8 e9 ZdA (ξ (ptU (nm,(x,y))))) (L:=M3) (L1:=M3) rfl (Aft (fe:=Ae 11) rfl) ea;have g34:Gw M2 (M3++[.lst [ptU (nm,(x,y))]]++[.lst Zb0]):=(g3.trans Zag).trans Zag;have hM5:(M3++[.lst [ptU (nm,(x,y))]]++[.lst Zb0])[(M3++[HU.lst [ptU (nm,(x,y))]]).length]? = ξ (.lst Zb0):=Za
 have l5:M.length<=(M3++[HU.lst [ptU (nm,(x,y))]]).length:=by
  have q1:=g1.le;have q2:=x2.le;have q3:=g3.le;simp only[bV,aM,aV];omega
 generalize M3++[.lst [ptU (nm,(x,y))]]++[.lst Zb0]=M5 at e4 g34 hM5;generalize (M3++[HU.lst [ptU (nm,(x,y))]]).length=r5 at e4 hM5 l5;refine ⟨M5.length,r5,_,_,M5++[.lst [.str ("put " ++ Ki nm x y),.ref r5]],?_,Za,(Gw.new M5 _).get hM5,.put nm x y hnm hno hl tx ty,(D2.gw g34).new _,(((g1.ex d).trans x2).trans (g34.ex d)).trans Zd2,l5⟩;rw[Bf s1,Bf s2];exact B8 (Aka (Ax rfl e3 ec) e4)
inductive DeedR(v:Option (U×UH))(L:UH)(d:Nat)(B:Int)(ps:List NP):Prop
 | mk (r n':Nat) (line:Str) (ps':List NP) (L':UH) (e:v=ξ (.ref r,L')) (hr:L'[r]? = ξ (.lst [.str line,.ref n'])) (hn:L'[n']? = ξ (.lst (ps'.map ptU))) (dd:Deed ps line ps') (D:Seed L' d B) (x:Ex d L L') (l:L.length<=n')
theorem Arm{β:Type}{l:List β}(h:0 < l.length):L2.atI l (-1)=l[l.length - 1]?:=by
 unfold L2.atI ixN;rw[if_neg Zb,if_pos Ze];simp only[aB]
 congr 1
 omega
theorem Aez(hi:Ae i δ L=ξ (.ref n,L))(hin:Ko [ψ] δ = [ψ])(h:L[n]? = ξ (.lst ZW))(hl:ps.length<=1000)(hfe:fe=f2 Al (Ae 0) Zh):NewL ((Bv [ψ] (Br (Ae i)) (gN 0) ψ fe) δ L) L ((ps.map (·.1)).map U.str):=by
 subst hfe;have hsq:=Am h;obtain ⟨x,ec⟩:=Bu (ix:=[ψ]) (fi:=Br (Ae i)) (g:=gN 0) (tt:=ψ) (fe:=f2 Al (Ae 0) Zh) (δ:=δ) (L:=L) (L0:=L) (it:=.ref n) ps ptU Zaf ZcW Zea
  (by rw[Df,hi];simp only[aB,Ck hsq,aE]) (by rw[D9 hsq];simp) Ze ⟨ψ,hin⟩ ZaD
  (fun p δ x hp hδ=>by
   obtain ⟨a,rfl⟩:=hδ;exact ⟨[ξ (ptU p)],rfl,⟨_,rfl⟩,[],by simp[Ft],fun _=>⟨[],by rw[aR,aR];rfl⟩⟩)
 rw[cZ.mpr Zg] at ec;exact ⟨(L++x).length,_,ec,Za,⟨x++[_],by rw[bA]⟩,Za⟩
inductive XyR(v:Option (Fl×UH))(M:UH)(d rp n t:Nat)(B kd wy:Int)(pl:List Str)(ps:List NP):Prop
 | mk (x y:Int) (M':UH) (e:v=ξ (.nx (dE d rp n t kd wy x y ψ ψ ψ ψ),M')) (tx:Ten x) (ty:Ten y) (S:DS M' d rp n t B pl ps) (z:Ex d M M')
theorem Apd{M:UH}{d rp n t:Nat}{B kd wy x y:Int}{pl:List Str}{ps:List NP}(S:DS M d rp n t B pl ps)(hB:B<=1000000000)(ok:OkP ps)(tx:Ten x)(ty:Ten y) :
  XyR ((C6 (Nt Zb6 (Av (f2 B9 ZaO Zh))) (Ba (Bh (f2 Al (f2 Al (Ae 3) Zh) Zi) (gN 6)) (Bh (f2 Al (f2 Al (Ae 3) (Rw Zi)) Zp) (gN 7))) B2) Zbn M) M d rp n t (B+1) kd wy pl ps:=by
 have t1:=Sw (i:=3) (δ:=dE d rp n t kd wy x y ψ ψ ψ ψ) ZF S.hn ok;have S1:=S.gw (Gw.new M [HU.lst []]);have z1:=Ex.new d M [HU.lst []];generalize M++[HU.lst []]=M1 at t1 S1 z1;cases hps:ps with
 | nil=>
  rw[hps] at t1;rw[Cm (Xp t1)];exact ⟨x,y,M1,rfl,tx,ty,by rw[<- hps];exact S1.ex (S1.D.mono Ze) (Ex.refl d M1),z1⟩
 | cons p0 ps0=>
  rw[<- hps];have hpos:0 < ps.length:=by rw[hps];simp
  have hne:(!ps.isEmpty)=true:=by rw[hps];rfl
  rw[hne] at t1;obtain ⟨a,M2,e2,a0,a1,D2,z2⟩:=Dt (many:=4) S1.D Ze Zb Zb;have t2:(Av (f2 B9 ZaO Zh)) Zbn M1=ξ (a == 0,M2):=B1 (Ax (Fy (fa:=Ae 0) rfl rfl e2) rfl (Lg _ _ _));have S2:=S1.ex D2 z2;by_cases ha:a=0
  ·have hb:(a == 0)=true:=by simp[ha]
   rw[hb] at t2;have i0:L2.atI ZW ((0:Nat):Int)=ξ (ptU (ps[0]'hpos)):=Jb (by rw[bD,aG hpos];rfl);have hlt:ps.length - 1 < ps.length:=Ze
   have i1:L2.atI ZW (-1)=ξ (ptU (ps[ps.length - 1]'hlt)):=by
    rw[Arm (by simpa using hpos),aL,bD,aG hlt];rfl
   have s1:=Eg (i:=6) (Ax (fb:=fC (.int 1)) (Ax (fa:=Ae 3) (fb:=fC (.int 0)) (δ:=dE d rp n t kd wy x y ψ ψ ψ ψ) (L1:=M2) rfl rfl (F0 S2.hn i0)) rfl (ix1 _ M2));have s2:=Eg (i:=7) (Ax (fb:=fC (.int 2)) (Ax (fa:=Ae 3) (fb:=Rw Zi) (δ:=dE d rp n t kd wy (ps[0]'hpos).2.1 y ψ ψ ψ ψ) (L1:=M2) rfl rfl (F0 S2.hn i1)) rfl (ix2 _ M2));rw[E5 (Np t1 t2),Bf s1];exact ⟨_,_,M2,s2,(ok _ (bZ hpos)).2.1,(ok _ (bZ hlt)).2.2,S2,z1.trans z2⟩
  ·have hb:(a == 0)=false:=by simp[ha]
   rw[hb] at t2;rw[Cm (Np t1 t2)];exact ⟨x,y,M2,rfl,tx,ty,S2,z1.trans z2⟩
theorem Arz(D:Seed L d B)(hB:B<=100000)(hp:L[rp]? = ξ Z6)(hn:L[n]? = ξ (.lst ZW))(rd:rp≠d)(nd:n≠d)(lp:pl.length=8)(okl:∀ x∈pl,Pn x)(ndl:pl.Nodup)(ok:OkP ps)(hl:ps.length<=60)(kk:kd=0\/kd=1\/kd=2) :
  DeedR (Vc [.ref d,.ref rp,.int kd,.ref n] L) L d (B+20) ps:=by
 suffices h:DeedF (Ve Zaw L) L d (B+20) ps from by
  obtain ⟨r,n',line,ps',L',e,hr,hn,dd,D,x',l⟩:=h;exact ⟨r,n',line,ps',L',fnN (n:=12) rfl e,hr,hn,dd,D,x',l⟩
 obtain ⟨t,L1,e1,h1,g1,l1⟩:=Aez (i:=3) (δ:=Zaw) rfl rfl hn Ze (fe:=Tj) rfl;have S1:DS L1 d rp n t B pl ps:=⟨D.gw g1,g1.get hp,g1.get hn,h1,rd,nd,by have:=D.lt;omega⟩;obtain ⟨wy,L2,e2,w0,w1,D2,x2⟩:=Dt (many:=4) S1.D Ze Zb Zb;have S2:=S1.ex D2 x2;obtain ⟨x,L3,e3,tx,D3,x3⟩:=Ir S2.D Ze kk;have S3:=S2.ex D3 x3;obtain ⟨y,L4,e4,ty,D4,x4⟩:=Ir S3.D Ze kk;have S4:=S3.ex D4 x4;have xx:=(((g1.ex d).trans x2).trans x3).trans x4;have s1:=Eg (i:=4) (δ:=Zaw) e1;have s2:=Eg (i:=5) (δ:=[ξ (.ref d),ξ (.ref rp),ξ (.int kd),ξ (.ref n),ξ (.ref t),ψ,ψ,ψ,ψ,ψ,ψ,ψ]) (Fy (fa:=Ae 0) (fb:=fC (.int 4)) rfl rfl e2);have s3:=Eg (i:=6) (δ:=[ξ (.ref d),ξ (.ref rp),ξ (.int kd),ξ (.ref n),ξ (.ref t),ξ (.int wy),ψ,ψ,ψ,ψ,ψ,ψ]) (Fy (fa:=Ae 0) (fb:=Ae 2) rfl rfl e3);have s4:=Eg (i:=7) (δ:=[ξ (.ref d),ξ (.ref rp),ξ (.int kd),ξ (.ref n),ξ (.ref t),ξ (.int wy),ξ (.int x),ψ,ψ,ψ,ψ,ψ]) (Fy (fa:=Ae 0) (fb:=Ae 2) rfl rfl e4);obtain ⟨x',y',L5,e5,tx',ty',S5,x5⟩:=Apd (kd:=kd) (wy:=wy) S4 Ze ok tx ty;have xa:=xx.trans x5;unfold Ve;rw[Bf s1];show DeedF (Ba _ _ [ξ (.ref d),ξ (.ref rp),ξ (.int kd),ξ (.ref n),ξ (.ref t),ψ,ψ,ψ,ψ,ψ,ψ,ψ] L1) _ _ _ _;rw[Bf s2];show DeedF (Ba _ _ [ξ (.ref d),ξ (.ref rp),ξ (.int kd),ξ (.ref n),ξ (.ref t),ξ (.int wy),ψ,ψ,ψ,ψ,ψ,ψ] L2) _ _ _ _;rw[Bf s3];show DeedF (Ba _ _ [ξ (.ref d),ξ (.ref rp),ξ (.int kd),ξ (.ref n),ξ (.ref t),ξ (.int wy),ξ (.int x),ψ,ψ,ψ,ψ,ψ] L3) _ _ _ _;rw[Bf s4];show DeedF (Ba _ _ Zbn L4) _ _ _ _;rw[Bf e5];have t1:=Sw (i:=3) (δ:=dE d rp n t kd wy x' y' ψ ψ ψ ψ) ZF S5.hn ok;have S6:=S5.gw (Gw.new L5 [HU.lst []]);have x6:=xa.trans (Ex.new d L5 [HU.lst []]);generalize L5++[HU.lst []]=L6 at t1 S6 x6;have tw:∀ (c:Int) (M:UH),(Av (f2 B9 (Ae 5) (fC (.int c)))) Zck M=ξ (wy == c,M):=fun c M=>B1 (Ax (fa:=Ae 5) rfl rfl (Lg _ _ _))
 have hlen:=Dz S6.hn;rw[aL] at hlen;have tl:(Av (f2 B9 (Ay Ap ZB) ZbY)) Zck L6=ξ ((ps.length:Int) == 60,L6):=B1 (Ax Zd9 rfl (Lg _ _ _));have tor:(fOr (Av (f2 B9 (Ae 5) Zh)) (Av (f2 B9 (Ay Ap ZB) ZbY))) Zck L6=ξ (wy == 0 || (ps.length:Int) == 60,L6):=by
  rw[fOr_eq,tw 0 L6,aB];cases wy == 0 with
  | true=>rfl
  | false=>exact tl
 cases hps:ps with
 | nil=>
  rw[hps] at t1;rw[Bf (Cm (Xp t1))];have t2:=Sw (i:=3) (δ:=dE d rp n t kd wy x' y' ψ ψ ψ ψ) ZF S6.hn ok;have S7:=S6.gw (Gw.new L6 [HU.lst []]);have x7:=x6.trans (Ex.new d L6 [HU.lst []]);generalize L6++[HU.lst []]=L7 at t2 S7 x7;rw[hps] at t2;rw[Bf (Cm (Xp t2)),<- hps];exact (Ad4 S7 Ze lp okl ndl (by rw[hps];simp) tx' ty').from x7 Ze
 | cons p0 ps0=>
  rw[<- hps];have hpos:0 < ps.length:=by rw[hps];simp
  have hne:(!ps.isEmpty)=true:=by rw[hps];rfl
  rw[hne] at t1;cases hor:(wy == 0 || (ps.length:Int) == 60) with
  | true=>
   rw[hor] at tor;have h:=(Ajb (kd:=kd) (wy:=wy) (x:=x') (y:=y') (e8:=ψ) (e9:=ψ) (e10:=ψ) (e11:=ψ) S6 Ze ok hpos hl).from x6 (B':=B+20) Ze
   obtain ⟨r,n',line,ps',L',e,hr,hn,dd,D,z,l⟩:=h;refine ⟨r,n',line,ps',L',Kq ?_,hr,hn,dd,D,z,l⟩;rw[E5 (Np t1 tor)];exact e
  | false=>
   rw[hor] at tor;rw[Bf (Cm (Np t1 tor))];have hl60:ps.length < 60:=by
    rw[Bool.or_eq_false_iff] at hor;have:=hor.2;simp at this;omega
   have t2:=Sw (i:=3) (δ:=dE d rp n t kd wy x' y' ψ ψ ψ ψ) ZF S6.hn ok;have S7:=S6.gw (Gw.new L6 [HU.lst []]);have x7:=x6.trans (Ex.new d L6 [HU.lst []]);generalize L6++[HU.lst []]=L7 at t2 S7 x7;rw[hne] at t2;cases hw:wy == 1 with
   | true=>
    have h:=(Ajl (kd:=kd) (wy:=wy) (e8:=ψ) (e9:=ψ) (e10:=ψ) (e11:=ψ) S7 Ze ok hpos hl tx' ty').from x7 (B':=B+20) Ze
    obtain ⟨r,n',line,ps',L',e,hr,hn,dd,D,z,l⟩:=h;refine ⟨r,n',line,ps',L',Kq ?_,hr,hn,dd,D,z,l⟩;rw[E5 (Np t2 (by rw[tw 1 L7,hw]))];exact e
   | false=>
    rw[Bf (Cm (Np t2 (by rw[tw 1 L7,hw])))];exact (Ad4 S7 Ze lp okl ndl hl60 tx' ty').from x7 Ze
noncomputable def ind(b:Bool):Int:=if b then 1 else 0
theorem Abh{β:Type}(f:β->Bool):∀ l:List β,((l.filter f).length:Int)=(l.map fun x=>ind (f x)).sum
 | []=>rfl
 | x::l=>by
  have ih:=Abh f l;rw[eB,aI,fT,<- ih];cases h:f x <;> simp[ind] <;> omega
theorem Adt{β:Type}(f g:β->Int):∀ l:List β,(l.map fun a=>f a+g a).sum=(l.map f).sum+(l.map g).sum
 | []=>rfl
 | a::l=>by simp only[aI,fT,Adt f g l];omega
theorem Xx{β:Type}:∀ l:List β,(l.map fun _=>(0:Int)).sum=0
 | []=>rfl
 | a::l=>by simp only[aI,fT,Xx l];omega
theorem Yy{β γ:Type}(f:β->γ->Int)(m:List γ):∀ l:List β,(l.map fun i=>(m.map fun j=>f i j).sum).sum=(m.map fun j=>(l.map fun i=>f i j).sum).sum
 | []=>by simp only[bI,vQ,Xx]
 | i::l=>by
  rw[aI,fT,Yy f m l,<- Adt];rfl
theorem Aeb(q:Int×Int):Pl 6 (prU q):=by
 unfold prU;rw[Nv];intro u hu;simp only[bG,cX,or_false] at hu;rcases hu with rfl | rfl <;> exact Pl.int _ _
theorem U0(a b:Int×Int)(L:UH):Ol [prU a,prU b] L=ξ (.bl (Ct a b),L):=by
 refine fnN (n:=2) rfl ?_;show Su ZcR L=_;unfold Su;refine B8 ?_;have h1:(f2 Dd (Ae 0) (Ae 1)) ZcR L=ξ (.bl (!eqB (prU a) (prU b)),L):=Ax rfl rfl (U8 L (Aeb a) (Aeb b));have h2:(f2 Dx ZaK ZbL) ZcR L=ξ (.bl (decide (a.1<=b.1)),L):=rfl;have h3:(f2 Dx ZbK Zeh) ZcR L=ξ (.bl (decide (a.2<=b.2)),L):=rfl;have he:eqB (prU a) (prU b)=(a.1 == b.1&&(a.2 == b.2&&true)):=by
  by_cases h:a=b
  ·subst h;rw[An9 (Aeb a)];simp
  ·have h4:eqB (prU a) (prU b)=false:=by
    cases hb:eqB (prU a) (prU b) with
    | false=>rfl
    | true=>
     have h5:=(Um (Aeb a) (Aeb b)).mp hb;unfold prU at h5;simp only[U.tup.injEq,fI,U.int.injEq,and_true] at h5;exact absurd (nO h5.1 h5.2) h
   rw[h4];symm;rw[Bool.eq_false_iff];intro h5;simp only[bY,beq_iff_eq,and_true] at h5;exact h (nO h5.1 h5.2)
 rw[Hu,h1];unfold Ct;rw[he];generalize (a.1 == b.1&&(a.2 == b.2&&true))=e;cases e with
 | true=>simp
 | false=>
  simp only[aB,pN,if_true];rw[Hu,h2];by_cases h:a.1<=b.1
  ·simp only[aB,decide_eq_true h,if_true,h3,vJ,Bool.and_true]
  ·simp[h]
theorem Av2(p:NP)(M:UH):Cj (ptU p) (ξ 1) ψ M=ξ (prU p.2,M):=rfl
theorem Agw{p:NP}(hi:Ae i δ M=ξ (ptU p,M)):(fSl Cj (Ae i) (B3 Zi) Bw) δ M=ξ (prU p.2,M):=by
 rw[fSl_eq,hi];exact Av2 p M
theorem tru_ok{b:Bool}(h:fe δ M=ξ (.bl b,M')):G5 fe δ M=ξ (b,M'):=by
 rw[fTru_eq,h];rfl
theorem Anl{w:U}(h:Ae i δ L=ξ (u,L))(h2:Ae j δ L=ξ (w,L))(e:f [u,w] L=ξ (v,L')):(A9 2 f ZdQ) δ L=ξ (v,L'):=by
 rw[fOwn_eq,fCons_eq,h,aB,fCons_eq,h2];simp only[aB,fNil_eq,aE,aM,aV,if_true,e]
theorem Ah4{w t:U}(h:∀ M,Ae i δ M=ξ (u,M))(h2:∀ M,Ae j δ M=ξ (w,M))(h3:∀ M,Ae k δ M=ξ (t,M))(e:f [u,w,t] L=ξ (v,L')):(A9 3 f (Ad (Ae i) (Ad (Ae j) (Ad (Ae k) Ah)))) δ L=ξ (v,L'):=by
 rw[fOwn_eq,fCons_eq,h,aB,fCons_eq,h2,aB,fCons_eq,h3];simp only[aB,fNil_eq,aE,aM,aV,if_true,e]
theorem Ak2(δ:UE)(M:UH):(Cg Ah) δ M=ξ (.ref M.length,M++[.lst []]):=by
 rw[fLst_eq,fNil_eq,aB,if_pos (small_of (by show 0<=16777216;decide))]
theorem Apz(l:List U)(f m:Nat)(h:f<=m)(hm:m<=l.length):T4 l (ξ (f:Int)) (ξ (m:Int))=(l.drop f).take (m - f):=by
 unfold T4;have e1:min f l.length=f:=Ze
 have e2:min m l.length=m:=Ze
 rw[HT.Ue,HT.Ue,e1,e2]
noncomputable def mid{β:Type}(l:List β)(f m:Nat):List β:=(l.drop f).take (m - f)
theorem Lz{β:Type}(l:List β)(f m:Nat)(hm:m<=l.length):(mid l f m).length=m - f:=by unfold mid;simp;omega
theorem Aej{β:Type}{f m:Nat}{qs:List β}(g:β->U)(h:L[r]? = ξ (.lst (qs.map g)))(hf:f<=m)(hm:m<=qs.length):Cj (.ref r) (ξ (f:Int)) (ξ (m:Int)) L=ξ (.ref L.length,L++[.lst ((mid qs f m).map g)]):=by
 unfold Cj;simp only[Am h,aE];rw[Apz _ _ _ hf (by rw[aL];exact hm),<- qD,<- kY];rfl
noncomputable def toL(q:Int×Int):List Int:=[q.1,q.2]
noncomputable def ofL(l:List Int):Int×Int:=(l.getD 0 0,l.getD 1 0)
theorem Aek(qs:List (Int×Int)):(qs.map toL).map ofL=qs:=by rw[bJ];exact (cY fun q _=>rfl).trans (jT qs)
def sp(qs:List (Int×Int)):List (Int×Int):=(Nd ZdV).map ofL
theorem Aqo(qs:List (Int×Int)):(sp qs).Perm qs:=by
 have:=(Hb ZdV).map ofL;rwa [Aek] at this
theorem Ahb(qs:List (Int×Int)):(sp qs).length=qs.length:=(Aqo qs).length_eq
theorem Alo(qs:List (Int×Int)):(sp qs).map toL=Nd ZdV:=by
 unfold sp;rw[bJ];refine (cY fun l hl=>?_).trans (jT _);obtain ⟨q,_,rfl⟩:=bT.mp ((Hb ZdV).mem_iff.mp hl);rfl
theorem A2s{fl:List (Int×Int)}(hp:fl.Perm qs)(hs:(fl.map toL).Pairwise leT):fl=sp qs:=by
 have h:fl.map toL=(sp qs).map toL:=by
  rw[Alo];exact K6 ((hp.map toL).trans (Hb _).symm) hs (Ik _)
 have:=congrArg (nY ofL) h;rwa [Aek,Aek] at this
theorem Az6(qs:List (Int×Int)):mapO Ws (qs.map prU)=ξ ZdV:=by
 induction qs with
 | nil=>rfl
 | cons q qs ih=>
  have:Ws (prU q)=ξ (toL q):=rfl;rw[aI,aI];simp only[mapO,this,ih,aB,aE]
theorem Ajs(h:Aw L r=ξ (qs.map prU))(hl:qs.length < 64):Gs [.ref r] L=ξ (.ref L.length,L++[.lst ((sp qs).map prU)]):=by
 have hm:(Nd ZdV).map F3=(sp qs).map prU:=by
  rw[<- Alo,bJ];rfl
 unfold Gs;simp only[h,aB,Az6];rw[if_pos,hm];refine ⟨by rw[aL];exact hl,?_⟩;rw[bQ];intro t ht;obtain ⟨q,_,rfl⟩:=bT.mp ht;rfl
theorem toI_ints(l:List Int):mapO toI (l.map U.int)=ξ l:=by
 induction l with
 | nil=>rfl
 | cons a r ih=>simp only[aI,mapO,toI,ih,aB,aE]
def Jz(lo up:List (Int×Int)):Int:=(up.map fun q=>cnt lo q).sum
theorem Aaw{a:Nat}{lo up:List (Int×Int)}(ha:Aw L a=ξ (lo.map prU))(hb:Aw L b=ξ (up.map prU))(h1:lo.length < 1000)(h2:up.length < 1000):∃ L',E8 [.ref a,.ref b] L=ξ (.int (Jz lo up),L')/\Gw L L':=by
 obtain ⟨x,e⟩:=Bu (ix:=[ψ,ξ 0]) (fi:=Br (Ae 1)) (it:=.ref b) (g:=gN 0) (tt:=ψ) (fe:=Gj) (δ:=[ξ (.ref a),ξ (.ref b)]) (L:=L) (L0:=L)
  up prU Zaf (fun q=>.int (cnt lo q)) (fun δ=>∃ z,δ = [z,ξ (.ref a)]) (by simp[Ck hb]) (by rw[D9 hb];simp) Ze ⟨ψ,rfl⟩
  (fun k x=>Hf (Cr hb))
  (fun q δ x _ ⟨y,hδ⟩=>by
   subst hδ;obtain ⟨L',e3,w,hw⟩:=Xf (L:=L++x) q (Cr ha) Ze;refine ⟨[ξ (prU q),ξ (.ref a)],rfl,⟨_,rfl⟩,[],by simp[Ft],fun _=>⟨w,?_⟩⟩;rw[aR,<- hw];unfold Gj;exact Anl (i:=1) (j:=0) rfl rfl e3)
 have hff:iJ Zaf up=up:=cZ.mpr Zg;have hmm:up.map (fun q=>U.int (cnt lo q))=(up.map fun q=>cnt lo q).map U.int:=by rw[bJ];rfl
 rw[hff,hmm] at e;have q2:Aw (L++x++[HU.lst Zbh]) (L++x).length=ξ Zbh:=Am Za;have hs:Vq [.ref (L++x).length] (L++x++[HU.lst Zbh])=ξ (.int (Jz lo up),L++x++[HU.lst Zbh]):=by
  simp only[Vq,q2,aB,toI_ints,aE,Jz]
 generalize Jz lo up=sm at hs;generalize (up.map fun q=>cnt lo q).map U.int=us at e hs;refine ⟨L++x++[HU.lst us],?_,⟨x++[HU.lst us],by rw[bA]⟩⟩;unfold E8 fnU Nw;simp only[aM,aV,if_true,aI,bI,cS,bO,aR];rw[fRet_eq,fCall_eq,fCons_eq,e];simp only[aB,fNil_eq,aE,hs]
noncomputable abbrev Tri:=Nat×Nat×Int
def Kt(t:Tri):U:=.tup [.int (t.1:Int),.int (t.2.1:Int),.int t.2.2]
def hv(qs:List (Int×Int))(f b:Nat):List Tri:=
 if _h:b - f < 2 then [] else (f,b,Jz (mid qs f ZV) (mid qs ZV b))::(hv qs f ZV++hv qs ZV b)
termination_by b - f
decreasing_by all_goals omega
theorem P8(qs:List (Int×Int)):∀ (n f b:Nat),b - f<=n->(hv qs f b).length<=b - f - 1
 | 0,f,b,h=>by rw[hv,dif_pos Ze];simp
 | n+1,f,b,h=>by
  rw[hv];by_cases hc:b - f < 2
  ·rw[dif_pos hc];simp
  ·rw[dif_neg hc];have h2:=P8 qs n f ZV Ze;have h3:=P8 qs n ZV b Ze;simp only[aM,bV];omega
theorem Ab6(f b:Nat)(h:f<=b):(f:Int)+((b:Int) - (f:Int)) / 2=((f+(b - f) / 2:Nat):Int):=Ze
theorem Azw(u:U)(h:fe δ M=ξ (u,M)):(Cg (Ad fe Ah)) δ M=ξ (.ref M.length,M++[.lst [u]]):=by
 simp only[fLst_eq,fCons_eq,h,fNil_eq,aB,aE];rw[if_pos (small_of (by show 1<=16777216;decide))]
theorem Aop{m:Nat}{a b:List U}(h1:L[n]? = ξ (.lst a))(h2:L[m]? = ξ (.lst b))(hl:a.length+b.length<=1000):Az (.ref n) (.ref m) L=ξ (.ref L.length,L++[.lst (a++b)]):=by
 unfold Az;simp only[Ew h1,Ew h2,aB];rw[if_pos ZcZ]
theorem Af0(hq:qs.length<=100):∀ (k f b r:Nat) (L:UH),f<=b->b<=qs.length->b - f<=2 ^ k->L[r]? = ξ (.lst (qs.map prU)) ->
  ∃ (r':Nat) (L':UH),Cw (k+1) [.ref r,.int (f:Int),.int (b:Int)] L=ξ (.ref r',L')/\L'[r']? = ξ (.lst ((hv qs f b).map Kt))/\Gw L L':=by
 intro k;induction k with
 | zero=>
  intro f b r L hfb hb hk hr;have hlt:decide Zep=true:=decide_eq_true (by simp at hk;omega);refine ⟨L.length,L++[.lst []],?_,by rw[hv,dif_pos (by simp at hk;omega)];simp,Gw.new _ _⟩;show (fnU 6 3 (C7 (Cw 0))) _ L=_;unfold fnU C7;simp only[aM,aV,if_true,aI,bI,bP,fO,gG];have s1:(Bh Zbv (gN 3)) [ξ (.ref r),ξ ZaR,ξ ZaS,ψ,ψ,ψ] L=ξ (.nx Zt,L):=by
   simp only[Hg,f2_eq,fVar_eq,aZ,aS,bF,aE,aB,semSub_int,gN_eq,eS,eT]
  rw[Bf s1,fSeq_eq,Il];simp only[fTest_eq,f2_eq,fVar_eq,fC_eq,aZ,aS,bF,aE,aB,semLt_int,hlt,if_true,fRet_eq,Ak2]
 | succ k ih=>
  intro f b r L hfb hb hk hr;have s1:(Bh Zbv (gN 3)) [ξ (.ref r),ξ ZaR,ξ ZaS,ψ,ψ,ψ] L=ξ (.nx Zt,L):=by
   simp only[Hg,f2_eq,fVar_eq,aZ,aS,bF,aE,aB,semSub_int,gN_eq,eS,eT]
  by_cases hc:b - f < 2
  ·have hlt:decide Zep=true:=decide_eq_true Ze;refine ⟨L.length,L++[.lst []],?_,by rw[hv,dif_pos hc];simp,Gw.new _ _⟩;show (fnU 6 3 (C7 (Cw (k+1)))) _ L=_;unfold fnU C7;simp only[aM,aV,if_true,aI,bI,bP,fO,gG];rw[Bf s1,fSeq_eq,Il];simp only[fTest_eq,f2_eq,fVar_eq,fC_eq,aZ,aS,bF,aE,aB,semLt_int,hlt,if_true,fRet_eq,Ak2]
  ·have hlt:decide Zep=false:=decide_eq_false Ze;have h2k:2 ^ (k+1)=2 ^ k+2 ^ k:=by rw[rM];omega
   have hmid:=Ab6 f b hfb;have hu:hv qs f b=(f,b,Jz (mid qs f ZV) (mid qs ZV b))::(hv qs f ZV++hv qs ZV b):=by rw[hv,dif_neg hc]
   have hm1:f<=f+(b - f) / 2:=Ze
   have hm2:f+(b - f) / 2<=b:=Ze
   have hm3:f+(b - f) / 2 - f<=2 ^ k:=Ze
   have hm4:b - ZV<=2 ^ k:=Ze
   generalize f+(b - f) / 2=m at hmid hu hm1 hm2 hm3 hm4;have hdiv:Te ZdM 2=true:=Nn Zb Zb;have s2:(C6 (Av (f2 Nb (Ae 3) Zp)) (Cf (Cg Ah)) B2) Zt L=ξ (.nx Zt,L):=by
    simp only[Il,fTest_eq,f2_eq,fVar_eq,fC_eq,aZ,aS,bF,aE,aB,semLt_int,hlt,bN,if_false,Qs]
   have s3:(Bh (f2 Az (Ae 1) (f2 He (Ae 3) Zp)) (gN 4)) Zt L=ξ (.nx [ξ (.ref r),ξ ZaR,ξ ZaS,ξ (.int ZdM),ξ (.int (m:Int)),ψ],L):=by
    simp only[Hg,f2_eq,fVar_eq,fC_eq,aZ,aS,bF,aE,aB,semDiv_int,hdiv,if_true,E6,hmid,gN_eq,eS,eT]
   have c1:=Aej prU hr hm1 (by omega:m<=qs.length);have gA:Gw L (L++[HU.lst Zc2]):=Gw.new _ _;have hA:(L++[HU.lst Zc2])[L.length]? = ξ (.lst Zc2):=Za
   have c2:=Aej prU (gA.get hr) hm2 hb;generalize hLA:L++[HU.lst Zc2]=LA at c1 gA hA c2;have gB:Gw LA (LA++[HU.lst Zc3]):=Gw.new _ _;have hB:(LA++[HU.lst Zc3])[LA.length]? = ξ (.lst Zc3):=Za
   generalize hLB:LA++[HU.lst Zc3]=LB at c2 gB hB;obtain ⟨LC,c3,gC⟩:=Aaw (Am (gB.get hA)) (Am hB) (by rw[Lz _ _ _ Ze];omega) (by rw[Lz _ _ _ hb];omega);generalize Jz (mid qs f m) (mid qs m b)=cr at c3 hu;have gLC:Gw L LC:=(gA.trans gB).trans gC;have s4:(Bh (Gi (Ad (Ae 1) (Ad (Ae 2) (Ad (A9 2 E8 (Ad (fSl Cj (Ae 0) (B3 (Ae 1)) (B3 (Ae 4))) (Ad (fSl Cj (Ae 0) (B3 (Ae 4)) (B3 (Ae 2))) Ah))) Ah)))) (gN 5)) [ξ (.ref r),ξ ZaR,ξ ZaS,ξ (.int ZdM),ξ (.int (m:Int)),ψ] L=ξ (.nx Zs,LC):=by
    have sm3:E4 (0+1+1+1)=true:=small_of Zb;simp only[Hg,fTup_eq,fCons_eq,fVar_eq,fOwn_eq,fSl_eq,fPart_eq,fNil_eq,aZ,aS,bF,aE,aB,c1,c2,aM,aV,if_true,c3,sm3,gN_eq,eS,eT];rfl
   obtain ⟨r1,L1,i1,j1,g1⟩:=ih f m r (LC++[.lst [Kt (f,b,cr)]]) hm1 Ze hm3 ((gLC.trans Zag).get hr);have jW:L1[LC.length]? = ξ (.lst [Kt (f,b,cr)]):=g1.get Za;have hl1:=P8 qs (m - f) f m (aP _);have hl2:=P8 qs (b - m) m b (aP _);have a1:=Aop jW j1 (by simp;omega);have gD:Gw LC L1:=(Gw.new _ _).trans g1;have jD:(L1++[HU.lst ZcG])[L1.length]? = ξ (.lst ZcG):=Za
   obtain ⟨r2,L2,i2,j2,g2⟩:=ih m b r (L1++[.lst ZcG]) hm2 hb hm4 (((gLC.trans gD).trans Zag).get hr);have a2:=Aop (g2.get jD) j2 (by simp;omega);refine ⟨L2.length,L2++[.lst ([Kt (f,b,cr)]++(hv qs f m).map Kt++(hv qs m b).map Kt)],?_,by rw[hu];simp,((gLC.trans gD).trans Zag).trans (g2.trans Zag)⟩
   show (fnU 6 3 (C7 (Cw (k+1)))) _ L=_;unfold fnU C7;simp only[aM,aV,if_true,aI,bI,bP,fO,gG];rw[Bf s1,Bf s2,Bf s3,Bf s4];have w1:=Azw (Kt (f,b,cr)) (fe:=Ae 5) (δ:=Zs) (M:=LC) rfl;have w2:=Ah4 (i:=0) (j:=1) (k:=4) (δ:=Zs) ZF ZF ZF i1;have w3:=Ah4 (i:=0) (j:=4) (k:=2) (δ:=Zs) ZF ZF ZF i2;rw[fRet_eq,f2_eq,f2_eq,w1];simp only[aB,w2,a1,w3,a2,aE];simp only[fO,gG]
theorem Abk(ps:List Zej)(hl:ps.length<=60)(L:UH):∃ L',Jq [.tup ZW] L=ξ (.tup ((hv (sp (ps.map (·.2))) 0 ps.length).map Kt),L')/\Gw L L':=by
 obtain ⟨x,e⟩:=Bu (ix:=[ψ]) (fi:=Br (Ae 0)) (it:=.seq ZW) (g:=gN 0) (tt:=ψ) (fe:=Gk) (δ:=[ξ (.tup ZW),ψ]) (L:=L) (L0:=L)
  ps ptU Zaf (fun p=>prU p.2) Zea (by simp[Gm]) (by simp[IU.size]) Ze ⟨ψ,rfl⟩
  ZcA
  (fun a δ x _ ⟨y,hδ⟩=>by
   subst hδ;refine ⟨_,rfl,⟨_,rfl⟩,[],by simp[Ft],fun _=>⟨[],?_⟩⟩;simp[Gk,Tr])
 have hf:∀ (l:List Zej),iJ Zaf l=l:=fun l=>cZ.mpr Zg
 have hm:(ps.map fun p=>prU p.2)=(ps.map (·.2)).map prU:=by rw[bJ];rfl
 rw[hf,hm] at e;have q1:Aw (L++x++[HU.lst ((ps.map (·.2)).map prU)]) (L++x).length=ξ ((ps.map (·.2)).map prU):=Am Za;have so:=Ajs q1 (by rw[aL];omega);have gM:Gw L (L++x++[HU.lst ((ps.map (·.2)).map prU)]++[HU.lst ((sp (ps.map (·.2))).map prU)]):=((Gw.new L x).trans Zag).trans Zag;have hr:(L++x++[HU.lst ((ps.map (·.2)).map prU)]++[HU.lst ((sp (ps.map (·.2))).map prU)])[(L++x++[HU.lst ((ps.map (·.2)).map prU)]).length]? = ξ (.lst ((sp (ps.map (·.2))).map prU)):=Za
 have hsl:(sp (ps.map (·.2))).length=ps.length:=by rw[Ahb,aL]
 generalize L++x++[HU.lst ((ps.map (·.2)).map prU)]++[HU.lst ((sp (ps.map (·.2))).map prU)]=M at so gM hr;generalize (L++x++[HU.lst ((ps.map (·.2)).map prU)]).length=r at so hr;generalize sp (ps.map (·.2))=qs at hr hsl;have s1:(Bh (Ay Gs (Ad (Bv [ψ] (Br (Ae 0)) (gN 0) ψ Gk) Ah)) (gN 1)) [ξ (.tup ZW),ψ] L=ξ (.nx [ξ (.tup ZW),ξ (.ref r)],M):=by
  rw[Hg,fCall_eq,fCons_eq,e];simp only[aB,fNil_eq,aE,so,gN_eq,eS,eT]
 have hlen:=Dz hr;rw[aL] at hlen;obtain ⟨r',L',e2,hr',g2⟩:=Af0 (qs:=qs) Ze 6 0 qs.length r M Ze (aP _) (by simp;omega) hr;have t2:Ee [.ref r'] L'=ξ (.tup ((hv qs 0 qs.length).map Kt),L'):=by simp only[Ee,Am hr',aE]
 rw[hsl] at t2 e2 hlen;refine ⟨L',?_,gM.trans g2⟩;have e2':Ha [.ref r,.int 0,.int (ps.length:Int)] M=ξ (.ref r',L'):=e2;unfold Jq fnU S0;simp only[aM,aV,if_true,aI,bI,bP,fO,gG];rw[Bf s1,fRet_eq,fCall_eq,fCons_eq,fOwn_eq];simp only[fCons_eq,fVar_eq,fC_eq,fCall_eq,fNil_eq,aZ,aS,bF,aE,aB,hlen,aM,aV,if_true,e2',t2]
variable {L0:UH}{tt:FT}
theorem Aiy{ix:List Zaq}{rest:UE}{fs:FE}{rel:NP->Bool}(hi:fs δ L=ξ (.ref n,L0))(g0:Gw L L0)(hin:Ko ix δ = ψ::rest)(h:L0[n]? = ξ Zam)(hl:m.length<=1000)(htt:∀ p M,tt (ξ (ptU p)::rest) M=ξ (rel p,M))(hfe:∀ δ M,fe δ M=ξ (.int 1,M)) :
  ∃ L',(Ay Ap (Ad (Bv ix (Br fs) (gN 0) (ξ tt) fe) Ah)) δ L=ξ (.int ((m.filter rel).length:Nat),L')/\Gw L L':=by
 have hsq:=Am h;obtain ⟨x,ec⟩:=Bu (ix:=ix) (fi:=Br fs) (g:=gN 0) (tt:=ξ tt) (fe:=fe) (δ:=δ) (L:=L) (L0:=L0) (it:=.ref n) m ptU rel (fun _=>.int 1) (fun δ=>∃ z,δ = z::rest)
  (by rw[Df,hi];simp only[aB,Ck hsq,aE]) (by rw[D9 hsq];simp) Ze ⟨ψ,hin⟩ ZaD
  (fun p δ x hp hδ=>by
   obtain ⟨a,rfl⟩:=hδ;exact ⟨ξ (ptU p)::rest,rfl,⟨_,rfl⟩,[],by rw[aR];exact htt p _,fun _=>⟨[],by rw[hfe];simp⟩⟩)
 have hlen:=Dz (L:=L0++x++[.lst ((m.filter rel).map fun _=>.int 1)]) (n:=(L0++x).length) (l:=(m.filter rel).map fun _=>.int 1) Za;rw[aL] at hlen;exact ⟨_,Ea ec hlen,g0.trans ⟨x++[_],by rw[bA]⟩⟩
def triS(t:Tri):Str:=fig (t.1:Int) ++ " " ++ fig (t.2.1:Int) ++ " " ++ fig t.2.2
theorem Amo{f:Nat}(hi:Ae i δ L=ξ (.ref r,L))(hj:Ae j δ L=ξ (.int (f:Int),L))(hk:Ae k δ L=ξ (.int (b:Int),L))(h:L[r]? = ξ Zam)(hf:f<=b)(hb:b<=m.length):(fSl Cj (Ae i) (B3 (Ae j)) (B3 (Ae k))) δ L=ξ (.ref L.length,L++[.lst ((mid m f b).map ptU)]):=by
 rw[fSl_eq,hi];simp only[aB,fPart_eq,hj,hk];exact Aej ptU h hf hb
theorem Ui(m:List NP)(f b:Nat):mid (m.map (·.2)) f b=(mid m f b).map (·.2):=by
 unfold mid;rw[kY,qD]
theorem cross_swap(lo up:List NP):(lo.map fun p=>(((up.filter fun o=>Ct p.2 o.2).length:Nat):Int)).sum=Jz (lo.map (·.2)) (up.map (·.2)):=by
 unfold Jz cnt;rw[bJ];have h:(up.map ((fun q=>((((lo.map (·.2)).filter fun o=>Ct o q).length:Nat):Int))∘(·.2)))=up.map fun u=>(lo.map fun p=>ind (Ct p.2 u.2)).sum:=cY fun u _=>by
  show ((((lo.map (·.2)).filter fun o=>Ct o u.2).length:Nat):Int)=_;rw[Abh,bJ];rfl
 have h2:(lo.map fun p=>(((up.filter fun o=>Ct p.2 o.2).length:Nat):Int))=lo.map fun p=>(up.map fun u=>ind (Ct p.2 u.2)).sum:=cY fun p _=>Abh _ _
 rw[h,h2];exact Yy (fun p u=>ind (Ct p.2 u.2)) up lo
theorem Yp{lo up:List NP}(h1:lo.length<=1000)(h2:up.length<=1000):Ten (Jz (lo.map (·.2)) (up.map (·.2))):=by
 rw[<- cross_swap];have:∀ l:List NP,0<=(l.map fun p=>(((up.filter fun o=>Ct p.2 o.2).length:Nat):Int)).sum/\(l.map fun p=>(((up.filter fun o=>Ct p.2 o.2).length:Nat):Int)).sum<=1000 * l.length:=by
  intro l;induction l with
  | nil=>simp
  | cons p l ih=>
   have:=dF (fun o=>Ct p.2 o.2) up;simp only[aI,fT,aM];push_cast;omega
 have:=this lo;constructor <;> omega
theorem An5{f:Nat}{c:Int}(hf:f<=1000)(hb:b<=1000)(hc:Ten c)(h1:Ae 1 δ L=ξ (.int (f:Int),L))(h2:Ae 2 δ L=ξ (.int (b:Int),L))(h4:Ae 4 δ L=ξ (.int c,L)) :
  (Jr [(Hv (Ae 1)),(fC (.str " ")),(Hv (Ae 2)),(fC (.str " ")),(Hv (Ae 4))]) δ L=ξ (.str (triS (f,b,c)),L):=by
 have tf:Ten (f:Int):=⟨Ze,Ze⟩;have tb:Ten (b:Int):=⟨Ze,Ze⟩;have k1:=C1 tf;have k2:=C1 tb;have k3:=C1 hc;have h5:=Aaz;show goJ jQ _ δ L=_;rw[Em (Hk tf h1) (by rw[e_app];omega),e_app,Em (x := " ") rfl (by rw[lapp];omega),Em (Hk tb h2) (by simp only[lapp];omega),Em (x := " ") rfl (by simp only[lapp];omega),Em (Hk hc h4) (by simp only[lapp];omega)];rfl
theorem Arp{m:List NP}{L:UH}{r f c b:Nat}{R:FN}(hm:m.length<=100)(hr:L[r]? = ξ Zam)(hf:f<=c)(hc:c<=b)(hb:b<=m.length) :
  ∃ y5 L',(Qo (Br Zb3) (gN 5) (Mh R)) Zak L=ξ (.nx [ξ (.ref r),ξ ZaR,ξ ZaS,ξ Zda,ξ (.int (Jz (mid (m.map (·.2)) f c) (mid (m.map (·.2)) c b))),y5,ψ],L')/\Gw L L':=by
 have e0:=Amo (i:=0) (j:=1) (k:=3) (δ:=Zak) rfl rfl rfl hr hf Ze;have g0:=Gw.new L [HU.lst Zdf];have a0:(L++[HU.lst Zdf])[L.length]? = ξ (.lst Zdf):=Za
 generalize L.length=q at e0 a0;generalize L++[HU.lst Zdf]=L0 at e0 g0 a0;have hi:(Br Zb3) Zak L=ξ (.ref q,L0):=by
  rw[Df,e0];show (Gm (.ref q) L0).map _=_;rw[Ck (Am a0)];rfl
 have hlu:(mid m c b).length<=1000:=by rw[Lz _ _ _ hb];omega
 obtain ⟨δ',L1,e1,P⟩:=Qm (us:=(mid m f c).map ptU) (n:=q) (body:=Mh R) (g:=gN 5) (fun j δ' N=>(∃ y5,δ'=[ξ (.ref r),ξ ZaR,ξ ZaS,ξ Zda,ξ (.int (((mid m f c).take j).map fun p=>((((mid m c b).filter fun o=>Ct p.2 o.2).length:Nat):Int)).sum),y5,ψ])/\Gw L0 N) hi
  ⟨⟨_,rfl⟩,Gw.refl L0⟩ (fun j δ N hP=>Am (hP.2.get a0))
  (fun j u δ N hu hP=>by
   obtain ⟨⟨y5,rfl⟩,g⟩:=hP;rw[bD] at hu;obtain ⟨p,hp,rfl⟩:=aJ.mp hu;generalize hsum:(((mid m f c).take j).map fun p=>((((mid m c b).filter fun o=>Ct p.2 o.2).length:Nat):Int)).sum=S;have e2:=Amo (i:=0) (j:=3) (k:=2) (δ:=[ξ (.ref r),ξ ZaR,ξ ZaS,ξ Zda,ξ (.int S),ξ (ptU p),ψ]) (L:=N) rfl rfl rfl (g.get (g0.get hr)) hc hb;obtain ⟨N',e,g'⟩:=Aiy (ix:=[ψ,ξ 5]) (rest:=[ξ (ptU p)]) (tt:=Pe R) (fe:=Pb R) (rel:=fun o=>Ct p.2 o.2) e2 Zag rfl Za hlu (fun o M=>tru_ok (Fy (Agw rfl) (Agw rfl) (U0 p.2 o.2 M))) Zg;refine ⟨[ξ (.ref r),ξ ZaR,ξ ZaS,ξ Zda,ξ (.int S),ξ (ptU p),ψ],N,rfl,[ξ (.ref r),ξ ZaR,ξ ZaS,ξ Zda,ξ (.int (S+((((mid m c b).filter fun o=>Ct p.2 o.2).length:Nat):Int))),ξ (ptU p),ψ],N',.inl (Eg (i:=4) (Ax (fa:=Ae 4) rfl e (E6 _ _ _))),⟨ξ (ptU p),?_⟩,g.trans g'⟩;rw[pO,hp,fJ,List.sum_append,hsum];simp)
 obtain ⟨⟨y5,rfl⟩,g⟩:=P;rw[aL,kP,cross_swap,<- Ui,<- Ui] at e1;exact ⟨y5,L1,e1,g0.trans g⟩
theorem Aer(hm:m.length<=100):∀ (k f b r:Nat) (L:UH),f<=b->b<=m.length->b - f<=2 ^ k->L[r]? = ξ (.lst (m.map ptU)) ->
  NewL (F7 (k+1) [.ref r,.int (f:Int),.int (b:Int)] L) L (((hv (m.map (·.2)) f b).map triS).map U.str):=by
 intro k;induction k with
 | zero=>
  intro f b r L hfb hb hk hr;have hc:b - f < 2:=by simp at hk;omega
  refine ⟨L.length,L++[.lst []],fnN (n:=7) (k:=3) rfl (Kq ?_),by rw[hv,dif_pos hc];simp,Gw.new _ _,aP _⟩;rw[E5 (B1 (Ax Zas rfl (by rw[semLt_int,decide_eq_true Ze])))];exact B8 (Ak2 _ _)
 | succ k ih=>
  intro f b r L hfb hb hk hr;by_cases hc:b - f < 2
  ·refine ⟨L.length,L++[.lst []],fnN (n:=7) (k:=3) rfl (Kq ?_),by rw[hv,dif_pos hc];simp,Gw.new _ _,aP _⟩;rw[E5 (B1 (Ax Zas rfl (by rw[semLt_int,decide_eq_true Ze])))];exact B8 (Ak2 _ _)
  ·have h2k:2 ^ (k+1)=2 ^ k+2 ^ k:=by rw[rM];omega
   have hmid:=Ab6 f b hfb;have hu:hv (m.map (·.2)) f b=(f,b,Jz (mid (m.map (·.2)) f ZV) (mid (m.map (·.2)) ZV b))::(hv (m.map (·.2)) f ZV++hv (m.map (·.2)) ZV b):=by rw[hv,dif_neg hc]
   have hm1:f<=f+(b - f) / 2:=Ze
   have hm2:f+(b - f) / 2<=b:=Ze
   have hm3:f+(b - f) / 2 - f<=2 ^ k:=Ze
   have hm4:b - ZV<=2 ^ k:=Ze
   generalize f+(b - f) / 2=c at hmid hu hm1 hm2 hm3 hm4;have hdiv:Te ZdM 2=true:=Nn Zb Zb;obtain ⟨y5,L1,e1,g1⟩:=Arp (R:=F7 (k+1)) hm hr hm1 hm2 hb;have tc:Ten (Jz (mid (m.map (·.2)) f c) (mid (m.map (·.2)) c b)):=by
    rw[Ui,Ui];exact Yp (by rw[Lz _ _ _ Ze];omega) (by rw[Lz _ _ _ hb];omega)
   generalize Jz (mid (m.map (·.2)) f c) (mid (m.map (·.2)) c b)=cr at e1 hu tc;have s2:=Eg (i:=3) (δ:=[ξ (.ref r),ξ ZaR,ξ ZaS,ψ,ψ,ψ,ψ]) (L:=L) (Ax (fa:=Ae 1) (fb:=f2 He Zbv Zp) (s:=Az) (L1:=L) rfl (Ax Zas rfl (by rw[semDiv_int,if_pos hdiv])) (by rw[E6,hmid]));have s5:=Eg (i:=6) (δ:=[ξ (.ref r),ξ ZaR,ξ ZaS,ξ Zda,ξ (.int cr),y5,ψ]) (Aft (An5 (L:=L1) Ze Ze tc rfl rfl rfl));have g2:=Gw.new L1 [HU.lst [U.str Zbo]];have a2:(L1++[HU.lst [U.str Zbo]])[L1.length]? = ξ (.lst [U.str Zbo]):=Za
   generalize L1.length=q2 at s5 a2;generalize L1++[HU.lst [U.str Zbo]]=L2 at s5 g2 a2;have g12:=g1.trans g2;obtain ⟨r3,L3,e3,h3,g3,_⟩:=ih f c r L2 hm1 Ze hm3 (g12.get hr);have hl1:=P8 (m.map (·.2)) (c - f) f c (aP _);have hl2:=P8 (m.map (·.2)) (b - c) c b (aP _);have a3:=Qn (g3.get a2) h3 (by simp;omega);have g4:=Gw.new L3 [HU.lst ([U.str Zbo]++((hv (m.map (·.2)) f c).map triS).map U.str)];have a4:(L3++[HU.lst ([U.str Zbo]++((hv (m.map (·.2)) f c).map triS).map U.str)])[L3.length]? = ξ (.lst ([U.str Zbo]++((hv (m.map (·.2)) f c).map triS).map U.str)):=Za
   generalize L3.length=q4 at a3 a4;generalize L3++[HU.lst ([U.str Zbo]++((hv (m.map (·.2)) f c).map triS).map U.str)]=L4 at a3 g4 a4;obtain ⟨r5,L5,e5,h5,g5,_⟩:=ih c b r L4 hm2 hb hm4 ((g12.trans (g3.trans g4)).get hr);have a5:=Qn (g5.get a4) h5 (by simp;omega);have gg:=g12.trans ((g3.trans g4).trans g5);refine ⟨L5.length,L5++[.lst ([U.str Zbo]++((hv (m.map (·.2)) f c).map triS).map U.str++((hv (m.map (·.2)) c b).map triS).map U.str)],fnN (n:=7) (k:=3) rfl ?_,by rw[hu];simp,gg.trans Zag,gg.le⟩
   show Py (F7 (k+1)) [ξ (.ref r),ξ ZaR,ξ ZaS,ψ,ψ,ψ,ψ] L=_;unfold Py;refine A8 (Cm (B1 (Ax Zas rfl (by rw[semLt_int,decide_eq_false Ze])))) (A8 s2 (A8 (f:=Bh Zh (gN 4)) rfl (A8 e1 (A8 s5 (B8 ?_)))));exact Ax (Ax (fa:=Ae 6) rfl (Ah4 (i:=0) (j:=1) (k:=3) ZF ZF ZF e3) a3) (Ah4 (i:=0) (j:=3) (k:=2) ZF ZF ZF e5) a5
noncomputable abbrev Pt:=Str×(Int×Int)
noncomputable abbrev Bx:=Int×Int×Int×Int
noncomputable def Ei(q:Int×Int):List Int:=[q.1,q.2]
noncomputable def E3(key:Int×Int->List Int)(qs:List Pt):List Nat:=SO.Gb (ltK (qs.map fun p=>key p.2)) qs.length
noncomputable def Afc(key:Int×Int->List Int)(qs:List Pt)(k:Nat):Str:=(((qs[(E3 key qs).getD k 0]?).map (·.1)).getD "")
theorem Er(key:Int×Int->List Int)(qs:List Pt):(E3 key qs).Perm (bM qs.length):=SO.Mc (R3 _)
theorem Aam(key:Int×Int->List Int)(qs:List Pt):(E3 key qs).length=qs.length:=by rw[(Er key qs).length_eq,iD]
theorem Ak6{m:FN}{key:Int×Int->List Int}{qs:List Pt}(hk:∀ (p:Pt) (M:UH),m [ptU p] M=ξ (F3 (key p.2),M))(hne:∀ q,key q≠[])(h:fe δ L=ξ (.ref r,L1))(hr:L1[r]? = ξ (.lst (qs.map ptU)))(hl:qs.length < 64) :
  Kr m fe δ L=ξ (.ref L1.length,L1++[.lst ZaB]):=by
 have hks:mapO (Rl m L1) (qs.map ptU)=ξ (qs.map fun p=>key p.2):=by
  clear hr hl;induction qs with
  | nil=>rfl
  | cons p qs ih=>
   have hp:Rl m L1 (ptU p)=ξ (key p.2):=by
    unfold Rl;rw[hk p L1];simp only[aB,if_true];show mapO toI ((key p.2).map U.int)=_;exact toI_ints _
   rw[aI,aI];simp only[mapO,hp,ih,aB,aE]
 have hall:((qs.map fun p=>key p.2).all fun t=>!t.isEmpty)=true:=by
  rw[bQ];intro t ht;obtain ⟨p,_,rfl⟩:=bT.mp ht;cases hq:key p.2 with
  | nil=>exact absurd hq (hne _)
  | cons=>rfl
 unfold Kr;rw[h];simp only[aB,Am hr,hks];rw[if_pos ⟨by simpa using hl,hall⟩,aL];rfl
theorem Ae2{p:Pt}(hr:L[r]? = ξ (.lst us))(hk:us[k]? = ξ (ptU p)):Ox [.ref r,.int k] L=ξ (.str p.1,L):=by
 have hlt:=(aQ.mp hk).1;have c1:(Av (f2 Nb (Ae 1) Zh)) Zcw L=ξ (decide ((k:Int) < 0),L):=rfl;have c2:(Av (f2 V8 (Ae 1) (Ay Ap Zr))) Zcw L=ξ (decide ((us.length:Int)<=k),L):=B1 (Ax rfl (Ea rfl (Dz hr)) rfl);have d1:decide ((k:Int) < 0)=false:=Za
 have d2:decide ((us.length:Int)<=k)=false:=by simp;omega
 rw[d1] at c1;rw[d2] at c2;refine fnN rfl ?_;unfold X5;show Ba _ _ Zcw L=_;rw[Bf (Cm (A20 c1 c2))];exact B8 (Ax (Ax rfl rfl (F0 hr (Jb hk))) rfl rfl)
theorem Are{mk mn:FN}{key:Int×Int->List Int}{ps:List Pt}{b:Bx}{k:Nat}(hmn:mn=fnU 3 3 (Cf (A9 2 Ox (Ad (Kr mk (A9 2 F6 Zo)) ZbF))))
  (hk:∀ (p:Pt) (M:UH),mk [ptU p] M=ξ (F3 (key p.2),M)) (hne:∀ q,key q≠[]) (hl:ps.length<=60) (hlt:k < Vj ps b) (L:UH) :
  ∃ L',mn [.tup ZW,bxU b,.int k] L=ξ (.str (Afc key (ps.filter (inB b)) k),L')/\Gw L L':=by
 obtain ⟨r,L1,e1,hr,g1⟩:=Abu (ps:=ps) Ze b L;have hq:(ps.filter (inB b)).length<=60:=bW (dF _ _) hl;have hlt:k < (ps.filter (inB b)).length:=hlt;generalize ps.filter (inB b)=qs at hr hq hlt;have e2:(Kr mk (A9 2 F6 Zo)) [ξ (.tup ZW),ξ (bxU b),ξ (.int k)] L=ξ (.ref L1.length,L1++[.lst ZaB]):=Ak6 hk hne (Fy rfl rfl e1) hr Ze;have hol:=Aam key qs;have hin:(E3 key qs)[k]? = ξ ((E3 key qs).getD k 0):=by
  rw[aK,aG Ze];rfl
 have hmem:(E3 key qs).getD k 0 < qs.length:=cL.mp ((Er key qs).mem_iff.mp (dN hin));have hat:((E3 key qs).map fun i=>(qs.map ptU).getD i .non)[k]? = ξ (ptU (qs[(E3 key qs).getD k 0]'hmem)):=by
  rw[bD,hin];show ξ ((qs.map ptU).getD _ .non)=_;rw[aK,bD,aG hmem];rfl
 have e3:=Ae2 (L:=L1++[.lst ZaB]) (r:=L1.length) Za hat;have hn:(qs[(E3 key qs).getD k 0]'hmem).1=Afc key qs k:=by
  unfold Afc;rw[aG hmem];rfl
 rw[hn] at e3;refine ⟨L1++[.lst ZaB],?_,g1.trans Zag⟩;rw[hmn];exact fnN rfl (B8 (Fy e2 rfl e3))
theorem Aqs{a b c d s t:Int}(h:ltT [c,d] [a,b]=false)(h2:ltT [a,b] [c,d]=false->s<=t):ltT [c,d,t] [a,b,s]=false:=by
 simp only[ltT,beq_iff_eq] at h h2 ⊢;split at h
 ·rename_i e;subst e;rw[if_pos rfl] at h2 ⊢;split at h
  ·rename_i e;subst e;rw[if_pos rfl] at h2 ⊢;have:=h2 rfl;split
   ·rfl
   ·simpa using this
  ·rename_i e;rw[if_neg e];exact h
 ·rename_i e;rw[if_neg e];exact h
theorem Anm{ps:List Pt}{b:Bx}(hl:ps.length<=60)(hlt:k < Vj ps b)(L:UH):∃ L',Pw [.tup ZW,bxU b,.int k] L=ξ (.str (Afc Ei (ps.filter (inB b)) k),L')/\Gw L L':=
 Are (key:=Ei) (mk:=C3) rfl (fun p M=>Tr p M) (fun q h=>by cases h) hl hlt L
def C8:NP:=("",(0,0))
noncomputable def srt(m:List NP):List NP:=(E3 Ei m).map fun i=>m.getD i C8
theorem Xw(m:List NP):(bM m.length).map (fun i=>m.getD i C8)=m:=by
 apply iX
 ·simp
 ·intro i h1 h2;have hi:i < m.length:=by simpa using h2
  rw[iY,mS,aK,aG hi];rfl
theorem Jc(m:List NP):(srt m).Perm m:=by
 have:=(Er Ei m).map fun i=>m.getD i C8
 rw[Xw] at this;exact this
theorem Ln(m:List NP):(srt m).length=m.length:=(Jc m).length_eq
theorem Al6(h:i < m.length):(m.map fun p=>Ei p.2).getD i []=[(m.getD i C8).2.1,(m.getD i C8).2.2]:=by
 rw[aK,bD,aG h,aK,aG h];rfl
theorem Aal(m:List NP):(E3 Ei m).Pairwise fun i j=>(i < m.length/\j < m.length)/\ltT [(m.getD j C8).2.1,(m.getD j C8).2.2] [(m.getD i C8).2.1,(m.getD i C8).2.2]=false/\(ltT [(m.getD i C8).2.1,(m.getD i C8).2.2] [(m.getD j C8).2.1,(m.getD j C8).2.2]=false->i<=j):=by
 have h:=SO.Abx (R3 (m.map fun p=>Ei p.2)) m.length;refine List.Pairwise.imp_of_mem (fun {i j} hi hj hls=>?_) h;have hi':i < m.length:=cL.mp ((Er Ei m).mem_iff.mp hi);have hj':j < m.length:=cL.mp ((Er Ei m).mem_iff.mp hj);obtain ⟨h1,h2⟩:=hls;unfold SO.Le ltK at h1 h2;rw[Al6 hi',Al6 hj'] at h1 h2;exact ⟨⟨hi',hj'⟩,h1,h2⟩
def Ig(sg:Int)(m:List NP)(k:Nat):List Int:=[(m.getD k C8).2.1,sg * (m.getD k C8).2.2,(k:Int)]
variable {sg:Int}
theorem Afj{a b c d s t:Int}(hsg:sg=1\/(a=c->b=d))(h:ltT [c,d] [a,b]=false)(h2:ltT [a,b] [c,d]=false->s<=t):ltT [c,sg * d,t] [a,sg * b,s]=false:=by
 rcases hsg with rfl | hsg
 ·rw[Int.one_mul,Int.one_mul];exact Aqs h h2
 ·by_cases e:a=c
  ·have e2:=hsg e;subst e;subst e2;have h3:s<=t:=h2 (by simp[ltT]);have h4:¬ t < s:=Ze
   simp[ltT,h4]
  ·have e':¬ c=a:=fun q=>e q.symm
   simp[ltT,e'] at h ⊢;exact h
theorem Al9(H:∀ i j,i < m.length->j < m.length->sg=1\/((m.getD i C8).2.1=(m.getD j C8).2.1->(m.getD i C8).2.2=(m.getD j C8).2.2)):Nd ((bM m.length).map (Ig sg m))=(E3 Ei m).map (Ig sg m):=by
 refine K6 ((Hb _).trans ((Er Ei m).map (Ig sg m)).symm) (Ik _) ?_;refine gE (Ig sg m) (fun i j hij=>?_) (Aal m);exact Afj (H i j hij.1.1 hij.1.2) hij.2.1 (fun h=>by have:=hij.2.2 h;omega)
theorem Af6(m:List NP):(srt m).map (·.2)=sp (m.map (·.2)):=by
 refine A2s ((Jc m).map _) ?_;unfold srt;rw[bJ,bJ];exact gE _ (fun i j hij=>hij.2.1) (Aal m)
theorem Aeq(f:NP->Bool)(m:List NP):srt (m.filter f)=(srt m).filter f:=by
 have hJ:m.filter f=((bM m.length).filter fun i=>f (m.getD i C8)).map fun i=>m.getD i C8:=by
  conv=>lhs;rw[<- Xw m]
  rw[jM];rfl
 generalize hj:(bM m.length).filter (fun i=>f (m.getD i C8))=J at hJ;have hup:J.Pairwise (· < ·):=by rw[<- hj];exact (List.pairwise_lt_range).filter _
 have hlt:∀ i∈J,i < m.length:=fun i hi=>by rw[<- hj] at hi;exact cL.mp (cH.mp hi).1
 generalize hq:m.filter f=qs at hJ;have hlen:qs.length=J.length:=by rw[hJ,aL]
 have hget:∀ a,a < J.length->qs.getD a C8=m.getD (J.getD a 0) C8:=fun a ha=>by
  rw[hJ,aK,bD,aG ha];show m.getD (J[a]'ha) C8=_;rw[aK (l:=J),aG ha];rfl
 have hmono:∀ a b,a<=b->b < J.length->J.getD a 0<=J.getD b 0:=fun a b hab hb=>by
  rw[aK,aK,aG hb,aG (show a < J.length by omega)];rcases Nat.lt_or_ge a b with h | h
  ·exact jU (List.pairwise_iff_getElem.mp hup a b Ze hb h)
  ·have:a=b:=Ze
   subst this;exact aP _
 have hB:((E3 Ei qs).map fun a=>J.getD a 0).Perm J:=by
  have h1:=(Er Ei qs).map fun a=>J.getD a 0
  rw[hlen] at h1;have h2:(bM J.length).map (fun a=>J.getD a 0)=J:=by
   apply iX
   ·simp
   ·intro i h1 h2;rw[iY,mS,aK,aG h2];rfl
  rw[h2] at h1;exact h1
 have hA:((E3 Ei m).filter fun i=>f (m.getD i C8)).Perm J:=by
  rw[<- hj];exact (Er Ei m).filter _
 have hs1:(((E3 Ei m).filter fun i=>f (m.getD i C8)).map (Ig 1 m)).Pairwise leT:=
  gE (Ig 1 m) (fun i j hij=>Afj (.inl rfl) hij.2.1 (fun h=>by have:=hij.2.2 h;omega)) ((Aal m).filter _)
 have hs2:(((E3 Ei qs).map fun a=>J.getD a 0).map (Ig 1 m)).Pairwise leT:=by
  rw[bJ];refine gE _ (fun a b hab=>?_) (Aal qs);obtain ⟨⟨h1,h2⟩,h3,h4⟩:=hab;rw[hget a Ze,hget b Ze] at h3 h4;exact Afj (.inl rfl) h3 (fun h=>qX.mpr (hmono a b (h4 h) Ze))
 have he:=K6 ((hB.map (Ig 1 m)).trans (hA.map (Ig 1 m)).symm) hs2 hs1;have hk:∀ l:List Nat,(l.map (Ig 1 m)).map (fun t=>(t.getD 2 0).toNat)=l:=fun l=>by
  rw[bJ]
  conv=>rhs;rw[<- jT l]
  exact cY fun k _=>by simp[Ig]
 have he2:=congrArg (nY fun t:List Int=>(t.getD 2 0).toNat) he;rw[hk,hk] at he2;unfold srt;rw[jM];show _=((E3 Ei m).filter fun i=>f (m.getD i C8)).map _;rw[<- he2,bJ];refine cY fun a ha=>?_
 have ha':a < qs.length:=cL.mp ((Er Ei qs).mem_iff.mp ha);exact hget a Ze
theorem Ag2{qs:List NP}(h:k < qs.length):Afc Ei qs k=((srt qs).getD k C8).1:=by
 have hol:=Aam Ei qs;have hk:(E3 Ei qs)[k]? = ξ ((E3 Ei qs).getD k 0):=by rw[aK,aG Ze];rfl
 have hmem:(E3 Ei qs).getD k 0 < qs.length:=cL.mp ((Er Ei qs).mem_iff.mp (dN hk));unfold Afc srt;rw[aK (l:=(E3 Ei qs).map _),bD,hk];generalize (E3 Ei qs).getD k 0=i at hmem;show _=(qs.getD i C8).1;rw[aK,aG hmem];rfl
theorem Tq(h:L[n]? = ξ Zam)(hl:m.length<=60)(hsg:sg=1\/sg = -1)(H:∀ i j,i < m.length->j < m.length->sg=1\/((m.getD i C8).2.1=(m.getD j C8).2.1->(m.getD i C8).2.2=(m.getD j C8).2.2)):NewL (Fi [.ref n,.int sg] L) L ((srt m).map ptU):=by
 have hlen:=Dz h;rw[aL] at hlen;have hr0:C4 0 m.length=(bM m.length).map fun (k:Nat)=>U.int (k:Int):=by unfold C4;simp
 have hi:Eh ZcT ZbV L=ξ (.seq ((bM m.length).map fun (k:Nat)=>U.int (k:Int)),L):=by
  rw[<- hr0];exact Og (Bp (Ea (fa:=Ae 0) rfl hlen) rfl) Ze
 have hat:∀ (k:Nat) (M:UH) (hk:k < m.length),M[n]? = ξ Zam->Al (.ref n) ZcB M=ξ (ptU (m.getD k C8),M):=fun k M hk hM=>by
  refine F0 hM (Jb ?_);rw[bD,aG hk,aK,aG hk];rfl
 obtain ⟨z,ec⟩:=Bu (ix:=[ψ,ξ 0,ξ 1]) (fi:=Eh ZcT) (g:=gN 0) (tt:=ψ) (fe:=Na) (δ:=ZbV) (L:=L) (L0:=L) (it:=.seq ((bM m.length).map fun (k:Nat)=>U.int (k:Int))) (bM m.length) (fun (k:Nat)=>U.int (k:Int)) Zaf Zeq (fun δ=>∃ z,δ = [z,ξ (.ref n),ξ (.int sg)]) hi (by simp[IU.size]) (by simp;omega) ⟨ψ,rfl⟩
  ZcA
  (fun k δ x hk hδ=>by
   obtain ⟨z,rfl⟩:=hδ;have hk':=cL.mp hk;have h1:=hat k (L++x) hk' ((Gw.new L x).get h);refine ⟨[ξ ZcB,ξ (.ref n),ξ (.int sg)],rfl,⟨_,rfl⟩,[],by simp[Ft],fun _=>⟨[],?_⟩⟩;have m1:Jt sg (m.getD k C8).2.2=true:=Aap Ze Ze;rw[aR,aR];exact Aja (Ax (Ax rfl rfl h1) rfl (ix1 _ _)) (Ax rfl (Ax (Ax rfl rfl h1) rfl (ix2 _ _)) (by rw[Afm,if_pos m1])) rfl)
 rw[cZ.mpr Zg] at ec;have hmm:(bM m.length).map Zeq=((bM m.length).map (Ig sg m)).map F3:=by rw[bJ];rfl
 rw[hmm] at ec;have g1:Gw L (L++z++[.lst Za7]):=⟨z++[_],by rw[bA]⟩;have a1:(L++z++[HU.lst Za7])[(L++z).length]? = ξ (.lst Za7):=Za
 generalize (L++z).length=r1 at ec a1;generalize L++z++[HU.lst Za7]=L1 at ec g1 a1;have hsort:Gs [.ref r1] L1=ξ (.ref L1.length,L1++[.lst Zbq]):=by
  have ht:∀ l:List (List Int),mapO Ws (l.map F3)=ξ l:=fun l=>by
   induction l with
   | nil=>rfl
   | cons t l ih=>
    have:Ws (F3 t)=ξ t:=toI_ints t;rw[aI];simp only[mapO,this,ih,aB,aE]
  unfold Gs;simp only[Am a1,aB,ht];rw[if_pos,Al9 H];refine ⟨by rw[aL,iD];omega,?_⟩;rw[bQ];intro t ht;obtain ⟨k,_,rfl⟩:=bT.mp ht;rfl
 have g2:=g1.trans (Gw.new L1 [HU.lst Zbq]);have a2:(L1++[HU.lst Zbq])[L1.length]? = ξ (.lst ((E3 Ei m).map fun k=>F3 (Ig sg m k))):=by rw[bJ];simp
 have s1:=Eg (i:=2) (δ:=ZbV) (Ea ec hsort);generalize L1.length=r2 at s1 a2;generalize L1++[HU.lst Zbq]=L2 at s1 g2 a2;have hsq:=Am a2;have hol:=Aam Ei m;obtain ⟨z2,ec2⟩:=Bu (ix:=[ψ,ψ,ψ,ξ 0]) (fi:=Br (Ae 2)) (g:=ZZ) (tt:=ψ) (fe:=Mr) (δ:=[ξ (.ref n),ξ (.int sg),ξ (.ref r2)]) (L:=L2) (L0:=L2) (it:=.ref r2) (E3 Ei m) Zeq Zaf (fun k=>ptU (m.getD k C8)) (fun δ=>∃ a b c,δ = [a,b,c,ξ (.ref n)])
  (by rw[Df];show (Gm (.ref r2) L2).map _=_;rw[Ck hsq];rfl) (by rw[D9 hsq];simp) Ze ⟨ψ,ψ,ψ,rfl⟩ ZaD
  (fun k δ x hk hδ=>by
   obtain ⟨a,b,c,rfl⟩:=hδ;have hk':k < m.length:=cL.mp ((Er Ei m).mem_iff.mp hk);refine ⟨[ξ (.int (m.getD k C8).2.1),ξ (.int (sg * (m.getD k C8).2.2)),ξ ZcB,ξ (.ref n)],rfl,⟨_,_,_,rfl⟩,[],by simp[Ft],fun _=>⟨[],?_⟩⟩;rw[aR,aR];exact Ax rfl rfl (hat k _ hk' ((Gw.new L2 x).get (g2.get h))))
 rw[cZ.mpr Zg] at ec2;have hm2:(E3 Ei m).map (fun k=>ptU (m.getD k C8))=(srt m).map ptU:=by unfold srt;rw[bJ];rfl
 rw[hm2] at ec2;have gl:=g2.le;refine ⟨(L2++z2).length,L2++z2++[.lst ((srt m).map ptU)],fnN (n:=3) rfl ?_,Za,g2.trans ⟨z2++[_],by rw[bA]⟩,by simp;omega⟩;show Lm ZbV L=_;unfold Lm;exact A8 s1 (B8 ec2)
variable {s:Nat}
namespace SN
noncomputable abbrev PN:=Str×List Int
noncomputable def tI(a:List Int):U:=.tup (a.map U.int)
noncomputable def nU(p:PN):U:=.tup (.str p.1::p.2.map U.int)
noncomputable def und(a b:List Int):Bool:=!decide (a=b)&&(a.zip b).all fun p=>decide (p.1<=p.2)
theorem pl_ints(l:List Int):Pl 6 (.tup (l.map U.int)):=by
 rw[Nv];intro u hu;obtain ⟨i,_,rfl⟩:=bT.mp hu;exact Pl.int _ _
theorem Acf{a b:List Int}:a.map U.int=b.map U.int↔a=b:=
 ⟨fun h=>(List.map_inj_right (fun x y e=>by cases e;rfl)).mp h,fun h=>by rw[h]⟩
theorem Ao3(a b:List Int):eqB (.tup (a.map U.int)) (.tup (b.map U.int))=decide (a=b):=by
 rw[lR,Um (pl_ints a) (pl_ints b),decide_eq_true_iff,U.tup.injEq];exact Acf
theorem Ao8(a b:List Int)(L:UH):Dd (.tup (a.map U.int)) (.tup (b.map U.int)) L=ξ Zen:=by
 rw[U8 L (pl_ints a) (pl_ints b),Ao3]
theorem Aef(a b:List Int):Fb (a.map U.int) (b.map U.int)=(a.zip b).map fun p=>.tup [.int p.1,.int p.2]:=by
 unfold Fb;rw[List.zip_map,bJ];rfl
theorem lies_ok(a b:List Int)(hl:a.length<=1000)(L:UH):∃ x,Di [tI a,tI b] L=ξ (.bl (und a b),L++x):=by
 have hn:Dd (tI a) (tI b) L=ξ Zen:=Ao8 a b L;unfold und;cases hq:decide (a=b) with
 | true=>
  rw[hq] at hn;refine ⟨[],?_⟩;unfold Di fnU G4;simp only[aM,aV,if_true,aI,bI,cS,bO,aR,fRet_eq,Hu,f2_eq,fVar_eq,aS,aZ,bF,aE,aB,hn,nK,pC];rfl
 | false=>
  rw[hq] at hn;have hz:(Ys Zo) [ξ (tI a),ξ (tI b)] L=ξ (.seq ((a.zip b).map fun p=>.tup [.int p.1,.int p.2]),L):=by
   rw[<- Aef];rfl
  obtain ⟨x,e⟩:=Bu (ix:=[ψ,ψ]) (fi:=Ys Zo) (it:=.seq ((a.zip b).map fun p=>.tup [.int p.1,.int p.2])) (g:=Zn) (tt:=ψ) (fe:=Eu) (δ:=[ξ (tI a),ξ (tI b)]) (L:=L) (L0:=L)
   (a.zip b) (fun a=>.tup [.int a.1,.int a.2]) Zaf (fun a=>.bl (decide (a.1<=a.2))) Zdv hz (by simp[IU.size]) (by rw[List.length_zip];omega) ⟨ψ,ψ,rfl⟩
   ZcA
   (fun a δ x _ ⟨y,z,hδ⟩=>by
    subst hδ;refine ⟨_,rfl,⟨_,_,rfl⟩,[],by simp[Ft],fun _=>⟨[],?_⟩⟩;simp[Eu])
  have hf:iJ (fun _:Int×Int=>true) (a.zip b)=a.zip b:=cZ.mpr Zg;rw[hf] at e;have q1:Aw (L++x++[HU.lst ((a.zip b).map fun a=>.bl (decide (a.1<=a.2)))]) (L++x).length=ξ ((a.zip b).map fun a=>U.bl (decide (a.1<=a.2))):=Am Za;have ha:=Abd _ _ q1;refine ⟨x++[HU.lst ((a.zip b).map fun a=>.bl (decide (a.1<=a.2)))],?_⟩;unfold Di fnU G4;simp only[aM,aV,if_true,aI,bI,cS,bO,aR,fRet_eq,Hu,f2_eq,fVar_eq,aS,aZ,bF,aE,aB,hn,pN,if_true,fCall_eq,fCons_eq,fNil_eq];rw[vJ,<- bA];simp only[e,ha,aE,aB]
theorem Aol{as:List (List Int)}(a:List Int)(f:List Int->Bool)(hr:L[r]? = ξ (.lst (as.map tI)))(hl:as.length<=1000)(ht:∀ q∈as,∀ M:UH,∃ z,tt [ξ (tI q),ξ (tI a)] M=ξ (f q,M++z))(hfe:∀ q M,fe [ξ (tI q),ξ (tI a)] M=ξ (tI q,M)) :
  ∃ L',(Ay Ap (Ad (Bv [ψ,ξ 1] (Br (Ae 0)) (gN 0) (ξ tt) fe) Ah)) [ξ (.ref r),ξ (tI a)] L=ξ (.int ((as.filter f).length:Nat),L')/\Gw L L':=by
 have hs:=Am hr;obtain ⟨x,e⟩:=Bu (ix:=[ψ,ξ 1]) (fi:=Br (Ae 0)) (it:=.ref r) (g:=gN 0) (tt:=ξ tt) (fe:=fe) (δ:=[ξ (.ref r),ξ (tI a)]) (L:=L) (L0:=L)
  as tI f tI (fun δ=>∃ z,δ = [z,ξ (tI a)]) (by simp[Ck hs]) (by rw[D9 hs];simp) Ze ⟨ψ,rfl⟩
  (fun k x=>Hf (Cr hs))
  (fun q δ x hq ⟨y,hδ⟩=>by
   subst hδ;obtain ⟨z,e1⟩:=ht q hq (L++x);exact ⟨[ξ (tI q),ξ (tI a)],rfl,⟨_,rfl⟩,z,e1,fun _=>⟨[],by rw[aR];exact hfe q _⟩⟩)
 have q1:(L++x++[HU.lst ((as.filter f).map tI)])[(L++x).length]? = ξ (.lst ((as.filter f).map tI)):=Za
 have hlen:=Dz q1;rw[aL] at hlen;refine ⟨_,?_,⟨x++[HU.lst ((as.filter f).map tI)],(bA ..)⟩⟩;rw[fCall_eq,fCons_eq,e];simp only[aB,fNil_eq,aE,hlen]
theorem fn2{b:FE}{w:U}(h:b [ξ u,ξ w] L=ξ (v,L')):fnU 2 2 (Cf b) [u,w] L=ξ (v,L'):=by
 unfold fnU;simp only[aM,aV,if_true,aI,bI,cS,bO,aR,fRet_eq,h,aE];rfl
def cA(as:List (List Int))(a:List Int):Nat:=(as.filter fun q=>und a q).length
theorem Avd{b:Bool}(h:fe δ L=ξ (.bl b,L')):G5 fe δ L=ξ (b,L'):=by
 rw[fTru_eq,h];rfl
theorem Aem{as:List (List Int)}(a:List Int)(hr:L[r]? = ξ (.lst (as.map tI)))(hl:as.length<=1000)(ha:a.length<=1000):∃ L',Mf [.ref r,tI a] L=ξ (.int (cA as a:Nat),L')/\Gw L L':=by
 obtain ⟨L',e,g⟩:=Aol (tt:=Mo) (fe:=Mv) a (fun q=>und a q) hr hl (fun q hq M=>by
  obtain ⟨x,e⟩:=lies_ok a q ha M;exact ⟨x,Avd (Anl rfl rfl e)⟩) Zg
 exact ⟨L',fn2 e,g⟩
def SeqU(u:U)(us:List U)(L:UH):Prop:=u = .tup us\/∃ n,u = .ref n/\L[n]? = ξ (.lst us)
theorem SeqU.gw(h:SeqU u us L)(g:Gw L L'):SeqU u us L':=by
 rcases h with h | ⟨n,h,h2⟩
 ·exact .inl h
 ·exact .inr ⟨n,h,g.get h2⟩
theorem SeqU.it(h:SeqU u us L)(hv:fe δ M=ξ (u,L)):∃ it,Br fe δ M=ξ (it,L)/\us.length<=it.size L/\∀ k x,it.at k (L++x)=ξ us[k]?:=by
 rcases h with rfl | ⟨n,rfl,h2⟩
 ·exact ⟨.seq us,by rw[Df,hv];rfl,by simp[IU.size],fun k x=>rfl⟩
 ·have hs:=Am h2;exact ⟨.ref n,by rw[Df,hv,aB,Ck hs];rfl,by rw[D9 hs];exact aP _,fun k x=>Hf (Cr hs)⟩
theorem SeqU.tru(h:SeqU u us L):Ua u L=ξ (!us.isEmpty):=by
 rcases h with rfl | ⟨n,rfl,h2⟩
 ·rfl
 ·unfold Ua;simp only;rw[h2]
theorem Va(h:L[n]? = ξ (.lst us)):Ee [.ref n] L=ξ (.tup us,L):=by simp only[Ee,Am h,aE]
theorem Vg{β:Type}{ix:List Zaq}{fi:FI}{it:IU}{fe:FE}{δ:UE}{L L0:UH}(as:List β)(rep:β->U)(e:β->U)(tl:UE)(hx:Ko ix δ = ψ::tl)(hi:fi δ L=ξ (it,L0))(hsz:(as.map rep).length<=it.size L0)(hl:as.length < 16777216)(hat:∀ k x,it.at k (L0++x)=ξ (as.map rep)[k]?)
  (step:∀ (a:β) x,a∈as->∃ z,fe (ξ (rep a)::tl) (L0++x)=ξ (e a,L0++x++z)) :
  ∃ L',Bv ix fi (gN 0) ψ fe δ L=ξ (.ref L'.length,L'++[.lst (as.map e)])/\Gw L0 L':=by
 obtain ⟨x,e1⟩:=Bu (ix:=ix) (fi:=fi) (it:=it) (g:=gN 0) (tt:=ψ) (fe:=fe) (δ:=δ) (L:=L) (L0:=L0) as rep Zaf e (fun δ=>∃ z,δ = z::tl) hi (by simpa using hsz) hl ⟨ψ,hx⟩ hat
  (fun a δ x ha ⟨y,hδ⟩=>by
   subst hδ;obtain ⟨z,e2⟩:=step a x ha;exact ⟨ξ (rep a)::tl,rfl,⟨_,rfl⟩,[],by simp[Ft],fun _=>⟨z,by rw[aR];exact e2⟩⟩)
 have hff:iJ Zaf as=as:=cZ.mpr Zg;rw[hff] at e1;exact ⟨L0++x,e1,⟨x,rfl⟩⟩
noncomputable def An3(fe1 fe2:FE):FS:=(Ba (Bh (Bv [ψ] (Br (Ae 0)) (gN 0) ψ fe2) (gN 1)) (Cf (Ay Ee (Ad (Bv [ψ,ξ 1] (Br (Ae 1)) (gN 0) ψ fe1) Ah))))
theorem Ai2{ps:List PN}(hu:SeqU u (ps.map nU) L)(hl:ps.length<=1000)(h2:∀ p∈ps,∀ M,fe [ξ (nU p)] M=ξ (tI p.2,M))(x1:Option U) :
  ∃ (r:Nat) (M:UH),(Bh (Bv [ψ] (Br (Ae 0)) (gN 0) ψ fe) (gN 1)) [ξ u,x1] L=ξ (.nx [ξ u,ξ (.ref r)],M)/\M[r]? = ξ (.lst ((ps.map cP).map tI))/\Gw L M:=by
 obtain ⟨it,hi,hsz,hat⟩:=hu.it (fe:=Ae 0) (δ:=[ξ u,x1]) (M:=L) rfl;obtain ⟨L',e,g⟩:=Vg (ix:=[ψ]) (fe:=fe) ps nU (fun p=>tI p.2) [] rfl hi hsz Ze hat (fun p x hp=>⟨[],by rw[aR];exact h2 p hp _⟩);have s1:=Eg (i:=1) e;have hm:ps.map (fun p=>tI p.2)=(ps.map cP).map tI:=by rw[bJ];rfl
 rw[hm] at s1;exact ⟨_,_,s1,Za,g.trans Zag⟩
theorem Aq8{fe1 fe2:FE}{ps:List PN}{u:U}{L:UH}(c:List Int->Int)(hu:SeqU u (ps.map nU) L)(hl:ps.length<=1000)(h2:∀ p∈ps,∀ M,fe2 [ξ (nU p)] M=ξ (tI p.2,M))
  (h1:∀ (M:UH) (r:Nat) (a:List Int),a∈ps.map cP->M[r]? = ξ (.lst ((ps.map cP).map tI))->∃ M',fe1 [ξ (tI a),ξ (.ref r)] M=ξ (.int (c a),M')/\Gw M M') :
  ∃ L',fnU 2 1 (An3 fe1 fe2) [u] L=ξ (.tup (((ps.map cP).map c).map U.int),L')/\Gw L L':=by
 obtain ⟨r,M,s1,hr,gM⟩:=Ai2 hu hl h2 ψ;have hla:(ps.map cP).length < 16777216:=by rw[aL];omega
 generalize ps.map cP=as at hr h1 hla ⊢;obtain ⟨it,hi,hsz,hat⟩:=SeqU.it (u:=.ref r) (us:=as.map tI) (L:=M) (.inr ⟨r,rfl,hr⟩) (fe:=Ae 1) (δ:=[ξ u,ξ (.ref r)]) (M:=M) rfl;obtain ⟨L',e,g⟩:=Vg (ix:=[ψ,ξ 1]) (fe:=fe1) as tI (fun a=>.int (c a)) [ξ (.ref r)] rfl hi hsz hla hat (fun a x ha=>by
  obtain ⟨M',e,z,hz⟩:=h1 (M++x) r a ha ((Gw.new M x).get hr);exact ⟨z,by rw[e,hz]⟩)
 have hm:as.map (fun a=>U.int (c a))=(as.map c).map U.int:=by rw[bJ];rfl
 rw[hm] at e;refine ⟨_,fnN rfl ?_,gM.trans (g.trans (Gw.new L' [HU.lst ((as.map c).map U.int)]))⟩;show An3 fe1 fe2 [ξ u,ψ] L=_;unfold An3;rw[Bf s1];exact B8 (Ea e (Va Za))
theorem Am1{p:PN}(h:p.2.length=2)(L:UH):C3 [nU p] L=ξ (tI p.2,L):=by
 obtain ⟨n,a⟩:=p;match a,h with
 | [x,y],_=>
  have sm2:E4 (0+1+1)=true:=small_of Zb;have i1:Al (nU (n,[x,y])) (.int 1) L=ξ (.int x,L):=rfl;have i2:Al (nU (n,[x,y])) (.int 2) L=ξ (.int y,L):=rfl;unfold C3 fnU Pu;simp only[aM,aV,if_true,aI,bI,cS,bO,aR,fRet_eq,fTup_eq,fCons_eq,fNil_eq,f2_eq,fVar_eq,fC_eq,aS,bF,aE,aB,i1,i2];rw[if_pos sm2];rfl
def cAs(as:List (List Int)):List Int:=as.map fun a=>(cA as a:Int)
def Dim(k:Nat)(ps:List PN):Prop:=∀ p∈ps,p.2.length=k
theorem Dim.len{ps:List PN}(h:Dim k ps)(hk:k<=1000):∀ a∈ps.map cP,a.length<=1000:=fun a ha=>by
 obtain ⟨p,hp,rfl⟩:=bT.mp ha;rw[h p hp];exact hk
theorem Xc{ps:List PN}(hu:SeqU u (ps.map nU) L)(hl:ps.length<=1000)(hd:Dim 2 ps):∃ L',Lp [u] L=ξ (.tup ((cAs (ps.map cP)).map U.int),L')/\Gw L L':=
 Aq8 (fe1:=Nc) (fe2:=Mw) (fun a=>(cA (ps.map cP) a:Int)) hu hl (fun p hp M=>Qj rfl (Am1 (hd p hp) M)) (fun M r a ha hr=>by
  obtain ⟨M',e,g⟩:=Aem a hr (by rw[aL];exact hl) (hd.len Zb a ha);exact ⟨M',Anl rfl rfl e,g⟩)
noncomputable def sU(l:List Str):U:=.tup (l.map U.str)
theorem Aqc(p:PN)(L:UH):Al (nU p) (.int 0) L=ξ (.str p.1,L):=by
 unfold nU;rw[Sa,Sf Zb (by rw[aM];omega)];rfl
noncomputable def ordN(qs:List PN):List Nat:=SO.Gb (ltK (qs.map cP)) qs.length
theorem Yq(qs:List PN):(ordN qs).Perm (bM qs.length):=SO.Mc (R3 _)
noncomputable def nulN:PN:=("",[])
noncomputable def srtN(qs:List PN):List PN:=(ordN qs).map fun i=>qs.getD i nulN
theorem Akm(qs:List PN):(srtN qs).Perm qs:=by
 have e:(bM qs.length).map (fun i=>qs.getD i nulN)=qs:=by
  apply iX
  ·simp
  ·intro i h1 h2;have hi:i < qs.length:=by simpa using h2
   rw[iY,mS,aK,aG hi];rfl
 have:=(Yq qs).map fun i=>qs.getD i nulN
 rw[e] at this;exact this
theorem Arf(a:List Int):Ws (tI a)=ξ a:=toI_ints a
theorem A4c{p:PN}(h:p.2.length=2)(L:UH):Rl C3 L (nU p)=ξ p.2:=by
 unfold Rl;rw[Am1 h L];simp only[aB,if_true];exact Arf p.2
theorem Asz(L:UH):∀ ps:List PN,Dim 2 ps->mapO (Rl C3 L) (ps.map nU)=ξ (ps.map cP)
 | [],_=>rfl
 | p::ps,h=>by
  rw[aI,aI];simp only[mapO,A4c (h p (aU ..)),Asz L ps (fun q hq=>h q (aO _ hq)),aB,aE]
theorem Alv{ps:List PN}(hl:ps.length<=60)(hd:Dim 2 ps)(hn:L[n]? = ξ (.lst (ps.map nU)))(h:Ae i δ L=ξ (.ref n,L)):Kr C3 (Ae i) δ L=ξ (.ref L.length,L++[.lst ((srtN ps).map nU)]):=by
 have hall:((ps.map cP).all fun t=>!t.isEmpty)=true:=by
  rw[bQ];intro t ht;obtain ⟨p,hp,rfl⟩:=bT.mp ht;have:=hd p hp;cases hq:p.2 with
  | nil=>rw[hq] at this;cases this
  | cons _ _=>rfl
 unfold Kr;rw[h];simp only[aB,Am hn,Asz L ps hd];rw[if_pos ⟨by rw[aL];omega,hall⟩];have:(srtN ps).map nU=(SO.Gb (ltK (ps.map cP)) (ps.map nU).length).map fun i=>(ps.map nU).getD i .non:=by
  unfold srtN ordN;rw[bJ,aL];refine cY fun i hi=>?_
  have hi:i < ps.length:=cL.mp ((Yq ps).mem_iff.mp hi);show nU (ps.getD i nulN)=(ps.map nU).getD i .non;rw[aK,aK,bD,aG hi];rfl
 rw[this]
theorem Apr{ws:List U}(h:SeqU u us L)(hi:Ae i δ L=ξ (u,L))(hj:Ae j δ L=ξ (.tup ws,L)):∃ it,Ob ZdQ δ L=ξ (it,L)/\(Fb us ws).length<=it.size L/\∀ k x,it.at k (L++x)=ξ (Fb us ws)[k]?:=by
 have hc:(Ad (Ae i) (Ad (Ae j) Ah)) δ L=ξ ([u,.tup ws],L):=by
  rw[fCons_eq,hi,aB,fCons_eq,hj];rfl
 rcases h with rfl | ⟨n,rfl,h2⟩
 ·exact ⟨.seq (Fb us ws),by unfold Ob;rw[hc];rfl,by simp[IU.size],fun k x=>rfl⟩
 ·have hs:=Am h2;refine ⟨.zipL n ws,by unfold Ob;rw[hc];simp only[aB,hs,aE],?_,fun k x=>?_⟩
  ·show _<=(match Aw L n with | some us=>min us.length ws.length | none=>0);rw[hs];simp[Fb]
  ·show (Aw (L++x) n).map _=_;rw[Cr hs,aE,Lr]
noncomputable def zU(as:List (List Int))(p:PN):U:=.tup [nU p,.int (cA as p.2:Int)]
theorem Arw(lf:List PN):Fb (lf.map nU) Zbc=lf.map (zU (lf.map cP)):=by
 unfold cAs;rw[bJ,bJ];generalize lf.map cP=as;unfold Fb;rw[List.zip_map',bJ];rfl
def topN(lf:List PN):List PN:=lf.filter fun p=>decide (cA (lf.map cP) p.2=0)
def rstN(lf:List PN):List PN:=lf.filter fun p=>decide Zeb
theorem Aob{tt:FT}{fe:FE}{lf:List PN}{u:U}{L:UH}{δ:UE}(f:PN->Bool)(hu:SeqU u (lf.map nU) L)(hl:lf.length<=1000){i j:Nat}(hi:Ae i δ L=ξ (u,L))(hj:Ae j δ L=ξ (.tup Zbc,L))
  (ht:∀ p M,tt [ξ (nU p),ξ (.int (cA (lf.map cP) p.2:Int))] M=ξ (f p,M)) (hfe:∀ p y M,fe [ξ (nU p),y] M=ξ (nU p,M)) :
  ∃ L',Bv [ψ,ψ] (Ob ZdQ) Zn (ξ tt) fe δ L=ξ (.ref L'.length,L'++[.lst ((lf.filter f).map nU)])/\Gw L L':=by
 obtain ⟨it,e1,hsz,hat⟩:=Apr hu hi hj;rw[Arw] at hsz hat;obtain ⟨x,e⟩:=Bu (ix:=[ψ,ψ]) (it:=it) (g:=Zn) (tt:=ξ tt) (fe:=fe) (δ:=δ) (L:=L) (L0:=L)
  lf (zU (lf.map cP)) f nU Zdv e1 (by simpa using hsz) Ze ⟨ψ,ψ,rfl⟩ hat
  (fun p δ x _ ⟨y,z,hδ⟩=>by
   subst hδ;exact ⟨[ξ (nU p),ξ (.int (cA (lf.map cP) p.2:Int))],rfl,⟨_,_,rfl⟩,[],by rw[aR];exact ht p _,fun _=>⟨[],by rw[aR,aR];exact hfe p _ _⟩⟩)
 exact ⟨L++x,e,⟨x,rfl⟩⟩
theorem Arh{l1:List U}(h:Ae i δ L=ξ (.ref n,L))(h0:L[n]? = ξ (.lst l))(e:fe δ L=ξ (v,L1))(h1:L1[n]? = ξ (.lst l1))(hl:l1.length<=1000):(Dl (Dc "list" Dm (Ae i) (Ad fe Ah))) δ L=ξ (.nx δ,L1.set n (.lst (l1++[v]))):=by
 rw[V3,fMeth_eq,h,aB,if_pos (Ow h0),fCons_eq,e];simp only[aB,fNil_eq,aE,Y6 v h1 Ze]
theorem Adr{lf:List PN}{sts:List U}(hg:Gw L0 M)(hs0:L0.length<=s)(hs:M[s]? = ξ (.lst sts))(hu:SeqU u (lf.map nU) M)(hne:∀ n,u = .ref n->n≠s)(hl:lf.length<=60)(hd:Dim 2 lf)(hst:sts.length<=1000)(x0 x3 x4:Option U) :
  ∃ (r:Nat) (y3 y4:Option U) (M':UH),Hh Zai M=ξ (.nx [x0,ξ (.ref s),ξ (.ref r),y3,y4],M')/\M'[s]? = ξ (.lst (sts++[sU ((srtN (topN lf)).map iU)]))/\M'[r]? = ξ (.lst ((rstN lf).map nU))/\r≠s/\Gw L0 M':=by
 have sl:s < M.length:=(aQ.mp hs).1;obtain ⟨M1,e1,g1⟩:=Xc hu Ze hd;have s1:=Eg (i:=3) (Qj (i:=2) (δ:=Zai) rfl e1);simp only[eS,eT] at s1;obtain ⟨M2,e2,g2⟩:=Aob (tt:=Iz) (fe:=Je) (δ:=[x0,ξ (.ref s),ξ u,ξ (.tup Zbc),x4]) (i:=2) (j:=3) (fun p=>decide (cA (lf.map cP) p.2=0)) (hu.gw g1) Ze rfl rfl (fun p M=>by
  have hb:(((cA (lf.map cP) p.2:Nat):Int) == 0)=decide (cA (lf.map cP) p.2=0):=by
   cases h:cA (lf.map cP) p.2 with
   | zero=>rfl
   | succ n=>rfl
  rw[<- hb];rfl) (fun _ _ _=>rfl)
 have s2:=Eg (i:=4) e2;simp only[eS,eT] at s2;have g3:Gw M (M2++[HU.lst ZdT]):=g1.trans (g2.trans Zag);have k3:(M2++[HU.lst ZdT])[M2.length]? = ξ (.lst ZdT):=Za
 have hs3:=g3.get hs;generalize hM3:M2++[HU.lst ZdT]=M3 at g3 k3 hs3;have s2':(Bh (Bv [ψ,ψ] (Ob (Ad (Ae 2) ZB)) Zn (ξ Iz) Je) (gN 4)) [x0,ξ (.ref s),ξ u,ξ (.tup Zbc),x4] M1=ξ (.nx ZK,M3):=by rw[<- hM3];exact s2
 have hdt:Dim 2 (topN lf):=fun p hp=>hd p (cH.mp hp).1
 have hlt:(topN lf).length<=60:=bW (dF _ _) hl;have so:=Alv (i:=4) (δ:=ZK) hlt hdt k3 rfl;have hso:SeqU (.ref M3.length) ((srtN (topN lf)).map nU) (M3++[HU.lst ((srtN (topN lf)).map nU)]):=.inr ⟨_,rfl,Za⟩;obtain ⟨it,hi,hsz,hat⟩:=hso.it so;obtain ⟨M4,e4,g4⟩:=Vg (ix:=[ψ]) (fe:=Nk) (srtN (topN lf)) nU ZcW [] rfl hi hsz (by rw[(Akm _).length_eq];omega) hat (fun p x hp=>⟨[],by rw[aR];exact Ax rfl rfl (Aqc p _)⟩)
 have hm:(srtN (topN lf)).map ZcW=((srtN (topN lf)).map iU).map U.str:=by rw[bJ];rfl
 rw[hm] at e4;have g5:Gw M3 (M4++[HU.lst (((srtN (topN lf)).map iU).map U.str)]):=(Gw.new _ _).trans (g4.trans Zag);have e5:=Ea e4 (Va (us:=((srtN (topN lf)).map iU).map U.str) Za);have hs5:=g5.get hs3;generalize M4++[HU.lst (((srtN (topN lf)).map iU).map U.str)]=M5 at g5 e5 hs5;have s3:=Arh (i:=1) (δ:=ZK) rfl hs3 e5 hs5 hst;have g6:Gw M M5:=g3.trans g5;have hu6:SeqU u (lf.map nU) (M5.set s ZC):=by
  rcases hu with h | ⟨n,h,h2⟩
  ·exact .inl h
  ·exact .inr ⟨n,h,by rw[cJ (gY (hne n h))];exact g6.get h2⟩
 have hs6:(M5.set s ZC)[s]? = ξ ZC:=bX (bC sl g6.le);have g7:Gw L0 (M5.set s ZC):=(hg.trans g6).set hs0 _;have ln:M5.length=(M5.set s ZC).length:=by rw[lK]
 generalize M5.set s ZC=M6 at s3 hu6 hs6 g7 ln;obtain ⟨M7,e7,g8⟩:=Aob (tt:=Oe) (fe:=N6) (δ:=ZK) (i:=2) (j:=3) (fun p=>decide Zeb) hu6 Ze rfl rfl (fun p M=>by
  have hb:decide ((0:Int) < ((cA (lf.map cP) p.2:Nat):Int))=decide Zeb:=by
   cases h:cA (lf.map cP) p.2 with
   | zero=>rfl
   | succ n=>simp
  rw[<- hb];rfl) (fun _ _ _=>rfl)
 have s4:=Eg (i:=2) e7;simp only[eS,eT] at s4;refine ⟨M7.length,ξ (.tup Zbc),ξ (.ref M2.length),M7++[.lst ((rstN lf).map nU)],?_,(Gw.new _ _).get (g8.get hs6),Za,?_,g7.trans (g8.trans Zag)⟩
 ·unfold Hh;rw[Bf s1,Bf s2',Bf s3];exact s4
 ·have:=g6.le;have:=g8.le;omega
noncomputable def stairsF:Nat->List PN->List (List Str)
 | 0,_=>[]
 | n+1,lf=>if lf.isEmpty then [] else ((srtN (topN lf)).map iU)::stairsF n (rstN lf)
theorem Ac1(hs0:L0.length<=s)(x0:Option U)(hdec:∀ lf:List PN,lf≠[]->Dim 2 lf->(rstN lf).length < lf.length):∀ (n k:Nat) (lf:List PN) (M:UH) (u:U) (sts:List U) (x3 x4:Option U),lf.length<=n->lf.length<=60->Dim 2 lf->sts.length+n<=1000->Gw L0 M->M[s]? = ξ (.lst sts)->SeqU u (lf.map nU) M->(∀ n,u = .ref n->n≠s) ->
  ∃ (δ':UE) (M':UH),F2 Ff Hh (n+(k+1)) Zai M=ξ (.nx δ',M')/\Ae 1 δ' M'=ξ (.ref s,M')/\M'[s]? = ξ (.lst (sts++(stairsF n lf).map sU))/\Gw L0 M':=by
 intro n;induction n with
 | zero=>
  intro k lf M u sts x3 x4 hn hl hd hst hg hs hu hne;have h0:lf=[]:=iH.mp Ze;subst h0;have ht:Ff Zai M=ξ (false,M):=by
   show ZdF=_;rw[hu.tru];rfl
  refine ⟨Zai,M,?_,rfl,by rw[hs];simp[stairsF],hg⟩
  show F2 _ _ (0+(k+1)) _ _=_;rw[vO];unfold F2;rw[ht];rfl
 | succ n ih=>
  intro k lf M u sts x3 x4 hn hl hd hst hg hs hu hne;have e1:n+1+(k+1)=(n+(k+1))+1:=Ze
  rw[e1];by_cases h0:lf=[]
  ·subst h0;have ht:Ff Zai M=ξ (false,M):=by
    show ZdF=_;rw[hu.tru];rfl
   refine ⟨Zai,M,?_,rfl,by rw[hs];simp[stairsF],hg⟩
   unfold F2;rw[ht];rfl
  ·have hem:lf.isEmpty=false:=by cases lf with | nil=>exact absurd rfl h0 | cons _ _=>rfl
   have ht:Ff Zai M=ξ (true,M):=by
    show ZdF=_;rw[hu.tru];cases lf with
    | nil=>exact absurd rfl h0
    | cons _ _=>rfl
   obtain ⟨r,y3,y4,M',e,hs',hr',hrs,hg'⟩:=Adr hg hs0 hs hu hne hl hd Ze x0 x3 x4;have hlt:=hdec lf h0 hd;obtain ⟨δ',M2,e2,hv,hs2,hg2⟩:=ih k (rstN lf) M' (.ref r) _ y3 y4 Ze Ze (fun p hp=>hd p (cH.mp hp).1) (by rw[bV,kF];omega) hg' hs' (.inr ⟨r,rfl,hr'⟩) (fun m hm=>by cases hm;exact hrs);refine ⟨δ',M2,?_,hv,?_,hg2⟩
   ·unfold F2;rw[ht];simp only[aB,if_true,e,e2]
   ·rw[hs2,stairsF,hem];simp
theorem Alf:∀ (a b:List Int),a.length=b.length->((a.zip b).all fun p=>decide (p.1<=p.2))=true->a.sum<=b.sum/\(a.sum=b.sum->a=b)
 | [],[],_,_=>⟨lH _,fun _=>rfl⟩
 | [],_::_,h,_=>by cases h
 | _::_,[],h,_=>by cases h
 | x::a,y::b,h,hl=>by
  rw[mP,kU,bY] at hl;have h1:=of_decide_eq_true hl.1;obtain ⟨h2,h3⟩:=Alf a b (by simpa using h) hl.2;simp only[fT];refine ⟨Ze,fun he=>?_⟩;have:x=y:=by simp only at h1;omega
  rw[this,h3 (by simp only at h1;omega)]
theorem Awr{a b:List Int}(hl:a.length=b.length)(h:und a b=true):a.sum < b.sum:=by
 unfold und at h;rw[bY] at h;obtain ⟨h1,h2⟩:=Alf a b hl h.2;have hn:a≠b:=by simpa using h.1
 have:a.sum≠b.sum:=fun e=>hn (h2 e)
 omega
theorem Ah9:∀ (l:List PN),l≠[]->∃ p∈l,∀ q∈l,q.2.sum<=p.2.sum
 | [],h=>absurd rfl h
 | [a],_=>⟨a,cR.mpr rfl,fun q hq=>by rw[cR.mp hq];exact lH _⟩
 | a::b::l,_=>by
  obtain ⟨p,hp,h⟩:=Ah9 (b::l) Za;by_cases hc:p.2.sum<=a.2.sum
  ·refine ⟨a,aU ..,fun q hq=>?_⟩;rcases bG.mp hq with rfl | hq
   ·exact lH _
   ·exact Int.le_trans (h q hq) hc
  ·refine ⟨p,aO _ hp,fun q hq=>?_⟩;rcases bG.mp hq with rfl | hq
   ·omega
   ·exact h q hq
theorem rst_lt{lf:List PN}(h0:lf≠[])(hd:Dim k lf):(rstN lf).length < lf.length:=by
 obtain ⟨p,hp,hm⟩:=Ah9 lf h0;unfold rstN;rw[List.length_filter_lt_length_iff_exists];refine ⟨p,hp,?_⟩;have:cA (lf.map cP) p.2=0:=by
  unfold cA;rw[iH,oK];intro a ha;obtain ⟨q,hq,rfl⟩:=bT.mp ha;intro hu;have:=Awr (by rw[hd p hp,hd q hq]) hu;have:=hm q hq;omega
 rw[this];simp
theorem stairs_ok{lf:List PN}(hl:lf.length<=60)(hd:Dim 2 lf)(L:UH):∃ L',J7 [.tup (lf.map nU)] L=ξ (.tup ((stairsF lf.length lf).map sU),L')/\Gw L L':=by
 have sm0:E4 ([]:List U).length=true:=small_of (by show 0<=16777216;decide);have s1:(Bh (Cg Ah) (gN 1)) [ξ Zbb,ψ,ψ,ψ,ψ] L=ξ (.nx [ξ Zbb,ξ ZD,ψ,ψ,ψ],L++[.lst []]):=by
  rw[Hg,fLst_eq,fNil_eq,aB,if_pos sm0];rfl
 have s2:(Bh (Ae 0) (gN 2)) [ξ Zbb,ξ ZD,ψ,ψ,ψ] (L++[.lst []])=ξ (.nx [ξ Zbb,ξ ZD,ξ Zbb,ψ,ψ],L++[.lst []]):=rfl;obtain ⟨δ',M',e,hv,hs,g⟩:=Ac1 (L0:=L) (s:=L.length) (aP _) (ξ Zbb) (fun lf h0 hd=>rst_lt h0 hd) lf.length (100000 - lf.length - 1) lf (L++[.lst []]) Zbb [] ψ ψ (aP _) hl hd (by show 0+lf.length<=1000;omega) Zag Za (.inl rfl) (fun n h=>by cases h);have hk:lf.length+(100000 - lf.length - 1+1)=100000:=Ze
 rw[hk] at e;rw[gG] at hs;refine ⟨M',fnN rfl ?_,g⟩;show Nq [ξ Zbb,ψ,ψ,ψ,ψ] L=_;unfold Nq;rw[Bf s1,Bf s2,Bf e];exact B8 (Ea hv (Va hs))
end SN
theorem Ady{c:FT}{body:FS}{P:Nat->UE->UH->Prop}{Q:UE->UH->Prop}
  (step:∀ k δ L,P k δ L->(∃ L1,c δ L=ξ (false,L1)/\Q δ L1)\/∃ L1,c δ L=ξ (true,L1)/\∃ δ2 M2 k',body δ L1=ξ (.nx δ2,M2)/\k' < k/\P k' δ2 M2) :
  ∀ (m k:Nat) (δ:UE) (L:UH),k < m->P k δ L->∃ δ' L',F2 c body m δ L=ξ (.nx δ',L')/\Q δ' L'
 | 0,k,δ,L,h,_=>by omega
 | m+1,k,δ,L,h,hP=>by
  unfold F2;rcases step k δ L hP with ⟨L1,e1,q⟩ | ⟨L1,e1,δ2,M2,k',e2,hk,hP2⟩
  ·exact ⟨δ,L1,by simp only[e1,aB,bN,if_false],q⟩
  ·obtain ⟨δ',L',e3,q⟩:=Ady step m k' δ2 M2 Ze hP2;exact ⟨δ',L',by simp only[e1,aB,if_true,e2,e3],q⟩
noncomputable def toQ(p:NP):SN.PN:=(p.1,[p.2.1,p.2.2])
theorem Ais(a b:Int×Int):SN.und [a.1,a.2] [b.1,b.2]=Ct a b:=by
 unfold SN.und Ct;by_cases h1:a.1<=b.1 <;> by_cases h2:a.2<=b.2 <;> by_cases h3:a.1=b.1 <;> by_cases h4:a.2=b.2 <;> simp[h1,h2,h3,h4]
def Jj(lf:List NP)(p:NP):Bool:=(lf.filter fun q=>Ct p.2 q.2).isEmpty
noncomputable def tp(lf:List NP):List NP:=lf.filter (Jj lf)
noncomputable def rs(lf:List NP):List NP:=lf.filter fun p=>!Jj lf p
theorem Aoe(lf:List NP)(p:NP):SN.cA ((lf.map toQ).map cP) (toQ p).2=(lf.filter fun q=>Ct p.2 q.2).length:=by
 unfold SN.cA;rw[bJ,jM,aL]
 congr 1
 refine mZ fun q _=>?_
 exact Ais p.2 q.2
theorem Azs(lf:List NP):SN.topN (lf.map toQ)=(tp lf).map toQ:=by
 unfold SN.topN tp;rw[jM]
 congr 1
 refine mZ fun p _=>?_
 show decide (SN.cA ((lf.map toQ).map cP) (toQ p).2=0)=Jj lf p;rw[Aoe];unfold Jj;cases lf.filter fun q=>Ct p.2 q.2 <;> simp
theorem Ate(lf:List NP):SN.rstN (lf.map toQ)=(rs lf).map toQ:=by
 unfold SN.rstN rs;rw[jM]
 congr 1
 refine mZ fun p _=>?_
 show decide (0 < SN.cA ((lf.map toQ).map cP) (toQ p).2) = !Jj lf p;rw[Aoe];unfold Jj;cases lf.filter fun q=>Ct p.2 q.2 <;> simp
theorem srt_eq(qs:List NP):SN.srtN (qs.map toQ)=(srt qs).map toQ:=by
 have ho:SN.ordN (qs.map toQ)=E3 Ei qs:=by
  unfold SN.ordN E3;rw[bJ,aL];rfl
 unfold SN.srtN srt;rw[ho,bJ];refine cY fun i hi=>?_
 have hi':i < qs.length:=cL.mp ((Er Ei qs).mem_iff.mp hi);show (qs.map toQ).getD i SN.nulN=toQ (qs.getD i C8);rw[aK,aK,bD,aG hi'];rfl
noncomputable def stF:Nat->List NP->List (List Str)
 | 0,_=>[]
 | n+1,lf=>if lf.isEmpty then [] else ((srt (tp lf)).map (·.1))::stF n (rs lf)
theorem stF_eq:∀ (n:Nat) (lf:List NP),SN.stairsF n (lf.map toQ)=stF n lf
 | 0,_=>rfl
 | n+1,lf=>by
  unfold SN.stairsF stF;rw[Azs,srt_eq,Ate,stF_eq n (rs lf),bJ];cases lf <;> rfl
theorem A1v(lf:List NP):SN.Dim 2 (lf.map toQ):=fun p hp=>by obtain ⟨q,_,rfl⟩:=bT.mp hp;rfl
variable {lf:List NP}
theorem Auu(h:lf≠[]):(rs lf).length < lf.length:=by
 have:=SN.rst_lt (lf:=lf.map toQ) (k:=2) (by simpa using h) (A1v lf);rw[Ate,aL,aL] at this;exact this
theorem A26(h:lf≠[]):tp lf≠[]:=fun ht=>by
 have h1:=Auu h;have h2:rs lf=lf:=by
  unfold rs;rw[cZ];intro p hp;have:Jj lf p=false:=by
   cases hb:Jj lf p with
   | false=>rfl
   | true=>have:p∈tp lf:=cH.mpr ⟨hp,hb⟩;rw[ht] at this;cases this
  rw[this];rfl
 rw[h2] at h1;omega
theorem Afa:∀ (n:Nat) (lf:List NP),∀ r∈stF n lf,r≠[]/\r.length<=lf.length/\∀ s∈r,s∈lf.map (·.1)
 | 0,lf,r,h=>by cases h
 | n+1,lf,r,h=>by
  unfold stF at h;split at h
  ·cases h
  ·rename_i hne;have hne':lf≠[]:=fun q=>hne (by rw[q];rfl)
   rcases bG.mp h with rfl | h
   ·have hp:=Jc (tp lf);refine ⟨fun q=>?_,by rw[aL,hp.length_eq];exact dF _ _,fun s hs=>?_⟩
    ·have h1:(srt (tp lf)).length=0:=by have:=congrArg iI q;simpa using this
     rw[hp.length_eq] at h1;exact A26 hne' (iH.mp h1)
    ·obtain ⟨p,hp',rfl⟩:=bT.mp hs;exact pY (cH.mp (hp.mem_iff.mp hp')).1
   ·obtain ⟨h1,h2,h3⟩:=Afa n (rs lf) r h;refine ⟨h1,bW h2 (dF _ _),fun s hs=>?_⟩;obtain ⟨p,hp,rfl⟩:=bT.mp (h3 s hs);exact pY (cH.mp hp).1
theorem Aid:∀ (n:Nat) (lf:List NP),(stF n lf).length<=n
 | 0,_=>aP _
 | n+1,lf=>by
  unfold stF;split
  ·exact eG _
  ·rw[aM];exact rX (Aid n _)
theorem stairs_ok(hl:m.length<=60)(L:UH):∃ L',J7 [.tup (m.map ptU)] L=ξ (.tup ((stF m.length m).map SN.sU),L')/\Gw L L':=by
 have hm:m.map ptU=(m.map toQ).map SN.nU:=by rw[bJ];rfl
 obtain ⟨L',e,g⟩:=SN.stairs_ok (lf:=m.map toQ) (by rw[aL];exact hl) (A1v m) L;rw[<- hm,stF_eq,aL] at e;exact ⟨L',e,g⟩
noncomputable def stS(m:List NP):List Str:=(stF m.length m).map (gU " ")
theorem Aa0:∀ r:List Str,(∀ s∈r,s.length<=8)->(r.map (·.length)).sum<=8 * r.length
 | [],_=>by simp
 | s::r,h=>by
  have h1:=h s Za;have h2:=Aa0 r Zct;simp only[aI,fT,aM];omega
theorem V5(ok:OkP m)(hl:m.length<=60)(L:UH):∃ v L1,K3 [.str "stairs",.tup (m.map ptU)] L=ξ (v,L1)/\Gw L L1/\Ans (Cz [v] L1) L1 (stS m):=by
 obtain ⟨L1,e1,g1⟩:=stairs_ok hl L;have n1:¬ (("stairs" : Str) = "points"):=Zd
 have n2:¬ (("stairs" : Str) = "counts"):=Zd
 have n3:¬ (("stairs" : Str) = "pairs"):=Zd
 have n4:¬ (("stairs" : Str) = "halves"):=Zd
 refine ⟨.tup ((stF m.length m).map SN.sU),L1,fnN (n:=2) rfl ?_,g1,?_⟩
 ·show Lc [ξ (.str "stairs"),ξ (.tup (m.map ptU))] L=_;unfold Lc;refine A8 (Cm (by rw[eqS La Acy rfl,decide_eq_false n1])) (A8 (Cm (by rw[eqS La Adg rfl,decide_eq_false n2])) (A8 (Cm (by rw[eqS La Agl rfl,decide_eq_false n3])) (A8 (Cm (by rw[eqS La Lb rfl,decide_eq_false n4])) (Kq ?_))));rw[E5 (by rw[eqS La La rfl,decide_eq_true rfl])];exact B8 (Qj (i:=1) rfl e1)
 ·have hfl:=Aid m.length m;have h:=Xo (L:=L1) (rows:=(stF m.length m).map fun r=>r.map fun s=>((.str s,s):Po)) ⟨by rw[aL];omega,fun ps hps=>by
   obtain ⟨r,hr,rfl⟩:=bT.mp hps;obtain ⟨r1,r2,r3⟩:=Afa _ _ r hr;have h8:∀ s∈r,s.length<=8:=fun s hs=>by
    obtain ⟨p,hp,rfl⟩:=bT.mp (r3 s hs);exact (ok p hp).1.2.1
   have h9:=Aa0 r h8;have hmm:(r.map fun s=>((.str s,s):Po)).map (·.2)=r:=by rw[bJ];exact jT r
   refine ⟨fun q=>r1 (List.map_eq_nil_iff.mp q),fun p hp=>?_,by rw[aL];omega,by rw[hmm];omega⟩
   obtain ⟨s,_,rfl⟩:=bT.mp hp;exact Acr s⟩
  have e1:((stF m.length m).map fun r=>r.map fun s=>((.str s,s):Po)).map (fun ps=>U.tup (ps.map (·.1)))=(stF m.length m).map SN.sU:=by
   rw[bJ];refine cY fun r _=>?_
   show U.tup ((r.map fun s=>((.str s,s):Po)).map (·.1)) = .tup (r.map U.str);rw[bJ];rfl
  have e2:Hw ((stF m.length m).map fun r=>r.map fun s=>((.str s,s):Po))=stS m:=by
   unfold Hw stS;rw[bJ];refine cY fun r _=>?_
   show gU " " ((r.map fun s=>((.str s,s):Po)).map (·.2))=_;rw[bJ]
   congr 1
   exact jT r
  rw[e1,e2] at h;exact h
theorem Aw4{best:List NP}{p:NP}(hb:L[b]? = ξ (.lst (best.map ptU)))(ok:OkP best)(hp:fE p.1=true):Uj (ptU p) (.ref b) L=ξ (.bl (!decide (p∈best)),L):=by
 have hpl:∀ u∈best.map ptU,Pl 6 u:=fun u hu=>by
  obtain ⟨q,hq,rfl⟩:=bT.mp hu;exact Agz (ok.ok q hq)
 have hp6:Pl 6 (ptU p):=Agz hp;obtain ⟨a1,a2⟩:=Pq 6 (ptU p) hp6;obtain ⟨b1,b2⟩:=Qk (Pq 6) (best.map ptU) hpl;have s1:dP ZdW=true:=by unfold dP;rw[a1];simp;omega
 have s2:dP (.list (pds (best.map ptU)))=true:=by unfold dP;simp[fX,gK,b1];omega
 have t2:toP L 8 (.ref b)=ξ (.list (pds (best.map ptU))):=by
  show (Aw L b).bind ZcJ=_;rw[Am hb];simp only[aB,Qc Zds _ hpl,aE]
 have hany:∀ l:List NP,(∀ q∈l,Pl 6 (ptU q))->((pds (l.map ptU)).any fun y=>dH y ZdW)=decide (p∈l):=by
  intro l;induction l with
  | nil=>intro _;rfl
  | cons q l ih=>
   intro h;have h1:=ih Zct;have h2:=Us 6 (ptU q) (ptU p) (h q Za) hp6;show (dH (pd (ptU q)) ZdW || (pds (l.map ptU)).any _)=_;rw[h1];by_cases e:q=p
   ·rw[h2.mpr (by rw[e])];simp[e]
   ·have e':dH (pd (ptU q)) ZdW=false:=by
     cases hb:dH (pd (ptU q)) ZdW with
     | false=>rfl
     | true=>
      have h3:=h2.mp hb;unfold ptU at h3;simp only[U.tup.injEq,fI,U.str.injEq,U.int.injEq,and_true] at h3;exact absurd (nO h3.1 (nO h3.2.1 h3.2.2)) e
    have e2:¬ p=q:=fun z=>e z.symm
    rw[e'];simp[e2]
 have h60:gK ZdW<=60:=Ze
 unfold Uj Aw6;simp only[P6 L 6 8 (ptU p) Zb hp6,t2,aB,s1,s2,h60,and_self,if_true,aE];rw[hany best (fun q hq=>Agz (ok.ok q hq))]
theorem OkP.sub{l:List NP}(ok:OkP m)(h:∀ p∈l,p∈m):OkP l:=fun p hp=>ok p (h p hp)
theorem Ai5{M:UH}{n f l b:Nat}{lf:List NP}(hl:M[l]? = ξ ZdN)(hb:M[b]? = ξ (.lst []))(hlb:l≠b)(hlen:lf.length<=60)(y4:Option U) :
  ∃ z4 M',(Qo (Br (Ae 2)) (gN 4) Ma) [ξ (.ref n),ξ (.ref f),ξ (.ref l),ξ (.ref b),y4] M=ξ (.nx ZH,M')/\M'[b]? = ξ (.lst ((tp lf).map ptU))/\Ex b M M':=by
 have hi:(Br (Ae 2)) [ξ (.ref n),ξ (.ref f),ξ (.ref l),ξ (.ref b),y4] M=ξ (.ref l,M):=by
  rw[Df];show (Gm (.ref l) M).map _=_;rw[Ck (Am hl)];rfl
 obtain ⟨δ',M1,e1,P⟩:=Qm (us:=lf.map ptU) (n:=l) (body:=Ma) (g:=gN 4) (fun j δ' N=>(∃ z4,δ'=ZH)/\N[b]? = ξ (.lst (((lf.take j).filter (Jj lf)).map ptU))/\Ex b M N) hi
  ⟨⟨_,rfl⟩,by simpa using hb,Ex.refl b M⟩ (fun j δ N hP=>Am (hP.2.2.get hl hlb))
  (fun j u δ N hu hP=>by
   obtain ⟨⟨z4,rfl⟩,hbN,xN⟩:=hP;rw[bD] at hu;obtain ⟨p,hp,rfl⟩:=aJ.mp hu;have hlN:=xN.get hl hlb;have hsq:=Am hlN;obtain ⟨x,ec⟩:=Bu (ix:=[ψ,ξ 4]) (fi:=Br (Ae 2)) (g:=gN 0) (tt:=ξ Ke) (fe:=Hj) (δ:=ZN) (L:=N) (L0:=N) (it:=.ref l) lf ptU (fun q=>Ct p.2 q.2) (fun _=>.int 1) (fun δ=>∃ z,δ = [z,ξ (ptU p)])
    (by rw[Df];show (Gm (.ref l) N).map _=_;rw[Ck hsq];rfl) (by rw[D9 hsq];simp) Ze ⟨ψ,rfl⟩ ZaD
    (fun q δ x _ hδ=>by
     obtain ⟨a,rfl⟩:=hδ;exact ⟨[ξ (ptU q),ξ (ptU p)],rfl,⟨_,rfl⟩,[],by rw[aR];exact tru_ok (Fy (Agw rfl) (Agw rfl) (U0 p.2 q.2 _)),fun _=>⟨[],by simp[Hj]⟩⟩)
   have gN1:Gw N (N++x++[.lst ((lf.filter fun q=>Ct p.2 q.2).map fun _=>.int 1)]):=⟨x++[_],by rw[bA]⟩;have aN1:(N++x++[HU.lst ((lf.filter fun q=>Ct p.2 q.2).map fun _=>U.int 1)])[(N++x).length]? = ξ (.lst ((lf.filter fun q=>Ct p.2 q.2).map fun _=>.int 1)):=Za
   generalize (N++x).length=r1 at ec aN1;generalize N++x++[HU.lst ((lf.filter fun q=>Ct p.2 q.2).map fun _=>U.int 1)]=N1 at ec gN1 aN1;have g2:=Gw.new N1 [HU.lst []];have ht:(Av (f2 B9 (Bv [ψ,ξ 4] (Br (Ae 2)) (gN 0) (ξ Ke) Hj) (Cg Ah))) ZN N=ξ (Jj lf p,N1++[.lst []]):=by
    refine B1 (Ax ec (Ak2 _ _) ?_);rw[Aj8 (Am (g2.get aN1)) (Am (us:=[]) Za) (fun u hu=>by obtain ⟨_,_,rfl⟩:=bT.mp hu;exact Pl.int _ _) Zeo];unfold Jj;cases lf.filter fun q=>Ct p.2 q.2 <;> rfl
   have gg:=gN1.trans g2;generalize N1++[HU.lst []]=N2 at ht gg;have htk:(lf.take (j+1)).filter (Jj lf)=(lf.take j).filter (Jj lf)++(if Jj lf p then [p] else []):=by
    rw[pO,hp,List.filter_append]
    congr 1
    show iJ _ [p]=_;rw[eB];cases Jj lf p <;> rfl
   cases hb2:Jj lf p with
   | false=>
    rw[hb2] at ht htk;refine ⟨ZN,N,rfl,_,N2,.inl (Cm ht),⟨_,rfl⟩,?_,xN.trans (gg.ex b)⟩;rw[htk];simpa using gg.get hbN
   | true=>
    rw[hb2] at ht htk;have hb3:=gg.get hbN;refine ⟨ZN,N,rfl,ZN,N2.set b (.lst (((lf.take j).filter (Jj lf)).map ptU++[ptU p])),.inl ?_,⟨_,rfl⟩,?_,(xN.trans (gg.ex b)).trans (Ex.put b N2 _)⟩
    ·show (C6 _ _ B2) _ _=_;rw[E5 ht];refine Rc (i:=3) (n:=b) (fe:=Ae 4) rfl rfl (Ow hb3) hb3 ?_;have:=dF (Jj lf) (lf.take j);rw[aL];have h2:(lf.take j).length<=lf.length:=by rw[fL];omega
     omega
    ·rw[htk,bX (aQ.mp hb3).1];simp)
 obtain ⟨⟨z4,rfl⟩,hbN,xN⟩:=P;rw[aL,kP] at hbN;exact ⟨z4,M1,e1,hbN,xN⟩
theorem Aq3(ok:OkP lf):∀ i j,i < (tp lf).length->j < (tp lf).length->(-1:Int)=1\/(((tp lf).getD i C8).2.1=((tp lf).getD j C8).2.1->((tp lf).getD i C8).2.2=((tp lf).getD j C8).2.2):=fun i j hi hj=>.inr fun hx=>by
 have hm:∀ k,k < (tp lf).length->(tp lf).getD k C8∈tp lf:=fun k hk=>by
  rw[aK,aG hk];exact bZ hk
 obtain ⟨pi,ti⟩:=cH.mp (hm i hi);obtain ⟨pj,tj⟩:=cH.mp (hm j hj);generalize (tp lf).getD i C8=p at hx pi ti;generalize (tp lf).getD j C8=q at hx pj tj;have key:∀ a b:NP,b∈lf->Jj lf a=true->a.2.1=b.2.1->¬ a.2.2 < b.2.2:=fun a b hb ht hxx hlt=>by
  unfold Jj at ht;rw[List.isEmpty_iff] at ht;have:b∈lf.filter fun q=>Ct a.2 q.2:=cH.mpr ⟨hb,by
   unfold Ct;have h1:a.2.1<=b.2.1:=Ze
   have h2:a.2.2<=b.2.2:=Ze
   have h3:¬ a.2.2=b.2.2:=Ze
   simp[h1,h2,h3]⟩
  rw[ht] at this;cases this
 have h1:=key p q pj ti hx;have h2:=key q p pi tj hx.symm;omega
theorem A2q{p:NP}(hp:p∈lf):(!decide (p∈tp lf)) = !Jj lf p:=by
 congr 1
 cases hb:Jj lf p with
 | true=>exact decide_eq_true (cH.mpr ⟨hp,hb⟩)
 | false=>exact decide_eq_false fun h=>by rw[(cH.mp h).2] at hb;cases hb
def txN(ps:List NP):Str:=gU " " (ps.map (·.1))
inductive StT(v:Option (Fl×UH))(L:UH)(n f:Nat)(lf:List NP)(fs:List U):Prop
 | mk (l':Nat) (y3 y4:Option U) (M':UH) (e:v=ξ (.nx [ξ (.ref n),ξ (.ref f),ξ (.ref l'),y3,y4],M')) (hf:M'[f]? = ξ (.lst (fs++[.str (txN (srt (tp lf)))]))) (hl:M'[l']? = ξ (.lst ((rs lf).map ptU))) (hn:l'≠f) (g:Gw L M')
theorem Asc{f l:Nat}{fs:List U}(g:Gw L M)(hLf:L.length<=f)(hf:M[f]? = ξ (.lst fs))(hl:M[l]? = ξ ZdN)(hfl:l≠f)(ok:OkP lf)(hlen:lf.length<=60)(hfs:fs.length<=1000)(y3 y4:Option U):StT (Ii ZaP M) L n f lf fs:=by
 have s1:(Bh (Cg Ah) (gN 3)) ZaP M=ξ (.nx [ξ (.ref n),ξ (.ref f),ξ (.ref l),ξ (.ref M.length),y4],M++[.lst []]):=rfl;have g1:=g.trans (Gw.new M [HU.lst []]);have hf1:=(Gw.new M [HU.lst []]).get hf;have hl1:=(Gw.new M [HU.lst []]).get hl;have hb1:(M++[HU.lst []])[M.length]? = ξ (.lst []):=Za
 have hLb:L.length<=M.length:=g.le;have hlb:l≠M.length:=by have:=(aQ.mp hl).1;omega
 have hfb:f≠M.length:=by have:=(aQ.mp hf).1;omega
 generalize M.length=b at s1 hb1 hLb hlb hfb;generalize M++[HU.lst []]=M1 at s1 g1 hf1 hl1 hb1;obtain ⟨z4,M2,e2,hb2,x2⟩:=Ai5 (n:=n) (f:=f) hl1 hb1 hlb hlen y4;have g2:=Ad0 g1 x2 hLb;have hf2:=x2.get hf1 hfb;have hl2:=x2.get hl1 hlb;have htl:(tp lf).length<=60:=bW (dF _ _) hlen;have okt:OkP (tp lf):=ok.sub fun p hp=>(cH.mp hp).1
 obtain ⟨r3,M3,e3,h3,g3,_⟩:=Tq (sg:=-1) hb2 htl (.inr rfl) (Aq3 ok);have hsq:=Am h3;have hsl:(srt (tp lf)).length<=60:=by rw[Ln];exact htl
 obtain ⟨x,ec⟩:=Bu (ix:=[ψ]) (fi:=Br Zci) (g:=gN 0) (tt:=ψ) (fe:=Kl) (δ:=ZH) (L:=M2) (L0:=M3) (it:=.ref r3) (srt (tp lf)) ptU Zaf ZcW Zea
  (by rw[Df,Fy (fa:=Ae 3) (fb:=Rw Zi) rfl rfl e3];show (Gm (.ref r3) M3).map _=_;rw[Ck hsq];rfl) (by rw[D9 hsq];simp) Ze ⟨ψ,rfl⟩ ZaD
  (fun p δ x hp hδ=>by
   obtain ⟨a,rfl⟩:=hδ;exact ⟨[ξ (ptU p)],rfl,⟨_,rfl⟩,[],by simp[Ft],fun _=>⟨[],by rw[aR,aR];rfl⟩⟩)
 rw[cZ.mpr Zg] at ec;have hmm:(srt (tp lf)).map ZcW=((srt (tp lf)).map (·.1)).map U.str:=by rw[bJ];rfl
 rw[hmm] at ec;have g4:Gw M3 (M3++x++[.lst (((srt (tp lf)).map (·.1)).map U.str)]):=⟨x++[_],by rw[bA]⟩;have a4:(M3++x++[HU.lst (((srt (tp lf)).map (·.1)).map U.str)])[(M3++x).length]? = ξ (.lst (((srt (tp lf)).map (·.1)).map U.str)):=Za
 generalize (M3++x).length=r4 at ec a4;generalize M3++x++[HU.lst (((srt (tp lf)).map (·.1)).map U.str)]=M4 at ec g4 a4;have hj:Ey (.str " ") [.ref r4] M4=ξ (.str (txN (srt (tp lf))),M4):=by
  have h8:∀ s∈(srt (tp lf)).map (·.1),s.length<=8:=fun s hs=>by
   obtain ⟨p,hp,rfl⟩:=bT.mp hs;exact (okt p ((Jc _).mem_iff.mp hp)).1.2.1
  have h9:=Aa0 _ h8;have h10:((srt (tp lf)).map (·.1)).length<=60:=by rw[aL];exact hsl
  have h4:(" " : Str).length<=16:=Zd
  unfold Ey;simp only[Ew a4,aB,Ra];rw[if_pos ⟨h4,Ze⟩];rfl
 have ej:(Dc "str" Ey (fC (.str " ")) (Ad (Bv [ψ] (Br Zci) (gN 0) ψ Kl) Ah)) ZH M2=ξ (.str (txN (srt (tp lf))),M4):=by
  rw[fMeth_eq,fC_eq,aB];show (if true=true then _ else ψ)=_;rw[if_pos rfl,Bp ec rfl];exact hj
 have g34:=g3.trans g4;have hf4:=g34.get hf2;have s3:=Rc (i:=1) (n:=f) (δ:=ZH) rfl ej (Ow hf2) hf4 Ze;have g5:=(g2.trans g34).set hLf ZR;have hf5:(M4.set f ZR)[f]? = ξ ZR:=bX (aQ.mp hf4).1;have hl5:(M4.set f ZR)[l]? = ξ ZdN:=by rw[cJ (gY hfl)];exact g34.get hl2
 have hb5:(M4.set f ZR)[b]? = ξ (.lst ((tp lf).map ptU)):=by rw[cJ hfb];exact g34.get hb2
 generalize M4.set f ZR=M5 at s3 g5 hf5 hl5 hb5;have hsq5:=Am hl5;obtain ⟨x6,ec6⟩:=Bu (ix:=[ψ,ξ 3]) (fi:=Br (Ae 2)) (g:=gN 0) (tt:=ξ Pc) (fe:=Ph) (δ:=ZH) (L:=M5) (L0:=M5) (it:=.ref l) lf ptU (fun p=>!Jj lf p) ptU (fun δ=>∃ z,δ = [z,ξ (.ref b)])
  (by rw[Df];show (Gm (.ref l) M5).map _=_;rw[Ck hsq5];rfl) (by rw[D9 hsq5];simp) Ze ⟨ψ,rfl⟩ (fun k x=>Hf (Cr hsq5))
  (fun p δ x hp hδ=>by
   obtain ⟨a,rfl⟩:=hδ;have hn:=Aw4 (p:=p) ((Gw.new M5 x).get hb5) okt (ok.ok p hp);rw[A2q hp] at hn;exact ⟨[ξ (ptU p),ξ (.ref b)],rfl,⟨_,rfl⟩,[],by rw[aR];exact B1 (Ax rfl rfl hn),fun _=>⟨[],by rw[aR,aR];rfl⟩⟩)
 have g6:Gw M5 (M5++x6++[.lst ((rs lf).map ptU)]):=⟨x6++[_],by rw[bA]⟩;have hlt:f < M5.length:=(aQ.mp hf5).1;refine ⟨(M5++x6).length,ξ (.ref b),z4,M5++x6++[.lst ((rs lf).map ptU)],?_,g6.get hf5,Za,by rw[bV];omega,g5.trans g6⟩;unfold Ii;exact A8 s1 (A8 e2 (A8 s3 (Eg (i:=2) ec6)))
theorem Aee(h:L[n]? = ξ Zam)(ok:OkP m)(hl:m.length<=60):NewL (Li [.ref n] L) L ((stS m).map U.str):=by
 have s1:(Bh (Cg Ah) (gN 1)) [ξ (.ref n),ψ,ψ,ψ,ψ] L=ξ (.nx [ξ (.ref n),ξ ZD,ψ,ψ,ψ],L++[.lst []]):=rfl;have g1:=Gw.new L [HU.lst []];have hf1:(L++[HU.lst []])[L.length]? = ξ (.lst []):=Za
 generalize hff:L.length=f at s1 hf1;generalize L++[HU.lst []]=L1 at s1 g1 hf1;have hn1:=g1.get h;have e2:Rq [.ref n] L1=ξ (.ref L1.length,L1++[.lst (m.map ptU)]):=by
  unfold Rq;simp only[Am hn1,aE]
 have s2:=Eg (i:=2) (δ:=[ξ (.ref n),ξ (.ref f),ψ,ψ,ψ]) (Ea (fa:=Ae 0) rfl e2);have g2:=Gw.new L1 [HU.lst (m.map ptU)];have hl2:(L1++[HU.lst (m.map ptU)])[L1.length]? = ξ Zam:=Za
 have hlf:L1.length≠f:=by have:=(aQ.mp hf1).1;omega
 generalize L1.length=l at s2 hl2 hlf;have hf2:=g2.get hf1;generalize L1++[HU.lst (m.map ptU)]=L2 at s2 g2 hl2 hf2;obtain ⟨δ',L3,e3,⟨y2,y3,y4,rfl⟩,hf3,g3⟩:=Ady (c:=Pj) (body:=Ii) (P:=fun k δ M=>∃ (l:Nat) (y3 y4:Option U) (lf:List NP) (fs:List U) (nn:Nat),δ = ZaP/\k=lf.length/\M[f]? = ξ (.lst fs)/\M[l]? = ξ ZdN/\l≠f/\OkP lf/\lf.length<=60/\lf.length<=nn/\fs.length+nn<=100/\fs++(stF nn lf).map (fun r=>U.str (gU " " r))=(stS m).map U.str/\Gw L M)
  (Q:=fun δ M=>(∃ y2 y3 y4,δ = [ξ (.ref n),ξ (.ref f),y2,y3,y4])/\M[f]? = ξ (.lst ((stS m).map U.str))/\Gw L M)
  (fun k δ M hP=>by
   obtain ⟨l,y3,y4,lf,fs,nn,rfl,rfl,hf,hl,hlf,okl,h60,hnn,hfs,heq,g⟩:=hP;have ht:=Sw (i:=2) (δ:=ZaP) ZF hl okl;have gn:=Gw.new M [HU.lst []];have hf':=gn.get hf;have hl':=gn.get hl;have g':=g.trans gn;generalize M++[HU.lst []]=M1 at ht hf' hl' g';cases hlf2:lf with
   | nil=>
    rw[hlf2] at ht heq;have hst:stF nn []=[]:=by cases nn <;> rfl
    rw[hst,bI,aR] at heq;exact .inl ⟨M1,ht,⟨_,_,_,rfl⟩,by rw[<- heq];exact hf',g'⟩
   | cons p0 lf0=>
    rw[<- hlf2];have hne:lf≠[]:=by rw[hlf2];simp
    have hb:(!lf.isEmpty)=true:=by rw[hlf2];rfl
    rw[hb] at ht;obtain ⟨l',z3,z4,M',e,hf2,hl2,hn2,g2⟩:=Asc (n:=n) g' Ze hf' hl' hlf okl h60 Ze y3 y4;have hlt:=Auu hne;obtain ⟨nn',rfl⟩:∃ nn',nn=nn'+1:=⟨nn - 1,Ze⟩;refine .inr ⟨M1,ht,_,M',(rs lf).length,e,hlt,l',z3,z4,rs lf,_,nn',rfl,rfl,hf2,hl2,hn2,okl.sub fun p hp=>(cH.mp hp).1,Ze,Ze,by rw[bV,kF];omega,?_,g2⟩;rw[<- heq];have hemp:lf.isEmpty=false:=by rw[hlf2];rfl
    show _=fs++(if lf.isEmpty then [] else ((srt (tp lf)).map (·.1))::stF nn' (rs lf)).map _;rw[hemp];simp[txN])
  100000 m.length [ξ (.ref n),ξ (.ref f),ξ (.ref l),ψ,ψ] L2 Ze
  ⟨l,ψ,ψ,m,[],m.length,rfl,rfl,hf2,hl2,hlf,ok,hl,aP _,by simp;omega,by unfold stS;rw[bJ];rfl,g1.trans g2⟩
 refine ⟨f,L3,fn1 (n:=4) ?_,hf3,g3,Ze⟩;show Pz [ξ (.ref n),ψ,ψ,ψ,ψ] L=_;unfold Pz;exact A8 s1 (A8 s2 (A8 e3 (B8 rfl)))
theorem Amu(hq:qs.length<=100):∀ (n f b:Nat),b - f<=n->f<=b->b<=qs.length->∀ t∈hv qs f b,Ten (t.1:Int)/\Ten (t.2.1:Int)/\Ten t.2.2
 | 0,f,b,h,_,_,t,ht=>by rw[hv,dif_pos Ze] at ht;cases ht
 | n+1,f,b,h,h1,h2,t,ht=>by
  rw[hv] at ht;by_cases hc:b - f < 2
  ·rw[dif_pos hc] at ht;cases ht
  ·rw[dif_neg hc] at ht;rcases bG.mp ht with rfl | ht
   ·have hid:∀ l:List (Int×Int),(l.map fun q=>((("" : Str),q):NP)).map (·.2)=l:=fun l=>by rw[bJ];exact jT l
    have hc:=Yp (lo:=(mid qs f ZV).map fun q=>(("",q):NP)) (up:=(mid qs ZV b).map fun q=>(("",q):NP)) (by rw[aL,Lz _ _ _ Ze];omega) (by rw[aL,Lz _ _ _ Ze];omega);rw[hid,hid] at hc;exact ⟨⟨by simp only;omega,by simp only;omega⟩,⟨by simp only;omega,by simp only;omega⟩,hc⟩
   ·rcases cT.mp ht with ht | ht
    ·exact Amu hq n f _ Ze Ze Ze t ht
    ·exact Amu hq n _ b Ze Ze Ze t ht
def t3P(t:Tri):List Po:=[(.int (t.1:Int),fig (t.1:Int)),(.int (t.2.1:Int),fig (t.2.1:Int)),(.int t.2.2,fig t.2.2)]
theorem Avf{t:Tri}(h:Ten (t.1:Int)/\Ten (t.2.1:Int)/\Ten t.2.2):t3P t≠[]/\(∀ p∈t3P t,Ru p)/\(t3P t).length<=1000/\(((t3P t).map (·.2)).map (·.length)).sum+((t3P t).map (·.2)).length<=1048576:=by
 obtain ⟨h1,h2,h3⟩:=h;refine ⟨by simp[t3P],fun p hp=>?_,by simp[t3P],?_⟩
 ·simp only[t3P,bG,cX,or_false] at hp;rcases hp with rfl | rfl | rfl
  ·exact V9 h1
  ·exact V9 h2
  ·exact V9 h3
 ·have k1:=C1 h1;have k2:=C1 h2;have k3:=C1 h3;simp only[t3P,aI,bI,fT,vQ,aM,aV];omega
theorem Ao9(t:Tri):gU " " ((t3P t).map (·.2))=triS t:=by
 rw[Alr];simp only[t3P,aI,bI,join2,Agy,triS,Ry]
def hvS(m:List NP):List Str:=(hv (sp (m.map (·.2))) 0 m.length).map triS
theorem U1(hl:m.length<=60)(L:UH):∃ v L1,K3 [.str "halves",.tup (m.map ptU)] L=ξ (v,L1)/\Gw L L1/\Ans (Cz [v] L1) L1 (hvS m):=by
 obtain ⟨L1,e1,g1⟩:=Abk m hl L;have n1:¬ (("halves" : Str) = "points"):=Zd
 have n2:¬ (("halves" : Str) = "counts"):=Zd
 have n3:¬ (("halves" : Str) = "pairs"):=Zd
 refine ⟨.tup ((hv (sp (m.map (·.2))) 0 m.length).map Kt),L1,fnN (n:=2) rfl ?_,g1,?_⟩
 ·show Lc [ξ (.str "halves"),ξ (.tup (m.map ptU))] L=_;unfold Lc;refine A8 (Cm (by rw[eqS Lb Acy rfl,decide_eq_false n1])) (A8 (Cm (by rw[eqS Lb Adg rfl,decide_eq_false n2])) (A8 (Cm (by rw[eqS Lb Agl rfl,decide_eq_false n3])) (Kq ?_)));rw[E5 (by rw[eqS Lb Lb rfl,decide_eq_true rfl])];exact B8 (Qj (i:=1) rfl e1)
 ·have hq:(sp (m.map (·.2))).length=m.length:=by rw[Ahb,aL]
  have hlen:=P8 (sp (m.map (·.2))) m.length 0 m.length Ze;have h:=Xo (L:=L1) (rows:=(hv (sp (m.map (·.2))) 0 m.length).map t3P) ⟨by rw[aL];omega,fun ps hps=>by
   obtain ⟨t,ht,rfl⟩:=bT.mp hps;exact Avf (Amu Ze m.length 0 m.length Ze Ze Ze t ht)⟩
  have e1:((hv (sp (m.map (·.2))) 0 m.length).map t3P).map (fun ps=>U.tup (ps.map (·.1)))=(hv (sp (m.map (·.2))) 0 m.length).map Kt:=by rw[bJ];rfl
  have e2:Hw ((hv (sp (m.map (·.2))) 0 m.length).map t3P)=hvS m:=by
   unfold Hw hvS;rw[bJ];exact cY fun t _=>Ao9 t
  rw[e1,e2] at h;exact h
theorem Ab7:32∉(fK "halves").toList/\("halves" : Str).length<=11:=Zd
theorem Adi:32∉(fK "stairs").toList/\("stairs" : Str).length<=11:=Zd
theorem Atm:32∉(fK "nth").toList/\("nth" : Str).length<=11:=Zd
theorem A1j:("nth " : Str) = "nth" ++ " " := by lk
theorem A0u:("nth " : Str).length=4:=Zd
theorem Ad6:Asks "halves" "halves" []:=Ot rfl Ab7.1 Ab7.2 Ab2 Za (fun _ h=>by cases h)
theorem Acv:Asks "stairs" "stairs" []:=Ot rfl Adi.1 Adi.2 Ado Za (fun _ h=>by cases h)
theorem Af9(T:Dk L d k p m)(hl:m.length<=60):Ans (Bs [.ref d,.str "halves"] L) L (hvS m):=
 Acq T Ad6 Aj9 (U1 hl)
theorem Afo(T:Dk L d k p m)(ok:OkP m)(hl:m.length<=60):Ans (Bs [.ref d,.str "stairs"] L) L (stS m):=
 Acq T Acv Aks (V5 ok hl)
def lN(c x y u v:Int):Str := "nth " ++ fig c ++ " " ++ fig x ++ " " ++ fig y ++ " " ++ fig u ++ " " ++ fig v
theorem Amb{c u v:Int}(hc:Ten c)(c0:0<=c)(hx:Ten x)(hy:Ten y)(hu:Ten u)(hv:Ten v):Asks (lN c x y u v) "nth" [(fig c,"place",.int c),(fig x,"number",.int x),(fig y,"number",.int y),(fig u,"number",.int u),(fig v,"number",.int v)]:=
 Ot (by unfold lN;rw[A1j];simp only[aI,bI,join2,Agy,Ry]) Atm.1 Atm.2 Aog Za (fun a ha=>by
  simp only[bG,cX,or_false] at ha;rcases ha with rfl | rfl | rfl | rfl | rfl
  ·exact .plc hc c0
  ·exact .num hx
  ·exact .num hy
  ·exact .num hu
  ·exact .num hv)
theorem Aos{u v:Int}(T:Dk L d k p m)(hl:m.length<=60)(hlt:c < Vj m (x,y,u,v)):∃ L1,E2 [.ref d,.str "nth",.tup [.int (c:Int),.int x,.int y,.int u,.int v]] L=ξ (.tup [.str (Afc Ei (m.filter ZE) c)],L1)/\Gw L L1:=by
 obtain ⟨L1,e,g⟩:=Anm (b:=(x,y,u,v)) hl hlt L;refine ⟨L1,fnN (n:=3) rfl ?_,g⟩;show Iu [ξ (.ref d),ξ (.str "nth"),ξ (.tup [.int (c:Int),.int x,.int y,.int u,.int v])] L=_;have m1:¬ (("nth" : Str) = "below"):=Zd
 have m2:¬ (("nth" : Str) = "above"):=Zd
 have m3:¬ (("nth" : Str) = "box"):=Zd
 have e2:(fSl Cj (Ae 2) (B3 Zi) Bw) [ξ (.ref d),ξ (.str "nth"),ξ (.tup [.int (c:Int),.int x,.int y,.int u,.int v])] L=ξ (bxU (x,y,u,v),L):=rfl;unfold Iu;refine A8 (Cm (by rw[eqS Ao5 Aqq rfl,decide_eq_false m1])) (A8 (Cm (by rw[eqS Ao5 Arb rfl,decide_eq_false m2])) (A8 (Cm (by rw[eqS Ao5 A21 rfl,decide_eq_false m3])) (B8 (A5i ?_))));rw[fOwn_eq,Bp (Sz (i:=0) T rfl) (Bp e2 (Bp (u:=.int (c:Int)) (L1:=L) rfl rfl))];simp only[aB,aM,aV,if_true,e]
theorem Amk{s:Str}(h:s.length<=100)(L:UH):Ans (Cz [.ref L.length] (L++[.lst [.tup [.str s]]])) (L++[.lst [.tup [.str s]]]) [s]:=by
 have:=Al1 (L:=L++[.lst [.tup [.str s]]]) (r:=L.length) (rows:=[[(.str s,s)]]) Za ⟨Za,fun ps hp=>by
  simp only[bG,cX,or_false] at hp;subst hp;exact ⟨Za,fun p hp=>by simp only[bG,cX,or_false] at hp;subst hp;exact Acr s,Za,by simp;omega⟩⟩
 have e:Hw [[((.str s,s):Po)]]=[s]:=by
  unfold Hw;simp only[aI,bI];rw[Alr,Agy]
 rw[e] at this;exact this
theorem Asj{u v:Int}(T:Dk L d k p m)(ok:OkP m)(hl:m.length<=60)(hx:Ten x)(hy:Ten y)(hu:Ten u)(hv:Ten v)(hlt:c < Vj m (x,y,u,v)):Ans (Bs [.ref d,.str (lN (c:Int) x y u v)] L) L [(((srt m).filter ZE).getD c C8).1]:=by
 have hb:Vj m (x,y,u,v)<=m.length:=dF _ _;have hlt':c < (m.filter ZE).length:=hlt;rw[<- Aeq,<- Ag2 hlt'];refine Aof T (Amb ⟨Ze,Ze⟩ Ze hx hy hu hv) Avg fun L T=>?_
 obtain ⟨L1,e,g⟩:=Aos T hl hlt;refine ⟨_,L1,e,g,Amk ?_ L1⟩;rw[Ag2 hlt'];have hm:(srt (m.filter ZE)).getD c C8∈srt (m.filter ZE):=by
  rw[aK,aG (by rw[Ln];exact hlt')];exact bZ _
 have h8:=(ok _ (cH.mp ((Jc _).mem_iff.mp hm)).1).1.2.1;omega
structure RS(M:UH)(s d k p n:Nat)(B:Int)(m:List NP):Prop where
 D:Seed M s B
 T:Dk M d k p m
 hn:M[n]? = ξ Zam
 ds:d≠s
 ks:k≠s
 ps:p≠s
 ns:n≠s
theorem RS.ex(S:RS M s d k p n B m)(D':Seed M' s B')(x:Ex s M M'):RS M' s d k p n B' m:=
 ⟨D',⟨x.get S.T.ob S.ds,⟨x.get S.T.kp.ob S.ks,x.get S.T.kp.pt S.ps⟩⟩,x.get S.hn S.ns,S.ds,S.ks,S.ps,S.ns⟩
theorem RS.gw(S:RS M s d k p n B m)(g:Gw M M'):RS M' s d k p n B m:=S.ex (S.D.gw g) (g.ex s)
theorem Axo{fd:FE}{a b c e:U}(h:fa δ L=ξ (a,L))(h2:fb δ L=ξ (b,L))(h3:fc δ L=ξ (c,L))(h4:fd δ L=ξ (e,L))(hf:f [a,b,c,e] L=ξ (v,L')):(A9 4 f (Ad fa (Ad fb (Ad fc (Ad fd Ah))))) δ L=ξ (v,L'):=by
 rw[fOwn_eq,Bp h (Bp h2 (Bp h3 (Bp h4 rfl)))];simp only[aB,aM,aV,if_true,hf]
theorem RS.lt(S:RS M s d k p n B m):s < M.length:=S.D.lt
theorem Agv(T:Dk M d k p m)(hi:Ae i δ M=ξ (.ref d,M))(e:Bs [.ref d,.str line] M=ξ (.ref r,L')):(B0 "Desk" "ask" 2 Bs (Ae i) (Ad (fC (.str line)) Ah)) δ M=ξ (.ref r,L'):=
 Wn T d3 hi (us:=[.str line]) (Bp rfl rfl) rfl e
theorem Awf(x y u v:Int)(p:NP):((decide (x<=p.2.1)&&decide (p.2.1<=u))&&(decide (y<=p.2.2)&&decide (p.2.2<=v)))=inB (x,y,u,v) p:=by
 unfold inB;rw[Bool.and_assoc]
theorem Amf{f g:FT}{a b:Bool}(h:f δ L=ξ (a,L))(h2:g δ L=ξ (b,L)):Nt f g δ L=ξ (a&&b,L):=by
 rw[Rh,h];cases a with
 | true=>simp[h2]
 | false=>rfl
inductive PlR(v:Option (U×UH))(M:UH)(s d k p n:Nat)(B:Int)(m:List NP):Prop
 | mk (M':UH) (e:v=ξ (.bl true,M')) (S:RS M' s d k p n B m) (z:Ex s M M')
theorem Ace:∀ l:List Str,(∀ s∈l,asc s)->asc (gX ⟨#[32]⟩ l)
 | [],_=>Qa fun c hc=>by cases hc
 | [x],h=>h x Za
 | a::b::r,h=>by
  rw[join2];exact Om (Om (h a Za) Awt) (Ace (b::r) fun s hs=>h s (aO _ hs))
theorem Api(ok:OkP m):∀ w∈stS m,asc w:=fun w hw=>by
 obtain ⟨r,hr,rfl⟩:=bT.mp hw;rw[Alr];refine Ace r fun s hs=>?_
 obtain ⟨p,hp,rfl⟩:=bT.mp ((Afa _ _ r hr).2.2 s hs);exact Ao6 (ok p hp).1
theorem Apn(m:List NP):∀ w∈hvS m,asc w:=fun w hw=>by
 obtain ⟨t,_,rfl⟩:=bT.mp hw;exact Om (Om (Om (Om (Uo _) Awt) (Uo _)) Awt) (Uo _)
theorem A0d{a b:Int}(ha:Ten a)(hb:Ten b):∃ x u,Hs [a,b]=[x,u]/\Ten x/\Ten u:=by
 have hp:=P4 [a,b];have hl:(Hs [a,b]).length=2:=hp.length_eq;have hm:∀ c∈Hs [a,b],Ten c:=fun c hc=>by
  have:=hp.mem_iff.mp hc;simp only[bG,cX,or_false] at this;rcases this with rfl | rfl
  ·exact ha
  ·exact hb
 generalize Hs [a,b]=l at hl hm;match l,hl with
 | [x,u],_=>exact ⟨x,u,rfl,hm x Za,hm u Za⟩
inductive EndR(v:Option (U×UH))(M:UH)(s:Nat)(B:Int):Prop
 | mk (r:Nat) (x u:Int) (M':UH) (e:v=ξ (.ref r,M')) (h:M'[r]? = ξ (.lst [.int x,.int u])) (tx:Ten x) (tu:Ten u) (D:Seed M' s B) (z:Ex s M M') (rs:r≠s)
theorem Ah8(D:Seed M s B)(hB:B<=100000)(kk:kd=0\/kd=1\/kd=2)(h0:∀ M,Ae 0 δ M=ξ (.ref s,M))(h1:∀ M,Ae 1 δ M=ξ (.int kd,M)) :
  EndR ((Ay Ld (Ad (Cg (Ad (A9 2 C5 Zo) (Ad (A9 2 C5 Zo) Ah))) Ah)) δ M) M s (B+6):=by
 obtain ⟨a,M1,e1,ta,D1,x1⟩:=Ir D Ze kk;obtain ⟨b,M2,e2,tb,D2,x2⟩:=Ir D1 Ze kk;obtain ⟨x,u,hs,tx,tu⟩:=A0d ta tb;have e3:=Aka (Fy (h0 M) (h1 M) e1) (Fy (h0 M1) (h1 M1) e2);have a3:(M2++[HU.lst [.int a,.int b]])[M2.length]? = ξ (.lst [.int a,.int b]):=Za
 have g3:=Gw.new M2 [HU.lst [.int a,.int b]];generalize M2.length=r at e3 a3;generalize M2++[HU.lst [.int a,.int b]]=M3 at e3 a3 g3;have e4:Ld [.ref r] M3=ξ (.ref M3.length,M3++[.lst [.int x,.int u]]):=by
  show ((Aw M3 r).bind _)=_;rw[Am a3];show (if ([a,b]:List Int).length < 64 then ξ (U.ref M3.length,M3++[HU.lst ((Hs [a,b]).map U.int)]) else ψ)=_;rw[hs];rfl
 have g4:=Gw.new M3 [HU.lst [.int x,.int u]];have D3:=D2.gw g3;exact ⟨M3.length,x,u,_,Ea e3 e4,Za,tx,tu,(D3.gw g4).mono Ze,(x1.trans x2).trans ((g3.trans g4).ex s),by have:=D3.lt;omega⟩
inductive EndF(v:Option (Fl×UH))(δ:UE)(M:UH)(s:Nat)(B:Int):Prop
 | mk (r:Nat) (x u:Int) (M':UH) (e:v=ξ (.nx (δ.set 5 (ξ (.ref r))),M')) (h:M'[r]? = ξ (.lst [.int x,.int u])) (tx:Ten x) (tu:Ten u) (D:Seed M' s B) (z:Ex s M M') (rs:r≠s)
theorem Aqf{u:Int}(D:Seed M s B)(hB:B<=100000)(h0:∀ M,Ae 0 δ M=ξ (.ref s,M))(hd:δ.set 5 ZdA = δ)(h:M[r]? = ξ (.lst [.int x,.int u]))(tx:Ten x)(tu:Ten u)(rs:r≠s) :
  EndF ((C6 (Av (f2 B9 ZbC Zh)) (Bh (Cg (Ad (f2 Az (Rw (f2 Hx Z1 Z1)) Zi) (Ad (f2 Fp (f2 Hx Z1 Z1) Zi) Ah))) (gN 5)) B2) δ M) δ M s (B+1):=by
 obtain ⟨w,M1,e1,_,_,D1,x1⟩:=Dt (many:=2) D Ze Zb Zb;have t1:(Av (f2 B9 ZbC Zh)) δ M=ξ (w == 0,M1):=B1 (Ax (Fy (h0 M) rfl e1) rfl (Lg _ _ _));cases hw:w == 0 with
 | false=>
  rw[hw] at t1;exact ⟨r,x,u,M1,by rw[hd];exact Cm t1,x1.get h rs,tx,tu,D1,x1,rs⟩
 | true=>
  rw[hw] at t1;have p10:Y3 10 10=true:=rfl;have hp:(f2 Hx Z1 Z1) δ M1=ξ (.int 10000000000,M1):=Ax rfl rfl (by rw[Afu,if_pos p10];rfl);have hn:(Rw (f2 Hx Z1 Z1)) δ M1=ξ (.int (-10000000000),M1):=by rw[Ap7,hp];rfl
  have e2:=Aka (Ax hn (fb:=fC (.int 1)) rfl (E6 _ _ _)) (Ax hp (fb:=fC (.int 1)) rfl (semSub_int _ _ _));have g2:=Gw.new M1 [HU.lst [.int (-10000000000+1),.int (10000000000 - 1)]];refine ⟨M1.length,-9999999999,9999999999,_,by rw[E5 t1];exact Eg (i:=5) e2,Za,⟨Ze,Ze⟩,⟨Ze,Ze⟩,D1.gw g2,x1.trans (g2.ex s),by have:=D1.lt;omega⟩
theorem A4q{a b c d:U}{l:Nat}(e:fe δ L=ξ (.tup [a,b,c,d],L')):(Bh fe (MR.gTup 4 (MR.gCons (gN i) (MR.gCons (gN j) (MR.gCons (gN k) (MR.gCons (gN l) MR.gNil)))))) δ L=ξ (.nx ((((δ.set i (ξ a)).set j (ξ b)).set k (ξ c)).set l (ξ d)),L'):=by
 rw[Hg,e];rfl
theorem A5j{fd:FE}{w x:U}(h:fa δ L=ξ (u,L))(h2:fb δ L=ξ (v,L))(h3:fc δ L=ξ (w,L))(h4:fd δ L=ξ (x,L)):(Gi (Ad fa (Ad fb (Ad fc (Ad fd Ah))))) δ L=ξ (.tup [u,v,w,x],L):=by
 rw[fTup_eq,Bp h (Bp h2 (Bp h3 (Bp h4 rfl)))];simp only[aB];rw[if_pos (small_of (by show 4<=16777216;decide))]
theorem Amd{a b c:Int}(ha:fa δ L=ξ (.int a,L))(hb:fb δ L=ξ (.int b,L))(hc:fc δ L=ξ (.int c,L)):Fe Dx Nb fa fb fc δ L=ξ (.bl (decide (a<=b)&&decide (b < c)),L):=by
 unfold Fe;simp only[ha,hb,hc,aB,semLe_int,semLt_int];cases decide (a<=b) <;> rfl
theorem Anf{c u v:Int}(hc:Ten c)(hx:Ten x)(hy:Ten y)(hu:Ten u)(hv:Ten v)(h1:Ae 12 δ L=ξ (.int c,L))(h2:Ae 7 δ L=ξ (.int x,L))(h3:Ae 8 δ L=ξ (.int y,L))(h4:Ae 9 δ L=ξ (.int u,L))(h5:Ae 10 δ L=ξ (.int v,L)) :
  (Jr [(fC (.str "nth ")),(Hv (Ae 12)),(fC (.str " ")),(Hv (Ae 7)),(fC (.str " ")),(Hv (Ae 8)),(fC (.str " ")),(Hv (Ae 9)),(fC (.str " ")),(Hv (Ae 10))]) δ L=ξ (.str (lN c x y u v),L):=by
 have k1:=C1 hc;have k2:=C1 hx;have k3:=C1 hy;have k4:=C1 hu;have k5:=C1 hv;have k6:=Aaz;have k7:=A0u;show goJ jQ _ δ L=_;rw[Em (x := "nth ") rfl (by rw[e_app];omega),e_app,Em (Hk hc h1) (by rw[lapp];omega),Em (x := " ") rfl (by simp only[lapp];omega),Em (Hk hx h2) (by simp only[lapp];omega),Em (x := " ") rfl (by simp only[lapp];omega),Em (Hk hy h3) (by simp only[lapp];omega),Em (x := " ") rfl (by simp only[lapp];omega),Em (Hk hu h4) (by simp only[lapp];omega),Em (x := " ") rfl (by simp only[lapp];omega),Em (Hk hv h5) (by simp only[lapp];omega)];rfl
abbrev rE(s d n ro re rt rh:Nat)(kd x y u v:Int)(e12 e13:Option U):UE:=[ξ (.ref s),ξ (.int kd),ξ (.ref d),ξ (.ref n),ξ (.ref ro),ξ (.ref re),ξ (.ref rt),ξ (.int x),ξ (.int y),ξ (.int u),ξ (.int v),ξ (.ref rh),e12,e13]
theorem Amc{M:UH}{s d k p n ro re rt rh:Nat}{B kd x y u v c:Int}{m:List NP}{e13:Option U}(S:RS M s d k p n B m)(ok:OkP m)(hl:m.length<=60)(tx:Ten x)(ty:Ten y)(tu:Ten u)(tv:Ten v)(tc:Ten c)(hh:M[rh]? = ξ (.lst Zbd)) :
  ∃ y13 M',Ju (rE s d n ro re rt rh kd x y u v ZdB e13) M=ξ (.nx (rE s d n ro re rt rh kd x y u v ZdB y13),M')/\Gw M M':=by
 have s1:=Eg (i:=13) (δ:=rE s d n ro re rt rh kd x y u v ZdB e13) (Anf (L:=M) tc tx ty tu tv rfl rfl rfl rfl rfl);have hlen:=Dz hh;rw[aL] at hlen;have hcb:((srt m).filter ZE).length=Vj m (x,y,u,v):=((Jc m).filter _).length_eq;rw[hcb] at hlen;have t1:(Av (Fe Dx Nb Zh (Ae 12) (Ay Ap ZaU))) (rE s d n ro re rt rh kd x y u v ZdB (ξ (.str (lN c x y u v)))) M=ξ (decide (0<=c)&&decide (c < (Vj m (x,y,u,v):Nat)),M):=B1 (Amd rfl rfl (Ea (fa:=Ae 11) rfl hlen));unfold Ju;rw[Bf s1];show ∃ y13 M',(C6 _ _ _) (rE s d n ro re rt rh kd x y u v ZdB (ξ (.str (lN c x y u v)))) M=_/\_;by_cases hc:0<=c/\c < (Vj m (x,y,u,v):Nat)
 ·obtain ⟨h0,h1⟩:=hc;rw[decide_eq_true h0,decide_eq_true h1] at t1;obtain ⟨i,rfl⟩:∃ i:Nat,c=(i:Int):=⟨c.toNat,Ze⟩;have hi:i < Vj m (x,y,u,v):=Ze
  obtain ⟨r,M1,e1,a1,g1,_⟩:=Asj S.T ok hl tx ty tu tv hi;have hi':i < ((srt m).filter ZE).length:=Ze
  have hix:Al (.ref rh) (.int (i:Int)) M1=ξ (ptU (((srt m).filter ZE).getD i C8),M1):=by
   refine F0 (g1.get hh) (Jb ?_);rw[bD,aG hi',aK,aG hi'];rfl
  have hmem:((srt m).filter ZE).getD i C8∈m:=by
   have:((srt m).filter ZE).getD i C8∈(srt m).filter ZE:=by
    rw[aK,aG hi'];exact bZ _
   exact (Jc m).mem_iff.mp (cH.mp this).1
  have hasc:=Ao6 (ok _ hmem).1;generalize ((srt m).filter ZE).getD i C8=q at a1 hix hasc;have e2:=Aft (Ax (Ax (fa:=Ae 11) (fb:=Ae 12) (δ:=rE s d n ro re rt rh kd x y u v (ξ (.int (i:Int))) (ξ (.str (lN (i:Int) x y u v)))) (L:=M1) (L1:=M1) rfl rfl hix) (fb:=fC (.int 0)) rfl (show Al (ptU q) (.int 0) M1=ξ (.str q.1,M1) from rfl));have g2:=Gw.new M1 [HU.lst [U.str q.1]];have hm:[U.str q.1]=[q.1].map U.str:=rfl;refine ⟨_,M1++[.lst [.str q.1]],Cm (Np t1 (B1 (Ax (Wn S.T d3 rfl (us:=[.str (lN (i:Int) x y u v)]) (Bp rfl rfl) rfl e1) e2 ?_))),g1.trans g2⟩;exact Abr (g2.get a1) (by rw[<- hm];simp) (fun w hw=>by rw[cR.mp hw];exact hasc)
 ·have hb:(decide (0<=c)&&decide (c < (Vj m (x,y,u,v):Nat)))=false:=by
   by_cases h0:0<=c
   ·have h1:¬ c < (Vj m (x,y,u,v):Nat):=fun h=>hc ⟨h0,h⟩
    rw[decide_eq_false h1,vA]
   ·rw[decide_eq_false h0,pC]
  rw[hb] at t1;exact ⟨_,M,Cm (Xp t1),Gw.refl M⟩
theorem Ad9(S:RS M s d k p n B m)(hB:B<=50000)(ok:OkP m)(hl:m.length<=60)(kk:kd=0\/kd=1\/kd=2):PlR (Ip [.ref s,.int kd,.ref d,.ref n] M) M s d k p n (B+20) m:=by
 obtain ⟨ro,M1,e1,h1,g1,l1⟩:=Tq S.hn hl (sg:=1) (.inl rfl) (fun _ _ _ _=>.inl rfl);have S1:=S.gw g1;have hro:ro≠s:=by have:=S.lt;omega
 have s1:=Eg (i:=4) (δ:=[ξ (.ref s),ξ (.int kd),ξ (.ref d),ξ (.ref n),ψ,ψ,ψ,ψ,ψ,ψ,ψ,ψ,ψ,ψ]) (Fy (fa:=Ae 3) (fb:=fC (.int 1)) rfl rfl e1);obtain ⟨r2,M2,e2,h2,g2,_⟩:=Af9 S1.T hl;have S2:=S1.gw g2;obtain ⟨q3,M3,e3,h3,g3,_⟩:=Aer (m:=srt m) (by rw[Ln];omega) 6 0 (srt m).length ro M2 Ze Ze (by rw[Ln];omega) (g2.get h1);have hhv:(hv ((srt m).map (·.2)) 0 (srt m).length).map triS=hvS m:=by
  unfold hvS;rw[Af6,Ln]
 rw[hhv] at h3;have S3:=S2.gw g3;have hlen:=Dz (g2.get h1);rw[aL] at hlen;have e3':Mi [.ref ro,.int 0,.int ((srt m).length:Nat)] M2=ξ (.ref q3,M3):=e3;obtain ⟨r4,M4,e4,h4,g4,_⟩:=Afo S3.T ok hl;have S4:=S3.gw g4;obtain ⟨q5,M5,e5,h5,g5,_⟩:=Aee S4.hn ok hl;have S5:=S4.gw g5;have c1:(fOr (Av (f2 Dd (B0 "Desk" "ask" 2 Bs (Ae 2) (Ad (fC (.str "halves")) Ah)) (A9 3 Mi (Ad (Ae 4) (Ad Zh (Ad (Ay Ap Zcz) Ah)))))) (Av (f2 Dd (B0 "Desk" "ask" 2 Bs (Ae 2) (Ad (fC (.str "stairs")) Ah)) (A9 1 Li ZB)))) [ξ (.ref s),ξ (.int kd),ξ (.ref d),ξ (.ref n),ξ (.ref ro),ψ,ψ,ψ,ψ,ψ,ψ,ψ,ψ,ψ] M1=ξ (false,M5):=
  orF (B1 (Ax (Agv S1.T rfl e2) (A3e (fa:=Ae 4) (fb:=fC (.int 0)) rfl rfl (Ea (fa:=Ae 4) rfl hlen) e3') (Abr (g3.get h2) h3 (Apn m)))) (B1 (Ax (Agv S3.T rfl e4) (Qj (i:=3) rfl e5) (Abr (g5.get h4) h5 (Api ok))))
 have g15:=((g2.trans g3).trans g4).trans g5;have h15:=g15.get h1;have z5:=(g1.trans g15).ex s;clear e2 e3 e3' e4 e5 h2 h3 h4 h5 hlen hhv g2 g3 g4 g5 S2 S3 S4 g15;obtain ⟨r6,x6,u6,M6,e6,h6,tx6,tu6,D6,z6,rs6⟩:=Ah8 (kd:=kd) (δ:=[ξ (.ref s),ξ (.int kd),ξ (.ref d),ξ (.ref n),ξ (.ref ro),ψ,ψ,ψ,ψ,ψ,ψ,ψ,ψ,ψ]) S5.D Ze kk ZF ZF;obtain ⟨rt,y,v,M7,e7,h7,ty,tv,D7,z7,rs7⟩:=Ah8 (kd:=kd) (δ:=[ξ (.ref s),ξ (.int kd),ξ (.ref d),ξ (.ref n),ξ (.ref ro),ξ (.ref r6),ψ,ψ,ψ,ψ,ψ,ψ,ψ,ψ]) D6 Ze kk ZF ZF;have s6:=Eg (i:=5) e6;have s7:=Eg (i:=6) e7;obtain ⟨re,x,u,M8,e8,h8,tx,tu,D8,z8,rs8⟩:=Aqf (δ:=[ξ (.ref s),ξ (.int kd),ξ (.ref d),ξ (.ref n),ξ (.ref ro),ξ (.ref r6),ξ (.ref rt),ψ,ψ,ψ,ψ,ψ,ψ,ψ]) D7 Ze ZF rfl (z7.get h6 rs6) tx6 tu6 rs6;have h78:=z8.get h7 rs7;have z58:=(z6.trans z7).trans z8;have ho8:=z58.get h15 hro;have z08:=z5.trans z58;have S8:RS M8 s d k p n (B+20) m:=(S.ex D8 z08).ex (D8.mono Ze) (Ex.refl s M8);have i5:∀ (j:Nat) (w:Int),L2.atI [U.int x,.int u] (j:Int)=ξ (.int w)->(f2 Al (Ae 5) (fC (.int (j:Int)))) [ξ (.ref s),ξ (.int kd),ξ (.ref d),ξ (.ref n),ξ (.ref ro),ξ (.ref re),ξ (.ref rt),ψ,ψ,ψ,ψ,ψ,ψ,ψ] M8=ξ (.int w,M8):=fun j w h=>Ax rfl rfl (F0 h8 h)
 have i6:∀ (j:Nat) (w:Int),L2.atI [U.int y,.int v] (j:Int)=ξ (.int w)->(f2 Al (Ae 6) (fC (.int (j:Int)))) [ξ (.ref s),ξ (.int kd),ξ (.ref d),ξ (.ref n),ξ (.ref ro),ξ (.ref re),ξ (.ref rt),ψ,ψ,ψ,ψ,ψ,ψ,ψ] M8=ξ (.int w,M8):=fun j w h=>Ax rfl rfl (F0 h78 h)
 have s9:=A4q (i:=7) (j:=8) (k:=9) (l:=10) (A5j (i5 0 x rfl) (i6 0 y rfl) (i5 1 u rfl) (i6 1 v rfl));have hsq:=Am ho8;obtain ⟨z,ec⟩:=Bu (ix:=ZdZ) (fi:=Br (Ae 4)) (g:=gN 0) (tt:=ξ Qz) (fe:=Qv) (δ:=[ξ (.ref s),ξ (.int kd),ξ (.ref d),ξ (.ref n),ξ (.ref ro),ξ (.ref re),ξ (.ref rt),ξ (.int x),ξ (.int y),ξ (.int u),ξ (.int v),ψ,ψ,ψ]) (L:=M8) (L0:=M8) (it:=.ref ro) (srt m) ptU ZE ptU (fun δ=>∃ a,δ = [a,ξ (.int x),ξ (.int u),ξ (.int y),ξ (.int v)])
  (by rw[Df];show (Gm (.ref ro) M8).map _=_;rw[Ck hsq];rfl) (by rw[D9 hsq];simp) (by rw[Ln];omega) ⟨ψ,rfl⟩ ZaD
  (fun q δ x' _ hδ=>by
   obtain ⟨a,rfl⟩:=hδ;refine ⟨[ξ (ptU q),ξ (.int x),ξ (.int u),ξ (.int y),ξ (.int v)],rfl,⟨_,rfl⟩,[],?_,fun _=>⟨[],by rw[aR,aR];rfl⟩⟩;rw[aR,<- Awf];exact Amf (B1 (N5 rfl (Ax rfl rfl (ix1 q _)) rfl)) (B1 (N5 rfl (Ax rfl rfl (ix2 q _)) rfl)))
 have g9:Gw M8 (M8++z++[.lst Zbd]):=⟨z++[_],by rw[bA]⟩;have a9:(M8++z++[HU.lst Zbd])[(M8++z).length]? = ξ (.lst Zbd):=Za
 generalize (M8++z).length=rh at ec a9;generalize M8++z++[HU.lst Zbd]=M9 at ec g9 a9;have s10:=Eg (i:=11) ec;have S9:=S8.gw g9;have hlh:=Dz a9;rw[aL] at hlh;have hle:((srt m).filter ZE).length<=60:=by
  have:=dF ZE (srt m);rw[Ln] at this;omega
 generalize hN:((srt m).filter ZE).length=N at hlh hle;have hfl:(Ay Ap ZaU) (rE s d n ro re rt rh kd x y u v ψ ψ) M9=ξ (.int (N:Int),M9):=Ea (fa:=Ae 11) rfl hlh;have e11:=A0f (fa:=fC (.int 0)) (u:=.int 0) (L1:=M9) rfl (Ax hfl (fb:=fC (.int 2)) rfl (show He (.int (N:Int)) (.int 2) M9=ξ (.int ZdC,M9) by rw[semDiv_int];rfl)) (Ax hfl (fb:=fC (.int 1)) rfl (semSub_int _ _ _));have g11:=Gw.new M9 [HU.lst [.int 0,.int ZdC,.int ((N:Int) - 1)]];have a11:(M9++[HU.lst [.int 0,.int ZdC,.int ((N:Int) - 1)]])[M9.length]? = ξ (.lst [.int 0,.int ZdC,.int ((N:Int) - 1)]):=Za
 generalize M9.length=rl at e11 a11;generalize M9++[HU.lst [.int 0,.int ZdC,.int ((N:Int) - 1)]]=M11 at e11 g11 a11;have hi:(Br (Cg (Ad Zh (Ad (f2 He (Ay Ap ZaU) Zp) (Ad (f2 Fp (Ay Ap ZaU) Zi) Ah))))) (rE s d n ro re rt rh kd x y u v ψ ψ) M9=ξ (.ref rl,M11):=by
  rw[Df,e11];show (Gm (.ref rl) M11).map _=_;rw[Ck (Am a11)];rfl
 have h9:=g11.get a9;have S11:=S9.gw g11;obtain ⟨δ',M12,e12,P⟩:=Qm (us:=[U.int 0,.int ZdC,.int ((N:Int) - 1)]) (n:=rl) (body:=Ju) (g:=gN 12) (fun j δ' K=>(∃ y12 y13,δ'=rE s d n ro re rt rh kd x y u v y12 y13)/\Gw M11 K) hi
  ⟨⟨_,_,rfl⟩,Gw.refl M11⟩ (fun j δ K hP=>Am (hP.2.get a11))
  (fun j w δ K hw hP=>by
   obtain ⟨⟨y12,y13,rfl⟩,g⟩:=hP;have hwm:=dN hw;obtain ⟨c,rfl,tc⟩:∃ c:Int,w = .int c/\Ten c:=by
    simp only[bG,cX,or_false] at hwm;rcases hwm with rfl | rfl | rfl
    ·exact ⟨_,rfl,Ze,Ze⟩
    ·exact ⟨_,rfl,Ze,Ze⟩
    ·exact ⟨_,rfl,Ze,Ze⟩
   obtain ⟨z13,K',e,g'⟩:=Amc (ro:=ro) (re:=re) (rt:=rt) (kd:=kd) (e13:=y13) (S11.gw g) ok hl tx ty tu tv tc (g.get h9);exact ⟨rE s d n ro re rt rh kd x y u v ZdB y13,K,rfl,_,K',.inl e,⟨_,_,rfl⟩,g.trans g'⟩)
 obtain ⟨⟨y12,y13,rfl⟩,g12⟩:=P;refine ⟨M12,fnN (n:=14) rfl ?_,S11.gw g12,z08.trans (((g9.trans g11).trans g12).ex s)⟩;show Sr [ξ (.ref s),ξ (.int kd),ξ (.ref d),ξ (.ref n),ψ,ψ,ψ,ψ,ψ,ψ,ψ,ψ,ψ,ψ] M=_;unfold Sr;exact A8 s1 (A8 (Cm c1) (A8 s6 (A8 s7 (A8 e8 (A8 s9 (A8 s10 (A8 e12 (B8 rfl))))))))
theorem Alc{many:Nat}{ns:List Int}(h:L[i]? = ξ (.ro ZbE))(hl:ns.length<=63):NewL (Oi [.ref i,.int many] L) L ((ns.take many++[(ns.length:Int)]).map U.int):=by
 have hsq:Aw L i=ξ ZbE:=by unfold Aw;rw[h]
 have e1:(fSl Cj (Ae 0) Bw (B3 (Ae 1))) [ξ (.ref i),ξ (.int many)] L=ξ (.ref L.length,L++[.lst Zan]):=by
  rw[fSl_eq];show mQ _ (Aw L i)=_;rw[hsq,aE,cutU_take,kY]
 have g1:=Gw.new L [HU.lst Zan];have a1:(L++[HU.lst Zan])[L.length]? = ξ (.lst Zan):=Za
 have hlen:Ap [.ref i] (L++[HU.lst Zan])=ξ (.int (ns.length:Nat),L++[HU.lst Zan]):=by
  have:=g1.seq hsq;generalize L++[HU.lst Zan]=L1 at this;simp[Ap,lenU,this]
 generalize L++[HU.lst Zan]=L1 at e1 g1 a1 hlen;have e2:(Cg ZcT) [ξ (.ref i),ξ (.int many)] L1=ξ (.ref L1.length,L1++[.lst [.int (ns.length:Nat)]]):=Aft (Ea (fa:=Ae 0) rfl hlen);have g2:=Gw.new L1 [HU.lst [.int (ns.length:Nat)]];have ea:=Qn (g2.get a1) (b:=L1.length) (ys:=[.int (ns.length:Nat)]) Za (by simp;omega);have hm:(ns.take many).map U.int++[U.int (ns.length:Nat)]=(ns.take many++[(ns.length:Int)]).map U.int:=Za
 rw[hm] at ea;refine ⟨_,_,fnN (n:=2) rfl (B8 (Ax e1 e2 ea)),Za,(g1.trans g2).trans Zag,?_⟩;have:=g1.le;simp only[bV];omega
theorem Aea{a:Nat}(D:Seed M s B)(h:M[a]? = ξ (.lst ZbM)):a≠s:=fun q=>by
 obtain ⟨x,b,c,e,hd,_⟩:=D.ex;rw[q,hd] at h;cases out with
 | nil=>cases h
 | cons w out=>cases h
theorem Adn{a:Nat}(D:Seed M s B)(h:M[a]? = ξ Zam):a≠s:=fun q=>by
 obtain ⟨x,b,c,e,hd,_⟩:=D.ex;rw[q,hd] at h;cases m with
 | nil=>cases h
 | cons w m=>cases h
theorem Amw{a:Nat}{kvs:List (Key×U)}(D:Seed M s B)(h:M[a]? = ξ (.dic kvs)):a≠s:=fun q=>by
 obtain ⟨x,b,c,e,hd,_⟩:=D.ex;rw[q,hd] at h;cases h
theorem Ax6(e:fe δ L=ξ (.ref r,L'))(h:L'[r]? = ξ (.lst [u,v])):(Bh fe (U2 2 (MR.gCons (gN i) (MR.gCons (gN j) MR.gNil)))) δ L=ξ (.nx ((δ.set i (ξ u)).set j (ξ v)),L'):=by
 rw[Hg,e,aB];show mQ _ ((Aw L' r).bind _)=_;rw[Am h];rfl
theorem A2m{w:U}(e:fe δ L=ξ (.ref r,L'))(h:L'[r]? = ξ (.lst [u,v,w])):(Bh fe (U2 3 (MR.gCons (gN i) (MR.gCons (gN j) (MR.gCons (gN k) MR.gNil))))) δ L=ξ (.nx (((δ.set i (ξ u)).set j (ξ v)).set k (ξ w)),L'):=by
 rw[Hg,e,aB];show mQ _ ((Aw L' r).bind _)=_;rw[Am h];rfl
structure QS(M0 M:UH)(s d k p n rp:Nat)(B:Int)(pl:List Str)(m:List NP):Prop where
 S:RS M s d k p n B m
 hp:M[rp]? = ξ Z6
 ok:OkP m
 nd:(m.map (·.1)).Nodup
 l:m.length<=60
 g:Gw M0 M
 ls:M0.length<=s
 lp:M0.length<=p
theorem QS.rs{M0:UH}(Q:QS M0 M s d k p n rp B pl m)(S':RS M' s d k p n B' m)(z:Ex s M M'):QS M0 M' s d k p n rp B' pl m:=
 ⟨S',z.get Q.hp (Aea Q.S.D Q.hp),Q.ok,Q.nd,Q.l,Ad0 Q.g z Q.ls,Q.ls,Q.lp⟩
abbrev vE(s rp n d:Nat)(kd cell:Int)(e7 e8:Option U):UE:=[ξ (.ref 0),ξ (.int cell),ξ (.ref s),ξ (.ref rp),ξ (.int kd),ξ (.ref n),ξ (.ref d),e7,e8]
theorem Akw{M0 M:UH}{s d k p n rp:Nat}{B kd cell:Int}{pl:List Str}{m:List NP}{e7 e8:Option U}(Q:QS M0 M s d k p n rp B pl m)(hB:B<=50000)(lp:pl.length=8)(okl:∀ x∈pl,Pn x)(ndl:pl.Nodup)(kk:kd=0\/kd=1\/kd=2) :
  ∃ (n':Nat) (m':List NP) (y8:Option U) (M':UH),Ur ZdG M=ξ (.nx (vE s rp n' d kd cell e7 y8),M')/\QS M0 M' s d k p n' rp (B+20) pl m':=by
 obtain ⟨r5,n5,line,m5,M5,e5,h5,hn5,dd,D5,z5,l5⟩:=Arz Q.S.D Ze Q.hp Q.S.hn (Aea Q.S.D Q.hp) Q.S.ns lp okl ndl Q.ok Q.l kk;have S5:=Q.S.ex D5 z5;have Q5:=Q.rs S5 z5;have s5:=Ax6 (i:=8) (j:=5) (δ:=vE s rp n d kd cell e7 e8) (Axo (fa:=Ae 2) (fb:=Ae 3) (fc:=Ae 4) (fd:=Ae 5) rfl rfl rfl rfl e5) h5;obtain ⟨r6,M6,e6,h6,T6,x6,l6⟩:=dd.asked S5.T Q.ok Q.nd Q.l;obtain ⟨o1,o2,o3⟩:=dd.ok Q.ok Q.nd Q.l;have ne:∀ {i:Nat} {us:List U},M5[i]? = ξ (.lst us)->M6[i]? = ξ (.lst us):=fun e=>x6.get e (fun q=>by have h1:=S5.T.kp.pt;rw[<- q,e] at h1;cases h1)
 have D6:Seed M6 s (B+20):=by
  obtain ⟨a,b,c,e,hd,hrest⟩:=D5.ex;exact ⟨a,b,c,e,x6.get hd (fun q=>(Amw D5 S5.T.kp.pt) q.symm),hrest⟩
 refine ⟨n5,m5,ξ (.str line),M6,?_,⟨⟨D6,T6,ne hn5,Q.S.ds,Q.S.ks,Q.S.ps,Adn D5 hn5⟩,ne Q5.hp,o1,o2,o3,Ad0 Q5.g x6 Q.lp,Q.ls,Q.lp⟩⟩;unfold Ur;exact A8 s5 (L9 (Wn S5.T d3 rfl (us:=[.str line]) (Bp rfl rfl) rfl e6))
theorem Ar8{cell:Int}{e2 e3 e4 e5 e6 e7:Option U}:∃ (s n d rp:Nat) (kd:Int) (y7 y8:Option U) (M':UH),Uu [ξ (.ref 0),ξ (.int cell),e2,e3,e4,e5,e6,e7,e8] M=ξ (.nx (vE s rp n d kd cell y7 y8),M')/\Gw M M':=by
 obtain ⟨M1,q1,D1,g1⟩:=Apc cell M;have hsl:M.length<=M.length:=aP _;generalize hs:M.length=s at q1 D1 hsl;have hls:M.length<=s:=Ze
 have s1:=Eg (i:=2) (δ:=[ξ (.ref 0),ξ (.int cell),e2,e3,e4,e5,e6,e7,e8]) (Qj (i:=1) rfl q1);have q3:(Cg (Ad ZbS (Ad ZbY Ah))) [ξ (.ref 0),ξ (.int cell),ξ (.ref s),e3,e4,e5,e6,e7,e8] M1=ξ (.ref M1.length,M1++[.lst [.int 8,.int 60]]):=Aka rfl rfl;have g3:=Gw.new M1 [HU.lst [.int 8,.int 60]];have a3:(M1++[HU.lst [.int 8,.int 60]])[M1.length]? = ξ (.lst [.int 8,.int 60]):=Za
 have hs3:M1.length≠s:=by have:=D1.lt;omega
 generalize M1.length=r3 at q3 a3 hs3;generalize M1++[HU.lst [.int 8,.int 60]]=M3 at q3 g3 a3;obtain ⟨w,M4,q4,w0,w1,D4,z4⟩:=Dt (many:=2) (D1.gw g3) Ze Zb Zb;have hm:∃ most:Int,L2.atI [U.int 8,.int 60] w=ξ (.int most)/\(most=8\/most=60):=by
  have:w=0\/w=1:=Ze
  rcases this with rfl | rfl
  ·exact ⟨8,rfl,.inl rfl⟩
  ·exact ⟨60,rfl,.inr rfl⟩
 obtain ⟨most,hm,hmm⟩:=hm;obtain ⟨rb,rp,n,kd,M5,pl,m,q5,hb5,hp5,hn5,lp,ndl,okl,kk,okm,ndm,lm,D5,z5,l5a,l5b⟩:=Ama D4 Ze hmm;have s5:=A2m (i:=3) (j:=4) (k:=5) (δ:=[ξ (.ref 0),ξ (.int cell),ξ (.ref s),e3,e4,e5,e6,e7,e8]) (Fy (fa:=Ae 2) rfl (Ax q3 (Fy (fa:=Ae 2) (fb:=fC (.int 2)) rfl rfl q4) (F0 (z4.get a3 hs3) hm)) q5) hb5;have g5:Gw M M5:=Ad0 (g1.trans g3) (z4.trans z5) hls;obtain ⟨d,k,p,M6,q6,T6,g6,k1,k2,k3⟩:=Aqb hn5 okm ndm lm;have s6:=Eg (i:=6) (δ:=[ξ (.ref 0),ξ (.int cell),ξ (.ref s),ξ (.ref rp),ξ (.int kd),ξ (.ref n),e6,e7,e8]) (Qj (i:=5) rfl q6);have hl5:=g5.le;have D6:Seed M6 s 2000:=(D5.gw g6).mono Ze;have S6:RS M6 s d k p n 2000 m:=⟨D6,T6,g6.get hn5,by have:=D5.lt;omega,by have:=D5.lt;omega,by have:=D5.lt;omega,Adn D5 hn5⟩;have Q6:QS M M6 s d k p n rp 2000 pl m:=⟨S6,g6.get hp5,okm,ndm,lm,g5.trans g6,hls,Ze⟩;obtain ⟨M7,q7,S7,z7⟩:=Ad9 S6 Ze okm lm kk;have Q7:=Q6.rs S7 z7;have c7:(Wg Zac) ZdG M6=ξ (false,M7):=Rk (Axo rfl rfl rfl rfl q7);have hi:Eh (Ad Zp Ah) ZdG M7=ξ (.seq (C4 0 2),M7):=Og (n:=2) rfl Ze;obtain ⟨δ',M8,q8,P⟩:=Aaq (us:=C4 0 2) (body:=Ur) (g:=gN 7) (fun j δ' N=>∃ (n:Nat) (m:List NP) (y7 y8:Option U),δ'=vE s rp n d kd cell y7 y8/\QS M N s d k p n rp (2020+20 * j) pl m) hi
  ⟨n,m,_,_,rfl,Q7.rs (S7.ex (S7.D.mono Ze) (Ex.refl s M7)) (Ex.refl s M7)⟩
  (fun j u δ N hu hP=>by
   obtain ⟨n,m,y7,y8,rfl,QN⟩:=hP;obtain ⟨hj,rfl⟩:=Jn hu;obtain ⟨n',m',y8',N',e,Q'⟩:=Akw (cell:=cell) (e7:=ξ (.int (0+(j:Int)))) (e8:=y8) QN Ze lp okl ndl kk;exact ⟨vE s rp n d kd cell (ξ (.int (0+(j:Int)))) y8,N,rfl,_,N',.inl e,n',m',_,_,rfl,Q'.rs (Q'.S.ex (Q'.S.D.mono (by push_cast;omega)) (Ex.refl s N')) (Ex.refl s N')⟩)
 obtain ⟨n8,m8,y7,y8,rfl,Q8⟩:=P;rw[Jf] at Q8;obtain ⟨M9,q9,S9,z9⟩:=Ad9 Q8.S Ze Q8.ok Q8.l kk;have c9:(Wg Zac) (vE s rp n8 d kd cell y7 y8) M8=ξ (false,M9):=Rk (Axo rfl rfl rfl rfl q9);refine ⟨s,n8,d,rp,kd,y7,y8,M9,?_,(Q8.rs S9 z9).g⟩;unfold Uu;exact A8 s1 (A8 s5 (A8 s6 (A8 (Cm c7) (A8 q8 (Cm c9)))))
theorem An4(ns:List Int)(hl:ns.length<=63):∃ L',Y1 [.ref 0] [.ro ZbE]=ξ Zcf:=by
 have h0:([HU.ro ZbE]:UH)[0]? = ξ (.ro ZbE):=rfl;generalize [HU.ro ZbE]=L0 at h0;obtain ⟨r,L1,e1,h1,g1,_⟩:=Alc (many:=3) h0 hl;have hi:(Br (A9 2 Oi ZcO)) [ξ (.ref 0),ψ,ψ,ψ,ψ,ψ,ψ,ψ,ψ] L0=ξ (.ref r,L1):=by
  rw[Df,Fy (fa:=Ae 0) (fb:=fC (.int 3)) rfl rfl e1];show (Gm (.ref r) L1).map _=_;rw[Ck (Am h1)];rfl
 generalize ns.take 3++[(ns.length:Int)]=cs at h1;obtain ⟨δ',N9,e9,P⟩:=Qm (us:=cs.map U.int) (n:=r) (body:=Uu) (g:=gN 1) (fun j δ' N=>(∃ y1 y2 y3 y4 y5 y6 y7 y8,δ'=[ξ (.ref 0),y1,y2,y3,y4,y5,y6,y7,y8])/\Gw L1 N) hi
  ⟨⟨_,_,_,_,_,_,_,_,rfl⟩,Gw.refl L1⟩ (fun j δ N hP=>Am (hP.2.get h1))
  (fun j u δ N hu hP=>by
   obtain ⟨⟨y1,y2,y3,y4,y5,y6,y7,y8,rfl⟩,g⟩:=hP;rw[bD] at hu;obtain ⟨cell,hcell,rfl⟩:=aJ.mp hu;obtain ⟨s,n,d,rp,kd,z7,z8,N',e,g'⟩:=Ar8 (M:=N) (cell:=cell) (e2:=y2) (e3:=y3) (e4:=y4) (e5:=y5) (e6:=y6) (e7:=y7) (e8:=y8);exact ⟨[ξ (.ref 0),ξ (.int cell),y2,y3,y4,y5,y6,y7,y8],N,rfl,_,N',.inl e,⟨_,_,_,_,_,_,_,_,rfl⟩,g.trans g'⟩)
 obtain ⟨⟨y1,y2,y3,y4,y5,y6,y7,y8,rfl⟩,g⟩:=P;refine ⟨N9,fn1 (n:=8) ?_⟩;show Amy [ξ (.ref 0),ψ,ψ,ψ,ψ,ψ,ψ,ψ,ψ] L0=_;unfold Amy;exact A8 e9 (B8 rfl)
noncomputable def top(i:Nat):Stmt:=PySem.Challenge.pw_belowpoints_k41_desk_halves_and_stairs.main.body.getD i (.Pass ⟨0,0,0,0⟩)
abbrev F8:Stmt:=Bc (top 46) 4
theorem Kf:FnScope ["self"] ["self"] (An F8):=scm
abbrev Ku:Stmt:=Bc (top 51) 3
theorem Qp:FnScope ["self"] ["self"] (An Ku):=scm
abbrev G3:Stmt:=Bc (top 46) 10
theorem Lf:FnScope ["self","name"] ["self","name"] (An G3):=scm
abbrev F9:Stmt:=Bc (top 46) 3
theorem Kd:FnScope ["self","name","x","y"] ["self","name","x","y"] (An F9):=scm
abbrev G1:Stmt:=Bc (top 46) 1
theorem Ky:FnScope ["self","name","x","y"] ["self","name","x","y"] (An G1):=scm
abbrev Ga:Stmt:=Bc (top 46) 2
theorem Kg:FnScope ["self","name"] ["self","name"] (An Ga):=scm
abbrev Hr:Stmt:=Bc (top 51) 2
theorem Ng:FnScope ["self","word","given"] ["self","word","given"] (An Hr):=scm
abbrev Y9:Stmt:=top 44
theorem Aen:FnScope ["points","place"] ["points","place"] (An Y9):=scm
abbrev Wq:Stmt:=top 11
theorem Adf:FnScope ["point"] ["point"] (An Wq):=scm
abbrev Yh:Stmt:=top 43
theorem Ae6:FnScope ["point","box"] ["point","box"] (An Yh):=scm
abbrev Tg:Stmt:=top 42
theorem Abn:FnScope ["points","box"] ["points","box"] (An Tg):=scm
abbrev Vi:Stmt:=top 41
theorem Ac0:FnScope ["points","box","place"] ["points","box","place"] (An Vi):=scm
abbrev Oa:Stmt:=Bc (top 51) 4
theorem T7:FnScope ["self","word","given"] ["self","word","given"] (An Oa):=scm
abbrev Qt:Stmt:=top 14
theorem Xl:FnScope ["word","signs"] ["word","signs"] (An Qt):=scm
abbrev X4:Stmt:=top 12
theorem Af4:FnScope ["word"] ["word"] (An X4):=scm
abbrev Th:Stmt:=top 13
theorem Qq:FnScope ["word","figures"] ["word"] (An Th):=scm
abbrev V4:Stmt:=top 53
theorem Acn:FnScope ["word","kind"] ["word","kind"] (An V4):=scm
abbrev Nh:Stmt:=top 52
theorem Mp:FnScope ["words","form"] ["words"] (An Nh):=scm
abbrev Rf:Stmt:=top 10
theorem Xj:FnScope ["one","other"] ["one","other"] (An Rf):=scm
abbrev Q0:Stmt:=top 19
theorem Xb:FnScope ["places","place"] ["places","place"] (An Q0):=scm
abbrev N8:Stmt:=top 38
theorem T8:FnScope ["lower","upper"] ["lower","upper"] (An N8):=scm
abbrev Kz:Stmt:=top 37
theorem Ez:FnScope ["places","first","behind","many","middle","whole"] ["places","first","behind"] (An Kz):=scm
abbrev Td:Stmt:=top 36
theorem Qh:FnScope ["points","places"] ["points"] (An Td):=scm
abbrev Ql:Stmt:=top 20
theorem Xk:FnScope ["places","place"] ["places","place"] (An Ql):=scm
abbrev Qb:Stmt:=top 17
theorem Pk:FnScope ["points","places"] ["points"] (An Qb):=scm
abbrev Ts:Stmt:=top 26
theorem Fj:FnScope ["points","stairs","left","above","best"] ["points"] (An Ts):=scm
abbrev X7:Stmt:=top 54
theorem Afs:FnScope ["word","points"] ["word","points"] (An X7):=scm
abbrev Ti:Stmt:=top 56
theorem Aa4:FnScope ["row"] ["row"] (An Ti):=scm
abbrev Qi:Stmt:=top 55
theorem Xi:FnScope ["rows"] ["rows"] (An Qi):=scm
abbrev Wb:Stmt:=Bc (top 51) 1
theorem Od:FnScope ["self","line","words","given"] ["self","line"] (An Wb):=scm
abbrev Ac6:Stmt:=top 59
theorem Oo:FnScope ["seed","most","found","number"] ["seed","most"] (An Ac6):=scm
abbrev Ad1:Stmt:=top 63
theorem Aiv:FnScope ["pool","number"] ["pool","number"] (An Ad1):=scm
abbrev Yj:Stmt:=top 61
theorem Age:FnScope ["seed","kind"] ["seed","kind"] (An Yj):=scm
abbrev Adl:Stmt:=top 62
theorem K5:FnScope ["seed","spare","letters","k","word"] ["seed"] (An Adl):=scm
abbrev Yk:Stmt:=top 64
theorem Ek:FnScope ["seed","most","pool","kind","points","k","x","y"] ["seed","most"] (An Yk):=scm
abbrev X8:Stmt:=top 60
theorem Afb:FnScope ["script","many"] ["script","many"] (An X8):=scm
abbrev Ada:Stmt:=top 66
theorem Ai6:FnScope ["points"] ["points"] (An Ada):=scm
abbrev Ac7:Stmt:=top 68
theorem Du:FnScope ["seed","pool","kind","points","there","way","x","y","at","moved","spare","made"] ["seed","pool","kind","points"] (An Ac7):=scm
abbrev G6:Stmt:=Bc (top 46) 0
theorem Mm:FnScope ["self"] ["self"] (An G6):=scm
abbrev Mu:Stmt:=Bc (top 51) 0
theorem Sk:FnScope ["self"] ["self"] (An Mu):=scm
abbrev Ac3:Stmt:=top 67
theorem Rr:FnScope ["points","desk","row"] ["points"] (An Ac3):=scm
abbrev X2:Stmt:=top 65
theorem Aeg:FnScope ["one","other"] ["one","other"] (An X2):=scm
abbrev Wm:Stmt:=top 69
theorem Gf:FnScope ["order","first","behind","middle","across","one","rows"] ["order","first","behind"] (An Wm):=scm
abbrev Q1:Stmt:=top 70
theorem O7:FnScope ["points","sign","keyed"] ["points","sign"] (An Q1):=scm
abbrev Vr:Stmt:=top 71
theorem Gg:FnScope ["points","found","left","best","one"] ["points"] (An Vr):=scm
abbrev X6:Stmt:=top 72
theorem De:FnScope ["seed","kind","desk","points","order","ends","tops","x","y","end","top","held","place","line"] ["seed","kind","desk","points"] (An X6):=scm
abbrev Ach:Stmt:=top 58
theorem Y0:FnScope ["cell","number"] ["cell"] (An Ach):=scm
abbrev Ast:Stmt:=top 73
theorem Km:FnScope ["script","cell","seed","pool","kind","points","desk","turn","line"] ["script"] (An Ast):=scm
set_option genInjectivity false
set_option genSizeOf false
set_option genSizeOfSpec false
structure Defs(K:aF)(mg:Str->Option aH)(w:cM) where
 ua:Addr
 ub:ClsF K "KeptPoints" ua
 uc:Addr
 ud:ClsF K "Desk" uc
 ue:FnM K ua "points_now" "KeptPoints.points_now" F8 ["self"]
 uf:FnM K uc "need_room" "Desk.need_room" Ku ["self"]
 ug:FnM K ua "need_name" "KeptPoints.need_name" G3 ["self","name"]
 uh:FnM K ua "move_point" "KeptPoints.move_point" F9 ["self","name","x","y"]
 ui:FnM K ua "put_point" "KeptPoints.put_point" G1 ["self","name","x","y"]
 uj:FnM K ua "take_point" "KeptPoints.take_point" Ga ["self","name"]
 uk:FnM K uc "change_points" "Desk.change_points" Hr ["self","word","given"]
 ul:FnG K mg "name_at" Y9 ["points","place"]
 um:FnG K mg "place_of" Wq ["point"]
 uo:FnG K mg "is_held" Yh ["point","box"]
 uq:FnG K mg "points_in" Tg ["points","box"]
 ur:FnG K mg "nth_by_x" Vi ["points","box","place"]
 ut:FnM K uc "told_at" "Desk.told_at" Oa ["self","word","given"]
 uu:FnG K mg "holds_only" Qt ["word","signs"]
 uv:FnG K mg "is_name" X4 ["word"]
 uw:FnG K mg "is_number" Th ["word"]
 ux:FnG K mg "value_of" V4 ["word","kind"]
 uy:FnG K mg "given_behind" Nh ["words"]
 uz:FnG K mg "lies_below" Rf ["one","other"]
 uA:FnG K mg "many_below" Q0 ["places","place"]
 uB:FnG K mg "crossings_of" N8 ["lower","upper"]
 uC:FnG K mg "halves_between" Kz ["places","first","behind"]
 uD:FnG K mg "halves_of" Td ["points"]
 uE:FnG K mg "many_above" Ql ["places","place"]
 uF:FnG K mg "above_each" Qb ["points"]
 uG:FnG K mg "stairs_of" Ts ["points"]
 uH:FnG K mg "rows_of" X7 ["word","points"]
 uI:FnG K mg "row_shown" Ti ["row"]
 uJ:FnG K mg "rows_shown" Qi ["rows"]
 uK:FnM K uc "ask" "Desk.ask" Wb ["self","line"]
 uL:FnG K mg "_law_draw" Ac6 ["seed","most"]
 uM:FnG K mg "_law_name" Ad1 ["pool","number"]
 uN:FnG K mg "_law_place" Yj ["seed","kind"]
 uO:FnG K mg "_law_pool" Adl ["seed"]
 uP:FnG K mg "_law_begun" Yk ["seed","most"]
 uQ:FnG K mg "_law_cells" X8 ["script","many"]
 uR:FnG K mg "_law_rows" Ada ["points"]
 uS:FnG K mg "_law_deed" Ac7 ["seed","pool","kind","points"]
 uT:FnM K ua "__init__" "KeptPoints.__init__" G6 ["self"]
 uU:FnM K uc "__init__" "Desk.__init__" Mu ["self"]
 uV:FnG K mg "_law_laid" Ac3 ["points"]
 uW:FnG K mg "_law_below" X2 ["one","other"]
 uX:FnG K mg "_law_halves" Wm ["order","first","behind"]
 uY:FnG K mg "_law_in_order" Q1 ["points","sign"]
 uZ:FnG K mg "_law_stairs" Vr ["points"]
 u4:FnG K mg "_law_right" X6 ["seed","kind","desk","points"]
 u5:FnG K mg "_law_seed" Ach ["cell"]
 u7:FnG K mg "law" Ast ["script"]
 u8:jK K uc=true/\dZ K (.ref uc)=true
 u9:mg "Desk" = ξ (.ref uc)
 va:jK K ua=true/\dZ K (.ref ua)=true
 vb:mg "KeptPoints" = ξ (.ref ua)
 vc:NoAttr K uc "kept"
 vd:NoAttr K ua "points"
 ve:FormsAt K w mg "FORMS" Eb
 vf:∃ t,mg "FIGURES" = ξ (.str "0123456789" t)
 vg:∃ t,mg "LETTERS" = ξ (.str "abcdefghijklmnopqrstuvwxyz" t)
 vh:∃ t,mg "LONGEST_NAME" = ξ (.int 8 t)
 vi:∃ t,mg "MOST_FIGURES" = ξ (.int 10 t)
 vj:∃ t,mg "MOST_POINTS" = ξ (.int 60 t)
 vk:mg "all" = ψ
 vm:mg "int" = ψ
 vn:mg "len" = ψ
 vo:mg "list" = ψ
 vp:mg "max" = ψ
 vq:mg "min" = ψ
 vt:mg "range" = ψ
 vv:mg "sorted" = ψ
 vw:mg "str" = ψ
 vx:mg "sum" = ψ
 vy:mg "tuple" = ψ
 vz:mg "zip" = ψ
variable {mg:Str->Option aH}
section
variable {P:cC}{w:cM}{K:aF}{base:Heap}
theorem Dw(C:Defs K mg w):FnOk P w K mg base CX0 1 C.ue.f C.ue.d ["self"] (spF K 1 Bo):=by
 refine Fun.okF C.ue.F Kf (fun cdv A outer s H E hr=>?_);have hu:=hr.units;exact (Ak (Au (Ant rfl Zc C.vy Zbw ⟨rfl,rfl,rfl,rfl⟩)))
theorem Qr(C:Defs K mg w):FnOk P w K mg base CX0 2 C.uf.f C.uf.d ["self"] (spF K 1 Ed):=by
 refine Fun.okF C.uf.F Qp (fun cdv A outer s H E hr=>?_);have hu:=hr.units;exact (Ak (By (Bb Ank Aex (Bk B6 Cv Zc C.vn cB (Ac Zdk Af)) (Uy Zc C.vj) (Bj _)) (Ak Cp) Bn))
theorem Ge(C:Defs K mg w):FnOk P w K mg base CX0 1 C.ug.f C.ug.d ["self","name"] (spF K 2 Ci):=by
 refine Fun.okF C.ug.F Lf (fun cdv A outer s H E hr=>?_);have hu:=hr.units;exact (Ak (By (Bb (Aiq hu) Agb (Ag 1) Zbw (by with_unfolding_all rfl)) (Ak Cp) Bn))
theorem Ks(C:Defs K mg w):FnOk P w K mg base CX0 2 C.uh.f C.uh.d ["self","name","x","y"] (spF K 4 Cu):=by
 refine Fun.okF C.uh.F Kd (fun cdv A outer s H E hr=>?_);have hu:=hr.units;refine Ai ?s0 ?t0
 case s0=>exact (Dp (Mn C.ub C.ug (Ge C) hr (Ag 0) Z2))
 exact (Ak (Adj hu Zbw (Ag 1) (Ja (Ac (Ag 1) (Ac (Ag 2) Zaz)))))
theorem K1(C:Defs K mg w):FnOk P w K mg base CX0 1 C.ui.f C.ui.d ["self","name","x","y"] (spF K 4 Cy):=by
 refine Fun.okF C.ui.F Ky (fun cdv A outer s H E hr=>?_);have hu:=hr.units;refine Ai ?s0 ?t0
 case s0=>exact (By (Bb (Axv hu) Apm (Ag 1) Zbw (by with_unfolding_all rfl)) (Ak Cp) Bn)
 exact (Ak (Adj hu Zbw (Ag 1) (Ja (Ac (Ag 1) (Ac (Ag 2) Zaz)))))
theorem Kk(C:Defs K mg w):FnOk P w K mg base CX0 2 C.uj.f C.uj.d ["self","name"] (spF K 2 Cq):=by
 refine Fun.okF C.uj.F Kg (fun cdv A outer s H E hr=>?_);have hu:=hr.units;refine Ai ?s0 ?t0
 case s0=>exact (Dp (Mn C.ub C.ug (Ge C) hr (Ag 0) Z2))
 exact (Ak (Dp (Asd Zbw (Ag 1) ⟨rfl,rfl,rfl,rfl⟩)))
theorem Nf(C:Defs K mg w):FnOk P w K mg base CX0 3 C.uk.f C.uk.d ["self","word","given"] (spF K 3 Bl):=by
 refine Fun.okF C.uk.F Ng (fun cdv A outer s H E hr=>?_);have hu:=hr.units;exact (Ak (By Z4 (Ai (Dp (Abv C.ud C.uf (Qr C) hr (Ag 0))) (Ak (Dp (Mn C.ub C.ui (K1 C) hr Zbx (Ac ZP (Ac ZP (Ac ZP Af))))))) (Ak (By Z4 (Ak (Dp (Mn C.ub C.uj (Kk C) hr Zbx (Ac ZP Af)))) (Ak (Dp (Mn C.ub C.uh (Ks C) hr Zbx (Ac ZP (Ac ZP (Ac ZP Af))))))))))
theorem Agd(C:Defs K mg w):FnOk P w K mg base CX0 1 C.ul.f C.ul.d ["points","place"] (spF K 2 Ox):=by
 refine Fun.okF C.ul.F Aen (fun cdv A outer s H E hr=>?_);have hu:=hr.units;refine Ai ?s0 ?t0
 case s0=>exact (By (PWF.pt (Sh ZdH (Oz (Bb Ank Aex (Ag 1) ZbJ (Bj _))))) (Ak Cp) Bn)
 exact (Ak (Au (Bg Aq Ar (Bg Aq Ar (Ag 0) (Ag 1) Zg) Aj Zg)))
theorem J9(C:Defs K mg w):FnOk P w K mg base CX0 1 C.um.f C.um.d ["point"] (spF K 1 C3):=by
 refine Fun.okF C.um.F Adf (fun cdv A outer s H E hr=>?_);have hu:=hr.units;exact (Ak (Au (Ja (Ac Zw (Ac Zw Af)))))
theorem Afk(C:Defs K mg w):FnOk P w K mg base CX0 1 C.uo.f C.uo.d ["point","box"] (spF K 2 Oq):=by
 refine Fun.okF C.uo.F Ae6 (fun cdv A outer s H E hr=>?_);have hu:=hr.units;exact (Ak (Au (Vy (Wc Jp Jp Gu Gu ZaQ Zw ZaQ) (U3 (Wc Jp Jp Gu Gu ZaQ Zw ZaQ)))))
theorem Aac(C:Defs K mg w):FnOk P w K mg base CX0 2 C.uq.f C.uq.d ["points","box"] (spF K 2 F6):=by
 refine Fun.okF C.uq.F Abn (fun cdv A outer s H E hr=>?_);have hu:=hr.units;exact (Ak (Au (Kv (N':=["point","box"]) (ix:=[ψ,ξ 1]) ⟨rfl,rfl,rfl,rfl,rfl,rfl⟩ rfl (C0 (Ag 0)) (fun _ _ _ _ _ _=>(Ao (i:=0) (show cG (α:=Str) ["point","box"] by lk))) (fun _ _ _ _ _ _=>(Ej (Bi C.uo (Afk C) hr Zd3))) ZaF)))
theorem Adm(C:Defs K mg w):FnOk P w K mg base CX0 4 C.ur.f C.ur.d ["points","box","place"] (spF K 3 Pw):=by
 refine Fun.okF C.ur.F Ac0 (fun cdv A outer s H E hr=>?_);have hu:=hr.units;exact (Ak (Au (Bi C.ul (Agd C) hr (Ac (Ad7 (J9 C) (hr.mono Zb) C.um.b Zc C.vv Zc C.um.g (Bi C.uq (Aac C) hr Zd3)) ZcC))))
theorem Tz(C:Defs K mg w):FnOk P w K mg base CX0 5 C.ut.f C.ut.d ["self","word","given"] (spF K 3 E2):=by
 refine Fun.okF C.ut.F T7 (fun cdv A outer s H E hr=>?_);have hu:=hr.units;refine Ai ?s0 ?t0
 case s0=>exact (By Z4 (Ak Cp) Bn)
 refine Ai ?s1 ?t1
 case s1=>exact (By Z4 (Ak Cp) Bn)
 refine Ai ?s2 ?t2
 case s2=>exact (By Z4 (Ak Cp) Bn)
 exact (Ak (Au (Ja (Ac (Bi C.ur (Adm C) hr (Ac Zdk (Ac (Dg Fq E7 (Ag 2) (Co Aj) Ep) (Ac ZP Af)))) Af))))
theorem Pg(C:Defs K mg w):FnOk P w K mg base CX0 1 C.uu.f C.uu.d ["word","signs"] (spF K 2 Eo):=by
 refine Fun.okF C.uu.F Xl (fun cdv A outer s H E hr=>?_);have hu:=hr.units;exact (Ak (Au (Bk (Yd rfl) Aii Zc C.vk pB (Ac (Dy (N':=["sign","signs"]) (ix:=[ψ,ξ 1]) ⟨rfl,rfl,rfl,rfl,rfl,rfl⟩ rfl (Asa (Ag 0)) (fun _ _ _ _ _ _=>(Ao (i:=0) (show cG (α:=Str) ["sign","signs"] by lk))) (fun _ _ _ _ _ _=>(Lk Aoa (Vm false) (Ag 0) (Ag 1) (by with_unfolding_all rfl)))) Af))))
theorem Aeo(C:Defs K mg w):FnOk P w K mg base CX0 2 C.uv.f C.uv.d ["word"] (spF K 1 Sl):=by
 refine Fun.okF C.uv.F Af4 (fun cdv A outer s H E hr=>?_);have hu:=hr.units;exact (Ak (Au (Vy (Wc Jp Jp Gu Gu Aj ZbJ (Uy Zc C.vh)) (U3 (Bi C.uu (Pg C) hr (Ac (Ag 0) (Ac (Ab3 Zc C.vg) Af)))))))
theorem Aa5(C:Defs K mg w):FnOk P w K mg base CX0 2 C.uw.f C.uw.d ["word"] (spF K 1 N3):=by
 refine Fun.okF C.uw.F Qq (fun cdv A outer s H E hr=>?_);have hu:=hr.units;refine Ai ?s0 ?t0
 case s0=>exact (A7 (i:=1) (by exact Qq.nd) (A0p (Ej (K7 eC mE mF Xq Wa (Ag 0) (Ac Be Af))) (Dg Ape Arj (Ag 0) (Co Aj) Ep) (Ag 0)))
 refine Ai ?s1 ?t1
 case s1=>exact (By (PWF.pt (Sh Z4 (Oz (Rm (Ej (Bi C.uu (Pg C) hr (Ac (Ag 1) (Ac (Ab3 Zc C.vf) Af)))))))) Zdg Bn)
 exact (Ak (Au (Ax2 (Lk (Hz hu) H9 ZaQ Be (Bj _)) (U3 (Lk (Dh hu) Dj (Ag 0) Be (Bj _))))))
theorem Adw(C:Defs K mg w):FnOk P w K mg base CX0 3 C.ux.f C.ux.d ["word","kind"] (spF K 2 Fg):=by
 refine Fun.okF C.ux.F Acn (fun cdv A outer s H E hr=>?_);have hu:=hr.units;refine Ai ?s0 ?t0
 case s0=>exact (By Z4 (Ai (By (Rm (Ej (Bi C.uv (Aeo C) hr ZM))) (Ak Cp) Bn) (Ak (Au (Ag 0)))) Bn)
 refine Ai ?s1 ?t1
 case s1=>exact (By (PWF.pt (Sh (Rm (Ej (Bi C.uw (Aa5 C) hr ZM))) (Oz (Bb Am0 Ae0 (Bk B6 Cv Zc C.vn cB (Ac (K7 eC PySem.F.slot_str_lstrip PySem.F.type_str_lstrip Aj0 Afp (Ag 0) (Ac Be Af)) Af)) (Uy Zc C.vi) (Bj _))))) (Ak Cp) Bn)
 refine Ai ?s2 ?t2
 case s2=>exact (By (PWF.pt (Ih Z4 (Gv (Ej (K7 eC mE mF Xq Wa (Ag 0) (Ac Be Af)))))) (Ak Cp) Bn)
 exact (Ak (Au (Fo Aio Anj Zc C.vm Zd ZM)))
theorem T5(C:Defs K mg w):FnOk P w K mg base CX0 4 C.uy.f C.uy.d ["words"] (spF K 1 G2):=by
 refine Fun.okF C.uy.F Mp (fun cdv A outer s H E hr=>?_);have hu:=hr.units;refine Ai ?s0 ?t0
 case s0=>exact (A7 (i:=1) (by exact Mp.nd) (Anw C.ve Zc Zw ⟨rfl,rfl,rfl,rfl⟩))
 refine Ai ?s1 ?t1
 case s1=>exact (By (PWF.pt (Sh (Bb Au1 Aqp (Ag 1) Axt (Bj _)) (Oz (Bb (Hz hu) H9 Zec (Bm Nj Jx ZbJ Aj) (Bj _))))) (Ak Cp) Bn)
 exact (Ak (Au (Fo Fu K4 Zc C.vy Zd (Ac (Dy (N':=["word","kind"]) (ix:=[ψ,ψ]) ⟨rfl,rfl,rfl,rfl,rfl,rfl⟩ rfl (Vt Zc C.vz (Ac Zdw Z2)) (fun _ _ _ _ _ _=>(Jv rfl (Bt (Ao (i:=0) (show cG (α:=Str) ["word","kind"] by lk)) (Bt (Ao (i:=1) (show cG (α:=Str) ["word","kind"] by lk)) Gn)))) (fun _ _ _ _ _ _=>(Bi C.ux (Adw C) hr Zd3))) Af))))
theorem Pd(C:Defs K mg w):FnOk P w K mg base CX0 1 C.uz.f C.uz.d ["one","other"] (spF K 2 Di):=by
 refine Fun.okF C.uz.F Xj (fun cdv A outer s H E hr=>?_);have hu:=hr.units;exact (Ak (Au (Vy (Lk (Hz hu) H9 (Ag 0) (Ag 1) (Bj _)) (U3 (Bk (Yd rfl) Aii Zc C.vk pB (Ac (Dy (N':=["number","above"]) (ix:=[ψ,ψ]) ⟨rfl,rfl,rfl,rfl,rfl,rfl⟩ rfl (Amq Zc C.vz Zd3) (fun _ _ _ _ _ _=>(Jv rfl (Bt (Ao (i:=0) (show cG (α:=Str) ["number","above"] by lk)) (Bt (Ao (i:=1) (show cG (α:=Str) ["number","above"] by lk)) Gn)))) (fun _ _ _ _ _ _=>(Lk Jp Gu (Ag 0) (Ag 1) (Bj _)))) Af))))))
theorem Xh(C:Defs K mg w):FnOk P w K mg base CX0 2 C.uA.f C.uA.d ["places","place"] (spF K 2 Ie):=by
 refine Fun.okF C.uA.F Xb (fun cdv A outer s H E hr=>?_);have hu:=hr.units;exact (Ak (Au (Bk B6 Cv Zc C.vn cB (Ac (Kv (N':=["other","place"]) (ix:=[ψ,ξ 1]) ⟨rfl,rfl,rfl,rfl,rfl,rfl⟩ rfl (C0 (Ag 0)) (fun _ _ _ _ _ _=>(Ao (i:=0) (show cG (α:=Str) ["other","place"] by lk))) (fun _ _ _ _ _ _=>(Ej (Bi C.uz (Pd C) hr Zd3))) ZaF) Af))))
theorem Tx(C:Defs K mg w):FnOk P w K mg base CX0 3 C.uB.f C.uB.d ["lower","upper"] (spF K 2 E8):=by
 refine Fun.okF C.uB.F T8 (fun cdv A outer s H E hr=>?_);have hu:=hr.units;exact (Ak (Au (Bk (Aji rfl) Aq6 Zc C.vx PyProof.Rows.boot_sum (Ac (Dy (N':=["place","lower"]) (ix:=[ψ,ξ 0]) ⟨rfl,rfl,rfl,rfl,rfl,rfl⟩ rfl (C0 (Ag 1)) (fun _ _ _ _ _ _=>(Ao (i:=0) (show cG (α:=Str) ["place","lower"] by lk))) (fun _ _ _ _ _ _=>(Bi C.uA (Xh C) hr Zd4))) Af))))
theorem Jm(C:Defs K mg w):∀ k:Nat,FnOk P w K mg base CX0 (4+k) C.uC.f C.uC.d ["places","first","behind"] (spF K 3 (Cw k))
 | 0=>⟨fun _ _ _ _ h=>(by obtain ⟨_,_,_,_,_,_,_,_,e,_⟩:=h;cases e),fun _ _ _ _ _ _ _ _ _ _ _ _ _ h=>(by obtain ⟨_,_,_,_,_,_,_,_,e,_⟩:=h;cases e)⟩
 | k+1=>by
  have hR:=Jm C k;refine Fun.okF C.uC.F Ez (fun cdv A outer s H E hr=>?_);have hu:=hr.units;refine Ai ?s0 ?t0
  case s0=>exact (A7 (i:=3) (by exact Ez.nd) Zed)
  refine Ai ?s1 ?t1
  case s1=>exact (By (Bb Yx Sv (Ag 3) Aj (Bj _)) (Ak (Au (Cd Af))) Bn)
  refine Ai ?s2 ?t2
  case s2=>exact (A7 (i:=4) (by exact Ez.nd) (Bm B7 B5 (Ag 1) (Bm Kw Oh (Ag 3) Aj)))
  refine Ai ?s3 ?t3
  case s3=>exact (A7 (i:=5) (by exact Ez.nd) (Ja (Ac (Ag 1) (Ac (Ag 2) (Ac (Ly (Tx C) (hr.mono (by show _<=_+k;omega)) Zc C.uB.g C.uB.F.kp C.uB.b (Ac (Dg Fq E7 (Ag 0) (Co (Ag 1)) (Co (Ag 4))) (Ac (Dg Fq E7 (Ag 0) (Co (Ag 4)) (Co (Ag 2))) Af))) Af)))))
  exact (Ak (Au (Bm B7 B5 (Bm B7 B5 (Cd Zdb) (Ly hR hr Zc C.uC.g C.uC.F.kp C.uC.b (Ac (Ag 0) (Ac (Ag 1) (Ac (Ag 4) Af))))) (Ly hR hr Zc C.uC.g C.uC.F.kp C.uC.b (Ac (Ag 0) (Ac (Ag 4) ZcC))))))
theorem Rp(C:Defs K mg w):FnOk P w K mg base CX0 11 C.uC.f C.uC.d ["places","first","behind"] (spF K 3 Ha):=Jm C 7
theorem Aad(C:Defs K mg w):FnOk P w K mg base CX0 12 C.uD.f C.uD.d ["points"] (spF K 1 Jq):=by
 refine Fun.okF C.uD.F Qh (fun cdv A outer s H E hr=>?_);have hu:=hr.units;refine Ai ?s0 ?t0
 case s0=>exact (A7 (i:=1) (by exact Qh.nd) (Bk (Wr rfl) Y2 Zc C.vv fS (Ac (Dy (N':=["point"]) (ix:=[ψ]) ⟨rfl,rfl,rfl,rfl,rfl,rfl⟩ rfl (C0 (Ag 0)) (fun _ _ _ _ _ _=>(Ao (i:=0) (show cG (α:=Str) ["point"] by lk))) (fun _ _ _ _ _ _=>(Bi C.um (J9 C) hr ZM))) Af)))
 exact (Ak (Au (Fo Fu K4 Zc C.vy Zd (Ac (Bi C.uC (Rp C) hr (Ac (Ag 1) (Ac Aj (Ac Zec Af)))) Af))))
theorem Xg(C:Defs K mg w):FnOk P w K mg base CX0 2 C.uE.f C.uE.d ["places","place"] (spF K 2 Mf):=by
 refine Fun.okF C.uE.F Xk (fun cdv A outer s H E hr=>?_);have hu:=hr.units;exact (Ak (Au (Bk B6 Cv Zc C.vn cB (Ac (Kv (N':=["other","place"]) (ix:=[ψ,ξ 1]) ⟨rfl,rfl,rfl,rfl,rfl,rfl⟩ rfl (C0 (Ag 0)) (fun _ _ _ _ _ _=>(Ao (i:=0) (show cG (α:=Str) ["other","place"] by lk))) (fun _ _ _ _ _ _=>(Ej (Bi C.uz (Pd C) hr Zd4))) ZaF) Af))))
theorem Xe(C:Defs K mg w):FnOk P w K mg base CX0 3 C.uF.f C.uF.d ["points"] (spF K 1 Lp):=by
 refine Fun.okF C.uF.F Pk (fun cdv A outer s H E hr=>?_);have hu:=hr.units;refine Ai ?s0 ?t0
 case s0=>exact (A7 (i:=1) (by exact Pk.nd) (Dy (N':=["point"]) (ix:=[ψ]) ⟨rfl,rfl,rfl,rfl,rfl,rfl⟩ rfl (C0 (Ag 0)) (fun _ _ _ _ _ _=>(Ao (i:=0) (show cG (α:=Str) ["point"] by lk))) (fun _ _ _ _ _ _=>(Bi C.um (J9 C) hr ZM))))
 exact (Ak (Au (Fo Fu K4 Zc C.vy Zd (Ac (Dy (N':=["place","places"]) (ix:=[ψ,ξ 1]) ⟨rfl,rfl,rfl,rfl,rfl,rfl⟩ rfl (C0 (Ag 1)) (fun _ _ _ _ _ _=>(Ao (i:=0) (show cG (α:=Str) ["place","places"] by lk))) (fun _ _ _ _ _ _=>(Bi C.uE (Xg C) hr Zd4))) Af))))
theorem Aar(C:Defs K mg w):FnOk P w K mg base CX0 4 C.uG.f C.uG.d ["points"] (spF K 1 J7):=by
 refine Fun.okF C.uG.F Fj (fun cdv A outer s H E hr=>?_);have hu:=hr.units;refine Ai ?s0 ?t0
 case s0=>exact (A7 (i:=1) (by exact Fj.nd) (Cd Af))
 refine Ai ?s1 ?t1
 case s1=>exact (A7 (i:=2) (by exact Fj.nd) (Ag 0))
 refine Ai ?s2 ?t2
 case s2=>exact (Yu 100000 eQ (Ej (Ag 2)) (Ai (A7 (i:=3) (by exact Fj.nd) (Bi C.uF (Xe C) hr ZcC)) (Ai (Kx (i:=4) (N':=["point","many"]) (ix:=[ψ,ψ]) (by exact Fj.nd) ⟨rfl,rfl,rfl,rfl,rfl,rfl⟩ rfl (Vt Zc C.vz (Ac (Ag 2) Zaz)) (fun _ _ _ _ _ _=>(Jv rfl (Bt (Ao (i:=0) (show cG (α:=Str) ["point","many"] by lk)) (Bt (Ao (i:=1) (show cG (α:=Str) ["point","many"] by lk)) Gn)))) (fun _ _ _ _ _ _=>(Bb (Dh hu) Dj (Ag 1) Aj (Bj _))) ZaF) (Ai (Dp (K7 eX fU fV K9 Iw (Ag 1) (Ac (Fo Fu K4 Zc C.vy Zd (Ac (Dy (N':=["point"]) (ix:=[ψ]) ⟨rfl,rfl,rfl,rfl,rfl,rfl⟩ rfl (C0 (Ad7 (J9 C) (hr.mono Zb) C.um.b Zc C.vv Zc C.um.g (Ag 4))) (fun _ _ _ _ _ _=>(Ao (i:=0) (show cG (α:=Str) ["point"] by lk))) ZbU) Af)) Af))) (Ak (Kx (i:=2) (N':=["point","many"]) (ix:=[ψ,ψ]) (by exact Fj.nd) ⟨rfl,rfl,rfl,rfl,rfl,rfl⟩ rfl (Vt Zc C.vz (Ac (Ag 2) Zaz)) (fun _ _ _ _ _ _=>(Jv rfl (Bt (Ao (i:=0) (show cG (α:=Str) ["point","many"] by lk)) (Bt (Ao (i:=1) (show cG (α:=Str) ["point","many"] by lk)) Gn)))) (fun _ _ _ _ _ _=>(Bb Am0 Ae0 (Ag 1) Aj (Bj _))) ZaF))))))
 exact (Ak (Au (Fo Fu K4 Zc C.vy Zd Z2)))
theorem Af1(C:Defs K mg w):FnOk P w K mg base CX0 13 C.uH.f C.uH.d ["word","points"] (spF K 2 K3):=by
 refine Fun.okF C.uH.F Afs (fun cdv A outer s H E hr=>?_);have hu:=hr.units;refine Ai ?s0 ?t0
 case s0=>exact (By Zav (Ak (Au (Ag 1))) Bn)
 refine Ai ?s1 ?t1
 case s1=>exact (By Zav (Ai Cp (Ak Cp)) Bn)
 refine Ai ?s2 ?t2
 case s2=>exact (By Zav (Ak Cp) Bn)
 refine Ai ?s3 ?t3
 case s3=>exact (By Zav (Ak (Au (Bi C.uD (Aad C) hr Z2))) Bn)
 refine Ai ?s4 ?t4
 case s4=>exact (By Zav (Ak (Au (Bi C.uG (Aar C) hr Z2))) Bn)
 refine Ai ?s5 ?t5
 case s5=>exact (By Zav (Ai Cp (Ak Cp)) Bn)
 exact (Ak Cp)
theorem Aay(C:Defs K mg w):FnOk P w K mg base CX0 1 C.uI.f C.uI.d ["row"] (spF K 1 Oc):=by
 refine Fun.okF C.uI.F Aa4 (fun cdv A outer s H E hr=>?_);have hu:=hr.units;exact (Ak (Au (K7 eC kI kJ Aas Vo Be (Ac (Dy (N':=["part"]) (ix:=[ψ]) ⟨rfl,rfl,rfl,rfl,rfl,rfl⟩ rfl (C0 (Ag 0)) (fun _ _ _ _ _ _=>(Ao (i:=0) (show cG (α:=Str) ["part"] by lk))) (fun _ _ _ _ _ _=>(Fo Air Ak8 Zc C.vw Zd ZM))) Af))))
theorem Pa(C:Defs K mg w):FnOk P w K mg base CX0 2 C.uJ.f C.uJ.d ["rows"] (spF K 1 Cz):=by
 refine Fun.okF C.uJ.F Xi (fun cdv A outer s H E hr=>?_);have hu:=hr.units;exact (Ak (Au (Kv (N':=["row"]) (ix:=[ψ]) ⟨rfl,rfl,rfl,rfl,rfl,rfl⟩ rfl (C0 (Ag 0)) (fun _ _ _ _ _ _=>(Ao (i:=0) (show cG (α:=Str) ["row"] by lk))) (fun _ _ _ _ _ _=>(Ej (Ag 0))) (fun _ _ _ _ _ _=>(Bi C.uI (Aay C) hr ZM)))))
theorem Ht(C:Defs K mg w):FnOk P w K mg base CX0 14 C.uK.f C.uK.d ["self","line"] (spF K 2 Bs):=by
 refine Fun.okF C.uK.F Od (fun cdv A outer s H E hr=>?_);have hu:=hr.units;refine Ai ?s0 ?t0
 case s0=>exact (A7 (i:=2) (by exact Od.nd) (K7 eC iM PySem.F.type_str_split Aon Aky (Ag 1) (Ac Be Af)))
 refine Ai ?s1 ?t1
 case s1=>exact (A7 (i:=3) (by exact Od.nd) (Bi C.uy (T5 C) hr ZcC))
 refine Ai ?s2 ?t2
 case s2=>exact (By (Bb Aoa (Vm false) ZP (Ja (Ac Be (Ac Be (Ac Be Af)))) (by with_unfolding_all rfl)) (Ai (Dp (Mn C.ud C.uk (Nf C) hr (Ag 0) (Ac ZP Zaz))) (Ak (Au (Cd Af)))) Bn)
 refine Ai ?s3 ?t3
 case s3=>exact (By (Ej (Ag 3)) (Ak (Au (Bi C.uJ (Pa C) hr (Ac (Cd (Ac (Mn C.ud C.ut (Tz C) hr (Ag 0) (Ac ZP Zaz)) Af)) Af)))) Bn)
 exact (Ak (Au (Bi C.uJ (Pa C) hr (Ac (Bi C.uH (Af1 C) hr (Ac ZP (Ac Zdk Af))) Af))))
theorem Ce(C:Defs K mg w):FnOk P w K mg base CX0 1 C.uL.f C.uL.d ["seed","most"] (spF K 2 A0):=by
 refine Fun.okF C.uL.F Oo (fun cdv A outer s H E hr=>?_);have hu:=hr.units;refine Ai ?s0 ?t0
 case s0=>exact (Q2 (Bm B7 B5 Zw Aj) (Agn (Ag 0) Aj))
 refine Ai ?s1 ?t1
 case s1=>exact (By (PWF.pt (Ih (Bb (Dh hu) Dj Zw Aj (Bj _)) (Gv (Bb Am0 Ae0 Zw Aj (Bj _))))) (Ai (A7 (i:=2) (by exact Oo.nd) (Bm Pp Lj Zw (Ag 1))) (Ai (Q2 (Bm Kw Oh Zw (Ag 1)) (Agn (Ag 0) Aj)) (Ak (Au (Ag 2))))) Bn)
 refine Ai ?s2 ?t2
 case s2=>exact (A7 (i:=3) (by exact Oo.nd) (Bm Pp Lj (Bm Mb Lx (Bm B7 B5 (Bm B7 B5 Zw (Bm Mb Lx Aj Zw)) Aj) Aj) Aj))
 refine Ai ?s3 ?t3
 case s3=>exact (A7 (i:=3) (by exact Oo.nd) (Bm Pp Lj (Bm Mb Lx (Bm Pp Lj (Bm Mb Lx (Ag 3) (Ag 3)) Aj) Aj) Aj))
 exact (Ak (Au (Bm Pp Lj (Bm Kw Oh (Ag 3) Aj) (Ag 1))))
theorem R6(C:Defs K mg w):FnOk P w K mg base CX0 1 C.uM.f C.uM.d ["pool","number"] (spF K 2 G0):=by
 refine Fun.okF C.uM.F Aiv (fun cdv A outer s H E hr=>?_);have hu:=hr.units;refine Ai ?s0 ?t0
 case s0=>exact (By ZdH (Ak (Au (Bg Aq Ar (Ag 0) (Ag 1) Zg))) Bn)
 exact (Ak (Au (Bm B7 B5 (Bm B7 B5 Be (Bg Aq Ar Be (Bm Kw Oh (Ag 1) Aj) Zg)) (Bg Aq Ar Be (Bm Pp Lj (Ag 1) Aj) Zg))))
theorem E9(C:Defs K mg w):FnOk P w K mg base CX0 2 C.uN.f C.uN.d ["seed","kind"] (spF K 2 C5):=by
 refine Fun.okF C.uN.F Age (fun cdv A outer s H E hr=>?_);have hu:=hr.units;refine Ai ?s0 ?t0
 case s0=>exact (By ZdH (Ak (Au (Bm Nj Jx (Bi C.uL (Ce C) hr (Ac (Ag 0) (Ac (Bg Aq Ar (Cd (Ac Aj (Ac Aj Af))) (Ag 1) Zg) Af))) Aj))) Bn)
 exact (Ak (Au (Bm Mb Lx (Bm B7 B5 (Bm Mb Lx (Bi C.uL (Ce C) hr (Ac (Ag 0) (Ac ZcD Af))) ZcD) (Bi C.uL (Ce C) hr (Ac (Ag 0) (Ac ZcD Af)))) (Bg Aq Ar (Cd (Ac Aj (Ac (Aao Aj) Af))) ZJ Zg))))
theorem Aje(C:Defs K mg w):FnOk P w K mg base CX0 2 C.uO.f C.uO.d ["seed"] (spF K 1 We):=by
 refine Fun.okF C.uO.F K5 (fun cdv A outer s H E hr=>?_);have hu:=hr.units;refine Ai ?s0 ?t0
 case s0=>
  refine A7 (i:=1) (hi:=?h1_0) (hx:=?h2_0) (hf:=?h3_0) (hs:=?h4_0) ?h5_0 ?h6_0
  case h1_0=>rfl
  case h2_0=>first | exact tS rfl | exact rY rfl
  case h3_0=>first | exact .inl rfl | exact .inr rfl
  case h4_0=>rfl
  case h5_0=>exact (by exact K5.nd)
  case h6_0=>
   refine Cd ?g;refine Ac (hs:=?q0) ?e0 ?r0
   case q0=>rfl
   case e0=>exact Be
   refine Ac (hs:=?q1) ?e1 ?r1
   case q1=>rfl
   case e1=>exact Be
   refine Ac (hs:=?q2) ?e2 ?r2
   case q2=>rfl
   case e2=>exact Be
   refine Ac (hs:=?q3) ?e3 ?r3
   case q3=>rfl
   case e3=>exact Be
   refine Ac (hs:=?q4) ?e4 ?r4
   case q4=>rfl
   case e4=>exact Be
   refine Ac (hs:=?q5) ?e5 ?r5
   case q5=>rfl
   case e5=>exact Be
   refine Ac (hs:=?q6) ?e6 ?r6
   case q6=>rfl
   case e6=>exact Be
   refine Ac (hs:=?q7) ?e7 ?r7
   case q7=>rfl
   case e7=>exact Be
   refine Ac (hs:=?q8) ?e8 ?r8
   case q8=>rfl
   case e8=>exact Be
   refine Ac (hs:=?q9) ?e9 ?r9
   case q9=>rfl
   case e9=>exact Be
   refine Ac (hs:=?q10) ?e10 ?r10
   case q10=>rfl
   case e10=>exact Be
   refine Ac (hs:=?q11) ?e11 ?r11
   case q11=>rfl
   case e11=>exact Be
   exact Af
 refine Ai ?s1 ?t1
 case s1=>exact (A7 (i:=2) (by exact K5.nd) Be)
 refine Ai ?s2 ?t2
 case s2=>exact (Js eQ rfl Zer (Ao (i:=3) (by exact K5.nd)) (Ai (A7 (i:=4) (by exact K5.nd) (K7 eC kI kJ Aas Vo Be (Ac (Dy (N':=["turn","letters","seed"]) (ix:=[ψ,ξ 2,ξ 0]) ⟨rfl,rfl,rfl,rfl,rfl,rfl⟩ rfl (F1 Zc C.vt (Ac (Bm B7 B5 Aj ZJ) Af)) (fun _ _ _ _ _ _=>(Ao (i:=0) (show cG (α:=Str) ["turn","letters","seed"] by lk))) (fun _ _ _ _ _ _=>(Bg Aq Ar (Ag 1) (Bi C.uL (Ce C) hr (Ac (Ag 2) (Ac Aj Af))) Zg))) Af))) (Ak (By (PWF.pt (Ih (Bb R8 (Vm true) (Ag 4) (Ag 1) (by with_unfolding_all rfl)) (Gv (Bb R8 (Vm true) (Bg Aq Ar (Ag 4) Aj Zg) Be (by with_unfolding_all rfl))))) (Ak (Dp (K7 eX fU fV K9 Iw (Ag 1) (Ac (Ag 4) Af)))) Bn))))
 exact (Ak (Au (Dy (N':=["k","spare","seed"]) (ix:=[ψ,ξ 1,ξ 0]) ⟨rfl,rfl,rfl,rfl,rfl,rfl⟩ rfl Zer (fun _ _ _ _ _ _=>(Ao (i:=0) (show cG (α:=Str) ["k","spare","seed"] by lk))) (fun _ _ _ _ _ _=>(K7 eX PySem.F.slot_list_pop PySem.F.type_list_pop Amn Ar6 (Ag 1) (Ac (Bi C.uL (Ce C) hr (Ac (Ag 2) (Ac Zec Af))) Af))))))
theorem Afi(C:Defs K mg w):FnOk P w K mg base CX0 3 C.uP.f C.uP.d ["seed","most"] (spF K 2 Ss):=by
 refine Fun.okF C.uP.F Ek (fun cdv A outer s H E hr=>?_);have hu:=hr.units;refine Ai ?s0 ?t0
 case s0=>exact (A7 (i:=2) (by exact Ek.nd) (Bi C.uO (Aje C) hr ZM))
 refine Ai ?s1 ?t1
 case s1=>exact (A7 (i:=3) (by exact Ek.nd) ZJ)
 refine Ai ?s2 ?t2
 case s2=>exact (A7 (i:=4) (by exact Ek.nd) (Cd Af))
 refine Ai ?s3 ?t3
 case s3=>exact (Js eQ rfl (F1 Zc C.vt (Ac (Bi C.uL (Ce C) hr (Ac (Ag 0) (Ac (Bm B7 B5 (Ag 1) Aj) Af))) Af)) (Ao (i:=5) (by exact Ek.nd)) (Ai (A7 (i:=6) (by exact Ek.nd) (Bi C.uN (E9 C) hr (Ac (Ag 0) Zaz))) (Ai (A7 (i:=7) (by exact Ek.nd) (Bi C.uN (E9 C) hr (Ac (Ag 0) Zaz))) (Ai (By (PWF.pt (Ih (Bb (Hz hu) H9 (Ag 4) (Cd Af) (Bj _)) (Gv Zdx))) (Ai (A7 (i:=6) (by exact Ek.nd) (Bg Aq Ar (Bg Aq Ar (Ag 4) (Bi C.uL (Ce C) hr (Ac (Ag 0) ZbO)) Zg) Aj Zg)) (Ak (A7 (i:=7) (by exact Ek.nd) (Bg Aq Ar (Bg Aq Ar (Ag 4) (Bi C.uL (Ce C) hr (Ac (Ag 0) ZbO)) Zg) Aj Zg)))) Bn) (Ak (Dp (K7 eX fU fV K9 Iw (Ag 4) (Ac (Ja (Ac (Bi C.uM (R6 C) hr (Ac (Ag 2) Zdb)) ZdR)) Af))))))))
 exact (Ak (Au (Cd (Ac (Ag 2) (Ac (Ag 3) (Ac (Ag 4) Af))))))
theorem Afe(C:Defs K mg w):FnOk P w K mg base CX0 1 C.uQ.f C.uQ.d ["script","many"] (spF K 2 Oi):=by
 refine Fun.okF C.uQ.F Afb (fun cdv A outer s H E hr=>?_);have hu:=hr.units;exact (Ak (Au (Bm B7 B5 (Dg Fq E7 (Ag 0) Ep (Co (Ag 1))) (Cd (Ac ZbJ Af)))))
theorem R4(C:Defs K mg w):FnOk P w K mg base CX0 1 C.uR.f C.uR.d ["points"] (spF K 1 Gy):=by
 refine Fun.okF C.uR.F Ai6 (fun cdv A outer s H E hr=>?_);have hu:=hr.units;exact (Ak (Au (Dy (N':=["name","x","y"]) (ix:=[ψ,ψ,ψ]) ⟨rfl,rfl,rfl,rfl,rfl,rfl⟩ rfl (C0 (Ag 0)) (fun _ _ _ _ _ _=>(Jv rfl (Bt (Ao (i:=0) (show cG (α:=Str) ["name","x","y"] by lk)) (Bt (Ao (i:=1) (show cG (α:=Str) ["name","x","y"] by lk)) (Bt (Ao (i:=2) (show cG (α:=Str) ["name","x","y"] by lk)) Gn))))) (fun _ _ _ _ _ _=>(Bm B7 B5 (Ag 0) (Sj (.cons Be (.cons (Kh (Ag 1)) (.cons Be (.cons (Kh (Ag 2)) .nil))))))))))
theorem Ajm(C:Defs K mg w):FnOk P w K mg base CX0 3 C.uS.f C.uS.d ["seed","pool","kind","points"] (spF K 4 Vc):=by
 refine Fun.okF C.uS.F Du (fun cdv A outer s H E hr=>?_);have hu:=hr.units;refine Ai ?s0 ?t0
 case s0=>exact (A7 (i:=4) (by exact Du.nd) (Dy (N':=["point"]) (ix:=[ψ]) ⟨rfl,rfl,rfl,rfl,rfl,rfl⟩ rfl (C0 (Ag 3)) (fun _ _ _ _ _ _=>(Ao (i:=0) (show cG (α:=Str) ["point"] by lk))) ZbU))
 refine Ai ?s1 ?t1
 case s1=>exact (A7 (i:=5) (by exact Du.nd) ZJ)
 refine Ai ?s2 ?t2
 case s2=>exact (A7 (i:=6) (by exact Du.nd) (Bi C.uN (E9 C) hr (Ac (Ag 0) ZcC)))
 refine Ai ?s3 ?t3
 case s3=>exact (A7 (i:=7) (by exact Du.nd) (Bi C.uN (E9 C) hr (Ac (Ag 0) ZcC)))
 refine Ai ?s4 ?t4
 case s4=>exact (By (PWF.pt (Ih Zcl (Gv Zdx))) (Ai (A7 (i:=6) (by exact Du.nd) (Bg Aq Ar (Bg Aq Ar (Ag 3) Aj Zg) Aj Zg)) (Ak (A7 (i:=7) (by exact Du.nd) (Bg Aq Ar (Bg Aq Ar (Ag 3) (Aao Aj) Zg) Aj Zg)))) Bn)
 refine Ai ?s5 ?t5
 case s5=>exact (By (PWF.pt (Ih Zcl (Gv (PWF.pt (Sh (Bb (Dh hu) Dj (Ag 5) Aj (Bj _)) (Oz (Bb (Dh hu) Dj Zcx Aj (Bj _)))))))) (Ai (A7 (i:=8) (by exact Du.nd) (Bi C.uL (Ce C) hr (Ac (Ag 0) (Ac Zcx Af)))) (Ak (Au (Cd (Ac (Bm B7 B5 Be (Bg Aq Ar (Ag 4) (Ag 8) Zg)) (Ac (Bm B7 B5 (Dg Fq E7 (Ag 3) Ep (Co (Ag 8))) (Dg Fq E7 (Ag 3) (Co (Bm B7 B5 (Ag 8) Aj)) Ep)) Af)))))) Bn)
 refine Ai ?s6 ?t6
 case s6=>exact (By (PWF.pt (Ih Zcl (Gv (Bb (Dh hu) Dj (Ag 5) Aj (Bj _))))) (Ai (A7 (i:=8) (by exact Du.nd) (Bi C.uL (Ce C) hr (Ac (Ag 0) (Ac Zcx Af)))) (Ai (A7 (i:=9) (by exact Du.nd) (Ja (Ac (Bg Aq Ar (Ag 4) (Ag 8) Zg) ZdR))) (Ak (Au (Cd (Ac (Bm B7 B5 Be (Bg Aq Ar (Bi C.uR (R4 C) hr (Ac (Cd (Ac (Ag 9) Af)) Af)) Aj Zg)) (Ac (Bm B7 B5 (Bm B7 B5 (Dg Fq E7 (Ag 3) Ep (Co (Ag 8))) (Cd (Ac (Ag 9) Af))) (Dg Fq E7 (Ag 3) (Co (Bm B7 B5 (Ag 8) Aj)) Ep)) Af))))))) Bn)
 refine Ai ?s7 ?t7
 case s7=>exact (Kx (i:=10) (N':=["k","pool","there"]) (ix:=[ψ,ξ 1,ξ 4]) (by exact Du.nd) ⟨rfl,rfl,rfl,rfl,rfl,rfl⟩ rfl (F1 Zc C.vt (Ac (Bk (Ajn rfl) Apj Zc C.vq PyProof.Rows.boot_min (Ac Aj (Ac (Bm B7 B5 Zcx Aj) Af))) Af)) (fun _ _ _ _ _ _=>(Ao (i:=0) (show cG (α:=Str) ["k","pool","there"] by lk))) (fun _ _ _ _ _ _=>(Bb R8 (Vm true) (Bi C.uM (R6 C) hr Zd4) (Ag 2) (by with_unfolding_all rfl))) (fun _ _ _ _ _ _=>(Bi C.uM (R6 C) hr Zd4)))
 refine Ai ?s8 ?t8
 case s8=>exact (A7 (i:=11) (by exact Du.nd) (Ja (Ac (Bg Aq Ar (Ag 10) (Bi C.uL (Ce C) hr (Ac (Ag 0) (Ac (Bk B6 Cv Zc C.vn cB (Ac (Ag 10) Af)) Af))) Zg) ZdR)))
 exact (Ak (Au (Cd (Ac (Bm B7 B5 Be (Bg Aq Ar (Bi C.uR (R4 C) hr (Ac (Cd (Ac (Ag 11) Af)) Af)) Aj Zg)) (Ac (Bm B7 B5 (Ag 3) (Cd (Ac (Ag 11) Af))) Af)))))
theorem Lu(C:Defs K mg w):FnOk P w K mg base CX0 1 C.uT.f C.uT.d ["self"] (spF K 1 C2):=by
 refine Fun.okF C.uT.F Mm (fun cdv A outer s H E hr=>?_);have hu:=hr.units;exact (Ak (Ah1 C.ub C.vd (Ag 0) Aru))
theorem R0(C:Defs K mg w):FnOk P w K mg base CX0 3 C.uU.f C.uU.d ["self"] (spF K 1 Et):=by
 refine Fun.okF C.uU.F Sk (fun cdv A outer s H E hr=>?_);have hu:=hr.units;exact (Ak (Ah1 C.ud C.vc (Ag 0) (Ads C.ub.ns (A1m C.uT C.va) (Lu C) (hr.mono Zb) Zc C.vb C.uT.b)))
theorem Ajp(C:Defs K mg w):FnOk P w K mg base CX0 15 C.uV.f C.uV.d ["points"] (spF K 1 Vp):=by
 refine Fun.okF C.uV.F Rr (fun cdv A outer s H E hr=>?_);have hu:=hr.units;refine Ai ?s0 ?t0
 case s0=>exact (A7 (i:=1) (by exact Rr.nd) (Ads C.ud.ns (A1m C.uU C.u8) (R0 C) (hr.mono Zb) Zc C.u9 C.uU.b))
 refine Ai ?s1 ?t1
 case s1=>exact (Js eQ rfl (C0 (Bi C.uR (R4 C) hr ZM)) (Ao (i:=2) (by exact Rr.nd)) (Ak (Dp (Mn C.ud C.uK (Ht C) hr (Ag 1) (Ac (Bm B7 B5 Be (Ag 2)) Af)))))
 exact (Ak (Au (Ag 1)))
theorem W3(C:Defs K mg w):FnOk P w K mg base CX0 1 C.uW.f C.uW.d ["one","other"] (spF K 2 Ol):=by
 refine Fun.okF C.uW.F Aeg (fun cdv A outer s H E hr=>?_);have hu:=hr.units;exact (Ak (Au (Vy (Lk (Hz hu) H9 (Ag 0) (Ag 1) (Bj _)) (Vy (Lk Jp Gu Zw ZaQ (Bj _)) (U3 (Lk Jp Gu Zw ZaQ (Bj _)))))))
theorem Qg(C:Defs K mg w):∀ k:Nat,FnOk P w K mg base CX0 (2+k) C.uX.f C.uX.d ["order","first","behind"] (spF K 3 (F7 k))
 | 0=>⟨fun _ _ _ _ h=>(by obtain ⟨_,_,_,_,_,_,_,_,e,_⟩:=h;cases e),fun _ _ _ _ _ _ _ _ _ _ _ _ _ h=>(by obtain ⟨_,_,_,_,_,_,_,_,e,_⟩:=h;cases e)⟩
 | k+1=>by
  have hR:=Qg C k;refine Fun.okF C.uX.F Gf (fun cdv A outer s H E hr=>?_);have hu:=hr.units;refine Ai ?s0 ?t0
  case s0=>exact (By (Bb Yx Sv Zed Aj (Bj _)) (Ak (Au (Cd Af))) Bn)
  refine Ai ?s1 ?t1
  case s1=>exact (A7 (i:=3) (by exact Gf.nd) (Bm B7 B5 (Ag 1) (Bm Kw Oh Zed Aj)))
  refine Ai ?s2 ?t2
  case s2=>exact (A7 (i:=4) (by exact Gf.nd) Aj)
  refine Ai ?s3 ?t3
  case s3=>exact (Js eQ rfl (C0 (Dg Fq E7 (Ag 0) (Co (Ag 1)) (Co (Ag 3)))) (Ao (i:=5) (by exact Gf.nd)) (Ak (A7 (i:=4) (by exact Gf.nd) (Bm B7 B5 (Ag 4) (Bk B6 Cv Zc C.vn cB (Ac (Kv (N':=["other","one"]) (ix:=[ψ,ξ 5]) ⟨rfl,rfl,rfl,rfl,rfl,rfl⟩ rfl (C0 (Dg Fq E7 (Ag 0) (Co (Ag 3)) (Co (Ag 2)))) (fun _ _ _ _ _ _=>(Ao (i:=0) (show cG (α:=Str) ["other","one"] by lk))) (fun _ _ _ _ _ _=>(Ej (Ly (W3 C) (hr.mono (by show _<=_+k;omega)) Zc C.uW.g C.uW.F.kp C.uW.b (Ac (Dg Fq E7 (Ag 1) (Co Aj) Ep) (Ac Zdw Af))))) (fun _ _ _ _ _ _=>Aj)) Af))))))
  refine Ai ?s4 ?t4
  case s4=>exact (A7 (i:=6) (by exact Gf.nd) (Cd (Ac (Sj (.cons (Kh (Ag 1)) (.cons Be (.cons (Kh (Ag 2)) (.cons Be (.cons (Kh (Ag 4)) .nil)))))) Af)))
  exact (Ak (Au (Bm B7 B5 (Bm B7 B5 (Ag 6) (Ly hR hr Zc C.uX.g C.uX.F.kp C.uX.b (Ac (Ag 0) (Ac (Ag 1) Zaz)))) (Ly hR hr Zc C.uX.g C.uX.F.kp C.uX.b (Ac (Ag 0) (Ac (Ag 3) ZcC))))))
theorem Ac4(C:Defs K mg w):FnOk P w K mg base CX0 9 C.uX.f C.uX.d ["order","first","behind"] (spF K 3 Mi):=Qg C 7
theorem O9(C:Defs K mg w):FnOk P w K mg base CX0 1 C.uY.f C.uY.d ["points","sign"] (spF K 2 Fi):=by
 refine Fun.okF C.uY.F O7 (fun cdv A outer s H E hr=>?_);have hu:=hr.units;refine Ai ?s0 ?t0
 case s0=>exact (A7 (i:=2) (by exact O7.nd) (Bk (Wr rfl) Y2 Zc C.vv fS (Ac (Dy (N':=["k","points","sign"]) (ix:=[ψ,ξ 0,ξ 1]) ⟨rfl,rfl,rfl,rfl,rfl,rfl⟩ rfl (F1 Zc C.vt (Ac ZbJ Af)) (fun _ _ _ _ _ _=>(Ao (i:=0) (show cG (α:=Str) ["k","points","sign"] by lk))) (fun _ _ _ _ _ _=>(Ja (Ac (Bg Aq Ar (Bg Aq Ar (Ag 1) (Ag 0) Zg) Aj Zg) (Ac (Bm Mb Lx (Ag 2) (Bg Aq Ar (Bg Aq Ar (Ag 1) (Ag 0) Zg) Aj Zg)) ZM))))) Af)))
 exact (Ak (Au (Dy (N':=["x","y","k","points"]) (ix:=[ψ,ψ,ψ,ξ 0]) ⟨rfl,rfl,rfl,rfl,rfl,rfl⟩ rfl (C0 (Ag 2)) (fun _ _ _ _ _ _=>(Jv rfl (Bt (Ao (i:=0) (show cG (α:=Str) ["x","y","k","points"] by lk)) (Bt (Ao (i:=1) (show cG (α:=Str) ["x","y","k","points"] by lk)) (Bt (Ao (i:=2) (show cG (α:=Str) ["x","y","k","points"] by lk)) Gn))))) (fun _ _ _ _ _ _=>(Bg Aq Ar (Ag 3) (Ag 2) Zg)))))
theorem Adq(C:Defs K mg w):FnOk P w K mg base CX0 2 C.uZ.f C.uZ.d ["points"] (spF K 1 Li):=by
 refine Fun.okF C.uZ.F Gg (fun cdv A outer s H E hr=>?_);have hu:=hr.units;refine Ai ?s0 ?t0
 case s0=>exact (A7 (i:=1) (by exact Gg.nd) (Cd Af))
 refine Ai ?s1 ?t1
 case s1=>exact (A7 (i:=2) (by exact Gg.nd) (Fo Abt Ak1 Zc C.vo Zd ZM))
 refine Ai ?s2 ?t2
 case s2=>exact (Yu 100000 eQ (Bb (Hz hu) H9 (Ag 2) (Cd Af) (Bj _)) (Ai (A7 (i:=3) (by exact Gg.nd) (Cd Af)) (Ai (Js eQ rfl (C0 (Ag 2)) (Ao (i:=4) (by exact Gg.nd)) (Ak (By (Bb (Dh hu) Dj (Kv (N':=["other","one"]) (ix:=[ψ,ξ 4]) ⟨rfl,rfl,rfl,rfl,rfl,rfl⟩ rfl (C0 (Ag 2)) (fun _ _ _ _ _ _=>(Ao (i:=0) (show cG (α:=Str) ["other","one"] by lk))) (fun _ _ _ _ _ _=>(Ej (Bi C.uW (W3 C) hr (Ac (Dg Fq E7 (Ag 1) (Co Aj) Ep) (Ac Zdw Af))))) (fun _ _ _ _ _ _=>Aj)) (Cd Af) (Bj _)) (Ak (Dp (K7 eX fU fV K9 Iw (Ag 3) (Ac (Ag 4) Af)))) Bn))) (Ai (Dp (K7 eX fU fV K9 Iw (Ag 1) (Ac (K7 eC kI kJ Aas Vo Be (Ac (Dy (N':=["one"]) (ix:=[ψ]) ⟨rfl,rfl,rfl,rfl,rfl,rfl⟩ rfl (C0 (Bi C.uY (O9 C) hr (Ac (Ag 3) (Ac (Aao Aj) Af)))) (fun _ _ _ _ _ _=>(Ao (i:=0) (show cG (α:=Str) ["one"] by lk))) ZbU) Af)) Af))) (Ak (Kx (i:=2) (N':=["one","best"]) (ix:=[ψ,ξ 3]) (by exact Gg.nd) ⟨rfl,rfl,rfl,rfl,rfl,rfl⟩ rfl (C0 (Ag 2)) (fun _ _ _ _ _ _=>(Ao (i:=0) (show cG (α:=Str) ["one","best"] by lk))) (fun _ _ _ _ _ _=>(Bb (Arc hu) Am4 (Ag 0) (Ag 1) (by with_unfolding_all rfl))) ZaF))))))
 exact (Ak (Au (Ag 1)))
theorem Wi(C:Defs K mg w):FnOk P w K mg base CX0 15 C.u4.f C.u4.d ["seed","kind","desk","points"] (spF K 4 Ip):=by
 refine Fun.okF C.u4.F De (fun cdv A outer s H E hr=>?_);have hu:=hr.units;refine Ai ?s0 ?t0
 case s0=>exact (A7 (i:=4) (by exact De.nd) (Bi C.uY (O9 C) hr (Ac (Ag 3) (Ac Aj Af))))
 refine Ai ?s1 ?t1
 case s1=>exact (By (PWF.pt (Sh (Bb (Hz hu) H9 (Mn C.ud C.uK (Ht C) hr (Ag 2) (Ac Be Af)) (Bi C.uX (Ac4 C) hr (Ac (Ag 4) (Ac Aj ZbO))) (Bj _)) (Oz (Bb (Hz hu) H9 (Mn C.ud C.uK (Ht C) hr (Ag 2) (Ac Be Af)) (Bi C.uZ (Adq C) hr Zaz) (Bj _))))) Zdg Bn)
 refine Ai ?s2 ?t2
 case s2=>exact (A7 (i:=5) (by exact De.nd) (Bk (Wl rfl) Yw Zc C.vv fS (Ac (Cd (Ac Zbr (Ac Zbr Af))) Af)))
 refine Ai ?s3 ?t3
 case s3=>exact (A7 (i:=6) (by exact De.nd) (Bk (Wl rfl) Yw Zc C.vv fS (Ac (Cd (Ac Zbr (Ac Zbr Af))) Af)))
 refine Ai ?s4 ?t4
 case s4=>exact (By Zdx (Ak (A7 (i:=5) (by exact De.nd) (Cd (Ac (Bm B7 B5 (Aao ZcD) Aj) (Ac (Bm Nj Jx ZcD Aj) Af))))) Bn)
 refine Ai ?s5 ?t5
 case s5=>exact (Q2 (Ja (Ac (Bg Aq Ar (Ag 5) Aj Zg) (Ac (Bg Aq Ar (Ag 6) Aj Zg) (Ac (Bg Aq Ar (Ag 5) Aj Zg) (Ac (Bg Aq Ar (Ag 6) Aj Zg) Af))))) (Jv rfl (Bt (Ao (i:=7) (by exact De.nd)) (Bt (Ao (i:=8) (by exact De.nd)) (Bt (Ao (i:=9) (by exact De.nd)) (Bt (Ao (i:=10) (by exact De.nd)) Gn))))))
 refine Ai ?s6 ?t6
 case s6=>exact (Kx (i:=11) (N':=["one","x","end","y","top"]) (ix:=ZdZ) (by exact De.nd) ⟨rfl,rfl,rfl,rfl,rfl,rfl⟩ rfl (C0 (Ag 4)) (fun _ _ _ _ _ _=>(Ao (i:=0) (show cG (α:=Str) ["one","x","end","y","top"] by lk))) (fun _ _ _ _ _ _=>(PWF.pt (Ih (R7 Jp Jp Gu Gu (Ag 1) Zw (Ag 2)) (Gv (R7 Jp Jp Gu Gu (Ag 3) Zw (Ag 4)))))) ZaF)
 refine Ai ?s7 ?t7
 case s7=>exact (Js eQ rfl (C0 (Cd (Ac Aj (Ac (Bm Kw Oh Zcm Aj) (Ac (Bm Nj Jx Zcm Aj) Af))))) (Ao (i:=12) (by exact De.nd)) (Ai (A7 (i:=13) (by exact De.nd) (Sj (.cons Be (.cons (Kh (Ag 12)) (.cons Be (.cons (Kh (Ag 7)) (.cons Be (.cons (Kh (Ag 8)) (.cons Be (.cons (Kh (Ag 9)) (.cons Be (.cons (Kh (Ag 10)) .nil)))))))))))) (Ak (By (PWF.pt (Ih (R7 Jp Yx Gu Sv Aj (Ag 12) Zcm) (Gv (Bb (Hz hu) H9 (Mn C.ud C.uK (Ht C) hr (Ag 2) (Ac (Ag 13) Af)) (Cd (Ac (Bg Aq Ar (Bg Aq Ar (Ag 11) (Ag 12) Zg) Aj Zg) Af)) (Bj _))))) Zdg Bn))))
 exact Zdg
theorem Akl(C:Defs K mg w):FnOk P w K mg base CX0 1 C.u5.f C.u5.d ["cell"] (spF K 1 Qf):=by
 refine Fun.okF C.u5.F Y0 (fun cdv A outer s H E hr=>?_);have hu:=hr.units;refine Ai ?s0 ?t0
 case s0=>exact (A7 (i:=1) (by exact Y0.nd) (Bk (Ain rfl) Ase Zc C.vp PyProof.Rows.boot_max (Ac (Ag 0) (Ac (Bm Nj Jx Aj (Ag 0)) Af))))
 exact (Ak (Au (Cd (Ac (Ag 1) (Ac (Fo Aj6 Arl Zc C.vm Zd (Ac (Lk Ank Aex (Ag 1) ZcD (Bj _)) Af)) (Ac Aj (Ac (Bm Pp Lj (Ag 0) Aj) Af)))))))
theorem Avt(C:Defs K mg w):FnOk P w K mg base CX0 16 C.u7.f C.u7.d ["script"] (spF K 1 Y1):=by
 refine Fun.okF C.u7.F Km (fun cdv A outer s H E hr=>?_);have hu:=hr.units;refine Ai ?s0 ?t0
 case s0=>exact (Js eQ rfl (C0 (Bi C.uQ (Afe C) hr (Ac (Ag 0) (Ac Aj Af)))) (Ao (i:=1) (by exact Km.nd)) (Ai (A7 (i:=2) (by exact Km.nd) (Bi C.u5 (Akl C) hr Z2)) (Ai (Q2 (Bi C.uP (Afi C) hr (Ac (Ag 2) (Ac (Bg Aq Ar (Cd (Ac Aj (Ac Aj Af))) (Bi C.uL (Ce C) hr (Ac (Ag 2) (Ac Aj Af))) Zg) Af))) (Ade rfl (Bt (Ao (i:=3) (by exact Km.nd)) (Bt (Ao (i:=4) (by exact Km.nd)) (Bt (Ao (i:=5) (by exact Km.nd)) Gn))))) (Ai (A7 (i:=6) (by exact Km.nd) (Bi C.uV (Ajp C) hr Zdb)) (Ai (By (Rm (Ej (Bi C.u4 (Wi C) hr (Ac (Ag 2) (Ac (Ag 4) (Ac (Ag 6) Zdb)))))) Zdg Bn) (Ai (Js eQ rfl Zer (Ao (i:=7) (by exact Km.nd)) (Ai (Q2 (Bi C.uS (Ajm C) hr (Ac (Ag 2) (Ac (Ag 3) (Ac (Ag 4) Zdb)))) (Ade rfl (Bt (Ao (i:=8) (by exact Km.nd)) (Bt (Ao (i:=5) (by exact Km.nd)) Gn)))) (Ak (Dp (Mn C.ud C.uK (Ht C) hr (Ag 6) (Ac (Ag 8) Af)))))) (Ak (By (Rm (Ej (Bi C.u4 (Wi C) hr (Ac (Ag 2) (Ac (Ag 4) (Ac (Ag 6) Zdb)))))) Zdg Bn))))))))
 exact Zdg
end
theorem Av6{l:lB}{w:cM}{K:aF}{fa:Addr}(C:Defs K mg w)(hfa:mg "law" = ξ (.ref fa)) :
  ∃ fd:dS,(∀ (s:aN) (v:aH),mB s fd ⟨[v],[]⟩ [("script",v)])/\∀ base:Heap,K.In base->base.Ns bU mg->FnOk l.prog w K mg base CX0 16 fa fd ["script"] (spF K 1 Y1):=
 C.u7.law (Q:=fun fa fd=>∀ base:Heap,K.In base->base.Ns bU mg->FnOk l.prog w K mg base CX0 16 fa fd ["script"] (spF K 1 Y1)) hfa (fun _ _ _ _ _ _ s v=>.of_eq rfl) fun base _ _=>Avt C
noncomputable section
variable (P:nE)
abbrev fn(a b:Str)(s:Stmt)(dV kV d p:aH)(n:Option Addr)(c t:aH):dS:=fP a b (Hl s) (Fw s) (An s) dV kV d p n c t
abbrev zf(a b:Str)(s:Stmt)(p c:aH):Obj:=⟨.type "function",ψ,.func (fn a b s .none .none .none p ψ c .none),#[]⟩
abbrev zx(a b:Str)(s:Stmt):Obj:=⟨.none,ψ,.func ⟨a,b,Hl s,.stmts (Fw s),An s,0,[],.none,.none,.none,.none,ψ,.none,.none,0⟩,#[]⟩
noncomputable abbrev zi(n:Int):aH:=.int n 0
noncomputable abbrev zr(a:Addr):aH:=.ref a
noncomputable abbrev zs(a:Str)(n:Nat):aH:=.str a n
noncomputable abbrev zc(l:List aH):Obj:=⟨.type "code",ψ,.fields l.toArray,#[]⟩
noncomputable abbrev zt(l:List aH):Obj:=⟨.type "tuple",ψ,.seq l.toArray 0,#[]⟩
noncomputable abbrev zl(l:List aH):Obj:=⟨.none,ψ,.fields l.toArray,#[]⟩
noncomputable abbrev zd(l:List pR)(n:Nat):Obj:=⟨.type "dict",ψ,.dict l.toArray n,#[]⟩
noncomputable abbrev zn(o:Obj)(l r:dX):dX:=.node o l r
noncomputable abbrev zg(o:Obj):dX:=.node o .nil .nil
noncomputable abbrev de(s:Str)(n:Nat)(v:aH):pR:=⟨tX P s,.str s n,v⟩
abbrev zA(a b:Str)(n:Nat)(l c:Int)(r:Nat)(m e:Int):Obj:=zc [zs a n,zs b (n+1),zs "/claim/cut.py" (n+2),zi l,zi c,zi 0,zi 0,zi 3,zr r,.bool true,zi m,zr (r+1),.none,zr (r+2),zr (r+3),zr (r+4),zi e,zi l,zs "/claim/cut.py" (e.toNat+1)]
abbrev zB(a b:Str)(n:Nat)(l c:Int)(r:Nat)(m e:Int):Obj:=zc [zs a n,zs b (n+1),zs "/claim/cut.py" (n+2),zi l,zi c,zi 0,zi 0,zi 3,zr r,.bool true,zi m,zr (r+1),.none,.none,.none,zr (r+2),zi e,zi l,zs "/claim/cut.py" (e.toNat+1)]
noncomputable def sp2(l:List Obj):List Obj×List Obj:=l.foldr (fun a p=>(a::p.2,p.1)) ([],[])
def mkT:Nat->List Obj->dX
 | 0,_=>.nil
 | _+1,[]=>.nil
 | k+1,o::l=>.node o (mkT k (sp2 l).1) (mkT k (sp2 l).2)
abbrev G8:aH:=zs "belowpoints.errors" 194
abbrev Xr:aH:=zs "belowpoints.heaps.texts" 287
abbrev Ag6:aH:=zs "belowpoints.chains.covers" 362
abbrev Acs:aH:=zs "belowpoints.counts.pairs" 329
abbrev O6:aH:=zs "belowpoints.chains.stairs" 391
abbrev Xv:aH:=zs "belowpoints.heaps.boxes" 480
abbrev Ib:aH:=zs "belowpoints.kept" 519
abbrev Iy:aH:=zs "belowpoints.whole" 631
def zo1:Obj:=zd [de P "builtins" 162 (zr 4),de P "__main__" 163 (zr 5)] 2
noncomputable def zo2:Obj:=⟨.none,ψ,(.dict #[] 0),#[]⟩
noncomputable def zo4:Obj:=⟨(.type "module"),(ξ 0),.plain,#[]⟩
noncomputable def zo5:Obj:=⟨(.type "module"),(ξ 3),.plain,#[]⟩
def zo6:Obj:=zd [] 0
def zo7:Obj:=zt []
def zo8:Obj:=zl []
def zo9:Obj:=zc [(zs "<module>" 176),(zs "<module>" 177),(zs "/claim/cut.py" 178),(zi 1),(zi 0),(zi 0),(zi 0),(zi 0),(zr 7),Zcg,(zi 175),(zr 8),.none,.none,.none,.none,(zi 179),(zi 1),(zs "/claim/cut.py" 180)]
def zo10:Obj:=⟨(.type "frame"),ψ,.plain,#[(ξ (zr 9)),(ξ (zr 3)),(ξ (zr 3)),ψ,(ξ (zs "__main__" 164)),ψ,(ξ (zr 0))]⟩
def A3q:Obj:=zc [(zs "<module>" 182),(zs "<module>" 183),(zs "/claim/cut.py" 184),(zi 1),(zi 0),(zi 0),(zi 0),(zi 0),(zr 11),Zcg,(zi 181),(zr 12),.none,.none,.none,.none,(zi 185),(zi 1),(zs "/claim/cut.py" 186)]
def A3u:Obj:=⟨(.type "frame"),ψ,.plain,#[(ξ (zr 13)),(ξ (zr 3)),(ξ (zr 3)),ψ,(ξ (zs "__main__" 164)),ψ,(ξ (zr 0))]⟩
def gz:List pR:=[de P "__doc__" 166 .none,de P "__package__" 167 .none,de P "__loader__" 168 (.builtin "__main__.__loader__#opaque"),de P "__spec__" 169 .none,de P "__annotations__" 170 (zr 6),de P "__builtins__" 171 (zr 4),de P "__file__" 173 (zs "/claim/cut.py" 172),de P "__cached__" 174 .none,de P "_wall" 193 (zr 21),de P "BelowError" 213 (zr 31),de P "NoPlace" 237 (zr 51),de P "NoAsk" 261 (zr 70),de P "NoName" 286 (zr 89),de P "LETTERS" 290 (zs "abcdefghijklmnopqrstuvwxyz" 289),de P "FIGURES" 292 (zs "0123456789" 291),de P "LONGEST_NAME" 294 (.int 8 293),de P "lies_below" 300 (zr 96),de P "place_of" 307 (zr 103),de P "is_name" 314 (zr 110),de P "is_number" 322 (zr 117),de P "holds_only" 328 (zr 122),de P "below_each" 336 (zr 127),de P "above_each" 342 (zr 132),de P "pairs_in_all" 349 (zr 139),de P "many_below" 355 (zr 144),de P "many_above" 361 (zr 149),de P "crowd_of" 369 (zr 154),de P "chains_laid" 380 (zr 161),de P "first_that_takes" 390 (zr 168),de P "stairs_of" 398 (zr 173),de P "longest_chains" 408 (zr 180),de P "heaviest_chain" 414 (zr 185),de P "chains_of_each" 420 (zr 190),de P "heaviest_begun" 426 (zr 195),de P "first_heaviest" 433 (zr 202),de P "turns_from_the_highest" 441 (zr 209),de P "turns_above" 447 (zr 214),de P "sum_at" 453 (zr 219),de P "halves_of" 461 (zr 224),de P "halves_between" 473 (zr 231),de P "crossings_of" 479 (zr 236),de P "in_boxes" 487 (zr 241),de P "nth_by_x" 496 (zr 248),de P "points_in" 502 (zr 253),de P "is_held" 510 (zr 260),de P "name_at" 518 (zr 267),de P "KeptPoints" 630 (zr 352),de P "MOST_POINTS" 634 (.int 60 633),de P "MOST_FIGURES" 636 (.int 10 635),de P "FORMS" 685 (zr 357),de P "Desk" 748 (zr 416),de P "given_behind" 754 (zr 425),de P "value_of" 762 (zr 432),de P "rows_of" 768 (zr 437),de P "rows_shown" 774 (zr 442),de P "row_shown" 780 (zr 447),de P "_law_seed" 790 (zr 454),de P "_law_draw" 800 (zr 461),de P "_law_cells" 808 (zr 468),de P "_law_place" 816 (zr 475),de P "_law_pool" 822 (zr 480),de P "_law_name" 830 (zr 487),de P "_law_begun" 844 (zr 494),de P "_law_below" 852 (zr 501),de P "_law_rows" 858 (zr 506),de P "_law_laid" 867 (zr 513),de P "_law_deed" 873 (zr 518),de P "_law_halves" 879 (zr 523),de P "_law_in_order" 885 (zr 528),de P "_law_stairs" 891 (zr 533),de P "_law_right" 897 (zr 538),de P "law" 912 (zr 545)]
def A3o:Obj:=zd (de P "__name__" 165 G8::((gz P).take 10)) 11
def cz:List aH:=[(zi 1),(zi 0),(zr 20),(zi 5),(zi 0),(zr 27),(zi 7),(zi 0),(zr 40),(zi 11),(zi 0),(zr 59),(zi 15),(zi 0),(zr 78),(zi 24),(zi 0),(zr 95),(zi 26),(zi 0),(zr 102),(zi 28),(zi 0),(zr 109),(zi 30),(zi 0),(zr 116),(zi 35),(zi 0),(zr 121),(zi 38),(zi 0),(zr 126),(zi 41),(zi 0),(zr 131),(zi 44),(zi 0),(zr 138),(zi 46),(zi 0),(zr 143),(zi 48),(zi 0),(zr 148),(zi 51),(zi 0),(zr 153),(zi 57),(zi 0),(zr 160),(zi 66),(zi 0),(zr 167),(zi 72),(zi 0),(zr 172),(zi 81),(zi 0),(zr 179),(zi 89),(zi 0),(zr 184),(zi 94),(zi 0),(zr 189),(zi 102),(zi 0),(zr 194),(zi 109),(zi 0),(zr 201),(zi 111),(zi 0),(zr 208),(zi 113),(zi 0),(zr 213),(zi 116),(zi 0),(zr 218),(zi 119),(zi 0),(zr 223),(zi 122),(zi 0),(zr 230),(zi 129),(zi 0),(zr 235),(zi 132),(zi 0),(zr 240),(zi 134),(zi 0),(zr 247),(zi 136),(zi 0),(zr 252),(zi 138),(zi 0),(zr 259),(zi 140),(zi 0),(zr 266),(zi 145),(zi 0),(zr 273),(zi 188),(zi 0),(zr 377),(zi 224),(zi 0),(zr 424),(zi 229),(zi 0),(zr 431),(zi 239),(zi 0),(zr 436),(zi 255),(zi 0),(zr 441),(zi 257),(zi 0),(zr 446),(zi 260),(zi 0),(zr 453),(zi 263),(zi 0),(zr 460),(zi 272),(zi 0),(zr 467),(zi 274),(zi 0),(zr 474),(zi 278),(zi 0),(zr 479),(zi 286),(zi 0),(zr 486),(zi 290),(zi 0),(zr 493),(zi 302),(zi 0),(zr 500),(zi 304),(zi 0),(zr 505),(zi 306),(zi 0),(zr 512),(zi 311),(zi 0),(zr 517),(zi 329),(zi 0),(zr 522),(zi 338),(zi 0),(zr 527),(zi 341),(zi 0),(zr 532),(zi 352),(zi 0),(zr 537),(zi 367),(zi 0),(zr 544)]
def A4g:Obj:=zl (cz.take 6)
def A3l:Obj:=zt [(zs "k" 190)]
def A4u:Obj:=zx "_wall" "_wall" (top 0)
def zo17:Obj:=zA "_wall" "_wall" 187 1 1 15 181 191
def A37:Obj:=zf "_wall" "_wall" (top 0) (zs "__main__" 164) (zr 20)
def zo19:Obj:=zt [(.type "ValueError")]
noncomputable def zo20:Obj:=⟨(.type "builtin_function_or_method"),ψ,(.fields #[(.builtin "type.__prepare__"),(.type "type")]),#[]⟩
def A0r:Obj:=zd [de P "__module__" 203 G8,de P "__qualname__" 205 (zs "BelowError" 204),de P "__firstlineno__" 207 (.int 5 206),de P "__static_attributes__" 208 (zr 29)] 4
def zo22:Obj:=zc [(zs "BelowError" 198),(zs "BelowError" 199),(zs "/claim/cut.py" 200),(zi 5),(zi 0),(zi 0),(zi 0),(zi 0),(zr 25),Zcg,(zi 181),(zr 26),.none,.none,.none,.none,(zi 201),(zi 5),(zs "/claim/cut.py" 202)]
def A3g:Obj:=⟨(.type "frame"),ψ,.plain,#[(ξ (zr 27)),(ξ (zr 3)),(ξ (zr 24)),ψ,(ξ G8),ψ,(ξ (zr 0))]⟩
def Ax5:Obj:=zd [de P "__module__" 203 G8,de P "__firstlineno__" 207 (.int 5 206),de P "__static_attributes__" 208 (zr 29),de P "__weakref__" 210 (zr 32),de P "__doc__" 211 .none] 3
def zo25:Obj:=⟨(.type "type"),ψ,(.cls ⟨"BelowError",[(.type "ValueError")],[(zr 31),(.type "ValueError"),(.type "Exception"),(.type "BaseException"),(.type "object")],30,"BelowError",true,[],[],false,ψ,false⟩),#[(ξ (zr 22)),ψ,(ξ (zs "BelowError" 196)),(ξ (zs "BelowError" 204)),(ξ (.builtin "ValueError.__new__")),Za1]⟩
def A3k:Obj:=⟨(.type "getset_descriptor"),ψ,(.fields #[(zs "__weakref__" 209),(zr 31),(.builtin "ExceptionGroup.__weakref__"),.none]),#[]⟩
def zo27:Obj:=⟨(.type "super"),ψ,(.fields #[(zr 31),(zr 31),(zr 31)]),#[]⟩
def A31:Obj:=⟨(.type "builtin_function_or_method"),ψ,(.fields #[(.builtin "object.__init_subclass__"),(zr 31)]),#[]⟩
def A4r:Obj:=zd (de P "__name__" 165 G8::((gz P).take 11)) 12
def A4a:Obj:=zl (cz.take 9)
def A4i:Obj:=⟨(.type "type"),ψ,(.cls ⟨"BelowError",[(.type "ValueError")],[(zr 31),(.type "ValueError"),(.type "Exception"),(.type "BaseException"),(.type "object")],30,"BelowError",true,[],[(zr 51)],false,ψ,false⟩),#[(ξ (zr 22)),ψ,(ξ (zs "BelowError" 196)),(ξ (zs "BelowError" 204)),(ξ (.builtin "ValueError.__new__")),Za1]⟩
def Au9:Obj:=zt [(zr 31)]
def A10:Obj:=zd [de P "__module__" 221 G8,de P "__qualname__" 223 (zs "NoPlace" 222),de P "__firstlineno__" 225 (.int 7 224),de P "__init__" 233 (zr 48),de P "__static_attributes__" 234 (zr 49)] 5
def A46:Obj:=zl [(zi 9),(zi 4),(zr 47)]
def zo35:Obj:=zc [(zs "NoPlace" 216),(zs "NoPlace" 217),(zs "/claim/cut.py" 218),(zi 7),(zi 0),(zi 0),(zi 0),(zi 0),(zr 38),Zcg,(zi 181),(zr 39),.none,.none,.none,.none,(zi 219),(zi 7),(zs "/claim/cut.py" 220)]
def A30:Obj:=⟨(.type "frame"),ψ,.plain,#[(ξ (zr 40)),(ξ (zr 3)),(ξ (zr 37)),ψ,(ξ G8),ψ,(ξ (zr 0))]⟩
def zo37:Obj:=zt [(zs "self" 229),(zs "text" 230)]
def zo38:Obj:=zx "__init__" "NoPlace.__init__" (Bc (top 3) 0)
def A3z:Obj:=zA "__init__" "NoPlace.__init__" 226 9 2 42 181 231
def zo40:Obj:=zf "__init__" "NoPlace.__init__" (Bc (top 3) 0) G8 (zr 47)
def Ayw:Obj:=zd [de P "__module__" 221 G8,de P "__firstlineno__" 225 (.int 7 224),de P "__init__" 233 (zr 48),de P "__static_attributes__" 234 (zr 49),de P "__doc__" 235 .none] 2
def zo42:Obj:=⟨(.type "type"),ψ,(.cls ⟨"NoPlace",[(zr 31)],[(zr 51),(zr 31),(.type "ValueError"),(.type "Exception"),(.type "BaseException"),(.type "object")],50,"NoPlace",true,[],[],false,ψ,false⟩),#[(ξ (zr 35)),ψ,(ξ (zs "NoPlace" 214)),(ξ (zs "NoPlace" 222)),(ξ (.builtin "ValueError.__new__")),Za1]⟩
def A4b:Obj:=⟨(.type "super"),ψ,(.fields #[(zr 51),(zr 51),(zr 51)]),#[]⟩
def A4f:Obj:=⟨(.type "builtin_function_or_method"),ψ,(.fields #[(.builtin "object.__init_subclass__"),(zr 51)]),#[]⟩
def A4t:Obj:=zd (de P "__name__" 165 G8::((gz P).take 12)) 13
def A3v:Obj:=zl (cz.take 12)
def A4h:Obj:=⟨(.type "type"),ψ,(.cls ⟨"BelowError",[(.type "ValueError")],[(zr 31),(.type "ValueError"),(.type "Exception"),(.type "BaseException"),(.type "object")],30,"BelowError",true,[],[(zr 51),(zr 70)],false,ψ,false⟩),#[(ξ (zr 22)),ψ,(ξ (zs "BelowError" 196)),(ξ (zs "BelowError" 204)),(ξ (.builtin "ValueError.__new__")),Za1]⟩
def Az7:Obj:=zd [de P "__module__" 245 G8,de P "__qualname__" 247 (zs "NoAsk" 246),de P "__firstlineno__" 249 (.int 11 248),de P "__init__" 257 (zr 67),de P "__static_attributes__" 258 (zr 68)] 5
def A3t:Obj:=zl [(zi 13),(zi 4),(zr 66)]
def zo50:Obj:=zc [(zs "NoAsk" 240),(zs "NoAsk" 241),(zs "/claim/cut.py" 242),(zi 11),(zi 0),(zi 0),(zi 0),(zi 0),(zr 57),Zcg,(zi 181),(zr 58),.none,.none,.none,.none,(zi 243),(zi 11),(zs "/claim/cut.py" 244)]
def A4o:Obj:=⟨(.type "frame"),ψ,.plain,#[(ξ (zr 59)),(ξ (zr 3)),(ξ (zr 56)),ψ,(ξ G8),ψ,(ξ (zr 0))]⟩
def zo52:Obj:=zt [(zs "self" 253),(zs "text" 254)]
def zo53:Obj:=zx "__init__" "NoAsk.__init__" (Bc (top 4) 0)
def A3d:Obj:=zA "__init__" "NoAsk.__init__" 250 13 2 61 181 255
def zo55:Obj:=zf "__init__" "NoAsk.__init__" (Bc (top 4) 0) G8 (zr 66)
def Ayi:Obj:=zd [de P "__module__" 245 G8,de P "__firstlineno__" 249 (.int 11 248),de P "__init__" 257 (zr 67),de P "__static_attributes__" 258 (zr 68),de P "__doc__" 259 .none] 2
def zo57:Obj:=⟨(.type "type"),ψ,(.cls ⟨"NoAsk",[(zr 31)],[(zr 70),(zr 31),(.type "ValueError"),(.type "Exception"),(.type "BaseException"),(.type "object")],69,"NoAsk",true,[],[],false,ψ,false⟩),#[(ξ (zr 54)),ψ,(ξ (zs "NoAsk" 238)),(ξ (zs "NoAsk" 246)),(ξ (.builtin "ValueError.__new__")),Za1]⟩
def A4s:Obj:=⟨(.type "super"),ψ,(.fields #[(zr 70),(zr 70),(zr 70)]),#[]⟩
def A38:Obj:=⟨(.type "builtin_function_or_method"),ψ,(.fields #[(.builtin "object.__init_subclass__"),(zr 70)]),#[]⟩
def A4w:Obj:=zd (de P "__name__" 165 Xr::((gz P).take 16)) 17
def A4y:Obj:=zl (cz.take 15)
def A1w:Obj:=⟨(.type "type"),ψ,(.cls ⟨"BelowError",[(.type "ValueError")],[(zr 31),(.type "ValueError"),(.type "Exception"),(.type "BaseException"),(.type "object")],30,"BelowError",true,[],[(zr 51),(zr 70),(zr 89)],false,ψ,false⟩),#[(ξ (zr 22)),ψ,(ξ (zs "BelowError" 196)),(ξ (zs "BelowError" 204)),(ξ (.builtin "ValueError.__new__")),Za1]⟩
def Azk:Obj:=zd [de P "__module__" 269 G8,de P "__qualname__" 271 (zs "NoName" 270),de P "__firstlineno__" 273 (.int 15 272),de P "__init__" 281 (zr 86),de P "__static_attributes__" 283 (zr 87)] 5
def A36:Obj:=zl [(zi 17),(zi 4),(zr 85)]
def zo65:Obj:=zc [(zs "NoName" 264),(zs "NoName" 265),(zs "/claim/cut.py" 266),(zi 15),(zi 0),(zi 0),(zi 0),(zi 0),(zr 76),Zcg,(zi 181),(zr 77),.none,.none,.none,.none,(zi 267),(zi 15),(zs "/claim/cut.py" 268)]
def A35:Obj:=⟨(.type "frame"),ψ,.plain,#[(ξ (zr 78)),(ξ (zr 3)),(ξ (zr 75)),ψ,(ξ G8),ψ,(ξ (zr 0))]⟩
def zo67:Obj:=zt [(zs "self" 277),(zs "word" 278)]
def zo68:Obj:=zx "__init__" "NoName.__init__" (Bc (top 5) 0)
def A32:Obj:=zA "__init__" "NoName.__init__" 274 17 2 80 181 279
def zo70:Obj:=zf "__init__" "NoName.__init__" (Bc (top 5) 0) G8 (zr 85)
def A4e:Obj:=zt [(zs "word" 282)]
def A2o:Obj:=zd [de P "__module__" 269 G8,de P "__firstlineno__" 273 (.int 15 272),de P "__init__" 281 (zr 86),de P "__static_attributes__" 283 (zr 87),de P "__doc__" 284 .none] 2
def zo73:Obj:=⟨(.type "type"),ψ,(.cls ⟨"NoName",[(zr 31)],[(zr 89),(zr 31),(.type "ValueError"),(.type "Exception"),(.type "BaseException"),(.type "object")],88,"NoName",true,[],[],false,ψ,false⟩),#[(ξ (zr 73)),ψ,(ξ (zs "NoName" 262)),(ξ (zs "NoName" 270)),(ξ (.builtin "ValueError.__new__")),Za1]⟩
def A42:Obj:=⟨(.type "super"),ψ,(.fields #[(zr 89),(zr 89),(zr 89)]),#[]⟩
def A41:Obj:=⟨(.type "builtin_function_or_method"),ψ,(.fields #[(.builtin "object.__init_subclass__"),(zr 89)]),#[]⟩
def A47:Obj:=zd (de P "__name__" 165 Ag6::((gz P).take 26)) 27
def A5n:Obj:=zl (cz.take 45)
def A34:Obj:=zx "lies_below" "lies_below" (top 10)
def zo79:Obj:=zB "lies_below" "lies_below" 295 24 2 92 181 298
def A07:Obj:=zf "lies_below" "lies_below" (top 10) Xr (zr 95)
def zo81:Obj:=zt [(zs "point" 304)]
def zo82:Obj:=zx "place_of" "place_of" (top 11)
def A2d:Obj:=zA "place_of" "place_of" 301 26 1 97 181 305
def zo84:Obj:=zf "place_of" "place_of" (top 11) Xr (zr 102)
def A5b:Obj:=zt [(zs "word" 311)]
def A3n:Obj:=zx "is_name" "is_name" (top 12)
def zo87:Obj:=zA "is_name" "is_name" 308 28 1 104 181 312
def Axy:Obj:=zf "is_name" "is_name" (top 12) Xr (zr 109)
def zo89:Obj:=zt [(zs "word" 318),(zs "figures" 319)]
def zo90:Obj:=zx "is_number" "is_number" (top 13)
def Ax1:Obj:=zA "is_number" "is_number" 315 30 1 111 181 320
def zo92:Obj:=zf "is_number" "is_number" (top 13) Xr (zr 116)
def A44:Obj:=zx "holds_only" "holds_only" (top 14)
def zo94:Obj:=zB "holds_only" "holds_only" 323 35 2 118 181 326
def A1d:Obj:=zf "holds_only" "holds_only" (top 14) Xr (zr 121)
def zo96:Obj:=zx "below_each" "below_each" (top 16)
def A3j:Obj:=zB "below_each" "below_each" 331 38 1 123 181 334
def zo98:Obj:=zf "below_each" "below_each" (top 16) Acs (zr 126)
def A4v:Obj:=zx "above_each" "above_each" (top 17)
def zo100:Obj:=zB "above_each" "above_each" 337 41 1 128 181 340
def Atj:Obj:=zf "above_each" "above_each" (top 17) Acs (zr 131)
def zo102:Obj:=zt [(zs "points" 346)]
def zo103:Obj:=zx "pairs_in_all" "pairs_in_all" (top 18)
def A0m:Obj:=zA "pairs_in_all" "pairs_in_all" 343 44 1 133 181 347
def zo105:Obj:=zf "pairs_in_all" "pairs_in_all" (top 18) Acs (zr 138)
def Ayf:Obj:=zx "many_below" "many_below" (top 19)
def zo107:Obj:=zB "many_below" "many_below" 350 46 2 140 181 353
def Asw:Obj:=zf "many_below" "many_below" (top 19) Acs (zr 143)
def zo109:Obj:=zx "many_above" "many_above" (top 20)
def Ass:Obj:=zB "many_above" "many_above" 356 48 2 145 181 359
def Auy:Obj:=zf "many_above" "many_above" (top 20) Acs (zr 148)
def A2f:Obj:=zd (de P "__name__" 165 O6::((gz P).take 36)) 37
def Az8:Obj:=zl (cz.take 75)
def Ayj:Obj:=zx "crowd_of" "crowd_of" (top 22)
def zo115:Obj:=zB "crowd_of" "crowd_of" 364 51 1 150 181 367
def Az2:Obj:=zf "crowd_of" "crowd_of" (top 22) Ag6 (zr 153)
def zo117:Obj:=zt [(zs "points" 373),(zs "chains" 374),(zs "point" 375),(zs "turn" 376),(zs "crowd" 377)]
def zo118:Obj:=zx "chains_laid" "chains_laid" (top 23)
def A00:Obj:=zA "chains_laid" "chains_laid" 370 57 1 155 181 378
def zo120:Obj:=zf "chains_laid" "chains_laid" (top 23) Ag6 (zr 160)
def Ay3:Obj:=zt [(zs "chains" 384),(zs "point" 385),(zs "turn" 386),(zs "chain" 387)]
def A2v:Obj:=zx "first_that_takes" "first_that_takes" (top 24)
def zo123:Obj:=zA "first_that_takes" "first_that_takes" 381 66 2 162 181 388
def Ay9:Obj:=zf "first_that_takes" "first_that_takes" (top 24) Ag6 (zr 167)
def zo125:Obj:=zx "stairs_of" "stairs_of" (top 26)
def As6:Obj:=zB "stairs_of" "stairs_of" 393 72 1 169 181 396
def zo127:Obj:=zf "stairs_of" "stairs_of" (top 26) O6 (zr 172)
def A0g:Obj:=zt [(zs "points" 402),(zs "ones" 403),(zs "point" 404),(zs "heaviest" 405)]
def A25:Obj:=zx "longest_chains" "longest_chains" (top 27)
def zo130:Obj:=zA "longest_chains" "longest_chains" 399 81 1 174 181 406
def A1a:Obj:=zf "longest_chains" "longest_chains" (top 27) O6 (zr 179)
def zo132:Obj:=zx "heaviest_chain" "heaviest_chain" (top 28)
def A1e:Obj:=zB "heaviest_chain" "heaviest_chain" 409 89 2 181 181 412
def zo134:Obj:=zf "heaviest_chain" "heaviest_chain" (top 28) O6 (zr 184)
def A09:Obj:=zx "chains_of_each" "chains_of_each" (top 29)
def zo136:Obj:=zB "chains_of_each" "chains_of_each" 415 94 1 186 181 418
def A0o:Obj:=zf "chains_of_each" "chains_of_each" (top 29) O6 (zr 189)
def zo138:Obj:=zx "heaviest_begun" "heaviest_begun" (top 30)
def Azl:Obj:=zB "heaviest_begun" "heaviest_begun" 421 102 2 191 181 424
def zo140:Obj:=zf "heaviest_begun" "heaviest_begun" (top 30) O6 (zr 194)
def Aye:Obj:=zt [(zs "chains" 430)]
def A04:Obj:=zx "first_heaviest" "first_heaviest" (top 31)
def zo143:Obj:=zA "first_heaviest" "first_heaviest" 427 109 1 196 181 431
def Azo:Obj:=zf "first_heaviest" "first_heaviest" (top 31) O6 (zr 201)
def zo145:Obj:=zt [(zs "points" 437)]
def Azu:Obj:=zt [(zs "points" 438)]
def zo147:Obj:=zx "turns_from_the_highest" "turns_from_the_highest" (top 32)
def Ayp:Obj:=zA "turns_from_the_highest" "turns_from_the_highest" 434 111 1 203 181 439
def A0b:Obj:=zf "turns_from_the_highest" "turns_from_the_highest" (top 32) O6 (zr 208)
def Axx:Obj:=zd (de P "__name__" 165 Xv::((gz P).take 46)) 47
def A1n:Obj:=zl (cz.take 105)
def A2l:Obj:=zx "turns_above" "turns_above" (top 33)
def zo153:Obj:=zB "turns_above" "turns_above" 442 113 2 210 181 445
def A1h:Obj:=zf "turns_above" "turns_above" (top 33) O6 (zr 213)
def zo155:Obj:=zx "sum_at" "sum_at" (top 34)
def Ay2:Obj:=zB "sum_at" "sum_at" 448 116 2 215 181 451
def zo157:Obj:=zf "sum_at" "sum_at" (top 34) O6 (zr 218)
def Ay4:Obj:=zx "halves_of" "halves_of" (top 36)
def zo159:Obj:=zB "halves_of" "halves_of" 456 119 1 220 181 459
def Aup:Obj:=zf "halves_of" "halves_of" (top 36) (zs "belowpoints.counts.halves" 454) (zr 223)
def zo161:Obj:=zt [(zs "places" 465),(zs "first" 466),(zs "behind" 467),(zs "many" 468),(zs "middle" 469),(zs "whole" 470)]
def zo162:Obj:=zx "halves_between" "halves_between" (top 37)
def Atk:Obj:=zA "halves_between" "halves_between" 462 122 3 225 181 471
def zo164:Obj:=zf "halves_between" "halves_between" (top 37) (zs "belowpoints.counts.halves" 454) (zr 230)
def Ayq:Obj:=zx "crossings_of" "crossings_of" (top 38)
def zo166:Obj:=zB "crossings_of" "crossings_of" 474 129 2 232 181 477
def Aut:Obj:=zf "crossings_of" "crossings_of" (top 38) (zs "belowpoints.counts.halves" 454) (zr 235)
def zo168:Obj:=zx "in_boxes" "in_boxes" (top 40)
def A2a:Obj:=zB "in_boxes" "in_boxes" 482 132 2 237 181 485
def zo170:Obj:=zf "in_boxes" "in_boxes" (top 40) Xv (zr 240)
def A2c:Obj:=zt [(zs "points" 491),(zs "box" 492),(zs "place" 493)]
def Ayv:Obj:=zx "nth_by_x" "nth_by_x" (top 41)
def zo173:Obj:=zA "nth_by_x" "nth_by_x" 488 134 3 242 181 494
def Auw:Obj:=zf "nth_by_x" "nth_by_x" (top 41) Xv (zr 247)
def zo175:Obj:=zx "points_in" "points_in" (top 42)
def Auf:Obj:=zB "points_in" "points_in" 497 136 2 249 181 500
def zo177:Obj:=zf "points_in" "points_in" (top 42) Xv (zr 252)
def Ayk:Obj:=zt [(zs "point" 506),(zs "box" 507)]
def Ay5:Obj:=zx "is_held" "is_held" (top 43)
def zo180:Obj:=zA "is_held" "is_held" 503 138 2 254 181 508
def As7:Obj:=zf "is_held" "is_held" (top 43) Xv (zr 259)
def zo182:Obj:=zt [(zs "points" 514),(zs "place" 515)]
def zo183:Obj:=zx "name_at" "name_at" (top 44)
def Aux:Obj:=zA "name_at" "name_at" 511 140 2 261 181 516
def At8:Obj:=zf "name_at" "name_at" (top 44) Xv (zr 266)
def A1k:Obj:=zd (de P "__name__" 165 Ib::((gz P).take 46)) 47
def Azt:Obj:=zd (de P "__name__" 165 Ib::((gz P).take 47)) 48
def Ay8:Obj:=zl (cz.take 108)
def At5:Obj:=zd [de P "__module__" 528 Ib,de P "__qualname__" 530 (zs "KeptPoints" 529),de P "__firstlineno__" 532 (.int 145 531),de P "__init__" 539 (zr 281),de P "put_point" 549 (zr 288),de P "take_point" 557 (zr 295),de P "move_point" 567 (zr 302),de P "points_now" 574 (zr 309),de P "below_now" 583 (zr 316),de P "above_now" 592 (zr 323),de P "pairs_now" 599 (zr 330),de P "box_now" 607 (zr 337),de P "places_now" 613 (zr 342),de P "need_name" 621 (zr 349),de P "__static_attributes__" 623 (zr 350)] 15
def A06:Obj:=zl [(zi 147),(zi 4),(zr 280),(zi 150),(zi 4),(zr 287),(zi 155),(zi 4),(zr 294),(zi 159),(zi 4),(zr 301),(zi 163),(zi 4),(zr 308),(zi 166),(zi 4),(zr 315),(zi 169),(zi 4),(zr 322),(zi 172),(zi 4),(zr 329),(zi 175),(zi 4),(zr 336),(zi 178),(zi 4),(zr 341),(zi 181),(zi 4),(zr 348)]
def zo191:Obj:=zc [(zs "KeptPoints" 523),(zs "KeptPoints" 524),(zs "/claim/cut.py" 525),(zi 145),(zi 0),(zi 0),(zi 0),(zi 0),(zr 271),Zcg,(zi 181),(zr 272),.none,.none,.none,.none,(zi 526),(zi 145),(zs "/claim/cut.py" 527)]
def A15:Obj:=⟨(.type "frame"),ψ,.plain,#[(ξ (zr 273)),(ξ (zr 3)),(ξ (zr 270)),ψ,(ξ Ib),ψ,(ξ (zr 0))]⟩
def zo193:Obj:=zt [(zs "self" 536)]
def zo194:Obj:=zx "__init__" "KeptPoints.__init__" (Bc (top 46) 0)
def Auk:Obj:=zA "__init__" "KeptPoints.__init__" 533 147 1 275 181 537
def zo196:Obj:=zf "__init__" "KeptPoints.__init__" (Bc (top 46) 0) Ib (zr 280)
def A2x:Obj:=zt [(zs "self" 543),(zs "name" 544),(zs "x" 545),(zs "y" 546)]
def A1y:Obj:=zx "put_point" "KeptPoints.put_point" (Bc (top 46) 1)
def zo199:Obj:=zA "put_point" "KeptPoints.put_point" 540 150 4 282 181 547
def As4:Obj:=zf "put_point" "KeptPoints.put_point" (Bc (top 46) 1) Ib (zr 287)
def zo201:Obj:=zt [(zs "self" 553),(zs "name" 554)]
def zo202:Obj:=zx "take_point" "KeptPoints.take_point" (Bc (top 46) 2)
def At7:Obj:=zA "take_point" "KeptPoints.take_point" 550 155 2 289 181 555
def zo204:Obj:=zf "take_point" "KeptPoints.take_point" (Bc (top 46) 2) Ib (zr 294)
def A2i:Obj:=zt [(zs "self" 561),(zs "name" 562),(zs "x" 563),(zs "y" 564)]
def A2g:Obj:=zx "move_point" "KeptPoints.move_point" (Bc (top 46) 3)
def zo207:Obj:=zA "move_point" "KeptPoints.move_point" 558 159 4 296 181 565
def Atz:Obj:=zf "move_point" "KeptPoints.move_point" (Bc (top 46) 3) Ib (zr 301)
def zo209:Obj:=zt [(zs "self" 571)]
def zo210:Obj:=zx "points_now" "KeptPoints.points_now" (Bc (top 46) 4)
def Auz:Obj:=zA "points_now" "KeptPoints.points_now" 568 163 1 303 181 572
def zo212:Obj:=zf "points_now" "KeptPoints.points_now" (Bc (top 46) 4) Ib (zr 308)
def A0x:Obj:=zt [(zs "self" 578),(zs "x" 579),(zs "y" 580)]
def Ays:Obj:=zx "below_now" "KeptPoints.below_now" (Bc (top 46) 5)
def zo215:Obj:=zA "below_now" "KeptPoints.below_now" 575 166 3 310 181 581
def Azd:Obj:=zf "below_now" "KeptPoints.below_now" (Bc (top 46) 5) Ib (zr 315)
def zo217:Obj:=zt [(zs "self" 587),(zs "x" 588),(zs "y" 589)]
def zo218:Obj:=zx "above_now" "KeptPoints.above_now" (Bc (top 46) 6)
def A0i:Obj:=zA "above_now" "KeptPoints.above_now" 584 169 3 317 181 590
def zo220:Obj:=zf "above_now" "KeptPoints.above_now" (Bc (top 46) 6) Ib (zr 322)
def A1z:Obj:=zt [(zs "self" 596)]
def A17:Obj:=zx "pairs_now" "KeptPoints.pairs_now" (Bc (top 46) 7)
def zo223:Obj:=zA "pairs_now" "KeptPoints.pairs_now" 593 172 1 324 181 597
def Azc:Obj:=zf "pairs_now" "KeptPoints.pairs_now" (Bc (top 46) 7) Ib (zr 329)
def zo225:Obj:=zt [(zs "self" 603),(zs "box" 604)]
def zo226:Obj:=zx "box_now" "KeptPoints.box_now" (Bc (top 46) 8)
def Azm:Obj:=zA "box_now" "KeptPoints.box_now" 600 175 2 331 181 605
def zo228:Obj:=zf "box_now" "KeptPoints.box_now" (Bc (top 46) 8) Ib (zr 336)
def A0t:Obj:=zx "places_now" "KeptPoints.places_now" (Bc (top 46) 9)
def zo230:Obj:=zB "places_now" "KeptPoints.places_now" 608 178 1 338 181 611
def Azf:Obj:=zf "places_now" "KeptPoints.places_now" (Bc (top 46) 9) Ib (zr 341)
def zo232:Obj:=zt [(zs "self" 617),(zs "name" 618)]
def zo233:Obj:=zx "need_name" "KeptPoints.need_name" (Bc (top 46) 10)
def Auv:Obj:=zA "need_name" "KeptPoints.need_name" 614 181 2 343 181 619
def zo235:Obj:=zf "need_name" "KeptPoints.need_name" (Bc (top 46) 10) Ib (zr 348)
def Ax7:Obj:=zt [(zs "points" 622)]
def As5:Obj:=zd [de P "__module__" 528 Ib,de P "__firstlineno__" 532 (.int 145 531),de P "__init__" 539 (zr 281),de P "put_point" 549 (zr 288),de P "take_point" 557 (zr 295),de P "move_point" 567 (zr 302),de P "points_now" 574 (zr 309),de P "below_now" 583 (zr 316),de P "above_now" 592 (zr 323),de P "pairs_now" 599 (zr 330),de P "box_now" 607 (zr 337),de P "places_now" 613 (zr 342),de P "need_name" 621 (zr 349),de P "__static_attributes__" 623 (zr 350),de P "__dict__" 625 (zr 353),de P "__weakref__" 627 (zr 354),de P "__doc__" 628 .none] 4
def zo238:Obj:=⟨(.type "type"),ψ,(.cls ⟨"KeptPoints",[(.type "object")],[(zr 352),(.type "object")],351,"KeptPoints",true,[],[],false,ψ,false⟩),#[ψ,ψ,(ξ (zs "KeptPoints" 521)),(ξ (zs "KeptPoints" 529)),(ξ (.builtin "object.__new__")),Za1]⟩
def A2t:Obj:=⟨(.type "getset_descriptor"),ψ,(.fields #[(zs "__dict__" 624),(zr 352),(.builtin "function.__dict__"),(.builtin "function.__dict__#set")]),#[]⟩
def zo240:Obj:=⟨(.type "getset_descriptor"),ψ,(.fields #[(zs "__weakref__" 626),(zr 352),(.builtin "ExceptionGroup.__weakref__"),.none]),#[]⟩
def A0j:Obj:=⟨(.type "super"),ψ,(.fields #[(zr 352),(zr 352),(zr 352)]),#[]⟩
def A2z:Obj:=⟨(.type "builtin_function_or_method"),ψ,(.fields #[(.builtin "object.__init_subclass__"),(zr 352)]),#[]⟩
def Azx:Obj:=zd (de P "__name__" 165 Iy::((gz P).take 50)) 51
def As0:Obj:=zd [de P "put" 637 (zr 358),de P "take" 641 (zr 359),de P "move" 643 (zr 360),de P "points" 647 (zr 361),de P "counts" 648 (zr 362),de P "pairs" 649 (zr 363),de P "halves" 650 (zr 364),de P "below" 651 (zr 365),de P "above" 654 (zr 366),de P "box" 657 (zr 367),de P "nth" 662 (zr 368),de P "stairs" 668 (zr 369),de P "longest" 669 (zr 370),de P "crowd" 670 (zr 371)] 14
def zo245:Obj:=zt [(zs "name" 638),(zs "number" 639),(zs "number" 640)]
def Ata:Obj:=zt [(zs "name" 642)]
def zo247:Obj:=zt [(zs "name" 644),(zs "number" 645),(zs "number" 646)]
def Ato:Obj:=zt [(zs "number" 652),(zs "number" 653)]
def zo249:Obj:=zt [(zs "number" 655),(zs "number" 656)]
def Atx:Obj:=zt [(zs "number" 658),(zs "number" 659),(zs "number" 660),(zs "number" 661)]
def zo251:Obj:=zt [(zs "place" 663),(zs "number" 664),(zs "number" 665),(zs "number" 666),(zs "number" 667)]
def A0n:Obj:=zd (de P "__name__" 165 Iy::((gz P).take 51)) 52
def A1g:Obj:=zl (cz.take 111)
def As9:Obj:=zd [de P "__module__" 693 Iy,de P "__qualname__" 695 (zs "Desk" 694),de P "__firstlineno__" 697 (.int 188 696),de P "__init__" 704 (zr 385),de P "ask" 714 (zr 392),de P "change_points" 723 (zr 399),de P "need_room" 730 (zr 406),de P "told_at" 739 (zr 413),de P "__static_attributes__" 741 (zr 414)] 9
def Ayy:Obj:=zl [(zi 190),(zi 4),(zr 384),(zi 193),(zi 4),(zr 391),(zi 203),(zi 4),(zr 398),(zi 212),(zi 4),(zr 405),(zi 216),(zi 4),(zr 412)]
def zo256:Obj:=zc [(zs "Desk" 688),(zs "Desk" 689),(zs "/claim/cut.py" 690),(zi 188),(zi 0),(zi 0),(zi 0),(zi 0),(zr 375),Zcg,(zi 181),(zr 376),.none,.none,.none,.none,(zi 691),(zi 188),(zs "/claim/cut.py" 692)]
def Azy:Obj:=⟨(.type "frame"),ψ,.plain,#[(ξ (zr 377)),(ξ (zr 3)),(ξ (zr 374)),ψ,(ξ Iy),ψ,(ξ (zr 0))]⟩
def zo258:Obj:=zt [(zs "self" 701)]
def zo259:Obj:=zx "__init__" "Desk.__init__" (Bc (top 51) 0)
def As3:Obj:=zA "__init__" "Desk.__init__" 698 190 1 379 181 702
def zo261:Obj:=zf "__init__" "Desk.__init__" (Bc (top 51) 0) Iy (zr 384)
def Az4:Obj:=zt [(zs "self" 708),(zs "line" 709),(zs "words" 710),(zs "given" 711)]
def A1l:Obj:=zx "ask" "Desk.ask" (Bc (top 51) 1)
def zo264:Obj:=zA "ask" "Desk.ask" 705 193 2 386 181 712
def Aui:Obj:=zf "ask" "Desk.ask" (Bc (top 51) 1) Iy (zr 391)
def zo266:Obj:=zt [(zs "self" 718),(zs "word" 719),(zs "given" 720)]
def zo267:Obj:=zx "change_points" "Desk.change_points" (Bc (top 51) 2)
def As1:Obj:=zA "change_points" "Desk.change_points" 715 203 3 393 181 721
def zo269:Obj:=zf "change_points" "Desk.change_points" (Bc (top 51) 2) Iy (zr 398)
def A1r:Obj:=zt [(zs "self" 727)]
def Ay0:Obj:=zx "need_room" "Desk.need_room" (Bc (top 51) 3)
def zo272:Obj:=zA "need_room" "Desk.need_room" 724 212 1 400 181 728
def Ath:Obj:=zf "need_room" "Desk.need_room" (Bc (top 51) 3) Iy (zr 405)
def zo274:Obj:=zt [(zs "self" 734),(zs "word" 735),(zs "given" 736)]
def zo275:Obj:=zx "told_at" "Desk.told_at" (Bc (top 51) 4)
def As2:Obj:=zA "told_at" "Desk.told_at" 731 216 3 407 181 737
def zo277:Obj:=zf "told_at" "Desk.told_at" (Bc (top 51) 4) Iy (zr 412)
def Axz:Obj:=zt [(zs "kept" 740)]
def Asy:Obj:=zd [de P "__module__" 693 Iy,de P "__firstlineno__" 697 (.int 188 696),de P "__init__" 704 (zr 385),de P "ask" 714 (zr 392),de P "change_points" 723 (zr 399),de P "need_room" 730 (zr 406),de P "told_at" 739 (zr 413),de P "__static_attributes__" 741 (zr 414),de P "__dict__" 743 (zr 417),de P "__weakref__" 745 (zr 418),de P "__doc__" 746 .none] 4
def zo280:Obj:=⟨(.type "type"),ψ,(.cls ⟨"Desk",[(.type "object")],[(zr 416),(.type "object")],415,"Desk",true,[],[],false,ψ,false⟩),#[ψ,ψ,(ξ (zs "Desk" 686)),(ξ (zs "Desk" 694)),(ξ (.builtin "object.__new__")),Za1]⟩
def Azi:Obj:=⟨(.type "getset_descriptor"),ψ,(.fields #[(zs "__dict__" 742),(zr 416),(.builtin "function.__dict__"),(.builtin "function.__dict__#set")]),#[]⟩
def zo282:Obj:=⟨(.type "getset_descriptor"),ψ,(.fields #[(zs "__weakref__" 744),(zr 416),(.builtin "ExceptionGroup.__weakref__"),.none]),#[]⟩
def Aza:Obj:=⟨(.type "super"),ψ,(.fields #[(zr 416),(zr 416),(zr 416)]),#[]⟩
def Azr:Obj:=⟨(.type "builtin_function_or_method"),ψ,(.fields #[(.builtin "object.__init_subclass__"),(zr 416)]),#[]⟩
def Ayh:Obj:=zd (de P "__name__" 165 (zs "law_belowpoints_k41_desk_halves_and_stairs" 781)::((gz P).take 61)) 62
def A0e:Obj:=zl (cz.take 141)
def A2y:Obj:=zx "given_behind" "given_behind" (top 52)
def zo288:Obj:=zB "given_behind" "given_behind" 749 224 1 421 181 752
def Aug:Obj:=zf "given_behind" "given_behind" (top 52) Iy (zr 424)
def zo290:Obj:=zt [(zs "word" 758),(zs "kind" 759)]
def zo291:Obj:=zx "value_of" "value_of" (top 53)
def Atc:Obj:=zA "value_of" "value_of" 755 229 2 426 181 760
def zo293:Obj:=zf "value_of" "value_of" (top 53) Iy (zr 431)
def Ax4:Obj:=zx "rows_of" "rows_of" (top 54)
def zo295:Obj:=zB "rows_of" "rows_of" 763 239 2 433 181 766
def Aun:Obj:=zf "rows_of" "rows_of" (top 54) Iy (zr 436)
def zo297:Obj:=zx "rows_shown" "rows_shown" (top 55)
def Atd:Obj:=zB "rows_shown" "rows_shown" 769 255 1 438 181 772
def zo299:Obj:=zf "rows_shown" "rows_shown" (top 55) Iy (zr 441)
def A2n:Obj:=zx "row_shown" "row_shown" (top 56)
def zo301:Obj:=zB "row_shown" "row_shown" 775 257 1 443 181 778
def Ats:Obj:=zf "row_shown" "row_shown" (top 56) Iy (zr 446)
def zo303:Obj:=zt [(zs "cell" 786),(zs "number" 787)]
def zo304:Obj:=zx "_law_seed" "_law_seed" (top 58)
def Atr:Obj:=zA "_law_seed" "_law_seed" 783 260 1 448 181 788
def zo306:Obj:=zf "_law_seed" "_law_seed" (top 58) (zs "law_belowpoints_k41_desk_halves_and_stairs" 781) (zr 453)
def A13:Obj:=zt [(zs "seed" 794),(zs "most" 795),(zs "found" 796),(zs "number" 797)]
def Ax0:Obj:=zx "_law_draw" "_law_draw" (top 59)
def zo309:Obj:=zA "_law_draw" "_law_draw" 791 263 2 455 181 798
def Aue:Obj:=zf "_law_draw" "_law_draw" (top 59) (zs "law_belowpoints_k41_desk_halves_and_stairs" 781) (zr 460)
def zo311:Obj:=zt [(zs "script" 804),(zs "many" 805)]
def zo312:Obj:=zx "_law_cells" "_law_cells" (top 60)
def Asx:Obj:=zA "_law_cells" "_law_cells" 801 272 2 462 181 806
def zo314:Obj:=zf "_law_cells" "_law_cells" (top 60) (zs "law_belowpoints_k41_desk_halves_and_stairs" 781) (zr 467)
def A2p:Obj:=zt [(zs "seed" 812),(zs "kind" 813)]
def A1u:Obj:=zx "_law_place" "_law_place" (top 61)
def zo317:Obj:=zA "_law_place" "_law_place" 809 274 2 469 181 814
def Asu:Obj:=zf "_law_place" "_law_place" (top 61) (zs "law_belowpoints_k41_desk_halves_and_stairs" 781) (zr 474)
def zo319:Obj:=zx "_law_pool" "_law_pool" (top 62)
def Auj:Obj:=zB "_law_pool" "_law_pool" 817 278 1 476 181 820
def Auh:Obj:=zf "_law_pool" "_law_pool" (top 62) (zs "law_belowpoints_k41_desk_halves_and_stairs" 781) (zr 479)
def Az3:Obj:=zd (de P "__name__" 165 (zs "law_belowpoints_k41_desk_halves_and_stairs" 781)::((gz P).take 71)) 72
def A2w:Obj:=zl (cz.take 171)
def Ayr:Obj:=zt [(zs "pool" 826),(zs "number" 827)]
def A2e:Obj:=zx "_law_name" "_law_name" (top 63)
def zo326:Obj:=zA "_law_name" "_law_name" 823 286 2 481 181 828
def Atp:Obj:=zf "_law_name" "_law_name" (top 63) (zs "law_belowpoints_k41_desk_halves_and_stairs" 781) (zr 486)
def zo328:Obj:=zt [(zs "seed" 834),(zs "most" 835),(zs "pool" 836),(zs "kind" 837),(zs "points" 838),(zs "k" 839),(zs "x" 840),(zs "y" 841)]
def zo329:Obj:=zx "_law_begun" "_law_begun" (top 64)
def Auc:Obj:=zA "_law_begun" "_law_begun" 831 290 2 488 181 842
def zo331:Obj:=zf "_law_begun" "_law_begun" (top 64) (zs "law_belowpoints_k41_desk_halves_and_stairs" 781) (zr 493)
def A02:Obj:=zt [(zs "one" 848),(zs "other" 849)]
def A19:Obj:=zx "_law_below" "_law_below" (top 65)
def zo334:Obj:=zA "_law_below" "_law_below" 845 302 2 495 181 850
def Atu:Obj:=zf "_law_below" "_law_below" (top 65) (zs "law_belowpoints_k41_desk_halves_and_stairs" 781) (zr 500)
def zo336:Obj:=zx "_law_rows" "_law_rows" (top 66)
def As8:Obj:=zB "_law_rows" "_law_rows" 853 304 1 502 181 856
def zo338:Obj:=zf "_law_rows" "_law_rows" (top 66) (zs "law_belowpoints_k41_desk_halves_and_stairs" 781) (zr 505)
def A0a:Obj:=zt [(zs "points" 862),(zs "desk" 863),(zs "row" 864)]
def Ayc:Obj:=zx "_law_laid" "_law_laid" (top 67)
def zo341:Obj:=zA "_law_laid" "_law_laid" 859 306 1 507 181 865
def Atw:Obj:=zf "_law_laid" "_law_laid" (top 67) (zs "law_belowpoints_k41_desk_halves_and_stairs" 781) (zr 512)
def zo343:Obj:=zx "_law_deed" "_law_deed" (top 68)
def Aul:Obj:=zB "_law_deed" "_law_deed" 868 311 4 514 181 871
def zo345:Obj:=zf "_law_deed" "_law_deed" (top 68) (zs "law_belowpoints_k41_desk_halves_and_stairs" 781) (zr 517)
def A0k:Obj:=zx "_law_halves" "_law_halves" (top 69)
def zo347:Obj:=zB "_law_halves" "_law_halves" 874 329 3 519 181 877
def Auq:Obj:=zf "_law_halves" "_law_halves" (top 69) (zs "law_belowpoints_k41_desk_halves_and_stairs" 781) (zr 522)
def zo349:Obj:=zx "_law_in_order" "_law_in_order" (top 70)
def Atl:Obj:=zB "_law_in_order" "_law_in_order" 880 338 2 524 181 883
def zo351:Obj:=zf "_law_in_order" "_law_in_order" (top 70) (zs "law_belowpoints_k41_desk_halves_and_stairs" 781) (zr 527)
def A05:Obj:=zx "_law_stairs" "_law_stairs" (top 71)
def zo353:Obj:=zB "_law_stairs" "_law_stairs" 886 341 1 529 181 889
def Aus:Obj:=zf "_law_stairs" "_law_stairs" (top 71) (zs "law_belowpoints_k41_desk_halves_and_stairs" 781) (zr 532)
def zo355:Obj:=zx "_law_right" "_law_right" (top 72)
def At2:Obj:=zB "_law_right" "_law_right" 892 352 4 534 181 895
def Aub:Obj:=zf "_law_right" "_law_right" (top 72) (zs "law_belowpoints_k41_desk_halves_and_stairs" 781) (zr 537)
def Atn:Obj:=zd (de P "__name__" 165 (zs "law_belowpoints_k41_desk_halves_and_stairs" 781)::(gz P)) 73
def A24:Obj:=zl cz
def A2j:Obj:=zt [(zs "script" 901),(zs "cell" 902),(zs "seed" 903),(zs "pool" 904),(zs "kind" 905),(zs "points" 906),(zs "desk" 907),(zs "turn" 908),(zs "line" 909)]
def Aze:Obj:=zx "law" "law" (top 73)
def zo362:Obj:=zA "law" "law" 898 367 1 539 181 910
def At1:Obj:=zf "law" "law" (top 73) (zs "law_belowpoints_k41_desk_halves_and_stairs" 781) (zr 544)
def l_0:List Obj:=[(sJ P),(zo1 P),zo2,(PySem.W.boot_o_3 P),zo4,zo5,zo6,zo7,zo8,zo9,zo10,zo7,zo8,A3q,A3u]
def l_1:List Obj:=(l_0 P)
def t_0:dX:=mkT 11 (l_1 P)
def l_2:List Obj:=(((l_1 P).set 3 (A3o P)).set 12 A4g)++[zo7,zo8,A3l,zo7,A4u,zo17,A37,zo19,zo20,(A0r P),zo7,zo8,zo22,A3g,zo7,(Ax5 P),zo25,A3k,zo27,A31]
def t_1:dX:=mkT 11 (l_2 P)
def l_3:List Obj:=((((l_2 P).set 3 (A4r P)).set 12 A4a).set 31 A4i)++[Au9,zo20,(A10 P),zo7,A46,zo35,A30,zo7,zo8,zo37,zo7,zo38,A3z,zo40,zo7,(Ayw P),zo42,A4b,A4f]
def t_2:dX:=mkT 11 (l_3 P)
def l_4:List Obj:=((((l_3 P).set 3 (A4t P)).set 12 A3v).set 31 A4h)++[Au9,zo20,(Az7 P),zo7,A3t,zo50,A4o,zo7,zo8,zo52,zo7,zo53,A3d,zo55,zo7,(Ayi P),zo57,A4s,A38]
def t_3:dX:=mkT 11 (l_4 P)
def l_5:List Obj:=((((l_4 P).set 3 (A4w P)).set 12 A4y).set 31 A1w)++[Au9,zo20,(Azk P),zo7,A36,zo65,A35,zo7,zo8,zo67,zo7,zo68,A32,zo70,A4e,(A2o P),zo73,A42,A41]
def t_4:dX:=mkT 11 (l_5 P)
def l_6:List Obj:=(((l_5 P).set 3 (A47 P)).set 12 A5n)++[zo7,zo8,A34,zo79,A07,zo7,zo8,zo81,zo7,zo82,A2d,zo84,zo7,zo8,A5b,zo7,A3n,zo87,Axy,zo7,zo8,zo89,zo7,zo90,Ax1,zo92,zo7,zo8,A44,zo94,A1d,zo7,zo8,zo96,A3j,zo98,zo7,zo8,A4v,zo100,Atj,zo7,zo8,zo102,zo7,zo103,A0m,zo105,zo7,zo8,Ayf,zo107,Asw,zo7,zo8,zo109,Ass,Auy]
def t_5:dX:=mkT 11 (l_6 P)
def l_7:List Obj:=(((l_6 P).set 3 (A2f P)).set 12 Az8)++[zo7,zo8,Ayj,zo115,Az2,zo7,zo8,zo117,zo7,zo118,A00,zo120,zo7,zo8,Ay3,zo7,A2v,zo123,Ay9,zo7,zo8,zo125,As6,zo127,zo7,zo8,A0g,zo7,A25,zo130,A1a,zo7,zo8,zo132,A1e,zo134,zo7,zo8,A09,zo136,A0o,zo7,zo8,zo138,Azl,zo140,zo7,zo8,Aye,zo7,A04,zo143,Azo,zo7,zo8,zo145,Azu,zo147,Ayp,A0b]
def t_6:dX:=mkT 11 (l_7 P)
def l_8:List Obj:=(((l_7 P).set 3 (Axx P)).set 12 A1n)++[zo7,zo8,A2l,zo153,A1h,zo7,zo8,zo155,Ay2,zo157,zo7,zo8,Ay4,zo159,Aup,zo7,zo8,zo161,zo7,zo162,Atk,zo164,zo7,zo8,Ayq,zo166,Aut,zo7,zo8,zo168,A2a,zo170,zo7,zo8,A2c,zo7,Ayv,zo173,Auw,zo7,zo8,zo175,Auf,zo177,zo7,zo8,Ayk,zo7,Ay5,zo180,As7,zo7,zo8,zo182,zo7,zo183,Aux,At8]
def t_7:dX:=mkT 11 (l_8 P)
def l_9:List Obj:=((l_8 P).set 3 (A1k P))
def t_8:dX:=mkT 11 (l_9 P)
def Ayt:List Obj:=(((l_9 P).set 3 (Azt P)).set 12 Ay8)++[zo7,zo20,(At5 P),zo7,A06,zo191,A15,zo7,zo8,zo193,zo7,zo194,Auk,zo196,zo7,zo8,A2x,zo7,A1y,zo199,As4,zo7,zo8,zo201,zo7,zo202,At7,zo204,zo7,zo8,A2i,zo7,A2g,zo207,Atz,zo7,zo8,zo209,zo7,zo210,Auz,zo212,zo7,zo8,A0x,zo7,Ays,zo215,Azd,zo7,zo8,zo217,zo7,zo218,A0i,zo220,zo7,zo8,A1z,zo7,A17,zo223,Azc,zo7,zo8,zo225,zo7,zo226,Azm,zo228,zo7,zo8,A0t,zo230,Azf,zo7,zo8,zo232,zo7,zo233,Auv,zo235,Ax7,(As5 P),zo238,A2t,zo240,A0j,A2z]
def t_9:dX:=mkT 11 (Ayt P)
def Ayu:List Obj:=((Ayt P).set 3 (Azx P))++[(As0 P),zo245,Ata,zo247,zo7,zo7,zo7,zo7,Ato,zo249,Atx,zo251,zo7,zo7,zo7]
def Au8:dX:=mkT 11 (Ayu P)
def Azq:List Obj:=(((Ayu P).set 3 (A0n P)).set 12 A1g)++[zo7,zo20,(As9 P),zo7,Ayy,zo256,Azy,zo7,zo8,zo258,zo7,zo259,As3,zo261,zo7,zo8,Az4,zo7,A1l,zo264,Aui,zo7,zo8,zo266,zo7,zo267,As1,zo269,zo7,zo8,A1r,zo7,Ay0,zo272,Ath,zo7,zo8,zo274,zo7,zo275,As2,zo277,Axz,(Asy P),zo280,Azi,zo282,Aza,Azr]
def A2k:dX:=mkT 11 (Azq P)
def A23:List Obj:=(((Azq P).set 3 (Ayh P)).set 12 A0e)++[zo7,zo8,A2y,zo288,Aug,zo7,zo8,zo290,zo7,zo291,Atc,zo293,zo7,zo8,Ax4,zo295,Aun,zo7,zo8,zo297,Atd,zo299,zo7,zo8,A2n,zo301,Ats,zo7,zo8,zo303,zo7,zo304,Atr,zo306,zo7,zo8,A13,zo7,Ax0,zo309,Aue,zo7,zo8,zo311,zo7,zo312,Asx,zo314,zo7,zo8,A2p,zo7,A1u,zo317,Asu,zo7,zo8,zo319,Auj,Auh]
def A1f:dX:=mkT 11 (A23 P)
def Azg:List Obj:=(((A23 P).set 3 (Az3 P)).set 12 A2w)++[zo7,zo8,Ayr,zo7,A2e,zo326,Atp,zo7,zo8,zo328,zo7,zo329,Auc,zo331,zo7,zo8,A02,zo7,A19,zo334,Atu,zo7,zo8,zo336,As8,zo338,zo7,zo8,A0a,zo7,Ayc,zo341,Atw,zo7,zo8,zo343,Aul,zo345,zo7,zo8,A0k,zo347,Auq,zo7,zo8,zo349,Atl,zo351,zo7,zo8,A05,zo353,Aus,zo7,zo8,zo355,At2,Aub]
def A2h:dX:=mkT 11 (Azg P)
def A1q:List Obj:=(((Azg P).set 3 (Atn P)).set 12 A24)++[zo7,zo8,A2j,zo7,Aze,zo362,At1]
def A12:dX:=mkT 11 (A1q P)
def A49:List Obj:=(A1q P)
def hA:Heap:=⟨⟨l_0 P⟩,{}⟩
def hZ:Heap:=⟨⟨A49 P⟩,{}⟩
noncomputable abbrev pp:cC:=PySem.Challenge.pw_belowpoints_k41_desk_halves_and_stairs
def q0:cC:={ pp with main:={ pp.main with body:=[0,2,3,4,5,7,8,9,10,11,12,13,14,16,17,18,19,20,22,23,24,26,27,28,29,30,31,32,33,34,36,37,38,40,41,42,43,44,46,48,49,50,51,52,53,54,55,56,58,59,60,61,62,63,64,65,66,67,68,69,70,71,72,73].map top } }
def ev:Env:={ scope:=pp.main.scope,locals:=mainNs,globals:=mainNs,cells:=[],code:=(.ref 13),frame:=ξ 14 }
abbrev bd:List Stmt:=PySem.W.behindTheImports pp
abbrev cE:Code:=.body bd ev
noncomputable abbrev tB:List Frame:=[kQ ⟨0,0,0,0⟩]
def sl(i j:Nat):List Stmt:=(bd.drop i).take j
theorem Azj(w:cM)(os:fW):PySem.W.topGo cI pp w 11 Z7 12 ⟨fF w.params,⟨[]⟩,mT,nA,os⟩ (tH pp)=ξ (⟨hA w.params,⟨[]⟩,{},187,os⟩,⟨denote cI cE,cE,⟨0,0,0,0⟩,tB⟩):=by
 rw[PySem.W.Fast.te15667345088766844465,aW,PySem.W.Fast.te11892475500146522536];kernel_rfl
theorem Aph(w:cM)(os:fW):vB cI pp w 11 Z7 1 1 ⟨hA w.params,⟨[]⟩,{},187,os⟩ (tK bd ev cE ⟨0,0,0,0⟩ tB)=ξ (.next,pZ ⟨t_0 w.params,15,{},⟨[]⟩,{},187,os⟩,cE,⟨0,0,0,0⟩):=by
 rw[PySem.W.Fast.te14374325043358763698,aW];kernel_rfl
theorem r_0(w:cM)(os:fW):dJ cI pp w 11 Z7 1 225 ⟨t_0 w.params,15,{},⟨[]⟩,{},187,os⟩ (dB (sl 0 3) ev cE ⟨0,0,0,0⟩ tB)=ξ (.next,⟨t_1 w.params,35,{},⟨[]⟩,{},214,os⟩,cE,⟨5,0,6,8⟩):=by
 rw[bE,aW];kernel_rfl
theorem r_1(w:cM)(os:fW):dJ cI pp w 11 Z7 1 245 ⟨t_1 w.params,35,{},⟨[]⟩,{},214,os⟩ (dB (sl 3 1) ev cE ⟨5,0,6,8⟩ tB)=ξ (.next,⟨t_2 w.params,54,{},⟨[]⟩,{},238,os⟩,cE,⟨7,0,10,39⟩):=by
 rw[bE,aW];kernel_rfl
theorem r_2(w:cM)(os:fW):dJ cI pp w 11 Z7 1 245 ⟨t_2 w.params,54,{},⟨[]⟩,{},238,os⟩ (dB (sl 4 1) ev cE ⟨7,0,10,39⟩ tB)=ξ (.next,⟨t_3 w.params,73,{},⟨[]⟩,{},262,os⟩,cE,⟨11,0,14,39⟩):=by
 rw[bE,aW];kernel_rfl
theorem r_3(w:cM)(os:fW):dJ cI pp w 11 Z7 1 282 ⟨t_3 w.params,73,{},⟨[]⟩,{},262,os⟩ (dB (sl 5 5) ev cE ⟨11,0,14,39⟩ tB)=ξ (.next,⟨t_4 w.params,92,{},⟨[]⟩,{},295,os⟩,cE,⟨23,0,23,12⟩):=by
 rw[bE,aW];kernel_rfl
theorem r_4(w:cM)(os:fW):dJ cI pp w 11 Z7 1 292 ⟨t_4 w.params,92,{},⟨[]⟩,{},295,os⟩ (dB (sl 10 12) ev cE ⟨23,0,23,12⟩ tB)=ξ (.next,⟨t_5 w.params,150,{},⟨[]⟩,{},364,os⟩,cE,⟨50,0,50,8⟩):=by
 rw[bE,aW];kernel_rfl
theorem r_5(w:cM)(os:fW):dJ cI pp w 11 Z7 1 296 ⟨t_5 w.params,150,{},⟨[]⟩,{},364,os⟩ (dB (sl 22 11) ev cE ⟨50,0,50,8⟩ tB)=ξ (.next,⟨t_6 w.params,210,{},⟨[]⟩,{},442,os⟩,cE,⟨111,0,112,92⟩):=by
 rw[bE,aW];kernel_rfl
theorem r_6(w:cM)(os:fW):dJ cI pp w 11 Z7 1 300 ⟨t_6 w.params,210,{},⟨[]⟩,{},442,os⟩ (dB (sl 33 12) ev cE ⟨111,0,112,92⟩ tB)=ξ (.next,⟨t_7 w.params,268,{},⟨[]⟩,{},519,os⟩,cE,⟨140,0,143,27⟩):=by
 rw[bE,aW];kernel_rfl
theorem r_7(w:cM)(os:fW):dJ cI pp w 11 Z7 1 10 ⟨t_7 w.params,268,{},⟨[]⟩,{},519,os⟩ (dB (sl 45 1) ev cE ⟨140,0,143,27⟩ tB)=ξ (.next,⟨t_8 w.params,268,{},⟨[]⟩,{},521,os⟩,cE,⟨144,0,144,8⟩):=by
 rw[bE,aW];kernel_rfl
theorem r_8(w:cM)(os:fW):dJ cI pp w 11 Z7 1 542 ⟨t_8 w.params,268,{},⟨[]⟩,{},521,os⟩ (dB (sl 46 1) ev cE ⟨144,0,144,8⟩ tB)=ξ (.next,⟨t_9 w.params,357,{},⟨[]⟩,{},631,os⟩,cE,⟨145,0,183,30⟩):=by
 rw[bE,aW];kernel_rfl
theorem r_9(w:cM)(os:fW):dJ cI pp w 11 Z7 1 282 ⟨t_9 w.params,357,{},⟨[]⟩,{},631,os⟩ (dB (sl 47 4) ev cE ⟨145,0,183,30⟩ tB)=ξ (.next,⟨Au8 w.params,372,{},⟨[]⟩,{},686,os⟩,cE,⟨187,0,187,5⟩):=
 PySem.W.byRow2 "special-get-raises" (P:=fun w=>∀ os:fW,dJ cI pp w 11 Z7 1 282 ⟨t_9 w.params,357,{},⟨[]⟩,{},631,os⟩ (dB (sl 47 4) ev cE ⟨145,0,183,30⟩ tB)=ξ (.next,⟨Au8 w.params,372,{},⟨[]⟩,{},686,os⟩,cE,⟨187,0,187,5⟩)) (fun w os=>by rw[bE,aW];kernel_rfl) (fun w os=>by rw[bE,aW];kernel_rfl) w os
theorem A3i(w:cM)(os:fW):dJ cI pp w 11 Z7 1 353 ⟨Au8 w.params,372,{},⟨[]⟩,{},686,os⟩ (dB (sl 51 1) ev cE ⟨187,0,187,5⟩ tB)=ξ (.next,⟨A2k w.params,421,{},⟨[]⟩,{},749,os⟩,cE,⟨188,0,223,71⟩):=by
 rw[bE,aW];kernel_rfl
theorem A3w(w:cM)(os:fW):dJ cI pp w 11 Z7 1 292 ⟨A2k w.params,421,{},⟨[]⟩,{},749,os⟩ (dB (sl 52 11) ev cE ⟨188,0,223,71⟩ tB)=ξ (.next,⟨A1f w.params,481,{},⟨[]⟩,{},823,os⟩,cE,⟨278,0,285,69⟩):=by
 rw[bE,aW];kernel_rfl
theorem A5f(w:cM)(os:fW):dJ cI pp w 11 Z7 1 284 ⟨A1f w.params,481,{},⟨[]⟩,{},823,os⟩ (dB (sl 63 10) ev cE ⟨278,0,285,69⟩ tB)=ξ (.next,⟨A2h w.params,539,{},⟨[]⟩,{},898,os⟩,cE,⟨352,0,366,15⟩):=by
 rw[bE,aW];kernel_rfl
theorem A3m(w:cM)(os:fW):dJ cI pp w 11 Z7 1 38 ⟨A2h w.params,539,{},⟨[]⟩,{},898,os⟩ (dB (sl 73 1) ev cE ⟨352,0,366,15⟩ tB)=ξ (.next,⟨A12 w.params,546,{},⟨[]⟩,{},913,os⟩,cE,⟨367,0,379,15⟩):=by
 rw[bE,aW];kernel_rfl
theorem Ay1(w:cM)(os:fW):mU cI pp w 11 Z7 2 (pZ ⟨A12 w.params,546,{},⟨[]⟩,{},913,os⟩) (vC [] ev cE ⟨367,0,379,15⟩ tB)=ξ ⟨hZ w.params,⟨[]⟩,{},913,os⟩:=by
 rw[PySem.W.Fast.te14082659384304107361,aW];kernel_rfl
theorem bdE:bd=(sl 0 3++(sl 3 1++(sl 4 1++(sl 5 5++(sl 10 12++(sl 22 11++(sl 33 12++(sl 45 1++(sl 46 1++(sl 47 4++(sl 51 1++(sl 52 11++(sl 63 10++(sl 73 1++[])))))))))))))):=by kernel_rfl
theorem Asl{tb:String->Option kW}{p:cC}{w:cM}{n₀:Nat}{ann:Option aH}{env:Env}{q:Pos}{N:Nat}{s s1 r:aN}{b b1:List Stmt}{c:Code}{pos p1:Pos}(hb:b=b1)(h:vB tb p w n₀ ann 1 n s (tK b env c pos [kQ q])=ξ (.next,s1,c,p1))(k:mU tb p w n₀ ann N s1 (vC b1 env c p1 [kQ q])=ξ r):mU tb p w n₀ ann (n+N) s ⟨denote tb (.body b env),c,pos,[kQ q]⟩=ξ r:=by
 subst hb;exact PySem.W.piece_block h k
theorem Ayo(w:cM)(os:fW):mU cI pp w 11 Z7 (12+(1+(225+(245+(245+(282+(292+(296+(300+(10+(542+(282+(353+(292+(284+(38+2)))))))))))))))) ⟨fF w.params,⟨[]⟩,mT,nA,os⟩ (tH pp)=ξ ⟨hZ w.params,⟨[]⟩,{},913,os⟩:=
 PySem.W.go_top (Azj w os) (Asl bdE (Aph w os) (dC (dD (r_0 w os)) (dC (dD (r_1 w os)) (dC (dD (r_2 w os)) (dC (dD (r_3 w os)) (dC (dD (r_4 w os)) (dC (dD (r_5 w os)) (dC (dD (r_6 w os)) (dC (dD (r_7 w os)) (dC (dD (r_8 w os)) (dC (dD (r_9 w os)) (dC (dD (A3i w os)) (dC (dD (A3w w os)) (dC (dD (A5f w os)) (dC (dD (A3m w os)) (Ay1 w os))))))))))))))))
theorem Axp:∀ w:cM,(PySem.W.fencedOpening cI pp w 7470).map (fun s=>(s.heap,s.gens,s.drawn,s.toks))=ξ (fF w.params,Array.mk [],mT,nA):=
 PySem.W.boot_open (by kernel_rfl) Zb (fun s=>by kernel_rfl)
theorem Axr(w:cM):((fF w.params).isNs bU&&(Array.mk []:Array nL).size == 0,(fF w.params).objs.size,(fF w.params).nsMap bU "__annotations__")=(true,11,Z7):=by
 rw[PySem.W.Fast.te8920871248978507458];kernel_rfl
def K0(P:nE):aF:=(nat_lit 96,A07)::(nat_lit 103,zo84)::(nat_lit 110,Axy)::(nat_lit 117,zo92)::(nat_lit 122,A1d)::(nat_lit 132,Atj)::(nat_lit 144,Asw)::(nat_lit 149,Auy)::(nat_lit 173,zo127)::(nat_lit 224,Aup)::(nat_lit 231,zo164)::(nat_lit 236,Aut)::(nat_lit 248,Auw)::(nat_lit 253,zo177)::(nat_lit 260,As7)::(nat_lit 267,At8)::(nat_lit 281,zo196)::(nat_lit 288,As4)::(nat_lit 295,zo204)::(nat_lit 302,Atz)::(nat_lit 309,zo212)::(nat_lit 349,zo235)::(nat_lit 385,zo261)::(nat_lit 392,Aui)::(nat_lit 399,zo269)::(nat_lit 406,Ath)::(nat_lit 413,zo277)::(nat_lit 425,Aug)::(nat_lit 432,zo293)::(nat_lit 437,Aun)::(nat_lit 442,zo299)::(nat_lit 447,Ats)::(nat_lit 454,zo306)::(nat_lit 461,Aue)::(nat_lit 468,zo314)::(nat_lit 475,Asu)::(nat_lit 480,Auh)::(nat_lit 487,Atp)::(nat_lit 494,zo331)::(nat_lit 501,Atu)::(nat_lit 506,zo338)::(nat_lit 513,Atw)::(nat_lit 518,zo345)::(nat_lit 523,Auq)::(nat_lit 528,zo351)::(nat_lit 533,Aus)::(nat_lit 538,Aub)::(nat_lit 545,At1)::(nat_lit 0,(sJ P))::(nat_lit 1,(zo1 P))::(nat_lit 2,zo2)::(nat_lit 3,(Atn P))::(nat_lit 6,zo6)::(nat_lit 24,(A0r P))::(nat_lit 30,(Ax5 P))::(nat_lit 31,A1w)::(nat_lit 37,(A10 P))::(nat_lit 50,(Ayw P))::(nat_lit 51,zo42)::(nat_lit 56,(Az7 P))::(nat_lit 69,(Ayi P))::(nat_lit 70,zo57)::(nat_lit 75,(Azk P))::(nat_lit 88,(A2o P))::(nat_lit 89,zo73)::(nat_lit 95,zo79)::(nat_lit 102,A2d)::(nat_lit 109,zo87)::(nat_lit 116,Ax1)::(nat_lit 121,zo94)::(nat_lit 131,zo100)::(nat_lit 143,zo107)::(nat_lit 148,Ass)::(nat_lit 172,As6)::(nat_lit 223,zo159)::(nat_lit 230,Atk)::(nat_lit 235,zo166)::(nat_lit 247,zo173)::(nat_lit 252,Auf)::(nat_lit 259,zo180)::(nat_lit 266,Aux)::(nat_lit 270,(At5 P))::(nat_lit 280,Auk)::(nat_lit 287,zo199)::(nat_lit 294,At7)::(nat_lit 301,zo207)::(nat_lit 308,Auz)::(nat_lit 348,Auv)::(nat_lit 351,(As5 P))::(nat_lit 352,zo238)::(nat_lit 357,(As0 P))::(nat_lit 374,(As9 P))::(nat_lit 384,As3)::(nat_lit 391,zo264)::(nat_lit 398,As1)::(nat_lit 405,zo272)::(nat_lit 412,As2)::(nat_lit 415,(Asy P))::(nat_lit 416,zo280)::(nat_lit 424,zo288)::(nat_lit 431,Atc)::(nat_lit 436,zo295)::(nat_lit 441,Atd)::(nat_lit 446,zo301)::(nat_lit 453,Atr)::(nat_lit 460,zo309)::(nat_lit 467,Asx)::(nat_lit 474,zo317)::(nat_lit 479,Auj)::(nat_lit 486,zo326)::(nat_lit 493,Auc)::(nat_lit 500,zo334)::(nat_lit 505,As8)::(nat_lit 512,zo341)::(nat_lit 517,Aul)::(nat_lit 522,zo347)::(nat_lit 527,Atl)::(nat_lit 532,zo353)::(nat_lit 537,At2)::(nat_lit 544,zo362)::(nat_lit 358,zo245)::(nat_lit 359,Ata)::(nat_lit 360,zo247)::(nat_lit 361,zo7)::(nat_lit 362,zo7)::(nat_lit 363,zo7)::(nat_lit 364,zo7)::(nat_lit 365,Ato)::(nat_lit 366,zo249)::(nat_lit 367,Atx)::(nat_lit 368,zo251)::(nat_lit 369,zo7)::(nat_lit 370,zo7)::(nat_lit 371,zo7)::[]
abbrev hK:PySem.W.Hook:=PySem.W.kHook K0 [nat_lit 96,nat_lit 103,nat_lit 110,nat_lit 117,nat_lit 122,nat_lit 132,nat_lit 144,nat_lit 149,nat_lit 173,nat_lit 224,nat_lit 231,nat_lit 236,nat_lit 248,nat_lit 253,nat_lit 260,nat_lit 267,nat_lit 281,nat_lit 288,nat_lit 295,nat_lit 302,nat_lit 309,nat_lit 349,nat_lit 385,nat_lit 392,nat_lit 399,nat_lit 406,nat_lit 413,nat_lit 425,nat_lit 432,nat_lit 437,nat_lit 442,nat_lit 447,nat_lit 454,nat_lit 461,nat_lit 468,nat_lit 475,nat_lit 480,nat_lit 487,nat_lit 494,nat_lit 501,nat_lit 506,nat_lit 513,nat_lit 518,nat_lit 523,nat_lit 528,nat_lit 533,nat_lit 538,nat_lit 545,nat_lit 0,nat_lit 1,nat_lit 2,nat_lit 3,nat_lit 6,nat_lit 24,nat_lit 30,nat_lit 31,nat_lit 37,nat_lit 50,nat_lit 51,nat_lit 56,nat_lit 69,nat_lit 70,nat_lit 75,nat_lit 88,nat_lit 89,nat_lit 95,nat_lit 102,nat_lit 109,nat_lit 116,nat_lit 121,nat_lit 131,nat_lit 143,nat_lit 148,nat_lit 172,nat_lit 223,nat_lit 230,nat_lit 235,nat_lit 247,nat_lit 252,nat_lit 259,nat_lit 266,nat_lit 270,nat_lit 280,nat_lit 287,nat_lit 294,nat_lit 301,nat_lit 308,nat_lit 348,nat_lit 351,nat_lit 352,nat_lit 357,nat_lit 374,nat_lit 384,nat_lit 391,nat_lit 398,nat_lit 405,nat_lit 412,nat_lit 415,nat_lit 416,nat_lit 424,nat_lit 431,nat_lit 436,nat_lit 441,nat_lit 446,nat_lit 453,nat_lit 460,nat_lit 467,nat_lit 474,nat_lit 479,nat_lit 486,nat_lit 493,nat_lit 500,nat_lit 505,nat_lit 512,nat_lit 517,nat_lit 522,nat_lit 527,nat_lit 532,nat_lit 537,nat_lit 544,nat_lit 358,nat_lit 359,nat_lit 360,nat_lit 361,nat_lit 362,nat_lit 363,nat_lit 364,nat_lit 365,nat_lit 366,nat_lit 367,nat_lit 368,nat_lit 369,nat_lit 370,nat_lit 371] (fun _=>by kernel_rfl)
noncomputable abbrev lz:List Str:=["FORMS"]
theorem Aiz(w:cM){h:Heap}(X:(K0 w.params).In h)(G:h.Ns bU mg):FormsAt (K0 w.params) w mg "FORMS" Eb:=
 ⟨357,[("put",637,358),("take",641,359),("move",643,360),("points",647,361),("counts",648,362),("pairs",649,363),("halves",650,364),("below",651,365),("above",654,366),("box",657,367),("nth",662,368),("stairs",668,369),("longest",669,370),("crowd",670,371)],14,nJ X G (by kernel_rfl),by kernel_rfl,by kernel_rfl,Zd,.cons (ws:=[("name",638),("number",639),("number",640)]) (by kernel_rfl) Zb (.cons (ws:=[("name",642)]) (by kernel_rfl) Zb (.cons (ws:=[("name",644),("number",645),("number",646)]) (by kernel_rfl) Zb (.cons (ws:=[]) (by kernel_rfl) Zb (.cons (ws:=[]) (by kernel_rfl) Zb (.cons (ws:=[]) (by kernel_rfl) Zb (.cons (ws:=[]) (by kernel_rfl) Zb (.cons (ws:=[("number",652),("number",653)]) (by kernel_rfl) Zb (.cons (ws:=[("number",655),("number",656)]) (by kernel_rfl) Zb (.cons (ws:=[("number",658),("number",659),("number",660),("number",661)]) (by kernel_rfl) Zb (.cons (ws:=[("place",663),("number",664),("number",665),("number",666),("number",667)]) (by kernel_rfl) Zb (.cons (ws:=[]) (by kernel_rfl) Zb (.cons (ws:=[]) (by kernel_rfl) Zb (.cons (ws:=[]) (by kernel_rfl) Zb (.nil))))))))))))))⟩
theorem A4n(w:cM)(os:fW):(PySem.W.staticsOk (importedModules pp.main.body) (fF w.params) (hZ w.params)&&PySem.W.namesBound pp (hZ w.params)&&PySem.W.gensDone ⟨hZ w.params,⟨[]⟩,{},913,os⟩&&PySem.W.laidKept (fF w.params) (hZ w.params))=true:=by
 rw[jP];kernel_rfl
theorem A4m(w:cM)(os:fW):PySem.W.openSeen q0 lz (importedModules pp.main.body) (fun s=>vR q0 [] s&&vK [] s) true ⟨hZ w.params,⟨[]⟩,{},913,os⟩=PySem.W.openGood q0 lz:=by
 rw[jP,PySem.W.Fast.te4187177175401517315];kernel_rfl
theorem A4z(w:cM)(os:fW):hK.obs ⟨hZ w.params,⟨[]⟩,{},913,os⟩=hK.val w:=by kernel_rfl
theorem A40:PySem.W.LeftO pp q0 lz (fun s=>vR q0 [] s&&vK [] s) hK.obs hK.val 7470:=
 PySem.W.LeftO.of_pieces Axp Axr Ayo Zb fun w=>funext fun os=>nO (A4n w os) (nO (A4m w os) (A4z w os))
end
theorem A4d{l:lB}{q:cC}{loose:List Str}{XP:(Str->Option aH)->Heap->Prop}{YP:cM->Heap->Prop}{d:DefRec}{K:nE->aF}(hn:l.most=ξ 63)(hdf:d.params.defaults=[])
  (hY:∀ (w:cM) (h:Heap),YP w h->(K w.params).In h)
  (F:∀ (w:cM) (mg:Str->Option aH) (fa:Addr) (h:Heap),(K w.params).In h->h.Ns bU mg->mg d.name=ξ (.ref fa) ->
   ∃ fd:dS,(∀ (s:aN) (u:aH),mB s fd ⟨[u],[]⟩ [("script",u)])/\∀ base:Heap,(K w.params).In base->base.Ns bU mg->FnOk l.prog w (K w.params) mg base CX0 16 fa fd ["script"] (spF (K w.params) 1 Y1)) :
  vF q loose XP YP l.row.toRowW d [] (fun f vs=>tR f vs):=
 L2.Ar9 (n:=63) (k:=16) (x := "script") (CX:=fun _=>CX0) (sp:=fun w=>spF (K w.params) 1 Y1) hn Zb hdf ⟨rfl,Zb,Zb⟩ hY F (fun w H a ns hl ho hS=>Av9 ho hS (An4 ns hl)) fun _ _ _ _ _ z=>z
end Lw
end
open PySem PySem.W PyProof.Rows
set_option maxRecDepth 100000 in
set_option maxHeartbeats 0 in
theorem PySem.Challenge.cw_belowpoints_k41_desk_halves_and_stairs_holds : PySem.Challenge.rw_belowpoints_k41_desk_halves_and_stairs.Holds := by
  w_on; o_law
  refine holds_open (q := Lw.q0) (loose := Lw.lz) (Xt := fun s => xlAt Lw.q0 [] s && recOk [] s) (XP := XL Lw.q0 []) (Yf := Lw.hK.obs) (Ya := Lw.hK.val) (YP := InK Lw.K0) Lw.A40 Lw.hK.of Lw.hK.keeps (fun s e => xl_of s (Bool.and_eq_true_iff.mp e).1) XL.keeps (by rfl) (by rfl) (by rfl) (fun s e => recFacts_of (Bool.and_eq_true_iff.mp e).2) (by rfl) (by first | assumption | decide +kernel) (by decide +kernel) ⟨rfl, rfl, rfl, rfl, rfl, by decide +kernel⟩ ?hw ?hc
  case hw => w_witness2
  k_fill
  refine Lw.A4d (l := PySem.Challenge.rw_belowpoints_k41_desk_halves_and_stairs) rfl rfl (K := Lw.K0) (fun w h Y => Y) ?F
  case F =>
    intro w mg fa h KX G hmg
    refine Lw.Av6 ?C hmg
    case C =>
      apply Lw.Defs.mk
      all_goals first | exact Lw.Aiz w KX G | (refine' MR.mkG KX G ?a ?l ?c ?k ?h; (case a => k_is); (case l => k_is); (case c => k_is); (case k => k_is); case h => first | exact fun _ _ _ _ _ _ => MR.Axu (fun _ => rfl) | exact fun _ _ _ _ _ _ => MR.Avu (fun _ _ => rfl) | exact fun _ _ _ _ _ _ => MR.Axa (fun _ _ _ => rfl) | exact fun _ _ _ _ _ _ => MR.Ayn (fun _ _ _ _ => rfl)) | (refine' MR.mkM ?a ?i ?l ?c ?k ?h; (case a => k_is); (case i => k_is); (case l => k_is); (case c => k_is); (case k => k_is); case h => first | exact fun _ _ _ _ _ _ => MR.Axu (fun _ => rfl) | exact fun _ _ _ _ _ _ => MR.Avu (fun _ _ => rfl) | exact fun _ _ _ _ _ _ => MR.Axa (fun _ _ _ => rfl) | exact fun _ _ _ _ _ _ => MR.Ayn (fun _ _ _ _ => rfl)) | (refine' ⟨?_, ⟨?_, ?_, ?_, ?_⟩⟩ <;> k_is) | (refine' ⟨?_, ?_⟩ <;> first | k_is | kernel_rfl) | (refine' ⟨?_, ?_, ?_⟩ <;> first | k_is | kernel_rfl) | (refine' MR.A5a KX G ?a; (case a => k_is)) | (refine' MR.A39 KX G ?a; (case a => k_is)) | (unfold L2.NoAttr; k_is) | (refine' PySem.W.mg_of KX G ?_; k_is) | (refine' PySem.W.mg_none_of KX G ?_; k_is) | k_is | kernel_rfl
