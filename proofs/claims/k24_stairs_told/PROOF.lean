import PyProof.Rows.All
import Wide.All
import OpenK.AllK
import Wide.FinOn
import Lean
import PyProof.EqAt
import PyProof.EqKinds
import PyProof.TupleCall
import KE.KLam
import KE.KTurnsDict
import KE.KPairComp
import KE.KDictList
import KE.KSortTup
import PyProof.TupleOfSeq
import PyProof.Rows.SetFrom
import PyProof.WalksMore
import KE.KEqDict
import KE.KMinKey
import PySem.Challenge.RW_belowpoints_k24_stairs_told
set_option Elab.async false
set_option linter.all false
set_option maxRecDepth 100000
set_option maxHeartbeats 4000000
open Option renaming bind_some->aA,bind_eq_some_iff->aB,map_some->aD,map_eq_some_iff->aH,join_some->bD,getD_some->gQ,isSome_iff_exists->jF,isSome_some->sX,isSome_map->tO,none->yL
open List renaming getElem?_eq_getElem->aC,getD_eq_getElem?_getD->aE,getElem?_eq_some_iff->aI,length_map->aL,mem_cons_of_mem->aM,getElem?_cons_zero->aP,map_cons->aQ,length_cons->aR,mem_cons_self->aS,size_toArray->aT,mem_append_right->aW,getElem?_map->aX,getElem?_cons_succ->aY,set_cons_succ->aZ,set_cons_zero->bA,append_nil->bB,mem_cons->bE,getElem?_set_ne->bF,length_nil->bG,getElem?_append_left->bH,range->bJ,mem_map->bK,getElem?_set_self->bL,mem_range->bM,all_eq_true->bO,replicate->bP,mem_of_getElem?->bT,map_map->bU,mem_singleton->bV,getElem?_append_right->bX,map_nil->bY,mem_filter->bZ,Nodup->cD,lookup_cons->cF,length_append->cG,getElem?_eq_none_iff->cJ,pairwise_iff_getElem->cK,append_assoc->cM,getElem?_eq_none->cN,mem_append->cQ,getElem_mem->cS,find?_cons->cU,filter_eq_self->cW,length_range->dD,getElem_of_mem->dE,map_append->dF,map_congr_left->dG,replicate_zero->dH,filter_cons_of_pos->eD,take_add_one->eF,mem_append_left->eG,replicate_succ->eO,flatten_cons->eQ,length_take->eW,not_mem_nil->eY,nodup_append->fD,nil_append->fL,filter->fP,filter_cons_of_neg->fR,reverse_cons->fW,nodup_iff_pairwise_ne->fX,pairwise_map->fY,getElem?_range->gC,length_pos_iff->gD,length_set->gF,getLast?_eq_none_iff->gH,length_singleton->gO,length_filter_le->gP,cons_append->gT,ext_getElem->gU,pairwise_cons->gW,take_length->gX,toArray->hV,pairwise_append->iC,any_cons->iH,any_eq_true->iI,mem_filterMap->iK,zip_cons_cons->iL,getElem?_reverse->iR,getElem?_zip_eq_some->iT,nodup_cons->iX,take_sublist->jD,all_cons->jH,sum_cons->jI,take_of_length_le->jS,filter_eq_nil_iff->jW,ext_getElem?->kC,drop_eq_getElem_cons->kH,mem_of_find?_eq_some->kI,mem_map_of_mem->kL,flatten_append->kM,find?_eq_none->kZ,length->lC,length_eq_zero_iff->lF,findIdx_le_length->lV,filter_congr->lW,eraseIdx_eq_take_drop_succ->mB,take_append_drop->mF,contains_iff_mem->mG,filter_cons->mL,getElem?_mapIdx->mX,mem_of_getLast?->mZ,of_mem_zip->nB,foldl_cons->nC,forIn_cons->nD,filterMap_cons->nJ,filter_sublist->nM,zip_nil_right->oJ,getLast?_eq_some_iff->oT,mem_or_eq_of_mem_set->oU,getLast?_eq_getElem?->oV,any_eq_false->oZ,foldl_append->pI,length_erase_of_mem->pR,length_drop->pW,range_succ->qX,length_zip->qY,filter_map->qZ,mem_iff_getElem?->rD,forIn_nil->rN,drop_zero->rR,mem_of_mem_drop->rS,mem_erase_of_ne->rZ,mem_iff_getElem->sA,length_reverse->sF,map_take->sJ,map_drop->sK,getElem_range->tD,zip_nil_left->tJ,getLast?_map->tZ,zipIdx_cons->vJ,drop_length->vU,getElem_map->vW,mem_flatten->vX,map_id->wB,zipIdx_nil->wH,find?_some->wV,foldl->xG,all_nil->yE,zip_map->yF,range'->yN
open PySem.Heap renaming get?_push_of_some->aF,get?_push_size->aV,lt_size->bC,size_push->dB,get?_update_self->mD,SameBut->nN,ExtBut->pD,size_update->qC,get?_update_other->qM,IsTuple->qO
open PySem renaming wpAny_bind->aG,Value->aJ,Shared->aO,wpAny_pure->aU,starEach->bN,Program->cL,sizeLine_eq->cV,World->dC,mainGlobals->dJ,boot_len->dL,Around->dN,wpAny_mono->dO,wpAny_holding->dP,wpAny_Call_Name_kw->dR,compareOp->dY,wpAny_callSpecial?_slot->eR,wpAny_field->eT,wpAny_call_entry->eX,FuncData->fA,wpAny_newObj_type->fB,wpAny_seqItems->fG,treeTable->fM,wpAny_pyIter_tuple->fN,bootBuiltins->fT,wpAny_loadPart'->gE,codeAny_builtin->gG,binaryOp->gJ,Builtin->gZ,IsPair->iG,wpAny_setField_rec->iN,wpAny_passesOwn->iW,wpAny_truthy_bool->jA,wpAny_pyIter_list->jB,NameKind->jC,plainId_quiet->jJ,wpAny_newList->jK,mem_of_lookup->jM,wpAny_getItem_str_slice->jO,wpAny_tryCatch->jQ,Scope->kA,Keyword->kB,wpAny_letGo->kE,wpAny_updateSeq->kW,wpAny_pyIter_enum->lL,Arguments->mK,Env->mM,wpAny_rule->mN,OsState->mT,GenState->mV,wpAny_updateSeq_pair->mW,wpAny_execs_nil->nA,post_val_or_str->nG,IsZip->nK,codeAny->nQ,codeAny_mono->nR,wpAny_typeOf->nS,call_meets->oN,wpAny_letOwnedTupleGo_enum->oP,BindsTo->pC,wpAny_standAt->pL,wpAny_onRaise->pN,wpAny_attempt->pO,wpAny_comprehension_free->pP,noFill_tuple_add->pV,wpAny_pyIter_zip->pZ,builtinsNs->qF,wpAny_pyNext_list_item->qH,richCompare_meets_room->qI,IsPart->qK,pushCells_keeps->qW,wpAny_pyNext_list_end->rA,bindArgs->rF,Params->rK,ZipApart->rM,wpAny_newTuple->rO,rangeSize_one->sH,seq_tuple_add->sI,wpAny_load->sP,wpAny_call->sR,tupleKind_room_in1->sY,call_range_1->tF,concat_meets->tK,wpAny_sequenceKey->tL,seqIndex_neg->tM,slot_list_getitem->tN,callType_new->tS,Paired->vB,wpAny_execs_cons->vC,PassesOwn->vD,Result->vF,wpAny_forIn_list->vG,TriplesOk->vI,wpAny_isInstance->vL,DictEntry->vP,Fin->vT,seqIndex_of->vZ,wpAny_Name->wY,typeIs_str->xE,typeIs_int->xF,PyData->xH,Within->xZ,call->yR
open PySem.W renaming Frag->aK,tabIn->dQ,kia_one->eA,emptyDict->fU,kitOne->fV,boot_heap->fZ,fnOf->gY,keepIn->iA,instObj->iV,kas_ask->jN,kas_rev->jU,findIn->kD,BT->kF,cellsFrom_some->lH,nsIn->lK,piece_app->lX,segRun_of->lY,kas_sort->mC,topFrame->mP,piecesOf->mQ,segRunT->nI,OpenLaw->oD,codeIn->oG,boot_drawn->oQ,topRun->oR,methodObj->oX,kitx_list->pA,boot_toks->pJ,kas_descPart->qS,envX->qT,lookIn->rE,kitx_tuple->sQ,specialIn->tG,kitx_dict->tH,plainGet->vE,kas_tail3->vQ,kas_count->vR,kas_place->vS,kat_kind->vV,boot_o_0->vY,kat_nil->wQ,KatTups->wR,kla_obj->wU,topStub->wW,blockOf->wX,kat_lt->xK,kla_fn->xL,segRun->xN,restOf->xO,WalkO->xR,Looks->xS,mg_of->xU,recOk->xW,isFn->yA,xlAt->yG
open Nat renaming le_refl->aN,lt_of_lt_of_le->bI,ne_of_lt->bW,le_trans->cC,lt_irrefl->cX,sub_self->dA,lt_succ_self->eK,zero_le->eS,le_succ->iB,ne_of_gt->iE,le_of_lt->iZ,add_sub_cancel->jV,lt_succ_of_lt->lM,lt_trichotomy->lU,le_of_eq->nO,zero_add->nV,succ_le_succ->pX,min_eq_left->qU,pow_le_pow_right->rQ,lt_trans->tP,le_succ_of_le->tT,sub_zero->tW,le_add_right->vN,log2_lt->wA,two_pow_pos->wL,add_comm->yC
open Option.some renaming inj->bQ
open PySem.Obj renaming mapSeq->bR,data_mapFields->sZ
open Bool renaming false_eq_true->bS,and_eq_true->cB,false_ne_true->cO,eq_iff_iff->eV,not_true->jL,and_eq_false_iff->jZ,not_eq_true'->lR,and_true->mS,and_false->oO,or_eq_true->qV,not_false->rY,false_and->wZ,false_or->xQ,true_and->xV
open PySem.Str renaming ofString->cH,length->xD,empty->xX
open Array renaming getD_eq_getD_getElem?->cI,length_toList->cR,getElem?_toList->fE,getElem?_eq_getElem->iU,toList_append->kK,size_append->pF,append_assoc->sO,toList->tE,ext->xY
open Prod renaming snd->cP,fst->jE,ext->xB
open PyProof.Rows renaming callWith_type1->cT,slot_tuple_getitem->dZ,boot_sorted->fJ,IntsAre->iQ,get?_update_seq->iY,listUpdate_at->kQ,entry_list_sort->kY,slot_list_sort->lN,call_function_entry_kw->lP,boot_sum->mH,boot_all->mI,wpAny_call_entry_kw->nL,plain_sorted->nZ,entry_sorted->oA,IsTup->oY,kind_sorted->pG,truthy_int->qA,AllBare->qG,subscriptTail_builtinR->qL,SortKind->rT,seqEpoch_at->rV,callWith_kw->rX,entry_tuple_getitem->sB,args_tuple_getitem->sT,listItems_at->tX,collect_list->tY,boot_range->xA,Subscript_->xC,size_push'->xJ
open PySem.W.Fast renaming te14364793385576792824->cY,te10110043849684766642->fK,te5923862056798008813->lB
open PySem.Builtin.SmallTypes renaming nextOf->cZ,ownedTupleIsFree->fH,ownedTupleHandOut->kJ
open PySem.PassesOwn renaming never->dI
open Sum renaming inr->dM,inl->mR
open PySem.F renaming plainAttrs_list->dS,slot_list_append->eM,type_list_append->eN,plain_min_loop->eZ,slot_tuple_iterator_next->iM,plain_list_iadd->jP,args_tuple_add_2->kO,entry_tuple_add->lD,slot_tuple_add->lJ,entry_min_loop->lQ,args_tuple_iterator_next_1->nE,slot_zip_next->nF,entry_tuple_iterator_next->nT,entry_proto_collect->nW,plain_proto_collect->nX,slot_dict_values->pQ,args_tuple_lt_2->pT,entry_list_iadd->qB,entry_tuple_lt->qJ,slot_tuple_lt->rB,slot_enumerate_next->rC,args_list_extend_2->rJ,args_object_init_3->rP,entry_list_extend->sC,slot_list_extend->sW,args_zip_next_1->tQ,entry_zip_next->vK,typeCall_zip_2->vM,slot_int_rmul->wF,newCall_zip_2->wI,entry_zip_new->wJ
open PySem.Heap.SameBut renaming update->dU
open PySem.Builtin.Int renaming intBits->dW
open PySem.Value renaming none->dX,ref->eB,type->iJ,int->mJ,bool->qE,notImplemented->rH,str->vA,isStrOf->xP,isInt->yH,float->yI
open PySem.PyData renaming eqv->eC,canLay0->iO,depth->jT,eqvAll->kP,strOk->qR,canLayAll0->tV,depthAll->wK,list->yO
open Int renaming toNat_natCast->eE,emod_nonneg->iD,emod_lt_of_pos->iP,ofNat->mO,le_refl->mY,natCast_nonneg->sV,max_eq_right->vH,min_eq_left->wC,ediv_nonneg->wM,ofNat_le->yB
open PySem.Around renaming under_plainId->eI,in1->qQ,frames_deeper->rG
open Ne renaming symm->eJ
open False renaming elim->eP
open PySem.Builtin.List renaming listTooLong->fF,listExtendWith->nY
open PySem.Builtin.Str renaming occurrences->fO
open PySem.Txt renaming slice->gR,mul->kT,slice_le->tU,join->xI
open PySem.NameKind renaming cell->hU,free->jY
open PySem.SeqAt renaming shaped->iF,EqAt->sS
open PySem.Builtin.Slice renaming slicePlaces->iS,sliceAdjust->kG,sliceApplied->oK
open PySem.Builtin.Tuple renaming tupleExact->jG,tupleCompareSizes->lZ,tupleItemsOf->oM
open True renaming intro->jR
open ForInStep renaming yield->jX
open PySem.AutoSeq1 renaming sub_tuple_tuple->kN
open List.Pairwise renaming imp_of_mem->kR
open List.cons renaming injEq->kX
open List.Perm renaming append_left->mE,trans->wN
open Prod.mk renaming inj->mU,injEq->sL
open PySem.W.WData renaming weightAll->nH,int->pY,layableAll->vO,weight->yD,list->yP
open PySem.Builtin.Builtins renaming bindParams->oB
open PySem.Calls renaming Name_function_global->oE,spliced_cons->oF,spliced_nil->pB,callWith_builtin->qN,call_function_entry->sD
open PySem.SeqAt.EqAt renaming int_int->oH,int_str->sM,str_int->sN,same->wD
open Sum.inr renaming inj->oW
open PySem.Shared renaming heap->pE
open PySem.W.Looks renaming now->pH
open PySem.Paired renaming length->pK,snoc->yM
open Or renaming inr->pM,inl->rL
open PySem.Builtin.Range renaming rangeSize->pS
open PySem.Builtin.Dict renaming updateFrom->qD
open PySem.Walks renaming list->qP
open PySem.W.KatTups renaming cons->rW,nil->sE
open PySem.W.SharedT renaming abs->sG
open PySem.Heap.IsTuple renaming push->tR
open PySem.Heap.DictOf renaming new->wG
open StateT renaming run_pure->wO
open Int.ofNat renaming inj->xT
open PySem.Data renaming fields->yJ
open PySem.IsRange renaming new->yK
open PySem.W.WShape renaming has->yQ
open PyProof.Rows.SortSt renaming mk'->yS
noncomputable section
open Option renaming some->ξ,none->ψ
local macro_rules|`(tactic|omega)=>`(tactic|lia)
local macro_rules|`(tactic|lk)=>`(tactic|decide +kernel)
open Lean in
set_option hygiene false in
local macro_rules
 | `($f:ident $a*)=>let g i:=a.getD i ⟨.missing⟩;let x:=g 0;let y:=g 1;let z:=g 2;let w:=g 3;let v:=g 4;let u:=g 5;let t:=g 6;let s:=g 7;match f.getId with
 |`η=>`(ξ (.ref $x))
 |`χ=>`(ξ (.int $x))
 |`ω=>`(fC (.int $x))
 |`Γ=>`(ξ (.tup $x))
 |`Δ=>`(Aa (Ad $x) $y)
 |`Ξ=>`(ξ (.lst $x))
 |`ζ=>`(Inv $x pins $y $z $w)
 |`ad=>`(model X.prog $x)
 |`ae=>`(f2 $x (Ad $y) $z)
 |`ag=>`(MR.gCons (gN $x) $y)
 |`am=>`(L2.Inv $x pins $y $z $w)
 |`au=>`(Ac (Ag $x) $y)
 |`ay=>`(Av $x $y (Δ $z $w))
 |`a7=>`(Aa $x Af)
 |`a8=>`(A9 $x (gN $y))
 |`bc=>`(bN $x X.env)
 |`bh=>`(ξ (.str $x))
 |`bn=>`(eval $x X.env)
 |`bu=>`(.Call (.Name $x $y) $z $w $v)
 |`bw=>`(zs "law_belowpoints_k24_stairs_told" $x)
 |`bz=>`(ae $x $y (ω $z))
 |`b7=>`(ptAt ps $x)
 |`b8=>`(FnScope $x $y (Ap $z))
 |`b9=>`(Az $x (Az $y $z))
 |`cb=>`(upd $x $y (.lst $z))
 |`cc=>`(Gw.new $x _)
 |`cg=>`(ζ $x σ $y $z)
 |`ci=>`(seqObj "list" $x $y)
 |`cj=>`(fC (.str $x))
 |`ck=>`(⟨$x,$y,$z,rfl,$w⟩)
 |`cm=>`(wpAny $x $y $z $w $v s)
 |`cu=>`(⟨$x,rfl⟩)
 |`c6=>`(at0 p $x)
 |`c9=>`(MR.gTup $x (ag $y $z))
 |`df=>`(Δ $x Af)
 |`dh=>`(ξ (p3U $x))
 |`dj=>`(LamB $x $y base)
 |`dk=>`(Be $x $y $z (au $w $v))
 |`dl=>`(turnOf cs $x)
 |`dm=>`(List (Option $x))
 |`dw=>`(RepL $x $y α $z $w)
 |`dy=>`(backToKw $x (keywordEach $y $z))
 |`dz=>`(sIx items.size $x $y)
 |`d9=>`(model prog $x)
 |`eg=>`(.refl _ $x)
 |`eh=>`(Am (Ay $x))
 |`fm=>`(ag $x MR.gNil)
 |`fq=>`(Ac $x Ae)
 |`f6=>`(backTo $x (bc $y))
 |`f7=>`(upd H $x $y)
 |`f8=>`(cg X $x $y)
 |`gf=>`(a7 (ω $x))
 |`gg=>`(A8 $x (df $y))
 |`gh=>`(RepU $x $y α $z $w)
 |`gi=>`(Aa $x (Aa $y $z))
 |`gj=>`(am $x σ $y $z)
 |`gm=>`(f2 $x $y (ω $z))
 |`gt=>`(zx $x $y (top $z))
 |`gu=>`(⟨$x,rfl,$y⟩)
 |`gx=>`(zf $x $y (top $z) $w $v)
 |`gy=>`(PEF X $x $y)
 |`ia=>`(Abs $x $y α $z)
 |`ib=>`(envOfC $x $y s.heap.objs.size $z $w)
 |`ik=>`(⟨$x,$y,rfl⟩)
 |`im=>`(f8 H $x)
 |`iq=>`(de $x $y $z (zr $w))
 |`iu=>`(Defs $x mg)
 |`iw=>`(zh5 $x "tuple_iterator" $y $z $w)
 |`iy=>`(ξ (.dic $x))
 |`iz=>`(Bf Aw $x $y $z $w)
 |`i5=>`(iz Ax $x $y $z)
 |`i6=>`(wpAny $x $y $z _ $w $v)
 |`ja=>`(Vals $x us)
 |`je=>`(Gr $x α $y $z)
 |`jg=>`(b9 (a8 $x $y) $z $w)
 |`jh=>`(aF _ $x)
 |`jl=>`(ξ (.frz $x $y))
 |`jm=>`(dk $x $y hr $z $w)
 |`jn=>`(ys.getD $x .non)
 |`jp=>`(gx $x $y $z $w (zr $v))
 |`ju=>`(HT.sIx xs.length $x $y)
 |`jx=>`(au $x Ae)
 |`j4=>`(.cons $x .nil)
 |`j8=>`(ay $x $y 0 $z)
 |`kh=>`(aV $x rfl)
 |`kn=>`(ci vs.toArray $x)
 |`ko=>`(Bg $x (A7 $y) $z $w $v)
 |`kq=>`(Gdk $x d $y)
 |`kw=>`(if_pos (small_of $x))
 |`ky=>`(.ListComp $x $y scope $z)
 |`ld=>`(.BoolOp $x $y pos)
 |`lg=>`(cellsFrom $x scope.names $y)
 |`li=>`(c9 $x $y (fm $z))
 |`lj=>`(gj X $x $y)
 |`ll=>`(CallR $x (.builtin $y) $z)
 |`lm=>`(A8 $x (a7 $y))
 |`lu=>`(foldedSetIterable $x X.env $y)
 |`lv=>`(SqT K $x $y $z)
 |`l3=>`(FnG $x mg $y $z $w)
 |`l4=>`(PE X $x $y)
 |`l7=>`(RepKV $x $y α $z $w)
 |`l9=>`(je $x $y α')
 |`me=>`(assignEach $x X.env)
 |`mi=>`(RelV $x u)
 |`ml=>`(L.set $x (.lst $y))
 |`mo=>`(g1.trans (g2.trans $x))
 |`mx=>`(rvB rev $x)
 |`my=>`(Abs $x $y α' $z)
 |`m9=>`(OpR $x (dY $y) $z)
 |`nb=>`(bz Al $x $y)
 |`nk=>`(.Subscript $x $y pos)
 |`np=>`(Gm $x scope $y $z $w $v $u $t $s)
 |`nu=>`(zs "/claim/cut.py" $x)
 |`nv=>`(.inr (.inl $x))
 |`nw=>`(dj $x mg)
 |`oh=>`(r.zip (r.drop $x))
 |`oj=>`(Gw $x L')
 |`oo=>`(spF K $x $y)
 |`oq=>`(aM _ $x)
 |`ou=>`(f7 s.heap.objs.size $x)
 |`oz=>`(ck rfl $x $y $z)
 |`o8=>`(oz rfl $x $y)
 |`o9=>`(o8 rfl $x)
 |`pq=>`(hp.bd h0 $x)
 |`pz=>`(⟨$x,$y,rfl,$z,$w⟩)
 |`p6=>`(i5 $x Ai $y)
 |`qh=>`(Cr (ltK $x) $y)
 |`qi=>`(bg ps $x)
 |`qk=>`(SqL $x H $y $z)
 |`qm=>`(dz items.size $x)
 |`qw=>`(Bk (Ao $x $y) $z)
 |`qz=>`(Ξ (ixU $x))
 |`re=>`(.int $x t)
 |`rg=>`(dw $x H $y $z)
 |`rh=>`(Aa $x (a7 $y))
 |`rj=>`(Au (Bh $x $y))
 |`rm=>`(np $x $y $z $w $v $u $t pins)
 |`sd=>`(RepU $x $y α' $z $w)
 |`sf=>`(jh (jh $x))
 |`sj=>`(Loc X.env.scope $x)
 |`sn=>`(CompScC $x scope $y $z)
 |`su=>`(Bo $x j.toNat)
 |`sv=>`(.int $x 0)
 |`sw=>`(abl ps $x)
 |`sx=>`(Aq $x n)
 |`s9=>`(f δ $x)
 |`tz=>`(bu $x $y $z $w pos)
 |`t9=>`(l9 $x H')
 |`vm=>`(rg K $x $y)
 |`vo=>`(.inr (.inr $x))
 |`vp=>`(Bx (ps.map $x))
 |`vq=>`(Fm "list" $x $y $z)
 |`vt=>`(G4 $x pins $y $z)
 |`vv=>`(vm $x xs)
 |`vx=>`(swapsWith $x $y $z X.env)
 |`vy=>`(ts.getD i $x)
 |`vz=>`(.Call (.Attribute $x $y $z) $w $v $u)
 |_=>Macro.throwUnsupported
open Lean in
set_option hygiene false in
local macro_rules
 | `($x:ident)=>match x.getId with
 |`θ=>`(ps.map p3U)
 |`Λ=>`(List Int)
 |`Φ=>`(List Str)
 |`Ψ=>`(List Addr)
 |`Ω=>`(List Nat)
 |`ε=>`(List V)
 |`aa=>`(List U)
 |`ac=>`(List aJ)
 |`af=>`(aB.mp e)
 |`ah=>`(List P3)
 |`ao=>`(ξ o)
 |`aq=>`(Γ θ)
 |`aw=>`(η L.length)
 |`az=>`(Option U)
 |`a9=>`(s.heap.get? b)
 |`be=>`(aN _)
 |`bf=>`(Option Int)
 |`bi=>`(Option aJ)
 |`bj=>`(ad X.w)
 |`bo=>`(X.env.cells.lookup x)
 |`bp=>`(.ref a)
 |`bq=>`(.ref s.heap.objs.size)
 |`br=>`(ξ u)
 |`bv=>`(Array aJ)
 |`bx=>`(bJ ps.length)
 |`ce=>`(.int i)
 |`cf=>`(.ref L.length)
 |`cq=>`(h'.get? b)
 |`cx=>`(aH.mp e)
 |`cy=>`(.ref l)
 |`c7=>`(HU.lst [])
 |`c8=>`(Ag 0)
 |`dg=>`(Ad 0)
 |`di=>`(.ref n)
 |`dq=>`(Ad 1)
 |`dt=>`(["points"])
 |`du=>`(Option Addr)
 |`dv=>`(η d)
 |`d6=>`(g1.trans g2)
 |`d7=>`(.ref p)
 |`d8=>`(gN 0)
 |`ed=>`(List β)
 |`ei=>`(Array Nat)
 |`el=>`(.tup θ)
 |`eo=>`(.bl true)
 |`ff=>`(.ref f)
 |`fg=>`(ξ c)
 |`fj=>`(List Expr)
 |`fu=>`(ns.map V.int)
 |`fw=>`(.dK kvs)
 |`fz=>`(.lst [])
 |`f9=>`(rs.map U.ref)
 |`gd=>`(Ag 1)
 |`ge=>`(S.mono g1)
 |`gl=>`(cc _)
 |`gn=>`(H b)
 |`gp=>`(eg _)
 |`gq=>`(.bl false)
 |`gs=>`(lf.map cP)
 |`gv=>`(.ref b)
 |`ic=>`(Bx rows.flatten)
 |`ie=>`(ns.map U.int)
 |`ig=>`(.ref r)
 |`ii=>`(zi 0)
 |`ij=>`(ξ 0)
 |`il=>`(D.map nbU)
 |`io=>`(im s)
 |`ip=>`(.int 1)
 |`ir=>`(Wo lt)
 |`i7=>`(I.ok.hd hc)
 |`i8=>`(K w.params)
 |`i9=>`(ξ .local)
 |`jb=>`(rows.map Ci)
 |`jc=>`(.inl rfl)
 |`jd=>`(h.get? b)
 |`jf=>`(srt ps)
 |`ji=>`(Dv ps)
 |`jj=>`(List PN)
 |`jk=>`(cu _)
 |`jo=>`(dl p)
 |`jq=>`(List En)
 |`jr=>`(scope.names.lookup x)
 |`jv=>`(if_pos rfl)
 |`jw=>`(ξ x)
 |`jy=>`(bh abc)
 |`jz=>`(Bp _)
 |`j3=>`(ξ v)
 |`j5=>`(I.hok.fresh be)
 |`j6=>`(sc.names.lookup x)
 |`j7=>`(H a)
 |`j9=>`(ξ .cell)
 |`kc=>`(χ begin)
 |`ke=>`(dh p)
 |`kg=>`(iu K)
 |`ki=>`(kh _)
 |`kj=>`(rawInt pos.line)
 |`km=>`(aC hi)
 |`kt=>`(I.tok _)
 |`ku=>`(topN lf)
 |`lh=>`(ws.map U.str)
 |`lp=>`(rawInt pos.col)
 |`lr=>`(List Λ)
 |`lw=>`(.int j)
 |`ly=>`(dm Nat)
 |`l5=>`(W.refl _)
 |`l6=>`(r.mono g)
 |`l8=>`(ξ P)
 |`ma=>`(I1.hok.fresh be)
 |`mf=>`(Ak s1)
 |`mh=>`(Cw Af)
 |`mj=>`(cl.lookup x)
 |`mm=>`(d9 w)
 |`mn=>`(η f)
 |`mq=>`(X.env.scope.names.lookup x)
 |`mr=>`(.bool true)
 |`mt=>`(cs.map key)
 |`mw=>`(ξ us)
 |`mz=>`(List Key)
 |`m6=>`(ξ 2)
 |`m7=>`(ξ a)
 |`m8=>`(ω 1)
 |`ng=>`(.ref M1.length)
 |`nh=>`(List Stmt)
 |`ni=>`(Low p.1)
 |`nj=>`(.dK vs)
 |`nq=>`(H' b)
 |`nr=>`(Ad 3)
 |`ny=>`(nw K)
 |`nz=>`(sp.map U.str)
 |`n4=>`(χ place)
 |`n6=>`(χ way)
 |`n8=>`(jh e)
 |`n9=>`(bh near)
 |`oa=>`(I.list hq)
 |`og=>`(lf.map nU)
 |`om=>`(oj L)
 |`ow=>`(.ref c)
 |`ox=>`(.tup l)
 |`oy=>`(pr p.2)
 |`pc=>`(o9 rfl)
 |`pe=>`(cH "key")
 |`pf=>`(ξ .free)
 |`ph=>`(χ kind)
 |`pi=>`(b7 i)
 |`pj=>`(η M.length)
 |`pk=>`(one c)
 |`p9=>`(.type "dict")
 |`qe=>`(η Lb.length)
 |`qf=>`(⟨[]⟩)
 |`qo=>`(srtN ku)
 |`qp=>`(topC cs)
 |`qq=>`(H p)
 |`qr=>`(.ref M.length)
 |`qt=>`(cl.lookup y.1)
 |`qu=>`(s.heap.get? a)
 |`qv=>`(List Env)
 |`qx=>`(Ag 2)
 |`qy=>`(Ag 3)
 |`rp=>`(kv.toArray.zip vs.toArray)
 |`rq=>`(cw.map nmC)
 |`se=>`(Ce jf)
 |`si=>`(η s)
 |`sk=>`(.int ns.sum)
 |`ss=>`(ps.map cP)
 |`sy=>`(sx L)
 |`tm=>`(s9 L)
 |`tq=>`(List jq)
 |`tu=>`(List kB)
 |`tw=>`(χ many)
 |`vg=>`(t9 H)
 |`vh=>`(.type "list")
 |`vi=>`(c6 i)
 |`vj=>`(η b)
 |`vk=>`(η c)
 |`vn=>`(oq hx)
 |`vw=>`(vv us)
 |`v5=>`(Ad 2)
 |`v7=>`(bC e)
 |`v8=>`(sv 0)
 |`v9=>`(η W)
 |_=>Macro.throwUnsupported
open Lean in
set_option hygiene false in
local macro_rules
 | `($x:ident)=>match x.getId with
 |`Za=>`((by simp))
 |`Zb=>`((by decide))
 |`Zc=>`((by rfl))
 |`Zd=>`((by lk))
 |`Ze=>`((by omega))
 |`Zf=>`((by with_unfolding_all rfl))
 |`Zg=>`((fun _ _=>rfl))
 |`Zh=>`((rm X cl C N' s2 H2 fp))
 |`Zi=>`((s.heap.objs.size+1))
 |`Zj=>`((sts++[SN.sU ((Kj ps (C1 ps ls)).map (nmS ps))]))
 |`Zk=>`(((pl.map fun q=>((cntO pl q:Nat):Int)).map U.int))
 |`Zl=>`((fun (j:Nat)=>U.int (j:Int)))
 |`Zm=>`((fun z=>nomatch z))
 |`Zn=>`((fun _=>true))
 |`Zo=>`((.tbl (ps++#[kj,lp,.ref c'])))
 |`Zp=>`((((sIx items.size 0 lo:Nat):Int) == 0&&(1:Int) == 1&&(qm hi - dz 0 lo) == items.size))
 |`Zq=>`([x0,vk,ke,χ (turnOf cs p:Nat),Γ rq])
 |`Zr=>`((fun z=>hb (by simp[z])))
 |`Zs=>`((c6 (m - 1)))
 |`Zt=>`((bR fun _=>(#[]:bv)))
 |`Zu=>`((EP X pins σ Q))
 |`Zv=>`((jm C.uG (B1 C LB) 0 (fq Ai)))
 |`Zw=>`((∀ c o,c≠z->c≠TO->c≠j1->c≠j2->s.heap.get? c=ao->h'.get? c=ao))
 |`Zx=>`((fun v H'=>∃ α',vg/\my X.K H' L/\sd X.K H' z v))
 |`Zy=>`((ky elt [⟨tg,iter,ifs,0⟩] pos))
 |`Zz=>`(((Kl ps).map SN.sU))
 |`ZA=>`((sts++[.tup (((qo).map jE).map U.str)]))
 |`ZB=>`((ha pins s σ H _ I h))
 |`ZC=>`((ps.map fun p=>((dM p.1:L2.Key),f p)))
 |`ZD=>`((fun _ _ _ _ _ _=>c8))
 |`ZE=>`((ha pos pins s σ H _ I h))
 |`ZF=>`((false,bn e))
 |`ZG=>`((Aem (Bn (ae Di 4 mh)) (Bn (gm By (j8 2 A0 (gf 5)) 0))))
 |`ZH=>`((fun _=>rfl))
 |`ZI=>`((∀ v H' α',vg->my K H' L'->sd K H' z v->Q v H'))
 |`ZJ=>`(((cAs gs).map U.int))
 |`ZK=>`([x0,x1,jy,η n2,kc,n9,n4,χ al,χ (k:Int),bh pk])
 |`ZL=>`(((ic).map U.str))
 |`ZN=>`((.Tuple elts x1 tpos))
 |`ZO=>`((fun z=>hc (by simp[z])))
 |`ZP=>`((Bi Cg C4 Zc C.uZ dL (jx 0)))
 |`ZQ=>`(((qh kz vs.length).map fun i=>yr.getD i .non))
 |`ZR=>`(((qh ks us.length).map fun i=>us.getD i .non))
 |`ZS=>`((fun r=>Pm n r.2/\1<=r.1/\r.1<=nrem/\UpS lt r.2 r.1/\Fx n r.2 r.1))
 |`ZU=>`((false,bn a))
 |`ZV=>`((gY x qual (G7 st) (Fh st) (Ap st) .none kV doc pm an cdv ct))
 |`ZW=>`((ps.map fun p=>((dM p.1:L2.Key),U.int 1)))
 |`ZX=>`((k == jY&&env.scope.kind == .function&&env.kindOf n == j9))
 |`ZY=>`(((js.map fun j=>bs.getD j 0).map U.int))
 |`ZZ=>`((ci its.toArray 0))
 |`Z0=>`((fun i j=>lt (at_ i) (at_ j)))
 |`Z1=>`((Acs CX P w K mg base N qual scope f cdv A outer s H E))
 |`Z2=>`((fun k x=>rfl))
 |`Z3=>`((fun δ=>∃ a b,δ = [a,b]))
 |`Z4=>`((Bi Cg C4 Zc C.uZ dL (jx 1)))
 |`Z5=>`((tz x p (e::es) []))
 |`Z6=>`((fun z=>by cases z))
 |`Z7=>`((∀ b o,a9=ao->cq=ao))
 |`Z8=>`((fun b o hb e=>(sb.2 b hb).trans e))
 |`Z9=>`(((qh ks ys.length).map fun i=>jn i))
 |`Zaa=>`((fun r=>Pm n r.2/\1<=r.1/\r.1<=nrem/\Up lt r.2 r.1))
 |`Zab=>`((ae Al 4 (j8 2 A0 (a7 (gg Bc 4)))))
 |`Zac=>`((notedBy bj X.A X'.env fun e s'=>R (.error e) s'))
 |`Zad=>`((B4 rfl rfl rfl))
 |`Zae=>`([x0,si,br,x3,x4])
 |_=>Macro.throwUnsupported
namespace L2
open PySem PySem.Spec PyProof.Rows
noncomputable abbrev Key:=Sum Int Str
def Vt:Key->aJ->Bool
 | .inl k,v=>yH k v
 | .inr x,v=>xP x v
def A1s(w:dC):Key->Int
 | .inl k=>hashInt k
 | .inr x=>hashStr w x
theorem Cz:∀ {k:Key} {v:aJ},Vt k v=true->(∃ i t,k=mR i/\v=mJ i t)\/(∃ x t,k=dM x/\v=vA x t)
 | .inl i,v,h=>by
  obtain ⟨t,e⟩:=aJ.isInt_shape (k:=i) (v:=v) h;exact .inl ⟨i,t,rfl,e⟩
 | .inr x,v,h=>by
  obtain ⟨t,e⟩:=aJ.isStrOf_shape (x:=x) (v:=v) h;exact .inr ⟨x,t,rfl,e⟩
theorem Air(i:Int)(t:Tok):Vt (.inl i) (re i)=true:=by simp[Vt,yH]
theorem Aj8(x:Str)(t:Tok):Vt (.inr x) (.str x t)=true:=by simp[Vt,xP]
theorem Awi(a b:Int):decide ((mR a:Key)=mR b)=(a == b):=by
 by_cases e:a=b
 ·subst e;simp
 ·have h:¬ (mR a:Key)=mR b:=fun q=>e (mR.inj q)
  rw[decide_eq_false h];exact (beq_eq_false_iff_ne.mpr e).symm
theorem Awm(a b:Str):decide ((dM a:Key)=dM b)=decide (a=b):=by
 by_cases e:a=b
 ·subst e;simp
 ·have h:¬ (dM a:Key)=dM b:=fun q=>e (oW q)
  rw[decide_eq_false h,decide_eq_false e]
theorem Aud(a:Int)(b:Str):decide ((mR a:Key)=dM b)=false:=decide_eq_false (fun q=>nomatch q)
theorem Auj(a:Str)(b:Int):decide ((dM a:Key)=mR b)=false:=decide_eq_false (fun q=>nomatch q)
def Bs(prog:cL)(w:dC):PySem.KeyKind prog w Key where
 is:=Vt
 hash:=A1s w
 inj:=fun v a b ha hb=>by
  rcases Cz ha with ⟨i,t,rfl,rfl⟩ | ⟨x,t,rfl,rfl⟩
  ·rcases Cz hb with ⟨j,u,rfl,e⟩ | ⟨y,u,rfl,e⟩
   ·injection e with e1 _;rw[e1]
   ·exact nomatch e
  ·rcases Cz hb with ⟨j,u,rfl,e⟩ | ⟨y,u,rfl,e⟩
   ·exact nomatch e
   ·injection e with e1 _;rw[e1]
 byValue:=fun k v h=>by
  rcases Cz h with ⟨i,t,rfl,rfl⟩ | ⟨x,t,rfl,rfl⟩ <;> rfl
 pyHash:=fun hv h=>by
  rcases Cz hv with ⟨i,t,rfl,rfl⟩ | ⟨x,t,rfl,rfl⟩
  ·exact wpAny_pyHash_int h
  ·exact wpAny_pyHash_str h
 eqBool:=fun hu hv h=>by
  rcases Cz hu with ⟨i,t,rfl,rfl⟩ | ⟨x,t,rfl,rfl⟩
  ·rcases Cz hv with ⟨j,u,rfl,rfl⟩ | ⟨y,u,rfl,rfl⟩
   ·rw[Awi] at h;exact wpAny_eqBool_int h
   ·rw[Aud] at h;exact sM i t y u _ _ _ _ h
  ·rcases Cz hv with ⟨j,u,rfl,rfl⟩ | ⟨y,u,rfl,rfl⟩
   ·rw[Auj] at h;exact sN x t j u _ _ _ _ h
   ·rw[Awm] at h;exact wpAny_eqBool_str h
 «strs» := fun k x t v h=>by
  rcases Cz h with ⟨i,u,rfl,e⟩ | ⟨y,u,rfl,e⟩
  ·exact nomatch e
  ·injection e with e1 _
   subst e1;cases v <;> rfl
theorem Ad0(prog:cL)(w:dC)(k:Key)(v:aJ):(Bs prog w).is k v=Vt k v:=rfl
theorem Abi(prog:cL)(w:dC)(i:Int)(t:Tok):(Bs prog w).is (.inl i) (re i)=true:=Air i t
theorem Sk(prog:cL)(w:dC)(x:Str)(t:Tok):(Bs prog w).is (.inr x) (.str x t)=true:=Aj8 x t
inductive V where
 | non | bl (b:Bool) | int (i:Int) | str (x:Str) | byt (b:Array UInt8) | flt (b:UInt64) | ref (a:Addr) | ty (n:String)
 deriving DecidableEq
noncomputable def RelV:V->aJ->Prop
 | .non,u=>u=dX
 | .bl b,u=>u=qE b
 | .int i,u=>∃ t,u=mJ i t
 | .str x,u=>∃ t,u=vA x t
 | .byt b,u=>∃ t,u=aJ.bytes b t
 | .flt b,u=>∃ t,u=yI b t
 | .ref a,u=>u=eB a
 | .ty n,u=>u=iJ n
abbrev Vals:ε->ac->Prop:=vB RelV
variable {xs:ε}{us:ac}
theorem Vals.length(r:ja xs):xs.length=us.length:=pK r
variable {i:Nat}
theorem Vals.get{x:V}(h:ja xs)(e:xs[i]? = jw):∃ u,us[i]? = br/\mi x:=by
 induction h generalizing i with
 | nil=>cases e
 | cons r t ih=>
  cases i with
  | zero=>cases e;exact ⟨_,rfl,r⟩
  | succ i=>exact ih (i:=i) e
variable {u:aJ}
theorem Vals.set{x:V}(r:mi x)(i:Nat)(h:ja xs):Vals (xs.set i x) (us.set i u):=by
 induction h generalizing i with
 | nil=>exact .nil
 | cons q t ih=>
  cases i with
  | zero=>exact .cons r t
  | succ i=>exact .cons q (ih i)
variable {ys:ε}
theorem Vals.append{ws:ac}(h:ja xs)(s:Vals ys ws):Vals (xs++ys) (us++ws):=by
 induction h with
 | nil=>exact s
 | cons r t ih=>exact .cons r ih
theorem Vals.take(n:Nat)(h:ja xs):Vals (xs.take n) (us.take n):=by
 induction h generalizing n with
 | nil=>cases n <;> exact .nil
 | cons r t ih=>
  cases n with
  | zero=>exact .nil
  | succ n=>exact .cons r (ih n)
theorem Vals.drop(n:Nat)(h:ja xs):Vals (xs.drop n) (us.drop n):=by
 induction h generalizing n with
 | nil=>cases n <;> exact .nil
 | cons r t ih=>
  cases n with
  | zero=>exact .cons r t
  | succ n=>exact ih n
theorem Vals.none_of:∀ {xs:ε} {us:ac} {i:Nat},ja xs->xs[i]? = ψ->us[i]? = ψ:=fun {xs us i} r e=>by
 have h1:=r.length;have h2:xs.length<=i:=cJ.mp e;exact cJ.mpr Ze
def RelO:Option V->bi->Prop
 | some v,ξ u=>RelV v u
 | none,ψ=>True
 | _,_=>False
def KV{κ:Type}:List (κ×V)->List (κ×aJ)->Prop:=vB fun (p:κ×V) (q:κ×aJ)=>p.1=q.1/\RelV p.2 q.2
def kV:Key->V
 | .inl i=>.int i
 | .inr x=>.str x
inductive HO where
 | lst (xs:ε)
 | tup (xs:ε)
 | dK (kvs:List (Key×V)) | dT (kvs:List (mz×V))
 | set (S:Int->Bool) (n:Nat)
 | ins (C dx:Addr) (fs:List (Str×V))
 | own (x:Addr)
 | xd (fs:List (Str×V))
 | met (f x:Addr)
 | rng (lo hi:Int)
 | frz (o:Obj) (u:HO)
 | tbl (ps:bv)
 | ext (φ:Heap->Prop)
noncomputable abbrev Hp:=Addr->Option HO
def upd(H:Hp)(a:Addr)(o:HO):Hp:=fun b=>if b=a then ξ o else gn
variable {H:Hp}{a:Addr}{o:HO}
theorem upd_same:upd H a o a=ao:=by unfold upd;rw[jv]
variable {b:Addr}
theorem Au(h:b≠a):upd H a o b=gn:=by unfold upd;rw[if_neg h]
theorem Ni{u:HO}(h:j7=ao)(h':gn=br)(d:o≠u):a≠b:=by
 intro e;subst e;rw[h] at h';exact d (bQ h')
theorem Bh(h:j7=ao)(h':gn=ψ):a≠b:=by
 intro e;subst e;rw[h] at h';cases h'
def TupN(h:Heap)(a:Addr)(its:bv):Prop:=∃ o:Obj,h.get? a=ao/\(o.cls,o.dict)=(iJ "tuple",(ψ:du))/\∃ n,o.data = .seq its n
variable {h:Heap}
theorem TupN.is{its:bv}(x:TupN h a its):h.IsTuple a its:=by
 obtain ⟨o,e,c,n,d⟩:=x;exact ⟨o,e,(mU c).1,n,d⟩
theorem TupN.new(h:Heap)(its:bv):TupN (h.push { cls:=.type "tuple",data:=.seq its }) h.objs.size its:=pz _ ki 0 rfl
theorem TupN.lt{its:bv}(x:TupN h a its):a < h.objs.size:=by
 obtain ⟨o,e,_⟩:=x;exact v7
section
variable (P:cL)(w:dC)
def ObjOk(H:Hp)(h:Heap)(a:Addr):HO->Prop
 | .lst xs=>xs.length<=sizeLine/\∃ (its:ac) (n:Nat),Vals xs its/\h.get? a=ξ { cls:=.type "list",data:=.seq its.toArray n }
 | .tup xs=>xs.length<=sizeLine/\∃ its:List aJ,Vals xs its/\TupN h a its.toArray
 | .dK kvs=>kvs.length<=sizeLine/\(a == sysModules)=false/\∃ vs,KV kvs vs/\h.DictOf (Bs P w) a vs
 | .dT kvs=>kvs.length<=sizeLine/\(a == sysModules)=false/\∃ xs:List (mz×Addr×aJ),
   vB (fun (p:List Key×V) (q:List Key×Addr×aJ)=>p.1=q.1/\H q.2.1=Γ (p.1.map kV)/\RelV p.2 q.2.2) kvs xs /\
   ∃ o es ep,h.get? a=ao/\o.ExactDict/\o.data = .dict es ep/\es.toList=xs.map (entryOfKey (tupleKind (Bs P w)))/\(xs.map (·.1)).Nodup
 | .set S n=>h.SetOf (intKind P w) a S n
 | .ins C dx fs=>H dx=ξ (.own a)/\fs.length<=1000/\dx≠a/\h.get? a=ξ (iV C dx) /\
   ∃ mA,h.Ns1 dx mA/\(∀ f,RelO (fs.lookup f) (mA f))/\xZ mA (fs.map (·.1))
 | .own _=>∃ o,h.get? a=ξ o
 | .xd fs=>∃ mA,h.Ns1 a mA/\∀ f,RelO (fs.lookup f) (mA f)
 | .rng lo hi=>∃ t u v,h.get? a=ξ { cls:=.type "range",data:=.fields #[re lo,.int hi u,.int 1 v] }
 | .frz o u=>h.get? a=ξ o/\ObjOk H h a u
 | .tbl ps=>h.get? a=ξ { cls:=.none,data:=.fields ps }
 | .met f x=>h.get? a=ξ (oX ff (.ref x))
 | .ext φ=>φ h/\(∃ o,h.get? a=ao)/\∀ h1 h2:Heap,φ h1->(∀ o,h1.get? a=ao->h2.get? a=ao)->φ h2
def HOk(H:Hp)(h:Heap):Prop:=∀ a o,j7=ao->ObjOk P w H h a o
end
variable {P:cL}{w:dC}{H':Hp}{h':Heap}
section
theorem ObjOk.lt(x:ObjOk P w H h a o):a < h.objs.size:=by
 cases o with
 | lst xs=>obtain ⟨_,_,_,_,e⟩:=x;exact bC e
 | tup xs=>obtain ⟨_,_,_,p⟩:=x;exact p.lt
 | dK kvs=>obtain ⟨_,_,_,_,o,_,_,e,_⟩:=x;exact bC e
 | dT kvs=>obtain ⟨_,_,_,_,o,_,_,e,_⟩:=x;exact bC e
 | set S n=>obtain ⟨o,_,_,_,e,_⟩:=x;exact bC e
 | ins C dx fs=>obtain ⟨_,_,_,e,_⟩:=x;exact bC e
 | own y=>obtain ⟨_,e⟩:=x;exact bC e
 | xd fs=>obtain ⟨_,⟨_,_,_,e,_⟩,_⟩:=x;exact bC e
 | rng lo hi=>obtain ⟨_,_,_,e⟩:=x;exact bC e
 | frz ob u=>obtain ⟨e,_⟩:=x;exact bC e
 | tbl ps=>exact bC (show h.get? a=ξ _ from x)
 | met f y=>exact bC (show h.get? a=ξ _ from x)
 | ext φ=>obtain ⟨_,⟨_,e⟩,_⟩:=x;exact bC e
theorem Paired.mapP{α β:Type}{F G:α->β->Prop}{l₁:List α}{l₂:ed}(h:vB F l₁ l₂)(f:∀ a b,F a b->G a b):vB G l₁ l₂:=by
 induction h with
 | nil=>exact .nil
 | cons r t ih=>exact .cons (f _ _ r) ih
theorem ObjOk.stay(x:ObjOk P w H h a o)(k:∀ b u,(b=a\/gn=ξ (.own a))->jd=br->cq=br)
  (ho:∀ b,gn=ξ (.own a)->nq=ξ (.own a)) (ht:∀ b xs,gn=Γ xs->nq=Γ xs):ObjOk P w H' h' a o:=by
 induction o with
 | lst xs=>obtain ⟨z,its,n,r,e⟩:=x;exact ⟨z,its,n,r,k _ _ jc e⟩
 | tup xs=>obtain ⟨z,its,r,ob,e,c⟩:=x;exact ⟨z,its,r,ob,k _ _ jc e,c⟩
 | dK kvs=>obtain ⟨z,y,vs,r,ob,es,ep,e,c⟩:=x;exact ⟨z,y,vs,r,ob,es,ep,k _ _ jc e,c⟩
 | dT kvs=>
  obtain ⟨z,y,xs,r,ob,es,ep,e,c⟩:=x;exact ⟨z,y,xs,Paired.mapP r fun p q z=>⟨z.1,ht _ _ z.2.1,z.2.2⟩,ob,es,ep,k _ _ jc e,c⟩
 | set S n=>obtain ⟨ob,es,ep,t,e,c⟩:=x;exact ⟨ob,es,ep,t,k _ _ jc e,c⟩
 | ins C dx fs=>
  obtain ⟨d,z,ne,e,mA,⟨od,es,ep,e2,c⟩,r⟩:=x;exact ⟨ho _ d,z,ne,k _ _ jc e,mA,⟨od,es,ep,k _ _ (.inr d) e2,c⟩,r⟩
 | own y=>obtain ⟨ob,e⟩:=x;exact ⟨ob,k _ _ jc e⟩
 | xd fs=>obtain ⟨mA,⟨od,es,ep,e,c⟩,r⟩:=x;exact ⟨mA,⟨od,es,ep,k _ _ jc e,c⟩,r⟩
 | rng lo hi=>obtain ⟨t,u,v,e⟩:=x;exact ⟨t,u,v,k _ _ jc e⟩
 | frz ob u ih=>obtain ⟨e,q⟩:=x;exact ⟨k _ _ jc e,ih q⟩
 | tbl ps=>
  have e:h.get? a=ξ { cls:=.none,data:=.fields ps }:=x;show h'.get? a=ξ { cls:=.none,data:=.fields ps };exact k a _ jc e
 | met f y=>
  have e:h.get? a=ξ (oX ff (.ref y)):=x;show h'.get? a=ξ (oX ff (.ref y));exact k a _ jc e
 | ext φ=>obtain ⟨p,⟨o,e⟩,st⟩:=x;exact ⟨st _ _ p fun o q=>k _ _ jc q,⟨o,k _ _ jc e⟩,st⟩
theorem HOk.lt(x:HOk P w H h)(e:j7=ao):a < h.objs.size:=(x a o e).lt
theorem HOk.fresh(x:HOk P w H h)(e:h.objs.size<=a):j7=ψ:=by
 cases q:H a with
 | none=>rfl
 | some u=>exact absurd (bI (x.lt q) e) (cX _)
theorem HOk.kept(x:HOk P w H h)(k:∀ b u,jd=br->cq=br):HOk P w H h':=fun a o e=>
 (x a o e).stay (fun b u _ q=>k b u q) (fun _ q=>q) fun _ _ q=>q
theorem HOk.laid(x:HOk P w H h)(k:∀ b u,jd=br->cq=br)(hp:h.objs.size<=a)(new:ObjOk P w (f7 a o) h' a o):HOk P w (f7 a o) h':=fun b u e=>by
 have hn:=x.fresh hp;by_cases hb:b=a
 ·subst hb;rw[upd_same] at e;cases e;exact new
 ·rw[Au hb] at e;exact (x b u e).stay (fun c v _ q=>k c v q) (fun c q=>by rw[rj q hn];exact q) fun c xs q=>by rw[rj q hn];exact q
end
def Rd(H:Hp)(a:Addr)(u:HO):Prop:=j7=ξ u\/∃ o,j7=jl o u
theorem Rd.of{u:HO}(h:j7=br):Rd H a u:=.inl h
theorem Rd.ok{u:HO}(r:Rd H a u)(x:HOk P w H h):ObjOk P w H h a u:=by
 rcases r with r | ⟨o,r⟩
 ·exact x a u r
 ·obtain ⟨_,q⟩:=x a _ r;exact q
def Mut:Option HO->Prop
 | some (.lst _)=>True
 | some (.dK _)=>True
 | some (.dT _)=>True
 | some (.set _ _)=>True
 | some (.ins _ _ _)=>True
 | some (.ext _)=>True
 | _=>False
section
variable {x e:Addr}{o':HO}
theorem HOk.write(ok:HOk P w H h)(mu:Mut (H x))(he:e=x\/H e=ξ (.own x))(k:∀ b u,b≠e->jd=br->cq=br)(heo:∃ u,h'.get? e=br)
  (new:ObjOk P w (f7 x o') h' x o'):HOk P w (f7 x o') h':=fun b u q=>by
 have nown:∀ c y,H c=ξ (.own y)->c≠x:=fun c y r z=>by subst z;rw[r] at mu;exact mu
 have ntup:∀ c xs,H c=Γ xs->c≠x:=fun c xs r z=>by subst z;rw[r] at mu;exact mu
 by_cases hb:b=x
 ·subst hb;rw[upd_same] at q;cases q;exact new
 ·rw[Au hb] at q;by_cases hbe:b=e
  ·have q':gn=ξ (.own x):=by
    rcases he with z | z
    ·exact absurd (hbe.trans z) hb
    ·rw[hbe];exact z
   rw[q] at q';cases q';obtain ⟨v,hv⟩:=heo;exact ⟨v,by rw[hbe];exact hv⟩
  ·refine (ok b u q).stay (fun c v hc r=>k c v ?_ r) (fun c r=>by rw[Au (nown c b r)];exact r) fun c xs r=>by rw[Au (ntup c xs r)];exact r
   rcases hc with rfl | hc
   ·exact hbe
   ·rintro rfl;rcases he with z | z
    ·exact nown c b hc z
    ·rw[hc] at z;cases z;exact hb rfl
end
structure Un(fs ex:Ψ)(H H':Hp)(h h':Heap):Prop where
 keep:∀ b o,jd=ao->gn=ψ->b∉fs->b∉ex->cq=ao
 slot:∀ b o,jd=ao->gn=ψ->b∈fs->b∉ex->∃ sl,cq=ξ { o with slots:=sl }
 free:∀ b o,jd=ao->gn=ψ->b∉ex->nq=ψ
 there:∀ b o,jd=ao->b∉ex->∃ o',cq=ξ o'
 tups:∀ b xs,gn=Γ xs->nq=Γ xs
 frzs:∀ b o u,gn=jl o u->nq=jl o u
 tbls:∀ b ps,gn=ξ (.tbl ps)->∃ more,nq=ξ (.tbl (ps++more))
section
variable {fs fs' ex ex':Ψ}{H1 H2:Hp}{h1 h2:Heap}{x e:Addr}
theorem Un.any(u:Un fs ex H H1 h h1){ob:Obj}(q:jd=ξ ob)(n:gn=ψ)(hx:b∉ex):∃ sl,h1.get? b=ξ { ob with slots:=sl }:=by
 by_cases hb:b∈fs
 ·exact u.slot b ob q n hb hx
 ·exact ⟨ob.slots,u.keep b ob q n hb hx⟩
theorem Un.trans(a:Un fs ex H H1 h h1)(b:Un fs ex H1 H2 h1 h2):Un fs ex H H2 h h2 where
 keep:=fun c ob q n hc hx=>b.keep c ob (a.keep c ob q n hc hx) (a.free c ob q n hx) hc hx
 slot:=fun c ob q n hc hx=>by
  obtain ⟨sl,e1⟩:=a.slot c ob q n hc hx;obtain ⟨sl',e2⟩:=b.slot c _ e1 (a.free c ob q n hx) hc hx;exact ⟨sl',e2⟩
 free:=fun c ob q n hx=>by
  obtain ⟨o',e1⟩:=a.there c ob q hx;exact b.free c o' e1 (a.free c ob q n hx) hx
 there:=fun c ob q hx=>by
  obtain ⟨o',e1⟩:=a.there c ob q hx;exact b.there c o' e1 hx
 tups:=fun c xs q=>b.tups c xs (a.tups c xs q)
 frzs:=fun c ob xs q=>b.frzs c ob xs (a.frzs c ob xs q)
 tbls:=fun c ps q=>by
  obtain ⟨m1,e1⟩:=a.tbls c ps q;obtain ⟨m2,e2⟩:=b.tbls c _ e1;exact ⟨m1++m2,by rw[e2,sO]⟩
theorem Un.kept(k:∀ b u,jd=br->cq=br):Un fs ex H H h h':=
 ⟨fun b ob q _ _ _=>k b ob q,fun b ob q _ _ _=>⟨ob.slots,k b ob q⟩,fun _ _ _ n _=>n,fun b ob q _=>⟨ob,k b ob q⟩,fun _ _ q=>q,fun _ _ _ q=>q,fun _ ps q=>⟨#[],by rw[q];simp⟩⟩
theorem Un.refl:Un fs ex H H h h:=Un.kept fun _ _ q=>q
theorem Un.laid(k:∀ b u,jd=br->cq=br)(hp:h.objs.size<=a)(hn:j7=ψ):Un fs ex H (f7 a o) h h' where
 keep:=fun b u q _ _ _=>k b u q
 slot:=fun b u q _ _ _=>⟨u.slots,k b u q⟩
 free:=fun b u q n _=>by rw[Au (bW (bI (bC q) hp))];exact n
 there:=fun b u q _=>⟨u,k b u q⟩
 tups:=fun b xs q=>by rw[rj q hn];exact q
 frzs:=fun b u xs q=>by rw[rj q hn];exact q
 tbls:=fun b ps q=>⟨#[],by rw[rj q hn,q];simp⟩
theorem Un.write(mu:Mut (H x))(he:e=x\/H e=ξ (.own x))(k:∀ b u,b≠e->jd=br->cq=br)(heo:∃ u,h'.get? e=br):Un fs ex H (f7 x o) h h':=by
 have hx:∀ b,gn=ψ->b≠x:=fun b n z=>by subst z;rw[n] at mu;exact mu
 have hb:∀ b,gn=ψ->b≠e:=fun b n z=>by
  subst z;rcases he with r | r
  ·exact hx b n r
  ·rw[n] at r;cases r
 have hm:∀ b u,gn=ξ u->¬ Mut br->b≠x:=fun b u q nm z=>by subst z;rw[q] at mu;exact nm mu
 refine ⟨fun b u q n _ _=>k b u (hb b n) q,fun b u q n _ _=>⟨u.slots,k b u (hb b n) q⟩,fun b u q n _=>by rw[Au (hx b n)];exact n,fun b u q _=>?_,
  fun b xs q=>by rw[Au (hm b _ q fun z=>z)];exact q,fun b u xs q=>by rw[Au (hm b _ q fun z=>z)];exact q,fun b ps q=>⟨#[],by rw[Au (hm b _ q fun z=>z),q];simp⟩⟩
 by_cases hbe:b=e
 ·subst hbe;exact heo
 ·exact ⟨u,k b u hbe q⟩
theorem Un.mono(u:Un fs ex H H1 h h1)(hs:∀ b∈fs,b∈fs')(hx:∀ b∈ex,b∈ex'):Un fs' ex' H H1 h h1:=
 ⟨fun b ob q n hb he=>u.keep b ob q n (fun z=>hb (hs b z)) fun z=>he (hx b z),fun _ _ q n _ he=>u.any q n fun z=>he (hx _ z),fun b ob q n he=>u.free b ob q n fun z=>he (hx b z),fun b ob q he=>u.there b ob q fun z=>he (hx b z),u.tups,u.frzs,u.tbls⟩
end
def trk(h:Heap)(H:Hp):Ψ:=(bJ h.objs.size).filter fun a=>(j7).isSome
def Xf(h:Heap)(H:Hp):Heap:=PySem.W.hideAll h (trk h H)
theorem Aie(h:Heap)(H:Hp):(Xf h H).objs.size=h.objs.size:=PySem.W.hideAll_size _ _
theorem Amu{o:Obj}(e:jd=ao)(n:gn=ψ):(Xf h H).get? b=ao:=
 PySem.W.hideAll_get _ e fun hm=>by
  have q:(gn).isSome=true:=(bZ.mp hm).2;rw[n] at q;simp at q
theorem Asa{o:Obj}(e:(Xf h H).get? b=ao):jd=ao/\gn=ψ:=by
 have e':jd=ao:=PySem.W.of_hideAll (trk h H) e;refine ⟨e',?_⟩;cases q:H b with
 | none=>rfl
 | some x=>
  have hm:b∈trk h H:=bZ.mpr ⟨bM.mpr (bC e'),by simp[q]⟩;have z:(Xf h H).get? b=ψ:=PySem.W.hideAll_none (trk h H) hm;rw[z] at e;cases e
noncomputable def Aq2(g h:Heap)(L:Addr):List (Addr×Obj):=(bJ h.objs.size).filterMap fun a=>if a=L\/(g.get? a).isSome=true then ψ else (h.get? a).map fun o=>(a,o)
def rest(g h:Heap)(L d:Addr):List (Addr×Obj):=(Aq2 g h L).filter fun p=>decide (p.1≠d)
structure Mod(K:aK)(mg:Str->bi)(base:Heap):Prop where
 kin:K.In base
 glob:base.Ns dJ mg
 blt:∃ mb,base.Ns qF mb/\∀ x:Str,x ≠ "__name__" -> mb x=fT x
 nolimit:base.NoLimit
structure Cx where
 prog:cL
 w:dC
 K:aK
 mg:Str->bi
 base:Heap
 A:dN
 N:Φ
 s₀:aO
 H₀:Hp
 env:Env
 outer:qv
 stack:qv
 ex:Ψ
 fn:Str->Bool
 calm:Bool
 pn:List (Addr×Obj)
 xe:aJ->aO->Prop
noncomputable def frs(l:qv):Ψ:=l.filterMap (·.frame)
abbrev Cx.fs(X:Cx):Ψ:=frs X.outer
def Vis(sc:kA)(x:Str):Prop:=j6=i9\/j6=j9\/j6=pf
def Loc(sc:kA)(x:Str):Prop:=j6=i9\/j6=j9
def A02(env:Env)(h:Heap)(m:Str->bi)(x:Str)(u:aJ):Prop:=
 (env.kindOf x=i9/\m x=br)\/((env.kindOf x=j9\/env.kindOf x=pf)/\∃ c,env.cells.lookup x=fg/\h.IsCell c br)
structure Cx.Ok(X:Cx):Prop where
 mod:Mod X.K X.mg X.base
 kind:X.env.scope.kind = .function
 glob:X.env.globals=dJ
 blt:X.env.builtins=qF
 above:X.s₀.heap.objs.size<=X.env.locals
 inj:∀ x y c,bo=fg->X.env.cells.lookup y=fg->x=y
 has:∀ x,(X.env.kindOf x=j9\/X.env.kindOf x=pf)->∃ c,bo=fg
 cab:∀ x c,X.fn x=true->bo=fg->X.s₀.heap.objs.size<=c
 hd:X.calm=true->X.A.handled=ψ
 frames:X.A.frames=ξ X.stack
 stk:X.stack=X.outer\/(X.stack=X.env::X.outer/\X.env.frame=ξ X.env.locals)
 exf:∀ b∈X.ex,b≠X.env.locals/\∀ x c,bo=fg->c≠b
 bs:∀ b o,X.base.get? b=ao->X.s₀.heap.get? b=ao/\X.H₀ b=ψ
 bsz:X.base.objs.size<=X.s₀.heap.objs.size
 noex:∀ b o,X.base.get? b=ao->b∉X.ex
 exfs:∀ b∈X.ex,b∉X.fs
 funs:X.s₀.heap.FunFrames X.base X.outer
 frf:∀ b∈X.fs,X.H₀ b=ψ
structure Inv(X:Cx)(pins:List (Addr×Obj))(σ:dm V)(H:Hp)(s:aO):Prop where
 ok:X.Ok
 os:s.os=X.s₀.os
 bare:qG s.gens
 base:Un X.fs X.ex X.H₀ H X.s₀.heap s.heap
 loc:∃ m,s.heap.Ns X.env.locals m/\∀ (i:Nat) (x:Str) (v:V),X.N[i]? = jw->σ[i]? = ξ j3->Vis X.env.scope x->∃ u,mi v/\A02 X.env s.heap m x u
 cell:∀ x c,bo=ξ c->∃ v,s.heap.IsCell c v
 free:H X.env.locals=ψ
 freeC:∀ x c,bo=fg->H c=ψ
 pin:∀ p∈X.pn++pins,s.heap.get? p.1=ξ p.2/\H p.1=ψ/\p.1≠X.env.locals/\p.1∉X.fs/\∀ v,p.2.data≠.cell v
 hok:HOk X.prog X.w H s.heap
 len:σ.length=X.N.length
variable {x:Str}{X:Cx}{pins:List (Addr×Obj)}{s s':aO}{t' j:Nat}{ch:Ψ}{M:Model}{A:dN}{E:aJ->aO->Prop}{v:V}
section
variable {σ:dm V}
theorem Cx.Ok.nofr(ok:X.Ok){o:Obj}(e:X.base.get? b=ao):b∉X.fs:=fun hb=>by
 have:=(ok.funs.mem hb).1;rw[e] at this;cases this
theorem Inv.bs(I:io):∀ b o,X.base.get? b=ao->a9=ao/\gn=ψ:=fun b o e=>
 ⟨I.base.keep b o (I.ok.bs b o e).1 (I.ok.bs b o e).2 (I.ok.nofr e) (I.ok.noex b o e),I.base.free b o (I.ok.bs b o e).1 (I.ok.bs b o e).2 (I.ok.noex b o e)⟩
theorem Inv.bk(I:io):∀ b o,X.base.get? b=ao->a9=ao:=fun b o e=>(I.bs b o e).1
theorem Inv.mod(I:io):Mod X.K X.mg X.base:=I.ok.mod
theorem Inv.kIn(I:io):X.K.In s.heap:=I.ok.mod.kin.keeps I.bk
theorem Inv.nolimit(I:io):s.heap.NoLimit:=I.ok.mod.nolimit.keeps I.bk
theorem Inv.fr(I:io):∃ m,Fr X.base X.env.locals s.heap m:=
 let ⟨m,hn,_⟩:=I.loc
 ⟨m,hn,I.bk,cC I.ok.bsz I.ok.above⟩
theorem Inv.lt(I:io):X.env.locals < s.heap.objs.size:=let ⟨_,hn,_⟩:=I.loc;hn.lt
theorem Inv.sz(I:io):X.s₀.heap.objs.size<=s.heap.objs.size:=cC I.ok.above (iZ I.lt)
theorem Inv.nofs(I:io)(h:s.heap.objs.size<=a):a∉X.fs:=fun hb=>by
 obtain ⟨_,o,ho,_⟩:=I.ok.funs.mem hb;exact absurd (bI (bC ho) (cC I.sz h)) (cX _)
theorem Inv.cne(I:io):∀ x c,bo=fg->c≠X.env.locals:=fun x c e z=>by
 obtain ⟨v,o,ho,hd⟩:=I.cell x c e;obtain ⟨m,⟨o',es,ep,ho',hd',_⟩,_⟩:=I.loc;rw[z,ho'] at ho;cases ho;rw[hd'] at hd;cases hd
theorem Inv.funs(I:io):s.heap.FunFrames X.base X.outer:=by
 have all:∀ (l:qv),(∀ b∈frs l,b∈X.fs)->X.s₀.heap.FunFrames X.base l->s.heap.FunFrames X.base l:=by
  intro l;induction l with
  | nil=>intro _ _;trivial
  | cons env r ih=>
   intro hs hl;obtain ⟨hk,⟨L,o,hf,hn,ho,hd⟩,hr⟩:=hl;have hL:L∈X.fs:=hs L (by unfold frs;rw[nJ,hf];exact aS)
   obtain ⟨sl,e⟩:=I.base.slot L o ho (I.ok.frf L hL) hL fun z=>I.ok.exfs L z hL
   exact ⟨hk,⟨L,_,hf,hn,e,hd⟩,ih (fun b hb=>hs b (by unfold frs;rw[nJ,hf];exact oq hb)) hr⟩
 exact all X.outer (fun _ hb=>hb) I.ok.funs
theorem Inv.stack(I:io):s.heap.FunFrames X.base X.stack:=by
 rcases I.ok.stk with e | ⟨e,hf⟩
 ·rw[e];exact I.funs
 ·rw[e];obtain ⟨m,hn,_⟩:=I.loc;refine .cons (by rw[I.ok.kind];decide) hf hn ?_ I.funs;exact Heap.get?_none_of_le (cC I.ok.bsz I.ok.above)
theorem Inv.stkSub(I:io):∀ b∈frs X.stack,b∈X.env.locals::X.fs:=fun b hb=>by
 rcases I.ok.stk with e | ⟨e,hf⟩
 ·rw[e] at hb;exact oq hb
 ·rw[e] at hb;unfold frs at hb;rw[nJ,hf] at hb;exact hb
theorem Inv.stkFree(I:io):∀ b∈frs X.stack,gn=ψ:=fun b hb=>by
 rcases bE.mp (I.stkSub b hb) with e | hb
 ·rw[e];exact I.free
 ·obtain ⟨_,o,ho,_⟩:=I.ok.funs.mem hb;exact I.base.free b o ho (I.ok.frf b hb) fun z=>I.ok.exfs b z hb
theorem Inv.step{g':Array mV}{d':Drawn}(I:io)
  (hch:∀ b∈ch,(b∈X.ex\/X.s₀.heap.objs.size<=b)/\b≠X.env.locals/\(∀ x c,bo=fg->c≠b)/\∀ p∈X.pn++pins,p.1≠b)
  (keep:∀ b o,b≠X.env.locals->b∉X.fs->b∉ch->a9=ao->gn=ψ->cq=ao)
  (slot:∀ b o,b≠X.env.locals->b∈X.fs->b∉ch->a9=ao->gn=ψ->∃ sl,cq=ξ { o with slots:=sl }) (free:∀ b o,b∉ch->a9=ao->gn=ψ->nq=ψ)
  (there:∀ b o,b∉ch->a9=ξ o->∃ o',cq=ξ o')
  (tups:∀ b xs,gn=Γ xs->nq=Γ xs) (frzs:∀ b o u,gn=jl o u->nq=jl o u) (tbls:∀ b ps,gn=ξ (.tbl ps)->∃ more,nq=ξ (.tbl (ps++more)))
  (ns:∀ m,s.heap.Ns X.env.locals m->h'.Ns X.env.locals m) (hok:HOk X.prog X.w H' h') (hg:qG g') :
  Inv X pins σ H' { s with heap:=h',gens:=g',drawn:=d',toks:=t' }:=by
 have neL:∀ b o,X.s₀.heap.get? b=ao->b≠X.env.locals:=fun b o e=>bW (bI v7 I.ok.above)
 have neC:∀ b o,X.s₀.heap.get? b=ao->b∉X.ex->b∉ch:=fun b o e hx hb=>by
  rcases (hch b hb).1 with z | z
  ·exact hx z
  ·exact absurd (bI v7 z) (cX _)
 have cellK:∀ x c,bo=ξ c->∀ v,s.heap.IsCell c v->h'.IsCell c v:=fun x c e v zz=>by
  obtain ⟨o,ho,hd⟩:=zz;have nch:c∉ch:=fun z=>(hch c z).2.2.1 x c e rfl
  by_cases hc:c∈X.fs
  ·obtain ⟨sl,q⟩:=slot c o (I.cne x c e) hc nch ho (I.freeC x c e);exact ⟨_,q,hd⟩
  ·exact ⟨o,keep c o (I.cne x c e) hc nch ho (I.freeC x c e),hd⟩
 refine ⟨I.ok,I.os,hg,⟨fun b o e n hb hx=>?_,fun b o e n hb hx=>?_,fun b o e n hx=>?_,fun b o e hx=>?_,fun b xs e=>tups b xs (I.base.tups b xs e),fun b o xs e=>frzs b o xs (I.base.frzs b o xs e),fun b ps e=>?_⟩,?_,fun x c e=>?_,?_,fun x c e=>?_,fun p hp=>?_,hok,I.len⟩
 ·exact keep b o (neL b o e) hb (neC b o e hx) (I.base.keep b o e n hb hx) (I.base.free b o e n hx)
 ·obtain ⟨sl,e1⟩:=I.base.slot b o e n hb hx;obtain ⟨sl',e2⟩:=slot b _ (neL b o e) hb (neC b o e hx) e1 (I.base.free b o e n hx);exact ⟨sl',e2⟩
 ·obtain ⟨o',e1⟩:=I.base.there b o e hx;exact free b o' (neC b o e hx) e1 (I.base.free b o e n hx)
 ·obtain ⟨o',e1⟩:=I.base.there b o e hx;exact there b o' (neC b o e hx) e1
 ·obtain ⟨m1,e1⟩:=I.base.tbls b ps e;obtain ⟨m2,e2⟩:=tbls b _ e1;exact ⟨m1++m2,by rw[e2,sO]⟩
 ·obtain ⟨m,hn,hl⟩:=I.loc;refine ⟨m,ns m hn,fun i x v e1 e2 e3=>?_⟩;obtain ⟨u,r,l⟩:=hl i x v e1 e2 e3;refine ⟨u,r,?_⟩;rcases l with l | ⟨k,c,e,z⟩
  ·exact .inl l
  ·exact .inr ⟨k,c,e,cellK x c e _ z⟩
 ·obtain ⟨v,z⟩:=I.cell x c e;exact ⟨v,cellK x c e v z⟩
 ·obtain ⟨m,⟨o,_,_,ho,_⟩,_⟩:=I.loc;exact free _ o (fun z=>(hch _ z).2.1 rfl) ho I.free
 ·obtain ⟨v,o,ho,hd⟩:=I.cell x c e;exact free c o (fun z=>(hch c z).2.2.1 x c e rfl) ho (I.freeC x c e)
 ·obtain ⟨e,n,ne,nf,d⟩:=I.pin p hp;have nch:p.1∉ch:=fun z=>(hch p.1 z).2.2.2 p hp rfl
  exact ⟨keep p.1 p.2 ne nf nch e n,free p.1 p.2 nch e n,ne,nf,d⟩
theorem Inv.un(I:io)(u:Un X.fs [] H H' s.heap h')(hok:HOk X.prog X.w H' h'):f8 H' { s with heap:=h',toks:=t' }:=by
 obtain ⟨m,⟨o,es,ep,ho,r⟩,_⟩:=id I.loc;obtain ⟨sl,hL⟩:=u.any ho I.free Za;exact I.step (g':=s.gens) (d':=s.drawn) (ch:=[]) (fun _ z=>nomatch z) (fun b o _ hb _ e n=>u.keep b o e n hb Za) (fun b o _ hb _ e n=>u.slot b o e n hb Za) (fun b o _ e n=>u.free b o e n Za) (fun b o _ e=>u.there b o e Za) u.tups u.frzs u.tbls (fun m' hm=>by
  obtain ⟨o',es',ep',ho',r'⟩:=hm;rw[ho] at ho';cases ho';exact ⟨_,es',ep',hL,r'⟩) hok I.bare
theorem Inv.call{g':Array mV}{d':Drawn}(I:io)(u:Un (frs X.stack) ch H H' s.heap h')(hok:HOk X.prog X.w H' h')(hg:qG g')
  (hch:∀ b∈ch,(b∈X.ex\/X.s₀.heap.objs.size<=b)/\b≠X.env.locals/\(∀ x c,bo=fg->c≠b)/\∀ p∈X.pn++pins,p.1≠b) :
  Inv X pins σ H' { s with heap:=h',gens:=g',drawn:=d',toks:=t' }:=by
 obtain ⟨m,⟨o,es,ep,ho,r⟩,_⟩:=id I.loc;obtain ⟨sl,hL⟩:=u.any ho I.free fun z=>(hch _ z).2.1 rfl
 exact I.step (ch:=ch) hch (fun b o hL hb hc e n=>u.keep b o e n (fun z=>(bE.mp (I.stkSub b z)).elim hL hb) hc) (fun b o _ _ hc e n=>u.any e n hc) (fun b o hc e n=>u.free b o e n hc) (fun b o hc e=>u.there b o e hc) u.tups u.frzs u.tbls (fun m' hm=>by
  obtain ⟨o',es',ep',ho',r'⟩:=hm;rw[ho] at ho';cases ho';exact ⟨_,es',ep',hL,r'⟩) hok hg
theorem Inv.turned{it:Addr}(I:io)(k:∀ b o,b≠it->a9=ao->cq=ao)(hn:H it=ψ)(hL:it≠X.env.locals)
  (h1:it∈X.ex\/X.s₀.heap.objs.size<=it) (h2:∀ x c,bo=fg->c≠it) (h3:∀ p∈X.pn++pins,p.1≠it):im { s with heap:=h',toks:=t' }:=by
 have nit:∀ b u,gn=br->b≠it:=fun b u e z=>by rw[z,hn] at e;cases e
 refine I.step (g':=s.gens) (d':=s.drawn) (ch:=[it]) (fun b hb=>?_) (fun b o _ _ hc e _=>k b o ZO e) (fun b o _ _ hc e _=>⟨o.slots,k b o ZO e⟩) (fun _ _ _ _ n=>n)
  (fun b o hc e=>⟨o,k b o ZO e⟩) (fun _ _ e=>e) (fun _ _ _ e=>e) (fun b ps e=>⟨#[],by rw[e];simp⟩) (fun m hm=>?_) (fun b u e=>?_) I.bare
 ·have e:b=it:=by simpa using hb
  subst e;exact ⟨h1,hL,h2,h3⟩
 ·obtain ⟨o,es,ep,ho,r⟩:=hm;exact ⟨o,es,ep,k _ o (eJ hL) ho,r⟩
 ·refine (I.hok b u e).stay (fun c v hc q=>k c v ?_ q) (fun _ q=>q) fun _ _ q=>q
  rcases hc with z | z
  ·rw[z];exact nit b u e
  ·exact nit c _ z
theorem Inv.tok(I:io)(t:Nat):im { s with toks:=t }:=I.un (h':=s.heap) (t':=t) Un.refl I.hok
theorem Inv.kept(I:io)(k:∀ b u,a9=br->cq=br):im { s with heap:=h',toks:=t' }:=I.un (Un.kept k) (I.hok.kept k)
theorem Inv.laid(I:io)(k:∀ b u,a9=br->cq=br)(hp:s.heap.objs.size<=a)(new:ObjOk X.prog X.w (f7 a o) h' a o) :
  Inv X pins σ (f7 a o) { s with heap:=h',toks:=t' }:=I.un (Un.laid k hp (I.hok.fresh hp)) (I.hok.laid k hp new)
theorem Inv.write{x e:Addr}(I:io)(mu:Mut (H x))(he:e=x\/H e=ξ (.own x))(k:∀ b u,b≠e->a9=br->cq=br)(heo:∃ u,h'.get? e=br)
  (new:ObjOk X.prog X.w (f7 x o) h' x o):f8 (f7 x o) { s with heap:=h',toks:=t' }:=I.un (Un.write mu he k heo) (I.hok.write mu he k heo new)
theorem Inv.pins_of{pins':List (Addr×Obj)}(I:io)(h:∀ p∈pins',s.heap.get? p.1=ξ p.2/\H p.1=ψ/\p.1≠X.env.locals/\p.1∉X.fs/\∀ v,p.2.data≠.cell v):Inv X pins' σ H s:=
 ⟨I.ok,I.os,I.bare,I.base,I.loc,I.cell,I.free,I.freeC,fun p hp=>(cQ.mp hp).elim (fun z=>I.pin p (eG _ z)) (h p),I.hok,I.len⟩
theorem Abv{N:Φ}(hN:N.Nodup)(a:N[i]? = jw)(b:N[j]? = jw):i=j:=by
 obtain ⟨h1,e1⟩:=aI.mp a;obtain ⟨h2,e2⟩:=aI.mp b;exact (List.getElem_inj hN).mp (e1.trans e2.symm)
theorem Aka{Q:Unit->aO->Prop}(I:io)(hN:X.N.Nodup)(hi:X.N[i]? = jw)(hx:sj x)(r:mi v)
  (h:∀ s',ζ X (σ.set i j3) H s'->(∃ a,nN a s.heap s'.heap/\(a=X.env.locals\/bo=m7))->Q () s') (hf:X.fn x=true\/mq=i9:=by first | exact .inl rfl | exact .inr rfl | assumption):cm M A (storeName X.env x u) Q E:=by
 obtain ⟨m,hn,hl⟩:=id I.loc;have hcls:(X.env.scope.kind == .class || (X.env.scope.kind == .module&&X.env.locals != X.env.globals))=false:=by rw[I.ok.kind];rfl
 have hiσ:i < σ.length:=by rw[I.len];exact (aI.mp hi).1
 have cne:=I.cne;have tracked:∀ {a:Addr} {h':Heap},(∃ o,qu=ao/\j7=ψ)->nN a s.heap h'->HOk X.prog X.w H h':=fun {a h'} ha hs b ob e=>by
  obtain ⟨_,_,hfree⟩:=ha;refine (I.hok b ob e).stay (fun c w' hc q=>(hs.2 c ?_).trans q) (fun _ q=>q) fun _ _ q=>q
  rintro rfl;rcases hc with rfl | hc
  ·rw[hfree] at e;cases e
  ·rw[hfree] at hc;cases hc
 rcases hx with hk | hk
 ·refine wpAny_storeName_local hk hn (fun h' hn' hs=>?_) hcls;obtain ⟨oL,_,_,hoL,_⟩:=id hn;refine h _ ⟨I.ok,I.os,I.bare,⟨fun b o e n hb hx=>?_,fun b o e n hb hx=>?_,I.base.free,fun b o e hx=>?_,I.base.tups,I.base.frzs,I.base.tbls⟩,⟨_,hn',fun j y v' e1 e2 e3=>?_⟩,fun y c e=>?_,I.free,I.freeC,fun p hp=>?_,tracked ⟨oL,hoL,I.free⟩ hs,by simpa using I.len⟩ ⟨_,hs,jc⟩
  ·exact (hs.2 b (bW (bI v7 I.ok.above))).trans (I.base.keep b o e n hb hx)
  ·obtain ⟨sl,e1⟩:=I.base.slot b o e n hb hx;exact ⟨sl,(hs.2 b (bW (bI v7 I.ok.above))).trans e1⟩
  ·obtain ⟨o',e1⟩:=I.base.there b o e hx;exact ⟨o',(hs.2 b (bW (bI v7 I.ok.above))).trans e1⟩
  ·by_cases hj:j=i
   ·subst hj;rw[hi] at e1;cases e1;rw[bL hiσ] at e2;cases e2;exact ⟨u,r,.inl ⟨hk,Za⟩⟩
   ·rw[bF (eJ hj)] at e2;obtain ⟨u',r',q⟩:=hl j y v' e1 e2 e3;refine ⟨u',r',?_⟩;rcases q with ⟨k,e⟩ | ⟨k,c,e,z⟩
    ·refine .inl ⟨k,?_⟩;have:y≠x:=fun e=>hj (Abv hN e1 (e ▸ hi))
     simp[this,e]
    ·exact .inr ⟨k,c,e,z.sameBut hs (cne y c e)⟩
  ·obtain ⟨w',z⟩:=I.cell y c e;exact ⟨w',z.sameBut hs (cne y c e)⟩
  ·obtain ⟨e,n,ne,nf,d⟩:=I.pin p hp;exact ⟨(hs.2 p.1 ne).trans e,n,ne,nf,d⟩
 ·have hfn:X.fn x=true:=by
   rcases hf with z | z
   ·exact z
   ·rw[z] at hk;cases hk
  obtain ⟨c,hc⟩:=I.ok.has x (.inl hk);obtain ⟨w',z⟩:=I.cell x c hc;refine wpAny_storeName_cell I.ok.kind hk hc z (fun h' hc' hs=>?_);obtain ⟨oc,hoc,hocd⟩:=id z;refine h { s with heap:=h' } ⟨I.ok,I.os,I.bare,⟨fun b o e n hb hx=>?_,fun b o e n hb hx=>?_,I.base.free,fun b o e hx=>?_,I.base.tups,I.base.frzs,I.base.tbls⟩,⟨m,hn.sameBut hs (eJ (cne x c hc)),fun j y v' e1 e2 e3=>?_⟩,fun y c' e=>?_,I.free,I.freeC,fun p hp=>?_,tracked ⟨oc,hoc,I.freeC x c hc⟩ hs,by simpa using I.len⟩ ⟨c,hs,.inr hc⟩
  ·exact (hs.2 b (bW (bI v7 (I.ok.cab x c hfn hc)))).trans (I.base.keep b o e n hb hx)
  ·obtain ⟨sl,e1⟩:=I.base.slot b o e n hb hx;exact ⟨sl,(hs.2 b (bW (bI v7 (I.ok.cab x c hfn hc)))).trans e1⟩
  ·obtain ⟨o',e1⟩:=I.base.there b o e hx;exact ⟨o',(hs.2 b (bW (bI v7 (I.ok.cab x c hfn hc)))).trans e1⟩
  ·by_cases hj:j=i
   ·subst hj;rw[hi] at e1;cases e1;rw[bL hiσ] at e2;cases e2;exact ⟨u,r,.inr ⟨.inl hk,c,hc,hc'⟩⟩
   ·rw[bF (eJ hj)] at e2;obtain ⟨u',r',q⟩:=hl j y v' e1 e2 e3;refine ⟨u',r',?_⟩;rcases q with q | ⟨k,c',e,z'⟩
    ·exact .inl q
    ·refine .inr ⟨k,c',e,z'.sameBut hs ?_⟩;rintro rfl;exact hj (Abv hN e1 (I.ok.inj _ _ _ e hc ▸ hi))
  ·by_cases hcc:c'=c
   ·subst hcc;exact ⟨_,hc'⟩
   ·obtain ⟨w2,z2⟩:=I.cell y c' e;exact ⟨w2,z2.sameBut hs hcc⟩
  ·obtain ⟨e,n,ne,nf,d⟩:=I.pin p hp;refine ⟨(hs.2 p.1 ?_).trans e,n,ne,nf,d⟩;intro q;rw[q,hoc] at e;have q':oc=p.2:=bQ e;exact d w' (by rw[<- q'];exact hocd)
theorem Ac7{Q:Unit->aO->Prop}(I:io)(hN:X.N.Nodup)(hi:X.N[i]? = jw)(hx:sj x)(r:mi v)
  (h:∀ s',ζ X (σ.set i j3) H s'->Q () s') (hf:X.fn x=true\/mq=i9:=by first | exact .inl rfl | exact .inr rfl | assumption):cm M A (storeName X.env x u) Q E:=
 Aka I hN hi hx r (fun s' I' _=>h s' I') hf
theorem Inv.call'(I:io)(ho:s'.os=s.os)(u:Un (frs X.stack) ch H H' s.heap s'.heap)(hok:HOk X.prog X.w H' s'.heap)(hg:qG s'.gens)
  (hch:∀ b∈ch,(b∈X.ex\/X.s₀.heap.objs.size<=b)/\b≠X.env.locals/\(∀ x c,bo=fg->c≠b)/\∀ p∈X.pn++pins,p.1≠b):f8 H' s':=by
 obtain ⟨h',g',d',t',o'⟩:=s';have e:o'=s.os:=ho;subst e;exact I.call (g':=g') (t':=t') (d':=d') u hok hg hch
end
abbrev XK:=aJ->du->Hp->Prop
noncomputable abbrev St:=dm V
abbrev VK:=V->Hp->Prop
abbrev TE:=St->Hp->VK->Prop
abbrev TT:=St->Hp->(Bool->Hp->Prop)->Prop
abbrev TA:=St->Hp->(ε->Hp->Prop)->Prop
structure Ends where
 nx:St->Hp->Prop
 rt:VK
 bk:St->Hp->Prop:=fun _ _=>False
 ct:St->Hp->Prop:=fun _ _=>False
abbrev TS:=Ends->St->Hp->Prop
inductive EP(X:Cx)(pins:List (Addr×Obj))(σ:St)(Q:VK)(u:aJ)(s':aO):Prop
 | mk (v:V) (H':Hp) (I:f8 H' s') (r:mi v) (q:Q v H'):EP X pins σ Q u s'
inductive TP(X:Cx)(pins:List (Addr×Obj))(σ:St)(Q:Bool->Hp->Prop)(b:Bool)(s':aO):Prop
 | mk (H':Hp) (I:f8 H' s') (q:Q b H'):TP X pins σ Q b s'
inductive AP(X:Cx)(pins:List (Addr×Obj))(σ:St)(Q:ε->Hp->Prop)(us:ac)(s':aO):Prop
 | mk (vs:ε) (H':Hp) (I:f8 H' s') (r:ja vs) (q:Q vs H'):AP X pins σ Q us s'
variable {σ:St}{Q:VK}
theorem EP.elim{C:Prop}(h:EP X pins σ Q u s')(k:∀ v H',f8 H' s'->mi v->Q v H'->C):C:=h.rec k
theorem AP.elim{Q:ε->Hp->Prop}{C:Prop}(h:AP X pins σ Q us s')(k:∀ vs H',f8 H' s'->ja vs->Q vs H'->C):C:=h.rec k
def SP(X:Cx)(pins:List (Addr×Obj))(D:Ends)(f:Flow)(s':aO):Prop:=
 match f with
 | .next=>∃ σ' H',Inv X pins σ' H' s'/\D.nx σ' H'
 | .brk=>∃ σ' H',Inv X pins σ' H' s'/\D.bk σ' H'
 | .cont=>∃ σ' H',Inv X pins σ' H' s'/\D.ct σ' H'
 | .ret u=>∃ v σ' H',Inv X pins σ' H' s'/\RelV v u/\D.rt v H'
def PE(X:Cx)(e:Expr)(t:TE):Prop:=
 ∀ (pins:List (Addr×Obj)) (s:aO) (σ:St) (H:Hp) (Q:VK),io->t σ H Q->cm bj X.A (bn e) Zu X.xe
def PT(X:Cx)(e:Expr)(t:TT):Prop:=
 ∀ (pins:List (Addr×Obj)) (s:aO) (σ:St) (H:Hp) (Q:Bool->Hp->Prop),io->t σ H Q->cm bj X.A (isTrue e X.env (bn e)) (TP X pins σ Q) X.xe
def PW(X:Cx)(e:Expr)(t:TT):Prop:=
 ∀ (whole:Sem aJ) (pins:List (Addr×Obj)) (s:aO) (σ:St) (H:Hp) (Q:Bool->Hp->Prop),io->t σ H Q->cm bj X.A (isTrue e X.env whole) (TP X pins σ Q) X.xe
variable {e:Expr}
theorem PW.pt{t:TT}(h:PW X e t):PT X e t:=h _
def PA(X:Cx)(es:fj)(t:TA):Prop:=
 ∀ (pos:Pos) (pins:List (Addr×Obj)) (s:aO) (σ:St) (H:Hp) (Q:ε->Hp->Prop),io->t σ H Q->cm bj X.A (spliced (f6 pos es)) (AP X pins σ Q) X.xe
def PS(X:Cx)(st:Stmt)(t:TS):Prop:=
 ∀ (pins:List (Addr×Obj)) (s:aO) (σ:St) (H:Hp) (D:Ends),io->t D σ H->cm bj X.A (exec st X.env) (SP X pins D) X.xe
def PSs(X:Cx)(st:nh)(t:TS):Prop:=
 ∀ (pins:List (Addr×Obj)) (s:aO) (σ:St) (H:Hp) (D:Ends),io->t D σ H->cm bj X.A (execs st X.env) (SP X pins D) X.xe
theorem thn{α:Type}{t:Sem α}{Q Q':α->aO->Prop}(h:cm M A t Q E)(hQ:∀ a s,Q a s->Q' a s):cm M A t Q' E:=dO h hQ fun _ _ x=>x
variable {pos:Pos}{ta tb:TE}{c:Expr}
section
def Azu(i:Nat):TE:=fun σ H Q=>∃ v,σ[i]? = ξ j3/\Q v H
def tC(v:V):TE:=fun _ H Q=>Q v H
theorem Amj(hN:X.N[i]? = jw)(hv:Vis X.env.scope x)(hd:(x == ("__debug__" : Str))=false:=by decide)(hcd:(x == ("__classdict__" : Str))=false:=by decide):l4 (.Name x pos) (Azu i):=by
 intro pins s σ H Q I h;obtain ⟨v,e,h⟩:=h;obtain ⟨m,hn,hl⟩:=I.loc;obtain ⟨u,r,l⟩:=hl i x v hN e hv;have fin:EP X pins σ Q u s:=⟨v,H,I,r,h⟩;rcases l with ⟨hk,hm⟩ | ⟨hk,c,hc,hcell⟩
 ·exact wY (wpAny_loadName_local I.ok.kind hk hn hm fin) hd
 ·rcases hk with hk | hk
  ·exact wY (wpAny_loadName_cell I.ok.kind hk hc hcell fin) hd
  ·exact wY (wpAny_loadName_free I.ok.kind hk hc hcell fin hcd) hd
theorem Awn{i j pos}:l4 (.Constant ce j pos) (tC ce):=fun _ _ _ H _ I h=>wpAny_Constant_int ⟨ce,H,kt,jk,h⟩
theorem Atc{b j pos}:l4 (.Constant (.bool b) j pos) (tC (.bl b)):=fun _ _ _ H _ I h=>Constant_bool (ck (.bl b) H I h)
theorem Avy{j pos}:l4 (.Constant .none j pos) (tC .non):=fun _ _ _ H _ I h=>Constant_none (ck .non H I h)
theorem Avb{x j pos}:l4 (.Constant (.str x) j pos) (tC (.str x)):=fun _ _ _ H _ I h=>Calls.Constant_str ⟨.str x,H,kt,jk,h⟩
def Gl(X:Cx)(x:Str):Prop:=X.env.kindOf x=ξ .globalImplicit
theorem Abb{Q:aJ->aO->Prop}(I:io)(hg:Gl X x)(hm:X.mg x=br)(h:Q u s)
  (hd:(x == ("__debug__" : Str))=false:=by decide):cm bj X.A (bn (.Name x pos)) Q E:=
 oE I.ok.kind hg (Calls.loadGlobal_global (by rw[I.ok.glob];exact I.mod.glob.keeps I.bk) hm h) hd
theorem Fs{Q:aJ->aO->Prop}(I:io)(hg:Gl X x)(hm:X.mg x=ψ)(hv:fT x=br)(h:Q u s)
  (hn:x ≠ "__name__" := by decide) (hd:(x == ("__debug__" : Str))=false:=by decide):cm bj X.A (bn (.Name x pos)) Q E:=by
 obtain ⟨mb,h1,h2⟩:=I.mod.blt;exact oE I.ok.kind hg (Calls.loadGlobal_builtin (by rw[I.ok.glob];exact I.mod.glob.keeps I.bk) hm (by rw[I.ok.blt];exact h1.keeps I.bk) ((h2 x hn).trans hv) h) hd
theorem Aho(hg:Gl X x)(hm:X.mg x=br)(r:mi v)(hd:(x == ("__debug__" : Str))=false:=by decide):l4 (.Name x pos) (tC v):=
 fun _ _ _ H _ I h=>Abb I hg hm ⟨v,H,I,r,h⟩ hd
theorem Ap8(hg:Gl X x)(hm:X.mg x=ψ)(hv:fT x=br)(r:mi v)(hn:x ≠ "__name__" := by decide)(hd:(x == ("__debug__" : Str))=false:=by decide):l4 (.Name x pos) (tC v):=
 fun _ _ _ H _ I h=>Fs I hg hm hv ⟨v,H,I,r,h⟩ hn hd
variable {a b:Expr}
variable {tA tB':TT}{rest:fj}
def A0d(t u:TT):TT:=fun σ H Q=>t σ H fun c H1=>if c=true then u σ H1 Q else Q false H1
def tOr(t u:TT):TT:=fun σ H Q=>t σ H fun c H1=>if c=true then Q true H1 else u σ H1 Q
def A1o(t:TT):TT:=fun σ H Q=>t σ H fun c H1=>Q (!c) H1
theorem Aqv(ha:PT X a tA):PW X (ld .And [a]) tA:=by
 intro wh pins s σ H Q I h;refine isTrue_and (thn (ha pins s σ H Q I h) fun c s1 e=>?_);cases c with
 | true=>exact isTrue_and_nil e
 | false=>exact e
theorem Au7(ha:PT X a tA):PW X (ld .Or [a]) tA:=by
 intro wh pins s σ H Q I h;refine isTrue_or (thn (ha pins s σ H Q I h) fun c s1 e=>?_);cases c with
 | false=>exact isTrue_or_nil e
 | true=>exact e
theorem Au4(ha:PT X a tA)(hb:PW X (ld .And (b::rest)) tB'):PW X (ld .And (a::b::rest)) (A0d tA tB'):=by
 intro wh pins s σ H Q I h;refine isTrue_and (thn ZB fun c s1 zz=>?_);obtain ⟨H1,I1,q1⟩:=zz;cases c with
 | true=>exact hb wh pins s1 σ H1 Q I1 q1
 | false=>exact ⟨H1,I1,q1⟩
theorem Ay7(ha:PT X a tA)(hb:PW X (ld .Or (b::rest)) tB'):PW X (ld .Or (a::b::rest)) (tOr tA tB'):=by
 intro wh pins s σ H Q I h;refine isTrue_or (thn ZB fun c s1 zz=>?_);obtain ⟨H1,I1,q1⟩:=zz;cases c with
 | true=>exact ⟨H1,I1,q1⟩
 | false=>exact hb wh pins s1 σ H1 Q I1 q1
theorem Aua(ha:PT X a tA):PT X (.UnaryOp .Not a pos) (A1o tA):=by
 intro pins s σ H Q I h;exact isTrue_not (thn (ha pins s σ H (fun c H1=>Q (!c) H1) I h) fun _ _ z=>z.rec fun H' I' q=>⟨H',I',q⟩)
def Axt(ta tb:TE):TE:=fun σ H Q=>ta σ H fun x H1=>∃ c,x = .bl c/\if c=true then tb σ H1 Q else Q gq H1
def Ayx(ta:TE):TE:=fun σ H Q=>ta σ H fun x H1=>∃ c,x = .bl c/\Q (.bl (!c)) H1
theorem Auo{op}{t:TE}(h:l4 a t):l4 (ld op [a]) t:=fun pins s σ H Q I hw=>BoolOp_one (h pins s σ H Q I hw)
theorem Atz(ha:l4 a ta)(hb:l4 (ld .And (b::rest)) tb):l4 (ld .And (a::b::rest)) (Axt ta tb):=by
 intro pins s σ H Q I h;refine BoolOp_and (thn ZB fun v s1 zz=>?_);obtain ⟨x,H1,I1,r1,q1⟩:=zz;obtain ⟨c,rfl,q1⟩:=q1;cases r1;refine jA ?_;cases c with
 | true=>exact hb pins s1 σ H1 Q I1 q1
 | false=>exact ⟨gq,H1,I1,rfl,q1⟩
theorem Awe(ha:l4 a ta):l4 (.UnaryOp .Not a pos) (Ayx ta):=by
 intro pins s σ H Q I h;refine UnaryOp_ (thn ZB fun v s1 zz=>?_);obtain ⟨x,H1,I1,r1,q1⟩:=zz;obtain ⟨c,rfl,q1⟩:=q1;cases r1;exact not_of (jA (ck (.bl (!c)) H1 I1 q1))
def tIf(t:TT)(ta tb:TE):TE:=fun σ H Q=>t σ H fun c H1=>if c=true then ta σ H1 Q else tb σ H1 Q
theorem Amq(hc:PT X c tA)(ha:l4 a ta)(hb:l4 b tb):l4 (.IfExp c a b pos) (tIf tA ta tb):=by
 intro pins s σ H Q I h;refine wpAny_IfExp (thn (hc pins s σ H _ I h) fun d s1 zz=>?_);obtain ⟨H1,I1,q1⟩:=zz;cases d with
 | true=>exact ha pins s1 σ H1 Q I1 q1
 | false=>exact hb pins s1 σ H1 Q I1 q1
end
def SqL(K:aK)(H:Hp)(a:Addr)(xs:ε):Prop:=
 Rd H a (.lst xs) \/
  ∃ (o:Obj) (its:bv) (n:Nat),K.lookup a=ao/\o.cls = vh /\ o.dict=ψ/\o.data = .seq its n/\its.size<=sizeLine/\Vals xs its.toList
def SqT(K:aK)(H:Hp)(a:Addr)(xs:ε):Prop:=
 Rd H a (.tup xs) \/
  ∃ (o:Obj) (its:bv) (n:Nat),K.lookup a=ao/\(o.cls,o.dict)=(iJ "tuple",(ψ:du))/\o.data = .seq its n/\its.size<=sizeLine/\Vals xs its.toList
noncomputable def A1u:aJ->Option V
 | .none=>ξ .non
 | .bool b=>ξ (.bl b)
 | .int i _=>ξ (ce)
 | .str x _=>ξ (.str x)
 | .bytes b _=>ξ (.byt b)
 | .float b _=>ξ (.flt b)
 | .ref a=>ξ (bp)
 | .type n=>ξ (.ty n)
 | _=>ψ
theorem RelV.abs{x:V}(r:mi x):A1u u=jw:=by
 cases x with
 | non=>cases r;rfl
 | bl _=>cases r;rfl
 | int _=>obtain ⟨t,rfl⟩:=r;rfl
 | str _=>obtain ⟨t,rfl⟩:=r;rfl
 | byt _=>obtain ⟨t,rfl⟩:=r;rfl
 | flt _=>obtain ⟨t,rfl⟩:=r;rfl
 | ref _=>cases r;rfl
 | ty _=>cases r;rfl
theorem RelV.inj{x y:V}(r:mi x)(q:mi y):x=y:=bQ (r.abs.symm.trans q.abs)
theorem Vals.inj(h:ja xs)(h':ja ys):xs=ys:=by
 induction h generalizing ys with
 | nil=>cases h';rfl
 | cons r t ih=>
  cases h' with
  | cons r' t'=>rw[r.inj r',ih t']
variable {K:aK}
section
theorem SqL.of(h:j7=Ξ xs):SqL K H a xs:=.inl (.inl h)
theorem SqT.of(h:j7=Γ xs):SqT K H a xs:=.inl (.inl h)
theorem Inv.list(I:io)(h:qk X.K a xs):∃ its:ac,Vals xs its/\PlainL s.heap a its.toArray/\xs.length<=sizeLine:=by
 rcases h with h | ⟨o,its,n,hk,hc,hd,hs,hz,r⟩
 ·obtain ⟨z,its,n,r,e⟩:=h.ok I.hok;exact ⟨its,r,⟨_,n,e,rfl,rfl,rfl⟩,z⟩
 ·refine ⟨its.toList,r,⟨o,n,I.kIn a o hk,hc,hd,by simpa using hs⟩,?_⟩;have e:=r.length;simp only[cR] at e;omega
theorem Inv.tupleN(I:io)(h:SqT X.K H a xs):∃ its:ac,Vals xs its/\TupN s.heap a its.toArray/\xs.length<=sizeLine:=by
 rcases h with h | ⟨o,its,n,hk,hc,hs,hz,r⟩
 ·obtain ⟨z,its,r,p⟩:=h.ok I.hok;exact ⟨its,r,p,z⟩
 ·refine ⟨its.toList,r,⟨o,I.kIn a o hk,hc,n,by simpa using hs⟩,?_⟩;have e:=r.length;simp only[cR] at e;omega
theorem Inv.tuple(I:io)(h:SqT X.K H a xs):∃ its:ac,Vals xs its/\oY s.heap a its.toArray/\xs.length<=sizeLine:=by
 obtain ⟨its,r,p,z⟩:=I.tupleN h;exact ⟨its,r,p.is,z⟩
theorem Inv.list_inj(I:io)(h:qk X.K a xs)(h':qk X.K a ys):xs=ys:=by
 obtain ⟨its,r,⟨o,n,e,_,_,d⟩,_⟩:=I.list h;obtain ⟨its',r',⟨o',n',e',_,_,d'⟩,_⟩:=I.list h';rw[e] at e';cases e';rw[d] at d';injection d' with d1 _
 have:its=its':=by simpa using congrArg tE d1
 subst this;exact r.inj r'
theorem Inv.tuple_inj(I:io)(h:SqT X.K H a xs)(h':SqT X.K H a ys):xs=ys:=by
 obtain ⟨its,r,⟨o,e,_,n,d⟩,_⟩:=I.tuple h;obtain ⟨its',r',⟨o',e',_,n',d'⟩,_⟩:=I.tuple h';rw[e] at e';cases e';rw[d] at d';injection d' with d1 _
 have:its=its':=by simpa using congrArg tE d1
 subst this;exact r.inj r'
end
noncomputable abbrev Cx.wish(X:Cx)(E:aJ->aO->Prop):Cx:={ X with xe:=E }
abbrev Cx.nox(X:Cx):Cx:=X.wish fun _ _=>False
theorem Cx.Ok.wish(ok:X.Ok)(E:aJ->aO->Prop):(X.wish E).Ok:=
 ⟨ok.mod,ok.kind,ok.glob,ok.blt,ok.above,ok.inj,ok.has,ok.cab,ok.hd,ok.frames,ok.stk,ok.exf,ok.bs,ok.bsz,ok.noex,ok.exfs,ok.funs,ok.frf⟩
theorem Cx.Ok.unwish(ok:(X.wish E).Ok):X.Ok:=
 ⟨ok.mod,ok.kind,ok.glob,ok.blt,ok.above,ok.inj,ok.has,ok.cab,ok.hd,ok.frames,ok.stk,ok.exf,ok.bs,ok.bsz,ok.noex,ok.exfs,ok.funs,ok.frf⟩
section
theorem Inv.wish(I:io)(E:aJ->aO->Prop):cg (X.wish E) H s:=⟨I.ok.wish E,I.os,I.bare,I.base,I.loc,I.cell,I.free,I.freeC,I.pin,I.hok,I.len⟩
theorem Inv.unwish(I:cg (X.wish E) H s):io:=⟨I.ok.unwish,I.os,I.bare,I.base,I.loc,I.cell,I.free,I.freeC,I.pin,I.hok,I.len⟩
theorem SP.unwish{D:Ends}{f:Flow}(h:SP (X.wish E) pins D f s'):SP X pins D f s':=by
 cases f with
 | next=>obtain ⟨σ',H',I,q⟩:=h;exact ⟨σ',H',I.unwish,q⟩
 | brk=>obtain ⟨σ',H',I,q⟩:=h;exact ⟨σ',H',I.unwish,q⟩
 | cont=>obtain ⟨σ',H',I,q⟩:=h;exact ⟨σ',H',I.unwish,q⟩
 | ret u=>obtain ⟨v,σ',H',I,r,q⟩:=h;exact ⟨v,σ',H',I.unwish,r,q⟩
theorem PE.nox{t:TE}(h:PE X.nox e t):l4 e t:=fun pins s σ H Q I hw=>
 dO (h pins s σ H Q (I.wish _) hw) (fun _ _ zz=>by obtain ⟨v,H',I',r,q⟩:=zz;exact ⟨v,H',I'.unwish,r,q⟩) fun _ _ z=>eP z
theorem PT.nox{t:TT}(h:PT X.nox e t):PT X e t:=fun pins s σ H Q I hw=>
 dO (h pins s σ H Q (I.wish _) hw) (fun _ _ zz=>by obtain ⟨H',I',q⟩:=zz;exact ⟨H',I'.unwish,q⟩) fun _ _ z=>eP z
theorem PSs.nox{st:nh}{t:TS}(h:PSs X.nox st t):PSs X st t:=fun pins s σ H D I hw=>
 dO (h pins s σ H D (I.wish _) hw) (fun _ _ q=>q.unwish) fun _ _ z=>eP z
end
variable {te:TE}
section
variable {st:Stmt}{rest:nh}{t u:TS}
def Aye:TS:=fun D σ H=>D.nx σ H
def A0u(t u:TS):TS:=fun D σ H=>t { D with nx:=u D } σ H
theorem Api:PSs X [] Aye:=fun _ _ σ H _ I h=>nA ⟨σ,H,I,h⟩
theorem Akz(h1:PS X st t)(h2:PSs X rest u):PSs X (st::rest) (A0u t u):=by
 intro pins s σ H D I h;refine vC (thn (h1 pins s σ H { D with nx:=u D } I h) fun f s1 q=>?_);cases f with
 | next=>
  obtain ⟨σ',H',I',q⟩:=q;exact h2 pins s1 σ' H' D I' q
 | ret v=>exact q
 | brk=>exact q
 | cont=>exact q
theorem Apg(h1:PS X st t):PSs X [st] t:=by
 intro pins s σ H D I h;refine vC (thn (h1 pins s σ H D I h) fun f s1 q=>?_);cases f with
 | next=>exact nA q
 | ret v=>exact q
 | brk=>exact q
 | cont=>exact q
theorem Inv.quiet(I:io):interactive X.env=false:=by simp[interactive,I.ok.kind]
def Ay0(te:TE):TS:=fun D σ H=>te σ H fun _ H1=>D.nx σ H1
theorem Aqs(he:l4 e te)(hs:vx e ψ pos.line=pure false:=by rfl):PS X (.Expr e pos) (Ay0 te):=by
 intro pins s σ H D I h;exact wpAny_Expr_any (thn (he pins s σ H _ I h) fun v s1 zz=>by obtain ⟨x,H1,I1,r1,q1⟩:=zz;exact ⟨σ,H1,I1,q1⟩) I.quiet hs
def A03(te:TE):TS:=fun D σ H=>te σ H D.rt
theorem Aub(he:l4 e te):PS X (.Return (ξ e) pos) (A03 te):=by
 intro pins s σ H D I h;exact wpAny_Return_some (thn (he pins s σ H _ I h) fun v s1 zz=>by obtain ⟨x,H1,I1,r1,q1⟩:=zz;exact ⟨x,σ,H1,I1,r1,q1⟩)
def A1q(c:TT)(t u:TS):TS:=fun D σ H=>c σ H fun b H1=>if b=true then t D σ H1 else u D σ H1
theorem Azx{a b:nh}{tc:TT}(hc:PT X c tc)(ha:PSs X a t)(hb:PSs X b u):PS X (.If c a b pos) (A1q tc t u):=by
 intro pins s σ H D I h;refine wpAny_If (thn (hc pins s σ H _ I h) fun d s1 zz=>?_);obtain ⟨H1,I1,q1⟩:=zz;cases d with
 | true=>exact ha pins s1 σ H1 D I1 q1
 | false=>exact hb pins s1 σ H1 D I1 q1
end
abbrev TG:=V->St->Hp->(St->Hp->Prop)->Prop
abbrev TGs:=ε->St->Hp->(St->Hp->Prop)->Prop
def PG(X:Cx)(target:Expr)(t:TG):Prop:=
 ∀ (pins:List (Addr×Obj)) (s:aO) (σ:St) (H:Hp) (v:V) (u:aJ) (Q:St->Hp->Prop),io->mi v->t v σ H Q ->
  wpAny bj X.A (assign target X.env u) (fun _ s'=>∃ σ' H',ζ X σ' H' s'/\Q σ' H') X.xe s
def PGs(X:Cx)(ts:fj)(t:TGs):Prop:=
 ∀ (pins:List (Addr×Obj)) (s:aO) (σ:St) (H:Hp) (vs:ε) (us:ac) (Q:St->Hp->Prop),io->ja vs->t vs σ H Q ->
  wpAny bj X.A (assignInOrder ((me ts).map (·.2)) us) (fun _ s'=>∃ σ' H',ζ X σ' H' s'/\Q σ' H') X.xe s
abbrev Av3:=V->V->V->Hp->(Hp->Prop)->Prop
def Azd(X:Cx)(t:Av3):Prop:=
 ∀ (pins:List (Addr×Obj)) (s:aO) (σ:St) (H:Hp) (o i v:V) (ov iv u:aJ) (Q:Hp->Prop),io->RelV o ov->RelV i iv->mi v->t o i v H Q ->
  wpAny bj X.A (setItem ov iv u) (fun _ s'=>∃ H',f8 H' s'/\Q H') X.xe s
variable {es:fj}{k:Nat}{tg:Expr}
section
def Abp(i:Nat):TG:=fun v σ H Q=>Q (σ.set i j3) H
theorem Aic(hN:X.N.Nodup)(hi:X.N[i]? = jw)(hx:sj x)(hf:X.fn x=true\/mq=i9:=by first | exact .inl rfl | exact .inr rfl | assumption):PG X (.Name x pos) (Abp i):=by
 intro pins s σ H v u Q I r h;exact wpAny_assign_Name (Ac7 I hN hi hx r (fun s' I'=>⟨_,H,I',h⟩) hf)
def gNil:TGs:=fun vs σ H Q=>vs=[]/\Q σ H
def gCons(t:TG)(u:TGs):TGs:=fun vs σ H Q=>∃ v r,vs=v::r/\t v σ H fun σ' H'=>u r σ' H' Q
theorem Aq6:PGs X [] gNil:=by
 intro pins s σ H vs us Q I r h;obtain ⟨e,h⟩:=h;subst e;cases r;exact assignInOrder_nil ⟨σ,H,I,h⟩
theorem Aoi{t:TG}{u:TGs}(h1:PG X e t)(h2:PGs X es u)
  (hs:(me (e::es)).map (·.2)=assign e X.env::(me es).map (·.2):=by rfl):PGs X (e::es) (gCons t u):=by
 intro pins s σ H vs us Q I r h;obtain ⟨v,vr,e1,h⟩:=h;subst e1;cases r with
 | cons r rr=>
  rw[hs];refine assignInOrder_cons (thn (h1 pins s σ H _ _ _ I r h) fun _ s1 zz=>?_);obtain ⟨σ1,H1,I1,q1⟩:=zz;exact h2 pins s1 σ1 H1 _ _ Q I1 rr q1
def gTup(K:aK)(n:Nat)(t:TGs):TG:=fun v σ H Q=>∃ a xs,v = bp/\lv H a xs/\xs.length=n/\t xs σ H Q
theorem Av7{t:TGs}{n:Nat}(hc:X.calm=true)(h:PGs X es t)
  (hn:(me es).length=n:=by rfl) (hst:(me es).findIdx? (·.1)=ψ:=by rfl):PG X (.Tuple es k pos) (gTup X.K n t):=by
 intro pins s σ H v u Q I r hw;obtain ⟨a,xs,e1,hq,hl,hw⟩:=hw;subst e1;cases r;obtain ⟨its,rv,ht,hz⟩:=I.tuple hq;refine assign_Tuple_tuple i7 ht (by simp[hn,<- hl,rv.length]) hst fun h' hx=>?_
 have I1:im { s with heap:=h' }:=I.kept (t':=s.toks) fun b o e=>hx b o (bW v7) e
 exact h pins _ σ H xs _ Q I1 (by simpa using rv) hw
def gSub(to ti:TE)(t:Av3):TG:=fun v σ H Q=>to σ H fun o H1=>ti σ H1 fun i H2=>t o i v H2 fun H3=>Q σ H3
theorem Atx{o i:Expr}{to ti:TE}{t:Av3}(ho:l4 o to)(hi:l4 i ti)(hs:Azd X t)
  (ha:∀ v,assign (nk o i) X.env v=(do
   let ov <- holding [v] (eval o X.env)
   let iv <- holding [v,ov] (eval i X.env)
   standAt pos
   holding [v,ov,iv] (setItem ov iv v)
   release [v,ov,iv] []):=by intro _;rfl):PG X (nk o i) (gSub to ti t):=by
 intro pins s σ H v u Q I r h;rw[ha];refine aG (dP (thn (ho pins s σ H _ I h) fun ov s1 zz=>?_));obtain ⟨x,H1,I1,r1,q1⟩:=zz;refine aG (dP (thn (hi pins s1 σ H1 _ I1 q1) fun iv s2 zz=>?_));obtain ⟨y,H2,I2,r2,q2⟩:=zz;refine aG (pL (aG (dP (thn (hs pins s2 σ H2 x y v ov iv u _ I2 r1 r2 r q2) fun _ s3 zz=>?_))));obtain ⟨H3,I3,q3⟩:=zz;exact wpAny_release ⟨σ,H3,I3,q3⟩
def Apj(te:TE)(g:TG):TS:=fun D σ H=>te σ H fun x H1=>g x σ H1 D.nx
theorem Au5{g:TG}(he:l4 e te)(hg:PG X tg g)(hs:swapsWithSole [tg] e pos.line X.env=pure false:=by rfl)(hw:swappedStores [tg] e X.env=pure ψ:=by rfl)
  (h1:(me [tg]).map (·.2)=[assign tg X.env]:=by rfl):PS X (.Assign [tg] e pos) (Apj te g):=by
 intro pins s σ H D I h;refine wpAny_Assign_stores (thn (he pins s σ H _ I h) fun v s1 zz=>zz.elim fun x H1 I1 r1 q1=>?_) hs hw;rw[h1];exact thn (hg pins s1 σ H1 x v _ I1 r1 q1) fun _ s2 q=>q
theorem Awk{pos':Pos}(hN:X.N.Nodup)(hi:X.N[i]? = jw)(hx:sj x)(he:l4 e te)(hs:vx e (ξ (.Name x pos')) pos.line=pure false:=by rfl)(hf:X.fn x=true\/mq=i9:=by first | exact .inl rfl | exact .inr rfl | assumption) :
  PS X (.Assign [.Name x pos'] e pos) (Apj te (Abp i)):=by
 intro pins s σ H D I h;refine wpAny_Assign_Name (thn (he pins s σ H _ I h) fun v s1 zz=>zz.elim fun y H1 I1 r1 q1=>?_) hs;exact Ac7 I1 hN hi hx r1 (fun s2 I2=>⟨_,H1,I2,q1⟩) hf
end
variable {body:nh}
section
def Aui(c:TT)(tb:TS):TS:=fun D σ H=>∃ W:Nat->St->Hp->Prop,(∃ m,W m σ H)/\∀ m σ H,W m σ H ->
 c σ H fun b H1=>if b=true then ∃ N:St->Hp->Prop,(∀ σ' H',N σ' H'->∃ m',m' < m/\W m' σ' H')/\tb { D with nx:=N,ct:=N,bk:=D.nx } σ H1 else D.nx σ H1
theorem An0{tc:TT}{tb:TS}(hp:vD bj X.A X.env X.xe)(hc:PT X c tc)(hb:PSs X body tb):PS X (.While c body [] pos) (Aui tc tb):=by
 intro pins s σ H D I h;obtain ⟨W,⟨m0,w0⟩,turn⟩:=h;refine wpAny_While (codeAny_whileLoop (fun n s'=>∃ σ' H',ζ X σ' H' s'/\W n σ' H') ?_ m0 ⟨σ,H,I,w0⟩);rintro n s1 ⟨σ1,H1,I1,w1⟩;refine iW hp (thn (hc pins s1 σ1 H1 _ I1 (turn n σ1 H1 w1)) fun b s2 zz=>?_);obtain ⟨H2,I2,q2⟩:=zz;cases b with
 | true=>
  obtain ⟨N,hN,q2⟩:=q2;rw[jv];refine iW hp (thn (hb pins s2 σ1 H2 _ I2 q2) fun f s3 q3=>?_);cases f with
  | next=>
   obtain ⟨σ3,H3,I3,n3⟩:=q3;obtain ⟨m',hm,w3⟩:=hN σ3 H3 n3;exact ⟨m',hm,σ3,H3,I3,w3⟩
  | cont=>
   obtain ⟨σ3,H3,I3,n3⟩:=q3;obtain ⟨m',hm,w3⟩:=hN σ3 H3 n3;exact ⟨m',hm,σ3,H3,I3,w3⟩
  | brk=>exact q3
  | ret v=>exact q3
 | false=>
  rw[if_neg cO];exact nA ⟨σ1,H2,I2,q2⟩
end
structure It where
 go:Nat->Hp->Prop
 yld:Nat->Hp->V->Hp->Prop
 stop:Nat->Hp->Prop
def G4(X:Cx)(pins:List (Addr×Obj))(H:Hp)(b:Addr):Prop:=
 H b=ψ/\b≠X.env.locals/\b∉X.fs/\(b∈X.ex\/X.s₀.heap.objs.size<=b)/\(∀ x c,bo=fg->c≠b)/\∀ p∈X.pn++pins,p.1≠b
theorem Inv.fpOk(I:io)(hb:s.heap.objs.size<=b)(hn:nq=ψ):vt X H' b:=by
 refine ⟨hn,iE (bI I.lt hb),I.nofs hb,.inr (cC I.sz hb),fun x c e z=>?_,fun p hp z=>?_⟩
 ·obtain ⟨v,q⟩:=I.cell x c e;exact absurd (bI q.lt (by rw[z];exact hb)) (cX _)
 ·exact absurd (bI (bC (I.pin p hp).1) (by rw[z];exact hb)) (cX _)
structure Turn(P:cL)(w:dC)(K:aK)(tg:Expr)(J:It)(fp:Ψ)(it:Addr)(tn:Nat->Heap->Prop):Prop where
 mem:it∈fp
 obj:∀ i h,tn i h->∀ b∈fp,∃ o,jd=ξ o/\∀ v,o.data≠.cell v
 keep:∀ i h h',tn i h->(∀ b∈fp,∀ o,jd=ao->cq=ao)->tn i h'
 item:∀ (X:Cx),X.prog=P->X.w=w->X.K=K->X.calm=true->∀ (i:Nat) (pins:List (Addr×Obj)) (s:aO) (σ:St) (H:Hp) (E:aJ->aO->Prop),io->(∀ b∈fp,vt X H b)->tn i s.heap->J.go i H ->
  wpAny (model P w) X.A (pyNext (.ref it)) (fun r s1=>∃ u,r=br /\
   wpAny (model P w) X.A (letOwnedTupleGo tg (.ref it) u) (fun _ s2=>∃ x H',f8 H' s2/\mi x/\J.yld i H x H'/\tn (i+1) s2.heap/\∀ b∈fp,nq=ψ) E s1) E s
 done:∀ (X:Cx),X.prog=P->X.w=w->X.K=K->X.calm=true->∀ (i:Nat) (pins:List (Addr×Obj)) (s:aO) (σ:St) (H:Hp) (E:aJ->aO->Prop),io->(∀ b∈fp,vt X H b)->tn i s.heap->J.stop i H ->
  wpAny (model P w) X.A (pyNext (.ref it)) (fun r s1=>r=ψ/\im s1) E s
 self:∀ (A:dN) (i:Nat) (s:aO) (Q:aJ->aO->Prop) (E:aJ->aO->Prop),tn i s.heap->Q (.ref it) s->cm (model P w) A (pyIter (.ref it)) Q E
abbrev TI:=St->Hp->(It->Hp->Prop)->Prop
def PIE(X:Cx)(pins:List (Addr×Obj))(σ:St)(tg:Expr)(R:It->Hp->Prop)(itv:aJ)(s2:aO):Prop:=
 ∃ (it:Addr) (fp:Ψ) (tn:Nat->Heap->Prop) (J:It) (H':Hp),itv = .ref it/\f8 H' s2/\Turn X.prog X.w X.K tg J fp it tn/\tn 0 s2.heap/\(∀ b∈fp,vt X H' b)/\R J H'
def PI(X:Cx)(tg iter:Expr)(wi:TI):Prop:=
 ∀ (pins:List (Addr×Obj)) (s:aO) (σ:St) (H:Hp) (R:It->Hp->Prop),io->wi σ H R ->
  wpAny bj X.A (bn iter) (fun v s1=>wpAny bj X.A (pyIter v) (PIE X pins σ tg R) X.xe s1) X.xe s
theorem Ak8{it:Addr}{o:Obj}{n:String}{vs:bv}{Q:Unit->aO->Prop}(ho:s.heap.get? it=ao)(hc:o.cls = .type n)(hd:o.data = .fields vs)
  (hn:["enumerate","zip","dict_itemiterator","dict_reverseitemiterator","odict_iterator","itertools.zip_longest","itertools.pairwise"].contains n=false) (hQ:Q () s):cm M A (letOwnedTupleGo tg (.ref it) u) Q E:=by
 unfold letOwnedTupleGo;cases tg <;> first
  | exact aU hQ
  | (cases u <;> first
    | exact aU hQ
    | (refine aG (sP ho ?_)
       rw[hc,hd];show cm M A (if (["enumerate","zip","dict_itemiterator","dict_reverseitemiterator","odict_iterator","itertools.zip_longest","itertools.pairwise"].contains n&&vs[0]? == ξ (rawInt _))=true then _ else _) Q E;rw[if_neg (by intro h;rw[hn,wZ] at h;cases h)]
       exact aU hQ))
def Itl(K:aK)(a:Addr):It:=
 ⟨fun i H=>∃ xs x,qk K a xs/\xs[i]? = jw,fun i H x H'=>H'=H/\∀ xs,qk K a xs->xs[i]? = jw,fun i H=>∃ xs,qk K a xs/\xs.length<=i⟩
def Itt(K:aK)(a:Addr):It:=
 ⟨fun i H=>∃ xs x,lv H a xs/\xs[i]? = jw,fun i H x H'=>H'=H/\∀ xs,lv H a xs->xs[i]? = jw,fun i H=>∃ xs,lv H a xs/\xs.length<=i⟩
noncomputable def Itr(lo:Int)(n:Nat):It:=⟨fun i _=>i < n,fun i H x H'=>H'=H/\x = .int (lo+i),fun i _=>n<=i⟩
theorem Ajt(a it:Addr):Turn P w K tg (Itl K a) [it] it (fun i h=>h.IsListIter it a i) where
 mem:=Za
 obj:=fun i h st b hb=>by
  have e:b=it:=by simpa using hb
  subst e;obtain ⟨o,e,c,d⟩:=st;exact ⟨o,e,fun v z=>by rw[d] at z;cases z⟩
 keep:=fun i h h' st k=>st.at fun o e=>k it Za o e
 item:=by
  intro X hP hw hK hc i pins s σ H E I hf st hg;subst hP hw hK;obtain ⟨xs,x,hq,hx⟩:=hg;obtain ⟨its,rv,p,hz⟩:=oa;obtain ⟨u,hu,ru⟩:=rv.get hx;obtain ⟨f0,f1,f2,f3,f4,f5⟩:=hf it Za;refine qH st p.isList (x:=u) (by simpa using hu) fun h' st' sb=>?_
  have I1:im { s with heap:=h' }:=I.turned (t':=s.toks) Z8 f0 f1 f3 f4 f5;obtain ⟨o,e,c,d⟩:=id st';exact gu u (Ak8 (s:={ s with heap:=h' }) e c d Zb ⟨x,H,I1,ru,⟨rfl,fun ys hy=>by rw[I.list_inj hy hq];exact hx⟩,st',fun b hb=>(hf b hb).1⟩)
 done:=by
  intro X hP hw hK hc i pins s σ H E I hf st hg;subst hP hw hK;obtain ⟨xs,hq,hx⟩:=hg;obtain ⟨its,rv,p,hz⟩:=oa;obtain ⟨f0,f1,f2,f3,f4,f5⟩:=hf it Za;have hl:=rv.length;exact rA i7 st p.isList (by simp;omega) fun h' eb=>⟨rfl,I.turned (t':=s.toks) (fun b o hb e=>eb b o hb e) f0 f1 f3 f4 f5⟩
 self:=fun _ _ _ _ _ st h=>wpAny_pyIter_listiter st h
theorem Afs(a it:Addr):Turn P w K tg (Itt K a) [it] it (fun i h=>h.IsTupleIter it a i) where
 mem:=Za
 obj:=fun i h st b hb=>by
  have e:b=it:=by simpa using hb
  subst e;obtain ⟨o,e,c,d⟩:=st;exact ⟨o,e,fun v z=>by rw[d] at z;cases z⟩
 keep:=fun i h h' st k=>st.at fun o e=>k it Za o e
 item:=by
  intro X hP hw hK hc i pins s σ H E I hf st hg;subst hP hw hK;obtain ⟨xs,x,hq,hx⟩:=hg;obtain ⟨its,rv,p,hz⟩:=I.tuple hq;obtain ⟨u,hu,ru⟩:=rv.get hx;obtain ⟨f0,f1,f2,f3,f4,f5⟩:=hf it Za;refine wpAny_pyNext_tuple_item st (show s.heap.IsTuple a its.toArray from p) (x:=u) (by simpa using hu) fun h' st' sb=>?_
  have I1:im { s with heap:=h' }:=I.turned (t':=s.toks) Z8 f0 f1 f3 f4 f5;obtain ⟨o,e,c,d⟩:=id st';exact gu u (Ak8 (s:={ s with heap:=h' }) e c d Zb ⟨x,H,I1,ru,⟨rfl,fun ys hy=>by rw[I.tuple_inj hy hq];exact hx⟩,st',fun b hb=>(hf b hb).1⟩)
 done:=by
  intro X hP hw hK hc i pins s σ H E I hf st hg;subst hP hw hK;obtain ⟨xs,hq,hx⟩:=hg;obtain ⟨its,rv,p,hz⟩:=I.tuple hq;obtain ⟨f0,f1,f2,f3,f4,f5⟩:=hf it Za;have hl:=rv.length;exact wpAny_pyNext_tuple_end i7 st (show s.heap.IsTuple a its.toArray from p) (by simp;omega) fun h' eb=>⟨rfl,I.turned (t':=s.toks) (fun b o hb e=>eb b o hb e) f0 f1 f3 f4 f5⟩
 self:=fun _ _ _ _ _ st h=>wpAny_pyIter_tupleiter st h
theorem Aez(it:Addr)(lo:Int)(n:Nat):Turn P w K tg (Itr lo n) [it] it (fun i h=>IsRangeIter h it (lo+(i:Nat) * 1) ((n:Int) - (i:Nat)) 1) where
 mem:=Za
 obj:=fun i h st b hb=>by
  have e:b=it:=by simpa using hb
  subst e;exact ⟨_,st,fun v z=>by
   have z':yJ _=Data.cell v:=z;cases z'⟩
 keep:=fun i h h' st k=>k it Za _ st
 item:=by
  intro X hP hw hK hc i pins s σ H E I hf st hg;subst hP hw hK;obtain ⟨f0,f1,f2,f3,f4,f5⟩:=hf it Za;have W:=Walks.range (prog:=X.prog) (w:=X.w) i7 it lo 1 n;refine W.item i s _ _ hg st fun v h' tk hv st' kk=>?_
  obtain ⟨t,rfl⟩:=hv;have I1:im { s with heap:=h',toks:=tk }:=I.turned (fun b o hb e=>kk b o (by simpa using hb) e) f0 f1 f3 f4 f5;refine gu _ (Ak8 (s:={ s with heap:=h',toks:=tk }) (n := "range_iterator") st' rfl rfl Zb ⟨.int (lo+i),H,I1,⟨t,?_⟩,cu rfl,st',fun b hb=>(hf b hb).1⟩);rw[Int.mul_one]
 done:=by
  intro X hP hw hK hc i pins s σ H E I hf st hg;subst hP hw hK;obtain ⟨f0,f1,f2,f3,f4,f5⟩:=hf it Za;exact wpAny_pyNext_range_end i7 st (by have:n<=i:=hg;omega) fun h' eb=>⟨rfl,I.turned (t':=s.toks) (fun b o hb e=>eb b o hb e) f0 f1 f3 f4 f5⟩
 self:=fun _ _ _ _ _ st h=>wpAny_pyIter_rangeiter st h
variable {p:Pos}{fp:Ψ}
section
def Ayq(K:aK)(tl:TE):TI:=fun σ H R=>tl σ H fun x H1=>∃ a,x = bp/\(∃ xs,SqL K H1 a xs)/\R (Itl K a) H1
def A1t(K:aK)(tl:TE):TI:=fun σ H R=>tl σ H fun x H1=>∃ a,x = bp/\(∃ xs,lv H1 a xs)/\R (Itt K a) H1
theorem Aqi{l:Expr}{tl:TE}(hl:l4 l tl):PI X tg l (Ayq X.K tl):=by
 intro pins s σ H R I h;refine thn (hl pins s σ H _ I h) fun v s1 zz=>?_
 obtain ⟨x,H1,I1,r1,q1⟩:=zz;obtain ⟨a,e,⟨xs,hq⟩,q⟩:=q1;subst e;cases r1;obtain ⟨its,rv,p,hz⟩:=I1.list hq;refine jB p.isList ?_;refine ⟨s1.heap.objs.size,[s1.heap.objs.size],_,_,H1,rfl,I1.kept (t':=s1.toks) fun b o e=>n8,Ajt a _,⟨_,ki,rfl,rfl⟩,fun b hb=>?_,q⟩;have e:b=s1.heap.objs.size:=by simpa using hb
 subst e;exact I1.fpOk be ma
theorem Auu{l:Expr}{tl:TE}(hl:l4 l tl):PI X tg l (A1t X.K tl):=by
 intro pins s σ H R I h;refine thn (hl pins s σ H _ I h) fun v s1 zz=>?_
 obtain ⟨x,H1,I1,r1,q1⟩:=zz;obtain ⟨a,e,⟨xs,hq⟩,q⟩:=q1;subst e;cases r1;obtain ⟨its,rv,p,hz⟩:=I1.tuple hq;refine fN (show s1.heap.IsTuple a its.toArray from p) ?_;refine ⟨s1.heap.objs.size,[s1.heap.objs.size],_,_,H1,rfl,I1.kept (t':=s1.toks) fun b o e=>n8,Afs a _,⟨_,ki,rfl,rfl⟩,fun b hb=>?_,q⟩;have e:b=s1.heap.objs.size:=by simpa using hb
 subst e;exact I1.fpOk be ma
theorem Ak0{R:It->Hp->Prop}{lo hi:Int}{t u v:Tok}{tk:Nat}(I:io)(h1:-(2 ^ 62)<=lo)(h2:lo < 2 ^ 62)(h3:-(2 ^ 62)<=hi)(h4:hi < 2 ^ 62)
  (q:R (Itr lo (hi - lo).toNat) H):wpAny bj X.A (pyIter bq) (PIE X pins σ tg R) E { s with heap:=s.heap.push { cls:=.type "range",data:=.fields #[re lo,.int hi u,.int 1 v] },toks:=tk }:=by
 refine wpAny_pyIter_range (yK ..) (small_one h1 h2 h3 h4) ?_;have I1:im { s with heap:=s.heap.push { cls:=.type "range",data:=.fields #[re lo,.int hi u,.int 1 v] },toks:=tk }:=I.kept fun b o e=>n8
 refine ⟨(s.heap.push { cls:=.type "range",data:=.fields #[re lo,.int hi u,.int 1 v] }).objs.size,[(s.heap.push { cls:=.type "range",data:=.fields #[re lo,.int hi u,.int 1 v] }).objs.size],_,_,H,rfl,
  I1.kept (t':=tk) fun b o e=>n8,Aez _ lo (hi - lo).toNat,?_,fun b hb=>?_,q⟩
 ·have e1:lo+((0:Nat):Int) * 1=lo:=Za
  have e2:(((hi - lo).toNat:Nat):Int) - ((0:Nat):Int)=pS lo hi 1:=by rw[sH];split <;> omega
  show IsRangeIter _ _ (lo+((0:Nat):Int) * 1) ((((hi - lo).toNat:Nat):Int) - ((0:Nat):Int)) 1;rw[e1,e2];exact ki
 ·have e:b=(s.heap.push { cls:=.type "range",data:=.fields #[re lo,.int hi u,.int 1 v] }).objs.size:=by simpa using hb
  subst e;exact I1.fpOk be ma
def Axh(ta:TA):TI:=fun σ H R=>ta σ H fun vs H1=>∃ j:Int,vs=[lw]/\-(2 ^ 62)<=j/\j < 2 ^ 62/\R (Itr 0 j.toNat) H1
theorem Akr{a:Expr}{ta:TA}(hg:Gl X "range")(hm:X.mg "range" = ψ)(ha:PA X [a] ta)(hs:bc [a]=[ZU]:=by rfl):PI X tg (tz "range" p [a] []) (Axh ta):=by
 intro pins s σ H R I h;refine Call_ (Fs I hg hm xA (cT (thn ZE fun us s1 zz=>zz.elim fun vs H1 I1 r1 q1=>?_) hs rfl));obtain ⟨j,e,q1,q2,q⟩:=q1;subst e;cases r1 with
 | cons r rr=>
  cases rr;obtain ⟨t,rfl⟩:=r;exact tF (Ak0 I1 Ze Ze q1 q2 (by simpa using q))
def A1k(wi:TI)(g:TG)(tb:TS):TS:=fun D σ H=>wi σ H fun J H1=>∃ W:Nat->Nat->St->Hp->Prop,(∃ m,W 0 m σ H1)/\∀ i m σ H,W i m σ H ->
 (J.stop i H/\D.nx σ H)\/(J.go i H/\∃ N:St->Hp->Prop,(∀ σ' H',N σ' H'->∃ m',m' < m/\W (i+1) m' σ' H')/\∀ x H',J.yld i H x H'->g x σ H' fun σ2 H2=>tb { D with nx:=N,ct:=N,bk:=D.nx } σ2 H2)
noncomputable def Wd(fp:Ψ)(h:Heap):List (Addr×Obj):=fp.filterMap fun b=>(jd).map fun o=>(b,o)
theorem Mf{o:Obj}(hb:b∈fp)(e:jd=ao):(b,o)∈Wd fp h:=iK.mpr ⟨b,hb,by rw[e];rfl⟩
theorem Ajh{p:Addr×Obj}(hp:p∈Wd fp h):p.1∈fp/\h.get? p.1=ξ p.2:=by
 obtain ⟨b,hb,e⟩:=iK.mp hp;cases q:h.get? b with
 | none=>rw[q] at e;cases e
 | some o=>
  rw[q] at e;have e':(b,o)=p:=bQ e;subst e';exact ⟨hb,q⟩
theorem Inv.pinned(I:io)(hf:∀ b∈fp,vt X H b)(ho:∀ b∈fp,∃ o,a9=ξ o/\∀ v,o.data≠.cell v):Inv X (pins++Wd fp s.heap) σ H s:=
 I.pins_of fun p hp=>(cQ.mp hp).elim (fun z=>I.pin p (aW _ z)) fun z=>by
  obtain ⟨hb,e⟩:=Ajh z;obtain ⟨f0,f1,f2,_⟩:=hf p.1 hb;obtain ⟨o,e',d⟩:=ho p.1 hb;rw[e] at e';cases e';exact ⟨e,f0,f1,f2,d⟩
theorem Inv.unpinned{pl:List (Addr×Obj)}(I:Inv X (pins++pl) σ H s):io:=I.pins_of fun p hp=>I.pin p (aW _ (eG _ hp))
theorem Avg{iter:Expr}{wi:TI}{g:TG}{tb:TS}(hp:vD bj X.A X.env X.xe)(hc:X.calm=true)(hi:PI X tg iter wi)(hg:PG X tg g)(hb:PSs X body tb)
  (hs:∀ x,lu iter x=pure x:=by intro _;rfl):PS X (.For tg iter body [] pos) (A1k wi g tb):=by
 intro pins s σ H D I h;refine wpAny_For (thn (hi pins s σ H _ I h) fun v s1 h1=>thn h1 fun itv s2 h2=>?_) hs;obtain ⟨it,fp,tn,J,H2,e,I2,T,st2,f2,W,⟨m0,w0⟩,turn⟩:=h2;subst e;have stat:∀ {H':Hp},(∀ b∈fp,nq=ψ)->∀ b∈fp,vt X H' b:=fun hn b hb=>⟨hn b hb,(f2 b hb).2⟩
 refine codeAny_forLoop_any (fun n s'=>∃ i σ' H',ζ X σ' H' s'/\tn i s'.heap/\(∀ b∈fp,nq=ψ)/\W i n σ' H') ?_ m0 ⟨0,σ,H2,I2,st2,fun b hb=>(f2 b hb).1,w0⟩;rintro n s3 ⟨i,σ3,H3,I3,st3,fr3,w3⟩;rcases turn i n σ3 H3 w3 with ⟨stop,qn⟩ | ⟨go,N,hN,step⟩
 ·refine iW hp (thn (T.done X rfl rfl rfl hc i pins s3 σ3 H3 X.xe I3 (stat fr3) st3 stop) fun r s4 zz=>?_);obtain ⟨hr,I4⟩:=zz;subst hr;exact nA ⟨σ3,H3,I4,qn⟩
 ·refine iW hp (thn (T.item X rfl rfl rfl hc i pins s3 σ3 H3 X.xe I3 (stat fr3) st3 go) fun r s4 zz=>?_);obtain ⟨u,hr,h4⟩:=zz;subst hr;refine iW hp (thn h4 fun _ s5 zz=>?_);obtain ⟨x,H5,I5,r5,y5,st5,fr5⟩:=zz;have I5':=I5.pinned (stat fr5) (T.obj _ _ st5);refine iW hp (thn (hg _ s5 σ3 H5 x u _ I5' r5 (step x H5 y5)) fun _ s6 zz=>?_);obtain ⟨σ6,H6,I6,q6⟩:=zz;refine iW hp (thn (hb _ s6 σ6 H6 _ I6 q6) fun f s7 q7=>?_);have again:∀ {σ7:St} {H7:Hp},Inv X (pins++Wd fp s5.heap) σ7 H7 s7->N σ7 H7->∃ m,m < n/\∃ i σ' H',ζ X σ' H' s7/\tn i s7.heap/\(∀ b∈fp,nq=ψ)/\W i m σ' H':=fun {σ7 H7} I7 n7=>by
   obtain ⟨m',hm,w7⟩:=hN σ7 H7 n7;refine ⟨m',hm,i+1,σ7,H7,I7.unpinned,T.keep _ _ _ st5 fun b hb o e=>(I7.pin (b,o) (aW _ (aW _ (Mf hb e)))).1,fun b hb=>?_,w7⟩;obtain ⟨o,e,d⟩:=T.obj _ _ st5 b hb;exact (I7.pin (b,o) (aW _ (aW _ (Mf hb e)))).2.1
  cases f with
  | next=>obtain ⟨σ7,H7,I7,n7⟩:=q7;exact again I7 n7
  | cont=>obtain ⟨σ7,H7,I7,n7⟩:=q7;exact again I7 n7
  | brk=>obtain ⟨σ7,H7,I7,q7⟩:=q7;exact ⟨σ7,H7,I7.unpinned,q7⟩
  | ret v=>obtain ⟨x7,σ7,H7,I7,r7,q7⟩:=q7;exact ⟨x7,σ7,H7,I7.unpinned,r7,q7⟩
end
abbrev R2:=V->V->Hp->VK->Prop
def OpR(X:Cx)(f:aJ->aJ->Sem aJ)(r:R2):Prop:=
 ∀ (pins:List (Addr×Obj)) (s:aO) (σ:St) (H:Hp) (x y:V) (v u:aJ) (Q:VK),io->RelV x v->mi y->r x y H Q ->
  wpAny bj X.A (f v u) Zu X.xe s
def UnR(X:Cx)(f:aJ->Sem aJ)(r:V->Hp->VK->Prop):Prop:=
 ∀ (pins:List (Addr×Obj)) (s:aO) (σ:St) (H:Hp) (x:V) (v:aJ) (Q:VK),io->RelV x v->r x H Q ->
  wpAny bj X.A (f v) Zu X.xe s
def CallR(X:Cx)(f:aJ)(r:ε->Hp->VK->Prop):Prop:=
 ∀ (pins:List (Addr×Obj)) (s:aO) (σ:St) (H:Hp) (xs:ε) (us:ac) (Q:VK),io->ja xs->r xs H Q ->
  wpAny bj X.A (call f us) Zu X.xe s
def A1p(X:Cx)(r:V->Hp->(Bool->Hp->Prop)->Prop):Prop:=
 ∀ (pins:List (Addr×Obj)) (s:aO) (σ:St) (H:Hp) (x:V) (v:aJ) (Q:Bool->Hp->Prop),io->RelV x v->r x H Q ->
  wpAny bj X.A (truthy v) (TP X pins σ Q) X.xe s
def tOp(r:R2)(ta tb:TE):TE:=fun σ H Q=>ta σ H fun x H1=>tb σ H1 fun y H2=>r x y H2 Q
def tUn(r:V->Hp->VK->Prop)(ta:TE):TE:=fun σ H Q=>ta σ H fun x H1=>r x H1 Q
def rI(C:Int->Int->Prop)(g:Int->Int->V):R2:=fun x y H Q=>∃ i j,x = ce/\y = lw/\C i j/\Q (g i j) H
def rI0(g:Int->Int->V):R2:=fun x y H Q=>∃ i j,x = ce/\y = lw/\Q (g i j) H
def rU(g:Int->V):V->Hp->VK->Prop:=fun x H Q=>∃ i,x = ce/\Q (g i) H
variable {r:R2}
section
variable {a b:Expr}{tc:TE}
theorem Awh(ha:l4 a ta)(hb:l4 b tb){R:V->V->Hp->Prop}(I:io)
  (h:ta σ H fun x H1=>tb σ H1 fun y H2=>R x y H2) {Q:aJ->aO->Prop} {f:aJ->aJ->Sem aJ}
  (hf:∀ v u s2 x y H2,f8 H2 s2->RelV x v->mi y->R x y H2->wpAny bj X.A (f v u) Q X.xe s2) :
  wpAny bj X.A (bn a) (fun v s₁=>wpAny bj X.A (bn b) (fun u s₂=>wpAny bj X.A (f v u) Q X.xe s₂) X.xe s₁) X.xe s:=by
 refine thn ZB fun v s1 zz=>?_
 obtain ⟨x,H1,I1,r1,q1⟩:=zz;refine thn (hb pins s1 σ H1 _ I1 q1) fun u s2 zz=>?_
 obtain ⟨y,H2,I2,r2,q2⟩:=zz;exact hf v u s2 x y H2 I2 r1 r2 q2
theorem Aw4{op:Operator}(ho:OpR X (gJ op) r)(ha:l4 a ta)(hb:l4 b tb):l4 (.BinOp a op b pos) (tOp r ta tb):=by
 intro pins s σ H Q I h;exact wpAny_BinOp (Awh ha hb I h fun v u s2 x y H2 I2 rx ry q=>ho pins s2 σ H2 x y v u Q I2 rx ry q)
theorem Azn{op:UnaryOp}{r:V->Hp->VK->Prop}(ho:UnR X (unaryOp op) r)(ha:l4 a ta):l4 (.UnaryOp op a pos) (tUn r ta):=by
 intro pins s σ H Q I h;exact UnaryOp_ (thn ZB fun v s1 zz=>by obtain ⟨x,H1,I1,r1,q1⟩:=zz;exact ho pins s1 σ H1 x v Q I1 r1 q1)
theorem opI{f:aJ->aJ->Sem aJ}{C:Int->Int->Prop}{g:Int->Int->Int}
  (rule:∀ (i j:Int) (t u:Tok) (s:aO) (Q:aJ->aO->Prop) (E:aJ->aO->Prop),C i j->Q (.int (g i j) s.toks) { s with toks:=s.toks+1 }->cm bj X.A (f (re i) (.int j u)) Q E) :
  OpR X f (rI C fun i j=>.int (g i j)):=by
 intro pins s σ H x y v u Q I rx ry h;obtain ⟨i,j,rfl,rfl,hc,q⟩:=h;obtain ⟨t,rfl⟩:=rx;obtain ⟨t',rfl⟩:=ry;exact rule i j t t' s _ _ hc ⟨.int (g i j),H,kt,jk,q⟩
theorem Ayy{f:aJ->aJ->Sem aJ}{g:Int->Int->Int}
  (rule:∀ (i j:Int) (t u:Tok) (s:aO) (Q:aJ->aO->Prop) (E:aJ->aO->Prop),Q (.int (g i j) s.toks) { s with toks:=s.toks+1 }->cm bj X.A (f (re i) (.int j u)) Q E) :
  OpR X f (rI0 fun i j=>.int (g i j)):=by
 intro pins s σ H x y v u Q I rx ry h;obtain ⟨i,j,rfl,rfl,q⟩:=h;obtain ⟨t,rfl⟩:=rx;obtain ⟨t',rfl⟩:=ry;exact rule i j t t' s _ _ ⟨.int (g i j),H,kt,jk,q⟩
theorem Asd{f:aJ->aJ->Sem aJ}{g:Int->Int->Bool}
  (rule:∀ (i j:Int) (t u:Tok) (s:aO) (Q:aJ->aO->Prop) (E:aJ->aO->Prop),Q (.bool (g i j)) s->cm bj X.A (f (re i) (.int j u)) Q E) :
  OpR X f (rI0 fun i j=>.bl (g i j)):=by
 intro pins s σ H x y v u Q I rx ry h;obtain ⟨i,j,rfl,rfl,q⟩:=h;obtain ⟨t,rfl⟩:=rx;obtain ⟨t',rfl⟩:=ry;exact rule i j t t' s _ _ (ck (.bl (g i j)) H I q)
def Ayc(i j:Int):Prop:=0<=j/\j<=1000000/\i.natAbs < 2 ^ 64
def CMul(i j:Int):Prop:=(-(2 ^ 64) < i/\i < 2 ^ 64)\/(-(2 ^ 64) < j/\j < 2 ^ 64)
theorem CMul.ok{i j:Int}(h:CMul i j):IntMulOk i j:=by
 rcases h with ⟨h1,h2⟩ | ⟨h1,h2⟩
 ·exact .of_left (intBits_le_64 h1 h2)
 ·exact .of_right (intBits_le_64 h1 h2)
theorem Avd:OpR X (gJ .Add) (rI0 fun i j=>.int (i+j)):=Ayy fun _ _ _ _ _ _ _ q=>add_int q
theorem Ad7:OpR X (gJ .Sub) (rI0 fun i j=>.int (i - j)):=Ayy fun _ _ _ _ _ _ _ q=>sub_int q
theorem At1:OpR X (gJ .Mult) (rI CMul fun i j=>.int (i * j)):=opI fun _ _ _ _ _ _ _ hc q=>mul_int q hc.ok
theorem Np:OpR X (gJ .Mod) (rI (fun _ j=>0 < j) fun i j=>.int (i % j)):=opI fun i j _ _ _ _ _ hc q=>by
 have h1:(0:Int) < j:=hc;exact mod_int' Ze (by rw[Int.fmod_eq_emod_of_nonneg i Ze];exact q)
theorem We:OpR X (gJ .Pow) (rI Ayc fun i j=>.int (i ^ j.toNat)):=opI fun _ _ _ _ _ _ _ hc q=>pow_int_small hc.1 hc.2.1 hc.2.2 q
theorem unI{f:aJ->Sem aJ}{g:Int->Int}
  (rule:∀ (i:Int) (t:Tok) (s:aO) (Q:aJ->aO->Prop) (E:aJ->aO->Prop),Q (.int (g i) s.toks) { s with toks:=s.toks+1 }->cm bj X.A (f (re i)) Q E) :
  UnR X f (rU fun i=>.int (g i)):=by
 intro pins s σ H x v Q I rx h;obtain ⟨i,rfl,q⟩:=h;obtain ⟨t,rfl⟩:=rx;exact rule i t s _ _ ⟨.int (g i),H,kt,jk,q⟩
theorem Aup:UnR X (unaryOp .USub) (rU fun i=>.int (-i)):=unI fun _ _ _ _ _ q=>neg_int q
end
variable {op:CmpOp}
section
variable {a b:Expr}{tc:TE}
theorem Aeq{k k':Bool}(I:io)(q:Q (.bl k) H)(e:k=k'):EP X pins σ Q (.bool k') s:=by
 subst e;exact ck (.bl k) H I q
theorem Atl:m9 X .Lt (rI0 fun i j=>.bl (decide (i < j))):=Asd fun _ _ _ _ _ _ _ q=>lt_int q
theorem Akv:m9 X .LtE (rI0 fun i j=>.bl (decide (i<=j))):=Asd fun _ _ _ _ _ _ _ q=>le_int q
theorem Aml:m9 X .Gt (rI0 fun i j=>.bl (decide (j < i))):=Asd fun _ _ _ _ _ _ _ q=>gt_int q
theorem Ayv:m9 X .GtE (rI0 fun i j=>.bl (decide (j<=i))):=Asd fun _ _ _ _ _ _ _ q=>ge_int q
theorem Aiy:m9 X .In (fun x y H Q=>∃ i j,x = .str i/\y = .str j/\Q (.bl (!(fO j i 0 j.length 1).isEmpty)) H):=by
 intro pins s σ H x y v u Q I rx ry h;obtain ⟨i,j,rfl,rfl,q⟩:=h;obtain ⟨t,rfl⟩:=rx;obtain ⟨t',rfl⟩:=ry;exact in_str (Aeq I q rfl)
theorem Aty:m9 X .Is (fun x y H Q=>y = .non/\Q (.bl (decide (x = .non))) H):=by
 intro pins s σ H x y v u Q I rx ry h;obtain ⟨rfl,q⟩:=h;cases ry;refine is_none_gen (Aeq I q ?_);cases x <;> first
  | (cases rx;rfl)
  | (obtain ⟨t,rfl⟩:=rx;rfl)
theorem Ap2:m9 X .IsNot (fun x y H Q=>y = .non/\Q (.bl (!decide (x = .non))) H):=by
 intro pins s σ H x y v u Q I rx ry h;obtain ⟨rfl,q⟩:=h;cases ry;refine isnot_none_gen (Aeq I q ?_);cases x <;> first
  | (cases rx;rfl)
  | (obtain ⟨t,rfl⟩:=rx;rfl)
theorem OpR.or{f:aJ->aJ->Sem aJ}{r':R2}(h:OpR X f r)(h':OpR X f r'):OpR X f (fun x y H Q=>r x y H Q\/r' x y H Q):=by
 intro pins s σ H x y v u Q I rx ry q;rcases q with q | q
 ·exact h pins s σ H x y v u Q I rx ry q
 ·exact h' pins s σ H x y v u Q I rx ry q
theorem Bp(b:Expr)(h:op≠.In:=by decide)(h2:op≠.NotIn:=by decide):behindInMarks op b=false:=by
 have e1:(op == CmpOp.In)=false:=by cases op <;> first | rfl | exact absurd rfl h
 have e2:(op == CmpOp.NotIn)=false:=by cases op <;> first | rfl | exact absurd rfl h2
 cases b <;> simp[behindInMarks,e1,e2]
theorem Ara(ho:m9 X op r)(ha:l4 a ta)(hb:l4 b tb)(hm:behindInMarks op b=false):l4 (.Compare a [op] [b] pos) (tOp r ta tb):=by
 intro pins s σ H Q I h;exact wpAny_Compare1 (Awh ha hb I h fun v u s2 x y H2 I2 rx ry q=>ho pins s2 σ H2 x y v u Q I2 rx ry q) hm
def As6(t:TE):TT:=fun σ H Q=>t σ H fun x H'=>∃ k,x = .bl k/\Q k H'
theorem Ap1(ho:m9 X op r)(ha:l4 a ta)(hb:l4 b tb)(hm:behindInMarks op b=false):PT X (.Compare a [op] [b] pos) (As6 (tOp r ta tb)):=by
 intro pins s σ H Q I h;refine wpAny_isTrue_Compare1 (thn ZB fun v s1 zz=>zz.elim fun x H1 I1 r1 q1=>thn (hb pins s1 σ H1 _ I1 q1) fun u s2 ⟨y,H2,I2,r2,q2⟩=>
  thn (ho pins s2 σ H2 x y v u _ I2 r1 r2 q2) fun c s3 zz=>zz.elim fun z H3 I3 r3 zq=>?_) hm
 obtain ⟨k,e,q3⟩:=zq;subst e;cases r3;exact jA ⟨H3,I3,q3⟩
def Awc(K:aK)(x:V)(H:Hp)(k:Bool):Prop:=
 match x with
 | .non=>k=false
 | .bl b=>k=b
 | .int i=>k=(i != 0)
 | .str y=>y.length<=sizeLine/\k=((y.length:Int) != 0)
 | .byt y=>y.size<=sizeLine/\k=((y.size:Int) != 0)
 | .ref p=>(∃ xs,qk K p xs/\k = !xs.isEmpty)\/(∃ xs,lv H p xs/\k = !xs.isEmpty)\/∃ kvs,H p=ξ (fw)/\k = !kvs.isEmpty
 | _=>False
theorem Afp{κ:Type}{kvs:List (κ×V)}{vs:List (κ×aJ)}(r:KV kvs vs):(!vs.isEmpty) = !kvs.isEmpty:=by
 cases r <;> rfl
theorem T7{its:ac}(r:Vals xs its):(!its.toArray.isEmpty) = !xs.isEmpty:=by
 cases r <;> simp
theorem Rv:(sizeLine:Nat) < 2 ^ 63:=by rw[cV];decide
theorem Auq:A1p X (fun x H Q=>∃ k,Awc X.K x H k/\Q k H):=by
 intro pins s σ H x v Q I rx h;obtain ⟨k,e,q⟩:=h;have hl:=Rv;have hs:sizeLine=16777216:=cV;cases x with
 | non=>
  cases rx;have e':k=false:=e;subst e';exact truthy_none ⟨H,I,q⟩
 | bl b=>
  cases rx;have e':k=b:=e;subst e';exact jA ⟨H,I,q⟩
 | int i=>
  obtain ⟨t,rfl⟩:=rx;have e':k=(i != 0):=e;subst e';exact PySem.P.truthy_int ⟨H,I,q⟩
 | str y=>
  obtain ⟨t,rfl⟩:=rx;obtain ⟨hy,e'⟩:y.length<=sizeLine/\k=((y.length:Int) != 0):=e;subst e';exact PySem.P.truthy_str Ze ⟨H,kt,q⟩
 | byt y=>
  obtain ⟨t,rfl⟩:=rx;obtain ⟨hy,e'⟩:y.size<=sizeLine/\k=((y.size:Int) != 0):=e;subst e';exact PySem.W.truthy_bytes Ze ⟨H,kt,q⟩
 | ref p=>
  cases rx;have e':(∃ xs,qk X.K p xs/\k = !xs.isEmpty)\/(∃ xs,SqT X.K H p xs/\k = !xs.isEmpty)\/∃ kvs,qq=ξ fw/\k = !kvs.isEmpty:=e;rcases e' with ⟨xs,hx,e'⟩ | ⟨xs,hx,e'⟩ | ⟨kvs,hx,e'⟩
  ·subst e';obtain ⟨its,r,pl,hz⟩:=I.list hx;have hlen:=r.length;exact wpAny_truthy_list pl.isList (by simp only[aT];omega) ⟨H,kt,by rw[T7 r];exact q⟩
  ·subst e';obtain ⟨its,r,pl,hz⟩:=I.tuple hx;have hlen:=r.length;exact truthy_tuple pl (by simp only[aT];omega) ⟨H,kt,by rw[T7 r];exact q⟩
  ·subst e';obtain ⟨hz,hS,vs,r,m⟩:kvs.length<=sizeLine/\(p == sysModules)=false/\∃ vs,KV kvs vs/\s.heap.DictOf (Bs X.prog X.w) p vs:=I.hok p _ hx;have hlen:kvs.length=vs.length:=pK r;exact wpAny_truthy_dict hS m Ze ⟨H,kt,by rw[Afp r];exact q⟩
 | _=>exact (show False from e).elim
theorem Amc(ha:l4 a ta)(he:∀ whole,isTrue a X.env whole=(do let v <- whole;standAt a.pos;holding [v] (truthy v))) :
  PT X a (fun σ H Q=>ta σ H fun x H'=>∃ k,Awc X.K x H' k/\Q k H'):=by
 intro pins s σ H Q I h;exact isTrue_plain (thn ZB fun v s1 zz=>by obtain ⟨x,H1,I1,r1,q1⟩:=zz;exact Auq pins s1 σ H1 x v Q I1 r1 q1) (he _)
theorem Aep:OpR X (gJ .Add) (fun x y H Q=>∃ i j,x = .str i/\y = .str j/\i.length+j.length<=sizeLine/\Q (.str (i++j)) H):=by
 intro pins s σ H x y v u Q I rx ry h;obtain ⟨i,j,rfl,rfl,hz,q⟩:=h;obtain ⟨t,rfl⟩:=rx;obtain ⟨t',rfl⟩:=ry;exact add_str (fun t' tk=>⟨.str (i++j),H,kt,jk,q⟩) hz
theorem Ee{x:V}(r:ja [x]):∃ u,us=[u]/\mi x:=by
 cases r with
 | cons r1 r2=>cases r2;exact ⟨_,rfl,r1⟩
theorem X3{x y:V}(r:ja [x,y]):∃ u w',us=[u,w']/\mi x/\RelV y w':=by
 cases r with
 | cons r1 r2=>
  cases r2 with
  | cons r3 r4=>cases r4;exact ⟨_,_,rfl,r1,r3⟩
theorem Uz:ll X "abs" (fun xs H Q=>∃ i,xs=[ce]/\Q (.int (if i < 0 then -i else i)) H):=by
 intro pins s σ H xs us Q I r h;obtain ⟨i,rfl,q⟩:=h;obtain ⟨u,rfl,t,rfl⟩:=Ee r;exact call_abs_int fun u tk=>⟨.int (if i < 0 then -i else i),H,kt,jk,q⟩
theorem Ajz:CallR X (.type "int") (fun xs H Q=>(∃ i,xs=[ce]/\Q ce H)\/∃ k,xs=[.bl k]/\Q (.int (if k then 1 else 0)) H):=by
 intro pins s σ H xs us Q I r h;rcases h with ⟨i,rfl,q⟩ | ⟨k,rfl,q⟩
 ·obtain ⟨u,rfl,t,rfl⟩:=Ee r;exact call_int_int ⟨ce,H,I,jk,q⟩
 ·obtain ⟨u,rfl,r1⟩:=Ee r;cases r1;exact call_int_bool ⟨.int (if k then 1 else 0),H,kt,jk,q⟩
def Axx(K:aK)(x:V)(H:Hp)(n:Nat):Prop:=
 match x with
 | .str y=>y.length<=sizeLine/\n=y.length
 | .byt y=>y.size<=sizeLine/\n=y.size
 | .ref p=>(∃ xs,qk K p xs/\n=xs.length)\/∃ xs,SqT K H p xs/\n=xs.length
 | _=>False
theorem Cg:ll X "len" (fun xs H Q=>∃ x n,xs=[x]/\Axx X.K x H n/\Q (.int n) H):=by
 intro pins s σ H xs us Q I r h;obtain ⟨x,n,rfl,e,q⟩:=h;obtain ⟨u,rfl,rx⟩:=Ee r;have hl:=Rv;have hs:sizeLine=16777216:=cV;cases x with
 | str y=>
  obtain ⟨t,rfl⟩:=rx;obtain ⟨hy,e'⟩:y.length<=sizeLine/\n=y.length:=e;subst e';exact len_str Ze ⟨.int _,H,kt,jk,q⟩
 | byt y=>
  obtain ⟨t,rfl⟩:=rx;obtain ⟨hy,e'⟩:y.size<=sizeLine/\n=y.size:=e;subst e';exact PySem.W.len_bytes Ze ⟨.int _,H,kt,jk,q⟩
 | ref p=>
  cases rx;have e':(∃ xs,qk X.K p xs/\n=xs.length)\/∃ xs,SqT X.K H p xs/\n=xs.length:=e;rcases e' with ⟨xs,hx,e'⟩ | ⟨xs,hx,e'⟩
  ·subst e';obtain ⟨its,r',pl,hz⟩:=I.list hx;have hlen:=r'.length;exact Calls.call_len_list pl.isList (by simp only[aT];omega) ⟨.int xs.length,H,kt,⟨_,by simp only[aT];rw[hlen]⟩,q⟩
  ·subst e';obtain ⟨its,r',pl,hz⟩:=I.tuple hx;have hlen:=r'.length;exact len_tuple pl (by simp only[aT];omega) ⟨.int xs.length,H,kt,⟨_,by simp only[aT];rw[hlen]⟩,q⟩
 | _=>exact (show False from e).elim
end
structure ObjM(h:Heap)(x dx C:Addr)(mA:Str->bi):Prop where
 obj:h.get? x=ξ (iV C dx)
 ns:h.Ns1 dx mA
 ne:dx≠x
variable {dx:Addr}{mA:Str->bi}
theorem Aj9(n:h.Ns1 dx mA):∃ od,h.get? dx=ξ od/\∀ name,rE name od=ξ (mA name):=by
 obtain ⟨o,es,ep,ho,hd,hk,_,hm⟩:=n;refine ⟨o,ho,fun name=>?_⟩;have e:=hm name;unfold nsFind findBy at e;rw[<- Array.find?_toList] at e;unfold rE;rw[hd];dsimp only;split
 ·rename_i y q;rw[q] at e;exact congrArg ξ e
 ·rename_i q;rw[q] at e;have a:es.toList.any (·.refKey)=false:=by
   rw[oZ];intro y hy;obtain ⟨z,t,hkey⟩:=hk y (Array.mem_toList_iff.mp hy);simp[vP.refKey,hkey]
  have a':¬ es.toList.any (·.refKey)=true:=by rw[a];exact cO
  rw[if_neg a'];exact congrArg ξ e
variable {C:Addr}
theorem ObjM.look{x:Addr}(I:ObjM h x dx C mA):∃ od,PySem.W.InstAt h x (iV C dx) C (ξ od)/\∀ name,rE name od=ξ (mA name):=
 let ⟨od,ho,hl⟩:=Aj9 I.ns
 ⟨od,⟨I.obj,rfl,rfl,ho⟩,hl⟩
variable {f:Addr}
section
variable {prog:cL}{x:Addr}{name:Str}{v:aJ}
end
theorem RelO.some_of{o:bi}(r:RelO j3 o):∃ u,o=br/\mi v:=by
 cases o with
 | none=>exact (show False from r).elim
 | some u=>exact ⟨u,rfl,r⟩
theorem RelO.none_of{o:bi}(r:RelO ψ o):o=ψ:=by
 cases o with
 | none=>rfl
 | some u=>exact (show False from r).elim
section
variable {fs fs':List (Str×V)}
theorem Aqf(hok:HOk P w H h)(e:j7=ξ (.ins C dx fs)):∃ mA,ObjM h a dx C mA/\(∀ f,RelO (fs.lookup f) (mA f))/\xZ mA (fs.map (·.1))/\fs.length<=1000/\H dx=ξ (.own a):=by
 obtain ⟨d,z,ne,ob,mA,n,r,q⟩:=(show ObjOk P w H h a (.ins C dx fs) from hok a _ e);exact ⟨mA,⟨ob,n,ne⟩,r,q,z,d⟩
end
structure Cls(K:aK)(C:Addr):Prop where
 pg:vE K C xX=true
 hd:PySem.W.hasDictIn K C=true
 po:PySem.W.plainOver K C=true
 sa:kD K (.ref C) "__setattr__" = ξ (ξ (.builtin "object.__setattr__"))
theorem Cls.get(c:Cls K C)(f:Str):vE K C f=true:=c.pg
def Awr(K:aK)(C:Addr)(f:Str):Prop:=kD K (.ref C) f=ξ ψ
structure Con(K:aK)(C:Addr)(f:Str)(v:V)(u:aJ):Prop where
 at_:kD K (.ref C) f=ξ br
 rel:mi v
 get:tG K u "__get__" = ξ ψ
 cp:PySem.W.copiedNames.contains f=false
structure Meth(K:aK)(C:Addr)(m:Str)(f:Addr):Prop where
 at_:kD K (.ref C) m=ξ mn
 fn:yA K ff=true
 kp:iA K ff=true
section
variable {fs:List (Str×V)}{f:Str}
theorem Inv.made(I:io):Inv X pins σ (upd (ou (.own Zi)) Zi (.ins C s.heap.objs.size []))
  { s with heap:=(s.heap.push fU).push (iV C s.heap.objs.size) }:=by
 have e1:(s.heap.push fU).get? s.heap.objs.size=ξ fU:=kh s.heap;have e2:((s.heap.push fU).push (iV C s.heap.objs.size)).get? Zi=ξ (iV C s.heap.objs.size):=by
  have:=aV (s.heap.push fU) (o:=iV C s.heap.objs.size) rfl;rwa [dB] at this
 have e3:(s.heap.push fU).Ns s.heap.objs.size (fun _=>ψ):=⟨fU,#[],_,e1,rfl,(fun e he=>absurd he Za),fun _=>rfl⟩;have I1:=I.laid (a:=s.heap.objs.size) (o:=.own Zi) (h':=s.heap.push fU) (t':=s.toks) (fun b u q=>jh q) be ⟨_,e1⟩;refine I1.laid (a:=s.heap.objs.size+1) (o:=.ins C s.heap.objs.size []) (t':=s.toks) (fun b u q=>jh q) (nO (dB _ _)) ?_;have ne:s.heap.objs.size≠s.heap.objs.size+1:=bW (eK _);refine ⟨by rw[Au ne,upd_same],eS _,ne,e2,fun _=>ψ,(Heap.Ns1.of_empty e3).at fun o q=>jh q,fun _=>jR,fun y hy=>absurd rfl hy⟩
end
section
variable {o value:Expr}{f:Str}{pos' tpos:Pos}{tv:TE}
end
section
variable {Q:aJ->aO->Prop}{c:aJ}{b:Bool}
inductive TyOf(K:aK)(H:Hp):V->aJ->Prop where
 | non:TyOf K H .non (.type "NoneType")
 | bl (x:Bool):TyOf K H (.bl x) (.type "bool")
 | int (i:Int):TyOf K H (ce) (.type "int")
 | str (x:Str):TyOf K H (.str x) (.type "str")
 | flt (x:UInt64):TyOf K H (.flt x) (.type "float")
 | lst {a:Addr} {xs:ε} (e:j7=Ξ xs):TyOf K H (bp) (vh)
 | frz {a:Addr} {o:Obj} {xs:ε} (e:j7=jl o (.lst xs)):TyOf K H (bp) (vh)
 | tup {a:Addr} {xs:ε} (e:j7=Γ xs):TyOf K H (bp) (.type "tuple")
 | dK {a:Addr} {kvs:List (Key×V)} (e:j7=ξ fw):TyOf K H (bp) (p9)
 | dT {a:Addr} {kvs:List (mz×V)} (e:j7=ξ (.dT kvs)):TyOf K H (bp) (p9)
 | ins {a C dx:Addr} {fs:List (Str×V)} (e:j7=ξ (.ins C dx fs)) (cl:Cls K C) (ha:kD K (.ref C) "__class__" = ξ (ξ (.builtin "object.__class__")))
   (hn:tG K (.builtin "object.__class__") "__get__" = ξ (ξ (.builtin "getset_descriptor.__get__"))) (htk:PySem.W.takesIn K (.builtin "object.__class__")=ξ true)
   (hm:PySem.W.mroIn K C (.type "object")=ξ true):TyOf K H bp (.ref C)
theorem Kr{x:V}{t:aJ}(I:io)(rx:mi x)(ty:TyOf X.K H x t)(e:fV X.K t c=ξ b)(h:∀ tk,Q (.bool b) { s with toks:=tk }) :
  wpAny bj A (call (.builtin "isinstance") [u,c]) Q E s:=by
 cases ty with
 | non=>cases (show u=dX from rx);exact eA PySem.W.kitx_none I.kIn jR e Zm h
 | bl y=>cases (show u=qE y from rx);exact eA PySem.W.kitx_bool I.kIn jR e Zm h
 | int i=>obtain ⟨t,q⟩:=(show ∃ t,u=mJ i t from rx);cases q;exact eA PySem.W.kitx_int I.kIn jR e Zm h
 | str y=>obtain ⟨t,q⟩:=(show ∃ t,u=vA y t from rx);cases q;exact eA PySem.W.kitx_str I.kIn jR e Zm h
 | flt y=>obtain ⟨t,q⟩:=(show ∃ t,u=yI y t from rx);cases q;exact eA PySem.W.kitx_float I.kIn jR e Zm h
 | @lst a xs ea=>
  cases (show u=eB a from rx);obtain ⟨_,_,n,_,h1⟩:=(show ObjOk X.prog X.w H s.heap a (.lst xs) from I.hok a _ ea);exact eA pA I.kIn (ik _ h1) e Zm h
 | @frz a ob xs ea=>
  cases (show u=eB a from rx);obtain ⟨_,_,_,n,_,h1⟩:=(show ObjOk X.prog X.w H s.heap a (.frz ob (.lst xs)) from I.hok a _ ea);exact eA pA I.kIn (ik _ h1) e Zm h
 | @tup a xs ea=>
  cases (show u=eB a from rx);obtain ⟨_,_,_,p⟩:=(show ObjOk X.prog X.w H s.heap a (.tup xs) from I.hok a _ ea);obtain ⟨o,h1,h2,_⟩:=p;exact eA sQ I.kIn ⟨o,h1,(mU h2).1⟩ e Zm h
 | @dK a kvs ea=>
  cases (show u=eB a from rx);obtain ⟨_,_,vs,_,p⟩:=(show ObjOk X.prog X.w H s.heap a fw from I.hok a _ ea);obtain ⟨o,es,ep,h1,h2,_⟩:=p;exact eA tH I.kIn ⟨o,h1,h2.1⟩ e Zm h
 | @dT a kvs ea=>
  cases (show u=eB a from rx);obtain ⟨_,_,xs,_,o,es,ep,h1,h2,_⟩:=(show ObjOk X.prog X.w H s.heap a (.dT kvs) from I.hok a _ ea);exact eA tH I.kIn ⟨o,h1,h2.1⟩ e Zm h
 | @ins a C dx fs ea cl ha hn htk hm=>
  cases (show u=eB a from rx);obtain ⟨mA,O,_⟩:=Aqf I.hok ea;obtain ⟨od,J,_⟩:=O.look;exact eA (PySem.W.kitx_own (cl.get _) cl.hd ha hn htk hm) I.kIn J e Zm h
end
structure Room(k:Nat)(A:dN):Prop where
 hd:A.handled=ψ
 dp:A.depth+3 * k+5 < recursionLimit
 un:A.units+16 * k+200 < cLine
theorem Room.mono(r:Room k A)(h:j<=k):Room j A:=⟨r.hd,by have:=r.dp;omega,by have:=r.un;omega⟩
theorem Room.deeper(r:Room (k+1) A)(env:Env):Room k (A.deeper env):=
 ⟨r.hd,by have:=r.dp;show A.depth+1+3 * k+5 < _;omega,by have:=r.un;show A.units+3+16 * k+200 < _;omega⟩
theorem Room.in1(r:Room (k+1) A):Room k A.in1:=
 ⟨r.hd,by have:=r.dp;show A.depth+3 * k+5 < _;omega,by have:=r.un;show A.units+1+16 * k+200 < _;omega⟩
theorem Room.depth(r:Room k A):A.depth < recursionLimit:=by have:=r.dp;omega
theorem Room.units(r:Room k A):A.units+64 < cLine:=by have:=r.un;omega
def Ax8:TA:=fun _ H Q=>Q [] H
def Asx(ta:TE)(tr:TA):TA:=fun σ H Q=>ta σ H fun x H1=>tr σ H1 fun xs H2=>Q (x::xs) H2
variable {t:TA}
section
theorem Ae7:PA X [] Ax8:=fun _ _ _ _ H Q I h=>pB ⟨[],H,I,.nil,h⟩
theorem Ts(ha:l4 e te)(hr:PA X es t)(hs:bc (e::es)=ZF::bc es:=by rfl):PA X (e::es) (Asx te t):=by
 intro pos pins s σ H Q I h;rw[hs];show cm _ _ (spliced (ZF::f6 pos es)) _ _;refine oF (thn ZB fun u s1 zz=>?_);obtain ⟨x,H1,I1,r1,q1⟩:=zz;refine thn (hr pos pins s1 σ H1 _ I1 q1) fun us s2 zz=>?_
 obtain ⟨xs,H2,I2,r2,q2⟩:=zz;exact ⟨x::xs,H2,I2,.cons r1 r2,q2⟩
def A04(t:TA):TE:=fun σ H Q=>t σ H fun xs H1=>xs.length<=sizeLine/\∀ p,H1 p=ψ->Q d7 (upd H1 p (.tup xs))
def A0k(t:TA):TE:=fun σ H Q=>t σ H fun xs H1=>xs.length<=sizeLine/\∀ p,H1 p=ψ->Q d7 (cb H1 p xs)
theorem At9{x1}(h:PA X es t):l4 (.Tuple es x1 pos) (A04 t):=by
 intro pins s σ H Q I hq;refine wpAny_Tuple_spliced (thn (h pos pins s σ H _ I hq) fun us s1 zz=>zz.elim fun xs H1 I1 r zq=>⟨by rw[<- r.length];exact zq.1,?_⟩);obtain ⟨z,q⟩:=zq;have hf:H1 s1.heap.objs.size=ψ:=ma;refine ck (.ref s1.heap.objs.size) (upd H1 s1.heap.objs.size (.tup xs)) (I1.laid (t':=s1.toks) (fun b u e=>n8) be ?_) (q _ hf);exact ⟨z,us,r,pz _ ki _ rfl⟩
theorem Awj(h:PA X es t):l4 (.List es pos) (A0k t):=by
 intro pins s σ H Q I hq;refine wpAny_List_spliced (thn (h pos pins s σ H _ I hq) fun us s1 zz=>zz.elim fun xs H1 I1 r zq=>⟨by rw[<- r.length];exact zq.1,?_⟩);obtain ⟨z,q⟩:=zq;have hf:H1 s1.heap.objs.size=ψ:=ma;refine ck (.ref s1.heap.objs.size) (cb H1 s1.heap.objs.size xs) (I1.laid (t':=s1.toks) (fun b u e=>n8) be ?_) (q _ hf);exact ⟨z,us,0,r,ki⟩
end
abbrev Sp:=ε->Hp->VK->XK->Prop
abbrev CXT:=qv->Hp->aO->XK->aJ->aO->Prop
structure Env0(P:cL)(w:dC)(K:aK)(mg:Str->bi)(base:Heap)(A:dN)(outer:qv)(s:aO)(H:Hp):Prop where
 frames:A.frames=ξ outer
 mod:Mod K mg base
 bs:∀ b o,base.get? b=ao->a9=ao/\gn=ψ
 bsz:base.objs.size<=s.heap.objs.size
 funs:s.heap.FunFrames base outer
 frf:∀ b∈frs outer,gn=ψ
 hok:HOk P w H s.heap
 bare:qG s.gens
inductive CE(outer:qv)(P:cL)(w:dC)(H:Hp)(s:aO)(Q:VK)(u:aJ)(s':aO):Prop
 | mk (v:V) (H':Hp) (os:s'.os=s.os) (bare:qG s'.gens) (un:Un (frs outer) [] H H' s.heap s'.heap) (hok:HOk P w H' s'.heap) (r:mi v) (q:Q v H'):CE outer P w H s Q u s'
def CR(CX:CXT)(outer:qv)(P:cL)(w:dC)(H:Hp)(s:aO)(Q:VK)(E:XK)(r:vF)(s':aO):Prop:=
 match r with
 | .ok (.ret u)=>CE outer P w H s Q u s'
 | .ok _=>False
 | .error e=>CX outer H s E e s'
structure FnOk(P:cL)(w:dC)(K:aK)(mg:Str->bi)(base:Heap)(CX:CXT)(k:Nat)(f:Addr)(fd:fA)(ps:Φ)(sp:Sp):Prop where
 len:∀ vs H Q E,sp vs H Q E->vs.length=ps.length
 run:∀ (A:dN) (outer:qv) (s:aO) (H:Hp) (args:Args) (us:ac) (vs:ε) (Q:VK) (E:XK),Room k A->Env0 P w K mg base A outer s H->pC s fd args (ps.zip us)->ja vs->sp vs H Q E ->
  nQ (model P w) A (.call ff args) (CR CX outer P w H s Q E) s
variable {mg:Str->bi}{base:Heap}{CX:CXT}{fd:fA}{ps:Φ}{sp:Sp}
theorem FnOk.mono(F:FnOk P w K mg base CX j f fd ps sp)(h:j<=k) :
  FnOk P w K mg base CX k f fd ps sp:=⟨F.len,fun A outer s H args us vs Q E hr=>F.run A outer s H args us vs Q E (hr.mono h)⟩
theorem FnOk.imp{sp':Sp}(F:FnOk P w K mg base CX k f fd ps sp)
  (h:∀ vs H Q E,sp' vs H Q E->sp vs H Q E):FnOk P w K mg base CX k f fd ps sp':=
 ⟨fun vs H Q E q=>F.len vs H Q E (h _ _ _ _ q),fun A outer s H args us vs Q E hr he hb hv hs=>F.run A outer s H args us vs Q E hr he hb hv (h _ _ _ _ hs)⟩
theorem Env0.in1{outer:qv}(e:Env0 P w K mg base A outer s H) :
  Env0 P w K mg base A.in1 outer s H:=⟨e.frames,e.mod,e.bs,e.bsz,e.funs,e.frf,e.hok,e.bare⟩
section
theorem Inv.env0(I:io):Env0 X.prog X.w X.K X.mg X.base X.A X.stack s H:=
 ⟨I.ok.frames,I.ok.mod,I.bs,cC I.ok.bsz I.sz,I.stack,I.stkFree,I.hok,I.bare⟩
theorem Inv.after(I:io)(h:CE X.stack X.prog X.w H s Q u s'):EP X pins σ Q u s':=by
 obtain ⟨v,H',os,bare,un,hok,r,q⟩:=h;obtain ⟨hh,g,d,t,os'⟩:=s';obtain rfl:os'=s.os:=os;exact ⟨v,H',I.call (h':=hh) (g':=g) (d':=d) (t':=t) (ch:=[]) un hok bare (fun b z=>absurd z Za),r,q⟩
end
def Axz(sp:Sp)(dvs:ε)(E:XK)(t:TA):TE:=fun σ H Q=>t σ H fun vs H1=>sp (vs++dvs) H1 Q E
def Binds(K:aK)(fd:fA)(ps:Φ)(ds:ac):Prop:=
 ∀ (s:aO) (us:ac),K.In s.heap->(us++ds).length=ps.length->pC s fd ⟨us,[]⟩ (ps.zip (us++ds))
theorem Binds.all(h:∀ us:ac,us.length=ps.length->rF fd ⟨us,[]⟩=pure (ps.zip us)):Binds K fd ps []:=fun s us _ hl=>by
 rw[bB] at hl ⊢;exact .of_eq (h us hl)
def Vr(CX:CXT)(X:Cx)(E:XK):Prop:=∀ (pins:List (Addr×Obj)) (σ:St) (H:Hp) (s:aO) (e:aJ) (s':aO),io->CX X.stack H s E e s'->X.xe e s'
variable {vs:ε}
section
variable {dvs:ε}{ds:ac}{E:XK}{m:Str}{apos:Pos}{o:Expr}
theorem Awy(F:FnOk X.prog X.w X.K X.mg X.base CX k f fd ps sp)(hr:Room k X.A)(hb:Binds X.K fd ps ds)(hd:Vals dvs ds)(hx:Vr CX X E)
  (I:io) (r:ja vs) (h:sp (vs++dvs) H Q E):cm bj X.A (call ff us) Zu X.xe:=by
 have r2:Vals (vs++dvs) (us++ds):=r.append hd;have hl:(us++ds).length=ps.length:=by rw[<- r2.length];exact F.len _ _ _ _ h
 refine sR (nR (F.run X.A X.stack s H ⟨us,[]⟩ (us++ds) (vs++dvs) Q E hr I.env0 (hb s us I.kIn hl) r2 h) fun r s' hq=>?_);cases r with
 | error e=>exact hx pins σ H s e s' I hq
 | ok fl=>
  cases fl with
  | ret u=>exact I.after hq
  | next=>exact eP hq
  | brk=>exact eP hq
  | cont=>exact eP hq
theorem Apw(F:FnOk X.prog X.w X.K X.mg X.base CX k f fd ps sp)(hr:Room k X.A)(hg:Gl X x)(hm:X.mg x=mn)(hk:iA X.K ff=true)(hb:Binds X.K fd ps ds)(hd:Vals dvs ds)(hx:Vr CX X E)
  (ha:PA X (e::es) t) (hdb:(x == ("__debug__" : Str))=false:=by decide) (he:bc (e::es)=ZF::bc es:=by rfl) (hpl:(f6 pos es).any (·.1)=false:=by rfl) :
  PE X Z5 (Axz sp dvs E t):=by
 intro pins s σ H Q I h;refine dR (Abb I hg hm ?_ hdb);refine PySem.W.callWith_K (h₀:=X.base) I.ok.mod.kin hk (thn ZE fun us s1 zz=>zz.elim fun vs H1 I1 r q=>⟨I1.kIn,?_⟩) he hpl;exact Awy F hr hb hd hx I1 r q
structure Mk(K:aK)(C f:Addr):Prop where
 makes:PySem.W.makesIn K C=true
 init:kD K (.ref C) "__init__" = ξ mn
 fn:yA K ff=true
 kp:iA K (.ref C)=true
end
def PK(X:Cx)(kws:tu)(t:TA):Prop:=
 ∀ (pos:Pos) (pins:List (Addr×Obj)) (s:aO) (σ:St) (H:Hp) (Q:ε->Hp->Prop),io->t σ H Q->cm bj X.A (evalAll ((dy pos kws X.env).map (·.2))) (AP X pins σ Q) X.xe
section
variable {ks:Φ}{E:XK}{m:Str}{apos kpos:Pos}{o:Expr}{kws:tu}{tk:TA}{nm:Option Str}
theorem Vs:PK X [] Ax8:=fun _ _ _ _ H Q I h=>wpAny_evalAll_nil ⟨[],H,I,.nil,h⟩
theorem Ot(ha:l4 e te)(hr:PK X kws t):PK X (⟨nm,e,kpos⟩::kws) (Asx te t):=by
 intro pos pins s σ H Q I h;show cm _ _ (evalAll ((do let v <- eval e X.env;standAt pos;pure v)::(backToKw pos (keywordEach kws X.env)).map (·.2))) _ _;refine wpAny_evalAll_cons (aG (thn ZB fun u s1 zz=>zz.elim fun x H1 I1 r1 q1=>aG (pL (aU ?_))));refine thn (hr pos pins s1 σ H1 _ I1 q1) fun us s2 zz=>?_
 obtain ⟨xs,H2,I2,r2,q2⟩:=zz;exact ⟨x::xs,H2,I2,.cons r1 r2,q2⟩
structure KBinds(K:aK)(fd:fA)(ps ks:Φ)(g:ac->ac->ac)(gV:ε->ε->ε):Prop where
 to:∀ (s:aO) (us ws:ac),K.In s.heap->(g us ws).length=ps.length->pC s fd ⟨us,ks.zip ws⟩ (ps.zip (g us ws))
 rel:∀ {vs:ε} {us:ac} {zs:ε} {ws:ac},ja vs->Vals zs ws->Vals (gV vs zs) (g us ws)
variable {g:ac->ac->ac}{gV:ε->ε->ε}
theorem Aoy{ws:ac}{zs:ε}(F:FnOk X.prog X.w X.K X.mg X.base CX k f fd ps sp)(hr:Room k X.A)(hb:KBinds X.K fd ps ks g gV)(hx:Vr CX X E)
  (I:io) (r:ja vs) (rz:Vals zs ws) (h:sp (gV vs zs) H Q E):cm bj X.A (call ff us (ks.zip ws)) Zu X.xe:=by
 have r2:=hb.rel r rz;have hl:(g us ws).length=ps.length:=by rw[<- r2.length];exact F.len _ _ _ _ h
 refine sR (nR (F.run X.A X.stack s H ⟨us,ks.zip ws⟩ (g us ws) (gV vs zs) Q E hr I.env0 (hb.to s us ws I.kIn hl) r2 h) fun r s' hq=>?_);cases r with
 | error e=>exact hx pins σ H s e s' I hq
 | ok fl=>
  cases fl with
  | ret u=>exact I.after hq
  | next=>exact eP hq
  | brk=>exact eP hq
  | cont=>exact eP hq
end
structure FnScope(N P:Φ)(sc:kA):Prop where
 kind:sc.kind = .function
 co:sc.isCoroutine=false
 gen:sc.isGenerator=false
 nd:N.Nodup
 pre:N.take P.length=P
 par:∀ x∈P,j6=i9\/j6=j9
 nofree:∀ y∈sc.names,y.2≠.free
variable {kindOf:Str->Option jC}
theorem Yp:∀ {binds:List (Str×aJ)} {m:Str->bi},(∀ v,(x,v)∉binds)->bindL kindOf binds m x=m x
 | [],_,_=>rfl
 | (n,v)::r,m,h=>by
  unfold bindL;rw[Yp fun w hw=>h w (oq hw)];split
  ·have:x≠n:=by rintro rfl;exact h v aS
   simp[this]
  ·rfl
theorem Y2:∀ {binds:List (Str×aJ)} {m:Str->bi},(∀ v,(x,v)∉binds)->bindC kindOf binds m x=m x
 | [],_,_=>rfl
 | (n,v)::r,m,h=>by
  unfold bindC;rw[Y2 fun w hw=>h w (oq hw)];split
  ·rfl
  ·have:x≠n:=by rintro rfl;exact h v aS
   simp[this]
theorem X6{kindOf:Str->Option jC}{x:Str}{v:aJ}:∀ {P:Φ} {vs:ac} {i:Nat} {m:Str->bi},P.Nodup->P[i]? = jw->vs[i]? = j3->kindOf x=i9 ->
  bindL kindOf (P.zip vs) m x=j3
 | [],_,_,_,_,h,_,_=>by simp at h
 | _::_,[],_,_,_,_,h,_=>by simp at h
 | p::P,w::vs,0,m,nd,h1,h2,hk=>by
  simp at h1 h2;subst h1;subst h2;show bindL kindOf ((p,w)::P.zip vs) m p=_;unfold bindL;rw[Yp fun v hv=>(iX.mp nd).1 (nB hv).1,if_pos hk];simp
 | p::P,w::vs,i+1,m,nd,h1,h2,hk=>by
  show bindL kindOf ((p,w)::P.zip vs) m x=_;unfold bindL;exact X6 (i:=i) (iX.mp nd).2 (by simpa using h1) (by simpa using h2) hk
theorem Y1{kindOf:Str->Option jC}{x:Str}{v:aJ}:∀ {P:Φ} {vs:ac} {i:Nat} {m:Str->bi},P.Nodup->P[i]? = jw->vs[i]? = j3->kindOf x≠i9 ->
  bindC kindOf (P.zip vs) m x=j3
 | [],_,_,_,_,h,_,_=>by simp at h
 | _::_,[],_,_,_,_,h,_=>by simp at h
 | p::P,w::vs,0,m,nd,h1,h2,hk=>by
  simp at h1 h2;subst h1;subst h2;show bindC kindOf ((p,w)::P.zip vs) m p=_;unfold bindC;rw[Y2 fun v hv=>(iX.mp nd).1 (nB hv).1,if_neg hk];simp
 | p::P,w::vs,i+1,m,nd,h1,h2,hk=>by
  show bindC kindOf ((p,w)::P.zip vs) m x=_;unfold bindC;exact Y1 (i:=i) (iX.mp nd).2 (by simpa using h1) (by simpa using h2) hk
def start(N:Φ)(vs:ε):St:=vs.map ξ++bP (N.length - vs.length) ψ
def Acs(CX:CXT)(P:cL)(w:dC)(K:aK)(mg:Str->bi)(base:Heap)(N:Φ)(qual:Str)(scope:kA)(f:Addr)(cd:aJ)(A:dN)(outer:qv)(s:aO)(H:Hp)(E:XK):Cx where
 prog:=P
 w:=w
 K:=K
 mg:=mg
 base:=base
 A:=A.deeper (ib qual scope f cd)
 N:=N
 s₀:=s
 H₀:=H
 env:=ib qual scope f cd
 outer:=outer
 stack:=ib qual scope f cd::outer
 ex:=[]
 calm:=true
 fn:=fun _=>true
 pn:=[]
 xe:=fun e s'=>wpAny (model P w) (A.deeper (ib qual scope f cd)) (leaving (ib qual scope f cd) e) (fun _ s''=>CX outer H s E e s'') (fun e' s''=>CX outer H s E e' s'') s'
theorem Ab0{sc:kA}{n:Nat}(h:j6=j9):∃ c,(cellsFrom n sc.names []).lookup x=fg:=by
 have q:=lH sc.names n [] (.inl h);exact jF.mp q
theorem Ajm{N:Φ}{qual:Str}{scope:kA}{cd:aJ}{outer:qv}{s1:aO}{E:XK}
  (S:FnScope N ps scope) (hd:A.handled=ψ) (e0:Env0 P w K mg base A outer s H) (hl:vs.length=ps.length) (r:ja vs)
  (x:InCallC s s.heap.objs.size (bindL (ib qual scope f cd).kindOf (ps.zip us) fun _=>ψ) (lg Zi []) (bindC (ib qual scope f cd).kindOf (ps.zip us) fun _=>ψ) s1) :
  Inv (Acs CX P w K mg base N qual scope f cd A outer s H E) [] (start N vs) H s1:=by
 have hpl:ps.length<=N.length:=by have:=congrArg lC S.pre;rw[eW] at this;omega
 obtain ⟨h1,tk,rfl,hk⟩:=x.done;have noA:∀ b:Addr,b∉(Acs CX P w K mg base N qual scope f cd A outer s H E).ex:=fun b z=>absurd (show b∈([]:Ψ) from z) Za
 refine ⟨⟨e0.mod,S.kind,rfl,rfl,be,fun y z c h1 h2=>?_,fun y hy=>?_,fun y c _ h=>?_,fun _=>hd,rG e0.frames,.inr (cu rfl),fun b z=>absurd z (noA b),e0.bs,e0.bsz,fun b _ _=>noA b,fun b z=>absurd z (noA b),e0.funs,e0.frf⟩,
  rfl,e0.bare,Un.kept hk,⟨_,x.toInCall.ns,fun i y v h1 h2 h3=>?_⟩,fun y c h=>⟨_,x.cell y c h⟩,e0.hok.fresh be,fun y c h=>?_,fun p hp=>absurd (show p∈([]:List (Addr×Obj)) from hp) Za,e0.hok.kept hk,?_⟩
 ·exact name_of_addr x.apart (jM h1) (jM h2)
 ·have hy:scope.names.lookup y=j9\/scope.names.lookup y=pf:=hy;rcases hy with hy | hy
  ·exact Ab0 hy
  ·exact absurd rfl (S.nofree _ (jM hy))
 ·exact iZ (x.above y c (jM h))
 ·have hi:i < vs.length:=by
   unfold start at h2;by_cases hi:i < vs.length
   ·exact hi
   ·rw[bX (by simpa using hi)] at h2;rw[List.getElem?_replicate] at h2;split at h2 <;> cases h2
  have ha:vs[i]? = j3:=by
   unfold start at h2;rw[bH (by simpa using hi),aX] at h2;cases e:vs[i]? with
   | none=>rw[e] at h2;cases h2
   | some a=>rw[e] at h2;cases h2;rfl
  obtain ⟨u,hu,rv⟩:=r.get ha;have hp:ps[i]? = ξ y:=by
   rw[<- S.pre,List.getElem?_take_of_lt Ze];exact h1
  have ndP:ps.Nodup:=by rw[<- S.pre];exact S.nd.sublist (jD _ _)
  refine ⟨u,rv,?_⟩;rcases S.par y (bT hp) with k | k
  ·exact .inl ⟨k,X6 ndP hp hu k⟩
  ·obtain ⟨c,e⟩:=Ab0 (n:=s.heap.objs.size+1) k;refine .inr ⟨.inl k,c,e,?_⟩;have q:=x.cell y c e;rw[Y1 ndP hp hu (by show scope.names.lookup y≠_;rw[k];decide)] at q
   exact q
 ·exact e0.hok.fresh (iZ (x.above y c (jM h)))
 ·unfold start;show _=N.length;rw[cG,aL,List.length_replicate];omega
theorem Ash{name qual:Str}{params:mK}{scope:kA}{dV kV doc pm cdv ct oc:aJ}{an od:du}
  {osl:Array bi} {N ps:Φ} {sp:Sp} (lk:K.lookup f=ξ ⟨oc,od,.func (gY name qual params body scope dV kV doc pm an cdv ct),osl⟩) (hcd:oG K cdv qual=true) (S:FnScope N ps scope)
  (len:∀ vs H Q E,sp vs H Q E->vs.length=ps.length)
  (hbody:∀ (A:dN) (outer:qv) (s:aO) (H:Hp) (vs:ε) (Q:VK) (E:XK),Room k (A.deeper (ib qual scope f cdv))->sp vs H Q E ->
   ∃ t,PSs Z1 body t/\t { nx:=fun _ H'=>Q .non H',rt:=Q } (start N vs) H) :
  FnOk P w K mg base CX (k+1) f (gY name qual params body scope dV kV doc pm an cdv ct) ps sp:=by
 refine ⟨len,fun A outer s H args us vs Q E hr e0 hb r hsp=>?_⟩;have hl:=len _ _ _ _ hsp;have KX:K.In s.heap:=e0.mod.kin.keeps fun b o e=>(e0.bs b o e).1
 have lim:s.heap.NoLimit:=e0.mod.nolimit.keeps fun b o e=>(e0.bs b o e).1
 have hkind:∀ y∈ps.zip us,scope.names.lookup y.1=i9\/(scope.names.lookup y.1=j9/\((lg Zi []).lookup y.1).isSome=true):=fun ⟨n,v⟩ hy=>by
  rcases S.par n (nB hy).1 with q | q
  ·exact .inl q
  ·exact .inr ⟨q,lH _ _ _ (.inl q)⟩
 refine codeAny_call_function hr.depth (KX _ _ lk) rfl S.co S.gen rfl (PySem.W.codeRec_of KX hcd) (hb _ _ _ _ ?_);refine wpAny_newFunctionEnv_cells S.kind hkind fun env he s1 x=>?_
 subst he;refine ⟨lim.keeps x.toInCall.keep,codeAny_func ?_⟩;obtain ⟨t,ht,hq⟩:=hbody A outer s H vs Q E (hr.deeper _) hsp;have I:Inv Z1 [] (start N vs) H s1:=Ajm S hr.hd e0 hl r x;refine dO (ht [] s1 (start N vs) H _ I hq) (fun fl s' hs=>?_) fun e s' hs=>hs
 have fin:∀ {σ':St} {H':Hp} {v:V} {u:aJ},Inv Z1 [] σ' H' s'->mi v->Q v H'->CE outer P w H s Q u s':=
  fun {σ' H' v u} J rv q=>⟨v,H',J.os,J.bare,J.base,J.hok,rv,q⟩
 cases fl with
 | ret u=>
  obtain ⟨v,σ',H',J,rv,q⟩:=hs;exact fin J rv q
 | next=>
  obtain ⟨σ',H',J,q⟩:=hs;exact fin (v:=V.non) (u:=dX) J rfl q
 | brk=>
  obtain ⟨_,_,_,q⟩:=hs;exact eP q
 | cont=>
  obtain ⟨_,_,_,q⟩:=hs;exact eP q
section
variable {id T:String}{r:ε->Hp->VK->Prop}
def tCB(r:ε->Hp->VK->Prop)(t:TA):TE:=fun σ H Q=>t σ H fun vs H1=>r vs H1 Q
theorem Adr(hc:ll X id r)(hg:Gl X x)(hm:X.mg x=ψ)(hv:fT x=ξ (.builtin id))(ha:PA X (e::es) t)(hn:x ≠ "__name__" := by decide)(hdb:(x == ("__debug__" : Str))=false:=by decide)
  (he:bc (e::es)=ZF::bc es:=by rfl) (hpl:(f6 pos es).any (·.1)=false:=by rfl):l4 Z5 (tCB r t):=by
 intro pins s σ H Q I h;refine dR (Fs I hg hm hv ?_ hn hdb);exact PyProof.Rows.callWith_builtin1 (thn ZE fun us s1 zz=>by obtain ⟨vs,H1,I1,r1,q1⟩:=zz;exact hc pins s1 σ H1 vs us Q I1 r1 q1) he hpl
theorem Akc(hc:CallR X (.type T) r)(hg:Gl X x)(hm:X.mg x=ψ)(hv:fT x=ξ (.type T))(ha:PA X (e::es) t)(hn:x ≠ "__name__" := by decide)(hdb:(x == ("__debug__" : Str))=false:=by decide)
  (he:bc (e::es)=ZF::bc es:=by rfl) (hpl:(f6 pos es).any (·.1)=false:=by rfl):l4 Z5 (tCB r t):=by
 intro pins s σ H Q I h;refine dR (Fs I hg hm hv ?_ hn hdb);exact cT (thn ZE fun us s1 zz=>by obtain ⟨vs,H1,I1,r1,q1⟩:=zz;exact hc pins s1 σ H1 vs us Q I1 r1 q1) he hpl
end
end L2
namespace HT
open PySem PyProof.Rows
noncomputable def Hy:Λ->Λ->Bool
 | [],[]=>false
 | [],_::_=>true
 | _::_,[]=>false
 | x::xs,y::ys=>if x=y then Hy xs ys else decide (x < y)
theorem Vl(x y:Int)(xs ys:Λ):Hy (x::xs) (y::ys)=if x=y then Hy xs ys else decide (x < y):=rfl
theorem W8:Hy [] []=false:=rfl
theorem Vp(y:Int)(ys:Λ):Hy [] (y::ys)=true:=rfl
theorem Wk(x:Int)(xs:Λ):Hy (x::xs) []=false:=rfl
theorem Vj(A:dN)(s:aO)(a:Int)(t:Tok)(c:Int)(u:Tok):∃ e,sS A s (re a) (.int c u) e/\(e=true↔a=c):=
 ⟨(a == c),oH a t c u,Za⟩
theorem Abh(A:dN)(s:aO)(a:Int)(t:Tok)(c:Int)(u:Tok)(prog:cL)(w:dC)(E:aJ->aO->Prop)(Q:aJ->aO->Prop)(h:Q (.bool (decide (a < c))) s) :
  wpAny mm A (richCompare .Lt (re a) (.int c u)) Q E s:=
 (PyProof.Rows.lt_int h:cm mm A (dY .Lt (re a) (.int c u)) Q E)
section
open PySem.SeqAt
open PySem.AutoSeq1 (wpAny_loadPart')
open PySem.MeetsSeq PySem.MeetsSeq2 PySem.MeetsSeq3
theorem Xm(l b:Addr)(items items2:bv)(n n2:Nat)(dd dd2:du)(sl sl2:Array bi)(ns ms:Λ)(hi:iQ items.toList ns)(hj:iQ items2.toList ms) :
  Meets (gZ.«tuple.__lt__» ⟨[cy,gv],[]⟩)
   (fun _ R s=>s.heap.get? l=ξ { cls:=.type "tuple",dict:=dd,data:=.seq items n,slots:=sl }/\a9=ξ { cls:=.type "tuple",dict:=dd2,data:=.seq items2 n2,slots:=sl2 } /\
    R (.ok (.ret (.bool (Hy ns ms)))) s):=
 .of_wp fun prog w A R s h=>by
  obtain ⟨hp,g,d,tk,os⟩:=s;obtain ⟨hl,hb,h⟩:=h;have f2:=kN;have z1:items.size=ns.length:=by rw[<- hi.length];simp
  have z2:items2.size=ms.length:=by rw[<- hj.length];simp
  wp_walk using gE hl,gE hb,vG _ (fun rest b s'=>b.1=ψ/\s'=⟨hp,g,d,tk,os⟩/\∃ (vs ws:ac) (ns' ms':Λ),rest=vs.zip ws /\
   iQ vs ns'/\iQ ws ms'/\ns'.length+items2.size=ms'.length+items.size/\R (.ok (.ret (.bool (Hy ns' ms')))) ⟨hp,g,d,tk,os⟩) _
  case turn=>
   rintro ⟨y,x⟩ rest b s' ⟨hb',rfl,vs,ws,ns',ms',hz,hvi,hwi,hlen,hR⟩;cases hvi with
   | nil=>rw[tJ] at hz;cases hz
   | cons a t hvi'=>
    cases hwi with
    | nil=>rw[oJ] at hz;cases hz
    | cons c u hwi'=>
     rw[iL] at hz;injection hz with hyx hrest
     injection hyx with hy hx
     subst hy hx;rw[Vl] at hR;simp only[aR] at hlen;obtain ⟨e,he,hiff⟩:=Vj A.in1 ⟨hp,g,d,tk,os⟩ a t c u;refine aG (he prog w _ _ ?_);cases e with
     | true=>
      rw[if_pos (hiff.mp rfl)] at hR
      wp_walk
      exact ⟨rfl,rfl,_,_,_,_,hrest,hvi',hwi',Ze,hR⟩
     | false=>
      rw[if_neg (fun q=>absurd (hiff.mpr q) cO)] at hR;have hri:=Abh A.in1 ⟨hp,g,d,tk,os⟩ a t c u prog w
      wp_walk using hri
      exact ⟨_,rfl,by simpa using hR⟩
  case fin=>
   rintro ⟨b1,b2⟩ s' ⟨hb',rfl,vs,ws,ns',ms',hz,hvi,hwi,hlen,hR⟩;simp only at hb';subst hb';have hv:Hy ns' ms'=decide (items.size < items2.size):=by
    cases hvi with
    | nil=>
     cases hwi with
     | nil=>
      simp only[bG] at hlen;rw[W8];exact (decide_eq_false Ze).symm
     | cons c u hw=>
      simp only[bG,aR] at hlen;rw[Vp];exact (decide_eq_true Ze).symm
    | cons a t hv=>
     cases hwi with
     | nil=>
      simp only[bG,aR] at hlen;rw[Wk];exact (decide_eq_false Ze).symm
     | cons c u hw=>
      rw[iL] at hz;cases hz
   rw[hv] at hR
   wp_walk
   exact ⟨_,rfl,by simpa[lZ] using hR⟩
  case h=>
   exact ⟨rfl,rfl,items.toList,items2.toList,ns,ms,rfl,hi,hj,Ze,h⟩
end
variable {Q:aJ->aO->Prop}
section
variable {prog:cL}{w:dC}{A:dN}{E:aJ->aO->Prop}{s:aO}
theorem V3{l b:Addr}{items items2:bv}{ns ms:Λ}(hl:oY s.heap l items)(hb:oY s.heap b items2)(hi:iQ items.toList ns)(hj:iQ items2.toList ms)
  (hu:A.units < cLine) (h:Q (.bool (Hy ns ms)) s):cm mm A (dY .Lt cy gv) Q E:=by
 obtain ⟨⟨cls,dd,data,sl⟩,ho,hc,n,hd⟩:=id hl;obtain ⟨⟨cls2,dd2,data2,sl2⟩,ho2,hc2,n2,hd2⟩:=id hb;simp only at hc hd hc2 hd2;subst hc hd hc2 hd2;exact qI (op:=.Lt) ⟨_,ho,rfl⟩ ⟨_,ho2,rfl⟩ rB qJ (pT _ _) (Xm l b items items2 n n2 dd dd2 sl sl2 ns ms hi hj)
  ⟨ho,ho2,show qE (Hy ns ms)≠rH/\Q (.bool (Hy ns ms)) s from ⟨(fun x=>nomatch x),h⟩⟩ hu
theorem Aqu{t b:Addr}{vs ws:ac}(ht:oY s.heap t vs.toArray)(hb:oY s.heap b ws.toArray)(hv:vs≠[])
  (h1:ws=[]->Q (.ref t) s) (h2:ws≠[]->Q bq { s with heap:=s.heap.push { cls:=.type "tuple",data:=.seq (vs++ws).toArray } })
  (hsz:vs.length+ws.length<=sizeLine):cm mm A (gJ .Add (.ref t) gv) Q E:=by
 obtain ⟨⟨cls,dd,data,sl⟩,ho,hc,n,hd⟩:=id ht;obtain ⟨⟨cls2,dd2,data2,sl2⟩,ho2,hc2,n2,hd2⟩:=id hb;simp only at hc hd hc2 hd2;subst hc hd hc2 hd2;have e:vs.toArray++ws.toArray=(vs++ws).toArray:=Za
 by_cases hw:ws=[]
 ·exact tK ⟨_,ho,rfl⟩ ⟨_,ho2,rfl⟩ pV sI lJ lD (kO _ _)
   (tuple_addW1 t b vs.toArray ws.toArray n n2 dd dd2 sl sl2 (by simpa using hv) (by simp[hw])) ⟨ho,ho2,h1 hw⟩
 ·refine tK ⟨_,ho,rfl⟩ ⟨_,ho2,rfl⟩ pV sI lJ lD (kO _ _)
   (tuple_addW2 t b vs.toArray ws.toArray n n2 dd dd2 sl sl2 (by simpa using hv) (by simpa using hw) (by rw[aT,aT];exact hsz)) ⟨ho,ho2,?_⟩
  rw[e];exact h2 hw
noncomputable def sIx(n d:Nat):bf->Nat
 | none=>d
 | some v=>if v < 0 then (v+(n:Int)).toNat else min v.toNat n
theorem Al2(n d:Nat):sIx n d ψ=d:=rfl
theorem Ahg(n d k:Nat):sIx n d (ξ (k:Int))=min k n:=by
 show (if (k:Int) < 0 then ((k:Int)+(n:Int)).toNat else min (k:Int).toNat n)=min k n;rw[if_neg Ze,eE]
theorem Au3(n d:Nat)(hd:d<=n)(o:bf):sIx n d o<=n:=by
 cases o with
 | none=>exact hd
 | some v=>
  show (if v < 0 then (v+(n:Int)).toNat else min v.toNat n)<=n;by_cases hv:v < 0
  ·rw[if_pos hv];omega
  ·rw[if_neg hv];exact Nat.min_le_right _ _
theorem Agt(v:Int)(n d:Nat):(if v < 0 then max (v+(n:Int)) 0 else min v (n:Int))=((sIx n d j3:Nat):Int):=by
 show (if v < 0 then max (v+(n:Int)) 0 else min v (n:Int))=(((if v < 0 then (v+(n:Int)).toNat else min v.toNat n):Nat):Int);by_cases hv:v < 0
 ·simp only[if_pos hv];omega
 ·simp only[if_neg hv];omega
theorem Aes(lo hi:bf)(n:Nat):kG lo hi 1 (n:Int)=(((sIx n 0 lo:Nat):Int),((sIx n n hi:Nat):Int)):=by
 have h1:¬ ((1:Int) < 0):=Ze
 unfold kG;simp only[h1,if_false];refine xB ?_ ?_
 ·cases lo with
  | none=>rfl
  | some v=>exact Agt v n 0
 ·cases hi with
  | none=>rfl
  | some v=>exact Agt v n n
theorem Afj(i j:Nat):iS (i:Int) (j:Int) 1=j - i:=by
 unfold iS;have h1:(1:Int) > 0:=Ze
 simp only[h1,if_true,Int.ediv_one];split <;> omega
theorem Wm{v:aJ}{o:bf}{Q:bf->aO->Prop}(p:qK v o)(h:Q o s):cm mm A (gZ.Slice.slicePartIndex v) Q E:=by
 cases p with
 | none=>exact slicePart_none h
 | int i t=>exact slicePart_int h
theorem K9{sl:Addr}{vl vu:aJ}{lo hi:bf}{n:Nat}{Q:Int×Int×Nat->aO->Prop}(hs:s.heap.IsSliceOf sl vl vu .none)(pl:qK vl lo)(pu:qK vu hi)
  (h:Q (((sIx n 0 lo:Nat):Int),1,sIx n n hi - sIx n 0 lo) s):cm mm A (oK (.ref sl) (pure (n:Int))) Q E:=by
 obtain ⟨os,hos,hcs,hds⟩:=id hs;unfold oK gZ.Slice.sliceFields;refine aG (aG (eT hos hds (x:=vl) rfl (aG (eT hos hds (x:=vu) rfl (aG (eT hos hds (x:=.none) rfl (aU ?_)))))));refine aG (slicePart_none ?_);show cm _ _ (if ((1:Int) == 0)=true then _ else _) _ _;rw[if_neg Zb];refine aG (Wm pl (aG (Wm pu (aG (aU ?_)))));show cm _ _ (match kG lo hi 1 (n:Int) with | (lo,hi)=>pure (lo,(1:Int),iS lo hi 1)) _ _;rw[Aes lo hi n];show cm _ _ (pure (((sIx n 0 lo:Nat):Int),(1:Int),iS ((sIx n 0 lo:Nat):Int) ((sIx n n hi:Nat):Int) 1)) _ _;rw[Afj];exact aU h
theorem Am3(xs:bv)(i k:Nat):((bJ k).filterMap fun (m:Nat)=>xs[((i:Int)+(m:Int) * 1).toNat]?).toArray=((xs.toList.drop i).take k).toArray:=by
 have e:(fun (m:Nat)=>xs[((i:Int)+(m:Int) * 1).toNat]?)=fun m=>xs[i+m]?:=by
  funext m
  have:((i:Int)+(m:Int) * 1).toNat=i+m:=Ze
  rw[this]
 rw[e];have:=pick_run xs i k;rw[List.filterMap_map] at this;have e2:((fun x=>xs[x]?)∘fun x=>i+x)=fun m=>xs[i+m]?:=rfl
 rw[e2] at this;rw[this]
theorem Q2{t sl:Addr}{items:bv}{vl vu:aJ}{lo hi:bf}(ht:oY s.heap t items)(hs:s.heap.IsSliceOf sl vl vu .none)(pl:qK vl lo)(pu:qK vu hi)
  (hw:¬ (dz 0 lo=0/\qm hi=items.size))
  (h:Q bq { s with heap:=s.heap.push { cls:=.type "tuple",data:=.seq ((items.toList.drop (dz 0 lo)).take (qm hi - dz 0 lo)).toArray } })
  (hsz:items.size<=sizeLine):cm mm A (getItem (.ref t) (.ref sl)) Q E:=by
 have htake:sizeOk (.seq ((items.toList.drop (dz 0 lo)).take (qm hi - dz 0 lo)).toArray):=by
  show ((items.toList.drop (dz 0 lo)).take (qm hi - dz 0 lo)).toArray.size<=sizeLine;rw[aT,eW,pW,cR];omega
 have hj:qm hi<=items.size:=Au3 _ _ be hi;obtain ⟨os,hos,hcs,hds⟩:=id hs;have hTs:s.TypeIs (.ref sl) "slice" := ⟨os,hos,hcs⟩;unfold getItem
 try with_reducible refine dP ?_
 first | refine aG (aU ?_) | skip
 refine aG (tL ht.typeIs Zb ?_);refine aG (eR (name:=cH "__getitem__") ht.typeIs dZ
  (eX dZ ht.typeIs sB ?_ (sT _ _)))
 show cm _ _ (oM (.ref t) >>= _) _ _;refine aG (tupleItemsOf_ ht ?_);refine aG (nS hTs ?_);rw[if_pos Zb];refine aG (K9 hs pl pu ?_);have hno:¬ (Zp=true):=by
  intro q;rw[cB,cB] at q;have q1:((sIx items.size 0 lo:Nat):Int)=0:=eq_of_beq q.1.1;have q2:qm hi - dz 0 lo=items.size:=eq_of_beq q.2;exact hw ⟨Ze,Ze⟩
 show cm _ _ (if Zp=true then _ else _) _ _;rw[if_neg hno,Am3]
 first
  | exact aG (m:=jG _) (fB (aU (gu _ (aU h))) htake)
  | exact aG (m:=jG _) (fB (aG (aU (aU (gu _ (aU h))))) htake)
  | exact aG (aG (m:=jG _) (fB (aU (aU (gu _ (aU h)))) htake))
  | exact aG (aG (m:=jG _) (fB (aU (gu _ (aU h))) htake))
end
end HT
namespace L2
open PySem PySem.Spec PyProof.Rows
abbrev TO:=St->Hp->(bf->Hp->Prop)->Prop
def PO(X:Cx)(e:Option Expr)(t:TO):Prop:=
 ∀ (pins:List (Addr×Obj)) (s:aO) (σ:St) (H:Hp) (Q:bf->Hp->Prop),io->t σ H Q ->
  wpAny bj X.A (evalPart e X.env) (fun u s'=>∃ o H',f8 H' s'/\qK u o/\Q o H') X.xe s
def Arh:TO:=fun _ H Q=>Q ψ H
def Ax2(t:TE):TO:=fun σ H Q=>t σ H fun x H1=>∃ i,x = ce/\Q (ξ i) H1
theorem E3{ns:Λ}:∀ {us:ac},ja fu->iQ us ns:=by
 induction ns with
 | nil=>intro us r;rw[bY] at r;cases r;exact .nil
 | cons n ns ih=>
  intro us r;rw[aQ] at r;cases r with
  | cons r1 r2=>
   obtain ⟨t,e⟩:=r1;subst e;exact .cons n t (ih r2)
variable {X:Cx}{xs:ε}{us:ac}
section
variable {e:Expr}{te:TE}{lo hi:Option Expr}{tl th:TO}{pos p2:Pos}
theorem Ap3:PO X ψ Arh:=by
 intro pins s σ H Q I h;rw[evalPart_none];exact aU ⟨ψ,H,I,.none,h⟩
theorem Aqt(h:l4 e te):PO X (ξ e) (Ax2 te):=by
 intro pins s σ H Q I hw;rw[evalPart_some];refine thn (h pins s σ H _ I hw) fun u s1 zz=>?_
 obtain ⟨x,H1,I1,r1,q1⟩:=zz;obtain ⟨i,rfl,q⟩:=q1;obtain ⟨t,rfl⟩:=r1;exact ⟨ξ i,H1,I1,re i,q⟩
def SlR(X:Cx)(r:V->bf->bf->Hp->VK->Prop):Prop:=
 ∀ (pins:List (Addr×Obj)) (s:aO) (σ:St) (H:Hp) (x:V) (v vl vu:aJ) (lo hi:bf) (sl:Addr) (Q:VK),io->RelV x v->s.heap.IsSliceOf sl vl vu .none->qK vl lo->qK vu hi->r x lo hi H Q ->
  ∃ T id,typeLookup (.type T) "__getitem__" = pure (ξ (.builtin id))/\s.TypeIs v T/\cm bj X.A (getItem v (.ref sl)) Zu X.xe
theorem SlR.or{r r':V->bf->bf->Hp->VK->Prop}(h:SlR X r)(h':SlR X r'):SlR X (fun x lo hi H Q=>r x lo hi H Q\/r' x lo hi H Q):=by
 intro pins s σ H x v vl vu lo hi sl Q I rx hs pl pu q;rcases q with q | q
 ·exact h pins s σ H x v vl vu lo hi sl Q I rx hs pl pu q
 ·exact h' pins s σ H x v vl vu lo hi sl Q I rx hs pl pu q
def tSl(r:V->bf->bf->Hp->VK->Prop)(te:TE)(tl th:TO):TE:=fun σ H Q=>te σ H fun x H1=>tl σ H1 fun l H2=>th σ H2 fun u H3=>r x l u H3 Q
theorem Amy{r:V->bf->bf->Hp->VK->Prop}(hr:SlR X r)(he:l4 e te)(hl:PO X lo tl)(hu:PO X hi th):l4 (nk e (.Slice lo hi ψ p2)) (tSl r te tl th):=by
 intro pins s σ H Q I h;refine xC (thn (he pins s σ H _ I h) fun v s1 zz=>?_);obtain ⟨x,H1,I1,r1,q1⟩:=zz;refine wpAny_Slice (thn (hl pins s1 σ H1 _ I1 q1) fun vl s2 ⟨l,H2,I2,pl,q2⟩=>thn (hu pins s2 σ H2 _ I2 q2) fun vu s3 zz=>?_);obtain ⟨u,H3,I3,pu,q3⟩:=zz;rw[evalPart_none];refine aU ?_;have I4:f8 H3 { s3 with heap:=s3.heap.push { cls:=.type "slice",data:=.fields #[vl,vu,.none] } }:=I3.kept (t':=s3.toks) fun b ob q=>jh q
 obtain ⟨T,id,hT,ht,hg⟩:=hr pins { s3 with heap:=s3.heap.push { cls:=.type "slice",data:=.fields #[vl,vu,.none] } } σ H3 x v vl vu l u s3.heap.objs.size Q I4 r1 (Heap.IsSliceOf.new ..) pl pu q3;show wpAny bj X.A (subscriptTail e (.Slice lo hi ψ p2) v (.ref s3.heap.objs.size)) Zu X.xe { s3 with heap:=s3.heap.push { cls:=.type "slice",data:=.fields #[vl,vu,.none] } };exact tail_any (ops:=[.ref s3.heap.objs.size,v]) ht hT hg Zf
def Ab3(xs:ε)(lo hi:bf):ε:=(xs.drop (ju 0 lo)).take (ju xs.length hi - ju 0 lo)
theorem Sh(xs:ε)(lo hi:bf):(Ab3 xs lo hi).length<=xs.length:=by
 unfold Ab3;rw[eW,pW];omega
def Azh(K:aK):V->bf->bf->Hp->VK->Prop:=fun x lo hi H Q=>∃ a xs,x = bp/\lv H a xs /\
 ¬ (ju 0 lo=0/\ju xs.length hi=xs.length)/\∀ p,qq=ψ->Q d7 (f7 p (.tup (Ab3 xs lo hi)))
theorem Aur:SlR X (Azh X.K):=by
 intro pins s σ H x v vl vu lo hi sl Q I rx hs pl pu h;obtain ⟨a,xs,rfl,hx,hw,q⟩:=h;cases rx;obtain ⟨its,r,ht,hz⟩:=I.tuple hx;have hlen:its.toArray.size=xs.length:=by rw[aT];exact r.length.symm
 refine ⟨"tuple",_,dZ.lookup,ht.typeIs,?_⟩;refine HT.Q2 ht hs pl pu (by rw[hlen];exact hw) ?_ (by rw[hlen];exact hz);rw[hlen];refine ck bq _ (I.laid (t':=s.toks) (o:=.tup (Ab3 xs lo hi)) (fun b ob q=>jh q) be ?_) (q _ j5);exact ⟨cC (Sh xs lo hi) hz,_,(r.drop (ju 0 lo)).take (ju xs.length hi - ju 0 lo),TupN.new _ _⟩
def Asv(K:aK):R2:=fun x y H Q=>∃ a b xs ys,x = bp/\y = gv/\lv H a xs/\lv H b ys/\xs≠[]/\xs.length+ys.length<=sizeLine /\
 (ys=[]->Q bp H)/\(ys≠[]->∀ p,qq=ψ->Q d7 (f7 p (.tup (xs++ys))))
theorem Vals.nil_iff(r:ja xs):us=[]↔xs=[]:=by
 cases r with
 | nil=>simp
 | cons _ _=>simp
theorem Apz:OpR X (gJ .Add) (Asv X.K):=by
 intro pins s σ H x y v u Q I rx ry h;obtain ⟨a,b,xs,ys,rfl,rfl,ha,hb,hx,hz,q1,q2⟩:=h;cases rx;cases ry;obtain ⟨its,r1,p1,_⟩:=I.tuple ha;obtain ⟨its2,r2,p2,_⟩:=I.tuple hb;refine HT.Aqu p1 p2 (fun z=>hx (r1.nil_iff.mp z)) (fun z=>ck bp H I (q1 (r2.nil_iff.mp z))) (fun z=>?_) (by rw[<- r1.length,<- r2.length];exact hz);refine ck bq _ (I.laid (t':=s.toks) (o:=.tup (xs++ys)) (fun b ob q=>jh q) be ?_) (q2 (fun w=>z (r2.nil_iff.mpr w)) _ j5);exact ⟨by rw[cG];exact hz,_,r1.append r2,TupN.new _ _⟩
end
noncomputable def ixN(n:Nat)(i:Int):Option Nat:=if 0<=i then (if i < n then ξ i.toNat else ψ) else if -(n:Int)<=i then ξ (i+n).toNat else ψ
def atI{α:Type}(xs:List α)(i:Int):Option α:=(ixN xs.length i).bind fun j=>xs[j]?
variable {n:Nat}
theorem Ag5{i:Int}{j:Nat}(h:ixN n i=ξ j):seqIndex? i n=ξ j/\j < n/\-(n:Int)<=i/\i < n:=by
 unfold ixN at h;by_cases h0:0<=i
 ·rw[if_pos h0] at h;by_cases h1:i < n
  ·rw[if_pos h1] at h;have e:i.toNat=j:=bQ h;exact ⟨by rw[vZ h0 h1,e],Ze,Ze,h1⟩
  ·rw[if_neg h1] at h;cases h
 ·rw[if_neg h0] at h;by_cases h1:-(n:Int)<=i
  ·rw[if_pos h1] at h;have e:(i+n).toNat=j:=bQ h;exact ⟨by rw[tM Ze h1,e],Ze,h1,Ze⟩
  ·rw[if_neg h1] at h;cases h
theorem Aaf{α:Type}{xs:List α}{i:Int}{v:α}(h:atI xs i=j3):∃ j,seqIndex? i xs.length=ξ j/\xs[j]? = j3/\j < xs.length/\-(xs.length:Int)<=i/\i < xs.length:=by
 unfold atI at h;cases e:ixN xs.length i with
 | none=>rw[e] at h;cases h
 | some j=>
  rw[e] at h;obtain ⟨h1,h2,h3,h4⟩:=Ag5 e;exact ⟨j,h1,h,h2,h3,h4⟩
theorem atI_last{α:Type}(xs:List α)(v:α):atI (xs++[v]) (-1)=j3:=by
 have hl:(xs++[v]).length=xs.length+1:=Za
 have e:ixN (xs++[v]).length (-1)=ξ xs.length:=by
  unfold ixN;rw[hl,if_neg Zb,if_pos Ze]
  congr 1
  omega
 unfold atI;rw[e];show (xs++[v])[xs.length]? = j3;simp
def Ahm(b:Expr):Prop:=∀ o i,subscripted b false o i=operate [o,i] (getItem o i)
def IxR(X:Cx)(r:R2):Prop:=
 ∀ (value slice:Expr) (pins:List (Addr×Obj)) (s:aO) (σ:St) (H:Hp) (x y:V) (v u:aJ) (Q:VK),io->RelV x v->mi y->r x y H Q ->
  subscripted slice false v u=operate [v,u] (getItem v u)->cm bj X.A (subscriptTail value slice v u) Zu X.xe
def MtR(X:Cx)(id:String)(r:V->ε->Hp->VK->Prop):Prop:=
 ∀ (pins:List (Addr×Obj)) (s:aO) (σ:St) (H:Hp) (x:V) (xs:ε) (v:aJ) (us:ac) (Q:VK),io->RelV x v->ja xs->r x xs H Q ->
  wpAny bj X.A (call (.builtin id) (v::us)) Zu X.xe s
variable {v:aJ}{pins:List (Addr×Obj)}{σ:St}{H:Hp}{s:aO}{its:ac}{A:dN}{y x:V}
section
variable {a b:Expr}{ta tb:TE}{pos:Pos}
theorem IxR.or{r r':R2}(h:IxR X r)(h':IxR X r'):IxR X (fun x y H Q=>r x y H Q\/r' x y H Q):=by
 intro value slice pins s σ H x y v u Q I rx ry q hs;rcases q with q | q
 ·exact h value slice pins s σ H x y v u Q I rx ry q hs
 ·exact h' value slice pins s σ H x y v u Q I rx ry q hs
theorem MtR.or{id:String}{r r':V->ε->Hp->VK->Prop}(h:MtR X id r)(h':MtR X id r'):MtR X id (fun x xs H Q=>r x xs H Q\/r' x xs H Q):=by
 intro pins s σ H x xs v us Q I rx rs q;rcases q with q | q
 ·exact h pins s σ H x xs v us Q I rx rs q
 ·exact h' pins s σ H x xs v us Q I rx rs q
theorem Ayi{r:R2}(hr:IxR X r)(ha:l4 a ta)(hb:l4 b tb)(hs:Ahm b):l4 (nk a b) (tOp r ta tb):=by
 intro pins s σ H Q I h;exact xC (Awh ha hb I h fun v u s2 x y H2 I2 rx ry q=>hr a b pins s2 σ H2 x y v u Q I2 rx ry q (hs _ _))
def Ay8(K:aK):R2:=fun x y H Q=>∃ p xs i v,x = d7/\y = ce/\qk K p xs/\atI xs i=j3/\Q v H
def Aw6(K:aK):R2:=fun x y H Q=>∃ p xs i v,x = d7/\y = ce/\lv H p xs/\atI xs i=j3/\Q v H
def Axf:R2:=fun x y H Q=>∃ z i c,x = .str z/\y = ce/\z.length<=sizeLine/\atI z.cps.toList i=fg/\Q (.str ⟨#[c]⟩) H
theorem Ap6:IxR X (Ay8 X.K):=by
 intro value slice pins s σ H x y v u Q I rx ry h hs;obtain ⟨p,xs,i,z,rfl,rfl,hq,he,q⟩:=h;cases rx;obtain ⟨t,rfl⟩:=ry;obtain ⟨its,r,pl,hz⟩:=oa;obtain ⟨j,h1,h2,h3,h4,h5⟩:=Aaf he;obtain ⟨w,ew,rw'⟩:=r.get h2;have hl:=r.length;have hn:=Rv;have fin:EP X pins σ Q w s:=⟨z,H,I,rw',q⟩;by_cases h0:0<=i
 ·have hj:i.toNat=j:=by
   rw[vZ h0 h5] at h1;exact bQ h1
  exact item_listR pl.isList h0 Ze (by rw[hj];simpa using ew) fin hs
 ·have hj:(i+(its.toArray.size:Int)).toNat=j:=by
   rw[tM Ze h4] at h1;rw[aT,<- hl];exact bQ h1
  exact qL (x:=w) pl.isList.typeIs tN.lookup
   (wpAny_getItem_list_neg (Q:=fun r s'=>r=w/\EP X pins σ Q r s') pl.isList Ze (by rw[aT] <;> omega) Ze (by rw[hj];simpa using ew) ⟨rfl,fin⟩) hs
theorem Avt:IxR X (Aw6 X.K):=by
 intro value slice pins s σ H x y v u Q I rx ry h hs;obtain ⟨p,xs,i,z,rfl,rfl,hq,he,q⟩:=h;cases rx;obtain ⟨t,rfl⟩:=ry;obtain ⟨its,r,pl,hz⟩:=I.tuple hq;obtain ⟨j,h1,h2,h3,h4,h5⟩:=Aaf he;obtain ⟨w,ew,rw'⟩:=r.get h2;have hl:=r.length;have hn:=Rv;have fin:EP X pins σ Q w s:=⟨z,H,I,rw',q⟩;exact qL (x:=w) pl.typeIs slot_tuple_getitem.lookup
  (getItem_tuple (j:=j) (Q:=fun r s'=>r=w/\EP X pins σ Q r s') pl Ze Ze (by rw[aT,<- hl];exact h1) (by simpa using ew) ⟨rfl,fin⟩) hs
theorem Avc:IxR X Axf:=by
 intro value slice pins s σ H x y v u Q I rx ry h hs;obtain ⟨z,i,c,rfl,rfl,hz,he,q⟩:=h;obtain ⟨t,rfl⟩:=rx;obtain ⟨t',rfl⟩:=ry;obtain ⟨j,h1,h2,h3,h4,h5⟩:=Aaf he;have hl:z.cps.toList.length=z.length:=by simp[xD]
 rw[hl] at h1 h4 h5;have hn:=Rv;exact tail_any (xE s z t) slot_str_getitem.lookup (getItem_str (c:=c) (by
  have e1:decide (i < -(2 ^ 63:Int))=false:=decide_eq_false Ze;have e2:decide (i ≥ 2 ^ 63)=false:=decide_eq_false Ze;rw[e1,e2,Bool.or_false]) (by rw[h1];simpa using h2) ⟨.str ⟨#[c]⟩,H,kt,jk,q⟩) hs
def rIx(K:aK):R2:=fun x y H Q=>Ay8 K x y H Q\/Aw6 K x y H Q\/Axf x y H Q
theorem Aw:IxR X (rIx X.K):=Ap6.or (Avt.or Avc)
theorem Aej(its:ac)(n j:Nat)(u:aJ):bR (·.setIfInBounds j u) { cls:=.type "list",data:=.seq its.toArray n } = { cls:=.type "list",data:=.seq (its.set j u).toArray n }:=by
 simp[bR]
theorem Inv.lst{p:Addr}(I:io)(h:qq=Ξ xs) :
  ∃ (its:ac) (n:Nat),Vals xs its/\s.heap.get? p=ξ { cls:=.type "list",data:=.seq its.toArray n }/\xs.length<=sizeLine:=by
 obtain ⟨z,its,n,r,e⟩:=I.hok p _ h;exact ⟨its,n,r,e,z⟩
theorem Inv.lstUpd{p:Addr}{ys:ε}{its':ac}{n':Nat}{f:Obj->Obj}(I:io)(h:qq=Ξ xs)
  (ho:s.heap.get? p=ξ { cls:=.type "list",data:=.seq its.toArray n }) (hf:f { cls:=.type "list",data:=.seq its.toArray n } = { cls:=.type "list",data:=.seq its'.toArray n' }) (r:Vals ys its') (hz:ys.length<=sizeLine) (t:Nat) :
  Inv X pins σ (cb H p ys) { s with heap:=s.heap.update p f,toks:=t }:=by
 have e:(s.heap.update p f).get? p=ξ { cls:=.type "list",data:=.seq its'.toArray n' }:=by
  rw[mD f ho (by rw[hf] <;> rfl),hf]
 refine I.write (x:=p) (e:=p) (by rw[h];trivial) jc (fun b u hb q=>(qM _ _ (eJ hb)).trans q) ⟨_,e⟩ ?_;exact ⟨hz,its',n',r,e⟩
def Axn:V->V->V->Hp->(Hp->Prop)->Prop:=fun o i v H Q=>∃ p xs k j,o = d7/\i = .int k/\qq=Ξ xs/\ixN xs.length k=ξ j/\Q (cb H p (xs.set j v))
theorem An9:Azd X Axn:=by
 intro pins s σ H o i v ov iv u Q I ro ri rv h;obtain ⟨p,xs,k,j,rfl,rfl,hp,hj,q⟩:=h;cases ro;obtain ⟨t,rfl⟩:=ri;obtain ⟨its,n,r,ho,hz⟩:=I.lst hp;obtain ⟨h1,h2,h3,h4⟩:=Ag5 hj;have hl:=r.length;have hn:=Rv;have I':f8 (cb H p (xs.set j v)) { s with heap:=s.heap.update p (bR (·.setIfInBounds j u)) }:=
  I.lstUpd hp ho (Aej its n j u) (r.set rv j) (by rw[gF];exact hz) s.toks
 by_cases h0:0<=k
 ·have hk:k.toNat=j:=by
   rw[vZ h0 h4] at h1;exact bQ h1
  exact PySem.W.ki_setAt ho h0 Ze (by rw[aT,<- hl];exact h4) (by rw[hk];exact ⟨_,I',q⟩)
 ·have hk:(k+(its.toArray.size:Int)).toNat=j:=by
   rw[tM Ze h3] at h1;rw[aT,<- hl];exact bQ h1
  exact PySem.W.ki_setBack ho Ze (by rw[aT,<- hl];exact h3) Ze (by rw[hk];exact ⟨_,I',q⟩)
theorem Ah5(i:Int)(n:Nat):max 0 (min (if i < 0 then i+(n:Int) else i) (n:Int))=(((if i < 0 then (i+(n:Int)).toNat else min i.toNat n):Nat):Int):=by
 by_cases h:i < 0
 ·have hm:i+(n:Int)<=n:=Ze
  rw[if_pos h,if_pos h,wC hm,Int.ofNat_toNat,Int.max_comm]
 ·obtain ⟨k,rfl⟩:=Int.eq_ofNat_of_zero_le (Int.not_lt.mp h);rw[if_neg h,if_neg h,eE];rcases Nat.le_total k n with hk | hk
  ·rw[qU hk,wC (yB.mpr hk),vH (sV k)]
  ·rw[Nat.min_eq_right hk,Int.min_eq_right (yB.mpr hk),vH (sV n)]
theorem Aar(lo hi:bf)(n:Nat):(sliceBounds lo hi ψ n).1=((HT.sIx n 0 lo:Nat):Int)/\(sliceBounds lo hi ψ n).2.1=((HT.sIx n n hi:Nat):Int)/\(sliceBounds lo hi ψ n).2.2=1:=by
 refine ik ?_ ?_
 ·cases lo with
  | none=>rfl
  | some i=>exact Ah5 i n
 ·cases hi with
  | none=>rfl
  | some i=>exact Ah5 i n
theorem W6(its:ac)(lo hi:bf):slicePick its.toArray lo hi ψ=((its.drop (HT.sIx its.length 0 lo)).take (HT.sIx its.length its.length hi - HT.sIx its.length 0 lo)).toArray:=by
 obtain ⟨h1,h2,h3⟩:=Aar lo hi its.toArray.size;unfold slicePick;rw[h1,h2,h3];simp only[sliceRange_one,pick_run,aT] <;> rfl
def Ayh(K:aK):V->bf->bf->Hp->VK->Prop:=fun x lo hi H Q=>∃ a xs,x = bp/\SqL K H a xs/\∀ p,qq=ψ->Q d7 (cb H p (Ab3 xs lo hi))
theorem Ao9:SlR X (Ayh X.K):=by
 intro pins s σ H x v vl vu lo hi sl Q I rx hs pl pu h;obtain ⟨a,xs,rfl,hx,q⟩:=h;cases rx;obtain ⟨its,r,ht,hz⟩:=I.list hx;have hlen:=r.length;refine ⟨"list",_,tN.lookup,ht.isList.typeIs,?_⟩;refine wpAny_getItem_list_slice ht.isList hs pl pu .none Za ?_ (by rw[aT] <;> omega);rw[W6,<- hlen];refine ck bq _ (I.laid (t':=s.toks) (o:=.lst (Ab3 xs lo hi)) (fun b ob q=>jh q) be ?_) (q _ j5);exact ⟨cC (Sh xs lo hi) hz,_,0,(r.drop (ju 0 lo)).take (ju xs.length hi - ju 0 lo),ki⟩
noncomputable def Pn:V->Bool
 | .non=>true
 | .bl _=>true
 | .int _=>true
 | .str _=>true
 | _=>false
noncomputable def eqV:V->V->Bool
 | .non,.non=>true
 | .bl a,.bl b=>a == b
 | .bl a,.int b=>(if a then 1 else 0) == b
 | .int a,.bl b=>a == (if b then 1 else 0)
 | .int a,.int b=>a == b
 | .str a,.str b=>a == b
 | _,_=>false
theorem Au1{u:aJ}(ry:mi y)(rx:RelV x v)(fy:Pn y=true)(fx:Pn x=true):sS A s u v (eqV y x):=by
 cases y with
 | non=>
  cases ry;cases x with
  | non=>cases rx;exact wD _
  | bl b=>cases rx;exact sS.none_bool b
  | int b=>obtain ⟨t,rfl⟩:=rx;exact sS.none_int b t
  | str b=>obtain ⟨t,rfl⟩:=rx;exact sS.none_str b t
  | _=>exact absurd (show false=true from fx) cO
 | bl a=>
  cases ry;cases x with
  | non=>cases rx;exact sS.bool_none a
  | bl b=>cases rx;exact sS.bool_bool a b
  | int b=>obtain ⟨t,rfl⟩:=rx;exact sS.bool_int a b t
  | str b=>obtain ⟨t,rfl⟩:=rx;exact sS.bool_str a b t
  | _=>exact absurd (show false=true from fx) cO
 | int a=>
  obtain ⟨t',rfl⟩:=ry;cases x with
  | non=>cases rx;exact sS.int_none a t'
  | bl b=>cases rx;exact sS.int_bool a t' b
  | int b=>obtain ⟨t,rfl⟩:=rx;exact oH a t' b t
  | str b=>obtain ⟨t,rfl⟩:=rx;exact sM a t' b t
  | _=>exact absurd (show false=true from fx) cO
 | str a=>
  obtain ⟨t',rfl⟩:=ry;cases x with
  | non=>cases rx;exact sS.str_none a t'
  | bl b=>cases rx;exact sS.str_bool a t' b
  | int b=>obtain ⟨t,rfl⟩:=rx;exact sN a t' b t
  | str b=>obtain ⟨t,rfl⟩:=rx;exact sS.str_str a t' b t
  | _=>exact absurd (show false=true from fx) cO
 | _=>exact absurd (show false=true from fy) cO
def eqU(x:V)(u:aJ):Bool:=match u with
 | .none=>eqV .non x
 | .bool b=>eqV (.bl b) x
 | .int i _=>eqV (ce) x
 | .str z _=>eqV (.str z) x
 | _=>false
theorem Alz{u:aJ}(r:mi y)(f:Pn y=true):eqU x u=eqV y x:=by
 cases y with
 | non=>cases r;rfl
 | bl b=>cases r;rfl
 | int i=>obtain ⟨t,rfl⟩:=r;rfl
 | str z=>obtain ⟨t,rfl⟩:=r;rfl
 | _=>exact absurd (show false=true from f) cO
theorem Tr(h:ja xs)(f:xs.all Pn=true):us.any (eqU x)=xs.any fun y=>eqV y x:=by
 induction h with
 | nil=>rfl
 | cons r t ih=>
  rw[jH,cB] at f;rw[iH,iH,Alz r f.1,ih f.2]
theorem Nn(rx:RelV x v)(fx:Pn x=true):∀ {xs:ε} {us:ac},ja xs->xs.all Pn=true->∀ u∈us,sS A s u v (eqU x u)
 | _,_,.nil,_=>fun u hu=>by cases hu
 | y::xs,u::us,.cons r t,f=>fun u' hu=>by
  rw[jH,cB] at f;rcases bE.mp hu with rfl | hu
  ·rw[Alz r f.1];exact Au1 r rx f.1 fx
  ·exact Nn rx fx t f.2 u' hu
def inV(x:V)(xs:ε):Bool:=xs.any fun y=>eqV y x
def rIn(K:aK)(neg:Bool):R2:=fun x y H Q=>∃ p xs,y = d7/\(qk K p xs\/lv H p xs)/\Pn x=true/\xs.all Pn=true/\Q (.bl (if neg then !inV x xs else inV x xs)) H
theorem Aki:m9 X .In (rIn X.K false):=by
 intro pins s σ H x y v u Q I rx ry h;obtain ⟨p,xs,rfl,hq,fx,fs,q⟩:=h;cases ry;rcases hq with hq | hq
 ·obtain ⟨its,r,pl,hz⟩:=oa;refine SeqAt.in_listAt (eqU x) pl.isList (fun w hw=>Nn rx fx r fs w (by simpa using hw)) (ck (.bl _) H I ?_);rw[show its.toArray.any (eqU x)=its.any (eqU x) by simp,Tr r fs];exact q
 ·obtain ⟨its,r,pl,hz⟩:=I.tuple hq;refine SeqAt.in_tupleAt (eqU x) pl (fun w hw=>Nn rx fx r fs w (by simpa using hw)) (ck (.bl _) H I ?_);rw[show its.toArray.any (eqU x)=its.any (eqU x) by simp,Tr r fs];exact q
theorem Y7:m9 X .NotIn (rIn X.K true):=by
 intro pins s σ H x y v u Q I rx ry h;obtain ⟨p,xs,rfl,hq,fx,fs,q⟩:=h;cases ry;rcases hq with hq | hq
 ·obtain ⟨its,r,pl,hz⟩:=oa;refine SeqAt.notIn_listAt (eqU x) pl.isList (fun w hw=>Nn rx fx r fs w (by simpa using hw)) (ck (.bl _) H I ?_);rw[show its.toArray.any (eqU x)=its.any (eqU x) by simp,Tr r fs];exact q
 ·obtain ⟨its,r,pl,hz⟩:=I.tuple hq;refine SeqAt.notIn_tupleAt (eqU x) pl (fun w hw=>Nn rx fx r fs w (by simpa using hw)) (ck (.bl _) H I ?_);rw[show its.toArray.any (eqU x)=its.any (eqU x) by simp,Tr r fs];exact q
theorem Aaq:m9 X .NotIn (fun x y H Q=>∃ i j,x = .str i/\y = .str j/\Q (.bl (!(!(fO j i 0 j.length 1).isEmpty))) H):=by
 intro pins s σ H x y v u Q I rx ry h;obtain ⟨i,j,rfl,rfl,q⟩:=h;obtain ⟨t,rfl⟩:=rx;obtain ⟨t',rfl⟩:=ry;exact notIn_str (ck (.bl _) H I q)
theorem CallR.or{f:aJ}{r r':ε->Hp->VK->Prop}(h:CallR X f r)(h':CallR X f r'):CallR X f (fun xs H Q=>r xs H Q\/r' xs H Q):=by
 intro pins s σ H xs us Q I rs q;rcases q with q | q
 ·exact h pins s σ H xs us Q I rs q
 ·exact h' pins s σ H xs us Q I rs q
theorem Bu:CallR X (.type "tuple") (fun xs H Q=>∃ p ys,xs=[d7]/\((SqL X.K H p ys/\∀ l,H l=ψ->Q cy (f7 l (.tup ys)))\/(SqT X.K H p ys/\Q d7 H))):=by
 intro pins s σ H xs us Q I r h;obtain ⟨p,ys,rfl,h⟩:=h;obtain ⟨u,rfl,rx⟩:=Ee r;cases rx;rcases h with ⟨hq,q⟩ | ⟨hq,q⟩
 ·obtain ⟨its,r',pl,hz⟩:=oa;have hlen:=r'.length;refine call_tuple_list pl.isList (fun h' kp=>?_) (by simp only[aT] <;> omega);have I1:im { s with heap:=h' }:=I.kept (t':=s.toks) kp;have I2:f8 (f7 h'.objs.size (.tup ys)) { s with heap:=h'.push { cls:=.type "tuple",data:=.seq its.toArray } }:=
   I1.laid (t':=s.toks) (fun b o e=>n8) be (show ObjOk X.prog X.w _ _ _ (.tup ys) from ⟨hz,its,r',TupN.new _ _⟩)
  exact ck (.ref h'.objs.size) _ I2 (q _ ma)
 ·obtain ⟨its,r',pl,hz⟩:=I.tuple hq;exact call_tuple_same pl (ck d7 H I q)
def tyV(K:aK)(T:String)(x:V)(H:Hp):Prop:=match x with
 | .str _=>T = "str"
 | .int _=>T = "int"
 | .ref p=>(T = "list" /\ ∃ xs,qk K p xs)\/(T = "tuple" /\ ∃ xs,lv H p xs) \/
   (T = "dict" /\ ((∃ kvs,qq=ξ fw)\/∃ kvs,qq=ξ (.dT kvs)))\/(T = "set" /\ ∃ S n,qq=ξ (.set S n))
 | _=>False
theorem Aum{T:String}(I:io)(r:RelV x v)(ty:tyV X.K T x H) :
  s.TypeIs v T/\∀ a,v = .ref a->∃ ob,qu=ξ ob/\ob.dict=ψ:=by
 cases x with
 | str z=>
  obtain ⟨t,rfl⟩:=r;cases (show T = "str" from ty);exact ⟨xE s z t,fun _ e=>nomatch e⟩
 | int i=>
  obtain ⟨t,rfl⟩:=r;cases (show T = "int" from ty);exact ⟨xF s i t,fun _ e=>nomatch e⟩
 | ref p=>
  cases r;rcases ty with ⟨rfl,xs,hq⟩ | ⟨rfl,xs,hq⟩ | ⟨rfl,hk⟩ | ⟨rfl,S,n,hk⟩
  ·obtain ⟨its,_,pl,_⟩:=oa;refine ⟨pl.isList.typeIs,fun a e=>?_⟩;cases e;obtain ⟨o,n,e,c,hd,_⟩:=pl;exact ⟨o,e,hd⟩
  ·obtain ⟨its,_,⟨o,ho,hc,_⟩,_⟩:=I.tupleN hq;obtain ⟨h1,h2⟩:=mU hc;refine ⟨⟨o,ho,h1⟩,fun a e=>?_⟩;cases e;exact ⟨o,ho,h2⟩
  ·have z:∃ o,s.heap.get? p=ao/\o.ExactDict:=by
    rcases hk with ⟨kvs,hk⟩ | ⟨kvs,hk⟩
    ·obtain ⟨_,_,_,_,o,_,_,e,ex,_⟩:=I.hok p _ hk;exact ⟨o,e,ex⟩
    ·obtain ⟨_,_,_,_,o,_,_,e,ex,_⟩:=I.hok p _ hk;exact ⟨o,e,ex⟩
   obtain ⟨o,e,ex⟩:=z;refine ⟨⟨o,e,ex.1⟩,fun a e2=>?_⟩;cases e2;exact ⟨o,e,ex.2.1⟩
  ·obtain ⟨o,_,_,_,e,ex,_⟩:=I.hok p _ hk;refine ⟨⟨o,e,ex.1⟩,fun a e2=>?_⟩;cases e2;exact ⟨o,e,ex.2.1⟩
 | _=>exact eP ty
def tBM(K:aK)(T:String)(r:V->ε->Hp->VK->Prop)(to:TE)(t:TA):TE:=fun σ H Q=>to σ H fun x H1=>tyV K T x H1/\t σ H1 fun xs H2=>r x xs H2 Q
variable {o e:Expr}{es:fj}{to:TE}{t:TA}{name:Str}{apos cpos:Pos}{T id:String}{r:V->ε->Hp->VK->Prop}
theorem Azp(pa:PlainAttrs T)(slot:Slot T name id)(hty:typeOf (.builtin id)=pure (.type "method_descriptor"))(hm:MtR X id r)(ho:l4 o to)(ha:PA X (e::es) t)
  (hbase:attributeBase o name X.env (bn o)=bn o:=by rfl)
  (hfew:((f6 cpos (e::es)).all (fun x=>!x.1)&&(dy cpos [] X.env).all (fun x=>x.1.isSome)
   && decide ((e::es).length+([]:tu).length+(if ([]:tu).isEmpty then 0 else 1) < 30))=true:=by rfl)
  (hline:(apos.endLine == cpos.line)=true:=by rfl) (hs:bc (e::es)=ZF::bc es:=by rfl) (hplain:(f6 cpos es).any (·.1)=false:=by rfl) :
  PE X (vz o name apos (e::es) [] cpos) (tBM X.K T r to t):=by
 intro pins s σ H Q I h;refine wpAny_Call_method_late hbase hfew hline rfl (thn (ho pins s σ H _ I h) fun v s1 zz=>?_);obtain ⟨x,H1,I1,r1,ty,q1⟩:=zz;obtain ⟨h1,h2⟩:=Aum I1 r1 ty;refine ⟨T,id,pa,slot,hty,h1,h2,?_⟩;have hA:=ha cpos pins s1 σ H1 _ I1 q1;rw[hs] at hA ⊢;refine qN (by show (false || (f6 cpos es).any (·.1))=false;rw[hplain] <;> rfl) (Calls.evalArgs_plain ?_)
 exact thn hA fun us s2 zz=>by obtain ⟨vs,H2,I2,r2,q2⟩:=zz;exact hm pins s2 σ H2 x vs v us Q I2 r1 r2 q2
end
def MtM(X:Cx)(id:String)(r:V->ε->Hp->VK->Prop):Prop:=
 ∀ (pins:List (Addr×Obj)) (s:aO) (σ:St) (H:Hp) (x:V) (xs:ε) (v:aJ) (us:ac) (Q:VK),io->RelV x v->ja xs->r x xs H Q ->
  wpAny bj X.A (call (.builtin id) (v::us)) Zu X.xe s
theorem Vals.one(h:ja [x]):∃ u,us=[u]/\mi x:=by
 cases h with
 | cons r t=>cases t;exact ⟨_,rfl,r⟩
theorem Vals.two(h:ja [x,y]):∃ u v,us=[u,v]/\mi x/\RelV y v:=by
 cases h with
 | cons r t=>obtain ⟨v,rfl,q⟩:=Vals.one t;exact ⟨_,v,rfl,r,q⟩
theorem Vals.zero:∀ {us:ac},ja []->us=[]
 | _,.nil=>rfl
theorem Vals.dropLast(h:ja xs):Vals xs.dropLast us.dropLast:=by
 induction h with
 | nil=>exact .nil
 | cons r t ih=>
  cases t with
  | nil=>exact .nil
  | cons q t'=>exact .cons r ih
theorem Vals.eraseIdx(i:Nat)(h:ja xs):Vals (xs.eraseIdx i) (us.eraseIdx i):=by
 induction h generalizing i with
 | nil=>exact .nil
 | cons r t ih=>
  cases i with
  | zero=>exact t
  | succ i=>exact .cons r (ih i)
theorem Vals.reverse(h:ja xs):Vals xs.reverse us.reverse:=by
 induction h with
 | nil=>exact .nil
 | cons r t ih=>rw[fW,fW];exact Vals.append ih (j4 r)
theorem Vals.rep(h:ja xs):∀ k:Nat,Vals (bP k xs).flatten (bP k us).flatten
 | 0=>.nil
 | k+1=>by
  rw[eO,eO,eQ,eQ];exact Vals.append h (Vals.rep h k)
theorem X1{α:Type}:∀ (l:List α) (i:Nat),(l.eraseIdx i).length<=l.length
 | [],_=>aN _
 | _::_,0=>iB _
 | _::r,i+1=>pX (X1 r i)
theorem Ys(its:ac):∀ (k:Nat) (acc:ac),
  xG (fun x1 x2=>x1++x2) acc.toArray (bP k its.toArray)=(acc++(bP k its).flatten).toArray
 | 0,acc=>by simp
 | k+1,acc=>by
  have e:acc.toArray++its.toArray=(acc++its).toArray:=Za
  have e2:(acc++its)++(bP k its).flatten=acc++(bP (k+1) its).flatten:=by
   rw[eO,eQ,cM]
  rw[<- e2,<- Ys its k (acc++its),<- e,eO,nC]
section
variable {l b:Addr}{ys zs:ε}
theorem Inv.lset{its':ac}{f:bv->bv}{t':Nat}(I:io)(hH:H l=Ξ xs)
  (e:s.heap.get? l=ξ { cls:=.type "list",data:=.seq its.toArray n }) (hf:f its.toArray=its'.toArray) (hv:Vals ys its') (hz:ys.length<=sizeLine) :
  Inv X pins σ (cb H l ys) { s with heap:=s.heap.update l (bR f),toks:=t' }:=by
 have q:=PySem.IsL.update e f;rw[hf] at q;refine I.write (x:=l) (e:=l) (by rw[hH];exact trivial) jc (fun b' u hb hu=>(qM s.heap (bR f) (eJ hb)).trans hu) ⟨_,q⟩ ?_;exact ⟨hz,its',_,hv,q⟩
theorem Inv.lnew{t':Nat}(I:io)(hv:Vals ys its)(hz:ys.length<=sizeLine) :
  Inv X pins σ (cb H s.heap.objs.size ys) { s with heap:=s.heap.push { cls:=.type "list",data:=.seq its.toArray },toks:=t' }:=
 I.laid (fun _ _ q=>jh q) be ⟨hz,its,0,hv,ki⟩
theorem Inv.fresh(I:io):H s.heap.objs.size=ψ:=j5
theorem Inv.lstM(I:io)(hH:H l=Ξ xs):xs.length<=sizeLine/\∃ (its:ac) (n:Nat),Vals xs its/\xs.length=its.length/\s.heap.get? l=ξ { cls:=.type "list",data:=.seq its.toArray n }:=by
 obtain ⟨z,its,n,r,e⟩:=I.hok l _ hH;exact ⟨z,its,n,r,r.length,e⟩
theorem V8(h:n<=sizeLine):fF n=false:=by
 unfold fF;exact decide_eq_false Ze
end
section
def Ahk:V->ε->Hp->VK->Prop:=fun x vs H Q=>∃ l xs y,x = cy/\vs=[y]/\H l=Ξ xs/\xs.length < sizeLine/\Q .non (cb H l (xs++[y]))
theorem G1:MtM X "list.append" Ahk:=by
 intro pins s σ H x vs v us Q I rx rv h;obtain ⟨l,xs,y,rfl,rfl,hH,hz,q⟩:=h;cases rx;obtain ⟨u,rfl,ru⟩:=rv.one;obtain ⟨z,its,n,r,hl,e⟩:=I.lstM hH;refine oN F.slot_list_append (ik _ e) F.entry_list_append (F.args_list_append_2 _ _) (PySem.list_append l its.toArray n u (by rw[aT];omega)) ⟨e,?_⟩;refine ck .non _ (I.lset (its':=its++[u]) hH e Za (r.append (j4 ru)) ?_) q;rw[cG,gO];omega
def T4:V->ε->Hp->VK->Prop:=fun x vs H Q=>∃ l b xs zs,x = cy/\vs=[gv]/\H l=Ξ xs/\gn=Ξ zs/\xs.length+zs.length<=sizeLine/\Q .non (cb H l (xs++zs))
theorem Ai3:MtM X "list.extend" T4:=by
 intro pins s σ H x vs v us Q I rx rv h;obtain ⟨l,b,xs,zs,rfl,rfl,hH,hB,hz,q⟩:=h;cases rx;obtain ⟨u,rfl,ru⟩:=rv.one;cases ru;obtain ⟨z,its,n,r,hl,e⟩:=I.lstM hH;obtain ⟨z2,its2,n2,r2,hl2,e2⟩:=I.lstM hB;have hsz:its.toArray.size+its2.toArray.size<=sizeLine:=by rw[aT,aT];omega
 have hlong:¬ (!its.toArray.isEmpty&&fF (its.toArray.size+its2.toArray.size))=true:=by
  rw[V8 hsz,oO];exact cO
 refine oN sW ⟨_,e,rfl⟩ sC (rJ _ _)
  (AutoSeq1.list_extend_list_list_0 l its.toArray n b its2.toArray n2 hlong (by rw[aT];omega) Ze) ⟨e,e2,?_⟩
 refine ck .non _ (I.lset (its':=its++its2) hH e Za (r.append r2) ?_) q;rw[cG];omega
def Am4:V->ε->Hp->VK->Prop:=fun x vs H Q=>∃ l xs i k y,x = cy/\vs=[ce]/\H l=ξ (.lst xs)/\-(2 ^ 63)<=i/\i < 2 ^ 63/\seqIndex? i xs.length=ξ k/\xs[k]? = ξ y/\Q y (cb H l (xs.eraseIdx k))
theorem Al6:MtM X "list.pop" Am4:=by
 intro pins s σ H x vs v us Q I rx rv h;obtain ⟨l,xs,i,k,y,rfl,rfl,hH,h1,h2,hk,hy,q⟩:=h;cases rx;obtain ⟨u,rfl,ru⟩:=rv.one;obtain ⟨t,rfl⟩:=ru;obtain ⟨z,its,n,r,hl,e⟩:=I.lstM hH;obtain ⟨w,hw,rw'⟩:=r.get hy;refine oN F.slot_list_pop ⟨_,e,rfl⟩ F.entry_list_pop (F.args_list_pop_2 _ _)
  (MeetsSeq.list_pop_at l its.toArray n i t k w (fitsIndex_both h1 h2) (by rw[aT,<- hl];exact hk) (by rw[<- fE];exact hw) (by rw[aT];omega)) ⟨e,?_⟩
 refine ⟨y,_,I.lset (its':=its.eraseIdx k) hH e ?_ (r.eraseIdx k) ?_,rw',q⟩
 ·show its.toArray.eraseIdxIfInBounds k=(its.eraseIdx k).toArray;rw[List.eraseIdxIfInBounds_toArray]
 ·have:=X1 xs k;omega
def Azi:R2:=fun x y H Q=>∃ l b xs zs,x = cy/\y = gv/\H l=Ξ xs/\gn=Ξ zs/\xs.length+zs.length<=sizeLine/\∀ p,qq=ψ->Q d7 (cb H p (xs++zs))
theorem Ava:OpR X (gJ .Add) Azi:=by
 intro pins s σ H x y v u Q I rx ry h;obtain ⟨l,b,xs,zs,rfl,rfl,hH,hB,hz,q⟩:=h;cases rx;cases ry;obtain ⟨z,its,n,r,hl,e⟩:=I.lstM hH;obtain ⟨z2,its2,n2,r2,hl2,e2⟩:=I.lstM hB;refine PySem.P.add_list e e2 ?_ (by rw[aT,aT];omega);have ea:its.toArray++its2.toArray=(its++its2).toArray:=Za
 rw[ea];exact ck (.ref _) _ (I.lnew (t':=s.toks) (r.append r2) (by rw[cG];omega)) (q _ I.fresh)
def Ax3:R2:=fun x y H Q=>∃ l k xs,x = cy/\y = .int k/\H l=ξ (.lst xs)/\-(2 ^ 63)<=k/\k < 2 ^ 63/\xs.length * k.toNat<=sizeLine /\
 ∀ p,qq=ψ->Q d7 (cb H p (bP k.toNat xs).flatten)
theorem Aqg{α:Type}(xs:List α)(k:Nat):(bP k xs).flatten.length=k * xs.length:=by
 induction k with
 | zero=>simp
 | succ k ih=>rw[eO,eQ,cG,ih,Nat.succ_mul,yC]
theorem Auc:OpR X (gJ .Mult) Ax3:=by
 intro pins s σ H x y v u Q I rx ry h;obtain ⟨l,k,xs,rfl,rfl,hH,h1,h2,hz,q⟩:=h;cases rx;obtain ⟨t,rfl⟩:=ry;obtain ⟨z,its,n,r,hl,e⟩:=I.lstM hH;have hlen:its.toArray.size * k.toNat<=sizeLine:=by rw[aT,<- hl];exact hz
 have hcap:¬ its.toArray.size * k.toNat > (2 ^ 63 - 1) / 8:=by
  have:(sizeLine:Nat)<=(2 ^ 63 - 1) / 8:=Zb
  omega
 have hfit:¬ (!Builtin.List.listFitsIndex k)=true:=by
  rw[fitsIndex_both h1 h2];exact cO
 have hlong:¬ fF (its.toArray.size * k.toNat)=true:=by
  rw[V8 hlen];exact cO
 have hnew:xG (fun x1 x2=>x1++x2) #[] (bP (if its.toArray.isEmpty=true then 0 else k.toNat) its.toArray)=(bP k.toNat its).flatten.toArray:=by
  have f0:∀ m:Nat,xG (fun x1 x2=>x1++x2) #[] (bP m its.toArray)=(bP m its).flatten.toArray:=fun m=>by
   have:=Ys its m [];rw[fL] at this;exact this
  rw[f0];cases its with
  | nil=>simp
  | cons a r'=>rw[if_neg Za]
 refine wpAny_binaryOp_repeat_ref (T := "list") (U := "int") Zb ⟨_,e,rfl⟩ (fun s'=>xF s' k t) noFill_list_mul F.fills_int_mul wF repeat_list F.slot_int_index.lookup
  (oN wF (xF s k t) F.entry_int_rmul (F.args_int_rmul_2 _ _) (int___rmul___int_list k t l its.toArray n)
   ⟨e,rfl,ik _ e,oN F.slot_list_mul (ik _ e) F.entry_list_mul (F.args_list_mul_2 _ _) (AutoListH.list___mul___list_int_3 l its.toArray n k t hfit hcap hlong) ⟨e,?_⟩⟩)
 rw[hnew];exact ck (.ref _) _ (I.lnew (t':=s.toks) (r.rep k.toNat) (by rw[Aqg,Nat.mul_comm];exact hz)) (q _ I.fresh)
end
section
variable {prog:cL}{w:dC}{E:aJ->aO->Prop}
end
end L2
namespace Att
open PySem PySem.W PySem.Calls PyProof.Rows
theorem Tb{P:rK}{h:Heap}:∀ (ns:Λ) (vs:ac),WellAll P h vs (ns.map pY)->iQ vs ns:=by
 intro ns;induction ns with
 | nil=>
  intro vs w;rw[bY] at w;cases w;exact .nil
 | cons n ns ih=>
  intro vs w;rw[aQ] at w;cases w with
  | cons a b=>
   cases a;exact .cons _ _ (ih _ b)
theorem Akp{l:oD}{n:Nat}(hn:l.most=ξ n){P:rK}{h:Heap}{args:List WData}{vals:ac}
  (hpre:l.row.toRowW.claim.pre args=true) (hwl:WellAll P h vals args) :
  ∃ a vs ns,vals=[eB a]/\args=[yP (ns.map pY)]/\h.get? a=ξ { cls:=.type "list",data:=.seq vs.toArray }/\iQ vs ns/\ns.length<=n:=by
 have hsh:WShape.hasAll [] args [.list .int]=true:=(pre_splitW hpre).1;have hc:l.pre.holds [] { args:=args } = true:=(pre_splitW hpre).2;obtain ⟨d,r,rfl,h1,h2⟩:=hasAllW_cons hsh;obtain rfl:=hasAllW_nil h2;obtain ⟨xs,rfl,h3⟩:=hasW_list h1;obtain ⟨ns,rfl⟩:=items_int h3;have hlen:ns.length<=n:=by
  unfold oD.pre at hc;have h4:(WTm.not (.lt (.lit (.int (n:Int))) (.len (.arg 0)))).holds [] { args:=[.list (ns.map .int)] } = true:=by
   have h4:=(holds_andW hc).1;rw[hn] at h4;exact h4
  have h5:=condW_of h4 (w_not (w_lt w_lit (w_len_list (w_arg rfl))));rw[aL] at h5;refine Nat.le_of_not_lt fun q=>?_
  have q':(n:Int) < ((ns.length:Nat):Int):=Ze
  first
   | (rw[decide_eq_true q'] at h5;exact absurd h5 Zb)
   | (simp at h5;omega)
 cases hwl with
 | cons w1 w2=>
  cases w2;cases w1 with
  | list ho hall=>exact ⟨_,_,ns,rfl,rfl,ho,Tb ns _ hall,hlen⟩
theorem Ajx(l:oD)(args:List WData):l.row.toRowW.claim.post args mr args=true:=
 postW_of (r:=l.row.toRowW) (X:=(true == true))
  (show yQ [] mr .bool=true by first | rfl | decide | simp[yQ,WShape.arms,WShape.armsAll])
  (show (WTm.eq .res (.lit mr)).value [] { args:=args,res:=ξ mr,after:=args } = ξ (.bool (true == true)) from w_eq_bool (w_res rfl) w_lit) rfl
section
variable {prog:cL}{w:dC}{A:dN}{E:aJ->aO->Prop}{s:aO}{K:Frag}
end
end Att
namespace L2
open PySem PySem.Spec PyProof.Rows
theorem Aij{vs:ac}{ns:Λ}(h:iQ vs ns):Vals fu vs:=by
 induction h with
 | nil=>exact .nil
 | cons n t h ih=>exact .cons ⟨t,rfl⟩ ih
def Only(H:Hp):Prop:=∀ b,gn=ψ\/∃ o xs,gn=jl o (.lst xs)
noncomputable def G7(s:Stmt):mK:=match s with
 | .FunctionDef _ a _ _ _ _ _ _ _ _=>a
 | _=>{ posonlyargs:=[],args:=[],vararg:=ψ,kwonlyargs:=[],kw_defaults:=[],kwarg:=ψ,defaults:=[] }
noncomputable def Fh(s:Stmt):nh:=match s with
 | .FunctionDef _ _ b _ _ _ _ _ _ _=>b
 | _=>[]
noncomputable def Ap(s:Stmt):kA:=match s with
 | .FunctionDef _ _ _ _ _ _ sc _ _ _=>sc
 | _=>{ kind:=.function,names:=[],isGenerator:=false,isCoroutine:=false }
abbrev CX0:CXT:=fun _ _ _ _ _ _=>False
abbrev E0:XK:=fun _ _ _=>False
variable {X:Cx}
theorem Ata:Vr CX0 X E0:=fun _ _ _ _ _ _ _ h=>h.elim
structure Fun(K:aK)(x qual:Str)(st:Stmt)(f:Addr)(fd:fA):Prop where
 ex:∃ (oc:aJ) (od:du) (kV doc pm:aJ) (an:du) (cdv ct:aJ) (osl:Array bi),
  fd=gY x qual (G7 st) (Fh st) (Ap st) .none kV doc pm an cdv ct/\K.lookup f=ξ ⟨oc,od,.func fd,osl⟩/\oG K cdv qual=true
 kp:iA K ff=true
variable {P:cL}{w:dC}{x qual:Str}{st:Stmt}{f:Addr}
section
variable {K:aK}{mg:Str->bi}{base:Heap}
theorem Fun.ok{fd:fA}{N ps:Φ}{k:Nat}{sp:Sp}(F:Fun K x qual st f fd)(S:b8 N ps st)(len:∀ vs H Q E,sp vs H Q E->vs.length=ps.length)
  (hbody:∀ (cdv:aJ) (A:dN) (outer:qv) (s:aO) (H:Hp) (vs:ε) (Q:VK) (E:XK),Room k (A.deeper (ib qual (Ap st) f cdv))->sp vs H Q E ->
   ∃ t,PSs (Acs CX0 P w K mg base N qual (Ap st) f cdv A outer s H E).nox (Fh st) t/\t { nx:=fun _ H'=>Q .non H',rt:=Q } (start N vs) H):FnOk P w K mg base CX0 (k+1) f fd ps sp:=by
 obtain ⟨oc,od,kV,doc,pm,an,cdv,ct,osl,rfl,lk,hcd⟩:=F.ex;refine Ash lk hcd S len fun A outer s H vs Q E hr hsp=>?_
 obtain ⟨t,h,q⟩:=hbody cdv A outer s H vs Q E hr hsp;exact ⟨t,h.nox,q⟩
theorem Fun.binds{fd:fA}{ps:Φ}(F:Fun K x qual st f fd)
  (h:∀ (kV doc pm:aJ) (an:du) (cdv ct:aJ) (us:ac),us.length=ps.length->rF ZV ⟨us,[]⟩=pure (ps.zip us)):Binds K fd ps []:=by
 obtain ⟨oc,od,kV,doc,pm,an,cdv,ct,osl,rfl,lk,hcd⟩:=F.ex;exact .all (h kV doc pm an cdv ct)
theorem Anm{oc:aJ}{od an:du}{osl:Array bi}{kV doc pm cdv ct:aJ}(l:K.lookup f=ξ ⟨oc,od,.func ZV,osl⟩)
  (c:oG K cdv qual=true) (k:iA K ff=true):Fun K x qual st f ZV:=⟨⟨oc,od,kV,doc,pm,an,cdv,ct,osl,rfl,l,c⟩,k⟩
end
variable {pos:Pos}
section
theorem pv(i:Nat)(hN:X.N[i]? = jw:=by rfl)(hv:Vis X.env.scope x:=by first | exact rL rfl | exact pM (rL rfl) | exact pM (pM rfl))(hd:(x == ("__debug__" : Str))=false:=by decide)
  (hcd:(x == ("__classdict__" : Str))=false:=by decide):l4 (.Name x pos) (Azu i):=Amj hN hv hd hcd
end
theorem Ael{A B:Prop}(h:B):if false=true then A else B:=by
 rw[if_neg cO];exact h
theorem Afc{A B:Prop}(h:A):if true=true then A else B:=by
 rw[jv];exact h
def Same(H H':Hp):Prop:=∀ b o,gn=ao->nq=ao
theorem Same.refl(H:Hp):Same H H:=fun _ _ h=>h
variable {H:Hp}
theorem Same.trans{H1 H2:Hp}(a:Same H H1)(b:Same H1 H2):Same H H2:=fun c o h=>b c o (a c o h)
variable {H':Hp}
theorem Same.free(e:Same H H'){l:Addr}(h:H' l=yL):H l=yL:=by
 cases q:H l with
 | none=>rfl
 | some o=>
  rw[e l o q] at h;cases h
variable {a:Addr}
theorem Same.seq{K:aK}{xs:ε}(e:Same H H')(h:qk K a xs):SqL K H' a xs:=by
 rcases h with (h | ⟨o,h⟩) | h
 ·exact .inl (.inl (e _ _ h))
 ·exact .inl (.inr ⟨o,e _ _ h⟩)
 ·exact .inr h
variable {o:Option V}{u:aJ}{y:V}
section
variable {κ:Type}[DecidableEq κ]
noncomputable def N3(kvs:List (κ×V))(k:κ):Option V:=(kvs.find? fun kv=>decide (kv.1=k)).map (·.2)
noncomputable def Mg(kvs:List (κ×V))(k:κ)(v:V):List (κ×V):=
 if (kvs.any fun kv=>decide (kv.1=k))=true then kvs.map (fun kv=>if kv.1=k then (kv.1,v) else kv) else kvs++[(k,v)]
noncomputable def Agi(kvs:List (κ×V))(k:κ):List (κ×V):=kvs.filter fun kv=>decide (kv.1≠k)
theorem Vy{p:κ×V}{r:List (κ×V)}{k:κ}(e:p.1=k):N3 (p::r) k=ξ p.2:=by simp[N3,cU,e]
theorem Vf{p:κ×V}{r:List (κ×V)}{k:κ}(e:¬ p.1=k):N3 (p::r) k=N3 r k:=by simp[N3,cU,e]
theorem Uv(k:κ):∀ kvs:List (κ×V),(kvs.any fun kv=>decide (kv.1=k))=(N3 kvs k).isSome
 | []=>rfl
 | p::r=>by
  rw[iH];by_cases e:p.1=k
  ·simp only[Vy e,decide_eq_true e,Bool.true_or,sX]
  ·rw[Vf e,decide_eq_false e,xQ];exact Uv k r
theorem Od(kvs:List (κ×V))(k:κ)(v:V):(Mg kvs k v).length<=kvs.length+1:=by
 unfold Mg;split
 ·rw[aL];omega
 ·rw[cG,aR,bG];omega
theorem RelO.isSome_eq{u:bi}(r:RelO o u):o.isSome=u.isSome:=by
 cases o with
 | none=>cases u with
  | none=>rfl
  | some _=>exact (show False from r).elim
 | some _=>cases u with
  | none=>exact (show False from r).elim
  | some _=>rfl
theorem RelO.getD{u:bi}{d:V}{d':aJ}(r:RelO o u)(rd:RelV d d'):RelV (o.getD d) (u.getD d'):=by
 cases o with
 | none=>cases u with
  | none=>exact rd
  | some _=>exact (show False from r).elim
 | some _=>cases u with
  | none=>exact (show False from r).elim
  | some _=>exact r
theorem KV.val{kvs:List (κ×V)}{vs:List (κ×aJ)}(r:KV kvs vs)(k:κ):RelO (N3 kvs k) (valueAt vs k):=by
 unfold KV at r;induction r with
 | nil=>exact jR
 | @cons p q ps qs h t ih=>
  obtain ⟨h1,h2⟩:=h;by_cases e:p.1=k
  ·have e':q.1=k:=h1.symm.trans e;have b:valueAt (q::qs) k=ξ q.2:=by simp[valueAt,cU,e']
   rw[Vy e,b];exact h2
  ·have e':¬ q.1=k:=fun z=>e (h1.trans z)
   have b:valueAt (q::qs) k=valueAt qs k:=by simp[valueAt,cU,e']
   rw[Vf e,b];exact ih
theorem KV.any{kvs:List (κ×V)}{vs:List (κ×aJ)}(r:KV kvs vs)(k:κ):(kvs.any fun kv=>decide (kv.1=k))=vs.any fun kv=>decide (kv.1=k):=by
 unfold KV at r;induction r with
 | nil=>rfl
 | cons h t ih=>rw[iH,iH,ih,h.1]
theorem KV.repl{kvs:List (κ×V)}{vs:List (κ×aJ)}(r:KV kvs vs)(k:κ)(ry:mi y) :
  KV (kvs.map fun kv=>if kv.1=k then (kv.1,y) else kv) (vs.map fun kv=>if kv.1=k then (kv.1,u) else kv):=by
 unfold KV at r ⊢;induction r with
 | nil=>exact .nil
 | @cons p q ps qs h t ih=>
  rw[aQ,aQ];refine .cons ?_ ih;obtain ⟨h1,h2⟩:=h;by_cases e:p.1=k
  ·rw[if_pos e,if_pos (h1.symm.trans e)];exact ⟨h1,ry⟩
  ·rw[if_neg e,if_neg (fun z=>e (h1.trans z))];exact ⟨h1,h2⟩
theorem KV.put{kvs:List (κ×V)}{vs:List (κ×aJ)}(r:KV kvs vs)(k:κ)(ry:mi y):KV (Mg kvs k y) (stored vs k u):=by
 unfold Mg stored;rw[r.any k];by_cases e:(vs.any fun kv=>decide (kv.1=k))=true
 ·rw[if_pos e,if_pos e];exact r.repl k ry
 ·rw[if_neg e,if_neg e];exact yM r ⟨rfl,ry⟩
theorem KV.drop{kvs:List (κ×V)}{vs:List (κ×aJ)}(r:KV kvs vs)(k:κ):KV (Agi kvs k) (without vs k):=by
 unfold KV at r ⊢;unfold Agi without;induction r with
 | nil=>exact .nil
 | @cons p q ps qs h t ih=>
  obtain ⟨h1,h2⟩:=h;rw[mL,mL];by_cases e:p.1=k
  ·have a:¬ decide (p.1≠k)=true:=by simp[e]
   have b:¬ decide (q.1≠k)=true:=by simp[h1.symm.trans e]
   rw[if_neg a,if_neg b];exact ih
  ·have e':¬ q.1=k:=fun z=>e (h1.trans z)
   have a:decide (p.1≠k)=true:=by simp[e]
   have b:decide (q.1≠k)=true:=by simp[e']
   rw[if_pos a,if_pos b];exact .cons ⟨h1,h2⟩ ih
theorem KV.keys{kvs:List (κ×V)}{vs:List (κ×aJ)}(r:KV kvs vs):kvs.map (·.1)=vs.map (·.1):=by
 unfold KV at r;induction r with
 | nil=>rfl
 | cons h t ih=>rw[aQ,aQ,ih,h.1]
theorem KV.length{kvs:List (κ×V)}{vs:List (κ×aJ)}(r:KV kvs vs):kvs.length=vs.length:=pK r
end
theorem Aib{k:Key}(r:mi (kV k)):(Bs P w).is k u=true:=by
 cases k with
 | inl i=>obtain ⟨t,e⟩:=(show ∃ t,u=mJ i t from r);subst e;exact Abi P w i t
 | inr x=>obtain ⟨t,e⟩:=(show ∃ t,u=vA x t from r);subst e;exact Sk P w x t
theorem X4:∀ {ks:mz} {us:ac},ja (ks.map kV)->ItemsAre (Bs P w) ks us
 | [],_,r=>by rw[bY] at r;cases r;exact .nil
 | k::ks,_,r=>by
  rw[aQ] at r;cases r with
  | cons h t=>exact .cons (Aib h) (X4 t)
abbrev KT(H:Hp):List (mz×V)->List (mz×Addr×aJ)->Prop:=vB fun p q=>p.1=q.1/\H q.2.1=Γ (p.1.map kV)/\RelV p.2 q.2.2
variable {xs:List (mz×Addr×aJ)}{kvs:List (mz×V)}
theorem KT.val(r:KT H kvs xs)(k:mz):RelO (N3 kvs k) ((atKey xs k).map (·.2)):=by
 induction r with
 | nil=>exact jR
 | @cons p q ps qs h t ih=>
  obtain ⟨h1,_,h2⟩:=h;by_cases e:p.1=k
  ·have e':q.1=k:=h1.symm.trans e;have b:atKey (q::qs) k=ξ q.2:=by simp[atKey,cU,e']
   rw[Vy e,b];exact h2
  ·have e':¬ q.1=k:=fun z=>e (h1.trans z)
   have b:atKey (q::qs) k=atKey qs k:=by simp[atKey,cU,e']
   rw[Vf e,b];exact ih
theorem KT.repl(r:KT H kvs xs)(k:mz)(ry:mi y) :
  KT H (kvs.map fun kv=>if kv.1=k then (kv.1,y) else kv) (xs.map (putAt k u)):=by
 induction r with
 | nil=>exact .nil
 | @cons p q ps qs h t ih=>
  rw[aQ,aQ];refine .cons ?_ ih;obtain ⟨h1,h2,h3⟩:=h;unfold putAt;by_cases e:p.1=k
  ·rw[if_pos e,if_pos (h1.symm.trans e)];exact ⟨h1,h2,ry⟩
  ·rw[if_neg e,if_neg (fun z=>e (h1.trans z))];exact ⟨h1,h2,h3⟩
variable {b:Addr}
theorem KT.put(r:KT H kvs xs)(k:mz)(hb:gn=Γ (k.map kV))(ry:mi y) :
  KT H (Mg kvs k y) (storedH xs k b u):=by
 have e:(kvs.any fun kv=>decide (kv.1=k))=(atKey xs k).isSome:=by
  rw[Uv,(r.val k).isSome_eq,tO]
 unfold Mg storedH;rw[e];by_cases q:(atKey xs k).isSome=true
 ·rw[if_pos q,if_pos q];exact r.repl k ry
 ·rw[if_neg q,if_neg q];exact yM r ⟨rfl,hb,ry⟩
theorem KT.keeps(r:KT H kvs xs)(ht:∀ b ys,gn=Γ ys->nq=Γ ys):KT H' kvs xs:=
 Paired.mapP r fun _ _ z=>⟨z.1,ht _ _ z.2.1,z.2.2⟩
section
variable {h:Heap}
theorem Atk{u:HO}(ok:HOk P w H h)(e:Rd H a u):ObjOk P w H h a u:=e.ok ok
theorem Ady{kvs:List (Key×V)}(ok:HOk P w H h)(e:Rd H a fw):kvs.length<=sizeLine/\(a == sysModules)=false/\∃ vs,KV kvs vs/\h.DictOf (Bs P w) a vs:=
 show ObjOk P w H h a fw from Atk ok e
theorem Vv{kvs:List (Key×V)}(ok:HOk P w H h)(e:j7=ξ fw):kvs.length<=sizeLine/\(a == sysModules)=false/\∃ vs,KV kvs vs/\h.DictOf (Bs P w) a vs:=Ady ok (.inl e)
theorem Afk{ks:mz}(ok:HOk P w H h)(e:j7=Γ (ks.map kV)):(tupleKind (Bs P w)).is h ks a:=by
 obtain ⟨_,its,r,o,h1,h2,n,h3⟩:=(show ObjOk P w H h a (.tup (ks.map kV)) from ok a _ e);exact ⟨o,its.toArray,n,h1,(mU h2).1,h3,by simpa using X4 r⟩
theorem Ah0(ok:HOk P w H h)(e:Rd H a (.dT kvs)):kvs.length<=sizeLine/\(a == sysModules)=false /\
  ∃ xs,KT H kvs xs/\h.DictOfH (tupleKind (Bs P w)) a xs:=by
 obtain ⟨z,y,xs,r,o,es,ep,h1,h2,h3,h4,h5⟩:=(show ObjOk P w H h a (.dT kvs) from Atk ok e);refine ⟨z,y,xs,r,o,es,ep,h1,h2,h3,h4,fun x hx=>?_,h5⟩;have all:∀ {l:List (mz×V)} {m:List (mz×Addr×aJ)},KT H l m->∀ x∈m,(tupleKind (Bs P w)).is h x.1 x.2.1:=by
  intro l m q;induction q with
  | nil=>intro x hx;exact nomatch hx
  | @cons p q ps qs hq t ih=>
   intro x hx;rcases bE.mp hx with e | hx
   ·subst e;exact Afk ok (by rw[<- hq.1];exact hq.2.1)
   ·exact ih x hx
 exact all r x hx
theorem Axj(ok:HOk P w H h)(e:j7=ξ (.dT kvs)):kvs.length<=sizeLine/\(a == sysModules)=false /\
  ∃ xs,KT H kvs xs/\h.DictOfH (tupleKind (Bs P w)) a xs:=Ah0 ok (.inl e)
end
def DGet(H:Hp)(a:Addr)(y:V)(r:Option V):Prop:=
 (∃ kvs k,Rd H a fw/\y=kV k/\r=N3 kvs k)\/∃ kvs k b,Rd H a (.dT kvs)/\y = gv/\gn=Γ (k.map kV)/\r=N3 kvs k
def DPut(H:Hp)(a:Addr)(y v:V)(H':Hp):Prop:=
 (∃ kvs k,j7=ξ fw/\y=kV k/\kvs.length < sizeLine/\H'=f7 a (.dK (Mg kvs k v))) \/
 ∃ kvs k b,j7=ξ (.dT kvs)/\y = gv/\gn=Γ (k.map kV)/\kvs.length < sizeLine/\H'=f7 a (.dT (Mg kvs k v))
theorem DGet.k{kvs:List (Key×V)}{k:Key}(e:j7=ξ fw):DGet H a (kV k) (N3 kvs k):=.inl ⟨kvs,k,.inl e,rfl,rfl⟩
theorem DGet.t{k:mz}(e:j7=ξ (.dT kvs))(eb:gn=Γ (k.map kV)):DGet H a gv (N3 kvs k):=.inr ⟨kvs,k,b,.inl e,rfl,eb,rfl⟩
variable {v:V}
theorem DPut.k{kvs:List (Key×V)}{k:Key}(e:j7=ξ fw)(hl:kvs.length < sizeLine):DPut H a (kV k) v (f7 a (.dK (Mg kvs k v))):=.inl ⟨kvs,k,e,rfl,hl,rfl⟩
theorem DPut.t{k:mz}(e:j7=ξ (.dT kvs))(eb:gn=Γ (k.map kV))(hl:kvs.length < sizeLine) :
  DPut H a gv v (f7 a (.dT (Mg kvs k v))):=.inr ⟨kvs,k,b,e,rfl,eb,hl,rfl⟩
variable {A:dN}{pins:List (Addr×Obj)}{σ:St}{s:aO}{E Q:aJ->aO->Prop}
section
variable {r:aJ}
theorem Inv.big(I:io):sysModules < s.heap.objs.size:=by
 have h:dJ < s.heap.objs.size:=(I.mod.glob.keeps I.bk).lt;exact tP Zb h
theorem Ajo(hu:A.units+1 < cLine)(I:io)(g:DGet H a y j3)(ry:mi y)(h:∀ w' s',im s'->RelV v w'->Q w' s') :
  wpAny bj A (getItem bp u) Q E s:=by
 rcases g with ⟨kvs,k,e,ey,l⟩ | ⟨kvs,k,b,e,ey,eb,l⟩
 ·subst ey;obtain ⟨z,hd,vs,rel,dd⟩:=Ady I.hok e;obtain ⟨w',hw,rw'⟩:=RelO.some_of (v:=v) (o:=valueAt vs k) (by rw[l];exact rel.val k);exact wpAny_getItem_of (Aib ry) dd.mapOf hw (h w' _ kt rw')
 ·subst ey;cases (show u=eB b from ry);obtain ⟨z,hd,xs,rel,dd⟩:=Ah0 I.hok e;obtain ⟨w',hw,rw'⟩:=RelO.some_of (v:=v) (o:=(atKey xs k).map (·.2)) (by rw[l];exact rel.val k);obtain ⟨p,hp,hp2⟩:=aH.mp hw;refine wpAny_getItem_heap (sY hu) (Afk I.hok eb) dd hp ?_;rw[hp2];exact h w' _ kt rw'
theorem Agq{h':Heap}{t':Nat}{ob:HO}(I:io)(mu:Mut j7)(hs:nN a s.heap h')(he:∃ q,h'.get? a=ξ q)(new:ObjOk X.prog X.w (f7 a ob) h' a ob) :
  Inv X pins σ (f7 a ob) { s with heap:=h',toks:=t' }:=
 I.write (x:=a) (e:=a) mu jc (fun b q hb z=>(hs.2 b hb).trans z) he new
theorem Aec{h':Heap}{kvs:List (Key×V)}{vs:List (Key×aJ)}(z:kvs.length<=sizeLine)(hd:(a == sysModules)=false)(rel:KV kvs vs)(dd:h'.DictOf (Bs P w) a vs) :
  ObjOk P w H' h' a fw:=⟨z,hd,vs,rel,dd⟩
theorem Ai7{Q:Unit->aO->Prop}(hu:A.units+1 < cLine)(I:io)(g:DPut H a y v H')(ry:mi y)(rv:RelV v r)(h:∀ s',f8 H' s'->Q () s') :
  wpAny bj A (setItem bp u r) Q E s:=by
 rcases g with ⟨kvs,k,e,ey,l,eH⟩ | ⟨kvs,k,b,e,ey,eb,l,eH⟩
 ·subst ey eH;obtain ⟨z,hd,vs,rel,dd⟩:=Vv I.hok e;have hz:vs.length<=sizeLine:=by rw[<- rel.length];exact z
  have hl:(Mg kvs k v).length<=sizeLine:=by have:=Od kvs k v;omega
  refine wpAny_setItem_pairs (hsz:=hz) (Aib ry) dd fun h' dd' hs=>h _ ?_
  have he:∃ q,h'.get? a=ξ q:=let ⟨q,_,_,hq,_⟩:=dd';⟨q,hq⟩
  exact Agq I (by rw[e];exact jR) hs he (Aec hl hd (rel.put k rv) dd')
 ·subst ey eH;cases (show u=eB b from ry);obtain ⟨z,hd,xs,rel,dd⟩:=Axj I.hok e;have hz:xs.length<=sizeLine:=by rw[<- pK rel];exact z
  have hl:(Mg kvs k v).length<=sizeLine:=by have:=Od kvs k v;omega
  refine wpAny_setItem_heap (hsz:=hz) (sY hu) (Afk I.hok eb) dd fun h' dd' hs=>h _ ?_
  obtain ⟨q,es,ep,hq,h2,h3,h4,_,h5⟩:=dd';refine Agq I (by rw[e];exact jR) hs ⟨q,hq⟩ ⟨hl,hd,_,(rel.put k eb rv).keeps fun c ys ec=>?_,q,es,ep,hq,h2,h3,h4,h5⟩;rw[Au (Ni ec e Zm)];exact ec
end
section
variable {kvs:List (Key×V)}{k:Key}
end
def Aqo(i:Expr):Prop:=∀ ov iv,subscripted i false ov iv=operate [ov,iv] (getItem ov iv)
theorem Arv{prog:cL}{env:Env}{value slice:Expr}{T id:String}
  (hl:typeLookup (.type T) "__getitem__" = pure (ξ (.builtin id))) (hs:Aqo slice)
  (h:cm mm A (eval value env) (fun o s₁=>wpAny mm A (eval slice env) (fun i s₂=>s₂.TypeIs o T/\wpAny mm A (getItem o i) Q E s₂) E s₁) E) :
  wpAny mm A (eval (nk value slice) env) Q E s:=by
 refine xC (dO h (fun o s₁ h₁=>dO h₁ (fun i s₂ h₂=>?_) fun _ _ x=>x) fun _ _ x=>x);obtain ⟨hT,h₂⟩:=h₂;unfold subscriptTail;refine aG ?_;rw[getitemInPython_of_ne hT.not_modules];refine aG (wpAny_specialOf hT hl ?_);have fin:wpAny mm A (subscripted slice false o i) (fun r s₃=>wpAny mm A (letTemporaryGo value o r >>= fun _=>pure r) Q E s₃) E s₂:=by
  rw[hs o i];exact wpAny_operating (dO h₂ (fun r s₃ h₃=>aG (wpAny_letTemporaryGo (aU h₃))) fun _ _ x=>x)
 first
  | exact aU (aG fin)
  | exact aG (aU (aG fin))
  | exact aG fin
theorem Acr(I:io)(g:DGet H a y o):s.TypeIs bp "dict" := by
 rcases g with ⟨kvs,k,e,_,_⟩ | ⟨kvs,k,b,e,_,_,_⟩
 ·obtain ⟨_,_,vs,_,dd⟩:=Ady I.hok e;exact dd.typeIs
 ·obtain ⟨_,_,xs,_,dd⟩:=Ah0 I.hok e;exact dd.typeIs
def Ax1(td ty:TE):TE:=fun σ H Q=>td σ H fun x H1=>ty σ H1 fun y H2=>∃ a v,x = bp/\DGet H2 a y j3/\Q v H2
def Axy(td ty tv:TE):TS:=fun D σ H=>tv σ H fun v H1=>td σ H1 fun x H2=>ty σ H2 fun y H3=>∃ a H4,x = bp/\DPut H3 a y v H4/\D.nx σ H4
section
variable {o i e value:Expr}{pos' tpos:Pos}{td ty tv:TE}
theorem Agg(hu:X.A.units+1 < cLine)(ho:l4 o td)(hi:l4 i ty)(hs:Aqo i):l4 (nk o i) (Ax1 td ty):=by
 intro pins s σ H Q I h;refine Arv PySem.F.slot_dict_getitem.lookup hs (thn (ho pins s σ H _ I h) fun u s1 zz=>zz.elim fun x H1 I1 rx q1=>thn (hi pins s1 σ H1 _ I1 q1) fun iv s2 zz=>zz.elim fun y H2 I2 ry zq=>?_);obtain ⟨a,v,ex,g,q2⟩:=zq;subst ex;obtain rfl:u=eB a:=rx;exact ⟨Acr I2 g,Ajo hu I2 g ry fun w' s3 I3 rw'=>⟨v,H2,I3,rw',q2⟩⟩
theorem Aph(hu:X.A.units+1 < cLine)(ho:l4 o td)(hi:l4 i ty)(hv:l4 value tv)(hs:vx value (ξ (.Subscript o i pos')) pos.line=pure false) :
  PS X (.Assign [.Subscript o i pos'] value pos) (Axy td ty tv):=by
 intro pins s σ H D I h;refine wpAny_Assign_Subscript (thn (hv pins s σ H _ I h) fun r s1 zz=>zz.elim fun v H1 I1 rv q1=>thn (ho pins s1 σ H1 _ I1 q1) fun u s2 zz=>zz.elim fun x H2 I2 rx q2=>thn (hi pins s2 σ H2 _ I2 q2) fun iv s3 zz=>zz.elim fun y H3 I3 ry zq=>?_) hs;obtain ⟨a,H4,ex,g,q3⟩:=zq;subst ex;obtain rfl:u=eB a:=rx;exact Ai7 hu I3 g ry rv fun s4 I4=>⟨σ,H4,I4,q3⟩
end
theorem Ama(h:Heap)(hb:sysModules < h.objs.size):ObjOk P w H (h.push { cls:=.type "dict",data:=.dict #[] }) h.objs.size (.dK []):=
 ⟨eS _,beq_eq_false_iff_ne.mpr (eJ (bW hb)),[],.nil,wG h⟩
def Av2:TE:=fun _ H Q=>∀ p,qq=ψ->Q d7 (f7 p (.dK []))
section
theorem Al3:l4 (.Dict [] [] pos) Av2:=fun pins s σ H Q I h=>
 wpAny_Dict_empty ⟨bq,_,I.laid (a:=s.heap.objs.size) (o:=.dK []) (t':=s.toks) (fun _ _ q=>jh q) be (Ama s.heap I.big),rfl,h _ j5⟩
end
def Mn(kvs more:List (Key×V)):List (Key×V):=more.foldl (fun acc kv=>Mg acc kv.1 kv.2) kvs
theorem KV.merge:∀ {more:List (Key×V)} {rs:List (Key×aJ)} {kvs:List (Key×V)} {vs:List (Key×aJ)},KV more rs->KV kvs vs->KV (Mn kvs more) (merged vs rs):=by
 intro more rs kvs vs r;unfold KV at r;induction r generalizing kvs vs with
 | nil=>intro q;exact q
 | @cons p q ps qs h t ih=>
  intro r0;have e:KV (Mg kvs p.1 p.2) (stored vs q.1 q.2):=by
   have:=r0.put p.1 h.2;rw[<- h.1];exact this
  exact ih e
theorem Pq:∀ (more kvs:List (Key×V)),(Mn kvs more).length<=kvs.length+more.length
 | [],kvs=>by show kvs.length<=kvs.length+0;omega
 | p::r,kvs=>by
  have h1:=Pq r (Mg kvs p.1 p.2);have h2:=Od kvs p.1 p.2;show (Mn (Mg kvs p.1 p.2) r).length<=_;rw[aR];omega
structure M1(X:Cx)(o:Expr)(m:Str)(apos:Pos)(e:Expr)(cpos:Pos):Prop where
 base:attributeBase o m X.env (bn o)=bn o
 few:((f6 cpos [e]).all (fun x=>!x.1)&&(dy cpos [] X.env).all (fun x=>x.1.isSome)
  && decide (([e]:fj).length+([]:tu).length+(if ([]:tu).isEmpty then 0 else 1) < 30))=true
 line:(apos.endLine == cpos.line)=true
 trees:f6 cpos [e]=[ZF]
structure M2(X:Cx)(o:Expr)(m:Str)(apos:Pos)(e f:Expr)(cpos:Pos):Prop where
 base:attributeBase o m X.env (bn o)=bn o
 few:((f6 cpos [e,f]).all (fun x=>!x.1)&&(dy cpos [] X.env).all (fun x=>x.1.isSome)
  && decide (([e,f]:fj).length+([]:tu).length+(if ([]:tu).isEmpty then 0 else 1) < 30))=true
 line:(apos.endLine == cpos.line)=true
 trees:f6 cpos [e,f]=[ZF,(false,bn f)]
def IsD(H:Hp)(a:Addr):Prop:=(∃ kvs,Rd H a fw)\/∃ kvs,Rd H a (.dT kvs)
theorem Avv(I:io)(d:IsD H a) :
  s.TypeIs bp "dict" /\ (∀ b,eB a = .ref b->∃ ob,a9=ξ ob/\ob.dict=ψ)/\(a == sysModules)=false:=by
 rcases d with ⟨kvs,e⟩ | ⟨kvs,e⟩
 ·obtain ⟨_,hd,vs,_,dd⟩:=Ady I.hok e;refine ⟨dd.typeIs,fun b q=>?_,hd⟩;cases q;obtain ⟨ob,_,_,h1,h2,_⟩:=dd;exact ⟨ob,h1,h2.2.1⟩
 ·obtain ⟨_,hd,xs,_,dd⟩:=Ah0 I.hok e;refine ⟨dd.typeIs,fun b q=>?_,hd⟩;cases q;obtain ⟨ob,_,_,h1,h2,_⟩:=dd;exact ⟨ob,h1,h2.2.1⟩
section
variable {d:V}{r:aJ}
end
section
variable {o e f:Expr}{apos cpos:Pos}{td ty tx:TE}
end
section
variable {kvs:List (Key×V)}
theorem An7(I:io)(e:Rd H a fw)(h:∀ p s',qq=ψ->f8 (f7 p fw) s'->Q d7 s'):cm bj A (call p9 [bp]) Q E:=by
 obtain ⟨z,hd,vs,rel,dd⟩:=Ady I.hok e;refine kt_call_dict hd dd (by rw[<- rel.length];exact z) fun h' dd' hs=>?_
 refine h _ _ j5 (I.laid (a:=s.heap.objs.size) (o:=.dK kvs) (t':=s.toks) (fun b q hq=>?_) be (Aec z (beq_eq_false_iff_ne.mpr (eJ (bW I.big))) rel dd'));exact (hs.2 b (bW (bC hq))).trans (jh hq)
end
end L2
namespace MR
open PySem PySem.Spec PyProof.Rows L2
inductive U where
 | non | bl (b:Bool) | int (i:Int) | str (x:Str) | tup (l:aa) | ref (n:Nat)
inductive HU where
 | lst (xs:aa) | ro (xs:aa) | dic (kvs:List (Key×U)) | rod (kvs:List (Key×U)) | ins (C:Str) (fs:List (Str×U)) | exc (C:Str) (fr:Bool) (fs:List (Str×U))
noncomputable abbrev UH:=List HU
noncomputable abbrev UE:=List az
section
variable (K:aK)(H:Hp)(α:Ψ)
mutual
def RepU:U->V->Prop
 | .non,v=>v = .non
 | .bl b,v=>v = .bl b
 | .int i,v=>v = .int i
 | .str x,v=>v = .str x
 | .tup l,v=>∃ a xs,v = .ref a/\SqT K H a xs/\RepL l xs
 | .ref n,v=>∃ a,α[n]? = ξ a/\v = .ref a
def RepL:aa->ε->Prop
 | [],xs=>xs=[]
 | u::l,xs=>∃ x r,xs=x::r/\RepU u x/\RepL l r
end
end
noncomputable def Gs:Φ:=["first_heaviest","turns_from_the_highest"]
noncomputable def Ov(nm:Str):Str:=nm++(".<locals>." : Str)++("<lambda>" : Str)
def LCode(H:Hp)(q:Str)(cv:aJ):Prop:=∃ c oc vs t,cv = ow/\H c=jl oc (.ext fun _=>True)/\oc.data = .fields vs/\vs[1]? = ξ (.str q t)
def GoodTab(H:Hp)(P:Addr)(q:Str):Prop:=∃ ps,H P=ξ (.tbl ps)/\vI ps.toList/\∀ pos cv,codeAmong pos ps.toList=ξ cv->LCode H q cv
variable {H H':Hp}
theorem GoodTab.keep{P:Addr}{q:Str}(hf:∀ b o u,gn=jl o u->nq=jl o u)(ht:∀ ps,H P=ξ (.tbl ps)->H' P=ξ (.tbl ps))(h:GoodTab H P q):GoodTab H' P q:=by
 obtain ⟨ps,e,tr,g⟩:=h;refine ⟨ps,ht ps e,tr,fun pos cv ec=>?_⟩;obtain ⟨c,oc,vs,t,e1,e2,r⟩:=g pos cv ec;exact ⟨c,oc,vs,t,e1,hf _ _ _ e2,r⟩
def Stay(H H':Hp):Prop:=(∀ b xs,gn=Γ xs->nq=Γ xs)/\∀ b o u,gn=jl o u->nq=jl o u
theorem Stay.refl(H:Hp):Stay H H:=⟨fun _ _ q=>q,fun _ _ _ q=>q⟩
variable {H1 H2:Hp}
theorem Stay.trans(a:Stay H H1)(b:Stay H1 H2):Stay H H2:=⟨fun c xs q=>b.1 c xs (a.1 c xs q),fun c o u q=>b.2 c o u (a.2 c o u q)⟩
variable {K:aK}{a:Addr}{xs:ε}
theorem Stay.sqT(e:Stay H H')(h:lv H a xs):lv H' a xs:=by
 rcases h with (h | ⟨o,h⟩) | h
 ·exact .inl (.inl (e.1 _ _ h))
 ·exact .inl (.inr ⟨o,e.2 _ _ _ h⟩)
 ·exact .inr h
variable {p:Addr}
theorem Stay.new(h:qq=ψ)(o:HO):Stay H (f7 p o):=⟨fun b u q=>by rw[rj q h];exact q,fun b o u q=>by rw[rj q h];exact q⟩
variable {o:HO}
theorem Stay.write(h:qq=ao)(m:Mut ao)(o':HO):Stay H (f7 p o'):=
 ⟨fun b u q=>by rw[Au (Ni q h (fun z=>by subst z;exact m))];exact q,fun b w u q=>by rw[Au (Ni q h (fun z=>by subst z;exact m))];exact q⟩
theorem Tx(h:qq=ψ)(o:HO):∀ b ps,gn=ξ (.tbl ps)->upd H p o b=ξ (.tbl ps):=fun b u q=>by rw[rj q h];exact q
theorem Ai8(h:qq=ao)(m:Mut ao)(o':HO):∀ b ps,gn=ξ (.tbl ps)->upd H p o' b=ξ (.tbl ps):=fun b u q=>by rw[Au (Ni q h (fun z=>by subst z;exact m))];exact q
structure Gr(H:Hp)(α:Ψ)(H':Hp)(α':Ψ):Prop where
 pre:∃ β,α' = α ++ β
 st:Stay H H'
theorem Gr.refl(H:Hp)(α:Ψ):je H H α:=⟨⟨[],Za⟩,.refl H⟩
variable {α:Ψ}
theorem Gr.trans{α1 α2:Ψ}(a:je H H1 α1)(b:Gr H1 α1 H2 α2):je H H2 α2:=by
 obtain ⟨⟨β,e⟩,s⟩:=a;obtain ⟨⟨γ,e'⟩,s'⟩:=b;exact ⟨⟨β ++ γ,by rw[e',e,cM]⟩,s.trans s'⟩
variable {α':Ψ}{n:Nat}
theorem Gr.at(g:vg)(h:α[n]? = m7):α'[n]? = m7:=by
 obtain ⟨β,e⟩:=g.pre;have hn:n < α.length:=(aI.mp h).1;rw[e,bH hn];exact h
variable {l:aa}{i:Nat}{x:V}{u:U}
section
mutual
theorem RepU.mono(g:vg):∀ (u:U) (v:V),gh K H u v->RepU K H' α' u v
 | .non,_,h=>h
 | .bl _,_,h=>h
 | .int _,_,h=>h
 | .str _,_,h=>h
 | .tup l,v,h=>by
  unfold RepU at h ⊢;obtain ⟨a,xs,e,s,r⟩:=h;exact ⟨a,xs,e,g.st.sqT s,RepL.mono g l xs r⟩
 | .ref n,v,h=>by
  unfold RepU at h ⊢;obtain ⟨a,e,q⟩:=h;exact ⟨a,g.at e,q⟩
theorem RepL.mono(g:vg):∀ (l:aa) (xs:ε),vv l->RepL K H' α' l xs
 | [],xs,h=>h
 | u::l,xs,h=>by
  unfold RepL at h ⊢;obtain ⟨x,r,e,h1,h2⟩:=h;exact ⟨x,r,e,RepU.mono g u x h1,RepL.mono g l r h2⟩
end
theorem RepL.length:∀ {l:aa} {xs:ε},vv l->l.length=xs.length
 | [],xs,h=>by unfold RepL at h;subst h;rfl
 | u::l,xs,h=>by
  unfold RepL at h;obtain ⟨x,r,e,_,h2⟩:=h;subst e;simp[RepL.length h2]
theorem RepL.get:∀ {l:aa} {xs:ε} {i:Nat} {u:U},vv l->l[i]? = ξ u->∃ x,xs[i]? = jw/\RepU K H α u x
 | [],xs,i,u,h,e=>by simp at e
 | w::l,xs,i,u,h,e=>by
  unfold RepL at h;obtain ⟨x,r,e',h1,h2⟩:=h;subst e';cases i with
  | zero=>simp at e;subst e;exact ⟨x,rfl,h1⟩
  | succ i=>simpa using RepL.get (i:=i) h2 (by simpa using e)
theorem RepL.get'(h:vv l)(e:xs[i]? = jw):∃ u,l[i]? = br/\gh K H u x:=by
 have hi:i < l.length:=by rw[h.length];exact (aI.mp e).1
 obtain ⟨y,e2,r⟩:=h.get km;rw[e] at e2;cases e2;exact ⟨_,km,r⟩
theorem RepL.nil:vm [] []:=by unfold RepL;rfl
theorem RepL.cons(h:gh K H u x)(t:vv l):vm (u::l) (x::xs):=by
 unfold RepL;exact pz x xs h t
theorem RepL.append:∀ {l l':aa} {xs ys:ε},vv l->vm l' ys->RepL K H α (l++l') (xs++ys)
 | [],l',xs,ys,h,t=>by unfold RepL at h;subst h;exact t
 | u::l,l',xs,ys,h,t=>by
  unfold RepL at h;obtain ⟨x,r,e,h1,h2⟩:=h;subst e;exact .cons h1 (RepL.append h2 t)
theorem RepL.take:∀ {l:aa} {xs:ε} (n:Nat),vv l->RepL K H α (l.take n) (xs.take n)
 | [],xs,n,h=>by unfold RepL at h;subst h;simp[RepL.nil]
 | u::l,xs,0,h=>by simp[RepL.nil]
 | u::l,xs,n+1,h=>by
  unfold RepL at h;obtain ⟨x,r,e,h1,h2⟩:=h;subst e;exact .cons h1 (RepL.take n h2)
theorem RepL.drop:∀ {l:aa} {xs:ε} (n:Nat),vv l->RepL K H α (l.drop n) (xs.drop n)
 | [],xs,n,h=>by unfold RepL at h;subst h;simp[RepL.nil]
 | u::l,xs,0,h=>h
 | u::l,xs,n+1,h=>by
  unfold RepL at h;obtain ⟨x,r,e,h1,h2⟩:=h;subst e;exact RepL.drop n h2
theorem RepL.set(q:gh K H u x):∀ {l:aa} {xs:ε} (n:Nat),vv l->RepL K H α (l.set n u) (xs.set n x)
 | [],xs,n,h=>by unfold RepL at h;subst h;exact .nil
 | w::l,xs,0,h=>by
  unfold RepL at h;obtain ⟨y,r,e,h1,h2⟩:=h;subst e;exact .cons q h2
 | w::l,xs,n+1,h=>by
  unfold RepL at h;obtain ⟨y,r,e,h1,h2⟩:=h;subst e;exact .cons h1 (RepL.set q n h2)
theorem RepL.erase:∀ {l:aa} {xs:ε} (n:Nat),vv l->RepL K H α (l.eraseIdx n) (xs.eraseIdx n)
 | [],xs,n,h=>by unfold RepL at h;subst h;exact .nil
 | w::l,xs,0,h=>by
  unfold RepL at h;obtain ⟨y,r,e,h1,h2⟩:=h;subst e;exact h2
 | w::l,xs,n+1,h=>by
  unfold RepL at h;obtain ⟨y,r,e,h1,h2⟩:=h;subst e;exact .cons h1 (RepL.erase n h2)
theorem RepL.reverse:∀ {l:aa} {xs:ε},vv l->RepL K H α l.reverse xs.reverse
 | [],xs,h=>by unfold RepL at h;subst h;exact .nil
 | w::l,xs,h=>by
  unfold RepL at h;obtain ⟨y,r,e,h1,h2⟩:=h;subst e;rw[fW,fW];exact (RepL.reverse h2).append (j4 h1)
theorem RepL.ints:∀ (ns:Λ),RepL K H α ie fu
 | []=>.nil
 | n::r=>.cons rfl (RepL.ints r)
end
def RO(K:aK)(H:Hp)(a:Addr)(xs:ε):Prop:=
 (∃ o,j7=jl o (.lst xs))\/∃ (o:Obj) (its:bv) (n:Nat),K.lookup a=ao/\o.cls = vh /\ o.dict=ψ/\o.data = .seq its n/\its.size<=sizeLine/\Vals xs its.toList
theorem RO.sq(h:RO K H a xs):qk K a xs:=by
 rcases h with ⟨o,h⟩ | h
 ·exact .inl (.inr ⟨o,h⟩)
 ·exact .inr h
theorem RO.stay(st:Stay H H')(h:RO K H a xs):RO K H' a xs:=by
 rcases h with ⟨o,h⟩ | h
 ·exact .inl ⟨o,st.2 _ _ _ h⟩
 ·exact .inr h
def Axq(a Ca:Addr)(dd:du)(fr:Bool)(h:Heap):Prop:=∃ (o:Obj) (vs:bv),h.get? a=ao/\o.cls = .ref Ca/\o.dict=dd/\o.data = .fields vs/\1 < vs.size/\o.slots=#[]/\(fr=true->vs[1]? = ξ .none)
def DictIs(H:Hp)(dd:du)(vs:List (Str×V)):Prop:=match dd with
 | none=>vs=[]
 | some dx=>vs≠[]/\∃ od,H dx=ξ (.frz od (.xd vs))
theorem DictIs.stay{dd:du}{vs:List (Str×V)}(st:∀ b o ws,gn=jl o (.xd ws)->nq=jl o (.xd ws))(h:DictIs H dd vs):DictIs H' dd vs:=by
 cases dd with
 | none=>exact h
 | some dx=>obtain ⟨ne,od,q⟩:=h;exact ⟨ne,od,st _ _ _ q⟩
def HRep(K:aK)(H:Hp)(α:Ψ)(a:Addr):HU->Prop
 | .lst us=>∃ xs,H a=ξ (.lst xs)/\RepL K H α us xs
 | .ro us=>∃ xs,RO K H a xs/\RepL K H α us xs
 | .dic kvs=>∃ vs,H a=ξ (nj)/\kvs.map (·.1)=vs.map (·.1)/\RepL K H α (kvs.map (·.2)) (vs.map (·.2))
 | .rod kvs=>∃ o vs,H a=ξ (.frz o nj)/\kvs.map (·.1)=vs.map (·.1)/\RepL K H α (kvs.map (·.2)) (vs.map (·.2))
 | .ins C fs=>∃ Ca dx vs,lK K dJ C=ξ (η Ca)/\H a=ξ (.ins Ca dx vs)/\fs.map (·.1)=vs.map (·.1)/\RepL K H α (fs.map (·.2)) (vs.map (·.2))
 | .exc C fr fs=>∃ Ca dd vs,lK K dJ C=ξ (η Ca)/\H a=ξ (.ext (Axq a Ca dd fr))/\DictIs H dd vs/\fs.map (·.1)=vs.map (·.1)/\RepL K H α (fs.map (·.2)) (vs.map (·.2))
noncomputable def HU.isRo:HU->Bool
 | .ro _=>true
 | _=>false
structure Abs(K:aK)(H:Hp)(α:Ψ)(L:UH):Prop where
 len:α.length=L.length
 inj:∀ (i j:Nat) (a:Addr) (o o':HU),α[i]? = m7->α[j]? = m7->L[i]? = ao->L[j]? = ξ o'->i=j\/o.isRo=true\/o'.isRo=true
 rep:∀ (i:Nat) (a:Addr) (o:HU),α[i]? = m7->L[i]? = ao->HRep K H α a o
 tab:∀ nm∈Gs,∀ c P,dQ K nm=ξ (c,P)->GoodTab H P (Ov nm)
variable {L:UH}
theorem Abs.tabs(A:ia K H L)(g:Stay H H')(ht:∀ b ps,gn=ξ (.tbl ps)->nq=ξ (.tbl ps)):∀ nm∈Gs,∀ c P,dQ K nm=ξ (c,P)->GoodTab H' P (Ov nm):=fun nm h c P e=>(A.tab nm h c P e).keep g.2 (ht P)
theorem Abs.addr(A:ia K H L){o:HU}(h:L[n]? = ao):∃ a,α[n]? = m7/\HRep K H α a o:=by
 have hn:n < α.length:=by rw[A.len];exact (aI.mp h).1
 exact ⟨α[n],aC hn,A.rep n _ o (aC hn) h⟩
theorem HRep.other{o:HU}(g:vg)(hs:o.isRo=true\/∀ u,j7=br->H' a=br)(h:HRep K H α a o):HRep K H' α' a o:=by
 cases o with
 | lst us=>obtain ⟨xs,e,r⟩:=h;exact ⟨xs,(hs.resolve_left (by simp[HU.isRo])) _ e,l6⟩
 | ro us=>obtain ⟨xs,e,r⟩:=h;exact ⟨xs,e.stay g.st,l6⟩
 | dic kvs=>obtain ⟨vs,e,k,r⟩:=h;exact ⟨vs,(hs.resolve_left (by simp[HU.isRo])) _ e,k,l6⟩
 | rod kvs=>obtain ⟨o,vs,e,k,r⟩:=h;exact ⟨o,vs,(hs.resolve_left (by simp[HU.isRo])) _ e,k,l6⟩
 | ins C fs=>obtain ⟨Ca,dx,vs,n,e,k,r⟩:=h;exact ⟨Ca,dx,vs,n,(hs.resolve_left (by simp[HU.isRo])) _ e,k,l6⟩
 | exc C fr fs=>obtain ⟨Ca,dd,vs,n,e,d,k,r⟩:=h;exact ⟨Ca,dd,vs,n,(hs.resolve_left (by simp[HU.isRo])) _ e,d.stay fun b o ws q=>g.st.2 b o _ q,k,l6⟩
theorem HRep.some{o:HU}(h:HRep K H α a o)(n:o.isRo=false):∃ u,j7=br:=by
 cases o with
 | lst us=>obtain ⟨xs,e,r⟩:=h;exact ⟨_,e⟩
 | ro us=>simp[HU.isRo] at n
 | dic kvs=>obtain ⟨vs,e,k,r⟩:=h;exact ⟨_,e⟩
 | rod kvs=>obtain ⟨o,vs,e,k,r⟩:=h;exact ⟨_,e⟩
 | ins C fs=>obtain ⟨Ca,dx,vs,n',e,k,r⟩:=h;exact ⟨_,e⟩
 | exc C fr fs=>obtain ⟨Ca,dd,vs,n',e,k,r⟩:=h;exact ⟨_,e⟩
theorem Abs.new{u:HU}(A:ia K H L)(hp:qq=ψ)(hr:HRep K (f7 p o) (α ++ [p]) p u) :
  Abs K (f7 p o) (α ++ [p]) (L++[u])/\je H (f7 p o) (α ++ [p]):=by
 have g:je H (f7 p o) (α ++ [p]):=⟨cu [p],.new hp o⟩;have hl:=A.len;refine ⟨⟨by simp[hl],fun i j a o1 o2 e1 e2 e3 e4=>?_,fun i a o1 e1 e2=>?_,A.tabs g.st (Tx hp o)⟩,g⟩
 ·have fresh:∀ (k:Nat) (o3:HU),α[k]? = ξ p->L[k]? = ξ o3->o3.isRo=true:=fun k o3 q1 q2=>by
   cases hh:o3.isRo with
   | true=>rfl
   | false=>
    obtain ⟨u3,q⟩:=(A.rep k p o3 q1 q2).some hh;rw[hp] at q;cases q
  by_cases hi:i < α.length
  ·rw[bH hi] at e1;rw[bH Ze] at e3;by_cases hj:j < α.length
   ·rw[bH hj] at e2;rw[bH Ze] at e4;exact A.inj i j a o1 o2 e1 e2 e3 e4
   ·rw[bX Ze] at e2;have:a=p:=by
     cases hk:j - α.length with
     | zero=>rw[hk] at e2;simp at e2;exact e2.symm
     | succ k=>rw[hk] at e2;simp at e2
    subst this;exact nv (fresh i o1 e1 e3)
  ·rw[bX Ze] at e1;have hia:a=p/\i = α.length:=by
    cases hk:i - α.length with
    | zero=>rw[hk] at e1;simp at e1;exact ⟨e1.symm,Ze⟩
    | succ k=>rw[hk] at e1;simp at e1
   obtain ⟨rfl,hi'⟩:=hia;by_cases hj:j < α.length
   ·rw[bH hj] at e2;rw[bH Ze] at e4;exact vo (fresh j o2 e2 e4)
   ·rw[bX Ze] at e2;have:j = α.length:=by
     cases hk:j - α.length with
     | zero=>omega
     | succ k=>rw[hk] at e2;simp at e2
    exact .inl Ze
 ·by_cases hi:i < α.length
  ·rw[bH hi] at e1;rw[bH Ze] at e2;refine (A.rep i a o1 e1 e2).other g ?_;exact .inr fun u3 q=>by rw[rj q hp];exact q
  ·rw[bX Ze] at e1;rw[bX Ze] at e2;have h1:i - α.length=0:=by
    cases hk:i - α.length with
    | zero=>rfl
    | succ k=>rw[hk] at e1;simp at e1
   rw[h1] at e1;rw[show i - L.length=0 by omega] at e2;simp at e1 e2;subst e1;subst e2;exact hr
theorem Abs.put{o0:HO}{u0 u:HU}(A:ia K H L)(hn:α[n]? = ξ p)(hL:L[n]? = ξ u0)(hro:u0.isRo=false)(hro':u.isRo=false)(hp:qq=ξ o0)(hm:Mut (ξ o0))(hr:HRep K (f7 p o) α p u) :
  Abs K (f7 p o) α (L.set n u)/\je H (f7 p o) α:=by
 have g:je H (f7 p o) α:=⟨⟨[],Za⟩,.write hp hm o⟩;have hl:=A.len;have hlt:n < L.length:=(aI.mp hL).1;have look:∀ (i:Nat) (o1:HU),(L.set n u)[i]? = ξ o1->∃ o2,L[i]? = ξ o2/\o2.isRo=o1.isRo/\(i≠n->o2=o1):=fun i o1 e=>by
  by_cases hi:n=i
  ·subst hi;rw[bL hlt] at e;cases e;exact ⟨u0,hL,by rw[hro,hro'],fun z=>absurd rfl z⟩
  ·rw[bF hi] at e;exact ⟨o1,e,rfl,fun _=>rfl⟩
 refine ⟨⟨by simp[hl],fun i j a o1 o2 e1 e2 e3 e4=>?_,fun i a o1 e1 e2=>?_,A.tabs g.st (Ai8 hp hm o)⟩,g⟩
 ·obtain ⟨x1,q1,r1,_⟩:=look i o1 e3;obtain ⟨x2,q2,r2,_⟩:=look j o2 e4;rw[<- r1,<- r2];exact A.inj i j a x1 x2 e1 e2 q1 q2
 ·by_cases hi:n=i
  ·subst hi;rw[bL hlt] at e2;cases e2;rw[hn] at e1;cases e1;exact hr
  ·rw[bF hi] at e2;refine (A.rep i a o1 e1 e2).other g ?_;by_cases hap:a=p
   ·subst hap;rcases A.inj i n a o1 u0 e1 hn e2 hL with z | z | z
    ·exact absurd z.symm hi
    ·exact .inl z
    ·rw[hro] at z;cases z
   ·exact .inr fun u3 q=>by rw[Au hap];exact q
structure RepS(K:aK)(H:Hp)(α:Ψ)(δ:UE)(σ:L2.St):Prop where
 len:δ.length = σ.length
 at_:∀ (i:Nat) (u:U),δ[i]? = ξ br->∃ v,σ[i]? = ξ j3/\gh K H u v
variable {δ:UE}{σ:L2.St}
theorem RepS.mono(g:vg)(h:RepS K H α δ σ):RepS K H' α' δ σ:=
 ⟨h.len,fun i u e=>let ⟨v,q,r⟩:=h.at_ i u e;⟨v,q,l6⟩⟩
theorem RepS.set(h:RepS K H α δ σ)(i:Nat){v:V}(r:gh K H u v):RepS K H α (δ.set i br) (σ.set i j3):=
 ⟨by simp[h.len],fun j w e=>by
  by_cases hj:i=j
  ·subst hj;by_cases hi:i < δ.length
   ·rw[bL hi] at e;cases e;exact ⟨v,bL (by rw[<- h.len];exact hi),r⟩
   ·rw[cN (by simpa using hi)] at e;cases e
  ·rw[bF hj] at e;obtain ⟨v',q,r'⟩:=h.at_ j w e;exact ⟨v',by rw[bF hj];exact q,r'⟩⟩
variable {us:aa}
theorem RepS.start(N:Φ){vs:ε}(h:vm us vs):RepS K H α (us.map ξ++bP (N.length - us.length) ψ) (start N vs):=by
 have hl:=h.length;refine ⟨by simp[L2.start,hl],fun i u e=>?_⟩;by_cases hi:i < us.length
 ·rw[bH (by simpa using hi),aX] at e;cases q:us[i]? with
  | none=>rw[q] at e;simp at e
  | some w=>
   rw[q] at e;simp at e;subst e;obtain ⟨x,e2,r⟩:=h.get q;refine ⟨x,?_,r⟩;unfold L2.start;rw[bH (by simp;omega),aX,e2];rfl
 ·rw[bX (by simpa using hi)] at e;have:=bT e;simp at this
abbrev FE:=UE->UH->Option (U×UH)
abbrev FT:=UE->UH->Option (Bool×UH)
abbrev FA:=UE->UH->Option (aa×UH)
inductive lE(K:aK)(f:FE)(σ:L2.St)(H:Hp)(Q:VK):Prop
 | mk (α:Ψ) (δ:UE) (L:UH) (A:ia K H L) (S:RepS K H α δ σ) (u:U) (L':UH) (e:tm=ξ (u,L')) (q:∀ v H' α',vg->my K H' L'->sd K H' u v->Q v H'):lE K f σ H Q
inductive lT(K:aK)(f:FT)(σ:L2.St)(H:Hp)(Q:Bool->Hp->Prop):Prop
 | mk (α:Ψ) (δ:UE) (L:UH) (A:ia K H L) (S:RepS K H α δ σ) (b:Bool) (L':UH) (e:tm=ξ (b,L')) (q:∀ H' α',vg->my K H' L'->Q b H'):lT K f σ H Q
inductive lA(K:aK)(f:FA)(σ:L2.St)(H:Hp)(Q:ε->Hp->Prop):Prop
 | mk (α:Ψ) (δ:UE) (L:UH) (A:ia K H L) (S:RepS K H α δ σ) (us:aa) (L':UH) (e:tm=ξ (us,L')) (q:∀ vs H' α',vg->my K H' L'->RepL K H' α' us vs->Q vs H'):lA K f σ H Q
def PEF(X:Cx)(e:Expr)(f:FE):Prop:=l4 e (lE X.K f)
def PTF(X:Cx)(e:Expr)(f:FT):Prop:=PT X e (lT X.K f)
def PWF(X:Cx)(e:Expr)(f:FT):Prop:=PW X e (lT X.K f)
def PAF(X:Cx)(es:fj)(f:FA):Prop:=PA X es (lA X.K f)
variable {X:Cx}{e:Expr}{es:fj}
section
theorem PE.imp{t t':TE}(h:l4 e t)(hi:∀ σ H Q,t' σ H Q->t σ H Q):l4 e t':=fun pins s σ H Q I q=>h pins s σ H Q I (hi σ H Q q)
theorem PT.imp{t t':TT}(h:PT X e t)(hi:∀ σ H Q,t' σ H Q->t σ H Q):PT X e t':=fun pins s σ H Q I q=>h pins s σ H Q I (hi σ H Q q)
theorem PW.imp{t t':TT}(h:PW X e t)(hi:∀ σ H Q,t' σ H Q->t σ H Q):PW X e t':=fun wh pins s σ H Q I q=>h wh pins s σ H Q I (hi σ H Q q)
theorem PA.imp{t t':TA}(h:PA X es t)(hi:∀ σ H Q,t' σ H Q->t σ H Q):PA X es t':=fun pos pins s σ H Q I q=>h pos pins s σ H Q I (hi σ H Q q)
end
def Ad(i:Nat):FE:=fun δ L=>(δ[i]?).join.map fun u=>(u,L)
def fC(u:U):FE:=fun _ L=>ξ (u,L)
variable {b c:Expr}{pos:Pos}{r:R2}{sem:S2}{fa fb f:FE}
section
variable {a:Expr}
theorem Ag(i:Nat){x:Str}(hN:X.N[i]? = jw:=by rfl)(hv:Vis X.env.scope x:=by first | exact rL rfl | exact pM (rL rfl) | exact pM (pM rfl))
  (hd:(x == ("__debug__" : Str))=false:=by decide) (hcd:(x == ("__classdict__" : Str))=false:=by decide):gy (.Name x pos) (Ad i):=by
 refine PE.imp (Amj hN hv hd hcd) ?_;rintro σ H Q ⟨α,δ,L,A,S,u,L',e,q⟩;unfold Ad at e;cases h:δ[i]? with
 | none=>rw[h] at e;simp at e
 | some o=>
  cases o with
  | none=>rw[h] at e;simp at e
  | some w=>
   rw[h] at e;simp at e;obtain ⟨rfl,rfl⟩:=e;obtain ⟨v,hv,r⟩:=S.at_ i w h;exact ⟨v,hv,q v H α gp A r⟩
theorem Aqn{v:V}(h:l4 e (tC v))(r:∀ H α,gh X.K H u v):gy e (fC u):=by
 refine PE.imp h ?_;rintro σ H Q ⟨α,δ,L,A,S,w,L',e,q⟩;unfold fC at e;cases e;exact q v H α gp A (r H α)
theorem Ai{i:Int}{j pos}:gy (.Constant ce j pos) (ω i):=Aqn Awn fun _ _=>rfl
theorem S6{b:Bool}{j pos}:gy (.Constant (.bool b) j pos) (fC (.bl b)):=Aqn Atc fun _ _=>rfl
theorem Aol{j pos}:gy (.Constant .none j pos) (fC .non):=Aqn Avy fun _ _=>rfl
theorem Eu{x:Str}{j pos}:gy (.Constant (.str x) j pos) (cj x):=Aqn Avb fun _ _=>rfl
abbrev S2:=U->U->UH->Option (U×UH)
def Dw(K:aK)(r:R2)(sem:S2):Prop:=∀ (H:Hp) (α:Ψ) (L:UH) (u w:U) (x y:V) (z:U) (L':UH) (Q:VK),ia K H L->gh K H u x->gh K H w y->sem u w L=ξ (z,L') ->
 ZI->r x y H Q
def f2(sem:S2)(fa fb:FE):FE:=fun δ L=>(fa δ L).bind fun p=>(fb δ p.2).bind fun q=>sem p.1 q.1 q.2
theorem Agf(h:Dw K r sem):∀ σ H Q,lE K (f2 sem fa fb) σ H Q->tOp r (lE K fa) (lE K fb) σ H Q:=by
 rintro σ H Q ⟨α,δ,L,A,S,z,L3,e,q⟩;obtain ⟨⟨u,L1⟩,e1,e⟩:=af;obtain ⟨⟨w,L2⟩,e2,e3⟩:=af;refine ⟨α,δ,L,A,S,u,L1,e1,fun x H1 α1 g1 A1 r1=>⟨α1,δ,L1,A1,ge,w,L2,e2,fun y H2 α2 g2 A2 r2=>?_⟩⟩;exact h H2 α2 L2 u w x y z L3 Q A2 (r1.mono g2) r2 e3 fun v H3 α3 g3 A3 r3=>q v H3 α3 (mo g3) A3 r3
theorem Bl{op:Operator}(ho:OpR X (gJ op) r)(h:Dw X.K r sem)(ha:gy a fa)(hb:gy b fb):gy (.BinOp a op b pos) (f2 sem fa fb):=PE.imp (Aw4 ho ha hb) (Agf h)
theorem Fp{op:CmpOp}(ho:m9 X op r)(h:Dw X.K r sem)(ha:gy a fa)(hb:gy b fb)(hm:behindInMarks op b=false):gy (.Compare a [op] [b] pos) (f2 sem fa fb):=PE.imp (Ara ho ha hb hm) (Agf h)
def Bn(f:FE):FT:=fun δ L=>(tm).bind fun p=>match p.1 with | .bl k=>ξ (k,p.2) | _=>ψ
theorem Ase{t:TE}(ht:∀ σ H Q,lE K f σ H Q->t σ H Q):∀ σ H Q,lT K (Bn f) σ H Q->As6 t σ H Q:=by
 rintro σ H Q ⟨α,δ,L,A,S,b,L1,e,q⟩;obtain ⟨⟨u,L2⟩,e1,e⟩:=af;refine ht σ H _ ⟨α,δ,L,A,S,u,L2,e1,fun x H1 α1 g1 A1 r1=>?_⟩;cases u with
 | bl k=>simp at e;obtain ⟨rfl,rfl⟩:=e;exact ⟨k,r1,q H1 α1 g1 A1⟩
 | _=>simp at e
theorem Bw{op:CmpOp}(ho:m9 X op r)(h:Dw X.K r sem)(ha:gy a fa)(hb:gy b fb)(hm:behindInMarks op b=false):PTF X (.Compare a [op] [b] pos) (Bn (f2 sem fa fb)):=PT.imp (Ap1 ho ha hb hm) (Ase (Agf h))
end
variable {g:FA}
section
variable {a:Expr}{rest:fj}
def Aem(f g:FT):FT:=fun δ L=>(tm).bind fun p=>if p.1=true then g δ p.2 else ξ (false,p.2)
def fOr(f g:FT):FT:=fun δ L=>(tm).bind fun p=>if p.1=true then ξ (true,p.2) else g δ p.2
def Ox(f:FT):FT:=fun δ L=>(tm).map fun p=>(!p.1,p.2)
def Jq(f g:FE):FE:=fun δ L=>(tm).bind fun p=>match p.1 with | .bl k=>if k=true then g δ p.2 else ξ (gq,p.2) | _=>ψ
def A0g(f g:FE):FE:=fun δ L=>(tm).bind fun p=>match p.1 with | .bl k=>if k=true then ξ (eo,p.2) else g δ p.2 | _=>ψ
def Amd(f:FE):FE:=fun δ L=>(tm).bind fun p=>match p.1 with | .bl k=>ξ (.bl (!k),p.2) | _=>ψ
def fIf(c:FT)(f g:FE):FE:=fun δ L=>(c δ L).bind fun p=>if p.1=true then f δ p.2 else g δ p.2
theorem Acu{f:FT}(ha:PTF X a f):PWF X (ld .And [a]) f:=Aqv ha
theorem Rh{f:FT}(ha:PTF X a f):PWF X (ld .Or [a]) f:=Au7 ha
theorem Aha{f g:FT}(ha:PTF X a f)(hb:PWF X (ld .And (b::rest)) g):PWF X (ld .And (a::b::rest)) (Aem f g):=by
 refine PW.imp (Au4 ha hb) ?_;rintro σ H Q ⟨α,δ,L,A,S,z,L3,e,q⟩;obtain ⟨⟨u,L1⟩,e1,e⟩:=af;refine ⟨α,δ,L,A,S,u,L1,e1,fun H1 α1 g1 A1=>?_⟩;cases u with
 | true=>exact Afc ⟨α1,δ,L1,A1,ge,z,L3,e,fun H2 α2 g2 A2=>q H2 α2 d6 A2⟩
 | false=>cases e;exact Ael (q H1 α1 g1 A1)
theorem Vm{f g:FT}(ha:PTF X a f)(hb:PWF X (ld .Or (b::rest)) g):PWF X (ld .Or (a::b::rest)) (fOr f g):=by
 refine PW.imp (Ay7 ha hb) ?_;rintro σ H Q ⟨α,δ,L,A,S,z,L3,e,q⟩;obtain ⟨⟨u,L1⟩,e1,e⟩:=af;refine ⟨α,δ,L,A,S,u,L1,e1,fun H1 α1 g1 A1=>?_⟩;cases u with
 | false=>exact Ael ⟨α1,δ,L1,A1,ge,z,L3,e,fun H2 α2 g2 A2=>q H2 α2 d6 A2⟩
 | true=>cases e;exact Afc (q H1 α1 g1 A1)
theorem PWF.pt{f:FT}(h:PWF X e f):PTF X e f:=PW.pt h
theorem Jr{f:FT}(ha:PTF X a f):PTF X (.UnaryOp .Not a pos) (Ox f):=by
 refine PT.imp (Aua ha) ?_;rintro σ H Q ⟨α,δ,L,A,S,z,L3,e,q⟩;obtain ⟨⟨u,L1⟩,e1,e⟩:=cx;cases e;exact ⟨α,δ,L,A,S,u,L1,e1,fun H1 α1 g1 A1=>q H1 α1 g1 A1⟩
theorem Nf{op}(h:gy a f):gy (ld op [a]) f:=Auo h
theorem Jw{g:FE}(ha:gy a f)(hb:gy (ld .And (b::rest)) g):gy (ld .And (a::b::rest)) (Jq f g):=by
 refine PE.imp (Atz ha hb) ?_;rintro σ H Q ⟨α,δ,L,A,S,z,L3,e,q⟩;obtain ⟨⟨u,L1⟩,e1,e⟩:=af;refine ⟨α,δ,L,A,S,u,L1,e1,fun v H1 α1 g1 A1 r1=>?_⟩;cases u with
 | bl k=>
  cases k with
  | true=>exact ⟨true,r1,Afc ⟨α1,δ,L1,A1,ge,z,L3,e,fun v H2 α2 g2 A2 r=>q v H2 α2 d6 A2 r⟩⟩
  | false=>cases e;exact ⟨false,r1,Ael (q _ H1 α1 g1 A1 rfl)⟩
 | _=>simp at e
theorem Ave(ha:gy a f):gy (.UnaryOp .Not a pos) (Amd f):=by
 refine PE.imp (Awe ha) ?_;rintro σ H Q ⟨α,δ,L,A,S,z,L3,e,q⟩;obtain ⟨⟨u,L1⟩,e1,e⟩:=af;refine ⟨α,δ,L,A,S,u,L1,e1,fun v H1 α1 g1 A1 r1=>?_⟩;cases u with
 | bl k=>cases e;exact ⟨k,r1,q _ H1 α1 g1 A1 rfl⟩
 | _=>simp at e
theorem Ayp{t:FT}{g:FE}(hc:PTF X c t)(ha:gy a f)(hb:gy b g):gy (.IfExp c a b pos) (fIf t f g):=by
 refine PE.imp (Amq hc ha hb) ?_;rintro σ H Q ⟨α,δ,L,A,S,z,L3,e,q⟩;obtain ⟨⟨u,L1⟩,e1,e⟩:=af;refine ⟨α,δ,L,A,S,u,L1,e1,fun H1 α1 g1 A1=>?_⟩;cases u with
 | true=>exact Afc ⟨α1,δ,L1,A1,ge,z,L3,e,fun v H2 α2 g2 A2 r=>q v H2 α2 d6 A2 r⟩
 | false=>exact Ael ⟨α1,δ,L1,A1,ge,z,L3,e,fun v H2 α2 g2 A2 r=>q v H2 α2 d6 A2 r⟩
def Af:FA:=fun _ L=>ξ ([],L)
def Aa(f:FE)(g:FA):FA:=fun δ L=>(tm).bind fun p=>(g δ p.2).map fun q=>(p.1::q.1,q.2)
theorem Ae:PAF X [] Af:=by
 refine PA.imp Ae7 ?_;rintro σ H Q ⟨α,δ,L,A,S,z,L3,e,q⟩;cases e;exact q [] H α gp A .nil
theorem Ac(ha:gy e f)(hr:PAF X es g)(hs:bc (e::es)=ZF::bc es:=by rfl):PAF X (e::es) (Aa f g):=by
 refine PA.imp (Ts ha hr hs) ?_;rintro σ H Q ⟨α,δ,L,A,S,z,L3,e,q⟩;obtain ⟨⟨u,L1⟩,e1,e⟩:=af;obtain ⟨⟨us,L2⟩,e2,e⟩:=cx;cases e;exact ⟨α,δ,L,A,S,u,L1,e1,fun x H1 α1 g1 A1 r1=>⟨α1,δ,L1,A1,ge,us,L2,e2,fun xs H2 α2 g2 A2 r2=>q (x::xs) H2 α2 d6 A2 (.cons (r1.mono g2) r2)⟩⟩
noncomputable def small(n:Nat):Bool:=decide (n<=sizeLine)
def Dp(g:FA):FE:=fun δ L=>(g δ L).bind fun p=>if small p.1.length=true then ξ (.tup p.1,p.2) else ψ
def Cw(g:FA):FE:=fun δ L=>(g δ L).bind fun p=>if small p.1.length=true then ξ (.ref p.2.length,p.2++[.lst p.1]) else ψ
theorem Fv(h:small n=true):n<=sizeLine:=of_decide_eq_true h
theorem Abs.tup(A:ia K H L)(r:vw)(hp:qq=ψ) :
  Gr H α (f7 p (.tup xs)) α/\ia K (f7 p (.tup xs)) L/\gh K (f7 p (.tup xs)) (.tup us) d7:=by
 have g:je H (f7 p (.tup xs)) α:=⟨⟨[],Za⟩,.new hp _⟩;refine ⟨g,⟨A.len,A.inj,fun i a o e1 e2=>(A.rep i a o e1 e2).other g (.inr fun u q=>by rw[rj q hp];exact q),A.tabs g.st (Tx hp _)⟩,?_⟩;unfold RepU;exact pz p xs (.of upd_same) l6
theorem Abs.lst(A:ia K H L)(r:vw)(hp:qq=ψ) :
  Gr H α (cb H p xs) (α ++ [p])/\Abs K (cb H p xs) (α ++ [p]) (L++[.lst us])/\RepU K (cb H p xs) (α ++ [p]) cf d7:=by
 have g:je H (cb H p xs) (α ++ [p]):=⟨cu [p],.new hp _⟩;obtain ⟨A',_⟩:=A.new (o:=.lst xs) (u:=.lst us) hp ⟨xs,upd_same,l6⟩;refine ⟨g,A',?_⟩;unfold RepU;exact ⟨p,by rw[<- A.len];simp,rfl⟩
theorem Ds{x1}(h:PAF X es g):gy (.Tuple es x1 pos) (Dp g):=by
 refine PE.imp (At9 h) ?_;rintro σ H Q ⟨α,δ,L,A,S,z,L3,e,q⟩;obtain ⟨⟨us,L1⟩,e1,e⟩:=af;refine ⟨α,δ,L,A,S,us,L1,e1,fun xs H1 α1 g1 A1 r1=>?_⟩;simp only at e;split at e
 ·rename_i hs;cases e;refine ⟨by rw[<- r1.length];exact Fv hs,fun p hp=>?_⟩;obtain ⟨g2,A2,r2⟩:=A1.tup r1 hp;exact q _ _ α1 d6 A2 r2
 ·cases e
theorem C6(h:PAF X es g):gy (.List es pos) (Cw g):=by
 refine PE.imp (Awj h) ?_;rintro σ H Q ⟨α,δ,L,A,S,z,L3,e,q⟩;obtain ⟨⟨us,L1⟩,e1,e⟩:=af;refine ⟨α,δ,L,A,S,us,L1,e1,fun xs H1 α1 g1 A1 r1=>?_⟩;simp only at e;split at e
 ·rename_i hs;cases e;refine ⟨by rw[<- r1.length];exact Fv hs,fun p hp=>?_⟩;obtain ⟨g2,A2,r2⟩:=A1.lst r1 hp;exact q _ _ _ d6 A2 r2
 ·cases e
abbrev SC:=aa->UH->Option (U×UH)
def R9(K:aK)(r:ε->Hp->VK->Prop)(sem:SC):Prop:=∀ (H:Hp) (α:Ψ) (L:UH) (us:aa) (xs:ε) (z:U) (L':UH) (Q:VK),ia K H L->vw->sem us L=ξ (z,L') ->
 ZI->r xs H Q
def A8(sem:SC)(g:FA):FE:=fun δ L=>(g δ L).bind fun p=>sem p.1 p.2
theorem As8{r:ε->Hp->VK->Prop}{sem:SC}(h:R9 K r sem):∀ σ H Q,lE K (A8 sem g) σ H Q->tCB r (lA K g) σ H Q:=by
 rintro σ H Q ⟨α,δ,L,A,S,z,L3,e,q⟩;obtain ⟨⟨us,L1⟩,e1,e⟩:=af;exact ⟨α,δ,L,A,S,us,L1,e1,fun xs H1 α1 g1 A1 r1=>h H1 α1 L1 us xs z L3 Q A1 r1 e fun v H2 α2 g2 A2 r2=>q v H2 α2 d6 A2 r2⟩
variable {x:Str}{p:Pos}{id T:String}{r:ε->Hp->VK->Prop}{sem:SC}
theorem Bi(hc:ll X id r)(h:R9 X.K r sem)(hg:Gl X x)(hm:X.mg x=ψ)(hv:fT x=ξ (.builtin id))(ha:PAF X (e::es) g)(hn:x ≠ "__name__" := by decide)(hdb:(x == ("__debug__" : Str))=false:=by decide)
  (he:bc (e::es)=ZF::bc es:=by rfl) (hpl:(f6 pos es).any (·.1)=false:=by rfl) :
  PEF X Z5 (A8 sem g):=PE.imp (Adr hc hg hm hv ha hn hdb he hpl) (As8 h)
theorem Ct(hc:CallR X (.type T) r)(h:R9 X.K r sem)(hg:Gl X x)(hm:X.mg x=ψ)(hv:fT x=ξ (.type T))(ha:PAF X (e::es) g)(hn:x ≠ "__name__" := by decide)(hdb:(x == ("__debug__" : Str))=false:=by decide)
  (he:bc (e::es)=ZF::bc es:=by rfl) (hpl:(f6 pos es).any (·.1)=false:=by rfl) :
  PEF X Z5 (A8 sem g):=PE.imp (Akc hc hg hm hv ha hn hdb he hpl) (As8 h)
abbrev SM:=U->aa->UH->Option (U×UH)
def Af2(K:aK)(r:V->ε->Hp->VK->Prop)(sem:SM):Prop:=∀ (H:Hp) (α:Ψ) (L:UH) (u:U) (us:aa) (x:V) (xs:ε) (z:U) (L':UH) (Q:VK),ia K H L->gh K H u x->vw->sem u us L=ξ (z,L') ->
 ZI->r x xs H Q
def tyU(T:String)(u:U)(L:UH):Bool:=match u with
 | .str _=>T == "str"
 | .int _=>T == "int"
 | .tup _=>T == "tuple"
 | .ref n=>match L[n]? with
  | some (.lst _)=>T == "list"
  | some (.ro _)=>T == "list"
  | some (.dic _)=>T == "dict"
  | _=>false
 | _=>false
theorem At6{x:V}(A:ia K H L)(r:gh K H u x)(h:tyU T u L=true):tyV K T x H:=by
 cases u with
 | str y=>unfold RepU at r;subst r;simpa[tyU,tyV] using h
 | int i=>unfold RepU at r;subst r;simpa[tyU,tyV] using h
 | ref n=>
  unfold RepU at r;obtain ⟨a,ea,rfl⟩:=r;unfold tyU at h;simp only at h;cases q:L[n]? with
  | none=>rw[q] at h;simp at h
  | some o=>
   have hr:=A.rep n a o ea q;rw[q] at h;cases o with
   | lst us=>simp at h;obtain ⟨xs,e,_⟩:=hr;exact .inl ⟨h,xs,.of e⟩
   | ro us=>simp at h;obtain ⟨xs,e,_⟩:=hr;exact .inl ⟨h,xs,e.sq⟩
   | dic kvs=>simp at h;obtain ⟨vs,e,_⟩:=hr;exact .inr (nv ⟨h,.inl ⟨vs,e⟩⟩)
   | rod kvs=>simp at h
   | ins C fs=>simp at h
   | exc C fr fs=>simp at h
 | non=>simp[tyU] at h
 | bl b=>simp[tyU] at h
 | tup l=>
  unfold RepU at r;obtain ⟨a,ys,rfl,sq,_⟩:=r;have hT:T = "tuple" := by simpa[tyU] using h
  exact nv ⟨hT,ys,sq⟩
def Fm(T:String)(sem:SM)(f:FE)(g:FA):FE:=fun δ L=>(tm).bind fun p=>if tyU T p.1 p.2=true then (g δ p.2).bind fun q=>sem p.1 q.1 q.2 else ψ
theorem Ayl{r:V->ε->Hp->VK->Prop}{sem:SM}(h:Af2 K r sem):∀ σ H Q,lE K (Fm T sem f g) σ H Q->tBM K T r (lE K f) (lA K g) σ H Q:=by
 rintro σ H Q ⟨α,δ,L,A,S,z,L3,e,q⟩;obtain ⟨⟨u,L1⟩,e1,e⟩:=af;simp only at e;split at e
 ·rename_i ht;obtain ⟨⟨us,L2⟩,e2,e⟩:=af;refine ⟨α,δ,L,A,S,u,L1,e1,fun x H1 α1 g1 A1 r1=>⟨At6 A1 r1 ht,α1,δ,L1,A1,ge,us,L2,e2,fun xs H2 α2 g2 A2 r2=>?_⟩⟩;exact h H2 α2 L2 u us x xs z L3 Q A2 (r1.mono g2) r2 e fun v H3 α3 g3 A3 r3=>q v H3 α3 (mo g3) A3 r3
 ·cases e
section
variable {o:Expr}{name:Str}{apos cpos:Pos}{T id:String}{r:V->ε->Hp->VK->Prop}{sem:SM}
theorem Pf(pa:PlainAttrs T)(slot:Slot T name id)(hty:typeOf (.builtin id)=pure (.type "method_descriptor"))(hm:MtR X id r)(h:Af2 X.K r sem)(ho:gy o f)(ha:PAF X (e::es) g)
  (hbase:attributeBase o name X.env (bn o)=bn o:=by rfl)
  (hfew:((f6 cpos (e::es)).all (fun x=>!x.1)&&(dy cpos [] X.env).all (fun x=>x.1.isSome)&&decide ((e::es).length+([]:tu).length+(if ([]:tu).isEmpty then 0 else 1) < 30))=true:=by rfl)
  (hline:(apos.endLine == cpos.line)=true:=by rfl) (hst:bc (e::es)=ZF::bc es:=by rfl) (hpl:(f6 cpos es).any (·.1)=false:=by rfl) :
  PEF X (vz o name apos (e::es) [] cpos) (Fm T sem f g):=
 PE.imp (Azp pa slot hty hm ho ha hbase hfew hline hst hpl) (Ayl h)
end
end
abbrev FN:=aa->UH->Option (U×UH)
inductive spF(K:aK)(n:Nat)(f:FN)(vs:ε)(H:Hp)(Q:VK)(E:XK):Prop
 | mk (α:Ψ) (L:UH) (us:aa) (A:ia K H L) (r:vm us vs) (hl:us.length=n) (u:U) (L':UH) (e:f us L=ξ (u,L')) (q:∀ v H' α',vg->my K H' L'->sd K H' u v->Q v H'):spF K n f vs H Q E
variable {k:Nat}
section
variable {a o:Expr}{p:Pos}{x:Str}{f:Addr}{fd:fA}{ps:Φ}{F:FN}{fc:FE}
def Av(n:Nat)(F:FN)(g:FA):FE:=fun δ L=>(g δ L).bind fun p=>if p.1.length=n then F p.1 p.2 else ψ
theorem Ahb(hF:FnOk X.prog X.w X.K X.mg X.base CX0 k f fd ps (spF X.K n F))(hr:Room k X.A)(hg:Gl X x)(hm:X.mg x=mn)(hk:iA X.K ff=true)(hb:Binds X.K fd ps [])
  (ha:PAF X (e::es) g) (hdb:(x == ("__debug__" : Str))=false:=by decide) (he:bc (e::es)=ZF::bc es:=by rfl) (hpl:(f6 pos es).any (·.1)=false:=by rfl) :
  PEF X Z5 (Av n F g):=by
 refine PE.imp (Apw hF hr hg hm hk hb .nil Ata ha hdb he hpl) ?_;rintro σ H Q ⟨α,δ,L,A,S,z,L3,e,q⟩;obtain ⟨⟨us,L1⟩,e1,e⟩:=af;simp only at e;split at e
 ·rename_i hl;refine ⟨α,δ,L,A,S,us,L1,e1,fun xs H1 α1 g1 A1 r1=>?_⟩;exact ⟨α1,L1,us,A1,by rw[bB];exact r1,hl,z,L3,e,fun v H2 α2 g2 A2 r2=>q v H2 α2 d6 A2 r2⟩
 ·cases e
theorem Bf(hr:IxR X r)(h:Dw X.K r sem)(ha:gy a fa)(hb:gy b fb)(hs:Ahm b):gy (nk a b) (f2 sem fa fb):=PE.imp (Ayi hr ha hb hs) (Agf h)
abbrev FO:=UE->UH->Option (bf×UH)
inductive lO(K:aK)(f:FO)(σ:L2.St)(H:Hp)(Q:bf->Hp->Prop):Prop
 | mk (α:Ψ) (δ:UE) (L:UH) (A:ia K H L) (S:RepS K H α δ σ) (i:bf) (L':UH) (e:tm=ξ (i,L')) (q:∀ H' α',vg->my K H' L'->Q i H'):lO K f σ H Q
def POF(X:Cx)(e:Option Expr)(f:FO):Prop:=PO X e (lO X.K f)
def B8:FO:=fun _ L=>ξ (ψ,L)
def Ey(f:FE):FO:=fun δ L=>(tm).bind fun p=>match p.1 with | .int i=>ξ (ξ i,p.2) | _=>ψ
theorem PO.imp{e:Option Expr}{t t':TO}(h:PO X e t)(hi:∀ σ H Q,t' σ H Q->t σ H Q):PO X e t':=fun pins s σ H Q I q=>h pins s σ H Q I (hi σ H Q q)
theorem He:POF X ψ B8:=by
 refine PO.imp Ap3 ?_;rintro σ H Q ⟨α,δ,L,A,S,z,L3,e,q⟩;cases e;exact q H α gp A
theorem Hb(h:gy e fa):POF X (ξ e) (Ey fa):=by
 refine PO.imp (Aqt h) ?_;rintro σ H Q ⟨α,δ,L,A,S,z,L3,e,q⟩;obtain ⟨⟨u,L1⟩,e1,e⟩:=af;refine ⟨α,δ,L,A,S,u,L1,e1,fun x H1 α1 g1 A1 r1=>?_⟩;cases u with
 | int i=>cases e;exact ⟨i,r1,q H1 α1 g1 A1⟩
 | _=>simp at e
abbrev SS:=U->bf->bf->UH->Option (U×UH)
def Ahe(K:aK)(r:V->bf->bf->Hp->VK->Prop)(sem:SS):Prop:=∀ (H:Hp) (α:Ψ) (L:UH) (u:U) (x:V) (lo hi:bf) (z:U) (L':UH) (Q:VK),ia K H L->gh K H u x->sem u lo hi L=ξ (z,L') ->
 ZI->r x lo hi H Q
def fSl(sem:SS)(f:FE)(l h:FO):FE:=fun δ L=>(tm).bind fun p=>(l δ p.2).bind fun q=>(h δ q.2).bind fun r=>sem p.1 q.1 r.1 r.2
theorem Hj{r:V->bf->bf->Hp->VK->Prop}{sem:SS}{lo hi:Option Expr}{fl fh:FO}{p2:Pos}(hr:SlR X r)(h:Ahe X.K r sem)(he:gy e fa)(hl:POF X lo fl)(hu:POF X hi fh):gy (nk e (.Slice lo hi ψ p2)) (fSl sem fa fl fh):=by
 refine PE.imp (Amy hr he hl hu) ?_;rintro σ H Q ⟨α,δ,L,A,S,z,L3,e,q⟩;obtain ⟨⟨u,L1⟩,e1,e⟩:=af;obtain ⟨⟨i,L2⟩,e2,e⟩:=af;obtain ⟨⟨j,L4⟩,e3,e⟩:=af;refine ⟨α,δ,L,A,S,u,L1,e1,fun x H1 α1 g1 A1 r1=>⟨α1,δ,L1,A1,ge,i,L2,e2,fun H2 α2 g2 A2=>⟨α2,δ,L2,A2,(ge).mono g2,j,L4,e3,fun H3 α3 g3 A3=>?_⟩⟩⟩;exact h H3 α3 L4 u x i j z L3 Q A3 ((r1.mono g2).mono g3) e fun v H4 α4 g4 A4 r4=>q v H4 α4 (mo (g3.trans g4)) A4 r4
def P1(f:FE):FE:=fun δ L=>(tm).bind fun p=>match p.1 with | .int i=>ξ (.int (-i),p.2) | _=>ψ
theorem P4(ha:gy a fa):gy (.UnaryOp .USub a pos) (P1 fa):=by
 refine PE.imp (Azn Aup ha) ?_;rintro σ H Q ⟨α,δ,L,A,S,z,L3,e,q⟩;obtain ⟨⟨u,L1⟩,e1,e⟩:=af;refine ⟨α,δ,L,A,S,u,L1,e1,fun x H1 α1 g1 A1 r1=>?_⟩;cases u with
 | int i=>cases e;exact ⟨i,r1,q _ H1 α1 g1 A1 rfl⟩
 | _=>simp at e
def Qh(u:U)(L:UH):Option Bool:=match u with
 | .non=>ξ false
 | .bl b=>ξ b
 | .int i=>ξ (i != 0)
 | .str y=>if small y.length=true then ξ ((y.length:Int) != 0) else ψ
 | .tup l=>ξ (!l.isEmpty)
 | .ref n=>match L[n]? with
  | some (.lst xs)=>ξ (!xs.isEmpty)
  | some (.ro xs)=>ξ (!xs.isEmpty)
  | some (.dic kvs)=>ξ (!kvs.isEmpty)
  | _=>ψ
theorem Jo{α β:Type}{l:List α}{m:ed}(h:l.length=m.length):l.isEmpty=m.isEmpty:=by
 cases l <;> cases m <;> simp_all
theorem Ar7{x:V}{k:Bool}(A:ia K H L)(r:gh K H u x)(h:Qh u L=ξ k):Awc K x H k:=by
 cases u with
 | non=>unfold RepU at r;subst r;exact (bQ h).symm
 | bl b=>unfold RepU at r;subst r;exact (bQ h).symm
 | int i=>unfold RepU at r;subst r;exact (bQ h).symm
 | str y=>
  unfold RepU at r;subst r;unfold Qh at h;simp only at h;split at h
  ·rename_i hs;cases h;exact cu (Fv hs)
  ·cases h
 | tup l=>
  unfold RepU at r;obtain ⟨a,xs,rfl,s,r⟩:=r;exact nv ⟨xs,s,by rw[<- Jo r.length];exact (bQ h).symm⟩
 | ref n=>
  unfold RepU at r;obtain ⟨a,ea,rfl⟩:=r;unfold Qh at h;simp only at h;cases q:L[n]? with
  | none=>rw[q] at h;simp at h
  | some o=>
   have hr:=A.rep n a o ea q;rw[q] at h;cases o with
   | lst us=>obtain ⟨xs,e,r⟩:=hr;exact .inl ⟨xs,.of e,by rw[<- Jo r.length];exact (bQ h).symm⟩
   | ro us=>obtain ⟨xs,e,r⟩:=hr;exact .inl ⟨xs,e.sq,by rw[<- Jo r.length];exact (bQ h).symm⟩
   | dic kvs=>obtain ⟨vs,e,ek,_⟩:=hr;exact .inr (.inr ⟨vs,e,by rw[<- Jo (show kvs.length=vs.length by simpa using congrArg lC ek)];exact (bQ h).symm⟩)
   | rod kvs=>simp at h
   | ins C fs=>simp at h
   | exc C fr fs=>simp at h
def Gp(f:FE):FT:=fun δ L=>(tm).bind fun p=>(Qh p.1 p.2).map fun k=>(k,p.2)
theorem C3(ha:gy a fa)(he:∀ whole,isTrue a X.env whole=(do let v <- whole;standAt a.pos;holding [v] (truthy v)):=by intro _;rfl):PTF X a (Gp fa):=by
 refine PT.imp (Amc ha he) ?_;rintro σ H Q ⟨α,δ,L,A,S,z,L3,e,q⟩;obtain ⟨⟨u,L1⟩,e1,e⟩:=af;obtain ⟨k,e2,e⟩:=cx;cases e;exact ⟨α,δ,L,A,S,u,_,e1,fun x H1 α1 g1 A1 r1=>⟨_,Ar7 A1 r1 e2,q H1 α1 g1 A1⟩⟩
end
inductive Fl where
 | nx (δ:UE) | rt (u:U) | bk (δ:UE) | ct (δ:UE)
abbrev FS:=UE->UH->Option (Fl×UH)
def Post(K:aK)(D:Ends)(H:Hp)(α:Ψ)(fl:Fl)(L':UH):Prop:=match fl with
 | .nx δ'=>∀ σ' H' α',Gr H α H' α'->Abs K H' α' L'->RepS K H' α' δ' σ'->D.nx σ' H'
 | .bk δ'=>∀ σ' H' α',Gr H α H' α'->Abs K H' α' L'->RepS K H' α' δ' σ'->D.bk σ' H'
 | .ct δ'=>∀ σ' H' α',Gr H α H' α'->Abs K H' α' L'->RepS K H' α' δ' σ'->D.ct σ' H'
 | .rt u=>∀ v H' α',Gr H α H' α'->Abs K H' α' L'->RepU K H' α' u v->D.rt v H'
theorem Post.from{D:Ends}{α1:Ψ}{fl:Fl}{L':UH}(g:je H H1 α1)(p:Post K D H α fl L'):Post K D H1 α1 fl L':=by
 cases fl with
 | nx δ=>exact fun σ' H' α' g'=>p σ' H' α' (g.trans g')
 | bk δ=>exact fun σ' H' α' g'=>p σ' H' α' (g.trans g')
 | ct δ=>exact fun σ' H' α' g'=>p σ' H' α' (g.trans g')
 | rt u=>exact fun v H' α' g'=>p v H' α' (g.trans g')
inductive lS(K:aK)(f:FS)(D:Ends)(σ:L2.St)(H:Hp):Prop
 | mk (α:Ψ) (δ:UE) (L:UH) (A:ia K H L) (S:RepS K H α δ σ) (fl:Fl) (L':UH) (e:tm=ξ (fl,L')) (q:Post K D H α fl L'):lS K f D σ H
def PSF(X:Cx)(st:Stmt)(f:FS):Prop:=PS X st (lS X.K f)
def Xc(X:Cx)(st:nh)(f:FS):Prop:=PSs X st (lS X.K f)
variable {fe:FE}
section
variable {st:Stmt}{rest:nh}{f g:FS}
theorem PS.imp{t t':TS}(h:PS X st t)(hi:∀ D σ H,t' D σ H->t D σ H):PS X st t':=fun pins s σ H D I q=>h pins s σ H D I (hi D σ H q)
theorem PSs.imp{sts:nh}{t t':TS}(h:PSs X sts t)(hi:∀ D σ H,t' D σ H->t D σ H):PSs X sts t':=fun pins s σ H D I q=>h pins s σ H D I (hi D σ H q)
def Cy:FS:=fun δ L=>ξ (.nx δ,L)
def Az(f g:FS):FS:=fun δ L=>(tm).bind fun p=>match p.1 with | .nx δ'=>g δ' p.2 | fl=>ξ (fl,p.2)
theorem Co:Xc X [] Cy:=by
 refine PSs.imp Api ?_;rintro D σ H ⟨α,δ,L,A,S,fl,L',e,q⟩;cases e;exact q σ H α gp A S
theorem Ah(h1:PSF X st f)(h2:Xc X rest g):Xc X (st::rest) (Az f g):=by
 refine PSs.imp (Akz h1 h2) ?_;rintro D σ H ⟨α,δ,L,A,S,fl,L',e,q⟩;obtain ⟨⟨fl1,L1⟩,e1,e⟩:=af;refine ⟨α,δ,L,A,S,fl1,L1,e1,?_⟩;cases fl1 with
 | nx δ1=>exact fun σ1 H1 α1 g1 A1 S1=>⟨α1,δ1,L1,A1,S1,fl,L',e,q.from g1⟩
 | rt u=>cases e;exact q
 | bk δ1=>cases e;exact q
 | ct δ1=>cases e;exact q
theorem Am(h1:PSF X st f):Xc X [st] f:=Apg h1
def B0(f:FE):FS:=fun δ L=>(tm).map fun p=>(.rt p.1,p.2)
def Hv(f:FE):FS:=fun δ L=>(tm).map fun p=>(.nx δ,p.2)
def Ayt:FS:=fun _ L=>ξ (.rt .non,L)
theorem Ay(he:gy e fe):PSF X (.Return (ξ e) pos) (B0 fe):=by
 refine PS.imp (Aub he) ?_;rintro D σ H ⟨α,δ,L,A,S,fl,L',e,q⟩;obtain ⟨⟨u,L1⟩,e1,e⟩:=cx;cases e;exact ⟨α,δ,L,A,S,u,_,e1,fun v H1 α1 g1 A1 r1=>q v H1 α1 g1 A1 r1⟩
theorem Hg(he:gy e fe)(hs:vx e ψ pos.line=pure false:=by rfl):PSF X (.Expr e pos) (Hv fe):=by
 refine PS.imp (Aqs he hs) ?_;rintro D σ H ⟨α,δ,L,A,S,fl,L',e,q⟩;obtain ⟨⟨u,L1⟩,e1,e⟩:=cx;cases e;exact ⟨α,δ,L,A,S,u,_,e1,fun v H1 α1 g1 A1 r1=>q σ H1 α1 g1 A1 ge⟩
def Fb(c:FT)(f g:FS):FS:=fun δ L=>(c δ L).bind fun p=>if p.1=true then f δ p.2 else g δ p.2
theorem C7{a b:nh}{tc:FT}(hc:PTF X c tc)(ha:Xc X a f)(hb:Xc X b g):PSF X (.If c a b pos) (Fb tc f g):=by
 refine PS.imp (Azx hc ha hb) ?_;rintro D σ H ⟨α,δ,L,A,S,fl,L',e,q⟩;obtain ⟨⟨u,L1⟩,e1,e⟩:=af;refine ⟨α,δ,L,A,S,u,L1,e1,fun H1 α1 g1 A1=>?_⟩;cases u with
 | true=>exact Afc ⟨α1,δ,L1,A1,ge,fl,L',e,q.from g1⟩
 | false=>exact Ael ⟨α1,δ,L1,A1,ge,fl,L',e,q.from g1⟩
end
abbrev FG:=U->UE->UH->Option (UE×UH)
abbrev FGs:=aa->UE->UH->Option (UE×UH)
inductive lG(K:aK)(f:FG)(v:V)(σ:L2.St)(H:Hp)(Q:L2.St->Hp->Prop):Prop
 | mk (α:Ψ) (δ:UE) (L:UH) (u:U) (A:ia K H L) (S:RepS K H α δ σ) (r:gh K H u v) (δ':UE) (L':UH) (e:f u δ L=ξ (δ',L')) (q:∀ σ' H' α',vg->my K H' L'->RepS K H' α' δ' σ'->Q σ' H'):lG K f v σ H Q
inductive lGs(K:aK)(f:FGs)(vs:ε)(σ:L2.St)(H:Hp)(Q:L2.St->Hp->Prop):Prop
 | mk (α:Ψ) (δ:UE) (L:UH) (us:aa) (A:ia K H L) (S:RepS K H α δ σ) (r:vm us vs) (δ':UE) (L':UH) (e:f us δ L=ξ (δ',L')) (q:∀ σ' H' α',vg->my K H' L'->RepS K H' α' δ' σ'->Q σ' H'):lGs K f vs σ H Q
def PGF(X:Cx)(e:Expr)(f:FG):Prop:=PG X e (lG X.K f)
def Ari(X:Cx)(es:fj)(f:FGs):Prop:=PGs X es (lGs X.K f)
variable {tg:Expr}
section
theorem PG.imp{t t':TG}(h:PG X e t)(hi:∀ v σ H Q,t' v σ H Q->t v σ H Q):PG X e t':=fun pins s σ H v u Q I r q=>h pins s σ H v u Q I r (hi v σ H Q q)
theorem PGs.imp{t t':TGs}(h:PGs X es t)(hi:∀ v σ H Q,t' v σ H Q->t v σ H Q):PGs X es t':=fun pins s σ H v u Q I r q=>h pins s σ H v u Q I r (hi v σ H Q q)
def gN(i:Nat):FG:=fun u δ L=>ξ (δ.set i br,L)
theorem Ao{x:Str}(hN:X.N.Nodup)(hi:X.N[i]? = jw:=by rfl)(hx:sj x:=by first | exact rL rfl | exact pM rfl)(hf:X.fn x=true\/mq=i9:=by first | exact .inl rfl | exact .inr rfl):PGF X (.Name x pos) (gN i):=by
 refine PG.imp (Aic (i:=i) hN hi hx hf) ?_;rintro v σ H Q ⟨α,δ,L,u,A,S,r,δ',L',e,q⟩;cases e;exact q _ H α gp A (S.set i r)
def gNil:FGs:=fun us δ L=>match us with | []=>ξ (δ,L) | _=>ψ
def gCons(f:FG)(g:FGs):FGs:=fun us δ L=>match us with | []=>ψ | u::r=>(f u δ L).bind fun p=>g r p.1 p.2
theorem Ed:Ari X [] MR.gNil:=by
 refine PGs.imp Aq6 ?_;rintro vs σ H Q ⟨α,δ,L,us,A,S,r,δ',L',e,q⟩;cases us with
 | nil=>cases e;exact ⟨by unfold RepL at r;exact r,q σ H α gp A S⟩
 | cons u us=>cases e
theorem Bk{f:FG}{g:FGs}(h1:PGF X e f)(h2:Ari X es g)(hs:(me (e::es)).map (·.2)=assign e X.env::(me es).map (·.2):=by rfl):Ari X (e::es) (MR.gCons f g):=by
 refine PGs.imp (Aoi h1 h2 hs) ?_;rintro vs σ H Q ⟨α,δ,L,us,A,S,r,δ',L',e,q⟩;cases us with
 | nil=>cases e
 | cons u us=>
  unfold RepL at r;obtain ⟨x,xs,rfl,r1,r2⟩:=r;obtain ⟨⟨δ1,L1⟩,e1,e⟩:=af;refine ⟨x,xs,rfl,α,δ,L,u,A,S,r1,δ1,L1,e1,fun σ1 H1 α1 g1 A1 S1=>?_⟩;exact ⟨α1,δ1,L1,us,A1,S1,r2.mono g1,δ',L',e,fun σ2 H2 α2 g2 A2 S2=>q σ2 H2 α2 d6 A2 S2⟩
def gTup(n:Nat)(g:FGs):FG:=fun u δ L=>match u with | .tup us=>if us.length=n then g us δ L else ψ | _=>ψ
theorem F3{g:FGs}(hc:X.calm=true)(h:Ari X es g)(hn:(me es).length=n:=by rfl)(hst:(me es).findIdx? (·.1)=ψ:=by rfl):PGF X (.Tuple es k pos) (MR.gTup n g):=by
 refine PG.imp (Av7 hc h hn hst) ?_;rintro v σ H Q ⟨α,δ,L,u,A,S,r,δ',L',e,q⟩;cases u with
 | tup us=>
  unfold RepU at r;obtain ⟨a,xs,rfl,s,r⟩:=r;unfold MR.gTup at e;simp only at e;split at e
  ·rename_i hl;exact ⟨a,xs,rfl,s,by rw[<- r.length];exact hl,α,δ,L,us,A,S,r,δ',L',e,q⟩
  ·cases e
 | _=>simp[MR.gTup] at e
def A9(fe:FE)(g:FG):FS:=fun δ L=>(fe δ L).bind fun p=>(g p.1 δ p.2).map fun q=>(.nx q.1,q.2)
theorem Aaw{g:FG}(he:gy e fe)(hg:PGF X tg g)(hs:swapsWithSole [tg] e pos.line X.env=pure false:=by rfl)(hw:swappedStores [tg] e X.env=pure ψ:=by rfl)(h1:(me [tg]).map (·.2)=[assign tg X.env]:=by rfl) :
  PSF X (.Assign [tg] e pos) (A9 fe g):=by
 refine PS.imp (Au5 he hg hs hw h1) ?_;rintro D σ H ⟨α,δ,L,A,S,fl,L',e,q⟩;obtain ⟨⟨u,L1⟩,e1,e⟩:=af;obtain ⟨⟨δ2,L2⟩,e2,e⟩:=cx;cases e;exact ⟨α,δ,L,A,S,u,L1,e1,fun v H1 α1 g1 A1 r1=>⟨α1,δ,L1,u,A1,ge,r1,δ2,_,e2,fun σ2 H2 α2 g2 A2 S2=>q σ2 H2 α2 d6 A2 S2⟩⟩
theorem Ar{i:Nat}{x:Str}{fe:FE}{pos':Pos}(hN:X.N.Nodup)(he:gy e fe)(hi:X.N[i]? = jw:=by rfl)(hx:sj x:=by first | exact rL rfl | exact pM rfl)
  (hs:vx e (ξ (.Name x pos')) pos.line=pure false:=by rfl) (hf:X.fn x=true\/mq=i9:=by first | exact .inl rfl | exact .inr rfl) :
  PSF X (.Assign [.Name x pos'] e pos) (a8 fe i):=by
 refine PS.imp (Awk (i:=i) hN hi hx he hs hf) ?_;rintro D σ H ⟨α,δ,L,A,S,fl,L',e,q⟩;obtain ⟨⟨u,L1⟩,e1,e⟩:=af;obtain ⟨⟨δ2,L2⟩,e2,e⟩:=cx;cases e;cases e2;exact ⟨α,δ,L,A,S,u,_,e1,fun v H1 α1 g1 A1 r1=>q _ H1 α1 g1 A1 ((ge).set i r1)⟩
end
def Fy(L:UH)(n:Nat):Option aa:=match L[n]? with
 | some (.lst us)=>ξ us
 | _=>ψ
def Aq(L:UH)(n:Nat):Option aa:=match L[n]? with
 | some (.lst us)=>ξ us
 | some (.ro us)=>ξ us
 | _=>ψ
inductive IU where
 | seq (us:aa) | ref (n:Nat) | enm (n:Nat) | zip2 (n m:Nat) | zipT (us:aa) (m:Nat) | zipL (n:Nat) (ws:aa)
noncomputable def Mr:az->az->Option U
 | some x,ξ y=>ξ (.tup [x,y])
 | _,_=>ψ
def IU.at(i:IU)(k:Nat)(L:UH):Option az:=match i with
 | .seq us=>ξ us[k]?
 | .ref n=>match L[n]? with
  | some (.lst us)=>ξ us[k]?
  | some (.ro us)=>ξ us[k]?
  | _=>ψ
 | .enm n=>(sy).map fun us=>(us[k]?).map fun u=>.tup [.int k,u]
 | .zip2 n m=>(sy).bind fun us=>(Aq L m).map fun ws=>Mr us[k]? ws[k]?
 | .zipT us m=>(Aq L m).map fun ws=>Mr us[k]? ws[k]?
 | .zipL n ws=>(sy).map fun us=>Mr us[k]? ws[k]?
def IU.size(i:IU)(L:UH):Nat:=match i with
 | .seq us=>us.length
 | .ref n=>match L[n]? with
  | some (.lst us)=>us.length
  | some (.ro us)=>us.length
  | _=>0
 | .enm n=>match Aq L n with
  | some us=>us.length
  | none=>0
 | .zip2 n m=>match Aq L n,Aq L m with
  | some us,ξ ws=>min us.length ws.length
  | _,_=>0
 | .zipT us m=>match Aq L m with
  | some ws=>min us.length ws.length
  | none=>0
 | .zipL n ws=>match Aq L n with
  | some us=>min us.length ws.length
  | none=>0
abbrev FI:=UE->UH->Option (IU×UH)
def Pd(K:aK)(J:It)(i:IU)(H:Hp)(α:Ψ):Prop:=∀ (H2:Hp) (α2:Ψ) (L2:UH),je H H2 α2->Abs K H2 α2 L2->∀ k:Nat,
 (∀ u,i.at k L2=ξ br->J.go k H2/\∀ x H3,J.yld k H2 x H3->Gr H2 α2 H3 α2/\Abs K H3 α2 L2/\RepU K H3 α2 u x)/\(i.at k L2=ξ ψ->J.stop k H2)
inductive lI(K:aK)(f:FI)(σ:L2.St)(H:Hp)(R:It->Hp->Prop):Prop
 | mk (α:Ψ) (δ:UE) (L:UH) (A:ia K H L) (S:RepS K H α δ σ) (i:IU) (L':UH) (e:tm=ξ (i,L')) (q:∀ J H' α',vg->my K H' L'->Pd K J i H' α'->R J H'):lI K f σ H R
def PIF(X:Cx)(tg iter:Expr)(f:FI):Prop:=PI X tg iter (lI X.K f)
variable {iter:Expr}{fi:FI}
section
variable {l:Expr}
theorem PI.imp{t t':TI}(h:PI X tg iter t)(hi:∀ σ H R,t' σ H R->t σ H R):PI X tg iter t':=fun pins s σ H R I q=>h pins s σ H R I (hi σ H R q)
theorem PI.or{t t':TI}(h:PI X tg iter t)(h':PI X tg iter t'):PI X tg iter (fun σ H R=>t σ H R\/t' σ H R):=fun pins s σ H R I q=>by
 rcases q with q | q
 ·exact h pins s σ H R I q
 ·exact h' pins s σ H R I q
def Qo(u:U)(L:UH):Option IU:=match u with
 | .tup us=>ξ (.seq us)
 | .ref n=>match L[n]? with
  | some (.lst _)=>ξ (di)
  | some (.ro _)=>ξ (di)
  | _=>ψ
 | _=>ψ
theorem Ahl(ea:α[n]? = m7):Pd K (Itl K a) di H α:=by
 intro H2 α2 L2 g A2 k;have ea2:=g.at ea;have go:∀ (us:aa) (xs:ε),SqL K H2 a xs->RepL K H2 α2 us xs->(∀ ys,SqL K H2 a ys->True)->(∀ u,us[k]? = br->(Itl K a).go k H2/\∀ x H3,(Itl K a).yld k H2 x H3->Gr H2 α2 H3 α2/\Abs K H3 α2 L2/\RepU K H3 α2 u x)/\(us[k]? = ψ->(Itl K a).stop k H2):=by
  intro us xs sq r _;refine ⟨fun u eu=>?_,fun eu=>?_⟩
  ·obtain ⟨x,ex,rx⟩:=r.get eu;refine ⟨⟨xs,x,sq,ex⟩,?_⟩;rintro y H3 ⟨rfl,hy⟩;have:=hy xs sq;rw[ex] at this;cases this;exact ⟨gp,A2,rx⟩
  ·exact ⟨xs,sq,by rw[<- r.length];exact cJ.mp eu⟩
 unfold IU.at;simp only;cases q:L2[n]? with
 | none=>simp
 | some o=>
  have hr:=A2.rep n a o ea2 q;cases o with
  | lst us=>
   obtain ⟨xs,e,r⟩:=hr;obtain ⟨h1,h2⟩:=go us xs (.of e) r fun _ _=>trivial
   exact ⟨fun u eu=>h1 u (bQ eu),fun eu=>h2 (bQ eu)⟩
  | ro us=>
   obtain ⟨xs,e,r⟩:=hr;obtain ⟨h1,h2⟩:=go us xs e.sq r fun _ _=>trivial
   exact ⟨fun u eu=>h1 u (bQ eu),fun eu=>h2 (bQ eu)⟩
  | dic kvs=>simp
  | rod kvs=>simp
  | ins C fs=>simp
  | exc C fr fs=>simp
theorem Ary(sq:lv H a xs)(r:vw):Pd K (Itt K a) (.seq us) H α:=by
 intro H2 α2 L2 g A2 k;have sq2:=g.st.sqT (K:=K) sq;have r2:=l6;refine ⟨fun u eu=>?_,fun eu=>?_⟩
 ·obtain ⟨x,ex,rx⟩:=r2.get (bQ eu);refine ⟨⟨xs,x,sq2,ex⟩,?_⟩;rintro y H3 ⟨rfl,hy⟩;have:=hy xs sq2;rw[ex] at this;cases this;exact ⟨gp,A2,rx⟩
 ·exact ⟨xs,sq2,by rw[<- r2.length];exact cJ.mp (bQ eu)⟩
theorem Ape(lo:Int)(n:Nat):Pd K (Itr lo n) (.seq ((bJ n).map fun i=>U.int (lo+(i:Nat)))) H α:=by
 intro H2 α2 L2 g A2 k;refine ⟨fun u eu=>?_,fun eu=>?_⟩
 ·have eu:=bQ eu;rw[aX] at eu;by_cases hk:k < n
  ·rw[gC hk] at eu;simp at eu;refine ⟨hk,?_⟩;rintro x H3 ⟨rfl,rfl⟩;subst eu;exact ik gp A2
  ·rw[cN (by simpa using hk)] at eu;simp at eu
 ·have:=cJ.mp (bQ eu);show n<=k;simpa using this
def A7(f:FE):FI:=fun δ L=>(tm).bind fun p=>(Qo p.1 p.2).map fun i=>(i,p.2)
theorem Bm(h:gy l fe):PIF X tg l (A7 fe):=by
 refine PI.imp (PI.or (Aqi h) (Auu h)) ?_;rintro σ H R ⟨α,δ,L,A,S,i,L3,e,q⟩;obtain ⟨⟨u,L1⟩,e1,e⟩:=af;obtain ⟨j,e2,e⟩:=cx;cases e;cases u with
 | tup us=>
  cases e2;refine .inr ⟨α,δ,L,A,S,_,_,e1,fun x H1 α1 g1 A1 r1=>?_⟩;unfold RepU at r1;obtain ⟨a,xs,rfl,sq,r⟩:=r1;exact ⟨a,rfl,⟨xs,sq⟩,q _ H1 α1 g1 A1 (Ary sq r)⟩
 | ref n=>
  refine .inl ⟨α,δ,L,A,S,_,_,e1,fun x H1 α1 g1 A1 r1=>?_⟩;unfold RepU at r1;obtain ⟨a,ea,rfl⟩:=r1;refine gu a ?_;unfold Qo at e2;simp only at e2;cases w:L1[n]? with
  | none=>simp only[w] at e2;cases e2
  | some o=>
   have hr:=A1.rep n a o ea w;cases o with
   | lst us=>simp only[w] at e2;cases e2;obtain ⟨xs,e,r⟩:=hr;exact ⟨⟨xs,.of e⟩,q _ H1 α1 g1 A1 (Ahl ea)⟩
   | ro us=>simp only[w] at e2;cases e2;obtain ⟨xs,e,r⟩:=hr;exact ⟨⟨xs,e.sq⟩,q _ H1 α1 g1 A1 (Ahl ea)⟩
   | dic kvs=>simp only[w] at e2;cases e2
   | rod kvs=>simp only[w] at e2;cases e2
   | ins C fs=>simp only[w] at e2;cases e2
   | exc C fr fs=>simp only[w] at e2;cases e2
 | _=>cases e2
noncomputable def Bo(lo:Int)(n:Nat):aa:=(bJ n).map fun i=>U.int (lo+(i:Nat))
def Gv(g:FA):FI:=fun δ L=>(g δ L).bind fun p=>match p.1 with
 | [.int j]=>if -(2 ^ 62)<=j/\j < 2 ^ 62 then ξ (.seq (su 0),p.2) else ψ
 | _=>ψ
def Asu(g:FA):FI:=fun δ L=>(g δ L).bind fun p=>match p.1 with
 | [.int i,.int j]=>if (-(2 ^ 62)<=i/\i < 2 ^ 62)/\-(2 ^ 62)<=j/\j < 2 ^ 62 then ξ (.seq (Bo i (j - i).toNat),p.2) else ψ
 | _=>ψ
theorem RepL.one(h:vv [u]):∃ x,xs=[x]/\gh K H u x:=by
 unfold RepL at h;obtain ⟨x,r,e,h1,h2⟩:=h;unfold RepL at h2;subst h2;exact ⟨x,e,h1⟩
theorem RepL.two{w:U}(h:vv [u,w]):∃ x y,xs=[x,y]/\gh K H u x/\gh K H w y:=by
 unfold RepL at h;obtain ⟨x,r,e,h1,h2⟩:=h;obtain ⟨y,e2,h3⟩:=h2.one;subst e2;exact ⟨x,y,e,h1,h3⟩
theorem Ll{a:Expr}{p:Pos}(hg:Gl X "range")(hm:X.mg "range" = ψ)(ha:PAF X [a] g)(hs:bc [a]=[ZU]:=by rfl):PIF X tg (tz "range" p [a] []) (Gv g):=by
 refine PI.imp (Akr hg hm ha hs) ?_;rintro σ H R ⟨α,δ,L,A,S,i,L3,e,q⟩;obtain ⟨⟨us,L1⟩,e1,e⟩:=af;refine ⟨α,δ,L,A,S,us,L1,e1,fun xs H1 α1 g1 A1 r1=>?_⟩;simp only at e;split at e
 ·rename_i _ j;split at e
  ·rename_i hj;cases e;obtain ⟨x,rfl,rx⟩:=r1.one;unfold RepU at rx;subst rx;exact ⟨j,rfl,hj.1,hj.2,q _ H1 α1 g1 A1 (Ape 0 _)⟩
  ·cases e
 ·cases e
def My(i:IU)(g:FG)(body:FS):Nat->Nat->UE->UH->Option (Fl×UH)
 | 0,_,_,_=>ψ
 | m+1,k,δ,L=>match i.at k L with
  | none=>ψ
  | some ψ=>ξ (.nx δ,L)
  | some (ξ u)=>(g u δ L).bind fun p=>(body p.1 p.2).bind fun q=>match q.1 with
   | .nx δ'=>My i g body m (k+1) δ' q.2
   | .ct δ'=>My i g body m (k+1) δ' q.2
   | .bk δ'=>ξ (.nx δ',q.2)
   | .rt w=>ξ (.rt w,q.2)
def Fu(fi:FI)(g:FG)(body:FS):FS:=fun δ L=>(fi δ L).bind fun p=>My p.1 g body (p.1.size p.2+1) 0 δ p.2
inductive FI_(K:aK)(D:Ends)(H1:Hp)(α1:Ψ)(fl:Fl)(L':UH)(go:UE->UH->Option (Fl×UH))(σ2:_root_.L2.St)(H2:Hp):Prop
 | mk (α2:Ψ) (δ2:UE) (L2:UH) (g2:Gr H1 α1 H2 α2) (A2:Abs K H2 α2 L2) (S2:RepS K H2 α2 δ2 σ2) (e2:go δ2 L2=ξ (fl,L')) (q2:Post K D H2 α2 fl L'):FI_ K D H1 α1 fl L' go σ2 H2
theorem El{body:nh}{g:FG}{fb:FS}(hp:vD bj X.A X.env X.xe)(hc:X.calm=true)(hi:PIF X tg iter fi)(hg:PGF X tg g)(hb:Xc X body fb)
  (hs:∀ x,lu iter x=pure x:=by intro _;rfl):PSF X (.For tg iter body [] pos) (Fu fi g fb):=by
 refine PS.imp (Avg hp hc hi hg hb hs) ?_;rintro D σ H ⟨α,δ,L,A,S,fl,L',e,q⟩;obtain ⟨⟨it,L1⟩,e1,e⟩:=af;refine ⟨α,δ,L,A,S,it,L1,e1,fun J H1 α1 g1 A1 hJ=>?_⟩;refine ⟨fun k m=>FI_ X.K D H1 α1 fl L' (My it g fb m k),⟨_,α1,δ,L1,gp,A1,ge,e,q.from g1⟩,?_⟩;rintro k m σ2 H2 ⟨α2,δ2,L2,g2,A2,S2,e2,q2⟩;cases m with
 | zero=>cases e2
 | succ m=>
  obtain ⟨hgo,hstop⟩:=hJ H2 α2 L2 g2 A2 k;unfold My at e2;cases hat:it.at k L2 with
  | none=>rw[hat] at e2;cases e2
  | some o=>
   cases o with
   | none=>
    rw[hat] at e2;cases e2;exact .inl ⟨hstop hat,q2 σ2 H2 α2 gp A2 S2⟩
   | some u=>
    rw[hat] at e2;obtain ⟨go,yld⟩:=hgo u hat;obtain ⟨⟨δ3,L3⟩,e3,e2⟩:=aB.mp e2;obtain ⟨⟨fl4,L4⟩,e4,e2⟩:=aB.mp e2;refine .inr ⟨go,FI_ X.K D H1 α1 fl L' (My it g fb m (k+1)),fun σ5 H5 h5=>⟨m,eK _,h5⟩,fun x H3 y3=>?_⟩;obtain ⟨g3,A3,r3⟩:=yld x H3 y3;refine ⟨α2,δ2,L2,u,A3,S2.mono g3,r3,δ3,L3,e3,fun σ4 H4 α4 g4 A4 S4=>⟨α4,δ3,L3,A4,S4,fl4,L4,e4,?_⟩⟩;have gA:=g2.trans (g3.trans g4);have gB:=g3.trans g4;cases fl4 with
    | nx δ5=>exact fun σ5 H5 α5 g5 A5 S5=>⟨α5,δ5,L4,gA.trans g5,A5,S5,e2,q2.from (gB.trans g5)⟩
    | ct δ5=>exact fun σ5 H5 α5 g5 A5 S5=>⟨α5,δ5,L4,gA.trans g5,A5,S5,e2,q2.from (gB.trans g5)⟩
    | bk δ5=>cases e2;exact fun σ5 H5 α5 g5 A5 S5=>q2 σ5 H5 α5 (gB.trans g5) A5 S5
    | rt w=>cases e2;exact fun v H5 α5 g5 A5 r5=>q2 v H5 α5 (gB.trans g5) A5 r5
def Dz(c:FT)(body:FS):Nat->UE->UH->Option (Fl×UH)
 | 0,_,_=>ψ
 | m+1,δ,L=>(c δ L).bind fun p=>if p.1=true then (body δ p.2).bind fun q=>match q.1 with
   | .nx δ'=>Dz c body m δ' q.2
   | .ct δ'=>Dz c body m δ' q.2
   | .bk δ'=>ξ (.nx δ',q.2)
   | .rt w=>ξ (.rt w,q.2)
  else ξ (.nx δ,p.2)
inductive WI_(K:aK)(D:Ends)(fl:Fl)(L':UH)(go:UE->UH->Option (Fl×UH))(σ2:_root_.L2.St)(H2:Hp):Prop
 | mk (α2:Ψ) (δ2:UE) (L2:UH) (A2:Abs K H2 α2 L2) (S2:RepS K H2 α2 δ2 σ2) (e2:go δ2 L2=ξ (fl,L')) (q2:Post K D H2 α2 fl L'):WI_ K D fl L' go σ2 H2
theorem R8{body:nh}{tc:FT}{fb:FS}(n:Nat)(hp:vD bj X.A X.env X.xe)(hc:PTF X c tc)(hb:Xc X body fb):PSF X (.While c body [] pos) (Dz tc fb n):=by
 refine PS.imp (An0 hp hc hb) ?_;rintro D σ H ⟨α,δ,L,A,S,fl,L',e,q⟩;refine ⟨fun m=>WI_ X.K D fl L' (Dz tc fb m),⟨n,α,δ,L,A,S,e,q⟩,?_⟩;rintro m σ2 H2 ⟨α2,δ2,L2,A2,S2,e2,q2⟩;cases m with
 | zero=>cases e2
 | succ m=>
  unfold Dz at e2;obtain ⟨⟨b,L3⟩,e3,e2⟩:=aB.mp e2;refine ⟨α2,δ2,L2,A2,S2,b,L3,e3,fun H3 α3 g3 A3=>?_⟩;cases b with
  | false=>cases e2;exact Ael (q2 σ2 H3 α3 g3 A3 (S2.mono g3))
  | true=>
   obtain ⟨⟨fl4,L4⟩,e4,e2⟩:=aB.mp e2;refine Afc ⟨WI_ X.K D fl L' (Dz tc fb m),fun σ5 H5 h5=>⟨m,eK _,h5⟩,?_⟩;refine ⟨α3,δ2,L3,A3,S2.mono g3,fl4,L4,e4,?_⟩;cases fl4 with
   | nx δ5=>exact fun σ5 H5 α5 g5 A5 S5=>⟨α5,δ5,L4,A5,S5,e2,q2.from (g3.trans g5)⟩
   | ct δ5=>exact fun σ5 H5 α5 g5 A5 S5=>⟨α5,δ5,L4,A5,S5,e2,q2.from (g3.trans g5)⟩
   | bk δ5=>cases e2;exact fun σ5 H5 α5 g5 A5 S5=>q2 σ5 H5 α5 (g3.trans g5) A5 S5
   | rt w=>cases e2;exact fun v H5 α5 g5 A5 r5=>q2 v H5 α5 (g3.trans g5) A5 r5
end
def fnU(n m:Nat)(body:FS):FN:=fun us L=>if us.length=m then (body (us.map ξ++bP (n - us.length) ψ) L).bind fun p=>match p.1 with
 | .rt u=>ξ (u,p.2)
 | .nx _=>ξ (.non,p.2)
 | _=>ψ
 else ψ
variable {P:cL}{w:dC}
section
variable {mg:Str->bi}{base:Heap}
theorem Fun.okF{x qual:Str}{st:Stmt}{f:Addr}{fd:fA}{N ps:Φ}{body:FS}(F:Fun K x qual st f fd)(S:b8 N ps st)
  (hbody:∀ (cdv:aJ) (A:dN) (outer:List mM) (s:aO) (H:Hp) (E:XK),Room k (A.deeper (ib qual (Ap st) f cdv))->Xc (Acs CX0 P w K mg base N qual (Ap st) f cdv A outer s H E).nox (Fh st) body) :
  FnOk P w K mg base CX0 (k+1) f fd ps (oo ps.length (fnU N.length ps.length body)):=by
 refine F.ok S (fun vs H Q E ⟨α,L,us,A,r,hl,_,_,_,_⟩=>by rw[<- r.length];exact hl) (fun cdv A outer s H vs Q E hr h=>?_);obtain ⟨α,L,us,Ab,r,hl,u,L',e,q⟩:=h;refine ⟨_,hbody cdv A outer s H E hr,?_⟩;unfold fnU at e;rw[if_pos hl] at e;obtain ⟨⟨fl,L1⟩,e1,e⟩:=af;refine ⟨α,_,L,Ab,RepS.start N r,fl,L1,e1,?_⟩;cases fl with
 | rt w=>cases e;exact q
 | nx δ=>cases e;exact fun σ' H' α' g' A' S'=>q .non H' α' g' A' rfl
 | bk δ=>cases e
 | ct δ=>cases e
end
section
theorem Wz(h:Fy L n=mw):L[n]? = Ξ us:=by
 unfold Fy at h;split at h
 ·rename_i e;cases h;exact e
 ·cases h
theorem Ra(A:ia K H L)(h:Fy L n=mw):∃ a xs,α[n]? = m7/\j7=Ξ xs/\vw:=by
 obtain ⟨a,ea,xs,e,r⟩:=A.addr (Wz h);exact ⟨a,xs,ea,e,r⟩
theorem Im(A:ia K H L)(h:sy=mw):∃ a xs,α[n]? = m7/\qk K a xs/\vw:=by
 unfold Aq at h;split at h
 ·rename_i e;cases h;obtain ⟨a,ea,xs,e,r⟩:=A.addr e;exact ⟨a,xs,ea,.of e,r⟩
 ·rename_i e;cases h;obtain ⟨a,ea,xs,e,r⟩:=A.addr e;exact ⟨a,xs,ea,e.sq,r⟩
 ·cases h
theorem Abs.setL{ys:ε}{ws:aa}(A:ia K H L)(h:Fy L n=mw)(ea:α[n]? = m7)(e:j7=Ξ xs)(r:vm ws ys) :
  Gr H α (cb H a ys) α/\ia K (cb H a ys) (ml n ws):=by
 have g:je H (cb H a ys) α:=⟨⟨[],Za⟩,.write e (by exact trivial) _⟩;obtain ⟨A',_⟩:=A.put (o:=.lst ys) (u:=.lst ws) ea (Wz h) rfl rfl e (by exact trivial) ⟨ys,upd_same,l6⟩;exact ⟨g,A'⟩
theorem RepU.ref_of(A:ia K H L)(h:gh K H di x):∃ a,α[n]? = m7/\x = bp:=by unfold RepU at h;exact h
end
def Bd:S2:=fun u w L=>match u,w with
 | .int i,.int j=>ξ (.int (i+j),L)
 | .str a,.str b=>if small (a.length+b.length)=true then ξ (.str (a++b),L) else ψ
 | .tup a,.tup b=>if a.isEmpty=false/\small (a.length+b.length)=true then ξ (.tup (a++b),L) else ψ
 | .ref n,.ref m=>(Fy L n).bind fun a=>(Fy L m).bind fun b=>if small (a.length+b.length)=true then ξ (cf,L++[.lst (a++b)]) else ψ
 | _,_=>ψ
def Ane(K:aK):R2:=fun x y H Q=>rI0 (fun i j=>.int (i+j)) x y H Q\/(∃ i j,x = .str i/\y = .str j/\i.length+j.length<=sizeLine/\Q (.str (i++j)) H)\/Asv K x y H Q\/Azi x y H Q
theorem Cu:OpR X (gJ .Add) (Ane X.K):=Avd.or (Aep.or (Apz.or Ava))
theorem Cs:Dw K (Ane K) Bd:=by
 intro H α L u w x y z L' Q A ru rw e q;unfold Bd at e;split at e
 ·cases e;unfold RepU at ru rw;exact .inl ⟨_,_,ru,rw,q _ H α gp A rfl⟩
 ·split at e
  ·rename_i h;cases e;unfold RepU at ru rw;exact nv ⟨_,_,ru,rw,Fv h,q _ H α gp A rfl⟩
  ·cases e
 ·rename_i a b;split at e
  ·rename_i h;cases e;unfold RepU at ru rw;obtain ⟨p,xs,rfl,s1,r1⟩:=ru;obtain ⟨p2,ys,rfl,s2,r2⟩:=rw;have e1:=r1.length;have e2:=r2.length;refine .inr (nv ⟨p,p2,xs,ys,rfl,rfl,s1,s2,?_,by rw[<- e1,<- e2];exact Fv h.2,fun hy=>?_,fun hy l hl=>?_⟩)
   ·intro hx;subst hx;cases a with
    | nil=>simp at h
    | cons _ _=>simp at e1
   ·subst hy;have hb:b=[]:=by
     cases b with
     | nil=>rfl
     | cons _ _=>simp at e2
    subst hb;refine q _ H α gp A ?_;unfold RepU;exact ⟨p,xs,rfl,s1,by rw[bB];exact r1⟩
   ·obtain ⟨g,A',r⟩:=A.tup (r1.append r2) hl;exact q _ _ α g A' r
  ·cases e
 ·rename_i n m;obtain ⟨a,ha,e⟩:=af;obtain ⟨b,hb,e⟩:=af;split at e
  ·rename_i h;cases e;obtain ⟨p,xs,e1,h1,r1⟩:=Ra A ha;obtain ⟨p2,ys,e2,h2,r2⟩:=Ra A hb;obtain ⟨p',e1',rfl⟩:=ru.ref_of A;obtain ⟨p2',e2',rfl⟩:=rw.ref_of A;rw[e1] at e1';cases e1';rw[e2] at e2';cases e2';refine vo (.inr ⟨p,p2,xs,ys,rfl,rfl,h1,h2,by rw[<- r1.length,<- r2.length];exact Fv h,fun l hl=>?_⟩);obtain ⟨g,A',r⟩:=A.lst (r1.append r2) hl;exact q _ _ _ g A' r
  ·cases e
 ·cases e
def Aih(C:Int->Int->Bool)(g:Int->Int->U):S2:=fun u w L=>match u,w with
 | .int i,.int j=>if C i j=true then ξ (g i j,L) else ψ
 | _,_=>ψ
theorem Ahh{C:Int->Int->Prop}{Cb:Int->Int->Bool}{g:Int->Int->V}{g':Int->Int->U}(hC:∀ i j,Cb i j=true->C i j)(hg:∀ i j H α,gh K H (g' i j) (g i j)):Dw K (rI C g) (Aih Cb g'):=by
 intro H α L u w x y z L' Q A ru rw e q;unfold Aih at e;split at e
 ·split at e
  ·rename_i h;cases e;unfold RepU at ru rw;exact ⟨_,_,ru,rw,hC _ _ h,q _ H α gp A (hg _ _ _ _)⟩
  ·cases e
 ·cases e
def Vg(g:Int->Int->U):S2:=fun u w L=>match u,w with
 | .int i,.int j=>ξ (g i j,L)
 | _,_=>ψ
theorem Ub{g:Int->Int->V}{g':Int->Int->U}(hg:∀ i j H α,gh K H (g' i j) (g i j)):Dw K (rI0 g) (Vg g'):=by
 intro H α L u w x y z L' Q A ru rw e q;unfold Vg at e;split at e
 ·cases e;unfold RepU at ru rw;exact ⟨_,_,ru,rw,q _ H α gp A (hg _ _ _ _)⟩
 ·cases e
def Nc:S2:=Vg fun i j=>.int (i - j)
theorem Aam:Dw K (rI0 fun i j=>.int (i - j)) Nc:=Ub fun _ _ _ _=>rfl
noncomputable def Jg(i j:Int):Bool:=(decide (-(2 ^ 64) < i)&&decide (i < 2 ^ 64)) || (decide (-(2 ^ 64) < j)&&decide (j < 2 ^ 64))
def Br:S2:=fun u w L=>match u,w with
 | .int i,.int j=>if Jg i j=true then ξ (.int (i * j),L) else ψ
 | .str a,.int j=>if a.length<=1000/\-1000<=j/\j<=1000 then ξ (.str (kT a j),L) else ψ
 | .ref n,.int k=>(Fy L n).bind fun a=>if -1000000<=k/\k<=1000000/\small (a.length * k.toNat)=true then ξ (cf,L++[.lst (bP k.toNat a).flatten]) else ψ
 | _,_=>ψ
def Ati:R2:=fun x y H Q=>rI CMul (fun i j=>.int (i * j)) x y H Q\/(∃ a j,x = .str a/\y = lw/\MulOk a j/\Q (.str (kT a j)) H)\/Ax3 x y H Q
theorem Afq:OpR X (gJ .Mult) (fun x y H Q=>∃ a j,x = .str a/\y = lw/\MulOk a j/\Q (.str (kT a j)) H):=by
 intro pins s σ H x y v u Q I rx ry h;obtain ⟨a,j,rfl,rfl,hok,q⟩:=h;obtain ⟨t,rfl⟩:=rx;obtain ⟨t',rfl⟩:=ry;exact SB.mul hok fun t' k=>⟨.str (kT a j),H,kt,jk,q⟩
theorem Eo:OpR X (gJ .Mult) Ati:=At1.or (Afq.or Auc)
theorem RepL.flat(h:vw):∀ k:Nat,RepL K H α (bP k us).flatten (bP k xs).flatten
 | 0=>.nil
 | k+1=>by rw[eO,eO,eQ,eQ];exact h.append (RepL.flat h k)
theorem Em:Dw K Ati Br:=by
 intro H α L u w x y z L' Q A ru rw e q;unfold Br at e;split at e
 ·rename_i i j;split at e
  ·rename_i h;cases e;unfold RepU at ru rw;refine .inl ⟨_,_,ru,rw,?_,q _ H α gp A rfl⟩;simp only[Jg,qV,cB,decide_eq_true_eq] at h;exact h
  ·cases e
 ·rename_i a j;split at e
  ·rename_i h;cases e;unfold RepU at ru rw;exact nv ⟨_,_,ru,rw,mulOk_of 1000 1000 h.1 Ze Ze Zb Zb,q _ H α gp A rfl⟩
  ·cases e
 ·rename_i n k;obtain ⟨a,ha,e⟩:=af;split at e
  ·rename_i h;cases e;obtain ⟨p,xs,e1,h1,r1⟩:=Ra A ha;obtain ⟨p',e1',rfl⟩:=ru.ref_of A;rw[e1] at e1';cases e1';unfold RepU at rw;refine vo ⟨p,k,xs,rfl,rw,h1,Ze,Ze,by rw[<- r1.length];exact Fv h.2.2,fun l hl=>?_⟩;obtain ⟨g,A',r⟩:=A.lst (r1.flat k.toNat) hl;exact q _ _ _ g A' r
  ·cases e
 ·cases e
def Alk(i j:Int):Prop:=0 < j/\j < 1152921504606846976
theorem Qn:OpR X (gJ .FloorDiv) (rI Alk fun i j=>.int (i / j)):=opI fun i j _ _ _ _ _ hc q=>by
 have h1:(0:Int) < j:=hc.1;have h2:j < 1152921504606846976:=hc.2;refine floordiv_int Ze (by rw[Int.fdiv_eq_ediv_of_nonneg i Ze];exact q) (.inl (PyProof.noPylong_of_log2 ?_));have h3:j.natAbs.log2 < 60:=(wA Ze).mpr Ze;omega
noncomputable def X8(i j:Int):Bool:=decide (0 < j)&&decide (j < 1152921504606846976)
def Iv:S2:=Aih X8 fun i j=>.int (i / j)
theorem Tg:Dw K (rI Alk fun i j=>.int (i / j)) Iv:=Ahh (fun i j h=>by simpa[X8,Alk] using h) fun _ _ _ _=>rfl
def Ej:S2:=Aih (fun _ j=>decide (0 < j)) fun i j=>.int (i % j)
theorem Je:Dw K (rI (fun _ j=>0 < j) fun i j=>.int (i % j)) Ej:=Ahh (fun i j h=>by simpa using h) fun _ _ _ _=>rfl
noncomputable def Y0(i j:Int):Bool:=decide (0<=j)&&decide (j<=1000000)&&decide (i.natAbs < 2 ^ 64)
def Hm:S2:=Aih Y0 fun i j=>.int (i ^ j.toNat)
theorem Rc:Dw K (rI Ayc fun i j=>.int (i ^ j.toNat)) Hm:=Ahh (fun i j h=>by simp[Y0] at h;exact ⟨h.1.1,h.1.2,h.2⟩) fun _ _ _ _=>rfl
def Yx:S2:=Vg fun i j=>.bl (decide (i<=j))
def Sf:S2:=Vg fun i j=>.bl (decide (j < i))
def Vq:S2:=Vg fun i j=>.bl (decide (j<=i))
def V0:S2:=Vg fun i j=>.bl (decide (i < j))
theorem Ae3:Dw K (rI0 fun i j=>.bl (decide (i<=j))) Yx:=Ub fun _ _ _ _=>rfl
theorem Aer:Dw K (rI0 fun i j=>.bl (decide (j < i))) Sf:=Ub fun _ _ _ _=>rfl
theorem Auk:Dw K (rI0 fun i j=>.bl (decide (j<=i))) Vq:=Ub fun _ _ _ _=>rfl
theorem Aob:Dw K (rI0 fun i j=>.bl (decide (i < j))) V0:=Ub fun _ _ _ _=>rfl
noncomputable def mapO{β γ:Type}(f:β->Option γ):ed->Option (List γ)
 | []=>ξ []
 | u::r=>(f u).bind fun d=>(mapO f r).map fun ds=>d::ds
def toP(L:UH):Nat->U->Option xH
 | 0,_=>ψ
 | _+1,.non=>ξ .none
 | _+1,.bl b=>ξ (.bool b)
 | _+1,.int i=>ξ (ce)
 | _+1,.str x=>ξ (.str x)
 | n+1,.tup l=>(mapO (toP L n) l).map .tuple
 | n+1,.ref k=>(Aq L k).bind fun l=>(mapO (toP L n) l).map .list
variable {pins:List (Addr×Obj)}
section
variable {s:aO}
theorem Y6(ih:∀ (u:U) (x:V) (v:aJ) (d:xH),gh X.K H u x->RelV x v->toP L n u=ξ d->∃ as,Reads s.heap v d as):∀ (l:aa) (xs:ε) (vs:ac) (ds:List xH),rg X.K l xs->Vals xs vs->mapO (toP L n) l=ξ ds->∃ as,ReadsAll s.heap vs ds as
 | [],xs,vs,ds,r,hv,e=>by
  unfold RepL at r;subst r;cases hv;cases e;exact ⟨_,.nil⟩
 | u::l,xs,vs,ds,r,hv,e=>by
  unfold RepL at r;obtain ⟨x,xr,rfl,r1,r2⟩:=r;cases hv with
  | cons h1 h2=>
   obtain ⟨d,e1,e⟩:=af;obtain ⟨dr,e2,e⟩:=cx;subst e;obtain ⟨as,q1⟩:=ih u x _ d r1 h1 e1;obtain ⟨bs,q2⟩:=Y6 ih l xr _ dr r2 h2 e2;exact ⟨_,.cons q1 q2⟩
theorem R5(I:io)(A:ia X.K H L):∀ (n:Nat) (u:U) (x:V) (v:aJ) (d:xH),gh X.K H u x->RelV x v->toP L n u=ξ d->∃ as,Reads s.heap v d as
 | 0,_,_,_,_,_,_,e=>by cases e
 | n+1,u,x,v,d,r,hv,e=>by
  cases u with
  | non=>unfold RepU at r;subst r;cases hv;cases e;exact ⟨_,.none⟩
  | bl b=>unfold RepU at r;subst r;cases hv;cases e;exact ⟨_,.bool b⟩
  | int i=>unfold RepU at r;subst r;obtain ⟨t,rfl⟩:=hv;cases e;exact ⟨_,re i⟩
  | str y=>unfold RepU at r;subst r;obtain ⟨t,rfl⟩:=hv;cases e;exact ⟨_,.str y t⟩
  | tup l=>
   unfold RepU at r;obtain ⟨a,xs,rfl,sq,r⟩:=r;cases hv;unfold toP at e;obtain ⟨ds,e1,e⟩:=cx;subst e;obtain ⟨its,hv,⟨o,h1,h2,m,h3⟩,_⟩:=I.tuple sq;obtain ⟨as,q⟩:=Y6 (R5 I A n) l xs its ds r hv e1;exact ⟨_,.tuple h1 h2 h3 (by simpa using q)⟩
  | ref k=>
   unfold RepU at r;obtain ⟨a,ea,rfl⟩:=r;cases hv;unfold toP at e;obtain ⟨l,hl,e⟩:=af;obtain ⟨ds,e1,e⟩:=cx;subst e;obtain ⟨a',xs,ea',sq,r⟩:=Im A hl;rw[ea] at ea';cases ea';obtain ⟨its,hv,⟨o,m,h1,h2,_,h3⟩,_⟩:=I.list sq;obtain ⟨as,q⟩:=Y6 (R5 I A n) l xs its ds r hv e1;exact ⟨_,.list h1 h2 h3 (by simpa using q)⟩
end
def eqP(u w:U)(L:UH):Option Bool:=(toP L 8 u).bind fun d=>(toP L 8 w).bind fun e=>if iF d=true/\iF e=true then ξ (eC d e) else ψ
def Acy(K:aK)(neg:Bool):R2:=fun x y H Q=>∃ α L u w b,ia K H L/\gh K H u x/\gh K H w y/\eqP u w L=ξ b/\Q (.bl (if neg then !b else b)) H
theorem Fq(hu:X.A.units+64 < cLine):m9 X .Eq (Acy X.K false):=by
 intro pins s σ H x y v u Q I rx ry h;obtain ⟨α,L,a,b,k,A,ra,rb,e,q⟩:=h;obtain ⟨d,e1,e⟩:=af;obtain ⟨d2,e2,e⟩:=af;split at e
 ·rename_i hs;cases e;obtain ⟨as,q1⟩:=R5 I A 8 a x v d ra rx e1;obtain ⟨bs,q2⟩:=R5 I A 8 b y u d2 rb ry e2;exact eq_dataH q1 q2 hs.1 hs.2 hu (ck (.bl _) H I q)
 ·cases e
theorem R0(hu:X.A.units+64 < cLine):m9 X .NotEq (Acy X.K true):=by
 intro pins s σ H x y v u Q I rx ry h;obtain ⟨α,L,a,b,k,A,ra,rb,e,q⟩:=h;obtain ⟨d,e1,e⟩:=af;obtain ⟨d2,e2,e⟩:=af;split at e
 ·rename_i hs;cases e;obtain ⟨as,q1⟩:=R5 I A 8 a x v d ra rx e1;obtain ⟨bs,q2⟩:=R5 I A 8 b y u d2 rb ry e2;exact ne_dataH q1 q2 hs.1 hs.2 hu (ck (.bl _) H I q)
 ·cases e
def By:S2:=fun u w L=>(eqP u w L).map fun b=>(.bl b,L)
def Di:S2:=fun u w L=>(eqP u w L).map fun b=>(.bl (!b),L)
theorem Ez:Dw K (Acy K false) By:=by
 intro H α L u w x y z L' Q A ru rw e q;obtain ⟨b,e1,e⟩:=cx;cases e;exact ⟨α,_,u,w,b,A,ru,rw,e1,q _ H α gp A rfl⟩
theorem Qf:Dw K (Acy K true) Di:=by
 intro H α L u w x y z L' Q A ru rw e q;obtain ⟨b,e1,e⟩:=cx;cases e;exact ⟨α,_,u,w,b,A,ru,rw,e1,q _ H α gp A rfl⟩
def Rj(neg:Bool):S2:=fun u w L=>match u,w with
 | .non,.non=>ξ (.bl (!neg),L)
 | .bl a,.bl b=>ξ (.bl (if neg then !(a == b) else a == b),L)
 | .int _,.non=>ξ (.bl neg,L)
 | .bl _,.non=>ξ (.bl neg,L)
 | .str _,.non=>ξ (.bl neg,L)
 | .tup _,.non=>ξ (.bl neg,L)
 | .ref _,.non=>ξ (.bl neg,L)
 | _,_=>ψ
noncomputable def isSome:U->Bool
 | .non=>false
 | _=>true
def Aqh(neg:Bool):R2:=fun x y H Q=>(y = .non/\Q (.bl (if neg then !decide (x = .non) else decide (x = .non))) H)\/∃ a b,x = .bl a/\y = .bl b/\Q (.bl (if neg then !(a == b) else a == b)) H
theorem Ak7:m9 X .Is (Aqh false):=Aty.or (by
 intro pins s σ H x y v u Q I rx ry h;obtain ⟨a,b,rfl,rfl,q⟩:=h;cases rx;cases ry;exact is_bool (ck (.bl _) H I q))
theorem Afd(neg:Bool):Dw K (Aqh neg) (Rj neg):=by
 intro H α L u w x y z L' Q A ru rw e q;unfold Rj at e;have fin:∀ (k:Bool),x≠.non->w = .non->ξ (U.bl neg,L)=ξ (z,L')->Aqh neg x y H Q:=fun _ hx hw e'=>by
  subst hw;obtain ⟨rfl,rfl⟩:U.bl neg=z/\L=L':=by simpa using e'
  unfold RepU at rw;subst rw;refine .inl ⟨rfl,?_⟩;rw[decide_eq_false hx];have:(if neg=true then !false else false)=neg:=by cases neg <;> rfl
  rw[this];exact q _ H α gp A rfl
 split at e
 ·cases e;unfold RepU at ru rw;subst ru;subst rw;refine .inl ⟨rfl,?_⟩;have:(if neg=true then !decide (V.non=V.non) else decide (V.non=V.non)) = !neg:=by cases neg <;> simp
  rw[this];exact q _ H α gp A rfl
 ·cases e;unfold RepU at ru rw;exact .inr ⟨_,_,ru,rw,q _ H α gp A rfl⟩
 ·unfold RepU at ru;subst ru;exact fin true Zm rfl e
 ·unfold RepU at ru;subst ru;exact fin true Zm rfl e
 ·unfold RepU at ru;subst ru;exact fin true Zm rfl e
 ·unfold RepU at ru;obtain ⟨_,_,rfl,_⟩:=ru;exact fin true Zm rfl e
 ·unfold RepU at ru;obtain ⟨_,_,rfl⟩:=ru;exact fin true Zm rfl e
 ·cases e
theorem RepL.atI{i:Int}(r:vw)(h:L2.atI us i=br):∃ x,L2.atI xs i=jw/\gh K H u x:=by
 unfold L2.atI at h ⊢;obtain ⟨j,e1,e2⟩:=aB.mp h;obtain ⟨x,e3,r3⟩:=r.get e2;exact ⟨x,by rw[<- r.length,e1];exact e3,r3⟩
def Al:S2:=fun u w L=>match u,w with
 | .tup l,.int i=>(L2.atI l i).map fun z=>(z,L)
 | .ref n,.int i=>(sy).bind fun l=>(L2.atI l i).map fun z=>(z,L)
 | .str x,.int i=>if small x.length=true then (L2.atI x.cps.toList i).map fun c=>(.str ⟨#[c]⟩,L) else ψ
 | _,_=>ψ
theorem Ax:Dw K (rIx K) Al:=by
 intro H α L u w x y z L' Q A ru rw e q;unfold Al at e;split at e
 ·obtain ⟨c,e1,e⟩:=cx;cases e;unfold RepU at ru rw;obtain ⟨a,xs,rfl,sq,r⟩:=ru;obtain ⟨v,e2,r2⟩:=r.atI e1;exact nv ⟨a,xs,_,v,rfl,rw,sq,e2,q _ H α gp A r2⟩
 ·obtain ⟨l,hl,e⟩:=af;obtain ⟨c,e1,e⟩:=cx;cases e;obtain ⟨a,xs,ea,sq,r⟩:=Im A hl;obtain ⟨a',ea',rfl⟩:=ru.ref_of A;rw[ea] at ea';cases ea';unfold RepU at rw;obtain ⟨v,e2,r2⟩:=r.atI e1;exact .inl ⟨a,xs,_,v,rfl,rw,sq,e2,q _ H α gp A r2⟩
 ·split at e
  ·rename_i hs;obtain ⟨c,e1,e⟩:=cx;cases e;unfold RepU at ru rw;exact vo ⟨_,_,c,ru,rw,Fv hs,e1,q _ H α gp A rfl⟩
  ·cases e
 ·cases e
def W5(l:aa)(lo hi:bf):aa:=(l.drop (HT.sIx l.length 0 lo)).take (HT.sIx l.length l.length hi - HT.sIx l.length 0 lo)
theorem RepL.cut(r:vw)(lo hi:bf):vm (W5 us lo hi) (Ab3 xs lo hi):=by
 unfold W5 Ab3;rw[r.length];exact (r.drop _).take _
def Hi:SS:=fun u lo hi L=>match u with
 | .tup l=>if HT.sIx l.length 0 lo=0/\HT.sIx l.length l.length hi=l.length then ψ else ξ (.tup (W5 l lo hi),L)
 | .ref n=>(sy).map fun l=>(cf,L++[.lst (W5 l lo hi)])
 | _=>ψ
def Ajg(K:aK):V->bf->bf->Hp->VK->Prop:=fun x lo hi H Q=>Azh K x lo hi H Q\/Ayh K x lo hi H Q
theorem Ru:SlR X (Ajg X.K):=Aur.or Ao9
theorem Nt:Ahe K (Ajg K) Hi:=by
 intro H α L u x lo hi z L' Q A ru e q;unfold Hi at e;split at e
 ·split at e
  ·cases e
  ·rename_i hn;cases e;unfold RepU at ru;obtain ⟨a,xs,rfl,sq,r⟩:=ru;refine .inl ⟨a,xs,rfl,sq,by rw[<- r.length];exact hn,fun p hp=>?_⟩;obtain ⟨g,A',r'⟩:=A.tup (r.cut lo hi) hp;exact q _ _ α g A' r'
 ·obtain ⟨l,hl,e⟩:=cx;cases e;obtain ⟨a,xs,ea,sq,r⟩:=Im A hl;obtain ⟨a',ea',rfl⟩:=ru.ref_of A;rw[ea] at ea';cases ea';refine .inr ⟨a,xs,rfl,sq,fun p hp=>?_⟩;obtain ⟨g,A',r'⟩:=A.lst (r.cut lo hi) hp;exact q _ _ _ g A' r'
 ·cases e
noncomputable def toV:U->Option V
 | .non=>ξ .non
 | .bl b=>ξ (.bl b)
 | .int i=>ξ (ce)
 | .str x=>ξ (.str x)
 | _=>ψ
theorem Agc{y:V}(r:gh K H u x)(h:toV u=ξ y):x=y/\Pn y=true:=by
 cases u <;> simp only[toV] at h <;> first
  | (cases h;unfold RepU at r;exact cu r)
  | cases h
theorem Y4:∀ {us:aa} {xs ys:ε},vw->mapO toV us=ξ ys->xs=ys/\ys.all Pn=true
 | [],xs,ys,r,h=>by unfold RepL at r;subst r;cases h;exact ⟨rfl,rfl⟩
 | u::us,xs,ys,r,h=>by
  unfold RepL at r;obtain ⟨x,xr,rfl,r1,r2⟩:=r;obtain ⟨y,e1,h⟩:=aB.mp h;obtain ⟨yr,e2,h⟩:=aH.mp h;subst h;obtain ⟨rfl,h1⟩:=Agc r1 e1;obtain ⟨rfl,h2⟩:=Y4 r2 e2;exact ⟨rfl,by simp[h1,h2]⟩
def Ph(neg:Bool):S2:=fun u w L=>match w with
 | .tup l=>(toV u).bind fun x=>(mapO toV l).map fun xs=>(.bl (if neg then !inV x xs else inV x xs),L)
 | .ref n=>(sy).bind fun l=>(toV u).bind fun x=>(mapO toV l).map fun xs=>(.bl (if neg then !inV x xs else inV x xs),L)
 | .str j=>match u with
  | .str i=>ξ (.bl (if neg then !(!(fO j i 0 j.length 1).isEmpty) else !(fO j i 0 j.length 1).isEmpty),L)
  | _=>ψ
 | _=>ψ
def Awq(K:aK)(neg:Bool):R2:=fun x y H Q=>rIn K neg x y H Q\/∃ i j,x = .str i/\y = .str j/\Q (.bl (if neg then !(!(fO j i 0 j.length 1).isEmpty) else !(fO j i 0 j.length 1).isEmpty)) H
theorem Ans:m9 X .In (Awq X.K false):=Aki.or Aiy
theorem Ajc:m9 X .NotIn (Awq X.K true):=Y7.or Aaq
theorem Aen(neg:Bool):Dw K (Awq K neg) (Ph neg):=by
 intro H α L u w x y z L' Q A ru rw e q;unfold Ph at e;split at e
 ·obtain ⟨x',e1,e⟩:=af;obtain ⟨xs,e2,e⟩:=cx;cases e;unfold RepU at rw;obtain ⟨a,ys,rfl,sq,r⟩:=rw;obtain ⟨rfl,f1⟩:=Agc ru e1;obtain ⟨rfl,f2⟩:=Y4 r e2;exact .inl ⟨a,ys,rfl,.inr sq,f1,f2,q _ H α gp A rfl⟩
 ·obtain ⟨l,hl,e⟩:=af;obtain ⟨x',e1,e⟩:=af;obtain ⟨xs,e2,e⟩:=cx;cases e;obtain ⟨a,ys,ea,sq,r⟩:=Im A hl;obtain ⟨a',ea',rfl⟩:=rw.ref_of A;rw[ea] at ea';cases ea';obtain ⟨rfl,f1⟩:=Agc ru e1;obtain ⟨rfl,f2⟩:=Y4 r e2;exact .inl ⟨a,ys,rfl,.inl sq,f1,f2,q _ H α gp A rfl⟩
 ·split at e
  ·cases e;unfold RepU at ru rw;exact .inr ⟨_,_,ru,rw,q _ H α gp A rfl⟩
  ·cases e
 ·cases e
def lenU(u:U)(L:UH):Option Nat:=match u with
 | .str y=>if small y.length=true then ξ y.length else ψ
 | .tup l=>ξ l.length
 | .ref n=>(sy).map lC
 | _=>ψ
def Bc:SC:=fun us L=>match us with
 | [u]=>(lenU u L).map fun (n:Nat)=>(U.int (n:Int),L)
 | _=>ψ
theorem C4:R9 K (fun xs H Q=>∃ x n,xs=[x]/\Axx K x H n/\Q (.int n) H) Bc:=by
 intro H α L us xs z L' Q A r e q;unfold Bc at e;split at e
 ·rename_i u;obtain ⟨n,e1,e⟩:=cx;cases e;obtain ⟨x,rfl,rx⟩:=r.one;refine pz x n ?_ (q _ H α gp A rfl);cases u with
  | str y=>
   unfold lenU at e1;simp only at e1;split at e1
   ·rename_i hs;cases e1;unfold RepU at rx;subst rx;exact cu (Fv hs)
   ·cases e1
  | tup l=>
   cases e1;unfold RepU at rx;obtain ⟨a,ys,rfl,sq,r2⟩:=rx;exact .inr ⟨ys,sq,r2.length⟩
  | ref k=>
   obtain ⟨l,hl,e2⟩:=aH.mp e1;subst e2;obtain ⟨a,ys,ea,sq,r2⟩:=Im A hl;obtain ⟨a',ea',rfl⟩:=rx.ref_of A;rw[ea] at ea';cases ea';exact .inl ⟨ys,sq,r2.length⟩
  | _=>cases e1
 ·cases e
noncomputable def toI:U->Option Int
 | .int i=>ξ i
 | _=>ψ
theorem G8:∀ {us:aa} {xs:ε} {ns:Λ},vw->mapO toI us=ξ ns->xs=ns.map V.int
 | [],xs,ys,r,h=>by unfold RepL at r;subst r;cases h;rfl
 | u::us,xs,ys,r,h=>by
  unfold RepL at r;obtain ⟨x,xr,rfl,r1,r2⟩:=r;obtain ⟨y,e1,h⟩:=aB.mp h;obtain ⟨yr,e2,h⟩:=aH.mp h;subst h;cases u <;> simp only[toI] at e1 <;> first
   | (cases e1;unfold RepU at r1;subst r1;rw[G8 r2 e2];rfl)
   | cases e1
section
theorem Akn(hc:X.calm=true):ll X "sum" (fun xs H Q=>∃ (p:Addr) (ns:Λ),xs=[d7]/\qk X.K p fu/\Q sk H):=by
 intro pins s σ H xs us Q I r h;obtain ⟨p,ns,rfl,hq,q⟩:=h;obtain ⟨u,rfl,rx⟩:=Ee r;cases rx;obtain ⟨its,r',pl,hz⟩:=oa;have hi:iQ its ns:=E3 r';obtain ⟨m,F⟩:=I.fr;obtain ⟨xs,hx⟩:=hi.allInts.items;have hl':s.heap.IsList p (intItems xs):=hx ▸ pl.isList;refine sum_intListG i7 hl' fun h' tk t' hk=>?_
 have e1:ns=xs.toList.map (·.1):=by
  rw[<- nums_intItems,<- hx];exact (show numsOf its.toArray.toList=ns from hi.numsOf).symm
 have e2:preSum (numAt xs) xs.size=ns.sum:=by
  rw[preSum_eq,jS Za,e1]
 rw[e2];exact ⟨sk,H,I.kept hk,jk,q⟩
theorem Ai2(hc:X.calm=true):ll X "sum" (fun xs H Q=>∃ (p:Addr) (ns:Λ),xs=[d7]/\SqT X.K H p fu/\Q sk H):=by
 intro pins s σ H xs us Q I r h;obtain ⟨p,ns,rfl,hq,q⟩:=h;obtain ⟨u,rfl,rx⟩:=Ee r;cases rx;obtain ⟨its,r',pl,hz⟩:=I.tuple hq;have hi:iQ its ns:=E3 r';obtain ⟨xs,hx⟩:=hi.allInts.items;have hl':s.heap.IsTuple p (intItems xs):=hx ▸ pl;refine PySem.W.ktm_sumG i7 hl' fun h' tk t' hk=>?_
 have e1:ns=xs.toList.map (·.1):=by
  rw[<- nums_intItems,<- hx];exact (show numsOf its.toArray.toList=ns from hi.numsOf).symm
 have e2:preSum (numAt xs) xs.size=ns.sum:=by
  rw[preSum_eq,jS Za,e1]
 rw[e2];exact ⟨sk,H,I.kept hk,jk,q⟩
theorem Rt(hc:X.calm=true):ll X "sum" (fun xs H Q=>(∃ (p:Addr) (ns:Λ),xs=[d7]/\qk X.K p fu/\Q sk H)\/∃ (p:Addr) (ns:Λ),xs=[d7]/\SqT X.K H p fu/\Q sk H):=(Akn hc).or (Ai2 hc)
end
def Ho:SC:=fun us L=>match us with
 | [.ref n]=>(sy).bind fun l=>(mapO toI l).map fun ns=>(sk,L)
 | [.tup l]=>(mapO toI l).map fun ns=>(sk,L)
 | _=>ψ
theorem Fi(A:ia K H L)(hl:sy=ξ l)(rx:gh K H di x):∃ a ys,x = bp/\qk K a ys/\vm l ys:=by
 obtain ⟨a,ys,ea,sq,r2⟩:=Im A hl;obtain ⟨a',ea',rfl⟩:=rx.ref_of A;rw[ea] at ea';cases ea';exact pz a ys sq r2
theorem Aas:R9 K (fun xs H Q=>(∃ (p:Addr) (ns:Λ),xs=[d7]/\qk K p fu/\Q sk H)\/∃ (p:Addr) (ns:Λ),xs=[d7]/\lv H p fu/\Q sk H) Ho:=by
 intro H α L us xs z L' Q A r e q;unfold Ho at e;split at e
 ·obtain ⟨l,hl,e⟩:=af;obtain ⟨ns,e1,e⟩:=cx;cases e;obtain ⟨x,rfl,rx⟩:=r.one;obtain ⟨a,ys,rfl,sq,r2⟩:=Fi A hl rx;rw[G8 r2 e1] at sq;exact .inl (pz a ns sq (q _ H α gp A rfl))
 ·obtain ⟨ns,e1,e⟩:=cx;cases e;obtain ⟨x,rfl,rx⟩:=r.one;unfold RepU at rx;obtain ⟨a,ys,rfl,sq,r2⟩:=rx;rw[G8 r2 e1] at sq;exact .inr (pz a ns sq (q _ H α gp A rfl))
 ·cases e
def Lq:SC:=fun us L=>match us with
 | [.int i]=>ξ (.int (if i < 0 then -i else i),L)
 | _=>ψ
theorem Aal:R9 K (fun xs H Q=>∃ i,xs=[ce]/\Q (.int (if i < 0 then -i else i)) H) Lq:=by
 intro H α L us xs z L' Q A r e q;unfold Lq at e;split at e
 ·cases e;obtain ⟨x,rfl,rx⟩:=r.one;unfold RepU at rx;exact ⟨_,by rw[rx],q _ H α gp A rfl⟩
 ·cases e
def Ry:SC:=fun us L=>match us with
 | [.int i]=>ξ (ce,L)
 | [.bl k]=>ξ (.int (if k then 1 else 0),L)
 | _=>ψ
theorem Aq7:R9 K (fun xs H Q=>(∃ i,xs=[ce]/\Q ce H)\/∃ k,xs=[.bl k]/\Q (.int (if k then 1 else 0)) H) Ry:=by
 intro H α L us xs z L' Q A r e q;unfold Ry at e;split at e
 ·cases e;obtain ⟨x,rfl,rx⟩:=r.one;unfold RepU at rx;exact .inl ⟨_,by rw[rx],q _ H α gp A rfl⟩
 ·cases e;obtain ⟨x,rfl,rx⟩:=r.one;unfold RepU at rx;exact .inr ⟨_,by rw[rx],q _ H α gp A rfl⟩
 ·cases e
def Bj:SC:=fun us L=>match us with
 | [.ref n]=>(sy).map fun l=>(ox,L)
 | [.tup l]=>ξ (ox,L)
 | _=>ψ
theorem C8:R9 K (fun xs H Q=>∃ p ys,xs=[d7]/\((SqL K H p ys/\∀ l,H l=ψ->Q cy (f7 l (.tup ys)))\/(lv H p ys/\Q d7 H))) Bj:=by
 intro H α L us xs z L' Q A r e q;unfold Bj at e;split at e
 ·obtain ⟨l,hl,e⟩:=cx;cases e;obtain ⟨x,rfl,rx⟩:=r.one;obtain ⟨a,ys,rfl,sq,r2⟩:=Fi A hl rx;refine ⟨a,ys,rfl,.inl ⟨sq,fun p hp=>?_⟩⟩;obtain ⟨g,A',r'⟩:=A.tup r2 hp;exact q _ _ _ g A' r'
 ·cases e;obtain ⟨x,rfl,rx⟩:=r.one;have rx':=rx;unfold RepU at rx;obtain ⟨a,ys,rfl,sq,r2⟩:=rx;exact ⟨a,ys,rfl,.inr ⟨sq,q _ H α gp A rx'⟩⟩
 ·cases e
def B9:SM:=fun u us L=>match u,us with
 | .ref n,[y]=>(Fy L n).bind fun l=>if decide (l.length < sizeLine)=true then ξ (.non,ml n (l++[y])) else ψ
 | _,_=>ψ
theorem Lp(A:ia K H L)(hl:Fy L n=ξ l)(rx:gh K H di x):∃ a ys,x = bp/\α[n]? = m7/\j7=Ξ ys/\vm l ys:=by
 obtain ⟨a,ys,ea,sq,r2⟩:=Ra A hl;obtain ⟨a',ea',rfl⟩:=rx.ref_of A;rw[ea] at ea';cases ea';exact ⟨a,ys,rfl,ea,sq,r2⟩
theorem F7:Af2 K Ahk B9:=by
 intro H α L u us x xs z L' Q A ru r e q;unfold B9 at e;split at e
 ·obtain ⟨l,hl,e⟩:=af;split at e
  ·rename_i hs;cases e;obtain ⟨y,rfl,ry⟩:=r.one;obtain ⟨a,ys,rfl,ea,h,r2⟩:=Lp A hl ru;obtain ⟨g,A'⟩:=A.setL hl ea h (r2.append (j4 ry));exact ⟨a,ys,y,rfl,rfl,h,by rw[<- r2.length];exact of_decide_eq_true hs,q _ _ _ g A' rfl⟩
  ·cases e
 ·cases e
def Sa:SM:=fun u us L=>match u,us with
 | .ref n,[.int i]=>(Fy L n).bind fun l=>if -(2 ^ 63)<=i/\i < 2 ^ 63 then (seqIndex? i l.length).bind fun k=>(l[k]?).map fun y=>(y,ml n (l.eraseIdx k)) else ψ
 | _,_=>ψ
theorem Aro:Af2 K Am4 Sa:=by
 intro H α L u us x xs z L' Q A ru r e q;unfold Sa at e;split at e
 ·obtain ⟨l,hl,e⟩:=af;split at e
  ·rename_i hs;obtain ⟨k,ek,e⟩:=af;obtain ⟨y,ey,e⟩:=cx;cases e;obtain ⟨v,rfl,rv⟩:=r.one;unfold RepU at rv;subst rv;obtain ⟨a,ys,rfl,ea,h,r2⟩:=Lp A hl ru;obtain ⟨w,ew,rw⟩:=r2.get ey;obtain ⟨g,A'⟩:=A.setL hl ea h (r2.erase k);exact ⟨a,ys,_,k,w,rfl,rfl,h,hs.1,hs.2,by rw[<- r2.length];exact ek,ew,q _ _ _ g A' (rw.mono g)⟩
  ·cases e
 ·cases e
def gSub(fo fi:FE):FG:=fun v δ L=>(fo δ L).bind fun p=>(fi δ p.2).bind fun q=>match p.1,q.1 with
 | .ref n,.int k=>(Fy q.2 n).bind fun l=>(ixN l.length k).map fun j=>(δ,q.2.set n (.lst (l.set j v)))
 | _,_=>ψ
theorem Agn{o i:Expr}{fo fi:FE}(ho:gy o fo)(hi:gy i fi)(ha:∀ v,assign (nk o i) X.env v=(do let ov <- holding [v] (eval o X.env);let iv <- holding [v,ov] (eval i X.env);standAt pos;holding [v,ov,iv] (setItem ov iv v);release [v,ov,iv] []):=by intro _;rfl):PGF X (nk o i) (MR.gSub fo fi):=by
 refine PG.imp (Atx ho hi An9 ha) ?_;rintro v σ H Q ⟨α,δ,L,u,A,S,r,δ',L',e,q⟩;obtain ⟨⟨o',L1⟩,e1,e⟩:=af;obtain ⟨⟨i',L2⟩,e2,e⟩:=af;refine ⟨α,δ,L,A,S,o',L1,e1,fun x H1 α1 g1 A1 r1=>⟨α1,δ,L1,A1,ge,i',L2,e2,fun y H2 α2 g2 A2 r2=>?_⟩⟩;simp only at e;split at e
 ·obtain ⟨l,hl,e⟩:=af;obtain ⟨j,ej,e⟩:=cx;cases e;unfold RepU at r2;subst r2;obtain ⟨a,ys,rfl,ea,h,r3⟩:=Lp A2 hl (r1.mono g2);obtain ⟨g,A'⟩:=A2.setL hl ea h (r3.set ((r.mono g1).mono g2) j);exact ⟨a,ys,_,j,rfl,rfl,h,by rw[<- r3.length];exact ej,q _ _ _ (mo g) A' (((ge).mono g2).mono g)⟩
 ·cases e
def Lz(u:U)(L:UH):Option String:=match u with
 | .non=>ξ "NoneType"
 | .bl _=>ξ "bool"
 | .int _=>ξ "int"
 | .str _=>ξ "str"
 | .tup _=>ξ "tuple"
 | .ref n=>match L[n]? with
  | some (.lst _)=>ξ "list"
  | some (.ro _)=>ξ "list"
  | some (.dic _)=>ξ "dict"
  | _=>ψ
noncomputable def isT(t c:String):Bool:=t == c || (t == "bool" && c == "int")
noncomputable def Aab:List String:=["NoneType","bool","int","str","tuple","list","dict"]
def Kit(K:aK)(c:String):Prop:=∀ t∈Aab,fV K (.type t) (.type c)=ξ (isT t c)
theorem W2{c:String}(h1:fV K (.type "NoneType") (.type c)=ξ (isT "NoneType" c))(h2:fV K (.type "bool") (.type c)=ξ (isT "bool" c))(h3:fV K (.type "int") (.type c)=ξ (isT "int" c))
  (h4:fV K (.type "str") (.type c)=ξ (isT "str" c)) (h5:fV K (.type "tuple") (.type c)=ξ (isT "tuple" c)) (h6:fV K vh (.type c)=ξ (isT "list" c)) (h7:fV K p9 (.type c)=ξ (isT "dict" c)):Kit K c:=by
 intro t ht;simp only[Aab,bE,eY,or_false] at ht;rcases ht with rfl | rfl | rfl | rfl | rfl | rfl | rfl <;> assumption
theorem Adw:Kit K "bool" := W2 Zf Zf Zf Zf Zf Zf Zf
theorem Arw:Kit K "int" := W2 Zf Zf Zf Zf Zf Zf Zf
theorem Agz:Kit K "str" := W2 Zf Zf Zf Zf Zf Zf Zf
theorem Yo:Kit K "tuple" := W2 Zf Zf Zf Zf Zf Zf Zf
theorem Ang:Kit K "dict" := W2 Zf Zf Zf Zf Zf Zf Zf
def TyV(K:aK)(H:Hp)(x:V)(t:String):Prop:=match x with
 | .non=>t = "NoneType"
 | .bl _=>t = "bool"
 | .int _=>t = "int"
 | .str _=>t = "str"
 | .ref a=>(t = "list" /\ ∃ xs,qk K a xs)\/(t = "tuple" /\ ∃ xs,lv H a xs)\/(t = "dict" /\ ∃ kvs,j7=ξ fw)
 | _=>False
theorem Alb{c:String}:ll X "isinstance" (fun xs H Q=>∃ x t b,xs=[x,.ty c]/\TyV X.K H x t/\fV X.K (.type t) (.type c)=ξ b/\Q (.bl b) H):=by
 intro pins s σ H xs us Q I r h;obtain ⟨x,t,b,rfl,ty,e,q⟩:=h;obtain ⟨u,w',rfl,rx,ry⟩:=X3 r;cases ry;have fin:∀ tk,EP X pins σ Q (.bool b) { s with toks:=tk }:=fun tk=>ck (.bl b) H kt q
 cases x with
 | non=>cases ty;exact Kr I rx (.non) e fin
 | bl y=>cases ty;exact Kr I rx (.bl y) e fin
 | int y=>cases ty;exact Kr I rx (.int y) e fin
 | str y=>cases ty;exact Kr I rx (.str y) e fin
 | ref a=>
  cases (show u=eB a from rx);rcases ty with ⟨rfl,ys,sq⟩ | ⟨rfl,ys,sq⟩ | ⟨rfl,kvs,ea⟩
  ·obtain ⟨its,_,⟨o,n,h1,h2,_⟩,_⟩:=I.list sq;exact eA pA I.kIn ⟨o,h1,h2⟩ e Zm fin
  ·obtain ⟨its,_,⟨o,h1,h2,_⟩,_⟩:=I.tuple sq;exact eA sQ I.kIn ⟨o,h1,h2⟩ e Zm fin
  ·exact Kr I rx (.dK ea) e fin
 | byt y=>cases ty
 | flt y=>cases ty
 | ty y=>cases ty
theorem Ajj{t:String}(A:ia K H L)(r:gh K H u x)(h:Lz u L=ξ t):TyV K H x t/\t∈Aab:=by
 cases u with
 | non=>unfold RepU at r;subst r;cases h;exact ⟨rfl,Zb⟩
 | bl b=>unfold RepU at r;subst r;cases h;exact ⟨rfl,Zb⟩
 | int i=>unfold RepU at r;subst r;cases h;exact ⟨rfl,Zb⟩
 | str y=>unfold RepU at r;subst r;cases h;exact ⟨rfl,Zb⟩
 | tup l=>unfold RepU at r;obtain ⟨a,xs,rfl,sq,_⟩:=r;cases h;exact ⟨nv ⟨rfl,xs,sq⟩,Zb⟩
 | ref n=>
  unfold RepU at r;obtain ⟨a,ea,rfl⟩:=r;unfold Lz at h;simp only at h;split at h
  ·rename_i e;cases h;obtain ⟨xs,h,_⟩:=A.rep n a _ ea e;exact ⟨.inl ⟨rfl,xs,.of h⟩,Zb⟩
  ·rename_i e;cases h;obtain ⟨xs,h,_⟩:=A.rep n a _ ea e;exact ⟨.inl ⟨rfl,xs,h.sq⟩,Zb⟩
  ·rename_i e;cases h;obtain ⟨xs,h,_⟩:=A.rep n a _ ea e;exact ⟨vo ⟨rfl,xs,h⟩,Zb⟩
  ·cases h
def Tc(c:String)(f:FE):FE:=fun δ L=>(tm).bind fun p=>(Lz p.1 p.2).map fun t=>(.bl (isT t c),p.2)
theorem Ob{p p2:Pos}{cn:Str}{c:String}(hk:Kit X.K c)(he:gy e fe)(hg:Gl X "isinstance")(hm:X.mg "isinstance" = ψ)(hg2:Gl X cn)(hm2:X.mg cn=ψ)(hv2:fT cn=ξ (.type c))
  (hn:cn ≠ "__name__" := by decide) (hdb:(cn == ("__debug__" : Str))=false:=by decide)
  (hs:bc [e,.Name cn p2]=ZF::bc [.Name cn p2]:=by rfl) (hs2:bc [.Name cn p2]=(false,bn (.Name cn p2))::bc []:=by rfl)
  (hpl:(f6 pos [.Name cn p2]).any (·.1)=false:=by rfl):gy (tz "isinstance" p [e,.Name cn p2] []) (Tc c fe):=by
 refine PE.imp (Adr (Alb (c:=c)) hg hm Zd (Ts he (Ts (Ap8 hg2 hm2 hv2 (v:=.ty c) rfl hn hdb) Ae7 hs2) hs) Zb Zb hs hpl) ?_;rintro σ H Q ⟨α,δ,L,A,S,z,L3,e,q⟩;obtain ⟨⟨u,L1⟩,e1,e⟩:=af;obtain ⟨t,e2,e⟩:=cx;cases e;refine ⟨α,δ,L,A,S,u,_,e1,fun x H1 α1 g1 A1 r1=>?_⟩;obtain ⟨h1,h2⟩:=Ajj A1 r1 e2;exact ⟨x,t,_,rfl,h1,hk t h2,q _ H1 α1 g1 A1 rfl⟩
def Als(H:Hp):Prop:=∀ b,gn=ψ\/(∃ o xs,gn=jl o (.lst xs))\/∃ ps,gn=ξ (.tbl ps)
theorem Only.t(h:Only H):Als H:=fun b=>(h b).elim .inl fun z=>.inr (.inl z)
theorem Au2{F:FN}{ns:Λ}{E:XK}(ho:Als H)(hT:∀ nm∈Gs,∀ c P,dQ K nm=ξ (c,P)->GoodTab H P (Ov nm))(hS:qk K a fu)(h:∃ L',F [.ref 0] [.ro ie]=ξ (eo,L')):spF K 1 F [bp] H (fun v _=>v = eo) E:=by
 obtain ⟨L',e⟩:=h;have ro:RO K H a fu:=by
  rcases hS with (q | ⟨o,q⟩) | q
  ·rcases ho a with z | ⟨o,xs,z⟩ | ⟨ps,z⟩
   ·rw[z] at q;cases q
   ·rw[z] at q;cases q
   ·rw[z] at q;cases q
  ·exact .inl ⟨o,q⟩
  ·exact .inr q
 refine ⟨[a],[.ro ie],[.ref 0],⟨rfl,fun i j b o o' e1 e2 e3 e4=>?_,fun i b o e1 e2=>?_,hT⟩,j4 ?_,rfl,eo,L',e,fun v H' α' _ _ r=>r⟩
 ·cases i with
  | zero=>cases j with
   | zero=>exact .inl rfl
   | succ j=>simp at e2
  | succ i=>simp at e1
 ·cases i with
  | zero=>simp at e1 e2;subst e1;subst e2;exact ⟨_,ro,RepL.ints ns⟩
  | succ i=>simp at e1
 ·unfold RepU;exact gu a rfl
theorem Qd(env:mM):∀ (names:List (Str×jC)) (cs:List (Str×Addr)),(∀ y∈names,y.2 = .free->∃ c,env.cells.lookup y.1=fg)->(∀ x c,cs.lookup x=fg->env.cells.lookup x=fg) ->
  ∃ cl:List (Str×Addr),(forIn names cs fun (x:Str×jC) r=>if (x.2 == jY)=true then do let c <- cellOf env x.1;pure (jX ((x.1,c)::r)) else pure (jX r):Sem (List (Str×Addr)))=pure cl /\
   (∀ x c,mj=fg->env.cells.lookup x=fg)/\(∀ y∈names,y.2 = .free->∃ c,qt=fg)/\∀ x,(∃ c,cs.lookup x=fg)->∃ c,mj=fg
 | [],cs,_,h2=>⟨cs,rfl,h2,(fun _ h=>nomatch h),fun _ h=>h⟩
 | (n,k)::r,cs,h1,h2=>by
  cases hk:k == jY with
  | true=>
   have hk':k = .free:=by simpa using hk
   obtain ⟨c,hc⟩:=h1 (n,k) (aS ..) hk';have look:∀ x c',List.lookup x ((n,c)::cs)=ξ c'->env.cells.lookup x=ξ c':=fun x c' e=>by
    rw[cF] at e;cases hx:x == n with
    | true => rw [hx] at e; simp at e; subst e; have : x = n := by simpa using hx
              rw[this];exact hc
    | false=>rw[hx] at e;exact h2 x c' e
   obtain ⟨cl,e,p1,p2,p3⟩:=Qd env r ((n,c)::cs) (fun y hy=>h1 y (oq hy)) look;refine ⟨cl,?_,p1,fun y hy hf=>?_,fun x hx=>?_⟩
   ·rw[nD];have e0:(cellOf env n:Sem Addr)=pure c:=by unfold cellOf;rw[hc]
    simp only[hk,if_true,e0];exact e
   ·rcases bE.mp hy with rfl | hy
    ·exact p3 n ⟨c,Za⟩
    ·exact p2 y hy hf
   ·refine p3 x ?_;rw[cF];cases hx':x == n with
    | true=>exact ⟨c,rfl⟩
    | false=>exact hx
  | false=>
   obtain ⟨cl,e,p1,p2,p3⟩:=Qd env r cs (fun y hy=>h1 y (oq hy)) h2;refine ⟨cl,?_,p1,fun y hy hf=>?_,p3⟩
   ·rw[nD];simp only[hk,bS,if_false];exact e
   ·rcases bE.mp hy with rfl | hy
    ·rw[show k=jY from hf] at hk;cases hk
    ·exact p2 y hy hf
variable {scope:kA}{env:mM}
theorem Pc(h:∀ y∈scope.names,y.2 = .free->∃ c,env.cells.lookup y.1=fg) :
  ∃ cl,closureFor scope env=pure cl/\(∀ x c,mj=fg->env.cells.lookup x=fg)/\∀ y∈scope.names,y.2 = .free->∃ c,qt=fg:=by
 obtain ⟨cl,e,p1,p2,_⟩:=Qd env scope.names [] h (fun x c e=>by simp at e);refine ⟨cl,?_,p1,p2⟩;unfold closureFor;show (forIn scope.names [] _ >>= fun cs=>pure cs)=pure cl;have:(forIn scope.names ([]:List (Str×Addr)) (fun (x:Str×jC) (r:List (Str×Addr))=>if (x.2 == jY)=true then do let c <- cellOf env x.1;pure (jX ((x.1,c)::r)) else pure (jX r)):Sem (List (Str×Addr))) >>= (fun cs=>pure cs)=pure cl:=by rw[e];rfl
 exact this
def blk(X:Cx)(scope:kA)(cl:List (Str×Addr))(C:Addr)(N':Φ)(s2:aO)(H2:Hp)(fp:Ψ)(pins:List (Addr×Obj)):Cx:=
 { X with env:=compEnvC scope cl C X.env,N:=N',s₀:=s2,H₀:=H2,outer:=X.stack,ex:=fp,fn:=fun _=>false,pn:=X.pn++pins,xe:=fun _ _=>False }
theorem HOk.adopt{h:Heap}(x:HOk P w H h)(hn:j7=ψ)(new:ObjOk P w (f7 a o) h a o):HOk P w (f7 a o) h:=fun b u e=>by
 by_cases hb:b=a
 ·subst hb;rw[upd_same] at e;cases e;exact new
 ·rw[Au hb] at e;exact (x b u e).stay (fun c v _ q=>q) (fun c q=>by rw[rj q hn];exact q) fun c xs q=>by rw[rj q hn];exact q
theorem Un.adopt{fs ex:Ψ}{h h1:Heap}(u:Un fs ex H H1 h h1)(hn:H1 a=ψ)(ha:h.get? a=ψ):Un fs ex H (upd H1 a o) h h1 where
 keep:=u.keep
 slot:=u.slot
 free:=fun b ob q n hx=>by
  have:b≠a:=fun z=>by rw[z,ha] at q;cases q
  rw[Au this];exact u.free b ob q n hx
 there:=u.there
 tups:=fun b xs q=>by have q':=u.tups b xs q;rw[rj q' hn];exact q'
 frzs:=fun b ob xs q=>by have q':=u.frzs b ob xs q;rw[rj q' hn];exact q'
 tbls:=fun b ps q=>by
  obtain ⟨m,q'⟩:=u.tbls b ps q;exact ⟨m,by rw[rj q' hn];exact q'⟩
structure CompSc(X:Cx)(scope:kA)(N':Φ)(ix:ly):Prop where
 kind:scope.kind = .function
 cell:(scope.names.all fun y=>y.2 != .cell)=true
 loc:(scope.names.all fun y=>y.2 != .local || scope.names.lookup y.1 == i9)=true
 free:(scope.names.all fun y=>y.2 != .free || (X.env.kindOf y.1 == j9 || X.env.kindOf y.1 == pf))=true
 ixs:((N'.zip ix).all fun p=>match p.2 with | none=>true | some i=>(X.N[i]? == ξ p.1)&&(scope.names.lookup p.1 == pf))=true
 len:N'.length=ix.length
def inner(ix:ly)(σ:L2.St):L2.St:=ix.map fun o=>o.bind fun i=>(σ[i]?).join
def Alo(J:It)(g:TG)(tt:TT)(te:TE)(σ':L2.St)(H:Hp)(Fin:ε->Hp->Prop):Prop:=∃ W:Nat->Nat->ε->L2.St->Hp->Prop,(∃ m,W 0 m [] σ' H)/\∀ i m acc σ1 H1,W i m acc σ1 H1 ->
 (J.stop i H1/\Fin acc H1)\/(J.go i H1/\∀ x H3,J.yld i H1 x H3->g x σ1 H3 fun σ2 H4=>tt σ2 H4 fun b H5=>
  if b=true then te σ2 H5 fun y H6=>acc.length < sizeLine/\∃ m',m' < m/\W (i+1) m' (acc++[y]) σ2 H6 else ∃ m',m' < m/\W (i+1) m' acc σ2 H5)
variable {N':Φ}{ix:ly}
section
variable {s2:aO}{cl:List (Str×Addr)}{fp:Ψ}
theorem Eb{β:Type}{x:Str}{v:β}:∀ {l:List (Str×β)},l.lookup x=j3->(x,v)∈l
 | [],h=>by simp at h
 | (n,k)::r,h=>by
  rw[cF] at h;cases hx:x == n with
  | true => rw [hx] at h; simp at h; have : x = n := by simpa using hx
            subst this;subst h;exact aS ..
  | false=>rw[hx] at h;exact aM _ (Eb h)
theorem Ir{env:mM}{x:Str}:∀ {names:List (Str×jC)} {k:jC},(names.map fun (n,k)=>if ZX then (n,hU) else (n,k)).lookup x=ξ k ->
  names.lookup x=ξ k\/(names.lookup x=pf/\k = .cell)
 | [],k,h=>by simp at h
 | (n,k')::r,k,h=>by
  have ih:=@Ir env x r k;rw[aQ] at h;cases hx:x == n with
  | true=>
   rw[cF,hx];simp only at h ⊢;split at h
   ·rename_i hc;rw[cF,hx] at h;simp at h;simp only[cB] at hc;have:k' = .free:=by simpa using hc.1.1
    subst this;exact .inr ⟨rfl,h.symm⟩
   ·rw[cF,hx] at h;exact .inl h
  | false=>
   rw[cF,hx];simp only at h ⊢;split at h
   ·rw[cF,hx] at h;exact ih h
   ·rw[cF,hx] at h;exact ih h
theorem Ht{env:mM}{x:Str}:∀ {names:List (Str×jC)},names.lookup x=pf ->
  (names.map fun (n,k)=>if ZX then (n,hU) else (n,k)).lookup x=pf\/(names.map fun (n,k)=>if ZX then (n,hU) else (n,k)).lookup x=j9
 | [],h=>by simp at h
 | (n,k')::r,h=>by
  have ih:=@Ht env x r;rw[aQ];cases hx:x == n with
  | true=>
   rw[cF,hx] at h;simp at h;subst h;simp only;split
   ·right;rw[cF,hx]
   ·left;rw[cF,hx]
  | false=>
   rw[cF,hx] at h;have:=ih h;simp only;split
   ·rw[cF,hx];exact this
   ·rw[cF,hx];exact this
end
variable {X':Cx}
section
variable {s2:aO}{cl:List (Str×Addr)}{fp:Ψ}
def Yi(X':Cx)(ifs:fj)(tt:TT):Prop:=∀ (pins:List (Addr×Obj)) (s:aO) (σ:L2.St) (H:Hp) (Q:Bool->Hp->Prop) (E:aJ->aO->Prop),cg X' H s->tt σ H Q->(∀ e s,X'.xe e s->E e s) ->
 wpAny (model X'.prog X'.w) X'.A (forIn ifs true fun c r=>if r=true then do let ok <- isTrue c X'.env (eval c X'.env);pure (jX ok) else pure (jX r)) (TP X' pins σ Q) E s
def Apo:TT:=fun _ H Q=>Q true H
theorem Yb:Yi X' [] Apo:=fun pins s σ H Q E I h _=>wpAny_tests_nil ⟨H,I,h⟩
theorem Xu{tt:TT}(h:PT X' c tt):Yi X' [c] tt:=fun pins s σ H Q E I q hE=>wpAny_tests_one (dO (h pins s σ H Q I q) (fun _ _ z=>z) hE)
noncomputable def Ea(its:ac)(n:Nat):Obj:={ cls:=.type "list",data:=.seq its.toArray n }
theorem Ai6{elt tg iter:Expr}{ifs:fj}{pos:Pos}{it D C:Addr}{J:It}{tn:Nat->Heap->Prop}{g:TG}{tt:TT}{te:TE}{Fin:ε->Hp->Prop}{R:vF->aO->Prop}{X':Cx}
  (hX:X'.A=X.A/\X'.prog=X.prog/\X'.w=X.w/\X'.K=X.K/\X'.calm=true/\∀ e s,¬ X'.xe e s) (T:Turn X.prog X.w X.K tg J fp it tn) (hg:PG X' tg g) (ht:Yi X' ifs tt) (he:PE X' elt te)
  (hD1:s2.heap.objs.size<=D) (hDC:D≠C) (hC:s2.heap.objs.size<=C) (hfp:∀ b∈fp,G4 X' [] H2 b/\b≠D) (hDf:∀ H,H D=ψ->G4 X' [] H D)
  {s:aO} {σ1:L2.St} {H1:Hp} {n0:Nat} (I:Inv X' [(D,Ea [] n0)] σ1 H1 s) (st:tn 0 s.heap) (fr:∀ b∈fp,H1 b=ψ) (hloop:Alo J g tt te σ1 H1 Fin)
  (hR:∀ (s':aO) (σ':L2.St) (H':Hp) (acc:ε) (its:ac) (n:Nat),Inv X' [(D,Ea its n)] σ' H' s'->Vals acc its->acc.length<=sizeLine->Fin acc H'->R (.ok .next) s') :
  nQ bj X.A (.compLoop Zy 0 (.ref it) (.ref D) X'.env) R s:=by
 obtain ⟨W,⟨m0,w0⟩,turn⟩:=hloop;obtain ⟨hXA,hXp,hXw,hXK,hXc,hxe⟩:=hX;have hfpo:∀ (o:Obj) (H:Hp),(∀ b∈fp,gn=ψ)->∀ b∈fp,G4 X' [(D,o)] H b:=fun o H hn b hb=>by
  obtain ⟨⟨_,q1,q2,q3,q4,q5⟩,q6⟩:=hfp b hb;refine ⟨hn b hb,q1,q2,q3,q4,fun p hp=>?_⟩;rcases cQ.mp hp with z | z
  ·exact q5 p (eG _ z)
  ·have:p=(D,o):=by simpa using z
   rw[this];exact fun z=>q6 z.symm
 refine codeAny_loop rfl (fun n s=>∃ i acc its k σ1 H1,Inv X' [(D,Ea its k)] σ1 H1 s/\Vals acc its/\acc.length<=sizeLine/\tn i s.heap/\(∀ b∈fp,H1 b=ψ)/\W i n acc σ1 H1) (fun n s hI=>?_) m0 ⟨0,[],[],n0,σ1,H1,I,.nil,eS _,st,fr,w0⟩;show cm _ X.A ((compTurn Zy 0 (.ref it) (.ref D) X'.env).onRaise (fun x=>do noteFrame x X'.env;theTreesLotGoes x)) _ _;refine wpAny_noted ?_;rw[compTurn_list];obtain ⟨i,acc,its,k,σ1,H1,I,hv,hz,st,fr,w1⟩:=hI;refine aG (pL (aG ?_));rcases turn i n acc σ1 H1 w1 with ⟨stop,fin⟩ | ⟨go,step⟩
 ·have h:=T.done X' hXp hXw hXK hXc i _ s σ1 H1 Zac I (hfpo _ H1 fr) st stop;rw[hXA] at h;refine thn h fun r s4 zz=>?_
  obtain ⟨hr,I4⟩:=zz;subst hr;exact aU (hR s4 σ1 H1 acc its k I4 hv hz fin)
 ·have h:=T.item X' hXp hXw hXK hXc i _ s σ1 H1 Zac I (hfpo _ H1 fr) st go;rw[hXA] at h;refine thn h fun r s4 zz=>?_
  obtain ⟨u,hr,h4⟩:=zz;subst hr;refine aG (thn h4 fun _ s5 zz=>?_);obtain ⟨x,H5,I5,r5,y5,st5,fr5⟩:=zz;have I5':=I5.pinned (hfpo _ H5 fr5) (T.obj _ _ st5);have hg5:=hg _ s5 σ1 H5 x u _ I5' r5 (step x H5 y5);rw[hXp,hXw,hXA] at hg5;refine aG (dO hg5 (fun _ s6 zz=>?_) fun e s z=>absurd z (hxe e s));obtain ⟨σ6,H6,I6,q6⟩:=zz;have ht6:=ht _ s6 σ6 H6 _ Zac I6 q6 (fun e s z=>absurd z (hxe e s));rw[hXp,hXw,hXA] at ht6;refine aG (thn ht6 fun b s7 zz=>?_);obtain ⟨H7,I7,q7⟩:=zz;have back:∀ {σ8:L2.St} {H8:Hp} {s8:aO},Inv X' ([(D,Ea its k)]++Wd fp s5.heap) σ8 H8 s8->tn (i+1) s8.heap/\(∀ b∈fp,H8 b=ψ)/\s8.heap.get? D=ξ (Ea its k)/\H8 D=ψ:=fun {σ8 H8 s8} I8=>by
   refine ⟨T.keep _ _ _ st5 fun b hb o e=>(I8.pin (b,o) (aW _ (aW _ (Mf hb e)))).1,fun b hb=>?_,?_,?_⟩
   ·obtain ⟨o,e,d⟩:=T.obj _ _ st5 b hb;exact (I8.pin (b,o) (aW _ (aW _ (Mf hb e)))).2.1
   ·exact (I8.pin (D,Ea its k) (aW _ (eG _ (bV.mpr rfl)))).1
   ·exact (I8.pin (D,Ea its k) (aW _ (eG _ (bV.mpr rfl)))).2.1
  cases b with
  | false=>
   obtain ⟨m',hm,w8⟩:=(q7:if false=true then _ else _);obtain ⟨st8,fr8,_,_⟩:=back I7;refine aU ⟨rfl,m',hm,i+1,acc,its,k,σ6,H7,?_,hv,hz,st8,fr8,w8⟩;exact I7.pins_of fun p hp=>I7.pin p (aW _ (eG _ hp))
  | true=>
   have q7':te σ6 H7 fun y H6=>acc.length < sizeLine/\∃ m',m' < n/\W (i+1) m' (acc++[y]) σ6 H6:=q7
   have he7:=he _ s7 σ6 H7 _ I7 q7';rw[hXp,hXw,hXA] at he7;refine aG (aG (dO he7 (fun y s8 zz=>zz.elim fun v H8 I8 r8 zq=>?_) fun e s z=>absurd z (hxe e s)));obtain ⟨hlt,m',hm,w8⟩:=zq;obtain ⟨st8,fr8,hDo,hDn⟩:=back I8;have hlen:=hv.length;have hisl:s8.heap.IsList D its.toArray:=pz _ hDo k rfl;refine aG ?_;obtain ⟨k',hd'⟩:∃ k',bR (·.push y) (Ea its k)=Ea (its++[y]) k':=⟨_,by simp[Ea,bR];rfl⟩;refine eX slot_list_append hisl.typeIs entry_list_append ?_ (args_list_append _ _);show i6 _ _ (updateSeq D (·.push y) >>= fun _=>ret .none) _ s8;refine aG (kW hDo rfl (aU (gu .none ?_)));have hk9:∀ b o,b≠D->s8.heap.get? b=ao->(s8.heap.update D (bR (·.push y))).get? b=ao:=fun b o hb e=>(dU (h:=s8.heap) (a:=D) ..).2 b hb |>.trans e
   have hD9:(s8.heap.update D (bR (·.push y))).get? D=ξ (Ea (its++[y]) k'):=by
    rw[<- hd'];exact mD _ hDo (by rw[hd'];exact Obj.isFreed_of_seq (xs:=(its++[y]).toArray) (n:=k') rfl)
   have I8':Inv X' [] σ6 H8 s8:=I8.pins_of fun p hp=>by cases hp
   obtain ⟨d0,d1,d2,d3,d4,d5⟩:=hDf H8 hDn;have I9:Inv X' [] σ6 H8 { s8 with heap:=s8.heap.update D (bR (·.push y)) }:=I8'.turned (t':=s8.toks) hk9 hDn d1 d3 d4 d5;have I10:=I9.pins_of (pins':=[(D,Ea (its++[y]) k')]) fun p hp=>by
    have:p=(D,Ea (its++[y]) k'):=by simpa using hp
    subst this;exact ⟨hD9,hDn,d1,d2,fun v z=>by simp[Ea] at z⟩
   refine aU (aU ⟨rfl,m',hm,i+1,acc++[v],its++[y],k',σ6,H8,I10,Vals.append hv (j4 r8),by rw[cG];simp;omega,?_,fr8,w8⟩);refine T.keep _ _ _ st8 fun b hb o e=>hk9 b o (hfp b hb).2 e
end
section
def Aop(ix:ly)(wi:TI)(g:TG)(tt:TT)(te:TE):TE:=fun σ H Q=>wi σ H fun J H1=>Alo J g tt te (inner ix σ) H1 fun acc H2=>∀ p,H2 p=ψ->Q d7 (cb H2 p acc)
theorem CompSc.names(S:CompSc X scope N' ix):∀ x∈scope.names,x.2 = .local->scope.names.lookup x.1=i9:=fun x hx hl=>by
 have:=bO.mp S.loc x hx;rw[hl] at this;simpa using this
theorem CompSc.clos(S:CompSc X scope N' ix)(ok:X.Ok):∃ cl,closureFor scope X.env=pure cl/\(∀ x c,mj=fg->bo=fg)/\∀ y∈scope.names,y.2 = .free->∃ c,qt=fg:=by
 refine Pc fun y hy hf=>?_
 have:=bO.mp S.free y hy;rw[hf] at this;simp at this;exact ok.has y.1 this
end
def Gz(tt:Option FT):FT:=fun δ L=>match tt with
 | none=>ξ (true,L)
 | some f=>f δ L
def Wx(it:IU)(g:FG)(tt:Option FT)(fe:FE):Nat->Nat->aa->UE->UH->Option (aa×UH)
 | 0,_,_,_,_=>ψ
 | m+1,k,acc,δ,L=>match it.at k L with
  | none=>ψ
  | some ψ=>ξ (acc,L)
  | some (ξ u)=>(g u δ L).bind fun p=>(Gz tt p.1 p.2).bind fun q=>if q.1=true then (fe p.1 q.2).bind fun r=>if decide (acc.length < sizeLine)=true then Wx it g tt fe m (k+1) (acc++[r.1]) p.1 r.2 else ψ
   else Wx it g tt fe m (k+1) acc p.1 q.2
def Ga(ix:ly)(δ:UE):UE:=ix.map fun o=>o.bind fun i=>(δ[i]?).join
def Bg(ix:ly)(fi:FI)(g:FG)(tt:Option FT)(fe:FE):FE:=fun δ L=>(fi δ L).bind fun p=>(Wx p.1 g tt fe (p.1.size p.2+1) 0 [] (Ga ix δ) p.2).map fun q=>(.ref q.2.length,q.2++[.lst q.1])
theorem RepS.inner(S:RepS K H α δ σ)(ix:ly):RepS K H α (Ga ix δ) (MR.inner ix σ):=by
 refine ⟨by simp[Ga,MR.inner],fun j u e=>?_⟩;unfold Ga at e;unfold MR.inner;rw[aX] at e ⊢;cases hx:ix[j]? with
 | none=>rw[hx] at e;simp at e
 | some o=>
  rw[hx] at e;cases o with
  | none=>simp at e
  | some i=>
   simp at e;have:δ[i]? = ξ br:=by
    cases q:δ[i]? with
    | none=>rw[q] at e;simp at e
    | some o=>rw[q] at e;simp at e;rw[e]
   obtain ⟨v,hv,r⟩:=S.at_ i u this;exact ⟨v,by simp[hv],r⟩
def lTo(K:aK)(tt:Option FT):TT:=match tt with
 | none=>Apo
 | some f=>lT K f
inductive CI(K:aK)(it:IU)(g:FG)(tt:Option FT)(fe:FE)(H1:Hp)(α1:Ψ)(ys:aa)(L2:UH)(k m:Nat)(acc:ε)(σ2:_root_.L2.St)(H2:Hp):Prop
 | mk (α2:Ψ) (δ2:UE) (M:UH) (us:aa) (g2:Gr H1 α1 H2 α2) (A2:Abs K H2 α2 M) (S2:RepS K H2 α2 δ2 σ2) (r2:RepL K H2 α2 us acc) (e:Wx it g tt fe m k us δ2 M=ξ (ys,L2)):CI K it g tt fe H1 α1 ys L2 k m acc σ2 H2
theorem Tz{g:FG}{tt:Option FT}:∀ σ H Q,lE K (Bg ix fi g tt fe) σ H Q->Aop ix (lI K fi) (lG K g) (lTo K tt) (lE K fe) σ H Q:=by
 rintro σ H Q ⟨α,δ,L,A,S,z,L3,e,q⟩;obtain ⟨⟨it,L1⟩,e1,e⟩:=af;obtain ⟨⟨ys,L2⟩,e2,e⟩:=cx;cases e;refine ⟨α,δ,L,A,S,it,L1,e1,fun J H1 α1 g1 A1 hJ=>?_⟩;refine ⟨CI K it g tt fe H1 α1 ys L2,⟨_,α1,_,L1,[],gp,A1,(ge).inner ix,.nil,e2⟩,?_⟩;rintro k m acc σ2 H2 ⟨α2,δ2,M,us,g2,A2,S2,r2,e3⟩;cases m with
 | zero=>cases e3
 | succ m=>
  obtain ⟨hgo,hstop⟩:=hJ H2 α2 M g2 A2 k;unfold Wx at e3;cases hat:it.at k M with
  | none=>rw[hat] at e3;cases e3
  | some o=>
   cases o with
   | none=>
    rw[hat] at e3;cases e3;refine .inl ⟨hstop hat,fun p hp=>?_⟩;obtain ⟨g3,A3,r3⟩:=A2.lst r2 hp;exact q _ _ _ (mo g3) A3 r3
   | some u=>
    rw[hat] at e3;obtain ⟨go,yld⟩:=hgo u hat;obtain ⟨⟨δ3,L3⟩,e4,e3⟩:=aB.mp e3;obtain ⟨⟨b,L4⟩,e5,e3⟩:=aB.mp e3;refine .inr ⟨go,fun x H3 y3=>?_⟩;obtain ⟨g3,A3,r3⟩:=yld x H3 y3;refine ⟨α2,δ2,M,u,A3,S2.mono g3,r3,δ3,L3,e4,fun σ4 H4 α4 g4 A4 S4=>?_⟩;have after:∀ H5 α5,Gr H4 α4 H5 α5->Abs K H5 α5 L4->(if b=true then lE K fe σ4 H5 (fun y H6=>acc.length < sizeLine/\∃ m',m' < m+1/\CI K it g tt fe H1 α1 ys L2 (k+1) m' (acc++[y]) σ4 H6) else ∃ m',m' < m+1/\CI K it g tt fe H1 α1 ys L2 (k+1) m' acc σ4 H5):=fun H5 α5 g5 A5=>by
     have gA:=g2.trans (g3.trans (g4.trans g5));have gB:=g3.trans (g4.trans g5);cases b with
     | false=>exact Ael ⟨m,eK _,α5,δ3,L4,us,gA,A5,S4.mono g5,r2.mono gB,e3⟩
     | true=>
      obtain ⟨⟨w,L5⟩,e6,e3⟩:=aB.mp e3;simp only at e3;split at e3
      ·rename_i hlt;refine Afc ⟨α5,δ3,L4,A5,S4.mono g5,w,L5,e6,fun y H6 α6 g6 A6 r6=>?_⟩;exact ⟨by rw[<- r2.length];exact of_decide_eq_true hlt,m,eK _,α6,δ3,L5,us++[w],gA.trans g6,A6,(S4.mono g5).mono g6,(r2.mono (gB.trans g6)).append (j4 r6),e3⟩
      ·cases e3
    cases tt with
    | none=>
     cases e5;exact after H4 α4 gp A4
    | some f=>exact ⟨α4,δ3,L3,A4,S4,b,L4,e5,fun H5 α5 g5 A5=>after H5 α5 g5 A5⟩
section
variable {elt:Expr}{g:FG}{ft:FT}
theorem Anx{fc:FE}{t:TE}(ht:∀ σ H Q,lE K fc σ H Q->t σ H Q):∀ D σ H,lS K (a8 fc i) D σ H->Apj t (Abp i) D σ H:=by
 rintro D σ H ⟨α,δ,L,A,S,fl,L',e,q⟩;obtain ⟨⟨u,L1⟩,e1,e⟩:=af;obtain ⟨⟨δ2,L2⟩,e2,e⟩:=cx;cases e;cases e2;exact ht σ H _ ⟨α,δ,L,A,S,u,_,e1,fun v H1 α1 g1 A1 r1=>q _ H1 α1 g1 A1 ((ge).set i r1)⟩
end
section
variable {s:aO}{h':Heap}
theorem Inv.turnNew{ch:Ψ}{t':Nat}(I:lj H s)(hch:∀ b∈ch,vt X H b)(k:∀ b o,b∉ch->a9=ao->cq=ao)(hp:s.heap.objs.size<=p)(new:ObjOk X.prog X.w (f7 p o) h' p o) :
  L2.Inv X pins σ (f7 p o) { s with heap:=h',toks:=t' }:=by
 have hn:qq=ψ:=I.hok.fresh hp;have nch:∀ b u,gn=br->b∉ch:=fun b u e hb=>by rw[(hch b hb).1] at e;cases e
 have st:=Stay.new hn o;refine I.step (g':=s.gens) (d':=s.drawn) (ch:=ch) (fun b hb=>?_) (fun b o _ _ hc e _=>k b o hc e) (fun b o _ _ hc e _=>⟨o.slots,k b o hc e⟩) (fun b u hc e n=>?_) (fun b u hc e=>⟨u,k b u hc e⟩) st.1 st.2 (fun b ps e=>⟨#[],?_⟩) (fun m hm=>?_) (fun b u e=>?_) I.bare
 ·obtain ⟨_,f1,_,f3,f4,f5⟩:=hch b hb;exact ⟨f3,f1,f4,f5⟩
 ·rw[Au (bW (bI v7 hp))];exact n
 ·rw[rj e hn,e];simp
 ·obtain ⟨o1,es,ep,ho,r⟩:=hm;exact ⟨o1,es,ep,k _ o1 (fun z=>(hch _ z).2.1 rfl) ho,r⟩
 ·by_cases hb:b=p
  ·subst hb;rw[upd_same] at e;cases e;exact new
  ·rw[Au hb] at e;refine (I.hok b u e).stay (fun c v hc q=>k c v ?_ q) (fun c q=>by rw[rj q hn];exact q) fun c xs q=>by rw[rj q hn];exact q
   rcases hc with z | z
   ·rw[z];exact nch b u e
   ·exact nch c _ z
end
def Ite(K:aK)(a:Addr):It:=
 ⟨fun i H=>∃ xs x,qk K a xs/\xs[i]? = jw,fun i H x H'=>∃ p v,qq=ψ/\x = d7/\H'=upd H p (.tup [ce,v])/\∀ xs,qk K a xs->xs[i]? = j3,fun i H=>∃ xs,qk K a xs/\xs.length<=i⟩
theorem Aj2{elts:fj}{x1}(a e it:Addr)(hne:e≠it):Turn P w K (.Tuple elts x1 pos) (Ite K a) [e,it] e (fun i h=>(∃ old,IsEnum h e it i old)/\h.IsListIter it a i) where
 mem:=Za
 obj:=fun i h st b hb=>by
  obtain ⟨⟨old,he⟩,o,ho,hc,hd⟩:=st;rcases bE.mp hb with rfl | hb
  ·exact ⟨_,he,fun v z=>by simp at z⟩
  ·have:b=it:=by simpa using hb
   subst this;exact ⟨o,ho,fun v z=>by rw[hd] at z;cases z⟩
 keep:=fun i h h' st k=>by
  obtain ⟨⟨old,he⟩,o,ho,hc,hd⟩:=st;exact ⟨⟨old,k e Za _ he⟩,o,k it Za _ ho,hc,hd⟩
 item:=by
  intro X hP hw hK hc i pins s σ H E I hf st hg;subst hP hw hK;obtain ⟨⟨old,he⟩,hit⟩:=st;obtain ⟨xs,v,sq,hx⟩:=hg;obtain ⟨its,hv,pl,hz⟩:=I.list sq;obtain ⟨u,hu,r⟩:=hv.get hx;refine wpAny_pyNext_enum_item he hit pl.isList (by simpa using hu) hne fun h' o1 o2 o3 o4 o5=>?_
  refine gu _ ?_;have hfr:H s.heap.objs.size=ψ:=j5;have I1:lj (ou (.tup [ce,v])) { s with heap:=h',toks:=s.toks+1 }:=
   Inv.turnNew (ch:=[e,it]) I hf (fun b o hb q=>o5 b o Zr Zr q) be
    (show ObjOk X.prog X.w _ h' _ (.tup [ce,v]) from ⟨by show 2<=sizeLine;decide,[.int i s.toks,u],.cons jk (j4 r),pz _ o3 _ rfl⟩)
  refine oP o1 fun h2 e2 sb2=>?_
  have hne2:∀ b∈[e,it],b≠s.heap.objs.size:=fun b hb z=>by
   rcases bE.mp hb with q | q
   ·have:=bC he;rw[<- q,z] at this;exact cX _ this
   ·have q:b=it:=by simpa using q
    obtain ⟨o,ho,_⟩:=hit;have:=bC ho;rw[<- q,z] at this;exact cX _ this
  have hnone:∀ b∈[e,it],(ou (.tup [ce,v])) b=ψ:=fun b hb=>by rw[Au (hne2 b hb)];exact (hf b hb).1
  obtain ⟨f0,f1,f2,f3,f4,f5⟩:=hf e Za;have I2:=I1.turned (t':=s.toks+1) (h':=h2) (it:=e) (fun b o hb q=>sb2.2 b hb |>.trans q) (hnone e Za) f1 f3 f4 f5;obtain ⟨oi,hoi,hci,hdi⟩:=o2;refine ⟨.ref s.heap.objs.size,_,I2,rfl,⟨_,v,hfr,rfl,rfl,fun ys sq'=>?_⟩,⟨⟨_,e2⟩,oi,(sb2.2 it (eJ hne)).trans hoi,hci,hdi⟩,hnone⟩;rw[I.list_inj sq' sq];exact hx
 done:=by
  intro X hP hw hK hc i pins s σ H E I hf st hg;subst hP hw hK;obtain ⟨⟨old,he⟩,hit⟩:=st;obtain ⟨xs,sq,hx⟩:=hg;obtain ⟨its,hv,pl,hz⟩:=I.list sq;obtain ⟨f0,f1,f2,f3,f4,f5⟩:=hf it Za;have hlen:=hv.length;refine wpAny_pyNext_enum_end i7 he hit pl.isList (by simp;omega) fun h' eb=>⟨rfl,I.turned (t':=s.toks) (fun b o hb q=>eb b o hb q) f0 f1 f3 f4 f5⟩
 self:=fun _ _ _ _ _ st h=>by obtain ⟨⟨old,he⟩,_⟩:=st;exact lL he h
theorem Yw(n l1 l2:Nat)(h1:l1 < n)(h2:l2 < n):rM (n+4) (n+2) (n+3) n (n+1) l1 l2:=by
 constructor <;> (intro q;exact absurd (show (_:Nat)=_ from q) Ze)
section
variable {elts:fj}{x1:Nat}{tpos:Pos}
theorem X0:fT "enumerate" = ξ (.type "enumerate"):=Zd
theorem Adb:fT "zip" = ξ (.type "zip"):=Zd
def Ayg(K:aK)(ta:TA):TI:=fun σ H R=>ta σ H fun vs H1=>∃ a xs,vs=[bp]/\SqL K H1 a xs/\R (Ite K a) H1
theorem Ag8{a:Expr}{ta:TA}{p:Pos}(hg:Gl X "enumerate")(hm:X.mg "enumerate" = ψ)(ha:PA X [a] ta)(hs:bc [a]=[ZU]:=by rfl):PI X ZN (tz "enumerate" p [a] []) (Ayg X.K ta):=by
 intro pins s σ H R I h;refine Call_ (Fs I hg hm X0 (cT (thn ZE fun us s1 ⟨vs,H1,I1,r1,q1⟩=>?_) hs rfl));obtain ⟨l,xs,rfl,sq,q⟩:=q1;obtain ⟨u,rfl,ru⟩:=Ee r1;cases ru;obtain ⟨its,hv,pl,hz⟩:=I1.list sq;refine call_enumerate_list pl.isList fun h' o1 o2 o3 o4=>?_
 have I2:lj H1 { s1 with heap:=h' }:=I1.kept (t':=s1.toks) o4;refine lL o1 ⟨_,_,_,_,H1,rfl,I2,Aj2 l (s1.heap.objs.size+1) s1.heap.objs.size (iE (eK _)),⟨⟨_,o1⟩,o2⟩,fun b hb=>?_,q⟩;have hb':s1.heap.objs.size<=b:=by
  simp only[bE,eY,or_false] at hb;rcases hb with rfl | rfl
  ·exact iB _
  ·exact be
 exact L2.Inv.fpOk I1 hb' (I1.hok.fresh hb')
def Xx(g:FA):FI:=fun δ L=>(g δ L).bind fun p=>match p.1 with
 | [.ref n]=>(sx p.2).map fun _=>(.enm n,p.2)
 | _=>ψ
def A1l(g:FA):FI:=fun δ L=>(g δ L).bind fun p=>match p.1 with
 | [.ref n,.ref m]=>(sx p.2).bind fun _=>(Aq p.2 m).map fun _=>(.zip2 n m,p.2)
 | _=>ψ
theorem Lx(A:ia K H L)(ea:α[n]? = m7)(h:sy=mw):∃ xs,qk K a xs/\vw:=by
 obtain ⟨a',xs,ea',sq,r⟩:=Im A h;rw[ea] at ea';cases ea';exact ⟨xs,sq,r⟩
theorem Ahf(hinj:∀ (H:Hp) xs ys,qk K a xs->qk K a ys->True)(ea:α[n]? = m7):Pd K (Ite K a) (.enm n) H α:=by
 intro H2 α2 L2 g A2 k;have ea2:=g.at ea;refine ⟨fun u eu=>?_,fun eu=>?_⟩
 ·obtain ⟨us,hs,eu⟩:=aH.mp eu;obtain ⟨xs,sq,r⟩:=Lx A2 ea2 hs;obtain ⟨w,hw,eu⟩:=aH.mp eu;subst eu;obtain ⟨x,hx,rx⟩:=r.get hw;refine ⟨⟨xs,x,sq,hx⟩,?_⟩;rintro y H3 ⟨p,v,hp,rfl,rfl,hy⟩;have:=hy xs sq;rw[hx] at this;cases this;exact A2.tup (.cons rfl (j4 rx)) hp
 ·obtain ⟨us,hs,eu⟩:=aH.mp eu;obtain ⟨xs,sq,r⟩:=Lx A2 ea2 hs;have:us[k]? = ψ:=by simpa using eu
  exact ⟨xs,sq,by rw[<- r.length];exact cJ.mp this⟩
theorem Ali{a:Expr}{p:Pos}(hg:Gl X "enumerate")(hm:X.mg "enumerate" = ψ)(ha:PAF X [a] g)(hs:bc [a]=[ZU]:=by rfl):PIF X ZN (tz "enumerate" p [a] []) (Xx g):=by
 refine PI.imp (Ag8 hg hm ha hs) ?_;rintro σ H R ⟨α,δ,L,A,S,i,L3,e,q⟩;obtain ⟨⟨us,L1⟩,e1,e⟩:=af;refine ⟨α,δ,L,A,S,us,L1,e1,fun xs H1 α1 g1 A1 r1=>?_⟩;simp only at e;split at e
 ·obtain ⟨l,hl,e⟩:=cx;cases e;obtain ⟨x,rfl,rx⟩:=r1.one;obtain ⟨a',ys,rfl,sq,r2⟩:=Fi A1 hl rx;obtain ⟨a2,ea,ha2⟩:=rx.ref_of A1;cases ha2;exact pz a' ys sq (q _ H1 α1 g1 A1 (Ahf (fun _ _ _ _ _=>trivial) ea))
 ·cases e
end
theorem Vals.rev{us:ac}(h:ja xs):Vals xs.reverse us.reverse:=by
 induction h with
 | nil=>exact .nil
 | cons h1 _ ih=>rw[fW,fW];exact ih.append (j4 h1)
theorem RepL.rev:∀ {us:aa} {xs:ε},vw->RepL K H α us.reverse xs.reverse
 | [],xs,r=>by unfold RepL at r;subst r;exact .nil
 | u::us,xs,r=>by
  unfold RepL at r;obtain ⟨x,xr,rfl,r1,r2⟩:=r;rw[fW,fW];exact (RepL.rev r2).append (j4 r1)
end MR
namespace HT
open PySem PySem.Spec PyProof.Rows
section
variable {prog:cL}{w:dC}{A:dN}{E:aJ->aO->Prop}{s:aO}
end
end HT
namespace MR
open PySem PySem.Spec PyProof.Rows L2
section
variable {X:Cx}{e st:Expr}{fa fs:FE}{p2 pos:Pos}
def A0j(f:FE):FE:=fun δ L=>(tm).bind fun p=>match p.1 with | .ref n=>(sx p.2).map fun l=>(.ref p.2.length,p.2++[.lst l.reverse]) | .tup l=>ξ (.tup l.reverse,p.2) | _=>ψ
end
structure ClsF(K:aK)(C:Str)(Ca:Addr):Prop where
 ns:lK K dJ C=ξ (η Ca)
 cl:Cls K Ca
theorem ClsF.eq{K:aK}{C:Str}{Ca Cb:Addr}(T:ClsF K C Ca)(h:lK K dJ C=ξ (η Cb)):Cb=Ca:=by
 have:=T.ns.symm.trans h;simpa using this.symm
section
variable {X:Cx}{o e value:Expr}{es:fj}{f m C x:Str}{p pos pos' apos:Pos}{Ca fa:Addr}{fd:fA}{ps:Φ}{k n:Nat}{F:FN}{fe fo fv:FE}{g:FA}
end
end MR
namespace ZT
open PySem PySem.Spec PyProof.Rows
open Sem (wp)
def SqK(b:Bool)(h:Heap)(l:Addr)(xs:bv):Prop:=match b with
 | true=>h.IsList l xs
 | false=>h.IsTuple l xs
def ItK(b:Bool)(h:Heap)(jt l:Addr)(k:Nat):Prop:=match b with
 | true=>h.IsListIter jt l k
 | false=>h.IsTupleIter jt l k
variable {b:Bool}{h h':Heap}{l:Addr}{xs:bv}
theorem SqK.keep(x:SqK b h l xs)(e:∀ o,h.get? l=ao->h'.get? l=ao):SqK b h' l xs:=by
 cases b with
 | true=>obtain ⟨o,ho,r⟩:=x;exact ⟨o,e _ ho,r⟩
 | false=>obtain ⟨o,ho,r⟩:=x;exact ⟨o,e _ ho,r⟩
variable {jt:Addr}{k:Nat}
theorem ItK.keep(x:ItK b h jt l k)(e:∀ o,h.get? jt=ao->h'.get? jt=ao):ItK b h' jt l k:=by
 cases b with
 | true=>obtain ⟨o,ho,r⟩:=x;exact ⟨o,e _ ho,r⟩
 | false=>obtain ⟨o,ho,r⟩:=x;exact ⟨o,e _ ho,r⟩
theorem ItK.lt(x:ItK b h jt l k):jt < h.objs.size:=by
 cases b with
 | true=>obtain ⟨o,ho,r⟩:=x;exact bC ho
 | false=>obtain ⟨o,ho,r⟩:=x;exact bC ho
theorem ItK.obj(x:ItK b h jt l k):∃ o,h.get? jt=ao/\o.data = .fields #[cy,sv k]:=by
 cases b with
 | true=>obtain ⟨o,ho,_,r⟩:=x;exact ⟨o,ho,r⟩
 | false=>obtain ⟨o,ho,_,r⟩:=x;exact ⟨o,ho,r⟩
variable {its:bv}{Q:aJ->aO->Prop}
section
variable {prog:cL}{w:dC}{A:dN}{E:aJ->aO->Prop}{s:aO}
theorem Ac8{t:Addr}{v:aJ}(hj:s.heap.IsTupleIter jt t k)(ht:s.heap.IsTuple t its)(hv:its[k]? = j3)
  (hQ:∀ h',h'.IsTupleIter jt t (k+1)->nN jt s.heap h'->Q v { s with heap:=h' }):cm mm A (cZ (.ref jt)) Q E:=by
 obtain ⟨ob,hob,hcl,hda⟩:=id hj;obtain ⟨ot,hot,_,nt,hdt⟩:=ht;unfold cZ;refine aG (eR (name:=cH "__next__") hj.typeIs iM (eX iM hj.typeIs nT ?_ (nE _)));show cm _ _ (field (.ref jt) 0 >>= _) _ _;refine aG (eT hob hda (x:=.ref t) rfl ?_);show cm _ _ (if (eB t == dX)=true then _ else _) _ _;rw[if_neg (show ¬ ((eB t == dX)=true) from (fun z=>cO z))];show cm _ _ (field (.ref jt) 1 >>= _) _ _;refine aG (eT hob hda (x:=.int k 0) rfl ?_);show cm _ _ (seqItems? (.ref t) >>= fun z=>_) _ _;refine aG (fG hot hdt ?_);simp only[eE,hv];refine aG (wpAny_setField hob hda Za (aU (gu v (aU (hQ _ ?_ (dU ..))))));exact ⟨_,mD _ hob (Obj.isFreed_of_fields (sZ hda _)),(Obj.cls_mapFields ..).trans hcl,by rw[sZ hda];simp[rawInt]⟩
theorem Wu{t:Addr}(hh:A.handled=ψ)(hj:s.heap.IsTupleIter jt t k)(ht:s.heap.IsTuple t its)(hv:its[k]? = ψ)
  (hE:∀ h' e,pD jt s.heap h'->(∃ ob,h'.get? e=ξ ob/\ob.cls = .type "StopIteration")->E (.ref e) { s with heap:=h' }):cm mm A (cZ (.ref jt)) Q E:=by
 obtain ⟨ob,hob,hcl,hda⟩:=id hj;obtain ⟨ot,hot,_,nt,hdt⟩:=ht;unfold cZ;refine aG (eR (name:=cH "__next__") hj.typeIs iM (eX iM hj.typeIs nT ?_ (nE _)));show cm _ _ (field (.ref jt) 0 >>= _) _ _;refine aG (eT hob hda (x:=.ref t) rfl ?_);show cm _ _ (if (eB t == dX)=true then _ else _) _ _;rw[if_neg (show ¬ ((eB t == dX)=true) from (fun z=>cO z))];show cm _ _ (field (.ref jt) 1 >>= _) _ _;refine aG (eT hob hda (x:=.int k 0) rfl ?_);show cm _ _ (seqItems? (.ref t) >>= fun z=>_) _ _;refine aG (fG hot hdt ?_);simp only[eE,hv];refine aG (mN (aG (wpAny_setField hob hda Za ?_)));show i6 _ _ (newExc (.type "StopIteration") [] >>= fun z=>_) _ _;refine aG ?_;simp only[newExc,newTuple];refine aG (fB ?_ (by size_fits));refine aG (m:=firstArgMember _ _) (wpAny_of_eq (a:=dX) (by first | rfl | (simp only[firstArgMember];rfl)) (fB ?_ (by size_fits)));simp only[raiseNew];refine aG (wpAny_handled ?_)
 first | rw[show A.in1.handled=ψ from hh] | (rw[hh])
 exact aG (aU (wpAny_throw (hE _ _ (((dU ..).extBut.push _).push _) (ik _ ki))))
theorem Ae9{v:aJ}(hj:ItK b s.heap jt l k)(hl:SqK b s.heap l its)(hv:its[k]? = j3)
  (hQ:∀ h',ItK b h' jt l (k+1)->nN jt s.heap h'->Q v { s with heap:=h' }):cm mm A (cZ (.ref jt)) Q E:=by
 cases b with
 | true=>exact wpAny_nextOf_list_item hj hl hv hQ
 | false=>exact Ac8 hj hl hv hQ
theorem Alc(hh:A.handled=ψ)(hj:ItK b s.heap jt l k)(hl:SqK b s.heap l its)(hv:its[k]? = ψ)
  (hE:∀ h' e,pD jt s.heap h'->(∃ ob,h'.get? e=ξ ob/\ob.cls = .type "StopIteration")->E (.ref e) { s with heap:=h' }):cm mm A (cZ (.ref jt)) Q E:=by
 cases b with
 | true=>exact wpAny_nextOf_list_end hh hj hl hv hE
 | false=>exact Wu hh hj hl hv hE
theorem SqK.but{c:Addr}(x:SqK b h l xs)(e:pD c h h')(hne:l≠c):SqK b h' l xs:=x.keep fun o q=>e l o hne q
theorem ItK.but{c:Addr}(x:ItK b h jt l k)(e:pD c h h')(hne:jt≠c):ItK b h' jt l k:=x.keep fun o q=>e jt o hne q
variable {b1 b2:Bool}{z TI TO j1 j2 l1 l2:Addr}{k1 k2:Nat}{ys:bv}{a b:aJ}
theorem Apn{x y:aJ}(D:rM z TI TO j1 j2 l1 l2)(hz:nK s.heap z TI TO .none)(hI:iG s.heap TI (.ref j1) (.ref j2))(hO:iG s.heap TO a b)
  (h1:ItK b1 s.heap j1 l1 k1) (h2:ItK b2 s.heap j2 l2 k2) (g1:SqK b1 s.heap l1 xs) (g2:SqK b2 s.heap l2 ys) (hx:xs[k1]? = jw) (hy:ys[k2]? = ξ y)
  (hQ:∀ h',nK h' z TI TO (rawInt s.heap.objs.size)->iG h' TO x y->ItK b1 h' j1 l1 (k1+1)->ItK b2 h' j2 l2 (k2+1)->iG h' s.heap.objs.size x y->h'.objs.size=s.heap.objs.size+1 ->
   Zw->Q bq { s with heap:=h' }) :
  wpAny mm A (gZ.«zip.__next__» ⟨[.ref z],[]⟩) (fun fin s'=>∃ v,fin = .done (.ret v)/\Q v s') E s:=by
 show i6 _ _ (field (.ref z) 2 >>= fun q=>_) _ _;refine aG (eT hz rfl (x:=.bool false) rfl ?_);show i6 _ _ (field (.ref z) 3 >>= _) _ _;refine aG (eT hz rfl (x:=.ref TI) rfl (aG (fG hI rfl ?_)));show i6 _ _ (fH (.ref z) >>= fun q=>_) _ _;refine aG ?_;unfold fH;refine aG (eT hz rfl (x:=.none) rfl (aU ?_));simp only[if_true];refine aG (mN (aG (eT hz rfl (x:=.ref TO) rfl (aG (iN hz Za fun p1 z1 s1=>?_)))));replace z1:nK p1 z TI TO .ellipsis:=z1;refine aG ?_;simp only[vJ,wH,nD,rN];refine aG (aG (pN ?_));show i6 _ _ (cZ (.ref j1) >>= _) _ _;refine aG (Ae9 (h1.but s1.extBut D.i1z) (g1.but s1.extBut D.l1z) hx fun p2 i2 s2=>aU ?_);have O2:iG p2 TO a b:=s2.extBut _ _ D.TOi1 (s1.extBut _ _ D.TOz hO);refine aG (fG O2 rfl (aG (mW O2 fun p3 O3 s3=>?_)));replace O3:iG p3 TO x b:=O3;refine aG (kE (aU ?_));refine aG (aG (pN ?_));show i6 _ _ (cZ (.ref j2) >>= fun q=>_) _ _;refine aG (Ae9 (((h2.but s1.extBut D.i2z).but s2.extBut D.i12.symm).but s3.extBut D.TOi2.symm) (((g2.but s1.extBut D.l2z).but s2.extBut D.l2i1).but s3.extBut D.l2TO) hy fun p4 i4 s4=>aU ?_);have O4:iG p4 TO x b:=s4.extBut _ _ D.TOi2 O3;refine aG (fG O4 rfl (aG (mW O4 fun p5 O5 s5=>?_)));replace O5:iG p5 TO x y:=O5;refine aG (kE (aU (aU ?_)));refine aG (fG O5 rfl (aG (rO ?_)));have hsz:p5.objs.size=s.heap.objs.size:=by rw[s5.1,s4.1,s3.1,s2.1,s1.1]
 have z5:nK p5 z TI TO .ellipsis:=s5.extBut _ _ D.TOz.symm (s4.extBut _ _ D.i2z.symm (s3.extBut _ _ D.TOz.symm (s2.extBut _ _ D.i1z.symm z1)));have k5:∀ c o,c≠z->c≠TO->c≠j1->c≠j2->s.heap.get? c=ao->p5.get? c=ao:=fun c o c1 c2 c3 c4 e=>s5.extBut _ _ c2 (s4.extBut _ _ c4 (s3.extBut _ _ c2 (s2.extBut _ _ c3 (s1.extBut _ _ c1 e))))
 have i15:ItK b1 p5 j1 l1 (k1+1):=((i2.but s3.extBut D.TOi1.symm).but s4.extBut D.i12).but s5.extBut D.TOi1.symm;have i25:ItK b2 p5 j2 l2 (k2+1):=i4.but s5.extBut D.TOi2.symm;have zlt:z < p5.objs.size:=bC z5;show i6 _ _ (kJ (.ref z) (.ref p5.objs.size) >>= fun q=>_) _ _;refine aG ?_;unfold kJ;have z6:nK (p5.push { cls:=.type "tuple",data:=.seq #[x,y] }) z TI TO .ellipsis:=jh z5;refine aG (iN z6 Za fun p7 z7 s7=>?_);replace z7:nK p7 z TI TO (rawInt p5.objs.size):=z7;refine iN z7 Za fun p8 z8 s8=>?_
 replace z8:nK p8 z TI TO (rawInt p5.objs.size):=z8;have up:∀ c o,c≠z->p5.get? c=ao->p8.get? c=ao:=fun c o c1 e=>s8.extBut _ _ c1 (s7.extBut _ _ c1 n8)
 have t8:iG p8 p5.objs.size x y:=s8.extBut _ _ (iE zlt) (s7.extBut _ _ (iE zlt) ki);have e8:p8.objs.size=p5.objs.size+1:=by rw[s8.1,s7.1,dB]
 rw[hsz] at z8 t8 e8;refine aU (gu _ ?_);show Q (.ref p5.objs.size) _;rw[hsz];exact hQ p8 z8 (up _ _ D.TOz O5) (i15.keep fun o e=>up _ o D.i1z e) (i25.keep fun o e=>up _ o D.i2z e) t8 e8 fun c o c1 c2 c3 c4 e=>up c o c1 (k5 c o c1 c2 c3 c4 e)
theorem Awd{Q:Fin->aO->Prop}(hh:A.handled=ψ)(D:rM z TI TO j1 j2 l1 l2)(hz:nK s.heap z TI TO .none)(hI:iG s.heap TI (.ref j1) (.ref j2))(hO:iG s.heap TO a b)
  (h1:ItK b1 s.heap j1 l1 k1) (h2:ItK b2 s.heap j2 l2 k2) (g1:SqK b1 s.heap l1 xs) (g2:SqK b2 s.heap l2 ys) (hend:xs[k1]? = ψ\/ys[k2]? = ψ)
  (hE:∀ h' e,Zw->(∃ ob,h'.get? e=ξ ob/\ob.cls = .type "StopIteration")->E (.ref e) { s with heap:=h' }) :
  wpAny mm A (gZ.«zip.__next__» ⟨[.ref z],[]⟩) Q E s:=by
 show i6 _ _ (field (.ref z) 2 >>= fun q=>_) _ _;refine aG (eT hz rfl (x:=.bool false) rfl ?_);show i6 _ _ (field (.ref z) 3 >>= _) _ _;refine aG (eT hz rfl (x:=.ref TI) rfl (aG (fG hI rfl ?_)));show i6 _ _ (fH (.ref z) >>= fun q=>_) _ _;refine aG ?_;unfold fH;refine aG (eT hz rfl (x:=.none) rfl (aU ?_));simp only[if_true];refine aG (mN (aG (eT hz rfl (x:=.ref TO) rfl (aG (iN hz Za fun p1 z1 s1=>?_)))));replace z1:nK p1 z TI TO .ellipsis:=z1;refine aG ?_;simp only[vJ,wH,nD,rN];refine aG (aG (pN ?_));show i6 _ _ (cZ (.ref j1) >>= _) _ _;cases hx:xs[k1]? with
 | none=>
  refine aG (Alc hh (h1.but s1.extBut D.i1z) (g1.but s1.extBut D.l1z) hx fun p2 e s2 he=>?_);obtain ⟨oe,hoe,hce⟩:=he;have z2:nK p2 z TI TO .ellipsis:=s2 _ _ D.i1z.symm z1;have hez:e≠z:=fun q=>by subst q;rw[z2] at hoe;cases hoe;simp at hce
  refine iN z2 Za fun p3 _ s3=>hE p3 e (fun c o c1 _ c3 _ q=>s3.extBut _ _ c1 (s2 _ _ c3 (s1.extBut _ _ c1 q))) ⟨oe,s3.extBut _ _ hez hoe,hce⟩
 | some x=>
  have hy:ys[k2]? = ψ:=by rcases hend with h | h;(rw[hx] at h;cases h);exact h
  refine aG (Ae9 (h1.but s1.extBut D.i1z) (g1.but s1.extBut D.l1z) hx fun p2 i2 s2=>aU ?_);have O2:iG p2 TO a b:=s2.extBut _ _ D.TOi1 (s1.extBut _ _ D.TOz hO);refine aG (fG O2 rfl (aG (mW O2 fun p3 O3 s3=>?_)));refine aG (kE (aU ?_));refine aG (aG (pN ?_));show i6 _ _ (cZ (.ref j2) >>= fun q=>_) _ _;refine aG (Alc hh (((h2.but s1.extBut D.i2z).but s2.extBut D.i12.symm).but s3.extBut D.TOi2.symm) (((g2.but s1.extBut D.l2z).but s2.extBut D.l2i1).but s3.extBut D.l2TO) hy fun p4 e s4 he=>?_);obtain ⟨oe,hoe,hce⟩:=he;have z4:nK p4 z TI TO .ellipsis:=s4 _ _ D.i2z.symm (s3.extBut _ _ D.TOz.symm (s2.extBut _ _ D.i1z.symm z1));have hez:e≠z:=fun q=>by subst q;rw[z4] at hoe;cases hoe;simp at hce
  refine iN z4 Za fun p5 _ s5=>hE p5 e (fun c o c1 c2 c3 c4 q=>s5.extBut _ _ c1 (s4 _ _ c4 (s3.extBut _ _ c2 (s2.extBut _ _ c3 (s1.extBut _ _ c1 q))))) ⟨oe,s5.extBut _ _ hez hoe,hce⟩
theorem Aqd{x y:aJ}{Q:bi->aO->Prop}(D:rM z TI TO j1 j2 l1 l2)(hz:nK s.heap z TI TO .none)(hI:iG s.heap TI (.ref j1) (.ref j2))(hO:iG s.heap TO a b)
  (h1:ItK b1 s.heap j1 l1 k1) (h2:ItK b2 s.heap j2 l2 k2) (g1:SqK b1 s.heap l1 xs) (g2:SqK b2 s.heap l2 ys) (hx:xs[k1]? = jw) (hy:ys[k2]? = ξ y)
  (hQ:∀ h',nK h' z TI TO (rawInt s.heap.objs.size)->iG h' TO x y->ItK b1 h' j1 l1 (k1+1)->ItK b2 h' j2 l2 (k2+1)->iG h' s.heap.objs.size x y->h'.objs.size=s.heap.objs.size+1 ->
   Zw->Q (η s.heap.objs.size) { s with heap:=h' }) :
  wpAny mm A (pyNext (.ref z)) Q E s:=by
 have ty:s.TypeIs (.ref z) "zip" := ik _ hz;unfold pyNext;exact aG (pO (eR (name:=cH "__next__") ty nF (eX nF ty vK (Apn D hz hI hO h1 h2 g1 g2 hx hy fun h' q1 q2 q3 q4 q5 q6 q7=>aU (hQ h' q1 q2 q3 q4 q5 q6 q7)) (tQ _))))
theorem Avw{Q:bi->aO->Prop}(hh:A.handled=ψ)(D:rM z TI TO j1 j2 l1 l2)(hz:nK s.heap z TI TO .none)(hI:iG s.heap TI (.ref j1) (.ref j2))(hO:iG s.heap TO a b)
  (h1:ItK b1 s.heap j1 l1 k1) (h2:ItK b2 s.heap j2 l2 k2) (g1:SqK b1 s.heap l1 xs) (g2:SqK b2 s.heap l2 ys) (hend:xs[k1]? = ψ\/ys[k2]? = ψ)
  (hQ:∀ h',Zw->Q ψ { s with heap:=h' }):cm mm A (pyNext (.ref z)) Q E:=by
 have ty:s.TypeIs (.ref z) "zip" := ik _ hz;unfold pyNext;refine aG (pO (eR (name:=cH "__next__") ty nF (eX nF ty vK (Awd hh D hz hI hO h1 h2 g1 g2 hend fun h' e hk he=>?_) (tQ _))));obtain ⟨ob,hob,hcl⟩:=he;exact aG (vL (T := "StopIteration") (b:=true) ⟨ob,hob,hcl⟩ isSubtype_stop (aU (hQ _ hk)))
end
noncomputable abbrev zh1(c1:String)(h:Heap)(l1:Addr):Heap:=h.push { cls:=.type c1,data:=.fields #[.ref l1,v8] }
abbrev zh2(c1 c2:String)(h:Heap)(l1 l2:Addr):Heap:=(zh1 c1 h l1).push { cls:=.type c2,data:=.fields #[.ref l2,v8] }
abbrev zh3(c1 c2:String)(h:Heap)(l1 l2:Addr):Heap:=(zh2 c1 c2 h l1 l2).push { cls:=.type "tuple",data:=.seq #[.ref h.objs.size,.ref (zh1 c1 h l1).objs.size] }
abbrev zh4(c1 c2:String)(h:Heap)(l1 l2:Addr):Heap:=(zh3 c1 c2 h l1 l2).push { cls:=.type "tuple",data:=.seq #[.none,.none] }
abbrev zh5(c1 c2:String)(h:Heap)(l1 l2:Addr):Heap:=(zh4 c1 c2 h l1 l2).push { cls:=.type "zip",data:=.fields #[.none,.bool false,.bool false,.ref (zh2 c1 c2 h l1 l2).objs.size,.ref (zh3 c1 c2 h l1 l2).objs.size] }
theorem Avz (l1 l2 : Addr) (xs ys : bv) : Meets (gZ.«zip.__new__» ⟨[.type "zip", .ref l1, .ref l2], []⟩) (fun _ R s => s.heap.IsTuple l1 xs /\ s.heap.IsTuple l2 ys /\
   R (.ok (.ret (.ref (zh4 "tuple_iterator" "tuple_iterator" s.heap l1 l2).objs.size))) { s with heap:=iw "tuple_iterator" s.heap l1 l2 }):=
 .of_wp fun prog w A R s h=>by
  obtain ⟨hp,g,d,tk,os⟩:=s;obtain ⟨t1,t2,h⟩:=h;have hsub:=sub_zip;have T1:qO (pE ⟨hp,g,d,tk,os⟩) l1 xs:=t1;have T2:qO (pE ⟨hp.push { cls:=.type "tuple_iterator",data:=.fields #[.ref l1,v8] },g,d,tk,os⟩) l2 ys:=tR t2 _
  wp_walk using fN T1,fN T2
  exact gu _ h
section
variable {prog:cL}{w:dC}{A:dN}{E:aJ->aO->Prop}{s:aO}
theorem Aox{l1 l2:Addr}{ys:bv}(t1:s.heap.IsTuple l1 xs)(t2:s.heap.IsTuple l2 ys)
  (h:∀ h',nK h' (s.heap.objs.size+4) (s.heap.objs.size+2) (s.heap.objs.size+3) .none->iG h' (s.heap.objs.size+2) bq (.ref Zi) ->
   iG h' (s.heap.objs.size+3) .none .none->ItK false h' s.heap.objs.size l1 0->ItK false h' Zi l2 0->(∀ c o,s.heap.get? c=ao->h'.get? c=ao)->Q (.ref (s.heap.objs.size+4)) { s with heap:=h' }) :
  wpAny mm A (call (.type "zip") [.ref l1,.ref l2]) Q E s:=by
 refine tS F.called_zip Zb (vM _ _) (wI _ _) (fun obj=>rP obj _ _) wJ (Avz l1 l2 xs ys) ⟨t1,t2,?_⟩;have z1:(zh1 "tuple_iterator" s.heap l1).objs.size=s.heap.objs.size+1:=dB ..;have z2:(zh2 "tuple_iterator" "tuple_iterator" s.heap l1 l2).objs.size=s.heap.objs.size+2:=by rw[dB,z1]
 have z3:(zh3 "tuple_iterator" "tuple_iterator" s.heap l1 l2).objs.size=s.heap.objs.size+3:=by rw[dB,z2]
 have z4:(zh4 "tuple_iterator" "tuple_iterator" s.heap l1 l2).objs.size=s.heap.objs.size+4:=by rw[dB,z3]
 have q5:(iw "tuple_iterator" s.heap l1 l2).get? (zh4 "tuple_iterator" "tuple_iterator" s.heap l1 l2).objs.size=ξ _:=ki;have q4:(iw "tuple_iterator" s.heap l1 l2).get? (zh3 "tuple_iterator" "tuple_iterator" s.heap l1 l2).objs.size=ξ _:=jh ki;have q3:(iw "tuple_iterator" s.heap l1 l2).get? (zh2 "tuple_iterator" "tuple_iterator" s.heap l1 l2).objs.size=ξ _:=sf ki;have q2:(iw "tuple_iterator" s.heap l1 l2).get? (zh1 "tuple_iterator" s.heap l1).objs.size=ξ _:=jh (sf ki);have q1:(iw "tuple_iterator" s.heap l1 l2).get? s.heap.objs.size=ξ _:=jh (sf (jh ki));show _/\_;rw[z2,z3,z4] at q5;rw[z1,z2] at q3;rw[z3] at q4;rw[z1] at q2;rw[z4];exact ⟨⟨_,q5,rfl⟩,h _ q5 q3 q4 ⟨_,q1,rfl,rfl⟩ ⟨_,q2,rfl,rfl⟩ fun c o q=>sf (sf (jh q))⟩
end
end ZT
namespace MR
open PySem PySem.Spec PyProof.Rows L2
def SK(bb:Bool)(K:aK)(H:Hp)(a:Addr)(xs:ε):Prop:=match bb with
 | true=>SqL K H a xs
 | false=>SqT K H a xs
variable {X:Cx}{H:Hp}{a:Addr}{xs:ε}
theorem SK.at{pins:List (Addr×Obj)}{σ:L2.St}{s:aO}{bb:Bool}(I:lj H s)(h:SK bb X.K H a xs):∃ its:ac,Vals xs its/\ZT.SqK bb s.heap a its.toArray/\xs.length<=sizeLine:=by
 cases bb with
 | true=>obtain ⟨its,r,p,z⟩:=I.list h;exact ⟨its,r,p.isList,z⟩
 | false=>obtain ⟨its,r,p,z⟩:=I.tuple h;exact ⟨its,r,p,z⟩
theorem SK.inj{pins:List (Addr×Obj)}{σ:L2.St}{s:aO}{bb:Bool}{ys:ε}(I:lj H s)(h:SK bb X.K H a xs)(h':SK bb X.K H a ys):xs=ys:=by
 cases bb with
 | true=>exact I.list_inj h h'
 | false=>exact I.tuple_inj h h'
def Anc(b1 b2:Bool)(K:aK)(a b:Addr):It:=
 ⟨fun i H=>∃ xs ys x y,SK b1 K H a xs/\SK b2 K H b ys/\xs[i]? = jw/\ys[i]? = ξ y,fun i H z H'=>∃ p x y,qq=ψ/\z = d7/\H'=f7 p (.tup [x,y])/\(∀ xs,SK b1 K H a xs->xs[i]? = jw)/\∀ ys,SK b2 K H b ys->ys[i]? = ξ y,
  fun i H=>∃ xs ys,SK b1 K H a xs/\SK b2 K H b ys/\(xs.length<=i\/ys.length<=i)⟩
theorem Yu{b1 b2:Bool}{P:cL}{w:dC}{K:aK}{elts:fj}{x1}{pos:Pos}(a b z TI TO i1 i2:Addr)(D:rM z TI TO i1 i2 a b):Turn P w K (.Tuple elts x1 pos) (Anc b1 b2 K a b) [z,TI,TO,i1,i2] z
  (fun i h=>nK h z TI TO .none/\iG h TI (.ref i1) (.ref i2)/\(∃ u v,iG h TO u v)/\ZT.ItK b1 h i1 a i/\ZT.ItK b2 h i2 b i) where
 mem:=Za
 obj:=fun i h st c hb=>by
  obtain ⟨h1,h2,⟨u,v,h3⟩,h4',h5'⟩:=st;obtain ⟨o4,h4,d4⟩:=h4'.obj;obtain ⟨o5,h5,d5⟩:=h5'.obj;simp only[bE,eY,or_false] at hb;rcases hb with rfl | rfl | rfl | rfl | rfl
  ·exact ⟨_,h1,fun v z=>by simp at z⟩
  ·exact ⟨_,h2,fun v z=>by simp at z⟩
  ·exact ⟨_,h3,fun v z=>by simp at z⟩
  ·exact ⟨_,h4,fun v z=>by rw[d4] at z;cases z⟩
  ·exact ⟨_,h5,fun v z=>by rw[d5] at z;cases z⟩
 keep:=fun i h h' st k=>by
  obtain ⟨h1,h2,⟨u,v,h3⟩,h4,h5⟩:=st;exact ⟨k z Za _ h1,k TI Za _ h2,⟨u,v,k TO Za _ h3⟩,h4.keep (k i1 Za),h5.keep (k i2 Za)⟩
 item:=by
  intro X hP hw hK hc i pins s σ H E I hf st hg;subst hP hw hK;obtain ⟨h1,h2,⟨u0,v0,h3⟩,h4,h5⟩:=st;obtain ⟨xs,ys,x,y,sq1,sq2,hx,hy⟩:=hg;obtain ⟨its1,hv1,pl1,hz1⟩:=SK.at I sq1;obtain ⟨its2,hv2,pl2,hz2⟩:=SK.at I sq2;obtain ⟨u,hu,r⟩:=hv1.get hx;obtain ⟨u',hu',r'⟩:=hv2.get hy;refine ZT.Aqd D h1 h2 h3 h4 h5 pl1 pl2 (by simpa using hu) (by simpa using hu') fun h' o1 o2 o3 o4 o5 o6 o7=>?_
  refine gu _ ?_;have hfr:H s.heap.objs.size=ψ:=j5;have I1:lj (ou (.tup [x,y])) { s with heap:=h',toks:=s.toks }:=
   Inv.turnNew (ch:=[z,TI,TO,i1,i2]) I hf (fun c o hb q=>o7 c o Zr Zr Zr Zr q) be
    (show ObjOk X.prog X.w _ h' _ (.tup [x,y]) from ⟨by show 2<=sizeLine;decide,[u,u'],.cons r (j4 r'),pz _ o5 _ rfl⟩)
  refine wpAny_letOwnedTupleGo_zip o1 fun h9 e2 sb2=>?_
  have hlt:∀ c∈[z,TI,TO,i1,i2],c < s.heap.objs.size:=fun c hb=>by
   simp only[bE,eY,or_false] at hb;rcases hb with rfl | rfl | rfl | rfl | rfl
   ·exact bC h1
   ·exact bC h2
   ·exact bC h3
   ·exact h4.lt
   ·exact h5.lt
  have hnone:∀ c∈[z,TI,TO,i1,i2],(ou (.tup [x,y])) c=ψ:=fun c hb=>by rw[Au (bW (hlt c hb))];exact (hf c hb).1
  obtain ⟨f0,f1,f2,f3,f4,f5⟩:=hf z Za;have I2:=I1.turned (t':=s.toks) (h':=h9) (it:=z) (fun c o hb q=>sb2.2 c hb |>.trans q) (hnone z Za) f1 f3 f4 f5;have hTI:iG h' TI (.ref i1) (.ref i2):=o7 TI _ D.TIz D.TITO D.TIi1 D.TIi2 h2;refine ⟨.ref s.heap.objs.size,_,I2,rfl,⟨_,x,y,hfr,rfl,rfl,fun ys sq'=>?_,fun ys sq'=>?_⟩,⟨e2,(sb2.2 TI D.TIz).trans hTI,⟨_,_,(sb2.2 TO D.TOz).trans o2⟩,o3.keep (fun o q=>(sb2.2 i1 D.i1z).trans q),o4.keep (fun o q=>(sb2.2 i2 D.i2z).trans q)⟩,hnone⟩
  ·rw[SK.inj I sq' sq1];exact hx
  ·rw[SK.inj I sq' sq2];exact hy
 done:=by
  intro X hP hw hK hc i pins s σ H E I hf st hg;subst hP hw hK;obtain ⟨h1,h2,⟨u0,v0,h3⟩,h4,h5⟩:=st;obtain ⟨xs,ys,sq1,sq2,hx⟩:=hg;obtain ⟨its1,hv1,pl1,hz1⟩:=SK.at I sq1;obtain ⟨its2,hv2,pl2,hz2⟩:=SK.at I sq2;have hl1:=hv1.length;have hl2:=hv2.length;refine ZT.Avw i7 D h1 h2 h3 h4 h5 pl1 pl2 (by simp;omega) fun h' k=>⟨rfl,?_⟩
  have nch:∀ b u,gn=br->b∉[z,TI,TO,i1,i2]:=fun b u e hb=>by rw[(hf b hb).1] at e;cases e
  have k':∀ b o,b∉[z,TI,TO,i1,i2]->a9=ao->cq=ao:=fun c o hb q=>k c o Zr Zr Zr Zr q
  refine I.step (g':=s.gens) (d':=s.drawn) (t':=s.toks) (ch:=[z,TI,TO,i1,i2]) (fun b hb=>?_) (fun b o _ _ hc e _=>k' b o hc e) (fun b o _ _ hc e _=>⟨o.slots,k' b o hc e⟩) (fun _ _ _ _ n=>n) (fun b u hc e=>⟨u,k' b u hc e⟩) (fun _ _ e=>e) (fun _ _ _ e=>e) (fun b ps e=>⟨#[],by rw[e];simp⟩) (fun m hm=>?_) (fun b u e=>?_) I.bare
  ·obtain ⟨_,f1,_,f3,f4,f5⟩:=hf b hb;exact ⟨f3,f1,f4,f5⟩
  ·obtain ⟨o1,es,ep,ho,r⟩:=hm;exact ⟨o1,es,ep,k' _ o1 (fun z=>(hf _ z).2.1 rfl) ho,r⟩
  ·refine (I.hok b u e).stay (fun c v hc q=>k' c v ?_ q) (fun _ q=>q) fun _ _ q=>q
   rcases hc with z | z
   ·rw[z];exact nch b u e
   ·exact nch c _ z
 self:=fun _ _ _ _ _ st h=>pZ st.1 h
section
variable {elts:fj}{x1:Nat}{tpos:Pos}
def Aza(K:aK)(ta:TA):TI:=fun σ H R=>ta σ H fun vs H1=>∃ a b xs ys,vs=[bp,gv]/\lv H1 a xs/\lv H1 b ys/\R (Anc false false K a b) H1
theorem Ah6{a b:Expr}{ta:TA}{p pos:Pos}(hg:Gl X "zip")(hm:X.mg "zip" = ψ)(ha:PA X [a,b] ta)(hs:bc [a,b]=ZU::bc [b]:=by rfl)(hpl:(f6 pos [b]).any (·.1)=false:=by rfl):PI X ZN (tz "zip" p [a,b] []) (Aza X.K ta):=by
 intro pins s σ H R I h;refine Call_ (Fs I hg hm Adb (cT (thn ZE fun us s1 ⟨vs,H1,I1,r1,q1⟩=>?_) hs hpl));obtain ⟨l1,l2,xs,ys,rfl,sq1,sq2,q⟩:=q1;obtain ⟨u,u',rfl,ru,ru'⟩:=X3 r1;cases ru;cases ru';obtain ⟨its1,hv1,pl1,hz1⟩:=I1.tuple sq1;obtain ⟨its2,hv2,pl2,hz2⟩:=I1.tuple sq2;have lt1:l1 < s1.heap.objs.size:=by obtain ⟨o,e,_⟩:=pl1;exact v7
 have lt2:l2 < s1.heap.objs.size:=by obtain ⟨o,e,_⟩:=pl2;exact v7
 refine ZT.Aox pl1 pl2 fun h' o1 o2 o3 o4 o5 o7=>?_
 have I2:lj H1 { s1 with heap:=h' }:=I1.kept (t':=s1.toks) o7;refine pZ o1 ⟨_,_,_,_,H1,rfl,I2,Yu (b1:=false) (b2:=false) l1 l2 _ _ _ _ _ (Yw _ _ _ lt1 lt2),⟨o1,o2,⟨_,_,o3⟩,o4,o5⟩,fun b hb=>?_,q⟩;have hb':s1.heap.objs.size<=b:=by
  simp only[bE,eY,or_false] at hb;rcases hb with rfl | rfl | rfl | rfl | rfl <;> first | exact vN _ _ | exact be
 exact L2.Inv.fpOk I1 hb' (I1.hok.fresh hb')
noncomputable def Dt(us ws:aa):aa:=(us.zip ws).map fun p=>.tup [p.1,p.2]
theorem P7(us ws:aa)(k:Nat):(Dt us ws)[k]? = Mr us[k]? ws[k]?:=by
 unfold Dt;rw[aX,List.zip,List.getElem?_zipWith];cases us[k]? <;> cases ws[k]? <;> rfl
theorem Abw{K:aK}{α:Ψ}{b:Addr}{us ws:aa}{ys:ε}(sa:lv H a xs)(sb:lv H b ys)(ra:vw)(rb:vm ws ys):Pd K (Anc false false K a b) (.seq (Dt us ws)) H α:=by
 intro H2 α2 L2 g A2 k;have mv:∀ (c:Addr) (vs:aa) (zs:ε),lv H c zs->RepL K H α vs zs->∃ zs2,lv H2 c zs2/\RepL K H2 α2 vs zs2:=fun c vs zs s r=>by
  have m:=(show RepU K H α (.tup vs) ow by unfold RepU;exact pz c zs s r).mono g
  unfold RepU at m;obtain ⟨c',zs2,e,s2,r2⟩:=m;cases e;exact ⟨zs2,s2,r2⟩
 obtain ⟨xs2,sa2,ra2⟩:=mv a us xs sa ra;obtain ⟨ys2,sb2,rb2⟩:=mv b ws ys sb rb;refine ⟨fun u eu=>?_,fun eu=>?_⟩
 ·have eu:(Dt us ws)[k]? = br:=by simpa[IU.at] using eu
  rw[P7] at eu;cases h1:us[k]? with
  | none=>rw[h1] at eu;simp[Mr] at eu
  | some u1=>
   cases h2:ws[k]? with
   | none=>rw[h1,h2] at eu;simp[Mr] at eu
   | some u2=>
    rw[h1,h2] at eu;simp[Mr] at eu;subst eu;obtain ⟨x,hx,rx⟩:=ra2.get h1;obtain ⟨y,hy,ry⟩:=rb2.get h2;refine ⟨⟨xs2,ys2,x,y,sa2,sb2,hx,hy⟩,?_⟩;rintro z H3 ⟨p,v,v',hp,rfl,rfl,hy1,hy2⟩;have e1:=hy1 xs2 sa2;have e2:=hy2 ys2 sb2;rw[hx] at e1;cases e1;rw[hy] at e2;cases e2;exact A2.tup (.cons rx (j4 ry)) hp
 ·have eu:(Dt us ws)[k]? = ψ:=by simpa[IU.at] using eu
  rw[P7] at eu;refine ⟨xs2,ys2,sa2,sb2,?_⟩;cases h1:us[k]? with
  | none=>left;rw[<- ra2.length];exact cJ.mp h1
  | some u1=>
   cases h2:ws[k]? with
   | none=>right;rw[<- rb2.length];exact cJ.mp h2
   | some u2=>rw[h1,h2] at eu;simp[Mr] at eu
end
end MR
namespace MR
open PySem PySem.Spec PyProof.Rows PySem.Calls L2
theorem Arb{bs:List Bool}:∀ {us:ac},Vals (bs.map V.bl) us->∀ (i:Nat) (v:aJ),us[i]? = ξ v->∃ b,bs[i]? = ξ b/\v = .bool b:=by
 induction bs with
 | nil=>intro us r i v e;rw[bY] at r;cases r;simp at e
 | cons n ns ih=>
  intro us r i v e;rw[aQ] at r;cases r with
  | cons r1 r2=>
   cases i with
   | zero=>simp at e;subst e;exact ⟨n,rfl,r1⟩
   | succ i=>simpa using ih r2 i v (by simpa using e)
theorem Arn{bs:List Bool}:∀ {us:ac},ja (bs.map V.bl)->us.length=bs.length:=by
 induction bs with
 | nil=>intro us r;rw[bY] at r;cases r;rfl
 | cons n ns ih=>
  intro us r;rw[aQ] at r;cases r with
  | cons r1 r2=>simp[ih r2]
theorem Ao5(bs:List Bool):((bJ bs.length).all fun i=>(bs[i]?).getD true)=bs.all id:=by
 rw[eV,bO,bO];constructor
 ·intro h b hb;obtain ⟨i,hi,e⟩:=dE hb;have:=h i (bM.mpr hi);simp only[km,gQ,e] at this;exact this
 ·intro h i hi;have hi':=bM.mp hi;simp only[aC hi',gQ];exact h _ (cS hi')
section
variable {X:Cx}
theorem Agp{s:aO}{h':Heap}{o:Obj}(hk:∀ b x,b∉[s.heap.objs.size]->(s.heap.push o).get? b=jw->cq=jw):∀ b x,a9=jw->cq=jw:=
 fun b x e=>hk b x (fun hm=>by rw[bV.mp hm] at e;exact cX _ v7) n8
theorem R1(hc:X.calm=true):ll X "all" (fun xs H Q=>∃ (p:Addr) (bs:List Bool),xs=[d7]/\qk X.K p (bs.map V.bl)/\Q (.bl (bs.all id)) H):=by
 intro pins s σ H xs us Q I r h;obtain ⟨p,bs,rfl,hq,q⟩:=h;obtain ⟨u,rfl,rx⟩:=Ee r;cases rx;obtain ⟨its,r',pl,hz⟩:=oa;have hl:=pl.isList;have hlt:p < s.heap.objs.size:=by obtain ⟨_,e,_⟩:=hl;exact v7
 refine call_all_walk (jB hl ?_);refine ⟨s.heap.objs.size,[s.heap.objs.size,p],[s.heap.objs.size],its.toArray.size,_,_,fun i=>(bs[i]?).getD true,rfl,qP (A:=qQ _) i7 _ p (bW hlt) its.toArray,
  ⟨⟨_,ki,rfl,rfl⟩,hl.push _⟩,fun i v s' Q' E' hP hQ=>?_,fun h' tk hk=>?_⟩
 ·obtain ⟨b,e,rfl⟩:=Arb r' i v (by simpa using hP);simp only[e,gQ] at hQ;exact jA hQ
 ·have e:((bJ its.toArray.size).all fun i=>(bs[i]?).getD true)=bs.all id:=by
   rw[aT,Arn r'];exact Ao5 bs
  rw[e];exact ck (.bl (bs.all id)) H (I.kept (Agp hk)) q
end
noncomputable def toB:U->Option Bool
 | .bl b=>ξ b
 | _=>ψ
variable {K:aK}
theorem Ags{H:Hp}{α:Ψ}:∀ {us:aa} {xs:ε} {bs:List Bool},vw->mapO toB us=ξ bs->xs=bs.map V.bl
 | [],xs,ys,r,h=>by unfold RepL at r;subst r;cases h;rfl
 | u::us,xs,ys,r,h=>by
  unfold RepL at r;obtain ⟨x,xr,rfl,r1,r2⟩:=r;obtain ⟨y,e1,h⟩:=aB.mp h;obtain ⟨yr,e2,h⟩:=aH.mp h;subst h;cases u <;> simp only[toB] at e1 <;> first
   | (cases e1;unfold RepU at r1;subst r1;rw[Ags r2 e2];rfl)
   | cases e1
def Nq:SC:=fun us L=>match us with
 | [.ref n]=>(sy).bind fun l=>(mapO toB l).map fun bs=>(.bl (bs.all id),L)
 | _=>ψ
theorem Abe:R9 K (fun xs H Q=>∃ (p:Addr) (bs:List Bool),xs=[d7]/\qk K p (bs.map V.bl)/\Q (.bl (bs.all id)) H) Nq:=by
 intro H α L us xs z L' Q A r e q;unfold Nq at e;split at e
 ·obtain ⟨l,hl,e⟩:=af;obtain ⟨bs,e1,e⟩:=cx;cases e;obtain ⟨x,rfl,rx⟩:=r.one;obtain ⟨a,ys,rfl,sq,r2⟩:=Fi A hl rx;rw[Ags r2 e1] at sq;exact pz a bs sq (q _ H α gp A rfl)
 ·cases e
section
variable {X:Cx}
end
def R4:SM:=fun u us L=>match u,us with
 | .ref n,[.ref m]=>(Fy L n).bind fun l=>(Fy L m).bind fun l'=>if l.length+l'.length<=sizeLine then ξ (.non,ml n (l++l')) else ψ
 | _,_=>ψ
theorem Ae0:Af2 K T4 R4:=by
 intro H α L u us x xs z L' Q A ru r e q;unfold R4 at e;split at e
 ·obtain ⟨l,hl,e⟩:=af;obtain ⟨l',hl',e⟩:=af;split at e
  ·rename_i hs;cases e;obtain ⟨v,rfl,rv⟩:=r.one;obtain ⟨a,ys,rfl,ea,h,r2⟩:=Lp A hl ru;obtain ⟨b,ws,rfl,eb,h',r3⟩:=Lp A hl' rv;obtain ⟨g,A'⟩:=A.setL hl ea h (r2.append r3);exact ⟨a,b,ys,ws,rfl,rfl,h,h',by rw[<- r2.length,<- r3.length];exact hs,q _ _ _ g A' rfl⟩
  ·cases e
 ·cases e
end MR
namespace ZT
open PySem PySem.Spec PyProof.Rows
open Sem (wp)
theorem Nv(l:Addr)(items:bv) :
  Meets (gZ.«enumerate.__new__» ⟨[.type "enumerate",cy],[]⟩) (fun _ R s=>s.heap.IsTuple l items /\
   R (.ok (.ret (.ref (s.heap.push { cls:=.type "tuple_iterator",data:=.fields #[cy,v8] }).objs.size)))
    { s with heap:=(s.heap.push { cls:=.type "tuple_iterator",data:=.fields #[cy,v8] }).push { cls:=.type "enumerate",data:=.fields #[.none,.bool false,bq,rawInt 0,.none,.none] } }):=
 .of_wp fun prog w A R s h=>by
  obtain ⟨hp,g,d,tk,os⟩:=s;obtain ⟨hl,h⟩:=h;have hsub:=sub_enumerate;have hL:qO (pE ⟨hp,g,d,tk,os⟩) l items:=hl
  wp_walk using fN hL
  refine wpAny_stack_any fun st=>aU ?_
  split
  ·rename_i c _ _ _ _ _;cases (c == iJ "enumerate")
   ·wp_walk using fN hL
    exact gu _ h
   ·wp_walk using fN hL
    exact gu _ h
  ·wp_walk using fN hL
   exact gu _ h
variable {prog:cL}{w:dC}{A:dN}
section
variable {E:aJ->aO->Prop}{s:aO}
theorem Nu{l:Addr}{items:bv}{Q:aJ->aO->Prop}(hL:s.heap.IsTuple l items)
  (h:∀ h',IsEnum h' Zi s.heap.objs.size 0 .none->h'.IsTupleIter s.heap.objs.size l 0->h'.objs.size=s.heap.objs.size+2 ->
   Z7->Q (.ref Zi) { s with heap:=h' }) :
  wpAny mm A (call (.type "enumerate") [cy]) Q E s:=by
 refine tS F.called_enumerate Zb (F.typeCall_enumerate_1 _) (F.newCall_enumerate_1 _) (fun obj=>F.args_object_init_2 obj _) F.entry_enumerate_new
  (Nv l items) ⟨hL,?_⟩
 have hz:(s.heap.push { cls:=.type "tuple_iterator",data:=.fields #[cy,v8] }).objs.size=s.heap.objs.size+1:=dB ..;show _/\_;rw[hz];have he:IsEnum ((s.heap.push { cls:=.type "tuple_iterator",data:=.fields #[cy,v8] }).push
   { cls:=.type "enumerate",data:=.fields #[.none,.bool false,bq,rawInt 0,.none,.none] }) Zi s.heap.objs.size 0 .none:=by
  have:=aV (s.heap.push { cls:=.type "tuple_iterator",data:=.fields #[cy,v8] })
   (o:={ cls:=.type "enumerate",data:=.fields #[.none,.bool false,bq,rawInt 0,.none,.none] }) rfl
  rw[hz] at this;exact this
 refine ⟨⟨_,he,rfl⟩,h _ he ⟨_,jh ki,rfl,rfl⟩ (by rw[dB,hz]) fun b o x=>sf x⟩
end
theorem Abj(hh:A.handled=ψ)(it l:Addr)(hne:l≠it)(items:bv) :
  Draws prog w A it [it,l] items.size (fun i v=>items[i]? = j3) (fun i h=>h.IsTupleIter it l i/\h.IsTuple l items) where
 live:=fun _ _ st=>let ⟨o,ho,_⟩:=st.1;⟨o,ho⟩
 frame:=fun _ _ _ st hk=>⟨st.1.at fun o e=>hk it Za o e,st.2.at fun o e=>hk l Za o e⟩
 item:=fun i s Q E hi st hQ=>by
  refine Ac8 st.1 st.2 (v:=items[i]) (by simp[hi]) fun h' hit' hs'=>?_
  exact hQ _ h' s.toks (by simp[hi]) ⟨hit',st.2.extBut hs'.extBut hne⟩ hs'
 done:=fun s Q E st hE=>Wu hh st.1 st.2 Za hE
section
variable {E:aJ->aO->Prop}{s:aO}
theorem Aau{e it l:Addr}{n:Nat}{i:Int}{items:bv}{old:aJ}{Q:bi->aO->Prop}(hh:A.handled=ψ)
  (he:IsEnum s.heap e it i old) (hit:s.heap.IsTupleIter it l n) (hl:s.heap.IsTuple l items) (hn:items.size<=n)
  (hQ:∀ h',pD it s.heap h'->Q ψ { s with heap:=h' }):cm mm A (pyNext (.ref e)) Q E:=by
 have hT:s.TypeIs (.ref e) "enumerate" := ik _ he;unfold pyNext;refine aG (pO (eR (name:=cH "__next__") hT rC
  (eX rC hT F.entry_enumerate_next ?_ (F.args_enumerate_next_1 _))))
 show i6 _ _ (field (.ref e) 2 >>= _) _ _;refine aG (eT he rfl (x:=.ref it) rfl ?_);refine aG (Wu (A:=qQ A) hh hit hl (by simp;omega) fun h' x he' hx'=>?_);obtain ⟨o,ho,hc⟩:=hx';refine aG (vL (T := "StopIteration") (b:=true) ⟨o,ho,hc⟩ isSubtype_stop ?_);exact aU (hQ _ he')
end
end ZT
namespace MR
open PySem PySem.Spec PyProof.Rows L2
def Avs(K:aK)(a:Addr):It:=
 ⟨fun i H=>∃ xs x,lv H a xs/\xs[i]? = jw,fun i H x H'=>∃ p v,qq=ψ/\x = d7/\H'=upd H p (.tup [ce,v])/\∀ xs,lv H a xs->xs[i]? = j3,fun i H=>∃ xs,lv H a xs/\xs.length<=i⟩
variable {pos:Pos}
theorem Aey{P:cL}{w:dC}{K:aK}{elts:fj}{x1}(a e it:Addr)(hne:e≠it):Turn P w K (.Tuple elts x1 pos) (Avs K a) [e,it] e (fun i h=>(∃ old,IsEnum h e it i old)/\h.IsTupleIter it a i) where
 mem:=Za
 obj:=fun i h st b hb=>by
  obtain ⟨⟨old,he⟩,o,ho,hc,hd⟩:=st;rcases bE.mp hb with rfl | hb
  ·exact ⟨_,he,fun v z=>by simp at z⟩
  ·have:b=it:=by simpa using hb
   subst this;exact ⟨o,ho,fun v z=>by rw[hd] at z;cases z⟩
 keep:=fun i h h' st k=>by
  obtain ⟨⟨old,he⟩,o,ho,hc,hd⟩:=st;exact ⟨⟨old,k e Za _ he⟩,o,k it Za _ ho,hc,hd⟩
 item:=by
  intro X hP hw hK hc i pins s σ H E I hf st hg;subst hP hw hK;obtain ⟨⟨old,he⟩,hit⟩:=st;obtain ⟨xs,v,sq,hx⟩:=hg;obtain ⟨its,hv,pl,hz⟩:=I.tuple sq;obtain ⟨u,hu,r⟩:=hv.get hx;have hae:e≠a:=fun q=>by
   subst q;obtain ⟨o,ho,hc,_⟩:=pl;have:ao=ξ _:=ho.symm.trans he;cases this;simp at hc
  have hai:a≠it:=fun q=>by
   subst q;obtain ⟨o,ho,hc,_⟩:=pl;obtain ⟨o',ho',hc',_⟩:=hit;have:ao=ξ o':=ho.symm.trans ho';cases this;rw[hc] at hc';simp at hc'
  have hlt:i < its.toArray.size:=by
   have:=(aI.mp hu).1;simpa using this
  refine wpAny_pyNext_enum_itemD (ZT.Abj (A:=qQ _) i7 it a hai its.toArray) he ⟨hit,pl⟩ hlt hne (by simp[hne,hae]) fun x h' tk px o1 o2 o3 o4 o5=>?_
  have hxu:x=u:=by
   have:its[i]? = jw:=by simpa using px
   rw[hu] at this;cases this;rfl
  subst hxu;refine gu _ ?_;have hfr:H s.heap.objs.size=ψ:=j5;have I1:lj (ou (.tup [ce,v])) { s with heap:=h',toks:=tk+1 }:=
   Inv.turnNew (ch:=[e,it]) I hf (fun b o hb q=>o5 b o Zr Zr q) be
    (show ObjOk X.prog X.w _ h' _ (.tup [ce,v]) from ⟨by show 2<=sizeLine;decide,[.int i tk,x],.cons jk (j4 r),pz _ o3 _ rfl⟩)
  refine oP o1 fun h2 e2 sb2=>?_
  have hne2:∀ b∈[e,it],b≠s.heap.objs.size:=fun b hb z=>by
   rcases bE.mp hb with q | q
   ·have:=bC he;rw[<- q,z] at this;exact cX _ this
   ·have q:b=it:=by simpa using q
    obtain ⟨o,ho,_⟩:=hit;have:=bC ho;rw[<- q,z] at this;exact cX _ this
  have hnone:∀ b∈[e,it],(ou (.tup [ce,v])) b=ψ:=fun b hb=>by rw[Au (hne2 b hb)];exact (hf b hb).1
  obtain ⟨f0,f1,f2,f3,f4,f5⟩:=hf e Za;have I2:=I1.turned (t':=tk+1) (h':=h2) (it:=e) (fun b o hb q=>sb2.2 b hb |>.trans q) (hnone e Za) f1 f3 f4 f5;obtain ⟨oi,hoi,hci,hdi⟩:=o2.1;refine ⟨.ref s.heap.objs.size,_,I2,rfl,⟨_,v,hfr,rfl,rfl,fun ys sq'=>?_⟩,⟨⟨_,e2⟩,oi,(sb2.2 it (eJ hne)).trans hoi,hci,hdi⟩,hnone⟩;rw[I.tuple_inj sq' sq];exact hx
 done:=by
  intro X hP hw hK hc i pins s σ H E I hf st hg;subst hP hw hK;obtain ⟨⟨old,he⟩,hit⟩:=st;obtain ⟨xs,sq,hx⟩:=hg;obtain ⟨its,hv,pl,hz⟩:=I.tuple sq;obtain ⟨f0,f1,f2,f3,f4,f5⟩:=hf it Za;have hlen:=hv.length;exact ZT.Aau i7 he hit pl (by simp;omega) fun h' eb=>⟨rfl,I.turned (t':=s.toks) (fun b o hb q=>eb b o hb q) f0 f1 f3 f4 f5⟩
 self:=fun _ _ _ _ _ st h=>by obtain ⟨⟨old,he⟩,_⟩:=st;exact lL he h
variable {X:Cx}
section
variable {elts:fj}{x1:Nat}{tpos:Pos}
def Aws(K:aK)(ta:TA):TI:=fun σ H R=>ta σ H fun vs H1=>∃ a xs,vs=[bp]/\lv H1 a xs/\R (Avs K a) H1
theorem Alq{a:Expr}{ta:TA}{p:Pos}(hg:Gl X "enumerate")(hm:X.mg "enumerate" = ψ)(ha:PA X [a] ta)(hs:bc [a]=[ZU]:=by rfl):PI X ZN (tz "enumerate" p [a] []) (Aws X.K ta):=by
 intro pins s σ H R I h;refine Call_ (Fs I hg hm X0 (cT (thn ZE fun us s1 ⟨vs,H1,I1,r1,q1⟩=>?_) hs rfl));obtain ⟨l,xs,rfl,sq,q⟩:=q1;obtain ⟨u,rfl,ru⟩:=Ee r1;cases ru;obtain ⟨its,hv,pl,hz⟩:=I1.tuple sq;refine ZT.Nu pl fun h' o1 o2 o3 o4=>?_
 have I2:lj H1 { s1 with heap:=h' }:=I1.kept (t':=s1.toks) o4;refine lL o1 ⟨_,_,_,_,H1,rfl,I2,Aey l (s1.heap.objs.size+1) s1.heap.objs.size (iE (eK _)),⟨⟨_,o1⟩,o2⟩,fun b hb=>?_,q⟩;have hb':s1.heap.objs.size<=b:=by
  simp only[bE,eY,or_false] at hb;rcases hb with rfl | rfl
  ·exact iB _
  ·exact be
 exact L2.Inv.fpOk I1 hb' (I1.hok.fresh hb')
noncomputable def Ko(us:aa):aa:=us.mapIdx fun i u=>.tup [ce,u]
def Jx(g:FA):FI:=fun δ L=>(g δ L).bind fun p=>match p.1 with
 | [.ref n]=>(sx p.2).map fun _=>(.enm n,p.2)
 | [.tup us]=>ξ (.seq (Ko us),p.2)
 | _=>ψ
theorem Anj{K:aK}{H:Hp}{α:Ψ}{a:Addr}{us:aa}{xs:ε}(sq:lv H a xs)(r:vw):Pd K (Avs K a) (.seq (Ko us)) H α:=by
 intro H2 α2 L2 g A2 k;have m:=(show RepU K H α (.tup us) bp by unfold RepU;exact pz a xs sq r).mono g
 unfold RepU at m;obtain ⟨c',xs,e,sq2,r2⟩:=m;cases e;refine ⟨fun u eu=>?_,fun eu=>?_⟩
 ·have eu:(Ko us)[k]? = br:=by simpa[IU.at] using eu
  unfold Ko at eu;rw[mX] at eu;obtain ⟨w,hw,eu⟩:=aH.mp eu;subst eu;obtain ⟨x,hx,rx⟩:=r2.get hw;refine ⟨⟨xs,x,sq2,hx⟩,?_⟩;rintro y H3 ⟨p,v,hp,rfl,rfl,hy⟩;have:=hy xs sq2;rw[hx] at this;cases this;exact A2.tup (.cons rfl (j4 rx)) hp
 ·have eu:(Ko us)[k]? = ψ:=by simpa[IU.at] using eu
  unfold Ko at eu;rw[mX] at eu;have:us[k]? = ψ:=by simpa using eu
  exact ⟨xs,sq2,by rw[<- r2.length];exact cJ.mp this⟩
theorem R7{a:Expr}{g:FA}{p:Pos}(hg:Gl X "enumerate")(hm:X.mg "enumerate" = ψ)(ha:PAF X [a] g)(hs:bc [a]=[ZU]:=by rfl):PIF X ZN (tz "enumerate" p [a] []) (Jx g):=by
 refine PI.imp (PI.or (Ag8 hg hm ha hs) (Alq hg hm ha hs)) ?_;rintro σ H R ⟨α,δ,L,A,S,i,L3,e,q⟩;obtain ⟨⟨us,L1⟩,e1,e⟩:=af;simp only at e;split at e
 ·obtain ⟨l,hl,e⟩:=cx;cases e;refine .inl ⟨α,δ,L,A,S,_,_,e1,fun xs H1 α1 g1 A1 r1=>?_⟩;obtain ⟨x,rfl,rx⟩:=r1.one;obtain ⟨a',ys,rfl,sq,r2⟩:=Fi A1 hl rx;obtain ⟨a2,ea,ha2⟩:=rx.ref_of A1;cases ha2;exact pz a' ys sq (q _ H1 α1 g1 A1 (Ahf (fun _ _ _ _ _=>trivial) ea))
 ·cases e;refine .inr ⟨α,δ,L,A,S,_,_,e1,fun xs H1 α1 g1 A1 r1=>?_⟩;obtain ⟨x,rfl,rx⟩:=r1.one;unfold RepU at rx;obtain ⟨a',ys,rfl,sq,r2⟩:=rx;exact pz a' ys sq (q _ H1 α1 g1 A1 (Anj sq r2))
 ·cases e
end
theorem Tv:∀ (names:List (Str×jC)) (n:Nat) (acc:List (Str×Addr)) (x:Str) (c:Addr),(cellsFrom n names acc).lookup x=fg->((x,hU)∈names/\n<=c)\/acc.lookup x=ξ c
 | [],n,acc,x,c,h=>.inr h
 | (y,k)::r,n,acc,x,c,h=>by
  unfold cellsFrom at h;split at h
  ·rename_i hk;have hk':k = .cell:=by simpa using hk
   rcases Tv r (n+1) _ x c h with ⟨a,b⟩ | q
   ·exact .inl ⟨oq a,Ze⟩
   ·rw[cF] at q;cases hx:x == y with
    | true => rw [hx] at q; simp at q; have : x = y := by simpa using hx
              subst this;subst hk';subst q;exact .inl ⟨aS ..,be⟩
    | false=>rw[hx] at q;exact .inr q
  ·rcases Tv r n acc x c h with ⟨a,b⟩ | q
   ·exact .inl ⟨oq a,b⟩
   ·exact .inr q
theorem Aa5:∀ (names:List (Str×jC)) (n:Nat) (acc:List (Str×Addr)) (x:Str),(x,hU)∉names->(cellsFrom n names acc).lookup x=acc.lookup x
 | [],n,acc,x,h=>rfl
 | (y,k)::r,n,acc,x,h=>by
  unfold cellsFrom;have h2:(x,hU)∉r:=fun q=>h (oq q)
  split
  ·rename_i hk;have hk':k = .cell:=by simpa using hk
   rw[Aa5 r (n+1) _ x h2,cF];cases hx:x == y with
   | true => have : x = y := by simpa using hx
             subst this;subst hk';exact absurd (aS ..) h
   | false=>rfl
  ·exact Aa5 r n acc x h2
theorem Afv:∀ (names:List (Str×jC)) (n:Nat) (acc:List (Str×Addr)),(∀ x c,acc.lookup x=fg->c < n)->(∀ x y c,acc.lookup x=fg->acc.lookup y=fg->x=y)->∀ x y c,(cellsFrom n names acc).lookup x=fg->(cellsFrom n names acc).lookup y=fg->x=y
 | [],n,acc,_,h,x,y,c,a,b=>h x y c a b
 | (z,k)::r,n,acc,h1,h2,x,y,c,a,b=>by
  unfold cellsFrom at a b;split at a
  ·rw[if_pos (by assumption)] at b;refine Afv r (n+1) ((z,n)::acc) (fun u v q=>?_) (fun u v w q1 q2=>?_) x y c a b
   ·rw[cF] at q;cases hx:u == z with
    | true=>rw[hx] at q;simp at q;subst q;exact eK _
    | false=>rw[hx] at q;exact lM (h1 u v q)
   ·rw[cF] at q1 q2;cases hu:u == z with
    | true=>
     rw[hu] at q1;simp at q1;cases hv:v == z with
     | true => have e1 : u = z := by simpa using hu
               have e2:v=z:=by simpa using hv
               rw[e1,e2]
     | false=>rw[hv] at q2;subst q1;exact absurd (h1 v _ q2) (cX _)
    | false=>
     rw[hu] at q1;cases hv:v == z with
     | true=>rw[hv] at q2;simp at q2;subst q2;exact absurd (h1 u _ q1) (cX _)
     | false=>rw[hv] at q2;exact h2 u v w q1 q2
  ·rw[if_neg (by assumption)] at b;exact Afv r n acc h1 h2 x y c a b
theorem Vd:∀ (names:List (Str×jC)) (h:Heap) (acc:List (Str×Addr)),(∀ x c,acc.lookup x=ξ c->∃ v,h.IsCell c v)->∀ x c,(cellsFrom h.objs.size names acc).lookup x=ξ c->∃ v,(pushCells h names).IsCell c v
 | [],h,acc,q,x,c,e=>q x c e
 | (y,k)::r,h,acc,q,x,c,e=>by
  unfold cellsFrom at e;unfold pushCells;split at e
  ·rw[if_pos (by assumption)];have hz:h.objs.size+1=(h.push { cls:=.type "cell",data:=.cell ψ }).objs.size:=(dB ..).symm;rw[hz] at e;refine Vd r _ _ (fun u v z=>?_) x c e;rw[cF] at z;cases hx:u == y with
   | true=>rw[hx] at z;simp at z;subst z;exact ⟨ψ,ik _ ki⟩
   | false=>rw[hx] at z;obtain ⟨w,hw⟩:=q u v z;exact ⟨w,hw.keeps fun b o e=>n8⟩
  ·rw[if_neg (by assumption)];exact Vd r h acc q x c e
theorem Afl:∀ (names:List (Str×jC)) (n:Nat) (acc:List (Str×Addr)) (x:Str) (c:Addr) (n0:Nat),n0<=n->((x,hU)∈names\/∀ c':Addr,acc.lookup x=ξ c'->n0<=c')->(cellsFrom n names acc).lookup x=fg->n0<=c
 | [],n,acc,x,c,n0,_,h,e=>by
  rcases h with h | h
  ·cases h
  ·exact h c e
 | (y,k)::r,n,acc,x,c,n0,hn,h,e=>by
  unfold cellsFrom at e;split at e
  ·rename_i hk;refine Afl r (n+1) _ x c n0 (tT hn) ?_ e;cases hx:x == y with
   | true=>right;intro c' q;rw[cF,hx] at q;simp at q;subst q;exact hn
   | false=>
    rcases h with h | h
    ·rcases bE.mp h with q | q
     ·have:x=y:=(mU q).1;rw[this] at hx;simp at hx
     ·exact .inl q
    ·right;intro c' q;rw[cF,hx] at q;exact h c' q
  ·rename_i hk;refine Afl r n acc x c n0 hn ?_ e;rcases h with h | h
   ·rcases bE.mp h with q | q
    ·have:hU=k:=(mU q).2;rw[<- this] at hk;simp at hk
    ·exact .inl q
   ·exact .inr h
variable {scope:kA}
theorem Aio{M:Model}{A:dN}{E:aJ->aO->Prop}{s:aO}{globals:Addr}{closure:List (Str×Addr)}{qual:Str}{func:du}{code:aJ}{outer:mM}{builtins:Addr}{Q:mM->aO->Prop}
  (hQ:Q (newEnv scope s.heap.objs.size globals (lg Zi closure) qual func code (ξ outer) builtins) { s with heap:=pushCells (s.heap.push { cls:=.type "dict",data:=.dict #[] }) scope.names }) :
  wpAny M A (newFunctionEnv scope globals closure [] qual func code (ξ outer) builtins) Q E s:=by
 simp only[newFunctionEnv,sX,if_true];refine aG (wpAny_alloc ?_);refine aG (wpAny_layCells _ (fun name kind cells=>by cases hkc:kind == hU <;> simp[hkc]) _ _ _ _ ?_)
 rw[show ({ s with heap:=s.heap.push { cls:=.type "dict",data:=.dict #[] } }:aO).heap.objs.size=s.heap.objs.size+1 from dB ..];rw[rN];exact aG (aU (aU hQ))
structure CompScC(X:Cx)(scope:kA)(N':Φ)(ix:ly):Prop where
 kind:scope.kind = .function
 own:(scope.names.all fun y=>scope.names.lookup y.1 == ξ y.2)=true
 free:(scope.names.all fun y=>y.2 != .free || (X.env.kindOf y.1 == j9 || X.env.kindOf y.1 == pf))=true
 ixs:((N'.zip ix).all fun p=>match p.2 with | none=>true | some i=>(X.N[i]? == ξ p.1)&&(scope.names.lookup p.1 == pf))=true
 len:N'.length=ix.length
def Gm(X:Cx)(scope:kA)(cl:List (Str×Addr))(C:Addr)(N':Φ)(s2:aO)(H2:Hp)(fp:Ψ)(pins:List (Addr×Obj)):Cx:=
 { blk X scope (lg (C+1) cl) C N' s2 H2 fp pins with fn:=fun x=>jr == j9 }
variable {g:TG}{elt tg iter:Expr}{ifs:fj}{tt:TT}{te:TE}
section
variable {N':Φ}{ix:ly}{pins:List (Addr×Obj)}{σ:L2.St}{H2:Hp}{s2:aO}{cl:List (Str×Addr)}{fp:Ψ}
theorem CompScC.lk(S:sn X N' ix){x:Str}{k:jC}(h:(x,k)∈scope.names):jr=ξ k:=by
 have:=bO.mp S.own _ h;simpa using this
theorem Aed(S:sn X N' ix)(hcalm:X.calm=true)(I2:f8 H2 s2)(hcl:∀ x c,mj=fg->bo=fg)(hcl2:∀ y∈scope.names,y.2 = .free->∃ c,qt=fg)
  (f2:∀ b∈fp,vt X H2 b) (hfp:∀ b∈fp,b < s2.heap.objs.size) {C:Addr} {h4:Heap} {m:Str->bi} {t4:Nat} (hC:s2.heap.objs.size<=C) (hns:h4.Ns C m) (keep:∀ b o,s2.heap.get? b=ao->h4.get? b=ao)
  (hcells:∀ x c,(lg (C+1) cl).lookup x=ξ c->∃ v,h4.IsCell c v) :
  Inv Zh [] (inner ix σ) H2 { s2 with heap:=h4,toks:=t4 }:=by
 have hkindC:(relabel scope X.env).kind = .function:=S.kind;have clt:∀ x c,mj=fg->c < s2.heap.objs.size:=fun x c e=>by
  obtain ⟨v,oc,ho,_⟩:=I2.cell x c (hcl x c e);exact bC ho
 have new:∀ x c,(lg (C+1) cl).lookup x=fg->(C+1<=c)\/mj=fg:=fun x c e=>by
  rcases Tv _ _ _ _ _ e with ⟨_,q⟩ | q
  ·exact .inl q
  ·exact .inr q
 have fr:∀ x,jr=pf->(lg (C+1) cl).lookup x=mj:=fun x hx=>Aa5 _ _ _ _ fun q=>by
  have:=S.lk q;rw[hx] at this;cases this
 have ok:(rm X cl C N' s2 H2 fp).Ok:=
  { mod:=I2.ok.mod
    kind:=hkindC
    glob:=I2.ok.glob
    blt:=I2.ok.blt
    above:=hC
    inj:=Afv _ _ _ (fun x c e=>lM (bI (clt x c e) hC)) (fun x y c e1 e2=>I2.ok.inj x y c (hcl x c e1) (hcl y c e2))
    has:=fun x h=>by
     have h':(relabel scope X.env).names.lookup x=j9\/(relabel scope X.env).names.lookup x=pf:=h;have two:jr=pf\/jr=j9:=by
      rcases h' with h' | h'
      ·rcases Ir h' with q | ⟨q,_⟩
       ·exact .inr q
       ·exact .inl q
      ·rcases Ir h' with q | ⟨q,z⟩
       ·exact .inl q
       ·cases z
     rcases two with hfree | hcell
     ·obtain ⟨c,hc⟩:=hcl2 _ (Eb hfree) rfl;exact ⟨c,(fr x hfree).trans hc⟩
     ·exact jF.mp (lH _ _ _ (.inl hcell))
    cab:=fun x c h e=>by
     have hx:jr=j9:=by
      have:(jr == ξ hU)=true:=h;simpa using this
     exact cC hC (cC (iB _) (Afl _ _ _ _ _ (C+1) be (.inl (Eb hx)) e))
    hd:=fun _=>I2.ok.hd hcalm
    frames:=I2.ok.frames
    stk:=.inl rfl
    exf:=fun b hb=>⟨bW (bI (hfp b hb) hC),fun x c e=>by
     rcases new x c e with q | q
     ·intro z;subst z;exact absurd (bI (hfp c hb) (cC hC (cC (iB _) q))) (cX _)
     ·exact (f2 b hb).2.2.2.2.1 x c (hcl x c q)⟩
    bs:=fun b o e=>I2.bs b o e
    bsz:=cC I2.ok.bsz I2.sz
    noex:=fun b o e hb=>by
     rcases (f2 b hb).2.2.2.1 with z | z
     ·exact I2.ok.noex b o e z
     ·exact absurd (bI (bC (I2.ok.bs b o e).1) z) (cX _)
    exfs:=fun b hb z=>by
     rcases bE.mp (I2.stkSub b z) with q | q
     ·exact (f2 b hb).2.1 q
     ·exact (f2 b hb).2.2.1 q
    funs:=I2.stack
    frf:=I2.stkFree }
 obtain ⟨m0,hn0,hl0⟩:=id I2.loc;refine ⟨ok,rfl,I2.bare,Un.kept keep,⟨m,hns,fun j x v e1 e2 e3=>?_⟩,fun x c e=>hcells x c e,I2.hok.fresh hC,fun x c e=>?_,fun p hp=>?_,I2.hok.kept keep,?_⟩
 ·have e1':N'[j]? = jw:=e1;have e2':(inner ix σ)[j]? = ξ j3:=e2;unfold inner at e2';rw[aX] at e2';cases hx:ix[j]? with
  | none=>rw[hx] at e2';simp at e2'
  | some o=>
   rw[hx] at e2';cases o with
   | none=>simp at e2'
   | some i=>
    simp at e2';have hz:(x,ξ i)∈N'.zip ix:=bT (i:=j) (by rw[iT];exact ⟨e1',hx⟩)
    have hz':=bO.mp S.ixs _ hz;simp only[cB,beq_iff_eq] at hz';obtain ⟨hXN,hfr⟩:=hz';have hσ:σ[i]? = ξ j3:=by
     cases q:σ[i]? with
     | none=>rw[q] at e2';simp at e2'
     | some o=>rw[q] at e2';simp at e2';rw[e2']
    have hk:=bO.mp S.free _ (Eb hfr);simp at hk;have hvis:Vis X.env.scope x:=by
     rcases hk with q | q
     ·exact nv q
     ·exact vo q
    obtain ⟨u,r,look⟩:=hl0 i x v hXN hσ hvis;rcases look with ⟨q,_⟩ | ⟨_,c,ec,hc⟩
    ·rcases hk with z | z
     ·rw[z] at q;cases q
     ·rw[z] at q;cases q
    ·obtain ⟨c',ec'⟩:=hcl2 _ (Eb hfr) rfl;have:c'=c:=by have:=hcl x c' ec';rw[ec] at this;cases this;rfl
     subst this;refine ⟨u,r,.inr ⟨?_,c',(fr x hfr).trans ec',?_⟩⟩
     ·rcases Ht (env:=X.env) hfr with q | q
      ·exact .inr q
      ·exact .inl q
     ·obtain ⟨oc,ho,hd⟩:=hc;exact ⟨oc,keep _ _ ho,hd⟩
 ·rcases new x c e with q | q
  ·exact I2.hok.fresh (cC hC (cC (iB _) q))
  ·exact I2.freeC x c (hcl x c q)
 ·have hp':p∈X.pn++pins:=by simpa[Gm,blk] using hp
  obtain ⟨q1,q2,q3,q4,q5⟩:=I2.pin p hp';refine ⟨keep _ _ q1,q2,bW (bI (bC q1) hC),fun z=>?_,q5⟩;rcases bE.mp (I2.stkSub p.1 z) with q | q
  ·exact q3 q
  ·exact q4 q
 ·show (inner ix σ).length=N'.length;rw[S.len];simp[inner]
theorem Wy{elt tg iter:Expr}{ifs:fj}{pos:Pos}{g:TG}{tt:TT}{te:TE}{it:Addr}{J:It}{tn:Nat->Heap->Prop}{E:aJ->aO->Prop}{Fin:ε->Hp->Prop}{RR:aJ->Addr->vF->aO->Prop}
  (S:sn X N' ix) (hcalm:X.calm=true) (hcl:∀ x c,mj=fg->bo=fg) (hcl2:∀ y∈scope.names,y.2 = .free->∃ c,qt=fg)
  (hg:∀ C,PG Zh tg g) (ht:∀ C,Yi Zh ifs tt) (he:∀ C,PE Zh elt te)
  (I2:f8 H2 s2) (T:Turn X.prog X.w X.K tg J fp it tn) (st2:tn 0 s2.heap) (f2:∀ b∈fp,vt X H2 b) (hloop:Alo J g tt te (inner ix σ) H2 Fin)
  (hRR:∀ (D C:Addr) (s':aO) (H':Hp) (acc:ε),f8 (cb H' D acc) s'->H' D=ψ->(∃ m,s'.heap.Ns C m)->(cb H' D acc) C=ψ->vt X (cb H' D acc) C->Fin acc H'->RR (.ref D) C (.ok .next) s') :
  wpAny bj X.A (newList []) (fun acc s₃=>wpAny bj X.A (newFunctionEnv scope X.env.globals cl [] X.env.qual ψ .none (ξ X.env)) (fun cenv s₄=>
   nQ bj X.A (.compStart Zy 0 (.ref it) acc { cenv with scope:=relabel scope X.env }) (RR acc cenv.locals) s₄) E s₃) E s2:=by
 refine fB (Aio ?_);dsimp only;generalize hH2:s2.heap.push { cls:=.type "list",dict:=ψ,data:=.seq ([]:ac).toArray } = HP;have hCs:HP.objs.size=s2.heap.objs.size+1:=by rw[<- hH2,dB]
 have hDC:s2.heap.objs.size≠HP.objs.size:=by rw[hCs];exact bW (eK _)
 have hCle:s2.heap.objs.size<=HP.objs.size:=by rw[hCs];exact iB _
 have hz1:(HP.push { cls:=.type "dict",data:=.dict #[] }).objs.size=HP.objs.size+1:=dB ..;generalize h1eq:pushCells (HP.push { cls:=.type "dict",data:=.dict #[] }) scope.names=h₁;have old:∀ b o,s2.heap.get? b=ao->h₁.get? b=ao:=fun b o e=>h1eq ▸ qW _ _ _ _ (jh (hH2 ▸ n8))
 have hacc:h₁.get? s2.heap.objs.size=ξ (Ea [] 0):=h1eq ▸ qW _ _ _ _ (jh (hH2 ▸ ki));have hns₁:h₁.Ns HP.objs.size (fun _=>ψ):=h1eq ▸ (Heap.Ns.new HP p9).keeps (qW _ _);have hcells:∀ x c,(lg (HP.objs.size+1) cl).lookup x=ξ c->∃ v,h₁.IsCell c v:=fun x c e=>by
  rw[<- hz1] at e;rw[<- h1eq];refine Vd _ _ _ (fun y d q=>?_) x c e;obtain ⟨v,oc,ho,hd⟩:=I2.cell y d (hcl y d q);exact ⟨v,oc,jh (hH2 ▸ jh ho),hd⟩
 have hfp:∀ b∈fp,b < s2.heap.objs.size:=fun b hb=>by
  obtain ⟨o,e,_⟩:=T.obj _ _ st2 b hb;exact v7
 generalize hDg:s2.heap.objs.size=D at hDC hacc;generalize hCg:HP.objs.size=C at *;have hDle:s2.heap.objs.size<=D:=nO hDg;have hD2:s2.heap.get? D=ψ:=by
  cases q:s2.heap.get? D with
  | none=>rfl
  | some o=>exact absurd (bI (bC q) hDle) (cX _)
 have I4:=Aed (t4:=s2.toks) S hcalm I2 hcl hcl2 f2 hfp hCle hns₁ old hcells;have above:∀ a,s2.heap.objs.size<=a->a∉frs X.stack/\(∀ x c,bo=fg->c≠a)/\(∀ p∈X.pn++pins,p.1≠a)/\a≠X.env.locals:=fun a ha=>by
  refine ⟨fun z=>?_,fun x c e z=>?_,fun p hp z=>?_,?_⟩
  ·rcases bE.mp (I2.stkSub a z) with q | q
   ·exact absurd (bI I2.lt (q ▸ ha)) (cX _)
   ·exact I2.nofs ha q
  ·obtain ⟨v,q⟩:=I2.cell x c e;exact absurd (bI q.lt (z ▸ ha)) (cX _)
  ·exact absurd (bI (bC (I2.pin p hp).1) (z ▸ ha)) (cX _)
  ·intro z;exact absurd (bI I2.lt (z ▸ ha)) (cX _)
 have newc:∀ x c,(lg (C+1) cl).lookup x=fg->(C+1<=c)\/bo=fg:=fun x c e=>by
  rcases Tv _ _ _ _ _ e with ⟨_,q⟩ | q
  ·exact .inl q
  ·exact .inr (hcl x c q)
 have hfpX:∀ b∈fp,G4 Zh [] H2 b/\b≠D:=fun b hb=>by
  obtain ⟨q0,q1,q2,q3,q4,q5⟩:=f2 b hb;have hlt:=hfp b hb;refine ⟨⟨q0,bW (bI hlt hCle),fun z=>?_,.inl hb,fun x c e=>?_,fun p hp=>q5 p (by simpa[Gm,blk] using hp)⟩,bW (bI hlt hDle)⟩
  ·rcases bE.mp (I2.stkSub b z) with q | q
   ·exact q1 q
   ·exact q2 q
  ·rcases newc x c e with q | q
   ·intro z;subst z;exact absurd (bI hlt (cC hCle (cC (iB _) q))) (cX _)
   ·exact q4 x c q
 have hDC':D < C:=by rw[<- hDg,hCs];exact eK _
 have hDf:∀ H:Hp,H D=ψ->G4 Zh [] H D:=fun H hn=>by
  obtain ⟨a1,a2,a3,a4⟩:=above D hDle;refine ⟨hn,hDC,a1,.inr hDle,fun x c e=>?_,fun p hp=>a3 p (by simpa[Gm,blk] using hp)⟩;rcases newc x c e with q | q
  ·intro z;subst z;exact absurd (bI hDC' (cC (iB _) q)) (cX _)
  ·exact a2 x c q
 have hDn2:H2 D=ψ:=I2.hok.fresh hDle;have I5:Inv Zh [(D,Ea [] 0)] (inner ix σ) H2 { s2 with heap:=h₁,toks:=s2.toks }:=I4.pins_of fun p hp=>by
  have:p=(D,Ea [] 0):=by simpa using hp
  subst this;obtain ⟨_,d1,d2,_⟩:=hDf H2 hDn2;exact ⟨hacc,hDn2,d1,d2,fun v z=>by simp[Ea] at z⟩
 have st5:tn 0 h₁:=T.keep _ _ _ st2 fun b _ o e=>old b o e
 have loop:nQ bj X.A (.compLoop Zy 0 (.ref it) (.ref D) (rm X cl C N' s2 H2 fp).env) (RR (.ref D) C) { s2 with heap:=h₁,toks:=s2.toks }:=by
  refine Ai6 (X':=rm X cl C N' s2 H2 fp) ⟨rfl,rfl,rfl,rfl,hcalm,fun _ _ z=>z⟩ T (hg C) (ht C) (he C) hDle hDC hCle hfpX hDf I5 st5 (fun b hb=>(f2 b hb).1) hloop ?_;intro s' σ' H' acc its n I hv hz fin;obtain ⟨hDo,hDn,_⟩:=I.pin (D,Ea its n) (aW _ (bV.mpr rfl));have hbase:Un (frs X.stack) fp H2 H' s2.heap s'.heap:=I.base;have hok:HOk X.prog X.w (cb H' D acc) s'.heap:=HOk.adopt I.hok hDn ⟨hz,its,n,hv,hDo⟩;have IX:f8 (cb H' D acc) s':=I2.call' I.os (Un.adopt hbase hDn hD2) hok I.bare fun b hb=>⟨(f2 b hb).2.2.2.1,(f2 b hb).2.1,(f2 b hb).2.2.2.2.1,(f2 b hb).2.2.2.2.2⟩
  obtain ⟨m,hm,_⟩:=I.loc;have hCn:(cb H' D acc) C=ψ:=by rw[Au (eJ hDC)];exact I.free
  obtain ⟨a1,a2,a3,a4⟩:=above C hCle;refine hRR D C s' H' acc IX hDn ⟨m,hm⟩ hCn ⟨hCn,a4,fun z=>?_,.inr (cC I2.sz hCle),a2,a3⟩ fin;exact I2.nofs hCle z
 exact codeAny_compStart_list loop (T.self _ 0 _ _ _ st5 loop)
theorem CompScC.names(S:sn X N' ix):∀ x∈scope.names,x.2 = .local->scope.names.lookup x.1=i9:=fun x hx hl=>by
 have:=S.lk (x:=x.1) (k:=x.2) hx;rw[hl] at this;exact this
theorem CompScC.clos(S:sn X N' ix)(ok:X.Ok):∃ cl,closureFor scope X.env=pure cl/\(∀ x c,mj=fg->bo=fg)/\∀ y∈scope.names,y.2 = .free->∃ c,qt=fg:=by
 refine Pc fun y hy hf=>?_
 have:=bO.mp S.free y hy;rw[hf] at this;simp at this;exact ok.has y.1 this
theorem Ab8{elt tg iter:Expr}{ifs:fj}{pos:Pos}{wi:TI}{g:TG}{tt:TT}{te:TE}(S:sn X N' ix)(hcalm:X.calm=true)(hi:PI X tg iter wi)
  (hg:∀ cl C s2 H2 fp pins,PG Zh tg g) (ht:∀ cl C s2 H2 fp pins,Yi Zh ifs tt) (he:∀ cl C s2 H2 fp pins,PE Zh elt te)
  (hs:∀ x,lu iter x=pure x:=by intro _;rfl):l4 Zy (Aop ix wi g tt te):=by
 intro pins s σ H Q I h;obtain ⟨cl,hclos,hcl,hcl2⟩:=S.clos I.ok;rw[eval_ListComp];refine pP (use:=ψ) rfl hs hclos S.kind S.names (thn (hi pins s σ H _ I h) fun v s1 h1=>thn h1 fun itv s2 h2=>?_);obtain ⟨it,fp,tn,J,H2,e,I2,T,st2,f2,loop⟩:=h2;subst e;refine Wy (RR:=fun acc C=>compPost bj X.A X.xe ψ (EP X pins σ Q) acc C) S hcalm hcl hcl2 (fun C=>hg cl C s2 H2 fp pins) (fun C=>ht cl C s2 H2 fp pins) (fun C=>he cl C s2 H2 fp pins) I2 T st2 f2 loop ?_;intro D C s' H' acc IX hDn ⟨m,hm⟩ hCn hC fin;refine ⟨m,hm,fun h' hsb=>?_⟩;obtain ⟨c0,c1,c2,c3,c4,c5⟩:=hC;exact ck (.ref D) _ (IX.turned (t':=s'.toks) (fun b o hb e=>hsb.2 b hb |>.trans e) c0 c1 c3 c4 c5) (fin D hDn)
theorem Adk{i:Nat}{y:Str}{py spos:Pos}{elt tg iter:Expr}{ifs:fj}{pos:Pos}{wi:TI}{g:TG}{tt:TT}{te:TE}(hN:X.N.Nodup)(hiN:X.N[i]? = ξ y)(hx:sj y)(hf:X.fn y=true\/X.env.scope.names.lookup y=i9)
  (S:sn X N' ix) (hcalm:X.calm=true) (hi:PI X tg iter wi)
  (hg:∀ cl C s2 H2 fp pins,PG Zh tg g) (ht:∀ cl C s2 H2 fp pins,Yi Zh ifs tt) (he:∀ cl C s2 H2 fp pins,PE Zh elt te)
  (hsw:vx Zy (ξ (.Name y py)) spos.line=pure true)
  (hs:∀ x,lu iter x=pure x:=by intro _;rfl):PS X (.Assign [.Name y py] Zy spos) (Apj (Aop ix wi g tt te) (Abp i)):=by
 intro pins s σ H Dn I h;obtain ⟨cl,hclos,hcl,hcl2⟩:=S.clos I.ok;rw[exec_Assign_Name_used _ _ _ _ hsw];refine aG (pL (aG ?_));show cm _ X.A (do let _ <- comprehension (.ListComp elt [⟨tg,iter,ifs,0⟩] scope pos) scope X.env _ (newList []) false (eval iter X.env) (ξ (assign (.Name y py) X.env))) _ _;refine aG (dO (pP (Q:=fun _ s'=>SP X pins Dn .next s') (use:=ξ (assign (.Name y py) X.env)) rfl hs hclos S.kind S.names (thn (hi pins s σ H _ I h) fun v s1 h1=>thn h1 fun itv s2 h2=>?_)) (fun _ s' hq=>aU (aU hq)) fun _ _ e=>e);obtain ⟨it,fp,tn,J,H2,e,I2,T,st2,f2,loop⟩:=h2;subst e;refine Wy (RR:=fun acc C=>compPost bj X.A X.xe (ξ (assign (.Name y py) X.env)) (fun _ s'=>SP X pins Dn .next s') acc C) S hcalm hcl hcl2 (fun C=>hg cl C s2 H2 fp pins) (fun C=>ht cl C s2 H2 fp pins) (fun C=>he cl C s2 H2 fp pins) I2 T st2 f2 loop ?_;intro D C s' H' acc IX hDn ⟨m,hm⟩ hCn hC fin;obtain ⟨c0,c1,c2,c3,c4,c5⟩:=hC;obtain ⟨oC,es,ep,hoC,hdC,hrest⟩:=id hm;have IP:Inv X (pins++[(C,oC)]) σ (cb H' D acc) s':=IX.pins_of fun p hp=>by
  rcases cQ.mp hp with z | z
  ·exact IX.pin p (aW _ z)
  ·have:p=(C,oC):=by simpa using z
   subst this;exact ⟨hoC,c0,c1,c2,fun v z=>by rw[hdC] at z;cases z⟩
 have hq:Abp i (.ref D) σ (cb H' D acc) Dn.nx:=fin D hDn;refine thn (Aic (i:=i) (pos:=py) hN hiN hx hf (pins++[(C,oC)]) s' σ _ (.ref D) (.ref D) Dn.nx IP rfl hq) fun _ s'' ⟨σ'',H'',I'',q''⟩=>?_
 obtain ⟨p1,p2,p3,p4,p5⟩:=I''.pin (C,oC) (aW _ (aW _ (bV.mpr rfl)));refine ⟨m,⟨oC,es,ep,p1,hdC,hrest⟩,fun h' hsb=>?_⟩;exact ⟨σ'',H'',(I''.unpinned).turned (t':=s''.toks) (fun b o hb e=>hsb.2 b hb |>.trans e) p2 p3 c3 c4 c5,q''⟩
end
section
variable {N':Φ}{ix:ly}{c:Expr}{fi:FI}{g:FG}{ft:FT}{fe:FE}
theorem Cf(S:sn X N' ix)(hcalm:X.calm=true)(hi:PIF X tg iter fi)(hg:∀ cl C s2 H2 fp pins,PGF Zh tg g)(he:∀ cl C s2 H2 fp pins,PEF Zh elt fe)
  (hs:∀ x,lu iter x=pure x:=by intro _;rfl):gy (ky elt [⟨tg,iter,[],0⟩] pos) (Bg ix fi g ψ fe):=
 PE.imp (Ab8 (g:=lG X.K g) (te:=lE X.K fe) (tt:=Apo) S hcalm hi hg (fun _ _ _ _ _ _=>Yb) he hs) Tz
theorem E6(S:sn X N' ix)(hcalm:X.calm=true)(hi:PIF X tg iter fi)(hg:∀ cl C s2 H2 fp pins,PGF Zh tg g)(ht:∀ cl C s2 H2 fp pins,PTF Zh c ft)(he:∀ cl C s2 H2 fp pins,PEF Zh elt fe)
  (hs:∀ x,lu iter x=pure x:=by intro _;rfl):gy (ky elt [⟨tg,iter,[c],0⟩] pos) (Bg ix fi g (ξ ft) fe):=
 PE.imp (Ab8 (g:=lG X.K g) (te:=lE X.K fe) (tt:=lT X.K ft) S hcalm hi hg (fun _ _ _ _ _ _=>Xu (ht _ _ _ _ _ _)) he hs) (Tz (tt:=ξ ft))
theorem X7{i:Nat}{y:Str}{py spos:Pos}(hN:X.N.Nodup)(S:sn X N' ix)(hcalm:X.calm=true)(hi:PIF X tg iter fi)(hg:∀ cl C s2 H2 fp pins,PGF Zh tg g)(he:∀ cl C s2 H2 fp pins,PEF Zh elt fe)
  (hiN:X.N[i]? = ξ y:=by rfl) (hx:sj y:=by first | exact rL rfl | exact pM rfl) (hf:X.fn y=true\/X.env.scope.names.lookup y=i9:=by first | exact .inl rfl | exact .inr rfl)
  (hsw:vx (ky elt [⟨tg,iter,[],0⟩] pos) (ξ (.Name y py)) spos.line=pure true:=by rfl)
  (hs:∀ x,lu iter x=pure x:=by intro _;rfl):PSF X (.Assign [.Name y py] (ky elt [⟨tg,iter,[],0⟩] pos) spos) (a8 (Bg ix fi g ψ fe) i):=
 PS.imp (Adk (i:=i) (g:=lG X.K g) (te:=lE X.K fe) (tt:=Apo) hN hiN hx hf S hcalm hi hg (fun _ _ _ _ _ _=>Yb) he hsw hs) (Anx Tz)
end
end MR
namespace ZT
open PySem PySem.Spec PyProof.Rows
open Sem (wp)
section
variable {prog:cL}{w:dC}{A:dN}{s:aO}{R:vF->aO->Prop}
variable {I:Addr}{fp wr:Ψ}{G:Array mV->Array mV->Prop}{n:Nat}{P:Nat->aJ->Prop}{St:Nat->aO->Prop}
end
section
variable {prog:cL}{w:dC}{A:dN}{E:aJ->aO->Prop}{s:aO}
variable {I:Addr}{fp wr:Ψ}{G:Array mV->Array mV->Prop}{n:Nat}{P:Nat->aJ->Prop}{St:Nat->aO->Prop}
end
end ZT
namespace MR
open PySem PySem.Spec PyProof.Rows PySem.Calls L2
section
variable {X:Cx}
theorem Uy:fT "list" = ξ vh:=Zd
end
end MR
namespace ZT
open PySem PySem.Spec PyProof.Rows HT
section
variable {prog:cL}{w:dC}{A:dN}{E:aJ->aO->Prop}{s:aO}
theorem O0{t sl:Addr}{items:bv}{vl vu:aJ}{lo hi:bf}{Q:aJ->aO->Prop}(ht:oY s.heap t items)(hs:s.heap.IsSliceOf sl vl vu .none)(pl:qK vl lo)(pu:qK vu hi)
  (hw:dz 0 lo=0/\qm hi=items.size) (h:Q (.ref t) s):cm mm A (getItem (.ref t) (.ref sl)) Q E:=by
 obtain ⟨os,hos,hcs,hds⟩:=id hs;have hTs:s.TypeIs (.ref sl) "slice" := ⟨os,hos,hcs⟩;unfold getItem
 try with_reducible refine dP ?_
 first | refine aG (aU ?_) | skip
 refine aG (tL ht.typeIs Zb ?_);refine aG (eR (name:=cH "__getitem__") ht.typeIs dZ
  (eX dZ ht.typeIs sB ?_ (sT _ _)))
 show cm _ _ (oM (.ref t) >>= _) _ _;refine aG (tupleItemsOf_ ht ?_);refine aG (nS hTs ?_);rw[if_pos Zb];refine aG (K9 hs pl pu ?_);have hyes:(Zp=true):=by
  rw[hw.1,hw.2];simp
 show cm _ _ (if Zp=true then _ else _) _ _;rw[if_pos hyes];unfold gZ.Tuple.tupleIsExact;refine aG (aG (nS ht.typeIs (aU ?_)));rw[if_pos Zb];refine aG (mN ?_)
 first
  | exact aU ⟨_,rfl,aU h⟩
  | exact aG (aU (gu _ (aU h)))
  | exact aG (aU (aU (gu _ (aU h))))
  | trace_state
end
end ZT
namespace MR
open PySem PySem.Spec PyProof.Rows PySem.Calls L2
variable {X:Cx}
section
variable {tg:Expr}
def Awf(K:aK):V->bf->bf->Hp->VK->Prop:=fun x lo hi H Q=>∃ a xs,x = bp/\lv H a xs/\(ju 0 lo=0/\ju xs.length hi=xs.length)/\Q bp H
theorem Al5:SlR X (Awf X.K):=by
 intro pins s σ H x v vl vu lo hi sl Q I rx hs pl pu h;obtain ⟨a,xs,rfl,hx,hw,q⟩:=h;cases rx;obtain ⟨its,r,ht,hz⟩:=I.tuple hx;have hlen:its.toArray.size=xs.length:=by rw[aT];exact r.length.symm
 refine ⟨"tuple",_,dZ.lookup,ht.typeIs,?_⟩;exact ZT.O0 ht hs pl pu (by rw[hlen];exact hw) (ck bp H I q)
def Lo:SS:=fun u lo hi L=>match u with
 | .tup l=>if HT.sIx l.length 0 lo=0/\HT.sIx l.length l.length hi=l.length then ξ (ox,L) else ξ (.tup (W5 l lo hi),L)
 | .ref n=>(sy).map fun l=>(cf,L++[.lst (W5 l lo hi)])
 | _=>ψ
theorem Art:SlR X (fun x lo hi H Q=>Ajg X.K x lo hi H Q\/Awf X.K x lo hi H Q):=Ru.or Al5
theorem Arf{K:aK}:Ahe K (fun x lo hi H Q=>Ajg K x lo hi H Q\/Awf K x lo hi H Q) Lo:=by
 intro H α L u x lo hi z L' Q A ru e q;cases u with
 | tup l=>
  by_cases hw:HT.sIx l.length 0 lo=0/\HT.sIx l.length l.length hi=l.length
  ·unfold Lo at e;simp only at e;rw[if_pos hw] at e;cases e;have ru':=ru;unfold RepU at ru;obtain ⟨a,ys,rfl,sq,r2⟩:=ru;exact .inr ⟨a,ys,rfl,sq,by rw[<- r2.length];exact hw,q _ H α gp A ru'⟩
  ·refine .inl (Nt H α L ox x lo hi z L' Q A ru ?_ q);unfold Lo at e;unfold Hi;simp only at e ⊢;rw[if_neg hw] at e ⊢;exact e
 | ref n=>exact .inl (Nt H α L di x lo hi z L' Q A ru e q)
 | _=>cases e
end
section
def Ath(K:aK):R2:=fun x y H Q=>∃ a b ys,x = bp/\y = gv/\lv H a []/\lv H b ys/\Q gv H
theorem Apr:OpR X (gJ .Add) (Ath X.K):=by
 intro pins s σ H x y v u Q I rx ry h;obtain ⟨a,b,ys,rfl,rfl,ha,hb,q⟩:=h;cases rx;cases ry;obtain ⟨its,r1,p1,_⟩:=I.tuple ha;obtain ⟨its2,r2,p2,_⟩:=I.tuple hb;have he:its=[]:=r1.nil_iff.mpr rfl;obtain ⟨⟨cls,dd,data,sl⟩,ho,hc,n,hd⟩:=id p1;obtain ⟨⟨cls2,dd2,data2,sl2⟩,ho2,hc2,n2,hd2⟩:=id p2;simp only at hc hd hc2 hd2;subst hc hd hc2 hd2;exact tK ⟨_,ho,rfl⟩ ⟨_,ho2,rfl⟩ pV sI lJ lD (kO _ _)
  (tuple_addW0 a b its.toArray its2.toArray n n2 dd dd2 sl sl2 (by simp[he])) ⟨ho,ho2,ck gv H I q⟩
end
def Ly:S2:=fun u w L=>match u,w with
 | .tup [],.tup b=>ξ (.tup b,L)
 | u,w=>Bd u w L
def As1(K:aK):R2:=fun x y H Q=>Ane K x y H Q\/Ath K x y H Q
theorem Aqw:OpR X (gJ .Add) (As1 X.K):=Cu.or Apr
theorem Anf{K:aK}:Dw K (As1 K) Ly:=by
 intro H α L u w x y z L' Q A ru rw e q;unfold Ly at e;split at e
 ·cases e;have rw':=rw;unfold RepU at ru rw;obtain ⟨a,xs,rfl,sq,r2⟩:=ru;obtain ⟨b,ys,rfl,sq',r2'⟩:=rw;unfold RepL at r2;subst r2;exact .inr ⟨a,b,ys,rfl,rfl,sq,sq',q _ H α gp A rw'⟩
 ·exact .inl (Cs H α L _ _ x y z L' Q A ru rw e q)
@[simp] theorem Atr(i j:Int)(L:UH):Ly ce lw L=ξ (.int (i+j),L):=rfl
end MR
namespace MR
open PySem PyProof.Rows L2
section
variable {X:Cx}
def Ay3(i j:Int):Prop:=0<=j/\(dW i:Int)+j<=2 ^ 27
theorem Aqz:OpR X (gJ .LShift) (rI Ay3 fun i j=>.int (i * 2 ^ j.toNat)):=opI fun _ _ _ _ _ _ _ hc q=>lshift_int hc.1 hc.2 q
def Avf:V->bf->bf->Hp->VK->Prop:=fun x lo hi H Q=>∃ a,x = .str a/\a.length<=sizeLine/\Q (.str (gR a lo hi)) H
theorem At0:SlR X Avf:=by
 intro pins s σ H x v vl vu lo hi sl Q I rx hs pl pu h;obtain ⟨a,rfl,hl,q⟩:=h;obtain ⟨t,rfl⟩:=rx;refine ⟨"str",_,F.slot_str_getitem.lookup,xE _ _ _,?_⟩;have fin:∀ (t':Tok) (k:Nat),EP X pins σ Q (.str (gR a lo hi) t') { s with toks:=k }:=fun t' k=>⟨.str (gR a lo hi),H,I.tok k,jk,q⟩
 have hz:(gR a lo hi).length<=sizeLine:=cC (tU a _ _) hl;cases pl with
 | none=>
  cases pu with
  | none=>exact jO (l:=ψ) (u:=ψ) (st:=ψ) hs rfl (nG ⟨hz,fin⟩)
  | int j tj=>exact jO (l:=ψ) (u:=ξ (j,tj)) (st:=ψ) hs rfl (nG ⟨hz,fin⟩)
 | int i ti=>
  cases pu with
  | none=>exact jO (l:=ξ (i,ti)) (u:=ψ) (st:=ψ) hs rfl (nG ⟨hz,fin⟩)
  | int j tj=>exact jO (l:=ξ (i,ti)) (u:=ξ (j,tj)) (st:=ψ) hs rfl (nG ⟨hz,fin⟩)
def As0:V->ε->Hp->VK->Prop:=fun x vs H Q=>∃ (a:Str) (l:Addr) (ys:Φ),x = .str a/\vs=[cy]/\H l=Ξ (ys.map V.str)/\a.length<=16/\(ys.map (·.length)).sum+ys.length<=1048576/\Q (.str (xI a ys)) H
theorem Ux:∀ {its:ac} {ys:Φ},Vals (ys.map V.str) its->StrsAre its ys
 | its,[],r=>by rw[bY] at r;cases r;exact .nil
 | its,y::ys,r=>by
  rw[aQ] at r;cases r with
  | cons r1 r2=>
   obtain ⟨t',rfl⟩:=r1;exact .cons _ _ (Ux r2)
theorem Apl:MtR X "str.join" As0:=by
 intro pins s σ H x vs v us Q I rx rv h;obtain ⟨a,l,ys,rfl,rfl,hH,ha,hw,q⟩:=h;obtain ⟨t,rfl⟩:=rx;obtain ⟨u,rfl,ru⟩:=rv.one;cases ru;obtain ⟨z,its,n,r,hl,e⟩:=I.lstM hH;exact join_listW ⟨_,e,rfl,_,rfl⟩ (by simpa using Ux r) ha hw fun t' k=>⟨.str (xI a ys),H,I.tok k,jk,q⟩
end
noncomputable def Aby(i j:Int):Bool:=decide (0<=j)&&decide ((dW i:Int)+j<=2 ^ 27)
def Q0:S2:=Aih Aby fun i j=>.int (i * 2 ^ j.toNat)
variable {K:aK}
theorem Ak9:Dw K (rI Ay3 fun i j=>.int (i * 2 ^ j.toNat)) Q0:=Ahh (fun i j h=>by simp only[Aby,cB,decide_eq_true_eq] at h;exact h) fun _ _ _ _=>rfl
def Gj:SS:=fun u lo hi L=>match u with
 | .str x=>if small x.length=true then ξ (.str (gR x lo hi),L) else ψ
 | u=>Hi u lo hi L
theorem Aaa{X:Cx}:SlR X (fun x lo hi H Q=>Ajg X.K x lo hi H Q\/Avf x lo hi H Q):=Ru.or At0
theorem Aay:Ahe K (fun x lo hi H Q=>Ajg K x lo hi H Q\/Avf x lo hi H Q) Gj:=by
 intro H α L u x lo hi z L' Q A ru e q;cases u with
 | str a=>
  unfold Gj at e;simp only at e;split at e
  ·rename_i hs;cases e;unfold RepU at ru;subst ru;exact .inr ⟨a,rfl,Fv hs,q _ H α gp A rfl⟩
  ·cases e
 | tup l=>exact .inl (Nt H α L ox x lo hi z L' Q A ru e q)
 | ref n=>exact .inl (Nt H α L di x lo hi z L' Q A ru e q)
 | _=>cases e
noncomputable def toS:U->Option Str
 | .str a=>ξ a
 | _=>ψ
theorem Aa0{H:Hp}{α:Ψ}:∀ {us:aa} {xs:ε} {ys:Φ},vw->mapO toS us=ξ ys->xs=ys.map V.str
 | [],xs,ys,r,e=>by
  unfold RepL at r;cases e;exact r
 | u::us,xs,ys,r,e=>by
  unfold RepL at r;obtain ⟨x,xr,rfl,rx,r⟩:=r;unfold mapO at e;obtain ⟨y,hy,e⟩:=af;obtain ⟨yr,hyr,e⟩:=cx;cases e;cases u with
  | str a=>
   cases hy;unfold RepU at rx;rw[rx,Aa0 r hyr];rfl
  | _=>cases hy
def Lv:SM:=fun u us L=>match u,us with
 | .str a,[.ref n]=>(Fy L n).bind fun l=>(mapO toS l).bind fun ys=>if a.length<=16/\(ys.map (·.length)).sum+ys.length<=1048576 then ξ (.str (xI a ys),L) else ψ
 | _,_=>ψ
theorem Al7:Af2 K As0 Lv:=by
 intro H α L u us x xs z L' Q A ru r e q;unfold Lv at e;split at e
 ·obtain ⟨l,hl,e⟩:=af;obtain ⟨ys,hys,e⟩:=af;split at e
  ·rename_i hc;cases e;unfold RepU at ru;subst ru;obtain ⟨v,rfl,rv⟩:=r.one;obtain ⟨a',zs,rfl,ea,h,r2⟩:=Lp A hl rv;rw[Aa0 r2 hys] at h;exact ⟨_,a',ys,rfl,rfl,h,hc.1,hc.2,q _ H α gp A rfl⟩
  ·cases e
 ·cases e
end MR
namespace MR
open PySem PySem.W PyProof.Rows L2
theorem Ui:∀ (ns:Λ) (n:Int),n∈ns->dW n<=nH (ns.map pY)
 | [],_,h=>by cases h
 | m::ns,n,h=>by
  have e:nH ((m::ns).map pY)=dW m+1+nH (ns.map pY):=by
   rw[aQ,nH,yD];rfl
  rw[e];rcases bE.mp h with rfl | h
  ·omega
  ·have:=Ui ns n h;omega
theorem Xk{ns:Λ}(h:vO [yP (ns.map pY)]=true):∀ n∈ns,dW n<=2 ^ 20:=by
 intro n hn;unfold vO at h;rw[jH,cB] at h;have h1:=h.1;unfold WData.layable at h1;rw[cB] at h1;have h2:=of_decide_eq_true h1.2;rw[yD] at h2;exact cC (Ui ns n hn) h2
end MR
namespace Att
open PySem PySem.W PySem.Calls PyProof.Rows L2 MR
structure _root_.MR.LamB(K:aK)(mg:Str->bi)(base:Heap):Prop where
 bm:∃ bm ob,mg "__builtins__" = η bm/\bm≠qF/\base.get? bm=ξ ob/\ob.cls = .type "module" /\ ob.dict=ξ qF/\ob.data = .plain
 hd:∀ nm∈Gs,∀ c P,dQ K nm=ξ (c,P)->PySem.W.CodeHd base c P
 inj:∀ nm1∈Gs,∀ nm2∈Gs,∀ c1 c2 P,dQ K nm1=ξ (c1,P)->dQ K nm2=ξ (c2,P)->nm1=nm2
open PySem.Spec in
theorem Aik{P:cL}{w:dC}{K:aK}{mg mb:Str->bi}{k:Nat}{fa a:Addr}{fd:fA}{x:Str}{sp:Sp}{s₁:aO}{vs:ac}{ns:Λ}(tabs:Ψ)
  (hT:∀ b∈tabs,(∃ c,CodeHd s₁.heap c b)/\s₁.heap.get? b=ξ (tabObj #[])) (hKT:noTabs K=true) (LB:LamB K mg s₁.heap)
  (KX:K.In s₁.heap) (hns:s₁.heap.Ns dJ mg) (hb:s₁.heap.Ns qF mb) (hbb:∀ x:Str,x ≠ "__name__" -> mb x=fT x) (hlim:s₁.heap.NoLimit) (hg:s₁.gens=#[])
  (ha:s₁.heap.get? a=ξ { cls:=.type "list",data:=.seq vs.toArray }) (hi:iQ vs ns) (hl:ns.length<=sizeLine) (hr:Room k callerA)
  (F:∀ base:Heap,K.In base->base.Ns dJ mg->ny->FnOk P w K mg base CX0 k fa fd [x] sp) (hbind:∀ (s:aO) (u:aJ),pC s fd ⟨[u],[]⟩ [(x,u)])
  (hsp:∀ H:Hp,Als H->(∀ b∈tabs,gn=ξ (.tbl #[]))->qk K a fu->sp [bp] H (fun v _=>v = eo) fun _ _ _=>False) :
  nQ (model P w) callerA (.call (.ref fa) ⟨[bp],[]⟩) (fun r s'=>r = .ok (.ret mr)/\OldK s₁.heap s'.heap/\s'.os=s₁.os/\qG s'.gens) s₁:=by
 have rv:=Aij hi;have lenV:=hi.length;have noK:∀ b∈tabs,K.lookup b=ψ:=fun b hb=>by
  cases q:K.lookup b with
  | none=>rfl
  | some o=>
   have e:=KX b o q;rw[(hT b hb).2] at e;cases e;have h2:=bO.mp hKT (b,_) (mem_of_lookupK q);exact absurd (show false=true from h2) cO
 have naT:a∉tabs:=fun z=>by
  have e:=(hT a z).2;rw[ha] at e;cases e
 have core:∀ H:Hp,(∀ b,gn=ψ\/(b=a/\gn=jl { cls:=.type "list",data:=.seq vs.toArray } (.lst fu))\/(b∈tabs/\gn=ξ (.tbl #[])))->(∀ b∈tabs,gn=ξ (.tbl #[]))->qk K a fu->HOk P w H s₁.heap->(j7≠ψ->K.lookup a=ψ) ->
   nQ (model P w) callerA (.call (.ref fa) ⟨[bp],[]⟩) (fun r s'=>r = .ok (.ret mr)/\OldK s₁.heap s'.heap/\s'.os=s₁.os/\qG s'.gens) s₁:=by
  intro H hO hB hS hok hK;have base_of:∀ {b:Addr} {o:Obj},s₁.heap.get? b=ao->gn=ψ->(Xf s₁.heap H).get? b=ao:=fun e n=>Amu e n
  have noA:∀ {b:Addr} {o:Obj} {es:Array vP} {ep:Nat},s₁.heap.get? b=ao->o.data = .dict es ep->gn=ψ:=fun {b o es ep} e d=>by
   rcases hO b with z | ⟨e',_⟩ | ⟨e',_⟩
   ·exact z
   ·subst e';rw[ha] at e;cases e;have d':Data.seq vs.toArray _=Data.dict es ep:=d;cases d'
   ·rw[(hT b e').2] at e;cases e;have d':yJ #[]=Data.dict es ep:=d;cases d'
  have nsK:∀ {b:Addr} {m:Str->bi},s₁.heap.Ns b m->(Xf s₁.heap H).Ns b m:=fun {b m} ⟨o,es,ep,e,d,r⟩=>⟨o,es,ep,base_of e (noA e d),d,r⟩
  have hKb:K.In (Xf s₁.heap H):=fun b o e=>base_of (KX b o e) (by
   rcases hO b with z | ⟨e',z⟩ | ⟨e',z⟩
   ·exact z
   ·subst e';rw[hK (by rw[z];simp)] at e;cases e
   ·rw[noK b e'] at e;cases e)
  have noO:∀ {b:Addr} {o:Obj} {n:String},s₁.heap.get? b=ao->o.cls = .type n->n ≠ "list" -> gn=ψ:=fun {b o n} e d ne=>by
   rcases hO b with z | ⟨e',_⟩ | ⟨e',_⟩
   ·exact z
   ·subst e';rw[ha] at e;cases e;have d':iJ "list" = iJ n:=d;cases d';exact absurd rfl ne
   ·rw[(hT b e').2] at e;cases e;cases d
  have hLB:LamB K mg (Xf s₁.heap H):=by
   obtain ⟨bm,ob,b1,b2,b3,b4,b5,b6⟩:=LB.bm;refine ⟨⟨bm,ob,b1,b2,base_of b3 (noO b3 b4 Zb),b4,b5,b6⟩,fun nm hn c P e=>?_,LB.inj⟩;obtain ⟨o,vs,file,tf,flags,tg,inF,text,tt,c1,c2,c3⟩:=LB.hd nm hn c P e;exact ⟨o,vs,file,tf,flags,tg,inF,text,tt,base_of c1 (noO c1 c2 Zb),c2,c3⟩
  have hM:Mod K mg (Xf s₁.heap H):=⟨hKb,nsK hns,⟨mb,nsK hb,hbb⟩,let ⟨mc,h1,h2⟩:=hlim;⟨mc,nsK h1,h2⟩⟩
  have e0:Env0 P w K mg (Xf s₁.heap H) callerA [] s₁ H:=⟨rfl,hM,fun b o e=>Asa e,nO (Aie _ _),trivial,fun b hb=>absurd (show b∈([]:Ψ) from hb) Za,hok,.of_eq hg⟩;refine nR ((F _ hKb (nsK hns) hLB).run callerA [] s₁ H ⟨[bp],[]⟩ [bp] [bp] _ _ hr e0 (hbind s₁ bp) (j4 rfl) (hsp H (fun b=>?_) hB hS)) fun r s' h=>?_
  ·rcases hO b with z | ⟨_,z⟩ | ⟨_,z⟩
   ·exact .inl z
   ·exact nv ⟨_,_,z⟩
   ·exact vo ⟨_,z⟩
  cases r with
  | error e=>exact eP h
  | ok fl=>
   cases fl with
   | next=>exact eP h
   | brk=>exact eP h
   | cont=>exact eP h
   | ret u=>
    obtain ⟨v,H',os,bare,un,hok',r',q⟩:=h;have q':v = eo:=q;subst q';obtain rfl:u=qE true:=r';have grow:∀ b∈tabs,∃ more,s'.heap.get? b=ξ (tabObj (#[]++more)):=fun b hb=>by
     obtain ⟨more,e2⟩:=un.tbls b _ (hB b hb);exact ⟨more,hok' b _ e2⟩
    have keep:∀ b o,b∉tabs->s₁.heap.get? b=ao->s'.heap.get? b=ao:=fun b o hb e=>by
     rcases hO b with z | ⟨e',z⟩ | ⟨e',z⟩
     ·exact un.keep b o e z (by intro z;exact absurd (show b∈([]:Ψ) from z) Za) Za
     ·have z2:=un.frzs b _ _ z;obtain ⟨e1,_⟩:=hok b _ z;obtain ⟨e2,_⟩:=hok' b _ z2;rw[e] at e1;cases e1;exact e2
     ·exact absurd e' hb
    refine ⟨rfl,⟨fun b o e=>?_,fun b o e=>?_⟩,os,bare⟩
    ·by_cases hb:b∈tabs
     ·obtain ⟨more,e2⟩:=grow b hb;obtain ⟨⟨c,hc⟩,e3⟩:=hT b hb;rw[e] at e3;cases e3;exact nv ⟨(hc.tab e).isCodeTable,rfl,#[],more,rfl,e2⟩
     ·exact .inl (keep b o hb e)
    ·by_cases hb:b∈tabs
     ·obtain ⟨more,e2⟩:=grow b hb;exact ⟨_,e2⟩
     ·exact ⟨o,keep b o hb e⟩
 have tabok:∀ b∈tabs,∀ H:Hp,ObjOk P w H s₁.heap b (.tbl #[]):=fun b hb H=>(hT b hb).2
 cases hk:K.lookup a with
 | some o=>
  have e:=KX a o hk;rw[ha] at e;cases e;refine core (fun b=>if b∈tabs then ξ (.tbl #[]) else ψ) (fun b=>?_) (fun b hb=>if_pos hb) (.inr ⟨_,vs.toArray,_,hk,rfl,rfl,rfl,by rw[aT,lenV];exact hl,by simpa using rv⟩) (fun b u z=>?_) fun z=>absurd (if_neg naT) z
  ·by_cases hb:b∈tabs
   ·exact vo ⟨hb,if_pos hb⟩
   ·exact .inl (if_neg hb)
  ·by_cases hb:b∈tabs
   ·have z':=(if_pos hb).symm.trans z;cases z';exact tabok b hb _
   ·have z':=(if_neg hb).symm.trans z;cases z'
 | none=>
  refine core (fun b=>if b=a then ξ (.frz { cls:=.type "list",data:=.seq vs.toArray } (.lst fu)) else if b∈tabs then ξ (.tbl #[]) else ψ) (fun b=>?_) (fun b hb=>?_) (.inl (.inr ⟨{ cls:=.type "list",data:=.seq vs.toArray },jv⟩)) (fun b u z=>?_) fun _=>hk
  ·by_cases hb:b=a
   ·exact nv ⟨hb,if_pos hb⟩
   ·by_cases hb2:b∈tabs
    ·exact vo ⟨hb2,(if_neg hb).trans (if_pos hb2)⟩
    ·exact .inl ((if_neg hb).trans (if_neg hb2))
  ·exact (if_neg (fun z=>naT (by rw[<- z];exact hb))).trans (if_pos hb)
  ·by_cases hb:b=a
   ·have z':=(if_pos hb).symm.trans z;cases z';subst hb;exact ⟨ha,by rw[aL];exact hl,vs,_,rv,ha⟩
   ·have z:=(if_neg hb).symm.trans z;by_cases hb2:b∈tabs
    ·have z':=(if_pos hb2).symm.trans z;cases z';exact tabok b hb2 _
    ·have z':=(if_neg hb2).symm.trans z;cases z'
def Anp(K:aK):List (Addr×Addr):=Gs.filterMap fun nm=>dQ K nm
def Aah(K:aK):List (Str×Addr):=Gs.filterMap fun nm=>(dQ K nm).map fun q=>(nm,q.2)
def Ro(K:aK):Bool:=(Aah K).all fun x=>(Aah K).all fun y=>x.1 == y.1 || x.2 != y.2
theorem Anr{K:aK}(h:Ro K=true):∀ nm1∈Gs,∀ nm2∈Gs,∀ c1 c2 P,dQ K nm1=ξ (c1,P)->dQ K nm2=ξ (c2,P)->nm1=nm2:=by
 intro nm1 h1 nm2 h2 c1 c2 P e1 e2;have m1:(nm1,P)∈Aah K:=iK.mpr ⟨nm1,h1,by rw[e1];rfl⟩;have m2:(nm2,P)∈Aah K:=iK.mpr ⟨nm2,h2,by rw[e2];rfl⟩;have:=bO.mp (bO.mp h _ m1) _ m2;simpa using this
theorem Awb{l:oD}{k:Nat}{q:cL}{loose:Φ}{XP:(Str->bi)->Heap->Prop}{YP:dC->Heap->Prop}{d:DefRec}{K:rK->aK}{m:FN}{x:Str}
  (hn:l.most=ξ 63) (hdf:d.params.defaults=[]) (hr:Room k callerA) (hY:∀ (w:dC) (h:Heap),YP w h->(i8).In h)
  (hTK:∀ w:dC,noTabs i8=true/\Ro i8=true) (hrec:∀ nm∈Gs,∃ d,(recsOf q).find? (fun e=>e.name == nm)=ξ d)
  (F:∀ (w:dC) (mg:Str->bi) (fa:Addr) (h:Heap),(i8).In h->h.Ns dJ mg->mg d.name=η fa ->
   ∃ fd:fA,(∀ (s:aO) (u:aJ),pC s fd ⟨[u],[]⟩ [(x,u)])/\∀ base:Heap,(i8).In base->base.Ns dJ mg->nw i8->FnOk l.prog w i8 mg base CX0 k fa fd [x] (spF i8 1 m))
  (ht:∀ ns:Λ,ns.length<=63->(∀ n∈ns,dW n<=2 ^ 20)->∃ L',m [.ref 0] [.ro ie]=ξ (eo,L')) :
  xR q loose XP YP l.row.toRowW d [] (fun f vs=>yR f vs):=by
 intro w s₀ s₁ mg mb G Y fa o pm cd doc dV kV ho hd hcd hD hmg hg args vals as hpre hlay hrd hwl hlo;obtain rfl:dV = .none:=Dflts.none hD hdf;obtain rfl:kV = .none:=Dflts.noKw hD;obtain ⟨a,vs,ns,rfl,rfl,hobj,hints,hlen⟩:=Akp hn hpre hwl;have KX:=hY w _ Y;obtain ⟨fd,hb,hF⟩:=F w mg fa _ KX G.T.g hmg;have hwt:=Xk hlay;have hT:∀ b∈(Anp i8).map (·.2),(∃ c,CodeHd s₁.heap c b)/\s₁.heap.get? b=ξ (tabObj #[]):=fun b hb=>by
  obtain ⟨⟨c,b'⟩,h1,h2⟩:=bK.mp hb;obtain ⟨nm,h3,h4⟩:=iK.mp h1;cases h2;obtain ⟨dr,hd⟩:=hrec nm h3;obtain ⟨e1,e2⟩:=tab_of G.T KX hd h4;exact ⟨⟨c,e1⟩,e2⟩
 have LB:LamB i8 mg s₁.heap:=⟨G.T.bmain,fun nm hn c P e=>by
  obtain ⟨dr,hd⟩:=hrec nm hn;exact (tab_of G.T KX hd e).1,Anr (hTK w).2⟩
 have all:=Aik ((Anp i8).map (·.2)) hT (hTK w).1 LB KX G.T.g G.T.b G.T.builtins G.T.nolimit hg hobj hints (cC hlen Zb) hr hF hb (fun H hO hB hS=>Au2 hO (fun nm hn c P e=>?_) hS (ht ns hlen hwt))
 ·refine enter_call (nR all fun r s' hq=>?_);obtain ⟨rfl,h2,h3,h4⟩:=hq;exact ⟨.inl ⟨mr,mr,[],rfl,fun _=>rfl,mr,Ajx l _,fun _=>⟨List.Pairwise.nil,fun _ hm=>(nomatch hm)⟩⟩,h2,h3,h4⟩
 ·exact ⟨#[],hB P (bK.mpr (ik (c,P) (iK.mpr ⟨nm,hn,e⟩))),trivial,fun pos cv z=>by cases z⟩
end Att
namespace MR
open PySem PyProof.Rows L2
noncomputable def g0(us ws:ac):ac:=match us with | []=>ws | _=>[]
noncomputable def gV0(vs zs:ε):ε:=match vs with | []=>zs | _=>[]
theorem Ao3{K:aK}{fd:fA}{p:Str}{ps:Φ}(h:∀ ws:ac,ws.length=(p::ps).length->rF fd ⟨[],(p::ps).zip ws⟩=pure ((p::ps).zip ws)):KBinds K fd (p::ps) (p::ps) g0 gV0 where
 to:=fun s us ws _ hl=>by
  cases us with
  | nil=>exact .of_eq (h ws hl)
  | cons u us=>simp[g0] at hl
 rel:=fun r rz=>by
  cases r with
  | nil=>exact rz
  | cons _ _=>exact .nil
section
variable {X:Cx}{k:Nat}{f:Addr}{fd:fA}{p:Str}{ps:Φ}{x:Str}{pp pos kpos:Pos}{e:Expr}{kws:tu}{nm:Option Str}
theorem PK.imp{t t':TA}(h:PK X kws t)(hi:∀ σ H Q,t' σ H Q->t σ H Q):PK X kws t':=fun pos pins s σ H Q I q=>h pos pins s σ H Q I (hi σ H Q q)
def PKF(X:Cx)(kws:tu)(g:FA):Prop:=PK X kws (lA X.K g)
theorem Jn:PKF X [] Af:=by
 refine PK.imp Vs ?_;rintro σ H Q ⟨α,δ,L,A,S,z,L3,e,q⟩;cases e;exact q [] H α gp A .nil
theorem Es{fe:FE}{g:FA}(ha:gy e fe)(hr:PKF X kws g):PKF X (⟨nm,e,kpos⟩::kws) (Aa fe g):=by
 refine PK.imp (Ot ha hr) ?_;rintro σ H Q ⟨α,δ,L,A,S,z,L3,e,q⟩;obtain ⟨⟨u,L1⟩,e1,e⟩:=af;obtain ⟨⟨us,L2⟩,e2,e⟩:=cx;cases e;exact ⟨α,δ,L,A,S,u,L1,e1,fun x H1 α1 g1 A1 r1=>⟨α1,δ,L1,A1,ge,us,L2,e2,fun xs H2 α2 g2 A2 r2=>q (x::xs) H2 α2 d6 A2 (.cons (r1.mono g2) r2)⟩⟩
theorem Akl{CX:CXT}{sp:Sp}{E:XK}{tk:TA}(F:FnOk X.prog X.w X.K X.mg X.base CX k f fd (p::ps) sp)(hr:Room k X.A)(hg:Gl X x)(hm:X.mg x=mn)(hk:iA X.K ff=true)(hb:KBinds X.K fd (p::ps) (p::ps) g0 gV0)(hx:Vr CX X E)
  (hkw:PK X kws tk) (hall:(dy pos kws X.env).all (·.1.isSome)=true:=by rfl) (hks:(dy pos kws X.env).filterMap (·.1)=p::ps:=by rfl)
  (hdb:(x == ("__debug__" : Str))=false:=by decide)
  (hpl:((f6 pos []).any (·.1) || (dy pos kws X.env).any (·.1.isNone))=false:=by rfl) :
  PE X (tz x pp [] kws) (fun σ H Q=>tk σ H fun zs H2=>sp zs H2 Q E):=by
 intro pins s σ H Q I h;refine dR (Abb I hg hm ?_ hdb);refine PySem.W.callWith_KW0 (h₀:=X.base) I.ok.mod.kin hk hall (thn (hkw pos pins s σ H _ I h) fun ws s2 ⟨zs,H2,I2,rz,q2⟩=>⟨I2.kIn,?_⟩) hpl;rw[hks];exact Aoy F hr hb hx I2 .nil rz q2
theorem Akq{n:Nat}{F:FN}{g:FA}(hF:FnOk X.prog X.w X.K X.mg X.base CX0 k f fd (p::ps) (spF X.K n F))(hr:Room k X.A)(hg:Gl X x)(hm:X.mg x=mn)(hk:iA X.K ff=true)(hb:KBinds X.K fd (p::ps) (p::ps) g0 gV0)
  (hkw:PKF X kws g) (hall:(dy pos kws X.env).all (·.1.isSome)=true:=by rfl) (hks:(dy pos kws X.env).filterMap (·.1)=p::ps:=by rfl)
  (hdb:(x == ("__debug__" : Str))=false:=by decide)
  (hpl:((f6 pos []).any (·.1) || (dy pos kws X.env).any (·.1.isNone))=false:=by rfl) :
  PEF X (tz x pp [] kws) (Av n F g):=by
 refine PE.imp (Akl hF hr hg hm hk hb Ata hkw hall hks hdb hpl) ?_;rintro σ H Q ⟨α,δ,L,A,S,z,L3,e,q⟩;obtain ⟨⟨us,L1⟩,e1,e⟩:=af;simp only at e;split at e
 ·rename_i hl;refine ⟨α,δ,L,A,S,us,L1,e1,fun xs H1 α1 g1 A1 r1=>?_⟩;exact ⟨α1,L1,us,A1,r1,hl,z,L3,e,fun v H2 α2 g2 A2 r2=>q v H2 α2 d6 A2 r2⟩
 ·cases e
end
end MR
namespace MR
open PySem PySem.Spec PyProof.Rows PySem.Calls L2
theorem Ahi{ns:Λ}:∀ {us:ac},Vals fu us->∀ (i:Nat) (v:aJ),us[i]? = ξ v->∃ n t,ns[i]? = ξ n/\v = re n:=by
 induction ns with
 | nil=>intro us r i v e;rw[bY] at r;cases r;simp at e
 | cons n ns ih=>
  intro us r i v e;rw[aQ] at r;cases r with
  | cons r1 r2=>
   cases i with
   | zero=>
    simp at e;subst e;obtain ⟨t,rfl⟩:=r1;exact ⟨n,t,rfl,rfl⟩
   | succ i=>simpa using ih r2 i v (by simpa using e)
theorem Ap0(ns:Λ):((bJ ns.length).any fun i=>!((ns[i]?).getD 0 == 0))=ns.any fun n=>!(n == 0):=by
 rw[eV,iI,iI];constructor
 ·rintro ⟨i,hi,h⟩;have hi':=bM.mp hi;simp only[aC hi',gQ] at h;exact ⟨_,cS hi',h⟩
 ·rintro ⟨n,hn,h⟩;obtain ⟨i,hi,e⟩:=dE hn;refine ⟨i,bM.mpr hi,?_⟩;simp only[km,gQ,e];exact h
variable {X:Cx}
section
theorem Ai5(hc:X.calm=true):ll X "any" (fun xs H Q=>∃ (p:Addr) (ns:Λ),xs=[d7]/\qk X.K p fu/\Q (.bl (ns.any fun n=>!(n == 0))) H):=by
 intro pins s σ H xs us Q I r h;obtain ⟨p,ns,rfl,hq,q⟩:=h;obtain ⟨u,rfl,rx⟩:=Ee r;cases rx;obtain ⟨its,r',pl,hz⟩:=oa;have hl:=pl.isList;have hlt:p < s.heap.objs.size:=by obtain ⟨_,e,_⟩:=hl;exact v7
 refine call_any_walk (jB hl ?_);refine ⟨s.heap.objs.size,[s.heap.objs.size,p],[s.heap.objs.size],its.toArray.size,_,_,fun i=>!((ns[i]?).getD 0 == 0),rfl,qP (A:=qQ _) i7 _ p (bW hlt) its.toArray,
  ⟨⟨_,ki,rfl,rfl⟩,hl.push _⟩,fun i v s' Q' E' hP hQ=>?_,fun h' tk hk=>?_⟩
 ·obtain ⟨n,t,e,rfl⟩:=Ahi r' i v (by simpa using hP);simp only[e,gQ] at hQ
  first
   | exact qA hQ
   | exact qA (by simpa[bne] using hQ)
 ·have hlen:its.length=ns.length:=by have:=r'.length;rw[aL] at this;exact this.symm
  have e:((bJ its.toArray.size).any fun i=>!((ns[i]?).getD 0 == 0))=ns.any fun n=>!(n == 0):=by
   rw[aT,hlen];exact Ap0 ns
  rw[e];exact ck (.bl _) H (I.kept (Agp hk)) q
end
def T8:SC:=fun us L=>match us with
 | [.ref n]=>(sy).bind fun l=>(mapO toI l).map fun ns=>(.bl (ns.any fun n=>!(n == 0)),L)
 | _=>ψ
theorem Aqa{K:aK}:R9 K (fun xs H Q=>∃ (p:Addr) (ns:Λ),xs=[d7]/\qk K p fu/\Q (.bl (ns.any fun n=>!(n == 0))) H) T8:=by
 intro H α L us xs z L' Q A r e q;unfold T8 at e;split at e
 ·obtain ⟨l,hl,e⟩:=af;obtain ⟨ns,hns,e⟩:=cx;cases e;obtain ⟨x,rfl,rx⟩:=r.one;obtain ⟨a,ys,rfl,sq,r2⟩:=Fi A hl rx;rw[G8 r2 hns] at sq;exact pz a ns sq (q _ H α gp A rfl)
 ·cases e
noncomputable def Qb(lo:Int)(n:Nat):ε:=(bJ n).map fun i=>V.int (lo+(i:Nat))
theorem Yv{lo:Int}{n:Nat}{acc:bv}(h:ItemsOf (fun i v=>∃ t,v=mJ (lo+(i:Nat) * 1) t) acc n):Vals (Qb lo n) acc.toList:=by
 obtain ⟨h1,h2⟩:=h;have key:∀ (k:Nat) (l:ac) (m:Nat),l.length=k->(∀ i v,l[i]? = ξ v->∃ t,v=mJ (lo+((m+i:Nat):Int)) t)->Vals ((yN m k).map fun i=>V.int (lo+((i:Nat):Int))) l:=by
  intro k;induction k with
  | zero=>intro l m hl _;cases l with | nil=>exact .nil | cons _ _=>simp at hl
  | succ k ih=>
   intro l m hl hv;cases l with
   | nil=>simp at hl
   | cons v l=>
    rw[List.range'_succ,aQ];obtain ⟨t,ht⟩:=hv 0 v rfl;refine .cons ⟨t,by rw[ht];rfl⟩ (ih l (m+1) (by simpa using hl) fun i w hw=>?_);obtain ⟨t',ht'⟩:=hv (i+1) w (by simpa using hw);refine ⟨t',?_⟩;rw[ht'];have:m+(i+1)=m+1+i:=Ze
    rw[this]
 have:=key n acc.toList 0 (by simpa using h1) (fun i v hv=>by
  obtain ⟨t,ht⟩:=h2 i v (by simpa using hv);refine ⟨t,?_⟩;rw[ht,Int.mul_one,nV])
 unfold Qb;rw[List.range_eq_range'];exact this
section
theorem Aky{pins:List (Addr×Obj)}{σ:L2.St}{H:Hp}{s:aO}{Q:VK}{lo hi:Int}{t u v:Tok}{tk:Nat}(hc:X.calm=true)(I:lj H s)(h1:-(2 ^ 62)<=lo)(h2:lo < 2 ^ 62)(h3:-(2 ^ 62)<=hi)(h4:hi < 2 ^ 62)(hn:(hi - lo).toNat<=1000000)
  (q:∀ l,H l=ψ->Q cy (cb H l (Qb lo (hi - lo).toNat))) :
  wpAny bj X.A (call vh [bq]) Zu X.xe { s with heap:=s.heap.push { cls:=.type "range",data:=.fields #[re lo,.int hi u,.int 1 v] },toks:=tk }:=by
 have I1:lj H { s with heap:=s.heap.push { cls:=.type "range",data:=.fields #[re lo,.int hi u,.int 1 v] },toks:=tk }:=I.kept fun b o e=>n8
 refine call_list_range (n:=(hi - lo).toNat) i7 (yK ..) (small_one h1 h2 h3 h4) (by rw[sH];split <;> omega) Ze fun h' tk' acc c' hk hS hacc=>?_
 have hz2:(s.heap.push { cls:=.type "range",data:=.fields #[re lo,.int hi u,.int 1 v] }).objs.size=s.heap.objs.size+1:=dB ..;have hv:=Yv hacc;have kp:∀ b o,(s.heap.push { cls:=.type "range",data:=.fields #[re lo,.int hi u,.int 1 v] }).get? b=ao->cq=ao:=hk;have hlen:(Qb lo (hi - lo).toNat).length<=sizeLine:=by
  unfold Qb sizeLine;rw[aL,dD];omega
 have new:ObjOk X.prog X.w (cb H (s.heap.push { cls:=.type "range",data:=.fields #[re lo,.int hi u,.int 1 v] }).objs.size (Qb lo (hi - lo).toNat)) h' (s.heap.push { cls:=.type "range",data:=.fields #[re lo,.int hi u,.int 1 v] }).objs.size (.lst (Qb lo (hi - lo).toNat)):=
  ⟨hlen,acc.toList,c',hv,by simpa using hS⟩
 exact ck (.ref (s.heap.push { cls:=.type "range",data:=.fields #[re lo,.int hi u,.int 1 v] }).objs.size) _ (I1.laid (t':=tk') kp be new) (q _ ma)
def Aug(ta:TA):TE:=fun σ H Q=>ta σ H fun vs H1=>∃ j:Int,vs=[lw]/\-(2 ^ 62)<=j/\j<=1000000/\∀ l,H1 l=ψ->Q cy (cb H1 l (Qb 0 j.toNat))
theorem Aoh{a:Expr}{ta:TA}{p p' pos pos':Pos}(hc:X.calm=true)(hgL:Gl X "list")(hmL:X.mg "list" = ψ)(hg:Gl X "range")(hm:X.mg "range" = ψ)(ha:PA X [a] ta)(hs:bc [a]=[ZU]:=by rfl)
  (hs2:bc [bu "range" p' [a] [] pos']=[(false,bn (bu "range" p' [a] [] pos'))]:=by rfl):l4 (tz "list" p [bu "range" p' [a] [] pos'] []) (Aug ta):=by
 intro pins s σ H Q I h;refine dR (Fs I hgL hmL Uy ?_);refine cT ?_ hs2 rfl;rw[hs2];refine oF ?_;refine dR (Fs I hg hm xA (cT (thn (ha pos' pins s σ H _ I h) fun us s1 ⟨vs,H1,I1,r1,q1⟩=>?_) hs rfl));obtain ⟨j,rfl,j0,j1,q⟩:=q1;obtain ⟨u,rfl,ru⟩:=Ee r1;obtain ⟨t,rfl⟩:=ru;refine tF ?_;refine pB ?_;have hj:(j - 0).toNat=j.toNat:=by rw[Int.sub_zero]
 exact Aky (lo:=0) (hi:=j) hc I1 Ze Ze j0 Ze Ze (fun l hl=>by rw[hj];exact q l hl)
end
def Aba(g:FA):FE:=fun δ L=>(g δ L).bind fun p=>match p.1 with
 | [.int j]=>if -(2 ^ 62)<=j/\j<=1000000 then ξ (.ref p.2.length,p.2++[.lst (su 0)]) else ψ
 | _=>ψ
theorem Aae{K:aK}{H:Hp}{α:Ψ}(lo:Int)(n:Nat):vm (Bo lo n) (Qb lo n):=by
 unfold Bo Qb;generalize bJ n=ks;induction ks with
 | nil=>exact .nil
 | cons k ks ih=>exact .cons (by unfold RepU;rfl) ih
theorem Amb{a:Expr}{g:FA}{p p' pos pos':Pos}(hc:X.calm=true)(hgL:Gl X "list")(hmL:X.mg "list" = ψ)(hg:Gl X "range")(hm:X.mg "range" = ψ)(ha:PAF X [a] g)(hs:bc [a]=[ZU]:=by rfl)
  (hs2:bc [bu "range" p' [a] [] pos']=[(false,bn (bu "range" p' [a] [] pos'))]:=by rfl):gy (tz "list" p [bu "range" p' [a] [] pos'] []) (Aba g):=by
 refine PE.imp (Aoh hc hgL hmL hg hm ha hs hs2) ?_;rintro σ H Q ⟨α,δ,L,A,S,z,L3,e,q⟩;obtain ⟨⟨us,L1⟩,e1,e⟩:=af;refine ⟨α,δ,L,A,S,us,L1,e1,fun xs H1 α1 g1 A1 r1=>?_⟩;simp only at e;split at e
 ·split at e
  ·rename_i hj;cases e;obtain ⟨x,rfl,rx⟩:=r1.one;unfold RepU at rx;subst rx;refine ⟨_,rfl,hj.1,hj.2,fun l hl=>?_⟩;obtain ⟨g2,A2,r2⟩:=A1.lst (Aae (K:=X.K) (H:=H1) (α:=α1) 0 _) hl;exact q _ _ _ d6 A2 r2
  ·cases e
 ·cases e
end MR
namespace MR
open PySem PyProof.Rows L2
variable {K:aK}{H:Hp}{α:Ψ}
theorem RepL.init:∀ {us:aa} {xs:ε},vw->RepL K H α us.dropLast xs.dropLast
 | [],xs,r=>by unfold RepL at r;subst r;exact .nil
 | [u],xs,r=>by
  unfold RepL at r;obtain ⟨x,xr,rfl,rx,r⟩:=r;unfold RepL at r;subst r;exact .nil
 | u::w::us,xs,r=>by
  unfold RepL at r;obtain ⟨x,xr,rfl,rx,r⟩:=r;have r':=r;unfold RepL at r';obtain ⟨y,yr,rfl,ry,_⟩:=r';exact .cons rx (RepL.init r)
def toK:U->Option Key
 | .int i=>ξ (.inl i)
 | .str x=>ξ (.inr x)
 | _=>ψ
variable {u:U}{x:V}{k:Key}
theorem Aan(r:gh K H u x)(h:toK u=ξ k):x=kV k:=by
 cases u <;> simp only[toK] at h <;> first | (cases h;unfold RepU at r;exact r) | cases h
def G0(kvs:List (Key×U))(k:Key):az:=(kvs.find? fun kv=>decide (kv.1=k)).map (·.2)
def Iu(kvs:List (Key×U))(k:Key)(v:U):List (Key×U):=
 if (kvs.any fun kv=>decide (kv.1=k))=true then kvs.map (fun kv=>if kv.1=k then (kv.1,v) else kv) else kvs++[(k,v)]
variable {kvs:List (Key×U)}{vs:List (Key×V)}
section
def RepKV(K:aK)(H:Hp)(α:Ψ)(kvs:List (Key×U))(vs:List (Key×V)):Prop:=kvs.map (·.1)=vs.map (·.1)/\vm (kvs.map (·.2)) (vs.map (·.2))
theorem RepKV.nil:l7 K H [] []:=⟨rfl,.nil⟩
theorem RepKV.cons{kv:Key×U}(h:l7 K H (kv::kvs) vs):∃ x vs',vs=(kv.1,x)::vs'/\gh K H kv.2 x/\l7 K H kvs vs':=by
 obtain ⟨h1,h2⟩:=h;cases vs with
 | nil=>simp at h1
 | cons w vs'=>
  simp only[aQ,kX] at h1;rw[aQ,aQ] at h2;unfold RepL at h2;obtain ⟨x,xr,hx,rx,r⟩:=h2;injection hx with e1 e2
  subst e1;refine ⟨w.2,vs',by rw[h1.1],rx,h1.2,?_⟩;rw[e2];exact r
theorem RepKV.mk(r:gh K H u x)(h:l7 K H kvs vs):l7 K H ((k,u)::kvs) ((k,x)::vs):=
 ⟨by simp[h.1],by rw[aQ,aQ];exact .cons r h.2⟩
theorem RepKV.val:∀ {kvs:List (Key×U)} {vs:List (Key×V)},l7 K H kvs vs->G0 kvs k=ξ u->∃ x,N3 vs k=jw/\RepU K H α u x
 | [],vs,_,e=>by simp[G0] at e
 | kv::kvs,vs,r,e=>by
  obtain ⟨x,vs',rfl,rx,r'⟩:=r.cons;unfold G0 at e;unfold N3;rw[cU] at e ⊢;by_cases h:kv.1=k
  ·simp only[h,decide_true,aD] at e ⊢;cases e;exact gu x rx
  ·simp only[h,decide_false] at e ⊢;exact RepKV.val r' e
theorem RepKV.any:∀ {kvs:List (Key×U)} {vs:List (Key×V)},l7 K H kvs vs->(kvs.any fun kv=>decide (kv.1=k))=(vs.any fun kv=>decide (kv.1=k))
 | [],vs,r=>by
  obtain ⟨h1,_⟩:=r;cases vs with
  | nil=>rfl
  | cons _ _=>simp at h1
 | kv::kvs,vs,r=>by
  obtain ⟨x,vs',rfl,rx,r'⟩:=r.cons;rw[iH,iH,RepKV.any r']
theorem RepKV.len(r:l7 K H kvs vs):kvs.length=vs.length:=by
 have:=congrArg lC r.1;simpa using this
theorem RepKV.upd(ru:gh K H u x):∀ {kvs:List (Key×U)} {vs:List (Key×V)},l7 K H kvs vs->RepKV K H α (kvs.map fun kv=>if kv.1=k then (kv.1,u) else kv) (vs.map fun kv=>if kv.1=k then (kv.1,x) else kv)
 | [],vs,r=>by
  obtain ⟨h1,_⟩:=r;cases vs with
  | nil=>exact .nil
  | cons _ _=>simp at h1
 | kv::kvs,vs,r=>by
  obtain ⟨y,vs',rfl,ry,r'⟩:=r.cons;rw[aQ,aQ];by_cases h:kv.1=k
  ·rw[if_pos h,if_pos h];exact .mk ru (RepKV.upd ru r')
  ·rw[if_neg h,if_neg h];exact .mk ry (RepKV.upd ru r')
theorem RepKV.add(ru:gh K H u x):∀ {kvs:List (Key×U)} {vs:List (Key×V)},l7 K H kvs vs->RepKV K H α (kvs++[(k,u)]) (vs++[(k,x)])
 | [],vs,r=>by
  obtain ⟨h1,_⟩:=r;cases vs with
  | nil=>exact .mk ru .nil
  | cons _ _=>simp at h1
 | kv::kvs,vs,r=>by
  obtain ⟨y,vs',rfl,ry,r'⟩:=r.cons;exact .mk ry (RepKV.add ru r')
theorem RepKV.put(ru:gh K H u x)(r:l7 K H kvs vs):l7 K H (Iu kvs k u) (Mg vs k x):=by
 unfold Iu Mg;rw[r.any];split
 ·exact r.upd ru
 ·exact r.add ru
theorem RepKV.mono{H':Hp}{α':Ψ}(r:l7 K H kvs vs)(g:vg):RepKV K H' α' kvs vs:=⟨r.1,r.2.mono g⟩
end
def B3(L:UH)(n:Nat):Option (List (Key×U)):=match L[n]? with
 | some (.dic kvs)=>ξ kvs
 | _=>ψ
variable {L:UH}{n:Nat}
theorem P0(h:B3 L n=ξ kvs):L[n]? = iy kvs:=by
 unfold B3 at h;split at h
 ·rename_i e;cases h;exact e
 ·cases h
theorem G9(A:ia K H L)(h:B3 L n=ξ kvs)(r:gh K H di x):∃ a vs,x = bp/\α[n]? = m7/\j7=ξ nj/\l7 K H kvs vs:=by
 unfold RepU at r;obtain ⟨a,ea,rfl⟩:=r;obtain ⟨vs,e,k1,k2⟩:=A.rep n a _ ea (P0 h);exact ⟨a,vs,rfl,ea,e,k1,k2⟩
theorem Abs.setD{a:Addr}{ws:List (Key×V)}{kws:List (Key×U)}(A:ia K H L)(h:B3 L n=ξ kvs)(ea:α[n]? = m7)(e:j7=ξ nj)(r:l7 K H kws ws) :
  Gr H α (f7 a (.dK ws)) α/\ia K (f7 a (.dK ws)) (L.set n (.dic kws)):=by
 have g:je H (f7 a (.dK ws)) α:=⟨⟨[],Za⟩,.write e (by exact trivial) _⟩;obtain ⟨A',_⟩:=A.put (o:=.dK ws) (u:=.dic kws) ea (P0 h) rfl rfl e (by exact trivial) ⟨ws,upd_same,(l6).1,(l6).2⟩;exact ⟨g,A'⟩
section
variable {X:Cx}{o i value:Expr}{pos pos':Pos}{fo fi fv:FE}
def O1:FE:=fun _ L=>ξ (cf,L++[.dic []])
theorem Q7:gy (.Dict [] [] pos) O1:=by
 refine PE.imp Al3 ?_;rintro σ H Q ⟨α,δ,L,A,S,z,L3,e,q⟩;cases e;intro p hp;have g:je H (f7 p (.dK [])) (α ++ [p]):=⟨cu [p],.new hp _⟩;obtain ⟨A',_⟩:=A.new (o:=.dK []) (u:=.dic []) hp ⟨[],upd_same,rfl,.nil⟩;refine q _ _ _ g A' ?_;unfold RepU;exact ⟨p,by rw[<- A.len];simp,rfl⟩
def Qp(fo fi:FE):FE:=fun δ L=>(fo δ L).bind fun p=>(fi δ p.2).bind fun q=>match p.1 with
 | .ref n=>(toK q.1).bind fun k=>(B3 q.2 n).bind fun kvs=>(G0 kvs k).map fun u=>(u,q.2)
 | _=>ψ
theorem Tt(hu:X.A.units+64 < cLine)(ho:gy o fo)(hi:gy i fi)(hs:Aqo i):gy (nk o i) (Qp fo fi):=by
 refine PE.imp (Agg Ze ho hi hs) ?_;rintro σ H Q ⟨α,δ,L,A,S,z,L3,e,q⟩;obtain ⟨⟨u,L1⟩,e1,e⟩:=af;obtain ⟨⟨w,L2⟩,e2,e⟩:=af;refine ⟨α,δ,L,A,S,u,L1,e1,fun x H1 α1 g1 A1 r1=>⟨α1,δ,L1,A1,ge,w,L2,e2,fun y H2 α2 g2 A2 r2=>?_⟩⟩;simp only at e;split at e
 ·obtain ⟨k,hk,e⟩:=af;obtain ⟨kvs,hd,e⟩:=af;obtain ⟨v,hv,e⟩:=cx;cases e;obtain ⟨a,vs,rfl,ea,ha,rk⟩:=G9 A2 hd (r1.mono g2);obtain ⟨x',hx',rx'⟩:=rk.val hv;refine pz a x' ?_ (q _ _ _ d6 A2 rx');rw[Aan r2 hk,<- hx'];exact DGet.k ha
 ·cases e
def Hx(fo fi fv:FE):FS:=fun δ L=>(fv δ L).bind fun p=>(fo δ p.2).bind fun q=>(fi δ q.2).bind fun r=>match q.1 with
 | .ref n=>(toK r.1).bind fun k=>(B3 r.2 n).bind fun kvs=>if kvs.length < 1000000 then ξ (.nx δ,r.2.set n (.dic (Iu kvs k p.1))) else ψ
 | _=>ψ
theorem K7(hu:X.A.units+64 < cLine)(ho:gy o fo)(hi:gy i fi)(hv:gy value fv)(hs:vx value (ξ (.Subscript o i pos')) pos.line=pure false:=by rfl):PSF X (.Assign [.Subscript o i pos'] value pos) (Hx fo fi fv):=by
 refine PS.imp (Aph Ze ho hi hv hs) ?_;rintro D σ H ⟨α,δ,L,A,S,fl,L',e,q⟩;obtain ⟨⟨v,L1⟩,e1,e⟩:=af;obtain ⟨⟨u,L2⟩,e2,e⟩:=af;obtain ⟨⟨w,L3⟩,e3,e⟩:=af;refine ⟨α,δ,L,A,S,v,L1,e1,fun xv H1 α1 g1 A1 rv=>⟨α1,δ,L1,A1,ge,u,L2,e2,fun x H2 α2 g2 A2 rx=>⟨α2,δ,L2,A2,(ge).mono g2,w,L3,e3,fun y H3 α3 g3 A3 ry=>?_⟩⟩⟩;simp only at e;split at e
 ·obtain ⟨k,hk,e⟩:=af;obtain ⟨kvs,hd,e⟩:=af;split at e
  ·rename_i hl;cases e;obtain ⟨a,vs,rfl,ea,ha,rk⟩:=G9 A3 hd (rx.mono g3);have rv':=rv.mono (g2.trans g3);obtain ⟨g4,A4⟩:=A3.setD hd ea ha (rk.put (k:=k) rv');refine pz a _ ?_ (q σ _ α3 ((mo g3).trans g4) A4 ((((ge).mono g2).mono g3).mono g4));rw[Aan ry hk];exact DPut.k ha (by rw[<- rk.len];unfold sizeLine;omega)
  ·cases e
 ·cases e
end
theorem A0p{β:Type}{P:ed->Prop}(h:P [])(us:ed)(hl:us.length=0):P us:=by
 cases us with
 | nil=>exact h
 | cons=>cases hl
theorem Av9{β:Type}{P:ed->Prop}(h:∀ (a:β) (us:ed),us.length=n->P (a::us))(us:ed)(hl:us.length=n+1):P us:=by
 cases us with
 | nil=>cases hl
 | cons a us=>exact h a us (Nat.succ.inj hl)
theorem Abd{β:Type}{P:ed->Prop}(h:∀ a,P [a]):∀ us:ed,us.length=1->P us:=Av9 fun a=>A0p (h a)
theorem Apv{β:Type}{P:ed->Prop}(h:∀ a b,P [a,b]):∀ us:ed,us.length=2->P us:=Av9 fun a=>Abd (h a)
theorem Awa{β:Type}{P:ed->Prop}(h:∀ a b c,P [a,b,c]):∀ us:ed,us.length=3->P us:=Av9 fun a=>Apv (h a)
section
variable {X:Cx}{elts:fj}{x1:Nat}{tpos:Pos}
def K8(g:FA):FI:=fun δ L=>(g δ L).bind fun p=>match p.1 with
 | [.tup us,.tup ws]=>ξ (.seq (Dt us ws),p.2)
 | _=>ψ
theorem U2{a b:Expr}{g:FA}{p pos:Pos}(hg:Gl X "zip")(hm:X.mg "zip" = ψ)(ha:PAF X [a,b] g)(hs:bc [a,b]=ZU::bc [b]:=by rfl)(hpl:(f6 pos [b]).any (·.1)=false:=by rfl):PIF X ZN (tz "zip" p [a,b] []) (K8 g):=by
 refine PI.imp (Ah6 hg hm ha hs hpl) ?_;rintro σ H R ⟨α,δ,L,A,S,i,L3,e,q⟩;obtain ⟨⟨us,L1⟩,e1,ee⟩:=af;simp only at ee;split at ee
 ·cases ee;refine ⟨α,δ,L,A,S,_,_,e1,fun xs H1 α1 g1 A1 r1=>?_⟩;obtain ⟨x,y,rfl,rx,ry⟩:=r1.two;unfold RepU at rx ry;obtain ⟨a',ys,rfl,sq,r2⟩:=rx;obtain ⟨b',ys',rfl,sq',r2'⟩:=ry;exact ⟨a',b',ys,ys',rfl,sq,sq',q _ H1 α1 g1 A1 (Abw sq sq' r2 r2')⟩
 ·cases ee
end
end MR
namespace MR
open PySem L2
@[simp] theorem fVar_eq(i:Nat)(δ:UE)(L:UH):Ad i δ L=(δ[i]?).join.map fun u=>(u,L):=rfl
@[simp] theorem fC_eq(u:U)(δ:UE)(L:UH):fC u δ L=ξ (u,L):=rfl
@[simp] theorem f2_eq(s:S2)(a b:FE)(δ:UE)(L:UH):f2 s a b δ L=(a δ L).bind fun p=>(b δ p.2).bind fun q=>s p.1 q.1 q.2:=rfl
@[simp] theorem fTest_eq(f:FE)(δ:UE)(L:UH):Bn f δ L=(tm).bind fun p=>match p.1 with | .bl k=>ξ (k,p.2) | _=>ψ:=rfl
@[simp] theorem Ahv(f g:FT)(δ:UE)(L:UH):Aem f g δ L=(tm).bind fun p=>if p.1=true then g δ p.2 else ξ (false,p.2):=rfl
@[simp] theorem fOr_eq(f g:FT)(δ:UE)(L:UH):fOr f g δ L=(tm).bind fun p=>if p.1=true then ξ (true,p.2) else g δ p.2:=rfl
@[simp] theorem Ou(f:FT)(δ:UE)(L:UH):Ox f δ L=(tm).map fun p=>(!p.1,p.2):=rfl
@[simp] theorem Iz(f g:FE)(δ:UE)(L:UH):Jq f g δ L=(tm).bind fun p=>match p.1 with | .bl k=>if k=true then g δ p.2 else ξ (gq,p.2) | _=>ψ:=rfl
@[simp] theorem A0a(f g:FE)(δ:UE)(L:UH):A0g f g δ L=(tm).bind fun p=>match p.1 with | .bl k=>if k=true then ξ (eo,p.2) else g δ p.2 | _=>ψ:=rfl
@[simp] theorem Ayj(f:FE)(δ:UE)(L:UH):Amd f δ L=(tm).bind fun p=>match p.1 with | .bl k=>ξ (.bl (!k),p.2) | _=>ψ:=rfl
@[simp] theorem Avx(c:FT)(f g:FE)(δ:UE)(L:UH):fIf c f g δ L=(c δ L).bind fun p=>if p.1=true then f δ p.2 else g δ p.2:=rfl
@[simp] theorem fNil_eq(δ:UE)(L:UH):Af δ L=ξ ([],L):=rfl
@[simp] theorem fCons_eq(f:FE)(g:FA)(δ:UE)(L:UH):Aa f g δ L=(tm).bind fun p=>(g δ p.2).map fun q=>(p.1::q.1,q.2):=rfl
@[simp] theorem Ha(g:FA)(δ:UE)(L:UH):Dp g δ L=(g δ L).bind fun p=>if small p.1.length=true then ξ (.tup p.1,p.2) else ψ:=rfl
@[simp] theorem fLst_eq(g:FA)(δ:UE)(L:UH):Cw g δ L=(g δ L).bind fun p=>if small p.1.length=true then ξ (.ref p.2.length,p.2++[.lst p.1]) else ψ:=rfl
@[simp] theorem fCall_eq(s:SC)(g:FA)(δ:UE)(L:UH):A8 s g δ L=(g δ L).bind fun p=>s p.1 p.2:=rfl
@[simp] theorem fOwn_eq(n:Nat)(F:FN)(g:FA)(δ:UE)(L:UH):Av n F g δ L=(g δ L).bind fun p=>if p.1.length=n then F p.1 p.2 else ψ:=rfl
@[simp] theorem fMeth_eq(T:String)(s:SM)(f:FE)(g:FA)(δ:UE)(L:UH):Fm T s f g δ L=(tm).bind fun p=>if tyU T p.1 p.2=true then (g δ p.2).bind fun q=>s p.1 q.1 q.2 else ψ:=rfl
@[simp] theorem fPart_eq(f:FE)(δ:UE)(L:UH):Ey f δ L=(tm).bind fun p=>match p.1 with | .int i=>ξ (ξ i,p.2) | _=>ψ:=rfl
@[simp] theorem fNoPart_eq(δ:UE)(L:UH):B8 δ L=ξ (ψ,L):=rfl
@[simp] theorem fSl_eq(s:SS)(f:FE)(l h:FO)(δ:UE)(L:UH):fSl s f l h δ L=(tm).bind fun p=>(l δ p.2).bind fun q=>(h δ q.2).bind fun r=>s p.1 q.1 r.1 r.2:=rfl
@[simp] theorem Ag6(f:FE)(δ:UE)(L:UH):P1 f δ L=(tm).bind fun p=>match p.1 with | .int i=>ξ (.int (-i),p.2) | _=>ψ:=rfl
@[simp] theorem fTru_eq(f:FE)(δ:UE)(L:UH):Gp f δ L=(tm).bind fun p=>(Qh p.1 p.2).map fun k=>(k,p.2):=rfl
@[simp] theorem fIsi_eq(c:String)(f:FE)(δ:UE)(L:UH):Tc c f δ L=(tm).bind fun p=>(Lz p.1 p.2).map fun t=>(.bl (isT t c),p.2):=rfl
@[simp] theorem Gk(δ:UE)(L:UH):Cy δ L=ξ (.nx δ,L):=rfl
@[simp] theorem fSeq_eq(f g:FS)(δ:UE)(L:UH):Az f g δ L=(tm).bind fun p=>match p.1 with | .nx δ'=>g δ' p.2 | fl=>ξ (fl,p.2):=rfl
@[simp] theorem fRet_eq(f:FE)(δ:UE)(L:UH):B0 f δ L=(tm).map fun p=>(.rt p.1,p.2):=rfl
@[simp] theorem Hf(f:FE)(δ:UE)(L:UH):Hv f δ L=(tm).map fun p=>(.nx δ,p.2):=rfl
@[simp] theorem Aym(δ:UE)(L:UH):Ayt δ L=ξ (.rt .non,L):=rfl
@[simp] theorem fIfS_eq(c:FT)(f g:FS)(δ:UE)(L:UH):Fb c f g δ L=(c δ L).bind fun p=>if p.1=true then f δ p.2 else g δ p.2:=rfl
@[simp] theorem gN_eq(i:Nat)(u:U)(δ:UE)(L:UH):gN i u δ L=ξ (δ.set i br,L):=rfl
@[simp] theorem Az6(δ:UE)(L:UH):MR.gNil [] δ L=ξ (δ,L):=rfl
@[simp] theorem Azs(f:FG)(g:FGs)(u:U)(r:aa)(δ:UE)(L:UH):MR.gCons f g (u::r) δ L=(f u δ L).bind fun p=>g r p.1 p.2:=rfl
@[simp] theorem Az8(n:Nat)(g:FGs)(us:aa)(δ:UE)(L:UH):MR.gTup n g (.tup us) δ L=if us.length=n then g us δ L else ψ:=rfl
@[simp] theorem Az5(a b:FE)(v:U)(δ:UE)(L:UH):MR.gSub a b v δ L=(a δ L).bind fun p=>(b δ p.2).bind fun q=>match p.1,q.1 with
 | .ref n,.int k=>(Fy q.2 n).bind fun l=>(ixN l.length k).map fun j=>(δ,q.2.set n (.lst (l.set j v)))
 | _,_=>ψ:=rfl
@[simp] theorem fAsg_eq(f:FE)(g:FG)(δ:UE)(L:UH):A9 f g δ L=(tm).bind fun p=>(g p.1 δ p.2).map fun q=>(.nx q.1,q.2):=rfl
@[simp] theorem Ag4(fi:FI)(g:FG)(b:FS)(δ:UE)(L:UH):Fu fi g b δ L=(fi δ L).bind fun p=>My p.1 g b (p.1.size p.2+1) 0 δ p.2:=rfl
@[simp] theorem C2(f:FE)(δ:UE)(L:UH):A7 f δ L=(tm).bind fun p=>(Qo p.1 p.2).map fun i=>(i,p.2):=rfl
@[simp] theorem Amv(g:FA)(δ:UE)(L:UH):Gv g δ L=(g δ L).bind fun p=>match p.1 with
 | [.int j]=>if -(2 ^ 62)<=j/\j < 2 ^ 62 then ξ (.seq (su 0),p.2) else ψ
 | _=>ψ:=rfl
@[simp] theorem semAdd_int(i j:Int)(L:UH):Bd ce lw L=ξ (.int (i+j),L):=rfl
@[simp] theorem semSub_int(i j:Int)(L:UH):Nc ce lw L=ξ (.int (i - j),L):=rfl
@[simp] theorem Avu(i j:Int)(L:UH):Br ce lw L=if Jg i j=true then ξ (.int (i * j),L) else ψ:=rfl
@[simp] theorem Avk(i j:Int)(L:UH):Iv ce lw L=if X8 i j=true then ξ (.int (i / j),L) else ψ:=rfl
@[simp] theorem Avm(i j:Int)(L:UH):Ej ce lw L=if decide (0 < j)=true then ξ (.int (i % j),L) else ψ:=rfl
@[simp] theorem Av4(i j:Int)(L:UH):Hm ce lw L=if Y0 i j=true then ξ (.int (i ^ j.toNat),L) else ψ:=rfl
@[simp] theorem Aw3(i j:Int)(L:UH):Yx ce lw L=ξ (.bl (decide (i<=j)),L):=rfl
@[simp] theorem Aw1(i j:Int)(L:UH):V0 ce lw L=ξ (.bl (decide (i < j)),L):=rfl
@[simp] theorem Aw0(i j:Int)(L:UH):Sf ce lw L=ξ (.bl (decide (j < i)),L):=rfl
@[simp] theorem Awz(i j:Int)(L:UH):Vq ce lw L=ξ (.bl (decide (j<=i)),L):=rfl
@[simp] theorem Sb(i j:Int)(L:UH):By ce lw L=ξ (.bl (i == j),L):=rfl
@[simp] theorem Aw2(i j:Int)(L:UH):Di ce lw L=ξ (.bl (!(i == j)),L):=rfl
@[simp] theorem Ayu(i j:Bool)(L:UH):By (.bl i) (.bl j) L=ξ (.bl (i == j),L):=rfl
@[simp] theorem Axe(i j:Bool)(L:UH):Di (.bl i) (.bl j) L=ξ (.bl (!(i == j)),L):=rfl
@[simp] theorem Azk(i j:Bool)(L:UH):Rj false (.bl i) (.bl j) L=ξ (.bl (i == j),L):=rfl
@[simp] theorem Rw(l:aa)(i:Int)(L:UH):Al ox ce L=(L2.atI l i).map fun z=>(z,L):=rfl
@[simp] theorem semIx_ref(n:Nat)(i:Int)(L:UH):Al di ce L=(sy).bind fun l=>(L2.atI l i).map fun z=>(z,L):=rfl
@[simp] theorem truU_bl(b:Bool)(L:UH):Qh (.bl b) L=ξ b:=rfl
variable {L:UH}{n:Nat}{us:aa}
theorem Aj(h:L[n]? = Ξ us):sy=mw:=by unfold Aq;rw[h]
theorem Fj(h:L[n]? = Ξ us):Fy L n=mw:=by unfold Fy;rw[h]
theorem small_of(h:n<=16777216):small n=true:=by unfold small sizeLine;exact decide_eq_true Ze
variable {i:Int}
theorem Ny{β:Type}{l:ed}(h0:0<=i)(h:i < l.length):L2.atI l i=l[i.toNat]?:=by
 unfold L2.atI ixN;rw[if_pos h0,if_pos h];rfl
variable {j:Int}
theorem Ol(h1:-1000000000000000000<=i)(h2:i<=1000000000000000000):Jg i j=true:=by
 unfold Jg;simp only[qV,cB,decide_eq_true_eq];left;constructor <;> omega
theorem Qm(h1:-1000000000000000000<=j)(h2:j<=1000000000000000000):Jg i j=true:=by
 unfold Jg;simp only[qV,cB,decide_eq_true_eq];right;constructor <;> omega
theorem Uh(h1:0 < j)(h2:j < 1152921504606846976):X8 i j=true:=by
 unfold X8;simp only[cB,decide_eq_true_eq];exact ⟨h1,h2⟩
def Aei(g:FG)(body:FS)(u:U)(δ:UE)(L:UH)(R:UE->UH->Prop):Prop:=∃ δ1 L1,g u δ L=ξ (δ1,L1)/\∃ δ2 L2,(body δ1 L1=ξ (.nx δ2,L2)\/body δ1 L1=ξ (.ct δ2,L2))/\R δ2 L2
variable {it:IU}{g:FG}{body:FS}
theorem Vz{it:IU}{g:FG}{body:FS}{us:aa}(P:Nat->UE->UH->Prop)(hat:∀ k δ L,k<=us.length->P k δ L->it.at k L=ξ us[k]?)
  (step:∀ k u δ L,us[k]? = br->P k δ L->Aei g body u δ L (P (k+1))) :
  ∀ (m k:Nat) (δ:UE) (L:UH),us.length < m+k->k<=us.length->P k δ L->∃ δ' L',My it g body m k δ L=ξ (.nx δ',L')/\P us.length δ' L'
 | 0,k,δ,L,h1,h2,_=>by omega
 | m+1,k,δ,L,h1,h2,hP=>by
  have hk:=hat k δ L h2 hP;unfold My;rw[hk];cases hu:us[k]? with
  | none=>
   have:k=us.length:=by have:=cJ.mp hu;omega
   subst this;exact ⟨δ,L,rfl,hP⟩
  | some u=>
   have hlt:k < us.length:=(aI.mp hu).1;obtain ⟨δ1,L1,e1,δ2,L2,e2,hP2⟩:=step k u δ L hu hP;obtain ⟨δ',L',e3,hP3⟩:=Vz P hat step m (k+1) δ2 L2 Ze Ze hP2;refine ⟨δ',L',?_,hP3⟩;rcases e2 with e2 | e2
   ·simp only[e1,aA,e2,e3]
   ·simp only[e1,aA,e2,e3]
variable {fi:FI}{δ:UE}{L0:UH}
theorem Lm(P:Nat->UE->UH->Prop)(hi:fi δ L=ξ (.seq us,L0))(h0:P 0 δ L0)(step:∀ k u δ L,us[k]? = br->P k δ L->Aei g body u δ L (P (k+1))) :
  ∃ δ' L',Fu fi g body δ L=ξ (.nx δ',L')/\P us.length δ' L':=by
 obtain ⟨δ',L',e,h⟩:=Vz (it:=.seq us) (g:=g) (body:=body) (us:=us) P (fun _ _ _ _ _=>rfl) step (us.length+1) 0 δ L0 Ze Ze h0;exact ⟨δ',L',by rw[Ag4,hi];exact e,h⟩
theorem Tn(P:Nat->UE->UH->Prop)(hi:fi δ L=ξ (di,L0))(h0:P 0 δ L0)(hl:∀ k δ L,P k δ L->sy=mw)(step:∀ k u δ L,us[k]? = br->P k δ L->Aei g body u δ L (P (k+1))) :
  ∃ δ' L',Fu fi g body δ L=ξ (.nx δ',L')/\P us.length δ' L':=by
 have hat:∀ k δ L,k<=us.length->P k δ L->(IU.ref n).at k L=ξ us[k]?:=fun k δ L _ hp=>by
  have:=hl k δ L hp;unfold Aq at this;unfold IU.at;simp only;split at this
  ·rename_i e;cases this;first | rw[e] | rfl
  ·rename_i e;cases this;first | rw[e] | rfl
  ·cases this
 have hsz:(IU.ref n).size L0=us.length:=by
  have:=hl 0 δ L0 h0;unfold Aq at this;unfold IU.size;simp only;split at this
  ·rename_i e;cases this;first | rw[e] | rfl
  ·rename_i e;cases this;first | rw[e] | rfl
  ·cases this
 obtain ⟨δ',L',e,h⟩:=Vz (it:=.ref n) (g:=g) (body:=body) (us:=us) P hat step (us.length+1) 0 δ L0 Ze Ze h0;exact ⟨δ',L',by rw[Ag4,hi];simp only[aA,hsz];exact e,h⟩
theorem Cq(h:sy=mw):Qo di L=η n:=by
 unfold Aq at h;unfold Qo;simp only;split at h
 ·rename_i e;first | rw[e] | rfl
 ·rename_i e;first | rw[e] | rfl
 ·cases h
variable {k:Nat}{u:U}
theorem Mm{lo:Int}(h:(Bo lo n)[k]? = br):k < n/\u = .int (lo+k):=by
 unfold Bo at h;rw[aX] at h;by_cases hk:k < n
 ·rw[gC hk] at h;simp at h;exact ⟨hk,h.symm⟩
 ·rw[cN (by simpa using hk)] at h;simp at h
theorem Lu{lo:Int}:(Bo lo n).length=n:=by simp[Bo]
@[simp] theorem Ays(g:FA)(δ:UE)(L:UH):Xx g δ L=(g δ L).bind fun p=>match p.1 with
 | [.ref n]=>(sx p.2).map fun _=>(.enm n,p.2)
 | _=>ψ:=rfl
@[simp] theorem Az7(g:FA)(δ:UE)(L:UH):A1l g δ L=(g δ L).bind fun p=>match p.1 with
 | [.ref n,.ref m]=>(sx p.2).bind fun _=>(Aq p.2 m).map fun _=>(.zip2 n m,p.2)
 | _=>ψ:=rfl
@[simp] theorem Az9(f:FE)(δ:UE)(L:UH):A0j f δ L=(tm).bind fun p=>match p.1 with | .ref n=>(sx p.2).map fun l=>(.ref p.2.length,p.2++[.lst l.reverse]) | .tup l=>ξ (.tup l.reverse,p.2) | _=>ψ:=rfl
@[simp] theorem Azq(g:FA)(δ:UE)(L:UH):Asu g δ L=(g δ L).bind fun p=>match p.1 with
 | [.int i,.int j]=>if (-(2 ^ 62)<=i/\i < 2 ^ 62)/\(-(2 ^ 62)<=j/\j < 2 ^ 62) then ξ (.seq (Bo i (j - i).toNat),p.2) else ψ
 | _=>ψ:=by first | rfl | (unfold Asu;rfl)
variable {tt:Option FT}{fe:FE}
theorem Vx(P:Nat->aa->UE->UH->Prop)(hat:∀ k acc δ L,k<=us.length->P k acc δ L->it.at k L=ξ us[k]?)
  (step:∀ k u acc δ L,us[k]? = br->P k acc δ L->∃ δ1 L1,g u δ L=ξ (δ1,L1)/\∃ b L2,Gz tt δ1 L1=ξ (b,L2)/\(b=true->∃ r L3,fe δ1 L2=ξ (r,L3)/\acc.length < 16777216/\P (k+1) (acc++[r]) δ1 L3)/\(b=false->P (k+1) acc δ1 L2)) :
  ∀ (m k:Nat) (acc:aa) (δ:UE) (L:UH),us.length < m+k->k<=us.length->P k acc δ L->∃ ys δ' L',Wx it g tt fe m k acc δ L=ξ (ys,L')/\P us.length ys δ' L'
 | 0,k,acc,δ,L,h1,h2,_=>by omega
 | m+1,k,acc,δ,L,h1,h2,hP=>by
  have hk:=hat k acc δ L h2 hP;unfold Wx;rw[hk];cases hu:us[k]? with
  | none=>
   have:k=us.length:=by have:=cJ.mp hu;omega
   subst this;exact ck acc δ L hP
  | some u=>
   have hlt:k < us.length:=(aI.mp hu).1;obtain ⟨δ1,L1,e1,b,L2,e2,h3,h4⟩:=step k u acc δ L hu hP;cases b with
   | true=>
    obtain ⟨r,L3,e3,hl,hP2⟩:=h3 rfl;obtain ⟨ys,δ',L',e4,hP3⟩:=Vx P hat step m (k+1) (acc++[r]) δ1 L3 Ze Ze hP2;refine ⟨ys,δ',L',?_,hP3⟩;have hz:decide (acc.length < sizeLine)=true:=decide_eq_true (by unfold sizeLine;omega);simp only[e1,aA,e2,e3,if_true,hz,e4]
   | false=>
    obtain ⟨ys,δ',L',e4,hP3⟩:=Vx P hat step m (k+1) acc δ1 L2 Ze Ze (h4 rfl);refine ⟨ys,δ',L',?_,hP3⟩;simp only[e1,aA,e2,e4,bS,if_false]
theorem Agk{ix:ly}{fi:FI}{it:IU}{g:FG}{tt:Option FT}{fe:FE}{us:aa}{δ:UE}{L L0:UH}(P:Nat->aa->UE->UH->Prop)(hi:fi δ L=ξ (it,L0))(hsz:us.length<=it.size L0)(h0:P 0 [] (Ga ix δ) L0)
  (hat:∀ k acc δ L,k<=us.length->P k acc δ L->it.at k L=ξ us[k]?)
  (step:∀ k u acc δ L,us[k]? = br->P k acc δ L->∃ δ1 L1,g u δ L=ξ (δ1,L1)/\∃ b L2,Gz tt δ1 L1=ξ (b,L2)/\(b=true->∃ r L3,fe δ1 L2=ξ (r,L3)/\acc.length < 16777216/\P (k+1) (acc++[r]) δ1 L3)/\(b=false->P (k+1) acc δ1 L2)) :
  ∃ ys δ' L',Bg ix fi g tt fe δ L=ξ (.ref L'.length,L'++[.lst ys])/\P us.length ys δ' L':=by
 obtain ⟨ys,δ',L',e,h⟩:=Vx P hat step (it.size L0+1) 0 [] (Ga ix δ) L0 Ze Ze h0;refine ⟨ys,δ',L',?_,h⟩;unfold Bg;simp only[hi,aA,e,aD]
theorem Hr(h:sy=mw):(IU.ref n).at k L=ξ us[k]?:=by
 unfold Aq at h;unfold IU.at;simp only;split at h
 ·rename_i e;cases h;first | rw[e] | rfl
 ·rename_i e;cases h;first | rw[e] | rfl
 ·cases h
theorem Ec(h:sy=mw):(IU.ref n).size L=us.length:=by
 unfold Aq at h;unfold IU.size;simp only;split at h
 ·rename_i e;cases h;first | rw[e] | rfl
 ·rename_i e;cases h;first | rw[e] | rfl
 ·cases h
noncomputable def enU(us:aa):aa:=us.mapIdx fun k u=>.tup [.int k,u]
theorem Av1(h:sy=mw):(IU.enm n).at k L=ξ (enU us)[k]?:=by
 show (sy).map _=_;rw[h];simp[enU]
theorem An8(h:sy=mw):(IU.enm n).size L=(enU us).length:=by
 show (match Aq L n with | some us=>us.length | none=>0)=_;rw[h];simp[enU]
noncomputable def Axm(us ws:aa):aa:=(us.zip ws).map fun p=>.tup [p.1,p.2]
variable {m:Nat}{ws:aa}
theorem size_zip(h:sy=mw)(h2:Aq L m=ξ ws):(IU.zip2 n m).size L=(Axm us ws).length:=by
 show (match Aq L n,Aq L m with | some us,ξ ws=>min us.length ws.length | _,_=>0)=_;rw[h,h2];simp[Axm]
theorem Bq{β:Type}{ix:ly}{fi:FI}{it:IU}{g:FG}{tt:Option FT}{fe:FE}{δ:UE}{L L0:UH}(as:ed)(rep:β->U)(f:β->Bool)(e:β->U)(E:UE->Prop)(hi:fi δ L=ξ (it,L0))(hsz:as.length<=it.size L0)(hl:as.length < 16777216)(h0:E (Ga ix δ))
  (hat:∀ k x,it.at k (L0++x)=ξ (as.map rep)[k]?)
  (step:∀ (a:β) δ x,a∈as->E δ->∃ δ1,g (rep a) δ (L0++x)=ξ (δ1,L0++x)/\E δ1/\∃ y,Gz tt δ1 (L0++x)=ξ (f a,L0++x++y)/\(f a=true->∃ z,fe δ1 (L0++x++y)=ξ (e a,L0++x++y++z))) :
  ∃ x,Bg ix fi g tt fe δ L=ξ (.ref (L0++x).length,L0++x++[.lst ((as.filter f).map e)]):=by
 obtain ⟨ys,δ',L',e1,⟨h1,h2,x,rfl⟩,h3⟩:=Agk (us:=as.map rep) (ix:=ix) (tt:=tt) (g:=g) (fe:=fe) (δ:=δ) (fun k acc δ L=>(acc=((as.take k).filter f).map e/\E δ/\∃ x,L=L0++x)/\acc.length<=k) hi (by simpa using hsz) ⟨⟨rfl,h0,[],Za⟩,Za⟩
  (fun k acc δ L _ zz=>by obtain ⟨⟨_,_,x,hx⟩,_⟩:=zz;rw[hx];exact hat k x)
  (fun k u acc δ L hu zz=>by
   obtain ⟨⟨ha,hE,x,hx⟩,hlen⟩:=zz;subst hx;rw[aX] at hu;obtain ⟨a,hk,rfl⟩:=aH.mp hu;have hk':=(aI.mp hk).1;obtain ⟨δ1,g1,E1,y,t1,r1⟩:=step a δ x (bT hk) hE;have ht:as.take (k+1)=as.take k++[a]:=by
    rw[eF,hk];rfl
   refine ⟨δ1,_,g1,f a,_,t1,fun hf=>?_,fun hf=>?_⟩
   ·obtain ⟨z,q⟩:=r1 hf;refine ⟨_,_,q,Ze,⟨?_,E1,x++y++z,Za⟩,by simp;omega⟩;rw[ha,ht];simp[hf]
   ·refine ⟨⟨?_,E1,x++y,Za⟩,Ze⟩;rw[ha,ht];simp[hf])
 refine ⟨x,?_⟩;rw[e1,h1];simp
theorem B6{x:UH}(h:sy=mw):sx (L++x)=mw:=by
 unfold Aq at h ⊢;cases hn:L[n]? with
 | none=>rw[hn] at h;cases h
 | some o=>rw[bH (aI.mp hn).1,hn];rw[hn] at h;exact h
noncomputable def Pl:Nat->U->Prop
 | _,.non=>True
 | _,.int _=>True
 | _,.str x=>qR x=true
 | n+1,.tup l=>∀ u∈l,Pl n u
 | _,_=>False
mutual
def pd:U->xH
 | .non=>.none
 | .bl b=>.bool b
 | .int i=>.int i
 | .str x=>.str x
 | .tup l=>.tuple (pds l)
 | .ref _=>.none
def pds:aa->List xH
 | []=>[]
 | u::r=>pd u::pds r
end
theorem Hq{l:aa}:Pl (n+1) ox↔∀ u∈l,Pl n u:=by rw[Pl]
theorem Td(ih:∀ u,Pl n u->toP L m u=ξ (pd u)):∀ l:aa,(∀ u∈l,Pl n u)->mapO (toP L m) l=ξ (pds l)
 | [],_=>rfl
 | u::r,h=>by
  simp only[mapO,ih u (h u (aS ..)),Td ih r (fun x hx=>h x vn),aA,aD,pds]
theorem Wc(L:UH):∀ (n m:Nat) (u:U),n < m->Pl n u->toP L m u=ξ (pd u)
 | n,0,u,h,_=>by omega
 | n,m+1,.non,_,_=>rfl
 | n,m+1,.int _,_,_=>rfl
 | n,m+1,.str _,_,_=>rfl
 | n,m+1,.bl _,_,h=>by cases n <;> exact absurd h (by simp[Pl])
 | n,m+1,.ref _,_,h=>by cases n <;> exact absurd h (by simp[Pl])
 | 0,m+1,.tup l,_,h=>absurd h (by simp[Pl])
 | n+1,m+1,.tup l,hm,h=>by
  have:=Td (L:=L) (n:=n) (m:=m) (fun u hu=>Wc L n m u Ze hu) l (Hq.mp h);show (mapO (toP L m) l).map xH.tuple=_;rw[this];rfl
theorem Ti(ih:∀ u,Pl n u->iO (pd u)=true/\jT (pd u)<=n):∀ l:aa,(∀ u∈l,Pl n u)->tV (pds l)=true/\wK (pds l)<=n
 | [],_=>⟨rfl,eS _⟩
 | u::r,h=>by
  obtain ⟨a1,a2⟩:=ih u (h u (aS ..));obtain ⟨b1,b2⟩:=Ti ih r (fun x hx=>h x vn);refine ⟨by simp[pds,tV,a1,b1],?_⟩;simp only[pds,wK];omega
theorem Us:∀ (n:Nat) (u:U),Pl n u->iO (pd u)=true/\jT (pd u)<=n
 | n,.non,_=>by simp[pd,iO,jT]
 | n,.int _,_=>by simp[pd,iO,jT]
 | n,.str x,h=>by
  have h':qR x=true:=by cases n <;> simpa[Pl] using h
  simp[pd,iO,jT,h']
 | n,.bl _,h=>by cases n <;> exact absurd h (by simp[Pl])
 | n,.ref _,h=>by cases n <;> exact absurd h (by simp[Pl])
 | 0,.tup l,h=>absurd h (by simp[Pl])
 | n+1,.tup l,h=>by
  obtain ⟨a,b⟩:=Ti (fun u hu=>Us n u hu) l (Hq.mp h);simp only[pd,iO,jT];exact ⟨a,Ze⟩
theorem Qg(ih:∀ u w,Pl n u->Pl n w->(eC (pd u) (pd w)=true↔u=w)):∀ l m:aa,(∀ u∈l,Pl n u)->(∀ u∈m,Pl n u)->(kP (pds l) (pds m)=true↔l=m)
 | [],[],_,_=>by simp[pds,kP]
 | [],_::_,_,_=>by simp[pds,kP]
 | _::_,[],_,_=>by simp[pds,kP]
 | u::l,w::m,h1,h2=>by
  simp only[pds,kP,cB,ih u w (h1 u (aS ..)) (h2 w (aS ..)),Qg ih l m (fun x hx=>h1 x vn) (fun x hx=>h2 x vn),kX]
theorem Aa1:∀ (n:Nat) (u w:U),Pl n u->Pl n w->(eC (pd u) (pd w)=true↔u=w)
 | n,.bl _,_,h,_=>by cases n <;> exact absurd h (by simp[Pl])
 | n,.ref _,_,h,_=>by cases n <;> exact absurd h (by simp[Pl])
 | n,_,.bl _,_,h=>by cases n <;> exact absurd h (by simp[Pl])
 | n,_,.ref _,_,h=>by cases n <;> exact absurd h (by simp[Pl])
 | 0,.tup _,_,h,_=>absurd h (by simp[Pl])
 | 0,_,.tup _,_,h=>absurd h (by simp[Pl])
 | n+1,.tup l,.tup m,h1,h2=>by
  simp only[pd,eC,U.tup.injEq];exact Qg (fun u w=>Aa1 n u w) l m (Hq.mp h1) (Hq.mp h2)
 | n,.non,.non,_,_=>by simp[pd,eC]
 | n,.non,.int _,_,_=>by simp[pd,eC]
 | n,.non,.str _,_,_=>by simp[pd,eC]
 | n+1,.non,.tup _,_,_=>by simp[pd,eC]
 | n,.int _,.non,_,_=>by simp[pd,eC]
 | n,.int _,.int _,_,_=>by simp[pd,eC]
 | n,.int _,.str _,_,_=>by simp[pd,eC]
 | n+1,.int _,.tup _,_,_=>by simp[pd,eC]
 | n,.str _,.non,_,_=>by simp[pd,eC]
 | n,.str _,.int _,_,_=>by simp[pd,eC]
 | n,.str _,.str _,_,_=>by simp[pd,eC]
 | n+1,.str _,.tup _,_,_=>by simp[pd,eC]
 | n+1,.tup _,.non,_,_=>by simp[pd,eC]
 | n+1,.tup _,.int _,_,_=>by simp[pd,eC]
 | n+1,.tup _,.str _,_,_=>by simp[pd,eC]
noncomputable def eqB(u w:U):Bool:=eC (pd u) (pd w)
variable {w:U}
theorem Ahu(h1:Pl 6 u)(h2:Pl 6 w):eqB u w=true↔u=w:=Aa1 6 u w h1 h2
theorem Wa(h1:Pl 6 u):eqB u u=true:=(Ahu h1 h1).mpr rfl
theorem An3(L:UH)(h1:Pl 6 u)(h2:Pl 6 w):eqP u w L=ξ (eqB u w):=by
 obtain ⟨a1,a2⟩:=Us 6 u h1;obtain ⟨b1,b2⟩:=Us 6 w h2;have s1:iF (pd u)=true:=by unfold iF;rw[a1];simp;omega
 have s2:iF (pd w)=true:=by unfold iF;rw[b1];simp;omega
 unfold eqP;simp only[Wc L 6 8 u Zb h1,Wc L 6 8 w Zb h2,aA,s1,s2,and_self,if_true,eqB]
theorem Ace(L:UH)(h1:Pl 6 u)(h2:Pl 6 w):By u w L=ξ (.bl (eqB u w),L):=by unfold By;rw[An3 L h1 h2];rfl
theorem Abo(L:UH)(h1:Pl 6 u)(h2:Pl 6 w):Di u w L=ξ (.bl (!eqB u w),L):=by unfold Di;rw[An3 L h1 h2];rfl
noncomputable def Aap(us ws:aa):Bool:=kP (pds us) (pds ws)
theorem U3(h1:∀ u∈us,Pl 6 u)(h2:∀ u∈ws,Pl 6 u):Aap us ws=true↔us=ws:=Qg (fun u w=>Aa1 6 u w) us ws h1 h2
theorem Aak(e1:sy=mw)(e2:Aq L m=ξ ws)(h1:∀ u∈us,Pl 6 u)(h2:∀ u∈ws,Pl 6 u):eqP di (.ref m) L=ξ (Aap us ws):=by
 obtain ⟨a1,a2⟩:=Ti (Us 6) us h1;obtain ⟨b1,b2⟩:=Ti (Us 6) ws h2;have s1:iF (.list (pds us))=true:=by unfold iF;simp[iO,jT,a1];omega
 have s2:iF (.list (pds ws))=true:=by unfold iF;simp[iO,jT,b1];omega
 have t1:toP L 8 di=ξ (.list (pds us)):=by
  show (sy).bind (fun l=>(mapO (toP L 7) l).map yO)=_;rw[e1];simp only[aA,Td (fun u hu=>Wc L 6 7 u Zb hu) us h1,aD]
 have t2:toP L 8 (.ref m)=ξ (.list (pds ws)):=by
  show (Aq L m).bind (fun l=>(mapO (toP L 7) l).map yO)=_;rw[e2];simp only[aA,Td (fun u hu=>Wc L 6 7 u Zb hu) ws h2,aD]
 unfold eqP;simp only[t1,t2,aA,s1,s2,and_self,if_true,eC,Aap]
theorem Yq(e1:sy=mw)(e2:Aq L m=ξ ws)(h1:∀ u∈us,Pl 6 u)(h2:∀ u∈ws,Pl 6 u):By di (.ref m) L=ξ (.bl (Aap us ws),L):=by unfold By;rw[Aak e1 e2 h1 h2];rfl
theorem Aji(e1:sy=mw)(e2:Aq L m=ξ ws)(h1:∀ u∈us,Pl 6 u)(h2:∀ u∈ws,Pl 6 u):Di di (.ref m) L=ξ (.bl (!Aap us ws),L):=by unfold Di;rw[Aak e1 e2 h1 h2];rfl
theorem Pl.int(n:Nat)(i:Int):Pl n ce:=by cases n <;> exact trivial
theorem Arl{g:FA}{L':UH}(hg:g δ L=ξ ([lw],L'))(h0:0<=j)(h1:j < 1000000):Gv g δ L=ξ (.seq (su 0),L'):=by
 rw[Amv,hg];simp only[aA];rw[if_pos ⟨Ze,Ze⟩]
theorem Rg{g:FA}{L':UH}(hg:g δ L=ξ ([.int n],L'))(h1:n < 1000000):Gv g δ L=ξ (.seq (Bo 0 n),L'):=by
 have:=Arl hg Ze Ze;rwa [eE] at this
end MR
namespace Lw
open PySem L2 MR
variable {us:aa}
theorem Ye{it:IU}{g:FG}{body:FS}(P:Nat->UE->UH->Prop)(R:Nat->UH->Prop)(stop:Nat->Bool)(val:Nat->U)(hat:∀ k δ L,k<=us.length->P k δ L->it.at k L=ξ us[k]?)
  (step:∀ k u δ L,us[k]? = br->P k δ L->∃ δ1 L1,g u δ L=ξ (δ1,L1)/\(stop k=true->∃ L2,body δ1 L1=ξ (.rt (val k),L2)/\R k L2)/\(stop k=false->∃ δ2 L2,body δ1 L1=ξ (.nx δ2,L2)/\P (k+1) δ2 L2)) :
  ∀ (m k:Nat) (δ:UE) (L:UH),us.length < m+k->k<=us.length->P k δ L ->
   (∃ j,k<=j/\j < us.length/\stop j=true/\(∀ i,k<=i->i < j->stop i=false)/\∃ L',My it g body m k δ L=ξ (.rt (val j),L')/\R j L')\/((∀ i,k<=i->i < us.length->stop i=false)/\∃ δ' L',My it g body m k δ L=ξ (.nx δ',L')/\P us.length δ' L')
 | 0,k,δ,L,h,hk,_=>by omega
 | m+1,k,δ,L,h,hk,hP=>by
  have ha:=hat k δ L hk hP;unfold My;rw[ha];by_cases hlt:k < us.length
  ·rw[aC hlt];obtain ⟨δ1,L1,e1,s1,s2⟩:=step k _ δ L (aC hlt) hP;simp only[e1,aA];cases hs:stop k with
   | true=>
    obtain ⟨L2,e2,r⟩:=s1 hs;exact .inl ⟨k,be,hlt,hs,fun i h1 h2=>by omega,L2,by rw[e2];rfl,r⟩
   | false=>
    obtain ⟨δ2,L2,e2,p2⟩:=s2 hs;have ih:=Ye P R stop val hat step m (k+1) δ2 L2 Ze Ze p2;simp only[e2,aA];rcases ih with ⟨j,h1,h2,h3,h4,h5⟩ | ⟨h1,h2⟩
    ·refine .inl ⟨j,Ze,h2,h3,fun i i1 i2=>?_,h5⟩;by_cases q:i=k
     ·rw[q];exact hs
     ·exact h4 i Ze i2
    ·refine .inr ⟨fun i i1 i2=>?_,h2⟩;by_cases q:i=k
     ·rw[q];exact hs
     ·exact h1 i Ze i2
  ·have:k=us.length:=Ze
   subst this;rw[cN be];exact .inr ⟨fun i i1 i2=>by omega,δ,L,rfl,hP⟩
variable {δ:UE}{L:UH}
theorem Aqr{fi:FI}{g:FG}{body:FS}{us:aa}{it:IU}{δ:UE}{L L0:UH}(P:Nat->UE->UH->Prop)(R:Nat->UH->Prop)(stop:Nat->Bool)(val:Nat->U)(hi:fi δ L=ξ (it,L0))(hsz:us.length<=it.size L0)(hat:∀ k δ L,k<=us.length->P k δ L->it.at k L=ξ us[k]?)(h0:P 0 δ L0)
  (step:∀ k u δ L,us[k]? = br->P k δ L->∃ δ1 L1,g u δ L=ξ (δ1,L1)/\(stop k=true->∃ L2,body δ1 L1=ξ (.rt (val k),L2)/\R k L2)/\(stop k=false->∃ δ2 L2,body δ1 L1=ξ (.nx δ2,L2)/\P (k+1) δ2 L2)) :
   (∃ j,j < us.length/\stop j=true/\(∀ i,i < j->stop i=false)/\∃ L',Fu fi g body δ L=ξ (.rt (val j),L')/\R j L')\/((∀ i,i < us.length->stop i=false)/\∃ δ' L',Fu fi g body δ L=ξ (.nx δ',L')/\P us.length δ' L'):=by
 have:=Ye P R stop val hat step (it.size L0+1) 0 δ L0 Ze Ze h0;unfold Fu;rw[hi];simp only[aA];rcases this with ⟨j,h1,h2,h3,h4,h5⟩ | ⟨h1,h2⟩
 ·exact .inl ⟨j,h2,h3,fun i q=>h4 i Ze q,h5⟩
 ·exact .inr ⟨fun i q=>h1 i Ze q,h2⟩
structure Ex(d:Nat)(L L':UH):Prop where
 le:L.length<=L'.length
 at_:∀ i,i < L.length->i≠d->L'[i]? = L[i]?
theorem Ex.refl(d:Nat)(L:UH):Ex d L L:=⟨be,fun _ _ _=>rfl⟩
variable {d:Nat}
theorem Ex.trans{L1 L2:UH}(a:Ex d L L1)(b:Ex d L1 L2):Ex d L L2:=
 ⟨cC a.le b.le,fun i h1 h2=>by rw[b.at_ i (bI h1 a.le) h2,a.at_ i h1 h2]⟩
theorem Ex.new(d:Nat)(L:UH)(x:List HU):Ex d L (L++x):=⟨Za,fun i h _=>by rw[bH h]⟩
theorem Ex.put(d:Nat)(L:UH)(o:HU):Ex d L (L.set d o):=⟨Za,fun i _ h=>by rw[bF (eJ h)]⟩
variable {L':UH}{n:Nat}
theorem Ex.set(h:Ex d L L')(hn:L.length<=n)(o:HU):Ex d L (L'.set n o):=
 ⟨by rw[gF];exact h.le,fun i h1 h2=>by rw[bF Ze];exact h.at_ i h1 h2⟩
variable {i:Nat}
theorem Ex.get{o:HU}(h:Ex d L L')(e:L[i]? = ao)(hi:i≠d):L'[i]? = ao:=by
 rw[h.at_ i (aI.mp e).1 hi];exact e
def Gw(L L':UH):Prop:=∃ x,L'=L++x
theorem Gw.refl(L:UH):Gw L L:=⟨[],Za⟩
variable {M:UH}
theorem Gw.trans{L1:UH}(a:Gw L L1)(b:Gw L1 M):Gw L M:=by obtain ⟨x,rfl⟩:=a;obtain ⟨y,rfl⟩:=b;exact ⟨x++y,Za⟩
theorem Gw.new(L x:UH):Gw L (L++x):=cu x
theorem Gw.set(h:om)(hn:L.length<=n)(o:HU):Gw L (L'.set n o):=by
 obtain ⟨x,rfl⟩:=h;exact ⟨x.set (n - L.length) o,by rw[List.set_append_right _ _ hn]⟩
theorem Gw.le(h:om):L.length<=L'.length:=by obtain ⟨x,rfl⟩:=h;simp
theorem Gw.get(h:om){o:HU}(e:L[n]? = ao):L'[n]? = ao:=by
 obtain ⟨x,rfl⟩:=h;rw[bH (aI.mp e).1];exact e
theorem Gw.seq(h:om)(e:sy=mw):sx L'=mw:=by
 obtain ⟨x,rfl⟩:=h;exact B6 e
theorem Gw.ex(h:om)(d:Nat):Ex d L L':=by obtain ⟨x,rfl⟩:=h;exact Ex.new d L x
variable {l:aa}
theorem G5(u:U)(h:L[n]? = Ξ l)(hl:l.length < 16777216):B9 di [u] L=ξ (.non,ml n (l++[u])):=by
 show (Fy L n).bind _=_;rw[Fj h];simp only[aA];rw[if_pos (decide_eq_true (by unfold sizeLine;omega))]
theorem Ia(h:L[n]? = Ξ l):tyU "list" di L=true:=by simp[tyU,h]
theorem Mh(h:L[n]? = Ξ l):Bc [di] L=ξ (.int l.length,L):=by simp[Bc,lenU,Aj h]
theorem Ak{f g:FS}{δ':UE}(h:tm=ξ (.nx δ',L')):Az f g δ L=g δ' L':=by rw[fSeq_eq,h];rfl
theorem Ex.seq(h:Ex d L L')(hn:n≠d)(e:sy=mw):sx L'=mw:=by
 unfold Aq at e ⊢;cases hq:L[n]? with
 | none=>rw[hq] at e;cases e
 | some o=>rw[h.get hq hn];rw[hq] at e;exact e
def Mi:FS:=(Fb (Bn (f2 Vq (gg Lq 3) (gm Hm (ω 10) 18))) (a8 (f2 Bd (bz Q0 1 205) (gg Lq 3)) 1) (a8 (gm Ej (f2 Bd (bz Br 2 43) nr) 1999999871) 2))
def Adp:FS:=(Az (a8 (ω 0) 1) (jg (gm Bd (f2 Br (ω 17) (gg Bc 0)) 11) 2 (Fu (A7 (fSl Hi dg B8 (Ey (ω 63)))) (gN 3) Mi) (B0 (Cw (Δ 1 (Δ 2 (gf 0)))))))
def Qw:FN:=fnU 4 1 Adp
def Uc:FS:=(Az (A9 (gm Bd (nb 0 2) 1) (MR.gSub dg (ω 2))) (b9 (Fb (Bn (gm Sf (nb 0 0) 0)) (jg (f2 Ej (nb 0 0) dq) 2 (A9 (f2 Iv (nb 0 0) dq) (MR.gSub dg (ω 0))) (B0 v5)) Cy) (a8 (nb 0 2) 3) (jg (gm Ej (f2 Bd (f2 Bd (nb 0 1) (f2 Br (f2 Br (ω 70003) nr) nr)) (f2 Br (ω 5003) nr)) 2147483543) 4 (a8 (gm Ej (ae Br 4 (Ad 4)) 2147483497) 4) (B0 (f2 Ej (gm Iv (gm Ej (f2 Bd (bz Br 4 38333) (bz Br 3 67)) 2147483477) 13) dq)))))
def A0:FN:=fnU 5 2 Uc
def Gq:FE:=(vq Sa dq (a7 (ay 2 A0 2 (a7 (gg Bc 1)))))
def Gd:FS:=(Az (a8 (ae Al 2 (gm Ej (ae Bd 4 (Ad 8)) 26)) 9) (Hv (vq B9 nr (a7 (f2 Al (Cw (rh (ae Bd 9 (f2 Br (f2 Al (cj "qjx") (bz Iv 8 26)) (f2 Bd m8 (bz Ej 8 7)))) (f2 Bd (f2 Bd (f2 Bd (fSl Gj (Ad 5) B8 (Ey (Ad 6))) (Ad 9)) (f2 Al (cj "qjx") (bz Iv 8 26))) (fSl Gj (Ad 5) (Ey (Ad 6)) B8)))) (Ad 7))))))
def Fg:FE:=(ae Al 1 (ay 2 A0 2 (gf 26)))
def Yg:FS:=(Az (a8 (cj "abcdefghijklmnopqrstuvwxyz") 2) (jg (Cw (gi (cj "a") (cj "b") (gi (cj "ab") (cj "ba") (gi (cj "aba") (cj "put") (gi (cj "take") (cj "move") (gi (cj "stairs") (cj "longest") (Aa (cj "crowd") (a7 (cj "northeas"))))))))) 3 (a8 (j8 2 A0 (gf 26)) 4) (jg (Fm "str" Lv (cj "") (a7 (Bg [ψ,m6,ij] (Gv (gf 6)) d8 ψ Fg))) 5 (a8 (j8 2 A0 (gf 7)) 6) (jg (j8 2 A0 (gf 2)) 7 (a8 (fSl Gj nr (Ey (f2 Br (ω 12) (Ad 7))) B8) 3) (Az (Fu (Gv (gf 60)) (gN 8) Gd) (B0 (Bg [ψ,ξ 3,ij] (Gv (df 1)) d8 ψ Gq)))))))
def Ic:FN:=fnU 10 2 Yg
def Lr:FS:=(b9 (Fb (Bn (bz V0 1 2)) (B0 (f2 Nc (j8 2 A0 (a7 (f2 Al (Cw (Aa (ω 4) (gf 41))) dq))) (f2 Al (Cw (Aa m8 (gf 20))) dq))) Cy) (a8 (f2 Bd (f2 Br (j8 2 A0 (a7 (gm Hm (ω 10) 5))) (gm Hm (ω 10) 5)) (j8 2 A0 (a7 (gm Hm (ω 10) 5)))) 2) (B0 (ae Br 2 (f2 Al (Cw (rh m8 (P1 m8))) (j8 2 A0 (gf 2))))))
def D0:FN:=fnU 3 2 Lr
variable {b:Nat}
theorem Ar5{x:Int}(h:dW x<=b):x.natAbs < 2 ^ b:=by
 unfold dW at h;split at h
 ·rename_i h0;have:x=0:=by simpa using h0
  subst this;exact wL b
 ·rename_i h0;have hx:x.natAbs≠0:=by simp at h0;omega
  exact (wA hx).mp Ze
theorem Arq{x:Int}(h:x.natAbs < 2 ^ b):dW x<=b:=by
 unfold dW;split
 ·exact eS _
 ·rename_i h0;have hx:x.natAbs≠0:=by simp at h0;omega
  exact (wA hx).mpr h
structure Gdk(L:UH)(d:Nat)(B:Int):Prop where
 ex:∃ (a b c:Int),L[d]? = Ξ [.int a,.int b,.int c]/\0<=a/\0<=b/\b < 1000000000000/\0<=c/\c<=B
variable {B:Int}
theorem Gdk.lt(h:kq L B):d < L.length:=by
 obtain ⟨a,b,c,h1,_⟩:=h.ex;exact (aI.mp h1).1
theorem Gdk.mono{B':Int}(h:kq L B)(hb:B<=B'):kq L B':=by
 obtain ⟨a,b,c,h1,h2,h3,h4,h5,h6⟩:=h.ex;exact ⟨a,b,c,h1,h2,h3,h4,h5,Ze⟩
theorem Gdk.new(h:kq L B)(x:List HU):kq (L++x) B:=by
 obtain ⟨a,b,c,h1,h2⟩:=h.ex;exact ⟨a,b,c,by rw[bH (aI.mp h1).1];exact h1,h2⟩
theorem Gdk.set(h:kq L B)(hn:n≠d)(o:HU):kq (L.set n o) B:=by
 obtain ⟨a,b,c,h1,h2⟩:=h.ex;exact ⟨a,b,c,by rw[bF hn];exact h1,h2⟩
theorem Gdk.gw(h:kq L B)(g:om):kq L' B:=by obtain ⟨x,rfl⟩:=g;exact h.new x
theorem Dg{many:Int}(D:kq L B)(hB:B<=1000000000000)(h0:0 < many)(h1:many < 1000000000000000) :
  ∃ r L',A0 [.ref d,.int many] L=ξ (.int r,L')/\0<=r/\r < many/\kq L' (B+1)/\Ex d L L':=by
 obtain ⟨a,b,c,hd,ha,hb0,hb1,hc0,hc1⟩:=D.ex;have hdl:d < L.length:=(aI.mp hd).1;have q1:=Aj hd;have q2:=Fj hd;have md:∀ x:Int,0<=x % many/\x % many < many:=fun x=>⟨iD _ Ze,iP _ h0⟩
 have i0:∀ (x0 x1 x2:U),L2.atI [x0,x1,x2] 0=ξ x0:=fun _ _ _=>rfl
 have i1:∀ (x0 x1 x2:U),L2.atI [x0,x1,x2] 1=ξ x1:=fun _ _ _=>rfl
 have i2:∀ (x0 x1 x2:U),L2.atI [x0,x1,x2] 2=ξ x2:=fun _ _ _=>rfl
 have j0:ixN 3 0=ij:=rfl;have j2:ixN 3 2=m6:=rfl;have set1:∀ us:aa,Aq (ml d us) d=mw/\Fy (ml d us) d=mw:=fun us=>by
  have:(ml d us)[d]? = Ξ us:=bL hdl;exact ⟨Aj this,Fj this⟩
 have s1:=set1 [.int a,.int b,.int (c+1)];have keep:∀ x:Int,0<=x->kq (ml d [.int x,.int b,.int (c+1)]) (B+1)/\Ex d L (ml d [.int x,.int b,.int (c+1)]):=fun x hx=>
  ⟨⟨x,b,c+1,bL hdl,hx,hb0,hb1,Ze,Ze⟩,Ex.put d L _⟩
 by_cases hap:0 < a
 ·refine ⟨a % many,ml d [.int (a / many),.int b,.int (c+1)],?_,(md a).1,(md a).2,(keep (a / many) (wM Ze Ze)).1,(keep (a / many) (wM Ze Ze)).2⟩;simp[A0,fnU,Uc,q1,q2,i0,i1,i2,j0,j2,s1,hap,h0,Uh h0 Ze,bP]
 ·generalize hA:(b+70003 * (c+1) * (c+1)+5003 * (c+1)) % 2147483543=A;have hA0:0<=A/\A < 2147483543:=by rw[<- hA];exact ⟨iD _ Zb,iP _ Zb⟩
  generalize hC:A * A % 2147483497=Cn;have hC0:0<=Cn/\Cn < 2147483497:=by rw[<- hC];exact ⟨iD _ Zb,iP _ Zb⟩
  generalize hE:(Cn * 38333+(c+1) * 67) % 2147483477=En;have m1:Jg 70003 (c+1)=true:=Ol Zb Zb;have m2:∀ x:Int,Jg x (c+1)=true:=fun x=>Qm Ze Ze
  have m3:Jg A A=true:=Ol Ze Ze;have m4:∀ x:Int,Jg x 38333=true:=fun x=>Qm Zb Zb
  have m5:∀ x:Int,Jg x 67=true:=fun x=>Qm Zb Zb
  have d13:∀ x:Int,X8 x 13=true:=fun x=>Uh Zb Zb
  refine ⟨En / 13 % many,ml d [.int a,.int b,.int (c+1)],?_,(md _).1,(md _).2,(keep a ha).1,(keep a ha).2⟩;simp[A0,fnU,Uc,q1,q2,i0,i1,i2,j0,j2,s1,hap,h0,m1,m2,m3,m4,m5,d13,hA,hC,hE,bP]
variable {c:Nat}
theorem Adu{G X P:Nat}(hG:G < X)(hc:c < X)(hP:1<=P):G * P+c < 2 * (X * P):=by
 have e3:G * P<=X * P:=Nat.mul_le_mul_right _ (iZ hG);have e4:X * 1<=X * P:=Nat.mul_le_mul_left _ hP;rw[Nat.mul_one] at e4;generalize X * P=Z at *;generalize G * P=Y at *;omega
variable {W K p:Nat}
theorem Afy{G:Nat}(hG:G < 2 ^ (W+K))(hc:c < 2 ^ W):G * 2 ^ p+c < 2 ^ (W+(K+(p+1))):=by
 have e2:2 ^ W<=2 ^ (W+K):=rQ Ze Ze;have e1:2 ^ (W+(K+(p+1)))=2 * (2 ^ (W+K) * 2 ^ p):=by
  have:W+(K+(p+1))=1+((W+K)+p):=Ze
  rw[this,Nat.pow_add 2 1,Nat.pow_add 2 (W+K) p,Nat.pow_one]
 rw[e1];exact Adu hG (bI hc e2) Nat.one_le_two_pow
variable {G cell:Int}
theorem Akf(h0:0<=G):(G * 2 ^ p+(cell.natAbs:Int)).natAbs=G.natAbs * 2 ^ p+cell.natAbs:=by
 have hGn:G=(G.natAbs:Int):=Ze
 have:G * 2 ^ p+(cell.natAbs:Int)=((G.natAbs * 2 ^ p+cell.natAbs:Nat):Int):=by
  rw[Int.natCast_add,Int.natCast_mul,Int.natCast_pow,<- hGn];rfl
 rw[this,Int.natAbs_natCast]
theorem Afo(h0:0<=G)(hG:G.natAbs < 2 ^ (W+K))(hc:cell.natAbs < 2 ^ W):0<=G * 2 ^ p+(cell.natAbs:Int)/\(G * 2 ^ p+(cell.natAbs:Int)).natAbs < 2 ^ (W+(K+(p+1))):=by
 refine ⟨Int.add_nonneg (Int.mul_nonneg h0 (Int.pow_nonneg Zb)) Ze,?_⟩;rw[Akf h0];exact Afy hG hc
theorem Ap5(G p:Int)(L:UH):Q0 (.int G) (.int p) L=if Aby G p=true then ξ (.int (G * 2 ^ p.toNat),L) else ψ:=rfl
theorem Aw9:(2:Int) ^ 27=134217728:=Zd
theorem Awp(hG:G.natAbs < 2 ^ b)(hb:b<=100000000)(L:UH):Q0 (.int G) (.int 205) L=ξ (.int (G * 2 ^ 205),L):=by
 have:=Arq hG;have hsz:Aby G 205=true:=by
  unfold Aby;rw[cB];refine ⟨decide_eq_true Ze,decide_eq_true ?_⟩;rw[Aw9];omega
 have h205:(205:Int).toNat=205:=rfl;rw[Ap5,if_pos hsz,h205]
theorem Asz(L:UH):Hm (.int 10) (.int 18) L=ξ (.int 1000000000000000000,L):=by
 have p:Y0 10 18=true:=rfl;simp[p]
theorem Ae2(cell:Int)(L:UH):Lq [.int cell] L=ξ (.int (cell.natAbs:Int),L):=by
 show ξ (U.int (if cell < 0 then -cell else cell),L)=_;have:(if cell < 0 then -cell else cell)=(cell.natAbs:Int):=by split <;> omega
 rw[this]
theorem Ass(i j:Int)(L:UH):Vq ce lw L=ξ (.bl (decide (j<=i)),L):=rfl
def Acw(sh pw:S2)(ab:SC):FS:=(Fb (Bn (f2 Vq (gg ab 3) (gm pw (ω 10) 18))) (a8 (f2 Bd (bz sh 1 205) (gg ab 3)) 1) (a8 (gm Ej (f2 Bd (bz Br 2 43) nr) 1999999871) 2))
theorem Adi:Mi=Acw Q0 Hm Lq:=rfl
theorem Aoa{sh pw:S2}{ab:SC}{G2 b ca E:Int}(x0:az)(hab:ab [.int cell] L=ξ (.int ca,L))(hp:pw (.int 10) (.int 18) L=ξ (.int E,L))(hsh:sh (.int G) (.int 205) L=ξ (.int G2,L))(h:E<=ca):Acw sh pw ab [x0,χ G,χ b,χ cell] L=ξ (.nx [x0,χ (G2+ca),χ b,χ cell],L):=by
 have hge:Vq (.int ca) (.int E) L=ξ (eo,L):=by
  rw[Ass,decide_eq_true h]
 unfold Acw;simp only[fIfS_eq,fTest_eq,f2_eq,fCall_eq,fCons_eq,fNil_eq,fC_eq,fVar_eq,aY,aP,bD,aD,aA,hab,hp,hge,if_true,fAsg_eq,hsh,semAdd_int,gN_eq,aZ,bA]
theorem Ajy{sh pw:S2}{ab:SC}{b ca E:Int}(x0:az)(hab:ab [.int cell] L=ξ (.int ca,L))(hp:pw (.int 10) (.int 18) L=ξ (.int E,L))(h:¬ E<=ca):Acw sh pw ab [x0,χ G,χ b,χ cell] L=ξ (.nx [x0,χ G,χ ((b * 43+cell) % 1999999871),χ cell],L):=by
 have m43:Br (.int b) (.int 43) L=ξ (.int (b * 43),L):=by
  have:=Qm (i:=b) (j:=43) Zb Zb;simp only[Br,this,if_true]
 have hge:Vq (.int ca) (.int E) L=ξ (gq,L):=by
  rw[Ass,decide_eq_false h]
 have hmd:Ej (.int (b * 43+cell)) (.int 1999999871) L=ξ (.int ((b * 43+cell) % 1999999871),L):=Za
 unfold Acw;simp only[fIfS_eq,fTest_eq,f2_eq,fCall_eq,fCons_eq,fNil_eq,fC_eq,fVar_eq,aY,aP,bD,aD,aA,hab,hp,hge,bS,if_false,fAsg_eq,m43,semAdd_int,hmd,gN_eq,aZ,bA]
theorem Aje{L:UH}{G b cell:Int}{W K:Nat}(h0:0<=G)(hG:G.natAbs < 2 ^ (W+K))(hb0:0<=b)(hb1:b < 1000000000000)(hc:cell.natAbs < 2 ^ W)(hW:W<=1048576)(hk:K<=100000)(x0:az) :
  ∃ (G' b':Int),Mi [x0,χ G,χ b,χ cell] L=ξ (.nx [x0,χ G',χ b',χ cell],L)/\0<=G'/\G'.natAbs < 2 ^ (W+(K+(205+1)))/\0<=b'/\b' < 1000000000000:=by
 by_cases h:(1000000000000000000:Int)<=(cell.natAbs:Int)
 ·have hnx:=Afo (p:=205) h0 hG hc;exact ⟨_,b,by rw[Adi];exact Aoa x0 (Ae2 cell L) (Asz L) (Awp hG Ze L) h,hnx.1,hnx.2,hb0,hb1⟩
 ·exact ⟨G,_,by rw[Adi];exact Ajy x0 (Ae2 cell L) (Asz L) h,h0,bI hG (rQ Zb Ze),iD _ Zb,Int.lt_trans (iP _ Zb) Zb⟩
theorem Ajq(ns:Λ)(L:UH)(n:Nat)(hn:L[n]? = ξ (.ro ie))(hl:ns.length<=63)(hW:W<=1048576)(hb:∀ c∈ns,c.natAbs < 2 ^ W) :
  ∃ d L',Qw [di] L=ξ (.ref d,L')/\kq L' 0/\om:=by
 have hs:sy=ξ ie:=by unfold Aq;rw[hn]
 have hlen:Bc [di] L=ξ (.int ns.length,L):=by simp[Bc,lenU,hs]
 have m17:Br (.int 17) (.int (ns.length:Nat)) L=ξ (.int (17 * (ns.length:Int)),L):=by
  have:=Ol (i:=17) (j:=(ns.length:Int)) Zb Zb;simp only[Br,this,if_true]
 have s1:(a8 (ω 0) 1) [η n,ψ,ψ,ψ] L=ξ (.nx [η n,χ 0,ψ,ψ],L):=rfl;have s2:(a8 (gm Bd (f2 Br (ω 17) (gg Bc 0)) 11) 2) [η n,χ 0,ψ,ψ] L=ξ (.nx [η n,χ 0,χ (17 * (ns.length:Int)+11),ψ],L):=by
  simp only[f2_eq,fCall_eq,fCons_eq,fNil_eq,fC_eq,fVar_eq,aY,aP,bD,aD,aA,hlen,m17,fAsg_eq,semAdd_int,gN_eq,aZ,bA]
 have hcut:W5 ie ψ (ξ 63)=ie:=by
  unfold W5;rw[HT.Al2];have h63:(63:Int)=((63:Nat):Int):=rfl;rw[h63,HT.Ahg,rR,tW];exact jS (by rw[aL];omega)
 have hsl:Hi di ψ (ξ 63) L=ξ (cf,L++[.lst ie]):=by
  simp only[Hi,hs,aD,hcut]
 have hq:(L++[HU.lst ie])[L.length]? = Ξ ie:=Za
 have hi:(A7 (fSl Hi dg B8 (Ey (ω 63)))) [η n,χ 0,χ (17 * (ns.length:Int)+11),ψ] L=ξ (cf,L++[.lst ie]):=by
  simp only[C2,fSl_eq,fNoPart_eq,fPart_eq,fC_eq,fVar_eq,aP,bD,aD,aA,hsl,Cq (Aj hq)]
 obtain ⟨δ',L',e,P⟩:=Tn (us:=ie) (body:=Mi) (g:=gN 3)
  (fun k δ' L'=>∃ (G b:Int) (y3:az),δ'=[η n,χ G,χ b,y3]/\L'=L++[HU.lst ie]/\0<=G/\G.natAbs < 2 ^ (W+206 * k)/\0<=b/\b < 1000000000000)
  hi ⟨0,17 * (ns.length:Int)+11,ψ,rfl,rfl,Zb,wL _,Ze,Ze⟩
  (fun k δ M ⟨_,_,_,_,hM,_⟩=>by rw[hM];exact Aj hq)
  (fun k u δ M hu ⟨G,b,y3,hδ,hM,g0,g1,b0,b1⟩=>by
   subst hδ;rw[aX] at hu;obtain ⟨cell,hcell,rfl⟩:=aH.mp hu;have hk:=(aI.mp hcell).1;obtain ⟨G',b',e1,r1,r2,r3,r4⟩:=Aje (L:=M) g0 g1 b0 b1 (hb _ (bT hcell)) hW Ze (η n);have hk6:206 * (k+1)=206 * k+(205+1):=Ze
   rw[<- hk6] at r2;exact ⟨[η n,χ G,χ b,χ cell],M,rfl,_,M,.inl e1,G',b',_,rfl,hM,r1,r2,r3,r4⟩)
 obtain ⟨G,b,y3,hδ,hM,g0,g1,b0,b1⟩:=P;rw[hδ] at e;have sm3:∀ x y z:U,small [x,y,z].length=true:=fun _ _ _=>small_of (by show 3<=16777216;decide)
 refine ⟨L'.length,L'++[.lst [.int G,.int b,.int 0]],?_,⟨G,b,0,Za,g0,b0,b1,Zb,Zb⟩,by rw[hM];exact (gl).trans gl⟩
 unfold Qw fnU Adp;simp only[aR,bG,if_true,aQ,bY,bP,gT,fL];rw[mf,Ak s2,Ak e,fRet_eq];simp only[fLst_eq,fCons_eq,fC_eq,fNil_eq,fVar_eq,aY,aP,bD,aA,aD];rw[if_pos (sm3 _ _ _)];rfl
theorem X9{kind:Int}(D:kq L B)(hB:B<=100000000000)(hw:kind=0\/kind=1\/kind=2) :
  ∃ r L',D0 [.ref d,.int kind] L=ξ (.int r,L')/\kq L' (B+3)/\Ex d L L':=by
 have hdl:=D.lt;rcases hw with rfl | rfl | rfl
 ·have q0:Aq (L++[HU.lst [.int 4,.int 41]]) L.length=ξ [.int 4,.int 41]:=Aj Za;have i0:L2.atI [U.int 4,.int 41] 0=χ 4:=rfl;have i1:L2.atI [U.int 1,.int 20] 0=χ 1:=rfl;obtain ⟨r,L1,e1,a1,b1,D1,x1⟩:=Dg (many:=4) (D.new [HU.lst [.int 4,.int 41]]) Ze Zb Zb;have q1:Aq (L1++[HU.lst [ip,.int 20]]) L1.length=ξ [ip,.int 20]:=Aj Za;exact ⟨r - 1,L1++[HU.lst [ip,.int 20]],by simp[D0,fnU,Lr,small_of,q0,i0,e1,q1,i1,bP],(D1.new _).mono Ze,((Ex.new d L _).trans x1).trans (Ex.new d L1 _)⟩
 ·have q0:Aq (L++[HU.lst [.int 4,.int 41]]) L.length=ξ [.int 4,.int 41]:=Aj Za;have i0:L2.atI [U.int 4,.int 41] 1=χ 41:=rfl;have i1:L2.atI [U.int 1,.int 20] 1=χ 20:=rfl;obtain ⟨r,L1,e1,a1,b1,D1,x1⟩:=Dg (many:=41) (D.new [HU.lst [.int 4,.int 41]]) Ze Zb Zb;have q1:Aq (L1++[HU.lst [ip,.int 20]]) L1.length=ξ [ip,.int 20]:=Aj Za;exact ⟨r - 20,L1++[HU.lst [ip,.int 20]],by simp[D0,fnU,Lr,small_of,q0,i0,e1,q1,i1,bP],(D1.new _).mono Ze,((Ex.new d L _).trans x1).trans (Ex.new d L1 _)⟩
 ·obtain ⟨r1,L1,e1,a1,b1,D1,x1⟩:=Dg (many:=100000) D Ze Zb Zb;obtain ⟨r2,K2,e2,a2,b2,D2,x2⟩:=Dg (many:=100000) D1 Ze Zb Zb;obtain ⟨r4,L4,e4,a4,b4,D4,x4⟩:=Dg (many:=2) (D2.new [HU.lst [ip,.int (-1)]]) Ze Zb Zb;have q4:Aq L4 K2.length=ξ [ip,.int (-1)]:=Aj (x4.get (i:=K2.length) Za (by have:=D2.lt;omega));have hs:∃ sg:Int,L2.atI [U.int 1,.int (-1)] r4=χ sg/\(sg=1\/sg = -1):=by
   have:r4=0\/r4=1:=Ze
   rcases this with rfl | rfl
   ·exact gu 1 jc
   ·exact ⟨-1,rfl,.inr rfl⟩
  obtain ⟨sg,hs,hsg⟩:=hs;have p5:Y0 10 5=true:=rfl;have m1:Jg r1 100000=true:=Qm Zb Zb;have m2:Jg (r1 * 100000+r2) sg=true:=Ol Ze Ze;refine ⟨(r1 * 100000+r2) * sg,L4,?_,D4.mono Ze,x1.trans (x2.trans ((Ex.new d K2 _).trans x4))⟩;simp[D0,fnU,Lr,p5,e1,m1,e2,small_of,e4,q4,hs,m2,bP]
theorem Au6{i:Int}(h:L[n]? = Ξ l)(h0:0<=i)(h1:i < l.length)(hs:l.length < 1000000):Sa di [ce] L=ξ (l[i.toNat]'(by omega),ml n (l.eraseIdx i.toNat)):=by
 have hk:seqIndex? i l.length=ξ i.toNat:=by unfold seqIndex?;simp;omega
 have hg:l[i.toNat]? = ξ (l[i.toNat]'(by omega)):=aC Ze;simp only[Sa,Fj h,aA,hk,hg,aD];rw[if_pos ⟨Ze,Ze⟩]
theorem Xb{β γ:Type}(f:β->γ)(l:ed)(i:Nat):(l.map f).eraseIdx i=(l.eraseIdx i).map f:=by
 rw[mB,mB,dF,sJ,sK]
theorem Wb{β:Type}:∀ (l:ed) (i:Nat) (h:i < l.length),(l[i]'h::l.eraseIdx i).Perm l
 | a::l,0,_=>by simp
 | a::l,i+1,h=>by
  have ih:=Wb l i (by simpa using h);simp only[List.getElem_cons_succ,List.eraseIdx_cons_succ];exact (List.Perm.swap _ _ _).trans (ih.cons a)
theorem Akk{β:Type}(rep:β->U){l:ed}(D:kq L B)(hB:B<=1000000000)(hd:n≠d)(h:L[n]? = Ξ (l.map rep))(hl:0 < l.length)(hs:l.length < 1000)(x0:az) :
  ∃ (r:β) (L':UH) (l':ed),(vq Sa dq (a7 (ay 2 A0 2 (a7 (gg Bc 1))))) [x0,η n,dv] L=ξ (rep r,L')/\kq L' (B+1)/\L'[n]? = Ξ (l'.map rep)/\l'.length+1=l.length/\(∀ L0,Ex d L0 L->L0.length<=n->Ex d L0 L')/\(r::l').Perm l:=by
 obtain ⟨i,L1,e1,i0,i1,D1,x1⟩:=Dg (many:=((l.map rep).length:Nat)) D Ze (by simp;omega) (by simp;omega);have h':L1[n]? = Ξ (l.map rep):=x1.get h hd;have hi:i < l.length:=by simpa using i1
 have hp:=Au6 h' i0 i1 (by simp;omega);refine ⟨l[i.toNat]'(by omega),L1.set n (.lst ((l.map rep).eraseIdx i.toNat)),l.eraseIdx i.toNat,?_,D1.set hd _,?_,?_,fun L0 x0 hn=>(x0.trans x1).set hn _,Wb l i.toNat Ze⟩
 ·have ty:=Ia h;have e1':=e1;simp only[aL] at e1';simp[ty,Mh h,e1',hp]
 ·rw[bL (by have:=(aI.mp h').1;exact this)];rw[Xb]
 ·rw[List.length_eraseIdx,if_pos Ze];omega
def Low(s:Str):Prop:=∀ c∈s.cps.toList,97<=c/\c<=122
theorem Low.ok{s:Str}(h:Low s):qR s=true:=by
 unfold qR;rw[Array.all_eq_true];intro i hi;have:=h (s.cps[i]) Za;exact decide_eq_true Ze
theorem Low.app{a b:Str}(ha:Low a)(hb:Low b):Low (a++b):=by
 intro c hc;rw[Str.cps_append,kK,cQ] at hc;exact hc.elim (ha c) (hb c)
theorem Low.slice{x:Str}(h:Low x)(lo hi:bf):Low (gR x lo hi):=by
 unfold gR;split
 ·exact h
 ·intro c hc;simp only[iK] at hc;obtain ⟨i,_,hi⟩:=hc;exact h c (by rw[Array.mem_toList_iff];exact Array.mem_of_getElem? hi)
theorem Low.fold(g:Str)(hg:Low g):∀ (ys:Φ) (acc:ei),(∀ y∈ys,Low y)->(∀ c∈acc.toList,97<=c/\c<=122)->∀ c∈(ys.foldl (fun acc p=>acc++g.cps++p.cps) acc).toList,97<=c/\c<=122
 | [],acc,_,h=>h
 | y::ys,acc,hy,h=>by
  rw[nC];refine Low.fold g hg ys _ (fun z hz=>hy z (oq hz)) ?_;intro c hc;rw[kK,kK,cQ,cQ] at hc;rcases hc with (hc | hc) | hc
  ·exact h c hc
  ·exact hg c hc
  ·exact hy y (aS ..) c hc
noncomputable def abc:Str := "abcdefghijklmnopqrstuvwxyz"
theorem Aat:abc.cps.toList.length=26:=Zd
theorem Ym:small abc.length=true:=small_of (by show abc.cps.size<=16777216;have:=Aat;simp only[cR] at this;omega)
noncomputable def one(c:Nat):Str:=⟨#[c]⟩
theorem Low.one(h:97<=c/\c<=122):Low (Lw.one c):=by
 intro x hx;have:x=c:=by simpa[Lw.one] using hx
 rw[this];exact h
theorem Low.mul(h:97<=c/\c<=122)(j:Int)(h0:1<=j)(h1:j<=7):Low (kT (Lw.one c) j):=by
 intro x hx;have:j=1\/j=2\/j=3\/j=4\/j=5\/j=6\/j=7:=Ze
 have:x=c:=by rcases this with rfl | rfl | rfl | rfl | rfl | rfl | rfl <;> simp[Lw.one,kT,xD,xX,bP] at hx <;> omega
 rw[this];exact h
theorem one_len(c:Nat):(pk).length=1:=rfl
theorem Agl:Low abc:=by unfold Low;lk
theorem Aus{i:Int}(h0:0<=i)(h1:i < 26)(L:UH):∃ c,(97<=c/\c<=122)/\Al (.str abc) ce L=ξ (.str pk,L):=by
 have hl:=Aat;have hi:i.toNat < abc.cps.toList.length:=Ze
 refine ⟨abc.cps.toList[i.toNat]'hi,Agl _ (cS hi),?_⟩;unfold Al;simp only;rw[if_pos Ym,Ny h0 Ze,km];rfl
noncomputable def qjx:Str := "qjx"
theorem Agv:qjx.cps.toList.length=3:=Zd
theorem Aiq:small qjx.length=true:=small_of (by show qjx.cps.size<=16777216;have:=Agv;simp only[cR] at this;omega)
theorem Aqx:Low qjx:=by unfold Low;lk
theorem Th(a b:Str)(h:a.length+b.length<=10000)(L:UH):Bd (.str a) (.str b) L=ξ (.str (a++b),L):=by
 unfold Bd;simp only;rw[kw Ze]
theorem cat_len(a b:Str):(a++b).length=a.length+b.length:=by
 show (a.cps++b.cps).size=a.cps.size+b.cps.size;simp
theorem Ads(c:Nat)(j:Int)(h0:0<=j):((kT pk j).length:Int)=j:=by
 have:=PyProof.Rows.len_mul_k1 (x:=pk) (n:=j) (one_len c);rw[if_neg Ze] at this;omega
theorem Asb(c:Nat)(j:Int)(h0:0<=j)(h1:j<=100)(L:UH):Br (.str pk) lw L=ξ (.str (kT pk j),L):=by
 unfold Br;simp only;rw[if_pos ⟨by rw[one_len];omega,Ze,Ze⟩]
theorem Agx(a:Str)(lo hi:bf)(h:a.length<=1000)(L:UH):Gj (.str a) lo hi L=ξ (.str (gR a lo hi),L):=by
 unfold Gj;simp only;rw[kw Ze]
theorem Aoq:abc.cps.toList=yN 97 26:=Zd
noncomputable def Wn:Ω:=[113,106,120]
theorem Amr:qjx.cps.toList=Wn:=Zd
theorem Aps{i:Int}(h0:0<=i)(h1:i < 26)(L:UH):∃ c,(97<=c/\c<=122)/\Al (.str abc) ce L=ξ (.str pk,L)/\c=97+i.toNat:=by
 have hl:=Aat;have hi:i.toNat < abc.cps.toList.length:=Ze
 refine ⟨abc.cps.toList[i.toNat]'hi,Agl _ (cS hi),?_,?_⟩
 ·unfold Al;simp only;rw[if_pos Ym,Ny h0 Ze,km];rfl
 ·have e:(abc.cps.toList)[i.toNat]? = ξ (97+i.toNat):=by rw[Aoq,List.getElem?_range' Ze];simp
  rw[km] at e;exact bQ e
theorem Aow{i:Int}(h0:0<=i)(h1:i < 3)(L:UH):∃ c,(97<=c/\c<=122)/\Al (.str qjx) ce L=ξ (.str pk,L)/\Wn[i.toNat]? = fg:=by
 have hl:=Agv;have hi:i.toNat < qjx.cps.toList.length:=Ze
 refine ⟨qjx.cps.toList[i.toNat]'hi,Aqx _ (cS hi),?_,?_⟩
 ·unfold Al;simp only;rw[if_pos Aiq,Ny h0 Ze,km];rfl
 ·rw[<- Amr,km]
def Tag(p:Nat)(begin:Int)(k:Nat)(x:Str):Prop:=x.cps.toList[p]? = ξ (97+((begin+(k:Int)) % 26).toNat)/\∃ q,Wn[k / 26]? = ξ q/\x.cps.toList[p+1]? = ξ q
variable {begin:Int}
theorem Tag.inj{k k':Nat}{x:Str}(h:Tag p begin k x)(h':Tag p begin k' x)(hk:k < 60)(hk':k' < 60):k=k':=by
 obtain ⟨a,q,b,c⟩:=h;obtain ⟨a',q',b',c'⟩:=h';rw[a] at a';rw[c] at c';have hq:q=q':=bQ c';have ha:97+((begin+(k:Int)) % 26).toNat=97+((begin+(k':Int)) % 26).toNat:=bQ a';subst hq;have hd:k / 26=k' / 26:=by
  have n1:k / 26 < 3:=Ze
  have n2:k' / 26 < 3:=Ze
  generalize k / 26=u at b n1;generalize k' / 26=v at b' n2;rw[<- b'] at b;match u,n1,v,n2 with
  | 0,_,0,_=>rfl
  | 0,_,1,_=>simp[Wn] at b
  | 0,_,2,_=>simp[Wn] at b
  | 1,_,0,_=>simp[Wn] at b
  | 1,_,1,_=>rfl
  | 1,_,2,_=>simp[Wn] at b
  | 2,_,0,_=>simp[Wn] at b
  | 2,_,1,_=>simp[Wn] at b
  | 2,_,2,_=>rfl
 have m1:0<=(begin+(k:Int)) % 26:=iD _ Zb;have m2:0<=(begin+(k':Int)) % 26:=iD _ Zb;omega
theorem cps_app(a b:Str):(a++b).cps.toList=a.cps.toList++b.cps.toList:=by
 show (a.cps++b.cps).toList=_;rw[kK]
theorem cps_one(c:Nat):(pk).cps.toList=[c]:=rfl
theorem Am5(c:Nat)(j:Int)(h:1<=j/\j<=7):∃ r,(kT pk j).cps.toList=c::r:=by
 have:j=1\/j=2\/j=3\/j=4\/j=5\/j=6\/j=7:=Ze
 rcases this with rfl | rfl | rfl | rfl | rfl | rfl | rfl <;> simp[Lw.one,kT,xD,xX,bP]
noncomputable def Xy(al place:Int)(near:Str):Nat:=if al=0 then 0 else (gR near ψ (ξ place)).cps.toList.length
def Ad5(A B:FE)(δi:FE):FS:=(Hv (vq B9 nr (a7 (f2 Al (Cw (rh A B)) δi))))
variable {n2:Nat}{sp:Φ}{al:Int}
theorem Aj5{A B:FE}{δ:UE}{M:UH}{n2:Nat}{sp:Φ}{a b:Str}{al:Int}(hal:al=0\/al=1)(h3:Ad 3 δ M=ξ (.ref n2,M))(hat:M[n2]? = Ξ nz)(hs:sp.length<=1000)
  (hA:A δ M=ξ (.str a,M)) (hB:B δ M=ξ (.str b,M)) {al':FE} (h7:∀ M',al' δ M'=ξ (.int al,M')) (la:Low a) (lb:Low b) :
  ∃ (x:Str) (M':UH),Ad5 A B al' δ M=ξ (.nx δ,M')/\Low x/\((al=0->x=a)/\(al=1->x=b))/\M'[n2]? = Ξ ((sp++[x]).map U.str)/\(∀ L d,Ex d L M->L.length<=n2->Ex d L M')/\(∀ (d:Nat) (B:Int),n2≠d->kq M B->kq M' B):=by
 have sm2:∀ x y:U,small [x,y].length=true:=fun _ _=>small_of (by show 2<=16777216;decide)
 have hl:(Cw (rh A B)) δ M=ξ (qr,M++[.lst [.str a,.str b]]):=by
  simp only[fLst_eq,fCons_eq,hA,hB,fNil_eq,aA,aD];rw[if_pos (sm2 _ _)]
 have q:Aq (M++[HU.lst [.str a,.str b]]) M.length=ξ [.str a,.str b]:=Aj Za;have hx:∃ x,Low x/\((al=0->x=a)/\(al=1->x=b))/\L2.atI [U.str a,.str b] al=bh x:=by
  rcases hal with rfl | rfl
  ·exact ⟨a,la,⟨fun _=>rfl,fun h=>by omega⟩,rfl⟩
  ·exact ⟨b,lb,⟨fun h=>by omega,fun _=>rfl⟩,rfl⟩
 obtain ⟨x,lx,hax,hx⟩:=hx;have hat':(M++[HU.lst [.str a,.str b]])[n2]? = Ξ nz:=(cc M).get hat;have ap:=G5 (.str x) hat' (by simp;omega);have hm:nz++[.str x]=(sp++[x]).map U.str:=Za
 rw[hm] at ap;have ty:=Ia hat;refine ⟨x,(M++[HU.lst [.str a,.str b]]).set n2 (.lst ((sp++[x]).map U.str)),?_,lx,hax,bL (aI.mp hat').1,fun L d e hn=>(e.trans (Ex.new d M _)).set hn _,fun d B hn D=>(D.new _).set hn _⟩;unfold Ad5;rw[Hf,fMeth_eq,h3,aA];simp only[ty,if_true];rw[fCons_eq,f2_eq,hl];simp only[aA,h7,semIx_ref,q,hx,aD,fNil_eq,ap]
theorem Ad9{M:UH}{n2 k:Nat}{sp:Φ}{begin place al:Int}{near:Str}(hat:M[n2]? = Ξ nz)(hs:sp.length<=1000)(hk:k < 60)(hb0:0<=begin)(hb1:begin < 26)(hal:al=0\/al=1)(hn:near.length<=100)(hlow:Low near)(x0 x1 y9:az) :
  ∃ (x:Str) (z9:az) (M':UH),Gd [x0,x1,jy,η n2,kc,n9,n4,χ al,χ (k:Int),y9] M=ξ (.nx [x0,x1,jy,η n2,kc,n9,n4,χ al,χ (k:Int),z9],M')/\Low x/\Tag (Xy al place near) begin k x/\M'[n2]? = Ξ ((sp++[x]).map U.str)/\(∀ L d,Ex d L M->L.length<=n2->Ex d L M')/\(∀ (d:Nat) (B:Int),n2≠d->kq M B->kq M' B):=by
 obtain ⟨c,wc,hc,hcE⟩:=Aps (i:=(begin+(k:Int)) % 26) (iD _ Zb) (iP _ Zb) M;obtain ⟨q,wq,hq,hqE⟩:=Aow (i:=(k:Int) / 26) Ze Ze M;have hmd:Ej (.int (begin+(k:Int))) (.int 26) M=ξ (.int ((begin+(k:Int)) % 26),M):=Za
 have hmd7:Ej (.int (k:Int)) (.int 7) M=ξ (.int ((k:Int) % 7),M):=Za
 have hdv:Iv (.int (k:Int)) (.int 26) M=ξ (.int ((k:Int) / 26),M):=by
  have:=Uh (i:=(k:Int)) (j:=26) Zb Zb;simp[this]
 have s1:(a8 (ae Al 2 (gm Ej (ae Bd 4 (Ad 8)) 26)) 9) [x0,x1,jy,η n2,kc,n9,n4,χ al,χ (k:Int),y9] M=ξ (.nx ZK,M):=by
  generalize abc=ab at hc;simp only[fAsg_eq,f2_eq,fC_eq,fVar_eq,aY,aP,bD,aD,aA,semAdd_int,hmd,hc,gN_eq,aZ,bA]
 have m0:0<=(k:Int) % 7/\(k:Int) % 7 < 7:=⟨iD _ Zb,iP _ Zb⟩;have hml:=Asb q (1+(k:Int) % 7) Ze Ze M;have hll:=Ads q (1+(k:Int) % 7) Ze;have hA:(ae Bd 9 (f2 Br (f2 Al (cj qjx) (bz Iv 8 26)) (f2 Bd m8 (bz Ej 8 7)))) ZK M=ξ (.str (pk++kT (one q) (1+(k:Int) % 7)),M):=by
  have hcat:=Th pk (kT (one q) (1+(k:Int) % 7)) (by rw[one_len];omega) M;generalize qjx=qj at hq;generalize abc=ab;simp only[f2_eq,fC_eq,fVar_eq,aY,aP,bD,aD,aA,hdv,hq,hmd7,semAdd_int,hml,hcat]
 have l1:=tU near ψ (ξ place);have l2:=tU near (ξ place) ψ;have hB:(f2 Bd (f2 Bd (f2 Bd (fSl Gj (Ad 5) B8 (Ey (Ad 6))) (Ad 9)) (f2 Al (cj qjx) (bz Iv 8 26))) (fSl Gj (Ad 5) (Ey (Ad 6)) B8)) ZK M=ξ (.str (gR near ψ (ξ place)++pk++one q++gR near (ξ place) ψ),M):=by
  have c1:=Th (gR near ψ (ξ place)) pk (by rw[one_len];omega) M;have c2:=Th (gR near ψ (ξ place)++pk) (one q) (by rw[cat_len,one_len,one_len];omega) M;have c3:=Th (gR near ψ (ξ place)++pk++one q) (gR near (ξ place) ψ) (by rw[cat_len,cat_len,one_len,one_len];omega) M;have k1:=Agx near ψ (ξ place) Ze M;have k2:=Agx near (ξ place) ψ Ze M;generalize qjx=qj at hq;generalize abc=ab;simp only[f2_eq,fSl_eq,fNoPart_eq,fPart_eq,fC_eq,fVar_eq,aY,aP,bD,aD,aA,hdv,hq,k1,k2,c1,c2,c3]
 obtain ⟨x,M',e,lx,hax,r1,r2,r3⟩:=Aj5 (al':=Ad 7) (δ:=ZK) hal rfl hat hs hA hB ZH ((Low.one wc).app (Low.mul wq _ Ze Ze)) ((((hlow.slice _ _).app (Low.one wc)).app (Low.one wq)).app (hlow.slice _ _));have htag:Tag (Xy al place near) begin k x:=by
  have hq':Wn[k / 26]? = ξ q:=by
   have:((k:Int) / 26).toNat=k / 26:=Ze
   rw[<- this];exact hqE
  subst hcE;rcases hal with rfl | rfl
  ·have hx:=hax.1 rfl;subst hx;have hm:∃ r,(kT (one q) (1+(k:Int) % 7)).cps.toList=q::r:=Am5 q _ Ze;obtain ⟨r,hr⟩:=hm;have hp:Xy 0 place near=0:=rfl;rw[hp];refine ⟨?_,q,hq',?_⟩
   ·rw[cps_app,cps_one];rfl
   ·rw[cps_app,cps_one,hr];rfl
  ·have hx:=hax.2 rfl;subst hx;have hp:Xy 1 place near=(gR near ψ (ξ place)).cps.toList.length:=rfl;rw[hp];refine ⟨?_,q,hq',?_⟩
   ·rw[cps_app,cps_app,cps_app,cps_one,cps_one,cM,cM,bX be,dA];rfl
   ·rw[cps_app,cps_app,cps_app,cps_one,cps_one,cM,cM,bX (iB _),Nat.succ_sub be,dA];rfl
 refine ⟨x,bh pk,M',?_,lx,htag,r1,r2,r3⟩;have hb:Gd=Az (a8 (ae Al 2 (gm Ej (ae Bd 4 (Ad 8)) 26)) 9) (Ad5 (ae Bd 9 (f2 Br (f2 Al (cj qjx) (bz Iv 8 26)) (f2 Bd m8 (bz Ej 8 7)))) (f2 Bd (f2 Bd (f2 Bd (fSl Gj (Ad 5) B8 (Ey (Ad 6))) (Ad 9)) (f2 Al (cj qjx) (bz Iv 8 26))) (fSl Gj (Ad 5) (Ey (Ad 6)) B8)) (Ad 7)):=rfl;rw[hb,mf];exact e
theorem Akb(D:kq L B)(hB:B<=100000000)(x1 x3 x4 x5 x6 x7 x8 x9:az) :
  ∃ (r:Nat) (ys:Φ) (L':UH),Bg [ψ,m6,ij] (Gv (gf 6)) d8 ψ Fg [dv,x1,jy,x3,x4,x5,x6,x7,x8,x9] L=ξ (ig,L')/\L'[r]? = Ξ (ys.map U.str)/\(∀ y∈ys,y.length=1/\Low y)/\ys.length=6/\kq L' (B+6)/\Ex d L L':=by
 have hi:Gv (gf 6) [dv,x1,jy,x3,x4,x5,x6,x7,x8,x9] L=ξ (.seq (Bo 0 6),L):=Rg (n:=6) rfl Ze;obtain ⟨us,δ',M',e,⟨z,hδ⟩,ys,hys,hl1,hly,DM,xM⟩:=Agk (ix:=[ψ,m6,ij]) (it:=.seq (Bo 0 6)) (g:=d8) (tt:=ψ) (fe:=Fg) (us:=Bo 0 6) (δ:=[dv,x1,jy,x3,x4,x5,x6,x7,x8,x9]) (L:=L) (L0:=L)
   (fun k acc δ' M=>(∃ z,δ'=[z,jy,dv])/\∃ (ys:Φ),acc=ys.map U.str/\(∀ y∈ys,y.length=1/\Low y)/\ys.length=k/\kq M (B+k)/\Ex d L M)
   hi (by simp[IU.size]) ⟨⟨ψ,rfl⟩,[],rfl,Za,rfl,by simpa using D,Ex.refl d L⟩
   (fun k acc δ L _ _=>rfl)
   (fun k u acc δ M hu ⟨⟨z,hδ⟩,ys,hys,hl1,hly,DM,xM⟩=>by
    subst hδ;obtain ⟨hk,rfl⟩:=Mm hu;obtain ⟨r,M',e1,r0,r1,D',x'⟩:=Dg (many:=26) DM Ze Zb Zb;obtain ⟨c,wc,hc⟩:=Aus r0 r1 M';have ha:acc.length < 16777216:=by rw[hys,aL,hly];omega
    refine ⟨[χ (0+k),jy,dv],M,rfl,true,M,rfl,fun _=>⟨.str pk,M',?_,ha,jk,ys++[pk],by simp[hys],?_,by simp[hly],?_,xM.trans x'⟩,fun h=>by cases h⟩
    ·unfold Fg;generalize abc=ab at hc;simp only[f2_eq,fOwn_eq,fCons_eq,fNil_eq,fC_eq,fVar_eq,aY,aP,bD,aD,aA,aR,bG,if_true,e1,hc]
    ·intro y hy;rcases cQ.mp hy with h | h
     ·exact hl1 y h
     ·rw[bV.mp h];exact ⟨rfl,Low.one wc⟩
    ·have:B+((k+1:Nat):Int)=B+(k:Int)+1:=Ze
     rw[this];exact D')
 rw[Lu] at hly DM;exact ⟨_,ys,_,e,by rw[hys];simp,hl1,hly,DM.new _,xM.trans (Ex.new d _ _)⟩
theorem W0:∀ ys:Φ,(∀ y∈ys,y.length=1)->(ys.map (·.length)).sum=ys.length
 | [],_=>rfl
 | y::ys,h=>by
  rw[aQ,jI,W0 ys (fun z hz=>h z (oq hz)),h y (aS ..),aR];omega
theorem V6:∀ ys:Φ,mapO toS (ys.map U.str)=ξ ys
 | []=>rfl
 | y::ys=>by simp only[aQ,mapO,toS,V6 ys,aA,aD]
noncomputable def nul:Str := ""
theorem Aqk:Low nul:=by unfold Low;lk
theorem Aia:nul.length=0:=Zd
theorem Yj(g:Str)(hg:g.length=0):∀ (ys:Φ) (acc:ei),(ys.foldl (fun acc p=>acc++g.cps++p.cps) acc).size=acc.size+(ys.map (·.length)).sum
 | [],acc=>by simp
 | y::ys,acc=>by
  have hg':g.cps.size=0:=hg;have hy:y.length=y.cps.size:=rfl;rw[nC,Yj g hg ys,aQ,jI,pF,pF,hg',hy];omega
theorem Are{r:Nat}{ys:Φ}(h:L[r]? = Ξ (ys.map U.str))(h1:∀ y∈ys,y.length=1/\Low y)(h2:ys.length=6):∃ near:Str,Lv (.str nul) [ig] L=ξ (.str near,L)/\near.length<=100/\Low near:=by
 have hs:=W0 ys (fun y hy=>(h1 y hy).1);refine ⟨xI nul ys,?_,?_,?_⟩
 ·unfold Lv;simp only[Fj h,aA,V6];rw[if_pos ⟨by rw[Aia];omega,by rw[hs];omega⟩]
 ·cases ys with
  | nil=>simp at h2
  | cons y ys=>
   show (ys.foldl (fun acc p=>acc++nul.cps++p.cps) y.cps).size<=100;have hy:y.cps.size=1:=(h1 y (aS ..)).1;rw[Yj nul Aia ys y.cps,hy,W0 ys (fun z hz=>(h1 z (oq hz)).1)];simp only[aR] at h2;omega
 ·cases ys with
  | nil=>simp at h2
  | cons y ys=>exact Low.fold nul Aqk ys y.cps (fun z hz=>(h1 z (oq hz)).2) (h1 y (aS ..)).2
noncomputable def Df:Φ:=["a","b","ab","ba","aba","put","take","move","stairs","longest","crowd","northeas"]
theorem Awl(a b c d e f g h i j k l:Str)(δ:UE)(L:UH):(Cw (Aa (cj a) (gi (cj b) (cj c) (gi (cj d) (cj e) (Aa (cj f) (gi (cj g) (cj h) (Aa (cj i) (gi (cj j) (cj k) (a7 (cj l)))))))))) δ L=ξ (cf,L++[.lst ([a,b,c,d,e,f,g,h,i,j,k,l].map U.str)]):=by
 have sm:∀ a b c d e f g h i j k l:U,small [a,b,c,d,e,f,g,h,i,j,k,l].length=true:=fun _ _ _ _ _ _ _ _ _ _ _ _=>small_of (by show 12<=16777216;decide)
 simp only[fLst_eq,fCons_eq,fC_eq,fNil_eq,aA,aD];rw[if_pos (sm _ _ _ _ _ _ _ _ _ _ _ _)];rfl
variable {v:U}
theorem C5{fe:FE}(e:fe δ L=ξ (v,L')):(a8 fe i) δ L=ξ (.nx (δ.set i j3),L'):=by
 rw[fAsg_eq,e];simp only[aA,gN_eq,aD]
theorem Va{f:FN}{c:Int}{u:U}(h:Ad i δ L=ξ (u,L))(e:f [u,.int c] L=ξ (v,L')):(ay 2 f i (gf c)) δ L=ξ (v,L'):=by
 rw[fOwn_eq,fCons_eq,h];simp only[aA,fCons_eq,fC_eq,fNil_eq,aD,aR,bG,if_true,e]
theorem Gf{f:FN}{u:U}(h:Ad i δ L=ξ (u,L))(e:f [u] L=ξ (v,L')):(ay 1 f i Af) δ L=ξ (v,L'):=by
 rw[fOwn_eq,fCons_eq,h];simp only[aA,fNil_eq,aD,aR,bG,if_true,e]
noncomputable def Ax6(s:Str):Bool:=s.cps.toList.all fun c=>decide (97<=c)&&decide (c<=122)
theorem Ar2{s:Str}(h:Ax6 s=true):Low s:=fun c hc=>by
 have:=bO.mp h c hc;simpa using this
theorem Ajr:∀ x∈Df,Low x:=fun x hx=>Ar2 (bO.mp (show Df.all Ax6=true by lk) x hx)
theorem Ako{n1:Nat}(hal:al=0\/al=1)(h:M[n1]? = Ξ (Df.map U.str)):∃ sp:Φ,Gj (.ref n1) (ξ (12 * al)) ψ M=ξ (qr,M++[.lst nz])/\sp.length<=12/\(∀ x∈sp,Low x)/\sp=(if al=0 then Df else []):=by
 have hs:=Aj h;refine ⟨(Df.drop (HT.sIx (Df.map U.str).length 0 (ξ (12 * al)))).take (HT.sIx (Df.map U.str).length (Df.map U.str).length ψ - HT.sIx (Df.map U.str).length 0 (ξ (12 * al))),?_,?_,fun x hx=>Ajr x (rS (List.mem_of_mem_take hx)),?_⟩
 ·show Hi (.ref n1) (ξ (12 * al)) ψ M=_;simp only[Hi,hs,aD];unfold W5;rw[sJ,sK]
 ·have:Df.length=12:=rfl;rw[eW,pW];omega
 ·rcases hal with rfl | rfl
  ·rfl
  ·rfl
theorem Ajv(begin:Int)(k:Nat):∀ x∈Df,¬ Tag 0 begin k x:=fun x hx h=>by
 obtain ⟨_,q,hq,h2⟩:=h;have hw:∀ y∈Df,∀ c∈Wn,y.cps.toList[1]?≠ξ c:=Zd
 exact hw x hx q (bT hq) h2
theorem words_nodup:Df.Nodup:=Zd
theorem Aga{M:UH}{n2:Nat}{sp:Φ}{begin place al:Int}{near:Str}(hat:M[n2]? = Ξ nz)(hs:sp.length<=12)(hb0:0<=begin)(hb1:begin < 26)(hal:al=0\/al=1)(hn:near.length<=100)(hlow:Low near)(hsl:∀ x∈sp,Low x)(x0 x1 y8 y9:az) :
  ∃ (sp':Φ) (z8 z9:az) (M':UH),(Fu (Gv (gf 60)) (gN 8) Gd) [x0,x1,jy,η n2,kc,n9,n4,χ al,y8,y9] M=ξ (.nx [x0,x1,jy,η n2,kc,n9,n4,χ al,z8,z9],M')/\M'[n2]? = Ξ (sp'.map U.str)/\(∃ xs:Φ,sp'=sp++xs/\xs.length=60/\∀ i x,xs[i]? = jw->Tag (Xy al place near) begin i x)/\60<=sp'.length/\sp'.length<=72/\(∀ x∈sp',Low x)/\(∀ L d,Ex d L M->L.length<=n2->Ex d L M')/\(∀ (d:Nat) (B:Int),n2≠d->kq M B->kq M' B):=by
 have hi:Gv (gf 60) [x0,x1,jy,η n2,kc,n9,n4,χ al,y8,y9] M=ξ (.seq (Bo 0 60),M):=Rg (n:=60) rfl Ze;obtain ⟨δ',M',e,P⟩:=Lm (us:=Bo 0 60) (body:=Gd) (g:=gN 8)
  (fun k δ' M'=>∃ (sp':Φ) (z8 z9:az),δ'=[x0,x1,jy,η n2,kc,n9,n4,χ al,z8,z9]/\M'[n2]? = Ξ (sp'.map U.str)/\(∃ xs:Φ,sp'=sp++xs/\xs.length=k/\∀ i x,xs[i]? = jw->Tag (Xy al place near) begin i x)/\k<=sp'.length/\sp'.length<=12+k/\(∀ x∈sp',Low x)/\(∀ L d,Ex d L M->L.length<=n2->Ex d L M')/\(∀ (d:Nat) (B:Int),n2≠d->kq M B->kq M' B))
  hi ⟨sp,y8,y9,rfl,hat,⟨[],Za,rfl,fun i x h=>by simp at h⟩,Ze,Ze,hsl,fun _ _ e _=>e,fun _ _ _ D=>D⟩
  (fun k u δ N hu ⟨sp',z8,z9,hδ,hat',⟨xs,hxs,hxl,hxt⟩,h1,h2,hw,h3,h4⟩=>by
   subst hδ;obtain ⟨hk,rfl⟩:=Mm hu;have h0:(0:Int)+(k:Int)=(k:Int):=Ze
   rw[h0];obtain ⟨x,w9,N',e1,lx,htag,r1,r2,r3⟩:=Ad9 (place:=place) hat' Ze hk hb0 hb1 hal hn hlow x0 x1 z9;exact ⟨[x0,x1,jy,η n2,kc,n9,n4,χ al,χ (k:Int),z9],N,rfl,_,N',.inl e1,sp'++[x],_,_,rfl,r1,⟨xs++[x],by rw[hxs,cM],by simp[hxl],fun i y hy=>by
    by_cases hi:i < xs.length
    ·rw[bH hi] at hy;exact hxt i y hy
    ·have hil:=(aI.mp hy).1;rw[cG,gO] at hil;have:i=k:=Ze
     subst this;rw[bX Ze,hxl,dA] at hy;cases hy;exact htag⟩,by simp;omega,by simp;omega,fun y hy=>by rcases cQ.mp hy with h | h;exact hw y h;rw[bV.mp h];exact lx,fun L d e hL=>r2 L d (h3 L d e hL) hL,fun d B hd D=>r3 d B hd (h4 d B hd D)⟩)
 obtain ⟨sp',z8,z9,hδ,hat',hX,h1,h2,hw,h3,h4⟩:=P;rw[hδ] at e;rw[Lu] at h1 h2 hX;exact ⟨sp',z8,z9,M',e,hat',hX,h1,h2,hw,h3,h4⟩
theorem Akg{many:Nat}(D:kq M B)(hB:B<=100000000)(hnd:n2≠d)(hat:M[n2]? = Ξ nz)(hm:many<=sp.length)(hs:sp.length<=72)(x2 x4 x5 x6 x7 x8 x9:az) :
  ∃ (r:Nat) (names:Φ) (M':UH),Bg [ψ,ξ 3,ij] (Gv (df 1)) d8 ψ Gq [dv,tw,x2,η n2,x4,x5,x6,x7,x8,x9] M=ξ (ig,M')/\M'[r]? = Ξ (names.map U.str)/\names.length=many/\(∃ rest,(names++rest).Perm sp)/\kq M' (B+many)/\(∀ L,Ex d L M->L.length<=n2->Ex d L M'/\L.length<=r):=by
 have hi:Gv (df 1) [dv,tw,x2,η n2,x4,x5,x6,x7,x8,x9] M=ξ (.seq (Bo 0 many),M):=Rg rfl Ze;obtain ⟨ys,δ',M',e,⟨z,hδ⟩,vs,rest,hvs,hlv,hlr,hp,hat,DM,xM⟩:=Agk (ix:=[ψ,ξ 3,ij]) (it:=.seq (Bo 0 many)) (g:=d8) (tt:=ψ) (fe:=Gq) (us:=Bo 0 many) (δ:=[dv,tw,x2,η n2,x4,x5,x6,x7,x8,x9]) (L:=M) (L0:=M)
   (fun k acc δ' M'=>(∃ z,δ'=[z,η n2,dv])/\∃ (vs rest:Φ),acc=vs.map U.str/\vs.length=k/\rest.length+k=sp.length/\(vs++rest).Perm sp/\M'[n2]? = Ξ (rest.map U.str)/\kq M' (B+k)/\(∀ L,Ex d L M->L.length<=n2->Ex d L M'))
   hi (by simp[IU.size]) ⟨⟨ψ,rfl⟩,[],sp,rfl,rfl,rfl,Za,hat,by simpa using D,fun _ e _=>e⟩
   (fun k acc δ L _ _=>rfl)
   (fun k u acc δ N hu ⟨⟨z,hδ⟩,vs,rest,hvs,hlv,hlr,hp,hat,DM,xM⟩=>by
    subst hδ;obtain ⟨hk,rfl⟩:=Mm hu;obtain ⟨r,N',l',e,D',hat',hl',hx',hperm⟩:=Akk U.str DM Ze hnd hat Ze Ze (χ (0+(k:Int)));have ha:acc.length < 16777216:=by rw[hvs,aL,hlv];omega
    refine ⟨[χ (0+k),η n2,dv],N,rfl,true,N,rfl,fun _=>⟨.str r,N',?_,ha,jk,vs++[r],l',by simp[hvs],by simp[hlv],Ze,?_,hat',?_,fun L eL hL=>hx' L (xM L eL hL) hL⟩,fun h=>by cases h⟩
    ·unfold Gq;exact e
    ·refine wN ?_ hp;rw[cM];exact mE vs hperm
    ·have:B+((k+1:Nat):Int)=B+(k:Int)+1:=Ze
     rw[this];exact D')
 rw[Lu] at hlv DM;exact ⟨_,vs,_,e,by rw[hvs];simp,hlv,⟨rest,hp⟩,DM.new _,fun L eL hL=>⟨(xM L eL hL).trans (Ex.new d _ _),(xM L eL hL).le⟩⟩
theorem Aof{many:Nat}(D:kq L B)(hB:B<=10000000)(hm:many<=60) :
  ∃ (n:Nat) (names:Φ) (L':UH),Ic [.ref d,.int many] L=ξ (di,L')/\L'[n]? = Ξ (names.map U.str)/\names.length=many/\names.Nodup/\(∀ x∈names,Low x)/\kq L' (B+100)/\Ex d L L'/\L.length<=n:=by
 have s1:(a8 (cj "abcdefghijklmnopqrstuvwxyz") 2) [dv,tw,ψ,ψ,ψ,ψ,ψ,ψ,ψ,ψ] L=ξ (.nx [dv,tw,jy,ψ,ψ,ψ,ψ,ψ,ψ,ψ],L):=rfl;have s2:=C5 (i:=3) (Awl "a" "b" "ab" "ba" "aba" "put" "take" "move" "stairs" "longest" "crowd" "northeas" [dv,tw,jy,ψ,ψ,ψ,ψ,ψ,ψ,ψ] L);have hw:(["a","b","ab","ba","aba","put","take","move","stairs","longest","crowd","northeas"]:Φ)=Df:=rfl;rw[hw] at s2;simp only[aZ,bA] at s2;have hdl:=D.lt;have k1:(L++[HU.lst (Df.map U.str)])[L.length]? = Ξ (Df.map U.str):=Za
 obtain ⟨begin,L3,e3,b0,b1,D3,x3⟩:=Dg (many:=26) (D.new [HU.lst (Df.map U.str)]) Ze Zb Zb;have s3:=C5 (i:=4) (Va (i:=0) (δ:=[dv,tw,jy,aw,ψ,ψ,ψ,ψ,ψ,ψ]) rfl e3);simp only[aZ,bA] at s3;have k3:=x3.get k1 Ze;obtain ⟨r4,ys,L4,e4,h4,hy1,hy6,D4,x4⟩:=Akb D3 Ze tw aw kc ψ ψ ψ ψ ψ;obtain ⟨near,hj,hnl,hlow⟩:=Are h4 hy1 hy6;have s4:(a8 (Fm "str" Lv (cj "") (a7 (Bg [ψ,m6,ij] (Gv (gf 6)) d8 ψ Fg))) 5) [dv,tw,jy,aw,kc,ψ,ψ,ψ,ψ,ψ] L3=ξ (.nx [dv,tw,jy,aw,kc,n9,ψ,ψ,ψ,ψ],L4):=by
  have ty:tyU "str" (.str nul) L3=true:=rfl;have hn:(fC (.str ""):FE)=cj nul:=rfl;rw[hn];generalize nul=nl at hj ty;rw[fAsg_eq,fMeth_eq];simp only[fC_eq,aA,ty,if_true];rw[fCons_eq,e4];simp only[aA,fNil_eq,aD,hj,gN_eq,aZ,bA]
 have k4:=x4.get k3 Ze;obtain ⟨place,L5,e5,p0,p1,D5,x5⟩:=Dg (many:=7) D4 Ze Zb Zb;have s5:=C5 (i:=6) (Va (i:=0) (δ:=[dv,tw,jy,aw,kc,n9,ψ,ψ,ψ,ψ]) rfl e5);simp only[aZ,bA] at s5;have k5:=x5.get k4 Ze;obtain ⟨al,L6,e6,a0,a1,D6,x6⟩:=Dg (many:=2) D5 Ze Zb Zb;have s6:=C5 (i:=7) (Va (i:=0) (δ:=[dv,tw,jy,aw,kc,n9,n4,ψ,ψ,ψ]) rfl e6);simp only[aZ,bA] at s6;have k6:=x6.get k5 Ze;have hal:al=0\/al=1:=Ze
 obtain ⟨sp,hsl,hsp,hspl,hspE⟩:=Ako hal k6;have s7:(a8 (fSl Gj nr (Ey (f2 Br (ω 12) (Ad 7))) B8) 3) [dv,tw,jy,aw,kc,n9,n4,χ al,ψ,ψ] L6=ξ (.nx [dv,tw,jy,η L6.length,kc,n9,n4,χ al,ψ,ψ],L6++[.lst nz]):=by
  have hmu:Br (.int 12) (.int al) L6=ξ (.int (12 * al),L6):=by
   have:=Ol (i:=12) (j:=al) Zb Zb;simp only[Br,this,if_true]
  generalize abc=ab;simp only[fAsg_eq,fSl_eq,fNoPart_eq,fPart_eq,f2_eq,fC_eq,fVar_eq,aY,aP,bD,aD,aA,hmu,hsl,gN_eq,aZ,bA]
 have k7:(L6++[HU.lst nz])[L6.length]? = Ξ nz:=Za
 have xL6:Ex d L L6:=(Ex.new d L _).trans (x3.trans (x4.trans (x5.trans x6)));have D7:=D6.new [HU.lst nz];have hne:L6.length≠d:=by have:=D6.lt;omega
 obtain ⟨sp',z8,z9,L8,e8,k8,⟨xs,hxs,hxl,hxt⟩,l0,l1,hw8,h8,h8D⟩:=Aga (place:=place) k7 hsp b0 b1 hal hnl hlow hspl dv tw ψ ψ;obtain ⟨r,names,L9,e9,k9,hln,⟨rest,hperm⟩,D9,h9⟩:=Akg (many:=many) (h8D d _ hne D7) Ze hne k8 Ze l1 jy kc n9 n4 (χ al) z8 z9;have x9:=h9 L (h8 L d (xL6.trans (Ex.new d L6 _)) xL6.le) xL6.le;have hnd':sp'.Nodup:=by
  rw[hxs];have hxn:xs.Nodup:=by
   rw[fX,cK];intro i j hi hj hij he;have t1:=hxt i _ km;have t2:=hxt j _ (aC hj);rw[he] at t1;have:=t1.inj t2 Ze Ze;omega
  rcases hal with rfl | rfl
  ·rw[hspE,jv];refine fD.mpr ⟨words_nodup,hxn,fun a ha b hb hab=>?_⟩;subst hab;obtain ⟨i,hi,he⟩:=dE hb;have:=hxt i a (by rw[km,he]);exact Ajv begin i a ha this
  ·rw[hspE,if_neg Zb];exact hxn
 have hnd:names.Nodup:=(fD.mp (hperm.nodup_iff.mpr hnd')).1;refine ⟨r,names,L9,?_,k9,hln,hnd,fun x hx=>hw8 x (hperm.mem_iff.mp (eG _ hx)),D9.mono Ze,x9.1,x9.2⟩;have hb:Yg=Az (a8 (cj "abcdefghijklmnopqrstuvwxyz") 2) (jg (Cw (gi (cj "a") (cj "b") (gi (cj "ab") (cj "ba") (gi (cj "aba") (cj "put") (gi (cj "take") (cj "move") (gi (cj "stairs") (cj "longest") (Aa (cj "crowd") (a7 (cj "northeas"))))))))) 3 (a8 (j8 2 A0 (gf 26)) 4) (jg (Fm "str" Lv (cj "") (a7 (Bg [ψ,m6,ij] (Gv (gf 6)) d8 ψ Fg))) 5 (a8 (j8 2 A0 (gf 7)) 6) (Az (a8 (j8 2 A0 (gf 2)) 7) (jg (fSl Gj nr (Ey (f2 Br (ω 12) (Ad 7))) B8) 3 (Fu (Gv (gf 60)) (gN 8) Gd) (B0 (Bg [ψ,ξ 3,ij] (Gv (df 1)) d8 ψ Gq)))))):=rfl;unfold Ic fnU;simp only[aR,bG,if_true,aQ,bY,bP,gT,fL];rw[hb,mf,Ak s2,Ak s3,Ak s4,Ak s5,Ak s6,Ak s7,Ak e8,fRet_eq,e9];rfl
end Lw
namespace MR
open PySem PySem.Spec PyProof.Rows L2
variable {X:Cx}{pins:List (Addr×Obj)}{σ:L2.St}{H H':Hp}{s:aO}{a:Addr}{kvs:List (Key×V)}{e:Expr}
section
theorem Inv.freeze{o:Obj}(I:lj H s)(e:j7=ξ fw)(ho:qu=ao):lj (f7 a (.frz o fw)) s:=by
 have tp:∀ b u,gn=br->(∀ ks,u≠.dK ks)->upd H a (.frz o fw) b=br:=fun b u q n=>by
  rw[Au (fun z=>by subst z;rw[e] at q;cases q;exact n _ rfl)];exact q
 refine I.un (t':=s.toks) (h':=s.heap) ⟨fun b ob q n _ _=>q,fun b ob q n _ _=>⟨ob.slots,q⟩,fun b ob q n _=>?_,fun b ob q _=>⟨ob,q⟩,fun b xs q=>tp b _ q fun ks z=>(nomatch z),fun b ob u q=>tp b _ q fun ks z=>(nomatch z),fun b ps q=>⟨#[],by rw[tp b _ q fun ks z=>(nomatch z)];simp⟩⟩ fun b u q=>?_
 ·rw[Au (fun z=>by subst z;rw[e] at n;cases n)];exact n
 ·have own:∀ c,H c=ξ (.own b)->upd H a (.frz o fw) c=ξ (.own b):=fun c z=>tp c _ z fun ks z=>(nomatch z)
  have tups:∀ c xs,H c=Γ xs->upd H a (.frz o fw) c=Γ xs:=fun c xs z=>tp c _ z fun ks z=>(nomatch z)
  by_cases hb:b=a
  ·subst hb;rw[upd_same] at q;cases q;exact ⟨ho,(I.hok b _ e).stay (fun _ _ _ z=>z) own tups⟩
  ·rw[Au hb] at q;exact (I.hok b u q).stay (fun _ _ _ z=>z) own tups
def Thaw(H H' H2:Hp):Prop:=∀ b,H2 b=H' b\/∃ o vs,nq=jl o nj/\H2 b=ξ nj/\∀ o u,gn≠jl o u
theorem Thaw.stay{H2:Hp}(t:Thaw H H' H2){b:Addr}{u:Option HO}(e:nq=u)(n:∀ o ks,u≠jl o (.dK ks)):H2 b=u:=by
 rcases t b with z | ⟨o,vs,z,_⟩
 ·rw[z];exact e
 ·rw[e] at z;exact absurd z (n _ _)
theorem Inv.thaw{pins0:List (Addr×Obj)}{σ0:L2.St}{s0:aO}{H2:Hp}(I0:L2.Inv X pins0 σ0 H s0)(I:lj H' s)(t:Thaw H H' H2):lj H2 s:=by
 have nn:∀ b,nq=ψ->H2 b=ψ:=fun b e=>t.stay e fun _ _ z=>(nomatch z)
 refine ⟨I.ok,I.os,I.bare,⟨I.base.keep,I.base.slot,fun b o e n hx=>nn b (I.base.free b o e n hx),I.base.there,fun b xs e=>t.stay (I.base.tups b xs e) fun _ _ z=>(nomatch z),fun b o u e=>?_,fun b ps e=>?_⟩,I.loc,I.cell,nn _ I.free,fun x c e=>nn _ (I.freeC x c e),fun p hp=>?_,fun a o e=>?_,I.len⟩
 ·have h0:=I0.base.frzs b o u e;rcases t b with z | ⟨o',vs,_,_,z⟩
  ·rw[z];exact I.base.frzs b o u e
  ·exact absurd h0 (z _ _)
 ·obtain ⟨more,q⟩:=I.base.tbls b ps e;exact ⟨more,t.stay q fun _ _ z=>(nomatch z)⟩
 ·obtain ⟨h1,h2,h3⟩:=I.pin p hp;exact ⟨h1,nn _ h2,h3⟩
 ·have own:∀ c,H' c=ξ (.own a)->H2 c=ξ (.own a):=fun c z=>t.stay z fun _ _ z=>(nomatch z)
  have tups:∀ c xs,H' c=Γ xs->H2 c=Γ xs:=fun c xs z=>t.stay z fun _ _ z=>(nomatch z)
  rcases t a with z | ⟨o',vs,z1,z2,_⟩
  ·rw[z] at e;exact (I.hok a o e).stay (fun _ _ _ z=>z) own tups
  ·rw[z2] at e;cases e;exact (show ObjOk X.prog X.w H' s.heap a nj from (I.hok a _ z1).2).stay (fun _ _ _ z=>z) own tups
theorem Apt{t:TE}(h:l4 e t):l4 e (fun σ H Q=>t σ H fun x H'=>∃ H2,Thaw H H' H2/\Q x H2):=fun pins s σ H Q I q=>
 thn (h pins s σ H _ I q) fun v s1 zz=>by obtain ⟨x,H1,I1,r,H2,th,q⟩:=zz;exact ⟨x,H2,Inv.thaw I I1 th,r,q⟩
end
variable {K:aK}{α:Ψ}
section
mutual
theorem RepU.via(g:∀ a xs,lv H a xs->lv H' a xs):∀ (u:U) (v:V),gh K H u v->RepU K H' α u v
 | .non,_,h=>h
 | .bl _,_,h=>h
 | .int _,_,h=>h
 | .str _,_,h=>h
 | .tup l,v,h=>by
  unfold RepU at h ⊢;obtain ⟨a,xs,e,s,r⟩:=h;exact ⟨a,xs,e,g _ _ s,RepL.via g l xs r⟩
 | .ref n,v,h=>by
  unfold RepU at h ⊢;exact h
theorem RepL.via(g:∀ a xs,lv H a xs->lv H' a xs):∀ (l:aa) (xs:ε),vv l->RepL K H' α l xs
 | [],xs,h=>h
 | u::l,xs,h=>by
  unfold RepL at h ⊢;obtain ⟨x,r,e,h1,h2⟩:=h;exact ⟨x,r,e,RepU.via g u x h1,RepL.via g l r h2⟩
end
end
noncomputable def N5:Option HU->Option HU->Option HU
 | some (.dic _),ξ (.rod kvs)=>ξ (.dic kvs)
 | _,x=>x
def Er:UH->UH->UH
 | [],L'=>L'
 | _::_,[]=>[]
 | .dic _::L,.rod kvs::L'=>.dic kvs::Er L L'
 | _::L,x::L'=>x::Er L L'
theorem Qs:∀ (L L':UH),(Er L L').length=L'.length
 | [],L'=>by unfold Er;rfl
 | a::L,[]=>by unfold Er;rfl
 | a::L,x::L'=>by
  cases a <;> cases x <;> simp[Er,Qs L L']
theorem Ut:∀ (L L':UH) (n:Nat),(Er L L')[n]? = N5 L[n]? L'[n]?
 | [],L',n=>by
  unfold Er;cases h:L'[n]? <;> simp[N5]
 | a::L,[],n=>by
  unfold Er;cases h:(a::L)[n]? with
  | none=>simp[N5]
  | some w=>cases w <;> simp[N5]
 | a::L,x::L',0=>by
  cases a <;> cases x <;> simp[Er,N5]
 | a::L,x::L',n+1=>by
  have:=Ut L L' n;cases a <;> cases x <;> simpa[Er] using this
theorem Wr{a:Option HU}{x y:HU}(h:N5 a jw=ξ y):y.isRo=x.isRo/\(x.isRo=true->y=x):=by
 unfold N5 at h;split at h
 ·rename_i h1 h2;cases h2;cases h;exact ⟨rfl,fun z=>(nomatch z)⟩
 ·cases h;exact ⟨rfl,fun _=>rfl⟩
theorem Al9{α':Ψ}{L L':UH}(A:ia K H L)(g:vg)(A':my K H' L') :
  ∃ H2,Thaw H H' H2/\l9 H H2/\my K H2 (Er L L')/\(∀ u v,sd K H' u v->sd K H2 u v):=by
 classical
 let T:Addr->Prop:=fun b=>∃ (n:Nat) (kvs kws:List (Key×U)),α'[n]? = ξ b/\L[n]? = ξ (HU.dic kvs)/\L'[n]? = ξ (HU.rod kws)
 let H2:Hp:=fun b=>if T b then (match H' b with | some (.frz o (.dK vs))=>ξ nj | x=>x) else nq
 have Tfrz:∀ b,T b->∃ o vs,nq=jl o nj:=by
  rintro b ⟨n,kvs,kws,e1,e2,e3⟩;obtain ⟨o,vs,q,_⟩:=A'.rep n b _ e1 e3;exact ⟨o,vs,q⟩
 have Told:∀ b,T b->∃ vs,gn=ξ nj:=by
  rintro b ⟨n,kvs,kws,e1,e2,e3⟩;obtain ⟨a,ea,vs,q,_⟩:=A.addr e2;have:=g.at ea;rw[e1] at this;cases this;exact ⟨vs,q⟩
 have on:∀ b o vs,T b->nq=jl o nj->H2 b=ξ nj:=fun b o vs t e=>by
  show (if T b then _ else _)=_;rw[if_pos t,e]
 have off:∀ b,¬ T b->H2 b=nq:=fun b t=>by
  show (if T b then _ else _)=_;rw[if_neg t]
 have th:Thaw H H' H2:=fun b=>by
  by_cases t:T b
  ·obtain ⟨o,vs,e⟩:=Tfrz b t;obtain ⟨ws,e0⟩:=Told b t;exact .inr ⟨o,vs,e,on b o vs t e,fun o u z=>by rw[e0] at z;cases z⟩
  ·exact .inl (off b t)
 have sq:∀ a xs,lv H' a xs->lv H2 a xs:=fun a xs h=>by
  rcases h with (h | ⟨o,h⟩) | h
  ·exact .inl (.inl (th.stay h fun _ _ z=>(nomatch z)))
  ·exact .inl (.inr ⟨o,th.stay h fun _ _ z=>(nomatch z)⟩)
  ·exact .inr h
 have gr:l9 H H2:=⟨g.pre,fun b xs q=>th.stay (g.st.1 b xs q) fun _ _ z=>(nomatch z),fun b o u q=>by
  rcases th b with z | ⟨_,_,_,_,z⟩
  ·rw[z];exact g.st.2 b o u q
  ·exact absurd q (z _ _)⟩
 refine ⟨H2,th,gr,⟨?_,fun i j a o o' e1 e2 e3 e4=>?_,fun i a o e1 e2=>?_,fun nm hnm c P e=>?_⟩,fun u v r=>RepU.via sq u v r⟩
 ·rw[Qs];exact A'.len
 ·rw[Ut] at e3 e4;cases q1:L'[i]? with
  | none=>rw[q1] at e3;unfold N5 at e3;split at e3 <;> cases e3;rename_i z;cases z
  | some x1=>
   cases q2:L'[j]? with
   | none=>rw[q2] at e4;unfold N5 at e4;split at e4 <;> cases e4;rename_i z;cases z
   | some x2=>
    rw[q1] at e3;rw[q2] at e4;rw[(Wr e3).1,(Wr e4).1];exact A'.inj i j a x1 x2 e1 e2 q1 q2
 ·rw[Ut] at e2;cases q1:L'[i]? with
  | none=>rw[q1] at e2;unfold N5 at e2;split at e2 <;> cases e2;rename_i z;cases z
  | some x1=>
   rw[q1] at e2;have hr:=A'.rep i a x1 e1 q1;by_cases t:T a
   ·obtain ⟨o',vs,ef⟩:=Tfrz a t;obtain ⟨n,kvs,kws,n1,n2,n3⟩:=id t;rcases A'.inj i n a x1 _ e1 n1 q1 n3 with z | z | z
    ·subst z;rw[q1] at n3;cases n3;rw[n2] at e2;cases e2;obtain ⟨o2,ws,f1,f2,f3⟩:=hr;exact ⟨ws,on a o2 ws t f1,f2,RepL.via sq _ _ f3⟩
    ·have:=(Wr e2).2 z;subst this;cases o with
     | ro us=>
      obtain ⟨xs,f1,f2⟩:=hr;refine ⟨xs,?_,RepL.via sq _ _ f2⟩;rcases f1 with ⟨o2,f1⟩ | f1
      ·rw[ef] at f1;cases f1
      ·exact .inr f1
     | _=>cases z
    ·cases z
   ·have same:o=x1:=by
     unfold N5 at e2;split at e2
     ·rename_i h1 h2;cases h2;exact absurd ⟨i,_,_,e1,h1,q1⟩ t
     ·cases e2;rfl
    subst same;have ea:=off a t;cases o with
    | lst us=>obtain ⟨xs,f1,f2⟩:=hr;exact ⟨xs,by rw[ea];exact f1,RepL.via sq _ _ f2⟩
    | ro us=>
     obtain ⟨xs,f1,f2⟩:=hr;refine ⟨xs,?_,RepL.via sq _ _ f2⟩;rcases f1 with ⟨o2,f1⟩ | f1
     ·exact .inl ⟨o2,by rw[ea];exact f1⟩
     ·exact .inr f1
    | dic kvs=>obtain ⟨vs,f1,f2,f3⟩:=hr;exact ⟨vs,by rw[ea];exact f1,f2,RepL.via sq _ _ f3⟩
    | rod kvs=>obtain ⟨o2,vs,f1,f2,f3⟩:=hr;exact ⟨o2,vs,by rw[ea];exact f1,f2,RepL.via sq _ _ f3⟩
    | ins C fs=>obtain ⟨Ca,dx,vs,n,f1,f2,f3⟩:=hr;exact ⟨Ca,dx,vs,n,by rw[ea];exact f1,f2,RepL.via sq _ _ f3⟩
    | exc C fr fs=>obtain ⟨Ca,dd,vs,n,f1,f0,f2,f3⟩:=hr;exact ⟨Ca,dd,vs,n,by rw[ea];exact f1,f0.stay fun b o ws q=>th.stay q fun _ _ z=>(nomatch z),f2,RepL.via sq _ _ f3⟩
 ·obtain ⟨ps,e,tr,k⟩:=A'.tab nm hnm c P e;refine ⟨ps,th.stay e fun _ _ z=>(nomatch z),tr,fun pos cv ec=>?_⟩;obtain ⟨c,oc,vs,t,e1,e2,r⟩:=k pos cv ec;exact ⟨c,oc,vs,t,e1,th.stay e2 fun _ _ z=>(nomatch z),r⟩
def Ahy(f:FE):FE:=fun δ L=>(tm).map fun p=>(p.1,Er L p.2)
theorem Arm{f:FE}(h:gy e f):gy e (Ahy f):=by
 refine PE.imp (Apt h) ?_;rintro σ H Q ⟨α,δ,L,A,S,z,L3,e,q⟩;obtain ⟨⟨z',L1⟩,e1,e⟩:=cx;cases e;refine ⟨α,δ,L,A,S,z',L1,e1,fun v H1 α1 g1 A1 r1=>?_⟩;obtain ⟨H2,th,g2,A2,r2⟩:=Al9 A g1 A1;exact ⟨H2,th,q v H2 α1 g2 A2 (r2 _ _ r1)⟩
structure DObj(P:cL)(w:dC)(o:Obj)(kvs:List (Key×V))(vs:List (Key×aJ))(ep:Nat):Prop where
 rel:KV kvs vs
 at_:∀ (h:Heap) (d:Addr),h.get? d=ao->h.DictAt (Bs P w) d vs ep
noncomputable def Itv(d:Addr)(o:Obj)(xs:ε):It:=⟨fun i H=>(∃ u,H d=jl o u)/\i < xs.length,fun i H x H'=>H'=H/\xs[i]? = jw,fun i H=>(∃ u,H d=jl o u)/\xs.length<=i⟩
theorem Aq5{P:cL}{w:dC}{k:Key}{v:aJ}(h:(Bs P w).is k v=true):RelV (kV k) v:=by
 rw[Ad0] at h;rcases Cz h with ⟨i,t,rfl,rfl⟩ | ⟨x,t,rfl,rfl⟩
 ·exact cu t
 ·exact cu t
theorem KV.at_:∀ {kvs:List (Key×V)} {vs:List (Key×aJ)} {i:Nat} {p:Key×aJ},KV kvs vs->vs[i]? = ξ p->∃ q,kvs[i]? = ξ q/\q.1=p.1/\RelV q.2 p.2
 | _,_,i,p,.nil,e=>by simp at e
 | _,_,0,p,.cons r t,e=>by simp at e;subst e;exact ⟨_,rfl,r⟩
 | _,_,i+1,p,.cons r t,e=>by simpa using KV.at_ (i:=i) t (by simpa using e)
variable {tg:Expr}
section
variable {P:cL}{w:dC}{d it:Addr}{o:Obj}{vs:List (Key×aJ)}{ep:Nat}
theorem Aii(D:DObj P w o kvs vs ep):Turn P w K tg (Itv d o (kvs.map fun kv=>kV kv.1)) [it] it (fun i h=>h.IsKeyIter it d i vs.length ep) where
 mem:=Za
 obj:=fun i h st b hb=>by
  have e:b=it:=by simpa using hb
  subst e;obtain ⟨o,e,c,d⟩:=st;exact ⟨o,e,fun v z=>by rw[d] at z;cases z⟩
 keep:=fun i h h' st k=>st.at fun o e=>k it Za o e
 item:=by
  intro X hP hw hK hc i pins s σ H E I hf st hg;subst hP hw hK;obtain ⟨⟨u,hd⟩,hi⟩:=hg;have da:=D.at_ s.heap d (I.hok d _ hd).1;have hl:=KV.length D.rel;have hi':i < vs.length:=by rw[<- hl];simpa using hi
  obtain ⟨⟨k,x⟩,hx⟩:∃ p,vs[i]? = ξ p:=⟨vs[i],by simp[hi']⟩;obtain ⟨q,hq,q1,q2⟩:=KV.at_ D.rel hx;obtain ⟨f0,f1,f2,f3,f4,f5⟩:=hf it Za;refine wpAny_pyNext_dict_item st da hx fun key h' hkey st' sb=>?_
  have I1:lj H { s with heap:=h' }:=I.turned (t':=s.toks) Z8 f0 f1 f3 f4 f5;refine gu key (letGo_keyiter (s':={ s with heap:=h' }) st' ⟨kV k,H,I1,Aq5 hkey,⟨rfl,?_⟩,st',fun b hb=>(hf b hb).1⟩);rw[aX,hq];simp only[aD,q1]
 done:=by
  intro X hP hw hK hc i pins s σ H E I hf st hg;subst hP hw hK;obtain ⟨⟨u,hd⟩,hi⟩:=hg;have da:=D.at_ s.heap d (I.hok d _ hd).1;have hl:=KV.length D.rel;obtain ⟨f0,f1,f2,f3,f4,f5⟩:=hf it Za;exact wpAny_pyNext_dict_end i7 st da (cN (by rw[<- hl];simpa using hi)) fun h' eb=>⟨rfl,I.turned (t':=s.toks) (fun b o hb e=>eb b o hb e) f0 f1 f3 f4 f5⟩
 self:=fun _ _ _ _ _ st h=>wpAny_pyIter_keyiter st h
end
section
variable {o:Expr}{apos cpos:Pos}{td:TE}
structure M0(X:Cx)(o:Expr)(m:Str)(apos cpos:Pos):Prop where
 base:attributeBase o m X.env (bn o)=bn o
 few:((f6 cpos []).all (fun x=>!x.1)&&(dy cpos [] X.env).all (fun x=>x.1.isSome)
  && decide (([]:fj).length+([]:tu).length+(if ([]:tu).isEmpty then 0 else 1) < 30))=true
 line:(apos.endLine == cpos.line)=true
 trees:f6 cpos []=[]
theorem Aag(I:lj H s)(e:j7=ξ fw) :
  (a == sysModules)=false/\∃ ob vs ep,qu=ξ ob/\DObj X.prog X.w ob kvs vs ep:=by
 obtain ⟨z,hd,vs,rel,ob,es,ep,h1,h2⟩:=Vv I.hok e;exact ⟨hd,ob,vs,ep,h1,rel,fun h d hg=>⟨ob,es,hg,h2⟩⟩
def Ay9(td:TE):TI:=fun σ H R=>td σ H fun x H1=>∃ a kvs,x = bp/\H1 a=ξ fw/\∀ ob,R (Itv a ob (kvs.map fun kv=>kV kv.1)) (upd H1 a (.frz ob fw))
theorem Aq0{ob:Obj}(I:lj H s)(e:j7=ξ fw) :
  ∀ b∈[s.heap.objs.size],vt X (f7 a (.frz ob fw)) b:=fun b hb=>by
 have q:b=s.heap.objs.size:=by simpa using hb
 subst q;have hn:=j5;exact L2.Inv.fpOk I be (by rw[Au (fun z=>by rw[z,e] at hn;cases hn)];exact hn)
theorem Apa(hl:l4 o td):PI X tg o (Ay9 td):=by
 intro pins s σ H R I h;refine thn (hl pins s σ H _ I h) fun v s1 zz=>zz.elim fun x H1 I1 r1 zq=>?_
 obtain ⟨a,kvs,ex,ea,q⟩:=zq;subst ex;obtain rfl:v=eB a:=r1;obtain ⟨hd,ob,vs,ep,ho,D⟩:=Aag I1 ea;have da:=D.at_ _ _ ho;refine wpAny_pyIter_dict hd da ?_;have I2:lj H1 { s1 with heap:=s1.heap.push { cls:=.type "dict_keyiterator",data:=.fields #[bp,v8,sv vs.length,sv ep] } }:=I1.kept (t':=s1.toks) fun b o e=>n8
 exact ⟨s1.heap.objs.size,[s1.heap.objs.size],_,_,_,rfl,Inv.freeze I2 ea (jh ho),Aii D,⟨_,ki,rfl,rfl⟩,Aq0 I1 ea,q ob⟩
end
def kU:Key->U
 | .inl i=>.int i
 | .inr x=>.str x
theorem Avr(k:Key):gh K H (kU k) (kV k):=by
 cases k <;> (unfold RepU kU kV;rfl)
def Ue(kvs:List (Key×U)):aa:=kvs.map fun kv=>kU kv.1
def Amk(kvs:List (Key×U)):aa:=kvs.map fun kv=>kv.2
def Yc(v:List (Key×U)->aa)(f:FE):FI:=fun δ L=>(tm).bind fun p=>match p.1 with
 | .ref n=>(B3 p.2 n).map fun kvs=>(.seq (v kvs),p.2.set n (.rod kvs))
 | _=>ψ
section
variable {L:UH}{ob:Obj}
theorem Wj:∀ {kvs:List (Key×U)} {vs:List (Key×V)},l7 K H kvs vs->RepL K H α (Ue kvs) (vs.map fun kv=>kV kv.1)
 | [],vs,r=>by
  have:=r.1;cases vs with
  | nil=>exact .nil
  | cons _ _=>simp at this
 | kv::kvs,vs,r=>by
  obtain ⟨x,vs',rfl,rx,r'⟩:=r.cons;exact .cons (Avr _) (Wj r')
theorem Ars{u:HO}{us:aa}{xs:ε}(e:j7=jl ob u)(r:vw):Pd K (Itv a ob xs) (.seq us) H α:=by
 intro H2 α2 L2 g A2 k;have e2:=g.st.2 _ _ _ e;have r2:=l6;refine ⟨fun w eu=>?_,fun eu=>?_⟩
 ·have eu:us[k]? = ξ w:=by simpa[IU.at] using eu
  obtain ⟨x,hx,rx⟩:=r2.get eu;refine ⟨⟨⟨u,e2⟩,(aI.mp hx).1⟩,?_⟩;rintro y H3 ⟨rfl,hy⟩;rw[hx] at hy;cases hy;exact ⟨gp,A2,rx⟩
 ·have eu:us[k]? = ψ:=by simpa[IU.at] using eu
  exact ⟨⟨u,e2⟩,by rw[<- r2.length];exact cJ.mp eu⟩
theorem Af8{n:Nat}{kvs:List (Key×U)}{vs:List (Key×V)}(A:ia K H L)(h:B3 L n=ξ kvs)(ea:α[n]? = m7)(e:j7=ξ nj)(r:l7 K H kvs vs)(ob:Obj) :
  Gr H α (f7 a (.frz ob nj)) α/\ia K (f7 a (.frz ob nj)) (L.set n (.rod kvs)):=by
 have g:je H (f7 a (.frz ob nj)) α:=⟨⟨[],Za⟩,.write e (by exact trivial) _⟩;obtain ⟨A',_⟩:=A.put (o:=.frz ob nj) (u:=.rod kvs) ea (P0 h) rfl rfl e (by exact trivial) ⟨ob,vs,upd_same,(l6).1,(l6).2⟩;exact ⟨g,A'⟩
end
section
variable {o:Expr}{apos cpos:Pos}{fo:FE}
theorem Aip{v:List (Key×U)->aa}{J:Addr->Obj->List (Key×V)->It}(hJ:∀ (H:Hp) (α:Ψ) (a:Addr) (ob:Obj) (u:HO) (kvs:List (Key×U)) (vs:List (Key×V)),j7=jl ob u->l7 X.K H kvs vs->Pd X.K (J a ob vs) (.seq (v kvs)) H α)
  {σ:L2.St} {H:Hp} {R:It->Hp->Prop} (h:lI X.K (Yc v fo) σ H R):lE X.K fo σ H fun x H1=>∃ a kvs,x = bp/\H1 a=ξ fw/\∀ ob,R (J a ob kvs) (upd H1 a (.frz ob fw)):=by
 obtain ⟨α,δ,L,A,S,i,L3,e,q⟩:=h;obtain ⟨⟨u,L1⟩,e1,e⟩:=af;simp only at e;split at e
 ·obtain ⟨kvs,hd,e⟩:=cx;cases e;refine ⟨α,δ,L,A,S,_,_,e1,fun x H1 α1 g1 A1 r1=>?_⟩;obtain ⟨a,vs,rfl,ea,ha,rk⟩:=G9 A1 hd r1;refine ⟨a,vs,rfl,ha,fun ob=>?_⟩;obtain ⟨g2,A2⟩:=Af8 A1 hd ea ha rk ob;exact q _ _ _ d6 A2 (hJ _ _ _ _ _ _ _ upd_same (rk.mono g2))
 ·cases e
def Ax9(a:Addr)(ob:Obj)(vs:List (Key×V)):It:=Itv a ob (vs.map fun kv=>kV kv.1)
theorem Akt(ho:gy o fo):PIF X tg o (Yc Ue fo):=
 PI.imp (Apa ho) fun _ _ _ h=>Aip (J:=Ax9) (fun _ _ _ _ _ _ _ e r=>Ars e (Wj r)) h
theorem Acz(k:Key):∀ kvs:List (Key×U),(kvs.find? fun kv=>decide (kv.1=k)).isSome=kvs.any fun kv=>decide (kv.1=k)
 | []=>rfl
 | kv::kvs=>by
  rw[cU,iH];by_cases h:kv.1=k
  ·simp[h]
  ·simp only[h,decide_false,xQ];exact Acz k kvs
theorem RepKV.some{kvs:List (Key×U)}{vs:List (Key×V)}(r:l7 K H kvs vs)(k:Key):(G0 kvs k).isSome=(N3 vs k).isSome:=by
 have h1:(G0 kvs k).isSome=kvs.any fun kv=>decide (kv.1=k):=by
  unfold G0;rw[tO];exact Acz k kvs
 rw[h1,r.any,Uv]
end
def Ats(kvs:List (Key×U))(k:Key):List (Key×U):=kvs.filter fun kv=>decide (kv.1≠k)
theorem RepKV.drop(k:Key):∀ {kvs:List (Key×U)} {vs:List (Key×V)},l7 K H kvs vs->RepKV K H α (Ats kvs k) (Agi vs k)
 | [],vs,r=>by
  have:=r.1;cases vs with
  | nil=>exact .nil
  | cons _ _=>simp at this
 | kv::kvs,vs,r=>by
  obtain ⟨x,vs',rfl,rx,r'⟩:=r.cons;unfold Ats Agi;rw[mL,mL];by_cases h:kv.1=k
  ·simp only[h,ne_eq,not_true_eq_false,decide_false,bS,if_false];exact RepKV.drop k r'
  ·simp only[h,ne_eq,not_false_eq_true,decide_true,if_true];exact .mk rx (RepKV.drop k r')
end MR
namespace ZT
open PySem PySem.Spec PyProof.Rows PySem.W
open Sem (wp)
section
variable {prog:cL}{w:dC}{A:dN}{E:aJ->aO->Prop}{s:aO}{T:String}{r d:Addr}{n:Nat}{P:Nat->aJ->Prop}{OK:Heap->Prop}
theorem Ab5{Q:ac->aO->Prop}(K:KdlSrc prog w T r d n P OK)(hh:A.handled=ψ)(hok:OK s.heap)
  (hQ:∀ (h':Heap) (tk:Nat) (acc:bv),Z7->ItemsOf P acc n->Q acc.toList { s with heap:=h',toks:=tk }) (hn:n<=sizeLine):cm mm A (collect ig) Q E:=by
 have hlt:=K.there _ hok;unfold collect;refine aG (wpAny_runValue (gG nW ?_));rw[eI nX _];show cm _ A.in1 (newList [] >>= fun l=>again (.builtin "list.__iadd__" ⟨[l,ig],[]⟩)) _ _;refine aG (fB ?_);refine aU ⟨jJ jP _,gG qB ?_⟩;rw[eI jP _];have hS₁:(s.heap.push { cls:=.type "list",data:=.seq ([]:ac).toArray }).get? s.heap.objs.size=ξ { cls:=.type "list",data:=.seq ([]:ac).toArray }:=ki;show i6 _ A.in1 (nY bq ig bq) _ _;refine kdl_extend (R:=wants _ E) (s:={ s with heap:=s.heap.push { cls:=.type "list",data:=.seq ([]:ac).toArray } }) K hh (K.keep _ _ hok fun b _ o e=>n8) s.heap.objs.size (iE hlt.1) (iE hlt.2) _ _ hS₁ (fun h' tk acc' c' hk hS' hacc=>?_) hn;show i6 _ A (load s.heap.objs.size >>= _) _ _;refine aG (sP hS' ?_);exact aU (hQ h' tk acc' (fun b o e=>hk b o (bW v7) n8) hacc)
end
end ZT
namespace MR
open PySem PySem.Spec PyProof.Rows PySem.Calls L2
theorem Ah8:∀ {kvs:List (Key×V)} {vs:List (Key×aJ)},KV kvs vs->Vals (kvs.map (·.2)) (vs.map (·.2))
 | _,_,.nil=>.nil
 | _,_,.cons r t=>.cons r.2 (Ah8 t)
theorem Aeu{vs:List (Key×aJ)}{acc:bv}(h:ItemsOf (fun i v=>∃ k,vs[i]? = ξ (k,v)) acc vs.length):acc.toList=vs.map (·.2):=
 PySem.W.kdl_vals_eq acc.toList (by rw[cR];exact h.1) fun j v e=>h.2 j v (by rw[<- fE];exact e)
section
variable {X:Cx}{o:Expr}{apos cpos p pos:Pos}{td:TE}{fo:FE}
def Auz(td:TE):TE:=fun σ H Q=>td σ H fun x H1=>∃ a kvs,x = bp/\H1 a=ξ fw/\∀ l,H1 l=ψ->Q cy (cb H1 l (kvs.map (·.2)))
theorem Anh(hc:X.calm=true)(hgL:Gl X "list")(hmL:X.mg "list" = ψ)(hl:l4 o td)(m:M0 X o "values" apos cpos)
  (hs2:bc [vz o "values" apos [] [] cpos]=[(false,bn (vz o "values" apos [] [] cpos))]:=by rfl):l4 (tz "list" p [vz o "values" apos [] [] cpos] []) (Auz td):=by
 intro pins s σ H Q I h;refine dR (Fs I hgL hmL Uy ?_);refine cT ?_ hs2 rfl;rw[hs2];refine oF ?_;refine wpAny_Call_method m.base m.few m.line PySem.F.plainAttrs_dict pQ PySem.F.type_dict_values (thn (hl pins s σ H _ I h) fun u s1 zz=>zz.elim fun x H1 I1 rx zq=>?_);obtain ⟨a,kvs,ex,ea,q⟩:=zq;subst ex;obtain rfl:u=eB a:=rx;obtain ⟨t1,t2,_⟩:=Avv I1 (.inl ⟨kvs,.inl ea⟩);refine ⟨t1,t2,?_⟩;rw[m.trees];obtain ⟨hd,ob,vs,ep,ho,D⟩:=Aag I1 ea;have da:=D.at_ _ _ ho;refine qN rfl (PySem.evalArgs_none ?_);refine call_meetsIn pQ t1 PySem.F.entry_dict_values (PySem.F.args_dict_values_1 _) (meets_dict_values (Bs X.prog X.w) a hd) ⟨⟨vs,da.dictOf⟩,?_⟩;refine pB ?_;have I2:lj H1 { s1 with heap:=s1.heap.push { cls:=.type "dict_values",data:=.fields #[bp] } }:=I1.kept (t':=s1.toks) fun b o e=>n8
 have hz:kvs.length<=sizeLine:=(Vv I1.hok ea).1;have hl:=KV.length D.rel;refine PySem.W.kdl_call (PySem.W.kdl_values (knd:=Bs X.prog X.w) (kvs:=vs) (ep:=ep)) (I2.ok.hd hc) ⟨⟨_,ki,rfl,rfl⟩,da.push _⟩ (by rw[<- hl];exact hz) fun h' tk acc c' hk hS hacc=>?_
 have hacc':=Aeu hacc;have hacc2:acc=(vs.map (·.2)).toArray:=by rw[<- hacc']
 have new:ObjOk X.prog X.w (cb H1 (s1.heap.push { cls:=.type "dict_values",data:=.fields #[bp] }).objs.size (kvs.map (·.2))) h' (s1.heap.push { cls:=.type "dict_values",data:=.fields #[bp] }).objs.size (.lst (kvs.map (·.2))):=
  ⟨by rw[aL];exact hz,vs.map (·.2),c',Ah8 D.rel,by rw[hS,hacc2]⟩
 exact ck (.ref _) _ (I2.laid (t':=tk) hk be new) (q _ (I2.hok.fresh be))
def Aaj(f:FE):FE:=fun δ L=>(tm).bind fun p=>match p.1 with
 | .ref n=>(B3 p.2 n).map fun kvs=>(.ref p.2.length,p.2++[.lst (Amk kvs)])
 | _=>ψ
theorem Akw(hc:X.calm=true)(hgL:Gl X "list")(hmL:X.mg "list" = ψ)(hl:gy o fo)(m:M0 X o "values" apos cpos)
  (hs2:bc [vz o "values" apos [] [] cpos]=[(false,bn (vz o "values" apos [] [] cpos))]:=by rfl):gy (tz "list" p [vz o "values" apos [] [] cpos] []) (Aaj fo):=by
 refine PE.imp (Anh hc hgL hmL hl m hs2) ?_;rintro σ H Q ⟨α,δ,L,A,S,u,L3,e,q⟩;obtain ⟨⟨u,L1⟩,e1,e⟩:=af;simp only at e;split at e
 ·obtain ⟨kvs,hd,e⟩:=cx;cases e;refine ⟨α,δ,L,A,S,_,_,e1,fun x H1 α1 g1 A1 r1=>?_⟩;obtain ⟨a,vs,rfl,ea,ha,rk⟩:=G9 A1 hd r1;refine ⟨a,vs,rfl,ha,fun l hl=>?_⟩;obtain ⟨g',A',r'⟩:=A1.lst rk.2 hl;exact q _ _ _ (g1.trans g') A' r'
 ·cases e
end
end MR
namespace SO
open PySem PySem.W PyProof.Rows
noncomputable def On{α:Type}(n:Nat)(lt:Nat->Nat->Bool)(P:α->Prop):KasT α->Prop
 | .ret a=>P a
 | .ask i j k=>i < n/\j < n/\On n lt P (k (lt i j))
variable {n:Nat}{lt:Nat->Nat->Bool}
theorem On.bind{α β:Type}{P:α->Prop}{Q:β->Prop}{f:α->KasT β}(hf:∀ a,P a->On n lt Q (f a)):∀ {t:KasT α},On n lt P t->On n lt Q (t.bind f)
 | .ret a,h=>hf a h
 | .ask i j k,h=>⟨h.1,h.2.1,On.bind hf h.2.2⟩
theorem On.imp{α:Type}{P Q:α->Prop}(hf:∀ a,P a->Q a):∀ {t:KasT α},On n lt P t->On n lt Q t
 | .ret a,h=>hf a h
 | .ask i j k,h=>⟨h.1,h.2.1,On.imp hf h.2.2⟩
theorem On.wp{α:Type}{P:α->Prop}{cmp:Nat->Nat->(Bool->aO->Prop)->aO->Prop}{s:aO}{Q:α->aO->Prop}(hc:∀ i j C,i < n->j < n->C (lt i j) s->cmp i j C s)(hq:∀ a,P a->Q a s):∀ {t:KasT α},On n lt P t->t.kasWp cmp Q s
 | .ret a,h=>hq a h
 | .ask i j k,h=>hc i j _ h.1 h.2.1 (On.wp hc hq h.2.2)
structure Wo(lt:Nat->Nat->Bool):Prop where
 asym:∀ i j,lt i j=true->lt j i=false
 tr:∀ i j k,lt j i=false->lt k j=false->lt k i=false
variable {i j k m nrem:Nat}{p:ei}
section
def Le(lt:Nat->Nat->Bool)(i j:Nat):Prop:=lt j i=false
def Eqv(lt:Nat->Nat->Bool)(i j:Nat):Prop:=Le lt i j/\Le lt j i
theorem Wo.refl(W:ir)(i:Nat):Le lt i i:=by
 unfold Le;cases h:lt i i with
 | false=>rfl
 | true=>have:=W.asym i i h;rw[h] at this;cases this
theorem Wo.le(W:ir)(h:lt i j=true):Le lt i j:=W.asym i j h
theorem Wo.trans(W:ir)(h1:Le lt i j)(h2:Le lt j k):Le lt i k:=W.tr i j k h1 h2
noncomputable def at0(p:ei)(i:Nat):Nat:=p.getD i 0
theorem Vb{q:ei}(h:p[i]? = q[j]?):vi=at0 q j:=by
 unfold at0;rw[cI,cI,h]
structure Pm(n:Nat)(p:ei):Prop where
 size:p.size=n
 perm:p.toList.Perm (bJ n)
theorem Pm.bd(h:Pm n p)(h0:0 < n)(i:Nat):vi < n:=by
 unfold at0;rw[cI];cases hi:p[i]? with
 | none=>exact h0
 | some x=>
  have:x∈p.toList:=by
   rw[<- fE] at hi;exact bT hi
  exact bM.mp (h.perm.mem_iff.mp this)
def Up(lt:Nat->Nat->Bool)(p:ei)(k:Nat):Prop:=∀ i j,i<=j->j < k->Le lt vi (c6 j)
def Dn(lt:Nat->Nat->Bool)(p:ei)(k:Nat):Prop:=∀ i j,i<=j->j < k->Le lt (c6 j) vi
theorem Up.one(W:ir)(p:ei):Up lt p 1:=fun i j h1 h2=>by
 have:i=j:=Ze
 subst this;exact l5
theorem Up.snoc(W:ir)(h:Up lt p m)(hm:1<=m)(hl:Le lt Zs (c6 m)):Up lt p (m+1):=fun i j h1 h2=>by
 by_cases hj:j < m
 ·exact h i j h1 hj
 ·have hj:j=m:=Ze
  subst hj;by_cases hi:i=j
  ·subst hi;exact l5
  ·exact W.trans (h i (j - 1) Ze Ze) hl
theorem Dn.snoc(W:ir)(h:Dn lt p m)(hm:1<=m)(hl:Le lt (c6 m) Zs):Dn lt p (m+1):=fun i j h1 h2=>by
 by_cases hj:j < m
 ·exact h i j h1 hj
 ·have hj:j=m:=Ze
  subst hj;by_cases hi:i=j
  ·subst hi;exact l5
  ·exact W.trans hl (h i (j - 1) Ze Ze)
theorem Du(hj:j<=p.size)(k:Nat):at0 (jU p i j) k=if i<=k/\k < j then at0 p (i+j - 1 - k) else c6 k:=by
 have h:=getElem?_mirror_all (xs:=p) (i:=i) hj k;unfold jU;split
 ·rename_i hc;rw[if_pos hc] at h;exact Vb h
 ·rename_i hc;rw[if_neg hc] at h;exact Vb h
theorem Pm.rev(h:Pm n p)(i j:Nat):Pm n (jU p i j):=⟨by unfold jU;rw[mirror_size];exact h.size,(mirror_perm p i j _).toList.trans h.perm⟩
theorem Pm.bub(h:Pm n p)(i j:Nat):Pm n (bubble p i j):=⟨by rw[bubble_size];exact h.size,(bubble_perm p i j).toList.trans h.perm⟩
theorem Rn{l:Nat}(hk:k < p.size)(hl:l<=k)(i:Nat):at0 (bubble p k (k - l)) i=if i=l then at0 p k else if l < i/\i<=k then at0 p (i - 1) else vi:=by
 have h:=getElem?_bubble (xs:=p) hk (k - l) Ze i;have e:k - (k - l)=l:=Ze
 rw[e] at h;split
 ·rename_i hc;rw[if_pos hc] at h;exact Vb h
 ·rename_i hc;rw[if_neg hc] at h;split
  ·rename_i hd;rw[if_pos hd] at h;exact Vb h
  ·rename_i hd;rw[if_neg hd] at h;exact Vb h
theorem Afa(W:ir)(h0:0 < n)(hp:Pm n p):∀ (f m:Nat),1<=m->m+f=nrem->Up lt p m->On n lt (fun m'=>m<=m'/\m'<=nrem/\Up lt p m'/\(m'=nrem\/lt (c6 m') (c6 (m' - 1))=true)) (kas_asc p f m)
 | 0,m,h1,hf,hu=>⟨be,Ze,hu,.inl Ze⟩
 | f+1,m,h1,hf,hu=>by
  refine ⟨pq _,pq _,?_⟩;show On n lt _ (if lt (c6 m) Zs=true then KasT.ret m else kas_asc p f (m+1));cases hl:lt (c6 m) Zs with
  | true=>exact ⟨be,Ze,hu,.inr hl⟩
  | false=>
   exact (Afa W h0 hp f (m+1) Ze Ze (hu.snoc W h1 hl)).imp fun m' ⟨a,b,c⟩=>⟨Ze,b,c⟩
def Tl(lt:Nat->Nat->Bool)(p:ei)(m q:Nat):Prop:=∀ i,m - (q+1)<=i->i < m->Eqv lt vi Zs
theorem Tl.rev(W:ir){q:Nat}(h:Tl lt p m q)(hq:q < m)(hm:m<=p.size)(k:Nat):Eqv lt (at0 (jU p (m - (q+1)) m) k) (c6 k):=by
 rw[Du hm];split
 ·rename_i hc;have a:=h (m - (q+1)+m - 1 - k) Ze Ze;have b:=h k hc.1 hc.2;exact ⟨W.trans a.1 b.2,W.trans b.1 a.2⟩
 ·exact ⟨l5,l5⟩
theorem Dn.eqv(W:ir){p':ei}(h:Dn lt p m)(he:∀ k,Eqv lt (at0 p' k) (c6 k)):Dn lt p' m:=fun i j h1 h2=>W.trans (he j).1 (W.trans (h i j h1 h2) (he i).2)
theorem T3(W:ir)(h0:0 < n)(hz:nrem<=n):∀ (f:Nat) (p:ei) (m q:Nat),Pm n p->1<=m->m+f=nrem->Dn lt p m->q < m->Tl lt p m q ->
  On n lt (fun r=>Pm n r.1/\1<=r.2.1/\r.2.1<=nrem/\Dn lt r.1 r.2.1/\r.2.2 < r.2.1/\Tl lt r.1 r.2.1 r.2.2) (kas_desc f p m q)
 | 0,p,m,q,hp,h1,hf,hd,hq,ht=>⟨hp,h1,(by show m<=nrem;omega),hd,hq,ht⟩
 | f+1,p,m,q,hp,h1,hf,hd,hq,ht=>by
  refine ⟨pq _,pq _,?_⟩;show On n lt _ (if lt (c6 m) Zs=true then _ else _);have tl0:∀ p':ei,Tl lt p' (m+1) 0:=fun p' i i1 i2=>by
   have:i=m:=Ze
   subst this;rw[jV];exact ⟨l5,l5⟩
  cases hl:lt (c6 m) Zs with
  | true=>
   have hms:m<=p.size:=by rw[hp.size];omega
   rw[jv];by_cases hq0:q > 0
   ·rw[if_pos hq0];have he:=ht.rev W hq hms;have hm':at0 (jU p (m - (q+1)) m) m=c6 m:=by rw[Du hms,if_neg Ze]
    have hd':=(hd.eqv W he).snoc W h1 (by rw[hm'];exact W.trans (W.le hl) (he (m - 1)).2)
    exact T3 W h0 hz f _ (m+1) 0 (hp.rev _ _) Ze Ze hd' Ze (tl0 _)
   ·rw[if_neg hq0];exact T3 W h0 hz f p (m+1) 0 hp Ze Ze (hd.snoc W h1 (W.le hl)) Ze (tl0 _)
  | false=>
   rw[if_neg Za];refine ⟨pq _,pq _,?_⟩;show On n lt _ (if lt Zs (c6 m)=true then _ else _);cases hl2:lt Zs (c6 m) with
   | true=>rw[jv];exact ⟨hp,h1,(by show m<=nrem;omega),hd,hq,ht⟩
   | false=>
    rw[if_neg Za];refine T3 W h0 hz f p (m+1) (q+1) hp Ze Ze (hd.snoc W h1 hl2) Ze fun i i1 i2=>?_
    rw[jV];by_cases hi:i=m
    ·subst hi;exact ⟨l5,l5⟩
    ·have a:=ht i Ze Ze;exact ⟨W.trans a.1 hl,W.trans hl2 a.2⟩
theorem Ah1(W:ir)(h0:0 < n)(hz:nrem<=n)(hp:Pm n p)(h1:1<=m)(hm:m<=nrem)(hd:Dn lt p m):On n lt Zaa (vQ m nrem p):=by
 have hms:m<=p.size:=by rw[hp.size];omega
 have hu:Up lt (jU p 0 m) m:=fun i j i1 i2=>by
  rw[Du hms,Du hms,if_pos Ze,if_pos Ze];exact hd _ _ Ze Ze
 unfold vQ;exact On.bind (fun a ⟨a1,a2,a3,_⟩=>⟨hp.rev _ _,Ze,a2,a3⟩) (Afa (nrem:=nrem) W h0 (hp.rev 0 m) (nrem - m) m h1 Ze hu)
theorem S7(W:ir)(h0:0 < n)(hz:nrem<=n)(hp:Pm n p)(hm:m+1<=nrem)(hd:Dn lt p (m+1)):On n lt Zaa (qS m nrem p):=by
 unfold qS;have tl0:Tl lt p (m+1) 0:=fun i i1 i2=>by
  have:i=m:=Ze
  subst this;rw[jV];exact ⟨l5,l5⟩
 refine On.bind (fun r ⟨a1,a2,a3,a4,a5,a6⟩=>?_) (T3 W h0 hz (nrem - (m+1)) p (m+1) 0 hp Ze Ze hd Ze tl0);have hms:r.2.1<=r.1.size:=by rw[a1.size];omega
 split
 ·exact Ah1 W h0 hz (a1.rev _ _) a2 a3 (a4.eqv W (a6.rev W a5 hms))
 ·exact Ah1 W h0 hz a1 a2 a3 a4
theorem Aoj(W:ir)(h0:0 < n)(hz:nrem<=n)(h1:1<=nrem)(hp:Pm n p):On n lt Zaa (vR nrem p):=by
 unfold vR;refine On.bind (fun m ⟨a1,a2,a3,a4⟩=>?_) (Afa (nrem:=nrem) W h0 hp (nrem - 1) 1 be Ze (Up.one W p));by_cases hm:(m == nrem)=true
 ·rw[if_pos hm];exact ⟨hp,Ze,a2,a3⟩
 ·rw[if_neg hm];have hne:m≠nrem:=by simpa using hm
  have hlt:lt (c6 m) Zs=true:=a4.resolve_left hne;by_cases hm1:m > 1
  ·rw[if_pos hm1];refine ⟨pq _,pq _,?_⟩;show On n lt _ (if lt (c6 0) Zs=true then _ else _);cases hl:lt (c6 0) Zs with
   | true=>rw[jv];exact ⟨hp,Ze,a2,a3⟩
   | false=>
    rw[if_neg Za];have hms:m<=p.size:=by rw[hp.size];omega
    have hall:∀ i j,i < m->j < m->Le lt vi (c6 j):=fun i j i1 j1=>W.trans (a3 i (m - 1) Ze Ze) (W.trans hl (a3 0 j Ze j1))
    refine S7 W h0 hz (hp.rev 0 m) Ze ?_;have hd:Dn lt (jU p 0 m) m:=fun i j i1 i2=>by
     rw[Du hms,Du hms,if_pos Ze,if_pos Ze];exact hall _ _ Ze Ze
    refine hd.snoc W Ze ?_;rw[Du hms,Du hms,if_neg Ze,if_pos Ze];exact W.trans (W.le hlt) (hall _ _ Ze Ze)
  ·rw[if_neg hm1];have:m=1:=Ze
   subst this;refine S7 W h0 hz hp Ze ?_;have hd:Dn lt p 1:=fun i j h1 h2=>by
    have:i=j:=Ze
    subst this;exact l5
   exact hd.snoc W be (W.le hlt)
theorem Vw(W:ir)(h0:0 < n)(hp:Pm n p)(hu:Up lt p k):∀ (f l r:Nat),l<=r->r<=k->r - l<=f->(∀ i,i < l->Le lt vi (c6 k))->(∀ i,r<=i->i < k->Le lt (c6 k) vi) ->
  On n lt (fun l'=>l'<=k/\(∀ i,i < l'->Le lt vi (c6 k))/\∀ i,l'<=i->i < k->Le lt (c6 k) vi) (vS p k f l r)
 | 0,l,r,h1,h2,h3,h4,h5=>⟨Ze,h4,fun i i1 i2=>h5 i Ze i2⟩
 | f+1,l,r,h1,h2,h3,h4,h5=>by
  unfold vS;by_cases hlr:l ≥ r
  ·rw[if_pos hlr];exact ⟨Ze,h4,fun i i1 i2=>h5 i Ze i2⟩
  ·rw[if_neg hlr];refine ⟨pq _,pq _,?_⟩;show On n lt _ (if lt (c6 k) (c6 ((l+r) / 2))=true then _ else _);cases hl:lt (c6 k) (c6 ((l+r) / 2)) with
   | true=>
    rw[jv];exact Vw W h0 hp hu f l ((l+r) / 2) Ze Ze Ze h4 fun i i1 i2=>W.trans (W.le hl) (hu _ _ i1 i2)
   | false=>
    rw[if_neg Za];exact Vw W h0 hp hu f ((l+r) / 2+1) r Ze h2 Ze (fun i i1=>W.trans (hu i ((l+r) / 2) Ze Ze) hl) h5
theorem An5(W:ir)(h0:0 < n):∀ (f:Nat) (p:ei) (k:Nat),Pm n p->Up lt p k->k+f=n->On n lt (fun p'=>Pm n p'/\Up lt p' n) (kas_bin f p k)
 | 0,p,k,hp,hu,hk=>⟨hp,(show k=n by omega) ▸ hu⟩
 | f+1,p,k,hp,hu,hk=>by
  unfold kas_bin;refine On.bind (fun l ⟨a1,a2,a3⟩=>?_) (Vw W h0 hp hu k 0 k Ze be Ze (fun i h=>by omega) fun i h1 h2=>by omega);have hks:k < p.size:=by rw[hp.size];omega
  refine An5 W h0 f _ (k+1) (hp.bub _ _) (fun i j i1 i2=>?_) Ze;rw[Rn hks a1,Rn hks a1];by_cases hi:i=l
  ·rw[if_pos hi];by_cases hj:j=l
   ·rw[if_pos hj];exact l5
   ·rw[if_neg hj,if_pos Ze];exact a3 _ Ze Ze
  ·rw[if_neg hi];by_cases hi2:l < i/\i<=k
   ·rw[if_pos hi2,if_neg Ze,if_pos Ze];exact hu _ _ Ze Ze
   ·rw[if_neg hi2];by_cases hj:j=l
    ·rw[if_pos hj];exact a2 _ Ze
    ·rw[if_neg hj];by_cases hj2:l < j/\j<=k
     ·rw[if_pos hj2];exact hu _ _ Ze Ze
     ·rw[if_neg hj2];exact hu _ _ i1 Ze
theorem Tf(W:ir)(h0:0 < n):On n lt (fun p=>Pm n p/\Up lt p n) (mC n):=by
 unfold mC;have hp:Pm n (hV (bJ n)):=⟨Za,Za⟩;refine On.bind (fun r ⟨a1,a2,a3,a4⟩=>?_) (Aoj W h0 (aN n) h0 hp);by_cases hr:r.1 < n
 ·rw[if_pos hr];have hm:max r.1 1=r.1:=Ze
  rw[hm];exact An5 W h0 _ _ _ a1 a4 Ze
 ·rw[if_neg hr];have:r.1=n:=Ze
  exact ⟨a1,by rw[<- this];exact a4⟩
end
end SO
namespace SO
open PySem PySem.W PySem.Calls PyProof.Rows
section
variable {P:cL}{w:dC}{A:dN}{E:aJ->aO->Prop}{s:aO}{vs:ac}{lt:Nat->Nat->Bool}{κ:rT}
def Kb(a:Addr)(h h':Heap):Prop:=∀ b o,b≠a->jd=ao->cq=ao
theorem Kb.trans{a:Addr}{h h1 h2:Heap}(x:Kb a h h1)(y:Kb a h1 h2):Kb a h h2:=fun b o hb e=>y b o hb (x b o hb e)
theorem U5(h:Heap)(a:Addr)(f:Obj->Obj):Kb a h (h.update a f):=fun b o hb e=>((dU h a f).2 b hb).trans e
theorem Ah7(a:Addr)(h:Heap)(o:Obj):Kb a h (h.push o):=fun _ _ _ e=>n8
noncomputable def Gu(vs:ac)(p:ei):ac:=p.toList.map fun i=>vs.getD i dX
theorem Vk(vs:ac):Gu vs (hV (bJ vs.length))=vs:=by
 unfold Gu;apply gU
 ·simp
 ·intro i h1 h2;simp[h2]
theorem Adv{a:Addr}{c0:Nat}{F:vT->aO->Prop}(W:ir)(ho:qu=ξ (kn c0))(h64:vs.length < 64)
  (hkind:2<=vs.length->∀ (h':Heap) (Q:rT->aO->Prop),Kb a s.heap h'->Q κ { s with heap:=h' }->wpAny (model P w) A (keyKind' vs.toArray) Q E { s with heap:=h' })
  (hask:∀ (h':Heap) (i j:Nat) (C:Bool->aO->Prop),Kb a s.heap h'->i < vs.length->j < vs.length->C (lt i j) { s with heap:=h' }->jN P w A κ vs i j C { s with heap:=h' })
  (hq:∀ (p:ei) (h':Heap) (c:Nat),Pm vs.length p->Up lt p vs.length->Kb a s.heap h'->h'.get? a=ξ (ci (Gu vs p).toArray c)->F (.done (.ret .none)) { s with heap:=h' }) :
  wpAny (model P w) A (gZ.«list.sort» ⟨[bp],[]⟩) F E s:=by
 obtain ⟨c1,h1⟩:∃ c1,(s.heap.update a (bR fun _=>(#[]:Array aJ))).get? a=ξ (seqObj "list" #[] c1):=⟨_,iY ho fun _=>#[]⟩;have k1:Kb a s.heap (((s.heap.update a Zt).push (seqObj "tuple" vs.toArray 0)).push (seqObj "list" #[] 0)):=((U5 _ _ _).trans (Ah7 _ _ _)).trans (Ah7 _ _ _);have h3:(((s.heap.update a Zt).push (seqObj "tuple" vs.toArray 0)).push (seqObj "list" #[] 0)).get? a=ξ (seqObj "list" #[] c1):=sf h1;rw[list_sort_plain];refine aG (tX ho rfl (aG (kQ ho rfl (aG (rV h1 rfl (aG (rO (aG (jK (dP ?_) (eS _))) ?z2)))) ?z1 (eS _))))
 case z1=>rw[aT,cV];omega
 case z2=>show vs.length<=_;rw[cV];omega
 show wpAny (model P w) A _ F E ({ s with heap:=((s.heap.update a Zt).push (seqObj "tuple" vs.toArray 0)).push (seqObj "list" #[] 0) }:aO);generalize ((s.heap.update a Zt).push (seqObj "tuple" vs.toArray 0)).push (seqObj "list" #[] 0)=hp at k1 h3;dsimp only;have fin:∀ (p:ei) (st:SortSt),Pm vs.length p->Up lt p vs.length->(arrOf st).map (·.2)=(Gu vs p).toArray->failedOf st=ψ->wpAny (model P w) A (do
   let touched:=(<- seqEpoch a) != c1
   gZ.List.listUpdate bp fun _=>(arrOf st).map (·.2)
   if let ξ e:=failedOf st then rule "list.sort.comparison-raised";throw e
   if touched then rule "list.sort.modified";raiseError "ValueError" "list modified during sort"
   ret .none) F E { s with heap:=hp }:=by
  intro p st hpm hup hout hfail;have hlen:(Gu vs p).length=vs.length:=by unfold Gu;rw[aL,cR,hpm.size]
  obtain ⟨c2,h4⟩:∃ c2,(hp.update a (bR fun _=>(Gu vs p).toArray)).get? a=ξ (seqObj "list" (Gu vs p).toArray c2):=⟨_,iY h3 fun _=>(Gu vs p).toArray⟩;rw[hout,hfail];refine aG (rV h3 rfl (aG (kQ h3 rfl ?_ (eS _) ?z3)))
  case z3=>rw[aT,hlen,cV];omega
  simp only[bne_self_eq_false,bS,if_false];exact aU (hq p _ c2 hpm hup (k1.trans (U5 _ _ _)) h4)
 by_cases hsmall:vs.toArray.size < 2
 ·rw[if_pos hsmall,if_pos hsmall];have hs2:vs.length < 2:=by simpa using hsmall
  refine aG (aU ?_);rw[wO];refine aG (aU (fin (hV (bJ vs.length)) (yS general' (vs.toArray.zip vs.toArray) #[] 7 ψ) ⟨Za,Za⟩ ?_ ?_ rfl))
  ·intro i j hij hj;have:i=j:=Ze
   subst this;exact l5
  ·rw[Vk];show (vs.toArray.zip vs.toArray).map (·.2)=vs.toArray;apply xY
   ·simp
   ·intro i i1 i2;simp
 ·rw[if_neg hsmall,if_neg hsmall];have hs2:2<=vs.length:=by simp at hsmall;omega
  refine aG (hkind hs2 hp _ k1 ?_);have on:=(Tf (n:=vs.length) W Ze).wp (cmp:=jN P w A κ vs) (s:={ s with heap:=hp }) (Q:=fun p s'=>(Pm vs.length p/\Up lt p vs.length)/\s' = { s with heap:=hp }) (fun i j C hi hj hC=>hask hp i j C k1 hi hj hC) fun p h=>cu h
  refine aG (dO (kat_run (Q:=fun st s'=>∃ p:ei,arrOf st=p.map (kas_item (vs.toArray.zip vs.toArray))/\failedOf st=ψ/\(Pm vs.length p/\Up lt p vs.length)/\s' = { s with heap:=hp }) rfl hs2 h64 (fun p st s' _ q1 q2 q3=>⟨p,q1,q2,q3⟩) on) ?_ fun _ _ e=>e);rintro ⟨⟨⟩,st⟩ s' ⟨p,q1,q2,⟨q3,q4⟩,rfl⟩;exact fin p st q3 q4 (kat_snds rfl q1) q2
theorem Akh{l:Addr}{Q:aJ->aO->Prop}(W:ir)(hl:s.heap.IsList l vs.toArray)(h64:vs.length < 64)
  (hkind:2<=vs.length->∀ (h':Heap) (Q:rT->aO->Prop) (E:aJ->aO->Prop),Z7->Q κ { s with heap:=h' }->wpAny (model P w) A.in1.in1 (keyKind' vs.toArray) Q E { s with heap:=h' })
  (hask:∀ (h':Heap) (i j:Nat) (C:Bool->aO->Prop),Z7->i < vs.length->j < vs.length->C (lt i j) { s with heap:=h' }->jN P w A.in1.in1 κ vs i j C { s with heap:=h' })
  (hq:∀ (p:ei) (h':Heap) (c:Nat),Pm vs.length p->Up lt p vs.length->(∀ b o,a9=ao->cq=ao)->h'.get? Zi=ξ (ci (Gu vs p).toArray c)->Q (.ref Zi) { s with heap:=h' }) :
  wpAny (model P w) A (call (.builtin "sorted") [cy]) Q E s:=by
 have e1:((s.heap.push (seqObj "list" #[] 0)).update s.heap.objs.size (bR (· ++ vs.toArray))).objs.size=s.heap.objs.size+1:=by rw[qC,xJ]
 have e2:(((s.heap.push (seqObj "list" #[] 0)).update s.heap.objs.size (bR (· ++ vs.toArray))).push (kn 0)).get? Zi=ξ (kn 0):=by rw[<- e1];exact ki
 have e3:∀ b o,a9=ao->(((s.heap.push (seqObj "list" #[] 0)).update s.heap.objs.size (bR (· ++ vs.toArray))).push (kn 0)).get? b=ao:=fun b o q=>
  aF _ (U5 _ _ _ b o (bW (bC q)) (jh q))
 have e4:∀ (h':Heap),Kb Zi (((s.heap.push (seqObj "list" #[] 0)).update s.heap.objs.size (bR (· ++ vs.toArray))).push (kn 0)) h'->∀ b o,a9=ao->cq=ao:=fun h' k b o q=>
  k b o (bW (lM (bC q))) (e3 b o q)
 refine sD pG nZ oA (args_sorted1 _) ?_;unfold gZ.«sorted»;refine aG (m:=checkCount "sorted" 1 1 _) (aU (aG (tY hl (aG (jK ?_ ?y2)) ?y1)))
 case y1=>rw[cV];omega
 case y2=>rw[cV];omega
 show i6 _ _ _ _ ({ s with heap:=((s.heap.push (seqObj "list" #[] 0)).update s.heap.objs.size (bR (· ++ vs.toArray))).push (kn 0) }:aO);rw[e1];generalize ((s.heap.push (seqObj "list" #[] 0)).update s.heap.objs.size (bR (· ++ vs.toArray))).push (kn 0)=hp at e2 e3 e4;refine aG (dP (eX lN (ik _ e2) kY (Adv (s:={ s with heap:=hp }) W e2 h64 (fun h2 h' Q' k q=>hkind h2 h' Q' _ (e4 h' k) q) (fun h' i j C k=>hask h' i j C (e4 h' k)) fun p h' c a1 a2 a3 a4=>gu _ ?_) (args_list_sort _)));exact aU (gu _ (hq p h' c a1 a2 (e4 h' a3) a4))
end
end SO
namespace MR
open PySem PySem.Spec PyProof.Rows PySem.Calls L2 SO
noncomputable def ltT:Λ->Λ->Bool
 | _,[]=>false
 | [],_::_=>true
 | a::x,b::y=>if a == b then ltT x y else decide (a < b)
theorem Ja:∀ x y:Λ,ltT x y=true->ltT y x=false
 | x,[],h=>by unfold ltT at h;cases h
 | [],b::y,_=>by simp[ltT]
 | a::x,b::y,h=>by
  unfold ltT at h ⊢;by_cases e:a=b
  ·subst e;simp only[beq_self_eq_true,if_true] at h ⊢;exact Ja x y h
  ·have h1:(a == b)=false:=by simpa using e
   have h2:(b == a)=false:=by simpa using fun q=>e q.symm
   simp only[h1,h2,bS,if_false,decide_eq_true_eq] at h ⊢;simp only[decide_eq_false_iff_not];omega
theorem Rm:∀ x y z:Λ,ltT y x=false->ltT z y=false->ltT z x=false
 | [],_,z,_,_=>by unfold ltT;rfl
 | a::x,[],z,h,_=>by simp[ltT] at h
 | a::x,b::y,[],_,h=>by simp[ltT] at h
 | a::x,b::y,c::z,h1,h2=>by
  unfold ltT at h1 h2 ⊢;by_cases e1:b=a
  ·subst e1;simp only[beq_self_eq_true,if_true] at h1;by_cases e2:c=b
   ·subst e2;simp only[beq_self_eq_true,if_true] at h2 ⊢;exact Rm x y z h1 h2
   ·have q:(c == b)=false:=by simpa using e2
    simp only[q,bS,if_false] at h2 ⊢;exact h2
  ·have q1:(b == a)=false:=by simpa using e1
   simp only[q1,bS,if_false,decide_eq_false_iff_not] at h1;by_cases e2:c=b
   ·subst e2;simp only[q1,bS,if_false,decide_eq_false_iff_not];exact h1
   ·have q2:(c == b)=false:=by simpa using e2
    simp only[q2,bS,if_false,decide_eq_false_iff_not] at h2;have e3:c≠a:=Ze
    have q3:(c == a)=false:=by simpa using e3
    simp only[q3,bS,if_false,decide_eq_false_iff_not];omega
theorem Ud:∀ x y:Λ,ltT x y=false->ltT y x=false->x=y
 | [],[],_,_=>rfl
 | a::x,[],_,h=>by simp[ltT] at h
 | [],b::y,h,_=>by simp[ltT] at h
 | a::x,b::y,h1,h2=>by
  unfold ltT at h1 h2;by_cases e:a=b
  ·subst e;simp only[beq_self_eq_true,if_true] at h1 h2;rw[Ud x y h1 h2]
  ·have q1:(a == b)=false:=by simpa using e
   have q2:(b == a)=false:=by simpa using fun q=>e q.symm
   simp only[q1,q2,bS,if_false,decide_eq_false_iff_not] at h1 h2;omega
def leT(x y:Λ):Prop:=ltT y x=false
theorem Kq:∀ {a b:lr},a.Perm b->a.Pairwise leT->b.Pairwise leT->a=b
 | [],b,p,_,_=>p.nil_eq
 | x::r,[],p,_,_=>absurd p.length_eq Za
 | x::r,y::t,p,ha,hb=>by
  have hx:x∈y::t:=p.mem_iff.mp (aS ..);have hy:y∈x::r:=p.mem_iff.mpr (aS ..);have e:x=y:=by
   rcases bE.mp hx with h | h
   ·exact h
   ·rcases bE.mp hy with h' | h'
    ·exact h'.symm
    ·exact Ud x y ((gW.mp hb).1 x h) ((gW.mp ha).1 y h')
  subst e;rw[Kq p.cons_inv (gW.mp ha).2 (gW.mp hb).2]
def Ai1(x:Λ):lr->List Λ
 | []=>[x]
 | y::r=>if ltT y x=true then y::Ai1 x r else x::y::r
theorem Se(x:Λ):∀ l,(Ai1 x l).Perm (x::l)
 | []=>.refl _
 | y::r=>by
  unfold Ai1;split
  ·exact ((Se x r).cons y).trans (.swap ..)
  ·exact .refl _
theorem Sj(x:Λ):∀ l,l.Pairwise leT->(Ai1 x l).Pairwise leT
 | [],_=>List.pairwise_singleton ..
 | y::r,h=>by
  obtain ⟨h1,h2⟩:=gW.mp h;unfold Ai1;split
  ·rename_i hl;refine gW.mpr ⟨fun z hz=>?_,Sj x r h2⟩;rcases bE.mp ((Se x r).mem_iff.mp hz) with e | e
   ·subst e;exact Ja _ _ hl
   ·exact h1 z e
  ·rename_i hl;have hl:leT x y:=by unfold leT;simpa using hl
   refine gW.mpr ⟨fun z hz=>?_,h⟩;rcases bE.mp hz with e | e
   ·subst e;exact hl
   ·exact Rm x y z hl (h1 z e)
def M8:lr->List Λ
 | []=>[]
 | x::r=>Ai1 x (M8 r)
theorem F6:∀ l,(M8 l).Perm l
 | []=>.refl _
 | x::r=>(Se x _).trans ((F6 r).cons x)
theorem Ff:∀ l,(M8 l).Pairwise leT
 | []=>.nil
 | x::r=>Sj x _ (Ff r)
inductive Tups(K:aK)(H:Hp):List (Λ)->List V->Prop
 | nil:Tups K H [] []
 | cons {a:Addr} {n:Int} {t:Λ} {ts:lr} {ys:ε} (h:lv H a ((n::t).map V.int)) (r:Tups K H ts ys):Tups K H ((n::t)::ts) (bp::ys)
variable {K:aK}{H:Hp}
theorem Tups.len{ts:lr}{ys:ε}(r:Tups K H ts ys):ts.length=ys.length:=by
 induction r with
 | nil=>rfl
 | cons h r ih=>simp[ih]
theorem Tups.at_{ts:lr}{ys:ε}(r:Tups K H ts ys):∀ i,i < ts.length->∃ (a:Addr) (n:Int) (t:Λ),ts[i]? = ξ (n::t)/\ys[i]? = η a/\lv H a ((n::t).map V.int):=by
 induction r with
 | nil=>intro i h;simp at h
 | @cons a n t ts ys h r ih=>
  intro i hi;cases i with
  | zero=>exact ⟨a,n,t,rfl,rfl,h⟩
  | succ i=>simpa using ih i (by simpa using hi)
theorem Aid{ns:Λ}{us:ac}(r:ja fu):∀ (i:Nat) (v:aJ),us[i]? = ξ v->∃ n t,ns[i]? = ξ n/\v = re n:=Ahi r
theorem Ad1{P:cL}{w:dC}{A:dN}{b fin:Bool}{s:aO}{Q:Bool->aO->Prop}:∀ (ns ms:Λ) (xs ys:ac) (i:Nat),Vals fu xs->Vals (ms.map V.int) ys->fin=decide (ns.length < ms.length)->Q (ltT ns ms) s->PySem.W.KatLex P w A b fin Q (xs.zip ys) i s
 | [],ms,xs,ys,i,rx,ry,hf,q=>by
  rw[bY] at rx;cases rx;rw[tJ];refine wQ ?_;rw[hf];cases ms with
  | nil=>exact q
  | cons m ms=>simpa[ltT] using q
 | n::ns,[],xs,ys,i,rx,ry,hf,q=>by
  rw[bY] at ry;cases ry;rw[oJ];refine wQ ?_;rw[hf];simpa[ltT] using q
 | n::ns,m::ms,xs,ys,i,rx,ry,hf,q=>by
  rw[aQ] at rx ry;cases rx with
  | cons r1 r2=>
   cases ry with
   | cons s1 s2=>
    obtain ⟨t,rfl⟩:=r1;obtain ⟨u,rfl⟩:=s1;rw[iL];refine PySem.W.kat_cons (PySem.wpAny_eqBool_int ?_);unfold ltT at q;cases e:(n == m) with
    | true=>
     rw[e,jv] at q;exact PySem.W.kat_yes (Ad1 ns ms _ _ (i+1) r2 s2 (by rw[hf];simp) q)
    | false=>
     rw[e,if_neg Za] at q;refine PySem.W.kat_no ?_;cases (b&&i == 0) with
     | true=>exact oneLt_int q
     | false=>exact PySem.W.kat_one _ _ (lt_int q)
section
variable {X:Cx}
theorem Afm(hc:X.calm=true):ll X "sorted" (fun xs H Q=>∃ (l:Addr) (ys:ε) (ts:lr),xs=[cy]/\qk X.K l ys/\Tups X.K H ts ys/\ys.length < 64 /\
  ∀ (p:Addr) (ks:Ω),qq=ψ->(ks.map fun i=>vy [])=M8 ts->(∀ k∈ks,k < ys.length)->Q d7 (cb H p (ks.map fun i=>jn i))):=by
 intro pins s σ H xs us Q I r h;obtain ⟨l,ys,ts,rfl,hq,tp,h64,q⟩:=h;obtain ⟨u,rfl,rx⟩:=Ee r;cases rx;obtain ⟨its,rv,pl,hz⟩:=oa;have hlen:=rv.length;have htl:=tp.len;have hat:∀ i,i < its.length->∃ (a:Addr) (n:Int) (t:Λ) (vs:ac),its[i]? = η a/\vy []=n::t/\Vals ((n::t).map V.int) vs/\oY s.heap a vs.toArray:=by
  intro i hi;obtain ⟨a,n,t,e1,e2,sq⟩:=tp.at_ i Ze;obtain ⟨v,e3,rr⟩:=rv.get e2;cases rr;obtain ⟨vs,r2,it,_⟩:=I.tuple sq;exact ⟨a,n,t,vs,e3,by rw[aE,e1];rfl,r2,it⟩
 have W:Wo fun i j=>ltT (vy []) (ts.getD j []):=⟨fun i j h=>Ja _ _ h,fun i j k h1 h2=>Rm _ _ _ h1 h2⟩
 refine Akh (κ:=tuples' (iJ "int" != iJ "tuple")) W pl.isList Ze ?kd ?ak ?en
 case kd=>
  intro h2 h' Q' E' kp q';have mk:∀ (m:Nat),m<=its.length->∃ fs:ac,wR h' (its.drop (its.length - m)) fs/\fs.length=m/\∀ v∈fs,xS bj h' (typeOf v) (.type "int"):=by
   intro m;induction m with
   | zero=>intro _;exact ⟨[],by rw[tW,vU];exact sE,rfl,Za⟩
   | succ m ih=>
    intro hm;obtain ⟨fs,k1,k2,k3⟩:=ih Ze;obtain ⟨a,n,t,vs,e1,_,r2,it⟩:=hat (its.length - (m+1)) Ze;obtain ⟨o,ho,hcls,nn,hd⟩:=it;rw[aQ] at r2;cases r2 with
    | @cons _ v0 _ vr rr rs=>
     obtain ⟨tk,rfl⟩:=rr;have hdrop:its.drop (its.length - (m+1)) = bp::its.drop (its.length - m):=by
      have hlt:its.length - (m+1) < its.length:=Ze
      rw[kH hlt];have:its[its.length - (m+1)] = bp:=by
       rw[aC hlt] at e1;exact bQ e1
      rw[this]
      congr 2;omega
     refine ⟨.int n tk::fs,?_,by simp[k2],fun v hv=>?_⟩
     ·rw[hdrop];exact rW (kp _ _ ho) hcls hd rfl k1
     ·rcases bE.mp hv with e | e
      ·subst e;exact pH
      ·exact k3 v e
  obtain ⟨fs,k1,k2,k3⟩:=mk its.length be;rw[dA,rR] at k1;exact vV (s:={ s with heap:=h' }) k1 Ze k3 rfl q'
 case ak=>
  intro h' i j C kp hi hj hC;obtain ⟨a,n,t,vs,e1,e2,r2,it⟩:=hat i hi;obtain ⟨b,m,u,ws,f1,f2,s2,jt⟩:=hat j hj;obtain ⟨o,ho,_,c1,hd⟩:=it;obtain ⟨o',ho',_,c2,hd'⟩:=jt;have g1:its.getD i dX = bp:=by rw[aE,e1];rfl
  have g2:its.getD j dX = gv:=by rw[aE,f1];rfl
  unfold jN;rw[g1,g2];refine xK (s:={ s with heap:=h' }) (kp _ _ ho) hd (kp _ _ ho') hd' ?_;have hl1:=r2.length;have hl2:=s2.length;rw[aL] at hl1 hl2;refine Ad1 (n::t) (m::u) vs ws 0 r2 s2 ?_ ?_
  ·rw[aT,aT,<- hl1,<- hl2]
  ·rw[<- e2,<- f2];exact hC
 case en=>
  intro p h' c hp hu kp hl;have hks:(p.toList.map fun i=>vy [])=M8 ts:=by
   refine Kq ?_ ?_ (Ff ts)
   ·have e:(bJ its.length).map (fun i=>vy [])=ts:=by
     apply gU
     ·simp;omega
     ·intro i h1 h2;simp[h2]
    exact ((hp.perm.map _).trans (by rw[e])).trans (F6 ts).symm
   ·rw[fY,cK];intro i j hi hj hij;have hz:p.toList.length=its.length:=by rw[cR];exact hp.size
    have:=hu i j (iZ hij) Ze;have ai:vi=p.toList[i]:=by unfold at0;rw[cI,<- fE,km];rfl
    have aj:c6 j=p.toList[j]:=by unfold at0;rw[cI,<- fE,aC hj];rfl
    rw[ai,aj] at this;exact this
  have hlt:∀ k∈p.toList,k < ys.length:=fun k hk=>by
   have:=bM.mp (hp.perm.mem_iff.mp hk);omega
  have hrel:Vals (p.toList.map fun i=>jn i) (Gu its p):=by
   unfold Gu;have:∀ ks:Ω,(∀ k∈ks,k < ys.length)->Vals (ks.map fun i=>jn i) (ks.map fun i=>its.getD i dX):=by
    intro ks;induction ks with
    | nil=>intro _;exact .nil
    | cons k ks ih=>
     intro hk;have hk0:=hk k (aS ..);obtain ⟨v,e3,rr⟩:=rv.get (aC hk0);refine .cons ?_ (ih fun x hx=>hk x vn);show L2.RelV (jn k) (its.getD k dX);rw[aE,aE,aC hk0,e3];exact rr
   exact this _ hlt
  have hsz:(p.toList.map fun i=>jn i).length<=sizeLine:=by
   have:p.toList.length=its.length:=by rw[cR];exact hp.size
   rw[aL,this,cV];omega
  have I1:f8 (cb H Zi (p.toList.map fun i=>jn i)) { s with heap:=h' }:=I.laid (t':=s.toks) kp (iB _) ⟨hsz,Gu its p,c,hrel,hl⟩;exact ck (.ref Zi) _ I1 (q _ _ (I.hok.fresh (iB _)) hks hlt)
end
def Oz:U->Option Λ
 | .tup l=>mapO toI l
 | _=>ψ
noncomputable def Mj(l:Λ):U:=.tup (l.map U.int)
def Nw:SC:=fun us L=>match us with
 | [.ref n]=>(sy).bind fun l=>(mapO Oz l).bind fun ts=>if ts.length < 64/\(ts.all fun t=>!t.isEmpty)=true then ξ (cf,L++[.lst ((M8 ts).map Mj)]) else ψ
 | _=>ψ
theorem Ahq{α:Ψ}:∀ {us:aa} {ys:ε} {ts:lr},vm us ys->mapO Oz us=ξ ts->(ts.all fun t=>!t.isEmpty)=true->Tups K H ts ys
 | [],ys,ts,r,e,h=>by
  unfold RepL at r;subst r;simp only[mapO] at e;cases e;exact .nil
 | u::us,ys,ts,r,e,h=>by
  unfold RepL at r;obtain ⟨x,xr,rfl,r1,r2⟩:=r;simp only[mapO] at e;obtain ⟨t,e1,e⟩:=af;obtain ⟨tr,e2,e⟩:=cx;subst e;rw[jH,cB] at h;have ih:=Ahq r2 e2 h.2;cases u with
  | tup l=>
   unfold RepU at r1;obtain ⟨a,vs,rfl,sq,rl⟩:=r1;have hv:=G8 rl e1;rw[hv] at sq;cases t with
   | nil=>simp at h
   | cons n t=>exact .cons sq ih
  | _=>cases e1
theorem Tp:∀ {us:aa} {ts:lr},mapO Oz us=ξ ts->us=ts.map Mj
 | [],ts,e=>by simp only[mapO] at e;cases e;rfl
 | u::us,ts,e=>by
  simp only[mapO] at e;obtain ⟨t,e1,e⟩:=af;obtain ⟨tr,e2,e⟩:=cx;subst e;rw[aQ,Tp e2]
  congr 1
  cases u with
  | tup l=>
   have:∀ (l:aa) (t:Λ),mapO toI l=ξ t->l=t.map U.int:=by
    intro l;induction l with
    | nil=>intro t e;simp only[mapO] at e;cases e;rfl
    | cons a l ih=>
     intro t e;simp only[mapO] at e;obtain ⟨x,x1,e⟩:=af;obtain ⟨y,y1,e⟩:=cx;subst e;rw[aQ,<- ih y y1];cases a <;> first | (cases x1;rfl) | cases x1
   unfold Mj;rw[this l t e1]
  | _=>cases e1
theorem Akm:R9 K (fun xs H Q=>∃ (l:Addr) (ys:ε) (ts:lr),xs=[cy]/\qk K l ys/\Tups K H ts ys/\ys.length < 64 /\
  ∀ (p:Addr) (ks:Ω),qq=ψ->(ks.map fun i=>vy [])=M8 ts->(∀ k∈ks,k < ys.length)->Q d7 (cb H p (ks.map fun i=>jn i))) Nw:=by
 intro H α L us xs z L' Q A r e q;unfold Nw at e;split at e
 ·obtain ⟨l,hl,e⟩:=af;obtain ⟨ts,hts,e⟩:=af;split at e
  ·rename_i hc;cases e;obtain ⟨x,rfl,rx⟩:=r.one;obtain ⟨a,ys,rfl,sq,r2⟩:=Fi A hl rx;have tp:=Ahq r2 hts hc.2;have hlen:=tp.len;refine ⟨a,ys,ts,rfl,sq,tp,Ze,fun p ks hp hks hlt=>?_⟩;have rl:vm ((M8 ts).map Mj) (ks.map fun i=>jn i):=by
    rw[<- hks];have hus:=Tp hts;have:∀ ks:Ω,(∀ k∈ks,k < ys.length)->vm ((ks.map fun i=>vy []).map Mj) (ks.map fun i=>jn i):=by
     intro ks;induction ks with
     | nil=>intro _;exact .nil
     | cons k ks ih=>
      intro hk;have hk0:=hk k (aS ..);have hkt:k < ts.length:=Ze
      refine .cons ?_ (ih fun x hx=>hk x vn);have eu:l[k]? = ξ (Mj (ts.getD k [])):=by
       rw[hus,aX,aE,aC hkt];rfl
      obtain ⟨x,ex,rx⟩:=r2.get eu;show gh K H (Mj (ts.getD k [])) (jn k);rw[aE (l:=ys),ex];exact rx
    exact this ks hlt
   obtain ⟨g2,A2,r3⟩:=A.lst rl hp;exact q _ _ _ g2 A2 r3
  ·cases e
 ·cases e
noncomputable def Qj(s:Str):Λ:=s.cps.toList.map mO
noncomputable def V9(l:Λ):Str:=⟨(l.map Int.toNat).toArray⟩
theorem Ak5(s:Str):V9 (Qj s)=s:=by
 unfold V9 Qj;rw[bU];have:(Int.toNat∘mO)=id:=by funext x;rfl
 rw[this,wB]
theorem Agw:∀ a b:Ω,ltT (a.map mO) (b.map mO)=decide (a < b)
 | a,[]=>by cases a <;> simp[ltT]
 | [],b::bs=>by simp[ltT]
 | a::as,b::bs=>by
  have ih:=Agw as bs;rw[aQ,aQ];unfold ltT;by_cases e:a=b
  ·subst e;rw[if_pos Za,ih];simp
  ·have h1:(mO a == mO b)=false:=by rw[beq_eq_false_iff_ne];exact fun h=>e (xT h)
   rw[h1,if_neg Za];have:(mO a < mO b)↔a < b:=Za
   rw[decide_eq_decide,this,List.cons_lt_cons_iff];constructor
   ·exact .inl
   ·rintro (h | ⟨h,_⟩)
    ·exact h
    ·exact absurd h e
def Bx(ts:Φ):Φ:=(M8 (ts.map Qj)).map V9
theorem Mb(ts:Φ):(Bx ts).Perm ts:=by
 have:=(F6 (ts.map Qj)).map V9;rw[bU] at this;have e:ts.map (V9∘Qj)=ts:=by
  rw[show (V9∘Qj)=id from funext Ak5,wB]
 rw[e] at this;exact this
theorem Ac3{a b:Φ}(h:a.Perm b):Bx a=Bx b:=by
 unfold Bx;rw[Kq (((F6 _).trans (h.map Qj)).trans (F6 _).symm) (Ff _) (Ff _)]
section
variable {X:Cx}
end
end MR
namespace SO
open PySem PySem.W PySem.Calls PyProof.Rows
section
variable {P:cL}{w:dC}{A:dN}{E:aJ->aO->Prop}{s:aO}{vs:ac}{lt:Nat->Nat->Bool}{κ:rT}
end
end SO
namespace MR
open PySem PySem.Spec PyProof.Rows PySem.Calls L2 SO
section
variable {X:Cx}
end
end MR
namespace QS
open PySem PySem.Spec PyProof.Rows
abbrev Ky:=L2.Key
theorem Amh(a b:Ky):(a == b)=decide (a=b):=by
 cases a with
 | inl i=>cases b with
  | inl j=>show (i == j)=_;rw[eV];simp
  | inr y=>rfl
 | inr x=>cases b with
  | inl j=>rfl
  | inr y=>show (x == y)=_;rw[eV];simp
instance:LawfulBEq L2.Key where
 eq_of_beq {a b} h:=by rw[Amh] at h;simpa using h
 rfl {a}:=by rw[Amh];simp
def met(val:Nat->Ky)(i:Nat):List Ky:=((bJ i).map val).foldl step_dedup []
section
variable {prog:cL}{w:dC}{A:dN}{R:vF->aO->Prop}{I:Addr}{fp wr:Ψ}{G:Array mV->Array mV->Prop}{n:Nat}{P:Nat->aJ->Prop}{St:Nat->aO->Prop}
end
section
variable {prog:cL}{w:dC}{A:dN}{E:aJ->aO->Prop}{s:aO}
end
end QS
namespace MR
open PySem PySem.Spec PyProof.Rows PySem.Calls L2
section
variable {X:Cx}
end
end MR
namespace SO
open PySem PySem.W PySem.Calls PyProof.Rows
section
variable {P:cL}{w:dC}{A:dN}{E:aJ->aO->Prop}{s:aO}{lt:Nat->Nat->Bool}{κ:rT}
theorem Aeg{l:Addr}{Q:aJ->aO->Prop}{OK:ac->Prop}(W:ir)(hcol:∀ (A':dN) (E':aJ->aO->Prop) (Q':ac->aO->Prop),A'.handled=A.handled->(∀ h1 tk vs,(∀ b o,a9=ao->h1.get? b=ao)->OK vs->Q' vs { s with heap:=h1,toks:=tk })->cm (model P w) A' (collect cy) Q' E')(h64:∀ vs,OK vs->vs.length < 64)
  (hkind:∀ vs,OK vs->2<=vs.length->∀ (h':Heap) (tk:Nat) (Q:rT->aO->Prop) (E:aJ->aO->Prop),Q κ { s with heap:=h',toks:=tk }->wpAny (model P w) A.in1.in1 (keyKind' vs.toArray) Q E { s with heap:=h',toks:=tk })
  (hask:∀ vs,OK vs->∀ (h':Heap) (tk:Nat) (i j:Nat) (C:Bool->aO->Prop),i < vs.length->j < vs.length->C (lt i j) { s with heap:=h',toks:=tk }->jN P w A.in1.in1 κ vs i j C { s with heap:=h',toks:=tk })
  (hq:∀ vs,OK vs->∀ (h1:Heap) (tk:Nat),(∀ b o,a9=ao->h1.get? b=ao)->∀ (p:ei) (h':Heap) (c:Nat),Pm vs.length p->Up lt p vs.length->(∀ b o,h1.get? b=ao->cq=ao)->h'.get? h1.objs.size=ξ (ci (Gu vs p).toArray c)->Q (.ref h1.objs.size) { s with heap:=h',toks:=tk }) :
  wpAny (model P w) A (call (.builtin "sorted") [cy]) Q E s:=by
 refine sD pG nZ oA (args_sorted1 _) ?_;unfold gZ.«sorted»;refine aG (m:=checkCount "sorted" 1 1 _) (aU (aG (hcol _ _ _ rfl fun h1 tk vs kp ok=>aG (jK ?_ ?y2))))
 case y2=>have:=h64 vs ok;rw[cV];omega
 have e2:(h1.push (kn 0)).get? h1.objs.size=ξ (kn 0):=ki;have e3:∀ b o,h1.get? b=ao->(h1.push (kn 0)).get? b=ao:=fun b o q=>jh q
 have e4:∀ (h':Heap),Kb h1.objs.size (h1.push (kn 0)) h'->∀ b o,h1.get? b=ao->cq=ao:=fun h' k b o q=>
  k b o (bW (bC q)) (e3 b o q)
 show i6 _ _ _ _ ({ s with heap:=h1.push (kn 0),toks:=tk }:aO);generalize h1.push (kn 0)=hp at e2 e3 e4;refine aG (dP (eX lN (ik _ e2) kY (Adv (s:={ s with heap:=hp,toks:=tk }) W e2 (h64 vs ok) (fun h2 h' Q' k q=>hkind vs ok h2 h' tk Q' _ q) (fun h' i j C k=>hask vs ok h' tk i j C) fun p h' c a1 a2 a3 a4=>gu _ ?_) (args_list_sort _)));exact aU (gu _ (hq vs ok h1 tk kp p h' c a1 a2 (e4 h' a3) a4))
end
end SO
namespace MR
open PySem PySem.Spec PyProof.Rows PySem.Calls L2 SO
def Ar8:Key->Option Str
 | .inr x=>ξ x
 | _=>ψ
theorem Ah2:∀ {kvs:List (Key×V)} {vs:List (Key×aJ)},KV kvs vs->vs.map (·.1)=kvs.map (·.1)
 | _,_,.nil=>rfl
 | _,_,.cons r t=>by rw[aQ,aQ,Ah2 t,r.1]
theorem Aqp{prog:cL}{w:dC}{x:Str}{v:aJ}(h:(Bs prog w).is (.inr x) v=true):∃ t,v = .str x t:=by
 rw[(Bs prog w).strs (.inr x) x 0 v (Sk prog w x 0)] at h;cases v <;> simp[aJ.isStr] at h
 subst h;exact jk
theorem Abl{K:aK}{H:Hp}{α:Ψ}(ws:Φ):vm lh (ws.map V.str):=by
 induction ws with
 | nil=>exact .nil
 | cons w ws ih=>exact .cons (by unfold RepU;rfl) ih
section
variable {X:Cx}
abbrev Agm:ε->Hp->VK->Prop:=fun xs H Q=>∃ (a:Addr) (kvs:List (Key×V)) (ts:Φ),xs=[bp]/\j7=ξ fw/\kvs.map (·.1)=ts.map dM/\ts.length < 64/\∀ (p:Addr),qq=ψ->Q d7 (cb H p ((Bx ts).map V.str))
theorem Ww{pins:List (Addr×Obj)}{s:aO}{σ:L2.St}{H:Hp}{Q:VK}{a:Addr}{ts:Φ}(I:lj H s)(h64:ts.length < 64)(q:∀ (p:Addr),qq=ψ->Q d7 (cb H p ((Bx ts).map V.str)))
  (hcol:∀ (A':dN) (E':aJ->aO->Prop) (Q':ac->aO->Prop),A'.handled=X.A.handled->(∀ h1 tk vs,(∀ b o,a9=ao->h1.get? b=ao)->(vs.length=ts.length/\∀ i,i < vs.length->∃ t,vs[i]? = ξ (.str (vy "") t))->Q' vs { s with heap:=h1,toks:=tk })->cm bj A' (collect bp) Q' E') :
  wpAny bj X.A (call (.builtin "sorted") [bp]) Zu X.xe s:=by
 have W:Wo fun i j=>ltT (Qj (vy "")) (Qj (ts.getD j "")):=⟨fun i j h=>Ja _ _ h,fun i j k h1 h2=>Rm _ _ _ h1 h2⟩
 refine Aeg (κ:=oneType') (OK:=fun its=>its.length=ts.length/\∀ i,i < its.length->∃ t,its[i]? = ξ (.str (vy "") t)) W hcol (fun its ok=>by omega) ?kd ?ak ?en
 case kd=>
  intro its ok h2 h' tk Q' E' q';refine PySem.W.kas_kind (T:=.type "str") h2 (fun v hv=>?_) rfl rfl q';obtain ⟨i,hi,rfl⟩:=dE hv;obtain ⟨t,e⟩:=ok.2 i hi;rw[km] at e;rw[bQ e];exact pH
 case ak=>
  intro its ok h' tk i j C hi hj hC;obtain ⟨t,e1⟩:=ok.2 i hi;obtain ⟨u,f1⟩:=ok.2 j hj;have g1:its.getD i dX = .str (vy "") t:=by rw[aE,e1];rfl
  have g2:its.getD j dX = .str (ts.getD j "") u:=by rw[aE,f1];rfl
  unfold jN;rw[g1,g2];refine PySem.W.kas_lt_str ?_;rw[<- Agw];exact hC
 case en=>
  intro its ok h1 tk kp1 p h' c hp hu kp hl2;have hlen:ts.length=its.length:=ok.1.symm;have hat:=ok.2;have J0:lj H { s with heap:=h1,toks:=tk }:=I.kept (t':=tk) kp1;have hks2:(p.toList.map fun i=>Qj (vy ""))=M8 (ts.map Qj):=by
   refine Kq ?_ ?_ (Ff _)
   ·have e:(bJ its.length).map (fun i=>Qj (vy ""))=ts.map Qj:=by
     apply gU
     ·simp;omega
     ·intro i h1 h2;have:i < ts.length:=by simpa using h2
      simp[this]
    exact ((hp.perm.map _).trans (by rw[e])).trans (F6 _).symm
   ·rw[fY,cK];intro i j hi hj hij;have hz:p.toList.length=its.length:=by rw[cR];exact hp.size
    have:=hu i j (iZ hij) Ze;have ai:vi=p.toList[i]:=by unfold at0;rw[cI,<- fE,km];rfl
    have aj:c6 j=p.toList[j]:=by unfold at0;rw[cI,<- fE,aC hj];rfl
    rw[ai,aj] at this;exact this
  have hlt:∀ k∈p.toList,k < its.length:=fun k hk=>bM.mp (hp.perm.mem_iff.mp hk)
  have hout:(p.toList.map fun i=>V.str (vy ""))=(Bx ts).map V.str:=by
   unfold Bx;rw[<- hks2,bU,bU];exact dG fun i _=>by show _=V.str (V9 (Qj _));rw[Ak5]
  have hrel:Vals ((Bx ts).map V.str) (Gu its p):=by
   rw[<- hout];unfold Gu;have:∀ ks:Ω,(∀ k∈ks,k < its.length)->Vals (ks.map fun i=>V.str (vy "")) (ks.map fun i=>its.getD i dX):=by
    intro ks;induction ks with
    | nil=>intro _;exact .nil
    | cons k ks ih=>
     intro hk;obtain ⟨t,e⟩:=hat k (hk k (aS ..));refine .cons ?_ (ih fun x hx=>hk x vn);show L2.RelV (V.str (ts.getD k "")) (its.getD k dX);rw[aE (l:=its),e];exact cu t
   exact this _ hlt
  have hsz:((Bx ts).map V.str).length<=sizeLine:=by
   rw[aL,(Mb ts).length_eq,cV];omega
  have I1:f8 (cb H h1.objs.size ((Bx ts).map V.str)) { s with heap:=h',toks:=tk }:=J0.laid (t':=tk) kp be ⟨hsz,Gu its p,c,hrel,hl2⟩;exact ck (.ref h1.objs.size) _ I1 (q _ (J0.hok.fresh be))
abbrev Age(K:aK):ε->Hp->VK->Prop:=fun xs H Q=>∃ (l:Addr) (ts:Φ),xs=[cy]/\qk K l (ts.map V.str)/\ts.length < 64/\∀ (p:Addr),qq=ψ->Q d7 (cb H p ((Bx ts).map V.str))
theorem Sm(hc:X.calm=true):ll X "sorted" (fun xs H Q=>Age X.K xs H Q\/Agm xs H Q):=by
 intro pins s σ H xs us Q I r h;rcases h with ⟨l,ts,rfl,hq,h64,q⟩ | ⟨a,kvs,ts,rfl,ea,hk,h64,q⟩
 ·obtain ⟨u,rfl,rx⟩:=Ee r;cases rx;obtain ⟨its,rv,pl,hz⟩:=oa;have hlen:=rv.length;rw[aL] at hlen;refine Ww I h64 q fun A' E' Q' hA hQ=>tY pl.isList (hQ _ s.toks its (fun b o e=>U5 _ _ _ b o (bW v7) n8) ⟨Ze,fun i hi=>?_⟩) (by rw[cV];omega)
  have hi':i < ts.length:=Ze
  obtain ⟨v,e3,rr⟩:=rv.get (i:=i) (x:=V.str (ts[i]'hi')) (by rw[aX,aC hi'];rfl);obtain ⟨t,rfl⟩:=rr;exact ⟨t,by rw[e3,aE,aC hi'];rfl⟩
 ·obtain ⟨u,rfl,rx⟩:=Ee r;cases rx;obtain ⟨hd,ob,vs,ep,ho,D⟩:=Aag I ea;have da:=D.at_ _ _ ho;have hl:=KV.length D.rel;have hkl:kvs.length=ts.length:=by have:=congrArg lC hk;simpa using this
  have hks:vs.map (·.1)=ts.map dM:=by
   rw[<- hk];exact Ah2 D.rel
  refine Ww I h64 q fun A' E' Q' hA hQ=>ZT.Ab5 (PySem.W.kdl_dict (knd:=Bs X.prog X.w) (kvs:=vs) (ep:=ep) hd) (by rw[hA];exact i7) da (fun h' tk acc hkp hacc=>hQ h' tk acc.toList hkp ⟨by rw[cR,hacc.1];omega,fun i hi=>?_⟩) (by rw[cV];omega)
  have hi2:i < acc.size:=by simpa using hi
  obtain ⟨k,x,e1,e2⟩:=hacc.2 i acc[i] (by simp[hi2]);have hi3:i < ts.length:=by have:=hacc.1;omega
  have:(vs.map (·.1))[i]? = ξ k:=by rw[aX,e1];rfl
  rw[hks,aX,aC hi3] at this;cases this;obtain ⟨t,et⟩:=Aqp e2;refine ⟨t,?_⟩;rw[km,aE,aC hi3,Array.getElem_toList,et];rfl
end
def Eh:SC:=fun us L=>match us with
 | [.ref n]=>match B3 L n with
  | some kvs=>(mapO Ar8 (kvs.map (·.1))).bind fun ts=>if ts.length < 64 then ξ (cf,L++[.lst ((Bx ts).map U.str)]) else ψ
  | none=>(sy).bind fun l=>(mapO toS l).bind fun ts=>if ts.length < 64 then ξ (cf,L++[.lst ((Bx ts).map U.str)]) else ψ
 | _=>ψ
theorem Ato:∀ {ks:mz} {ts:Φ},mapO Ar8 ks=ξ ts->ks=ts.map dM
 | [],ts,e=>by simp only[mapO] at e;cases e;rfl
 | k::ks,ts,e=>by
  simp only[mapO] at e;obtain ⟨x,hx,e⟩:=af;obtain ⟨y,hy,e⟩:=cx;subst e;cases k with
  | inl i=>cases hx
  | inr z=>cases hx;rw[aQ,Ato hy]
theorem Vh{K:aK}:R9 K (fun xs H Q=>Age K xs H Q\/Agm xs H Q) Eh:=by
 intro H α L us xs z L' Q A r e q;unfold Eh at e;split at e
 ·rename_i n;split at e
  ·rename_i kvs hd;obtain ⟨ts,hts,e⟩:=af;split at e
   ·rename_i hl;cases e;obtain ⟨x,rfl,rx⟩:=r.one;obtain ⟨a,vs,rfl,ea,ha,rk⟩:=G9 A hd rx;have hk:=Ato hts;refine .inr ⟨a,vs,ts,rfl,ha,?_,hl,fun p hp=>?_⟩
    ·rw[<- hk];exact rk.1.symm
    ·obtain ⟨g',A',r'⟩:=A.lst (Abl (K:=K) (H:=H) (α:=α) (Bx ts)) hp;exact q _ _ _ g' A' r'
   ·cases e
  ·obtain ⟨l,hl0,e⟩:=af;obtain ⟨ts,hts,e⟩:=af;split at e
   ·rename_i hl;cases e;obtain ⟨x,rfl,rx⟩:=r.one;obtain ⟨a,ys,rfl,sq,r2⟩:=Fi A hl0 rx;rw[Aa0 r2 hts] at sq;refine .inl ⟨a,ts,rfl,sq,hl,fun p hp=>?_⟩;obtain ⟨g',A',r'⟩:=A.lst (Abl (K:=K) (H:=H) (α:=α) (Bx ts)) hp;exact q _ _ _ g' A' r'
   ·cases e
 ·cases e
end MR
namespace MR
open PySem PySem.Spec PyProof.Rows PySem.Calls L2
theorem Ajb{X:Cx}:m9 X .IsNot (Aqh true):=Ap2.or (by
 intro pins s σ H x y v u Q I rx ry h;obtain ⟨a,b,rfl,rfl,q⟩:=h;cases rx;cases ry;exact isnot_bool (ck (.bl _) H I q))
end MR
namespace HT
open PySem PyProof.Rows
section
open PySem.SeqAt
open PySem.AutoSeq1
theorem Af7(l:Addr)(items:bv)(n:Nat)(b:Addr)(items2:bv)(n2:Nat)(dd:du)(sl:Array bi)(hs0:¬(!items.isEmpty&&fF (items.size+items2.size))=true)(hs1:items.size<=sizeLine)(hs2:items.size+items2.size<=sizeLine+1) :
  Meets (gZ.«list.extend» ⟨[cy,gv],[]⟩) (fun _ R s=>s.heap.get? l=ξ { cls:=.type "list",dict:=ψ,data:=.seq items n,slots:=#[] }/\a9=ξ { cls:=.type "tuple",dict:=dd,data:=.seq items2 n2,slots:=sl }/\R (.ok (.ret dX)) { s with heap:=s.heap.update l (bR fun x=>x++items2),toks:=s.toks }):=
 .of_wp fun prog w A R s h=>by
  obtain ⟨hp,g,d,tk,os⟩:=s;obtain ⟨hl,hb,h⟩:=h;have f1:=idx_int;have f2:=kN;have f3:=AutoSeq1.sub_list_list;have f4:=AutoSeq1.sub_tuple_list;have f5:=AutoSeq1.sub_list_tuple;have hz':(items++items2).size<=sizeLine+1:=by rw[pF];exact hs2
  wp_walk using (kW hl rfl (hz:=hs1) (_hz':=hz')),gE hl,gE hb
  exact gu _ h
end
end HT
namespace MR
open PySem PySem.Spec PyProof.Rows PySem.Calls L2
def Alm(K:aK):V->ε->Hp->VK->Prop:=fun x vs H Q=>∃ l b xs zs,x = cy/\vs=[gv]/\H l=Ξ xs/\lv H b zs/\xs.length+zs.length<=sizeLine/\Q .non (cb H l (xs++zs))
theorem Apy{X:Cx}:MtM X "list.extend" (Alm X.K):=by
 intro pins s σ H x vs v us Q I rx rv h;obtain ⟨l,b,xs,zs,rfl,rfl,hH,hB,hz,q⟩:=h;cases rx;obtain ⟨u,rfl,ru⟩:=rv.one;cases ru;obtain ⟨z,its,n,r,hl,e⟩:=I.lstM hH;obtain ⟨its2,r2,tp,_⟩:=I.tuple hB;have hl2:=r2.length;obtain ⟨⟨cls,dd,data,sl⟩,ho,hc,n2,hd⟩:=tp;simp only at hc hd;subst hc hd;have hsz:its.toArray.size+its2.toArray.size<=sizeLine:=by rw[aT,aT];omega
 have hlong:¬ (!its.toArray.isEmpty&&fF (its.toArray.size+its2.toArray.size))=true:=by
  rw[V8 hsz,oO];exact cO
 refine oN sW ⟨_,e,rfl⟩ sC (rJ _ _)
  (HT.Af7 l its.toArray n b its2.toArray n2 dd sl hlong (by rw[aT];omega) Ze) ⟨e,ho,?_⟩
 refine ck .non _ (I.lset (its':=its++its2) hH e Za (r.append r2) ?_) q;rw[cG];omega
theorem Asc{X:Cx}:MtM X "list.extend" (fun x vs H Q=>T4 x vs H Q\/Alm X.K x vs H Q):=fun pins s σ H x vs v us Q I rx rv h=>
 h.elim (fun h=>Ai3 pins s σ H x vs v us Q I rx rv h) (fun h=>Apy pins s σ H x vs v us Q I rx rv h)
def Te:SM:=fun u us L=>match u,us with
 | .ref n,[.tup l']=>(Fy L n).bind fun l=>if l.length+l'.length<=sizeLine then ξ (.non,ml n (l++l')) else ψ
 | u,us=>R4 u us L
theorem Ak1{K:aK}:Af2 K (fun x vs H Q=>T4 x vs H Q\/Alm K x vs H Q) Te:=by
 intro H α L u us x xs z L' Q A ru r e q;unfold Te at e;split at e
 ·obtain ⟨l,hl,e⟩:=af;split at e
  ·rename_i hs;cases e;obtain ⟨v,rfl,rv⟩:=r.one;obtain ⟨a,ys,rfl,ea,h,r2⟩:=Lp A hl ru;unfold RepU at rv;obtain ⟨b,ws,rfl,sq,r3⟩:=rv;obtain ⟨g,A'⟩:=A.setL hl ea h (r2.append r3);exact .inr ⟨a,b,ys,ws,rfl,rfl,h,sq,by rw[<- r2.length,<- r3.length];exact hs,q _ _ _ g A' rfl⟩
  ·cases e
 ·exact .inl (Ae0 H α L u us x xs z L' Q A ru r e q)
end MR
namespace SO
open PySem PySem.W PyProof.Rows
noncomputable def Agd{α:Type}(lt:Nat->Nat->Bool):KasT α->α
 | .ret a=>a
 | .ask i j k=>Agd lt (k (lt i j))
variable {n:Nat}{lt:Nat->Nat->Bool}
theorem On.run{α:Type}{P:α->Prop}:∀ {t:KasT α},On n lt P t->On n lt (fun a=>a=Agd lt t) t
 | .ret a,h=>rfl
 | .ask i j k,h=>⟨h.1,h.2.1,On.run h.2.2⟩
theorem On.holds{α:Type}{P:α->Prop}:∀ {t:KasT α},On n lt P t->P (Agd lt t)
 | .ret a,h=>h
 | .ask i j k,h=>by
  show P (Agd lt (k (lt i j)));exact On.holds h.2.2
def Cr(lt:Nat->Nat->Bool)(n:Nat):Ω:=if n < 2 then bJ n else (Agd lt (mC n)).toList
theorem Gb(W:ir):(Cr lt n).Perm (bJ n):=by
 unfold Cr;split
 ·exact .refl _
 ·exact (Tf (n:=n) W Ze).holds.1.perm
end SO
namespace MR
open PySem PySem.Spec PyProof.Rows PySem.Calls L2 SO
variable {X:Cx}{pins:List (Addr×Obj)}{σ:L2.St}{H:Hp}{s:aO}{A:dN}{k:Nat}{f:Addr}{fd:fA}{p:Str}{m:FN}
section
variable {h':Heap}
theorem Inv.adopt{a:Addr}{o:HO}{t':Nat}(I:lj H s)(hf:vt X H a)(k:∀ b o,b≠a->a9=ao->cq=ao)(new:ObjOk X.prog X.w (f7 a o) h' a o) :
  L2.Inv X pins σ (f7 a o) { s with heap:=h',toks:=t' }:=by
 have hn:j7=ψ:=hf.1;have na:∀ b u,gn=br->b≠a:=fun b u e z=>by rw[z,hn] at e;cases e
 have st:=Stay.new hn o;refine I.step (g':=s.gens) (d':=s.drawn) (ch:=[a]) (fun b hb=>?_) (fun b o _ _ hc e _=>k b o ZO e) (fun b o _ _ hc e _=>⟨o.slots,k b o ZO e⟩) (fun b u hc e n=>?_) (fun b u hc e=>⟨u,k b u ZO e⟩) st.1 st.2 (fun b ps e=>⟨#[],?_⟩) (fun m hm=>?_) (fun b u e=>?_) I.bare
 ·have e:b=a:=by simpa using hb
  subst e;obtain ⟨_,f1,_,f3,f4,f5⟩:=hf;exact ⟨f3,f1,f4,f5⟩
 ·rw[Au ZO];exact n
 ·rw[Au (na b _ e),e];simp
 ·obtain ⟨o1,es,ep,ho,r⟩:=hm;exact ⟨o1,es,ep,k _ o1 (eJ hf.2.1) ho,r⟩
 ·by_cases hb:b=a
  ·subst hb;rw[upd_same] at e;cases e;exact new
  ·rw[Au hb] at e;refine (I.hok b u e).stay (fun c v hc q=>k c v ?_ q) (fun c q=>by rw[Au (na c _ q)];exact q) fun c xs q=>by rw[Au (na c _ q)];exact q
   rcases hc with z | z
   ·rw[z];exact hb
   ·exact na c _ z
theorem Aqc(F:FnOk X.prog X.w X.K X.mg X.base CX0 k f fd [p] (spF X.K 1 m))(hr:Room k A)(hA:A.frames=X.A.frames)(hb:Binds X.K fd [p] [])
  (I:lj H s) {α:Ψ} {L:UH} {u z:U} {y:V} {x:aJ} (Ab:ia X.K H L) (ru:gh X.K H u y) (rx:L2.RelV y x) (hm:m [u] L=ξ (z,L)) :
  wpAny bj A (call ff [x]) (EP X pins σ Zx) (fun _ _=>False) s:=by
 have e0:=I.env0;have e1:Env0 X.prog X.w X.K X.mg X.base A X.stack s H:=⟨hA.trans e0.frames,e0.mod,e0.bs,e0.bsz,e0.funs,e0.frf,e0.hok,e0.bare⟩;have hsp:spF X.K 1 m [y] H Zx E0:=⟨α,L,[u],Ab,j4 ru,rfl,z,L,hm,fun v H' α' g A' r'=>⟨α',g,A',r'⟩⟩;have hbt:=hb s [x] I.kIn Za;refine sR (nR (F.run A X.stack s H ⟨[x],[]⟩ [x] [y] _ E0 hr e1 (by simpa using hbt) (j4 rx) hsp) fun r s' hq=>?_);cases r with
 | error e=>exact hq
 | ok fl=>
  cases fl with
  | ret u=>exact I.after hq
  | next=>exact eP hq
  | brk=>exact eP hq
  | cont=>exact eP hq
end
variable {ys:ε}{vs:ac}{L:UH}{α:Ψ}{us:aa}{ks:lr}
section
theorem Ahw:∀ l:Λ,mapO toI (l.map U.int)=ξ l
 | []=>rfl
 | a::r=>by simp only[aQ,mapO,toI,Ahw r,aA,aD]
def ltK(ks:lr)(i j:Nat):Bool:=ltT (ks.getD i []) (ks.getD j [])
theorem Ij(ks:lr):Wo (ltK ks):=⟨fun i j h=>Ja _ _ h,fun i j k h1 h2=>Rm _ _ _ h1 h2⟩
noncomputable def rvB{β:Type}(rev:Bool)(l:ed):ed:=if rev then l.reverse else l
theorem rvB_len{β:Type}(rev:Bool)(l:ed):(mx l).length=l.length:=by cases rev <;> simp[rvB]
theorem Aca(rev:Bool)(h:Vals ys vs):Vals (mx ys) (mx vs):=by
 cases rev with
 | false=>exact h
 | true=>exact Vals.rev h
theorem Ap9(rev:Bool){kv:ac}(hkv:kv.length=vs.length):(if rev=true then (rp).reverse else rp)=(mx kv).toArray.zip (mx vs).toArray:=by
 cases rev with
 | false=>rfl
 | true=>
  show (rp).reverse=kv.reverse.toArray.zip vs.reverse.toArray;apply xY
  ·simp
  ·intro i i1 i2;simp at i1;simp only[Array.getElem_reverse,Array.getElem_zip,List.getElem_toArray,List.getElem_reverse,Array.size_zip,aT];have e1:min kv.length vs.length - 1 - i=kv.length - 1 - i:=Ze
   have e2:min kv.length vs.length - 1 - i=vs.length - 1 - i:=Ze
   congr 1 <;> congr 1
theorem Ain{M:Model}{b:Bool}{x:String}{m:Unit->Sem vT}{Q:vT->aO->Prop}{E:aJ->aO->Prop}(h:cm M A (m ()) Q E):cm M A (if b=true then rule x >>= m else m ()) Q E:=by
 cases b with
 | false=>exact h
 | true=>exact aG (mN h)
def Qc(X:Cx)(A:dN)(σ:L2.St)(H0:Hp)(α0:Ψ)(L:UH)(f:Addr)(m:U->az):Prop:=
 ∀ (pins:List (Addr×Obj)) (H:Hp) (α:Ψ) (s:aO) (u z:U) (y:V) (x:aJ),lj H s->Gr H0 α0 H α->ia X.K H L->gh X.K H u y->L2.RelV y x->m u=ξ z ->
  wpAny bj A (call ff [x]) (EP X pins σ Zx) (fun _ _=>False) s
open Classical in
def An2(m:FN)(L:UH)(u:U):az:=(m [u] L).bind fun p=>if p.2=L then ξ p.1 else ψ
theorem Rz{u z:U}:An2 m L u=ξ z↔m [u] L=ξ (z,L):=by
 unfold An2;constructor
 ·intro h;obtain ⟨p,e,h⟩:=aB.mp h;split at h
  ·rename_i hp;cases h;rw[e,<- hp]
  ·cases h
 ·intro h;rw[h];simp
theorem Ag1(F:FnOk X.prog X.w X.K X.mg X.base CX0 k f fd [p] (spF X.K 1 m))(hr:Room k A)(hA:A.frames=X.A.frames)(hb:Binds X.K fd [p] []):Qc X A σ H α L f (An2 m L):=
 fun _ _ _ _ _ _ _ _ J _ A' ru rx hm=>Aqc F hr hA hb J A' ru rx (Rz.mp hm)
theorem Aew(rev:Bool){a:Addr}{m:U->az}{c0:Nat}
  (KR:Qc X X.A.in1.in1 σ H α L f m) (I:lj H s) (fa:vt X H a)
  (ho:qu=ξ (kn c0)) (rv:Vals ys vs) (ru:rg X.K us ys) (Ab:ia X.K H L) (hl:ks.length=vs.length) (hk1:∀ t∈ks,t≠[])
  (hk:∀ (i:Nat) (u:U) (t:Λ),us[i]? = br->ks[i]? = ξ t->m u=ξ (Mj t)) (h64:vs.length < 64) :
  wpAny bj X.A.in1.in1 (ksk_tree a ff rev) (fun fin s'=>fin = .done (.ret .none)/\∃ H' α',lj (cb H' a (mx ((qh (mx ks) vs.length).map fun i=>(mx ys).getD i .non))) s'/\H' a=ψ/\vg/\my X.K H' L) X.xe s:=by
 have hyl:=rv.length;have hul:=ru.length;have z1:vs.toArray.size<=sizeLine:=by rw[aT,cV];omega
 obtain ⟨e1,h1⟩:∃ e1,(s.heap.update a (bR fun _=>(#[]:Array aJ))).get? a=ξ (seqObj "list" #[] e1):=⟨_,iY ho fun _=>#[]⟩;have hlt:a < s.heap.objs.size:=bC ho;have sb:=dU s.heap a Zt;have I1:lj H { s with heap:=s.heap.update a Zt }:=I.turned (t':=s.toks) Z8 fa.1 fa.2.1 fa.2.2.2.1 fa.2.2.2.2.1 fa.2.2.2.2.2;have hs1:(s.heap.update a Zt).objs.size=s.heap.objs.size:=qC ..;generalize hA:s.heap.update a Zt=hp1 at h1 I1 hs1;have I2:lj H { s with heap:=hp1.push { cls:=.type "tuple",data:=.seq vs.toArray } }:=I1.kept (t':=s.toks) fun b o e=>n8
 have h2:(hp1.push { cls:=.type "tuple",data:=.seq vs.toArray }).get? a=ξ (seqObj "list" #[] e1):=jh h1;have hs2:(hp1.push { cls:=.type "tuple",data:=.seq vs.toArray }).objs.size=s.heap.objs.size+1:=by rw[dB,hs1]
 generalize hB:hp1.push { cls:=.type "tuple",data:=.seq vs.toArray } = hp2 at I2 h2 hs2;have I3:lj H { s with heap:=hp2.push { cls:=.type "list",data:=.seq (hV []) } }:=I2.kept (t':=s.toks) fun b o e=>n8
 have h3:(hp2.push { cls:=.type "list",data:=.seq (hV []) }).get? a=ξ (seqObj "list" #[] e1):=jh h2;have hkS:(hp2.push { cls:=.type "list",data:=.seq (hV []) }).get? hp2.objs.size=ξ (seqObj "list" #[] 0):=ki;have fk:vt X H hp2.objs.size:=I2.fpOk (s:={ s with heap:=hp2 }) be (I2.hok.fresh be);have hne:hp2.objs.size≠a:=by rw[hs2];exact iE (lM hlt)
 generalize hC:hp2.push { cls:=.type "list",data:=.seq (hV []) } = hp3 at I3 h3 hkS;generalize hS:hp2.objs.size=kS at hkS fk hne;unfold ksk_tree;refine aG (tX ho rfl (aG (kQ ho rfl ?_ z1 (eS _))));rw[hA];refine aG (rV (s:={ s with heap:=hp1 }) h1 rfl (aG (rO ?_ (by show vs.length<=_;rw[cV];omega))))
 show i6 _ _ _ _ ({ s with heap:=hp1.push { cls:=.type "tuple",data:=.seq vs.toArray } }:aO);rw[hB];refine aG (jK ?_ (eS _));show i6 _ _ _ _ ({ s with heap:=hp2.push { cls:=.type "list",data:=.seq (hV []) } }:aO);rw[hC];show i6 _ _ (holding _ (ksk_rest a ff rev vs.toArray e1 (.ref hp2.objs.size))) _ _;rw[hS];refine dP ?_;unfold ksk_rest;refine aG (mN ?_);rw[<- Array.forIn_toList];have pin2:∀ (kv:ac) (e:Nat) (H':Hp) (s':aO),lj H' s'->H' kS=ψ->H' a=ψ->s'.heap.get? kS=ξ (ci kv.toArray e)->s'.heap.get? a=ξ (seqObj "list" #[] e1)->L2.Inv X ((kS,ci kv.toArray e)::(a,seqObj "list" #[] e1)::pins) σ H' s':=by
  intro kv e H' s' J n1 n2 g1 g2;refine J.pins_of fun q hq=>?_
  rcases bE.mp hq with rfl | hq
  ·exact ⟨g1,n1,fk.2.1,fk.2.2.1,fun v z=>by cases z⟩
  ·rcases bE.mp hq with rfl | hq
   ·exact ⟨g2,n2,fa.2.1,fa.2.2.1,fun v z=>by cases z⟩
   ·exact J.pin q (aW _ hq)
 refine aG (ksk_fold (fun j s'=>∃ (H':Hp) (α':Ψ) (kv:ac) (kx:ε) (e:Nat),L2.Inv X ((kS,ci kv.toArray e)::(a,seqObj "list" #[] e1)::pins) σ H' s'/\vg/\my X.K H' L/\Vals kx kv/\RepL X.K H' α' ((ks.take j).map Mj) kx) vs 0 _
  ⟨H,α,[],[],0,pin2 [] 0 H _ I3 fk.1 fa.1 hkS h3,gp,Ab,.nil,.nil⟩ ?step ?done)
 case step=>
  rintro j x s' hx ⟨H',α',kv,kx,e,J,g,A',rk,rr⟩;simp only[nV] at rr ⊢;have hj:j < vs.length:=(aI.mp hx).1;obtain ⟨t,ht⟩:∃ t,ks[j]? = ξ t:=⟨ks[j],aC Ze⟩;obtain ⟨y,hy⟩:∃ y,ys[j]? = ξ y:=⟨ys[j],aC Ze⟩;obtain ⟨x',hx',rx⟩:=rv.get hy;rw[hx] at hx';cases hx';obtain ⟨u,hu,ry⟩:=ru.get' hy;have hkl:=rr.length;have hkl2:=rk.length;rw[aL,eW] at hkl;refine aG (pO (dO (KR _ H' α' _ u (Mj t) y x J g A' (ry.mono g) rx (hk j u t hu ht)) (fun v s'' hv=>?_) fun _ _ hF=>hF.elim));obtain ⟨v',H2,J2,rv',α2,g2,A2,r2⟩:=hv;dsimp only;have p1:=J2.pin (kS,ci kv.toArray e) (aW _ (aS ..));have p2:=J2.pin (a,seqObj "list" #[] e1) (aW _ (oq (aS ..)));have J3:lj H2 s'':=J2.pins_of fun q hq=>J2.pin q (aW _ (oq (oq hq)))
  have sb2:=dU s''.heap kS (bR (·.push v));obtain ⟨e2,he2⟩:∃ e2,(s''.heap.update kS (bR (·.push v))).get? kS=ξ (seqObj "list" (kv.toArray.push v) e2):=⟨_,iY p1.1 (·.push v)⟩;have J4:lj H2 { s'' with heap:=s''.heap.update kS (bR (·.push v)) }:=J3.turned (t':=s''.toks) (fun b o hb e=>(sb2.2 b hb).trans e) p1.2.1 fk.2.1 fk.2.2.2.1 fk.2.2.2.2.1 fk.2.2.2.2.2;refine aG (kQ p1.1 rfl ?_ (by rw[aT,cV];omega) (by rw[Array.size_push,aT,cV];omega));have hpush:kv.toArray.push v=(kv++[v]).toArray:=Za
  rw[hpush] at he2;refine aU ⟨rfl,H2,α2,kv++[v],kx++[v'],e2,pin2 (kv++[v]) e2 H2 _ J4 p1.2.1 p2.2.1 he2 ((sb2.2 a (eJ hne)).trans p2.1),g.trans g2,A2,rk.append (j4 rv'),?_⟩;have htk:ks.take (j+1)=ks.take j++[t]:=by rw[eF,ht];rfl
  rw[htk,dF];exact (rr.mono g2).append (j4 r2)
 case done=>
  rintro s' ⟨H',α',kv,kx,e,J,g,A',rk,rr⟩;have htk:ks.take (0+vs.length)=ks:=jS Ze;rw[htk] at rr;have hkl:=rr.length;have hkl2:=rk.length;rw[aL] at hkl;have hkv:kv.length=vs.length:=Ze
  have p1:=J.pin (kS,ci kv.toArray e) (aW _ (aS ..));have p2:=J.pin (a,seqObj "list" #[] e1) (aW _ (oq (aS ..)));have J3:lj H' s':=J.pins_of fun q hq=>J.pin q (aW _ (oq (oq hq)))
  refine aG (tX p1.1 rfl ?_);have hat:∀ i,i < kv.length->∃ (b:Addr) (n:Int) (t:Λ) (ws:ac),kv[i]? = vj/\ks.getD i []=n::t/\Vals ((n::t).map V.int) ws/\oY s'.heap b ws.toArray:=by
   intro i hi;obtain ⟨t,ht⟩:∃ t,ks[i]? = ξ t:=⟨ks[i],aC Ze⟩;obtain ⟨y,hy,ry⟩:=rr.get (i:=i) (u:=Mj t) (by rw[aX,ht];rfl);obtain ⟨v,hv,rx⟩:=rk.get hy;unfold Mj RepU at ry;obtain ⟨b,xs,rfl,sq,rl⟩:=ry;cases rx;have hxs:=G8 rl (Ahw t);rw[hxs] at sq;obtain ⟨ws,r2,it,_⟩:=J3.tuple sq;cases t with
   | nil=>exact absurd rfl (hk1 [] (bT ht))
   | cons n t=>exact ⟨b,n,t,ws,hv,by rw[aE,ht];rfl,r2,it⟩
  have hatR:∀ i,i < kv.length->∃ (b:Addr) (n:Int) (t:Λ) (ws:ac),(mx kv)[i]? = vj/\(mx ks).getD i []=n::t/\Vals ((n::t).map V.int) ws/\oY s'.heap b ws.toArray:=by
   intro i hi;cases rev with
   | false=>exact hat i hi
   | true=>
   obtain ⟨b,n,t,ws,q1,q2,r2,it⟩:=hat (kv.length - 1 - i) Ze;refine ⟨b,n,t,ws,(iR hi).trans q1,?_,r2,it⟩;show ks.reverse.getD i []=_;rw[aE,iR Ze,<- aE,show ks.length - 1 - i=kv.length - 1 - i by omega];exact q2
  have rvr:Vals (mx ys) (mx vs):=Aca rev rv;have hvrl:(mx vs).length=vs.length:=rvB_len ..;have hyrl:(mx ys).length=ys.length:=rvB_len ..;have hzip:(if rev=true then (rp).reverse else rp)=(mx kv).toArray.zip (mx vs).toArray:=Ap9 rev hkv;have hkrl:(mx kv).length=(mx vs).length:=by rw[rvB_len,rvB_len];exact hkv
  generalize rvB rev vs=vr at rvr hvrl hzip hkrl;generalize rvB rev ys=yr at rvr hyrl;generalize rvB rev ks=kz at hatR;generalize rvB rev kv=kr at hatR hzip hkrl;have fin:∀ (q:ei) (st:SortSt),q.toList=qh kz vs.length->(arrOf st).map (·.2)=(Gu vr q).toArray->failedOf st=ψ->wpAny bj X.A.in1.in1 (ksk_tail a rev e1 (.ref kS) st)
    (fun fin s'=>fin = .done (.ret .none)/\∃ H' α',lj (cb H' a (mx ZQ)) s'/\H' a=ψ/\vg/\my X.K H' L) X.xe s':=by
   intro q st hq hout hfail;have hperm:=Gb (n:=vs.length) (Ij kz);have hlen:(Gu vr q).length=vs.length:=by unfold Gu;rw[hq,aL,hperm.length_eq,dD]
   have sb1:=dU s'.heap kS Zt;have J4:lj H' { s' with heap:=s'.heap.update kS Zt }:=J3.turned (t':=s'.toks) (fun b o hb e=>(sb1.2 b hb).trans e) p1.2.1 fk.2.1 fk.2.2.2.1 fk.2.2.2.2.1 fk.2.2.2.2.2;have ga:(s'.heap.update kS Zt).get? a=ξ (seqObj "list" #[] e1):=(sb1.2 a (eJ hne)).trans p2.1;generalize hG:s'.heap.update kS Zt=g1 at J4 ga;have sb3:=dU g1 a (bR fun _=>(mx (Gu vr q)).toArray);obtain ⟨c2,hc2⟩:∃ c2,(g1.update a (bR fun _=>(rvB rev (Gu vr q)).toArray)).get? a=ξ (seqObj "list" (rvB rev (Gu vr q)).toArray c2):=⟨_,iY ga fun _=>(mx (Gu vr q)).toArray⟩;have hlt':∀ k∈qh kz vs.length,k < yr.length:=fun k hk=>by
    have:=bM.mp (hperm.mem_iff.mp hk);omega
   have hrel:Vals (mx ZQ) (mx (Gu vr q)):=by
    refine Aca rev ?_;unfold Gu;rw[hq];have:∀ js:Ω,(∀ k∈js,k < yr.length)->Vals (js.map fun i=>yr.getD i .non) (js.map fun i=>vr.getD i dX):=by
     intro js;induction js with
     | nil=>intro _;exact .nil
     | cons k js ih=>
      intro hk;have hk0:=hk k (aS ..);obtain ⟨v,e3,rr⟩:=rvr.get (aC hk0);refine .cons ?_ (ih fun x hx=>hk x vn);show L2.RelV (yr.getD k .non) (vr.getD k dX);rw[aE,aE,aC hk0,e3];exact rr
    exact this _ hlt'
   have hsz:(mx ZQ).length<=sizeLine:=by
    rw[rvB_len,aL,hperm.length_eq,dD,cV];omega
   have J5:lj (cb H' a (mx ZQ)) { s' with heap:=g1.update a (bR fun _=>(mx (Gu vr q)).toArray) }:=
    Inv.adopt (s:={ s' with heap:=g1 }) (t':=s'.toks) J4 ⟨p2.2.1,fa.2⟩ (fun b o hb e=>(sb3.2 b hb).trans e) ⟨hsz,(mx (Gu vr q)),c2,hrel,hc2⟩
   unfold ksk_tail;refine aG (kQ p1.1 rfl ?_ (by rw[aT,cV];omega) (eS _));rw[hG];refine aG (kE (aG (rV (s:={ s' with heap:=g1 }) ga rfl ?_)));have hout':(if rev=true then ((arrOf st).map (·.2)).reverse else (arrOf st).map (·.2))=(mx (Gu vr q)).toArray:=by rw[hout];cases rev <;> simp[rvB]
   rw[hout',hfail];refine aG (kQ (s:={ s' with heap:=g1 }) ga rfl ?_ (eS _) (by rw[aT,rvB_len,hlen,cV];omega));simp only[bne_self_eq_false,bS,if_false];exact aU ⟨rfl,H',α',J5,p2.2.1,g,A'⟩
  unfold ksk_end;dsimp only;refine Ain ?_;rw[hzip];by_cases hsmall:vs.toArray.size < 2
  ·rw[if_pos hsmall,if_pos hsmall];have hs2:vs.length < 2:=by simpa using hsmall
   refine aG (aU ?_);rw[wO];refine aG (aU (fin (hV (bJ vr.length)) (yS general' (kr.toArray.zip vr.toArray) #[] 7 ψ) ?_ ?_ rfl))
   ·unfold Cr;rw[if_pos hs2,hvrl]
   ·rw[Vk];show (kr.toArray.zip vr.toArray).map (·.2)=vr.toArray;apply xY
    ·simp;omega
    ·intro i i1 i2;simp
  ·rw[if_neg hsmall,if_neg hsmall];have hs2:2<=vs.length:=by simp at hsmall;omega
   have mk:∀ (m:Nat),m<=kv.length->∃ fs:ac,wR s'.heap (kv.drop (kv.length - m)) fs/\fs.length=m/\∀ v∈fs,xS bj s'.heap (typeOf v) (.type "int"):=by
    intro m;induction m with
    | zero=>intro _;exact ⟨[],by rw[tW,vU];exact sE,rfl,Za⟩
    | succ m ih=>
     intro hm;obtain ⟨fs,k1,k2,k3⟩:=ih Ze;obtain ⟨b,n,t,ws,q1,_,r2,it⟩:=hat (kv.length - (m+1)) Ze;obtain ⟨o,ho',hcls,nn,hd⟩:=it;rw[aQ] at r2;cases r2 with
     | @cons _ v0 _ vr rr rs=>
      obtain ⟨tk,rfl⟩:=rr;have hdrop:kv.drop (kv.length - (m+1)) = gv::kv.drop (kv.length - m):=by
       have hlt2:kv.length - (m+1) < kv.length:=Ze
       rw[kH hlt2];have:kv[kv.length - (m+1)] = gv:=by
        rw[aC hlt2] at q1;exact bQ q1
       rw[this]
       congr 2;omega
      refine ⟨.int n tk::fs,?_,by simp[k2],fun v hv=>?_⟩
      ·rw[hdrop];exact rW ho' hcls hd rfl k1
      ·rcases bE.mp hv with e | e
       ·subst e;exact pH
       ·exact k3 v e
   obtain ⟨fs,k1,k2,k3⟩:=mk kv.length be;rw[dA,rR] at k1;refine aG (vV k1 Ze k3 rfl ?_);have ask:∀ (i j:Nat) (C:Bool->aO->Prop),i < vs.length->j < vs.length->C (ltK kz i j) s'->jN X.prog X.w X.A.in1.in1 (tuples' (iJ "int" != iJ "tuple")) kr i j C s':=by
    intro i j C hi hj hC;obtain ⟨b,n,t,ws,q1,q2,r2,it⟩:=hatR i Ze;obtain ⟨b',n',t',ws',q1',q2',r2',it'⟩:=hatR j Ze;obtain ⟨o,ho1,_,c1,hd⟩:=it;obtain ⟨o',ho2,_,c2,hd'⟩:=it';have g1:kr.getD i dX = gv:=by rw[aE,q1];rfl
    have g2:kr.getD j dX = .ref b':=by rw[aE,q1'];rfl
    unfold jN;rw[g1,g2];refine xK ho1 hd ho2 hd' ?_;have hl1:=r2.length;have hl2:=r2'.length;rw[aL] at hl1 hl2;refine Ad1 (n::t) (n'::t') ws ws' 0 r2 r2' ?_ ?_
    ·rw[aT,aT,<- hl1,<- hl2]
    ·rw[<- q2,<- q2'];exact hC
   have on:=(Tf (n:=vr.length) (Ij kz) Ze).run.wp (cmp:=jN X.prog X.w X.A.in1.in1 (tuples' (iJ "int" != iJ "tuple")) kr) (s:=s') (Q:=fun q s2=>q=Agd (ltK kz) (mC vr.length)/\s2=s') (fun i j C hi hj hC=>ask i j C Ze Ze hC) fun q h=>cu h
   refine aG (dO (PySem.W.kat_run (ks:=kr) (vs:=vr) (Q:=fun st s2=>∃ q:ei,arrOf st=q.map (PySem.W.kas_item (kr.toArray.zip vr.toArray))/\failedOf st=ψ/\q=Agd (ltK kz) (mC vr.length)/\s2=s') hkrl Ze Ze (fun q st s2 _ q1 q2 q3=>⟨q,q1,q2,q3⟩) on) ?_ fun _ _ e=>e);rintro ⟨⟨⟩,st⟩ s2 ⟨q,q1,q2,q3,rfl⟩;refine fin q st ?_ (PySem.W.kat_snds hkrl q1) q2;unfold Cr;rw[if_neg Ze,q3,hvrl]
theorem Aqe{l:Addr}{Q:VK}
  (F:FnOk X.prog X.w X.K X.mg X.base CX0 k f fd [p] (spF X.K 1 m)) (hr:Room (k+2) X.A) (hb:Binds X.K fd [p] []) (I:lj H s) (hq:qk X.K l ys) (ru:rg X.K us ys) (Ab:ia X.K H L) (hl:ks.length=ys.length) (hk1:∀ t∈ks,t≠[])
  (hk:∀ (i:Nat) (u:U) (t:Λ),us[i]? = br->ks[i]? = ξ t->m [u] L=ξ (Mj t,L)) (h64:ys.length < 64)
  (q:∀ (b:Addr) (H':Hp) (α':Ψ),nq=ψ->vg->my X.K H' L->Q gv (cb H' b Z9)) :
  wpAny bj X.A (call (.builtin "sorted") [cy] [(pe,ff)]) Zu X.xe s:=by
 obtain ⟨its,rv,pl,hz⟩:=oa;have hlen:=rv.length;have hil:=pl.isList;have e1:((s.heap.push (seqObj "list" #[] 0)).update s.heap.objs.size (bR (· ++ its.toArray))).objs.size=s.heap.objs.size+1:=by rw[qC,xJ]
 have e2:(((s.heap.push (seqObj "list" #[] 0)).update s.heap.objs.size (bR (· ++ its.toArray))).push ZZ).get? Zi=ξ ZZ:=by rw[<- e1];exact ki
 have e0:∀ b o,a9=ao->((s.heap.push (seqObj "list" #[] 0)).update s.heap.objs.size (bR (· ++ its.toArray))).get? b=ao:=fun b o q=>U5 _ _ _ b o (bW (bC q)) (jh q)
 have J0:lj H { s with heap:=(s.heap.push (seqObj "list" #[] 0)).update s.heap.objs.size (bR (· ++ its.toArray)) }:=I.kept (t':=s.toks) e0;have J1:lj H { s with heap:=((s.heap.push (seqObj "list" #[] 0)).update s.heap.objs.size (bR (· ++ its.toArray))).push ZZ }:=J0.kept (t':=s.toks) fun b o e=>n8
 have fp:vt X H Zi:=by
  rw[<- e1];exact J0.fpOk be (J0.hok.fresh be)
 refine lP pG nZ oA (ksk_s1 _ _) ?_;unfold gZ.«sorted»;refine aG (m:=checkCount "sorted" 1 1 _) (aU (aG (tY hil (aG (jK ?_ ?y2)) ?y1)))
 case y1=>rw[cV];omega
 case y2=>rw[cV];omega
 show i6 _ _ _ _ ({ s with heap:=((s.heap.push (seqObj "list" #[] 0)).update s.heap.objs.size (bR (· ++ its.toArray))).push ZZ }:aO);rw[e1];refine aG (dP (nL lN (ik _ e2) kY ?body (ksk_l1 _ _)))
 case body=>
  show i6 bj X.A.in1.in1 (gZ.«list.sort» ⟨[.ref Zi],[(pe,ff)]⟩) _ _;rw[ksk_t1];refine dO (Aew false (Ag1 F (hr.in1.in1) rfl hb) J1 fp e2 rv ru Ab Ze hk1 (fun i u t h1 h2=>Rz.mpr (hk i u t h1 h2)) Ze) (fun fin s' ⟨hf,H',α',J,hn,g,A'⟩=>?_) fun _ _ e=>e
  subst hf;refine gu _ (aU ⟨_,rfl,.ref Zi,_,J,rfl,?_⟩);have:=q Zi H' α' hn g A';rw[hlen] at this;exact this
end
open Classical in
def Pw(m:FN)(L:UH)(u:U):Option Λ:=(m [u] L).bind fun r=>if r.2=L then Oz r.1 else ψ
def V2(m:FN)(f:FE):FE:=fun δ L=>(tm).bind fun q=>match q.1 with
 | .ref n=>(sx q.2).bind fun us=>(mapO (Pw m q.2) us).bind fun ks=>if us.length < 64/\(ks.all fun t=>!t.isEmpty)=true then ξ (.ref q.2.length,q.2++[.lst ZR]) else ψ
 | _=>ψ
theorem Adh{u:U}{t:Λ}(h:Pw m L u=ξ t):m [u] L=ξ (Mj t,L):=by
 unfold Pw at h;obtain ⟨⟨z,L'⟩,e,h⟩:=aB.mp h;simp only at h;split at h
 ·rename_i hL;subst hL;have h1:mapO Oz [z]=ξ [t]:=by
   have h0:Oz z=ξ t:=by assumption
   simp only[mapO,h0,aA,aD]
  have h2:=Tp h1;simp only[aQ,bY,kX,and_true] at h2;rw[e,h2]
 ·cases h
theorem N4{β γ:Type}{f:β->Option γ}:∀ {l:ed} {r:List γ},mapO f l=ξ r->l.length=r.length
 | [],r,h=>by simp only[mapO] at h;cases h;rfl
 | a::l,r,h=>by
  simp only[mapO] at h;obtain ⟨x,_,h⟩:=aB.mp h;obtain ⟨y,hy,h⟩:=aH.mp h;subst h;simp[N4 hy]
theorem Oe{β γ:Type}{f:β->Option γ}:∀ {l:ed} {r:List γ} {i:Nat} {a:β} {b:γ},mapO f l=ξ r->l[i]? = m7->r[i]? = ξ b->f a=ξ b
 | [],r,i,a,b,h,h1,h2=>by simp at h1
 | c::l,r,i,a,b,h,h1,h2=>by
  simp only[mapO] at h;obtain ⟨x,hx,h⟩:=aB.mp h;obtain ⟨y,hy,h⟩:=aH.mp h;subst h;cases i with
  | zero=>simp at h1 h2;subst h1;subst h2;exact hx
  | succ i=>exact Oe hy (by simpa using h1) (by simpa using h2)
theorem Aon{pn kf:Str}{e:Expr}{fe:FE}{p kp kpos pos:Pos}(F:FnOk X.prog X.w X.K X.mg X.base CX0 k f fd [pn] (spF X.K 1 m))(hr:Room (k+2) X.A)(hb:Binds X.K fd [pn] [])
  (hg:Gl X "sorted") (hm:X.mg "sorted" = ψ) (hgk:Gl X kf) (hmk:X.mg kf=mn) (he:gy e fe) (hd:(kf == ("__debug__" : Str))=false:=by decide)
  (hs:bc [e]=[ZF]:=by rfl):gy (tz "sorted" p [e] [⟨ξ pe,.Name kf kp,kpos⟩]) (V2 m fe):=by
 intro pins s σ H Q I h;obtain ⟨α,δ,L,A,S,z,L3,ez,q⟩:=h;unfold V2 at ez;obtain ⟨⟨u,L1⟩,e1,ez⟩:=aB.mp ez;simp only at ez;split at ez
 ·rename_i n;obtain ⟨us,hus,ez⟩:=aB.mp ez;obtain ⟨ks,hks,ez⟩:=aB.mp ez;split at ez
  ·rename_i hc;cases ez;refine dR (Fs I hg hm fJ ?_);refine rX ?_ (by rw[hs];rfl) (by rw[hs];rfl) Zc;have hpa:PAF X [e] (a7 fe):=Ac he Ae (hs:=by rw[hs];rfl);have hA:(a7 fe) δ L=ξ ([di],L1):=by
    show (fe δ L).bind _=_;rw[e1];rfl
   refine thn (hpa pos pins s σ H (fun vs H1=>∃ α1,je H H1 α1/\Abs X.K H1 α1 L1/\RepL X.K H1 α1 [di] vs) I ⟨α,δ,L,A,S,_,L1,hA,fun vs H1 α1 g1 A1 r1=>⟨α1,g1,A1,r1⟩⟩) fun vs s1 ⟨xs,H1,I1,rx,α1,g1,A1,r1⟩=>?_
   refine thn (Ot (nm:=ξ pe) (kpos:=kpos) (Aho (v:=.ref f) hgk hmk rfl hd) Vs pos pins s1 σ H1 (fun zs H2=>zs=[ff]/\H2=H1) I1 (cu rfl)) fun ws s2 ⟨zs,H2,I2,rz,hz,hH⟩=>?_
   subst hH;subst hz;obtain ⟨y,rfl,ry⟩:=r1.one;obtain ⟨b,ys,rfl,sq,r2⟩:=Fi A1 hus ry;obtain ⟨v,rfl,rv⟩:=Ee rx;cases rv;obtain ⟨v2,rfl,rv2⟩:=Ee rz;cases rv2;have hlu:=r2.length;have hlk:=N4 hks;refine Aqe F hr hb I2 sq r2 A1 Ze (fun t ht=>?_) (fun i u t hu ht=>Adh (Oe hks hu ht)) Ze fun c H' α' hn g' A'=>?_
   ·have:=bO.mp hc.2 t ht;intro z;rw[z] at this;simp at this
   ·have hperm:=Gb (n:=us.length) (Ij ks);have rl:RepL X.K H' α' ZR Z9:=by
     rw[<- hlu];have:∀ js:Ω,(∀ j∈js,j < us.length)->RepL X.K H' α' (js.map fun i=>us.getD i .non) (js.map fun i=>jn i):=by
      intro js;induction js with
      | nil=>intro _;exact .nil
      | cons j js ih=>
       intro hj;have hj0:=hj j (aS ..);obtain ⟨x,hx,rx'⟩:=r2.get (aC hj0);refine .cons ?_ (ih fun x hx=>hj x vn);show sd X.K H' (us.getD j .non) (jn j);rw[aE,aE,aC hj0,hx];exact rx'.mono g'
     exact this _ fun j hj=>bM.mp (hperm.mem_iff.mp hj)
    obtain ⟨g2,A2,r3⟩:=A'.lst rl hn;exact q _ _ _ (g1.trans (g'.trans g2)) A2 r3
  ·cases ez
 ·cases ez
section
variable {h':Heap}
theorem Anz{l:Addr}{Q:VK}
  (F:FnOk X.prog X.w X.K X.mg X.base CX0 k f fd [p] (spF X.K 1 m)) (hr:Room (k+2) X.A) (hb:Binds X.K fd [p] []) (I:lj H s) (hq:SqT X.K H l ys) (ru:rg X.K us ys) (Ab:ia X.K H L) (hl:ks.length=ys.length) (hk1:∀ t∈ks,t≠[])
  (hk:∀ (i:Nat) (u:U) (t:Λ),us[i]? = br->ks[i]? = ξ t->m [u] L=ξ (Mj t,L)) (h64:ys.length < 64)
  (q:∀ (b:Addr) (H':Hp) (α':Ψ),nq=ψ->vg->my X.K H' L->Q gv (cb H' b Z9)) :
  wpAny bj X.A (call (.builtin "sorted") [cy] [(pe,ff)]) Zu X.xe s:=by
 obtain ⟨its,rv,it,hz⟩:=I.tuple hq;have hlen:=rv.length;obtain ⟨o,ho,hc,cn,hd⟩:=it;refine lP pG nZ oA (ksk_s1 _ _) ?_;unfold gZ.«sorted»;refine aG (m:=checkCount "sorted" 1 1 _) (aU (aG (wpAny_collect_seq l (.inr rfl) ho hc hd (fun h1 kp=>?_) (by rw[cV,aT];omega))));rw[show its.toArray.toList=its from by simp];refine aG (jK ?_ (by rw[cV];omega));have J0:lj H { s with heap:=h1 }:=I.kept (t':=s.toks) kp;have J1:lj H { s with heap:=h1.push ZZ }:=J0.kept (t':=s.toks) fun b o e=>n8
 have e2:(h1.push ZZ).get? h1.objs.size=ξ ZZ:=ki;have fp:vt X H h1.objs.size:=J0.fpOk be (J0.hok.fresh be);show i6 _ _ _ _ ({ s with heap:=h1.push ZZ }:aO);refine aG (dP (nL lN (ik _ e2) kY ?body (ksk_l1 _ _)))
 case body=>
  show i6 bj X.A.in1.in1 (gZ.«list.sort» ⟨[.ref h1.objs.size],[(pe,ff)]⟩) _ _;rw[ksk_t1];refine dO (Aew false (Ag1 F (hr.in1.in1) rfl hb) J1 fp e2 rv ru Ab Ze hk1 (fun i u t h1 h2=>Rz.mpr (hk i u t h1 h2)) Ze) (fun fin s' ⟨hf,H',α',J,hn,g,A'⟩=>?_) fun _ _ e=>e
  subst hf;refine gu _ (aU ⟨_,rfl,.ref h1.objs.size,_,J,rfl,?_⟩);have:=q h1.objs.size H' α' hn g A';rw[hlen] at this;exact this
end
def Oo(m:FN)(f:FE):FE:=fun δ L=>(tm).bind fun q=>match q.1 with
 | .tup us=>(mapO (Pw m q.2) us).bind fun ks=>if us.length < 64/\(ks.all fun t=>!t.isEmpty)=true then ξ (.ref q.2.length,q.2++[.lst ZR]) else ψ
 | _=>ψ
theorem Aju{pn kf:Str}{e:Expr}{fe:FE}{p kp kpos pos:Pos}(F:FnOk X.prog X.w X.K X.mg X.base CX0 k f fd [pn] (spF X.K 1 m))(hr:Room (k+2) X.A)(hb:Binds X.K fd [pn] [])
  (hg:Gl X "sorted") (hm:X.mg "sorted" = ψ) (hgk:Gl X kf) (hmk:X.mg kf=mn) (he:gy e fe) (hd:(kf == ("__debug__" : Str))=false:=by decide)
  (hs:bc [e]=[ZF]:=by rfl):gy (tz "sorted" p [e] [⟨ξ pe,.Name kf kp,kpos⟩]) (Oo m fe):=by
 intro pins s σ H Q I h;obtain ⟨α,δ,L,A,S,z,L3,ez,q⟩:=h;unfold Oo at ez;obtain ⟨⟨u,L1⟩,e1,ez⟩:=aB.mp ez;simp only at ez;split at ez
 ·rename_i us;obtain ⟨ks,hks,ez⟩:=aB.mp ez;split at ez
  ·rename_i hc;cases ez;refine dR (Fs I hg hm fJ ?_);refine rX ?_ (by rw[hs];rfl) (by rw[hs];rfl) Zc;have hpa:PAF X [e] (a7 fe):=Ac he Ae (hs:=by rw[hs];rfl);have hA:(a7 fe) δ L=ξ ([.tup us],L1):=by
    show (fe δ L).bind _=_;rw[e1];rfl
   refine thn (hpa pos pins s σ H (fun vs H1=>∃ α1,je H H1 α1/\Abs X.K H1 α1 L1/\RepL X.K H1 α1 [.tup us] vs) I ⟨α,δ,L,A,S,_,L1,hA,fun vs H1 α1 g1 A1 r1=>⟨α1,g1,A1,r1⟩⟩) fun vs s1 ⟨xs,H1,I1,rx,α1,g1,A1,r1⟩=>?_
   refine thn (Ot (nm:=ξ pe) (kpos:=kpos) (Aho (v:=.ref f) hgk hmk rfl hd) Vs pos pins s1 σ H1 (fun zs H2=>zs=[ff]/\H2=H1) I1 (cu rfl)) fun ws s2 ⟨zs,H2,I2,rz,hz,hH⟩=>?_
   subst hH;subst hz;obtain ⟨y,rfl,ry⟩:=r1.one;unfold RepU at ry;obtain ⟨b,ys,rfl,sq,r2⟩:=ry;obtain ⟨v,rfl,rv⟩:=Ee rx;cases rv;obtain ⟨v2,rfl,rv2⟩:=Ee rz;cases rv2;have hlu:=r2.length;have hlk:=N4 hks;refine Anz F hr hb I2 sq r2 A1 Ze (fun t ht=>?_) (fun i u t hu ht=>Adh (Oe hks hu ht)) Ze fun c H' α' hn g' A'=>?_
   ·have:=bO.mp hc.2 t ht;intro z;rw[z] at this;simp at this
   ·have hperm:=Gb (n:=us.length) (Ij ks);have rl:RepL X.K H' α' ZR Z9:=by
     rw[<- hlu];have:∀ js:Ω,(∀ j∈js,j < us.length)->RepL X.K H' α' (js.map fun i=>us.getD i .non) (js.map fun i=>jn i):=by
      intro js;induction js with
      | nil=>intro _;exact .nil
      | cons j js ih=>
       intro hj;have hj0:=hj j (aS ..);obtain ⟨x,hx,rx'⟩:=r2.get (aC hj0);refine .cons ?_ (ih fun x hx=>hj x vn);show sd X.K H' (us.getD j .non) (jn j);rw[aE,aE,aC hj0,hx];exact rx'.mono g'
     exact this _ fun j hj=>bM.mp (hperm.mem_iff.mp hj)
    obtain ⟨g2,A2,r3⟩:=A'.lst rl hn;exact q _ _ _ (g1.trans (g'.trans g2)) A2 r3
  ·cases ez
 ·cases ez
end MR
namespace SO
open PySem PySem.W PyProof.Rows
variable {a b c k m nrem:Nat}{p:ei}
section
variable {lt:Nat->Nat->Bool}{n:Nat}
def Ls(lt:Nat->Nat->Bool)(i j:Nat):Prop:=Le lt i j/\(Le lt j i->i<=j)
theorem Wo.lt_le(W:ir)(h:lt a b=true)(h2:Le lt b c):lt a c=true:=by
 cases hc:lt a c with
 | true=>rfl
 | false=>have:lt a b=false:=W.trans (lt:=lt) (i:=b) (j:=c) (k:=a) h2 hc;rw[h] at this;cases this
theorem Wo.le_lt(W:ir)(h:Le lt a b)(h2:lt b c=true):lt a c=true:=by
 cases hc:lt a c with
 | true=>rfl
 | false=>have:lt b c=false:=W.trans (lt:=lt) (i:=c) (j:=a) (k:=b) hc h;rw[h2] at this;cases this
theorem Ls.of_lt(W:ir)(h:lt a b=true):Ls lt a b:=⟨W.le h,fun q=>by unfold Le at q;rw[h] at q;cases q⟩
theorem Ls.trans(W:ir)(h1:Ls lt a b)(h2:Ls lt b c):Ls lt a c:=⟨W.trans h1.1 h2.1,fun q=>cC (h1.2 (W.trans h2.1 q)) (h2.2 (W.trans q h1.1))⟩
theorem Ls.refl(W:ir)(a:Nat):Ls lt a a:=⟨W.refl a,fun _=>be⟩
theorem Ls.of_le(h:Le lt a b)(h2:a<=b):Ls lt a b:=⟨h,fun _=>h2⟩
def UpS(lt:Nat->Nat->Bool)(p:ei)(k:Nat):Prop:=∀ i j,i<=j->j < k->Ls lt vi (c6 j)
def DnS(lt:Nat->Nat->Bool)(p:ei)(k:Nat):Prop:=∀ i j,i<=j->j < k->Ls lt (c6 j) vi
def Fx(n:Nat)(p:ei)(k:Nat):Prop:=(∀ i,i < k->vi < k)/\∀ i,k<=i->i < n->vi=i
theorem Fx.up(h:Fx n p k)(hk:k<=m)(hm:m<=n):Fx n p m:=⟨fun i hi=>by
 by_cases h1:i < k
 ·have:=h.1 i h1;omega
 ·rw[h.2 i Ze Ze];exact hi,fun i h1 h2=>h.2 i Ze h2⟩
theorem Fx.rev{i:Nat}(h:Fx n p k)(hk:k<=m)(hm:m<=n)(hs:p.size=n)(hi:i=0\/k<=i):Fx n (jU p i m) m:=by
 have h':=h.up hk hm;refine ⟨fun j hj=>?_,fun j h1 h2=>?_⟩
 ·rw[Du Ze];split
  ·exact h'.1 _ Ze
  ·exact h'.1 j hj
 ·rw[Du Ze,if_neg Ze];exact h'.2 j h1 h2
theorem UpS.snoc(W:ir)(h:UpS lt p m)(hm:1<=m)(hl:Ls lt Zs (c6 m)):UpS lt p (m+1):=fun i j h1 h2=>by
 by_cases hj:j < m
 ·exact h i j h1 hj
 ·have hj:j=m:=Ze
  subst hj;by_cases hi:i=j
  ·subst hi;exact Ls.refl W _
  ·exact (h i (j - 1) Ze Ze).trans W hl
theorem Abg(W:ir)(h0:0 < n)(hp:Pm n p)(hn:nrem<=n):∀ (f m:Nat),1<=m->m+f=nrem->UpS lt p m->Fx n p m->On n lt (fun m'=>m<=m'/\m'<=nrem/\UpS lt p m'/\Fx n p m'/\(m'=nrem\/lt (c6 m') (c6 (m' - 1))=true)) (kas_asc p f m)
 | 0,m,h1,hf,hu,hx=>⟨be,Ze,hu,hx,.inl Ze⟩
 | f+1,m,h1,hf,hu,hx=>by
  refine ⟨pq _,pq _,?_⟩;show On n lt _ (if lt (c6 m) Zs=true then KasT.ret m else kas_asc p f (m+1));cases hl:lt (c6 m) Zs with
  | true=>exact ⟨be,Ze,hu,hx,.inr hl⟩
  | false=>
   have hs:Ls lt Zs (c6 m):=.of_le hl (by have:=hx.1 (m - 1) Ze;have:=hx.2 m be Ze;omega)
   exact (Abg W h0 hp hn f (m+1) Ze Ze (hu.snoc W h1 hs) (hx.up Ze Ze)).imp fun m' ⟨a,b,c⟩=>⟨Ze,b,c⟩
structure Dq(lt:Nat->Nat->Bool)(n:Nat)(p:ei)(m s:Nat):Prop where
 lo:DnS lt p s
 st:∀ i j,i < s->s<=j->j < m->lt (c6 j) vi=true
 tl:∀ i,s<=i->i < m->Eqv lt vi Zs
 fx:Fx n p s
 lt:s < m
theorem Dq.turn(W:ir){s:Nat}(h:Dq lt n p m s)(hs:p.size=n)(hm:m<=n):DnS lt (jU p s m) m/\Fx n (jU p s m) m:=by
 refine ⟨fun i j h1 h2=>?_,h.fx.rev (iZ h.lt) hm hs (.inr be)⟩;rw[Du Ze,Du Ze];by_cases hj:s<=j
 ·rw[if_pos (show s<=j/\j < m from ⟨hj,h2⟩)];by_cases hi:s<=i
  ·rw[if_pos (show s<=i/\i < m from ⟨hi,Ze⟩)];have a:=h.tl (s+m - 1 - j) Ze Ze;have b:=h.tl (s+m - 1 - i) Ze Ze;refine .of_le (W.trans a.1 b.2) ?_;rw[h.fx.2 _ Ze Ze,h.fx.2 _ Ze Ze];omega
  ·rw[if_neg Ze];exact Ls.of_lt W (h.st _ _ Ze Ze Ze)
 ·rw[if_neg Ze,if_neg Ze];exact h.lo i j h1 Ze
theorem Dq.one(W:ir){s:Nat}(h:Dq lt n p m s)(h1:s+1=m)(hm:m<=n):DnS lt p m/\Fx n p m:=by
 refine ⟨fun i j i1 i2=>?_,h.fx.up Ze hm⟩;by_cases hj:j < s
 ·exact h.lo i j i1 hj
 ·have hj:j=s:=Ze
  subst hj;by_cases hi:i=j
  ·subst hi;exact Ls.refl W _
  ·exact Ls.of_lt W (h.st _ _ Ze Ze Ze)
theorem Dq.next(W:ir)(h:DnS lt p m/\Fx n p m)(h1:1<=m)(hl:lt (c6 m) Zs=true):Dq lt n p (m+1) m where
 lo:=h.1
 st i j h1 h2 h3:=by
  have hj:j=m:=Ze
  subst hj;exact W.lt_le hl (h.1 i (j - 1) Ze Ze).1
 tl i h1 h2:=by
  have hi:i=m:=Ze
  subst hi;rw[jV];exact ⟨l5,l5⟩
 fx:=h.2
 lt:=Ze
theorem Q9(W:ir)(h0:0 < n)(hz:nrem<=n):∀ (f:Nat) (p:ei) (m q:Nat),Pm n p->1<=m->m+f=nrem->q < m->Dq lt n p m (m - (q+1)) ->
  On n lt (fun r=>Pm n r.1/\1<=r.2.1/\r.2.1<=nrem/\r.2.2 < r.2.1/\Dq lt n r.1 r.2.1 (r.2.1 - (r.2.2+1))) (kas_desc f p m q)
 | 0,p,m,q,hp,h1,hf,hq,hd=>⟨hp,h1,(by show m<=nrem;omega),hq,hd⟩
 | f+1,p,m,q,hp,h1,hf,hq,hd=>by
  refine ⟨pq _,pq _,?_⟩;show On n lt _ (if lt (c6 m) Zs=true then _ else _);have e0:m+1 - (0+1)=m:=Ze
  cases hl:lt (c6 m) Zs with
  | true=>
   have hms:m<=p.size:=by rw[hp.size];omega
   rw[jv];by_cases hq0:q > 0
   ·rw[if_pos hq0];have ht:=hd.turn W hp.size Ze;have hm':at0 (jU p (m - (q+1)) m) m=c6 m:=by rw[Du hms,if_neg Ze]
    have hm2:lt (at0 (jU p (m - (q+1)) m) m) (at0 (jU p (m - (q+1)) m) (m - 1))=true:=by
     rw[hm',Du hms,if_pos Ze];exact W.lt_le hl (hd.tl _ Ze Ze).2
    exact Q9 W h0 hz f _ (m+1) 0 (hp.rev _ _) Ze Ze Ze (by rw[e0];exact Dq.next W ht h1 hm2)
   ·rw[if_neg hq0];have hq1:q=0:=Ze
    subst hq1;exact Q9 W h0 hz f p (m+1) 0 hp Ze Ze Ze (by rw[e0];exact Dq.next W (hd.one W Ze Ze) h1 hl)
  | false=>
   rw[if_neg Za];refine ⟨pq _,pq _,?_⟩;show On n lt _ (if lt Zs (c6 m)=true then _ else _);cases hl2:lt Zs (c6 m) with
   | true=>rw[jv];exact ⟨hp,h1,(by show m<=nrem;omega),hq,hd⟩
   | false=>
    rw[if_neg Za];have es:m+1 - (q+1+1)=m - (q+1):=Ze
    refine Q9 W h0 hz f p (m+1) (q+1) hp Ze Ze Ze ?_;rw[es];refine ⟨hd.lo,fun i j i1 i2 i3=>?_,fun i i1 i2=>?_,hd.fx,Ze⟩
    ·by_cases hj:j < m
     ·exact hd.st i j i1 i2 hj
     ·have hj:j=m:=Ze
      subst hj;exact W.le_lt hl2 (hd.st i (j - 1) i1 Ze Ze)
    ·rw[jV];by_cases hi:i=m
     ·subst hi;exact ⟨l5,l5⟩
     ·have a:=hd.tl i i1 Ze;exact ⟨W.trans a.1 hl,W.trans hl2 a.2⟩
theorem Ab6(W:ir)(h0:0 < n)(hz:nrem<=n)(hp:Pm n p)(h1:1<=m)(hm:m<=nrem)(hd:DnS lt p m/\Fx n p m):On n lt ZS (vQ m nrem p):=by
 have hms:m<=p.size:=by rw[hp.size];omega
 have hu:UpS lt (jU p 0 m) m:=fun i j i1 i2=>by
  rw[Du hms,Du hms,if_pos Ze,if_pos Ze];exact hd.1 _ _ Ze Ze
 unfold vQ;exact On.bind (fun a ⟨a1,a2,a3,a4,_⟩=>⟨hp.rev _ _,Ze,a2,a3,a4⟩) (Abg (nrem:=nrem) W h0 (hp.rev 0 m) hz (nrem - m) m h1 Ze hu (hd.2.rev be Ze hp.size jc))
theorem Q3(W:ir)(h0:0 < n)(hz:nrem<=n)(hp:Pm n p)(hm:m+1<=nrem)(hd:Dq lt n p (m+1) m):On n lt ZS (qS m nrem p):=by
 unfold qS;have e0:m+1 - (0+1)=m:=Ze
 refine On.bind (fun r ⟨a1,a2,a3,a4,a5⟩=>?_) (Q9 W h0 hz (nrem - (m+1)) p (m+1) 0 hp Ze Ze Ze (by rw[e0];exact hd));have hms:r.2.1<=r.1.size:=by rw[a1.size];omega
 split
 ·exact Ab6 W h0 hz (a1.rev _ _) a2 a3 (a5.turn W a1.size Ze)
 ·exact Ab6 W h0 hz a1 a2 a3 (a5.one W Ze Ze)
theorem Ajp(W:ir)(h0:0 < n)(hz:nrem<=n)(h1:1<=nrem)(hp:Pm n p)(hid:∀ i,i < n->vi=i):On n lt ZS (vR nrem p):=by
 unfold vR;have fx0:Fx n p 0:=⟨fun i h=>by omega,fun i _ h=>hid i h⟩;have up1:UpS lt p 1:=fun i j h1 h2=>by
  have:i=j:=Ze
  subst this;exact Ls.refl W _
 refine On.bind (fun m ⟨a1,a2,a3,ax,a4⟩=>?_) (Abg (nrem:=nrem) W h0 hp hz (nrem - 1) 1 be Ze up1 (fx0.up Ze Ze));by_cases hm:(m == nrem)=true
 ·rw[if_pos hm];exact ⟨hp,Ze,a2,a3,ax⟩
 ·rw[if_neg hm];have hne:m≠nrem:=by simpa using hm
  have hlt:lt (c6 m) Zs=true:=a4.resolve_left hne;by_cases hm1:m > 1
  ·rw[if_pos hm1];refine ⟨pq _,pq _,?_⟩;show On n lt _ (if lt (c6 0) Zs=true then _ else _);cases hl:lt (c6 0) Zs with
   | true=>rw[jv];exact ⟨hp,Ze,a2,a3,ax⟩
   | false=>
    rw[if_neg Za];have hms:m<=p.size:=by rw[hp.size];omega
    have hall:∀ i j,i < m->j < m->Le lt vi (c6 j):=fun i j i1 j1=>W.trans (a3 i (m - 1) Ze Ze).1 (W.trans hl (a3 0 j Ze j1).1)
    refine Q3 W h0 hz (hp.rev 0 m) Ze ?_;have hd:DnS lt (jU p 0 m) m:=fun i j i1 i2=>by
     rw[Du hms,Du hms,if_pos Ze,if_pos Ze];refine .of_le (hall _ _ Ze Ze) ?_;rw[hid _ Ze,hid _ Ze];omega
    refine Dq.next W ⟨hd,fx0.rev Ze Ze hp.size jc⟩ Ze ?_;rw[Du hms,Du hms,if_neg Ze,if_pos Ze];exact W.lt_le hlt (hall _ _ Ze Ze)
  ·rw[if_neg hm1];have:m=1:=Ze
   subst this;refine Q3 W h0 hz hp Ze ?_;have hd:DnS lt p 1:=fun i j h1 h2=>by
    have:i=j:=Ze
    subst this;exact Ls.refl W _
   exact Dq.next W ⟨hd,ax⟩ be hlt
theorem Rx(W:ir)(h0:0 < n)(hp:Pm n p)(hu:UpS lt p k):∀ (f l r:Nat),l<=r->r<=k->r - l<=f->(∀ i,i < l->Le lt vi (c6 k))->(∀ i,r<=i->i < k->lt (c6 k) vi=true) ->
  On n lt (fun l'=>l'<=k/\(∀ i,i < l'->Le lt vi (c6 k))/\∀ i,l'<=i->i < k->lt (c6 k) vi=true) (vS p k f l r)
 | 0,l,r,h1,h2,h3,h4,h5=>⟨Ze,h4,fun i i1 i2=>h5 i Ze i2⟩
 | f+1,l,r,h1,h2,h3,h4,h5=>by
  unfold vS;by_cases hlr:l ≥ r
  ·rw[if_pos hlr];exact ⟨Ze,h4,fun i i1 i2=>h5 i Ze i2⟩
  ·rw[if_neg hlr];refine ⟨pq _,pq _,?_⟩;show On n lt _ (if lt (c6 k) (c6 ((l+r) / 2))=true then _ else _);cases hl:lt (c6 k) (c6 ((l+r) / 2)) with
   | true=>
    rw[jv];exact Rx W h0 hp hu f l ((l+r) / 2) Ze Ze Ze h4 fun i i1 i2=>W.lt_le hl (hu _ _ i1 i2).1
   | false=>
    rw[if_neg Za];exact Rx W h0 hp hu f ((l+r) / 2+1) r Ze h2 Ze (fun i i1=>W.trans (hu i ((l+r) / 2) Ze Ze).1 hl) h5
theorem Ag3(W:ir)(h0:0 < n):∀ (f:Nat) (p:ei) (k:Nat),Pm n p->UpS lt p k->Fx n p k->k+f=n->On n lt (fun p'=>Pm n p'/\UpS lt p' n) (kas_bin f p k)
 | 0,p,k,hp,hu,hx,hk=>⟨hp,(show k=n by omega) ▸ hu⟩
 | f+1,p,k,hp,hu,hx,hk=>by
  unfold kas_bin;refine On.bind (fun l ⟨a1,a2,a3⟩=>?_) (Rx W h0 hp hu k 0 k Ze be Ze (fun i h=>by omega) fun i h1 h2=>by omega);have hks:k < p.size:=by rw[hp.size];omega
  have hkk:c6 k=k:=hx.2 k be Ze;have hxk:=hx.up (m:=k+1) Ze Ze;refine Ag3 W h0 f _ (k+1) (hp.bub _ _) (fun i j i1 i2=>?_) ⟨fun i hi=>?_,fun i h1 h2=>?_⟩ Ze
  ·rw[Rn hks a1,Rn hks a1];by_cases hi:i=l
   ·rw[if_pos hi];by_cases hj:j=l
    ·rw[if_pos hj];exact Ls.refl W _
    ·rw[if_neg hj,if_pos Ze];exact Ls.of_lt W (a3 _ Ze Ze)
   ·rw[if_neg hi];by_cases hi2:l < i/\i<=k
    ·rw[if_pos hi2,if_neg Ze,if_pos Ze];exact hu _ _ Ze Ze
    ·rw[if_neg hi2];by_cases hj:j=l
     ·rw[if_pos hj];refine .of_le (a2 _ Ze) ?_;have:=hx.1 i Ze;omega
     ·rw[if_neg hj];by_cases hj2:l < j/\j<=k
      ·rw[if_pos hj2];exact hu _ _ Ze Ze
      ·rw[if_neg hj2];exact hu _ _ i1 Ze
  ·rw[Rn hks a1];split
   ·omega
   ·split
    ·exact hxk.1 _ Ze
    ·exact hxk.1 _ Ze
  ·rw[Rn hks a1,if_neg Ze,if_neg Ze];exact hxk.2 i h1 h2
theorem Amp(W:ir)(h0:0 < n):On n lt (fun p=>Pm n p/\UpS lt p n) (mC n):=by
 unfold mC;have hp:Pm n (hV (bJ n)):=⟨Za,Za⟩;have hid:∀ i,i < n->at0 (hV (bJ n)) i=i:=fun i hi=>by
  unfold at0;rw[cI];simp[hi]
 refine On.bind (fun r ⟨a1,a2,a3,a4,a5⟩=>?_) (Ajp W h0 (aN n) h0 hp hid);by_cases hr:r.1 < n
 ·rw[if_pos hr];have hm:max r.1 1=r.1:=Ze
  rw[hm];exact Ag3 W h0 _ _ _ a1 a4 a5 Ze
 ·rw[if_neg hr];have:r.1=n:=Ze
  exact ⟨a1,by rw[<- this];exact a4⟩
theorem Abf(W:ir)(n:Nat):(Cr lt n).Pairwise (Ls lt):=by
 unfold Cr;split
 ·rename_i h;match n,h with
  | 0,_=>exact .nil
  | 1,_=>simp[qX]
 ·rename_i h;obtain ⟨hp,hu⟩:=(Amp (n:=n) W Ze).holds;refine cK.mpr fun i j hi hj hij=>?_
  have h:=hu i j Ze (by rw[<- hp.size];simpa using hj);unfold at0 at h;rw[cI,cI] at h;simp only[cR] at hi hj;rw[iU hi,iU hj] at h;simpa using h
end
end SO
namespace HT
open PySem PyProof.Rows
section
open PySem.SeqAt
open PySem.AutoSeq1 (wpAny_loadPart')
open PySem.MeetsSeq PySem.MeetsSeq2 PySem.MeetsSeq3
end
section
variable {prog:cL}{w:dC}{A:dN}{E:aJ->aO->Prop}{s:aO}
end
end HT
namespace MR
open PySem PyProof.Rows L2
end MR
namespace DP
open PySem PySem.Spec PyProof.Rows
theorem Ar6:typeLookup vh (cH "keys")=pure ψ:=am_miss_of_fast (by kernel_rfl)
theorem Aqb:typeLookup vh "__getattr__" = pure ψ:=am_miss_of_fast (by kernel_rfl)
variable {prog:cL}{w:dC}{A:dN}{E:aJ->aO->Prop}{s:aO}{n:Nat}{sl:Array bi}
theorem Aq9{P:vT->aO->Prop}{a:Addr}{vs:bv}{u:Tok}(hA:A.handled=ψ)(hx:qu=ξ { cls:=.type "list",dict:=ψ,data:=.seq vs n,slots:=sl })
  (h:∀ h' tk e,Heap.NewAttrErr s.heap h' e bp (cH "keys")->E (.ref e) { s with heap:=h',toks:=tk }):cm mm A (gZ.«object.__getattribute__» ⟨[bp,.str (cH "keys") u],[]⟩) P E:=by
 obtain ⟨hp,g,d,tk,os⟩:=s;have hT:(⟨hp,g,d,tk,os⟩:aO).TypeIs bp "list" := ik _ hx;have f1:=Ar6;unfold gZ.«object.__getattribute__»
 (repeat (any_goals (first | assumption | wp_step)));exact wpAny_raiseAttrError hA h (attrMsg_fits Zd Zd)
theorem Aig{Q:bi->aO->Prop}{a:Addr}{vs:bv}(hA:A.handled=ψ)(hx:qu=ξ { cls:=.type "list",dict:=ψ,data:=.seq vs n,slots:=sl })
  (h:∀ h' tk,(∀ b ob,a9=ξ ob->cq=ξ ob)->Q ψ { s with heap:=h',toks:=tk }):cm mm A (getAttr? bp (cH "keys")) Q E:=by
 obtain ⟨hp,g,d,tk,os⟩:=s;have hT:(⟨hp,g,d,tk,os⟩:aO).TypeIs bp "list" := ik _ hx;have f1:=sub_AttributeError;have f3:=F.slot_list_getattribute.lookup;have f4:=F.slot_list_getattribute.bind bp;have f5:=Aqb;unfold getAttr? getAttrBy? getAttrBy
 (repeat (any_goals (first | assumption | wp_step)));refine codeAny_call_builtin F.slot_list_getattribute.plain F.entry_list_ga (F.slot_list_getattribute.check _ _ _ _ _ _ _ _ hT (F.args_list_getattribute_2 _ _) (Aq9 (A:=qQ A) hA hx fun h' tk' e hn=>?_))
 obtain ⟨t',u',he⟩:=hn.there;show i6 _ _ (getattributeRaised _ _ _ _ _ _ _) _ _;unfold getattributeRaised
 (repeat (any_goals (first | assumption | wp_step)));exact h _ _ hn.keeps
theorem Agy:entryFor table "dict.update.loop" = ξ gZ.«dict.update.loop» := entryFor_of_fast (by kernel_rfl)
theorem Tj:plainId "dict.update.loop" = true:=Zd
structure PairAt(P:cL)(w:dC)(h:Heap)(v:aJ)(k:L2.Key)(x:aJ):Prop where
 ex:∃ (T:Addr) (key:aJ),v = .ref T/\h.IsTuple T #[key,x]/\(L2.Bs P w).is k key=true
theorem W4:∀ (ps:List (L2.Key×aJ)),(merged ([]:List (L2.Key×aJ)) ps).length<=ps.length:=by
 have aux:∀ (ps vs:List (L2.Key×aJ)),(merged vs ps).length<=vs.length+ps.length:=by
  intro ps;induction ps with
  | nil=>intro vs;exact aN _
  | cons p ps ih=>
   intro vs;have h1:=ih (stored vs p.1 p.2);have h2:(stored vs p.1 p.2).length<=vs.length+1:=by unfold stored;split <;> simp
   show (merged (stored vs p.1 p.2) ps).length<=_;rw[aR];omega
 exact fun ps=>by have:=aux ps [];simpa using this
theorem Aeh{prog:cL}{w:dC}{A:dN}{s:aO}{R:vF->aO->Prop}{d it l:Addr}{its:ac}{ps:List (L2.Key×aJ)}{h1:Heap}(hA:A.handled=ψ)(res:aJ)(hdi:d≠it)(hdl:d≠l)(hli:l≠it)(hlen:its.length=ps.length)(hsz:ps.length<=1000000)
  (hp:∀ (h:Heap) (j:Nat) (v:aJ) (p:L2.Key×aJ),(∀ b o,b≠d->b≠it->h1.get? b=ao->jd=ao)->its[j]? = j3->ps[j]? = ξ p->PairAt prog w h v p.1 p.2)
  (hR:∀ h' tk,(∀ b o,b≠d->b≠it->h1.get? b=ao->cq=ao)->h'.DictOf (L2.Bs prog w) d (merged [] ps)->R (.ok (.ret res)) { s with heap:=h',toks:=tk }) :
  ∀ (k i:Nat) (h:Heap) (tk:Nat),ps.length - i=k->i<=ps.length->(∀ b o,b≠d->b≠it->h1.get? b=ao->jd=ao)->h.IsListIter it l i->h.IsList l its.toArray->h.DictOf (L2.Bs prog w) d (merged [] (ps.take i)) ->
   nQ mm A (.builtin "dict.update.loop" ⟨[.ref d,.ref it,rawInt i,res],[]⟩) R { s with heap:=h,toks:=tk }:=by
 intro k;induction k with
 | zero=>
  intro i h tk hk hi hkeep hit hl hD;have hin:i=ps.length:=Ze
  subst hin;rw[gX] at hD;refine gG Agy ?_;rw[eI Tj _];show i6 _ A.in1 (pyNext (.ref it) >>= _) _ _;refine aG (rA (s:={ s with heap:=h,toks:=tk }) (A:=A.in1) hA hit hl (by simp;omega) fun h' he=>?_);exact aG (aU (aU (hR h' tk (fun b o x1 x2 e=>he b o x2 (hkeep b o x1 x2 e)) (hD.extBut he hdi))))
 | succ k ih=>
  intro i h tk hk hi hkeep hit hl hD;have hlt:i < ps.length:=Ze
  have hlt2:i < its.length:=Ze
  obtain ⟨T,key,e1,e2,e3⟩:=(hp h i its[i] ps[i] hkeep (aC hlt2) (aC hlt)).ex;refine gG Agy ?_;rw[eI Tj _];show i6 _ A.in1 (pyNext (.ref it) >>= _) _ _;refine aG (qH (s:={ s with heap:=h,toks:=tk }) (A:=A.in1) hit hl (x:=.ref T) (by simp[hlt2,<- e1]) fun h' hit' hs'=>?_);have hTi:T≠it:=fun q=>by
   obtain ⟨o,ho,hc,_⟩:=e2;obtain ⟨o',ho',hc',_⟩:=hit;rw[q,ho'] at ho;cases ho;rw[hc'] at hc;simp at hc
  have hTd:T≠d:=fun q=>by
   obtain ⟨o,ho,hc,_⟩:=e2;obtain ⟨o',ho',hc'⟩:(⟨h,s.gens,s.drawn,tk,s.os⟩:aO).TypeIs (.ref d) "dict" := Heap.DictOf.typeIs (s:=⟨h,s.gens,s.drawn,tk,s.os⟩) hD;rw[q,ho'] at ho;cases ho;rw[hc'] at hc;simp at hc
  have e2':h'.IsTuple T #[key,ps[i].2]:=e2.at fun o e=>(hs'.2 T hTi).trans e
  have hD':h'.DictOf (L2.Bs prog w) d (merged [] (ps.take i)):=hD.extBut hs'.extBut hdi;refine aG (dP (aG (jQ ?_)));obtain ⟨o,ho,hc,n,hd⟩:=id e2';unfold gZ.Dict.pairItems;refine aG (nS (T := "tuple") ⟨o,ho,hc⟩ ?_);rw[if_pos Zc];refine aG (show wpAny _ _ (seqItems? (eB T)) _ _ _ from ?_);unfold seqItems?;refine aG (sP ho ?_);rw[hd];refine aU (aU (dP (wpAny_dictSet_pairs (s:={ s with heap:=h',toks:=tk }) e3 hD' (fun h2 hD2 hs2=>?_) ?zz)))
  case zz=>have:=W4 (ps.take i);rw[cV];simp at this;omega
  have htk:merged [] (ps.take (i+1))=stored (merged [] (ps.take i)) ps[i].1 ps[i].2:=by
   rw[eF,aC hlt];unfold merged;rw[pI];rfl
  refine aU ⟨jJ Tj _,?_⟩;have hcast:((i:Int)+1)=((i+1:Nat):Int):=Ze
  rw[hcast];refine ih (i+1) h2 _ Ze hlt (fun b o x1 x2 e=>(hs2.2 b x1).trans ((hs'.2 b x2).trans (hkeep b o x1 x2 e))) (hit'.at fun o e=>(hs2.2 it (eJ hdi)).trans e) ((hl.at fun o e=>(hs'.2 l hli).trans e).at fun o e=>(hs2.2 l (eJ hdl)).trans e) ?_;rw[htk];exact hD2
theorem Ad8{Q:aJ->aO->Prop}{l:Addr}{its:ac}{ps:List (L2.Key×aJ)}(hA:A.handled=ψ)(hx:s.heap.get? l=ξ { cls:=.type "list",dict:=ψ,data:=.seq its.toArray n,slots:=sl })(hlen:its.length=ps.length)(hsz:ps.length<=1000000)
  (hp:∀ (h:Heap) (j:Nat) (v:aJ) (p:L2.Key×aJ),(∀ b o,a9=ao->jd=ao)->its[j]? = j3->ps[j]? = ξ p->PairAt prog w h v p.1 p.2)
  (hQ:∀ h' tk,Z7->h'.DictOf (L2.Bs prog w) s.heap.objs.size (merged [] ps)->Q bq { s with heap:=h',toks:=tk }) :
  wpAny mm A (call p9 [cy]) Q E s:=by
 refine callType_codes (Q₁:=fun obj s₁=>obj = bq/\s₁ = { s with heap:=s.heap.push { cls:=.type "dict",data:=.dict #[] } }) F.kt_called_dict (F.kt_typeCall_dict_1 _) F.entry_dict_init (kt_code_dict_new _ (cu rfl)) ?_;rintro _ _ ⟨rfl,rfl⟩;have new:(s.heap.push { cls:=.type "dict",data:=.dict #[] }).DictOf (L2.Bs prog w) s.heap.objs.size []:=wG s.heap;have kp:∀ b o,a9=ao->(s.heap.push { cls:=.type "dict",data:=.dict #[] }).get? b=ao:=fun b o e=>n8
 have hlt:=bC hx;have hx1:=kp _ _ hx;refine ⟨new.typeIs,F.args_dict_init_2 _ _,?_⟩;unfold gZ.«dict.__init__» gZ.Dict.selfAndRest;refine aG (aG (wpAny_notOrdered_dict new.typeIs (show wpAny _ _ (pure (s.heap.objs.size,[eB l])) _ _ _ from aU ?_)));show i6 _ _ (qD "dict.__init__" s.heap.objs.size cy [] .none) _ _;unfold qD;refine aG (nS (T := "list") (ik _ hx1) ?_);rw[if_pos Zb];refine aG (Aig hA hx1 fun h2 tk2 kp2=>?_);rw[if_pos (show (ψ:bi).isNone=true from rfl)];have hx2:=kp2 _ _ hx1;have hl2:h2.IsList l its.toArray:=pz _ hx2 n rfl;have new2:h2.DictOf (L2.Bs prog w) s.heap.objs.size []:=by
  obtain ⟨o,es,ep,ho,r⟩:=new;exact ⟨o,es,ep,kp2 _ _ ho,r⟩
 have hd2:s.heap.objs.size < h2.objs.size:=by
  obtain ⟨o,es,ep,ho,r⟩:=new2;exact bC ho
 have kp3:∀ b o,a9=ao->(h2.push { cls:=.type "list_iterator",data:=.fields #[cy,v8] }).get? b=ao:=fun b o e=>jh (kp2 _ _ (kp _ _ e))
 have far:∀ b o,a9=ao->b≠s.heap.objs.size/\b≠h2.objs.size:=fun b o e=>by
  have:=v7;exact ⟨bW this,bW (tP this hd2)⟩
 refine aG (mN (aG (jB hl2 (aU ⟨jJ Tj _,?_⟩))));refine Aeh (A:=A.in1) (s:=s) (l:=l) (its:=its) (ps:=ps) (h1:=h2.push { cls:=.type "list_iterator",data:=.fields #[cy,v8] }) hA .none (bW hd2) (iE hlt) (bW (tP hlt hd2)) hlen hsz (fun h j v p hk e1 e2=>hp h j v p (fun b o e=>hk b o (far b o e).1 (far b o e).2 (kp3 b o e)) e1 e2) (fun h' tk hk hD=>?_) ps.length 0 _ _ rfl (eS _) (fun b o _ _ e=>e) ⟨_,ki,rfl,rfl⟩ (hl2.push _) (new2.push _);exact ⟨rfl,hQ h' tk (fun b o e=>hk b o (far b o e).1 (far b o e).2 (kp3 b o e)) hD⟩
end DP
namespace MR
open PySem PySem.Spec PyProof.Rows PySem.Calls L2 DP
inductive PairsV(K:aK)(H:Hp):List (Key×V)->List V->Prop
 | nil:PairsV K H [] []
 | cons {a:Addr} {k:Key} {v:V} {kvs:List (Key×V)} {ys:ε} (h:lv H a [kV k,v]) (r:PairsV K H kvs ys):PairsV K H ((k,v)::kvs) (bp::ys)
variable {K:aK}{H:Hp}
theorem PairsV.len{kvs:List (Key×V)}{ys:ε}(r:PairsV K H kvs ys):kvs.length=ys.length:=by
 induction r with
 | nil=>rfl
 | cons h r ih=>simp[ih]
variable {X:Cx}
section
theorem Ams{pins:List (Addr×Obj)}{σ:L2.St}{s:aO}(I:lj H s){kvs:List (Key×V)}{ys:ε}(r:PairsV X.K H kvs ys):∀ {its:ac},Vals ys its ->
  ∃ ps:List (Key×aJ),KV kvs ps/\∀ (j:Nat) (v:aJ) (p:Key×aJ),its[j]? = j3->ps[j]? = ξ p->∃ (T:Addr) (key:aJ),v = .ref T/\oY s.heap T #[key,p.2]/\(Bs X.prog X.w).is p.1 key=true:=by
 induction r with
 | nil=>intro its rv;cases rv;exact ⟨[],.nil,fun j v p e=>by simp at e⟩
 | @cons a k v kvs ys h r ih=>
  intro its rv;cases rv with
  | @cons _ u _ us r1 r2=>
   cases r1;obtain ⟨ps,kv,hp⟩:=ih r2;obtain ⟨ts,rt,it,_⟩:=I.tuple h;cases rt with
   | @cons _ key _ ts' k1 k2=>
    cases k2 with
    | @cons _ x _ ts'' x1 x2=>
     cases x2;refine ⟨(k,x)::ps,.cons ⟨rfl,x1⟩ kv,fun j v p e1 e2=>?_⟩;cases j with
     | zero=>
      simp at e1 e2;subst e1 e2;exact pz a key it (Aib k1)
     | succ j=>exact hp j v p (by simpa using e1) (by simpa using e2)
theorem Afb(hc:X.calm=true):CallR X p9 (fun xs H Q=>∃ (l:Addr) (ys:ε) (kvs:List (Key×V)),xs=[cy]/\qk X.K l ys/\PairsV X.K H kvs ys/\kvs.length<=1000000/\∀ p,qq=ψ->Q d7 (f7 p (.dK (Mn [] kvs)))):=by
 intro pins s σ H xs us Q I r h;obtain ⟨l,ys,kvs,rfl,hq,pv,hsz,q⟩:=h;obtain ⟨u,rfl,rx⟩:=Ee r;cases rx;obtain ⟨its,rv,pl,hz⟩:=oa;obtain ⟨ps,kv,hp⟩:=Ams I pv rv;have hl1:=rv.length;have hl2:=pv.len;have hl3:=kv.length;obtain ⟨⟨cls,dd,data,sl⟩,n,ho,h1,h2,h3⟩:=pl;simp only at h1 h2 h3;subst h1 h2 h3;refine Ad8 (ps:=ps) i7 ho Ze Ze (fun h j v p kp e1 e2=>?_) fun h' tk kp hD=>?_
 ·obtain ⟨T,key,rfl,it,hk⟩:=hp j v p e1 e2;obtain ⟨o,ho,hcls,n',hd'⟩:=it;exact pz T key ⟨o,kp _ _ ho,hcls,n',hd'⟩ hk
 ·have hz2:(Mn [] kvs).length<=sizeLine:=by have:=Pq kvs [];rw[cV];simp at this;omega
  have I1:lj (ou (.dK (Mn [] kvs))) { s with heap:=h',toks:=tk }:=I.laid (t':=tk) kp be (Aec hz2 (beq_eq_false_iff_ne.mpr (eJ (bW I.big))) (kv.merge .nil) hD);exact ck bq _ I1 (q _ j5)
theorem Aek:CallR X p9 (fun xs H Q=>∃ (a:Addr) (kvs:List (Key×V)),xs=[bp]/\j7=ξ fw/\∀ p,qq=ψ->Q d7 (f7 p fw)):=by
 intro pins s σ H xs us Q I r h;obtain ⟨a,kvs,rfl,ha,q⟩:=h;obtain ⟨u,rfl,rx⟩:=Ee r;cases rx;exact An7 I (.inl ha) fun p s' hp I'=>ck d7 _ I' (q p hp)
def Asq(K:aK):ε->Hp->VK->Prop:=fun xs H Q=>(∃ (l:Addr) (ys:ε) (kvs:List (Key×V)),xs=[cy]/\qk K l ys/\PairsV K H kvs ys/\kvs.length<=1000000/\∀ p,qq=ψ->Q d7 (f7 p (.dK (Mn [] kvs)))) \/
 ∃ (a:Addr) (kvs:List (Key×V)),xs=[bp]/\j7=ξ fw/\∀ p,qq=ψ->Q d7 (f7 p fw)
theorem Aja(hc:X.calm=true):CallR X p9 (Asq X.K):=(Afb hc).or Aek
end
def Ug:U->Option (Key×U)
 | .tup [k,v]=>(toK k).map fun x=>(x,v)
 | _=>ψ
def Afe(kvs:List (Key×U)):List (Key×U):=kvs.foldl (fun acc kv=>Iu acc kv.1 kv.2) []
def Oi:SC:=fun us L=>match us with
 | [.ref n]=>match B3 L n with
  | some kvs=>ξ (cf,L++[.dic kvs])
  | none=>(sy).bind fun l=>(mapO Ug l).bind fun kvs=>if kvs.length<=1000000 then ξ (cf,L++[.dic (Afe kvs)]) else ψ
 | _=>ψ
variable {α:Ψ}
theorem Ab2:∀ {us:aa} {ys:ε} {kvs:List (Key×U)},vm us ys->mapO Ug us=ξ kvs->∃ vs,PairsV K H vs ys/\RepKV K H α kvs vs
 | [],ys,kvs,r,e=>by
  unfold RepL at r;subst r;simp only[mapO] at e;cases e;exact ⟨[],.nil,.nil⟩
 | u::us,ys,kvs,r,e=>by
  unfold RepL at r;obtain ⟨x,xr,rfl,r1,r2⟩:=r;simp only[mapO] at e;obtain ⟨kv,e1,e⟩:=af;obtain ⟨kvr,e2,e⟩:=cx;subst e;obtain ⟨vs,pv,rk⟩:=Ab2 r2 e2;unfold Ug at e1;split at e1
  ·rename_i k v;obtain ⟨kk,hk,e1⟩:=aH.mp e1;subst e1;unfold RepU at r1;obtain ⟨a,xs,rfl,sq,rl⟩:=r1;unfold RepL at rl;obtain ⟨x1,xr1,rfl,rx1,rl⟩:=rl;unfold RepL at rl;obtain ⟨x2,xr2,rfl,rx2,rl⟩:=rl;unfold RepL at rl;subst rl;rw[Aan rx1 hk] at sq;exact ⟨(kk,x2)::vs,.cons sq pv,.mk rx2 rk⟩
  ·cases e1
theorem Yn:∀ {more:List (Key×U)} {ms:List (Key×V)} {kvs:List (Key×U)} {vs:List (Key×V)},l7 K H more ms->l7 K H kvs vs->RepKV K H α (more.foldl (fun acc kv=>Iu acc kv.1 kv.2) kvs) (Mn vs ms)
 | [],ms,kvs,vs,r,r0=>by
  obtain ⟨h1,_⟩:=r;cases ms with
  | nil=>exact r0
  | cons _ _=>simp at h1
 | kv::more,ms,kvs,vs,r,r0=>by
  obtain ⟨x,ms',rfl,rx,r'⟩:=r.cons;show l7 K H (more.foldl (fun acc kv=>Iu acc kv.1 kv.2) (Iu kvs kv.1 kv.2)) (Mn (Mg vs kv.1 x) ms');exact Yn r' (r0.put rx)
theorem Abs.dict{L:UH}{p:Addr}{kvs:List (Key×U)}{vs:List (Key×V)}(A:ia K H L)(r:l7 K H kvs vs)(hp:qq=ψ) :
  Gr H α (f7 p nj) (α ++ [p])/\Abs K (f7 p nj) (α ++ [p]) (L++[.dic kvs])/\RepU K (f7 p nj) (α ++ [p]) cf d7:=by
 have g:je H (f7 p nj) (α ++ [p]):=⟨cu [p],.new hp _⟩;obtain ⟨A',_⟩:=A.new (o:=.dK vs) (u:=.dic kvs) hp ⟨vs,upd_same,(l6).1,(l6).2⟩;refine ⟨g,A',?_⟩;unfold RepU;exact ⟨p,by rw[<- A.len];simp,rfl⟩
theorem Aos:R9 K (Asq K) Oi:=by
 intro H α L us xs z L' Q A r e q;unfold Oi at e;split at e
 ·obtain ⟨x,rfl,rx⟩:=r.one;split at e
  ·rename_i kvs hd;cases e;obtain ⟨a,vs,rfl,ea,ha,rk⟩:=G9 A hd rx;refine .inr ⟨a,vs,rfl,ha,fun p hp=>?_⟩;obtain ⟨g2,A2,r3⟩:=A.dict rk hp;exact q _ _ _ g2 A2 r3
  ·obtain ⟨l,hl,e⟩:=af;obtain ⟨kvs,hk,e⟩:=af;split at e
   ·rename_i hlen;cases e;obtain ⟨a,ys,rfl,sq,r2⟩:=Fi A hl rx;obtain ⟨vs,pv,rk⟩:=Ab2 r2 hk;refine .inl ⟨a,ys,vs,rfl,sq,pv,by rw[<- rk.len];exact hlen,fun p hp=>?_⟩;obtain ⟨g2,A2,r3⟩:=A.dict (Yn rk .nil) hp;exact q _ _ _ g2 A2 r3
   ·cases e
 ·cases e
def Yr(kb ka:List (Key×Int)):Bool:=ka.all fun p=>match kb.find? fun q=>decide (q.1=p.1) with | none=>false | some q=>p.2 == q.2
def eqD(ka kb:List (Key×Int)):Bool:=ka.length == kb.length&&Yr kb ka
def kiV(kb:List (Key×Int)):List (Key×V):=kb.map fun p=>(p.1,V.int p.2)
theorem Ap7(kb:List (Key×Int))(k:Key):N3 (kiV kb) k=(kb.find? fun q=>decide (q.1=k)).map fun q=>V.int q.2:=by
 unfold N3 kiV;induction kb with
 | nil=>rfl
 | cons p kb ih=>
  rw[aQ,cU,cU];by_cases h:p.1=k
  ·simp[h]
  ·simp only[h,decide_false];exact ih
theorem Y9{A:dN}{s:aO}{kb:List (Key×Int)}{wb:List (Key×aJ)}(hb:KV (kiV kb) wb):∀ {ka:List (Key×Int)} {wa:List (Key×aJ)},KV (kiV ka) wa->PySem.W.KeqHits A s wb wa (Yr kb ka)
 | [],wa,r=>by cases r;exact .nil
 | p::ka,wa,r=>by
  have r':vB (fun (p:Key×V) (q:Key×aJ)=>p.1=q.1/\L2.RelV p.2 q.2) ((p.1,V.int p.2)::kiV ka) wa:=r;cases r' with
  | @cons _ w _ ws h t=>
   obtain ⟨w1,w2⟩:=w;obtain ⟨e1,⟨tk,e2⟩⟩:=h;simp only at e1 e2;subst e1 e2;have ih:=Y9 (A:=A) (s:=s) hb (ka:=ka) t;have hv:=hb.val p.1;rw[Ap7] at hv;have hh:Yr kb (p::ka)=((match kb.find? fun q=>decide (q.1=p.1) with | none=>false | some q=>p.2 == q.2)&&Yr kb ka):=by unfold Yr;rw[jH]
   rw[hh];cases hf:kb.find? fun q=>decide (q.1=p.1) with
   | none=>
    rw[hf] at hv;exact .miss (RelO.none_of hv)
   | some q=>
    rw[hf] at hv;have:∃ y,valueAt wb p.1=ξ y/\L2.RelV (V.int q.2) y:=by
     cases hw:valueAt wb p.1 with
     | none=>rw[hw] at hv;cases hv
     | some y=>rw[hw] at hv;exact ⟨y,rfl,hv⟩
    obtain ⟨y,hy,tk2,rfl⟩:=this;exact .hit hy (oH p.2 tk q.2 tk2) ih
def Ajs(neg:Bool):R2:=fun x y H Q=>∃ a b ka kb,x = bp/\y = gv/\j7=ξ (.dK (kiV ka))/\gn=ξ (.dK (kiV kb))/\Q (.bl (if neg then !eqD ka kb else eqD ka kb)) H
theorem Awv(hu:X.A.units < cLine):m9 X .NotEq (Ajs true):=by
 intro pins s σ H x y v u Q I rx ry h;obtain ⟨a,b,ka,kb,rfl,rfl,ha,hb,q⟩:=h;cases rx;cases ry;obtain ⟨_,d1,wa,ra,da⟩:=Vv I.hok ha;obtain ⟨_,d2,wb,rb,db⟩:=Vv I.hok hb;have l1:=ra.length;have l2:=rb.length;unfold kiV at l1 l2;rw[aL] at l1 l2;refine PySem.W.keq_ne d1 d2 da db hu (fun _=>Y9 rb ra) ⟨.bl (!eqD ka kb),H,I,?_,q⟩;unfold eqD;rw[l1,l2];rfl
theorem Av5(hu:X.A.units < cLine):m9 X .Eq (Ajs false):=by
 intro pins s σ H x y v u Q I rx ry h;obtain ⟨a,b,ka,kb,rfl,rfl,ha,hb,q⟩:=h;cases rx;cases ry;obtain ⟨_,d1,wa,ra,da⟩:=Vv I.hok ha;obtain ⟨_,d2,wb,rb,db⟩:=Vv I.hok hb;have l1:=ra.length;have l2:=rb.length;unfold kiV at l1 l2;rw[aL] at l1 l2;refine PySem.W.keq_eq d1 d2 da db hu (fun _=>Y9 rb ra) ⟨.bl (eqD ka kb),H,I,?_,q⟩;unfold eqD;rw[l1,l2];rfl
def Af3:Key×U->Option (Key×Int)
 | (k,.int i)=>ξ (k,i)
 | _=>ψ
def E2:S2:=fun u w L=>match u,w with
 | .ref n,.ref m=>match B3 L n with
  | some ka=>(B3 L m).bind fun kb=>(mapO Af3 ka).bind fun a=>(mapO Af3 kb).map fun b=>(.bl (!eqD a b),L)
  | none=>Di u w L
 | _,_=>Di u w L
theorem Rl:∀ {kvs:List (Key×U)} {vs:List (Key×V)} {a:List (Key×Int)},l7 K H kvs vs->mapO Af3 kvs=m7->vs=kiV a
 | [],vs,a,r,e=>by
  simp only[mapO] at e;cases e;obtain ⟨h1,_⟩:=r;cases vs with
  | nil=>rfl
  | cons _ _=>simp at h1
 | kv::kvs,vs,a,r,e=>by
  obtain ⟨x,vs',rfl,rx,r'⟩:=r.cons;simp only[mapO] at e;obtain ⟨p,e1,e⟩:=af;obtain ⟨ar,e2,e⟩:=cx;subst e;rw[Rl r' e2];obtain ⟨k,v⟩:=kv;cases v with
  | int i=>
   cases e1;unfold RepU at rx;subst rx;rfl
  | _=>cases e1
theorem Ul(hu:X.A.units+64 < cLine):m9 X .NotEq (fun x y H Q=>Acy X.K true x y H Q\/Ajs true x y H Q):=(R0 hu).or (Awv Ze)
theorem Afx(hu:X.A.units+64 < cLine):m9 X .Eq (fun x y H Q=>Acy X.K false x y H Q\/Ajs false x y H Q):=(Fq hu).or (Av5 Ze)
theorem Qu:Dw K (fun x y H Q=>Acy K true x y H Q\/Ajs true x y H Q) E2:=by
 intro H α L u w x y z L' Q A ru rw e q;unfold E2 at e;split at e
 ·split at e
  ·rename_i n m _ ka hd;obtain ⟨kb,hb,e⟩:=af;obtain ⟨a,ha',e⟩:=af;obtain ⟨b,hb',e⟩:=cx;cases e;obtain ⟨p,vs,rfl,ep,hp,rk⟩:=G9 A hd ru;obtain ⟨p2,vs2,rfl,ep2,hp2,rk2⟩:=G9 A hb rw;rw[Rl rk ha'] at hp;rw[Rl rk2 hb'] at hp2;exact .inr ⟨p,p2,a,b,rfl,rfl,hp,hp2,q _ H α gp A rfl⟩
  ·exact .inl (Qf H α L _ _ x y z L' Q A ru rw e q)
 ·exact .inl (Qf H α L _ _ x y z L' Q A ru rw e q)
end MR
namespace MR
open PySem PySem.Spec PyProof.Rows PySem.Calls L2
def Ip:S2:=fun u w L=>match u,w with
 | .ref n,.ref m=>match B3 L n with
  | some ka=>(B3 L m).bind fun kb=>(mapO Af3 ka).bind fun a=>(mapO Af3 kb).map fun b=>(.bl (eqD a b),L)
  | none=>By u w L
 | _,_=>By u w L
theorem Aa3{K:aK}:Dw K (fun x y H Q=>Acy K false x y H Q\/Ajs false x y H Q) Ip:=by
 intro H α L u w x y z L' Q A ru rw e q;unfold Ip at e;split at e
 ·split at e
  ·rename_i n m _ ka hd;obtain ⟨kb,hb,e⟩:=af;obtain ⟨a,ha',e⟩:=af;obtain ⟨b,hb',e⟩:=cx;cases e;obtain ⟨p,vs,rfl,ep,hp,rk⟩:=G9 A hd ru;obtain ⟨p2,vs2,rfl,ep2,hp2,rk2⟩:=G9 A hb rw;rw[Rl rk ha'] at hp;rw[Rl rk2 hb'] at hp2;exact .inr ⟨p,p2,a,b,rfl,rfl,hp,hp2,q _ H α gp A rfl⟩
  ·exact .inl (Ez H α L _ _ x y z L' Q A ru rw e q)
 ·exact .inl (Ez H α L _ _ x y z L' Q A ru rw e q)
end MR
namespace MR
open PySem PySem.Spec PyProof.Rows L2
def Ai0(L:UH)(n:Nat):Option (List (Key×U)):=match L[n]? with
 | some (.dic kvs)=>ξ kvs
 | some (.rod kvs)=>ξ kvs
 | _=>ψ
theorem Ame{K:aK}{H:Hp}{α:Ψ}{L:UH}{n:Nat}{x:V}{kvs:List (Key×U)}(A:ia K H L)(h:Ai0 L n=ξ kvs)(r:gh K H di x):∃ a vs,x = bp/\α[n]? = m7/\Rd H a nj/\l7 K H kvs vs:=by
 unfold RepU at r;obtain ⟨a,ea,rfl⟩:=r;unfold Ai0 at h;split at h
 ·rename_i kvs' e;cases h;obtain ⟨vs,q,k1,k2⟩:=A.rep n a _ ea e;exact ⟨a,vs,rfl,ea,.inl q,k1,k2⟩
 ·rename_i kvs' e;cases h;obtain ⟨o,vs,q,k1,k2⟩:=A.rep n a _ ea e;exact ⟨a,vs,rfl,ea,.inr ⟨o,q⟩,k1,k2⟩
 ·cases h
section
variable {X:Cx}{o i e f:Expr}{pos apos cpos:Pos}{fo fi fe fx:FE}
def Y5(fo fi:FE):FE:=fun δ L=>(fo δ L).bind fun p=>(fi δ p.2).bind fun q=>match p.1 with
 | .ref n=>(toK q.1).bind fun k=>(Ai0 q.2 n).bind fun kvs=>(G0 kvs k).map fun u=>(u,q.2)
 | _=>ψ
theorem Am9(hu:X.A.units+64 < cLine)(ho:gy o fo)(hi:gy i fi)(hs:Aqo i):gy (nk o i) (Y5 fo fi):=by
 refine PE.imp (Agg Ze ho hi hs) ?_;rintro σ H Q ⟨α,δ,L,A,S,z,L3,e,q⟩;obtain ⟨⟨u,L1⟩,e1,e⟩:=af;obtain ⟨⟨w,L2⟩,e2,e⟩:=af;refine ⟨α,δ,L,A,S,u,L1,e1,fun x H1 α1 g1 A1 r1=>⟨α1,δ,L1,A1,ge,w,L2,e2,fun y H2 α2 g2 A2 r2=>?_⟩⟩;simp only at e;split at e
 ·obtain ⟨k,hk,e⟩:=af;obtain ⟨kvs,hd,e⟩:=af;obtain ⟨v,hv,e⟩:=cx;cases e;obtain ⟨a,vs,rfl,ea,ha,rk⟩:=Ame A2 hd (r1.mono g2);obtain ⟨x',hx',rx'⟩:=rk.val hv;exact pz a x' (.inl ⟨vs,k,ha,Aan r2 hk,hx'.symm⟩) (q _ _ _ d6 A2 rx')
 ·cases e
end
end MR
namespace MR
open PySem PySem.Spec PyProof.Rows PySem.Calls L2
variable {X:Cx}
noncomputable abbrev Kn(o:Obj):HO:=.frz o (.ext fun _=>True)
variable {H:Hp}
theorem Tq{P:cL}{w:dC}{h:Heap}{a:Addr}{o:Obj}(e:h.get? a=ao):ObjOk P w H h a (Kn o):=⟨e,trivial,⟨o,e⟩,fun _ _ _ _=>trivial⟩
noncomputable abbrev Auf(q:Str)(params:mK)(body:Expr)(scope:kA)(cl:List (Str×Addr))(pm:aJ)(c:Addr)(ct:aJ):Obj:=wU "<lambda>" q params body scope cl pm c ct
def LamAt(H:Hp)(q:Str)(params:mK)(body:Expr)(scope:kA)(cl:List (Str×Addr))(f:Addr):Prop:=∃ pm c ct,H f=ξ (Kn (Auf q params body scope cl pm c ct))/\LCode H q ow
variable {q:Str}{v:aJ}
theorem LCode.stay{H':Hp}(st:Stay H H')(h:LCode H q v):LCode H' q v:=by
 obtain ⟨c,oc,vs,t,e1,e2,r⟩:=h;exact ⟨c,oc,vs,t,e1,st.2 _ _ _ e2,r⟩
variable {params:mK}{body:Expr}{scope:kA}{cl:List (Str×Addr)}
theorem LamAt.stay{H':Hp}{f:Addr}(st:Stay H H')(h:LamAt H q params body scope cl f):LamAt H' q params body scope cl f:=by
 obtain ⟨pm,c,ct,e,l⟩:=h;exact ⟨pm,c,ct,st.2 _ _ _ e,l.stay st⟩
section
variable {pins:List (Addr×Obj)}{σ:L2.St}{s:aO}{α:Ψ}{L:UH}{nm:Str}{c P:Addr}{pos:Pos}
theorem Inv.grow{t':Nat}{h':Heap}{P:Addr}{ps more:bv}(I:lj H s)(hP:H P=ξ (.tbl ps))(k:∀ b o,b≠P->a9=ao->cq=ao)(hp:h'.get? P=ξ { cls:=.none,data:=.fields (ps++more) }) :
  L2.Inv X pins σ (f7 P (.tbl (ps++more))) { s with heap:=h',toks:=t' }:=by
 have nP:∀ b,gn=ψ->b≠P:=fun b n z=>by rw[z,hP] at n;cases n
 refine I.step (g':=s.gens) (d':=s.drawn) (ch:=[]) (fun _ z=>nomatch z) (fun b o _ _ _ e n=>k b o (nP b n) e) (fun b o _ _ _ e n=>⟨o.slots,k b o (nP b n) e⟩) (fun b o _ e n=>by rw[Au (nP b n)];exact n) (fun b o _ e=>?_) (fun b xs e=>?_) (fun b o u e=>?_) (fun b qs e=>?_) (fun m hm=>?_) (fun b u e=>?_) I.bare
 ·by_cases hb:b=P
  ·subst hb;exact ⟨_,hp⟩
  ·exact ⟨o,k b o hb e⟩
 ·rw[Au (Ni e hP Z6)];exact e
 ·rw[Au (Ni e hP Z6)];exact e
 ·by_cases hb:b=P
  ·subst hb;rw[hP] at e;cases e;exact ⟨more,upd_same⟩
  ·exact ⟨#[],by rw[Au hb,e];simp⟩
 ·obtain ⟨o1,es,ep,ho,r⟩:=hm;exact ⟨o1,es,ep,k _ o1 (nP _ I.free) ho,r⟩
 ·by_cases hb:b=P
  ·subst hb;rw[upd_same] at e;cases e;exact hp
  ·rw[Au hb] at e;refine (I.hok b u e).stay (fun c v hc q=>k c v ?_ q) (fun c q=>by rw[Au (Ni q hP Z6)];exact q) fun c xs q=>by rw[Au (Ni q hP Z6)];exact q
   rcases hc with z | z
   ·rw[z];exact hb
   ·exact Ni z hP Z6
theorem Qr{a b:Nat}{v:aJ}:∀ {ps:ac},vI ps->vI (ps++[rawInt a,rawInt b,v])
 | [],_=>trivial
 | .int _ _ :: .int _ _::_::rest,h=>Qr (ps:=rest) h
theorem U1{pos:Pos}{a b:Nat}{v cv:aJ}:∀ {ps:ac},vI ps->codeAmong pos (ps++[rawInt a,rawInt b,v])=ξ cv->codeAmong pos ps=ξ cv\/cv=v
 | [],_,e=>by
  have e':(if ((a:Int) == pos.line&&(b:Int) == pos.col)=true then ξ v else codeAmong pos [])=ξ cv:=e;split at e'
  ·cases e';exact .inr rfl
  ·cases e'
 | .int x _ :: .int y _::w::rest,h,e=>by
  have e':(if (x == pos.line&&y == pos.col)=true then ξ w else codeAmong pos (rest++[rawInt a,rawInt b,v]))=ξ cv:=e;show (if (x == pos.line&&y == pos.col)=true then ξ w else codeAmong pos rest)=ξ cv\/cv=v;split at e'
  ·rename_i hc;rw[if_pos hc];exact .inl e'
  ·rename_i hc;rw[if_neg hc];exact U1 (ps:=rest) h e'
theorem An1(B:LamB X.K X.mg X.base)(hnm:nm∈Gs)(ht:dQ X.K nm=ξ (c,P))(hcode:X.env.code = ow)(hq:X.env.qual++("<lambda>" : Str)=Ov nm)(hdef:defaultsOf params X.env=([],[]))(hcl:closureFor scope X.env=pure cl)
  (I:lj H s) (A:ia X.K H L):wpAny bj X.A (bn (.Lambda params body scope pos))
   (fun v s'=>∃ f H',v = ff/\lj H' s'/\je H H' α/\ia X.K H' L/\LamAt H' (Ov nm) params body scope cl f) X.xe s:=by
 obtain ⟨ps,hP,tr,good⟩:=A.tab nm hnm c P ht;have hPo:s.heap.get? P=ξ (PySem.W.tabObj ps):=I.hok P _ hP;have C:=(B.hd nm hnm c P ht).keeps I.bk;have G:s.heap.Ns dJ X.mg:=I.mod.glob.keeps I.bk;have nbP:∀ b o,X.base.get? b=ao->b≠P:=fun b o e z=>by
  have:=(I.bs b o e).2;rw[z,hP] at this;cases this
 have hgP:dJ≠P:=by
  obtain ⟨o,es,ep,e,_⟩:=I.mod.glob;exact nbP _ o e
 obtain ⟨bm,ob,b1,b2,b3,b4,b5,b6⟩:=B.bm;have hbG:bm≠dJ:=fun z=>by
  obtain ⟨o,es,ep,e,hd,_⟩:=I.mod.glob;rw[z,e] at b3;cases b3;rw[hd] at b6;cases b6
 have hb:s.heap.BuiltinsAt X.mg P:=⟨bm,ob,b1,b2,hbG,nbP _ ob b3,I.bk _ _ b3,b4,b5,b6⟩;refine PySem.W.kla_eval hdef ?_;rw[hq];cases hca:codeAmong pos ps.toList with
 | none=>
  refine PySem.W.kla_makeFunction (mg:=X.mg) hcl I.ok.glob G hcode C hPo tr hca hgP hb fun c' ctv h' tk hx hge hlt hrec htb=>?_
  obtain ⟨c₂,oc,vs,t,e2,hoc,hd,hv⟩:=hrec;cases e2;have I1:lj (f7 P Zo) { s with heap:=h',toks:=tk }:=Inv.grow I hP (fun b o hb e=>hx b o hb e) htb;have hc'n:H c'=ψ:=I.hok.fresh hge;have hc'P:c'≠P:=fun z=>by rw[z,hP] at hc'n;cases hc'n
  have hn1:(f7 P Zo) c'=ψ:=by rw[Au hc'P];exact hc'n
  have I2:lj (upd (f7 P Zo) c' (Kn oc)) { s with heap:=h',toks:=tk }:=by
   refine Inv.adopt (s:={ s with heap:=h',toks:=tk }) (t':=tk) I1 ?_ (fun b o _ e=>e) (Tq hoc);exact ⟨hn1,(I.fpOk hge hc'n).2⟩
  have hfs:(upd (f7 P Zo) c' (Kn oc)) h'.objs.size=ψ:=I2.hok.fresh be;generalize hO:wU "<lambda>" (Ov nm) params body scope cl ((X.mg "__name__").getD .none) c' ctv=fo;have I3:=I2.laid (t':=tk) (o:=Kn fo) (a:=h'.objs.size) (h':=h'.push fo) (fun b u e=>n8) be (Tq (aV _ (by rw[<- hO];rfl)));have st1:Stay H (f7 P Zo):=⟨fun b xs q=>by rw[Au (Ni q hP Z6)];exact q,fun b o u q=>by rw[Au (Ni q hP Z6)];exact q⟩
  have st2:=Stay.new hn1 (Kn oc);have st3:=Stay.new hfs (Kn fo);have st:=st1.trans (st2.trans st3);have g:je H _ α:=⟨⟨[],Za⟩,st⟩;have keep:∀ b u,b≠P->gn=br->(upd (upd (f7 P Zo) c' (Kn oc)) h'.objs.size (Kn fo)) b=br:=fun b u hb e=>by
   have e1:(f7 P Zo) b=br:=by rw[Au hb];exact e
   have e2:(upd (f7 P Zo) c' (Kn oc)) b=br:=by rw[rj e1 hn1];exact e1
   rw[rj e2 hfs];exact e2
  have lc:LCode (upd (upd (f7 P Zo) c' (Kn oc)) h'.objs.size (Kn fo)) (Ov nm) (.ref c'):=
   ⟨c',oc,vs,t,rfl,by rw[Au (bW hlt),upd_same],hd,hv⟩
  refine ⟨h'.objs.size,_,rfl,I3,g,⟨A.len,A.inj,fun i a o e1 e2=>(A.rep i a o e1 e2).other g ?_,fun nm2 hn2 c2 P2 e2=>?_⟩,⟨_,c',ctv,by rw[<- hO];exact upd_same,lc⟩⟩
  ·by_cases hr:o.isRo=true
   ·exact .inl hr
   ·refine .inr fun u q=>keep a u (fun z=>?_) q
    rw[z,hP] at q;cases q;have hr':=A.rep i a o e1 e2;rw[z] at hr';cases o with
    | lst us=>obtain ⟨xs,e,_⟩:=hr';rw[hP] at e;cases e
    | ro us=>exact hr rfl
    | dic kvs=>obtain ⟨xs,e,_⟩:=hr';rw[hP] at e;cases e
    | rod kvs=>obtain ⟨o,xs,e,_⟩:=hr';rw[hP] at e;cases e
    | ins C fs=>obtain ⟨_,_,_,_,e,_⟩:=hr';rw[hP] at e;cases e
    | exc C fr fs=>obtain ⟨_,_,_,_,e,_⟩:=hr';rw[hP] at e;cases e
  ·by_cases hPP:P2=P
   ·subst hPP;obtain ⟨ps2,hP2,tr2,good2⟩:=A.tab nm2 hn2 c2 P2 e2;rw[hP] at hP2;cases hP2;have hqq:Ov nm2=Ov nm:=by rw[B.inj nm2 hn2 nm hnm c2 c P2 e2 ht]
    have e3:(upd (f7 P2 Zo) c' (Kn oc)) P2=ξ Zo:=by rw[Au (eJ hc'P),upd_same]
    refine ⟨_,by rw[rj e3 hfs];exact e3,?_,fun p cv e=>?_⟩
    ·simpa using Qr (a:=pos.line) (b:=pos.col) (v:=.ref c') tr
    ·rcases U1 (a:=pos.line) (b:=pos.col) (v:=.ref c') tr (by simpa using e) with z | z
     ·exact (good2 p cv z).stay st
     ·rw[z,hqq];exact lc
   ·exact (A.tab nm2 hn2 c2 P2 e2).keep st.2 fun ps' e=>keep P2 _ hPP e
 | some cv=>
  obtain ⟨c',oc,vs,t,rfl,e2,hd,hv⟩:=good pos cv hca;refine PySem.W.kla_makeFunctionHit (mg:=X.mg) hcl I.ok.glob G hcode C hPo tr hca hb fun ctv h' tk hk hsz=>?_
  have I1:lj H { s with heap:=h',toks:=tk }:=I.kept hk;have hfs:H h'.objs.size=ψ:=ma;generalize hO:({ cls:=.type "function",data:=.func (xL "<lambda>" (Ov nm) params body scope cl ((X.mg "__name__").getD .none) (.ref c') ctv) }:Obj)=fo;have I3:=I1.laid (t':=tk) (o:=Kn fo) (a:=h'.objs.size) (h':=h'.push fo) (fun b u e=>n8) be (Tq (aV _ (by rw[<- hO];rfl)));have g:je H (f7 h'.objs.size (Kn fo)) α:=⟨⟨[],Za⟩,.new hfs _⟩;refine ⟨h'.objs.size,_,rfl,I3,g,⟨A.len,A.inj,fun i a o e1 e2=>(A.rep i a o e1 e2).other g (.inr fun u q=>by rw[rj q hfs];exact q),A.tabs g.st (Tx hfs _)⟩,⟨_,c',ctv,by rw[<- hO];exact upd_same,?_⟩⟩;exact LCode.stay g.st ⟨c',oc,vs,t,rfl,e2,hd,hv⟩
end
def Sn(X:Cx)(A:dN)(N':Φ)(q:Str)(scope:kA)(f c:Addr)(cl:List (Str×Addr))(s:aO)(H:Hp):Cx where
 prog:=X.prog
 w:=X.w
 K:=X.K
 mg:=X.mg
 base:=X.base
 A:=A.deeper (qT q scope s.heap.objs.size f ow cl)
 N:=N'
 s₀:=s
 H₀:=H
 env:=qT q scope s.heap.objs.size f ow cl
 outer:=X.stack
 stack:=qT q scope s.heap.objs.size f ow cl::X.stack
 ex:=[]
 calm:=true
 fn:=fun _=>false
 pn:=[]
 xe:=fun _ _=>False
structure LamSc(X:Cx)(params:mK)(body:Expr)(scope:kA)(N':Φ)(ix:ly)(p:Str):Prop where
 sc:CompSc X scope N' ix
 pre:N'[0]? = ξ p
 par:scope.names.lookup p=i9
 co:scope.isCoroutine=false
 gen:scope.isGenerator=false
 binds:∀ (q:Str) (cl:List (Str×Addr)) (pm cd ct v:aJ),rF (xL "<lambda>" q params body scope cl pm cd ct) ⟨[v],[]⟩=pure [(p,v)]
def Abn(ix:ly)(u:U)(δ:UE):UE:=(Ga ix δ).set 0 br
section
variable {pins:List (Addr×Obj)}{σ:L2.St}{s:aO}{α:Ψ}{L:UH}{c f:Addr}{N':Φ}{ix:ly}{p:Str}{A:dN}
theorem Ajf(S:LamSc X params body scope N' ix p)(hA:A.frames=X.A.frames)(hh:A.handled=ψ)(I2:lj H s)(hcl:∀ x c,mj=fg->bo=fg)(hcl2:∀ y∈scope.names,y.2 = .free->∃ c,qt=fg)
  {y:V} {x0:aJ} (ry:L2.RelV y x0) {h4:Heap} {t4:Nat} (hns:h4.Ns s.heap.objs.size (fun z=>[(p,x0)].reverse.lookup z)) (keep:∀ b o,a9=ao->h4.get? b=ao) :
  L2.Inv (Sn X A N' q scope f c cl s H) [] ((inner ix σ).set 0 (ξ y)) H { s with heap:=h4,toks:=t4 }:=by
 have e0:=I2.env0;have ok:(Sn X A N' q scope f c cl s H).Ok:=
  { mod:=I2.ok.mod
    kind:=S.sc.kind
    glob:=rfl
    blt:=rfl
    above:=aN _
    inj:=fun x y c e1 e2=>I2.ok.inj x y c (hcl x c e1) (hcl y c e2)
    has:=fun x h=>by
     have h':jr=j9\/jr=pf:=h;rcases h' with h' | h'
     ·have:=bO.mp S.sc.cell _ (Eb h');simp at this
     ·exact hcl2 _ (Eb h') rfl
    cab:=fun x c h=>by cases h
    hd:=fun _=>hh
    frames:=rG (hA.trans e0.frames)
    stk:=.inr ⟨rfl,rfl⟩
    exf:=fun b hb=>absurd (show b∈([]:Ψ) from hb) Za
    bs:=fun b o e=>I2.bs b o e
    bsz:=cC I2.ok.bsz I2.sz
    noex:=fun b o e hb=>absurd (show b∈([]:Ψ) from hb) Za
    exfs:=fun b hb z=>absurd (show b∈([]:Ψ) from hb) Za
    funs:=I2.stack
    frf:=I2.stkFree }
 obtain ⟨m0,hn0,hl0⟩:=id I2.loc;refine ⟨ok,rfl,I2.bare,Un.kept keep,⟨_,hns,fun j x v e1 e2 e3=>?_⟩,fun x c e=>?_,I2.hok.fresh be,fun x c e=>I2.freeC x c (hcl x c e),fun p hp=>absurd (show p∈([]:List (Addr×Obj)) from hp) Za,I2.hok.kept keep,?_⟩
 ·have e1':N'[j]? = jw:=e1;have e2':((inner ix σ).set 0 (ξ y))[j]? = ξ j3:=e2;by_cases hj:0=j
  ·subst hj;rw[S.pre] at e1';cases e1';have hlen:0 < (inner ix σ).length:=by
    unfold inner;rw[aL,<- S.sc.len];exact (aI.mp S.pre).1
   rw[bL hlen] at e2';cases e2';exact ⟨x0,ry,.inl ⟨S.par,Za⟩⟩
  ·rw[bF hj] at e2';unfold inner at e2';rw[aX] at e2';cases hx:ix[j]? with
   | none=>rw[hx] at e2';simp at e2'
   | some o=>
    rw[hx] at e2';cases o with
    | none=>simp at e2'
    | some i=>
     simp at e2';have hz:(x,ξ i)∈N'.zip ix:=bT (i:=j) (by rw[iT];exact ⟨e1',hx⟩)
     have hz':=bO.mp S.sc.ixs _ hz;simp only[cB,beq_iff_eq] at hz';obtain ⟨hXN,hfr⟩:=hz';have hσ:σ[i]? = ξ j3:=by
      cases q:σ[i]? with
      | none=>rw[q] at e2';simp at e2'
      | some o=>rw[q] at e2';simp at e2';rw[e2']
     have hk:=bO.mp S.sc.free _ (Eb hfr);simp at hk;have hvis:Vis X.env.scope x:=by
      rcases hk with q | q
      ·exact nv q
      ·exact vo q
     obtain ⟨u,r,look⟩:=hl0 i x v hXN hσ hvis;rcases look with ⟨q,_⟩ | ⟨_,c,ec,hc⟩
     ·rcases hk with z | z
      ·rw[z] at q;cases q
      ·rw[z] at q;cases q
     ·obtain ⟨c',ec'⟩:=hcl2 _ (Eb hfr) rfl;have:c'=c:=by have:=hcl x c' ec';rw[ec] at this;cases this;rfl
      subst this;refine ⟨u,r,.inr ⟨.inr hfr,c',ec',?_⟩⟩;obtain ⟨oc,ho,hd⟩:=hc;exact ⟨oc,keep _ _ ho,hd⟩
 ·obtain ⟨v,oc,ho,hd⟩:=I2.cell x c (hcl x c e);exact ⟨v,oc,keep _ _ ho,hd⟩
 ·show ((inner ix σ).set 0 (ξ y)).length=N'.length;rw[gF,S.sc.len];simp[inner]
theorem Ao2{k:Nat}{fb:FE}{δ:UE}(S:LamSc X params body scope N' ix p)(hr:Room (k+1) A)(hA:A.frames=X.A.frames)(hcl:∀ x c,mj=fg->bo=fg)(hcl2:∀ y∈scope.names,y.2 = .free->∃ c,qt=fg)
  (hb:∀ (c:Addr) (s:aO) (H:Hp),Room k (Sn X A N' q scope f c cl s H).A->PEF (Sn X A N' q scope f c cl s H) body fb)
  (I:lj H s) (Ab:ia X.K H L) (Sg:RepS X.K H α δ σ) (la:LamAt H q params body scope cl f) {u z:U} {y:V} {x:aJ} (ru:gh X.K H u y) (rx:L2.RelV y x) (hm:fb (Abn ix u δ) L=ξ (z,L)) :
  wpAny bj A (call ff [x]) (EP X pins σ Zx) (fun _ _=>False) s:=by
 obtain ⟨pm,c,ct,hf,c',oc,vs,t,e1,e2,hd,hv⟩:=la;cases e1;have ho:=(I.hok f _ hf).1;have hoc:=(I.hok c _ e2).1;refine sR (PySem.W.kla_callFunE hr.depth ho rfl S.co S.gen rfl ⟨c,oc,vs,t,rfl,hoc,hd,hv⟩ ?_);rw[S.binds q cl pm ow ct x];have hcell:∀ z∈scope.names,z.2≠.cell:=fun z hz=>by
  have:=bO.mp S.sc.cell z hz;simpa using this
 refine aU (wpAny_newFunctionEnv hcell (fun z hz=>by obtain rfl:z=(p,x):=bV.mp hz;exact S.par) (fun h₁ hns hsb=>⟨I.nolimit.fresh _ hsb,?_⟩) S.sc.kind);have hk₁:∀ b o,a9=ao->h₁.get? b=ao:=fun b o e=>hsb.extBut b o (bW v7) n8
 have J:L2.Inv (Sn X A N' q scope f c cl s H) [] ((inner ix σ).set 0 (ξ y)) H { s with heap:=h₁,toks:=s.toks+[(p,x)].length }:=Ajf S hA hr.hd I hcl hcl2 rx hns hk₁;have hrr:Room k (Sn X A N' q scope f c cl s H).A:=hr.deeper _;show nQ _ _ (.expr body (qT q scope s.heap.objs.size f ow cl)) _ _;refine PySem.W.kla_codeExpr (dO (hb c s H hrr [] _ _ H Zx J ⟨α,Abn ix u δ,L,Ab,(Sg.inner ix).set 0 ru,z,L,hm,fun v H' α' g A' r'=>⟨α',g,A',r'⟩⟩) (fun v s' he=>?_) fun _ _ hF=>hF.elim);obtain ⟨v',H',J',rv',hq⟩:=he;exact I.after ⟨v',H',J'.os,J'.bare,J'.base,J'.hok,rv',hq⟩
end
end MR
namespace MR
open PySem PySem.Spec PyProof.Rows PySem.Calls L2 SO
theorem Aiv{A:dN}{s:aO}{a b:Addr}{vs us:ac}{ns ms:Λ}(ha:oY s.heap a vs.toArray)(hb:oY s.heap b us.toArray)(ra:Vals fu vs)(rb:ja (ms.map V.int))(hu:A.units < cLine):sS A s bp gv (decide (ns=ms)):=by
 by_cases h:a=b
 ·subst h;obtain ⟨o,e1,_,n,d1⟩:=ha;obtain ⟨o',e2,_,n',d2⟩:=hb;rw[e1] at e2;cases e2;rw[d1] at d2;injection d2 with d3 _
  have:vs=us:=by simpa using congrArg tE d3
  subst this;have:ns=ms:=by
   have h1:=E3 ra;have h2:=E3 rb;have:∀ (vs:ac) (ns ms:Λ),iQ vs ns->iQ vs ms->ns=ms:=by
    intro vs;induction vs with
    | nil=>intro ns ms a b;cases a;cases b;rfl
    | cons v vs ih=>
     intro ns ms a b;cases a with
     | cons _ _ a'=>cases b with
      | cons _ _ b'=>rw[ih _ _ a' b']
   exact this vs ns ms h1 h2
  rw[decide_eq_true this];exact wD _
 ·have hl1:=ra.length;have hl2:=rb.length;rw[aL] at hl1 hl2;have key:=SeqAt.RcAt.tuples (A:=A) (s:=s) (l:=a) (b:=b) (items:=vs.toArray) (items2:=us.toArray) (e:=fun j=>decide (ns[j]? = ms[j]?)) ha hb hu (fun j h1 h2=>by
   simp only[aT] at h1 h2;obtain ⟨n,t,en,ev⟩:=Aid ra j vs[j] (aC h1);obtain ⟨m,t',em,eu⟩:=Aid rb j us[j] (aC h2);have e1:(vs.toArray)[j]=mJ n t:=by simpa using ev
   have e2:(us.toArray)[j]=mJ m t':=by simpa using eu
   rw[e1,e2];obtain ⟨e,he,hiff⟩:=HT.Vj A.in1 s n t m t';have:e=decide (ns[j]? = ms[j]?):=by
    rw[en,em,eV,hiff];simp
   rw[<- this];exact he)
  have e:((bJ (min vs.toArray.size us.toArray.size)).all (fun j=>decide (ns[j]? = ms[j]?))&&vs.toArray.size == us.toArray.size)=decide (ns=ms):=by
   rw[eV,cB,bO,beq_iff_eq,decide_eq_true_eq];simp only[aT,bM,decide_eq_true_eq];constructor
   ·rintro ⟨h1,h2⟩;apply kC;intro i;by_cases hi:i < ns.length
    ·exact h1 i Ze
    ·rw[cN Ze,cN Ze]
   ·rintro rfl;exact ⟨fun i _=>rfl,Ze⟩
  rw[e] at key;exact sS.of_refs h key
inductive PTups(K:aK)(H:Hp)(m:Nat):List (Λ×Λ)->List V->Prop
 | nil:PTups K H m [] []
 | cons {a b c:Addr} {p:Λ×Λ} {ts:List (Λ×Λ)} {ys:ε} (h:lv H a [gv,ow]) (hb:lv H b (p.1.map V.int)) (hc:lv H c (p.2.map V.int)) (hm:p.1.length=m) (r:PTups K H m ts ys):PTups K H m (p::ts) (bp::ys)
theorem PTups.len{K:aK}{H:Hp}{m:Nat}{ts:List (Λ×Λ)}{ys:ε}(r:PTups K H m ts ys):ts.length=ys.length:=by
 induction r with
 | nil=>rfl
 | cons _ _ _ _ _ ih=>simp[ih]
theorem PTups.at_{K:aK}{H:Hp}{m:Nat}{ts:List (Λ×Λ)}{ys:ε}(r:PTups K H m ts ys):∀ i,i < ts.length->∃ (a b c:Addr) (p:Λ×Λ),ts[i]? = ξ p/\ys[i]? = η a/\lv H a [gv,ow]/\lv H b (p.1.map V.int)/\lv H c (p.2.map V.int)/\p.1.length=m:=by
 induction r with
 | nil=>intro i h;simp at h
 | @cons a b c p ts ys h hb hc hm r ih=>
  intro i hi;cases i with
  | zero=>exact ⟨a,b,c,p,rfl,rfl,h,hb,hc,hm⟩
  | succ i=>simpa using ih i (by simpa using hi)
section
variable {X:Cx}
end
end MR
namespace MR
open PySem PyProof.Rows L2
theorem Vn:∀ x y:Λ,HT.Hy x y=ltT x y
 | [],[]=>by unfold HT.Hy ltT;rfl
 | a::x,[]=>by unfold HT.Hy ltT;rfl
 | [],b::y=>by unfold HT.Hy ltT;rfl
 | a::x,b::y=>by
  have ih:=Vn x y;rw[HT.Vl,ltT,ih];by_cases h:a=b
  ·subst h;simp
  ·have h':(a == b)=false:=by simpa using h
   rw[h',if_neg h,if_neg Za]
end MR
namespace HT
open PySem PyProof.Rows
open PySem.SeqAt
open PySem.AutoSeq1 (wpAny_loadPart')
open PySem.MeetsSeq PySem.MeetsSeq2 PySem.MeetsSeq3
def RcL(A:dN)(s:aO)(y x:aJ)(b:Bool):Prop:=
 ∀ (prog:cL) (w:dC) (E:aJ->aO->Prop) (Q:aJ->aO->Prop),Q (.bool b) s->cm mm A (richCompare .Lt y x) Q E
theorem Xn(l b:Addr)(x1 x2 y1 y2:aJ)(n n2:Nat)(dd dd2:du)(sl sl2:Array bi)(e1 e2 r:Bool) :
  Meets (gZ.«tuple.__lt__» ⟨[cy,gv],[]⟩)
   (fun A R s=>s.heap.get? l=ξ { cls:=.type "tuple",dict:=dd,data:=.seq #[x1,x2] n,slots:=sl }/\a9=ξ { cls:=.type "tuple",dict:=dd2,data:=.seq #[y1,y2] n2,slots:=sl2 } /\
    EqAt A.in1 s x1 y1 e1/\EqAt A.in1 s x2 y2 e2/\(e1=false->RcL A.in1 s x1 y1 r)/\(e1=true->e2=false->RcL A.in1 s x2 y2 r)/\(e1=true->e2=true->r=false)/\R (.ok (.ret (.bool r))) s):=
 .of_wp fun prog w A R s h=>by
  obtain ⟨hp,g,d,tk,os⟩:=s;obtain ⟨hl,hb,q1,q2,c1,c2,c3,h⟩:=h;have f2:=kN
  wp_walk using gE hl,gE hb,vG _ (fun rest b s'=>b.1=ψ/\s'=⟨hp,g,d,tk,os⟩/\(rest=[(x1,y1),(x2,y2)]\/(e1=true/\rest=[(x2,y2)])\/(e1=true/\e2=true/\rest=[]))) _
  case turn=>
   rintro ⟨y,x⟩ rest b s' ⟨hb',rfl,hz⟩;rcases hz with hz | ⟨he,hz⟩ | ⟨_,_,hz⟩
   ·cases hz;refine aG (q1 prog w _ _ ?_);cases e1 with
    | true=>
     wp_walk
     exact gu rfl (nv (cu rfl))
    | false=>
     have hri:=c1 rfl prog w
     wp_walk using hri
     exact ⟨_,rfl,by simpa using h⟩
   ·cases hz;refine aG (q2 prog w _ _ ?_);cases e2 with
    | true=>
     wp_walk
     exact gu rfl (vo (gu he rfl))
    | false=>
     have hri:=c2 he rfl prog w
     wp_walk using hri
     exact ⟨_,rfl,by simpa using h⟩
   ·cases hz
  case fin=>
   rintro ⟨b1,b2⟩ s' ⟨hb',rfl,hz⟩;simp only at hb';subst hb';rcases hz with hz | ⟨he,hz⟩ | ⟨he,he2,hz⟩
   ·cases hz
   ·cases hz
   ·have hr:=c3 he he2;subst hr
    wp_walk
    exact ⟨_,rfl,by simpa[lZ] using h⟩
  case h=>exact gu rfl jc
section
variable {prog:cL}{w:dC}{A:dN}{E:aJ->aO->Prop}{s:aO}
theorem Aqq{l b:Addr}{x1 x2 y1 y2:aJ}{e1 e2 r:Bool}{Q:aJ->aO->Prop}(hl:oY s.heap l #[x1,x2])(hb:oY s.heap b #[y1,y2])(q1:EqAt A.in1 s x1 y1 e1)(q2:EqAt A.in1 s x2 y2 e2)
  (c1:e1=false->RcL A.in1 s x1 y1 r) (c2:e1=true->e2=false->RcL A.in1 s x2 y2 r) (c3:e1=true->e2=true->r=false)
  (hu:A.units < cLine) (h:Q (.bool r) s):cm mm A (richCompare .Lt cy gv) Q E:=by
 obtain ⟨⟨cls,dd,data,sl⟩,ho,hc,n,hd⟩:=id hl;obtain ⟨⟨cls2,dd2,data2,sl2⟩,ho2,hc2,n2,hd2⟩:=id hb;simp only at hc hd hc2 hd2;subst hc hd hc2 hd2;exact qI (op:=.Lt) ⟨_,ho,rfl⟩ ⟨_,ho2,rfl⟩ rB qJ (pT _ _) (Xn l b x1 x2 y1 y2 n n2 dd dd2 sl sl2 e1 e2 r)
  ⟨ho,ho2,q1,q2,c1,c2,c3,show qE r≠rH/\Q (.bool r) s from ⟨(fun x=>nomatch x),h⟩⟩ hu
end
end HT
namespace MR
open PySem PySem.Spec PyProof.Rows L2 SO
def ltU:U->U->Option Bool
 | .tup [.int a,.tup b],.tup [.int c,.tup d]=>(mapO toI b).bind fun bs=>(mapO toI d).map fun ds=>if a=c then ltT bs ds else decide (a < c)
 | .tup a,.tup b=>(mapO toI a).bind fun ns=>(mapO toI b).map fun ms=>ltT ns ms
 | _,_=>ψ
theorem Avn{X:Cx}{pins:List (Addr×Obj)}{σ:L2.St}{H:Hp}{s:aO}{α:Ψ}{u w:U}{x y:V}{v v':aJ}{b:Bool}{A:dN}{E:aJ->aO->Prop}{Q:aJ->aO->Prop}(I:lj H s)(ru:gh X.K H u x)(rw:gh X.K H w y)
  (rx:L2.RelV x v) (ry:L2.RelV y v') (h:ltU u w=ξ b) (hu:A.units+4 < cLine) (q:Q (.bool b) s):cm bj A (richCompare .Lt v v') Q E:=by
 have tups:∀ {l r:aa} {a c:V} {va vc:aJ} {ns ms:Λ} {A:dN} {E:aJ->aO->Prop} {Q:aJ->aO->Prop},gh X.K H ox a->gh X.K H (.tup r) c->L2.RelV a va->L2.RelV c vc->mapO toI l=ξ ns->mapO toI r=ξ ms->A.units < cLine->Q (.bool (ltT ns ms)) s ->
   wpAny bj A (richCompare .Lt va vc) Q E s:=by
  intro l r a c va vc ns ms A E Q ra rc r1 r2 e1 e2 hu hq;unfold RepU at ra rc;obtain ⟨p,xs,rfl,sq,rl⟩:=ra;obtain ⟨p',ys,rfl,sq',rl'⟩:=rc;cases r1;cases r2;rw[G8 rl e1] at sq;rw[G8 rl' e2] at sq';obtain ⟨its,i1,p1,_⟩:=I.tuple sq;obtain ⟨its2,i2,p2,_⟩:=I.tuple sq';have i1':iQ its.toArray.toList ns:=E3 i1;have i2':iQ its2.toArray.toList ms:=E3 i2;exact HT.V3 p1 p2 i1' i2' hu (by rw[Vn];exact hq)
 unfold ltU at h;split at h
 ·rename_i a b' c d;obtain ⟨bs,h1,h⟩:=aB.mp h;obtain ⟨ds,h2,h⟩:=aH.mp h;unfold RepU at ru rw;obtain ⟨p,xs,rfl,sq,rl⟩:=ru;obtain ⟨p',ys,rfl,sq',rl'⟩:=rw;obtain ⟨xa,xb,rfl,ra,rb⟩:=rl.two;obtain ⟨ya,yb,rfl,rc,rd⟩:=rl'.two;cases rx;cases ry;obtain ⟨its,i1,p1,_⟩:=I.tuple sq;obtain ⟨its2,i2,p2,_⟩:=I.tuple sq';obtain ⟨va,vb,rfl,qa,qb⟩:=X3 i1;obtain ⟨vc,vd,rfl,qc,qd⟩:=X3 i2;have rb0:=rb;have rd0:=rd;unfold RepU at ra rb rc rd;subst ra;subst rc;obtain ⟨t1,rfl⟩:=qa;obtain ⟨t2,rfl⟩:=qc;obtain ⟨pb,xs2,rfl,sqb,rlb⟩:=rb;obtain ⟨pd,ys2,rfl,sqd,rld⟩:=rd;cases qb;cases qd;rw[G8 rlb h1] at sqb;rw[G8 rld h2] at sqd;obtain ⟨jts,j1,k1,_⟩:=I.tuple sqb;obtain ⟨jts2,j2,k2,_⟩:=I.tuple sqd;obtain ⟨e,he,hiff⟩:=HT.Vj A.in1 s a t1 c t2;have hun:A.in1.units < cLine:=by show A.units+1 < cLine;omega
  refine HT.Aqq (r:=b) p1 p2 he (Aiv k1 k2 j1 j2 hun) (fun z=>?_) (fun z1 z2=>?_) (fun z1 z2=>?_) Ze q
  ·have hne:a≠c:=fun z'=>by rw[hiff.mpr z'] at z;cases z
   rw[if_neg hne] at h;intro prog w E Q hQ;exact HT.Abh A.in1 s a t1 c t2 prog w E Q (by rw[h];exact hQ)
  ·have hac:a=c:=hiff.mp z1;rw[if_pos hac] at h;intro prog w E Q hQ;obtain ⟨o1,o2,o3⟩:=id k1;have i1':iQ jts.toArray.toList bs:=E3 j1;have i2':iQ jts2.toArray.toList ds:=E3 j2;exact HT.V3 k1 k2 i1' i2' hun (by rw[Vn,h];exact hQ)
  ·have hac:a=c:=hiff.mp z1;rw[if_pos hac] at h;have hbd:bs=ds:=of_decide_eq_true z2;subst hbd;rw[<- h];cases hh:ltT bs bs with
   | false=>rfl
   | true=>have:=Ja _ _ hh;rw[hh] at this;exact this
 ·obtain ⟨ns,h1,h⟩:=aB.mp h;obtain ⟨ms,h2,h⟩:=aH.mp h;subst h;exact tups ru rw rx ry h1 h2 Ze q
 ·cases h
end MR
namespace MR
open PySem PySem.Spec PyProof.Rows PySem.Calls L2
noncomputable def Cv(bt:Nat->Nat->Bool):Nat->Nat
 | 0=>0
 | j+1=>if bt (j+1) (Cv bt j)=true then j+1 else Cv bt j
theorem Sd(bt:Nat->Nat->Bool):∀ j,Cv bt j<=j
 | 0=>aN _
 | j+1=>by
  unfold Cv;split
  ·exact be
  ·exact tT (Sd bt j)
noncomputable def Aea:du->aJ
 | none=>.none
 | some f=>.ref f
noncomputable def Axl(kf:du)(m:U->az):U->az:=match kf with
 | none=>ξ
 | some _=>m
section
variable {X:Cx}{pins:List (Addr×Obj)}{σ:L2.St}{H:Hp}{s:aO}{α:Ψ}{L:UH}{kf:du}{m:U->az}{us ks:aa}{n:Nat}{bt:Nat->Nat->Bool}{l I S:Addr}{R:vF->aO->Prop}
inductive MS(X:Cx)(pins:List (Addr×Obj))(σ:L2.St)(H:Hp)(α:Ψ)(L:UH)(us ks:aa)(bt:Nat->Nat->Bool)(l I S:Addr)(j:Nat)(s:aO):Prop
 | mk (H':Hp) (α':Ψ) (vb kb:aJ) (yb zb:V) (c:Nat) (oI:Obj) (ub kub:U) (J:L2.Inv X ((S,seqObj "list" #[vb,kb] c)::(I,oI)::pins) σ H' s) (g:vg) (A':my X.K H' L) (hit:s.heap.IsListIter I l (j+1))
   (hu:us[Cv bt j]? = ξ ub) (hk:ks[Cv bt j]? = ξ kub) (r1:L2.RelV yb vb) (r2:sd X.K H' ub yb) (r3:L2.RelV zb kb) (r4:sd X.K H' kub zb):MS X pins σ H α L us ks bt l I S j s
theorem Aku(hh:X.A.handled=ψ)(hu:X.A.in1.units+4 < cLine)(hL:sy=mw)(hal:α[n]? = ξ l)(hlk:us.length=ks.length)(KR:∀ f,kf=ξ f->Qc X X.A.in1 σ H α L f m)(hm:∀ (i:Nat) (u z:U),us[i]? = br->ks[i]? = ξ z->Axl kf m u=ξ z)
  (hbt:∀ (i j:Nat) (a b:U),ks[i]? = m7->ks[j]? = ξ b->ltU a b=ξ (bt i j)) (hlI:l≠I) (hSI:S≠I) (fI:vt X H I) (fS:vt X H S)
  (hR:∀ (s':aO) (H':Hp) (α':Ψ) (v:aJ) (y:V) (u:U),lj H' s'->vg->my X.K H' L->us[Cv bt (us.length - 1)]? = br->L2.RelV y v->sd X.K H' u y->R (.ok (.ret v)) s') :
  ∀ (r j:Nat) (s':aO),us.length - (j+1)=r->j+1<=us.length->MS X pins σ H α L us ks bt l I S j s'->nQ bj X.A (.builtin "min.loop" ⟨[.ref I,Aea kf,.ref S],[]⟩) R s':=by
 have hname:(toString "min" ++ toString ".loop" : String) = "min.loop" := by decide
 have pin2:∀ (oS oI:Obj) (H':Hp) (s':aO),lj H' s'->H' S=ψ->H' I=ψ->s'.heap.get? S=ξ oS->s'.heap.get? I=ξ oI->(∀ v,oS.data≠.cell v)->(∀ v,oI.data≠.cell v)->L2.Inv X ((S,oS)::(I,oI)::pins) σ H' s':=by
  intro oS oI H' s' J n1 n2 g1 g2 d1 d2;refine J.pins_of fun q hq=>?_
  rcases bE.mp hq with rfl | hq
  ·exact ⟨g1,n1,fS.2.1,fS.2.2.1,d1⟩
  ·rcases bE.mp hq with rfl | hq
   ·exact ⟨g2,n2,fI.2.1,fI.2.2.1,d2⟩
   ·exact J.pin q (aW _ hq)
 have lst:∀ (H':Hp) (α':Ψ),vg->Abs X.K H' α' L->∃ xs,SqL X.K H' l xs/\RepL X.K H' α' us xs:=by
  intro H' α' g A';obtain ⟨b,ys,e,sq,r⟩:=Fi A' hL (show RepU X.K H' α' di cy by unfold RepU;exact ik l (g.at hal))
  cases e;exact ⟨ys,sq,r⟩
 intro r;induction r with
 | zero=>
  intro j s' hr hj hms;obtain ⟨H',α',vb,kb,yb,zb,c,oI,ub,kub,J,g,A',hit,h1,h2,r1,r2,r3,r4⟩:=hms;have p1:=J.pin (S,seqObj "list" #[vb,kb] c) (aW _ (aS ..));have p2:=J.pin (I,oI) (aW _ (oq (aS ..)));have J3:lj H' s':=J.pins_of fun q hq=>J.pin q (aW _ (oq (oq hq)))
  obtain ⟨xs,sq,rl⟩:=lst H' α' g A';obtain ⟨its,rv,pl,hz⟩:=J3.list sq;have hil:=pl.isList;have hin:j+1=its.length:=by rw[<- rv.length,<- rl.length];omega
  have W:=qP (prog:=X.prog) (w:=X.w) (A:=X.A.in1) hh I l hlI its.toArray;have hsz:its.toArray.size=its.length:=aT ..;refine gG lQ ?_;rw[eI eZ _];show i6 _ X.A.in1 (seqItems? (.ref S) >>= _) _ _;refine aG (fG p1.1 rfl ?_);show i6 _ X.A.in1 (tryCatch (pyNext (.ref I)) _ >>= _) _ _;refine aG (jQ (W.done _ _ _ ⟨by rw[hsz,<- hin];exact hit,hil⟩ fun h' tk' hk'=>?_));have J4:lj H' { s' with heap:=h',toks:=tk' }:=J3.turned (fun b o hb e=>hk' b o (by simpa using hb) e) p2.2.1 fI.2.1 fI.2.2.2.1 fI.2.2.2.2.1 fI.2.2.2.2.2;have hS':=hk' S _ (by simpa using hSI) p1.1;have s1:=dU h' S Zt;show i6 _ X.A.in1 (updateSeq S (fun _=>#[]) >>= _) _ _;refine aG ?_;refine kW hS' rfl (aG (kE (aU ?_)));have J5:lj H' { s' with heap:=h'.update S Zt,toks:=tk' }:=J4.turned (t':=tk') (fun b o hb e=>(s1.2 b hb).trans e) p1.2.1 fS.2.1 fS.2.2.2.1 fS.2.2.2.2.1 fS.2.2.2.2.2;exact hR _ H' α' vb yb ub J5 g A' (by rw[show us.length - 1=j by omega];exact h1) r1 r2
 | succ r ih=>
  intro j s' hr hj hms;obtain ⟨H',α',vb,kb,yb,zb,c,oI,ub,kub,J,g,A',hit,h1,h2,r1,r2,r3,r4⟩:=hms;have p1:=J.pin (S,seqObj "list" #[vb,kb] c) (aW _ (aS ..));have p2:=J.pin (I,oI) (aW _ (oq (aS ..)));have J3:lj H' s':=J.pins_of fun q hq=>J.pin q (aW _ (oq (oq hq)))
  obtain ⟨xs,sq,rl⟩:=lst H' α' g A';obtain ⟨its,rv,pl,hz⟩:=J3.list sq;have hil:=pl.isList;have hlt:j+1 < its.length:=by rw[<- rv.length,<- rl.length];omega
  have W:=qP (prog:=X.prog) (w:=X.w) (A:=X.A.in1) hh I l hlI its.toArray;have hsz:its.toArray.size=its.length:=aT ..;refine gG lQ ?_;rw[eI eZ _];show i6 _ X.A.in1 (seqItems? (.ref S) >>= _) _ _;refine aG (fG p1.1 rfl ?_);show i6 _ X.A.in1 (tryCatch (pyNext (.ref I)) _ >>= _) _ _;refine aG (jQ (W.item (j+1) _ _ _ (by rw[hsz];exact hlt) ⟨hit,hil⟩ fun v h' tk' hP hst' hk'=>?_));have hv:its[j+1]? = j3:=by simpa using hP
  obtain ⟨oI',hoI',hoc,hod⟩:=id hst'.1;have hS':=hk' S _ (by simpa using hSI) p1.1;have J4:lj H' { s' with heap:=h',toks:=tk' }:=J3.turned (fun b o hb e=>hk' b o (by simpa using hb) e) p2.2.1 fI.2.1 fI.2.2.2.1 fI.2.2.2.2.1 fI.2.2.2.2.2;have J6:=pin2 (seqObj "list" #[vb,kb] c) oI' H' { s' with heap:=h',toks:=tk' } J4 p1.2.1 p2.2.1 hS' hoI' (fun v z=>by cases z) (fun v z=>by rw[hod] at z;cases z);obtain ⟨u,hu1⟩:∃ u,us[j+1]? = br:=⟨us[j+1],aC Ze⟩;obtain ⟨zk,hz1⟩:∃ z,ks[j+1]? = ξ z:=⟨ks[j+1],aC Ze⟩;obtain ⟨y,hy,ry⟩:=rl.get hu1;obtain ⟨v2,hv2,rvy⟩:=rv.get hy;rw[hv] at hv2;cases hv2;have hmm:=hm (j+1) u zk hu1 hz1;cases kf
  case' none=>(
   dsimp only[Aea];refine aG (dO (Q:=fun val s''=>∃ (H2:Hp) (α2:Ψ) (z:V),L2.Inv X ((S,seqObj "list" #[vb,kb] c)::(I,oI')::pins) σ H2 s''/\Gr H' α' H2 α2/\Abs X.K H2 α2 L/\L2.RelV z val/\RepU X.K H2 α2 zk z) (E:=fun _ _=>False) (by
    cases hmm;exact aU ⟨H',α',y,J6,gp,A',rvy,ry⟩) (fun val s'' hv=>?_) (fun _ _ h=>h.elim)))
  case' some f=>(
   dsimp only[Aea];refine aG (jQ (dP (dO (Q:=fun val s''=>∃ (H2:Hp) (α2:Ψ) (z:V),L2.Inv X ((S,seqObj "list" #[vb,kb] c)::(I,oI')::pins) σ H2 s''/\Gr H' α' H2 α2/\Abs X.K H2 α2 L/\L2.RelV z val/\RepU X.K H2 α2 zk z) (E:=fun _ _=>False) (dO (KR f rfl _ H' α' _ u zk y v J6 g A' ry rvy hmm) (fun x s'' he=>by
    obtain ⟨z,H2,J7,rz,α2,g2,A2,r5⟩:=he;exact ⟨H2,α2,z,J7,g2,A2,rz,r5⟩) fun _ _ hF=>hF.elim) (fun val s'' hv=>?_) (fun _ _ h=>h.elim)))))
  all_goals
   obtain ⟨H2,α2,z,J7,g2,A2,rz,r5⟩:=hv;have p1':=J7.pin (S,seqObj "list" #[vb,kb] c) (aW _ (aS ..));have p2':=J7.pin (I,oI') (aW _ (oq (aS ..)));have J8:lj H2 s'':=J7.pins_of fun q hq=>J7.pin q (aW _ (oq (oq hq)))
   have hb:=hbt (j+1) (Cv bt j) zk kub hz1 h2;show i6 _ X.A.in1 (tryCatch (holding [v,val] (richCompare .Lt val kb >>= _)) _ >>= _) _ _;refine aG (jQ (dP (aG (Avn J7 r5 (r4.mono g2) rz r3 hb hu ?_))));refine aG (dP (jA ?_));refine aG (kE (aU ?_));cases hbb:bt (j+1) (Cv bt j) with
   | true=>
    have s1:=dU s''.heap S (bR fun _=>#[v,val]);obtain ⟨c2,hc2⟩:∃ c2,(s''.heap.update S (bR fun _=>#[v,val])).get? S=ξ (seqObj "list" #[v,val] c2):=⟨_,iY p1'.1 fun _=>#[v,val]⟩;simp only[if_true];refine aG ?_;refine kW p1'.1 rfl (aG (kE ?_));rw[hname];have J9:lj H2 { s'' with heap:=s''.heap.update S (bR fun _=>#[v,val]) }:=J8.turned (t':=s''.toks) (fun b o hb e=>(s1.2 b hb).trans e) p1'.2.1 fS.2.1 fS.2.2.2.1 fS.2.2.2.2.1 fS.2.2.2.2.2;have gI:=(s1.2 I hSI.symm).trans p2'.1;have hbo:Cv bt (j+1)=j+1:=by unfold Cv;rw[if_pos hbb]
    refine aU ⟨jJ eZ _,ih (j+1) _ Ze Ze ⟨H2,α2,v,val,y,z,c2,oI',u,zk,pin2 _ oI' H2 _ J9 p1'.2.1 p2'.2.1 hc2 gI (fun v z=>by cases z) (fun v z=>by rw[hod] at z;cases z),g.trans g2,A2,⟨oI',gI,hoc,hod⟩,by rw[hbo];exact hu1,by rw[hbo];exact hz1,rvy,ry.mono g2,rz,r5⟩⟩
   | false=>
    simp only[bS,if_false];refine aG (kE ?_);rw[hname];have hbo:Cv bt (j+1)=Cv bt j:=by
     show (if bt (j+1) (Cv bt j)=true then j+1 else Cv bt j)=_;rw[if_neg (by rw[hbb];simp)]
    refine aU ⟨jJ eZ _,ih (j+1) _ Ze Ze ⟨H2,α2,vb,kb,yb,zb,c,oI',ub,kub,J7,g.trans g2,A2,⟨oI',p2'.1,hoc,hod⟩,by rw[hbo];exact h1,by rw[hbo];exact h2,r1,r2.mono g2,r3,r4.mono g2⟩⟩
end
noncomputable def Ahd:du->List (Str×aJ)
 | none=>[]
 | some f=>[(pe,ff)]
theorem Amz(a:aJ):∀ kf,argsOk "min" ⟨[a],Ahd kf⟩
 | none=>by unfold argsOk;kernel_rfl
 | some f=>by unfold argsOk;kernel_rfl
section
variable {X:Cx}{pins:List (Addr×Obj)}{σ:L2.St}{H:Hp}{s:aO}{α:Ψ}{L:UH}{kf:du}{m:U->az}{us ks:aa}{n:Nat}{bt:Nat->Nat->Bool}{l:Addr}{Q:aJ->aO->Prop}{E:aJ->aO->Prop}
theorem Alv(hh:X.A.handled=ψ)(hu:X.A.in1.units+4 < cLine)(hL:sy=mw)(hal:α[n]? = ξ l)(hlk:us.length=ks.length)(hne:0 < us.length)(KR:∀ f,kf=ξ f->Qc X X.A.in1 σ H α L f m)(hm:∀ (i:Nat) (u z:U),us[i]? = br->ks[i]? = ξ z->Axl kf m u=ξ z)
  (hbt:∀ (i j:Nat) (a b:U),ks[i]? = m7->ks[j]? = ξ b->ltU a b=ξ (bt i j)) (I:lj H s) (Ab:ia X.K H L)
  (hQ:∀ (s':aO) (H':Hp) (α':Ψ) (v:aJ) (y:V) (u:U),lj H' s'->vg->my X.K H' L->us[Cv bt (us.length - 1)]? = br->L2.RelV y v->sd X.K H' u y->Q v s') :
  wpAny bj X.A (call (.builtin "min") [cy] (Ahd kf)) Q E s:=by
 have hname:(toString "min" ++ toString ".loop" : String) = "min.loop" := by decide
 obtain ⟨b0,ys0,e0,sq0,rl0⟩:=Fi Ab hL (show RepU X.K H α di cy by unfold RepU;exact ik l hal)
 cases e0;obtain ⟨its,rv,pl,hz⟩:=I.list sq0;have hls:=pl.isList;obtain ⟨ol,hol,_⟩:=id hls;have hll:l < s.heap.objs.size:=bC hol;refine kmk_tree PySem.F.kind_min PySem.F.plain_min PySem.F.entry_min (Amz _ kf) ?_;show cm _ X.A.in1 (oB "min" ["key","default"] 0 ⟨[],Ahd kf⟩ >>= _) _ _;refine aG (wpAny_of_eq (show oB "min" ["key","default"] 0 ⟨[],Ahd kf⟩=pure [kf.map eB,ψ] by cases kf <;> rfl) ?_);refine aG (aU ?_);refine aG (jB hls ?_);refine aG (jK ?_ (eS _));rw[hname];have hkv:(kf.map eB).getD dX=Aea kf:=by cases kf <;> rfl
 rw[hkv];have hS:(s.heap.push { cls:=.type "list_iterator",data:=.fields #[cy,v8] }).objs.size=s.heap.objs.size+1:=xJ ..;have hlI:l≠s.heap.objs.size:=bW hll;have I1:lj H { s with heap:=s.heap.push { cls:=.type "list_iterator",data:=.fields #[cy,v8] } }:=I.kept (t':=s.toks) fun b o e=>n8
 have fI:vt X H s.heap.objs.size:=I.fpOk be j5;have fS:vt X H (s.heap.push { cls:=.type "list_iterator",data:=.fields #[cy,v8] }).objs.size:=I1.fpOk (s:={ s with heap:=s.heap.push { cls:=.type "list_iterator",data:=.fields #[cy,v8] } }) be ma;have hSI:(s.heap.push { cls:=.type "list_iterator",data:=.fields #[cy,v8] }).objs.size≠s.heap.objs.size:=by rw[hS];exact iE (eK _)
 have I2:lj H { s with heap:=(s.heap.push { cls:=.type "list_iterator",data:=.fields #[cy,v8] }).push (seqObj "list" #[] 0) }:=I1.kept (t':=s.toks) fun b o e=>n8
 have gI:((s.heap.push { cls:=.type "list_iterator",data:=.fields #[cy,v8] }).push (seqObj "list" #[] 0)).get? s.heap.objs.size=ξ { cls:=.type "list_iterator",data:=.fields #[cy,v8] }:=
  aF _ ki
 have gS:((s.heap.push { cls:=.type "list_iterator",data:=.fields #[cy,v8] }).push (seqObj "list" #[] 0)).get? (s.heap.push { cls:=.type "list_iterator",data:=.fields #[cy,v8] }).objs.size=ξ (seqObj "list" #[] 0):=ki;refine aU ⟨jJ eZ _,?_⟩;obtain ⟨its2,rv2,pl2,_⟩:=I2.list sq0;have hls2:=pl2.isList;have hsz:its2.toArray.size=its2.length:=aT ..;have hn2:0 < its2.length:=by rw[<- rv2.length,<- rl0.length];exact hne
 generalize hSS:(s.heap.push { cls:=.type "list_iterator",data:=.fields #[cy,v8] }).objs.size=S at fS hSI gS;generalize hII:s.heap.objs.size=It at fI hSI gI hlI;generalize hHH:(s.heap.push { cls:=.type "list_iterator",data:=.fields #[cy,v8] }).push (seqObj "list" #[] 0)=hp at gI gS I2 hls2;have W:=qP (prog:=X.prog) (w:=X.w) (A:=X.A.in1) hh It l hlI its2.toArray;show nQ _ _ (.builtin "min.loop" ⟨[.ref It,Aea kf,.ref S],[]⟩) _ ({ s with heap:=hp }:aO);refine gG lQ ?_;rw[eI eZ _];show i6 _ X.A.in1 (seqItems? (.ref S) >>= _) _ _;refine aG (fG gS rfl ?_);show i6 _ X.A.in1 (tryCatch (pyNext (.ref It)) _ >>= _) _ _;refine aG (jQ (W.item 0 _ _ _ (by rw[hsz];exact hn2) ⟨⟨_,gI,rfl,rfl⟩,hls2⟩ fun v h' tk' hP hst' hk'=>?_));have hv:its2[0]? = j3:=by simpa using hP
 obtain ⟨oI',hoI',hoc,hod⟩:=id hst'.1;have hS':=hk' S _ (by simpa using hSI) gS;have J4:lj H { s with heap:=h',toks:=tk' }:=I2.turned (fun b o hb e=>hk' b o (by simpa using hb) e) fI.1 fI.2.1 fI.2.2.2.1 fI.2.2.2.2.1 fI.2.2.2.2.2;have pin2:∀ (oS oI:Obj) (H':Hp) (s':aO),lj H' s'->H' S=ψ->H' It=ψ->s'.heap.get? S=ξ oS->s'.heap.get? It=ξ oI->(∀ v,oS.data≠.cell v)->(∀ v,oI.data≠.cell v)->L2.Inv X ((S,oS)::(It,oI)::pins) σ H' s':=by
  intro oS oI H' s' J n1 n2 g1 g2 d1 d2;refine J.pins_of fun q hq=>?_
  rcases bE.mp hq with rfl | hq
  ·exact ⟨g1,n1,fS.2.1,fS.2.2.1,d1⟩
  ·rcases bE.mp hq with rfl | hq
   ·exact ⟨g2,n2,fI.2.1,fI.2.2.1,d2⟩
   ·exact J.pin q (aW _ hq)
 have J6:=pin2 (seqObj "list" #[] 0) oI' H { s with heap:=h',toks:=tk' } J4 fS.1 fI.1 hS' hoI' (fun v z=>by cases z) (fun v z=>by rw[hod] at z;cases z);obtain ⟨u,hu1⟩:∃ u,us[0]? = br:=⟨us[0],aC Ze⟩;obtain ⟨zk,hz1⟩:∃ z,ks[0]? = ξ z:=⟨ks[0],aC Ze⟩;obtain ⟨y,hy,ry⟩:=rl0.get hu1;obtain ⟨v2,hv2,rvy⟩:=rv2.get hy;rw[hv] at hv2;cases hv2;have hmm:=hm 0 u zk hu1 hz1;cases kf
 case' none=>(
  dsimp only[Aea];refine aG (dO (Q:=fun val s''=>∃ (H2:Hp) (α2:Ψ) (z:V),L2.Inv X ((S,seqObj "list" #[] 0)::(It,oI')::pins) σ H2 s''/\je H H2 α2/\Abs X.K H2 α2 L/\L2.RelV z val/\RepU X.K H2 α2 zk z) (E:=fun _ _=>False) (by
   cases hmm;exact aU ⟨H,α,y,J6,gp,Ab,rvy,ry⟩) (fun val s'' hv=>?_) (fun _ _ h=>h.elim)))
 case' some f=>(
  dsimp only[Aea];refine aG (jQ (dP (dO (Q:=fun val s''=>∃ (H2:Hp) (α2:Ψ) (z:V),L2.Inv X ((S,seqObj "list" #[] 0)::(It,oI')::pins) σ H2 s''/\je H H2 α2/\Abs X.K H2 α2 L/\L2.RelV z val/\RepU X.K H2 α2 zk z) (E:=fun _ _=>False) (dO (KR f rfl _ H α _ u zk y v J6 gp Ab ry rvy hmm) (fun x s'' he=>by
   obtain ⟨z,H2,J7,rz,α2,g2,A2,r5⟩:=he;exact ⟨H2,α2,z,J7,g2,A2,rz,r5⟩) fun _ _ hF=>hF.elim) (fun val s'' hv=>?_) (fun _ _ h=>h.elim)))))
 all_goals
  obtain ⟨H2,α2,z,J7,g2,A2,rz,r5⟩:=hv;have p1':=J7.pin (S,seqObj "list" #[] 0) (aW _ (aS ..));have p2':=J7.pin (It,oI') (aW _ (oq (aS ..)));have J8:lj H2 s'':=J7.pins_of fun q hq=>J7.pin q (aW _ (oq (oq hq)))
  have s1:=dU s''.heap S (bR fun _=>#[v,val]);obtain ⟨c2,hc2⟩:∃ c2,(s''.heap.update S (bR fun _=>#[v,val])).get? S=ξ (seqObj "list" #[v,val] c2):=⟨_,iY p1'.1 fun _=>#[v,val]⟩;show i6 _ X.A.in1 (updateSeq S (fun _=>#[v,val]) >>= _) _ _;refine aG ?_;refine kW p1'.1 rfl ?_;rw[hname];have J9:lj H2 { s'' with heap:=s''.heap.update S (bR fun _=>#[v,val]) }:=J8.turned (t':=s''.toks) (fun b o hb e=>(s1.2 b hb).trans e) p1'.2.1 fS.2.1 fS.2.2.2.1 fS.2.2.2.2.1 fS.2.2.2.2.2;have gI2:=(s1.2 It hSI.symm).trans p2'.1;refine aU ⟨jJ eZ _,?_⟩;refine Aku (m:=m) hh hu hL hal hlk KR hm hbt hlI hSI fI fS (fun s' H' α' v y u J g A e r1 r2=>hQ s' H' α' v y u J g A e r1 r2) _ 0 _ rfl hne ⟨H2,α2,v,val,y,z,c2,oI',u,zk,pin2 _ oI' H2 _ J9 p1'.2.1 p2'.2.1 hc2 gI2 (fun v z=>by cases z) (fun v z=>by rw[hod] at z;cases z),g2,A2,⟨oI',gI2,hoc,hod⟩,hu1,hz1,rvy,ry.mono g2,rz,r5⟩
end
end MR
namespace MR
open PySem PySem.Spec PyProof.Rows PySem.Calls L2 SO
variable {X:Cx}{σ:L2.St}{H:Hp}{s:aO}{f:Addr}{α:Ψ}{L:UH}
section
variable {pins:List (Addr×Obj)}
theorem Ao1{a:Addr}{m:U->az}{c0:Nat}{vs:ac}{ys:ε}{us:aa}{ks:lr}
  (KR:Qc X X.A.in1.in1 σ H α L f m) (I:lj H s) (fa:vt X H a)
  (ho:qu=ξ (kn c0)) (rv:Vals ys vs) (ru:rg X.K us ys) (Ab:ia X.K H L) (hl:ks.length=vs.length) (hk1:∀ t∈ks,t≠[])
  (hk:∀ (i:Nat) (u:U) (t:Λ),us[i]? = br->ks[i]? = ξ t->m u=ξ (Mj t)) (h64:vs.length < 64) :
  wpAny bj X.A.in1.in1 (ksk_tree a ff true) (fun fin s'=>fin = .done (.ret .none)/\∃ H' α',lj (cb H' a (((qh ks.reverse vs.length).map fun i=>ys.reverse.getD i .non).reverse)) s'/\H' a=ψ/\vg/\my X.K H' L) X.xe s:=
 Aew true KR I fa ho rv ru Ab hl hk1 hk h64
end
section
variable {prog:cL}{w:dC}{A:dN}{E:aJ->aO->Prop}
theorem Ac5{Q:ac->aO->Prop}{r:Addr}{a b c:Int}{t u v:Tok}{n:Nat}(hh:A.handled=ψ)(hr:IsRange s.heap r a b c t u v)(hsmall:gZ.Range.small a b c=true)
  (hn:pS a b c=n) (hlen:n<=2 ^ 24)
  (hQ:∀ (h':Heap) (tk:Nat) (acc:bv),Z7->ItemsOf (fun i v=>∃ t,v = re (a+i * c)) acc n->Q acc.toList { s with heap:=h',toks:=tk }):cm mm A (collect ig) Q E:=by
 unfold collect;refine aG (wpAny_runValue (gG nW ?_));rw[eI nX _];show cm _ A.in1 (newList [] >>= fun l=>again (.builtin "list.__iadd__" ⟨[l,ig],[]⟩)) _ _;refine aG (fB ?_);refine aU ⟨jJ jP _,gG qB ?_⟩;rw[eI jP _];have hS₁:(s.heap.push { cls:=.type "list",data:=.seq ([]:ac).toArray }).get? s.heap.objs.size=ξ { cls:=.type "list",data:=.seq ([]:ac).toArray }:=ki;show i6 _ A.in1 (nY bq ig bq) _ _;refine wpAny_extend_range (R:=wants _ E) (s:={ s with heap:=s.heap.push { cls:=.type "list",data:=.seq ([]:ac).toArray } }) hh (jh hr) hsmall hn hlen s.heap.objs.size _ _ hS₁ fun h' tk acc' c' hk hS' hacc=>?_
 show i6 _ A (load s.heap.objs.size >>= _) _ _;refine aG (sP hS' ?_);exact aU (hQ h' tk acc' (fun b o e=>hk b o (bW v7) n8) hacc)
end
noncomputable abbrev Al8(j:Int)(t u v:Tok):Obj:={ cls:=.type "range",data:=.fields #[re 0,.int j u,.int 1 v] }
section
variable {pins:List (Addr×Obj)}
theorem Arj{f r:Addr}{m:U->az}{j:Int}{t u v:Tok}{us:aa}{ks:lr}{α:Ψ}{L:UH}{Q:VK}(hc:X.calm=true)
  (KR:Qc X X.A.in1.in1 σ H α L f m) (I:lj H s) (hr:H r=ξ (Kn (Al8 j t u v))) (h0:-(2 ^ 62)<=j) (h64:j < 64) (Ab:ia X.K H L) (hus:us=su 0) (hl:ks.length=us.length) (hk1:∀ t∈ks,t≠[])
  (hk:∀ (i:Nat) (u:U) (t:Λ),us[i]? = br->ks[i]? = ξ t->m u=ξ (Mj t))
  (q:∀ (b:Addr) (H':Hp) (α':Ψ),nq=ψ->vg->my X.K H' L->Q gv (cb H' b (((qh ks.reverse us.length).map fun i=>(Qb 0 j.toNat).reverse.getD i .non).reverse))) :
  wpAny bj X.A (call (.builtin "sorted") [ig] [(pe,ff),(cH "reverse",mr)]) Zu X.xe s:=by
 have hh:=i7;have hro:=(I.hok r _ hr).1;have hul:us.length=j.toNat:=by rw[hus];unfold Bo;rw[aL,dD]
 refine lP pG nZ oA (ksk_s2 _ _ _) ?_;unfold gZ.«sorted»;refine aG (m:=checkCount "sorted" 1 1 _) (aU (aG (Ac5 (a:=0) (b:=j) (c:=1) (n:=j.toNat) hh hro (small_one Ze Ze h0 Ze) (by rw[sH];split <;> omega) Ze fun h1 tk1 acc hk1' hacc=>aG (jK ?_ ?y2))))
 case y2=>rw[cV,cR,hacc.1];omega
 have hv:=Yv hacc;have J0:lj H { s with heap:=h1,toks:=tk1 }:=I.kept hk1';have e2:(h1.push (ci acc.toList.toArray 0)).get? h1.objs.size=ξ (ci acc.toList.toArray 0):=ki;have J1:lj H { s with heap:=h1.push (ci acc.toList.toArray 0),toks:=tk1 }:=J0.kept (s:={ s with heap:=h1,toks:=tk1 }) (t':=tk1) fun b o e=>n8
 have fp:vt X H h1.objs.size:=J0.fpOk (s:={ s with heap:=h1,toks:=tk1 }) be (J0.hok.fresh be);have hal:acc.toList.length=j.toNat:=by rw[cR];exact hacc.1
 refine aG (dP (nL lN (ik _ e2) kY ?body (ksk_l2 _ _ _)))
 case body=>
  show i6 bj X.A.in1.in1 (gZ.«list.sort» ⟨[.ref h1.objs.size],[(pe,ff),(cH "reverse",mr)]⟩) _ _;rw[ksk_t2];refine dO (Ao1 KR J1 fp e2 hv (by rw[hus];exact Aae 0 _) Ab Ze hk1 hk Ze) (fun fin s' ⟨hf,H',α',J,hn,g,A'⟩=>?_) fun _ _ e=>e
  subst hf;refine gu _ (aU ⟨_,rfl,.ref h1.objs.size,_,J,rfl,?_⟩);have:=q h1.objs.size H' α' hn g A';rw[hul] at this;rw[hal];exact this
def Atb(ta:TA):TE:=fun σ H Q=>ta σ H fun vs H1=>∃ j:Int,vs=[lw]/\∀ r t u v,H1 r=ψ->Q ig (upd H1 r (Kn (Al8 j t u v)))
theorem Ar3{a:Expr}{ta:TA}{p' pos':Pos}(hg:Gl X "range")(hm:X.mg "range" = ψ)(ha:PA X [a] ta)(hs:bc [a]=[ZU]:=by rfl):l4 (bu "range" p' [a] [] pos') (Atb ta):=by
 intro pins s σ H Q I h;refine dR (Fs I hg hm xA (cT (thn (ha pos' pins s σ H _ I h) fun us s1 ⟨vs,H1,I1,r1,q1⟩=>?_) hs rfl));obtain ⟨j,rfl,q⟩:=q1;obtain ⟨u,rfl,ru⟩:=Ee r1;obtain ⟨t,rfl⟩:=ru;refine tF ?_;exact ck (.ref s1.heap.objs.size) _ (I1.laid (o:=Kn (Al8 j _ _ _)) (fun b o e=>n8) be (Tq ki)) (q _ _ _ _ ma)
end
structure LamX(X:Cx)(nm:Str):Prop where
 b:LamB X.K X.mg X.base
 mem:nm∈Gs
 tab:∃ c P,dQ X.K nm=ξ (c,P)/\X.env.code = ow
 q:X.env.qual++("<lambda>" : Str)=Ov nm
def Agr(X:Cx)(scope:kA)(cl:List (Str×Addr)):Prop:=(∀ x c,mj=fg->bo=fg)/\∀ y∈scope.names,y.2 = .free->∃ c,qt=fg
def A07(X:Cx)(q:Str)(params:mK)(body:Expr)(scope:kA):TE:=fun σ H Q=>∃ α L,Abs X.K H α L/\∀ f cl H',Agr X scope cl->je H H' α->ia X.K H' L->LamAt H' q params body scope cl f->Q ff H'
theorem Aqy{K:aK}{nm:Str}{oc:aJ}{od:du}{fd:fA}{sl:Array bi}(h:(dQ K nm).isSome=true)(a:lK K dJ nm=ξ mn)(l:K.lookup f=ξ ⟨oc,od,.func fd,sl⟩):∃ c P,dQ K nm=ξ (c,P)/\fd.code = ow:=by
 obtain ⟨⟨c,P⟩,e⟩:=jF.mp h;refine ⟨c,P,e,?_⟩;unfold dQ at e;rw[a] at e;simp only[l] at e;split at e
 ·rename_i c' hc;split at e
  ·split at e
   ·cases e;exact hc
   ·cases e
  ·cases e
 ·cases e
variable {k:Nat}
section
variable {P:cL}{w:dC}{K:aK}{mg:Str->bi}{base:Heap}
theorem Fun.okFL{x qual:Str}{st:Stmt}{fd:fA}{N ps:Φ}{body:FS}(F:Fun K x qual st f fd)(S:b8 N ps st)
  (hbody:∀ (cdv:aJ) (A:dN) (outer:List mM) (s:aO) (H:Hp) (E:XK),fd.code=cdv->Room k (A.deeper (ib qual (Ap st) f cdv))->Xc (Acs CX0 P w K mg base N qual (Ap st) f cdv A outer s H E).nox (Fh st) body) :
  FnOk P w K mg base CX0 (k+1) f fd ps (oo ps.length (fnU N.length ps.length body)):=by
 obtain ⟨oc,od,kV,doc,pm,an,cdv0,ct,osl,rfl,lk,hcd⟩:=F.ex;refine Ash lk hcd S (fun vs H Q E ⟨α,L,us,A,r,hl,_,_,_,_⟩=>by rw[<- r.length];exact hl) fun A outer s H vs Q E hr h=>?_
 obtain ⟨α,L,us,Ab,r,hl,u,L',e,q⟩:=h;refine ⟨_,(hbody cdv0 A outer s H E rfl hr).nox,?_⟩;unfold fnU at e;rw[if_pos hl] at e;obtain ⟨⟨fl,L1⟩,e1,e⟩:=af;refine ⟨α,_,L,Ab,RepS.start N r,fl,L1,e1,?_⟩;cases fl with
 | rt w=>cases e;exact q
 | nx δ=>cases e;exact fun σ' H' α' g' A' S'=>q .non H' α' g' A' rfl
 | bk δ=>cases e
 | ct δ=>cases e
end
variable {u:U}{δ:UE}
section
variable {nm:Str}{params:mK}{body:Expr}{scope:kA}{lpos:Pos}{N':Φ}{ix:ly}{pn:Str}{fb:FE}
theorem Am6(LX:LamX X nm)(S:LamSc X params body scope N' ix pn)(hdef:defaultsOf params X.env=([],[])):l4 (.Lambda params body scope lpos) (A07 X (Ov nm) params body scope):=by
 intro pins s σ H Q I h;obtain ⟨α,L,A,q⟩:=h;obtain ⟨c,P,ht,hc⟩:=LX.tab;obtain ⟨cl,hcl,h1,h2⟩:=S.sc.clos I.ok;refine thn (An1 LX.b LX.mem ht hc LX.q hdef hcl I A) fun v s' hq=>?_
 obtain ⟨f,H',rfl,I',g,A',la⟩:=hq;exact ck ff H' I' (q f cl H' ⟨h1,h2⟩ g A' la)
def LamP(X:Cx)(A:dN)(N':Φ)(q:Str)(scope:kA)(k:Nat)(body:Expr)(fb:FE):Prop:=∀ (f c:Addr) (cl:List (Str×Addr)) (s:aO) (H:Hp),Room k (Sn X A N' q scope f c cl s H).A->PEF (Sn X A N' q scope f c cl s H) body fb
open Classical in
def Oy(ix:ly)(fb:FE)(δ:UE)(L:UH)(u:U):az:=(fb (Abn ix u δ) L).bind fun r=>if r.2=L then ξ r.1 else ψ
theorem Ard{z:U}(h:Oy ix fb δ L u=ξ z):fb (Abn ix u δ) L=ξ (z,L):=by
 unfold Oy at h;obtain ⟨⟨y,L'⟩,e,h⟩:=aB.mp h;simp only at h;split at h
 ·rename_i hL;cases h;subst hL;exact e
 ·cases h
theorem Ag0{z:U}(h:fb (Abn ix u δ) L=ξ (z,L)):Oy ix fb δ L u=ξ z:=by
 unfold Oy;rw[h];simp
theorem LamP.key{A:dN}{q:Str}{cl:List (Str×Addr)}(P:LamP X A N' q scope k body fb)(S:LamSc X params body scope N' ix pn)(hr:Room (k+1) A)(hA:A.frames=X.A.frames)(hcl:Agr X scope cl)
  (Sg:RepS X.K H α δ σ) (la:LamAt H q params body scope cl f):Qc X A σ H α L f (Oy ix fb δ L):=by
 intro pins H' α' s u z y x I g Ab ru rx hm;exact Ao2 S hr hA hcl.1 hcl.2 (fun c s H hr=>P f c cl s H hr) I Ab (Sg.mono g) (la.stay g.st) ru rx (Ard hm)
def N0(ks:aa):Nat:=Cv (fun i j=>(ltU (ks.getD i .non) (ks.getD j .non)).getD false) (ks.length - 1)
def Agu(ks:aa):Bool:=ks.all fun a=>ks.all fun b=>(ltU a b).isSome
theorem Am2{ks:aa}(h:Agu ks=true):∀ (i j:Nat) (a b:U),ks[i]? = m7->ks[j]? = ξ b->ltU a b=ξ ((ltU (ks.getD i .non) (ks.getD j .non)).getD false):=by
 intro i j a b ha hb;have h1:=bO.mp h a (bT ha);have h2:=bO.mp h1 b (bT hb);rw[aE,aE,ha,hb];simp only[gQ];cases e:ltU a b with
 | none=>rw[e] at h2;cases h2
 | some c=>rfl
def Q4(ix:ly)(fb:FE)(fe:FE):FE:=fun δ L=>(fe δ L).bind fun p=>match p.1 with
 | .ref n=>(sx p.2).bind fun us=>(mapO (Oy ix fb δ p.2) us).bind fun ks=>if 0 < us.length/\Agu ks=true then ξ (us.getD (N0 ks) .non,p.2) else ψ
 | _=>ψ
theorem Ajd{e:Expr}{fe:FE}{p kpos pos:Pos}(LX:LamX X nm)(S:LamSc X params body scope N' ix pn)(hdef:defaultsOf params X.env=([],[]))(P:LamP X X.A.in1 N' (Ov nm) scope k body fb)(hr:Room (k+2) X.A)(hc:X.calm=true)
  (hg:Gl X "min") (hm:X.mg "min" = ψ) (he:gy e fe) (hs:bc [e]=[ZF]:=by rfl) :
  PEF X (tz "min" p [e] [⟨ξ pe,.Lambda params body scope lpos,kpos⟩]) (Q4 ix fb fe):=by
 intro pins s σ H Q I h;obtain ⟨α,δ,L,A,Sg,z,L3,ez,q⟩:=h;unfold Q4 at ez;obtain ⟨⟨u,L1⟩,e1,ez⟩:=aB.mp ez;simp only at ez;split at ez
 ·rename_i n;obtain ⟨us,hus,ez⟩:=aB.mp ez;obtain ⟨ks,hks,ez⟩:=aB.mp ez;split at ez
  ·rename_i hcc;cases ez;refine dR (Fs I hg hm PyProof.Rows.boot_min ?_);refine rX ?_ (by rw[hs];rfl) (by rw[hs];rfl) Zc;have hpa:PAF X [e] (a7 fe):=Ac he Ae (hs:=by rw[hs];rfl);have hA:(a7 fe) δ L=ξ ([di],L3):=by
    show (fe δ L).bind _=_;rw[e1];rfl
   refine thn (hpa pos pins s σ H (fun vs H1=>∃ α1,je H H1 α1/\Abs X.K H1 α1 L3/\RepL X.K H1 α1 [di] vs) I ⟨α,δ,L,A,Sg,_,L3,hA,fun vs H1 α1 g1 A1 r1=>⟨α1,g1,A1,r1⟩⟩) fun vs s1 ⟨xs,H1,I1,rx,α1,g1,A1,r1⟩=>?_
   refine thn (Ot (nm:=ξ pe) (kpos:=kpos) (Am6 LX S hdef) Vs pos pins s1 σ H1 (fun zs H2=>∃ f cl,zs=[ff]/\Agr X scope cl/\Gr H1 α1 H2 α1/\Abs X.K H2 α1 L3/\LamAt H2 (Ov nm) params body scope cl f) I1 ⟨α1,L3,A1,fun f cl H2 h1 h2 h3 h4=>⟨f,cl,rfl,h1,h2,h3,h4⟩⟩) fun ws s2 ⟨zs,H2,I2,rz,f,cl,hz,hcl,g2,A2,la⟩=>?_
   subst hz;obtain ⟨y,rfl,ry⟩:=r1.one;unfold RepU at ry;obtain ⟨l,hal,rfl⟩:=ry;obtain ⟨v,rfl,rv⟩:=Ee rx;cases rv;obtain ⟨v2,rfl,rv2⟩:=Ee rz;cases rv2;have hlk:=N4 hks;refine Alv (kf:=ξ f) (m:=Oy ix fb δ L3) (bt:=fun i j=>(ltU (ks.getD i .non) (ks.getD j .non)).getD false) i7 (by have:=hr.un;show X.A.units+1+4 < cLine;omega) hus (g2.at hal) hlk hcc.1 (fun f' hf'=>?_) (fun i u z hu hz=>Oe hks hu hz) (Am2 hcc.2) I2 A2 (fun s' H' α' v y u J g A' hu1 rv ru=>?_)
   ·cases hf';exact P.key S hr.in1 rfl hcl (Sg.mono d6) la
   ·refine ⟨y,H',J,rv,q _ H' α' (mo g) A' ?_⟩;have:us.getD (N0 ks) .non=u:=by
     unfold N0;rw[aE,<- hlk,hu1];rfl
    rw[this];exact ru
  ·cases ez
 ·cases ez
def N9(ix:ly)(fb:FE)(ga:FA):FE:=fun δ L=>(ga δ L).bind fun p=>match p.1 with
 | [.int j]=>(mapO (fun u=>(Oy ix fb δ p.2 u).bind Oz) (su 0)).bind fun ks=>if (-(2 ^ 62)<=j/\j < 64)/\(ks.all fun t=>!t.isEmpty)=true then
   ξ (.ref p.2.length,p.2++[.lst (((qh ks.reverse j.toNat).map fun i=>(su 0).reverse.getD i .non).reverse)]) else ψ
 | _=>ψ
theorem Apc{t:Λ}(h:Oz u=ξ t):u=Mj t:=by
 have h1:mapO Oz [u]=ξ [t]:=by simp only[mapO,h,aA,aD]
 have h2:=Tp h1;simpa using h2
theorem Afw{a:Expr}{ga:FA}{p p' kpos kpos2 pos pos' bpos:Pos}{kd:Nat}(LX:LamX X nm)(S:LamSc X params body scope N' ix pn)(hdef:defaultsOf params X.env=([],[]))(P:LamP X X.A.in1.in1 N' (Ov nm) scope k body fb)(hr:Room (k+3) X.A)(hc:X.calm=true)
  (hg:Gl X "sorted") (hm:X.mg "sorted" = ψ) (hg2:Gl X "range") (hm2:X.mg "range" = ψ) (ha:PAF X [a] ga) (hs:bc [a]=[ZU]:=by rfl)
  (hs2:bc [bu "range" p' [a] [] pos']=[(false,bn (bu "range" p' [a] [] pos'))]:=by rfl) :
  PEF X (tz "sorted" p [bu "range" p' [a] [] pos'] [⟨ξ pe,.Lambda params body scope lpos,kpos⟩,⟨ξ (cH "reverse"),.Constant mr kd bpos,kpos2⟩]) (N9 ix fb ga):=by
 intro pins s σ H Q I h;obtain ⟨α,δ,L,A,Sg,z,L3,ez,q⟩:=h;unfold N9 at ez;obtain ⟨⟨us,L1⟩,e1,ez⟩:=aB.mp ez;simp only at ez;split at ez
 ·rename_i j;obtain ⟨ks,hks,ez⟩:=aB.mp ez;split at ez
  ·rename_i hcc;cases ez;refine dR (Fs I hg hm fJ ?_);refine rX ?_ (by rw[hs2];rfl) (by rw[hs2];rfl) Zc;have hpr:l4 (bu "range" p' [a] [] pos') (Atb (lA X.K ga)):=Ar3 hg2 hm2 ha hs;refine thn (Ts hpr Ae7 (hs:=hs2) pos pins s σ H (fun vs H1=>∃ α1 r t u v,vs=[ig]/\H1 r=ξ (Kn (Al8 j t u v))/\je H H1 α1/\Abs X.K H1 α1 L1) I ?_) fun vs s1 ⟨xs,H1,I1,rx,α1,r,t,u,v,hx,hr1,g1,A1⟩=>?_
   ·refine ⟨α,δ,L,A,Sg,_,L1,e1,fun vs H1 α1 g1 A1 r1=>?_⟩;obtain ⟨y,rfl,ry⟩:=r1.one;unfold RepU at ry;subst ry;refine ⟨j,rfl,fun r t u v hn=>?_⟩;have g2:Gr H1 α1 (upd H1 r (Kn (Al8 j t u v))) α1:=⟨⟨[],Za⟩,.new hn _⟩;exact ⟨α1,r,t,u,v,rfl,upd_same,d6,⟨A1.len,A1.inj,fun i a o e1 e2=>(A1.rep i a o e1 e2).other g2 (.inr fun u q=>by rw[rj q hn];exact q),A1.tabs g2.st (Tx hn _)⟩⟩
   subst hx;refine thn (Ot (nm:=ξ pe) (kpos:=kpos) (Am6 LX S hdef) (Ot (nm:=ξ (cH "reverse")) (kpos:=kpos2) (Atc (b:=true)) Vs) pos pins s1 σ H1 (fun zs H2=>∃ f cl,zs=[ff,eo]/\Agr X scope cl/\Gr H1 α1 H2 α1/\Abs X.K H2 α1 L1/\LamAt H2 (Ov nm) params body scope cl f) I1 ⟨α1,L1,A1,fun f cl H2 h1 h2 h3 h4=>⟨f,cl,rfl,h1,h2,h3,h4⟩⟩) fun ws s2 ⟨zs,H2,I2,rz,f,cl,hz,hcl,g2,A2,la⟩=>?_
   subst hz;obtain ⟨v1,rfl,rv1⟩:=Ee rx;cases rv1;obtain ⟨v2,v3,rfl,rv2,rv3⟩:=X3 rz;cases rv2;cases rv3;have hlk:=N4 hks;have hlen:(su 0).length=j.toNat:=by unfold Bo;rw[aL,dD]
   refine Arj (m:=Oy ix fb δ L1) (us:=su 0) (ks:=ks) hc (P.key S hr.in1.in1 rfl hcl (Sg.mono d6) la) I2 (g2.st.2 _ _ _ hr1) hcc.1.1 hcc.1.2 A2 rfl hlk.symm (fun t ht=>?_) (fun i u t hu ht=>?_) fun b H' α' hn g A'=>?_
   ·have:=bO.mp hcc.2 t ht;intro z;rw[z] at this;simp at this
   ·obtain ⟨y,hy1,hy2⟩:=aB.mp (Oe (f:=fun u=>(Oy ix fb δ L1 u).bind Oz) hks hu ht);rw[hy1,Apc hy2]
   ·have hperm:=Gb (n:=j.toNat) (Ij ks.reverse);rw[hlen];have rl:RepL X.K H' α' (((qh ks.reverse j.toNat).map fun i=>(su 0).reverse.getD i .non).reverse) (((qh ks.reverse j.toNat).map fun i=>(Qb 0 j.toNat).reverse.getD i .non).reverse):=by
     refine RepL.reverse ?_;have r2:RepL X.K H' α' (su 0).reverse (Qb 0 j.toNat).reverse:=(Aae 0 _).reverse;have hl2:(su 0).reverse.length=j.toNat:=by rw[sF,hlen]
     have:∀ js:Ω,(∀ i∈js,i < j.toNat)->RepL X.K H' α' (js.map fun i=>(su 0).reverse.getD i .non) (js.map fun i=>(Qb 0 j.toNat).reverse.getD i .non):=by
      intro js;induction js with
      | nil=>intro _;exact .nil
      | cons i js ih=>
       intro hj;have hj0:=hj i (aS ..);obtain ⟨x,hx,rx'⟩:=r2.get (aC (by rw[hl2];exact hj0));refine .cons ?_ (ih fun x hx=>hj x vn);show sd X.K H' ((su 0).reverse.getD i .non) ((Qb 0 j.toNat).reverse.getD i .non);rw[aE,aE,aC (by rw[hl2];exact hj0),hx];exact rx'
     exact this _ fun i hi=>bM.mp (hperm.mem_iff.mp hi)
    obtain ⟨g3,A3,r3⟩:=A'.lst rl hn;exact q _ _ _ (mo (g.trans g3)) A3 r3
  ·cases ez
 ·cases ez
end
end MR
namespace MR
open PySem PySem.Spec PyProof.Rows PySem.Calls L2
section
variable {X:Cx}{o:Expr}{apos cpos p pos:Pos}{td:TE}{fo:FE}
end
end MR
namespace ZT
open PySem PySem.Spec PyProof.Rows
open Sem (wp)
theorem Au9 (l1 l2 : Addr) (xs ys : bv) : Meets (gZ.«zip.__new__» ⟨[.type "zip", .ref l1, .ref l2], []⟩) (fun _ R s => s.heap.IsList l1 xs /\ s.heap.IsTuple l2 ys /\
   R (.ok (.ret (.ref (zh4 "list_iterator" "tuple_iterator" s.heap l1 l2).objs.size))) { s with heap:=iw "list_iterator" s.heap l1 l2 }):=
 .of_wp fun prog w A R s h=>by
  obtain ⟨hp,g,d,tk,os⟩:=s;obtain ⟨t1,t2,h⟩:=h;have hsub:=sub_zip;have T1:Heap.IsList (pE ⟨hp,g,d,tk,os⟩) l1 xs:=t1;have T2:qO (pE ⟨hp.push { cls:=.type "list_iterator",data:=.fields #[.ref l1,v8] },g,d,tk,os⟩) l2 ys:=tR t2 _
  wp_walk using jB T1,fN T2
  exact gu _ h
section
variable {prog:cL}{w:dC}{A:dN}{E:aJ->aO->Prop}{s:aO}
theorem Arp{l1 l2:Addr}{xs ys:bv}{Q:aJ->aO->Prop}(t1:s.heap.IsList l1 xs)(t2:s.heap.IsTuple l2 ys)
  (h:∀ h',nK h' (s.heap.objs.size+4) (s.heap.objs.size+2) (s.heap.objs.size+3) .none->iG h' (s.heap.objs.size+2) bq (.ref Zi) ->
   iG h' (s.heap.objs.size+3) .none .none->ItK true h' s.heap.objs.size l1 0->ItK false h' Zi l2 0->(∀ c o,s.heap.get? c=ao->h'.get? c=ao)->Q (.ref (s.heap.objs.size+4)) { s with heap:=h' }) :
  wpAny mm A (call (.type "zip") [.ref l1,.ref l2]) Q E s:=by
 refine tS F.called_zip Zb (vM _ _) (wI _ _) (fun obj=>rP obj _ _) wJ (Au9 l1 l2 xs ys) ⟨t1,t2,?_⟩;have z1:(zh1 "list_iterator" s.heap l1).objs.size=s.heap.objs.size+1:=dB ..;have z2:(zh2 "list_iterator" "tuple_iterator" s.heap l1 l2).objs.size=s.heap.objs.size+2:=by rw[dB,z1]
 have z3:(zh3 "list_iterator" "tuple_iterator" s.heap l1 l2).objs.size=s.heap.objs.size+3:=by rw[dB,z2]
 have z4:(zh4 "list_iterator" "tuple_iterator" s.heap l1 l2).objs.size=s.heap.objs.size+4:=by rw[dB,z3]
 have q5:(iw "list_iterator" s.heap l1 l2).get? (zh4 "list_iterator" "tuple_iterator" s.heap l1 l2).objs.size=ξ _:=ki;have q4:(iw "list_iterator" s.heap l1 l2).get? (zh3 "list_iterator" "tuple_iterator" s.heap l1 l2).objs.size=ξ _:=jh ki;have q3:(iw "list_iterator" s.heap l1 l2).get? (zh2 "list_iterator" "tuple_iterator" s.heap l1 l2).objs.size=ξ _:=sf ki;have q2:(iw "list_iterator" s.heap l1 l2).get? (zh1 "list_iterator" s.heap l1).objs.size=ξ _:=jh (sf ki);have q1:(iw "list_iterator" s.heap l1 l2).get? s.heap.objs.size=ξ _:=sf (sf ki);show _/\_;rw[z2,z3,z4] at q5;rw[z1,z2] at q3;rw[z3] at q4;rw[z1] at q2;rw[z4];exact ⟨⟨_,q5,rfl⟩,h _ q5 q3 q4 ⟨_,q1,rfl,rfl⟩ ⟨_,q2,rfl,rfl⟩ fun c o q=>sf (jh (sf q))⟩
end
end ZT
namespace MR
open PySem PySem.Spec PyProof.Rows L2
section
variable {X:Cx}{elts:fj}{x1:Nat}{tpos:Pos}
def Azb(K:aK)(ta:TA):TI:=fun σ H R=>ta σ H fun vs H1=>∃ a b xs ys,vs=[bp,gv]/\SqL K H1 a xs/\lv H1 b ys/\R (Anc true false K a b) H1
theorem Ar9{a b:Expr}{ta:TA}{p pos:Pos}(hg:Gl X "zip")(hm:X.mg "zip" = ψ)(ha:PA X [a,b] ta)(hs:bc [a,b]=ZU::bc [b]:=by rfl)(hpl:(f6 pos [b]).any (·.1)=false:=by rfl):PI X ZN (tz "zip" p [a,b] []) (Azb X.K ta):=by
 intro pins s σ H R I h;refine Call_ (Fs I hg hm Adb (cT (thn ZE fun us s1 ⟨vs,H1,I1,r1,q1⟩=>?_) hs hpl));obtain ⟨l1,l2,xs,ys,rfl,sq1,sq2,q⟩:=q1;obtain ⟨u,u',rfl,ru,ru'⟩:=X3 r1;cases ru;cases ru';obtain ⟨its1,hv1,pl1,hz1⟩:=I1.list sq1;obtain ⟨its2,hv2,pl2,hz2⟩:=I1.tuple sq2;have lt1:l1 < s1.heap.objs.size:=by obtain ⟨o,_,e,_⟩:=pl1;exact v7
 have lt2:l2 < s1.heap.objs.size:=by obtain ⟨o,e,_⟩:=pl2;exact v7
 refine ZT.Arp pl1.isList pl2 fun h' o1 o2 o3 o4 o5 o7=>?_
 have I2:lj H1 { s1 with heap:=h' }:=I1.kept (t':=s1.toks) o7;refine pZ o1 ⟨_,_,_,_,H1,rfl,I2,Yu (b1:=true) (b2:=false) l1 l2 _ _ _ _ _ (Yw _ _ _ lt1 lt2),⟨o1,o2,⟨_,_,o3⟩,o4,o5⟩,fun b hb=>?_,q⟩;have hb':s1.heap.objs.size<=b:=by
  simp only[bE,eY,or_false] at hb;rcases hb with rfl | rfl | rfl | rfl | rfl <;> first | exact vN _ _ | exact be
 exact L2.Inv.fpOk I1 hb' (I1.hok.fresh hb')
theorem Alx{K:aK}{H:Hp}{α:Ψ}{n:Nat}{a b:Addr}{ws:aa}{ys:ε}(ea:α[n]? = m7)(sb:lv H b ys)(rb:vm ws ys):Pd K (Anc true false K a b) (.zipL n ws) H α:=by
 intro H2 α2 L2 g A2 k;have ea2:=g.at ea;have mv:∃ zs2,lv H2 b zs2/\RepL K H2 α2 ws zs2:=by
  have m:=(show RepU K H α (.tup ws) gv by unfold RepU;exact pz b ys sb rb).mono g
  unfold RepU at m;obtain ⟨c',zs2,e,s2,r2⟩:=m;cases e;exact ⟨zs2,s2,r2⟩
 obtain ⟨ys2,sb2,rb2⟩:=mv;refine ⟨fun u eu=>?_,fun eu=>?_⟩
 ·obtain ⟨us,hw,eu⟩:=aH.mp eu;obtain ⟨xs2,sa2,ra2⟩:=Lx A2 ea2 hw;cases h1:us[k]? with
  | none=>rw[h1] at eu;simp[Mr] at eu
  | some u1=>
   cases h2:ws[k]? with
   | none=>rw[h1,h2] at eu;simp[Mr] at eu
   | some u2=>
    rw[h1,h2] at eu;simp[Mr] at eu;subst eu;obtain ⟨x,hx,rx⟩:=ra2.get h1;obtain ⟨y,hy,ry⟩:=rb2.get h2;refine ⟨⟨xs2,ys2,x,y,sa2,sb2,hx,hy⟩,?_⟩;rintro z H3 ⟨p,v,v',hp,rfl,rfl,hy1,hy2⟩;have e1:=hy1 xs2 sa2;have e2:=hy2 ys2 sb2;rw[hx] at e1;cases e1;rw[hy] at e2;cases e2;exact A2.tup (.cons rx (j4 ry)) hp
 ·obtain ⟨us,hw,eu⟩:=aH.mp eu;obtain ⟨xs2,sa2,ra2⟩:=Lx A2 ea2 hw;refine ⟨xs2,ys2,sa2,sb2,?_⟩;cases h1:us[k]? with
  | none=>left;rw[<- ra2.length];exact cJ.mp h1
  | some u1=>
   cases h2:ws[k]? with
   | none=>right;rw[<- rb2.length];exact cJ.mp h2
   | some u2=>rw[h1,h2] at eu;simp[Mr] at eu
def Sx(g:FA):FI:=fun δ L=>(g δ L).bind fun p=>match p.1 with
 | [.tup us,.tup ws]=>ξ (.seq (Dt us ws),p.2)
 | [.ref n,.tup ws]=>(sx p.2).map fun _=>(.zipL n ws,p.2)
 | _=>ψ
theorem Acm{a b:Expr}{g:FA}{p pos:Pos}(hg:Gl X "zip")(hm:X.mg "zip" = ψ)(ha:PAF X [a,b] g)(hs:bc [a,b]=ZU::bc [b]:=by rfl)(hpl:(f6 pos [b]).any (·.1)=false:=by rfl):PIF X ZN (tz "zip" p [a,b] []) (Sx g):=by
 refine PI.imp (PI.or (Ah6 hg hm ha hs hpl) (Ar9 hg hm ha hs hpl)) ?_;rintro σ H R ⟨α,δ,L,A,S,i,L3,e,q⟩;obtain ⟨⟨us,L1⟩,e1,ee⟩:=af;simp only at ee;split at ee
 ·cases ee;refine .inl ⟨α,δ,L,A,S,_,_,e1,fun xs H1 α1 g1 A1 r1=>?_⟩;obtain ⟨x,y,rfl,rx,ry⟩:=r1.two;unfold RepU at rx ry;obtain ⟨a',ys,rfl,sq,r2⟩:=rx;obtain ⟨b',ys',rfl,sq',r2'⟩:=ry;exact ⟨a',b',ys,ys',rfl,sq,sq',q _ H1 α1 g1 A1 (Abw sq sq' r2 r2')⟩
 ·obtain ⟨l,hl,e3⟩:=aH.mp ee;cases e3;refine .inr ⟨α,δ,L,A,S,_,_,e1,fun xs H1 α1 g1 A1 r1=>?_⟩;obtain ⟨x,y,rfl,rx,ry⟩:=r1.two;unfold RepU at ry;obtain ⟨b',ys',rfl,sq',r2'⟩:=ry;obtain ⟨a',ys,rfl,sq,r2⟩:=Fi A1 hl rx;obtain ⟨a2,ea,ha2⟩:=rx.ref_of A1;cases ha2;exact ⟨a',b',ys,ys',rfl,sq,sq',q _ H1 α1 g1 A1 (Alx ea sq' r2')⟩
 ·cases ee
end
end MR
namespace MR
open PySem PyProof.Rows L2
section
variable {X:Cx}{scope:kA}{N':Φ}{ix:ly}{elt tg iter c:Expr}{pos:Pos}{fi:FI}{g:FG}{ft:FT}{fe:FE}
theorem Qi{i:Nat}{y:Str}{py spos:Pos}(hN:X.N.Nodup)(S:sn X N' ix)(hcalm:X.calm=true)(hi:PIF X tg iter fi)(hg:∀ cl C s2 H2 fp pins,PGF Zh tg g)(ht:∀ cl C s2 H2 fp pins,PTF Zh c ft)(he:∀ cl C s2 H2 fp pins,PEF Zh elt fe)
  (hiN:X.N[i]? = ξ y:=by rfl) (hx:sj y:=by first | exact rL rfl | exact pM rfl) (hf:X.fn y=true\/X.env.scope.names.lookup y=i9:=by first | exact .inl rfl | exact .inr rfl)
  (hsw:vx (ky elt [⟨tg,iter,[c],0⟩] pos) (ξ (.Name y py)) spos.line=pure true:=by rfl)
  (hs:∀ x,lu iter x=pure x:=by intro _;rfl):PSF X (.Assign [.Name y py] (ky elt [⟨tg,iter,[c],0⟩] pos) spos) (a8 (Bg ix fi g (ξ ft) fe) i):=
 PS.imp (Adk (i:=i) (g:=lG X.K g) (te:=lE X.K fe) (tt:=lT X.K ft) hN hiN hx hf S hcalm hi hg (fun _ _ _ _ _ _=>Xu (ht _ _ _ _ _ _)) he hsw hs) (Anx (Tz (tt:=ξ ft)))
end
theorem Ur:∀ L:UH,Er L L=L
 | []=>by unfold Er;rfl
 | x::L=>by cases x <;> simp[Er,Ur L]
theorem Xz:∀ (L L' x:UH),L.length=L'.length->Er L (L'++x)=Er L L'++x
 | [],[],x,_=>by simp[Er]
 | [],y::L',x,h=>by simp at h
 | a::L,[],x,h=>by simp at h
 | a::L,y::L',x,h=>by
  have:=Xz L L' x (by simpa using h);cases a <;> cases y <;> simp[Er,this]
theorem Yy:∀ (L:UH) (n:Nat) (kvs:List (Key×U)),L[n]? = iy kvs->Er L (L.set n (.rod kvs))=L
 | [],n,kvs,h=>by simp at h
 | x::L,0,kvs,h=>by
  simp at h;subst h;simp[Er,Ur]
 | x::L,n+1,kvs,h=>by
  have:=Yy L n kvs (by simpa using h);cases x <;> simp[Er,this]
theorem Aql{v:List (Key×U)->aa}{fo:FE}{δ:UE}{L:UH}{n:Nat}{kvs:List (Key×U)}(hf:fo δ L=ξ (di,L))(hn:L[n]? = iy kvs):Yc v fo δ L=ξ (.seq (v kvs),L.set n (.rod kvs)):=by
 have hd:B3 L n=ξ kvs:=by unfold B3;rw[hn]
 unfold Yc;rw[hf];simp only[aA,hd,aD]
end MR
namespace MR
open PySem PySem.Spec PyProof.Rows PySem.Calls L2
structure FnG(K:aK)(mg:Str->bi)(x:Str)(st:Stmt)(ps:Φ) where
 f:Addr
 d:fA
 F:Fun K x x st f d
 b:Binds K d ps []
 g:mg x=mn
abbrev Azg(x q:Str)(st:Stmt)(ps:Φ):Prop:=∀ (kV doc pm:aJ) (an:du) (cdv ct:aJ) (us:ac),us.length=ps.length->rF (gY x q (G7 st) (Fh st) (Ap st) .none kV doc pm an cdv ct) ⟨us,[]⟩=pure (ps.zip us)
theorem scm{N P:Φ}{sc:kA}(h1:sc.kind = .function:=by rfl)(h2:sc.isCoroutine=false:=by rfl)(h3:sc.isGenerator=false:=by rfl)(h4:N.Nodup:=by lk)(h5:N.take P.length=P:=by rfl)
  (h6:∀ x∈P,j6=i9\/j6=j9:=by lk) (h7:∀ y∈sc.names,y.2≠.free:=by lk):FnScope N P sc:=⟨h1,h2,h3,h4,h5,h6,h7⟩
variable {x:Str}{st:Stmt}{ps:Φ}
section
variable {K:aK}{h:Heap}{mg:Str->bi}{q:Str}{f C:Addr}{od an:du}{sl:Array bi}{oc kV dc pm cd ct:aJ}
def mkG(X:K.In h)(G:h.Ns dJ mg)(a:lK K dJ x=ξ mn)(l:K.lookup f=ξ ⟨oc,od,.func (gY x x (G7 st) (Fh st) (Ap st) .none kV dc pm an cd ct),sl⟩)(c:oG K cd x=true)(k:iA K ff=true)(hb:Azg x x st ps):l3 K x st ps:=
 ⟨f,_,Anm l c k,(Anm l c k).binds hb,xU X G a⟩
theorem FnG.law(c:l3 K "law" st ["script"]){Q:Addr->fA->Prop}{fa:Addr}(hfa:mg "law" = η fa)(hl:∀ (kV doc pm:aJ) (an:du) (cdv ct:aJ) (s:aO) (v:aJ),pC s (gY "law" "law" (G7 st) (Fh st) (Ap st) .none kV doc pm an cdv ct) ⟨[v],[]⟩ [("script",v)])(hQ:Q c.f c.d) :
  ∃ fd:fA,(∀ (s:aO) (v:aJ),pC s fd ⟨[v],[]⟩ [("script",v)])/\Q fa fd:=by
 have e:=hfa.symm.trans c.g;cases e;obtain ⟨oc,od,kV,doc,pm,an,cdv,ct,osl,e,lk,hcd⟩:=c.F.ex;refine ⟨c.d,fun s v=>?_,hQ⟩;rw[e];exact hl kV doc pm an cdv ct s v
end
section
variable {X:Cx}{m q C:Str}{Ca:Addr}{k n j:Nat}{F:FN}{e o:Expr}{es:fj}{g:FA}{fo:FE}{p pos apos:Pos}
theorem Be(c:FnG X.K X.mg x st ps)(hF:FnOk X.prog X.w X.K X.mg X.base CX0 k c.f c.d ps (spF X.K n F))(hr:Room j X.A)(ha:PAF X (e::es) g)(hg:Gl X x:=by rfl)(hk:k<=j:=by decide)
  (hdb:(x == ("__debug__" : Str))=false:=by decide) (he:bc (e::es)=ZF::bc es:=by rfl) (hpl:(f6 pos es).any (·.1)=false:=by rfl) :
  PEF X Z5 (Av n F g):=Ahb hF (hr.mono hk) hg c.g c.F.kp c.b ha hdb he hpl
end
def Aut(K:aK)(mg:Str->bi)(nm:Str):Prop:=∃ c P,dQ K nm=ξ (c,P)/\∀ f d st,Fun K nm nm st f d->mg nm=mn->d.code = ow
theorem Ayb{K:aK}{h:Heap}{mg:Str->bi}{nm:Str}(X:K.In h)(G:h.Ns dJ mg)(ht:(dQ K nm).isSome=true):Aut K mg nm:=by
 obtain ⟨⟨c,P⟩,e⟩:=jF.mp ht;refine ⟨c,P,e,fun f d st F g=>?_⟩;have e2:=e;unfold dQ at e2;split at e2
 ·rename_i f0 hn;have:=g.symm.trans (xU X G hn);cases this;obtain ⟨oc,od,kV,doc,pm,an,cdv,ct,osl,e3,lk,hcd⟩:=F.ex;obtain ⟨c',P',q1,q2⟩:=Aqy ht hn lk;rw[e] at q1;cases q1;exact q2
 ·cases e2
abbrev Azl(x:Str)(st:Stmt)(ps:Φ):Prop:=∀ (kV doc pm:aJ) (an:du) (cdv ct:aJ) (ws:ac),ws.length=ps.length->rF (gY x x (G7 st) (Fh st) (Ap st) .none kV doc pm an cdv ct) ⟨[],ps.zip ws⟩=pure (ps.zip ws)
section
variable {X:Cx}{p:Str}{k n j:Nat}{F:FN}{kws:tu}{g:FA}{pp pos:Pos}
theorem Nl(c:FnG X.K X.mg x st (p::ps))(hF:FnOk X.prog X.w X.K X.mg X.base CX0 k c.f c.d (p::ps) (spF X.K n F))(hr:Room j X.A)(h:Azl x st (p::ps))(hkw:PKF X kws g)(hg:Gl X x:=by rfl)(hk:k<=j:=by decide)
  (hall:(dy pos kws X.env).all (·.1.isSome)=true:=by rfl) (hks:(dy pos kws X.env).filterMap (·.1)=p::ps:=by rfl) (hdb:(x == ("__debug__" : Str))=false:=by decide)
  (hpl:((f6 pos []).any (·.1) || (dy pos kws X.env).any (·.1.isNone))=false:=by rfl) :
  PEF X (tz x pp [] kws) (Av n F g):=by
 refine Akq hF (hr.mono hk) hg c.g c.F.kp ?_ hkw hall hks hdb hpl;obtain ⟨oc,od,kV,doc,pm,an,cdv,ct,osl,e,lk,hcd⟩:=c.F.ex;rw[e];exact Ao3 (h kV doc pm an cdv ct)
end
end MR
namespace Lw
open PySem L2 MR
def Oa:FE:=(ae Al 1 dg)
def Ac9:FS:=(B0 (lm Ho (ko [ψ,ij] dq d8 ψ Oa)))
def Qq:FN:=fnU 2 2 Ac9
def Eg:FE:=(ae Yx 0 dq)
def Gy:FS:=(B0 (Jq (ae Di 0 dq) (lm Nq (Bg [ψ,ψ] (K8 (Δ 0 (df 1))) (li 2 0 1) ψ Eg))))
def Bv:FN:=fnU 2 2 Gy
def P5:FS:=(B0 (Dp (rh (nb 0 1) (nb 0 2))))
def Bb:FN:=fnU 1 1 P5
def K6:FE:=dg
def Fe:FT:=(Gp (ay 2 Bv 2 (a7 (ay 1 Bb 1 Af))))
def Pe:FS:=(Az (a8 (ay 1 Bb 1 Af) 2) (B0 (Bg [ψ,ψ,m6] (Jx (df 0)) (li 2 0 1) (ξ Fe) K6)))
def Ei:FN:=fnU 3 2 Pe
def Dj:FE:=(ay 2 Qq 1 (df 0))
def Dl:FT:=(Gp (gg T8 2))
def F8:FS:=(Az (Hv (vq B9 nr (a7 (gg Ho 2)))) (a8 (ko [ψ,m6] dq d8 ψ Dj) 2))
def Dk:FE:=(ay 2 Ei 1 (df 0))
def Ld:FS:=(jg (ko [ψ,ij] dg d8 ψ Dk) 1 (a8 (f2 Br (Cw (gf 1)) (gg Bc 0)) 2) (jg mh 3 (Dz Dl F8 100000) (B0 (gg Bj 3))))
def B7:FN:=fnU 4 1 Ld
def Dd:FS:=(Fb (Gp (Av 2 Bv (rh (Av 1 Bb (a7 (gm Al (ae Al 3 (P1 m8)) 0))) (ay 1 Bb 1 Af)))) (B0 v5) Cy)
def F5:FS:=(Az (Fu (Xx (df 0)) (li 2 2 3) Dd) (B0 (gg Bc 0)))
def D8:FN:=fnU 4 2 F5
def Ef:FS:=(Az (a8 (ay 2 D8 1 (df 2)) 3) (jg (fIf (Bn (bz Sf 3 0)) (gm Al (f2 Al (ae Al 1 (bz Nc 3 1)) (P1 m8)) 1) (Dp Af)) 4 (Fb (Bn (ae By 3 (gg Bc 1))) (Hv (vq B9 dq (a7 mh))) Cy) (Hv (vq B9 (ae Al 1 nr) (a7 (Dp (Δ 2 (a7 (ae Ly 4 (Dp (a7 (nb 2 0))))))))))))
def Pp:FS:=(jg mh 1 (Fu (A7 (Oo Bb dg)) (gN 2) Ef) (B0 dq))
def F2:FN:=fnU 5 1 Pp
def Ku:FE:=(nb 0 0)
def W7:FS:=(B0 (lm Bj (ko [ψ,ψ] dg (li 2 0 1) ψ Ku)))
def Kc:FN:=fnU 1 1 W7
def Pu:FE:=(j8 1 Kc Af)
def Aev:FS:=(B0 (lm Bj (ko [ψ] (j8 1 F2 Af) d8 ψ Pu)))
def Il:FN:=fnU 1 1 Aev
def O7:FE:=(Av 2 Bv (rh (Qp v5 dg) (Qp v5 dq)))
def Af5:FS:=(B0 (lm Nq (Bg [ψ,ψ,ij] (K8 (Δ 1 (a7 (fSl Lo dq (Ey m8) B8)))) (li 2 0 1) ψ O7)))
def P6:FN:=fnU 2 2 Af5
def Jt:FE:=(ay 2 P6 1 (df 0))
def Me:FS:=(Hv (vq Te (Ad 4) (df 5)))
def Q1:FS:=(Hx v5 (nb 3 0) (ay 1 Bb 3 Af))
def Um:FS:=(jg O1 2 (Fu (A7 dg) (gN 3) Q1) (jg mh 4 (Fu (A7 dq) (gN 5) Me) (B0 (Jq (f2 By (gg Eh 4) (gg Eh 2)) (lm Nq (ko [ψ,m6] dq d8 ψ Jt))))))
def Qa:FN:=fnU 6 2 Um
def M9:FE:=dg
def F4:FT:=(Gp (j8 2 Bv (df 1)))
def Aax:FS:=(B0 (lm Bc (ko [ψ,ξ 1] dg d8 (ξ F4) M9)))
def Lk:FN:=fnU 2 2 Aax
def Mw:FE:=(ay 2 Lk 1 (df 0))
def Mq:FE:=(j8 1 Bb Af)
def Ri:FS:=(Az (a8 (ko [ψ] dg d8 ψ Mq) 1) (B0 (lm Bj (ko [ψ,ξ 1] dq d8 ψ Mw))))
def Lj:FN:=fnU 2 1 Ri
def Vu:FS:=(B0 (lm Ho (j8 1 Lj Af)))
def Gi:FN:=fnU 1 1 Vu
def Pg:FE:=dg
def Pa:FT:=(Bn (f2 (Ph false) (nb 0 0) dq))
def Ua:FS:=(Az (a8 (ko [ψ,ξ 1] dg d8 (ξ Pa) Pg) 2) (B0 (Jq (f2 By (gg Bc 2) (gg Bc 1)) (gm By (ay 1 Gi 2 Af) 0))))
def Pz:FN:=fnU 3 2 Ua
def Xh:FS:=(B0 (Jq (f2 By (gg Bc 1) (gg Bc 2)) (Jq (j8 2 Qa (df 1)) (j8 2 Pz (df 2)))))
def F0:FN:=fnU 3 3 Xh
def O8:FE:=(nb 0 0)
def Pk:FT:=(Bn (f2 (Ph false) (nb 0 0) dq))
def Mo:FS:=(Az (a8 (j8 1 F2 Af) 1) (b9 (Fb (Ox (Gp dq)) (B0 (Dp Af)) Cy) (a8 (gm Al (f2 Al (ae Al 1 (P1 m8)) (P1 m8)) 1) 2) (B0 (lm Bj (ko [ψ,m6] dg d8 (ξ Pk) O8)))))
def G3:FN:=fnU 3 1 Mo
def Cc:FE:=(Dp (rh (P1 (nb 0 0)) (nb 0 1)))
def Li:FS:=(B0 (Q4 [ψ] Cc dg))
def Dm:FN:=fnU 1 1 Li
def Ba:FE:=(Av 1 Bb (a7 (ae Al 1 dg)))
def Ft:FS:=(B0 (N9 [ψ,ij] Ba (a7 (gg Bc 0))))
def B2:FN:=fnU 1 1 Ft
def Hs:FE:=(Qp dq dg)
def Dy:FS:=(jg (ko [ψ,m6] (j8 2 Ei (a7 (ae Al 0 nr))) d8 ψ Hs) 4 (a8 (Av 1 Dm (a7 (f2 Bd (Cw (a7 (Dp (rh (ω 0) (Dp Af))))) (Ad 4)))) 5) (Hx v5 nr (Dp (rh (f2 Bd (Qp dq (gm Al (ae Al 0 nr) 0)) (nb 5 0)) (f2 Bd (Dp (df 3)) (nb 5 1))))))
def Lh:FS:=(jg O1 2 (Fu (A7 (j8 1 B2 Af)) (gN 3) Dy) (B0 (Aaj v5)))
def E8:FN:=fnU 6 2 Lh
def Hu:FE:=(gm Al (ae Al 1 dg) 0)
def Ki:FS:=(b9 (Fb (Ox (Gp dg)) (B0 (Dp (rh (ω 0) (Dp Af)))) Cy) (a8 (Av 1 Dm (a7 (j8 2 E8 (df 1)))) 2) (B0 (Dp (rh (nb 2 0) (lm Bj (ko [ψ,ij] (nb 2 1) d8 ψ Hu))))))
def Ck:FN:=fnU 3 2 Ki
def F9:FS:=(Hx dq (nb 2 0) m8)
def Kv:FS:=(b9 (Fb (Ox (Gp dg)) (B0 (Dp (gi (ω 0) m8 (a7 (Dp Af))))) Cy) (a8 O1 1) (b9 (Fu (A7 dg) (gN 2) F9) (a8 (j8 2 Ck (df 1)) 3) (B0 (Dp (gi (nb 3 0) (f2 Al (j8 1 B7 Af) (P1 m8)) (a7 (nb 3 1)))))))
def Cj:FN:=fnU 4 1 Kv
def Ms:FE:=dg
def Mp:FT:=(Gp (ay 2 Bv 1 (df 0)))
def Aao:FS:=(B0 (lm Bc (ko [ψ,ξ 1] dg d8 (ξ Mp) Ms)))
def Md:FN:=fnU 2 2 Aao
def Mz:FE:=(ay 2 Md 1 (df 0))
def Mt:FE:=(j8 1 Bb Af)
def Aa2:FS:=(Az (a8 (ko [ψ] dg d8 ψ Mt) 1) (B0 (lm Bj (ko [ψ,ξ 1] dq d8 ψ Mz))))
def Ln:FN:=fnU 2 1 Aa2
def N6:FE:=dg
def Oc:FT:=(Bn (bz Sf 1 0))
def Nj:FE:=(nb 0 0)
def Iq:FE:=dg
def Ii:FT:=(Bn (bz By 1 0))
def E5:FT:=(Gp v5)
def G6:FS:=(Az (a8 (ay 1 Ln 2 Af) 3) (jg (Bg [ψ,ψ] (Sx (Δ 2 (df 3))) (li 2 0 1) (ξ Ii) Iq) 4 (Hv (vq B9 dq (a7 (lm Bj (ko [ψ] (V2 Bb (Ad 4)) d8 ψ Nj))))) (a8 (Bg [ψ,ψ] (Sx (Δ 2 (df 3))) (li 2 0 1) (ξ Oc) N6) 2)))
def Nm:FS:=(Az (a8 mh 1) (jg dg 2 (Dz E5 G6 100000) (B0 (gg Bj 1))))
def Cp:FN:=fnU 5 1 Nm
def Qy:FS:=(Hx dq (Ad 4) v5)
def Jm:FS:=(Fu (A7 nr) (gN 4) Qy)
def Hk:FS:=(jg O1 1 (Fu (Jx (a7 (j8 1 Cp Af))) (li 2 2 3) Jm) (B0 dq))
def B5:FN:=fnU 5 1 Hk
def Hn:FE:=(Dp (Aa (nb 0 0) (gf 1)))
def Ml:FS:=(jg (lm Oi (ko [ψ] dg d8 ψ Hn)) 1 (a8 (j8 1 Cj Af) 2) (b9 (Fb (fOr (Bn (ae E2 2 (j8 1 Cj Af))) (Bn (f2 E2 (j8 2 Ck (df 1)) (Dp (rh (nb 2 0) (nb 2 2)))))) (B0 (fC gq)) Cy) (a8 (j8 1 Il Af) 3) (jg (j8 1 G3 Af) 4 (Fb (fOr (Bn (f2 (Rj true) (j8 3 F0 (Δ 3 (df 4))) (fC eo))) (Bn (f2 E2 (lm Bc (j8 1 B7 Af)) (nb 2 0)))) (B0 (fC gq)) Cy) (B0 (Jq (f2 Ip (j8 1 Cp Af) (j8 1 Cp Af)) (f2 Ip (j8 1 B5 Af) (j8 1 B5 Af)))))))
def Ma:FN:=fnU 5 1 Ml
def Gg:FE:=dg
def Gn:FT:=(Gp (Tc "bool" (Y5 dq dg)))
def R3:FS:=(Hx nr (Ad 6) (Ad 4))
def Km:FS:=(Fu (A7 (Ad 5)) (gN 6) R3)
def Iw:FS:=(jg (j8 1 B5 Af) 2 (a8 O1 3) (b9 (Fu (Jx (df 1)) (li 2 4 5) Km) (Fb (fOr (Ox (Gp (Tc "dict" v5))) (Bn (ae E2 2 nr))) (B0 (fC gq)) Cy) (b9 (Fb (Bn (f2 E2 (Ahy (Bg [ψ,m6] (Yc Ue v5) d8 (ξ Gn) Gg)) mh)) (B0 (fC gq)) Cy) (Hx v5 (cj "strange") (ω 7)) (B0 (f2 Ip (j8 1 B5 Af) nr)))))
def Ih:FN:=fnU 7 2 Iw
def Gx:FS:=(jg (j8 2 D0 (df 2)) 6 (a8 (j8 2 D0 (df 2)) 7) (b9 (Fb (Bn (bz By 3 1)) (a8 (ae Bd 6 (f2 Br (j8 2 A0 (gf 3)) (lm Ry (f2 V0 (gg Lq 6) (gm Hm (ω 10) 9))))) 7) Cy) (Fb (Bn (bz By 3 2)) (a8 (f2 Nc (ω 0) (Ad 6)) 7) Cy) (b9 (Fb ZG (A9 (fSl Hi Zab (Ey m8) B8) (li 2 6 7)) Cy) (Fb ZG (a8 (gm Al Zab 1) 6) Cy) (Hv (vq B9 (Ad 4) (a7 (Dp (Δ 5 (Δ 6 (df 7))))))))))
def V7:FS:=(jg (j8 2 A0 (gf 3)) 2 (a8 (j8 2 A0 (gf 4)) 3) (jg mh 4 (Fu (A7 (j8 2 Ic (a7 (j8 2 A0 (a7 (bz Bd 1 1)))))) (gN 5) Gx) (B0 (gg Bj 4))))
def Iy:FN:=fnU 8 2 V7
def S3(R:FN):FE:=m8
def Ji(R:FN):FT:=(Ox (Gp (j8 2 R (df 1))))
def N8(R:FN):FS:=(Az (Fb (Bn (ae (Rj false) 1 (fC .non))) (B0 (ae (Rj false) 0 (fC .non))) Cy) (b9 (Fb (Gp (Tc "tuple" dq)) (Az (Fb (fOr (Ox (Gp (Tc "tuple" dg))) (Bn (f2 Di (gg Bc 0) (gg Bc 1)))) (B0 (fC gq)) Cy) (B0 (f2 By (Bg [ψ,ψ] (K8 (Δ 0 (df 1))) (li 2 0 1) (ξ (Ji R)) (S3 R)) mh))) Cy) (Fb (Gp (Tc "str" dq)) (B0 (Jq (Tc "str" dg) (ae By 0 dq))) Cy) (B0 (Jq (Tc "int" dg) (Jq (Amd (Tc "bool" dg)) (ae By 0 dq))))))
def Ig:Nat->FN
 | 0=>fun _ _=>ψ
 | k+1=>fnU 2 2 (N8 (Ig k))
def Vc:FN:=Ig 3
def Yz:FS:=(Az (Fb (Bn (f2 By (fSl Hi dg (Ey m8) B8) (fSl Hi dq (Ey m8) B8))) (B0 (fC gq)) Cy) (B0 (Jq (f2 Yx (nb 0 1) (nb 1 1)) (f2 Yx (nb 0 2) (nb 1 2)))))
def Ks:FN:=fnU 2 2 Yz
def Kd:FE:=dg
def Kg:FT:=(Bn (ae (Ph true) 0 dq))
def Ka:FE:=(gm Al (ae Al 2 dq) 0)
def Js:FE:=(Dp (Aa (gm Al (ae Al 1 dg) 1) (df 0)))
def Jv:FE:=dg
def Ju:FT:=(Gp (Av 2 Ks (rh (ae Al 1 v5) (ae Al 1 dg))))
def Jy:FE:=dg
def Ke:FT:=(Bn (f2 By (ko [ψ,m6,ij] dq d8 (ξ Ju) Jv) mh))
def Kf:FT:=(Bn (ae Di 1 mh))
def H9:FS:=(jg (ko [ψ,ξ 1,ij] dq d8 (ξ Ke) Jy) 3 (a8 (lm Nw (ko [ψ,ij] nr d8 ψ Js)) 4) (Az (Hv (vq B9 v5 (a7 (lm Bj (ko [ψ,ψ,ij] (Ad 4) (li 2 0 1) ψ Ka))))) (a8 (ko [ψ,ξ 3] dq d8 (ξ Kg) Kd) 1)))
def P9:FS:=(Az (a8 (Aba (a7 (gg Bc 0))) 1) (jg mh 2 (Dz Kf H9 100000) (B0 (gg Bj 2))))
def Py:FN:=fnU 5 1 P9
def Aa6:FS:=(jg (ay 2 Iy 1 (a7 (f2 Al (Cw (gi (ω 9) (ω 9) (gi (ω 9) (ω 9) (gf 60)))) (ay 2 A0 1 (gf 5))))) 3 (a8 (ay 1 Py 3 Af) 4) (Fb (fOr (Ox (Gp (Av 2 Vc (Aa (ay 1 Cp 3 Af) (df 4))))) (Ox (Gp (ay 2 Ih 3 (df 4))))) (B0 (fC gq)) Cy))
def Amg:FS:=(jg (j8 1 Qw Af) 1 (Fu (Gv (gf 5)) (gN 2) Aa6) (B0 (ay 1 Ma 3 Af)))
def Adn:FN:=fnU 5 1 Amg
noncomputable abbrev P3:=Str×Int×Int
def p3U(p:P3):U:=.tup [.str p.1,.int p.2.1,.int p.2.2]
variable {p:P3}
theorem Ayr(h:ni):Pl 6 (p3U p):=by
 unfold p3U;rw[Hq];intro u hu;simp only[bE,eY,or_false] at hu;rcases hu with rfl | rfl | rfl
 ·show Pl 5 (.str p.1);simpa[Pl] using h.ok
 ·exact Pl.int _ _
 ·exact Pl.int _ _
variable {M:UH}{f:Nat}{ps:ah}
theorem Ajk(h:M[f]? = Ξ θ)(hw:∀ p∈ps,ni):Di ff qr (M++[fz])=ξ (.bl (!ps.isEmpty),M++[fz]):=by
 have q1:Aq (M++[c7]) f=ξ θ:=Aj ((cc M).get h);have q2:Aq (M++[c7]) M.length=ξ []:=Aj Za;have hp:∀ u∈θ,Pl 6 u:=fun u hu=>by obtain ⟨a,ha,rfl⟩:=bK.mp hu;exact Ayr (hw a ha)
 have hp0:∀ u∈([]:aa),Pl 6 u:=fun u hu=>by cases hu
 rw[Aji q1 q2 hp hp0];cases ps with
 | nil=>rfl
 | cons p ps=>
  have:Aap ((p::ps).map p3U) []=false:=by
   have:=(U3 (us:=(p::ps).map p3U) (ws:=[]) hp hp0);cases hq:Aap ((p::ps).map p3U) [] with
   | false=>rfl
   | true=>exact absurd (this.mp hq) Za
  rw[this];rfl
variable {L:UH}{d:Nat}{B:Int}{δ:UE}
theorem Ahx(D:kq L B)(hB:B<=100000000)(hf:L[f]? = Ξ θ)(hfd:f≠d)(hp:ps≠[])(hs:ps.length<=1000)(h0:∀ M,Ad 0 δ M=ξ (.ref d,M))(h4:∀ M,Ad 4 δ M=ξ (ff,M)) :
  ∃ (p:P3) (L':UH),(ae Al 4 (j8 2 A0 (a7 (gg Bc 4)))) δ L=ξ (p3U p,L')/\kq L' (B+1)/\Ex d L L':=by
 have hpos:0 < ps.length:=gD.mpr hp;obtain ⟨i,L1,e1,i0,i1,D1,x1⟩:=Dg (many:=((θ).length:Nat)) D Ze (by simp;omega) (by simp;omega);have hf1:=x1.get hf hfd;have hlen:=Mh hf;rw[aL] at i1;have hix:L2.atI θ i=dh (ps[i.toNat]'(by omega)):=by
  rw[Ny i0 (by rw[aL];omega),aX,aC Ze];rfl
 refine ⟨ps[i.toNat]'(by omega),L1,?_,D1,x1⟩;rw[f2_eq,h4,aA,fOwn_eq,fCons_eq,h0];simp only[aA,fCons_eq,fCall_eq,h4,fNil_eq,aD,hlen,aR,bG,if_true,e1,semIx_ref,Aj hf1,hix]
theorem Agh{c:Int}(D:kq M B)(hB:B<=100000000)(hf:M[f]? = Ξ θ)(hw:∀ p∈ps,ni)(h0:0 < c)(h1:c < 1000)(v0:∀ M,Ad 0 δ M=ξ (.ref d,M))(v4:∀ M,Ad 4 δ M=ξ (ff,M)) :
  ∃ (b:Bool) (M':UH),(Aem (Bn (ae Di 4 mh)) (Bn (gm By (j8 2 A0 (gf c)) 0))) δ M=ξ (b,M')/\(b=true->ps≠[])/\kq M' (B+1)/\Ex d M M':=by
 have sm0:small ([]:aa).length=true:=small_of (by show 0<=16777216;decide);have hl:∀ M,(mh) δ M=ξ (qr,M++[fz]):=fun M=>by rw[fLst_eq,fNil_eq,aA,if_pos sm0]
 have hne:=Ajk hf hw;have t1:(ae Di 4 mh) δ M=ξ (.bl (!ps.isEmpty),M++[fz]):=by
  rw[f2_eq,v4,aA,hl,aA,hne]
 cases hps:ps.isEmpty with
 | true=>
  rw[hps] at t1;refine ⟨false,M++[fz],?_,(fun h=>by cases h),(D.new _).mono Ze,Ex.new d M _⟩;simp only[Ahv,fTest_eq,t1,aA,jL,bS,if_false]
 | false=>
  rw[hps] at t1;obtain ⟨i,M2,e1,i0,i1,D1,x1⟩:=Dg (many:=c) (D.new [c7]) Ze h0 Ze;refine ⟨i == 0,M2,?_,(fun _=>by intro h;rw[h] at hps;cases hps),D1,(Ex.new d M _).trans x1⟩
  have t2:(gm By (j8 2 A0 (gf c)) 0) δ (M++[fz])=ξ (.bl (i == 0),M2):=by
   rw[f2_eq,Va (i:=0) (v0 _) e1];simp only[aA,fC_eq,Sb]
  simp only[Ahv,fTest_eq,t1,aA,rY,if_true,t2]
theorem At4(k:Bool)(L:UH):Ry [.bl k] L=ξ (.int (if k then 1 else 0),L):=rfl
def pt3:FS:=(Fb (Bn (bz By 3 1)) (a8 (ae Bd 6 (f2 Br (j8 2 A0 (gf 3)) (lm Ry (f2 V0 (gg Lq 6) (gm Hm (ω 10) 9))))) 7) Cy)
def Avp(pw:S2)(ab:SC):FE:=(ae Bd 6 (f2 Br (j8 2 A0 (gf 3)) (lm Ry (f2 V0 (gg ab 6) (gm pw (ω 10) 9)))))
variable {x:Int}
theorem Ar1{pw:S2}{ab:SC}{M1:UH}{i E ca:Int}(x1 x2 x3 x4 x5 x7:az)(e1:A0 [.ref d,.int 3] M=ξ (ce,M1))(h0:0<=i)(h1:i < 3)(hp:pw (.int 10) (.int 9) M1=ξ (.int E,M1))(hab:ab [.int x] M1=ξ (.int ca,M1)) :
  ∃ y:Int,Avp pw ab [dv,x1,x2,x3,x4,x5,χ x,x7] M=ξ (.int y,M1):=by
 have a1:=Va (i:=0) (δ:=[dv,x1,x2,x3,x4,x5,χ x,x7]) rfl e1;have hlt:V0 (.int ca) (.int E) M1=ξ (.bl (decide (ca < E)),M1):=rfl;have hmu:∀ z:Int,Br ce (.int z) M1=ξ (.int (i * z),M1):=fun z=>by
  have:=Ol (i:=i) (j:=z) Ze Ze;simp only[Br,this,if_true]
 refine ⟨x+i * (if decide (ca < E) then 1 else 0),?_⟩;have v6:∀ M,Ad 6 [dv,x1,x2,x3,x4,x5,χ x,x7] M=ξ (.int x,M):=fun _=>rfl
 unfold Avp;rw[f2_eq,v6,aA,f2_eq,a1];simp only[aA,fCall_eq,fCons_eq,fNil_eq,f2_eq,v6,fC_eq,aD,hab,hp,hlt,At4,hmu,semAdd_int]
theorem A0x(L:UH):Hm (.int 10) (.int 9) L=ξ (.int 1000000000,L):=by
 have p:Y0 10 9=true:=rfl;simp[p]
variable {way y:Int}
theorem Av6{M:UH}{d:Nat}{B way x y:Int}(D:kq M B)(hB:B<=10000000)(x1 x2 x4 x5:az) :
  ∃ (y':Int) (M':UH),pt3 [dv,x1,x2,n6,x4,x5,χ x,χ y] M=ξ (.nx [dv,x1,x2,n6,x4,x5,χ x,χ y'],M')/\kq M' (B+1)/\Ex d M M':=by
 have t:(bz By 3 1) [dv,x1,x2,n6,x4,x5,χ x,χ y] M=ξ (.bl (way == 1),M):=by
  simp only[f2_eq,fVar_eq,fC_eq,aY,aP,bD,aD,aA,Sb]
 have hb:pt3=Fb (Bn (bz By 3 1)) (a8 (Avp Hm Lq) 7) Cy:=rfl;cases hw:(way == (1:Int)) with
 | true=>
  rw[hw] at t;obtain ⟨i,M1,e1,i0,i1,D1,x1'⟩:=Dg (many:=3) D Ze Zb Zb;obtain ⟨y',e⟩:=Ar1 (x:=x) x1 x2 n6 x4 x5 (χ y) e1 i0 i1 (A0x M1) (Ae2 x M1);have s:=C5 (i:=7) e;simp only[aZ,bA] at s;refine ⟨y',M1,?_,D1,x1'⟩;rw[hb,fIfS_eq,fTest_eq,t];simp only[aA,if_true];exact s
 | false=>
  rw[hw] at t;refine ⟨y,M,?_,D.mono Ze,Ex.refl d M⟩;rw[hb,fIfS_eq,fTest_eq,t];simp only[aA,bS,if_false,Gk]
def pt4:FS:=(Fb (Bn (bz By 3 2)) (a8 (f2 Nc (ω 0) (Ad 6)) 7) Cy)
theorem Av8{M:UH}{way x y:Int}(x0 x1 x2 x4 x5:az) :
  ∃ (y':Int),pt4 [x0,x1,x2,n6,x4,x5,χ x,χ y] M=ξ (.nx [x0,x1,x2,n6,x4,x5,χ x,χ y'],M):=by
 have t:(bz By 3 2) [x0,x1,x2,n6,x4,x5,χ x,χ y] M=ξ (.bl (way == 2),M):=by
  simp only[f2_eq,fVar_eq,fC_eq,aY,aP,bD,aD,aA,Sb]
 cases hw:(way == (2:Int)) with
 | true=>
  rw[hw] at t;refine ⟨0 - x,?_⟩;unfold pt4;rw[fIfS_eq,fTest_eq,t];simp only[aA,if_true,fAsg_eq,f2_eq,fC_eq,fVar_eq,aY,aP,bD,aD,semSub_int,gN_eq,aZ,bA]
 | false=>
  rw[hw] at t;refine ⟨y,?_⟩;unfold pt4;rw[fIfS_eq,fTest_eq,t];simp only[aA,bS,if_false,Gk]
def Acj:FE:=Zab
def pt5:FS:=(Fb ZG (A9 (fSl Hi Acj (Ey m8) B8) (li 2 6 7)) Cy)
theorem Awx{M:UH}{d f:Nat}{B x y:Int}{ps:ah}(D:kq M B)(hB:B<=10000000)(hf:M[f]? = Ξ θ)(hfd:f≠d)(hs:ps.length<=100)(hw:∀ p∈ps,ni)(x1 x2 x3 x5:az) :
  ∃ (x' y':Int) (M':UH),pt5 [dv,x1,x2,x3,mn,x5,χ x,χ y] M=ξ (.nx [dv,x1,x2,x3,mn,x5,χ x',χ y'],M')/\kq M' (B+2)/\Ex d M M':=by
 obtain ⟨b,M1,e1,hb,D1,x1'⟩:=Agh (c:=5) D Ze hf hw Zb Zb (δ:=[dv,x1,x2,x3,mn,x5,χ x,χ y]) ZH ZH;cases b with
 | false=>
  refine ⟨x,y,M1,?_,D1.mono Ze,x1'⟩;unfold pt5;rw[fIfS_eq,e1];simp only[aA,bS,if_false,Gk]
 | true=>
  obtain ⟨p,M2,e2,D2,x2'⟩:=Ahx D1 Ze (x1'.get hf hfd) hfd (hb rfl) Ze (δ:=[dv,x1,x2,x3,mn,x5,χ x,χ y]) ZH ZH;have e2':Acj [dv,x1,x2,x3,mn,x5,χ x,χ y] M1=ξ (p3U p,M2):=e2;have hc:Hi (p3U p) (ξ 1) ψ M2=ξ (.tup [.int p.2.1,.int p.2.2],M2):=rfl;have hg:(li 2 6 7) (.tup [.int p.2.1,.int p.2.2]) [dv,x1,x2,x3,mn,x5,χ x,χ y] M2=ξ ([dv,x1,x2,x3,mn,x5,χ p.2.1,χ p.2.2],M2):=rfl;refine ⟨p.2.1,p.2.2,M2,?_,D2.mono Ze,x1'.trans x2'⟩;unfold pt5;rw[fIfS_eq,e1];simp only[aA,if_true];rw[fAsg_eq,fSl_eq,e2'];simp only[aA,fPart_eq,fC_eq,fNoPart_eq,aD,hc,hg]
def pt6:FS:=(Fb ZG (a8 (gm Al Acj 1) 6) Cy)
theorem At3{M:UH}{d f:Nat}{B x:Int}{ps:ah}(D:kq M B)(hB:B<=10000000)(hf:M[f]? = Ξ θ)(hfd:f≠d)(hs:ps.length<=100)(hw:∀ p∈ps,ni)(x1 x2 x3 x5 x7:az) :
  ∃ (x':Int) (M':UH),pt6 [dv,x1,x2,x3,mn,x5,χ x,x7] M=ξ (.nx [dv,x1,x2,x3,mn,x5,χ x',x7],M')/\kq M' (B+2)/\Ex d M M':=by
 obtain ⟨b,M1,e1,hb,D1,x1'⟩:=Agh (c:=5) D Ze hf hw Zb Zb (δ:=[dv,x1,x2,x3,mn,x5,χ x,x7]) ZH ZH;cases b with
 | false=>
  refine ⟨x,M1,?_,D1.mono Ze,x1'⟩;unfold pt6;rw[fIfS_eq,e1];simp only[aA,bS,if_false,Gk]
 | true=>
  obtain ⟨p,M2,e2,D2,x2'⟩:=Ahx D1 Ze (x1'.get hf hfd) hfd (hb rfl) Ze (δ:=[dv,x1,x2,x3,mn,x5,χ x,x7]) ZH ZH;have e2':Acj [dv,x1,x2,x3,mn,x5,χ x,x7] M1=ξ (p3U p,M2):=e2;have hc:Al (p3U p) ip M2=ξ (.int p.2.1,M2):=rfl;refine ⟨p.2.1,M2,?_,D2.mono Ze,x1'.trans x2'⟩;have h1:(gm Al Acj 1) [dv,x1,x2,x3,mn,x5,χ x,x7] M1=ξ (.int p.2.1,M2):=by
   rw[f2_eq,e2'];simp only[aA,fC_eq,hc]
  have s:=C5 (i:=6) h1;simp only[aZ,bA] at s;unfold pt6;rw[fIfS_eq,e1];simp only[aA,if_true];exact s
def pt7:FS:=(Hv (vq B9 (Ad 4) (a7 (Dp (Δ 5 (Δ 6 (df 7)))))))
theorem At8(hf:M[f]? = Ξ θ)(hs:ps.length<=100)(name:Str)(x y:Int)(x0 x1 x2 x3:az) :
  pt7 [x0,x1,x2,x3,mn,bh name,χ x,χ y] M=ξ (.nx [x0,x1,x2,x3,mn,bh name,χ x,χ y],M.set f (.lst ((ps++[(name,x,y)]).map p3U))):=by
 have sm3:∀ x y z:U,small [x,y,z].length=true:=fun _ _ _=>small_of (by show 3<=16777216;decide)
 have t1:(Dp (Δ 5 (Δ 6 (df 7)))) [x0,x1,x2,x3,mn,bh name,χ x,χ y] M=ξ (p3U (name,x,y),M):=by
  simp only[Ha,fCons_eq,fVar_eq,fNil_eq,aY,aP,bD,aD,aA];rw[if_pos (sm3 _ _ _)];rfl
 have ap:=G5 (p3U (name,x,y)) hf (by simp;omega);have hm:θ++[p3U (name,x,y)]=(ps++[(name,x,y)]).map p3U:=Za
 rw[hm] at ap;have ty:=Ia hf;unfold pt7;rw[Hf,fMeth_eq];simp only[fVar_eq,aY,aP,bD,aD,aA,ty,if_true];rw[fCons_eq,t1];simp only[aA,fNil_eq,aD,ap]
variable {i j:Nat}{u v:U}{L':UH}
theorem So{f:FN}{w:U}(h:Ad i δ L=ξ (u,L))(h2:Ad j δ L=ξ (w,L))(e:f [u,w] L=ξ (v,L')):(ay 2 f i (df j)) δ L=ξ (v,L'):=by
 rw[fOwn_eq,fCons_eq,h];simp only[aA,fCons_eq,h2,fNil_eq,aD,aR,bG,if_true,e]
theorem Acb{M:UH}{d f:Nat}{B kind way:Int}{ps:ah}(D:kq M B)(hB:B<=1000000)(hf:M[f]? = Ξ θ)(hfd:f≠d)(hs:ps.length<=99)(hw:∀ p∈ps,ni)(hk:kind=0\/kind=1\/kind=2)(name:Str)(x1 x6 x7:az) :
  ∃ (y6 y7:az) (x y:Int) (M':UH),Gx [dv,x1,ph,n6,mn,bh name,x6,x7] M=ξ (.nx [dv,x1,ph,n6,mn,bh name,y6,y7],M')/\kq M' (B+11)/\M'[f]? = Ξ ((ps++[(name,x,y)]).map p3U)/\(∀ L,Ex d L M->L.length<=f->Ex d L M')/\(∀ n o,n≠d->n≠f->M[n]? = ao->M'[n]? = ao):=by
 obtain ⟨x,M1,e1,D1,z1⟩:=X9 D Ze hk;have s1:=C5 (i:=6) (So (i:=0) (j:=2) (δ:=[dv,x1,ph,n6,mn,bh name,x6,x7]) rfl rfl e1);obtain ⟨y,M2,e2,D2,z2⟩:=X9 D1 Ze hk;have s2:=C5 (i:=7) (So (i:=0) (j:=2) (δ:=[dv,x1,ph,n6,mn,bh name,χ x,x7]) rfl rfl e2);simp only[aZ,bA] at s1 s2;obtain ⟨y3,M3,s3,D3,z3⟩:=Av6 (way:=way) (x:=x) (y:=y) D2 Ze x1 ph mn (bh name);obtain ⟨y4,s4⟩:=Av8 (M:=M3) (way:=way) (x:=x) (y:=y3) dv x1 ph mn (bh name);have hf3:=z3.get (z2.get (z1.get hf hfd) hfd) hfd;obtain ⟨x5,y5,M5,s5,D5,z5⟩:=Awx (x:=x) (y:=y4) D3 Ze hf3 hfd Ze hw x1 ph n6 (bh name);have hf5:=z5.get hf3 hfd;obtain ⟨x6',M6,s6,D6,z6⟩:=At3 (x:=x5) D5 Ze hf5 hfd Ze hw x1 ph n6 (bh name) (χ y5);have hf6:=z6.get hf5 hfd;have s7:=At8 hf6 Ze name x6' y5 dv x1 ph n6;have zz:=z1.trans (z2.trans (z3.trans (z5.trans z6)));refine ⟨χ x6',χ y5,x6',y5,M6.set f (.lst ((ps++[(name,x6',y5)]).map p3U)),?_,(D6.set hfd _).mono Ze,bL (aI.mp hf6).1,fun L e hL=>(e.trans zz).set hL _,fun n o hn1 hn2 ho=>by rw[bF (eJ hn2)];exact zz.get ho hn1⟩;have hb:Gx=jg (j8 2 D0 (df 2)) 6 (a8 (j8 2 D0 (df 2)) 7) (b9 pt3 pt4 (b9 pt5 pt6 pt7)):=rfl;rw[hb,mf,Ak s2,Ak s3,Ak s4,Ak s5,Ak s6];exact s7
theorem Aj4{most:Nat}(D:kq L B)(hB:B<=100000)(hm:most<=60) :
  ∃ (ps:ah) (L':UH),Iy [.ref d,.int most] L=ξ (el,L')/\ps.length<=most/\(ps.map (·.1)).Nodup/\(∀ p∈ps,ni)/\kq L' (B+1000)/\Ex d L L':=by
 have sm0:small ([]:aa).length=true:=small_of (by show 0<=16777216;decide);obtain ⟨kind,L1,e1,k0,k1,D1,x1⟩:=Dg (many:=3) D Ze Zb Zb;have s1:=C5 (i:=2) (Va (i:=0) (δ:=[dv,χ most,ψ,ψ,ψ,ψ,ψ,ψ]) rfl e1);obtain ⟨way,L2',e2,w0,w1,D2,x2⟩:=Dg (many:=4) D1 Ze Zb Zb;have s2:=C5 (i:=3) (Va (i:=0) (δ:=[dv,χ most,ph,ψ,ψ,ψ,ψ,ψ]) rfl e2);have s3:(a8 mh 4) [dv,χ most,ph,n6,ψ,ψ,ψ,ψ] L2'=ξ (.nx [dv,χ most,ph,n6,η L2'.length,ψ,ψ,ψ],L2'++[fz]):=by
  rw[fAsg_eq,fLst_eq,fNil_eq,aA,if_pos sm0];rfl
 simp only[aZ,bA] at s1 s2;have D3:=D2.new [c7];have hl2:=D2.lt;obtain ⟨m,L4,e4,m0,m1,D4,x4⟩:=Dg (many:=(most:Int)+1) D3 Ze Ze Ze;obtain ⟨n,names,L5,e5,h5,hln,hnod,hlow,D5,x5,hn5⟩:=Aof (many:=m.toNat) D4 Ze Ze;have hmn:((m.toNat:Nat):Int)=m:=Ze
 rw[hmn] at e5;have hle4:=x4.le;have hi:(A7 (j8 2 Ic (a7 (j8 2 A0 (a7 (bz Bd 1 1)))))) [dv,χ most,ph,n6,η L2'.length,ψ,ψ,ψ] (L2'++[fz])=ξ (di,L5):=by
  have v0:Ad 0 [dv,χ most,ph,n6,η L2'.length,ψ,ψ,ψ] (L2'++[fz])=ξ (.ref d,L2'++[fz]):=rfl;have hd:(j8 2 A0 (a7 (bz Bd 1 1))) [dv,χ most,ph,n6,η L2'.length,ψ,ψ,ψ] (L2'++[fz])=ξ (.int m,L4):=by
   rw[fOwn_eq,fCons_eq,v0];simp only[aA,fCons_eq,f2_eq,fC_eq,fVar_eq,fNil_eq,aY,aP,bD,aD,semAdd_int,aR,bG,if_true,e4]
  rw[C2,fOwn_eq,fCons_eq,v0,aA,fCons_eq,hd];simp only[aA,fNil_eq,aD,aR,bG,if_true,e5,Cq (Aj h5)]
 have hk3:kind=0\/kind=1\/kind=2:=Ze
 have hf5:L5[L2'.length]? = Ξ []:=x5.get (x4.get Za Ze) Ze;have hnd:n≠d:=by have:=D4.lt;omega
 have hnf:L2'.length≠n:=by simp at hle4;omega
 obtain ⟨δ',L6,e6,P⟩:=Tn (us:=names.map U.str) (body:=Gx) (g:=gN 5)
  (fun k δ' M=>∃ (y5 y6 y7:az) (ps:ah),δ'=[dv,χ most,ph,n6,η L2'.length,y5,y6,y7]/\M[L2'.length]? = Ξ θ/\ps.length=k/\ps.map (·.1)=names.take k/\k<=names.length/\(∀ p∈ps,ni)/\kq M (B+104+14 * k)/\M[n]? = Ξ (names.map U.str)/\Ex d L2' M)
  hi ⟨ψ,ψ,ψ,[],rfl,by simpa using hf5,rfl,rfl,Ze,Za,D5.mono Ze,h5,(Ex.new d L2' _).trans (x4.trans x5)⟩
  (fun k δ M ⟨_,_,_,_,_,_,_,_,_,_,_,h,_⟩=>Aj h)
  (fun k u δ M hu ⟨y5,y6,y7,ps,hδ,hat,hlk,hpn,hkn,hw,DM,hnm,xM⟩=>by
   subst hδ;rw[aX] at hu;obtain ⟨name,hname,rfl⟩:=aH.mp hu;have hk:=(aI.mp hname).1;have hln60:names.length<=60:=Ze
   have hnlow:=hlow _ (bT hname);obtain ⟨z6,z7,x,y,M',e,D',hat',hx,hkeep⟩:=Acb (way:=way) DM Ze hat Ze Ze hw hk3 name (χ most) y6 y7;exact ⟨[dv,χ most,ph,n6,η L2'.length,bh name,y6,y7],M,rfl,_,M',.inl e,_,_,_,ps++[(name,x,y)],rfl,hat',by simp[hlk],by rw[dF,hpn,eF,hname];rfl,Ze,fun p hp=>by rcases cQ.mp hp with h | h;exact hw p h;rw[bV.mp h];exact hnlow,D'.mono Ze,hkeep n _ hnd (eJ hnf) hnm,hx L2' xM be⟩)
 obtain ⟨y5,y6,y7,ps,hδ,hat,hlk,hpn,hkn,hw,DM,hnm,xM⟩:=P;rw[aL] at hlk hkn DM hpn;rw[gX] at hpn;rw[hδ] at e6;refine ⟨ps,L6,?_,Ze,by rw[hpn];exact hnod,hw,DM.mono Ze,x1.trans (x2.trans xM)⟩
 have t2:Bj [.ref L2'.length] L6=ξ (el,L6):=by simp only[Bj,Aj hat,aD]
 have hb:V7=jg (j8 2 A0 (gf 3)) 2 (a8 (j8 2 A0 (gf 4)) 3) (jg mh 4 (Fu (A7 (j8 2 Ic (a7 (j8 2 A0 (a7 (bz Bd 1 1)))))) (gN 5) Gx) (B0 (gg Bj 4))):=rfl;unfold Iy fnU;simp only[aR,bG,if_true,aQ,bY,bP,gT,fL];rw[hb,mf,Ak s2,Ak s3,Ak e6,fRet_eq,fCall_eq,fCons_eq];simp only[fVar_eq,fNil_eq,aY,aP,bD,aD,aA,t2]
noncomputable def pr(p:Int×Int):U:=.tup [.int p.1,.int p.2]
noncomputable def Bt(p q:Int×Int):Bool:=decide (p.1<=q.1)&&(decide (p.2<=q.2) && !(p.1 == q.1&&(p.2 == q.2&&true)))
theorem Atm(p q:Int×Int)(L:UH):Di (pr p) (pr q) L=ξ (.bl (!(p.1 == q.1&&(p.2 == q.2&&true))),L):=rfl
theorem Aoe{β:Type}(as:ed)(f:β->Bool):mapO toB (as.map fun a=>U.bl (f a))=ξ (as.map f):=by
 induction as with
 | nil=>rfl
 | cons a as ih=>simp[mapO,toB,ih]
variable {n:Nat}
theorem Tu{β:Type}(as:ed)(f:β->Bool)(h:sy=ξ (as.map fun a=>U.bl (f a))):Nq [di] L=ξ (.bl (as.all f),L):=by
 simp[Nq,h,Aoe]
theorem lies_ok(p q:Int×Int)(L:UH):∃ x,Bv [pr p,pr q] L=ξ (.bl (Bt p q),L++x):=by
 have hz:(K8 (Δ 0 (df 1))) [ξ (pr p),ξ (pr q)] L=ξ (.seq ([(p.1,q.1),(p.2,q.2)].map fun a=>.tup [.int a.1,.int a.2]),L):=rfl;obtain ⟨x,e⟩:=Bq (ix:=[ψ,ψ]) (fi:=K8 (Δ 0 (df 1))) (it:=.seq ([(p.1,q.1),(p.2,q.2)].map fun a=>.tup [.int a.1,.int a.2])) (g:=(li 2 0 1)) (tt:=ψ) (fe:=Eg) (δ:=[ξ (pr p),ξ (pr q)]) (L:=L) (L0:=L)
  [(p.1,q.1),(p.2,q.2)] (fun a=>.tup [.int a.1,.int a.2]) Zn (fun a=>.bl (decide (a.1<=a.2))) Z3 hz (by simp[IU.size]) Za ⟨ψ,ψ,rfl⟩
  Z2
  (fun a δ x _ ⟨y,z,hδ⟩=>by
   subst hδ;refine ⟨_,rfl,ik _ _,[],by simp[Gz],fun _=>⟨[],?_⟩⟩;simp[Eg])
 have hf:fP (fun _:Int×Int=>true) [(p.1,q.1),(p.2,q.2)]=[(p.1,q.1),(p.2,q.2)]:=Za
 rw[hf] at e;have q1:Aq (L++x++[HU.lst ([(p.1,q.1),(p.2,q.2)].map fun a=>.bl (decide (a.1<=a.2)))]) (L++x).length=ξ ([(p.1,q.1),(p.2,q.2)].map fun a=>U.bl (decide (a.1<=a.2))):=Aj Za;have ha:=Tu _ _ q1;by_cases h:(!(p.1 == q.1&&(p.2 == q.2&&true)))=true
 ·refine ⟨x++[HU.lst ([(p.1,q.1),(p.2,q.2)].map fun a=>.bl (decide (a.1<=a.2)))],?_⟩;have hb:Bt p q=List.all [(p.1,q.1),(p.2,q.2)] fun a=>decide (a.1<=a.2):=by
   simp only[Bt,h,jH,yE]
  have hn:=Atm p q L;rw[h] at hn;unfold Bv fnU Gy;simp only[aR,bG,if_true,aQ,bY,dA,dH,bB,fRet_eq,Iz,f2_eq,fVar_eq,aP,aY,bD,aD,aA,hn,fCall_eq,fCons_eq,fNil_eq];simp only[aQ,bY] at e ha;rw[hb,<- cM];simp only[e,ha,aD,aA]
 ·have h':(!(p.1 == q.1&&(p.2 == q.2&&true)))=false:=by simpa using h
  refine ⟨[],?_⟩;have hb:Bt p q=false:=by simp only[Bt,h',oO]
  have hn:=Atm p q L;rw[h'] at hn;unfold Bv fnU Gy;simp only[aR,bG,if_true,aQ,bY,dA,dH,bB,fRet_eq,Iz,f2_eq,fVar_eq,aP,aY,bD,aD,aA,hn,hb];simp
theorem Dx(p:P3)(L:UH):Bb [p3U p] L=ξ (oy,L):=by
 have sm2:small (0+1+1)=true:=small_of Zb;have i1:∀ p:P3,Al (p3U p) ip L=ξ (.int p.2.1,L):=fun _=>rfl
 have i2:∀ p:P3,Al (p3U p) (.int 2) L=ξ (.int p.2.2,L):=fun _=>rfl
 unfold Bb fnU P5;simp only[aR,bG,if_true,aQ,bY,dA,dH,bB,fRet_eq,Ha,fCons_eq,fNil_eq,f2_eq,fVar_eq,fC_eq,aP,bD,aD,aA,i1,i2];rw[if_pos sm2];rfl
theorem Azf(p q:Int×Int)(L:UH):By (pr p) (pr q) L=ξ (.bl (p.1 == q.1&&(p.2 == q.2&&true)),L):=rfl
theorem Ad6(p q:P3)(L:UH):Ks [p3U p,p3U q] L=ξ (.bl (Bt p.2 q.2),L):=by
 have c1:(fSl Hi dg (Ey m8) B8) [ke,dh q] L=ξ (oy,L):=rfl;have c2:(fSl Hi dq (Ey m8) B8) [ke,dh q] L=ξ (pr q.2,L):=rfl;have i1:∀ p:P3,Al (p3U p) ip L=ξ (.int p.2.1,L):=fun _=>rfl
 have i2:∀ p:P3,Al (p3U p) (.int 2) L=ξ (.int p.2.2,L):=fun _=>rfl
 have le:∀ i j:Int,Yx ce lw L=ξ (.bl (decide (i<=j)),L):=fun _ _=>rfl
 unfold Ks fnU Yz Bt;simp only[aR,bG,if_true,aQ,bY,dA,dH,bB];rw[fSeq_eq,fIfS_eq,fTest_eq,f2_eq,c1];simp only[aA,c2,Azf];cases (p.2.1 == q.2.1&&(p.2.2 == q.2.2&&true)) with
 | true=>simp only[if_true,fRet_eq,fC_eq,aD,aA,jL,oO]
 | false=>
  simp only[bS,if_false,Gk,aA,fRet_eq,Iz,f2_eq,fVar_eq,fC_eq,aY,aP,bD,aD,i1,i2,le,rY,mS];cases decide (p.2.1<=q.2.1) <;> rfl
def Az0:P3:=("",0,0)
def ptAt(ps:ah)(i:Nat):P3:=ps.getD i Az0
def N2(ps:ah)(a:Int×Int):Ω:=(bx).filter fun j=>Bt a (b7 j).2
noncomputable def ixU(l:Ω):aa:=l.map fun (j:Nat)=>U.int (j:Int)
theorem Aoc(ps:ah):Ko θ=(bx).map fun (i:Nat)=>U.tup [.int (i:Int),p3U pi]:=by
 apply gU
 ·simp[Ko]
 ·intro i h1 h2;have hi:i < ps.length:=by simpa[Ko] using h1
  simp[Ko,ptAt,aE,hi]
theorem Ack(ps:ah)(hl:ps.length<=1000)(p:P3)(L:UH):∃ (r:Nat) (L':UH),Ei [el,p3U p] L=ξ (ig,L')/\L'[r]? = qz (N2 ps p.2)/\om/\L.length<=r:=by
 have s1:=C5 (i:=2) (Gf (i:=1) (δ:=[aq,ke,ψ]) rfl (Dx p L));simp only[aZ,bA] at s1;have hi:(Jx (df 0)) [aq,ke,ξ oy] L=ξ (.seq ((bx).map fun (i:Nat)=>U.tup [.int (i:Int),p3U pi]),L):=by
  rw[<- Aoc];rfl
 obtain ⟨x,e⟩:=Bq (ix:=[ψ,ψ,m6]) (it:=.seq ((bx).map fun (i:Nat)=>U.tup [.int (i:Int),p3U pi])) (g:=(li 2 0 1)) (tt:=ξ Fe) (fe:=K6) (δ:=[aq,ke,ξ oy]) (L:=L) (L0:=L)
  (bx) (fun (i:Nat)=>U.tup [.int (i:Int),p3U pi]) (fun j=>Bt p.2 (b7 j).2) (fun (j:Nat)=>.int (j:Int)) (fun δ=>∃ a b,δ = [a,b,ξ oy]) hi (by simp[IU.size]) (by simp;omega) ⟨ψ,ψ,rfl⟩
  Z2
  (fun j δ x _ ⟨y,z,hδ⟩=>by
   subst hδ;obtain ⟨w,e1⟩:=lies_ok p.2 (b7 j).2 (L++x);refine ⟨[χ (j:Int),dh (b7 j),ξ oy],rfl,ik _ _,w,?_,fun _=>⟨[],?_⟩⟩
   ·show Fe [χ (j:Int),dh (b7 j),ξ oy] (L++x)=_;have hp:=Gf (i:=1) (δ:=[χ (j:Int),dh (b7 j),ξ oy]) rfl (Dx (b7 j) (L++x));have v2:Ad 2 [χ (j:Int),dh (b7 j),ξ oy] (L++x)=ξ (oy,L++x):=rfl;unfold Fe;rw[fTru_eq,fOwn_eq,fCons_eq,v2,aA,fCons_eq,hp];simp only[aA,fNil_eq,aD,aR,bG,if_true,e1,truU_bl]
   ·rw[bB];rfl)
 have hm:((bx).filter fun j=>Bt p.2 (b7 j).2).map Zl=ixU (N2 ps p.2):=rfl;rw[hm] at e;generalize ixU (N2 ps p.2)=us at e;refine ⟨(L++x).length,L++x++[HU.lst us],?_,Za,⟨x++[HU.lst us],by rw[cM]⟩,Za⟩;unfold Ei fnU Pe;simp only[aR,bG,if_true,aQ,bY,bP,gT,fL];rw[mf,fRet_eq,e];simp only[aD,aA]
theorem toI_ints(l:Λ):mapO toI (l.map U.int)=ξ l:=by
 induction l with
 | nil=>rfl
 | cons a r ih=>simp only[aQ,mapO,toI,ih,aA,aD]
noncomputable def Rk(bs:Λ)(js:Ω):Int:=(js.map fun j=>bs.getD j 0).sum
variable {b t:Nat}
theorem Aj7{bs:Λ}{js:Ω}(hb:L[b]? = Ξ (bs.map U.int))(ht:L[t]? = qz js)(hj:∀ j∈js,j < bs.length)(hl:js.length<=1000):∃ L',Qq [gv,.ref t] L=ξ (.int (Rk bs js),L')/\om:=by
 have hbs:=Aj hb;have hts:Aq L t=ξ (js.map fun (j:Nat)=>U.int (j:Int)):=Aj ht;obtain ⟨x,e⟩:=Bq (ix:=[ψ,ij]) (fi:=A7 dq) (it:=.ref t) (g:=d8) (tt:=ψ) (fe:=Oa) (δ:=[vj,η t]) (L:=L) (L0:=L)
  js Zl Zn (fun (j:Nat)=>.int (bs.getD j 0)) (fun δ=>∃ z,δ = [z,vj]) (by simp[Cq hts]) (by rw[Ec hts];simp) Ze ⟨ψ,rfl⟩
  (fun k x=>Hr (B6 hts))
  (fun j δ x hjm ⟨y,hδ⟩=>by
   subst hδ;refine ⟨[χ (j:Int),vj],rfl,jk,[],by simp[Gz],fun _=>⟨[],?_⟩⟩;have hjl:=hj j hjm;have hix:L2.atI (bs.map U.int) (j:Int)=χ (bs.getD j 0):=by
    rw[Ny Ze (by rw[aL];omega),eE,aX,aC hjl];simp[aE,hjl]
   rw[bB,bB];unfold Oa;simp only[f2_eq,fVar_eq,aY,aP,bD,aD,aA,semIx_ref,B6 hbs,hix])
 have hff:fP Zn js=js:=cW.mpr Zg;have hmm:js.map (fun (j:Nat)=>U.int (bs.getD j 0))=(js.map fun j=>bs.getD j 0).map U.int:=Za
 rw[hff,hmm] at e;have q2:Aq (L++x++[HU.lst ZY]) (L++x).length=ξ ZY:=Aj Za;have hs:Ho [.ref (L++x).length] (L++x++[HU.lst ZY])=ξ (.int (Rk bs js),L++x++[HU.lst ZY]):=by
  simp only[Ho,q2,aA,toI_ints,aD,Rk]
 generalize Rk bs js=sm at hs;generalize (js.map fun j=>bs.getD j 0).map U.int=us at e hs;refine ⟨L++x++[HU.lst us],?_,⟨x++[HU.lst us],by rw[cM]⟩⟩;unfold Qq fnU Ac9;simp only[aR,bG,if_true,aQ,bY,dA,dH,bB];rw[fRet_eq,fCall_eq,fCons_eq,e];simp only[aA,fNil_eq,aD,hs]
theorem Aex(ps:ah)(hl:ps.length<=100)(L:UH)(x1 x2 x3:az):∃ (r:Nat) (rs:Ω) (L':UH),Bg [ψ,ij] (A7 dg) d8 ψ Dk [aq,x1,x2,x3] L=ξ (ig,L')/\L'[r]? = Ξ f9/\rs.length=ps.length/\(∀ (i ρ:Nat),rs[i]? = ξ ρ->L'[ρ]? = ξ (HU.lst (ixU (N2 ps (pi).2))))/\om:=by
 have hi:A7 dg [aq,x1,x2,x3] L=ξ (.seq θ,L):=by simp[Qo]
 obtain ⟨us,δ',M',e,⟨z,hδ⟩,rs,hrs,hlr,hat,gM⟩:=Agk (ix:=[ψ,ij]) (it:=.seq θ) (g:=d8) (tt:=ψ) (fe:=Dk) (us:=θ) (δ:=[aq,x1,x2,x3]) (L:=L) (L0:=L)
   (fun k acc δ' (M:UH)=>(∃ z,δ'=[z,aq])/\∃ (rs:Ω),acc=f9/\rs.length=k/\(∀ (i ρ:Nat),rs[i]? = ξ ρ->M[ρ]? = ξ (HU.lst (ixU (N2 ps (pi).2))))/\Gw L M)
   hi (by simp[IU.size]) ⟨⟨ψ,rfl⟩,[],rfl,rfl,Za,Gw.refl L⟩
   (fun k acc δ L _ _=>rfl)
   (fun k u acc δ M hu ⟨⟨z,hδ⟩,rs,hrs,hlr,hat,gM⟩=>by
    subst hδ;rw[aX] at hu;obtain ⟨p,hp,rfl⟩:=aH.mp hu;have hk:=(aI.mp hp).1;have hpk:b7 k=p:=by unfold ptAt;rw[aE,hp];rfl
    obtain ⟨r,M',e1,h1,g1,_⟩:=Ack ps Ze p M;have ha:acc.length < 16777216:=by rw[hrs,aL,hlr];omega
    refine ⟨[ke,aq],M,rfl,true,M,rfl,fun _=>⟨ig,M',?_,ha,jk,rs++[r],by simp[hrs],by simp[hlr],?_,gM.trans g1⟩,fun h=>by cases h⟩
    ·unfold Dk;exact So (i:=1) (j:=0) rfl rfl e1
    ·intro i ρ hρ;by_cases hi:i < rs.length
     ·rw[bH hi] at hρ;exact g1.get (hat i ρ hρ)
     ·have hik:i=k:=by
       have:=(aI.mp hρ).1;simp at this;omega
      subst hik;rw[bX Ze,hlr,dA] at hρ;cases hρ;rw[hpk];exact h1)
 rw[aL] at hlr;exact ⟨_,rs,_,e,by rw[hrs];simp,hlr,fun i ρ hρ=>(cc M').get (hat i ρ hρ),gM.trans gl⟩
theorem Uw{a b c:Int×Int}(h1:Bt a b=true)(h2:Bt b c=true):Bt a c=true:=by
 simp only[Bt,mS,cB,lR,jZ,beq_eq_false_iff_ne,decide_eq_true_eq] at h1 h2 ⊢;obtain ⟨a1,a2,a3⟩:=h1;obtain ⟨b1,b2,b3⟩:=h2;refine ⟨Ze,Ze,?_⟩;rcases a3 with h | h
 ·left;intro e;omega
 ·right;intro e;omega
theorem Abk(a:Int×Int):Bt a a=false:=by
 simp[Bt]
theorem Aim{β:Type}{p q:β->Bool}(l:ed)(h:∀ x∈l,p x=true->q x=true):(l.filter p).length<=(l.filter q).length:=by
 induction l with
 | nil=>simp
 | cons a l ih=>
  have ih':=ih (fun x hx=>h x vn);have ha:=h a (aS ..);cases hp:p a with
  | true=>
   rw[eD hp,eD (ha hp),aR,aR];omega
  | false=>
   rw[fR (by simp[hp])];cases hq:q a with
   | true=>rw[eD hq,aR];omega
   | false=>rw[fR (by simp[hq])];exact ih'
theorem Om{β:Type}{p q:β->Bool}:∀ (l:ed),(∀ x∈l,p x=true->q x=true)->(∃ x∈l,q x=true/\p x=false)->(l.filter p).length < (l.filter q).length
 | [],_,h=>by obtain ⟨x,hx,_⟩:=h;cases hx
 | a::l,h,hx=>by
  have h':∀ x∈l,p x=true->q x=true:=fun x hx=>h x vn
  have ha:=h a (aS ..);obtain ⟨x,hx,hq,hp⟩:=hx;rcases bE.mp hx with rfl | hx
  ·rw[fR (by simp[hp]),eD hq,aR];have:=Aim l h';omega
  ·have ih:=Om l h' ⟨x,hx,hq,hp⟩;cases hpa:p a with
   | true=>rw[eD hpa,eD (ha hpa),aR,aR];omega
   | false=>
    rw[fR (by simp[hpa])];cases hqa:q a with
    | true=>rw[eD hqa,aR];omega
    | false=>rw[fR (by simp[hqa])];exact ih
theorem Apd{a:Int×Int}(h:j∈N2 ps a):(N2 ps (b7 j).2).length < (N2 ps a).length:=by
 have hj:=bZ.mp h;exact Om _ (fun x _ hx=>Uw hj.2 hx) ⟨j,hj.1,hj.2,Abk _⟩
theorem Ac2{a:Int×Int}(h:j∈N2 ps a):j < ps.length:=bM.mp (bZ.mp h).1
theorem Acl(ps:ah)(a:Int×Int):(N2 ps a).length<=ps.length:=by
 have:=gP (fun j=>Bt a (b7 j).2) bx;simpa[N2] using this
def bg(ps:ah):Nat->List Int
 | 0=>bP ps.length 1
 | t+1=>(bx).map fun i=>Rk (qi t) (N2 ps (pi).2)
theorem Wh(ps:ah)(t:Nat):(qi t).length=ps.length:=by
 cases t <;> simp[bg]
theorem Atv(h:i < ps.length):(qi (t+1)).getD i 0=Rk (qi t) (N2 ps (pi).2):=by
 simp[bg,aE,h]
theorem Adz:∀ l:Λ,(∀ x∈l,x=0)->l.sum=0
 | [],_=>rfl
 | a::l,h=>by
  rw[jI,h a (aS ..),Adz l (fun x hx=>h x vn)];rfl
theorem Ana(ps:ah):∀ (t i:Nat),i < ps.length->(N2 ps (pi).2).length < t->(qi t).getD i 0=0
 | 0,i,_,h=>by omega
 | t+1,i,hi,h=>by
  rw[Atv hi];unfold Rk;refine Adz _ fun x hx=>?_
  obtain ⟨j,hj,rfl⟩:=bK.mp hx;exact Ana ps t j (Ac2 hj) (by have:=Apd hj;omega)
theorem Apm(ps:ah):(qi (ps.length+1)).any (fun n=>!(n == 0))=false:=by
 rw[oZ];intro x hx;obtain ⟨i,hi,rfl⟩:=dE hx;have hi':i < ps.length:=by rw[Wh] at hi;exact hi
 have:=Ana ps (ps.length+1) i hi' (by have:=Acl ps (pi).2;omega);rw[aE,km] at this;simpa using this
theorem X2{c:FT}{body:FS}{N:Nat}{P:Nat->UE->UH->Prop}{Q:UE->UH->Prop}
  (hgo:∀ k δ L,k < N->P k δ L->∃ L1,c δ L=ξ (true,L1)/\∃ δ2 M2,body δ L1=ξ (.nx δ2,M2)/\P (k+1) δ2 M2)
  (hend:∀ δ L,P N δ L->∃ L1,c δ L=ξ (false,L1)/\Q δ L1):∀ (f k m:Nat) (δ:UE) (L:UH),k+f=N->f < m->P k δ L->∃ δ' L',Dz c body m δ L=ξ (.nx δ',L')/\Q δ' L'
 | 0,k,m+1,δ,L,hk,hm,h=>by
  have:k=N:=Ze
  subst this;obtain ⟨L1,e1,q⟩:=hend δ L h;refine ⟨δ,L1,?_,q⟩;unfold Dz;simp only[e1,aA,bS,if_false]
 | f+1,k,m+1,δ,L,hk,hm,h=>by
  obtain ⟨L1,e1,δ2,M2,e2,h2⟩:=hgo k δ L Ze h;obtain ⟨δ',L',e3,q⟩:=X2 hgo hend f (k+1) m δ2 M2 Ze Ze h2;refine ⟨δ',L',?_,q⟩;unfold Dz;simp only[e1,aA,if_true,e2,e3]
theorem Ss(b:Nat->Bool):∀ n,b n=false->∃ T,T<=n/\b T=false/\∀ t,t < T->b t=true
 | 0,h=>⟨0,be,h,fun t ht=>by omega⟩
 | n+1,h=>by
  by_cases hx:∃ t,t<=n/\b t=false
  ·obtain ⟨t,ht,hb⟩:=hx;obtain ⟨T,hT,h1,h2⟩:=Ss b t hb;exact ⟨T,Ze,h1,h2⟩
  ·refine ⟨n+1,be,h,fun t ht=>?_⟩;cases hb:b t with
   | true=>rfl
   | false=>exact absurd ⟨t,Ze,hb⟩ hx
def Kw(ps:ah)(T:Nat):Λ:=(bJ T).map fun t=>(qi t).sum
def Hh(ps:ah)(t:Nat):Bool:=(qi t).any fun n=>!(n == 0)
structure Ab(M:UH)(A n:Nat)(rs:Ω)(ps:ah):Prop where
 hA:M[A]? = Ξ f9
 hl:rs.length=ps.length
 at_:∀ (i ρ:Nat),rs[i]? = ξ ρ->M[ρ]? = ξ (HU.lst (ixU (N2 ps (pi).2)))
 An:A < n
 rn:∀ (i ρ:Nat),rs[i]? = ξ ρ->ρ < n
variable {M':UH}{A:Nat}{rs:Ω}
theorem Ab.gw(h:Ab M A n rs ps)(g:Gw M M'):Ab M' A n rs ps:=⟨g.get h.hA,h.hl,fun i ρ e=>g.get (h.at_ i ρ e),h.An,h.rn⟩
theorem Ab.set(h:Ab M A n rs ps)(o:HU):Ab (M.set n o) A n rs ps:=
 ⟨by rw[bF (by have:=h.An;omega)];exact h.hA,h.hl,fun i ρ e=>by rw[bF (by have:=h.rn i ρ e;omega)];exact h.at_ i ρ e,h.An,h.rn⟩
variable {k:Nat}
theorem Afz(h:Ab M A n rs ps)(hb:M[b]? = Ξ ((qi k).map U.int))(hn:ps.length<=100)(x0 x3:az) :
  ∃ (r:Nat) (M':UH),Bg [ψ,m6] (A7 dq) d8 ψ Dj [x0,η A,vj,x3] M=ξ (ig,M')/\M'[r]? = Ξ ((qi (k+1)).map U.int)/\Gw M M'/\M.length<=r:=by
 have hrr:f9=(bx).map fun i=>U.ref (rs.getD i 0):=by
  apply gU
  ·simp[h.hl]
  ·intro i h1 h2;have hi:i < rs.length:=by simpa using h1
   simp[aE,hi]
 have hs:Aq M A=ξ ((bx).map fun i=>U.ref (rs.getD i 0)):=by rw[<- hrr];exact Aj h.hA
 obtain ⟨x,e⟩:=Bq (ix:=[ψ,m6]) (fi:=A7 dq) (it:=.ref A) (g:=d8) (tt:=ψ) (fe:=Dj) (δ:=[x0,η A,vj,x3]) (L:=M) (L0:=M)
  (bx) (fun i=>U.ref (rs.getD i 0)) Zn (fun i=>.int (Rk (qi k) (N2 ps (pi).2))) (fun δ=>∃ z,δ = [z,vj]) (by simp[Cq hs]) (by rw[Ec hs];simp) (by simp;omega) ⟨ψ,rfl⟩
  (fun k x=>Hr (B6 hs))
  (fun i δ x hi ⟨y,hδ⟩=>by
   subst hδ;have hil:=bM.mp hi;have hg:rs[i]? = ξ (rs.getD i 0):=by
    have:i < rs.length:=by rw[h.hl];exact hil
    simp[aE,this]
   have hat:=h.at_ i _ hg;obtain ⟨M',e1,z,hz⟩:=Aj7 (L:=M++x) ((Gw.new M x).get hb) ((Gw.new M x).get hat) (fun j hj=>by rw[Wh];exact Ac2 hj) (by have:=Acl ps (pi).2;omega);rw[hz] at e1;refine ⟨[η (rs.getD i 0),vj],rfl,jk,[],by simp[Gz],fun _=>⟨z,?_⟩⟩;rw[bB];unfold Dj;exact So (i:=1) (j:=0) rfl rfl e1)
 have hff:fP Zn bx=bx:=cW.mpr Zg;have hmm:(bx).map (fun i=>U.int (Rk (qi k) (N2 ps (pi).2)))=(qi (k+1)).map U.int:=by simp[bg]
 rw[hff,hmm] at e;exact ⟨_,_,e,Za,⟨x++[HU.lst ((qi (k+1)).map U.int)],by rw[cM]⟩,Za⟩
theorem Aou{bs:Λ}(h:L[b]? = Ξ (bs.map U.int)):T8 [gv] L=ξ (.bl (bs.any fun n=>!(n == 0)),L):=by
 simp only[T8,Aj h,aA,toI_ints,aD]
theorem told_step(ps:ah)(k:Nat):Kw ps (k+1)=Kw ps k++[(qi k).sum]:=by
 unfold Kw;rw[qX];simp
theorem each_ok(ps:ah)(hn:ps.length<=100)(L:UH):∃ (T:Nat) (L':UH),B7 [el] L=ξ (.tup ((Kw ps T).map U.int),L')/\T<=ps.length+1/\Hh ps T=false/\(∀ t,t < T->Hh ps t=true)/\om:=by
 obtain ⟨T,hT,h1,h2⟩:=Ss (Hh ps) (ps.length+1) (Apm ps);have sm0:small ([]:aa).length=true:=small_of (by show 0<=16777216;decide);have sm1:∀ x:U,small [x].length=true:=fun _=>small_of (by show 1<=16777216;decide)
 obtain ⟨A,rs,L1,e1,hA,hlr,hat,g1⟩:=Aex ps hn L ψ ψ ψ;have s1:=C5 (i:=1) e1;simp only[aZ,bA] at s1;have hl1:(Cw (gf 1)) [aq,η A,ψ,ψ] L1=ξ (.ref L1.length,L1++[.lst [ip]]):=by
  simp only[fLst_eq,fCons_eq,fC_eq,fNil_eq,aA,aD];rw[if_pos (sm1 _)]
 have q1:(L1++[HU.lst [ip]])[L1.length]? = Ξ [ip]:=Za
 have hlen:Bc [el] (L1++[HU.lst [ip]])=ξ (.int ps.length,L1++[HU.lst [ip]]):=by simp[Bc,lenU]
 have hrep:(bP ((ps.length:Int)).toNat [U.int 1]).flatten=(qi 0).map U.int:=by
  rw[eE];show _=(bP ps.length (1:Int)).map U.int;generalize ps.length=k;induction k with
  | zero=>rfl
  | succ k ih=>rw[eO,eQ,ih,eO];rfl
 have hmul:Br (.ref L1.length) (.int ps.length) (L1++[.lst [ip]])=ξ (.ref (L1++[HU.lst [ip]]).length,L1++[.lst [ip]]++[.lst ((qi 0).map U.int)]):=by
  rw[<- hrep];unfold Br;simp only[Fj q1,aA];rw[if_pos ⟨Ze,Ze,small_of (by simp;omega)⟩]
 have h2':(f2 Br (Cw (gf 1)) (gg Bc 0)) [aq,η A,ψ,ψ] L1=ξ (.ref (L1++[HU.lst [ip]]).length,L1++[.lst [ip]]++[.lst ((qi 0).map U.int)]):=by
  rw[f2_eq,hl1];simp only[aA,fCall_eq,fCons_eq,fVar_eq,fNil_eq,aP,bD,aD,hlen,hmul]
 have s2:=C5 (i:=2) h2';simp only[aZ,bA] at s2;have gM:Gw L1 (L1++[HU.lst [ip]]++[HU.lst ((qi 0).map U.int)]):=(gl).trans gl;have hb0:(L1++[HU.lst [ip]]++[HU.lst ((qi 0).map U.int)])[(L1++[HU.lst [ip]]).length]? = Ξ ((qi 0).map U.int):=Za
 generalize hM:L1++[HU.lst [ip]]++[HU.lst ((qi 0).map U.int)]=M at s2 gM hb0;generalize (L1++[HU.lst [ip]]).length=b0 at s2 hb0;have s3:(a8 mh 3) [aq,η A,η b0,ψ] M=ξ (.nx [aq,η A,η b0,pj],M++[fz]):=by
  rw[fAsg_eq,fLst_eq,fNil_eq,aA,if_pos sm0];rfl
 have hAl:=(aI.mp (gM.get hA)).1;have hbl:=(aI.mp hb0).1;have ab0:Ab (M++[fz]) A M.length rs ps:=⟨(cc M).get (gM.get hA),hlr,fun i ρ h=>(cc M).get (gM.get (hat i ρ h)),hAl,fun i ρ h=>(aI.mp (gM.get (hat i ρ h))).1⟩;obtain ⟨δ',L',e,P⟩:=X2 (c:=Dl) (body:=F8) (N:=T)
  (P:=fun k δ K=>∃ b,δ = [aq,η A,vj,pj]/\Ab K A M.length rs ps/\K[b]? = Ξ ((qi k).map U.int)/\b≠M.length/\K[M.length]? = Ξ ((Kw ps k).map U.int)/\Gw M K/\k<=T)
  (Q:=fun δ K=>∃ b,δ = [aq,η A,vj,pj]/\K[M.length]? = Ξ ((Kw ps T).map U.int)/\Gw M K)
  (fun k δ K hk ⟨b,hδ,ab,hb,hbn,ht,gK,_⟩=>by
   subst hδ;have hany:=Aou hb;have hlv:=h2 k hk;unfold Hh at hlv;rw[hlv] at hany;have hlen2:(Kw ps k).length=k:=by simp[Kw]
   have hsum:Ho [gv] K=ξ (.int (qi k).sum,K):=by simp only[Ho,Aj hb,aA,toI_ints,aD]
   have ap:=G5 (.int (qi k).sum) ht (by rw[aL,hlen2];omega);have hm:(Kw ps k).map U.int++[.int (qi k).sum]=(Kw ps (k+1)).map U.int:=by rw[told_step];simp
   rw[hm] at ap;have ty:=Ia ht;have htl:=(aI.mp ht).1;have ab2:=ab.set (.lst ((Kw ps (k+1)).map U.int));have hb2:(K.set M.length (.lst ((Kw ps (k+1)).map U.int)))[b]? = Ξ ((qi k).map U.int):=by rw[bF (eJ hbn)];exact hb
   obtain ⟨r,K2,e2,hr,g2,hge⟩:=Afz ab2 hb2 hn aq pj;have s:=C5 (i:=2) e2;simp only[aZ,bA] at s;rw[gF] at hge;have d1:(Hv (vq B9 nr (a7 (gg Ho 2)))) [aq,η A,vj,pj] K=ξ (.nx [aq,η A,vj,pj],K.set M.length (.lst ((Kw ps (k+1)).map U.int))):=by
    generalize (qi k).sum=sm at hsum ap;rw[Hf,fMeth_eq];simp only[fVar_eq,aY,aP,bD,aD,aA,ty,if_true,fCons_eq,fCall_eq,fNil_eq,hsum,ap]
   refine ⟨K,?_,[aq,η A,η r,pj],K2,?_,r,rfl,ab2.gw g2,hr,Ze,g2.get (bL htl),(gK.set be _).trans g2,Ze⟩
   ·unfold Dl;simp only[fTru_eq,fCall_eq,fCons_eq,fVar_eq,fNil_eq,aY,aP,bD,aD,aA,hany,truU_bl]
   ·unfold F8;rw[Ak d1,s])
  (fun δ K ⟨b,hδ,ab,hb,hbn,ht,gK,_⟩=>by
   subst hδ;have hany:=Aou hb;unfold Hh at h1;rw[h1] at hany;refine ⟨K,?_,b,rfl,ht,gK⟩;unfold Dl;simp only[fTru_eq,fCall_eq,fCons_eq,fVar_eq,fNil_eq,aY,aP,bD,aD,aA,hany,truU_bl])
  T 0 100000 [aq,η A,η b0,pj] (M++[fz]) Ze Ze ⟨b0,rfl,ab0,(cc M).get hb0,Ze,by simp[Kw],gl,Ze⟩
 obtain ⟨b,hδ,ht,gK⟩:=P;rw[hδ] at e;have t2:Bj [qr] L'=ξ (.tup ((Kw ps T).map U.int),L'):=by simp only[Bj,Aj ht,aD]
 refine ⟨T,L',?_,hT,h1,h2,(g1.trans gM).trans gK⟩;generalize (Kw ps T).map U.int=tt at t2;unfold B7 fnU Ld;simp only[aR,bG,if_true,aQ,bY,bP,gT,fL];rw[mf,Ak s2,Ak s3,Ak e,fRet_eq,fCall_eq,fCons_eq];simp only[fVar_eq,fNil_eq,aY,aP,bD,aD,aA,t2]
def Ab1(ps:ah)(i j:Nat):Bool:=Bt (pi).2 (b7 j).2
noncomputable def sm(l:Ω)(f:Nat->Int):Int:=(l.map f).sum
variable {l:Ω}
theorem Abx{f g:Nat->Int}(h:∀ x∈l,f x=g x):sm l f=sm l g:=by
 unfold sm;rw[dG h]
theorem sm_cons(a:Nat)(l:Ω)(f:Nat->Int):sm (a::l) f=f a+sm l f:=by simp[sm]
theorem R6(p:Nat->Bool)(f:Nat->Int):∀ l:Ω,sm (l.filter p) f=sm l fun j=>if p j then f j else 0
 | []=>rfl
 | a::l=>by
  have ih:=R6 p f l;cases hp:p a with
  | true=>rw[eD hp,sm_cons,sm_cons,ih];simp[hp]
  | false=>rw[fR (by simp[hp]),sm_cons,ih];simp[hp]
theorem Aaz:∀ l:Ω,sm l (fun _=>0)=0
 | []=>rfl
 | a::l=>by rw[sm_cons,Aaz l];rfl
theorem Ald{f:Nat->Int}:∀ {l:Ω},(∀ x∈l,0<=f x)->0<=sm l f
 | [],_=>mY _
 | a::l,h=>by
  have h1:=h a (aS ..);have h2:=Ald (f:=f) (l:=l) fun x hx=>h x vn
  rw[sm_cons];omega
def bgf(ps:ah)(t i:Nat):Int:=(qi t).getD i 0
theorem Abm(h:i < ps.length):bgf ps 0 i=1:=by simp[bgf,bg,aE,h]
theorem U4(h:i < ps.length):bgf ps (t+1) i=sm bx fun j=>if Ab1 ps i j then bgf ps t j else 0:=by
 unfold bgf;rw[Atv h,<- R6];rfl
theorem Atw(ps:ah)(t:Nat):(qi t).sum=sm bx (bgf ps t):=by
 unfold sm
 congr 1
 apply gU
 ·simp[Wh]
 ·intro i h1 h2;simp[bgf,aE,h1]
theorem Wq(ps:ah):∀ t i,i < ps.length->0<=bgf ps t i
 | 0,i,h=>by rw[Abm h];decide
 | t+1,i,h=>by
  rw[U4 h];exact Ald fun x hx=>by
   split
   ·exact Wq ps t x (bM.mp hx)
   ·exact mY _
theorem Ag9:∀ l:Λ,(∀ x∈l,0<=x)->(∃ x∈l,x≠0)->0 < l.sum
 | [],_,h=>by obtain ⟨x,hx,_⟩:=h;cases hx
 | a::l,hn,h=>by
  have ha:=hn a (aS ..);have hl:0<=l.sum:=by
   have:∀ m:Λ,(∀ x∈m,0<=x)->0<=m.sum:=fun m=>by
    induction m with
    | nil=>intro _;exact mY _
    | cons b m ih=>
     intro h;rw[jI];have h1:=h b (aS ..);have h2:=ih fun x hx=>h x vn
     omega
   exact this l fun x hx=>hn x vn
  rw[jI];obtain ⟨x,hx,h0⟩:=h;rcases bE.mp hx with rfl | hx
  ·omega
  ·have:=Ag9 l (fun x hx=>hn x vn) ⟨x,hx,h0⟩;omega
theorem Aww(h:x∈qi t):∃ i,i < ps.length/\x=bgf ps t i:=by
 obtain ⟨i,hi,rfl⟩:=dE h;have hi':i < ps.length:=by rw[Wh] at hi;exact hi
 exact ⟨i,hi',by simp[bgf,aE,hi]⟩
theorem Aco(h:Hh ps t=true):0 < (qi t).sum:=by
 obtain ⟨x,hx,h0⟩:=iI.mp h;refine Ag9 _ (fun y hy=>?_) ⟨x,hx,by simpa using h0⟩;obtain ⟨i,hi,rfl⟩:=Aww hy;exact Wq ps t i hi
theorem Ahc(h:Hh ps t=false):∀ i,i < ps.length->bgf ps t i=0:=fun i hi=>by
 have:=oZ.mp h (bgf ps t i) (by
  unfold bgf;rw[aE,aC (by rw[Wh];exact hi)];exact cS ..)
 simpa using this
variable {T:Nat}
theorem Ahs(h:Hh ps T=false):∀ d i,i < ps.length->bgf ps (T+d) i=0
 | 0,i,hi=>Ahc h i hi
 | d+1,i,hi=>by
  rw[show T+(d+1)=T+d+1 from rfl,U4 hi];exact (Abx (g:=fun _=>0) fun j hj=>by rw[Ahs h d j (bM.mp hj)];simp).trans (Aaz _)
theorem Aoo(h:Hh ps T=false)(ht:T<=t):(qi t).sum=0:=by
 rw[Atw,<- Aaz bx];refine Abx fun i hi=>?_
 have:=Ahs h (t - T) i (bM.mp hi);rwa [show T+(t - T)=t by omega] at this
theorem Axo(h1:Ab1 ps i j=true)(h2:Ab1 ps j k=true):Ab1 ps i k=true:=Uw h1 h2
theorem Amx(ps:ah)(i:Nat):Ab1 ps i i=false:=Abk _
theorem Ate(l:Ω):∀ u∈ixU l,Pl 6 u:=fun u hu=>by
 obtain ⟨a,_,rfl⟩:=bK.mp hu;exact Pl.int _ _
theorem Sl(h:j < ps.length)(L:UH):Al el (.int (j:Int)) L=ξ (p3U (b7 j),L):=by
 rw[Rw,Ny Ze (by rw[aL];omega),eE,aX,aC h];simp[ptAt,aE,h]
theorem Auy(l:Ω):mapO toV (ixU l)=ξ (l.map fun (j:Nat)=>L2.V.int (j:Int)):=by
 induction l with
 | nil=>rfl
 | cons a l ih=>
  unfold ixU at ih ⊢;simp only[aQ,mapO,toV,ih,aA,aD]
theorem inV_ix(k:Nat)(l:Ω):inV (.int (k:Int)) (l.map fun (j:Nat)=>L2.V.int (j:Int))=l.contains k:=by
 induction l with
 | nil=>rfl
 | cons a l ih=>
  have h1:inV (.int (k:Int)) ((a::l).map fun (j:Nat)=>L2.V.int (j:Int))=(eqV (.int (a:Int)) (.int (k:Int)) || inV (.int (k:Int)) (l.map fun (j:Nat)=>L2.V.int (j:Int))):=rfl;rw[h1,ih,List.contains_cons]
  congr 1
  show ((a:Int) == (k:Int))=(k == a);rw[eV,beq_iff_eq,beq_iff_eq];omega
theorem Am1(kvs:List (Key×U))(k k':Key)(v:U):G0 (Iu kvs k v) k'=if k'=k then ξ v else G0 kvs k':=by
 unfold Iu;by_cases ha:(kvs.any fun kv=>decide (kv.1=k))=true
 ·rw[if_pos ha];induction kvs with
  | nil=>simp at ha
  | cons kv kvs ih=>
   by_cases h1:kv.1=k
   ·by_cases h2:k'=k
    ·subst h2;simp[G0,h1]
    ·have hn:¬ k=k':=fun e=>h2 e.symm
     rw[if_neg h2];by_cases hr:(kvs.any fun kv=>decide (kv.1=k))=true
     ·have:=ih hr;rw[if_neg h2] at this;unfold G0 at this ⊢;rw[aQ,if_pos h1,cU,cU];simp only[h1,hn,decide_false];exact this
     ·have hm:kvs.map (fun kv=>if kv.1=k then (kv.1,v) else kv)=kvs:=by
       conv=>rhs;rw[<- wB kvs]
       refine dG fun a hx=>?_
       have:¬ a.1=k:=fun e=>hr (iI.mpr ⟨a,hx,by simpa using e⟩)
       rw[if_neg this];rfl
      unfold G0;rw[aQ,if_pos h1,hm,cU,cU];simp only[h1,hn,decide_false]
   ·have hr:(kvs.any fun kv=>decide (kv.1=k))=true:=by
     rw[iH] at ha;simpa[h1] using ha
    have:=ih hr;unfold G0 at this ⊢;rw[aQ,if_neg h1,cU,cU];by_cases h3:kv.1=k'
    ·have h2:¬ k'=k:=fun e=>h1 (h3.trans e)
     simp only[h3,decide_true,aD,if_neg h2]
    ·simp only[h3,decide_false];exact this
 ·rw[if_neg ha];unfold G0;rw[List.find?_append];by_cases h2:k'=k
  ·subst h2;have:kvs.find? (fun kv=>decide (kv.1=k'))=ψ:=by
    rw[kZ];intro x hx;simp only[decide_eq_true_eq];exact fun e=>ha (iI.mpr ⟨x,hx,by simpa using e⟩)
   rw[this,jv];simp
  ·have hn:¬ k=k':=fun e=>h2 e.symm
   rw[if_neg h2];cases kvs.find? (fun kv=>decide (kv.1=k')) <;> simp[hn]
theorem Aok(kvs:List (Key×U))(k:Key)(v:U):(Iu kvs k v).length<=kvs.length+1:=by
 unfold Iu;split <;> simp
def abl(ps:ah)(e:Nat):Ω:=(bx).filter (Ab1 ps e)
noncomputable def ixI(l:Ω):Λ:=l.map fun (j:Nat)=>(j:Int)
noncomputable def wS(w:Nat->Int)(c:Ω):Int:=(c.map w).sum
def kl(w:Nat->Int)(a b:Ω):Bool:=if -(wS w a) = -(wS w b) then ltT (ixI a) (ixI b) else decide (-(wS w a) < -(wS w b))
theorem Aav(w:Nat->Int)(i:Nat)(c:Ω):wS w (i::c)=w i+wS w c:=by simp[wS]
theorem Ao6(w:Nat->Int)(i:Nat)(a b:Ω):kl w (i::a) (i::b)=kl w a b:=by
 unfold kl;rw[Aav,Aav];have h1:ltT (ixI (i::a)) (ixI (i::b))=ltT (ixI a) (ixI b):=by simp[ixI,ltT]
 rw[h1];by_cases h:-(wS w a) = -(wS w b)
 ·rw[if_pos h,if_pos Ze]
 ·rw[if_neg h,if_neg Ze]
  congr 1
  rw[eq_iff_iff];omega
variable {a:Ω}
theorem Ark{b:Ω}(h:ixI a=ixI b):a=b:=by
 unfold ixI at h;induction a generalizing b with
 | nil=>cases b with | nil=>rfl | cons _ _=>simp at h
 | cons x a ih=>
  cases b with
  | nil=>simp at h
  | cons y b=>
   simp only[aQ,kX] at h;rw[ih h.2,xT h.1]
variable {w:Nat->Int}
theorem Aqj{b:Ω}(h:kl w a b=true):kl w b a=false:=by
 unfold kl at h ⊢;by_cases e:-(wS w a) = -(wS w b)
 ·rw[if_pos e] at h;rw[if_pos e.symm];exact Ja _ _ h
 ·rw[if_neg e] at h;rw[if_neg (fun z=>e z.symm)];simp only[decide_eq_true_eq,decide_eq_false_iff_not] at h ⊢;omega
variable {c:Ω}
theorem Aeo{b:Ω}(h1:kl w a b=false)(h2:kl w b c=false):kl w a c=false:=by
 unfold kl at h1 h2 ⊢;by_cases e1:-(wS w a) = -(wS w b)
 ·rw[if_pos e1] at h1;by_cases e2:-(wS w b) = -(wS w c)
  ·rw[if_pos e2] at h2;rw[if_pos (e1.trans e2)];exact Rm _ _ _ h2 h1
  ·rw[if_neg e2] at h2;rw[if_neg Ze];simp only[decide_eq_false_iff_not] at h2 ⊢;omega
 ·rw[if_neg e1] at h1;simp only[decide_eq_false_iff_not] at h1;by_cases e2:-(wS w b) = -(wS w c)
  ·rw[if_neg Ze];simp only[decide_eq_false_iff_not];omega
  ·rw[if_neg e2] at h2;simp only[decide_eq_false_iff_not] at h2;rw[if_neg Ze];simp only[decide_eq_false_iff_not];omega
theorem Arz{b:Ω}(h1:kl w a b=false)(h2:kl w b a=false):a=b:=by
 unfold kl at h1 h2;by_cases e:-(wS w a) = -(wS w b)
 ·rw[if_pos e] at h1;rw[if_pos e.symm] at h2;exact Ark (Ud _ _ h1 h2)
 ·rw[if_neg e] at h1;rw[if_neg (fun z=>e z.symm)] at h2;simp only[decide_eq_false_iff_not] at h1 h2;omega
def Bst(P:Ω->Prop)(w:Nat->Int)(c:Ω):Prop:=P c/\∀ d,P d->kl w d c=false
theorem Bst.uniq{P:Ω->Prop}{d:Ω}(h1:Bst P w c)(h2:Bst P w d):c=d:=Arz (h2.2 c h1.1) (h1.2 d h2.1)
def IsC(ps:ah):Ω->Prop
 | []=>False
 | [i]=>i < ps.length
 | i::j::r=>i < ps.length/\Ab1 ps i j=true/\IsC ps (j::r)
def Aa8(ps:ah)(i:Nat)(c:Ω):Prop:=IsC ps c/\c.head? = ξ i
theorem IsC.head(h:IsC ps (i::c)):i < ps.length:=by
 cases c with
 | nil=>exact h
 | cons j r=>exact h.1
theorem IsC.ex(h:IsC ps c):∃ i r,c=i::r:=by
 cases c with
 | nil=>exact h.elim
 | cons i r=>exact ⟨i,r,rfl⟩
theorem Ami{b:Nat->Ω}{r:Ω}(hi:i < ps.length)(hb:∀ j∈sw i,Bst (Aa8 ps j) w (b j))(hr:r=[]\/∃ j∈sw i,r=b j)(h0:kl w [] r=false)(h1:∀ j∈sw i,kl w (b j) r=false) :
  Bst (Aa8 ps i) w (i::r):=by
 refine ⟨⟨?_,rfl⟩,fun d hd=>?_⟩
 ·rcases hr with rfl | ⟨j,hj,rfl⟩
  ·exact hi
  ·obtain ⟨⟨hc,hh⟩,_⟩:=hb j hj;obtain ⟨k,t,e⟩:=hc.ex;rw[e] at hc hh ⊢;cases hh;exact ⟨hi,(bZ.mp hj).2,hc⟩
 ·obtain ⟨hc,hh⟩:=hd;obtain ⟨k,t,e⟩:=hc.ex;rw[e] at hc hh ⊢;cases hh;rw[Ao6];cases t with
  | nil=>exact h0
  | cons j t=>
   have hj:j∈sw i:=bZ.mpr ⟨bM.mpr hc.2.2.head,hc.2.1⟩;exact Aeo ((hb j hj).2 _ ⟨hc.2.2,rfl⟩) (h1 j hj)
theorem Aoz{b:Nat->Ω}(hk:k < ps.length)(hb:∀ i,i < ps.length->Bst (Aa8 ps i) w (b i))(h:∀ i,i < ps.length->kl w (b i) (b k)=false):Bst (IsC ps) w (b k):=by
 refine ⟨(hb k hk).1.1,fun d hd=>?_⟩;obtain ⟨i,t,e⟩:=hd.ex;have hi:i < ps.length:=by rw[e] at hd;exact hd.head
 exact Aeo ((hb i hi).2 d ⟨hd,by rw[e];rfl⟩) (h i hi)
theorem Ada{bt:Nat->Nat->Bool}(asy:∀ i j,bt i j=true->bt j i=false)(ntr:∀ i j k,bt i j=false->bt j k=false->bt i k=false):∀ (m j:Nat),j<=m->bt j (Cv bt m)=false
 | 0,j,h=>by
  have:j=0:=Ze
  subst this;show bt 0 0=false;cases e:bt 0 0 with
  | false=>rfl
  | true=>rw[<- e];exact asy _ _ e
 | m+1,j,h=>by
  unfold Cv;have ih:=Ada asy ntr m;split
  ·rename_i hb;by_cases hj:j=m+1
   ·subst hj;cases e:bt (m+1) (m+1) with
    | false=>rfl
    | true=>rw[<- e];exact asy _ _ e
   ·exact ntr _ _ _ (ih j Ze) (asy _ _ hb)
  ·rename_i hb;by_cases hj:j=m+1
   ·subst hj;simpa using hb
   ·exact ih j Ze
theorem Aun(l:Ω):mapO toI (ixU l)=ξ (ixI l):=by
 induction l with
 | nil=>rfl
 | cons a l ih=>
  unfold ixU ixI at ih ⊢;simp only[aQ,mapO,toI,ih,aA,aD]
theorem Auv{β:Type}(cs:ed)(key:β->U)(lt:β->β->Bool)(hne:cs≠[])(hlt:∀ a∈cs,∀ b∈cs,ltU (key a) (key b)=ξ (lt a b))(asy:∀ a b,lt a b=true->lt b a=false)(ntr:∀ a b c,lt a b=false->lt b c=false->lt a c=false) :
  Agu mt=true/\∃ c,cs[N0 mt]? = ξ c/\∀ d∈cs,lt d c=false:=by
 have hpos:0 < cs.length:=gD.mpr hne;refine ⟨?_,?_⟩
 ·unfold Agu;rw[bO];intro x hx;obtain ⟨a,ha,rfl⟩:=bK.mp hx;rw[bO];intro y hy;obtain ⟨b,hb,rfl⟩:=bK.mp hy;rw[hlt a ha b hb];rfl
 ·have hle:=Sd (fun i j=>(ltU ((mt).getD i .non) ((mt).getD j .non)).getD false) ((mt).length - 1);have hmi:N0 mt < cs.length:=by
   unfold N0;rw[aL] at hle ⊢;omega
  refine ⟨cs[N0 mt],aC hmi,fun d hd=>?_⟩
  let at_:Nat->β:=fun i=>cs.getD i cs[0]
  have hat:∀ i,at_ i∈cs:=fun i=>by
   show cs.getD i cs[0]∈cs;rw[aE];by_cases h:i < cs.length
   ·rw[aC h];exact cS h
   ·rw[cN Ze];exact cS hpos
  have hbt:∀ i j,i < cs.length->j < cs.length->(ltU ((mt).getD i .non) ((mt).getD j .non)).getD false=lt (at_ i) (at_ j):=fun i j hi hj=>by
   have e:∀ i,i < cs.length->(mt).getD i .non=key (at_ i):=fun i hi=>by
    show _=key (cs.getD i cs[0]);rw[aE,aX,km,aE,km];rfl
   rw[e i hi,e j hj,hlt _ (hat i) _ (hat j)];rfl
  have hcong:∀ m,m < cs.length->Cv (fun i j=>(ltU ((mt).getD i .non) ((mt).getD j .non)).getD false) m=Cv Z0 m:=by
   intro m;induction m with
   | zero=>intro _;rfl
   | succ m ih=>
    intro hm;unfold Cv;rw[ih Ze];have hb:=Sd Z0 m;rw[hbt (m+1) _ hm Ze]
  obtain ⟨k,hk,rfl⟩:=dE hd;have hmin:=Ada (bt:=fun i j=>lt (at_ i) (at_ j)) (fun i j h=>asy _ _ h) (fun i j k h1 h2=>ntr _ _ _ h1 h2) (cs.length - 1) k Ze;have e1:at_ k=cs[k]:=by show cs.getD k cs[0]=_;rw[aE,aC hk];rfl
  have e2:at_ (Cv Z0 (cs.length - 1))=cs[N0 mt]:=by
   have:N0 mt=Cv Z0 (cs.length - 1):=by
    unfold N0;rw[aL];exact hcong _ Ze
   show cs.getD _ cs[0]=_;rw[aE];have hlt2:Cv Z0 (cs.length - 1) < cs.length:=by rw[<- this];exact hmi
   rw[aC hlt2];simp only[gQ]
   congr 1
   exact this.symm
  rw[e1,e2] at hmin;exact hmin
def pU(w:Nat->Int)(c:Ω):U:=.tup [.int (wS w c),.tup (ixU c)]
def kU(w:Nat->Int)(c:Ω):U:=.tup [.int (-(wS w c)),.tup (ixU c)]
theorem Axr(w:Nat->Int)(a b:Ω):ltU (kU w a) (kU w b)=ξ (kl w a b):=by
 unfold kU ltU kl;simp only[Aun,aA,aD]
theorem Axv(w:Nat->Int)(c:Ω)(δ:UE)(L:UH):Oy [ψ] Cc δ L (pU w c)=ξ (kU w c):=by
 have sm2:∀ x y:U,small [x,y].length=true:=fun _ _=>small_of (by show 2<=16777216;decide)
 refine Ag0 ?_;have i0:Al (pU w c) (.int 0) L=ξ (.int (wS w c),L):=rfl;have i1:Al (pU w c) ip L=ξ (.tup (ixU c),L):=rfl;have hd:Abn [ψ] (pU w c) δ = [ξ (pU w c)]:=rfl;rw[hd];unfold Cc;generalize pU w c=u at i0 i1;simp only[Ha,fCons_eq,Ag6,f2_eq,fVar_eq,fC_eq,fNil_eq,aP,bD,aD,aA,i0,i1];rw[if_pos (sm2 _ _)];rfl
theorem Ng{β γ δ:Type}{f:γ->Option δ}{g:β->γ}{h:β->δ}(e:∀ b,f (g b)=ξ (h b)):∀ l:ed,mapO f (l.map g)=ξ (l.map h)
 | []=>rfl
 | b::l=>by simp only[aQ,mapO,e,Ng e l,aA,aD]
theorem Asw{cs:List Ω}(h:L[n]? = Ξ (cs.map (pU w)))(hne:cs≠[]):∃ c,c∈cs/\Dm [di] L=ξ (pU w c,L)/\∀ d∈cs,kl w d c=false:=by
 obtain ⟨hall,c,hc,hmin⟩:=Auv cs (kU w) (kl w) hne (fun a _ b _=>Axr w a b) (fun a b h=>Aqj h) (fun a b c h1 h2=>Aeo h1 h2);refine ⟨c,bT hc,?_,hmin⟩;have hs:=Aj h;have hk:=Ng (f:=Oy [ψ] Cc [η n] L) (g:=pU w) (h:=kU w) (fun c=>Axv w c _ L) cs;have hg:(cs.map (pU w)).getD (N0 (cs.map (kU w))) .non=pU w c:=by
  rw[aE,aX,hc];rfl
 have hpos:0 < (cs.map (pU w)).length:=by rw[aL];exact gD.mpr hne
 have e:(Q4 [ψ] Cc dg) [η n] L=ξ (pU w c,L):=by
  unfold Q4;simp only[fVar_eq,aP,bD,aD,aA,hs,hk];rw[if_pos ⟨hpos,hall⟩,hg]
 unfold Dm fnU Li;simp only[aR,bG,if_true,aQ,bY,dA,dH,bB,fRet_eq,e,aD,aA]
theorem Ac4{lt:Nat->Nat->Bool}(W:SO.Wo lt)(n:Nat):(SO.Cr lt n).Pairwise (SO.Le lt):=by
 unfold SO.Cr;split
 ·rename_i h;match n,h with
  | 0,_=>exact .nil
  | 1,_=>simp[qX]
 ·rename_i h;obtain ⟨hp,hu⟩:=(SO.Tf (n:=n) W Ze).holds;refine cK.mpr fun i j hi hj hij=>?_
  have h:=hu i j Ze (by rw[<- hp.size];simpa using hj);unfold SO.at0 at h;rw[cI,cI] at h;simp only[cR] at hi hj;rw[iU hi,iU hj] at h;simpa using h
noncomputable def kyI(p:Int×Int):Λ:=[p.1,p.2]
def kys(ps:ah):lr:=(bx).map fun i=>kyI (pi).2
def Rq(ps:ah):Ω:=SO.Cr (ltK (kys ps).reverse) ps.length
def Dv(ps:ah):Ω:=((Rq ps).map fun i=>ps.length - 1 - i).reverse
theorem E7(ps:ah):(Rq ps).Perm bx:=SO.Gb (Ij _)
theorem Kp(ps:ah):k∈ji↔k < ps.length:=by
 unfold Dv;rw[List.mem_reverse,bK];constructor
 ·rintro ⟨i,hi,rfl⟩;have:=bM.mp ((E7 ps).mem_iff.mp hi);omega
 ·intro hk;exact ⟨ps.length - 1 - k,(E7 ps).mem_iff.mpr (bM.mpr Ze),Ze⟩
theorem Uk(ps:ah):(ji).length=ps.length:=by
 unfold Dv;rw[sF,aL,(E7 ps).length_eq,dD]
theorem Ae5(ps:ah):(ji).Nodup:=by
 unfold Dv;rw[fX,List.pairwise_reverse];have hnd:(Rq ps).Nodup:=(E7 ps).nodup_iff.mpr List.nodup_range;have hlt:∀ i∈Rq ps,i < ps.length:=fun i hi=>bM.mp ((E7 ps).mem_iff.mp hi)
 rw[fY];rw[fX] at hnd;refine kR (fun {a b} ha hb hab=>?_) hnd;have:=hlt a ha;have:=hlt b hb;omega
theorem Aom(h:Ab1 ps i j=true):ltT (kyI (pi).2) (kyI (b7 j).2)=true:=by
 unfold Ab1 Bt at h;simp only[mS,cB,lR,jZ,beq_eq_false_iff_ne,decide_eq_true_eq] at h;obtain ⟨h1,h2,h3⟩:=h;unfold kyI ltT;by_cases e:(pi).2.1=(b7 j).2.1
 ·rw[if_pos (by simpa using e)];unfold ltT;have e2:(pi).2.2≠(b7 j).2.2:=by rcases h3 with q | q;exact absurd e q;exact q
  rw[if_neg (by simpa using e2)];exact decide_eq_true Ze
 ·rw[if_neg (by simpa using e)];exact decide_eq_true Ze
theorem Ago(h:i < ps.length):(kys ps).reverse.getD i []=kyI (b7 (ps.length - 1 - i)).2:=by
 have hl:(kys ps).length=ps.length:=by simp[kys]
 rw[aE,iR Ze,hl];simp[kys,show ps.length - 1 - i < ps.length by omega]
theorem Afu{p:Nat}(hk:(ji)[p]? = ξ k)(hj:j < ps.length)(hb:Ab1 ps k j=true):j∈(ji).take p:=by
 have hkn:k < ps.length:=(Kp ps).mp (bT hk);obtain ⟨q,hq,hqe⟩:=dE ((Kp ps).mpr hj);have hp:=(aI.mp hk).1;have hpe:(ji)[p]=k:=by rw[aC hp] at hk;exact bQ hk
 by_cases hqp:q < p
 ·rw[<- hqe];rw[List.mem_take_iff_getElem];exact ⟨q,Ze,rfl⟩
 ·exfalso;have hne:q≠p:=fun e=>by
   subst e;rw[hqe] at hpe;rw[hpe,Amx] at hb;cases hb
  have hpw:=Ac4 (Ij (kys ps).reverse) ps.length;have hl:=Uk ps;have hrl:(Rq ps).length=ps.length:=by rw[(E7 ps).length_eq,dD]
  have hR:∀ t (ht:t < (ji).length),∃ (h2:ps.length - 1 - t < (Rq ps).length),(ji)[t]=ps.length - 1 - (Rq ps)[ps.length - 1 - t]:=fun t ht=>by
   have h2:ps.length - 1 - t < (Rq ps).length:=Ze
   refine ⟨h2,?_⟩;have e:(ji)[t]? = ξ (ps.length - 1 - (Rq ps)[ps.length - 1 - t]):=by
    unfold Dv;rw[iR (by rw[aL];omega),aX,aL,hrl,aC h2];rfl
   rw[aC ht] at e;exact bQ e
  obtain ⟨a1,a2⟩:=hR q hq;obtain ⟨b1,b2⟩:=hR p hp;have hle:=cK.mp hpw (ps.length - 1 - q) (ps.length - 1 - p) a1 b1 Ze;have la:(Rq ps)[ps.length - 1 - q] < ps.length:=bM.mp ((E7 ps).mem_iff.mp (cS a1));have lb:(Rq ps)[ps.length - 1 - p] < ps.length:=bM.mp ((E7 ps).mem_iff.mp (cS b1));have hle2:ltK (kys ps).reverse (Rq ps)[ps.length - 1 - p] (Rq ps)[ps.length - 1 - q]=false:=hle;unfold ltK at hle2;rw[Ago la,Ago lb,<- a2,<- b2,hqe,hpe,Aom hb] at hle2;cases hle2
theorem Af6(n:Nat):Bo 0 n=ixU (bJ n):=by
 unfold Bo ixU;exact dG fun i _=>by rw[Int.zero_add]
theorem Ai9(h:i < ps.length)(δ:UE)(L:UH)(hd:δ[0]? = ξ aq):(Oy [ψ,ij] Ba δ L (.int (i:Int))).bind Oz=ξ (kyI (pi).2):=by
 have e:Oy [ψ,ij] Ba δ L (.int (i:Int))=ξ (pr (pi).2):=by
  refine Ag0 ?_;have hδ:Abn [ψ,ij] (.int (i:Int)) δ = [χ (i:Int),aq]:=by
   unfold Abn Ga;simp[hd]
  rw[hδ];have i1:(ae Al 1 dg) [χ (i:Int),aq] L=ξ (p3U pi,L):=by
   rw[f2_eq];simp only[fVar_eq,aY,aP,bD,aD,aA,Sl h]
  unfold Ba;rw[fOwn_eq,fCons_eq,i1];simp only[aA,fNil_eq,aD,aR,bG,if_true,Dx]
 rw[e];rfl
theorem Afr(ps:ah)(hn:ps.length<=60)(L:UH):B2 [el] L=ξ (cf,L++[.lst (ixU ji)]):=by
 have hlen:Bc [el] L=ξ (.int ps.length,L):=by simp[Bc,lenU]
 have hk:mapO (fun u=>(Oy [ψ,ij] Ba [aq] L u).bind Oz) (Bo 0 ps.length)=ξ (kys ps):=by
  rw[Af6];unfold ixU kys;have:∀ l:Ω,(∀ i∈l,i < ps.length)->mapO (fun u=>(Oy [ψ,ij] Ba [aq] L u).bind Oz) (l.map fun (j:Nat)=>U.int (j:Int))=ξ (l.map fun i=>kyI (pi).2):=by
   intro l;induction l with
   | nil=>intro _;rfl
   | cons a l ih=>
    intro h;simp only[aQ,mapO];rw[Ai9 (h a (aS ..)) _ L rfl,ih fun i hi=>h i (oq hi)];rfl
  exact this _ fun i hi=>bM.mp hi
 have hall:((kys ps).all fun t=>!t.isEmpty)=true:=by
  rw[bO];intro t ht;obtain ⟨i,_,rfl⟩:=bK.mp ht;rfl
 have hres:((SO.Cr (ltK (kys ps).reverse) ps.length).map fun i=>(Bo 0 ps.length).reverse.getD i .non).reverse=ixU ji:=by
  unfold Dv ixU;rw[List.map_reverse,bU]
  congr 1
  refine dG fun i hi=>?_
  have hin:i < ps.length:=bM.mp ((E7 ps).mem_iff.mp hi);have hl:(Bo 0 ps.length).length=ps.length:=by unfold Bo;rw[aL,dD]
  rw[aE,iR Ze,hl,Af6];unfold ixU;rw[aX,gC Ze];rfl
 have e:(N9 [ψ,ij] Ba (a7 (gg Bc 0))) [aq] L=ξ (cf,L++[.lst (ixU ji)]):=by
  unfold N9;simp only[fCons_eq,fCall_eq,fVar_eq,fNil_eq,aP,bD,aD,aA,hlen,eE,hk];rw[if_pos ⟨⟨Ze,Ze⟩,hall⟩,hres]
 unfold B2 fnU Ft;simp only[aR,bG,if_true,aQ,bY,dA,dH,bB,fRet_eq,e,aD,aA]
variable {fa fb:FE}{K:UH}
theorem Hw{s:S2}{a b c:U}{J:UH}(ha:fa δ L=ξ (a,M))(hb:fb δ M=ξ (b,K))(h:s a b K=ξ (c,J)):(f2 s fa fb) δ L=ξ (c,J):=by
 rw[f2_eq,ha,aA,hb,aA,h]
theorem As4{f:FN}(h:fa δ L=ξ (u,M))(e:f [u] M=ξ (v,L')):(Av 1 f (a7 fa)) δ L=ξ (v,L'):=by
 rw[fOwn_eq,fCons_eq,h,aA,fNil_eq,aD];simp only[aA,aR,bG,if_true,e]
theorem Ay6{f:FN}{w:U}(h:fa δ L=ξ (u,M))(h2:fb δ M=ξ (w,K))(e:f [u,w] K=ξ (v,L')):(Av 2 f (rh fa fb)) δ L=ξ (v,L'):=by
 rw[fOwn_eq,fCons_eq,h,aA,fCons_eq,h2,aA,fNil_eq,aD,aD];simp only[aA,aR,bG,if_true,e]
theorem Avj{s:SC}(h:fa δ L=ξ (u,M))(e:s [u] M=ξ (v,L')):(lm s fa) δ L=ξ (v,L'):=by
 rw[fCall_eq,fCons_eq,h,aA,fNil_eq,aD,aA,e]
theorem Ahp(h:fa δ L=ξ (u,M))(h2:fb δ M=ξ (v,K)):(Dp (rh fa fb)) δ L=ξ (.tup [u,v],K):=by
 rw[Ha,fCons_eq,h,aA,fCons_eq,h2,aA,fNil_eq,aD,aD,aA,kw (by show 2<=16777216;decide)]
theorem Ay5{fc:FE}{w:U}{J:UH}(h:fa δ L=ξ (u,M))(h2:fb δ M=ξ (v,K))(h3:fc δ K=ξ (w,J)):(Dp (gi fa fb (a7 fc))) δ L=ξ (.tup [u,v,w],J):=by
 rw[Ha,fCons_eq,h,aA,fCons_eq,h2,aA,fCons_eq,h3,aA,fNil_eq,aD,aD,aD,aA,kw (by show 3<=16777216;decide)]
theorem Aze(h:fa δ L=ξ (u,M)):(Dp (a7 fa)) δ L=ξ (.tup [u],M):=by
 rw[Ha,fCons_eq,h,aA,fNil_eq,aD,aA,kw (by show 1<=16777216;decide)]
theorem Azo(δ:UE)(L:UH):(Dp Af) δ L=ξ (.tup [],L):=by
 rw[Ha,fNil_eq,aA,kw (by show 0<=16777216;decide)]
theorem Axd(h:fa δ L=ξ (u,M)):(Cw (a7 fa)) δ L=ξ (qr,M++[.lst [u]]):=by
 rw[fLst_eq,fCons_eq,h,aA,fNil_eq,aD,aA,kw (by show 1<=16777216;decide)]
theorem Apx{a:Nat}{x y:aa}(ha:L[a]? = Ξ x)(hb:L[b]? = Ξ y)(hl:x.length+y.length<=16777216):Bd bp gv L=ξ (cf,L++[.lst (x++y)]):=by
 unfold Bd;simp only[Fj ha,Fj hb,aA];rw[kw hl]
theorem Apk{a b:aa}(L:UH)(ha:a≠[])(hl:a.length+b.length<=16777216):Bd (.tup a) (.tup b) L=ξ (.tup (a++b),L):=by
 show (if a.isEmpty=false/\small (a.length+b.length)=true then ξ (U.tup (a++b),L) else ψ)=_;rw[if_pos ⟨by cases a with | nil=>exact absurd rfl ha | cons _ _=>rfl,small_of hl⟩]
variable {E:Nat}{fo fi:FE}
theorem Atu{kvs:List (Key×U)}{k:Key}(hv:fo δ M=ξ (.ref E,M))(hw:fi δ M=ξ (u,M))(hk:toK u=ξ k)(hE:M[E]? = iy kvs)(h:G0 kvs k=j3):Qp fo fi δ M=ξ (v,M):=by
 have hd:B3 M E=ξ kvs:=by unfold B3;rw[hE]
 unfold Qp;simp only[hv,aA,hw,hk,hd,h,aD]
variable {fv:FE}
theorem Ahn{kvs:List (Key×U)}{k:Key}(hv:fv δ L=ξ (v,M))(ho:fo δ M=ξ (.ref E,M))(hi:fi δ M=ξ (u,M))(hk:toK u=ξ k)(hE:M[E]? = iy kvs)(hl:kvs.length < 1000000):Hx fo fi fv δ L=ξ (.nx δ,M.set E (.dic (Iu kvs k v))):=by
 have hd:B3 M E=ξ kvs:=by unfold B3;rw[hE]
 unfold Hx;simp only[hv,aA,ho,hi,hk,hd];rw[if_pos hl]
def dK(F:Ω)(g:Nat->U):List (Key×U):=F.map fun (i:Nat)=>((mR (i:Int):Key),g i)
variable {g:Nat->U}{F:Ω}
theorem Auw(h:j∈F):G0 (dK F g) (.inl (j:Int))=ξ (g j):=by
 unfold G0 dK;induction F with
 | nil=>cases h
 | cons a F ih=>
  rw[aQ,cU];by_cases e:a=j
  ·subst e;simp
  ·have hn:¬ (mR (a:Int):Key) = .inl (j:Int):=fun q=>e (by injection q with q;omega)
   simp only[hn,decide_false];exact ih (by rcases bE.mp h with z | z;exact absurd z.symm e;exact z)
theorem Av0(h:k∉F):Iu (dK F g) (.inl (k:Int)) v=dK (F++[k]) (fun j=>if j=k then v else g j):=by
 have ha:((dK F g).any fun kv=>decide (kv.1 = .inl (k:Int)))=false:=by
  rw[oZ];intro x hx;obtain ⟨i,hi,rfl⟩:=bK.mp hx;simp only[decide_eq_true_eq];intro q;injection q with q
  exact h (by rw[show k=i by omega];exact hi)
 unfold Iu;rw[if_neg (by rw[ha];simp)];unfold dK;rw[dF]
 congr 1
 ·refine dG fun i hi=>?_
  have hik:i≠k:=fun e=>h (by rw[<- e];exact hi)
  show ((mR (i:Int):Key),g i)=(mR (i:Int),if i=k then v else g i);rw[if_neg hik]
 ·simp
theorem Ak3{g':Nat->U}(h:∀ i∈F,g i=g' i):dK F g=dK F g':=dG fun i hi=>by rw[h i hi]
structure Wt(M:UH)(W:Nat)(ps:ah)(w:Nat->Int):Prop where
 ex:∃ kvs,M[W]? = ξ (.dic kvs)/\∀ i,i < ps.length->G0 kvs (.inr (pi).1)=χ (w i)
variable {W:Nat}
theorem Wt.gw(h:Wt M W ps w)(g:Gw M M'):Wt M' W ps w:=by
 obtain ⟨kvs,h1,h2⟩:=h;exact ⟨kvs,g.get h1,h2⟩
theorem Wt.set(h:Wt M W ps w)(hne:E≠W)(o:HU):Wt (M.set E o) W ps w:=by
 obtain ⟨kvs,h1,h2⟩:=h;exact ⟨kvs,by rw[bF hne];exact h1,h2⟩
theorem IsC.len(hF:∀ i∈F,i < ps.length):F.length=F.length:=rfl
theorem Afi{ps:ah}{w:Nat->Int}{b:Nat->Ω}{M:UH}{W E k:Nat}{F:Ω}{x4 x5:az}(hn:ps.length<=60)(hk:k < ps.length)(hW:Wt M W ps w)(hE:M[E]? = iy (dK F fun i=>pU w (b i)))(hF:∀ j,j < ps.length->Ab1 ps k j=true->j∈F)(hkF:k∉F)(hFl:F.length<=60)
  (hb:∀ i∈F,Bst (Aa8 ps i) w (b i)) (hbl:∀ i∈F,(b i).length<=1000) :
  ∃ (b':Nat->Ω) (y4 y5:az) (M':UH),Dy [aq,v9,η E,χ (k:Int),x4,x5] M=ξ (.nx [aq,v9,η E,χ (k:Int),y4,y5],M'.set E (.dic (dK (F++[k]) fun i=>pU w (b' i))))/\Gw M M'/\(∀ i∈F,b' i=b i)/\Bst (Aa8 ps k) w (b' k):=by
 obtain ⟨r,L1,e1,h1,g1,_⟩:=Ack ps Ze (b7 k) M;have hE1:=g1.get hE;have hi:(ae Al 0 nr) [aq,v9,η E,χ (k:Int),x4,x5] M=ξ (p3U (b7 k),M):=Hw rfl rfl (Sl hk M);have hi2:∀ N x4 x5,(ae Al 0 nr) [aq,v9,η E,χ (k:Int),x4,x5] N=ξ (p3U (b7 k),N):=fun N x4 x5=>Hw rfl rfl (Sl hk N)
 have ht:=Ay6 (fa:=dg) (δ:=[aq,v9,η E,χ (k:Int),x4,x5]) rfl hi e1;have hs:Aq L1 r=ξ ((sw k).map fun (j:Nat)=>U.int (j:Int)):=Aj h1;have hab:∀ j∈sw k,j∈F:=fun j hj=>hF j (bM.mp (bZ.mp hj).1) (bZ.mp hj).2
 have hal:(sw k).length<=60:=by
  have:=gP (Ab1 ps k) bx;rw[dD] at this;unfold abl;omega
 obtain ⟨x,ec⟩:=Bq (ix:=[ψ,m6]) (fi:=A7 (j8 2 Ei (a7 (ae Al 0 nr)))) (it:=.ref r) (g:=d8) (tt:=ψ) (fe:=Hs) (δ:=[aq,v9,η E,χ (k:Int),x4,x5]) (L:=M) (L0:=L1)
  (sw k) Zl Zn (fun j=>pU w (b j)) (fun δ=>∃ z,δ = [z,η E]) (by rw[C2,ht];simp only[aA,Cq hs,aD]) (by rw[Ec hs];simp) Ze ⟨ψ,rfl⟩
  (fun k x=>Hr (B6 hs))
  (fun j δ x hj ⟨z,hδ⟩=>by
   subst hδ;refine ⟨[χ (j:Int),η E],rfl,jk,[],by simp[Gz],fun _=>⟨[],?_⟩⟩;rw[bB,bB];exact Atu (u:=.int (j:Int)) rfl rfl rfl ((Gw.new L1 x).get hE1) (Auw (hab j hj)))
 have hff:fP Zn (sw k)=sw k:=cW.mpr Zg;rw[hff] at ec;have s1:=C5 (i:=4) ec;simp only[aZ,bA] at s1;have g2:Gw M (L1++x++[HU.lst ((sw k).map fun j=>pU w (b j))]):=(g1.trans (Gw.new _ x)).trans gl;have hf:(L1++x++[HU.lst ((sw k).map fun j=>pU w (b j))])[(L1++x).length]? = Ξ ((sw k).map fun j=>pU w (b j)):=Za
 generalize L1++x++[HU.lst ((sw k).map fun j=>pU w (b j))]=L2 at s1 g2 hf;generalize (L1++x).length=rf at s1 hf;have hz:(Dp (rh (ω 0) (Dp Af))) [aq,v9,η E,χ (k:Int),η rf,x5] L2=ξ (pU w [],L2):=Ahp rfl (Azo _ _);have hl1:=Axd hz;have hq1:(L2++[HU.lst [pU w []]])[L2.length]? = Ξ [pU w []]:=Za
 have hq2:=(Gw.new L2 [HU.lst [pU w []]]).get hf;have hadd:=Apx hq1 hq2 (by simp only[aR,bG,aL];omega);have hcs:[pU w []]++(sw k).map (fun j=>pU w (b j))=([]::(sw k).map b).map (pU w):=Za
 rw[hcs] at hadd;obtain ⟨rr,hrm,er,hrmin⟩:=Asw (L:=L2++[HU.lst [pU w []]]++[HU.lst (([]::(sw k).map b).map (pU w))]) (n:=(L2++[HU.lst [pU w []]]).length) (w:=w) (cs:=[]::(sw k).map b) Za Za;have s2:=C5 (i:=5) (As4 (Hw (fb:=Ad 4) hl1 rfl hadd) er);simp only[aZ,bA] at s2;have g3:Gw M (L2++[HU.lst [pU w []]]++[HU.lst (([]::(sw k).map b).map (pU w))]):=(g2.trans gl).trans gl;generalize L2++[HU.lst [pU w []]]++[HU.lst (([]::(sw k).map b).map (pU w))]=L3 at s2 g3;have hrl:rr.length<=1000:=by
  rcases bE.mp hrm with rfl | h
  ·simp
  ·obtain ⟨j,hj,rfl⟩:=bK.mp h;exact hbl j (hab j hj)
 obtain ⟨wk,hw1,hw2⟩:=hW.gw g3;have hnm:∀ N,(gm Al (ae Al 0 nr) 0) [aq,v9,η E,χ (k:Int),η rf,ξ (pU w rr)] N=ξ (.str (b7 k).1,N):=fun N=>Hw (hi2 N _ _) rfl rfl
 have hwk:=Atu (fo:=dq) (δ:=[aq,v9,η E,χ (k:Int),η rf,ξ (pU w rr)]) rfl (hnm L3) rfl hw1 (hw2 k hk);have hr0:(nb 5 0) [aq,v9,η E,χ (k:Int),η rf,ξ (pU w rr)] L3=ξ (.int (wS w rr),L3):=Hw rfl rfl rfl;have hr1:(nb 5 1) [aq,v9,η E,χ (k:Int),η rf,ξ (pU w rr)] L3=ξ (.tup (ixU rr),L3):=Hw rfl rfl rfl;have hv:=Ahp (Hw (s:=Bd) hwk hr0 rfl) (Hw (s:=Bd) (Aze (fa:=nr) rfl) hr1 (Apk (a:=[.int (k:Int)]) (b:=ixU rr) L3 Za (by simp only[ixU,aR,bG,aL];omega)));have hvU:(.tup [.int (w k+wS w rr),.tup ([.int (k:Int)]++ixU rr)]:U)=pU w (k::rr):=by
  unfold pU;rw[Aav];rfl
 rw[hvU] at hv;have s3:=Ahn (fo:=v5) (fi:=nr) (u:=.int (k:Int)) hv rfl rfl rfl (g3.get hE) (by unfold dK;rw[aL];omega)
 rw[Av0 hkF] at s3;refine ⟨fun j=>if j=k then k::rr else b j,η rf,ξ (pU w rr),L3,?_,g3,fun i hi=>if_neg (fun e=>hkF (by rw[<- e];exact hi)),?_⟩
 ·have hd:dK (F++[k]) (fun j=>if j=k then pU w (k::rr) else pU w (b j))=dK (F++[k]) fun i=>pU w (if i=k then k::rr else b i):=Ak3 fun i _=>by
   by_cases h:i=k
   ·rw[if_pos h,if_pos h]
   ·rw[if_neg h,if_neg h]
  rw[hd] at s3;unfold Dy;rw[mf,Ak s2];exact s3
 ·show Bst (Aa8 ps k) w (if k=k then k::rr else b k);rw[jv];refine Ami hk (fun j hj=>hb j (hab j hj)) ?_ (hrmin [] (aS ..)) fun j hj=>hrmin _ (oq (kL hj))
  rcases bE.mp hrm with h | h
  ·exact .inl h
  ·obtain ⟨j,hj,rfl⟩:=bK.mp h;exact .inr (ik j hj)
theorem Ahz:∀ {c:Ω},IsC ps c->c.length<=ps.length:=by
 have key:∀ (c:Ω),IsC ps c->∀ i r,c=i::r->c.length<=(sw i).length+1:=by
  intro c;induction c with
  | nil=>intro h;exact h.elim
  | cons a c ih=>
   intro h i r e;cases e;cases c with
   | nil=>simp
   | cons j r=>
    have h2:=ih h.2.2 j r rfl;have h3:(sw j).length < (sw a).length:=Om _ (fun x _ hx=>Axo h.2.1 hx) ⟨j,bM.mpr h.2.2.head,h.2.1,Amx ps j⟩;simp only[aR] at h2 ⊢;omega
 intro c h;obtain ⟨i,r,e⟩:=h.ex;have h1:=key c h i r e;have hi:i < ps.length:=by rw[e] at h;exact h.head
 have h2:(sw i).length < (bx).length:=by
  have:(bx).filter Zn=bx:=cW.mpr fun _ _=>rfl
  conv=>rhs;rw[<- this]
  exact Om _ (fun _ _ _=>rfl) ⟨i,bM.mpr hi,rfl,Amx ps i⟩
 rw[dD] at h2;omega
theorem Alw(hn:ps.length<=60)(hW:Wt L W ps w):∃ (b:Nat->Ω) (r:Nat) (L':UH),E8 [el,.ref W] L=ξ (ig,L')/\L'[r]? = Ξ ((ji).map fun i=>pU w (b i))/\(∀ i,i < ps.length->Bst (Aa8 ps i) w (b i))/\om:=by
 have hWl:W < L.length:=by
  obtain ⟨kvs,h,_⟩:=hW;exact (aI.mp h).1
 have s1:(a8 O1 2) [aq,v9,ψ,ψ,ψ,ψ] L=ξ (.nx [aq,v9,aw,ψ,ψ,ψ],L++[.dic []]):=rfl;have hh:=Afr ps hn (L++[HU.dic []]);have hFl:=Uk ps;have gA:Gw L (L++[HU.dic []]++[HU.lst (ixU ji)]):=(cc L).trans gl;have hr:(L++[HU.dic []]++[HU.lst (ixU ji)])[(L++[HU.dic []]).length]? = qz ji:=Za
 have hE0:(L++[HU.dic []]++[HU.lst (ixU ji)])[L.length]? = iy (dK [] fun i=>pU w []):=by simp[dK]
 have hre:(L++[HU.dic []]).length≠L.length:=Za
 generalize hM:L++[HU.dic []]++[HU.lst (ixU ji)]=M at hh gA hr hE0;generalize (L++[HU.dic []]).length=r at hh hr hre;have hi:(A7 (j8 1 B2 Af)) [aq,v9,aw,ψ,ψ,ψ] (L++[HU.dic []])=ξ (ig,M):=by
  rw[C2,Gf (i:=0) rfl hh];simp only[aA,Cq (Aj hr),aD]
 obtain ⟨δ',L',e,P⟩:=Tn (us:=ixU ji) (n:=r) (body:=Dy) (g:=gN 3)
  (fun p δ' M'=>∃ (b:Nat->Ω) (y3 y4 y5:az),δ'=[aq,v9,aw,y3,y4,y5]/\M'[L.length]? = iy (dK ((ji).take p) fun i=>pU w (b i))/\(∀ i∈(ji).take p,Bst (Aa8 ps i) w (b i))/\M'[r]? = qz ji/\Gw L M')
  hi ⟨fun _=>[],ψ,ψ,ψ,rfl,hE0,(fun i hi=>by cases hi),hr,gA⟩
  (fun k δ M ⟨_,_,_,_,_,_,_,h,_⟩=>Aj h)
  (fun p u δ M' hu ⟨b,y3,y4,y5,hδ,h1,h2,h3,h4⟩=>by
   subst hδ;unfold ixU at hu;rw[aX] at hu;obtain ⟨k,hk,rfl⟩:=aH.mp hu;have hpl:=(aI.mp hk).1;have hkn:k < ps.length:=(Kp ps).mp (bT hk);have htake:(ji).take (p+1)=(ji).take p++[k]:=by rw[eF,hk];rfl
   have hkF:k∉(ji).take p:=fun hm=>by
    obtain ⟨q,hq,hqe⟩:=List.mem_take_iff_getElem.mp hm;have hpe:(ji)[p]=k:=by rw[aC hpl] at hk;exact bQ hk
    have:=(fX.mp (Ae5 ps));have h5:=cK.mp this q p Ze hpl Ze;exact h5 (by rw[hqe,hpe])
   obtain ⟨b',z4,z5,M2,e2,g2,q1,q2⟩:=Afi (x4:=y4) (x5:=y5) hn hkn (hW.gw h4) h1 (fun j hj hb=>Afu hk hj hb) hkF (by rw[eW];omega) h2 (fun i hi=>by have:=Ahz (h2 i hi).1.1;omega);have hEl:L.length < M2.length:=by
    have:=(aI.mp (g2.get h1)).1;exact this
   refine ⟨[aq,v9,aw,χ (k:Int),y4,y5],M',rfl,_,_,.inl e2,b',_,_,_,rfl,by rw[htake];exact bL hEl,fun i hi=>?_,by rw[bF (eJ hre)];exact g2.get h3,(h4.trans g2).set be _⟩
   rw[htake] at hi;rcases cQ.mp hi with hi | hi
   ·rw[q1 i hi];exact h2 i hi
   ·rw[bV.mp hi];exact q2)
 obtain ⟨b,y3,y4,y5,hδ,h1,h2,h3,h4⟩:=P;rw[hδ] at e;have hxl:(ixU ji).length=(ji).length:=by simp[ixU]
 rw[hxl,gX] at h1 h2;have hdic:B3 L' L.length=ξ (dK ji fun i=>pU w (b i)):=by unfold B3;rw[h1]
 have hvals:Amk (dK ji fun i=>pU w (b i))=(ji).map fun i=>pU w (b i):=by
  unfold Amk dK;rw[bU];rfl
 have ev:(Aaj v5) [aq,v9,aw,y3,y4,y5] L'=ξ (.ref L'.length,L'++[.lst ((ji).map fun i=>pU w (b i))]):=by
  rw[<- hvals];unfold Aaj;simp only[fVar_eq,aY,aP,bD,aD,aA,hdic]
 refine ⟨b,L'.length,L'++[.lst ((ji).map fun i=>pU w (b i))],?_,Za,fun i hi=>h2 i ((Kp ps).mpr hi),h4.trans gl⟩;unfold E8 fnU Lh;simp only[aR,bG,if_true,aQ,bY,bP,gT,fL];rw[mf,Ak e,fRet_eq,ev];simp only[aD,aA]
def nmU(ps:ah)(c:Ω):U:=.tup (c.map fun i=>U.str (pi).1)
theorem ix_name{v0 v1:Nat}(h:j < ps.length)(L:UH)(h0:Ad v0 δ L=ξ (el,L))(h1:Ad v1 δ L=ξ (.int (j:Int),L)):(gm Al (ae Al v0 (Ad v1)) 0) δ L=ξ (.str (b7 j).1,L):=Hw (Hw h0 h1 (Sl h L)) rfl rfl
variable {fe:FE}{L0:UH}
theorem Ae6{fi:FI}{it:IU}{i0:Nat}(hfe:fe=gm Al (ae Al 1 dg) 0)(hi:fi δ L=ξ (it,L0))(hsz:c.length<=it.size L0)(hat:∀ k x,it.at k (L0++x)=ξ (c.map fun (j:Nat)=>U.int (j:Int))[k]?)(hd:δ[i0]? = ξ aq)(hc:∀ j∈c,j < ps.length)(hl:c.length<=1000) :
  ∃ L',(lm Bj (Bg [ψ,ξ i0] fi d8 ψ fe)) δ L=ξ (nmU ps c,L')/\oj L0:=by
 obtain ⟨x,e⟩:=Bq (ix:=[ψ,ξ i0]) (fi:=fi) (it:=it) (g:=d8) (tt:=ψ) (fe:=fe) (δ:=δ) (L:=L) (L0:=L0) c Zl Zn (fun j=>U.str (b7 j).1) (fun δ=>∃ z,δ = [z,aq]) hi hsz Ze ⟨ψ,by simp[Ga,hd]⟩ hat
  (fun j δ x hj ⟨z,hδ⟩=>by
   subst hδ;refine ⟨[χ (j:Int),aq],rfl,jk,[],by simp[Gz],fun _=>⟨[],?_⟩⟩;rw[bB,bB,hfe];exact ix_name (hc j hj) _ rfl rfl)
 have hff:fP Zn c=c:=cW.mpr Zg;rw[hff] at e;refine ⟨L0++x++[HU.lst (c.map fun j=>U.str (b7 j).1)],Avj e ?_,(Gw.new _ x).trans gl⟩;have hq:Aq (L0++x++[HU.lst (c.map fun j=>U.str (b7 j).1)]) (L0++x).length=ξ (c.map fun j=>U.str (b7 j).1):=Aj Za;simp only[Bj,hq,aD,nmU]
theorem IsC.all:∀ {c:Ω},IsC ps c->∀ j∈c,j < ps.length:=by
 intro c;induction c with
 | nil=>intro h;exact h.elim
 | cons a c ih=>
  intro h j hj;rcases bE.mp hj with rfl | hj
  ·exact h.head
  ·cases c with
   | nil=>cases hj
   | cons b c=>exact ih h.2.2 j hj
theorem Sv(hn:ps.length<=60)(hne:ps≠[])(hW:Wt L W ps w):∃ (c:Ω) (L':UH),Ck [el,.ref W] L=ξ (.tup [.int (wS w c),nmU ps c],L')/\Bst (IsC ps) w c/\om:=by
 have hpos:0 < ps.length:=gD.mpr hne;obtain ⟨b,r,L1,e1,h1,hb,g1⟩:=Alw hn hW;have hm:(ji).map (fun i=>pU w (b i))=((ji).map b).map (pU w):=by rw[bU];rfl
 rw[hm] at h1;obtain ⟨c,hc,e2,hmin⟩:=Asw h1 (by
  intro z;have:=congrArg lC z;rw[aL,Uk] at this;have h0:ps.length=0:=this;omega)
 obtain ⟨k,hk,rfl⟩:=bK.mp hc;have hkn:=(Kp ps).mp hk;have hB:=Aoz hkn hb (fun i hi=>hmin _ (kL ((Kp ps).mpr hi)));have t0:(Ox (Gp dg)) [aq,v9,ψ] L=ξ (false,L):=by
  have:Qh el L=ξ true:=by
   cases ps with
   | nil=>exact absurd rfl hne
   | cons _ _=>rfl
  simp only[Ou,fTru_eq,fVar_eq,aP,bD,aD,aA,this,jL]
 have s0:(Fb (Ox (Gp dg)) (B0 (Dp (rh (ω 0) (Dp Af)))) Cy) [aq,v9,ψ] L=ξ (.nx [aq,v9,ψ],L):=by
  rw[fIfS_eq,t0];simp only[aA,bS,if_false,Gk]
 have s1:=C5 (i:=2) (As4 (So (i:=0) (j:=1) (δ:=[aq,v9,ψ]) rfl rfl e1) e2);simp only[aZ,bA] at s1;have hcl:=Ahz hB.1;have hx:(nb 2 1) [aq,v9,ξ (pU w (b k))] L1=ξ (.tup (ixU (b k)),L1):=Hw rfl rfl rfl;have h0:(nb 2 0) [aq,v9,ξ (pU w (b k))] L1=ξ (.int (wS w (b k)),L1):=Hw rfl rfl rfl;obtain ⟨L2,e3,g3⟩:=Ae6 (ps:=ps) (fi:=A7 (nb 2 1)) (it:=.seq (ixU (b k))) (fe:=Hu) (δ:=[aq,v9,ξ (pU w (b k))]) (L:=L1) (L0:=L1) (c:=b k) (i0:=0) rfl (by rw[C2,hx];rfl) (by simp[IU.size,ixU]) Zg rfl hB.1.all Ze;refine ⟨b k,L2,?_,hB,g1.trans g3⟩;have ht:=Ahp h0 e3;unfold Ck fnU Ki;simp only[aR,bG,if_true,aQ,bY,bP,gT,fL];rw[Ak s0,mf,fRet_eq,ht];simp only[aD,aA]
noncomputable def w1:Nat->Int:=fun _=>1
theorem wS_one(c:Ω):wS w1 c=(c.length:Int):=by
 unfold wS w1;induction c with
 | nil=>rfl
 | cons a c ih=>rw[aQ,jI,ih,aR];omega
theorem Amt{f:Nat->Int}(hn:∀ x∈l,0<=f x)(h:0 < sm l f):∃ x∈l,0 < f x:=by
 induction l with
 | nil=>simp[sm] at h
 | cons a l ih=>
  rw[sm_cons] at h;by_cases ha:0 < f a
  ·exact ⟨a,aS ..,ha⟩
  ·obtain ⟨x,hx,h2⟩:=ih (fun x hx=>hn x vn) (by have:=hn a (aS ..);omega);exact ⟨x,vn,h2⟩
theorem Azw{f:Nat->Int}(hn:∀ x∈l,0<=f x){x:Nat}(hx:x∈l):f x<=sm l f:=by
 induction l with
 | nil=>cases hx
 | cons a l ih=>
  rw[sm_cons];have h1:=hn a (aS ..);have h2:=Ald (f:=f) (l:=l) fun y hy=>hn y (oq hy)
  rcases bE.mp hx with rfl | hx
  ·omega
  ·have:=ih (fun y hy=>hn y (oq hy)) hx;omega
theorem Avo(h:i < ps.length):bgf ps (t+1) i=sm (sw i) (bgf ps t):=by
 rw[U4 h];unfold abl;rw[R6]
theorem Aai(h:j∈sw i):j < ps.length:=bM.mp (bZ.mp h).1
theorem Oj:∀ (t i:Nat),i < ps.length->(0 < bgf ps t i↔∃ c,Aa8 ps i c/\c.length=t+1)
 | 0,i,h=>by
  rw[Abm h];exact ⟨fun _=>ik [i] (cu h),fun _=>by decide⟩
 | t+1,i,h=>by
  rw[Avo h];constructor
  ·intro hp;obtain ⟨j,hj,hq⟩:=Amt (fun x hx=>Wq ps t x (Aai hx)) hp;obtain ⟨c,⟨hc,hh⟩,hl⟩:=(Oj t j (Aai hj)).mp hq;obtain ⟨k,r,e⟩:=hc.ex;rw[e] at hc hh hl;cases hh;exact ⟨i::j::r,cu ⟨h,(bZ.mp hj).2,hc⟩,by rw[aR,hl]⟩
  ·rintro ⟨c,⟨hc,hh⟩,hl⟩;obtain ⟨k,r,e⟩:=hc.ex;rw[e] at hc hh hl;cases hh;cases r with
   | nil=>simp at hl
   | cons j r=>
    have hj:j∈sw i:=bZ.mpr ⟨bM.mpr hc.2.2.head,hc.2.1⟩;have h1:=(Oj t j (Aai hj)).mpr ⟨j::r,cu hc.2.2,by simpa using hl⟩;have h2:=Azw (fun x hx=>Wq ps t x (Aai hx)) hj;omega
theorem V1:Hh ps t=true↔∃ c,IsC ps c/\c.length=t+1:=by
 constructor
 ·intro h;have hp:=Aco h;rw[Atw] at hp;obtain ⟨i,hi,hq⟩:=Amt (fun x hx=>Wq ps t x (bM.mp hx)) hp;obtain ⟨c,hc,hl⟩:=(Oj t i (bM.mp hi)).mp hq;exact ⟨c,hc.1,hl⟩
 ·rintro ⟨c,hc,hl⟩;obtain ⟨i,r,e⟩:=hc.ex;have hi:i < ps.length:=by rw[e] at hc;exact hc.head
  have hp:=(Oj t i hi).mpr ⟨c,⟨hc,by rw[e];rfl⟩,hl⟩;cases h:Hh ps t with
  | true=>rfl
  | false=>rw[Ahc h i hi] at hp;exact absurd hp Zb
theorem Ak2{d:Ω}(h:Bst (IsC ps) w1 c)(hd:IsC ps d):d.length<=c.length:=by
 have:=h.2 d hd;unfold kl at this;rw[wS_one,wS_one] at this;by_cases e:(d.length:Int)=c.length
 ·omega
 ·rw[if_neg Ze] at this;simp only[decide_eq_false_iff_not] at this;omega
def Azz(ps:ah)(c:Ω):U:=.tup [.int (c.length:Int),.int (qi (c.length - 1)).sum,nmU ps c]
theorem W3(h:Bst (IsC ps) w1 c)(h1:Hh ps T=false)(h2:∀ t,t < T->Hh ps t=true):T=c.length:=by
 obtain ⟨i,r,e⟩:=h.1.ex;have hpos:0 < c.length:=by rw[e];simp
 have la:Hh ps (c.length - 1)=true:=V1.mpr ⟨c,h.1,Ze⟩;have lb:Hh ps c.length=false:=by
  cases q:Hh ps c.length with
  | false=>rfl
  | true=>
   obtain ⟨d,hd,hl⟩:=V1.mp q;have:=Ak2 h hd;omega
 rcases lU T c.length with q | q | q
 ·exfalso;have hp:=Aco la;rw[Aoo h1 Ze] at hp;exact absurd hp Zb
 ·exact q
 ·rw[h2 _ q] at lb;cases lb
theorem Ajn(ps:ah)(hn:ps.length<=60)(L:UH):∃ (y2:az) (L':UH),(Fu (A7 dg) (gN 2) F9) [aq,aw,ψ,ψ] (L++[.dic []])=ξ (.nx [aq,aw,y2,ψ],L')/\Wt L' L.length ps w1/\om:=by
 obtain ⟨δ',L',e,P⟩:=Lm (us:=θ) (L0:=L++[.dic []]) (L:=L++[.dic []]) (δ:=[aq,aw,ψ,ψ]) (body:=F9) (g:=gN 2) (fi:=A7 dg)
  (fun p δ' M=>∃ (y2:az) (kvs:List (Key×U)),δ'=[aq,aw,y2,ψ]/\M[L.length]? = iy kvs/\kvs.length<=p/\(∀ i,i < p->G0 kvs (.inr (pi).1)=χ 1)/\Gw L M)
  (by simp[Qo]) ⟨ψ,[],rfl,Za,Za,(fun i hi=>by omega),gl⟩
  (fun p u δ M hu ⟨y2,kvs,hδ,h1,h2,h3,h4⟩=>by
   subst hδ;rw[aX] at hu;obtain ⟨q,hq,rfl⟩:=aH.mp hu;have hpl:=(aI.mp hq).1;have hqe:b7 p=q:=by unfold ptAt;rw[aE,hq];rfl
   have s:=Ahn (fo:=dq) (fi:=nb 2 0) (fv:=m8) (u:=.str q.1) (k:=.inr q.1) (v:=.int 1) (δ:=[aq,aw,dh q,ψ]) (L:=M) (M:=M) rfl rfl (Hw rfl rfl rfl) rfl h1 Ze;have hEl:=(aI.mp h1).1;refine ⟨[aq,aw,dh q,ψ],M,rfl,_,_,.inl s,_,_,rfl,bL hEl,by have:=Aok kvs (.inr q.1) ip;omega,fun i hi=>?_,h4.set be _⟩
   rw[Am1];by_cases hk:(dM (pi).1:Key) = .inr q.1
   ·rw[if_pos hk]
   ·rw[if_neg hk];refine h3 i ?_;by_cases hip:i=p
    ·rw[hip,hqe] at hk;exact absurd rfl hk
    ·omega)
 obtain ⟨y2,kvs,hδ,h1,h2,h3,h4⟩:=P;rw[hδ] at e;rw[aL] at h3;exact ⟨y2,L',e,⟨kvs,h1,h3⟩,h4⟩
theorem U9(ps:ah)(hn:ps.length<=60)(hne:ps≠[])(L:UH):∃ (c:Ω) (L':UH),Cj [el] L=ξ (Azz ps c,L')/\Bst (IsC ps) w1 c/\om:=by
 have t0:(Ox (Gp dg)) [aq,ψ,ψ,ψ] L=ξ (false,L):=by
  have:Qh el L=ξ true:=by
   cases ps with
   | nil=>exact absurd rfl hne
   | cons _ _=>rfl
  simp only[Ou,fTru_eq,fVar_eq,aP,bD,aD,aA,this,jL]
 have s0:(Fb (Ox (Gp dg)) (B0 (Dp (gi (ω 0) m8 (a7 (Dp Af))))) Cy) [aq,ψ,ψ,ψ] L=ξ (.nx [aq,ψ,ψ,ψ],L):=by
  rw[fIfS_eq,t0];simp only[aA,bS,if_false,Gk]
 have s1:(a8 O1 1) [aq,ψ,ψ,ψ] L=ξ (.nx [aq,aw,ψ,ψ],L++[.dic []]):=rfl;obtain ⟨y2,K2,s2,hW,g2⟩:=Ajn ps hn L;obtain ⟨c,L3,e3,hB,g3⟩:=Sv hn hne hW;have s3:=C5 (i:=3) (So (i:=0) (j:=1) (δ:=[aq,aw,y2,ψ]) rfl rfl e3);simp only[aZ,bA] at s3;obtain ⟨T,L4,e4,hT,h1,h2,g4⟩:=each_ok ps Ze L3;have hTc:=W3 hB h1 h2;have hcp:0 < c.length:=by obtain ⟨i,r,e⟩:=hB.1.ex;rw[e];simp
 have a1:(nb 3 0) [aq,aw,y2,Γ [.int (wS w1 c),nmU ps c]] L3=ξ (.int (c.length:Int),L3):=by
  rw[<- wS_one];exact Hw rfl rfl rfl
 have hix:Al (.tup ((Kw ps T).map U.int)) (.int (-1)) L4=ξ (.int (qi (c.length - 1)).sum,L4):=by
  obtain ⟨m,hm⟩:∃ m,T=m+1:=⟨T - 1,Ze⟩;have hc1:c.length - 1=m:=Ze
  rw[hm,told_step,hc1,dF];generalize hl:(Kw ps m).map U.int=l;generalize (qi m).sum=z;have hn1:ixN (l.length+1) (-1)=ξ l.length:=by
   unfold ixN;rw[if_neg Zb,if_pos Ze]
   congr 1;omega
  have:L2.atI (l++[.int z]) (-1)=χ z:=by
   unfold L2.atI;rw[cG,aR,bG,nV,hn1];simp
  rw[Rw];show (L2.atI (l++[.int z]) (-1)).map _=_;rw[this];rfl
 have a2:(f2 Al (j8 1 B7 Af) (P1 m8)) [aq,aw,y2,Γ [.int (wS w1 c),nmU ps c]] L3=ξ (.int (qi (c.length - 1)).sum,L4):=Hw (Gf (i:=0) rfl e4) (by rw[Ag6];rfl) hix;have a3:(nb 3 1) [aq,aw,y2,Γ [.int (wS w1 c),nmU ps c]] L4=ξ (nmU ps c,L4):=Hw rfl rfl rfl;have ht:=Ay5 a1 a2 a3;refine ⟨c,L4,?_,hB,(g2.trans g3).trans g4⟩;unfold Cj fnU Kv;simp only[aR,bG,if_true,aQ,bY,bP,gT,fL];rw[Ak s0,mf,Ak s2,Ak s3,fRet_eq,ht];simp only[aD,aA];rfl
noncomputable def T5(q:Int×Int):Λ:=[q.1,q.2]
def Ao8(qs:ah):Ω:=SO.Cr (ltK (qs.map fun p=>T5 p.2)) qs.length
theorem Oq(qs:ah):(Ao8 qs).Perm (bJ qs.length):=SO.Gb (Ij _)
def Aj3:P3:=("",0,0)
def srt(qs:ah):ah:=(Ao8 qs).map fun i=>qs.getD i Aj3
theorem Et(qs:ah):(srt qs).Perm qs:=by
 have e:(bJ qs.length).map (fun i=>qs.getD i Aj3)=qs:=by
  apply gU
  ·simp
  ·intro i h1 h2;have hi:i < qs.length:=by simpa using h2
   rw[vW,tD,aE,km];rfl
 have:=(Oq qs).map fun i=>qs.getD i Aj3
 rw[e] at this;exact this
def LeK(a b:P3):Prop:=a.2.1 < b.2.1\/a.2.1=b.2.1/\a.2.2<=b.2.2
theorem Au0{a b:P3}(h:ltT (T5 b.2) (T5 a.2)=false):LeK a b:=by
 unfold T5 at h;simp only[ltT,beq_iff_eq] at h;unfold LeK;split at h
 ·split at h
  ·omega
  ·have:=of_decide_eq_false h;omega
 ·have:=of_decide_eq_false h;omega
theorem Aac(qs:ah):(srt qs).Pairwise LeK:=by
 have hst:(Ao8 qs).Pairwise (SO.Le (ltK (qs.map fun p=>T5 p.2))):=Ac4 (Ij _) _;refine fY.mpr (kR (fun {i j} hi hj h=>?_) hst);have hi:i < qs.length:=bM.mp ((Oq qs).mem_iff.mp hi);have hj:j < qs.length:=bM.mp ((Oq qs).mem_iff.mp hj);have h1:=h;unfold SO.Le ltK at h1;have e:∀ i (h:i < qs.length),(qs.map fun p=>T5 p.2).getD i []=T5 (qs.getD i Aj3).2:=fun i h=>by
  rw[aE,aE,aX,aC h];rfl
 rw[e i hi,e j hj] at h1;exact Au0 h1
abbrev En:=P3×ah
def Mx(p:P3)(ch:jq):Bool:=match ch.getLast? with
 | some e=>Bt e.1.2 p.2
 | none=>false
def turnOf(cs:tq)(p:P3):Nat:=cs.findIdx (Mx p)
def Cm(cs:tq):Nat->List P3
 | 0=>[]
 | t+1=>((cs.getD t []).getLast?.map (·.2)).getD []
def lay(cs:tq)(p:P3):tq:=
 if turnOf cs p=cs.length then cs++[[(p,Cm cs jo++[p])]] else cs.set jo (cs.getD jo []++[(p,Cm cs jo++[p])])
def Rr(a b:P3):Prop:=LeK a b/\(b.2.2 < a.2.2\/a.2=b.2)
theorem Ib(a b:Int×Int):Bt a b=true↔a.1<=b.1/\a.2<=b.2/\a≠b:=by
 unfold Bt;obtain ⟨a1,a2⟩:=a;obtain ⟨b1,b2⟩:=b;simp only[cB,decide_eq_true_eq,lR,mS,jZ,beq_eq_false_iff_ne,ne_eq,sL];constructor
 ·rintro ⟨h1,h2,h3⟩;exact ⟨h1,h2,fun e=>h3.elim (fun q=>q e.1) (fun q=>q e.2)⟩
 ·rintro ⟨h1,h2,h3⟩;refine ⟨h1,h2,?_⟩;by_cases e:a1=b1
  ·exact .inr fun q=>h3 ⟨e,q⟩
  ·exact .inl e
theorem Ake{a b:P3}(h:LeK a b)(hb:Bt a.2 b.2=false):Rr a b:=by
 refine ⟨h,?_⟩;by_cases e:a.2=b.2
 ·exact .inr e
 ·left;have:¬ (a.2.1<=b.2.1/\a.2.2<=b.2.2/\a.2≠b.2):=fun q=>by rw[(Ib _ _).mpr q] at hb;cases hb
  unfold LeK at h;have:¬ (a.2.2<=b.2.2):=fun q=>this ⟨Ze,q,e⟩
  omega
theorem Rr.no{a b:P3}(h:Rr a b):Bt a.2 b.2=false/\Bt b.2 a.2=false:=by
 obtain ⟨h1,h2⟩:=h;unfold LeK at h1;constructor
 ·cases hb:Bt a.2 b.2 with
  | false=>rfl
  | true=>
   rw[Ib] at hb;rcases h2 with h2 | h2
   ·omega
   ·exact absurd h2 hb.2.2
 ·cases hb:Bt b.2 a.2 with
  | false=>rfl
  | true=>
   rw[Ib] at hb;rcases h2 with h2 | h2
   ·exact absurd (xB Ze Ze) hb.2.2
   ·exact absurd h2.symm hb.2.2
theorem Rr.tr{a b c:P3}(h:Rr a b)(h2:Rr b c)(hl:LeK a c):Rr a c:=by
 refine ⟨hl,?_⟩;rcases h.2 with x | x
 ·rcases h2.2 with y | y
  ·left;omega
  ·left;rw[<- y];exact x
 ·rcases h2.2 with y | y
  ·left;rw[x];exact y
  ·right;rw[x,y]
structure Laid(cs:tq)(dn:ah):Prop where
 ne:∀ ch∈cs,ch≠[]
 perm:(cs.flatten.map (·.1)).Perm dn
 chn:∀ ch∈cs,ch.Pairwise fun a b=>Bt a.1.2 b.1.2=true
 cr:∀ (t:Nat) (ch:jq),cs[t]? = ξ ch->∀ e∈ch,e.2.length=t+1/\e.2.getLast? = ξ e.1/\e.2.Pairwise Rr/\(∀ c∈e.2,c∈dn)/\e.2.Nodup
theorem Laid.start:Laid [] [] where
 ne ch h:=by cases h
 perm:=.nil
 chn ch h:=by cases h
 cr t ch h:=by simp at h
variable {cs:tq}{dn:ah}
theorem S0(A:Laid cs dn)(hle:∀ c∈dn,LeK c p)(hp:p∉dn)(ht:t=jo) :
  (Cm cs t++[p]).length=t+1/\(Cm cs t++[p]).Pairwise Rr/\(∀ c∈Cm cs t,c∈dn)/\(Cm cs t++[p]).Nodup:=by
 cases t with
 | zero=>simp[Cm]
 | succ t=>
  have htl:t < cs.length:=by
   have:=lV (p:=Mx p) (xs:=cs);unfold turnOf at ht;omega
  have hno:Mx p cs[t]=false:=by
   have:=List.not_of_lt_findIdx (p:=Mx p) (xs:=cs) (i:=t) (by unfold turnOf at ht;omega);simpa using this
  have hmem:cs[t]∈cs:=cS htl;obtain ⟨e,he⟩:∃ e,cs[t].getLast? = ξ e:=by
   cases hg:cs[t].getLast? with
   | none=>exact absurd (gH.mp hg) (A.ne _ hmem)
   | some e=>exact ⟨e,rfl⟩
  have hem:e∈cs[t]:=mZ he;obtain ⟨c1,c2,c3,c4,c5⟩:=A.cr t _ (aC htl) e hem;have hcr:Cm cs (t+1)=e.2:=by
   show ((cs.getD t []).getLast?.map (·.2)).getD []=e.2;rw[aE,aC htl];simp[he]
  have hbl:Bt e.1.2 p.2=false:=by unfold Mx at hno;rw[he] at hno;exact hno
  have hep:e.1∈e.2:=mZ c2;have hR:Rr e.1 p:=Ake (hle _ (c4 _ hep)) hbl;rw[hcr];refine ⟨by rw[cG,c1];rfl,iC.mpr ⟨c3,Za,fun c hc q hq=>?_⟩,c4,fD.mpr ⟨c5,Za,fun c hc q hq=>?_⟩⟩
  ·rw[bV.mp hq];by_cases hce:c=e.1
   ·rw[hce];exact hR
   ·have hce':Rr c e.1:=by
     obtain ⟨ini,hini⟩:=oT.mp c2;rw[hini] at c3 hc;rcases cQ.mp hc with h | h
     ·exact (iC.mp c3).2.2 c h e.1 Za
     ·exact absurd (bV.mp h) hce
    exact hce'.tr hR (hle _ (c4 _ hc))
  ·rw[bV.mp hq];intro h;rw[h] at hc;exact hp (c4 _ hc)
theorem Laid.step(A:Laid cs dn)(hle:∀ c∈dn,LeK c p)(hp:p∉dn):Laid (lay cs p) (dn++[p]):=by
 obtain ⟨f1,f2,f3,f4⟩:=S0 A hle hp (t:=jo) rfl;have hnew:∀ e:En,e=(p,Cm cs jo++[p])->e.2.length=jo+1/\e.2.getLast? = ξ e.1/\e.2.Pairwise Rr/\(∀ c∈e.2,c∈dn++[p])/\e.2.Nodup:=fun e he=>by
  subst he;refine ⟨f1,Za,f2,fun c hc=>?_,f4⟩;rcases cQ.mp hc with h | h
  ·exact eG _ (f3 c h)
  ·exact aW _ h
 have hold:∀ (t:Nat) (ch:jq),cs[t]? = ξ ch->∀ e∈ch,e.2.length=t+1/\e.2.getLast? = ξ e.1/\e.2.Pairwise Rr/\(∀ c∈e.2,c∈dn++[p])/\e.2.Nodup:=fun t ch h e he=>by
  obtain ⟨a,b,c,d,f⟩:=A.cr t ch h e he;exact ⟨a,b,c,fun x hx=>eG _ (d x hx),f⟩
 have htl:jo<=cs.length:=lV;unfold lay;by_cases h:jo=cs.length
 ·rw[if_pos h];refine ⟨fun ch hc=>?_,?_,fun ch hc=>?_,fun t ch hc e he=>?_⟩
  ·rcases cQ.mp hc with q | q
   ·exact A.ne ch q
   ·rw[bV.mp q];simp
  ·rw[kM,dF];simpa using A.perm.append_right [p]
  ·rcases cQ.mp hc with q | q
   ·exact A.chn ch q
   ·rw[bV.mp q];simp
  ·by_cases ht:t < cs.length
   ·rw[bH ht] at hc;exact hold t ch hc e he
   ·have hl:=(aI.mp hc).1;rw[cG,gO] at hl;have:t=cs.length:=Ze
    subst this;rw[bX be,dA] at hc;cases hc;have:=hnew e (bV.mp he);rw[h] at this;exact this
 ·rw[if_neg h];have hlt:jo < cs.length:=Ze
  have hg:cs.getD jo []=cs[jo]:=by rw[aE,aC hlt];rfl
  rw[hg];have htk:Mx p cs[jo]=true:=List.findIdx_getElem (w:=hlt);have hmem:cs[jo]∈cs:=cS hlt;refine ⟨fun ch hc=>?_,?_,fun ch hc=>?_,fun t ch hc e he=>?_⟩
  ·rcases oU hc with q | q
   ·exact A.ne ch q
   ·rw[q];simp
  ·have hsplit:cs=cs.take jo++cs[jo]::cs.drop (jo+1):=by
    rw[<- kH hlt,mF]
   have hset:cs.set jo (cs[jo]++[(p,Cm cs jo++[p])])=cs.take jo++(cs[jo]++[(p,Cm cs jo++[p])])::cs.drop (jo+1):=List.set_eq_take_append_cons_drop.trans (if_pos hlt);rw[hset];have hper:=A.perm;rw[hsplit] at hper;simp only[kM,eQ,dF,aQ,bY] at hper ⊢;refine wN ?_ (hper.append_right [p]);simp only[cM];refine mE _ (mE _ ?_);exact List.perm_append_comm
  ·rcases oU hc with q | q
   ·exact A.chn ch q
   ·rw[q];refine iC.mpr ⟨A.chn _ hmem,Za,fun a ha b hb=>?_⟩;rw[bV.mp hb];show Bt a.1.2 p.2=true;cases hgl:cs[jo].getLast? with
    | none=>unfold Mx at htk;rw[hgl] at htk;cases htk
    | some e=>
     have hbe:Bt e.1.2 p.2=true:=by unfold Mx at htk;rw[hgl] at htk;exact htk
     by_cases hae:a=e
     ·rw[hae];exact hbe
     ·obtain ⟨ini,hini⟩:=oT.mp hgl;have hch:=A.chn _ hmem;rw[hini] at hch ha;rcases cQ.mp ha with q2 | q2
      ·exact Uw ((iC.mp hch).2.2 a q2 e Za) hbe
      ·exact absurd (bV.mp q2) hae
  ·by_cases ht:t=turnOf cs p
   ·rw[ht,bL hlt] at hc;cases hc;rcases cQ.mp he with q | q
    ·rw[ht];exact hold _ _ (aC hlt) e q
    ·rw[ht];exact hnew e (bV.mp q)
   ·rw[bF (eJ ht)] at hc;exact hold t ch hc e he
def Ce(qs:ah):tq:=qs.foldl lay []
theorem Acq:∀ (qs:ah) (cs:tq) (dn:ah),Laid cs dn->(dn++qs).Pairwise LeK->(dn++qs).Nodup->Laid (qs.foldl lay cs) (dn++qs)
 | [],cs,dn,A,_,_=>by rw[bB];exact A
 | p::qs,cs,dn,A,h,hn=>by
  have e:dn++p::qs=(dn++[p])++qs:=Za
  obtain ⟨_,_,h3⟩:=iC.mp h;obtain ⟨_,_,n3⟩:=fD.mp hn;have A':=A.step (p:=p) (fun c hc=>h3 c hc p Za) fun hp=>n3 p hp p Za rfl
  rw[e] at h hn ⊢;exact Acq qs _ _ A' h hn
theorem Jh(qs:ah)(h:qs.Pairwise LeK)(hn:qs.Nodup):Laid (Ce qs) qs:=Acq qs [] [] Laid.start h hn
theorem Su{c:FT}{f:FS}(h:c δ L=ξ (false,L')):Fb c f Cy δ L=ξ (.nx δ,L'):=by
 rw[fIfS_eq,h];rfl
variable {L1:UH}
theorem Ah9{c d:FT}{L2:UH}(h:c δ L=ξ (false,L1))(h2:d δ L1=ξ (false,L2)):fOr c d δ L=ξ (false,L2):=by
 rw[fOr_eq,h];exact h2
theorem Jf{f:FE}{b:Bool}(h:tm=ξ (.bl b,L')):Bn f δ L=ξ (b,L'):=by
 rw[fTest_eq,h];rfl
variable {L3:UH}
theorem B4{s:S2}{L2:UH}{w:U}(h1:fa δ L=ξ (u,L1))(h2:fb δ L1=ξ (v,L2))(h:s u v L2=ξ (w,L3)):f2 s fa fb δ L=ξ (w,L3):=by
 rw[f2_eq,h1];simp only[aA,h2,h]
variable {us:aa}
theorem fnN{b:FS}(hn:us.length=k)(h:b (us.map ξ++bP (n - k) ψ) L=ξ (.rt v,L')):fnU n k b us L=ξ (v,L'):=by
 subst hn;unfold fnU;rw[jv,h];rfl
theorem E4(e:fe δ L=ξ (v,L')):B0 fe δ L=ξ (.rt v,L'):=by rw[fRet_eq,e];rfl
theorem Ek{s:SC}{L2:UH}(h:fa δ L=ξ (u,L1))(e:s [u] L1=ξ (v,L2)):(lm s fa) δ L=ξ (v,L2):=by
 rw[fCall_eq,fCons_eq,h];exact e
theorem Ql{f:FN}{w:U}{L2:UH}(h:fa δ L=ξ (u,L1))(h2:fb δ L1=ξ (w,L2))(e:f [u,w] L2=ξ (v,L')):(Av 2 f (rh fa fb)) δ L=ξ (v,L'):=by
 rw[fOwn_eq,fCons_eq,h];simp only[aA,fCons_eq,h2,fNil_eq,aD,aR,bG,if_true,e]
theorem A0c{f:FN}{fc:FE}{w x:U}{L2:UH}(h:fa δ L=ξ (u,L1))(h2:fb δ L1=ξ (w,L2))(h3:fc δ L2=ξ (x,L3))(e:f [u,w,x] L3=ξ (v,L')):(Av 3 f (gi fa fb (a7 fc))) δ L=ξ (v,L'):=by
 rw[fOwn_eq,fCons_eq,h];simp only[aA,fCons_eq,h2,h3,fNil_eq,aD,aR,bG,if_true,e]
theorem Aa7(h:fe δ L=ξ (eo,L')):(Ox (Gp fe)) δ L=ξ (false,L'):=by
 rw[Ou,fTru_eq,h];rfl
theorem Ae4{l:aa}(h:l[k]? = br):L2.atI l (k:Int)=br:=by
 have:=(aI.mp h).1;rw[Ny Ze Ze,eE,h]
theorem Rp{l:aa}{i:Int}(h:L[n]? = Ξ l)(hu:L2.atI l i=br):Al di ce L=ξ (u,L):=by
 rw[semIx_ref,Aj h];simp only[aA,hu,aD]
theorem A1r(h:fa δ L=ξ (u,L')):(Dp (a7 fa)) δ L=ξ (.tup [u],L'):=by
 rw[Ha,fCons_eq,h];simp only[aA,fNil_eq,aD];rw[kw (by show 1<=16777216;decide)]
theorem Au8{L2:UH}(h:fa δ L=ξ (u,L1))(h2:fb δ L1=ξ (v,L2)):(Dp (rh fa fb)) δ L=ξ (.tup [u,v],L2):=by
 rw[Ha,fCons_eq,h,aA,fCons_eq,h2];simp only[aA,fNil_eq,aD];rw[kw (by show 2<=16777216;decide)]
theorem Ad4(δ:UE)(L:UH):(mh) δ L=ξ (cf,L++[fz]):=by
 rw[fLst_eq,fNil_eq];rfl
theorem atI_last{β:Type}{l:ed}{a:β}(h:l.getLast? = m7):L2.atI l (-1)=m7:=by
 have hl:l≠[]:=by rintro rfl;cases h
 have hn:0 < l.length:=gD.mpr hl;unfold L2.atI L2.ixN;rw[if_neg Zb];have e:-(l.length:Int)<=-1:=Ze
 rw[if_pos e];have e2:((-1:Int)+(l.length:Int)).toNat=l.length - 1:=Ze
 rw[oV] at h;simp[e2,h]
theorem Alu(a b:aa)(h:a.length+b.length<=1000)(L:UH):Ly (.tup a) (.tup b) L=ξ (.tup (a++b),L):=by
 cases a with
 | nil=>rfl
 | cons x a=>
  show Bd (.tup (x::a)) (.tup b) L=_;unfold Bd;simp only;rw[if_pos ⟨rfl,small_of Ze⟩]
def nmC(q:P3):U:=.str q.1
def eU(e:En):U:=.tup [p3U e.1,.tup (e.2.map nmC)]
structure CH(M:UH)(lo c:Nat)(rs:Ω)(cs:tq):Prop where
 at_:M[c]? = Ξ f9
 len:rs.length=cs.length
 ch:∀ (i r:Nat) (l:jq),rs[i]? = ξ r->cs[i]? = ξ l->M[r]? = Ξ (l.map eU)
 nd:rs.Nodup
 nc:c∉rs
 lo:lo<=c/\∀ r∈rs,lo<=r
variable {lo:Nat}
theorem CH.gw{c:Nat}(A:CH M lo c rs cs)(g:Gw M M'):CH M' lo c rs cs:=⟨g.get A.at_,A.len,fun i r l h1 h2=>g.get (A.ch i r l h1 h2),A.nd,A.nc,A.lo⟩
theorem CH.get{c:Nat}(A:CH M lo c rs cs){l:jq}(h:cs[i]? = ξ l):∃ r,rs[i]? = ξ r/\M[r]? = Ξ (l.map eU):=by
 have hi:=(aI.mp h).1;have hr:i < rs.length:=by rw[A.len];exact hi
 exact ⟨rs[i],aC hr,A.ch i _ l (aC hr) h⟩
variable {r:Nat}
theorem Aad{l:jq}{e:En}(h:M[r]? = Ξ (l.map eU))(he:l.getLast? = ξ e):Al ig (.int (-1)) M=ξ (eU e,M):=Rp h (atI_last (by rw[tZ,he];rfl))
theorem Apu(δ:UE)(L:UH):(P1 m8) δ L=ξ (.int (-1),L):=rfl
theorem Al1{l:jq}{e:En}(h:M[r]? = Ξ (l.map eU))(he:l.getLast? = ξ e)(p:P3)(x0 x2:az):∃ x,(Gp (Av 2 Bv (rh (Av 1 Bb (a7 (gm Al (ae Al 3 (P1 m8)) 0))) (ay 1 Bb 1 Af)))) [x0,ke,x2,η r] M=ξ (Mx p l,M++x):=by
 obtain ⟨x,ex⟩:=lies_ok e.1.2 p.2 M;refine ⟨x,?_⟩;have t:Mx p l=Bt e.1.2 p.2:=by unfold Mx;rw[he]
 have a1:(gm Al (ae Al 3 (P1 m8)) 0) [x0,ke,x2,η r] M=ξ (p3U e.1,M):=B4 (B4 rfl (Apu _ M) (Aad h he)) rfl rfl;have a2:(Av 1 Bb (a7 (gm Al (ae Al 3 (P1 m8)) 0))) [x0,ke,x2,η r] M=ξ (pr e.1.2,M):=by
  rw[fOwn_eq,fCons_eq,a1];simp only[aA,fNil_eq,aD,aR,bG,if_true,Dx]
 have a3:(ay 1 Bb 1 Af) [x0,ke,x2,η r] M=ξ (oy,M):=Gf rfl (Dx p M);rw[t,fTru_eq,Ql a2 a3 ex];rfl
theorem Ano{c:Nat}(A:CH M lo c rs cs)(hne:∀ ch∈cs,ch≠[])(p:P3):∃ M',D8 [ow,p3U p] M=ξ (.int (turnOf cs p:Nat),M')/\Gw M M':=by
 have hsq:=Aj A.at_;have hen:(enU f9).length=cs.length:=by simp[enU,A.len]
 have hi:(Xx (df 0)) [vk,ke,ψ,ψ] M=ξ (.enm c,M):=by
  unfold Xx;have v:Ad 0 [vk,ke,ψ,ψ] M=ξ (ow,M):=rfl;simp only[fCons_eq,v,aA,fNil_eq,aD,hsq]
 have key:=Aqr (us:=enU f9) (it:=.enm c) (body:=Dd) (g:=(li 2 2 3))
  (fun k δ L=>(∃ y2 y3,δ = [vk,ke,y2,y3])/\Gw M L) (fun k L=>Gw M L) (fun k=>Mx p (cs.getD k [])) (fun k=>.int (k:Int)) hi (by rw[An8 hsq];exact be)
  (fun k δ L _ ⟨_,g⟩=>Av1 (Aj (g.get A.at_))) ⟨⟨_,_,rfl⟩,Gw.refl _⟩
  (fun k u δ L hu ⟨⟨y2,y3,hδ⟩,g⟩=>by
   subst hδ;have hk:=(aI.mp hu).1;rw[hen] at hk;have:(enU f9)[k]? = ((f9)[k]?).map fun u=>U.tup [.int (k:Int),u]:=by simp[enU]
   rw[this,aX] at hu;obtain ⟨w,hw,rfl⟩:=aH.mp hu;obtain ⟨r,hr,rfl⟩:=aH.mp hw;have hc:cs[k]? = ξ cs[k]:=aC hk;have hg:cs.getD k []=cs[k]:=by rw[aE,hc];rfl
   have hm:=g.get (A.ch k r _ hr hc);obtain ⟨e,he⟩:∃ e,cs[k].getLast? = ξ e:=by
    cases hg:cs[k].getLast? with
    | none=>exact absurd (gH.mp hg) (hne _ (cS hk))
    | some e=>exact ⟨e,rfl⟩
   obtain ⟨x,ex⟩:=Al1 hm he p vk (χ (k:Int));refine ⟨[vk,ke,χ (k:Int),η r],L,rfl,fun hs=>⟨L++x,?_,g.trans gl⟩,fun hs=>⟨[vk,ke,χ (k:Int),η r],L++x,?_,ik _ _,g.trans gl⟩⟩
   ·rw[hg] at hs;rw[hs] at ex;unfold Dd;rw[fIfS_eq,ex];rfl
   ·rw[hg] at hs;rw[hs] at ex;exact Su ex)
 have hb:∀ v M',(Fu (Xx (df 0)) (li 2 2 3) Dd) [vk,ke,ψ,ψ] M=ξ (.rt v,M')->D8 [ow,p3U p] M=ξ (v,M'):=fun v M' h=>by
  refine fnN rfl ?_;unfold F5;show Az _ _ [vk,ke,ψ,ψ] M=_;rw[fSeq_eq,h];rfl
 rw[hen] at key;rcases key with ⟨j,hj,hs,hall,L',e,g⟩ | ⟨hall,δ',L',e,⟨y2,y3,hδ⟩,g⟩
 ·refine ⟨L',?_,g⟩;have ht:jo=j:=by
   unfold turnOf;rw[List.findIdx_eq hj];refine ⟨by rw[aE,aC hj] at hs;exact hs,fun i hi=>?_⟩;have:=hall i hi;rw[aE,aC Ze] at this;exact this
  rw[ht];exact hb _ _ e
 ·refine ⟨L',?_,g⟩;have ht:jo=cs.length:=by
   unfold turnOf;rw[List.findIdx_eq_length];intro ch hc;obtain ⟨i,hi,rfl⟩:=dE hc;have:=hall i hi;rw[aE,km] at this;exact this
  rw[ht,<- A.len];rw[hδ] at e;refine fnN rfl ?_;unfold F5;show Az _ _ [vk,ke,ψ,ψ] M=_;rw[Ak e];have:=Mh (g.get A.at_);rw[aL] at this;exact E4 (Ek rfl this)
theorem Af0{c:Nat}(A:CH M lo c rs cs)(hne:∀ ch∈cs,ch≠[])(ht:t<=cs.length)(x0 x2 x4:az) :
  (fIf (Bn (bz Sf 3 0)) (gm Al (f2 Al (ae Al 1 (bz Nc 3 1)) (P1 m8)) 1) (Dp Af)) [x0,vk,x2,χ (t:Nat),x4] M=ξ (.tup ((Cm cs t).map nmC),M):=by
 rw[Avx];cases t with
 | zero=>
  have c1:(Bn (bz Sf 3 0)) [x0,vk,x2,χ ((0:Nat):Int),x4] M=ξ (false,M):=rfl;rw[c1];rfl
 | succ t=>
  have c1:(Bn (bz Sf 3 0)) [x0,vk,x2,χ ((t+1:Nat):Int),x4] M=ξ (decide ((0:Int) < ((t+1:Nat):Int)),M):=rfl;have d1:decide ((0:Int) < ((t+1:Nat):Int))=true:=Za
  rw[c1,d1];simp only[aA,if_true];have hc:cs[t]? = ξ cs[t]:=aC Ze;obtain ⟨r,hr,hm⟩:=A.get hc;obtain ⟨e,he⟩:∃ e,cs[t].getLast? = ξ e:=by
   cases hg:cs[t].getLast? with
   | none=>exact absurd (gH.mp hg) (hne _ (cS Ze))
   | some e=>exact ⟨e,rfl⟩
  have hcr:Cm cs (t+1)=e.2:=by
   show ((cs.getD t []).getLast?.map (·.2)).getD []=e.2;rw[aE,hc];simp[he]
  rw[hcr];have s:(bz Nc 3 1) [x0,vk,x2,χ ((t+1:Nat):Int),x4] M=ξ (.int (t:Int),M):=by
   refine B4 rfl rfl ?_;show ξ (U.int (((t+1:Nat):Int) - 1),M)=_
   congr 2
   rw[U.int.injEq];omega
  exact B4 (B4 (B4 rfl s (Rp A.at_ (Ae4 (by rw[aX,hr];rfl)))) (Apu _ M) (Aad hm he)) rfl rfl
theorem Aks{c:Nat}(A:CH M lo c rs cs)(hlo:lo<=M.length)(hne:∀ ch∈cs,ch≠[])(hl:cs.length<=60)(hll:∀ ch∈cs,ch.length<=60)(p:P3)(hcr:(Cm cs jo).length<=60)(x0 x3 x4:az) :
  ∃ (y3 y4:az) (rs':Ω) (M':UH),Ef [x0,vk,ke,x3,x4] M=ξ (.nx [x0,vk,ke,y3,y4],M')/\CH M' lo c rs' (lay cs p)/\(∀ L,L.length<=lo->Gw L M->Gw L M')/\(∀ b o,b≠c->b∉rs->M[b]? = ao->M'[b]? = ao/\b∉rs'):=by
 obtain ⟨M1,e1,g1⟩:=Ano A hne p;have ht:jo<=cs.length:=lV;have s1:=C5 (i:=3) (Ql (fa:=dq) (fb:=v5) (δ:=[x0,vk,ke,x3,x4]) rfl rfl e1);simp only[aZ,bA] at s1;have A1:=A.gw g1;have s2:=C5 (i:=4) (Af0 A1 hne ht x0 ke x4);simp only[aZ,bA] at s2;have hln:=Mh A1.at_;rw[aL,A1.len] at hln;have c3:(Bn (ae By 3 (gg Bc 1))) [x0,vk,ke,χ (turnOf cs p:Nat),Γ ((Cm cs jo).map nmC)] M1=ξ (((turnOf cs p:Nat):Int) == (cs.length:Int),M1):=Jf (B4 rfl (Ek rfl hln) rfl);have hcs:=(aI.mp A1.at_).1;generalize hcw:Cm cs jo=cw at s2 c3 hcr;have ent:∀ M2:UH,(Dp (Δ 2 (a7 (ae Ly 4 (Dp (a7 (nb 2 0))))))) Zq M2=ξ (eU (p,cw++[p]),M2):=fun M2=>by
  have a1:=B4 (s:=Ly) (fa:=Ad 4) (fb:=Dp (a7 (nb 2 0))) (δ:=Zq) (L:=M2) rfl (A1r Zad) (Alu rq [nmC p] (by rw[aL];simp;omega) M2);have a2:=Au8 (fa:=v5) (δ:=Zq) (L:=M2) rfl a1;rw[a2];unfold eU;rw[dF];rfl
 have lays:lay cs p=if turnOf cs p=cs.length then cs++[[(p,cw++[p])]] else cs.set jo (cs.getD jo []++[(p,cw++[p])]):=by unfold lay;rw[hcw]
 by_cases h:jo=cs.length
 ·have hb:(((turnOf cs p:Nat):Int) == (cs.length:Int))=true:=by rw[h];simp
  rw[hb] at c3;have ap:=G5 ng ((Gw.new M1 [c7]).get A1.at_) (by rw[aL,A1.len];omega);have ty:=Ia A1.at_;have s3:(Fb (Bn (ae By 3 (gg Bc 1))) (Hv (vq B9 dq (a7 mh))) Cy) Zq M1=ξ (.nx Zq,(M1++[c7]).set c (.lst (f9++[ng]))):=by
   rw[fIfS_eq,c3];simp only[aA,if_true];have v:Ad 1 Zq M1=ξ (ow,M1):=rfl;rw[Hf,fMeth_eq,v];simp only[aA,ty,if_true];rw[fCons_eq,Ad4];simp only[aA,fNil_eq,aD,ap]
  have hcn:c≠M1.length:=Ze
  have q1:((M1++[c7]).set c (.lst (f9++[ng])))[c]? = Ξ ((rs++[M1.length]).map U.ref):=by
   rw[bL (by simp;omega),dF];rfl
  have q2:((M1++[c7]).set c (.lst (f9++[ng])))[M1.length]? = Ξ []:=by
   rw[bF hcn];simp
  have q3:∀ b o,b≠c->M1[b]? = ao->((M1++[c7]).set c (.lst (f9++[ng])))[b]? = ao:=fun b o hb ho=>by
   rw[bF (eJ hb)];exact (cc M1).get ho
  have qg:∀ L,L.length<=lo->Gw L M1->Gw L ((M1++[c7]).set c (.lst (f9++[ng]))):=fun L hL g=>(g.trans gl).set (by have:=A.lo.1;omega) _
  have ql:M1.length < ((M1++[c7]).set c (.lst (f9++[ng]))).length:=Za
  generalize (M1++[c7]).set c (.lst (f9++[ng]))=M2 at s3 q1 q2 q3 qg ql;have hix:Al ow (.int (turnOf cs p:Nat)) M2=ξ (ng,M2):=Rp q1 (Ae4 (by rw[h,<- A1.len];simp));have ap2:=G5 (eU (p,cw++[p])) q2 Za;have ty2:=Ia q2;have hrsn:M1.length∉rs:=fun hm=>by
   obtain ⟨i,hi,he⟩:=dE hm;have hci:i < cs.length:=by rw[<- A1.len];exact hi
   have:=(aI.mp (A1.ch i rs[i] _ km (aC hci))).1;omega
  refine ⟨χ (turnOf cs p:Nat),Γ rq,rs++[M1.length],M2.set M1.length (.lst ([]++[eU (p,cw++[p])])),?_,?_,fun L hL g=>(qg L hL (g.trans g1)).set (by have:=(g.trans g1).le;omega) _,fun b o hb hbr ho=>?_⟩
  ·unfold Ef;rw[mf,Ak s2,Ak s3];have v:(ae Al 1 nr) Zq M2=ξ (ng,M2):=B4 rfl rfl hix;rw[Hf,fMeth_eq,v];simp only[aA,ty2,if_true];rw[fCons_eq,ent M2];simp only[aA,fNil_eq,aD,ap2]
  ·rw[lays,if_pos h];refine ⟨?_,by simp[A1.len],fun i r l h1 h2=>?_,?_,?_,A.lo.1,fun r hr=>?_⟩
   ·rw[bF (eJ hcn)];exact q1
   ·by_cases hi:i < cs.length
    ·rw[bH (by rw[A1.len];exact hi)] at h1;rw[bH hi] at h2;have hrm:r∈rs:=bT h1;have hx:M1.length≠r:=fun e=>hrsn (by rw[e];exact hrm)
     rw[bF hx];exact q3 r _ (fun e:r=c=>A1.nc (by rw[<- e];exact hrm)) (A1.ch i r l h1 h2)
    ·have hl2:=(aI.mp h2).1;rw[cG,gO] at hl2;have:i=cs.length:=Ze
     subst this;rw[bX be,dA] at h2;cases h2;rw[<- A1.len,bX be,dA] at h1;cases h1;rw[bL ql];rfl
   ·exact fD.mpr ⟨A1.nd,Za,fun a ha b hb e=>hrsn (by rw[bV.mp hb] at e;exact e ▸ ha)⟩
   ·intro hm;rcases cQ.mp hm with q | q
    ·exact A1.nc q
    ·exact hcn (bV.mp q)
   ·rcases cQ.mp hr with q | q
    ·exact A1.lo.2 r q
    ·rw[bV.mp q];have:=g1.le;omega
  ·have hbl:=(aI.mp ho).1;have:=g1.le;have hx:M1.length≠b:=Ze
   refine ⟨?_,fun hm=>?_⟩
   ·rw[bF hx];exact q3 b o hb (g1.get ho)
   ·rcases cQ.mp hm with q | q
    ·exact hbr q
    ·exact hx (bV.mp q).symm
 ·have hb:(((turnOf cs p:Nat):Int) == (cs.length:Int))=false:=by simp;omega
  rw[hb] at c3;have hlt:jo < cs.length:=Ze
  have hc:cs[jo]? = ξ cs[jo]:=aC hlt;obtain ⟨r,hr,hm⟩:=A1.get hc;have hrm:r∈rs:=bT hr;have hrl:=(aI.mp hm).1;have hix:Al ow (.int (turnOf cs p:Nat)) M1=ξ (ig,M1):=Rp A1.at_ (Ae4 (by rw[aX,hr];rfl));have ap:=G5 (eU (p,cw++[p])) hm (by rw[aL];have:=hll _ (cS hlt);omega)
  have ty:=Ia hm;refine ⟨χ (turnOf cs p:Nat),Γ rq,rs,M1.set r (.lst (cs[jo].map eU++[eU (p,cw++[p])])),?_,?_,fun L hL g=>(g.trans g1).set (by have:=A1.lo.2 r hrm;omega) _,fun b o hb hbr ho=>⟨?_,hbr⟩⟩
  ·unfold Ef;rw[mf,Ak s2,Ak (Su c3)];have v:(ae Al 1 nr) Zq M1=ξ (ig,M1):=B4 rfl rfl hix;rw[Hf,fMeth_eq,v];simp only[aA,ty,if_true];rw[fCons_eq,ent M1];simp only[aA,fNil_eq,aD,ap]
  ·rw[lays,if_neg h];have hg:cs.getD jo []=cs[jo]:=by rw[aE,hc];rfl
   rw[hg];refine ⟨?_,by simp[A1.len],fun i r' l h1 h2=>?_,A1.nd,A1.nc,A1.lo⟩
   ·have hx:r≠c:=fun e=>A1.nc (by rw[<- e];exact hrm)
    rw[bF hx];exact A1.at_
   ·by_cases hi:i=turnOf cs p
    ·rw[hi,hr] at h1;cases h1;rw[hi,bL hlt] at h2;cases h2;rw[bL hrl,dF];rfl
    ·rw[bF (eJ hi)] at h2;have hne2:r≠r':=fun e=>by
      subst e;obtain ⟨i1,e1⟩:=aI.mp h1;obtain ⟨i2,e2⟩:=aI.mp hr;have hpw:=cK.mp (fX.mp A1.nd);rcases lU i jo with q | q | q
      ·exact hpw i _ i1 i2 q (e1.trans e2.symm)
      ·exact hi q
      ·exact hpw _ i i2 i1 q (e2.trans e1.symm)
     rw[bF hne2];exact A1.ch i r' l h1 h2
  ·have hx:r≠b:=fun e=>hbr (by rw[<- e];exact hrm)
   rw[bF hx];exact g1.get ho
theorem key_of_ok(p:P3)(L:UH):Pw Bb L (p3U p)=ξ (T5 p.2):=by
 unfold Pw;rw[Dx p L];simp only[aA,if_true];rfl
theorem Ahj(L:UH):∀ ps:ah,mapO (Pw Bb L) θ=ξ (ps.map fun p=>T5 p.2)
 | []=>rfl
 | p::ps=>by
  rw[aQ,aQ];simp only[mapO,key_of_ok,Ahj L ps,aA,aD]
theorem Alp(hl:ps.length<=60)(h:Ad 0 δ L=ξ (el,L)):Oo Bb dg δ L=ξ (cf,L++[.lst ((jf).map p3U)]):=by
 have hall:((ps.map fun p=>T5 p.2).all fun t=>!t.isEmpty)=true:=by
  rw[bO];intro t ht;obtain ⟨p,_,rfl⟩:=bK.mp ht;rfl
 unfold Oo;rw[h];simp only[aA,Ahj];rw[if_pos ⟨by rw[aL];omega,hall⟩];have:(jf).map p3U=(SO.Cr (ltK (ps.map fun p=>T5 p.2)) (θ).length).map fun i=>(θ).getD i .non:=by
  unfold srt Ao8;rw[bU,aL];refine dG fun i hi=>?_
  have hi:i < ps.length:=bM.mp ((Oq ps).mem_iff.mp hi);show p3U (ps.getD i Aj3)=(θ).getD i .non;rw[aE,aE,aX,km];rfl
 rw[this]
theorem Ale(cs:tq)(h:∀ ch∈cs,ch≠[]):cs.length<=cs.flatten.length/\∀ ch∈cs,ch.length<=cs.flatten.length:=by
 induction cs with
 | nil=>simp
 | cons c cs ih=>
  obtain ⟨i1,i2⟩:=ih fun ch hc=>h ch (oq hc)
  have:0 < c.length:=gD.mpr (h c (aS ..));rw[eQ,cG,aR];refine ⟨Ze,fun ch hc=>?_⟩;rcases bE.mp hc with e | e
  ·rw[e];omega
  ·have:=i2 ch e;omega
theorem Laid.lens(A:Laid cs dn):cs.length<=dn.length/\∀ ch∈cs,ch.length<=dn.length:=by
 have h:=Ale cs A.ne;have e:=A.perm.length_eq;rw[aL] at e;rw[e] at h;exact h
theorem Yl{β:Type}[DecidableEq β]{a b:ed}(h:a.Nodup)(hs:∀ x∈a,x∈b):a.length<=b.length:=by
 induction a generalizing b with
 | nil=>exact eS _
 | cons x a ih=>
  obtain ⟨h1,h2⟩:=iX.mp h;have hx:=hs x (aS ..);have:=ih (b:=b.erase x) h2 fun y hy=>(rZ (fun e:y=x=>h1 (by rw[<- e];exact hy))).mpr (hs y (oq hy))
  rw[pR hx] at this;have:0 < b.length:=List.length_pos_of_mem hx;rw[aR];omega
theorem Ag7(hl:ps.length<=60)(hn:ps.Nodup)(L:UH):∃ (rs:Ω) (L':UH),F2 [el] L=ξ (cf,L')/\CH L' L.length L.length rs se/\om:=by
 have hup:=Aac ps;have hnd:(jf).Nodup:=(Et ps).nodup_iff.mpr hn;have hlen:(jf).length<=60:=by rw[(Et ps).length_eq];exact hl
 have s1:=C5 (i:=1) (Ad4 [aq,ψ,ψ,ψ,ψ] L);simp only[aZ,bA] at s1;have e2:=Alp (ps:=ps) hl (δ:=[aq,aw,ψ,ψ,ψ]) (L:=L++[fz]) rfl;generalize hqs:jf=qs at hup hnd hlen e2;have hs:(L++[c7]++[HU.lst (qs.map p3U)])[(L++[c7]).length]? = Ξ (qs.map p3U):=Za
 have hi:A7 (Oo Bb dg) [aq,aw,ψ,ψ,ψ] (L++[fz])=ξ (.ref (L++[c7]).length,L++[c7]++[HU.lst (qs.map p3U)]):=by
  rw[C2,e2];simp only[aA,Cq (Aj hs),aD]
 have hsl:L.length≠(L++[c7]).length:=Za
 generalize hsr:(L++[c7]).length=sr at hs hi hsl;have hc0:(L++[c7]++[HU.lst (qs.map p3U)])[L.length]? = Ξ []:=Za
 have g0:Gw L (L++[c7]++[HU.lst (qs.map p3U)]):=(gl).trans gl;generalize L++[c7]++[HU.lst (qs.map p3U)]=L2 at hs hi hc0 g0;obtain ⟨δ',L',e,y2,y3,y4,rs,hδ,A,hsr',hsn,gL⟩:=Tn (us:=qs.map p3U) (n:=sr) (body:=Ef) (g:=gN 2)
  (fun k δ' M=>∃ (y2 y3 y4:az) (rs:Ω),δ'=[aq,aw,y2,y3,y4]/\CH M L.length L.length rs (Ce (qs.take k))/\M[sr]? = Ξ (qs.map p3U)/\sr∉rs/\Gw L M)
  hi ⟨ψ,ψ,ψ,[],rfl,⟨hc0,rfl,fun i r l h=>by simp at h,.nil,Za,be,Za⟩,hs,Za,g0⟩
  (fun k δ M ⟨_,_,_,_,_,_,h,_⟩=>Aj h)
  (fun k u δ M hu ⟨y2,y3,y4,rs,hδ,A,hsr',hsn,gL⟩=>by
   subst hδ;rw[aX] at hu;obtain ⟨p,hp,rfl⟩:=aH.mp hu;have hk:=(aI.mp hp).1;have hpk:qs.take (k+1)=qs.take k++[p]:=by rw[eF,hp];rfl
   have hu1:(qs.take (k+1)).Pairwise LeK:=hup.sublist (jD _ _);have hn1:(qs.take (k+1)).Nodup:=hnd.sublist (jD _ _);have B:=Jh (qs.take k) (hup.sublist (jD _ _)) (hnd.sublist (jD _ _));rw[hpk] at hu1 hn1;obtain ⟨_,_,h3⟩:=iC.mp hu1;obtain ⟨_,_,n3⟩:=fD.mp hn1;obtain ⟨f1,f2,f3,f4⟩:=S0 B (p:=p) (fun c hc=>h3 c hc p Za) (fun hp=>n3 p hp p Za rfl) (t:=turnOf (Ce (qs.take k)) p) rfl;have ln:=B.lens;have htk:(qs.take k).length<=60:=by rw[eW];omega
   have hcl:(Cm (Ce (qs.take k)) (turnOf (Ce (qs.take k)) p)).length<=60:=cC (Yl (fD.mp f4).1 f3) htk;obtain ⟨z3,z4,rs',M',e,A',gk,kp⟩:=Aks A gL.le B.ne Ze (fun ch hc=>cC (ln.2 ch hc) htk) p hcl aq y3 y4;obtain ⟨k1,k2⟩:=kp sr _ (eJ hsl) hsn hsr';refine ⟨[aq,aw,ke,y3,y4],M,rfl,_,M',.inl e,ke,z3,z4,rs',rfl,?_,k1,k2,gk L be gL⟩;rw[hpk];unfold Ce;rw[pI];exact A')
 rw[aL,gX] at A;rw[hδ] at e;refine ⟨rs,L',fnN rfl ?_,A,gL⟩;unfold Pp;show Az _ _ [aq,ψ,ψ,ψ,ψ] L=_;rw[mf,Ak e];rfl
def chU(ch:jq):U:=.tup (ch.map fun e=>nmC e.1)
theorem Uu{l:jq}(h:M[r]? = Ξ (l.map eU))(hl:l.length<=1000):∃ M',Kc [ig] M=ξ (chU l,M')/\Gw M M':=by
 have hsq:=Aj h;obtain ⟨x,e⟩:=Bq (ix:=[ψ,ψ]) (fi:=A7 dg) (it:=.ref r) (g:=(li 2 0 1)) (tt:=ψ) (fe:=Ku) (δ:=[η r]) (L:=M) (L0:=M)
  l eU Zn (fun e=>nmC e.1) Z3 (by simp only[C2,fVar_eq,aP,bD,aD,aA,Cq hsq]) (by rw[Ec hsq];simp) Ze ⟨ψ,ψ,rfl⟩
  (fun k x=>Hr (B6 hsq))
  (fun e δ x _ ⟨a,b,hδ⟩=>by
   subst hδ;refine ⟨[dh e.1,Γ (e.2.map nmC)],rfl,ik _ _,[],by simp[Gz],fun _=>⟨[],?_⟩⟩;rw[bB,bB];rfl)
 have hff:fP Zn l=l:=cW.mpr Zg;rw[hff] at e;have q2:Aq (M++x++[HU.lst (l.map fun e=>nmC e.1)]) (M++x).length=ξ (l.map fun e=>nmC e.1):=Aj Za;refine ⟨M++x++[HU.lst (l.map fun e=>nmC e.1)],fnN rfl (E4 (Ek e ?_)),(gl).trans gl⟩;simp only[Bj,q2,aD];rfl
def Awg(cs:tq):U:=.tup (cs.map chU)
theorem Anq(hl:ps.length<=60)(hn:ps.Nodup)(L:UH):∃ L',Il [el] L=ξ (Awg se,L')/\om:=by
 obtain ⟨rs,L1,e1,A,g1⟩:=Ag7 hl hn L;have B:=Jh jf (Aac ps) ((Et ps).nodup_iff.mpr hn);have ln:=B.lens;have hl2:=(Et ps).length_eq;generalize Ce jf=cs at A B ln;have hsq:=Aj A.at_;have hmap:(rs.zip cs).map (fun q=>U.ref q.1)=f9:=by
  have:(rs.zip cs).map (fun q=>U.ref q.1)=((rs.zip cs).map jE).map U.ref:=by rw[bU];rfl
  rw[this,List.map_fst_zip (nO A.len)]
 have hmap2:(rs.zip cs).map (fun q=>chU q.2)=cs.map chU:=by
  have:(rs.zip cs).map (fun q=>chU q.2)=((rs.zip cs).map cP).map chU:=by rw[bU];rfl
  rw[this,List.map_snd_zip (nO A.len.symm)]
 have hzl:(rs.zip cs).length=cs.length:=by rw[qY,A.len,Nat.min_self]
 obtain ⟨x,e⟩:=Bq (ix:=[ψ]) (fi:=A7 (j8 1 F2 Af)) (it:=.ref L.length) (g:=d8) (tt:=ψ) (fe:=Pu) (δ:=[aq]) (L:=L) (L0:=L1)
  (rs.zip cs) (fun q=>U.ref q.1) Zn (fun q=>chU q.2) (fun δ=>∃ a,δ = [a]) (by rw[C2,Gf rfl e1];simp only[aA,Cq hsq,aD]) (by rw[Ec hsq,hzl,aL,A.len];exact be) (by rw[hzl];omega) ⟨ψ,rfl⟩
  (fun k x=>by rw[hmap];exact Hr (B6 hsq))
  (fun q δ x hq ⟨a,hδ⟩=>by
   subst hδ;obtain ⟨i,hi⟩:=rD.mp hq;obtain ⟨h1,h2⟩:=iT.mp hi;have hm:=(Gw.new L1 x).get (A.ch i q.1 q.2 h1 h2);obtain ⟨M',e,y,hy⟩:=Uu hm (by have:=ln.2 q.2 (bT h2);omega);refine ⟨[η q.1],rfl,jk,[],by simp[Gz],fun _=>⟨y,?_⟩⟩;rw[bB,<- hy];exact Gf rfl e)
 have hff:fP Zn (rs.zip cs)=rs.zip cs:=cW.mpr Zg;rw[hff,hmap2] at e;have q2:Aq (L1++x++[HU.lst (cs.map chU)]) (L1++x).length=ξ (cs.map chU):=Aj Za;refine ⟨L1++x++[HU.lst (cs.map chU)],fnN rfl (E4 (Ek e ?_)),(g1.trans gl).trans gl⟩;simp only[Bj,q2,aD];rfl
def topC(cs:tq):ah:=Cm cs cs.length
theorem Aht(s:Str)(l:Φ):inV (.str s) (l.map L2.V.str)=decide (s∈l):=by
 induction l with
 | nil=>rfl
 | cons a r ih=>
  have h1:inV (.str s) (List.map L2.V.str (a::r))=(eqV (.str a) (.str s) || inV (.str s) (r.map L2.V.str)):=rfl;have h2:eqV (.str a) (.str s)=(a == s):=rfl;rw[h1,ih,h2];by_cases h:a=s
  ·simp[h]
  ·have h':¬ s=a:=fun z=>h z.symm
   simp[h,h']
theorem toV_strs(ts:Φ):mapO toV (ts.map U.str)=ξ (ts.map L2.V.str):=by
 induction ts with
 | nil=>rfl
 | cons t ts ih=>simp only[aQ,mapO,toV,ih,aA,aD]
theorem Akx(ws:ah):ws.map nmC=(ws.map (·.1)).map U.str:=by rw[bU];rfl
theorem Alh(a:Str)(ws:ah)(L:UH):Ph false (.str a) (.tup (ws.map nmC)) L=ξ (.bl ((ws.map (·.1)).contains a),L):=by
 unfold Ph;simp only[Akx,toV,aA,toV_strs,aD,Aht];simp
def inC(w:ah)(p:P3):Bool:=(w.map (·.1)).contains p.1
def Aet(ps:ah):U:=.tup (ps.map nmC)
theorem Amm(hl:ps.length<=60)(hn:ps.Nodup)(L:UH):∃ L',G3 [el] L=ξ (Aet (ps.filter (inC (topC se))),L')/\om:=by
 obtain ⟨rs,L1,e1,A,g1⟩:=Ag7 hl hn L;have B:=Jh jf (Aac ps) ((Et ps).nodup_iff.mpr hn);have hpe:=(Et ps).length_eq;generalize hcs:se=cs at A B;have s1:=C5 (i:=1) (Gf (i:=0) (δ:=[aq,ψ,ψ]) rfl e1);simp only[aZ,bA] at s1;have tr:Qh cf L1=ξ (!(f9).isEmpty):=by
  unfold Qh;simp only[A.at_]
 have c2:(Ox (Gp dq)) [aq,aw,ψ] L1=ξ (!!(f9).isEmpty,L1):=by
  have v:Ad 1 [aq,aw,ψ] L1=ξ (cf,L1):=rfl;rw[Ou,fTru_eq,v];simp only[aA,tr,aD]
 have hb:∀ v M',Mo [aq,ψ,ψ] L=ξ (.rt v,M')->G3 [el] L=ξ (v,M'):=fun v M' h=>fnN rfl h
 by_cases hc:cs=[]
 ·subst hc;have hr:rs=[]:=lF.mp A.len;subst hr;refine ⟨L1,hb _ _ ?_,g1⟩;have hps:ps.filter (inC (topC []))=[]:=jW.mpr fun p _=>by simp[inC,topC,Cm]
  rw[hps];unfold Mo;rw[mf,fSeq_eq,fIfS_eq,c2];rfl
 ·obtain ⟨t,ht⟩:∃ t,cs.length=t+1:=⟨cs.length - 1,by have:=gD.mpr hc;omega⟩;have hne:(f9).isEmpty=false:=by
   cases rs with
   | nil=>have:=A.len;simp at this;exact absurd this.symm Ze
   | cons=>rfl
  rw[hne] at c2;have hct:cs[t]? = ξ cs[t]:=aC Ze;obtain ⟨r,hr,hm⟩:=A.get hct;obtain ⟨e,he⟩:∃ e,cs[t].getLast? = ξ e:=by
   cases hg:cs[t].getLast? with
   | none=>exact absurd (gH.mp hg) (B.ne _ (cS Ze))
   | some e=>exact ⟨e,rfl⟩
  have htop:qp=e.2:=by
   unfold topC;rw[ht];show ((cs.getD t []).getLast?.map (·.2)).getD []=e.2;rw[aE,hct];simp[he]
  have hlast:rs.getLast? = ξ r:=by
   rw[oV,A.len,ht];exact hr
  have s3:=C5 (i:=2) (δ:=[aq,aw,ψ]) (B4 (s:=Al) (fb:=m8) (B4 (s:=Al) (B4 (s:=Al) (fa:=dq) rfl (Apu _ L1) (Rp A.at_ (atI_last (by rw[tZ,hlast];rfl)))) (Apu _ L1) (Aad hm he)) rfl (w:=.tup (e.2.map nmC)) (L3:=L1) rfl);simp only[aZ,bA] at s3;rw[htop];obtain ⟨x,e4⟩:=Bq (ix:=[ψ,m6]) (fi:=A7 dg) (it:=.seq θ) (g:=d8) (tt:=ξ Pk) (fe:=O8) (δ:=[aq,aw,Γ (e.2.map nmC)]) (L:=L1) (L0:=L1)
   ps p3U (inC e.2) nmC (fun δ=>∃ a,δ = [a,Γ (e.2.map nmC)]) rfl (by simp[IU.size]) Ze ⟨ψ,rfl⟩
   Z2
   (fun p δ x _ ⟨y,hδ⟩=>by
    subst hδ;refine ⟨[ke,Γ (e.2.map nmC)],rfl,jk,[],?_,fun _=>⟨[],?_⟩⟩
    ·rw[bB];exact Jf (B4 Zad rfl (Alh p.1 e.2 _))
    ·rw[bB,bB];rfl)
  have q2:Aq (L1++x++[HU.lst ((ps.filter (inC e.2)).map nmC)]) (L1++x).length=ξ ((ps.filter (inC e.2)).map nmC):=Aj Za;refine ⟨L1++x++[HU.lst ((ps.filter (inC e.2)).map nmC)],hb _ _ ?_,(g1.trans gl).trans gl⟩;unfold Mo;rw[mf,Ak (Su c2),Ak s3];refine E4 (Ek e4 ?_);simp only[Bj,q2,aD];rfl
def Mc(ps:ah)(s:Str):P3:=(ps.find? fun p=>decide (p.1=s)).getD Aj3
variable {s:Str}
theorem An4(h:s∈ps.map (·.1)):Mc ps s∈ps/\(Mc ps s).1=s:=by
 unfold Mc;cases hf:ps.find? fun p=>decide (p.1=s) with
 | none=>
  obtain ⟨p,hp,rfl⟩:=bK.mp h;have:=kZ.mp hf p hp;simp at this
 | some p=>
  have h1:=kI hf;have h2:=wV hf;exact ⟨h1,by simpa using h2⟩
theorem Q6(hn:(ps.map (·.1)).Nodup){q:P3}(hp:p∈ps)(hq:q∈ps)(h:p.1=q.1):p=q:=by
 induction ps with
 | nil=>cases hp
 | cons a ps ih=>
  rw[aQ] at hn;obtain ⟨n1,n2⟩:=iX.mp hn;rcases bE.mp hp with e | e
  ·rcases bE.mp hq with f | f
   ·rw[e,f]
   ·subst e;exact absurd (bK.mpr ⟨q,f,h.symm⟩) n1
  ·rcases bE.mp hq with f | f
   ·subst f;exact absurd (bK.mpr ⟨p,e,h⟩) n1
   ·exact ih n2 e f
theorem Yk(hn:(ps.map (·.1)).Nodup)(hp:p∈ps):Mc ps p.1=p:=by
 obtain ⟨h1,h2⟩:=An4 (bK.mpr (ik p hp));exact Q6 hn h1 hp h2
theorem Aog(f:P3->U)(ps:ah)(s:Str):G0 ZC (.inr s)=(ps.find? fun p=>decide (p.1=s)).map f:=by
 unfold G0;induction ps with
 | nil=>rfl
 | cons p ps ih=>
  rw[aQ,cU,cU];by_cases h:p.1=s
  ·simp[h]
  ·have h2:¬ ((dM p.1:L2.Key)=dM s):=fun e=>h (oW e)
   simp only[h,h2,decide_false];exact ih
theorem Anu(f:P3->U)(h:s∈ps.map (·.1)):G0 ZC (.inr s)=ξ (f (Mc ps s)):=by
 rw[Aog];unfold Mc;cases hf:ps.find? fun p=>decide (p.1=s) with
 | none=>
  obtain ⟨p,hp,rfl⟩:=bK.mp h;have:=kZ.mp hf p hp;simp at this
 | some p=>rfl
theorem Ab7{kvs:List (L2.Key×U)}{k:L2.Key}(h:k∉kvs.map (·.1)):Iu kvs k v=kvs++[(k,v)]:=by
 unfold Iu;rw[if_neg];intro q;obtain ⟨kv,h1,h2⟩:=iI.mp q;exact h (bK.mpr ⟨kv,h1,by simpa using h2⟩)
theorem Yh:∀ (more acc:List (L2.Key×U)),((acc++more).map (·.1)).Nodup->more.foldl (fun acc kv=>Iu acc kv.1 kv.2) acc=acc++more
 | [],acc,_=>by simp
 | kv::more,acc,h=>by
  have hk:kv.1∉acc.map (·.1):=fun q=>by
   rw[dF,aQ] at h;exact (fD.mp h).2.2 kv.1 q kv.1 Za rfl
  rw[nC,Ab7 hk,Yh more (acc++[(kv.1,kv.2)]) (by simpa using h)];simp
theorem Afg(f:P3->U)(hn:(ps.map (·.1)).Nodup):((ps.map fun p=>((dM p.1:L2.Key),f p)).map (·.1)).Nodup:=by
 rw[bU];have:(ps.map (jE∘fun p:P3=>((dM p.1:L2.Key),f p)))=(ps.map (·.1)).map dM:=by rw[bU];rfl
 rw[this];exact fY.mpr (hn.imp fun h hab=>h (oW hab))
theorem Am0{ts:Φ}(h:L[n]? = Ξ (ts.map U.str))(hl:ts.length < 64):Eh [di] L=ξ (cf,L++[.lst ((Bx ts).map U.str)]):=by
 have hd:B3 L n=ψ:=by unfold B3;rw[h]
 unfold Eh;simp only[hd,Aj h,aA,V6];rw[if_pos hl]
theorem txt_keys(ps:ah)(f:P3->U):mapO Ar8 ((ps.map fun p=>((dM p.1:L2.Key),f p)).map (·.1))=ξ (ps.map (·.1)):=by
 induction ps with
 | nil=>rfl
 | cons p ps ih=>simp only[aQ,mapO,Ar8,ih,aA,aD]
theorem Anv{f:P3->U}(h:L[n]? = iy ZC)(hl:ps.length < 64):Eh [di] L=ξ (cf,L++[.lst ((vp (·.1)).map U.str)]):=by
 have hd:B3 L n=ξ ZC:=by unfold B3;rw[h]
 unfold Eh;simp only[hd,txt_keys,aA];rw[if_pos (by rw[aL];exact hl)]
theorem Wi{x:Str}(h:Low x)(n:Nat):Pl n (.str x):=by
 cases n <;> simpa[Pl] using h.ok
noncomputable def Ci(r:Φ):U:=.tup (r.map U.str)
def Jz(ps:ah)(r:Φ):Bool:=(oh 1).all fun q=>Bt (Mc ps q.1).2 (Mc ps q.2).2
theorem Ait(l:aa)(L:UH):Lo ox (ξ 1) ψ L=ξ (.tup (l.drop 1),L):=by
 unfold Lo;simp only;have e1:HT.sIx l.length 0 (ξ (1:Int))=min 1 l.length:=HT.Ahg l.length 0 1;have e2:HT.sIx l.length l.length ψ=l.length:=rfl;cases l with
 | nil=>rfl
 | cons a l=>
  rw[if_neg (by rw[e1];simp)];unfold W5;rw[e1,e2];have:min 1 (a::l).length=1:=Za
  rw[this];simp
theorem Adf{f:P3->U}(hd:M[d]? = iy ZC)(hs:s∈ps.map (·.1))(ho:fo δ M=ξ (.ref d,M))(hi:fi δ M=ξ (.str s,M)):Qp fo fi δ M=ξ (f (Mc ps s),M):=by
 have hdd:B3 M d=ξ ZC:=by unfold B3;rw[hd]
 unfold Qp;simp only[ho,hi,aA,toK,hdd,Anu f hs,aD]
theorem Af4(r:Φ):Dt (r.map U.str) ((r.map U.str).drop 1)=(oh 1).map fun q=>U.tup [.str q.1,.str q.2]:=by
 unfold Dt;rw[<- sK,yF,bU];rfl
theorem Alf{r:Φ}(h:fv δ L=ξ (Ci r,L)):(K8 (rh fv (fSl Lo fv (Ey m8) B8))) δ L=ξ (.seq ((oh 1).map fun q=>U.tup [.str q.1,.str q.2]),L):=by
 have s:(fSl Lo fv (Ey m8) B8) δ L=ξ (.tup ((r.map U.str).drop 1),L):=by
  rw[fSl_eq,h];simp only[aA,fPart_eq,fC_eq,fNoPart_eq,aD];exact Ait _ L
 unfold K8;rw[fCons_eq,h];simp only[aA,fCons_eq,s,fNil_eq,aD];show ξ (IU.seq (Dt (r.map U.str) ((r.map U.str).drop 1)),L)=_;rw[Af4]
theorem Ar0{r:Φ}{q:Str×Str}(h:q∈oh 1):q.1∈r/\q.2∈r:=by
 have:=nB h;exact ⟨this.1,rS this.2⟩
theorem At5{l:Φ}(r:Φ)(h:L[n]? = Ξ (l.map U.str))(hl:l.length+r.length<=1000):Te di [Ci r] L=ξ (.non,ml n ((l++r).map U.str)):=by
 show (Fy L n).bind _=_;rw[Fj h,aA,if_pos (by rw[aL,aL];unfold sizeLine;omega),dF]
theorem Aiz(hlow:∀ p∈ps,ni):∀ u∈(vp (·.1)).map U.str,Pl 6 u:=fun u hu=>by
 obtain ⟨s,hs,rfl⟩:=bK.mp hu;obtain ⟨p,hp,rfl⟩:=bK.mp ((Mb _).mem_iff.mp hs);exact Wi (hlow p hp) _
variable {rows:List Φ}
theorem Apq(hse:ic=vp (·.1)):∀ r∈rows,∀ s∈r,s∈ps.map (·.1):=fun r hr s hs=>by
 have h2:=(Mb rows.flatten).mem_iff.mpr (vX.mpr ⟨r,hr,hs⟩);rw[hse] at h2;exact (Mb _).mem_iff.mp h2
theorem Adc{r:Φ}(hk:rows[k]? = ξ r):(rows.take k).flatten.length+r.length<=rows.flatten.length:=by
 have e:=congrArg (fun l=>l.flatten.length) (mF (k+1) rows);simp only[kM,cG] at e;rw[eF,hk] at e;simp only[Option.toList_some,kM,cG,eQ,List.flatten_nil,bB] at e;omega
theorem Rb{f g:FE}(h:tm=ξ (eo,L1)):Jq f g δ L=g δ L1:=by
 rw[Iz,h];rfl
theorem Adl{r:Φ}(hd:M[d]? = iy (ps.map fun p=>((dM p.1:L2.Key),oy)))(hr:∀ s∈r,s∈ps.map (·.1))(hl:r.length<=1000):∃ M',P6 [.ref d,Ci r] M=ξ (.bl (Jz ps r),M')/\Gw M M':=by
 have hi:=Alf (r:=r) (fv:=dq) (δ:=[dv,ξ (Ci r)]) (L:=M) rfl;have hzl:(oh 1).length<=1000:=by rw[qY];omega
 obtain ⟨x,e⟩:=Bq (ix:=[ψ,ψ,ij]) (fi:=(K8 (Δ 1 (a7 (fSl Lo dq (Ey m8) B8))))) (it:=.seq ((oh 1).map fun q=>U.tup [.str q.1,.str q.2])) (g:=(li 2 0 1)) (tt:=ψ) (fe:=O7) (δ:=[dv,ξ (Ci r)]) (L:=M) (L0:=M)
  (oh 1) (fun q=>U.tup [.str q.1,.str q.2]) Zn (fun q=>.bl (Bt (Mc ps q.1).2 (Mc ps q.2).2)) (fun δ=>∃ a b,δ = [a,b,dv]) hi (by simp[IU.size]) Ze ⟨ψ,ψ,rfl⟩
  Z2
  (fun q δ x hq ⟨a,b,hδ⟩=>by
   subst hδ;obtain ⟨m1,m2⟩:=Ar0 hq;have hdx:=(Gw.new M x).get hd;obtain ⟨y,ey⟩:=lies_ok (Mc ps q.1).2 (Mc ps q.2).2 (M++x);refine ⟨[bh q.1,bh q.2,dv],rfl,ik _ _,[],by simp[Gz],fun _=>⟨y,?_⟩⟩;rw[bB];exact Ql (Adf (f:=fun p=>oy) hdx (hr _ m1) rfl rfl) (Adf (f:=fun p=>oy) hdx (hr _ m2) rfl rfl) ey)
 have hff:fP Zn (oh 1)=oh 1:=cW.mpr Zg;rw[hff] at e;have q1:Aq (M++x++[HU.lst ((oh 1).map fun q=>.bl (Bt (Mc ps q.1).2 (Mc ps q.2).2))]) (M++x).length=ξ ((oh 1).map fun q=>U.bl (Bt (Mc ps q.1).2 (Mc ps q.2).2)):=Aj Za;exact ⟨_,fnN rfl (E4 (Ek e (Tu _ _ q1))),(gl).trans gl⟩
theorem Am7{kvs:List (L2.Key×U)}(hd:M[d]? = iy kvs)(hl:kvs.length < 1000000)(hk:(dM s:L2.Key)∉kvs.map (·.1))(hv:fv δ M=ξ (v,M))(ho:fo δ M=ξ (.ref d,M))(hi:fi δ M=ξ (.str s,M)):Hx fo fi fv δ M=ξ (.nx δ,M.set d (.dic (kvs++[(dM s,v)]))):=by
 have hdd:B3 M d=ξ kvs:=by unfold B3;rw[hd]
 unfold Hx;simp only[hv,ho,hi,aA,toK,hdd];rw[if_pos hl,Ab7 hk]
theorem Aci(hl:ps.length<=60)(hn:(ps.map (·.1)).Nodup)(hlow:∀ p∈ps,ni)(hr:rows.flatten.length < 64)(hrn:rows.length<=1000)(hse:ic=vp (·.1))(hch:∀ r∈rows,Jz ps r=true)(L:UH) :
  ∃ L',Qa [el,.tup jb] L=ξ (eo,L')/\om:=by
 generalize hP:U.tup θ=P;generalize hR:U.tup jb=R;have s1:(a8 O1 2) [l8,ξ R,ψ,ψ,ψ,ψ] L=ξ (.nx [l8,ξ R,aw,ψ,ψ,ψ],L++[.dic []]):=rfl;have hi0:A7 dg [l8,ξ R,aw,ψ,ψ,ψ] (L++[.dic []])=ξ (.seq θ,L++[.dic []]):=by subst hP;rfl
 obtain ⟨δ2,Lb,e2,y3,hδ2,hd2,g2⟩:=Lm (us:=θ) (body:=Q1) (g:=gN 3)
  (fun k δ M=>∃ y3,δ = [l8,ξ R,aw,y3,ψ,ψ]/\M[L.length]? = iy ((ps.take k).map fun p=>((dM p.1:L2.Key),oy))/\Gw L M) hi0 ⟨ψ,rfl,Za,gl⟩
  (fun k u δ M hu ⟨y3,hδ,hd,g⟩=>by
   subst hδ;rw[aX] at hu;obtain ⟨p,hk,rfl⟩:=aH.mp hu;have hlt:=(aI.mp hd).1;have htk:ps.take (k+1)=ps.take k++[p]:=by rw[eF,hk];rfl
   have hnk:((ps.take (k+1)).map (·.1)).Nodup:=by rw[sJ];exact hn.sublist (jD _ _)
   rw[htk,dF] at hnk;have hno:(dM p.1:L2.Key)∉((ps.take k).map fun p=>((dM p.1:L2.Key),oy)).map (·.1):=fun q=>by
    obtain ⟨kv,h1,h2⟩:=bK.mp q;obtain ⟨o,h3,rfl⟩:=bK.mp h1;exact (fD.mp hnk).2.2 o.1 (bK.mpr (ik o h3)) p.1 Za (oW h2)
   refine ⟨[l8,ξ R,aw,ke,ψ,ψ],M,rfl,[l8,ξ R,aw,ke,ψ,ψ],M.set L.length (.dic ((ps.take k).map (fun p=>((dM p.1:L2.Key),oy))++[(dM p.1,oy)])),.inl ?_,ke,rfl,?_,g.set be _⟩
   ·exact Am7 (fo:=v5) (fi:=nb 3 0) (fv:=ay 1 Bb 3 Af) hd (by rw[aL,eW];omega) hno (Gf rfl (Dx p M)) rfl Zad
   ·rw[bL hlt,htk,dF];rfl)
 rw[aL,gX] at hd2;rw[hδ2] at e2;have s3:=C5 (i:=4) (Ad4 [l8,ξ R,aw,y3,ψ,ψ] Lb);simp only[aZ,bA] at s3;have hdlt:=(aI.mp hd2).1;have hi1:A7 dq [l8,ξ R,aw,y3,qe,ψ] (Lb++[fz])=ξ (.seq jb,Lb++[fz]):=by subst hR;rfl
 obtain ⟨δ4,L4,e4,y5,hδ4,h4,hd4,g4⟩:=Lm (us:=jb) (body:=Me) (g:=gN 5)
  (fun k δ M=>∃ y5,δ = [l8,ξ R,aw,y3,qe,y5]/\M[Lb.length]? = Ξ ((rows.take k).flatten.map U.str)/\M[L.length]? = iy (ps.map fun p=>((dM p.1:L2.Key),oy))/\Gw Lb M)
  hi1 ⟨ψ,rfl,Za,(gl).get hd2,gl⟩
  (fun k u δ M hu ⟨y5,hδ,h,hdM,g⟩=>by
   subst hδ;rw[aX] at hu;obtain ⟨r,hk,rfl⟩:=aH.mp hu;have hsub:=Adc hk;have ex:=At5 r h Ze;have ty:=Ia h;have hlt:=(aI.mp h).1;have hdn:Lb.length≠L.length:=Ze
   refine ⟨[l8,ξ R,aw,y3,qe,ξ (Ci r)],M,rfl,[l8,ξ R,aw,y3,qe,ξ (Ci r)],M.set Lb.length (.lst (((rows.take k).flatten++r).map U.str)),.inl ?_,ξ (Ci r),rfl,?_,?_,g.set be _⟩
   ·have v:Ad 4 [l8,ξ R,aw,y3,qe,ξ (Ci r)] M=ξ (.ref Lb.length,M):=rfl;have v4:Ad 5 [l8,ξ R,aw,y3,qe,ξ (Ci r)] M=ξ (Ci r,M):=rfl;unfold Me;rw[Hf,fMeth_eq,v];simp only[aA,ty,if_true];rw[fCons_eq,v4];simp only[aA,fNil_eq,aD,ex]
   ·rw[bL hlt,eF,hk];simp
   ·rw[bF hdn];exact hdM)
 rw[aL,gX] at h4;rw[hδ4] at e4;have t1:(gg Eh 4) [l8,ξ R,aw,y3,qe,y5] L4=ξ (.ref L4.length,L4++[.lst ZL]):=Ek rfl (Am0 h4 hr);have t2:(gg Eh 2) [l8,ξ R,aw,y3,qe,y5] (L4++[.lst ZL])=ξ (.ref (L4++[HU.lst ZL]).length,L4++[.lst ZL]++[.lst ((vp (·.1)).map U.str)]):=Ek rfl (Anv (f:=fun p=>oy) ((gl).get hd4) Ze);have q1:Aq (L4++[HU.lst ZL]++[HU.lst ((vp (·.1)).map U.str)]) L4.length=ξ ZL:=Aj Za;have q2:Aq (L4++[HU.lst ZL]++[HU.lst ((vp (·.1)).map U.str)]) (L4++[HU.lst ZL]).length=ξ ((vp (·.1)).map U.str):=Aj Za;have g5:Gw L4 (L4++[HU.lst ZL]++[HU.lst ((vp (·.1)).map U.str)]):=(gl).trans gl;generalize (L4++[HU.lst ZL]).length=b2 at t2 q2;generalize L4++[HU.lst ZL]++[HU.lst ((vp (·.1)).map U.str)]=L5 at t2 q1 q2 g5;have q1:Aq L5 L4.length=ξ ((vp (·.1)).map U.str):=by rw[<- hse];exact q1
 have pl2:=Aiz hlow;have hz:=Yq q1 q2 pl2 pl2;rw[(U3 pl2 pl2).mpr rfl] at hz;have av:=Rb (g:=lm Nq (ko [ψ,m6] dq d8 ψ Jt)) (B4 (s:=By) t1 t2 hz);have hmem:=Apq hse;have hlenr:∀ r∈rows,r.length<=1000:=fun r hr2=>by
  obtain ⟨i,hi,rfl⟩:=dE hr2;have:=Adc km;omega
 have hd5:=g5.get hd4;have hi2:A7 dq [l8,ξ R,aw,y3,qe,y5] L5=ξ (.seq jb,L5):=by subst hR;rfl
 obtain ⟨x,e6⟩:=Bq (ix:=[ψ,m6]) (fi:=A7 dq) (it:=.seq jb) (g:=d8) (tt:=ψ) (fe:=Jt) (δ:=[l8,ξ R,aw,y3,qe,y5]) (L:=L5) (L0:=L5)
  rows Ci Zn (fun r=>.bl (Jz ps r)) (fun δ=>∃ a,δ = [a,aw]) hi2 (by simp[IU.size]) Ze ⟨ψ,rfl⟩
  Z2
  (fun r δ x hr3 ⟨a,hδ⟩=>by
   subst hδ;obtain ⟨M',e,y,hy⟩:=Adl ((Gw.new L5 x).get hd5) (hmem r hr3) (hlenr r hr3);refine ⟨[ξ (Ci r),aw],rfl,jk,[],by simp[Gz],fun _=>⟨y,?_⟩⟩;rw[bB,<- hy];exact Ql rfl rfl e)
 have hff:fP Zn rows=rows:=cW.mpr Zg;rw[hff] at e6;have q6:Aq (L5++x++[HU.lst (rows.map fun r=>.bl (Jz ps r))]) (L5++x).length=ξ (rows.map fun r=>U.bl (Jz ps r)):=Aj Za;have ha:=Tu rows (Jz ps) q6;rw[bO.mpr hch] at ha;refine ⟨_,fnN rfl ?_,((g2.trans g4).trans g5).trans ((Gw.new L5 x).trans (Gw.new _ [HU.lst (rows.map fun r=>.bl (Jz ps r))]))⟩;unfold Um;show Az _ _ [l8,ξ R,ψ,ψ,ψ,ψ] L=_;rw[mf,Ak e2,Ak s3,Ak e4];refine E4 ?_;rw[av];exact Ek e6 ha
theorem Ahr(W:Φ)(L:UH):Bc [Ci W] L=ξ (.int ((W.length:Nat):Int),L):=by unfold Ci;simp[Bc,lenU]
theorem Al0(rows:List Φ)(L:UH):Bc [.tup jb] L=ξ (.int ((rows.length:Nat):Int),L):=by simp[Bc,lenU]
theorem Aq4(a:Str)(W:Φ)(L:UH):Ph false (.str a) (Ci W) L=ξ (.bl (W.contains a),L):=by
 unfold Ph Ci;simp only[toV,aA,toV_strs,aD,Aht];simp
def cntO(pl:List (Int×Int))(q:Int×Int):Nat:=(pl.filter fun o=>Bt o q).length
theorem Xe{pl:List (Int×Int)}(h:M[r]? = Ξ (pl.map pr))(hl:pl.length<=1000)(q:Int×Int):∃ M',Lk [ig,pr q] M=ξ (.int (cntO pl q:Nat),M')/\Gw M M':=by
 have hsq:=Aj h;obtain ⟨x,e⟩:=Bq (ix:=[ψ,ξ 1]) (fi:=A7 dg) (it:=.ref r) (g:=d8) (tt:=ξ F4) (fe:=M9) (δ:=[η r,ξ (pr q)]) (L:=M) (L0:=M)
  pl pr (fun o=>Bt o q) pr (fun δ=>∃ a,δ = [a,ξ (pr q)]) (by simp only[C2,fVar_eq,aP,bD,aD,aA,Cq hsq]) (by rw[Ec hsq];simp) Ze ⟨ψ,rfl⟩
  (fun k x=>Hr (B6 hsq))
  (fun o δ x _ ⟨a,hδ⟩=>by
   subst hδ;obtain ⟨y,ey⟩:=lies_ok o q (M++x);refine ⟨[ξ (pr o),ξ (pr q)],rfl,jk,y,?_,fun _=>⟨[],?_⟩⟩
   ·show F4 _ _=_;unfold F4;rw[fTru_eq,Ql rfl rfl ey];rfl
   ·rw[bB];rfl)
 have hlen:=Mh (L:=M++x++[HU.lst ((pl.filter fun o=>Bt o q).map pr)]) (n:=(M++x).length) (l:=(pl.filter fun o=>Bt o q).map pr) Za;rw[aL] at hlen;exact ⟨_,fnN rfl (E4 (Ek e hlen)),(gl).trans gl⟩
theorem Ajw{qs:ah}(h:M[r]? = Ξ (qs.map p3U))(hl:qs.length<=1000):∃ M',Gi [ig] M=ξ (.int ((qs.map fun q=>((cntO (qs.map (·.2)) q.2:Nat):Int)).sum),M')/\Gw M M':=by
 have hsq:=Aj h;obtain ⟨x,e⟩:=Bq (ix:=[ψ]) (fi:=A7 dg) (it:=.ref r) (g:=d8) (tt:=ψ) (fe:=Mq) (δ:=[η r,ψ]) (L:=M) (L0:=M)
  qs p3U Zn (fun q=>pr q.2) (fun δ=>∃ a,δ = [a]) (by simp only[C2,fVar_eq,aP,bD,aD,aA,Cq hsq]) (by rw[Ec hsq];simp) Ze ⟨ψ,rfl⟩
  (fun k x=>Hr (B6 hsq))
  (fun o δ x _ ⟨a,hδ⟩=>by
   subst hδ;refine ⟨[dh o],rfl,jk,[],by simp[Gz],fun _=>⟨[],?_⟩⟩;rw[bB,bB];exact Gf rfl (Dx o _))
 have hff:fP Zn qs=qs:=cW.mpr Zg;have hmm:(qs.map fun q=>pr q.2)=(qs.map (·.2)).map pr:=by rw[bU];rfl
 rw[hff,hmm] at e;have s1:=C5 (i:=1) e;simp only[aZ,bA] at s1;have q1:(M++x++[HU.lst ((qs.map (·.2)).map pr)])[(M++x).length]? = Ξ ((qs.map (·.2)).map pr):=Za
 have g1:Gw M (M++x++[HU.lst ((qs.map (·.2)).map pr)]):=(gl).trans gl;generalize (M++x).length=a at s1 q1;generalize M++x++[HU.lst ((qs.map (·.2)).map pr)]=M1 at s1 q1 g1;have hpl:(qs.map (·.2)).length<=1000:=by rw[aL];exact hl
 have hval:(qs.map fun q=>((cntO (qs.map (·.2)) q.2:Nat):Int))=(qs.map (·.2)).map fun q=>((cntO (qs.map (·.2)) q:Nat):Int):=by rw[bU];rfl
 rw[hval];generalize qs.map (·.2)=pl at q1 hpl s1;have hsq1:=Aj q1;obtain ⟨y,e2⟩:=Bq (ix:=[ψ,ξ 1]) (fi:=A7 dq) (it:=.ref a) (g:=d8) (tt:=ψ) (fe:=Mw) (δ:=[η r,η a]) (L:=M1) (L0:=M1)
  pl pr Zn (fun q=>.int ((cntO pl q:Nat):Int)) (fun δ=>∃ b,δ = [b,η a]) (by simp only[C2,fVar_eq,aY,aP,bD,aD,aA,Cq hsq1]) (by rw[Ec hsq1];simp) Ze ⟨ψ,rfl⟩
  (fun k x=>Hr (B6 hsq1))
  (fun q δ x _ ⟨b,hδ⟩=>by
   subst hδ;obtain ⟨M',e,z,hz⟩:=Xe ((Gw.new M1 x).get q1) hpl q;refine ⟨[ξ (pr q),η a],rfl,jk,[],by simp[Gz],fun _=>⟨z,?_⟩⟩;rw[bB,<- hz];exact Ql rfl rfl e)
 have hff2:fP Zn pl=pl:=cW.mpr Zg;have hmm2:(pl.map fun q=>U.int ((cntO pl q:Nat):Int))=(pl.map fun q=>((cntO pl q:Nat):Int)).map U.int:=by rw[bU];rfl
 rw[hff2,hmm2] at e2;have q2:Aq (M1++y++[HU.lst Zk]) (M1++y).length=ξ Zk:=Aj Za;have e3:Lj [ig] M=ξ (.tup Zk,M1++y++[HU.lst Zk]):=by
  refine fnN rfl ?_;unfold Ri;show Az _ _ [η r,ψ] M=_;rw[mf];refine E4 (Ek e2 ?_);simp only[Bj,q2,aD]
 have e4:Ho [.tup Zk] (M1++y++[HU.lst Zk])=ξ (.int ((pl.map fun q=>((cntO pl q:Nat):Int)).sum),M1++y++[HU.lst Zk]):=by
  unfold Ho;simp only[toI_ints,aD]
 exact ⟨M1++y++[HU.lst Zk],fnN rfl (E4 (Ek (Gf rfl e3) e4)),(g1.trans gl).trans gl⟩
def fnd(ps:ah)(W:Φ):ah:=ps.filter fun p=>W.contains p.1
theorem Y3:∀ (l:Λ),(∀ n∈l,n=0)->l.sum=0
 | [],_=>rfl
 | n::l,h=>by
  rw[jI,h n (aS ..),Y3 l fun m hm=>h m (oq hm)];rfl
theorem Adx(hl:ps.length<=60){W:Φ}(hW:W=(fnd ps W).map (·.1))(hno:∀ p∈fnd ps W,∀ q∈fnd ps W,Bt p.2 q.2=false)(L:UH):∃ L',Pz [el,Ci W] L=ξ (eo,L')/\om:=by
 obtain ⟨x,e⟩:=Bq (ix:=[ψ,ξ 1]) (fi:=A7 dg) (it:=.seq θ) (g:=d8) (tt:=ξ Pa) (fe:=Pg) (δ:=[aq,ξ (Ci W),ψ]) (L:=L) (L0:=L)
  ps p3U (fun p=>W.contains p.1) p3U (fun δ=>∃ a,δ = [a,ξ (Ci W)]) rfl (by simp[IU.size]) Ze ⟨ψ,rfl⟩
  Z2
  (fun p δ x _ ⟨a,hδ⟩=>by
   subst hδ;refine ⟨[ke,ξ (Ci W)],rfl,jk,[],?_,fun _=>⟨[],?_⟩⟩
   ·rw[bB];exact Jf (B4 Zad rfl (Aq4 p.1 W _))
   ·rw[bB,bB];rfl)
 have hfl:(fnd ps W).length<=60:=cC (gP _ _) hl;have hf:ps.filter (fun p=>W.contains p.1)=fnd ps W:=rfl;rw[hf] at e;have s1:=C5 (i:=2) e;simp only[aZ,bA] at s1;have q1:(L++x++[HU.lst ((fnd ps W).map p3U)])[(L++x).length]? = Ξ ((fnd ps W).map p3U):=Za
 have g1:Gw L (L++x++[HU.lst ((fnd ps W).map p3U)]):=(gl).trans gl;generalize (L++x).length=a at s1 q1;generalize L++x++[HU.lst ((fnd ps W).map p3U)]=M1 at s1 q1 g1;have hlen:=Mh q1;rw[aL] at hlen;have t1:(f2 By (gg Bc 2) (gg Bc 1)) [aq,ξ (Ci W),η a] M1=ξ (.bl ((((fnd ps W).length:Nat):Int) == ((W.length:Nat):Int)),M1):=B4 (Ek rfl hlen) (Ek rfl (Ahr W _)) rfl;obtain ⟨M2,e2,g2⟩:=Ajw q1 Ze;have t2:(gm By (ay 1 Gi 2 Af) 0) [aq,ξ (Ci W),η a] M1=ξ (.bl ((((fnd ps W).map fun q=>((cntO ((fnd ps W).map (·.2)) q.2:Nat):Int)).sum) == 0),M2):=B4 (Gf rfl e2) rfl rfl;have hlW:(fnd ps W).length=W.length:=by have:=congrArg lC hW;rw[aL] at this;exact this.symm
 have z1:((((fnd ps W).length:Nat):Int) == ((W.length:Nat):Int))=true:=by rw[hlW];simp
 have z2:((((fnd ps W).map fun q=>((cntO ((fnd ps W).map (·.2)) q.2:Nat):Int)).sum) == 0)=true:=by
  rw[Y3 _ fun n hn=>?_]
  ·rfl
  ·obtain ⟨q,hq,rfl⟩:=bK.mp hn;unfold cntO;rw[jW.mpr fun o ho=>?_]
   ·rfl
   ·obtain ⟨p,hp,rfl⟩:=bK.mp ho;rw[hno p hp q hq];simp
 rw[z1] at t1;rw[z2] at t2;refine ⟨M2,fnN rfl ?_,d6⟩;unfold Ua;show Az _ _ [aq,ξ (Ci W),ψ] L=_;rw[mf];refine E4 ?_;rw[Rb t1,t2]
theorem Sw{β:Type}[DecidableEq β]:∀ {a b:ed},a.Nodup->(∀ x∈a,x∈b)->b.length<=a.length->a.Perm b
 | [],b,_,_,hl=>by
  have:b=[]:=lF.mp (Nat.le_zero.mp hl);rw[this]
 | x::a,b,h,hs,hl=>by
  obtain ⟨h1,h2⟩:=iX.mp h;have hx:=hs x (aS ..);have hb:=pR hx;have:=Sw (b:=b.erase x) h2 (fun y hy=>(rZ (fun e:y=x=>h1 (by rw[<- e];exact hy))).mpr (hs y (oq hy))) (by rw[hb,<- Nat.add_le_add_iff_right (n:=1)];rw[aR] at hl;omega)
  exact (this.cons x).trans (List.perm_cons_erase hx).symm
theorem V5(hl:ps.length<=60)(hn:(ps.map (·.1)).Nodup)(hlow:∀ p∈ps,ni)(hr:rows.flatten.length < 64)(hrn:rows.length<=1000)(hse:ic=vp (·.1))(hch:∀ r∈rows,Jz ps r=true){W:Φ}(hW:W=(fnd ps W).map (·.1))(hno:∀ p∈fnd ps W,∀ q∈fnd ps W,Bt p.2 q.2=false)(hlen:rows.length=W.length)(L:UH) :
  ∃ L',F0 [el,.tup jb,Ci W] L=ξ (eo,L')/\om:=by
 have t1:(f2 By (gg Bc 1) (gg Bc 2)) [aq,Γ jb,ξ (Ci W)] L=ξ (.bl (((rows.length:Nat):Int) == ((W.length:Nat):Int)),L):=B4 (Ek rfl (Al0 rows _)) (Ek rfl (Ahr W _)) rfl;have z1:(((rows.length:Nat):Int) == ((W.length:Nat):Int))=true:=by rw[hlen];simp
 rw[z1] at t1;obtain ⟨L1,e1,g1⟩:=Aci hl hn hlow hr hrn hse hch L;obtain ⟨L2,e2,g2⟩:=Adx hl hW hno L1;refine ⟨L2,fnN rfl (E4 ?_),d6⟩;show Jq _ _ [aq,Γ jb,ξ (Ci W)] L=_;rw[Rb t1,Rb (Ql rfl rfl e1)];exact Ql rfl rfl e2
def Gh(cs:tq):List Φ:=cs.map fun ch=>ch.map fun e=>e.1.1
theorem Ajl(cs:tq):Awg cs = .tup ((Gh cs).map Ci):=by
 unfold Awg Gh;rw[bU]
 congr 1
 refine dG fun ch _=>?_
 unfold chU Ci;show U.tup _=U.tup ((ch.map fun e=>e.1.1).map U.str);rw[bU];rfl
theorem Xv(cs:tq):(Gh cs).flatten=(cs.flatten.map (·.1)).map (·.1):=by
 unfold Gh;rw[<- List.map_flatten,bU];rfl
theorem Anb{β:Type}:∀ {l:ed} {a b:β},(a,b)∈l.zip (l.drop 1)->∃ i,l[i]? = m7/\l[i+1]? = ξ b:=by
 intro l a b h;obtain ⟨i,hi⟩:=rD.mp h;obtain ⟨h1,h2⟩:=iT.mp hi;rw[List.getElem?_drop] at h2;exact ⟨i,h1,by rw[yC];exact h2⟩
theorem Afn(hn:(ps.map (·.1)).Nodup)(A:Laid cs dn)(hd:dn.Perm ps):Bx (Gh cs).flatten=Bx (ps.map (·.1))/\∀ r∈Gh cs,Jz ps r=true:=by
 refine ⟨by rw[Xv];exact Ac3 ((A.perm.trans hd).map _),fun r hr=>?_⟩
 obtain ⟨ch,hch,rfl⟩:=bK.mp hr;unfold Jz;rw[bO];rintro ⟨a,b⟩ hq;obtain ⟨i,h1,h2⟩:=Anb hq;rw[aX] at h1 h2;obtain ⟨e,he,rfl⟩:=aH.mp h1;obtain ⟨f,hf,rfl⟩:=aH.mp h2;have hmem:∀ e∈ch,e.1∈ps:=fun e he=>(A.perm.trans hd).mem_iff.mp (bK.mpr (ik e (vX.mpr ⟨ch,hch,he⟩)))
 show Bt (Mc ps e.1.1).2 (Mc ps f.1.1).2=true;rw[Yk hn (hmem e (bT he)),Yk hn (hmem f (bT hf))];obtain ⟨i1,e1⟩:=aI.mp he;obtain ⟨i2,e2⟩:=aI.mp hf;have:=cK.mp (A.chn ch hch) i (i+1) i1 i2 Ze;rw[e1,e2] at this;exact this
theorem Aft(p:Int×Int):Bt p p=false:=by
 cases h:Bt p p with
 | false=>rfl
 | true=>exact absurd rfl ((Ib p p).mp h).2.2
theorem Ais(A:Laid cs dn):(qp).length=cs.length/\(qp).Pairwise Rr/\(∀ c∈qp,c∈dn)/\(qp).Nodup:=by
 unfold topC;cases hl:cs.length with
 | zero=>simp[Cm]
 | succ t=>
  have hct:cs[t]? = ξ cs[t]:=aC Ze;obtain ⟨e,he⟩:∃ e,cs[t].getLast? = ξ e:=by
   cases hg:cs[t].getLast? with
   | none=>exact absurd (gH.mp hg) (A.ne _ (cS Ze))
   | some e=>exact ⟨e,rfl⟩
  have htop:Cm cs (t+1)=e.2:=by
   show ((cs.getD t []).getLast?.map (·.2)).getD []=e.2;rw[aE,hct];simp[he]
  rw[htop];obtain ⟨c1,_,c3,c4,c5⟩:=A.cr t _ hct e (mZ he);exact ⟨c1,c3,c4,c5⟩
theorem Yt(hn:(ps.map (·.1)).Nodup):ps.Nodup:=(fY.mp hn).imp fun h e=>h (by rw[e])
def Hl(ps:ah)(top:ah):Φ:=(ps.filter (inC top)).map (·.1)
theorem Ae1(hn:(ps.map (·.1)).Nodup)(A:Laid cs dn)(hd:dn.Perm ps):(Hl ps qp).length=cs.length/\(Hl ps qp).Nodup/\(∀ p∈ps,p.1∈Hl ps qp->p∈qp)/\∀ p∈qp,∀ q∈qp,Bt p.2 q.2=false:=by
 obtain ⟨t1,t2,t3,t4⟩:=Ais A;have htp:∀ c∈qp,c∈ps:=fun c hc=>hd.mem_iff.mp (t3 c hc)
 have hmem:∀ p,p∈ps.filter (inC qp)↔p∈qp:=fun p=>by
  rw[bZ];unfold inC;simp only[mG];constructor
  ·rintro ⟨h1,h2⟩;obtain ⟨q,hq,he⟩:=bK.mp h2;rw[<- Q6 hn (htp q hq) h1 he];exact hq
  ·exact fun h=>⟨htp p h,bK.mpr (ik p h)⟩
 have hperm:(ps.filter (inC qp)).Perm qp:=Sw ((Yt hn).sublist nM) (fun p hp=>(hmem p).mp hp) (Yl t4 fun p hp=>(hmem p).mpr hp);refine ⟨by unfold Hl;rw[aL,hperm.length_eq,t1],hn.sublist (nM.map _),fun p hp h=>?_,fun p hp q hq=>?_⟩
 ·obtain ⟨q,hq,he⟩:=bK.mp h;rw[<- Q6 hn (bZ.mp hq).1 hp he];exact (hmem q).mp hq
 ·obtain ⟨i,hi,rfl⟩:=dE hp;obtain ⟨j,hj,rfl⟩:=dE hq;have hpw:=cK.mp t2;rcases lU i j with h | h | h
  ·exact (hpw i j hi hj h).no.1
  ·subst h;exact Aft _
  ·exact (hpw j i hj hi h).no.2
theorem Aeb(ps:ah):Aet ps=Ci (ps.map (·.1)):=by
 unfold Aet Ci;rw[Akx]
theorem Arx(h:Pl 6 u)(L:UH):Di u u L=ξ (gq,L):=by
 rw[Abo L h h,Wa h];rfl
variable {ix:ly}
namespace SN
noncomputable abbrev PN:=Str×Λ
noncomputable def tI(a:Λ):U:=.tup (a.map U.int)
def nU(p:PN):U:=.tup (.str p.1::p.2.map U.int)
noncomputable def und(a b:Λ):Bool:=!decide (a=b)&&(a.zip b).all fun p=>decide (p.1<=p.2)
theorem Tw(l:Λ):Pl 6 (.tup (l.map U.int)):=by
 rw[Hq];intro u hu;obtain ⟨i,_,rfl⟩:=bK.mp hu;exact Pl.int _ _
theorem Abz{a b:Λ}:a.map U.int=b.map U.int↔a=b:=
 ⟨fun h=>(List.map_inj_right (fun x y e=>by cases e;rfl)).mp h,fun h=>by rw[h]⟩
theorem Aot(a b:Λ):eqB (.tup (a.map U.int)) (.tup (b.map U.int))=decide (a=b):=by
 rw[eV,Ahu (Tw a) (Tw b),decide_eq_true_iff,U.tup.injEq];exact Abz
theorem Ao0(a b:Λ)(L:UH):Di (.tup (a.map U.int)) (.tup (b.map U.int)) L=ξ (.bl (!decide (a=b)),L):=by
 rw[Abo L (Tw a) (Tw b),Aot]
theorem Ad2(a b:Λ):Dt (a.map U.int) (b.map U.int)=(a.zip b).map fun p=>.tup [.int p.1,.int p.2]:=by
 unfold Dt;rw[yF,bU];rfl
theorem lies_ok(a b:Λ)(hl:a.length<=1000)(L:UH):∃ x,Bv [tI a,tI b] L=ξ (.bl (und a b),L++x):=by
 have hn:Di (tI a) (tI b) L=ξ (.bl (!decide (a=b)),L):=Ao0 a b L;unfold und;cases hq:decide (a=b) with
 | true=>
  rw[hq] at hn;refine ⟨[],?_⟩;unfold Bv fnU Gy;simp only[aR,bG,if_true,aQ,bY,dA,dH,bB,fRet_eq,Iz,f2_eq,fVar_eq,aP,aY,bD,aD,aA,hn,jL,wZ];rfl
 | false=>
  rw[hq] at hn;have hz:(K8 (Δ 0 (df 1))) [ξ (tI a),ξ (tI b)] L=ξ (.seq ((a.zip b).map fun p=>.tup [.int p.1,.int p.2]),L):=by
   rw[<- Ad2];rfl
  obtain ⟨x,e⟩:=Bq (ix:=[ψ,ψ]) (fi:=K8 (Δ 0 (df 1))) (it:=.seq ((a.zip b).map fun p=>.tup [.int p.1,.int p.2])) (g:=(li 2 0 1)) (tt:=ψ) (fe:=Eg) (δ:=[ξ (tI a),ξ (tI b)]) (L:=L) (L0:=L)
   (a.zip b) (fun a=>.tup [.int a.1,.int a.2]) Zn (fun a=>.bl (decide (a.1<=a.2))) Z3 hz (by simp[IU.size]) (by rw[qY];omega) ⟨ψ,ψ,rfl⟩
   Z2
   (fun a δ x _ ⟨y,z,hδ⟩=>by
    subst hδ;refine ⟨_,rfl,ik _ _,[],by simp[Gz],fun _=>⟨[],?_⟩⟩;simp[Eg])
  have hf:fP (fun _:Int×Int=>true) (a.zip b)=a.zip b:=cW.mpr Zg;rw[hf] at e;have q1:Aq (L++x++[HU.lst ((a.zip b).map fun a=>.bl (decide (a.1<=a.2)))]) (L++x).length=ξ ((a.zip b).map fun a=>U.bl (decide (a.1<=a.2))):=Aj Za;have ha:=Tu _ _ q1;refine ⟨x++[HU.lst ((a.zip b).map fun a=>.bl (decide (a.1<=a.2)))],?_⟩;unfold Bv fnU Gy;simp only[aR,bG,if_true,aQ,bY,dA,dH,bB,fRet_eq,Iz,f2_eq,fVar_eq,aP,aY,bD,aD,aA,hn,rY,if_true,fCall_eq,fCons_eq,fNil_eq];rw[xV,<- cM];simp only[e,ha,aD,aA]
theorem An6{tt:FT}{as:lr}(a:Λ)(f:Λ->Bool)(hr:L[r]? = Ξ (as.map tI))(hl:as.length<=1000)(ht:∀ q∈as,∀ M:UH,∃ z,tt [ξ (tI q),ξ (tI a)] M=ξ (f q,M++z))(hfe:∀ q M,fe [ξ (tI q),ξ (tI a)] M=ξ (tI q,M)) :
  ∃ L',(lm Bc (ko [ψ,ξ 1] dg d8 (ξ tt) fe)) [η r,ξ (tI a)] L=ξ (.int ((as.filter f).length:Nat),L')/\om:=by
 have hs:=Aj hr;obtain ⟨x,e⟩:=Bq (ix:=[ψ,ξ 1]) (fi:=A7 dg) (it:=.ref r) (g:=d8) (tt:=ξ tt) (fe:=fe) (δ:=[η r,ξ (tI a)]) (L:=L) (L0:=L)
  as tI f tI (fun δ=>∃ z,δ = [z,ξ (tI a)]) (by simp[Cq hs]) (by rw[Ec hs];simp) Ze ⟨ψ,rfl⟩
  (fun k x=>Hr (B6 hs))
  (fun q δ x hq ⟨y,hδ⟩=>by
   subst hδ;obtain ⟨z,e1⟩:=ht q hq (L++x);exact ⟨[ξ (tI q),ξ (tI a)],rfl,jk,z,e1,fun _=>⟨[],by rw[bB];exact hfe q _⟩⟩)
 have q1:(L++x++[HU.lst ((as.filter f).map tI)])[(L++x).length]? = Ξ ((as.filter f).map tI):=Za
 have hlen:=Mh q1;rw[aL] at hlen;refine ⟨_,?_,⟨x++[HU.lst ((as.filter f).map tI)],(cM ..)⟩⟩;rw[fCall_eq,fCons_eq,e];simp only[aA,fNil_eq,aD,hlen]
theorem fn2{b:FE}{w:U}(h:b [br,ξ w] L=ξ (v,L')):fnU 2 2 (B0 b) [u,w] L=ξ (v,L'):=by
 unfold fnU;simp only[aR,bG,if_true,aQ,bY,dA,dH,bB,fRet_eq,h,aD];rfl
def cA(as:lr)(a:Λ):Nat:=(as.filter fun q=>und a q).length
theorem tru_bl{b:Bool}(h:fe δ L=ξ (.bl b,L')):Gp fe δ L=ξ (b,L'):=by
 rw[fTru_eq,h];rfl
theorem Aef{as:lr}(a:Λ)(hr:L[r]? = Ξ (as.map tI))(hl:as.length<=1000)(ha:a.length<=1000):∃ L',Md [ig,tI a] L=ξ (.int (cA as a:Nat),L')/\om:=by
 obtain ⟨L',e,g⟩:=An6 (tt:=Mp) (fe:=Ms) a (fun q=>und a q) hr hl (fun q hq M=>by
  obtain ⟨x,e⟩:=lies_ok a q ha M;exact ⟨x,tru_bl (So rfl rfl e)⟩) Zg
 exact ⟨L',fn2 e,g⟩
def SeqU(u:U)(us:aa)(L:UH):Prop:=u = .tup us\/∃ n,u = di/\L[n]? = Ξ us
theorem SeqU.gw(h:SeqU u us L)(g:om):SeqU u us L':=by
 rcases h with h | ⟨n,h,h2⟩
 ·exact .inl h
 ·exact .inr ⟨n,h,g.get h2⟩
theorem SeqU.it(h:SeqU u us L)(hv:fe δ M=ξ (u,L)):∃ it,A7 fe δ M=ξ (it,L)/\us.length<=it.size L/\∀ k x,it.at k (L++x)=ξ us[k]?:=by
 rcases h with rfl | ⟨n,rfl,h2⟩
 ·exact ⟨.seq us,by rw[C2,hv];rfl,by simp[IU.size],fun k x=>rfl⟩
 ·have hs:=Aj h2;exact ⟨di,by rw[C2,hv,aA,Cq hs];rfl,by rw[Ec hs];exact be,fun k x=>Hr (B6 hs)⟩
theorem SeqU.tru(h:SeqU u us L):Qh u L=ξ (!us.isEmpty):=by
 rcases h with rfl | ⟨n,rfl,h2⟩
 ·rfl
 ·unfold Qh;simp only;rw[h2]
theorem tuple_of(h:L[n]? = Ξ us):Bj [di] L=ξ (.tup us,L):=by simp only[Bj,Aj h,aD]
theorem Uj{β:Type}{ix:ly}{fi:FI}{it:IU}{fe:FE}{δ:UE}{L L0:UH}(as:ed)(rep:β->U)(e:β->U)(tl:UE)(hx:Ga ix δ = ψ::tl)(hi:fi δ L=ξ (it,L0))(hsz:(as.map rep).length<=it.size L0)(hl:as.length < 16777216)(hat:∀ k x,it.at k (L0++x)=ξ (as.map rep)[k]?)
  (step:∀ (a:β) x,a∈as->∃ z,fe (ξ (rep a)::tl) (L0++x)=ξ (e a,L0++x++z)) :
  ∃ L',Bg ix fi d8 ψ fe δ L=ξ (.ref L'.length,L'++[.lst (as.map e)])/\oj L0:=by
 obtain ⟨x,e1⟩:=Bq (ix:=ix) (fi:=fi) (it:=it) (g:=d8) (tt:=ψ) (fe:=fe) (δ:=δ) (L:=L) (L0:=L0) as rep Zn e (fun δ=>∃ z,δ = z::tl) hi (by simpa using hsz) hl ⟨ψ,hx⟩ hat
  (fun a δ x ha ⟨y,hδ⟩=>by
   subst hδ;obtain ⟨z,e2⟩:=step a x ha;exact ⟨ξ (rep a)::tl,rfl,jk,[],by simp[Gz],fun _=>⟨z,by rw[bB];exact e2⟩⟩)
 have hff:fP Zn as=as:=cW.mpr Zg;rw[hff] at e1;exact ⟨L0++x,e1,cu x⟩
def Ani(fe1 fe2:FE):FS:=(Az (a8 (ko [ψ] dg d8 ψ fe2) 1) (B0 (lm Bj (ko [ψ,ξ 1] dq d8 ψ fe1))))
theorem Aiu{ps:jj}(hu:SeqU u (ps.map nU) L)(hl:ps.length<=1000)(h2:∀ p∈ps,∀ M,fe [ξ (nU p)] M=ξ (tI p.2,M))(x1:az) :
  ∃ (r:Nat) (M:UH),(a8 (ko [ψ] dg d8 ψ fe) 1) [br,x1] L=ξ (.nx [br,η r],M)/\M[r]? = Ξ ((ss).map tI)/\Gw L M:=by
 obtain ⟨it,hi,hsz,hat⟩:=hu.it (fe:=dg) (δ:=[br,x1]) (M:=L) rfl;obtain ⟨L',e,g⟩:=Uj (ix:=[ψ]) (fe:=fe) ps nU (fun p=>tI p.2) [] rfl hi hsz Ze hat (fun p x hp=>⟨[],by rw[bB];exact h2 p hp _⟩);have s1:=C5 (i:=1) e;have hm:ps.map (fun p=>tI p.2)=(ss).map tI:=by rw[bU];rfl
 rw[hm] at s1;exact ⟨_,_,s1,Za,g.trans gl⟩
theorem each_ok{fe1 fe2:FE}{ps:jj}{u:U}{L:UH}(c:Λ->Int)(hu:SeqU u (ps.map nU) L)(hl:ps.length<=1000)(h2:∀ p∈ps,∀ M,fe2 [ξ (nU p)] M=ξ (tI p.2,M))
  (h1:∀ (M:UH) (r:Nat) (a:Λ),a∈ss->M[r]? = ξ (.lst ((ss).map tI))->∃ M',fe1 [ξ (tI a),η r] M=ξ (.int (c a),M')/\Gw M M') :
  ∃ L',fnU 2 1 (Ani fe1 fe2) [u] L=ξ (.tup (((ss).map c).map U.int),L')/\om:=by
 obtain ⟨r,M,s1,hr,gM⟩:=Aiu hu hl h2 ψ;have hla:(ss).length < 16777216:=by rw[aL];omega
 generalize ps.map cP=as at hr h1 hla ⊢;obtain ⟨it,hi,hsz,hat⟩:=SeqU.it (u:=.ref r) (us:=as.map tI) (L:=M) (.inr (gu r hr)) (fe:=dq) (δ:=[br,η r]) (M:=M) rfl;obtain ⟨L',e,g⟩:=Uj (ix:=[ψ,ξ 1]) (fe:=fe1) as tI (fun a=>.int (c a)) [η r] rfl hi hsz hla hat (fun a x ha=>by
  obtain ⟨M',e,z,hz⟩:=h1 (M++x) r a ha ((Gw.new M x).get hr);exact ⟨z,by rw[e,hz]⟩)
 have hm:as.map (fun a=>U.int (c a))=(as.map c).map U.int:=by rw[bU];rfl
 rw[hm] at e;refine ⟨_,fnN rfl ?_,gM.trans (g.trans (Gw.new L' [HU.lst ((as.map c).map U.int)]))⟩;show Ani fe1 fe2 [br,ψ] L=_;unfold Ani;rw[mf];exact E4 (Ek e (tuple_of Za))
theorem Amn{p:PN}(h:p.2.length=2)(L:UH):Bb [nU p] L=ξ (tI p.2,L):=by
 obtain ⟨n,a⟩:=p;match a,h with
 | [x,y],_=>
  have sm2:small (0+1+1)=true:=small_of Zb;have i1:Al (nU (n,[x,y])) ip L=ξ (.int x,L):=rfl;have i2:Al (nU (n,[x,y])) (.int 2) L=ξ (.int y,L):=rfl;unfold Bb fnU P5;simp only[aR,bG,if_true,aQ,bY,dA,dH,bB,fRet_eq,Ha,fCons_eq,fNil_eq,f2_eq,fVar_eq,fC_eq,aP,bD,aD,aA,i1,i2];rw[if_pos sm2];rfl
def cAs(as:lr):Λ:=as.map fun a=>(cA as a:Int)
def Dim(k:Nat)(ps:jj):Prop:=∀ p∈ps,p.2.length=k
theorem Dim.len{ps:jj}(h:Dim k ps)(hk:k<=1000):∀ a∈ss,a.length<=1000:=fun a ha=>by
 obtain ⟨p,hp,rfl⟩:=bK.mp ha;rw[h p hp];exact hk
theorem Xa{ps:jj}(hu:SeqU u (ps.map nU) L)(hl:ps.length<=1000)(hd:Dim 2 ps):∃ L',Ln [u] L=ξ (.tup ((cAs ss).map U.int),L')/\om:=
 each_ok (fe1:=Mz) (fe2:=Mt) (fun a=>(cA ss a:Int)) hu hl (fun p hp M=>Gf rfl (Amn (hd p hp) M)) (fun M r a ha hr=>by
  obtain ⟨M',e,g⟩:=Aef a hr (by rw[aL];exact hl) (hd.len Zb a ha);exact ⟨M',So rfl rfl e,g⟩)
noncomputable def sU(l:Φ):U:=.tup (l.map U.str)
theorem ix_name(p:PN)(L:UH):Al (nU p) (.int 0) L=ξ (.str p.1,L):=by
 unfold nU;rw[Rw,Ny Zb (by rw[aR];omega)];rfl
def ordN(qs:jj):Ω:=SO.Cr (ltK (qs.map cP)) qs.length
theorem ordN_perm(qs:jj):(ordN qs).Perm (bJ qs.length):=SO.Gb (Ij _)
def nulN:PN:=("",[])
def srtN(qs:jj):jj:=(ordN qs).map fun i=>qs.getD i nulN
theorem Akj(qs:jj):(srtN qs).Perm qs:=by
 have e:(bJ qs.length).map (fun i=>qs.getD i nulN)=qs:=by
  apply gU
  ·simp
  ·intro i h1 h2;have hi:i < qs.length:=by simpa using h2
   rw[vW,tD,aE,km];rfl
 have:=(ordN_perm qs).map fun i=>qs.getD i nulN
 rw[e] at this;exact this
theorem Aq3(a:Λ):Oz (tI a)=m7:=toI_ints a
theorem A0v{p:PN}(h:p.2.length=2)(L:UH):Pw Bb L (nU p)=ξ p.2:=by
 unfold Pw;rw[Amn h L];simp only[aA,if_true];exact Aq3 p.2
theorem Asl(L:UH):∀ ps:jj,Dim 2 ps->mapO (Pw Bb L) (ps.map nU)=ξ ss
 | [],_=>rfl
 | p::ps,h=>by
  rw[aQ,aQ];simp only[mapO,A0v (h p (aS ..)),Asl L ps (fun q hq=>h q (oq hq)),aA,aD]
theorem Ala{ps:jj}(hl:ps.length<=60)(hd:Dim 2 ps)(hn:L[n]? = Ξ (ps.map nU))(h:Ad i δ L=ξ (di,L)):V2 Bb (Ad i) δ L=ξ (cf,L++[.lst ((srtN ps).map nU)]):=by
 have hall:((ss).all fun t=>!t.isEmpty)=true:=by
  rw[bO];intro t ht;obtain ⟨p,hp,rfl⟩:=bK.mp ht;have:=hd p hp;cases hq:p.2 with
  | nil=>rw[hq] at this;cases this
  | cons _ _=>rfl
 unfold V2;rw[h];simp only[aA,Aj hn,Asl L ps hd];rw[if_pos ⟨by rw[aL];omega,hall⟩];have:(srtN ps).map nU=(SO.Cr (ltK ss) (ps.map nU).length).map fun i=>(ps.map nU).getD i .non:=by
  unfold srtN ordN;rw[bU,aL];refine dG fun i hi=>?_
  have hi:i < ps.length:=bM.mp ((ordN_perm ps).mem_iff.mp hi);show nU (ps.getD i nulN)=(ps.map nU).getD i .non;rw[aE,aE,aX,km];rfl
 rw[this]
theorem Apf{ws:aa}(h:SeqU u us L)(hi:Ad i δ L=ξ (u,L))(hj:Ad j δ L=ξ (.tup ws,L)):∃ it,Sx (Δ i (df j)) δ L=ξ (it,L)/\(Dt us ws).length<=it.size L/\∀ k x,it.at k (L++x)=ξ (Dt us ws)[k]?:=by
 have hc:(Δ i (df j)) δ L=ξ ([u,.tup ws],L):=by
  rw[fCons_eq,hi,aA,fCons_eq,hj];rfl
 rcases h with rfl | ⟨n,rfl,h2⟩
 ·exact ⟨.seq (Dt us ws),by unfold Sx;rw[hc];rfl,by simp[IU.size],fun k x=>rfl⟩
 ·have hs:=Aj h2;refine ⟨.zipL n ws,by unfold Sx;rw[hc];simp only[aA,hs,aD],?_,fun k x=>?_⟩
  ·show _<=(match Aq L n with | some us=>min us.length ws.length | none=>0);rw[hs];simp[Dt]
  ·show (sx (L++x)).map _=_;rw[B6 hs,aD,P7]
def zU(as:lr)(p:PN):U:=.tup [nU p,.int (cA as p.2:Int)]
theorem Arc(lf:jj):Dt og ZJ=lf.map (zU gs):=by
 unfold cAs;rw[bU,bU];generalize lf.map cP=as;unfold Dt;rw[List.zip_map',bU];rfl
def topN(lf:jj):jj:=lf.filter fun p=>decide (cA gs p.2=0)
def rstN(lf:jj):jj:=lf.filter fun p=>decide (0 < cA gs p.2)
theorem Ant{tt:FT}{fe:FE}{lf:jj}{u:U}{L:UH}{δ:UE}(f:PN->Bool)(hu:SeqU u og L)(hl:lf.length<=1000){i j:Nat}(hi:Ad i δ L=ξ (u,L))(hj:Ad j δ L=ξ (.tup ZJ,L))
  (ht:∀ p M,tt [ξ (nU p),χ (cA gs p.2:Int)] M=ξ (f p,M)) (hfe:∀ p y M,fe [ξ (nU p),y] M=ξ (nU p,M)) :
  ∃ L',Bg [ψ,ψ] (Sx (Δ i (df j))) (li 2 0 1) (ξ tt) fe δ L=ξ (.ref L'.length,L'++[.lst ((lf.filter f).map nU)])/\om:=by
 obtain ⟨it,e1,hsz,hat⟩:=Apf hu hi hj;rw[Arc] at hsz hat;obtain ⟨x,e⟩:=Bq (ix:=[ψ,ψ]) (it:=it) (g:=(li 2 0 1)) (tt:=ξ tt) (fe:=fe) (δ:=δ) (L:=L) (L0:=L)
  lf (zU gs) f nU Z3 e1 (by simpa using hsz) Ze ⟨ψ,ψ,rfl⟩ hat
  (fun p δ x _ ⟨y,z,hδ⟩=>by
   subst hδ;exact ⟨[ξ (nU p),χ (cA gs p.2:Int)],rfl,ik _ _,[],by rw[bB];exact ht p _,fun _=>⟨[],by rw[bB,bB];exact hfe p _ _⟩⟩)
 exact ⟨L++x,e,cu x⟩
theorem push_ok{l l1:aa}(h:Ad i δ L=ξ (di,L))(h0:L[n]? = Ξ l)(e:fe δ L=ξ (v,L1))(h1:L1[n]? = Ξ l1)(hl:l1.length<=1000):(Hv (vq B9 (Ad i) (a7 fe))) δ L=ξ (.nx δ,L1.set n (.lst (l1++[v]))):=by
 rw[Hf,fMeth_eq,h,aA,if_pos (Ia h0),fCons_eq,e];simp only[aA,fNil_eq,aD,G5 v h1 Ze]
theorem Adg{s:Nat}{lf:jj}{sts:aa}(hg:Gw L0 M)(hs0:L0.length<=s)(hs:M[s]? = Ξ sts)(hu:SeqU u og M)(hne:∀ n,u = di->n≠s)(hl:lf.length<=60)(hd:Dim 2 lf)(hst:sts.length<=1000)(x0 x3 x4:az) :
  ∃ (r:Nat) (y3 y4:az) (M':UH),G6 Zae M=ξ (.nx [x0,si,η r,y3,y4],M')/\M'[s]? = Ξ (sts++[sU ((qo).map jE)])/\M'[r]? = Ξ ((rstN lf).map nU)/\r≠s/\Gw L0 M':=by
 have sl:s < M.length:=(aI.mp hs).1;obtain ⟨M1,e1,g1⟩:=Xa hu Ze hd;have s1:=C5 (i:=3) (Gf (i:=2) (δ:=Zae) rfl e1);simp only[aZ,bA] at s1;obtain ⟨M2,e2,g2⟩:=Ant (tt:=Ii) (fe:=Iq) (δ:=[x0,si,br,Γ ZJ,x4]) (i:=2) (j:=3) (fun p=>decide (cA gs p.2=0)) (hu.gw g1) Ze rfl rfl (fun p M=>by
  have hb:(((cA gs p.2:Nat):Int) == 0)=decide (cA gs p.2=0):=by
   cases h:cA gs p.2 with
   | zero=>rfl
   | succ n=>rfl
  rw[<- hb];rfl) (fun _ _ _=>rfl)
 have s2:=C5 (i:=4) e2;simp only[aZ,bA] at s2;have g3:Gw M (M2++[HU.lst ((ku).map nU)]):=mo gl;have k3:(M2++[HU.lst ((ku).map nU)])[M2.length]? = Ξ ((ku).map nU):=Za
 have hs3:=g3.get hs;generalize hM3:M2++[HU.lst ((ku).map nU)]=M3 at g3 k3 hs3;have s2':(a8 (Bg [ψ,ψ] (Sx (Δ 2 (df 3))) (li 2 0 1) (ξ Ii) Iq) 4) [x0,si,br,Γ ZJ,x4] M1=ξ (.nx [x0,si,br,Γ ZJ,η M2.length],M3):=by rw[<- hM3];exact s2
 have hdt:Dim 2 ku:=fun p hp=>hd p (bZ.mp hp).1
 have hlt:(ku).length<=60:=cC (gP _ _) hl;have so:=Ala (i:=4) (δ:=[x0,si,br,Γ ZJ,η M2.length]) hlt hdt k3 rfl;have hso:SeqU (.ref M3.length) ((qo).map nU) (M3++[HU.lst ((qo).map nU)]):=.inr ⟨_,rfl,Za⟩;obtain ⟨it,hi,hsz,hat⟩:=hso.it so;obtain ⟨M4,e4,g4⟩:=Uj (ix:=[ψ]) (fe:=Nj) qo nU (fun p=>U.str p.1) [] rfl hi hsz (by rw[(Akj _).length_eq];omega) hat (fun p x hp=>⟨[],by rw[bB];exact B4 rfl rfl (ix_name p _)⟩)
 have hm:(qo).map (fun p=>U.str p.1)=((qo).map jE).map U.str:=by rw[bU];rfl
 rw[hm] at e4;have g5:Gw M3 (M4++[HU.lst (((qo).map jE).map U.str)]):=(gl).trans (g4.trans gl);have e5:=Ek e4 (tuple_of (us:=((qo).map jE).map U.str) Za);have hs5:=g5.get hs3;generalize M4++[HU.lst (((qo).map jE).map U.str)]=M5 at g5 e5 hs5;have s3:=push_ok (i:=1) (δ:=[x0,si,br,Γ ZJ,η M2.length]) rfl hs3 e5 hs5 hst;have g6:Gw M M5:=g3.trans g5;have hu6:SeqU u og (M5.set s (.lst ZA)):=by
  rcases hu with h | ⟨n,h,h2⟩
  ·exact .inl h
  ·exact .inr ⟨n,h,by rw[bF (eJ (hne n h))];exact g6.get h2⟩
 have hs6:(M5.set s (.lst ZA))[s]? = Ξ ZA:=bL (bI sl g6.le);have g7:Gw L0 (M5.set s (.lst ZA)):=(hg.trans g6).set hs0 _;have ln:M5.length=(M5.set s (.lst ZA)).length:=by rw[gF]
 generalize M5.set s (.lst ZA)=M6 at s3 hu6 hs6 g7 ln;obtain ⟨M7,e7,g8⟩:=Ant (tt:=Oc) (fe:=N6) (δ:=[x0,si,br,Γ ZJ,η M2.length]) (i:=2) (j:=3) (fun p=>decide (0 < cA gs p.2)) hu6 Ze rfl rfl (fun p M=>by
  have hb:decide ((0:Int) < ((cA gs p.2:Nat):Int))=decide (0 < cA gs p.2):=by
   cases h:cA gs p.2 with
   | zero=>rfl
   | succ n=>simp
  rw[<- hb];rfl) (fun _ _ _=>rfl)
 have s4:=C5 (i:=2) e7;simp only[aZ,bA] at s4;refine ⟨M7.length,Γ ZJ,η M2.length,M7++[.lst ((rstN lf).map nU)],?_,(gl).get (g8.get hs6),Za,?_,g7.trans (g8.trans gl)⟩
 ·unfold G6;rw[mf,Ak s2',Ak s3];exact s4
 ·have:=g6.le;have:=g8.le;omega
def stairsF:Nat->jj->List Φ
 | 0,_=>[]
 | n+1,lf=>if lf.isEmpty then [] else ((qo).map jE)::stairsF n (rstN lf)
theorem Acp{s:Nat}(hs0:L0.length<=s)(x0:az)(hdec:∀ lf:jj,lf≠[]->Dim 2 lf->(rstN lf).length < lf.length):∀ (n k:Nat) (lf:jj) (M:UH) (u:U) (sts:aa) (x3 x4:az),lf.length<=n->lf.length<=60->Dim 2 lf->sts.length+n<=1000->Gw L0 M->M[s]? = Ξ sts->SeqU u og M->(∀ n,u = di->n≠s) ->
  ∃ (δ':UE) (M':UH),Dz E5 G6 (n+(k+1)) Zae M=ξ (.nx δ',M')/\Ad 1 δ' M'=ξ (.ref s,M')/\M'[s]? = Ξ (sts++(stairsF n lf).map sU)/\Gw L0 M':=by
 intro n;induction n with
 | zero=>
  intro k lf M u sts x3 x4 hn hl hd hst hg hs hu hne;have h0:lf=[]:=lF.mp Ze;subst h0;have ht:E5 Zae M=ξ (false,M):=by
   show ((Qh u M).map fun k=>(k,M))=_;rw[hu.tru];rfl
  refine ⟨Zae,M,?_,rfl,by rw[hs];simp[stairsF],hg⟩
  show Dz _ _ (0+(k+1)) _ _=_;rw[nV];unfold Dz;rw[ht];rfl
 | succ n ih=>
  intro k lf M u sts x3 x4 hn hl hd hst hg hs hu hne;have e1:n+1+(k+1)=(n+(k+1))+1:=Ze
  rw[e1];by_cases h0:lf=[]
  ·subst h0;have ht:E5 Zae M=ξ (false,M):=by
    show ((Qh u M).map fun k=>(k,M))=_;rw[hu.tru];rfl
   refine ⟨Zae,M,?_,rfl,by rw[hs];simp[stairsF],hg⟩
   unfold Dz;rw[ht];rfl
  ·have hem:lf.isEmpty=false:=by cases lf with | nil=>exact absurd rfl h0 | cons _ _=>rfl
   have ht:E5 Zae M=ξ (true,M):=by
    show ((Qh u M).map fun k=>(k,M))=_;rw[hu.tru];cases lf with
    | nil=>exact absurd rfl h0
    | cons _ _=>rfl
   obtain ⟨r,y3,y4,M',e,hs',hr',hrs,hg'⟩:=Adg hg hs0 hs hu hne hl hd Ze x0 x3 x4;have hlt:=hdec lf h0 hd;obtain ⟨δ',M2,e2,hv,hs2,hg2⟩:=ih k (rstN lf) M' ig _ y3 y4 Ze Ze (fun p hp=>hd p (bZ.mp hp).1) (by rw[cG,gO];omega) hg' hs' (.inr (gu r hr')) (fun m hm=>by cases hm;exact hrs);refine ⟨δ',M2,?_,hv,?_,hg2⟩
   ·unfold Dz;rw[ht];simp only[aA,if_true,e,e2]
   ·rw[hs2,stairsF,hem];simp
theorem Ak4:∀ (a b:Λ),a.length=b.length->((a.zip b).all fun p=>decide (p.1<=p.2))=true->a.sum<=b.sum/\(a.sum=b.sum->a=b)
 | [],[],_,_=>⟨mY _,fun _=>rfl⟩
 | [],_::_,h,_=>by cases h
 | _::_,[],h,_=>by cases h
 | x::a,y::b,h,hl=>by
  rw[iL,jH,cB] at hl;have h1:=of_decide_eq_true hl.1;obtain ⟨h2,h3⟩:=Ak4 a b (by simpa using h) hl.2;simp only[jI];refine ⟨Ze,fun he=>?_⟩;have:x=y:=by simp only at h1;omega
  rw[this,h3 (by simp only at h1;omega)]
theorem Avq{a b:Λ}(hl:a.length=b.length)(h:und a b=true):a.sum < b.sum:=by
 unfold und at h;rw[cB] at h;obtain ⟨h1,h2⟩:=Ak4 a b hl h.2;have hn:a≠b:=by simpa using h.1
 have:a.sum≠b.sum:=fun e=>hn (h2 e)
 omega
theorem Ah4:∀ (l:jj),l≠[]->∃ p∈l,∀ q∈l,q.2.sum<=p.2.sum
 | [],h=>absurd rfl h
 | [a],_=>⟨a,bV.mpr rfl,fun q hq=>by rw[bV.mp hq];exact mY _⟩
 | a::b::l,_=>by
  obtain ⟨p,hp,h⟩:=Ah4 (b::l) Za;by_cases hc:p.2.sum<=a.2.sum
  ·refine ⟨a,aS ..,fun q hq=>?_⟩;rcases bE.mp hq with rfl | hq
   ·exact mY _
   ·exact Int.le_trans (h q hq) hc
  ·refine ⟨p,oq hp,fun q hq=>?_⟩;rcases bE.mp hq with rfl | hq
   ·omega
   ·exact h q hq
theorem rst_lt{lf:jj}(h0:lf≠[])(hd:Dim k lf):(rstN lf).length < lf.length:=by
 obtain ⟨p,hp,hm⟩:=Ah4 lf h0;unfold rstN;rw[List.length_filter_lt_length_iff_exists];refine ⟨p,hp,?_⟩;have:cA gs p.2=0:=by
  unfold cA;rw[lF,jW];intro a ha;obtain ⟨q,hq,rfl⟩:=bK.mp ha;intro hu;have:=Avq (by rw[hd p hp,hd q hq]) hu;have:=hm q hq;omega
 rw[this];simp
theorem stairs_ok{lf:jj}(hl:lf.length<=60)(hd:Dim 2 lf)(L:UH):∃ L',Cp [.tup og] L=ξ (.tup ((stairsF lf.length lf).map sU),L')/\om:=by
 have sm0:small ([]:aa).length=true:=small_of (by show 0<=16777216;decide);have s1:(a8 mh 1) [Γ og,ψ,ψ,ψ,ψ] L=ξ (.nx [Γ og,aw,ψ,ψ,ψ],L++[fz]):=by
  rw[fAsg_eq,fLst_eq,fNil_eq,aA,if_pos sm0];rfl
 have s2:(a8 dg 2) [Γ og,aw,ψ,ψ,ψ] (L++[fz])=ξ (.nx [Γ og,aw,Γ og,ψ,ψ],L++[fz]):=rfl;obtain ⟨δ',M',e,hv,hs,g⟩:=Acp (L0:=L) (s:=L.length) be (Γ og) (fun lf h0 hd=>rst_lt h0 hd) lf.length (100000 - lf.length - 1) lf (L++[fz]) (.tup og) [] ψ ψ be hl hd (by show 0+lf.length<=1000;omega) gl Za jc (fun n h=>by cases h);have hk:lf.length+(100000 - lf.length - 1+1)=100000:=Ze
 rw[hk] at e;rw[fL] at hs;refine ⟨M',fnN rfl ?_,g⟩;show Nm [Γ og,ψ,ψ,ψ,ψ] L=_;unfold Nm;rw[mf,Ak s2,Ak e];exact E4 (Ek hv (tuple_of hs))
end SN
def toQ(p:P3):SN.PN:=(p.1,[p.2.1,p.2.2])
theorem Ail(p q:Int×Int):SN.und [p.1,p.2] [q.1,q.2]=Bt p q:=by
 rw[eV,Ib];unfold SN.und;simp only[cB,lR,decide_eq_false_iff_not,iL,oJ,jH,yE,mS,decide_eq_true_eq,kX,and_true];obtain ⟨a,b⟩:=p;obtain ⟨c,d⟩:=q;simp only[ne_eq,sL];constructor
 ·rintro ⟨h1,h2,h3⟩;exact ⟨h2,h3,h1⟩
 ·rintro ⟨h1,h2,h3⟩;exact ⟨h3,h1,h2⟩
def fQ(ps:ah)(k:Nat):SN.PN:=toQ (b7 k)
def C1(ps:ah)(lf:Ω):Ω:=lf.filter fun k=>(lf.filter fun j=>Ab1 ps k j).isEmpty
def Nr(ps:ah)(lf:Ω):Ω:=lf.filter fun k=>!((C1 ps lf).contains k)
def Kj(ps:ah)(B:Ω):Ω:=(SN.ordN (B.map (fQ ps))).map fun i=>B.getD i 0
def stL(ps:ah):Nat->Ω->List Φ
 | 0,_=>[]
 | n+1,lf=>if lf.isEmpty then [] else ((Kj ps (C1 ps lf)).map fun k=>(b7 k).1)::stL ps n (Nr ps lf)
theorem As2(ps:ah)(lf:Ω)(k:Nat):SN.cA ((lf.map (fQ ps)).map cP) (fQ ps k).2=(lf.filter fun j=>Ab1 ps k j).length:=by
 unfold SN.cA;rw[bU,qZ,aL]
 congr 1
 refine lW fun j _=>?_
 exact Ail (b7 k).2 (b7 j).2
theorem Alr(ps:ah)(lf:Ω):SN.topN (lf.map (fQ ps))=(C1 ps lf).map (fQ ps):=by
 unfold SN.topN C1;rw[qZ]
 congr 1
 refine lW fun k _=>?_
 show decide (SN.cA ((lf.map (fQ ps)).map cP) (fQ ps k).2=0)=_;rw[As2];cases lf.filter fun j=>Ab1 ps k j <;> simp
theorem rst_rest(ps:ah)(lf:Ω):SN.rstN (lf.map (fQ ps))=(Nr ps lf).map (fQ ps):=by
 unfold SN.rstN Nr;rw[qZ]
 congr 1
 refine lW fun k hk=>?_
 show decide (0 < SN.cA ((lf.map (fQ ps)).map cP) (fQ ps k).2)=_;rw[As2];have hc:(C1 ps lf).contains k=(lf.filter fun j=>Ab1 ps k j).isEmpty:=by
  rw[eV,mG];unfold C1;rw[bZ];exact ⟨fun h=>h.2,fun h=>⟨hk,h⟩⟩
 rw[hc];cases lf.filter fun j=>Ab1 ps k j <;> simp
theorem Ae8(B:Ω):(bJ B.length).map (fun i=>B.getD i 0)=B:=by
 refine kC fun i=>?_
 rw[aX];by_cases h:i < B.length
 ·have hg:B[i]? = ξ (B.getD i 0):=by rw[aE,aC h];rfl
  rw[gC h,hg];rfl
 ·rw[cN (by simp;omega),cN Ze];rfl
theorem Oh(ps:ah)(B:Ω):(Kj ps B).Perm B:=by
 have h:=(SN.ordN_perm (B.map (fQ ps))).map fun i=>B.getD i 0
 rw[aL,Ae8] at h;exact h
theorem Aru(ps:ah)(B:Ω):(SN.srtN (B.map (fQ ps))).map jE=(Kj ps B).map fun k=>(b7 k).1:=by
 unfold SN.srtN Kj;rw[bU,bU];refine dG fun i hi=>?_
 have hi:=bM.mp ((SN.ordN_perm _).mem_iff.mp hi);rw[aL] at hi;show ((B.map (fQ ps)).getD i SN.nulN).1=(b7 (B.getD i 0)).1;rw[aE,aX,aE,km];rfl
theorem Aly(ps:ah):∀ (n:Nat) (lf:Ω),SN.stairsF n (lf.map (fQ ps))=stL ps n lf
 | 0,_=>rfl
 | n+1,lf=>by
  unfold SN.stairsF stL;rw[Alr,rst_rest,Aru,Aly ps n];cases lf <;> rfl
variable {lf:Ω}
theorem Aq8(h0:lf≠[]):(Nr ps lf).length < lf.length:=by
 have h:=SN.rst_lt (lf:=lf.map (fQ ps)) (k:=2) (fun h=>h0 (List.map_eq_nil_iff.mp h)) (fun p hp=>by obtain ⟨k,_,rfl⟩:=bK.mp hp;rfl);rw[rst_rest,aL,aL] at h;exact h
def kx(ps:ah)(k:Nat):Λ:=[(b7 k).2.1,(k:Int)]
theorem A1j(a b c d:Int):ltT [a,b] [c,d]=(decide (a < c) || (decide (a=c)&&decide (b < d))):=by
 unfold ltT ltT ltT;by_cases h:a=c
 ·subst h;by_cases h2:b=d
  ·subst h2;simp
  ·simp[h2]
 ·simp[h]
theorem Afh{B:Ω}(hB:B.Pairwise (· < ·))(hno:∀ i∈B,∀ j∈B,Ab1 ps i j=false):M8 (B.map (kx ps))=(Kj ps B).map (kx ps):=by
 refine Kq ((F6 _).trans ((Oh ps B).map _).symm) (Ff _) ?_;unfold Kj;rw[bU];refine fY.mpr (kR (fun {i j} hi hj h=>?_) (SO.Abf (Ij ((B.map (fQ ps)).map cP)) (B.map (fQ ps)).length));have hi:=bM.mp ((SN.ordN_perm _).mem_iff.mp hi);have hj:=bM.mp ((SN.ordN_perm _).mem_iff.mp hj);rw[aL] at hi hj;have key:∀ {i},i < B.length->((B.map (fQ ps)).map cP).getD i []=[(b7 (B.getD i 0)).2.1,(b7 (B.getD i 0)).2.2]:=fun {i} hi=>by
  rw[aE,bU,aX,km,aE,km];rfl
 have hm:∀ {i},i < B.length->B.getD i 0∈B:=fun {i} hi=>by
  rw[aE,km];exact cS hi
 have ha:Ab1 ps (B.getD i 0) (B.getD j 0)=false:=hno _ (hm hi) _ (hm hj);have hle:i<=j->B.getD i 0<=B.getD j 0:=fun hij=>by
  rcases Nat.lt_or_eq_of_le hij with h | h
  ·have:=cK.mp hB i j hi hj h;rw[aE,aE,km,aC hj];exact iZ this
  ·rw[h];exact be
 obtain ⟨h1,h2⟩:=h;unfold SO.Le ltK at h1 h2;rw[key hi,key hj] at h1 h2;show ltT (kx ps (B.getD j 0)) (kx ps (B.getD i 0))=false;unfold kx;generalize B.getD i 0=a at *;generalize B.getD j 0=b at *;unfold Ab1 at ha;generalize (b7 a).2=p at *;generalize (b7 b).2=q at *;rw[A1j] at h1 h2 ⊢;have hb:¬ (p.1<=q.1/\p.2<=q.2/\p≠q):=fun h=>by rw[(Ib p q).mpr h] at ha;cases ha
 simp only[Bool.or_eq_false_iff,jZ,decide_eq_false_iff_not] at h1 h2 ⊢;obtain ⟨p1,p2⟩:=p;obtain ⟨q1,q2⟩:=q;simp only[ne_eq,sL] at *;refine ⟨Ze,?_⟩;by_cases e:q1=p1
 ·right;have:p2=q2:=Ze
  have:=hle (h2 Ze);omega
 ·left;exact e
theorem Ao4:∀ i∈C1 ps lf,∀ j∈C1 ps lf,Ab1 ps i j=false:=fun i hi j hj=>by
 have h1:=(bZ.mp hi).2;have h2:=(bZ.mp hj).1;cases h:Ab1 ps i j with
 | false=>rfl
 | true=>
  have:j∈lf.filter fun j=>Ab1 ps i j:=bZ.mpr ⟨h2,h⟩
  rw[List.isEmpty_iff.mp h1] at this;cases this
theorem Agj{β:Type}{ix:ly}{fi:FI}{it:IU}{g:FG}{tt:Option FT}{fe:FE}{δ:UE}{L L0:UH}(as:ed)(rep:β->U)(f:β->Bool)(e:β->U)(E:UE->Prop)(hi:fi δ L=ξ (it,L0))(hat:∀ k x,it.at k (L0++x)=ξ (as.map rep)[k]?)(hsz:as.length<=it.size L0)(hl:as.length<=1000)(h0:E (Ga ix δ))
  (step:∀ (a:β) δ M,a∈as->E δ->Gw L0 M->∃ δ1,g (rep a) δ M=ξ (δ1,M)/\E δ1/\∃ M1,Gz tt δ1 M=ξ (f a,M1)/\Gw M M1/\(f a=true->∃ M2,fe δ1 M1=ξ (e a,M2)/\Gw M1 M2)) :
  ∃ r L',Bg ix fi g tt fe δ L=ξ (ig,L')/\L'[r]? = Ξ ((as.filter f).map e)/\oj L0/\L0.length<=r:=by
 obtain ⟨x,h⟩:=Bq (tt:=tt) (g:=g) (fe:=fe) as rep f e E hi hsz Ze h0 hat (fun a δ x ha hE=>by
  obtain ⟨δ1,h1,h2,M1,h3,⟨z,rfl⟩,h4⟩:=step a δ (L0++x) ha hE (cu x);exact ⟨δ1,h1,h2,z,h3,fun hf=>by obtain ⟨M2,h5,y,rfl⟩:=h4 hf;exact ⟨y,h5⟩⟩)
 exact ⟨_,_,h,Za,⟨x++[.lst ((as.filter f).map e)],Za⟩,Za⟩
theorem Aov{β:Type}{ix:ly}{fi:FI}{it:IU}{g:FG}{fe:FE}{δ:UE}{L L0:UH}(as:ed)(rep:β->U)(e:β->U)(E:UE->Prop)(hi:fi δ L=ξ (it,L0))(hat:∀ k x,it.at k (L0++x)=ξ (as.map rep)[k]?)(hsz:as.length<=it.size L0)(hl:as.length<=1000)(h0:E (Ga ix δ))
  (step:∀ (a:β) δ M,a∈as->E δ->Gw L0 M->∃ δ1,g (rep a) δ M=ξ (δ1,M)/\E δ1/\∃ M2,fe δ1 M=ξ (e a,M2)/\Gw M M2) :
  ∃ r L',Bg ix fi g ψ fe δ L=ξ (ig,L')/\L'[r]? = Ξ (as.map e)/\oj L0/\L0.length<=r:=by
 have h:=Agj (tt:=ψ) as rep Zn e E hi hat hsz hl h0 (fun a δ M ha hE hg=>by
  obtain ⟨δ1,h1,h2,M2,h3,h4⟩:=step a δ M ha hE hg;exact ⟨δ1,h1,h2,M,rfl,.refl M,fun _=>⟨M2,h3,h4⟩⟩)
 rwa [cW.mpr Zg] at h
theorem Aod(h:fa δ L=ξ (di,M))(hn:M[n]? = Ξ us):A7 fa δ L=ξ (di,M):=by
 rw[C2,h];show (Qo di M).map _=_;simp[Qo,hn]
theorem Asi(h:fa δ L=ξ (.tup us,M)):A7 fa δ L=ξ (.seq us,M):=by
 rw[C2,h];rfl
theorem Aa9(h:M[f]? = Ξ us)(hp:∀ u∈us,Pl 6 u):eqP ff qr (M++[fz])=ξ us.isEmpty:=by
 rw[Aak (B6 (Aj h)) (Aj (us:=[]) Za) hp (fun _ h=>by cases h)];cases us with
 | nil=>rfl
 | cons a r=>
  cases hb:Aap (a::r) [] with
  | false=>rfl
  | true=>have:=(U3 hp (fun _ h=>by cases h)).mp hb;cases this
theorem Avh(h:fa δ L=ξ (ff,M))(hm:M[f]? = Ξ us)(hp:∀ u∈us,Pl 6 u):(Bn (f2 By fa mh)) δ L=ξ (us.isEmpty,M++[fz]):=by
 refine Jf (B4 h (Ad4 δ M) ?_);unfold By;rw[Aa9 hm hp];rfl
theorem At2(h:fa δ L=ξ (ff,M))(hm:M[f]? = Ξ us)(hp:∀ u∈us,Pl 6 u):(Bn (f2 Di fa mh)) δ L=ξ (!us.isEmpty,M++[fz]):=by
 refine Jf (B4 h (Ad4 δ M) ?_);unfold Di;rw[Aa9 hm hp];rfl
def nmS(ps:ah)(k:Nat):Str:=(b7 k).1
theorem atR(h:M[n]? = qz l):∀ k x,(IU.ref n).at k (M++x)=ξ (l.map fun (j:Nat)=>U.int (j:Int))[k]?:=fun k x=>Hr (B6 (Aj h))
theorem szR(h:M[n]? = qz l):l.length<=(IU.ref n).size M:=by rw[Ec (Aj h)];simp[ixU]
theorem Alj(h:M[n]? = qz lf)(hl:lf.length<=60)(hm:∀ k∈lf,k < ps.length)(hk:k < ps.length):∃ M',(Bn (f2 By (ko [ψ,m6,ij] dq d8 (ξ Ju) Jv) mh)) [χ (k:Int),η n,aq] M=ξ ((lf.filter fun j=>Ab1 ps k j).isEmpty,M')/\Gw M M':=by
 obtain ⟨r,L',e,hr,g,_⟩:=Agj (ix:=[ψ,m6,ij]) (fi:=A7 dq) (it:=.ref n) (g:=d8) (tt:=ξ Ju) (fe:=Jv) (δ:=[χ (k:Int),η n,aq]) (L:=M) (L0:=M)
  lf Zl (fun j=>Ab1 ps k j) Zl (fun δ=>∃ a,δ = [a,aq,χ (k:Int)]) (Aod rfl h) (atR h) (szR h) Ze ⟨ψ,rfl⟩
  (fun j δ N hj hE _=>by
   obtain ⟨a,rfl⟩:=hE;refine ⟨[χ (j:Int),aq,χ (k:Int)],rfl,jk,N,?_,.refl N,fun _=>gu N (.refl N)⟩;have e:=Ql (f:=Ks) (B4 (s:=Al) (show (dq) [χ (j:Int),aq,χ (k:Int)] N=_ from rfl) (show (v5) _ N=_ from rfl) (Sl hk N)) (B4 (s:=Al) (show (dq) [χ (j:Int),aq,χ (k:Int)] N=_ from rfl) (show (dg) _ N=_ from rfl) (Sl (hm j hj) N)) (Ad6 (b7 k) (b7 j) N);exact SN.tru_bl e)
 have hp:∀ u∈(lf.filter fun j=>Ab1 ps k j).map Zl,Pl 6 u:=Ate _;refine ⟨L'++[fz],?_,g.trans gl⟩;rw[Avh e hr hp];cases lf.filter fun j=>Ab1 ps k j <;> rfl
theorem Ap4(h:M[n]? = qz lf)(hl:lf.length<=60)(hm:∀ k∈lf,k < ps.length)(x2 x3 x4:az):∃ r M',(ko [ψ,ξ 1,ij] dq d8 (ξ Ke) Jy) [aq,η n,x2,x3,x4] M=ξ (ig,M')/\M'[r]? = qz (C1 ps lf)/\Gw M M'/\M.length<=r:=
 Agj (ix:=[ψ,ξ 1,ij]) (fi:=A7 dq) (it:=.ref n) (g:=d8) (tt:=ξ Ke) (fe:=Jy)
  lf Zl (fun k=>(lf.filter fun j=>Ab1 ps k j).isEmpty) Zl (fun δ=>∃ a,δ = [a,η n,aq]) (Aod rfl h) (atR h) (szR h) Ze ⟨ψ,rfl⟩
  (fun k δ N hk hE g=>by
   obtain ⟨a,rfl⟩:=hE;obtain ⟨M1,e1,g1⟩:=Alj (ps:=ps) (g.get h) hl hm (hm k hk);exact ⟨[χ (k:Int),η n,aq],rfl,jk,M1,e1,g1,fun _=>gu M1 (.refl M1)⟩)
theorem Aqm(h:M[n]? = qz lf)(hb:M[b]? = qz (C1 ps lf))(hl:lf.length<=60)(x0 x2 x4:az):∃ r M',(ko [ψ,ξ 3] dq d8 (ξ Kg) Kd) [x0,η n,x2,vj,x4] M=ξ (ig,M')/\M'[r]? = qz (Nr ps lf)/\Gw M M'/\M.length<=r:=
 Agj (ix:=[ψ,ξ 3]) (fi:=A7 dq) (it:=.ref n) (g:=d8) (tt:=ξ Kg) (fe:=Kd)
  lf Zl (fun k=>!((C1 ps lf).contains k)) Zl (fun δ=>∃ a,δ = [a,vj]) (Aod rfl h) (atR h) (szR h) Ze ⟨ψ,rfl⟩
  (fun k δ N hk hE g=>by
   obtain ⟨a,rfl⟩:=hE;refine ⟨[χ (k:Int),vj],rfl,jk,N,Jf (B4 rfl rfl ?_),.refl N,fun _=>gu N (.refl N)⟩;have hs:=Aj (g.get hb);simp only[Ph,hs,aA,toV,Auy,inV_ix,aD,if_true])
theorem Al4{B:Ω}(hb:M[b]? = qz B)(hl:B.length<=60)(hm:∀ k∈B,k < ps.length)(hu:B.Pairwise (· < ·))(hno:∀ i∈B,∀ j∈B,Ab1 ps i j=false)(x1 x2 x4:az):∃ r M',(lm Nw (ko [ψ,ij] nr d8 ψ Js)) [aq,x1,x2,vj,x4] M=ξ (ig,M')/\M'[r]? = Ξ ((Kj ps B).map fun k=>.tup [.int (b7 k).2.1,.int (k:Int)])/\Gw M M':=by
 obtain ⟨r,M',e,hr,g,_⟩:=Aov (ix:=[ψ,ij]) (fi:=A7 nr) (it:=.ref b) (g:=d8) (fe:=Js) (δ:=[aq,x1,x2,vj,x4]) (L:=M) (L0:=M)
  B Zl (fun (k:Nat)=>.tup [.int (b7 k).2.1,.int (k:Int)]) (fun δ=>∃ a,δ = [a,aq]) (Aod rfl hb) (atR hb) (szR hb) Ze ⟨ψ,rfl⟩
  (fun k δ N hk hE _=>by
   obtain ⟨a,rfl⟩:=hE;exact ⟨[χ (k:Int),aq],rfl,jk,N,Ahp (B4 (B4 rfl rfl (Sl (hm k hk) N)) rfl rfl) rfl,.refl N⟩)
 have hk:mapO Oz (B.map fun (k:Nat)=>U.tup [.int (b7 k).2.1,.int (k:Int)])=ξ (B.map (kx ps)):=Ng (f:=Oz) (g:=fun (k:Nat)=>U.tup [.int (b7 k).2.1,.int (k:Int)]) (h:=kx ps) (fun k=>rfl) B;refine ⟨M'.length,M'++[.lst ((M8 (B.map (kx ps))).map Mj)],Ek (s:=Nw) e ?_,?_,g.trans gl⟩
 ·show (Aq M' r).bind _=_;rw[Aj hr,aA,hk,aA,if_pos];refine ⟨by simp;omega,bO.mpr fun t ht=>?_⟩;obtain ⟨k,_,rfl⟩:=bK.mp ht;rfl
 ·rw[Afh hu hno,bU];rw[bX be,dA];rfl
theorem Adm{c:FT}{body:FS}{P:Nat->UE->UH->Prop}{Q:UE->UH->Prop}
  (step:∀ k δ L,P k δ L->(∃ L1,c δ L=ξ (false,L1)/\Q δ L1)\/∃ L1,c δ L=ξ (true,L1)/\∃ δ2 M2 k',body δ L1=ξ (.nx δ2,M2)/\k' < k/\P k' δ2 M2) :
  ∀ (m k:Nat) (δ:UE) (L:UH),k < m->P k δ L->∃ δ' L',Dz c body m δ L=ξ (.nx δ',L')/\Q δ' L'
 | 0,k,δ,L,h,_=>by omega
 | m+1,k,δ,L,h,hP=>by
  unfold Dz;rcases step k δ L hP with ⟨L1,e1,q⟩ | ⟨L1,e1,δ2,M2,k',e2,hk,hP2⟩
  ·exact ⟨δ,L1,by simp only[e1,aA,bS,if_false],q⟩
  ·obtain ⟨δ',L',e3,q⟩:=Adm step m k' δ2 M2 Ze hP2;exact ⟨δ',L',by simp only[e1,aA,if_true,e2,e3],q⟩
variable {ls:Ω}
theorem Acg(hm:∀ k∈ls,k < ps.length):∀ k∈C1 ps ls,k < ps.length:=fun k hk=>hm k (bZ.mp hk).1
theorem Abq(ps:ah)(ls:Ω):(C1 ps ls).length<=ls.length:=gP _ _
theorem Anl(h:ls.Pairwise (· < ·)):(C1 ps ls).Pairwise (· < ·):=h.sublist nM
theorem Am8(h:ls.Pairwise (· < ·)):(Nr ps ls).Pairwise (· < ·):=h.sublist nM
theorem Amw(hm:∀ k∈ls,k < ps.length):∀ k∈Nr ps ls,k < ps.length:=fun k hk=>hm k (bZ.mp hk).1
inductive StR(ps:ah)(v:Option (Fl×UH))(L0:UH)(s:Nat)(sts:aa)(ls:Ω):Prop
 | mk (l:Nat) (y3 y4:az) (K:UH) (e:v=ξ (.nx [aq,η l,si,y3,y4],K)) (hl:K[l]? = qz (Nr ps ls)) (hs:K[s]? = Ξ (sts++[SN.sU ((Kj ps (C1 ps ls)).map (nmS ps))])) (h:l≠s) (g:Gw L0 K)
theorem Xg{l s:Nat}{sts:aa}(hl:K[l]? = qz ls)(hs:K[s]? = Ξ sts)(h:l≠s)(hL:L0.length<=s)(g:Gw L0 K)(h6:ls.length<=60)(hm:∀ k∈ls,k < ps.length)(hu:ls.Pairwise (· < ·))(hst:sts.length<=900)(x3 x4:az) :
  StR ps (H9 [aq,η l,si,x3,x4] K) L0 s sts ls:=by
 obtain ⟨b,K1,e1,hb,g1,lb⟩:=Ap4 (ps:=ps) hl h6 hm si x3 x4;have hbl:=Abq ps ls;obtain ⟨o,K2,e2,ho,g2⟩:=Al4 (ps:=ps) (B:=C1 ps ls) hb Ze (Acg hm) (Anl hu) Ao4 (η l) si x4;have hol:=(Oh ps (C1 ps ls)).length_eq;obtain ⟨r,K3,e3,hr,g3,_⟩:=Aov (ix:=[ψ,ψ,ij]) (fi:=A7 (Ad 4)) (it:=.ref o) (g:=(li 2 0 1)) (fe:=Ka) (δ:=[aq,η l,si,vj,η o]) (L:=K2) (L0:=K2)
  (Kj ps (C1 ps ls)) (fun (k:Nat)=>.tup [.int (b7 k).2.1,.int (k:Int)]) (fun k=>.str (nmS ps k)) (fun δ=>∃ a b,δ = [a,b,aq]) (Aod rfl ho) (fun k x=>Hr (B6 (Aj ho))) (by rw[Ec (Aj ho)];simp) Ze ⟨ψ,ψ,rfl⟩
  (fun k δ N hk hE _=>by
   obtain ⟨a,b,rfl⟩:=hE;exact ⟨[χ (b7 k).2.1,χ (k:Int),aq],rfl,ik _ _,N,B4 (B4 rfl rfl (Sl (Acg hm k ((Oh _ _).mem_iff.mp hk)) N)) rfl rfl,.refl N⟩)
 have sl:s < K.length:=(aI.mp hs).1;have s3:=SN.push_ok (i:=2) (δ:=[aq,η l,si,vj,η o]) rfl (g2.get (g1.get hs)) (Ek e3 (SN.tuple_of hr)) (g3.get (g2.get (g1.get hs))) Ze;have hrow:(Kj ps (C1 ps ls)).map (fun k=>U.str (nmS ps k))=((Kj ps (C1 ps ls)).map (nmS ps)).map U.str:=by rw[bU];rfl
 rw[hrow] at s3;have g13:=(d6).trans g3;have hl4:(K3.set s (.lst Zj))[l]? = qz ls:=by rw[bF (eJ h)];exact g13.get hl
 have hb4:(K3.set s (.lst Zj))[b]? = qz (C1 ps ls):=by rw[bF Ze];exact (g2.trans g3).get hb
 have hs4:(K3.set s (.lst Zj))[s]? = Ξ Zj:=bL (bI sl g13.le);have g4:Gw L0 (K3.set s (.lst Zj)):=(g.trans g13).set hL _;have ln:(K3.set s (.lst Zj)).length=K3.length:=gF;have s3':(Hv (vq B9 v5 (a7 (lm Bj (ko [ψ,ψ,ij] (Ad 4) (li 2 0 1) ψ Ka))))) [aq,η l,si,vj,η o] K2=ξ (.nx [aq,η l,si,vj,η o],K3.set s (.lst Zj)):=s3;generalize K3.set s (.lst Zj)=K4 at s3' hl4 hb4 hs4 g4 ln;obtain ⟨q,K5,e5,hq,g5,lq⟩:=Aqm (ps:=ps) hl4 hb4 h6 aq si (η o);have:=g13.le;refine ⟨q,vj,η o,K5,?_,hq,g5.get hs4,Ze,g4.trans g5⟩;unfold H9;rw[Ak (C5 e1)];show Az _ _ [aq,η l,si,vj,x4] K1=_;rw[Ak (C5 e2)];show Az _ _ [aq,η l,si,vj,η o] K2=_;rw[Ak s3'];exact C5 e5
def Kl(ps:ah):List Φ:=stL ps ps.length bx
theorem Adq(hn:ps.length<=60)(L:UH):∃ L',Py [el] L=ξ (.tup Zz,L')/\om:=by
 have hlen:Bc [el] L=ξ (.int ps.length,L):=by simp[Bc,lenU]
 have h1:(Aba (a7 (gg Bc 0))) [aq,ψ,ψ,ψ,ψ] L=ξ (cf,L++[.lst (ixU bx)]):=by
  unfold Aba;simp only[fCons_eq,fCall_eq,fVar_eq,fNil_eq,aP,bD,aD,aA,hlen,eE,Af6];rw[if_pos ⟨Ze,Ze⟩]
 have s1:=C5 (i:=1) h1;have s2:=C5 (i:=2) (Ad4 [aq,aw,ψ,ψ,ψ] (L++[.lst (ixU bx)]));simp only[aZ,bA] at s1 s2;generalize hM:L++[HU.lst (ixU bx)]=M at s1 s2;have hML:M.length=L.length+1:=by rw[<- hM];simp
 have hMl:M[L.length]? = qz bx:=by rw[<- hM];simp
 have gLM:Gw L M:=⟨_,hM.symm⟩;obtain ⟨δ',L',e,P⟩:=Adm (c:=Kf) (body:=H9)
  (P:=fun m δ K=>∃ l x3 x4 k ls done,δ = [aq,η l,pj,x3,x4]/\K[l]? = qz ls/\K[M.length]? = Ξ (done.map SN.sU)/\l≠M.length/\Gw M K/\ls.length=m/\m<=k/\done.length+k=ps.length/\done++stL ps k ls=Kl ps/\ls.Pairwise (· < ·)/\∀ j∈ls,j < ps.length)
  (Q:=fun δ K=>∃ l x3 x4,δ = [aq,η l,pj,x3,x4]/\K[M.length]? = Ξ Zz/\Gw M K)
  (fun m δ K hP=>by
   obtain ⟨l,x3,x4,k,ls,done,rfl,hl,hs,hne,g,hm,hk,hd,hst,hu,hlt⟩:=hP;have hc:Kf [aq,η l,pj,x3,x4] K=ξ (!(ixU ls).isEmpty,K++[fz]):=At2 (fa:=dq) rfl hl (Ate ls);have gc:=Gw.new K [c7];cases ls with
   | nil=>
    refine .inl ⟨K++[fz],by rw[hc];rfl,l,x3,x4,rfl,?_,g.trans gc⟩;have:done=Kl ps:=by rw[<- hst];cases k <;> simp[stL]
    rw[<- this];exact gc.get hs
   | cons a r=>
    obtain ⟨k,rfl⟩:∃ k',k=k'+1:=⟨k - 1,by simp only[aR] at hm;omega⟩;obtain ⟨l2,y3,y4,K2,e,hl2,hs2,hn2,g2⟩:=Xg (ps:=ps) (gc.get hl) (gc.get hs) hne be (g.trans gc) Ze hlt hu (by rw[aL];omega) x3 x4;have hb:=Aq8 (ps:=ps) (lf:=a::r) Za;refine .inr ⟨K++[fz],by rw[hc];rfl,_,K2,(Nr ps (a::r)).length,e,Ze,l2,y3,y4,k,Nr ps (a::r),done++[(Kj ps (C1 ps (a::r))).map (nmS ps)],rfl,hl2,by rw[hs2,dF];rfl,hn2,g2,rfl,Ze,by rw[cG,gO];omega,?_,Am8 hu,Amw hlt⟩
    rw[<- hst,cM];rfl)
  100000 ps.length _ _ Ze ⟨L.length,ψ,ψ,ps.length,bx,[],rfl,(Gw.new M [c7]).get hMl,Za,Ze,gl,Za,be,Za,by simp[Kl],List.pairwise_lt_range,fun j hj=>bM.mp hj⟩
 obtain ⟨l,x3,x4,hδ,hs,g⟩:=P;refine ⟨L',fnN rfl ?_,gLM.trans g⟩;show P9 [aq,ψ,ψ,ψ,ψ] L=_;unfold P9;rw[mf,Ak s2,Ak e,hδ];exact E4 (Ek rfl (SN.tuple_of hs))
theorem P8(hn:ps.length<=60)(L:UH):∃ L',Cp [el] L=ξ (.tup Zz,L')/\om:=by
 have hf:ps.map toQ=(bx).map (fQ ps):=by
  refine kC fun i=>?_
  rw[aX,aX];by_cases h:i < ps.length
  ·have hg:ps[i]? = ξ pi:=by unfold ptAt;rw[aE,aC h];rfl
   rw[gC h,hg];rfl
  ·rw[cN (l:=ps) Ze,cN (l:=bx) (by rw[dD];omega)];rfl
 obtain ⟨L',e,g⟩:=SN.stairs_ok (lf:=ps.map toQ) (by rw[aL];exact hn) (fun p hp=>by obtain ⟨q,_,rfl⟩:=bK.mp hp;rfl) L;have hm:θ=(ps.map toQ).map SN.nU:=by rw[bU];rfl
 rw[aL,hf,Aly] at e;rw[hm,hf];exact ⟨L',e,g⟩
theorem Amf(R:FN)(hs:Pl 6 (.str s))(L:UH):(fnU 2 2 (N8 R)) [.str s,.str s] L=ξ (eo,L):=by
 have t1:∀ s L,Lz (.str s) L=ξ "str" := fun _ _=>rfl
 have n1:isT "str" "tuple" = false:=rfl;have n2:isT "str" "str" = true:=rfl;have hi:Rj false (.str s) .non L=ξ (gq,L):=rfl;have he:By (.str s) (.str s) L=ξ (eo,L):=by rw[Ace L hs hs,Wa hs]
 unfold fnU N8;simp only[aR,bG,if_true,aQ,bY,dA,dH,bB,fSeq_eq,fIfS_eq,fTest_eq,fTru_eq,f2_eq,fIsi_eq,fVar_eq,fC_eq,aY,aP,bD,aD,aA,hi,t1,n1,n2,truU_bl,bS,if_false,Gk,fRet_eq,Iz,he]
theorem Xw(R:FN)(us:aa)(hR:∀ u∈us,∀ L,∃ x,R [u,u] L=ξ (eo,L++x))(hx:us.length<=1000)(L:UH):∃ x,(fnU 2 2 (N8 R)) [.tup us,.tup us] L=ξ (eo,L++x):=by
 have hz:(K8 (Δ 0 (df 1))) [Γ us,Γ us] L=ξ (.seq (us.map fun a=>.tup [a,a]),L):=by
  have:Dt us us=us.map fun a=>.tup [a,a]:=by
   clear hR hx;unfold Dt;induction us with
   | nil=>rfl
   | cons x xs ih=>rw[iL,aQ,ih];rfl
  rw[<- this];rfl
 obtain ⟨x,e⟩:=Bq (ix:=[ψ,ψ]) (fi:=K8 (Δ 0 (df 1))) (it:=.seq (us.map fun a=>.tup [a,a])) (g:=(li 2 0 1)) (tt:=ξ (Ji R)) (fe:=S3 R) (δ:=[Γ us,Γ us]) (L:=L) (L0:=L)
  us (fun a=>.tup [a,a]) (fun _=>false) (fun _=>.int 1) Z3 hz (by simp[IU.size]) Ze ⟨ψ,ψ,rfl⟩
  Z2
  (fun a δ x ha ⟨y,z,hδ⟩=>by
   subst hδ;obtain ⟨w,hw⟩:=hR a ha (L++x);refine ⟨[m7,m7],rfl,ik _ _,w,?_,fun h=>by cases h⟩;show (Ji R) [m7,m7] (L++x)=_;unfold Ji;simp only[Ou,fTru_eq,fOwn_eq,fCons_eq,fNil_eq,fVar_eq,aY,aP,bD,aD,aA,aR,bG,if_true,hw,truU_bl,jL])
 have hf:fP (fun _=>false) us=([]:aa):=jW.mpr (fun _ _=>by simp);rw[hf,bY] at e;have q1:Aq (L++x++[c7]++[c7]) (L++x).length=ξ []:=B6 (Aj Za);have q2:Aq (L++x++[c7]++[c7]) (L++x++[c7]).length=ξ []:=Aj Za;have he:=Yq q1 q2 Za Za;have hb:Aap [] []=true:=rfl;rw[hb] at he;refine ⟨x++[c7]++[c7],?_⟩;have t1:∀ l L,Lz ox L=ξ "tuple" := fun _ _=>rfl
 have n1:isT "tuple" "tuple" = true:=rfl;have hi:∀ l,Rj false ox .non L=ξ (gq,L):=fun _=>rfl
 have hlen:∀ l:aa,Bc [ox] L=ξ (.int l.length,L):=fun l=>rfl
 have hne:∀ i:Int,Di ce ce L=ξ (gq,L):=fun i=>by simp
 have sm0:small ([]:aa).length=true:=small_of (by show 0<=16777216;decide);have hl0:∀ δ M,(mh) δ M=ξ (qr,M++[fz]):=fun δ M=>by rw[fLst_eq,fNil_eq,aA,if_pos sm0]
 unfold fnU N8;simp only[aR,bG,if_true,aQ,bY,dA,dH,bB,fSeq_eq,fIfS_eq,fTest_eq,fTru_eq,fOr_eq,Ou,f2_eq,fIsi_eq,fCall_eq,fCons_eq,fVar_eq,fC_eq,aY,aP,bD,aD,aA,hi,t1,n1,truU_bl,bS,if_false,Gk,fRet_eq,jL,fNil_eq,hlen,hne];simp only[e,aA,hl0,he,aD];simp only[cM]
theorem Aj0(hl:rows.length<=1000)(hr:∀ r∈rows,r.length<=1000/\∀ s∈r,Low s)(L:UH):∃ x,Vc [.tup (rows.map SN.sU),.tup (rows.map SN.sU)] L=ξ (eo,L++x):=by
 refine Xw (Ig 2) (rows.map SN.sU) (fun u hu L=>?_) (by rw[aL];exact hl) L;obtain ⟨r,hr',rfl⟩:=bK.mp hu;refine Xw (Ig 1) (r.map U.str) (fun u hu L=>?_) (by rw[aL];exact (hr r hr').1) L
 obtain ⟨s,hs,rfl⟩:=bK.mp hu;exact ⟨[],by rw[bB];exact Amf (Ig 0) (Wi ((hr r hr').2 s hs) 6) L⟩
noncomputable abbrev Nb:=List (Str×Nat)
def Y8(D:Nb)(s:Str)(t:Nat):Nb:=if (D.any fun p=>decide (p.1=s))=true then D.map (fun p=>if p.1=s then (p.1,t) else p) else D++[(s,t)]
def nbU(p:Str×Nat):L2.Key×U:=(dM p.1,.int (p.2:Int))
theorem put_nb(D:Nb)(s:Str)(t:Nat):Iu il (.inr s) (.int (t:Int))=(Y8 D s t).map nbU:=by
 unfold Iu Y8;have ha:((il).any fun kv=>decide (kv.1 = .inr s))=D.any fun p=>decide (p.1=s):=by
  rw[List.any_map]
  congr 1
  funext p
  show decide ((dM p.1:L2.Key) = .inr s)=_;simp
 rw[ha];split
 ·rw[bU,bU];refine dG fun p _=>?_
  show (if (dM p.1:L2.Key) = .inr s then _ else _)=nbU (if p.1=s then _ else _);by_cases h:p.1=s
  ·rw[if_pos h,if_pos (by rw[h])];rfl
  ·rw[if_neg h,if_neg (by simpa using h)]
 ·rw[dF];rfl
theorem Aln(D:Nb)(s:Str)(t:Nat):(Y8 D s t).length<=D.length+1:=by
 unfold Y8;split <;> simp
variable {D:Nb}
theorem Af9(h:(D.map (·.1)).Nodup)(s:Str)(t:Nat):((Y8 D s t).map (·.1)).Nodup:=by
 unfold Y8;split
 ·rw[bU];have:D.map ((fun x=>x.1)∘fun p=>if p.1=s then (p.1,t) else p)=D.map (·.1):=dG fun p _=>by
   show (if p.1=s then (p.1,t) else p).1=p.1;split <;> rfl
  rw[this];exact h
 ·rename_i hn;rw[dF,fD];refine ⟨h,Za,fun a ha b hb e=>hn ?_⟩;obtain ⟨p,hp,rfl⟩:=bK.mp ha;have hb':b=s:=by simpa using hb
  exact iI.mpr ⟨p,hp,decide_eq_true (e.trans hb')⟩
def Kx(t:Nat)(r:Φ)(D:Nb):Nb:=r.foldl (fun D s=>Y8 D s t) D
def Mu:Nat->List Φ->Nb->Nb
 | _,[],D=>D
 | t,r::rs,D=>Mu (t+1) rs (Kx t r D)
structure NbOk(D:Nb)(n:Nat):Prop where
 nd:(D.map (·.1)).Nodup
 le:D.length<=n
theorem NbOk.put(h:NbOk D n)(s:Str)(t:Nat):NbOk (Y8 D s t) (n+1):=⟨Af9 h.nd s t,cC (Aln D s t) (pX h.le)⟩
structure NbSc(E a c r b:Nat)(sc:az->az->az->UE):Prop where
 d:∀ t q n M,Ad a (sc t q n) M=ξ (.ref E,M)
 t:∀ t q n M,Ad c (sc (ξ t) q n) M=ξ (t,M)
 q:∀ t q n M,Ad r (sc t (ξ q) n) M=ξ (q,M)
 n:∀ t q n M,Ad b (sc t q (ξ n)) M=ξ (n,M)
 g1:∀ t q n u M,gN b u (sc t q n) M=ξ (sc t q br,M)
 g2:∀ t q n u v M,(li 2 c r) (.tup [u,v]) (sc t q n) M=ξ (sc br j3 n,M)
theorem Awu{a c:Nat}{sc:az->az->az->UE}(S:NbSc E a c r b sc){m:Nat}(hE:L[E]? = iy il)(hD:NbOk D m){row:Φ}(hm:m+row.length<=100000)(t:Nat)(n:az) :
  ∃ n' L',(Fu (A7 (Ad r)) (gN b) (Hx (Ad a) (Ad b) (Ad c))) (sc (χ (t:Int)) (ξ (SN.sU row)) n) L=ξ (.nx (sc (χ (t:Int)) (ξ (SN.sU row)) n'),L')/\L'[E]? = iy ((Kx t row D).map nbU)/\NbOk (Kx t row D) (m+row.length)/\L'.length=L.length/\∀ i,i≠E->L'[i]? = L[i]?:=by
 obtain ⟨δ',L',e,⟨n',hδ⟩,h1,h2,h3,h4⟩:=Lm (us:=row.map U.str) (body:=Hx (Ad a) (Ad b) (Ad c)) (g:=gN b) (L0:=L)
  (fun k δ' L'=>(∃ n',δ'=sc (χ (t:Int)) (ξ (SN.sU row)) n')/\L'[E]? = iy ((Kx t (row.take k) D).map nbU)/\NbOk (Kx t (row.take k) D) (m+k)/\L'.length=L.length/\∀ i,i≠E->L'[i]? = L[i]?)
  (Asi (S.q _ _ _ _)) ⟨⟨n,rfl⟩,hE,hD,rfl,fun _ _=>rfl⟩
  (fun k u δ M hu hP=>by
   obtain ⟨⟨n',rfl⟩,h1,h2,h3,h4⟩:=hP;rw[aX] at hu;obtain ⟨s,hs,rfl⟩:=aH.mp hu;have hk:=(aI.mp hs).1;have ht:row.take (k+1)=row.take k++[s]:=by rw[eF,hs];rfl
   have hp:Kx t (row.take (k+1)) D=Y8 (Kx t (row.take k) D) s t:=by unfold Kx;rw[ht,pI];rfl
   have hEl:=(aI.mp h1).1;refine ⟨_,M,S.g1 _ _ _ _ _,_,_,.inl (Ahn (S.t _ _ _ _) (S.d _ _ _ _) (S.n _ _ _ _) (k:=.inr s) rfl h1 (by rw[aL];have:=h2.le;omega)),jk,?_,?_,by rw[gF];exact h3,fun i hi=>by rw[bF (eJ hi)];exact h4 i hi⟩
   ·rw[bL hEl,put_nb,hp]
   ·rw[hp];exact h2.put s t)
 rw[aL,gX] at h1 h2;rw[hδ] at e;exact ⟨n',L',e,h1,h2,h3,h4⟩
theorem Aif(rows:List Φ):Ko (rows.map SN.sU)=(bJ rows.length).map fun (i:Nat)=>U.tup [.int (i:Int),SN.sU (rows.getD i [])]:=by
 refine kC fun k=>?_
 unfold Ko;rw[mX,aX,aX];by_cases h:k < rows.length
 ·have hg:rows[k]? = ξ (rows.getD k []):=by rw[aE,aC h];rfl
  rw[gC h,hg];rfl
 ·rw[cN (l:=rows) Ze,cN (l:=bJ rows.length) (by rw[dD];omega)];rfl
theorem nbAll_snoc(r:Φ):∀ (rs:List Φ) (t:Nat) (D:Nb),Mu t (rs++[r]) D=Kx (t+rs.length) r (Mu t rs D)
 | [],t,D=>rfl
 | q::rs,t,D=>by
  show Mu (t+1) (rs++[r]) (Kx t q D)=_;rw[nbAll_snoc r rs (t+1)];show Kx (t+1+rs.length) r _=Kx (t+(rs.length+1)) r _;rw[show t+1+rs.length=t+(rs.length+1) by omega];rfl
theorem Anw{a c:Nat}{sc:az->az->az->UE}(S:NbSc E a c r b sc)(hf:fe (sc ψ ψ ψ) L0=ξ (.tup (rows.map SN.sU),L))(hE:L[E]? = iy [])(hl:rows.length<=60)(hr:∀ q∈rows,q.length<=60) :
  ∃ t q n L',(Fu (Jx (a7 fe)) (li 2 c r) (Fu (A7 (Ad r)) (gN b) (Hx (Ad a) (Ad b) (Ad c)))) (sc ψ ψ ψ) L0=ξ (.nx (sc t q n),L')/\L'[E]? = iy ((Mu 0 rows []).map nbU)/\NbOk (Mu 0 rows []) 3600/\L'.length=L.length/\∀ i,i≠E->L'[i]? = L[i]?:=by
 have hi:(Jx (a7 fe)) (sc ψ ψ ψ) L0=ξ (.seq (Ko (rows.map SN.sU)),L):=by
  unfold Jx;rw[fCons_eq,hf];rfl
 rw[Aif] at hi;obtain ⟨δ',L',e,⟨t,q,n,hδ⟩,h1,h2,h3,h4⟩:=Lm (us:=(bJ rows.length).map fun (i:Nat)=>U.tup [.int (i:Int),SN.sU (rows.getD i [])]) (body:=Fu (A7 (Ad r)) (gN b) (Hx (Ad a) (Ad b) (Ad c))) (g:=li 2 c r)
  (fun k δ' L'=>(∃ t q n,δ'=sc t q n)/\L'[E]? = iy ((Mu 0 (rows.take k) []).map nbU)/\NbOk (Mu 0 (rows.take k) []) (60 * k)/\L'.length=L.length/\∀ i,i≠E->L'[i]? = L[i]?)
  hi ⟨⟨ψ,ψ,ψ,rfl⟩,hE,⟨by simp[Mu],be⟩,rfl,fun _ _=>rfl⟩
  (fun k u δ M hu hP=>by
   obtain ⟨⟨t,q,n,rfl⟩,h1,h2,h3,h4⟩:=hP;rw[aX] at hu;obtain ⟨i,hi,rfl⟩:=aH.mp hu;have hk:k < rows.length:=by have:=(aI.mp hi).1;rwa [dD] at this
   rw[gC hk] at hi;cases hi;have hg:rows[k]? = ξ (rows.getD k []):=by rw[aE,aC hk];rfl
   have hrl:=hr _ (bT hg);obtain ⟨n',M',e,g1,g2,g3,g4⟩:=Awu S h1 h2 (row:=rows.getD k []) Ze k n;have ht:rows.take (k+1)=rows.take k++[rows.getD k []]:=by rw[eF,hg];rfl
   have hp:Mu 0 (rows.take (k+1)) []=Kx k (rows.getD k []) (Mu 0 (rows.take k) []):=by
    rw[ht,nbAll_snoc,eW,nV,qU (iZ hk)]
   refine ⟨_,M,S.g2 _ _ _ _ _ _,_,M',.inl e,⟨_,_,_,rfl⟩,by rw[hp];exact g1,by rw[hp];exact ⟨g2.nd,by have:=g2.le;omega⟩,by rw[g3,h3],fun i hi=>by rw[g4 i hi,h4 i hi]⟩)
 rw[aL,dD,gX] at h1 h2;rw[hδ] at e;exact ⟨t,q,n,L',e,h1,⟨h2.nd,by have:=h2.le;omega⟩,h3,h4⟩
theorem Agb(ps:ah):∀ (n:Nat) (lf:Ω),(stL ps n lf).length<=n/\∀ r∈stL ps n lf,r.length<=lf.length/\∀ s∈r,∃ k∈lf,s=nmS ps k
 | 0,lf=>⟨be,fun r h=>by cases h⟩
 | n+1,lf=>by
  obtain ⟨h1,h2⟩:=Agb ps n (Nr ps lf);unfold stL;split
  ·exact ⟨eS _,fun r h=>by cases h⟩
  ·refine ⟨pX h1,fun r h=>?_⟩;rcases bE.mp h with rfl | h
   ·have hp:=Oh ps (C1 ps lf);refine ⟨by rw[aL,hp.length_eq];exact Abq ps lf,fun s hs=>?_⟩;obtain ⟨k,hk,rfl⟩:=bK.mp hs;exact ik k (bZ.mp (hp.mem_iff.mp hk)).1
   ·obtain ⟨h3,h4⟩:=h2 r h;refine ⟨cC h3 (gP _ _),fun s hs=>?_⟩;obtain ⟨k,hk,e⟩:=h4 s hs;exact ⟨k,(bZ.mp hk).1,e⟩
theorem Aa4(hn:ps.length<=60):(Kl ps).length<=60/\∀ r∈Kl ps,r.length<=60:=by
 obtain ⟨h1,h2⟩:=Agb ps ps.length bx;refine ⟨cC h1 hn,fun r hr=>?_⟩;have:=(h2 r hr).1;rw[dD] at this;omega
theorem Aor(hw:∀ p∈ps,ni)(h:k < ps.length):Low (nmS ps k):=by
 have hg:ps[k]? = ξ (b7 k):=by unfold ptAt;rw[aE,aC h];rfl
 exact hw _ (bT hg)
theorem Ah3(hw:∀ p∈ps,ni):∀ r∈Kl ps,∀ s∈r,Low s:=fun r hr s hs=>by
 obtain ⟨k,hk,rfl⟩:=((Agb ps ps.length bx).2 r hr).2 s hs;exact Aor hw (bM.mp hk)
theorem Asn(h:∀ i,i < L.length->L'[i]? = L[i]?)(hl:L.length<=L'.length):om:=by
 refine ⟨L'.drop L.length,?_⟩;have:L'.take L.length=L:=by
  refine kC fun i=>?_
  rw[List.getElem?_take];by_cases hi:i < L.length
  ·rw[if_pos hi,h i hi]
  ·rw[if_neg hi,cN Ze]
 rw[<- this,eW,qU hl,mF]
def nbD(ps:ah):Nb:=Mu 0 (Kl ps) []
theorem Ag2(δ:UE)(L:UH):O1 δ L=ξ (cf,L++[.dic []]):=rfl
theorem Qe(hn:ps.length<=60)(L:UH):∃ E L',B5 [el] L=ξ (.ref E,L')/\L'[E]? = iy ((nbD ps).map nbU)/\NbOk (nbD ps) 3600/\L.length<=E/\om:=by
 have s1:=C5 (i:=1) (Ag2 [aq,ψ,ψ,ψ,ψ] L);simp only[aZ,bA] at s1;obtain ⟨L1,e1,g1⟩:=P8 hn (L++[.dic []]);obtain ⟨d1,d2⟩:=Aa4 hn;obtain ⟨t,q,n,L2,e2,h1,h2,h3,h4⟩:=Anw (E:=L.length) (a:=1) (c:=2) (r:=3) (b:=4) (sc:=fun t q n=>[aq,aw,t,q,n]) ⟨fun _ _ _ _=>rfl,fun _ _ _ _=>rfl,fun _ _ _ _=>rfl,fun _ _ _ _=>rfl,fun _ _ _ _ _=>rfl,fun _ _ _ _ _ _=>rfl⟩ (fe:=j8 1 Cp Af) (Gf rfl e1) (g1.get Za) d1 d2;have hg:=(Gw.new L [HU.dic []]).trans g1;refine ⟨L.length,L2,fnN rfl ?_,h1,h2,be,Asn (fun i hi=>by rw[h4 i Ze];obtain ⟨x,rfl⟩:=hg;rw[bH hi]) (by rw[h3];exact hg.le)⟩
 show Hk [aq,ψ,ψ,ψ,ψ] L=_;unfold Hk;rw[mf];have e2':(Fu (Jx (a7 (j8 1 Cp Af))) (li 2 2 3) Jm) [aq,aw,ψ,ψ,ψ] (L++[.dic []])=ξ (.nx [aq,aw,t,q,n],L2):=e2;rw[Ak e2'];rfl
def kiN(p:Str×Nat):L2.Key×Int:=(dM p.1,(p.2:Int))
theorem toKI_nb(D:Nb):mapO Af3 il=ξ (D.map kiN):=Ng (f:=Af3) (g:=nbU) (h:=kiN) ZH D
theorem Amo(h:(D.map (·.1)).Nodup):eqD (D.map kiN) (D.map kiN)=true:=by
 unfold eqD Yr;rw[beq_self_eq_true,xV,List.all_map];refine bO.mpr fun p hp=>?_
 show (match (D.map kiN).find? fun q=>decide (q.1=(kiN p).1) with | none=>false | some q=>(kiN p).2 == q.2)=true;cases hf:(D.map kiN).find? fun q=>decide (q.1=(kiN p).1) with
 | none=>
  have:=kZ.mp hf (kiN p) (kL hp);simp at this
 | some q=>
  have h1:=wV hf;obtain ⟨r,hr,rfl⟩:=bK.mp (kI hf);have h2:r.1=p.1:=by
   have:=of_decide_eq_true h1;exact oW this
  have h3:=fY.mp h;have:r=p:=by
   obtain ⟨i,hi,rfl⟩:=sA.mp hr;obtain ⟨j,hj,rfl⟩:=sA.mp hp;rcases lU i j with c | c | c
   ·exact absurd h2 (cK.mp h3 i j hi hj c)
   ·subst c;rfl
   ·exact absurd h2.symm (cK.mp h3 j i hj hi c)
  rw[this];exact beq_self_eq_true _
theorem Azy{F:Nat}(h:(D.map (·.1)).Nodup)(h1:L[E]? = iy il)(h2:L[F]? = iy il):E2 (.ref E) (.ref F) L=ξ (gq,L):=by
 unfold E2;have d1:B3 L E=ξ il:=by unfold B3;rw[h1]
 have d2:B3 L F=ξ il:=by unfold B3;rw[h2]
 simp only[d1,d2,aA,toKI_nb,aD,Amo h,jL]
theorem Atp{F:Nat}(h:(D.map (·.1)).Nodup)(h1:L[E]? = iy il)(h2:L[F]? = iy il):Ip (.ref E) (.ref F) L=ξ (eo,L):=by
 unfold Ip;have d1:B3 L E=ξ il:=by unfold B3;rw[h1]
 have d2:B3 L F=ξ il:=by unfold B3;rw[h2]
 simp only[d1,d2,aA,toKI_nb,aD,Amo h]
theorem Avi{p:Str×Nat}(h:p∈D):∃ i:Int,G0 il (.inr p.1)=χ i:=by
 unfold G0;cases hf:(il).find? fun kv=>decide (kv.1 = .inr p.1) with
 | none=>
  have:=kZ.mp hf (nbU p) (kL h);simp[nbU] at this
 | some q=>
  obtain ⟨r,_,rfl⟩:=bK.mp (kI hf);exact cu r.2
theorem Aq1(hE:L[E]? = iy il)(hl:D.length<=3600)(h2:Ad 2 δ L=ξ (.ref E,L))(hx:Ga [ψ,m6] δ = [ψ,η E]) :
  ∃ x,Ahy (Bg [ψ,m6] (Yc Ue v5) d8 (ξ Gn) Gg) δ L=ξ (.ref (L++x).length,L++x++[fz]):=by
 have hi:=Aql (v:=Ue) h2 hE;have hk:Ue il=D.map fun p=>U.str p.1:=by unfold Ue;rw[bU];rfl
 rw[hk] at hi;have hEl:=(aI.mp hE).1;obtain ⟨x,q⟩:=Bq (ix:=[ψ,m6]) (g:=d8) (tt:=ξ Gn) (fe:=Gg) D (fun p=>U.str p.1) (fun _=>false) (fun _=>.non) (fun δ=>∃ a,δ = [a,η E]) hi (by simp[IU.size]) Ze ⟨ψ,hx⟩ Z2
  (fun p δ x hp hδ=>by
   obtain ⟨a,rfl⟩:=hδ;obtain ⟨i,hv⟩:=Avi hp;refine ⟨[bh p.1,η E],rfl,jk,[],?_,fun h=>by cases h⟩;rw[bB];have hd:Ai0 (L.set E (.rod il)++x) E=ξ il:=by
    unfold Ai0;rw[bH (by rw[gF];exact hEl),bL hEl]
   have e:(Y5 dq dg) [bh p.1,η E] (L.set E (.rod il)++x)=ξ (ce,L.set E (.rod il)++x):=by
    show ((toK (.str p.1)).bind fun k=>(Ai0 _ E).bind fun kvs=>(G0 kvs k).map fun u=>(u,_))=_;rw[hd];show (G0 il (.inr p.1)).map _=_;rw[hv];rfl
   show (Gp (Tc "bool" (Y5 dq dg))) _ _=_;simp only[fTru_eq,fIsi_eq,e,aA];rfl)
 have hf:D.filter (fun _=>false)=[]:=jW.mpr (fun _ _=>by simp);rw[hf,bY] at q;refine ⟨x,?_⟩;unfold Ahy;rw[q];have ln:(L.set E (.rod il)).length=L.length:=gF;simp only[aD];rw[cM,Xz _ _ _ ln.symm,Yy L E _ hE,<- cM];simp
theorem Wl{L2:UH}(h1:fa δ L=ξ (u,L1))(h2:fb δ L1=ξ (v,L2))(h:E2 u v L2=ξ (gq,L3)):(Bn (f2 E2 fa fb)) δ L=ξ (false,L3):=Jf (B4 h1 h2 h)
theorem Xo(hn:ps.length<=60)(L:UH):∃ L',Ih [el,.tup Zz] L=ξ (eo,L')/\om:=by
 obtain ⟨d1,d2⟩:=Aa4 hn;obtain ⟨E,L1,e1,h1,N1,l1,g1⟩:=Qe hn L;generalize hP:U.tup θ=P at *;have s1:=C5 (i:=2) (Gf (i:=0) (δ:=[l8,Γ Zz,ψ,ψ,ψ,ψ,ψ]) rfl e1);have s2:=C5 (i:=3) (Ag2 [l8,Γ Zz,η E,ψ,ψ,ψ,ψ] L1);simp only[aZ,bA] at s1 s2;have hEl:=(aI.mp h1).1;obtain ⟨t,q,n,L2,e2,h2,_,h3,h4⟩:=Anw (E:=L1.length) (a:=3) (c:=4) (r:=5) (b:=6) (sc:=fun t q n=>[l8,Γ Zz,η E,η L1.length,t,q,n]) ⟨fun _ _ _ _=>rfl,fun _ _ _ _=>rfl,fun _ _ _ _=>rfl,fun _ _ _ _=>rfl,fun _ _ _ _ _=>rfl,fun _ _ _ _ _ _=>rfl⟩ (L0:=L1++[.dic []]) (fe:=dq) rfl Za d1 d2;have g2:Gw L1 L2:=Asn (fun i hi=>by rw[h4 i Ze,bH hi]) (by rw[h3];simp);have s3:(Fu (Jx (df 1)) (li 2 4 5) Km) [l8,Γ Zz,η E,η L1.length,ψ,ψ,ψ] (L1++[.dic []])=ξ (.nx [l8,Γ Zz,η E,η L1.length,t,q,n],L2):=e2;have hE2:=g2.get h1;generalize hδ:[l8,Γ Zz,η E,η L1.length,t,q,n] = δ at s3;have v0:∀ M,Ad 0 δ M=ξ (P,M):=fun M=>by rw[<- hδ];rfl
 have v2:∀ M,Ad 2 δ M=ξ (.ref E,M):=fun M=>by rw[<- hδ];rfl
 have v3:∀ M,Ad 3 δ M=ξ (.ref L1.length,M):=fun M=>by rw[<- hδ];rfl
 have t4:(Tc "dict" v5) δ L2=ξ (eo,L2):=by
  rw[fIsi_eq,v2,aA];have ty:Lz (.ref E) L2=ξ "dict" := by unfold Lz;simp only[hE2]
  show (Lz (.ref E) L2).map _=_;rw[ty];rfl
 have s4:=Su (f:=B0 (fC gq)) (Ah9 (Aa7 t4) (Wl (v2 L2) (v3 L2) (Azy N1.nd hE2 h2)));obtain ⟨x,e5⟩:=Aq1 hE2 N1.le (v2 L2) (by rw[<- hδ];rfl);have g5:Gw L2 (L2++x++[c7]):=(gl).trans gl;have q5:(L2++x++[c7])[(L2++x).length]? = Ξ []:=Za
 generalize (L2++x).length=r at e5 q5;generalize L2++x++[c7]=L5 at e5 q5 g5;have n5:E2 ig (.ref L5.length) (L5++[fz])=ξ (gq,L5++[fz]):=by
  have d:B3 (L5++[c7]) r=ψ:=by unfold B3;rw[(Gw.new L5 [c7]).get q5]
  unfold E2;simp only[d];unfold Di;rw[Aa9 q5 (fun _ h=>by cases h)];rfl
 have s5:=Su (f:=B0 (fC gq)) (Wl e5 (Ad4 δ L5) n5);have g6:Gw L2 (L5++[fz]):=g5.trans gl;generalize L5++[c7]=L6 at s5 g6;have s6:(Hx v5 (cj "strange") (ω 7)) δ L6=ξ (.nx δ,L6.set E (.dic (Iu ((nbD ps).map nbU) (.inr "strange") (.int 7)))):=Ahn rfl (v2 L6) rfl rfl (g6.get hE2) (by rw[aL];have:=N1.le;omega);have h7:(L6.set E (.dic (Iu ((nbD ps).map nbU) (.inr "strange") (.int 7))))[L1.length]? = iy ((nbD ps).map nbU):=by
  rw[bF Ze];exact g6.get h2
 have g7:Gw L (L6.set E (.dic (Iu ((nbD ps).map nbU) (.inr "strange") (.int 7)))):=((d6).trans g6).set l1 _;generalize L6.set E (.dic (Iu ((nbD ps).map nbU) (.inr "strange") (.int 7)))=L7 at s6 h7 g7;obtain ⟨F,L8,e8,h8,_,_,g8⟩:=Qe hn L7;rw[hP] at e8;have s8:(f2 Ip (j8 1 B5 Af) nr) δ L7=ξ (eo,L8):=B4 (Gf (v0 L7) e8) (v3 L8) (Atp N1.nd h8 (g8.get h7));refine ⟨L8,fnN rfl ?_,g7.trans g8⟩;show Iw [l8,Γ Zz,ψ,ψ,ψ,ψ,ψ] L=_;unfold Iw;rw[mf,Ak s2,Ak s3,Ak s4,Ak s5,Ak s6];exact E4 s8
structure ChA(ps:ah)(k:Nat)(n:Int)(ws:Φ):Prop where
 long:∀ L,∃ L',Cj [el] L=ξ (.tup [.int (k:Int),.int n,.tup lh],L')/\om
 heavy:∀ L W,Wt L W ps w1->∃ L',Ck [el,.ref W] L=ξ (.tup [.int (k:Int),.tup lh],L')/\om
 each:∀ L,∃ us L',B7 [el] L=ξ (.tup us,L')/\us.length=k/\om
 low:∀ s∈ws,Low s
theorem Ac1(ps:ah)(T:Nat):(Kw ps T).length=T:=by simp[Kw]
theorem Atg(ps:ah)(c:Ω):nmU ps c = .tup ((c.map (nmS ps)).map U.str):=by unfold nmU;rw[bU];rfl
theorem Auh(hn:ps.length<=60)(hw:∀ p∈ps,ni):∃ k n ws,ChA ps k n ws:=by
 by_cases h0:ps=[]
 ·subst h0;refine ⟨0,1,[],fun L=>gu L (.refl L),fun L W _=>gu L (.refl L),fun L=>?_,fun s h=>by cases h⟩;obtain ⟨T,L',e,_,_,h2,g⟩:=each_ok [] Za L;refine ⟨_,L',e,?_,g⟩;rw[aL,Ac1];cases T with
  | zero=>rfl
  | succ T=>have:=h2 0 Ze;simp[Hh,bg] at this
 ·obtain ⟨c,_,_,b,_⟩:=U9 ps hn h0 [];refine ⟨c.length,(qi (c.length - 1)).sum,c.map (nmS ps),fun L=>?_,fun L W hW=>?_,fun L=>?_,fun s hs=>?_⟩
  ·obtain ⟨d,L',e,b2,g⟩:=U9 ps hn h0 L;rw[b2.uniq b] at e;refine ⟨L',?_,g⟩;rw[e];unfold Azz;rw[Atg]
  ·obtain ⟨d,L',e,b2,g⟩:=Sv hn h0 hW;rw[b2.uniq b,wS_one,Atg] at e;exact ⟨L',e,g⟩
  ·obtain ⟨T,L',e,_,h1,h2,g⟩:=each_ok ps Ze L;exact ⟨_,L',e,by rw[aL,Ac1];exact W3 b h1 h2,g⟩
  ·obtain ⟨i,hi,rfl⟩:=bK.mp hs;exact Aor hw (b.1.all i hi)
theorem Ann(hl:ps.length<=60)(hn:(ps.map (·.1)).Nodup)(h:Ad 0 δ L=ξ (el,L))(hx:Ga [ψ] δ = [ψ]):∃ W L',(lm Oi (ko [ψ] dg d8 ψ Hn)) δ L=ξ (.ref W,L')/\Wt L' W ps w1/\om:=by
 obtain ⟨a,M,e,q1,g1,_⟩:=Aov (ix:=[ψ]) (fi:=A7 dg) (it:=.seq θ) (g:=d8) (fe:=Hn) (δ:=δ) (L:=L) (L0:=L)
  ps p3U (fun p=>U.tup [.str p.1,ip]) (fun δ=>∃ a,δ = [a]) (Asi h) Z2 (by simp[IU.size]) Ze ⟨ψ,hx⟩
  (fun p δ N _ hE _=>by
   obtain ⟨a,rfl⟩:=hE;exact ⟨[ke],rfl,jk,N,Au8 Zad rfl,.refl N⟩)
 have hd:B3 M a=ψ:=by unfold B3;rw[q1]
 have hp:mapO Ug (ps.map fun p=>U.tup [.str p.1,ip])=ξ ZW:=Ng (f:=Ug) (g:=fun p:P3=>U.tup [.str p.1,ip]) (h:=fun p=>((dM p.1:L2.Key),U.int 1)) ZH ps;have hm:Afe ZW=ps.map fun p=>((dM p.1:L2.Key),U.int 1):=by
  unfold Afe;rw[Yh _ [] (by simpa using Afg (fun _=>U.int 1) hn)];rfl
 have hs:Oi [bp] M=ξ (qr,M++[.dic ZW]):=by
  unfold Oi;simp only[hd,Aj q1,aA,hp];rw[if_pos (by rw[aL];omega),hm]
 refine ⟨M.length,_,Ek e hs,⟨ZW,Za,fun i hi=>?_⟩,g1.trans gl⟩;have hg:ps[i]? = ξ pi:=by unfold ptAt;rw[aE,km];rfl
 exact Anu (fun _=>U.int 1) (bK.mpr (ik _ (bT hg)))
structure CvA(ps:ah)(rows:List Φ)(W:Φ):Prop where
 cov:∀ M,∃ M',Il [el] M=ξ (.tup jb,M')/\Gw M M'
 crw:∀ M,∃ M',G3 [el] M=ξ (Ci W,M')/\Gw M M'
 ok:∀ M,∃ M',F0 [el,.tup jb,Ci W] M=ξ (eo,M')/\Gw M M'
theorem At7(hl:ps.length<=60)(hn:(ps.map (·.1)).Nodup)(hlow:∀ p∈ps,ni):∃ rows W,CvA ps rows W:=by
 have hpn:=Yt hn;have A:=Jh jf (Aac ps) ((Et ps).nodup_iff.mpr hpn);obtain ⟨hse,hch⟩:=Afn hn A (Et ps);obtain ⟨hcrl,hnod,htop,hno⟩:=Ae1 hn A (Et ps);have ln:=A.lens;have hfl:=Xv se;have hpl:=(A.perm.trans (Et ps));have hsl:=(Et ps).length_eq;have hrn:(Gh se).length=(se).length:=by unfold Gh;rw[aL]
 have hfll:(Gh se).flatten.length<=60:=by
  rw[hfl,aL,hpl.length_eq];exact hl
 have hrl:∀ s∈(Gh se).flatten,Low s:=fun s hs=>by
  rw[hfl] at hs;obtain ⟨p,hp,rfl⟩:=bK.mp hs;exact hlow p (hpl.mem_iff.mp hp)
 have hlr:(Gh se).length<=60:=by rw[hrn];have:=ln.1;omega
 have hfind:Hl ps (topC se)=((ps.filter fun p=>(Hl ps (topC se)).contains p.1)).map (·.1):=by
  unfold Hl
  congr 1
  refine lW fun p hp=>?_
  rw[eV];simp only[mG];constructor
  ·exact fun h=>bK.mpr (ik p (bZ.mpr ⟨hp,h⟩))
  ·intro h;obtain ⟨q,hq,he⟩:=bK.mp h;obtain ⟨q1,q2⟩:=bZ.mp hq;rw[<- Q6 hn q1 hp he];exact q2
 have hlen:(Gh se).length=(Hl ps (topC se)).length:=by rw[hrn,hcrl]
 have cov:∀ M,∃ M',Il [el] M=ξ (.tup ((Gh se).map Ci),M')/\Gw M M':=fun M=>by
  obtain ⟨M',e,g⟩:=Anq hl hpn M;rw[Ajl] at e;exact ⟨M',e,g⟩
 have crw:∀ M,∃ M',G3 [el] M=ξ (Ci (Hl ps (topC se)),M')/\Gw M M':=fun M=>by
  obtain ⟨M',e,g⟩:=Amm hl hpn M;rw[Aeb] at e;exact ⟨M',e,g⟩
 have hfin:∀ p∈fnd ps (Hl ps (topC se)),p∈topC se:=fun p hp=>by
  obtain ⟨h1,h2⟩:=bZ.mp hp;exact htop p h1 (by simpa using h2)
 have hno1:∀ p∈fnd ps (Hl ps (topC se)),∀ q∈fnd ps (Hl ps (topC se)),Bt p.2 q.2=false:=fun p hp q hq=>hno p (hfin p hp) q (hfin q hq)
 exact ⟨_,_,cov,crw,fun M=>V5 hl hn hlow (rows:=Gh se) Ze Ze hse hch hfind hno1 hlen M⟩
theorem Apb{k n:Int}{ws:Φ}(h:∀ s∈ws,Low s):Pl 6 (.tup [.int k,.int n,.tup lh]):=Hq.mpr fun u hu=>by
 simp only[bE,eY,or_false] at hu;rcases hu with rfl | rfl | rfl
 ·simp[Pl]
 ·simp[Pl]
 ·refine Hq.mpr fun u hu=>?_
  obtain ⟨s,hs,rfl⟩:=bK.mp hu;exact Wi (h s hs) _
theorem Avl{k:Int}{ws:Φ}(h:∀ s∈ws,Low s):Pl 6 (.tup [.int k,.tup lh]):=Hq.mpr fun u hu=>by
 simp only[bE,eY,or_false] at hu;rcases hu with rfl | rfl
 ·simp[Pl]
 ·refine Hq.mpr fun u hu=>?_
  obtain ⟨s,hs,rfl⟩:=bK.mp hu;exact Wi (h s hs) _
theorem Ach{l:aa}(h:Pl 6 ox)(L:UH):E2 ox ox L=ξ (gq,L):=Arx h L
theorem Ak6{l:aa}(h:Pl 6 ox)(L:UH):Ip ox ox L=ξ (eo,L):=by
 show By ox ox L=_;rw[Ace L h h,Wa h]
theorem Ai4(h:∀ r∈rows,∀ s∈r,Low s):Pl 6 (.tup (rows.map SN.sU)):=Hq.mpr fun u hu=>by
 obtain ⟨r,hr,rfl⟩:=bK.mp hu;refine Hq.mpr fun u hu=>?_
 obtain ⟨s,hs,rfl⟩:=bK.mp hu;exact Wi (h r hr s hs) _
theorem Abu(hl:ps.length<=60)(hn:(ps.map (·.1)).Nodup)(hlow:∀ p∈ps,ni)(L:UH):∃ L',Ma [el] L=ξ (eo,L'):=by
 obtain ⟨k,n,ws,A⟩:=Auh hl hlow;obtain ⟨rows,W,C⟩:=At7 hl hn hlow;have hld:=fun L=>Ann (L:=L) (δ:=[aq,ψ,ψ,ψ,ψ]) hl hn rfl rfl
 have hst:=fun L=>P8 hl L
 have hea:=fun L=>Qe hl L
 obtain ⟨a1,a2,a3,alow⟩:=A;obtain ⟨c1,c2,c3⟩:=C;generalize hP:U.tup θ=P at *;obtain ⟨w,L1,e1,hw,_⟩:=hld L;have s1:=C5 (i:=1) e1;obtain ⟨L2,e2,g2⟩:=a1 L1;have s2:=C5 (i:=2) (Gf (i:=0) (δ:=[l8,η w,ψ,ψ,ψ]) rfl e2);simp only[aZ,bA] at s1 s2;obtain ⟨L3,e3,g3⟩:=a1 L2;obtain ⟨L4,e4,g4⟩:=a2 L3 w (hw.gw (g2.trans g3));have t3:(Bn (ae E2 2 (j8 1 Cj Af))) [l8,η w,Γ [.int (k:Int),.int n,.tup lh],ψ,ψ] L2=ξ (false,L3):=Wl rfl (Gf rfl e3) (Ach (Apb alow) L3);have t4:(Bn (f2 E2 (j8 2 Ck (df 1)) (Dp (rh (nb 2 0) (nb 2 2))))) [l8,η w,Γ [.int (k:Int),.int n,.tup lh],ψ,ψ] L3=ξ (false,L4):=
  Wl (Ql rfl rfl e4) (Au8 Zad Zad) (Ach (Avl alow) L4)
 have s3:=Su (f:=B0 (fC gq)) (Ah9 t3 t4);obtain ⟨L5,e5,g5⟩:=c1 L4;have s5:=C5 (i:=3) (Gf (i:=0) (δ:=[l8,η w,Γ [.int (k:Int),.int n,.tup lh],ψ,ψ]) rfl e5);obtain ⟨L6,e6,g6⟩:=c2 L5;have s6:=C5 (i:=4) (Gf (i:=0) (δ:=[l8,η w,Γ [.int (k:Int),.int n,.tup lh],Γ jb,ψ]) rfl e6);simp only[aZ,bA] at s5 s6;obtain ⟨L7,e7,g7⟩:=c3 L6;obtain ⟨us,L8,e8,hus,g8⟩:=a3 L7;have t7:(Bn (f2 (Rj true) (j8 3 F0 (Δ 3 (df 4))) (fC eo))) [l8,η w,Γ [.int (k:Int),.int n,.tup lh],Γ jb,ξ (Ci W)] L6=ξ (false,L7):=Jf (B4 (A0c rfl rfl rfl e7) rfl rfl);have lk:Bc [.tup us] L8=ξ (.int (k:Int),L8):=by simp[Bc,lenU,hus]
 have t8:(Bn (f2 E2 (lm Bc (j8 1 B7 Af)) (nb 2 0))) [l8,η w,Γ [.int (k:Int),.int n,.tup lh],Γ jb,ξ (Ci W)] L7=ξ (false,L8):=
  Wl (Ek (Gf rfl e8) lk) Zad (by show Di (.int (k:Int)) (.int (k:Int)) L8=_;simp)
 have s7:=Su (f:=B0 (fC gq)) (Ah9 t7 t8);obtain ⟨L9,e9,g9⟩:=hst L8;obtain ⟨La,ea,ga⟩:=hst L9;obtain ⟨E,Lb,eb,hb,Nb,_,gb⟩:=hea La;obtain ⟨F,Lc,ec,hc,_,_,gc⟩:=hea Lb;have r1:(f2 Ip (j8 1 Cp Af) (j8 1 Cp Af)) [l8,η w,Γ [.int (k:Int),.int n,.tup lh],Γ jb,ξ (Ci W)] L8=ξ (eo,La):=B4 (Gf rfl e9) (Gf rfl ea) (Ak6 (Ai4 (Ah3 hlow)) La);have r2:(f2 Ip (j8 1 B5 Af) (j8 1 B5 Af)) [l8,η w,Γ [.int (k:Int),.int n,.tup lh],Γ jb,ξ (Ci W)] La=ξ (eo,Lc):=B4 (Gf rfl eb) (Gf rfl ec) (Atp Nb.nd (gc.get hb) hc);refine ⟨Lc,fnN rfl ?_⟩;show Ml [l8,ψ,ψ,ψ,ψ] L=_;unfold Ml;rw[mf,Ak s2,Ak s3,Ak s5,Ak s6,Ak s7];exact E4 ((Rb r1).trans r2)
def w1F:FS:=(a8 (ay 2 Iy 1 (a7 (f2 Al (Cw (gi (ω 9) (ω 9) (gi (ω 9) (ω 9) (gf 60)))) (ay 2 A0 1 (gf 5))))) 3)
theorem A1c(δ:UE)(L:UH):(Cw (gi (ω 9) (ω 9) (gi (ω 9) (ω 9) (gf 60)))) δ L=ξ (cf,L++[.lst [.int 9,.int 9,.int 9,.int 9,.int 60]]):=by
 simp only[fLst_eq,fCons_eq,fC_eq,fNil_eq,aA,aD];rw[kw (by show 5<=16777216;decide)]
theorem Azc(D:kq L B)(hB:B<=50000)(x0 x2 x3 x4:az):∃ (ps:ah) (L':UH),w1F [x0,dv,x2,x3,x4] L=ξ (.nx [x0,dv,x2,aq,x4],L')/\ps.length<=60/\(ps.map (·.1)).Nodup/\(∀ p∈ps,ni)/\kq L' (B+1001):=by
 have h5:(L++[HU.lst [U.int 9,.int 9,.int 9,.int 9,.int 60]])[L.length]? = Ξ [U.int 9,.int 9,.int 9,.int 9,.int 60]:=Za
 have hne:L.length≠d:=by have:=D.lt;omega
 obtain ⟨i,Lb,e2,i0,i1,D2,x2'⟩:=Dg (many:=5) (D.new [HU.lst [U.int 9,.int 9,.int 9,.int 9,.int 60]]) Ze Zb Zb;have h5':=x2'.get h5 hne;obtain ⟨m,hm,hix⟩:∃ m:Nat,m<=60/\L2.atI [U.int 9,.int 9,.int 9,.int 9,.int 60] i=ξ (.int (m:Int)):=by
  have:i=0\/i=1\/i=2\/i=3\/i=4:=Ze
  rcases this with rfl | rfl | rfl | rfl | rfl
  ·exact ⟨9,Ze,rfl⟩
  ·exact ⟨9,Ze,rfl⟩
  ·exact ⟨9,Ze,rfl⟩
  ·exact ⟨9,Ze,rfl⟩
  ·exact ⟨60,Ze,rfl⟩
 obtain ⟨ps,L3,e3,hl,hn,hlow,D3,x3'⟩:=Aj4 (most:=m) D2 Ze hm;have a1:(f2 Al (Cw (Aa (ω 9) (gi (ω 9) (ω 9) (Aa (ω 9) (gf 60))))) (ay 2 A0 1 (gf 5))) [x0,dv,x2,x3,x4] L=ξ (.int (m:Int),Lb):=B4 (A1c _ L) (Ql rfl rfl e2) (Rp h5' hix);exact ⟨ps,L3,C5 (i:=3) (Ql (fa:=dq) rfl a1 e3),Ze,hn,hlow,D3.mono Ze⟩
theorem Aul(D:kq L B)(hB:B<=50000)(x0 x2 x3 x4:az):∃ (ps:ah) (y4:az) (L':UH),Aa6 [x0,dv,x2,x3,x4] L=ξ (.nx [x0,dv,x2,aq,y4],L')/\kq L' (B+1001)/\ps.length<=60/\(ps.map (·.1)).Nodup/\∀ p∈ps,ni:=by
 obtain ⟨ps,L1,s1,hl,hn,hlow,D1⟩:=Azc D hB x0 x2 x3 x4;obtain ⟨L2,e2,g2⟩:=Adq hl L1;obtain ⟨L3,e3,g3⟩:=P8 hl L2;obtain ⟨d1,d2⟩:=Aa4 hl;obtain ⟨y,e4⟩:=Aj0 (rows:=Kl ps) Ze (fun r hr=>⟨by have:=d2 r hr;omega,Ah3 hlow r hr⟩) L3;obtain ⟨L5,e5,g5⟩:=Xo hl (L3++y);have s2:=C5 (i:=4) (Gf (i:=3) (δ:=[x0,dv,x2,aq,x4]) rfl e2);simp only[aZ,bA] at s2;refine ⟨ps,Γ Zz,L5,?_,D1.gw (g2.trans (g3.trans ((gl).trans g5))),hl,hn,hlow⟩;show Az w1F _ _ L=_;rw[mf,Ak s2];exact Su (Ah9 (Aa7 (Ql (Gf rfl e3) rfl e4)) (Aa7 (Ql rfl rfl e5)))
theorem Ank(ns:Λ)(hl:ns.length<=63)(hb:∀ n∈ns,dW n<=2 ^ 20):∃ L',Adn [.ref 0] [.ro ie]=ξ (eo,L'):=by
 have h20:(2:Nat) ^ 20<=1048576:=Zb
 obtain ⟨d,L1,e1,D1,_⟩:=Ajq ns [.ro ie] 0 rfl hl h20 (fun c hc=>Ar5 (hb c hc));have s1:=C5 (i:=1) (Gf (i:=0) (δ:=[η 0,ψ,ψ,ψ,ψ]) rfl e1);simp only[aZ,bA] at s1;obtain ⟨δ2,K2,e2,P⟩:=Lm (us:=Bo 0 5) (L0:=L1) (L:=L1) (δ:=[η 0,dv,ψ,ψ,ψ]) (body:=Aa6) (g:=gN 2) (fi:=Gv (gf 5))
  (fun k δ' L'=>(∃ y2 y3 y4,δ'=[η 0,dv,y2,y3,y4]/\(0 < k->∃ ps:ah,y3=aq/\ps.length<=60/\(ps.map (·.1)).Nodup/\∀ p∈ps,ni))/\kq L' (1001 * k)/\k<=5)
  (Rg (n:=5) rfl Ze) ⟨⟨_,_,_,rfl,fun h=>absurd h Ze⟩,by simpa using D1,Ze⟩
  (fun k u δ M hu hP=>by
   obtain ⟨⟨y2,y3,y4,hδ,_⟩,D,_⟩:=hP;subst hδ;obtain ⟨hk,rfl⟩:=Mm hu;obtain ⟨ps,z4,M',e,D',q1,q2,q3⟩:=Aul D Ze (η 0) (χ (0+(k:Int))) y3 y4;refine ⟨[η 0,dv,χ (0+(k:Int)),y3,y4],M,rfl,_,M',.inl e,⟨_,_,_,rfl,fun _=>⟨ps,rfl,q1,q2,q3⟩⟩,?_,Ze⟩;have:(1001:Int) * ((k+1:Nat):Int)=1001 * (k:Int)+1001:=Ze
   rw[this];exact D')
 obtain ⟨⟨y2,y3,y4,hδ,hps⟩,_⟩:=P;obtain ⟨ps,rfl,q1,q2,q3⟩:=hps (by rw[Lu];decide);rw[hδ] at e2;obtain ⟨K3,e3⟩:=Abu q1 q2 q3 K2;refine ⟨K3,fnN rfl ?_⟩;show Amg [η 0,ψ,ψ,ψ,ψ] [.ro ie]=_;unfold Amg;rw[mf,Ak e2];exact E4 (Gf rfl e3)
noncomputable def top(i:Nat):Stmt:=PySem.Challenge.pw_belowpoints_k24_stairs_told.main.body.getD i (.Pass ⟨0,0,0,0⟩)
abbrev Acd:Stmt:=top 19
theorem Aix:b8 ["numbers","turns"] ["numbers","turns"] Acd:=scm
abbrev Q8:Stmt:=top 1
theorem Xp:b8 ["one","other"] ["one","other"] Q8:=scm
abbrev V4:Stmt:=top 2
theorem Ac6:b8 ["point"] ["point"] V4:=scm
abbrev Pt:Stmt:=top 18
theorem Na:b8 ["points","point","place"] ["points","point"] Pt:=scm
abbrev Kk:Stmt:=top 14
theorem Dc:b8 ["points","above","begun","told"] dt Kk:=scm
abbrev Ik:Stmt:=top 26
theorem Fo:b8 ["chains","point","turn","chain"] ["chains","point"] Ik:=scm
abbrev Po:Stmt:=top 24
theorem Ew:b8 ["points","chains","point","turn","crowd"] dt Po:=scm
abbrev Pb:Stmt:=top 25
theorem Wg:b8 ["chain"] ["chain"] Pb:=scm
abbrev U7:Stmt:=top 21
theorem Acv:b8 dt dt U7:=scm
abbrev Ws:Stmt:=top 28
theorem Acn:b8 ["places","names"] ["places","names"] Ws:=scm
abbrev T6:Stmt:=top 27
theorem Hc:b8 ["points","cover","places","point","covered","chain"] ["points","cover"] T6:=scm
abbrev Q5:Stmt:=top 7
theorem W9:b8 ["places","place"] ["places","place"] Q5:=scm
abbrev Qt:Stmt:=top 4
theorem O9:b8 ["points","places"] dt Qt:=scm
abbrev Nh:Stmt:=top 6
theorem S8:b8 dt dt Nh:=scm
abbrev Uq:Stmt:=top 29
theorem Sr:b8 ["points","crowd","found"] ["points","crowd"] Uq:=scm
abbrev Pj:Stmt:=top 23
theorem Wv:b8 ["points","cover","crowd"] ["points","cover","crowd"] Pj:=scm
abbrev Ve:Stmt:=top 22
theorem Og:b8 ["points","chains","crowd"] dt Ve:=scm
abbrev Kz:Stmt:=top 16
theorem Qz:b8 ["chains"] ["chains"] Kz:=scm
abbrev F1:Stmt:=top 17
theorem Jb:b8 dt dt F1:=scm
abbrev Lg:Stmt:=top 15
theorem De:b8 ["points","weights","begun","turn","following","rest"] ["points","weights"] Lg:=scm
abbrev Lf:Stmt:=top 13
theorem Jj:b8 ["points","weights","heaviest"] ["points","weights"] Lf:=scm
abbrev Kh:Stmt:=top 12
theorem Ep:b8 ["points","ones","point","heaviest"] dt Kh:=scm
abbrev Qv:Stmt:=top 8
theorem Xq:b8 ["places","place"] ["places","place"] Qv:=scm
abbrev Qk:Stmt:=top 5
theorem Px:b8 ["points","places"] dt Qk:=scm
abbrev Sy:Stmt:=top 10
theorem Fd:b8 ["points","stairs","left","above","best"] dt Sy:=scm
abbrev Mv:Stmt:=top 11
theorem Dr:b8 ["points","stair_by_name","turn","stair","name"] dt Mv:=scm
abbrev Rf:Stmt:=top 40
theorem Fz:b8 ["spots","loads","told","rows","alone"] ["spots"] Rf:=scm
abbrev Abr:Stmt:=top 31
theorem Ie:b8 ["script","great","mixed","cell"] ["script"] Abr:=scm
abbrev Ac0:Stmt:=top 32
theorem Kt:b8 ["deck","most","found","turn","one"] ["deck","most"] Ac0:=scm
abbrev Nk:Stmt:=top 39
theorem C9:b8 ["spots","due","told","numbers","number","names","name"] ["spots","due"] Nk:=scm
abbrev Yd:Stmt:=top 33
theorem Dh:b8 ["deck","many","letters","spare","begin","near","place","alike","k","sign"] ["deck","many"] Yd:=scm
abbrev Uo:Stmt:=top 34
theorem Si:b8 ["deck","kind","far"] ["deck","kind"] Uo:=scm
abbrev U8:Stmt:=top 35
theorem Cd:b8 ["deck","most","kind","way","found","name","x","y"] ["deck","most"] U8:=scm
abbrev Acx:Stmt:=top 37
theorem Akd:b8 ["found","due"] ["found","due"] Acx:=scm
abbrev X5:Stmt:=top 36
theorem Ad3:b8 ["one","other"] ["one","other"] X5:=scm
abbrev U6:Stmt:=top 38
theorem Ge:b8 ["spots","left","found","best","order"] ["spots"] U6:=scm
abbrev Asg:Stmt:=top 41
theorem Vo:b8 ["script","deck","turn","spots","due"] ["script"] Asg:=scm
set_option genInjectivity false
set_option genSizeOf false
set_option genSizeOfSpec false
structure Defs(K:aK)(mg:Str->bi) where
 ua:l3 K "sum_at" Acd ["numbers","turns"]
 uc:l3 K "lies_below" Q8 ["one","other"]
 ud:l3 K "place_of" V4 ["point"]
 ue:l3 K "turns_above" Pt ["points","point"]
 uf:l3 K "chains_of_each" Kk dt
 ug:l3 K "first_that_takes" Ik ["chains","point"]
 uh:l3 K "chains_laid" Po dt
 ui:l3 K "names_along" Pb ["chain"]
 uj:l3 K "cover_of" U7 dt
 uk:l3 K "is_chain" Ws ["places","names"]
 ul:l3 K "is_cover" T6 ["points","cover"]
 um:l3 K "many_below" Q5 ["places","place"]
 uo:l3 K "below_each" Qt dt
 uq:l3 K "pairs_in_all" Nh dt
 ur:l3 K "is_crowd" Uq ["points","crowd"]
 ut:l3 K "cover_shown" Pj ["points","cover","crowd"]
 uu:l3 K "crowd_of" Ve dt
 uv:l3 K "first_heaviest" Kz ["chains"]
 uw:l3 K "turns_from_the_highest" F1 dt
 ux:l3 K "heaviest_begun" Lg ["points","weights"]
 uy:l3 K "heaviest_chain" Lf ["points","weights"]
 uz:l3 K "longest_chains" Kh dt
 uA:l3 K "many_above" Qv ["places","place"]
 uB:l3 K "above_each" Qk dt
 uC:l3 K "stairs_of" Sy dt
 uD:l3 K "stair_of_each" Mv dt
 uE:l3 K "_law_by_names" Rf ["spots"]
 uF:l3 K "_law_deck" Abr ["script"]
 uG:l3 K "_law_draw" Ac0 ["deck","most"]
 uH:l3 K "_law_each_right" Nk ["spots","due"]
 uI:l3 K "_law_names" Yd ["deck","many"]
 uJ:l3 K "_law_number" Uo ["deck","kind"]
 uK:l3 K "_law_points" U8 ["deck","most"]
 uL:l3 K "_law_same" Acx ["found","due"]
 uM:l3 K "_law_below" X5 ["one","other"]
 uN:l3 K "_law_stairs" U6 ["spots"]
 uO:l3 K "law" Asg ["script"]
 uP:Aut K mg "first_heaviest"
 uQ:Aut K mg "turns_from_the_highest"
 uR:mg "abs" = ψ
 uS:mg "all" = ψ
 uT:mg "any" = ψ
 uU:mg "bool" = ψ
 uV:mg "dict" = ψ
 uW:mg "enumerate" = ψ
 uX:mg "int" = ψ
 uY:mg "isinstance" = ψ
 uZ:mg "len" = ψ
 u4:mg "list" = ψ
 u5:mg "min" = ψ
 u6:mg "range" = ψ
 u7:mg "sorted" = ψ
 u8:mg "str" = ψ
 u9:mg "sum" = ψ
 ve:mg "tuple" = ψ
 vf:mg "zip" = ψ
section
variable {P:cL}{w:dC}{K:aK}{mg:Str->bi}{base:Heap}
theorem Aj1(C:kg)(LB:ny):FnOk P w K mg base CX0 1 C.ua.f C.ua.d ["numbers","turns"] (oo 2 Qq):=by
 refine Fun.okF C.ua.F Aix (fun cdv A outer s H E hr=>?_);have hu:=hr.units;exact (eh (Bi (Rt rfl) Aas Zc C.u9 mH (fq (Cf (N':=["turn","numbers"]) (ix:=[ψ,ij]) pc rfl (Bm gd) (fun _ _ _ _ _ _=>(Ao (i:=0) (show cD (α:=Str) ["turn","numbers"] by lk))) (fun _ _ _ _ _ _=>(i5 gd c8 Zg))))))
theorem Fw(C:kg)(LB:ny):FnOk P w K mg base CX0 1 C.uc.f C.uc.d ["one","other"] (oo 2 Bv):=by
 refine Fun.okF C.uc.F Xp (fun cdv A outer s H E hr=>?_);have hu:=hr.units;exact (eh (Jw (Fp (R0 hu) Qf c8 gd jz) (Nf (Bi (R1 rfl) Abe Zc C.uS mI (fq (Cf (N':=["number","above"]) (ix:=[ψ,ψ]) pc rfl (U2 Zc C.vf (au 0 (jx 1))) (fun _ _ _ _ _ _=>(F3 rfl (qw (i:=0) (show cD (α:=Str) ["number","above"] by lk) (qw (i:=1) (show cD (α:=Str) ["number","above"] by lk) Ed)))) (fun _ _ _ _ _ _=>(Fp Akv Ae3 c8 gd jz))))))))
theorem C0(C:kg)(LB:ny):FnOk P w K mg base CX0 1 C.ud.f C.ud.d ["point"] (oo 1 Bb):=by
 refine Fun.okF C.ud.F Ac6 (fun cdv A outer s H E hr=>?_);have hu:=hr.units;exact (eh (Ds (Ac (p6 c8 Zg) (fq (p6 c8 Zg)))))
theorem Nd(C:kg)(LB:ny):FnOk P w K mg base CX0 2 C.ue.f C.ue.d ["points","point"] (oo 2 Ei):=by
 refine Fun.okF C.ue.F Na (fun cdv A outer s H E hr=>?_);have hu:=hr.units;refine Ah ?s0 ?t0
 case s0=>exact (Ar (i:=2) (by exact Na.nd) (jm C.ud (C0 C LB) 1 Ae))
 exact (eh (E6 (N':=["turn","other","place"]) (ix:=[ψ,ψ,m6]) pc rfl (R7 Zc C.uW (jx 0)) (fun _ _ _ _ _ _=>(F3 rfl (qw (i:=0) (show cD (α:=Str) ["turn","other","place"] by lk) (qw (i:=1) (show cD (α:=Str) ["turn","other","place"] by lk) Ed)))) (fun _ _ _ _ _ _=>(C3 (jm C.uc (Fw C LB) 2 (fq (jm C.ud (C0 C LB) 1 Ae))))) ZD))
theorem Jp(C:kg)(LB:ny):FnOk P w K mg base CX0 3 C.uf.f C.uf.d dt (oo 1 B7):=by
 refine Fun.okF C.uf.F Dc (fun cdv A outer s H E hr=>?_);have hu:=hr.units;refine Ah ?s0 ?t0
 case s0=>exact (X7 (i:=1) (N':=["point","points"]) (ix:=[ψ,ij]) (by exact Dc.nd) pc rfl (Bm c8) (fun _ _ _ _ _ _=>(Ao (i:=0) (show cD (α:=Str) ["point","points"] by lk))) (fun _ _ _ _ _ _=>(jm C.ue (Nd C LB) 1 (jx 0))))
 refine Ah ?s1 ?t1
 case s1=>exact (Ar (i:=2) (by exact Dc.nd) (Bl Eo Em (C6 (fq Ai)) ZP))
 refine Ah ?s2 ?t2
 case s2=>exact (Ar (i:=3) (by exact Dc.nd) (C6 Ae))
 refine Ah ?s3 ?t3
 case s3=>exact (R8 100000 dI (C3 (Bi (Ai5 rfl) Aqa Zc C.uT PyProof.Rows.boot_any (jx 2))) (Ah (Hg (Pf dS eM eN G1 F7 qy (fq (Bi (Rt rfl) Aas Zc C.u9 mH (jx 2))))) (Am (Ar (i:=2) (by exact Dc.nd) (Cf (N':=["turns","begun"]) (ix:=[ψ,m6]) pc rfl (Bm gd) (fun _ _ _ _ _ _=>(Ao (i:=0) (show cD (α:=Str) ["turns","begun"] by lk))) (fun _ _ _ _ _ _=>(jm C.ua (Aj1 C LB) 1 (jx 0))))))))
 exact (eh (Ct Bu C8 Zc C.ve Zd (jx 3)))
theorem Ow(C:kg)(LB:ny):FnOk P w K mg base CX0 2 C.ug.f C.ug.d ["chains","point"] (oo 2 D8):=by
 refine Fun.okF C.ug.F Fo (fun cdv A outer s H E hr=>?_);have hu:=hr.units;refine Ah ?s0 ?t0
 case s0=>exact (El dI rfl (Ali Zc C.uW (jx 0)) (F3 rfl (qw (i:=2) (by exact Fo.nd) (qw (i:=3) (by exact Fo.nd) Ed))) (Am (C7 (C3 (Be C.uc (Fw C LB) hr (Ac (Be C.ud (C0 C LB) hr (fq (p6 (i5 qy (P4 Ai) Zg) Zg))) (fq (jm C.ud (C0 C LB) 1 Ae))))) (eh qx) Co)))
 exact (eh ZP)
theorem N7(C:kg)(LB:ny):FnOk P w K mg base CX0 4 C.uh.f C.uh.d dt (oo 1 F2):=by
 refine Fun.okF C.uh.F Ew (fun cdv A outer s H E hr=>?_);have hu:=hr.units;refine Ah ?s0 ?t0
 case s0=>exact (Ar (i:=1) (by exact Ew.nd) (C6 Ae))
 refine Ah ?s1 ?t1
 case s1=>exact (El dI rfl (Bm (Aju (C0 C LB) (hr.mono Zb) C.ud.b Zc C.u7 Zc C.ud.g c8)) (Ao (i:=2) (by exact Ew.nd)) (Ah (Ar (i:=3) (by exact Ew.nd) (jm C.ug (Ow C LB) 1 (jx 2))) (Ah (Ar (i:=4) (by exact Ew.nd) (Ayp (Bw Aml Aer qy Ai jz) (p6 (i5 (i5 gd (Bl Ad7 Aam qy Ai) Zg) (P4 Ai) Zg) Zg) (Ds Ae))) (Ah (C7 (Bw (Fq hu) Ez qy Z4 jz) (Am (Hg (Pf dS eM eN G1 F7 gd (fq (C6 Ae))))) Co) (Am (Hg (Pf dS eM eN G1 F7 (i5 gd qy Zg) (fq (Ds (au 2 (fq (Bl Aqw Anf (Ag 4) (Ds (fq (p6 qx Zg)))))))))))))))
 exact (eh gd)
theorem Vi(C:kg)(LB:ny):FnOk P w K mg base CX0 1 C.ui.f C.ui.d ["chain"] (oo 1 Kc):=by
 refine Fun.okF C.ui.F Wg (fun cdv A outer s H E hr=>?_);have hu:=hr.units;exact (eh (Ct Bu C8 Zc C.ve Zd (fq (Cf (N':=["point","crowd"]) (ix:=[ψ,ψ]) pc rfl (Bm c8) (fun _ _ _ _ _ _=>(F3 rfl (qw (i:=0) (show cD (α:=Str) ["point","crowd"] by lk) (qw (i:=1) (show cD (α:=Str) ["point","crowd"] by lk) Ed)))) (fun _ _ _ _ _ _=>(p6 c8 Zg))))))
theorem Abt(C:kg)(LB:ny):FnOk P w K mg base CX0 5 C.uj.f C.uj.d dt (oo 1 Il):=by
 refine Fun.okF C.uj.F Acv (fun cdv A outer s H E hr=>?_);have hu:=hr.units;exact (eh (Ct Bu C8 Zc C.ve Zd (fq (Cf (N':=["chain"]) (ix:=[ψ]) pc rfl (Bm (jm C.uh (N7 C LB) 0 Ae)) (fun _ _ _ _ _ _=>(Ao (i:=0) (show cD (α:=Str) ["chain"] by lk))) (fun _ _ _ _ _ _=>(jm C.ui (Vi C LB) 0 Ae))))))
theorem Adj(C:kg)(LB:ny):FnOk P w K mg base CX0 2 C.uk.f C.uk.d ["places","names"] (oo 2 P6):=by
 refine Fun.okF C.uk.F Acn (fun cdv A outer s H E hr=>?_);have hu:=hr.units;exact (eh (Bi (R1 rfl) Abe Zc C.uS mI (fq (Cf (N':=["one","other","places"]) (ix:=[ψ,ψ,ij]) pc rfl (U2 Zc C.vf (au 1 (fq (Hj Art Arf gd (Hb Ai) He)))) (fun _ _ _ _ _ _=>(F3 rfl (qw (i:=0) (show cD (α:=Str) ["one","other","places"] by lk) (qw (i:=1) (show cD (α:=Str) ["one","other","places"] by lk) Ed)))) (fun _ _ _ _ _ _=>(Be C.uc (Fw C LB) hr (Ac (Tt hu qx c8 Zg) (fq (Tt hu qx gd Zg)))))))))
theorem Ado(C:kg)(LB:ny):FnOk P w K mg base CX0 3 C.ul.f C.ul.d ["points","cover"] (oo 2 Qa):=by
 refine Fun.okF C.ul.F Hc (fun cdv A outer s H E hr=>?_);have hu:=hr.units;refine Ah ?s0 ?t0
 case s0=>exact (Ar (i:=2) (by exact Hc.nd) Q7)
 refine Ah ?s1 ?t1
 case s1=>exact (El dI rfl (Bm c8) (Ao (i:=3) (by exact Hc.nd)) (Am (K7 hu qx (p6 qy Zg) (jm C.ud (C0 C LB) 3 Ae))))
 refine Ah ?s2 ?t2
 case s2=>exact (Ar (i:=4) (by exact Hc.nd) (C6 Ae))
 refine Ah ?s3 ?t3
 case s3=>exact (El dI rfl (Bm gd) (Ao (i:=5) (by exact Hc.nd)) (Am (Hg (Pf dS PySem.F.slot_list_extend PySem.F.type_list_extend Asc Ak1 (Ag 4) (jx 5)))))
 exact (eh (Jw (Fp (Fq hu) Ez (Bi (Sm rfl) Vh Zc C.u7 fJ (jx 4)) (Bi (Sm rfl) Vh Zc C.u7 fJ (jx 2)) jz) (Nf (Bi (R1 rfl) Abe Zc C.uS mI (fq (Cf (N':=["chain","places"]) (ix:=[ψ,m6]) pc rfl (Bm gd) (fun _ _ _ _ _ _=>(Ao (i:=0) (show cD (α:=Str) ["chain","places"] by lk))) (fun _ _ _ _ _ _=>(jm C.uk (Adj C LB) 1 (jx 0)))))))))
theorem Xl(C:kg)(LB:ny):FnOk P w K mg base CX0 2 C.um.f C.um.d ["places","place"] (oo 2 Lk):=by
 refine Fun.okF C.um.F W9 (fun cdv A outer s H E hr=>?_);have hu:=hr.units;exact (eh (Bi Cg C4 Zc C.uZ dL (fq (E6 (N':=["other","place"]) (ix:=[ψ,ξ 1]) pc rfl (Bm c8) (fun _ _ _ _ _ _=>(Ao (i:=0) (show cD (α:=Str) ["other","place"] by lk))) (fun _ _ _ _ _ _=>(C3 (jm C.uc (Fw C LB) 0 (jx 1)))) ZD))))
theorem Xr(C:kg)(LB:ny):FnOk P w K mg base CX0 3 C.uo.f C.uo.d dt (oo 1 Lj):=by
 refine Fun.okF C.uo.F O9 (fun cdv A outer s H E hr=>?_);have hu:=hr.units;refine Ah ?s0 ?t0
 case s0=>exact (Ar (i:=1) (by exact O9.nd) (Cf (N':=["point"]) (ix:=[ψ]) pc rfl (Bm c8) (fun _ _ _ _ _ _=>(Ao (i:=0) (show cD (α:=Str) ["point"] by lk))) (fun _ _ _ _ _ _=>(jm C.ud (C0 C LB) 0 Ae))))
 exact (eh (Ct Bu C8 Zc C.ve Zd (fq (Cf (N':=["place","places"]) (ix:=[ψ,ξ 1]) pc rfl (Bm gd) (fun _ _ _ _ _ _=>(Ao (i:=0) (show cD (α:=Str) ["place","places"] by lk))) (fun _ _ _ _ _ _=>(jm C.um (Xl C LB) 1 (jx 0)))))))
theorem Ta(C:kg)(LB:ny):FnOk P w K mg base CX0 4 C.uq.f C.uq.d dt (oo 1 Gi):=by
 refine Fun.okF C.uq.F S8 (fun cdv A outer s H E hr=>?_);have hu:=hr.units;exact (eh (Bi (Rt rfl) Aas Zc C.u9 mH (fq (jm C.uo (Xr C LB) 0 Ae))))
theorem Adt(C:kg)(LB:ny):FnOk P w K mg base CX0 5 C.ur.f C.ur.d ["points","crowd"] (oo 2 Pz):=by
 refine Fun.okF C.ur.F Sr (fun cdv A outer s H E hr=>?_);have hu:=hr.units;refine Ah ?s0 ?t0
 case s0=>exact (Qi (i:=2) (N':=["point","crowd"]) (ix:=[ψ,ξ 1]) (by exact Sr.nd) pc rfl (Bm c8) (fun _ _ _ _ _ _=>(Ao (i:=0) (show cD (α:=Str) ["point","crowd"] by lk))) (fun _ _ _ _ _ _=>(Bw Ans (Aen false) (p6 c8 Zg) gd Zf)) ZD)
 exact (eh (Jw (Fp (Fq hu) Ez (Bi Cg C4 Zc C.uZ dL (jx 2)) Z4 jz) (Nf (Fp (Fq hu) Ez (jm C.uq (Ta C LB) 2 Ae) Ai jz))))
theorem U0(C:kg)(LB:ny):FnOk P w K mg base CX0 6 C.ut.f C.ut.d ["points","cover","crowd"] (oo 3 F0):=by
 refine Fun.okF C.ut.F Wv (fun cdv A outer s H E hr=>?_);have hu:=hr.units;exact (eh (Jw (Fp (Fq hu) Ez Z4 (Bi Cg C4 Zc C.uZ dL (jx 2)) jz) (Jw (jm C.ul (Ado C LB) 0 (jx 1)) (Nf (jm C.ur (Adt C LB) 0 (jx 2))))))
theorem Ab4(C:kg)(LB:ny):FnOk P w K mg base CX0 5 C.uu.f C.uu.d dt (oo 1 G3):=by
 refine Fun.okF C.uu.F Og (fun cdv A outer s H E hr=>?_);have hu:=hr.units;refine Ah ?s0 ?t0
 case s0=>exact (Ar (i:=1) (by exact Og.nd) (jm C.uh (N7 C LB) 0 Ae))
 refine Ah ?s1 ?t1
 case s1=>exact (C7 (Jr (C3 gd)) (eh (Ds Ae)) Co)
 refine Ah ?s2 ?t2
 case s2=>exact (Ar (i:=2) (by exact Og.nd) (p6 (i5 (i5 gd (P4 Ai) Zg) (P4 Ai) Zg) Zg))
 exact (eh (Ct Bu C8 Zc C.ve Zd (fq (E6 (N':=["point","crowd"]) (ix:=[ψ,m6]) pc rfl (Bm c8) (fun _ _ _ _ _ _=>(Ao (i:=0) (show cD (α:=Str) ["point","crowd"] by lk))) (fun _ _ _ _ _ _=>(Bw Ans (Aen false) (p6 c8 Zg) gd Zf)) (fun _ _ _ _ _ _=>(p6 c8 Zg))))))
theorem Jd(C:kg)(LB:ny):FnOk P w K mg base CX0 3 C.uv.f C.uv.d ["chains"] (oo 1 Dm):=by
 refine Fun.okFL (N:=["chains"]) C.uv.F Qz (fun cdv A outer s H E hcd hr=>?_);have hu:=hr.units;exact (eh (Ajd (nm := "first_heaviest") (N':=["chain"]) (ix:=[ψ]) (pn := "chain") (fb:=Cc) (k:=0) ⟨LB,Zb,(by obtain ⟨c,P,h1,h2⟩:=C.uP;exact ⟨c,P,h1,hcd.symm.trans (h2 _ _ _ C.uv.F C.uv.g)⟩),rfl⟩ ⟨⟨rfl,rfl,rfl,rfl,rfl,rfl⟩,rfl,rfl,rfl,rfl,fun _ _ _ _ _ _=>rfl⟩ rfl (fun _ _ _ _ _ hr=>by have hu:=hr.units;exact (Ds (Ac (P4 (p6 c8 Zg)) (fq (p6 c8 Zg))))) (hr.mono Zb) rfl Zc C.u5 c8))
theorem Jc(C:kg)(LB:ny):FnOk P w K mg base CX0 5 C.uw.f C.uw.d dt (oo 1 B2):=by
 refine Fun.okFL (N:=["points"]) C.uw.F Jb (fun cdv A outer s H E hcd hr=>?_);have hu:=hr.units;exact (eh (Afw (nm := "turns_from_the_highest") (N':=["turn","points"]) (ix:=[ψ,ij]) (pn := "turn") (fb:=Ba) (k:=1) ⟨LB,Zb,(by obtain ⟨c,P,h1,h2⟩:=C.uQ;exact ⟨c,P,h1,hcd.symm.trans (h2 _ _ _ C.uw.F C.uw.g)⟩),rfl⟩ ⟨⟨rfl,rfl,rfl,rfl,rfl,rfl⟩,rfl,rfl,rfl,rfl,fun _ _ _ _ _ _=>rfl⟩ rfl (fun _ _ _ _ _ hr=>by have hu:=hr.units;exact (Be C.ud (C0 C LB) hr (fq (i5 gd c8 Zg)))) (hr.mono Zb) rfl Zc C.u7 Zc C.u6 (fq ZP)))
theorem Qx(C:kg)(LB:ny):FnOk P w K mg base CX0 6 C.ux.f C.ux.d ["points","weights"] (oo 2 E8):=by
 refine Fun.okF C.ux.F De (fun cdv A outer s H E hr=>?_);have hu:=hr.units;refine Ah ?s0 ?t0
 case s0=>exact (Ar (i:=2) (by exact De.nd) Q7)
 refine Ah ?s1 ?t1
 case s1=>exact (El dI rfl (Bm (jm C.uw (Jc C LB) 0 Ae)) (Ao (i:=3) (by exact De.nd)) (Ah (X7 (i:=4) (N':=["other","begun"]) (ix:=[ψ,m6]) (by exact De.nd) pc rfl (Bm (jm C.ue (Nd C LB) 0 (fq (i5 c8 qy Zg)))) (fun _ _ _ _ _ _=>(Ao (i:=0) (show cD (α:=Str) ["other","begun"] by lk))) (fun _ _ _ _ _ _=>(Tt hu gd c8 Zg))) (Ah (Ar (i:=5) (by exact De.nd) (Be C.uv (Jd C LB) hr (fq (Bl Cu Cs (C6 (fq (Ds (Ac Ai (fq (Ds Ae)))))) (Ag 4))))) (Am (K7 hu qx qy (Ds (Ac (Bl Cu Cs (Tt hu gd (p6 (i5 c8 qy Zg) Zg) Zg) (p6 (Ag 5) Zg)) (fq (Bl Cu Cs (Ds (jx 3)) (p6 (Ag 5) Zg))))))))))
 exact (eh (Akw rfl Zc C.u4 qx ⟨rfl,rfl,rfl,rfl⟩))
theorem Jl(C:kg)(LB:ny):FnOk P w K mg base CX0 7 C.uy.f C.uy.d ["points","weights"] (oo 2 Ck):=by
 refine Fun.okF C.uy.F Jj (fun cdv A outer s H E hr=>?_);have hu:=hr.units;refine Ah ?s0 ?t0
 case s0=>exact (C7 (Jr (C3 c8)) (eh (Ds (Ac Ai (fq (Ds Ae))))) Co)
 refine Ah ?s1 ?t1
 case s1=>exact (Ar (i:=2) (by exact Jj.nd) (Be C.uv (Jd C LB) hr (fq (jm C.ux (Qx C LB) 0 (jx 1)))))
 exact (eh (Ds (Ac (p6 qx Zg) (fq (Ct Bu C8 Zc C.ve Zd (fq (Cf (N':=["turn","points"]) (ix:=[ψ,ij]) pc rfl (Bm (p6 qx Zg)) (fun _ _ _ _ _ _=>(Ao (i:=0) (show cD (α:=Str) ["turn","points"] by lk))) (fun _ _ _ _ _ _=>(p6 (i5 gd c8 Zg) Zg)))))))))
theorem Jk(C:kg)(LB:ny):FnOk P w K mg base CX0 8 C.uz.f C.uz.d dt (oo 1 Cj):=by
 refine Fun.okF C.uz.F Ep (fun cdv A outer s H E hr=>?_);have hu:=hr.units;refine Ah ?s0 ?t0
 case s0=>exact (C7 (Jr (C3 c8)) (eh (Ds (Ac Ai (Ac Ai (fq (Ds Ae)))))) Co)
 refine Ah ?s1 ?t1
 case s1=>exact (Ar (i:=1) (by exact Ep.nd) Q7)
 refine Ah ?s2 ?t2
 case s2=>exact (El dI rfl (Bm c8) (Ao (i:=2) (by exact Ep.nd)) (Am (K7 hu gd (p6 qx Zg) Ai)))
 refine Ah ?s3 ?t3
 case s3=>exact (Ar (i:=3) (by exact Ep.nd) (jm C.uy (Jl C LB) 0 (jx 1)))
 exact (eh (Ds (Ac (p6 qy Zg) (Ac (i5 (jm C.uf (Jp C LB) 0 Ae) (P4 Ai) Zg) (fq (p6 qy Zg))))))
theorem Xi(C:kg)(LB:ny):FnOk P w K mg base CX0 2 C.uA.f C.uA.d ["places","place"] (oo 2 Md):=by
 refine Fun.okF C.uA.F Xq (fun cdv A outer s H E hr=>?_);have hu:=hr.units;exact (eh (Bi Cg C4 Zc C.uZ dL (fq (E6 (N':=["other","place"]) (ix:=[ψ,ξ 1]) pc rfl (Bm c8) (fun _ _ _ _ _ _=>(Ao (i:=0) (show cD (α:=Str) ["other","place"] by lk))) (fun _ _ _ _ _ _=>(C3 (jm C.uc (Fw C LB) 1 (jx 0)))) ZD))))
theorem Xd(C:kg)(LB:ny):FnOk P w K mg base CX0 3 C.uB.f C.uB.d dt (oo 1 Ln):=by
 refine Fun.okF C.uB.F Px (fun cdv A outer s H E hr=>?_);have hu:=hr.units;refine Ah ?s0 ?t0
 case s0=>exact (Ar (i:=1) (by exact Px.nd) (Cf (N':=["point"]) (ix:=[ψ]) pc rfl (Bm c8) (fun _ _ _ _ _ _=>(Ao (i:=0) (show cD (α:=Str) ["point"] by lk))) (fun _ _ _ _ _ _=>(jm C.ud (C0 C LB) 0 Ae))))
 exact (eh (Ct Bu C8 Zc C.ve Zd (fq (Cf (N':=["place","places"]) (ix:=[ψ,ξ 1]) pc rfl (Bm gd) (fun _ _ _ _ _ _=>(Ao (i:=0) (show cD (α:=Str) ["place","places"] by lk))) (fun _ _ _ _ _ _=>(jm C.uA (Xi C LB) 1 (jx 0)))))))
theorem Hz(C:kg)(LB:ny):FnOk P w K mg base CX0 4 C.uC.f C.uC.d dt (oo 1 Cp):=by
 refine Fun.okF C.uC.F Fd (fun cdv A outer s H E hr=>?_);have hu:=hr.units;refine Ah ?s0 ?t0
 case s0=>exact (Ar (i:=1) (by exact Fd.nd) (C6 Ae))
 refine Ah ?s1 ?t1
 case s1=>exact (Ar (i:=2) (by exact Fd.nd) c8)
 refine Ah ?s2 ?t2
 case s2=>exact (R8 100000 dI (C3 qx) (Ah (Ar (i:=3) (by exact Fd.nd) (jm C.uB (Xd C LB) 2 Ae)) (Ah (Qi (i:=4) (N':=["point","many"]) (ix:=[ψ,ψ]) (by exact Fd.nd) pc rfl (Acm Zc C.vf (au 2 (jx 3))) (fun _ _ _ _ _ _=>(F3 rfl (qw (i:=0) (show cD (α:=Str) ["point","many"] by lk) (qw (i:=1) (show cD (α:=Str) ["point","many"] by lk) Ed)))) (fun _ _ _ _ _ _=>(Bw (Fq hu) Ez gd Ai jz)) ZD) (Ah (Hg (Pf dS eM eN G1 F7 gd (fq (Ct Bu C8 Zc C.ve Zd (fq (Cf (N':=["point"]) (ix:=[ψ]) pc rfl (Bm (Aon (C0 C LB) (hr.mono Zb) C.ud.b Zc C.u7 Zc C.ud.g (Ag 4))) (fun _ _ _ _ _ _=>(Ao (i:=0) (show cD (α:=Str) ["point"] by lk))) (fun _ _ _ _ _ _=>(p6 c8 Zg)))))))) (Am (Qi (i:=2) (N':=["point","many"]) (ix:=[ψ,ψ]) (by exact Fd.nd) pc rfl (Acm Zc C.vf (au 2 (jx 3))) (fun _ _ _ _ _ _=>(F3 rfl (qw (i:=0) (show cD (α:=Str) ["point","many"] by lk) (qw (i:=1) (show cD (α:=Str) ["point","many"] by lk) Ed)))) (fun _ _ _ _ _ _=>(Bw Aml Aer gd Ai jz)) ZD))))))
 exact (eh (Ct Bu C8 Zc C.ve Zd (jx 1)))
theorem E9(C:kg)(LB:ny):FnOk P w K mg base CX0 5 C.uD.f C.uD.d dt (oo 1 B5):=by
 refine Fun.okF C.uD.F Dr (fun cdv A outer s H E hr=>?_);have hu:=hr.units;refine Ah ?s0 ?t0
 case s0=>exact (Ar (i:=1) (by exact Dr.nd) Q7)
 refine Ah ?s1 ?t1
 case s1=>exact (El dI rfl (R7 Zc C.uW (fq (jm C.uC (Hz C LB) 0 Ae))) (F3 rfl (qw (i:=2) (by exact Dr.nd) (qw (i:=3) (by exact Dr.nd) Ed))) (Am (El dI rfl (Bm qy) (Ao (i:=4) (by exact Dr.nd)) (Am (K7 hu gd (Ag 4) qx)))))
 exact (eh gd)
theorem Xj(C:kg)(LB:ny):FnOk P w K mg base CX0 9 C.uE.f C.uE.d ["spots"] (oo 1 Ma):=by
 refine Fun.okF C.uE.F Fz (fun cdv A outer s H E hr=>?_);have hu:=hr.units;refine Ah ?s0 ?t0
 case s0=>exact (Ar (i:=1) (by exact Fz.nd) (Ct (Aja rfl) Aos Zc C.uV Zd (fq (Cf (N':=["spot"]) (ix:=[ψ]) pc rfl (Bm c8) (fun _ _ _ _ _ _=>(Ao (i:=0) (show cD (α:=Str) ["spot"] by lk))) (fun _ _ _ _ _ _=>(Ds (Ac (p6 c8 Zg) (fq Ai))))))))
 refine Ah ?s1 ?t1
 case s1=>exact (Ar (i:=2) (by exact Fz.nd) (Nl C.uz (Jk C LB) hr (by exact fun _ _ _ _ _ _=>MR.Abd ZH) (Es c8 Jn)))
 refine Ah ?s2 ?t2
 case s2=>exact (C7 (PWF.pt (Vm (Bw (Ul hu) Qu qx (jm C.uz (Jk C LB) 0 Ae) jz) (Rh (Bw (Ul hu) Qu (Nl C.uy (Jl C LB) hr (by exact fun _ _ _ _ _ _=>MR.Apv Zg) (Es c8 (Es gd Jn))) (Ds (Ac (p6 qx Zg) (fq (p6 qx Zg)))) jz)))) (eh S6) Co)
 refine Ah ?s3 ?t3
 case s3=>exact (Ar (i:=3) (by exact Fz.nd) (Nl C.uj (Abt C LB) hr (by exact fun _ _ _ _ _ _=>MR.Abd ZH) (Es c8 Jn)))
 refine Ah ?s4 ?t4
 case s4=>exact (Ar (i:=4) (by exact Fz.nd) (Nl C.uu (Ab4 C LB) hr (by exact fun _ _ _ _ _ _=>MR.Abd ZH) (Es c8 Jn)))
 refine Ah ?s5 ?t5
 case s5=>exact (C7 (PWF.pt (Vm (Bw Ajb (Afd true) (Nl C.ut (U0 C LB) hr (by exact fun _ _ _ _ _ _=>MR.Awa (fun _ _ _=>rfl)) (Es c8 (Es qy (Es (Ag 4) Jn)))) S6 jz) (Rh (Bw (Ul hu) Qu (Bi Cg C4 Zc C.uZ dL (fq (Nl C.uf (Jp C LB) hr (by exact fun _ _ _ _ _ _=>MR.Abd ZH) (Es c8 Jn)))) (p6 qx Zg) jz)))) (eh S6) Co)
 exact (eh (Jw (Fp (Afx hu) Aa3 (Nl C.uC (Hz C LB) hr (by exact fun _ _ _ _ _ _=>MR.Abd ZH) (Es c8 Jn)) (jm C.uC (Hz C LB) 0 Ae) jz) (Nf (Fp (Afx hu) Aa3 (Nl C.uD (E9 C LB) hr (by exact fun _ _ _ _ _ _=>MR.Abd ZH) (Es c8 Jn)) (jm C.uD (E9 C LB) 0 Ae) jz))))
theorem Aj6(C:kg)(LB:ny):FnOk P w K mg base CX0 1 C.uF.f C.uF.d ["script"] (oo 1 Qw):=by
 refine Fun.okF C.uF.F Ie (fun cdv A outer s H E hr=>?_);have hu:=hr.units;refine Ah ?s0 ?t0
 case s0=>exact (Ar (i:=1) (by exact Ie.nd) Ai)
 refine Ah ?s1 ?t1
 case s1=>exact (Ar (i:=2) (by exact Ie.nd) (Bl Cu Cs (Bl Eo Em Ai ZP) Ai))
 refine Ah ?s2 ?t2
 case s2=>exact (El dI rfl (Bm (Hj Ru Nt c8 He (Hb Ai))) (Ao (i:=3) (by exact Ie.nd)) (Am (C7 (Bw Ayv Auk (Bi Uz Aal Zc C.uR Zd (jx 3)) (Bl We Rc Ai Ai) jz) (Am (Ar (i:=1) (by exact Ie.nd) (Bl Cu Cs (Bl Aqz Ak9 gd Ai) (Bi Uz Aal Zc C.uR Zd (jx 3))))) (Am (Ar (i:=2) (by exact Ie.nd) (Bl Np Je (Bl Cu Cs (Bl Eo Em qx Ai) qy) Ai))))))
 exact (eh (C6 (au 1 (au 2 (fq Ai)))))
theorem B1(C:kg)(LB:ny):FnOk P w K mg base CX0 1 C.uG.f C.uG.d ["deck","most"] (oo 2 A0):=by
 refine Fun.okF C.uG.F Kt (fun cdv A outer s H E hr=>?_);have hu:=hr.units;refine Ah ?s0 ?t0
 case s0=>exact (Aaw (Bl Cu Cs (p6 c8 Zg) Ai) (Agn c8 Ai))
 refine Ah ?s1 ?t1
 case s1=>exact (C7 (Bw Aml Aer (p6 c8 Zg) Ai jz) (Ah (Ar (i:=2) (by exact Kt.nd) (Bl Np Je (p6 c8 Zg) gd)) (Ah (Aaw (Bl Qn Tg (p6 c8 Zg) gd) (Agn c8 Ai)) (eh qx))) Co)
 refine Ah ?s2 ?t2
 case s2=>exact (Ar (i:=3) (by exact Kt.nd) (p6 c8 Zg))
 refine Ah ?s3 ?t3
 case s3=>exact (Ar (i:=4) (by exact Kt.nd) (Bl Np Je (Bl Cu Cs (Bl Cu Cs (p6 c8 Zg) (Bl Eo Em (Bl Eo Em Ai qy) qy)) (Bl Eo Em Ai qy)) Ai))
 refine Ah ?s4 ?t4
 case s4=>exact (Ar (i:=4) (by exact Kt.nd) (Bl Np Je (Bl Eo Em (Ag 4) (Ag 4)) Ai))
 exact (eh (Bl Np Je (Bl Qn Tg (Bl Np Je (Bl Cu Cs (Bl Eo Em (Ag 4) Ai) (Bl Eo Em qy Ai)) Ai) Ai) gd))
theorem S9(C:kg)(LB:ny):FnOk P w K mg base CX0 6 C.uH.f C.uH.d ["spots","due"] (oo 2 Ih):=by
 refine Fun.okF C.uH.F C9 (fun cdv A outer s H E hr=>?_);have hu:=hr.units;refine Ah ?s0 ?t0
 case s0=>exact (Ar (i:=2) (by exact C9.nd) (jm C.uD (E9 C LB) 0 Ae))
 refine Ah ?s1 ?t1
 case s1=>exact (Ar (i:=3) (by exact C9.nd) Q7)
 refine Ah ?s2 ?t2
 case s2=>exact (El dI rfl (R7 Zc C.uW (jx 1)) (F3 rfl (qw (i:=4) (by exact C9.nd) (qw (i:=5) (by exact C9.nd) Ed))) (Am (El dI rfl (Bm (Ag 5)) (Ao (i:=6) (by exact C9.nd)) (Am (K7 hu qy (Ag 6) (Ag 4))))))
 refine Ah ?s3 ?t3
 case s3=>exact (C7 (PWF.pt (Vm (Jr (C3 (Ob Ang qx Zc C.uY Zc C.uV Zd))) (Rh (Bw (Ul hu) Qu qx qy jz)))) (eh S6) Co)
 refine Ah ?s4 ?t4
 case s4=>exact (C7 (Bw (Ul hu) Qu (Arm (E6 (N':=["name","told"]) (ix:=[ψ,m6]) pc rfl (Akt qx) (fun _ _ _ _ _ _=>(Ao (i:=0) (show cD (α:=Str) ["name","told"] by lk))) (fun _ _ _ _ _ _=>(C3 (Ob Adw (Am9 hu gd c8 Zg) Zc C.uY Zc C.uU Zd))) ZD)) (C6 Ae) jz) (eh S6) Co)
 refine Ah ?s5 ?t5
 case s5=>exact (K7 hu qx Eu Ai)
 exact (eh (Fp (Afx hu) Aa3 (jm C.uD (E9 C LB) 0 Ae) qy jz))
theorem Aee(C:kg)(LB:ny):FnOk P w K mg base CX0 2 C.uI.f C.uI.d ["deck","many"] (oo 2 Ic):=by
 refine Fun.okF C.uI.F Dh (fun cdv A outer s H E hr=>?_);have hu:=hr.units;refine Ah ?s0 ?t0
 case s0=>exact (Ar (i:=2) (by exact Dh.nd) Eu)
 refine Ah ?s1 ?t1
 case s1=>
  refine Ar (i:=3) (hi:=?h1_1) (hx:=?h2_1) (hf:=?h3_1) (hs:=?h4_1) ?h5_1 ?h6_1
  case h1_1=>rfl
  case h2_1=>first | exact rL rfl | exact pM rfl
  case h3_1=>first | exact .inl rfl | exact .inr rfl
  case h4_1=>rfl
  case h5_1=>exact (by exact Dh.nd)
  case h6_1=>
   refine C6 ?g;refine Ac (hs:=?q0) ?e0 ?r0
   case q0=>rfl
   case e0=>exact Eu
   refine Ac (hs:=?q1) ?e1 ?r1
   case q1=>rfl
   case e1=>exact Eu
   refine Ac (hs:=?q2) ?e2 ?r2
   case q2=>rfl
   case e2=>exact Eu
   refine Ac (hs:=?q3) ?e3 ?r3
   case q3=>rfl
   case e3=>exact Eu
   refine Ac (hs:=?q4) ?e4 ?r4
   case q4=>rfl
   case e4=>exact Eu
   refine Ac (hs:=?q5) ?e5 ?r5
   case q5=>rfl
   case e5=>exact Eu
   refine Ac (hs:=?q6) ?e6 ?r6
   case q6=>rfl
   case e6=>exact Eu
   refine Ac (hs:=?q7) ?e7 ?r7
   case q7=>rfl
   case e7=>exact Eu
   refine Ac (hs:=?q8) ?e8 ?r8
   case q8=>rfl
   case e8=>exact Eu
   refine Ac (hs:=?q9) ?e9 ?r9
   case q9=>rfl
   case e9=>exact Eu
   refine Ac (hs:=?q10) ?e10 ?r10
   case q10=>rfl
   case e10=>exact Eu
   refine Ac (hs:=?q11) ?e11 ?r11
   case q11=>rfl
   case e11=>exact Eu
   exact Ae
 refine Ah ?s2 ?t2
 case s2=>exact (Ar (i:=4) (by exact Dh.nd) Zv)
 refine Ah ?s3 ?t3
 case s3=>exact (Ar (i:=5) (by exact Dh.nd) (Pf PySem.F.plainAttrs_str PySem.F.slot_str_join PySem.F.type_str_join Apl Al7 Eu (fq (Cf (N':=["k","letters","deck"]) (ix:=[ψ,m6,ij]) pc rfl (Ll Zc C.u6 (fq Ai)) (fun _ _ _ _ _ _=>(Ao (i:=0) (show cD (α:=Str) ["k","letters","deck"] by lk))) (fun _ _ _ _ _ _=>(i5 gd (jm C.uG (B1 C LB) 2 (fq Ai)) Zg))))))
 refine Ah ?s4 ?t4
 case s4=>exact (Ar (i:=6) (by exact Dh.nd) Zv)
 refine Ah ?s5 ?t5
 case s5=>exact (Ar (i:=7) (by exact Dh.nd) Zv)
 refine Ah ?s6 ?t6
 case s6=>exact (Ar (i:=3) (by exact Dh.nd) (Hj Aaa Aay qy (Hb (Bl Eo Em Ai (Ag 7))) He))
 refine Ah ?s7 ?t7
 case s7=>exact (El dI rfl (Ll Zc C.u6 (fq Ai)) (Ao (i:=8) (by exact Dh.nd)) (Ah (Ar (i:=9) (by exact Dh.nd) (i5 qx (Bl Np Je (Bl Cu Cs (Ag 4) (Ag 8)) Ai) Zg)) (Am (Hg (Pf dS eM eN G1 F7 qy (fq (i5 (C6 (Ac (Bl Cu Cs (Ag 9) (Bl Eo Em (i5 Eu (Bl Qn Tg (Ag 8) Ai) Zg) (Bl Cu Cs Ai (Bl Np Je (Ag 8) Ai)))) (fq (Bl Cu Cs (Bl Cu Cs (Bl Cu Cs (Hj Aaa Aay (Ag 5) He (Hb (Ag 6))) (Ag 9)) (i5 Eu (Bl Qn Tg (Ag 8) Ai) Zg)) (Hj Aaa Aay (Ag 5) (Hb (Ag 6)) He))))) (Ag 7) Zg)))))))
 exact (eh (Cf (N':=["k","spare","deck"]) (ix:=[ψ,ξ 3,ij]) pc rfl (Ll Zc C.u6 (jx 1)) (fun _ _ _ _ _ _=>(Ao (i:=0) (show cD (α:=Str) ["k","spare","deck"] by lk))) (fun _ _ _ _ _ _=>(Pf dS PySem.F.slot_list_pop PySem.F.type_list_pop Al6 Aro gd (fq (jm C.uG (B1 C LB) 2 (fq Z4)))))))
theorem Sz(C:kg)(LB:ny):FnOk P w K mg base CX0 2 C.uJ.f C.uJ.d ["deck","kind"] (oo 2 D0):=by
 refine Fun.okF C.uJ.F Si (fun cdv A outer s H E hr=>?_);have hu:=hr.units;refine Ah ?s0 ?t0
 case s0=>exact (C7 (Bw Atl Aob gd Ai jz) (eh (Bl Ad7 Aam (jm C.uG (B1 C LB) 0 (fq (i5 (C6 (Ac Ai (fq Ai))) gd Zg))) (i5 (C6 (Ac Ai (fq Ai))) gd Zg))) Co)
 refine Ah ?s1 ?t1
 case s1=>exact (Ar (i:=2) (by exact Si.nd) (Bl Cu Cs (Bl Eo Em (jm C.uG (B1 C LB) 0 (fq (Bl We Rc Ai Ai))) (Bl We Rc Ai Ai)) (jm C.uG (B1 C LB) 0 (fq (Bl We Rc Ai Ai)))))
 exact (eh (Bl Eo Em qx (i5 (C6 (Ac Ai (fq (P4 Ai)))) Zv Zg)))
theorem Acf(C:kg)(LB:ny):FnOk P w K mg base CX0 3 C.uK.f C.uK.d ["deck","most"] (oo 2 Iy):=by
 refine Fun.okF C.uK.F Cd (fun cdv A outer s H E hr=>?_);have hu:=hr.units;refine Ah ?s0 ?t0
 case s0=>exact (Ar (i:=2) (by exact Cd.nd) Zv)
 refine Ah ?s1 ?t1
 case s1=>exact (Ar (i:=3) (by exact Cd.nd) Zv)
 refine Ah ?s2 ?t2
 case s2=>exact (Ar (i:=4) (by exact Cd.nd) (C6 Ae))
 refine Ah ?s3 ?t3
 case s3=>exact (El dI rfl (Bm (jm C.uI (Aee C LB) 0 (fq (jm C.uG (B1 C LB) 0 (fq (Bl Cu Cs gd Ai)))))) (Ao (i:=5) (by exact Cd.nd)) (Ah (Ar (i:=6) (by exact Cd.nd) (jm C.uJ (Sz C LB) 0 (jx 2))) (Ah (Ar (i:=7) (by exact Cd.nd) (jm C.uJ (Sz C LB) 0 (jx 2))) (Ah (C7 (Bw (Fq hu) Ez qy Ai jz) (Am (Ar (i:=7) (by exact Cd.nd) (Bl Cu Cs (Ag 6) (Bl Eo Em Zv (Ct Ajz Aq7 Zc C.uX Zd (fq (Fp Atl Aob (Bi Uz Aal Zc C.uR Zd (jx 6)) (Bl We Rc Ai Ai) jz))))))) Co) (Ah (C7 (Bw (Fq hu) Ez qy Ai jz) (Am (Ar (i:=7) (by exact Cd.nd) (Bl Ad7 Aam Ai (Ag 6)))) Co) (Ah (C7 (PWF.pt (Aha (Bw (R0 hu) Qf (Ag 4) (C6 Ae) jz) (Acu (Bw (Fq hu) Ez Zv Ai jz)))) (Am (Aaw (Hj Ru Nt (i5 (Ag 4) (jm C.uG (B1 C LB) 0 (fq (Bi Cg C4 Zc C.uZ dL (jx 4)))) Zg) (Hb Ai) He) (F3 rfl (qw (i:=6) (by exact Cd.nd) (qw (i:=7) (by exact Cd.nd) Ed))))) Co) (Ah (C7 (PWF.pt (Aha (Bw (R0 hu) Qf (Ag 4) (C6 Ae) jz) (Acu (Bw (Fq hu) Ez Zv Ai jz)))) (Am (Ar (i:=6) (by exact Cd.nd) (p6 (i5 (Ag 4) (jm C.uG (B1 C LB) 0 (fq (Bi Cg C4 Zc C.uZ dL (jx 4)))) Zg) Zg))) Co) (Am (Hg (Pf dS eM eN G1 F7 (Ag 4) (fq (Ds (au 5 (au 6 (jx 7)))))))))))))))
 exact (eh (Ct Bu C8 Zc C.ve Zd (jx 4)))
theorem T9(C:kg)(LB:ny):∀ k:Nat,FnOk P w K mg base CX0 (1+k) C.uL.f C.uL.d ["found","due"] (oo 2 (Ig k))
 | 0=>⟨fun _ _ _ _ h=>(by obtain ⟨_,_,_,_,_,_,_,_,e,_⟩:=h;cases e),fun _ _ _ _ _ _ _ _ _ _ _ _ _ h=>(by obtain ⟨_,_,_,_,_,_,_,_,e,_⟩:=h;cases e)⟩
 | k+1=>by
  have hR:=T9 C LB k;refine Fun.okF C.uL.F Akd (fun cdv A outer s H E hr=>?_);have hu:=hr.units;refine Ah ?s0 ?t0
  case s0=>exact (C7 (Bw Ak7 (Afd false) gd Aol jz) (eh (Fp Ak7 (Afd false) c8 Aol jz)) Co)
  refine Ah ?s1 ?t1
  case s1=>exact (C7 (C3 (Ob Yo gd Zc C.uY Zc C.ve Zd)) (Ah (C7 (PWF.pt (Vm (Jr (C3 (Ob Yo c8 Zc C.uY Zc C.ve Zd))) (Rh (Bw (R0 hu) Qf ZP Z4 jz)))) (eh S6) Co) (eh (Fp (Fq hu) Ez (E6 (N':=["one","other"]) (ix:=[ψ,ψ]) pc rfl (U2 Zc C.vf (au 0 (jx 1))) (fun _ _ _ _ _ _=>(F3 rfl (qw (i:=0) (show cD (α:=Str) ["one","other"] by lk) (qw (i:=1) (show cD (α:=Str) ["one","other"] by lk) Ed)))) (fun _ _ _ _ _ _=>(Jr (C3 (Ahb hR hr Zc C.uL.g C.uL.F.kp C.uL.b (au 0 (jx 1)))))) (fun _ _ _ _ _ _=>Ai)) (C6 Ae) jz))) Co)
  refine Ah ?s2 ?t2
  case s2=>exact (C7 (C3 (Ob Agz gd Zc C.uY Zc C.u8 Zd)) (eh (Jw (Ob Agz c8 Zc C.uY Zc C.u8 Zd) (Nf (Fp (Fq hu) Ez c8 gd jz)))) Co)
  exact (eh (Jw (Ob Arw c8 Zc C.uY Zc C.uX Zd) (Jw (Ave (Ob Adw c8 Zc C.uY Zc C.uU Zd)) (Nf (Fp (Fq hu) Ez c8 gd jz)))))
theorem Aiw(C:kg)(LB:ny):FnOk P w K mg base CX0 4 C.uL.f C.uL.d ["found","due"] (oo 2 Vc):=T9 C LB 3
theorem Af1(C:kg)(LB:ny):FnOk P w K mg base CX0 1 C.uM.f C.uM.d ["one","other"] (oo 2 Ks):=by
 refine Fun.okF C.uM.F Ad3 (fun cdv A outer s H E hr=>?_);have hu:=hr.units;refine Ah ?s0 ?t0
 case s0=>exact (C7 (Bw (Fq hu) Ez (Hj Ru Nt c8 (Hb Ai) He) (Hj Ru Nt gd (Hb Ai) He) jz) (eh S6) Co)
 exact (eh (Jw (Fp Akv Ae3 (p6 c8 Zg) (p6 gd Zg) jz) (Nf (Fp Akv Ae3 (p6 c8 Zg) (p6 gd Zg) jz))))
theorem Ade(C:kg)(LB:ny):FnOk P w K mg base CX0 2 C.uN.f C.uN.d ["spots"] (oo 1 Py):=by
 refine Fun.okF C.uN.F Ge (fun cdv A outer s H E hr=>?_);have hu:=hr.units;refine Ah ?s0 ?t0
 case s0=>exact (Ar (i:=1) (by exact Ge.nd) (Amb rfl Zc C.u4 Zc C.u6 (fq ZP)))
 refine Ah ?s1 ?t1
 case s1=>exact (Ar (i:=2) (by exact Ge.nd) (C6 Ae))
 refine Ah ?s2 ?t2
 case s2=>exact (R8 100000 dI (Bw (R0 hu) Qf gd (C6 Ae) jz) (Ah (Ar (i:=3) (by exact Ge.nd) (E6 (N':=["k","left","spots"]) (ix:=[ψ,ξ 1,ij]) pc rfl (Bm gd) (fun _ _ _ _ _ _=>(Ao (i:=0) (show cD (α:=Str) ["k","left","spots"] by lk))) (fun _ _ _ _ _ _=>(Bw (Fq hu) Ez (E6 (N':=["j","spots","k"]) (ix:=[ψ,m6,ij]) pc rfl (Bm gd) (fun _ _ _ _ _ _=>(Ao (i:=0) (show cD (α:=Str) ["j","spots","k"] by lk))) (fun _ _ _ _ _ _=>(C3 (Be C.uM (Af1 C LB) hr (Ac (i5 gd qx Zg) (fq (i5 gd c8 Zg)))))) ZD) (C6 Ae) jz)) ZD)) (Ah (Ar (i:=4) (by exact Ge.nd) (Bi (Afm rfl) Akm Zc C.u7 fJ (fq (Cf (N':=["k","spots"]) (ix:=[ψ,ij]) pc rfl (Bm qy) (fun _ _ _ _ _ _=>(Ao (i:=0) (show cD (α:=Str) ["k","spots"] by lk))) (fun _ _ _ _ _ _=>(Ds (Ac (p6 (i5 gd c8 Zg) Zg) (jx 0)))))))) (Ah (Hg (Pf dS eM eN G1 F7 qx (fq (Ct Bu C8 Zc C.ve Zd (fq (Cf (N':=["x","k","spots"]) (ix:=[ψ,ψ,ij]) pc rfl (Bm (Ag 4)) (fun _ _ _ _ _ _=>(F3 rfl (qw (i:=0) (show cD (α:=Str) ["x","k","spots"] by lk) (qw (i:=1) (show cD (α:=Str) ["x","k","spots"] by lk) Ed)))) (fun _ _ _ _ _ _=>(p6 (i5 qx gd Zg) Zg)))))))) (Am (Ar (i:=1) (by exact Ge.nd) (E6 (N':=["k","best"]) (ix:=[ψ,ξ 3]) pc rfl (Bm gd) (fun _ _ _ _ _ _=>(Ao (i:=0) (show cD (α:=Str) ["k","best"] by lk))) (fun _ _ _ _ _ _=>(Bw Ajc (Aen true) c8 gd Zf)) ZD)))))))
 exact (eh (Ct Bu C8 Zc C.ve Zd (jx 2)))
theorem Aue(C:kg)(LB:ny):FnOk P w K mg base CX0 10 C.uO.f C.uO.d ["script"] (oo 1 Adn):=by
 refine Fun.okF C.uO.F Vo (fun cdv A outer s H E hr=>?_);have hu:=hr.units;refine Ah ?s0 ?t0
 case s0=>exact (Ar (i:=1) (by exact Vo.nd) (jm C.uF (Aj6 C LB) 0 Ae))
 refine Ah ?s1 ?t1
 case s1=>exact (El dI rfl (Ll Zc C.u6 (fq Ai)) (Ao (i:=2) (by exact Vo.nd)) (Ah (Ar (i:=3) (by exact Vo.nd) (jm C.uK (Acf C LB) 1 (fq (i5 (C6 (by refine Ac Ai ?_;refine Ac Ai ?_;refine Ac Ai ?_;refine Ac Ai ?_;refine Ac Ai ?_;exact Ae)) (jm C.uG (B1 C LB) 1 (fq Ai)) Zg)))) (Ah (Ar (i:=4) (by exact Vo.nd) (jm C.uN (Ade C LB) 3 Ae)) (Am (C7 (PWF.pt (Vm (Jr (C3 (Be C.uL (Aiw C LB) hr (Ac (jm C.uC (Hz C LB) 3 Ae) (jx 4))))) (Rh (Jr (C3 (jm C.uH (S9 C LB) 3 (jx 4))))))) (eh S6) Co)))))
 exact (eh (jm C.uE (Xj C LB) 3 Ae))
end
theorem Aux{l:oD}{w:dC}{K:aK}{mg:Str->bi}{fa:Addr}(C:kg)(hfa:mg "law" = η fa) :
  ∃ fd:fA,(∀ (s:aO) (v:aJ),pC s fd ⟨[v],[]⟩ [("script",v)])/\∀ base:Heap,K.In base->base.Ns dJ mg->ny->FnOk l.prog w K mg base CX0 10 fa fd ["script"] (oo 1 Adn):=
 C.uO.law (Q:=fun fa fd=>∀ base:Heap,K.In base->base.Ns dJ mg->ny->FnOk l.prog w K mg base CX0 10 fa fd ["script"] (oo 1 Adn)) hfa (fun _ _ _ _ _ _ s v=>.of_eq rfl) fun base _ _ LB=>Aue C LB
noncomputable section
variable (P:rK)
abbrev fn(a b:Str)(s:Stmt)(dV kV d p:aJ)(n:du)(c t:aJ):fA:=gY a b (G7 s) (Fh s) (Ap s) dV kV d p n c t
abbrev zf(a b:Str)(s:Stmt)(p c:aJ):Obj:=⟨.type "function",ψ,.func (fn a b s .none .none .none p ψ c .none),#[]⟩
abbrev zx(a b:Str)(s:Stmt):Obj:=⟨.none,ψ,.func ⟨a,b,G7 s,.stmts (Fh s),Ap s,0,[],.none,.none,.none,.none,ψ,.none,.none,0⟩,#[]⟩
noncomputable abbrev zi(n:Int):aJ:=.int n 0
noncomputable abbrev zr(a:Addr):aJ:=.ref a
noncomputable abbrev zs(a:Str)(n:Nat):aJ:=.str a n
noncomputable abbrev zc(l:ac):Obj:=⟨.type "code",ψ,.fields l.toArray,#[]⟩
noncomputable abbrev zt(l:ac):Obj:=⟨.type "tuple",ψ,.seq l.toArray 0,#[]⟩
noncomputable abbrev zl(l:ac):Obj:=⟨.none,ψ,.fields l.toArray,#[]⟩
noncomputable abbrev zd(l:List vP)(n:Nat):Obj:=⟨p9,ψ,.dict l.toArray n,#[]⟩
noncomputable abbrev zn(o:Obj)(l r:kF):kF:=.node o l r
noncomputable abbrev zg(o:Obj):kF:=.node o .nil .nil
noncomputable abbrev de(s:Str)(n:Nat)(v:aJ):vP:=⟨xH.keyHash P s,.str s n,v⟩
abbrev zA(a b:Str)(n:Nat)(l c:Int)(r:Nat)(m e:Int):Obj:=zc [zs a n,zs b (n+1),nu (n+2),zi l,zi c,ii,ii,zi 3,zr r,mr,zi m,zr (r+1),.none,zr (r+2),zr (r+3),zr (r+4),zi e,zi l,nu (e.toNat+1)]
abbrev zB(a b:Str)(n:Nat)(l c:Int)(r:Nat)(m e:Int):Obj:=zc [zs a n,zs b (n+1),nu (n+2),zi l,zi c,ii,ii,zi 3,zr r,mr,zi m,zr (r+1),.none,.none,.none,zr (r+2),zi e,zi l,nu (e.toNat+1)]
noncomputable def sp2(l:List Obj):List Obj×List Obj:=l.foldr (fun a p=>(a::p.2,p.1)) ([],[])
def mkT:Nat->List Obj->kF
 | 0,_=>.nil
 | _+1,[]=>.nil
 | k+1,o::l=>.node o (mkT k (sp2 l).1) (mkT k (sp2 l).2)
abbrev Nx:aJ:=zs "belowpoints.chains.stairs" 235
abbrev Ab9:aJ:=zs "belowpoints.counts.pairs" 202
abbrev O6:aJ:=zs "belowpoints.chains.covers" 309
def zo1:Obj:=zd [iq P "builtins" 162 4,iq P "__main__" 163 5] 2
noncomputable def zo2:Obj:=⟨.none,ψ,(.dict #[] 0),#[]⟩
noncomputable def zo4:Obj:=⟨(.type "module"),ij,.plain,#[]⟩
noncomputable def zo5:Obj:=⟨(.type "module"),(ξ 3),.plain,#[]⟩
def zo6:Obj:=zd [] 0
def zo7:Obj:=zt []
def zo8:Obj:=zl []
def zo9:Obj:=zc [zs "<module>" 176,zs "<module>" 177,nu 178,zi 1,ii,ii,ii,ii,zr 7,.bool false,zi 175,zr 8,.none,.none,.none,.none,zi 179,zi 1,nu 180]
def zo10:Obj:=⟨(.type "frame"),ψ,.plain,#[(ξ (zr 9)),(ξ (zr 3)),(ξ (zr 3)),ψ,(ξ (zs "__main__" 164)),ψ,(ξ (zr 0))]⟩
def A0i:Obj:=zc [zs "<module>" 182,zs "<module>" 183,nu 184,zi 1,ii,ii,ii,ii,zr 11,.bool false,zi 181,zr 12,.none,.none,.none,.none,zi 185,zi 1,nu 186]
def A0n:Obj:=⟨(.type "frame"),ψ,.plain,#[(ξ (zr 13)),(ξ (zr 3)),(ξ (zr 3)),ψ,(ξ (zs "__main__" 164)),ψ,(ξ (zr 0))]⟩
def gz:List vP:=[de P "__doc__" 166 .none,de P "__package__" 167 .none,de P "__loader__" 168 (.builtin "__main__.__loader__#opaque"),de P "__spec__" 169 .none,iq P "__annotations__" 170 6,iq P "__builtins__" 171 4,de P "__file__" 173 (nu 172),de P "__cached__" 174 .none,iq P "lies_below" 194 19,iq P "place_of" 201 26,iq P "below_each" 209 31,iq P "above_each" 215 36,iq P "pairs_in_all" 222 43,iq P "many_below" 228 48,iq P "many_above" 234 53,iq P "stairs_of" 242 58,iq P "stair_of_each" 253 65,iq P "longest_chains" 263 72,iq P "heaviest_chain" 269 77,iq P "chains_of_each" 275 82,iq P "heaviest_begun" 281 87,iq P "first_heaviest" 288 94,iq P "turns_from_the_highest" 296 101,iq P "turns_above" 302 106,iq P "sum_at" 308 111,iq P "cover_of" 316 116,iq P "crowd_of" 322 121,iq P "cover_shown" 331 128,iq P "chains_laid" 342 135,iq P "names_along" 348 140,iq P "first_that_takes" 358 147,iq P "is_cover" 364 152,iq P "is_chain" 370 157,iq P "is_crowd" 376 162,iq P "_law_deck" 388 169,iq P "_law_draw" 399 176,iq P "_law_names" 405 181,iq P "_law_number" 414 188,iq P "_law_points" 428 195,iq P "_law_below" 436 202,iq P "_law_same" 442 207,iq P "_law_stairs" 448 212,iq P "_law_each_right" 454 217,iq P "_law_by_names" 460 222,iq P "law" 471 229]
def A0h:Obj:=zd (de P "__name__" 165 Nx::((gz P).take 17)) 18
def cz:ac:=[(zi 2),ii,(zr 18),(zi 4),ii,(zr 25),(zi 7),ii,(zr 30),(zi 10),ii,(zr 35),(zi 13),ii,(zr 42),(zi 15),ii,(zr 47),(zi 17),ii,(zr 52),(zi 20),ii,(zr 57),(zi 29),ii,(zr 64),(zi 35),ii,(zr 71),(zi 43),ii,(zr 76),(zi 48),ii,(zr 81),(zi 56),ii,(zr 86),(zi 63),ii,(zr 93),(zi 65),ii,(zr 100),(zi 67),ii,(zr 105),(zi 70),ii,(zr 110),(zi 73),ii,(zr 115),(zi 75),ii,(zr 120),(zi 81),ii,(zr 127),(zi 83),ii,(zr 134),(zi 92),ii,(zr 139),(zi 94),ii,(zr 146),(zi 99),ii,(zr 151),(zi 107),ii,(zr 156),(zi 109),ii,(zr 161),(zi 113),ii,(zr 168),(zi 122),ii,(zr 175),(zi 132),ii,(zr 180),(zi 144),ii,(zr 187),(zi 149),ii,(zr 194),(zi 166),ii,(zr 201),(zi 170),ii,(zr 206),(zi 180),ii,(zr 211),(zi 189),ii,(zr 216),(zi 201),ii,(zr 221),(zi 211),ii,(zr 228)]
def A0y:Obj:=zl (cz.take 27)
def A0f:Obj:=gt "lies_below" "lies_below" 1
def zo16:Obj:=zB "lies_below" "lies_below" 189 2 2 15 181 192
def Ayd:Obj:=jp "lies_below" "lies_below" 1 (zs "belowpoints.heaps.texts" 187) 18
def zo18:Obj:=zt [zs "point" 198]
def zo19:Obj:=gt "place_of" "place_of" 2
def Axa:Obj:=zA "place_of" "place_of" 195 4 1 20 181 199
def zo21:Obj:=jp "place_of" "place_of" 2 (zs "belowpoints.heaps.texts" 187) 25
def A1m:Obj:=gt "below_each" "below_each" 4
def zo23:Obj:=zB "below_each" "below_each" 204 7 1 27 181 207
def Aw8:Obj:=jp "below_each" "below_each" 4 Ab9 30
def zo25:Obj:=gt "above_each" "above_each" 5
def Aw5:Obj:=zB "above_each" "above_each" 210 10 1 32 181 213
def zo27:Obj:=jp "above_each" "above_each" 5 Ab9 35
def A0s:Obj:=zt [zs "points" 219]
def A08:Obj:=gt "pairs_in_all" "pairs_in_all" 6
def zo30:Obj:=zA "pairs_in_all" "pairs_in_all" 216 13 1 37 181 220
def Ayo:Obj:=jp "pairs_in_all" "pairs_in_all" 6 Ab9 42
def zo32:Obj:=gt "many_below" "many_below" 7
def Azj:Obj:=zB "many_below" "many_below" 223 15 2 44 181 226
def zo34:Obj:=jp "many_below" "many_below" 7 Ab9 47
def A0q:Obj:=gt "many_above" "many_above" 8
def zo36:Obj:=zB "many_above" "many_above" 229 17 2 49 181 232
def Ax0:Obj:=jp "many_above" "many_above" 8 Ab9 52
def zo38:Obj:=gt "stairs_of" "stairs_of" 10
def Axs:Obj:=zB "stairs_of" "stairs_of" 237 20 1 54 181 240
def zo40:Obj:=jp "stairs_of" "stairs_of" 10 Nx 57
def A0r:Obj:=zt [zs "points" 246,zs "stair_by_name" 247,zs "turn" 248,zs "stair" 249,zs "name" 250]
def A1i:Obj:=gt "stair_of_each" "stair_of_each" 11
def zo43:Obj:=zA "stair_of_each" "stair_of_each" 243 29 1 59 181 251
def Ayf:Obj:=jp "stair_of_each" "stair_of_each" 11 Nx 64
def A09:Obj:=zd (de P "__name__" 165 O6::((gz P).take 27)) 28
def A0o:Obj:=zl (cz.take 57)
def A01:Obj:=zt [zs "points" 257,zs "ones" 258,zs "point" 259,zs "heaviest" 260]
def A00:Obj:=gt "longest_chains" "longest_chains" 12
def zo49:Obj:=zA "longest_chains" "longest_chains" 254 35 1 66 181 261
def Az3:Obj:=jp "longest_chains" "longest_chains" 12 Nx 71
def zo51:Obj:=gt "heaviest_chain" "heaviest_chain" 13
def Azv:Obj:=zB "heaviest_chain" "heaviest_chain" 264 43 2 73 181 267
def zo53:Obj:=jp "heaviest_chain" "heaviest_chain" 13 Nx 76
def A0b:Obj:=gt "chains_of_each" "chains_of_each" 14
def zo55:Obj:=zB "chains_of_each" "chains_of_each" 270 48 1 78 181 273
def Axk:Obj:=jp "chains_of_each" "chains_of_each" 14 Nx 81
def zo57:Obj:=gt "heaviest_begun" "heaviest_begun" 15
def Ay4:Obj:=zB "heaviest_begun" "heaviest_begun" 276 56 2 83 181 279
def zo59:Obj:=jp "heaviest_begun" "heaviest_begun" 15 Nx 86
def A1b:Obj:=zt [zs "chains" 285]
def A1d:Obj:=gt "first_heaviest" "first_heaviest" 16
def zo62:Obj:=zA "first_heaviest" "first_heaviest" 282 63 1 88 181 286
def Ax5:Obj:=jp "first_heaviest" "first_heaviest" 16 Nx 93
def zo64:Obj:=zt [zs "points" 292]
def A1f:Obj:=zt [zs "points" 293]
def zo66:Obj:=gt "turns_from_the_highest" "turns_from_the_highest" 17
def Axb:Obj:=zA "turns_from_the_highest" "turns_from_the_highest" 289 65 1 95 181 294
def zo68:Obj:=jp "turns_from_the_highest" "turns_from_the_highest" 17 Nx 100
def A0t:Obj:=gt "turns_above" "turns_above" 18
def zo70:Obj:=zB "turns_above" "turns_above" 297 67 2 102 181 300
def Aya:Obj:=jp "turns_above" "turns_above" 18 Nx 105
def zo72:Obj:=gt "sum_at" "sum_at" 19
def Azr:Obj:=zB "sum_at" "sum_at" 303 70 2 107 181 306
def zo74:Obj:=jp "sum_at" "sum_at" 19 Nx 110
def A1h:Obj:=gt "cover_of" "cover_of" 21
def zo76:Obj:=zB "cover_of" "cover_of" 311 73 1 112 181 314
def Az2:Obj:=jp "cover_of" "cover_of" 21 O6 115
def zo78:Obj:=gt "crowd_of" "crowd_of" 22
def Ayz:Obj:=zB "crowd_of" "crowd_of" 317 75 1 117 181 320
def Ay1:Obj:=jp "crowd_of" "crowd_of" 22 O6 120
def A0z:Obj:=zd (de P "__name__" 165 (bw 377)::((gz P).take 37)) 38
def A1a:Obj:=zl (cz.take 87)
def A1n:Obj:=zt [zs "points" 326,zs "cover" 327,zs "crowd" 328]
def A0l:Obj:=gt "cover_shown" "cover_shown" 23
def zo85:Obj:=zA "cover_shown" "cover_shown" 323 81 3 122 181 329
def Axc:Obj:=jp "cover_shown" "cover_shown" 23 O6 127
def zo87:Obj:=zt [zs "points" 335,zs "chains" 336,zs "point" 337,zs "turn" 338,zs "crowd" 339]
def zo88:Obj:=gt "chains_laid" "chains_laid" 24
def Axg:Obj:=zA "chains_laid" "chains_laid" 332 83 1 129 181 340
def zo90:Obj:=jp "chains_laid" "chains_laid" 24 O6 134
def A0e:Obj:=gt "names_along" "names_along" 25
def zo92:Obj:=zB "names_along" "names_along" 343 92 1 136 181 346
def Azm:Obj:=jp "names_along" "names_along" 25 O6 139
def zo94:Obj:=zt [zs "chains" 352,zs "point" 353,zs "turn" 354,zs "chain" 355]
def zo95:Obj:=gt "first_that_takes" "first_that_takes" 26
def Aw7:Obj:=zA "first_that_takes" "first_that_takes" 349 94 2 141 181 356
def zo97:Obj:=jp "first_that_takes" "first_that_takes" 26 O6 146
def A0m:Obj:=gt "is_cover" "is_cover" 27
def zo99:Obj:=zB "is_cover" "is_cover" 359 99 2 148 181 362
def As9:Obj:=jp "is_cover" "is_cover" 27 O6 151
def zo101:Obj:=gt "is_chain" "is_chain" 28
def Aso:Obj:=zB "is_chain" "is_chain" 365 107 2 153 181 368
def zo103:Obj:=jp "is_chain" "is_chain" 28 O6 156
def Ayn:Obj:=gt "is_crowd" "is_crowd" 29
def zo105:Obj:=zB "is_crowd" "is_crowd" 371 109 2 158 181 374
def Asj:Obj:=jp "is_crowd" "is_crowd" 29 O6 161
def zo107:Obj:=zt [zs "script" 382,zs "great" 383,zs "mixed" 384,zs "cell" 385]
def zo108:Obj:=gt "_law_deck" "_law_deck" 31
def Atn:Obj:=zA "_law_deck" "_law_deck" 379 113 1 163 181 386
def zo110:Obj:=jp "_law_deck" "_law_deck" 31 (bw 377) 168
def Az1:Obj:=zt [zs "deck" 392,zs "most" 393,zs "found" 394,zs "turn" 395,zs "one" 396]
def Azt:Obj:=gt "_law_draw" "_law_draw" 32
def zo113:Obj:=zA "_law_draw" "_law_draw" 389 122 2 170 181 397
def Asm:Obj:=jp "_law_draw" "_law_draw" 32 (bw 377) 175
def zo115:Obj:=gt "_law_names" "_law_names" 33
def As5:Obj:=zB "_law_names" "_law_names" 400 132 2 177 181 403
def Ast:Obj:=jp "_law_names" "_law_names" 33 (bw 377) 180
def Asf:Obj:=zd (de P "__name__" 165 (bw 377)::(gz P)) 46
def Ayw:Obj:=zl cz
def Ax7:Obj:=zt [zs "deck" 409,zs "kind" 410,zs "far" 411]
def Axw:Obj:=gt "_law_number" "_law_number" 34
def zo122:Obj:=zA "_law_number" "_law_number" 406 144 2 182 181 412
def Asp:Obj:=jp "_law_number" "_law_number" 34 (bw 377) 187
def zo124:Obj:=zt [zs "deck" 418,zs "most" 419,zs "kind" 420,zs "way" 421,zs "found" 422,zs "name" 423,zs "x" 424,zs "y" 425]
def zo125:Obj:=gt "_law_points" "_law_points" 35
def Asr:Obj:=zA "_law_points" "_law_points" 415 149 2 189 181 426
def zo127:Obj:=jp "_law_points" "_law_points" 35 (bw 377) 194
def Ayk:Obj:=zt [zs "one" 432,zs "other" 433]
def Az4:Obj:=gt "_law_below" "_law_below" 36
def zo130:Obj:=zA "_law_below" "_law_below" 429 166 2 196 181 434
def Atd:Obj:=jp "_law_below" "_law_below" 36 (bw 377) 201
def zo132:Obj:=gt "_law_same" "_law_same" 37
def Atf:Obj:=zB "_law_same" "_law_same" 437 170 2 203 181 440
def zo134:Obj:=jp "_law_same" "_law_same" 37 (bw 377) 206
def Ay2:Obj:=gt "_law_stairs" "_law_stairs" 38
def zo136:Obj:=zB "_law_stairs" "_law_stairs" 443 180 1 208 181 446
def As7:Obj:=jp "_law_stairs" "_law_stairs" 38 (bw 377) 211
def zo138:Obj:=gt "_law_each_right" "_law_each_right" 39
def Asy:Obj:=zB "_law_each_right" "_law_each_right" 449 189 2 213 181 452
def zo140:Obj:=jp "_law_each_right" "_law_each_right" 39 (bw 377) 216
def Axi:Obj:=gt "_law_by_names" "_law_by_names" 40
def zo142:Obj:=zB "_law_by_names" "_law_by_names" 455 201 1 218 181 458
def Atq:Obj:=jp "_law_by_names" "_law_by_names" 40 (bw 377) 221
def zo144:Obj:=zt [zs "script" 464,zs "deck" 465,zs "turn" 466,zs "spots" 467,zs "due" 468]
def zo145:Obj:=gt "law" "law" 41
def As3:Obj:=zA "law" "law" 461 211 1 223 181 469
def Atj:Obj:=jp "law" "law" 41 (bw 377) 228
def l_0:List Obj:=[(vY P),(zo1 P),zo2,(PySem.W.boot_o_3 P),zo4,zo5,zo6,zo7,zo8,zo9,zo10,zo7,zo8,A0i,A0n]
def l_1:List Obj:=(l_0 P)
def t_0:kF:=mkT 11 (l_1 P)
def l_2:List Obj:=(((l_1 P).set 3 (A0h P)).set 12 A0y)++[zo7,zo8,A0f,zo16,Ayd,zo7,zo8,zo18,zo7,zo19,Axa,zo21,zo7,zo8,A1m,zo23,Aw8,zo7,zo8,zo25,Aw5,zo27,zo7,zo8,A0s,zo7,A08,zo30,Ayo,zo7,zo8,zo32,Azj,zo34,zo7,zo8,A0q,zo36,Ax0,zo7,zo8,zo38,Axs,zo40,zo7,zo8,A0r,zo7,A1i,zo43,Ayf]
def t_1:kF:=mkT 11 (l_2 P)
def l_3:List Obj:=(((l_2 P).set 3 (A09 P)).set 12 A0o)++[zo7,zo8,A01,zo7,A00,zo49,Az3,zo7,zo8,zo51,Azv,zo53,zo7,zo8,A0b,zo55,Axk,zo7,zo8,zo57,Ay4,zo59,zo7,zo8,A1b,zo7,A1d,zo62,Ax5,zo7,zo8,zo64,A1f,zo66,Axb,zo68,zo7,zo8,A0t,zo70,Aya,zo7,zo8,zo72,Azr,zo74,zo7,zo8,A1h,zo76,Az2,zo7,zo8,zo78,Ayz,Ay1]
def t_2:kF:=mkT 11 (l_3 P)
def l_4:List Obj:=(((l_3 P).set 3 (A0z P)).set 12 A1a)++[zo7,zo8,A1n,zo7,A0l,zo85,Axc,zo7,zo8,zo87,zo7,zo88,Axg,zo90,zo7,zo8,A0e,zo92,Azm,zo7,zo8,zo94,zo7,zo95,Aw7,zo97,zo7,zo8,A0m,zo99,As9,zo7,zo8,zo101,Aso,zo103,zo7,zo8,Ayn,zo105,Asj,zo7,zo8,zo107,zo7,zo108,Atn,zo110,zo7,zo8,Az1,zo7,Azt,zo113,Asm,zo7,zo8,zo115,As5,Ast]
def t_3:kF:=mkT 11 (l_4 P)
def l_5:List Obj:=(((l_4 P).set 3 (Asf P)).set 12 Ayw)++[zo7,zo8,Ax7,zo7,Axw,zo122,Asp,zo7,zo8,zo124,zo7,zo125,Asr,zo127,zo7,zo8,Ayk,zo7,Az4,zo130,Atd,zo7,zo8,zo132,Atf,zo134,zo7,zo8,Ay2,zo136,As7,zo7,zo8,zo138,Asy,zo140,zo7,zo8,Axi,zo142,Atq,zo7,zo8,zo144,zo7,zo145,As3,Atj]
def t_4:kF:=mkT 11 (l_5 P)
def l_6:List Obj:=(l_5 P)
def hA:Heap:=⟨⟨l_0 P⟩,{}⟩
def hZ:Heap:=⟨⟨l_6 P⟩,{}⟩
noncomputable abbrev pp:cL:=PySem.Challenge.pw_belowpoints_k24_stairs_told
def q0:cL:={ pp with main:={ pp.main with body:=[1,2,4,5,6,7,8,10,11,12,13,14,15,16,17,18,19,21,22,23,24,25,26,27,28,29,31,32,33,34,35,36,37,38,39,40,41].map top } }
def ev:Env:={ scope:=pp.main.scope,locals:=mainNs,globals:=mainNs,cells:=[],code:=(.ref 13),frame:=ξ 14 }
abbrev bd:nh:=PySem.W.behindTheImports pp
abbrev cE:Code:=.body bd ev
noncomputable abbrev tB:List Frame:=[mP ⟨0,0,0,0⟩]
def sl(i j:Nat):nh:=(bd.drop i).take j
theorem Ax4(w:dC)(os:mT):PySem.W.topGo fM pp w 11 (η 6) 12 ⟨fZ w.params,qf,oQ,pJ,os⟩ (wW pp)=ξ (⟨hA w.params,qf,{},187,os⟩,⟨denote fM cE,cE,⟨0,0,0,0⟩,tB⟩):=by
 rw[PySem.W.Fast.te15667345088766844465,cY,PySem.W.Fast.te11892475500146522536];kernel_rfl
theorem Ao7(w:dC)(os:mT):xN fM pp w 11 (η 6) 1 1 ⟨hA w.params,qf,{},187,os⟩ (wX bd ev cE ⟨0,0,0,0⟩ tB)=ξ (.next,sG ⟨t_0 w.params,15,{},qf,{},187,os⟩,cE,⟨0,0,0,0⟩):=by
 rw[PySem.W.Fast.te14374325043358763698,cY];kernel_rfl
theorem r_0(w:dC)(os:mT):nI fM pp w 11 (η 6) 1 275 ⟨t_0 w.params,15,{},qf,{},187,os⟩ (mQ (sl 0 12) ev cE ⟨0,0,0,0⟩ tB)=ξ (.next,⟨t_1 w.params,66,{},qf,{},254,os⟩,cE,⟨29,0,34,24⟩):=by
 rw[fK,cY];kernel_rfl
theorem r_1(w:dC)(os:mT):nI fM pp w 11 (η 6) 1 283 ⟨t_1 w.params,66,{},qf,{},254,os⟩ (mQ (sl 12 11) ev cE ⟨29,0,34,24⟩ tB)=ξ (.next,⟨t_2 w.params,122,{},qf,{},323,os⟩,cE,⟨75,0,80,69⟩):=by
 rw[fK,cY];kernel_rfl
theorem r_2(w:dC)(os:mT):nI fM pp w 11 (η 6) 1 301 ⟨t_2 w.params,122,{},qf,{},323,os⟩ (mQ (sl 23 11) ev cE ⟨75,0,80,69⟩ tB)=ξ (.next,⟨t_3 w.params,182,{},qf,{},406,os⟩,cE,⟨132,0,143,72⟩):=by
 rw[fK,cY];kernel_rfl
theorem r_3(w:dC)(os:mT):nI fM pp w 11 (η 6) 1 235 ⟨t_3 w.params,182,{},qf,{},406,os⟩ (mQ (sl 34 8) ev cE ⟨132,0,143,72⟩ tB)=ξ (.next,⟨t_4 w.params,230,{},qf,{},472,os⟩,cE,⟨211,0,218,31⟩):=by
 rw[fK,cY];kernel_rfl
theorem Axu(w:dC)(os:mT):oR fM pp w 11 (η 6) 2 (sG ⟨t_4 w.params,230,{},qf,{},472,os⟩) (xO [] ev cE ⟨211,0,218,31⟩ tB)=ξ ⟨hZ w.params,qf,{},472,os⟩:=by
 rw[PySem.W.Fast.te14082659384304107361,cY];kernel_rfl
theorem bdE:bd=(sl 0 12++(sl 12 11++(sl 23 11++(sl 34 8++[])))):=by kernel_rfl
theorem Ar4{tb:String->Option gZ}{p:cL}{w:dC}{n₀:Nat}{ann:bi}{env:Env}{q:Pos}{N:Nat}{s s1 r:aO}{b b1:nh}{c:Code}{pos p1:Pos}(hb:b=b1)(h:xN tb p w n₀ ann 1 n s (wX b env c pos [mP q])=ξ (.next,s1,c,p1))(k:oR tb p w n₀ ann N s1 (xO b1 env c p1 [mP q])=ξ r):oR tb p w n₀ ann (n+N) s ⟨denote tb (.body b env),c,pos,[mP q]⟩=ξ r:=by
 subst hb;exact PySem.W.piece_block h k
theorem Axp(w:dC)(os:mT):oR fM pp w 11 (η 6) (12+(1+(275+(283+(301+(235+2)))))) ⟨fZ w.params,qf,oQ,pJ,os⟩ (wW pp)=ξ ⟨hZ w.params,qf,{},472,os⟩:=
 PySem.W.go_top (Ax4 w os) (Ar4 bdE (Ao7 w os) (lX (lY (r_0 w os)) (lX (lY (r_1 w os)) (lX (lY (r_2 w os)) (lX (lY (r_3 w os)) (Axu w os))))))
theorem Awo:∀ w:dC,(PySem.W.fencedOpening fM pp w 2306).map (fun s=>(s.heap,s.gens,s.drawn,s.toks))=ξ (fZ w.params,Array.mk [],oQ,pJ):=
 PySem.W.boot_open (by kernel_rfl) Zb (fun s=>by kernel_rfl)
theorem Awt(w:dC):((fZ w.params).isNs dJ&&(Array.mk []:Array mV).size == 0,(fZ w.params).objs.size,(fZ w.params).nsMap dJ "__annotations__")=(true,11,(η 6)):=by
 rw[PySem.W.Fast.te8920871248978507458];kernel_rfl
def K0(P:rK):aK:=(nat_lit 19,Ayd)::(nat_lit 26,zo21)::(nat_lit 31,Aw8)::(nat_lit 36,zo27)::(nat_lit 43,Ayo)::(nat_lit 48,zo34)::(nat_lit 53,Ax0)::(nat_lit 58,zo40)::(nat_lit 65,Ayf)::(nat_lit 72,Az3)::(nat_lit 77,zo53)::(nat_lit 82,Axk)::(nat_lit 87,zo59)::(nat_lit 94,Ax5)::(nat_lit 101,zo68)::(nat_lit 106,Aya)::(nat_lit 111,zo74)::(nat_lit 116,Az2)::(nat_lit 121,Ay1)::(nat_lit 128,Axc)::(nat_lit 135,zo90)::(nat_lit 140,Azm)::(nat_lit 147,zo97)::(nat_lit 152,As9)::(nat_lit 157,zo103)::(nat_lit 162,Asj)::(nat_lit 169,zo110)::(nat_lit 176,Asm)::(nat_lit 181,Ast)::(nat_lit 188,Asp)::(nat_lit 195,zo127)::(nat_lit 202,Atd)::(nat_lit 207,zo134)::(nat_lit 212,As7)::(nat_lit 217,zo140)::(nat_lit 222,Atq)::(nat_lit 229,Atj)::(nat_lit 0,(vY P))::(nat_lit 1,(zo1 P))::(nat_lit 2,zo2)::(nat_lit 3,(Asf P))::(nat_lit 6,zo6)::(nat_lit 18,zo16)::(nat_lit 25,Axa)::(nat_lit 30,zo23)::(nat_lit 35,Aw5)::(nat_lit 42,zo30)::(nat_lit 47,Azj)::(nat_lit 52,zo36)::(nat_lit 57,Axs)::(nat_lit 64,zo43)::(nat_lit 71,zo49)::(nat_lit 76,Azv)::(nat_lit 81,zo55)::(nat_lit 86,Ay4)::(nat_lit 93,zo62)::(nat_lit 100,Axb)::(nat_lit 105,zo70)::(nat_lit 110,Azr)::(nat_lit 115,zo76)::(nat_lit 120,Ayz)::(nat_lit 127,zo85)::(nat_lit 134,Axg)::(nat_lit 139,zo92)::(nat_lit 146,Aw7)::(nat_lit 151,zo99)::(nat_lit 156,Aso)::(nat_lit 161,zo105)::(nat_lit 168,Atn)::(nat_lit 175,zo113)::(nat_lit 180,As5)::(nat_lit 187,zo122)::(nat_lit 194,Asr)::(nat_lit 201,zo130)::(nat_lit 206,Atf)::(nat_lit 211,zo136)::(nat_lit 216,Asy)::(nat_lit 221,zo142)::(nat_lit 228,As3)::[]
abbrev hK:PySem.W.Hook:=PySem.W.kHook K0 [nat_lit 19,nat_lit 26,nat_lit 31,nat_lit 36,nat_lit 43,nat_lit 48,nat_lit 53,nat_lit 58,nat_lit 65,nat_lit 72,nat_lit 77,nat_lit 82,nat_lit 87,nat_lit 94,nat_lit 101,nat_lit 106,nat_lit 111,nat_lit 116,nat_lit 121,nat_lit 128,nat_lit 135,nat_lit 140,nat_lit 147,nat_lit 152,nat_lit 157,nat_lit 162,nat_lit 169,nat_lit 176,nat_lit 181,nat_lit 188,nat_lit 195,nat_lit 202,nat_lit 207,nat_lit 212,nat_lit 217,nat_lit 222,nat_lit 229,nat_lit 0,nat_lit 1,nat_lit 2,nat_lit 3,nat_lit 6,nat_lit 18,nat_lit 25,nat_lit 30,nat_lit 35,nat_lit 42,nat_lit 47,nat_lit 52,nat_lit 57,nat_lit 64,nat_lit 71,nat_lit 76,nat_lit 81,nat_lit 86,nat_lit 93,nat_lit 100,nat_lit 105,nat_lit 110,nat_lit 115,nat_lit 120,nat_lit 127,nat_lit 134,nat_lit 139,nat_lit 146,nat_lit 151,nat_lit 156,nat_lit 161,nat_lit 168,nat_lit 175,nat_lit 180,nat_lit 187,nat_lit 194,nat_lit 201,nat_lit 206,nat_lit 211,nat_lit 216,nat_lit 221,nat_lit 228] (fun _=>by kernel_rfl)
noncomputable abbrev lz:Φ:=[]
theorem A06(w:dC)(os:mT):(PySem.W.staticsOk (importedModules pp.main.body) (fZ w.params) (hZ w.params)&&PySem.W.namesBound pp (hZ w.params)&&PySem.W.gensDone ⟨hZ w.params,qf,{},472,os⟩&&PySem.W.laidKept (fZ w.params) (hZ w.params))=true:=by
 rw[lB];kernel_rfl
theorem A05(w:dC)(os:mT):PySem.W.openSeen q0 lz (importedModules pp.main.body) (fun s=>yG q0 [] s&&xW [] s) true ⟨hZ w.params,qf,{},472,os⟩=PySem.W.openGood q0 lz:=by
 rw[lB,PySem.W.Fast.te4187177175401517315];kernel_rfl
theorem A1e(w:dC)(os:mT):hK.obs ⟨hZ w.params,qf,{},472,os⟩=hK.val w:=by kernel_rfl
theorem A1g:PySem.W.LeftO pp q0 lz (fun s=>yG q0 [] s&&xW [] s) hK.obs hK.val 2306:=
 PySem.W.LeftO.of_pieces Awo Awt Axp Zb fun w=>funext fun os=>xB (A06 w os) (xB (A05 w os) (A1e w os))
end
theorem A0w{l:oD}{q:cL}{loose:Φ}{XP:(Str->bi)->Heap->Prop}{YP:dC->Heap->Prop}{d:DefRec}{K:rK->aK}(hn:l.most=ξ 63)(hdf:d.params.defaults=[])
  (hY:∀ (w:dC) (h:Heap),YP w h->(i8).In h) (hTK:∀ w:dC,PySem.W.noTabs i8=true/\Att.Ro i8=true) (hrec:∀ nm∈Gs,∃ d,(PyProof.Rows.recsOf q).find? (fun e=>e.name == nm)=ξ d)
  (F:∀ (w:dC) (mg:Str->bi) (fa:Addr) (h:Heap),(i8).In h->h.Ns dJ mg->mg d.name=η fa ->
   ∃ fd:fA,(∀ (s:aO) (u:aJ),pC s fd ⟨[u],[]⟩ [("script",u)])/\∀ base:Heap,(i8).In base->base.Ns dJ mg->nw i8->FnOk l.prog w i8 mg base CX0 10 fa fd ["script"] (spF i8 1 Adn)) :
  xR q loose XP YP l.row.toRowW d [] (fun f vs=>yR f vs):=
 Att.Awb (k:=10) (x := "script") hn hdf ⟨rfl,Zb,Zb⟩ hY hTK hrec F (fun ns hl hb=>Ank ns hl hb)
end Lw
end
open PySem PySem.W PyProof.Rows
set_option maxRecDepth 100000 in
set_option maxHeartbeats 0 in
theorem PySem.Challenge.cw_belowpoints_k24_stairs_told_holds : PySem.Challenge.rw_belowpoints_k24_stairs_told.Holds := by
  w_on; o_law
  refine holds_open (q := Lw.q0) (loose := Lw.lz) (Xt := fun s => xlAt Lw.q0 [] s && recOk [] s) (XP := XL Lw.q0 []) (Yf := Lw.hK.obs) (Ya := Lw.hK.val) (YP := InK Lw.K0) Lw.A1g Lw.hK.of Lw.hK.keeps (fun s e => xl_of s (Bool.and_eq_true_iff.mp e).1) XL.keeps (by rfl) (by rfl) (by rfl) (fun s e => recFacts_of (Bool.and_eq_true_iff.mp e).2) (by rfl) (by first | assumption | decide +kernel) (by decide +kernel) ⟨rfl, rfl, rfl, rfl, rfl, by decide +kernel⟩ ?hw ?hc
  case hw => w_witness2
  k_fill
  refine Lw.A0w (l := PySem.Challenge.rw_belowpoints_k24_stairs_told) rfl rfl (K := Lw.K0) (fun w h Y => Y) ?T1 ?T2 ?F
  case T1 => exact fun w => ⟨by kernel_rfl, by kernel_rfl⟩
  case T2 => exact List.forall_mem_cons.mpr ⟨⟨_, rfl⟩, List.forall_mem_cons.mpr ⟨⟨_, rfl⟩, fun _ h => nomatch h⟩⟩
  case F =>
    intro w mg fa h KX G hmg
    refine Lw.Aux ?C hmg
    case C =>
      apply Lw.Defs.mk
      all_goals first | (refine' MR.mkG KX G ?a ?l ?c ?k ?h; (case a => k_is); (case l => k_is); (case c => k_is); (case k => k_is); case h => first | exact fun _ _ _ _ _ _ => MR.Abd (fun _ => rfl) | exact fun _ _ _ _ _ _ => MR.Apv (fun _ _ => rfl) | exact fun _ _ _ _ _ _ => MR.Awa (fun _ _ _ => rfl)) | (refine' MR.mkM ?a ?i ?l ?c ?k ?h; (case a => k_is); (case i => k_is); (case l => k_is); (case c => k_is); (case k => k_is); case h => first | exact fun _ _ _ _ _ _ => MR.Abd (fun _ => rfl) | exact fun _ _ _ _ _ _ => MR.Apv (fun _ _ => rfl) | exact fun _ _ _ _ _ _ => MR.Awa (fun _ _ _ => rfl)) | (refine' MR.Ayb KX G ?_; kernel_rfl) | (refine' ⟨?_, ?_⟩ <;> first | k_is | kernel_rfl) | (refine' ⟨?_, ?_, ?_⟩ <;> first | k_is | kernel_rfl) | (refine' MR.mkVI KX G ?a; (case a => k_is)) | (refine' MR.mkVS KX G ?a; (case a => k_is)) | (unfold L2.Awr; k_is) | (refine' PySem.W.mg_of KX G ?_; k_is) | (refine' PySem.W.mg_none_of KX G ?_; k_is) | k_is | kernel_rfl
