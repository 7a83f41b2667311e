import PyProof.Rows.All
import Wide.All
import OpenK.AllK
import Wide.FinOn
import Lean
import PyProof.EqAt
import PyProof.EqKinds
import PyProof.TupleCall
import KE.KTurnsDict
import KE.KPairComp
import KE.KDictList
import KE.KSortTup
import PyProof.Rows.SortShell
import PyProof.TupleOfSeq
import PyProof.Rows.SetFrom
import PyProof.WalksMore
import PyProof.FactsAll.set_1
import PyProof.Rows.CallKwBuiltin
import PySem.Challenge.RW_belowpoints_k91_sums_boxes_kept_by_names
set_option Elab.async false
set_option linter.all false
set_option maxRecDepth 100000
set_option maxHeartbeats 4000000
open Option renaming bind_eq_some_iff->aA,bind_some->aE,map_some->aI,map_eq_some_iff->aK,join_some->bG,isSome_map->iN,isSome_iff_exists->nJ,getD_some->nV,none->yL
open PySem renaming wpAny_bind->aB,Value->aC,Shared->aG,wpAny_pure->aJ,mainGlobals->bK,starEach->bP,Program->bQ,FuncData->bT,World->cC,Around->cL,wpAny_newObj_type->dB,wpAny_Call_Name_kw->dD,wpAny_setField_rec->dE,wpAny_callSpecial?_slot->dG,wpAny_call_entry->dM,sizeLine_eq->eC,wpAny_holding->eG,wpAny_mono->eL,codeAny_builtin->eO,wpAny_pyIter_tuple->eP,compareOp->eQ,wpAny_seqItems->eX,wpAny_rule->eY,wpAny_field->fD,treeTable->fE,codeAny_mono->fL,SetTable->fQ,wpAny_setState_of->fS,bootBuiltins->fX,Builtin->gD,wpAny_of_eq->gH,wpAny_attempt->gI,IsPair->gQ,wpAny_passesOwn->gR,binaryOp->gU,mem_of_lookup->gZ,plainId_quiet->iK,wpAny_truthy_bool->iL,wpAny_isInstance->jA,NameKind->jG,codeAny->jK,Keyword->jL,tupleKind_room_in1->jQ,Scope->jX,boot_len->kF,wpAny_call->kN,GenState->kT,wpAny_updateSeq_pair->kX,codeAny_call_builtin->lD,wpAny_execs_nil->lH,codeAny_of_tree->lP,OsState->mD,IsZip->mG,wpAny_newTuple->mH,isSubtype_stop->mJ,wpAny_fieldsOf->mO,wpAny_Call_method->mW,fits_of_scanBound->nB,wpAny_setEpoch_of->nC,wpAny_standAt->nI,wpAny_onRaise->nL,wpAny_newList->nO,Env->nT,wpAny_askSetting->oB,intKind_is->oN,wpAny_updateSeq->oT,wpAny_ite_split->oW,builtinLookup_eq_fast->pD,weight_type_call_type->pH,Params->pK,ZipApart->pL,wpAny_letGo->pM,wpAny_runValue->pN,isSubtype_type->pT,BindsTo->pV,evalArgs_none->pY,wpAny_handled->qE,builtinsNs->qH,Within->qR,wpAny_pyIter_list->qS,seqIndex_neg->qX,call_meetsIn->qZ,meets_dict_values->rD,wpAny_typeOf->rE,wpAny_storeSet_of->rO,wpAny_pyIter_slot->rQ,wpAny_pyIter_enum->rR,Paired->rS,wpAny_execs_cons->rT,PassesOwn->rV,noFill_tuple_add->rX,wpAny_pyIter_zip->rZ,seqIndex_of->sH,wpAny_throw->sI,ItemsOf->sV,wpAny_Name->sX,wpAny_load->sY,Result->sZ,bindArgs->tD,call->tF,PyData->tH
open PySem.W renaming Frag->aD,fnOf->aQ,keepIn->aV,codeIn->bH,findIn->bS,nsIn->bU,mg_of->cQ,isFn->cY,mg_none_of->eF,emptyDict->eM,boot_heap->eZ,instObj->fU,boot_o_0->gM,plainGet->hV,kas_rev->iG,hasDictIn->iM,callWith_KW0->iS,plainOver->jY,kas_sort->kH,methodCall_KW->kJ,BT->kP,topFrame->kQ,OpenLaw->kW,makesIn->lJ,plainGet_of->lV,lookIn->mF,boot_drawn->mP,topRun->mQ,methodObj->mT,boot_toks->nE,piece_app->nF,segRun_of->nG,piecesOf->oE,cellsFrom_some->oG,kas_descPart->oJ,takerIn->oQ,kas_ask->oX,segRunT->oY,callWith_K0->pW,callWith_K->qI,specialIn->qT,handedIn->rW,kas_tail3->sA,kas_count->sB,kas_place->sC,boot_o_3->sG,kat_nil->sS,topStub->sT,blockOf->sU,segRun->tS,restOf->tT,WalkO->tV,recOk->yA,xlAt->yF
open PySem.Heap renaming get?_push_of_some->aF,get?_push_size->aP,lt_size->aW,size_push->dC,get?_update_self->fH,get?_update_other->gC,SameBut->iE,ExtBut->mX,IsTuple->rB,size_update->sE
open List renaming getElem?_eq_getElem->aH,map_cons->aL,getElem?_cons_zero->aM,length_cons->aO,length_nil->aR,getElem?_cons_succ->aS,append_nil->aT,replicate->aY,getElem?_eq_some_iff->aZ,append_assoc->bA,getElem?_append_left->bB,getD_eq_getElem?_getD->bC,getElem?_append_right->bJ,size_toArray->bM,mem_cons_of_mem->bN,mem_append_right->bR,map_nil->bV,replicate_zero->bW,mem_singleton->bX,getElem?_map->cB,take_append_drop->cG,length_map->cH,mem_cons->cI,lookup_cons->cK,getElem?_eq_none_iff->cM,mem_cons_self->cN,all_eq_true->cV,getElem?_set_self->cX,getElem?_set_ne->cZ,getElem?_eq_none->dF,pairwise_iff_getElem->dI,find?_cons->dL,replicate_succ->dQ,range->dS,mem_append->dY,mem_range->eB,length_append->eD,take_of_length_le->eJ,mem_of_getElem?->eS,getElem_mem->eT,reverse_cons->eW,lookup->fA,extract_eq_take_drop->fF,drop_eq_getElem_cons->fG,length_take->fK,mem_append_left->fO,flatten_cons->fR,length_range->fT,nil_append->fV,reverse_append->fW,toArray->gE,any_cons->gG,filter->gJ,not_mem_nil->gL,getElem?_take_of_lt->gW,Nodup->gY,getElem_of_mem->hU,filter_cons->iA,set_cons_zero->iH,mem_iff_getElem->iU,drop_drop->iV,getElem?_append->iY,length_drop->jB,map_map->jC,cons_append->jD,filter_eq_self->jF,set_cons_succ->jR,length_eq_zero_iff->jV,drop_eq_nil_of_le->kE,eraseIdx_eq_take_drop_succ->kI,length_filter_le->kK,set_append_right->kM,mem_of_mem_drop->kZ,mem_of_mem_take->lB,getElem?_mapIdx->lF,nodup_cons->lK,forIn_cons->lL,map_append->lQ,filterMap_cons->lU,pairwise_cons->mL,length->mV,take_add_one->mY,getElem_drop->mZ,getElem?_replicate->nR,zipIdx_cons->nU,ext_getElem->nY,getElem_cons_drop->oM,mem_map->oO,mem_filter->oP,of_mem_zip->oR,foldl_cons->oS,getElem?_toArray->pE,pairwise_append->pO,reverse_reverse->pP,length_eraseIdx->pS,getElem?_range->pX,map_congr_left->qA,getElem?_drop->qM,take_sublist->qW,getElem_take->rF,perm_middle->sD,any_eq_true->sF,length_set->sK,zipIdx_nil->sN,range_succ->sR,foldl->tE,forIn_nil->tI,drop_zero->tK,take_zero->tL,take_take->tM,nodup_nil->tR,sum_cons->tZ
open Nat renaming le_refl->aN,lt_of_lt_of_le->bE,ne_of_lt->bY,sub_self->cS,le_trans->dN,lt_irrefl->dO,add_sub_cancel->dP,lt_succ_self->eI,zero_le->eR,ne_of_gt->fZ,le_of_eq->jZ,le_succ->kU,le_of_lt->lW,lt_succ_of_lt->nD,lt_or_eq_of_le->qN,eq_zero_or_pos->qO,zero_add->rG,lt_trichotomy->rK,lt_or_ge->yE
open PyProof.Rows renaming wpS_bind->aU,SortSt->aX,Keyed->bD,wpS_pure->bF,wpS_forRange->dX,callWith_type1->eU,wpS_mono->fI,wpS_modify->iW,listUpdate_at->jI,IntsAre->jM,get?_update_seq->jO,callWith_builtin1->kO,wpS_get->mB,AllBare->mU,boot_sorted->nQ,wpS_lift->nZ,subscriptTail_builtinR->oI,boot_sum->pI,K_mirror_equal->pQ,seqEpoch_at->pR,getElem?_mirror_all->pZ,listItems_at->rH,pairsOf_size->rJ
open Bool renaming false_eq_true->bL,false_ne_true->fJ,and_eq_true->iZ,false_and->pJ,or_false->qC,not_true->qF,or_eq_true->sM,eq_iff_iff->sO,not_false->tP,and_false->tQ,false_or->tW
open Option.some renaming inj->bZ,injEq->rM
open Array renaming length_toList->cF,getElem?_toList->cT,toList_append->cW,getElem?_eq_getElem->dJ,toList_push->dU,getD_eq_getD_getElem?->dZ,toList_reverse->iX,toList_extract->kY,getElem_toList->lC,toList_setIfInBounds->mM,perm_iff_toList_perm->mN,append_assoc->qG,toList->yC
open PySem.Obj renaming mapSeq->cJ,data_mapFields->qK,putSet->tN
open Int renaming toNat_natCast->cO,le_refl->fP,le_of_lt->gF
open PySem.Value renaming ref->cP,none->eA,type->eV,int->jT,str->pU,bool->sW,isStrOf->tU,isInt->yG,bytes->yH,float->yI
open PySem.Builtin.SmallTypes renaming nextOf->cR,ownedTupleIsFree->eN,ownedTupleHandOut->jE
open PySem.SetTable renaming below->cU,grown->iD,fits_plain_off->oA,has->rL,slot->tX
open PySem.W.Fast renaming te14364793385576792824->dA,te10110043849684766642->gK,te5923862056798008813->jS
open False renaming elim->dH
open PySem.Heap.SameBut renaming update->dR
open PySem.PyData renaming eqv->dW,strOk->iF,canLay0->iT,depth->kD,eqvAll->kR,canLayAll0->rC,depthAll->sP
open PySem.Around renaming under_plainId->eE,under_plain->qQ,under->qU,in1->tJ
open PySem.Str renaming ofString->eK,empty->yB
open Ne renaming symm->fY
open PySem.F renaming slot_tuple_iterator_next->gO,slot_dict_values->gX,plain_list_iadd->iB,plainAttrs_dict->jU,args_tuple_iterator_next_1->lM,slot_zip_next->lN,entry_tuple_iterator_next->lX,entry_proto_collect->lY,plain_proto_collect->lZ,args_dict_values_1->mK,entry_dict_values->mR,plain_extend_loop->mS,args_tuple_add_2->nK,type_dict_values->nM,entry_tuple_add->nS,entry_list_iadd->nW,plain_tuple_new->nX,slot_tuple_add->oH,slot_dict_pop->oZ,slot_enumerate_next->pC,slot_set_iter->pF,plain_set_new->pG,args_zip_next_1->rA,entry_zip_next->rY,slot_int_rmul->sL
open List.Perm renaming refl->iC,append_left->kL,append_right->oK,of_eq->oV
open ForInStep renaming yield->iI
open PySem.NameKind renaming free->iJ,cell->qD
open PySem.Builtin.List renaming listExtendWith->iO,listTooLong->jH,listLengthHint->mC,listSameRef->nP
open PySem.SetTable.below renaming go->iP
open PySem.Builtin renaming bitAnd->iQ
open True renaming intro->iR
open Sum renaming inr->jJ,inl->oF
open List.cons renaming injEq->jN
open PySem.Calls renaming spliced_cons->jP,spliced_nil->kA,callWith_builtin->kB,Name_function_global->mE
open PyProof.Rows.F renaming plain_set_update_loop->jW,entry_set_update_loop->oC
open PySem.SeqAt renaming shaped->kC
open PySem.PassesOwn renaming never->lR
open PySem.SetTable.probe renaming go->nA
open PySem.Paired renaming length->nH,snoc->yM
open PySem.Builtin.Tuple renaming tupleExact->nN
open Array.Perm renaming refl->oU
open PySem.W.SharedT renaming abs->qB
open Or renaming inr->qJ,inl->tG
open PyProof.Rows.SortSt renaming mk'->qL
open PySem.Code renaming quiet_builtin->qP,isFrame->qV,frames->yK
open List.Pairwise renaming nil->qY
open PySem.pickOrder renaming go->rN
open String renaming splitOnAux->rP,splitOn->tO
open PySem.Shared renaming heap->sJ,TypeIs->tY
open StateT renaming run_pure->sQ
open PySem.Txt renaming mul->yD
open Prod.mk renaming inj->yJ
open PySem.W.WShape renaming has->yN
namespace L2
open PySem PySem.Spec PyProof.Rows
abbrev Key:=Sum Int Str
noncomputable def Q5:Key->aC->Bool
 | .inl k,v=>yG k v
 | .inr x,v=>tU x v
noncomputable def Arb(w:cC):Key->Int
 | .inl k=>hashInt k
 | .inr x=>hashStr w x
theorem C4:∀ {k:Key} {v:aC},Q5 k v=true->(∃ i t,k=oF i/\v=jT i t)\/(∃ x t,k=jJ x/\v=pU x t)
 | .inl i,v,h=>by
  obtain ⟨t,e⟩:=aC.isInt_shape (k:=i) (v:=v) h
  exact .inl ⟨i,t,rfl,e⟩
 | .inr x,v,h=>by
  obtain ⟨t,e⟩:=aC.isStrOf_shape (x:=x) (v:=v) h
  exact .inr ⟨x,t,rfl,e⟩
theorem Aar(i:Int)(t:Tok):Q5 (.inl i) (.int i t)=true:=by simp[Q5,yG]
theorem Abh(x:Str)(t:Tok):Q5 (.inr x) (.str x t)=true:=by simp[Q5,tU]
theorem Ane(a b:Int):decide ((oF a:Key)=oF b)=(a == b):=by
 by_cases e:a=b
 ·subst e;simp
 ·have h:¬ (oF a:Key)=oF b:=fun q=>e (oF.inj q)
  rw[decide_eq_false h]
  exact (beq_eq_false_iff_ne.mpr e).symm
theorem Ani(a b:Str):decide ((jJ a:Key)=jJ b)=decide (a=b):=by
 by_cases e:a=b
 ·subst e;simp
 ·have h:¬ (jJ a:Key)=jJ b:=fun q=>e (jJ.inj q)
  rw[decide_eq_false h,decide_eq_false e]
theorem Als(a:Int)(b:Str):decide ((oF a:Key)=jJ b)=false:=decide_eq_false (fun q=>nomatch q)
theorem Alx(a:Str)(b:Int):decide ((jJ a:Key)=oF b)=false:=decide_eq_false (fun q=>nomatch q)
noncomputable def B9(prog:bQ)(w:cC):PySem.KeyKind prog w Key where
 is:=Q5
 hash:=Arb w
 inj:=fun v a b ha hb=>by
  rcases C4 ha with ⟨i,t,rfl,rfl⟩ | ⟨x,t,rfl,rfl⟩
  ·rcases C4 hb with ⟨j,u,rfl,e⟩ | ⟨y,u,rfl,e⟩
   ·injection e with e1 _;rw[e1]
   ·exact nomatch e
  ·rcases C4 hb with ⟨j,u,rfl,e⟩ | ⟨y,u,rfl,e⟩
   ·exact nomatch e
   ·injection e with e1 _;rw[e1]
 byValue:=fun k v h=>by
  rcases C4 h with ⟨i,t,rfl,rfl⟩ | ⟨x,t,rfl,rfl⟩ <;> rfl
 pyHash:=fun hv h=>by
  rcases C4 hv with ⟨i,t,rfl,rfl⟩ | ⟨x,t,rfl,rfl⟩
  ·exact wpAny_pyHash_int h
  ·exact wpAny_pyHash_str h
 eqBool:=fun hu hv h=>by
  rcases C4 hu with ⟨i,t,rfl,rfl⟩ | ⟨x,t,rfl,rfl⟩
  ·rcases C4 hv with ⟨j,u,rfl,rfl⟩ | ⟨y,u,rfl,rfl⟩
   ·rw[Ane] at h;exact wpAny_eqBool_int h
   ·rw[Als] at h;exact SeqAt.EqAt.int_str i t y u _ _ _ _ h
  ·rcases C4 hv with ⟨j,u,rfl,rfl⟩ | ⟨y,u,rfl,rfl⟩
   ·rw[Alx] at h;exact SeqAt.EqAt.str_int x t j u _ _ _ _ h
   ·rw[Ani] at h;exact wpAny_eqBool_str h
 «strs» := fun k x t v h=>by
  rcases C4 h with ⟨i,u,rfl,e⟩ | ⟨y,u,rfl,e⟩
  ·exact nomatch e
  ·injection e with e1 _
   subst e1
   cases v <;> rfl
theorem S9(prog:bQ)(w:cC)(i:Int)(t:Tok):(B9 prog w).is (.inl i) (.int i t)=true:=Aar i t
theorem Tw(prog:bQ)(w:cC)(x:Str)(t:Tok):(B9 prog w).is (.inr x) (.str x t)=true:=Abh x t
inductive V where
 | non | bl (b:Bool) | int (i:Int) | str (x:Str) | byt (b:Array UInt8) | flt (b:UInt64) | ref (a:Addr) | ty (n:String)
 deriving DecidableEq
noncomputable def RelV:V->aC->Prop
 | .non,u=>u=eA
 | .bl b,u=>u=sW b
 | .int i,u=>∃ t,u=jT i t
 | .str x,u=>∃ t,u=pU x t
 | .byt b,u=>∃ t,u=yH b t
 | .flt b,u=>∃ t,u=yI b t
 | .ref a,u=>u=cP a
 | .ty n,u=>u=eV n
abbrev Vals:List V->List aC->Prop:=rS RelV
theorem Vals.length{xs:List V}{us:List aC}(r:Vals xs us):xs.length=us.length:=nH r
theorem Vals.get{xs:List V}{us:List aC}{i:Nat}{x:V}(h:Vals xs us)(e:xs[i]? = some x):∃ u,us[i]? = some u/\RelV x u:=by
 induction h generalizing i with
 | nil=>cases e
 | cons r t ih=>
  cases i with
  | zero=>cases e;exact ⟨_,rfl,r⟩
  | succ i=>exact ih (i:=i) e
theorem Vals.set{x:V}{u:aC}(r:RelV x u){xs:List V}{us:List aC}(i:Nat)(h:Vals xs us):Vals (xs.set i x) (us.set i u):=by
 induction h generalizing i with
 | nil=>exact .nil
 | cons q t ih=>
  cases i with
  | zero=>exact .cons r t
  | succ i=>exact .cons q (ih i)
theorem Vals.append{xs ys:List V}{us ws:List aC}(h:Vals xs us)(s:Vals ys ws):Vals (xs++ys) (us++ws):=by
 induction h with
 | nil=>exact s
 | cons r t ih=>exact .cons r ih
theorem Vals.take{xs:List V}{us:List aC}(n:Nat)(h:Vals xs us):Vals (xs.take n) (us.take n):=by
 induction h generalizing n with
 | nil=>cases n <;> exact .nil
 | cons r t ih=>
  cases n with
  | zero=>exact .nil
  | succ n=>exact .cons r (ih n)
theorem Vals.drop{xs:List V}{us:List aC}(n:Nat)(h:Vals xs us):Vals (xs.drop n) (us.drop n):=by
 induction h generalizing n with
 | nil=>cases n <;> exact .nil
 | cons r t ih=>
  cases n with
  | zero=>exact .cons r t
  | succ n=>exact ih n
theorem Vals.none_of:∀ {xs:List V} {us:List aC} {i:Nat},Vals xs us->xs[i]? = none->us[i]? = none:=fun {xs us i} r e=>by
 have h1:=r.length
 have h2:xs.length<=i:=cM.mp e
 exact cM.mpr (by omega)
noncomputable def RelO:Option V->Option aC->Prop
 | some v,some u=>RelV v u
 | none,none=>True
 | _,_=>False
noncomputable def KV{κ:Type}:List (κ×V)->List (κ×aC)->Prop:=rS fun (p:κ×V) (q:κ×aC)=>p.1=q.1/\RelV p.2 q.2
noncomputable def kV:Key->V
 | .inl i=>.int i
 | .inr x=>.str x
inductive HO where
 | lst (xs:List V)
 | tup (xs:List V)
 | dK (kvs:List (Key×V)) | dT (kvs:List (List Key×V))
 | set (S:Int->Bool) (n:Nat)
 | ins (C dx:Addr) (fs:List (Str×V))
 | own (x:Addr)
 | xd (fs:List (Str×V))
 | met (f x:Addr)
 | rng (lo hi:Int)
 | frz (o:Obj) (u:HO)
 | tbl (ps:Array aC)
 | ext (φ:Heap->Prop)
abbrev Hp:=Addr->Option HO
noncomputable def upd(H:Hp)(a:Addr)(o:HO):Hp:=fun b=>if b=a then some o else H b
theorem upd_same{H:Hp}{a:Addr}{o:HO}:upd H a o a=some o:=by unfold upd;rw[if_pos rfl]
theorem Az{H:Hp}{a b:Addr}{o:HO}(h:b≠a):upd H a o b=H b:=by unfold upd;rw[if_neg h]
theorem Aco{H:Hp}{a b:Addr}{o u:HO}(h:H a=some o)(h':H b=some u)(d:o≠u):a≠b:=by
 intro e;subst e;rw[h] at h';exact d (bZ h')
theorem Bj{H:Hp}{a b:Addr}{o:HO}(h:H a=some o)(h':H b=none):a≠b:=by
 intro e;subst e;rw[h] at h';cases h'
noncomputable def TupN(h:Heap)(a:Addr)(its:Array aC):Prop:=∃ o:Obj,h.get? a=some o/\(o.cls,o.dict)=(eV "tuple",(none:Option Addr))/\∃ n,o.data = .seq its n
theorem TupN.is{h:Heap}{a:Addr}{its:Array aC}(x:TupN h a its):h.IsTuple a its:=by
 obtain ⟨o,e,c,n,d⟩:=x
 exact ⟨o,e,(yJ c).1,n,d⟩
theorem TupN.new(h:Heap)(its:Array aC):TupN (h.push { cls:=.type "tuple",data:=.seq its }) h.objs.size its:=⟨_,aP _ rfl,rfl,0,rfl⟩
theorem TupN.lt{h:Heap}{a:Addr}{its:Array aC}(x:TupN h a its):a < h.objs.size:=by
 obtain ⟨o,e,_⟩:=x;exact aW e
section
variable (P:bQ)(w:cC)
noncomputable def ObjOk(H:Hp)(h:Heap)(a:Addr):HO->Prop
 | .lst xs=>xs.length<=sizeLine/\∃ (its:List aC) (n:Nat),Vals xs its/\h.get? a=some { cls:=.type "list",data:=.seq its.toArray n }
 | .tup xs=>xs.length<=sizeLine/\∃ its:List aC,Vals xs its/\TupN h a its.toArray
 | .dK kvs=>kvs.length<=sizeLine/\(a == sysModules)=false/\∃ vs,KV kvs vs/\h.DictOf (B9 P w) a vs
 | .dT kvs=>kvs.length<=sizeLine/\(a == sysModules)=false/\∃ xs:List (List Key×Addr×aC),
   rS (fun (p:List Key×V) (q:List Key×Addr×aC)=>p.1=q.1/\H q.2.1=some (.tup (p.1.map kV))/\RelV p.2 q.2.2) kvs xs /\
   ∃ o es ep,h.get? a=some o/\o.ExactDict/\o.data = .dict es ep/\es.toList=xs.map (entryOfKey (tupleKind (B9 P w)))/\(xs.map (·.1)).Nodup
 | .set S n=>h.SetOf (intKind P w) a S n
 | .ins C dx fs=>H dx=some (.own a)/\fs.length<=1000/\dx≠a/\h.get? a=some (fU C dx) /\
   ∃ mA,h.Ns1 dx mA/\(∀ f,RelO (fs.lookup f) (mA f))/\qR mA (fs.map (·.1))
 | .own _=>∃ o,h.get? a=some o
 | .xd fs=>∃ mA,h.Ns1 a mA/\∀ f,RelO (fs.lookup f) (mA f)
 | .rng lo hi=>∃ t u v,h.get? a=some { cls:=.type "range",data:=.fields #[.int lo t,.int hi u,.int 1 v] }
 | .frz o u=>h.get? a=some o/\ObjOk H h a u
 | .tbl ps=>h.get? a=some { cls:=.none,data:=.fields ps }
 | .met f x=>h.get? a=some (mT (.ref f) (.ref x))
 | .ext φ=>φ h/\(∃ o,h.get? a=some o)/\∀ h1 h2:Heap,φ h1->(∀ o,h1.get? a=some o->h2.get? a=some o)->φ h2
noncomputable def HOk(H:Hp)(h:Heap):Prop:=∀ a o,H a=some o->ObjOk P w H h a o
end
section
variable {P:bQ}{w:cC}{H H':Hp}{h h':Heap}{a:Addr}{o:HO}
theorem ObjOk.lt(x:ObjOk P w H h a o):a < h.objs.size:=by
 cases o with
 | lst xs=>obtain ⟨_,_,_,_,e⟩:=x;exact aW e
 | tup xs=>obtain ⟨_,_,_,p⟩:=x;exact p.lt
 | dK kvs=>obtain ⟨_,_,_,_,o,_,_,e,_⟩:=x;exact aW e
 | dT kvs=>obtain ⟨_,_,_,_,o,_,_,e,_⟩:=x;exact aW e
 | set S n=>obtain ⟨o,_,_,_,e,_⟩:=x;exact aW e
 | ins C dx fs=>obtain ⟨_,_,_,e,_⟩:=x;exact aW e
 | own y=>obtain ⟨_,e⟩:=x;exact aW e
 | xd fs=>obtain ⟨_,⟨_,_,_,e,_⟩,_⟩:=x;exact aW e
 | rng lo hi=>obtain ⟨_,_,_,e⟩:=x;exact aW e
 | frz ob u=>obtain ⟨e,_⟩:=x;exact aW e
 | tbl ps=>exact aW (show h.get? a=some _ from x)
 | met f y=>exact aW (show h.get? a=some _ from x)
 | ext φ=>obtain ⟨_,⟨_,e⟩,_⟩:=x;exact aW e
theorem Paired.mapP{α β:Type}{F G:α->β->Prop}{l₁:List α}{l₂:List β}(h:rS F l₁ l₂)(f:∀ a b,F a b->G a b):rS G l₁ l₂:=by
 induction h with
 | nil=>exact .nil
 | cons r t ih=>exact .cons (f _ _ r) ih
theorem ObjOk.stay(x:ObjOk P w H h a o)(k:∀ b u,(b=a\/H b=some (.own a))->h.get? b=some u->h'.get? b=some u)
  (ho:∀ b,H b=some (.own a)->H' b=some (.own a)) (ht:∀ b xs,H b=some (.tup xs)->H' b=some (.tup xs)):ObjOk P w H' h' a o:=by
 induction o with
 | lst xs=>obtain ⟨z,its,n,r,e⟩:=x;exact ⟨z,its,n,r,k _ _ (.inl rfl) e⟩
 | tup xs=>obtain ⟨z,its,r,ob,e,c⟩:=x;exact ⟨z,its,r,ob,k _ _ (.inl rfl) e,c⟩
 | dK kvs=>obtain ⟨z,y,vs,r,ob,es,ep,e,c⟩:=x;exact ⟨z,y,vs,r,ob,es,ep,k _ _ (.inl rfl) e,c⟩
 | dT kvs=>
  obtain ⟨z,y,xs,r,ob,es,ep,e,c⟩:=x
  exact ⟨z,y,xs,Paired.mapP r fun p q z=>⟨z.1,ht _ _ z.2.1,z.2.2⟩,ob,es,ep,k _ _ (.inl rfl) e,c⟩
 | set S n=>obtain ⟨ob,es,ep,t,e,c⟩:=x;exact ⟨ob,es,ep,t,k _ _ (.inl rfl) e,c⟩
 | ins C dx fs=>
  obtain ⟨d,z,ne,e,mA,⟨od,es,ep,e2,c⟩,r⟩:=x
  exact ⟨ho _ d,z,ne,k _ _ (.inl rfl) e,mA,⟨od,es,ep,k _ _ (.inr d) e2,c⟩,r⟩
 | own y=>obtain ⟨ob,e⟩:=x;exact ⟨ob,k _ _ (.inl rfl) e⟩
 | xd fs=>obtain ⟨mA,⟨od,es,ep,e,c⟩,r⟩:=x;exact ⟨mA,⟨od,es,ep,k _ _ (.inl rfl) e,c⟩,r⟩
 | rng lo hi=>obtain ⟨t,u,v,e⟩:=x;exact ⟨t,u,v,k _ _ (.inl rfl) e⟩
 | frz ob u ih=>obtain ⟨e,q⟩:=x;exact ⟨k _ _ (.inl rfl) e,ih q⟩
 | tbl ps=>
  have e:h.get? a=some { cls:=.none,data:=.fields ps }:=x
  show h'.get? a=some { cls:=.none,data:=.fields ps }
  exact k a _ (.inl rfl) e
 | met f y=>
  have e:h.get? a=some (mT (.ref f) (.ref y)):=x
  show h'.get? a=some (mT (.ref f) (.ref y))
  exact k a _ (.inl rfl) e
 | ext φ=>obtain ⟨p,⟨o,e⟩,st⟩:=x;exact ⟨st _ _ p fun o q=>k _ _ (.inl rfl) q,⟨o,k _ _ (.inl rfl) e⟩,st⟩
theorem HOk.lt(x:HOk P w H h)(e:H a=some o):a < h.objs.size:=(x a o e).lt
theorem HOk.fresh(x:HOk P w H h)(e:h.objs.size<=a):H a=none:=by
 cases q:H a with
 | none=>rfl
 | some u=>exact absurd (bE (x.lt q) e) (dO _)
theorem HOk.kept(x:HOk P w H h)(k:∀ b u,h.get? b=some u->h'.get? b=some u):HOk P w H h':=fun a o e=>
 (x a o e).stay (fun b u _ q=>k b u q) (fun _ q=>q) fun _ _ q=>q
theorem HOk.laid(x:HOk P w H h)(k:∀ b u,h.get? b=some u->h'.get? b=some u)(hp:h.objs.size<=a)(new:ObjOk P w (upd H a o) h' a o):HOk P w (upd H a o) h':=fun b u e=>by
 have hn:=x.fresh hp
 by_cases hb:b=a
 ·subst hb;rw[upd_same] at e;cases e;exact new
 ·rw[Az hb] at e
  exact (x b u e).stay (fun c v _ q=>k c v q) (fun c q=>by rw[Az (Bj q hn)];exact q) fun c xs q=>by rw[Az (Bj q hn)];exact q
end
noncomputable def Rd(H:Hp)(a:Addr)(u:HO):Prop:=H a=some u\/∃ o,H a=some (.frz o u)
theorem Rd.of{H:Hp}{a:Addr}{u:HO}(h:H a=some u):Rd H a u:=.inl h
theorem Rd.ok{P:bQ}{w:cC}{H:Hp}{h:Heap}{a:Addr}{u:HO}(r:Rd H a u)(x:HOk P w H h):ObjOk P w H h a u:=by
 rcases r with r | ⟨o,r⟩
 ·exact x a u r
 ·obtain ⟨_,q⟩:=x a _ r
  exact q
noncomputable def Mut:Option HO->Prop
 | some (.lst _)=>True
 | some (.dK _)=>True
 | some (.dT _)=>True
 | some (.set _ _)=>True
 | some (.ins _ _ _)=>True
 | some (.ext _)=>True
 | _=>False
section
variable {P:bQ}{w:cC}{H:Hp}{h h':Heap}{x e:Addr}{o':HO}
theorem HOk.write(ok:HOk P w H h)(mu:Mut (H x))(he:e=x\/H e=some (.own x))(k:∀ b u,b≠e->h.get? b=some u->h'.get? b=some u)(heo:∃ u,h'.get? e=some u)
  (new:ObjOk P w (upd H x o') h' x o'):HOk P w (upd H x o') h':=fun b u q=>by
 have nown:∀ c y,H c=some (.own y)->c≠x:=fun c y r z=>by subst z;rw[r] at mu;exact mu
 have ntup:∀ c xs,H c=some (.tup xs)->c≠x:=fun c xs r z=>by subst z;rw[r] at mu;exact mu
 by_cases hb:b=x
 ·subst hb;rw[upd_same] at q;cases q;exact new
 ·rw[Az hb] at q
  by_cases hbe:b=e
  ·have q':H b=some (.own x):=by
    rcases he with z | z
    ·exact absurd (hbe.trans z) hb
    ·rw[hbe];exact z
   rw[q] at q';cases q'
   obtain ⟨v,hv⟩:=heo
   exact ⟨v,by rw[hbe];exact hv⟩
  ·refine (ok b u q).stay (fun c v hc r=>k c v ?_ r) (fun c r=>by rw[Az (nown c b r)];exact r) fun c xs r=>by rw[Az (ntup c xs r)];exact r
   rcases hc with rfl | hc
   ·exact hbe
   ·rintro rfl
    rcases he with z | z
    ·exact nown c b hc z
    ·rw[hc] at z;cases z;exact hb rfl
end
structure Un(fs ex:List Addr)(H H':Hp)(h h':Heap):Prop where
 keep:∀ b o,h.get? b=some o->H b=none->b∉fs->b∉ex->h'.get? b=some o
 slot:∀ b o,h.get? b=some o->H b=none->b∈fs->b∉ex->∃ sl,h'.get? b=some { o with slots:=sl }
 free:∀ b o,h.get? b=some o->H b=none->b∉ex->H' b=none
 there:∀ b o,h.get? b=some o->b∉ex->∃ o',h'.get? b=some o'
 tups:∀ b xs,H b=some (.tup xs)->H' b=some (.tup xs)
 frzs:∀ b o u,H b=some (.frz o u)->H' b=some (.frz o u)
 tbls:∀ b ps,H b=some (.tbl ps)->∃ more,H' b=some (.tbl (ps++more))
section
variable {fs fs' ex ex':List Addr}{H H1 H2:Hp}{h h1 h2 h':Heap}{a x e:Addr}{o:HO}
theorem Un.any(u:Un fs ex H H1 h h1){b:Addr}{ob:Obj}(q:h.get? b=some ob)(n:H b=none)(hx:b∉ex):∃ sl,h1.get? b=some { ob with slots:=sl }:=by
 by_cases hb:b∈fs
 ·exact u.slot b ob q n hb hx
 ·exact ⟨ob.slots,u.keep b ob q n hb hx⟩
theorem Un.trans(a:Un fs ex H H1 h h1)(b:Un fs ex H1 H2 h1 h2):Un fs ex H H2 h h2 where
 keep:=fun c ob q n hc hx=>b.keep c ob (a.keep c ob q n hc hx) (a.free c ob q n hx) hc hx
 slot:=fun c ob q n hc hx=>by
  obtain ⟨sl,e1⟩:=a.slot c ob q n hc hx
  obtain ⟨sl',e2⟩:=b.slot c _ e1 (a.free c ob q n hx) hc hx
  exact ⟨sl',e2⟩
 free:=fun c ob q n hx=>by
  obtain ⟨o',e1⟩:=a.there c ob q hx
  exact b.free c o' e1 (a.free c ob q n hx) hx
 there:=fun c ob q hx=>by
  obtain ⟨o',e1⟩:=a.there c ob q hx
  exact b.there c o' e1 hx
 tups:=fun c xs q=>b.tups c xs (a.tups c xs q)
 frzs:=fun c ob xs q=>b.frzs c ob xs (a.frzs c ob xs q)
 tbls:=fun c ps q=>by
  obtain ⟨m1,e1⟩:=a.tbls c ps q
  obtain ⟨m2,e2⟩:=b.tbls c _ e1
  exact ⟨m1++m2,by rw[e2,qG]⟩
theorem Un.kept(k:∀ b u,h.get? b=some u->h'.get? b=some u):Un fs ex H H h h':=
 ⟨fun b ob q _ _ _=>k b ob q,fun b ob q _ _ _=>⟨ob.slots,k b ob q⟩,fun _ _ _ n _=>n,fun b ob q _=>⟨ob,k b ob q⟩,fun _ _ q=>q,fun _ _ _ q=>q,fun _ ps q=>⟨#[],by rw[q];simp⟩⟩
theorem Un.refl:Un fs ex H H h h:=Un.kept fun _ _ q=>q
theorem Un.laid(k:∀ b u,h.get? b=some u->h'.get? b=some u)(hp:h.objs.size<=a)(hn:H a=none):Un fs ex H (upd H a o) h h' where
 keep:=fun b u q _ _ _=>k b u q
 slot:=fun b u q _ _ _=>⟨u.slots,k b u q⟩
 free:=fun b u q n _=>by rw[Az (bY (bE (aW q) hp))];exact n
 there:=fun b u q _=>⟨u,k b u q⟩
 tups:=fun b xs q=>by rw[Az (Bj q hn)];exact q
 frzs:=fun b u xs q=>by rw[Az (Bj q hn)];exact q
 tbls:=fun b ps q=>⟨#[],by rw[Az (Bj q hn),q];simp⟩
theorem Un.write(mu:Mut (H x))(he:e=x\/H e=some (.own x))(k:∀ b u,b≠e->h.get? b=some u->h'.get? b=some u)(heo:∃ u,h'.get? e=some u):Un fs ex H (upd H x o) h h':=by
 have hx:∀ b,H b=none->b≠x:=fun b n z=>by subst z;rw[n] at mu;exact mu
 have hb:∀ b,H b=none->b≠e:=fun b n z=>by
  subst z
  rcases he with r | r
  ·exact hx b n r
  ·rw[n] at r;cases r
 have hm:∀ b u,H b=some u->¬ Mut (some u)->b≠x:=fun b u q nm z=>by subst z;rw[q] at mu;exact nm mu
 refine ⟨fun b u q n _ _=>k b u (hb b n) q,fun b u q n _ _=>⟨u.slots,k b u (hb b n) q⟩,fun b u q n _=>by rw[Az (hx b n)];exact n,fun b u q _=>?_,
  fun b xs q=>by rw[Az (hm b _ q fun z=>z)];exact q,fun b u xs q=>by rw[Az (hm b _ q fun z=>z)];exact q,fun b ps q=>⟨#[],by rw[Az (hm b _ q fun z=>z),q];simp⟩⟩
 by_cases hbe:b=e
 ·subst hbe;exact heo
 ·exact ⟨u,k b u hbe q⟩
theorem Un.mono(u:Un fs ex H H1 h h1)(hs:∀ b∈fs,b∈fs')(hx:∀ b∈ex,b∈ex'):Un fs' ex' H H1 h h1:=
 ⟨fun b ob q n hb he=>u.keep b ob q n (fun z=>hb (hs b z)) fun z=>he (hx b z),fun _ _ q n _ he=>u.any q n fun z=>he (hx _ z),fun b ob q n he=>u.free b ob q n fun z=>he (hx b z),fun b ob q he=>u.there b ob q fun z=>he (hx b z),u.tups,u.frzs,u.tbls⟩
end
noncomputable def trk(h:Heap)(H:Hp):List Addr:=(dS h.objs.size).filter fun a=>(H a).isSome
noncomputable def R9(h:Heap)(H:Hp):Heap:=PySem.W.hideAll h (trk h H)
theorem Aal(h:Heap)(H:Hp):(R9 h H).objs.size=h.objs.size:=PySem.W.hideAll_size _ _
theorem Aed{h:Heap}{H:Hp}{b:Addr}{o:Obj}(e:h.get? b=some o)(n:H b=none):(R9 h H).get? b=some o:=
 PySem.W.hideAll_get _ e fun hm=>by
  have q:(H b).isSome=true:=(oP.mp hm).2
  rw[n] at q;simp at q
theorem Ajl{h:Heap}{H:Hp}{b:Addr}{o:Obj}(e:(R9 h H).get? b=some o):h.get? b=some o/\H b=none:=by
 have e':h.get? b=some o:=PySem.W.of_hideAll (trk h H) e
 refine ⟨e',?_⟩
 cases q:H b with
 | none=>rfl
 | some x=>
  have hm:b∈trk h H:=oP.mpr ⟨eB.mpr (aW e'),by simp[q]⟩
  have z:(R9 h H).get? b=none:=PySem.W.hideAll_none (trk h H) hm
  rw[z] at e;cases e
noncomputable def Aif(g h:Heap)(L:Addr):List (Addr×Obj):=(dS h.objs.size).filterMap fun a=>if a=L\/(g.get? a).isSome=true then none else (h.get? a).map fun o=>(a,o)
noncomputable def rest(g h:Heap)(L d:Addr):List (Addr×Obj):=(Aif g h L).filter fun p=>decide (p.1≠d)
structure Mod(K:aD)(mg:Str->Option aC)(base:Heap):Prop where
 kin:K.In base
 glob:base.Ns bK mg
 blt:∃ mb,base.Ns qH mb/\∀ x:Str,x ≠ "__name__" -> mb x=fX x
 nolimit:base.NoLimit
structure Cx where
 prog:bQ
 w:cC
 K:aD
 mg:Str->Option aC
 base:Heap
 A:cL
 N:List Str
 s₀:aG
 H₀:Hp
 env:Env
 outer:List Env
 stack:List Env
 ex:List Addr
 fn:Str->Bool
 calm:Bool
 pn:List (Addr×Obj)
 xe:aC->aG->Prop
noncomputable def frs(l:List Env):List Addr:=l.filterMap (·.frame)
noncomputable abbrev Cx.fs(X:Cx):List Addr:=frs X.outer
noncomputable def Vis(sc:jX)(x:Str):Prop:=sc.names.lookup x=some .local\/sc.names.lookup x=some .cell\/sc.names.lookup x=some .free
noncomputable def Loc(sc:jX)(x:Str):Prop:=sc.names.lookup x=some .local\/sc.names.lookup x=some .cell
noncomputable def Aqp(env:Env)(h:Heap)(m:Str->Option aC)(x:Str)(u:aC):Prop:=
 (env.kindOf x=some .local/\m x=some u)\/((env.kindOf x=some .cell\/env.kindOf x=some .free)/\∃ c,env.cells.lookup x=some c/\h.IsCell c (some u))
structure Cx.Ok(X:Cx):Prop where
 mod:Mod X.K X.mg X.base
 kind:X.env.scope.kind = .function
 glob:X.env.globals=bK
 blt:X.env.builtins=qH
 above:X.s₀.heap.objs.size<=X.env.locals
 inj:∀ x y c,X.env.cells.lookup x=some c->X.env.cells.lookup y=some c->x=y
 has:∀ x,(X.env.kindOf x=some .cell\/X.env.kindOf x=some .free)->∃ c,X.env.cells.lookup x=some c
 cab:∀ x c,X.fn x=true->X.env.cells.lookup x=some c->X.s₀.heap.objs.size<=c
 hd:X.calm=true->X.A.handled=none
 frames:X.A.frames=some X.stack
 stk:X.stack=X.outer\/(X.stack=X.env::X.outer/\X.env.frame=some X.env.locals)
 exf:∀ b∈X.ex,b≠X.env.locals/\∀ x c,X.env.cells.lookup x=some c->c≠b
 bs:∀ b o,X.base.get? b=some o->X.s₀.heap.get? b=some o/\X.H₀ b=none
 bsz:X.base.objs.size<=X.s₀.heap.objs.size
 noex:∀ b o,X.base.get? b=some o->b∉X.ex
 exfs:∀ b∈X.ex,b∉X.fs
 funs:X.s₀.heap.FunFrames X.base X.outer
 frf:∀ b∈X.fs,X.H₀ b=none
structure Inv(X:Cx)(pins:List (Addr×Obj))(σ:List (Option V))(H:Hp)(s:aG):Prop where
 ok:X.Ok
 os:s.os=X.s₀.os
 bare:mU s.gens
 base:Un X.fs X.ex X.H₀ H X.s₀.heap s.heap
 loc:∃ m,s.heap.Ns X.env.locals m/\∀ (i:Nat) (x:Str) (v:V),X.N[i]? = some x->σ[i]? = some (some v)->Vis X.env.scope x->∃ u,RelV v u/\Aqp X.env s.heap m x u
 cell:∀ x c,X.env.cells.lookup x=some c->∃ v,s.heap.IsCell c v
 free:H X.env.locals=none
 freeC:∀ x c,X.env.cells.lookup x=some c->H c=none
 pin:∀ p∈X.pn++pins,s.heap.get? p.1=some p.2/\H p.1=none/\p.1≠X.env.locals/\p.1∉X.fs/\∀ v,p.2.data≠.cell v
 hok:HOk X.prog X.w H s.heap
 len:σ.length=X.N.length
section
variable {X:Cx}{pins:List (Addr×Obj)}{σ:List (Option V)}{H H':Hp}{s:aG}{h':Heap}
theorem Cx.Ok.nofr(ok:X.Ok){b:Addr}{o:Obj}(e:X.base.get? b=some o):b∉X.fs:=fun hb=>by
 have:=(ok.funs.mem hb).1
 rw[e] at this;cases this
theorem Inv.bs(I:Inv X pins σ H s):∀ b o,X.base.get? b=some o->s.heap.get? b=some o/\H b=none:=fun b o e=>
 ⟨I.base.keep b o (I.ok.bs b o e).1 (I.ok.bs b o e).2 (I.ok.nofr e) (I.ok.noex b o e),I.base.free b o (I.ok.bs b o e).1 (I.ok.bs b o e).2 (I.ok.noex b o e)⟩
theorem Inv.bk(I:Inv X pins σ H s):∀ b o,X.base.get? b=some o->s.heap.get? b=some o:=fun b o e=>(I.bs b o e).1
theorem Inv.mod(I:Inv X pins σ H s):Mod X.K X.mg X.base:=I.ok.mod
theorem Inv.kIn(I:Inv X pins σ H s):X.K.In s.heap:=I.ok.mod.kin.keeps I.bk
theorem Inv.nolimit(I:Inv X pins σ H s):s.heap.NoLimit:=I.ok.mod.nolimit.keeps I.bk
theorem Inv.fr(I:Inv X pins σ H s):∃ m,Fr X.base X.env.locals s.heap m:=
 let ⟨m,hn,_⟩:=I.loc
 ⟨m,hn,I.bk,dN I.ok.bsz I.ok.above⟩
theorem Inv.lt(I:Inv X pins σ H s):X.env.locals < s.heap.objs.size:=let ⟨_,hn,_⟩:=I.loc;hn.lt
theorem Inv.sz(I:Inv X pins σ H s):X.s₀.heap.objs.size<=s.heap.objs.size:=dN I.ok.above (lW I.lt)
theorem Inv.nofs(I:Inv X pins σ H s){a:Addr}(h:s.heap.objs.size<=a):a∉X.fs:=fun hb=>by
 obtain ⟨_,o,ho,_⟩:=I.ok.funs.mem hb
 exact absurd (bE (aW ho) (dN I.sz h)) (dO _)
theorem Inv.cne(I:Inv X pins σ H s):∀ x c,X.env.cells.lookup x=some c->c≠X.env.locals:=fun x c e z=>by
 obtain ⟨v,o,ho,hd⟩:=I.cell x c e
 obtain ⟨m,⟨o',es,ep,ho',hd',_⟩,_⟩:=I.loc
 rw[z,ho'] at ho;cases ho;rw[hd'] at hd;cases hd
theorem Inv.funs(I:Inv X pins σ H s):s.heap.FunFrames X.base X.outer:=by
 have all:∀ (l:List Env),(∀ b∈frs l,b∈X.fs)->X.s₀.heap.FunFrames X.base l->s.heap.FunFrames X.base l:=by
  intro l
  induction l with
  | nil=>intro _ _;trivial
  | cons env r ih=>
   intro hs hl
   obtain ⟨hk,⟨L,o,hf,hn,ho,hd⟩,hr⟩:=hl
   have hL:L∈X.fs:=hs L (by unfold frs;rw[lU,hf];exact cN)
   obtain ⟨sl,e⟩:=I.base.slot L o ho (I.ok.frf L hL) hL fun z=>I.ok.exfs L z hL
   exact ⟨hk,⟨L,_,hf,hn,e,hd⟩,ih (fun b hb=>hs b (by unfold frs;rw[lU,hf];exact bN _ hb)) hr⟩
 exact all X.outer (fun _ hb=>hb) I.ok.funs
theorem Inv.stack(I:Inv X pins σ H s):s.heap.FunFrames X.base X.stack:=by
 rcases I.ok.stk with e | ⟨e,hf⟩
 ·rw[e];exact I.funs
 ·rw[e]
  obtain ⟨m,hn,_⟩:=I.loc
  refine .cons (by rw[I.ok.kind];decide) hf hn ?_ I.funs
  exact Heap.get?_none_of_le (dN I.ok.bsz I.ok.above)
theorem Inv.stkSub(I:Inv X pins σ H s):∀ b∈frs X.stack,b∈X.env.locals::X.fs:=fun b hb=>by
 rcases I.ok.stk with e | ⟨e,hf⟩
 ·rw[e] at hb;exact bN _ hb
 ·rw[e] at hb
  unfold frs at hb
  rw[lU,hf] at hb
  exact hb
theorem Inv.stkFree(I:Inv X pins σ H s):∀ b∈frs X.stack,H b=none:=fun b hb=>by
 rcases cI.mp (I.stkSub b hb) with e | hb
 ·rw[e];exact I.free
 ·obtain ⟨_,o,ho,_⟩:=I.ok.funs.mem hb
  exact I.base.free b o ho (I.ok.frf b hb) fun z=>I.ok.exfs b z hb
theorem Inv.step{g':Array kT}{t':Nat}{d':Drawn}{ch:List Addr}(I:Inv X pins σ H s)
  (hch:∀ b∈ch,(b∈X.ex\/X.s₀.heap.objs.size<=b)/\b≠X.env.locals/\(∀ x c,X.env.cells.lookup x=some c->c≠b)/\∀ p∈X.pn++pins,p.1≠b)
  (keep:∀ b o,b≠X.env.locals->b∉X.fs->b∉ch->s.heap.get? b=some o->H b=none->h'.get? b=some o)
  (slot:∀ b o,b≠X.env.locals->b∈X.fs->b∉ch->s.heap.get? b=some o->H b=none->∃ sl,h'.get? b=some { o with slots:=sl }) (free:∀ b o,b∉ch->s.heap.get? b=some o->H b=none->H' b=none)
  (there:∀ b o,b∉ch->s.heap.get? b=some o->∃ o',h'.get? b=some o')
  (tups:∀ b xs,H b=some (.tup xs)->H' b=some (.tup xs)) (frzs:∀ b o u,H b=some (.frz o u)->H' b=some (.frz o u)) (tbls:∀ b ps,H b=some (.tbl ps)->∃ more,H' b=some (.tbl (ps++more)))
  (ns:∀ m,s.heap.Ns X.env.locals m->h'.Ns X.env.locals m) (hok:HOk X.prog X.w H' h') (hg:mU g') :
  Inv X pins σ H' { s with heap:=h',gens:=g',drawn:=d',toks:=t' }:=by
 have neL:∀ b o,X.s₀.heap.get? b=some o->b≠X.env.locals:=fun b o e=>bY (bE (aW e) I.ok.above)
 have neC:∀ b o,X.s₀.heap.get? b=some o->b∉X.ex->b∉ch:=fun b o e hx hb=>by
  rcases (hch b hb).1 with z | z
  ·exact hx z
  ·exact absurd (bE (aW e) z) (dO _)
 have cellK:∀ x c,X.env.cells.lookup x=some c->∀ v,s.heap.IsCell c v->h'.IsCell c v:=fun x c e v zz=>by
  obtain ⟨o,ho,hd⟩:=zz
  have nch:c∉ch:=fun z=>(hch c z).2.2.1 x c e rfl
  by_cases hc:c∈X.fs
  ·obtain ⟨sl,q⟩:=slot c o (I.cne x c e) hc nch ho (I.freeC x c e)
   exact ⟨_,q,hd⟩
  ·exact ⟨o,keep c o (I.cne x c e) hc nch ho (I.freeC x c e),hd⟩
 refine ⟨I.ok,I.os,hg,⟨fun b o e n hb hx=>?_,fun b o e n hb hx=>?_,fun b o e n hx=>?_,fun b o e hx=>?_,fun b xs e=>tups b xs (I.base.tups b xs e),fun b o xs e=>frzs b o xs (I.base.frzs b o xs e),fun b ps e=>?_⟩,?_,fun x c e=>?_,?_,fun x c e=>?_,fun p hp=>?_,hok,I.len⟩
 ·exact keep b o (neL b o e) hb (neC b o e hx) (I.base.keep b o e n hb hx) (I.base.free b o e n hx)
 ·obtain ⟨sl,e1⟩:=I.base.slot b o e n hb hx
  obtain ⟨sl',e2⟩:=slot b _ (neL b o e) hb (neC b o e hx) e1 (I.base.free b o e n hx)
  exact ⟨sl',e2⟩
 ·obtain ⟨o',e1⟩:=I.base.there b o e hx
  exact free b o' (neC b o e hx) e1 (I.base.free b o e n hx)
 ·obtain ⟨o',e1⟩:=I.base.there b o e hx
  exact there b o' (neC b o e hx) e1
 ·obtain ⟨m1,e1⟩:=I.base.tbls b ps e
  obtain ⟨m2,e2⟩:=tbls b _ e1
  exact ⟨m1++m2,by rw[e2,qG]⟩
 ·obtain ⟨m,hn,hl⟩:=I.loc
  refine ⟨m,ns m hn,fun i x v e1 e2 e3=>?_⟩
  obtain ⟨u,r,l⟩:=hl i x v e1 e2 e3
  refine ⟨u,r,?_⟩
  rcases l with l | ⟨k,c,e,z⟩
  ·exact .inl l
  ·exact .inr ⟨k,c,e,cellK x c e _ z⟩
 ·obtain ⟨v,z⟩:=I.cell x c e
  exact ⟨v,cellK x c e v z⟩
 ·obtain ⟨m,⟨o,_,_,ho,_⟩,_⟩:=I.loc
  exact free _ o (fun z=>(hch _ z).2.1 rfl) ho I.free
 ·obtain ⟨v,o,ho,hd⟩:=I.cell x c e
  exact free c o (fun z=>(hch c z).2.2.1 x c e rfl) ho (I.freeC x c e)
 ·obtain ⟨e,n,ne,nf,d⟩:=I.pin p hp
  have nch:p.1∉ch:=fun z=>(hch p.1 z).2.2.2 p hp rfl
  exact ⟨keep p.1 p.2 ne nf nch e n,free p.1 p.2 nch e n,ne,nf,d⟩
theorem Inv.un{t':Nat}(I:Inv X pins σ H s)(u:Un X.fs [] H H' s.heap h')(hok:HOk X.prog X.w H' h'):Inv X pins σ H' { s with heap:=h',toks:=t' }:=by
 obtain ⟨m,⟨o,es,ep,ho,r⟩,_⟩:=id I.loc
 obtain ⟨sl,hL⟩:=u.any ho I.free (by simp)
 exact I.step (g':=s.gens) (d':=s.drawn) (ch:=[]) (fun _ z=>nomatch z) (fun b o _ hb _ e n=>u.keep b o e n hb (by simp)) (fun b o _ hb _ e n=>u.slot b o e n hb (by simp)) (fun b o _ e n=>u.free b o e n (by simp)) (fun b o _ e=>u.there b o e (by simp)) u.tups u.frzs u.tbls (fun m' hm=>by
  obtain ⟨o',es',ep',ho',r'⟩:=hm
  rw[ho] at ho';cases ho'
  exact ⟨_,es',ep',hL,r'⟩) hok I.bare
theorem Inv.call{g':Array kT}{t':Nat}{d':Drawn}{ch:List Addr}(I:Inv X pins σ H s)(u:Un (frs X.stack) ch H H' s.heap h')(hok:HOk X.prog X.w H' h')(hg:mU g')
  (hch:∀ b∈ch,(b∈X.ex\/X.s₀.heap.objs.size<=b)/\b≠X.env.locals/\(∀ x c,X.env.cells.lookup x=some c->c≠b)/\∀ p∈X.pn++pins,p.1≠b) :
  Inv X pins σ H' { s with heap:=h',gens:=g',drawn:=d',toks:=t' }:=by
 obtain ⟨m,⟨o,es,ep,ho,r⟩,_⟩:=id I.loc
 obtain ⟨sl,hL⟩:=u.any ho I.free fun z=>(hch _ z).2.1 rfl
 exact I.step (ch:=ch) hch (fun b o hL hb hc e n=>u.keep b o e n (fun z=>(cI.mp (I.stkSub b z)).elim hL hb) hc) (fun b o _ _ hc e n=>u.any e n hc) (fun b o hc e n=>u.free b o e n hc) (fun b o hc e=>u.there b o e hc) u.tups u.frzs u.tbls (fun m' hm=>by
  obtain ⟨o',es',ep',ho',r'⟩:=hm
  rw[ho] at ho';cases ho'
  exact ⟨_,es',ep',hL,r'⟩) hok hg
theorem Inv.turned{t':Nat}{it:Addr}(I:Inv X pins σ H s)(k:∀ b o,b≠it->s.heap.get? b=some o->h'.get? b=some o)(hn:H it=none)(hL:it≠X.env.locals)
  (h1:it∈X.ex\/X.s₀.heap.objs.size<=it) (h2:∀ x c,X.env.cells.lookup x=some c->c≠it) (h3:∀ p∈X.pn++pins,p.1≠it):Inv X pins σ H { s with heap:=h',toks:=t' }:=by
 have nit:∀ b u,H b=some u->b≠it:=fun b u e z=>by rw[z,hn] at e;cases e
 refine I.step (g':=s.gens) (d':=s.drawn) (ch:=[it]) (fun b hb=>?_) (fun b o _ _ hc e _=>k b o (fun z=>hc (by simp[z])) e) (fun b o _ _ hc e _=>⟨o.slots,k b o (fun z=>hc (by simp[z])) e⟩) (fun _ _ _ _ n=>n)
  (fun b o hc e=>⟨o,k b o (fun z=>hc (by simp[z])) e⟩) (fun _ _ e=>e) (fun _ _ _ e=>e) (fun b ps e=>⟨#[],by rw[e];simp⟩) (fun m hm=>?_) (fun b u e=>?_) I.bare
 ·have e:b=it:=by simpa using hb
  subst e
  exact ⟨h1,hL,h2,h3⟩
 ·obtain ⟨o,es,ep,ho,r⟩:=hm
  exact ⟨o,es,ep,k _ o (fY hL) ho,r⟩
 ·refine (I.hok b u e).stay (fun c v hc q=>k c v ?_ q) (fun _ q=>q) fun _ _ q=>q
  rcases hc with z | z
  ·rw[z];exact nit b u e
  ·exact nit c _ z
theorem Inv.tok(I:Inv X pins σ H s)(t:Nat):Inv X pins σ H { s with toks:=t }:=I.un (h':=s.heap) (t':=t) Un.refl I.hok
theorem Inv.kept{t':Nat}(I:Inv X pins σ H s)(k:∀ b u,s.heap.get? b=some u->h'.get? b=some u):Inv X pins σ H { s with heap:=h',toks:=t' }:=I.un (Un.kept k) (I.hok.kept k)
theorem Inv.laid{a:Addr}{o:HO}{t':Nat}(I:Inv X pins σ H s)(k:∀ b u,s.heap.get? b=some u->h'.get? b=some u)(hp:s.heap.objs.size<=a)(new:ObjOk X.prog X.w (upd H a o) h' a o) :
  Inv X pins σ (upd H a o) { s with heap:=h',toks:=t' }:=I.un (Un.laid k hp (I.hok.fresh hp)) (I.hok.laid k hp new)
theorem Inv.write{x e:Addr}{o:HO}{t':Nat}(I:Inv X pins σ H s)(mu:Mut (H x))(he:e=x\/H e=some (.own x))(k:∀ b u,b≠e->s.heap.get? b=some u->h'.get? b=some u)(heo:∃ u,h'.get? e=some u)
  (new:ObjOk X.prog X.w (upd H x o) h' x o):Inv X pins σ (upd H x o) { s with heap:=h',toks:=t' }:=I.un (Un.write mu he k heo) (I.hok.write mu he k heo new)
theorem Inv.pins_of{pins':List (Addr×Obj)}(I:Inv X pins σ H s)(h:∀ p∈pins',s.heap.get? p.1=some p.2/\H p.1=none/\p.1≠X.env.locals/\p.1∉X.fs/\∀ v,p.2.data≠.cell v):Inv X pins' σ H s:=
 ⟨I.ok,I.os,I.bare,I.base,I.loc,I.cell,I.free,I.freeC,fun p hp=>(dY.mp hp).elim (fun z=>I.pin p (fO _ z)) (h p),I.hok,I.len⟩
theorem Tn{N:List Str}(hN:N.Nodup){i j:Nat}{x:Str}(a:N[i]? = some x)(b:N[j]? = some x):i=j:=by
 obtain ⟨h1,e1⟩:=aZ.mp a
 obtain ⟨h2,e2⟩:=aZ.mp b
 exact (List.getElem_inj hN).mp (e1.trans e2.symm)
theorem Abl{M:Model}{A:cL}{E:aC->aG->Prop}{i:Nat}{x:Str}{v:V}{u:aC}{Q:Unit->aG->Prop}(I:Inv X pins σ H s)(hN:X.N.Nodup)(hi:X.N[i]? = some x)(hx:Loc X.env.scope x)(r:RelV v u)
  (h:∀ s',Inv X pins (σ.set i (some v)) H s'->(∃ a,iE a s.heap s'.heap/\(a=X.env.locals\/X.env.cells.lookup x=some a))->Q () s') (hf:X.fn x=true\/X.env.scope.names.lookup x=some .local:=by first | exact .inl rfl | exact .inr rfl | assumption):wpAny M A (storeName X.env x u) Q E s:=by
 obtain ⟨m,hn,hl⟩:=id I.loc
 have hcls:(X.env.scope.kind == .class || (X.env.scope.kind == .module&&X.env.locals != X.env.globals))=false:=by rw[I.ok.kind];rfl
 have hiσ:i < σ.length:=by rw[I.len];exact (aZ.mp hi).1
 have cne:=I.cne
 have tracked:∀ {a:Addr} {h':Heap},(∃ o,s.heap.get? a=some o/\H a=none)->iE a s.heap h'->HOk X.prog X.w H h':=fun {a h'} ha hs b ob e=>by
  obtain ⟨_,_,hfree⟩:=ha
  refine (I.hok b ob e).stay (fun c w' hc q=>(hs.2 c ?_).trans q) (fun _ q=>q) fun _ _ q=>q
  rintro rfl
  rcases hc with rfl | hc
  ·rw[hfree] at e;cases e
  ·rw[hfree] at hc;cases hc
 rcases hx with hk | hk
 ·refine wpAny_storeName_local hk hn (fun h' hn' hs=>?_) hcls
  obtain ⟨oL,_,_,hoL,_⟩:=id hn
  refine h _ ⟨I.ok,I.os,I.bare,⟨fun b o e n hb hx=>?_,fun b o e n hb hx=>?_,I.base.free,fun b o e hx=>?_,I.base.tups,I.base.frzs,I.base.tbls⟩,⟨_,hn',fun j y v' e1 e2 e3=>?_⟩,fun y c e=>?_,I.free,I.freeC,fun p hp=>?_,tracked ⟨oL,hoL,I.free⟩ hs,by simpa using I.len⟩ ⟨_,hs,.inl rfl⟩
  ·exact (hs.2 b (bY (bE (aW e) I.ok.above))).trans (I.base.keep b o e n hb hx)
  ·obtain ⟨sl,e1⟩:=I.base.slot b o e n hb hx
   exact ⟨sl,(hs.2 b (bY (bE (aW e) I.ok.above))).trans e1⟩
  ·obtain ⟨o',e1⟩:=I.base.there b o e hx
   exact ⟨o',(hs.2 b (bY (bE (aW e) I.ok.above))).trans e1⟩
  ·by_cases hj:j=i
   ·subst hj
    rw[hi] at e1;cases e1
    rw[cX hiσ] at e2
    cases e2
    exact ⟨u,r,.inl ⟨hk,by simp⟩⟩
   ·rw[cZ (fY hj)] at e2
    obtain ⟨u',r',q⟩:=hl j y v' e1 e2 e3
    refine ⟨u',r',?_⟩
    rcases q with ⟨k,e⟩ | ⟨k,c,e,z⟩
    ·refine .inl ⟨k,?_⟩
     have:y≠x:=fun e=>hj (Tn hN e1 (e ▸ hi))
     simp[this,e]
    ·exact .inr ⟨k,c,e,z.sameBut hs (cne y c e)⟩
  ·obtain ⟨w',z⟩:=I.cell y c e
   exact ⟨w',z.sameBut hs (cne y c e)⟩
  ·obtain ⟨e,n,ne,nf,d⟩:=I.pin p hp
   exact ⟨(hs.2 p.1 ne).trans e,n,ne,nf,d⟩
 ·have hfn:X.fn x=true:=by
   rcases hf with z | z
   ·exact z
   ·rw[z] at hk;cases hk
  obtain ⟨c,hc⟩:=I.ok.has x (.inl hk)
  obtain ⟨w',z⟩:=I.cell x c hc
  refine wpAny_storeName_cell I.ok.kind hk hc z (fun h' hc' hs=>?_)
  obtain ⟨oc,hoc,hocd⟩:=id z
  refine h { s with heap:=h' } ⟨I.ok,I.os,I.bare,⟨fun b o e n hb hx=>?_,fun b o e n hb hx=>?_,I.base.free,fun b o e hx=>?_,I.base.tups,I.base.frzs,I.base.tbls⟩,⟨m,hn.sameBut hs (fY (cne x c hc)),fun j y v' e1 e2 e3=>?_⟩,fun y c' e=>?_,I.free,I.freeC,fun p hp=>?_,tracked ⟨oc,hoc,I.freeC x c hc⟩ hs,by simpa using I.len⟩ ⟨c,hs,.inr hc⟩
  ·exact (hs.2 b (bY (bE (aW e) (I.ok.cab x c hfn hc)))).trans (I.base.keep b o e n hb hx)
  ·obtain ⟨sl,e1⟩:=I.base.slot b o e n hb hx
   exact ⟨sl,(hs.2 b (bY (bE (aW e) (I.ok.cab x c hfn hc)))).trans e1⟩
  ·obtain ⟨o',e1⟩:=I.base.there b o e hx
   exact ⟨o',(hs.2 b (bY (bE (aW e) (I.ok.cab x c hfn hc)))).trans e1⟩
  ·by_cases hj:j=i
   ·subst hj
    rw[hi] at e1;cases e1
    rw[cX hiσ] at e2
    cases e2
    exact ⟨u,r,.inr ⟨.inl hk,c,hc,hc'⟩⟩
   ·rw[cZ (fY hj)] at e2
    obtain ⟨u',r',q⟩:=hl j y v' e1 e2 e3
    refine ⟨u',r',?_⟩
    rcases q with q | ⟨k,c',e,z'⟩
    ·exact .inl q
    ·refine .inr ⟨k,c',e,z'.sameBut hs ?_⟩
     rintro rfl
     exact hj (Tn hN e1 (I.ok.inj _ _ _ e hc ▸ hi))
  ·by_cases hcc:c'=c
   ·subst hcc;exact ⟨_,hc'⟩
   ·obtain ⟨w2,z2⟩:=I.cell y c' e
    exact ⟨w2,z2.sameBut hs hcc⟩
  ·obtain ⟨e,n,ne,nf,d⟩:=I.pin p hp
   refine ⟨(hs.2 p.1 ?_).trans e,n,ne,nf,d⟩
   intro q
   rw[q,hoc] at e
   have q':oc=p.2:=bZ e
   exact d w' (by rw[<- q'];exact hocd)
theorem Uy{M:Model}{A:cL}{E:aC->aG->Prop}{i:Nat}{x:Str}{v:V}{u:aC}{Q:Unit->aG->Prop}(I:Inv X pins σ H s)(hN:X.N.Nodup)(hi:X.N[i]? = some x)(hx:Loc X.env.scope x)(r:RelV v u)
  (h:∀ s',Inv X pins (σ.set i (some v)) H s'->Q () s') (hf:X.fn x=true\/X.env.scope.names.lookup x=some .local:=by first | exact .inl rfl | exact .inr rfl | assumption):wpAny M A (storeName X.env x u) Q E s:=
 Abl I hN hi hx r (fun s' I' _=>h s' I') hf
theorem Inv.call'{s':aG}{ch:List Addr}(I:Inv X pins σ H s)(ho:s'.os=s.os)(u:Un (frs X.stack) ch H H' s.heap s'.heap)(hok:HOk X.prog X.w H' s'.heap)(hg:mU s'.gens)
  (hch:∀ b∈ch,(b∈X.ex\/X.s₀.heap.objs.size<=b)/\b≠X.env.locals/\(∀ x c,X.env.cells.lookup x=some c->c≠b)/\∀ p∈X.pn++pins,p.1≠b):Inv X pins σ H' s':=by
 obtain ⟨h',g',d',t',o'⟩:=s'
 have e:o'=s.os:=ho
 subst e
 exact I.call (g':=g') (t':=t') (d':=d') u hok hg hch
end
abbrev XK:=aC->Option Addr->Hp->Prop
abbrev St:=List (Option V)
abbrev VK:=V->Hp->Prop
abbrev TE:=St->Hp->VK->Prop
abbrev TT:=St->Hp->(Bool->Hp->Prop)->Prop
abbrev TA:=St->Hp->(List V->Hp->Prop)->Prop
structure Ends where
 nx:St->Hp->Prop
 rt:VK
 bk:St->Hp->Prop:=fun _ _=>False
 ct:St->Hp->Prop:=fun _ _=>False
abbrev TS:=Ends->St->Hp->Prop
inductive EP(X:Cx)(pins:List (Addr×Obj))(σ:St)(Q:VK)(u:aC)(s':aG):Prop
 | mk (v:V) (H':Hp) (I:Inv X pins σ H' s') (r:RelV v u) (q:Q v H'):EP X pins σ Q u s'
inductive TP(X:Cx)(pins:List (Addr×Obj))(σ:St)(Q:Bool->Hp->Prop)(b:Bool)(s':aG):Prop
 | mk (H':Hp) (I:Inv X pins σ H' s') (q:Q b H'):TP X pins σ Q b s'
inductive AP(X:Cx)(pins:List (Addr×Obj))(σ:St)(Q:List V->Hp->Prop)(us:List aC)(s':aG):Prop
 | mk (vs:List V) (H':Hp) (I:Inv X pins σ H' s') (r:Vals vs us) (q:Q vs H'):AP X pins σ Q us s'
theorem EP.elim{X:Cx}{pins:List (Addr×Obj)}{σ:St}{Q:VK}{u:aC}{s':aG}{C:Prop}(h:EP X pins σ Q u s')(k:∀ v H',Inv X pins σ H' s'->RelV v u->Q v H'->C):C:=h.rec k
theorem AP.elim{X:Cx}{pins:List (Addr×Obj)}{σ:St}{Q:List V->Hp->Prop}{us:List aC}{s':aG}{C:Prop}(h:AP X pins σ Q us s')(k:∀ vs H',Inv X pins σ H' s'->Vals vs us->Q vs H'->C):C:=h.rec k
noncomputable def SP(X:Cx)(pins:List (Addr×Obj))(D:Ends)(f:Flow)(s':aG):Prop:=
 match f with
 | .next=>∃ σ' H',Inv X pins σ' H' s'/\D.nx σ' H'
 | .brk=>∃ σ' H',Inv X pins σ' H' s'/\D.bk σ' H'
 | .cont=>∃ σ' H',Inv X pins σ' H' s'/\D.ct σ' H'
 | .ret u=>∃ v σ' H',Inv X pins σ' H' s'/\RelV v u/\D.rt v H'
noncomputable def PE(X:Cx)(e:Expr)(t:TE):Prop:=
 ∀ (pins:List (Addr×Obj)) (s:aG) (σ:St) (H:Hp) (Q:VK),Inv X pins σ H s->t σ H Q->wpAny (model X.prog X.w) X.A (eval e X.env) (EP X pins σ Q) X.xe s
noncomputable def PT(X:Cx)(e:Expr)(t:TT):Prop:=
 ∀ (pins:List (Addr×Obj)) (s:aG) (σ:St) (H:Hp) (Q:Bool->Hp->Prop),Inv X pins σ H s->t σ H Q->wpAny (model X.prog X.w) X.A (isTrue e X.env (eval e X.env)) (TP X pins σ Q) X.xe s
noncomputable def PW(X:Cx)(e:Expr)(t:TT):Prop:=
 ∀ (whole:Sem aC) (pins:List (Addr×Obj)) (s:aG) (σ:St) (H:Hp) (Q:Bool->Hp->Prop),Inv X pins σ H s->t σ H Q->wpAny (model X.prog X.w) X.A (isTrue e X.env whole) (TP X pins σ Q) X.xe s
theorem PW.pt{X:Cx}{e:Expr}{t:TT}(h:PW X e t):PT X e t:=h _
noncomputable def PA(X:Cx)(es:List Expr)(t:TA):Prop:=
 ∀ (pos:Pos) (pins:List (Addr×Obj)) (s:aG) (σ:St) (H:Hp) (Q:List V->Hp->Prop),Inv X pins σ H s->t σ H Q->wpAny (model X.prog X.w) X.A (spliced (backTo pos (bP es X.env))) (AP X pins σ Q) X.xe s
noncomputable def PS(X:Cx)(st:Stmt)(t:TS):Prop:=
 ∀ (pins:List (Addr×Obj)) (s:aG) (σ:St) (H:Hp) (D:Ends),Inv X pins σ H s->t D σ H->wpAny (model X.prog X.w) X.A (exec st X.env) (SP X pins D) X.xe s
noncomputable def PSs(X:Cx)(st:List Stmt)(t:TS):Prop:=
 ∀ (pins:List (Addr×Obj)) (s:aG) (σ:St) (H:Hp) (D:Ends),Inv X pins σ H s->t D σ H->wpAny (model X.prog X.w) X.A (execs st X.env) (SP X pins D) X.xe s
theorem thn{α:Type}{t:Sem α}{Q Q':α->aG->Prop}{M:Model}{A:cL}{E:aC->aG->Prop}{s:aG}(h:wpAny M A t Q E s)(hQ:∀ a s,Q a s->Q' a s):wpAny M A t Q' E s:=eL h hQ fun _ _ x=>x
section
variable {X:Cx}
noncomputable def Apn(i:Nat):TE:=fun σ H Q=>∃ v,σ[i]? = some (some v)/\Q v H
noncomputable def tC(v:V):TE:=fun _ H Q=>Q v H
theorem Ad8{i:Nat}{x:Str}{pos:Pos}(hN:X.N[i]? = some x)(hv:Vis X.env.scope x)(hd:(x == ("__debug__" : Str))=false:=by decide)(hcd:(x == ("__classdict__" : Str))=false:=by decide):PE X (.Name x pos) (Apn i):=by
 intro pins s σ H Q I h
 obtain ⟨v,e,h⟩:=h
 obtain ⟨m,hn,hl⟩:=I.loc
 obtain ⟨u,r,l⟩:=hl i x v hN e hv
 have fin:EP X pins σ Q u s:=⟨v,H,I,r,h⟩
 rcases l with ⟨hk,hm⟩ | ⟨hk,c,hc,hcell⟩
 ·exact sX (wpAny_loadName_local I.ok.kind hk hn hm fin) hd
 ·rcases hk with hk | hk
  ·exact sX (wpAny_loadName_cell I.ok.kind hk hc hcell fin) hd
  ·exact sX (wpAny_loadName_free I.ok.kind hk hc hcell fin hcd) hd
theorem Afp{i j pos}:PE X (.Constant (.int i) j pos) (tC (.int i)):=fun _ _ _ H _ I h=>wpAny_Constant_int ⟨.int i,H,I.tok _,⟨_,rfl⟩,h⟩
theorem Ao8{b j pos}:PE X (.Constant (.bool b) j pos) (tC (.bl b)):=fun _ _ _ H _ I h=>Constant_bool ⟨.bl b,H,I,rfl,h⟩
theorem Amr{j pos}:PE X (.Constant .none j pos) (tC .non):=fun _ _ _ H _ I h=>Constant_none ⟨.non,H,I,rfl,h⟩
theorem Amc{x j pos}:PE X (.Constant (.str x) j pos) (tC (.str x)):=fun _ _ _ H _ I h=>Calls.Constant_str ⟨.str x,H,I.tok _,⟨_,rfl⟩,h⟩
noncomputable def Gl(X:Cx)(x:Str):Prop:=X.env.kindOf x=some .globalImplicit
theorem Ke{E:aC->aG->Prop}{pins:List (Addr×Obj)}{s:aG}{σ:St}{H:Hp}{x:Str}{u:aC}{pos:Pos}{Q:aC->aG->Prop}(I:Inv X pins σ H s)(hg:Gl X x)(hm:X.mg x=some u)(h:Q u s)
  (hd:(x == ("__debug__" : Str))=false:=by decide):wpAny (model X.prog X.w) X.A (eval (.Name x pos) X.env) Q E s:=
 mE I.ok.kind hg (Calls.loadGlobal_global (by rw[I.ok.glob];exact I.mod.glob.keeps I.bk) hm h) hd
theorem Iu{E:aC->aG->Prop}{pins:List (Addr×Obj)}{s:aG}{σ:St}{H:Hp}{x:Str}{u:aC}{pos:Pos}{Q:aC->aG->Prop}(I:Inv X pins σ H s)(hg:Gl X x)(hm:X.mg x=none)(hv:fX x=some u)(h:Q u s)
  (hn:x ≠ "__name__" := by decide) (hd:(x == ("__debug__" : Str))=false:=by decide):wpAny (model X.prog X.w) X.A (eval (.Name x pos) X.env) Q E s:=by
 obtain ⟨mb,h1,h2⟩:=I.mod.blt
 exact mE I.ok.kind hg (Calls.loadGlobal_builtin (by rw[I.ok.glob];exact I.mod.glob.keeps I.bk) hm (by rw[I.ok.blt];exact h1.keeps I.bk) ((h2 x hn).trans hv) h) hd
theorem Aid{x:Str}{v:V}{u:aC}{pos:Pos}(hg:Gl X x)(hm:X.mg x=some u)(r:RelV v u)(hd:(x == ("__debug__" : Str))=false:=by decide):PE X (.Name x pos) (tC v):=
 fun _ _ _ H _ I h=>Ke I hg hm ⟨v,H,I,r,h⟩ hd
variable {a b:Expr}{ta tb:TE}{pos:Pos}
variable {tA tB':TT}{rest:List Expr}
noncomputable def Ap8(t u:TT):TT:=fun σ H Q=>t σ H fun c H1=>if c=true then u σ H1 Q else Q false H1
noncomputable def tOr(t u:TT):TT:=fun σ H Q=>t σ H fun c H1=>if c=true then Q true H1 else u σ H1 Q
theorem Ah8(ha:PT X a tA):PW X (.BoolOp .And [a] pos) tA:=by
 intro wh pins s σ H Q I h
 refine isTrue_and (thn (ha pins s σ H Q I h) fun c s1 e=>?_)
 cases c with
 | true=>exact isTrue_and_nil e
 | false=>exact e
theorem Al9(ha:PT X a tA):PW X (.BoolOp .Or [a] pos) tA:=by
 intro wh pins s σ H Q I h
 refine isTrue_or (thn (ha pins s σ H Q I h) fun c s1 e=>?_)
 cases c with
 | false=>exact isTrue_or_nil e
 | true=>exact e
theorem Al6(ha:PT X a tA)(hb:PW X (.BoolOp .And (b::rest) pos) tB'):PW X (.BoolOp .And (a::b::rest) pos) (Ap8 tA tB'):=by
 intro wh pins s σ H Q I h
 refine isTrue_and (thn (ha pins s σ H _ I h) fun c s1 zz=>?_)
 obtain ⟨H1,I1,q1⟩:=zz
 cases c with
 | true=>exact hb wh pins s1 σ H1 Q I1 q1
 | false=>exact ⟨H1,I1,q1⟩
theorem Apb(ha:PT X a tA)(hb:PW X (.BoolOp .Or (b::rest) pos) tB'):PW X (.BoolOp .Or (a::b::rest) pos) (tOr tA tB'):=by
 intro wh pins s σ H Q I h
 refine isTrue_or (thn (ha pins s σ H _ I h) fun c s1 zz=>?_)
 obtain ⟨H1,I1,q1⟩:=zz
 cases c with
 | true=>exact ⟨H1,I1,q1⟩
 | false=>exact hb wh pins s1 σ H1 Q I1 q1
noncomputable def Aoa(ta tb:TE):TE:=fun σ H Q=>ta σ H fun x H1=>∃ c,x = .bl c/\if c=true then tb σ H1 Q else Q (.bl false) H1
theorem Alz{op}{t:TE}(h:PE X a t):PE X (.BoolOp op [a] pos) t:=fun pins s σ H Q I hw=>BoolOp_one (h pins s σ H Q I hw)
theorem Akz(ha:PE X a ta)(hb:PE X (.BoolOp .And (b::rest) pos) tb):PE X (.BoolOp .And (a::b::rest) pos) (Aoa ta tb):=by
 intro pins s σ H Q I h
 refine BoolOp_and (thn (ha pins s σ H _ I h) fun v s1 zz=>?_)
 obtain ⟨x,H1,I1,r1,q1⟩:=zz
 obtain ⟨c,rfl,q1⟩:=q1
 cases r1
 refine iL ?_
 cases c with
 | true=>exact hb pins s1 σ H1 Q I1 q1
 | false=>exact ⟨.bl false,H1,I1,rfl,q1⟩
end
noncomputable def SqL(K:aD)(H:Hp)(a:Addr)(xs:List V):Prop:=
 Rd H a (.lst xs) \/
  ∃ (o:Obj) (its:Array aC) (n:Nat),K.lookup a=some o/\o.cls = .type "list" /\ o.dict=none/\o.data = .seq its n/\its.size<=sizeLine/\Vals xs its.toList
noncomputable def SqT(K:aD)(H:Hp)(a:Addr)(xs:List V):Prop:=
 Rd H a (.tup xs) \/
  ∃ (o:Obj) (its:Array aC) (n:Nat),K.lookup a=some o/\(o.cls,o.dict)=(eV "tuple",(none:Option Addr))/\o.data = .seq its n/\its.size<=sizeLine/\Vals xs its.toList
noncomputable def Are:aC->Option V
 | .none=>some .non
 | .bool b=>some (.bl b)
 | .int i _=>some (.int i)
 | .str x _=>some (.str x)
 | .bytes b _=>some (.byt b)
 | .float b _=>some (.flt b)
 | .ref a=>some (.ref a)
 | .type n=>some (.ty n)
 | _=>none
theorem RelV.abs{x:V}{u:aC}(r:RelV x u):Are u=some x:=by
 cases x with
 | non=>cases r;rfl
 | bl _=>cases r;rfl
 | int _=>obtain ⟨t,rfl⟩:=r;rfl
 | str _=>obtain ⟨t,rfl⟩:=r;rfl
 | byt _=>obtain ⟨t,rfl⟩:=r;rfl
 | flt _=>obtain ⟨t,rfl⟩:=r;rfl
 | ref _=>cases r;rfl
 | ty _=>cases r;rfl
theorem RelV.inj{x y:V}{u:aC}(r:RelV x u)(q:RelV y u):x=y:=bZ (r.abs.symm.trans q.abs)
theorem Vals.inj{xs ys:List V}{us:List aC}(h:Vals xs us)(h':Vals ys us):xs=ys:=by
 induction h generalizing ys with
 | nil=>cases h';rfl
 | cons r t ih=>
  cases h' with
  | cons r' t'=>rw[r.inj r',ih t']
section
variable {X:Cx}{pins:List (Addr×Obj)}{σ:St}{H:Hp}{s:aG}{a:Addr}{xs ys:List V}
theorem SqL.of{K:aD}(h:H a=some (.lst xs)):SqL K H a xs:=.inl (.inl h)
theorem SqT.of{K:aD}(h:H a=some (.tup xs)):SqT K H a xs:=.inl (.inl h)
theorem Inv.list(I:Inv X pins σ H s)(h:SqL X.K H a xs):∃ its:List aC,Vals xs its/\PlainL s.heap a its.toArray/\xs.length<=sizeLine:=by
 rcases h with h | ⟨o,its,n,hk,hc,hd,hs,hz,r⟩
 ·obtain ⟨z,its,n,r,e⟩:=h.ok I.hok
  exact ⟨its,r,⟨_,n,e,rfl,rfl,rfl⟩,z⟩
 ·refine ⟨its.toList,r,⟨o,n,I.kIn a o hk,hc,hd,by simpa using hs⟩,?_⟩
  have e:=r.length
  simp only[cF] at e
  omega
theorem Inv.tupleN(I:Inv X pins σ H s)(h:SqT X.K H a xs):∃ its:List aC,Vals xs its/\TupN s.heap a its.toArray/\xs.length<=sizeLine:=by
 rcases h with h | ⟨o,its,n,hk,hc,hs,hz,r⟩
 ·obtain ⟨z,its,r,p⟩:=h.ok I.hok
  exact ⟨its,r,p,z⟩
 ·refine ⟨its.toList,r,⟨o,I.kIn a o hk,hc,n,by simpa using hs⟩,?_⟩
  have e:=r.length
  simp only[cF] at e
  omega
theorem Inv.tuple(I:Inv X pins σ H s)(h:SqT X.K H a xs):∃ its:List aC,Vals xs its/\IsTup s.heap a its.toArray/\xs.length<=sizeLine:=by
 obtain ⟨its,r,p,z⟩:=I.tupleN h
 exact ⟨its,r,p.is,z⟩
theorem Inv.list_inj(I:Inv X pins σ H s)(h:SqL X.K H a xs)(h':SqL X.K H a ys):xs=ys:=by
 obtain ⟨its,r,⟨o,n,e,_,_,d⟩,_⟩:=I.list h
 obtain ⟨its',r',⟨o',n',e',_,_,d'⟩,_⟩:=I.list h'
 rw[e] at e';cases e'
 rw[d] at d'
 injection d' with d1 _
 have:its=its':=by simpa using congrArg yC d1
 subst this
 exact r.inj r'
theorem Inv.tuple_inj(I:Inv X pins σ H s)(h:SqT X.K H a xs)(h':SqT X.K H a ys):xs=ys:=by
 obtain ⟨its,r,⟨o,e,_,n,d⟩,_⟩:=I.tuple h
 obtain ⟨its',r',⟨o',e',_,n',d'⟩,_⟩:=I.tuple h'
 rw[e] at e';cases e'
 rw[d] at d'
 injection d' with d1 _
 have:its=its':=by simpa using congrArg yC d1
 subst this
 exact r.inj r'
end
abbrev Cx.wish(X:Cx)(E:aC->aG->Prop):Cx:={ X with xe:=E }
abbrev Cx.nox(X:Cx):Cx:=X.wish fun _ _=>False
theorem Cx.Ok.wish{X:Cx}(ok:X.Ok)(E:aC->aG->Prop):(X.wish E).Ok:=
 ⟨ok.mod,ok.kind,ok.glob,ok.blt,ok.above,ok.inj,ok.has,ok.cab,ok.hd,ok.frames,ok.stk,ok.exf,ok.bs,ok.bsz,ok.noex,ok.exfs,ok.funs,ok.frf⟩
theorem Cx.Ok.unwish{X:Cx}{E:aC->aG->Prop}(ok:(X.wish E).Ok):X.Ok:=
 ⟨ok.mod,ok.kind,ok.glob,ok.blt,ok.above,ok.inj,ok.has,ok.cab,ok.hd,ok.frames,ok.stk,ok.exf,ok.bs,ok.bsz,ok.noex,ok.exfs,ok.funs,ok.frf⟩
section
variable {X:Cx}{pins:List (Addr×Obj)}{σ:St}{H:Hp}{s:aG}{E:aC->aG->Prop}
theorem Inv.wish(I:Inv X pins σ H s)(E:aC->aG->Prop):Inv (X.wish E) pins σ H s:=⟨I.ok.wish E,I.os,I.bare,I.base,I.loc,I.cell,I.free,I.freeC,I.pin,I.hok,I.len⟩
theorem Inv.unwish(I:Inv (X.wish E) pins σ H s):Inv X pins σ H s:=⟨I.ok.unwish,I.os,I.bare,I.base,I.loc,I.cell,I.free,I.freeC,I.pin,I.hok,I.len⟩
theorem SP.unwish{D:Ends}{f:Flow}{s':aG}(h:SP (X.wish E) pins D f s'):SP X pins D f s':=by
 cases f with
 | next=>obtain ⟨σ',H',I,q⟩:=h;exact ⟨σ',H',I.unwish,q⟩
 | brk=>obtain ⟨σ',H',I,q⟩:=h;exact ⟨σ',H',I.unwish,q⟩
 | cont=>obtain ⟨σ',H',I,q⟩:=h;exact ⟨σ',H',I.unwish,q⟩
 | ret u=>obtain ⟨v,σ',H',I,r,q⟩:=h;exact ⟨v,σ',H',I.unwish,r,q⟩
theorem PE.nox{e:Expr}{t:TE}(h:PE X.nox e t):PE X e t:=fun pins s σ H Q I hw=>
 eL (h pins s σ H Q (I.wish _) hw) (fun _ _ zz=>by obtain ⟨v,H',I',r,q⟩:=zz;exact ⟨v,H',I'.unwish,r,q⟩) fun _ _ z=>dH z
theorem PT.nox{e:Expr}{t:TT}(h:PT X.nox e t):PT X e t:=fun pins s σ H Q I hw=>
 eL (h pins s σ H Q (I.wish _) hw) (fun _ _ zz=>by obtain ⟨H',I',q⟩:=zz;exact ⟨H',I'.unwish,q⟩) fun _ _ z=>dH z
theorem PSs.nox{st:List Stmt}{t:TS}(h:PSs X.nox st t):PSs X st t:=fun pins s σ H D I hw=>
 eL (h pins s σ H D (I.wish _) hw) (fun _ _ q=>q.unwish) fun _ _ z=>dH z
end
section
variable {X:Cx}{st:Stmt}{rest:List Stmt}{t u:TS}{e:Expr}{te:TE}{pos:Pos}
noncomputable def Aop:TS:=fun D σ H=>D.nx σ H
noncomputable def Aqj(t u:TS):TS:=fun D σ H=>t { D with nx:=u D } σ H
theorem Agu:PSs X [] Aop:=fun _ _ σ H _ I h=>lH ⟨σ,H,I,h⟩
theorem Ace(h1:PS X st t)(h2:PSs X rest u):PSs X (st::rest) (Aqj t u):=by
 intro pins s σ H D I h
 refine rT (thn (h1 pins s σ H { D with nx:=u D } I h) fun f s1 q=>?_)
 cases f with
 | next=>
  obtain ⟨σ',H',I',q⟩:=q
  exact h2 pins s1 σ' H' D I' q
 | ret v=>exact q
 | brk=>exact q
 | cont=>exact q
theorem Ags(h1:PS X st t):PSs X [st] t:=by
 intro pins s σ H D I h
 refine rT (thn (h1 pins s σ H D I h) fun f s1 q=>?_)
 cases f with
 | next=>exact lH q
 | ret v=>exact q
 | brk=>exact q
 | cont=>exact q
theorem Inv.quiet{pins:List (Addr×Obj)}{σ:St}{H:Hp}{s:aG}(I:Inv X pins σ H s):interactive X.env=false:=by simp[interactive,I.ok.kind]
noncomputable def Ao5(te:TE):TS:=fun D σ H=>te σ H fun _ H1=>D.nx σ H1
theorem Ah5(he:PE X e te)(hs:swapsWith e none pos.line X.env=pure false:=by rfl):PS X (.Expr e pos) (Ao5 te):=by
 intro pins s σ H D I h
 exact wpAny_Expr_any (thn (he pins s σ H _ I h) fun v s1 zz=>by obtain ⟨x,H1,I1,r1,q1⟩:=zz;exact ⟨σ,H1,I1,q1⟩) I.quiet hs
noncomputable def Aqq(te:TE):TS:=fun D σ H=>te σ H D.rt
theorem Alp(he:PE X e te):PS X (.Return (some e) pos) (Aqq te):=by
 intro pins s σ H D I h
 exact wpAny_Return_some (thn (he pins s σ H _ I h) fun v s1 zz=>by obtain ⟨x,H1,I1,r1,q1⟩:=zz;exact ⟨x,σ,H1,I1,r1,q1⟩)
noncomputable def Aq8(c:TT)(t u:TS):TS:=fun D σ H=>c σ H fun b H1=>if b=true then t D σ H1 else u D σ H1
theorem Apq{c:Expr}{a b:List Stmt}{tc:TT}(hc:PT X c tc)(ha:PSs X a t)(hb:PSs X b u):PS X (.If c a b pos) (Aq8 tc t u):=by
 intro pins s σ H D I h
 refine wpAny_If (thn (hc pins s σ H _ I h) fun d s1 zz=>?_)
 obtain ⟨H1,I1,q1⟩:=zz
 cases d with
 | true=>exact ha pins s1 σ H1 D I1 q1
 | false=>exact hb pins s1 σ H1 D I1 q1
noncomputable def Ak7:TS:=fun _ _ _=>False
theorem Acu:PS X st Ak7:=fun _ _ _ _ _ _ h=>h.elim
end
abbrev TG:=V->St->Hp->(St->Hp->Prop)->Prop
abbrev TGs:=List V->St->Hp->(St->Hp->Prop)->Prop
noncomputable def PG(X:Cx)(target:Expr)(t:TG):Prop:=
 ∀ (pins:List (Addr×Obj)) (s:aG) (σ:St) (H:Hp) (v:V) (u:aC) (Q:St->Hp->Prop),Inv X pins σ H s->RelV v u->t v σ H Q ->
  wpAny (model X.prog X.w) X.A (assign target X.env u) (fun _ s'=>∃ σ' H',Inv X pins σ' H' s'/\Q σ' H') X.xe s
noncomputable def PGs(X:Cx)(ts:List Expr)(t:TGs):Prop:=
 ∀ (pins:List (Addr×Obj)) (s:aG) (σ:St) (H:Hp) (vs:List V) (us:List aC) (Q:St->Hp->Prop),Inv X pins σ H s->Vals vs us->t vs σ H Q ->
  wpAny (model X.prog X.w) X.A (assignInOrder ((assignEach ts X.env).map (·.2)) us) (fun _ s'=>∃ σ' H',Inv X pins σ' H' s'/\Q σ' H') X.xe s
abbrev Amw:=V->V->V->Hp->(Hp->Prop)->Prop
noncomputable def Apf(X:Cx)(t:Amw):Prop:=
 ∀ (pins:List (Addr×Obj)) (s:aG) (σ:St) (H:Hp) (o i v:V) (ov iv u:aC) (Q:Hp->Prop),Inv X pins σ H s->RelV o ov->RelV i iv->RelV v u->t o i v H Q ->
  wpAny (model X.prog X.w) X.A (setItem ov iv u) (fun _ s'=>∃ H',Inv X pins σ H' s'/\Q H') X.xe s
section
variable {X:Cx}{pos:Pos}
noncomputable def Ajt(i:Nat):TG:=fun v σ H Q=>Q (σ.set i (some v)) H
theorem Ajk{i:Nat}{x:Str}(hN:X.N.Nodup)(hi:X.N[i]? = some x)(hx:Loc X.env.scope x)(hf:X.fn x=true\/X.env.scope.names.lookup x=some .local:=by first | exact .inl rfl | exact .inr rfl | assumption):PG X (.Name x pos) (Ajt i):=by
 intro pins s σ H v u Q I r h
 exact wpAny_assign_Name (Uy I hN hi hx r (fun s' I'=>⟨_,H,I',h⟩) hf)
noncomputable def gNil:TGs:=fun vs σ H Q=>vs=[]/\Q σ H
noncomputable def gCons(t:TG)(u:TGs):TGs:=fun vs σ H Q=>∃ v r,vs=v::r/\t v σ H fun σ' H'=>u r σ' H' Q
theorem Ail:PGs X [] gNil:=by
 intro pins s σ H vs us Q I r h
 obtain ⟨e,h⟩:=h
 subst e
 cases r
 exact assignInOrder_nil ⟨σ,H,I,h⟩
theorem Afx{e:Expr}{es:List Expr}{t:TG}{u:TGs}(h1:PG X e t)(h2:PGs X es u)
  (hs:(assignEach (e::es) X.env).map (·.2)=assign e X.env::(assignEach es X.env).map (·.2):=by rfl):PGs X (e::es) (gCons t u):=by
 intro pins s σ H vs us Q I r h
 obtain ⟨v,vr,e1,h⟩:=h
 subst e1
 cases r with
 | cons r rr=>
  rw[hs]
  refine assignInOrder_cons (thn (h1 pins s σ H _ _ _ I r h) fun _ s1 zz=>?_)
  obtain ⟨σ1,H1,I1,q1⟩:=zz
  exact h2 pins s1 σ1 H1 _ _ Q I1 rr q1
noncomputable def gTup(K:aD)(n:Nat)(t:TGs):TG:=fun v σ H Q=>∃ a xs,v = .ref a/\SqT K H a xs/\xs.length=n/\t xs σ H Q
theorem Amz{es:List Expr}{k:Nat}{t:TGs}{n:Nat}(hc:X.calm=true)(h:PGs X es t)
  (hn:(assignEach es X.env).length=n:=by rfl) (hst:(assignEach es X.env).findIdx? (·.1)=none:=by rfl):PG X (.Tuple es k pos) (gTup X.K n t):=by
 intro pins s σ H v u Q I r hw
 obtain ⟨a,xs,e1,hq,hl,hw⟩:=hw
 subst e1
 cases r
 obtain ⟨its,rv,ht,hz⟩:=I.tuple hq
 refine assign_Tuple_tuple (I.ok.hd hc) ht (by simp[hn,<- hl,rv.length]) hst fun h' hx=>?_
 have I1:Inv X pins σ H { s with heap:=h' }:=I.kept (t':=s.toks) fun b o e=>hx b o (bY (aW e)) e
 exact h pins _ σ H xs _ Q I1 (by simpa using rv) hw
noncomputable def gSub(to ti:TE)(t:Amw):TG:=fun v σ H Q=>to σ H fun o H1=>ti σ H1 fun i H2=>t o i v H2 fun H3=>Q σ H3
theorem Akv{o i:Expr}{to ti:TE}{t:Amw}(ho:PE X o to)(hi:PE X i ti)(hs:Apf X t)
  (ha:∀ v,assign (.Subscript o i pos) X.env v=(do
   let ov <- holding [v] (eval o X.env)
   let iv <- holding [v,ov] (eval i X.env)
   standAt pos
   holding [v,ov,iv] (setItem ov iv v)
   release [v,ov,iv] []):=by intro _;rfl):PG X (.Subscript o i pos) (gSub to ti t):=by
 intro pins s σ H v u Q I r h
 rw[ha]
 refine aB (eG (thn (ho pins s σ H _ I h) fun ov s1 zz=>?_))
 obtain ⟨x,H1,I1,r1,q1⟩:=zz
 refine aB (eG (thn (hi pins s1 σ H1 _ I1 q1) fun iv s2 zz=>?_))
 obtain ⟨y,H2,I2,r2,q2⟩:=zz
 refine aB (nI (aB (eG (thn (hs pins s2 σ H2 x y v ov iv u _ I2 r1 r2 r q2) fun _ s3 zz=>?_))))
 obtain ⟨H3,I3,q3⟩:=zz
 exact wpAny_release ⟨σ,H3,I3,q3⟩
noncomputable def An9(te:TE)(g:TG):TS:=fun D σ H=>te σ H fun x H1=>g x σ H1 D.nx
theorem Al8{tg e:Expr}{te:TE}{g:TG}(he:PE X e te)(hg:PG X tg g)(hs:swapsWithSole [tg] e pos.line X.env=pure false:=by rfl)(hw:swappedStores [tg] e X.env=pure none:=by rfl)
  (h1:(assignEach [tg] X.env).map (·.2)=[assign tg X.env]:=by rfl):PS X (.Assign [tg] e pos) (An9 te g):=by
 intro pins s σ H D I h
 refine wpAny_Assign_stores (thn (he pins s σ H _ I h) fun v s1 zz=>zz.elim fun x H1 I1 r1 q1=>?_) hs hw
 rw[h1]
 exact thn (hg pins s1 σ H1 x v _ I1 r1 q1) fun _ s2 q=>q
theorem Ang{i:Nat}{x:Str}{e:Expr}{te:TE}{pos':Pos}(hN:X.N.Nodup)(hi:X.N[i]? = some x)(hx:Loc X.env.scope x)(he:PE X e te)(hs:swapsWith e (some (.Name x pos')) pos.line X.env=pure false:=by rfl)(hf:X.fn x=true\/X.env.scope.names.lookup x=some .local:=by first | exact .inl rfl | exact .inr rfl | assumption) :
  PS X (.Assign [.Name x pos'] e pos) (An9 te (Ajt i)):=by
 intro pins s σ H D I h
 refine wpAny_Assign_Name (thn (he pins s σ H _ I h) fun v s1 zz=>zz.elim fun y H1 I1 r1 q1=>?_) hs
 exact Uy I1 hN hi hx r1 (fun s2 I2=>⟨_,H1,I2,q1⟩) hf
end
section
variable {X:Cx}{pos:Pos}
noncomputable def Alv(c:TT)(tb:TS):TS:=fun D σ H=>∃ W:Nat->St->Hp->Prop,(∃ m,W m σ H)/\∀ m σ H,W m σ H ->
 c σ H fun b H1=>if b=true then ∃ N:St->Hp->Prop,(∀ σ' H',N σ' H'->∃ m',m' < m/\W m' σ' H')/\tb { D with nx:=N,ct:=N,bk:=D.nx } σ H1 else D.nx σ H1
theorem Afh{c:Expr}{body:List Stmt}{tc:TT}{tb:TS}(hp:rV (model X.prog X.w) X.A X.env X.xe)(hc:PT X c tc)(hb:PSs X body tb):PS X (.While c body [] pos) (Alv tc tb):=by
 intro pins s σ H D I h
 obtain ⟨W,⟨m0,w0⟩,turn⟩:=h
 refine wpAny_While (codeAny_whileLoop (fun n s'=>∃ σ' H',Inv X pins σ' H' s'/\W n σ' H') ?_ m0 ⟨σ,H,I,w0⟩)
 rintro n s1 ⟨σ1,H1,I1,w1⟩
 refine gR hp (thn (hc pins s1 σ1 H1 _ I1 (turn n σ1 H1 w1)) fun b s2 zz=>?_)
 obtain ⟨H2,I2,q2⟩:=zz
 cases b with
 | true=>
  obtain ⟨N,hN,q2⟩:=q2
  rw[if_pos rfl]
  refine gR hp (thn (hb pins s2 σ1 H2 _ I2 q2) fun f s3 q3=>?_)
  cases f with
  | next=>
   obtain ⟨σ3,H3,I3,n3⟩:=q3
   obtain ⟨m',hm,w3⟩:=hN σ3 H3 n3
   exact ⟨m',hm,σ3,H3,I3,w3⟩
  | cont=>
   obtain ⟨σ3,H3,I3,n3⟩:=q3
   obtain ⟨m',hm,w3⟩:=hN σ3 H3 n3
   exact ⟨m',hm,σ3,H3,I3,w3⟩
  | brk=>exact q3
  | ret v=>exact q3
 | false=>
  rw[if_neg fJ]
  exact lH ⟨σ1,H2,I2,q2⟩
end
structure It where
 go:Nat->Hp->Prop
 yld:Nat->Hp->V->Hp->Prop
 stop:Nat->Hp->Prop
noncomputable def Ig(X:Cx)(pins:List (Addr×Obj))(H:Hp)(b:Addr):Prop:=
 H b=none/\b≠X.env.locals/\b∉X.fs/\(b∈X.ex\/X.s₀.heap.objs.size<=b)/\(∀ x c,X.env.cells.lookup x=some c->c≠b)/\∀ p∈X.pn++pins,p.1≠b
theorem Inv.fpOk{X:Cx}{pins:List (Addr×Obj)}{σ:St}{H H':Hp}{s:aG}{b:Addr}(I:Inv X pins σ H s)(hb:s.heap.objs.size<=b)(hn:H' b=none):Ig X pins H' b:=by
 refine ⟨hn,fZ (bE I.lt hb),I.nofs hb,.inr (dN I.sz hb),fun x c e z=>?_,fun p hp z=>?_⟩
 ·obtain ⟨v,q⟩:=I.cell x c e
  exact absurd (bE q.lt (by rw[z];exact hb)) (dO _)
 ·exact absurd (bE (aW (I.pin p hp).1) (by rw[z];exact hb)) (dO _)
structure Turn(P:bQ)(w:cC)(K:aD)(tg:Expr)(J:It)(fp:List Addr)(it:Addr)(tn:Nat->Heap->Prop):Prop where
 mem:it∈fp
 obj:∀ i h,tn i h->∀ b∈fp,∃ o,h.get? b=some o/\∀ v,o.data≠.cell v
 keep:∀ i h h',tn i h->(∀ b∈fp,∀ o,h.get? b=some o->h'.get? b=some o)->tn i h'
 item:∀ (X:Cx),X.prog=P->X.w=w->X.K=K->X.calm=true->∀ (i:Nat) (pins:List (Addr×Obj)) (s:aG) (σ:St) (H:Hp) (E:aC->aG->Prop),Inv X pins σ H s->(∀ b∈fp,Ig X pins H b)->tn i s.heap->J.go i H ->
  wpAny (model P w) X.A (pyNext (.ref it)) (fun r s1=>∃ u,r=some u /\
   wpAny (model P w) X.A (letOwnedTupleGo tg (.ref it) u) (fun _ s2=>∃ x H',Inv X pins σ H' s2/\RelV x u/\J.yld i H x H'/\tn (i+1) s2.heap/\∀ b∈fp,H' b=none) E s1) E s
 done:∀ (X:Cx),X.prog=P->X.w=w->X.K=K->X.calm=true->∀ (i:Nat) (pins:List (Addr×Obj)) (s:aG) (σ:St) (H:Hp) (E:aC->aG->Prop),Inv X pins σ H s->(∀ b∈fp,Ig X pins H b)->tn i s.heap->J.stop i H ->
  wpAny (model P w) X.A (pyNext (.ref it)) (fun r s1=>r=none/\Inv X pins σ H s1) E s
 self:∀ (A:cL) (i:Nat) (s:aG) (Q:aC->aG->Prop) (E:aC->aG->Prop),tn i s.heap->Q (.ref it) s->wpAny (model P w) A (pyIter (.ref it)) Q E s
abbrev TI:=St->Hp->(It->Hp->Prop)->Prop
inductive PIE(X:Cx)(pins:List (Addr×Obj))(σ:St)(tg:Expr)(R:It->Hp->Prop)(itv:aC)(s2:aG):Prop
 | mk (it:Addr) (fp:List Addr) (tn:Nat->Heap->Prop) (J:It) (H':Hp) (h0:itv = .ref it) (h1:Inv X pins σ H' s2) (h2:Turn X.prog X.w X.K tg J fp it tn) (h3:tn 0 s2.heap) (h4:(∀ b∈fp,Ig X pins H' b)) (h5:R J H'):PIE X pins σ tg R itv s2
noncomputable def PI(X:Cx)(tg iter:Expr)(wi:TI):Prop:=
 ∀ (pins:List (Addr×Obj)) (s:aG) (σ:St) (H:Hp) (R:It->Hp->Prop),Inv X pins σ H s->wi σ H R ->
  wpAny (model X.prog X.w) X.A (eval iter X.env) (fun v s1=>wpAny (model X.prog X.w) X.A (pyIter v) (PIE X pins σ tg R) X.xe s1) X.xe s
theorem Acs{M:Model}{A:cL}{E:aC->aG->Prop}{s:aG}{tg:Expr}{it:Addr}{u:aC}{o:Obj}{n:String}{vs:Array aC}{Q:Unit->aG->Prop}(ho:s.heap.get? it=some o)(hc:o.cls = .type n)(hd:o.data = .fields vs)
  (hn:["enumerate","zip","dict_itemiterator","dict_reverseitemiterator","odict_iterator","itertools.zip_longest","itertools.pairwise"].contains n=false) (hQ:Q () s):wpAny M A (letOwnedTupleGo tg (.ref it) u) Q E s:=by
 unfold letOwnedTupleGo
 cases tg <;> first
  | exact aJ hQ
  | (cases u <;> first
    | exact aJ hQ
    | (refine aB (sY ho ?_)
       rw[hc,hd]
       show wpAny M A (if (["enumerate","zip","dict_itemiterator","dict_reverseitemiterator","odict_iterator","itertools.zip_longest","itertools.pairwise"].contains n&&vs[0]? == some (rawInt _))=true then _ else _) Q E s
       rw[if_neg (by intro h;rw[hn,pJ] at h;cases h)]
       exact aJ hQ))
noncomputable def Itl(K:aD)(a:Addr):It:=
 ⟨fun i H=>∃ xs x,SqL K H a xs/\xs[i]? = some x,fun i H x H'=>H'=H/\∀ xs,SqL K H a xs->xs[i]? = some x,fun i H=>∃ xs,SqL K H a xs/\xs.length<=i⟩
noncomputable def Itt(K:aD)(a:Addr):It:=
 ⟨fun i H=>∃ xs x,SqT K H a xs/\xs[i]? = some x,fun i H x H'=>H'=H/\∀ xs,SqT K H a xs->xs[i]? = some x,fun i H=>∃ xs,SqT K H a xs/\xs.length<=i⟩
noncomputable def Itr(lo:Int)(n:Nat):It:=⟨fun i _=>i < n,fun i H x H'=>H'=H/\x = .int (lo+i),fun i _=>n<=i⟩
theorem Abe{P:bQ}{w:cC}{K:aD}{tg:Expr}(a it:Addr):Turn P w K tg (Itl K a) [it] it (fun i h=>h.IsListIter it a i) where
 mem:=by simp
 obj:=fun i h st b hb=>by
  have e:b=it:=by simpa using hb
  subst e
  obtain ⟨o,e,c,d⟩:=st
  exact ⟨o,e,fun v z=>by rw[d] at z;cases z⟩
 keep:=fun i h h' st k=>st.at fun o e=>k it (by simp) o e
 item:=by
  intro X hP hw hK hc i pins s σ H E I hf st hg
  subst hP hw hK
  obtain ⟨xs,x,hq,hx⟩:=hg
  obtain ⟨its,rv,p,hz⟩:=I.list hq
  obtain ⟨u,hu,ru⟩:=rv.get hx
  obtain ⟨f0,f1,f2,f3,f4,f5⟩:=hf it (by simp)
  refine wpAny_pyNext_list_item st p.isList (x:=u) (by simpa using hu) fun h' st' sb=>?_
  have I1:Inv X pins σ H { s with heap:=h' }:=I.turned (t':=s.toks) (fun b o hb e=>(sb.2 b hb).trans e) f0 f1 f3 f4 f5
  obtain ⟨o,e,c,d⟩:=id st'
  exact ⟨u,rfl,Acs (s:={ s with heap:=h' }) e c d (by decide) ⟨x,H,I1,ru,⟨rfl,fun ys hy=>by rw[I.list_inj hy hq];exact hx⟩,st',fun b hb=>(hf b hb).1⟩⟩
 done:=by
  intro X hP hw hK hc i pins s σ H E I hf st hg
  subst hP hw hK
  obtain ⟨xs,hq,hx⟩:=hg
  obtain ⟨its,rv,p,hz⟩:=I.list hq
  obtain ⟨f0,f1,f2,f3,f4,f5⟩:=hf it (by simp)
  have hl:=rv.length
  exact wpAny_pyNext_list_end (I.ok.hd hc) st p.isList (by simp;omega) fun h' eb=>⟨rfl,I.turned (t':=s.toks) (fun b o hb e=>eb b o hb e) f0 f1 f3 f4 f5⟩
 self:=fun _ _ _ _ _ st h=>wpAny_pyIter_listiter st h
theorem W6{P:bQ}{w:cC}{K:aD}{tg:Expr}(a it:Addr):Turn P w K tg (Itt K a) [it] it (fun i h=>h.IsTupleIter it a i) where
 mem:=by simp
 obj:=fun i h st b hb=>by
  have e:b=it:=by simpa using hb
  subst e
  obtain ⟨o,e,c,d⟩:=st
  exact ⟨o,e,fun v z=>by rw[d] at z;cases z⟩
 keep:=fun i h h' st k=>st.at fun o e=>k it (by simp) o e
 item:=by
  intro X hP hw hK hc i pins s σ H E I hf st hg
  subst hP hw hK
  obtain ⟨xs,x,hq,hx⟩:=hg
  obtain ⟨its,rv,p,hz⟩:=I.tuple hq
  obtain ⟨u,hu,ru⟩:=rv.get hx
  obtain ⟨f0,f1,f2,f3,f4,f5⟩:=hf it (by simp)
  refine wpAny_pyNext_tuple_item st (show s.heap.IsTuple a its.toArray from p) (x:=u) (by simpa using hu) fun h' st' sb=>?_
  have I1:Inv X pins σ H { s with heap:=h' }:=I.turned (t':=s.toks) (fun b o hb e=>(sb.2 b hb).trans e) f0 f1 f3 f4 f5
  obtain ⟨o,e,c,d⟩:=id st'
  exact ⟨u,rfl,Acs (s:={ s with heap:=h' }) e c d (by decide) ⟨x,H,I1,ru,⟨rfl,fun ys hy=>by rw[I.tuple_inj hy hq];exact hx⟩,st',fun b hb=>(hf b hb).1⟩⟩
 done:=by
  intro X hP hw hK hc i pins s σ H E I hf st hg
  subst hP hw hK
  obtain ⟨xs,hq,hx⟩:=hg
  obtain ⟨its,rv,p,hz⟩:=I.tuple hq
  obtain ⟨f0,f1,f2,f3,f4,f5⟩:=hf it (by simp)
  have hl:=rv.length
  exact wpAny_pyNext_tuple_end (I.ok.hd hc) st (show s.heap.IsTuple a its.toArray from p) (by simp;omega) fun h' eb=>⟨rfl,I.turned (t':=s.toks) (fun b o hb e=>eb b o hb e) f0 f1 f3 f4 f5⟩
 self:=fun _ _ _ _ _ st h=>wpAny_pyIter_tupleiter st h
theorem V6{P:bQ}{w:cC}{K:aD}{tg:Expr}(it:Addr)(lo:Int)(n:Nat):Turn P w K tg (Itr lo n) [it] it (fun i h=>IsRangeIter h it (lo+(i:Nat) * 1) ((n:Int) - (i:Nat)) 1) where
 mem:=by simp
 obj:=fun i h st b hb=>by
  have e:b=it:=by simpa using hb
  subst e
  exact ⟨_,st,fun v z=>by
   have z':Data.fields _=Data.cell v:=z
   cases z'⟩
 keep:=fun i h h' st k=>k it (by simp) _ st
 item:=by
  intro X hP hw hK hc i pins s σ H E I hf st hg
  subst hP hw hK
  obtain ⟨f0,f1,f2,f3,f4,f5⟩:=hf it (by simp)
  have W:=Walks.range (prog:=X.prog) (w:=X.w) (I.ok.hd hc) it lo 1 n
  refine W.item i s _ _ hg st fun v h' tk hv st' kk=>?_
  obtain ⟨t,rfl⟩:=hv
  have I1:Inv X pins σ H { s with heap:=h',toks:=tk }:=I.turned (fun b o hb e=>kk b o (by simpa using hb) e) f0 f1 f3 f4 f5
  refine ⟨_,rfl,Acs (s:={ s with heap:=h',toks:=tk }) (n := "range_iterator") st' rfl rfl (by decide) ⟨.int (lo+i),H,I1,⟨t,?_⟩,⟨rfl,rfl⟩,st',fun b hb=>(hf b hb).1⟩⟩
  rw[Int.mul_one]
 done:=by
  intro X hP hw hK hc i pins s σ H E I hf st hg
  subst hP hw hK
  obtain ⟨f0,f1,f2,f3,f4,f5⟩:=hf it (by simp)
  exact wpAny_pyNext_range_end (I.ok.hd hc) st (by have:n<=i:=hg;omega) fun h' eb=>⟨rfl,I.turned (t':=s.toks) (fun b o hb e=>eb b o hb e) f0 f1 f3 f4 f5⟩
 self:=fun _ _ _ _ _ st h=>wpAny_pyIter_rangeiter st h
section
variable {X:Cx}{tg:Expr}
noncomputable def Aox(K:aD)(tl:TE):TI:=fun σ H R=>tl σ H fun x H1=>∃ a,x = .ref a/\(∃ xs,SqL K H1 a xs)/\R (Itl K a) H1
noncomputable def Arc(K:aD)(tl:TE):TI:=fun σ H R=>tl σ H fun x H1=>∃ a,x = .ref a/\(∃ xs,SqT K H1 a xs)/\R (Itt K a) H1
theorem Ahv{l:Expr}{tl:TE}(hl:PE X l tl):PI X tg l (Aox X.K tl):=by
 intro pins s σ H R I h
 refine thn (hl pins s σ H _ I h) fun v s1 zz=>?_
 obtain ⟨x,H1,I1,r1,q1⟩:=zz
 obtain ⟨a,e,⟨xs,hq⟩,q⟩:=q1
 subst e
 cases r1
 obtain ⟨its,rv,p,hz⟩:=I1.list hq
 refine qS p.isList ?_
 refine ⟨s1.heap.objs.size,[s1.heap.objs.size],_,_,H1,rfl,I1.kept (t':=s1.toks) fun b o e=>aF _ e,Abe a _,⟨_,aP _ rfl,rfl,rfl⟩,fun b hb=>?_,q⟩
 have e:b=s1.heap.objs.size:=by simpa using hb
 subst e
 exact I1.fpOk (aN _) (I1.hok.fresh (aN _))
theorem Al2{l:Expr}{tl:TE}(hl:PE X l tl):PI X tg l (Arc X.K tl):=by
 intro pins s σ H R I h
 refine thn (hl pins s σ H _ I h) fun v s1 zz=>?_
 obtain ⟨x,H1,I1,r1,q1⟩:=zz
 obtain ⟨a,e,⟨xs,hq⟩,q⟩:=q1
 subst e
 cases r1
 obtain ⟨its,rv,p,hz⟩:=I1.tuple hq
 refine eP (show s1.heap.IsTuple a its.toArray from p) ?_
 refine ⟨s1.heap.objs.size,[s1.heap.objs.size],_,_,H1,rfl,I1.kept (t':=s1.toks) fun b o e=>aF _ e,W6 a _,⟨_,aP _ rfl,rfl,rfl⟩,fun b hb=>?_,q⟩
 have e:b=s1.heap.objs.size:=by simpa using hb
 subst e
 exact I1.fpOk (aN _) (I1.hok.fresh (aN _))
theorem Acg{pins:List (Addr×Obj)}{σ:St}{H:Hp}{s:aG}{R:It->Hp->Prop}{E:aC->aG->Prop}{lo hi:Int}{t u v:Tok}{tk:Nat}(I:Inv X pins σ H s)(h1:-(2 ^ 62)<=lo)(h2:lo < 2 ^ 62)(h3:-(2 ^ 62)<=hi)(h4:hi < 2 ^ 62)
  (q:R (Itr lo (hi - lo).toNat) H):wpAny (model X.prog X.w) X.A (pyIter (.ref s.heap.objs.size)) (PIE X pins σ tg R) E { s with heap:=s.heap.push { cls:=.type "range",data:=.fields #[.int lo t,.int hi u,.int 1 v] },toks:=tk }:=by
 refine wpAny_pyIter_range (IsRange.new ..) (small_one h1 h2 h3 h4) ?_
 have I1:Inv X pins σ H { s with heap:=s.heap.push { cls:=.type "range",data:=.fields #[.int lo t,.int hi u,.int 1 v] },toks:=tk }:=I.kept fun b o e=>aF _ e
 refine ⟨(s.heap.push { cls:=.type "range",data:=.fields #[.int lo t,.int hi u,.int 1 v] }).objs.size,[(s.heap.push { cls:=.type "range",data:=.fields #[.int lo t,.int hi u,.int 1 v] }).objs.size],_,_,H,rfl,
  I1.kept (t':=tk) fun b o e=>aF _ e,V6 _ lo (hi - lo).toNat,?_,fun b hb=>?_,q⟩
 ·have e1:lo+((0:Nat):Int) * 1=lo:=by simp
  have e2:(((hi - lo).toNat:Nat):Int) - ((0:Nat):Int)=gD.Range.rangeSize lo hi 1:=by rw[rangeSize_one];split <;> omega
  show IsRangeIter _ _ (lo+((0:Nat):Int) * 1) ((((hi - lo).toNat:Nat):Int) - ((0:Nat):Int)) 1
  rw[e1,e2]
  exact aP _ rfl
 ·have e:b=(s.heap.push { cls:=.type "range",data:=.fields #[.int lo t,.int hi u,.int 1 v] }).objs.size:=by simpa using hb
  subst e
  exact I1.fpOk (aN _) (I1.hok.fresh (aN _))
noncomputable def An1(ta:TA):TI:=fun σ H R=>ta σ H fun vs H1=>∃ j:Int,vs=[.int j]/\-(2 ^ 62)<=j/\j < 2 ^ 62/\R (Itr 0 j.toNat) H1
theorem Ab1{a:Expr}{ta:TA}{p pos:Pos}(hg:Gl X "range")(hm:X.mg "range" = none)(ha:PA X [a] ta)(hs:bP [a] X.env=[(false,eval a X.env)]:=by rfl):PI X tg (.Call (.Name "range" p) [a] [] pos) (An1 ta):=by
 intro pins s σ H R I h
 refine Call_ (Iu I hg hm boot_range (eU (thn (ha pos pins s σ H _ I h) fun us s1 zz=>zz.elim fun vs H1 I1 r1 q1=>?_) hs rfl))
 obtain ⟨j,e,q1,q2,q⟩:=q1
 subst e
 cases r1 with
 | cons r rr=>
  cases rr
  obtain ⟨t,rfl⟩:=r
  exact call_range_1 (Acg I1 (by omega) (by omega) q1 q2 (by simpa using q))
noncomputable def Aq3(wi:TI)(g:TG)(tb:TS):TS:=fun D σ H=>wi σ H fun J H1=>∃ W:Nat->Nat->St->Hp->Prop,(∃ m,W 0 m σ H1)/\∀ i m σ H,W i m σ H ->
 (J.stop i H/\D.nx σ H)\/(J.go i H/\∃ N:St->Hp->Prop,(∀ σ' H',N σ' H'->∃ m',m' < m/\W (i+1) m' σ' H')/\∀ x H',J.yld i H x H'->g x σ H' fun σ2 H2=>tb { D with nx:=N,ct:=N,bk:=D.nx } σ2 H2)
noncomputable def Pf(fp:List Addr)(h:Heap):List (Addr×Obj):=fp.filterMap fun b=>(h.get? b).map fun o=>(b,o)
theorem Ir{fp:List Addr}{h:Heap}{b:Addr}{o:Obj}(hb:b∈fp)(e:h.get? b=some o):(b,o)∈Pf fp h:=List.mem_filterMap.mpr ⟨b,hb,by rw[e];rfl⟩
theorem Aa8{fp:List Addr}{h:Heap}{p:Addr×Obj}(hp:p∈Pf fp h):p.1∈fp/\h.get? p.1=some p.2:=by
 obtain ⟨b,hb,e⟩:=List.mem_filterMap.mp hp
 cases q:h.get? b with
 | none=>rw[q] at e;cases e
 | some o=>
  rw[q] at e
  have e':(b,o)=p:=bZ e
  subst e'
  exact ⟨hb,q⟩
theorem Inv.pinned{pins:List (Addr×Obj)}{σ:St}{H:Hp}{s:aG}{fp:List Addr}(I:Inv X pins σ H s)(hf:∀ b∈fp,Ig X pins H b)(ho:∀ b∈fp,∃ o,s.heap.get? b=some o/\∀ v,o.data≠.cell v):Inv X (pins++Pf fp s.heap) σ H s:=
 I.pins_of fun p hp=>(dY.mp hp).elim (fun z=>I.pin p (bR _ z)) fun z=>by
  obtain ⟨hb,e⟩:=Aa8 z
  obtain ⟨f0,f1,f2,_⟩:=hf p.1 hb
  obtain ⟨o,e',d⟩:=ho p.1 hb
  rw[e] at e';cases e'
  exact ⟨e,f0,f1,f2,d⟩
theorem Inv.unpinned{pins pl:List (Addr×Obj)}{σ:St}{H:Hp}{s:aG}(I:Inv X (pins++pl) σ H s):Inv X pins σ H s:=I.pins_of fun p hp=>I.pin p (bR _ (fO _ hp))
theorem Amh{iter:Expr}{body:List Stmt}{wi:TI}{g:TG}{tb:TS}{pos:Pos}(hp:rV (model X.prog X.w) X.A X.env X.xe)(hc:X.calm=true)(hi:PI X tg iter wi)(hg:PG X tg g)(hb:PSs X body tb)
  (hs:∀ x,foldedSetIterable iter X.env x=pure x:=by intro _;rfl):PS X (.For tg iter body [] pos) (Aq3 wi g tb):=by
 intro pins s σ H D I h
 refine wpAny_For (thn (hi pins s σ H _ I h) fun v s1 h1=>thn h1 fun itv s2 h2=>?_) hs
 obtain ⟨it,fp,tn,J,H2,e,I2,T,st2,f2,W,⟨m0,w0⟩,turn⟩:=h2
 subst e
 have stat:∀ {H':Hp},(∀ b∈fp,H' b=none)->∀ b∈fp,Ig X pins H' b:=fun hn b hb=>⟨hn b hb,(f2 b hb).2⟩
 refine codeAny_forLoop_any (fun n s'=>∃ i σ' H',Inv X pins σ' H' s'/\tn i s'.heap/\(∀ b∈fp,H' b=none)/\W i n σ' H') ?_ m0 ⟨0,σ,H2,I2,st2,fun b hb=>(f2 b hb).1,w0⟩
 rintro n s3 ⟨i,σ3,H3,I3,st3,fr3,w3⟩
 rcases turn i n σ3 H3 w3 with ⟨stop,qn⟩ | ⟨go,N,hN,step⟩
 ·refine gR hp (thn (T.done X rfl rfl rfl hc i pins s3 σ3 H3 X.xe I3 (stat fr3) st3 stop) fun r s4 zz=>?_)
  obtain ⟨hr,I4⟩:=zz
  subst hr
  exact lH ⟨σ3,H3,I4,qn⟩
 ·refine gR hp (thn (T.item X rfl rfl rfl hc i pins s3 σ3 H3 X.xe I3 (stat fr3) st3 go) fun r s4 zz=>?_)
  obtain ⟨u,hr,h4⟩:=zz
  subst hr
  refine gR hp (thn h4 fun _ s5 zz=>?_)
  obtain ⟨x,H5,I5,r5,y5,st5,fr5⟩:=zz
  have I5':=I5.pinned (stat fr5) (T.obj _ _ st5)
  refine gR hp (thn (hg _ s5 σ3 H5 x u _ I5' r5 (step x H5 y5)) fun _ s6 zz=>?_)
  obtain ⟨σ6,H6,I6,q6⟩:=zz
  refine gR hp (thn (hb _ s6 σ6 H6 _ I6 q6) fun f s7 q7=>?_)
  have again:∀ {σ7:St} {H7:Hp},Inv X (pins++Pf fp s5.heap) σ7 H7 s7->N σ7 H7->∃ m,m < n/\∃ i σ' H',Inv X pins σ' H' s7/\tn i s7.heap/\(∀ b∈fp,H' b=none)/\W i m σ' H':=fun {σ7 H7} I7 n7=>by
   obtain ⟨m',hm,w7⟩:=hN σ7 H7 n7
   refine ⟨m',hm,i+1,σ7,H7,I7.unpinned,T.keep _ _ _ st5 fun b hb o e=>(I7.pin (b,o) (bR _ (bR _ (Ir hb e)))).1,fun b hb=>?_,w7⟩
   obtain ⟨o,e,d⟩:=T.obj _ _ st5 b hb
   exact (I7.pin (b,o) (bR _ (bR _ (Ir hb e)))).2.1
  cases f with
  | next=>obtain ⟨σ7,H7,I7,n7⟩:=q7;exact again I7 n7
  | cont=>obtain ⟨σ7,H7,I7,n7⟩:=q7;exact again I7 n7
  | brk=>obtain ⟨σ7,H7,I7,q7⟩:=q7;exact ⟨σ7,H7,I7.unpinned,q7⟩
  | ret v=>obtain ⟨x7,σ7,H7,I7,r7,q7⟩:=q7;exact ⟨x7,σ7,H7,I7.unpinned,r7,q7⟩
end
abbrev R2:=V->V->Hp->VK->Prop
noncomputable def OpR(X:Cx)(f:aC->aC->Sem aC)(r:R2):Prop:=
 ∀ (pins:List (Addr×Obj)) (s:aG) (σ:St) (H:Hp) (x y:V) (v u:aC) (Q:VK),Inv X pins σ H s->RelV x v->RelV y u->r x y H Q ->
  wpAny (model X.prog X.w) X.A (f v u) (EP X pins σ Q) X.xe s
noncomputable def UnR(X:Cx)(f:aC->Sem aC)(r:V->Hp->VK->Prop):Prop:=
 ∀ (pins:List (Addr×Obj)) (s:aG) (σ:St) (H:Hp) (x:V) (v:aC) (Q:VK),Inv X pins σ H s->RelV x v->r x H Q ->
  wpAny (model X.prog X.w) X.A (f v) (EP X pins σ Q) X.xe s
noncomputable def CallR(X:Cx)(f:aC)(r:List V->Hp->VK->Prop):Prop:=
 ∀ (pins:List (Addr×Obj)) (s:aG) (σ:St) (H:Hp) (xs:List V) (us:List aC) (Q:VK),Inv X pins σ H s->Vals xs us->r xs H Q ->
  wpAny (model X.prog X.w) X.A (call f us) (EP X pins σ Q) X.xe s
noncomputable def Aq7(X:Cx)(r:V->Hp->(Bool->Hp->Prop)->Prop):Prop:=
 ∀ (pins:List (Addr×Obj)) (s:aG) (σ:St) (H:Hp) (x:V) (v:aC) (Q:Bool->Hp->Prop),Inv X pins σ H s->RelV x v->r x H Q ->
  wpAny (model X.prog X.w) X.A (truthy v) (TP X pins σ Q) X.xe s
noncomputable def tOp(r:R2)(ta tb:TE):TE:=fun σ H Q=>ta σ H fun x H1=>tb σ H1 fun y H2=>r x y H2 Q
noncomputable def tUn(r:V->Hp->VK->Prop)(ta:TE):TE:=fun σ H Q=>ta σ H fun x H1=>r x H1 Q
noncomputable def rI(C:Int->Int->Prop)(g:Int->Int->V):R2:=fun x y H Q=>∃ i j,x = .int i/\y = .int j/\C i j/\Q (g i j) H
noncomputable def rI0(g:Int->Int->V):R2:=fun x y H Q=>∃ i j,x = .int i/\y = .int j/\Q (g i j) H
noncomputable def rU(g:Int->V):V->Hp->VK->Prop:=fun x H Q=>∃ i,x = .int i/\Q (g i) H
section
variable {X:Cx}{a b c:Expr}{ta tb tc:TE}{pos:Pos}
theorem Ana(ha:PE X a ta)(hb:PE X b tb){pins:List (Addr×Obj)}{s:aG}{σ:St}{H:Hp}{R:V->V->Hp->Prop}(I:Inv X pins σ H s)
  (h:ta σ H fun x H1=>tb σ H1 fun y H2=>R x y H2) {Q:aC->aG->Prop} {f:aC->aC->Sem aC}
  (hf:∀ v u s2 x y H2,Inv X pins σ H2 s2->RelV x v->RelV y u->R x y H2->wpAny (model X.prog X.w) X.A (f v u) Q X.xe s2) :
  wpAny (model X.prog X.w) X.A (eval a X.env) (fun v s₁=>wpAny (model X.prog X.w) X.A (eval b X.env) (fun u s₂=>wpAny (model X.prog X.w) X.A (f v u) Q X.xe s₂) X.xe s₁) X.xe s:=by
 refine thn (ha pins s σ H _ I h) fun v s1 zz=>?_
 obtain ⟨x,H1,I1,r1,q1⟩:=zz
 refine thn (hb pins s1 σ H1 _ I1 q1) fun u s2 zz=>?_
 obtain ⟨y,H2,I2,r2,q2⟩:=zz
 exact hf v u s2 x y H2 I2 r1 r2 q2
theorem Anr{op:Operator}{r:R2}(ho:OpR X (gU op) r)(ha:PE X a ta)(hb:PE X b tb):PE X (.BinOp a op b pos) (tOp r ta tb):=by
 intro pins s σ H Q I h
 exact wpAny_BinOp (Ana ha hb I h fun v u s2 x y H2 I2 rx ry q=>ho pins s2 σ H2 x y v u Q I2 rx ry q)
theorem Api{op:UnaryOp}{r:V->Hp->VK->Prop}(ho:UnR X (unaryOp op) r)(ha:PE X a ta):PE X (.UnaryOp op a pos) (tUn r ta):=by
 intro pins s σ H Q I h
 exact UnaryOp_ (thn (ha pins s σ H _ I h) fun v s1 zz=>by obtain ⟨x,H1,I1,r1,q1⟩:=zz;exact ho pins s1 σ H1 x v Q I1 r1 q1)
theorem opI{f:aC->aC->Sem aC}{C:Int->Int->Prop}{g:Int->Int->Int}
  (rule:∀ (i j:Int) (t u:Tok) (s:aG) (Q:aC->aG->Prop) (E:aC->aG->Prop),C i j->Q (.int (g i j) s.toks) { s with toks:=s.toks+1 }->wpAny (model X.prog X.w) X.A (f (.int i t) (.int j u)) Q E s) :
  OpR X f (rI C fun i j=>.int (g i j)):=by
 intro pins s σ H x y v u Q I rx ry h
 obtain ⟨i,j,rfl,rfl,hc,q⟩:=h
 obtain ⟨t,rfl⟩:=rx
 obtain ⟨t',rfl⟩:=ry
 exact rule i j t t' s _ _ hc ⟨.int (g i j),H,I.tok _,⟨_,rfl⟩,q⟩
theorem Ami{f:aC->aC->Sem aC}{g:Int->Int->Int}
  (rule:∀ (i j:Int) (t u:Tok) (s:aG) (Q:aC->aG->Prop) (E:aC->aG->Prop),Q (.int (g i j) s.toks) { s with toks:=s.toks+1 }->wpAny (model X.prog X.w) X.A (f (.int i t) (.int j u)) Q E s) :
  OpR X f (rI0 fun i j=>.int (g i j)):=by
 intro pins s σ H x y v u Q I rx ry h
 obtain ⟨i,j,rfl,rfl,q⟩:=h
 obtain ⟨t,rfl⟩:=rx
 obtain ⟨t',rfl⟩:=ry
 exact rule i j t t' s _ _ ⟨.int (g i j),H,I.tok _,⟨_,rfl⟩,q⟩
theorem Ajm{f:aC->aC->Sem aC}{g:Int->Int->Bool}
  (rule:∀ (i j:Int) (t u:Tok) (s:aG) (Q:aC->aG->Prop) (E:aC->aG->Prop),Q (.bool (g i j)) s->wpAny (model X.prog X.w) X.A (f (.int i t) (.int j u)) Q E s) :
  OpR X f (rI0 fun i j=>.bl (g i j)):=by
 intro pins s σ H x y v u Q I rx ry h
 obtain ⟨i,j,rfl,rfl,q⟩:=h
 obtain ⟨t,rfl⟩:=rx
 obtain ⟨t',rfl⟩:=ry
 exact rule i j t t' s _ _ ⟨.bl (g i j),H,I,rfl,q⟩
noncomputable def CMul(i j:Int):Prop:=(-(2 ^ 64) < i/\i < 2 ^ 64)\/(-(2 ^ 64) < j/\j < 2 ^ 64)
theorem CMul.ok{i j:Int}(h:CMul i j):IntMulOk i j:=by
 rcases h with ⟨h1,h2⟩ | ⟨h1,h2⟩
 ·exact .of_left (intBits_le_64 h1 h2)
 ·exact .of_right (intBits_le_64 h1 h2)
theorem Ame:OpR X (gU .Add) (rI0 fun i j=>.int (i+j)):=Ami fun _ _ _ _ _ _ _ q=>add_int q
theorem Vl:OpR X (gU .Sub) (rI0 fun i j=>.int (i - j)):=Ami fun _ _ _ _ _ _ _ q=>sub_int q
theorem Ak0:OpR X (gU .Mult) (rI CMul fun i j=>.int (i * j)):=opI fun _ _ _ _ _ _ _ hc q=>mul_int q hc.ok
theorem Alf:OpR X (gU .Mod) (rI (fun _ j=>0 < j) fun i j=>.int (i % j)):=opI fun i j _ _ _ _ _ hc q=>by
 have h1:(0:Int) < j:=hc
 exact mod_int' (by omega) (by rw[Int.fmod_eq_emod_of_nonneg i (by omega)];exact q)
theorem Alh:OpR X (gU .BitAnd) (rI0 fun i j=>.int (iQ i j)):=Ami fun _ _ _ _ _ _ _ q=>and_int q
theorem unI{f:aC->Sem aC}{g:Int->Int}
  (rule:∀ (i:Int) (t:Tok) (s:aG) (Q:aC->aG->Prop) (E:aC->aG->Prop),Q (.int (g i) s.toks) { s with toks:=s.toks+1 }->wpAny (model X.prog X.w) X.A (f (.int i t)) Q E s) :
  UnR X f (rU fun i=>.int (g i)):=by
 intro pins s σ H x v Q I rx h
 obtain ⟨i,rfl,q⟩:=h
 obtain ⟨t,rfl⟩:=rx
 exact rule i t s _ _ ⟨.int (g i),H,I.tok _,⟨_,rfl⟩,q⟩
theorem Al0:UnR X (unaryOp .USub) (rU fun i=>.int (-i)):=unI fun _ _ _ _ _ q=>neg_int q
end
section
variable {X:Cx}{a b c:Expr}{ta tb tc:TE}{pos:Pos}
theorem Y7:OpR X (eQ .Lt) (rI0 fun i j=>.bl (decide (i < j))):=Ajm fun _ _ _ _ _ _ _ q=>lt_int q
theorem M7:OpR X (eQ .LtE) (rI0 fun i j=>.bl (decide (i<=j))):=Ajm fun _ _ _ _ _ _ _ q=>le_int q
theorem Ad9:OpR X (eQ .Gt) (rI0 fun i j=>.bl (decide (j < i))):=Ajm fun _ _ _ _ _ _ _ q=>gt_int q
theorem Aj7:OpR X (eQ .GtE) (rI0 fun i j=>.bl (decide (j<=i))):=Ajm fun _ _ _ _ _ _ _ q=>ge_int q
theorem OpR.or{f:aC->aC->Sem aC}{r r':R2}(h:OpR X f r)(h':OpR X f r'):OpR X f (fun x y H Q=>r x y H Q\/r' x y H Q):=by
 intro pins s σ H x y v u Q I rx ry q
 rcases q with q | q
 ·exact h pins s σ H x y v u Q I rx ry q
 ·exact h' pins s σ H x y v u Q I rx ry q
theorem B5(b:Expr){op:CmpOp}(h:op≠.In:=by decide)(h2:op≠.NotIn:=by decide):behindInMarks op b=false:=by
 have e1:(op == CmpOp.In)=false:=by cases op <;> first | rfl | exact absurd rfl h
 have e2:(op == CmpOp.NotIn)=false:=by cases op <;> first | rfl | exact absurd rfl h2
 cases b <;> simp[behindInMarks,e1,e2]
theorem Ain{op:CmpOp}{r:R2}(ho:OpR X (eQ op) r)(ha:PE X a ta)(hb:PE X b tb)(hm:behindInMarks op b=false):PE X (.Compare a [op] [b] pos) (tOp r ta tb):=by
 intro pins s σ H Q I h
 exact wpAny_Compare1 (Ana ha hb I h fun v u s2 x y H2 I2 rx ry q=>ho pins s2 σ H2 x y v u Q I2 rx ry q) hm
noncomputable def Aj4(t:TE):TT:=fun σ H Q=>t σ H fun x H'=>∃ k,x = .bl k/\Q k H'
theorem Ahg{op:CmpOp}{r:R2}(ho:OpR X (eQ op) r)(ha:PE X a ta)(hb:PE X b tb)(hm:behindInMarks op b=false):PT X (.Compare a [op] [b] pos) (Aj4 (tOp r ta tb)):=by
 intro pins s σ H Q I h
 refine wpAny_isTrue_Compare1 (thn (ha pins s σ H _ I h) fun v s1 zz=>zz.elim fun x H1 I1 r1 q1=>thn (hb pins s1 σ H1 _ I1 q1) fun u s2 ⟨y,H2,I2,r2,q2⟩=>
  thn (ho pins s2 σ H2 x y v u _ I2 r1 r2 q2) fun c s3 zz=>zz.elim fun z H3 I3 r3 zq=>?_) hm
 obtain ⟨k,e,q3⟩:=zq
 subst e
 cases r3
 exact iL ⟨H3,I3,q3⟩
noncomputable def Adf(r r':R2)(ta tb tc:TE):TE:=fun σ H Q=>ta σ H fun x H1=>tb σ H1 fun y H2=>r x y H2 fun z H3=>∃ k,z = .bl k /\
 (if k=true then tc σ H3 fun w' H4=>r' y w' H4 Q else Q (.bl false) H3)
theorem Aew{op op':CmpOp}{r r':R2}(ho:OpR X (eQ op) r)(ho':OpR X (eQ op') r')(ha:PE X a ta)(hb:PE X b tb)(hc:PE X c tc)
  (hm:lastMarks [op,op'] [b,c]=false:=by with_unfolding_all rfl):PE X (.Compare a [op,op'] [b,c] pos) (Adf r r' ta tb tc):=by
 intro pins s σ H Q I h
 refine Compare_chain (thn (ha pins s σ H _ I h) fun v s1 zz=>zz.elim fun x H1 I1 r1 q1=>chain_link (thn (hb pins s1 σ H1 _ I1 q1) fun u s2 ⟨y,H2,I2,r2,q2⟩=>
  thn (ho pins s2 σ H2 x y v u _ I2 r1 r2 q2) fun d s3 zz=>zz.elim fun z H3 I3 r3 zq=>?_)) hm
 obtain ⟨k,e,q3⟩:=zq
 subst e
 cases r3
 refine iL ?_
 cases k with
 | false=>exact ite_ff ⟨.bl false,H3,I3,rfl,q3⟩
 | true=>exact ite_tt (chain_last (thn (hc pins s3 σ H3 _ I3 q3) fun w' s4 zz=>by obtain ⟨z',H4,I4,r4,q4⟩:=zz;exact ho' pins s4 σ H4 y z' u w' Q I4 r2 r4 q4))
noncomputable def Am5(K:aD)(x:V)(H:Hp)(k:Bool):Prop:=
 match x with
 | .non=>k=false
 | .bl b=>k=b
 | .int i=>k=(i != 0)
 | .str y=>y.length<=sizeLine/\k=((y.length:Int) != 0)
 | .byt y=>y.size<=sizeLine/\k=((y.size:Int) != 0)
 | .ref p=>(∃ xs,SqL K H p xs/\k = !xs.isEmpty)\/(∃ xs,SqT K H p xs/\k = !xs.isEmpty)\/∃ kvs,H p=some (.dK kvs)/\k = !kvs.isEmpty
 | _=>False
theorem W0{κ:Type}{kvs:List (κ×V)}{vs:List (κ×aC)}(r:KV kvs vs):(!vs.isEmpty) = !kvs.isEmpty:=by
 cases r <;> rfl
theorem Ob{xs:List V}{its:List aC}(r:Vals xs its):(!its.toArray.isEmpty) = !xs.isEmpty:=by
 cases r <;> simp
theorem Mt:(sizeLine:Nat) < 2 ^ 63:=by rw[eC];decide
theorem Al1:Aq7 X (fun x H Q=>∃ k,Am5 X.K x H k/\Q k H):=by
 intro pins s σ H x v Q I rx h
 obtain ⟨k,e,q⟩:=h
 have hl:=Mt
 have hs:sizeLine=16777216:=eC
 cases x with
 | non=>
  cases rx
  have e':k=false:=e
  subst e'
  exact truthy_none ⟨H,I,q⟩
 | bl b=>
  cases rx
  have e':k=b:=e
  subst e'
  exact iL ⟨H,I,q⟩
 | int i=>
  obtain ⟨t,rfl⟩:=rx
  have e':k=(i != 0):=e
  subst e'
  exact PySem.P.truthy_int ⟨H,I,q⟩
 | str y=>
  obtain ⟨t,rfl⟩:=rx
  obtain ⟨hy,e'⟩:y.length<=sizeLine/\k=((y.length:Int) != 0):=e
  subst e'
  exact PySem.P.truthy_str (by omega) ⟨H,I.tok _,q⟩
 | byt y=>
  obtain ⟨t,rfl⟩:=rx
  obtain ⟨hy,e'⟩:y.size<=sizeLine/\k=((y.size:Int) != 0):=e
  subst e'
  exact PySem.W.truthy_bytes (by omega) ⟨H,I.tok _,q⟩
 | ref p=>
  cases rx
  have e':(∃ xs,SqL X.K H p xs/\k = !xs.isEmpty)\/(∃ xs,SqT X.K H p xs/\k = !xs.isEmpty)\/∃ kvs,H p=some (.dK kvs)/\k = !kvs.isEmpty:=e
  rcases e' with ⟨xs,hx,e'⟩ | ⟨xs,hx,e'⟩ | ⟨kvs,hx,e'⟩
  ·subst e'
   obtain ⟨its,r,pl,hz⟩:=I.list hx
   have hlen:=r.length
   exact wpAny_truthy_list pl.isList (by simp only[bM];omega) ⟨H,I.tok _,by rw[Ob r];exact q⟩
  ·subst e'
   obtain ⟨its,r,pl,hz⟩:=I.tuple hx
   have hlen:=r.length
   exact truthy_tuple pl (by simp only[bM];omega) ⟨H,I.tok _,by rw[Ob r];exact q⟩
  ·subst e'
   obtain ⟨hz,hS,vs,r,m⟩:kvs.length<=sizeLine/\(p == sysModules)=false/\∃ vs,KV kvs vs/\s.heap.DictOf (B9 X.prog X.w) p vs:=I.hok p _ hx
   have hlen:kvs.length=vs.length:=nH r
   exact wpAny_truthy_dict hS m (by omega) ⟨H,I.tok _,by rw[W0 r];exact q⟩
 | _=>exact (show False from e).elim
theorem Ad3(ha:PE X a ta)(he:∀ whole,isTrue a X.env whole=(do let v <- whole;standAt a.pos;holding [v] (truthy v))) :
  PT X a (fun σ H Q=>ta σ H fun x H'=>∃ k,Am5 X.K x H' k/\Q k H'):=by
 intro pins s σ H Q I h
 exact isTrue_plain (thn (ha pins s σ H _ I h) fun v s1 zz=>by obtain ⟨x,H1,I1,r1,q1⟩:=zz;exact Al1 pins s1 σ H1 x v Q I1 r1 q1) (he _)
theorem Vw:OpR X (gU .Add) (fun x y H Q=>∃ i j,x = .str i/\y = .str j/\i.length+j.length<=sizeLine/\Q (.str (i++j)) H):=by
 intro pins s σ H x y v u Q I rx ry h
 obtain ⟨i,j,rfl,rfl,hz,q⟩:=h
 obtain ⟨t,rfl⟩:=rx
 obtain ⟨t',rfl⟩:=ry
 exact add_str (fun t' tk=>⟨.str (i++j),H,I.tok _,⟨_,rfl⟩,q⟩) hz
theorem Kk{x:V}{us:List aC}(r:Vals [x] us):∃ u,us=[u]/\RelV x u:=by
 cases r with
 | cons r1 r2=>cases r2;exact ⟨_,rfl,r1⟩
theorem An8{x y:V}{us:List aC}(r:Vals [x,y] us):∃ u w',us=[u,w']/\RelV x u/\RelV y w':=by
 cases r with
 | cons r1 r2=>
  cases r2 with
  | cons r3 r4=>cases r4;exact ⟨_,_,rfl,r1,r3⟩
noncomputable def Aod(K:aD)(x:V)(H:Hp)(n:Nat):Prop:=
 match x with
 | .str y=>y.length<=sizeLine/\n=y.length
 | .byt y=>y.size<=sizeLine/\n=y.size
 | .ref p=>(∃ xs,SqL K H p xs/\n=xs.length)\/∃ xs,SqT K H p xs/\n=xs.length
 | _=>False
theorem Ju:CallR X (.builtin "len") (fun xs H Q=>∃ x n,xs=[x]/\Aod X.K x H n/\Q (.int n) H):=by
 intro pins s σ H xs us Q I r h
 obtain ⟨x,n,rfl,e,q⟩:=h
 obtain ⟨u,rfl,rx⟩:=Kk r
 have hl:=Mt
 have hs:sizeLine=16777216:=eC
 cases x with
 | str y=>
  obtain ⟨t,rfl⟩:=rx
  obtain ⟨hy,e'⟩:y.length<=sizeLine/\n=y.length:=e
  subst e'
  exact len_str (by omega) ⟨.int _,H,I.tok _,⟨_,rfl⟩,q⟩
 | byt y=>
  obtain ⟨t,rfl⟩:=rx
  obtain ⟨hy,e'⟩:y.size<=sizeLine/\n=y.size:=e
  subst e'
  exact PySem.W.len_bytes (by omega) ⟨.int _,H,I.tok _,⟨_,rfl⟩,q⟩
 | ref p=>
  cases rx
  have e':(∃ xs,SqL X.K H p xs/\n=xs.length)\/∃ xs,SqT X.K H p xs/\n=xs.length:=e
  rcases e' with ⟨xs,hx,e'⟩ | ⟨xs,hx,e'⟩
  ·subst e'
   obtain ⟨its,r',pl,hz⟩:=I.list hx
   have hlen:=r'.length
   exact Calls.call_len_list pl.isList (by simp only[bM];omega) ⟨.int xs.length,H,I.tok _,⟨_,by simp only[bM];rw[hlen]⟩,q⟩
  ·subst e'
   obtain ⟨its,r',pl,hz⟩:=I.tuple hx
   have hlen:=r'.length
   exact len_tuple pl (by simp only[bM];omega) ⟨.int xs.length,H,I.tok _,⟨_,by simp only[bM];rw[hlen]⟩,q⟩
 | _=>exact (show False from e).elim
end
structure ObjM(h:Heap)(x dx C:Addr)(mA:Str->Option aC):Prop where
 obj:h.get? x=some (fU C dx)
 ns:h.Ns1 dx mA
 ne:dx≠x
theorem Abj{h:Heap}{dx:Addr}{mA:Str->Option aC}(n:h.Ns1 dx mA):∃ od,h.get? dx=some od/\∀ name,mF name od=some (mA name):=by
 obtain ⟨o,es,ep,ho,hd,hk,_,hm⟩:=n
 refine ⟨o,ho,fun name=>?_⟩
 have e:=hm name
 unfold nsFind findBy at e
 rw[<- Array.find?_toList] at e
 unfold mF
 rw[hd]
 dsimp only
 split
 ·rename_i y q
  rw[q] at e
  exact congrArg some e
 ·rename_i q
  rw[q] at e
  have a:es.toList.any (·.refKey)=false:=by
   rw[List.any_eq_false]
   intro y hy
   obtain ⟨z,t,hkey⟩:=hk y (Array.mem_toList_iff.mp hy)
   simp[DictEntry.refKey,hkey]
  have a':¬ es.toList.any (·.refKey)=true:=by rw[a];exact fJ
  rw[if_neg a']
  exact congrArg some e
theorem ObjM.look{h:Heap}{x dx C:Addr}{mA:Str->Option aC}(I:ObjM h x dx C mA):∃ od,PySem.W.InstAt h x (fU C dx) C (some od)/\∀ name,mF name od=some (mA name):=
 let ⟨od,ho,hl⟩:=Abj I.ns
 ⟨od,⟨I.obj,rfl,rfl,ho⟩,hl⟩
section
variable {prog:bQ}{w:cC}{A:cL}{E:aC->aG->Prop}{s:aG}{K:aD}{x dx C f:Addr}{mA:Str->Option aC}{name:Str}{v:aC}
theorem Agv{expr:Bool}{Q:aC->aG->Prop}(X:K.In s.heap)(I:ObjM s.heap x dx C mA)(hg:hV K C name=true)(hh:iM K C=true)
  (ha:bS K (.ref C) name=some none) (hv:mA name=some v) (hv':rW v=true) (h:Q v { s with toks:=s.toks+1 }) :
  wpAny (model prog w) A (getAttr (.ref x) name expr) Q E s:=by
 obtain ⟨od,J,hl⟩:=I.look
 exact PySem.W.get_value X J (lV hg).1 (PySem.W.findObj_own hh ha rfl (by rw[hl,hv])) hv' h
theorem Ad0{pl:Sem Bool}{Q:aC×List aC->aG->Prop}(X:K.In s.heap)(I:ObjM s.heap x dx C mA)(hg:hV K C name=true)
  (hf:bS K (.ref C) name=some (some (.ref f))) (ht:cY K (.ref f)=true) (hv:mA name=none) (h:Q (.ref f,[.ref x]) s) :
  wpAny (model prog w) A (getMethod (.ref x) name pl) Q E s:=by
 obtain ⟨od,J,hl⟩:=I.look
 exact PySem.W.method_fn X J (lV hg).1 (lV hg).2 hf (beq_iff_eq.mp ht) (by show (mF name od).map (·.isSome)=some false;rw[hl,hv];rfl) h
theorem Ah6{ns:List Str}{Q:Unit->aG->Prop}(X:K.In s.heap)(I:ObjM s.heap x dx C mA)
  (hs:bS K (.ref C) "__setattr__" = some (some (.builtin "object.__setattr__"))) (hp:jY K C=true) (ht:oQ K C name=some none) (hh:iM K C=true)
  (hw:qR mA ns) (hsz:ns.length<=sizeLine)
  (h:∀ h',ObjM h' x dx C (fun y=>if y=name then some v else mA y)->iE dx s.heap h'->Q () { s with heap:=h',toks:=s.toks+2 }) :
  wpAny (model prog w) A (setAttr (.ref x) name v) Q E s:=by
 obtain ⟨od,J,hl⟩:=I.look
 refine PySem.W.set_plain X J hs (PySem.W.osa_open (s:={ s with toks:=s.toks+1 }) (r:=none) X J hp ht fun b=>?_)
 obtain ⟨cd,hc,hd'⟩:=PySem.W.any_some hh
 have hx:s.heap.get? x=some ⟨.ref C,some dx,.plain,#[]⟩:=I.obj
 refine aB (aJ (aB (aB (wpAny_loadPart hx (aB (PySem.W.Looks.here (s:={ s with toks:=s.toks+1 }) (PySem.W.looks_clsIn X hc) ?_))))))
 rw[hd']
 refine aJ (a:=some dx) (aB (aJ (aB ?_)))
 refine wpAny_nsSet1 (s:={ s with toks:=s.toks+1 }) I.ns fun h' hn2 hs2=>?_
 obtain ⟨oD,esD,epD,hoD,hdD,hcD⟩:=hn2.count (qR.cons name v hw)
 refine aB (wpAny_lookBehind hoD (by rw[hdD];exact pastItsLine_dict (dN hcD (by rw[aO];omega))) ?_)
 exact aJ (h _ ⟨(hs2.2 _ (fY I.ne)).trans I.obj,hn2,I.ne⟩ hs2)
theorem Vc{R:sZ->aG->Prop}{vs:List aC}{kw:List (Str×aC)}(X:K.In s.heap)(hm:lJ K C=true)
  (hi:bS K (.ref C) "__init__" = some (some (.ref f))) (hf:PySem.W.typeIn K (.ref f)=some (.type "function"))
  (h:jK (model prog w) (A.under (.builtin "type.__call__" ⟨.ref C::vs,kw⟩)) (.call (.ref f) ⟨.ref (s.heap.objs.size+1)::vs,kw⟩) (PySem.W.InitBack (s.heap.objs.size+1) R)
   { s with heap:=(s.heap.push eM).push (fU C s.heap.objs.size) }) :
  jK (model prog w) A (.call (.ref C) ⟨vs,kw⟩) R s:=by
 obtain ⟨hh,g,d,t,os⟩:=s
 exact PySem.W.make_core (PySem.W.makes_of X hm) (PySem.W.looks_findIn X hi) (fun self=>PySem.W.bind_fn X self hf) (.inl rfl) h
end
noncomputable def putF(f:Str)(v:V):List (Str×V)->List (Str×V)
 | []=>[(f,v)]
 | (g,x)::r=>if g=f then (g,v)::r else (g,x)::putF f v r
theorem M9(f g:Str)(v:V):∀ fs:List (Str×V),(putF f v fs).lookup g=if g=f then some v else fs.lookup g
 | []=>by
  show fA g [(f,v)]=_
  by_cases h:g=f
  ·have hb:(g == f)=true:=beq_iff_eq.mpr h
   simp only[fA,hb,if_pos h]
  ·have hb:(g == f)=false:=beq_eq_false_iff_ne.mpr h
   simp only[fA,hb,if_neg h]
 | (k,x)::r=>by
  have ih:=M9 f g v r
  rw[show putF f v ((k,x)::r)=(if k=f then (k,v)::r else (k,x)::putF f v r) from rfl]
  by_cases hk:k=f
  ·rw[if_pos hk]
   by_cases h:g=k
   ·have hb:(g == k)=true:=beq_iff_eq.mpr h
    simp only[fA,hb,if_pos (h.trans hk)]
   ·have hb:(g == k)=false:=beq_eq_false_iff_ne.mpr h
    simp only[fA,hb,if_neg (fun e:g=f=>h (e.trans hk.symm))]
  ·rw[if_neg hk]
   by_cases h:g=k
   ·have hb:(g == k)=true:=beq_iff_eq.mpr h
    simp only[fA,hb,if_neg (fun e:g=f=>hk (h.symm.trans e))]
   ·have hb:(g == k)=false:=beq_eq_false_iff_ne.mpr h
    simp only[fA,hb]
    exact ih
theorem Mp(f:Str)(v:V):∀ fs:List (Str×V),f∈(putF f v fs).map (·.1)/\∀ g,g∈fs.map (·.1)->g∈(putF f v fs).map (·.1)
 | []=>⟨by simp[putF],fun g h=>by simp at h⟩
 | (k,x)::r=>by
  obtain ⟨i1,i2⟩:=Mp f v r
  rw[show putF f v ((k,x)::r)=(if k=f then (k,v)::r else (k,x)::putF f v r) from rfl]
  by_cases hk:k=f
  ·rw[if_pos hk]
   subst hk
   exact ⟨by simp,fun g h=>by simpa using h⟩
  ·rw[if_neg hk]
   refine ⟨?_,fun g h=>?_⟩
   ·rw[aL]
    exact bN _ i1
   ·rw[aL] at h ⊢
    rcases cI.mp h with e | e
    ·exact cI.mpr (.inl e)
    ·exact bN _ (i2 g e)
theorem Nk(f:Str)(v:V):∀ fs:List (Str×V),(putF f v fs).length<=fs.length+1
 | []=>by simp[putF]
 | (k,x)::r=>by
  have ih:=Nk f v r
  rw[show putF f v ((k,x)::r)=(if k=f then (k,v)::r else (k,x)::putF f v r) from rfl]
  by_cases hk:k=f
  ·rw[if_pos hk,aO,aO];omega
  ·rw[if_neg hk,aO,aO];omega
theorem RelO.some_of{v:V}{o:Option aC}(r:RelO (some v) o):∃ u,o=some u/\RelV v u:=by
 cases o with
 | none=>exact (show False from r).elim
 | some u=>exact ⟨u,rfl,r⟩
theorem RelO.none_of{o:Option aC}(r:RelO none o):o=none:=by
 cases o with
 | none=>rfl
 | some u=>exact (show False from r).elim
theorem Abx{v:V}{u:aC}(r:RelV v u):rW u=true:=by
 cases v with
 | non=>cases (show u=eA from r);rfl
 | bl b=>cases (show u=sW b from r);rfl
 | int i=>obtain ⟨t,e⟩:=(show ∃ t,u=jT i t from r);cases e;rfl
 | str x=>obtain ⟨t,e⟩:=(show ∃ t,u=pU x t from r);cases e;rfl
 | byt b=>obtain ⟨t,e⟩:=(show ∃ t,u=yH b t from r);cases e;rfl
 | flt b=>obtain ⟨t,e⟩:=(show ∃ t,u=yI b t from r);cases e;rfl
 | ref a=>cases (show u=cP a from r);rfl
 | ty n=>cases (show u=eV n from r);rfl
section
variable {P:bQ}{w:cC}{H H':Hp}{h h':Heap}{a C dx:Addr}{fs fs':List (Str×V)}
theorem Sa(hok:HOk P w H h)(e:H a=some (.ins C dx fs)):∃ mA,ObjM h a dx C mA/\(∀ f,RelO (fs.lookup f) (mA f))/\qR mA (fs.map (·.1))/\fs.length<=1000/\H dx=some (.own a):=by
 obtain ⟨d,z,ne,ob,mA,n,r,q⟩:=(show ObjOk P w H h a (.ins C dx fs) from hok a _ e)
 exact ⟨mA,⟨ob,n,ne⟩,r,q,z,d⟩
end
structure Cls(K:aD)(C:Addr):Prop where
 pg:hV K C yB=true
 hd:iM K C=true
 po:jY K C=true
 sa:bS K (.ref C) "__setattr__" = some (some (.builtin "object.__setattr__"))
theorem Cls.get{K:aD}{C:Addr}(c:Cls K C)(f:Str):hV K C f=true:=c.pg
noncomputable def NoAttr(K:aD)(C:Addr)(f:Str):Prop:=bS K (.ref C) f=some none
theorem NoAttr.taker{K:aD}{C:Addr}{f:Str}(n:NoAttr K C f):oQ K C f=some none:=by
 unfold oQ
 rw[show bS K (.ref C) f=some none from n]
 rfl
structure Con(K:aD)(C:Addr)(f:Str)(v:V)(u:aC):Prop where
 at_:bS K (.ref C) f=some (some u)
 rel:RelV v u
 get:qT K u "__get__" = some none
 cp:PySem.W.copiedNames.contains f=false
structure Meth(K:aD)(C:Addr)(m:Str)(f:Addr):Prop where
 at_:bS K (.ref C) m=some (some (.ref f))
 fn:cY K (.ref f)=true
 kp:aV K (.ref f)=true
section
variable {X:Cx}{pins:List (Addr×Obj)}{σ:St}{H:Hp}{s:aG}{a C dx:Addr}{fs:List (Str×V)}{f:Str}{v:V}{A:cL}{E:aC->aG->Prop}
theorem W4{b:Bool}{Q:aC->aG->Prop}(I:Inv X pins σ H s)(e:H a=some (.ins C dx fs))(c:Cls X.K C)(n:NoAttr X.K C f)(l:fs.lookup f=some v)
  (h:∀ u s',Inv X pins σ H s'->RelV v u->Q u s'):wpAny (model X.prog X.w) A (getAttr (.ref a) f b) Q E s:=by
 obtain ⟨mA,O,r,_,_,_⟩:=Sa I.hok e
 obtain ⟨u,hu,ru⟩:=RelO.some_of (v:=v) (o:=mA f) (by rw[<- l];exact r f)
 exact Agv I.kIn O (c.get f) c.hd n hu (Abx ru) (h u _ (I.tok _) ru)
theorem Ku{m:Str}{g:Addr}{pl:Sem Bool}{Q:aC×List aC->aG->Prop}(I:Inv X pins σ H s)(e:H a=some (.ins C dx fs))(c:Cls X.K C)(k:Meth X.K C m g)(l:fs.lookup m=none)
  (h:Q (.ref g,[.ref a]) s):wpAny (model X.prog X.w) A (getMethod (.ref a) m pl) Q E s:=by
 obtain ⟨mA,O,r,_,_,_⟩:=Sa I.hok e
 have hn:mA m=none:=RelO.none_of (by rw[<- l];exact r m)
 exact Ad0 I.kIn O (c.get m) k.at_ k.fn hn h
theorem Wu{y:V}{u:aC}{Q:Unit->aG->Prop}(I:Inv X pins σ H s)(e:H a=some (.ins C dx fs))(c:Cls X.K C)(n:NoAttr X.K C f)(hl:fs.length < 1000)(ry:RelV y u)
  (h:∀ s',Inv X pins σ (upd H a (.ins C dx (putF f y fs))) s'->Q () s'):wpAny (model X.prog X.w) A (setAttr (.ref a) f u) Q E s:=by
 obtain ⟨mA,O,r,wi,_,ho⟩:=Sa I.hok e
 have hz:(fs.map (·.1)).length<=sizeLine:=by rw[cH,eC];omega
 refine Ah6 I.kIn O c.sa c.po n.taker c.hd wi hz fun h' O' sb=>h _ ?_
 have hd:∃ o,h'.get? dx=some o:=let ⟨o,_,_,e',_⟩:=O'.ns;⟨o,e'⟩
 refine I.write (x:=a) (e:=dx) (by rw[e];exact iR) (.inr ho) (fun b q hb z=>(sb.2 b hb).trans z) hd ?_
 refine ⟨by rw[Az O.ne];exact ho,?_,O.ne,O'.obj,_,O'.ns,fun g=>?_,fun g hg=>?_⟩
 ·have:=Nk f y fs;omega
 ·show RelO ((putF f y fs).lookup g) (if g=f then some u else mA g)
  rw[M9]
  by_cases q:g=f
  ·rw[if_pos q,if_pos q];exact ry
  ·rw[if_neg q,if_neg q];exact r g
 ·by_cases q:g=f
  ·rw[q];exact (Mp f y fs).1
  ·refine (Mp f y fs).2 g (wi g fun z=>hg ?_)
   show (if g=f then some u else mA g)=none
   rw[if_neg q];exact z
theorem Inv.made(I:Inv X pins σ H s):Inv X pins σ (upd (upd H s.heap.objs.size (.own (s.heap.objs.size+1))) (s.heap.objs.size+1) (.ins C s.heap.objs.size []))
  { s with heap:=(s.heap.push eM).push (fU C s.heap.objs.size) }:=by
 have e1:(s.heap.push eM).get? s.heap.objs.size=some eM:=aP s.heap rfl
 have e2:((s.heap.push eM).push (fU C s.heap.objs.size)).get? (s.heap.objs.size+1)=some (fU C s.heap.objs.size):=by
  have:=aP (s.heap.push eM) (o:=fU C s.heap.objs.size) rfl
  rwa [dC] at this
 have e3:(s.heap.push eM).Ns s.heap.objs.size (fun _=>none):=⟨eM,#[],_,e1,rfl,(fun e he=>absurd he (by simp)),fun _=>rfl⟩
 have I1:=I.laid (a:=s.heap.objs.size) (o:=.own (s.heap.objs.size+1)) (h':=s.heap.push eM) (t':=s.toks) (fun b u q=>aF _ q) (aN _) ⟨_,e1⟩
 refine I1.laid (a:=s.heap.objs.size+1) (o:=.ins C s.heap.objs.size []) (t':=s.toks) (fun b u q=>aF _ q) (jZ (dC _ _)) ?_
 have ne:s.heap.objs.size≠s.heap.objs.size+1:=bY (eI _)
 refine ⟨by rw[Az ne,upd_same],eR _,ne,e2,fun _=>none,(Heap.Ns1.of_empty e3).at fun o q=>aF _ q,fun _=>iR,fun y hy=>absurd rfl hy⟩
theorem Ai1{prog:bQ}{w:cC}{env:Env}{e:Expr}{f:Str}{pos:Pos}{s:aG}{Q:aC->aG->Prop}(hb:attributeBase e f env (eval e env)=eval e env)
  (h:wpAny (model prog w) A (eval e env) (fun o s₁=>wpAny (model prog w) A (getAttr o f true) Q E s₁) E s):wpAny (model prog w) A (eval (.Attribute e f pos) env) Q E s:=
 Attribute_any_ h (by rw[arm_eval_Attribute,hb])
end
inductive FldR(K:aD)(f:Str)(Q:VK)(x:V)(H1:Hp):Prop
 | mk (a:_) (C:_) (dx:_) (fs:_) (v:_) (h0:x = .ref a) (h1:H1 a=some (.ins C dx fs)) (h2:Cls K C) (h3:NoAttr K C f) (h4:fs.lookup f=some v) (h5:Q v H1):FldR K f Q x H1
noncomputable def Aqd(K:aD)(ta:TE)(f:Str):TE:=fun σ H Q=>ta σ H (FldR K f Q)
noncomputable def Aqh(K:aD)(ta tv:TE)(f:Str):TS:=fun D σ H=>tv σ H fun y H1=>ta σ H1 fun x H2=>∃ a C dx fs,x = .ref a/\H2 a=some (.ins C dx fs)/\Cls K C/\NoAttr K C f/\fs.length < 1000 /\
 D.nx σ (upd H2 a (.ins C dx (putF f y fs)))
section
variable {X:Cx}{o e value:Expr}{f:Str}{pos pos' tpos:Pos}{ta tv:TE}
theorem Amq(he:PE X e ta)(hb:attributeBase e f X.env (eval e X.env)=eval e X.env):PE X (.Attribute e f pos) (Aqd X.K ta f):=by
 intro pins s σ H Q I h
 refine Ai1 hb (thn (he pins s σ H _ I h) fun u s1 zz=>?_)
 obtain ⟨x,H1,I1,rx,a,C,dx,fs,v,ex,ea,c,n,l,q⟩:=zz
 subst ex
 obtain rfl:u=cP a:=rx
 exact W4 I1 ea c n l fun u' s2 I2 ru=>⟨v,H1,I2,ru,q⟩
theorem Alc(ha:PE X o ta)(hv:PE X value tv)(hs:swapsWith value (some (.Attribute o f pos')) pos.line X.env=pure false):PS X (.Assign [.Attribute o f pos'] value pos) (Aqh X.K ta tv f):=by
 intro pins s σ H D I h
 refine plainObj_wpAny_Assign_Attribute (thn (hv pins s σ H _ I h) fun u s1 zz=>zz.elim fun y H1 I1 ry q=>thn (ha pins s1 σ H1 _ I1 q) fun ov s2 zz=>zz.elim fun x H2 I2 rx zq=>?_) hs
 obtain ⟨a,C,dx,fs,ex,ea,c,n,l,q2⟩:=zq
 subst ex
 obtain rfl:ov=cP a:=rx
 exact Wu I2 ea c n l ry fun s3 I3=>⟨σ,_,I3,q2⟩
end
section
variable {X:Cx}{pins:List (Addr×Obj)}{σ:St}{H:Hp}{s:aG}{A:cL}{E:aC->aG->Prop}{Q:aC->aG->Prop}{c:aC}{b:Bool}
inductive TyOf(K:aD)(H:Hp):V->aC->Prop where
 | non:TyOf K H .non (.type "NoneType")
 | bl (x:Bool):TyOf K H (.bl x) (.type "bool")
 | int (i:Int):TyOf K H (.int i) (.type "int")
 | str (x:Str):TyOf K H (.str x) (.type "str")
 | flt (x:UInt64):TyOf K H (.flt x) (.type "float")
 | lst {a:Addr} {xs:List V} (e:H a=some (.lst xs)):TyOf K H (.ref a) (.type "list")
 | frz {a:Addr} {o:Obj} {xs:List V} (e:H a=some (.frz o (.lst xs))):TyOf K H (.ref a) (.type "list")
 | tup {a:Addr} {xs:List V} (e:H a=some (.tup xs)):TyOf K H (.ref a) (.type "tuple")
 | dK {a:Addr} {kvs:List (Key×V)} (e:H a=some (.dK kvs)):TyOf K H (.ref a) (.type "dict")
 | dT {a:Addr} {kvs:List (List Key×V)} (e:H a=some (.dT kvs)):TyOf K H (.ref a) (.type "dict")
 | ins {a C dx:Addr} {fs:List (Str×V)} (e:H a=some (.ins C dx fs)) (cl:Cls K C) (ha:bS K (.ref C) "__class__" = some (some (.builtin "object.__class__")))
   (hn:qT K (.builtin "object.__class__") "__get__" = some (some (.builtin "getset_descriptor.__get__"))) (htk:PySem.W.takesIn K (.builtin "object.__class__")=some true)
   (hm:PySem.W.mroIn K C (.type "object")=some true):TyOf K H (.ref a) (.ref C)
end
structure Room(k:Nat)(A:cL):Prop where
 hd:A.handled=none
 dp:A.depth+3 * k+5 < recursionLimit
 un:A.units+16 * k+200 < cLine
theorem Room.mono{j k:Nat}{A:cL}(r:Room k A)(h:j<=k):Room j A:=⟨r.hd,by have:=r.dp;omega,by have:=r.un;omega⟩
theorem Room.deeper{k:Nat}{A:cL}(r:Room (k+1) A)(env:Env):Room k (A.deeper env):=
 ⟨r.hd,by have:=r.dp;show A.depth+1+3 * k+5 < _;omega,by have:=r.un;show A.units+3+16 * k+200 < _;omega⟩
theorem Room.in1{k:Nat}{A:cL}(r:Room (k+1) A):Room k A.in1:=
 ⟨r.hd,by have:=r.dp;show A.depth+3 * k+5 < _;omega,by have:=r.un;show A.units+1+16 * k+200 < _;omega⟩
theorem Xi{A:cL}{C:Addr}{us:List aC}{kw:List (Str×aC)}:(A.under (.builtin "type.__call__" ⟨.ref C::us,kw⟩)).depth=A.depth+1:=by
 first | rfl | simp[qU,Code.weight,Code.isCreation,Code.isGuard,Code.isCaller,yK,qV,guardIds]
theorem Xa{A:cL}{C:Addr}{us:List aC}{kw:List (Str×aC)}:(A.under (.builtin "type.__call__" ⟨.ref C::us,kw⟩)).units=A.units+1:=by
 first | rfl | simp[qU,Code.cUnits,yK,qV]
theorem Room.make{k:Nat}{A:cL}(r:Room (k+1) A)(C:Addr)(us:List aC)(kw:List (Str×aC)):Room k (A.under (.builtin "type.__call__" ⟨.ref C::us,kw⟩)):=
 ⟨r.hd,by have:=r.dp;rw[Xi];omega,by have:=r.un;rw[Xa];omega⟩
theorem Room.depth{k:Nat}{A:cL}(r:Room k A):A.depth < recursionLimit:=by have:=r.dp;omega
theorem Room.units{k:Nat}{A:cL}(r:Room k A):A.units+64 < cLine:=by have:=r.un;omega
noncomputable def Ahd:TA:=fun _ H Q=>Q [] H
noncomputable def Aj2(ta:TE)(tr:TA):TA:=fun σ H Q=>ta σ H fun x H1=>tr σ H1 fun xs H2=>Q (x::xs) H2
section
variable {X:Cx}{e:Expr}{es:List Expr}{te:TE}{t:TA}{pos:Pos}
theorem Amg:PA X [] Ahd:=fun _ _ _ _ H Q I h=>kA ⟨[],H,I,.nil,h⟩
theorem Ahy(ha:PE X e te)(hr:PA X es t)(hs:bP (e::es) X.env=(false,eval e X.env)::bP es X.env:=by rfl):PA X (e::es) (Aj2 te t):=by
 intro pos pins s σ H Q I h
 rw[hs]
 show wpAny _ _ (spliced ((false,eval e X.env)::backTo pos (bP es X.env))) _ _ s
 refine jP (thn (ha pins s σ H _ I h) fun u s1 zz=>?_)
 obtain ⟨x,H1,I1,r1,q1⟩:=zz
 refine thn (hr pos pins s1 σ H1 _ I1 q1) fun us s2 zz=>?_
 obtain ⟨xs,H2,I2,r2,q2⟩:=zz
 exact ⟨x::xs,H2,I2,.cons r1 r2,q2⟩
noncomputable def Aqs(t:TA):TE:=fun σ H Q=>t σ H fun xs H1=>xs.length<=sizeLine/\∀ p,H1 p=none->Q (.ref p) (upd H1 p (.tup xs))
noncomputable def Aqf(t:TA):TE:=fun σ H Q=>t σ H fun xs H1=>xs.length<=sizeLine/\∀ p,H1 p=none->Q (.ref p) (upd H1 p (.lst xs))
theorem Alm{x1}(h:PA X es t):PE X (.Tuple es x1 pos) (Aqs t):=by
 intro pins s σ H Q I hq
 refine wpAny_Tuple_spliced (thn (h pos pins s σ H _ I hq) fun us s1 zz=>zz.elim fun xs H1 I1 r zq=>⟨by rw[<- r.length];exact zq.1,?_⟩)
 obtain ⟨z,q⟩:=zq
 have hf:H1 s1.heap.objs.size=none:=I1.hok.fresh (aN _)
 refine ⟨.ref s1.heap.objs.size,upd H1 s1.heap.objs.size (.tup xs),I1.laid (t':=s1.toks) (fun b u e=>aF _ e) (aN _) ?_,rfl,q _ hf⟩
 exact ⟨z,us,r,⟨_,aP _ rfl,rfl,_,rfl⟩⟩
theorem Anf(h:PA X es t):PE X (.List es pos) (Aqf t):=by
 intro pins s σ H Q I hq
 refine wpAny_List_spliced (thn (h pos pins s σ H _ I hq) fun us s1 zz=>zz.elim fun xs H1 I1 r zq=>⟨by rw[<- r.length];exact zq.1,?_⟩)
 obtain ⟨z,q⟩:=zq
 have hf:H1 s1.heap.objs.size=none:=I1.hok.fresh (aN _)
 refine ⟨.ref s1.heap.objs.size,upd H1 s1.heap.objs.size (.lst xs),I1.laid (t':=s1.toks) (fun b u e=>aF _ e) (aN _) ?_,rfl,q _ hf⟩
 exact ⟨z,us,0,r,aP _ rfl⟩
end
abbrev Sp:=List V->Hp->VK->XK->Prop
abbrev CXT:=List Env->Hp->aG->XK->aC->aG->Prop
structure Env0(P:bQ)(w:cC)(K:aD)(mg:Str->Option aC)(base:Heap)(A:cL)(outer:List Env)(s:aG)(H:Hp):Prop where
 frames:A.frames=some outer
 mod:Mod K mg base
 bs:∀ b o,base.get? b=some o->s.heap.get? b=some o/\H b=none
 bsz:base.objs.size<=s.heap.objs.size
 funs:s.heap.FunFrames base outer
 frf:∀ b∈frs outer,H b=none
 hok:HOk P w H s.heap
 bare:mU s.gens
inductive CE(outer:List Env)(P:bQ)(w:cC)(H:Hp)(s:aG)(Q:VK)(u:aC)(s':aG):Prop
 | mk (v:V) (H':Hp) (os:s'.os=s.os) (bare:mU s'.gens) (un:Un (frs outer) [] H H' s.heap s'.heap) (hok:HOk P w H' s'.heap) (r:RelV v u) (q:Q v H'):CE outer P w H s Q u s'
noncomputable def CR(CX:CXT)(outer:List Env)(P:bQ)(w:cC)(H:Hp)(s:aG)(Q:VK)(E:XK)(r:sZ)(s':aG):Prop:=
 match r with
 | .ok (.ret u)=>CE outer P w H s Q u s'
 | .ok _=>False
 | .error e=>CX outer H s E e s'
structure FnOk(P:bQ)(w:cC)(K:aD)(mg:Str->Option aC)(base:Heap)(CX:CXT)(k:Nat)(f:Addr)(fd:bT)(ps:List Str)(sp:Sp):Prop where
 len:∀ vs H Q E,sp vs H Q E->vs.length=ps.length
 run:∀ (A:cL) (outer:List Env) (s:aG) (H:Hp) (args:Args) (us:List aC) (vs:List V) (Q:VK) (E:XK),Room k A->Env0 P w K mg base A outer s H->pV s fd args (ps.zip us)->Vals vs us->sp vs H Q E ->
  jK (model P w) A (.call (.ref f) args) (CR CX outer P w H s Q E) s
theorem FnOk.mono{P:bQ}{w:cC}{K:aD}{mg:Str->Option aC}{base:Heap}{CX:CXT}{j k:Nat}{f:Addr}{fd:bT}{ps:List Str}{sp:Sp}(F:FnOk P w K mg base CX j f fd ps sp)(h:j<=k) :
  FnOk P w K mg base CX k f fd ps sp:=⟨F.len,fun A outer s H args us vs Q E hr=>F.run A outer s H args us vs Q E (hr.mono h)⟩
theorem FnOk.imp{P:bQ}{w:cC}{K:aD}{mg:Str->Option aC}{base:Heap}{CX:CXT}{k:Nat}{f:Addr}{fd:bT}{ps:List Str}{sp sp':Sp}(F:FnOk P w K mg base CX k f fd ps sp)
  (h:∀ vs H Q E,sp' vs H Q E->sp vs H Q E):FnOk P w K mg base CX k f fd ps sp':=
 ⟨fun vs H Q E q=>F.len vs H Q E (h _ _ _ _ q),fun A outer s H args us vs Q E hr he hb hv hs=>F.run A outer s H args us vs Q E hr he hb hv (h _ _ _ _ hs)⟩
theorem Env0.make{P:bQ}{w:cC}{K:aD}{mg:Str->Option aC}{base:Heap}{A:cL}{outer:List Env}{s:aG}{H:Hp}(e:Env0 P w K mg base A outer s H)(C:Addr)(us:List aC)(kw:List (Str×aC)) :
  Env0 P w K mg base (A.under (.builtin "type.__call__" ⟨.ref C::us,kw⟩)) outer s H:=⟨by first | exact e.frames | (simpa[qU,Code.envs,qV,pushEnvs] using e.frames),e.mod,e.bs,e.bsz,e.funs,e.frf,e.hok,e.bare⟩
theorem Env0.in1{P:bQ}{w:cC}{K:aD}{mg:Str->Option aC}{base:Heap}{A:cL}{outer:List Env}{s:aG}{H:Hp}(e:Env0 P w K mg base A outer s H) :
  Env0 P w K mg base A.in1 outer s H:=⟨e.frames,e.mod,e.bs,e.bsz,e.funs,e.frf,e.hok,e.bare⟩
section
variable {X:Cx}{pins:List (Addr×Obj)}{σ:St}{H:Hp}{s s':aG}
theorem Inv.env0(I:Inv X pins σ H s):Env0 X.prog X.w X.K X.mg X.base X.A X.stack s H:=
 ⟨I.ok.frames,I.ok.mod,I.bs,dN I.ok.bsz I.sz,I.stack,I.stkFree,I.hok,I.bare⟩
theorem Inv.after{Q:VK}{u:aC}(I:Inv X pins σ H s)(h:CE X.stack X.prog X.w H s Q u s'):EP X pins σ Q u s':=by
 obtain ⟨v,H',os,bare,un,hok,r,q⟩:=h
 obtain ⟨hh,g,d,t,os'⟩:=s'
 obtain rfl:os'=s.os:=os
 exact ⟨v,H',I.call (h':=hh) (g':=g) (d':=d) (t':=t) (ch:=[]) un hok bare (fun b z=>absurd z (by simp)),r,q⟩
end
noncomputable def Aof(sp:Sp)(dvs:List V)(E:XK)(t:TA):TE:=fun σ H Q=>t σ H fun vs H1=>sp (vs++dvs) H1 Q E
noncomputable def Adz(C:Addr)(m:Str)(sp:Sp)(dvs:List V)(E:XK)(ta:TE)(t:TA):TE:=fun σ H Q=>ta σ H fun x H1=>∃ a dx fs,x = .ref a/\H1 a=some (.ins C dx fs)/\fs.lookup m=none /\
 t σ H1 fun vs H2=>sp (x::(vs++dvs)) H2 Q E
noncomputable def Akf(C:Addr)(sp:Sp)(dvs:List V)(E:XK)(t:TA):TE:=fun σ H Q=>t σ H fun vs H1=>∀ x dx,H1 x=none->H1 dx=none->dx≠x ->
 sp (.ref x::(vs++dvs)) (upd (upd H1 dx (.own x)) x (.ins C dx [])) (fun v H2=>v = .non/\Q (.ref x) H2) E
noncomputable def Binds(K:aD)(fd:bT)(ps:List Str)(ds:List aC):Prop:=
 ∀ (s:aG) (us:List aC),K.In s.heap->(us++ds).length=ps.length->pV s fd ⟨us,[]⟩ (ps.zip (us++ds))
theorem Binds.all{K:aD}{fd:bT}{ps:List Str}(h:∀ us:List aC,us.length=ps.length->tD fd ⟨us,[]⟩=pure (ps.zip us)):Binds K fd ps []:=fun s us _ hl=>by
 rw[aT] at hl ⊢
 exact .of_eq (h us hl)
noncomputable def Il(CX:CXT)(X:Cx)(E:XK):Prop:=∀ (pins:List (Addr×Obj)) (σ:St) (H:Hp) (s:aG) (e:aC) (s':aG),Inv X pins σ H s->CX X.stack H s E e s'->X.xe e s'
section
variable {X:Cx}{CX:CXT}{k:Nat}{f C:Addr}{fd:bT}{ps:List Str}{sp:Sp}{dvs:List V}{ds:List aC}{E:XK}{x m:Str}{p pos apos:Pos}{e o:Expr}{es:List Expr}{ta:TE}{t:TA}
theorem Xk{pins:List (Addr×Obj)}{σ:St}{H:Hp}{s:aG}{Q:VK}{us:List aC}{vs:List V}(F:FnOk X.prog X.w X.K X.mg X.base CX k f fd ps sp)(hr:Room k X.A)(hb:Binds X.K fd ps ds)(hd:Vals dvs ds)(hx:Il CX X E)
  (I:Inv X pins σ H s) (r:Vals vs us) (h:sp (vs++dvs) H Q E):wpAny (model X.prog X.w) X.A (call (.ref f) us) (EP X pins σ Q) X.xe s:=by
 have r2:Vals (vs++dvs) (us++ds):=r.append hd
 have hl:(us++ds).length=ps.length:=by rw[<- r2.length];exact F.len _ _ _ _ h
 refine kN (fL (F.run X.A X.stack s H ⟨us,[]⟩ (us++ds) (vs++dvs) Q E hr I.env0 (hb s us I.kIn hl) r2 h) fun r s' hq=>?_)
 cases r with
 | error e=>exact hx pins σ H s e s' I hq
 | ok fl=>
  cases fl with
  | ret u=>exact I.after hq
  | next=>exact dH hq
  | brk=>exact dH hq
  | cont=>exact dH hq
theorem Ag6(F:FnOk X.prog X.w X.K X.mg X.base CX k f fd ps sp)(hr:Room k X.A)(hg:Gl X x)(hm:X.mg x=some (.ref f))(hk:aV X.K (.ref f)=true)(hb:Binds X.K fd ps ds)(hd:Vals dvs ds)(hx:Il CX X E)
  (ha:PA X (e::es) t) (hdb:(x == ("__debug__" : Str))=false:=by decide) (he:bP (e::es) X.env=(false,eval e X.env)::bP es X.env:=by rfl) (hpl:(backTo pos (bP es X.env)).any (·.1)=false:=by rfl) :
  PE X (.Call (.Name x p) (e::es) [] pos) (Aof sp dvs E t):=by
 intro pins s σ H Q I h
 refine dD (Ke I hg hm ?_ hdb)
 refine qI (h₀:=X.base) I.ok.mod.kin hk (thn (ha pos pins s σ H _ I h) fun us s1 zz=>zz.elim fun vs H1 I1 r q=>⟨I1.kIn,?_⟩) he hpl
 exact Xk F hr hb hd hx I1 r q
theorem Ag4{pl:Sem Bool}(he:PE X o ta)(c:Cls X.K C)(hm:Meth X.K C m f)(F:FnOk X.prog X.w X.K X.mg X.base CX k f fd ps sp)(hr:Room k X.A)(hb:Binds X.K fd ps ds)(hd:Vals dvs ds)(hx:Il CX X E)(ha:PA X (e::es) t)
  (hst:bP (e::es) X.env=(false,eval e X.env)::bP es X.env:=by rfl) (hpl:(backTo pos (bP es X.env)).any (·.1)=false:=by rfl)
  (ht:eval (.Call (.Attribute o m apos) (e::es) [] pos) X.env=(do
   let ov <- eval o X.env
   standAt apos.atName
   let (f,first) <- holding [ov] (getMethod ov m pl)
   callWith pos f first (backTo pos (bP (e::es) X.env)) (backToKw pos (keywordEach [] X.env))):=by rfl) :
  PE X (.Call (.Attribute o m apos) (e::es) [] pos) (Adz C m sp dvs E ta t):=by
 intro pins s σ H Q I h
 refine kJ (pl:=pl) (thn (he pins s σ H _ I h) fun u s1 zz=>zz.elim fun x H1 I1 rx zq=>?_) ht
 obtain ⟨a,dx,fs,ex,ea,l,q⟩:=zq
 subst ex
 obtain rfl:u=cP a:=rx
 refine Ku I1 ea c hm l ?_
 refine qI (first:=[.ref a]) (h₀:=X.base) I.ok.mod.kin hm.kp (thn (ha pos pins s1 σ H1 _ I1 q) fun us s2 zz=>zz.elim fun vs H2 I2 r q2=>⟨I2.kIn,?_⟩) hst hpl
 exact Xk (us:=.ref a::us) (vs:=.ref a::vs) F hr hb hd hx I2 (.cons rfl r) q2
theorem Ac8{pl:Sem Bool}(he:PE X o ta)(c:Cls X.K C)(hm:Meth X.K C m f)(F:FnOk X.prog X.w X.K X.mg X.base CX k f fd ps sp)(hr:Room k X.A)(hb:Binds X.K fd ps ds)(hd:Vals dvs ds)(hx:Il CX X E)
  (ht:eval (.Call (.Attribute o m apos) [] [] pos) X.env=(do
   let ov <- eval o X.env
   standAt apos.atName
   let (f,first) <- holding [ov] (getMethod ov m pl)
   callWith pos f first (backTo pos (bP [] X.env)) (backToKw pos (keywordEach [] X.env))):=by rfl) :
  PE X (.Call (.Attribute o m apos) [] [] pos) (Adz C m sp dvs E ta Ahd):=by
 intro pins s σ H Q I h
 refine kJ (pl:=pl) (thn (he pins s σ H _ I h) fun u s1 zz=>zz.elim fun x H1 I1 rx zq=>?_) ht
 obtain ⟨a,dx,fs,ex,ea,l,q⟩:=zq
 subst ex
 obtain rfl:u=cP a:=rx
 refine Ku I1 ea c hm l ?_
 exact pW (first:=[.ref a]) I1.kIn hm.kp (Xk (us:=[.ref a]) (vs:=[.ref a]) F hr hb hd hx I1 (.cons rfl .nil) q)
structure Mk(K:aD)(C f:Addr):Prop where
 makes:lJ K C=true
 init:bS K (.ref C) "__init__" = some (some (.ref f))
 fn:cY K (.ref f)=true
 kp:aV K (.ref C)=true
theorem Acn{pins:List (Addr×Obj)}{σ:St}{H:Hp}{s:aG}{Q:VK}{us:List aC}{vs:List V}(M:Mk X.K C f)(F:FnOk X.prog X.w X.K X.mg X.base CX k f fd ps sp)(hr:Room (k+1) X.A)(hb:Binds X.K fd ps ds)(hd:Vals dvs ds)
  (hx:Il CX X E) (I:Inv X pins σ H s) (r:Vals vs us)
  (h:∀ x dx,H x=none->H dx=none->dx≠x->sp (.ref x::(vs++dvs)) (upd (upd H dx (.own x)) x (.ins C dx [])) (fun v H2=>v = .non/\Q (.ref x) H2) E) :
  wpAny (model X.prog X.w) X.A (call (.ref C) us) (EP X pins σ Q) X.xe s:=by
 have hq:=h (s.heap.objs.size+1) s.heap.objs.size (I.hok.fresh (kU _)) (I.hok.fresh (aN _)) (bY (eI _))
 have I2:=Inv.made (C:=C) I
 have r2:Vals (V.ref (s.heap.objs.size+1)::(vs++dvs)) (cP (s.heap.objs.size+1)::(us++ds)):=.cons rfl (r.append hd)
 have hl:(cP (s.heap.objs.size+1)::us++ds).length=ps.length:=by
  have e:=r2.length
  rw[F.len _ _ _ _ hq] at e
  exact e.symm
 refine kN (Vc (f:=f) I.kIn M.makes M.init (beq_iff_eq.mp M.fn) (fL (F.run _ X.stack _ _ ⟨cP (s.heap.objs.size+1)::us,[]⟩ (cP (s.heap.objs.size+1)::(us++ds)) _ _ E (hr.make C us [])
  (I2.env0.make C us []) (hb _ (cP (s.heap.objs.size+1)::us) I2.kIn hl) r2 hq) fun r s' hq'=>?_))
 cases r with
 | error e=>exact hx pins σ _ _ e s' I2 hq'
 | ok fl=>
  cases fl with
  | ret u=>
   obtain ⟨v,H',I3,rv,ev,q3⟩:=I2.after hq'
   subst ev
   exact ⟨rv,⟨V.ref (s.heap.objs.size+1),H',I3,rfl,q3⟩⟩
  | next=>exact dH hq'
  | brk=>exact dH hq'
  | cont=>exact dH hq'
theorem Aek(M:Mk X.K C f)(F:FnOk X.prog X.w X.K X.mg X.base CX k f fd ps sp)(hr:Room (k+1) X.A)(hg:Gl X x)(hm:X.mg x=some (.ref C))(hb:Binds X.K fd ps ds)(hd:Vals dvs ds)(hx:Il CX X E)
  (hdb:(x == ("__debug__" : Str))=false:=by decide):PE X (.Call (.Name x p) [] [] pos) (Akf C sp dvs E Ahd):=by
 intro pins s σ H Q I h
 refine dD (Ke I hg hm ?_ hdb)
 exact pW I.kIn M.kp (Acn (us:=[]) M F hr hb hd hx I .nil h)
end
noncomputable def PK(X:Cx)(kws:List jL)(t:TA):Prop:=
 ∀ (pos:Pos) (pins:List (Addr×Obj)) (s:aG) (σ:St) (H:Hp) (Q:List V->Hp->Prop),Inv X pins σ H s->t σ H Q->wpAny (model X.prog X.w) X.A (evalAll ((backToKw pos (keywordEach kws X.env)).map (·.2))) (AP X pins σ Q) X.xe s
section
variable {X:Cx}{CX:CXT}{k:Nat}{f C:Addr}{fd:bT}{ps ks:List Str}{sp:Sp}{E:XK}{x m:Str}{p pos apos kpos:Pos}{e o:Expr}{es:List Expr}{kws:List jL}{te ta:TE}{t tk:TA}{nm:Option Str}
theorem Wr:PK X [] Ahd:=fun _ _ _ _ H Q I h=>wpAny_evalAll_nil ⟨[],H,I,.nil,h⟩
theorem Sj(ha:PE X e te)(hr:PK X kws t):PK X (⟨nm,e,kpos⟩::kws) (Aj2 te t):=by
 intro pos pins s σ H Q I h
 show wpAny _ _ (evalAll ((do let v <- eval e X.env;standAt pos;pure v)::(backToKw pos (keywordEach kws X.env)).map (·.2))) _ _ s
 refine wpAny_evalAll_cons (aB (thn (ha pins s σ H _ I h) fun u s1 zz=>zz.elim fun x H1 I1 r1 q1=>aB (nI (aJ ?_))))
 refine thn (hr pos pins s1 σ H1 _ I1 q1) fun us s2 zz=>?_
 obtain ⟨xs,H2,I2,r2,q2⟩:=zz
 exact ⟨x::xs,H2,I2,.cons r1 r2,q2⟩
structure KBinds(K:aD)(fd:bT)(ps ks:List Str)(g:List aC->List aC->List aC)(gV:List V->List V->List V):Prop where
 to:∀ (s:aG) (us ws:List aC),K.In s.heap->(g us ws).length=ps.length->pV s fd ⟨us,ks.zip ws⟩ (ps.zip (g us ws))
 rel:∀ {vs:List V} {us:List aC} {zs:List V} {ws:List aC},Vals vs us->Vals zs ws->Vals (gV vs zs) (g us ws)
variable {g:List aC->List aC->List aC}{gV:List V->List V->List V}
theorem Rq{pins:List (Addr×Obj)}{σ:St}{H:Hp}{s:aG}{Q:VK}{us ws:List aC}{vs zs:List V}(F:FnOk X.prog X.w X.K X.mg X.base CX k f fd ps sp)(hr:Room k X.A)(hb:KBinds X.K fd ps ks g gV)(hx:Il CX X E)
  (I:Inv X pins σ H s) (r:Vals vs us) (rz:Vals zs ws) (h:sp (gV vs zs) H Q E):wpAny (model X.prog X.w) X.A (call (.ref f) us (ks.zip ws)) (EP X pins σ Q) X.xe s:=by
 have r2:=hb.rel r rz
 have hl:(g us ws).length=ps.length:=by rw[<- r2.length];exact F.len _ _ _ _ h
 refine kN (fL (F.run X.A X.stack s H ⟨us,ks.zip ws⟩ (g us ws) (gV vs zs) Q E hr I.env0 (hb.to s us ws I.kIn hl) r2 h) fun r s' hq=>?_)
 cases r with
 | error e=>exact hx pins σ H s e s' I hq
 | ok fl=>
  cases fl with
  | ret u=>exact I.after hq
  | next=>exact dH hq
  | brk=>exact dH hq
  | cont=>exact dH hq
end
structure FnScope(N P:List Str)(sc:jX):Prop where
 kind:sc.kind = .function
 co:sc.isCoroutine=false
 gen:sc.isGenerator=false
 nd:N.Nodup
 pre:N.take P.length=P
 par:∀ x∈P,sc.names.lookup x=some .local\/sc.names.lookup x=some .cell
 nofree:∀ y∈sc.names,y.2≠.free
theorem Q4{kindOf:Str->Option jG}{x:Str}:∀ {binds:List (Str×aC)} {m:Str->Option aC},(∀ v,(x,v)∉binds)->bindL kindOf binds m x=m x
 | [],_,_=>rfl
 | (n,v)::r,m,h=>by
  unfold bindL
  rw[Q4 fun w hw=>h w (bN _ hw)]
  split
  ·have:x≠n:=by rintro rfl;exact h v cN
   simp[this]
  ·rfl
theorem Rm{kindOf:Str->Option jG}{x:Str}:∀ {binds:List (Str×aC)} {m:Str->Option aC},(∀ v,(x,v)∉binds)->bindC kindOf binds m x=m x
 | [],_,_=>rfl
 | (n,v)::r,m,h=>by
  unfold bindC
  rw[Rm fun w hw=>h w (bN _ hw)]
  split
  ·rfl
  ·have:x≠n:=by rintro rfl;exact h v cN
   simp[this]
theorem Qu{kindOf:Str->Option jG}{x:Str}{v:aC}:∀ {P:List Str} {vs:List aC} {i:Nat} {m:Str->Option aC},P.Nodup->P[i]? = some x->vs[i]? = some v->kindOf x=some .local ->
  bindL kindOf (P.zip vs) m x=some v
 | [],_,_,_,_,h,_,_=>by simp at h
 | _::_,[],_,_,_,_,h,_=>by simp at h
 | p::P,w::vs,0,m,nd,h1,h2,hk=>by
  simp at h1 h2;subst h1;subst h2
  show bindL kindOf ((p,w)::P.zip vs) m p=_
  unfold bindL
  rw[Q4 fun v hv=>(lK.mp nd).1 (oR hv).1,if_pos hk]
  simp
 | p::P,w::vs,i+1,m,nd,h1,h2,hk=>by
  show bindL kindOf ((p,w)::P.zip vs) m x=_
  unfold bindL
  exact Qu (i:=i) (lK.mp nd).2 (by simpa using h1) (by simpa using h2) hk
theorem Ri{kindOf:Str->Option jG}{x:Str}{v:aC}:∀ {P:List Str} {vs:List aC} {i:Nat} {m:Str->Option aC},P.Nodup->P[i]? = some x->vs[i]? = some v->kindOf x≠some .local ->
  bindC kindOf (P.zip vs) m x=some v
 | [],_,_,_,_,h,_,_=>by simp at h
 | _::_,[],_,_,_,_,h,_=>by simp at h
 | p::P,w::vs,0,m,nd,h1,h2,hk=>by
  simp at h1 h2;subst h1;subst h2
  show bindC kindOf ((p,w)::P.zip vs) m p=_
  unfold bindC
  rw[Rm fun v hv=>(lK.mp nd).1 (oR hv).1,if_neg hk]
  simp
 | p::P,w::vs,i+1,m,nd,h1,h2,hk=>by
  show bindC kindOf ((p,w)::P.zip vs) m x=_
  unfold bindC
  exact Ri (i:=i) (lK.mp nd).2 (by simpa using h1) (by simpa using h2) hk
noncomputable def start(N:List Str)(vs:List V):St:=vs.map some++aY (N.length - vs.length) none
noncomputable def V9(CX:CXT)(P:bQ)(w:cC)(K:aD)(mg:Str->Option aC)(base:Heap)(N:List Str)(qual:Str)(scope:jX)(f:Addr)(cd:aC)(A:cL)(outer:List Env)(s:aG)(H:Hp)(E:XK):Cx where
 prog:=P
 w:=w
 K:=K
 mg:=mg
 base:=base
 A:=A.deeper (envOfC qual scope s.heap.objs.size f cd)
 N:=N
 s₀:=s
 H₀:=H
 env:=envOfC qual scope s.heap.objs.size f cd
 outer:=outer
 stack:=envOfC qual scope s.heap.objs.size f cd::outer
 ex:=[]
 calm:=true
 fn:=fun _=>true
 pn:=[]
 xe:=fun e s'=>wpAny (model P w) (A.deeper (envOfC qual scope s.heap.objs.size f cd)) (leaving (envOfC qual scope s.heap.objs.size f cd) e) (fun _ s''=>CX outer H s E e s'') (fun e' s''=>CX outer H s E e' s'') s'
theorem Tr{sc:jX}{n:Nat}{x:Str}(h:sc.names.lookup x=some .cell):∃ c,(cellsFrom n sc.names []).lookup x=some c:=by
 have q:=oG sc.names n [] (.inl h)
 exact nJ.mp q
theorem Aa9{CX:CXT}{P:bQ}{w:cC}{K:aD}{mg:Str->Option aC}{base:Heap}{N ps:List Str}{qual:Str}{scope:jX}{f:Addr}{cd:aC}{A:cL}{outer:List Env}{s s1:aG}{H:Hp}{E:XK}{us:List aC}{vs:List V}
  (S:FnScope N ps scope) (hd:A.handled=none) (e0:Env0 P w K mg base A outer s H) (hl:vs.length=ps.length) (r:Vals vs us)
  (x:InCallC s s.heap.objs.size (bindL (envOfC qual scope s.heap.objs.size f cd).kindOf (ps.zip us) fun _=>none) (cellsFrom (s.heap.objs.size+1) scope.names []) (bindC (envOfC qual scope s.heap.objs.size f cd).kindOf (ps.zip us) fun _=>none) s1) :
  Inv (V9 CX P w K mg base N qual scope f cd A outer s H E) [] (start N vs) H s1:=by
 have hpl:ps.length<=N.length:=by have:=congrArg mV S.pre;rw[fK] at this;omega
 obtain ⟨h1,tk,rfl,hk⟩:=x.done
 have noA:∀ b:Addr,b∉(V9 CX P w K mg base N qual scope f cd A outer s H E).ex:=fun b z=>absurd (show b∈([]:List Addr) from z) (by simp)
 refine ⟨⟨e0.mod,S.kind,rfl,rfl,aN _,fun y z c h1 h2=>?_,fun y hy=>?_,fun y c _ h=>?_,fun _=>hd,cL.frames_deeper e0.frames,.inr ⟨rfl,rfl⟩,fun b z=>absurd z (noA b),e0.bs,e0.bsz,fun b _ _=>noA b,fun b z=>absurd z (noA b),e0.funs,e0.frf⟩,
  rfl,e0.bare,Un.kept hk,⟨_,x.toInCall.ns,fun i y v h1 h2 h3=>?_⟩,fun y c h=>⟨_,x.cell y c h⟩,e0.hok.fresh (aN _),fun y c h=>?_,fun p hp=>absurd (show p∈([]:List (Addr×Obj)) from hp) (by simp),e0.hok.kept hk,?_⟩
 ·exact name_of_addr x.apart (gZ h1) (gZ h2)
 ·have hy:scope.names.lookup y=some .cell\/scope.names.lookup y=some .free:=hy
  rcases hy with hy | hy
  ·exact Tr hy
  ·exact absurd rfl (S.nofree _ (gZ hy))
 ·exact lW (x.above y c (gZ h))
 ·have hi:i < vs.length:=by
   unfold start at h2
   by_cases hi:i < vs.length
   ·exact hi
   ·rw[bJ (by simpa using hi)] at h2
    rw[nR] at h2
    split at h2 <;> cases h2
  have ha:vs[i]? = some v:=by
   unfold start at h2
   rw[bB (by simpa using hi),cB] at h2
   cases e:vs[i]? with
   | none=>rw[e] at h2;cases h2
   | some a=>rw[e] at h2;cases h2;rfl
  obtain ⟨u,hu,rv⟩:=r.get ha
  have hp:ps[i]? = some y:=by
   rw[<- S.pre,gW (by omega)];exact h1
  have ndP:ps.Nodup:=by rw[<- S.pre];exact S.nd.sublist (qW _ _)
  refine ⟨u,rv,?_⟩
  rcases S.par y (eS hp) with k | k
  ·exact .inl ⟨k,Qu ndP hp hu k⟩
  ·obtain ⟨c,e⟩:=Tr (n:=s.heap.objs.size+1) k
   refine .inr ⟨.inl k,c,e,?_⟩
   have q:=x.cell y c e
   rw[Ri ndP hp hu (by show scope.names.lookup y≠_;rw[k];decide)] at q
   exact q
 ·exact e0.hok.fresh (lW (x.above y c (gZ h)))
 ·unfold start
  show _=N.length
  rw[eD,cH,List.length_replicate]
  omega
theorem Ant{CX:CXT}{P:bQ}{w:cC}{K:aD}{mg:Str->Option aC}{base:Heap}{k:Nat}{f:Addr}{name qual:Str}{params:Arguments}{body:List Stmt}{scope:jX}{dV kV doc pm cdv ct oc:aC}{an od:Option Addr}
  {osl:Array (Option aC)} {N ps:List Str} {sp:Sp} (lk:K.lookup f=some ⟨oc,od,.func (aQ name qual params body scope dV kV doc pm an cdv ct),osl⟩) (hcd:bH K cdv qual=true) (S:FnScope N ps scope)
  (len:∀ vs H Q E,sp vs H Q E->vs.length=ps.length)
  (hbody:∀ (A:cL) (outer:List Env) (s:aG) (H:Hp) (vs:List V) (Q:VK) (E:XK),Room k (A.deeper (envOfC qual scope s.heap.objs.size f cdv))->sp vs H Q E ->
   ∃ t,PSs (V9 CX P w K mg base N qual scope f cdv A outer s H E) body t/\t { nx:=fun _ H'=>Q .non H',rt:=Q } (start N vs) H) :
  FnOk P w K mg base CX (k+1) f (aQ name qual params body scope dV kV doc pm an cdv ct) ps sp:=by
 refine ⟨len,fun A outer s H args us vs Q E hr e0 hb r hsp=>?_⟩
 have hl:=len _ _ _ _ hsp
 have KX:K.In s.heap:=e0.mod.kin.keeps fun b o e=>(e0.bs b o e).1
 have lim:s.heap.NoLimit:=e0.mod.nolimit.keeps fun b o e=>(e0.bs b o e).1
 have hkind:∀ y∈ps.zip us,scope.names.lookup y.1=some .local\/(scope.names.lookup y.1=some .cell/\((cellsFrom (s.heap.objs.size+1) scope.names []).lookup y.1).isSome=true):=fun ⟨n,v⟩ hy=>by
  rcases S.par n (oR hy).1 with q | q
  ·exact .inl q
  ·exact .inr ⟨q,oG _ _ _ (.inl q)⟩
 refine codeAny_call_function hr.depth (KX _ _ lk) rfl S.co S.gen rfl (PySem.W.codeRec_of KX hcd) (hb _ _ _ _ ?_)
 refine wpAny_newFunctionEnv_cells S.kind hkind fun env he s1 x=>?_
 subst he
 refine ⟨lim.keeps x.toInCall.keep,codeAny_func ?_⟩
 obtain ⟨t,ht,hq⟩:=hbody A outer s H vs Q E (hr.deeper _) hsp
 have I:Inv (V9 CX P w K mg base N qual scope f cdv A outer s H E) [] (start N vs) H s1:=Aa9 S hr.hd e0 hl r x
 refine eL (ht [] s1 (start N vs) H _ I hq) (fun fl s' hs=>?_) fun e s' hs=>hs
 have fin:∀ {σ':St} {H':Hp} {v:V} {u:aC},Inv (V9 CX P w K mg base N qual scope f cdv A outer s H E) [] σ' H' s'->RelV v u->Q v H'->CE outer P w H s Q u s':=
  fun {σ' H' v u} J rv q=>⟨v,H',J.os,J.bare,J.base,J.hok,rv,q⟩
 cases fl with
 | ret u=>
  obtain ⟨v,σ',H',J,rv,q⟩:=hs
  exact fin J rv q
 | next=>
  obtain ⟨σ',H',J,q⟩:=hs
  exact fin (v:=V.non) (u:=eA) J rfl q
 | brk=>
  obtain ⟨_,_,_,q⟩:=hs
  exact dH q
 | cont=>
  obtain ⟨_,_,_,q⟩:=hs
  exact dH q
section
variable {X:Cx}{x:Str}{p pos:Pos}{e:Expr}{es:List Expr}{t:TA}{id T:String}{r:List V->Hp->VK->Prop}
noncomputable def tCB(r:List V->Hp->VK->Prop)(t:TA):TE:=fun σ H Q=>t σ H fun vs H1=>r vs H1 Q
theorem Afo(hc:CallR X (.builtin id) r)(hg:Gl X x)(hm:X.mg x=none)(hv:fX x=some (.builtin id))(ha:PA X (e::es) t)(hn:x ≠ "__name__" := by decide)(hdb:(x == ("__debug__" : Str))=false:=by decide)
  (he:bP (e::es) X.env=(false,eval e X.env)::bP es X.env:=by rfl) (hpl:(backTo pos (bP es X.env)).any (·.1)=false:=by rfl):PE X (.Call (.Name x p) (e::es) [] pos) (tCB r t):=by
 intro pins s σ H Q I h
 refine dD (Iu I hg hm hv ?_ hn hdb)
 exact kO (thn (ha pos pins s σ H _ I h) fun us s1 zz=>by obtain ⟨vs,H1,I1,r1,q1⟩:=zz;exact hc pins s1 σ H1 vs us Q I1 r1 q1) he hpl
theorem Abo(hc:CallR X (.type T) r)(hg:Gl X x)(hm:X.mg x=none)(hv:fX x=some (.type T))(ha:PA X (e::es) t)(hn:x ≠ "__name__" := by decide)(hdb:(x == ("__debug__" : Str))=false:=by decide)
  (he:bP (e::es) X.env=(false,eval e X.env)::bP es X.env:=by rfl) (hpl:(backTo pos (bP es X.env)).any (·.1)=false:=by rfl):PE X (.Call (.Name x p) (e::es) [] pos) (tCB r t):=by
 intro pins s σ H Q I h
 refine dD (Iu I hg hm hv ?_ hn hdb)
 exact eU (thn (ha pos pins s σ H _ I h) fun us s1 zz=>by obtain ⟨vs,H1,I1,r1,q1⟩:=zz;exact hc pins s1 σ H1 vs us Q I1 r1 q1) he hpl
end
end L2
namespace HT
open PySem PyProof.Rows
section
open PySem.SeqAt
open PySem.AutoSeq1 (wpAny_loadPart')
open PySem.MeetsSeq PySem.MeetsSeq2 PySem.MeetsSeq3
end
section
variable {prog:bQ}{w:cC}{A:cL}{E:aC->aG->Prop}{s:aG}
theorem Ah7{t b:Addr}{vs ws:List aC}{Q:aC->aG->Prop}(ht:IsTup s.heap t vs.toArray)(hb:IsTup s.heap b ws.toArray)(hv:vs≠[])
  (h1:ws=[]->Q (.ref t) s) (h2:ws≠[]->Q (.ref s.heap.objs.size) { s with heap:=s.heap.push { cls:=.type "tuple",data:=.seq (vs++ws).toArray } })
  (hsz:vs.length+ws.length<=sizeLine):wpAny (model prog w) A (gU .Add (.ref t) (.ref b)) Q E s:=by
 obtain ⟨⟨cls,dd,data,sl⟩,ho,hc,n,hd⟩:=id ht
 obtain ⟨⟨cls2,dd2,data2,sl2⟩,ho2,hc2,n2,hd2⟩:=id hb
 simp only at hc hd hc2 hd2
 subst hc hd hc2 hd2
 have e:vs.toArray++ws.toArray=(vs++ws).toArray:=by simp
 by_cases hw:ws=[]
 ·exact concat_meets ⟨_,ho,rfl⟩ ⟨_,ho2,rfl⟩ rX seq_tuple_add oH nS (nK _ _)
   (tuple_addW1 t b vs.toArray ws.toArray n n2 dd dd2 sl sl2 (by simpa using hv) (by simp[hw])) ⟨ho,ho2,h1 hw⟩
 ·refine concat_meets ⟨_,ho,rfl⟩ ⟨_,ho2,rfl⟩ rX seq_tuple_add oH nS (nK _ _)
   (tuple_addW2 t b vs.toArray ws.toArray n n2 dd dd2 sl sl2 (by simpa using hv) (by simpa using hw) (by rw[bM,bM];exact hsz)) ⟨ho,ho2,?_⟩
  rw[e]
  exact h2 hw
end
end HT
namespace L2
open PySem PySem.Spec PyProof.Rows
abbrev TO:=St->Hp->(Option Int->Hp->Prop)->Prop
noncomputable def PO(X:Cx)(e:Option Expr)(t:TO):Prop:=
 ∀ (pins:List (Addr×Obj)) (s:aG) (σ:St) (H:Hp) (Q:Option Int->Hp->Prop),Inv X pins σ H s->t σ H Q ->
  wpAny (model X.prog X.w) X.A (evalPart e X.env) (fun u s'=>∃ o H',Inv X pins σ H' s'/\IsPart u o/\Q o H') X.xe s
theorem Po{ns:List Int}:∀ {us:List aC},Vals (ns.map V.int) us->jM us ns:=by
 induction ns with
 | nil=>intro us r;rw[bV] at r;cases r;exact .nil
 | cons n ns ih=>
  intro us r
  rw[aL] at r
  cases r with
  | cons r1 r2=>
   obtain ⟨t,e⟩:=r1
   subst e
   exact .cons n t (ih r2)
section
variable {X:Cx}{e:Expr}{te:TE}{lo hi:Option Expr}{tl th:TO}{pos p2:Pos}
noncomputable def SlR(X:Cx)(r:V->Option Int->Option Int->Hp->VK->Prop):Prop:=
 ∀ (pins:List (Addr×Obj)) (s:aG) (σ:St) (H:Hp) (x:V) (v vl vu:aC) (lo hi:Option Int) (sl:Addr) (Q:VK),Inv X pins σ H s->RelV x v->s.heap.IsSliceOf sl vl vu .none->IsPart vl lo->IsPart vu hi->r x lo hi H Q ->
  ∃ T id,typeLookup (.type T) "__getitem__" = pure (some (.builtin id))/\s.TypeIs v T/\wpAny (model X.prog X.w) X.A (getItem v (.ref sl)) (EP X pins σ Q) X.xe s
theorem SlR.or{r r':V->Option Int->Option Int->Hp->VK->Prop}(h:SlR X r)(h':SlR X r'):SlR X (fun x lo hi H Q=>r x lo hi H Q\/r' x lo hi H Q):=by
 intro pins s σ H x v vl vu lo hi sl Q I rx hs pl pu q
 rcases q with q | q
 ·exact h pins s σ H x v vl vu lo hi sl Q I rx hs pl pu q
 ·exact h' pins s σ H x v vl vu lo hi sl Q I rx hs pl pu q
inductive rCatT(K:aD)(x y:V)(H:Hp)(Q:VK):Prop
 | mk (a:_) (b:_) (xs:_) (ys:_) (h0:x = .ref a) (h1:y = .ref b) (h2:SqT K H a xs) (h3:SqT K H b ys) (h4:xs≠[]) (h5:xs.length+ys.length<=sizeLine) (h6:(ys=[]->Q (.ref a) H)) (h7:(ys≠[]->∀ p,H p=none->Q (.ref p) (upd H p (.tup (xs++ys))))):rCatT K x y H Q
theorem Vals.nil_iff{xs:List V}{us:List aC}(r:Vals xs us):us=[]↔xs=[]:=by
 cases r with
 | nil=>simp
 | cons _ _=>simp
theorem Ahe:OpR X (gU .Add) (rCatT X.K):=by
 intro pins s σ H x y v u Q I rx ry h
 obtain ⟨a,b,xs,ys,rfl,rfl,ha,hb,hx,hz,q1,q2⟩:=h
 cases rx
 cases ry
 obtain ⟨its,r1,p1,_⟩:=I.tuple ha
 obtain ⟨its2,r2,p2,_⟩:=I.tuple hb
 refine HT.Ah7 p1 p2 (fun z=>hx (r1.nil_iff.mp z)) (fun z=>⟨.ref a,H,I,rfl,q1 (r2.nil_iff.mp z)⟩) (fun z=>?_) (by rw[<- r1.length,<- r2.length];exact hz)
 refine ⟨.ref s.heap.objs.size,_,I.laid (t':=s.toks) (o:=.tup (xs++ys)) (fun b ob q=>aF _ q) (aN _) ?_,rfl,q2 (fun w=>z (r2.nil_iff.mpr w)) _ (I.hok.fresh (aN _))⟩
 exact ⟨by rw[eD];exact hz,_,r1.append r2,TupN.new _ _⟩
end
noncomputable def ixN(n:Nat)(i:Int):Option Nat:=if 0<=i then (if i < n then some i.toNat else none) else if -(n:Int)<=i then some (i+n).toNat else none
noncomputable def atI{α:Type}(xs:List α)(i:Int):Option α:=(ixN xs.length i).bind fun j=>xs[j]?
theorem X6{n:Nat}{i:Int}{j:Nat}(h:ixN n i=some j):seqIndex? i n=some j/\j < n/\-(n:Int)<=i/\i < n:=by
 unfold ixN at h
 by_cases h0:0<=i
 ·rw[if_pos h0] at h
  by_cases h1:i < n
  ·rw[if_pos h1] at h
   have e:i.toNat=j:=bZ h
   exact ⟨by rw[sH h0 h1,e],by omega,by omega,h1⟩
  ·rw[if_neg h1] at h;cases h
 ·rw[if_neg h0] at h
  by_cases h1:-(n:Int)<=i
  ·rw[if_pos h1] at h
   have e:(i+n).toNat=j:=bZ h
   exact ⟨by rw[qX (by omega) h1,e],by omega,h1,by omega⟩
  ·rw[if_neg h1] at h;cases h
theorem Rx{α:Type}{xs:List α}{i:Int}{v:α}(h:atI xs i=some v):∃ j,seqIndex? i xs.length=some j/\xs[j]? = some v/\j < xs.length/\-(xs.length:Int)<=i/\i < xs.length:=by
 unfold atI at h
 cases e:ixN xs.length i with
 | none=>rw[e] at h;cases h
 | some j=>
  rw[e] at h
  obtain ⟨h1,h2,h3,h4⟩:=X6 e
  exact ⟨j,h1,h,h2,h3,h4⟩
noncomputable def Yp(b:Expr):Prop:=∀ o i,subscripted b false o i=operate [o,i] (getItem o i)
noncomputable def IxR(X:Cx)(r:R2):Prop:=
 ∀ (value slice:Expr) (pins:List (Addr×Obj)) (s:aG) (σ:St) (H:Hp) (x y:V) (v u:aC) (Q:VK),Inv X pins σ H s->RelV x v->RelV y u->r x y H Q ->
  subscripted slice false v u=operate [v,u] (getItem v u)->wpAny (model X.prog X.w) X.A (subscriptTail value slice v u) (EP X pins σ Q) X.xe s
noncomputable def MtR(X:Cx)(id:String)(r:V->List V->Hp->VK->Prop):Prop:=
 ∀ (pins:List (Addr×Obj)) (s:aG) (σ:St) (H:Hp) (x:V) (xs:List V) (v:aC) (us:List aC) (Q:VK),Inv X pins σ H s->RelV x v->Vals xs us->r x xs H Q ->
  wpAny (model X.prog X.w) X.A (call (.builtin id) (v::us)) (EP X pins σ Q) X.xe s
section
variable {X:Cx}{a b:Expr}{ta tb:TE}{pos:Pos}
theorem IxR.or{r r':R2}(h:IxR X r)(h':IxR X r'):IxR X (fun x y H Q=>r x y H Q\/r' x y H Q):=by
 intro value slice pins s σ H x y v u Q I rx ry q hs
 rcases q with q | q
 ·exact h value slice pins s σ H x y v u Q I rx ry q hs
 ·exact h' value slice pins s σ H x y v u Q I rx ry q hs
theorem MtR.or{id:String}{r r':V->List V->Hp->VK->Prop}(h:MtR X id r)(h':MtR X id r'):MtR X id (fun x xs H Q=>r x xs H Q\/r' x xs H Q):=by
 intro pins s σ H x xs v us Q I rx rs q
 rcases q with q | q
 ·exact h pins s σ H x xs v us Q I rx rs q
 ·exact h' pins s σ H x xs v us Q I rx rs q
theorem Aor{r:R2}(hr:IxR X r)(ha:PE X a ta)(hb:PE X b tb)(hs:Yp b):PE X (.Subscript a b pos) (tOp r ta tb):=by
 intro pins s σ H Q I h
 exact Subscript_ (Ana ha hb I h fun v u s2 x y H2 I2 rx ry q=>hr a b pins s2 σ H2 x y v u Q I2 rx ry q (hs _ _))
inductive rIxL(K:aD)(x y:V)(H:Hp)(Q:VK):Prop
 | mk (p:_) (xs:_) (i:_) (v:_) (h0:x = .ref p) (h1:y = .int i) (h2:SqL K H p xs) (h3:atI xs i=some v) (h4:Q v H):rIxL K x y H Q
inductive rIxT(K:aD)(x y:V)(H:Hp)(Q:VK):Prop
 | mk (p:_) (xs:_) (i:_) (v:_) (h0:x = .ref p) (h1:y = .int i) (h2:SqT K H p xs) (h3:atI xs i=some v) (h4:Q v H):rIxT K x y H Q
noncomputable def Anz:R2:=fun x y H Q=>∃ z i c,x = .str z/\y = .int i/\z.length<=sizeLine/\atI z.cps.toList i=some c/\Q (.str ⟨#[c]⟩) H
theorem Aho:IxR X (rIxL X.K):=by
 intro value slice pins s σ H x y v u Q I rx ry h hs
 obtain ⟨p,xs,i,z,rfl,rfl,hq,he,q⟩:=h
 cases rx
 obtain ⟨t,rfl⟩:=ry
 obtain ⟨its,r,pl,hz⟩:=I.list hq
 obtain ⟨j,h1,h2,h3,h4,h5⟩:=Rx he
 obtain ⟨w,ew,rw'⟩:=r.get h2
 have hl:=r.length
 have hn:=Mt
 have fin:EP X pins σ Q w s:=⟨z,H,I,rw',q⟩
 by_cases h0:0<=i
 ·have hj:i.toNat=j:=by
   rw[sH h0 h5] at h1
   exact bZ h1
  exact item_listR pl.isList h0 (by omega) (by rw[hj];simpa using ew) fin hs
 ·have hj:(i+(its.toArray.size:Int)).toNat=j:=by
   rw[qX (by omega) h4] at h1
   rw[bM,<- hl]
   exact bZ h1
  exact oI (x:=w) pl.isList.typeIs slot_list_getitem.lookup
   (wpAny_getItem_list_neg (Q:=fun r s'=>r=w/\EP X pins σ Q r s') pl.isList (by omega) (by rw[bM] <;> omega) (by omega) (by rw[hj];simpa using ew) ⟨rfl,fin⟩) hs
theorem Amn:IxR X (rIxT X.K):=by
 intro value slice pins s σ H x y v u Q I rx ry h hs
 obtain ⟨p,xs,i,z,rfl,rfl,hq,he,q⟩:=h
 cases rx
 obtain ⟨t,rfl⟩:=ry
 obtain ⟨its,r,pl,hz⟩:=I.tuple hq
 obtain ⟨j,h1,h2,h3,h4,h5⟩:=Rx he
 obtain ⟨w,ew,rw'⟩:=r.get h2
 have hl:=r.length
 have hn:=Mt
 have fin:EP X pins σ Q w s:=⟨z,H,I,rw',q⟩
 exact oI (x:=w) pl.typeIs slot_tuple_getitem.lookup
  (getItem_tuple (j:=j) (Q:=fun r s'=>r=w/\EP X pins σ Q r s') pl (by omega) (by omega) (by rw[bM,<- hl];exact h1) (by simpa using ew) ⟨rfl,fin⟩) hs
theorem Amd:IxR X Anz:=by
 intro value slice pins s σ H x y v u Q I rx ry h hs
 obtain ⟨z,i,c,rfl,rfl,hz,he,q⟩:=h
 obtain ⟨t,rfl⟩:=rx
 obtain ⟨t',rfl⟩:=ry
 obtain ⟨j,h1,h2,h3,h4,h5⟩:=Rx he
 have hl:z.cps.toList.length=z.length:=by simp[Str.length]
 rw[hl] at h1 h4 h5
 have hn:=Mt
 exact tail_any (typeIs_str s z t) slot_str_getitem.lookup (getItem_str (c:=c) (by
  have e1:decide (i < -(2 ^ 63:Int))=false:=decide_eq_false (by omega)
  have e2:decide (i ≥ 2 ^ 63)=false:=decide_eq_false (by omega)
  rw[e1,e2,qC]) (by rw[h1];simpa using h2) ⟨.str ⟨#[c]⟩,H,I.tok _,⟨_,rfl⟩,q⟩) hs
noncomputable def rIx(K:aD):R2:=fun x y H Q=>rIxL K x y H Q\/rIxT K x y H Q\/Anz x y H Q
theorem Dr:IxR X (rIx X.K):=Aho.or (Amn.or Amd)
theorem Vs(its:List aC)(n j:Nat)(u:aC):cJ (·.setIfInBounds j u) { cls:=.type "list",data:=.seq its.toArray n } = { cls:=.type "list",data:=.seq (its.set j u).toArray n }:=by
 simp[cJ]
theorem Inv.lst{pins:List (Addr×Obj)}{σ:St}{H:Hp}{s:aG}{p:Addr}{xs:List V}(I:Inv X pins σ H s)(h:H p=some (.lst xs)) :
  ∃ (its:List aC) (n:Nat),Vals xs its/\s.heap.get? p=some { cls:=.type "list",data:=.seq its.toArray n }/\xs.length<=sizeLine:=by
 obtain ⟨z,its,n,r,e⟩:=I.hok p _ h
 exact ⟨its,n,r,e,z⟩
theorem Inv.lstUpd{pins:List (Addr×Obj)}{σ:St}{H:Hp}{s:aG}{p:Addr}{xs ys:List V}{its its':List aC}{n n':Nat}{f:Obj->Obj}(I:Inv X pins σ H s)(h:H p=some (.lst xs))
  (ho:s.heap.get? p=some { cls:=.type "list",data:=.seq its.toArray n }) (hf:f { cls:=.type "list",data:=.seq its.toArray n } = { cls:=.type "list",data:=.seq its'.toArray n' }) (r:Vals ys its') (hz:ys.length<=sizeLine) (t:Nat) :
  Inv X pins σ (upd H p (.lst ys)) { s with heap:=s.heap.update p f,toks:=t }:=by
 have e:(s.heap.update p f).get? p=some { cls:=.type "list",data:=.seq its'.toArray n' }:=by
  rw[fH f ho (by rw[hf] <;> rfl),hf]
 refine I.write (x:=p) (e:=p) (by rw[h];trivial) (.inl rfl) (fun b u hb q=>(gC _ _ (fY hb)).trans q) ⟨_,e⟩ ?_
 exact ⟨hz,its',n',r,e⟩
noncomputable def An3:V->V->V->Hp->(Hp->Prop)->Prop:=fun o i v H Q=>∃ p xs k j,o = .ref p/\i = .int k/\H p=some (.lst xs)/\ixN xs.length k=some j/\Q (upd H p (.lst (xs.set j v)))
theorem Afq:Apf X An3:=by
 intro pins s σ H o i v ov iv u Q I ro ri rv h
 obtain ⟨p,xs,k,j,rfl,rfl,hp,hj,q⟩:=h
 cases ro
 obtain ⟨t,rfl⟩:=ri
 obtain ⟨its,n,r,ho,hz⟩:=I.lst hp
 obtain ⟨h1,h2,h3,h4⟩:=X6 hj
 have hl:=r.length
 have hn:=Mt
 have I':Inv X pins σ (upd H p (.lst (xs.set j v))) { s with heap:=s.heap.update p (cJ (·.setIfInBounds j u)) }:=
  I.lstUpd hp ho (Vs its n j u) (r.set rv j) (by rw[sK];exact hz) s.toks
 by_cases h0:0<=k
 ·have hk:k.toNat=j:=by
   rw[sH h0 h4] at h1
   exact bZ h1
  exact PySem.W.ki_setAt ho h0 (by omega) (by rw[bM,<- hl];exact h4) (by rw[hk];exact ⟨_,I',q⟩)
 ·have hk:(k+(its.toArray.size:Int)).toNat=j:=by
   rw[qX (by omega) h3] at h1
   rw[bM,<- hl]
   exact bZ h1
  exact PySem.W.ki_setBack ho (by omega) (by rw[bM,<- hl];exact h3) (by omega) (by rw[hk];exact ⟨_,I',q⟩)
theorem CallR.or{f:aC}{r r':List V->Hp->VK->Prop}(h:CallR X f r)(h':CallR X f r'):CallR X f (fun xs H Q=>r xs H Q\/r' xs H Q):=by
 intro pins s σ H xs us Q I rs q
 rcases q with q | q
 ·exact h pins s σ H xs us Q I rs q
 ·exact h' pins s σ H xs us Q I rs q
theorem Fi:CallR X (.type "tuple") (fun xs H Q=>∃ p ys,xs=[.ref p]/\((SqL X.K H p ys/\∀ l,H l=none->Q (.ref l) (upd H l (.tup ys)))\/(SqT X.K H p ys/\Q (.ref p) H))):=by
 intro pins s σ H xs us Q I r h
 obtain ⟨p,ys,rfl,h⟩:=h
 obtain ⟨u,rfl,rx⟩:=Kk r
 cases rx
 rcases h with ⟨hq,q⟩ | ⟨hq,q⟩
 ·obtain ⟨its,r',pl,hz⟩:=I.list hq
  have hlen:=r'.length
  refine call_tuple_list pl.isList (fun h' kp=>?_) (by simp only[bM] <;> omega)
  have I1:Inv X pins σ H { s with heap:=h' }:=I.kept (t':=s.toks) kp
  have I2:Inv X pins σ (upd H h'.objs.size (.tup ys)) { s with heap:=h'.push { cls:=.type "tuple",data:=.seq its.toArray } }:=
   I1.laid (t':=s.toks) (fun b o e=>aF _ e) (aN _) (show ObjOk X.prog X.w _ _ _ (.tup ys) from ⟨hz,its,r',TupN.new _ _⟩)
  exact ⟨.ref h'.objs.size,_,I2,rfl,q _ (I1.hok.fresh (aN _))⟩
 ·obtain ⟨its,r',pl,hz⟩:=I.tuple hq
  exact call_tuple_same pl ⟨.ref p,H,I,rfl,q⟩
variable {o e:Expr}{es:List Expr}{to:TE}{t:TA}{name:Str}{apos cpos:Pos}{T id:String}{r:V->List V->Hp->VK->Prop}
end
theorem Vals.one{x:V}{us:List aC}(h:Vals [x] us):∃ u,us=[u]/\RelV x u:=by
 cases h with
 | cons r t=>cases t;exact ⟨_,rfl,r⟩
theorem Vals.two{x y:V}{us:List aC}(h:Vals [x,y] us):∃ u v,us=[u,v]/\RelV x u/\RelV y v:=by
 cases h with
 | cons r t=>obtain ⟨v,rfl,q⟩:=Vals.one t;exact ⟨_,v,rfl,r,q⟩
theorem Vals.zero:∀ {us:List aC},Vals [] us->us=[]
 | _,.nil=>rfl
theorem Vals.dropLast{xs:List V}{us:List aC}(h:Vals xs us):Vals xs.dropLast us.dropLast:=by
 induction h with
 | nil=>exact .nil
 | cons r t ih=>
  cases t with
  | nil=>exact .nil
  | cons q t'=>exact .cons r ih
theorem Vals.eraseIdx{xs:List V}{us:List aC}(i:Nat)(h:Vals xs us):Vals (xs.eraseIdx i) (us.eraseIdx i):=by
 induction h generalizing i with
 | nil=>exact .nil
 | cons r t ih=>
  cases i with
  | zero=>exact t
  | succ i=>exact .cons r (ih i)
theorem Vals.reverse{xs:List V}{us:List aC}(h:Vals xs us):Vals xs.reverse us.reverse:=by
 induction h with
 | nil=>exact .nil
 | cons r t ih=>rw[eW,eW];exact Vals.append ih (.cons r .nil)
theorem Vals.rep{xs:List V}{us:List aC}(h:Vals xs us):∀ k:Nat,Vals (aY k xs).flatten (aY k us).flatten
 | 0=>.nil
 | k+1=>by
  rw[dQ,dQ,fR,fR]
  exact Vals.append h (Vals.rep h k)
theorem Q7(its:List aC):∀ (k:Nat) (acc:List aC),
  tE (fun x1 x2=>x1++x2) acc.toArray (aY k its.toArray)=(acc++(aY k its).flatten).toArray
 | 0,acc=>by simp
 | k+1,acc=>by
  have e:acc.toArray++its.toArray=(acc++its).toArray:=by simp
  have e2:(acc++its)++(aY k its).flatten=acc++(aY (k+1) its).flatten:=by
   rw[dQ,fR,bA]
  rw[<- e2,<- Q7 its k (acc++its),<- e,dQ,oS]
section
variable {X:Cx}{pins:List (Addr×Obj)}{σ:St}{H:Hp}{s:aG}{l b:Addr}{xs ys zs:List V}
theorem Inv.lnew{its:List aC}{t':Nat}(I:Inv X pins σ H s)(hv:Vals ys its)(hz:ys.length<=sizeLine) :
  Inv X pins σ (upd H s.heap.objs.size (.lst ys)) { s with heap:=s.heap.push { cls:=.type "list",data:=.seq its.toArray },toks:=t' }:=
 I.laid (fun _ _ q=>aF _ q) (aN _) ⟨hz,its,0,hv,aP _ rfl⟩
theorem Inv.fresh(I:Inv X pins σ H s):H s.heap.objs.size=none:=I.hok.fresh (aN _)
theorem Inv.lstM(I:Inv X pins σ H s)(hH:H l=some (.lst xs)):xs.length<=sizeLine/\∃ (its:List aC) (n:Nat),Vals xs its/\xs.length=its.length/\s.heap.get? l=some { cls:=.type "list",data:=.seq its.toArray n }:=by
 obtain ⟨z,its,n,r,e⟩:=I.hok l _ hH
 exact ⟨z,its,n,r,r.length,e⟩
theorem Afa{n:Nat}(h:n<=sizeLine):jH n=false:=by
 unfold jH
 exact decide_eq_false (by omega)
end
section
variable {X:Cx}
inductive rPop  (x:V) (vs:List V) (H:Hp) (Q:VK):Prop
 | mk (l:_) (xs:_) (y:_) (h0:x = .ref l) (h1:vs=[]) (h2:H l=some (.lst xs)) (h3:xs[xs.length - 1]? = some y) (h4:Q y (upd H l (.lst xs.dropLast))):rPop  x vs H Q
inductive rPopAt  (x:V) (vs:List V) (H:Hp) (Q:VK):Prop
 | mk (l:_) (xs:_) (i:_) (k:_) (y:_) (h0:x = .ref l) (h1:vs=[.int i]) (h2:H l=some (.lst xs)) (h3:-(2 ^ 63)<=i) (h4:i < 2 ^ 63) (h5:seqIndex? i xs.length=some k) (h6:xs[k]? = some y) (h7:Q y (upd H l (.lst (xs.eraseIdx k)))):rPopAt  x vs H Q
inductive rCat  (x y:V) (H:Hp) (Q:VK):Prop
 | mk (l:_) (b:_) (xs:_) (zs:_) (h0:x = .ref l) (h1:y = .ref b) (h2:H l=some (.lst xs)) (h3:H b=some (.lst zs)) (h4:xs.length+zs.length<=sizeLine) (h5:∀ p,H p=none->Q (.ref p) (upd H p (.lst (xs++zs)))):rCat  x y H Q
theorem Amb:OpR X (gU .Add) rCat:=by
 intro pins s σ H x y v u Q I rx ry h
 obtain ⟨l,b,xs,zs,rfl,rfl,hH,hB,hz,q⟩:=h
 cases rx
 cases ry
 obtain ⟨z,its,n,r,hl,e⟩:=I.lstM hH
 obtain ⟨z2,its2,n2,r2,hl2,e2⟩:=I.lstM hB
 refine PySem.P.add_list e e2 ?_ (by rw[bM,bM];omega)
 have ea:its.toArray++its2.toArray=(its++its2).toArray:=by simp
 rw[ea]
 exact ⟨.ref _,_,I.lnew (t':=s.toks) (r.append r2) (by rw[eD];omega),rfl,q _ I.fresh⟩
inductive rRep  (x y:V) (H:Hp) (Q:VK):Prop
 | mk (l:_) (k:_) (xs:_) (h0:x = .ref l) (h1:y = .int k) (h2:H l=some (.lst xs)) (h3:-(2 ^ 63)<=k) (h4:k < 2 ^ 63) (h5:xs.length * k.toNat<=sizeLine) (h6:∀ p,H p=none->Q (.ref p) (upd H p (.lst (aY k.toNat xs).flatten))):rRep  x y H Q
theorem Aht{α:Type}(xs:List α)(k:Nat):(aY k xs).flatten.length=k * xs.length:=by
 induction k with
 | zero=>simp
 | succ k ih=>rw[dQ,fR,eD,ih,Nat.succ_mul,Nat.add_comm]
theorem Alq:OpR X (gU .Mult) rRep:=by
 intro pins s σ H x y v u Q I rx ry h
 obtain ⟨l,k,xs,rfl,rfl,hH,h1,h2,hz,q⟩:=h
 cases rx
 obtain ⟨t,rfl⟩:=ry
 obtain ⟨z,its,n,r,hl,e⟩:=I.lstM hH
 have hlen:its.toArray.size * k.toNat<=sizeLine:=by rw[bM,<- hl];exact hz
 have hcap:¬ its.toArray.size * k.toNat > (2 ^ 63 - 1) / 8:=by
  have:(sizeLine:Nat)<=(2 ^ 63 - 1) / 8:=by decide
  omega
 have hfit:¬ (!Builtin.List.listFitsIndex k)=true:=by
  rw[fitsIndex_both h1 h2]
  exact fJ
 have hlong:¬ jH (its.toArray.size * k.toNat)=true:=by
  rw[Afa hlen]
  exact fJ
 have hnew:tE (fun x1 x2=>x1++x2) #[] (aY (if its.toArray.isEmpty=true then 0 else k.toNat) its.toArray)=(aY k.toNat its).flatten.toArray:=by
  have f0:∀ m:Nat,tE (fun x1 x2=>x1++x2) #[] (aY m its.toArray)=(aY m its).flatten.toArray:=fun m=>by
   have:=Q7 its m []
   rw[fV] at this
   exact this
  rw[f0]
  cases its with
  | nil=>simp
  | cons a r'=>rw[if_neg (by simp)]
 refine wpAny_binaryOp_repeat_ref (T := "list") (U := "int") (by decide) ⟨_,e,rfl⟩ (fun s'=>typeIs_int s' k t) noFill_list_mul F.fills_int_mul sL repeat_list F.slot_int_index.lookup
  (call_meets sL (typeIs_int s k t) F.entry_int_rmul (F.args_int_rmul_2 _ _) (int___rmul___int_list k t l its.toArray n)
   ⟨e,rfl,⟨_,e,rfl⟩,call_meets F.slot_list_mul ⟨_,e,rfl⟩ F.entry_list_mul (F.args_list_mul_2 _ _) (AutoListH.list___mul___list_int_3 l its.toArray n k t hfit hcap hlong) ⟨e,?_⟩⟩)
 rw[hnew]
 exact ⟨.ref _,_,I.lnew (t':=s.toks) (r.rep k.toNat) (by rw[Aht,Nat.mul_comm];exact hz),rfl,q _ I.fresh⟩
end
section
variable {prog:bQ}{w:cC}{A:cL}{E:aC->aG->Prop}{s:aG}
end
section
variable {X:Cx}
end
end L2
namespace Att
open PySem PySem.W PySem.Calls PyProof.Rows
theorem Nw{P:pK}{h:Heap}:∀ (ns:List Int) (vs:List aC),WellAll P h vs (ns.map WData.int)->jM vs ns:=by
 intro ns
 induction ns with
 | nil=>
  intro vs w
  rw[bV] at w
  cases w
  exact .nil
 | cons n ns ih=>
  intro vs w
  rw[aL] at w
  cases w with
  | cons a b=>
   cases a
   exact .cons _ _ (ih _ b)
theorem Aby{l:kW}{n:Nat}(hn:l.most=some n){P:pK}{h:Heap}{args:List WData}{vals:List aC}
  (hpre:l.row.toRowW.claim.pre args=true) (hwl:WellAll P h vals args) :
  ∃ a vs ns,vals=[cP a]/\args=[WData.list (ns.map WData.int)]/\h.get? a=some { cls:=.type "list",data:=.seq vs.toArray }/\jM vs ns/\ns.length<=n:=by
 have hsh:WShape.hasAll [] args [.list .int]=true:=(pre_splitW hpre).1
 have hc:l.pre.holds [] { args:=args } = true:=(pre_splitW hpre).2
 obtain ⟨d,r,rfl,h1,h2⟩:=hasAllW_cons hsh
 obtain rfl:=hasAllW_nil h2
 obtain ⟨xs,rfl,h3⟩:=hasW_list h1
 obtain ⟨ns,rfl⟩:=items_int h3
 have hlen:ns.length<=n:=by
  unfold kW.pre at hc
  have h4:(WTm.not (.lt (.lit (.int (n:Int))) (.len (.arg 0)))).holds [] { args:=[.list (ns.map .int)] } = true:=by
   have h4:=(holds_andW hc).1
   rw[hn] at h4
   exact h4
  have h5:=condW_of h4 (w_not (w_lt w_lit (w_len_list (w_arg rfl))))
  rw[cH] at h5
  refine Nat.le_of_not_lt fun q=>?_
  have q':(n:Int) < ((ns.length:Nat):Int):=by omega
  first
   | (rw[decide_eq_true q'] at h5;exact absurd h5 (by decide))
   | (simp at h5;omega)
 cases hwl with
 | cons w1 w2=>
  cases w2
  cases w1 with
  | list ho hall=>exact ⟨_,_,ns,rfl,rfl,ho,Nw ns _ hall,hlen⟩
theorem Abf(l:kW)(args:List WData):l.row.toRowW.claim.post args (.bool true) args=true:=
 postW_of (r:=l.row.toRowW) (X:=(true == true))
  (show yN [] (.bool true) .bool=true by first | rfl | decide | simp[yN,WShape.arms,WShape.armsAll])
  (show (WTm.eq .res (.lit (.bool true))).value [] { args:=args,res:=some (.bool true),after:=args } = some (.bool (true == true)) from w_eq_bool (w_res rfl) w_lit) rfl
theorem Ud{l:kW}{n:Nat}{q:bQ}{loose:List Str}{XP:(Str->Option aC)->Heap->Prop}{YP:cC->Heap->Prop}{d:DefRec}
  (hn:l.most=some n) (hdf:d.params.defaults=[])
  (call:∀ (w:cC) (s₀ s₁:aG) (mg mb:Str->Option aC) (fa:Addr) (o:Obj) (pm cd doc:aC) (a:Addr) (vs:List aC) (ns:List Int),
   Ground q loose [] XP w s₀ mg mb s₁.heap->YP w s₁.heap ->
   s₁.heap.get? fa=some o->o.data = .func (docDef d.name d.params d.body d.scope pm cd doc)->s₁.heap.CodeRec cd d.name->mg d.name=some (.ref fa) ->
   s₁.heap.get? a=some { cls:=.type "list",data:=.seq vs.toArray }->jM vs ns->ns.length<=n->s₁.gens=#[] ->
   jK (model l.prog w) callerA (.call (.ref fa) ⟨[.ref a],[]⟩) (fun r s'=>r = .ok (.ret (.bool true))/\OldK s₁.heap s'.heap/\s'.os=s₁.os/\mU s'.gens) s₁) :
  WalkO q loose XP YP l.row.toRowW d [] (fun f vs=>tF f vs):=by
 intro w s₀ s₁ mg mb G Y fa o pm cd doc dV kV ho hd hcd hD hmg hg args vals as hpre hlay hrd hwl hlo
 obtain rfl:dV = .none:=Dflts.none hD hdf
 obtain rfl:kV = .none:=Dflts.noKw hD
 obtain ⟨a,vs,ns,rfl,rfl,hobj,hints,hlen⟩:=Aby hn hpre hwl
 refine enter_call (fL (call w s₀ s₁ mg mb fa o pm cd doc a vs ns G Y ho (fd_plain hd) hcd hmg hobj hints hlen hg) fun r s' hq=>?_)
 obtain ⟨rfl,h2,h3,h4⟩:=hq
 exact ⟨.inl ⟨.bool true,.bool true,[],rfl,fun _=>rfl,.bool true,Abf l _,fun _=>⟨qY,fun _ hm=>(nomatch hm)⟩⟩,h2,h3,h4⟩
section
variable {prog:bQ}{w:cC}{A:cL}{E:aC->aG->Prop}{s:aG}{K:Frag}
end
end Att
namespace L2
open PySem PySem.Spec PyProof.Rows
theorem Qo{vs:List aC}{ns:List Int}(h:jM vs ns):Vals (ns.map V.int) vs:=by
 induction h with
 | nil=>exact .nil
 | cons n t h ih=>exact .cons ⟨t,rfl⟩ ih
noncomputable def Aiw(H:Hp):Prop:=∀ b,H b=none\/∃ o xs,H b=some (.frz o (.lst xs))
theorem Aep{P:bQ}{w:cC}{K:aD}{mg mb:Str->Option aC}{CX:CXT}{k:Nat}{fa a:Addr}{fd:bT}{x:Str}{sp:Sp}{s₁:aG}{vs:List aC}{ns:List Int}
  (KX:K.In s₁.heap) (hns:s₁.heap.Ns bK mg) (hb:s₁.heap.Ns qH mb) (hbb:∀ x:Str,x ≠ "__name__" -> mb x=fX x) (hlim:s₁.heap.NoLimit) (hg:s₁.gens=#[])
  (ha:s₁.heap.get? a=some { cls:=.type "list",data:=.seq vs.toArray }) (hi:jM vs ns) (hl:ns.length<=sizeLine) (hr:Room k callerA)
  (F:∀ base:Heap,K.In base->base.Ns bK mg->FnOk P w K mg base CX k fa fd [x] sp) (hbind:∀ (s:aG) (u:aC),pV s fd ⟨[u],[]⟩ [(x,u)])
  (hsp:∀ H:Hp,Aiw H->SqL K H a (ns.map V.int)->sp [.ref a] H (fun v _=>v = .bl true) fun _ _ _=>False)
  (hCX:∀ H e s',CX [] H s₁ (fun _ _ _=>False) e s'->False) :
  jK (model P w) callerA (.call (.ref fa) ⟨[.ref a],[]⟩) (fun r s'=>r = .ok (.ret (.bool true))/\OldK s₁.heap s'.heap/\s'.os=s₁.os/\mU s'.gens) s₁:=by
 have rv:=Qo hi
 have lenV:=hi.length
 have core:∀ H:Hp,Aiw H->SqL K H a (ns.map V.int)->HOk P w H s₁.heap->(∀ b,H b≠none->b=a)->(H a≠none->K.lookup a=none) ->
   jK (model P w) callerA (.call (.ref fa) ⟨[.ref a],[]⟩) (fun r s'=>r = .ok (.ret (.bool true))/\OldK s₁.heap s'.heap/\s'.os=s₁.os/\mU s'.gens) s₁:=by
  intro H hO hS hok hA hK
  have base_of:∀ {b:Addr} {o:Obj},s₁.heap.get? b=some o->H b=none->(R9 s₁.heap H).get? b=some o:=fun e n=>Aed e n
  have noA:∀ {b:Addr} {o:Obj} {es:Array DictEntry} {ep:Nat},s₁.heap.get? b=some o->o.data = .dict es ep->H b=none:=fun {b o es ep} e d=>by
   cases q:H b with
   | none=>rfl
   | some u=>
    have e':b=a:=hA b (by rw[q];simp)
    subst e'
    rw[ha] at e;cases e
    have d':Data.seq vs.toArray _=Data.dict es ep:=d
    cases d'
  have nsK:∀ {b:Addr} {m:Str->Option aC},s₁.heap.Ns b m->(R9 s₁.heap H).Ns b m:=fun {b m} ⟨o,es,ep,e,d,r⟩=>⟨o,es,ep,base_of e (noA e d),d,r⟩
  have hKb:K.In (R9 s₁.heap H):=fun b o e=>base_of (KX b o e) (by
   cases q:H b with
   | none=>rfl
   | some u=>
    have e':b=a:=hA b (by rw[q];simp)
    subst e'
    rw[hK (by rw[q];simp)] at e;cases e)
  have hM:Mod K mg (R9 s₁.heap H):=⟨hKb,nsK hns,⟨mb,nsK hb,hbb⟩,let ⟨mc,h1,h2⟩:=hlim;⟨mc,nsK h1,h2⟩⟩
  have e0:Env0 P w K mg (R9 s₁.heap H) callerA [] s₁ H:=⟨rfl,hM,fun b o e=>Ajl e,jZ (Aal _ _),trivial,fun b hb=>absurd (show b∈([]:List Addr) from hb) (by simp),hok,.of_eq hg⟩
  refine fL ((F _ hKb (nsK hns)).run callerA [] s₁ H ⟨[.ref a],[]⟩ [.ref a] [.ref a] _ _ hr e0 (hbind s₁ (.ref a)) (.cons rfl .nil) (hsp H hO hS)) fun r s' h=>?_
  cases r with
  | error e=>exact (hCX H e s' h).elim
  | ok fl=>
   cases fl with
   | next=>exact dH h
   | brk=>exact dH h
   | cont=>exact dH h
   | ret u=>
    obtain ⟨v,H',os,bare,un,hok',r',q⟩:=h
    have q':v = .bl true:=q
    subst q'
    obtain rfl:u=sW true:=r'
    refine ⟨rfl,OldK.of_keep fun b o e=>?_,os,bare⟩
    cases q:H b with
    | none=>exact un.keep b o e q (by intro z;exact absurd (show b∈([]:List Addr) from z) (by simp)) (by simp)
    | some u=>
     rcases hO b with z | ⟨ob,xs,z⟩
     ·rw[q] at z;cases z
     ·have z2:=un.frzs b ob _ z
      obtain ⟨e1,_⟩:=hok b _ z
      obtain ⟨e2,_⟩:=hok' b _ z2
      rw[e] at e1;cases e1
      exact e2
 cases hk:K.lookup a with
 | some o=>
  have e:=KX a o hk
  rw[ha] at e
  cases e
  refine core (fun _=>none) (fun _=>.inl rfl) (.inr ⟨_,vs.toArray,_,hk,rfl,rfl,rfl,by rw[bM,lenV];exact hl,by simpa using rv⟩) (fun b u z=>by have z':(none:Option HO)=some u:=z;cases z') (fun b z=>absurd rfl z) fun z=>absurd rfl z
 | none=>
  refine core (fun b=>if b=a then some (.frz { cls:=.type "list",data:=.seq vs.toArray } (.lst (ns.map V.int))) else none) (fun b=>?_) (.inl (.inr ⟨{ cls:=.type "list",data:=.seq vs.toArray },if_pos rfl⟩)) (fun b u z=>?_) (fun b z=>?_) fun _=>hk
  ·by_cases hb:b=a
   ·exact .inr ⟨_,_,if_pos hb⟩
   ·exact .inl (if_neg hb)
  ·by_cases hb:b=a
   ·have z':=(if_pos hb).symm.trans z
    cases z'
    subst hb
    exact ⟨ha,by rw[cH];exact hl,vs,_,rv,ha⟩
   ·have z':=(if_neg hb).symm.trans z
    cases z'
  ·by_cases hb:b=a
   ·exact hb
   ·exact absurd (if_neg hb) z
theorem Ai9{l:kW}{n k:Nat}{q:bQ}{loose:List Str}{XP:(Str->Option aC)->Heap->Prop}{YP:cC->Heap->Prop}{d:DefRec}{K:pK->aD}{CX:cC->CXT}{sp:cC->Sp}{x:Str}
  (hn:l.most=some n) (hn2:n<=sizeLine) (hdf:d.params.defaults=[]) (hr:Room k callerA)
  (hY:∀ (w:cC) (h:Heap),YP w h->(K w.params).In h)
  (F:∀ (w:cC) (mg:Str->Option aC) (fa:Addr) (h:Heap),(K w.params).In h->h.Ns bK mg->mg d.name=some (.ref fa) ->
   ∃ fd:bT,(∀ (s:aG) (u:aC),pV s fd ⟨[u],[]⟩ [(x,u)]) /\
    ∀ base:Heap,(K w.params).In base->base.Ns bK mg->FnOk l.prog w (K w.params) mg base (CX w) k fa fd [x] (sp w))
  (hsp:∀ (w:cC) (H:Hp) (a:Addr) (ns:List Int),ns.length<=n->Aiw H->SqL (K w.params) H a (ns.map V.int)->sp w [.ref a] H (fun v _=>v = .bl true) fun _ _ _=>False)
  (hCX:∀ (w:cC) (H:Hp) (s:aG) (e:aC) (s':aG),CX w [] H s (fun _ _ _=>False) e s'->False) :
  tV q loose XP YP l.row.toRowW d [] (fun f vs=>tF f vs):=by
 refine Att.Ud hn hdf fun w s₀ s₁ mg mb fa o pm cd doc a vs ns G Y ho hd hcd hmg hobj hints hlen hg=>?_
 have KX:=hY w _ Y
 obtain ⟨fd,hb,hF⟩:=F w mg fa _ KX G.T.g hmg
 exact Aep KX G.T.g G.T.b G.T.builtins G.T.nolimit hg hobj hints (dN hlen hn2) hr hF hb (fun H hO hS=>hsp w H a ns hlen hO hS) fun H e s'=>hCX w H s₁ e s'
noncomputable def Am(s:Stmt)(j:Nat):Stmt:=match s with
 | .ClassDef _ _ _ body _ _ _ _ _ _ _=>body.getD j (.Pass ⟨0,0,0,0⟩)
 | _=>.Pass ⟨0,0,0,0⟩
noncomputable def Ak(s:Stmt):Arguments:=match s with
 | .FunctionDef _ a _ _ _ _ _ _ _ _=>a
 | _=>{ posonlyargs:=[],args:=[],vararg:=none,kwonlyargs:=[],kw_defaults:=[],kwarg:=none,defaults:=[] }
noncomputable def Ai(s:Stmt):List Stmt:=match s with
 | .FunctionDef _ _ b _ _ _ _ _ _ _=>b
 | _=>[]
noncomputable def Af(s:Stmt):jX:=match s with
 | .FunctionDef _ _ _ _ _ _ sc _ _ _=>sc
 | _=>{ kind:=.function,names:=[],isGenerator:=false,isCoroutine:=false }
abbrev CX0:CXT:=fun _ _ _ _ _ _=>False
abbrev E0:XK:=fun _ _ _=>False
theorem Nj{X:Cx}:Il CX0 X E0:=fun _ _ _ _ _ _ _ h=>h.elim
inductive FunE(K:aD)(x qual:Str)(st:Stmt)(f:Addr)(fd:bT):Prop
 | mk (oc:aC) (od:Option Addr) (kV doc pm:aC) (an:Option Addr) (cdv ct:aC) (osl:Array (Option aC)) (h0:fd=aQ x qual (Ak st) (Ai st) (Af st) .none kV doc pm an cdv ct) (h1:K.lookup f=some ⟨oc,od,.func fd,osl⟩) (h2:bH K cdv qual=true):FunE K x qual st f fd
structure Fun(K:aD)(x qual:Str)(st:Stmt)(f:Addr)(fd:bT):Prop where
 ex:FunE K x qual st f fd
 kp:aV K (.ref f)=true
section
variable {P:bQ}{w:cC}{K:aD}{mg:Str->Option aC}{base:Heap}
theorem Fun.ok{x qual:Str}{st:Stmt}{f:Addr}{fd:bT}{N ps:List Str}{k:Nat}{sp:Sp}(F:Fun K x qual st f fd)(S:FnScope N ps (Af st))(len:∀ vs H Q E,sp vs H Q E->vs.length=ps.length)
  (hbody:∀ (cdv:aC) (A:cL) (outer:List Env) (s:aG) (H:Hp) (vs:List V) (Q:VK) (E:XK),Room k (A.deeper (envOfC qual (Af st) s.heap.objs.size f cdv))->sp vs H Q E ->
   ∃ t,PSs (V9 CX0 P w K mg base N qual (Af st) f cdv A outer s H E).nox (Ai st) t/\t { nx:=fun _ H'=>Q .non H',rt:=Q } (start N vs) H):FnOk P w K mg base CX0 (k+1) f fd ps sp:=by
 obtain ⟨oc,od,kV,doc,pm,an,cdv,ct,osl,rfl,lk,hcd⟩:=F.ex
 refine Ant lk hcd S len fun A outer s H vs Q E hr hsp=>?_
 obtain ⟨t,h,q⟩:=hbody cdv A outer s H vs Q E hr hsp
 exact ⟨t,h.nox,q⟩
theorem Fun.binds{x qual:Str}{st:Stmt}{f:Addr}{fd:bT}{ps:List Str}(F:Fun K x qual st f fd)
  (h:∀ (kV doc pm:aC) (an:Option Addr) (cdv ct:aC) (us:List aC),us.length=ps.length->tD (aQ x qual (Ak st) (Ai st) (Af st) .none kV doc pm an cdv ct) ⟨us,[]⟩=pure (ps.zip us)):Binds K fd ps []:=by
 obtain ⟨oc,od,kV,doc,pm,an,cdv,ct,osl,rfl,lk,hcd⟩:=F.ex
 exact .all (h kV doc pm an cdv ct)
theorem Bm{x qual:Str}{st:Stmt}{f:Addr}{oc:aC}{od an:Option Addr}{osl:Array (Option aC)}{kV doc pm cdv ct:aC}(l:K.lookup f=some ⟨oc,od,.func (aQ x qual (Ak st) (Ai st) (Af st) .none kV doc pm an cdv ct),osl⟩)
  (c:bH K cdv qual=true) (k:aV K (.ref f)=true):Fun K x qual st f (aQ x qual (Ak st) (Ai st) (Af st) .none kV doc pm an cdv ct):=⟨⟨oc,od,kV,doc,pm,an,cdv,ct,osl,rfl,l,c⟩,k⟩
end
section
variable {X:Cx}
theorem pv(i:Nat){x:Str}{pos:Pos}(hN:X.N[i]? = some x:=by rfl)(hv:Vis X.env.scope x:=by first | exact tG rfl | exact qJ (tG rfl) | exact qJ (qJ rfl))(hd:(x == ("__debug__" : Str))=false:=by decide)
  (hcd:(x == ("__classdict__" : Str))=false:=by decide):PE X (.Name x pos) (Apn i):=Ad8 hN hv hd hcd
end
theorem Vt{A B:Prop}(h:B):if false=true then A else B:=by
 rw[if_neg fJ]
 exact h
theorem Wq{A B:Prop}(h:A):if true=true then A else B:=by
 rw[if_pos rfl]
 exact h
noncomputable def Same(H H':Hp):Prop:=∀ b o,H b=some o->H' b=some o
theorem Same.refl(H:Hp):Same H H:=fun _ _ h=>h
theorem Same.trans{H H1 H2:Hp}(a:Same H H1)(b:Same H1 H2):Same H H2:=fun c o h=>b c o (a c o h)
theorem Same.free{H H':Hp}(e:Same H H'){l:Addr}(h:H' l=yL):H l=yL:=by
 cases q:H l with
 | none=>rfl
 | some o=>
  rw[e l o q] at h
  cases h
theorem Same.seq{K:aD}{H H':Hp}{a:Addr}{xs:List V}(e:Same H H')(h:SqL K H a xs):SqL K H' a xs:=by
 rcases h with (h | ⟨o,h⟩) | h
 ·exact .inl (.inl (e _ _ h))
 ·exact .inl (.inr ⟨o,e _ _ h⟩)
 ·exact .inr h
section
variable {κ:Type}[DecidableEq κ]
noncomputable def Jr(kvs:List (κ×V))(k:κ):Option V:=(kvs.find? fun kv=>decide (kv.1=k)).map (·.2)
noncomputable def putK(kvs:List (κ×V))(k:κ)(v:V):List (κ×V):=
 if (kvs.any fun kv=>decide (kv.1=k))=true then kvs.map (fun kv=>if kv.1=k then (kv.1,v) else kv) else kvs++[(k,v)]
noncomputable def Oc(kvs:List (κ×V))(k:κ):List (κ×V):=kvs.filter fun kv=>decide (kv.1≠k)
theorem Pa{p:κ×V}{r:List (κ×V)}{k:κ}(e:p.1=k):Jr (p::r) k=some p.2:=by simp[Jr,dL,e]
theorem Oz{p:κ×V}{r:List (κ×V)}{k:κ}(e:¬ p.1=k):Jr (p::r) k=Jr r k:=by simp[Jr,dL,e]
theorem Ou(k:κ):∀ kvs:List (κ×V),(kvs.any fun kv=>decide (kv.1=k))=(Jr kvs k).isSome
 | []=>rfl
 | p::r=>by
  rw[gG]
  by_cases e:p.1=k
  ·simp only[Pa e,decide_eq_true e,Bool.true_or,Option.isSome_some]
  ·rw[Oz e,decide_eq_false e,tW];exact Ou k r
theorem Jz(kvs:List (κ×V))(k:κ)(v:V):(putK kvs k v).length<=kvs.length+1:=by
 unfold putK
 split
 ·rw[cH];omega
 ·rw[eD,aO,aR];omega
theorem RelO.isSome_eq{o:Option V}{u:Option aC}(r:RelO o u):o.isSome=u.isSome:=by
 cases o with
 | none=>cases u with
  | none=>rfl
  | some _=>exact (show False from r).elim
 | some _=>cases u with
  | none=>exact (show False from r).elim
  | some _=>rfl
theorem RelO.getD{o:Option V}{u:Option aC}{d:V}{d':aC}(r:RelO o u)(rd:RelV d d'):RelV (o.getD d) (u.getD d'):=by
 cases o with
 | none=>cases u with
  | none=>exact rd
  | some _=>exact (show False from r).elim
 | some _=>cases u with
  | none=>exact (show False from r).elim
  | some _=>exact r
theorem KV.val{kvs:List (κ×V)}{vs:List (κ×aC)}(r:KV kvs vs)(k:κ):RelO (Jr kvs k) (valueAt vs k):=by
 unfold KV at r
 induction r with
 | nil=>exact iR
 | @cons p q ps qs h t ih=>
  obtain ⟨h1,h2⟩:=h
  by_cases e:p.1=k
  ·have e':q.1=k:=h1.symm.trans e
   have b:valueAt (q::qs) k=some q.2:=by simp[valueAt,dL,e']
   rw[Pa e,b];exact h2
  ·have e':¬ q.1=k:=fun z=>e (h1.trans z)
   have b:valueAt (q::qs) k=valueAt qs k:=by simp[valueAt,dL,e']
   rw[Oz e,b];exact ih
theorem KV.any{kvs:List (κ×V)}{vs:List (κ×aC)}(r:KV kvs vs)(k:κ):(kvs.any fun kv=>decide (kv.1=k))=vs.any fun kv=>decide (kv.1=k):=by
 unfold KV at r
 induction r with
 | nil=>rfl
 | cons h t ih=>rw[gG,gG,ih,h.1]
theorem KV.repl{kvs:List (κ×V)}{vs:List (κ×aC)}(r:KV kvs vs)(k:κ){y:V}{u:aC}(ry:RelV y u) :
  KV (kvs.map fun kv=>if kv.1=k then (kv.1,y) else kv) (vs.map fun kv=>if kv.1=k then (kv.1,u) else kv):=by
 unfold KV at r ⊢
 induction r with
 | nil=>exact .nil
 | @cons p q ps qs h t ih=>
  rw[aL,aL]
  refine .cons ?_ ih
  obtain ⟨h1,h2⟩:=h
  by_cases e:p.1=k
  ·rw[if_pos e,if_pos (h1.symm.trans e)];exact ⟨h1,ry⟩
  ·rw[if_neg e,if_neg (fun z=>e (h1.trans z))];exact ⟨h1,h2⟩
theorem KV.put{kvs:List (κ×V)}{vs:List (κ×aC)}(r:KV kvs vs)(k:κ){y:V}{u:aC}(ry:RelV y u):KV (putK kvs k y) (stored vs k u):=by
 unfold putK stored
 rw[r.any k]
 by_cases e:(vs.any fun kv=>decide (kv.1=k))=true
 ·rw[if_pos e,if_pos e];exact r.repl k ry
 ·rw[if_neg e,if_neg e];exact yM r ⟨rfl,ry⟩
theorem KV.drop{kvs:List (κ×V)}{vs:List (κ×aC)}(r:KV kvs vs)(k:κ):KV (Oc kvs k) (without vs k):=by
 unfold KV at r ⊢
 unfold Oc without
 induction r with
 | nil=>exact .nil
 | @cons p q ps qs h t ih=>
  obtain ⟨h1,h2⟩:=h
  rw[iA,iA]
  by_cases e:p.1=k
  ·have a:¬ decide (p.1≠k)=true:=by simp[e]
   have b:¬ decide (q.1≠k)=true:=by simp[h1.symm.trans e]
   rw[if_neg a,if_neg b];exact ih
  ·have e':¬ q.1=k:=fun z=>e (h1.trans z)
   have a:decide (p.1≠k)=true:=by simp[e]
   have b:decide (q.1≠k)=true:=by simp[e']
   rw[if_pos a,if_pos b];exact .cons ⟨h1,h2⟩ ih
theorem KV.keys{kvs:List (κ×V)}{vs:List (κ×aC)}(r:KV kvs vs):kvs.map (·.1)=vs.map (·.1):=by
 unfold KV at r
 induction r with
 | nil=>rfl
 | cons h t ih=>rw[aL,aL,ih,h.1]
theorem KV.length{kvs:List (κ×V)}{vs:List (κ×aC)}(r:KV kvs vs):kvs.length=vs.length:=nH r
theorem Ae1(kvs:List (κ×V))(k:κ):(Oc kvs k).length<=kvs.length:=kK _ _
end
theorem P1{P:bQ}{w:cC}{k:Key}{u:aC}(r:RelV (kV k) u):(B9 P w).is k u=true:=by
 cases k with
 | inl i=>obtain ⟨t,e⟩:=(show ∃ t,u=jT i t from r);subst e;exact S9 P w i t
 | inr x=>obtain ⟨t,e⟩:=(show ∃ t,u=pU x t from r);subst e;exact Tw P w x t
theorem Qt{P:bQ}{w:cC}:∀ {ks:List Key} {us:List aC},Vals (ks.map kV) us->ItemsAre (B9 P w) ks us
 | [],_,r=>by rw[bV] at r;cases r;exact .nil
 | k::ks,_,r=>by
  rw[aL] at r
  cases r with
  | cons h t=>exact .cons (P1 h) (Qt t)
abbrev KT(H:Hp):List (List Key×V)->List (List Key×Addr×aC)->Prop:=rS fun p q=>p.1=q.1/\H q.2.1=some (.tup (p.1.map kV))/\RelV p.2 q.2.2
theorem KT.val{H:Hp}{kvs:List (List Key×V)}{xs:List (List Key×Addr×aC)}(r:KT H kvs xs)(k:List Key):RelO (Jr kvs k) ((atKey xs k).map (·.2)):=by
 induction r with
 | nil=>exact iR
 | @cons p q ps qs h t ih=>
  obtain ⟨h1,_,h2⟩:=h
  by_cases e:p.1=k
  ·have e':q.1=k:=h1.symm.trans e
   have b:atKey (q::qs) k=some q.2:=by simp[atKey,dL,e']
   rw[Pa e,b];exact h2
  ·have e':¬ q.1=k:=fun z=>e (h1.trans z)
   have b:atKey (q::qs) k=atKey qs k:=by simp[atKey,dL,e']
   rw[Oz e,b];exact ih
theorem KT.repl{H:Hp}{kvs:List (List Key×V)}{xs:List (List Key×Addr×aC)}(r:KT H kvs xs)(k:List Key){y:V}{u:aC}(ry:RelV y u) :
  KT H (kvs.map fun kv=>if kv.1=k then (kv.1,y) else kv) (xs.map (putAt k u)):=by
 induction r with
 | nil=>exact .nil
 | @cons p q ps qs h t ih=>
  rw[aL,aL]
  refine .cons ?_ ih
  obtain ⟨h1,h2,h3⟩:=h
  unfold putAt
  by_cases e:p.1=k
  ·rw[if_pos e,if_pos (h1.symm.trans e)];exact ⟨h1,h2,ry⟩
  ·rw[if_neg e,if_neg (fun z=>e (h1.trans z))];exact ⟨h1,h2,h3⟩
theorem KT.put{H:Hp}{kvs:List (List Key×V)}{xs:List (List Key×Addr×aC)}(r:KT H kvs xs)(k:List Key){b:Addr}{y:V}{u:aC}(hb:H b=some (.tup (k.map kV)))(ry:RelV y u) :
  KT H (putK kvs k y) (storedH xs k b u):=by
 have e:(kvs.any fun kv=>decide (kv.1=k))=(atKey xs k).isSome:=by
  rw[Ou,(r.val k).isSome_eq,iN]
 unfold putK storedH
 rw[e]
 by_cases q:(atKey xs k).isSome=true
 ·rw[if_pos q,if_pos q];exact r.repl k ry
 ·rw[if_neg q,if_neg q];exact yM r ⟨rfl,hb,ry⟩
theorem KT.keeps{H H':Hp}{kvs:List (List Key×V)}{xs:List (List Key×Addr×aC)}(r:KT H kvs xs)(ht:∀ b ys,H b=some (.tup ys)->H' b=some (.tup ys)):KT H' kvs xs:=
 Paired.mapP r fun _ _ z=>⟨z.1,ht _ _ z.2.1,z.2.2⟩
section
variable {P:bQ}{w:cC}{H:Hp}{h:Heap}{a:Addr}
theorem Aki{u:HO}(ok:HOk P w H h)(e:Rd H a u):ObjOk P w H h a u:=e.ok ok
theorem Ro{kvs:List (Key×V)}(ok:HOk P w H h)(e:Rd H a (.dK kvs)):kvs.length<=sizeLine/\(a == sysModules)=false/\∃ vs,KV kvs vs/\h.DictOf (B9 P w) a vs:=
 show ObjOk P w H h a (.dK kvs) from Aki ok e
theorem Uw{kvs:List (Key×V)}(ok:HOk P w H h)(e:H a=some (.dK kvs)):kvs.length<=sizeLine/\(a == sysModules)=false/\∃ vs,KV kvs vs/\h.DictOf (B9 P w) a vs:=Ro ok (.inl e)
theorem Pb{ks:List Key}(ok:HOk P w H h)(e:H a=some (.tup (ks.map kV))):(tupleKind (B9 P w)).is h ks a:=by
 obtain ⟨_,its,r,o,h1,h2,n,h3⟩:=(show ObjOk P w H h a (.tup (ks.map kV)) from ok a _ e)
 exact ⟨o,its.toArray,n,h1,(yJ h2).1,h3,by simpa using Qt r⟩
theorem Rf{kvs:List (List Key×V)}(ok:HOk P w H h)(e:Rd H a (.dT kvs)):kvs.length<=sizeLine/\(a == sysModules)=false /\
  ∃ xs,KT H kvs xs/\h.DictOfH (tupleKind (B9 P w)) a xs:=by
 obtain ⟨z,y,xs,r,o,es,ep,h1,h2,h3,h4,h5⟩:=(show ObjOk P w H h a (.dT kvs) from Aki ok e)
 refine ⟨z,y,xs,r,o,es,ep,h1,h2,h3,h4,fun x hx=>?_,h5⟩
 have all:∀ {l:List (List Key×V)} {m:List (List Key×Addr×aC)},KT H l m->∀ x∈m,(tupleKind (B9 P w)).is h x.1 x.2.1:=by
  intro l m q
  induction q with
  | nil=>intro x hx;exact nomatch hx
  | @cons p q ps qs hq t ih=>
   intro x hx
   rcases cI.mp hx with e | hx
   ·subst e
    exact Pb ok (by rw[<- hq.1];exact hq.2.1)
   ·exact ih x hx
 exact all r x hx
theorem An2{kvs:List (List Key×V)}(ok:HOk P w H h)(e:H a=some (.dT kvs)):kvs.length<=sizeLine/\(a == sysModules)=false /\
  ∃ xs,KT H kvs xs/\h.DictOfH (tupleKind (B9 P w)) a xs:=Rf ok (.inl e)
end
noncomputable def DGet(H:Hp)(a:Addr)(y:V)(r:Option V):Prop:=
 (∃ kvs k,Rd H a (.dK kvs)/\y=kV k/\r=Jr kvs k)\/∃ kvs k b,Rd H a (.dT kvs)/\y = .ref b/\H b=some (.tup (k.map kV))/\r=Jr kvs k
noncomputable def DPut(H:Hp)(a:Addr)(y v:V)(H':Hp):Prop:=
 (∃ kvs k,H a=some (.dK kvs)/\y=kV k/\kvs.length < sizeLine/\H'=upd H a (.dK (putK kvs k v))) \/
 ∃ kvs k b,H a=some (.dT kvs)/\y = .ref b/\H b=some (.tup (k.map kV))/\kvs.length < sizeLine/\H'=upd H a (.dT (putK kvs k v))
theorem DGet.k{H:Hp}{a:Addr}{kvs:List (Key×V)}{k:Key}(e:H a=some (.dK kvs)):DGet H a (kV k) (Jr kvs k):=.inl ⟨kvs,k,.inl e,rfl,rfl⟩
theorem DGet.t{H:Hp}{a b:Addr}{kvs:List (List Key×V)}{k:List Key}(e:H a=some (.dT kvs))(eb:H b=some (.tup (k.map kV))):DGet H a (.ref b) (Jr kvs k):=.inr ⟨kvs,k,b,.inl e,rfl,eb,rfl⟩
theorem DPut.k{H:Hp}{a:Addr}{kvs:List (Key×V)}{k:Key}{v:V}(e:H a=some (.dK kvs))(hl:kvs.length < sizeLine):DPut H a (kV k) v (upd H a (.dK (putK kvs k v))):=.inl ⟨kvs,k,e,rfl,hl,rfl⟩
theorem DPut.t{H:Hp}{a b:Addr}{kvs:List (List Key×V)}{k:List Key}{v:V}(e:H a=some (.dT kvs))(eb:H b=some (.tup (k.map kV)))(hl:kvs.length < sizeLine) :
  DPut H a (.ref b) v (upd H a (.dT (putK kvs k v))):=.inr ⟨kvs,k,b,e,rfl,eb,hl,rfl⟩
section
variable {X:Cx}{pins:List (Addr×Obj)}{σ:St}{H:Hp}{s:aG}{a:Addr}{y v:V}{u r:aC}{o:Option V}{A:cL}{E:aC->aG->Prop}
theorem Inv.big(I:Inv X pins σ H s):sysModules < s.heap.objs.size:=by
 have h:bK < s.heap.objs.size:=(I.mod.glob.keeps I.bk).lt
 exact Nat.lt_trans (by decide) h
theorem Abb{Q:aC->aG->Prop}(hu:A.units+1 < cLine)(I:Inv X pins σ H s)(g:DGet H a y (some v))(ry:RelV y u)(h:∀ w' s',Inv X pins σ H s'->RelV v w'->Q w' s') :
  wpAny (model X.prog X.w) A (getItem (.ref a) u) Q E s:=by
 rcases g with ⟨kvs,k,e,ey,l⟩ | ⟨kvs,k,b,e,ey,eb,l⟩
 ·subst ey
  obtain ⟨z,hd,vs,rel,dd⟩:=Ro I.hok e
  obtain ⟨w',hw,rw'⟩:=RelO.some_of (v:=v) (o:=valueAt vs k) (by rw[l];exact rel.val k)
  exact wpAny_getItem_of (P1 ry) dd.mapOf hw (h w' _ (I.tok _) rw')
 ·subst ey
  cases (show u=cP b from ry)
  obtain ⟨z,hd,xs,rel,dd⟩:=Rf I.hok e
  obtain ⟨w',hw,rw'⟩:=RelO.some_of (v:=v) (o:=(atKey xs k).map (·.2)) (by rw[l];exact rel.val k)
  obtain ⟨p,hp,hp2⟩:=aK.mp hw
  refine wpAny_getItem_heap (jQ hu) (Pb I.hok eb) dd hp ?_
  rw[hp2]
  exact h w' _ (I.tok _) rw'
theorem Ara{Q:aC->aG->Prop}(hu:A.units+1 < cLine)(I:Inv X pins σ H s)(g:DGet H a y o)(ry:RelV y u)(h:∀ s',Inv X pins σ H s'->Q (.bool o.isSome) s') :
  wpAny (model X.prog X.w) A (eQ .In u (.ref a)) Q E s:=by
 rcases g with ⟨kvs,k,e,ey,l⟩ | ⟨kvs,k,b,e,ey,eb,l⟩
 ·subst ey
  obtain ⟨z,hd,vs,rel,dd⟩:=Ro I.hok e
  refine wpAny_in_of (P1 ry) hd dd.mapOf ?_
  rw[<- (rel.val k).isSome_eq,<- l]
  exact h _ (I.tok _)
 ·subst ey
  cases (show u=cP b from ry)
  obtain ⟨z,hd,xs,rel,dd⟩:=Rf I.hok e
  refine wpAny_in_heap (jQ hu) (Pb I.hok eb) hd dd ?_
  have q:=(rel.val k).isSome_eq
  rw[iN] at q
  rw[<- q,<- l]
  exact h _ (I.tok _)
theorem Aip{Q:aC->aG->Prop}(hu:A.units+1 < cLine)(I:Inv X pins σ H s)(g:DGet H a y o)(ry:RelV y u)(h:∀ s',Inv X pins σ H s'->Q (.bool (!o.isSome)) s') :
  wpAny (model X.prog X.w) A (eQ .NotIn u (.ref a)) Q E s:=by
 rcases g with ⟨kvs,k,e,ey,l⟩ | ⟨kvs,k,b,e,ey,eb,l⟩
 ·subst ey
  obtain ⟨z,hd,vs,rel,dd⟩:=Ro I.hok e
  refine wpAny_notIn_of (P1 ry) hd dd.mapOf ?_
  rw[<- (rel.val k).isSome_eq,<- l]
  exact h _ (I.tok _)
 ·subst ey
  cases (show u=cP b from ry)
  obtain ⟨z,hd,xs,rel,dd⟩:=Rf I.hok e
  refine wpAny_notIn_heap (jQ hu) (Pb I.hok eb) hd dd ?_
  have q:=(rel.val k).isSome_eq
  rw[iN] at q
  rw[<- q,<- l]
  exact h _ (I.tok _)
theorem N1{h':Heap}{t':Nat}{ob:HO}(I:Inv X pins σ H s)(mu:Mut (H a))(hs:iE a s.heap h')(he:∃ q,h'.get? a=some q)(new:ObjOk X.prog X.w (upd H a ob) h' a ob) :
  Inv X pins σ (upd H a ob) { s with heap:=h',toks:=t' }:=
 I.write (x:=a) (e:=a) mu (.inl rfl) (fun b q hb z=>(hs.2 b hb).trans z) he new
theorem Vn{P:bQ}{w:cC}{H':Hp}{h':Heap}{kvs:List (Key×V)}{vs:List (Key×aC)}(z:kvs.length<=sizeLine)(hd:(a == sysModules)=false)(rel:KV kvs vs)(dd:h'.DictOf (B9 P w) a vs) :
  ObjOk P w H' h' a (.dK kvs):=⟨z,hd,vs,rel,dd⟩
theorem Aa0{H':Hp}{Q:Unit->aG->Prop}(hu:A.units+1 < cLine)(I:Inv X pins σ H s)(g:DPut H a y v H')(ry:RelV y u)(rv:RelV v r)(h:∀ s',Inv X pins σ H' s'->Q () s') :
  wpAny (model X.prog X.w) A (setItem (.ref a) u r) Q E s:=by
 rcases g with ⟨kvs,k,e,ey,l,eH⟩ | ⟨kvs,k,b,e,ey,eb,l,eH⟩
 ·subst ey eH
  obtain ⟨z,hd,vs,rel,dd⟩:=Uw I.hok e
  have hz:vs.length<=sizeLine:=by rw[<- rel.length];exact z
  have hl:(putK kvs k v).length<=sizeLine:=by have:=Jz kvs k v;omega
  refine wpAny_setItem_pairs (hsz:=hz) (P1 ry) dd fun h' dd' hs=>h _ ?_
  have he:∃ q,h'.get? a=some q:=let ⟨q,_,_,hq,_⟩:=dd';⟨q,hq⟩
  exact N1 I (by rw[e];exact iR) hs he (Vn hl hd (rel.put k rv) dd')
 ·subst ey eH
  cases (show u=cP b from ry)
  obtain ⟨z,hd,xs,rel,dd⟩:=An2 I.hok e
  have hz:xs.length<=sizeLine:=by rw[<- nH rel];exact z
  have hl:(putK kvs k v).length<=sizeLine:=by have:=Jz kvs k v;omega
  refine wpAny_setItem_heap (hsz:=hz) (jQ hu) (Pb I.hok eb) dd fun h' dd' hs=>h _ ?_
  obtain ⟨q,es,ep,hq,h2,h3,h4,_,h5⟩:=dd'
  refine N1 I (by rw[e];exact iR) hs ⟨q,hq⟩ ⟨hl,hd,_,(rel.put k eb rv).keeps fun c ys ec=>?_,q,es,ep,hq,h2,h3,h4,h5⟩
  rw[Az (Aco ec e (fun z=>nomatch z))]
  exact ec
end
section
variable {X:Cx}{pins:List (Addr×Obj)}{σ:St}{H:Hp}{s:aG}{a:Addr}{kvs:List (Key×V)}{k:Key}{u:aC}{A:cL}{E:aC->aG->Prop}
theorem An0{v:V}{more:List aC}{Q:aC->aG->Prop}(I:Inv X pins σ H s)(e:H a=some (.dK kvs))(ry:RelV (kV k) u)(l:Jr kvs k=some v)(hm:more=[]\/∃ x,more=[x])
  (h:∀ w' s',Inv X pins σ (upd H a (.dK (Oc kvs k))) s'->RelV v w'->Q w' s'):wpAny (model X.prog X.w) A (call (.builtin "dict.pop") (.ref a::u::more)) Q E s:=by
 obtain ⟨z,hd,vs,rel,dd⟩:=Uw I.hok e
 obtain ⟨w',hw,rw'⟩:=RelO.some_of (v:=v) (o:=valueAt vs k) (by rw[<- l];exact rel.val k)
 have hp:(keyPart u).isSome=true:=by
  cases k with
  | inl i=>obtain ⟨t,q⟩:=(show ∃ t,u=jT i t from ry);subst q;rfl
  | inr x=>obtain ⟨t,q⟩:=(show ∃ t,u=pU x t from ry);subst q;rfl
 have ha:argsOk "dict.pop" ⟨.ref a::u::more,[]⟩:=by
  rcases hm with q | ⟨x,q⟩
  ·subst q;exact PySem.F.args_dict_pop_2 _ _
  ·subst q;exact PySem.F.args_dict_pop_3 _ _ _
 refine qZ oZ dd.typeIs PySem.F.entry_dict_pop ha (meets_dict_pop_there (B9 X.prog X.w) a (P1 ry) more hm hp)
  ⟨vs,w',dd,by rw[<- rel.length];exact z,hw,fun h' dd' hs=>h w' _ ?_ rw'⟩
 have he:∃ q,h'.get? a=some q:=let ⟨q,_,_,hq,_⟩:=dd';⟨q,hq⟩
 exact N1 I (by rw[e];exact iR) hs he (Vn (dN (Ae1 kvs k) z) hd (rel.drop k) dd')
end
noncomputable def Aml(i:Expr):Prop:=∀ ov iv,subscripted i false ov iv=operate [ov,iv] (getItem ov iv)
theorem Ai8{prog:bQ}{w:cC}{A:cL}{E:aC->aG->Prop}{s:aG}{env:Env}{value slice:Expr}{pos:Pos}{T id:String}{Q:aC->aG->Prop}
  (hl:typeLookup (.type T) "__getitem__" = pure (some (.builtin id))) (hs:Aml slice)
  (h:wpAny (model prog w) A (eval value env) (fun o s₁=>wpAny (model prog w) A (eval slice env) (fun i s₂=>s₂.TypeIs o T/\wpAny (model prog w) A (getItem o i) Q E s₂) E s₁) E s) :
  wpAny (model prog w) A (eval (.Subscript value slice pos) env) Q E s:=by
 refine Subscript_ (eL h (fun o s₁ h₁=>eL h₁ (fun i s₂ h₂=>?_) fun _ _ x=>x) fun _ _ x=>x)
 obtain ⟨hT,h₂⟩:=h₂
 unfold subscriptTail
 refine aB ?_
 rw[getitemInPython_of_ne hT.not_modules]
 refine aB (wpAny_specialOf hT hl ?_)
 have fin:wpAny (model prog w) A (subscripted slice false o i) (fun r s₃=>wpAny (model prog w) A (letTemporaryGo value o r >>= fun _=>pure r) Q E s₃) E s₂:=by
  rw[hs o i]
  exact wpAny_operating (eL h₂ (fun r s₃ h₃=>aB (wpAny_letTemporaryGo (aJ h₃))) fun _ _ x=>x)
 first
  | exact aJ (aB fin)
  | exact aB (aJ (aB fin))
  | exact aB fin
theorem Ul{X:Cx}{pins:List (Addr×Obj)}{σ:St}{H:Hp}{s:aG}{a:Addr}{y:V}{o:Option V}(I:Inv X pins σ H s)(g:DGet H a y o):s.TypeIs (.ref a) "dict" := by
 rcases g with ⟨kvs,k,e,_,_⟩ | ⟨kvs,k,b,e,_,_,_⟩
 ·obtain ⟨_,_,vs,_,dd⟩:=Ro I.hok e
  exact dd.typeIs
 ·obtain ⟨_,_,xs,_,dd⟩:=Rf I.hok e
  exact dd.typeIs
noncomputable def Aog(td ty:TE):TE:=fun σ H Q=>td σ H fun x H1=>ty σ H1 fun y H2=>∃ a v,x = .ref a/\DGet H2 a y (some v)/\Q v H2
noncomputable def Aoe(td ty tv:TE):TS:=fun D σ H=>tv σ H fun v H1=>td σ H1 fun x H2=>ty σ H2 fun y H3=>∃ a H4,x = .ref a/\DPut H3 a y v H4/\D.nx σ H4
section
variable {X:Cx}{o i e value:Expr}{pos pos' tpos:Pos}{td ty tv:TE}
theorem Af8(hu:X.A.units+1 < cLine)(ho:PE X o td)(hi:PE X i ty)(hs:Aml i):PE X (.Subscript o i pos) (Aog td ty):=by
 intro pins s σ H Q I h
 refine Ai8 PySem.F.slot_dict_getitem.lookup hs (thn (ho pins s σ H _ I h) fun u s1 zz=>zz.elim fun x H1 I1 rx q1=>thn (hi pins s1 σ H1 _ I1 q1) fun iv s2 zz=>zz.elim fun y H2 I2 ry zq=>?_)
 obtain ⟨a,v,ex,g,q2⟩:=zq
 subst ex
 obtain rfl:u=cP a:=rx
 exact ⟨Ul I2 g,Abb hu I2 g ry fun w' s3 I3 rw'=>⟨v,H2,I3,rw',q2⟩⟩
theorem Agt(hu:X.A.units+1 < cLine)(ho:PE X o td)(hi:PE X i ty)(hv:PE X value tv)(hs:swapsWith value (some (.Subscript o i pos')) pos.line X.env=pure false) :
  PS X (.Assign [.Subscript o i pos'] value pos) (Aoe td ty tv):=by
 intro pins s σ H D I h
 refine wpAny_Assign_Subscript (thn (hv pins s σ H _ I h) fun r s1 zz=>zz.elim fun v H1 I1 rv q1=>thn (ho pins s1 σ H1 _ I1 q1) fun u s2 zz=>zz.elim fun x H2 I2 rx q2=>thn (hi pins s2 σ H2 _ I2 q2) fun iv s3 zz=>zz.elim fun y H3 I3 ry zq=>?_) hs
 obtain ⟨a,H4,ex,g,q3⟩:=zq
 subst ex
 obtain rfl:u=cP a:=rx
 exact Aa0 hu I3 g ry rv fun s4 I4=>⟨σ,H4,I4,q3⟩
end
theorem Ua{P:bQ}{w:cC}{H:Hp}(h:Heap)(hb:sysModules < h.objs.size):ObjOk P w H (h.push { cls:=.type "dict",data:=.dict #[] }) h.objs.size (.dK []):=
 ⟨eR _,beq_eq_false_iff_ne.mpr (fY (bY hb)),[],.nil,Heap.DictOf.new h⟩
noncomputable def Amv:TE:=fun _ H Q=>∀ p,H p=none->Q (.ref p) (upd H p (.dK []))
section
variable {X:Cx}{pos:Pos}
theorem Ads:PE X (.Dict [] [] pos) Amv:=fun pins s σ H Q I h=>
 wpAny_Dict_empty ⟨.ref s.heap.objs.size,_,I.laid (a:=s.heap.objs.size) (o:=.dK []) (t':=s.toks) (fun _ _ q=>aF _ q) (aN _) (Ua s.heap I.big),rfl,h _ (I.hok.fresh (aN _))⟩
end
noncomputable def Wb:List (TE×TE)->St->Hp->(List (V×V)->Hp->Prop)->Prop
 | [],_,H,Q=>Q [] H
 | (tk,tv)::r,σ,H,Q=>tk σ H fun x H1=>tv σ H1 fun y H2=>Wb r σ H2 fun ps H3=>Q ((x,y)::ps) H3
abbrev VV:List (V×V)->List (aC×aC)->Prop:=rS fun p q=>RelV p.1 q.1/\RelV p.2 q.2
noncomputable def PPs(X:Cx)(pos:Pos)(keys:List (Option Expr))(values:List Expr)(trs:List (TE×TE)):Prop:=
 ∀ (pins:List (Addr×Obj)) (s:aG) (σ:St) (H:Hp) (Q:List (V×V)->Hp->Prop),Inv X pins σ H s->Wb trs σ H Q ->
  wpAny (model X.prog X.w) X.A (evalPairs (pairTrees keys values X.env pos)) (fun vs s'=>∃ ps H',Inv X pins σ H' s'/\VV ps vs/\Q ps H') X.xe s
theorem Ai5{X:Cx}{pos:Pos}:PPs X pos [] [] []:=fun pins s σ H Q I h=>pairTrees_nil_walk ⟨[],H,I,.nil,h⟩
theorem Uq{X:Cx}{pos:Pos}{k v:Expr}{ks:List (Option Expr)}{vs:List Expr}{tk tv:TE}{trs:List (TE×TE)}(hk:PE X k tk)(hv:PE X v tv)(hr:PPs X pos ks vs trs) :
  PPs X pos (some k::ks) (v::vs) ((tk,tv)::trs):=fun pins s σ H Q I h=>
 pairTrees_cons_walk (thn (hk pins s σ H _ I h) fun u s1 zz=>zz.elim fun x H1 I1 rx q1=>thn (hv pins s1 σ H1 _ I1 q1) fun w2 s2 zz=>zz.elim fun y H2 I2 ry q2=>
  thn (hr pins s2 σ H2 _ I2 q2) fun ws s3 ⟨ps,H3,I3,rel,q3⟩=>⟨(x,y)::ps,H3,I3,.cons ⟨rx,ry⟩ rel,q3⟩)
noncomputable def K5(kvs more:List (Key×V)):List (Key×V):=more.foldl (fun acc kv=>putK acc kv.1 kv.2) kvs
theorem KV.merge:∀ {more:List (Key×V)} {rs:List (Key×aC)} {kvs:List (Key×V)} {vs:List (Key×aC)},KV more rs->KV kvs vs->KV (K5 kvs more) (merged vs rs):=by
 intro more rs kvs vs r
 unfold KV at r
 induction r generalizing kvs vs with
 | nil=>intro q;exact q
 | @cons p q ps qs h t ih=>
  intro r0
  have e:KV (putK kvs p.1 p.2) (stored vs q.1 q.2):=by
   have:=r0.put p.1 h.2
   rw[<- h.1];exact this
  exact ih e
theorem Kp:∀ (more kvs:List (Key×V)),(K5 kvs more).length<=kvs.length+more.length
 | [],kvs=>by show kvs.length<=kvs.length+0;omega
 | p::r,kvs=>by
  have h1:=Kp r (putK kvs p.1 p.2)
  have h2:=Jz kvs p.1 p.2
  show (K5 (putK kvs p.1 p.2) r).length<=_
  rw[aO];omega
theorem Oi{P:bQ}{w:cC}:∀ {kvs:List (Key×V)} {ws:List (aC×aC)},VV (kvs.map fun kv=>(kV kv.1,kv.2)) ws->∃ rs,Carries (B9 P w) ws rs/\KV kvs rs
 | [],_,r=>by rw[bV] at r;cases r;exact ⟨[],iR,.nil⟩
 | p::kvs,_,r=>by
  rw[aL] at r
  cases r with
  | @cons a b as bs h t=>
   obtain ⟨rs,c,q⟩:=Oi (P:=P) (w:=w) t
   obtain ⟨b1,b2⟩:=b
   exact ⟨(p.1,b2)::rs,⟨P1 h.1,rfl,c⟩,.cons ⟨rfl,h.2⟩ q⟩
noncomputable def Apt(trs:List (TE×TE)):TE:=fun σ H Q=>∀ p,H p=none->Wb trs σ (upd H p (.dK [])) fun ps H2=>H2 p=some (.dK [])/\∃ kvs:List (Key×V),ps=kvs.map (fun kv=>(kV kv.1,kv.2))/\kvs.length<=15/\Q (.ref p) (upd H2 p (.dK (K5 [] kvs)))
theorem Ago{X:Cx}{pos:Pos}{keys:List (Option Expr)}{values:List Expr}{trs:List (TE×TE)}(h:PPs X pos keys values trs)(hall:keys.all (·.isSome)=true)(hl:keys.length=values.length)(h0:keys≠[])
  (h15:keys.length<=15):PE X (.Dict keys values pos) (Apt trs):=by
 intro pins s σ H Q I q
 have hn:=I.hok.fresh (aN s.heap.objs.size)
 have I1:=I.laid (a:=s.heap.objs.size) (o:=.dK []) (h':=s.heap.push { cls:=.type "dict",data:=.dict #[] }) (t':=s.toks) (fun _ _ q=>aF _ q) (aN _) (Ua s.heap I.big)
 refine wpAny_Dict_walk (knd:=B9 X.prog X.w) hall hl h0 h15 (thn (h pins _ σ _ _ I1 (q _ hn)) fun ws s2 zz=>?_)
 obtain ⟨ps,H2,I2,rel,e,kvs,ep,lk,q2⟩:=zz
 subst ep
 obtain ⟨rs,c,rk⟩:=Oi (P:=X.prog) (w:=X.w) rel
 obtain ⟨z,hd,vs0,r0,dd⟩:=Uw I2.hok e
 cases r0
 refine ⟨rs,c,dd,fun h' dd' hs=>⟨.ref s.heap.objs.size,_,?_,rfl,q2⟩⟩
 have hz:(K5 [] kvs).length<=sizeLine:=by
  have h1:=Kp kvs []
  rw[aR] at h1
  rw[eC];omega
 have he:∃ q,h'.get? s.heap.objs.size=some q:=let ⟨q,_,_,hq,_⟩:=dd';⟨q,hq⟩
 exact N1 I2 (by rw[e];exact iR) hs he (Vn hz hd (rk.merge .nil) dd')
structure M1(X:Cx)(o:Expr)(m:Str)(apos:Pos)(e:Expr)(cpos:Pos):Prop where
 base:attributeBase o m X.env (eval o X.env)=eval o X.env
 few:((backTo cpos (bP [e] X.env)).all (fun x=>!x.1)&&(backToKw cpos (keywordEach [] X.env)).all (fun x=>x.1.isSome)
  && decide (([e]:List Expr).length+([]:List jL).length+(if ([]:List jL).isEmpty then 0 else 1) < 30))=true
 line:(apos.endLine == cpos.line)=true
 trees:backTo cpos (bP [e] X.env)=[(false,eval e X.env)]
structure M2(X:Cx)(o:Expr)(m:Str)(apos:Pos)(e f:Expr)(cpos:Pos):Prop where
 base:attributeBase o m X.env (eval o X.env)=eval o X.env
 few:((backTo cpos (bP [e,f] X.env)).all (fun x=>!x.1)&&(backToKw cpos (keywordEach [] X.env)).all (fun x=>x.1.isSome)
  && decide (([e,f]:List Expr).length+([]:List jL).length+(if ([]:List jL).isEmpty then 0 else 1) < 30))=true
 line:(apos.endLine == cpos.line)=true
 trees:backTo cpos (bP [e,f] X.env)=[(false,eval e X.env),(false,eval f X.env)]
noncomputable def IsD(H:Hp)(a:Addr):Prop:=(∃ kvs,Rd H a (.dK kvs))\/∃ kvs,Rd H a (.dT kvs)
theorem Wn{X:Cx}{pins:List (Addr×Obj)}{σ:St}{H:Hp}{s:aG}{a:Addr}(I:Inv X pins σ H s)(d:IsD H a) :
  s.TypeIs (.ref a) "dict" /\ (∀ b,cP a = .ref b->∃ ob,s.heap.get? b=some ob/\ob.dict=none)/\(a == sysModules)=false:=by
 rcases d with ⟨kvs,e⟩ | ⟨kvs,e⟩
 ·obtain ⟨_,hd,vs,_,dd⟩:=Ro I.hok e
  refine ⟨dd.typeIs,fun b q=>?_,hd⟩
  cases q
  obtain ⟨ob,_,_,h1,h2,_⟩:=dd
  exact ⟨ob,h1,h2.2.1⟩
 ·obtain ⟨_,hd,xs,_,dd⟩:=Rf I.hok e
  refine ⟨dd.typeIs,fun b q=>?_,hd⟩
  cases q
  obtain ⟨ob,_,_,h1,h2,_⟩:=dd
  exact ⟨ob,h1,h2.2.1⟩
section
variable {X:Cx}{pins:List (Addr×Obj)}{σ:St}{H:Hp}{s:aG}{a:Addr}{y d:V}{u r:aC}{o:Option V}{A:cL}{E:aC->aG->Prop}
end
noncomputable def Am0(td ty:TE):TE:=fun σ H Q=>td σ H fun x H1=>∃ a,x = .ref a/\IsD H1 a/\ty σ H1 fun y H2=>∃ kvs k v,H2 a=some (.dK kvs)/\y=kV k/\Jr kvs k=some v/\Q v (upd H2 a (.dK (Oc kvs k)))
section
variable {X:Cx}{o e f:Expr}{apos cpos:Pos}{td ty tx:TE}
theorem Ack(ho:PE X o td)(he:PE X e ty)(m:M1 X o "pop" apos e cpos):PE X (.Call (.Attribute o "pop" apos) [e] [] cpos) (Am0 td ty):=by
 intro pins s σ H Q I h
 refine mW m.base m.few m.line jU oZ PySem.F.type_dict_pop (thn (ho pins s σ H _ I h) fun u s1 zz=>zz.elim fun x H1 I1 rx zq=>?_)
 obtain ⟨a,ex,d,q1⟩:=zq
 subst ex
 obtain rfl:u=cP a:=rx
 obtain ⟨t1,t2,_⟩:=Wn I1 d
 refine ⟨t1,t2,?_⟩
 rw[m.trees]
 refine kB rfl (Calls.evalArgs_plain (jP (thn (he pins s1 σ H1 _ I1 q1) fun iv s2 zz=>zz.elim fun y H2 I2 ry zq=>kA ?_)))
 obtain ⟨kvs,k,v,ea,ey,l,q2⟩:=zq
 subst ey
 exact An0 I2 ea ry l (.inl rfl) fun w' s3 I3 rw'=>⟨v,_,I3,rw',q2⟩
end
section
variable {X:Cx}{pins:List (Addr×Obj)}{σ:St}{H:Hp}{s:aG}{a:Addr}{kvs:List (Key×V)}{A:cL}{E:aC->aG->Prop}
end
section
variable {X:Cx}{pins:List (Addr×Obj)}{σ:St}{H:Hp}{s:aG}{a:Addr}{y:V}{u:aC}{A:cL}{E:aC->aG->Prop}
end
end L2
namespace MR
open PySem PySem.Spec PyProof.Rows L2
inductive U where
 | non | bl (b:Bool) | int (i:Int) | str (x:Str) | tup (l:List U) | ref (n:Nat)
inductive HU where
 | lst (xs:List U) | ro (xs:List U) | dic (kvs:List (Key×U)) | rod (kvs:List (Key×U)) | ins (C:Str) (fs:List (Str×U)) | exc (C:Str) (fr:Bool) (fs:List (Str×U))
abbrev UH:=List HU
abbrev UE:=List (Option U)
section
variable (K:aD)(H:Hp)(α:List Addr)
mutual
noncomputable def RepU:U->V->Prop
 | .non,v=>v = .non
 | .bl b,v=>v = .bl b
 | .int i,v=>v = .int i
 | .str x,v=>v = .str x
 | .tup l,v=>∃ a xs,v = .ref a/\SqT K H a xs/\RepL l xs
 | .ref n,v=>∃ a,α[n]? = some a/\v = .ref a
noncomputable def RepL:List U->List V->Prop
 | [],xs=>xs=[]
 | u::l,xs=>∃ x r,xs=x::r/\RepU u x/\RepL l r
end
end
noncomputable def Stay(H H':Hp):Prop:=(∀ b xs,H b=some (.tup xs)->H' b=some (.tup xs))/\∀ b o u,H b=some (.frz o u)->H' b=some (.frz o u)
theorem Stay.refl(H:Hp):Stay H H:=⟨fun _ _ q=>q,fun _ _ _ q=>q⟩
theorem Stay.trans{H H1 H2:Hp}(a:Stay H H1)(b:Stay H1 H2):Stay H H2:=⟨fun c xs q=>b.1 c xs (a.1 c xs q),fun c o u q=>b.2 c o u (a.2 c o u q)⟩
theorem Stay.sqT{K:aD}{H H':Hp}{a:Addr}{xs:List V}(e:Stay H H')(h:SqT K H a xs):SqT K H' a xs:=by
 rcases h with (h | ⟨o,h⟩) | h
 ·exact .inl (.inl (e.1 _ _ h))
 ·exact .inl (.inr ⟨o,e.2 _ _ _ h⟩)
 ·exact .inr h
theorem Stay.new{H:Hp}{p:Addr}(h:H p=none)(o:HO):Stay H (upd H p o):=⟨fun b u q=>by rw[Az (Bj q h)];exact q,fun b o u q=>by rw[Az (Bj q h)];exact q⟩
theorem Stay.write{H:Hp}{p:Addr}{o:HO}(h:H p=some o)(m:Mut (some o))(o':HO):Stay H (upd H p o'):=
 ⟨fun b u q=>by rw[Az (Aco q h (fun z=>by subst z;exact m))];exact q,fun b w u q=>by rw[Az (Aco q h (fun z=>by subst z;exact m))];exact q⟩
structure Gr(H:Hp)(α:List Addr)(H':Hp)(α':List Addr):Prop where
 pre:∃ β,α' = α ++ β
 st:Stay H H'
theorem Gr.refl(H:Hp)(α:List Addr):Gr H α H α:=⟨⟨[],by simp⟩,.refl H⟩
theorem Gr.trans{H H1 H2:Hp}{α α1 α2:List Addr}(a:Gr H α H1 α1)(b:Gr H1 α1 H2 α2):Gr H α H2 α2:=by
 obtain ⟨⟨β,e⟩,s⟩:=a
 obtain ⟨⟨γ,e'⟩,s'⟩:=b
 exact ⟨⟨β ++ γ,by rw[e',e,bA]⟩,s.trans s'⟩
theorem Gr.at{H H':Hp}{α α':List Addr}(g:Gr H α H' α'){n:Nat}{a:Addr}(h:α[n]? = some a):α'[n]? = some a:=by
 obtain ⟨β,e⟩:=g.pre
 have hn:n < α.length:=(aZ.mp h).1
 rw[e,bB hn];exact h
section
variable {K:aD}{H H':Hp}{α α':List Addr}
mutual
theorem RepU.mono(g:Gr H α H' α'):∀ (u:U) (v:V),RepU K H α u v->RepU K H' α' u v
 | .non,_,h=>h
 | .bl _,_,h=>h
 | .int _,_,h=>h
 | .str _,_,h=>h
 | .tup l,v,h=>by
  unfold RepU at h ⊢
  obtain ⟨a,xs,e,s,r⟩:=h
  exact ⟨a,xs,e,g.st.sqT s,RepL.mono g l xs r⟩
 | .ref n,v,h=>by
  unfold RepU at h ⊢
  obtain ⟨a,e,q⟩:=h
  exact ⟨a,g.at e,q⟩
theorem RepL.mono(g:Gr H α H' α'):∀ (l:List U) (xs:List V),RepL K H α l xs->RepL K H' α' l xs
 | [],xs,h=>h
 | u::l,xs,h=>by
  unfold RepL at h ⊢
  obtain ⟨x,r,e,h1,h2⟩:=h
  exact ⟨x,r,e,RepU.mono g u x h1,RepL.mono g l r h2⟩
end
theorem RepL.length:∀ {l:List U} {xs:List V},RepL K H α l xs->l.length=xs.length
 | [],xs,h=>by unfold RepL at h;subst h;rfl
 | u::l,xs,h=>by
  unfold RepL at h
  obtain ⟨x,r,e,_,h2⟩:=h
  subst e
  simp[RepL.length h2]
theorem RepL.get:∀ {l:List U} {xs:List V} {i:Nat} {u:U},RepL K H α l xs->l[i]? = some u->∃ x,xs[i]? = some x/\RepU K H α u x
 | [],xs,i,u,h,e=>by simp at e
 | w::l,xs,i,u,h,e=>by
  unfold RepL at h
  obtain ⟨x,r,e',h1,h2⟩:=h
  subst e'
  cases i with
  | zero=>simp at e;subst e;exact ⟨x,rfl,h1⟩
  | succ i=>simpa using RepL.get (i:=i) h2 (by simpa using e)
theorem RepL.get'{l:List U}{xs:List V}{i:Nat}{x:V}(h:RepL K H α l xs)(e:xs[i]? = some x):∃ u,l[i]? = some u/\RepU K H α u x:=by
 have hi:i < l.length:=by rw[h.length];exact (aZ.mp e).1
 obtain ⟨y,e2,r⟩:=h.get (aH hi)
 rw[e] at e2;cases e2
 exact ⟨_,aH hi,r⟩
theorem RepL.nil:RepL K H α [] []:=by unfold RepL;rfl
theorem RepL.cons{u:U}{l:List U}{x:V}{xs:List V}(h:RepU K H α u x)(t:RepL K H α l xs):RepL K H α (u::l) (x::xs):=by
 unfold RepL;exact ⟨x,xs,rfl,h,t⟩
theorem RepL.append:∀ {l l':List U} {xs ys:List V},RepL K H α l xs->RepL K H α l' ys->RepL K H α (l++l') (xs++ys)
 | [],l',xs,ys,h,t=>by unfold RepL at h;subst h;exact t
 | u::l,l',xs,ys,h,t=>by
  unfold RepL at h
  obtain ⟨x,r,e,h1,h2⟩:=h
  subst e
  exact .cons h1 (RepL.append h2 t)
theorem RepL.take:∀ {l:List U} {xs:List V} (n:Nat),RepL K H α l xs->RepL K H α (l.take n) (xs.take n)
 | [],xs,n,h=>by unfold RepL at h;subst h;simp[RepL.nil]
 | u::l,xs,0,h=>by simp[RepL.nil]
 | u::l,xs,n+1,h=>by
  unfold RepL at h
  obtain ⟨x,r,e,h1,h2⟩:=h
  subst e
  exact .cons h1 (RepL.take n h2)
theorem RepL.drop:∀ {l:List U} {xs:List V} (n:Nat),RepL K H α l xs->RepL K H α (l.drop n) (xs.drop n)
 | [],xs,n,h=>by unfold RepL at h;subst h;simp[RepL.nil]
 | u::l,xs,0,h=>h
 | u::l,xs,n+1,h=>by
  unfold RepL at h
  obtain ⟨x,r,e,h1,h2⟩:=h
  subst e
  exact RepL.drop n h2
theorem RepL.set{u:U}{x:V}(q:RepU K H α u x):∀ {l:List U} {xs:List V} (n:Nat),RepL K H α l xs->RepL K H α (l.set n u) (xs.set n x)
 | [],xs,n,h=>by unfold RepL at h;subst h;exact .nil
 | w::l,xs,0,h=>by
  unfold RepL at h
  obtain ⟨y,r,e,h1,h2⟩:=h
  subst e
  exact .cons q h2
 | w::l,xs,n+1,h=>by
  unfold RepL at h
  obtain ⟨y,r,e,h1,h2⟩:=h
  subst e
  exact .cons h1 (RepL.set q n h2)
theorem RepL.reverse:∀ {l:List U} {xs:List V},RepL K H α l xs->RepL K H α l.reverse xs.reverse
 | [],xs,h=>by unfold RepL at h;subst h;exact .nil
 | w::l,xs,h=>by
  unfold RepL at h
  obtain ⟨y,r,e,h1,h2⟩:=h
  subst e
  rw[eW,eW]
  exact (RepL.reverse h2).append (.cons h1 .nil)
theorem RepL.ints:∀ (ns:List Int),RepL K H α (ns.map U.int) (ns.map V.int)
 | []=>.nil
 | n::r=>.cons rfl (RepL.ints r)
end
noncomputable def RO(K:aD)(H:Hp)(a:Addr)(xs:List V):Prop:=
 (∃ o,H a=some (.frz o (.lst xs)))\/∃ (o:Obj) (its:Array aC) (n:Nat),K.lookup a=some o/\o.cls = .type "list" /\ o.dict=none/\o.data = .seq its n/\its.size<=sizeLine/\Vals xs its.toList
theorem RO.sq{K:aD}{H:Hp}{a:Addr}{xs:List V}(h:RO K H a xs):SqL K H a xs:=by
 rcases h with ⟨o,h⟩ | h
 ·exact .inl (.inr ⟨o,h⟩)
 ·exact .inr h
theorem RO.stay{K:aD}{H H':Hp}{a:Addr}{xs:List V}(st:Stay H H')(h:RO K H a xs):RO K H' a xs:=by
 rcases h with ⟨o,h⟩ | h
 ·exact .inl ⟨o,st.2 _ _ _ h⟩
 ·exact .inr h
inductive ExcIs(a Ca:Addr)(dd:Option Addr)(fr:Bool)(h:Heap):Prop
 | mk (o:Obj) (vs:Array aC) (h0:h.get? a=some o) (h1:o.cls = .ref Ca) (h2:o.dict=dd) (h3:o.data = .fields vs) (h4:1 < vs.size) (h5:o.slots=#[]) (h6:(fr=true->vs[1]? = some .none)):ExcIs a Ca dd fr h
noncomputable def DictIs(H:Hp)(dd:Option Addr)(vs:List (Str×V)):Prop:=match dd with
 | none=>vs=[]
 | some dx=>vs≠[]/\∃ od,H dx=some (.frz od (.xd vs))
theorem DictIs.stay{H H':Hp}{dd:Option Addr}{vs:List (Str×V)}(st:∀ b o ws,H b=some (.frz o (.xd ws))->H' b=some (.frz o (.xd ws)))(h:DictIs H dd vs):DictIs H' dd vs:=by
 cases dd with
 | none=>exact h
 | some dx=>obtain ⟨ne,od,q⟩:=h;exact ⟨ne,od,st _ _ _ q⟩
inductive InsRep(K:aD)(H:Hp)(α:List Addr)(a:Addr)(C:Str)(fs:List (Str×U)):Prop
 | mk (Ca:_) (dx:_) (vs:_) (h0:bU K bK C=some (some (.ref Ca))) (h1:H a=some (.ins Ca dx vs)) (h2:fs.map (·.1)=vs.map (·.1)) (h3:RepL K H α (fs.map (·.2)) (vs.map (·.2))):InsRep K H α a C fs
inductive ExcRep(K:aD)(H:Hp)(α:List Addr)(a:Addr)(C:Str)(fr:Bool)(fs:List (Str×U)):Prop
 | mk (Ca:_) (dd:_) (vs:_) (h0:bU K bK C=some (some (.ref Ca))) (h1:H a=some (.ext (ExcIs a Ca dd fr))) (h2:DictIs H dd vs) (h3:fs.map (·.1)=vs.map (·.1)) (h4:RepL K H α (fs.map (·.2)) (vs.map (·.2))):ExcRep K H α a C fr fs
noncomputable def HRep(K:aD)(H:Hp)(α:List Addr)(a:Addr):HU->Prop
 | .lst us=>∃ xs,H a=some (.lst xs)/\RepL K H α us xs
 | .ro us=>∃ xs,RO K H a xs/\RepL K H α us xs
 | .dic kvs=>∃ vs,H a=some (.dK vs)/\kvs.map (·.1)=vs.map (·.1)/\RepL K H α (kvs.map (·.2)) (vs.map (·.2))
 | .rod kvs=>∃ o vs,H a=some (.frz o (.dK vs))/\kvs.map (·.1)=vs.map (·.1)/\RepL K H α (kvs.map (·.2)) (vs.map (·.2))
 | .ins C fs=>InsRep K H α a C fs
 | .exc C fr fs=>ExcRep K H α a C fr fs
noncomputable def HU.isRo:HU->Bool
 | .ro _=>true
 | _=>false
structure Abs(K:aD)(H:Hp)(α:List Addr)(L:UH):Prop where
 len:α.length=L.length
 inj:∀ (i j:Nat) (a:Addr) (o o':HU),α[i]? = some a->α[j]? = some a->L[i]? = some o->L[j]? = some o'->i=j\/o.isRo=true\/o'.isRo=true
 rep:∀ (i:Nat) (a:Addr) (o:HU),α[i]? = some a->L[i]? = some o->HRep K H α a o
theorem Abs.addr{K:aD}{H:Hp}{α:List Addr}{L:UH}(A:Abs K H α L){n:Nat}{o:HU}(h:L[n]? = some o):∃ a,α[n]? = some a/\HRep K H α a o:=by
 have hn:n < α.length:=by rw[A.len];exact (aZ.mp h).1
 exact ⟨α[n],aH hn,A.rep n _ o (aH hn) h⟩
theorem HRep.other{K:aD}{H H':Hp}{α α':List Addr}{a:Addr}{o:HU}(g:Gr H α H' α')(hs:o.isRo=true\/∀ u,H a=some u->H' a=some u)(h:HRep K H α a o):HRep K H' α' a o:=by
 cases o with
 | lst us=>obtain ⟨xs,e,r⟩:=h;exact ⟨xs,(hs.resolve_left (by simp[HU.isRo])) _ e,r.mono g⟩
 | ro us=>obtain ⟨xs,e,r⟩:=h;exact ⟨xs,e.stay g.st,r.mono g⟩
 | dic kvs=>obtain ⟨vs,e,k,r⟩:=h;exact ⟨vs,(hs.resolve_left (by simp[HU.isRo])) _ e,k,r.mono g⟩
 | rod kvs=>obtain ⟨o,vs,e,k,r⟩:=h;exact ⟨o,vs,(hs.resolve_left (by simp[HU.isRo])) _ e,k,r.mono g⟩
 | ins C fs=>obtain ⟨Ca,dx,vs,n,e,k,r⟩:=h;exact ⟨Ca,dx,vs,n,(hs.resolve_left (by simp[HU.isRo])) _ e,k,r.mono g⟩
 | exc C fr fs=>obtain ⟨Ca,dd,vs,n,e,d,k,r⟩:=h;exact ⟨Ca,dd,vs,n,(hs.resolve_left (by simp[HU.isRo])) _ e,d.stay fun b o ws q=>g.st.2 b o _ q,k,r.mono g⟩
theorem HRep.some{K:aD}{H:Hp}{α:List Addr}{a:Addr}{o:HU}(h:HRep K H α a o)(n:o.isRo=false):∃ u,H a=some u:=by
 cases o with
 | lst us=>obtain ⟨xs,e,r⟩:=h;exact ⟨_,e⟩
 | ro us=>simp[HU.isRo] at n
 | dic kvs=>obtain ⟨vs,e,k,r⟩:=h;exact ⟨_,e⟩
 | rod kvs=>obtain ⟨o,vs,e,k,r⟩:=h;exact ⟨_,e⟩
 | ins C fs=>obtain ⟨Ca,dx,vs,n',e,k,r⟩:=h;exact ⟨_,e⟩
 | exc C fr fs=>obtain ⟨Ca,dd,vs,n',e,k,r⟩:=h;exact ⟨_,e⟩
theorem Abs.new{K:aD}{H:Hp}{α:List Addr}{L:UH}{p:Addr}{o:HO}{u:HU}(A:Abs K H α L)(hp:H p=none)(hr:HRep K (upd H p o) (α ++ [p]) p u) :
  Abs K (upd H p o) (α ++ [p]) (L++[u])/\Gr H α (upd H p o) (α ++ [p]):=by
 have g:Gr H α (upd H p o) (α ++ [p]):=⟨⟨[p],rfl⟩,.new hp o⟩
 have hl:=A.len
 refine ⟨⟨by simp[hl],fun i j a o1 o2 e1 e2 e3 e4=>?_,fun i a o1 e1 e2=>?_⟩,g⟩
 ·have fresh:∀ (k:Nat) (o3:HU),α[k]? = some p->L[k]? = some o3->o3.isRo=true:=fun k o3 q1 q2=>by
   cases hh:o3.isRo with
   | true=>rfl
   | false=>
    obtain ⟨u3,q⟩:=(A.rep k p o3 q1 q2).some hh
    rw[hp] at q;cases q
  by_cases hi:i < α.length
  ·rw[bB hi] at e1
   rw[bB (by omega)] at e3
   by_cases hj:j < α.length
   ·rw[bB hj] at e2
    rw[bB (by omega)] at e4
    exact A.inj i j a o1 o2 e1 e2 e3 e4
   ·rw[bJ (by omega)] at e2
    have:a=p:=by
     cases hk:j - α.length with
     | zero=>rw[hk] at e2;simp at e2;exact e2.symm
     | succ k=>rw[hk] at e2;simp at e2
    subst this
    exact .inr (.inl (fresh i o1 e1 e3))
  ·rw[bJ (by omega)] at e1
   have hia:a=p/\i = α.length:=by
    cases hk:i - α.length with
    | zero=>rw[hk] at e1;simp at e1;exact ⟨e1.symm,by omega⟩
    | succ k=>rw[hk] at e1;simp at e1
   obtain ⟨rfl,hi'⟩:=hia
   by_cases hj:j < α.length
   ·rw[bB hj] at e2
    rw[bB (by omega)] at e4
    exact .inr (.inr (fresh j o2 e2 e4))
   ·rw[bJ (by omega)] at e2
    have:j = α.length:=by
     cases hk:j - α.length with
     | zero=>omega
     | succ k=>rw[hk] at e2;simp at e2
    exact .inl (by omega)
 ·by_cases hi:i < α.length
  ·rw[bB hi] at e1
   rw[bB (by omega)] at e2
   refine (A.rep i a o1 e1 e2).other g ?_
   exact .inr fun u3 q=>by rw[Az (Bj q hp)];exact q
  ·rw[bJ (by omega)] at e1
   rw[bJ (by omega)] at e2
   have h1:i - α.length=0:=by
    cases hk:i - α.length with
    | zero=>rfl
    | succ k=>rw[hk] at e1;simp at e1
   rw[h1] at e1
   rw[show i - L.length=0 by omega] at e2
   simp at e1 e2
   subst e1;subst e2
   exact hr
theorem Abs.put{K:aD}{H:Hp}{α:List Addr}{L:UH}{p:Addr}{n:Nat}{o0 o:HO}{u0 u:HU}(A:Abs K H α L)(hn:α[n]? = some p)(hL:L[n]? = some u0)(hro:u0.isRo=false)(hro':u.isRo=false)(hp:H p=some o0)(hm:Mut (some o0))(hr:HRep K (upd H p o) α p u) :
  Abs K (upd H p o) α (L.set n u)/\Gr H α (upd H p o) α:=by
 have g:Gr H α (upd H p o) α:=⟨⟨[],by simp⟩,.write hp hm o⟩
 have hl:=A.len
 have hlt:n < L.length:=(aZ.mp hL).1
 have look:∀ (i:Nat) (o1:HU),(L.set n u)[i]? = some o1->∃ o2,L[i]? = some o2/\o2.isRo=o1.isRo/\(i≠n->o2=o1):=fun i o1 e=>by
  by_cases hi:n=i
  ·subst hi
   rw[cX hlt] at e
   cases e
   exact ⟨u0,hL,by rw[hro,hro'],fun z=>absurd rfl z⟩
  ·rw[cZ hi] at e
   exact ⟨o1,e,rfl,fun _=>rfl⟩
 refine ⟨⟨by simp[hl],fun i j a o1 o2 e1 e2 e3 e4=>?_,fun i a o1 e1 e2=>?_⟩,g⟩
 ·obtain ⟨x1,q1,r1,_⟩:=look i o1 e3
  obtain ⟨x2,q2,r2,_⟩:=look j o2 e4
  rw[<- r1,<- r2]
  exact A.inj i j a x1 x2 e1 e2 q1 q2
 ·by_cases hi:n=i
  ·subst hi
   rw[cX hlt] at e2
   cases e2
   rw[hn] at e1;cases e1
   exact hr
  ·rw[cZ hi] at e2
   refine (A.rep i a o1 e1 e2).other g ?_
   by_cases hap:a=p
   ·subst hap
    rcases A.inj i n a o1 u0 e1 hn e2 hL with z | z | z
    ·exact absurd z.symm hi
    ·exact .inl z
    ·rw[hro] at z;cases z
   ·exact .inr fun u3 q=>by rw[Az hap];exact q
structure RepS(K:aD)(H:Hp)(α:List Addr)(δ:UE)(σ:L2.St):Prop where
 len:δ.length = σ.length
 at_:∀ (i:Nat) (u:U),δ[i]? = some (some u)->∃ v,σ[i]? = some (some v)/\RepU K H α u v
theorem RepS.mono{K:aD}{H H':Hp}{α α':List Addr}{δ:UE}{σ:L2.St}(g:Gr H α H' α')(h:RepS K H α δ σ):RepS K H' α' δ σ:=
 ⟨h.len,fun i u e=>let ⟨v,q,r⟩:=h.at_ i u e;⟨v,q,r.mono g⟩⟩
theorem RepS.set{K:aD}{H:Hp}{α:List Addr}{δ:UE}{σ:L2.St}(h:RepS K H α δ σ)(i:Nat){u:U}{v:V}(r:RepU K H α u v):RepS K H α (δ.set i (some u)) (σ.set i (some v)):=
 ⟨by simp[h.len],fun j w e=>by
  by_cases hj:i=j
  ·subst hj
   by_cases hi:i < δ.length
   ·rw[cX hi] at e
    cases e
    exact ⟨v,cX (by rw[<- h.len];exact hi),r⟩
   ·rw[dF (by simpa using hi)] at e;cases e
  ·rw[cZ hj] at e
   obtain ⟨v',q,r'⟩:=h.at_ j w e
   exact ⟨v',by rw[cZ hj];exact q,r'⟩⟩
theorem RepS.start{K:aD}{H:Hp}{α:List Addr}(N:List Str){us:List U}{vs:List V}(h:RepL K H α us vs):RepS K H α (us.map some++aY (N.length - us.length) none) (start N vs):=by
 have hl:=h.length
 refine ⟨by simp[L2.start,hl],fun i u e=>?_⟩
 by_cases hi:i < us.length
 ·rw[bB (by simpa using hi),cB] at e
  cases q:us[i]? with
  | none=>rw[q] at e;simp at e
  | some w=>
   rw[q] at e
   simp at e
   subst e
   obtain ⟨x,e2,r⟩:=h.get q
   refine ⟨x,?_,r⟩
   unfold L2.start
   rw[bB (by simp;omega),cB,e2];rfl
 ·rw[bJ (by simpa using hi)] at e
  have:=eS e
  simp at this
abbrev FE:=UE->UH->Option (U×UH)
abbrev FT:=UE->UH->Option (Bool×UH)
abbrev FA:=UE->UH->Option (List U×UH)
inductive lE(K:aD)(f:FE)(σ:L2.St)(H:Hp)(Q:VK):Prop
 | mk (α:List Addr) (δ:UE) (L:UH) (A:Abs K H α L) (S:RepS K H α δ σ) (u:U) (L':UH) (e:f δ L=some (u,L')) (q:∀ v H' α',Gr H α H' α'->Abs K H' α' L'->RepU K H' α' u v->Q v H'):lE K f σ H Q
inductive lT(K:aD)(f:FT)(σ:L2.St)(H:Hp)(Q:Bool->Hp->Prop):Prop
 | mk (α:List Addr) (δ:UE) (L:UH) (A:Abs K H α L) (S:RepS K H α δ σ) (b:Bool) (L':UH) (e:f δ L=some (b,L')) (q:∀ H' α',Gr H α H' α'->Abs K H' α' L'->Q b H'):lT K f σ H Q
inductive lA(K:aD)(f:FA)(σ:L2.St)(H:Hp)(Q:List V->Hp->Prop):Prop
 | mk (α:List Addr) (δ:UE) (L:UH) (A:Abs K H α L) (S:RepS K H α δ σ) (us:List U) (L':UH) (e:f δ L=some (us,L')) (q:∀ vs H' α',Gr H α H' α'->Abs K H' α' L'->RepL K H' α' us vs->Q vs H'):lA K f σ H Q
noncomputable def PEF(X:Cx)(e:Expr)(f:FE):Prop:=PE X e (lE X.K f)
noncomputable def PTF(X:Cx)(e:Expr)(f:FT):Prop:=PT X e (lT X.K f)
noncomputable def PWF(X:Cx)(e:Expr)(f:FT):Prop:=PW X e (lT X.K f)
noncomputable def PAF(X:Cx)(es:List Expr)(f:FA):Prop:=PA X es (lA X.K f)
section
variable {X:Cx}{e:Expr}{es:List Expr}
theorem PE.imp{t t':TE}(h:PE X e t)(hi:∀ σ H Q,t' σ H Q->t σ H Q):PE X e t':=fun pins s σ H Q I q=>h pins s σ H Q I (hi σ H Q q)
theorem PT.imp{t t':TT}(h:PT X e t)(hi:∀ σ H Q,t' σ H Q->t σ H Q):PT X e t':=fun pins s σ H Q I q=>h pins s σ H Q I (hi σ H Q q)
theorem PW.imp{t t':TT}(h:PW X e t)(hi:∀ σ H Q,t' σ H Q->t σ H Q):PW X e t':=fun wh pins s σ H Q I q=>h wh pins s σ H Q I (hi σ H Q q)
theorem PA.imp{t t':TA}(h:PA X es t)(hi:∀ σ H Q,t' σ H Q->t σ H Q):PA X es t':=fun pos pins s σ H Q I q=>h pos pins s σ H Q I (hi σ H Q q)
end
noncomputable def Ae(i:Nat):FE:=fun δ L=>(δ[i]?).join.map fun u=>(u,L)
noncomputable def fC(u:U):FE:=fun _ L=>some (u,L)
section
variable {X:Cx}{a b c e:Expr}{pos:Pos}
theorem Ag(i:Nat){x:Str}{pos:Pos}(hN:X.N[i]? = some x:=by rfl)(hv:Vis X.env.scope x:=by first | exact tG rfl | exact qJ (tG rfl) | exact qJ (qJ rfl))
  (hd:(x == ("__debug__" : Str))=false:=by decide) (hcd:(x == ("__classdict__" : Str))=false:=by decide):PEF X (.Name x pos) (Ae i):=by
 refine PE.imp (Ad8 hN hv hd hcd) ?_
 rintro σ H Q ⟨α,δ,L,A,S,u,L',e,q⟩
 unfold Ae at e
 cases h:δ[i]? with
 | none=>rw[h] at e;simp at e
 | some o=>
  cases o with
  | none=>rw[h] at e;simp at e
  | some w=>
   rw[h] at e
   simp at e
   obtain ⟨rfl,rfl⟩:=e
   obtain ⟨v,hv,r⟩:=S.at_ i w h
   exact ⟨v,hv,q v H α (.refl _ _) A r⟩
theorem Ahx{v:V}{u:U}(h:PE X e (tC v))(r:∀ H α,RepU X.K H α u v):PEF X e (fC u):=by
 refine PE.imp h ?_
 rintro σ H Q ⟨α,δ,L,A,S,w,L',e,q⟩
 unfold fC at e
 cases e
 exact q v H α (.refl _ _) A (r H α)
theorem An{i:Int}{j pos}:PEF X (.Constant (.int i) j pos) (fC (.int i)):=Ahx Afp fun _ _=>rfl
theorem Py{b:Bool}{j pos}:PEF X (.Constant (.bool b) j pos) (fC (.bl b)):=Ahx Ao8 fun _ _=>rfl
theorem Anm{j pos}:PEF X (.Constant .none j pos) (fC .non):=Ahx Amr fun _ _=>rfl
theorem Gv{x:Str}{j pos}:PEF X (.Constant (.str x) j pos) (fC (.str x)):=Ahx Amc fun _ _=>rfl
abbrev S2:=U->U->UH->Option (U×UH)
noncomputable def Dm(K:aD)(r:R2)(sem:S2):Prop:=∀ (H:Hp) (α:List Addr) (L:UH) (u w:U) (x y:V) (z:U) (L':UH) (Q:VK),Abs K H α L->RepU K H α u x->RepU K H α w y->sem u w L=some (z,L') ->
 (∀ v H' α',Gr H α H' α'->Abs K H' α' L'->RepU K H' α' z v->Q v H')->r x y H Q
noncomputable def f2(sem:S2)(fa fb:FE):FE:=fun δ L=>(fa δ L).bind fun p=>(fb δ p.2).bind fun q=>sem p.1 q.1 q.2
theorem Xn{K:aD}{r:R2}{sem:S2}{fa fb:FE}(h:Dm K r sem):∀ σ H Q,lE K (f2 sem fa fb) σ H Q->tOp r (lE K fa) (lE K fb) σ H Q:=by
 rintro σ H Q ⟨α,δ,L,A,S,z,L3,e,q⟩
 obtain ⟨⟨u,L1⟩,e1,e⟩:=aA.mp e
 obtain ⟨⟨w,L2⟩,e2,e3⟩:=aA.mp e
 refine ⟨α,δ,L,A,S,u,L1,e1,fun x H1 α1 g1 A1 r1=>⟨α1,δ,L1,A1,S.mono g1,w,L2,e2,fun y H2 α2 g2 A2 r2=>?_⟩⟩
 exact h H2 α2 L2 u w x y z L3 Q A2 (r1.mono g2) r2 e3 fun v H3 α3 g3 A3 r3=>q v H3 α3 (g1.trans (g2.trans g3)) A3 r3
theorem Dd{op:Operator}{r:R2}{sem:S2}{fa fb:FE}(ho:OpR X (gU op) r)(h:Dm X.K r sem)(ha:PEF X a fa)(hb:PEF X b fb):PEF X (.BinOp a op b pos) (f2 sem fa fb):=PE.imp (Anr ho ha hb) (Xn h)
theorem Oj{op:CmpOp}{r:R2}{sem:S2}{fa fb:FE}(ho:OpR X (eQ op) r)(h:Dm X.K r sem)(ha:PEF X a fa)(hb:PEF X b fb)(hm:behindInMarks op b=false):PEF X (.Compare a [op] [b] pos) (f2 sem fa fb):=PE.imp (Ain ho ha hb hm) (Xn h)
noncomputable def B4(f:FE):FT:=fun δ L=>(f δ L).bind fun p=>match p.1 with | .bl k=>some (k,p.2) | _=>none
theorem Ajn{K:aD}{t:TE}{f:FE}(ht:∀ σ H Q,lE K f σ H Q->t σ H Q):∀ σ H Q,lT K (B4 f) σ H Q->Aj4 t σ H Q:=by
 rintro σ H Q ⟨α,δ,L,A,S,b,L1,e,q⟩
 obtain ⟨⟨u,L2⟩,e1,e⟩:=aA.mp e
 refine ht σ H _ ⟨α,δ,L,A,S,u,L2,e1,fun x H1 α1 g1 A1 r1=>?_⟩
 cases u with
 | bl k=>simp at e;obtain ⟨rfl,rfl⟩:=e;exact ⟨k,r1,q H1 α1 g1 A1⟩
 | _=>simp at e
theorem By{op:CmpOp}{r:R2}{sem:S2}{fa fb:FE}(ho:OpR X (eQ op) r)(h:Dm X.K r sem)(ha:PEF X a fa)(hb:PEF X b fb)(hm:behindInMarks op b=false):PTF X (.Compare a [op] [b] pos) (B4 (f2 sem fa fb)):=PT.imp (Ahg ho ha hb hm) (Ajn (Xn h))
end
section
variable {X:Cx}{a b c e:Expr}{pos:Pos}{rest:List Expr}
noncomputable def Alw(f g:FT):FT:=fun δ L=>(f δ L).bind fun p=>if p.1=true then g δ p.2 else some (false,p.2)
noncomputable def fOr(f g:FT):FT:=fun δ L=>(f δ L).bind fun p=>if p.1=true then some (true,p.2) else g δ p.2
noncomputable def Aqx(f:FT):FT:=fun δ L=>(f δ L).map fun p=>(!p.1,p.2)
noncomputable def Ph(f g:FE):FE:=fun δ L=>(f δ L).bind fun p=>match p.1 with | .bl k=>if k=true then g δ p.2 else some (.bl false,p.2) | _=>none
noncomputable def Aqa(f g:FE):FE:=fun δ L=>(f δ L).bind fun p=>match p.1 with | .bl k=>if k=true then some (.bl true,p.2) else g δ p.2 | _=>none
noncomputable def Aoo(f:FE):FE:=fun δ L=>(f δ L).bind fun p=>match p.1 with | .bl k=>some (.bl (!k),p.2) | _=>none
noncomputable def fIf(c:FT)(f g:FE):FE:=fun δ L=>(c δ L).bind fun p=>if p.1=true then f δ p.2 else g δ p.2
theorem Aeh{f:FT}(ha:PTF X a f):PWF X (.BoolOp .And [a] pos) f:=Ah8 ha
theorem Iv{f:FT}(ha:PTF X a f):PWF X (.BoolOp .Or [a] pos) f:=Al9 ha
theorem Ahl{f g:FT}(ha:PTF X a f)(hb:PWF X (.BoolOp .And (b::rest) pos) g):PWF X (.BoolOp .And (a::b::rest) pos) (Alw f g):=by
 refine PW.imp (Al6 ha hb) ?_
 rintro σ H Q ⟨α,δ,L,A,S,z,L3,e,q⟩
 obtain ⟨⟨u,L1⟩,e1,e⟩:=aA.mp e
 refine ⟨α,δ,L,A,S,u,L1,e1,fun H1 α1 g1 A1=>?_⟩
 cases u with
 | true=>exact Wq ⟨α1,δ,L1,A1,S.mono g1,z,L3,e,fun H2 α2 g2 A2=>q H2 α2 (g1.trans g2) A2⟩
 | false=>cases e;exact Vt (q H1 α1 g1 A1)
theorem K2{f g:FT}(ha:PTF X a f)(hb:PWF X (.BoolOp .Or (b::rest) pos) g):PWF X (.BoolOp .Or (a::b::rest) pos) (fOr f g):=by
 refine PW.imp (Apb ha hb) ?_
 rintro σ H Q ⟨α,δ,L,A,S,z,L3,e,q⟩
 obtain ⟨⟨u,L1⟩,e1,e⟩:=aA.mp e
 refine ⟨α,δ,L,A,S,u,L1,e1,fun H1 α1 g1 A1=>?_⟩
 cases u with
 | false=>exact Vt ⟨α1,δ,L1,A1,S.mono g1,z,L3,e,fun H2 α2 g2 A2=>q H2 α2 (g1.trans g2) A2⟩
 | true=>cases e;exact Wq (q H1 α1 g1 A1)
theorem PWF.pt{f:FT}(h:PWF X e f):PTF X e f:=PW.pt h
theorem Vk{op}{f:FE}(h:PEF X a f):PEF X (.BoolOp op [a] pos) f:=Alz h
theorem R7{f g:FE}(ha:PEF X a f)(hb:PEF X (.BoolOp .And (b::rest) pos) g):PEF X (.BoolOp .And (a::b::rest) pos) (Ph f g):=by
 refine PE.imp (Akz ha hb) ?_
 rintro σ H Q ⟨α,δ,L,A,S,z,L3,e,q⟩
 obtain ⟨⟨u,L1⟩,e1,e⟩:=aA.mp e
 refine ⟨α,δ,L,A,S,u,L1,e1,fun v H1 α1 g1 A1 r1=>?_⟩
 cases u with
 | bl k=>
  cases k with
  | true=>exact ⟨true,r1,Wq ⟨α1,δ,L1,A1,S.mono g1,z,L3,e,fun v H2 α2 g2 A2 r=>q v H2 α2 (g1.trans g2) A2 r⟩⟩
  | false=>cases e;exact ⟨false,r1,Vt (q _ H1 α1 g1 A1 rfl)⟩
 | _=>simp at e
noncomputable def Aj:FA:=fun _ L=>some ([],L)
noncomputable def Ac(f:FE)(g:FA):FA:=fun δ L=>(f δ L).bind fun p=>(g δ p.2).map fun q=>(p.1::q.1,q.2)
theorem Ah:PAF X [] Aj:=by
 refine PA.imp Amg ?_
 rintro σ H Q ⟨α,δ,L,A,S,z,L3,e,q⟩
 cases e
 exact q [] H α (.refl _ _) A .nil
theorem Ad{es:List Expr}{f:FE}{g:FA}(ha:PEF X e f)(hr:PAF X es g)(hs:bP (e::es) X.env=(false,eval e X.env)::bP es X.env:=by rfl):PAF X (e::es) (Ac f g):=by
 refine PA.imp (Ahy ha hr hs) ?_
 rintro σ H Q ⟨α,δ,L,A,S,z,L3,e,q⟩
 obtain ⟨⟨u,L1⟩,e1,e⟩:=aA.mp e
 obtain ⟨⟨us,L2⟩,e2,e⟩:=aK.mp e
 cases e
 exact ⟨α,δ,L,A,S,u,L1,e1,fun x H1 α1 g1 A1 r1=>⟨α1,δ,L1,A1,S.mono g1,us,L2,e2,fun xs H2 α2 g2 A2 r2=>q (x::xs) H2 α2 (g1.trans g2) A2 (.cons (r1.mono g2) r2)⟩⟩
noncomputable def Gq(n:Nat):Bool:=decide (n<=sizeLine)
noncomputable def Dp(g:FA):FE:=fun δ L=>(g δ L).bind fun p=>if Gq p.1.length=true then some (.tup p.1,p.2) else none
noncomputable def Abm(g:FA):FE:=fun δ L=>(g δ L).bind fun p=>if Gq p.1.length=true then some (.ref p.2.length,p.2++[.lst p.1]) else none
theorem E5{n:Nat}(h:Gq n=true):n<=sizeLine:=of_decide_eq_true h
theorem Abs.tup{K:aD}{H:Hp}{α:List Addr}{L:UH}{p:Addr}{us:List U}{xs:List V}(A:Abs K H α L)(r:RepL K H α us xs)(hp:H p=none) :
  Gr H α (upd H p (.tup xs)) α/\Abs K (upd H p (.tup xs)) α L/\RepU K (upd H p (.tup xs)) α (.tup us) (.ref p):=by
 have g:Gr H α (upd H p (.tup xs)) α:=⟨⟨[],by simp⟩,.new hp _⟩
 refine ⟨g,⟨A.len,A.inj,fun i a o e1 e2=>(A.rep i a o e1 e2).other g (.inr fun u q=>by rw[Az (Bj q hp)];exact q)⟩,?_⟩
 unfold RepU
 exact ⟨p,xs,rfl,.of upd_same,r.mono g⟩
theorem Abs.lst{K:aD}{H:Hp}{α:List Addr}{L:UH}{p:Addr}{us:List U}{xs:List V}(A:Abs K H α L)(r:RepL K H α us xs)(hp:H p=none) :
  Gr H α (upd H p (.lst xs)) (α ++ [p])/\Abs K (upd H p (.lst xs)) (α ++ [p]) (L++[.lst us])/\RepU K (upd H p (.lst xs)) (α ++ [p]) (.ref L.length) (.ref p):=by
 have g:Gr H α (upd H p (.lst xs)) (α ++ [p]):=⟨⟨[p],rfl⟩,.new hp _⟩
 obtain ⟨A',_⟩:=A.new (o:=.lst xs) (u:=.lst us) hp ⟨xs,upd_same,r.mono g⟩
 refine ⟨g,A',?_⟩
 unfold RepU
 exact ⟨p,by rw[<- A.len];simp,rfl⟩
theorem Ct{es:List Expr}{g:FA}{x1}(h:PAF X es g):PEF X (.Tuple es x1 pos) (Dp g):=by
 refine PE.imp (Alm h) ?_
 rintro σ H Q ⟨α,δ,L,A,S,z,L3,e,q⟩
 obtain ⟨⟨us,L1⟩,e1,e⟩:=aA.mp e
 refine ⟨α,δ,L,A,S,us,L1,e1,fun xs H1 α1 g1 A1 r1=>?_⟩
 simp only at e
 split at e
 ·rename_i hs
  cases e
  refine ⟨by rw[<- r1.length];exact E5 hs,fun p hp=>?_⟩
  obtain ⟨g2,A2,r2⟩:=A1.tup r1 hp
  exact q _ _ α1 (g1.trans g2) A2 r2
 ·cases e
theorem Ak3{es:List Expr}{g:FA}(h:PAF X es g):PEF X (.List es pos) (Abm g):=by
 refine PE.imp (Anf h) ?_
 rintro σ H Q ⟨α,δ,L,A,S,z,L3,e,q⟩
 obtain ⟨⟨us,L1⟩,e1,e⟩:=aA.mp e
 refine ⟨α,δ,L,A,S,us,L1,e1,fun xs H1 α1 g1 A1 r1=>?_⟩
 simp only at e
 split at e
 ·rename_i hs
  cases e
  refine ⟨by rw[<- r1.length];exact E5 hs,fun p hp=>?_⟩
  obtain ⟨g2,A2,r2⟩:=A1.lst r1 hp
  exact q _ _ _ (g1.trans g2) A2 r2
 ·cases e
abbrev SC:=List U->UH->Option (U×UH)
noncomputable def Wz(K:aD)(r:List V->Hp->VK->Prop)(sem:SC):Prop:=∀ (H:Hp) (α:List Addr) (L:UH) (us:List U) (xs:List V) (z:U) (L':UH) (Q:VK),Abs K H α L->RepL K H α us xs->sem us L=some (z,L') ->
 (∀ v H' α',Gr H α H' α'->Abs K H' α' L'->RepU K H' α' z v->Q v H')->r xs H Q
noncomputable def Dw(sem:SC)(g:FA):FE:=fun δ L=>(g δ L).bind fun p=>sem p.1 p.2
theorem Aj6{K:aD}{r:List V->Hp->VK->Prop}{sem:SC}{g:FA}(h:Wz K r sem):∀ σ H Q,lE K (Dw sem g) σ H Q->tCB r (lA K g) σ H Q:=by
 rintro σ H Q ⟨α,δ,L,A,S,z,L3,e,q⟩
 obtain ⟨⟨us,L1⟩,e1,e⟩:=aA.mp e
 exact ⟨α,δ,L,A,S,us,L1,e1,fun xs H1 α1 g1 A1 r1=>h H1 α1 L1 us xs z L3 Q A1 r1 e fun v H2 α2 g2 A2 r2=>q v H2 α2 (g1.trans g2) A2 r2⟩
variable {x:Str}{p:Pos}{es:List Expr}{id T:String}{r:List V->Hp->VK->Prop}{sem:SC}{g:FA}
theorem Fm(hc:CallR X (.builtin id) r)(h:Wz X.K r sem)(hg:Gl X x)(hm:X.mg x=none)(hv:fX x=some (.builtin id))(ha:PAF X (e::es) g)(hn:x ≠ "__name__" := by decide)(hdb:(x == ("__debug__" : Str))=false:=by decide)
  (he:bP (e::es) X.env=(false,eval e X.env)::bP es X.env:=by rfl) (hpl:(backTo pos (bP es X.env)).any (·.1)=false:=by rfl) :
  PEF X (.Call (.Name x p) (e::es) [] pos) (Dw sem g):=PE.imp (Afo hc hg hm hv ha hn hdb he hpl) (Aj6 h)
theorem Kd(hc:CallR X (.type T) r)(h:Wz X.K r sem)(hg:Gl X x)(hm:X.mg x=none)(hv:fX x=some (.type T))(ha:PAF X (e::es) g)(hn:x ≠ "__name__" := by decide)(hdb:(x == ("__debug__" : Str))=false:=by decide)
  (he:bP (e::es) X.env=(false,eval e X.env)::bP es X.env:=by rfl) (hpl:(backTo pos (bP es X.env)).any (·.1)=false:=by rfl) :
  PEF X (.Call (.Name x p) (e::es) [] pos) (Dw sem g):=PE.imp (Abo hc hg hm hv ha hn hdb he hpl) (Aj6 h)
abbrev SM:=U->List U->UH->Option (U×UH)
noncomputable def tyU(T:String)(u:U)(L:UH):Bool:=match u with
 | .str _=>T == "str"
 | .int _=>T == "int"
 | .tup _=>T == "tuple"
 | .ref n=>match L[n]? with
  | some (.lst _)=>T == "list"
  | some (.ro _)=>T == "list"
  | some (.dic _)=>T == "dict"
  | _=>false
 | _=>false
noncomputable def Ao9(T:String)(sem:SM)(f:FE)(g:FA):FE:=fun δ L=>(f δ L).bind fun p=>if tyU T p.1 p.2=true then (g δ p.2).bind fun q=>sem p.1 q.1 q.2 else none
section
variable {o e:Expr}{es:List Expr}{f:FE}{g:FA}{name:Str}{apos cpos:Pos}{T id:String}{r:V->List V->Hp->VK->Prop}{sem:SM}
end
end
abbrev FN:=List U->UH->Option (U×UH)
inductive spF(K:aD)(n:Nat)(f:FN)(vs:List V)(H:Hp)(Q:VK)(E:XK):Prop
 | mk (α:List Addr) (L:UH) (us:List U) (A:Abs K H α L) (r:RepL K H α us vs) (hl:us.length=n) (u:U) (L':UH) (e:f us L=some (u,L')) (q:∀ v H' α',Gr H α H' α'->Abs K H' α' L'->RepU K H' α' u v->Q v H'):spF K n f vs H Q E
section
variable {X:Cx}{a b c e o:Expr}{es:List Expr}{pos p:Pos}{x:Str}{k:Nat}{f:Addr}{fd:bT}{ps:List Str}{F:FN}{g:FA}{fa fb fc:FE}
noncomputable def Dl(n:Nat)(F:FN)(g:FA):FE:=fun δ L=>(g δ L).bind fun p=>if p.1.length=n then F p.1 p.2 else none
theorem Cu{n:Nat}(hF:FnOk X.prog X.w X.K X.mg X.base CX0 k f fd ps (spF X.K n F))(hr:Room k X.A)(hg:Gl X x)(hm:X.mg x=some (.ref f))(hk:aV X.K (.ref f)=true)(hb:Binds X.K fd ps [])
  (ha:PAF X (e::es) g) (hdb:(x == ("__debug__" : Str))=false:=by decide) (he:bP (e::es) X.env=(false,eval e X.env)::bP es X.env:=by rfl) (hpl:(backTo pos (bP es X.env)).any (·.1)=false:=by rfl) :
  PEF X (.Call (.Name x p) (e::es) [] pos) (Dl n F g):=by
 refine PE.imp (Ag6 hF hr hg hm hk hb .nil Nj ha hdb he hpl) ?_
 rintro σ H Q ⟨α,δ,L,A,S,z,L3,e,q⟩
 obtain ⟨⟨us,L1⟩,e1,e⟩:=aA.mp e
 simp only at e
 split at e
 ·rename_i hl
  refine ⟨α,δ,L,A,S,us,L1,e1,fun xs H1 α1 g1 A1 r1=>?_⟩
  exact ⟨α1,L1,us,A1,by rw[aT];exact r1,hl,z,L3,e,fun v H2 α2 g2 A2 r2=>q v H2 α2 (g1.trans g2) A2 r2⟩
 ·cases e
theorem E9{r:R2}{sem:S2}(hr:IxR X r)(h:Dm X.K r sem)(ha:PEF X a fa)(hb:PEF X b fb)(hs:Yp b):PEF X (.Subscript a b pos) (f2 sem fa fb):=PE.imp (Aor hr ha hb hs) (Xn h)
abbrev FO:=UE->UH->Option (Option Int×UH)
inductive lO(K:aD)(f:FO)(σ:L2.St)(H:Hp)(Q:Option Int->Hp->Prop):Prop
 | mk (α:List Addr) (δ:UE) (L:UH) (A:Abs K H α L) (S:RepS K H α δ σ) (i:Option Int) (L':UH) (e:f δ L=some (i,L')) (q:∀ H' α',Gr H α H' α'->Abs K H' α' L'->Q i H'):lO K f σ H Q
noncomputable def Ajg:FO:=fun _ L=>some (none,L)
noncomputable def Apd(f:FE):FO:=fun δ L=>(f δ L).bind fun p=>match p.1 with | .int i=>some (some i,p.2) | _=>none
theorem PO.imp{e:Option Expr}{t t':TO}(h:PO X e t)(hi:∀ σ H Q,t' σ H Q->t σ H Q):PO X e t':=fun pins s σ H Q I q=>h pins s σ H Q I (hi σ H Q q)
abbrev SS:=U->Option Int->Option Int->UH->Option (U×UH)
noncomputable def fSl(sem:SS)(f:FE)(l h:FO):FE:=fun δ L=>(f δ L).bind fun p=>(l δ p.2).bind fun q=>(h δ q.2).bind fun r=>sem p.1 q.1 r.1 r.2
noncomputable def Ak9(f:FE):FE:=fun δ L=>(f δ L).bind fun p=>match p.1 with | .int i=>some (.int (-i),p.2) | _=>none
theorem Alj(ha:PEF X a fa):PEF X (.UnaryOp .USub a pos) (Ak9 fa):=by
 refine PE.imp (Api Al0 ha) ?_
 rintro σ H Q ⟨α,δ,L,A,S,z,L3,e,q⟩
 obtain ⟨⟨u,L1⟩,e1,e⟩:=aA.mp e
 refine ⟨α,δ,L,A,S,u,L1,e1,fun x H1 α1 g1 A1 r1=>?_⟩
 cases u with
 | int i=>cases e;exact ⟨i,r1,q _ H1 α1 g1 A1 rfl⟩
 | _=>simp at e
noncomputable def Jw(s1 s2:S2)(fa fb fc:FE):FE:=fun δ L=>(fa δ L).bind fun p=>(fb δ p.2).bind fun q=>(s1 p.1 q.1 q.2).bind fun r=>match r.1 with
 | .bl k=>if k=true then (fc δ r.2).bind fun t=>s2 q.1 t.1 t.2 else some (.bl false,r.2)
 | _=>none
theorem Adg{K:aD}{r r':R2}{s1 s2:S2}(h1:Dm K r s1)(h2:Dm K r' s2):∀ σ H Q,lE K (Jw s1 s2 fa fb fc) σ H Q->Adf r r' (lE K fa) (lE K fb) (lE K fc) σ H Q:=by
 rintro σ H Q ⟨α,δ,L,A,S,z,L3,e,q⟩
 obtain ⟨⟨u,L1⟩,e1,e⟩:=aA.mp e
 obtain ⟨⟨w,L2⟩,e2,e⟩:=aA.mp e
 obtain ⟨⟨t,L4⟩,e3,e⟩:=aA.mp e
 refine ⟨α,δ,L,A,S,u,L1,e1,fun x H1 α1 g1 A1 r1=>⟨α1,δ,L1,A1,S.mono g1,w,L2,e2,fun y H2 α2 g2 A2 r2=>?_⟩⟩
 refine h1 H2 α2 L2 u w x y t L4 _ A2 (r1.mono g2) r2 e3 fun v H3 α3 g3 A3 r3=>?_
 cases t with
 | bl k=>
  refine ⟨k,r3,?_⟩
  cases k with
  | true=>
   obtain ⟨⟨s,L5⟩,e4,e⟩:=aA.mp e
   refine Wq ⟨α3,δ,L4,A3,((S.mono g1).mono g2).mono g3,s,L5,e4,fun y' H4 α4 g4 A4 r4=>?_⟩
   exact h2 H4 α4 L5 w s y y' z L3 Q A4 ((r2.mono g3).mono g4) r4 e fun v H5 α5 g5 A5 r5=>q v H5 α5 (g1.trans (g2.trans (g3.trans (g4.trans g5)))) A5 r5
  | false=>cases e;exact Vt (q _ H3 α3 (g1.trans (g2.trans g3)) A3 rfl)
 | _=>simp at e
theorem Ut{op op':CmpOp}{r r':R2}{s1 s2:S2}(ho:OpR X (eQ op) r)(ho':OpR X (eQ op') r')(h1:Dm X.K r s1)(h2:Dm X.K r' s2)(ha:PEF X a fa)(hb:PEF X b fb)(hc:PEF X c fc)(hm:lastMarks [op,op'] [b,c]=false:=by with_unfolding_all rfl) :
  PEF X (.Compare a [op,op'] [b,c] pos) (Jw s1 s2 fa fb fc):=PE.imp (Aew ho ho' ha hb hc hm) (Adg h1 h2)
noncomputable def Ab4(u:U)(L:UH):Option Bool:=match u with
 | .non=>some false
 | .bl b=>some b
 | .int i=>some (i != 0)
 | .str y=>if Gq y.length=true then some ((y.length:Int) != 0) else none
 | .tup l=>some (!l.isEmpty)
 | .ref n=>match L[n]? with
  | some (.lst xs)=>some (!xs.isEmpty)
  | some (.ro xs)=>some (!xs.isEmpty)
  | some (.dic kvs)=>some (!kvs.isEmpty)
  | _=>none
theorem Hb{α β:Type}{l:List α}{m:List β}(h:l.length=m.length):l.isEmpty=m.isEmpty:=by
 cases l <;> cases m <;> simp_all
theorem Ajj{K:aD}{H:Hp}{α:List Addr}{L:UH}{u:U}{x:V}{k:Bool}(A:Abs K H α L)(r:RepU K H α u x)(h:Ab4 u L=some k):Am5 K x H k:=by
 cases u with
 | non=>unfold RepU at r;subst r;exact (bZ h).symm
 | bl b=>unfold RepU at r;subst r;exact (bZ h).symm
 | int i=>unfold RepU at r;subst r;exact (bZ h).symm
 | str y=>
  unfold RepU at r;subst r
  unfold Ab4 at h
  simp only at h
  split at h
  ·rename_i hs;cases h;exact ⟨E5 hs,rfl⟩
  ·cases h
 | tup l=>
  unfold RepU at r
  obtain ⟨a,xs,rfl,s,r⟩:=r
  exact .inr (.inl ⟨xs,s,by rw[<- Hb r.length];exact (bZ h).symm⟩)
 | ref n=>
  unfold RepU at r
  obtain ⟨a,ea,rfl⟩:=r
  unfold Ab4 at h
  simp only at h
  cases q:L[n]? with
  | none=>rw[q] at h;simp at h
  | some o=>
   have hr:=A.rep n a o ea q
   rw[q] at h
   cases o with
   | lst us=>obtain ⟨xs,e,r⟩:=hr;exact .inl ⟨xs,.of e,by rw[<- Hb r.length];exact (bZ h).symm⟩
   | ro us=>obtain ⟨xs,e,r⟩:=hr;exact .inl ⟨xs,e.sq,by rw[<- Hb r.length];exact (bZ h).symm⟩
   | dic kvs=>obtain ⟨vs,e,ek,_⟩:=hr;exact .inr (.inr ⟨vs,e,by rw[<- Hb (show kvs.length=vs.length by simpa using congrArg mV ek)];exact (bZ h).symm⟩)
   | rod kvs=>simp at h
   | ins C fs=>simp at h
   | exc C fr fs=>simp at h
noncomputable def Aey(f:FE):FT:=fun δ L=>(f δ L).bind fun p=>(Ab4 p.1 p.2).map fun k=>(k,p.2)
theorem R3(ha:PEF X a fa)(he:∀ whole,isTrue a X.env whole=(do let v <- whole;standAt a.pos;holding [v] (truthy v)):=by intro _;rfl):PTF X a (Aey fa):=by
 refine PT.imp (Ad3 ha he) ?_
 rintro σ H Q ⟨α,δ,L,A,S,z,L3,e,q⟩
 obtain ⟨⟨u,L1⟩,e1,e⟩:=aA.mp e
 obtain ⟨k,e2,e⟩:=aK.mp e
 cases e
 exact ⟨α,δ,L,A,S,u,_,e1,fun x H1 α1 g1 A1 r1=>⟨_,Ajj A1 r1 e2,q H1 α1 g1 A1⟩⟩
end
inductive Fl where
 | nx (δ:UE) | rt (u:U) | bk (δ:UE) | ct (δ:UE)
abbrev FS:=UE->UH->Option (Fl×UH)
noncomputable def Post(K:aD)(D:Ends)(H:Hp)(α:List Addr)(fl:Fl)(L':UH):Prop:=match fl with
 | .nx δ'=>∀ σ' H' α',Gr H α H' α'->Abs K H' α' L'->RepS K H' α' δ' σ'->D.nx σ' H'
 | .bk δ'=>∀ σ' H' α',Gr H α H' α'->Abs K H' α' L'->RepS K H' α' δ' σ'->D.bk σ' H'
 | .ct δ'=>∀ σ' H' α',Gr H α H' α'->Abs K H' α' L'->RepS K H' α' δ' σ'->D.ct σ' H'
 | .rt u=>∀ v H' α',Gr H α H' α'->Abs K H' α' L'->RepU K H' α' u v->D.rt v H'
theorem Post.from{K:aD}{D:Ends}{H H1:Hp}{α α1:List Addr}{fl:Fl}{L':UH}(g:Gr H α H1 α1)(p:Post K D H α fl L'):Post K D H1 α1 fl L':=by
 cases fl with
 | nx δ=>exact fun σ' H' α' g'=>p σ' H' α' (g.trans g')
 | bk δ=>exact fun σ' H' α' g'=>p σ' H' α' (g.trans g')
 | ct δ=>exact fun σ' H' α' g'=>p σ' H' α' (g.trans g')
 | rt u=>exact fun v H' α' g'=>p v H' α' (g.trans g')
inductive lS(K:aD)(f:FS)(D:Ends)(σ:L2.St)(H:Hp):Prop
 | mk (α:List Addr) (δ:UE) (L:UH) (A:Abs K H α L) (S:RepS K H α δ σ) (fl:Fl) (L':UH) (e:f δ L=some (fl,L')) (q:Post K D H α fl L'):lS K f D σ H
noncomputable def PSF(X:Cx)(st:Stmt)(f:FS):Prop:=PS X st (lS X.K f)
noncomputable def R5(X:Cx)(st:List Stmt)(f:FS):Prop:=PSs X st (lS X.K f)
section
variable {X:Cx}{st:Stmt}{rest:List Stmt}{e:Expr}{pos:Pos}{f g:FS}{fe:FE}
theorem PS.imp{t t':TS}(h:PS X st t)(hi:∀ D σ H,t' D σ H->t D σ H):PS X st t':=fun pins s σ H D I q=>h pins s σ H D I (hi D σ H q)
theorem PSs.imp{sts:List Stmt}{t t':TS}(h:PSs X sts t)(hi:∀ D σ H,t' D σ H->t D σ H):PSs X sts t':=fun pins s σ H D I q=>h pins s σ H D I (hi D σ H q)
noncomputable def Ed:FS:=fun δ L=>some (.nx δ,L)
noncomputable def C6(f g:FS):FS:=fun δ L=>(f δ L).bind fun p=>match p.1 with | .nx δ'=>g δ' p.2 | fl=>some (fl,p.2)
theorem Dv:R5 X [] Ed:=by
 refine PSs.imp Agu ?_
 rintro D σ H ⟨α,δ,L,A,S,fl,L',e,q⟩
 cases e
 exact q σ H α (.refl _ _) A S
theorem Av(h1:PSF X st f)(h2:R5 X rest g):R5 X (st::rest) (C6 f g):=by
 refine PSs.imp (Ace h1 h2) ?_
 rintro D σ H ⟨α,δ,L,A,S,fl,L',e,q⟩
 obtain ⟨⟨fl1,L1⟩,e1,e⟩:=aA.mp e
 refine ⟨α,δ,L,A,S,fl1,L1,e1,?_⟩
 cases fl1 with
 | nx δ1=>exact fun σ1 H1 α1 g1 A1 S1=>⟨α1,δ1,L1,A1,S1,fl,L',e,q.from g1⟩
 | rt u=>cases e;exact q
 | bk δ1=>cases e;exact q
 | ct δ1=>cases e;exact q
theorem Ao(h1:PSF X st f):R5 X [st] f:=Ags h1
noncomputable def C3(f:FE):FS:=fun δ L=>(f δ L).map fun p=>(.rt p.1,p.2)
noncomputable def D7(f:FE):FS:=fun δ L=>(f δ L).map fun p=>(.nx δ,p.2)
noncomputable def Ao0:FS:=fun _ L=>some (.rt .non,L)
theorem Ba(he:PEF X e fe):PSF X (.Return (some e) pos) (C3 fe):=by
 refine PS.imp (Alp he) ?_
 rintro D σ H ⟨α,δ,L,A,S,fl,L',e,q⟩
 obtain ⟨⟨u,L1⟩,e1,e⟩:=aK.mp e
 cases e
 exact ⟨α,δ,L,A,S,u,_,e1,fun v H1 α1 g1 A1 r1=>q v H1 α1 g1 A1 r1⟩
theorem Dz(he:PEF X e fe)(hs:swapsWith e none pos.line X.env=pure false:=by rfl):PSF X (.Expr e pos) (D7 fe):=by
 refine PS.imp (Ah5 he hs) ?_
 rintro D σ H ⟨α,δ,L,A,S,fl,L',e,q⟩
 obtain ⟨⟨u,L1⟩,e1,e⟩:=aK.mp e
 cases e
 exact ⟨α,δ,L,A,S,u,_,e1,fun v H1 α1 g1 A1 r1=>q σ H1 α1 g1 A1 (S.mono g1)⟩
noncomputable def Hv(c:FT)(f g:FS):FS:=fun δ L=>(c δ L).bind fun p=>if p.1=true then f δ p.2 else g δ p.2
theorem Et{c:Expr}{a b:List Stmt}{tc:FT}(hc:PTF X c tc)(ha:R5 X a f)(hb:R5 X b g):PSF X (.If c a b pos) (Hv tc f g):=by
 refine PS.imp (Apq hc ha hb) ?_
 rintro D σ H ⟨α,δ,L,A,S,fl,L',e,q⟩
 obtain ⟨⟨u,L1⟩,e1,e⟩:=aA.mp e
 refine ⟨α,δ,L,A,S,u,L1,e1,fun H1 α1 g1 A1=>?_⟩
 cases u with
 | true=>exact Wq ⟨α1,δ,L1,A1,S.mono g1,fl,L',e,q.from g1⟩
 | false=>exact Vt ⟨α1,δ,L1,A1,S.mono g1,fl,L',e,q.from g1⟩
noncomputable def Jn:FS:=fun _ _=>none
theorem Hw:PSF X st Jn:=by
 refine PS.imp Acu ?_
 rintro D σ H ⟨α,δ,L,A,S,fl,L',e,q⟩
 cases e
end
abbrev FG:=U->UE->UH->Option (UE×UH)
abbrev FGs:=List U->UE->UH->Option (UE×UH)
inductive lG(K:aD)(f:FG)(v:V)(σ:L2.St)(H:Hp)(Q:L2.St->Hp->Prop):Prop
 | mk (α:List Addr) (δ:UE) (L:UH) (u:U) (A:Abs K H α L) (S:RepS K H α δ σ) (r:RepU K H α u v) (δ':UE) (L':UH) (e:f u δ L=some (δ',L')) (q:∀ σ' H' α',Gr H α H' α'->Abs K H' α' L'->RepS K H' α' δ' σ'->Q σ' H'):lG K f v σ H Q
inductive lGs(K:aD)(f:FGs)(vs:List V)(σ:L2.St)(H:Hp)(Q:L2.St->Hp->Prop):Prop
 | mk (α:List Addr) (δ:UE) (L:UH) (us:List U) (A:Abs K H α L) (S:RepS K H α δ σ) (r:RepL K H α us vs) (δ':UE) (L':UH) (e:f us δ L=some (δ',L')) (q:∀ σ' H' α',Gr H α H' α'->Abs K H' α' L'->RepS K H' α' δ' σ'->Q σ' H'):lGs K f vs σ H Q
noncomputable def PGF(X:Cx)(e:Expr)(f:FG):Prop:=PG X e (lG X.K f)
noncomputable def Ai0(X:Cx)(es:List Expr)(f:FGs):Prop:=PGs X es (lGs X.K f)
section
variable {X:Cx}{e:Expr}{es:List Expr}{pos:Pos}
theorem PG.imp{t t':TG}(h:PG X e t)(hi:∀ v σ H Q,t' v σ H Q->t v σ H Q):PG X e t':=fun pins s σ H v u Q I r q=>h pins s σ H v u Q I r (hi v σ H Q q)
theorem PGs.imp{t t':TGs}(h:PGs X es t)(hi:∀ v σ H Q,t' v σ H Q->t v σ H Q):PGs X es t':=fun pins s σ H v u Q I r q=>h pins s σ H v u Q I r (hi v σ H Q q)
noncomputable def gN(i:Nat):FG:=fun u δ L=>some (δ.set i (some u),L)
theorem Cz{i:Nat}{x:Str}(hN:X.N.Nodup)(hi:X.N[i]? = some x:=by rfl)(hx:Loc X.env.scope x:=by first | exact tG rfl | exact qJ rfl)(hf:X.fn x=true\/X.env.scope.names.lookup x=some .local:=by first | exact .inl rfl | exact .inr rfl):PGF X (.Name x pos) (gN i):=by
 refine PG.imp (Ajk (i:=i) hN hi hx hf) ?_
 rintro v σ H Q ⟨α,δ,L,u,A,S,r,δ',L',e,q⟩
 cases e
 exact q _ H α (.refl _ _) A (S.set i r)
noncomputable def gNil:FGs:=fun us δ L=>match us with | []=>some (δ,L) | _=>none
noncomputable def gCons(f:FG)(g:FGs):FGs:=fun us δ L=>match us with | []=>none | u::r=>(f u δ L).bind fun p=>g r p.1 p.2
theorem Tp:Ai0 X [] MR.gNil:=by
 refine PGs.imp Ail ?_
 rintro vs σ H Q ⟨α,δ,L,us,A,S,r,δ',L',e,q⟩
 cases us with
 | nil=>cases e;exact ⟨by unfold RepL at r;exact r,q σ H α (.refl _ _) A S⟩
 | cons u us=>cases e
theorem J6{f:FG}{g:FGs}(h1:PGF X e f)(h2:Ai0 X es g)(hs:(assignEach (e::es) X.env).map (·.2)=assign e X.env::(assignEach es X.env).map (·.2):=by rfl):Ai0 X (e::es) (MR.gCons f g):=by
 refine PGs.imp (Afx h1 h2 hs) ?_
 rintro vs σ H Q ⟨α,δ,L,us,A,S,r,δ',L',e,q⟩
 cases us with
 | nil=>cases e
 | cons u us=>
  unfold RepL at r
  obtain ⟨x,xs,rfl,r1,r2⟩:=r
  obtain ⟨⟨δ1,L1⟩,e1,e⟩:=aA.mp e
  refine ⟨x,xs,rfl,α,δ,L,u,A,S,r1,δ1,L1,e1,fun σ1 H1 α1 g1 A1 S1=>?_⟩
  exact ⟨α1,δ1,L1,us,A1,S1,r2.mono g1,δ',L',e,fun σ2 H2 α2 g2 A2 S2=>q σ2 H2 α2 (g1.trans g2) A2 S2⟩
noncomputable def gTup(n:Nat)(g:FGs):FG:=fun u δ L=>match u with | .tup us=>if us.length=n then g us δ L else none | _=>none
theorem X8{k:Nat}{g:FGs}{n:Nat}(hc:X.calm=true)(h:Ai0 X es g)(hn:(assignEach es X.env).length=n:=by rfl)(hst:(assignEach es X.env).findIdx? (·.1)=none:=by rfl):PGF X (.Tuple es k pos) (MR.gTup n g):=by
 refine PG.imp (Amz hc h hn hst) ?_
 rintro v σ H Q ⟨α,δ,L,u,A,S,r,δ',L',e,q⟩
 cases u with
 | tup us=>
  unfold RepU at r
  obtain ⟨a,xs,rfl,s,r⟩:=r
  unfold MR.gTup at e
  simp only at e
  split at e
  ·rename_i hl
   exact ⟨a,xs,rfl,s,by rw[<- r.length];exact hl,α,δ,L,us,A,S,r,δ',L',e,q⟩
  ·cases e
 | _=>simp[MR.gTup] at e
noncomputable def E8(fe:FE)(g:FG):FS:=fun δ L=>(fe δ L).bind fun p=>(g p.1 δ p.2).map fun q=>(.nx q.1,q.2)
theorem Aih{tg:Expr}{fe:FE}{g:FG}(he:PEF X e fe)(hg:PGF X tg g)(hs:swapsWithSole [tg] e pos.line X.env=pure false:=by rfl)(hw:swappedStores [tg] e X.env=pure none:=by rfl)(h1:(assignEach [tg] X.env).map (·.2)=[assign tg X.env]:=by rfl) :
  PSF X (.Assign [tg] e pos) (E8 fe g):=by
 refine PS.imp (Al8 he hg hs hw h1) ?_
 rintro D σ H ⟨α,δ,L,A,S,fl,L',e,q⟩
 obtain ⟨⟨u,L1⟩,e1,e⟩:=aA.mp e
 obtain ⟨⟨δ2,L2⟩,e2,e⟩:=aK.mp e
 cases e
 exact ⟨α,δ,L,A,S,u,L1,e1,fun v H1 α1 g1 A1 r1=>⟨α1,δ,L1,u,A1,S.mono g1,r1,δ2,_,e2,fun σ2 H2 α2 g2 A2 S2=>q σ2 H2 α2 (g1.trans g2) A2 S2⟩⟩
theorem D0{i:Nat}{x:Str}{fe:FE}{pos':Pos}(hN:X.N.Nodup)(he:PEF X e fe)(hi:X.N[i]? = some x:=by rfl)(hx:Loc X.env.scope x:=by first | exact tG rfl | exact qJ rfl)
  (hs:swapsWith e (some (.Name x pos')) pos.line X.env=pure false:=by rfl) (hf:X.fn x=true\/X.env.scope.names.lookup x=some .local:=by first | exact .inl rfl | exact .inr rfl) :
  PSF X (.Assign [.Name x pos'] e pos) (E8 fe (gN i)):=by
 refine PS.imp (Ang (i:=i) hN hi hx he hs hf) ?_
 rintro D σ H ⟨α,δ,L,A,S,fl,L',e,q⟩
 obtain ⟨⟨u,L1⟩,e1,e⟩:=aA.mp e
 obtain ⟨⟨δ2,L2⟩,e2,e⟩:=aK.mp e
 cases e
 cases e2
 exact ⟨α,δ,L,A,S,u,_,e1,fun v H1 α1 g1 A1 r1=>q _ H1 α1 g1 A1 ((S.mono g1).set i r1)⟩
end
noncomputable def Gy(L:UH)(n:Nat):Option (List U):=match L[n]? with
 | some (.lst us)=>some us
 | _=>none
noncomputable def Bi(L:UH)(n:Nat):Option (List U):=match L[n]? with
 | some (.lst us)=>some us
 | some (.ro us)=>some us
 | _=>none
inductive IU where
 | seq (us:List U) | ref (n:Nat) | enm (n:Nat) | zip2 (n m:Nat) | zipT (us:List U) (m:Nat) | zipL (n:Nat) (ws:List U)
noncomputable def Nb:Option U->Option U->Option U
 | some x,some y=>some (.tup [x,y])
 | _,_=>none
noncomputable def IU.at(i:IU)(k:Nat)(L:UH):Option (Option U):=match i with
 | .seq us=>some us[k]?
 | .ref n=>match L[n]? with
  | some (.lst us)=>some us[k]?
  | some (.ro us)=>some us[k]?
  | _=>none
 | .enm n=>(Bi L n).map fun us=>(us[k]?).map fun u=>.tup [.int k,u]
 | .zip2 n m=>(Bi L n).bind fun us=>(Bi L m).map fun ws=>Nb us[k]? ws[k]?
 | .zipT us m=>(Bi L m).map fun ws=>Nb us[k]? ws[k]?
 | .zipL n ws=>(Bi L n).map fun us=>Nb us[k]? ws[k]?
noncomputable def IU.size(i:IU)(L:UH):Nat:=match i with
 | .seq us=>us.length
 | .ref n=>match L[n]? with
  | some (.lst us)=>us.length
  | some (.ro us)=>us.length
  | _=>0
 | .enm n=>match Bi L n with
  | some us=>us.length
  | none=>0
 | .zip2 n m=>match Bi L n,Bi L m with
  | some us,some ws=>min us.length ws.length
  | _,_=>0
 | .zipT us m=>match Bi L m with
  | some ws=>min us.length ws.length
  | none=>0
 | .zipL n ws=>match Bi L n with
  | some us=>min us.length ws.length
  | none=>0
abbrev FI:=UE->UH->Option (IU×UH)
noncomputable def Ng(K:aD)(J:It)(i:IU)(H:Hp)(α:List Addr):Prop:=∀ (H2:Hp) (α2:List Addr) (L2:UH),Gr H α H2 α2->Abs K H2 α2 L2->∀ k:Nat,
 (∀ u,i.at k L2=some (some u)->J.go k H2/\∀ x H3,J.yld k H2 x H3->Gr H2 α2 H3 α2/\Abs K H3 α2 L2/\RepU K H3 α2 u x)/\(i.at k L2=some none->J.stop k H2)
inductive lI(K:aD)(f:FI)(σ:L2.St)(H:Hp)(R:It->Hp->Prop):Prop
 | mk (α:List Addr) (δ:UE) (L:UH) (A:Abs K H α L) (S:RepS K H α δ σ) (i:IU) (L':UH) (e:f δ L=some (i,L')) (q:∀ J H' α',Gr H α H' α'->Abs K H' α' L'->Ng K J i H' α'->R J H'):lI K f σ H R
noncomputable def PIF(X:Cx)(tg iter:Expr)(f:FI):Prop:=PI X tg iter (lI X.K f)
section
variable {X:Cx}{tg iter l:Expr}{pos:Pos}{fe:FE}
theorem PI.imp{t t':TI}(h:PI X tg iter t)(hi:∀ σ H R,t' σ H R->t σ H R):PI X tg iter t':=fun pins s σ H R I q=>h pins s σ H R I (hi σ H R q)
theorem PI.or{t t':TI}(h:PI X tg iter t)(h':PI X tg iter t'):PI X tg iter (fun σ H R=>t σ H R\/t' σ H R):=fun pins s σ H R I q=>by
 rcases q with q | q
 ·exact h pins s σ H R I q
 ·exact h' pins s σ H R I q
noncomputable def Lc(u:U)(L:UH):Option IU:=match u with
 | .tup us=>some (.seq us)
 | .ref n=>match L[n]? with
  | some (.lst _)=>some (.ref n)
  | some (.ro _)=>some (.ref n)
  | _=>none
 | _=>none
theorem Yo{K:aD}{H:Hp}{α:List Addr}{n:Nat}{a:Addr}(ea:α[n]? = some a):Ng K (Itl K a) (.ref n) H α:=by
 intro H2 α2 L2 g A2 k
 have ea2:=g.at ea
 have go:∀ (us:List U) (xs:List V),SqL K H2 a xs->RepL K H2 α2 us xs->(∀ ys,SqL K H2 a ys->True)->(∀ u,us[k]? = some u->(Itl K a).go k H2/\∀ x H3,(Itl K a).yld k H2 x H3->Gr H2 α2 H3 α2/\Abs K H3 α2 L2/\RepU K H3 α2 u x)/\(us[k]? = none->(Itl K a).stop k H2):=by
  intro us xs sq r _
  refine ⟨fun u eu=>?_,fun eu=>?_⟩
  ·obtain ⟨x,ex,rx⟩:=r.get eu
   refine ⟨⟨xs,x,sq,ex⟩,?_⟩
   rintro y H3 ⟨rfl,hy⟩
   have:=hy xs sq
   rw[ex] at this;cases this
   exact ⟨.refl _ _,A2,rx⟩
  ·exact ⟨xs,sq,by rw[<- r.length];exact cM.mp eu⟩
 unfold IU.at
 simp only
 cases q:L2[n]? with
 | none=>simp
 | some o=>
  have hr:=A2.rep n a o ea2 q
  cases o with
  | lst us=>
   obtain ⟨xs,e,r⟩:=hr
   obtain ⟨h1,h2⟩:=go us xs (.of e) r fun _ _=>trivial
   exact ⟨fun u eu=>h1 u (bZ eu),fun eu=>h2 (bZ eu)⟩
  | ro us=>
   obtain ⟨xs,e,r⟩:=hr
   obtain ⟨h1,h2⟩:=go us xs e.sq r fun _ _=>trivial
   exact ⟨fun u eu=>h1 u (bZ eu),fun eu=>h2 (bZ eu)⟩
  | dic kvs=>simp
  | rod kvs=>simp
  | ins C fs=>simp
  | exc C fr fs=>simp
theorem Ajc{K:aD}{H:Hp}{α:List Addr}{us:List U}{xs:List V}{a:Addr}(sq:SqT K H a xs)(r:RepL K H α us xs):Ng K (Itt K a) (.seq us) H α:=by
 intro H2 α2 L2 g A2 k
 have sq2:=g.st.sqT (K:=K) sq
 have r2:=r.mono g
 refine ⟨fun u eu=>?_,fun eu=>?_⟩
 ·obtain ⟨x,ex,rx⟩:=r2.get (bZ eu)
  refine ⟨⟨xs,x,sq2,ex⟩,?_⟩
  rintro y H3 ⟨rfl,hy⟩
  have:=hy xs sq2
  rw[ex] at this;cases this
  exact ⟨.refl _ _,A2,rx⟩
 ·exact ⟨xs,sq2,by rw[<- r2.length];exact cM.mp (bZ eu)⟩
theorem Agr{K:aD}{H:Hp}{α:List Addr}(lo:Int)(n:Nat):Ng K (Itr lo n) (.seq ((dS n).map fun i=>U.int (lo+(i:Nat)))) H α:=by
 intro H2 α2 L2 g A2 k
 refine ⟨fun u eu=>?_,fun eu=>?_⟩
 ·have eu:=bZ eu
  rw[cB] at eu
  by_cases hk:k < n
  ·rw[pX hk] at eu
   simp at eu
   refine ⟨hk,?_⟩
   rintro x H3 ⟨rfl,rfl⟩
   subst eu
   exact ⟨.refl _ _,A2,rfl⟩
  ·rw[dF (by simpa using hk)] at eu
   simp at eu
 ·have:=cM.mp (bZ eu)
  show n<=k
  simpa using this
noncomputable def En(f:FE):FI:=fun δ L=>(f δ L).bind fun p=>(Lc p.1 p.2).map fun i=>(i,p.2)
theorem Ha(h:PEF X l fe):PIF X tg l (En fe):=by
 refine PI.imp (PI.or (Ahv h) (Al2 h)) ?_
 rintro σ H R ⟨α,δ,L,A,S,i,L3,e,q⟩
 obtain ⟨⟨u,L1⟩,e1,e⟩:=aA.mp e
 obtain ⟨j,e2,e⟩:=aK.mp e
 cases e
 cases u with
 | tup us=>
  cases e2
  refine .inr ⟨α,δ,L,A,S,_,_,e1,fun x H1 α1 g1 A1 r1=>?_⟩
  unfold RepU at r1
  obtain ⟨a,xs,rfl,sq,r⟩:=r1
  exact ⟨a,rfl,⟨xs,sq⟩,q _ H1 α1 g1 A1 (Ajc sq r)⟩
 | ref n=>
  refine .inl ⟨α,δ,L,A,S,_,_,e1,fun x H1 α1 g1 A1 r1=>?_⟩
  unfold RepU at r1
  obtain ⟨a,ea,rfl⟩:=r1
  refine ⟨a,rfl,?_⟩
  unfold Lc at e2
  simp only at e2
  cases w:L1[n]? with
  | none=>simp only[w] at e2;cases e2
  | some o=>
   have hr:=A1.rep n a o ea w
   cases o with
   | lst us=>simp only[w] at e2;cases e2;obtain ⟨xs,e,r⟩:=hr;exact ⟨⟨xs,.of e⟩,q _ H1 α1 g1 A1 (Yo ea)⟩
   | ro us=>simp only[w] at e2;cases e2;obtain ⟨xs,e,r⟩:=hr;exact ⟨⟨xs,e.sq⟩,q _ H1 α1 g1 A1 (Yo ea)⟩
   | dic kvs=>simp only[w] at e2;cases e2
   | rod kvs=>simp only[w] at e2;cases e2
   | ins C fs=>simp only[w] at e2;cases e2
   | exc C fr fs=>simp only[w] at e2;cases e2
 | _=>cases e2
noncomputable def Fp(lo:Int)(n:Nat):List U:=(dS n).map fun i=>U.int (lo+(i:Nat))
noncomputable def Rk(g:FA):FI:=fun δ L=>(g δ L).bind fun p=>match p.1 with
 | [.int j]=>if -(2 ^ 62)<=j/\j < 2 ^ 62 then some (.seq (Fp 0 j.toNat),p.2) else none
 | _=>none
noncomputable def Aj0(g:FA):FI:=fun δ L=>(g δ L).bind fun p=>match p.1 with
 | [.int i,.int j]=>if (-(2 ^ 62)<=i/\i < 2 ^ 62)/\-(2 ^ 62)<=j/\j < 2 ^ 62 then some (.seq (Fp i (j - i).toNat),p.2) else none
 | _=>none
theorem RepL.one{K:aD}{H:Hp}{α:List Addr}{u:U}{xs:List V}(h:RepL K H α [u] xs):∃ x,xs=[x]/\RepU K H α u x:=by
 unfold RepL at h
 obtain ⟨x,r,e,h1,h2⟩:=h
 unfold RepL at h2
 subst h2
 exact ⟨x,e,h1⟩
theorem RepL.two{K:aD}{H:Hp}{α:List Addr}{u w:U}{xs:List V}(h:RepL K H α [u,w] xs):∃ x y,xs=[x,y]/\RepU K H α u x/\RepU K H α w y:=by
 unfold RepL at h
 obtain ⟨x,r,e,h1,h2⟩:=h
 obtain ⟨y,e2,h3⟩:=h2.one
 subst e2
 exact ⟨x,y,e,h1,h3⟩
theorem Vq{a:Expr}{g:FA}{p pos:Pos}(hg:Gl X "range")(hm:X.mg "range" = none)(ha:PAF X [a] g)(hs:bP [a] X.env=[(false,eval a X.env)]:=by rfl):PIF X tg (.Call (.Name "range" p) [a] [] pos) (Rk g):=by
 refine PI.imp (Ab1 hg hm ha hs) ?_
 rintro σ H R ⟨α,δ,L,A,S,i,L3,e,q⟩
 obtain ⟨⟨us,L1⟩,e1,e⟩:=aA.mp e
 refine ⟨α,δ,L,A,S,us,L1,e1,fun xs H1 α1 g1 A1 r1=>?_⟩
 simp only at e
 split at e
 ·rename_i _ j
  split at e
  ·rename_i hj
   cases e
   obtain ⟨x,rfl,rx⟩:=r1.one
   unfold RepU at rx
   subst rx
   exact ⟨j,rfl,hj.1,hj.2,q _ H1 α1 g1 A1 (Agr 0 _)⟩
  ·cases e
 ·cases e
noncomputable def Jc(i:IU)(g:FG)(body:FS):Nat->Nat->UE->UH->Option (Fl×UH)
 | 0,_,_,_=>none
 | m+1,k,δ,L=>match i.at k L with
  | none=>none
  | some none=>some (.nx δ,L)
  | some (some u)=>(g u δ L).bind fun p=>(body p.1 p.2).bind fun q=>match q.1 with
   | .nx δ'=>Jc i g body m (k+1) δ' q.2
   | .ct δ'=>Jc i g body m (k+1) δ' q.2
   | .bk δ'=>some (.nx δ',q.2)
   | .rt w=>some (.rt w,q.2)
noncomputable def P8(fi:FI)(g:FG)(body:FS):FS:=fun δ L=>(fi δ L).bind fun p=>Jc p.1 g body (p.1.size p.2+1) 0 δ p.2
inductive FI_(K:aD)(D:Ends)(H1:Hp)(α1:List Addr)(fl:Fl)(L':UH)(go:UE->UH->Option (Fl×UH))(σ2:_root_.L2.St)(H2:Hp):Prop
 | mk (α2:List Addr) (δ2:UE) (L2:UH) (g2:Gr H1 α1 H2 α2) (A2:Abs K H2 α2 L2) (S2:RepS K H2 α2 δ2 σ2) (e2:go δ2 L2=some (fl,L')) (q2:Post K D H2 α2 fl L'):FI_ K D H1 α1 fl L' go σ2 H2
theorem X3{body:List Stmt}{fi:FI}{g:FG}{fb:FS}(hp:rV (model X.prog X.w) X.A X.env X.xe)(hc:X.calm=true)(hi:PIF X tg iter fi)(hg:PGF X tg g)(hb:R5 X body fb)
  (hs:∀ x,foldedSetIterable iter X.env x=pure x:=by intro _;rfl):PSF X (.For tg iter body [] pos) (P8 fi g fb):=by
 refine PS.imp (Amh hp hc hi hg hb hs) ?_
 rintro D σ H ⟨α,δ,L,A,S,fl,L',e,q⟩
 obtain ⟨⟨it,L1⟩,e1,e⟩:=aA.mp e
 refine ⟨α,δ,L,A,S,it,L1,e1,fun J H1 α1 g1 A1 hJ=>?_⟩
 refine ⟨fun k m=>FI_ X.K D H1 α1 fl L' (Jc it g fb m k),⟨_,α1,δ,L1,.refl _ _,A1,S.mono g1,e,q.from g1⟩,?_⟩
 rintro k m σ2 H2 ⟨α2,δ2,L2,g2,A2,S2,e2,q2⟩
 cases m with
 | zero=>cases e2
 | succ m=>
  obtain ⟨hgo,hstop⟩:=hJ H2 α2 L2 g2 A2 k
  unfold Jc at e2
  cases hat:it.at k L2 with
  | none=>rw[hat] at e2;cases e2
  | some o=>
   cases o with
   | none=>
    rw[hat] at e2
    cases e2
    exact .inl ⟨hstop hat,q2 σ2 H2 α2 (.refl _ _) A2 S2⟩
   | some u=>
    rw[hat] at e2
    obtain ⟨go,yld⟩:=hgo u hat
    obtain ⟨⟨δ3,L3⟩,e3,e2⟩:=aA.mp e2
    obtain ⟨⟨fl4,L4⟩,e4,e2⟩:=aA.mp e2
    refine .inr ⟨go,FI_ X.K D H1 α1 fl L' (Jc it g fb m (k+1)),fun σ5 H5 h5=>⟨m,eI _,h5⟩,fun x H3 y3=>?_⟩
    obtain ⟨g3,A3,r3⟩:=yld x H3 y3
    refine ⟨α2,δ2,L2,u,A3,S2.mono g3,r3,δ3,L3,e3,fun σ4 H4 α4 g4 A4 S4=>⟨α4,δ3,L3,A4,S4,fl4,L4,e4,?_⟩⟩
    have gA:=g2.trans (g3.trans g4)
    have gB:=g3.trans g4
    cases fl4 with
    | nx δ5=>exact fun σ5 H5 α5 g5 A5 S5=>⟨α5,δ5,L4,gA.trans g5,A5,S5,e2,q2.from (gB.trans g5)⟩
    | ct δ5=>exact fun σ5 H5 α5 g5 A5 S5=>⟨α5,δ5,L4,gA.trans g5,A5,S5,e2,q2.from (gB.trans g5)⟩
    | bk δ5=>cases e2;exact fun σ5 H5 α5 g5 A5 S5=>q2 σ5 H5 α5 (gB.trans g5) A5 S5
    | rt w=>cases e2;exact fun v H5 α5 g5 A5 r5=>q2 v H5 α5 (gB.trans g5) A5 r5
noncomputable def Fq(c:FT)(body:FS):Nat->UE->UH->Option (Fl×UH)
 | 0,_,_=>none
 | m+1,δ,L=>(c δ L).bind fun p=>if p.1=true then (body δ p.2).bind fun q=>match q.1 with
   | .nx δ'=>Fq c body m δ' q.2
   | .ct δ'=>Fq c body m δ' q.2
   | .bk δ'=>some (.nx δ',q.2)
   | .rt w=>some (.rt w,q.2)
  else some (.nx δ,p.2)
inductive WI_(K:aD)(D:Ends)(fl:Fl)(L':UH)(go:UE->UH->Option (Fl×UH))(σ2:_root_.L2.St)(H2:Hp):Prop
 | mk (α2:List Addr) (δ2:UE) (L2:UH) (A2:Abs K H2 α2 L2) (S2:RepS K H2 α2 δ2 σ2) (e2:go δ2 L2=some (fl,L')) (q2:Post K D H2 α2 fl L'):WI_ K D fl L' go σ2 H2
theorem Q9{c:Expr}{body:List Stmt}{tc:FT}{fb:FS}(n:Nat)(hp:rV (model X.prog X.w) X.A X.env X.xe)(hc:PTF X c tc)(hb:R5 X body fb):PSF X (.While c body [] pos) (Fq tc fb n):=by
 refine PS.imp (Afh hp hc hb) ?_
 rintro D σ H ⟨α,δ,L,A,S,fl,L',e,q⟩
 refine ⟨fun m=>WI_ X.K D fl L' (Fq tc fb m),⟨n,α,δ,L,A,S,e,q⟩,?_⟩
 rintro m σ2 H2 ⟨α2,δ2,L2,A2,S2,e2,q2⟩
 cases m with
 | zero=>cases e2
 | succ m=>
  unfold Fq at e2
  obtain ⟨⟨b,L3⟩,e3,e2⟩:=aA.mp e2
  refine ⟨α2,δ2,L2,A2,S2,b,L3,e3,fun H3 α3 g3 A3=>?_⟩
  cases b with
  | false=>cases e2;exact Vt (q2 σ2 H3 α3 g3 A3 (S2.mono g3))
  | true=>
   obtain ⟨⟨fl4,L4⟩,e4,e2⟩:=aA.mp e2
   refine Wq ⟨WI_ X.K D fl L' (Fq tc fb m),fun σ5 H5 h5=>⟨m,eI _,h5⟩,?_⟩
   refine ⟨α3,δ2,L3,A3,S2.mono g3,fl4,L4,e4,?_⟩
   cases fl4 with
   | nx δ5=>exact fun σ5 H5 α5 g5 A5 S5=>⟨α5,δ5,L4,A5,S5,e2,q2.from (g3.trans g5)⟩
   | ct δ5=>exact fun σ5 H5 α5 g5 A5 S5=>⟨α5,δ5,L4,A5,S5,e2,q2.from (g3.trans g5)⟩
   | bk δ5=>cases e2;exact fun σ5 H5 α5 g5 A5 S5=>q2 σ5 H5 α5 (g3.trans g5) A5 S5
   | rt w=>cases e2;exact fun v H5 α5 g5 A5 r5=>q2 v H5 α5 (g3.trans g5) A5 r5
end
noncomputable def fnU(n m:Nat)(body:FS):FN:=fun us L=>if us.length=m then (body (us.map some++aY (n - us.length) none) L).bind fun p=>match p.1 with
 | .rt u=>some (u,p.2)
 | .nx _=>some (.non,p.2)
 | _=>none
 else none
section
variable {P:bQ}{w:cC}{K:aD}{mg:Str->Option aC}{base:Heap}
theorem Fun.okF{x qual:Str}{st:Stmt}{f:Addr}{fd:bT}{N ps:List Str}{k:Nat}{body:FS}(F:Fun K x qual st f fd)(S:FnScope N ps (Af st))
  (hbody:∀ (cdv:aC) (A:cL) (outer:List nT) (s:aG) (H:Hp) (E:XK),Room k (A.deeper (envOfC qual (Af st) s.heap.objs.size f cdv))->R5 (V9 CX0 P w K mg base N qual (Af st) f cdv A outer s H E).nox (Ai st) body) :
  FnOk P w K mg base CX0 (k+1) f fd ps (spF K ps.length (fnU N.length ps.length body)):=by
 refine F.ok S (fun vs H Q E ⟨α,L,us,A,r,hl,_,_,_,_⟩=>by rw[<- r.length];exact hl) (fun cdv A outer s H vs Q E hr h=>?_)
 obtain ⟨α,L,us,Ab,r,hl,u,L',e,q⟩:=h
 refine ⟨_,hbody cdv A outer s H E hr,?_⟩
 unfold fnU at e
 rw[if_pos hl] at e
 obtain ⟨⟨fl,L1⟩,e1,e⟩:=aA.mp e
 refine ⟨α,_,L,Ab,RepS.start N r,fl,L1,e1,?_⟩
 cases fl with
 | rt w=>cases e;exact q
 | nx δ=>cases e;exact fun σ' H' α' g' A' S'=>q .non H' α' g' A' rfl
 | bk δ=>cases e
 | ct δ=>cases e
end
section
variable {K:aD}{H:Hp}{α:List Addr}{L:UH}{u:U}{x:V}
theorem P0{n:Nat}{us:List U}(h:Gy L n=some us):L[n]? = some (.lst us):=by
 unfold Gy at h
 split at h
 ·rename_i e;cases h;exact e
 ·cases h
theorem Mb{n:Nat}{us:List U}(A:Abs K H α L)(h:Gy L n=some us):∃ a xs,α[n]? = some a/\H a=some (.lst xs)/\RepL K H α us xs:=by
 obtain ⟨a,ea,xs,e,r⟩:=A.addr (P0 h)
 exact ⟨a,xs,ea,e,r⟩
theorem Lj{n:Nat}{us:List U}(A:Abs K H α L)(h:Bi L n=some us):∃ a xs,α[n]? = some a/\SqL K H a xs/\RepL K H α us xs:=by
 unfold Bi at h
 split at h
 ·rename_i e;cases h
  obtain ⟨a,ea,xs,e,r⟩:=A.addr e
  exact ⟨a,xs,ea,.of e,r⟩
 ·rename_i e;cases h
  obtain ⟨a,ea,xs,e,r⟩:=A.addr e
  exact ⟨a,xs,ea,e.sq,r⟩
 ·cases h
theorem Abs.setL{n:Nat}{a:Addr}{xs ys:List V}{us ws:List U}(A:Abs K H α L)(h:Gy L n=some us)(ea:α[n]? = some a)(e:H a=some (.lst xs))(r:RepL K H α ws ys) :
  Gr H α (upd H a (.lst ys)) α/\Abs K (upd H a (.lst ys)) α (L.set n (.lst ws)):=by
 have g:Gr H α (upd H a (.lst ys)) α:=⟨⟨[],by simp⟩,.write e (by exact trivial) _⟩
 obtain ⟨A',_⟩:=A.put (o:=.lst ys) (u:=.lst ws) ea (P0 h) rfl rfl e (by exact trivial) ⟨ys,upd_same,r.mono g⟩
 exact ⟨g,A'⟩
theorem RepU.ref_of{n:Nat}(A:Abs K H α L)(h:RepU K H α (.ref n) x):∃ a,α[n]? = some a/\x = .ref a:=by unfold RepU at h;exact h
end
noncomputable def Bl:S2:=fun u w L=>match u,w with
 | .int i,.int j=>some (.int (i+j),L)
 | .str a,.str b=>if Gq (a.length+b.length)=true then some (.str (a++b),L) else none
 | .tup a,.tup b=>if a.isEmpty=false/\Gq (a.length+b.length)=true then some (.tup (a++b),L) else none
 | .ref n,.ref m=>(Gy L n).bind fun a=>(Gy L m).bind fun b=>if Gq (a.length+b.length)=true then some (.ref L.length,L++[.lst (a++b)]) else none
 | _,_=>none
noncomputable def Akb(K:aD):R2:=fun x y H Q=>rI0 (fun i j=>.int (i+j)) x y H Q\/(∃ i j,x = .str i/\y = .str j/\i.length+j.length<=sizeLine/\Q (.str (i++j)) H)\/rCatT K x y H Q\/rCat x y H Q
theorem Cj{X:Cx}:OpR X (gU .Add) (Akb X.K):=Ame.or (Vw.or (Ahe.or Amb))
theorem Ce{K:aD}:Dm K (Akb K) Bl:=by
 intro H α L u w x y z L' Q A ru rw e q
 unfold Bl at e
 split at e
 ·cases e
  unfold RepU at ru rw
  exact .inl ⟨_,_,ru,rw,q _ H α (.refl _ _) A rfl⟩
 ·split at e
  ·rename_i h
   cases e
   unfold RepU at ru rw
   exact .inr (.inl ⟨_,_,ru,rw,E5 h,q _ H α (.refl _ _) A rfl⟩)
  ·cases e
 ·rename_i a b
  split at e
  ·rename_i h
   cases e
   unfold RepU at ru rw
   obtain ⟨p,xs,rfl,s1,r1⟩:=ru
   obtain ⟨p2,ys,rfl,s2,r2⟩:=rw
   have e1:=r1.length
   have e2:=r2.length
   refine .inr (.inr (.inl ⟨p,p2,xs,ys,rfl,rfl,s1,s2,?_,by rw[<- e1,<- e2];exact E5 h.2,fun hy=>?_,fun hy l hl=>?_⟩))
   ·intro hx;subst hx
    cases a with
    | nil=>simp at h
    | cons _ _=>simp at e1
   ·subst hy
    have hb:b=[]:=by
     cases b with
     | nil=>rfl
     | cons _ _=>simp at e2
    subst hb
    refine q _ H α (.refl _ _) A ?_
    unfold RepU
    exact ⟨p,xs,rfl,s1,by rw[aT];exact r1⟩
   ·obtain ⟨g,A',r⟩:=A.tup (r1.append r2) hl
    exact q _ _ α g A' r
  ·cases e
 ·rename_i n m
  obtain ⟨a,ha,e⟩:=aA.mp e
  obtain ⟨b,hb,e⟩:=aA.mp e
  split at e
  ·rename_i h
   cases e
   obtain ⟨p,xs,e1,h1,r1⟩:=Mb A ha
   obtain ⟨p2,ys,e2,h2,r2⟩:=Mb A hb
   obtain ⟨p',e1',rfl⟩:=ru.ref_of A
   obtain ⟨p2',e2',rfl⟩:=rw.ref_of A
   rw[e1] at e1';cases e1'
   rw[e2] at e2';cases e2'
   refine .inr (.inr (.inr ⟨p,p2,xs,ys,rfl,rfl,h1,h2,by rw[<- r1.length,<- r2.length];exact E5 h,fun l hl=>?_⟩))
   obtain ⟨g,A',r⟩:=A.lst (r1.append r2) hl
   exact q _ _ _ g A' r
  ·cases e
 ·cases e
noncomputable def Ab8(C:Int->Int->Bool)(g:Int->Int->U):S2:=fun u w L=>match u,w with
 | .int i,.int j=>if C i j=true then some (g i j,L) else none
 | _,_=>none
theorem Aov{K:aD}{C:Int->Int->Prop}{Cb:Int->Int->Bool}{g:Int->Int->V}{g':Int->Int->U}(hC:∀ i j,Cb i j=true->C i j)(hg:∀ i j H α,RepU K H α (g' i j) (g i j)):Dm K (rI C g) (Ab8 Cb g'):=by
 intro H α L u w x y z L' Q A ru rw e q
 unfold Ab8 at e
 split at e
 ·split at e
  ·rename_i h
   cases e
   unfold RepU at ru rw
   exact ⟨_,_,ru,rw,hC _ _ h,q _ H α (.refl _ _) A (hg _ _ _ _)⟩
  ·cases e
 ·cases e
noncomputable def Nh(g:Int->Int->U):S2:=fun u w L=>match u,w with
 | .int i,.int j=>some (g i j,L)
 | _,_=>none
theorem Mm{K:aD}{g:Int->Int->V}{g':Int->Int->U}(hg:∀ i j H α,RepU K H α (g' i j) (g i j)):Dm K (rI0 g) (Nh g'):=by
 intro H α L u w x y z L' Q A ru rw e q
 unfold Nh at e
 split at e
 ·cases e
  unfold RepU at ru rw
  exact ⟨_,_,ru,rw,q _ H α (.refl _ _) A (hg _ _ _ _)⟩
 ·cases e
noncomputable def Mj:S2:=Nh fun i j=>.int (i - j)
theorem R8{K:aD}:Dm K (rI0 fun i j=>.int (i - j)) Mj:=Mm fun _ _ _ _=>rfl
noncomputable def Adt(i j:Int):Bool:=(decide (-(2 ^ 64) < i)&&decide (i < 2 ^ 64)) || (decide (-(2 ^ 64) < j)&&decide (j < 2 ^ 64))
noncomputable def Hj:S2:=fun u w L=>match u,w with
 | .int i,.int j=>if Adt i j=true then some (.int (i * j),L) else none
 | .str a,.int j=>if a.length<=1000/\-1000<=j/\j<=1000 then some (.str (yD a j),L) else none
 | .ref n,.int k=>(Gy L n).bind fun a=>if -1000000<=k/\k<=1000000/\Gq (a.length * k.toNat)=true then some (.ref L.length,L++[.lst (aY k.toNat a).flatten]) else none
 | _,_=>none
noncomputable def Akc:R2:=fun x y H Q=>rI CMul (fun i j=>.int (i * j)) x y H Q\/(∃ a j,x = .str a/\y = .int j/\MulOk a j/\Q (.str (yD a j)) H)\/rRep x y H Q
theorem W3{X:Cx}:OpR X (gU .Mult) (fun x y H Q=>∃ a j,x = .str a/\y = .int j/\MulOk a j/\Q (.str (yD a j)) H):=by
 intro pins s σ H x y v u Q I rx ry h
 obtain ⟨a,j,rfl,rfl,hok,q⟩:=h
 obtain ⟨t,rfl⟩:=rx
 obtain ⟨t',rfl⟩:=ry
 exact SB.mul hok fun t' k=>⟨.str (yD a j),H,I.tok _,⟨_,rfl⟩,q⟩
theorem Ah4{X:Cx}:OpR X (gU .Mult) Akc:=Ak0.or (W3.or Alq)
theorem RepL.flat{K:aD}{H:Hp}{α:List Addr}{us:List U}{xs:List V}(h:RepL K H α us xs):∀ k:Nat,RepL K H α (aY k us).flatten (aY k xs).flatten
 | 0=>.nil
 | k+1=>by rw[dQ,dQ,fR,fR];exact h.append (RepL.flat h k)
theorem Ahf{K:aD}:Dm K Akc Hj:=by
 intro H α L u w x y z L' Q A ru rw e q
 unfold Hj at e
 split at e
 ·rename_i i j
  split at e
  ·rename_i h
   cases e
   unfold RepU at ru rw
   refine .inl ⟨_,_,ru,rw,?_,q _ H α (.refl _ _) A rfl⟩
   simp only[Adt,sM,iZ,decide_eq_true_eq] at h
   exact h
  ·cases e
 ·rename_i a j
  split at e
  ·rename_i h
   cases e
   unfold RepU at ru rw
   exact .inr (.inl ⟨_,_,ru,rw,mulOk_of 1000 1000 h.1 (by omega) (by omega) (by decide) (by decide),q _ H α (.refl _ _) A rfl⟩)
  ·cases e
 ·rename_i n k
  obtain ⟨a,ha,e⟩:=aA.mp e
  split at e
  ·rename_i h
   cases e
   obtain ⟨p,xs,e1,h1,r1⟩:=Mb A ha
   obtain ⟨p',e1',rfl⟩:=ru.ref_of A
   rw[e1] at e1';cases e1'
   unfold RepU at rw
   refine .inr (.inr ⟨p,k,xs,rfl,rw,h1,by omega,by omega,by rw[<- r1.length];exact E5 h.2.2,fun l hl=>?_⟩)
   obtain ⟨g,A',r⟩:=A.lst (r1.flat k.toNat) hl
   exact q _ _ _ g A' r
  ·cases e
 ·cases e
noncomputable def Ajw(i j:Int):Bool:=decide (0 < j)&&decide (j < 1152921504606846976)
noncomputable def Am7:S2:=Ab8 Ajw fun i j=>.int (i / j)
noncomputable def Mo:S2:=Ab8 (fun _ j=>decide (0 < j)) fun i j=>.int (i % j)
theorem Age{K:aD}:Dm K (rI (fun _ j=>0 < j) fun i j=>.int (i % j)) Mo:=Aov (fun i j h=>by simpa using h) fun _ _ _ _=>rfl
noncomputable def Akp(i j:Int):Bool:=decide (0<=j)&&decide (j<=1000000)&&decide (i.natAbs < 2 ^ 64)
noncomputable def Alk:S2:=Ab8 Akp fun i j=>.int (i ^ j.toNat)
noncomputable def Ml:S2:=Nh fun i j=>.int (iQ i j)
theorem Wg{K:aD}:Dm K (rI0 fun i j=>.int (iQ i j)) Ml:=Mm fun _ _ _ _=>rfl
noncomputable def Gd:S2:=Nh fun i j=>.bl (decide (i<=j))
noncomputable def Qq:S2:=Nh fun i j=>.bl (decide (j < i))
noncomputable def Q3:S2:=Nh fun i j=>.bl (decide (j<=i))
noncomputable def Lr:S2:=Nh fun i j=>.bl (decide (i < j))
theorem Jo{K:aD}:Dm K (rI0 fun i j=>.bl (decide (i<=j))) Gd:=Mm fun _ _ _ _=>rfl
theorem Vz{K:aD}:Dm K (rI0 fun i j=>.bl (decide (j < i))) Qq:=Mm fun _ _ _ _=>rfl
theorem Adq{K:aD}:Dm K (rI0 fun i j=>.bl (decide (j<=i))) Q3:=Mm fun _ _ _ _=>rfl
theorem Sy{K:aD}:Dm K (rI0 fun i j=>.bl (decide (i < j))) Lr:=Mm fun _ _ _ _=>rfl
noncomputable def mapO{β γ:Type}(f:β->Option γ):List β->Option (List γ)
 | []=>some []
 | u::r=>(f u).bind fun d=>(mapO f r).map fun ds=>d::ds
noncomputable def toP(L:UH):Nat->U->Option tH
 | 0,_=>none
 | _+1,.non=>some .none
 | _+1,.bl b=>some (.bool b)
 | _+1,.int i=>some (.int i)
 | _+1,.str x=>some (.str x)
 | n+1,.tup l=>(mapO (toP L n) l).map .tuple
 | n+1,.ref k=>(Bi L k).bind fun l=>(mapO (toP L n) l).map .list
section
variable {X:Cx}{pins:List (Addr×Obj)}{σ:L2.St}{H:Hp}{s:aG}{α:List Addr}{L:UH}
theorem Rt{n:Nat}(ih:∀ (u:U) (x:V) (v:aC) (d:tH),RepU X.K H α u x->RelV x v->toP L n u=some d->∃ as,Reads s.heap v d as):∀ (l:List U) (xs:List V) (vs:List aC) (ds:List tH),RepL X.K H α l xs->Vals xs vs->mapO (toP L n) l=some ds->∃ as,ReadsAll s.heap vs ds as
 | [],xs,vs,ds,r,hv,e=>by
  unfold RepL at r;subst r;cases hv;cases e;exact ⟨_,.nil⟩
 | u::l,xs,vs,ds,r,hv,e=>by
  unfold RepL at r
  obtain ⟨x,xr,rfl,r1,r2⟩:=r
  cases hv with
  | cons h1 h2=>
   obtain ⟨d,e1,e⟩:=aA.mp e
   obtain ⟨dr,e2,e⟩:=aK.mp e
   subst e
   obtain ⟨as,q1⟩:=ih u x _ d r1 h1 e1
   obtain ⟨bs,q2⟩:=Rt ih l xr _ dr r2 h2 e2
   exact ⟨_,.cons q1 q2⟩
theorem Mx(I:Inv X pins σ H s)(A:Abs X.K H α L):∀ (n:Nat) (u:U) (x:V) (v:aC) (d:tH),RepU X.K H α u x->RelV x v->toP L n u=some d->∃ as,Reads s.heap v d as
 | 0,_,_,_,_,_,_,e=>by cases e
 | n+1,u,x,v,d,r,hv,e=>by
  cases u with
  | non=>unfold RepU at r;subst r;cases hv;cases e;exact ⟨_,.none⟩
  | bl b=>unfold RepU at r;subst r;cases hv;cases e;exact ⟨_,.bool b⟩
  | int i=>unfold RepU at r;subst r;obtain ⟨t,rfl⟩:=hv;cases e;exact ⟨_,.int i t⟩
  | str y=>unfold RepU at r;subst r;obtain ⟨t,rfl⟩:=hv;cases e;exact ⟨_,.str y t⟩
  | tup l=>
   unfold RepU at r
   obtain ⟨a,xs,rfl,sq,r⟩:=r
   cases hv
   unfold toP at e
   obtain ⟨ds,e1,e⟩:=aK.mp e
   subst e
   obtain ⟨its,hv,⟨o,h1,h2,m,h3⟩,_⟩:=I.tuple sq
   obtain ⟨as,q⟩:=Rt (Mx I A n) l xs its ds r hv e1
   exact ⟨_,.tuple h1 h2 h3 (by simpa using q)⟩
  | ref k=>
   unfold RepU at r
   obtain ⟨a,ea,rfl⟩:=r
   cases hv
   unfold toP at e
   obtain ⟨l,hl,e⟩:=aA.mp e
   obtain ⟨ds,e1,e⟩:=aK.mp e
   subst e
   obtain ⟨a',xs,ea',sq,r⟩:=Lj A hl
   rw[ea] at ea';cases ea'
   obtain ⟨its,hv,⟨o,m,h1,h2,_,h3⟩,_⟩:=I.list sq
   obtain ⟨as,q⟩:=Rt (Mx I A n) l xs its ds r hv e1
   exact ⟨_,.list h1 h2 h3 (by simpa using q)⟩
end
noncomputable def eqP(u w:U)(L:UH):Option Bool:=(toP L 8 u).bind fun d=>(toP L 8 w).bind fun e=>if kC d=true/\kC e=true then some (dW d e) else none
inductive rEqU(K:aD)(neg:Bool)(x y:V)(H:Hp)(Q:VK):Prop
 | mk (α:_) (L:_) (u:_) (w:_) (b:_) (h0:Abs K H α L) (h1:RepU K H α u x) (h2:RepU K H α w y) (h3:eqP u w L=some b) (h4:Q (.bl (if neg then !b else b)) H):rEqU K neg x y H Q
theorem Wk{X:Cx}(hu:X.A.units+64 < cLine):OpR X (eQ .Eq) (rEqU X.K false):=by
 intro pins s σ H x y v u Q I rx ry h
 obtain ⟨α,L,a,b,k,A,ra,rb,e,q⟩:=h
 obtain ⟨d,e1,e⟩:=aA.mp e
 obtain ⟨d2,e2,e⟩:=aA.mp e
 split at e
 ·rename_i hs
  cases e
  obtain ⟨as,q1⟩:=Mx I A 8 a x v d ra rx e1
  obtain ⟨bs,q2⟩:=Mx I A 8 b y u d2 rb ry e2
  exact eq_dataH q1 q2 hs.1 hs.2 hu ⟨.bl _,H,I,rfl,q⟩
 ·cases e
theorem Fu{X:Cx}(hu:X.A.units+64 < cLine):OpR X (eQ .NotEq) (rEqU X.K true):=by
 intro pins s σ H x y v u Q I rx ry h
 obtain ⟨α,L,a,b,k,A,ra,rb,e,q⟩:=h
 obtain ⟨d,e1,e⟩:=aA.mp e
 obtain ⟨d2,e2,e⟩:=aA.mp e
 split at e
 ·rename_i hs
  cases e
  obtain ⟨as,q1⟩:=Mx I A 8 a x v d ra rx e1
  obtain ⟨bs,q2⟩:=Mx I A 8 b y u d2 rb ry e2
  exact ne_dataH q1 q2 hs.1 hs.2 hu ⟨.bl _,H,I,rfl,q⟩
 ·cases e
noncomputable def Np:S2:=fun u w L=>(eqP u w L).map fun b=>(.bl b,L)
noncomputable def Ek:S2:=fun u w L=>(eqP u w L).map fun b=>(.bl (!b),L)
theorem Wy{K:aD}:Dm K (rEqU K false) Np:=by
 intro H α L u w x y z L' Q A ru rw e q
 obtain ⟨b,e1,e⟩:=aK.mp e
 cases e
 exact ⟨α,_,u,w,b,A,ru,rw,e1,q _ H α (.refl _ _) A rfl⟩
theorem Fy{K:aD}:Dm K (rEqU K true) Ek:=by
 intro H α L u w x y z L' Q A ru rw e q
 obtain ⟨b,e1,e⟩:=aK.mp e
 cases e
 exact ⟨α,_,u,w,b,A,ru,rw,e1,q _ H α (.refl _ _) A rfl⟩
noncomputable def Apv(neg:Bool):S2:=fun u w L=>match u,w with
 | .non,.non=>some (.bl (!neg),L)
 | .bl a,.bl b=>some (.bl (if neg then !(a == b) else a == b),L)
 | .int _,.non=>some (.bl neg,L)
 | .bl _,.non=>some (.bl neg,L)
 | .str _,.non=>some (.bl neg,L)
 | .tup _,.non=>some (.bl neg,L)
 | .ref _,.non=>some (.bl neg,L)
 | _,_=>none
noncomputable def isSome:U->Bool
 | .non=>false
 | _=>true
theorem RepL.atI{K:aD}{H:Hp}{α:List Addr}{us:List U}{xs:List V}{i:Int}{u:U}(r:RepL K H α us xs)(h:L2.atI us i=some u):∃ x,L2.atI xs i=some x/\RepU K H α u x:=by
 unfold L2.atI at h ⊢
 obtain ⟨j,e1,e2⟩:=aA.mp h
 obtain ⟨x,e3,r3⟩:=r.get e2
 exact ⟨x,by rw[<- r.length,e1];exact e3,r3⟩
noncomputable def B7:S2:=fun u w L=>match u,w with
 | .tup l,.int i=>(L2.atI l i).map fun z=>(z,L)
 | .ref n,.int i=>(Bi L n).bind fun l=>(L2.atI l i).map fun z=>(z,L)
 | .str x,.int i=>if Gq x.length=true then (L2.atI x.cps.toList i).map fun c=>(.str ⟨#[c]⟩,L) else none
 | _,_=>none
theorem Dt{K:aD}:Dm K (rIx K) B7:=by
 intro H α L u w x y z L' Q A ru rw e q
 unfold B7 at e
 split at e
 ·obtain ⟨c,e1,e⟩:=aK.mp e
  cases e
  unfold RepU at ru rw
  obtain ⟨a,xs,rfl,sq,r⟩:=ru
  obtain ⟨v,e2,r2⟩:=r.atI e1
  exact .inr (.inl ⟨a,xs,_,v,rfl,rw,sq,e2,q _ H α (.refl _ _) A r2⟩)
 ·obtain ⟨l,hl,e⟩:=aA.mp e
  obtain ⟨c,e1,e⟩:=aK.mp e
  cases e
  obtain ⟨a,xs,ea,sq,r⟩:=Lj A hl
  obtain ⟨a',ea',rfl⟩:=ru.ref_of A
  rw[ea] at ea';cases ea'
  unfold RepU at rw
  obtain ⟨v,e2,r2⟩:=r.atI e1
  exact .inl ⟨a,xs,_,v,rfl,rw,sq,e2,q _ H α (.refl _ _) A r2⟩
 ·split at e
  ·rename_i hs
   obtain ⟨c,e1,e⟩:=aK.mp e
   cases e
   unfold RepU at ru rw
   exact .inr (.inr ⟨_,_,c,ru,rw,E5 hs,e1,q _ H α (.refl _ _) A rfl⟩)
  ·cases e
 ·cases e
noncomputable def lenU(u:U)(L:UH):Option Nat:=match u with
 | .str y=>if Gq y.length=true then some y.length else none
 | .tup l=>some l.length
 | .ref n=>(Bi L n).map mV
 | _=>none
noncomputable def Gu:SC:=fun us L=>match us with
 | [u]=>(lenU u L).map fun (n:Nat)=>(U.int (n:Int),L)
 | _=>none
theorem Md{K:aD}:Wz K (fun xs H Q=>∃ x n,xs=[x]/\Aod K x H n/\Q (.int n) H) Gu:=by
 intro H α L us xs z L' Q A r e q
 unfold Gu at e
 split at e
 ·rename_i u
  obtain ⟨n,e1,e⟩:=aK.mp e
  cases e
  obtain ⟨x,rfl,rx⟩:=r.one
  refine ⟨x,n,rfl,?_,q _ H α (.refl _ _) A rfl⟩
  cases u with
  | str y=>
   unfold lenU at e1
   simp only at e1
   split at e1
   ·rename_i hs;cases e1;unfold RepU at rx;subst rx;exact ⟨E5 hs,rfl⟩
   ·cases e1
  | tup l=>
   cases e1
   unfold RepU at rx
   obtain ⟨a,ys,rfl,sq,r2⟩:=rx
   exact .inr ⟨ys,sq,r2.length⟩
  | ref k=>
   obtain ⟨l,hl,e2⟩:=aK.mp e1
   subst e2
   obtain ⟨a,ys,ea,sq,r2⟩:=Lj A hl
   obtain ⟨a',ea',rfl⟩:=rx.ref_of A
   rw[ea] at ea';cases ea'
   exact .inl ⟨ys,sq,r2.length⟩
  | _=>cases e1
 ·cases e
noncomputable def toI:U->Option Int
 | .int i=>some i
 | _=>none
theorem Lq{K:aD}{H:Hp}{α:List Addr}:∀ {us:List U} {xs:List V} {ns:List Int},RepL K H α us xs->mapO toI us=some ns->xs=ns.map V.int
 | [],xs,ys,r,h=>by unfold RepL at r;subst r;cases h;rfl
 | u::us,xs,ys,r,h=>by
  unfold RepL at r
  obtain ⟨x,xr,rfl,r1,r2⟩:=r
  obtain ⟨y,e1,h⟩:=aA.mp h
  obtain ⟨yr,e2,h⟩:=aK.mp h
  subst h
  cases u <;> simp only[toI] at e1 <;> first
   | (cases e1;unfold RepU at r1;subst r1;rw[Lq r2 e2];rfl)
   | cases e1
section
variable {X:Cx}
theorem Abw(hc:X.calm=true):CallR X (.builtin "sum") (fun xs H Q=>∃ (p:Addr) (ns:List Int),xs=[.ref p]/\SqL X.K H p (ns.map V.int)/\Q (.int ns.sum) H):=by
 intro pins s σ H xs us Q I r h
 obtain ⟨p,ns,rfl,hq,q⟩:=h
 obtain ⟨u,rfl,rx⟩:=Kk r
 cases rx
 obtain ⟨its,r',pl,hz⟩:=I.list hq
 have hi:jM its ns:=Po r'
 obtain ⟨m,F⟩:=I.fr
 obtain ⟨xs,hx⟩:=hi.allInts.items
 have hl':s.heap.IsList p (intItems xs):=hx ▸ pl.isList
 refine sum_intListG (I.ok.hd hc) hl' fun h' tk t' hk=>?_
 have e1:ns=xs.toList.map (·.1):=by
  rw[<- nums_intItems,<- hx]
  exact (show numsOf its.toArray.toList=ns from hi.numsOf).symm
 have e2:preSum (numAt xs) xs.size=ns.sum:=by
  rw[preSum_eq,eJ (by simp),e1]
 rw[e2]
 exact ⟨.int ns.sum,H,I.kept hk,⟨_,rfl⟩,q⟩
theorem Aaw(hc:X.calm=true):CallR X (.builtin "sum") (fun xs H Q=>∃ (p:Addr) (ns:List Int),xs=[.ref p]/\SqT X.K H p (ns.map V.int)/\Q (.int ns.sum) H):=by
 intro pins s σ H xs us Q I r h
 obtain ⟨p,ns,rfl,hq,q⟩:=h
 obtain ⟨u,rfl,rx⟩:=Kk r
 cases rx
 obtain ⟨its,r',pl,hz⟩:=I.tuple hq
 have hi:jM its ns:=Po r'
 obtain ⟨xs,hx⟩:=hi.allInts.items
 have hl':s.heap.IsTuple p (intItems xs):=hx ▸ pl
 refine PySem.W.ktm_sumG (I.ok.hd hc) hl' fun h' tk t' hk=>?_
 have e1:ns=xs.toList.map (·.1):=by
  rw[<- nums_intItems,<- hx]
  exact (show numsOf its.toArray.toList=ns from hi.numsOf).symm
 have e2:preSum (numAt xs) xs.size=ns.sum:=by
  rw[preSum_eq,eJ (by simp),e1]
 rw[e2]
 exact ⟨.int ns.sum,H,I.kept hk,⟨_,rfl⟩,q⟩
theorem Qv(hc:X.calm=true):CallR X (.builtin "sum") (fun xs H Q=>(∃ (p:Addr) (ns:List Int),xs=[.ref p]/\SqL X.K H p (ns.map V.int)/\Q (.int ns.sum) H)\/∃ (p:Addr) (ns:List Int),xs=[.ref p]/\SqT X.K H p (ns.map V.int)/\Q (.int ns.sum) H):=(Abw hc).or (Aaw hc)
end
noncomputable def Ft:SC:=fun us L=>match us with
 | [.ref n]=>(Bi L n).bind fun l=>(mapO toI l).map fun ns=>(.int ns.sum,L)
 | [.tup l]=>(mapO toI l).map fun ns=>(.int ns.sum,L)
 | _=>none
theorem N9{K:aD}{H:Hp}{α:List Addr}{L:UH}{n:Nat}{l:List U}{x:V}(A:Abs K H α L)(hl:Bi L n=some l)(rx:RepU K H α (.ref n) x):∃ a ys,x = .ref a/\SqL K H a ys/\RepL K H α l ys:=by
 obtain ⟨a,ys,ea,sq,r2⟩:=Lj A hl
 obtain ⟨a',ea',rfl⟩:=rx.ref_of A
 rw[ea] at ea';cases ea'
 exact ⟨a,ys,rfl,sq,r2⟩
theorem Ys{K:aD}:Wz K (fun xs H Q=>(∃ (p:Addr) (ns:List Int),xs=[.ref p]/\SqL K H p (ns.map V.int)/\Q (.int ns.sum) H)\/∃ (p:Addr) (ns:List Int),xs=[.ref p]/\SqT K H p (ns.map V.int)/\Q (.int ns.sum) H) Ft:=by
 intro H α L us xs z L' Q A r e q
 unfold Ft at e
 split at e
 ·obtain ⟨l,hl,e⟩:=aA.mp e
  obtain ⟨ns,e1,e⟩:=aK.mp e
  cases e
  obtain ⟨x,rfl,rx⟩:=r.one
  obtain ⟨a,ys,rfl,sq,r2⟩:=N9 A hl rx
  rw[Lq r2 e1] at sq
  exact .inl ⟨a,ns,rfl,sq,q _ H α (.refl _ _) A rfl⟩
 ·obtain ⟨ns,e1,e⟩:=aK.mp e
  cases e
  obtain ⟨x,rfl,rx⟩:=r.one
  unfold RepU at rx
  obtain ⟨a,ys,rfl,sq,r2⟩:=rx
  rw[Lq r2 e1] at sq
  exact .inr ⟨a,ns,rfl,sq,q _ H α (.refl _ _) A rfl⟩
 ·cases e
noncomputable def semTuple:SC:=fun us L=>match us with
 | [.ref n]=>(Bi L n).map fun l=>(.tup l,L)
 | [.tup l]=>some (.tup l,L)
 | _=>none
theorem J9{K:aD}:Wz K (fun xs H Q=>∃ p ys,xs=[.ref p]/\((SqL K H p ys/\∀ l,H l=none->Q (.ref l) (upd H l (.tup ys)))\/(SqT K H p ys/\Q (.ref p) H))) semTuple:=by
 intro H α L us xs z L' Q A r e q
 unfold semTuple at e
 split at e
 ·obtain ⟨l,hl,e⟩:=aK.mp e
  cases e
  obtain ⟨x,rfl,rx⟩:=r.one
  obtain ⟨a,ys,rfl,sq,r2⟩:=N9 A hl rx
  refine ⟨a,ys,rfl,.inl ⟨sq,fun p hp=>?_⟩⟩
  obtain ⟨g,A',r'⟩:=A.tup r2 hp
  exact q _ _ _ g A' r'
 ·cases e
  obtain ⟨x,rfl,rx⟩:=r.one
  have rx':=rx
  unfold RepU at rx
  obtain ⟨a,ys,rfl,sq,r2⟩:=rx
  exact ⟨a,ys,rfl,.inr ⟨sq,q _ H α (.refl _ _) A rx'⟩⟩
 ·cases e
theorem Ahh{K:aD}{H:Hp}{α:List Addr}{L:UH}{n:Nat}{l:List U}{x:V}(A:Abs K H α L)(hl:Gy L n=some l)(rx:RepU K H α (.ref n) x):∃ a ys,x = .ref a/\α[n]? = some a/\H a=some (.lst ys)/\RepL K H α l ys:=by
 obtain ⟨a,ys,ea,sq,r2⟩:=Mb A hl
 obtain ⟨a',ea',rfl⟩:=rx.ref_of A
 rw[ea] at ea';cases ea'
 exact ⟨a,ys,rfl,ea,sq,r2⟩
noncomputable def gSub(fo fi:FE):FG:=fun v δ L=>(fo δ L).bind fun p=>(fi δ p.2).bind fun q=>match p.1,q.1 with
 | .ref n,.int k=>(Gy q.2 n).bind fun l=>(ixN l.length k).map fun j=>(δ,q.2.set n (.lst (l.set j v)))
 | _,_=>none
theorem Agg{X:Cx}{o i:Expr}{fo fi:FE}{pos:Pos}(ho:PEF X o fo)(hi:PEF X i fi)(ha:∀ v,assign (.Subscript o i pos) X.env v=(do let ov <- holding [v] (eval o X.env);let iv <- holding [v,ov] (eval i X.env);standAt pos;holding [v,ov,iv] (setItem ov iv v);release [v,ov,iv] []):=by intro _;rfl):PGF X (.Subscript o i pos) (MR.gSub fo fi):=by
 refine PG.imp (Akv ho hi Afq ha) ?_
 rintro v σ H Q ⟨α,δ,L,u,A,S,r,δ',L',e,q⟩
 obtain ⟨⟨o',L1⟩,e1,e⟩:=aA.mp e
 obtain ⟨⟨i',L2⟩,e2,e⟩:=aA.mp e
 refine ⟨α,δ,L,A,S,o',L1,e1,fun x H1 α1 g1 A1 r1=>⟨α1,δ,L1,A1,S.mono g1,i',L2,e2,fun y H2 α2 g2 A2 r2=>?_⟩⟩
 simp only at e
 split at e
 ·obtain ⟨l,hl,e⟩:=aA.mp e
  obtain ⟨j,ej,e⟩:=aK.mp e
  cases e
  unfold RepU at r2
  subst r2
  obtain ⟨a,ys,rfl,ea,h,r3⟩:=Ahh A2 hl (r1.mono g2)
  obtain ⟨g,A'⟩:=A2.setL hl ea h (r3.set ((r.mono g1).mono g2) j)
  exact ⟨a,ys,_,j,rfl,rfl,h,by rw[<- r3.length];exact ej,q _ _ _ (g1.trans (g2.trans g)) A' (((S.mono g1).mono g2).mono g)⟩
 ·cases e
noncomputable def Aeq(u:U)(L:UH):Option String:=match u with
 | .non=>some "NoneType"
 | .bl _=>some "bool"
 | .int _=>some "int"
 | .str _=>some "str"
 | .tup _=>some "tuple"
 | .ref n=>match L[n]? with
  | some (.lst _)=>some "list"
  | some (.ro _)=>some "list"
  | some (.dic _)=>some "dict"
  | _=>none
noncomputable def isT(t c:String):Bool:=t == c || (t == "bool" && c == "int")
noncomputable def Aq6(c:String)(f:FE):FE:=fun δ L=>(f δ L).bind fun p=>(Aeq p.1 p.2).map fun t=>(.bl (isT t c),p.2)
theorem Al5{K:aD}{F:FN}{H:Hp}{a:Addr}{ns:List Int}{E:XK}(ho:Aiw H)(hS:SqL K H a (ns.map V.int))(h:∃ L',F [.ref 0] [.ro (ns.map U.int)]=some (.bl true,L')):spF K 1 F [.ref a] H (fun v _=>v = .bl true) E:=by
 obtain ⟨L',e⟩:=h
 have ro:RO K H a (ns.map V.int):=by
  rcases hS with (q | ⟨o,q⟩) | q
  ·rcases ho a with z | ⟨o,xs,z⟩
   ·rw[z] at q;cases q
   ·rw[z] at q;cases q
  ·exact .inl ⟨o,q⟩
  ·exact .inr q
 refine ⟨[a],[.ro (ns.map U.int)],[.ref 0],⟨rfl,fun i j b o o' e1 e2 e3 e4=>?_,fun i b o e1 e2=>?_⟩,.cons ?_ .nil,rfl,.bl true,L',e,fun v H' α' _ _ r=>r⟩
 ·cases i with
  | zero=>cases j with
   | zero=>exact .inl rfl
   | succ j=>simp at e2
  | succ i=>simp at e1
 ·cases i with
  | zero=>simp at e1 e2;subst e1;subst e2;exact ⟨_,ro,RepL.ints ns⟩
  | succ i=>simp at e1
 ·unfold RepU;exact ⟨a,rfl,rfl⟩
theorem K4(env:nT):∀ (names:List (Str×jG)) (cs:List (Str×Addr)),(∀ y∈names,y.2 = .free->∃ c,env.cells.lookup y.1=some c)->(∀ x c,cs.lookup x=some c->env.cells.lookup x=some c) ->
  ∃ cl:List (Str×Addr),(forIn names cs fun (x:Str×jG) r=>if (x.2 == iJ)=true then do let c <- cellOf env x.1;pure (iI ((x.1,c)::r)) else pure (iI r):Sem (List (Str×Addr)))=pure cl /\
   (∀ x c,cl.lookup x=some c->env.cells.lookup x=some c)/\(∀ y∈names,y.2 = .free->∃ c,cl.lookup y.1=some c)/\∀ x,(∃ c,cs.lookup x=some c)->∃ c,cl.lookup x=some c
 | [],cs,_,h2=>⟨cs,rfl,h2,(fun _ h=>nomatch h),fun _ h=>h⟩
 | (n,k)::r,cs,h1,h2=>by
  cases hk:k == iJ with
  | true=>
   have hk':k = .free:=by simpa using hk
   obtain ⟨c,hc⟩:=h1 (n,k) (cN ..) hk'
   have look:∀ x c',fA x ((n,c)::cs)=some c'->env.cells.lookup x=some c':=fun x c' e=>by
    rw[cK] at e
    cases hx:x == n with
    | true => rw [hx] at e; simp at e; subst e; have : x = n := by simpa using hx
              rw[this];exact hc
    | false=>rw[hx] at e;exact h2 x c' e
   obtain ⟨cl,e,p1,p2,p3⟩:=K4 env r ((n,c)::cs) (fun y hy=>h1 y (bN _ hy)) look
   refine ⟨cl,?_,p1,fun y hy hf=>?_,fun x hx=>?_⟩
   ·rw[lL]
    have e0:(cellOf env n:Sem Addr)=pure c:=by unfold cellOf;rw[hc]
    simp only[hk,if_true,e0]
    exact e
   ·rcases cI.mp hy with rfl | hy
    ·exact p3 n ⟨c,by simp⟩
    ·exact p2 y hy hf
   ·refine p3 x ?_
    rw[cK]
    cases hx':x == n with
    | true=>exact ⟨c,rfl⟩
    | false=>exact hx
  | false=>
   obtain ⟨cl,e,p1,p2,p3⟩:=K4 env r cs (fun y hy=>h1 y (bN _ hy)) h2
   refine ⟨cl,?_,p1,fun y hy hf=>?_,p3⟩
   ·rw[lL]
    simp only[hk,bL,if_false]
    exact e
   ·rcases cI.mp hy with rfl | hy
    ·rw[show k=iJ from hf] at hk;cases hk
    ·exact p2 y hy hf
theorem Kj{scope:jX}{env:nT}(h:∀ y∈scope.names,y.2 = .free->∃ c,env.cells.lookup y.1=some c) :
  ∃ cl,closureFor scope env=pure cl/\(∀ x c,cl.lookup x=some c->env.cells.lookup x=some c)/\∀ y∈scope.names,y.2 = .free->∃ c,cl.lookup y.1=some c:=by
 obtain ⟨cl,e,p1,p2,_⟩:=K4 env scope.names [] h (fun x c e=>by simp at e)
 refine ⟨cl,?_,p1,p2⟩
 unfold closureFor
 show (forIn scope.names [] _ >>= fun cs=>pure cs)=pure cl
 have:(forIn scope.names ([]:List (Str×Addr)) (fun (x:Str×jG) (r:List (Str×Addr))=>if (x.2 == iJ)=true then do let c <- cellOf env x.1;pure (iI ((x.1,c)::r)) else pure (iI r)):Sem (List (Str×Addr))) >>= (fun cs=>pure cs)=pure cl:=by rw[e];rfl
 exact this
noncomputable def blk(X:Cx)(scope:jX)(cl:List (Str×Addr))(C:Addr)(N':List Str)(s2:aG)(H2:Hp)(fp:List Addr)(pins:List (Addr×Obj)):Cx:=
 { X with env:=compEnvC scope cl C X.env,N:=N',s₀:=s2,H₀:=H2,outer:=X.stack,ex:=fp,fn:=fun _=>false,pn:=X.pn++pins,xe:=fun _ _=>False }
theorem HOk.adopt{P:bQ}{w:cC}{H:Hp}{h:Heap}{a:Addr}{o:HO}(x:HOk P w H h)(hn:H a=none)(new:ObjOk P w (upd H a o) h a o):HOk P w (upd H a o) h:=fun b u e=>by
 by_cases hb:b=a
 ·subst hb;rw[upd_same] at e;cases e;exact new
 ·rw[Az hb] at e
  exact (x b u e).stay (fun c v _ q=>q) (fun c q=>by rw[Az (Bj q hn)];exact q) fun c xs q=>by rw[Az (Bj q hn)];exact q
theorem Un.adopt{fs ex:List Addr}{H H1:Hp}{h h1:Heap}{a:Addr}{o:HO}(u:Un fs ex H H1 h h1)(hn:H1 a=none)(ha:h.get? a=none):Un fs ex H (upd H1 a o) h h1 where
 keep:=u.keep
 slot:=u.slot
 free:=fun b ob q n hx=>by
  have:b≠a:=fun z=>by rw[z,ha] at q;cases q
  rw[Az this];exact u.free b ob q n hx
 there:=u.there
 tups:=fun b xs q=>by have q':=u.tups b xs q;rw[Az (Bj q' hn)];exact q'
 frzs:=fun b ob xs q=>by have q':=u.frzs b ob xs q;rw[Az (Bj q' hn)];exact q'
 tbls:=fun b ps q=>by
  obtain ⟨m,q'⟩:=u.tbls b ps q
  exact ⟨m,by rw[Az (Bj q' hn)];exact q'⟩
structure CompSc(X:Cx)(scope:jX)(N':List Str)(ix:List (Option Nat)):Prop where
 kind:scope.kind = .function
 cell:(scope.names.all fun y=>y.2 != .cell)=true
 loc:(scope.names.all fun y=>y.2 != .local || scope.names.lookup y.1 == some .local)=true
 free:(scope.names.all fun y=>y.2 != .free || (X.env.kindOf y.1 == some .cell || X.env.kindOf y.1 == some .free))=true
 ixs:((N'.zip ix).all fun p=>match p.2 with | none=>true | some i=>(X.N[i]? == some p.1)&&(scope.names.lookup p.1 == some .free))=true
 len:N'.length=ix.length
noncomputable def inner(ix:List (Option Nat))(σ:L2.St):L2.St:=ix.map fun o=>o.bind fun i=>(σ[i]?).join
noncomputable def Adc(J:It)(g:TG)(tt:TT)(te:TE)(σ':L2.St)(H:Hp)(Fin:List V->Hp->Prop):Prop:=∃ W:Nat->Nat->List V->L2.St->Hp->Prop,(∃ m,W 0 m [] σ' H)/\∀ i m acc σ1 H1,W i m acc σ1 H1 ->
 (J.stop i H1/\Fin acc H1)\/(J.go i H1/\∀ x H3,J.yld i H1 x H3->g x σ1 H3 fun σ2 H4=>tt σ2 H4 fun b H5=>
  if b=true then te σ2 H5 fun y H6=>acc.length < sizeLine/\∃ m',m' < m/\W (i+1) m' (acc++[y]) σ2 H6 else ∃ m',m' < m/\W (i+1) m' acc σ2 H5)
section
variable {X:Cx}{scope:jX}{N':List Str}{ix:List (Option Nat)}{pins:List (Addr×Obj)}{σ:L2.St}{H2:Hp}{s2:aG}{cl:List (Str×Addr)}{fp:List Addr}
theorem G3{β:Type}{x:Str}{v:β}:∀ {l:List (Str×β)},l.lookup x=some v->(x,v)∈l
 | [],h=>by simp at h
 | (n,k)::r,h=>by
  rw[cK] at h
  cases hx:x == n with
  | true => rw [hx] at h; simp at h; have : x = n := by simpa using hx
            subst this;subst h;exact cN ..
  | false=>rw[hx] at h;exact bN _ (G3 h)
theorem Gx{env:nT}{x:Str}:∀ {names:List (Str×jG)} {k:jG},(names.map fun (n,k)=>if (k == iJ&&env.scope.kind == .function&&env.kindOf n == some .cell) then (n,qD) else (n,k)).lookup x=some k ->
  names.lookup x=some k\/(names.lookup x=some .free/\k = .cell)
 | [],k,h=>by simp at h
 | (n,k')::r,k,h=>by
  have ih:=@Gx env x r k
  rw[aL] at h
  cases hx:x == n with
  | true=>
   rw[cK,hx]
   simp only at h ⊢
   split at h
   ·rename_i hc
    rw[cK,hx] at h
    simp at h
    simp only[iZ] at hc
    have:k' = .free:=by simpa using hc.1.1
    subst this
    exact .inr ⟨rfl,h.symm⟩
   ·rw[cK,hx] at h
    exact .inl h
  | false=>
   rw[cK,hx]
   simp only at h ⊢
   split at h
   ·rw[cK,hx] at h;exact ih h
   ·rw[cK,hx] at h;exact ih h
theorem Ga{env:nT}{x:Str}:∀ {names:List (Str×jG)},names.lookup x=some .free ->
  (names.map fun (n,k)=>if (k == iJ&&env.scope.kind == .function&&env.kindOf n == some .cell) then (n,qD) else (n,k)).lookup x=some .free\/(names.map fun (n,k)=>if (k == iJ&&env.scope.kind == .function&&env.kindOf n == some .cell) then (n,qD) else (n,k)).lookup x=some .cell
 | [],h=>by simp at h
 | (n,k')::r,h=>by
  have ih:=@Ga env x r
  rw[aL]
  cases hx:x == n with
  | true=>
   rw[cK,hx] at h
   simp at h
   subst h
   simp only
   split
   ·right;rw[cK,hx]
   ·left;rw[cK,hx]
  | false=>
   rw[cK,hx] at h
   have:=ih h
   simp only
   split
   ·rw[cK,hx];exact this
   ·rw[cK,hx];exact this
theorem Abv(S:CompSc X scope N' ix)(hcalm:X.calm=true)(I2:Inv X pins σ H2 s2)(hcl:∀ x c,cl.lookup x=some c->X.env.cells.lookup x=some c)(hcl2:∀ y∈scope.names,y.2 = .free->∃ c,cl.lookup y.1=some c)
  (f2:∀ b∈fp,Ig X pins H2 b) (hfp:∀ b∈fp,b < s2.heap.objs.size) {C:Addr} {h4:Heap} {m:Str->Option aC} {t4:Nat} (hC:s2.heap.objs.size<=C) (hns:h4.Ns C m) (keep:∀ b o,s2.heap.get? b=some o->h4.get? b=some o) :
  Inv (blk X scope cl C N' s2 H2 fp pins) [] (inner ix σ) H2 { s2 with heap:=h4,toks:=t4 }:=by
 have hkindC:(relabel scope X.env).kind = .function:=S.kind
 have ok:(blk X scope cl C N' s2 H2 fp pins).Ok:=
  { mod:=I2.ok.mod
    kind:=hkindC
    glob:=I2.ok.glob
    blt:=I2.ok.blt
    above:=hC
    inj:=fun x y c e1 e2=>I2.ok.inj x y c (hcl x c e1) (hcl y c e2)
    has:=fun x h=>by
     have h':(relabel scope X.env).names.lookup x=some .cell\/(relabel scope X.env).names.lookup x=some .free:=h
     have hfree:scope.names.lookup x=some .free:=by
      rcases h' with h' | h'
      ·rcases Gx h' with q | ⟨q,_⟩
       ·have:=cV.mp S.cell _ (G3 q)
        simp at this
       ·exact q
      ·rcases Gx h' with q | ⟨q,z⟩
       ·exact q
       ·cases z
     exact hcl2 _ (G3 hfree) rfl
    cab:=fun x c h=>by cases h
    hd:=fun _=>I2.ok.hd hcalm
    frames:=I2.ok.frames
    stk:=.inl rfl
    exf:=fun b hb=>⟨bY (bE (hfp b hb) hC),fun x c e=>(f2 b hb).2.2.2.2.1 x c (hcl x c e)⟩
    bs:=fun b o e=>I2.bs b o e
    bsz:=dN I2.ok.bsz I2.sz
    noex:=fun b o e hb=>by
     rcases (f2 b hb).2.2.2.1 with z | z
     ·exact I2.ok.noex b o e z
     ·exact absurd (bE (aW (I2.ok.bs b o e).1) z) (dO _)
    exfs:=fun b hb z=>by
     rcases cI.mp (I2.stkSub b z) with q | q
     ·exact (f2 b hb).2.1 q
     ·exact (f2 b hb).2.2.1 q
    funs:=I2.stack
    frf:=I2.stkFree }
 obtain ⟨m0,hn0,hl0⟩:=id I2.loc
 refine ⟨ok,rfl,I2.bare,Un.kept keep,⟨m,hns,fun j x v e1 e2 e3=>?_⟩,fun x c e=>?_,I2.hok.fresh hC,fun x c e=>I2.freeC x c (hcl x c e),fun p hp=>?_,I2.hok.kept keep,?_⟩
 ·-- a name that the block takes along
  have e1':N'[j]? = some x:=e1
  have e2':(inner ix σ)[j]? = some (some v):=e2
  unfold inner at e2'
  rw[cB] at e2'
  cases hx:ix[j]? with
  | none=>rw[hx] at e2';simp at e2'
  | some o=>
   rw[hx] at e2'
   cases o with
   | none=>simp at e2'
   | some i=>
    simp at e2'
    have hz:(x,some i)∈N'.zip ix:=eS (i:=j) (by rw[List.getElem?_zip_eq_some];exact ⟨e1',hx⟩)
    have hz':=cV.mp S.ixs _ hz
    simp only[iZ,beq_iff_eq] at hz'
    obtain ⟨hXN,hfr⟩:=hz'
    have hσ:σ[i]? = some (some v):=by
     cases q:σ[i]? with
     | none=>rw[q] at e2';simp at e2'
     | some o=>rw[q] at e2';simp at e2';rw[e2']
    have hk:=cV.mp S.free _ (G3 hfr)
    simp at hk
    have hvis:Vis X.env.scope x:=by
     rcases hk with q | q
     ·exact .inr (.inl q)
     ·exact .inr (.inr q)
    obtain ⟨u,r,look⟩:=hl0 i x v hXN hσ hvis
    rcases look with ⟨q,_⟩ | ⟨_,c,ec,hc⟩
    ·rcases hk with z | z
     ·rw[z] at q;cases q
     ·rw[z] at q;cases q
    ·obtain ⟨c',ec'⟩:=hcl2 _ (G3 hfr) rfl
     have:c'=c:=by have:=hcl x c' ec';rw[ec] at this;cases this;rfl
     subst this
     refine ⟨u,r,.inr ⟨?_,c',ec',?_⟩⟩
     ·rcases Ga (env:=X.env) hfr with q | q
      ·exact .inr q
      ·exact .inl q
     ·obtain ⟨oc,ho,hd⟩:=hc
      exact ⟨oc,keep _ _ ho,hd⟩
 ·obtain ⟨v,oc,ho,hd⟩:=I2.cell x c (hcl x c e)
  exact ⟨v,oc,keep _ _ ho,hd⟩
 ·have hp':p∈X.pn++pins:=by simpa[blk] using hp
  obtain ⟨q1,q2,q3,q4,q5⟩:=I2.pin p hp'
  refine ⟨keep _ _ q1,q2,bY (bE (aW q1) hC),fun z=>?_,q5⟩
  rcases cI.mp (I2.stkSub p.1 z) with q | q
  ·exact q3 q
  ·exact q4 q
 ·show (inner ix σ).length=N'.length
  rw[S.len];simp[inner]
end
section
variable {X:Cx}{scope:jX}{N':List Str}{ix:List (Option Nat)}{pins:List (Addr×Obj)}{σ:L2.St}{H2:Hp}{s2:aG}{cl:List (Str×Addr)}{fp:List Addr}
noncomputable def Um(X':Cx)(ifs:List Expr)(tt:TT):Prop:=∀ (pins:List (Addr×Obj)) (s:aG) (σ:L2.St) (H:Hp) (Q:Bool->Hp->Prop) (E:aC->aG->Prop),Inv X' pins σ H s->tt σ H Q->(∀ e s,X'.xe e s->E e s) ->
 wpAny (model X'.prog X'.w) X'.A (forIn ifs true fun c r=>if r=true then do let ok <- isTrue c X'.env (eval c X'.env);pure (iI ok) else pure (iI r)) (TP X' pins σ Q) E s
noncomputable def Alr:TT:=fun _ H Q=>Q true H
theorem Aa2{X':Cx}:Um X' [] Alr:=fun pins s σ H Q E I h _=>wpAny_tests_nil ⟨H,I,h⟩
theorem Aan{X':Cx}{c:Expr}{tt:TT}(h:PT X' c tt):Um X' [c] tt:=fun pins s σ H Q E I q hE=>wpAny_tests_one (eL (h pins s σ H Q I q) (fun _ _ z=>z) hE)
noncomputable def Dj(its:List aC)(n:Nat):Obj:={ cls:=.type "list",data:=.seq its.toArray n }
theorem Aaz{elt tg iter:Expr}{ifs:List Expr}{pos:Pos}{it D C:Addr}{J:It}{tn:Nat->Heap->Prop}{g:TG}{tt:TT}{te:TE}{Fin:List V->Hp->Prop}{R:sZ->aG->Prop}{X':Cx}
  (hX:X'.A=X.A/\X'.prog=X.prog/\X'.w=X.w/\X'.K=X.K/\X'.calm=true/\∀ e s,¬ X'.xe e s) (T:Turn X.prog X.w X.K tg J fp it tn) (hg:PG X' tg g) (ht:Um X' ifs tt) (he:PE X' elt te)
  (hD1:s2.heap.objs.size<=D) (hDC:D≠C) (hC:s2.heap.objs.size<=C) (hfp:∀ b∈fp,Ig X' [] H2 b/\b≠D) (hDf:∀ H,H D=none->Ig X' [] H D)
  {s:aG} {σ1:L2.St} {H1:Hp} {n0:Nat} (I:Inv X' [(D,Dj [] n0)] σ1 H1 s) (st:tn 0 s.heap) (fr:∀ b∈fp,H1 b=none) (hloop:Adc J g tt te σ1 H1 Fin)
  (hR:∀ (s':aG) (σ':L2.St) (H':Hp) (acc:List V) (its:List aC) (n:Nat),Inv X' [(D,Dj its n)] σ' H' s'->Vals acc its->acc.length<=sizeLine->Fin acc H'->R (.ok .next) s') :
  jK (model X.prog X.w) X.A (.compLoop (.ListComp elt [⟨tg,iter,ifs,0⟩] scope pos) 0 (.ref it) (.ref D) X'.env) R s:=by
 obtain ⟨W,⟨m0,w0⟩,turn⟩:=hloop
 obtain ⟨hXA,hXp,hXw,hXK,hXc,hxe⟩:=hX
 have hfpo:∀ (o:Obj) (H:Hp),(∀ b∈fp,H b=none)->∀ b∈fp,Ig X' [(D,o)] H b:=fun o H hn b hb=>by
  obtain ⟨⟨_,q1,q2,q3,q4,q5⟩,q6⟩:=hfp b hb
  refine ⟨hn b hb,q1,q2,q3,q4,fun p hp=>?_⟩
  rcases dY.mp hp with z | z
  ·exact q5 p (fO _ z)
  ·have:p=(D,o):=by simpa using z
   rw[this];exact fun z=>q6 z.symm
 refine codeAny_loop rfl (fun n s=>∃ i acc its k σ1 H1,Inv X' [(D,Dj its k)] σ1 H1 s/\Vals acc its/\acc.length<=sizeLine/\tn i s.heap/\(∀ b∈fp,H1 b=none)/\W i n acc σ1 H1) (fun n s hI=>?_) m0 ⟨0,[],[],n0,σ1,H1,I,.nil,eR _,st,fr,w0⟩
 show wpAny _ X.A ((compTurn (.ListComp elt [⟨tg,iter,ifs,0⟩] scope pos) 0 (.ref it) (.ref D) X'.env).onRaise (fun x=>do noteFrame x X'.env;theTreesLotGoes x)) _ _ s
 refine wpAny_noted ?_
 rw[compTurn_list]
 obtain ⟨i,acc,its,k,σ1,H1,I,hv,hz,st,fr,w1⟩:=hI
 refine aB (nI (aB ?_))
 rcases turn i n acc σ1 H1 w1 with ⟨stop,fin⟩ | ⟨go,step⟩
 ·have h:=T.done X' hXp hXw hXK hXc i _ s σ1 H1 (notedBy (model X.prog X.w) X.A X'.env fun e s'=>R (.error e) s') I (hfpo _ H1 fr) st stop
  rw[hXA] at h
  refine thn h fun r s4 zz=>?_
  obtain ⟨hr,I4⟩:=zz
  subst hr
  exact aJ (hR s4 σ1 H1 acc its k I4 hv hz fin)
 ·have h:=T.item X' hXp hXw hXK hXc i _ s σ1 H1 (notedBy (model X.prog X.w) X.A X'.env fun e s'=>R (.error e) s') I (hfpo _ H1 fr) st go
  rw[hXA] at h
  refine thn h fun r s4 zz=>?_
  obtain ⟨u,hr,h4⟩:=zz
  subst hr
  refine aB (thn h4 fun _ s5 zz=>?_)
  obtain ⟨x,H5,I5,r5,y5,st5,fr5⟩:=zz
  have I5':=I5.pinned (hfpo _ H5 fr5) (T.obj _ _ st5)
  have hg5:=hg _ s5 σ1 H5 x u _ I5' r5 (step x H5 y5)
  rw[hXp,hXw,hXA] at hg5
  refine aB (eL hg5 (fun _ s6 zz=>?_) fun e s z=>absurd z (hxe e s))
  obtain ⟨σ6,H6,I6,q6⟩:=zz
  have ht6:=ht _ s6 σ6 H6 _ (notedBy (model X.prog X.w) X.A X'.env fun e s'=>R (.error e) s') I6 q6 (fun e s z=>absurd z (hxe e s))
  rw[hXp,hXw,hXA] at ht6
  refine aB (thn ht6 fun b s7 zz=>?_)
  obtain ⟨H7,I7,q7⟩:=zz
  have back:∀ {σ8:L2.St} {H8:Hp} {s8:aG},Inv X' ([(D,Dj its k)]++Pf fp s5.heap) σ8 H8 s8->tn (i+1) s8.heap/\(∀ b∈fp,H8 b=none)/\s8.heap.get? D=some (Dj its k)/\H8 D=none:=fun {σ8 H8 s8} I8=>by
   refine ⟨T.keep _ _ _ st5 fun b hb o e=>(I8.pin (b,o) (bR _ (bR _ (Ir hb e)))).1,fun b hb=>?_,?_,?_⟩
   ·obtain ⟨o,e,d⟩:=T.obj _ _ st5 b hb
    exact (I8.pin (b,o) (bR _ (bR _ (Ir hb e)))).2.1
   ·exact (I8.pin (D,Dj its k) (bR _ (fO _ (bX.mpr rfl)))).1
   ·exact (I8.pin (D,Dj its k) (bR _ (fO _ (bX.mpr rfl)))).2.1
  cases b with
  | false=>
   obtain ⟨m',hm,w8⟩:=(q7:if false=true then _ else _)
   obtain ⟨st8,fr8,_,_⟩:=back I7
   refine aJ ⟨rfl,m',hm,i+1,acc,its,k,σ6,H7,?_,hv,hz,st8,fr8,w8⟩
   exact I7.pins_of fun p hp=>I7.pin p (bR _ (fO _ hp))
  | true=>
   have q7':te σ6 H7 fun y H6=>acc.length < sizeLine/\∃ m',m' < n/\W (i+1) m' (acc++[y]) σ6 H6:=q7
   have he7:=he _ s7 σ6 H7 _ I7 q7'
   rw[hXp,hXw,hXA] at he7
   refine aB (aB (eL he7 (fun y s8 zz=>zz.elim fun v H8 I8 r8 zq=>?_) fun e s z=>absurd z (hxe e s)))
   obtain ⟨hlt,m',hm,w8⟩:=zq
   obtain ⟨st8,fr8,hDo,hDn⟩:=back I8
   have hlen:=hv.length
   have hisl:s8.heap.IsList D its.toArray:=⟨_,hDo,rfl,k,rfl⟩
   refine aB ?_
   obtain ⟨k',hd'⟩:∃ k',cJ (·.push y) (Dj its k)=Dj (its++[y]) k':=⟨_,by simp[Dj,cJ];rfl⟩
   refine dM slot_list_append hisl.typeIs entry_list_append ?_ (args_list_append _ _)
   show wpAny _ _ (updateSeq D (·.push y) >>= fun _=>ret .none) _ _ s8
   refine aB (oT hDo rfl (aJ ⟨.none,rfl,?_⟩))
   have hk9:∀ b o,b≠D->s8.heap.get? b=some o->(s8.heap.update D (cJ (·.push y))).get? b=some o:=fun b o hb e=>(dR (h:=s8.heap) (a:=D) ..).2 b hb |>.trans e
   have hD9:(s8.heap.update D (cJ (·.push y))).get? D=some (Dj (its++[y]) k'):=by
    rw[<- hd'];exact fH _ hDo (by rw[hd'];exact Obj.isFreed_of_seq (xs:=(its++[y]).toArray) (n:=k') rfl)
   have I8':Inv X' [] σ6 H8 s8:=I8.pins_of fun p hp=>by cases hp
   obtain ⟨d0,d1,d2,d3,d4,d5⟩:=hDf H8 hDn
   have I9:Inv X' [] σ6 H8 { s8 with heap:=s8.heap.update D (cJ (·.push y)) }:=I8'.turned (t':=s8.toks) hk9 hDn d1 d3 d4 d5
   have I10:=I9.pins_of (pins':=[(D,Dj (its++[y]) k')]) fun p hp=>by
    have:p=(D,Dj (its++[y]) k'):=by simpa using hp
    subst this
    exact ⟨hD9,hDn,d1,d2,fun v z=>by simp[Dj] at z⟩
   refine aJ (aJ ⟨rfl,m',hm,i+1,acc++[v],its++[y],k',σ6,H8,I10,Vals.append hv (.cons r8 .nil),by rw[eD];simp;omega,?_,fr8,w8⟩)
   refine T.keep _ _ _ st8 fun b hb o e=>hk9 b o (hfp b hb).2 e
end
section
variable {X:Cx}{scope:jX}{N':List Str}{ix:List (Option Nat)}
noncomputable def Akt(ix:List (Option Nat))(wi:TI)(g:TG)(tt:TT)(te:TE):TE:=fun σ H Q=>wi σ H fun J H1=>Adc J g tt te (inner ix σ) H1 fun acc H2=>∀ p,H2 p=none->Q (.ref p) (upd H2 p (.lst acc))
theorem Aat{elt tg iter:Expr}{ifs:List Expr}{pos:Pos}{g:TG}{tt:TT}{te:TE}{pins:List (Addr×Obj)}{σ:L2.St}{H2:Hp}{s2:aG}{cl:List (Str×Addr)}{fp:List Addr}{it:Addr}{J:It}{tn:Nat->Heap->Prop}{E:aC->aG->Prop}{Fin:List V->Hp->Prop}{RR:aC->Addr->sZ->aG->Prop}
  (S:CompSc X scope N' ix) (hcalm:X.calm=true) (hcl:∀ x c,cl.lookup x=some c->X.env.cells.lookup x=some c) (hcl2:∀ y∈scope.names,y.2 = .free->∃ c,cl.lookup y.1=some c)
  (hg:∀ C,PG (blk X scope cl C N' s2 H2 fp pins) tg g) (ht:∀ C,Um (blk X scope cl C N' s2 H2 fp pins) ifs tt) (he:∀ C,PE (blk X scope cl C N' s2 H2 fp pins) elt te)
  (I2:Inv X pins σ H2 s2) (T:Turn X.prog X.w X.K tg J fp it tn) (st2:tn 0 s2.heap) (f2:∀ b∈fp,Ig X pins H2 b) (hloop:Adc J g tt te (inner ix σ) H2 Fin)
  (hRR:∀ (D C:Addr) (s':aG) (H':Hp) (acc:List V),Inv X pins σ (upd H' D (.lst acc)) s'->H' D=none->(∃ m,s'.heap.Ns C m)->(upd H' D (.lst acc)) C=none->Ig X pins (upd H' D (.lst acc)) C->Fin acc H'->RR (.ref D) C (.ok .next) s') :
  wpAny (model X.prog X.w) X.A (newList []) (fun acc s₃=>wpAny (model X.prog X.w) X.A (newFunctionEnv scope X.env.globals cl [] X.env.qual none .none (some X.env)) (fun cenv s₄=>
   jK (model X.prog X.w) X.A (.compStart (.ListComp elt [⟨tg,iter,ifs,0⟩] scope pos) 0 (.ref it) acc { cenv with scope:=relabel scope X.env }) (RR acc cenv.locals) s₄) E s₃) E s2:=by
 have hcell:∀ y∈scope.names,y.2≠.cell:=fun y hy z=>by
  have:=cV.mp S.cell y hy
  rw[z] at this;simp at this
 refine dB (wpAny_newFunctionEnv hcell (by intro y hy;simp at hy) (fun h₁ hns₁ hsb₁=>?_) S.kind)
 dsimp only at hns₁ hsb₁ ⊢
 generalize hH2:s2.heap.push { cls:=.type "list",dict:=none,data:=.seq ([]:List aC).toArray } = HP at hns₁ hsb₁ ⊢
 have hCs:HP.objs.size=s2.heap.objs.size+1:=by rw[<- hH2,dC]
 have hDC:s2.heap.objs.size≠HP.objs.size:=by rw[hCs];exact bY (eI _)
 have hCle:s2.heap.objs.size<=HP.objs.size:=by rw[hCs];exact kU _
 have old:∀ b o,s2.heap.get? b=some o->h₁.get? b=some o:=fun b o e=>hsb₁.extBut b o (bY (bE (aW e) hCle)) (aF _ (hH2 ▸ aF _ e))
 have hacc:h₁.get? s2.heap.objs.size=some (Dj [] 0):=hsb₁.extBut _ _ hDC (aF _ (hH2 ▸ aP _ rfl))
 have hfp:∀ b∈fp,b < s2.heap.objs.size:=fun b hb=>by
  obtain ⟨o,e,_⟩:=T.obj _ _ st2 b hb
  exact aW e
 generalize hDg:s2.heap.objs.size=D at hDC hacc
 generalize hCg:HP.objs.size=C at *
 have hDle:s2.heap.objs.size<=D:=jZ hDg
 have hD2:s2.heap.get? D=none:=by
  cases q:s2.heap.get? D with
  | none=>rfl
  | some o=>exact absurd (bE (aW q) hDle) (dO _)
 have I4:=Abv (t4:=s2.toks+([]:List (Str×aC)).length) S hcalm I2 hcl hcl2 f2 hfp hCle hns₁ old
 have above:∀ a,s2.heap.objs.size<=a->a∉frs X.stack/\(∀ x c,X.env.cells.lookup x=some c->c≠a)/\(∀ p∈X.pn++pins,p.1≠a)/\a≠X.env.locals:=fun a ha=>by
  refine ⟨fun z=>?_,fun x c e z=>?_,fun p hp z=>?_,?_⟩
  ·rcases cI.mp (I2.stkSub a z) with q | q
   ·exact absurd (bE I2.lt (q ▸ ha)) (dO _)
   ·exact I2.nofs ha q
  ·obtain ⟨v,q⟩:=I2.cell x c e
   exact absurd (bE q.lt (z ▸ ha)) (dO _)
  ·exact absurd (bE (aW (I2.pin p hp).1) (z ▸ ha)) (dO _)
  ·intro z;exact absurd (bE I2.lt (z ▸ ha)) (dO _)
 have hfpX:∀ b∈fp,Ig (blk X scope cl C N' s2 H2 fp pins) [] H2 b/\b≠D:=fun b hb=>by
  obtain ⟨q0,q1,q2,q3,q4,q5⟩:=f2 b hb
  have hlt:=hfp b hb
  refine ⟨⟨q0,bY (bE hlt hCle),fun z=>?_,.inl hb,fun x c e=>q4 x c (hcl x c e),fun p hp=>q5 p (by simpa[blk] using hp)⟩,bY (bE hlt hDle)⟩
  rcases cI.mp (I2.stkSub b z) with q | q
  ·exact q1 q
  ·exact q2 q
 have hDf:∀ H:Hp,H D=none->Ig (blk X scope cl C N' s2 H2 fp pins) [] H D:=fun H hn=>by
  obtain ⟨a1,a2,a3,a4⟩:=above D hDle
  exact ⟨hn,hDC,a1,.inr hDle,fun x c e=>a2 x c (hcl x c e),fun p hp=>a3 p (by simpa[blk] using hp)⟩
 have hDn2:H2 D=none:=I2.hok.fresh hDle
 have I5:Inv (blk X scope cl C N' s2 H2 fp pins) [(D,Dj [] 0)] (inner ix σ) H2 { s2 with heap:=h₁,toks:=s2.toks+([]:List (Str×aC)).length }:=I4.pins_of fun p hp=>by
  have:p=(D,Dj [] 0):=by simpa using hp
  subst this
  obtain ⟨_,d1,d2,_⟩:=hDf H2 hDn2
  exact ⟨hacc,hDn2,d1,d2,fun v z=>by simp[Dj] at z⟩
 have st5:tn 0 h₁:=T.keep _ _ _ st2 fun b _ o e=>old b o e
 have loop:jK (model X.prog X.w) X.A (.compLoop (.ListComp elt [⟨tg,iter,ifs,0⟩] scope pos) 0 (.ref it) (.ref D) (blk X scope cl C N' s2 H2 fp pins).env) (RR (.ref D) C) { s2 with heap:=h₁,toks:=s2.toks+([]:List (Str×aC)).length }:=by
  refine Aaz (X':=blk X scope cl C N' s2 H2 fp pins) ⟨rfl,rfl,rfl,rfl,hcalm,fun _ _ z=>z⟩ T (hg C) (ht C) (he C) hDle hDC hCle hfpX hDf I5 st5 (fun b hb=>(f2 b hb).1) hloop ?_
  intro s' σ' H' acc its n I hv hz fin
  obtain ⟨hDo,hDn,_⟩:=I.pin (D,Dj its n) (bR _ (bX.mpr rfl))
  have hbase:Un (frs X.stack) fp H2 H' s2.heap s'.heap:=I.base
  have hok:HOk X.prog X.w (upd H' D (.lst acc)) s'.heap:=HOk.adopt I.hok hDn ⟨hz,its,n,hv,hDo⟩
  have IX:Inv X pins σ (upd H' D (.lst acc)) s':=I2.call' I.os (Un.adopt hbase hDn hD2) hok I.bare fun b hb=>⟨(f2 b hb).2.2.2.1,(f2 b hb).2.1,(f2 b hb).2.2.2.2.1,(f2 b hb).2.2.2.2.2⟩
  obtain ⟨m,hm,_⟩:=I.loc
  have hCn:(upd H' D (.lst acc)) C=none:=by rw[Az (fY hDC)];exact I.free
  obtain ⟨a1,a2,a3,a4⟩:=above C hCle
  refine hRR D C s' H' acc IX hDn ⟨m,hm⟩ hCn ⟨hCn,a4,fun z=>?_,.inr (dN I2.sz hCle),a2,a3⟩ fin
  exact I2.nofs hCle z
 have e1:({ newEnv scope C X.env.globals cl X.env.qual none .none (some X.env) qH with scope:=relabel scope X.env }:nT)=(blk X scope cl C N' s2 H2 fp pins).env:=rfl
 exact codeAny_compStart_list loop (T.self _ 0 _ _ _ st5 loop)
theorem CompSc.names{scope:jX}(S:CompSc X scope N' ix):∀ x∈scope.names,x.2 = .local->scope.names.lookup x.1=some .local:=fun x hx hl=>by
 have:=cV.mp S.loc x hx
 rw[hl] at this
 simpa using this
theorem CompSc.clos{scope:jX}(S:CompSc X scope N' ix)(ok:X.Ok):∃ cl,closureFor scope X.env=pure cl/\(∀ x c,cl.lookup x=some c->X.env.cells.lookup x=some c)/\∀ y∈scope.names,y.2 = .free->∃ c,cl.lookup y.1=some c:=by
 refine Kj fun y hy hf=>?_
 have:=cV.mp S.free y hy
 rw[hf] at this
 simp at this
 exact ok.has y.1 this
theorem Yh{elt tg iter:Expr}{ifs:List Expr}{pos:Pos}{wi:TI}{g:TG}{tt:TT}{te:TE}(S:CompSc X scope N' ix)(hcalm:X.calm=true)(hi:PI X tg iter wi)
  (hg:∀ cl C s2 H2 fp pins,PG (blk X scope cl C N' s2 H2 fp pins) tg g) (ht:∀ cl C s2 H2 fp pins,Um (blk X scope cl C N' s2 H2 fp pins) ifs tt) (he:∀ cl C s2 H2 fp pins,PE (blk X scope cl C N' s2 H2 fp pins) elt te)
  (hs:∀ x,foldedSetIterable iter X.env x=pure x:=by intro _;rfl):PE X (.ListComp elt [⟨tg,iter,ifs,0⟩] scope pos) (Akt ix wi g tt te):=by
 intro pins s σ H Q I h
 obtain ⟨cl,hclos,hcl,hcl2⟩:=S.clos I.ok
 rw[eval_ListComp]
 refine wpAny_comprehension_free (use:=none) rfl hs hclos S.kind S.names (thn (hi pins s σ H _ I h) fun v s1 h1=>thn h1 fun itv s2 h2=>?_)
 obtain ⟨it,fp,tn,J,H2,e,I2,T,st2,f2,loop⟩:=h2
 subst e
 refine Aat (RR:=fun acc C=>compPost (model X.prog X.w) X.A X.xe none (EP X pins σ Q) acc C) S hcalm hcl hcl2 (fun C=>hg cl C s2 H2 fp pins) (fun C=>ht cl C s2 H2 fp pins) (fun C=>he cl C s2 H2 fp pins) I2 T st2 f2 loop ?_
 intro D C s' H' acc IX hDn ⟨m,hm⟩ hCn hC fin
 refine ⟨m,hm,fun h' hsb=>?_⟩
 obtain ⟨c0,c1,c2,c3,c4,c5⟩:=hC
 exact ⟨.ref D,_,IX.turned (t':=s'.toks) (fun b o hb e=>hsb.2 b hb |>.trans e) c0 c1 c3 c4 c5,rfl,fin D hDn⟩
end
noncomputable def Ia(tt:Option FT):FT:=fun δ L=>match tt with
 | none=>some (true,L)
 | some f=>f δ L
noncomputable def Pz(it:IU)(g:FG)(tt:Option FT)(fe:FE):Nat->Nat->List U->UE->UH->Option (List U×UH)
 | 0,_,_,_,_=>none
 | m+1,k,acc,δ,L=>match it.at k L with
  | none=>none
  | some none=>some (acc,L)
  | some (some u)=>(g u δ L).bind fun p=>(Ia tt p.1 p.2).bind fun q=>if q.1=true then (fe p.1 q.2).bind fun r=>if decide (acc.length < sizeLine)=true then Pz it g tt fe m (k+1) (acc++[r.1]) p.1 r.2 else none
   else Pz it g tt fe m (k+1) acc p.1 q.2
noncomputable def Js(ix:List (Option Nat))(δ:UE):UE:=ix.map fun o=>o.bind fun i=>(δ[i]?).join
noncomputable def Eo(ix:List (Option Nat))(fi:FI)(g:FG)(tt:Option FT)(fe:FE):FE:=fun δ L=>(fi δ L).bind fun p=>(Pz p.1 g tt fe (p.1.size p.2+1) 0 [] (Js ix δ) p.2).map fun q=>(.ref q.2.length,q.2++[.lst q.1])
theorem RepS.inner{K:aD}{H:Hp}{α:List Addr}{δ:UE}{σ:L2.St}(S:RepS K H α δ σ)(ix:List (Option Nat)):RepS K H α (Js ix δ) (MR.inner ix σ):=by
 refine ⟨by simp[Js,MR.inner],fun j u e=>?_⟩
 unfold Js at e
 unfold MR.inner
 rw[cB] at e ⊢
 cases hx:ix[j]? with
 | none=>rw[hx] at e;simp at e
 | some o=>
  rw[hx] at e
  cases o with
  | none=>simp at e
  | some i=>
   simp at e
   have:δ[i]? = some (some u):=by
    cases q:δ[i]? with
    | none=>rw[q] at e;simp at e
    | some o=>rw[q] at e;simp at e;rw[e]
   obtain ⟨v,hv,r⟩:=S.at_ i u this
   exact ⟨v,by simp[hv],r⟩
noncomputable def lTo(K:aD)(tt:Option FT):TT:=match tt with
 | none=>Alr
 | some f=>lT K f
inductive CI(K:aD)(it:IU)(g:FG)(tt:Option FT)(fe:FE)(H1:Hp)(α1:List Addr)(ys:List U)(L2:UH)(k m:Nat)(acc:List V)(σ2:_root_.L2.St)(H2:Hp):Prop
 | mk (α2:List Addr) (δ2:UE) (M:UH) (us:List U) (g2:Gr H1 α1 H2 α2) (A2:Abs K H2 α2 M) (S2:RepS K H2 α2 δ2 σ2) (r2:RepL K H2 α2 us acc) (e:Pz it g tt fe m k us δ2 M=some (ys,L2)):CI K it g tt fe H1 α1 ys L2 k m acc σ2 H2
theorem Y1{K:aD}{ix:List (Option Nat)}{fi:FI}{g:FG}{tt:Option FT}{fe:FE}:∀ σ H Q,lE K (Eo ix fi g tt fe) σ H Q->Akt ix (lI K fi) (lG K g) (lTo K tt) (lE K fe) σ H Q:=by
 rintro σ H Q ⟨α,δ,L,A,S,z,L3,e,q⟩
 obtain ⟨⟨it,L1⟩,e1,e⟩:=aA.mp e
 obtain ⟨⟨ys,L2⟩,e2,e⟩:=aK.mp e
 cases e
 refine ⟨α,δ,L,A,S,it,L1,e1,fun J H1 α1 g1 A1 hJ=>?_⟩
 refine ⟨CI K it g tt fe H1 α1 ys L2,⟨_,α1,_,L1,[],.refl _ _,A1,(S.mono g1).inner ix,.nil,e2⟩,?_⟩
 rintro k m acc σ2 H2 ⟨α2,δ2,M,us,g2,A2,S2,r2,e3⟩
 cases m with
 | zero=>cases e3
 | succ m=>
  obtain ⟨hgo,hstop⟩:=hJ H2 α2 M g2 A2 k
  unfold Pz at e3
  cases hat:it.at k M with
  | none=>rw[hat] at e3;cases e3
  | some o=>
   cases o with
   | none=>
    rw[hat] at e3
    cases e3
    refine .inl ⟨hstop hat,fun p hp=>?_⟩
    obtain ⟨g3,A3,r3⟩:=A2.lst r2 hp
    exact q _ _ _ (g1.trans (g2.trans g3)) A3 r3
   | some u=>
    rw[hat] at e3
    obtain ⟨go,yld⟩:=hgo u hat
    obtain ⟨⟨δ3,L3⟩,e4,e3⟩:=aA.mp e3
    obtain ⟨⟨b,L4⟩,e5,e3⟩:=aA.mp e3
    refine .inr ⟨go,fun x H3 y3=>?_⟩
    obtain ⟨g3,A3,r3⟩:=yld x H3 y3
    refine ⟨α2,δ2,M,u,A3,S2.mono g3,r3,δ3,L3,e4,fun σ4 H4 α4 g4 A4 S4=>?_⟩
    have after:∀ H5 α5,Gr H4 α4 H5 α5->Abs K H5 α5 L4->(if b=true then lE K fe σ4 H5 (fun y H6=>acc.length < sizeLine/\∃ m',m' < m+1/\CI K it g tt fe H1 α1 ys L2 (k+1) m' (acc++[y]) σ4 H6) else ∃ m',m' < m+1/\CI K it g tt fe H1 α1 ys L2 (k+1) m' acc σ4 H5):=fun H5 α5 g5 A5=>by
     have gA:=g2.trans (g3.trans (g4.trans g5))
     have gB:=g3.trans (g4.trans g5)
     cases b with
     | false=>exact Vt ⟨m,eI _,α5,δ3,L4,us,gA,A5,S4.mono g5,r2.mono gB,e3⟩
     | true=>
      obtain ⟨⟨w,L5⟩,e6,e3⟩:=aA.mp e3
      simp only at e3
      split at e3
      ·rename_i hlt
       refine Wq ⟨α5,δ3,L4,A5,S4.mono g5,w,L5,e6,fun y H6 α6 g6 A6 r6=>?_⟩
       exact ⟨by rw[<- r2.length];exact of_decide_eq_true hlt,m,eI _,α6,δ3,L5,us++[w],gA.trans g6,A6,(S4.mono g5).mono g6,(r2.mono (gB.trans g6)).append (.cons r6 .nil),e3⟩
      ·cases e3
    cases tt with
    | none=>
     cases e5
     exact after H4 α4 (.refl _ _) A4
    | some f=>exact ⟨α4,δ3,L3,A4,S4,b,L4,e5,fun H5 α5 g5 A5=>after H5 α5 g5 A5⟩
section
variable {X:Cx}{scope:jX}{N':List Str}{ix:List (Option Nat)}{elt tg iter c:Expr}{pos:Pos}{fi:FI}{g:FG}{ft:FT}{fe:FE}
theorem Ka(S:CompSc X scope N' ix)(hcalm:X.calm=true)(hi:PIF X tg iter fi)(hg:∀ cl C s2 H2 fp pins,PGF (blk X scope cl C N' s2 H2 fp pins) tg g)(he:∀ cl C s2 H2 fp pins,PEF (blk X scope cl C N' s2 H2 fp pins) elt fe)
  (hs:∀ x,foldedSetIterable iter X.env x=pure x:=by intro _;rfl):PEF X (.ListComp elt [⟨tg,iter,[],0⟩] scope pos) (Eo ix fi g none fe):=
 PE.imp (Yh (g:=lG X.K g) (te:=lE X.K fe) (tt:=Alr) S hcalm hi hg (fun _ _ _ _ _ _=>Aa2) he hs) Y1
theorem K9(S:CompSc X scope N' ix)(hcalm:X.calm=true)(hi:PIF X tg iter fi)(hg:∀ cl C s2 H2 fp pins,PGF (blk X scope cl C N' s2 H2 fp pins) tg g)(ht:∀ cl C s2 H2 fp pins,PTF (blk X scope cl C N' s2 H2 fp pins) c ft)(he:∀ cl C s2 H2 fp pins,PEF (blk X scope cl C N' s2 H2 fp pins) elt fe)
  (hs:∀ x,foldedSetIterable iter X.env x=pure x:=by intro _;rfl):PEF X (.ListComp elt [⟨tg,iter,[c],0⟩] scope pos) (Eo ix fi g (some ft) fe):=
 PE.imp (Yh (g:=lG X.K g) (te:=lE X.K fe) (tt:=lT X.K ft) S hcalm hi hg (fun _ _ _ _ _ _=>Aan (ht _ _ _ _ _ _)) he hs) (Y1 (tt:=some ft))
end
section
variable {X:Cx}{pins:List (Addr×Obj)}{σ:L2.St}{H:Hp}{s:aG}{h':Heap}
theorem Inv.turnNew{ch:List Addr}{p:Addr}{o:HO}{t':Nat}(I:L2.Inv X pins σ H s)(hch:∀ b∈ch,Ig X pins H b)(k:∀ b o,b∉ch->s.heap.get? b=some o->h'.get? b=some o)(hp:s.heap.objs.size<=p)(new:ObjOk X.prog X.w (upd H p o) h' p o) :
  L2.Inv X pins σ (upd H p o) { s with heap:=h',toks:=t' }:=by
 have hn:H p=none:=I.hok.fresh hp
 have nch:∀ b u,H b=some u->b∉ch:=fun b u e hb=>by rw[(hch b hb).1] at e;cases e
 have st:=Stay.new hn o
 refine I.step (g':=s.gens) (d':=s.drawn) (ch:=ch) (fun b hb=>?_) (fun b o _ _ hc e _=>k b o hc e) (fun b o _ _ hc e _=>⟨o.slots,k b o hc e⟩) (fun b u hc e n=>?_) (fun b u hc e=>⟨u,k b u hc e⟩) st.1 st.2 (fun b ps e=>⟨#[],?_⟩) (fun m hm=>?_) (fun b u e=>?_) I.bare
 ·obtain ⟨_,f1,_,f3,f4,f5⟩:=hch b hb
  exact ⟨f3,f1,f4,f5⟩
 ·rw[Az (bY (bE (aW e) hp))];exact n
 ·rw[Az (Bj e hn),e];simp
 ·obtain ⟨o1,es,ep,ho,r⟩:=hm
  exact ⟨o1,es,ep,k _ o1 (fun z=>(hch _ z).2.1 rfl) ho,r⟩
 ·by_cases hb:b=p
  ·subst hb;rw[upd_same] at e;cases e;exact new
  ·rw[Az hb] at e
   refine (I.hok b u e).stay (fun c v hc q=>k c v ?_ q) (fun c q=>by rw[Az (Bj q hn)];exact q) fun c xs q=>by rw[Az (Bj q hn)];exact q
   rcases hc with z | z
   ·rw[z];exact nch b u e
   ·exact nch c _ z
end
theorem Abn(n l1 l2:Nat)(h1:l1 < n)(h2:l2 < n):pL (n+4) (n+2) (n+3) n (n+1) l1 l2:=by
 constructor <;> (intro q;exact absurd (show (_:Nat)=_ from q) (by omega))
section
variable {X:Cx}{elts:List Expr}{x1:Nat}{tpos:Pos}
theorem Aas:fX "enumerate" = some (.type "enumerate"):=by decide +kernel
theorem Ae4:fX "zip" = some (.type "zip"):=by decide +kernel
noncomputable def Anx(g:FA):FI:=fun δ L=>(g δ L).bind fun p=>match p.1 with
 | [.ref n]=>(Bi p.2 n).map fun _=>(.enm n,p.2)
 | _=>none
noncomputable def Aq5(g:FA):FI:=fun δ L=>(g δ L).bind fun p=>match p.1 with
 | [.ref n,.ref m]=>(Bi p.2 n).bind fun _=>(Bi p.2 m).map fun _=>(.zip2 n m,p.2)
 | _=>none
end
theorem Vals.rev{xs:List V}{us:List aC}(h:Vals xs us):Vals xs.reverse us.reverse:=by
 induction h with
 | nil=>exact .nil
 | cons h1 _ ih=>rw[eW,eW];exact ih.append (.cons h1 .nil)
theorem RepL.rev{K:aD}{H:Hp}{α:List Addr}:∀ {us:List U} {xs:List V},RepL K H α us xs->RepL K H α us.reverse xs.reverse
 | [],xs,r=>by unfold RepL at r;subst r;exact .nil
 | u::us,xs,r=>by
  unfold RepL at r
  obtain ⟨x,xr,rfl,r1,r2⟩:=r
  rw[eW,eW]
  exact (RepL.rev r2).append (.cons r1 .nil)
end MR
namespace HT
open PySem PySem.Spec PyProof.Rows
section
variable {prog:bQ}{w:cC}{A:cL}{E:aC->aG->Prop}{s:aG}
end
end HT
namespace MR
open PySem PySem.Spec PyProof.Rows L2
section
variable {X:Cx}{e st:Expr}{fa fs:FE}{p2 pos:Pos}
noncomputable def Aqe(f:FE):FE:=fun δ L=>(f δ L).bind fun p=>match p.1 with | .ref n=>(Bi p.2 n).map fun l=>(.ref p.2.length,p.2++[.lst l.reverse]) | .tup l=>some (.tup l.reverse,p.2) | _=>none
end
structure ClsF(K:aD)(C:Str)(Ca:Addr):Prop where
 ns:bU K bK C=some (some (.ref Ca))
 cl:Cls K Ca
theorem ClsF.eq{K:aD}{C:Str}{Ca Cb:Addr}(T:ClsF K C Ca)(h:bU K bK C=some (some (.ref Cb))):Cb=Ca:=by
 have:=T.ns.symm.trans h
 simpa using this.symm
noncomputable def Jx(C:Str)(u:U)(L:UH):Option (Nat×List (Str×U)):=match u with
 | .ref n=>match L[n]? with
  | some (.ins C' fs)=>if C'=C then some (n,fs) else none
  | _=>none
 | _=>none
theorem Od{C:Str}{u:U}{L:UH}{n:Nat}{fs:List (Str×U)}(h:Jx C u L=some (n,fs)):u = .ref n/\L[n]? = some (.ins C fs):=by
 unfold Jx at h
 split at h
 ·split at h
  ·rename_i e
   split at h
   ·rename_i hc
    cases h
    exact ⟨rfl,by rw[e,hc]⟩
   ·cases h
  ·cases h
 ·cases h
theorem Kw{K:aD}{H:Hp}{α:List Addr}{f:Str}:∀ {fs:List (Str×U)} {vs:List (Str×V)},fs.map (·.1)=vs.map (·.1)->RepL K H α (fs.map (·.2)) (vs.map (·.2))->(∀ u,fs.lookup f=some u->∃ v,vs.lookup f=some v/\RepU K H α u v)/\(fs.lookup f=none->vs.lookup f=none)
 | [],[],_,_=>⟨fun u h=>by simp at h,fun _=>rfl⟩
 | [],_::_,h,_=>by simp at h
 | _::_,[],h,_=>by simp at h
 | (g,u)::fs,(g',v)::vs,h,r=>by
  simp only[aL,jN] at h
  obtain ⟨h1,h2⟩:=h
  subst h1
  simp only[aL] at r
  unfold RepL at r
  obtain ⟨x,xr,e,r1,r2⟩:=r
  cases e
  obtain ⟨i1,i2⟩:=Kw (f:=f) h2 r2
  rw[cK,cK]
  cases hq:f == g with
  | true=>exact ⟨fun w hw=>by cases hw;exact ⟨v,rfl,r1⟩,fun hw=>by cases hw⟩
  | false=>exact ⟨i1,i2⟩
noncomputable def Ql(f:Str)(v:U):List (Str×U)->List (Str×U)
 | []=>[(f,v)]
 | (g,x)::r=>if g=f then (g,v)::r else (g,x)::Ql f v r
theorem X2{K:aD}{H:Hp}{α:List Addr}{f:Str}{u:U}{v:V}(ru:RepU K H α u v):∀ {fs:List (Str×U)} {vs:List (Str×V)},fs.map (·.1)=vs.map (·.1)->RepL K H α (fs.map (·.2)) (vs.map (·.2))->(Ql f u fs).map (·.1)=(putF f v vs).map (·.1)/\RepL K H α ((Ql f u fs).map (·.2)) ((putF f v vs).map (·.2))
 | [],[],_,_=>⟨rfl,.cons ru .nil⟩
 | [],_::_,h,_=>by simp at h
 | _::_,[],h,_=>by simp at h
 | (g,x)::fs,(g',y)::vs,h,r=>by
  simp only[aL,jN] at h
  obtain ⟨h1,h2⟩:=h
  subst h1
  simp only[aL] at r
  unfold RepL at r
  obtain ⟨z,zr,e,r1,r2⟩:=r
  cases e
  obtain ⟨i1,i2⟩:=X2 (f:=f) ru h2 r2
  unfold Ql putF
  by_cases hq:g=f
  ·simp only[hq,if_true,aL]
   exact ⟨by rw[h2],.cons ru r2⟩
  ·simp only[hq,if_false,aL]
   exact ⟨by rw[i1],.cons r1 i2⟩
section
variable {X:Cx}{o e value:Expr}{es:List Expr}{f m C x:Str}{p pos pos' apos:Pos}{Ca fa:Addr}{fd:bT}{ps:List Str}{k n:Nat}{F:FN}{fe fo fv:FE}{g:FA}
noncomputable def E6(C f:Str)(fe:FE):FE:=fun δ L=>(fe δ L).bind fun p=>(Jx C p.1 p.2).bind fun q=>(q.2.lookup f).map fun v=>(v,p.2)
theorem Ey(T:ClsF X.K C Ca)(hn:NoAttr X.K Ca f)(he:PEF X e fe)(hb:attributeBase e f X.env (eval e X.env)=eval e X.env:=by rfl):PEF X (.Attribute e f pos) (E6 C f fe):=by
 refine PE.imp (Amq he hb) ?_
 rintro σ H Q ⟨α,δ,L,A,S,z,L3,ee,q⟩
 obtain ⟨⟨u,L1⟩,e1,ee⟩:=aA.mp ee
 obtain ⟨⟨n,fs⟩,e2,ee⟩:=aA.mp ee
 obtain ⟨w,e3,ee⟩:=aK.mp ee
 cases ee
 obtain ⟨rfl,hL⟩:=Od e2
 refine ⟨α,δ,L,A,S,_,L1,e1,fun x H1 α1 g1 A1 r1=>?_⟩
 obtain ⟨a,ea,Cb,dx,vs,hns,ha,hk,rr⟩:=A1.addr hL
 obtain ⟨a',ea',rfl⟩:=r1.ref_of A1
 rw[ea] at ea';cases ea'
 have:=T.eq hns
 subst this
 obtain ⟨v,hv,rv⟩:=(Kw hk rr).1 _ e3
 exact ⟨a,Cb,dx,vs,v,rfl,ha,T.cl,hn,hv,q v H1 α1 g1 A1 rv⟩
noncomputable def Mg(C f:Str)(fo fv:FE):FS:=fun δ L=>(fv δ L).bind fun p=>(fo δ p.2).bind fun q=>(Jx C q.1 q.2).bind fun r=>if r.2.length < 1000 then some (.nx δ,q.2.set r.1 (.ins C (Ql f p.1 r.2))) else none
theorem Sn(T:ClsF X.K C Ca)(hn:NoAttr X.K Ca f)(ho:PEF X o fo)(hv:PEF X value fv)(hs:swapsWith value (some (.Attribute o f pos')) pos.line X.env=pure false:=by rfl):PSF X (.Assign [.Attribute o f pos'] value pos) (Mg C f fo fv):=by
 refine PS.imp (Alc ho hv hs) ?_
 rintro D σ H ⟨α,δ,L,A,S,fl,L',ee,q⟩
 obtain ⟨⟨u,L1⟩,e1,ee⟩:=aA.mp ee
 obtain ⟨⟨w,L2⟩,e2,ee⟩:=aA.mp ee
 obtain ⟨⟨n,fs⟩,e3,ee⟩:=aA.mp ee
 simp only at ee
 split at ee
 ·rename_i hlen
  cases ee
  obtain ⟨rfl,hL⟩:=Od e3
  refine ⟨α,δ,L,A,S,u,L1,e1,fun y H1 α1 g1 A1 r1=>⟨α1,δ,L1,A1,S.mono g1,_,L2,e2,fun x H2 α2 g2 A2 r2=>?_⟩⟩
  obtain ⟨a,ea,Cb,dx,vs,hns,ha,hk,rr⟩:=A2.addr hL
  obtain ⟨a',ea',rfl⟩:=r2.ref_of A2
  rw[ea] at ea';cases ea'
  have:=T.eq hns
  subst this
  have hl:vs.length < 1000:=by
   have:=congrArg mV hk
   rw[cH,cH] at this
   omega
  have g3:Gr H2 α2 (upd H2 a (.ins Cb dx (putF f y vs))) α2:=⟨⟨[],by simp⟩,.write ha (by exact trivial) _⟩
  obtain ⟨k1,k2⟩:=X2 (f:=f) ((r1.mono g2)) hk rr
  obtain ⟨A3,_⟩:=A2.put (o:=.ins Cb dx (putF f y vs)) (u:=.ins C (Ql f u fs)) ea hL rfl rfl ha (by exact trivial) ⟨Cb,dx,_,hns,upd_same,k1,k2.mono g3⟩
  exact ⟨a,Cb,dx,vs,rfl,ha,T.cl,hn,hl,q _ _ α2 ((g1.trans g2).trans g3) A3 (((S.mono g1).mono g2).mono g3)⟩
 ·cases ee
noncomputable def Au(C m:Str)(k:Nat)(F:FN)(fo:FE)(g:FA):FE:=fun δ L=>(fo δ L).bind fun p=>(Jx C p.1 p.2).bind fun r=>if r.2.lookup m=none then (g δ p.2).bind fun q=>if q.1.length+1=k then F (.ref r.1::q.1) q.2 else none else none
theorem O1{K:aD}{E:XK}(T:ClsF K C Ca):∀ σ H Q,lE K (Au C m n F fo g) σ H Q->Adz Ca m (spF K n F) [] E (lE K fo) (lA K g) σ H Q:=by
 rintro σ H Q ⟨α,δ,L,A,S,z,L3,ee,q⟩
 obtain ⟨⟨u,L1⟩,e1,ee⟩:=aA.mp ee
 obtain ⟨⟨j,fs⟩,e2,ee⟩:=aA.mp ee
 simp only at ee
 split at ee
 ·rename_i hno
  obtain ⟨⟨us,L2⟩,e3,ff⟩:=aA.mp ee
  simp only at ff
  split at ff
  ·rename_i hlen
   obtain ⟨rfl,hL⟩:=Od e2
   refine ⟨α,δ,L,A,S,_,L1,e1,fun x H1 α1 g1 A1 r1=>?_⟩
   obtain ⟨a,ea,Cb,dx,vs,hns,ha,hk,rr⟩:=A1.addr hL
   obtain ⟨a',ea',hx⟩:=r1.ref_of A1
   rw[ea] at ea';cases ea'
   have:=T.eq hns
   subst this
   refine ⟨a,dx,vs,hx,ha,(Kw hk rr).2 hno,α1,δ,L1,A1,S.mono g1,us,L2,e3,fun xs H2 α2 g2 A2 r2=>?_⟩
   refine ⟨α2,L2,.ref j::us,A2,?_,by simpa using hlen,z,L3,ff,fun v H3 α3 g3 A3 r3=>q v H3 α3 (g1.trans (g2.trans g3)) A3 r3⟩
   rw[aT]
   exact .cons (r1.mono g2) r2
  ·cases ff
 ·cases ee
theorem Gg{pl:Sem Bool}(T:ClsF X.K C Ca)(hm:Meth X.K Ca m fa)(hF:FnOk X.prog X.w X.K X.mg X.base CX0 k fa fd ps (spF X.K n F))(hr:Room k X.A)(hb:Binds X.K fd ps [])(ho:PEF X o fo)(ha:PAF X (e::es) g)
  (hst:bP (e::es) X.env=(false,eval e X.env)::bP es X.env:=by rfl) (hpl:(backTo pos (bP es X.env)).any (·.1)=false:=by rfl)
  (ht:eval (.Call (.Attribute o m apos) (e::es) [] pos) X.env=(do
   let ov <- eval o X.env
   standAt apos.atName
   let (f,first) <- holding [ov] (getMethod ov m pl)
   callWith pos f first (backTo pos (bP (e::es) X.env)) (backToKw pos (keywordEach [] X.env))):=by rfl) :
  PEF X (.Call (.Attribute o m apos) (e::es) [] pos) (Au C m n F fo g):=
 PE.imp (Ag4 (pl:=pl) ho T.cl hm hF hr hb .nil Nj ha hst hpl ht) (O1 T)
theorem K7{pl:Sem Bool}(T:ClsF X.K C Ca)(hm:Meth X.K Ca m fa)(hF:FnOk X.prog X.w X.K X.mg X.base CX0 k fa fd ps (spF X.K n F))(hr:Room k X.A)(hb:Binds X.K fd ps [])(ho:PEF X o fo)
  (ht:eval (.Call (.Attribute o m apos) [] [] pos) X.env=(do
   let ov <- eval o X.env
   standAt apos.atName
   let (f,first) <- holding [ov] (getMethod ov m pl)
   callWith pos f first (backTo pos (bP [] X.env)) (backToKw pos (keywordEach [] X.env))):=by rfl) :
  PEF X (.Call (.Attribute o m apos) [] [] pos) (Au C m n F fo Aj):=
 PE.imp (Ac8 (pl:=pl) ho T.cl hm hF hr hb .nil Nj ht) (fun σ H Q h=>by
  have h:=O1 (E:=E0) T σ H Q h
  obtain ⟨α,δ,L,A,S,u,L1,e1,h⟩:=h
  refine ⟨α,δ,L,A,S,u,L1,e1,fun x H1 α1 g1 A1 r1=>?_⟩
  obtain ⟨a,dx,vs,hx,ha,hl,α2,δ2,L2,A2,S2,us,L3,e3,h3⟩:=h x H1 α1 g1 A1 r1
  cases e3
  exact ⟨a,dx,vs,hx,ha,hl,h3 [] H1 α2 (.refl _ _) A2 .nil⟩)
noncomputable def Kq(C:Str)(k:Nat)(F:FN)(g:FA):FE:=fun δ L=>(g δ L).bind fun p=>if p.1.length+1=k then (F (.ref p.2.length::p.1) (p.2++[.ins C []])).bind fun q=>match q.1 with | .non=>some (.ref p.2.length,q.2) | _=>none else none
theorem U9{K:aD}{E:XK}(hns:bU K bK C=some (some (.ref Ca))):∀ σ H Q,lE K (Kq C n F g) σ H Q->Akf Ca (spF K n F) [] E (lA K g) σ H Q:=by
 rintro σ H Q ⟨α,δ,L,A,S,z,L3,ee,q⟩
 obtain ⟨⟨us,L1⟩,e1,ee⟩:=aA.mp ee
 simp only at ee
 split at ee
 ·rename_i hlen
  obtain ⟨⟨w,L2⟩,e2,ee⟩:=aA.mp ee
  cases w with
  | non=>
   cases ee
   refine ⟨α,δ,L,A,S,us,L1,e1,fun xs H1 α1 g1 A1 r1 x dx nx ndx nex=>?_⟩
   have ga:Gr H1 α1 (upd H1 dx (.own x)) α1:=⟨⟨[],by simp⟩,.new ndx _⟩
   have Aa:Abs K (upd H1 dx (.own x)) α1 L1:=⟨A1.len,A1.inj,fun i a o e1 e2=>(A1.rep i a o e1 e2).other ga (.inr fun u q=>by rw[Az (Bj q ndx)];exact q)⟩
   have nx':(upd H1 dx (.own x)) x=none:=by rw[Az (fY nex)];exact nx
   obtain ⟨Ab,gb⟩:=Aa.new (o:=.ins Ca dx []) (u:=.ins C []) nx' ⟨Ca,dx,[],hns,upd_same,rfl,.nil⟩
   have rx:RepU K (upd (upd H1 dx (.own x)) x (.ins Ca dx [])) (α1++[x]) (.ref L1.length) (.ref x):=by
    unfold RepU
    exact ⟨x,by rw[<- A1.len];simp,rfl⟩
   refine ⟨α1++[x],L1++[.ins C []],.ref L1.length::us,Ab,?_,by simpa using hlen,.non,L2,e2,fun v H3 α3 g3 A3 r3=>?_⟩
   ·rw[aT]
    exact .cons rx ((r1.mono ga).mono gb)
   ·have hv:v = .non:=by unfold RepU at r3;exact r3
    exact ⟨hv,q _ H3 α3 (g1.trans (ga.trans (gb.trans g3))) A3 (rx.mono g3)⟩
  | _=>cases ee
 ·cases ee
theorem Afb(hns:bU X.K bK C=some (some (.ref Ca)))(M:Mk X.K Ca fa)(hF:FnOk X.prog X.w X.K X.mg X.base CX0 k fa fd ps (spF X.K n F))(hr:Room (k+1) X.A)(hg:Gl X C)(hm:X.mg C=some (.ref Ca))(hb:Binds X.K fd ps [])
  (hdb:(C == ("__debug__" : Str))=false:=by decide):PEF X (.Call (.Name C p) [] [] pos) (Kq C n F Aj):=
 PE.imp (Aek M hF hr hg hm hb .nil Nj hdb) (fun σ H Q h=>by
  obtain ⟨α,δ,L,A,S,us,L1,e1,h⟩:=U9 (E:=E0) hns σ H Q h
  cases e1
  exact h [] H α (.refl _ _) A .nil)
end
end MR
namespace ZT
open PySem PySem.Spec PyProof.Rows
open Sem (wp)
noncomputable def SqK(b:Bool)(h:Heap)(l:Addr)(xs:Array aC):Prop:=match b with
 | true=>h.IsList l xs
 | false=>h.IsTuple l xs
noncomputable def ItK(b:Bool)(h:Heap)(jt l:Addr)(k:Nat):Prop:=match b with
 | true=>h.IsListIter jt l k
 | false=>h.IsTupleIter jt l k
theorem SqK.keep{b:Bool}{h h':Heap}{l:Addr}{xs:Array aC}(x:SqK b h l xs)(e:∀ o,h.get? l=some o->h'.get? l=some o):SqK b h' l xs:=by
 cases b with
 | true=>obtain ⟨o,ho,r⟩:=x;exact ⟨o,e _ ho,r⟩
 | false=>obtain ⟨o,ho,r⟩:=x;exact ⟨o,e _ ho,r⟩
theorem ItK.keep{b:Bool}{h h':Heap}{jt l:Addr}{k:Nat}(x:ItK b h jt l k)(e:∀ o,h.get? jt=some o->h'.get? jt=some o):ItK b h' jt l k:=by
 cases b with
 | true=>obtain ⟨o,ho,r⟩:=x;exact ⟨o,e _ ho,r⟩
 | false=>obtain ⟨o,ho,r⟩:=x;exact ⟨o,e _ ho,r⟩
theorem ItK.lt{b:Bool}{h:Heap}{jt l:Addr}{k:Nat}(x:ItK b h jt l k):jt < h.objs.size:=by
 cases b with
 | true=>obtain ⟨o,ho,r⟩:=x;exact aW ho
 | false=>obtain ⟨o,ho,r⟩:=x;exact aW ho
theorem ItK.obj{b:Bool}{h:Heap}{jt l:Addr}{k:Nat}(x:ItK b h jt l k):∃ o,h.get? jt=some o/\o.data = .fields #[.ref l,.int k 0]:=by
 cases b with
 | true=>obtain ⟨o,ho,_,r⟩:=x;exact ⟨o,ho,r⟩
 | false=>obtain ⟨o,ho,_,r⟩:=x;exact ⟨o,ho,r⟩
section
variable {prog:bQ}{w:cC}{A:cL}{E:aC->aG->Prop}{s:aG}
theorem Uz{jt t:Addr}{k:Nat}{its:Array aC}{v:aC}{Q:aC->aG->Prop}(hj:s.heap.IsTupleIter jt t k)(ht:s.heap.IsTuple t its)(hv:its[k]? = some v)
  (hQ:∀ h',h'.IsTupleIter jt t (k+1)->iE jt s.heap h'->Q v { s with heap:=h' }):wpAny (model prog w) A (cR (.ref jt)) Q E s:=by
 obtain ⟨ob,hob,hcl,hda⟩:=id hj
 obtain ⟨ot,hot,_,nt,hdt⟩:=ht
 unfold cR
 refine aB (dG (name:=eK "__next__") hj.typeIs gO (dM gO hj.typeIs lX ?_ (lM _)))
 show wpAny _ _ (field (.ref jt) 0 >>= _) _ _ s
 refine aB (fD hob hda (x:=.ref t) rfl ?_)
 show wpAny _ _ (if (cP t == eA)=true then _ else _) _ _ s
 rw[if_neg (show ¬ ((cP t == eA)=true) from (fun z=>fJ z))]
 show wpAny _ _ (field (.ref jt) 1 >>= _) _ _ s
 refine aB (fD hob hda (x:=.int k 0) rfl ?_)
 show wpAny _ _ (seqItems? (.ref t) >>= fun z=>_) _ _ s
 refine aB (eX hot hdt ?_)
 simp only[cO,hv]
 refine aB (wpAny_setField hob hda (by simp) (aJ ⟨v,rfl,aJ (hQ _ ?_ (dR ..))⟩))
 exact ⟨_,fH _ hob (Obj.isFreed_of_fields (qK hda _)),(Obj.cls_mapFields ..).trans hcl,by rw[qK hda];simp[rawInt]⟩
theorem Pu{jt t:Addr}{k:Nat}{its:Array aC}{Q:aC->aG->Prop}(hh:A.handled=none)(hj:s.heap.IsTupleIter jt t k)(ht:s.heap.IsTuple t its)(hv:its[k]? = none)
  (hE:∀ h' e,mX jt s.heap h'->(∃ ob,h'.get? e=some ob/\ob.cls = .type "StopIteration")->E (.ref e) { s with heap:=h' }):wpAny (model prog w) A (cR (.ref jt)) Q E s:=by
 obtain ⟨ob,hob,hcl,hda⟩:=id hj
 obtain ⟨ot,hot,_,nt,hdt⟩:=ht
 unfold cR
 refine aB (dG (name:=eK "__next__") hj.typeIs gO (dM gO hj.typeIs lX ?_ (lM _)))
 show wpAny _ _ (field (.ref jt) 0 >>= _) _ _ s
 refine aB (fD hob hda (x:=.ref t) rfl ?_)
 show wpAny _ _ (if (cP t == eA)=true then _ else _) _ _ s
 rw[if_neg (show ¬ ((cP t == eA)=true) from (fun z=>fJ z))]
 show wpAny _ _ (field (.ref jt) 1 >>= _) _ _ s
 refine aB (fD hob hda (x:=.int k 0) rfl ?_)
 show wpAny _ _ (seqItems? (.ref t) >>= fun z=>_) _ _ s
 refine aB (eX hot hdt ?_)
 simp only[cO,hv]
 refine aB (eY (aB (wpAny_setField hob hda (by simp) ?_)))
 show wpAny _ _ (newExc (.type "StopIteration") [] >>= fun z=>_) _ _ _
 refine aB ?_
 simp only[newExc,newTuple];refine aB (dB ?_ (by size_fits))
 refine aB (m:=firstArgMember _ _) (gH (a:=eA) (by first | rfl | (simp only[firstArgMember];rfl)) (dB ?_ (by size_fits)))
 simp only[raiseNew];refine aB (qE ?_)
 first | rw[show A.in1.handled=none from hh] | (rw[hh])
 exact aB (aJ (sI (hE _ _ (((dR ..).extBut.push _).push _) ⟨_,aP _ rfl,rfl⟩)))
theorem Wd{b:Bool}{jt l:Addr}{k:Nat}{its:Array aC}{v:aC}{Q:aC->aG->Prop}(hj:ItK b s.heap jt l k)(hl:SqK b s.heap l its)(hv:its[k]? = some v)
  (hQ:∀ h',ItK b h' jt l (k+1)->iE jt s.heap h'->Q v { s with heap:=h' }):wpAny (model prog w) A (cR (.ref jt)) Q E s:=by
 cases b with
 | true=>exact wpAny_nextOf_list_item hj hl hv hQ
 | false=>exact Uz hj hl hv hQ
theorem Ac0{b:Bool}{jt l:Addr}{k:Nat}{its:Array aC}{Q:aC->aG->Prop}(hh:A.handled=none)(hj:ItK b s.heap jt l k)(hl:SqK b s.heap l its)(hv:its[k]? = none)
  (hE:∀ h' e,mX jt s.heap h'->(∃ ob,h'.get? e=some ob/\ob.cls = .type "StopIteration")->E (.ref e) { s with heap:=h' }):wpAny (model prog w) A (cR (.ref jt)) Q E s:=by
 cases b with
 | true=>exact wpAny_nextOf_list_end hh hj hl hv hE
 | false=>exact Pu hh hj hl hv hE
theorem SqK.but{b:Bool}{h h':Heap}{l c:Addr}{xs:Array aC}(x:SqK b h l xs)(e:mX c h h')(hne:l≠c):SqK b h' l xs:=x.keep fun o q=>e l o hne q
theorem ItK.but{b:Bool}{h h':Heap}{jt l c:Addr}{k:Nat}(x:ItK b h jt l k)(e:mX c h h')(hne:jt≠c):ItK b h' jt l k:=x.keep fun o q=>e jt o hne q
variable {b1 b2:Bool}{z TI TO j1 j2 l1 l2:Addr}{k1 k2:Nat}{xs ys:Array aC}{a b:aC}
theorem Ag2{x y:aC}{Q:aC->aG->Prop}(D:pL z TI TO j1 j2 l1 l2)(hz:mG s.heap z TI TO .none)(hI:gQ s.heap TI (.ref j1) (.ref j2))(hO:gQ s.heap TO a b)
  (h1:ItK b1 s.heap j1 l1 k1) (h2:ItK b2 s.heap j2 l2 k2) (g1:SqK b1 s.heap l1 xs) (g2:SqK b2 s.heap l2 ys) (hx:xs[k1]? = some x) (hy:ys[k2]? = some y)
  (hQ:∀ h',mG h' z TI TO (rawInt s.heap.objs.size)->gQ h' TO x y->ItK b1 h' j1 l1 (k1+1)->ItK b2 h' j2 l2 (k2+1)->gQ h' s.heap.objs.size x y->h'.objs.size=s.heap.objs.size+1 ->
   (∀ c o,c≠z->c≠TO->c≠j1->c≠j2->s.heap.get? c=some o->h'.get? c=some o)->Q (.ref s.heap.objs.size) { s with heap:=h' }) :
  wpAny (model prog w) A (gD.«zip.__next__» ⟨[.ref z],[]⟩) (fun fin s'=>∃ v,fin = .done (.ret v)/\Q v s') E s:=by
 show wpAny _ _ (field (.ref z) 2 >>= fun q=>_) _ _ _
 refine aB (fD hz rfl (x:=.bool false) rfl ?_);show wpAny _ _ (field (.ref z) 3 >>= _) _ _ _
 refine aB (fD hz rfl (x:=.ref TI) rfl (aB (eX hI rfl ?_)))
 show wpAny _ _ (eN (.ref z) >>= fun q=>_) _ _ _
 refine aB ?_;unfold eN
 refine aB (fD hz rfl (x:=.none) rfl (aJ ?_));simp only[if_true]
 refine aB (eY (aB (fD hz rfl (x:=.ref TO) rfl (aB (dE hz (by simp) fun p1 z1 s1=>?_)))))
 replace z1:mG p1 z TI TO .ellipsis:=z1
 refine aB ?_;simp only[nU,sN,lL,tI]
 refine aB (aB (nL ?_));show wpAny _ _ (cR (.ref j1) >>= _) _ _ _
 refine aB (Wd (h1.but s1.extBut D.i1z) (g1.but s1.extBut D.l1z) hx fun p2 i2 s2=>aJ ?_)
 have O2:gQ p2 TO a b:=s2.extBut _ _ D.TOi1 (s1.extBut _ _ D.TOz hO)
 refine aB (eX O2 rfl (aB (kX O2 fun p3 O3 s3=>?_)))
 replace O3:gQ p3 TO x b:=O3
 refine aB (pM (aJ ?_));refine aB (aB (nL ?_))
 show wpAny _ _ (cR (.ref j2) >>= fun q=>_) _ _ _
 refine aB (Wd (((h2.but s1.extBut D.i2z).but s2.extBut D.i12.symm).but s3.extBut D.TOi2.symm) (((g2.but s1.extBut D.l2z).but s2.extBut D.l2i1).but s3.extBut D.l2TO) hy fun p4 i4 s4=>aJ ?_)
 have O4:gQ p4 TO x b:=s4.extBut _ _ D.TOi2 O3
 refine aB (eX O4 rfl (aB (kX O4 fun p5 O5 s5=>?_)))
 replace O5:gQ p5 TO x y:=O5
 refine aB (pM (aJ (aJ ?_)));refine aB (eX O5 rfl (aB (mH ?_)))
 have hsz:p5.objs.size=s.heap.objs.size:=by rw[s5.1,s4.1,s3.1,s2.1,s1.1]
 have z5:mG p5 z TI TO .ellipsis:=s5.extBut _ _ D.TOz.symm (s4.extBut _ _ D.i2z.symm (s3.extBut _ _ D.TOz.symm (s2.extBut _ _ D.i1z.symm z1)))
 have k5:∀ c o,c≠z->c≠TO->c≠j1->c≠j2->s.heap.get? c=some o->p5.get? c=some o:=fun c o c1 c2 c3 c4 e=>s5.extBut _ _ c2 (s4.extBut _ _ c4 (s3.extBut _ _ c2 (s2.extBut _ _ c3 (s1.extBut _ _ c1 e))))
 have i15:ItK b1 p5 j1 l1 (k1+1):=((i2.but s3.extBut D.TOi1.symm).but s4.extBut D.i12).but s5.extBut D.TOi1.symm
 have i25:ItK b2 p5 j2 l2 (k2+1):=i4.but s5.extBut D.TOi2.symm
 have zlt:z < p5.objs.size:=aW z5
 show wpAny _ _ (jE (.ref z) (.ref p5.objs.size) >>= fun q=>_) _ _ _
 refine aB ?_;unfold jE
 have z6:mG (p5.push { cls:=.type "tuple",data:=.seq #[x,y] }) z TI TO .ellipsis:=aF _ z5
 refine aB (dE z6 (by simp) fun p7 z7 s7=>?_)
 replace z7:mG p7 z TI TO (rawInt p5.objs.size):=z7
 refine dE z7 (by simp) fun p8 z8 s8=>?_
 replace z8:mG p8 z TI TO (rawInt p5.objs.size):=z8
 have up:∀ c o,c≠z->p5.get? c=some o->p8.get? c=some o:=fun c o c1 e=>s8.extBut _ _ c1 (s7.extBut _ _ c1 (aF _ e))
 have t8:gQ p8 p5.objs.size x y:=s8.extBut _ _ (fZ zlt) (s7.extBut _ _ (fZ zlt) (aP _ rfl))
 have e8:p8.objs.size=p5.objs.size+1:=by rw[s8.1,s7.1,dC]
 rw[hsz] at z8 t8 e8
 refine aJ ⟨_,rfl,?_⟩
 show Q (.ref p5.objs.size) _
 rw[hsz]
 exact hQ p8 z8 (up _ _ D.TOz O5) (i15.keep fun o e=>up _ o D.i1z e) (i25.keep fun o e=>up _ o D.i2z e) t8 e8 fun c o c1 c2 c3 c4 e=>up c o c1 (k5 c o c1 c2 c3 c4 e)
theorem Am6{Q:Fin->aG->Prop}(hh:A.handled=none)(D:pL z TI TO j1 j2 l1 l2)(hz:mG s.heap z TI TO .none)(hI:gQ s.heap TI (.ref j1) (.ref j2))(hO:gQ s.heap TO a b)
  (h1:ItK b1 s.heap j1 l1 k1) (h2:ItK b2 s.heap j2 l2 k2) (g1:SqK b1 s.heap l1 xs) (g2:SqK b2 s.heap l2 ys) (hend:xs[k1]? = none\/ys[k2]? = none)
  (hE:∀ h' e,(∀ c o,c≠z->c≠TO->c≠j1->c≠j2->s.heap.get? c=some o->h'.get? c=some o)->(∃ ob,h'.get? e=some ob/\ob.cls = .type "StopIteration")->E (.ref e) { s with heap:=h' }) :
  wpAny (model prog w) A (gD.«zip.__next__» ⟨[.ref z],[]⟩) Q E s:=by
 show wpAny _ _ (field (.ref z) 2 >>= fun q=>_) _ _ _
 refine aB (fD hz rfl (x:=.bool false) rfl ?_);show wpAny _ _ (field (.ref z) 3 >>= _) _ _ _
 refine aB (fD hz rfl (x:=.ref TI) rfl (aB (eX hI rfl ?_)))
 show wpAny _ _ (eN (.ref z) >>= fun q=>_) _ _ _
 refine aB ?_;unfold eN
 refine aB (fD hz rfl (x:=.none) rfl (aJ ?_));simp only[if_true]
 refine aB (eY (aB (fD hz rfl (x:=.ref TO) rfl (aB (dE hz (by simp) fun p1 z1 s1=>?_)))))
 replace z1:mG p1 z TI TO .ellipsis:=z1
 refine aB ?_;simp only[nU,sN,lL,tI]
 refine aB (aB (nL ?_));show wpAny _ _ (cR (.ref j1) >>= _) _ _ _
 cases hx:xs[k1]? with
 | none=>
  refine aB (Ac0 hh (h1.but s1.extBut D.i1z) (g1.but s1.extBut D.l1z) hx fun p2 e s2 he=>?_)
  obtain ⟨oe,hoe,hce⟩:=he
  have z2:mG p2 z TI TO .ellipsis:=s2 _ _ D.i1z.symm z1
  have hez:e≠z:=fun q=>by subst q;rw[z2] at hoe;cases hoe;simp at hce
  refine dE z2 (by simp) fun p3 _ s3=>hE p3 e (fun c o c1 _ c3 _ q=>s3.extBut _ _ c1 (s2 _ _ c3 (s1.extBut _ _ c1 q))) ⟨oe,s3.extBut _ _ hez hoe,hce⟩
 | some x=>
  have hy:ys[k2]? = none:=by rcases hend with h | h;(rw[hx] at h;cases h);exact h
  refine aB (Wd (h1.but s1.extBut D.i1z) (g1.but s1.extBut D.l1z) hx fun p2 i2 s2=>aJ ?_)
  have O2:gQ p2 TO a b:=s2.extBut _ _ D.TOi1 (s1.extBut _ _ D.TOz hO)
  refine aB (eX O2 rfl (aB (kX O2 fun p3 O3 s3=>?_)))
  refine aB (pM (aJ ?_));refine aB (aB (nL ?_))
  show wpAny _ _ (cR (.ref j2) >>= fun q=>_) _ _ _
  refine aB (Ac0 hh (((h2.but s1.extBut D.i2z).but s2.extBut D.i12.symm).but s3.extBut D.TOi2.symm) (((g2.but s1.extBut D.l2z).but s2.extBut D.l2i1).but s3.extBut D.l2TO) hy fun p4 e s4 he=>?_)
  obtain ⟨oe,hoe,hce⟩:=he
  have z4:mG p4 z TI TO .ellipsis:=s4 _ _ D.i2z.symm (s3.extBut _ _ D.TOz.symm (s2.extBut _ _ D.i1z.symm z1))
  have hez:e≠z:=fun q=>by subst q;rw[z4] at hoe;cases hoe;simp at hce
  refine dE z4 (by simp) fun p5 _ s5=>hE p5 e (fun c o c1 c2 c3 c4 q=>s5.extBut _ _ c1 (s4 _ _ c4 (s3.extBut _ _ c2 (s2.extBut _ _ c3 (s1.extBut _ _ c1 q))))) ⟨oe,s5.extBut _ _ hez hoe,hce⟩
theorem Ahq{x y:aC}{Q:Option aC->aG->Prop}(D:pL z TI TO j1 j2 l1 l2)(hz:mG s.heap z TI TO .none)(hI:gQ s.heap TI (.ref j1) (.ref j2))(hO:gQ s.heap TO a b)
  (h1:ItK b1 s.heap j1 l1 k1) (h2:ItK b2 s.heap j2 l2 k2) (g1:SqK b1 s.heap l1 xs) (g2:SqK b2 s.heap l2 ys) (hx:xs[k1]? = some x) (hy:ys[k2]? = some y)
  (hQ:∀ h',mG h' z TI TO (rawInt s.heap.objs.size)->gQ h' TO x y->ItK b1 h' j1 l1 (k1+1)->ItK b2 h' j2 l2 (k2+1)->gQ h' s.heap.objs.size x y->h'.objs.size=s.heap.objs.size+1 ->
   (∀ c o,c≠z->c≠TO->c≠j1->c≠j2->s.heap.get? c=some o->h'.get? c=some o)->Q (some (.ref s.heap.objs.size)) { s with heap:=h' }) :
  wpAny (model prog w) A (pyNext (.ref z)) Q E s:=by
 have ty:s.TypeIs (.ref z) "zip" := ⟨_,hz,rfl⟩
 unfold pyNext
 exact aB (gI (dG (name:=eK "__next__") ty lN (dM lN ty rY (Ag2 D hz hI hO h1 h2 g1 g2 hx hy fun h' q1 q2 q3 q4 q5 q6 q7=>aJ (hQ h' q1 q2 q3 q4 q5 q6 q7)) (rA _))))
theorem Amp{Q:Option aC->aG->Prop}(hh:A.handled=none)(D:pL z TI TO j1 j2 l1 l2)(hz:mG s.heap z TI TO .none)(hI:gQ s.heap TI (.ref j1) (.ref j2))(hO:gQ s.heap TO a b)
  (h1:ItK b1 s.heap j1 l1 k1) (h2:ItK b2 s.heap j2 l2 k2) (g1:SqK b1 s.heap l1 xs) (g2:SqK b2 s.heap l2 ys) (hend:xs[k1]? = none\/ys[k2]? = none)
  (hQ:∀ h',(∀ c o,c≠z->c≠TO->c≠j1->c≠j2->s.heap.get? c=some o->h'.get? c=some o)->Q none { s with heap:=h' }):wpAny (model prog w) A (pyNext (.ref z)) Q E s:=by
 have ty:s.TypeIs (.ref z) "zip" := ⟨_,hz,rfl⟩
 unfold pyNext
 refine aB (gI (dG (name:=eK "__next__") ty lN (dM lN ty rY (Am6 hh D hz hI hO h1 h2 g1 g2 hend fun h' e hk he=>?_) (rA _))))
 obtain ⟨ob,hob,hcl⟩:=he
 exact aB (jA (T := "StopIteration") (b:=true) ⟨ob,hob,hcl⟩ mJ (aJ (hQ _ hk)))
end
abbrev zh1(c1:String)(h:Heap)(l1:Addr):Heap:=h.push { cls:=.type c1,data:=.fields #[.ref l1,.int 0 0] }
abbrev zh2(c1 c2:String)(h:Heap)(l1 l2:Addr):Heap:=(zh1 c1 h l1).push { cls:=.type c2,data:=.fields #[.ref l2,.int 0 0] }
abbrev zh3(c1 c2:String)(h:Heap)(l1 l2:Addr):Heap:=(zh2 c1 c2 h l1 l2).push { cls:=.type "tuple",data:=.seq #[.ref h.objs.size,.ref (zh1 c1 h l1).objs.size] }
abbrev zh4(c1 c2:String)(h:Heap)(l1 l2:Addr):Heap:=(zh3 c1 c2 h l1 l2).push { cls:=.type "tuple",data:=.seq #[.none,.none] }
abbrev zh5(c1 c2:String)(h:Heap)(l1 l2:Addr):Heap:=(zh4 c1 c2 h l1 l2).push { cls:=.type "zip",data:=.fields #[.none,.bool false,.bool false,.ref (zh2 c1 c2 h l1 l2).objs.size,.ref (zh3 c1 c2 h l1 l2).objs.size] }
theorem Ams (l1 l2 : Addr) (xs ys : Array aC) : Meets (gD.«zip.__new__» ⟨[.type "zip", .ref l1, .ref l2], []⟩) (fun _ R s => s.heap.IsTuple l1 xs /\ s.heap.IsTuple l2 ys /\
   R (.ok (.ret (.ref (zh4 "tuple_iterator" "tuple_iterator" s.heap l1 l2).objs.size))) { s with heap:=zh5 "tuple_iterator" "tuple_iterator" s.heap l1 l2 }):=
 .of_wp fun prog w A R s h=>by
  obtain ⟨hp,g,d,tk,os⟩:=s
  obtain ⟨t1,t2,h⟩:=h
  have hsub:=sub_zip
  have T1:rB (sJ ⟨hp,g,d,tk,os⟩) l1 xs:=t1
  have T2:rB (sJ ⟨hp.push { cls:=.type "tuple_iterator",data:=.fields #[.ref l1,.int 0 0] },g,d,tk,os⟩) l2 ys:=rB.push t2 _
  wp_walk using eP T1,eP T2
  exact ⟨_,rfl,h⟩
section
variable {prog:bQ}{w:cC}{A:cL}{E:aC->aG->Prop}{s:aG}
theorem Af6{l1 l2:Addr}{xs ys:Array aC}{Q:aC->aG->Prop}(t1:s.heap.IsTuple l1 xs)(t2:s.heap.IsTuple l2 ys)
  (h:∀ h',mG h' (s.heap.objs.size+4) (s.heap.objs.size+2) (s.heap.objs.size+3) .none->gQ h' (s.heap.objs.size+2) (.ref s.heap.objs.size) (.ref (s.heap.objs.size+1)) ->
   gQ h' (s.heap.objs.size+3) .none .none->ItK false h' s.heap.objs.size l1 0->ItK false h' (s.heap.objs.size+1) l2 0->(∀ c o,s.heap.get? c=some o->h'.get? c=some o)->Q (.ref (s.heap.objs.size+4)) { s with heap:=h' }) :
  wpAny (model prog w) A (call (.type "zip") [.ref l1,.ref l2]) Q E s:=by
 refine callType_new F.called_zip (by decide) (F.typeCall_zip_2 _ _) (F.newCall_zip_2 _ _) (fun obj=>F.args_object_init_3 obj _ _) F.entry_zip_new (Ams l1 l2 xs ys) ⟨t1,t2,?_⟩
 have z1:(zh1 "tuple_iterator" s.heap l1).objs.size=s.heap.objs.size+1:=dC ..
 have z2:(zh2 "tuple_iterator" "tuple_iterator" s.heap l1 l2).objs.size=s.heap.objs.size+2:=by rw[dC,z1]
 have z3:(zh3 "tuple_iterator" "tuple_iterator" s.heap l1 l2).objs.size=s.heap.objs.size+3:=by rw[dC,z2]
 have z4:(zh4 "tuple_iterator" "tuple_iterator" s.heap l1 l2).objs.size=s.heap.objs.size+4:=by rw[dC,z3]
 have q5:(zh5 "tuple_iterator" "tuple_iterator" s.heap l1 l2).get? (zh4 "tuple_iterator" "tuple_iterator" s.heap l1 l2).objs.size=some _:=aP _ rfl
 have q4:(zh5 "tuple_iterator" "tuple_iterator" s.heap l1 l2).get? (zh3 "tuple_iterator" "tuple_iterator" s.heap l1 l2).objs.size=some _:=aF _ (aP _ rfl)
 have q3:(zh5 "tuple_iterator" "tuple_iterator" s.heap l1 l2).get? (zh2 "tuple_iterator" "tuple_iterator" s.heap l1 l2).objs.size=some _:=aF _ (aF _ (aP _ rfl))
 have q2:(zh5 "tuple_iterator" "tuple_iterator" s.heap l1 l2).get? (zh1 "tuple_iterator" s.heap l1).objs.size=some _:=aF _ (aF _ (aF _ (aP _ rfl)))
 have q1:(zh5 "tuple_iterator" "tuple_iterator" s.heap l1 l2).get? s.heap.objs.size=some _:=aF _ (aF _ (aF _ (aF _ (aP _ rfl))))
 show _/\_
 rw[z2,z3,z4] at q5;rw[z1,z2] at q3;rw[z3] at q4
 rw[z1] at q2;rw[z4]
 exact ⟨⟨_,q5,rfl⟩,h _ q5 q3 q4 ⟨_,q1,rfl,rfl⟩ ⟨_,q2,rfl,rfl⟩ fun c o q=>aF _ (aF _ (aF _ (aF _ (aF _ q))))⟩
end
end ZT
namespace MR
open PySem PySem.Spec PyProof.Rows L2
noncomputable def SK(bb:Bool)(K:aD)(H:Hp)(a:Addr)(xs:List V):Prop:=match bb with
 | true=>SqL K H a xs
 | false=>SqT K H a xs
theorem SK.at{X:Cx}{pins:List (Addr×Obj)}{σ:L2.St}{H:Hp}{s:aG}{bb:Bool}{a:Addr}{xs:List V}(I:L2.Inv X pins σ H s)(h:SK bb X.K H a xs):∃ its:List aC,Vals xs its/\ZT.SqK bb s.heap a its.toArray/\xs.length<=sizeLine:=by
 cases bb with
 | true=>obtain ⟨its,r,p,z⟩:=I.list h;exact ⟨its,r,p.isList,z⟩
 | false=>obtain ⟨its,r,p,z⟩:=I.tuple h;exact ⟨its,r,p,z⟩
theorem SK.inj{X:Cx}{pins:List (Addr×Obj)}{σ:L2.St}{H:Hp}{s:aG}{bb:Bool}{a:Addr}{xs ys:List V}(I:L2.Inv X pins σ H s)(h:SK bb X.K H a xs)(h':SK bb X.K H a ys):xs=ys:=by
 cases bb with
 | true=>exact I.list_inj h h'
 | false=>exact I.tuple_inj h h'
noncomputable def Amt(b1 b2:Bool)(K:aD)(a b:Addr):It:=
 ⟨fun i H=>∃ xs ys x y,SK b1 K H a xs/\SK b2 K H b ys/\xs[i]? = some x/\ys[i]? = some y,fun i H z H'=>∃ p x y,H p=none/\z = .ref p/\H'=upd H p (.tup [x,y])/\(∀ xs,SK b1 K H a xs->xs[i]? = some x)/\∀ ys,SK b2 K H b ys->ys[i]? = some y,
  fun i H=>∃ xs ys,SK b1 K H a xs/\SK b2 K H b ys/\(xs.length<=i\/ys.length<=i)⟩
theorem Abk{b1 b2:Bool}{P:bQ}{w:cC}{K:aD}{elts:List Expr}{x1}{pos:Pos}(a b z TI TO i1 i2:Addr)(D:pL z TI TO i1 i2 a b):Turn P w K (.Tuple elts x1 pos) (Amt b1 b2 K a b) [z,TI,TO,i1,i2] z
  (fun i h=>mG h z TI TO .none/\gQ h TI (.ref i1) (.ref i2)/\(∃ u v,gQ h TO u v)/\ZT.ItK b1 h i1 a i/\ZT.ItK b2 h i2 b i) where
 mem:=by simp
 obj:=fun i h st c hb=>by
  obtain ⟨h1,h2,⟨u,v,h3⟩,h4',h5'⟩:=st
  obtain ⟨o4,h4,d4⟩:=h4'.obj
  obtain ⟨o5,h5,d5⟩:=h5'.obj
  simp only[cI,gL,or_false] at hb
  rcases hb with rfl | rfl | rfl | rfl | rfl
  ·exact ⟨_,h1,fun v z=>by simp at z⟩
  ·exact ⟨_,h2,fun v z=>by simp at z⟩
  ·exact ⟨_,h3,fun v z=>by simp at z⟩
  ·exact ⟨_,h4,fun v z=>by rw[d4] at z;cases z⟩
  ·exact ⟨_,h5,fun v z=>by rw[d5] at z;cases z⟩
 keep:=fun i h h' st k=>by
  obtain ⟨h1,h2,⟨u,v,h3⟩,h4,h5⟩:=st
  exact ⟨k z (by simp) _ h1,k TI (by simp) _ h2,⟨u,v,k TO (by simp) _ h3⟩,h4.keep (k i1 (by simp)),h5.keep (k i2 (by simp))⟩
 item:=by
  intro X hP hw hK hc i pins s σ H E I hf st hg
  subst hP hw hK
  obtain ⟨h1,h2,⟨u0,v0,h3⟩,h4,h5⟩:=st
  obtain ⟨xs,ys,x,y,sq1,sq2,hx,hy⟩:=hg
  obtain ⟨its1,hv1,pl1,hz1⟩:=SK.at I sq1
  obtain ⟨its2,hv2,pl2,hz2⟩:=SK.at I sq2
  obtain ⟨u,hu,r⟩:=hv1.get hx
  obtain ⟨u',hu',r'⟩:=hv2.get hy
  refine ZT.Ahq D h1 h2 h3 h4 h5 pl1 pl2 (by simpa using hu) (by simpa using hu') fun h' o1 o2 o3 o4 o5 o6 o7=>?_
  refine ⟨_,rfl,?_⟩
  have hfr:H s.heap.objs.size=none:=I.hok.fresh (aN _)
  have I1:L2.Inv X pins σ (upd H s.heap.objs.size (.tup [x,y])) { s with heap:=h',toks:=s.toks }:=
   Inv.turnNew (ch:=[z,TI,TO,i1,i2]) I hf (fun c o hb q=>o7 c o (fun z=>hb (by simp[z])) (fun z=>hb (by simp[z])) (fun z=>hb (by simp[z])) (fun z=>hb (by simp[z])) q) (aN _)
    (show ObjOk X.prog X.w _ h' _ (.tup [x,y]) from ⟨by show 2<=sizeLine;decide,[u,u'],.cons r (.cons r' .nil),⟨_,o5,rfl,_,rfl⟩⟩)
  refine wpAny_letOwnedTupleGo_zip o1 fun h9 e2 sb2=>?_
  have hlt:∀ c∈[z,TI,TO,i1,i2],c < s.heap.objs.size:=fun c hb=>by
   simp only[cI,gL,or_false] at hb
   rcases hb with rfl | rfl | rfl | rfl | rfl
   ·exact aW h1
   ·exact aW h2
   ·exact aW h3
   ·exact h4.lt
   ·exact h5.lt
  have hnone:∀ c∈[z,TI,TO,i1,i2],(upd H s.heap.objs.size (.tup [x,y])) c=none:=fun c hb=>by rw[Az (bY (hlt c hb))];exact (hf c hb).1
  obtain ⟨f0,f1,f2,f3,f4,f5⟩:=hf z (by simp)
  have I2:=I1.turned (t':=s.toks) (h':=h9) (it:=z) (fun c o hb q=>sb2.2 c hb |>.trans q) (hnone z (by simp)) f1 f3 f4 f5
  have hTI:gQ h' TI (.ref i1) (.ref i2):=o7 TI _ D.TIz D.TITO D.TIi1 D.TIi2 h2
  refine ⟨.ref s.heap.objs.size,_,I2,rfl,⟨_,x,y,hfr,rfl,rfl,fun ys sq'=>?_,fun ys sq'=>?_⟩,⟨e2,(sb2.2 TI D.TIz).trans hTI,⟨_,_,(sb2.2 TO D.TOz).trans o2⟩,o3.keep (fun o q=>(sb2.2 i1 D.i1z).trans q),o4.keep (fun o q=>(sb2.2 i2 D.i2z).trans q)⟩,hnone⟩
  ·rw[SK.inj I sq' sq1];exact hx
  ·rw[SK.inj I sq' sq2];exact hy
 done:=by
  intro X hP hw hK hc i pins s σ H E I hf st hg
  subst hP hw hK
  obtain ⟨h1,h2,⟨u0,v0,h3⟩,h4,h5⟩:=st
  obtain ⟨xs,ys,sq1,sq2,hx⟩:=hg
  obtain ⟨its1,hv1,pl1,hz1⟩:=SK.at I sq1
  obtain ⟨its2,hv2,pl2,hz2⟩:=SK.at I sq2
  have hl1:=hv1.length
  have hl2:=hv2.length
  refine ZT.Amp (I.ok.hd hc) D h1 h2 h3 h4 h5 pl1 pl2 (by simp;omega) fun h' k=>⟨rfl,?_⟩
  have nch:∀ b u,H b=some u->b∉[z,TI,TO,i1,i2]:=fun b u e hb=>by rw[(hf b hb).1] at e;cases e
  have k':∀ b o,b∉[z,TI,TO,i1,i2]->s.heap.get? b=some o->h'.get? b=some o:=fun c o hb q=>k c o (fun z=>hb (by simp[z])) (fun z=>hb (by simp[z])) (fun z=>hb (by simp[z])) (fun z=>hb (by simp[z])) q
  refine I.step (g':=s.gens) (d':=s.drawn) (t':=s.toks) (ch:=[z,TI,TO,i1,i2]) (fun b hb=>?_) (fun b o _ _ hc e _=>k' b o hc e) (fun b o _ _ hc e _=>⟨o.slots,k' b o hc e⟩) (fun _ _ _ _ n=>n) (fun b u hc e=>⟨u,k' b u hc e⟩) (fun _ _ e=>e) (fun _ _ _ e=>e) (fun b ps e=>⟨#[],by rw[e];simp⟩) (fun m hm=>?_) (fun b u e=>?_) I.bare
  ·obtain ⟨_,f1,_,f3,f4,f5⟩:=hf b hb
   exact ⟨f3,f1,f4,f5⟩
  ·obtain ⟨o1,es,ep,ho,r⟩:=hm
   exact ⟨o1,es,ep,k' _ o1 (fun z=>(hf _ z).2.1 rfl) ho,r⟩
  ·refine (I.hok b u e).stay (fun c v hc q=>k' c v ?_ q) (fun _ q=>q) fun _ _ q=>q
   rcases hc with z | z
   ·rw[z];exact nch b u e
   ·exact nch c _ z
 self:=fun _ _ _ _ _ st h=>rZ st.1 h
section
variable {X:Cx}{elts:List Expr}{x1:Nat}{tpos:Pos}
noncomputable def Ape(K:aD)(ta:TA):TI:=fun σ H R=>ta σ H fun vs H1=>∃ a b xs ys,vs=[.ref a,.ref b]/\SqT K H1 a xs/\SqT K H1 b ys/\R (Amt false false K a b) H1
theorem Ajd{a b:Expr}{ta:TA}{p pos:Pos}(hg:Gl X "zip")(hm:X.mg "zip" = none)(ha:PA X [a,b] ta)(hs:bP [a,b] X.env=(false,eval a X.env)::bP [b] X.env:=by rfl)(hpl:(backTo pos (bP [b] X.env)).any (·.1)=false:=by rfl):PI X (.Tuple elts x1 tpos) (.Call (.Name "zip" p) [a,b] [] pos) (Ape X.K ta):=by
 intro pins s σ H R I h
 refine Call_ (Iu I hg hm Ae4 (eU (thn (ha pos pins s σ H _ I h) fun us s1 ⟨vs,H1,I1,r1,q1⟩=>?_) hs hpl))
 obtain ⟨l1,l2,xs,ys,rfl,sq1,sq2,q⟩:=q1
 obtain ⟨u,u',rfl,ru,ru'⟩:=An8 r1
 cases ru;cases ru'
 obtain ⟨its1,hv1,pl1,hz1⟩:=I1.tuple sq1
 obtain ⟨its2,hv2,pl2,hz2⟩:=I1.tuple sq2
 have lt1:l1 < s1.heap.objs.size:=by obtain ⟨o,e,_⟩:=pl1;exact aW e
 have lt2:l2 < s1.heap.objs.size:=by obtain ⟨o,e,_⟩:=pl2;exact aW e
 refine ZT.Af6 pl1 pl2 fun h' o1 o2 o3 o4 o5 o7=>?_
 have I2:L2.Inv X pins σ H1 { s1 with heap:=h' }:=I1.kept (t':=s1.toks) o7
 refine rZ o1 ⟨_,_,_,_,H1,rfl,I2,Abk (b1:=false) (b2:=false) l1 l2 _ _ _ _ _ (Abn _ _ _ lt1 lt2),⟨o1,o2,⟨_,_,o3⟩,o4,o5⟩,fun b hb=>?_,q⟩
 have hb':s1.heap.objs.size<=b:=by
  simp only[cI,gL,or_false] at hb
  rcases hb with rfl | rfl | rfl | rfl | rfl <;> first | exact Nat.le_add_right _ _ | exact aN _
 exact L2.Inv.fpOk I1 hb' (I1.hok.fresh hb')
noncomputable def Mw(us ws:List U):List U:=(us.zip ws).map fun p=>.tup [p.1,p.2]
theorem Ow(us ws:List U)(k:Nat):(Mw us ws)[k]? = Nb us[k]? ws[k]?:=by
 unfold Mw
 rw[cB,List.zip,List.getElem?_zipWith]
 cases us[k]? <;> cases ws[k]? <;> rfl
theorem Ac4{K:aD}{H:Hp}{α:List Addr}{a b:Addr}{us ws:List U}{xs ys:List V}(sa:SqT K H a xs)(sb:SqT K H b ys)(ra:RepL K H α us xs)(rb:RepL K H α ws ys):Ng K (Amt false false K a b) (.seq (Mw us ws)) H α:=by
 intro H2 α2 L2 g A2 k
 have mv:∀ (c:Addr) (vs:List U) (zs:List V),SqT K H c zs->RepL K H α vs zs->∃ zs2,SqT K H2 c zs2/\RepL K H2 α2 vs zs2:=fun c vs zs s r=>by
  have m:=(show RepU K H α (.tup vs) (.ref c) by unfold RepU;exact ⟨c,zs,rfl,s,r⟩).mono g
  unfold RepU at m
  obtain ⟨c',zs2,e,s2,r2⟩:=m
  cases e
  exact ⟨zs2,s2,r2⟩
 obtain ⟨xs2,sa2,ra2⟩:=mv a us xs sa ra
 obtain ⟨ys2,sb2,rb2⟩:=mv b ws ys sb rb
 refine ⟨fun u eu=>?_,fun eu=>?_⟩
 ·have eu:(Mw us ws)[k]? = some u:=by simpa[IU.at] using eu
  rw[Ow] at eu
  cases h1:us[k]? with
  | none=>rw[h1] at eu;simp[Nb] at eu
  | some u1=>
   cases h2:ws[k]? with
   | none=>rw[h1,h2] at eu;simp[Nb] at eu
   | some u2=>
    rw[h1,h2] at eu
    simp[Nb] at eu
    subst eu
    obtain ⟨x,hx,rx⟩:=ra2.get h1
    obtain ⟨y,hy,ry⟩:=rb2.get h2
    refine ⟨⟨xs2,ys2,x,y,sa2,sb2,hx,hy⟩,?_⟩
    rintro z H3 ⟨p,v,v',hp,rfl,rfl,hy1,hy2⟩
    have e1:=hy1 xs2 sa2
    have e2:=hy2 ys2 sb2
    rw[hx] at e1;cases e1
    rw[hy] at e2;cases e2
    exact A2.tup (.cons rx (.cons ry .nil)) hp
 ·have eu:(Mw us ws)[k]? = none:=by simpa[IU.at] using eu
  rw[Ow] at eu
  refine ⟨xs2,ys2,sa2,sb2,?_⟩
  cases h1:us[k]? with
  | none=>left;rw[<- ra2.length];exact cM.mp h1
  | some u1=>
   cases h2:ws[k]? with
   | none=>right;rw[<- rb2.length];exact cM.mp h2
   | some u2=>rw[h1,h2] at eu;simp[Nb] at eu
end
end MR
namespace MR
open PySem PySem.Spec PyProof.Rows PySem.Calls L2
theorem Aiq{bs:List Bool}:∀ {us:List aC},Vals (bs.map V.bl) us->∀ (i:Nat) (v:aC),us[i]? = some v->∃ b,bs[i]? = some b/\v = .bool b:=by
 induction bs with
 | nil=>intro us r i v e;rw[bV] at r;cases r;simp at e
 | cons n ns ih=>
  intro us r i v e
  rw[aL] at r
  cases r with
  | cons r1 r2=>
   cases i with
   | zero=>simp at e;subst e;exact ⟨n,rfl,r1⟩
   | succ i=>simpa using ih r2 i v (by simpa using e)
theorem Ai4{bs:List Bool}:∀ {us:List aC},Vals (bs.map V.bl) us->us.length=bs.length:=by
 induction bs with
 | nil=>intro us r;rw[bV] at r;cases r;rfl
 | cons n ns ih=>
  intro us r
  rw[aL] at r
  cases r with
  | cons r1 r2=>simp[ih r2]
theorem Agj(bs:List Bool):((dS bs.length).all fun i=>(bs[i]?).getD true)=bs.all id:=by
 rw[sO,cV,cV]
 constructor
 ·intro h b hb
  obtain ⟨i,hi,e⟩:=hU hb
  have:=h i (eB.mpr hi)
  simp only[aH hi,nV,e] at this
  exact this
 ·intro h i hi
  have hi':=eB.mp hi
  simp only[aH hi',nV]
  exact h _ (eT hi')
section
variable {X:Cx}
theorem Agi{s:aG}{h':Heap}{o:Obj}(hk:∀ b x,b∉[s.heap.objs.size]->(s.heap.push o).get? b=some x->h'.get? b=some x):∀ b x,s.heap.get? b=some x->h'.get? b=some x:=
 fun b x e=>hk b x (fun hm=>by rw[bX.mp hm] at e;exact dO _ (aW e)) (aF _ e)
theorem Aba(hc:X.calm=true):CallR X (.builtin "all") (fun xs H Q=>∃ (p:Addr) (bs:List Bool),xs=[.ref p]/\SqL X.K H p (bs.map V.bl)/\Q (.bl (bs.all id)) H):=by
 intro pins s σ H xs us Q I r h
 obtain ⟨p,bs,rfl,hq,q⟩:=h
 obtain ⟨u,rfl,rx⟩:=Kk r
 cases rx
 obtain ⟨its,r',pl,hz⟩:=I.list hq
 have hl:=pl.isList
 have hlt:p < s.heap.objs.size:=by obtain ⟨_,e,_⟩:=hl;exact aW e
 refine call_all_walk (qS hl ?_)
 refine ⟨s.heap.objs.size,[s.heap.objs.size,p],[s.heap.objs.size],its.toArray.size,_,_,fun i=>(bs[i]?).getD true,rfl,Walks.list (A:=tJ _) (I.ok.hd hc) _ p (bY hlt) its.toArray,
  ⟨⟨_,aP _ rfl,rfl,rfl⟩,hl.push _⟩,fun i v s' Q' E' hP hQ=>?_,fun h' tk hk=>?_⟩
 ·obtain ⟨b,e,rfl⟩:=Aiq r' i v (by simpa using hP)
  simp only[e,nV] at hQ
  exact iL hQ
 ·have e:((dS its.toArray.size).all fun i=>(bs[i]?).getD true)=bs.all id:=by
   rw[bM,Ai4 r'];exact Agj bs
  rw[e]
  exact ⟨.bl (bs.all id),H,I.kept (Agi hk),rfl,q⟩
end
noncomputable def toB:U->Option Bool
 | .bl b=>some b
 | _=>none
theorem Xu{K:aD}{H:Hp}{α:List Addr}:∀ {us:List U} {xs:List V} {bs:List Bool},RepL K H α us xs->mapO toB us=some bs->xs=bs.map V.bl
 | [],xs,ys,r,h=>by unfold RepL at r;subst r;cases h;rfl
 | u::us,xs,ys,r,h=>by
  unfold RepL at r
  obtain ⟨x,xr,rfl,r1,r2⟩:=r
  obtain ⟨y,e1,h⟩:=aA.mp h
  obtain ⟨yr,e2,h⟩:=aK.mp h
  subst h
  cases u <;> simp only[toB] at e1 <;> first
   | (cases e1;unfold RepU at r1;subst r1;rw[Xu r2 e2];rfl)
   | cases e1
noncomputable def Ot:SC:=fun us L=>match us with
 | [.ref n]=>(Bi L n).bind fun l=>(mapO toB l).map fun bs=>(.bl (bs.all id),L)
 | _=>none
theorem Ajh{K:aD}:Wz K (fun xs H Q=>∃ (p:Addr) (bs:List Bool),xs=[.ref p]/\SqL K H p (bs.map V.bl)/\Q (.bl (bs.all id)) H) Ot:=by
 intro H α L us xs z L' Q A r e q
 unfold Ot at e
 split at e
 ·obtain ⟨l,hl,e⟩:=aA.mp e
  obtain ⟨bs,e1,e⟩:=aK.mp e
  cases e
  obtain ⟨x,rfl,rx⟩:=r.one
  obtain ⟨a,ys,rfl,sq,r2⟩:=N9 A hl rx
  rw[Xu r2 e1] at sq
  exact ⟨a,bs,rfl,sq,q _ H α (.refl _ _) A rfl⟩
 ·cases e
section
variable {X:Cx}
end
end MR
namespace ZT
open PySem PySem.Spec PyProof.Rows
open Sem (wp)
section
variable {prog:bQ}{w:cC}{A:cL}{E:aC->aG->Prop}{s:aG}
end
theorem Td{prog:bQ}{w:cC}{A:cL}(hh:A.handled=none)(it l:Addr)(hne:l≠it)(items:Array aC) :
  Draws prog w A it [it,l] items.size (fun i v=>items[i]? = some v) (fun i h=>h.IsTupleIter it l i/\h.IsTuple l items) where
 live:=fun _ _ st=>let ⟨o,ho,_⟩:=st.1;⟨o,ho⟩
 frame:=fun _ _ _ st hk=>⟨st.1.at fun o e=>hk it (by simp) o e,st.2.at fun o e=>hk l (by simp) o e⟩
 item:=fun i s Q E hi st hQ=>by
  refine Uz st.1 st.2 (v:=items[i]) (by simp[hi]) fun h' hit' hs'=>?_
  exact hQ _ h' s.toks (by simp[hi]) ⟨hit',st.2.extBut hs'.extBut hne⟩ hs'
 done:=fun s Q E st hE=>Pu hh st.1 st.2 (by simp) hE
section
variable {prog:bQ}{w:cC}{A:cL}{E:aC->aG->Prop}{s:aG}
theorem Sk{e it l:Addr}{n:Nat}{i:Int}{items:Array aC}{old:aC}{Q:Option aC->aG->Prop}(hh:A.handled=none)
  (he:IsEnum s.heap e it i old) (hit:s.heap.IsTupleIter it l n) (hl:s.heap.IsTuple l items) (hn:items.size<=n)
  (hQ:∀ h',mX it s.heap h'->Q none { s with heap:=h' }):wpAny (model prog w) A (pyNext (.ref e)) Q E s:=by
 have hT:s.TypeIs (.ref e) "enumerate" := ⟨_,he,rfl⟩
 unfold pyNext
 refine aB (gI (dG (name:=eK "__next__") hT pC
  (dM pC hT F.entry_enumerate_next ?_ (F.args_enumerate_next_1 _))))
 show wpAny _ _ (field (.ref e) 2 >>= _) _ _ _
 refine aB (fD he rfl (x:=.ref it) rfl ?_)
 refine aB (Pu (A:=tJ A) hh hit hl (by simp;omega) fun h' x he' hx'=>?_)
 obtain ⟨o,ho,hc⟩:=hx'
 refine aB (jA (T := "StopIteration") (b:=true) ⟨o,ho,hc⟩ mJ ?_)
 exact aJ (hQ _ he')
end
end ZT
namespace MR
open PySem PySem.Spec PyProof.Rows L2
section
variable {X:Cx}{elts:List Expr}{x1:Nat}{tpos:Pos}
end
structure CompScC(X:Cx)(scope:jX)(N':List Str)(ix:List (Option Nat)):Prop where
 kind:scope.kind = .function
 own:(scope.names.all fun y=>scope.names.lookup y.1 == some y.2)=true
 free:(scope.names.all fun y=>y.2 != .free || (X.env.kindOf y.1 == some .cell || X.env.kindOf y.1 == some .free))=true
 ixs:((N'.zip ix).all fun p=>match p.2 with | none=>true | some i=>(X.N[i]? == some p.1)&&(scope.names.lookup p.1 == some .free))=true
 len:N'.length=ix.length
section
variable {X:Cx}{scope:jX}{N':List Str}{ix:List (Option Nat)}{pins:List (Addr×Obj)}{σ:L2.St}{H2:Hp}{s2:aG}{cl:List (Str×Addr)}{fp:List Addr}
theorem CompScC.lk(S:CompScC X scope N' ix){x:Str}{k:jG}(h:(x,k)∈scope.names):scope.names.lookup x=some k:=by
 have:=cV.mp S.own _ h
 simpa using this
theorem CompScC.names(S:CompScC X scope N' ix):∀ x∈scope.names,x.2 = .local->scope.names.lookup x.1=some .local:=fun x hx hl=>by
 have:=S.lk (x:=x.1) (k:=x.2) hx
 rw[hl] at this
 exact this
theorem CompScC.clos(S:CompScC X scope N' ix)(ok:X.Ok):∃ cl,closureFor scope X.env=pure cl/\(∀ x c,cl.lookup x=some c->X.env.cells.lookup x=some c)/\∀ y∈scope.names,y.2 = .free->∃ c,cl.lookup y.1=some c:=by
 refine Kj fun y hy hf=>?_
 have:=cV.mp S.free y hy
 rw[hf] at this
 simp at this
 exact ok.has y.1 this
end
section
variable {X:Cx}{scope:jX}{N':List Str}{ix:List (Option Nat)}{elt tg iter c:Expr}{pos:Pos}{fi:FI}{g:FG}{ft:FT}{fe:FE}
end
section
variable {X:Cx}{tg:Expr}
end
end MR
namespace ZT
open PySem PySem.Spec PyProof.Rows
open Sem (wp)
section
variable {prog:bQ}{w:cC}{A:cL}{s:aG}{R:sZ->aG->Prop}
variable {I:Addr}{fp wr:List Addr}{G:Array kT->Array kT->Prop}{n:Nat}{P:Nat->aC->Prop}{St:Nat->aG->Prop}
end
section
variable {prog:bQ}{w:cC}{A:cL}{E:aC->aG->Prop}{s:aG}
variable {I:Addr}{fp wr:List Addr}{G:Array kT->Array kT->Prop}{n:Nat}{P:Nat->aC->Prop}{St:Nat->aG->Prop}
end
end ZT
namespace MR
open PySem PySem.Spec PyProof.Rows PySem.Calls L2
section
variable {X:Cx}
theorem Tq:fX "tuple" = some (.type "tuple"):=by decide +kernel
end
end MR
namespace ZT
open PySem PySem.Spec PyProof.Rows HT
section
variable {prog:bQ}{w:cC}{A:cL}{E:aC->aG->Prop}{s:aG}
end
end ZT
namespace MR
open PySem PySem.Spec PyProof.Rows PySem.Calls L2
section
variable {X:Cx}{tg:Expr}
end
section
variable {X:Cx}
end
noncomputable def Ah1:S2:=fun u w L=>match u,w with
 | .tup [],.tup b=>some (.tup b,L)
 | u,w=>Bl u w L
@[simp] theorem Akr(i j:Int)(L:UH):Ah1 (.int i) (.int j) L=some (.int (i+j),L):=rfl
end MR
namespace MR
open PySem PyProof.Rows L2
section
variable {X:Cx}
end
noncomputable def toS:U->Option Str
 | .str a=>some a
 | _=>none
end MR
namespace MR
open PySem PySem.W PyProof.Rows L2
end MR
namespace Att
open PySem PySem.W PySem.Calls PyProof.Rows L2 MR
end Att
namespace MR
open PySem PyProof.Rows L2
noncomputable def g0(us ws:List aC):List aC:=match us with | []=>ws | _=>[]
noncomputable def gV0(vs zs:List V):List V:=match vs with | []=>zs | _=>[]
theorem Agc{K:aD}{fd:bT}{p:Str}{ps:List Str}(h:∀ ws:List aC,ws.length=(p::ps).length->tD fd ⟨[],(p::ps).zip ws⟩=pure ((p::ps).zip ws)):KBinds K fd (p::ps) (p::ps) g0 gV0 where
 to:=fun s us ws _ hl=>by
  cases us with
  | nil=>exact .of_eq (h ws hl)
  | cons u us=>simp[g0] at hl
 rel:=fun r rz=>by
  cases r with
  | nil=>exact rz
  | cons _ _=>exact .nil
section
variable {X:Cx}{k:Nat}{f:Addr}{fd:bT}{p:Str}{ps:List Str}{x:Str}{pp pos kpos:Pos}{e:Expr}{kws:List jL}{nm:Option Str}
theorem PK.imp{t t':TA}(h:PK X kws t)(hi:∀ σ H Q,t' σ H Q->t σ H Q):PK X kws t':=fun pos pins s σ H Q I q=>h pos pins s σ H Q I (hi σ H Q q)
noncomputable def PKF(X:Cx)(kws:List jL)(g:FA):Prop:=PK X kws (lA X.K g)
theorem Cq:PKF X [] Aj:=by
 refine PK.imp Wr ?_
 rintro σ H Q ⟨α,δ,L,A,S,z,L3,e,q⟩
 cases e
 exact q [] H α (.refl _ _) A .nil
theorem Ar{fe:FE}{g:FA}(ha:PEF X e fe)(hr:PKF X kws g):PKF X (⟨nm,e,kpos⟩::kws) (Ac fe g):=by
 refine PK.imp (Sj ha hr) ?_
 rintro σ H Q ⟨α,δ,L,A,S,z,L3,e,q⟩
 obtain ⟨⟨u,L1⟩,e1,e⟩:=aA.mp e
 obtain ⟨⟨us,L2⟩,e2,e⟩:=aK.mp e
 cases e
 exact ⟨α,δ,L,A,S,u,L1,e1,fun x H1 α1 g1 A1 r1=>⟨α1,δ,L1,A1,S.mono g1,us,L2,e2,fun xs H2 α2 g2 A2 r2=>q (x::xs) H2 α2 (g1.trans g2) A2 (.cons (r1.mono g2) r2)⟩⟩
theorem Abu{CX:CXT}{sp:Sp}{E:XK}{tk:TA}(F:FnOk X.prog X.w X.K X.mg X.base CX k f fd (p::ps) sp)(hr:Room k X.A)(hg:Gl X x)(hm:X.mg x=some (.ref f))(hk:aV X.K (.ref f)=true)(hb:KBinds X.K fd (p::ps) (p::ps) g0 gV0)(hx:Il CX X E)
  (hkw:PK X kws tk) (hall:(backToKw pos (keywordEach kws X.env)).all (·.1.isSome)=true:=by rfl) (hks:(backToKw pos (keywordEach kws X.env)).filterMap (·.1)=p::ps:=by rfl)
  (hdb:(x == ("__debug__" : Str))=false:=by decide)
  (hpl:((backTo pos (bP [] X.env)).any (·.1) || (backToKw pos (keywordEach kws X.env)).any (·.1.isNone))=false:=by rfl) :
  PE X (.Call (.Name x pp) [] kws pos) (fun σ H Q=>tk σ H fun zs H2=>sp zs H2 Q E):=by
 intro pins s σ H Q I h
 refine dD (Ke I hg hm ?_ hdb)
 refine iS (h₀:=X.base) I.ok.mod.kin hk hall (thn (hkw pos pins s σ H _ I h) fun ws s2 ⟨zs,H2,I2,rz,q2⟩=>⟨I2.kIn,?_⟩) hpl
 rw[hks]
 exact Rq F hr hb hx I2 .nil rz q2
theorem Ab0{n:Nat}{F:FN}{g:FA}(hF:FnOk X.prog X.w X.K X.mg X.base CX0 k f fd (p::ps) (spF X.K n F))(hr:Room k X.A)(hg:Gl X x)(hm:X.mg x=some (.ref f))(hk:aV X.K (.ref f)=true)(hb:KBinds X.K fd (p::ps) (p::ps) g0 gV0)
  (hkw:PKF X kws g) (hall:(backToKw pos (keywordEach kws X.env)).all (·.1.isSome)=true:=by rfl) (hks:(backToKw pos (keywordEach kws X.env)).filterMap (·.1)=p::ps:=by rfl)
  (hdb:(x == ("__debug__" : Str))=false:=by decide)
  (hpl:((backTo pos (bP [] X.env)).any (·.1) || (backToKw pos (keywordEach kws X.env)).any (·.1.isNone))=false:=by rfl) :
  PEF X (.Call (.Name x pp) [] kws pos) (Dl n F g):=by
 refine PE.imp (Abu hF hr hg hm hk hb Nj hkw hall hks hdb hpl) ?_
 rintro σ H Q ⟨α,δ,L,A,S,z,L3,e,q⟩
 obtain ⟨⟨us,L1⟩,e1,e⟩:=aA.mp e
 simp only at e
 split at e
 ·rename_i hl
  refine ⟨α,δ,L,A,S,us,L1,e1,fun xs H1 α1 g1 A1 r1=>?_⟩
  exact ⟨α1,L1,us,A1,r1,hl,z,L3,e,fun v H2 α2 g2 A2 r2=>q v H2 α2 (g1.trans g2) A2 r2⟩
 ·cases e
end
end MR
namespace MR
open PySem PySem.Spec PyProof.Rows PySem.Calls L2
section
variable {X:Cx}
end
section
variable {X:Cx}
end
end MR
namespace MR
open PySem PyProof.Rows L2
theorem RepL.init{K:aD}{H:Hp}{α:List Addr}:∀ {us:List U} {xs:List V},RepL K H α us xs->RepL K H α us.dropLast xs.dropLast
 | [],xs,r=>by unfold RepL at r;subst r;exact .nil
 | [u],xs,r=>by
  unfold RepL at r
  obtain ⟨x,xr,rfl,rx,r⟩:=r
  unfold RepL at r
  subst r
  exact .nil
 | u::w::us,xs,r=>by
  unfold RepL at r
  obtain ⟨x,xr,rfl,rx,r⟩:=r
  have r':=r
  unfold RepL at r'
  obtain ⟨y,yr,rfl,ry,_⟩:=r'
  exact .cons rx (RepL.init r)
noncomputable def toK:U->Option Key
 | .int i=>some (.inl i)
 | .str x=>some (.inr x)
 | _=>none
theorem K1{K:aD}{H:Hp}{α:List Addr}{u:U}{x:V}{k:Key}(r:RepU K H α u x)(h:toK u=some k):x=kV k:=by
 cases u <;> simp only[toK] at h <;> first | (cases h;unfold RepU at r;exact r) | cases h
noncomputable def Gm(kvs:List (Key×U))(k:Key):Option U:=(kvs.find? fun kv=>decide (kv.1=k)).map (·.2)
noncomputable def Qg(kvs:List (Key×U))(k:Key)(v:U):List (Key×U):=
 if (kvs.any fun kv=>decide (kv.1=k))=true then kvs.map (fun kv=>if kv.1=k then (kv.1,v) else kv) else kvs++[(k,v)]
section
variable {K:aD}{H:Hp}{α:List Addr}
noncomputable def RepKV(K:aD)(H:Hp)(α:List Addr)(kvs:List (Key×U))(vs:List (Key×V)):Prop:=kvs.map (·.1)=vs.map (·.1)/\RepL K H α (kvs.map (·.2)) (vs.map (·.2))
theorem RepKV.nil:RepKV K H α [] []:=⟨rfl,.nil⟩
theorem RepKV.cons{kv:Key×U}{kvs:List (Key×U)}{vs:List (Key×V)}(h:RepKV K H α (kv::kvs) vs):∃ x vs',vs=(kv.1,x)::vs'/\RepU K H α kv.2 x/\RepKV K H α kvs vs':=by
 obtain ⟨h1,h2⟩:=h
 cases vs with
 | nil=>simp at h1
 | cons w vs'=>
  simp only[aL,jN] at h1
  rw[aL,aL] at h2
  unfold RepL at h2
  obtain ⟨x,xr,hx,rx,r⟩:=h2
  injection hx with e1 e2
  subst e1
  refine ⟨w.2,vs',by rw[h1.1],rx,h1.2,?_⟩
  rw[e2];exact r
theorem RepKV.mk{k:Key}{u:U}{x:V}{kvs:List (Key×U)}{vs:List (Key×V)}(r:RepU K H α u x)(h:RepKV K H α kvs vs):RepKV K H α ((k,u)::kvs) ((k,x)::vs):=
 ⟨by simp[h.1],by rw[aL,aL];exact .cons r h.2⟩
theorem RepKV.val{k:Key}{u:U}:∀ {kvs:List (Key×U)} {vs:List (Key×V)},RepKV K H α kvs vs->Gm kvs k=some u->∃ x,Jr vs k=some x/\RepU K H α u x
 | [],vs,_,e=>by simp[Gm] at e
 | kv::kvs,vs,r,e=>by
  obtain ⟨x,vs',rfl,rx,r'⟩:=r.cons
  unfold Gm at e
  unfold Jr
  rw[dL] at e ⊢
  by_cases h:kv.1=k
  ·simp only[h,decide_true,aI] at e ⊢
   cases e
   exact ⟨x,rfl,rx⟩
  ·simp only[h,decide_false] at e ⊢
   exact RepKV.val r' e
theorem RepKV.any{k:Key}:∀ {kvs:List (Key×U)} {vs:List (Key×V)},RepKV K H α kvs vs->(kvs.any fun kv=>decide (kv.1=k))=(vs.any fun kv=>decide (kv.1=k))
 | [],vs,r=>by
  obtain ⟨h1,_⟩:=r
  cases vs with
  | nil=>rfl
  | cons _ _=>simp at h1
 | kv::kvs,vs,r=>by
  obtain ⟨x,vs',rfl,rx,r'⟩:=r.cons
  rw[gG,gG,RepKV.any r']
theorem RepKV.len{kvs:List (Key×U)}{vs:List (Key×V)}(r:RepKV K H α kvs vs):kvs.length=vs.length:=by
 have:=congrArg mV r.1
 simpa using this
theorem RepKV.upd{k:Key}{u:U}{x:V}(ru:RepU K H α u x):∀ {kvs:List (Key×U)} {vs:List (Key×V)},RepKV K H α kvs vs->RepKV K H α (kvs.map fun kv=>if kv.1=k then (kv.1,u) else kv) (vs.map fun kv=>if kv.1=k then (kv.1,x) else kv)
 | [],vs,r=>by
  obtain ⟨h1,_⟩:=r
  cases vs with
  | nil=>exact .nil
  | cons _ _=>simp at h1
 | kv::kvs,vs,r=>by
  obtain ⟨y,vs',rfl,ry,r'⟩:=r.cons
  rw[aL,aL]
  by_cases h:kv.1=k
  ·rw[if_pos h,if_pos h]
   exact .mk ru (RepKV.upd ru r')
  ·rw[if_neg h,if_neg h]
   exact .mk ry (RepKV.upd ru r')
theorem RepKV.add{k:Key}{u:U}{x:V}(ru:RepU K H α u x):∀ {kvs:List (Key×U)} {vs:List (Key×V)},RepKV K H α kvs vs->RepKV K H α (kvs++[(k,u)]) (vs++[(k,x)])
 | [],vs,r=>by
  obtain ⟨h1,_⟩:=r
  cases vs with
  | nil=>exact .mk ru .nil
  | cons _ _=>simp at h1
 | kv::kvs,vs,r=>by
  obtain ⟨y,vs',rfl,ry,r'⟩:=r.cons
  exact .mk ry (RepKV.add ru r')
theorem RepKV.put{k:Key}{u:U}{x:V}{kvs:List (Key×U)}{vs:List (Key×V)}(ru:RepU K H α u x)(r:RepKV K H α kvs vs):RepKV K H α (Qg kvs k u) (putK vs k x):=by
 unfold Qg putK
 rw[r.any]
 split
 ·exact r.upd ru
 ·exact r.add ru
theorem RepKV.mono{H':Hp}{α':List Addr}{kvs:List (Key×U)}{vs:List (Key×V)}(r:RepKV K H α kvs vs)(g:Gr H α H' α'):RepKV K H' α' kvs vs:=⟨r.1,r.2.mono g⟩
end
noncomputable def dicAt(L:UH)(n:Nat):Option (List (Key×U)):=match L[n]? with
 | some (.dic kvs)=>some kvs
 | _=>none
theorem Ks{L:UH}{n:Nat}{kvs:List (Key×U)}(h:dicAt L n=some kvs):L[n]? = some (.dic kvs):=by
 unfold dicAt at h
 split at h
 ·rename_i e;cases h;exact e
 ·cases h
theorem Gi{K:aD}{H:Hp}{α:List Addr}{L:UH}{n:Nat}{x:V}{kvs:List (Key×U)}(A:Abs K H α L)(h:dicAt L n=some kvs)(r:RepU K H α (.ref n) x):∃ a vs,x = .ref a/\α[n]? = some a/\H a=some (.dK vs)/\RepKV K H α kvs vs:=by
 unfold RepU at r
 obtain ⟨a,ea,rfl⟩:=r
 obtain ⟨vs,e,k1,k2⟩:=A.rep n a _ ea (Ks h)
 exact ⟨a,vs,rfl,ea,e,k1,k2⟩
theorem Abs.setD{K:aD}{H:Hp}{α:List Addr}{L:UH}{n:Nat}{a:Addr}{vs ws:List (Key×V)}{kvs kws:List (Key×U)}(A:Abs K H α L)(h:dicAt L n=some kvs)(ea:α[n]? = some a)(e:H a=some (.dK vs))(r:RepKV K H α kws ws) :
  Gr H α (upd H a (.dK ws)) α/\Abs K (upd H a (.dK ws)) α (L.set n (.dic kws)):=by
 have g:Gr H α (upd H a (.dK ws)) α:=⟨⟨[],by simp⟩,.write e (by exact trivial) _⟩
 obtain ⟨A',_⟩:=A.put (o:=.dK ws) (u:=.dic kws) ea (Ks h) rfl rfl e (by exact trivial) ⟨ws,upd_same,(r.mono g).1,(r.mono g).2⟩
 exact ⟨g,A'⟩
section
variable {X:Cx}{o i value:Expr}{pos pos':Pos}{fo fi fv:FE}
noncomputable def Ta:FE:=fun _ L=>some (.ref L.length,L++[.dic []])
theorem Y4:PEF X (.Dict [] [] pos) Ta:=by
 refine PE.imp Ads ?_
 rintro σ H Q ⟨α,δ,L,A,S,z,L3,e,q⟩
 cases e
 intro p hp
 have g:Gr H α (upd H p (.dK [])) (α ++ [p]):=⟨⟨[p],rfl⟩,.new hp _⟩
 obtain ⟨A',_⟩:=A.new (o:=.dK []) (u:=.dic []) hp ⟨[],upd_same,rfl,.nil⟩
 refine q _ _ _ g A' ?_
 unfold RepU
 exact ⟨p,by rw[<- A.len];simp,rfl⟩
noncomputable def Qr(fo fi:FE):FE:=fun δ L=>(fo δ L).bind fun p=>(fi δ p.2).bind fun q=>match p.1 with
 | .ref n=>(toK q.1).bind fun k=>(dicAt q.2 n).bind fun kvs=>(Gm kvs k).map fun u=>(u,q.2)
 | _=>none
theorem Yq(hu:X.A.units+64 < cLine)(ho:PEF X o fo)(hi:PEF X i fi)(hs:Aml i):PEF X (.Subscript o i pos) (Qr fo fi):=by
 refine PE.imp (Af8 (by omega) ho hi hs) ?_
 rintro σ H Q ⟨α,δ,L,A,S,z,L3,e,q⟩
 obtain ⟨⟨u,L1⟩,e1,e⟩:=aA.mp e
 obtain ⟨⟨w,L2⟩,e2,e⟩:=aA.mp e
 refine ⟨α,δ,L,A,S,u,L1,e1,fun x H1 α1 g1 A1 r1=>⟨α1,δ,L1,A1,S.mono g1,w,L2,e2,fun y H2 α2 g2 A2 r2=>?_⟩⟩
 simp only at e
 split at e
 ·obtain ⟨k,hk,e⟩:=aA.mp e
  obtain ⟨kvs,hd,e⟩:=aA.mp e
  obtain ⟨v,hv,e⟩:=aK.mp e
  cases e
  obtain ⟨a,vs,rfl,ea,ha,rk⟩:=Gi A2 hd (r1.mono g2)
  obtain ⟨x',hx',rx'⟩:=rk.val hv
  refine ⟨a,x',rfl,?_,q _ _ _ (g1.trans g2) A2 rx'⟩
  rw[K1 r2 hk,<- hx']
  exact DGet.k ha
 ·cases e
noncomputable def Pj(fo fi fv:FE):FS:=fun δ L=>(fv δ L).bind fun p=>(fo δ p.2).bind fun q=>(fi δ q.2).bind fun r=>match q.1 with
 | .ref n=>(toK r.1).bind fun k=>(dicAt r.2 n).bind fun kvs=>if kvs.length < 1000000 then some (.nx δ,r.2.set n (.dic (Qg kvs k p.1))) else none
 | _=>none
theorem O9(hu:X.A.units+64 < cLine)(ho:PEF X o fo)(hi:PEF X i fi)(hv:PEF X value fv)(hs:swapsWith value (some (.Subscript o i pos')) pos.line X.env=pure false:=by rfl):PSF X (.Assign [.Subscript o i pos'] value pos) (Pj fo fi fv):=by
 refine PS.imp (Agt (by omega) ho hi hv hs) ?_
 rintro D σ H ⟨α,δ,L,A,S,fl,L',e,q⟩
 obtain ⟨⟨v,L1⟩,e1,e⟩:=aA.mp e
 obtain ⟨⟨u,L2⟩,e2,e⟩:=aA.mp e
 obtain ⟨⟨w,L3⟩,e3,e⟩:=aA.mp e
 refine ⟨α,δ,L,A,S,v,L1,e1,fun xv H1 α1 g1 A1 rv=>⟨α1,δ,L1,A1,S.mono g1,u,L2,e2,fun x H2 α2 g2 A2 rx=>⟨α2,δ,L2,A2,(S.mono g1).mono g2,w,L3,e3,fun y H3 α3 g3 A3 ry=>?_⟩⟩⟩
 simp only at e
 split at e
 ·obtain ⟨k,hk,e⟩:=aA.mp e
  obtain ⟨kvs,hd,e⟩:=aA.mp e
  split at e
  ·rename_i hl
   cases e
   obtain ⟨a,vs,rfl,ea,ha,rk⟩:=Gi A3 hd (rx.mono g3)
   have rv':=rv.mono (g2.trans g3)
   obtain ⟨g4,A4⟩:=A3.setD hd ea ha (rk.put (k:=k) rv')
   refine ⟨a,_,rfl,?_,q σ _ α3 ((g1.trans (g2.trans g3)).trans g4) A4 ((((S.mono g1).mono g2).mono g3).mono g4)⟩
   rw[K1 ry hk]
   exact DPut.k ha (by rw[<- rk.len];unfold sizeLine;omega)
  ·cases e
 ·cases e
end
theorem Aau{β:Type}{P:List β->Prop}(h:P [])(us:List β)(hl:us.length=0):P us:=by
 cases us with
 | nil=>exact h
 | cons=>cases hl
theorem Aim{β:Type}{n:Nat}{P:List β->Prop}(h:∀ (a:β) (us:List β),us.length=n->P (a::us))(us:List β)(hl:us.length=n+1):P us:=by
 cases us with
 | nil=>cases hl
 | cons a us=>exact h a us (Nat.succ.inj hl)
theorem Eb{β:Type}{P:List β->Prop}(h:∀ a,P [a]):∀ us:List β,us.length=1->P us:=Aim fun a=>Aau (h a)
theorem G7{β:Type}{P:List β->Prop}(h:∀ a b,P [a,b]):∀ us:List β,us.length=2->P us:=Aim fun a=>Eb (h a)
theorem Kh{β:Type}{P:List β->Prop}(h:∀ a b c,P [a,b,c]):∀ us:List β,us.length=3->P us:=Aim fun a=>G7 (h a)
theorem An4{β:Type}{P:List β->Prop}(h:∀ a b c d,P [a,b,c,d]):∀ us:List β,us.length=4->P us:=Aim fun a=>Kh (h a)
section
variable {X:Cx}{elts:List Expr}{x1:Nat}{tpos:Pos}
noncomputable def Yz(g:FA):FI:=fun δ L=>(g δ L).bind fun p=>match p.1 with
 | [.tup us,.tup ws]=>some (.seq (Mw us ws),p.2)
 | _=>none
theorem Adx{a b:Expr}{g:FA}{p pos:Pos}(hg:Gl X "zip")(hm:X.mg "zip" = none)(ha:PAF X [a,b] g)(hs:bP [a,b] X.env=(false,eval a X.env)::bP [b] X.env:=by rfl)(hpl:(backTo pos (bP [b] X.env)).any (·.1)=false:=by rfl):PIF X (.Tuple elts x1 tpos) (.Call (.Name "zip" p) [a,b] [] pos) (Yz g):=by
 refine PI.imp (Ajd hg hm ha hs hpl) ?_
 rintro σ H R ⟨α,δ,L,A,S,i,L3,e,q⟩
 obtain ⟨⟨us,L1⟩,e1,ee⟩:=aA.mp e
 simp only at ee
 split at ee
 ·cases ee
  refine ⟨α,δ,L,A,S,_,_,e1,fun xs H1 α1 g1 A1 r1=>?_⟩
  obtain ⟨x,y,rfl,rx,ry⟩:=r1.two
  unfold RepU at rx ry
  obtain ⟨a',ys,rfl,sq,r2⟩:=rx
  obtain ⟨b',ys',rfl,sq',r2'⟩:=ry
  exact ⟨a',b',ys,ys',rfl,sq,sq',q _ H1 α1 g1 A1 (Ac4 sq sq' r2 r2')⟩
 ·cases ee
end
end MR
namespace MR
open PySem L2
@[simp] theorem fVar_eq(i:Nat)(δ:UE)(L:UH):Ae i δ L=(δ[i]?).join.map fun u=>(u,L):=rfl
@[simp] theorem M6(u:U)(δ:UE)(L:UH):fC u δ L=some (u,L):=rfl
@[simp] theorem f2_eq(s:S2)(a b:FE)(δ:UE)(L:UH):f2 s a b δ L=(a δ L).bind fun p=>(b δ p.2).bind fun q=>s p.1 q.1 q.2:=rfl
@[simp] theorem fTest_eq(f:FE)(δ:UE)(L:UH):B4 f δ L=(f δ L).bind fun p=>match p.1 with | .bl k=>some (k,p.2) | _=>none:=rfl
@[simp] theorem Aix(f g:FT)(δ:UE)(L:UH):Alw f g δ L=(f δ L).bind fun p=>if p.1=true then g δ p.2 else some (false,p.2):=rfl
@[simp] theorem Afg(f g:FT)(δ:UE)(L:UH):fOr f g δ L=(f δ L).bind fun p=>if p.1=true then some (true,p.2) else g δ p.2:=rfl
@[simp] theorem Ap3(f:FT)(δ:UE)(L:UH):Aqx f δ L=(f δ L).map fun p=>(!p.1,p.2):=rfl
@[simp] theorem Mf(f g:FE)(δ:UE)(L:UH):Ph f g δ L=(f δ L).bind fun p=>match p.1 with | .bl k=>if k=true then g δ p.2 else some (.bl false,p.2) | _=>none:=rfl
@[simp] theorem Ap6(f g:FE)(δ:UE)(L:UH):Aqa f g δ L=(f δ L).bind fun p=>match p.1 with | .bl k=>if k=true then some (.bl true,p.2) else g δ p.2 | _=>none:=rfl
@[simp] theorem Aos(f:FE)(δ:UE)(L:UH):Aoo f δ L=(f δ L).bind fun p=>match p.1 with | .bl k=>some (.bl (!k),p.2) | _=>none:=rfl
@[simp] theorem Aqv(c:FT)(f g:FE)(δ:UE)(L:UH):fIf c f g δ L=(c δ L).bind fun p=>if p.1=true then f δ p.2 else g δ p.2:=rfl
@[simp] theorem fNil_eq(δ:UE)(L:UH):Aj δ L=some ([],L):=rfl
@[simp] theorem fCons_eq(f:FE)(g:FA)(δ:UE)(L:UH):Ac f g δ L=(f δ L).bind fun p=>(g δ p.2).map fun q=>(p.1::q.1,q.2):=rfl
@[simp] theorem N6(g:FA)(δ:UE)(L:UH):Dp g δ L=(g δ L).bind fun p=>if Gq p.1.length=true then some (.tup p.1,p.2) else none:=rfl
@[simp] theorem Ap7(g:FA)(δ:UE)(L:UH):Abm g δ L=(g δ L).bind fun p=>if Gq p.1.length=true then some (.ref p.2.length,p.2++[.lst p.1]) else none:=rfl
@[simp] theorem fCall_eq(s:SC)(g:FA)(δ:UE)(L:UH):Dw s g δ L=(g δ L).bind fun p=>s p.1 p.2:=rfl
@[simp] theorem fOwn_eq(n:Nat)(F:FN)(g:FA)(δ:UE)(L:UH):Dl n F g δ L=(g δ L).bind fun p=>if p.1.length=n then F p.1 p.2 else none:=rfl
@[simp] theorem Aot(T:String)(s:SM)(f:FE)(g:FA)(δ:UE)(L:UH):Ao9 T s f g δ L=(f δ L).bind fun p=>if tyU T p.1 p.2=true then (g δ p.2).bind fun q=>s p.1 q.1 q.2 else none:=rfl
@[simp] theorem Aps(f:FE)(δ:UE)(L:UH):Apd f δ L=(f δ L).bind fun p=>match p.1 with | .int i=>some (some i,p.2) | _=>none:=rfl
@[simp] theorem Am3(δ:UE)(L:UH):Ajg δ L=some (none,L):=rfl
@[simp] theorem Aq2(s:SS)(f:FE)(l h:FO)(δ:UE)(L:UH):fSl s f l h δ L=(f δ L).bind fun p=>(l δ p.2).bind fun q=>(h δ q.2).bind fun r=>s p.1 q.1 r.1 r.2:=rfl
@[simp] theorem Ap0(f:FE)(δ:UE)(L:UH):Ak9 f δ L=(f δ L).bind fun p=>match p.1 with | .int i=>some (.int (-i),p.2) | _=>none:=rfl
@[simp] theorem fTru_eq(f:FE)(δ:UE)(L:UH):Aey f δ L=(f δ L).bind fun p=>(Ab4 p.1 p.2).map fun k=>(k,p.2):=rfl
@[simp] theorem Ap1(c:String)(f:FE)(δ:UE)(L:UH):Aq6 c f δ L=(f δ L).bind fun p=>(Aeq p.1 p.2).map fun t=>(.bl (isT t c),p.2):=rfl
@[simp] theorem Ug(δ:UE)(L:UH):Ed δ L=some (.nx δ,L):=rfl
@[simp] theorem Aad(f g:FS)(δ:UE)(L:UH):C6 f g δ L=(f δ L).bind fun p=>match p.1 with | .nx δ'=>g δ' p.2 | fl=>some (fl,p.2):=rfl
@[simp] theorem fRet_eq(f:FE)(δ:UE)(L:UH):C3 f δ L=(f δ L).map fun p=>(.rt p.1,p.2):=rfl
@[simp] theorem Lk(f:FE)(δ:UE)(L:UH):D7 f δ L=(f δ L).map fun p=>(.nx δ,p.2):=rfl
@[simp] theorem Aow(δ:UE)(L:UH):Ao0 δ L=some (.rt .non,L):=rfl
@[simp] theorem Ma(c:FT)(f g:FS)(δ:UE)(L:UH):Hv c f g δ L=(c δ L).bind fun p=>if p.1=true then f δ p.2 else g δ p.2:=rfl
@[simp] theorem gN_eq(i:Nat)(u:U)(δ:UE)(L:UH):gN i u δ L=some (δ.set i (some u),L):=rfl
@[simp] theorem Apz(δ:UE)(L:UH):MR.gNil [] δ L=some (δ,L):=rfl
@[simp] theorem Apl(f:FG)(g:FGs)(u:U)(r:List U)(δ:UE)(L:UH):MR.gCons f g (u::r) δ L=(f u δ L).bind fun p=>g r p.1 p.2:=rfl
@[simp] theorem Ap4(n:Nat)(g:FGs)(us:List U)(δ:UE)(L:UH):MR.gTup n g (.tup us) δ L=if us.length=n then g us δ L else none:=rfl
@[simp] theorem gSub_eq(a b:FE)(v:U)(δ:UE)(L:UH):MR.gSub a b v δ L=(a δ L).bind fun p=>(b δ p.2).bind fun q=>match p.1,q.1 with
 | .ref n,.int k=>(Gy q.2 n).bind fun l=>(ixN l.length k).map fun j=>(δ,q.2.set n (.lst (l.set j v)))
 | _,_=>none:=rfl
@[simp] theorem J7(f:FE)(g:FG)(δ:UE)(L:UH):E8 f g δ L=(f δ L).bind fun p=>(g p.1 δ p.2).map fun q=>(.nx q.1,q.2):=rfl
@[simp] theorem Ag7(fi:FI)(g:FG)(b:FS)(δ:UE)(L:UH):P8 fi g b δ L=(fi δ L).bind fun p=>Jc p.1 g b (p.1.size p.2+1) 0 δ p.2:=rfl
@[simp] theorem Afe(f:FE)(δ:UE)(L:UH):En f δ L=(f δ L).bind fun p=>(Lc p.1 p.2).map fun i=>(i,p.2):=rfl
@[simp] theorem Aef(g:FA)(δ:UE)(L:UH):Rk g δ L=(g δ L).bind fun p=>match p.1 with
 | [.int j]=>if -(2 ^ 62)<=j/\j < 2 ^ 62 then some (.seq (Fp 0 j.toNat),p.2) else none
 | _=>none:=rfl
@[simp] theorem semAdd_int(i j:Int)(L:UH):Bl (.int i) (.int j) L=some (.int (i+j),L):=rfl
@[simp] theorem semSub_int(i j:Int)(L:UH):Mj (.int i) (.int j) L=some (.int (i - j),L):=rfl
@[simp] theorem Amo(i j:Int)(L:UH):Hj (.int i) (.int j) L=if Adt i j=true then some (.int (i * j),L) else none:=rfl
@[simp] theorem Amk(i j:Int)(L:UH):Am7 (.int i) (.int j) L=if Ajw i j=true then some (.int (i / j),L) else none:=rfl
@[simp] theorem Wj(i j:Int)(L:UH):Mo (.int i) (.int j) L=if decide (0 < j)=true then some (.int (i % j),L) else none:=rfl
@[simp] theorem Amx(i j:Int)(L:UH):Alk (.int i) (.int j) L=if Akp i j=true then some (.int (i ^ j.toNat),L) else none:=rfl
@[simp] theorem semLe_int(i j:Int)(L:UH):Gd (.int i) (.int j) L=some (.bl (decide (i<=j)),L):=rfl
@[simp] theorem Anp(i j:Int)(L:UH):Lr (.int i) (.int j) L=some (.bl (decide (i < j)),L):=rfl
@[simp] theorem semGt_int(i j:Int)(L:UH):Qq (.int i) (.int j) L=some (.bl (decide (j < i)),L):=rfl
@[simp] theorem Ano(i j:Int)(L:UH):Q3 (.int i) (.int j) L=some (.bl (decide (j<=i)),L):=rfl
@[simp] theorem Anq(i j:Int)(L:UH):Np (.int i) (.int j) L=some (.bl (i == j),L):=rfl
@[simp] theorem Abt(i j:Int)(L:UH):Ek (.int i) (.int j) L=some (.bl (!(i == j)),L):=rfl
@[simp] theorem Ao2(i j:Bool)(L:UH):Np (.bl i) (.bl j) L=some (.bl (i == j),L):=rfl
@[simp] theorem Anw(i j:Bool)(L:UH):Ek (.bl i) (.bl j) L=some (.bl (!(i == j)),L):=rfl
@[simp] theorem Aph(i j:Bool)(L:UH):Apv false (.bl i) (.bl j) L=some (.bl (i == j),L):=rfl
@[simp] theorem Q0(l:List U)(i:Int)(L:UH):B7 (.tup l) (.int i) L=(L2.atI l i).map fun z=>(z,L):=rfl
@[simp] theorem semIx_ref(n:Nat)(i:Int)(L:UH):B7 (.ref n) (.int i) L=(Bi L n).bind fun l=>(L2.atI l i).map fun z=>(z,L):=rfl
@[simp] theorem truU_bl(b:Bool)(L:UH):Ab4 (.bl b) L=some b:=rfl
theorem Cr{L:UH}{n:Nat}{us:List U}(h:L[n]? = some (.lst us)):Bi L n=some us:=by unfold Bi;rw[h]
theorem Rj{L:UH}{n:Nat}{us:List U}(h:L[n]? = some (.lst us)):Gy L n=some us:=by unfold Gy;rw[h]
theorem Ib{n:Nat}(h:n<=16777216):Gq n=true:=by unfold Gq sizeLine;exact decide_eq_true (by omega)
theorem Wa{β:Type}{l:List β}{i:Int}(h0:0<=i)(h:i < l.length):L2.atI l i=l[i.toNat]?:=by
 unfold L2.atI ixN
 rw[if_pos h0,if_pos h];rfl
theorem Anc{n:Nat}{i:Int}(h0:0<=i)(h:i < n):ixN n i=some i.toNat:=by
 unfold ixN
 rw[if_pos h0,if_pos h]
noncomputable def Ada(g:FG)(body:FS)(u:U)(δ:UE)(L:UH)(R:UE->UH->Prop):Prop:=∃ δ1 L1,g u δ L=some (δ1,L1)/\∃ δ2 L2,(body δ1 L1=some (.nx δ2,L2)\/body δ1 L1=some (.ct δ2,L2))/\R δ2 L2
theorem U1{it:IU}{g:FG}{body:FS}{us:List U}(P:Nat->UE->UH->Prop)(hat:∀ k δ L,k<=us.length->P k δ L->it.at k L=some us[k]?)
  (step:∀ k u δ L,us[k]? = some u->P k δ L->Ada g body u δ L (P (k+1))) :
  ∀ (m k:Nat) (δ:UE) (L:UH),us.length < m+k->k<=us.length->P k δ L->∃ δ' L',Jc it g body m k δ L=some (.nx δ',L')/\P us.length δ' L'
 | 0,k,δ,L,h1,h2,_=>by omega
 | m+1,k,δ,L,h1,h2,hP=>by
  have hk:=hat k δ L h2 hP
  unfold Jc
  rw[hk]
  cases hu:us[k]? with
  | none=>
   have:k=us.length:=by have:=cM.mp hu;omega
   subst this
   exact ⟨δ,L,rfl,hP⟩
  | some u=>
   have hlt:k < us.length:=(aZ.mp hu).1
   obtain ⟨δ1,L1,e1,δ2,L2,e2,hP2⟩:=step k u δ L hu hP
   obtain ⟨δ',L',e3,hP3⟩:=U1 P hat step m (k+1) δ2 L2 (by omega) (by omega) hP2
   refine ⟨δ',L',?_,hP3⟩
   rcases e2 with e2 | e2
   ·simp only[e1,aE,e2,e3]
   ·simp only[e1,aE,e2,e3]
theorem Agz{fi:FI}{g:FG}{body:FS}{us:List U}{δ:UE}{L L0:UH}(P:Nat->UE->UH->Prop)(hi:fi δ L=some (.seq us,L0))(h0:P 0 δ L0)(step:∀ k u δ L,us[k]? = some u->P k δ L->Ada g body u δ L (P (k+1))) :
  ∃ δ' L',P8 fi g body δ L=some (.nx δ',L')/\P us.length δ' L':=by
 obtain ⟨δ',L',e,h⟩:=U1 (it:=.seq us) (g:=g) (body:=body) (us:=us) P (fun _ _ _ _ _=>rfl) step (us.length+1) 0 δ L0 (by omega) (by omega) h0
 exact ⟨δ',L',by rw[Ag7,hi];exact e,h⟩
theorem Qs{L:UH}{n:Nat}{us:List U}(h:Bi L n=some us):Lc (.ref n) L=some (.ref n):=by
 unfold Bi at h
 unfold Lc
 simp only
 split at h
 ·rename_i e;first | rw[e] | rfl
 ·rename_i e;first | rw[e] | rfl
 ·cases h
theorem Xh{lo:Int}{n k:Nat}{u:U}(h:(Fp lo n)[k]? = some u):k < n/\u = .int (lo+k):=by
 unfold Fp at h
 rw[cB] at h
 by_cases hk:k < n
 ·rw[pX hk] at h
  simp at h
  exact ⟨hk,h.symm⟩
 ·rw[dF (by simpa using hk)] at h
  simp at h
theorem O0{lo:Int}{n:Nat}:(Fp lo n).length=n:=by simp[Fp]
@[simp] theorem Aoy(g:FA)(δ:UE)(L:UH):Anx g δ L=(g δ L).bind fun p=>match p.1 with
 | [.ref n]=>(Bi p.2 n).map fun _=>(.enm n,p.2)
 | _=>none:=rfl
@[simp] theorem Ap2(g:FA)(δ:UE)(L:UH):Aq5 g δ L=(g δ L).bind fun p=>match p.1 with
 | [.ref n,.ref m]=>(Bi p.2 n).bind fun _=>(Bi p.2 m).map fun _=>(.zip2 n m,p.2)
 | _=>none:=rfl
@[simp] theorem Ap5(f:FE)(δ:UE)(L:UH):Aqe f δ L=(f δ L).bind fun p=>match p.1 with | .ref n=>(Bi p.2 n).map fun l=>(.ref p.2.length,p.2++[.lst l.reverse]) | .tup l=>some (.tup l.reverse,p.2) | _=>none:=rfl
@[simp] theorem Apk(g:FA)(δ:UE)(L:UH):Aj0 g δ L=(g δ L).bind fun p=>match p.1 with
 | [.int i,.int j]=>if (-(2 ^ 62)<=i/\i < 2 ^ 62)/\(-(2 ^ 62)<=j/\j < 2 ^ 62) then some (.seq (Fp i (j - i).toNat),p.2) else none
 | _=>none:=by first | rfl | (unfold Aj0;rfl)
theorem O8{it:IU}{g:FG}{tt:Option FT}{fe:FE}{us:List U}(P:Nat->List U->UE->UH->Prop)(hat:∀ k acc δ L,k<=us.length->P k acc δ L->it.at k L=some us[k]?)
  (step:∀ k u acc δ L,us[k]? = some u->P k acc δ L->∃ δ1 L1,g u δ L=some (δ1,L1)/\∃ b L2,Ia tt δ1 L1=some (b,L2)/\(b=true->∃ r L3,fe δ1 L2=some (r,L3)/\acc.length < 16777216/\P (k+1) (acc++[r]) δ1 L3)/\(b=false->P (k+1) acc δ1 L2)) :
  ∀ (m k:Nat) (acc:List U) (δ:UE) (L:UH),us.length < m+k->k<=us.length->P k acc δ L->∃ ys δ' L',Pz it g tt fe m k acc δ L=some (ys,L')/\P us.length ys δ' L'
 | 0,k,acc,δ,L,h1,h2,_=>by omega
 | m+1,k,acc,δ,L,h1,h2,hP=>by
  have hk:=hat k acc δ L h2 hP
  unfold Pz
  rw[hk]
  cases hu:us[k]? with
  | none=>
   have:k=us.length:=by have:=cM.mp hu;omega
   subst this
   exact ⟨acc,δ,L,rfl,hP⟩
  | some u=>
   have hlt:k < us.length:=(aZ.mp hu).1
   obtain ⟨δ1,L1,e1,b,L2,e2,h3,h4⟩:=step k u acc δ L hu hP
   cases b with
   | true=>
    obtain ⟨r,L3,e3,hl,hP2⟩:=h3 rfl
    obtain ⟨ys,δ',L',e4,hP3⟩:=O8 P hat step m (k+1) (acc++[r]) δ1 L3 (by omega) (by omega) hP2
    refine ⟨ys,δ',L',?_,hP3⟩
    have hz:decide (acc.length < sizeLine)=true:=decide_eq_true (by unfold sizeLine;omega)
    simp only[e1,aE,e2,e3,if_true,hz,e4]
   | false=>
    obtain ⟨ys,δ',L',e4,hP3⟩:=O8 P hat step m (k+1) acc δ1 L2 (by omega) (by omega) (h4 rfl)
    refine ⟨ys,δ',L',?_,hP3⟩
    simp only[e1,aE,e2,e4,bL,if_false]
theorem Anv{ix:List (Option Nat)}{fi:FI}{it:IU}{g:FG}{tt:Option FT}{fe:FE}{us:List U}{δ:UE}{L L0:UH}(P:Nat->List U->UE->UH->Prop)(hi:fi δ L=some (it,L0))(hsz:us.length<=it.size L0)(h0:P 0 [] (Js ix δ) L0)
  (hat:∀ k acc δ L,k<=us.length->P k acc δ L->it.at k L=some us[k]?)
  (step:∀ k u acc δ L,us[k]? = some u->P k acc δ L->∃ δ1 L1,g u δ L=some (δ1,L1)/\∃ b L2,Ia tt δ1 L1=some (b,L2)/\(b=true->∃ r L3,fe δ1 L2=some (r,L3)/\acc.length < 16777216/\P (k+1) (acc++[r]) δ1 L3)/\(b=false->P (k+1) acc δ1 L2)) :
  ∃ ys δ' L',Eo ix fi g tt fe δ L=some (.ref L'.length,L'++[.lst ys])/\P us.length ys δ' L':=by
 obtain ⟨ys,δ',L',e,h⟩:=O8 P hat step (it.size L0+1) 0 [] (Js ix δ) L0 (by omega) (by omega) h0
 refine ⟨ys,δ',L',?_,h⟩
 unfold Eo
 simp only[hi,aE,e,aI]
theorem Afd{n k:Nat}{L:UH}{us:List U}(h:Bi L n=some us):(IU.ref n).at k L=some us[k]?:=by
 unfold Bi at h
 unfold IU.at
 simp only
 split at h
 ·rename_i e;cases h;first | rw[e] | rfl
 ·rename_i e;cases h;first | rw[e] | rfl
 ·cases h
theorem Te{n:Nat}{L:UH}{us:List U}(h:Bi L n=some us):(IU.ref n).size L=us.length:=by
 unfold Bi at h
 unfold IU.size
 simp only
 split at h
 ·rename_i e;cases h;first | rw[e] | rfl
 ·rename_i e;cases h;first | rw[e] | rfl
 ·cases h
theorem D3{β:Type}{ix:List (Option Nat)}{fi:FI}{it:IU}{g:FG}{tt:Option FT}{fe:FE}{δ:UE}{L L0:UH}(as:List β)(rep:β->U)(f:β->Bool)(e:β->U)(E:UE->Prop)(hi:fi δ L=some (it,L0))(hsz:as.length<=it.size L0)(hl:as.length < 16777216)(h0:E (Js ix δ))
  (hat:∀ k x,it.at k (L0++x)=some (as.map rep)[k]?)
  (step:∀ (a:β) δ x,a∈as->E δ->∃ δ1,g (rep a) δ (L0++x)=some (δ1,L0++x)/\E δ1/\∃ y,Ia tt δ1 (L0++x)=some (f a,L0++x++y)/\(f a=true->∃ z,fe δ1 (L0++x++y)=some (e a,L0++x++y++z))) :
  ∃ x,Eo ix fi g tt fe δ L=some (.ref (L0++x).length,L0++x++[.lst ((as.filter f).map e)]):=by
 obtain ⟨ys,δ',L',e1,⟨h1,h2,x,rfl⟩,h3⟩:=Anv (us:=as.map rep) (ix:=ix) (tt:=tt) (g:=g) (fe:=fe) (δ:=δ) (fun k acc δ L=>(acc=((as.take k).filter f).map e/\E δ/\∃ x,L=L0++x)/\acc.length<=k) hi (by simpa using hsz) ⟨⟨rfl,h0,[],by simp⟩,by simp⟩
  (fun k acc δ L _ zz=>by obtain ⟨⟨_,_,x,hx⟩,_⟩:=zz;rw[hx];exact hat k x)
  (fun k u acc δ L hu zz=>by
   obtain ⟨⟨ha,hE,x,hx⟩,hlen⟩:=zz
   subst hx
   rw[cB] at hu
   obtain ⟨a,hk,rfl⟩:=aK.mp hu
   have hk':=(aZ.mp hk).1
   obtain ⟨δ1,g1,E1,y,t1,r1⟩:=step a δ x (eS hk) hE
   have ht:as.take (k+1)=as.take k++[a]:=by
    rw[mY,hk];rfl
   refine ⟨δ1,_,g1,f a,_,t1,fun hf=>?_,fun hf=>?_⟩
   ·obtain ⟨z,q⟩:=r1 hf
    refine ⟨_,_,q,by omega,⟨?_,E1,x++y++z,by simp⟩,by simp;omega⟩
    rw[ha,ht];simp[hf]
   ·refine ⟨⟨?_,E1,x++y,by simp⟩,by omega⟩
    rw[ha,ht];simp[hf])
 refine ⟨x,?_⟩
 rw[e1,h1]
 simp
theorem M3{L x:UH}{n:Nat}{us:List U}(h:Bi L n=some us):Bi (L++x) n=some us:=by
 unfold Bi at h ⊢
 cases hn:L[n]? with
 | none=>rw[hn] at h;cases h
 | some o=>rw[bB (aZ.mp hn).1,hn];rw[hn] at h;exact h
noncomputable def Pl:Nat->U->Prop
 | _,.non=>True
 | _,.int _=>True
 | _,.str x=>iF x=true
 | n+1,.tup l=>∀ u∈l,Pl n u
 | _,_=>False
mutual
noncomputable def pd:U->tH
 | .non=>.none
 | .bl b=>.bool b
 | .int i=>.int i
 | .str x=>.str x
 | .tup l=>.tuple (pds l)
 | .ref _=>.none
noncomputable def pds:List U->List tH
 | []=>[]
 | u::r=>pd u::pds r
end
theorem Kz{n:Nat}{l:List U}:Pl (n+1) (.tup l)↔∀ u∈l,Pl n u:=by rw[Pl]
theorem Xp{L:UH}{n m:Nat}(ih:∀ u,Pl n u->toP L m u=some (pd u)):∀ l:List U,(∀ u∈l,Pl n u)->mapO (toP L m) l=some (pds l)
 | [],_=>rfl
 | u::r,h=>by
  simp only[mapO,ih u (h u (cN ..)),Xp ih r (fun x hx=>h x (bN _ hx)),aE,aI,pds]
theorem W2(L:UH):∀ (n m:Nat) (u:U),n < m->Pl n u->toP L m u=some (pd u)
 | n,0,u,h,_=>by omega
 | n,m+1,.non,_,_=>rfl
 | n,m+1,.int _,_,_=>rfl
 | n,m+1,.str _,_,_=>rfl
 | n,m+1,.bl _,_,h=>by cases n <;> exact absurd h (by simp[Pl])
 | n,m+1,.ref _,_,h=>by cases n <;> exact absurd h (by simp[Pl])
 | 0,m+1,.tup l,_,h=>absurd h (by simp[Pl])
 | n+1,m+1,.tup l,hm,h=>by
  have:=Xp (L:=L) (n:=n) (m:=m) (fun u hu=>W2 L n m u (by omega) hu) l (Kz.mp h)
  show (mapO (toP L m) l).map tH.tuple=_
  rw[this]
  rfl
theorem Xx{n:Nat}(ih:∀ u,Pl n u->iT (pd u)=true/\kD (pd u)<=n):∀ l:List U,(∀ u∈l,Pl n u)->rC (pds l)=true/\sP (pds l)<=n
 | [],_=>⟨rfl,eR _⟩
 | u::r,h=>by
  obtain ⟨a1,a2⟩:=ih u (h u (cN ..))
  obtain ⟨b1,b2⟩:=Xx ih r (fun x hx=>h x (bN _ hx))
  refine ⟨by simp[pds,rC,a1,b1],?_⟩
  simp only[pds,sP]
  omega
theorem Vr:∀ (n:Nat) (u:U),Pl n u->iT (pd u)=true/\kD (pd u)<=n
 | n,.non,_=>by simp[pd,iT,kD]
 | n,.int _,_=>by simp[pd,iT,kD]
 | n,.str x,h=>by
  have h':iF x=true:=by cases n <;> simpa[Pl] using h
  simp[pd,iT,kD,h']
 | n,.bl _,h=>by cases n <;> exact absurd h (by simp[Pl])
 | n,.ref _,h=>by cases n <;> exact absurd h (by simp[Pl])
 | 0,.tup l,h=>absurd h (by simp[Pl])
 | n+1,.tup l,h=>by
  obtain ⟨a,b⟩:=Xx (fun u hu=>Vr n u hu) l (Kz.mp h)
  simp only[pd,iT,kD]
  exact ⟨a,by omega⟩
theorem Pp{n:Nat}(ih:∀ u w,Pl n u->Pl n w->(dW (pd u) (pd w)=true↔u=w)):∀ l m:List U,(∀ u∈l,Pl n u)->(∀ u∈m,Pl n u)->(kR (pds l) (pds m)=true↔l=m)
 | [],[],_,_=>by simp[pds,kR]
 | [],_::_,_,_=>by simp[pds,kR]
 | _::_,[],_,_=>by simp[pds,kR]
 | u::l,w::m,h1,h2=>by
  simp only[pds,kR,iZ,ih u w (h1 u (cN ..)) (h2 w (cN ..)),Pp ih l m (fun x hx=>h1 x (bN _ hx)) (fun x hx=>h2 x (bN _ hx)),jN]
theorem Y9:∀ (n:Nat) (u w:U),Pl n u->Pl n w->(dW (pd u) (pd w)=true↔u=w)
 | n,.bl _,_,h,_=>by cases n <;> exact absurd h (by simp[Pl])
 | n,.ref _,_,h,_=>by cases n <;> exact absurd h (by simp[Pl])
 | n,_,.bl _,_,h=>by cases n <;> exact absurd h (by simp[Pl])
 | n,_,.ref _,_,h=>by cases n <;> exact absurd h (by simp[Pl])
 | 0,.tup _,_,h,_=>absurd h (by simp[Pl])
 | 0,_,.tup _,_,h=>absurd h (by simp[Pl])
 | n+1,.tup l,.tup m,h1,h2=>by
  simp only[pd,dW,U.tup.injEq]
  exact Pp (fun u w=>Y9 n u w) l m (Kz.mp h1) (Kz.mp h2)
 | n,.non,.non,_,_=>by simp[pd,dW]
 | n,.non,.int _,_,_=>by simp[pd,dW]
 | n,.non,.str _,_,_=>by simp[pd,dW]
 | n+1,.non,.tup _,_,_=>by simp[pd,dW]
 | n,.int _,.non,_,_=>by simp[pd,dW]
 | n,.int _,.int _,_,_=>by simp[pd,dW]
 | n,.int _,.str _,_,_=>by simp[pd,dW]
 | n+1,.int _,.tup _,_,_=>by simp[pd,dW]
 | n,.str _,.non,_,_=>by simp[pd,dW]
 | n,.str _,.int _,_,_=>by simp[pd,dW]
 | n,.str _,.str _,_,_=>by simp[pd,dW]
 | n+1,.str _,.tup _,_,_=>by simp[pd,dW]
 | n+1,.tup _,.non,_,_=>by simp[pd,dW]
 | n+1,.tup _,.int _,_,_=>by simp[pd,dW]
 | n+1,.tup _,.str _,_,_=>by simp[pd,dW]
noncomputable def eqB(u w:U):Bool:=dW (pd u) (pd w)
theorem Aiu{u w:U}(h1:Pl 6 u)(h2:Pl 6 w):eqB u w=true↔u=w:=Y9 6 u w h1 h2
theorem Lv{u:U}(h1:Pl 6 u):eqB u u=true:=(Aiu h1 h1).mpr rfl
theorem Afk{u w:U}(L:UH)(h1:Pl 6 u)(h2:Pl 6 w):eqP u w L=some (eqB u w):=by
 obtain ⟨a1,a2⟩:=Vr 6 u h1
 obtain ⟨b1,b2⟩:=Vr 6 w h2
 have s1:kC (pd u)=true:=by unfold kC;rw[a1];simp;omega
 have s2:kC (pd w)=true:=by unfold kC;rw[b1];simp;omega
 unfold eqP
 simp only[W2 L 6 8 u (by decide) h1,W2 L 6 8 w (by decide) h2,aE,s1,s2,and_self,if_true,eqB]
theorem Ox{u w:U}(L:UH)(h1:Pl 6 u)(h2:Pl 6 w):Np u w L=some (.bl (eqB u w),L):=by unfold Np;rw[Afk L h1 h2];rfl
theorem Acq{u w:U}(L:UH)(h1:Pl 6 u)(h2:Pl 6 w):Ek u w L=some (.bl (!eqB u w),L):=by unfold Ek;rw[Afk L h1 h2];rfl
theorem Pl.int(n:Nat)(i:Int):Pl n (.int i):=by cases n <;> exact trivial
theorem Ai2{g:FA}{δ:UE}{L L':UH}{j:Int}(hg:g δ L=some ([.int j],L'))(h0:0<=j)(h1:j < 1000000):Rk g δ L=some (.seq (Fp 0 j.toNat),L'):=by
 rw[Aef,hg]
 simp only[aE]
 rw[if_pos ⟨by omega,by omega⟩]
theorem Afs{g:FA}{δ:UE}{L L':UH}{n:Nat}(hg:g δ L=some ([.int n],L'))(h1:n < 1000000):Rk g δ L=some (.seq (Fp 0 n),L'):=by
 have:=Ai2 hg (by omega) (by omega)
 rwa [cO] at this
end MR
namespace Lw
open PySem L2 MR
theorem Qy{it:IU}{g:FG}{body:FS}{us:List U}(P:Nat->UE->UH->Prop)(R:Nat->UH->Prop)(stop:Nat->Bool)(val:Nat->U)(hat:∀ k δ L,k<=us.length->P k δ L->it.at k L=some us[k]?)
  (step:∀ k u δ L,us[k]? = some u->P k δ L->∃ δ1 L1,g u δ L=some (δ1,L1)/\(stop k=true->∃ L2,body δ1 L1=some (.rt (val k),L2)/\R k L2)/\(stop k=false->∃ δ2 L2,body δ1 L1=some (.nx δ2,L2)/\P (k+1) δ2 L2)) :
  ∀ (m k:Nat) (δ:UE) (L:UH),us.length < m+k->k<=us.length->P k δ L ->
   (∃ j,k<=j/\j < us.length/\stop j=true/\(∀ i,k<=i->i < j->stop i=false)/\∃ L',Jc it g body m k δ L=some (.rt (val j),L')/\R j L')\/((∀ i,k<=i->i < us.length->stop i=false)/\∃ δ' L',Jc it g body m k δ L=some (.nx δ',L')/\P us.length δ' L')
 | 0,k,δ,L,h,hk,_=>by omega
 | m+1,k,δ,L,h,hk,hP=>by
  have ha:=hat k δ L hk hP
  unfold Jc
  rw[ha]
  by_cases hlt:k < us.length
  ·rw[aH hlt]
   obtain ⟨δ1,L1,e1,s1,s2⟩:=step k _ δ L (aH hlt) hP
   simp only[e1,aE]
   cases hs:stop k with
   | true=>
    obtain ⟨L2,e2,r⟩:=s1 hs
    exact .inl ⟨k,aN _,hlt,hs,fun i h1 h2=>by omega,L2,by rw[e2];rfl,r⟩
   | false=>
    obtain ⟨δ2,L2,e2,p2⟩:=s2 hs
    have ih:=Qy P R stop val hat step m (k+1) δ2 L2 (by omega) (by omega) p2
    simp only[e2,aE]
    rcases ih with ⟨j,h1,h2,h3,h4,h5⟩ | ⟨h1,h2⟩
    ·refine .inl ⟨j,by omega,h2,h3,fun i i1 i2=>?_,h5⟩
     by_cases q:i=k
     ·rw[q];exact hs
     ·exact h4 i (by omega) i2
    ·refine .inr ⟨fun i i1 i2=>?_,h2⟩
     by_cases q:i=k
     ·rw[q];exact hs
     ·exact h1 i (by omega) i2
  ·have:k=us.length:=by omega
   subst this
   rw[dF (aN _)]
   exact .inr ⟨fun i i1 i2=>by omega,δ,L,rfl,hP⟩
theorem Ah3{fi:FI}{g:FG}{body:FS}{us:List U}{it:IU}{δ:UE}{L L0:UH}(P:Nat->UE->UH->Prop)(R:Nat->UH->Prop)(stop:Nat->Bool)(val:Nat->U)(hi:fi δ L=some (it,L0))(hsz:us.length<=it.size L0)(hat:∀ k δ L,k<=us.length->P k δ L->it.at k L=some us[k]?)(h0:P 0 δ L0)
  (step:∀ k u δ L,us[k]? = some u->P k δ L->∃ δ1 L1,g u δ L=some (δ1,L1)/\(stop k=true->∃ L2,body δ1 L1=some (.rt (val k),L2)/\R k L2)/\(stop k=false->∃ δ2 L2,body δ1 L1=some (.nx δ2,L2)/\P (k+1) δ2 L2)) :
   (∃ j,j < us.length/\stop j=true/\(∀ i,i < j->stop i=false)/\∃ L',P8 fi g body δ L=some (.rt (val j),L')/\R j L')\/((∀ i,i < us.length->stop i=false)/\∃ δ' L',P8 fi g body δ L=some (.nx δ',L')/\P us.length δ' L'):=by
 have:=Qy P R stop val hat step (it.size L0+1) 0 δ L0 (by omega) (by omega) h0
 unfold P8
 rw[hi]
 simp only[aE]
 rcases this with ⟨j,h1,h2,h3,h4,h5⟩ | ⟨h1,h2⟩
 ·exact .inl ⟨j,h2,h3,fun i q=>h4 i (by omega) q,h5⟩
 ·exact .inr ⟨fun i q=>h1 i (by omega) q,h2⟩
theorem Adj{fi:FI}{g:FG}{body:FS}{us:List U}{δ:UE}{L L0:UH}(P:Nat->UE->UH->Prop)(R:Nat->UH->Prop)(stop:Nat->Bool)(val:Nat->U)(hi:fi δ L=some (.seq us,L0))(h0:P 0 δ L0)
  (step:∀ k u δ L,us[k]? = some u->P k δ L->∃ δ1 L1,g u δ L=some (δ1,L1)/\(stop k=true->∃ L2,body δ1 L1=some (.rt (val k),L2)/\R k L2)/\(stop k=false->∃ δ2 L2,body δ1 L1=some (.nx δ2,L2)/\P (k+1) δ2 L2)) :
   (∃ j,j < us.length/\stop j=true/\(∀ i,i < j->stop i=false)/\∃ L',P8 fi g body δ L=some (.rt (val j),L')/\R j L')\/((∀ i,i < us.length->stop i=false)/\∃ δ' L',P8 fi g body δ L=some (.nx δ',L')/\P us.length δ' L'):=
 Ah3 P R stop val hi (by simp[IU.size]) (fun k δ L _ _=>rfl) h0 step
end Lw
namespace MR
open PySem PySem.Spec PyProof.Rows L2
section
variable {X:Cx}{pins:List (Addr×Obj)}{σ:L2.St}{H H':Hp}{s:aG}
theorem Inv.freeze{a:Addr}{o:Obj}{kvs:List (Key×V)}(I:L2.Inv X pins σ H s)(e:H a=some (.dK kvs))(ho:s.heap.get? a=some o):L2.Inv X pins σ (upd H a (.frz o (.dK kvs))) s:=by
 have tp:∀ b u,H b=some u->(∀ ks,u≠.dK ks)->upd H a (.frz o (.dK kvs)) b=some u:=fun b u q n=>by
  rw[Az (fun z=>by subst z;rw[e] at q;cases q;exact n _ rfl)];exact q
 refine I.un (t':=s.toks) (h':=s.heap) ⟨fun b ob q n _ _=>q,fun b ob q n _ _=>⟨ob.slots,q⟩,fun b ob q n _=>?_,fun b ob q _=>⟨ob,q⟩,fun b xs q=>tp b _ q fun ks z=>(nomatch z),fun b ob u q=>tp b _ q fun ks z=>(nomatch z),fun b ps q=>⟨#[],by rw[tp b _ q fun ks z=>(nomatch z)];simp⟩⟩ fun b u q=>?_
 ·rw[Az (fun z=>by subst z;rw[e] at n;cases n)];exact n
 ·have own:∀ c,H c=some (.own b)->upd H a (.frz o (.dK kvs)) c=some (.own b):=fun c z=>tp c _ z fun ks z=>(nomatch z)
  have tups:∀ c xs,H c=some (.tup xs)->upd H a (.frz o (.dK kvs)) c=some (.tup xs):=fun c xs z=>tp c _ z fun ks z=>(nomatch z)
  by_cases hb:b=a
  ·subst hb
   rw[upd_same] at q
   cases q
   exact ⟨ho,(I.hok b _ e).stay (fun _ _ _ z=>z) own tups⟩
  ·rw[Az hb] at q
   exact (I.hok b u q).stay (fun _ _ _ z=>z) own tups
noncomputable def Thaw(H H' H2:Hp):Prop:=∀ b,H2 b=H' b\/∃ o vs,H' b=some (.frz o (.dK vs))/\H2 b=some (.dK vs)/\∀ o u,H b≠some (.frz o u)
theorem Thaw.stay{H2:Hp}(t:Thaw H H' H2){b:Addr}{u:Option HO}(e:H' b=u)(n:∀ o ks,u≠some (.frz o (.dK ks))):H2 b=u:=by
 rcases t b with z | ⟨o,vs,z,_⟩
 ·rw[z];exact e
 ·rw[e] at z;exact absurd z (n _ _)
theorem Inv.thaw{pins0:List (Addr×Obj)}{σ0:L2.St}{s0:aG}{H2:Hp}(I0:L2.Inv X pins0 σ0 H s0)(I:L2.Inv X pins σ H' s)(t:Thaw H H' H2):L2.Inv X pins σ H2 s:=by
 have nn:∀ b,H' b=none->H2 b=none:=fun b e=>t.stay e fun _ _ z=>(nomatch z)
 refine ⟨I.ok,I.os,I.bare,⟨I.base.keep,I.base.slot,fun b o e n hx=>nn b (I.base.free b o e n hx),I.base.there,fun b xs e=>t.stay (I.base.tups b xs e) fun _ _ z=>(nomatch z),fun b o u e=>?_,fun b ps e=>?_⟩,I.loc,I.cell,nn _ I.free,fun x c e=>nn _ (I.freeC x c e),fun p hp=>?_,fun a o e=>?_,I.len⟩
 ·have h0:=I0.base.frzs b o u e
  rcases t b with z | ⟨o',vs,_,_,z⟩
  ·rw[z];exact I.base.frzs b o u e
  ·exact absurd h0 (z _ _)
 ·obtain ⟨more,q⟩:=I.base.tbls b ps e
  exact ⟨more,t.stay q fun _ _ z=>(nomatch z)⟩
 ·obtain ⟨h1,h2,h3⟩:=I.pin p hp
  exact ⟨h1,nn _ h2,h3⟩
 ·have own:∀ c,H' c=some (.own a)->H2 c=some (.own a):=fun c z=>t.stay z fun _ _ z=>(nomatch z)
  have tups:∀ c xs,H' c=some (.tup xs)->H2 c=some (.tup xs):=fun c xs z=>t.stay z fun _ _ z=>(nomatch z)
  rcases t a with z | ⟨o',vs,z1,z2,_⟩
  ·rw[z] at e
   exact (I.hok a o e).stay (fun _ _ _ z=>z) own tups
  ·rw[z2] at e
   cases e
   exact (show ObjOk X.prog X.w H' s.heap a (.dK vs) from (I.hok a _ z1).2).stay (fun _ _ _ z=>z) own tups
theorem Ag3{e:Expr}{t:TE}(h:PE X e t):PE X e (fun σ H Q=>t σ H fun x H'=>∃ H2,Thaw H H' H2/\Q x H2):=fun pins s σ H Q I q=>
 thn (h pins s σ H _ I q) fun v s1 zz=>by obtain ⟨x,H1,I1,r,H2,th,q⟩:=zz;exact ⟨x,H2,Inv.thaw I I1 th,r,q⟩
end
section
variable {K:aD}{H H':Hp}{α:List Addr}
mutual
theorem RepU.via(g:∀ a xs,SqT K H a xs->SqT K H' a xs):∀ (u:U) (v:V),RepU K H α u v->RepU K H' α u v
 | .non,_,h=>h
 | .bl _,_,h=>h
 | .int _,_,h=>h
 | .str _,_,h=>h
 | .tup l,v,h=>by
  unfold RepU at h ⊢
  obtain ⟨a,xs,e,s,r⟩:=h
  exact ⟨a,xs,e,g _ _ s,RepL.via g l xs r⟩
 | .ref n,v,h=>by
  unfold RepU at h ⊢
  exact h
theorem RepL.via(g:∀ a xs,SqT K H a xs->SqT K H' a xs):∀ (l:List U) (xs:List V),RepL K H α l xs->RepL K H' α l xs
 | [],xs,h=>h
 | u::l,xs,h=>by
  unfold RepL at h ⊢
  obtain ⟨x,r,e,h1,h2⟩:=h
  exact ⟨x,r,e,RepU.via g u x h1,RepL.via g l r h2⟩
end
end
noncomputable def Jt:Option HU->Option HU->Option HU
 | some (.dic _),some (.rod kvs)=>some (.dic kvs)
 | _,x=>x
noncomputable def Dx:UH->UH->UH
 | [],L'=>L'
 | _::_,[]=>[]
 | .dic _::L,.rod kvs::L'=>.dic kvs::Dx L L'
 | _::L,x::L'=>x::Dx L L'
theorem Lf:∀ (L L':UH),(Dx L L').length=L'.length
 | [],L'=>by unfold Dx;rfl
 | a::L,[]=>by unfold Dx;rfl
 | a::L,x::L'=>by
  cases a <;> cases x <;> simp[Dx,Lf L L']
theorem Oq:∀ (L L':UH) (n:Nat),(Dx L L')[n]? = Jt L[n]? L'[n]?
 | [],L',n=>by
  unfold Dx
  cases h:L'[n]? <;> simp[Jt]
 | a::L,[],n=>by
  unfold Dx
  cases h:(a::L)[n]? with
  | none=>simp[Jt]
  | some w=>cases w <;> simp[Jt]
 | a::L,x::L',0=>by
  cases a <;> cases x <;> simp[Dx,Jt]
 | a::L,x::L',n+1=>by
  have:=Oq L L' n
  cases a <;> cases x <;> simpa[Dx] using this
theorem Pq{a:Option HU}{x y:HU}(h:Jt a (some x)=some y):y.isRo=x.isRo/\(x.isRo=true->y=x):=by
 unfold Jt at h
 split at h
 ·rename_i h1 h2
  cases h2;cases h
  exact ⟨rfl,fun z=>(nomatch z)⟩
 ·cases h;exact ⟨rfl,fun _=>rfl⟩
theorem Ady{K:aD}{H H':Hp}{α α':List Addr}{L L':UH}(A:Abs K H α L)(g:Gr H α H' α')(A':Abs K H' α' L') :
  ∃ H2,Thaw H H' H2/\Gr H α H2 α'/\Abs K H2 α' (Dx L L')/\(∀ u v,RepU K H' α' u v->RepU K H2 α' u v):=by
 classical
 let T:Addr->Prop:=fun b=>∃ (n:Nat) (kvs kws:List (Key×U)),α'[n]? = some b/\L[n]? = some (HU.dic kvs)/\L'[n]? = some (HU.rod kws)
 let H2:Hp:=fun b=>if T b then (match H' b with | some (.frz o (.dK vs))=>some (.dK vs) | x=>x) else H' b
 have Tfrz:∀ b,T b->∃ o vs,H' b=some (.frz o (.dK vs)):=by
  rintro b ⟨n,kvs,kws,e1,e2,e3⟩
  obtain ⟨o,vs,q,_⟩:=A'.rep n b _ e1 e3
  exact ⟨o,vs,q⟩
 have Told:∀ b,T b->∃ vs,H b=some (.dK vs):=by
  rintro b ⟨n,kvs,kws,e1,e2,e3⟩
  obtain ⟨a,ea,vs,q,_⟩:=A.addr e2
  have:=g.at ea
  rw[e1] at this;cases this
  exact ⟨vs,q⟩
 have on:∀ b o vs,T b->H' b=some (.frz o (.dK vs))->H2 b=some (.dK vs):=fun b o vs t e=>by
  show (if T b then _ else _)=_
  rw[if_pos t,e]
 have off:∀ b,¬ T b->H2 b=H' b:=fun b t=>by
  show (if T b then _ else _)=_
  rw[if_neg t]
 have th:Thaw H H' H2:=fun b=>by
  by_cases t:T b
  ·obtain ⟨o,vs,e⟩:=Tfrz b t
   obtain ⟨ws,e0⟩:=Told b t
   exact .inr ⟨o,vs,e,on b o vs t e,fun o u z=>by rw[e0] at z;cases z⟩
  ·exact .inl (off b t)
 have sq:∀ a xs,SqT K H' a xs->SqT K H2 a xs:=fun a xs h=>by
  rcases h with (h | ⟨o,h⟩) | h
  ·exact .inl (.inl (th.stay h fun _ _ z=>(nomatch z)))
  ·exact .inl (.inr ⟨o,th.stay h fun _ _ z=>(nomatch z)⟩)
  ·exact .inr h
 have gr:Gr H α H2 α':=⟨g.pre,fun b xs q=>th.stay (g.st.1 b xs q) fun _ _ z=>(nomatch z),fun b o u q=>by
  rcases th b with z | ⟨_,_,_,_,z⟩
  ·rw[z];exact g.st.2 b o u q
  ·exact absurd q (z _ _)⟩
 refine ⟨H2,th,gr,⟨?_,fun i j a o o' e1 e2 e3 e4=>?_,fun i a o e1 e2=>?_⟩,fun u v r=>RepU.via sq u v r⟩
 ·rw[Lf];exact A'.len
 ·rw[Oq] at e3 e4
  cases q1:L'[i]? with
  | none=>rw[q1] at e3;unfold Jt at e3;split at e3 <;> cases e3;rename_i z;cases z
  | some x1=>
   cases q2:L'[j]? with
   | none=>rw[q2] at e4;unfold Jt at e4;split at e4 <;> cases e4;rename_i z;cases z
   | some x2=>
    rw[q1] at e3
    rw[q2] at e4
    rw[(Pq e3).1,(Pq e4).1]
    exact A'.inj i j a x1 x2 e1 e2 q1 q2
 ·rw[Oq] at e2
  cases q1:L'[i]? with
  | none=>rw[q1] at e2;unfold Jt at e2;split at e2 <;> cases e2;rename_i z;cases z
  | some x1=>
   rw[q1] at e2
   have hr:=A'.rep i a x1 e1 q1
   by_cases t:T a
   ·obtain ⟨o',vs,ef⟩:=Tfrz a t
    obtain ⟨n,kvs,kws,n1,n2,n3⟩:=id t
    rcases A'.inj i n a x1 _ e1 n1 q1 n3 with z | z | z
    ·subst z
     rw[q1] at n3;cases n3
     rw[n2] at e2
     cases e2
     obtain ⟨o2,ws,f1,f2,f3⟩:=hr
     exact ⟨ws,on a o2 ws t f1,f2,RepL.via sq _ _ f3⟩
    ·have:=(Pq e2).2 z
     subst this
     cases o with
     | ro us=>
      obtain ⟨xs,f1,f2⟩:=hr
      refine ⟨xs,?_,RepL.via sq _ _ f2⟩
      rcases f1 with ⟨o2,f1⟩ | f1
      ·rw[ef] at f1;cases f1
      ·exact .inr f1
     | _=>cases z
    ·cases z
   ·have same:o=x1:=by
     unfold Jt at e2
     split at e2
     ·rename_i h1 h2
      cases h2
      exact absurd ⟨i,_,_,e1,h1,q1⟩ t
     ·cases e2;rfl
    subst same
    have ea:=off a t
    cases o with
    | lst us=>obtain ⟨xs,f1,f2⟩:=hr;exact ⟨xs,by rw[ea];exact f1,RepL.via sq _ _ f2⟩
    | ro us=>
     obtain ⟨xs,f1,f2⟩:=hr
     refine ⟨xs,?_,RepL.via sq _ _ f2⟩
     rcases f1 with ⟨o2,f1⟩ | f1
     ·exact .inl ⟨o2,by rw[ea];exact f1⟩
     ·exact .inr f1
    | dic kvs=>obtain ⟨vs,f1,f2,f3⟩:=hr;exact ⟨vs,by rw[ea];exact f1,f2,RepL.via sq _ _ f3⟩
    | rod kvs=>obtain ⟨o2,vs,f1,f2,f3⟩:=hr;exact ⟨o2,vs,by rw[ea];exact f1,f2,RepL.via sq _ _ f3⟩
    | ins C fs=>obtain ⟨Ca,dx,vs,n,f1,f2,f3⟩:=hr;exact ⟨Ca,dx,vs,n,by rw[ea];exact f1,f2,RepL.via sq _ _ f3⟩
    | exc C fr fs=>obtain ⟨Ca,dd,vs,n,f1,f0,f2,f3⟩:=hr;exact ⟨Ca,dd,vs,n,by rw[ea];exact f1,f0.stay fun b o ws q=>th.stay q fun _ _ z=>(nomatch z),f2,RepL.via sq _ _ f3⟩
noncomputable def Aaa(f:FE):FE:=fun δ L=>(f δ L).map fun p=>(p.1,Dx L p.2)
theorem Ai3{X:Cx}{e:Expr}{f:FE}(h:PEF X e f):PEF X e (Aaa f):=by
 refine PE.imp (Ag3 h) ?_
 rintro σ H Q ⟨α,δ,L,A,S,z,L3,e,q⟩
 obtain ⟨⟨z',L1⟩,e1,e⟩:=aK.mp e
 cases e
 refine ⟨α,δ,L,A,S,z',L1,e1,fun v H1 α1 g1 A1 r1=>?_⟩
 obtain ⟨H2,th,g2,A2,r2⟩:=Ady A g1 A1
 exact ⟨H2,th,q v H2 α1 g2 A2 (r2 _ _ r1)⟩
structure DObj(P:bQ)(w:cC)(o:Obj)(kvs:List (Key×V))(vs:List (Key×aC))(ep:Nat):Prop where
 rel:KV kvs vs
 at_:∀ (h:Heap) (d:Addr),h.get? d=some o->h.DictAt (B9 P w) d vs ep
noncomputable def Itv(d:Addr)(o:Obj)(xs:List V):It:=⟨fun i H=>(∃ u,H d=some (.frz o u))/\i < xs.length,fun i H x H'=>H'=H/\xs[i]? = some x,fun i H=>(∃ u,H d=some (.frz o u))/\xs.length<=i⟩
theorem KV.at_:∀ {kvs:List (Key×V)} {vs:List (Key×aC)} {i:Nat} {p:Key×aC},KV kvs vs->vs[i]? = some p->∃ q,kvs[i]? = some q/\q.1=p.1/\RelV q.2 p.2
 | _,_,i,p,.nil,e=>by simp at e
 | _,_,0,p,.cons r t,e=>by simp at e;subst e;exact ⟨_,rfl,r⟩
 | _,_,i+1,p,.cons r t,e=>by simpa using KV.at_ (i:=i) t (by simpa using e)
section
variable {P:bQ}{w:cC}{K:aD}{d it:Addr}{o:Obj}{kvs:List (Key×V)}{vs:List (Key×aC)}{ep:Nat}
theorem Abi{tg:Expr}(D:DObj P w o kvs vs ep):Turn P w K tg (Itv d o (kvs.map fun kv=>kv.2)) [it] it (fun i h=>h.IsValIter it d i vs.length ep) where
 mem:=by simp
 obj:=fun i h st b hb=>by
  have e:b=it:=by simpa using hb
  subst e
  obtain ⟨o,e,c,d⟩:=st
  exact ⟨o,e,fun v z=>by rw[d] at z;cases z⟩
 keep:=fun i h h' st k=>st.at fun o e=>k it (by simp) o e
 item:=by
  intro X hP hw hK hc i pins s σ H E I hf st hg
  subst hP hw hK
  obtain ⟨⟨u,hd⟩,hi⟩:=hg
  have da:=D.at_ s.heap d (I.hok d _ hd).1
  have hl:=KV.length D.rel
  have hi':i < vs.length:=by rw[<- hl];simpa using hi
  obtain ⟨⟨k,x⟩,hx⟩:∃ p,vs[i]? = some p:=⟨vs[i],by simp[hi']⟩
  obtain ⟨q,hq,q1,q2⟩:=KV.at_ D.rel hx
  obtain ⟨f0,f1,f2,f3,f4,f5⟩:=hf it (by simp)
  refine wpAny_pyNext_values_item st da hx fun h' st' sb=>?_
  have I1:L2.Inv X pins σ H { s with heap:=h' }:=I.turned (t':=s.toks) (fun b o hb e=>(sb.2 b hb).trans e) f0 f1 f3 f4 f5
  refine ⟨x,rfl,letGo_valiter (s':={ s with heap:=h' }) st' ⟨q.2,H,I1,q2,⟨rfl,?_⟩,st',fun b hb=>(hf b hb).1⟩⟩
  rw[cB,hq]
  rfl
 done:=by
  intro X hP hw hK hc i pins s σ H E I hf st hg
  subst hP hw hK
  obtain ⟨⟨u,hd⟩,hi⟩:=hg
  have da:=D.at_ s.heap d (I.hok d _ hd).1
  have hl:=KV.length D.rel
  obtain ⟨f0,f1,f2,f3,f4,f5⟩:=hf it (by simp)
  exact wpAny_pyNext_values_end (I.ok.hd hc) st da (dF (by rw[<- hl];simpa using hi)) fun h' eb=>⟨rfl,I.turned (t':=s.toks) (fun b o hb e=>eb b o hb e) f0 f1 f3 f4 f5⟩
 self:=fun _ _ _ _ _ st h=>wpAny_pyIter_valiter st h
end
section
variable {X:Cx}{tg o e:Expr}{apos cpos:Pos}{td:TE}
structure M0(X:Cx)(o:Expr)(m:Str)(apos cpos:Pos):Prop where
 base:attributeBase o m X.env (eval o X.env)=eval o X.env
 few:((backTo cpos (bP [] X.env)).all (fun x=>!x.1)&&(backToKw cpos (keywordEach [] X.env)).all (fun x=>x.1.isSome)
  && decide (([]:List Expr).length+([]:List jL).length+(if ([]:List jL).isEmpty then 0 else 1) < 30))=true
 line:(apos.endLine == cpos.line)=true
 trees:backTo cpos (bP [] X.env)=[]
theorem R0{pins:List (Addr×Obj)}{σ:L2.St}{H:Hp}{s:aG}{a:Addr}{kvs:List (Key×V)}(I:L2.Inv X pins σ H s)(e:H a=some (.dK kvs)) :
  (a == sysModules)=false/\∃ ob vs ep,s.heap.get? a=some ob/\DObj X.prog X.w ob kvs vs ep:=by
 obtain ⟨z,hd,vs,rel,ob,es,ep,h1,h2⟩:=Uw I.hok e
 exact ⟨hd,ob,vs,ep,h1,rel,fun h d hg=>⟨ob,es,hg,h2⟩⟩
noncomputable def Apg(td:TE):TI:=fun σ H R=>td σ H fun x H1=>∃ a kvs,x = .ref a/\H1 a=some (.dK kvs)/\∀ ob,R (Itv a ob (kvs.map fun kv=>kv.2)) (upd H1 a (.frz ob (.dK kvs)))
theorem Aie{pins:List (Addr×Obj)}{σ:L2.St}{H:Hp}{s:aG}{a:Addr}{ob:Obj}{kvs:List (Key×V)}(I:L2.Inv X pins σ H s)(e:H a=some (.dK kvs)) :
  ∀ b∈[s.heap.objs.size],Ig X pins (upd H a (.frz ob (.dK kvs))) b:=fun b hb=>by
 have q:b=s.heap.objs.size:=by simpa using hb
 subst q
 have hn:=I.hok.fresh (aN _)
 exact L2.Inv.fpOk I (aN _) (by rw[Az (fun z=>by rw[z,e] at hn;cases hn)];exact hn)
theorem Aiy(hl:PE X o td)(m:M0 X o "values" apos cpos):PI X tg (.Call (.Attribute o "values" apos) [] [] cpos) (Apg td):=by
 intro pins s σ H R I h
 refine mW m.base m.few m.line jU gX nM (thn (hl pins s σ H _ I h) fun u s1 zz=>zz.elim fun x H1 I1 rx zq=>?_)
 obtain ⟨a,kvs,ex,ea,q⟩:=zq
 subst ex
 obtain rfl:u=cP a:=rx
 obtain ⟨t1,t2,_⟩:=Wn I1 (.inl ⟨kvs,.inl ea⟩)
 refine ⟨t1,t2,?_⟩
 rw[m.trees]
 obtain ⟨hd,ob,vs,ep,ho,D⟩:=R0 I1 ea
 have da:=D.at_ _ _ ho
 refine kB rfl (pY ?_)
 refine qZ gX t1 mR (mK _) (rD (B9 X.prog X.w) a hd) ⟨⟨vs,da.dictOf⟩,?_⟩
 have I2:L2.Inv X pins σ H1 { s1 with heap:=s1.heap.push { cls:=.type "dict_values",data:=.fields #[.ref a] } }:=I1.kept (t':=s1.toks) fun b o e=>aF _ e
 obtain ⟨hd,ob,vs,ep,ho,D⟩:=R0 I2 ea
 have da:=D.at_ _ _ ho
 refine wpAny_pyIter_values ⟨_,aP _ rfl,rfl,rfl⟩ da ?_
 have I3:=I2.kept (t':=s1.toks) (h':=(s1.heap.push { cls:=.type "dict_values",data:=.fields #[.ref a] }).push { cls:=.type "dict_valueiterator",data:=.fields #[.ref a,.int 0 0,.int vs.length 0,.int ep 0] }) fun b o e=>aF _ e
 exact ⟨_,[_],_,_,_,rfl,Inv.freeze I3 ea (aF _ ho),Abi D,⟨_,aP _ rfl,rfl,rfl⟩,Aie I2 ea,q ob⟩
end
noncomputable def Qz(kvs:List (Key×U)):List U:=kvs.map fun kv=>kv.2
noncomputable def Qx(v:List (Key×U)->List U)(f:FE):FI:=fun δ L=>(f δ L).bind fun p=>match p.1 with
 | .ref n=>(dicAt p.2 n).map fun kvs=>(.seq (v kvs),p.2.set n (.rod kvs))
 | _=>none
section
variable {K:aD}{H:Hp}{α:List Addr}{L:UH}{a:Addr}{ob:Obj}
theorem Ai7{u:HO}{us:List U}{xs:List V}(e:H a=some (.frz ob u))(r:RepL K H α us xs):Ng K (Itv a ob xs) (.seq us) H α:=by
 intro H2 α2 L2 g A2 k
 have e2:=g.st.2 _ _ _ e
 have r2:=r.mono g
 refine ⟨fun w eu=>?_,fun eu=>?_⟩
 ·have eu:us[k]? = some w:=by simpa[IU.at] using eu
  obtain ⟨x,hx,rx⟩:=r2.get eu
  refine ⟨⟨⟨u,e2⟩,(aZ.mp hx).1⟩,?_⟩
  rintro y H3 ⟨rfl,hy⟩
  rw[hx] at hy;cases hy
  exact ⟨.refl _ _,A2,rx⟩
 ·have eu:us[k]? = none:=by simpa[IU.at] using eu
  exact ⟨⟨u,e2⟩,by rw[<- r2.length];exact cM.mp eu⟩
theorem Xd{n:Nat}{kvs:List (Key×U)}{vs:List (Key×V)}(A:Abs K H α L)(h:dicAt L n=some kvs)(ea:α[n]? = some a)(e:H a=some (.dK vs))(r:RepKV K H α kvs vs)(ob:Obj) :
  Gr H α (upd H a (.frz ob (.dK vs))) α/\Abs K (upd H a (.frz ob (.dK vs))) α (L.set n (.rod kvs)):=by
 have g:Gr H α (upd H a (.frz ob (.dK vs))) α:=⟨⟨[],by simp⟩,.write e (by exact trivial) _⟩
 obtain ⟨A',_⟩:=A.put (o:=.frz ob (.dK vs)) (u:=.rod kvs) ea (Ks h) rfl rfl e (by exact trivial) ⟨ob,vs,upd_same,(r.mono g).1,(r.mono g).2⟩
 exact ⟨g,A'⟩
end
section
variable {X:Cx}{tg o:Expr}{apos cpos:Pos}{fo:FE}
theorem Aaq{v:List (Key×U)->List U}{J:Addr->Obj->List (Key×V)->It}(hJ:∀ (H:Hp) (α:List Addr) (a:Addr) (ob:Obj) (u:HO) (kvs:List (Key×U)) (vs:List (Key×V)),H a=some (.frz ob u)->RepKV X.K H α kvs vs->Ng X.K (J a ob vs) (.seq (v kvs)) H α)
  {σ:L2.St} {H:Hp} {R:It->Hp->Prop} (h:lI X.K (Qx v fo) σ H R):lE X.K fo σ H fun x H1=>∃ a kvs,x = .ref a/\H1 a=some (.dK kvs)/\∀ ob,R (J a ob kvs) (upd H1 a (.frz ob (.dK kvs))):=by
 obtain ⟨α,δ,L,A,S,i,L3,e,q⟩:=h
 obtain ⟨⟨u,L1⟩,e1,e⟩:=aA.mp e
 simp only at e
 split at e
 ·obtain ⟨kvs,hd,e⟩:=aK.mp e
  cases e
  refine ⟨α,δ,L,A,S,_,_,e1,fun x H1 α1 g1 A1 r1=>?_⟩
  obtain ⟨a,vs,rfl,ea,ha,rk⟩:=Gi A1 hd r1
  refine ⟨a,vs,rfl,ha,fun ob=>?_⟩
  obtain ⟨g2,A2⟩:=Xd A1 hd ea ha rk ob
  exact q _ _ _ (g1.trans g2) A2 (hJ _ _ _ _ _ _ _ upd_same (rk.mono g2))
 ·cases e
noncomputable def Anu(a:Addr)(ob:Obj)(vs:List (Key×V)):It:=Itv a ob (vs.map fun kv=>kv.2)
theorem Adp(ho:PEF X o fo)(m:M0 X o "values" apos cpos):PIF X tg (.Call (.Attribute o "values" apos) [] [] cpos) (Qx Qz fo):=
 PI.imp (Aiy ho m) fun _ _ _ h=>Aaq (J:=Anu) (fun _ _ _ _ _ _ _ e r=>Ai7 e r.2) h
noncomputable def Aok:R2:=fun y x H Q=>∃ a r,x = .ref a/\DGet H a y r/\Q (.bl r.isSome) H
noncomputable def Yx:R2:=fun y x H Q=>∃ a r,x = .ref a/\DGet H a y r/\Q (.bl (!r.isSome)) H
theorem Ann(hu:X.A.units+64 < cLine):OpR X (eQ .In) Aok:=by
 intro pins s σ H x y u w Q I rx ry h
 obtain ⟨a,r,rfl,g,q⟩:=h
 obtain rfl:w=cP a:=ry
 exact Ara (by omega) I g rx fun s' I'=>⟨.bl _,H,I',rfl,q⟩
theorem Aam(hu:X.A.units+64 < cLine):OpR X (eQ .NotIn) Yx:=by
 intro pins s σ H x y u w Q I rx ry h
 obtain ⟨a,r,rfl,g,q⟩:=h
 obtain rfl:w=cP a:=ry
 exact Aip (by omega) I g rx fun s' I'=>⟨.bl _,H,I',rfl,q⟩
noncomputable def Mv:S2:=fun y x L=>match x with
 | .ref n=>(toK y).bind fun k=>(dicAt L n).map fun kvs=>(.bl (Gm kvs k).isSome,L)
 | _=>none
noncomputable def Hy:S2:=fun y x L=>match x with
 | .ref n=>(toK y).bind fun k=>(dicAt L n).map fun kvs=>(.bl (!(Gm kvs k).isSome),L)
 | _=>none
theorem find_any(k:Key):∀ kvs:List (Key×U),(kvs.find? fun kv=>decide (kv.1=k)).isSome=kvs.any fun kv=>decide (kv.1=k)
 | []=>rfl
 | kv::kvs=>by
  rw[dL,gG]
  by_cases h:kv.1=k
  ·simp[h]
  ·simp only[h,decide_false,tW]
   exact find_any k kvs
theorem RepKV.some{K:aD}{H:Hp}{α:List Addr}{kvs:List (Key×U)}{vs:List (Key×V)}(r:RepKV K H α kvs vs)(k:Key):(Gm kvs k).isSome=(Jr vs k).isSome:=by
 have h1:(Gm kvs k).isSome=kvs.any fun kv=>decide (kv.1=k):=by
  unfold Gm
  rw[iN]
  exact find_any k kvs
 rw[h1,r.any,Ou]
theorem Agq{K:aD}:Dm K Aok Mv:=by
 intro H α L u w x y z L' Q A ru rw' e q
 unfold Mv at e
 split at e
 ·obtain ⟨k,hk,e⟩:=aA.mp e
  obtain ⟨kvs,hd,e⟩:=aK.mp e
  cases e
  obtain ⟨a,vs,rfl,ea,ha,rk⟩:=Gi A hd rw'
  refine ⟨a,_,rfl,by rw[K1 ru hk];exact DGet.k ha,?_⟩
  rw[<- rk.some k]
  exact q _ H α (.refl _ _) A rfl
 ·cases e
theorem Xg{K:aD}:Dm K Yx Hy:=by
 intro H α L u w x y z L' Q A ru rw' e q
 unfold Hy at e
 split at e
 ·obtain ⟨k,hk,e⟩:=aA.mp e
  obtain ⟨kvs,hd,e⟩:=aK.mp e
  cases e
  obtain ⟨a,vs,rfl,ea,ha,rk⟩:=Gi A hd rw'
  refine ⟨a,_,rfl,by rw[K1 ru hk];exact DGet.k ha,?_⟩
  rw[<- rk.some k]
  exact q _ H α (.refl _ _) A rfl
 ·cases e
end
noncomputable def Ve(kvs:List (Key×U))(k:Key):List (Key×U):=kvs.filter fun kv=>decide (kv.1≠k)
theorem RepKV.drop{K:aD}{H:Hp}{α:List Addr}(k:Key):∀ {kvs:List (Key×U)} {vs:List (Key×V)},RepKV K H α kvs vs->RepKV K H α (Ve kvs k) (Oc vs k)
 | [],vs,r=>by
  have:=r.1
  cases vs with
  | nil=>exact .nil
  | cons _ _=>simp at this
 | kv::kvs,vs,r=>by
  obtain ⟨x,vs',rfl,rx,r'⟩:=r.cons
  unfold Ve Oc
  rw[iA,iA]
  by_cases h:kv.1=k
  ·simp only[h,ne_eq,not_true_eq_false,decide_false,bL,if_false]
   exact RepKV.drop k r'
  ·simp only[h,ne_eq,not_false_eq_true,decide_true,if_true]
   exact .mk rx (RepKV.drop k r')
noncomputable def Yi(fo fe:FE):FE:=fun δ L=>(fo δ L).bind fun p=>match p.1 with
 | .ref n=>(dicAt p.2 n).bind fun _=>(fe δ p.2).bind fun q=>(toK q.1).bind fun k=>(dicAt q.2 n).bind fun kvs=>(Gm kvs k).map fun u=>(u,q.2.set n (.dic (Ve kvs k)))
 | _=>none
theorem Ajb{X:Cx}{o e:Expr}{apos cpos:Pos}{fo fe:FE}(ho:PEF X o fo)(he:PEF X e fe)(m:M1 X o "pop" apos e cpos):PEF X (.Call (.Attribute o "pop" apos) [e] [] cpos) (Yi fo fe):=by
 refine PE.imp (Ack ho he m) ?_
 rintro σ H Q ⟨α,δ,L,A,S,z,L3,e,q⟩
 obtain ⟨⟨u,L1⟩,e1,e⟩:=aA.mp e
 simp only at e
 split at e
 ·obtain ⟨kvs0,hd0,e⟩:=aA.mp e
  obtain ⟨⟨w,L2⟩,e2,e⟩:=aA.mp e
  obtain ⟨k,hk,e⟩:=aA.mp e
  obtain ⟨kvs,hd,e⟩:=aA.mp e
  obtain ⟨v,hv,e⟩:=aK.mp e
  cases e
  refine ⟨α,δ,L,A,S,_,L1,e1,fun x H1 α1 g1 A1 r1=>?_⟩
  obtain ⟨a,vs0,rfl,ea0,ha0,rk0⟩:=Gi A1 hd0 r1
  refine ⟨a,rfl,.inl ⟨vs0,.inl ha0⟩,α1,δ,L1,A1,S.mono g1,w,L2,e2,fun y H2 α2 g2 A2 r2=>?_⟩
  obtain ⟨a',vs,e',ea,ha,rk⟩:=Gi A2 hd (r1.mono g2)
  cases e'
  obtain ⟨x',hx',rx'⟩:=rk.val hv
  obtain ⟨g3,A3⟩:=A2.setD hd ea ha (rk.drop k)
  exact ⟨vs,k,x',ha,K1 r2 hk,hx',q _ _ _ (g1.trans (g2.trans g3)) A3 (rx'.mono g3)⟩
 ·cases e
end MR
namespace MR
open PySem PyProof.Rows L2
theorem Om:∀ L:UH,Dx L L=L
 | []=>by unfold Dx;rfl
 | x::L=>by cases x <;> simp[Dx,Om L]
theorem Qp:∀ (L L' x:UH),L.length=L'.length->Dx L (L'++x)=Dx L L'++x
 | [],[],x,_=>by simp[Dx]
 | [],y::L',x,h=>by simp at h
 | a::L,[],x,h=>by simp at h
 | a::L,y::L',x,h=>by
  have:=Qp L L' x (by simpa using h)
  cases a <;> cases y <;> simp[Dx,this]
theorem Rc:∀ (L:UH) (n:Nat) (kvs:List (Key×U)),L[n]? = some (.dic kvs)->Dx L (L.set n (.rod kvs))=L
 | [],n,kvs,h=>by simp at h
 | x::L,0,kvs,h=>by
  simp at h;subst h
  simp[Dx,Om]
 | x::L,n+1,kvs,h=>by
  have:=Rc L n kvs (by simpa using h)
  cases x <;> simp[Dx,this]
theorem Ahw{v:List (Key×U)->List U}{fo:FE}{δ:UE}{L:UH}{n:Nat}{kvs:List (Key×U)}(hf:fo δ L=some (.ref n,L))(hn:L[n]? = some (.dic kvs)):Qx v fo δ L=some (.seq (v kvs),L.set n (.rod kvs)):=by
 have hd:dicAt L n=some kvs:=by unfold dicAt;rw[hn]
 unfold Qx
 rw[hf]
 simp only[aE,hd,aI]
theorem Aa5{β:Type}{ix:List (Option Nat)}{v:List (Key×U)->List U}{fo:FE}{g:FG}{tt:Option FT}{fe:FE}{δ:UE}{L:UH}{n:Nat}{kvs:List (Key×U)}(as:List β)(rep:β->U)(f:β->Bool)(e:β->U)(E:UE->Prop)(hf:fo δ L=some (.ref n,L))(hn:L[n]? = some (.dic kvs))(hv:v kvs=as.map rep)(hl:as.length < 16777216)(h0:E (Js ix δ))
  (step:∀ (a:β) δ (M:UH),a∈as->E δ->∃ δ1,g (rep a) δ M=some (δ1,M)/\E δ1/\∃ y,Ia tt δ1 M=some (f a,M++y)/\(f a=true->∃ z,fe δ1 (M++y)=some (e a,M++y++z))) :
  ∃ x,Aaa (Eo ix (Qx v fo) g tt fe) δ L=some (.ref (L++x).length,L++x++[.lst ((as.filter f).map e)]):=by
 have hi:=Ahw (v:=v) hf hn
 rw[hv] at hi
 obtain ⟨x,q⟩:=D3 (ix:=ix) (g:=g) (tt:=tt) (fe:=fe) as rep f e E hi (by simp[IU.size]) hl h0 (fun k x=>rfl) (fun a δ x ha hE=>step a δ _ ha hE)
 refine ⟨x,?_⟩
 unfold Aaa
 rw[q]
 have ln:(L.set n (.rod kvs)).length=L.length:=by simp
 simp only[aI]
 rw[bA,Qp _ _ _ ln.symm,Rc L n kvs hn,<- bA]
 simp
noncomputable def Hs{β:Type}(d:β)(π:List Nat)(l:List β):List β:=π.map fun i=>l.getD i d
noncomputable def gP(m n:Nat)(π:List Nat)(us ws:List aC):List aC:=if us.length=m/\ws.length=n then us++Hs .none π ws else []
noncomputable def gVP(m n:Nat)(π:List Nat)(vs zs:List V):List V:=if vs.length=m/\zs.length=n then vs++Hs .non π zs else []
theorem Q6{zs:List V}{ws:List aC}(r:Vals zs ws):∀ π:List Nat,Vals (Hs .non π zs) (Hs .none π ws)
 | []=>.nil
 | i :: π=>by
  refine .cons ?_ (Q6 r π)
  show RelV (zs.getD i .non) (ws.getD i .none)
  rw[bC,bC]
  cases h:zs[i]? with
  | none=>
   have hl:=r.length
   have:ws[i]? = none:=by
    rw[cM] at h ⊢
    omega
   rw[this]
   rfl
  | some x=>
   obtain ⟨v,hv,rv⟩:=r.get h
   rw[hv]
   exact rv
theorem Adi{vs zs:List V}{us ws:List aC}(r:Vals vs us)(rz:Vals zs ws):Vals (vs++zs) (us++ws):=by
 induction r with
 | nil=>exact rz
 | cons h r ih=>exact .cons h ih
theorem Cv{K:aD}{fd:bT}{p:Str}{ps ks:List Str}{m n:Nat}{π:List Nat}(h:∀ us:List aC,us.length=m->∀ ws:List aC,ws.length=n->tD fd ⟨us,ks.zip ws⟩=pure ((p::ps).zip (us++Hs .none π ws))):KBinds K fd (p::ps) ks (gP m n π) (gVP m n π) where
 to:=fun s us ws _ hl=>by
  unfold gP at hl ⊢
  by_cases hc:us.length=m/\ws.length=n
  ·rw[if_pos hc]
   exact .of_eq (h us hc.1 ws hc.2)
  ·rw[if_neg hc] at hl
   cases hl
 rel:=fun {vs us zs ws} r rz=>by
  unfold gP gVP
  have h1:=r.length
  have h2:=rz.length
  by_cases hc:us.length=m/\ws.length=n
  ·rw[if_pos hc,if_pos ⟨by omega,by omega⟩]
   exact Adi r (Q6 rz π)
  ·rw[if_neg hc,if_neg (fun q=>hc ⟨by omega,by omega⟩)]
   exact .nil
noncomputable def Cm(n:Nat)(π:List Nat)(g:FA):FA:=fun δ L=>(g δ L).bind fun p=>if p.1.length=n then some (Hs .non π p.1,p.2) else none
theorem J8{K:aD}{H:Hp}{α:List Addr}{us:List U}{xs:List V}(r:RepL K H α us xs):∀ π:List Nat,RepL K H α (Hs .non π us) (Hs .non π xs)
 | []=>.nil
 | i :: π=>by
  refine .cons ?_ (J8 r π)
  show RepU K H α (us.getD i .non) (xs.getD i .non)
  rw[bC,bC]
  cases h:us[i]? with
  | none=>
   have hl:=r.length
   have:xs[i]? = none:=by
    rw[cM] at h ⊢
    omega
   rw[this]
   show RepU K H α .non .non
   unfold RepU
   rfl
  | some u=>
   obtain ⟨x,hx,rx⟩:=r.get h
   rw[hx]
   exact rx
section
variable {X:Cx}{k n q:Nat}{π:List Nat}{f:Addr}{fd:bT}{p:Str}{ps ks:List Str}{x:Str}{pp pos apos kpos:Pos}{kws:List jL}{F:FN}{g:FA}
theorem Ho(hF:FnOk X.prog X.w X.K X.mg X.base CX0 k f fd (p::ps) (spF X.K q F))(hr:Room k X.A)(hg:Gl X x)(hm:X.mg x=some (.ref f))(hk:aV X.K (.ref f)=true)(hb:KBinds X.K fd (p::ps) ks (gP 0 n π) (gVP 0 n π))
  (hkw:PKF X kws g) (hall:(backToKw pos (keywordEach kws X.env)).all (·.1.isSome)=true:=by rfl) (hks:(backToKw pos (keywordEach kws X.env)).filterMap (·.1)=ks:=by rfl)
  (hdb:(x == ("__debug__" : Str))=false:=by decide)
  (hpl:((backTo pos (bP [] X.env)).any (·.1) || (backToKw pos (keywordEach kws X.env)).any (·.1.isNone))=false:=by rfl) :
  PEF X (.Call (.Name x pp) [] kws pos) (Dl q F (Cm n π g)):=by
 have base:PE X (.Call (.Name x pp) [] kws pos) (fun σ H Q=>lA X.K g σ H fun zs H2=>spF X.K q F (gVP 0 n π [] zs) H2 Q E0):=by
  intro pins s σ H Q I h
  refine dD (Ke I hg hm ?_ hdb)
  refine iS (h₀:=X.base) I.ok.mod.kin hk hall (thn (hkw pos pins s σ H _ I h) fun ws s2 ⟨zs,H2,I2,rz,q2⟩=>⟨I2.kIn,?_⟩) hpl
  rw[hks]
  exact Rq hF hr hb Nj I2 .nil rz q2
 refine PE.imp base ?_
 rintro σ H Q ⟨α,δ,L,A,S,z,L3,e,qq⟩
 obtain ⟨⟨us,L1⟩,e1,e⟩:=aA.mp e
 unfold Cm at e1
 obtain ⟨⟨us0,L0⟩,e0,e1⟩:=aA.mp e1
 simp only at e1 e
 split at e1
 ·rename_i hn
  cases e1
  split at e
  ·rename_i hl
   refine ⟨α,δ,L,A,S,us0,_,e0,fun xs H1 α1 g1 A1 r1=>?_⟩
   have hx:gVP 0 n π [] xs=Hs .non π xs:=by
    unfold gVP
    rw[if_pos ⟨rfl,by rw[<- r1.length];exact hn⟩]
    rfl
   show spF X.K q F (gVP 0 n π [] xs) H1 Q E0
   rw[hx]
   exact ⟨α1,_,_,A1,J8 r1 π,hl,z,L3,e,fun v H2 α2 g2 A2 r2=>qq v H2 α2 (g1.trans g2) A2 r2⟩
  ·cases e
 ·cases e1
theorem Cy{pl:Sem Bool}{o:Expr}{fo:FE}{C m:Str}{Ca:Addr}(T:ClsF X.K C Ca)(hme:Meth X.K Ca m f)(hF:FnOk X.prog X.w X.K X.mg X.base CX0 k f fd (p::ps) (spF X.K q F))(hr:Room k X.A)(hb:KBinds X.K fd (p::ps) ks (gP 1 n π) (gVP 1 n π))(ho:PEF X o fo)
  (hkw:PKF X kws g) (hall:(backToKw pos (keywordEach kws X.env)).all (·.1.isSome)=true:=by rfl) (hks:(backToKw pos (keywordEach kws X.env)).filterMap (·.1)=ks:=by rfl)
  (hpl:((backTo pos (bP [] X.env)).any (·.1) || (backToKw pos (keywordEach kws X.env)).any (·.1.isNone))=false:=by rfl)
  (ht:eval (.Call (.Attribute o m apos) [] kws pos) X.env=(do
   let ov <- eval o X.env
   standAt apos.atName
   let (f,first) <- holding [ov] (getMethod ov m pl)
   callWith pos f first (backTo pos (bP [] X.env)) (backToKw pos (keywordEach kws X.env))):=by rfl) :
  PEF X (.Call (.Attribute o m apos) [] kws pos) (Au C m q F fo (Cm n π g)):=by
 have base:PE X (.Call (.Attribute o m apos) [] kws pos) (fun σ H Q=>lE X.K fo σ H fun x H1=>∃ a dx fs,x = .ref a/\H1 a=some (.ins Ca dx fs)/\fs.lookup m=none/\lA X.K g σ H1 fun zs H2=>spF X.K q F (gVP 1 n π [.ref a] zs) H2 Q E0):=by
  intro pins s σ H Q I h
  refine kJ (pl:=pl) (thn (ho pins s σ H _ I h) fun u s1 ⟨x,H1,I1,rx,a,dx,fs,ex,ea,l,q1⟩=>?_) ht
  subst ex
  obtain rfl:u=cP a:=rx
  refine Ku I1 ea T.cl hme l ?_
  refine iS (first:=[.ref a]) (h₀:=X.base) I.ok.mod.kin hme.kp hall (thn (hkw pos pins s1 σ H1 _ I1 q1) fun ws s2 ⟨zs,H2,I2,rz,q2⟩=>⟨I2.kIn,?_⟩) hpl
  rw[hks]
  exact Rq (vs:=[.ref a]) (us:=[.ref a]) hF hr hb Nj I2 (.cons rfl .nil) rz q2
 refine PE.imp base ?_
 intro σ H Q h
 obtain ⟨α,δ,L,A,S,u,L1,e1,h⟩:=O1 (E:=E0) T σ H Q h
 refine ⟨α,δ,L,A,S,u,L1,e1,fun x H1 α1 g1 A1 r1=>?_⟩
 obtain ⟨a,dx,vs,hx,ha,hl,α2,δ2,L2,A2,S2,us,L3,e3,h3⟩:=h x H1 α1 g1 A1 r1
 unfold Cm at e3
 obtain ⟨⟨us0,L0⟩,e0,e3⟩:=aA.mp e3
 simp only at e3
 split at e3
 ·rename_i hn
  cases e3
  refine ⟨a,dx,vs,hx,ha,hl,α2,δ2,L2,A2,S2,us0,_,e0,fun xs H3 α3 g3 A3 r3=>?_⟩
  have hgv:gVP 1 n π [.ref a] xs = .ref a::Hs .non π xs:=by
   unfold gVP
   rw[if_pos ⟨rfl,by rw[<- r3.length];exact hn⟩]
   rfl
  show spF X.K q F (gVP 1 n π [.ref a] xs) H3 Q E0
  rw[hgv]
  have:=h3 (Hs .non π xs) H3 α3 g3 A3 (J8 r3 π)
  rw[<- ‹x=V.ref a›]
  simpa using this
 ·cases e3
end
theorem Ais{K:aD}{n:Nat}{π:List Nat}{g:FA}{σ:L2.St}{H:Hp}{Q:List V->Hp->Prop}(h:lA K (Cm n π g) σ H Q):lA K g σ H fun zs H2=>zs.length=n/\Q (Hs .non π zs) H2:=by
 obtain ⟨α,δ,L,A,S,us,L1,e,q⟩:=h
 unfold Cm at e
 obtain ⟨⟨us0,L0⟩,e0,e1⟩:=aA.mp e
 simp only at e1
 split at e1
 ·rename_i hn
  cases e1
  refine ⟨α,δ,L,A,S,us0,_,e0,fun xs H1 α1 g1 A1 r1=>⟨by rw[<- r1.length];exact hn,q _ H1 α1 g1 A1 (J8 r1 π)⟩⟩
 ·cases e1
section
variable {X:Cx}{k n q:Nat}{π:List Nat}{f Ca:Addr}{fd:bT}{p:Str}{ps ks:List Str}{C:Str}{pp pos:Pos}{kws:List jL}{F:FN}{g:FA}
theorem Abq{sp:Sp}{gg:List aC->List aC->List aC}{gV:List V->List V->List V}{pins:List (Addr×Obj)}{σ:L2.St}{H:Hp}{s:aG}{Q:VK}{ws:List aC}{zs:List V}(M:Mk X.K Ca f)(hF:FnOk X.prog X.w X.K X.mg X.base CX0 k f fd ps sp)(hr:Room (k+1) X.A)(hb:KBinds X.K fd ps ks gg gV)(I:Inv X pins σ H s)(rz:Vals zs ws)
  (h:∀ x dx,H x=none->H dx=none->dx≠x->sp (gV [.ref x] zs) (upd (upd H dx (.own x)) x (.ins Ca dx [])) (fun v H2=>v = .non/\Q (.ref x) H2) E0) :
  wpAny (model X.prog X.w) X.A (call (.ref Ca) [] (ks.zip ws)) (EP X pins σ Q) X.xe s:=by
 have hq:=h (s.heap.objs.size+1) s.heap.objs.size (I.hok.fresh (kU _)) (I.hok.fresh (aN _)) (bY (eI _))
 have I2:=Inv.made (C:=Ca) I
 have r2:=hb.rel (vs:=[V.ref (s.heap.objs.size+1)]) (us:=[cP (s.heap.objs.size+1)]) (.cons rfl .nil) rz
 have hl:(gg [cP (s.heap.objs.size+1)] ws).length=ps.length:=by rw[<- r2.length];exact hF.len _ _ _ _ hq
 refine kN (Vc (f:=f) I.kIn M.makes M.init (beq_iff_eq.mp M.fn) (fL (hF.run _ X.stack _ _ ⟨cP (s.heap.objs.size+1)::[],ks.zip ws⟩ _ _ _ E0 (hr.make Ca [] (ks.zip ws))
  (I2.env0.make Ca [] (ks.zip ws)) (hb.to _ [cP (s.heap.objs.size+1)] ws I2.kIn hl) r2 hq) fun r s' hq'=>?_))
 cases r with
 | error e=>exact Nj pins σ _ _ e s' I2 hq'
 | ok fl=>
  cases fl with
  | ret u=>
   obtain ⟨v,H',I3,rv,ev,q3⟩:=I2.after hq'
   subst ev
   exact ⟨rv,⟨V.ref (s.heap.objs.size+1),H',I3,rfl,q3⟩⟩
  | next=>exact dH hq'
  | brk=>exact dH hq'
  | cont=>exact dH hq'
theorem Aay(hns:bU X.K bK C=some (some (.ref Ca)))(M:Mk X.K Ca f)(hF:FnOk X.prog X.w X.K X.mg X.base CX0 k f fd (p::ps) (spF X.K q F))(hr:Room (k+1) X.A)(hg:Gl X C)(hm:X.mg C=some (.ref Ca))(hb:KBinds X.K fd (p::ps) ks (gP 1 n π) (gVP 1 n π))
  (hkw:PKF X kws g) (hall:(backToKw pos (keywordEach kws X.env)).all (·.1.isSome)=true:=by rfl) (hks:(backToKw pos (keywordEach kws X.env)).filterMap (·.1)=ks:=by rfl)
  (hdb:(C == ("__debug__" : Str))=false:=by decide)
  (hpl:((backTo pos (bP [] X.env)).any (·.1) || (backToKw pos (keywordEach kws X.env)).any (·.1.isNone))=false:=by rfl) :
  PEF X (.Call (.Name C pp) [] kws pos) (Kq C q F (Cm n π g)):=by
 have base:PE X (.Call (.Name C pp) [] kws pos) (fun σ H Q=>lA X.K g σ H fun zs H1=>∀ x dx,H1 x=none->H1 dx=none->dx≠x->spF X.K q F (gVP 1 n π [.ref x] zs) (upd (upd H1 dx (.own x)) x (.ins Ca dx [])) (fun v H2=>v = .non/\Q (.ref x) H2) E0):=by
  intro pins s σ H Q I h
  refine dD (Ke I hg hm ?_ hdb)
  refine iS (h₀:=X.base) I.ok.mod.kin M.kp hall (thn (hkw pos pins s σ H _ I h) fun ws s2 ⟨zs,H2,I2,rz,q2⟩=>⟨I2.kIn,?_⟩) hpl
  rw[hks]
  exact Abq M hF hr hb I2 rz q2
 refine PE.imp base ?_
 intro σ H Q h
 have h2:=Ais (U9 (E:=E0) hns σ H Q h)
 obtain ⟨α,δ,L,A,S,us,L1,e,qq⟩:=h2
 refine ⟨α,δ,L,A,S,us,L1,e,fun xs H1 α1 g1 A1 r1 x dx nx ndx nex=>?_⟩
 obtain ⟨hn,q2⟩:=qq xs H1 α1 g1 A1 r1
 have hgv:gVP 1 n π [.ref x] xs = .ref x::(Hs .non π xs++[]):=by
  unfold gVP
  rw[if_pos ⟨rfl,hn⟩,aT]
  rfl
 rw[hgv]
 exact q2 x dx nx ndx nex
end
end MR
namespace ZT
open PySem PySem.Spec PyProof.Rows PySem.W
open Sem (wp)
section
variable {prog:bQ}{w:cC}{A:cL}{E:aC->aG->Prop}{s:aG}{T:String}{r d:Addr}{n:Nat}{P:Nat->aC->Prop}{OK:Heap->Prop}
theorem Tt{Q:List aC->aG->Prop}(K:KdlSrc prog w T r d n P OK)(hh:A.handled=none)(hok:OK s.heap)
  (hQ:∀ (h':Heap) (tk:Nat) (acc:Array aC),(∀ b o,s.heap.get? b=some o->h'.get? b=some o)->sV P acc n->Q acc.toList { s with heap:=h',toks:=tk }) (hn:n<=sizeLine):wpAny (model prog w) A (collect (.ref r)) Q E s:=by
 have hlt:=K.there _ hok
 unfold collect
 refine aB (pN (eO lY ?_))
 rw[eE lZ _]
 show wpAny _ A.in1 (newList [] >>= fun l=>again (.builtin "list.__iadd__" ⟨[l,.ref r],[]⟩)) _ _ s
 refine aB (dB ?_)
 refine aJ ⟨iK iB _,eO nW ?_⟩
 rw[eE iB _]
 have hS₁:(s.heap.push { cls:=.type "list",data:=.seq ([]:List aC).toArray }).get? s.heap.objs.size=some { cls:=.type "list",data:=.seq ([]:List aC).toArray }:=aP _ rfl
 show wpAny _ A.in1 (iO (.ref s.heap.objs.size) (.ref r) (.ref s.heap.objs.size)) _ _ _
 refine kdl_extend (R:=wants _ E) (s:={ s with heap:=s.heap.push { cls:=.type "list",data:=.seq ([]:List aC).toArray } }) K hh (K.keep _ _ hok fun b _ o e=>aF _ e) s.heap.objs.size (fZ hlt.1) (fZ hlt.2) _ _ hS₁ (fun h' tk acc' c' hk hS' hacc=>?_) hn
 show wpAny _ A (load s.heap.objs.size >>= _) _ _ _
 refine aB (sY hS' ?_)
 exact aJ (hQ h' tk acc' (fun b o e=>hk b o (bY (aW e)) (aF _ e)) hacc)
theorem Pk{Q₁:aC->aG->Prop}(K:KdlSrc prog w T r d n P OK)(hh:A.handled=none)(hok:OK s.heap)
  (h:∀ (h':Heap) (tk:Nat) (acc:Array aC),(∀ b o,s.heap.get? b=some o->h'.get? b=some o)->sV P acc n->Q₁ (.ref h'.objs.size) { s with heap:=h'.push { cls:=.type "tuple",data:=.seq acc },toks:=tk }) (hsz:n<=sizeLine) :
  jK (model prog w) A (.call (.builtin "tuple.__new__") ⟨[.type "tuple",.ref r],[]⟩) (wants Q₁ E) s:=by
 refine lP ?_
 show wpAny _ A.in1 (do checkBuiltinCall "tuple.__new__" ⟨[.type "tuple",.ref r],[]⟩;again (.builtin "tuple.__new__" ⟨[.type "tuple",.ref r],[]⟩)) _ _ s
 refine aB (gH (PySem.F.newCall_tuple_1 _) (aJ ⟨iK nX _,eO PySem.F.entry_tuple_new ?_⟩))
 rw[eE nX _]
 have hsub:=sub_tuple_self
 have hinit:=init_tuple_lookup
 have hmh:=madeHere_tuple
 have hTI:=K.type s hok
 have hnt:=K.notTuple
 wp_walk using rE hTI,Tt (A:=A.in1) (hn:=hsz) K hh hok
 intro h' tk acc hm hacc
 show wpAny _ _ (nN acc.toList.toArray >>= fun v=>ret v) _ _ _
 unfold nN
 refine aB (dB ?_ (by show acc.toList.toArray.size<=sizeLine;simp only[Array.toArray_toList];rw[hacc.1];exact hsz))
 refine aJ ?_
 have e:acc.toList.toArray=acc:=by simp
 rw[e]
 exact h h' tk acc hm hacc
theorem Oh{Q:aC->aG->Prop}(K:KdlSrc prog w T r d n P OK)(hh:A.handled=none)(hok:OK s.heap)
  (hQ:∀ (h':Heap) (tk:Nat) (acc:Array aC),(∀ b o,s.heap.get? b=some o->h'.get? b=some o)->sV P acc n->Q (.ref h'.objs.size) { s with heap:=h'.push { cls:=.type "tuple",data:=.seq acc },toks:=tk }) (hsz:n<=sizeLine) :
  wpAny (model prog w) A (call (.type "tuple") [.ref r]) Q E s:=by
 refine callType_codes (Q₁:=fun obj s₁=>s₁.TypeIs obj "tuple" /\ Q obj s₁) PySem.F.called_tuple (PySem.F.typeCall_tuple_1 _) PySem.F.entry_object_init
  (Pk (hsz:=hsz) K hh hok fun h' tk acc hm hacc=>⟨⟨_,aP _ rfl,rfl⟩,hQ h' tk acc hm hacc⟩) fun obj s₁ h₁=>?_
 exact ⟨h₁.1,PySem.F.args_object_init_2 obj _,object_init_meets PySem.F.called_tuple.init.lookup PySem.F.called_tuple.made (by decide) prog w A.in1 _ s₁ ⟨h₁.1,rfl,h₁.2⟩⟩
end
end ZT
namespace MR
open PySem PySem.Spec PyProof.Rows PySem.Calls L2
theorem Aai:∀ {kvs:List (Key×V)} {vs:List (Key×aC)},KV kvs vs->Vals (kvs.map (·.2)) (vs.map (·.2))
 | _,_,.nil=>.nil
 | _,_,.cons r t=>.cons r.2 (Aai t)
theorem V2{vs:List (Key×aC)}{acc:Array aC}(h:sV (fun i v=>∃ k,vs[i]? = some (k,v)) acc vs.length):acc.toList=vs.map (·.2):=
 PySem.W.kdl_vals_eq acc.toList (by rw[cF];exact h.1) fun j v e=>h.2 j v (by rw[<- cT];exact e)
section
variable {X:Cx}{o:Expr}{apos cpos p pos:Pos}{td:TE}{fo:FE}
noncomputable def Am4(td:TE):TE:=fun σ H Q=>td σ H fun x H1=>∃ a kvs,x = .ref a/\H1 a=some (.dK kvs)/\∀ l,H1 l=none->Q (.ref l) (upd H1 l (.tup (kvs.map (·.2))))
theorem Af2(hc:X.calm=true)(hgL:Gl X "tuple")(hmL:X.mg "tuple" = none)(hl:PE X o td)(m:M0 X o "values" apos cpos)
  (hs2:bP [.Call (.Attribute o "values" apos) [] [] cpos] X.env=[(false,eval (.Call (.Attribute o "values" apos) [] [] cpos) X.env)]:=by rfl):PE X (.Call (.Name "tuple" p) [.Call (.Attribute o "values" apos) [] [] cpos] [] pos) (Am4 td):=by
 intro pins s σ H Q I h
 refine dD (Iu I hgL hmL Tq ?_)
 refine eU ?_ hs2 rfl
 rw[hs2]
 refine jP ?_
 refine mW m.base m.few m.line jU gX nM (thn (hl pins s σ H _ I h) fun u s1 zz=>zz.elim fun x H1 I1 rx zq=>?_)
 obtain ⟨a,kvs,ex,ea,q⟩:=zq
 subst ex
 obtain rfl:u=cP a:=rx
 obtain ⟨t1,t2,_⟩:=Wn I1 (.inl ⟨kvs,.inl ea⟩)
 refine ⟨t1,t2,?_⟩
 rw[m.trees]
 obtain ⟨hd,ob,vs,ep,ho,D⟩:=R0 I1 ea
 have da:=D.at_ _ _ ho
 refine kB rfl (pY ?_)
 refine qZ gX t1 mR (mK _) (rD (B9 X.prog X.w) a hd) ⟨⟨vs,da.dictOf⟩,?_⟩
 refine kA ?_
 have I2:L2.Inv X pins σ H1 { s1 with heap:=s1.heap.push { cls:=.type "dict_values",data:=.fields #[.ref a] } }:=I1.kept (t':=s1.toks) fun b o e=>aF _ e
 have hz:kvs.length<=sizeLine:=(Uw I1.hok ea).1
 have hl:=KV.length D.rel
 refine ZT.Oh (PySem.W.kdl_values (knd:=B9 X.prog X.w) (kvs:=vs) (ep:=ep)) (I2.ok.hd hc) ⟨⟨_,aP _ rfl,rfl,rfl⟩,da.push _⟩ (fun h' tk acc hk hacc=>?_) (by rw[<- hl];exact hz)
 have hacc':=V2 hacc
 have hacc2:acc=(vs.map (·.2)).toArray:=by rw[<- hacc']
 have I3:L2.Inv X pins σ H1 { s1 with heap:=h',toks:=tk }:=I2.kept (t':=tk) hk
 have I4:L2.Inv X pins σ (upd H1 h'.objs.size (.tup (kvs.map (·.2)))) { s1 with heap:=h'.push { cls:=.type "tuple",data:=.seq acc },toks:=tk }:=
  I3.laid (t':=tk) (fun b o e=>aF _ e) (aN _) (show ObjOk X.prog X.w _ _ _ (.tup (kvs.map (·.2))) from ⟨by rw[cH];exact hz,vs.map (·.2),Aai D.rel,by rw[hacc2];exact TupN.new _ _⟩)
 exact ⟨.ref h'.objs.size,_,I4,rfl,q _ (I3.hok.fresh (aN _))⟩
noncomputable def Vo(f:FE):FE:=fun δ L=>(f δ L).bind fun p=>match p.1 with
 | .ref n=>(dicAt p.2 n).map fun kvs=>(.tup (Qz kvs),p.2)
 | _=>none
theorem Aev(hc:X.calm=true)(hgL:Gl X "tuple")(hmL:X.mg "tuple" = none)(hl:PEF X o fo)(m:M0 X o "values" apos cpos)
  (hs2:bP [.Call (.Attribute o "values" apos) [] [] cpos] X.env=[(false,eval (.Call (.Attribute o "values" apos) [] [] cpos) X.env)]:=by rfl):PEF X (.Call (.Name "tuple" p) [.Call (.Attribute o "values" apos) [] [] cpos] [] pos) (Vo fo):=by
 refine PE.imp (Af2 hc hgL hmL hl m hs2) ?_
 rintro σ H Q ⟨α,δ,L,A,S,u,L3,e,q⟩
 obtain ⟨⟨u,L1⟩,e1,e⟩:=aA.mp e
 simp only at e
 split at e
 ·obtain ⟨kvs,hd,e⟩:=aK.mp e
  cases e
  refine ⟨α,δ,L,A,S,_,_,e1,fun x H1 α1 g1 A1 r1=>?_⟩
  obtain ⟨a,vs,rfl,ea,ha,rk⟩:=Gi A1 hd r1
  refine ⟨a,vs,rfl,ha,fun l hl=>?_⟩
  obtain ⟨g',A',r'⟩:=A1.tup rk.2 hl
  exact q _ _ _ (g1.trans g') A' r'
 ·cases e
end
end MR
namespace SO
open PySem PySem.W PyProof.Rows
noncomputable def On{α:Type}(n:Nat)(lt:Nat->Nat->Bool)(P:α->Prop):KasT α->Prop
 | .ret a=>P a
 | .ask i j k=>i < n/\j < n/\On n lt P (k (lt i j))
theorem On.bind{α β:Type}{n:Nat}{lt:Nat->Nat->Bool}{P:α->Prop}{Q:β->Prop}{f:α->KasT β}(hf:∀ a,P a->On n lt Q (f a)):∀ {t:KasT α},On n lt P t->On n lt Q (t.bind f)
 | .ret a,h=>hf a h
 | .ask i j k,h=>⟨h.1,h.2.1,On.bind hf h.2.2⟩
theorem On.imp{α:Type}{n:Nat}{lt:Nat->Nat->Bool}{P Q:α->Prop}(hf:∀ a,P a->Q a):∀ {t:KasT α},On n lt P t->On n lt Q t
 | .ret a,h=>hf a h
 | .ask i j k,h=>⟨h.1,h.2.1,On.imp hf h.2.2⟩
theorem On.wp{α:Type}{n:Nat}{lt:Nat->Nat->Bool}{P:α->Prop}{cmp:Nat->Nat->(Bool->aG->Prop)->aG->Prop}{s:aG}{Q:α->aG->Prop}(hc:∀ i j C,i < n->j < n->C (lt i j) s->cmp i j C s)(hq:∀ a,P a->Q a s):∀ {t:KasT α},On n lt P t->t.kasWp cmp Q s
 | .ret a,h=>hq a h
 | .ask i j k,h=>hc i j _ h.1 h.2.1 (On.wp hc hq h.2.2)
structure Wo(lt:Nat->Nat->Bool):Prop where
 asym:∀ i j,lt i j=true->lt j i=false
 tr:∀ i j k,lt j i=false->lt k j=false->lt k i=false
section
variable {lt:Nat->Nat->Bool}{n:Nat}
noncomputable def Le(lt:Nat->Nat->Bool)(i j:Nat):Prop:=lt j i=false
noncomputable def Eqv(lt:Nat->Nat->Bool)(i j:Nat):Prop:=Le lt i j/\Le lt j i
theorem Wo.refl(W:Wo lt)(i:Nat):Le lt i i:=by
 unfold Le
 cases h:lt i i with
 | false=>rfl
 | true=>have:=W.asym i i h;rw[h] at this;cases this
theorem Wo.le(W:Wo lt){i j:Nat}(h:lt i j=true):Le lt i j:=W.asym i j h
theorem Wo.trans(W:Wo lt){i j k:Nat}(h1:Le lt i j)(h2:Le lt j k):Le lt i k:=W.tr i j k h1 h2
noncomputable def at0(p:Array Nat)(i:Nat):Nat:=p.getD i 0
theorem Oy{p q:Array Nat}{i j:Nat}(h:p[i]? = q[j]?):at0 p i=at0 q j:=by
 unfold at0
 rw[dZ,dZ,h]
structure Pm(n:Nat)(p:Array Nat):Prop where
 size:p.size=n
 perm:p.toList.Perm (dS n)
theorem Pm.bd{p:Array Nat}(h:Pm n p)(h0:0 < n)(i:Nat):at0 p i < n:=by
 unfold at0
 rw[dZ]
 cases hi:p[i]? with
 | none=>exact h0
 | some x=>
  have:x∈p.toList:=by
   rw[<- cT] at hi
   exact eS hi
  exact eB.mp (h.perm.mem_iff.mp this)
noncomputable def Up(lt:Nat->Nat->Bool)(p:Array Nat)(k:Nat):Prop:=∀ i j,i<=j->j < k->Le lt (at0 p i) (at0 p j)
noncomputable def Dn(lt:Nat->Nat->Bool)(p:Array Nat)(k:Nat):Prop:=∀ i j,i<=j->j < k->Le lt (at0 p j) (at0 p i)
theorem Up.one(W:Wo lt)(p:Array Nat):Up lt p 1:=fun i j h1 h2=>by
 have:i=j:=by omega
 subst this;exact W.refl _
theorem Up.snoc(W:Wo lt){p:Array Nat}{m:Nat}(h:Up lt p m)(hm:1<=m)(hl:Le lt (at0 p (m - 1)) (at0 p m)):Up lt p (m+1):=fun i j h1 h2=>by
 by_cases hj:j < m
 ·exact h i j h1 hj
 ·have hj:j=m:=by omega
  subst hj
  by_cases hi:i=j
  ·subst hi;exact W.refl _
  ·exact W.trans (h i (j - 1) (by omega) (by omega)) hl
theorem Dn.snoc(W:Wo lt){p:Array Nat}{m:Nat}(h:Dn lt p m)(hm:1<=m)(hl:Le lt (at0 p m) (at0 p (m - 1))):Dn lt p (m+1):=fun i j h1 h2=>by
 by_cases hj:j < m
 ·exact h i j h1 hj
 ·have hj:j=m:=by omega
  subst hj
  by_cases hi:i=j
  ·subst hi;exact W.refl _
  ·exact W.trans hl (h i (j - 1) (by omega) (by omega))
theorem C8{p:Array Nat}{i j:Nat}(hj:j<=p.size)(k:Nat):at0 (iG p i j) k=if i<=k/\k < j then at0 p (i+j - 1 - k) else at0 p k:=by
 have h:=pZ (xs:=p) (i:=i) hj k
 unfold iG
 split
 ·rename_i hc;rw[if_pos hc] at h;exact Oy h
 ·rename_i hc;rw[if_neg hc] at h;exact Oy h
theorem Pm.rev{p:Array Nat}(h:Pm n p)(i j:Nat):Pm n (iG p i j):=⟨by unfold iG;rw[mirror_size];exact h.size,(mirror_perm p i j _).toList.trans h.perm⟩
theorem Pm.bub{p:Array Nat}(h:Pm n p)(i j:Nat):Pm n (bubble p i j):=⟨by rw[bubble_size];exact h.size,(bubble_perm p i j).toList.trans h.perm⟩
theorem Mn{p:Array Nat}{k l:Nat}(hk:k < p.size)(hl:l<=k)(i:Nat):at0 (bubble p k (k - l)) i=if i=l then at0 p k else if l < i/\i<=k then at0 p (i - 1) else at0 p i:=by
 have h:=getElem?_bubble (xs:=p) hk (k - l) (by omega) i
 have e:k - (k - l)=l:=by omega
 rw[e] at h
 split
 ·rename_i hc;rw[if_pos hc] at h;exact Oy h
 ·rename_i hc
  rw[if_neg hc] at h
  split
  ·rename_i hd;rw[if_pos hd] at h;exact Oy h
  ·rename_i hd;rw[if_neg hd] at h;exact Oy h
theorem Wm(W:Wo lt){p:Array Nat}{nrem:Nat}(h0:0 < n)(hp:Pm n p):∀ (f m:Nat),1<=m->m+f=nrem->Up lt p m->On n lt (fun m'=>m<=m'/\m'<=nrem/\Up lt p m'/\(m'=nrem\/lt (at0 p m') (at0 p (m' - 1))=true)) (kas_asc p f m)
 | 0,m,h1,hf,hu=>⟨aN _,by omega,hu,.inl (by omega)⟩
 | f+1,m,h1,hf,hu=>by
  refine ⟨hp.bd h0 _,hp.bd h0 _,?_⟩
  show On n lt _ (if lt (at0 p m) (at0 p (m - 1))=true then KasT.ret m else kas_asc p f (m+1))
  cases hl:lt (at0 p m) (at0 p (m - 1)) with
  | true=>exact ⟨aN _,by omega,hu,.inr hl⟩
  | false=>
   exact (Wm W h0 hp f (m+1) (by omega) (by omega) (hu.snoc W h1 hl)).imp fun m' ⟨a,b,c⟩=>⟨by omega,b,c⟩
noncomputable def Tl(lt:Nat->Nat->Bool)(p:Array Nat)(m q:Nat):Prop:=∀ i,m - (q+1)<=i->i < m->Eqv lt (at0 p i) (at0 p (m - 1))
theorem Tl.rev(W:Wo lt){p:Array Nat}{m q:Nat}(h:Tl lt p m q)(hq:q < m)(hm:m<=p.size)(k:Nat):Eqv lt (at0 (iG p (m - (q+1)) m) k) (at0 p k):=by
 rw[C8 hm]
 split
 ·rename_i hc
  have a:=h (m - (q+1)+m - 1 - k) (by omega) (by omega)
  have b:=h k hc.1 hc.2
  exact ⟨W.trans a.1 b.2,W.trans b.1 a.2⟩
 ·exact ⟨W.refl _,W.refl _⟩
theorem Dn.eqv(W:Wo lt){p p':Array Nat}{m:Nat}(h:Dn lt p m)(he:∀ k,Eqv lt (at0 p' k) (at0 p k)):Dn lt p' m:=fun i j h1 h2=>W.trans (he j).1 (W.trans (h i j h1 h2) (he i).2)
theorem N5(W:Wo lt){nrem:Nat}(h0:0 < n)(hz:nrem<=n):∀ (f:Nat) (p:Array Nat) (m q:Nat),Pm n p->1<=m->m+f=nrem->Dn lt p m->q < m->Tl lt p m q ->
  On n lt (fun r=>Pm n r.1/\1<=r.2.1/\r.2.1<=nrem/\Dn lt r.1 r.2.1/\r.2.2 < r.2.1/\Tl lt r.1 r.2.1 r.2.2) (kas_desc f p m q)
 | 0,p,m,q,hp,h1,hf,hd,hq,ht=>⟨hp,h1,(by show m<=nrem;omega),hd,hq,ht⟩
 | f+1,p,m,q,hp,h1,hf,hd,hq,ht=>by
  refine ⟨hp.bd h0 _,hp.bd h0 _,?_⟩
  show On n lt _ (if lt (at0 p m) (at0 p (m - 1))=true then _ else _)
  have tl0:∀ p':Array Nat,Tl lt p' (m+1) 0:=fun p' i i1 i2=>by
   have:i=m:=by omega
   subst this
   rw[dP];exact ⟨W.refl _,W.refl _⟩
  cases hl:lt (at0 p m) (at0 p (m - 1)) with
  | true=>
   have hms:m<=p.size:=by rw[hp.size];omega
   rw[if_pos rfl]
   by_cases hq0:q > 0
   ·rw[if_pos hq0]
    have he:=ht.rev W hq hms
    have hm':at0 (iG p (m - (q+1)) m) m=at0 p m:=by rw[C8 hms,if_neg (by omega)]
    have hd':=(hd.eqv W he).snoc W h1 (by rw[hm'];exact W.trans (W.le hl) (he (m - 1)).2)
    exact N5 W h0 hz f _ (m+1) 0 (hp.rev _ _) (by omega) (by omega) hd' (by omega) (tl0 _)
   ·rw[if_neg hq0]
    exact N5 W h0 hz f p (m+1) 0 hp (by omega) (by omega) (hd.snoc W h1 (W.le hl)) (by omega) (tl0 _)
  | false=>
   rw[if_neg (by simp)]
   refine ⟨hp.bd h0 _,hp.bd h0 _,?_⟩
   show On n lt _ (if lt (at0 p (m - 1)) (at0 p m)=true then _ else _)
   cases hl2:lt (at0 p (m - 1)) (at0 p m) with
   | true=>rw[if_pos rfl];exact ⟨hp,h1,(by show m<=nrem;omega),hd,hq,ht⟩
   | false=>
    rw[if_neg (by simp)]
    refine N5 W h0 hz f p (m+1) (q+1) hp (by omega) (by omega) (hd.snoc W h1 hl2) (by omega) fun i i1 i2=>?_
    rw[dP]
    by_cases hi:i=m
    ·subst hi;exact ⟨W.refl _,W.refl _⟩
    ·have a:=ht i (by omega) (by omega)
     exact ⟨W.trans a.1 hl,W.trans hl2 a.2⟩
theorem Aab(W:Wo lt){m nrem:Nat}{p:Array Nat}(h0:0 < n)(hz:nrem<=n)(hp:Pm n p)(h1:1<=m)(hm:m<=nrem)(hd:Dn lt p m):On n lt (fun r=>Pm n r.2/\1<=r.1/\r.1<=nrem/\Up lt r.2 r.1) (sA m nrem p):=by
 have hms:m<=p.size:=by rw[hp.size];omega
 have hu:Up lt (iG p 0 m) m:=fun i j i1 i2=>by
  rw[C8 hms,C8 hms,if_pos (by omega),if_pos (by omega)]
  exact hd _ _ (by omega) (by omega)
 unfold sA
 exact On.bind (fun a ⟨a1,a2,a3,_⟩=>⟨hp.rev _ _,by omega,a2,a3⟩) (Wm (nrem:=nrem) W h0 (hp.rev 0 m) (nrem - m) m h1 (by omega) hu)
theorem Nq(W:Wo lt){m nrem:Nat}{p:Array Nat}(h0:0 < n)(hz:nrem<=n)(hp:Pm n p)(hm:m+1<=nrem)(hd:Dn lt p (m+1)):On n lt (fun r=>Pm n r.2/\1<=r.1/\r.1<=nrem/\Up lt r.2 r.1) (oJ m nrem p):=by
 unfold oJ
 have tl0:Tl lt p (m+1) 0:=fun i i1 i2=>by
  have:i=m:=by omega
  subst this
  rw[dP];exact ⟨W.refl _,W.refl _⟩
 refine On.bind (fun r ⟨a1,a2,a3,a4,a5,a6⟩=>?_) (N5 W h0 hz (nrem - (m+1)) p (m+1) 0 hp (by omega) (by omega) hd (by omega) tl0)
 have hms:r.2.1<=r.1.size:=by rw[a1.size];omega
 split
 ·exact Aab W h0 hz (a1.rev _ _) a2 a3 (a4.eqv W (a6.rev W a5 hms))
 ·exact Aab W h0 hz a1 a2 a3 a4
theorem Afy(W:Wo lt){nrem:Nat}{p:Array Nat}(h0:0 < n)(hz:nrem<=n)(h1:1<=nrem)(hp:Pm n p):On n lt (fun r=>Pm n r.2/\1<=r.1/\r.1<=nrem/\Up lt r.2 r.1) (sB nrem p):=by
 unfold sB
 refine On.bind (fun m ⟨a1,a2,a3,a4⟩=>?_) (Wm (nrem:=nrem) W h0 hp (nrem - 1) 1 (aN _) (by omega) (Up.one W p))
 by_cases hm:(m == nrem)=true
 ·rw[if_pos hm];exact ⟨hp,by omega,a2,a3⟩
 ·rw[if_neg hm]
  have hne:m≠nrem:=by simpa using hm
  have hlt:lt (at0 p m) (at0 p (m - 1))=true:=a4.resolve_left hne
  by_cases hm1:m > 1
  ·rw[if_pos hm1]
   refine ⟨hp.bd h0 _,hp.bd h0 _,?_⟩
   show On n lt _ (if lt (at0 p 0) (at0 p (m - 1))=true then _ else _)
   cases hl:lt (at0 p 0) (at0 p (m - 1)) with
   | true=>rw[if_pos rfl];exact ⟨hp,by omega,a2,a3⟩
   | false=>
    rw[if_neg (by simp)]
    have hms:m<=p.size:=by rw[hp.size];omega
    have hall:∀ i j,i < m->j < m->Le lt (at0 p i) (at0 p j):=fun i j i1 j1=>W.trans (a3 i (m - 1) (by omega) (by omega)) (W.trans hl (a3 0 j (by omega) j1))
    refine Nq W h0 hz (hp.rev 0 m) (by omega) ?_
    have hd:Dn lt (iG p 0 m) m:=fun i j i1 i2=>by
     rw[C8 hms,C8 hms,if_pos (by omega),if_pos (by omega)]
     exact hall _ _ (by omega) (by omega)
    refine hd.snoc W (by omega) ?_
    rw[C8 hms,C8 hms,if_neg (by omega),if_pos (by omega)]
    exact W.trans (W.le hlt) (hall _ _ (by omega) (by omega))
  ·rw[if_neg hm1]
   have:m=1:=by omega
   subst this
   refine Nq W h0 hz hp (by omega) ?_
   have hd:Dn lt p 1:=fun i j h1 h2=>by
    have:i=j:=by omega
    subst this;exact W.refl _
   exact hd.snoc W (aN _) (W.le hlt)
theorem O7(W:Wo lt){p:Array Nat}{k:Nat}(h0:0 < n)(hp:Pm n p)(hu:Up lt p k):∀ (f l r:Nat),l<=r->r<=k->r - l<=f->(∀ i,i < l->Le lt (at0 p i) (at0 p k))->(∀ i,r<=i->i < k->Le lt (at0 p k) (at0 p i)) ->
  On n lt (fun l'=>l'<=k/\(∀ i,i < l'->Le lt (at0 p i) (at0 p k))/\∀ i,l'<=i->i < k->Le lt (at0 p k) (at0 p i)) (sC p k f l r)
 | 0,l,r,h1,h2,h3,h4,h5=>⟨by omega,h4,fun i i1 i2=>h5 i (by omega) i2⟩
 | f+1,l,r,h1,h2,h3,h4,h5=>by
  unfold sC
  by_cases hlr:l ≥ r
  ·rw[if_pos hlr];exact ⟨by omega,h4,fun i i1 i2=>h5 i (by omega) i2⟩
  ·rw[if_neg hlr]
   refine ⟨hp.bd h0 _,hp.bd h0 _,?_⟩
   show On n lt _ (if lt (at0 p k) (at0 p ((l+r) / 2))=true then _ else _)
   cases hl:lt (at0 p k) (at0 p ((l+r) / 2)) with
   | true=>
    rw[if_pos rfl]
    exact O7 W h0 hp hu f l ((l+r) / 2) (by omega) (by omega) (by omega) h4 fun i i1 i2=>W.trans (W.le hl) (hu _ _ i1 i2)
   | false=>
    rw[if_neg (by simp)]
    exact O7 W h0 hp hu f ((l+r) / 2+1) r (by omega) h2 (by omega) (fun i i1=>W.trans (hu i ((l+r) / 2) (by omega) (by omega)) hl) h5
theorem Afl(W:Wo lt)(h0:0 < n):∀ (f:Nat) (p:Array Nat) (k:Nat),Pm n p->Up lt p k->k+f=n->On n lt (fun p'=>Pm n p'/\Up lt p' n) (kas_bin f p k)
 | 0,p,k,hp,hu,hk=>⟨hp,(show k=n by omega) ▸ hu⟩
 | f+1,p,k,hp,hu,hk=>by
  unfold kas_bin
  refine On.bind (fun l ⟨a1,a2,a3⟩=>?_) (O7 W h0 hp hu k 0 k (by omega) (aN _) (by omega) (fun i h=>by omega) fun i h1 h2=>by omega)
  have hks:k < p.size:=by rw[hp.size];omega
  refine Afl W h0 f _ (k+1) (hp.bub _ _) (fun i j i1 i2=>?_) (by omega)
  rw[Mn hks a1,Mn hks a1]
  by_cases hi:i=l
  ·rw[if_pos hi]
   by_cases hj:j=l
   ·rw[if_pos hj];exact W.refl _
   ·rw[if_neg hj,if_pos (by omega)];exact a3 _ (by omega) (by omega)
  ·rw[if_neg hi]
   by_cases hi2:l < i/\i<=k
   ·rw[if_pos hi2,if_neg (by omega),if_pos (by omega)]
    exact hu _ _ (by omega) (by omega)
   ·rw[if_neg hi2]
    by_cases hj:j=l
    ·rw[if_pos hj];exact a2 _ (by omega)
    ·rw[if_neg hj]
     by_cases hj2:l < j/\j<=k
     ·rw[if_pos hj2];exact hu _ _ (by omega) (by omega)
     ·rw[if_neg hj2];exact hu _ _ i1 (by omega)
theorem Xv(W:Wo lt)(h0:0 < n):On n lt (fun p=>Pm n p/\Up lt p n) (kH n):=by
 unfold kH
 have hp:Pm n (gE (dS n)):=⟨by simp,by simp⟩
 refine On.bind (fun r ⟨a1,a2,a3,a4⟩=>?_) (Afy W h0 (aN n) h0 hp)
 by_cases hr:r.1 < n
 ·rw[if_pos hr]
  have hm:max r.1 1=r.1:=by omega
  rw[hm]
  exact Afl W h0 _ _ _ a1 a4 (by omega)
 ·rw[if_neg hr]
  have:r.1=n:=by omega
  exact ⟨a1,by rw[<- this];exact a4⟩
end
end SO
namespace SO
open PySem PySem.W PySem.Calls PyProof.Rows
section
variable {P:bQ}{w:cC}{A:cL}{E:aC->aG->Prop}{s:aG}{vs:List aC}{lt:Nat->Nat->Bool}{κ:SortKind}
noncomputable def Kb(a:Addr)(h h':Heap):Prop:=∀ b o,b≠a->h.get? b=some o->h'.get? b=some o
theorem Kb.trans{a:Addr}{h h1 h2:Heap}(x:Kb a h h1)(y:Kb a h1 h2):Kb a h h2:=fun b o hb e=>y b o hb (x b o hb e)
theorem V3(h:Heap)(a:Addr)(f:Obj->Obj):Kb a h (h.update a f):=fun b o hb e=>((dR h a f).2 b hb).trans e
theorem Aah(a:Addr)(h:Heap)(o:Obj):Kb a h (h.push o):=fun _ _ _ e=>aF _ e
noncomputable def Lz(vs:List aC)(p:Array Nat):List aC:=p.toList.map fun i=>vs.getD i eA
theorem Wc(vs:List aC):Lz vs (gE (dS vs.length))=vs:=by
 unfold Lz
 apply nY
 ·simp
 ·intro i h1 h2
  simp[h2]
end
end SO
namespace LS
open PySem PyProof PyProof.Rows
noncomputable def E4:Bool->bD->Array bD->Nat->Nat->Nat->StateT aX Sem (Option Nat):=sortPriv% PySem.Builtin.gallop
noncomputable def Pc:Array bD->Array bD->StateT aX Sem (Array bD):=sortPriv% PySem.Builtin.mergeLo
noncomputable def Pe:Array bD->Array bD->StateT aX Sem (Array bD):=sortPriv% PySem.Builtin.mergeHi
abbrev Ade(st:aX)(g:Nat):aX:=qL (kindOf st) (arrOf st) (pendingOf st) g (failedOf st)
abbrev Yk(g:Nat):StateT aX Sem Unit:=modify fun s=>Ade s g
noncomputable def M4(left:Bool)(key:bD)(arr:Array bD)(base i:Nat):StateT aX Sem (Option Bool):=do
 let x <- elem' arr (base+i)
 if left then lt' x key else return (<- lt' key x).map (!·)
theorem W8(left:Bool)(key:bD)(arr:Array bD)(base n hint:Nat):E4 left key arr base n hint=(do
 let mut lastofs:=0
 let mut ofs:=1
 let mut lo:=0
 let mut hi:=0
 let some right <- M4 left key arr base hint | return none
 if right then
  for _ in [0:n] do
   if ofs ≥ n - hint then break
   let some more <- M4 left key arr base (hint+ofs) | return none
   if !more then break
   lastofs:=ofs
   ofs:=2 * ofs+1
  lo:=hint+lastofs+1
  hi:=hint+min ofs (n - hint)
 else
  for _ in [0:n] do
   if ofs ≥ hint+1 then break
   let some found <- M4 left key arr base (hint - ofs) | return none
   if found then break
   lastofs:=ofs
   ofs:=2 * ofs+1
  lo:=hint+1 - min ofs (hint+1)
  hi:=hint - lastofs
 for _ in [0:n] do
  if lo ≥ hi then break
  let m:=lo+(hi - lo) / 2
  let some more <- M4 left key arr base m | return none
  if more then lo:=m+1 else hi:=m
 return some hi):=rfl
section
variable {prog:bQ}{w:cC}{A:cL}{E:aC->aG->Prop}{s:aG}
theorem X0{n:Nat}{st:aX}{Q:Option Nat->aX->Prop}(Pd:Nat->Bool)
  (hm:∀ i j,i<=j->j < n->Pd j=true->Pd i=true)
  (h:∀ k,k<=n->(∀ i,i < k->Pd i=true)->(∀ i,k<=i->i < n->Pd i=false)->Q (some k) st)
  (f:Nat->Option (Option Nat)×Nat×Nat->StateT aX Sem (ForInStep (Option (Option Nat)×Nat×Nat))) (g:Option (Option Nat)×Nat×Nat->StateT aX Sem (Option Nat))
  (hf1:∀ x l r,∀ Q:ForInStep (Option (Option Nat)×Nat×Nat)->aX->Prop,l ≥ r->Q (.done (none,l,r)) st->wpS (model prog w) A E s (f x (none,l,r)) Q st)
  (hf2:∀ x l r,∀ Q:ForInStep (Option (Option Nat)×Nat×Nat)->aX->Prop,¬ l ≥ r->r<=n->(Pd (l+(r - l) / 2)=true->Q (.yield (none,l+(r - l) / 2+1,r)) st) ->
   (Pd (l+(r - l) / 2)=false->Q (.yield (none,l,l+(r - l) / 2)) st)->wpS (model prog w) A E s (f x (none,l,r)) Q st)
  (hg:∀ k,Q (some k) st->wpS (model prog w) A E s (g (none,k,k)) Q st)
  (lo hi:Nat) (h1:lo<=hi) (h2:hi<=n) (h3:∀ i,i < lo->Pd i=true) (h4:∀ i,hi<=i->i < n->Pd i=false) :
  wpS (model prog w) A E s (forIn [0:n] ((none,lo,hi):Option (Option Nat)×Nat×Nat) f >>= g) Q st:=by
 refine aU (fI (dX (I:=fun x c st'=>st'=st/\∃ lo hi,c=(none,lo,hi)/\lo<=hi/\hi<=n/\hi - lo<=n - x/\(∀ i,i < lo->Pd i=true)/\(∀ i,hi<=i->i < n->Pd i=false))
  (Q:=fun c st'=>st'=st/\∃ k,c=(none,k,k)/\k<=n/\(∀ i,i < k->Pd i=true)/\(∀ i,k<=i->i < n->Pd i=false)) ?step ?fin ⟨rfl,lo,hi,rfl,h1,h2,by omega,h3,h4⟩) ?post)
 case post=>
  rintro c st' ⟨rfl,k,rfl,a,b,d⟩
  exact hg k (h k a b d)
 case fin=>
  rintro c st' ⟨rfl,l,r,rfl,a1,a2,a3,a4,a5⟩
  have:l=r:=by omega
  subst this
  exact ⟨rfl,l,rfl,a2,a4,a5⟩
 case step=>
  rintro x c st' _ hx ⟨rfl,l,r,rfl,a1,a2,a3,a4,a5⟩
  by_cases hgr:l ≥ r
  ·have:l=r:=by omega
   subst this
   exact hf1 x l l _ hgr ⟨rfl,l,rfl,a2,a4,a5⟩
  ·refine hf2 x l r _ hgr a2 (fun hp=>?_) (fun hp=>?_)
   ·exact ⟨rfl,_,r,rfl,by omega,a2,by omega,fun i b1=>hm i _ (by omega) (by omega) hp,a5⟩
   ·refine ⟨rfl,l,_,rfl,by omega,by omega,by omega,a4,fun i b1 b2=>?_⟩
    cases hq:Pd i
    ·rfl
    ·rw[hm _ i b1 b2 hq] at hp;cases hp
theorem Wx{left:Bool}{key:bD}{arr:Array bD}{base n hint:Nat}{st:aX}{Q:Option Nat->aX->Prop}(Pd:Nat->Bool)
  (hb:∀ i,i < n->∀ Q:Option Bool->aX->Prop,Q (some (Pd i)) st->wpS (model prog w) A E s (M4 left key arr base i) Q st)
  (hm:∀ i j,i<=j->j < n->Pd j=true->Pd i=true) (hh:hint < n)
  (h:∀ k,k<=n->(∀ i,i < k->Pd i=true)->(∀ i,k<=i->i < n->Pd i=false)->Q (some k) st) :
  wpS (model prog w) A E s (E4 left key arr base n hint) Q st:=by
 rw[W8]
 dsimp only
 refine aU (hb _ hh _ ?_)
 dsimp only
 have up:∀ m,m < n->Pd m=false->∀ i,m<=i->i < n->Pd i=false:=by
  intro m _ hp i b1 b2
  cases hq:Pd i
  ·rfl
  ·rw[hm m i b1 b2 hq] at hp;cases hp
 cases hp:Pd hint
 ·rw[if_neg (by simp)]
  refine aU (fI (dX (I:=fun x c st'=>st'=st/\∃ la o,c=(none,la,o)/\la < o/\x+1<=o/\la<=hint/\Pd (hint - la)=false)
   (Q:=fun c st'=>st'=st/\∃ la o,c=(none,la,o)/\la < o/\la<=hint/\Pd (hint - la)=false/\(hint+1<=o\/Pd (hint - o)=true)) ?step ?fin
   ⟨rfl,0,1,rfl,by omega,by omega,by omega,hp⟩) ?post)
  case post=>
   rintro c st' ⟨rfl,la,o,rfl,b1,b2,b3,b4⟩
   dsimp only
   refine X0 Pd hm h _ _ (fun x l r Q hl hq=>by
    dsimp only
    rw[if_pos hl];exact bF hq) (fun x l r Q hl hr q1 q2=>by
    dsimp only
    rw[if_neg hl]
    refine aU (hb _ (by omega) _ ?_)
    dsimp only
    cases hq:Pd (l+(r - l) / 2)
    ·rw[if_neg (by simp)];exact bF (q2 hq)
    ·rw[if_pos rfl];exact bF (q1 hq)) (fun k hk=>bF hk) (hint+1 - min o (hint+1)) (hint - la) (by omega) (by omega) ?_ (up _ (by omega) b3)
   intro i hi
   rcases b4 with b4 | b4
   ·omega
   ·exact hm i _ (by omega) (by omega) b4
  case fin=>
   rintro c st' ⟨rfl,la,o,rfl,b1,b2,b3,b4⟩
   exact ⟨rfl,la,o,rfl,b1,b3,b4,.inl (by omega)⟩
  case step=>
   rintro x c st' _ hx ⟨rfl,la,o,rfl,b1,b2,b3,b4⟩
   dsimp only
   by_cases hg:o ≥ hint+1
   ·rw[if_pos hg]
    exact bF ⟨rfl,la,o,rfl,b1,b3,b4,.inl hg⟩
   ·rw[if_neg hg]
    refine aU (hb _ (by omega) _ ?_)
    dsimp only
    cases hq:Pd (hint - o)
    ·rw[if_neg (by simp)]
     exact bF ⟨rfl,o,_,rfl,by omega,by omega,by omega,hq⟩
    ·rw[if_pos rfl]
     exact bF ⟨rfl,la,o,rfl,b1,b3,b4,.inr hq⟩
 ·rw[if_pos rfl]
  refine aU (fI (dX (I:=fun x c st'=>st'=st/\∃ la o,c=(none,la,o)/\la < o/\x+1<=o/\la < n - hint/\Pd (hint+la)=true)
   (Q:=fun c st'=>st'=st/\∃ la o,c=(none,la,o)/\la < o/\la < n - hint/\Pd (hint+la)=true/\(n - hint<=o\/(o < n - hint/\Pd (hint+o)=false))) ?step ?fin
   ⟨rfl,0,1,rfl,by omega,by omega,by omega,hp⟩) ?post)
  case post=>
   rintro c st' ⟨rfl,la,o,rfl,b1,b2,b3,b4⟩
   dsimp only
   refine X0 Pd hm h _ _ (fun x l r Q hl hq=>by
    dsimp only
    rw[if_pos hl];exact bF hq) (fun x l r Q hl hr q1 q2=>by
    dsimp only
    rw[if_neg hl]
    refine aU (hb _ (by omega) _ ?_)
    dsimp only
    cases hq:Pd (l+(r - l) / 2)
    ·rw[if_neg (by simp)];exact bF (q2 hq)
    ·rw[if_pos rfl];exact bF (q1 hq)) (fun k hk=>bF hk) (hint+la+1) (hint+min o (n - hint)) (by omega) (by omega) (fun i hi=>hm i _ (by omega) (by omega) b3) ?_
   intro i hi hi2
   rcases b4 with b4 | ⟨b4,b5⟩
   ·omega
   ·exact up _ (by omega) b5 i (by omega) hi2
  case fin=>
   rintro c st' ⟨rfl,la,o,rfl,b1,b2,b3,b4⟩
   exact ⟨rfl,la,o,rfl,b1,b3,b4,.inl (by omega)⟩
  case step=>
   rintro x c st' _ hx ⟨rfl,la,o,rfl,b1,b2,b3,b4⟩
   dsimp only
   by_cases hg:o ≥ n - hint
   ·rw[if_pos hg]
    exact bF ⟨rfl,la,o,rfl,b1,b3,b4,.inl hg⟩
   ·rw[if_neg hg]
    refine aU (hb _ (by omega) _ ?_)
    dsimp only
    cases hq:Pd (hint+o)
    ·rw[if_pos (by simp)]
     exact bF ⟨rfl,la,o,rfl,b1,b3,b4,.inr ⟨by omega,hq⟩⟩
    ·rw[if_neg (by simp)]
     exact bF ⟨rfl,o,_,rfl,by omega,by omega,by omega,hq⟩
end
noncomputable def nk(p:bD):Int:=numOf p.1
noncomputable def IK(p:bD):Prop:=∃ n t,p.1 = .int n t
noncomputable def Srt(l:List bD):Prop:=l.Pairwise fun p q=>nk p<=nk q
section
variable {prog:bQ}{w:cC}{A:cL}{E:aC->aG->Prop}{s:aG}
theorem O6{st:aX}{p q:bD}{Q:Option Bool->aX->Prop}(hk:kindOf st=oneType')(hp:IK p)(hq:IK q)(h:Q (some (decide (nk p < nk q))) st) :
  wpS (model prog w) A E s (lt' p q) Q st:=by
 obtain ⟨n,t,hn⟩:=hp
 obtain ⟨m,u,hm⟩:=hq
 rw[lt'_eq]
 refine aU (mB ?_)
 rw[hk,keyLt'_oneType,hn,hm]
 refine aU (nZ (gI (oneLt_int ⟨rfl,?_⟩)))
 unfold nk at h
 rw[hn,hm] at h
 exact bF h
theorem Bq{st:aX}{arr:Array bD}{i:Nat}{p:bD}{Q:bD->aX->Prop}(e:arr.toList[i]? = some p)(h:Q p st) :
  wpS (model prog w) A E s (elem' arr i) Q st:=by
 rw[elem'_eq,<- cT,e]
 exact bF h
theorem Vb{left:Bool}{key:bD}{arr:Array bD}{base n hint:Nat}{st:aX}{Q:Option Nat->aX->Prop}(X:List bD)(T:bD->Bool)
  (hX:X.length=n) (he:∀ i,i < n->arr.toList[base+i]? = X[i]?)
  (hb:∀ p∈X,∀ Q:Option Bool->aX->Prop,Q (some (T p)) st->wpS (model prog w) A E s (if left then lt' p key else do return (<- lt' key p).map (!·)) Q st)
  (hm:X.Pairwise fun p q=>T q=true->T p=true) (hh:hint < n)
  (h:∀ k,k<=n->(∀ p∈X.take k,T p=true)->(∀ p∈X.drop k,T p=false)->Q (some k) st) :
  wpS (model prog w) A E s (E4 left key arr base n hint) Q st:=by
 subst hX
 refine Wx (fun i=>(X[i]?.map T).getD false) ?_ ?_ hh ?_
 ·intro i hi Q hq
  unfold M4
  have e:X[i]? = some X[i]:=aH hi
  rw[e] at hq
  refine aU (Bq ((he i hi).trans e) ?_)
  exact hb _ (eT hi) Q hq
 ·intro i j hij hj hT
  have ej:X[j]? = some X[j]:=aH hj
  have ei:X[i]? = some X[i]:=aH (by omega)
  rw[ej] at hT
  rw[ei]
  by_cases hl:i=j
  ·subst hl;exact hT
  ·exact dI.mp hm i j (by omega) hj (by omega) hT
 ·intro k hk h1 h2
  refine h k hk ?_ ?_
  ·intro p hp
   obtain ⟨i,hi,rfl⟩:=iU.mp hp
   have hi':i < k/\i < X.length:=by simpa[fK,Nat.lt_min] using hi
   have:=h1 i hi'.1
   rw[aH hi'.2] at this
   rw[rF]
   exact this
  ·intro p hp
   obtain ⟨i,hi,rfl⟩:=iU.mp hp
   have hi':k+i < X.length:=by simp[jB] at hi;omega
   have:=h2 (k+i) (by omega) hi'
   rw[aH hi'] at this
   rw[mZ]
   exact this
theorem M5{key:bD}{arr:Array bD}{base n hint:Nat}{st:aX}{Q:Option Nat->aX->Prop}(X:List bD)
  (hX:X.length=n) (he:∀ i,i < n->arr.toList[base+i]? = X[i]?) (hk:kindOf st=oneType') (hi:∀ p∈X,IK p) (hkey:IK key) (hs:Srt X) (hh:hint < n)
  (h:∀ k,k<=n->(∀ p∈X.take k,nk p<=nk key)->(∀ p∈X.drop k,nk key < nk p)->Q (some k) st) :
  wpS (model prog w) A E s (E4 false key arr base n hint) Q st:=by
 refine Vb X (fun p=>!decide (nk key < nk p)) hX he ?_ (hs.imp ?_) hh ?_
 ·intro p hp Q hq
  rw[if_neg (by simp)]
  exact aU (O6 hk hkey (hi p hp) (bF hq))
 ·intro p q hpq ht
  simp at ht ⊢
  omega
 ·intro k a b c
  refine h k a (fun p hp=>?_) fun p hp=>?_
  ·have:=b p hp
   simpa using this
  ·have:=c p hp
   simpa using this
theorem Ov{key:bD}{arr:Array bD}{base n hint:Nat}{st:aX}{Q:Option Nat->aX->Prop}(X:List bD)
  (hX:X.length=n) (he:∀ i,i < n->arr.toList[base+i]? = X[i]?) (hk:kindOf st=oneType') (hi:∀ p∈X,IK p) (hkey:IK key) (hs:Srt X) (hh:hint < n)
  (h:∀ k,k<=n->(∀ p∈X.take k,nk p < nk key)->(∀ p∈X.drop k,nk key<=nk p)->Q (some k) st) :
  wpS (model prog w) A E s (E4 true key arr base n hint) Q st:=by
 refine Vb X (fun p=>decide (nk p < nk key)) hX he ?_ (hs.imp ?_) hh ?_
 ·intro p hp Q hq
  rw[if_pos rfl]
  exact O6 hk (hi p hp) hkey hq
 ·intro p q hpq ht
  simp at ht ⊢
  omega
 ·intro k a b c
  refine h k a (fun p hp=>?_) fun p hp=>?_
  ·have:=b p hp
   simpa using this
  ·have:=c p hp
   simpa using this
end
structure J(L out x y:List bD):Prop where
 perm:(out++(x++y)).Perm L
 sx:Srt (out++x)
 sy:Srt (out++y)
theorem Be{x y:List bD}:Srt (x++y)↔Srt x/\Srt y/\∀ p∈x,∀ q∈y,nk p<=nk q:=pO
theorem J.ga{L out x1 x2 y:List bD}(h:J L out (x1++x2) y)(hl:∀ p∈x1,∀ q∈y,nk p<=nk q):J L (out++x1) x2 y:=by
 have a:=h.sx
 have b:=Be.mp h.sy
 refine ⟨by simpa[bA] using h.perm,by simpa[bA] using a,?_⟩
 rw[<- bA] at a
 refine Be.mpr ⟨(Be.mp a).1,b.2.1,?_⟩
 intro p hp q hq
 rcases dY.mp hp with hp | hp
 ·exact b.2.2 p hp q hq
 ·exact hl p hp q hq
theorem J.swap{L out x y:List bD}(h:J L out x y):J L out y x:=⟨(List.perm_append_comm.append_left out).trans h.perm,h.sy,h.sx⟩
theorem J.gb{L out x y1 y2:List bD}(h:J L out x (y1++y2))(hl:∀ p∈y1,∀ q∈x,nk p<=nk q):J L (out++y1) x y2:=(h.swap.ga hl).swap
noncomputable def Fin(L:List bD)(r:Array bD):Prop:=r.toList.Perm L/\Srt r.toList
theorem ext_end(a:Array bD)(i:Nat):(a.extract i a.size).toList=a.toList.drop i:=by
 simp only[kY,fF]
 exact eJ (by simp)
theorem ext_k(a:Array bD)(i k:Nat):(a.extract i (i+k)).toList=(a.toList.drop i).take k:=by
 simp[fF]
abbrev dn(a b out:Array bD)(ia ib:Nat):Array bD:=out++a.extract ia a.size++b.extract ib b.size
abbrev lA(a b out:Array bD)(ia ib:Nat):Array bD:=out++b.extract ib b.size++a.extract ia a.size
theorem P2{L:List bD}{a b out:Array bD}{ia ib:Nat}(h:J L out.toList (a.toList.drop ia) (b.toList.drop ib))(hb:ib=b.size\/ia=a.size):Fin L (dn a b out ia ib):=by
 have e:(dn a b out ia ib).toList=out.toList++(a.toList.drop ia++b.toList.drop ib):=by
  show (out++a.extract ia a.size++b.extract ib b.size).toList=_
  rw[cW,cW,ext_end,ext_end,bA]
 unfold Fin
 rw[e]
 refine ⟨h.perm,?_⟩
 rcases hb with hb | hb
 ·rw[kE (as:=b.toList) (by rw[hb];simp),aT]
  exact h.sx
 ·rw[kE (as:=a.toList) (by rw[hb];simp),fV]
  exact h.sy
theorem Sb{L:List bD}{a b out:Array bD}{ia ib:Nat}(h:J L out.toList (a.toList.drop ia) (b.toList.drop ib))(ha:ia+1=a.size)
  (ht:∀ p∈a.toList.drop (a.size - 1),∀ q∈b.toList,nk q<=nk p):Fin L (lA a b out ia ib):=by
 have e:(lA a b out ia ib).toList=out.toList++(b.toList.drop ib++a.toList.drop ia):=by
  show (out++b.extract ib b.size++a.extract ia a.size).toList=_
  rw[cW,cW,ext_end,ext_end,bA]
 unfold Fin
 rw[e]
 refine ⟨h.swap.perm,?_⟩
 have x:=Be.mp h.sx
 have y:=Be.mp h.sy
 refine Be.mpr ⟨x.1,Be.mpr ⟨y.2.1,x.2.1,?_⟩,?_⟩
 ·intro p hp q hq
  exact ht q (by rw[<- ha];exact hq) p (kZ hp)
 ·intro p hp q hq
  rcases dY.mp hq with hq | hq
  ·exact y.2.2 p hp q hq
  ·exact x.2.2 p hp q hq
abbrev GS:Type:=Option (Array bD)×Array bD×Nat×Nat×Nat×Nat×Nat
abbrev AS:Type:=Option (Array bD)×Array bD×Nat×Nat×Nat×Nat
abbrev OS:Type:=Option (Array bD)×Array bD×Nat×Nat×Nat
noncomputable def lo3(a b:Array bD)(g k k2:Nat)(out:Array bD)(ia ib:Nat):StateT aX Sem (ForInStep GS):=do
 let p <- elem' a ia
 if (ia+1+1 == a.size)=true then pure (.done (some (lA a b (out.push p) (ia+1) ib),out.push p,ia+1,ib,g,k,k2)) else
 if (decide (k < 7)&&decide (k2 < 7))=true then pure (.done (none,out.push p,ia+1,ib,g,k,k2)) else pure (.yield (none,out.push p,ia+1,ib,g,k,k2))
noncomputable def lo2(a b:Array bD)(g k bc:Nat)(out:Array bD)(ia ib:Nat):StateT aX Sem (ForInStep GS):=do
 let p <- elem' b ib
 if (ib+1 == b.size)=true then pure (.done (some (dn a b (out.push p) ia (ib+1)),out.push p,ia,ib+1,g,k,bc)) else do
 let q <- elem' a ia
 let x <- E4 true q b (ib+1) (b.size - (ib+1)) 0
 match x with
 | some k2=>
  if k2 > 0 then
   if (ib+1+k2 == b.size)=true then
    pure (.done (some (dn a b (out.push p++b.extract (ib+1) (ib+1+k2)) ia (ib+1+k2)),out.push p++b.extract (ib+1) (ib+1+k2),ia,ib+1+k2,g,k,k2))
   else lo3 a b g k k2 (out.push p++b.extract (ib+1) (ib+1+k2)) ia (ib+1+k2)
  else lo3 a b g k k2 (out.push p) ia (ib+1)
 | _=>pure (.done (some (dn a b (out.push p) ia (ib+1)),out.push p,ia,ib+1,g,k,bc))
noncomputable def lo1(a b:Array bD)(c:GS)(g:Nat):StateT aX Sem (ForInStep GS):=do
 Yk g
 let p <- elem' b c.2.2.2.1
 let x <- E4 false p a c.2.2.1 (a.size - c.2.2.1) 0
 match x with
 | some k=>
  if k > 0 then
   if (c.2.2.1+k+1 == a.size)=true then
    pure (.done (some (lA a b (c.2.1++a.extract c.2.2.1 (c.2.2.1+k)) (c.2.2.1+k) c.2.2.2.1),c.2.1++a.extract c.2.2.1 (c.2.2.1+k),c.2.2.1+k,c.2.2.2.1,g,k,c.2.2.2.2.2.2))
   else
    if (c.2.2.1+k == a.size)=true then
     pure (.done (some (dn a b (c.2.1++a.extract c.2.2.1 (c.2.2.1+k)) (c.2.2.1+k) c.2.2.2.1),c.2.1++a.extract c.2.2.1 (c.2.2.1+k),c.2.2.1+k,c.2.2.2.1,g,k,c.2.2.2.2.2.2))
    else lo2 a b g k c.2.2.2.2.2.2 (c.2.1++a.extract c.2.2.1 (c.2.2.1+k)) (c.2.2.1+k) c.2.2.2.1
  else lo2 a b g k c.2.2.2.2.2.2 c.2.1 c.2.2.1 c.2.2.2.1
 | _=>pure (.done (some (dn a b c.2.1 c.2.2.1 c.2.2.2.1),c.2.1,c.2.2.1,c.2.2.2.1,g,c.2.2.2.2.2.1,c.2.2.2.2.2.2))
noncomputable def loB(a b:Array bD)(_:Nat)(c:GS):StateT aX Sem (ForInStep GS):=
 if c.2.2.2.2.1 > 1 then lo1 a b c (c.2.2.2.2.1 - 1) else lo1 a b c c.2.2.2.2.1
noncomputable def loA(a b:Array bD)(g:Nat)(_:Nat)(c:AS):StateT aX Sem (ForInStep AS):=do
 let p <- elem' b c.2.2.2.1
 let q <- elem' a c.2.2.1
 let x <- lt' p q
 match x with
 | some bWins=>
  if bWins=true then do
   let p <- elem' b c.2.2.2.1
   if (c.2.2.2.1+1 == b.size)=true then pure (.done (some (dn a b (c.2.1.push p) c.2.2.1 (c.2.2.2.1+1)),c.2.1.push p,c.2.2.1,c.2.2.2.1+1,0,c.2.2.2.2.2+1))
   else if c.2.2.2.2.2+1 ≥ g then pure (.done (none,c.2.1.push p,c.2.2.1,c.2.2.2.1+1,0,c.2.2.2.2.2+1))
   else pure (.yield (none,c.2.1.push p,c.2.2.1,c.2.2.2.1+1,0,c.2.2.2.2.2+1))
  else do
   let p <- elem' a c.2.2.1
   if (c.2.2.1+1+1 == a.size)=true then pure (.done (some (lA a b (c.2.1.push p) (c.2.2.1+1) c.2.2.2.1),c.2.1.push p,c.2.2.1+1,c.2.2.2.1,c.2.2.2.2.1+1,0))
   else if c.2.2.2.2.1+1 ≥ g then pure (.done (none,c.2.1.push p,c.2.2.1+1,c.2.2.2.1,c.2.2.2.2.1+1,0))
   else pure (.yield (none,c.2.1.push p,c.2.2.1+1,c.2.2.2.1,c.2.2.2.2.1+1,0))
 | _=>pure (.done (some (dn a b c.2.1 c.2.2.1 c.2.2.2.1),c.2.1,c.2.2.1,c.2.2.2.1,c.2.2.2.2.1,c.2.2.2.2.2))
noncomputable def loO(a b:Array bD)(_:Nat)(c:OS):StateT aX Sem (ForInStep OS):=do
 let d <- forIn [0:a.size+b.size] ((none,c.2.1,c.2.2.1,c.2.2.2.1,0,0):AS) (loA a b c.2.2.2.2)
 match d.1 with
 | some r=>pure (.done (some r,d.2.1,d.2.2.1,d.2.2.2.1,c.2.2.2.2))
 | none=>do
  liftM (rule "list.sort.gallop")
  let e <- forIn [0:a.size+b.size] ((none,d.2.1,d.2.2.1,d.2.2.2.1,c.2.2.2.2+1,d.2.2.2.2.1,d.2.2.2.2.2):GS) (loB a b)
  match e.1 with
  | some r=>pure (.done (some r,e.2.1,e.2.2.1,e.2.2.2.1,e.2.2.2.2.1))
  | none=>do
   Yk (e.2.2.2.2.1+1)
   pure (.yield (none,e.2.1,e.2.2.1,e.2.2.2.1,e.2.2.2.2.1+1))
theorem Uo(a b:Array bD):Pc a b=(do
 liftM (rule "list.sort.merge-lo")
 let p <- elem' b 0
 if (1 == b.size)=true then pure (dn a b #[p] 0 1) else
 if (0+1 == a.size)=true then pure (lA a b #[p] 0 1) else do
 let s <- get
 let c <- forIn [0:a.size+b.size] ((none,#[p],0,1,gallopOf s):OS) (loO a b)
 match c.1 with
 | some r=>pure r
 | none=>liftM (unsupported (α:=Array bD) "internal:list.sort.merge-bound")):=by
 kernel_rfl
section
variable {prog:bQ}{w:cC}{A:cL}{E:aC->aG->Prop}{s:aG}{L:List bD}{a b:Array bD}{st:aX}
structure Lo(L:List bD)(a b out:Array bD)(ia ib:Nat):Prop where
 ha:ia+1 < a.size
 hb:ib < b.size
 j:J L out.toList (a.toList.drop ia) (b.toList.drop ib)
structure Ms(a b:Array bD)(st:aX):Prop where
 kind:kindOf st=oneType'
 ka:∀ p∈a.toList,IK p
 kb:∀ p∈b.toList,IK p
noncomputable def Top(a b:Array bD):Prop:=∀ p∈a.toList.drop (a.size - 1),∀ q∈b.toList,nk q<=nk p
noncomputable def Sg(st st':aX):Prop:=∃ g,st'=Ade st g
theorem Sg.kind{st st':aX}(h:Sg st st'):kindOf st'=kindOf st:=by obtain ⟨g,rfl⟩:=h;rfl
theorem Sg.set{st st':aX}(h:Sg st st')(g:Nat):Sg st (Ade st' g):=by obtain ⟨g',rfl⟩:=h;exact ⟨g,rfl⟩
theorem Ms.of{st st':aX}(h:Ms a b st)(e:Sg st st'):Ms a b st':=⟨e.kind.trans h.kind,h.ka,h.kb⟩
theorem Ip{a:Array bD}{i:Nat}(h:i < a.size):∃ p,a.toList[i]? = some p/\p∈a.toList/\a.toList.drop i=p::a.toList.drop (i+1):=by
 have h':i < a.toList.length:=by simpa using h
 exact ⟨a.toList[i],aH h',eT h',fG h'⟩
noncomputable def PG(L:List bD)(a b:Array bD)(st:aX)(m:Nat)(r:ForInStep GS)(st':aX):Prop:=
 Sg st st'/\match r with
 | .done (some r,_)=>Fin L r
 | .done (none,out,ia,ib,_)=>Lo L a b out ia ib/\m<=ia+ib
 | .yield (none,out,ia,ib,_)=>Lo L a b out ia ib/\m<=ia+ib
 | .yield (some _,_)=>False
theorem N4{x:List bD}{p:bD}(h:Srt (p::x)):∀ q∈p::x,nk p<=nk q:=by
 intro q hq
 rcases cI.mp hq with rfl | hq
 ·exact fP _
 ·exact (mL.mp h).1 q hq
theorem Ad5{g k k2:Nat}{out:Array bD}{ia ib m:Nat}{st':aX}(M:Ms a b st)(hT:Top a b)(hs:Sg st st')(ha:ia+1 < a.size)(hb:ib < b.size)
  (j:J L out.toList (a.toList.drop ia) (b.toList.drop ib)) (hm:m<=ia+ib) (hl:∀ p,a.toList[ia]? = some p->∀ q∈b.toList.drop ib,nk p<=nk q) :
  wpS (model prog w) A E s (lo3 a b g k k2 out ia ib) (PG L a b st (m+1)) st':=by
 unfold lo3
 obtain ⟨p,e,hp,ed⟩:=Ip (a:=a) (i:=ia) (by omega)
 refine aU (Bq e ?_)
 have j':J L (out.push p).toList (a.toList.drop (ia+1)) (b.toList.drop ib):=by
  rw[dU]
  rw[ed] at j
  exact J.ga (x1:=[p]) j (fun x hx q hq=>by rw[bX.mp hx];exact hl p e q hq)
 by_cases h1:ia+1+1=a.size
 ·rw[if_pos (by simpa using h1)]
  exact bF ⟨hs,Sb j' h1 hT⟩
 ·rw[if_neg (by simpa using h1)]
  have lo:Lo L a b (out.push p) (ia+1) ib:=⟨by omega,hb,j'⟩
  split
  ·exact bF ⟨hs,lo,by omega⟩
  ·exact bF ⟨hs,lo,by omega⟩
theorem Adr{g k bc:Nat}{out:Array bD}{ia ib m:Nat}{st':aX}(M:Ms a b st)(hT:Top a b)(hs:Sg st st')(ha:ia+1 < a.size)(hb:ib < b.size)
  (j:J L out.toList (a.toList.drop ia) (b.toList.drop ib)) (hm:m<=ia+ib) (hl:∀ p,b.toList[ib]? = some p->∀ q∈a.toList.drop ia,nk p<=nk q) :
  wpS (model prog w) A E s (lo2 a b g k bc out ia ib) (PG L a b st (m+1)) st':=by
 unfold lo2
 obtain ⟨p,e,hp,ed⟩:=Ip (a:=b) (i:=ib) hb
 refine aU (Bq e ?_)
 have j':J L (out.push p).toList (a.toList.drop ia) (b.toList.drop (ib+1)):=by
  rw[dU]
  rw[ed] at j
  exact J.gb (y1:=[p]) j (fun x hx q hq=>by rw[bX.mp hx];exact hl p e q hq)
 by_cases h1:ib+1=b.size
 ·rw[if_pos (by simpa using h1)]
  exact bF ⟨hs,P2 j' (.inl h1)⟩
 ·rw[if_neg (by simpa using h1)]
  obtain ⟨q,eq,hq,edq⟩:=Ip (a:=a) (i:=ia) (by omega)
  refine aU (Bq eq ?_)
  have hsa:Srt (q::a.toList.drop (ia+1)):=by rw[<- edq];exact (Be.mp j'.sx).2.1
  refine aU (Ov (b.toList.drop (ib+1)) (by simp) (fun i _=>by rw[qM]) ((M.of hs).kind) (fun x hx=>M.kb x (kZ hx)) (M.ka q hq)
   (Be.mp j'.sy).2.1 (by omega) fun k2 hk2 c1 c2=>?_)
  dsimp only
  have hle:∀ p,a.toList[ia]? = some p->∀ x∈(b.toList.drop (ib+1)).drop k2,nk p<=nk x:=by
   intro p' ep x hx
   rw[eq] at ep
   cases ep
   exact c2 x hx
  have j2:J L ((out.push p).toList++(b.toList.drop (ib+1)).take k2) (a.toList.drop ia) ((b.toList.drop (ib+1)).drop k2):=by
   refine J.gb (by rw[cG];exact j') fun x hx y hy=>?_
   rw[edq] at hy
   have:=N4 hsa y hy
   have:=c1 x hx
   omega
  by_cases hk:k2 > 0
  ·rw[if_pos hk]
   have j3:J L (out.push p++b.extract (ib+1) (ib+1+k2)).toList (a.toList.drop ia) (b.toList.drop (ib+1+k2)):=by
    rw[cW,ext_k,show b.toList.drop (ib+1+k2)=(b.toList.drop (ib+1)).drop k2 from iV.symm]
    exact j2
   by_cases h2:ib+1+k2=b.size
   ·rw[if_pos (by simpa using h2)]
    exact bF ⟨hs,P2 j3 (.inl h2)⟩
   ·rw[if_neg (by simpa using h2)]
    refine fI (Ad5 (m:=m) M hT hs ha (by omega) j3 (by omega) (by rw[<- iV];exact hle)) fun r st'' h=>h
  ·rw[if_neg hk]
   have k0:k2=0:=by omega
   subst k0
   exact Ad5 (m:=m) M hT hs ha (by omega) j' (by omega) hle
theorem Afm{c:GS}{g m:Nat}{st':aX}(M:Ms a b st)(hT:Top a b)(hs:Sg st st')(hL:Lo L a b c.2.1 c.2.2.1 c.2.2.2.1)(hm:m<=c.2.2.1+c.2.2.2.1) :
  wpS (model prog w) A E s (lo1 a b c g) (PG L a b st (m+1)) st':=by
 obtain ⟨r,out,ia,ib,g0,ac,bc⟩:=c
 dsimp only at hL hm
 obtain ⟨ha,hb,j⟩:=hL
 unfold lo1
 dsimp only
 refine aU (iW ?_)
 obtain ⟨p,e,hp,ed⟩:=Ip (a:=b) (i:=ib) hb
 refine aU (Bq e ?_)
 have hs':Sg st (Ade st' g):=hs.set g
 have hsb:Srt (p::b.toList.drop (ib+1)):=by rw[<- ed];exact (Be.mp j.sy).2.1
 refine aU (M5 (a.toList.drop ia) (by simp) (fun i _=>by rw[qM]) ((M.of hs').kind) (fun x hx=>M.ka x (kZ hx)) (M.kb p hp)
  (Be.mp j.sx).2.1 (by omega) fun k hk2 c1 c2=>?_)
 dsimp only
 have hle:∀ p',b.toList[ib]? = some p'->∀ x∈(a.toList.drop ia).drop k,nk p'<=nk x:=by
  intro p' ep x hx
  rw[e] at ep
  cases ep
  exact gF (c2 x hx)
 have j2:J L (out.toList++(a.toList.drop ia).take k) ((a.toList.drop ia).drop k) (b.toList.drop ib):=by
  refine J.ga (by rw[cG];exact j) fun x hx y hy=>?_
  rw[ed] at hy
  have:=N4 hsb y hy
  have:=c1 x hx
  omega
 by_cases hk:k > 0
 ·rw[if_pos hk]
  have j3:J L (out++a.extract ia (ia+k)).toList (a.toList.drop (ia+k)) (b.toList.drop ib):=by
   rw[cW,ext_k,<- iV]
   exact j2
  by_cases h2:ia+k+1=a.size
  ·rw[if_pos (by simpa using h2)]
   exact bF ⟨hs',Sb j3 h2 hT⟩
  ·rw[if_neg (by simpa using h2)]
   by_cases h3:ia+k=a.size
   ·rw[if_pos (by simpa using h3)]
    exact bF ⟨hs',P2 j3 (.inr h3)⟩
   ·rw[if_neg (by simpa using h3)]
    exact Adr (m:=m) M hT hs' (by omega) hb j3 (by omega) (by rw[<- iV];exact hle)
 ·rw[if_neg hk]
  have k0:k=0:=by omega
  subst k0
  exact Adr (m:=m) M hT hs' ha hb j hm hle
noncomputable def PA(L:List bD)(a b:Array bD)(st:aX)(m:Nat)(r:ForInStep AS)(st':aX):Prop:=
 Sg st st'/\match r with
 | .done (some r,_)=>Fin L r
 | .done (none,out,ia,ib,_)=>Lo L a b out ia ib/\m<=ia+ib
 | .yield (none,out,ia,ib,_)=>Lo L a b out ia ib/\m<=ia+ib
 | .yield (some _,_)=>False
theorem Ak4{c:AS}{g x m:Nat}{st':aX}(M:Ms a b st)(hT:Top a b)(hs:Sg st st')(hL:Lo L a b c.2.1 c.2.2.1 c.2.2.2.1)(hm:m<=c.2.2.1+c.2.2.2.1) :
  wpS (model prog w) A E s (loA a b g x c) (PA L a b st (m+1)) st':=by
 obtain ⟨r,out,ia,ib,ac,bc⟩:=c
 dsimp only at hL hm
 obtain ⟨ha,hb,j⟩:=hL
 unfold loA
 dsimp only
 obtain ⟨p,e,hp,ed⟩:=Ip (a:=b) (i:=ib) hb
 obtain ⟨q,eq,hq,edq⟩:=Ip (a:=a) (i:=ia) (by omega)
 refine aU (Bq e ?_)
 refine aU (Bq eq ?_)
 refine aU (O6 ((M.of hs).kind) (M.kb p hp) (M.ka q hq) ?_)
 dsimp only
 have hsb:Srt (p::b.toList.drop (ib+1)):=by rw[<- ed];exact (Be.mp j.sy).2.1
 have hsa:Srt (q::a.toList.drop (ia+1)):=by rw[<- edq];exact (Be.mp j.sx).2.1
 by_cases hlt:nk p < nk q
 ·rw[if_pos (by simpa using hlt)]
  refine aU (Bq e ?_)
  have j':J L (out.push p).toList (a.toList.drop ia) (b.toList.drop (ib+1)):=by
   rw[dU]
   rw[ed] at j
   refine J.gb (y1:=[p]) j (fun x hx y hy=>?_)
   rw[bX.mp hx]
   rw[edq] at hy
   have:=N4 hsa y hy
   omega
  by_cases h1:ib+1=b.size
  ·rw[if_pos (by simpa using h1)]
   exact bF ⟨hs,P2 j' (.inl h1)⟩
  ·rw[if_neg (by simpa using h1)]
   have lo:Lo L a b (out.push p) ia (ib+1):=⟨ha,by omega,j'⟩
   split
   ·exact bF ⟨hs,lo,by omega⟩
   ·exact bF ⟨hs,lo,by omega⟩
 ·rw[if_neg (by simpa using hlt)]
  refine aU (Bq eq ?_)
  have j':J L (out.push q).toList (a.toList.drop (ia+1)) (b.toList.drop ib):=by
   rw[dU]
   rw[edq] at j
   refine J.ga (x1:=[q]) j (fun x hx y hy=>?_)
   rw[bX.mp hx]
   rw[ed] at hy
   have:=N4 hsb y hy
   omega
  by_cases h1:ia+1+1=a.size
  ·rw[if_pos (by simpa using h1)]
   exact bF ⟨hs,Sb j' h1 hT⟩
  ·rw[if_neg (by simpa using h1)]
   have lo:Lo L a b (out.push q) (ia+1) ib:=⟨by omega,hb,j'⟩
   split
   ·exact bF ⟨hs,lo,by omega⟩
   ·exact bF ⟨hs,lo,by omega⟩
theorem Adk{g m:Nat}{out:Array bD}{ia ib:Nat}{st':aX}(M:Ms a b st)(hT:Top a b)(hs:Sg st st')(hL:Lo L a b out ia ib)(hm:m<=ia+ib) :
  wpS (model prog w) A E s (forIn [0:a.size+b.size] ((none,out,ia,ib,0,0):AS) (loA a b g))
   (fun d st''=>Sg st st''/\match d with | (some r,_)=>Fin L r | (none,out,ia,ib,_)=>Lo L a b out ia ib/\m+1<=ia+ib) st':=by
 have hpos:0 < a.size+b.size:=by have:=hL.ha;omega
 refine dX (I:=fun x (d:AS) st''=>Sg st st''/\d.1=none/\Lo L a b d.2.1 d.2.2.1 d.2.2.2.1/\m+min x 1<=d.2.2.1+d.2.2.2.1) ?_ ?_ ⟨hs,rfl,hL,by show m+min 0 1<=ia+ib;omega⟩
 ·rintro x ⟨r,c⟩ st'' _ hx ⟨h1,h2,h3,h4⟩
  refine fI (Ak4 (m:=m) M hT h1 h3 (by omega)) ?_
  rintro (⟨r',o,i1,i2,c'⟩ | ⟨r',o,i1,i2,c'⟩) st3 ⟨k1,k2⟩
  ·cases r' with
   | some r'=>exact ⟨k1,k2⟩
   | none=>exact ⟨k1,k2⟩
  ·cases r' with
   | some r'=>exact k2.elim
   | none=>exact ⟨k1,rfl,k2.1,by have:=k2.2;show m+min (x+1) 1<=i1+i2;omega⟩
 ·rintro ⟨r,o,i1,i2,c⟩ st'' ⟨h1,h2,h3,h4⟩
  dsimp only at h2 h3 h4
  subst h2
  exact ⟨h1,h3,by omega⟩
theorem Adn{g m ac bc:Nat}{out:Array bD}{ia ib:Nat}{st':aX}(M:Ms a b st)(hT:Top a b)(hs:Sg st st')(hL:Lo L a b out ia ib)(hm:m<=ia+ib) :
  wpS (model prog w) A E s (forIn [0:a.size+b.size] ((none,out,ia,ib,g,ac,bc):GS) (loB a b))
   (fun d st''=>Sg st st''/\match d with | (some r,_)=>Fin L r | (none,out,ia,ib,_)=>Lo L a b out ia ib/\m<=ia+ib) st':=by
 refine dX (I:=fun x (d:GS) st''=>Sg st st''/\d.1=none/\Lo L a b d.2.1 d.2.2.1 d.2.2.2.1/\m<=d.2.2.1+d.2.2.2.1) ?_ ?_ ⟨hs,rfl,hL,hm⟩
 ·rintro x d st'' _ hx ⟨h1,h2,h3,h4⟩
  have key:wpS (model prog w) A E s (loB a b x d) (PG L a b st (m+1)) st'':=by
   unfold loB
   split
   ·exact Afm (m:=m) M hT h1 h3 h4
   ·exact Afm (m:=m) M hT h1 h3 h4
  refine fI key ?_
  rintro (⟨r',o,i1,i2,c'⟩ | ⟨r',o,i1,i2,c'⟩) st3 ⟨k1,k2⟩
  ·cases r' with
   | some r'=>exact ⟨k1,k2⟩
   | none=>exact ⟨k1,k2.1,by have:=k2.2;omega⟩
  ·cases r' with
   | some r'=>exact k2.elim
   | none=>exact ⟨k1,rfl,k2.1,by have:=k2.2;show m<=i1+i2;omega⟩
 ·rintro ⟨r,o,i1,i2,c⟩ st'' ⟨h1,h2,h3,h4⟩
  dsimp only at h2 h3 h4
  subst h2
  exact ⟨h1,h3,h4⟩
theorem Ala{c:OS}{x m:Nat}{st':aX}(M:Ms a b st)(hT:Top a b)(hs:Sg st st')(hL:Lo L a b c.2.1 c.2.2.1 c.2.2.2.1)(hm:m<=c.2.2.1+c.2.2.2.1) :
  wpS (model prog w) A E s (loO a b x c) (fun r st''=>Sg st st''/\match r with
   | .done d=>∃ r,d.1=some r/\Fin L r
   | .yield d=>d.1=none/\Lo L a b d.2.1 d.2.2.1 d.2.2.2.1/\m+1<=d.2.2.1+d.2.2.2.1) st':=by
 unfold loO
 refine aU (fI (Adk (m:=m) M hT hs hL hm) ?_)
 rintro ⟨r,o,i1,i2,ac,bc⟩ st2 ⟨h1,h2⟩
 cases r with
 | some r=>exact bF ⟨h1,r,rfl,h2⟩
 | none=>
  refine aU (nZ (eY ⟨rfl,?_⟩))
  refine aU (fI (Adn (m:=m+1) M hT h1 h2.1 h2.2) ?_)
  rintro ⟨r,o,i1,i2,g,ac,bc⟩ st3 ⟨k1,k2⟩
  cases r with
  | some r=>exact bF ⟨k1,r,rfl,k2⟩
  | none=>
   refine aU (iW (bF ⟨k1.set _,rfl,k2.1,k2.2⟩))
theorem Wt{Q:Array bD->aX->Prop}(M:Ms a b st)(hT:Top a b)(h1:0 < a.size)(h2:0 < b.size)(sa:Srt a.toList)(sb:Srt b.toList)
  (hf:∀ p,b.toList[0]? = some p->∀ q∈a.toList,nk p<=nk q)
  (h:∀ r st',Sg st st'->Fin (a.toList++b.toList) r->Q r st'):wpS (model prog w) A E s (Pc a b) Q st:=by
 rw[Uo]
 refine aU (nZ (eY ⟨rfl,?_⟩))
 obtain ⟨p,e,hp,ed⟩:=Ip (a:=b) (i:=0) h2
 refine aU (Bq e ?_)
 have s0:Sg st st:=⟨gallopOf st,rfl⟩
 have j:J (a.toList++b.toList) (#[p]:Array bD).toList (a.toList.drop 0) (b.toList.drop 1):=by
  have j0:J (a.toList++b.toList) [] a.toList ([p]++b.toList.drop (0+1)):=by
   rw[tK] at ed
   refine ⟨?_,?_,?_⟩
   ·show ([]++(a.toList++(p::b.toList.drop (0+1)))).Perm _
    rw[<- ed];exact iC _
   ·exact sa
   ·show Srt (p::b.toList.drop (0+1))
    rw[<- ed];exact sb
  exact j0.gb (fun x hx q hq=>by rw[bX.mp hx];exact hf p e q hq)
 by_cases c1:1=b.size
 ·rw[if_pos (by simpa using c1)]
  exact bF (h _ _ s0 (P2 j (.inl c1)))
 ·rw[if_neg (by simpa using c1)]
  by_cases c2:0+1=a.size
  ·rw[if_pos (by simpa using c2)]
   exact bF (h _ _ s0 (Sb j c2 hT))
  ·rw[if_neg (by simpa using c2)]
   refine aU (mB ?_)
   refine aU (fI (dX (I:=fun x (d:OS) st'=>Sg st st'/\d.1=none/\Lo (a.toList++b.toList) a b d.2.1 d.2.2.1 d.2.2.2.1/\x+1<=d.2.2.1+d.2.2.2.1)
    (Q:=fun d st'=>Sg st st'/\∃ r,d.1=some r/\Fin (a.toList++b.toList) r) ?_ ?_ ⟨s0,rfl,⟨by show 0+1 < a.size;omega,by show 1 < b.size;omega,j⟩,by show 0+1<=0+1;omega⟩) ?_)
   ·rintro x c st' _ hx ⟨k1,k2,k3,k4⟩
    refine fI (Ala (m:=x+1) M hT k1 k3 k4) ?_
    rintro (d | d) st'' ⟨l1,l2⟩
    ·exact ⟨l1,l2⟩
    ·exact ⟨l1,l2.1,l2.2.1,l2.2.2⟩
   ·rintro c st' ⟨k1,k2,k3,k4⟩
    have:=k3.ha
    have:=k3.hb
    omega
   ·rintro ⟨r,c⟩ st' ⟨k1,r',k2,k3⟩
    dsimp only at k2
    subst k2
    exact bF (h _ _ k1 k3)
end
abbrev HG:Type:=Option (Array bD)×Nat×Nat×Array bD×Nat×Nat×Nat
abbrev HA:Type:=Option (Array bD)×Nat×Nat×Array bD×Nat×Nat
abbrev HO:Type:=Option (Array bD)×Nat×Nat×Array bD×Nat
abbrev dnH(a b out:Array bD)(na nb:Nat):Array bD:=a.extract 0 na++b.extract 0 nb++out.reverse
abbrev fB(a b out:Array bD)(na nb:Nat):Array bD:=b.extract 0 nb++a.extract 0 na++out.reverse
noncomputable def hi3(a b:Array bD)(g k k2:Nat)(out:Array bD)(na nb:Nat):StateT aX Sem (ForInStep HG):=do
 let p <- elem' a (na - 1)
 if (na - 1 == 0)=true then pure (.done (some (dnH a b (out.push p) (na - 1) nb),na - 1,nb,out.push p,g,k,k2)) else
 if (decide (k < 7)&&decide (k2 < 7))=true then pure (.done (none,na - 1,nb,out.push p,g,k,k2)) else pure (.yield (none,na - 1,nb,out.push p,g,k,k2))
noncomputable def hi2(a b:Array bD)(g k bc:Nat)(out:Array bD)(na nb:Nat):StateT aX Sem (ForInStep HG):=do
 let p <- elem' b (nb - 1)
 if (nb - 1 == 1)=true then pure (.done (some (fB a b (out.push p) na (nb - 1)),na,nb - 1,out.push p,g,k,bc)) else do
 let q <- elem' a (na - 1)
 let x <- E4 true q b 0 (nb - 1) (nb - 1 - 1)
 match x with
 | some t=>
  if nb - 1 - t > 0 then
   if (t == 1)=true then
    pure (.done (some (fB a b (out.push p++(b.extract t (nb - 1)).reverse) na t),na,t,out.push p++(b.extract t (nb - 1)).reverse,g,k,nb - 1 - t))
   else if (t == 0)=true then
    pure (.done (some (dnH a b (out.push p++(b.extract t (nb - 1)).reverse) na t),na,t,out.push p++(b.extract t (nb - 1)).reverse,g,k,nb - 1 - t))
   else hi3 a b g k (nb - 1 - t) (out.push p++(b.extract t (nb - 1)).reverse) na t
  else hi3 a b g k (nb - 1 - t) (out.push p) na (nb - 1)
 | _=>pure (.done (some (dnH a b (out.push p) na (nb - 1)),na,nb - 1,out.push p,g,k,bc))
noncomputable def hi1(a b:Array bD)(c:HG)(g:Nat):StateT aX Sem (ForInStep HG):=do
 Yk g
 let p <- elem' b (c.2.2.1 - 1)
 let x <- E4 false p a 0 c.2.1 (c.2.1 - 1)
 match x with
 | some t=>
  if c.2.1 - t > 0 then
   if (t == 0)=true then
    pure (.done (some (dnH a b (c.2.2.2.1++(a.extract t c.2.1).reverse) t c.2.2.1),t,c.2.2.1,c.2.2.2.1++(a.extract t c.2.1).reverse,g,c.2.1 - t,c.2.2.2.2.2.2))
   else hi2 a b g (c.2.1 - t) c.2.2.2.2.2.2 (c.2.2.2.1++(a.extract t c.2.1).reverse) t c.2.2.1
  else hi2 a b g (c.2.1 - t) c.2.2.2.2.2.2 c.2.2.2.1 c.2.1 c.2.2.1
 | _=>pure (.done (some (dnH a b c.2.2.2.1 c.2.1 c.2.2.1),c.2.1,c.2.2.1,c.2.2.2.1,g,c.2.2.2.2.2.1,c.2.2.2.2.2.2))
noncomputable def hiB(a b:Array bD)(_:Nat)(c:HG):StateT aX Sem (ForInStep HG):=
 if c.2.2.2.2.1 > 1 then hi1 a b c (c.2.2.2.2.1 - 1) else hi1 a b c c.2.2.2.2.1
noncomputable def hiA(a b:Array bD)(g:Nat)(_:Nat)(c:HA):StateT aX Sem (ForInStep HA):=do
 let p <- elem' b (c.2.2.1 - 1)
 let q <- elem' a (c.2.1 - 1)
 let x <- lt' p q
 match x with
 | some aWins=>
  if aWins=true then do
   let p <- elem' a (c.2.1 - 1)
   if (c.2.1 - 1 == 0)=true then pure (.done (some (dnH a b (c.2.2.2.1.push p) (c.2.1 - 1) c.2.2.1),c.2.1 - 1,c.2.2.1,c.2.2.2.1.push p,c.2.2.2.2.1+1,0))
   else if c.2.2.2.2.1+1 ≥ g then pure (.done (none,c.2.1 - 1,c.2.2.1,c.2.2.2.1.push p,c.2.2.2.2.1+1,0))
   else pure (.yield (none,c.2.1 - 1,c.2.2.1,c.2.2.2.1.push p,c.2.2.2.2.1+1,0))
  else do
   let p <- elem' b (c.2.2.1 - 1)
   if (c.2.2.1 - 1 == 1)=true then pure (.done (some (fB a b (c.2.2.2.1.push p) c.2.1 (c.2.2.1 - 1)),c.2.1,c.2.2.1 - 1,c.2.2.2.1.push p,0,c.2.2.2.2.2+1))
   else if c.2.2.2.2.2+1 ≥ g then pure (.done (none,c.2.1,c.2.2.1 - 1,c.2.2.2.1.push p,0,c.2.2.2.2.2+1))
   else pure (.yield (none,c.2.1,c.2.2.1 - 1,c.2.2.2.1.push p,0,c.2.2.2.2.2+1))
 | _=>pure (.done (some (dnH a b c.2.2.2.1 c.2.1 c.2.2.1),c.2.1,c.2.2.1,c.2.2.2.1,c.2.2.2.2.1,c.2.2.2.2.2))
noncomputable def hiO(a b:Array bD)(_:Nat)(c:HO):StateT aX Sem (ForInStep HO):=do
 let d <- forIn [0:a.size+b.size] ((none,c.2.1,c.2.2.1,c.2.2.2.1,0,0):HA) (hiA a b c.2.2.2.2)
 match d.1 with
 | some r=>pure (.done (some r,d.2.1,d.2.2.1,d.2.2.2.1,c.2.2.2.2))
 | none=>do
  liftM (rule "list.sort.gallop")
  let e <- forIn [0:a.size+b.size] ((none,d.2.1,d.2.2.1,d.2.2.2.1,c.2.2.2.2+1,d.2.2.2.2.1,d.2.2.2.2.2):HG) (hiB a b)
  match e.1 with
  | some r=>pure (.done (some r,e.2.1,e.2.2.1,e.2.2.2.1,e.2.2.2.2.1))
  | none=>do
   Yk (e.2.2.2.2.1+1)
   pure (.yield (none,e.2.1,e.2.2.1,e.2.2.2.1,e.2.2.2.2.1+1))
theorem Ue(a b:Array bD):Pe a b=(do
 liftM (rule "list.sort.merge-hi")
 let p <- elem' a (a.size - 1)
 if (a.size - 1 == 0)=true then pure (dnH a b #[p] (a.size - 1) b.size) else
 if (b.size == 1)=true then pure (fB a b #[p] (a.size - 1) b.size) else do
 let s <- get
 let c <- forIn [0:a.size+b.size] ((none,a.size - 1,b.size,#[p],gallopOf s):HO) (hiO a b)
 match c.1 with
 | some r=>pure r
 | none=>liftM (unsupported (α:=Array bD) "internal:list.sort.merge-bound")):=by
 kernel_rfl
structure JH(L R x y:List bD):Prop where
 perm:(x++y++R).Perm L
 sx:Srt (x++R)
 sy:Srt (y++R)
theorem JH.ga{L R x1 x2 y:List bD}(h:JH L R (x1++x2) y)(hl:∀ p∈x2,∀ q∈y,nk q<=nk p):JH L (x2++R) x1 y:=by
 have a:=h.sx
 have b:=Be.mp h.sy
 refine ⟨?_,by simpa[bA] using a,?_⟩
 ·refine List.Perm.trans ?_ h.perm
  rw[bA,bA,bA]
  refine kL x1 ?_
  rw[<- bA,<- bA]
  exact oK R List.perm_append_comm
 ·rw[bA] at a
  refine Be.mpr ⟨b.1,(Be.mp a).2.1,?_⟩
  intro p hp q hq
  rcases dY.mp hq with hq | hq
  ·exact hl q hq p hp
  ·exact b.2.2 p hp q hq
theorem JH.swap{L R x y:List bD}(h:JH L R x y):JH L R y x:=⟨(List.perm_append_comm.append_right R).trans h.perm,h.sy,h.sx⟩
theorem JH.gb{L R x y1 y2:List bD}(h:JH L R x (y1++y2))(hl:∀ p∈y2,∀ q∈x,nk q<=nk p):JH L (y2++R) x y1:=(h.swap.ga hl).swap
theorem ext_0(a:Array bD)(n:Nat):(a.extract 0 n).toList=a.toList.take n:=by
 simp[fF]
theorem Ajy(a:Array bD)(t n:Nat):(a.extract t n).toList=(a.toList.take n).drop t:=by
 simp only[kY,fF]
 rw[List.drop_take]
theorem Lp{L:List bD}{a b out:Array bD}{na nb:Nat}(h:JH L out.toList.reverse (a.toList.take na) (b.toList.take nb))(hz:na=0\/nb=0):Fin L (dnH a b out na nb):=by
 have e:(dnH a b out na nb).toList=a.toList.take na++b.toList.take nb++out.toList.reverse:=by
  show (a.extract 0 na++b.extract 0 nb++out.reverse).toList=_
  rw[cW,cW,ext_0,ext_0,iX]
 unfold Fin
 rw[e]
 refine ⟨h.perm,?_⟩
 rcases hz with rfl | rfl
 ·rw[tL,fV]
  exact h.sy
 ·rw[tL,aT]
  exact h.sx
theorem Si{L:List bD}{a b out:Array bD}{na nb:Nat}(h:JH L out.toList.reverse (a.toList.take na) (b.toList.take nb))(hb:nb=1)
  (ht:∀ p∈b.toList.take 1,∀ q∈a.toList,nk p<=nk q):Fin L (fB a b out na nb):=by
 have e:(fB a b out na nb).toList=b.toList.take nb++a.toList.take na++out.toList.reverse:=by
  show (b.extract 0 nb++a.extract 0 na++out.reverse).toList=_
  rw[cW,cW,ext_0,ext_0,iX]
 unfold Fin
 rw[e]
 refine ⟨h.swap.perm,?_⟩
 have x:=Be.mp h.sx
 have y:=Be.mp h.sy
 refine Be.mpr ⟨Be.mpr ⟨y.1,x.1,?_⟩,x.2.1,?_⟩
 ·intro p hp q hq
  exact ht p (by rw[<- hb];exact hp) q (lB hq)
 ·intro p hp q hq
  rcases dY.mp hp with hp | hp
  ·exact y.2.2 p hp q hq
  ·exact x.2.2 p hp q hq
section
variable {prog:bQ}{w:cC}{A:cL}{E:aC->aG->Prop}{s:aG}{L:List bD}{a b:Array bD}{st:aX}
structure Hi(L:List bD)(a b out:Array bD)(na nb:Nat):Prop where
 h1:0 < na
 h2:1 < nb
 ha:na<=a.size
 hb:nb<=b.size
 j:JH L out.toList.reverse (a.toList.take na) (b.toList.take nb)
noncomputable def Bot(a b:Array bD):Prop:=∀ p∈b.toList.take 1,∀ q∈a.toList,nk p<=nk q
theorem Ih{a:Array bD}{n:Nat}(h0:0 < n)(h:n<=a.size):∃ p,a.toList[n - 1]? = some p/\p∈a.toList/\a.toList.take n=a.toList.take (n - 1)++[p]:=by
 have h':n - 1 < a.toList.length:=by simp;omega
 refine ⟨a.toList[n - 1],aH h',eT h',?_⟩
 have:=List.take_append_getElem h'
 rw[this]
 congr 1
 omega
theorem N0{x:List bD}{p:bD}(h:Srt (x++[p])):∀ q∈x++[p],nk q<=nk p:=by
 intro q hq
 rcases dY.mp hq with hq | hq
 ·exact (Be.mp h).2.2 q hq p (bX.mpr rfl)
 ·rw[bX.mp hq];exact fP _
noncomputable def PH(L:List bD)(a b:Array bD)(st:aX)(m:Nat)(r:ForInStep HG)(st':aX):Prop:=
 Sg st st'/\match r with
 | .done (some r,_)=>Fin L r
 | .done (none,na,nb,out,_)=>Hi L a b out na nb/\na+nb+m<=a.size+b.size
 | .yield (none,na,nb,out,_)=>Hi L a b out na nb/\na+nb+m<=a.size+b.size
 | .yield (some _,_)=>False
theorem Ac3{g k k2:Nat}{out:Array bD}{na nb m:Nat}{st':aX}(M:Ms a b st)(hs:Sg st st')(h:Hi L a b out na nb)(hm:na+nb+m<=a.size+b.size)
  (hl:∀ p,a.toList[na - 1]? = some p->∀ q∈b.toList.take nb,nk q<=nk p) :
  wpS (model prog w) A E s (hi3 a b g k k2 out na nb) (PH L a b st (m+1)) st':=by
 obtain ⟨z1,z2,ha,hb,j⟩:=h
 unfold hi3
 obtain ⟨p,e,hp,ed⟩:=Ih (a:=a) z1 ha
 refine aU (Bq e ?_)
 have j':JH L (out.push p).toList.reverse (a.toList.take (na - 1)) (b.toList.take nb):=by
  rw[dU,fW]
  rw[ed] at j
  exact JH.ga (x2:=[p]) j (fun x hx q hq=>by rw[bX.mp hx];exact hl p e q hq)
 by_cases h1:na - 1=0
 ·rw[if_pos (by simpa using h1)]
  exact bF ⟨hs,Lp j' (.inl h1)⟩
 ·rw[if_neg (by simpa using h1)]
  have lo:Hi L a b (out.push p) (na - 1) nb:=⟨by omega,z2,by omega,hb,j'⟩
  split
  ·exact bF ⟨hs,lo,by omega⟩
  ·exact bF ⟨hs,lo,by omega⟩
theorem Aet{g k bc:Nat}{out:Array bD}{na nb m:Nat}{st':aX}(M:Ms a b st)(hB:Bot a b)(hs:Sg st st')(h:Hi L a b out na nb)(hm:na+nb+m<=a.size+b.size)
  (hl:∀ p,b.toList[nb - 1]? = some p->∀ q∈a.toList.take na,nk q<=nk p) :
  wpS (model prog w) A E s (hi2 a b g k bc out na nb) (PH L a b st (m+1)) st':=by
 obtain ⟨z1,z2,ha,hb,j⟩:=h
 unfold hi2
 obtain ⟨p,e,hp,ed⟩:=Ih (a:=b) (n:=nb) (by omega) hb
 refine aU (Bq e ?_)
 have j':JH L (out.push p).toList.reverse (a.toList.take na) (b.toList.take (nb - 1)):=by
  rw[dU,fW]
  rw[ed] at j
  exact JH.gb (y2:=[p]) j (fun x hx q hq=>by rw[bX.mp hx];exact hl p e q hq)
 by_cases h1:nb - 1=1
 ·rw[if_pos (by simpa using h1)]
  exact bF ⟨hs,Si j' h1 hB⟩
 ·rw[if_neg (by simpa using h1)]
  obtain ⟨q,eq,hq,edq⟩:=Ih (a:=a) z1 ha
  refine aU (Bq eq ?_)
  have hsa:Srt (a.toList.take (na - 1)++[q]):=by rw[<- edq];exact (Be.mp j'.sx).1
  refine aU (Ov (b.toList.take (nb - 1)) (by simp;omega) (fun i hi=>by rw[rG,gW hi]) ((M.of hs).kind) (fun x hx=>M.kb x (lB hx)) (M.ka q hq)
   (Be.mp j'.sy).1 (by omega) fun t ht c1 c2=>?_)
  dsimp only
  have ht2:(b.toList.take (nb - 1)).take t=b.toList.take t:=by rw[tM];congr 1;omega
  have j2:JH L ((b.toList.take (nb - 1)).drop t++(out.push p).toList.reverse) (a.toList.take na) (b.toList.take t):=by
   refine JH.gb (by rw[<- ht2,cG];exact j') fun x hx y hy=>?_
   rw[edq] at hy
   have:=N0 hsa y hy
   have:=c2 x hx
   omega
  have hle:∀ p,a.toList[na - 1]? = some p->∀ x∈b.toList.take t,nk x<=nk p:=by
   intro p' ep x hx
   rw[eq] at ep
   cases ep
   rw[<- ht2] at hx
   exact gF (c1 x hx)
  by_cases hk:nb - 1 - t > 0
  ·rw[if_pos hk]
   have j3:JH L (out.push p++(b.extract t (nb - 1)).reverse).toList.reverse (a.toList.take na) (b.toList.take t):=by
    rw[cW,fW,iX,pP,Ajy]
    exact j2
   by_cases h2:t=1
   ·rw[if_pos (by simpa using h2)]
    exact bF ⟨hs,Si j3 h2 hB⟩
   ·rw[if_neg (by simpa using h2)]
    by_cases h3:t=0
    ·rw[if_pos (by simpa using h3)]
     exact bF ⟨hs,Lp j3 (.inr h3)⟩
    ·rw[if_neg (by simpa using h3)]
     exact Ac3 (m:=m) M hs ⟨z1,by omega,ha,by omega,j3⟩ (by omega) hle
  ·rw[if_neg hk]
   have k0:t=nb - 1:=by omega
   subst k0
   exact Ac3 (m:=m) M hs ⟨z1,by omega,ha,by omega,j'⟩ (by omega) hle
theorem Acf{c:HG}{g m:Nat}{st':aX}(M:Ms a b st)(hB:Bot a b)(hs:Sg st st')(h:Hi L a b c.2.2.2.1 c.2.1 c.2.2.1)(hm:c.2.1+c.2.2.1+m<=a.size+b.size) :
  wpS (model prog w) A E s (hi1 a b c g) (PH L a b st (m+1)) st':=by
 obtain ⟨r,na,nb,out,g0,ac,bc⟩:=c
 dsimp only at h hm
 obtain ⟨z1,z2,ha,hb,j⟩:=h
 unfold hi1
 dsimp only
 refine aU (iW ?_)
 obtain ⟨p,e,hp,ed⟩:=Ih (a:=b) (n:=nb) (by omega) hb
 refine aU (Bq e ?_)
 have hs':Sg st (Ade st' g):=hs.set g
 have hsb:Srt (b.toList.take (nb - 1)++[p]):=by rw[<- ed];exact (Be.mp j.sy).1
 refine aU (M5 (a.toList.take na) (by simp;omega) (fun i hi=>by rw[rG,gW hi]) ((M.of hs').kind) (fun x hx=>M.ka x (lB hx)) (M.kb p hp)
  (Be.mp j.sx).1 (by omega) fun t ht c1 c2=>?_)
 dsimp only
 have ht2:(a.toList.take na).take t=a.toList.take t:=by rw[tM];congr 1;omega
 have j2:JH L ((a.toList.take na).drop t++out.toList.reverse) (a.toList.take t) (b.toList.take nb):=by
  refine JH.ga (by rw[<- ht2,cG];exact j) fun x hx y hy=>?_
  rw[ed] at hy
  have:=N0 hsb y hy
  have:=c2 x hx
  omega
 have hle:∀ p',b.toList[nb - 1]? = some p'->∀ x∈a.toList.take t,nk x<=nk p':=by
  intro p' ep x hx
  rw[e] at ep
  cases ep
  rw[<- ht2] at hx
  exact c1 x hx
 by_cases hk:na - t > 0
 ·rw[if_pos hk]
  have j3:JH L (out++(a.extract t na).reverse).toList.reverse (a.toList.take t) (b.toList.take nb):=by
   rw[cW,fW,iX,pP,Ajy]
   exact j2
  by_cases h3:t=0
  ·rw[if_pos (by simpa using h3)]
   exact bF ⟨hs',Lp j3 (.inl h3)⟩
  ·rw[if_neg (by simpa using h3)]
   exact Aet (m:=m) M hB hs' ⟨by omega,z2,by omega,hb,j3⟩ (by omega) hle
 ·rw[if_neg hk]
  have k0:t=na:=by omega
  subst k0
  exact Aet (m:=m) M hB hs' ⟨z1,z2,ha,hb,j⟩ (by omega) hle
noncomputable def PHA(L:List bD)(a b:Array bD)(st:aX)(m:Nat)(r:ForInStep HA)(st':aX):Prop:=
 Sg st st'/\match r with
 | .done (some r,_)=>Fin L r
 | .done (none,na,nb,out,_)=>Hi L a b out na nb/\na+nb+m<=a.size+b.size
 | .yield (none,na,nb,out,_)=>Hi L a b out na nb/\na+nb+m<=a.size+b.size
 | .yield (some _,_)=>False
theorem Anb{c:HA}{g x m:Nat}{st':aX}(M:Ms a b st)(hB:Bot a b)(hs:Sg st st')(h:Hi L a b c.2.2.2.1 c.2.1 c.2.2.1)(hm:c.2.1+c.2.2.1+m<=a.size+b.size) :
  wpS (model prog w) A E s (hiA a b g x c) (PHA L a b st (m+1)) st':=by
 obtain ⟨r,na,nb,out,ac,bc⟩:=c
 dsimp only at h hm
 obtain ⟨z1,z2,ha,hb,j⟩:=h
 unfold hiA
 dsimp only
 obtain ⟨p,e,hp,ed⟩:=Ih (a:=b) (n:=nb) (by omega) hb
 obtain ⟨q,eq,hq,edq⟩:=Ih (a:=a) z1 ha
 refine aU (Bq e ?_)
 refine aU (Bq eq ?_)
 refine aU (O6 ((M.of hs).kind) (M.kb p hp) (M.ka q hq) ?_)
 dsimp only
 have hsb:Srt (b.toList.take (nb - 1)++[p]):=by rw[<- ed];exact (Be.mp j.sy).1
 have hsa:Srt (a.toList.take (na - 1)++[q]):=by rw[<- edq];exact (Be.mp j.sx).1
 by_cases hlt:nk p < nk q
 ·rw[if_pos (by simpa using hlt)]
  refine aU (Bq eq ?_)
  have j':JH L (out.push q).toList.reverse (a.toList.take (na - 1)) (b.toList.take nb):=by
   rw[dU,fW]
   rw[edq] at j
   refine JH.ga (x2:=[q]) j (fun x hx y hy=>?_)
   rw[bX.mp hx]
   rw[ed] at hy
   have:=N0 hsb y hy
   omega
  by_cases h1:na - 1=0
  ·rw[if_pos (by simpa using h1)]
   exact bF ⟨hs,Lp j' (.inl h1)⟩
  ·rw[if_neg (by simpa using h1)]
   have lo:Hi L a b (out.push q) (na - 1) nb:=⟨by omega,z2,by omega,hb,j'⟩
   split
   ·exact bF ⟨hs,lo,by omega⟩
   ·exact bF ⟨hs,lo,by omega⟩
 ·rw[if_neg (by simpa using hlt)]
  refine aU (Bq e ?_)
  have j':JH L (out.push p).toList.reverse (a.toList.take na) (b.toList.take (nb - 1)):=by
   rw[dU,fW]
   rw[ed] at j
   refine JH.gb (y2:=[p]) j (fun x hx y hy=>?_)
   rw[bX.mp hx]
   rw[edq] at hy
   have:=N0 hsa y hy
   omega
  by_cases h1:nb - 1=1
  ·rw[if_pos (by simpa using h1)]
   exact bF ⟨hs,Si j' h1 hB⟩
  ·rw[if_neg (by simpa using h1)]
   have lo:Hi L a b (out.push p) na (nb - 1):=⟨z1,by omega,ha,by omega,j'⟩
   split
   ·exact bF ⟨hs,lo,by omega⟩
   ·exact bF ⟨hs,lo,by omega⟩
theorem Abg{g m:Nat}{out:Array bD}{na nb:Nat}{st':aX}(M:Ms a b st)(hB:Bot a b)(hs:Sg st st')(hL:Hi L a b out na nb)(hm:na+nb+m<=a.size+b.size) :
  wpS (model prog w) A E s (forIn [0:a.size+b.size] ((none,na,nb,out,0,0):HA) (hiA a b g))
   (fun d st''=>Sg st st''/\match d with | (some r,_)=>Fin L r | (none,na,nb,out,_)=>Hi L a b out na nb/\na+nb+(m+1)<=a.size+b.size) st':=by
 have hpos:0 < a.size+b.size:=by have:=hL.h1;have:=hL.ha;omega
 refine dX (I:=fun x (d:HA) st''=>Sg st st''/\d.1=none/\Hi L a b d.2.2.2.1 d.2.1 d.2.2.1/\d.2.1+d.2.2.1+(m+min x 1)<=a.size+b.size) ?_ ?_
  ⟨hs,rfl,hL,by show na+nb+(m+min 0 1)<=_;omega⟩
 ·rintro x ⟨r,c⟩ st'' _ hx ⟨h1,h2,h3,h4⟩
  refine fI (Anb (m:=m) M hB h1 h3 (by omega)) ?_
  rintro (⟨r',i1,i2,o,c'⟩ | ⟨r',i1,i2,o,c'⟩) st3 ⟨k1,k2⟩
  ·cases r' with
   | some r'=>exact ⟨k1,k2⟩
   | none=>exact ⟨k1,k2⟩
  ·cases r' with
   | some r'=>exact k2.elim
   | none=>exact ⟨k1,rfl,k2.1,by have:=k2.2;show i1+i2+(m+min (x+1) 1)<=_;omega⟩
 ·rintro ⟨r,i1,i2,o,c⟩ st'' ⟨h1,h2,h3,h4⟩
  dsimp only at h2 h3 h4
  subst h2
  exact ⟨h1,h3,by omega⟩
theorem Aa4{g m ac bc:Nat}{out:Array bD}{na nb:Nat}{st':aX}(M:Ms a b st)(hB:Bot a b)(hs:Sg st st')(hL:Hi L a b out na nb)(hm:na+nb+m<=a.size+b.size) :
  wpS (model prog w) A E s (forIn [0:a.size+b.size] ((none,na,nb,out,g,ac,bc):HG) (hiB a b))
   (fun d st''=>Sg st st''/\match d with | (some r,_)=>Fin L r | (none,na,nb,out,_)=>Hi L a b out na nb/\na+nb+m<=a.size+b.size) st':=by
 refine dX (I:=fun x (d:HG) st''=>Sg st st''/\d.1=none/\Hi L a b d.2.2.2.1 d.2.1 d.2.2.1/\d.2.1+d.2.2.1+m<=a.size+b.size) ?_ ?_ ⟨hs,rfl,hL,hm⟩
 ·rintro x d st'' _ hx ⟨h1,h2,h3,h4⟩
  have key:wpS (model prog w) A E s (hiB a b x d) (PH L a b st (m+1)) st'':=by
   unfold hiB
   split
   ·exact Acf (m:=m) M hB h1 h3 h4
   ·exact Acf (m:=m) M hB h1 h3 h4
  refine fI key ?_
  rintro (⟨r',i1,i2,o,c'⟩ | ⟨r',i1,i2,o,c'⟩) st3 ⟨k1,k2⟩
  ·cases r' with
   | some r'=>exact ⟨k1,k2⟩
   | none=>exact ⟨k1,k2.1,by have:=k2.2;omega⟩
  ·cases r' with
   | some r'=>exact k2.elim
   | none=>exact ⟨k1,rfl,k2.1,by have:=k2.2;show i1+i2+m<=_;omega⟩
 ·rintro ⟨r,i1,i2,o,c⟩ st'' ⟨h1,h2,h3,h4⟩
  dsimp only at h2 h3 h4
  subst h2
  exact ⟨h1,h3,h4⟩
theorem Alb{c:HO}{x m:Nat}{st':aX}(M:Ms a b st)(hB:Bot a b)(hs:Sg st st')(hL:Hi L a b c.2.2.2.1 c.2.1 c.2.2.1)(hm:c.2.1+c.2.2.1+m<=a.size+b.size) :
  wpS (model prog w) A E s (hiO a b x c) (fun r st''=>Sg st st''/\match r with
   | .done d=>∃ r,d.1=some r/\Fin L r
   | .yield d=>d.1=none/\Hi L a b d.2.2.2.1 d.2.1 d.2.2.1/\d.2.1+d.2.2.1+(m+1)<=a.size+b.size) st':=by
 unfold hiO
 refine aU (fI (Abg (m:=m) M hB hs hL hm) ?_)
 rintro ⟨r,i1,i2,o,ac,bc⟩ st2 ⟨h1,h2⟩
 cases r with
 | some r=>exact bF ⟨h1,r,rfl,h2⟩
 | none=>
  refine aU (nZ (eY ⟨rfl,?_⟩))
  refine aU (fI (Aa4 (m:=m+1) M hB h1 h2.1 h2.2) ?_)
  rintro ⟨r,i1,i2,o,g,ac,bc⟩ st3 ⟨k1,k2⟩
  cases r with
  | some r=>exact bF ⟨k1,r,rfl,k2⟩
  | none=>exact aU (iW (bF ⟨k1.set _,rfl,k2.1,k2.2⟩))
theorem V4{Q:Array bD->aX->Prop}(M:Ms a b st)(hB:Bot a b)(h1:0 < a.size)(h2:0 < b.size)(sa:Srt a.toList)(sb:Srt b.toList)
  (hf:∀ p,a.toList[a.size - 1]? = some p->∀ q∈b.toList,nk q<=nk p)
  (h:∀ r st',Sg st st'->Fin (a.toList++b.toList) r->Q r st'):wpS (model prog w) A E s (Pe a b) Q st:=by
 rw[Ue]
 refine aU (nZ (eY ⟨rfl,?_⟩))
 obtain ⟨p,e,hp,ed⟩:=Ih (a:=a) h1 (aN _)
 refine aU (Bq e ?_)
 have s0:Sg st st:=⟨gallopOf st,rfl⟩
 have ea:a.toList.take a.size=a.toList:=eJ (by simp)
 have eb:b.toList.take b.size=b.toList:=eJ (by simp)
 have j:JH (a.toList++b.toList) (#[p]:Array bD).toList.reverse (a.toList.take (a.size - 1)) (b.toList.take b.size):=by
  have j0:JH (a.toList++b.toList) [] (a.toList.take (a.size - 1)++[p]) b.toList:=by
   rw[<- ed,ea]
   exact ⟨by rw[aT],by rw[aT];exact sa,by rw[aT];exact sb⟩
  rw[eb]
  exact j0.ga (fun x hx q hq=>by rw[bX.mp hx];exact hf p e q hq)
 by_cases c1:a.size - 1=0
 ·rw[if_pos (by simpa using c1)]
  exact bF (h _ _ s0 (Lp j (.inl c1)))
 ·rw[if_neg (by simpa using c1)]
  by_cases c2:b.size=1
  ·rw[if_pos (by simpa using c2)]
   exact bF (h _ _ s0 (Si j c2 hB))
  ·rw[if_neg (by simpa using c2)]
   refine aU (mB ?_)
   refine aU (fI (dX (I:=fun x (d:HO) st'=>Sg st st'/\d.1=none/\Hi (a.toList++b.toList) a b d.2.2.2.1 d.2.1 d.2.2.1/\d.2.1+d.2.2.1+(x+1)<=a.size+b.size)
    (Q:=fun d st'=>Sg st st'/\∃ r,d.1=some r/\Fin (a.toList++b.toList) r) ?_ ?_
    ⟨s0,rfl,⟨by show 0 < a.size - 1;omega,by show 1 < b.size;omega,by show a.size - 1<=_;omega,aN _,j⟩,by show a.size - 1+b.size+(0+1)<=_;omega⟩) ?_)
   ·rintro x c st' _ hx ⟨k1,k2,k3,k4⟩
    refine fI (Alb (m:=x+1) M hB k1 k3 k4) ?_
    rintro (d | d) st'' ⟨l1,l2⟩
    ·exact ⟨l1,l2⟩
    ·exact ⟨l1,l2.1,l2.2.1,l2.2.2⟩
   ·rintro c st' ⟨k1,k2,k3,k4⟩
    have:=k3.h1
    omega
   ·rintro ⟨r,c⟩ st' ⟨k1,r',k2,k3⟩
    dsimp only at k2
    subst k2
    exact bF (h _ _ k1 k3)
end
noncomputable def mA3(a0:Array bD)(sa na sb t:Nat):StateT aX Sem Bool:=do
 let merged <- if na<=t then Pc (a0.extract sa sb) (a0.extract sb (sb+t)) else Pe (a0.extract sa sb) (a0.extract sb (sb+t))
 modify fun s=>setArr s (merged.toList.zipIdx.foldl (fun a x=>a.setIfInBounds (sa+x.2) x.1) (arrOf s))
 let s <- get
 pure (failedOf s).isNone
noncomputable def mA2(a0:Array bD)(sa na sb nb:Nat):StateT aX Sem Bool:=do
 let q <- elem' a0 (sa+na - 1)
 let x <- E4 true q a0 sb nb (nb - 1)
 match x with
 | some t=>if (t == 0)=true then pure true else mA3 a0 sa na sb t
 | _=>pure false
noncomputable def mA1(a0:Array bD)(sa na sb nb:Nat):StateT aX Sem Bool:=do
 let p <- elem' a0 sb
 let x <- E4 false p a0 sa na 0
 match x with
 | some k=>if (na - k == 0)=true then pure true else mA2 a0 (sa+k) (na - k) sb nb
 | _=>pure false
theorem Ui(i:Nat):mergeAt' i=(do
 let s <- get
 match (pendingOf s)[i]?,(pendingOf s)[i+1]? with
 | some (sa,na,pw),some (sb,nb,_)=>do
  set (setPending s (((pendingOf s).setIfInBounds i (sa,na+nb,pw)).eraseIdxIfInBounds (i+1)))
  mA1 (arrOf s) sa na sb nb
 | _,_=>liftM (unsupported (α:=Bool) "internal:list.sort.pending")):=by
 kernel_rfl
theorem Uk(b:Nat):∀ (l P W Z:List bD) (j:Nat) (arr:Array bD),W.length=l.length->P.length=b+j->arr.toList=P++(W++Z) ->
  ((l.zipIdx j).foldl (fun (a:Array bD) x=>a.setIfInBounds (b+x.2) x.1) arr).toList=P++(l++Z)
 | [],P,W,Z,j,arr,h1,h2,h3=>by
  have:W=[]:=jV.mp h1
  subst this
  exact h3
 | p::l,P,[],Z,j,arr,h1,h2,h3=>by simp at h1
 | p::l,P,v::W,Z,j,arr,h1,h2,h3=>by
  rw[nU,oS]
  have e:(arr.setIfInBounds (b+j) p).toList=(P++[p])++(W++Z):=by
   rw[mM,h3,<- h2,kM _ _ (aN _),cS]
   simp
  have:=Uk b l (P++[p]) W Z (j+1) (arr.setIfInBounds (b+j) p) (by simpa using h1) (by simp[h2];omega) e
  rw[this]
  simp
section
variable {prog:bQ}{w:cC}{A:cL}{E:aC->aG->Prop}{s:aG}
theorem Aiz{σ:Type}{st0:σ}{Q:PUnit->σ->Prop}{st:σ}{M:Model}(h:Q ⟨⟩ st0):wpS M A E s (set st0:StateT σ Sem PUnit) Q st:=by
 unfold wpS;rw[StateT.run_set];exact aJ ⟨rfl,h⟩
structure Kn(st:aX):Prop where
 kind:kindOf st=oneType'
 fl:failedOf st=none
 ik:∀ p∈(arrOf st).toList,IK p
theorem Afr{a:Array bD}{P X Z:List bD}{i j:Nat}(e:a.toList=P++(X++Z))(hi:i=P.length)(hj:j=i+X.length):(a.extract i j).toList=X:=by
 simp only[kY,fF]
 rw[e,hi,List.drop_left,hj,hi,show P.length+X.length - P.length=X.length by omega,List.take_left]
theorem Amf{st:aX}{sa na sb t:Nat}{P X Y Z:List bD}{Q:Bool->aX->Prop}(hk:Kn st)(e:(arrOf st).toList=P++(X++(Y++Z)))
  (h1:sa=P.length) (h2:na=X.length) (h3:sb=sa+na) (h4:t=Y.length) (z1:0 < na) (z2:0 < t) (sx:Srt X) (sy:Srt Y)
  (hf:∀ p,Y[0]? = some p->∀ q∈X,nk p<=nk q) (hl:∀ p,X[X.length - 1]? = some p->∀ q∈Y,nk q<=nk p)
  (h:∀ st' W,W.Perm (X++Y)->Srt W->(arrOf st').toList=P++(W++Z)->kindOf st'=kindOf st->failedOf st'=failedOf st->pendingOf st'=pendingOf st->Q true st') :
  wpS (model prog w) A E s (mA3 (arrOf st) sa na sb t) Q st:=by
 unfold mA3
 have ex:((arrOf st).extract sa sb).toList=X:=Afr e h1 (by omega)
 have ey:((arrOf st).extract sb (sb+t)).toList=Y:=Afr (P:=P++X) (by rw[e,bA]) (by simp;omega) (by omega)
 have nx:((arrOf st).extract sa sb).size=X.length:=by rw[<- cF,ex]
 have ny:((arrOf st).extract sb (sb+t)).size=Y.length:=by rw[<- cF,ey]
 have M:Ms ((arrOf st).extract sa sb) ((arrOf st).extract sb (sb+t)) st:=by
  refine ⟨hk.kind,fun p hp=>?_,fun p hp=>?_⟩
  ·rw[ex] at hp;exact hk.ik p (by rw[e];simp[hp])
  ·rw[ey] at hp;exact hk.ik p (by rw[e];simp[hp])
 have fin:∀ (r:Array bD) (st':aX),Sg st st'->Fin (((arrOf st).extract sa sb).toList++((arrOf st).extract sb (sb+t)).toList) r ->
   wpS (model prog w) A E s (do
    modify fun s=>setArr s (r.toList.zipIdx.foldl (fun a x=>a.setIfInBounds (sa+x.2) x.1) (arrOf s))
    let s <- get
    pure (failedOf s).isNone) Q st':=by
  rintro r st' ⟨g,rfl⟩ ⟨f1,f2⟩
  rw[ex,ey] at f1
  refine aU (iW (aU (mB (bF ?_))))
  have:=Uk sa r.toList P (X++Y) Z 0 (arrOf st) (by rw[f1.length_eq]) (by omega) (by rw[e];simp)
  have hfl:(failedOf st).isNone=true:=by rw[hk.fl];rfl
  show Q ((failedOf st).isNone) _
  rw[hfl]
  exact h _ r.toList f1 f2 this rfl rfl rfl
 by_cases c:na<=t
 ·rw[if_pos c]
  refine aU (Wt M ?_ (by omega) (by omega) (by rw[ex];exact sx) (by rw[ey];exact sy) (by rw[ex,ey];exact hf) fin)
  unfold Top
  rw[ex,ey,nx]
  intro p hp q hq
  have hl':X.length - 1 < X.length:=by omega
  rw[fG hl',kE (by omega)] at hp
  rw[bX.mp hp]
  exact hl _ (aH hl') q hq
 ·rw[if_neg c]
  refine aU (V4 M ?_ (by omega) (by omega) (by rw[ex];exact sx) (by rw[ey];exact sy) (by rw[ex,ey,nx];exact hl) fin)
  unfold Bot
  rw[ex,ey]
  intro p hp q hq
  cases Y with
  | nil=>simp at hp
  | cons y Y=>
   simp at hp
   subst hp
   exact hf p rfl q hq
theorem Aly{st:aX}{sa na sb nb:Nat}{P X Y Z:List bD}{Q:Bool->aX->Prop}(hk:Kn st)(e:(arrOf st).toList=P++(X++(Y++Z)))
  (h1:sa=P.length) (h2:na=X.length) (h3:sb=sa+na) (h4:nb=Y.length) (z1:0 < na) (z2:0 < nb) (sx:Srt X) (sy:Srt Y)
  (hf:∀ p,Y[0]? = some p->∀ q∈X,nk p<=nk q)
  (h:∀ st' W,W.Perm (X++Y)->Srt W->(arrOf st').toList=P++(W++Z)->kindOf st'=kindOf st->failedOf st'=failedOf st->pendingOf st'=pendingOf st->Q true st') :
  wpS (model prog w) A E s (mA2 (arrOf st) sa na sb nb) Q st:=by
 unfold mA2
 have hl':X.length - 1 < X.length:=by omega
 have eq:(arrOf st).toList[sa+na - 1]? = some X[X.length - 1]:=by
  rw[e,bJ (by omega),bB (by omega),show sa+na - 1 - P.length=X.length - 1 by omega]
  exact aH hl'
 refine aU (Bq eq ?_)
 have hx:∀ p∈X,nk p<=nk X[X.length - 1]:=by
  intro p hp
  obtain ⟨i,hi,rfl⟩:=iU.mp hp
  by_cases c:i=X.length - 1
  ·subst c;exact fP _
  ·exact dI.mp sx i (X.length - 1) hi hl' (by omega)
 refine aU (Ov Y h4.symm ?_ hk.kind (fun p hp=>hk.ik p (by rw[e];simp[hp])) (hk.ik _ (by rw[e];simp[eT])) sy (by omega) fun t ht c1 c2=>?_)
 ·intro i hi
  rw[e,bJ (by omega),bJ (by omega),bB (by omega)]
  congr 1
  omega
 dsimp only
 by_cases c:t=0
 ·rw[if_pos (by simpa using c)]
  subst c
  refine bF (h st (X++Y) (iC _) (Be.mpr ⟨sx,sy,fun p hp q hq=>?_⟩) (by rw[e,bA]) rfl rfl rfl)
  have:=hx p hp
  have:=c2 q hq
  omega
 ·rw[if_neg (by simpa using c)]
  have sy':Srt (Y.take t++Y.drop t):=by rw[cG];exact sy
  have s3:=Be.mp sy'
  refine Amf (Y:=Y.take t) (Z:=Y.drop t++Z) hk (by rw[e,<- bA (Y.take t),cG]) h1 h2 h3 (by simp;omega) z1 (by omega) sx s3.1 ?_ ?_ ?_
  ·intro p hp q hq
   refine hf p ?_ q hq
   rw[gW (by omega)] at hp
   exact hp
  ·intro p hp q hq
   rw[aH hl'] at hp
   cases hp
   exact gF (c1 q hq)
  ·intro st' W w1 w2 w3 w4 w5 w6
   refine h st' (W++Y.drop t) ?_ (Be.mpr ⟨w2,s3.2.1,fun p hp q hq=>?_⟩) (by rw[w3,bA]) w4 w5 w6
   ·have:=w1.append_right (Y.drop t)
    rwa [bA,cG] at this
   ·rcases dY.mp (w1.mem_iff.mp hp) with hp | hp
    ·have:=hx p hp
     have:=c2 q hq
     omega
    ·exact s3.2.2 p hp q hq
theorem Anh{st:aX}{sa na sb nb:Nat}{P X Y Z:List bD}{Q:Bool->aX->Prop}(hk:Kn st)(e:(arrOf st).toList=P++(X++(Y++Z)))
  (h1:sa=P.length) (h2:na=X.length) (h3:sb=sa+na) (h4:nb=Y.length) (z1:0 < na) (z2:0 < nb) (sx:Srt X) (sy:Srt Y)
  (h:∀ st' W,W.Perm (X++Y)->Srt W->(arrOf st').toList=P++(W++Z)->kindOf st'=kindOf st->failedOf st'=failedOf st->pendingOf st'=pendingOf st->Q true st') :
  wpS (model prog w) A E s (mA1 (arrOf st) sa na sb nb) Q st:=by
 unfold mA1
 have hl':0 < Y.length:=by omega
 have eq:(arrOf st).toList[sb]? = some Y[0]:=by
  rw[e,bJ (by omega),bJ (by omega),bB (by omega),show sb - P.length - X.length=0 by omega]
  exact aH hl'
 refine aU (Bq eq ?_)
 have hy:∀ p∈Y,nk Y[0]<=nk p:=by
  intro p hp
  obtain ⟨i,hi,rfl⟩:=iU.mp hp
  by_cases c:i=0
  ·subst c;exact fP _
  ·exact dI.mp sy 0 i hl' hi (by omega)
 refine aU (M5 X h2.symm ?_ hk.kind (fun p hp=>hk.ik p (by rw[e];simp[hp])) (hk.ik _ (by rw[e];simp[eT])) sx z1 fun k hk2 c1 c2=>?_)
 ·intro i hi
  rw[e,bJ (by omega),bB (by omega)]
  congr 1
  omega
 dsimp only
 have sx':Srt (X.take k++X.drop k):=by rw[cG];exact sx
 have s3:=Be.mp sx'
 by_cases c:na - k=0
 ·rw[if_pos (by simpa using c)]
  have ek:X.take k=X:=eJ (by omega)
  rw[ek] at c1
  refine bF (h st (X++Y) (iC _) (Be.mpr ⟨sx,sy,fun p hp q hq=>?_⟩) (by rw[e,bA]) rfl rfl rfl)
  have:=hy q hq
  have:=c1 p hp
  omega
 ·rw[if_neg (by simpa using c)]
  refine Aly (P:=P++X.take k) (X:=X.drop k) (Y:=Y) (Z:=Z) hk ?_ (by simp;omega) (by simp;omega) (by omega) h4 (by omega) z2 s3.2.1 sy ?_ ?_
  ·rw[e,bA,<- bA (X.take k),cG]
  ·intro p hp q hq
   rw[aH hl'] at hp
   cases hp
   exact gF (c2 q hq)
  ·intro st' W w1 w2 w3 w4 w5 w6
   refine h st' (X.take k++W) ?_ (Be.mpr ⟨s3.1,w2,fun p hp q hq=>?_⟩) (by rw[w3];simp) w4 w5 w6
   ·have:=w1.append_left (X.take k)
    rwa [<- bA,cG] at this
   ·rcases dY.mp (w1.mem_iff.mp hq) with hq | hq
    ·exact s3.2.2 p hp q hq
    ·have:=hy q hq
     have:=c1 p hp
     omega
theorem Vv{st:aX}{i sa na sb nb pw pv:Nat}{P X Y Z:List bD}{Q:Bool->aX->Prop}(hk:Kn st)(e:(arrOf st).toList=P++(X++(Y++Z)))
  (p1:(pendingOf st)[i]? = some (sa,na,pw)) (p2:(pendingOf st)[i+1]? = some (sb,nb,pv))
  (h1:sa=P.length) (h2:na=X.length) (h3:sb=sa+na) (h4:nb=Y.length) (z1:0 < na) (z2:0 < nb) (sx:Srt X) (sy:Srt Y)
  (h:∀ st' W,W.Perm (X++Y)->Srt W->(arrOf st').toList=P++(W++Z)->kindOf st'=kindOf st->failedOf st'=failedOf st ->
   pendingOf st'=((pendingOf st).setIfInBounds i (sa,na+nb,pw)).eraseIdxIfInBounds (i+1)->Q true st') :
  wpS (model prog w) A E s (mergeAt' i) Q st:=by
 rw[Ui]
 refine aU (mB ?_)
 rw[p1,p2]
 dsimp only
 refine aU (Aiz ?_)
 exact Anh (st:=setPending st (((pendingOf st).setIfInBounds i (sa,na+nb,pw)).eraseIdxIfInBounds (i+1))) ⟨hk.kind,hk.fl,hk.ik⟩ e h1 h2 h3 h4 z1 z2 sx sy h
end
abbrev CA:Type:=Option (Option Nat)×Nat
abbrev CD:Type:=Option (Option Nat)×Nat×Nat
noncomputable def cA(lo:Nat)(_:Nat)(c:CA):StateT aX Sem (ForInStep CA):=do
 let x <- ltAt' (lo+c.2) (lo+c.2 - 1)
 match x with
 | some smaller=>if smaller=true then pure (.done (none,c.2)) else pure (.yield (none,c.2+1))
 | _=>pure (.done (some none,c.2))
noncomputable def c3(lo nrem n:Nat):StateT aX Sem (Option Nat):=do
 reverseSlice' lo (lo+n)
 let d <- forIn [n:nrem] ((none,n):CA) (cA lo)
 match d.1 with
 | some r=>pure r
 | none=>pure (some d.2)
noncomputable def cD(lo:Nat)(_:Nat)(c:CD):StateT aX Sem (ForInStep CD):=do
 let x <- ltAt' (lo+c.2.1) (lo+c.2.1 - 1)
 match x with
 | some smaller=>
  if smaller=true then
   if c.2.2 > 0 then do
    reverseSlice' (lo+c.2.1 - (c.2.2+1)) (lo+c.2.1)
    pure (.yield (none,c.2.1+1,0))
   else pure (.yield (none,c.2.1+1,0))
  else do
   let y <- ltAt' (lo+c.2.1 - 1) (lo+c.2.1)
   match y with
   | some larger=>if larger=true then pure (.done (none,c.2.1,c.2.2)) else pure (.yield (none,c.2.1+1,c.2.2+1))
   | _=>pure (.done (some none,c.2.1,c.2.2))
 | _=>pure (.done (some none,c.2.1,c.2.2))
noncomputable def c2(lo nrem n:Nat):StateT aX Sem (Option Nat):=do
 liftM (rule "list.sort.descending-run")
 let d <- forIn [n+1:nrem] ((none,n+1,0):CD) (cD lo)
 match d.1 with
 | some r=>pure r
 | none=>
  if d.2.2 > 0 then do
   reverseSlice' (lo+d.2.1 - (d.2.2+1)) (lo+d.2.1)
   c3 lo nrem d.2.1
  else c3 lo nrem d.2.1
theorem Ts(lo nrem:Nat):countRun' lo nrem=(do
 let c <- forIn [1:nrem] ((none,1):CA) (cA lo)
 match c.1 with
 | some r=>pure r
 | none=>
  if (c.2 == nrem)=true then pure (some c.2) else
  if c.2 > 1 then do
   let x <- ltAt' lo (lo+c.2 - 1)
   match x with
   | some rose=>if rose=true then pure (some c.2) else do
    reverseSlice' lo (lo+c.2)
    c2 lo nrem c.2
   | _=>pure none
  else c2 lo nrem c.2):=by
 kernel_rfl
structure Rb(lo:Nat)(st0 st:aX):Prop where
 perm:(arrOf st).Perm (arrOf st0)
 low:∀ k,k < lo->(arrOf st)[k]? = (arrOf st0)[k]?
 kind:kindOf st=kindOf st0
 fl:failedOf st=failedOf st0
 pend:pendingOf st=pendingOf st0
theorem Rb.size{lo:Nat}{st0 st:aX}(h:Rb lo st0 st):(arrOf st).size=(arrOf st0).size:=h.perm.size_eq
theorem Rb.set{lo:Nat}{st0 st:aX}(h:Rb lo st0 st){xs:Array bD}(hp:xs.Perm (arrOf st))(hl:∀ k,k < lo->xs[k]? = (arrOf st)[k]?):Rb lo st0 (setArr st xs):=
 ⟨hp.trans h.perm,fun k hk=>(hl k hk).trans (h.low k hk),h.kind,h.fl,h.pend⟩
theorem Rb.kn{lo:Nat}{st0 st:aX}(h:Rb lo st0 st)(k:Kn st0):Kn st:=
 ⟨h.kind.trans k.kind,h.fl.trans k.fl,fun p hp=>k.ik p ((mN.mp h.perm).mem_iff.mp hp)⟩
theorem Rb.mir{lo i j:Nat}{st0 st:aX}(h:Rb lo st0 st)(hi:lo<=i)(hj:j<=(arrOf st0).size):Rb lo st0 (setArr st (mirror (arrOf st) i j ((j - i) / 2))):=
 h.set (mirror_perm _ _ _ _) fun k hk=>by rw[pZ (by rw[h.size];exact hj),if_neg (by omega)]
noncomputable def So(xs:Array bD)(lo n:Nat):Prop:=∀ i j,i<=j->j < n->K xs (lo+i)<=K xs (lo+j)
noncomputable def Ni(xs:Array bD)(lo n:Nat):Prop:=∀ i j,i<=j->j < n->K xs (lo+j)<=K xs (lo+i)
theorem So.one{xs:Array bD}{lo:Nat}:So xs lo 1:=fun i j h1 h2=>by
 have:i=j:=by omega
 subst this;exact fP _
theorem So.more{xs:Array bD}{lo n:Nat}(h:So xs lo n)(hn:0 < n)(hl:K xs (lo+n - 1)<=K xs (lo+n)):So xs lo (n+1):=fun i j h1 h2=>by
 by_cases hj:j < n
 ·exact h i j h1 hj
 ·have:j=n:=by omega
  subst this
  by_cases hi:i=j
  ·subst hi;exact fP _
  ·have:=h i (j - 1) (by omega) (by omega)
   rw[show lo+(j - 1)=lo+j - 1 by omega] at this
   omega
theorem Ni.more{xs:Array bD}{lo n:Nat}(h:Ni xs lo n)(hn:0 < n)(hl:K xs (lo+n)<=K xs (lo+n - 1)):Ni xs lo (n+1):=fun i j h1 h2=>by
 by_cases hj:j < n
 ·exact h i j h1 hj
 ·have:j=n:=by omega
  subst this
  by_cases hi:i=j
  ·subst hi;exact fP _
  ·have:=h i (j - 1) (by omega) (by omega)
   rw[show lo+(j - 1)=lo+j - 1 by omega] at this
   omega
theorem Ni.congr{xs ys:Array bD}{lo n:Nat}(h:Ni xs lo n)(e:∀ k,K ys k=K xs k):Ni ys lo n:=fun i j h1 h2=>by rw[e,e];exact h i j h1 h2
section
variable {prog:bQ}{w:cC}{A:cL}{E:aC->aG->Prop}{s:aG}{st0:aX}{lo:Nat}
theorem Li{st:aX}{i j:Nat}{Q:Option Bool->aX->Prop}(hk:Kn st)(hi:i < (arrOf st).size)(hj:j < (arrOf st).size)
  (h:Q (some (decide (K (arrOf st) i < K (arrOf st) j))) st):wpS (model prog w) A E s (ltAt' i j) Q st:=by
 rw[ltAt'_eq]
 refine aU (mB ?_)
 obtain ⟨p,ep,hp,_⟩:=Ip hi
 obtain ⟨q,eq,hq,_⟩:=Ip hj
 refine aU (Bq ep (aU (Bq eq (O6 hk.kind (hk.ik p hp) (hk.ik q hq) ?_))))
 rw[cT] at ep eq
 have e1:K (arrOf st) i=nk p:=by unfold K nk;rw[ep]
 have e2:K (arrOf st) j=nk q:=by unfold K nk;rw[eq]
 rw[e1,e2] at h
 exact h
theorem Rr{st:aX}{i j:Nat}{Q:Unit->aX->Prop}(h:Q () (setArr st (mirror (arrOf st) i j ((j - i) / 2)))) :
  wpS (model prog w) A E s (reverseSlice' i j) Q st:=by
 rw[reverseSlice'_eq];exact iW h
theorem Akk{st:aX}{n nrem:Nat}{Q:CA->aX->Prop}(hk:Kn st)(hr:lo+nrem<=(arrOf st).size)(h1:1<=n)(hn:n<=nrem)(hs:So (arrOf st) lo n)
  (h:∀ m,n<=m->m<=nrem->So (arrOf st) lo m->(m=nrem\/K (arrOf st) (lo+m) < K (arrOf st) (lo+m - 1))->Q (none,m) st) :
  wpS (model prog w) A E s (forIn [n:nrem] ((none,n):CA) (cA lo)) Q st:=by
 refine dX (I:=fun x c st'=>st'=st/\c=(none,x)/\So (arrOf st) lo x) ?_ ?_ ⟨rfl,rfl,hs⟩
 ·rintro x c st' hx hx2 ⟨rfl,rfl,hs'⟩
  unfold cA
  dsimp only
  refine aU (Li hk (by omega) (by omega) ?_)
  dsimp only
  by_cases hl:K (arrOf st') (lo+x) < K (arrOf st') (lo+x - 1)
  ·rw[if_pos (by simpa using hl)]
   exact bF (h x hx (by omega) hs' (.inr hl))
  ·rw[if_neg (by simpa using hl)]
   exact bF ⟨rfl,rfl,hs'.more (by omega) (Int.not_lt.mp hl)⟩
 ·rintro c st' ⟨rfl,rfl,hs'⟩
  rw[show max n nrem=nrem by omega] at hs' ⊢
  exact h nrem hn (aN _) hs' (.inl rfl)
theorem Ajp{st:aX}{n nrem:Nat}{Q:Option Nat->aX->Prop}(k0:Kn st0)(hb:Rb lo st0 st)(hr:lo+nrem<=(arrOf st0).size)(h1:1<=n)(hn:n<=nrem)(hs:Ni (arrOf st) lo n)
  (h:∀ m st',Rb lo st0 st'->1<=m->m<=nrem->So (arrOf st') lo m->Q (some m) st') :
  wpS (model prog w) A E s (c3 lo nrem n) Q st:=by
 unfold c3
 refine aU (Rr ?_)
 have hb':=hb.mir (i:=lo) (j:=lo+n) (aN _) (by omega)
 have hz:lo+n<=(arrOf st).size:=by rw[hb.size];omega
 refine aU (Akk (hb'.kn k0) (by rw[hb'.size];exact hr) h1 hn ?_ fun m m1 m2 m3 _=>bF (h m _ hb' (by omega) m2 m3))
 intro i j hij hj
 show K (mirror (arrOf st) lo (lo+n) ((lo+n - lo) / 2)) (lo+i)<=K (mirror (arrOf st) lo (lo+n) ((lo+n - lo) / 2)) (lo+j)
 rw[K_mirror hz,K_mirror hz,if_pos (by omega),if_pos (by omega)]
 have:=hs (n - 1 - j) (n - 1 - i) (by omega) (by omega)
 rw[show lo+(n - 1 - j)=lo+(lo+n) - 1 - (lo+j) by omega,show lo+(n - 1 - i)=lo+(lo+n) - 1 - (lo+i) by omega] at this
 exact this
noncomputable def Al(xs:Array bD)(lo n q:Nat):Prop:=q+1<=n/\∀ k,lo+n - (q+1)<=k->k < lo+n->K xs k=K xs (lo+n - 1)
theorem Aol{st:aX}{n nrem:Nat}{Q:CD->aX->Prop}(k0:Kn st0)(hb:Rb lo st0 st)(hr:lo+nrem<=(arrOf st0).size)(h1:1<=n)(hn:n<=nrem)(hs:Ni (arrOf st) lo n)
  (h:∀ m q st',Rb lo st0 st'->n<=m->m<=nrem->Ni (arrOf st') lo m->Al (arrOf st') lo m q->Q (none,m,q) st') :
  wpS (model prog w) A E s (forIn [n:nrem] ((none,n,0):CD) (cD lo)) Q st:=by
 have al0:∀ (xs:Array bD) m,1<=m->Al xs lo m 0:=fun xs m hm=>⟨by omega,fun k a b=>by congr 1;omega⟩
 refine dX (I:=fun x c st'=>∃ q,c=(none,x,q)/\Rb lo st0 st'/\Ni (arrOf st') lo x/\Al (arrOf st') lo x q) ?_ ?_ ⟨0,rfl,hb,hs,al0 _ _ h1⟩
 ·rintro x c st' hx hx2 ⟨q,rfl,hb',hs',ha⟩
  have kn:=hb'.kn k0
  have hz:=hb'.size
  unfold cD
  dsimp only
  refine aU (Li kn (by omega) (by omega) ?_)
  dsimp only
  by_cases hl:K (arrOf st') (lo+x) < K (arrOf st') (lo+x - 1)
  ·rw[if_pos (by simpa using hl)]
   by_cases hq:q > 0
   ·rw[if_pos hq]
    have ek:∀ k,K (mirror (arrOf st') (lo+x - (q+1)) (lo+x) ((lo+x - (lo+x - (q+1))) / 2)) k=K (arrOf st') k:=pQ (by omega) ha.2
    have ha1:=ha.1
    exact aU (Rr (bF ⟨0,rfl,hb'.mir (by omega) (by omega),(hs'.more (by omega) (gF hl)).congr ek,al0 _ _ (by omega)⟩))
   ·rw[if_neg hq]
    exact bF ⟨0,rfl,hb',hs'.more (by omega) (gF hl),al0 _ _ (by omega)⟩
  ·rw[if_neg (by simpa using hl)]
   refine aU (Li kn (by omega) (by omega) ?_)
   dsimp only
   by_cases hg:K (arrOf st') (lo+x - 1) < K (arrOf st') (lo+x)
   ·rw[if_pos (by simpa using hg)]
    exact bF (h x q st' hb' hx (by omega) hs' ha)
   ·rw[if_neg (by simpa using hg)]
    have eq:K (arrOf st') (lo+x)=K (arrOf st') (lo+x - 1):=by omega
    refine bF ⟨q+1,rfl,hb',hs'.more (by omega) (by omega),by have:=ha.1;omega,fun k b1 b2=>?_⟩
    rw[show lo+(x+1) - 1=lo+x by omega]
    by_cases c:k=lo+x
    ·rw[c]
    ·rw[eq];exact ha.2 k (by omega) (by omega)
 ·rintro c st' ⟨q,rfl,hb',hs',ha⟩
  rw[show max n nrem=nrem by omega] at hs' ha ⊢
  exact h nrem q st' hb' hn (aN _) hs' ha
theorem Ajo{st:aX}{n nrem:Nat}{Q:Option Nat->aX->Prop}(k0:Kn st0)(hb:Rb lo st0 st)(hr:lo+nrem<=(arrOf st0).size)(hn:n+1<=nrem)(hs:Ni (arrOf st) lo (n+1))
  (h:∀ m st',Rb lo st0 st'->1<=m->m<=nrem->So (arrOf st') lo m->Q (some m) st') :
  wpS (model prog w) A E s (c2 lo nrem n) Q st:=by
 unfold c2
 refine aU (nZ (eY ⟨rfl,?_⟩))
 refine aU (Aol k0 hb hr (by omega) hn hs fun m q st' hb' m1 m2 m3 ha=>?_)
 dsimp only
 have hz:=hb'.size
 by_cases hq:q > 0
 ·rw[if_pos hq]
  have ha1:=ha.1
  exact aU (Rr (Ajp k0 (hb'.mir (by omega) (by omega)) hr (by omega) m2 (m3.congr (pQ (by omega) ha.2)) h))
 ·rw[if_neg hq]
  exact Ajp k0 hb' hr (by omega) m2 m3 h
theorem U8{nrem:Nat}{Q:Option Nat->aX->Prop}(k0:Kn st0)(hr:lo+nrem<=(arrOf st0).size)(h1:1<=nrem)
  (h:∀ m st',Rb lo st0 st'->1<=m->m<=nrem->So (arrOf st') lo m->Q (some m) st') :
  wpS (model prog w) A E s (countRun' lo nrem) Q st0:=by
 rw[Ts]
 have hb:Rb lo st0 st0:=⟨oU _,fun _ _=>rfl,rfl,rfl,rfl⟩
 refine aU (Akk k0 hr (aN 1) h1 So.one fun n n1 n2 hs hor=>?_)
 dsimp only
 by_cases hnn:n=nrem
 ·rw[if_pos (by simpa using hnn)]
  exact bF (h n st0 hb n1 n2 hs)
 ·rw[if_neg (by simpa using hnn)]
  have hlt:=hor.resolve_left hnn
  by_cases hgt:n > 1
  ·rw[if_pos hgt]
   refine aU (Li k0 (by omega) (by omega) ?_)
   dsimp only
   by_cases hro:K (arrOf st0) lo < K (arrOf st0) (lo+n - 1)
   ·rw[if_pos (by simpa using hro)]
    exact bF (h n st0 hb n1 n2 hs)
   ·rw[if_neg (by simpa using hro)]
    have hall:∀ k,lo<=k->k < lo+n->K (arrOf st0) k=K (arrOf st0) (lo+n - 1):=by
     intro k a b
     have a1:=hs 0 (k - lo) (by omega) (by omega)
     have a2:=hs (k - lo) (n - 1) (by omega) (by omega)
     rw[Nat.add_zero,show lo+(k - lo)=k by omega] at a1
     rw[show lo+(k - lo)=k by omega,show lo+(n - 1)=lo+n - 1 by omega] at a2
     omega
    refine aU (Rr (Ajo k0 (hb.mir (aN _) (by omega)) hr (by omega) (Ni.congr ?_ (pQ (by omega) hall)) h))
    refine Ni.more (fun i j a b=>?_) (by omega) (gF hlt)
    rw[hall (lo+i) (by omega) (by omega),hall (lo+j) (by omega) (by omega)]
    exact fP _
  ·rw[if_neg hgt]
   have:n=1:=by omega
   subst this
   refine Ajo k0 hb hr (by omega) (Ni.more (fun i j a b=>?_) (by omega) (gF hlt)) h
   have:i=j:=by omega
   subst this;exact fP _
end
abbrev BI:Type:=Option Bool×Nat×Nat
noncomputable def bI(lo k:Nat)(_:Nat)(c:BI):StateT aX Sem (ForInStep BI):=
 if c.2.1 ≥ c.2.2 then pure (.done (none,c.2.1,c.2.2)) else do
 let x <- ltAt' (lo+k) (lo+(c.2.1+c.2.2) / 2)
 match x with
 | some less=>if less=true then pure (.yield (none,c.2.1,(c.2.1+c.2.2) / 2)) else pure (.yield (none,(c.2.1+c.2.2) / 2+1,c.2.2))
 | _=>pure (.done (some false,c.2.1,c.2.2))
noncomputable def bO(lo:Nat)(k:Nat)(_:Option Bool×Unit):StateT aX Sem (ForInStep (Option Bool×Unit)):=do
 let d <- forIn [0:k] ((none,0,k):BI) (bI lo k)
 match d.1 with
 | some r=>pure (.done (some r,()))
 | none=>do
  moveDown' (lo+k) (lo+d.2.1)
  pure (.yield (none,()))
theorem P7(lo n ok:Nat):binarySort' lo n ok=(do
 let c <- forIn [max ok 1:n] ((none,()):Option Bool×Unit) (bO lo)
 match c.1 with
 | some r=>pure r
 | none=>pure true):=by
 kernel_rfl
abbrev MI:Type:=Option Unit×Unit
abbrev RO:Type:=Option Unit×Nat
noncomputable def mI(pw:Nat)(_:Nat)(_:MI):StateT aX Sem (ForInStep MI):=do
 let s <- get
 match (if (pendingOf s).size > 1 then (pendingOf s)[(pendingOf s).size - 2]? else none) with
 | some (_,_,older)=>
  if older<=pw then pure (.done (none,())) else do
  let b <- mergeAt' ((pendingOf s).size - 2)
  if (!b)=true then pure (.done (some (),())) else pure (.yield (none,()))
 | _=>pure (.done (none,()))
noncomputable def r3(lo n:Nat):StateT aX Sem (ForInStep RO):=do
 modify fun s=>setPending s ((pendingOf s).push (lo,n,0))
 pure (.yield (none,lo+n))
noncomputable def r2(size lo n:Nat):StateT aX Sem (ForInStep RO):=do
 let s <- get
 match (pendingOf s).back? with
 | some (s1,n1,_)=>do
  let c <- forIn [0:size] ((none,()):MI) (mI (power' size (2 * s1+n1) (2 * s1+n1+n1+n) size))
  match c.1 with
  | some r=>pure (.done (some r,lo))
  | none=>do
   modify fun s=>setPending s ((pendingOf s).modify ((pendingOf s).size - 1) fun x=>(x.1,x.2.1,power' size (2 * s1+n1) (2 * s1+n1+n1+n) size))
   r3 lo n
 | _=>r3 lo n
noncomputable def r1(size:Nat)(_:Nat)(c:RO):StateT aX Sem (ForInStep RO):=
 if c.2 ≥ size then pure (.done (none,c.2)) else do
 let x <- countRun' c.2 (size - c.2)
 match x with
 | some found=>
  if found < minRun' size size 0 then do
   liftM (rule "list.sort.binary-insertion")
   let b <- binarySort' c.2 (min (size - c.2) (minRun' size size 0)) found
   if (!b)=true then pure (.done (some (),c.2)) else r2 size c.2 (min (size - c.2) (minRun' size size 0))
  else r2 size c.2 found
 | _=>pure (.done (some (),c.2))
noncomputable def f1(_:Nat)(_:MI):StateT aX Sem (ForInStep MI):=do
 let s <- get
 if (pendingOf s).size<=1 then pure (.done (none,())) else do
 let b <- mergeAt' (if (if (pendingOf s).size - 2 > 0 then (pendingOf s)[(pendingOf s).size - 2 - 1]?.map (·.2.1) else none).any (· < ((pendingOf s)[(pendingOf s).size - 2+1]?.elim 0 (·.2.1)))
  then (pendingOf s).size - 2 - 1 else (pendingOf s).size - 2)
 if (!b)=true then pure (.done (some (),())) else pure (.yield (none,()))
theorem U5:sortRuns'=(do
 let s <- get
 let c <- forIn [0:(arrOf s).size] ((none,0):RO) (r1 (arrOf s).size)
 match c.1 with
 | some r=>pure r
 | none=>do
  let d <- forIn [0:(arrOf s).size] ((none,()):MI) f1
  match d.1 with
  | some r=>pure r
  | none=>pure ()):=by
 kernel_rfl
section
variable {prog:bQ}{w:cC}{A:cL}{E:aC->aG->Prop}{s:aG}{st0:aX}{lo:Nat}
theorem Aoh{st:aX}{k:Nat}{Q:BI->aX->Prop}(hk:Kn st)(hz:lo+k < (arrOf st).size)(hs:So (arrOf st) lo k)
  (h:∀ l r,l<=k->(∀ i,i < l->K (arrOf st) (lo+i)<=K (arrOf st) (lo+k))->(∀ i,l<=i->i < k->K (arrOf st) (lo+k) < K (arrOf st) (lo+i))->Q (none,l,r) st) :
  wpS (model prog w) A E s (forIn [0:k] ((none,0,k):BI) (bI lo k)) Q st:=by
 refine dX (I:=fun x c st'=>st'=st/\∃ l r,c=(none,l,r)/\l<=r/\r<=k/\r - l<=k - x /\
  (∀ i,i < l->K (arrOf st) (lo+i)<=K (arrOf st) (lo+k))/\(∀ i,r<=i->i < k->K (arrOf st) (lo+k) < K (arrOf st) (lo+i))) ?_ ?_
  ⟨rfl,0,k,rfl,by omega,by omega,by omega,fun i hi=>by omega,fun i a b=>by omega⟩
 ·rintro x c st' _ hx ⟨rfl,l,r,rfl,a1,a2,a3,a4,a5⟩
  unfold bI
  dsimp only
  by_cases hg:l ≥ r
  ·rw[if_pos hg]
   have:l=r:=by omega
   subst this
   exact bF (h l l a2 a4 a5)
  ·rw[if_neg hg]
   refine aU (Li hk (by omega) (by omega) ?_)
   dsimp only
   by_cases hl:K (arrOf st') (lo+k) < K (arrOf st') (lo+(l+r) / 2)
   ·rw[if_pos (by simpa using hl)]
    refine bF ⟨rfl,l,(l+r) / 2,rfl,by omega,by omega,by omega,a4,fun i b1 b2=>?_⟩
    exact Int.lt_of_lt_of_le hl (hs _ _ b1 b2)
   ·rw[if_neg (by simpa using hl)]
    refine bF ⟨rfl,(l+r) / 2+1,r,rfl,by omega,by omega,by omega,fun i b1=>?_,a5⟩
    exact Int.le_trans (hs i ((l+r) / 2) (by omega) (by omega)) (Int.not_lt.mp hl)
 ·rintro c st' ⟨rfl,l,r,rfl,a1,a2,a3,a4,a5⟩
  have:l=r:=by omega
  subst this
  exact h l l a2 a4 a5
theorem Qb{st:aX}{n ok:Nat}{Q:Bool->aX->Prop}(k0:Kn st0)(hb:Rb lo st0 st)(hn:lo+n<=(arrOf st0).size)(h1:1<=ok)(hok:ok<=n)(hs:So (arrOf st) lo ok)
  (h:∀ st',Rb lo st0 st'->So (arrOf st') lo n->Q true st'):wpS (model prog w) A E s (binarySort' lo n ok) Q st:=by
 rw[P7]
 refine aU (fI (dX (I:=fun k c st'=>c=(none,())/\Rb lo st0 st'/\So (arrOf st') lo k)
  (Q:=fun c st'=>c=(none,())/\Rb lo st0 st'/\So (arrOf st') lo n) ?_ ?_ ⟨rfl,hb,by rw[show max ok 1=ok by omega];exact hs⟩) ?_)
 ·rintro k c st' hk1 hk2 ⟨rfl,hb',hs'⟩
  have hz:=hb'.size
  unfold bO
  refine aU (Aoh (hb'.kn k0) (by omega) hs' fun l r l1 l2 l3=>?_)
  dsimp only
  rw[moveDown'_eq]
  have hks:lo+k < (arrOf st').size:=by omega
  refine aU (iW (bF ⟨rfl,hb'.set (bubble_perm _ _ _) (fun j hj=>?_),?_⟩))
  ·rw[getElem?_bubble hks _ (by omega),if_neg (by omega),if_neg (by omega)]
  ·intro i j hij hj
   show K (bubble (arrOf st') (lo+k) (lo+k - (lo+l))) (lo+i)<=K (bubble (arrOf st') (lo+k) (lo+k - (lo+l))) (lo+j)
   rw[K_bubble hks (by omega),K_bubble hks (by omega),show lo+k - (lo+k - (lo+l))=lo+l by omega]
   have sub:∀ x,0 < x->lo+x - 1=lo+(x - 1):=fun x hx=>by omega
   by_cases ci:i=l
   ·rw[if_pos (by omega)]
    by_cases cj:j=l
    ·rw[if_pos (by omega)];exact fP _
    ·rw[if_neg (by omega),if_pos (by omega),sub j (by omega)]
     exact gF (l3 _ (by omega) (by omega))
   ·rw[if_neg (by omega)]
    by_cases ci2:l < i
    ·rw[if_pos (by omega),if_neg (by omega),if_pos (by omega),sub i (by omega),sub j (by omega)]
     exact hs' _ _ (by omega) (by omega)
    ·rw[if_neg (by omega)]
     by_cases cj:j=l
     ·rw[if_pos (by omega)];exact l2 i (by omega)
     ·rw[if_neg (by omega)]
      by_cases cj2:l < j
      ·rw[if_pos (by omega),sub j (by omega)]
       exact hs' _ _ (by omega) (by omega)
      ·rw[if_neg (by omega)]
       exact hs' _ _ hij (by omega)
 ·rintro c st' ⟨rfl,hb',hs'⟩
  rw[show max (max ok 1) n=n by omega] at hs'
  exact ⟨rfl,hb',hs'⟩
 ·rintro c st' ⟨rfl,hb',hs'⟩
  exact bF (h st' hb' hs')
end
abbrev Pn:Type:=Nat×Nat×Nat
noncomputable def RL(xs:Array bD):Nat->List Pn->Nat->Prop
 | s,[],e=>s=e
 | s,x::t,e=>x.1=s/\0 < x.2.1/\So xs s x.2.1/\RL xs (s+x.2.1) t e
theorem RL.le{xs:Array bD}:∀ {l:List Pn} {s e:Nat},RL xs s l e->s+l.length<=e
 | [],s,e,h=>by have:s=e:=h;simp[this]
 | x::t,s,e,h=>by have:=RL.le h.2.2.2;have:=h.2.1;simp;omega
theorem So.congr{xs ys:Array bD}{s n:Nat}(h:So xs s n)(e:∀ k,s<=k->k < s+n->K ys k=K xs k):So ys s n:=fun i j a b=>by
 rw[e _ (by omega) (by omega),e _ (by omega) (by omega)];exact h i j a b
theorem RL.congr{xs ys:Array bD}:∀ {l:List Pn} {s e:Nat},RL xs s l e->(∀ k,s<=k->k < e->K ys k=K xs k)->RL ys s l e
 | [],s,e,h,_=>h
 | x::t,s,e,h,hc=>by
  have l1:=RL.le h.2.2.2
  exact ⟨h.1,h.2.1,h.2.2.1.congr fun k a b=>hc k a (by omega),RL.congr h.2.2.2 fun k a b=>hc k (by omega) b⟩
theorem RL.app{xs:Array bD}:∀ {l1 l2:List Pn} {s e:Nat},RL xs s (l1++l2) e↔∃ m,RL xs s l1 m/\RL xs m l2 e
 | [],l2,s,e=>⟨fun h=>⟨s,rfl,h⟩,fun ⟨m,h1,h2⟩=>by have:s=m:=h1;subst this;exact h2⟩
 | x::t,l2,s,e=>by
  constructor
  ·rintro ⟨a,b,c,d⟩
   obtain ⟨m,h1,h2⟩:=RL.app.mp d
   exact ⟨m,⟨a,b,c,h1⟩,h2⟩
  ·rintro ⟨m,⟨a,b,c,d⟩,h2⟩
   exact ⟨a,b,c,RL.app.mpr ⟨m,d,h2⟩⟩
theorem K_list(xs:Array bD)(i:Nat):K xs i=match xs.toList[i]? with | some p=>nk p | none=>0:=by
 unfold K nk
 rw[cT]
 cases xs[i]? <;> rfl
theorem W5{xs:Array bD}{P X Z:List bD}{s n:Nat}(e:xs.toList=P++(X++Z))(h1:s=P.length)(h2:n=X.length):So xs s n↔Srt X:=by
 have ek:∀ i,(hi:i < X.length)->K xs (s+i)=nk X[i]:=by
  intro i hi
  rw[K_list,e,bJ (by omega),bB (by omega),show s+i - P.length=i by omega,aH hi]
 constructor
 ·intro h
  refine dI.mpr fun i j hi hj hij=>?_
  have:=h i j (by omega) (by omega)
  rwa [ek i hi,ek j hj] at this
 ·intro h i j hij hj
  rw[ek i (by omega),ek j (by omega)]
  by_cases c:i=j
  ·subst c;exact fP _
  ·exact dI.mp h i j (by omega) (by omega) (by omega)
section
variable {prog:bQ}{w:cC}{A:cL}{E:aC->aG->Prop}{s:aG}{st0:aX}{lo:Nat}
theorem Px{st:aX}{i e:Nat}{Q:Bool->aX->Prop}(hk:Kn st)(R:RL (arrOf st) 0 (pendingOf st).toList e)(he:e<=(arrOf st).size)(hi:i+1 < (pendingOf st).size)
  (h:∀ st',Kn st'->(arrOf st').Perm (arrOf st)->RL (arrOf st') 0 (pendingOf st').toList e->(pendingOf st').size+1=(pendingOf st).size->(∀ k,e<=k->K (arrOf st') k=K (arrOf st) k)->Q true st') :
  wpS (model prog w) A E s (mergeAt' i) Q st:=by
 have hi':i+1 < (pendingOf st).toList.length:=by simpa using hi
 have ep:(pendingOf st).toList=(pendingOf st).toList.take i++((pendingOf st).toList[i]::(pendingOf st).toList[i+1]::(pendingOf st).toList.drop (i+2)):=by
  rw[<- fG hi',<- fG (by omega),cG]
 have p1:(pendingOf st)[i]? = some ((pendingOf st).toList[i]):=by rw[<- cT];exact aH (by omega)
 have p2:(pendingOf st)[i+1]? = some ((pendingOf st).toList[i+1]):=by rw[<- cT];exact aH hi'
 have hlt:((pendingOf st).toList.take i).length=i:=by rw[fK];omega
 generalize hl1:(pendingOf st).toList.take i=l1 at *
 generalize hl2:(pendingOf st).toList.drop (i+2)=l2 at *
 generalize hx:(pendingOf st).toList[i]=x at *
 generalize hy:(pendingOf st).toList[i+1]=y at *
 obtain ⟨sa,na,pw⟩:=x
 obtain ⟨sb,nb,pv⟩:=y
 rw[ep] at R
 obtain ⟨m,R1,⟨a1,a2,a3,b1,b2,b3,R2⟩⟩:=RL.app.mp R
 dsimp only at a1 a2 a3 b1 b2 b3 R2
 subst a1
 have le2:=RL.le R2
 have hsz:(arrOf st).toList.length=(arrOf st).size:=by simp
 generalize hT:(arrOf st).toList=T at *
 have e4:T=T.take sa++((T.drop sa).take na++((T.drop (sa+na)).take nb++T.drop (sa+na+nb))):=by
  rw[show T.drop (sa+na+nb)=(T.drop (sa+na)).drop nb from iV.symm,cG,show T.drop (sa+na)=(T.drop sa).drop na from iV.symm,cG,cG]
 have n1:(T.take sa).length=sa:=by rw[fK];omega
 have n2:((T.drop sa).take na).length=na:=by rw[fK,jB];omega
 have n3:((T.drop (sa+na)).take nb).length=nb:=by rw[fK,jB];omega
 generalize hP:T.take sa=P at *
 generalize hX:(T.drop sa).take na=X at *
 generalize hY:(T.drop (sa+na)).take nb=Y at *
 generalize hZ:T.drop (sa+na+nb)=Z at *
 have hT4:=hT.trans e4
 have sx:Srt X:=(W5 (s:=sa) (n:=na) hT4 n1.symm n2.symm).mp a3
 have sy:Srt Y:=(W5 (s:=sa+na) (n:=nb) (P:=P++X) (X:=Y) (Z:=Z) (by rw[hT4];simp) (by simp;omega) n3.symm).mp b3
 refine Vv hk hT4 p1 p2 n1.symm n2.symm b1 n3.symm a2 b2 sx sy fun st' W w1 w2 w3 w4 w5 w6=>?_
 have hW:W.length=na+nb:=by rw[w1.length_eq,eD];omega
 have hperm:(arrOf st').Perm (arrOf st):=by
  refine mN.mpr ?_
  rw[w3,hT4,<- bA X]
  exact kL P (oK Z w1)
 have epd:(pendingOf st').toList=l1++(sa,na+nb,pw)::l2:=by
  rw[w6,Array.toList_eraseIdxIfInBounds,mM,ep,kM _ _ (by omega),show i - l1.length=0 by omega,iH,
   List.eraseIdx_append_of_length_le (by omega),show i+1 - l1.length=1 by omega]
  rfl
 have klow:∀ k,k < sa->K (arrOf st') k=K (arrOf st) k:=by
  intro k hk'
  rw[K_list,K_list,w3,hT4,bB (by omega),bB (by omega)]
 have khi:∀ k,sa+na+nb<=k->K (arrOf st') k=K (arrOf st) k:=by
  intro k hk'
  rw[K_list,K_list,w3,hT4,bJ (by omega),bJ (by omega),bJ (by omega),bJ (by omega),bJ (by omega)]
  rw[show k - P.length - W.length=k - P.length - X.length - Y.length by omega]
 refine h st' ⟨w4.trans hk.kind,w5.trans hk.fl,fun p hp=>hk.ik p ((mN.mp hperm).mem_iff.mp hp)⟩ hperm ?_ ?_ fun k hk'=>khi k (by omega)
 ·rw[epd]
  refine RL.app.mpr ⟨sa,R1.congr fun k _ hk'=>klow k hk',rfl,by show 0 < na+nb;omega,(W5 (s:=sa) (n:=na+nb) w3 n1.symm hW.symm).mpr w2,?_⟩
  show RL (arrOf st') (sa+(na+nb)) l2 e
  rw[<- Nat.add_assoc]
  exact R2.congr fun k hk' _=>khi k hk'
 ·have c1:(pendingOf st').toList.length=(pendingOf st').size:=by simp
  have c2:(pendingOf st).toList.length=(pendingOf st).size:=by simp
  rw[<- c1,<- c2,epd,ep]
  simp
  omega
end
section
variable {prog:bQ}{w:cC}{A:cL}{E:aC->aG->Prop}{s:aG}{a₀:Array bD}
structure Rn(a₀:Array bD)(e:Nat)(st:aX):Prop where
 kn:Kn st
 perm:(arrOf st).Perm a₀
 rl:RL (arrOf st) 0 (pendingOf st).toList e
 le:e<=a₀.size
theorem Rn.size{e:Nat}{st:aX}(h:Rn a₀ e st):(arrOf st).size=a₀.size:=h.perm.size_eq
theorem Ao7{st:aX}{e n pw:Nat}{Q:MI->aX->Prop}(h0:Rn a₀ e st)
  (h:∀ st',Rn a₀ e st'->(∀ k,e<=k->K (arrOf st') k=K (arrOf st) k)->Q (none,()) st'):wpS (model prog w) A E s (forIn [0:n] ((none,()):MI) (mI pw)) Q st:=by
 refine dX (I:=fun _ c st'=>c=(none,())/\Rn a₀ e st'/\∀ k,e<=k->K (arrOf st') k=K (arrOf st) k) ?_ (fun c st' hh=>by obtain ⟨rfl,a,b⟩:=hh;exact h st' a b) ⟨rfl,h0,fun _ _=>rfl⟩
 rintro x c st' _ _ ⟨rfl,hr,hp'⟩
 unfold mI
 refine aU (mB ?_)
 by_cases c1:(pendingOf st').size > 1
 ·rw[if_pos c1]
  have e1:(pendingOf st')[(pendingOf st').size - 2]? = some (pendingOf st')[(pendingOf st').size - 2]:=getElem?_pos _ _ (by omega)
  rw[e1]
  generalize (pendingOf st')[(pendingOf st').size - 2]=y
  obtain ⟨y1,y2,y3⟩:=y
  dsimp only
  by_cases c2:y3<=pw
  ·rw[if_pos c2]
   exact bF (h st' hr hp')
  ·rw[if_neg c2]
   refine aU (Px hr.kn hr.rl (by rw[hr.size];exact hr.le) (by omega) fun st2 b1 b2 b3 b4 b5=>?_)
   rw[if_neg (by simp)]
   exact bF ⟨rfl,⟨b1,b2.trans hr.perm,b3,hr.le⟩,fun k hk=>(b5 k hk).trans (hp' k hk)⟩
 ·rw[if_neg c1]
  exact bF (h st' hr hp')
noncomputable def PR(a₀:Array bD)(m:Nat)(r:ForInStep RO)(st':aX):Prop:=match r with
 | .done (none,e)=>e=a₀.size/\Rn a₀ e st'
 | .yield (none,e)=>Rn a₀ e st'/\m<=e
 | _=>False
theorem Aka{st:aX}{lo n m:Nat}(h0:Rn a₀ lo st)(hn:0 < n)(hs:So (arrOf st) lo n)(hle:lo+n<=a₀.size)(hm:m<=lo+n) :
  wpS (model prog w) A E s (r3 lo n) (PR a₀ m) st:=by
 unfold r3
 refine aU (iW (bF ⟨⟨⟨h0.kn.kind,h0.kn.fl,h0.kn.ik⟩,h0.perm,?_,hle⟩,hm⟩))
 show RL (arrOf st) 0 ((pendingOf st).push (lo,n,0)).toList (lo+n)
 rw[dU]
 exact RL.app.mpr ⟨lo,h0.rl,rfl,hn,hs,rfl⟩
theorem Q1{xs:Array bD}{pw:Nat}:∀ {l:List Pn} {i s e:Nat},RL xs s l e->RL xs s (l.modify i fun x=>(x.1,x.2.1,pw)) e
 | [],i,s,e,h=>by simpa using h
 | x::t,0,s,e,h=>by rw[List.modify_zero_cons];exact h
 | x::t,i+1,s,e,h=>by
  rw[List.modify_succ_cons]
  exact ⟨h.1,h.2.1,h.2.2.1,Q1 h.2.2.2⟩
theorem Akj{st:aX}{size lo n m:Nat}(h0:Rn a₀ lo st)(hn:0 < n)(hs:So (arrOf st) lo n)(hle:lo+n<=a₀.size)(hm:m<=lo+n) :
  wpS (model prog w) A E s (r2 size lo n) (PR a₀ m) st:=by
 unfold r2
 refine aU (mB ?_)
 cases (pendingOf st).back? with
 | none=>exact Aka h0 hn hs hle hm
 | some x=>
  obtain ⟨s1,n1,pw⟩:=x
  dsimp only
  refine aU (Ao7 h0 fun st' hr hk=>?_)
  dsimp only
  refine aU (iW ?_)
  refine Aka ⟨⟨hr.kn.kind,hr.kn.fl,hr.kn.ik⟩,hr.perm,?_,hr.le⟩ hn (hs.congr fun k a _=>hk k a) hle hm
  show RL (arrOf st') 0 ((pendingOf st').modify _ _).toList lo
  rw[Array.toList_modify]
  exact Q1 hr.rl
theorem Rn.of{st st':aX}{lo:Nat}(h:Rn a₀ lo st)(b:Rb lo st st'):Rn a₀ lo st':=by
 refine ⟨b.kn h.kn,b.perm.trans h.perm,?_,h.le⟩
 rw[b.pend]
 exact h.rl.congr fun k _ hk=>K_congr (b.low k hk)
theorem Apw{st:aX}{c:RO}{x:Nat}(h2:0 < a₀.size)(hc:c.1=none)(h0:Rn a₀ c.2 st)(hx:x<=c.2) :
  wpS (model prog w) A E s (r1 a₀.size x c) (PR a₀ (x+1)) st:=by
 obtain ⟨r,lo⟩:=c
 dsimp only at hc h0 hx
 unfold r1
 dsimp only
 have hle:=h0.le
 have hz:=h0.size
 by_cases c1:lo ≥ a₀.size
 ·rw[if_pos c1]
  exact bF ⟨by omega,h0⟩
 ·rw[if_neg c1]
  refine aU (U8 h0.kn (by omega) (by omega) fun m st' hb m1 m2 hs=>?_)
  dsimp only
  by_cases c2:m < minRun' a₀.size a₀.size 0
  ·rw[if_pos c2]
   refine aU (nZ (eY ⟨rfl,?_⟩))
   refine aU (Qb h0.kn hb (by omega) m1 (by omega) hs fun st2 hb2 hs2=>?_)
   rw[if_neg (by simp)]
   exact Akj (h0.of hb2) (by omega) hs2 (by omega) (by omega)
  ·rw[if_neg c2]
   exact Akj (h0.of hb) (by omega) hs (by omega) (by omega)
theorem Aon{st:aX}{Q:MI->aX->Prop}{n:Nat}(hn:n=a₀.size)(h0:Rn a₀ n st)
  (h:∀ st',Rn a₀ n st'->(pendingOf st').size<=1->Q (none,()) st'):wpS (model prog w) A E s (forIn [0:n] ((none,()):MI) f1) Q st:=by
 have hl0:=RL.le h0.rl
 have hl1:(pendingOf st).toList.length=(pendingOf st).size:=by simp
 refine dX (I:=fun x c st'=>c=(none,())/\Rn a₀ n st'/\((pendingOf st').size+x<=n\/(pendingOf st').size<=1)) ?_ ?_ ⟨rfl,h0,.inl (by omega)⟩
 ·rintro x c st' _ hx ⟨rfl,hr,hp⟩
  unfold f1
  refine aU (mB ?_)
  by_cases c1:(pendingOf st').size<=1
  ·rw[if_pos c1]
   exact bF (h st' hr c1)
  ·rw[if_neg c1]
   refine aU ?_
   have hi:∀ b:Bool,(if b=true then (pendingOf st').size - 2 - 1 else (pendingOf st').size - 2)+1 < (pendingOf st').size:=by
    intro b
    cases b <;> simp <;> omega
   refine Px hr.kn hr.rl (by rw[hr.size];exact hr.le) (hi _) fun st2 b1 b2 b3 b4 b5=>?_
   rw[if_neg (by simp)]
   exact bF ⟨rfl,⟨b1,b2.trans hr.perm,b3,hr.le⟩,.inl (by omega)⟩
 ·rintro c st' ⟨rfl,hr,hp⟩
  exact h st' hr (by omega)
theorem Tv{st:aX}{Q:Unit->aX->Prop}(h0:IntKeys (arrOf st))(hk:kindOf st=oneType')(hf:failedOf st=none)(hp:pendingOf st=#[])(h2:0 < (arrOf st).size)
  (h:∀ st',(arrOf st').Perm (arrOf st)->failedOf st'=none->SortedTo (arrOf st') (arrOf st).size->Q () st'):wpS (model prog w) A E s sortRuns' Q st:=by
 rw[U5]
 refine aU (mB ?_)
 have r0:Rn (arrOf st) 0 st:=⟨⟨hk,hf,h0⟩,oU _,by rw[hp];rfl,by omega⟩
 refine aU (fI (dX (I:=fun x (c:RO) st'=>c.1=none/\Rn (arrOf st) c.2 st'/\x<=c.2) (Q:=fun c st'=>c=(none,(arrOf st).size)/\Rn (arrOf st) (arrOf st).size st') ?_ ?_ ⟨rfl,r0,aN _⟩) ?_)
 ·rintro x c st' _ hx ⟨c1,c2,c3⟩
  refine fI (Apw h2 c1 c2 c3) ?_
  rintro (⟨r,e⟩ | ⟨r,e⟩) st2 hh
  ·cases r with
   | some r=>exact hh.elim
   | none=>
    obtain ⟨rfl,hr⟩:=hh
    exact ⟨rfl,hr⟩
  ·cases r with
   | some r=>exact hh.elim
   | none=>exact ⟨rfl,hh.1,hh.2⟩
 ·rintro ⟨r,e⟩ st' ⟨c1,c2,c3⟩
  dsimp only at c1 c2 c3
  have:=c2.le
  have:e=(arrOf st).size:=by omega
  subst this c1
  exact ⟨rfl,c2⟩
 ·rintro c st' ⟨rfl,hr⟩
  dsimp only
  refine aU (Aon rfl hr fun st2 hr2 hs=>?_)
  refine bF (h st2 hr2.perm hr2.kn.fl ?_)
  have rl:=hr2.rl
  have hl1:(pendingOf st2).toList.length=(pendingOf st2).size:=by simp
  generalize (pendingOf st2).toList=l at rl hl1
  match l,rl,hl1 with
  | [],rl,_=>
   have:0=(arrOf st).size:=rl
   omega
  | [x],rl,_=>
   have e:0+x.2.1=(arrOf st).size:=rl.2.2.2
   intro i j a b
   have:=rl.2.2.1 i j a (by omega)
   simpa using this
  | x::y::t,_,hl=>simp at hl;omega
end
end LS
namespace SO
open PySem PySem.W PySem.Calls PyProof.Rows
section
variable {P:bQ}{w:cC}{A:cL}{E:aC->aG->Prop}{s:aG}{vs:List aC}
theorem Aa6{a:Addr}{c0:Nat}{ns:List Int}{F:PySem.Fin->aG->Prop}(ho:s.heap.get? a=some (seqObj "list" vs.toArray c0))(hI:jM vs ns)(hz:vs.length<=sizeLine)
  (hq:∀ (out:List aC) (ns':List Int) (h':Heap) (c:Nat),jM out ns'->ns'.Perm ns->ns'.Pairwise (·<=·)->Kb a s.heap h'->h'.get? a=some (seqObj "list" out.toArray c)->F (.done (.ret .none)) { s with heap:=h' }) :
  wpAny (model P w) A (gD.«list.sort» ⟨[.ref a],[]⟩) F E s:=by
 obtain ⟨c1,h1⟩:∃ c1,(s.heap.update a (cJ fun _=>(#[]:Array aC))).get? a=some (seqObj "list" #[] c1):=⟨_,jO ho fun _=>#[]⟩
 have k1:Kb a s.heap (((s.heap.update a (cJ fun _=>(#[]:Array aC))).push (seqObj "tuple" vs.toArray 0)).push (seqObj "list" #[] 0)):=((V3 _ _ _).trans (Aah _ _ _)).trans (Aah _ _ _)
 have h3:(((s.heap.update a (cJ fun _=>(#[]:Array aC))).push (seqObj "tuple" vs.toArray 0)).push (seqObj "list" #[] 0)).get? a=some (seqObj "list" #[] c1):=aF _ (aF _ h1)
 rw[list_sort_plain]
 refine aB (rH ho rfl (aB (jI ho rfl (aB (pR h1 rfl (aB (mH (aB (nO (eG ?_) (eR _))) ?z2)))) ?z1 (eR _))))
 case z1=>rw[bM];omega
 case z2=>exact hz
 show wpAny (model P w) A _ F E ({ s with heap:=((s.heap.update a (cJ fun _=>(#[]:Array aC))).push (seqObj "tuple" vs.toArray 0)).push (seqObj "list" #[] 0) }:aG)
 generalize ((s.heap.update a (cJ fun _=>(#[]:Array aC))).push (seqObj "tuple" vs.toArray 0)).push (seqObj "list" #[] 0)=hp at k1 h3
 dsimp only
 have fin:∀ (st:aX),(arrOf st).Perm (pairsOf vs)->SortedTo (arrOf st) (pairsOf vs).size->failedOf st=none->wpAny (model P w) A (do
   let touched:=(<- seqEpoch a) != c1
   gD.List.listUpdate (.ref a) fun _=>(arrOf st).map (·.2)
   if let some e:=failedOf st then rule "list.sort.comparison-raised";throw e
   if touched then rule "list.sort.modified";raiseError "ValueError" "list modified during sort"
   ret .none) F E { s with heap:=hp }:=by
  intro st hpm hs hfail
  obtain ⟨ns',a1,a2,a3⟩:=sorted_out hI hpm hs
  have hlen:((arrOf st).map (·.2)).size=vs.length:=(Array.size_map ..).trans (hpm.size_eq.trans (rJ _))
  obtain ⟨c2,h4⟩:∃ c2,(hp.update a (cJ fun _=>(arrOf st).map (·.2))).get? a=some (seqObj "list" ((arrOf st).map (·.2)) c2):=⟨_,jO h3 fun _=>(arrOf st).map (·.2)⟩
  rw[hfail]
  refine aB (pR h3 rfl (aB (jI h3 rfl ?_ (eR _) ?z3)))
  case z3=>rw[hlen];omega
  simp only[bne_self_eq_false,bL,if_false]
  exact aJ (hq _ ns' _ c2 a1 a2 a3 (k1.trans (V3 _ _ _)) (by rw[h4]))
 by_cases hsmall:vs.toArray.size < 2
 ·rw[if_pos hsmall,if_pos hsmall]
  have hs2:vs.length < 2:=by simpa using hsmall
  refine aB (aJ ?_)
  rw[sQ]
  refine aB (aJ (fin (qL general' (vs.toArray.zip vs.toArray) #[] 7 none) (oU _) ?_ rfl))
  intro i j hij hj
  have:i=j:=by rw[rJ] at hj;omega
  subst this;exact fP _
 ·rw[if_neg hsmall,if_neg hsmall]
  obtain ⟨v₁,v₂,rest,rfl⟩:∃ v₁ v₂ rest,vs=v₁ :: v₂ :: rest:=by
   match vs,hsmall with
   | [],h2=>simp at h2
   | [_],h2=>simp at h2
   | v₁ :: v₂ :: rest,_=>exact ⟨v₁,v₂,rest,rfl⟩
  rw[keyKind_ints hI]
  refine aB (aJ ?_)
  refine aB (eL (LS.Tv (st:=qL oneType' ((v₁ :: v₂ :: rest).toArray.zip (v₁ :: v₂ :: rest).toArray) #[] 7 none)
   (Q:=fun _ st'=>(arrOf st').Perm (pairsOf (v₁ :: v₂ :: rest))/\failedOf st'=none/\SortedTo (arrOf st') (pairsOf (v₁ :: v₂ :: rest)).size)
   hI.intKeys rfl rfl rfl (by show 0 < (pairsOf (v₁ :: v₂ :: rest)).size;rw[rJ];simp) fun st' a1 a2 a3=>⟨a1,a2,a3⟩) ?_ fun _ _ e=>e)
  rintro ⟨⟨⟩,st'⟩ s' ⟨rfl,hp',hf,hs⟩
  exact fin st' hp' hs hf
end
end SO
namespace MR
open PySem PySem.Spec PyProof.Rows PySem.Calls L2 SO
noncomputable def Yv(ns:List Int):List Int:=ns.mergeSort (fun a b=>decide (a<=b))
theorem Gz(ns:List Int):(Yv ns).Perm ns:=List.mergeSort_perm _ _
theorem U6(ns:List Int):(Yv ns).Pairwise (·<=·):=by
 have:=List.pairwise_mergeSort (le:=fun a b:Int=>decide (a<=b)) (fun a b c h1 h2=>by simp at h1 h2 ⊢;omega) (fun a b=>by simp;omega) ns
 exact this.imp fun h=>by simpa using h
theorem Y2{a b:List Int}(h:a.Perm b)(ha:a.Pairwise (·<=·))(hb:b.Pairwise (·<=·)):a=b:=
 h.eq_of_pairwise (fun x y _ _ h1 h2=>Int.le_antisymm h1 h2) ha hb
theorem Af1{a b:List Int}(h:a.Perm b)(hb:b.Pairwise (·<=·)):Yv a=b:=Y2 ((Gz a).trans h) (U6 a) hb
section
variable {X:Cx}
end
end MR
namespace SW
open PySem
noncomputable def Rs(xs:Array Nat):Prop:=xs.toList.Pairwise (· < ·)
theorem Acj{xs:Array Nat}(h:Rs xs){i j:Nat}(hij:i < j)(hj:j < xs.size):xs[i]'(by omega) < xs[j]:=by
 have:=dI.mp h i j (by simpa using (by omega:i < xs.size)) (by simpa using hj) hij
 simpa using this
theorem Ajs{xs:Array Nat}(h:Rs xs){i j:Nat}(hij:i<=j)(hj:j < xs.size):xs[i]'(by omega)<=xs[j]:=by
 rcases qN hij with g | g
 ·exact lW (Acj h g hj)
 ·subst g;exact aN _
theorem Af0{xs:Array Nat}(h:Rs xs)(j:Nat):∀ (fuel lo hi:Nat),hi - lo<=fuel->lo<=hi->hi<=xs.size->(∀ i (_:i < xs.size),i < lo->xs[i] < j)->(∀ i (_:i < xs.size),hi<=i->j<=xs[i]) ->
  iP xs j fuel lo hi<=xs.size/\(∀ i (_:i < xs.size),i < iP xs j fuel lo hi->xs[i] < j)/\(∀ i (_:i < xs.size),iP xs j fuel lo hi<=i->j<=xs[i]):=by
 intro fuel
 induction fuel with
 | zero=>
  intro lo hi h1 h2 h3 h4 h5
  have:lo=hi:=by omega
  subst this
  unfold iP
  exact ⟨h3,h4,h5⟩
 | succ n ih=>
  intro lo hi h1 h2 h3 h4 h5
  unfold iP
  split
  ·rename_i hlt
   have hm:(lo+hi) / 2 < xs.size:=by omega
   have e:xs.getD ((lo+hi) / 2) j=xs[(lo+hi) / 2]:=by simp[Array.getD,hm]
   dsimp only
   rw[e]
   split
   ·rename_i hx
    exact ih _ _ (by omega) (by omega) h3 (fun i hi' hlt'=>Nat.lt_of_le_of_lt (Ajs h (by omega) hm) hx) h5
   ·rename_i hx
    exact ih _ _ (by omega) (by omega) (by omega) h4 (fun i hi' hle=>dN (Nat.not_lt.mp hx) (Ajs h hle hi'))
  ·have:lo=hi:=by omega
   subst this
   exact ⟨h3,h4,h5⟩
theorem Pw{xs:Array Nat}(h:Rs xs)(j:Nat):cU xs j<=xs.size/\(∀ i (_:i < xs.size),i < cU xs j->xs[i] < j)/\(∀ i (_:i < xs.size),cU xs j<=i->j<=xs[i]):=by
 unfold cU
 exact Af0 h j _ _ _ (by omega) (eR _) (aN _) (fun i _ h=>by omega) (fun i h1 h2=>by omega)
theorem Xc{xs:Array Nat}(h:Rs xs):cU xs 0=0:=by
 obtain ⟨a,b,c⟩:=Pw h 0
 rcases qO (cU xs 0) with e | e
 ·exact e
 ·exact absurd (b 0 (by omega) e) (Nat.not_lt_zero _)
theorem W7{xs:Array Nat}(h:Rs xs){i:Nat}(hi:i < xs.size):cU xs (xs[i]+1)=i+1:=by
 obtain ⟨a,b,c⟩:=Pw h (xs[i]+1)
 rcases rK (cU xs (xs[i]+1)) (i+1) with e | e | e
 ·have:=c i hi (by omega);omega
 ·exact e
 ·have h1:=b (i+1) (by omega) e
  have h2:=Acj h (i:=i) (j:=i+1) (by omega) (by omega)
  omega
theorem Amj{xs:Array Nat}(h:Rs xs){j:Nat}(hn:xs[cU xs j]?≠some j):Rs (fQ.insertAt xs (cU xs j) j):=by
 obtain ⟨a,b,c⟩:=Pw h j
 unfold Rs
 rw[fQ.toList_insertAt]
 have hh:xs.toList.Pairwise (· < ·):=h
 rw[pO]
 refine ⟨hh.sublist (qW ..),mL.mpr ⟨fun y hy=>?_,hh.sublist (List.drop_sublist ..)⟩,fun x hx y hy=>?_⟩
 ·obtain ⟨i,hi,rfl⟩:=hU hy
  rw[mZ]
  rw[jB,cF] at hi
  have h1:=c (cU xs j+i) (by omega) (by omega)
  rw[lC]
  rcases qN h1 with g | g
  ·exact g
  ·exfalso
   rcases qO i with e | e
   ·subst e
    exact hn (by rw[dJ (by omega)];exact congrArg some g.symm)
   ·have h2:=Acj h (by omega:cU xs j < cU xs j+i) (by omega)
    have h3:=c (cU xs j) (by omega) (aN _)
    omega
 ·obtain ⟨i,hi,rfl⟩:=hU hx
  rw[fK,cF] at hi
  rw[rF,lC]
  have h1:=b i (by omega) (by omega)
  rcases cI.mp hy with e | e
  ·rw[e];exact h1
  ·obtain ⟨k,hk,rfl⟩:=hU e
   rw[jB,cF] at hk
   rw[mZ,lC]
   have:=c (cU xs j+k) (by omega) (by omega)
   omega
theorem Aag(j:Nat):rL #[] j=false:=by
 unfold rL
 simp
theorem Wv{t:fQ}{j:Nat}(hd:t.dummies=#[])(h:t.slot j = .empty):t.place[cU t.place j]?≠some j:=by
 unfold tX at h
 dsimp only at h
 intro e
 rw[e] at h
 simp at h
theorem Vx{t:fQ}{j:Nat}(hd:t.dummies=#[]):t.slot j≠.dummy:=by
 unfold tX
 dsimp only
 rw[hd,Aag]
 split <;> simp
theorem Tc{t:fQ}(hd:t.dummies=#[]){f:Nat->Int}{h:Int}:∀ (fuel:Nat) (p:fQ.Probe) {j:Nat} {d:Option Nat},p.dummy=none->nA t f h fuel p=some (.empty j d)->t.slot j = .empty/\d=none:=by
 intro fuel
 induction fuel with
 | zero=>intro p j d _ e;unfold nA at e;cases e
 | succ n ih=>
  intro p j d hp e
  unfold nA at e
  have ha:(t.advance p).dummy=none:=by
   unfold fQ.advance
   split
   ·exact hp
   ·exact hp
  cases hs:t.slot p.j with
  | empty=>rw[hs] at e;simp only[rM,fQ.Met.empty.injEq] at e;obtain ⟨rfl,rfl⟩:=e;exact ⟨hs,hp⟩
  | dummy=>exact absurd hs (Vx hd)
  | live i=>
   rw[hs] at e
   dsimp only at e
   split at e
   ·cases e
   ·exact ih _ ha e
theorem Agk{t:fQ}(hd:t.dummies=#[]){h:Int}{j:Nat}{b:Bool}(e:t.freeSlot h=some (j,b)):t.slot j = .empty:=by
 unfold fQ.freeSlot at e
 split at e
 ·rename_i j' d hp
  unfold fQ.probe at hp
  obtain ⟨h1,h2⟩:=Tc hd _ _ (show (t.probeStart h).dummy=none from rfl) hp
  subst h2
  cases e
  exact h1
 ·cases e
structure Tb(t:fQ)(led:Bool):Prop where
 rs:Rs t.place
 du:t.dummies=#[]
 le:t.led=led
theorem Ae3(led:Bool):Tb (.fresh 0 0 led) led:=⟨qY,rfl,rfl⟩
theorem Mh{t:fQ}{led:Bool}(h:Tb t led)(n:Nat):Tb (t.standIn n) led:=by
 refine ⟨?_,rfl,h.le⟩
 show (Array.range n).toList.Pairwise (· < ·)
 rw[Array.toList_range]
 exact List.pairwise_lt_range
theorem Ao3{t:fQ}{led:Bool}(h:Tb t led)(n:Nat):Tb (t.orStandIn n) led:=by
 unfold fQ.orStandIn
 split
 ·exact h
 ·exact Mh h n
theorem Al3{t:fQ}{led:Bool}(h:Tb t led)(es:Array (Int×aC))(k:Int)(x:aC):Tb (layNew t es k x).2.1 led:=by
 unfold layNew
 split
 ·rename_i j b e
  have hs:=Wv h.du (Agk h.du e)
  refine Ao3 (t:=(t.put j).1) ⟨?_,?_,h.le⟩ _
  ·exact Amj h.rs hs
  ·show (if rL t.dummies j then _ else t.dummies)=#[]
   rw[h.du,Aag]
   rfl
 ·exact Mh h _
theorem Aci{t:fQ}{led:Bool}(h:Tb t led)(es:Array (Int×aC))(n:Nat):Tb (relayAll t es n).2.1 led:=by
 unfold relayAll
 split
 ·rename_i t' order e
  dsimp only
  split
  ·unfold fQ.relaid fQ.laid at e
   obtain ⟨ow,_,e⟩:=aA.mp e
   simp only[Option.pure_def,rM,Prod.mk.injEq] at e
   obtain ⟨rfl,_⟩:=e
   refine ⟨?_,rfl,h.le⟩
   show (List.map _ _).Pairwise (· < ·)
   rw[List.pairwise_map,List.pairwise_filterMap]
   refine List.pairwise_lt_range.imp fun {a b} hab x hx y hy=>?_
   obtain ⟨_,_,rfl⟩:=aK.mp hx
   obtain ⟨_,_,rfl⟩:=aK.mp hy
   exact hab
  ·exact Mh h _
 ·exact Mh h _
theorem Vi{t:fQ}{led:Bool}(h:Tb t led):Tb { t with plain:=false } led:=⟨h.rs,h.du,h.le⟩
theorem Ahj{α:Type}(f:Nat->Nat):∀ (fuel k:Nat) (left:List α) (out:Array α),fuel=left.length->(rN f fuel k left out).toList.Perm (out.toList++left):=by
 intro fuel
 induction fuel with
 | zero=>
  intro k left out e
  have:left=[]:=jV.mp e.symm
  subst this
  unfold rN
  simp
 | succ n ih=>
  intro k left out e
  unfold rN
  have hl:f k % left.length < left.length:=Nat.mod_lt _ (by omega)
  rw[aH hl]
  dsimp only
  refine (ih _ _ _ (by rw[pS,if_pos hl];omega)).trans ?_
  rw[dU,bA]
  refine kL _ ?_
  rw[kI,List.singleton_append]
  have e2:left=left.take (f k % left.length)++left[f k % left.length]::left.drop (f k % left.length+1):=by rw[oM,cG]
  exact (sD.symm).trans (oV e2.symm)
theorem Mr{α:Type}(f:Nat->Nat)(xs:Array α):(pickOrder f xs).toList.Perm xs.toList:=by
 unfold pickOrder
 have:=Ahj f xs.size 0 xs.toList #[] (by simp)
 simpa using this
end SW
namespace SW
open PySem PySem.Spec PyProof.Rows
noncomputable def kOf:aC->Int
 | .int k _=>k
 | _=>0
noncomputable def Aiv(es:Array (Int×aC)):Prop:=∀ e∈es.toList,∃ k tk,e=(hashInt k,jT k tk)
noncomputable def IsSet(h:Heap)(a:Addr)(led:Bool)(σ:List Int):Prop:=
 ∃ o es ep t,h.get? a=some o/\o.ExactSet/\o.data = .set es ep t/\Aiv es/\(es.toList.map fun e=>kOf e.2).Perm σ/\es.size < scanBound/\t.fits es.size=true/\Tb t led
noncomputable def Ez(σ:List Int)(k:Int):List Int:=if k∈σ then σ else σ ++ [k]
theorem Abr(σ:List Int)(k:Int):(Ez σ k).length<=σ.length+1:=by
 unfold Ez;split
 ·omega
 ·simp
theorem Yc{h:Heap}{a:Addr}{o:Obj}{es:Array (Int×aC)}{ep:Nat}{t:fQ}(ho:h.get? a=some o)(hd:o.data = .set es ep t)(fs:Array (Int×aC))(u:fQ) :
  (h.update a (tN fs u)).get? a=some { o with data:=.set fs (ep+1) u }:=by
 have q:=fH (tN fs u) ho (by rw[putSet_of fs u hd];rfl)
 rw[putSet_of fs u hd] at q
 exact q
section
variable {prog:bQ}{w:cC}{A:cL}{E:aC->aG->Prop}{s:aG}{led:Bool}{σ:List Int}{a:Addr}
theorem An7{es:Array (Int×aC)}(h:Aiv es):ElemsOf (intKind prog w) es.toList:=fun e he=>by
 obtain ⟨k,tk,rfl⟩:=h e he
 exact ⟨⟨k,oN _ _ _ _,rfl⟩,rfl⟩
theorem Tg{g:Bool->Sem Unit}(hg:∀ (b:Bool) (r:aG) (Q:Unit->aG->Prop),Q () r->wpAny (model prog w) A (g b) Q E r){o:Obj}{es:Array (Int×aC)}{ep:Nat}{t:fQ}
  (ho:s.heap.get? a=some o) (hex:o.ExactSet) (hd:o.data = .set es ep t) {fs:Array (Int×aC)} {u:fQ} (he:Aiv fs) (hp:(fs.toList.map fun e=>kOf e.2).Perm σ) (hb:fs.size < scanBound) (hf:u.fits fs.size=true) (htb:Tb u led) {was:Bool} {R:Option Bool->aG->Prop}
  (h:∀ h',iE a s.heap h'->IsSet h' a led σ->R (some true) { s with heap:=h' }) :
  wpAny (model prog w) A (do
    storeSet a fs u
    if (!was&&u.tooFull)=true then do
      g (relayAll u fs (iD fs.size)).2.2
      storeSet a (relayAll u fs (iD fs.size)).1 (relayAll u fs (iD fs.size)).2.1
      pure (some true)
     else pure (some true)) R E s:=by
 refine aB (rO ho hd ?_ (nB hb))
 have g1:=Yc ho hd fs u
 have sb1:=dR s.heap a (tN fs u)
 split
 ·have hpr:=relayAll_perm u fs (iD fs.size)
  have hfr:=relayAll_fits u fs (iD fs.size)
  have htr:=Aci htb fs (iD fs.size)
  generalize relayAll u fs (iD fs.size)=Rl at hpr hfr htr ⊢
  obtain ⟨fs2,u2,gv⟩:=Rl
  dsimp only at hpr hfr htr ⊢
  have hsz:fs2.size=fs.size:=by rw[<- cF,hpr.length_eq,cF]
  refine aB (hg _ _ _ (aB (rO g1 rfl (aJ (h _ (sb1.trans (dR _ a _)) ?_)) (nB (by rw[hsz];exact hb)))))
  exact ⟨_,fs2,ep+1+1,u2,Yc g1 rfl fs2 u2,hex,rfl,fun e he'=>he e (hpr.mem_iff.mp he'),(hpr.map _).trans hp,by rw[hsz];exact hb,hfr,htr⟩
 ·exact aJ (h _ sb1 ⟨_,fs,ep+1,u,g1,hex,rfl,he,hp,hb,hf,htb⟩)
theorem Apx{k:Int}{tk:Tok}{Q:Bool->aG->Prop}(hS:IsSet s.heap a led σ)(hb:σ.length+1 < scanBound)
  (h:∀ h' b,iE a s.heap h'->IsSet h' a led (Ez σ k)->Q b { s with heap:=h' }):wpAny (model prog w) A (setAddHashed a (.int k tk) (hashInt k)) Q E s:=by
 obtain ⟨o,es,ep,t,ho,hex,hd,hel,hp,hbs,hf,htb⟩:=hS
 have hlen:es.size = σ.length:=by rw[<- hp.length_eq,cH,cF]
 have hE:=An7 (prog:=prog) (w:=w) hel
 have hmem:k∈σ↔∃ e∈es.toList,(intKind prog w).is k e.2=true:=by
  rw[<- hp.mem_iff,oO]
  constructor
  ·rintro ⟨e,he,q⟩
   obtain ⟨k',tk',rfl⟩:=hel e he
   have:k'=k:=q
   subst this
   exact ⟨_,he,oN _ _ _ _⟩
  ·rintro ⟨e,he,q⟩
   obtain ⟨k',tk',rfl⟩:=hel e he
   exact ⟨_,he,((intKind prog w).inj _ _ _ q (oN _ _ _ _)).symm⟩
 unfold setAddHashed setAddHashedIn
 refine eG (aB (fS ho hd hf ?_))
 dsimp only
 rw[byScan_of (knd:=intKind prog w) (x:=.int k tk) rfl hbs hE]
 simp only[↓reduceIte]
 unfold setAddByScan
 refine aB (aB (eY (aB (wpAny_setScan_of (knd:=intKind prog w) (k:=k) (oN _ _ _ _) ho hd hf hE ?_))))
 cases hr:List.findIdx? (fun e=>(intKind prog w).is k e.2) es.toList with
 | some j=>
  dsimp only
  obtain ⟨hj,hpj,_⟩:=List.findIdx?_eq_some_iff_getElem.mp hr
  have hk:k∈σ:=hmem.mpr ⟨_,eT hj,hpj⟩
  refine aJ (aJ ?_)
  have e:s = { s with heap:=s.heap }:=by cases s;rfl
  rw[e]
  refine h s.heap _ (iE.refl a s.heap) ?_
  unfold Ez;rw[if_pos hk]
  exact ⟨o,es,ep,t,ho,hex,hd,hel,hp,hbs,hf,htb⟩
 | none=>
  dsimp only
  have hk:k∉σ:=fun hk=>by
   obtain ⟨e,he,q⟩:=hmem.mp hk
   have:=List.findIdx?_eq_none_iff.mp hr e he
   rw[q] at this
   exact Bool.noConfusion this
  have hgw:∀ (b:Bool) {r:aG} {Q':Unit->aG->Prop},Q' () r->wpAny (model prog w) A (match b with | true=>rule "set.scan.the-table-gave-way" | false=>pure ()) Q' E r:=
   fun b r Q' hq=>by cases b <;> first | exact aJ hq | exact eY hq
  have hpm:=layNew_perm t es (hashInt k) (.int k tk)
  have hfi:=layNew_fits t es (hashInt k) (.int k tk)
  have ht1:=Al3 htb es (hashInt k) (.int k tk)
  show wpAny (model prog w) A (_ >>= _) _ _ _
  generalize hL:layNew t es (hashInt k) (.int k tk)=L at hpm hfi ht1
  obtain ⟨fs,u,was,gave⟩:=L
  have hL':layNew t es ((intKind prog w).hash k) (.int k tk)=(fs,u,was,gave):=hL
  try rw[hL']
  try rw[hL]
  dsimp only at hpm hfi ht1 ⊢
  rw[dU] at hpm
  have hsz:fs.size = σ.length+1:=by rw[<- cF,hpm.length_eq,eD,cF,hlen];rfl
  have he1:Aiv fs:=fun e he=>by
   rcases dY.mp (hpm.mem_iff.mp he) with q | q
   ·exact hel e q
   ·rw[bX] at q;subst q;exact ⟨k,tk,rfl⟩
  have hp1:(fs.toList.map fun e=>kOf e.2).Perm (Ez σ k):=by
   unfold Ez;rw[if_neg hk]
   refine (hpm.map _).trans ?_
   rw[lQ]
   exact List.Perm.append hp (iC _)
  refine aB (hgw _ ?_)
  split
  ·refine aB ?_
   rw[hashByValue_scannable 8 (x:=.int k tk) rfl]
   refine aJ ?_
   refine Tg (led:=led) ?_ ho hex hd he1 hp1 (by omega) ?_ ?_ ?_
   ·exact fun b=>by cases b <;> first | exact fun r Q' hq=>aJ hq | exact fun r Q' hq=>eY hq
   ·split
    ·exact hfi
    ·exact oA hfi
   ·split
    ·exact ht1
    ·exact Vi ht1
   ·exact fun h' sb i=>aJ (h h' _ sb i)
  ·refine aB (aJ ?_)
   refine Tg (led:=led) ?_ ho hex hd he1 hp1 (by omega) ?_ ?_ ?_
   ·exact fun b=>by cases b <;> first | exact fun r Q' hq=>aJ hq | exact fun r Q' hq=>eY hq
   ·first | exact hfi | (split <;> first | exact hfi | exact oA hfi)
   ·first | exact ht1 | (split <;> first | exact ht1 | exact Vi ht1)
   ·exact fun h' sb i=>aJ (h h' _ sb i)
end
theorem Tf:Manifest.owners.lookup (String.ofList ['r','o','t','a','r','e','t','i','_','t','e','s'].reverse)=some Manifest.sig_set_iterator:=by kernel_rfl
theorem Bw:Slot "set_iterator" "__next__" "set_iterator.__next__" :=
 .of (owner := "set_iterator") (n := "__next__") (by rw[typeLookup_type,pD];kernel_rfl) (by decide +kernel) (by decide +kernel) (by decide +kernel) (by first | exact .inl (by decide +kernel) | exact .inr (by decide +kernel)) (by rw[pT];kernel_rfl)
theorem Fh:entryFor table "set_iterator.__next__" = some gD.«set_iterator.__next__» := entryFor_of_tree (by kernel_rfl)
theorem Gh(a:aC):argsOk "set_iterator.__next__" ⟨[a],[]⟩:=by
 unfold argsOk;rw[signature?_of (id := "set_iterator.__next__") (n:=['_','_','t','x','e','n','_','_']) (o:=['r','o','t','a','r','e','t','i','_','t','e','s']) (by kernel_rfl) Tf];kernel_rfl
theorem K8:Slot "set_iterator" "__iter__" "set_iterator.__iter__" :=
 .of (owner := "set_iterator") (n := "__iter__") (by rw[typeLookup_type,pD];kernel_rfl) (by decide +kernel) (by decide +kernel) (by decide +kernel) (by first | exact .inl (by decide +kernel) | exact .inr (by decide +kernel)) (by rw[pT];kernel_rfl)
theorem Rp(a:aC):argsOk "set_iterator.__iter__" ⟨[a],[]⟩:=by
 unfold argsOk;rw[signature?_of (id := "set_iterator.__iter__") (n:=['_','_','r','e','t','i','_','_']) (o:=['r','o','t','a','r','e','t','i','_','t','e','s']) (by kernel_rfl) Tf];kernel_rfl
theorem Qe:entryFor table "set_iterator.__iter__" = some gD.«dict_keyiterator.__iter__» :=
 entryFor_alias (id' := "dict_keyiterator.__iter__") (by kernel_rfl) (by first | rfl | decide +kernel | (unfold tO;simp +decide [rP])) (by decide +kernel) (by kernel_rfl)
theorem Sz:entryFor table "set.__iter__" = some gD.«frozenset.__iter__» :=
 entryFor_alias (id' := "frozenset.__iter__") (by kernel_rfl) (by first | rfl | decide +kernel | (unfold tO;simp +decide [rP])) (by decide +kernel) (by kernel_rfl)
noncomputable def itO(first:aC)(i:Int)(a:Addr)(n ep:Nat):Obj:={ cls:=.type "set_iterator",dict:=none,data:=.fields #[first,rawInt i,.ref a,rawInt n,rawInt ep],slots:=#[] }
noncomputable def SetAt(h:Heap)(a:Addr)(es:Array (Int×aC))(ep:Nat)(t:fQ):Prop:=∃ o,h.get? a=some o/\o.ExactSet/\o.data = .set es ep t
section
variable {prog:bQ}{w:cC}{A:cL}{E:aC->aG->Prop}{s:aG}{a I:Addr}{es:Array (Int×aC)}{ep:Nat}{t:fQ}
theorem N3{Q:Bool->aG->Prop}(h:Q (w.params.followText "set-order") s):wpAny (model prog w) A setsByText Q E s:=by
 unfold setsByText
 exact aB (oB (aJ h))
theorem G1{Q:Array (Int×aC)->aG->Prop}(hS:SetAt s.heap a es ep t)(hf:t.fits es.size=true)(h:Q es s):wpAny (model prog w) A (setEntries a) Q E s:=by
 obtain ⟨o,ho,hex,hd⟩:=hS
 unfold setEntries
 exact aB (fS ho hd hf (aJ h))
theorem Rg{slot i:Nat}{Q:Option (aC×Nat)->aG->Prop}(hS:SetAt s.heap a es ep t)(hf:t.fits es.size=true)(hb:w.params.followText "set-order" = true)
  (h:Q (((pickOrder (w.params.setOrder a ep) es)[i]?).map fun e=>(e.2,slot)) s):wpAny (model prog w) A (setNext a slot i ep) Q E s:=by
 obtain ⟨o,ho,hex,hd⟩:=hS
 unfold setNext
 refine aB (fS ho hd hf (aB (N3 ?_)))
 rw[hb]
 simp only[if_true,bne_self_eq_false,bL,if_false]
 refine aB ?_
 unfold setWalk
 refine aB (fS ho hd hf (aB (N3 ?_)))
 rw[hb]
 simp only[if_true]
 exact aB (oB (aJ (aJ h)))
theorem Ub{slot i k:Nat}{Q:Option (aC×Nat)->aG->Prop}(hS:SetAt s.heap a es ep t)(hf:t.fits es.size=true)(hb:w.params.followText "set-order" = false)(hd':(!t.plain&&decide (es.size > 1))=false)(hl:t.led=true)
  (h:Q (match es[cU t.place slot]?,t.place[cU t.place slot]? with
   | some (_,x),some j=>some (x,j+1)
   | _,_=>none) s):wpAny (model prog w) A (setNext a slot i k) Q E s:=by
 obtain ⟨o,ho,hex,hd⟩:=hS
 unfold setNext
 refine aB (fS ho hd hf (aB (N3 ?_)))
 rw[hb]
 simp only[bL,if_false]
 show wpAny _ _ (if (!t.plain&&decide (es.size > 1))=true then _ else _) _ _ _
 rw[hd',if_neg (by simp)]
 show wpAny _ _ ((if (!t.led && !es.isEmpty)=true then _ else _) >>= _) _ _ _
 rw[hl]
 simp only[qF,pJ,bL,if_false]
 exact aB (aJ (aJ h))
theorem Vu{k:Nat}{x:Int×aC}{Q:aC->aG->Prop}(hS:SetAt s.heap a es ep t)(hf:t.fits es.size=true)(hx:es[k]? = some x)(h:Q x.2 s):wpAny (model prog w) A (setNextDrawn a k ep) Q E s:=by
 obtain ⟨o,ho,hex,hd⟩:=hS
 unfold setNextDrawn
 refine aB (fS ho hd hf ?_)
 simp only[bne_self_eq_false,bL,if_false,hx]
 exact aJ h
end
section
variable {prog:bQ}{w:cC}{A:cL}{E:aC->aG->Prop}{s:aG}{a I T:Addr}{es:Array (Int×aC)}{ep:Nat}{t:fQ}
theorem Me{first:aC}{i:Int}{n:Nat}(hI:s.heap.get? I=some (itO first i a n ep)):s.TypeIs (.ref I) "set_iterator" := ⟨_,hI,rfl⟩
theorem Uc{slot i nx:Nat}{x:aC}{Q:Option aC->aG->Prop}(hI:s.heap.get? I=some (itO (rawInt slot) i a es.size ep))(hS:SetAt s.heap a es ep t)(hf:t.fits es.size=true)
  (hn:∀ (B:cL) (E':aC->aG->Prop) (Q':Option (aC×Nat)->aG->Prop),Q' (some (x,nx)) s->wpAny (model prog w) B (setNext a slot i ep) Q' E' s)
  (hQ:∀ h',h'.get? I=some (itO (rawInt nx) ((i:Int)+1) a es.size ep)->(∀ b o,b≠I->s.heap.get? b=some o->h'.get? b=some o)->Q (some x) { s with heap:=h' }):wpAny (model prog w) A (pyNext (.ref I)) Q E s:=by
 have hT:=Me hI
 unfold pyNext
 refine aB (gI (dG (name:=eK "__next__") hT Bw (dM Bw hT Fh ?_ (Gh _))))
 unfold gD.«set_iterator.__next__»
 refine aB (gH (a:=(cP I,[])) rfl ?_)
 dsimp only
 refine aB (mO hI rfl ?_)
 show wpAny _ _ (setEntries a >>= _) _ _ _
 refine aB (G1 hS hf ?_)
 simp only[bne_self_eq_false,bL,if_false]
 show wpAny _ _ (setNext a ((slot:Int)).toNat ((i:Int)).toNat ((ep:Int)).toNat >>= _) _ _ _
 rw[cO,cO,cO]
 refine aB (hn _ _ _ ?_)
 dsimp only
 refine aB (dE hI (by simp) fun h1 e1 k1=>?_)
 refine aB (dE (s:={ s with heap:=h1 }) e1 (by simp) fun h2 e2 k2=>?_)
 first
 | refine aJ ⟨x,rfl,aJ (hQ h2 ?_ fun b o hb e=>k2.extBut b o hb (k1.extBut b o hb e))⟩
 | refine aB (aJ (aJ ⟨x,rfl,aJ (hQ h2 ?_ fun b o hb e=>k2.extBut b o hb (k1.extBut b o hb e))⟩))
 rw[e2]
 rfl
theorem Yb{slot i:Nat}{Q:Option aC->aG->Prop}(hh:A.handled=none)(hI:s.heap.get? I=some (itO (rawInt slot) i a es.size ep))(hS:SetAt s.heap a es ep t)(hf:t.fits es.size=true)
  (hn:∀ (B:cL) (E':aC->aG->Prop) (Q':Option (aC×Nat)->aG->Prop),Q' none s->wpAny (model prog w) B (setNext a slot i ep) Q' E' s)
  (hQ:∀ h',(∀ b o,b≠I->s.heap.get? b=some o->h'.get? b=some o)->Q none { s with heap:=h' }):wpAny (model prog w) A (pyNext (.ref I)) Q E s:=by
 have hT:=Me hI
 unfold pyNext
 refine aB (gI (dG (name:=eK "__next__") hT Bw (dM Bw hT Fh ?_ (Gh _))))
 unfold gD.«set_iterator.__next__»
 refine aB (gH (a:=(cP I,[])) rfl ?_)
 dsimp only
 refine aB (mO hI rfl ?_)
 show wpAny _ _ (setEntries a >>= _) _ _ _
 refine aB (G1 hS hf ?_)
 simp only[bne_self_eq_false,bL,if_false]
 show wpAny _ _ (setNext a ((slot:Int)).toNat ((i:Int)).toNat ((ep:Int)).toNat >>= _) _ _ _
 rw[cO,cO,cO]
 refine aB (hn _ _ _ ?_)
 dsimp only
 refine aB (dE hI (by simp) fun h1 e1 k1=>?_)
 refine aB ?_
 simp only[newExc,newTuple]
 refine aB (dB ?_ (by size_fits))
 refine aB (m:=firstArgMember _ _) (gH (a:=eA) (by first | rfl | (simp only[firstArgMember];rfl)) ?_)
 refine dB ?_ (by size_fits)
 simp only[raiseNew]
 refine aB (qE ?_)
 first | rw[show A.in1.handled=none from hh] | rw[hh]
 refine aB (aJ (sI ?_))
 refine aB (jA (T := "StopIteration") (b:=true) ⟨_,aP _ rfl,rfl⟩ mJ ?_)
 exact aJ (hQ _ fun b o hb e=>aF _ (aF _ (k1.extBut b o hb e)))
theorem Ad2{ps:List Nat}{i k:Nat}{x:Int×aC}{Q:Option aC->aG->Prop}(hI:s.heap.get? I=some (itO (.ref T) i a es.size ep))(hS:SetAt s.heap a es ep t)(hf:t.fits es.size=true)
  (hT':s.heap.IsTuple T (ps.map fun (k:Nat)=>rawInt k).toArray) (hk:ps[i]? = some k) (hx:es[k]? = some x)
  (hQ:∀ h',h'.get? I=some (itO (.ref T) ((i:Int)+1) a es.size ep)->(∀ b o,b≠I->s.heap.get? b=some o->h'.get? b=some o)->Q (some x.2) { s with heap:=h' }):wpAny (model prog w) A (pyNext (.ref I)) Q E s:=by
 have hT:=Me hI
 obtain ⟨ot,hot,_,nt,hdt⟩:=hT'
 unfold pyNext
 refine aB (gI (dG (name:=eK "__next__") hT Bw (dM Bw hT Fh ?_ (Gh _))))
 unfold gD.«set_iterator.__next__»
 refine aB (gH (a:=(cP I,[])) rfl ?_)
 dsimp only
 refine aB (mO hI rfl ?_)
 show wpAny _ _ (setEntries a >>= _) _ _ _
 refine aB (G1 hS hf ?_)
 simp only[bne_self_eq_false,bL,if_false]
 show wpAny _ _ (seqItems? (.ref T) >>= _) _ _ _
 refine aB (eX hot hdt ?_)
 have e1:((ps.map fun (k:Nat)=>rawInt k).toArray)[((i:Int)).toNat]? = some (rawInt k):=by
  rw[cO,pE,cB,hk];rfl
 dsimp only
 rw[e1]
 show wpAny _ _ (setNextDrawn a ((k:Int)).toNat ((ep:Int)).toNat >>= _) _ _ _
 rw[cO,cO]
 refine aB (Vu hS hf hx ?_)
 refine aB (dE hI (by simp) fun h1 e1 k1=>?_)
 first
 | refine aJ ⟨x.2,rfl,aJ (hQ h1 ?_ fun b o hb e=>k1.extBut b o hb e)⟩
 | refine aB (aJ (aJ ⟨x.2,rfl,aJ (hQ h1 ?_ fun b o hb e=>k1.extBut b o hb e)⟩))
 rw[e1]
 rfl
theorem Ah2{ps:List Nat}{i:Nat}{Q:Option aC->aG->Prop}(hh:A.handled=none)(hI:s.heap.get? I=some (itO (.ref T) i a es.size ep))(hS:SetAt s.heap a es ep t)(hf:t.fits es.size=true)
  (hT':s.heap.IsTuple T (ps.map fun (k:Nat)=>rawInt k).toArray) (hk:ps[i]? = none)
  (hQ:∀ h',(∀ b o,b≠I->s.heap.get? b=some o->h'.get? b=some o)->Q none { s with heap:=h' }):wpAny (model prog w) A (pyNext (.ref I)) Q E s:=by
 have hT:=Me hI
 obtain ⟨ot,hot,_,nt,hdt⟩:=hT'
 unfold pyNext
 refine aB (gI (dG (name:=eK "__next__") hT Bw (dM Bw hT Fh ?_ (Gh _))))
 unfold gD.«set_iterator.__next__»
 refine aB (gH (a:=(cP I,[])) rfl ?_)
 dsimp only
 refine aB (mO hI rfl ?_)
 show wpAny _ _ (setEntries a >>= _) _ _ _
 refine aB (G1 hS hf ?_)
 simp only[bne_self_eq_false,bL,if_false]
 show wpAny _ _ (seqItems? (.ref T) >>= _) _ _ _
 refine aB (eX hot hdt ?_)
 have e1:((ps.map fun (k:Nat)=>rawInt k).toArray)[((i:Int)).toNat]? = none:=by
  rw[cO,pE,cB,hk];rfl
 dsimp only
 rw[e1]
 dsimp only
 refine aB (dE hI (by simp) fun h1 e1 k1=>?_)
 refine aB (dE (s:={ s with heap:=h1 }) e1 (by simp) fun h2 e2 k2=>?_)
 refine aB ?_
 simp only[newExc,newTuple]
 refine aB (dB ?_ (by size_fits))
 refine aB (m:=firstArgMember _ _) (gH (a:=eA) (by first | rfl | (simp only[firstArgMember];rfl)) ?_)
 refine dB ?_ (by size_fits)
 simp only[raiseNew]
 refine aB (qE ?_)
 first | rw[show A.in1.handled=none from hh] | rw[hh]
 refine aB (aJ (sI ?_))
 refine aB (jA (T := "StopIteration") (b:=true) ⟨_,aP _ rfl,rfl⟩ mJ ?_)
 exact aJ (hQ _ fun b o hb e=>aF _ (aF _ (k2.extBut b o hb (k1.extBut b o hb e))))
theorem R6{first:aC}{i:Int}{n:Nat}{Q:aC->aG->Prop}(hI:s.heap.get? I=some (itO first i a n ep))(h:Q (.ref I) s):wpAny (model prog w) A (pyIter (.ref I)) Q E s:=by
 have hT:=Me hI
 refine rQ hT K8 (dM K8 hT Qe ?_ (Rp _))
 show wpAny _ _ (ret (.ref I)) _ _ s
 exact aJ ⟨_,rfl,"set_iterator",_,hT,Bw.lookup,h⟩
end
section
variable {prog:bQ}{w:cC}{A:cL}{E:aC->aG->Prop}{s:aG}{a I T:Addr}{es:Array (Int×aC)}{ep:Nat}{t:fQ}
theorem SetAt.at{h h':Heap}(x:SetAt h a es ep t)(e:∀ o,h.get? a=some o->h'.get? a=some o):SetAt h' a es ep t:=let ⟨o,ho,r⟩:=x;⟨o,e _ ho,r⟩
noncomputable def PI(xs:List (Int×aC))(i:Nat)(v:aC):Prop:=∃ e,xs[i]? = some e/\v=e.2
theorem Aa1(hh:A.handled=none)(hf:t.fits es.size=true)(hb:w.params.followText "set-order" = true)(hne:a≠I) :
  Walks prog w A I [I,a] [I] es.size (PI (pickOrder (w.params.setOrder a ep) es).toList) (fun i h=>h.get? I=some (itO (rawInt (0:Nat)) i a es.size ep)/\SetAt h a es ep t) where
 sub:=fun b hb=>by simp at hb;simp[hb]
 frame:=fun _ _ _ st hk=>⟨hk I (by simp) _ st.1,st.2.at fun o e=>hk a (by simp) o e⟩
 item:=fun i s Q E hi st hQ=>by
  have hl:(pickOrder (w.params.setOrder a ep) es).toList.length=es.size:=by rw[(Mr _ es).length_eq,cF]
  have hx:(pickOrder (w.params.setOrder a ep) es).toList[i]? = some ((pickOrder (w.params.setOrder a ep) es).toList[i]'(by omega)):=aH _
  refine Uc st.1 st.2 hf (x:=((pickOrder (w.params.setOrder a ep) es).toList[i]'(by omega)).2) (nx:=0) (fun B E' Q' q=>Rg st.2 hf hb ?_) fun h' e1 k1=>hQ _ h' s.toks ⟨_,hx,rfl⟩ ⟨e1,st.2.at fun o e=>k1 a o hne e⟩ fun b o hb e=>k1 b o (fun h=>hb (by simp[h])) e
  rw[<- cT,hx]
  exact q
 done:=fun s Q E st hQ=>by
  refine Yb hh st.1 st.2 hf (fun B E' Q' q=>Rg st.2 hf hb ?_) fun h' k1=>hQ h' s.toks fun b o hb e=>k1 b o (fun h=>hb (by simp[h])) e
  have hl:(pickOrder (w.params.setOrder a ep) es).toList.length=es.size:=by rw[(Mr _ es).length_eq,cF]
  rw[<- cT,dF (by omega)]
  exact q
 self:=fun _ _ _ _ st hQ=>R6 st.1 hQ
theorem Ad1(hh:A.handled=none)(hf:t.fits es.size=true)(hb:w.params.followText "set-order" = false)(hd:(!t.plain&&decide (es.size > 1))=false)(tb:Tb t true)(hne:a≠I) :
  Walks prog w A I [I,a] [I] es.size (PI es.toList) (fun i h=>∃ slot:Nat,h.get? I=some (itO (rawInt slot) i a es.size ep)/\cU t.place slot=i/\SetAt h a es ep t) where
 sub:=fun b hb=>by simp at hb;simp[hb]
 frame:=fun _ _ _ ⟨sl,s1,s2,s3⟩ hk=>⟨sl,hk I (by simp) _ s1,s2,s3.at fun o e=>hk a (by simp) o e⟩
 item:=fun i s Q E hi st hQ=>by
  obtain ⟨sl,s1,s2,s3⟩:=st
  have hps:t.place.size=es.size:=by
   simp only[fQ.fits,iZ,beq_iff_eq] at hf
   exact hf.1
  have hx:es[i]? = some es[i]:=dJ hi
  have hp:t.place[i]? = some (t.place[i]'(by omega)):=dJ _
  refine Uc s1 s3 hf (x:=es[i].2) (nx:=t.place[i]'(by omega)+1) (fun B E' Q' q=>Ub s3 hf hb hd tb.le ?_) fun h' e1 k1=>hQ _ h' s.toks ⟨es[i],by rw[cT];exact hx,rfl⟩ ⟨_,e1,W7 tb.rs _,s3.at fun o e=>k1 a o hne e⟩ fun b o hb e=>k1 b o (fun h=>hb (by simp[h])) e
  rw[s2,hx,hp]
  exact q
 done:=fun s Q E st hQ=>by
  obtain ⟨sl,s1,s2,s3⟩:=st
  refine Yb hh s1 s3 hf (fun B E' Q' q=>Ub s3 hf hb hd tb.le ?_) fun h' k1=>hQ h' s.toks fun b o hb e=>k1 b o (fun h=>hb (by simp[h])) e
  rw[s2,Array.getElem?_eq_none (aN _)]
  exact q
 self:=fun _ _ _ _ ⟨_,s1,_⟩ hQ=>R6 s1 hQ
theorem Acr{ps:List Nat}(hh:A.handled=none)(hf:t.fits es.size=true)(hp:ps.Perm (dS es.size))(hne:a≠I)(hnT:T≠I) :
  Walks prog w A I [I,a,T] [I] es.size (PI (ps.map fun k=>es.toList.getD k (0,.none))) (fun i h=>h.get? I=some (itO (.ref T) i a es.size ep)/\SetAt h a es ep t/\h.IsTuple T (ps.map fun (k:Nat)=>rawInt k).toArray) where
 sub:=fun b hb=>by simp at hb;simp[hb]
 frame:=fun _ _ _ st hk=>⟨hk I (by simp) _ st.1,st.2.1.at fun o e=>hk a (by simp) o e,st.2.2.at fun o e=>hk T (by simp) o e⟩
 item:=fun i s Q E hi st hQ=>by
  have hl:ps.length=es.size:=by rw[hp.length_eq,fT]
  have hk:ps[i]? = some (ps[i]'(by omega)):=aH _
  have hk2:ps[i]'(by omega) < es.size:=eB.mp (hp.mem_iff.mp (eT _))
  refine Ad2 st.1 st.2.1 hf st.2.2 hk (dJ hk2) fun h' e1 k1=>hQ _ h' s.toks ⟨es[ps[i]'(by omega)],?_,rfl⟩ ⟨e1,st.2.1.at fun o e=>k1 a o hne e,st.2.2.at fun o e=>k1 T o hnT e⟩ fun b o hb e=>k1 b o (fun h=>hb (by simp[h])) e
  rw[cB,hk,aI,bC,cT,dJ hk2]
  rfl
 done:=fun s Q E st hQ=>by
  have hl:ps.length=es.size:=by rw[hp.length_eq,fT]
  exact Ah2 hh st.1 st.2.1 hf st.2.2 (dF (by omega)) fun h' k1=>hQ h' s.toks fun b o hb e=>k1 b o (fun h=>hb (by simp[h])) e
 self:=fun _ _ _ _ st hQ=>R6 st.1 hQ
theorem Abp{src:Source}{n:Nat}{Q:Nat->aG->Prop}(hn:n≠0)(h:∀ i d,i < n->Q i { s with drawn:=d }):wpAny (model prog w) A (choose src n) Q E s:=
 fun _ _ _=>⟨hn,h _ _ (Nat.mod_lt _ (Nat.pos_of_ne_zero hn))⟩
theorem Yy{α:Type}:∀ (n:Nat) (xs:List α) (s:aG) {Q:List α->aG->Prop},n=xs.length->(∀ ys d,ys.Perm xs->Q ys { s with drawn:=d })->wpAny (model prog w) A (drawOrder n xs) Q E s
 | 0,xs,s,Q,e,h=>by
  have:xs=[]:=jV.mp e.symm
  subst this
  unfold drawOrder
  have e:s = { s with drawn:=s.drawn }:=by cases s;rfl
  rw[e]
  exact aJ (h [] _ (iC _))
 | n+1,[],s,Q,e,h=>by cases e
 | n+1,x::xs,s,Q,e,h=>by
  unfold drawOrder
  refine aB (Abp (by simp) fun i d hi=>?_)
  rw[aH hi]
  dsimp only
  refine aB (Yy n _ _ (by rw[pS,if_pos hi];omega) fun ys d' hp=>aJ (h _ d' ?_))
  refine (hp.cons _).trans ?_
  generalize x::xs=l at hi
  rw[kI]
  have e2:l=l.take i++l[i]::l.drop (i+1):=by rw[oM,cG]
  exact (sD.symm).trans (oV e2.symm)
theorem Ah0{led:Bool}{Q:aC->aG->Prop}(hS:SetAt s.heap a es ep t)(hf:t.fits es.size=true)(tb:Tb t led)(hl:led = !w.params.followText "set-order")(hz:es.size<=sizeLine)
  (h:∀ (J:Addr) (h1:Heap) (d1:Drawn) (fp:List Addr) (St:Nat->Heap->Prop) (xs:List (Int×aC)),xs.Perm es.toList->s.heap.objs.size<=J->(∀ b o,s.heap.get? b=some o->h1.get? b=some o)->(∀ b∈fp,b=a\/s.heap.objs.size<=b) ->
   (∀ B:cL,B.handled=none->Walks prog w B J fp [J] es.size (PI xs) St)->St 0 h1->Q (.ref J) { s with heap:=h1,drawn:=d1 }):wpAny (model prog w) A (pyIter (.ref a)) Q E s:=by
 obtain ⟨o,ho,hex,hd⟩:=id hS
 have hT:s.TypeIs (.ref a) "set" := ⟨o,ho,hex.1⟩
 have hlt:=aW ho
 refine rQ hT pF (dM pF hT Sz ?_ (PySem.F.args_set_iter_1 _))
 unfold gD.«frozenset.__iter__»
 refine aB (gH (a:=a) rfl ?_)
 refine aB ?_
 unfold gD.Frozenset.sizeOf
 refine aB (G1 hS hf (aJ ?_))
 refine aB ?_
 unfold setDrawn
 refine aB (fS ho hd hf (aB (N3 (aJ ?_))))
 dsimp only
 show wpAny _ _ (if (!w.params.followText "set-order" && (!t.plain&&decide (es.size > 1)))=true then _ else _) _ _ _
 cases hb:w.params.followText "set-order" with
 | true=>
  simp only[qF,pJ,bL,if_false]
  refine aB (aJ (aB (nC ho hd hf ?_)))
  have hne:a≠s.heap.objs.size:=bY hlt
  have e0:s = { s with drawn:=s.drawn }:=by cases s;rfl
  refine aB (dB (aJ ⟨_,rfl,"set_iterator",_,⟨_,aP _ rfl,rfl⟩,Bw.lookup,?_⟩))
  exact h s.heap.objs.size _ s.drawn [s.heap.objs.size,a] _ _ (Mr _ es) (aN _) (fun b o e=>aF _ e) (fun b hb=>by simp at hb;rcases hb with e | e;exact .inr (jZ e.symm);exact .inl e)
   (fun B hB=>Aa1 (t:=t) hB hf hb hne) ⟨aP _ rfl,hS.at fun o e=>aF _ e⟩
 | false=>
  rw[hb] at hl
  cases hdr:(!t.plain&&decide (es.size > 1)) with
  | false=>
   simp only[tP,tQ,bL,if_false]
   refine aB (aJ (aB (nC ho hd hf ?_)))
   have hne:a≠s.heap.objs.size:=bY hlt
   refine aB (dB (aJ ⟨_,rfl,"set_iterator",_,⟨_,aP _ rfl,rfl⟩,Bw.lookup,?_⟩))
   subst hl
   exact h s.heap.objs.size _ s.drawn [s.heap.objs.size,a] _ _ (iC _) (aN _) (fun b o e=>aF _ e) (fun b hb=>by simp at hb;rcases hb with e | e;exact .inr (jZ e.symm);exact .inl e)
    (fun B hB=>Ad1 (t:=t) hB hf hb hdr tb hne) ⟨0,aP _ rfl,Xc tb.rs,hS.at fun o e=>aF _ e⟩
  | true=>
   simp only[tP,Bool.and_self,if_true]
   refine aB (Yy _ _ _ (fT).symm fun ps d hp=>?_)
   have hlp:ps.length=es.size:=by rw[hp.length_eq,fT]
   refine aB (mH ?_ (by rw[cH];omega))
   have g1:∀ b o,s.heap.get? b=some o->(s.heap.push { cls:=.type "tuple",data:=.seq (ps.map fun (k:Nat)=>rawInt k).toArray }).get? b=some o:=fun b o e=>aF _ e
   have gT:(s.heap.push { cls:=.type "tuple",data:=.seq (ps.map fun (k:Nat)=>rawInt k).toArray }).IsTuple s.heap.objs.size (ps.map fun (k:Nat)=>rawInt k).toArray:=⟨_,aP _ rfl,rfl,0,rfl⟩
   have gz:(s.heap.push { cls:=.type "tuple",data:=.seq (ps.map fun (k:Nat)=>rawInt k).toArray }).objs.size=s.heap.objs.size+1:=dC _ _
   show wpAny _ _ _ _ _ ({ s with heap:=s.heap.push { cls:=.type "tuple",data:=.seq (ps.map fun (k:Nat)=>rawInt k).toArray },drawn:=d }:aG)
   generalize s.heap.push { cls:=.type "tuple",data:=.seq (ps.map fun (k:Nat)=>rawInt k).toArray } = hp1 at g1 gT gz
   refine aB (nC (g1 _ _ ho) hd hf ?_)
   refine aB (dB (aJ ⟨_,rfl,"set_iterator",_,⟨_,aP _ rfl,rfl⟩,Bw.lookup,?_⟩))
   have hpm:(ps.map fun k=>es.toList.getD k (0,.none)).Perm es.toList:=by
    refine (hp.map _).trans (oV ?_)
    apply nY
    ·simp
    ·intro i h1 h2
     have:i < es.size:=by simpa using h1
     simp[this]
   exact h hp1.objs.size _ d [hp1.objs.size,a,s.heap.objs.size] _ _ hpm (by omega) (fun b o e=>aF _ (g1 b o e)) (fun b hb=>by simp at hb;rcases hb with e | e | e;exact .inr (e ▸ (by omega:s.heap.objs.size<=hp1.objs.size));exact .inl e;exact .inr (jZ e.symm))
    (fun B hB=>Acr (t:=t) (T:=s.heap.objs.size) hB hf hp (bY (bE hlt (by omega))) (bY (by omega:s.heap.objs.size < hp1.objs.size))) ⟨aP _ rfl,hS.at fun o e=>aF _ (g1 _ _ e),gT.push _⟩
end
section
variable {prog:bQ}{w:cC}{A:cL}{E:aC->aG->Prop}{s:aG}{a:Addr}{led:Bool}{σ:List Int}
theorem Aei{Q:Bool->aG->Prop}(hT:s.TypeIs (.ref a) "set")(h:Q false s):wpAny (model prog w) A (mC (.ref a)) Q E s:=by
 unfold mC
 refine aB (wpAny_specialOf hT PySem.F.slot_set_len.lookup ?_)
 generalize hid:("set.__len__" : String)=id0
 wp_delta
 rw[show splitId id0=some ("set","__len__") from by subst hid;decide +kernel]
 subst hid
 refine aB (jA (T := "set") (b:=true) hT (by rw[pT];kernel_rfl) ?_)
 refine oW (fun hab=>absurd hab (by decide)) (fun _=>?_)
 refine oW (fun _=>?_) (fun hab=>absurd (by decide +kernel) hab)
 exact aB (rE hT (aJ h))
theorem Xw:∀ {xs:List (Int×aC)},(∀ e∈xs,∃ k tk,e=(hashInt k,jT k tk))->jM (xs.map (·.2)) (xs.map fun e=>kOf e.2)
 | [],_=>.nil
 | x::xs,h=>by
  obtain ⟨k,tk,rfl⟩:=h x (cN ..)
  exact .cons k tk (Xw fun e he=>h e (bN _ he))
theorem Aes{xs:List (Int×aC)}{acc:Array aC}(h:sV (PI xs) acc xs.length):acc.toList=xs.map (·.2):=by
 apply List.ext_getElem?
 intro i
 by_cases hi:i < xs.length
 ·have h1:acc[i]? = some (acc[i]'(by have:=h.1;omega)):=dJ _
  obtain ⟨e,e1,e2⟩:=h.2 i _ h1
  rw[cT,h1,cB,e1,e2]
  rfl
 ·rw[dF (by rw[cF,h.1];omega),dF (by simp;omega)]
theorem Tx{Q:List aC->aG->Prop}(hh:A.handled=none)(hS:IsSet s.heap a led σ)(hl:led = !w.params.followText "set-order")
  (hQ:∀ (h':Heap) (tk:Nat) (d:Drawn) (vs:List aC) (ns:List Int),(∀ b o,s.heap.get? b=some o->h'.get? b=some o)->jM vs ns->ns.Perm σ->Q vs { s with heap:=h',toks:=tk,drawn:=d }):wpAny (model prog w) A (collect (.ref a)) Q E s:=by
 obtain ⟨o,es,ep,t,ho,hex,hd,hel,hp,hbs,hf,htb⟩:=hS
 have hz:es.size<=sizeLine:=nB hbs
 unfold collect
 refine aB (pN (eO lY ?_))
 rw[eE lZ _]
 show wpAny _ A.in1 (newList [] >>= fun l=>again (.builtin "list.__iadd__" ⟨[l,cP a],[]⟩)) _ _ s
 refine aB (dB (aJ ⟨iK iB _,eO nW ?_⟩))
 rw[eE iB _]
 show wpAny _ A.in1 (iO (.ref s.heap.objs.size) (.ref a) (.ref s.heap.objs.size)) _ _ _
 have hla:=aW ho
 have gS:(s.heap.push { cls:=.type "list",data:=.seq ([]:List aC).toArray }).get? s.heap.objs.size=some { cls:=.type "list",data:=.seq ([]:List aC).toArray }:=aP _ rfl
 have g0:∀ b o,s.heap.get? b=some o->(s.heap.push { cls:=.type "list",data:=.seq ([]:List aC).toArray }).get? b=some o:=fun b o e=>aF _ e
 have gz:(s.heap.push { cls:=.type "list",data:=.seq ([]:List aC).toArray }).objs.size=s.heap.objs.size+1:=dC _ _
 show wpAny _ _ _ _ _ ({ s with heap:=s.heap.push { cls:=.type "list",data:=.seq ([]:List aC).toArray } }:aG)
 generalize s.heap.push { cls:=.type "list",data:=.seq ([]:List aC).toArray } = h0 at gS g0 gz
 have hT:∀ (r:aG),(∀ b o,h0.get? b=some o->r.heap.get? b=some o)->r.TypeIs (.ref a) "set" := fun r k=>⟨o,k _ _ (g0 _ _ ho),hex.1⟩
 unfold iO
 refine aB (rE (T := "set") (hT _ fun _ _ e=>e) ?_)
 have h1:nP (.ref s.heap.objs.size) (.ref a)=false:=by
  simp only[nP,beq_eq_false_iff_ne]
  exact fZ hla
 have h2:(eV "set" == eV "list")=false:=by decide
 have h3:(eV "set" == eV "tuple")=false:=by decide
 simp only[h1,h2,h3,qC,bL,if_false]
 refine aB (Ah0 (s:={ s with heap:=h0 }) ⟨o,g0 _ _ ho,hex,hd⟩ hf htb hl hz fun J hJ d1 fp St xs hpm hJl hk hfp W st=>?_)
 have hJl:h0.objs.size<=J:=hJl
 have hxl:xs.length=es.size:=by rw[hpm.length_eq,cF]
 have hSJ:s.heap.objs.size≠J:=bY (bE (by omega) hJl)
 have hSf:s.heap.objs.size∉fp:=fun hm=>by
  rcases hfp _ hm with e | e
  ·exact absurd e (fZ hla)
  ·have e:h0.objs.size<=s.heap.objs.size:=e
   omega
 have key:∀ (h:Heap) (c:Nat) (tk:Nat),St 0 h->(∀ b o,b≠s.heap.objs.size->hJ.get? b=some o->h.get? b=some o)->h.get? s.heap.objs.size=some { cls:=.type "list",data:=.seq #[] c } ->
   jK (model prog w) A (.builtin "list.extend.loop" ⟨[.ref s.heap.objs.size,.ref J,.ref s.heap.objs.size],[]⟩) (wants (fun v s'=>wpAny (model prog w) A (match v with
    | .ref a=>do match (<- load a).data with
     | .seq xs _=>pure xs.toList
     | _=>unsupported "internal:collect"
    | _=>unsupported "internal:collect") Q E s') E) { s with heap:=h,toks:=tk,drawn:=d1 }:=by
  intro h c tk hst hkp hSl
  refine codeAny_extend_loopS (W A.in1 hh).toS hz _ hSf _ es.size 0 _ #[] c rfl (eR _) hst hSl (sV.nil _) fun s' acc' c' hm hS' hacc=>?_
  rw[Moved.eq_with hm]
  show wpAny _ A (load s.heap.objs.size >>= _) _ _ _
  refine aB (sY hS' (aJ ?_))
  rw[<- hxl] at hacc
  rw[Aes hacc]
  have hel':∀ e∈xs,∃ k tk,e=(hashInt k,jT k tk):=fun e he=>hel e (hpm.mem_iff.mp he)
  refine hQ s'.heap s'.toks d1 _ _ (fun b o e=>hm.heap b o (fun hmem=>?_) (hkp b o (bY (aW e)) (hk _ _ (g0 _ _ e)))) (Xw hel') ((hpm.map _).trans hp)
  rcases cI.mp hmem with e' | hmem
  ·exact absurd (aW e) (by rw[e'];exact dO _)
  ·rw[bX] at hmem
   exact absurd (bE (aW e) (dN (by omega:s.heap.objs.size<=h0.objs.size) hJl)) (by rw[hmem];exact dO _)
 have gS1:=hk _ _ gS
 refine aB (eG (Aei (hT _ hk) ?_))
 refine oW (fun _=>?_) (fun _=>aJ ⟨iK mS _,key _ 0 _ st (fun b o _ e=>e) gS1⟩)
 refine aB (eY (aB ?_))
 show wpAny _ _ (updateSeq s.heap.objs.size (·.push .none) >>= fun _=>updateSeq s.heap.objs.size (·.pop)) _ _ _
 refine aB (oT gS1 rfl ?_)
 have gS2:=fH (cJ (·.push eA)) gS1 rfl
 refine oT (hz:=by seq_fits) gS2 rfl ?_
 have gS3:=fH (cJ (·.pop)) gS2 rfl
 refine aJ ⟨iK mS _,key _ _ _ ?_ (fun b o hb e=>?_) gS3⟩
 ·refine (W A hh).frame 0 _ _ st fun b hb o e=>?_
  have hbS:b≠s.heap.objs.size:=fun h=>hSf (h ▸ hb)
  exact (gC _ _ (fY hbS)).trans ((gC _ _ (fY hbS)).trans e)
 ·exact (gC _ _ (fY hb)).trans ((gC _ _ (fY hb)).trans e)
end
theorem IsSet.at{h h':Heap}{a:Addr}{led:Bool}{σ:List Int}(x:IsSet h a led σ)(e:∀ o,h.get? a=some o->h'.get? a=some o):IsSet h' a led σ:=let ⟨o,es,ep,t,ho,r⟩:=x;⟨o,es,ep,t,e _ ho,r⟩
noncomputable def Nt(val:Nat->Int)(i:Nat):List Int:=((dS i).map val).foldl Ez []
theorem Q8(val:Nat->Int)(i:Nat):Nt val (i+1)=Ez (Nt val i) (val i):=by
 unfold Nt;rw[sR,lQ,List.foldl_append];rfl
theorem N2(val:Nat->Int):∀ i,(Nt val i).length<=i
 | 0=>aN _
 | i+1=>by
  rw[Q8]
  exact dN (Abr _ _) (Nat.succ_le_succ (N2 val i))
section
variable {prog:bQ}{w:cC}{A:cL}{R:sZ->aG->Prop}{I:Addr}{fp wr:List Addr}{G:Array kT->Array kT->Prop}{n:Nat}{P:Nat->aC->Prop}{St:Nat->aG->Prop}
theorem Aa3{led:Bool}(W:WalksS prog w A.in1 I fp wr G n P St)(S:Addr)(hSf:S∉fp)(val:Nat->Int)(hval:∀ i v,P i v->∃ tk,v = .int (val i) tk)(hb:n+1 < scanBound) :
  ∀ (k i:Nat) (s:aG),n - i=k->i<=n->St i s->IsSet s.heap S led (Nt val i) ->
   (∀ s',Moved (S::wr) G s s'->IsSet s'.heap S led (Nt val n)->R (.ok (.ret .none)) s') ->
   jK (model prog w) A (.builtin "set.update.loop" ⟨[.ref S,.ref I],[]⟩) R s:=by
 have hSw:S∉wr:=fun h=>hSf (W.sub _ h)
 have hsub:∀ b∈wr,b∈S::wr:=fun b hb=>bN _ hb
 intro k
 induction k with
 | zero=>
  intro i s hk hi hst hS hR
  obtain rfl:i=n:=by omega
  refine eO oC ?_
  rw[eE jW _]
  show wpAny _ A.in1 (pyNext (.ref I) >>= _) _ _ s
  refine aB (W.done s _ _ hst fun s' hm=>?_)
  show wpAny _ A.in1 (ret eA) _ _ s'
  exact aJ (hR s' (hm.mono hsub) (hS.at fun o e=>hm.heap S _ hSw e))
 | succ k ih=>
  intro i s hk hi hst hS hR
  have hlt:i < n:=by omega
  refine eO oC ?_
  rw[eE jW _]
  show wpAny _ A.in1 (pyNext (.ref I) >>= _) _ _ s
  refine aB (W.item i s _ _ hlt hst fun v s' hP hst' hm=>?_)
  obtain ⟨tk,rfl⟩:=hval i v hP
  have hS':IsSet s'.heap S led (Nt val i):=hS.at fun o e=>hm.heap S _ hSw e
  show wpAny _ A.in1 (holding [jT (val i) tk] (setAdd S (.int (val i) tk)) >>= _) _ _ s'
  refine aB (eG ?_)
  unfold setAdd
  refine eG (aB ((intKind prog w).pyHash (k:=val i) (oN _ _ _ _) ?_))
  have hroom:(Nt val i).length+1 < scanBound:=by have:=N2 val i;omega
  refine Apx (s:={ s' with toks:=s'.toks+1 }) hS' hroom fun h' b hsb hS2=>?_
  rw[<- Q8] at hS2
  refine aJ ⟨iK jW _,ih (i+1) _ (by omega) hlt (W.frame _ s' _ _ hst' (kU _) fun b hb o e=>?_) hS2 fun s'' hm'' hS''=>?_⟩
  ·rw[hsb.2 b (fun h:b=S=>hSf (by rw[<- h];exact hb))];exact e
  ·refine hR s'' (Moved.trans W.gtrans ((hm.mono hsub).then_heap (kU _) fun b o hb e=>?_) hm'') hS''
   rw[hsb.2 b (fun h:b=S=>hb (by rw[h];exact cN))];exact e
end
section
variable {prog:bQ}{w:cC}{A:cL}{E:aC->aG->Prop}{s:aG}
theorem Ai6(a:aC){Q:aC->aG->Prop}(h:Q (.ref s.heap.objs.size) { s with heap:=s.heap.push { cls:=.type "set",dict:=none,data:=.set #[] 0 (.fresh 0 0 (!w.params.followText "set-order")) } }) :
  jK (model prog w) A (.call (.builtin "set.__new__") ⟨[.type "set",a],[]⟩) (wants Q E) s:=by
 refine lP ?_
 show wpAny _ A.in1 (do checkBuiltinCall "set.__new__" ⟨[.type "set",a],[]⟩;again (Code.builtin "set.__new__" ⟨[.type "set",a],[]⟩)) _ _ s
 refine aB (gH (PySem.F.newCall_set_1 a) (aJ ⟨iK pG _,eO PySem.F.entry_set_new ?_⟩))
 rw[eE pG _]
 unfold gD.«set.__new__» gD.Frozenset.newClass
 have hsub:=sub_set_self
 obtain ⟨hp,g,d,tk,os⟩:=s
 dsimp only
 wp_walk
 refine oB (aJ ?_)
 dsimp only
 simp only[newObj]
 exact aB (wpAny_alloc (aJ (aJ h)))
theorem R4{t:Addr}{items:Array aC}{val:Nat->Int}{Q:aC->aG->Prop}(hh:A.handled=none)(ht:s.heap.IsTuple t items)(hi:∀ (i:Nat) (v:aC),items[i]? = some v->∃ tk,v = .int (val i) tk)(hb:items.size+1 < scanBound)
  (h:∀ (h':Heap) (tk:Nat),IsSet h' s.heap.objs.size (!w.params.followText "set-order") (Nt val items.size)->(∀ b o,s.heap.get? b=some o->h'.get? b=some o)->Q (.ref s.heap.objs.size) { s with heap:=h',toks:=tk }) :
  wpAny (model prog w) A (call (.type "set") [.ref t]) Q E s:=by
 obtain ⟨c,tl,hmro⟩:=PySem.F.called_set.mro
 have hmade:=PySem.F.called_set.made
 have hsub:=PySem.F.called_set.sub
 refine kN (lP ?_)
 show wpAny _ _ (callAny (.type "set") _) _ _ _
 refine aJ ⟨qP _ (by decide +kernel),eO PySem.F.entry_type_call ?_⟩
 rw[qQ (pH "set" [.ref t] []) rfl]
 have h1:=PySem.F.called_set.notType
 have h2:=PySem.F.called_set.canCreate
 have hct:=PySem.F.typeCall_set_1 (.ref t)
 repeat (any_goals (first | assumption | wp_step))
 generalize hled:(!w.params.followText "set-order")=led at h
 refine fL (Ai6 (.ref t) (E:=E) (Q:=fun obj s₁=>obj = .ref s.heap.objs.size/\s₁ = { s with heap:=s.heap.push { cls:=.type "set",dict:=none,data:=.set #[] 0 (.fresh 0 0 led) } }) (by rw[hled];exact ⟨rfl,rfl⟩)) fun r s₁ hr=>?_
 cases r with
 | error e=>exact hr
 | ok fl=>
  cases fl with
  | ret obj=>
   obtain ⟨rfl,rfl⟩:=hr
   have hS:(s.heap.push { cls:=.type "set",dict:=none,data:=.set #[] 0 (.fresh 0 0 led) }).get? s.heap.objs.size=some { cls:=.type "set",dict:=none,data:=.set #[] 0 (.fresh 0 0 led) }:=aP _ rfl
   have hT:tY { s with heap:=s.heap.push { cls:=.type "set",dict:=none,data:=.set #[] 0 (.fresh 0 0 led) } } (.ref s.heap.objs.size) "set" := ⟨_,hS,rfl⟩
   have hli:=PySem.F.called_set.init.lookup
   have hbi:=PySem.F.called_set.init.bind (.ref s.heap.objs.size)
   repeat (any_goals (first | assumption | wp_step))
   refine fL (lD (R:=wants (fun r s₂=>r = .none/\∃ h' tk,s₂ = { s with heap:=h',toks:=tk }/\IsSet h' s.heap.objs.size led (Nt val items.size)/\(∀ b o,s.heap.get? b=some o->h'.get? b=some o)) E) PySem.F.called_set.init.plain PySem.F.entry_set_init (check_set_init_1 hT ?_)) fun r₂ s₂ hr₂=>?_
   ·obtain ⟨ol,hol,hcl,nl,hdl⟩:=ht
    obtain ⟨ocls,odict,odata,oslots⟩:=ol
    simp only at hcl hdl
    subst hcl;subst hdl
    have hol':(s.heap.push { cls:=.type "set",dict:=none,data:=.set #[] 0 (.fresh 0 0 led) }).get? t=some { cls:=.type "tuple",dict:=odict,data:=.seq items nl,slots:=oslots }:=aF _ hol
    have hsls:=PySem.F.sub_tuple_set
    have hslf:=PySem.F.sub_tuple_frozenset
    have hne:(eV "tuple" == eV "dict")=false:=by decide
    have hl1:(s.heap.push { cls:=.type "set",dict:=none,data:=.set #[] 0 (.fresh 0 0 led) }).IsTuple t items:=⟨_,hol',rfl,nl,rfl⟩
    unfold gD.«set.__init__» noKeywords gD.Frozenset.updateFrom
    generalize hPI:pyIter=PI
    wp_walk
    subst hPI
    refine eP hl1 ?_
    refine aB (pN ?_)
    have hlS:t < s.heap.objs.size:=aW hol
    have hh3:A.in1.in1.in1.handled=none:=by simp[hh]
    have hneI:t≠(s.heap.push { cls:=.type "set",dict:=none,data:=.set #[] 0 (.fresh 0 0 led) }).objs.size:=by
     rw[dC];exact bY (nD hlS)
    have hSf:s.heap.objs.size∉[(s.heap.push { cls:=.type "set",dict:=none,data:=.set #[] 0 (.fresh 0 0 led) }).objs.size,t]:=by
     rw[dC];simp only[cI,bX,gL,or_false,not_or]
     exact ⟨bY (eI _),fZ hlS⟩
    refine Aa3 (led:=led) ((Walks.tuple hh3 _ t hneI items).toS) s.heap.objs.size hSf val hi hb (items.size - 0) 0 _ (by omega) (eR _) ⟨⟨_,aP _ rfl,rfl,rfl⟩,(hl1.push _)⟩ ?hS0 ?hR
    case hS0=>
     have hget:((s.heap.push { cls:=.type "set",dict:=none,data:=.set #[] 0 (.fresh 0 0 led) }).push { cls:=.type "tuple_iterator",data:=.fields #[.ref t,.int 0 0] }).get? s.heap.objs.size
       = some { cls:=.type "set",dict:=none,data:=.set #[] 0 (.fresh 0 0 led) }:=aF _ hS
     exact ⟨_,#[],0,_,hget,⟨rfl,rfl,rfl⟩,rfl,fun e he=>by simp at he,iC _,by unfold scanBound;simp,rfl,Ae3 led⟩
    case hR=>
     intro s' hm hS'
     obtain ⟨h',g',d',tk',os'⟩:=s'
     have eg:g'=s.gens:=hm.gens
     have ed:d'=s.drawn:=hm.drawn
     have eo:os'=s.os:=hm.os
     subst eg;subst ed;subst eo
     show wpAny _ _ _ _ _ _
     refine aJ ?_
     show wpAny _ _ (ret eA) _ _ _
     refine aJ ⟨rfl,h',tk',rfl,hS',fun b o e=>?_⟩
     have hb:=aW e
     have hb1:b≠s.heap.objs.size:=bY hb
     have hb2:b≠(s.heap.push { cls:=.type "set",dict:=none,data:=.set #[] 0 (.fresh 0 0 led) }).objs.size:=by
      rw[dC];exact bY (nD hb)
     exact hm.heap b o (by simp only[cI,bX,gL,or_false,not_or];exact ⟨hb1,hb2⟩) (aF _ (aF _ e))
   ·cases r₂ with
    | error e=>exact hr₂
    | ok fl₂=>
     cases fl₂ with
     | ret r=>
      obtain ⟨rfl,h',tk,rfl,hS',hk'⟩:=hr₂
      repeat (any_goals (first | assumption | wp_step))
      exact h _ _ hS' hk'
     | _=>exact hr₂.elim
  | _=>exact hr.elim
end
end SW
namespace MR
open PySem PySem.Spec PyProof.Rows PySem.Calls L2 SO
noncomputable def unl(ns:List Int):List Int:=Yv (ns.foldl SW.Ez [])
theorem Ss(ns:List Int):SW.Nt (fun i=>ns.getD i 0) ns.length=ns.foldl SW.Ez []:=by
 unfold SW.Nt
 congr 1
 apply nY
 ·simp
 ·intro i h1 h2
  simp[h2]
theorem Tj:∀ {vs:List aC} {ns:List Int},jM vs ns->vs.length=ns.length
 | _,_,.nil=>rfl
 | _,_,.cons _ _ h=>congrArg (· + 1) (Tj h)
section
variable {X:Cx}
theorem Aax{pins:List (Addr×Obj)}{s:aG}{σ:L2.St}{H:Hp}{d:Drawn}(I:L2.Inv X pins σ H s):L2.Inv X pins σ H { s with drawn:=d }:=by
 cases I
 constructor <;> assumption
noncomputable def Ae0(K:aD)(ta:TA):TE:=fun σ H Q=>ta σ H fun vs H1=>∃ (a:Addr) (ns:List Int),vs=[.ref a]/\SqT K H1 a (ns.map V.int)/\ns.length<=4000/\∀ p:Addr,H1 p=none->Q (.ref p) (upd H1 p (.lst ((unl ns).map V.int)))
theorem V8{a:Expr}{ta:TA}{p p' pos pos':Pos}(hc:X.calm=true)(hgL:Gl X "sorted")(hmL:X.mg "sorted" = none)(hg:Gl X "set")(hm:X.mg "set" = none)(ha:PA X [a] ta)(hs:bP [a] X.env=[(false,eval a X.env)]:=by rfl)
  (hs2:bP [.Call (.Name "set" p') [a] [] pos'] X.env=[(false,eval (.Call (.Name "set" p') [a] [] pos') X.env)]:=by rfl):PE X (.Call (.Name "sorted" p) [.Call (.Name "set" p') [a] [] pos'] [] pos) (Ae0 X.K ta):=by
 intro pins s σ H Q I h
 refine dD (Iu I hgL hmL nQ ?_)
 refine kO ?_ hs2 rfl
 rw[hs2]
 refine jP ?_
 refine dD (Iu I hg hm boot_set (eU (thn (ha pos' pins s σ H _ I h) fun us s1 zz=>zz.elim fun vs H1 I1 r1 q1=>?_) hs rfl))
 obtain ⟨t,ns,rfl,hq,hl,q⟩:=q1
 obtain ⟨u,rfl,ru⟩:=Kk r1
 cases ru
 obtain ⟨its,rv,tp,hz⟩:=I1.tuple hq
 have hlen:=rv.length
 rw[cH] at hlen
 have hsz:its.toArray.size=ns.length:=by simp[hlen]
 refine SW.R4 (val:=fun i=>ns.getD i 0) (I1.ok.hd hc) tp (fun i v hv=>?_) (by rw[hsz];unfold scanBound;omega) fun h' tk hS hk=>?_
 ·have hv':its[i]? = some v:=by simpa using hv
  have hi:i < ns.length:=by have:=(aZ.mp hv').1;omega
  obtain ⟨v',e3,rr⟩:=rv.get (i:=i) (x:=V.int (ns[i]'hi)) (by rw[cB,aH hi];rfl)
  rw[hv'] at e3
  cases e3
  obtain ⟨tk,rfl⟩:=rr
  exact ⟨tk,by simp[bC,aH hi]⟩
 ·refine kA ?_
  rw[hsz,Ss] at hS
  have hln:(ns.foldl SW.Ez []).length<=ns.length:=by
   rw[<- Ss];exact SW.N2 _ _
  have I2:L2.Inv X pins σ H1 { s1 with heap:=h',toks:=tk }:=I1.kept hk
  refine call_function_entry kind_sorted plain_sorted entry_sorted (args_sorted1 _) ?_
  unfold gD.«sorted»
  refine aB (m:=checkCount "sorted" 1 1 _) (aJ (aB (SW.Tx (s:={ s1 with heap:=h',toks:=tk }) (by first | exact I1.ok.hd hc | simpa using I1.ok.hd hc) hS rfl fun h1 tk1 d vs ms kp hI hpm=>?_)))
  have hvl:vs.length<=sizeLine:=by
   have e1:vs.length=ms.length:=Tj hI
   rw[e1,hpm.length_eq,eC];omega
  refine aB (nO ?_ hvl)
  have e2:(h1.push (seqObj "list" vs.toArray 0)).get? h1.objs.size=some (seqObj "list" vs.toArray 0):=aP _ rfl
  have e3:∀ b o,h1.get? b=some o->(h1.push (seqObj "list" vs.toArray 0)).get? b=some o:=fun b o q=>aF _ q
  have e4:∀ (h2:Heap),Kb h1.objs.size (h1.push (seqObj "list" vs.toArray 0)) h2->∀ b o,h1.get? b=some o->h2.get? b=some o:=fun h2 k b o q=>
   k b o (bY (aW q)) (e3 b o q)
  show wpAny _ _ _ _ _ ({ s1 with heap:=h1.push (seqObj "list" vs.toArray 0),toks:=tk1,drawn:=d }:aG)
  generalize h1.push (seqObj "list" vs.toArray 0)=hp at e2 e3 e4
  refine aB (eG (dM slot_list_sort ⟨_,e2,rfl⟩ entry_list_sort (Aa6 (s:={ s1 with heap:=hp,toks:=tk1,drawn:=d }) e2 hI hvl fun out ns' h2 c a1 a2 a3 a4 a5=>⟨_,rfl,?_⟩) (args_list_sort _)))
  have J0:L2.Inv X pins σ H1 { s1 with heap:=h1,toks:=tk1,drawn:=d }:=Aax (I2.kept (t':=tk1) kp)
  have en:ns'=unl ns:=by
   unfold unl
   exact (Af1 ((a2.trans hpm).symm) a3).symm
  subst en
  have hsz2:((unl ns).map V.int).length<=sizeLine:=by
   rw[cH,eC]
   unfold unl
   rw[(Gz _).length_eq];omega
  have I3:Inv X pins σ (upd H1 h1.objs.size (.lst ((unl ns).map V.int))) { s1 with heap:=h2,toks:=tk1,drawn:=d }:=J0.laid (t':=tk1) (e4 h2 a4) (aN _) ⟨hsz2,out,c,Qo a1,a5⟩
  exact aJ ⟨_,rfl,.ref h1.objs.size,_,I3,rfl,q _ (J0.hok.fresh (aN _))⟩
end
noncomputable def Jk(g:FA):FE:=fun δ L=>(g δ L).bind fun p=>match p.1 with
 | [.tup us]=>(mapO toI us).bind fun ns=>if ns.length<=4000 then some (.ref p.2.length,p.2++[.lst ((unl ns).map U.int)]) else none
 | _=>none
theorem Xb{X:Cx}{a:Expr}{g:FA}{p p' pos pos':Pos}(hc:X.calm=true)(hgL:Gl X "sorted")(hmL:X.mg "sorted" = none)(hg:Gl X "set")(hm:X.mg "set" = none)(ha:PAF X [a] g)(hs:bP [a] X.env=[(false,eval a X.env)]:=by rfl)
  (hs2:bP [.Call (.Name "set" p') [a] [] pos'] X.env=[(false,eval (.Call (.Name "set" p') [a] [] pos') X.env)]:=by rfl):PEF X (.Call (.Name "sorted" p) [.Call (.Name "set" p') [a] [] pos'] [] pos) (Jk g):=by
 refine PE.imp (V8 hc hgL hmL hg hm ha hs hs2) ?_
 rintro σ H Q ⟨α,δ,L,A,S,z,L3,e,q⟩
 obtain ⟨⟨us,L1⟩,e1,e⟩:=aA.mp e
 refine ⟨α,δ,L,A,S,us,L1,e1,fun xs H1 α1 g1 A1 r1=>?_⟩
 simp only at e
 split at e
 ·obtain ⟨ns,hns,e⟩:=aA.mp e
  split at e
  ·rename_i hl
   cases e
   obtain ⟨x,rfl,rx⟩:=r1.one
   unfold RepU at rx
   obtain ⟨b,xs,rfl,sq,r2⟩:=rx
   rw[Lq r2 hns] at sq
   refine ⟨b,ns,rfl,sq,hl,fun p hp=>?_⟩
   have rl:RepL X.K H1 α1 ((unl ns).map U.int) ((unl ns).map V.int):=by
    generalize unl ns=ws
    induction ws with
    | nil=>exact .nil
    | cons w ws ih=>exact .cons (by unfold RepU;rfl) ih
   obtain ⟨g2,A2,r3⟩:=A1.lst rl hp
   exact q _ _ _ (g1.trans g2) A2 r3
  ·cases e
 ·cases e
end MR
namespace ZT
open PySem PySem.Spec PyProof.Rows
open Sem (wp)
section
variable {M:Model}{A:cL}{E:aC->aG->Prop}{s:aG}{env:Env}
theorem Xj{pos:Pos}{T:String}{e:Expr}{rest:List Expr}{kws:List jL}{Q:aC->aG->Prop}
  (h:wpAny M A (spliced (backTo pos (bP (e::rest) env))) (fun vs s₁=>wpAny M A (evalAll ((backToKw pos (keywordEach kws env)).map (·.2)))
   (fun kvs s₂=>wpAny M A (call (.type T) vs (((backToKw pos (keywordEach kws env)).filterMap (·.1)).zip kvs)) Q E s₂) E s₁) E s)
  (he:backTo pos (bP (e::rest) env)=(false,eval e env)::backTo pos (bP rest env)) (hp:(backTo pos (bP (e::rest) env)).any (·.1)=false)
  (hall:(backToKw pos (keywordEach kws env)).all (·.1.isSome)=true) (hkw:(backToKw pos (keywordEach kws env)).any (·.1.isNone)=false) :
  wpAny M A (callWith pos (.type T) [] (backTo pos (bP (e::rest) env)) (backToKw pos (keywordEach kws env))) Q E s:=by
 have g:wpAny M A (evalArgs (.type T) true (backTo pos (bP (e::rest) env)) (backToKw pos (keywordEach kws env))) (fun a s₁=>wpAny M A (call (.type T) ([]++a.pos) a.kw) Q E s₁) E s:=by
  rw[he] at h ⊢
  exact evalArgs_kwB hall h
 unfold callWith
 refine aB (eG (eL g (fun a s₁ h₁=>aB (nI ?_)) fun _ _ x=>x))
 simp only[hp,hkw,qC]
 exact aB (aJ (aB (eL h₁ (fun r s₂ hr=>aB (eG (wpAny_point (aJ hr)))) fun _ _ x=>x)))
end
theorem U2(a v:aC):checkTypeCall "enumerate" ⟨[a],[("start",v)]⟩=pure ():=by kernel_rfl
theorem Ww(a v:aC):checkBuiltinCall "enumerate.__new__" ⟨[.type "enumerate",a],[("start",v)]⟩=pure ():=by kernel_rfl
theorem Ahb(o a v:aC):argsOk "object.__init__" ⟨[o,a],[("start",v)]⟩:=by
 first | exact (by unfold argsOk;kernel_rfl) | kernel_rfl
theorem Amu(l:Addr)(items:Array aC)(tk1:Tok) :
  Meets (gD.«enumerate.__new__» ⟨[.type "enumerate",.ref l],[("start",.int 1 tk1)]⟩) (fun _ R s=>s.heap.IsTuple l items /\
   R (.ok (.ret (.ref (s.heap.push { cls:=.type "tuple_iterator",data:=.fields #[.ref l,.int 0 0] }).objs.size)))
    { s with heap:=(s.heap.push { cls:=.type "tuple_iterator",data:=.fields #[.ref l,.int 0 0] }).push { cls:=.type "enumerate",data:=.fields #[.none,.bool false,.ref s.heap.objs.size,rawInt 1,.none,.none] } }):=
 .of_wp fun prog w A R s h=>by
  obtain ⟨hp,g,d,tk,os⟩:=s;obtain ⟨hl,h⟩:=h
  have hsub:=sub_enumerate
  have hL:rB (sJ ⟨hp,g,d,tk,os⟩) l items:=hl
  wp_walk using eP hL
  refine wpAny_stack_any fun st=>aJ ?_
  split
  ·rename_i c _ _ _ _ _
   cases (c == eV "enumerate")
   ·wp_walk using eP hL
    exact ⟨_,rfl,h⟩
   ·wp_walk using eP hL
    exact ⟨_,rfl,h⟩
  ·wp_walk using eP hL
   exact ⟨_,rfl,h⟩
theorem Ag1{self:aC}{rest:List aC}{kw:List (Str×aC)}(hl:typeLookup (.type "enumerate") "__init__" = pure (some (.builtin "object.__init__")))(hm:Bind.madeBy (.type "enumerate")=pure (some "enumerate.__new__"))(hne:(some "enumerate.__new__" != some "object.__new__")=true){a:aC}{p:Str×aC} :
  Meets (gD.«object.__init__» ⟨[self,a],[p]⟩) (fun _ R s=>s.TypeIs self "enumerate" /\ R (.ok (.ret .none)) s):=by
 refine Meets.of_wp fun prog w A R s hs=>?_
 obtain ⟨hT,hq⟩:=hs
 repeat (any_goals (first | assumption | wp_step))
 exact ⟨_,rfl,hq⟩
section
variable {prog:bQ}{w:cC}{A:cL}{E:aC->aG->Prop}{s:aG}
theorem Aij{l:Addr}{items:Array aC}{tk1:Tok}{Q:aC->aG->Prop}(hL:s.heap.IsTuple l items)
  (h:∀ h',IsEnum h' (s.heap.objs.size+1) s.heap.objs.size 1 .none->h'.IsTupleIter s.heap.objs.size l 0->h'.objs.size=s.heap.objs.size+2 ->
   (∀ b o,s.heap.get? b=some o->h'.get? b=some o)->Q (.ref (s.heap.objs.size+1)) { s with heap:=h' }) :
  wpAny (model prog w) A (call (.type "enumerate") [.ref l] [("start",.int 1 tk1)]) Q E s:=by
 have ft:=F.called_enumerate
 obtain ⟨c,tl,hmro⟩:=ft.mro
 have hmade:=ft.made
 have hsub:=ft.sub
 refine kN (lP ?_)
 show wpAny _ _ (callAny (.type "enumerate") _) _ _ _
 refine aJ ⟨qP _ (by decide +kernel),eO F.entry_type_call ?_⟩
 rw[qQ (pH "enumerate" [.ref l] [("start",.int 1 tk1)]) (units_type_call_type "enumerate" [.ref l] [("start",.int 1 tk1)])]
 have h1:=ft.notType
 have h2:=ft.canCreate
 have hct:=U2 (.ref l) (.int 1 tk1)
 have hcn:=Ww (.ref l) (.int 1 tk1)
 repeat (any_goals (first | assumption | wp_step))
 have hz:(s.heap.push { cls:=.type "tuple_iterator",data:=.fields #[.ref l,.int 0 0] }).objs.size=s.heap.objs.size+1:=dC ..
 refine fL (lD (R:=wants (fun obj s₁=>obj = .ref (s.heap.objs.size+1)/\s₁ = { s with heap:=(s.heap.push { cls:=.type "tuple_iterator",data:=.fields #[.ref l,.int 0 0] }).push { cls:=.type "enumerate",data:=.fields #[.none,.bool false,.ref s.heap.objs.size,rawInt 1,.none,.none] } }) E) ft.plain F.entry_enumerate_new (gH hcn (Amu l items tk1 prog w A.in1 _ s ⟨hL,by rw[hz];exact ⟨rfl,rfl⟩⟩))) fun r s₁ hr=>?_
 cases r with
 | error e=>exact hr
 | ok fl=>
  cases fl with
  | ret obj=>
   obtain ⟨rfl,rfl⟩:=hr
   have he:IsEnum ((s.heap.push { cls:=.type "tuple_iterator",data:=.fields #[.ref l,.int 0 0] }).push { cls:=.type "enumerate",data:=.fields #[.none,.bool false,.ref s.heap.objs.size,rawInt 1,.none,.none] }) (s.heap.objs.size+1) s.heap.objs.size 1 .none:=by
    have:=aP (s.heap.push { cls:=.type "tuple_iterator",data:=.fields #[.ref l,.int 0 0] }) (o:={ cls:=.type "enumerate",data:=.fields #[.none,.bool false,.ref s.heap.objs.size,rawInt 1,.none,.none] }) rfl
    rw[hz] at this;exact this
   have q:=h _ he ⟨_,aF _ (aP _ rfl),rfl,rfl⟩ (by rw[dC,hz]) fun b o x=>aF _ (aF _ x)
   generalize (s.heap.push { cls:=.type "tuple_iterator",data:=.fields #[.ref l,.int 0 0] }).push { cls:=.type "enumerate",data:=.fields #[.none,.bool false,.ref s.heap.objs.size,rawInt 1,.none,.none] } = h3 at he q
   have hT:tY { s with heap:=h3 } (.ref (s.heap.objs.size+1)) "enumerate" := ⟨_,he,rfl⟩
   have hli:=ft.init.lookup
   have hbi:=ft.init.bind (.ref (s.heap.objs.size+1))
   repeat (any_goals (first | assumption | wp_step))
   refine fL (lD (R:=wants (fun r s₂=>r = .none/\Q (.ref (s.heap.objs.size+1)) s₂) E) ft.init.plain F.entry_object_init (ft.init.check _ _ _ _ _ _ _ _ hT (Ahb _ _ _) (Ag1 (rest:=[]) (kw:=[]) ft.init.lookup ft.made (by decide) prog w A.in1 _ _ ⟨hT,rfl,q⟩))) fun r₂ s₂ hr₂=>?_
   cases r₂ with
   | error e=>exact hr₂
   | ok fl₂=>
    cases fl₂ with
    | ret r=>
     obtain ⟨rfl,hq⟩:=hr₂
     repeat (any_goals (first | assumption | wp_step))
    | _=>exact hr₂.elim
  | _=>exact hr.elim
theorem Ur{it:Addr}{fp:List Addr}{n:Nat}{P:Nat->aC->Prop}{St:Nat->Heap->Prop}(D:Draws prog w A it fp n P St):Draws prog w A it fp (n+1) (fun j v=>P (j - 1) v) (fun j h=>1<=j/\St (j - 1) h) where
 live:=fun _ _ st=>D.live _ _ st.2
 frame:=fun _ _ _ st hk=>⟨st.1,D.frame _ _ _ st.2 hk⟩
 item:=fun i s Q E hi st hQ=>D.item (i - 1) s Q E (by have:=st.1;omega) st.2 fun v h' tk p q sb=>hQ v h' tk p ⟨by omega,by have:=st.1;rw[show i+1 - 1=i - 1+1 by omega];exact q⟩ sb
 done:=fun s Q E st hE=>D.done s Q E (by have:=st.2;rw[dP] at this;exact this) hE
end
end ZT
namespace MR
open PySem PySem.Spec PyProof.Rows L2
noncomputable def Ald(K:aD)(a:Addr):It:=
 ⟨fun i H=>∃ xs x,SqT K H a xs/\xs[i]? = some x,fun i H x H'=>∃ p v,H p=none/\x = .ref p/\H'=upd H p (.tup [.int ((i+1:Nat):Int),v])/\∀ xs,SqT K H a xs->xs[i]? = some v,fun i H=>∃ xs,SqT K H a xs/\xs.length<=i⟩
theorem V5{P:bQ}{w:cC}{K:aD}{elts:List Expr}{x1}{pos:Pos}(a e it:Addr)(hne:e≠it):Turn P w K (.Tuple elts x1 pos) (Ald K a) [e,it] e (fun i h=>(∃ old,IsEnum h e it ((i+1:Nat):Int) old)/\h.IsTupleIter it a i) where
 mem:=by simp
 obj:=fun i h st b hb=>by
  obtain ⟨⟨old,he⟩,o,ho,hc,hd⟩:=st
  rcases cI.mp hb with rfl | hb
  ·exact ⟨_,he,fun v z=>by simp at z⟩
  ·have:b=it:=by simpa using hb
   subst this
   exact ⟨o,ho,fun v z=>by rw[hd] at z;cases z⟩
 keep:=fun i h h' st k=>by
  obtain ⟨⟨old,he⟩,o,ho,hc,hd⟩:=st
  exact ⟨⟨old,k e (by simp) _ he⟩,o,k it (by simp) _ ho,hc,hd⟩
 item:=by
  intro X hP hw hK hc i pins s σ H E I hf st hg
  subst hP hw hK
  obtain ⟨⟨old,he⟩,hit⟩:=st
  obtain ⟨xs,v,sq,hx⟩:=hg
  obtain ⟨its,hv,pl,hz⟩:=I.tuple sq
  obtain ⟨u,hu,r⟩:=hv.get hx
  have hae:e≠a:=fun q=>by
   subst q
   obtain ⟨o,ho,hc,_⟩:=pl
   have:some o=some _:=ho.symm.trans he
   cases this
   simp at hc
  have hai:a≠it:=fun q=>by
   subst q
   obtain ⟨o,ho,hc,_⟩:=pl
   obtain ⟨o',ho',hc',_⟩:=hit
   have:some o=some o':=ho.symm.trans ho'
   cases this
   rw[hc] at hc';simp at hc'
  have hlt:i < its.toArray.size:=by
   have:=(aZ.mp hu).1
   simpa using this
  refine wpAny_pyNext_enum_itemD (ZT.Ur (ZT.Td (A:=tJ _) (I.ok.hd hc) it a hai its.toArray)) he ⟨by omega,by rw[dP];exact ⟨hit,pl⟩⟩ (Nat.succ_lt_succ hlt) hne (by simp[hne,hae]) fun x h' tk px o1 o2 o3 o4 o5=>?_
  rw[dP] at px
  have o2:=o2.2
  rw[dP] at o2
  have hxu:x=u:=by
   have:its[i]? = some x:=by simpa using px
   rw[hu] at this;cases this;rfl
  subst hxu
  refine ⟨_,rfl,?_⟩
  have hfr:H s.heap.objs.size=none:=I.hok.fresh (aN _)
  have I1:L2.Inv X pins σ (upd H s.heap.objs.size (.tup [.int ((i+1:Nat):Int),v])) { s with heap:=h',toks:=tk+1 }:=
   Inv.turnNew (ch:=[e,it]) I hf (fun b o hb q=>o5 b o (fun z=>hb (by simp[z])) (fun z=>hb (by simp[z])) q) (aN _)
    (show ObjOk X.prog X.w _ h' _ (.tup [.int ((i+1:Nat):Int),v]) from ⟨by show 2<=sizeLine;decide,[.int ((i+1:Nat):Int) tk,x],.cons ⟨_,rfl⟩ (.cons r .nil),⟨_,o3,rfl,_,rfl⟩⟩)
  refine wpAny_letOwnedTupleGo_enum o1 fun h2 e2 sb2=>?_
  have hne2:∀ b∈[e,it],b≠s.heap.objs.size:=fun b hb z=>by
   rcases cI.mp hb with q | q
   ·have:=aW he;rw[<- q,z] at this;exact dO _ this
   ·have q:b=it:=by simpa using q
    obtain ⟨o,ho,_⟩:=hit
    have:=aW ho;rw[<- q,z] at this;exact dO _ this
  have hnone:∀ b∈[e,it],(upd H s.heap.objs.size (.tup [.int ((i+1:Nat):Int),v])) b=none:=fun b hb=>by rw[Az (hne2 b hb)];exact (hf b hb).1
  obtain ⟨f0,f1,f2,f3,f4,f5⟩:=hf e (by simp)
  have I2:=I1.turned (t':=tk+1) (h':=h2) (it:=e) (fun b o hb q=>sb2.2 b hb |>.trans q) (hnone e (by simp)) f1 f3 f4 f5
  obtain ⟨oi,hoi,hci,hdi⟩:=o2.1
  refine ⟨.ref s.heap.objs.size,_,I2,rfl,⟨_,v,hfr,rfl,rfl,fun ys sq'=>?_⟩,⟨⟨_,e2⟩,oi,(sb2.2 it (fY hne)).trans hoi,hci,hdi⟩,hnone⟩
  rw[I.tuple_inj sq' sq];exact hx
 done:=by
  intro X hP hw hK hc i pins s σ H E I hf st hg
  subst hP hw hK
  obtain ⟨⟨old,he⟩,hit⟩:=st
  obtain ⟨xs,sq,hx⟩:=hg
  obtain ⟨its,hv,pl,hz⟩:=I.tuple sq
  obtain ⟨f0,f1,f2,f3,f4,f5⟩:=hf it (by simp)
  have hlen:=hv.length
  exact ZT.Sk (I.ok.hd hc) he hit pl (by simp;omega) fun h' eb=>⟨rfl,I.turned (t':=s.toks) (fun b o hb q=>eb b o hb q) f0 f1 f3 f4 f5⟩
 self:=fun _ _ _ _ _ st h=>by obtain ⟨⟨old,he⟩,_⟩:=st;exact rR he h
section
variable {X:Cx}{elts:List Expr}{x1:Nat}{tpos:Pos}
noncomputable def Anl(K:aD)(ta:TA):TI:=fun σ H R=>ta σ H fun vs H1=>∃ a xs,vs=[.ref a]/\SqT K H1 a xs/\R (Ald K a) H1
theorem Ac5{a:Expr}{ta:TA}{p pos p1 kp:Pos}{c1:Nat}(hg:Gl X "enumerate")(hm:X.mg "enumerate" = none)(ha:PA X [a] ta)(hs:bP [a] X.env=[(false,eval a X.env)]:=by rfl) :
  PI X (.Tuple elts x1 tpos) (.Call (.Name "enumerate" p) [a] [⟨some "start",.Constant (.int 1) c1 p1,kp⟩] pos) (Anl X.K ta):=by
 intro pins s σ H R I h
 refine dD (Iu I hg hm Aas (ZT.Xj (thn (ha pos pins s σ H _ I h) fun us s1 ⟨vs,H1,I1,r1,q1⟩=>?_) (by rw[hs];rfl) (by rw[hs];rfl) rfl rfl))
 obtain ⟨l,xs,rfl,sq,q⟩:=q1
 obtain ⟨u,rfl,ru⟩:=Kk r1
 cases ru
 refine thn (Sj (nm:=some (eK "start")) (kpos:=kp) Afp Wr pos pins s1 σ H1 (fun zs H2=>zs=[.int 1]/\H2=H1) I1 ⟨rfl,rfl⟩) fun ws s2 ⟨zs,H2,I2,rz,hz,hH⟩=>?_
 subst hH
 subst hz
 obtain ⟨v2,rfl,rv2⟩:=Kk rz
 obtain ⟨tk1,rfl⟩:=rv2
 obtain ⟨its,hv,pl,hz⟩:=I2.tuple sq
 refine ZT.Aij pl fun h' o1 o2 o3 o4=>?_
 have I3:L2.Inv X pins σ H2 { s2 with heap:=h' }:=I2.kept (t':=s2.toks) o4
 refine rR o1 ⟨_,_,_,_,H2,rfl,I3,V5 l (s2.heap.objs.size+1) s2.heap.objs.size (fZ (eI _)),⟨⟨_,o1⟩,o2⟩,fun b hb=>?_,q⟩
 have hb':s2.heap.objs.size<=b:=by
  simp only[cI,gL,or_false] at hb
  rcases hb with rfl | rfl
  ·exact kU _
  ·exact aN _
 exact L2.Inv.fpOk I2 hb' (I2.hok.fresh hb')
noncomputable def G6(us:List U):List U:=us.mapIdx fun i u=>.tup [.int ((i+1:Nat):Int),u]
noncomputable def Vy(g:FA):FI:=fun δ L=>(g δ L).bind fun p=>match p.1 with
 | [.tup us]=>some (.seq (G6 us),p.2)
 | _=>none
theorem Ad6{K:aD}{H:Hp}{α:List Addr}{a:Addr}{us:List U}{xs:List V}(sq:SqT K H a xs)(r:RepL K H α us xs):Ng K (Ald K a) (.seq (G6 us)) H α:=by
 intro H2 α2 L2 g A2 k
 have m:=(show RepU K H α (.tup us) (.ref a) by unfold RepU;exact ⟨a,xs,rfl,sq,r⟩).mono g
 unfold RepU at m
 obtain ⟨c',xs,e,sq2,r2⟩:=m
 cases e
 refine ⟨fun u eu=>?_,fun eu=>?_⟩
 ·have eu:(G6 us)[k]? = some u:=by simpa[IU.at] using eu
  unfold G6 at eu
  rw[lF] at eu
  obtain ⟨w,hw,eu⟩:=aK.mp eu
  subst eu
  obtain ⟨x,hx,rx⟩:=r2.get hw
  refine ⟨⟨xs,x,sq2,hx⟩,?_⟩
  rintro y H3 ⟨p,v,hp,rfl,rfl,hy⟩
  have:=hy xs sq2
  rw[hx] at this;cases this
  exact A2.tup (.cons rfl (.cons rx .nil)) hp
 ·have eu:(G6 us)[k]? = none:=by simpa[IU.at] using eu
  unfold G6 at eu
  rw[lF] at eu
  have:us[k]? = none:=by simpa using eu
  exact ⟨xs,sq2,by rw[<- r2.length];exact cM.mp this⟩
theorem Aa7{a:Expr}{g:FA}{p pos p1 kp:Pos}{c1:Nat}(hg:Gl X "enumerate")(hm:X.mg "enumerate" = none)(ha:PAF X [a] g)(hs:bP [a] X.env=[(false,eval a X.env)]:=by rfl) :
  PIF X (.Tuple elts x1 tpos) (.Call (.Name "enumerate" p) [a] [⟨some "start",.Constant (.int 1) c1 p1,kp⟩] pos) (Vy g):=by
 refine PI.imp (Ac5 hg hm ha hs) ?_
 rintro σ H R ⟨α,δ,L,A,S,i,L3,e,q⟩
 obtain ⟨⟨us,L1⟩,e1,e⟩:=aA.mp e
 simp only at e
 split at e
 ·cases e
  refine ⟨α,δ,L,A,S,_,_,e1,fun xs H1 α1 g1 A1 r1=>?_⟩
  obtain ⟨x,rfl,rx⟩:=r1.one
  unfold RepU at rx
  obtain ⟨a',ys,rfl,sq,r2⟩:=rx
  exact ⟨a',ys,rfl,sq,q _ H1 α1 g1 A1 (Ad6 sq r2)⟩
 ·cases e
end
section
variable {X:Cx}{o i e f:Expr}{pos apos cpos:Pos}{fo fi fe fx:FE}
end
end MR
namespace MR
open PySem PySem.Spec PyProof.Rows PySem.Calls L2
section
variable {X:Cx}
end
section
variable {X:Cx}{e f e' f':Expr}{fe fx fe' fx':FE}{pos:Pos}
noncomputable def Rz(fk fv fk' fv':FE):FE:=fun δ L=>(fk δ (L++[.dic []])).bind fun p=>(fv δ p.2).bind fun q=>(fk' δ q.2).bind fun p'=>(fv' δ p'.2).bind fun q'=>(toK p.1).bind fun k=>(toK p'.1).bind fun k'=>(dicAt q'.2 L.length).bind fun kvs=>match kvs with
 | []=>if k=k' then none else some (.ref L.length,q'.2.set L.length (.dic [(k,q.1),(k',q'.1)]))
 | _=>none
theorem Acz(hk:PEF X e fe)(hv:PEF X f fx)(hk':PEF X e' fe')(hv':PEF X f' fx'):PEF X (.Dict [some e,some e'] [f,f'] pos) (Rz fe fx fe' fx'):=by
 refine PE.imp (Ago (Uq hk hv (Uq hk' hv' Ai5)) rfl rfl (by simp) (by show 2<=15;omega)) ?_
 rintro σ H Q ⟨α,δ,L,A,S,z,L3,e,q⟩
 intro p hp
 have g:Gr H α (upd H p (.dK [])) (α ++ [p]):=⟨⟨[p],rfl⟩,.new hp _⟩
 obtain ⟨A',_⟩:=A.new (o:=.dK []) (u:=.dic []) hp ⟨[],upd_same,rfl,.nil⟩
 obtain ⟨⟨u,L1⟩,e1,e⟩:=aA.mp e
 obtain ⟨⟨w,L2⟩,e2,e⟩:=aA.mp e
 obtain ⟨⟨u',L4⟩,e3,e⟩:=aA.mp e
 obtain ⟨⟨w',L5⟩,e4,e⟩:=aA.mp e
 obtain ⟨k,hk,e⟩:=aA.mp e
 obtain ⟨k',hk',e⟩:=aA.mp e
 obtain ⟨kvs,hd,e⟩:=aA.mp e
 simp only at e
 split at e
 ·split at e
  ·cases e
  ·rename_i hne
   cases e
   refine ⟨α ++ [p],δ,_,A',S.mono g,u,L1,e1,fun x H1 α1 g1 A1 r1=>⟨α1,δ,L1,A1,(S.mono g).mono g1,w,L2,e2,fun y H2 α2 g2 A2 r2=>⟨α2,δ,L2,A2,((S.mono g).mono g1).mono g2,u',L4,e3,fun x' H3 α3 g3 A3 r3=>⟨α3,δ,L4,A3,(((S.mono g).mono g1).mono g2).mono g3,w',L5,e4,fun y' H4 α4 g4 A4 r4=>?_⟩⟩⟩⟩
   have hn:α4[L.length]? = some p:=(((g1.trans g2).trans g3).trans g4).at (by rw[<- A.len];simp)
   obtain ⟨a,vs,ex,ea,ha,rk⟩:=Gi A4 hd (x:=.ref p) (by unfold RepU;exact ⟨p,hn,rfl⟩)
   cases ex
   have hvs:vs=[]:=by
    obtain ⟨h1,_⟩:=rk
    cases vs with
    | nil=>rfl
    | cons _ _=>simp at h1
   subst hvs
   have hm:K5 [] [(k,y),(k',y')]=[(k,y),(k',y')]:=by
    simp[K5,putK,hne]
   obtain ⟨g5,A5⟩:=A4.setD hd ea ha (RepKV.mk (k:=k) (r2.mono (g3.trans g4)) (RepKV.mk (k:=k') r4 .nil))
   refine ⟨ha,[(k,y),(k',y')],?_,by show 2<=15;omega,?_⟩
   ·rw[K1 (r1.mono (g2.trans (g3.trans g4))) hk,K1 (r3.mono g4) hk'];rfl
   ·rw[hm]
    refine q _ _ α4 (((((g.trans g1).trans g2).trans g3).trans g4).trans g5) A5 ?_
    unfold RepU
    exact ⟨p,hn,rfl⟩
 ·cases e
end
end MR
namespace MR
open PySem PySem.Spec PyProof.Rows PySem.Calls L2 SO
noncomputable def ltT:List Int->List Int->Bool
 | _,[]=>false
 | [],_::_=>true
 | a::x,b::y=>if a == b then ltT x y else decide (a < b)
theorem Vh:∀ x y:List Int,ltT x y=true->ltT y x=false
 | x,[],h=>by unfold ltT at h;cases h
 | [],b::y,_=>by simp[ltT]
 | a::x,b::y,h=>by
  unfold ltT at h ⊢
  by_cases e:a=b
  ·subst e
   simp only[beq_self_eq_true,if_true] at h ⊢
   exact Vh x y h
  ·have h1:(a == b)=false:=by simpa using e
   have h2:(b == a)=false:=by simpa using fun q=>e q.symm
   simp only[h1,h2,bL,if_false,decide_eq_true_eq] at h ⊢
   simp only[decide_eq_false_iff_not];omega
theorem Ab6:∀ x y z:List Int,ltT y x=false->ltT z y=false->ltT z x=false
 | [],_,z,_,_=>by unfold ltT;rfl
 | a::x,[],z,h,_=>by simp[ltT] at h
 | a::x,b::y,[],_,h=>by simp[ltT] at h
 | a::x,b::y,c::z,h1,h2=>by
  unfold ltT at h1 h2 ⊢
  by_cases e1:b=a
  ·subst e1
   simp only[beq_self_eq_true,if_true] at h1
   by_cases e2:c=b
   ·subst e2
    simp only[beq_self_eq_true,if_true] at h2 ⊢
    exact Ab6 x y z h1 h2
   ·have q:(c == b)=false:=by simpa using e2
    simp only[q,bL,if_false] at h2 ⊢
    exact h2
  ·have q1:(b == a)=false:=by simpa using e1
   simp only[q1,bL,if_false,decide_eq_false_iff_not] at h1
   by_cases e2:c=b
   ·subst e2
    simp only[q1,bL,if_false,decide_eq_false_iff_not];exact h1
   ·have q2:(c == b)=false:=by simpa using e2
    simp only[q2,bL,if_false,decide_eq_false_iff_not] at h2
    have e3:c≠a:=by omega
    have q3:(c == a)=false:=by simpa using e3
    simp only[q3,bL,if_false,decide_eq_false_iff_not];omega
inductive Tups(K:aD)(H:Hp):List (List Int)->List V->Prop
 | nil:Tups K H [] []
 | cons {a:Addr} {n:Int} {t:List Int} {ts:List (List Int)} {ys:List V} (h:SqT K H a ((n::t).map V.int)) (r:Tups K H ts ys):Tups K H ((n::t)::ts) (.ref a::ys)
theorem Tups.len{K:aD}{H:Hp}{ts:List (List Int)}{ys:List V}(r:Tups K H ts ys):ts.length=ys.length:=by
 induction r with
 | nil=>rfl
 | cons h r ih=>simp[ih]
theorem Tups.at_{K:aD}{H:Hp}{ts:List (List Int)}{ys:List V}(r:Tups K H ts ys):∀ i,i < ts.length->∃ (a:Addr) (n:Int) (t:List Int),ts[i]? = some (n::t)/\ys[i]? = some (.ref a)/\SqT K H a ((n::t).map V.int):=by
 induction r with
 | nil=>intro i h;simp at h
 | @cons a n t ts ys h r ih=>
  intro i hi
  cases i with
  | zero=>exact ⟨a,n,t,rfl,rfl,h⟩
  | succ i=>simpa using ih i (by simpa using hi)
theorem Ab5{P:bQ}{w:cC}{A:cL}{b fin:Bool}{s:aG}{Q:Bool->aG->Prop}:∀ (ns ms:List Int) (xs ys:List aC) (i:Nat),Vals (ns.map V.int) xs->Vals (ms.map V.int) ys->fin=decide (ns.length < ms.length)->Q (ltT ns ms) s->PySem.W.KatLex P w A b fin Q (xs.zip ys) i s
 | [],ms,xs,ys,i,rx,ry,hf,q=>by
  rw[bV] at rx;cases rx
  rw[List.zip_nil_left]
  refine sS ?_
  rw[hf]
  cases ms with
  | nil=>exact q
  | cons m ms=>simpa[ltT] using q
 | n::ns,[],xs,ys,i,rx,ry,hf,q=>by
  rw[bV] at ry;cases ry
  rw[List.zip_nil_right]
  refine sS ?_
  rw[hf]
  simpa[ltT] using q
 | n::ns,m::ms,xs,ys,i,rx,ry,hf,q=>by
  rw[aL] at rx ry
  cases rx with
  | cons r1 r2=>
   cases ry with
   | cons s1 s2=>
    obtain ⟨t,rfl⟩:=r1
    obtain ⟨u,rfl⟩:=s1
    rw[List.zip_cons_cons]
    refine PySem.W.kat_cons (PySem.wpAny_eqBool_int ?_)
    unfold ltT at q
    cases e:(n == m) with
    | true=>
     rw[e,if_pos rfl] at q
     exact PySem.W.kat_yes (Ab5 ns ms _ _ (i+1) r2 s2 (by rw[hf];simp) q)
    | false=>
     rw[e,if_neg (by simp)] at q
     refine PySem.W.kat_no ?_
     cases (b&&i == 0) with
     | true=>exact oneLt_int q
     | false=>exact PySem.W.kat_one _ _ (lt_int q)
section
variable {X:Cx}
end
noncomputable def Air:U->Option (List Int)
 | .tup l=>mapO toI l
 | _=>none
noncomputable def Nx(l:List Int):U:=.tup (l.map U.int)
theorem X4:∀ {us:List U} {ts:List (List Int)},mapO Air us=some ts->us=ts.map Nx
 | [],ts,e=>by simp only[mapO] at e;cases e;rfl
 | u::us,ts,e=>by
  simp only[mapO] at e
  obtain ⟨t,e1,e⟩:=aA.mp e
  obtain ⟨tr,e2,e⟩:=aK.mp e
  subst e
  rw[aL,X4 e2]
  congr 1
  cases u with
  | tup l=>
   have:∀ (l:List U) (t:List Int),mapO toI l=some t->l=t.map U.int:=by
    intro l
    induction l with
    | nil=>intro t e;simp only[mapO] at e;cases e;rfl
    | cons a l ih=>
     intro t e
     simp only[mapO] at e
     obtain ⟨x,x1,e⟩:=aA.mp e
     obtain ⟨y,y1,e⟩:=aK.mp e
     subst e
     rw[aL,<- ih y y1]
     cases a <;> first | (cases x1;rfl) | cases x1
   unfold Nx
   rw[this l t e1]
  | _=>cases e1
end MR
namespace SO
open PySem PySem.W PyProof.Rows
noncomputable def Xl{α:Type}(lt:Nat->Nat->Bool):KasT α->α
 | .ret a=>a
 | .ask i j k=>Xl lt (k (lt i j))
theorem On.run{α:Type}{n:Nat}{lt:Nat->Nat->Bool}{P:α->Prop}:∀ {t:KasT α},On n lt P t->On n lt (fun a=>a=Xl lt t) t
 | .ret a,h=>rfl
 | .ask i j k,h=>⟨h.1,h.2.1,On.run h.2.2⟩
theorem On.holds{α:Type}{n:Nat}{lt:Nat->Nat->Bool}{P:α->Prop}:∀ {t:KasT α},On n lt P t->P (Xl lt t)
 | .ret a,h=>h
 | .ask i j k,h=>by
  show P (Xl lt (k (lt i j)))
  exact On.holds h.2.2
noncomputable def Eh(lt:Nat->Nat->Bool)(n:Nat):List Nat:=if n < 2 then dS n else (Xl lt (kH n)).toList
theorem K3{n:Nat}{lt:Nat->Nat->Bool}(W:Wo lt):(Eh lt n).Perm (dS n):=by
 unfold Eh
 split
 ·exact .refl _
 ·exact (Xv (n:=n) W (by omega)).holds.1.perm
end SO
namespace MR
open PySem PySem.Spec PyProof.Rows PySem.Calls L2 SO
section
variable {X:Cx}{pins:List (Addr×Obj)}{σ:L2.St}{H:Hp}{s:aG}{h':Heap}
theorem Inv.adopt{a:Addr}{o:HO}{t':Nat}(I:L2.Inv X pins σ H s)(hf:Ig X pins H a)(k:∀ b o,b≠a->s.heap.get? b=some o->h'.get? b=some o)(new:ObjOk X.prog X.w (upd H a o) h' a o) :
  L2.Inv X pins σ (upd H a o) { s with heap:=h',toks:=t' }:=by
 have hn:H a=none:=hf.1
 have na:∀ b u,H b=some u->b≠a:=fun b u e z=>by rw[z,hn] at e;cases e
 have st:=Stay.new hn o
 refine I.step (g':=s.gens) (d':=s.drawn) (ch:=[a]) (fun b hb=>?_) (fun b o _ _ hc e _=>k b o (fun z=>hc (by simp[z])) e) (fun b o _ _ hc e _=>⟨o.slots,k b o (fun z=>hc (by simp[z])) e⟩) (fun b u hc e n=>?_) (fun b u hc e=>⟨u,k b u (fun z=>hc (by simp[z])) e⟩) st.1 st.2 (fun b ps e=>⟨#[],?_⟩) (fun m hm=>?_) (fun b u e=>?_) I.bare
 ·have e:b=a:=by simpa using hb
  subst e
  obtain ⟨_,f1,_,f3,f4,f5⟩:=hf
  exact ⟨f3,f1,f4,f5⟩
 ·rw[Az (fun z=>hc (by simp[z]))];exact n
 ·rw[Az (na b _ e),e];simp
 ·obtain ⟨o1,es,ep,ho,r⟩:=hm
  exact ⟨o1,es,ep,k _ o1 (fY hf.2.1) ho,r⟩
 ·by_cases hb:b=a
  ·subst hb;rw[upd_same] at e;cases e;exact new
  ·rw[Az hb] at e
   refine (I.hok b u e).stay (fun c v hc q=>k c v ?_ q) (fun c q=>by rw[Az (na c _ q)];exact q) fun c xs q=>by rw[Az (na c _ q)];exact q
   rcases hc with z | z
   ·rw[z];exact hb
   ·exact na c _ z
theorem Ahp{A:cL}{k:Nat}{f:Addr}{fd:bT}{p:Str}{m:FN}(F:FnOk X.prog X.w X.K X.mg X.base CX0 k f fd [p] (spF X.K 1 m))(hr:Room k A)(hA:A.frames=X.A.frames)(hb:Binds X.K fd [p] [])
  (I:L2.Inv X pins σ H s) {α:List Addr} {L:UH} {u z:U} {y:V} {x:aC} (Ab:Abs X.K H α L) (ru:RepU X.K H α u y) (rx:L2.RelV y x) (hm:m [u] L=some (z,L)) :
  wpAny (model X.prog X.w) A (call (.ref f) [x]) (EP X pins σ (fun v H'=>∃ α',Gr H α H' α'/\Abs X.K H' α' L/\RepU X.K H' α' z v)) (fun _ _=>False) s:=by
 have e0:=I.env0
 have e1:Env0 X.prog X.w X.K X.mg X.base A X.stack s H:=⟨hA.trans e0.frames,e0.mod,e0.bs,e0.bsz,e0.funs,e0.frf,e0.hok,e0.bare⟩
 have hsp:spF X.K 1 m [y] H (fun v H'=>∃ α',Gr H α H' α'/\Abs X.K H' α' L/\RepU X.K H' α' z v) E0:=⟨α,L,[u],Ab,.cons ru .nil,rfl,z,L,hm,fun v H' α' g A' r'=>⟨α',g,A',r'⟩⟩
 have hbt:=hb s [x] I.kIn (by simp)
 refine kN (fL (F.run A X.stack s H ⟨[x],[]⟩ [x] [y] _ E0 hr e1 (by simpa using hbt) (.cons rx .nil) hsp) fun r s' hq=>?_)
 cases r with
 | error e=>exact hq
 | ok fl=>
  cases fl with
  | ret u=>exact I.after hq
  | next=>exact dH hq
  | brk=>exact dH hq
  | cont=>exact dH hq
end
section
variable {X:Cx}{pins:List (Addr×Obj)}{σ:L2.St}{H:Hp}{s:aG}
theorem Y6:∀ l:List Int,mapO toI (l.map U.int)=some l
 | []=>rfl
 | a::r=>by simp only[aL,mapO,toI,Y6 r,aE,aI]
noncomputable def ltK(ks:List (List Int))(i j:Nat):Bool:=ltT (ks.getD i []) (ks.getD j [])
theorem Mq(ks:List (List Int)):Wo (ltK ks):=⟨fun i j h=>Vh _ _ h,fun i j k h1 h2=>Ab6 _ _ _ h1 h2⟩
theorem Aln{k:Nat}{f a:Addr}{fd:bT}{p:Str}{m:FN}{c0:Nat}{vs:List aC}{ys:List V}{us:List U}{ks:List (List Int)}{α:List Addr}{L:UH}
  (F:FnOk X.prog X.w X.K X.mg X.base CX0 k f fd [p] (spF X.K 1 m)) (hr:Room k X.A.in1.in1) (hb:Binds X.K fd [p] []) (I:L2.Inv X pins σ H s) (fa:Ig X pins H a)
  (ho:s.heap.get? a=some (seqObj "list" vs.toArray c0)) (rv:Vals ys vs) (ru:RepL X.K H α us ys) (Ab:Abs X.K H α L) (hl:ks.length=vs.length) (hk1:∀ t∈ks,t≠[])
  (hk:∀ (i:Nat) (u:U) (t:List Int),us[i]? = some u->ks[i]? = some t->m [u] L=some (Nx t,L)) (h64:vs.length < 64) :
  wpAny (model X.prog X.w) X.A.in1.in1 (ksk_tree a (.ref f) false) (fun fin s'=>fin = .done (.ret .none)/\∃ H' α',L2.Inv X pins σ (upd H' a (.lst ((Eh (ltK ks) vs.length).map fun i=>ys.getD i .non))) s'/\H' a=none/\Gr H α H' α'/\Abs X.K H' α' L) X.xe s:=by
 have hyl:=rv.length
 have hul:=ru.length
 have z1:vs.toArray.size<=sizeLine:=by rw[bM,eC];omega
 obtain ⟨e1,h1⟩:∃ e1,(s.heap.update a (cJ fun _=>(#[]:Array aC))).get? a=some (seqObj "list" #[] e1):=⟨_,jO ho fun _=>#[]⟩
 have hlt:a < s.heap.objs.size:=aW ho
 have sb:=dR s.heap a (cJ fun _=>(#[]:Array aC))
 have I1:L2.Inv X pins σ H { s with heap:=s.heap.update a (cJ fun _=>(#[]:Array aC)) }:=I.turned (t':=s.toks) (fun b o hb e=>(sb.2 b hb).trans e) fa.1 fa.2.1 fa.2.2.2.1 fa.2.2.2.2.1 fa.2.2.2.2.2
 have hs1:(s.heap.update a (cJ fun _=>(#[]:Array aC))).objs.size=s.heap.objs.size:=sE ..
 generalize hA:s.heap.update a (cJ fun _=>(#[]:Array aC))=hp1 at h1 I1 hs1
 have I2:L2.Inv X pins σ H { s with heap:=hp1.push { cls:=.type "tuple",data:=.seq vs.toArray } }:=I1.kept (t':=s.toks) fun b o e=>aF _ e
 have h2:(hp1.push { cls:=.type "tuple",data:=.seq vs.toArray }).get? a=some (seqObj "list" #[] e1):=aF _ h1
 have hs2:(hp1.push { cls:=.type "tuple",data:=.seq vs.toArray }).objs.size=s.heap.objs.size+1:=by rw[dC,hs1]
 generalize hB:hp1.push { cls:=.type "tuple",data:=.seq vs.toArray } = hp2 at I2 h2 hs2
 have I3:L2.Inv X pins σ H { s with heap:=hp2.push { cls:=.type "list",data:=.seq (gE []) } }:=I2.kept (t':=s.toks) fun b o e=>aF _ e
 have h3:(hp2.push { cls:=.type "list",data:=.seq (gE []) }).get? a=some (seqObj "list" #[] e1):=aF _ h2
 have hkS:(hp2.push { cls:=.type "list",data:=.seq (gE []) }).get? hp2.objs.size=some (seqObj "list" #[] 0):=aP _ rfl
 have fk:Ig X pins H hp2.objs.size:=I2.fpOk (s:={ s with heap:=hp2 }) (aN _) (I2.hok.fresh (aN _))
 have hne:hp2.objs.size≠a:=by rw[hs2];exact fZ (nD hlt)
 generalize hC:hp2.push { cls:=.type "list",data:=.seq (gE []) } = hp3 at I3 h3 hkS
 generalize hS:hp2.objs.size=kS at hkS fk hne
 unfold ksk_tree
 refine aB (rH ho rfl (aB (jI ho rfl ?_ z1 (eR _))))
 rw[hA]
 refine aB (pR (s:={ s with heap:=hp1 }) h1 rfl (aB (mH ?_ (by show vs.length<=_;rw[eC];omega))))
 show wpAny _ _ _ _ _ ({ s with heap:=hp1.push { cls:=.type "tuple",data:=.seq vs.toArray } }:aG)
 rw[hB]
 refine aB (nO ?_ (eR _))
 show wpAny _ _ _ _ _ ({ s with heap:=hp2.push { cls:=.type "list",data:=.seq (gE []) } }:aG)
 rw[hC]
 show wpAny _ _ (holding _ (ksk_rest a (.ref f) false vs.toArray e1 (.ref hp2.objs.size))) _ _ _
 rw[hS]
 refine eG ?_
 unfold ksk_rest
 refine aB (eY ?_)
 rw[<- Array.forIn_toList]
 have pin2:∀ (kv:List aC) (e:Nat) (H':Hp) (s':aG),L2.Inv X pins σ H' s'->H' kS=none->H' a=none->s'.heap.get? kS=some (seqObj "list" kv.toArray e)->s'.heap.get? a=some (seqObj "list" #[] e1)->L2.Inv X ((kS,seqObj "list" kv.toArray e)::(a,seqObj "list" #[] e1)::pins) σ H' s':=by
  intro kv e H' s' J n1 n2 g1 g2
  refine J.pins_of fun q hq=>?_
  rcases cI.mp hq with rfl | hq
  ·exact ⟨g1,n1,fk.2.1,fk.2.2.1,fun v z=>by cases z⟩
  ·rcases cI.mp hq with rfl | hq
   ·exact ⟨g2,n2,fa.2.1,fa.2.2.1,fun v z=>by cases z⟩
   ·exact J.pin q (bR _ hq)
 refine aB (ksk_fold (fun j s'=>∃ (H':Hp) (α':List Addr) (kv:List aC) (kx:List V) (e:Nat),L2.Inv X ((kS,seqObj "list" kv.toArray e)::(a,seqObj "list" #[] e1)::pins) σ H' s'/\Gr H α H' α'/\Abs X.K H' α' L/\Vals kx kv/\RepL X.K H' α' ((ks.take j).map Nx) kx) vs 0 _
  ⟨H,α,[],[],0,pin2 [] 0 H _ I3 fk.1 fa.1 hkS h3,.refl _ _,Ab,.nil,.nil⟩ ?step ?done)
 case step=>
  rintro j x s' hx ⟨H',α',kv,kx,e,J,g,A',rk,rr⟩
  simp only[rG] at rr ⊢
  have hj:j < vs.length:=(aZ.mp hx).1
  obtain ⟨t,ht⟩:∃ t,ks[j]? = some t:=⟨ks[j],aH (by omega)⟩
  obtain ⟨y,hy⟩:∃ y,ys[j]? = some y:=⟨ys[j],aH (by omega)⟩
  obtain ⟨x',hx',rx⟩:=rv.get hy
  rw[hx] at hx';cases hx'
  obtain ⟨u,hu,ry⟩:=ru.get' hy
  have hkl:=rr.length
  have hkl2:=rk.length
  rw[cH,fK] at hkl
  refine aB (gI (eL (Ahp (A:=X.A.in1.in1) F hr rfl hb J A' (ry.mono g) rx (hk j u t hu ht)) (fun v s'' hv=>?_) fun _ _ hF=>hF.elim))
  obtain ⟨v',H2,J2,rv',α2,g2,A2,r2⟩:=hv
  dsimp only
  have p1:=J2.pin (kS,seqObj "list" kv.toArray e) (bR _ (cN ..))
  have p2:=J2.pin (a,seqObj "list" #[] e1) (bR _ (bN _ (cN ..)))
  have J3:L2.Inv X pins σ H2 s'':=J2.pins_of fun q hq=>J2.pin q (bR _ (bN _ (bN _ hq)))
  have sb2:=dR s''.heap kS (cJ (·.push v))
  obtain ⟨e2,he2⟩:∃ e2,(s''.heap.update kS (cJ (·.push v))).get? kS=some (seqObj "list" (kv.toArray.push v) e2):=⟨_,jO p1.1 (·.push v)⟩
  have J4:L2.Inv X pins σ H2 { s'' with heap:=s''.heap.update kS (cJ (·.push v)) }:=J3.turned (t':=s''.toks) (fun b o hb e=>(sb2.2 b hb).trans e) p1.2.1 fk.2.1 fk.2.2.2.1 fk.2.2.2.2.1 fk.2.2.2.2.2
  refine aB (jI p1.1 rfl ?_ (by rw[bM,eC];omega) (by rw[Array.size_push,bM,eC];omega))
  have hpush:kv.toArray.push v=(kv++[v]).toArray:=by simp
  rw[hpush] at he2
  refine aJ ⟨rfl,H2,α2,kv++[v],kx++[v'],e2,pin2 (kv++[v]) e2 H2 _ J4 p1.2.1 p2.2.1 he2 ((sb2.2 a (fY hne)).trans p2.1),g.trans g2,A2,rk.append (.cons rv' .nil),?_⟩
  have htk:ks.take (j+1)=ks.take j++[t]:=by rw[mY,ht];rfl
  rw[htk,lQ]
  exact (rr.mono g2).append (.cons r2 .nil)
 case done=>
  rintro s' ⟨H',α',kv,kx,e,J,g,A',rk,rr⟩
  have htk:ks.take (0+vs.length)=ks:=eJ (by omega)
  rw[htk] at rr
  have hkl:=rr.length
  have hkl2:=rk.length
  rw[cH] at hkl
  have hkv:kv.length=vs.length:=by omega
  have p1:=J.pin (kS,seqObj "list" kv.toArray e) (bR _ (cN ..))
  have p2:=J.pin (a,seqObj "list" #[] e1) (bR _ (bN _ (cN ..)))
  have J3:L2.Inv X pins σ H' s':=J.pins_of fun q hq=>J.pin q (bR _ (bN _ (bN _ hq)))
  refine aB (rH p1.1 rfl ?_)
  have hat:∀ i,i < kv.length->∃ (b:Addr) (n:Int) (t:List Int) (ws:List aC),kv[i]? = some (.ref b)/\ks.getD i []=n::t/\Vals ((n::t).map V.int) ws/\IsTup s'.heap b ws.toArray:=by
   intro i hi
   obtain ⟨t,ht⟩:∃ t,ks[i]? = some t:=⟨ks[i],aH (by omega)⟩
   obtain ⟨y,hy,ry⟩:=rr.get (i:=i) (u:=Nx t) (by rw[cB,ht];rfl)
   obtain ⟨v,hv,rx⟩:=rk.get hy
   unfold Nx RepU at ry
   obtain ⟨b,xs,rfl,sq,rl⟩:=ry
   cases rx
   have hxs:=Lq rl (Y6 t)
   rw[hxs] at sq
   obtain ⟨ws,r2,it,_⟩:=J3.tuple sq
   cases t with
   | nil=>exact absurd rfl (hk1 [] (eS ht))
   | cons n t=>exact ⟨b,n,t,ws,hv,by rw[bC,ht];rfl,r2,it⟩
  have fin:∀ (q:Array Nat) (st:aX),q.toList=Eh (ltK ks) vs.length->(arrOf st).map (·.2)=(Lz vs q).toArray->failedOf st=none->wpAny (model X.prog X.w) X.A.in1.in1 (ksk_tail a false e1 (.ref kS) st)
    (fun fin s'=>fin = .done (.ret .none)/\∃ H' α',L2.Inv X pins σ (upd H' a (.lst ((Eh (ltK ks) vs.length).map fun i=>ys.getD i .non))) s'/\H' a=none/\Gr H α H' α'/\Abs X.K H' α' L) X.xe s':=by
   intro q st hq hout hfail
   have hperm:=K3 (n:=vs.length) (Mq ks)
   have hlen:(Lz vs q).length=vs.length:=by unfold Lz;rw[hq,cH,hperm.length_eq,fT]
   have sb1:=dR s'.heap kS (cJ fun _=>(#[]:Array aC))
   have J4:L2.Inv X pins σ H' { s' with heap:=s'.heap.update kS (cJ fun _=>(#[]:Array aC)) }:=J3.turned (t':=s'.toks) (fun b o hb e=>(sb1.2 b hb).trans e) p1.2.1 fk.2.1 fk.2.2.2.1 fk.2.2.2.2.1 fk.2.2.2.2.2
   have ga:(s'.heap.update kS (cJ fun _=>(#[]:Array aC))).get? a=some (seqObj "list" #[] e1):=(sb1.2 a (fY hne)).trans p2.1
   generalize hG:s'.heap.update kS (cJ fun _=>(#[]:Array aC))=g1 at J4 ga
   have sb3:=dR g1 a (cJ fun _=>(Lz vs q).toArray)
   obtain ⟨c2,hc2⟩:∃ c2,(g1.update a (cJ fun _=>(Lz vs q).toArray)).get? a=some (seqObj "list" (Lz vs q).toArray c2):=⟨_,jO ga fun _=>(Lz vs q).toArray⟩
   have hlt':∀ k∈Eh (ltK ks) vs.length,k < ys.length:=fun k hk=>by
    have:=eB.mp (hperm.mem_iff.mp hk)
    omega
   have hrel:Vals ((Eh (ltK ks) vs.length).map fun i=>ys.getD i .non) (Lz vs q):=by
    unfold Lz
    rw[hq]
    have:∀ js:List Nat,(∀ k∈js,k < ys.length)->Vals (js.map fun i=>ys.getD i .non) (js.map fun i=>vs.getD i eA):=by
     intro js
     induction js with
     | nil=>intro _;exact .nil
     | cons k js ih=>
      intro hk
      have hk0:=hk k (cN ..)
      obtain ⟨v,e3,rr⟩:=rv.get (aH hk0)
      refine .cons ?_ (ih fun x hx=>hk x (bN _ hx))
      show L2.RelV (ys.getD k .non) (vs.getD k eA)
      rw[bC,bC,aH hk0,e3]
      exact rr
    exact this _ hlt'
   have hsz:((Eh (ltK ks) vs.length).map fun i=>ys.getD i .non).length<=sizeLine:=by
    rw[cH,hperm.length_eq,fT,eC];omega
   have J5:L2.Inv X pins σ (upd H' a (.lst ((Eh (ltK ks) vs.length).map fun i=>ys.getD i .non))) { s' with heap:=g1.update a (cJ fun _=>(Lz vs q).toArray) }:=
    Inv.adopt (s:={ s' with heap:=g1 }) (t':=s'.toks) J4 ⟨p2.2.1,fa.2⟩ (fun b o hb e=>(sb3.2 b hb).trans e) ⟨hsz,Lz vs q,c2,hrel,hc2⟩
   unfold ksk_tail
   refine aB (jI p1.1 rfl ?_ (by rw[bM,eC];omega) (eR _))
   rw[hG]
   refine aB (pM (aB (pR (s:={ s' with heap:=g1 }) ga rfl ?_)))
   have hout':(if false=true then ((arrOf st).map (·.2)).reverse else (arrOf st).map (·.2))=(Lz vs q).toArray:=by rw[if_neg (by simp)];exact hout
   rw[hout',hfail]
   refine aB (jI (s:={ s' with heap:=g1 }) ga rfl ?_ (eR _) (by rw[bM,hlen,eC];omega))
   simp only[bne_self_eq_false,bL,if_false]
   exact aJ ⟨rfl,H',α',J5,p2.2.1,g,A'⟩
  unfold ksk_end
  simp only[bL,if_false]
  by_cases hsmall:vs.toArray.size < 2
  ·rw[if_pos hsmall,if_pos hsmall]
   have hs2:vs.length < 2:=by simpa using hsmall
   refine aB (aJ ?_)
   rw[sQ]
   refine aB (aJ (fin (gE (dS vs.length)) (qL general' (kv.toArray.zip vs.toArray) #[] 7 none) ?_ ?_ rfl))
   ·unfold Eh;rw[if_pos hs2]
   ·rw[Wc]
    show (kv.toArray.zip vs.toArray).map (·.2)=vs.toArray
    apply Array.ext
    ·simp;omega
    ·intro i i1 i2;simp
  ·rw[if_neg hsmall,if_neg hsmall]
   have hs2:2<=vs.length:=by simp at hsmall;omega
   have mk:∀ (m:Nat),m<=kv.length->∃ fs:List aC,PySem.W.KatTups s'.heap (kv.drop (kv.length - m)) fs/\fs.length=m/\∀ v∈fs,PySem.W.Looks (model X.prog X.w) s'.heap (typeOf v) (.type "int"):=by
    intro m
    induction m with
    | zero=>intro _;exact ⟨[],by rw[Nat.sub_zero,List.drop_length];exact PySem.W.KatTups.nil,rfl,by simp⟩
    | succ m ih=>
     intro hm
     obtain ⟨fs,k1,k2,k3⟩:=ih (by omega)
     obtain ⟨b,n,t,ws,q1,_,r2,it⟩:=hat (kv.length - (m+1)) (by omega)
     obtain ⟨o,ho',hcls,nn,hd⟩:=it
     rw[aL] at r2
     cases r2 with
     | @cons _ v0 _ vr rr rs=>
      obtain ⟨tk,rfl⟩:=rr
      have hdrop:kv.drop (kv.length - (m+1)) = .ref b::kv.drop (kv.length - m):=by
       have hlt2:kv.length - (m+1) < kv.length:=by omega
       rw[fG hlt2]
       have:kv[kv.length - (m+1)] = .ref b:=by
        rw[aH hlt2] at q1;exact bZ q1
       rw[this]
       congr 2;omega
      refine ⟨.int n tk::fs,?_,by simp[k2],fun v hv=>?_⟩
      ·rw[hdrop]
       exact PySem.W.KatTups.cons ho' hcls hd rfl k1
      ·rcases cI.mp hv with e | e
       ·subst e
        exact PySem.W.Looks.now
       ·exact k3 v e
   obtain ⟨fs,k1,k2,k3⟩:=mk kv.length (aN _)
   rw[cS,tK] at k1
   refine aB (PySem.W.kat_kind k1 (by omega) k3 rfl ?_)
   have ask:∀ (i j:Nat) (C:Bool->aG->Prop),i < vs.length->j < vs.length->C (ltK ks i j) s'->oX X.prog X.w X.A.in1.in1 (tuples' (eV "int" != eV "tuple")) kv i j C s':=by
    intro i j C hi hj hC
    obtain ⟨b,n,t,ws,q1,q2,r2,it⟩:=hat i (by omega)
    obtain ⟨b',n',t',ws',q1',q2',r2',it'⟩:=hat j (by omega)
    obtain ⟨o,ho1,_,c1,hd⟩:=it
    obtain ⟨o',ho2,_,c2,hd'⟩:=it'
    have g1:kv.getD i eA = .ref b:=by rw[bC,q1];rfl
    have g2:kv.getD j eA = .ref b':=by rw[bC,q1'];rfl
    unfold oX
    rw[g1,g2]
    refine PySem.W.kat_lt ho1 hd ho2 hd' ?_
    have hl1:=r2.length
    have hl2:=r2'.length
    rw[cH] at hl1 hl2
    refine Ab5 (n::t) (n'::t') ws ws' 0 r2 r2' ?_ ?_
    ·rw[bM,bM,<- hl1,<- hl2]
    ·rw[<- q2,<- q2'];exact hC
   have on:=(Xv (n:=vs.length) (Mq ks) (by omega)).run.wp (cmp:=oX X.prog X.w X.A.in1.in1 (tuples' (eV "int" != eV "tuple")) kv) (s:=s') (Q:=fun q s2=>q=Xl (ltK ks) (kH vs.length)/\s2=s') (fun i j C hi hj hC=>ask i j C hi hj hC) fun q h=>⟨h,rfl⟩
   refine aB (eL (PySem.W.kat_run (ks:=kv) (vs:=vs) (Q:=fun st s2=>∃ q:Array Nat,arrOf st=q.map (PySem.W.kas_item (kv.toArray.zip vs.toArray))/\failedOf st=none/\q=Xl (ltK ks) (kH vs.length)/\s2=s') hkv hs2 h64 (fun q st s2 _ q1 q2 q3=>⟨q,q1,q2,q3⟩) on) ?_ fun _ _ e=>e)
   rintro ⟨⟨⟩,st⟩ s2 ⟨q,q1,q2,q3,rfl⟩
   refine fin q st ?_ (PySem.W.kat_snds hkv q1) q2
   unfold Eh
   rw[if_neg (by omega),q3]
theorem Ahr{k:Nat}{f l:Addr}{fd:bT}{p:Str}{m:FN}{ys:List V}{us:List U}{ks:List (List Int)}{α:List Addr}{L:UH}{Q:VK}
  (F:FnOk X.prog X.w X.K X.mg X.base CX0 k f fd [p] (spF X.K 1 m)) (hr:Room (k+2) X.A) (hb:Binds X.K fd [p] []) (I:L2.Inv X pins σ H s) (hq:SqL X.K H l ys) (ru:RepL X.K H α us ys) (Ab:Abs X.K H α L) (hl:ks.length=ys.length) (hk1:∀ t∈ks,t≠[])
  (hk:∀ (i:Nat) (u:U) (t:List Int),us[i]? = some u->ks[i]? = some t->m [u] L=some (Nx t,L)) (h64:ys.length < 64)
  (q:∀ (b:Addr) (H':Hp) (α':List Addr),H' b=none->Gr H α H' α'->Abs X.K H' α' L->Q (.ref b) (upd H' b (.lst ((Eh (ltK ks) ys.length).map fun i=>ys.getD i .non)))) :
  wpAny (model X.prog X.w) X.A (call (.builtin "sorted") [.ref l] [(eK "key",.ref f)]) (EP X pins σ Q) X.xe s:=by
 obtain ⟨its,rv,pl,hz⟩:=I.list hq
 have hlen:=rv.length
 have hil:=pl.isList
 have e1:((s.heap.push (seqObj "list" #[] 0)).update s.heap.objs.size (cJ (· ++ its.toArray))).objs.size=s.heap.objs.size+1:=by rw[sE,size_push']
 have e2:(((s.heap.push (seqObj "list" #[] 0)).update s.heap.objs.size (cJ (· ++ its.toArray))).push (seqObj "list" its.toArray 0)).get? (s.heap.objs.size+1)=some (seqObj "list" its.toArray 0):=by rw[<- e1];exact aP _ rfl
 have e0:∀ b o,s.heap.get? b=some o->((s.heap.push (seqObj "list" #[] 0)).update s.heap.objs.size (cJ (· ++ its.toArray))).get? b=some o:=fun b o q=>V3 _ _ _ b o (bY (aW q)) (aF _ q)
 have J0:L2.Inv X pins σ H { s with heap:=(s.heap.push (seqObj "list" #[] 0)).update s.heap.objs.size (cJ (· ++ its.toArray)) }:=I.kept (t':=s.toks) e0
 have J1:L2.Inv X pins σ H { s with heap:=((s.heap.push (seqObj "list" #[] 0)).update s.heap.objs.size (cJ (· ++ its.toArray))).push (seqObj "list" its.toArray 0) }:=J0.kept (t':=s.toks) fun b o e=>aF _ e
 have fp:Ig X pins H (s.heap.objs.size+1):=by
  rw[<- e1]
  exact J0.fpOk (aN _) (J0.hok.fresh (aN _))
 refine call_function_entry_kw kind_sorted plain_sorted entry_sorted (ksk_s1 _ _) ?_
 unfold gD.«sorted»
 refine aB (m:=checkCount "sorted" 1 1 _) (aJ (aB (collect_list hil (aB (nO ?_ ?y2)) ?y1)))
 case y1=>rw[eC];omega
 case y2=>rw[eC];omega
 show wpAny _ _ _ _ _ ({ s with heap:=((s.heap.push (seqObj "list" #[] 0)).update s.heap.objs.size (cJ (· ++ its.toArray))).push (seqObj "list" its.toArray 0) }:aG)
 rw[e1]
 refine aB (eG (wpAny_call_entry_kw slot_list_sort ⟨_,e2,rfl⟩ entry_list_sort ?body (ksk_l1 _ _)))
 case body=>
  show wpAny (model X.prog X.w) X.A.in1.in1 (gD.«list.sort» ⟨[.ref (s.heap.objs.size+1)],[(eK "key",.ref f)]⟩) _ _ _
  rw[ksk_t1]
  refine eL (Aln F (hr.in1.in1) hb J1 fp e2 rv ru Ab (by omega) hk1 hk (by omega)) (fun fin s' ⟨hf,H',α',J,hn,g,A'⟩=>?_) fun _ _ e=>e
  subst hf
  refine ⟨_,rfl,aJ ⟨_,rfl,.ref (s.heap.objs.size+1),_,J,rfl,?_⟩⟩
  have:=q (s.heap.objs.size+1) H' α' hn g A'
  rw[hlen] at this
  exact this
end
open Classical in
noncomputable def Rh(m:FN)(L:UH)(u:U):Option (List Int):=(m [u] L).bind fun r=>if r.2=L then Air r.1 else none
noncomputable def Jv(m:FN)(f:FE):FE:=fun δ L=>(f δ L).bind fun q=>match q.1 with
 | .ref n=>(Bi q.2 n).bind fun us=>(mapO (Rh m q.2) us).bind fun ks=>if us.length < 64/\(ks.all fun t=>!t.isEmpty)=true then some (.ref q.2.length,q.2++[.lst ((Eh (ltK ks) us.length).map fun i=>us.getD i .non)]) else none
 | _=>none
theorem Ae7{m:FN}{L:UH}{u:U}{t:List Int}(h:Rh m L u=some t):m [u] L=some (Nx t,L):=by
 unfold Rh at h
 obtain ⟨⟨z,L'⟩,e,h⟩:=aA.mp h
 simp only at h
 split at h
 ·rename_i hL
  subst hL
  have h1:mapO Air [z]=some [t]:=by
   have h0:Air z=some t:=by assumption
   simp only[mapO,h0,aE,aI]
  have h2:=X4 h1
  simp only[aL,bV,jN,and_true] at h2
  rw[e,h2]
 ·cases h
theorem Us{β γ:Type}{f:β->Option γ}:∀ {l:List β} {r:List γ},mapO f l=some r->l.length=r.length
 | [],r,h=>by simp only[mapO] at h;cases h;rfl
 | a::l,r,h=>by
  simp only[mapO] at h
  obtain ⟨x,_,h⟩:=aA.mp h
  obtain ⟨y,hy,h⟩:=aK.mp h
  subst h
  simp[Us hy]
theorem Vg{β γ:Type}{f:β->Option γ}:∀ {l:List β} {r:List γ} {i:Nat} {a:β} {b:γ},mapO f l=some r->l[i]? = some a->r[i]? = some b->f a=some b
 | [],r,i,a,b,h,h1,h2=>by simp at h1
 | c::l,r,i,a,b,h,h1,h2=>by
  simp only[mapO] at h
  obtain ⟨x,hx,h⟩:=aA.mp h
  obtain ⟨y,hy,h⟩:=aK.mp h
  subst h
  cases i with
  | zero=>simp at h1 h2;subst h1;subst h2;exact hx
  | succ i=>exact Vg hy (by simpa using h1) (by simpa using h2)
theorem Vj{X:Cx}{k:Nat}{f:Addr}{fd:bT}{pn kf:Str}{m:FN}{e:Expr}{fe:FE}{p kp kpos pos:Pos}(F:FnOk X.prog X.w X.K X.mg X.base CX0 k f fd [pn] (spF X.K 1 m))(hr:Room (k+2) X.A)(hb:Binds X.K fd [pn] [])
  (hg:Gl X "sorted") (hm:X.mg "sorted" = none) (hgk:Gl X kf) (hmk:X.mg kf=some (.ref f)) (he:PEF X e fe) (hd:(kf == ("__debug__" : Str))=false:=by decide)
  (hs:bP [e] X.env=[(false,eval e X.env)]:=by rfl):PEF X (.Call (.Name "sorted" p) [e] [⟨some (eK "key"),.Name kf kp,kpos⟩] pos) (Jv m fe):=by
 intro pins s σ H Q I h
 obtain ⟨α,δ,L,A,S,z,L3,ez,q⟩:=h
 unfold Jv at ez
 obtain ⟨⟨u,L1⟩,e1,ez⟩:=aA.mp ez
 simp only at ez
 split at ez
 ·rename_i n
  obtain ⟨us,hus,ez⟩:=aA.mp ez
  obtain ⟨ks,hks,ez⟩:=aA.mp ez
  split at ez
  ·rename_i hc
   cases ez
   refine dD (Iu I hg hm nQ ?_)
   refine callWith_kw ?_ (by rw[hs];rfl) (by rw[hs];rfl) (by rfl)
   have hpa:PAF X [e] (Ac fe Aj):=Ad he Ah (hs:=by rw[hs];rfl)
   have hA:(Ac fe Aj) δ L=some ([.ref n],L1):=by
    show (fe δ L).bind _=_
    rw[e1];rfl
   refine thn (hpa pos pins s σ H (fun vs H1=>∃ α1,Gr H α H1 α1/\Abs X.K H1 α1 L1/\RepL X.K H1 α1 [.ref n] vs) I ⟨α,δ,L,A,S,_,L1,hA,fun vs H1 α1 g1 A1 r1=>⟨α1,g1,A1,r1⟩⟩) fun vs s1 ⟨xs,H1,I1,rx,α1,g1,A1,r1⟩=>?_
   refine thn (Sj (nm:=some (eK "key")) (kpos:=kpos) (Aid (v:=.ref f) hgk hmk rfl hd) Wr pos pins s1 σ H1 (fun zs H2=>zs=[.ref f]/\H2=H1) I1 ⟨rfl,rfl⟩) fun ws s2 ⟨zs,H2,I2,rz,hz,hH⟩=>?_
   subst hH
   subst hz
   obtain ⟨y,rfl,ry⟩:=r1.one
   obtain ⟨b,ys,rfl,sq,r2⟩:=N9 A1 hus ry
   obtain ⟨v,rfl,rv⟩:=Kk rx
   cases rv
   obtain ⟨v2,rfl,rv2⟩:=Kk rz
   cases rv2
   have hlu:=r2.length
   have hlk:=Us hks
   refine Ahr F hr hb I2 sq r2 A1 (by omega) (fun t ht=>?_) (fun i u t hu ht=>Ae7 (Vg hks hu ht)) (by omega) fun c H' α' hn g' A'=>?_
   ·have:=cV.mp hc.2 t ht
    intro z;rw[z] at this;simp at this
   ·have hperm:=K3 (n:=us.length) (Mq ks)
    have rl:RepL X.K H' α' ((Eh (ltK ks) us.length).map fun i=>us.getD i .non) ((Eh (ltK ks) ys.length).map fun i=>ys.getD i .non):=by
     rw[<- hlu]
     have:∀ js:List Nat,(∀ j∈js,j < us.length)->RepL X.K H' α' (js.map fun i=>us.getD i .non) (js.map fun i=>ys.getD i .non):=by
      intro js
      induction js with
      | nil=>intro _;exact .nil
      | cons j js ih=>
       intro hj
       have hj0:=hj j (cN ..)
       obtain ⟨x,hx,rx'⟩:=r2.get (aH hj0)
       refine .cons ?_ (ih fun x hx=>hj x (bN _ hx))
       show RepU X.K H' α' (us.getD j .non) (ys.getD j .non)
       rw[bC,bC,aH hj0,hx]
       exact rx'.mono g'
     exact this _ fun j hj=>eB.mp (hperm.mem_iff.mp hj)
    obtain ⟨g2,A2,r3⟩:=A'.lst rl hn
    exact q _ _ _ (g1.trans (g'.trans g2)) A2 r3
  ·cases ez
 ·cases ez
end MR
namespace SO
open PySem PySem.W PyProof.Rows
section
variable {lt:Nat->Nat->Bool}{n:Nat}
noncomputable def Ls(lt:Nat->Nat->Bool)(i j:Nat):Prop:=Le lt i j/\(Le lt j i->i<=j)
theorem Wo.lt_le(W:Wo lt){a b c:Nat}(h:lt a b=true)(h2:Le lt b c):lt a c=true:=by
 cases hc:lt a c with
 | true=>rfl
 | false=>have:lt a b=false:=W.trans (lt:=lt) (i:=b) (j:=c) (k:=a) h2 hc;rw[h] at this;cases this
theorem Wo.le_lt(W:Wo lt){a b c:Nat}(h:Le lt a b)(h2:lt b c=true):lt a c=true:=by
 cases hc:lt a c with
 | true=>rfl
 | false=>have:lt b c=false:=W.trans (lt:=lt) (i:=c) (j:=a) (k:=b) hc h;rw[h2] at this;cases this
theorem Ls.of_lt(W:Wo lt){a b:Nat}(h:lt a b=true):Ls lt a b:=⟨W.le h,fun q=>by unfold Le at q;rw[h] at q;cases q⟩
theorem Ls.trans(W:Wo lt){a b c:Nat}(h1:Ls lt a b)(h2:Ls lt b c):Ls lt a c:=⟨W.trans h1.1 h2.1,fun q=>dN (h1.2 (W.trans h2.1 q)) (h2.2 (W.trans q h1.1))⟩
theorem Ls.refl(W:Wo lt)(a:Nat):Ls lt a a:=⟨W.refl a,fun _=>aN _⟩
theorem Ls.of_le{a b:Nat}(h:Le lt a b)(h2:a<=b):Ls lt a b:=⟨h,fun _=>h2⟩
noncomputable def UpS(lt:Nat->Nat->Bool)(p:Array Nat)(k:Nat):Prop:=∀ i j,i<=j->j < k->Ls lt (at0 p i) (at0 p j)
noncomputable def DnS(lt:Nat->Nat->Bool)(p:Array Nat)(k:Nat):Prop:=∀ i j,i<=j->j < k->Ls lt (at0 p j) (at0 p i)
noncomputable def Fx(n:Nat)(p:Array Nat)(k:Nat):Prop:=(∀ i,i < k->at0 p i < k)/\∀ i,k<=i->i < n->at0 p i=i
theorem Fx.up{p:Array Nat}{k m:Nat}(h:Fx n p k)(hk:k<=m)(hm:m<=n):Fx n p m:=⟨fun i hi=>by
 by_cases h1:i < k
 ·have:=h.1 i h1;omega
 ·rw[h.2 i (by omega) (by omega)];exact hi,fun i h1 h2=>h.2 i (by omega) h2⟩
theorem Fx.rev{p:Array Nat}{k i m:Nat}(h:Fx n p k)(hk:k<=m)(hm:m<=n)(hs:p.size=n)(hi:i=0\/k<=i):Fx n (iG p i m) m:=by
 have h':=h.up hk hm
 refine ⟨fun j hj=>?_,fun j h1 h2=>?_⟩
 ·rw[C8 (by omega)]
  split
  ·exact h'.1 _ (by omega)
  ·exact h'.1 j hj
 ·rw[C8 (by omega),if_neg (by omega)]
  exact h'.2 j h1 h2
theorem UpS.snoc(W:Wo lt){p:Array Nat}{m:Nat}(h:UpS lt p m)(hm:1<=m)(hl:Ls lt (at0 p (m - 1)) (at0 p m)):UpS lt p (m+1):=fun i j h1 h2=>by
 by_cases hj:j < m
 ·exact h i j h1 hj
 ·have hj:j=m:=by omega
  subst hj
  by_cases hi:i=j
  ·subst hi;exact Ls.refl W _
  ·exact (h i (j - 1) (by omega) (by omega)).trans W hl
theorem S6(W:Wo lt){p:Array Nat}{nrem:Nat}(h0:0 < n)(hp:Pm n p)(hn:nrem<=n):∀ (f m:Nat),1<=m->m+f=nrem->UpS lt p m->Fx n p m->On n lt (fun m'=>m<=m'/\m'<=nrem/\UpS lt p m'/\Fx n p m'/\(m'=nrem\/lt (at0 p m') (at0 p (m' - 1))=true)) (kas_asc p f m)
 | 0,m,h1,hf,hu,hx=>⟨aN _,by omega,hu,hx,.inl (by omega)⟩
 | f+1,m,h1,hf,hu,hx=>by
  refine ⟨hp.bd h0 _,hp.bd h0 _,?_⟩
  show On n lt _ (if lt (at0 p m) (at0 p (m - 1))=true then KasT.ret m else kas_asc p f (m+1))
  cases hl:lt (at0 p m) (at0 p (m - 1)) with
  | true=>exact ⟨aN _,by omega,hu,hx,.inr hl⟩
  | false=>
   have hs:Ls lt (at0 p (m - 1)) (at0 p m):=.of_le hl (by have:=hx.1 (m - 1) (by omega);have:=hx.2 m (aN _) (by omega);omega)
   exact (S6 W h0 hp hn f (m+1) (by omega) (by omega) (hu.snoc W h1 hs) (hx.up (by omega) (by omega))).imp fun m' ⟨a,b,c⟩=>⟨by omega,b,c⟩
structure Dq(lt:Nat->Nat->Bool)(n:Nat)(p:Array Nat)(m s:Nat):Prop where
 lo:DnS lt p s
 st:∀ i j,i < s->s<=j->j < m->lt (at0 p j) (at0 p i)=true
 tl:∀ i,s<=i->i < m->Eqv lt (at0 p i) (at0 p (m - 1))
 fx:Fx n p s
 lt:s < m
theorem Dq.turn(W:Wo lt){p:Array Nat}{m s:Nat}(h:Dq lt n p m s)(hs:p.size=n)(hm:m<=n):DnS lt (iG p s m) m/\Fx n (iG p s m) m:=by
 refine ⟨fun i j h1 h2=>?_,h.fx.rev (lW h.lt) hm hs (.inr (aN _))⟩
 rw[C8 (by omega),C8 (by omega)]
 by_cases hj:s<=j
 ·rw[if_pos (show s<=j/\j < m from ⟨hj,h2⟩)]
  by_cases hi:s<=i
  ·rw[if_pos (show s<=i/\i < m from ⟨hi,by omega⟩)]
   have a:=h.tl (s+m - 1 - j) (by omega) (by omega)
   have b:=h.tl (s+m - 1 - i) (by omega) (by omega)
   refine .of_le (W.trans a.1 b.2) ?_
   rw[h.fx.2 _ (by omega) (by omega),h.fx.2 _ (by omega) (by omega)]
   omega
  ·rw[if_neg (by omega)]
   exact Ls.of_lt W (h.st _ _ (by omega) (by omega) (by omega))
 ·rw[if_neg (by omega),if_neg (by omega)]
  exact h.lo i j h1 (by omega)
theorem Dq.one(W:Wo lt){p:Array Nat}{m s:Nat}(h:Dq lt n p m s)(h1:s+1=m)(hm:m<=n):DnS lt p m/\Fx n p m:=by
 refine ⟨fun i j i1 i2=>?_,h.fx.up (by omega) hm⟩
 by_cases hj:j < s
 ·exact h.lo i j i1 hj
 ·have hj:j=s:=by omega
  subst hj
  by_cases hi:i=j
  ·subst hi;exact Ls.refl W _
  ·exact Ls.of_lt W (h.st _ _ (by omega) (by omega) (by omega))
theorem Dq.next(W:Wo lt){p:Array Nat}{m:Nat}(h:DnS lt p m/\Fx n p m)(h1:1<=m)(hl:lt (at0 p m) (at0 p (m - 1))=true):Dq lt n p (m+1) m where
 lo:=h.1
 st i j h1 h2 h3:=by
  have hj:j=m:=by omega
  subst hj
  exact W.lt_le hl (h.1 i (j - 1) (by omega) (by omega)).1
 tl i h1 h2:=by
  have hi:i=m:=by omega
  subst hi
  rw[dP];exact ⟨W.refl _,W.refl _⟩
 fx:=h.2
 lt:=by omega
theorem Ly(W:Wo lt){nrem:Nat}(h0:0 < n)(hz:nrem<=n):∀ (f:Nat) (p:Array Nat) (m q:Nat),Pm n p->1<=m->m+f=nrem->q < m->Dq lt n p m (m - (q+1)) ->
  On n lt (fun r=>Pm n r.1/\1<=r.2.1/\r.2.1<=nrem/\r.2.2 < r.2.1/\Dq lt n r.1 r.2.1 (r.2.1 - (r.2.2+1))) (kas_desc f p m q)
 | 0,p,m,q,hp,h1,hf,hq,hd=>⟨hp,h1,(by show m<=nrem;omega),hq,hd⟩
 | f+1,p,m,q,hp,h1,hf,hq,hd=>by
  refine ⟨hp.bd h0 _,hp.bd h0 _,?_⟩
  show On n lt _ (if lt (at0 p m) (at0 p (m - 1))=true then _ else _)
  have e0:m+1 - (0+1)=m:=by omega
  cases hl:lt (at0 p m) (at0 p (m - 1)) with
  | true=>
   have hms:m<=p.size:=by rw[hp.size];omega
   rw[if_pos rfl]
   by_cases hq0:q > 0
   ·rw[if_pos hq0]
    have ht:=hd.turn W hp.size (by omega)
    have hm':at0 (iG p (m - (q+1)) m) m=at0 p m:=by rw[C8 hms,if_neg (by omega)]
    have hm2:lt (at0 (iG p (m - (q+1)) m) m) (at0 (iG p (m - (q+1)) m) (m - 1))=true:=by
     rw[hm',C8 hms,if_pos (by omega)]
     exact W.lt_le hl (hd.tl _ (by omega) (by omega)).2
    exact Ly W h0 hz f _ (m+1) 0 (hp.rev _ _) (by omega) (by omega) (by omega) (by rw[e0];exact Dq.next W ht h1 hm2)
   ·rw[if_neg hq0]
    have hq1:q=0:=by omega
    subst hq1
    exact Ly W h0 hz f p (m+1) 0 hp (by omega) (by omega) (by omega) (by rw[e0];exact Dq.next W (hd.one W (by omega) (by omega)) h1 hl)
  | false=>
   rw[if_neg (by simp)]
   refine ⟨hp.bd h0 _,hp.bd h0 _,?_⟩
   show On n lt _ (if lt (at0 p (m - 1)) (at0 p m)=true then _ else _)
   cases hl2:lt (at0 p (m - 1)) (at0 p m) with
   | true=>rw[if_pos rfl];exact ⟨hp,h1,(by show m<=nrem;omega),hq,hd⟩
   | false=>
    rw[if_neg (by simp)]
    have es:m+1 - (q+1+1)=m - (q+1):=by omega
    refine Ly W h0 hz f p (m+1) (q+1) hp (by omega) (by omega) (by omega) ?_
    rw[es]
    refine ⟨hd.lo,fun i j i1 i2 i3=>?_,fun i i1 i2=>?_,hd.fx,by omega⟩
    ·by_cases hj:j < m
     ·exact hd.st i j i1 i2 hj
     ·have hj:j=m:=by omega
      subst hj
      exact W.le_lt hl2 (hd.st i (j - 1) i1 (by omega) (by omega))
    ·rw[dP]
     by_cases hi:i=m
     ·subst hi;exact ⟨W.refl _,W.refl _⟩
     ·have a:=hd.tl i i1 (by omega)
      exact ⟨W.trans a.1 hl,W.trans hl2 a.2⟩
theorem Tu(W:Wo lt){m nrem:Nat}{p:Array Nat}(h0:0 < n)(hz:nrem<=n)(hp:Pm n p)(h1:1<=m)(hm:m<=nrem)(hd:DnS lt p m/\Fx n p m):On n lt (fun r=>Pm n r.2/\1<=r.1/\r.1<=nrem/\UpS lt r.2 r.1/\Fx n r.2 r.1) (sA m nrem p):=by
 have hms:m<=p.size:=by rw[hp.size];omega
 have hu:UpS lt (iG p 0 m) m:=fun i j i1 i2=>by
  rw[C8 hms,C8 hms,if_pos (by omega),if_pos (by omega)]
  exact hd.1 _ _ (by omega) (by omega)
 unfold sA
 exact On.bind (fun a ⟨a1,a2,a3,a4,_⟩=>⟨hp.rev _ _,by omega,a2,a3,a4⟩) (S6 (nrem:=nrem) W h0 (hp.rev 0 m) hz (nrem - m) m h1 (by omega) hu (hd.2.rev (aN _) (by omega) hp.size (.inl rfl)))
theorem Lm(W:Wo lt){m nrem:Nat}{p:Array Nat}(h0:0 < n)(hz:nrem<=n)(hp:Pm n p)(hm:m+1<=nrem)(hd:Dq lt n p (m+1) m):On n lt (fun r=>Pm n r.2/\1<=r.1/\r.1<=nrem/\UpS lt r.2 r.1/\Fx n r.2 r.1) (oJ m nrem p):=by
 unfold oJ
 have e0:m+1 - (0+1)=m:=by omega
 refine On.bind (fun r ⟨a1,a2,a3,a4,a5⟩=>?_) (Ly W h0 hz (nrem - (m+1)) p (m+1) 0 hp (by omega) (by omega) (by omega) (by rw[e0];exact hd))
 have hms:r.2.1<=r.1.size:=by rw[a1.size];omega
 split
 ·exact Tu W h0 hz (a1.rev _ _) a2 a3 (a5.turn W a1.size (by omega))
 ·exact Tu W h0 hz a1 a2 a3 (a5.one W (by omega) (by omega))
theorem Abd(W:Wo lt){nrem:Nat}{p:Array Nat}(h0:0 < n)(hz:nrem<=n)(h1:1<=nrem)(hp:Pm n p)(hid:∀ i,i < n->at0 p i=i):On n lt (fun r=>Pm n r.2/\1<=r.1/\r.1<=nrem/\UpS lt r.2 r.1/\Fx n r.2 r.1) (sB nrem p):=by
 unfold sB
 have fx0:Fx n p 0:=⟨fun i h=>by omega,fun i _ h=>hid i h⟩
 have up1:UpS lt p 1:=fun i j h1 h2=>by
  have:i=j:=by omega
  subst this;exact Ls.refl W _
 refine On.bind (fun m ⟨a1,a2,a3,ax,a4⟩=>?_) (S6 (nrem:=nrem) W h0 hp hz (nrem - 1) 1 (aN _) (by omega) up1 (fx0.up (by omega) (by omega)))
 by_cases hm:(m == nrem)=true
 ·rw[if_pos hm];exact ⟨hp,by omega,a2,a3,ax⟩
 ·rw[if_neg hm]
  have hne:m≠nrem:=by simpa using hm
  have hlt:lt (at0 p m) (at0 p (m - 1))=true:=a4.resolve_left hne
  by_cases hm1:m > 1
  ·rw[if_pos hm1]
   refine ⟨hp.bd h0 _,hp.bd h0 _,?_⟩
   show On n lt _ (if lt (at0 p 0) (at0 p (m - 1))=true then _ else _)
   cases hl:lt (at0 p 0) (at0 p (m - 1)) with
   | true=>rw[if_pos rfl];exact ⟨hp,by omega,a2,a3,ax⟩
   | false=>
    rw[if_neg (by simp)]
    have hms:m<=p.size:=by rw[hp.size];omega
    have hall:∀ i j,i < m->j < m->Le lt (at0 p i) (at0 p j):=fun i j i1 j1=>W.trans (a3 i (m - 1) (by omega) (by omega)).1 (W.trans hl (a3 0 j (by omega) j1).1)
    refine Lm W h0 hz (hp.rev 0 m) (by omega) ?_
    have hd:DnS lt (iG p 0 m) m:=fun i j i1 i2=>by
     rw[C8 hms,C8 hms,if_pos (by omega),if_pos (by omega)]
     refine .of_le (hall _ _ (by omega) (by omega)) ?_
     rw[hid _ (by omega),hid _ (by omega)];omega
    refine Dq.next W ⟨hd,fx0.rev (by omega) (by omega) hp.size (.inl rfl)⟩ (by omega) ?_
    rw[C8 hms,C8 hms,if_neg (by omega),if_pos (by omega)]
    exact W.lt_le hlt (hall _ _ (by omega) (by omega))
  ·rw[if_neg hm1]
   have:m=1:=by omega
   subst this
   refine Lm W h0 hz hp (by omega) ?_
   have hd:DnS lt p 1:=fun i j h1 h2=>by
    have:i=j:=by omega
    subst this;exact Ls.refl W _
   exact Dq.next W ⟨hd,ax⟩ (aN _) hlt
theorem Mu(W:Wo lt){p:Array Nat}{k:Nat}(h0:0 < n)(hp:Pm n p)(hu:UpS lt p k):∀ (f l r:Nat),l<=r->r<=k->r - l<=f->(∀ i,i < l->Le lt (at0 p i) (at0 p k))->(∀ i,r<=i->i < k->lt (at0 p k) (at0 p i)=true) ->
  On n lt (fun l'=>l'<=k/\(∀ i,i < l'->Le lt (at0 p i) (at0 p k))/\∀ i,l'<=i->i < k->lt (at0 p k) (at0 p i)=true) (sC p k f l r)
 | 0,l,r,h1,h2,h3,h4,h5=>⟨by omega,h4,fun i i1 i2=>h5 i (by omega) i2⟩
 | f+1,l,r,h1,h2,h3,h4,h5=>by
  unfold sC
  by_cases hlr:l ≥ r
  ·rw[if_pos hlr];exact ⟨by omega,h4,fun i i1 i2=>h5 i (by omega) i2⟩
  ·rw[if_neg hlr]
   refine ⟨hp.bd h0 _,hp.bd h0 _,?_⟩
   show On n lt _ (if lt (at0 p k) (at0 p ((l+r) / 2))=true then _ else _)
   cases hl:lt (at0 p k) (at0 p ((l+r) / 2)) with
   | true=>
    rw[if_pos rfl]
    exact Mu W h0 hp hu f l ((l+r) / 2) (by omega) (by omega) (by omega) h4 fun i i1 i2=>W.lt_le hl (hu _ _ i1 i2).1
   | false=>
    rw[if_neg (by simp)]
    exact Mu W h0 hp hu f ((l+r) / 2+1) r (by omega) h2 (by omega) (fun i i1=>W.trans (hu i ((l+r) / 2) (by omega) (by omega)).1 hl) h5
theorem X5(W:Wo lt)(h0:0 < n):∀ (f:Nat) (p:Array Nat) (k:Nat),Pm n p->UpS lt p k->Fx n p k->k+f=n->On n lt (fun p'=>Pm n p'/\UpS lt p' n) (kas_bin f p k)
 | 0,p,k,hp,hu,hx,hk=>⟨hp,(show k=n by omega) ▸ hu⟩
 | f+1,p,k,hp,hu,hx,hk=>by
  unfold kas_bin
  refine On.bind (fun l ⟨a1,a2,a3⟩=>?_) (Mu W h0 hp hu k 0 k (by omega) (aN _) (by omega) (fun i h=>by omega) fun i h1 h2=>by omega)
  have hks:k < p.size:=by rw[hp.size];omega
  have hkk:at0 p k=k:=hx.2 k (aN _) (by omega)
  have hxk:=hx.up (m:=k+1) (by omega) (by omega)
  refine X5 W h0 f _ (k+1) (hp.bub _ _) (fun i j i1 i2=>?_) ⟨fun i hi=>?_,fun i h1 h2=>?_⟩ (by omega)
  ·rw[Mn hks a1,Mn hks a1]
   by_cases hi:i=l
   ·rw[if_pos hi]
    by_cases hj:j=l
    ·rw[if_pos hj];exact Ls.refl W _
    ·rw[if_neg hj,if_pos (by omega)];exact Ls.of_lt W (a3 _ (by omega) (by omega))
   ·rw[if_neg hi]
    by_cases hi2:l < i/\i<=k
    ·rw[if_pos hi2,if_neg (by omega),if_pos (by omega)]
     exact hu _ _ (by omega) (by omega)
    ·rw[if_neg hi2]
     by_cases hj:j=l
     ·rw[if_pos hj]
      refine .of_le (a2 _ (by omega)) ?_
      have:=hx.1 i (by omega)
      omega
     ·rw[if_neg hj]
      by_cases hj2:l < j/\j<=k
      ·rw[if_pos hj2];exact hu _ _ (by omega) (by omega)
      ·rw[if_neg hj2];exact hu _ _ i1 (by omega)
  ·rw[Mn hks a1]
   split
   ·omega
   ·split
    ·exact hxk.1 _ (by omega)
    ·exact hxk.1 _ (by omega)
  ·rw[Mn hks a1,if_neg (by omega),if_neg (by omega)]
   exact hxk.2 i h1 h2
theorem Aeb(W:Wo lt)(h0:0 < n):On n lt (fun p=>Pm n p/\UpS lt p n) (kH n):=by
 unfold kH
 have hp:Pm n (gE (dS n)):=⟨by simp,by simp⟩
 have hid:∀ i,i < n->at0 (gE (dS n)) i=i:=fun i hi=>by
  unfold at0
  rw[dZ]
  simp[hi]
 refine On.bind (fun r ⟨a1,a2,a3,a4,a5⟩=>?_) (Abd W h0 (aN n) h0 hp hid)
 by_cases hr:r.1 < n
 ·rw[if_pos hr]
  have hm:max r.1 1=r.1:=by omega
  rw[hm]
  exact X5 W h0 _ _ _ a1 a4 a5 (by omega)
 ·rw[if_neg hr]
  have:r.1=n:=by omega
  exact ⟨a1,by rw[<- this];exact a4⟩
theorem Mi(W:Wo lt)(n:Nat):(Eh lt n).Pairwise (Ls lt):=by
 unfold Eh
 split
 ·rename_i h
  match n,h with
  | 0,_=>exact .nil
  | 1,_=>simp[sR]
 ·rename_i h
  obtain ⟨hp,hu⟩:=(Aeb (n:=n) W (by omega)).holds
  refine dI.mpr fun i j hi hj hij=>?_
  have h:=hu i j (by omega) (by rw[<- hp.size];simpa using hj)
  unfold at0 at h
  rw[dZ,dZ] at h
  simp only[cF] at hi hj
  rw[dJ hi,dJ hj] at h
  simpa using h
end
end SO
namespace Lw
open PySem L2 MR
noncomputable def Fd:FS:=(Mg "KeptPoints" "points" (Ae 0) Ta)
noncomputable def Bv:FN:=fnU 1 1 Fd
noncomputable def Oo:FS:=(C3 (Dp (Ac (f2 B7 (Ae 0) (fC (.int 1))) (Ac (f2 B7 (Ae 0) (fC (.int 2))) Aj))))
noncomputable def Ea:FN:=fnU 1 1 Oo
noncomputable def Cs:FE:=(Dl 1 Ea (Ac (Ae 0) Aj))
noncomputable def Ee:FS:=(C3 (Aaa (Eo [none] (Qx Qz (E6 "KeptPoints" "points" (Ae 0))) (gN 0) none Cs)))
noncomputable def Bf:FN:=fnU 1 1 Ee
noncomputable def Fz:FE:=(f2 Gd (Ae 0) (Ae 1))
noncomputable def Iz:FS:=(C3 (Ph (f2 Ek (Ae 0) (Ae 1)) (Dw Ot (Ac (Eo [none,none] (Yz (Ac (Ae 0) (Ac (Ae 1) Aj))) (MR.gTup 2 (MR.gCons (gN 0) (MR.gCons (gN 1) MR.gNil))) none Fz) Aj))))
noncomputable def D5:FN:=fnU 2 2 Iz
noncomputable def Nv:FE:=(Ae 0)
noncomputable def Jb:FT:=(Aey (Dl 2 D5 (Ac (Ae 1) (Ac (Ae 0) Aj))))
noncomputable def Sd:FS:=(C3 (Dw Gu (Ac (Eo [none,some 1] (En (Ae 0)) (gN 0) (some Jb) Nv) Aj)))
noncomputable def Iq:FN:=fnU 2 2 Sd
noncomputable def Iw:FS:=(C3 (Dl 2 Iq (Ac (Au "KeptPoints" "places_now" 1 Bf (Ae 0) Aj) (Ac (Dp (Ac (Ae 1) (Ac (Ae 2) Aj))) Aj))))
noncomputable def Dh:FN:=fnU 3 3 Iw
noncomputable def Ny:FE:=(Ae 0)
noncomputable def Jd:FT:=(Aey (Dl 2 D5 (Ac (Ae 0) (Ac (Ae 1) Aj))))
noncomputable def Sl:FS:=(C3 (Dw Gu (Ac (Eo [none,some 1] (En (Ae 0)) (gN 0) (some Jd) Ny) Aj)))
noncomputable def Ii:FN:=fnU 2 2 Sl
noncomputable def Ik:FS:=(C3 (Dl 2 Ii (Ac (Au "KeptPoints" "places_now" 1 Bf (Ae 0) Aj) (Ac (Dp (Ac (Ae 1) (Ac (Ae 2) Aj))) Aj))))
noncomputable def Dg:FN:=fnU 3 3 Ik
noncomputable def Ec:FS:=(C3 (Vo (E6 "KeptPoints" "points" (Ae 0))))
noncomputable def Bo:FN:=fnU 1 1 Ec
noncomputable def Ra:FS:=(C3 (Ph (Jw Gd Gd (f2 B7 (Ae 1) (fC (.int 0))) (f2 B7 (Ae 0) (fC (.int 1))) (f2 B7 (Ae 1) (fC (.int 2)))) (Jw Gd Gd (f2 B7 (Ae 1) (fC (.int 1))) (f2 B7 (Ae 0) (fC (.int 2))) (f2 B7 (Ae 1) (fC (.int 3))))))
noncomputable def Kc:FN:=fnU 2 2 Ra
noncomputable def Jp:FE:=(Ae 0)
noncomputable def Gp:FT:=(Aey (Dl 2 Kc (Ac (Ae 0) (Ac (Ae 1) Aj))))
noncomputable def Nr:FS:=(C3 (Eo [none,some 1] (En (Ae 0)) (gN 0) (some Gp) Jp))
noncomputable def C1:FN:=fnU 2 2 Nr
noncomputable def Hn:FE:=(Dw Gu (Ac (Dl 2 C1 (Ac (Ae 1) (Ac (Ae 0) Aj))) Aj))
noncomputable def Oe:FS:=(C3 (Dw semTuple (Ac (Eo [none,some 0] (En (Ae 1)) (gN 0) none Hn) Aj)))
noncomputable def Gn:FN:=fnU 2 2 Oe
noncomputable def Fj:FS:=(C3 (f2 B7 (Dl 2 Gn (Ac (Au "KeptPoints" "points_now" 1 Bo (Ae 0) Aj) (Ac (Dp (Ac (Ae 1) Aj)) Aj))) (fC (.int 0))))
noncomputable def C0:FN:=fnU 2 2 Fj
noncomputable def Ew:FS:=(Hv (B4 (f2 Hy (Ae 1) (E6 "KeptPoints" "points" (Ae 0)))) Jn Ed)
noncomputable def Bs:FN:=fnU 2 2 Ew
noncomputable def Ei:FS:=(C6 (D7 (Au "KeptPoints" "need_name" 2 Bs (Ae 0) (Ac (Ae 1) Aj))) (Pj (E6 "KeptPoints" "points" (Ae 0)) (Ae 1) (Dp (Ac (Ae 1) (Ac (Ae 2) (Ac (Ae 3) Aj))))))
noncomputable def Ci:FN:=fnU 4 4 Ei
noncomputable def E3:FS:=(C6 (Hv (B4 (f2 Mv (Ae 1) (E6 "KeptPoints" "points" (Ae 0)))) Jn Ed) (Pj (E6 "KeptPoints" "points" (Ae 0)) (Ae 1) (Dp (Ac (Ae 1) (Ac (Ae 2) (Ac (Ae 3) Aj))))))
noncomputable def B3:FN:=fnU 4 4 E3
noncomputable def Em:FS:=(C6 (D7 (Au "KeptPoints" "need_name" 2 Bs (Ae 0) (Ac (Ae 1) Aj))) (D7 (Yi (E6 "KeptPoints" "points" (Ae 0)) (Ae 1))))
noncomputable def Cf:FN:=fnU 2 2 Em
noncomputable def Jl:FE:=(Ae 0)
noncomputable def G0:FT:=(Alw (B4 (f2 Gd (f2 B7 (Ae 0) (fC (.int 1))) (Ae 1))) (B4 (f2 Gd (f2 B7 (Ae 0) (fC (.int 2))) (Ae 2))))
noncomputable def Na:FS:=(C3 (Dw Gu (Ac (Eo [none,some 1,some 2] (En (Ae 0)) (gN 0) (some G0) Jl) Aj)))
noncomputable def G9:FN:=fnU 3 3 Na
noncomputable def Qw:FS:=(C6 (Hv (fOr (B4 (f2 Lr (Ae 1) (fC (.int 0)))) (B4 (f2 Q3 (Ae 1) (Dw Gu (Ac (Ae 0) Aj))))) Jn Ed) (C3 (f2 B7 (f2 B7 (Ae 0) (Ae 1)) (fC (.int 0)))))
noncomputable def Ic:FN:=fnU 2 2 Qw
noncomputable def W9:FS:=(C3 (Dl 2 Ic (Ac (Jv Ea (Dl 2 C1 (Ac (Ae 0) (Ac (Ae 1) Aj)))) (Ac (Ae 2) Aj))))
noncomputable def Kv:FN:=fnU 3 3 W9
noncomputable def Lg:FS:=(C3 (Dp (Ac (f2 B7 (Ae 0) (fC (.int 2))) (Ac (f2 B7 (Ae 0) (fC (.int 1))) Aj))))
noncomputable def Du:FN:=fnU 1 1 Lg
noncomputable def Ws:FS:=(C3 (Dl 2 Ic (Ac (Jv Du (Dl 2 C1 (Ac (Ae 0) (Ac (Ae 1) Aj)))) (Ac (Ae 2) Aj))))
noncomputable def Ky:FN:=fnU 3 3 Ws
noncomputable def Gs:FE:=(Qr (Ae 1) (f2 B7 (Ae 0) (fC (.int 0))))
noncomputable def Nf:FS:=(C3 (Dw Ft (Ac (Eo [none,some 1] (En (Ae 0)) (gN 0) none Gs) Aj)))
noncomputable def Hc:FN:=fnU 2 2 Nf
noncomputable def Fw:FE:=(Dl 2 Hc (Ac (Dl 2 C1 (Ac (Ae 1) (Ac (Ae 0) Aj))) (Ac (Ae 2) Aj)))
noncomputable def Lu:FS:=(C3 (Dw semTuple (Ac (Eo [none,some 0,some 2] (En (Ae 1)) (gN 0) none Fw) Aj)))
noncomputable def Gf:FN:=fnU 3 3 Lu
noncomputable def Fs:FS:=(C6 (E8 (Dp (Ac (Dp (Ac (fC (.str "b")) (Ac (Ae 0) (Ac (fC (.int 4)) Aj)))) (Ac (Dp (Ac (fC (.str "a")) (Ac (f2 Bl (Ae 0) (fC (.int 1))) (Ac (fC (.int 2)) Aj)))) Aj))) (gN 1)) (C6 (E8 (Dp (Ac (Ae 0) (Ac (fC (.int 0)) (Ac (f2 Bl (Ae 0) (fC (.int 1))) (Ac (fC (.int 4)) Aj))))) (gN 2)) (C6 (Hv (fOr (B4 (f2 Ek (Dl 3 G9 (Cm 3 [2,1,0] (Ac (fC (.int 2)) (Ac (f2 Bl (Ae 0) (fC (.int 1))) (Ac (Ae 1) Aj))))) (fC (.int 1)))) (B4 (f2 Ek (Dl 2 Gn (Cm 2 [1,0] (Ac (Dp (Ac (Ae 2) Aj)) (Ac (Ae 1) Aj)))) (Dp (Ac (fC (.int 2)) Aj))))) (C3 (fC (.bl false))) Ed) (C6 (Hv (B4 (f2 Ek (Dl 3 Gf (Cm 3 [2,1,0] (Ac (Rz (fC (.str "a")) (fC (.int 3)) (fC (.str "b")) (fC (.int 4))) (Ac (Dp (Ac (Ae 2) Aj)) (Ac (Ae 1) Aj))))) (Dp (Ac (fC (.int 7)) Aj)))) (C3 (fC (.bl false))) Ed) (C6 (Hv (B4 (f2 Ek (Dl 3 Kv (Cm 3 [2,1,0] (Ac (fC (.int 0)) (Ac (Ae 2) (Ac (Ae 1) Aj))))) (fC (.str "b")))) (C3 (fC (.bl false))) Ed) (C3 (f2 Np (Dl 3 Ky (Cm 3 [2,1,0] (Ac (fC (.int 0)) (Ac (Ae 2) (Ac (Ae 1) Aj))))) (fC (.str "a")))))))))
noncomputable def Fv:FN:=fnU 3 1 Fs
noncomputable def G5:FS:=(C6 (Mg "SumTree" "many" (Ae 0) (Ae 1)) (Mg "SumTree" "cells" (Ae 0) (f2 Hj (Abm (Ac (fC (.int 0)) Aj)) (f2 Bl (Ae 1) (fC (.int 1))))))
noncomputable def B8:FN:=fnU 2 2 G5
noncomputable def Ld:FS:=(C3 (f2 Ml (Ae 0) (Ak9 (Ae 0))))
noncomputable def Eu:FN:=fnU 1 1 Ld
noncomputable def B6:FT:=(B4 (f2 Qq (Ae 3) (fC (.int 0))))
noncomputable def Cc:FS:=(C6 (E8 (f2 Bl (Ae 2) (f2 B7 (E6 "SumTree" "cells" (Ae 0)) (Ae 3))) (gN 2)) (E8 (f2 Mj (Ae 3) (Dl 1 Eu (Ac (Ae 3) Aj))) (gN 3)))
noncomputable def E2:FS:=(C6 (Hv (fOr (B4 (f2 Lr (Ae 1) (fC (.int 0)))) (B4 (f2 Qq (Ae 1) (E6 "SumTree" "many" (Ae 0))))) Jn Ed) (C6 (E8 (fC (.int 0)) (gN 2)) (C6 (E8 (Ae 1) (gN 3)) (C6 (Fq B6 Cc 100000) (C3 (Ae 2))))))
noncomputable def Aq:FN:=fnU 4 2 E2
noncomputable def Cp:FS:=(Hv (B4 (f2 Q3 (Au "SumTree" "sum_of_first" 2 Aq (Ae 0) (Ac (Ae 2) Aj)) (Ae 1))) (C3 (Ae 2)) Ed)
noncomputable def Dy:FS:=(C6 (P8 (Rk (Ac (f2 Bl (E6 "SumTree" "many" (Ae 0)) (fC (.int 1))) Aj)) (gN 2) Cp) (C3 (fC .non)))
noncomputable def B0:FN:=fnU 3 2 Dy
noncomputable def Fo:FS:=(Hv (fOr (B4 (f2 Lr (Ae 1) (fC (.int 1)))) (B4 (f2 Qq (Ae 1) (E6 "SumTree" "many" (Ae 0))))) Jn Ed)
noncomputable def Aw:FN:=fnU 2 2 Fo
noncomputable def Fb:FS:=(C6 (D7 (Au "SumTree" "need_place" 2 Aw (Ae 0) (Ac (Ae 1) Aj))) (C6 (D7 (Au "SumTree" "need_place" 2 Aw (Ae 0) (Ac (Ae 2) Aj))) (C6 (Hv (B4 (f2 Lr (Ae 2) (Ae 1))) (C3 (fC (.int 0))) Ed) (C3 (f2 Mj (Au "SumTree" "sum_of_first" 2 Aq (Ae 0) (Ac (Ae 2) Aj)) (Au "SumTree" "sum_of_first" 2 Aq (Ae 0) (Ac (f2 Mj (Ae 1) (fC (.int 1))) Aj)))))))
noncomputable def Bk:FN:=fnU 3 3 Fb
noncomputable def Gb:FS:=(C3 (Au "SumTree" "sum_from_to" 3 Bk (Ae 0) (Ac (Ae 1) (Ac (Ae 1) Aj))))
noncomputable def Ck:FN:=fnU 2 2 Gb
noncomputable def C7:FT:=(B4 (f2 Gd (Ae 3) (E6 "SumTree" "many" (Ae 0))))
noncomputable def Dk:FS:=(C6 (E8 (f2 Bl (f2 B7 (E6 "SumTree" "cells" (Ae 0)) (Ae 3)) (Ae 2)) (MR.gSub (E6 "SumTree" "cells" (Ae 0)) (Ae 3))) (E8 (f2 Bl (Ae 3) (Dl 1 Eu (Ac (Ae 3) Aj))) (gN 3)))
noncomputable def Ie:FS:=(C6 (D7 (Au "SumTree" "need_place" 2 Aw (Ae 0) (Ac (Ae 1) Aj))) (C6 (E8 (Ae 1) (gN 3)) (Fq C7 Dk 100000)))
noncomputable def Dc:FN:=fnU 4 3 Ie
noncomputable def Es:FE:=(Qr (Ae 1) (Ae 0))
noncomputable def Hm:FS:=(Pj (Ae 2) (Ae 4) (Ae 3))
noncomputable def Jj:FS:=(C6 (E8 (Dw semTuple (Ac (Jk (Ac (Ae 0) Aj)) Aj)) (gN 1)) (C6 (E8 Ta (gN 2)) (C6 (P8 (Vy (Ac (Ae 1) Aj)) (MR.gTup 2 (MR.gCons (gN 3) (MR.gCons (gN 4) MR.gNil))) Hm) (C3 (Dp (Ac (Ae 1) (Ac (Dw semTuple (Ac (Eo [none,some 2] (En (Ae 0)) (gN 0) none Es) Aj)) Aj)))))))
noncomputable def G8:FN:=fnU 5 1 Jj
noncomputable def G2:FS:=(C6 (E8 (Kq "SumTree" 2 B8 (Cm 1 [0] (Ac (fC (.int 3)) Aj))) (gN 1)) (C6 (D7 (Au "SumTree" "put_to" 3 Dc (Ae 1) (Cm 2 [1,0] (Ac (f2 Bl (fC (.int 5)) (Ae 0)) (Ac (fC (.int 2)) Aj))))) (C6 (Hv (fOr (B4 (f2 Ek (Au "SumTree" "sum_of_first" 2 Aq (Ae 1) (Cm 1 [0] (Ac (fC (.int 2)) Aj))) (f2 Bl (fC (.int 5)) (Ae 0)))) (B4 (f2 Ek (Au "SumTree" "sum_from_to" 3 Bk (Ae 1) (Cm 2 [1,0] (Ac (fC (.int 3)) (Ac (fC (.int 2)) Aj)))) (f2 Bl (fC (.int 5)) (Ae 0))))) (C3 (fC (.bl false))) Ed) (C6 (Hv (fOr (B4 (f2 Ek (Au "SumTree" "number_at" 2 Ck (Ae 1) (Cm 1 [0] (Ac (fC (.int 2)) Aj))) (f2 Bl (fC (.int 5)) (Ae 0)))) (B4 (f2 Ek (Au "SumTree" "least_many" 2 B0 (Ae 1) (Cm 1 [0] (Ac (fC (.int 1)) Aj))) (fC (.int 2))))) (C3 (fC (.bl false))) Ed) (C3 (f2 Np (Dl 1 G8 (Ac (Dp (Ac (f2 Bl (fC (.int 7)) (Ae 0)) (Ac (Ae 0) Aj))) Aj)) (Dp (Ac (Dp (Ac (Ae 0) (Ac (f2 Bl (fC (.int 7)) (Ae 0)) Aj))) (Ac (Dp (Ac (fC (.int 2)) (Ac (fC (.int 1)) Aj))) Aj)))))))))
noncomputable def G4:FN:=fnU 2 1 G2
noncomputable def Ad7:FS:=(C6 (E8 (f2 Mo (Dw Ft (Ac (Ae 0) Aj)) (fC (.int 1000))) (gN 1)) (C6 (E8 (Kq "KeptPoints" 1 Bv Aj) (gN 2)) (C6 (D7 (Au "KeptPoints" "put_point" 4 B3 (Ae 2) (Cm 3 [2,1,0] (Ac (fC (.int 4)) (Ac (Ae 1) (Ac (fC (.str "b")) Aj)))))) (C6 (D7 (Au "KeptPoints" "put_point" 4 B3 (Ae 2) (Cm 3 [0,2,1] (Ac (fC (.str "a")) (Ac (fC (.int 2)) (Ac (f2 Bl (Ae 1) (fC (.int 1))) Aj)))))) (C6 (D7 (Au "KeptPoints" "move_point" 4 Ci (Ae 2) (Cm 3 [2,0,1] (Ac (f2 Bl (Ae 1) (fC (.int 1))) (Ac (fC (.int 5)) (Ac (fC (.str "a")) Aj)))))) (C6 (Hv (fOr (B4 (f2 Ek (Au "KeptPoints" "below_now" 3 Dg (Ae 2) (Cm 2 [1,0] (Ac (fC (.int 5)) (Ac (f2 Bl (Ae 1) (fC (.int 1))) Aj)))) (fC (.int 1)))) (B4 (f2 Ek (Au "KeptPoints" "above_now" 3 Dh (Ae 2) (Cm 2 [0,1] (Ac (Ae 1) (Ac (fC (.int 4)) Aj)))) (fC (.int 1))))) (C3 (fC (.bl false))) Ed) (C6 (Hv (B4 (f2 Ek (Au "KeptPoints" "box_now" 2 C0 (Ae 2) (Cm 1 [0] (Ac (Dp (Ac (f2 Bl (Ae 1) (fC (.int 1))) (Ac (fC (.int 0)) (Ac (f2 Bl (Ae 1) (fC (.int 1))) (Ac (fC (.int 9)) Aj))))) Aj))) (fC (.int 1)))) (C3 (fC (.bl false))) Ed) (C6 (D7 (Au "KeptPoints" "take_point" 2 Cf (Ae 2) (Cm 1 [0] (Ac (fC (.str "b")) Aj)))) (C3 (Ph (f2 Np (Au "KeptPoints" "points_now" 1 Bo (Ae 2) Aj) (Dp (Ac (Dp (Ac (fC (.str "a")) (Ac (f2 Bl (Ae 1) (fC (.int 1))) (Ac (fC (.int 5)) Aj)))) Aj))) (Ph (Dl 1 G4 (Ac (Ae 1) Aj)) (Dl 1 Fv (Ac (Ae 1) Aj)))))))))))))
noncomputable def Va:FN:=fnU 3 1 Ad7
structure Ex(d:Nat)(L L':UH):Prop where
 le:L.length<=L'.length
 at_:∀ i,i < L.length->i≠d->L'[i]? = L[i]?
theorem Ex.refl(d:Nat)(L:UH):Ex d L L:=⟨aN _,fun _ _ _=>rfl⟩
theorem Ex.trans{d:Nat}{L L1 L2:UH}(a:Ex d L L1)(b:Ex d L1 L2):Ex d L L2:=
 ⟨dN a.le b.le,fun i h1 h2=>by rw[b.at_ i (bE h1 a.le) h2,a.at_ i h1 h2]⟩
theorem Ex.new(d:Nat)(L:UH)(x:List HU):Ex d L (L++x):=⟨by simp,fun i h _=>by rw[bB h]⟩
theorem Ex.put(d:Nat)(L:UH)(o:HU):Ex d L (L.set d o):=⟨by simp,fun i _ h=>by rw[cZ (fY h)]⟩
theorem Ex.set{d:Nat}{L L':UH}(h:Ex d L L'){n:Nat}(hn:L.length<=n)(o:HU):Ex d L (L'.set n o):=
 ⟨by rw[sK];exact h.le,fun i h1 h2=>by rw[cZ (by omega)];exact h.at_ i h1 h2⟩
theorem Ex.get{d:Nat}{L L':UH}{i:Nat}{o:HU}(h:Ex d L L')(e:L[i]? = some o)(hi:i≠d):L'[i]? = some o:=by
 rw[h.at_ i (aZ.mp e).1 hi];exact e
noncomputable def Gw(L L':UH):Prop:=∃ x,L'=L++x
theorem Gw.refl(L:UH):Gw L L:=⟨[],by simp⟩
theorem Gw.trans{L L1 M:UH}(a:Gw L L1)(b:Gw L1 M):Gw L M:=by obtain ⟨x,rfl⟩:=a;obtain ⟨y,rfl⟩:=b;exact ⟨x++y,by simp⟩
theorem Gw.new(L x:UH):Gw L (L++x):=⟨x,rfl⟩
theorem Gw.set{L L':UH}(h:Gw L L'){n:Nat}(hn:L.length<=n)(o:HU):Gw L (L'.set n o):=by
 obtain ⟨x,rfl⟩:=h
 exact ⟨x.set (n - L.length) o,by rw[kM _ _ hn]⟩
theorem Gw.le{L L':UH}(h:Gw L L'):L.length<=L'.length:=by obtain ⟨x,rfl⟩:=h;simp
theorem Gw.get{L L':UH}(h:Gw L L'){n:Nat}{o:HU}(e:L[n]? = some o):L'[n]? = some o:=by
 obtain ⟨x,rfl⟩:=h
 rw[bB (aZ.mp e).1];exact e
theorem Gw.seq{L L':UH}(h:Gw L L'){n:Nat}{us:List U}(e:Bi L n=some us):Bi L' n=some us:=by
 obtain ⟨x,rfl⟩:=h;exact M3 e
theorem Gw.ex{L L':UH}(h:Gw L L')(d:Nat):Ex d L L':=by obtain ⟨x,rfl⟩:=h;exact Ex.new d L x
theorem N7{L:UH}{n:Nat}{l:List U}(h:L[n]? = some (.lst l)):Gu [.ref n] L=some (.int l.length,L):=by simp[Gu,lenU,Cr h]
theorem Bg{f g:FS}{δ δ':UE}{L L':UH}(h:f δ L=some (.nx δ',L')):C6 f g δ L=g δ' L':=by rw[Aad,h];rfl
theorem Ex.seq{d:Nat}{L L':UH}(h:Ex d L L'){n:Nat}{us:List U}(hn:n≠d)(e:Bi L n=some us):Bi L' n=some us:=by
 unfold Bi at e ⊢
 cases hq:L[n]? with
 | none=>rw[hq] at e;cases e
 | some o=>rw[h.get hq hn];rw[hq] at e;exact e
noncomputable def ptU(p:Str×(Int×Int)):U:=.tup [.str p.1,.int p.2.1,.int p.2.2]
theorem Ak1(n:Nat){p:Str×(Int×Int)}(h:iF p.1=true):Pl (n+1) (ptU p):=by
 unfold ptU
 rw[Kz]
 intro u hu
 simp only[cI,gL,or_false] at hu
 rcases hu with rfl | rfl | rfl
 ·show Pl n (.str p.1)
  cases n <;> simpa[Pl] using h
 ·exact Pl.int _ _
 ·exact Pl.int _ _
theorem Amy{ps:List (Str×(Int×Int))}(h:∀ p∈ps,iF p.1=true):Pl 6 (.tup (ps.map ptU)):=by
 rw[Kz]
 intro u hu
 obtain ⟨p,hp,rfl⟩:=oO.mp hu
 exact Ak1 4 (h p hp)
theorem Y0(xs:List Int):Pl 6 (.tup (xs.map U.int)):=by
 rw[Kz]
 intro u hu
 obtain ⟨a,_,rfl⟩:=oO.mp hu
 exact Pl.int _ _
noncomputable def prU(p:Int×Int):U:=.tup [.int p.1,.int p.2]
noncomputable def bxU(b:Int×Int×Int×Int):U:=.tup [.int b.1,.int b.2.1,.int b.2.2.1,.int b.2.2.2]
noncomputable def below(p q:Int×Int):Bool:=decide (p.1<=q.1)&&(decide (p.2<=q.2) && !(p.1 == q.1&&(p.2 == q.2&&true)))
theorem Akl(p q:Int×Int)(L:UH):Ek (prU p) (prU q) L=some (.bl (!(p.1 == q.1&&(p.2 == q.2&&true))),L):=rfl
theorem Afu{β:Type}(as:List β)(f:β->Bool):mapO toB (as.map fun a=>U.bl (f a))=some (as.map f):=by
 induction as with
 | nil=>rfl
 | cons a as ih=>simp[mapO,toB,ih]
theorem Ah9{β:Type}{L:UH}{n:Nat}(as:List β)(f:β->Bool)(h:Bi L n=some (as.map fun a=>U.bl (f a))):Ot [.ref n] L=some (.bl (as.all f),L):=by
 simp[Ot,h,Afu]
theorem Yj(p q:Int×Int)(L:UH):∃ x,D5 [prU p,prU q] L=some (.bl (below p q),L++x):=by
 have hz:(Yz (Ac (Ae 0) (Ac (Ae 1) Aj))) [some (prU p),some (prU q)] L=some (.seq ([(p.1,q.1),(p.2,q.2)].map fun a=>.tup [.int a.1,.int a.2]),L):=rfl
 obtain ⟨x,e⟩:=D3 (ix:=[none,none]) (fi:=Yz (Ac (Ae 0) (Ac (Ae 1) Aj))) (it:=.seq ([(p.1,q.1),(p.2,q.2)].map fun a=>.tup [.int a.1,.int a.2])) (g:=(MR.gTup 2 (MR.gCons (gN 0) (MR.gCons (gN 1) MR.gNil)))) (tt:=none) (fe:=Fz) (δ:=[some (prU p),some (prU q)]) (L:=L) (L0:=L)
  [(p.1,q.1),(p.2,q.2)] (fun a=>.tup [.int a.1,.int a.2]) (fun _=>true) (fun a=>.bl (decide (a.1<=a.2))) (fun δ=>∃ a b,δ = [a,b]) hz (by simp[IU.size]) (by simp) ⟨none,none,rfl⟩
  (fun k x=>rfl)
  (fun a δ x _ ⟨y,z,hδ⟩=>by
   subst hδ
   refine ⟨_,rfl,⟨_,_,rfl⟩,[],by simp[Ia],fun _=>⟨[],?_⟩⟩
   simp[Fz])
 have hf:gJ (fun _:Int×Int=>true) [(p.1,q.1),(p.2,q.2)]=[(p.1,q.1),(p.2,q.2)]:=by simp
 rw[hf] at e
 have q1:Bi (L++x++[HU.lst ([(p.1,q.1),(p.2,q.2)].map fun a=>.bl (decide (a.1<=a.2)))]) (L++x).length=some ([(p.1,q.1),(p.2,q.2)].map fun a=>U.bl (decide (a.1<=a.2))):=Cr (by simp)
 have ha:=Ah9 _ _ q1
 by_cases h:(!(p.1 == q.1&&(p.2 == q.2&&true)))=true
 ·refine ⟨x++[HU.lst ([(p.1,q.1),(p.2,q.2)].map fun a=>.bl (decide (a.1<=a.2)))],?_⟩
  have hb:below p q=List.all [(p.1,q.1),(p.2,q.2)] fun a=>decide (a.1<=a.2):=by
   simp only[below,h,List.all_cons,List.all_nil]
  have hn:=Akl p q L
  rw[h] at hn
  unfold D5 fnU Iz
  simp only[aO,aR,if_true,aL,bV,cS,bW,aT,fRet_eq,Mf,f2_eq,fVar_eq,aM,aS,bG,aI,aE,hn,fCall_eq,fCons_eq,fNil_eq]
  simp only[aL,bV] at e ha
  rw[hb,<- bA]
  simp only[e,ha,aI,aE]
 ·have h':(!(p.1 == q.1&&(p.2 == q.2&&true)))=false:=by simpa using h
  refine ⟨[],?_⟩
  have hb:below p q=false:=by simp only[below,h',tQ]
  have hn:=Akl p q L
  rw[h'] at hn
  unfold D5 fnU Iz
  simp only[aO,aR,if_true,aL,bV,cS,bW,aT,fRet_eq,Mf,f2_eq,fVar_eq,aM,aS,bG,aI,aE,hn,hb]
  simp
abbrev NP:=Str×(Int×Int)
noncomputable def kG(g:NP->U)(m:List NP):List (Key×U):=m.map fun p=>(.inr p.1,g p)
noncomputable def Hx(m:List NP)(nm:Str):Bool:=m.any fun p=>decide (p.1=nm)
noncomputable def Kx(m:List NP)(nm:Str)(q:Int×Int):List NP:=if Hx m nm=true then m.map (fun p=>if p.1=nm then (nm,q) else p) else m++[(nm,q)]
noncomputable def M8(m:List NP)(nm:Str):List NP:=m.filter fun p=>decide (p.1≠nm)
theorem Mc(a b:Str):((jJ a:Key) = .inr b)↔a=b:=⟨fun h=>by injection h,fun h=>by rw[h]⟩
theorem Xe(g:NP->U)(nm:Str):∀ m:List NP,((kG g m).any fun kv=>decide (kv.1 = .inr nm))=Hx m nm
 | []=>rfl
 | p::m=>by
  have ih:=Xe g nm m
  unfold kG Hx at ih ⊢
  rw[aL,gG,gG,ih]
  simp only[Mc]
theorem S3(g:NP->U)(m:List NP)(nm:Str):(Gm (kG g m) (.inr nm)).isSome=Hx m nm:=by
 unfold Gm
 rw[iN,find_any,Xe]
theorem Ale(g:NP->U)(m:List NP)(nm:Str)(q:Int×Int):Qg (kG g m) (.inr nm) (g (nm,q))=kG g (Kx m nm q):=by
 unfold Qg Kx
 rw[Xe]
 split
 ·unfold kG
  rw[jC,jC]
  apply qA
  intro p _
  show (if (jJ p.1:Key) = .inr nm then (jJ p.1,g (nm,q)) else (jJ p.1,g p))=_
  by_cases h:p.1=nm
  ·rw[if_pos ((Mc _ _).mpr h)]
   show _=(jJ (if p.1=nm then (nm,q) else p).1,g (if p.1=nm then (nm,q) else p))
   rw[if_pos h,h]
  ·rw[if_neg (fun z=>h ((Mc _ _).mp z))]
   simp only[Function.comp_apply,if_neg h]
 ·unfold kG
  rw[lQ]
  rfl
theorem Yd(g:NP->U)(nm:Str):∀ m:List NP,Ve (kG g m) (.inr nm)=kG g (M8 m nm)
 | []=>rfl
 | p::m=>by
  have ih:=Yd g nm m
  unfold Ve kG M8 at ih ⊢
  rw[aL,iA,iA,ih]
  by_cases h:p.1=nm
  ·simp[h]
  ·simp[h]
noncomputable def OkM(m:List NP):Prop:=∀ p∈m,iF p.1=true
theorem OkM.put{m:List NP}{nm:Str}{q:Int×Int}(h:OkM m)(hn:iF nm=true):OkM (Kx m nm q):=by
 intro p hp
 unfold Kx at hp
 split at hp
 ·obtain ⟨p',hp',e⟩:=oO.mp hp
  split at e
  ·subst e;exact hn
  ·subst e;exact h _ hp'
 ·rcases dY.mp hp with z | z
  ·exact h _ z
  ·have:=bX.mp z
   subst this;exact hn
theorem OkM.drop{m:List NP}{nm:Str}(h:OkM m):OkM (M8 m nm):=fun p hp=>h p (oP.mp hp).1
theorem insAt_at{C:Str}{L:UH}{t:Nat}{fs:List (Str×U)}(h:L[t]? = some (.ins C fs)):Jx C (.ref t) L=some (t,fs):=by
 unfold Jx
 simp only[h,if_true]
noncomputable def kfl(p:Nat):List (Str×U):=[("points",.ref p)]
theorem kf_pts(p:Nat):fA ("points" : Str) (kfl p)=some (.ref p):=rfl
theorem Xo{s:Str}(p:Nat)(h:(s == "points")=false):fA s (kfl p)=none:=by
 unfold kfl
 rw[cK,h]
 rfl
structure Kept(L:UH)(k p:Nat)(m:List NP):Prop where
 ob:L[k]? = some (.ins "KeptPoints" (kfl p))
 pt:L[p]? = some (.dic (kG ptU m))
theorem Kept.ne{L:UH}{k p:Nat}{m:List NP}(T:Kept L k p m):k≠p:=fun h=>by
 have a:=T.ob
 rw[h,T.pt] at a
 cases a
theorem Kept.gw{L L':UH}{k p:Nat}{m:List NP}(T:Kept L k p m)(g:Gw L L'):Kept L' k p m:=⟨g.get T.ob,g.get T.pt⟩
theorem Kept.set{L:UH}{k p:Nat}{m m':List NP}(T:Kept L k p m):Kept (L.set p (.dic (kG ptU m'))) k p m':=
 ⟨by rw[cZ (fY T.ne)];exact T.ob,cX (aZ.mp T.pt).1⟩
theorem Kept.fld{L:UH}{k p:Nat}{m:List NP}(T:Kept L k p m){δ:UE}{fe:FE}(h:fe δ L=some (.ref k,L)):E6 "KeptPoints" "points" fe δ L=some (.ref p,L):=by
 unfold E6
 rw[h]
 simp only[aE,insAt_at T.ob,kf_pts,aI]
theorem Pg{L:UH}{n:Nat}{kvs:List (Key×U)}(h:L[n]? = some (.dic kvs)):dicAt L n=some kvs:=by unfold dicAt;rw[h]
theorem Alo{L:UH}{n:Nat}{g:NP->U}{m:List NP}(h:L[n]? = some (.dic (kG g m)))(nm:Str):Mv (.str nm) (.ref n) L=some (.bl (Hx m nm),L):=by
 unfold Mv
 simp only[toK,aE,Pg h,aI,S3]
theorem Ab3{L:UH}{n:Nat}{g:NP->U}{m:List NP}(h:L[n]? = some (.dic (kG g m)))(nm:Str):Hy (.str nm) (.ref n) L=some (.bl (!Hx m nm),L):=by
 unfold Hy
 simp only[toK,aE,Pg h,aI,S3]
theorem need_ok{L:UH}{k p:Nat}{m:List NP}{nm:Str}(T:Kept L k p m)(h:Hx m nm=true):Bs [.ref k,.str nm] L=some (.non,L):=by
 have f1:=T.fld (δ:=[some (.ref k),some (.str nm)]) (fe:=Ae 0) rfl
 unfold Bs fnU Ew
 simp only[aO,aR,if_true,aL,bV,cS,bW,aT]
 rw[Ma,fTest_eq,f2_eq]
 simp only[fVar_eq,aM,aS,bG,aI,aE,f1,Ab3 T.pt,h,qF,bL,if_false,Ug]
theorem Q2{L:UH}{k p:Nat}{m:List NP}{nm:Str}{δ:UE}(T:Kept L k p m)(h:Hx m nm=true)(h0:Ae 0 δ L=some (.ref k,L))(h1:Ae 1 δ L=some (.str nm,L)):(D7 (Au "KeptPoints" "need_name" 2 Bs (Ae 0) (Ac (Ae 1) Aj))) δ L=some (.nx δ,L):=by
 have no:=Xo (s := "need_name") p (by decide +kernel)
 have e:=need_ok T h
 unfold D7 Au
 rw[h0]
 simp only[aE,insAt_at T.ob,no,if_true,fCons_eq,h1,fNil_eq,aI,aO,aR,e]
theorem Yg{L:UH}{k p:Nat}{m:List NP}{nm:Str}{x y:Int}(T:Kept L k p m)(hl:m.length < 1000) :
  (Pj (E6 "KeptPoints" "points" (Ae 0)) (Ae 1) (Dp (Ac (Ae 1) (Ac (Ae 2) (Ac (Ae 3) Aj))))) [some (.ref k),some (.str nm),some (.int x),some (.int y)] L=some (.nx [some (.ref k),some (.str nm),some (.int x),some (.int y)],L.set p (.dic (kG ptU (Kx m nm (x,y))))):=by
 have f1:=T.fld (δ:=[some (.ref k),some (.str nm),some (.int x),some (.int y)]) (fe:=Ae 0) rfl
 have ht:(Dp (Ac (Ae 1) (Ac (Ae 2) (Ac (Ae 3) Aj)))) [some (.ref k),some (.str nm),some (.int x),some (.int y)] L=some (ptU (nm,(x,y)),L):=by
  simp only[N6,fCons_eq,fNil_eq,fVar_eq,aM,aS,bG,aI,aE]
  rw[if_pos (Ib (by show 3<=16777216;decide))]
  rfl
 have hk:(kG ptU m).length < 1000000:=by unfold kG;rw[cH];omega
 unfold Pj
 rw[ht]
 simp only[aE,f1,fVar_eq,aM,aS,bG,aI,toK,Pg T.pt]
 rw[if_pos hk,Ale]
theorem Y5{L:UH}{k p:Nat}{m:List NP}{nm:Str}{x y:Int}(T:Kept L k p m)(h:Hx m nm=false)(hl:m.length < 1000) :
  B3 [.ref k,.str nm,.int x,.int y] L=some (.non,L.set p (.dic (kG ptU (Kx m nm (x,y))))):=by
 have f1:=T.fld (δ:=[some (.ref k),some (.str nm),some (.int x),some (.int y)]) (fe:=Ae 0) rfl
 have s1:(Hv (B4 (f2 Mv (Ae 1) (E6 "KeptPoints" "points" (Ae 0)))) Jn Ed) [some (.ref k),some (.str nm),some (.int x),some (.int y)] L=some (.nx [some (.ref k),some (.str nm),some (.int x),some (.int y)],L):=by
  rw[Ma,fTest_eq,f2_eq]
  simp only[fVar_eq,aM,aS,bG,aI,aE,f1,Alo T.pt,h,bL,if_false,Ug]
 unfold B3 fnU E3
 simp only[aO,aR,if_true,aL,bV,cS,bW,aT]
 rw[Bg s1,Yg T hl]
 rfl
theorem Ab7{L:UH}{k p:Nat}{m:List NP}{nm:Str}{x y:Int}(T:Kept L k p m)(h:Hx m nm=true)(hl:m.length < 1000) :
  Ci [.ref k,.str nm,.int x,.int y] L=some (.non,L.set p (.dic (kG ptU (Kx m nm (x,y))))):=by
 unfold Ci fnU Ei
 simp only[aO,aR,if_true,aL,bV,cS,bW,aT]
 rw[Bg (Q2 T h rfl rfl),Yg T hl]
 rfl
theorem Aje{L:UH}{n:Nat}{g:NP->U}{m:List NP}{nm:Str}{fo fe:FE}{δ:UE}(hn:L[n]? = some (.dic (kG g m)))(h:Hx m nm=true)(h0:fo δ L=some (.ref n,L))(h1:fe δ L=some (.str nm,L)):(D7 (Yi fo fe)) δ L=some (.nx δ,L.set n (.dic (kG g (M8 m nm)))):=by
 have hs:=S3 g m nm
 rw[h] at hs
 obtain ⟨v,hv⟩:=nJ.mp hs
 unfold D7 Yi
 rw[h0]
 simp only[aE,Pg hn,h1,toK,hv,aI,Yd]
theorem Acx{L:UH}{k p:Nat}{m:List NP}{nm:Str}(T:Kept L k p m)(h:Hx m nm=true) :
  Cf [.ref k,.str nm] L=some (.non,L.set p (.dic (kG ptU (M8 m nm)))):=by
 have f1:=T.fld (δ:=[some (.ref k),some (.str nm)]) (fe:=Ae 0) rfl
 unfold Cf fnU Em
 simp only[aO,aR,if_true,aL,bV,cS,bW,aT]
 rw[Bg (Q2 T h rfl rfl),Aje T.pt h f1 rfl]
 rfl
theorem Ac6(L:UH):(Kq "KeptPoints" 1 Bv Aj)=fun δ L=>some (.ref L.length,L++[.ins "KeptPoints" (kfl (L.length+1))]++[.dic (kG ptU [])]):=by
 funext δ L
 have e:Bv [.ref L.length] (L++[.ins "KeptPoints" []])=some (.non,L++[.ins "KeptPoints" (kfl (L.length+1))]++[.dic (kG ptU [])]):=by
  have ha:(L++[HU.ins "KeptPoints" []]++[HU.dic []])[L.length]? = some (.ins "KeptPoints" []):=by simp
  have hp:Ql "points" (.ref (L++[HU.ins "KeptPoints" []]).length) []=kfl (L.length+1):=by
   rw[eD];rfl
  unfold Bv fnU Fd Mg Ta
  simp only[aO,aR,if_true,aL,bV,cS,bW,aT,aE,fVar_eq,aM,bG,aI,insAt_at ha]
  rw[if_pos (by decide),hp]
  simp[kG]
 unfold Kq
 rw[fNil_eq,aE]
 simp only[aR,if_true,e,aE]
theorem place_of_ok(p:NP)(L:UH):Ea [ptU p] L=some (prU p.2,L):=by
 have h1:L2.atI [U.str p.1,.int p.2.1,.int p.2.2] 1=some (.int p.2.1):=rfl
 have h2:L2.atI [U.str p.1,.int p.2.1,.int p.2.2] 2=some (.int p.2.2):=rfl
 simp[Ea,fnU,Oo,ptU,h1,h2,Ib,prU]
theorem Aac(g:NP->U)(m:List NP):Qz (kG g m)=m.map g:=by
 unfold Qz kG
 rw[jC]
 rfl
theorem Aav{L:UH}{k p:Nat}{m:List NP}(T:Kept L k p m)(hl:m.length < 1000) :
  ∃ (r:Nat) (L':UH),Bf [.ref k] L=some (.ref r,L')/\L'[r]? = some (.lst (m.map fun p=>prU p.2))/\Gw L L':=by
 obtain ⟨x,e⟩:=Aa5 (ix:=[none]) (v:=Qz) (fo:=E6 "KeptPoints" "points" (Ae 0)) (g:=gN 0) (tt:=none) (fe:=Cs) (δ:=[some (.ref k)]) (L:=L)
  m ptU (fun _=>true) (fun p=>prU p.2) (fun δ=>∃ a,δ = [a]) (T.fld rfl) T.pt (Aac ptU m) (by omega) ⟨none,rfl⟩
  (fun p δ M _ ⟨a,hδ⟩=>by
   subst hδ
   refine ⟨_,rfl,⟨_,rfl⟩,[],by simp[Ia],fun _=>⟨[],?_⟩⟩
   have:=place_of_ok p M
   simp only[Cs,fOwn_eq,fCons_eq,fNil_eq,fVar_eq,iH,aM,bG,aI,aE,aO,aR,if_true,this,aT])
 have hf:gJ (fun _=>true) m=m:=jF.mpr (fun _ _=>rfl)
 rw[hf] at e
 refine ⟨(L++x).length,L++x++[.lst (m.map fun p=>prU p.2)],?_,by simp,⟨x++[.lst (m.map fun p=>prU p.2)],by rw[bA]⟩⟩
 unfold Bf fnU Ee
 simp only[aO,aR,if_true,aL,bV,cS,bW,aT]
 rw[fRet_eq,e]
 rfl
theorem U7{fN:FN}{ft:FT}{fe:FE}{rel:Int×Int->Int×Int->Bool}(q:Int×Int)(hN:fN=fnU 2 2 (C3 (Dw Gu (Ac (Eo [none,some 1] (En (Ae 0)) (gN 0) (some ft) fe) Aj))))(hfe:fe=Ae 0)
  (hft:∀ (a:Int×Int) (M:UH),∃ y,ft [some (prU a),some (prU q)] M=some (rel a q,M++y))
  {L:UH} {r:Nat} {as:List (Int×Int)} (hr:L[r]? = some (.lst (as.map prU))) (hl:as.length < 1000) :
  ∃ L',fN [.ref r,prU q] L=some (.int ((as.filter fun a=>rel a q).length:Nat),L')/\Gw L L':=by
 have hs:=Cr hr
 obtain ⟨x,e⟩:=D3 (ix:=[none,some 1]) (fi:=En (Ae 0)) (it:=.ref r) (g:=gN 0) (tt:=some ft) (fe:=fe) (δ:=[some (.ref r),some (prU q)]) (L:=L) (L0:=L)
  as prU (fun a=>rel a q) prU (fun δ=>∃ a,δ = [a,some (prU q)]) (by rw[Afe,fVar_eq];simp only[aM,bG,aI,aE,Qs hs]) (by rw[Te hs];simp) (by omega) ⟨none,rfl⟩
  (fun k x=>Afd (M3 hs))
  (fun a δ x _ ⟨z,hδ⟩=>by
   subst hδ
   obtain ⟨y,ey⟩:=hft a (L++x)
   refine ⟨[some (prU a),some (prU q)],rfl,⟨_,rfl⟩,y,ey,fun _=>⟨[],?_⟩⟩
   subst hfe
   simp only[fVar_eq,aM,bG,aI,aT])
 refine ⟨L++x++[.lst ((as.filter fun a=>rel a q).map prU)],?_,⟨x++[.lst ((as.filter fun a=>rel a q).map prU)],by rw[bA]⟩⟩
 have hlen:=N7 (L:=L++x++[.lst ((as.filter fun a=>rel a q).map prU)]) (n:=(L++x).length) (l:=(as.filter fun a=>rel a q).map prU) (by simp)
 subst hN
 unfold fnU
 simp only[aO,aR,if_true,aL,bV,cS,bW,aT]
 rw[fRet_eq,fCall_eq,fCons_eq,e]
 simp only[aE,fNil_eq,aI,hlen,cH]
theorem Qa{L:UH}{r:Nat}{as:List (Int×Int)}(q:Int×Int)(hr:L[r]? = some (.lst (as.map prU)))(hl:as.length < 1000) :
  ∃ L',Ii [.ref r,prU q] L=some (.int ((as.filter fun a=>below a q).length:Nat),L')/\Gw L L':=
 U7 (rel:=below) q rfl rfl (fun a M=>by
  obtain ⟨y,ey⟩:=Yj a q M
  refine ⟨y,?_⟩
  simp only[Jd,fTru_eq,fOwn_eq,fCons_eq,fNil_eq,fVar_eq,aM,aS,bG,aI,aE,aO,aR,if_true,ey,truU_bl]) hr hl
theorem P5{L:UH}{r:Nat}{as:List (Int×Int)}(q:Int×Int)(hr:L[r]? = some (.lst (as.map prU)))(hl:as.length < 1000) :
  ∃ L',Iq [.ref r,prU q] L=some (.int ((as.filter fun a=>below q a).length:Nat),L')/\Gw L L':=
 U7 (rel:=fun a q=>below q a) q rfl rfl (fun a M=>by
  obtain ⟨y,ey⟩:=Yj q a M
  refine ⟨y,?_⟩
  simp only[Jb,fTru_eq,fOwn_eq,fCons_eq,fNil_eq,fVar_eq,aM,aS,bG,aI,aE,aO,aR,if_true,ey,truU_bl]) hr hl
theorem Y8{fN fM:FN}{rel:Int×Int->Bool}{x y:Int}(hN:fN=fnU 3 3 (C3 (Dl 2 fM (Ac (Au "KeptPoints" "places_now" 1 Bf (Ae 0) Aj) (Ac (Dp (Ac (Ae 1) (Ac (Ae 2) Aj))) Aj)))))
  (hM:∀ (L:UH) (r:Nat) (as:List (Int×Int)),L[r]? = some (.lst (as.map prU))->as.length < 1000->∃ L',fM [.ref r,prU (x,y)] L=some (.int ((as.filter rel).length:Nat),L')/\Gw L L')
  {L:UH} {k p:Nat} {m:List NP} (T:Kept L k p m) (hl:m.length < 1000) :
  ∃ L',fN [.ref k,.int x,.int y] L=some (.int ((m.filter fun p=>rel p.2).length:Nat),L')/\Gw L L':=by
 obtain ⟨r,L1,e1,h1,g1⟩:=Aav T hl
 obtain ⟨L2,e2,g2⟩:=hM L1 r (m.map (·.2)) (by rw[h1,jC];rfl) (by simpa using hl)
 refine ⟨L2,?_,g1.trans g2⟩
 have no:=Xo (s := "places_now") p (by decide +kernel)
 have hme:(Au "KeptPoints" "places_now" 1 Bf (Ae 0) Aj) [some (.ref k),some (.int x),some (.int y)] L=some (.ref r,L1):=by
  unfold Au
  simp only[fVar_eq,aM,bG,aI,aE,insAt_at T.ob,no,if_true,fNil_eq,aR,e1]
 have ht:(Dp (Ac (Ae 1) (Ac (Ae 2) Aj))) [some (.ref k),some (.int x),some (.int y)] L1=some (prU (x,y),L1):=by
  simp only[N6,fCons_eq,fNil_eq,fVar_eq,aM,aS,bG,aI,aE]
  rw[if_pos (Ib (by show 2<=16777216;decide))]
  rfl
 have hc:((m.map (·.2)).filter rel).length=(m.filter fun p=>rel p.2).length:=by
  rw[List.filter_map,cH];rfl
 rw[hc] at e2
 subst hN
 unfold fnU
 simp only[aO,aR,if_true,aL,bV,cS,bW,aT]
 rw[fRet_eq,fOwn_eq,fCons_eq,hme,aE,fCons_eq,ht]
 simp only[aE,fNil_eq,aI,aO,aR,if_true,e2]
theorem Sh{L:UH}{k p:Nat}{m:List NP}{x y:Int}(T:Kept L k p m)(hl:m.length < 1000) :
  ∃ L',Dg [.ref k,.int x,.int y] L=some (.int ((m.filter fun p=>below p.2 (x,y)).length:Nat),L')/\Gw L L':=
 Y8 (rel:=fun a=>below a (x,y)) rfl (fun L r as h1 h2=>Qa (x,y) h1 h2) T hl
theorem Sx{L:UH}{k p:Nat}{m:List NP}{x y:Int}(T:Kept L k p m)(hl:m.length < 1000) :
  ∃ L',Dh [.ref k,.int x,.int y] L=some (.int ((m.filter fun p=>below (x,y) p.2).length:Nat),L')/\Gw L L':=
 Y8 (rel:=fun a=>below (x,y) a) rfl (fun L r as h1 h2=>P5 (x,y) h1 h2) T hl
noncomputable def inC(q:Int×Int)(p:Str×(Int×Int)):Bool:=decide (p.2.1<=q.1)&&decide (p.2.2<=q.2)
noncomputable def inB(b:Int×Int×Int×Int)(p:Str×(Int×Int)):Bool:=decide (b.1<=p.2.1)&&(decide (p.2.1<=b.2.2.1)&&(decide (b.2.1<=p.2.2)&&decide (p.2.2<=b.2.2.2)))
noncomputable def cntC(ps:List (Str×(Int×Int)))(q:Int×Int):Nat:=(ps.filter (inC q)).length
noncomputable def cntB(ps:List (Str×(Int×Int)))(b:Int×Int×Int×Int):Nat:=(ps.filter (inB b)).length
theorem pt1(p:Str×(Int×Int)):L2.atI [U.str p.1,.int p.2.1,.int p.2.2] 1=some (.int p.2.1):=rfl
theorem pt2(p:Str×(Int×Int)):L2.atI [U.str p.1,.int p.2.1,.int p.2.2] 2=some (.int p.2.2):=rfl
theorem ix1(p:Str×(Int×Int))(L:UH):B7 (ptU p) (.int 1) L=some (.int p.2.1,L):=by unfold ptU;rw[Q0,pt1];rfl
theorem ix2(p:Str×(Int×Int))(L:UH):B7 (ptU p) (.int 2) L=some (.int p.2.2,L):=by unfold ptU;rw[Q0,pt2];rfl
theorem bx0(b:Int×Int×Int×Int)(L:UH):B7 (bxU b) (.int 0) L=some (.int b.1,L):=rfl
theorem bx1(b:Int×Int×Int×Int)(L:UH):B7 (bxU b) (.int 1) L=some (.int b.2.1,L):=rfl
theorem bx2(b:Int×Int×Int×Int)(L:UH):B7 (bxU b) (.int 2) L=some (.int b.2.2.1,L):=rfl
theorem bx3(b:Int×Int×Int×Int)(L:UH):B7 (bxU b) (.int 3) L=some (.int b.2.2.2,L):=rfl
theorem Uv{fa fb fc:FE}{δ:UE}{L:UH}{a b c:Int}(ha:fa δ L=some (.int a,L))(hb:fb δ L=some (.int b,L))(hc:fc δ L=some (.int c,L)):Jw Gd Gd fa fb fc δ L=some (.bl (decide (a<=b)&&decide (b<=c)),L):=by
 unfold Jw
 simp only[ha,hb,hc,aE,semLe_int]
 cases decide (a<=b) <;> rfl
theorem Wh(p:Str×(Int×Int))(b:Int×Int×Int×Int)(L:UH):Kc [ptU p,bxU b] L=some (.bl (inB b p),L):=by
 have c1:Jw Gd Gd (f2 B7 (Ae 1) (fC (.int 0))) (f2 B7 (Ae 0) (fC (.int 1))) (f2 B7 (Ae 1) (fC (.int 2))) [some (ptU p),some (bxU b)] L=some (.bl (decide (b.1<=p.2.1)&&decide (p.2.1<=b.2.2.1)),L):=Uv (by simp only[f2_eq,fVar_eq,M6,aS,aM,bG,aI,aE,bx0]) (by simp only[f2_eq,fVar_eq,M6,aS,aM,bG,aI,aE,ix1]) (by simp only[f2_eq,fVar_eq,M6,aS,aM,bG,aI,aE,bx2])
 have c2:Jw Gd Gd (f2 B7 (Ae 1) (fC (.int 1))) (f2 B7 (Ae 0) (fC (.int 2))) (f2 B7 (Ae 1) (fC (.int 3))) [some (ptU p),some (bxU b)] L=some (.bl (decide (b.2.1<=p.2.2)&&decide (p.2.2<=b.2.2.2)),L):=Uv (by simp only[f2_eq,fVar_eq,M6,aS,aM,bG,aI,aE,bx1]) (by simp only[f2_eq,fVar_eq,M6,aS,aM,bG,aI,aE,ix2]) (by simp only[f2_eq,fVar_eq,M6,aS,aM,bG,aI,aE,bx3])
 unfold Kc fnU Ra inB
 simp only[aO,aR,if_true,aL,bV,cS,bW,aT,fRet_eq,Mf,c1,c2,aI,aE]
 cases decide (b.1<=p.2.1) <;> cases decide (p.2.1<=b.2.2.1) <;> cases decide (b.2.1<=p.2.2) <;> cases decide (p.2.2<=b.2.2.2) <;> rfl
theorem Iy{ps:List (Str×(Int×Int))}(hl:ps.length<=1000)(b:Int×Int×Int×Int)(L:UH):∃ (r:Nat) (L':UH),C1 [.tup (ps.map ptU),bxU b] L=some (.ref r,L')/\L'[r]? = some (.lst ((ps.filter (inB b)).map ptU))/\Gw L L':=by
 obtain ⟨x,e⟩:=D3 (ix:=[none,some 1]) (fi:=En (Ae 0)) (it:=.seq (ps.map ptU)) (g:=gN 0) (tt:=some Gp) (fe:=Jp) (δ:=[some (.tup (ps.map ptU)),some (bxU b)]) (L:=L) (L0:=L)
  ps ptU (inB b) ptU (fun δ=>∃ a,δ = [a,some (bxU b)]) (by simp[Lc]) (by simp[IU.size]) (by omega) ⟨none,rfl⟩
  (fun k x=>rfl)
  (fun p δ x _ ⟨y,hδ⟩=>by
   subst hδ
   refine ⟨[some (ptU p),some (bxU b)],rfl,⟨_,rfl⟩,[],?_,fun _=>⟨[],?_⟩⟩
   ·unfold Ia Gp
    simp only[fTru_eq,fOwn_eq,fCons_eq,fNil_eq,fVar_eq,aS,aM,bG,aI,aE,aO,aR,if_true,Wh,truU_bl,aT]
   ·rw[aT,aT];rfl)
 refine ⟨(L++x).length,L++x++[HU.lst ((ps.filter (inB b)).map ptU)],?_,by simp,⟨x++[HU.lst ((ps.filter (inB b)).map ptU)],by rw[bA]⟩⟩
 unfold C1 fnU Nr
 simp only[aO,aR,if_true,aL,bV,cS,bW,aT,fRet_eq,e,aI,aE]
theorem Nl{ps:List (Str×(Int×Int))}(hl:ps.length<=1000)(bs:List (Int×Int×Int×Int))(hb:bs.length<=1000)(L:UH):∃ L',Gn [.tup (ps.map ptU),.tup (bs.map bxU)] L=some (.tup ((bs.map fun b=>((cntB ps b:Nat):Int)).map U.int),L')/\Gw L L':=by
 obtain ⟨x,e⟩:=D3 (ix:=[none,some 0]) (fi:=En (Ae 1)) (it:=.seq (bs.map bxU)) (g:=gN 0) (tt:=none) (fe:=Hn) (δ:=[some (.tup (ps.map ptU)),some (.tup (bs.map bxU))]) (L:=L) (L0:=L)
  bs bxU (fun _=>true) (fun b=>.int ((cntB ps b:Nat):Int)) (fun δ=>∃ a,δ = [a,some (.tup (ps.map ptU))]) (by simp[Lc]) (by simp[IU.size]) (by omega) ⟨none,rfl⟩
  (fun k x=>rfl)
  (fun b δ x _ ⟨y,hδ⟩=>by
   subst hδ
   obtain ⟨r,L',e1,hr,w,hw⟩:=Iy hl b (L++x)
   refine ⟨[some (bxU b),some (.tup (ps.map ptU))],rfl,⟨_,rfl⟩,[],by simp[Ia],fun _=>⟨w,?_⟩⟩
   have hlen:=N7 hr
   rw[cH] at hlen
   unfold Hn
   rw[aT,<- hw]
   simp only[fCall_eq,fOwn_eq,fCons_eq,fNil_eq,fVar_eq,aS,aM,bG,aI,aE,aO,aR,if_true,e1,hlen,cntB])
 have hff:gJ (fun _=>true) bs=bs:=jF.mpr (fun _ _=>rfl)
 have hm:bs.map (fun b=>U.int ((cntB ps b:Nat):Int))=(bs.map fun b=>((cntB ps b:Nat):Int)).map U.int:=by simp
 rw[hff,hm] at e
 generalize (bs.map fun b=>((cntB ps b:Nat):Int))=cs at e
 have q2:Bi (L++x++[HU.lst (cs.map U.int)]) (L++x).length=some (cs.map U.int):=Cr (by simp)
 refine ⟨L++x++[HU.lst (cs.map U.int)],?_,⟨x++[HU.lst (cs.map U.int)],by rw[bA]⟩⟩
 unfold Gn fnU Oe
 simp only[aO,aR,if_true,aL,bV,cS,bW,aT]
 rw[fRet_eq,fCall_eq,fCons_eq,e]
 simp only[aE,fNil_eq,aI,semTuple,q2]
namespace TR
noncomputable def Ag8:Nat->Nat->Nat
 | 0,_=>1
 | f+1,k=>if k % 2=0 then 2 * Ag8 f (k / 2) else 1
noncomputable def low(k:Nat):Nat:=Ag8 8 k
noncomputable def vis:Nat->Nat->Nat->Bool
 | 0,_,_=>false
 | f+1,j,i=>if i=j then true else if j < i then vis f (j+low j) i else false
theorem U4:∀ f k,1<=Ag8 f k
 | 0,_=>aN _
 | f+1,k=>by unfold Ag8;have:=U4 f (k / 2);split <;> omega
theorem Lx(k:Nat):1<=low k:=U4 8 k
theorem V0:((dS 201).all fun i=>i == 0 || decide (low i<=i))=true:=by decide +kernel
theorem We{i:Nat}(h1:1<=i)(h2:i<=200):low i<=i:=by
 have:=cV.mp V0 i (eB.mpr (by omega))
 simp at this
 omega
theorem Ag9:((dS 201).all fun i=>i == 0 || (iQ (i:Int) (-(i:Int)) == (low i:Int)))=true:=by decide +kernel
theorem Aii{i:Nat}(h1:1<=i)(h2:i<=200):iQ (i:Int) (-(i:Int))=(low i:Int):=by
 have:=cV.mp Ag9 i (eB.mpr (by omega))
 simp at this
 omega
theorem Agp:((dS 201).all fun i=>(dS 201).all fun j=>i == 0 || j == 0 || (vis 201 j i == (decide (i - low i < j)&&decide (j<=i))))=true:=by decide +kernel
theorem Am9{i j:Nat}(h1:1<=i)(h2:i<=200)(h3:1<=j)(h4:j<=200):vis 201 j i=(decide (i - low i < j)&&decide (j<=i)):=by
 have a:=cV.mp Agp i (eB.mpr (by omega))
 have b:=cV.mp a j (eB.mpr (by omega))
 simp only[sM,beq_iff_eq] at b
 rcases b with (b | b) | b
 ·omega
 ·omega
 ·exact b
theorem Vd:∀ (f g j i:Nat),i < f+j->i < g+j->vis f j i=vis g j i
 | 0,0,_,_,_,_=>rfl
 | 0,g+1,j,i,h1,_=>by unfold vis;rw[if_neg (by omega),if_neg (by omega)]
 | f+1,0,j,i,_,h2=>by unfold vis;rw[if_neg (by omega),if_neg (by omega)]
 | f+1,g+1,j,i,h1,h2=>by
  unfold vis
  have:=Lx j
  by_cases a:i=j
  ·rw[if_pos a,if_pos a]
  ·rw[if_neg a,if_neg a]
   by_cases b:j < i
   ·rw[if_pos b,if_pos b];exact Vd f g (j+low j) i (by omega) (by omega)
   ·rw[if_neg b,if_neg b]
noncomputable def putF:Nat->List Int->Nat->Int->Nat->List Int
 | 0,cs,_,_,_=>cs
 | f+1,cs,j,v,n=>if j<=n then putF f (cs.set j (cs.getD j 0+v)) (j+low j) v n else cs
theorem putF_len:∀ f cs j v n,(putF f cs j v n).length=cs.length
 | 0,_,_,_,_=>rfl
 | f+1,cs,j,v,n=>by
  unfold putF
  split
  ·rw[putF_len];simp
  ·rfl
theorem X9:∀ (f:Nat) (cs:List Int) (j:Nat) (v:Int) (n i:Nat),n < f+j->i<=n->cs.length=n+1->(putF f cs j v n).getD i 0=cs.getD i 0+if vis f j i=true then v else 0
 | 0,cs,j,v,n,i,h1,h2,_=>by simp[putF,vis]
 | f+1,cs,j,v,n,i,h1,h2,h3=>by
  have hp:=Lx j
  unfold putF vis
  by_cases a:j<=n
  ·rw[if_pos a,X9 f _ (j+low j) v n i (by omega) h2 (by simp[h3])]
   by_cases b:i=j
   ·subst b
    rw[if_pos rfl]
    have:vis f (i+low i) i=false:=by
     cases f with
     | zero=>rfl
     | succ f=>unfold vis;rw[if_neg (by omega),if_neg (by omega)]
    rw[this]
    simp only[bC]
    rw[cX (by omega)]
    simp
   ·rw[if_neg b]
    simp only[bC]
    rw[cZ (by omega)]
    by_cases c:j < i
    ·rw[if_pos c]
    ·rw[if_neg c]
     have:vis f (j+low j) i=false:=by
      cases f with
      | zero=>rfl
      | succ f=>unfold vis;rw[if_neg (by omega),if_neg (by omega)]
     rw[this]
  ·have c1:¬ i=j:=by omega
   have c2:¬ j < i:=by omega
   rw[if_neg a,if_neg c1,if_neg c2]
   simp
noncomputable def pre(row:List Int)(m:Nat):Int:=(row.take m).sum
theorem S0:∀ (row:List Int) (q m:Nat) (v:Int),q < row.length->pre (row.set q (row.getD q 0+v)) m=pre row m+if q < m then v else 0
 | [],q,m,v,h=>by simp at h
 | a::row,0,0,v,_=>by simp[pre]
 | a::row,0,m+1,v,_=>by simp[pre];omega
 | a::row,q+1,0,v,_=>by simp[pre]
 | a::row,q+1,m+1,v,h=>by
  have:=S0 row q m v (by simpa using h)
  simp only[pre,jR,List.take_succ_cons,tZ,List.getD_cons_succ] at this ⊢
  rw[this]
  by_cases c:q < m
  ·simp[c];omega
  ·simp[c]
noncomputable def X7(row:List Int)(i:Nat):Int:=pre row i - pre row (i - low i)
structure Fen(row cs:List Int)(n:Nat):Prop where
 rl:row.length=n
 cl:cs.length=n+1
 at_:∀ i,1<=i->i<=n->cs.getD i 0=X7 row i
theorem Fen.put{row cs:List Int}{n p:Nat}(v:Int)(F:Fen row cs n)(hn:n<=200)(h1:1<=p)(h2:p<=n):Fen (row.set (p - 1) (row.getD (p - 1) 0+v)) (putF (n+1 - p) cs p v n) n:=by
 have hrl:=F.rl
 refine ⟨by simp[F.rl],by rw[putF_len];exact F.cl,fun i i1 i2=>?_⟩
 rw[X9 (n+1 - p) cs p v n i (by omega) i2 F.cl,F.at_ i i1 i2,Vd (n+1 - p) 201 p i (by omega) (by omega),Am9 i1 (by omega) h1 (by omega)]
 unfold X7
 rw[S0 row (p - 1) i v (by omega),S0 row (p - 1) (i - low i) v (by omega)]
 have hl:=We i1 (show i<=200 by omega)
 have hp:=Lx i
 by_cases a:i - low i < p <;> by_cases b:p<=i
 ·have c1:p - 1 < i:=by omega
  have c2:¬ p - 1 < i - low i:=by omega
  simp[a,b,c1,c2];omega
 ·have c1:¬ p - 1 < i:=by omega
  have c2:¬ p - 1 < i - low i:=by omega
  simp[a,b,c1,c2]
 ·have c1:p - 1 < i:=by omega
  have c2:p - 1 < i - low i:=by omega
  simp[a,b,c1,c2];omega
 ·omega
theorem Agw(m:Nat):(aY m (0:Int)).sum=0:=by
 induction m with
 | zero=>rfl
 | succ m ih=>rw[dQ,tZ,ih];rfl
theorem Th(n m:Nat):pre (aY n 0) m=0:=by
 unfold pre
 rw[List.take_replicate]
 exact Agw _
theorem Fen.new(n:Nat):Fen (aY n 0) (aY (n+1) 0) n:=by
 refine ⟨by simp,by simp,fun i h1 h2=>?_⟩
 unfold X7
 rw[Th,Th]
 simp only[bC]
 rw[nR]
 split <;> rfl
noncomputable def Rw(n c:Nat):List (Str×U):=[("many",.int n),("cells",.ref c)]
theorem fl_many(n c:Nat):fA ("many" : Str) (Rw n c)=some (.int n):=rfl
theorem Ao6:(("cells" : Str) == "many")=false:=by decide +kernel
theorem fl_cells(n c:Nat):fA ("cells" : Str) (Rw n c)=some (.ref c):=by
 unfold Rw
 rw[cK,Ao6]
 rfl
theorem nl1:(("need_place" : Str) == "many")=false:=by decide +kernel
theorem nl2:(("need_place" : Str) == "cells")=false:=by decide +kernel
theorem nl3:(("put_to" : Str) == "many")=false:=by decide +kernel
theorem nl4:(("put_to" : Str) == "cells")=false:=by decide +kernel
theorem Akh{m:Str}(n c:Nat)(h1:(m == "many")=false)(h2:(m == "cells")=false):fA m (Rw n c)=none:=by
 unfold Rw
 rw[cK,h1,cK,h2]
 rfl
theorem insAt_at{C:Str}{L:UH}{t:Nat}{fs:List (Str×U)}(h:L[t]? = some (.ins C fs)):Jx C (.ref t) L=some (t,fs):=by
 unfold Jx
 simp only[h,if_true]
noncomputable def Hz(n:Nat):List (Str×U):=[("many",.int n)]
theorem put_many(n:Nat):Ql "many" (.int n) []=Hz n:=rfl
theorem Aoj:¬ (("many" : Str) = "cells"):=by decide +kernel
theorem Abz(n c:Nat):Ql "cells" (.ref c) (Hz n)=Rw n c:=by
 unfold Hz Ql
 rw[if_neg Aoj]
 rfl
structure Tree(L:UH)(t c n:Nat)(cs:List Int):Prop where
 ob:L[t]? = some (.ins "SumTree" (Rw n c))
 ce:L[c]? = some (.lst (cs.map U.int))
 ln:cs.length=n+1
theorem Tree.ne{L:UH}{t c n:Nat}{cs:List Int}(T:Tree L t c n cs):t≠c:=fun h=>by
 have a:=T.ob
 rw[h,T.ce] at a
 cases a
theorem Tree.gw{L L':UH}{t c n:Nat}{cs:List Int}(T:Tree L t c n cs)(g:Gw L L'):Tree L' t c n cs:=⟨g.get T.ob,g.get T.ce,T.ln⟩
theorem Tree.ex{d:Nat}{L L':UH}{t c n:Nat}{cs:List Int}(T:Tree L t c n cs)(x:Ex d L L')(h1:t≠d)(h2:c≠d):Tree L' t c n cs:=⟨x.get T.ob h1,x.get T.ce h2,T.ln⟩
theorem Lh{L:UH}{t c n:Nat}{cs:List Int}(T:Tree L t c n cs){δ:UE}{fe:FE}(h:fe δ L=some (.ref t,L)):E6 "SumTree" "many" fe δ L=some (.int n,L):=by
 unfold E6
 simp only[h,aE,insAt_at T.ob,fl_many,aI]
theorem Qn{L:UH}{t c n:Nat}{cs:List Int}(T:Tree L t c n cs){δ:UE}{fe:FE}(h:fe δ L=some (.ref t,L)):E6 "SumTree" "cells" fe δ L=some (.ref c,L):=by
 unfold E6
 simp only[h,aE,insAt_at T.ob,fl_cells,aI]
theorem var0(x:U)(r:UE)(L:UH):Ae 0 (some x::r) L=some (x,L):=rfl
theorem Vm{L:UH}{n:Nat}{k:Int}{a:List U}(h:Gy L n=some a)(h1:-1000000<=k/\k<=1000000/\Gq (a.length * k.toNat)=true):Hj (.ref n) (.int k) L=some (.ref L.length,L++[.lst (aY k.toNat a).flatten]):=by
 unfold Hj
 simp only[h,aE]
 rw[if_pos h1]
theorem Afc(m:Nat)(u:U):(aY m [u]).flatten=aY m u:=by
 induction m with
 | zero=>rfl
 | succ m ih=>rw[dQ,fR,ih,dQ];rfl
theorem Aeu{L:UH}{n m:Nat}{k:Int}(h:Gy L n=some [.int 0])(hk:k=m)(hm:m<=1000):Hj (.ref n) (.int k) L=some (.ref L.length,L++[.lst (aY m (.int 0))]):=by
 subst hk
 have h2:([U.int 0]:List U).length * ((m:Nat):Int).toNat<=16777216:=by
  rw[cO,List.length_singleton,Nat.one_mul]
  exact dN hm (by decide)
 rw[Vm h ⟨by omega,by omega,Ib h2⟩,cO,Afc]
theorem init_ok(n:Nat)(hn:n<=200)(L:UH):∃ L',B8 [.ref L.length,.int n] (L++[.ins "SumTree" []])=some (.non,L')/\Tree L' L.length (L.length+2) n (aY (n+1) 0)/\Gw L L':=by
 have i1:Jx "SumTree" (.ref L.length) (L++[HU.ins "SumTree" []])=some (L.length,[]):=insAt_at (by simp)
 have hM1:(L++[HU.ins "SumTree" []]).set L.length (.ins "SumTree" (Hz n))=L++[HU.ins "SumTree" (Hz n)]:=by simp
 have l0:Gy (L++[HU.ins "SumTree" (Hz n)]++[HU.lst [.int 0]]) (L.length+1)=some [.int 0]:=Rj (by simp[iY])
 have hmul:Hj (.ref (L.length+1)) (.int ((n:Int)+1)) (L++[HU.ins "SumTree" (Hz n)]++[HU.lst [.int 0]])=some (.ref (L.length+2),L++[HU.ins "SumTree" (Hz n)]++[HU.lst [.int 0]]++[HU.lst (aY (n+1) (.int 0))]):=by
  have:=Aeu (m:=n+1) (k:=(n:Int)+1) l0 (by omega) (by omega)
  rw[this]
  simp
 let M2:UH:=L++[HU.ins "SumTree" (Rw n (L.length+2))]++[HU.lst [.int 0]]++[HU.lst (aY (n+1) (.int 0))]
 have hce:M2[L.length+2]? = some (.lst ((aY (n+1) (0:Int)).map U.int)):=by
  rw[List.map_replicate]
  simp[M2,iY]
 refine ⟨M2,?_,⟨by simp[M2,iY],hce,by simp⟩,⟨[HU.ins "SumTree" (Rw n (L.length+2))]++[HU.lst [.int 0]]++[HU.lst (aY (n+1) (.int 0))],by simp[M2]⟩⟩
 have h1:Mg "SumTree" "many" (Ae 0) (Ae 1) [some (.ref L.length),some (.int n)] (L++[.ins "SumTree" []])=some (.nx [some (.ref L.length),some (.int n)],L++[HU.ins "SumTree" (Hz n)]):=by
  unfold Mg
  simp only[fVar_eq,aS,aM,bG,aI,aE,i1,aR]
  rw[if_pos (by decide),put_many,hM1]
 have h2:Mg "SumTree" "cells" (Ae 0) (f2 Hj (Abm (Ac (fC (.int 0)) Aj)) (f2 Bl (Ae 1) (fC (.int 1)))) [some (.ref L.length),some (.int n)] (L++[HU.ins "SumTree" (Hz n)])=some (.nx [some (.ref L.length),some (.int n)],M2):=by
  have e1:(f2 Hj (Abm (Ac (fC (.int 0)) Aj)) (f2 Bl (Ae 1) (fC (.int 1)))) [some (.ref L.length),some (.int n)] (L++[HU.ins "SumTree" (Hz n)])=some (.ref (L.length+2),L++[HU.ins "SumTree" (Hz n)]++[HU.lst [.int 0]]++[HU.lst (aY (n+1) (.int 0))]):=by
   have hl1:Abm (Ac (fC (.int 0)) Aj) [some (.ref L.length),some (.int n)] (L++[HU.ins "SumTree" (Hz n)])=some (.ref (L.length+1),L++[HU.ins "SumTree" (Hz n)]++[HU.lst [.int 0]]):=by simp[Ib]
   have hl2:(f2 Bl (Ae 1) (fC (.int 1))) [some (.ref L.length),some (.int n)] (L++[HU.ins "SumTree" (Hz n)]++[HU.lst [.int 0]])=some (.int ((n:Int)+1),L++[HU.ins "SumTree" (Hz n)]++[HU.lst [.int 0]]):=rfl
   rw[f2_eq,hl1,aE,hl2,aE,hmul]
  have i3:Jx "SumTree" (.ref L.length) (L++[HU.ins "SumTree" (Hz n)]++[HU.lst [.int 0]]++[HU.lst (aY (n+1) (.int 0))])=some (L.length,Hz n):=insAt_at (by simp[iY])
  unfold Mg
  simp only[e1,aE,var0,i3]
  rw[if_pos (show (Hz n).length < 1000 from (by simp[Hz])),Abz]
  simp[M2]
 unfold B8 fnU G5
 simp only[aO,aR,if_true,aL,bV,cS,bW,aT]
 rw[Bg h1,h2]
 rfl
theorem need_ok{L:UH}{t c n p:Nat}{cs:List Int}(T:Tree L t c n cs)(h1:1<=p)(h2:p<=n):Aw [.ref t,.int p] L=some (.non,L):=by
 have e:=Lh T (var0 (.ref t) [some (.int p)] L)
 have c1:¬ ((p:Int) < 1):=by omega
 have c2:¬ ((n:Int) < p):=by omega
 simp[Aw,fnU,Fo,c1,e,c2]
theorem Acy{j:Nat}(L:UH)(h1:1<=j)(h2:j<=200):Eu [.int j] L=some (.int (low j),L):=by
 have e:=Aii h1 h2
 have hb:Ml (.int j) (.int (-(j:Int))) L=some (.int (low j),L):=by
  show some (U.int (iQ (j:Int) (-(j:Int))),L)=_
  rw[e]
 simp[Eu,fnU,Ld,hb]
theorem Acv{L:UH}{t c n j:Nat}{cs:List Int}{v:Int}{x1:Option U}(T:Tree L t c n cs)(hn:n<=200)(h1:1<=j)(h2:j<=n) :
  Dk [some (.ref t),x1,some (.int v),some (.int j)] L=some (.nx [some (.ref t),x1,some (.int v),some (.int (j+low j:Nat))],L.set c (.lst ((cs.set j (cs.getD j 0+v)).map U.int))):=by
 have e:=Qn T (var0 (.ref t) [x1,some (.int v),some (.int j)] L)
 have hj:j < cs.length:=by rw[T.ln];omega
 have hat:L2.atI (cs.map U.int) (j:Int)=some (.int (cs.getD j 0)):=by
  rw[Wa (by omega) (by simp;omega),cB,cO,aH hj]
  simp[bC,hj]
 have hix:ixN (cs.map U.int).length (j:Int)=some j:=by rw[Anc (by omega) (by simp;omega)];simp
 have hset:(cs.map U.int).set j (.int (cs.getD j 0+v))=(cs.set j (cs.getD j 0+v)).map U.int:=by rw[List.map_set]
 have s1:(E8 (f2 Bl (f2 B7 (E6 "SumTree" "cells" (Ae 0)) (Ae 3)) (Ae 2)) (MR.gSub (E6 "SumTree" "cells" (Ae 0)) (Ae 3))) [some (.ref t),x1,some (.int v),some (.int j)] L=some (.nx [some (.ref t),x1,some (.int v),some (.int j)],L.set c (.lst ((cs.set j (cs.getD j 0+v)).map U.int))):=by
  simp only[J7,f2_eq,e,aE,fVar_eq,aS,aM,bG,aI,semIx_ref,Cr T.ce,hat,semAdd_int,gSub_eq,Rj T.ce,hix,hset]
 have s2:=Acy (L.set c (.lst ((cs.set j (cs.getD j 0+v)).map U.int))) h1 (show j<=200 by omega)
 unfold Dk
 rw[Bg s1]
 simp only[J7,f2_eq,fOwn_eq,fCons_eq,fNil_eq,fVar_eq,aS,aM,bG,aI,aE,aO,aR,if_true,s2,semAdd_int,gN_eq,jR,iH]
 rw[Int.natCast_add]
theorem Tree.put{L:UH}{t c n:Nat}{cs ds:List Int}(T:Tree L t c n cs)(h:ds.length=cs.length):Tree (L.set c (.lst (ds.map U.int))) t c n ds:=
 ⟨by rw[cZ (fY T.ne)];exact T.ob,cX (aZ.mp T.ce).1,by rw[h];exact T.ln⟩
theorem U3{t c n:Nat}{v:Int}{x1:Option U}(hn:n<=200):∀ (f m j:Nat) (cs:List Int) (L:UH),Tree L t c n cs->f < m->n < f+j->1<=j->∃ y3,Fq C7 Dk m [some (.ref t),x1,some (.int v),some (.int j)] L=some (.nx [some (.ref t),x1,some (.int v),y3],L.set c (.lst ((putF f cs j v n).map U.int)))
 | f,0,j,cs,L,_,hm,_,_=>by omega
 | f,m+1,j,cs,L,T,hm,hf,h1=>by
  have e:=Lh T (var0 (.ref t) [x1,some (.int v),some (.int j)] L)
  have ht:C7 [some (.ref t),x1,some (.int v),some (.int j)] L=some (decide (j<=n),L):=by
   simp[C7,e]
  unfold Fq
  rw[ht]
  by_cases a:j<=n
  ·cases f with
   | zero=>omega
   | succ f=>
    have hp:=Lx j
    obtain ⟨y3,ih⟩:=U3 (t:=t) (c:=c) (v:=v) (x1:=x1) hn f m (j+low j) (cs.set j (cs.getD j 0+v)) (L.set c (.lst ((cs.set j (cs.getD j 0+v)).map U.int))) (T.put (by simp)) (by omega) (by omega) (by omega)
    refine ⟨y3,?_⟩
    simp only[aE,a,decide_true,if_true,Acv T hn h1 a,ih]
    rw[List.set_set]
    simp only[putF,a,if_true]
  ·refine ⟨some (.int j),?_⟩
   simp only[aE,a,decide_false,bL,if_false]
   have:putF f cs j v n=cs:=by cases f <;> simp[putF,a]
   rw[this]
   have hs:L.set c (.lst (cs.map U.int))=L:=by
    have hlt:=(aZ.mp T.ce)
    obtain ⟨h,hh⟩:=hlt
    rw[<- hh]
    exact List.set_getElem_self h
   rw[hs]
theorem put_ok{L:UH}{t c n p:Nat}{cs:List Int}{v:Int}(T:Tree L t c n cs)(hn:n<=200)(h1:1<=p)(h2:p<=n):Dc [.ref t,.int p,.int v] L=some (.non,L.set c (.lst ((putF (n+1 - p) cs p v n).map U.int))):=by
 obtain ⟨y3,e⟩:=U3 (t:=t) (c:=c) (v:=v) (x1:=some (.int p)) hn (n+1 - p) 100000 p cs L T (by omega) (by omega) h1
 have hme:(D7 (Au "SumTree" "need_place" 2 Aw (Ae 0) (Ac (Ae 1) Aj))) [some (.ref t),some (.int p),some (.int v),none] L=some (.nx [some (.ref t),some (.int p),some (.int v),none],L):=by
  have hq:=need_ok T h1 h2
  unfold Au
  simp only[Lk,var0,aE,insAt_at T.ob,Akh n c nl1 nl2,if_true,fCons_eq,fNil_eq,fVar_eq,aS,aM,bG,aI,aO,aR,hq]
 have h3:(E8 (Ae 1) (gN 3)) [some (.ref t),some (.int p),some (.int v),none] L=some (.nx [some (.ref t),some (.int p),some (.int v),some (.int p)],L):=rfl
 unfold Dc fnU Ie
 simp only[aO,aR,if_true,aL,bV,aY,jD,fV]
 rw[Bg hme,Bg h3,e]
 rfl
theorem Acd{L:UH}{t c n j:Nat}{cs:List Int}{told:Int}{x1:Option U}(T:Tree L t c n cs)(hn:n<=200)(h1:1<=j)(h2:j<=n) :
  Cc [some (.ref t),x1,some (.int told),some (.int j)] L=some (.nx [some (.ref t),x1,some (.int (told+cs.getD j 0)),some (.int (j - low j:Nat))],L):=by
 have e:=Qn T (var0 (.ref t) [x1,some (.int told),some (.int j)] L)
 have hj:j < cs.length:=by rw[T.ln];omega
 have hat:L2.atI (cs.map U.int) (j:Int)=some (.int (cs.getD j 0)):=by
  rw[Wa (by omega) (by simp;omega),cB,cO,aH hj]
  simp[bC,hj]
 have s1:(E8 (f2 Bl (Ae 2) (f2 B7 (E6 "SumTree" "cells" (Ae 0)) (Ae 3))) (gN 2)) [some (.ref t),x1,some (.int told),some (.int j)] L=some (.nx [some (.ref t),x1,some (.int (told+cs.getD j 0)),some (.int j)],L):=by
  simp only[J7,f2_eq,e,aE,fVar_eq,aS,aM,bG,aI,semIx_ref,Cr T.ce,hat,semAdd_int,gN_eq,jR,iH]
 have s2:=Acy L h1 (show j<=200 by omega)
 have hl:=We h1 (show j<=200 by omega)
 have hc:(j:Int) - (low j:Int)=((j - low j:Nat):Int):=by omega
 unfold Cc
 rw[Bg s1]
 simp only[J7,f2_eq,fOwn_eq,fCons_eq,fNil_eq,fVar_eq,aS,aM,bG,aI,aE,aO,aR,if_true,s2,semSub_int,gN_eq,jR,iH,hc]
theorem Ab2(row:List Int):pre row 0=0:=by simp[pre]
theorem Ti{L:UH}{t c n:Nat}{row cs:List Int}{x1:Option U}(T:Tree L t c n cs)(F:Fen row cs n)(hn:n<=200):∀ (m j:Nat) (told:Int),j < m->j<=n->Fq B6 Cc m [some (.ref t),x1,some (.int told),some (.int j)] L=some (.nx [some (.ref t),x1,some (.int (told+pre row j)),some (.int 0)],L)
 | 0,j,_,h,_=>by omega
 | m+1,j,told,hm,hj=>by
  have ht:B6 [some (.ref t),x1,some (.int told),some (.int j)] L=some (decide (0 < j),L):=by
   have:decide ((0:Int) < (j:Int))=decide (0 < j):=by rw[sO];simp
   simp only[B6,fTest_eq,f2_eq,fVar_eq,M6,aS,aM,bG,aI,aE,semGt_int,this]
  unfold Fq
  rw[ht]
  by_cases a:0 < j
  ·have hl:=We a (show j<=200 by omega)
   have hp:=Lx j
   have ih:=Ti (x1:=x1) T F hn m (j - low j) (told+cs.getD j 0) (by omega) (by omega)
   have hv:=F.at_ j a hj
   unfold X7 at hv
   have hs:told+cs.getD j 0+pre row (j - low j)=told+pre row j:=by omega
   simp only[aE,a,decide_true,if_true,Acd T hn a hj,ih,hs]
  ·have:j=0:=by omega
   subst this
   simp only[aE,a,decide_false,bL,if_false,Ab2,Int.add_zero]
   rfl
theorem sum_ok{L:UH}{t c n m:Nat}{row cs:List Int}(T:Tree L t c n cs)(F:Fen row cs n)(hn:n<=200)(hm:m<=n):Aq [.ref t,.int m] L=some (.int (pre row m),L):=by
 have e:=Lh T (var0 (.ref t) [some (.int m),none,none] L)
 have c1:¬ ((m:Int) < 0):=by omega
 have c2:¬ ((n:Int) < m):=by omega
 have s1:(Hv (fOr (B4 (f2 Lr (Ae 1) (fC (.int 0)))) (B4 (f2 Qq (Ae 1) (E6 "SumTree" "many" (Ae 0))))) Jn Ed) [some (.ref t),some (.int m),none,none] L=some (.nx [some (.ref t),some (.int m),none,none],L):=by
  simp[c1,e,c2]
 have s2:(E8 (fC (.int 0)) (gN 2)) [some (.ref t),some (.int m),none,none] L=some (.nx [some (.ref t),some (.int m),some (.int 0),none],L):=rfl
 have s3:(E8 (Ae 1) (gN 3)) [some (.ref t),some (.int m),some (.int 0),none] L=some (.nx [some (.ref t),some (.int m),some (.int 0),some (.int m)],L):=rfl
 have s4:=Ti (x1:=some (.int m)) T F hn 100000 m 0 (by omega) hm
 unfold Aq fnU E2
 simp only[aO,aR,if_true,aL,bV,aY,jD,fV]
 rw[Bg s1,Bg s2,Bg s3,Bg s4]
 simp only[fRet_eq,fVar_eq,aS,aM,bG,aI,aE,Int.zero_add]
theorem nm1:(("sum_of_first" : Str) == "many")=false:=by decide +kernel
theorem nm2:(("sum_of_first" : Str) == "cells")=false:=by decide +kernel
theorem nm3:(("sum_from_to" : Str) == "many")=false:=by decide +kernel
theorem nm4:(("sum_from_to" : Str) == "cells")=false:=by decide +kernel
theorem nm5:(("number_at" : Str) == "many")=false:=by decide +kernel
theorem nm6:(("number_at" : Str) == "cells")=false:=by decide +kernel
theorem meth_at{L M L':UH}{t c n k:Nat}{cs:List Int}{mt:Str}{F:FN}{fo:FE}{g:FA}{δ:UE}{us:List U}{z:U}(T:Tree L t c n cs)(h1:(mt == "many")=false)(h2:(mt == "cells")=false)(ho:fo δ L=some (.ref t,L))(hg:g δ L=some (us,M))(hk:us.length+1=k)(hF:F (.ref t::us) M=some (z,L')):Au "SumTree" mt k F fo g δ L=some (z,L'):=by
 unfold Au
 simp only[ho,aE,insAt_at T.ob,Akh n c h1 h2,if_true,hg,hk,hF]
theorem from_to_ok{L:UH}{t c n a b:Nat}{row cs:List Int}(T:Tree L t c n cs)(F:Fen row cs n)(hn:n<=200)(a1:1<=a)(a2:a<=n)(b1:1<=b)(b2:b<=n):Bk [.ref t,.int a,.int b] L=some (.int (if b < a then 0 else pre row b - pre row (a - 1)),L):=by
 have s1:(D7 (Au "SumTree" "need_place" 2 Aw (Ae 0) (Ac (Ae 1) Aj))) [some (.ref t),some (.int a),some (.int b)] L=some (.nx [some (.ref t),some (.int a),some (.int b)],L):=by
  have q:Au "SumTree" "need_place" 2 Aw (Ae 0) (Ac (Ae 1) Aj) [some (.ref t),some (.int a),some (.int b)] L=some (.non,L):=meth_at T nl1 nl2 rfl (us:=[.int a]) (M:=L) rfl rfl (need_ok T a1 a2)
  rw[Lk,q];rfl
 have s2:(D7 (Au "SumTree" "need_place" 2 Aw (Ae 0) (Ac (Ae 2) Aj))) [some (.ref t),some (.int a),some (.int b)] L=some (.nx [some (.ref t),some (.int a),some (.int b)],L):=by
  have q:Au "SumTree" "need_place" 2 Aw (Ae 0) (Ac (Ae 2) Aj) [some (.ref t),some (.int a),some (.int b)] L=some (.non,L):=meth_at T nl1 nl2 rfl (us:=[.int b]) (M:=L) rfl rfl (need_ok T b1 b2)
  rw[Lk,q];rfl
 unfold Bk fnU Fb
 simp only[aO,aR,if_true,aL,bV,cS,bW,aT]
 rw[Bg s1,Bg s2]
 by_cases h:b < a
 ·have hz:((b:Int) < (a:Int)):=by omega
  simp[hz,h]
 ·have hz:¬ ((b:Int) < (a:Int)):=by omega
  have s3:(Hv (B4 (f2 Lr (Ae 2) (Ae 1))) (C3 (fC (.int 0))) Ed) [some (.ref t),some (.int a),some (.int b)] L=some (.nx [some (.ref t),some (.int a),some (.int b)],L):=by simp[hz]
  rw[Bg s3]
  have m1:Au "SumTree" "sum_of_first" 2 Aq (Ae 0) (Ac (Ae 2) Aj) [some (.ref t),some (.int a),some (.int b)] L=some (.int (pre row b),L):=meth_at T nm1 nm2 rfl (us:=[.int b]) (M:=L) rfl rfl (sum_ok T F hn b2)
  have ha:(a:Int) - 1=((a - 1:Nat):Int):=by omega
  have m2:Au "SumTree" "sum_of_first" 2 Aq (Ae 0) (Ac (f2 Mj (Ae 1) (fC (.int 1))) Aj) [some (.ref t),some (.int a),some (.int b)] L=some (.int (pre row (a - 1)),L):=meth_at T nm1 nm2 rfl (us:=[.int ((a:Int) - 1)]) (M:=L) rfl rfl (by rw[ha];exact sum_ok T F hn (by omega))
  rw[fRet_eq,f2_eq,m1,aE,m2,if_neg h]
  rfl
theorem at_ok{L:UH}{t c n a:Nat}{row cs:List Int}(T:Tree L t c n cs)(F:Fen row cs n)(hn:n<=200)(a1:1<=a)(a2:a<=n):Ck [.ref t,.int a] L=some (.int (row.getD (a - 1) 0),L):=by
 have h:=from_to_ok T F hn a1 a2 a1 a2
 rw[if_neg (by omega)] at h
 have hr:pre row a - pre row (a - 1)=row.getD (a - 1) 0:=by
  have hlt:a - 1 < row.length:=by rw[F.rl];omega
  unfold pre
  have ht:row.take a=row.take (a - 1)++[row[a - 1]'hlt]:=by
   obtain ⟨k,rfl⟩:∃ k,a=k+1:=⟨a - 1,by omega⟩
   simp only[dP] at hlt ⊢
   rw[mY,aH hlt];rfl
  rw[ht,List.sum_append]
  simp[bC,hlt]
  omega
 rw[hr] at h
 unfold Ck fnU Gb
 simp only[aO,aR,if_true,aL,bV,cS,bW,aT]
 have q:Au "SumTree" "sum_from_to" 3 Bk (Ae 0) (Ac (Ae 1) (Ac (Ae 1) Aj)) [some (.ref t),some (.int a)] L=some (.int (row.getD (a - 1) 0),L):=meth_at T nm3 nm4 rfl (us:=[.int a,.int a]) (M:=L) rfl rfl h
 rw[fRet_eq,q]
 rfl
noncomputable def IsLeast(row:List Int)(n:Nat)(v:Int)(z:U):Prop:=(∃ m:Nat,m<=n/\z = .int m/\v<=pre row m/\∀ i,i < m->pre row i < v)\/(z = .non/\∀ i,i<=n->pre row i < v)
theorem IsLeast.one{row:List Int}{n:Nat}{v:Int}{z w:U}(a:IsLeast row n v z)(b:IsLeast row n v w):z=w:=by
 rcases a with ⟨m,h1,rfl,h2,h3⟩ | ⟨rfl,h1⟩
 ·rcases b with ⟨k,k1,rfl,k2,k3⟩ | ⟨rfl,k1⟩
  ·have:m=k:=by
    rcases rK m k with q | q | q
    ·have:=k3 m q;omega
    ·exact q
    ·have:=h3 k q;omega
   rw[this]
  ·have:=k1 m h1;omega
 ·rcases b with ⟨k,k1,rfl,k2,k3⟩ | ⟨rfl,k1⟩
  ·have:=h1 k k1;omega
  ·rfl
theorem nq1:(("least_many" : Str) == "many")=false:=by decide +kernel
theorem nq2:(("least_many" : Str) == "cells")=false:=by decide +kernel
theorem least_ok{L:UH}{t c n:Nat}{row cs:List Int}(T:Tree L t c n cs)(F:Fen row cs n)(hn:n<=200)(v:Int):∃ z,B0 [.ref t,.int v] L=some (z,L)/\IsLeast row n v z:=by
 have e:=Lh T (var0 (.ref t) [some (.int v),none] L)
 have hi:Rk (Ac (f2 Bl (E6 "SumTree" "many" (Ae 0)) (fC (.int 1))) Aj) [some (.ref t),some (.int v),none] L=some (.seq (Fp 0 (n+1)),L):=by
  refine Afs ?_ (by omega)
  simp[e]
 rcases Adj (us:=Fp 0 (n+1)) (δ:=[some (.ref t),some (.int v),none]) (L:=L) (L0:=L) (body:=Cp) (g:=gN 2) (fun _ δ' L'=>(∃ y,δ'=[some (.ref t),some (.int v),y])/\L'=L) (fun _ L'=>L'=L) (fun k=>decide (v<=pre row k)) (fun k=>.int (k:Int)) hi ⟨⟨none,rfl⟩,rfl⟩
  (fun k u δ M hu ⟨⟨y,hδ⟩,hM⟩=>by
   subst hδ;subst hM
   obtain ⟨hk,rfl⟩:=Xh hu
   have hs:=sum_ok (m:=k) T F hn (by omega)
   have h0:(0:Int)+(k:Int)=(k:Int):=by omega
   rw[h0]
   have m1:Au "SumTree" "sum_of_first" 2 Aq (Ae 0) (Ac (Ae 2) Aj) [some (.ref t),some (.int v),some (.int k)] M=some (.int (pre row k),M):=meth_at T nm1 nm2 rfl (us:=[.int k]) (M:=M) rfl rfl hs
   have tt:(B4 (f2 Q3 (Au "SumTree" "sum_of_first" 2 Aq (Ae 0) (Ac (Ae 2) Aj)) (Ae 1))) [some (.ref t),some (.int v),some (.int k)] M=some (decide (v<=pre row k),M):=by
    rw[fTest_eq,f2_eq,m1]
    simp
   refine ⟨[some (.ref t),some (.int v),some (.int k)],M,rfl,fun hs=>⟨M,?_,rfl⟩,fun hs=>⟨[some (.ref t),some (.int v),some (.int k)],M,?_,⟨_,rfl⟩,rfl⟩⟩
   ·unfold Cp
    rw[Ma,tt,hs]
    rfl
   ·unfold Cp
    rw[Ma,tt,hs]
    rfl) with ⟨j,j1,j2,j3,L',e1,rfl⟩ | ⟨h1,δ',L',e1,⟨y,hδ⟩,rfl⟩
 ·rw[O0] at j1
  refine ⟨.int j,?_,.inl ⟨j,by omega,rfl,by simpa using j2,fun i hi=>by have:=j3 i hi;simpa using this⟩⟩
  unfold B0 fnU Dy
  simp only[aO,aR,if_true,aL,bV,aY,jD,fV]
  rw[Aad,e1]
  rfl
 ·rw[O0] at h1
  refine ⟨.non,?_,.inr ⟨rfl,fun i hi=>by have:=h1 i (by omega);simpa using this⟩⟩
  unfold B0 fnU Dy
  simp only[aO,aR,if_true,aL,bV,aY,jD,fV]
  rw[Bg e1]
  rfl
end TR
abbrev Bx:=Int×Int×Int×Int
theorem Akw{fe:FE}{v:U}{i:Nat}{δ:UE}{L L':UH}(e:fe δ L=some (v,L')):(E8 fe (gN i)) δ L=some (.nx (δ.set i (some v)),L'):=by
 rw[J7,e];rfl
theorem An6{f:FN}{i:Nat}{u v:U}{δ:UE}{L L':UH}(h:Ae i δ L=some (u,L))(e:f [u] L=some (v,L')):(Dl 1 f (Ac (Ae i) Aj)) δ L=some (v,L'):=by
 rw[fOwn_eq,fCons_eq,h]
 simp only[aE,fNil_eq,aI,aO,aR,if_true,e]
theorem Ao4{f:FN}{i j:Nat}{u w v:U}{δ:UE}{L L':UH}(h:Ae i δ L=some (u,L))(h2:Ae j δ L=some (w,L))(e:f [u,w] L=some (v,L')):(Dl 2 f (Ac (Ae i) (Ac (Ae j) Aj))) δ L=some (v,L'):=by
 rw[fOwn_eq,fCons_eq,h,aE,fCons_eq,h2]
 simp only[aE,fNil_eq,aI,aO,aR,if_true,e]
theorem toI_ints(l:List Int):mapO toI (l.map U.int)=some l:=by
 induction l with
 | nil=>rfl
 | cons a r ih=>simp only[aL,mapO,toI,ih,aE,aI]
noncomputable def Xy(kvs:List (Key×U))(wl:Str->Int)(S:List Str):Prop:=∀ n∈S,Gm kvs (.inr n)=some (.int (wl n))
theorem Ae6{M:UH}{w:Nat}{kvs:List (Key×U)}{wl:Str->Int}{S:List Str}{n:Str}{fo fi:FE}{δ:UE}(ho:fo δ M=some (.ref w,M))(hi:fi δ M=some (.str n,M))(hw:M[w]? = some (.dic kvs))(T:Xy kvs wl S)(hn:n∈S):Qr fo fi δ M=some (.int (wl n),M):=by
 have hd:dicAt M w=some kvs:=by unfold dicAt;rw[hw]
 unfold Qr
 simp only[ho,aE,hi,toK,hd,T n hn,aI]
noncomputable def Uh(ps:List (Str×(Int×Int)))(wl:Str->Int)(b:Bx):Int:=((ps.filter (inB b)).map fun p=>wl p.1).sum
theorem Ru{L:UH}{r w:Nat}{kvs:List (Key×U)}{wl:Str->Int}{S:List Str}{qs:List (Str×(Int×Int))}(hr:L[r]? = some (.lst (qs.map ptU)))(hw:L[w]? = some (.dic kvs))(T:Xy kvs wl S)(hq:∀ p∈qs,p.1∈S)(hl:qs.length<=1000) :
  ∃ L',Hc [.ref r,.ref w] L=some (.int (qs.map fun p=>wl p.1).sum,L')/\Gw L L':=by
 have hs:=Cr hr
 obtain ⟨x,e⟩:=D3 (ix:=[none,some 1]) (fi:=En (Ae 0)) (it:=.ref r) (g:=gN 0) (tt:=none) (fe:=Gs) (δ:=[some (.ref r),some (.ref w)]) (L:=L) (L0:=L)
  qs ptU (fun _=>true) (fun p=>.int (wl p.1)) (fun δ=>∃ z,δ = [z,some (.ref w)]) (by simp[Qs hs]) (by rw[Te hs];simp) (by omega) ⟨none,rfl⟩
  (fun k x=>Afd (M3 hs))
  (fun p δ x hp ⟨y,hδ⟩=>by
   subst hδ
   refine ⟨[some (ptU p),some (.ref w)],rfl,⟨_,rfl⟩,[],by simp[Ia],fun _=>⟨[],?_⟩⟩
   rw[aT,aT]
   unfold Gs
   exact Ae6 rfl rfl ((Gw.new L x).get hw) T (hq p hp))
 have hff:gJ (fun _=>true) qs=qs:=jF.mpr (fun _ _=>rfl)
 have hmm:qs.map (fun p=>U.int (wl p.1))=(qs.map fun p=>wl p.1).map U.int:=by rw[jC];rfl
 rw[hff,hmm] at e
 have q2:Bi (L++x++[HU.lst ((qs.map fun p=>wl p.1).map U.int)]) (L++x).length=some ((qs.map fun p=>wl p.1).map U.int):=Cr (by simp)
 have hsm:Ft [.ref (L++x).length] (L++x++[HU.lst ((qs.map fun p=>wl p.1).map U.int)])=some (.int (qs.map fun p=>wl p.1).sum,L++x++[HU.lst ((qs.map fun p=>wl p.1).map U.int)]):=by
  simp only[Ft,q2,aE,toI_ints,aI]
 generalize (qs.map fun p=>wl p.1).sum=sm at hsm
 generalize (qs.map fun p=>wl p.1).map U.int=us at e hsm
 refine ⟨L++x++[HU.lst us],?_,⟨x++[HU.lst us],by rw[bA]⟩⟩
 unfold Hc fnU Nf
 simp only[aO,aR,if_true,aL,bV,cS,bW,aT]
 rw[fRet_eq,fCall_eq,fCons_eq,e]
 simp only[aE,fNil_eq,aI,hsm]
theorem Qi{L:UH}{w:Nat}{kvs:List (Key×U)}{wl:Str->Int}{ps:List (Str×(Int×Int))}(bs:List Bx)(hw:L[w]? = some (.dic kvs))(T:Xy kvs wl (ps.map (·.1)))(hl:ps.length<=60)(hb:bs.length<=1000) :
  ∃ L',Gf [.tup (ps.map ptU),.tup (bs.map bxU),.ref w] L=some (.tup ((bs.map (Uh ps wl)).map U.int),L')/\Gw L L':=by
 obtain ⟨x,e⟩:=D3 (ix:=[none,some 0,some 2]) (fi:=En (Ae 1)) (it:=.seq (bs.map bxU)) (g:=gN 0) (tt:=none) (fe:=Fw) (δ:=[some (.tup (ps.map ptU)),some (.tup (bs.map bxU)),some (.ref w)]) (L:=L) (L0:=L)
  bs bxU (fun _=>true) (fun b=>.int (Uh ps wl b)) (fun δ=>∃ z,δ = [z,some (.tup (ps.map ptU)),some (.ref w)]) (by simp[Lc]) (by simp[IU.size]) (by omega) ⟨none,rfl⟩
  (fun k x=>rfl)
  (fun b δ x _ ⟨y,hδ⟩=>by
   subst hδ
   obtain ⟨r,L1,e1,h1,g1⟩:=Iy (by omega:ps.length<=1000) b (L++x)
   obtain ⟨L2,e2,g2⟩:=Ru h1 (((Gw.new L x).trans g1).get hw) T (fun p hp=>List.mem_map_of_mem (oP.mp hp).1) (by have:=kK (inB b) ps;omega)
   obtain ⟨z,hz⟩:=g1.trans g2
   refine ⟨[some (bxU b),some (.tup (ps.map ptU)),some (.ref w)],rfl,⟨_,rfl⟩,[],by simp[Ia],fun _=>⟨z,?_⟩⟩
   rw[aT,<- hz]
   have a1:=Ao4 (i:=1) (j:=0) (δ:=[some (bxU b),some (.tup (ps.map ptU)),some (.ref w)]) rfl rfl e1
   unfold Fw
   rw[fOwn_eq,fCons_eq,a1]
   simp only[aE,fCons_eq,fVar_eq,fNil_eq,aS,aM,bG,aI,aO,aR,if_true,e2]
   rfl)
 have hff:gJ (fun _=>true) bs=bs:=jF.mpr (fun _ _=>rfl)
 have hmm:bs.map (fun b=>U.int (Uh ps wl b))=(bs.map (Uh ps wl)).map U.int:=by rw[jC];rfl
 rw[hff,hmm] at e
 generalize (bs.map (Uh ps wl)).map U.int=us at e
 have q2:semTuple [.ref (L++x).length] (L++x++[HU.lst us])=some (.tup us,L++x++[HU.lst us]):=by simp[semTuple,Cr]
 refine ⟨L++x++[HU.lst us],?_,⟨x++[HU.lst us],by rw[bA]⟩⟩
 unfold Gf fnU Lu
 simp only[aO,aR,if_true,aL,bV,cS,bW,aT]
 rw[fRet_eq,fCall_eq,fCons_eq,e]
 simp only[aE,fNil_eq,aI,q2]
theorem Su{ps:List (Str×(Int×Int))}(hl:ps.length<=1000)(q:Int×Int)(L:UH):∃ L',G9 [.tup (ps.map ptU),.int q.1,.int q.2] L=some (.int (cntC ps q:Nat),L')/\Gw L L':=by
 obtain ⟨x,e⟩:=D3 (ix:=[none,some 1,some 2]) (fi:=En (Ae 0)) (it:=.seq (ps.map ptU)) (g:=gN 0) (tt:=some G0) (fe:=Jl) (δ:=[some (.tup (ps.map ptU)),some (.int q.1),some (.int q.2)]) (L:=L) (L0:=L)
  ps ptU (inC q) ptU (fun δ=>∃ a,δ = [a,some (.int q.1),some (.int q.2)]) (by simp[Lc]) (by simp[IU.size]) (by omega) ⟨none,rfl⟩
  (fun k x=>rfl)
  (fun p δ x _ ⟨y,hδ⟩=>by
   subst hδ
   refine ⟨[some (ptU p),some (.int q.1),some (.int q.2)],rfl,⟨_,rfl⟩,[],?_,fun _=>⟨[],?_⟩⟩
   ·unfold Ia G0 inC
    simp only[Aix,fTest_eq,f2_eq,fVar_eq,M6,aS,aM,bG,aI,aE,ix1,ix2,semLe_int,aT]
    cases decide (p.2.1<=q.1) <;> rfl
   ·rw[aT,aT];rfl)
 have q1:(L++x++[HU.lst ((ps.filter (inC q)).map ptU)])[(L++x).length]? = some (.lst ((ps.filter (inC q)).map ptU)):=by simp
 have hlen:=N7 q1
 rw[cH] at hlen
 refine ⟨L++x++[HU.lst ((ps.filter (inC q)).map ptU)],?_,⟨x++[HU.lst ((ps.filter (inC q)).map ptU)],by rw[bA]⟩⟩
 unfold G9 fnU Na
 simp only[aO,aR,if_true,aL,bV,cS,bW,aT,fRet_eq,fCall_eq,fCons_eq,fNil_eq,aI,aE,e,hlen,cntC]
theorem Nm{c:FT}{f:FS}{δ:UE}{L L':UH}(h:c δ L=some (false,L')):Hv c f Ed δ L=some (.nx δ,L'):=by
 rw[Ma,h];rfl
theorem Apu{c d:FT}{δ:UE}{L L1 L2:UH}(h:c δ L=some (false,L1))(h2:d δ L1=some (false,L2)):fOr c d δ L=some (false,L2):=by
 rw[Afg,h]
 exact h2
theorem Agf{f:FE}{δ:UE}{L L':UH}{b:Bool}(h:f δ L=some (.bl b,L')):B4 f δ L=some (b,L'):=by
 rw[fTest_eq,h];rfl
theorem Ko{s:S2}{fa fb:FE}{δ:UE}{L L1 L2 L3:UH}{u v w:U}(h1:fa δ L=some (u,L1))(h2:fb δ L1=some (v,L2))(h:s u v L2=some (w,L3)):f2 s fa fb δ L=some (w,L3):=by
 rw[f2_eq,h1];simp only[aE,h2,h]
theorem fnN{n k:Nat}{b:FS}{us:List U}{v:U}{L L':UH}(hn:us.length=k)(h:b (us.map some++aY (n - k) none) L=some (.rt v,L')):fnU n k b us L=some (v,L'):=by
 subst hn
 unfold fnU
 rw[if_pos rfl,h]
 rfl
theorem Jy{fe:FE}{v:U}{δ:UE}{L L':UH}(e:fe δ L=some (v,L')):C3 fe δ L=some (.rt v,L'):=by rw[fRet_eq,e];rfl
theorem Aoc{s:SC}{fa:FE}{u v:U}{δ:UE}{L L1 L2:UH}(h:fa δ L=some (u,L1))(e:s [u] L1=some (v,L2)):(Dw s (Ac fa Aj)) δ L=some (v,L2):=by
 rw[fCall_eq,fCons_eq,h];exact e
theorem Ans{f:FN}{fa fb:FE}{u w v:U}{δ:UE}{L L1 L2 L':UH}(h:fa δ L=some (u,L1))(h2:fb δ L1=some (w,L2))(e:f [u,w] L2=some (v,L')):(Dl 2 f (Ac fa (Ac fb Aj))) δ L=some (v,L'):=by
 rw[fOwn_eq,fCons_eq,h]
 simp only[aE,fCons_eq,h2,fNil_eq,aI,aO,aR,if_true,e]
theorem Ama{l:List U}{k:Nat}{u:U}(h:l[k]? = some u):L2.atI l (k:Int)=some u:=by
 have:=(aZ.mp h).1
 rw[Wa (by omega) (by omega),cO,h]
theorem Ali{L:UH}{n:Nat}{l:List U}{i:Int}{u:U}(h:L[n]? = some (.lst l))(hu:L2.atI l i=some u):B7 (.ref n) (.int i) L=some (u,L):=by
 rw[semIx_ref,Cr h]
 simp only[aE,hu,aI]
theorem Aou{fa fb:FE}{u v:U}{δ:UE}{L L1 L2:UH}(h:fa δ L=some (u,L1))(h2:fb δ L1=some (v,L2)):(Dp (Ac fa (Ac fb Aj))) δ L=some (.tup [u,v],L2):=by
 rw[N6,fCons_eq,h,aE,fCons_eq,h2]
 simp only[aE,fNil_eq,aI]
 rw[if_pos (Ib (by show 2<=16777216;decide))]
namespace N8
abbrev Pt:=Str×(Int×Int)
noncomputable def keyX(q:Int×Int):List Int:=[q.1,q.2]
noncomputable def keyY(q:Int×Int):List Int:=[q.2,q.1]
noncomputable def ordS(key:Int×Int->List Int)(qs:List Pt):List Nat:=SO.Eh (ltK (qs.map fun p=>key p.2)) qs.length
noncomputable def nthS(key:Int×Int->List Int)(qs:List Pt)(k:Nat):Str:=(((qs[(ordS key qs).getD k 0]?).map (·.1)).getD "")
theorem ord_perm(key:Int×Int->List Int)(qs:List Pt):(ordS key qs).Perm (dS qs.length):=SO.K3 (Mq _)
theorem Agm(key:Int×Int->List Int)(qs:List Pt):(ordS key qs).length=qs.length:=by rw[(ord_perm key qs).length_eq,fT]
theorem Ab9{m:FN}{key:Int×Int->List Int}{fe:FE}{δ:UE}{L L1:UH}{r:Nat}{qs:List Pt}(hk:∀ (p:Pt) (M:UH),m [ptU p] M=some (Nx (key p.2),M))(hne:∀ q,key q≠[])(h:fe δ L=some (.ref r,L1))(hr:L1[r]? = some (.lst (qs.map ptU)))(hl:qs.length < 64) :
  Jv m fe δ L=some (.ref L1.length,L1++[.lst ((ordS key qs).map fun i=>(qs.map ptU).getD i .non)]):=by
 have hks:mapO (Rh m L1) (qs.map ptU)=some (qs.map fun p=>key p.2):=by
  clear hr hl
  induction qs with
  | nil=>rfl
  | cons p qs ih=>
   have hp:Rh m L1 (ptU p)=some (key p.2):=by
    unfold Rh
    rw[hk p L1]
    simp only[aE,if_true]
    show mapO toI ((key p.2).map U.int)=_
    exact toI_ints _
   rw[aL,aL]
   simp only[mapO,hp,ih,aE,aI]
 have hall:((qs.map fun p=>key p.2).all fun t=>!t.isEmpty)=true:=by
  rw[cV]
  intro t ht
  obtain ⟨p,_,rfl⟩:=oO.mp ht
  cases hq:key p.2 with
  | nil=>exact absurd hq (hne _)
  | cons=>rfl
 unfold Jv
 rw[h]
 simp only[aE,Cr hr,hks]
 rw[if_pos ⟨by simpa using hl,hall⟩,cH]
 rfl
theorem V1{L:UH}{r k:Nat}{us:List U}{p:Pt}(hr:L[r]? = some (.lst us))(hk:us[k]? = some (ptU p)):Ic [.ref r,.int k] L=some (.str p.1,L):=by
 have hlt:=(aZ.mp hk).1
 have c1:(B4 (f2 Lr (Ae 1) (fC (.int 0)))) [some (.ref r),some (.int k)] L=some (decide ((k:Int) < 0),L):=rfl
 have c2:(B4 (f2 Q3 (Ae 1) (Dw Gu (Ac (Ae 0) Aj)))) [some (.ref r),some (.int k)] L=some (decide ((us.length:Int)<=k),L):=Agf (Ko rfl (Aoc rfl (N7 hr)) rfl)
 have d1:decide ((k:Int) < 0)=false:=by simp
 have d2:decide ((us.length:Int)<=k)=false:=by simp;omega
 rw[d1] at c1
 rw[d2] at c2
 refine fnN rfl ?_
 unfold Qw
 show C6 _ _ [some (.ref r),some (.int k)] L=_
 rw[Bg (Nm (Apu c1 c2))]
 exact Jy (Ko (Ko rfl rfl (Ali hr (Ama hk))) rfl rfl)
theorem Yu{mk mn:FN}{key:Int×Int->List Int}{ps:List Pt}{b:Bx}{k:Nat}(hmn:mn=fnU 3 3 (C3 (Dl 2 Ic (Ac (Jv mk (Dl 2 C1 (Ac (Ae 0) (Ac (Ae 1) Aj)))) (Ac (Ae 2) Aj)))))
  (hk:∀ (p:Pt) (M:UH),mk [ptU p] M=some (Nx (key p.2),M)) (hne:∀ q,key q≠[]) (hl:ps.length<=60) (hlt:k < cntB ps b) (L:UH) :
  ∃ L',mn [.tup (ps.map ptU),bxU b,.int k] L=some (.str (nthS key (ps.filter (inB b)) k),L')/\Gw L L':=by
 obtain ⟨r,L1,e1,hr,g1⟩:=Iy (ps:=ps) (by omega) b L
 have hq:(ps.filter (inB b)).length<=60:=dN (kK _ _) hl
 have hlt:k < (ps.filter (inB b)).length:=hlt
 generalize ps.filter (inB b)=qs at hr hq hlt
 have e2:(Jv mk (Dl 2 C1 (Ac (Ae 0) (Ac (Ae 1) Aj)))) [some (.tup (ps.map ptU)),some (bxU b),some (.int k)] L=some (.ref L1.length,L1++[.lst ((ordS key qs).map fun i=>(qs.map ptU).getD i .non)]):=Ab9 hk hne (Ans rfl rfl e1) hr (by omega)
 have hol:=Agm key qs
 have hin:(ordS key qs)[k]? = some ((ordS key qs).getD k 0):=by
  rw[bC,aH (by omega)];rfl
 have hmem:(ordS key qs).getD k 0 < qs.length:=eB.mp ((ord_perm key qs).mem_iff.mp (eS hin))
 have hat:((ordS key qs).map fun i=>(qs.map ptU).getD i .non)[k]? = some (ptU (qs[(ordS key qs).getD k 0]'hmem)):=by
  rw[cB,hin]
  show some ((qs.map ptU).getD _ .non)=_
  rw[bC,cB,aH hmem]
  rfl
 have e3:=V1 (L:=L1++[.lst ((ordS key qs).map fun i=>(qs.map ptU).getD i .non)]) (r:=L1.length) (by simp) hat
 have hn:(qs[(ordS key qs).getD k 0]'hmem).1=nthS key qs k:=by
  unfold nthS
  rw[aH hmem];rfl
 rw[hn] at e3
 refine ⟨L1++[.lst ((ordS key qs).map fun i=>(qs.map ptU).getD i .non)],?_,g1.trans (Gw.new _ _)⟩
 rw[hmn]
 exact fnN rfl (Jy (Ans e2 rfl e3))
theorem place_of_ok(p:Pt)(L:UH):Ea [ptU p] L=some (Nx (keyX p.2),L):=fnN rfl (Jy (Aou (Ko rfl rfl (ix1 p L)) (Ko rfl rfl (ix2 p L))))
theorem Ry(p:Pt)(L:UH):Du [ptU p] L=some (Nx (keyY p.2),L):=fnN rfl (Jy (Aou (Ko rfl rfl (ix2 p L)) (Ko rfl rfl (ix1 p L))))
theorem nth_x_ok{ps:List Pt}{b:Bx}{k:Nat}(hl:ps.length<=60)(hlt:k < cntB ps b)(L:UH):∃ L',Kv [.tup (ps.map ptU),bxU b,.int k] L=some (.str (nthS keyX (ps.filter (inB b)) k),L')/\Gw L L':=
 Yu (mk:=Ea) rfl place_of_ok (fun q h=>by cases h) hl hlt L
theorem nth_y_ok{ps:List Pt}{b:Bx}{k:Nat}(hl:ps.length<=60)(hlt:k < cntB ps b)(L:UH):∃ L',Ky [.tup (ps.map ptU),bxU b,.int k] L=some (.str (nthS keyY (ps.filter (inB b)) k),L')/\Gw L L':=
 Yu (mk:=Du) rfl Ry (fun q h=>by cases h) hl hlt L
end N8
theorem fn1{n:Nat}{b:FS}{u v:U}{L L':UH}(h:b (some u::aY n none) L=some (.rt v,L')):fnU (n+1) 1 b [u] L=some (v,L'):=by
 unfold fnU
 simp only[aO,aR,if_true,aL,bV,jD,fV,dP,h]
 rfl
theorem Y3{fe:FE}{g:FA}{δ:UE}{L L1 L2:UH}{u:U}{us:List U}(h1:fe δ L=some (u,L1))(h2:g δ L1=some (us,L2)):Ac fe g δ L=some (u::us,L2):=by
 rw[fCons_eq,h1,aE,h2];rfl
theorem neI{fa fb:FE}{u:Int}{δ:UE}{L L1 L2:UH}(h1:fa δ L=some (.int u,L1))(h2:fb δ L1=some (.int u,L2)):(B4 (f2 Ek fa fb)) δ L=some (false,L2):=by
 rw[fTest_eq,f2_eq,h1,aE,h2,aE,Abt]
 simp
theorem orF{a b:FT}{δ:UE}{L L1 L2:UH}(h1:a δ L=some (false,L1))(h2:b δ L1=some (false,L2)):fOr a b δ L=some (false,L2):=by
 rw[Afg,h1,aE]
 exact h2
theorem Aer(kvs:List (Key×U))(k k':Key)(v:U):Gm (Qg kvs k v) k'=if k'=k then some v else Gm kvs k':=by
 unfold Qg
 by_cases ha:(kvs.any fun kv=>decide (kv.1=k))=true
 ·rw[if_pos ha]
  induction kvs with
  | nil=>simp at ha
  | cons kv kvs ih=>
   by_cases h1:kv.1=k
   ·by_cases h2:k'=k
    ·subst h2
     simp[Gm,h1]
    ·have hn:¬ k=k':=fun e=>h2 e.symm
     rw[if_neg h2]
     by_cases hr:(kvs.any fun kv=>decide (kv.1=k))=true
     ·have:=ih hr
      rw[if_neg h2] at this
      unfold Gm at this ⊢
      rw[aL,if_pos h1,dL,dL]
      simp only[h1,hn,decide_false]
      exact this
     ·have hm:kvs.map (fun kv=>if kv.1=k then (kv.1,v) else kv)=kvs:=by
       conv=>rhs;rw[<- List.map_id kvs]
       refine qA fun a hx=>?_
       have:¬ a.1=k:=fun e=>hr (sF.mpr ⟨a,hx,by simpa using e⟩)
       rw[if_neg this];rfl
      unfold Gm
      rw[aL,if_pos h1,hm,dL,dL]
      simp only[h1,hn,decide_false]
   ·have hr:(kvs.any fun kv=>decide (kv.1=k))=true:=by
     rw[gG] at ha
     simpa[h1] using ha
    have:=ih hr
    unfold Gm at this ⊢
    rw[aL,if_neg h1,dL,dL]
    by_cases h3:kv.1=k'
    ·have h2:¬ k'=k:=fun e=>h1 (h3.trans e)
     simp only[h3,decide_true,aI,if_neg h2]
    ·simp only[h3,decide_false]
     exact this
 ·rw[if_neg ha]
  unfold Gm
  rw[List.find?_append]
  by_cases h2:k'=k
  ·subst h2
   have:kvs.find? (fun kv=>decide (kv.1=k'))=none:=by
    rw[List.find?_eq_none]
    intro x hx
    simp only[decide_eq_true_eq]
    exact fun e=>ha (sF.mpr ⟨x,hx,by simpa using e⟩)
   rw[this,if_pos rfl]
   simp
  ·have hn:¬ k=k':=fun e=>h2 e.symm
   rw[if_neg h2]
   cases kvs.find? (fun kv=>decide (kv.1=k')) <;> simp[hn]
theorem Aao(kvs:List (Key×U))(k:Key)(v:U):(Qg kvs k v).length<=kvs.length+1:=by
 unfold Qg
 split <;> simp
theorem add_mem{σ:List Int}{k x:Int}:x∈SW.Ez σ k↔x∈σ\/x=k:=by
 unfold SW.Ez
 split
 ·rename_i h
  exact ⟨.inl,fun q=>q.elim id fun e=>by rw[e];exact h⟩
 ·simp
theorem Ak2{σ:List Int}{k:Int}(h:σ.Nodup):(SW.Ez σ k).Nodup:=by
 unfold SW.Ez
 split
 ·exact h
 ·rename_i hk
  rw[List.nodup_append]
  exact ⟨h,by simp,fun x hx y hy=>by simp at hy;subst hy;intro q;exact hk (q ▸ hx)⟩
theorem Ol:∀ (l σ:List Int),σ.Nodup->(l.foldl SW.Ez σ).Nodup/\∀ x,x∈l.foldl SW.Ez σ↔x∈σ\/x∈l
 | [],σ,h=>⟨h,fun x=>by simp⟩
 | a::l,σ,h=>by
  obtain ⟨h1,h2⟩:=Ol l (SW.Ez σ a) (Ak2 h)
  refine ⟨h1,fun x=>?_⟩
  rw[oS,h2 x,add_mem,cI,or_assoc]
theorem Aaf{ns:List Int}{x:Int}:x∈unl ns↔x∈ns:=by
 unfold unl
 rw[(Gz _).mem_iff,(Ol ns [] tR).2 x]
 simp
theorem Adu(ns:List Int):(unl ns).Pairwise (· < ·):=by
 have h1:=U6 (ns.foldl SW.Ez [])
 have h2:(unl ns).Nodup:=(Gz _).nodup_iff.mpr (Ol ns [] tR).1
 have h3:(unl ns).Pairwise (fun a b=>a<=b/\a≠b):=List.Pairwise.and h1 h2
 exact h3.imp fun h=>by omega
theorem Ahi(ns:List Int):(unl ns).length<=ns.length:=by
 unfold unl
 rw[(Gz _).length_eq,<- Ss]
 exact SW.N2 _ _
noncomputable def plc(us:List Int)(x:Int):Nat:=(us.filter fun o=>decide (o < x)).length
theorem Aee:∀ {us:List Int},us.Pairwise (· < ·)->∀ (i:Nat) (h:i < us.length),plc us us[i]=i
 | [],_,i,h=>by simp at h
 | a::r,hp,i,h=>by
  rw[mL] at hp
  cases i with
  | zero=>
   unfold plc
   rw[jV,List.filter_eq_nil_iff]
   intro o ho
   rcases cI.mp ho with e | e
   ·simp[e]
   ·have:=hp.1 o e
    simp;omega
  | succ i=>
   have hi:i < r.length:=by simpa using h
   have ih:=Aee hp.2 i hi
   have hx:=hp.1 r[i] (eT hi)
   show plc (a::r) r[i]=i+1
   unfold plc at ih ⊢
   rw[List.filter_cons_of_pos (by simpa using hx),aO,ih]
theorem Agh{us:List Int}(hp:us.Pairwise (· < ·)){x:Int}(hx:x∈us):∃ h:plc us x < us.length,us[plc us x]=x:=by
 obtain ⟨i,hi,rfl⟩:=hU hx
 rw[Aee hp i hi]
 exact ⟨hi,rfl⟩
noncomputable def PL(ns:List Int):List Int:=ns.map fun x=>((plc (unl ns) x+1:Nat):Int)
theorem Ahz{ns:List Int}{i:Nat}{δ:UE}{L:UH}(hv:Ae i δ L=some (.tup (ns.map U.int),L))(hl:ns.length<=4000):(Jk (Ac (Ae i) Aj)) δ L=some (.ref L.length,L++[.lst ((unl ns).map U.int)]):=by
 unfold Jk
 rw[fCons_eq,hv]
 simp only[aE,fNil_eq,aI,toI_ints]
 rw[if_pos hl]
theorem Sm(ns:List Int)(hn:ns.length<=200)(L:UH):∃ L',G8 [.tup (ns.map U.int)] L=some (.tup [.tup ((unl ns).map U.int),.tup ((PL ns).map U.int)],L')/\Gw L L':=by
 have hul:=Ahi ns
 have e1:(Dw semTuple (Ac (Jk (Ac (Ae 0) Aj)) Aj)) [some (.tup (ns.map U.int)),none,none,none,none] L=some (.tup ((unl ns).map U.int),L++[.lst ((unl ns).map U.int)]):=by
  have q:=Ahz (ns:=ns) (i:=0) (δ:=[some (.tup (ns.map U.int)),none,none,none,none]) (L:=L) rfl (by omega)
  have hs:Bi (L++[HU.lst ((unl ns).map U.int)]) L.length=some ((unl ns).map U.int):=Cr (by simp)
  rw[fCall_eq,fCons_eq,q]
  simp only[aE,fNil_eq,aI,semTuple,hs]
 have s1:=Akw (i:=1) e1
 generalize hus:unl ns=us at *
 have hup:us.Pairwise (· < ·):=by rw[<- hus];exact Adu ns
 have hmem:∀ x,x∈us↔x∈ns:=fun x=>by rw[<- hus];exact Aaf
 generalize hL1:L++[HU.lst (us.map U.int)]=L1 at s1
 have g1:Gw L L1:=by rw[<- hL1];exact Gw.new _ _
 have s2:(E8 Ta (gN 2)) [some (.tup (ns.map U.int)),some (.tup (us.map U.int)),none,none,none] L1=some (.nx [some (.tup (ns.map U.int)),some (.tup (us.map U.int)),some (.ref L1.length),none,none],L1++[.dic []]):=rfl
 have hi:(Vy (Ac (Ae 1) Aj)) [some (.tup (ns.map U.int)),some (.tup (us.map U.int)),some (.ref L1.length),none,none] (L1++[.dic []])=some (.seq (G6 (us.map U.int)),L1++[.dic []]):=rfl
 obtain ⟨δ',L2,e3,⟨y3,y4,hδ⟩,kt,k1,k2,k3,g2⟩:=Agz (us:=G6 (us.map U.int)) (body:=Hm) (g:=MR.gTup 2 (MR.gCons (gN 3) (MR.gCons (gN 4) MR.gNil)))
  (fun k δ' M=>(∃ y3 y4,δ'=[some (.tup (ns.map U.int)),some (.tup (us.map U.int)),some (.ref L1.length),y3,y4])/\∃ kt,M[L1.length]? = some (.dic kt)/\kt.length<=k/\(∀ i (_:i < us.length),i < k->Gm kt (.inl us[i])=some (.int ((i+1:Nat):Int)))/\Gw L1 M) hi
  ⟨⟨none,none,rfl⟩,[],by simp,by simp,fun i _ h=>by omega,Gw.new _ _⟩
  (fun k u δ M hu ⟨⟨y3,y4,hδ⟩,kt,k1,k2,k3,g⟩=>by
   subst hδ
   unfold G6 at hu
   rw[lF,cB] at hu
   have hk:k < us.length:=by
    rcases yE k us.length with q | q
    ·exact q
    ·rw[dF q] at hu;cases hu
   rw[aH hk] at hu
   have hu:U.tup [.int ((k+1:Nat):Int),.int us[k]]=u:=by simpa using hu
   subst hu
   have hd:dicAt M L1.length=some kt:=by unfold dicAt;rw[k1]
   have hlt:=(aZ.mp k1).1
   have hpl:=Aao kt (.inl us[k]) (.int ((k+1:Nat):Int))
   refine ⟨[some (.tup (ns.map U.int)),some (.tup (us.map U.int)),some (.ref L1.length),some (.int ((k+1:Nat):Int)),some (.int us[k])],M,rfl,[some (.tup (ns.map U.int)),some (.tup (us.map U.int)),some (.ref L1.length),some (.int ((k+1:Nat):Int)),some (.int us[k])],M.set L1.length (.dic (Qg kt (.inl us[k]) (.int ((k+1:Nat):Int)))),.inl ?_,⟨_,_,rfl⟩,_,cX hlt,by omega,fun i hi2 hik=>?_,g.set (aN _) _⟩
   ·unfold Hm Pj
    simp only[fVar_eq,aS,aM,bG,aI,aE,toK,hd]
    rw[if_pos (by omega)]
   ·rw[Aer]
    by_cases hq:i=k
    ·subst hq;rw[if_pos rfl]
    ·have hne:¬ (oF us[i]:Key) = .inl us[k]:=fun q=>by
      have q:us[i]=us[k]:=by injection q
      have:=dI.mp hup i k hi2 hk (by omega)
      omega
     rw[if_neg hne]
     exact k3 i hi2 (by omega))
 have hlen:(G6 (us.map U.int)).length=us.length:=by unfold G6;simp
 rw[hlen] at k2 k3
 have hd2:∀ x,dicAt (L2++x) L1.length=some kt:=fun x=>by unfold dicAt;rw[(Gw.new L2 x).get k1]
 obtain ⟨x,e4⟩:=D3 (ix:=[none,some 2]) (fi:=En (Ae 0)) (it:=.seq (ns.map U.int)) (g:=gN 0) (tt:=none) (fe:=Es) (δ:=[some (.tup (ns.map U.int)),some (.tup (us.map U.int)),some (.ref L1.length),y3,y4]) (L:=L2) (L0:=L2)
  ns U.int (fun _=>true) (fun x=>.int ((plc us x+1:Nat):Int)) (fun δ=>∃ z,δ = [z,some (.ref L1.length)]) rfl (by simp[IU.size]) (by omega) ⟨none,rfl⟩
  (fun k x=>rfl)
  (fun a δ x ha ⟨z,hδ⟩=>by
   subst hδ
   refine ⟨[some (.int a),some (.ref L1.length)],rfl,⟨_,rfl⟩,[],by simp[Ia],fun _=>⟨[],?_⟩⟩
   obtain ⟨hp,he⟩:=Agh hup ((hmem a).mpr ha)
   have hv:=k3 (plc us a) hp hp
   rw[he] at hv
   simp only[aT]
   unfold Es Qr
   simp only[fVar_eq,aS,aM,bG,aI,aE,toK,hd2 x,hv])
 have hf:ns.filter (fun _=>true)=ns:=by simp
 rw[hf] at e4
 have hPL:(ns.map fun x=>U.int ((plc us x+1:Nat):Int))=(PL ns).map U.int:=by unfold PL;rw[hus,jC];rfl
 rw[hPL] at e4
 refine ⟨L2++x++[.lst ((PL ns).map U.int)],?_,((g1.trans g2).trans (Gw.new L2 x)).trans (Gw.new _ _)⟩
 refine fn1 (n:=4) ?_
 show Jj [some (.tup (ns.map U.int)),none,none,none,none] L=_
 unfold Jj
 rw[Bg s1]
 show C6 _ _ [some (.tup (ns.map U.int)),some (.tup (us.map U.int)),none,none,none] L1=_
 rw[Bg s2,Bg e3,hδ]
 refine Jy ?_
 have hsq:Bi (L2++x++[HU.lst ((PL ns).map U.int)]) (L2++x).length=some ((PL ns).map U.int):=Cr (by simp)
 have et:(Dw semTuple (Ac (Eo [none,some 2] (En (Ae 0)) (gN 0) none Es) Aj)) [some (.tup (ns.map U.int)),some (.tup (us.map U.int)),some (.ref L1.length),y3,y4] L2=some (.tup ((PL ns).map U.int),L2++x++[HU.lst ((PL ns).map U.int)]):=by
  rw[fCall_eq,fCons_eq,e4]
  simp only[aE,fNil_eq,aI,semTuple,hsq]
 rw[N6,Y3 (L1:=L2) (u:=.tup (us.map U.int)) rfl (Y3 et rfl)]
 rfl
theorem Nd{L L1 L2:UH}{k p n:Nat}{m:List NP}{s:Str}{F:FN}{fo:FE}{g:FA}{δ:UE}{us:List U}{v:U}(T:Kept L k p m)(hno:(s == "points")=false)(ho:fo δ L=some (.ref k,L))(hg:g δ L=some (us,L1))(hk:us.length+1=n)(e:F (.ref k::us) L1=some (v,L2)):(Au "KeptPoints" s n F fo g) δ L=some (v,L2):=by
 unfold Au
 simp only[ho,aE,insAt_at T.ob,Xo (s:=s) p hno,if_true,hg,hk,e]
theorem Ll{fe:FE}{v:U}{δ:UE}{L L':UH}(e:fe δ L=some (v,L')):D7 fe δ L=some (.nx δ,L'):=by
 rw[Lk,e];rfl
noncomputable def pB(k:Int):NP:=("b",(k,4))
noncomputable def pA(k:Int):NP:=("a",(k+1,2))
noncomputable def pA5(k:Int):NP:=("a",(k+1,5))
theorem Aqi:Hx [] "b" = false:=rfl
theorem Apc(k:Int):Hx [pB k] "a" = false:=by
 have:¬ (("b" : Str) = "a"):=by decide +kernel
 simp[Hx,pB,this]
theorem Aoq(p:NP)(q:Int×Int):Hx [p,("a",q)] "a" = true:=by simp[Hx]
theorem Apm(q:Int×Int)(p:NP):Hx [("b",q),p] "b" = true:=by simp[Hx]
theorem Aq9(k:Int):Kx [] "b" (k,4)=[pB k]:=rfl
theorem Aq1(k:Int):Kx [pB k] "a" (k+1,2)=[pB k,pA k]:=by unfold Kx;rw[Apc];rfl
theorem Aqk(k:Int):Kx [pB k,pA k] "a" (k+1,5)=[pB k,pA5 k]:=by
 have h:¬ (("b" : Str) = "a"):=by decide +kernel
 unfold Kx
 rw[show Hx [pB k,pA k] "a" = true from Aoq _ _,if_pos rfl]
 simp[pB,pA,pA5,h]
theorem Apo(k:Int):M8 [pB k,pA5 k] "b" = [pA5 k]:=by
 have h:¬ (("a" : Str) = "b"):=by decide +kernel
 simp[M8,pB,pA5,h]
theorem Ard(k:Int):([pB k,pA5 k].filter fun p=>below p.2 (k+1,5)).length=1:=by
 have h1:below (k,4) (k+1,5)=true:=by
  unfold below
  have a:(k == k+1)=false:=beq_false_of_ne (by omega)
  simp[a];omega
 have h2:below (k+1,5) (k+1,5)=false:=by unfold below;simp
 simp[gJ,pB,pA5,h1,h2]
theorem Aqw(k:Int):([pB k,pA5 k].filter fun p=>below (k,4) p.2).length=1:=by
 have h1:below (k,4) (k+1,5)=true:=by
  unfold below
  have a:(k == k+1)=false:=beq_false_of_ne (by omega)
  simp[a];omega
 have h2:below (k,4) (k,4)=false:=by unfold below;simp
 simp[gJ,pB,pA5,h1,h2]
theorem Aqm(k:Int):cntB [pB k,pA5 k] (k+1,0,k+1,9)=1:=by
 have h1:inB (k+1,0,k+1,9) (pB k)=false:=by
  unfold inB pB
  have:¬ (k+1<=k):=by omega
  simp[this]
 have h2:inB (k+1,0,k+1,9) (pA5 k)=true:=by unfold inB pA5;simp
 simp[cntB,gJ,h1,h2]
noncomputable def Og(k:Int):List Int:=[0,5+k,0]
theorem Aig(k:Int):(aY 3 (0:Int)).set (2 - 1) ((aY 3 (0:Int)).getD (2 - 1) 0+(5+k))=Og k:=by
 unfold Og;simp[aY]
theorem Amm(k:Int):TR.pre (Og k) 2=5+k:=by unfold TR.pre Og;simp
theorem pre3(k:Int):TR.pre (Og k) 3=5+k:=by unfold TR.pre Og;simp
theorem pre1(k:Int):TR.pre (Og k) 1=0:=by unfold TR.pre Og;simp
theorem Aqr(k:Int):TR.pre (Og k) 0=0:=by unfold TR.pre Og;simp
theorem Al7{k:Int}(hk:0<=k){z:U}(h:TR.IsLeast (Og k) 3 1 z):z = .int 2:=by
 rcases h with ⟨m,hm,rfl,h1,h2⟩ | ⟨rfl,h⟩
 ·have a:m≠0:=fun e=>by rw[e,Aqr] at h1;omega
  have b:m≠1:=fun e=>by rw[e,pre1] at h1;omega
  have c:m=2:=by
   rcases yE 2 m with d | d
   ·have:=h2 2 d;rw[Amm] at this;omega
   ·omega
  rw[c];rfl
 ·have:=h 2 (by omega);rw[Amm] at this;omega
theorem Aoz(k:Int):unl [7+k,k]=[k,7+k]:=by
 have hu:=Adu [7+k,k]
 refine Y2 ?_ (hu.imp fun h=>gF h) (by simp;omega)
 refine (List.perm_ext_iff_of_nodup (hu.imp fun h=>Int.ne_of_lt h) (by simp;omega)).mpr fun x=>?_
 rw[Aaf];simp[or_comm]
theorem PL2(k:Int):PL [7+k,k]=[2,1]:=by
 have a:decide (k < 7+k)=true:=decide_eq_true (by omega)
 have b:decide (7+k < k)=false:=decide_eq_false (by omega)
 unfold PL
 rw[Aoz]
 simp[plc,gJ,a,b]
theorem Qc{k:Int}(hk:0<=k)(L:UH):∃ L',G4 [.int k] L=some (.bl true,L'):=by
 obtain ⟨L1,e1,T1,g1⟩:=TR.init_ok 3 (by omega) L
 have F1:TR.Fen (aY 3 0) (aY (3+1) 0) 3:=TR.Fen.new 3
 have s1:(E8 (Kq "SumTree" 2 B8 (Cm 1 [0] (Ac (fC (.int 3)) Aj))) (gN 1)) [some (.int k),none] L=some (.nx [some (.int k),some (.ref L.length)],L1):=by
  refine Akw (i:=1) (δ:=[some (.int k),none]) ?_
  have hg:(Cm 1 [0] (Ac (fC (.int 3)) Aj)) [some (.int k),none] L=some ([.int 3],L):=rfl
  unfold Kq
  have e1':B8 [.ref L.length,.int 3] (L++[.ins "SumTree" []])=some (.non,L1):=e1
  simp only[hg,aE,aO,aR,if_true,e1']
 generalize hcs:aY (3+1) (0:Int)=cs1 at T1 F1
 have e2:=TR.put_ok (v:=5+k) T1 (by omega) (p:=2) (by omega) (by omega)
 have T2:=T1.put (ds:=TR.putF (3+1 - 2) cs1 2 (5+k) 3) (by rw[TR.putF_len])
 have F2:=F1.put (5+k) (by omega) (p:=2) (by omega) (by omega)
 rw[Aig] at F2
 generalize TR.putF (3+1 - 2) cs1 2 (5+k) 3=cs2 at e2 T2 F2
 generalize hL2:L1.set (L.length+2) (.lst (cs2.map U.int))=L2 at e2 T2
 have s2:(D7 (Au "SumTree" "put_to" 3 Dc (Ae 1) (Cm 2 [1,0] (Ac (f2 Bl (fC (.int 5)) (Ae 0)) (Ac (fC (.int 2)) Aj))))) [some (.int k),some (.ref L.length)] L1=some (.nx [some (.int k),some (.ref L.length)],L2):=
  Ll (TR.meth_at T1 TR.nl3 TR.nl4 rfl (us:=[.int 2,.int (5+k)]) rfl rfl e2)
 have five:(f2 Bl (fC (.int 5)) (Ae 0)) [some (.int k),some (.ref L.length)] L2=some (.int (5+k),L2):=rfl
 have q1:(Au "SumTree" "sum_of_first" 2 Aq (Ae 1) (Cm 1 [0] (Ac (fC (.int 2)) Aj))) [some (.int k),some (.ref L.length)] L2=some (.int (5+k),L2):=by
  refine TR.meth_at T2 TR.nm1 TR.nm2 rfl (us:=[.int 2]) rfl rfl ?_
  have:=TR.sum_ok T2 F2 (by omega) (m:=2) (by omega)
  rw[Amm] at this;exact this
 have q2:(Au "SumTree" "sum_from_to" 3 Bk (Ae 1) (Cm 2 [1,0] (Ac (fC (.int 3)) (Ac (fC (.int 2)) Aj)))) [some (.int k),some (.ref L.length)] L2=some (.int (5+k),L2):=by
  refine TR.meth_at T2 TR.nm3 TR.nm4 rfl (us:=[.int 2,.int 3]) rfl rfl ?_
  have:=TR.from_to_ok T2 F2 (by omega) (a:=2) (b:=3) (by omega) (by omega) (by omega) (by omega)
  rw[if_neg (by omega),pre3,show 2 - 1=1 from rfl,pre1,Int.sub_zero] at this;exact this
 have q3:(Au "SumTree" "number_at" 2 Ck (Ae 1) (Cm 1 [0] (Ac (fC (.int 2)) Aj))) [some (.int k),some (.ref L.length)] L2=some (.int (5+k),L2):=by
  refine TR.meth_at T2 TR.nm5 TR.nm6 rfl (us:=[.int 2]) rfl rfl ?_
  exact TR.at_ok T2 F2 (by omega) (a:=2) (by omega) (by omega)
 obtain ⟨z,ez,hz⟩:=TR.least_ok T2 F2 (by omega) 1
 have q4:(Au "SumTree" "least_many" 2 B0 (Ae 1) (Cm 1 [0] (Ac (fC (.int 1)) Aj))) [some (.int k),some (.ref L.length)] L2=some (.int 2,L2):=by
  refine TR.meth_at T2 TR.nq1 TR.nq2 rfl (us:=[.int 1]) rfl rfl ?_
  rw[Al7 hk hz] at ez;exact ez
 obtain ⟨L3,e5,g5⟩:=Sm [7+k,k] (by simp) L2
 rw[Aoz,PL2] at e5
 refine ⟨L3,?_⟩
 refine fn1 (n:=1) ?_
 show G2 [some (.int k),none] L=_
 unfold G2
 rw[Bg s1,Bg s2,Bg (Nm (orF (neI q1 five) (neI q2 five))),Bg (Nm (orF (neI q3 five) (neI q4 rfl)))]
 refine Jy ?_
 have hv:(Dl 1 G8 (Ac (Dp (Ac (f2 Bl (fC (.int 7)) (Ae 0)) (Ac (Ae 0) Aj))) Aj)) [some (.int k),some (.ref L.length)] L2=some (.tup [.tup ([k,7+k].map U.int),.tup (([2,1]:List Int).map U.int)],L3):=by
  rw[fOwn_eq,fCons_eq,show (Dp (Ac (f2 Bl (fC (.int 7)) (Ae 0)) (Ac (Ae 0) Aj))) [some (.int k),some (.ref L.length)] L2=some (.tup ([7+k,k].map U.int),L2) from rfl]
  exact e5
 have hp:Pl 6 (.tup [.tup ([k,7+k].map U.int),.tup (([2,1]:List Int).map U.int)]):=by simp[Pl]
 refine Ko hv (v:=.tup [.tup ([k,7+k].map U.int),.tup (([2,1]:List Int).map U.int)]) rfl ?_
 rw[Ox _ hp hp,Lv hp]
theorem Ux{l:List Nat}(h:l.Perm [0,1]):l=[0,1]\/l=[1,0]:=by
 have hl:=h.length_eq
 match l,hl with
 | [a,b],_=>
  have ha:a∈[0,1]:=h.mem_iff.mp (by simp)
  have hb:b∈[0,1]:=h.mem_iff.mp (by simp)
  have hn:[a,b].Nodup:=h.nodup_iff.mpr (by simp)
  simp at ha hb hn
  rcases ha with rfl | rfl <;> rcases hb with rfl | rfl <;> simp_all
theorem Aq4{key:Int×Int->List Int}{p q:N8.Pt}(h:ltT (key p.2) (key q.2)=true):N8.ordS key [p,q]=[0,1]:=by
 have hs:=SO.Mi (Mq [key p.2,key q.2]) 2
 rcases Ux (l:=N8.ordS key [p,q]) (by have:=N8.ord_perm key [p,q];exact this) with e | e
 ·exact e
 ·exfalso
  have e':SO.Eh (ltK [key p.2,key q.2]) 2=[1,0]:=e
  rw[e'] at hs
  have h1:=(mL.mp hs).1 0 (by simp)
  revert h1
  unfold SO.Ls SO.Le
  have:ltK [key p.2,key q.2] 0 1=true:=h
  simp[this]
theorem Ao1{key:Int×Int->List Int}{p q:N8.Pt}(h:ltT (key q.2) (key p.2)=true):N8.ordS key [p,q]=[1,0]:=by
 have hs:=SO.Mi (Mq [key p.2,key q.2]) 2
 rcases Ux (l:=N8.ordS key [p,q]) (by have:=N8.ord_perm key [p,q];exact this) with e | e
 ·exfalso
  have e':SO.Eh (ltK [key p.2,key q.2]) 2=[0,1]:=e
  rw[e'] at hs
  have h1:=(mL.mp hs).1 1 (by simp)
  revert h1
  unfold SO.Ls SO.Le
  have:ltK [key p.2,key q.2] 1 0=true:=h
  simp[this]
 ·exact e
noncomputable def bxK(k:Int):Bx:=(k,0,k+1,4)
theorem inBb(k:Int):inB (bxK k) (pB k)=true:=by unfold inB bxK pB;simp;omega
theorem Ap9(k:Int):inB (bxK k) (pA k)=true:=by unfold inB bxK pA;simp;omega
theorem Aja(k:Int):[pB k,pA k].filter (inB (bxK k))=[pB k,pA k]:=by simp[gJ,inBb,Ap9]
theorem Am2(k:Int):cntB [pB k,pA k] (bxK k)=2:=by unfold cntB;rw[Aja];rfl
theorem Aqg(k:Int):cntC [pB k,pA k] (k+1,2)=1:=by
 have h1:inC (k+1,2) (pB k)=false:=by unfold inC pB;simp
 have h2:inC (k+1,2) (pA k)=true:=by unfold inC pA;simp
 simp[cntC,gJ,h1,h2]
theorem Aqo(k:Int):N8.nthS N8.keyX [pB k,pA k] 0 = "b" := by
 have h:ltT (N8.keyX (pB k).2) (N8.keyX (pA k).2)=true:=by
  have a:(k == k+1)=false:=beq_false_of_ne (by omega)
  have b:k < k+1:=by omega
  simp[N8.keyX,pB,pA,ltT,a,b]
 unfold N8.nthS;rw[Aq4 h];rfl
theorem Aqb(k:Int):N8.nthS N8.keyY [pB k,pA k] 0 = "a" := by
 have h:ltT (N8.keyY (pA k).2) (N8.keyY (pB k).2)=true:=by simp[N8.keyY,pB,pA,ltT]
 unfold N8.nthS;rw[Ao1 h];rfl
noncomputable def wlK(n:Str):Int:=if n = "a" then 3 else 4
theorem Apa(k:Int):Xy [(.inr "a",.int 3),(.inr "b",.int 4)] wlK ([pB k,pA k].map (·.1)):=by
 have h:¬ (("b" : Str) = "a"):=by decide +kernel
 have h':¬ (("a" : Str) = "b"):=by decide +kernel
 intro n hn
 simp[pB,pA] at hn
 rcases hn with rfl | rfl
 ·simp[Gm,wlK,h,h',List.find?,Mc]
 ·simp[Gm,wlK,List.find?]
theorem Aom(k:Int):Uh [pB k,pA k] wlK (bxK k)=7:=by
 have h:¬ (("b" : Str) = "a"):=by decide +kernel
 unfold Uh;rw[Aja];simp[pB,pA,wlK,h]
theorem neT{fa fb:FE}{u:U}{δ:UE}{L L1 L2:UH}(hp:Pl 6 u)(h1:fa δ L=some (u,L1))(h2:fb δ L1=some (u,L2)):(B4 (f2 Ek fa fb)) δ L=some (false,L2):=by
 rw[fTest_eq,f2_eq,h1,aE,h2,aE,Acq _ hp hp,Lv hp]
 rfl
theorem Xr{f:FN}{g:FA}{δ:UE}{L L1 L2:UH}{us:List U}{v:U}(hg:g δ L=some (us,L1))(hl:us.length=3)(e:f us L1=some (v,L2)):(Dl 3 f g) δ L=some (v,L2):=by
 rw[fOwn_eq,hg];simp only[aE,hl,if_true,e]
theorem Apy{f:FN}{g:FA}{δ:UE}{L L1 L2:UH}{us:List U}{v:U}(hg:g δ L=some (us,L1))(hl:us.length=2)(e:f us L1=some (v,L2)):(Dl 2 f g) δ L=some (v,L2):=by
 rw[fOwn_eq,hg];simp only[aE,hl,if_true,e]
theorem strA:iF "a" = true:=by decide +kernel
theorem Apr:iF "b" = true:=by decide +kernel
theorem Oa(k:Int)(L:UH):∃ L',Fv [.int k] L=some (.bl true,L'):=by
 have s1:(E8 (Dp (Ac (Dp (Ac (fC (.str "b")) (Ac (Ae 0) (Ac (fC (.int 4)) Aj)))) (Ac (Dp (Ac (fC (.str "a")) (Ac (f2 Bl (Ae 0) (fC (.int 1))) (Ac (fC (.int 2)) Aj)))) Aj))) (gN 1)) [some (.int k),none,none] L=some (.nx [some (.int k),some (.tup ([pB k,pA k].map ptU)),none],L):=rfl
 have s2:(E8 (Dp (Ac (Ae 0) (Ac (fC (.int 0)) (Ac (f2 Bl (Ae 0) (fC (.int 1))) (Ac (fC (.int 4)) Aj))))) (gN 2)) [some (.int k),some (.tup ([pB k,pA k].map ptU)),none] L=some (.nx [some (.int k),some (.tup ([pB k,pA k].map ptU)),some (bxU (bxK k))],L):=rfl
 obtain ⟨L1,e1,g1⟩:=Su (ps:=[pB k,pA k]) (by simp) (k+1,2) L
 rw[Aqg] at e1
 obtain ⟨L2,e2,g2⟩:=Nl (ps:=[pB k,pA k]) (by simp) [bxK k] (by simp) L1
 rw[show ([bxK k].map fun b=>((cntB [pB k,pA k] b:Nat):Int))=[2] by simp[Am2]] at e2
 have hd:(Rz (fC (.str "a")) (fC (.int 3)) (fC (.str "b")) (fC (.int 4))) [some (.int k),some (.tup ([pB k,pA k].map ptU)),some (bxU (bxK k))] L2=some (.ref L2.length,L2++[.dic [(.inr "a",.int 3),(.inr "b",.int 4)]]):=by
  have hne:¬ ((jJ "a" : Key) = .inr "b"):=by rw[Mc];decide +kernel
  unfold Rz
  simp[toK,strA,Apr,dicAt,hne]
 obtain ⟨L3,e3,g3⟩:=Qi (L:=L2++[.dic [(.inr "a",.int 3),(.inr "b",.int 4)]]) (w:=L2.length) (ps:=[pB k,pA k]) [bxK k] (by simp) (Apa k) (by simp) (by simp)
 rw[show ([bxK k].map (Uh [pB k,pA k] wlK))=[7] by simp[Aom]] at e3
 obtain ⟨L4,e4,g4⟩:=N8.nth_x_ok (ps:=[pB k,pA k]) (b:=bxK k) (k:=0) (by simp) (by rw[Am2];omega) L3
 rw[Aja,Aqo] at e4
 obtain ⟨L5,e5,g5⟩:=N8.nth_y_ok (ps:=[pB k,pA k]) (b:=bxK k) (k:=0) (by simp) (by rw[Am2];omega) L4
 rw[Aja,Aqb] at e5
 refine ⟨L5,?_⟩
 refine fn1 (n:=2) ?_
 show Fs [some (.int k),none,none] L=_
 unfold Fs
 have hb:Pl 6 (.str "b"):=by simpa[Pl] using Apr
 have ha:Pl 6 (.str "a"):=by simpa[Pl] using strA
 rw[Bg s1,Bg s2,Bg (Nm (orF (neI (Xr rfl rfl e1) rfl) (neT (Y0 [2]) (Apy rfl rfl e2) rfl))),
  Bg (Nm (neT (Y0 [7]) (Xr (us:=[.tup ([pB k,pA k].map ptU),.tup ([bxK k].map bxU),.ref L2.length]) (by unfold Cm;rw[fCons_eq,hd];rfl) rfl e3) rfl)),
  Bg (Nm (neT hb (Xr rfl rfl e4) rfl))]
 refine Jy (Ko (Xr rfl rfl e5) rfl ?_)
 rw[Ox _ ha ha,Lv ha]
theorem Ki{L:UH}{k p:Nat}{m:List NP}(T:Kept L k p m):Bo [.ref k] L=some (.tup (m.map ptU),L):=by
 have f1:=T.fld (δ:=[some (.ref k)]) (fe:=Ae 0) rfl
 unfold Bo fnU Ec
 simp only[aO,aR,if_true,aL,bV,cS,bW,aT]
 rw[fRet_eq]
 unfold Vo
 rw[f1]
 simp only[aE,Pg T.pt,aI,Aac]
theorem Tz{L:UH}{k p:Nat}{m:List NP}(T:Kept L k p m){δ:UE}{i:Nat}(h:Ae i δ L=some (.ref k,L)):(Au "KeptPoints" "points_now" 1 Bo (Ae i) Aj) δ L=some (.tup (m.map ptU),L):=by
 have no:=Xo (s := "points_now") p (by decide +kernel)
 have e:=Ki T
 unfold Au
 rw[h]
 simp only[aE,insAt_at T.ob,no,if_true,fNil_eq,aR,e]
theorem Xf{L:UH}{k p:Nat}{m:List NP}(T:Kept L k p m)(hl:m.length < 1000)(b:Int×Int×Int×Int):∃ L',C0 [.ref k,bxU b] L=some (.int (cntB m b:Nat),L')/\Gw L L':=by
 obtain ⟨L1,e1,g1⟩:=Nl (ps:=m) (by omega) [b] (by simp) L
 refine ⟨L1,?_,g1⟩
 have ht:(Dp (Ac (Ae 1) Aj)) [some (.ref k),some (bxU b)] L=some (.tup ([b].map bxU),L):=rfl
 unfold C0 fnU Fj
 simp only[aO,aR,if_true,aL,bV,cS,bW,aT]
 rw[fRet_eq,f2_eq,fOwn_eq,fCons_eq,Tz T rfl,aE,fCons_eq,ht]
 simp only[aE,fNil_eq,aI,aO,aR,if_true,e1]
 rfl
theorem n1:(("put_point" : Str) == "points")=false:=by decide +kernel
theorem n2:(("move_point" : Str) == "points")=false:=by decide +kernel
theorem n3:(("take_point" : Str) == "points")=false:=by decide +kernel
theorem n4:(("below_now" : Str) == "points")=false:=by decide +kernel
theorem n5:(("above_now" : Str) == "points")=false:=by decide +kernel
theorem n6:(("box_now" : Str) == "points")=false:=by decide +kernel
theorem n7:(("points_now" : Str) == "points")=false:=by decide +kernel
theorem My{f g:FS}{δ δ':UE}{L L':UH}{r:Option (Fl×UH)}(h:f δ L=some (.nx δ',L'))(k:g δ' L'=r):C6 f g δ L=r:=by rw[Bg h,k]
theorem Apj{f g:FE}{v:U}{δ:UE}{L L1 L2:UH}(h:f δ L=some (.bl true,L1))(h2:g δ L1=some (v,L2)):Ph f g δ L=some (v,L2):=by
 rw[Mf,h];simp only[aE,if_true,h2]
theorem Ae2(ns:List Int)(hl:ns.length<=63):∃ L',Va [.ref 0] [.ro (ns.map U.int)]=some (.bl true,L'):=by
 have hs:Ft [.ref 0] [.ro (ns.map U.int)]=some (.int ns.sum,[.ro (ns.map U.int)]):=by
  unfold Ft
  simp only[Bi,aM,aE]
  rw[toI_ints]
  rfl
 generalize hk:ns.sum % 1000=k
 have k0:0<=k:=by omega
 have s1:E8 (f2 Mo (Dw Ft (Ac (Ae 0) Aj)) (fC (.int 1000))) (gN 1) [some (.ref 0),none,none] [.ro (ns.map U.int)]=some (.nx [some (.ref 0),some (.int k),none],[.ro (ns.map U.int)]):=by
  have e:f2 Mo (Dw Ft (Ac (Ae 0) Aj)) (fC (.int 1000)) [some (.ref 0),none,none] [.ro (ns.map U.int)]=some (.int k,[.ro (ns.map U.int)]):=by
   rw[f2_eq,show Dw Ft (Ac (Ae 0) Aj) [some (.ref 0),none,none] [.ro (ns.map U.int)]=Ft [.ref 0] [.ro (ns.map U.int)] from rfl,hs]
   show Mo (.int ns.sum) (.int 1000) _=_
   rw[Wj,if_pos (by decide),hk]
  rw[J7,e]
  rfl
 generalize hL1:[HU.ro (ns.map U.int)]++[.ins "KeptPoints" (kfl 2)]++[.dic (kG ptU [])]=L1
 have T1:Kept L1 1 2 []:=by subst hL1;exact ⟨rfl,rfl⟩
 have s2:(E8 (Kq "KeptPoints" 1 Bv Aj) (gN 2)) [some (.ref 0),some (.int k),none] [.ro (ns.map U.int)]=some (.nx [some (.ref 0),some (.int k),some (.ref 1)],L1):=by
  refine Akw (i:=2) (δ:=[some (.ref 0),some (.int k),none]) ?_
  rw[Ac6 [],<- hL1];rfl
 have e3:=Y5 (nm := "b") (x:=k) (y:=4) T1 Aqi (by simp)
 have T3:=T1.set (m':=Kx [] "b" (k,4))
 rw[Aq9] at e3 T3
 generalize L1.set 2 (.dic (kG ptU [pB k]))=L3 at e3 T3
 have e4:=Y5 (nm := "a") (x:=k+1) (y:=2) T3 (Apc k) (by simp)
 have T4:=T3.set (m':=Kx [pB k] "a" (k+1,2))
 rw[Aq1] at e4 T4
 generalize L3.set 2 (.dic (kG ptU [pB k,pA k]))=L4 at e4 T4
 have e5:=Ab7 (nm := "a") (x:=k+1) (y:=5) T4 (Aoq _ _) (by simp)
 have T5:=T4.set (m':=Kx [pB k,pA k] "a" (k+1,5))
 rw[Aqk] at e5 T5
 generalize L4.set 2 (.dic (kG ptU [pB k,pA5 k]))=L5 at e5 T5
 obtain ⟨L6,e6,g6⟩:=Sh (x:=k+1) (y:=5) T5 (by simp)
 rw[Ard] at e6
 have T6:=T5.gw g6
 obtain ⟨L7,e7,g7⟩:=Sx (x:=k) (y:=4) T6 (by simp)
 rw[Aqw] at e7
 have T7:=T6.gw g7
 obtain ⟨L8,e8,g8⟩:=Xf T7 (by simp) (k+1,0,k+1,9)
 rw[Aqm] at e8
 have T8:=T7.gw g8
 have e9:=Acx (nm := "b") T8 (Apm _ _)
 have T9:=T8.set (m':=M8 [pB k,pA5 k] "b")
 rw[Apo] at e9 T9
 generalize L8.set 2 (.dic (kG ptU [pA5 k]))=L9 at e9 T9
 have e10:=Ki T9
 obtain ⟨La,ea⟩:=Qc k0 L9
 obtain ⟨Lb,eb⟩:=Oa k La
 refine ⟨Lb,?_⟩
 refine fn1 (n:=2) ?_
 show Ad7 [some (.ref 0),none,none] [.ro (ns.map U.int)]=_
 unfold Ad7
 rw[Bg s1,Bg s2]
 refine My (Ll (Nd T1 n1 rfl (us:=[.str "b",.int k,.int 4]) rfl rfl e3)) ?_
 refine My (Ll (Nd T3 n1 rfl (us:=[.str "a",.int (k+1),.int 2]) rfl rfl e4)) ?_
 refine My (Ll (Nd T4 n2 rfl (us:=[.str "a",.int (k+1),.int 5]) rfl rfl e5)) ?_
 refine My (Nm (orF (neI (Nd T5 n4 rfl (us:=[.int (k+1),.int 5]) rfl rfl e6) rfl) (neI (Nd T6 n5 rfl (us:=[.int k,.int 4]) rfl rfl e7) rfl))) ?_
 refine My (Nm (neI (Nd T7 n6 rfl (us:=[bxU (k+1,0,k+1,9)]) rfl rfl e8) rfl)) ?_
 refine My (Ll (Nd T8 n3 rfl (us:=[.str "b"]) rfl rfl e9)) ?_
 refine Jy (Apj ?_ (Apj (An6 rfl ea) (An6 rfl eb)))
 have hp:Pl 6 (.tup ([pA5 k].map ptU)):=Amy (by intro p hp;simp at hp;subst hp;exact strA)
 refine Ko (Nd T9 n7 rfl (us:=[]) rfl rfl e10) (v:=.tup ([pA5 k].map ptU)) rfl ?_
 rw[Ox _ hp hp,Lv hp]
noncomputable def top(i:Nat):Stmt:=PySem.Challenge.pw_belowpoints_k91_sums_boxes_kept_by_names.main.body.getD i (.Pass ⟨0,0,0,0⟩)
noncomputable abbrev Bu:Stmt:=Am (top 23) 0
theorem Ja:FnScope ["self"] ["self"] (Af Bu):=⟨rfl,rfl,rfl,by decide +kernel,rfl,by decide +kernel,by decide +kernel⟩
noncomputable abbrev Fg:Stmt:=top 7
theorem Uu:FnScope ["point"] ["point"] (Af Fg):=⟨rfl,rfl,rfl,by decide +kernel,rfl,by decide +kernel,by decide +kernel⟩
noncomputable abbrev Bn:Stmt:=Am (top 23) 9
theorem Hl:FnScope ["self"] ["self"] (Af Bn):=⟨rfl,rfl,rfl,by decide +kernel,rfl,by decide +kernel,by decide +kernel⟩
noncomputable abbrev D6:Stmt:=top 6
theorem Qk:FnScope ["one","other"] ["one","other"] (Af D6):=⟨rfl,rfl,rfl,by decide +kernel,rfl,by decide +kernel,by decide +kernel⟩
noncomputable abbrev D1:Stmt:=top 10
theorem Qm:FnScope ["places","place"] ["places","place"] (Af D1):=⟨rfl,rfl,rfl,by decide +kernel,rfl,by decide +kernel,by decide +kernel⟩
noncomputable abbrev A0:Stmt:=Am (top 23) 6
theorem Hr:FnScope ["self","x","y"] ["self","x","y"] (Af A0):=⟨rfl,rfl,rfl,by decide +kernel,rfl,by decide +kernel,by decide +kernel⟩
noncomputable abbrev D4:Stmt:=top 9
theorem P6:FnScope ["places","place"] ["places","place"] (Af D4):=⟨rfl,rfl,rfl,by decide +kernel,rfl,by decide +kernel,by decide +kernel⟩
noncomputable abbrev A7:Stmt:=Am (top 23) 5
theorem H9:FnScope ["self","x","y"] ["self","x","y"] (Af A7):=⟨rfl,rfl,rfl,by decide +kernel,rfl,by decide +kernel,by decide +kernel⟩
noncomputable abbrev Bp:Stmt:=Am (top 23) 4
theorem Hf:FnScope ["self"] ["self"] (Af Bp):=⟨rfl,rfl,rfl,by decide +kernel,rfl,by decide +kernel,by decide +kernel⟩
noncomputable abbrev Gj:Stmt:=top 18
theorem V7:FnScope ["point","box"] ["point","box"] (Af Gj):=⟨rfl,rfl,rfl,by decide +kernel,rfl,by decide +kernel,by decide +kernel⟩
noncomputable abbrev Eg:Stmt:=top 17
theorem Sw:FnScope ["points","box"] ["points","box"] (Af Eg):=⟨rfl,rfl,rfl,by decide +kernel,rfl,by decide +kernel,by decide +kernel⟩
noncomputable abbrev De:Stmt:=top 13
theorem S8:FnScope ["points","boxes"] ["points","boxes"] (Af De):=⟨rfl,rfl,rfl,by decide +kernel,rfl,by decide +kernel,by decide +kernel⟩
noncomputable abbrev Bc:Stmt:=Am (top 23) 8
theorem Ji:FnScope ["self","box"] ["self","box"] (Af Bc):=⟨rfl,rfl,rfl,by decide +kernel,rfl,by decide +kernel,by decide +kernel⟩
noncomputable abbrev Bt:Stmt:=Am (top 23) 10
theorem H0:FnScope ["self","name"] ["self","name"] (Af Bt):=⟨rfl,rfl,rfl,by decide +kernel,rfl,by decide +kernel,by decide +kernel⟩
noncomputable abbrev Ax:Stmt:=Am (top 23) 3
theorem He:FnScope ["self","name","x","y"] ["self","name","x","y"] (Af Ax):=⟨rfl,rfl,rfl,by decide +kernel,rfl,by decide +kernel,by decide +kernel⟩
noncomputable abbrev Ap:Stmt:=Am (top 23) 1
theorem Hq:FnScope ["self","name","x","y"] ["self","name","x","y"] (Af Ap):=⟨rfl,rfl,rfl,by decide +kernel,rfl,by decide +kernel,by decide +kernel⟩
noncomputable abbrev Ay:Stmt:=Am (top 23) 2
theorem Hg:FnScope ["self","name"] ["self","name"] (Af Ay):=⟨rfl,rfl,rfl,by decide +kernel,rfl,by decide +kernel,by decide +kernel⟩
noncomputable abbrev C2:Stmt:=top 12
theorem Se:FnScope ["points","x","y"] ["points","x","y"] (Af C2):=⟨rfl,rfl,rfl,by decide +kernel,rfl,by decide +kernel,by decide +kernel⟩
noncomputable abbrev Gk:Stmt:=top 21
theorem Vp:FnScope ["points","place"] ["points","place"] (Af Gk):=⟨rfl,rfl,rfl,by decide +kernel,rfl,by decide +kernel,by decide +kernel⟩
noncomputable abbrev Df:Stmt:=top 15
theorem Uj:FnScope ["points","box","place"] ["points","box","place"] (Af Df):=⟨rfl,rfl,rfl,by decide +kernel,rfl,by decide +kernel,by decide +kernel⟩
noncomputable abbrev Cg:Stmt:=top 20
theorem Kt:FnScope ["point"] ["point"] (Af Cg):=⟨rfl,rfl,rfl,by decide +kernel,rfl,by decide +kernel,by decide +kernel⟩
noncomputable abbrev Di:Stmt:=top 16
theorem S7:FnScope ["points","box","place"] ["points","box","place"] (Af Di):=⟨rfl,rfl,rfl,by decide +kernel,rfl,by decide +kernel,by decide +kernel⟩
noncomputable abbrev El:Stmt:=top 19
theorem Rv:FnScope ["points","weights"] ["points","weights"] (Af El):=⟨rfl,rfl,rfl,by decide +kernel,rfl,by decide +kernel,by decide +kernel⟩
noncomputable abbrev Co:Stmt:=top 14
theorem Qd:FnScope ["points","boxes","weights"] ["points","boxes","weights"] (Af Co):=⟨rfl,rfl,rfl,by decide +kernel,rfl,by decide +kernel,by decide +kernel⟩
noncomputable abbrev Cw:Stmt:=top 30
theorem Ff:FnScope ["far","two","all_of"] ["far"] (Af Cw):=⟨rfl,rfl,rfl,by decide +kernel,rfl,by decide +kernel,by decide +kernel⟩
noncomputable abbrev Bh:Stmt:=Am (top 25) 0
theorem Kf:FnScope ["self","many"] ["self","many"] (Af Bh):=⟨rfl,rfl,rfl,by decide +kernel,rfl,by decide +kernel,by decide +kernel⟩
noncomputable abbrev D2:Stmt:=top 27
theorem P9:FnScope ["number"] ["number"] (Af D2):=⟨rfl,rfl,rfl,by decide +kernel,rfl,by decide +kernel,by decide +kernel⟩
noncomputable abbrev A8:Stmt:=Am (top 25) 2
theorem B1:FnScope ["self","many","told","cell"] ["self","many"] (Af A8):=⟨rfl,rfl,rfl,by decide +kernel,rfl,by decide +kernel,by decide +kernel⟩
noncomputable abbrev Bb:Stmt:=Am (top 25) 7
theorem Fe:FnScope ["self","number","many"] ["self","number"] (Af Bb):=⟨rfl,rfl,rfl,by decide +kernel,rfl,by decide +kernel,by decide +kernel⟩
noncomputable abbrev B2:Stmt:=Am (top 25) 8
theorem Jh:FnScope ["self","place"] ["self","place"] (Af B2):=⟨rfl,rfl,rfl,by decide +kernel,rfl,by decide +kernel,by decide +kernel⟩
noncomputable abbrev A9:Stmt:=Am (top 25) 3
theorem Im:FnScope ["self","first","last"] ["self","first","last"] (Af A9):=⟨rfl,rfl,rfl,by decide +kernel,rfl,by decide +kernel,by decide +kernel⟩
noncomputable abbrev Bd:Stmt:=Am (top 25) 4
theorem Jm:FnScope ["self","place"] ["self","place"] (Af Bd):=⟨rfl,rfl,rfl,by decide +kernel,rfl,by decide +kernel,by decide +kernel⟩
noncomputable abbrev Br:Stmt:=Am (top 25) 1
theorem Ep:FnScope ["self","place","number","cell"] ["self","place","number"] (Af Br):=⟨rfl,rfl,rfl,by decide +kernel,rfl,by decide +kernel,by decide +kernel⟩
noncomputable abbrev C5:Stmt:=top 26
theorem E7:FnScope ["numbers","unlike","places","place","number"] ["numbers"] (Af C5):=⟨rfl,rfl,rfl,by decide +kernel,rfl,by decide +kernel,by decide +kernel⟩
noncomputable abbrev C9:Stmt:=top 29
theorem Je:FnScope ["far","tree"] ["far"] (Af C9):=⟨rfl,rfl,rfl,by decide +kernel,rfl,by decide +kernel,by decide +kernel⟩
noncomputable abbrev K6:Stmt:=top 31
theorem Wi:FnScope ["script","far","kept"] ["script"] (Af K6):=⟨rfl,rfl,rfl,by decide +kernel,rfl,by decide +kernel,by decide +kernel⟩
set_option genInjectivity false
set_option genSizeOf false
set_option genSizeOfSpec false
structure Defs(K:aD)(mg:Str->Option aC) where
 ua:Addr
 ub:ClsF K "KeptPoints" ua
 uc:Addr
 ud:ClsF K "SumTree" uc
 ue:Addr
 uf:bT
 ug:Fun K "__init__" "KeptPoints.__init__" Bu ue uf
 uh:Binds K uf ["self"] []
 ui:Addr
 uj:bT
 uk:Fun K "place_of" "place_of" Fg ui uj
 ul:Binds K uj ["point"] []
 um:mg "place_of" = some (.ref ui)
 uo:Addr
 uq:bT
 ur:Fun K "places_now" "KeptPoints.places_now" Bn uo uq
 ut:Binds K uq ["self"] []
 uu:Meth K ua "places_now" uo
 uv:Addr
 uw:bT
 ux:Fun K "lies_below" "lies_below" D6 uv uw
 uy:Binds K uw ["one","other"] []
 uz:mg "lies_below" = some (.ref uv)
 uA:Addr
 uB:bT
 uC:Fun K "many_above" "many_above" D1 uA uB
 uD:Binds K uB ["places","place"] []
 uE:mg "many_above" = some (.ref uA)
 uF:Addr
 uG:bT
 uH:Fun K "above_now" "KeptPoints.above_now" A0 uF uG
 uI:Binds K uG ["self","x","y"] []
 uJ:Meth K ua "above_now" uF
 uK:Addr
 uL:bT
 uM:Fun K "many_below" "many_below" D4 uK uL
 uN:Binds K uL ["places","place"] []
 uO:mg "many_below" = some (.ref uK)
 uP:Addr
 uQ:bT
 uR:Fun K "below_now" "KeptPoints.below_now" A7 uP uQ
 uS:Binds K uQ ["self","x","y"] []
 uT:Meth K ua "below_now" uP
 uU:Addr
 uV:bT
 uW:Fun K "points_now" "KeptPoints.points_now" Bp uU uV
 uX:Binds K uV ["self"] []
 uY:Meth K ua "points_now" uU
 uZ:Addr
 u4:bT
 u5:Fun K "is_held" "is_held" Gj uZ u4
 u6:Binds K u4 ["point","box"] []
 u7:mg "is_held" = some (.ref uZ)
 u8:Addr
 u9:bT
 va:Fun K "points_in" "points_in" Eg u8 u9
 vb:Binds K u9 ["points","box"] []
 vc:mg "points_in" = some (.ref u8)
 vd:Addr
 ve:bT
 vf:Fun K "in_boxes" "in_boxes" De vd ve
 vg:Binds K ve ["points","boxes"] []
 vh:mg "in_boxes" = some (.ref vd)
 vi:Addr
 vj:bT
 vk:Fun K "box_now" "KeptPoints.box_now" Bc vi vj
 vm:Binds K vj ["self","box"] []
 vn:Meth K ua "box_now" vi
 vo:Addr
 vp:bT
 vq:Fun K "need_name" "KeptPoints.need_name" Bt vo vp
 vt:Binds K vp ["self","name"] []
 vv:Meth K ua "need_name" vo
 vw:Addr
 vx:bT
 vy:Fun K "move_point" "KeptPoints.move_point" Ax vw vx
 vz:Binds K vx ["self","name","x","y"] []
 vA:Meth K ua "move_point" vw
 vB:Addr
 vC:bT
 vD:Fun K "put_point" "KeptPoints.put_point" Ap vB vC
 vE:Binds K vC ["self","name","x","y"] []
 vF:Meth K ua "put_point" vB
 vG:Addr
 vH:bT
 vI:Fun K "take_point" "KeptPoints.take_point" Ay vG vH
 vJ:Binds K vH ["self","name"] []
 vK:Meth K ua "take_point" vG
 vL:Addr
 vM:bT
 vN:Fun K "in_corner" "in_corner" C2 vL vM
 vO:Binds K vM ["points","x","y"] []
 vP:mg "in_corner" = some (.ref vL)
 vQ:Addr
 vR:bT
 vS:Fun K "name_at" "name_at" Gk vQ vR
 vT:Binds K vR ["points","place"] []
 vU:mg "name_at" = some (.ref vQ)
 vV:Addr
 vW:bT
 vX:Fun K "nth_by_x" "nth_by_x" Df vV vW
 vY:Binds K vW ["points","box","place"] []
 vZ:mg "nth_by_x" = some (.ref vV)
 v1:Addr
 v3:bT
 v4:Fun K "turned_place_of" "turned_place_of" Cg v1 v3
 v5:Binds K v3 ["point"] []
 v6:mg "turned_place_of" = some (.ref v1)
 v7:Addr
 v8:bT
 v9:Fun K "nth_by_y" "nth_by_y" Di v7 v8
 wa:Binds K v8 ["points","box","place"] []
 wb:mg "nth_by_y" = some (.ref v7)
 wc:Addr
 wd:bT
 we:Fun K "weight_of" "weight_of" El wc wd
 wf:Binds K wd ["points","weights"] []
 wg:mg "weight_of" = some (.ref wc)
 wj:Addr
 wk:bT
 wm:Fun K "weights_in" "weights_in" Co wj wk
 wn:Binds K wk ["points","boxes","weights"] []
 wo:mg "weights_in" = some (.ref wj)
 wq:Addr
 wt:bT
 wu:Fun K "_law_boxes_right" "_law_boxes_right" Cw wq wt
 wv:Binds K wt ["far"] []
 ww:mg "_law_boxes_right" = some (.ref wq)
 wx:Addr
 wy:bT
 wz:Fun K "__init__" "SumTree.__init__" Bh wx wy
 wA:Binds K wy ["self","many"] []
 wB:Addr
 wC:bT
 wD:Fun K "lowest_bit" "lowest_bit" D2 wB wC
 wE:Binds K wC ["number"] []
 wF:mg "lowest_bit" = some (.ref wB)
 wG:Addr
 wH:bT
 wI:Fun K "sum_of_first" "SumTree.sum_of_first" A8 wG wH
 wJ:Binds K wH ["self","many"] []
 wK:Meth K uc "sum_of_first" wG
 wL:Addr
 wM:bT
 wN:Fun K "least_many" "SumTree.least_many" Bb wL wM
 wO:Binds K wM ["self","number"] []
 wP:Meth K uc "least_many" wL
 wQ:Addr
 wR:bT
 wS:Fun K "need_place" "SumTree.need_place" B2 wQ wR
 wT:Binds K wR ["self","place"] []
 wU:Meth K uc "need_place" wQ
 wV:Addr
 wW:bT
 wX:Fun K "sum_from_to" "SumTree.sum_from_to" A9 wV wW
 wY:Binds K wW ["self","first","last"] []
 wZ:Meth K uc "sum_from_to" wV
 w9:Addr
 xa:bT
 xb:Fun K "number_at" "SumTree.number_at" Bd w9 xa
 xc:Binds K xa ["self","place"] []
 xf:Meth K uc "number_at" w9
 xg:Addr
 xh:bT
 xi:Fun K "put_to" "SumTree.put_to" Br xg xh
 xj:Binds K xh ["self","place","number"] []
 xk:Meth K uc "put_to" xg
 xl:Addr
 xm:bT
 xn:Fun K "places_of" "places_of" C5 xl xm
 xo:Binds K xm ["numbers"] []
 xp:mg "places_of" = some (.ref xl)
 xq:KBinds K xm ["numbers"] ["numbers"] g0 gV0
 xt:Addr
 xu:bT
 xw:Fun K "_law_tree_right" "_law_tree_right" C9 xt xu
 xx:Binds K xu ["far"] []
 xy:mg "_law_tree_right" = some (.ref xt)
 xz:Addr
 xA:bT
 xB:Fun K "law" "law" K6 xz xA
 xC:Binds K xA ["script"] []
 xD:mg "law" = some (.ref xz)
 xE:KBinds K uG ["self","x","y"] ["x","y"] (gP 1 2 [0,1]) (gVP 1 2 [0,1])
 xF:KBinds K uQ ["self","x","y"] ["y","x"] (gP 1 2 [1,0]) (gVP 1 2 [1,0])
 xG:KBinds K ve ["points","boxes"] ["boxes","points"] (gP 0 2 [1,0]) (gVP 0 2 [1,0])
 xH:KBinds K vj ["self","box"] ["box"] (gP 1 1 [0]) (gVP 1 1 [0])
 xI:KBinds K vx ["self","name","x","y"] ["x","y","name"] (gP 1 3 [2,0,1]) (gVP 1 3 [2,0,1])
 xJ:KBinds K vC ["self","name","x","y"] ["name","y","x"] (gP 1 3 [0,2,1]) (gVP 1 3 [0,2,1])
 xK:KBinds K vC ["self","name","x","y"] ["y","x","name"] (gP 1 3 [2,1,0]) (gVP 1 3 [2,1,0])
 xL:KBinds K vH ["self","name"] ["name"] (gP 1 1 [0]) (gVP 1 1 [0])
 xM:KBinds K vM ["points","x","y"] ["y","x","points"] (gP 0 3 [2,1,0]) (gVP 0 3 [2,1,0])
 xN:KBinds K vW ["points","box","place"] ["place","box","points"] (gP 0 3 [2,1,0]) (gVP 0 3 [2,1,0])
 xO:KBinds K v8 ["points","box","place"] ["place","box","points"] (gP 0 3 [2,1,0]) (gVP 0 3 [2,1,0])
 xP:KBinds K wk ["points","boxes","weights"] ["weights","boxes","points"] (gP 0 3 [2,1,0]) (gVP 0 3 [2,1,0])
 xQ:KBinds K wy ["self","many"] ["many"] (gP 1 1 [0]) (gVP 1 1 [0])
 xR:KBinds K wH ["self","many"] ["many"] (gP 1 1 [0]) (gVP 1 1 [0])
 xS:KBinds K wM ["self","number"] ["number"] (gP 1 1 [0]) (gVP 1 1 [0])
 xT:KBinds K wW ["self","first","last"] ["last","first"] (gP 1 2 [1,0]) (gVP 1 2 [1,0])
 xU:KBinds K xa ["self","place"] ["place"] (gP 1 1 [0]) (gVP 1 1 [0])
 xV:KBinds K xh ["self","place","number"] ["number","place"] (gP 1 2 [1,0]) (gVP 1 2 [1,0])
 xW:Mk K ua ue
 xX:mg "KeptPoints" = some (.ref ua)
 xY:Mk K uc wx
 xZ:mg "SumTree" = some (.ref uc)
 x0:NoAttr K ua "points"
 x3:NoAttr K uc "cells"
 x4:NoAttr K uc "many"
 x5:mg "all" = none
 x6:mg "enumerate" = none
 x8:mg "len" = none
 x9:mg "range" = none
 ya:mg "set" = none
 yb:mg "sorted" = none
 yc:mg "sum" = none
 yd:mg "tuple" = none
 ye:mg "zip" = none
section
variable {P:bQ}{w:cC}{K:aD}{mg:Str->Option aC}{base:Heap}
theorem Ij(C:Defs K mg):FnOk P w K mg base CX0 1 C.ue C.uf ["self"] (spF K 1 Bv):=by
 refine Fun.okF (N:=["self"]) C.ug Ja (fun cdv A outer s H E hr=>?_)
 have hu:=hr.units
 exact (Ao (Sn C.ub C.x0 (Ag 0) Y4))
theorem Nn(C:Defs K mg):FnOk P w K mg base CX0 1 C.ui C.uj ["point"] (spF K 1 Ea):=by
 refine Fun.okF (N:=["point"]) C.uk Uu (fun cdv A outer s H E hr=>?_)
 have hu:=hr.units
 exact (Ao (Ba (Ct (Ad (E9 Dr Dt (Ag 0) An (fun _ _=>rfl)) (Ad (E9 Dr Dt (Ag 0) An (fun _ _=>rfl)) Ah)))))
theorem D9(C:Defs K mg):FnOk P w K mg base CX0 2 C.uo C.uq ["self"] (spF K 1 Bf):=by
 refine Fun.okF (N:=["self"]) C.ur Hl (fun cdv A outer s H E hr=>?_)
 have hu:=hr.units
 exact (Ao (Ba (Ai3 (Ka (N':=["point"]) (ix:=[none]) ⟨rfl,rfl,rfl,rfl,rfl,rfl⟩ rfl (Adp (Ey C.ub C.x0 (Ag 0)) ⟨rfl,rfl,rfl,rfl⟩) (fun _ _ _ _ _ _=>(Cz (i:=0) (show gY (α:=Str) ["point"] by decide +kernel))) (fun _ _ _ _ _ _=>(Cu (Nn C) (hr.mono (by decide)) (by rfl) C.um C.uk.kp C.ul (Ad (Ag 0) Ah)))))))
theorem Kl(C:Defs K mg):FnOk P w K mg base CX0 1 C.uv C.uw ["one","other"] (spF K 2 D5):=by
 refine Fun.okF (N:=["one","other"]) C.ux Qk (fun cdv A outer s H E hr=>?_)
 have hu:=hr.units
 exact (Ao (Ba (R7 (Oj (Fu hu) Fy (Ag 0) (Ag 1) (B5 _)) (Vk (Fm (Aba rfl) Ajh (by rfl) C.x5 PyProof.Rows.boot_all (Ad (Ka (N':=["number","above"]) (ix:=[none,none]) ⟨rfl,rfl,rfl,rfl,rfl,rfl⟩ rfl (Adx (by rfl) C.ye (Ad (Ag 0) (Ad (Ag 1) Ah))) (fun _ _ _ _ _ _=>(X8 rfl (J6 (Cz (i:=0) (show gY (α:=Str) ["number","above"] by decide +kernel)) (J6 (Cz (i:=1) (show gY (α:=Str) ["number","above"] by decide +kernel)) Tp)))) (fun _ _ _ _ _ _=>(Oj M7 Jo (Ag 0) (Ag 1) (B5 _)))) Ah))))))
theorem Qf(C:Defs K mg):FnOk P w K mg base CX0 2 C.uA C.uB ["places","place"] (spF K 2 Iq):=by
 refine Fun.okF (N:=["places","place"]) C.uC Qm (fun cdv A outer s H E hr=>?_)
 have hu:=hr.units
 exact (Ao (Ba (Fm Ju Md (by rfl) C.x8 kF (Ad (K9 (N':=["other","place"]) (ix:=[none,some 1]) ⟨rfl,rfl,rfl,rfl,rfl,rfl⟩ rfl (Ha (Ag 0)) (fun _ _ _ _ _ _=>(Cz (i:=0) (show gY (α:=Str) ["other","place"] by decide +kernel))) (fun _ _ _ _ _ _=>(R3 (Cu (Kl C) (hr.mono (by decide)) (by rfl) C.uz C.ux.kp C.uy (Ad (Ag 1) (Ad (Ag 0) Ah))))) (fun _ _ _ _ _ _=>(Ag 0))) Ah))))
theorem Hu(C:Defs K mg):FnOk P w K mg base CX0 3 C.uF C.uG ["self","x","y"] (spF K 3 Dh):=by
 refine Fun.okF (N:=["self","x","y"]) C.uH Hr (fun cdv A outer s H E hr=>?_)
 have hu:=hr.units
 exact (Ao (Ba (Cu (Qf C) (hr.mono (by decide)) (by rfl) C.uE C.uC.kp C.uD (Ad (K7 C.ub C.uu (D9 C) (hr.mono (by decide)) C.ut (Ag 0)) (Ad (Ct (Ad (Ag 1) (Ad (Ag 2) Ah))) Ah)))))
theorem Qh(C:Defs K mg):FnOk P w K mg base CX0 2 C.uK C.uL ["places","place"] (spF K 2 Ii):=by
 refine Fun.okF (N:=["places","place"]) C.uM P6 (fun cdv A outer s H E hr=>?_)
 have hu:=hr.units
 exact (Ao (Ba (Fm Ju Md (by rfl) C.x8 kF (Ad (K9 (N':=["other","place"]) (ix:=[none,some 1]) ⟨rfl,rfl,rfl,rfl,rfl,rfl⟩ rfl (Ha (Ag 0)) (fun _ _ _ _ _ _=>(Cz (i:=0) (show gY (α:=Str) ["other","place"] by decide +kernel))) (fun _ _ _ _ _ _=>(R3 (Cu (Kl C) (hr.mono (by decide)) (by rfl) C.uz C.ux.kp C.uy (Ad (Ag 0) (Ad (Ag 1) Ah))))) (fun _ _ _ _ _ _=>(Ag 0))) Ah))))
theorem Ht(C:Defs K mg):FnOk P w K mg base CX0 3 C.uP C.uQ ["self","x","y"] (spF K 3 Dg):=by
 refine Fun.okF (N:=["self","x","y"]) C.uR H9 (fun cdv A outer s H E hr=>?_)
 have hu:=hr.units
 exact (Ao (Ba (Cu (Qh C) (hr.mono (by decide)) (by rfl) C.uO C.uM.kp C.uN (Ad (K7 C.ub C.uu (D9 C) (hr.mono (by decide)) C.ut (Ag 0)) (Ad (Ct (Ad (Ag 1) (Ad (Ag 2) Ah))) Ah)))))
theorem D8(C:Defs K mg):FnOk P w K mg base CX0 1 C.uU C.uV ["self"] (spF K 1 Bo):=by
 refine Fun.okF (N:=["self"]) C.uW Hf (fun cdv A outer s H E hr=>?_)
 have hu:=hr.units
 exact (Ao (Ba (Aev rfl (by rfl) C.yd (Ey C.ub C.x0 (Ag 0)) ⟨rfl,rfl,rfl,rfl⟩)))
theorem Wl(C:Defs K mg):FnOk P w K mg base CX0 1 C.uZ C.u4 ["point","box"] (spF K 2 Kc):=by
 refine Fun.okF (N:=["point","box"]) C.u5 V7 (fun cdv A outer s H E hr=>?_)
 have hu:=hr.units
 exact (Ao (Ba (R7 (Ut M7 M7 Jo Jo (E9 Dr Dt (Ag 1) An (fun _ _=>rfl)) (E9 Dr Dt (Ag 0) An (fun _ _=>rfl)) (E9 Dr Dt (Ag 1) An (fun _ _=>rfl))) (Vk (Ut M7 M7 Jo Jo (E9 Dr Dt (Ag 1) An (fun _ _=>rfl)) (E9 Dr Dt (Ag 0) An (fun _ _=>rfl)) (E9 Dr Dt (Ag 1) An (fun _ _=>rfl)))))))
theorem Ge(C:Defs K mg):FnOk P w K mg base CX0 2 C.u8 C.u9 ["points","box"] (spF K 2 C1):=by
 refine Fun.okF (N:=["points","box"]) C.va Sw (fun cdv A outer s H E hr=>?_)
 have hu:=hr.units
 exact (Ao (Ba (K9 (N':=["point","box"]) (ix:=[none,some 1]) ⟨rfl,rfl,rfl,rfl,rfl,rfl⟩ rfl (Ha (Ag 0)) (fun _ _ _ _ _ _=>(Cz (i:=0) (show gY (α:=Str) ["point","box"] by decide +kernel))) (fun _ _ _ _ _ _=>(R3 (Cu (Wl C) (hr.mono (by decide)) (by rfl) C.u7 C.u5.kp C.u6 (Ad (Ag 0) (Ad (Ag 1) Ah))))) (fun _ _ _ _ _ _=>(Ag 0)))))
theorem Nc(C:Defs K mg):FnOk P w K mg base CX0 3 C.vd C.ve ["points","boxes"] (spF K 2 Gn):=by
 refine Fun.okF (N:=["points","boxes"]) C.vf S8 (fun cdv A outer s H E hr=>?_)
 have hu:=hr.units
 exact (Ao (Ba (Kd Fi J9 (by rfl) C.yd (by decide +kernel) (Ad (Ka (N':=["box","points"]) (ix:=[none,some 0]) ⟨rfl,rfl,rfl,rfl,rfl,rfl⟩ rfl (Ha (Ag 1)) (fun _ _ _ _ _ _=>(Cz (i:=0) (show gY (α:=Str) ["box","points"] by decide +kernel))) (fun _ _ _ _ _ _=>(Fm Ju Md (by rfl) C.x8 kF (Ad (Cu (Ge C) (hr.mono (by decide)) (by rfl) C.vc C.va.kp C.vb (Ad (Ag 1) (Ad (Ag 0) Ah))) Ah)))) Ah))))
theorem Jf(C:Defs K mg):FnOk P w K mg base CX0 4 C.vi C.vj ["self","box"] (spF K 2 C0):=by
 refine Fun.okF (N:=["self","box"]) C.vk Ji (fun cdv A outer s H E hr=>?_)
 have hu:=hr.units
 exact (Ao (Ba (E9 Dr Dt (Cu (Nc C) (hr.mono (by decide)) (by rfl) C.vh C.vf.kp C.vg (Ad (K7 C.ub C.uY (D8 C) (hr.mono (by decide)) C.uX (Ag 0)) (Ad (Ct (Ad (Ag 1) Ah)) Ah))) An (fun _ _=>rfl))))
theorem Ej(C:Defs K mg):FnOk P w K mg base CX0 1 C.vo C.vp ["self","name"] (spF K 2 Bs):=by
 refine Fun.okF (N:=["self","name"]) C.vq H0 (fun cdv A outer s H E hr=>?_)
 have hu:=hr.units
 exact (Ao (Et (By (Aam hu) Xg (Ag 1) (Ey C.ub C.x0 (Ag 0)) (by with_unfolding_all rfl)) (Ao Hw) Dv))
theorem Hk(C:Defs K mg):FnOk P w K mg base CX0 2 C.vw C.vx ["self","name","x","y"] (spF K 4 Ci):=by
 refine Fun.okF (N:=["self","name","x","y"]) C.vy He (fun cdv A outer s H E hr=>?_)
 have hu:=hr.units
 refine Av ?s0 ?t0
 case s0=>exact (Dz (Gg C.ub C.vv (Ej C) (hr.mono (by decide)) C.vt (Ag 0) (Ad (Ag 1) Ah)))
 exact (Ao (O9 hu (Ey C.ub C.x0 (Ag 0)) (Ag 1) (Ct (Ad (Ag 1) (Ad (Ag 2) (Ad (Ag 3) Ah))))))
theorem Ef(C:Defs K mg):FnOk P w K mg base CX0 1 C.vB C.vC ["self","name","x","y"] (spF K 4 B3):=by
 refine Fun.okF (N:=["self","name","x","y"]) C.vD Hq (fun cdv A outer s H E hr=>?_)
 have hu:=hr.units
 refine Av ?s0 ?t0
 case s0=>exact (Et (By (Ann hu) Agq (Ag 1) (Ey C.ub C.x0 (Ag 0)) (by with_unfolding_all rfl)) (Ao Hw) Dv)
 exact (Ao (O9 hu (Ey C.ub C.x0 (Ag 0)) (Ag 1) (Ct (Ad (Ag 1) (Ad (Ag 2) (Ad (Ag 3) Ah))))))
theorem Hh(C:Defs K mg):FnOk P w K mg base CX0 2 C.vG C.vH ["self","name"] (spF K 2 Cf):=by
 refine Fun.okF (N:=["self","name"]) C.vI Hg (fun cdv A outer s H E hr=>?_)
 have hu:=hr.units
 refine Av ?s0 ?t0
 case s0=>exact (Dz (Gg C.ub C.vv (Ej C) (hr.mono (by decide)) C.vt (Ag 0) (Ad (Ag 1) Ah)))
 exact (Ao (Dz (Ajb (Ey C.ub C.x0 (Ag 0)) (Ag 1) ⟨rfl,rfl,rfl,rfl⟩)))
theorem Sr(C:Defs K mg):FnOk P w K mg base CX0 1 C.vL C.vM ["points","x","y"] (spF K 3 G9):=by
 refine Fun.okF (N:=["points","x","y"]) C.vN Se (fun cdv A outer s H E hr=>?_)
 have hu:=hr.units
 exact (Ao (Ba (Fm Ju Md (by rfl) C.x8 kF (Ad (K9 (N':=["point","x","y"]) (ix:=[none,some 1,some 2]) ⟨rfl,rfl,rfl,rfl,rfl,rfl⟩ rfl (Ha (Ag 0)) (fun _ _ _ _ _ _=>(Cz (i:=0) (show gY (α:=Str) ["point","x","y"] by decide +kernel))) (fun _ _ _ _ _ _=>(PWF.pt (Ahl (By M7 Jo (E9 Dr Dt (Ag 0) An (fun _ _=>rfl)) (Ag 1) (B5 _)) (Aeh (By M7 Jo (E9 Dr Dt (Ag 0) An (fun _ _=>rfl)) (Ag 2) (B5 _)))))) (fun _ _ _ _ _ _=>(Ag 0))) Ah))))
theorem P4(C:Defs K mg):FnOk P w K mg base CX0 1 C.vQ C.vR ["points","place"] (spF K 2 Ic):=by
 refine Fun.okF (N:=["points","place"]) C.vS Vp (fun cdv A outer s H E hr=>?_)
 have hu:=hr.units
 refine Av ?s0 ?t0
 case s0=>exact (Et (PWF.pt (K2 (By Y7 Sy (Ag 1) An (B5 _)) (Iv (By Aj7 Adq (Ag 1) (Fm Ju Md (by rfl) C.x8 kF (Ad (Ag 0) Ah)) (B5 _))))) (Ao Hw) Dv)
 exact (Ao (Ba (E9 Dr Dt (E9 Dr Dt (Ag 0) (Ag 1) (fun _ _=>rfl)) An (fun _ _=>rfl))))
theorem U0(C:Defs K mg):FnOk P w K mg base CX0 4 C.vV C.vW ["points","box","place"] (spF K 3 Kv):=by
 refine Fun.okF (N:=["points","box","place"]) C.vX Uj (fun cdv A outer s H E hr=>?_)
 have hu:=hr.units
 exact (Ao (Ba (Cu (P4 C) (hr.mono (by decide)) (by rfl) C.vU C.vS.kp C.vT (Ad (Vj (Nn C) (hr.mono (by decide)) C.ul (by rfl) C.yb (by rfl) C.um (Cu (Ge C) (hr.mono (by decide)) (by rfl) C.vc C.va.kp C.vb (Ad (Ag 0) (Ad (Ag 1) Ah)))) (Ad (Ag 2) Ah)))))
theorem Kr(C:Defs K mg):FnOk P w K mg base CX0 1 C.v1 C.v3 ["point"] (spF K 1 Du):=by
 refine Fun.okF (N:=["point"]) C.v4 Kt (fun cdv A outer s H E hr=>?_)
 have hu:=hr.units
 exact (Ao (Ba (Ct (Ad (E9 Dr Dt (Ag 0) An (fun _ _=>rfl)) (Ad (E9 Dr Dt (Ag 0) An (fun _ _=>rfl)) Ah)))))
theorem Vf(C:Defs K mg):FnOk P w K mg base CX0 4 C.v7 C.v8 ["points","box","place"] (spF K 3 Ky):=by
 refine Fun.okF (N:=["points","box","place"]) C.v9 S7 (fun cdv A outer s H E hr=>?_)
 have hu:=hr.units
 exact (Ao (Ba (Cu (P4 C) (hr.mono (by decide)) (by rfl) C.vU C.vS.kp C.vT (Ad (Vj (Kr C) (hr.mono (by decide)) C.v5 (by rfl) C.yb (by rfl) C.v6 (Cu (Ge C) (hr.mono (by decide)) (by rfl) C.vc C.va.kp C.vb (Ad (Ag 0) (Ad (Ag 1) Ah)))) (Ad (Ag 2) Ah)))))
theorem Sv(C:Defs K mg):FnOk P w K mg base CX0 1 C.wc C.wd ["points","weights"] (spF K 2 Hc):=by
 refine Fun.okF (N:=["points","weights"]) C.we Rv (fun cdv A outer s H E hr=>?_)
 have hu:=hr.units
 exact (Ao (Ba (Fm (Qv rfl) Ys (by rfl) C.yc pI (Ad (Ka (N':=["point","weights"]) (ix:=[none,some 1]) ⟨rfl,rfl,rfl,rfl,rfl,rfl⟩ rfl (Ha (Ag 0)) (fun _ _ _ _ _ _=>(Cz (i:=0) (show gY (α:=Str) ["point","weights"] by decide +kernel))) (fun _ _ _ _ _ _=>(Yq hu (Ag 1) (E9 Dr Dt (Ag 0) An (fun _ _=>rfl)) (fun _ _=>rfl)))) Ah))))
theorem Qj(C:Defs K mg):FnOk P w K mg base CX0 3 C.wj C.wk ["points","boxes","weights"] (spF K 3 Gf):=by
 refine Fun.okF (N:=["points","boxes","weights"]) C.wm Qd (fun cdv A outer s H E hr=>?_)
 have hu:=hr.units
 exact (Ao (Ba (Kd Fi J9 (by rfl) C.yd (by decide +kernel) (Ad (Ka (N':=["box","points","weights"]) (ix:=[none,some 0,some 2]) ⟨rfl,rfl,rfl,rfl,rfl,rfl⟩ rfl (Ha (Ag 1)) (fun _ _ _ _ _ _=>(Cz (i:=0) (show gY (α:=Str) ["box","points","weights"] by decide +kernel))) (fun _ _ _ _ _ _=>(Cu (Sv C) (hr.mono (by decide)) (by rfl) C.wg C.we.kp C.wf (Ad (Cu (Ge C) (hr.mono (by decide)) (by rfl) C.vc C.va.kp C.vb (Ad (Ag 1) (Ad (Ag 0) Ah))) (Ad (Ag 2) Ah))))) Ah))))
theorem Mz(C:Defs K mg):FnOk P w K mg base CX0 5 C.wq C.wt ["far"] (spF K 1 Fv):=by
 refine Fun.okF (N:=["far","two","all_of"]) C.wu Ff (fun cdv A outer s H E hr=>?_)
 have hu:=hr.units
 refine Av ?s0 ?t0
 case s0=>exact (D0 (i:=1) (by exact Ff.nd) (Ct (Ad (Ct (Ad Gv (Ad (Ag 0) (Ad An Ah)))) (Ad (Ct (Ad Gv (Ad (Dd Cj Ce (Ag 0) An) (Ad An Ah)))) Ah))))
 refine Av ?s1 ?t1
 case s1=>exact (D0 (i:=2) (by exact Ff.nd) (Ct (Ad (Ag 0) (Ad An (Ad (Dd Cj Ce (Ag 0) An) (Ad An Ah))))))
 refine Av ?s2 ?t2
 case s2=>exact (Et (PWF.pt (K2 (By (Fu hu) Fy (Ho (Sr C) (hr.mono (by decide)) (by rfl) C.vP C.vN.kp C.xM (Ar An (Ar (Dd Cj Ce (Ag 0) An) (Ar (Ag 1) Cq)))) An (B5 _)) (Iv (By (Fu hu) Fy (Ho (Nc C) (hr.mono (by decide)) (by rfl) C.vh C.vf.kp C.xG (Ar (Ct (Ad (Ag 2) Ah)) (Ar (Ag 1) Cq))) (Ct (Ad An Ah)) (B5 _))))) (Ao (Ba Py)) Dv)
 refine Av ?s3 ?t3
 case s3=>exact (Et (By (Fu hu) Fy (Ho (Qj C) (hr.mono (by decide)) (by rfl) C.wo C.wm.kp C.xP (Ar (Acz Gv An Gv An) (Ar (Ct (Ad (Ag 2) Ah)) (Ar (Ag 1) Cq)))) (Ct (Ad An Ah)) (B5 _)) (Ao (Ba Py)) Dv)
 refine Av ?s4 ?t4
 case s4=>exact (Et (By (Fu hu) Fy (Ho (U0 C) (hr.mono (by decide)) (by rfl) C.vZ C.vX.kp C.xN (Ar An (Ar (Ag 2) (Ar (Ag 1) Cq)))) Gv (B5 _)) (Ao (Ba Py)) Dv)
 exact (Ao (Ba (Oj (Wk hu) Wy (Ho (Vf C) (hr.mono (by decide)) (by rfl) C.wb C.v9.kp C.xO (Ar An (Ar (Ag 2) (Ar (Ag 1) Cq)))) Gv (B5 _))))
theorem Kg(C:Defs K mg):FnOk P w K mg base CX0 1 C.wx C.wy ["self","many"] (spF K 2 B8):=by
 refine Fun.okF (N:=["self","many"]) C.wz Kf (fun cdv A outer s H E hr=>?_)
 have hu:=hr.units
 refine Av ?s0 ?t0
 case s0=>exact (Sn C.ud C.x4 (Ag 0) (Ag 1))
 exact (Ao (Sn C.ud C.x3 (Ag 0) (Dd Ah4 Ahf (Ak3 (Ad An Ah)) (Dd Cj Ce (Ag 1) An))))
theorem Km(C:Defs K mg):FnOk P w K mg base CX0 1 C.wB C.wC ["number"] (spF K 1 Eu):=by
 refine Fun.okF (N:=["number"]) C.wD P9 (fun cdv A outer s H E hr=>?_)
 have hu:=hr.units
 exact (Ao (Ba (Dd Alh Wg (Ag 0) (Alj (Ag 0)))))
theorem Cd(C:Defs K mg):FnOk P w K mg base CX0 2 C.wG C.wH ["self","many"] (spF K 2 Aq):=by
 refine Fun.okF (N:=["self","many","told","cell"]) C.wI B1 (fun cdv A outer s H E hr=>?_)
 have hu:=hr.units
 refine Av ?s0 ?t0
 case s0=>exact (Et (PWF.pt (K2 (By Y7 Sy (Ag 1) An (B5 _)) (Iv (By Ad9 Vz (Ag 1) (Ey C.ud C.x4 (Ag 0)) (B5 _))))) (Ao Hw) Dv)
 refine Av ?s1 ?t1
 case s1=>exact (D0 (i:=2) (by exact B1.nd) An)
 refine Av ?s2 ?t2
 case s2=>exact (D0 (i:=3) (by exact B1.nd) (Ag 1))
 refine Av ?s3 ?t3
 case s3=>exact (Q9 100000 lR (By Ad9 Vz (Ag 3) An (B5 _)) (Av (D0 (i:=2) (by exact B1.nd) (Dd Cj Ce (Ag 2) (E9 Dr Dt (Ey C.ud C.x3 (Ag 0)) (Ag 3) (fun _ _=>rfl)))) (Ao (D0 (i:=3) (by exact B1.nd) (Dd Vl R8 (Ag 3) (Cu (Km C) (hr.mono (by decide)) (by rfl) C.wF C.wD.kp C.wE (Ad (Ag 3) Ah)))))))
 exact (Ao (Ba (Ag 2)))
theorem Jg(C:Defs K mg):FnOk P w K mg base CX0 3 C.wL C.wM ["self","number"] (spF K 2 B0):=by
 refine Fun.okF (N:=["self","number","many"]) C.wN Fe (fun cdv A outer s H E hr=>?_)
 have hu:=hr.units
 refine Av ?s0 ?t0
 case s0=>exact (X3 lR rfl (Vq (by rfl) C.x9 (Ad (Dd Cj Ce (Ey C.ud C.x4 (Ag 0)) An) Ah)) (Cz (i:=2) (by exact Fe.nd)) (Ao (Et (By Aj7 Adq (Gg C.ud C.wK (Cd C) (hr.mono (by decide)) C.wJ (Ag 0) (Ad (Ag 2) Ah)) (Ag 1) (B5 _)) (Ao (Ba (Ag 2))) Dv)))
 exact (Ao (Ba Anm))
theorem Ds(C:Defs K mg):FnOk P w K mg base CX0 1 C.wQ C.wR ["self","place"] (spF K 2 Aw):=by
 refine Fun.okF (N:=["self","place"]) C.wS Jh (fun cdv A outer s H E hr=>?_)
 have hu:=hr.units
 exact (Ao (Et (PWF.pt (K2 (By Y7 Sy (Ag 1) An (B5 _)) (Iv (By Ad9 Vz (Ag 1) (Ey C.ud C.x4 (Ag 0)) (B5 _))))) (Ao Hw) Dv))
theorem Er(C:Defs K mg):FnOk P w K mg base CX0 3 C.wV C.wW ["self","first","last"] (spF K 3 Bk):=by
 refine Fun.okF (N:=["self","first","last"]) C.wX Im (fun cdv A outer s H E hr=>?_)
 have hu:=hr.units
 refine Av ?s0 ?t0
 case s0=>exact (Dz (Gg C.ud C.wU (Ds C) (hr.mono (by decide)) C.wT (Ag 0) (Ad (Ag 1) Ah)))
 refine Av ?s1 ?t1
 case s1=>exact (Dz (Gg C.ud C.wU (Ds C) (hr.mono (by decide)) C.wT (Ag 0) (Ad (Ag 2) Ah)))
 refine Av ?s2 ?t2
 case s2=>exact (Et (By Y7 Sy (Ag 2) (Ag 1) (B5 _)) (Ao (Ba An)) Dv)
 exact (Ao (Ba (Dd Vl R8 (Gg C.ud C.wK (Cd C) (hr.mono (by decide)) C.wJ (Ag 0) (Ad (Ag 2) Ah)) (Gg C.ud C.wK (Cd C) (hr.mono (by decide)) C.wJ (Ag 0) (Ad (Dd Vl R8 (Ag 1) An) Ah)))))
theorem Jq(C:Defs K mg):FnOk P w K mg base CX0 4 C.w9 C.xa ["self","place"] (spF K 2 Ck):=by
 refine Fun.okF (N:=["self","place"]) C.xb Jm (fun cdv A outer s H E hr=>?_)
 have hu:=hr.units
 exact (Ao (Ba (Gg C.ud C.wZ (Er C) (hr.mono (by decide)) C.wY (Ag 0) (Ad (Ag 1) (Ad (Ag 1) Ah)))))
theorem Ln(C:Defs K mg):FnOk P w K mg base CX0 2 C.xg C.xh ["self","place","number"] (spF K 3 Dc):=by
 refine Fun.okF (N:=["self","place","number","cell"]) C.xi Ep (fun cdv A outer s H E hr=>?_)
 have hu:=hr.units
 refine Av ?s0 ?t0
 case s0=>exact (Dz (Gg C.ud C.wU (Ds C) (hr.mono (by decide)) C.wT (Ag 0) (Ad (Ag 1) Ah)))
 refine Av ?s1 ?t1
 case s1=>exact (D0 (i:=3) (by exact Ep.nd) (Ag 1))
 exact (Ao (Q9 100000 lR (By M7 Jo (Ag 3) (Ey C.ud C.x4 (Ag 0)) (B5 _)) (Av (Aih (Dd Cj Ce (E9 Dr Dt (Ey C.ud C.x3 (Ag 0)) (Ag 3) (fun _ _=>rfl)) (Ag 2)) (Agg (Ey C.ud C.x3 (Ag 0)) (Ag 3))) (Ao (D0 (i:=3) (by exact Ep.nd) (Dd Cj Ce (Ag 3) (Cu (Km C) (hr.mono (by decide)) (by rfl) C.wF C.wD.kp C.wE (Ad (Ag 3) Ah))))))))
theorem Sf(C:Defs K mg):FnOk P w K mg base CX0 1 C.xl C.xm ["numbers"] (spF K 1 G8):=by
 refine Fun.okF (N:=["numbers","unlike","places","place","number"]) C.xn E7 (fun cdv A outer s H E hr=>?_)
 have hu:=hr.units
 refine Av ?s0 ?t0
 case s0=>exact (D0 (i:=1) (by exact E7.nd) (Kd Fi J9 (by rfl) C.yd (by decide +kernel) (Ad (Xb rfl (by rfl) C.yb (by rfl) C.ya (Ad (Ag 0) Ah)) Ah)))
 refine Av ?s1 ?t1
 case s1=>exact (D0 (i:=2) (by exact E7.nd) Y4)
 refine Av ?s2 ?t2
 case s2=>exact (X3 lR rfl (Aa7 (by rfl) C.x6 (Ad (Ag 1) Ah)) (X8 rfl (J6 (Cz (i:=3) (by exact E7.nd)) (J6 (Cz (i:=4) (by exact E7.nd)) Tp))) (Ao (O9 hu (Ag 2) (Ag 4) (Ag 3))))
 exact (Ao (Ba (Ct (Ad (Ag 1) (Ad (Kd Fi J9 (by rfl) C.yd (by decide +kernel) (Ad (Ka (N':=["number","places"]) (ix:=[none,some 2]) ⟨rfl,rfl,rfl,rfl,rfl,rfl⟩ rfl (Ha (Ag 0)) (fun _ _ _ _ _ _=>(Cz (i:=0) (show gY (α:=Str) ["number","places"] by decide +kernel))) (fun _ _ _ _ _ _=>(Yq hu (Ag 1) (Ag 0) (fun _ _=>rfl)))) Ah)) Ah)))))
theorem Nu(C:Defs K mg):FnOk P w K mg base CX0 5 C.xt C.xu ["far"] (spF K 1 G4):=by
 refine Fun.okF (N:=["far","tree"]) C.xw Je (fun cdv A outer s H E hr=>?_)
 have hu:=hr.units
 refine Av ?s0 ?t0
 case s0=>exact (D0 (i:=1) (by exact Je.nd) (Aay C.ud.ns C.xY (Kg C) (hr.mono (by decide)) (by rfl) C.xZ C.xQ (Ar An Cq)))
 refine Av ?s1 ?t1
 case s1=>exact (Dz (Cy C.ud C.xk (Ln C) (hr.mono (by decide)) C.xV (Ag 1) (Ar (Dd Cj Ce An (Ag 0)) (Ar An Cq))))
 refine Av ?s2 ?t2
 case s2=>exact (Et (PWF.pt (K2 (By (Fu hu) Fy (Cy C.ud C.wK (Cd C) (hr.mono (by decide)) C.xR (Ag 1) (Ar An Cq)) (Dd Cj Ce An (Ag 0)) (B5 _)) (Iv (By (Fu hu) Fy (Cy C.ud C.wZ (Er C) (hr.mono (by decide)) C.xT (Ag 1) (Ar An (Ar An Cq))) (Dd Cj Ce An (Ag 0)) (B5 _))))) (Ao (Ba Py)) Dv)
 refine Av ?s3 ?t3
 case s3=>exact (Et (PWF.pt (K2 (By (Fu hu) Fy (Cy C.ud C.xf (Jq C) (hr.mono (by decide)) C.xU (Ag 1) (Ar An Cq)) (Dd Cj Ce An (Ag 0)) (B5 _)) (Iv (By (Fu hu) Fy (Cy C.ud C.wP (Jg C) (hr.mono (by decide)) C.xS (Ag 1) (Ar An Cq)) An (B5 _))))) (Ao (Ba Py)) Dv)
 exact (Ao (Ba (Oj (Wk hu) Wy (Ab0 (Sf C) (hr.mono (by decide)) (by rfl) C.xp C.xn.kp C.xq (Ar (Ct (Ad (Dd Cj Ce An (Ag 0)) (Ad (Ag 0) Ah))) Cq)) (Ct (Ad (Ct (Ad (Ag 0) (Ad (Dd Cj Ce An (Ag 0)) Ah))) (Ad (Ct (Ad An (Ad An Ah))) Ah))) (B5 _))))
theorem Alu(C:Defs K mg):FnOk P w K mg base CX0 6 C.xz C.xA ["script"] (spF K 1 Va):=by
 refine Fun.okF (N:=["script","far","kept"]) C.xB Wi (fun cdv A outer s H E hr=>?_)
 have hu:=hr.units
 refine Av ?s0 ?t0
 case s0=>exact (D0 (i:=1) (by exact Wi.nd) (Dd Alf Age (Fm (Qv rfl) Ys (by rfl) C.yc pI (Ad (Ag 0) Ah)) An))
 refine Av ?s1 ?t1
 case s1=>exact (D0 (i:=2) (by exact Wi.nd) (Afb C.ub.ns C.xW (Ij C) (hr.mono (by decide)) (by rfl) C.xX C.uh))
 refine Av ?s2 ?t2
 case s2=>exact (Dz (Cy C.ub C.vF (Ef C) (hr.mono (by decide)) C.xK (Ag 2) (Ar An (Ar (Ag 1) (Ar Gv Cq)))))
 refine Av ?s3 ?t3
 case s3=>exact (Dz (Cy C.ub C.vF (Ef C) (hr.mono (by decide)) C.xJ (Ag 2) (Ar Gv (Ar An (Ar (Dd Cj Ce (Ag 1) An) Cq)))))
 refine Av ?s4 ?t4
 case s4=>exact (Dz (Cy C.ub C.vA (Hk C) (hr.mono (by decide)) C.xI (Ag 2) (Ar (Dd Cj Ce (Ag 1) An) (Ar An (Ar Gv Cq)))))
 refine Av ?s5 ?t5
 case s5=>exact (Et (PWF.pt (K2 (By (Fu hu) Fy (Cy C.ub C.uT (Ht C) (hr.mono (by decide)) C.xF (Ag 2) (Ar An (Ar (Dd Cj Ce (Ag 1) An) Cq))) An (B5 _)) (Iv (By (Fu hu) Fy (Cy C.ub C.uJ (Hu C) (hr.mono (by decide)) C.xE (Ag 2) (Ar (Ag 1) (Ar An Cq))) An (B5 _))))) (Ao (Ba Py)) Dv)
 refine Av ?s6 ?t6
 case s6=>exact (Et (By (Fu hu) Fy (Cy C.ub C.vn (Jf C) (hr.mono (by decide)) C.xH (Ag 2) (Ar (Ct (Ad (Dd Cj Ce (Ag 1) An) (Ad An (Ad (Dd Cj Ce (Ag 1) An) (Ad An Ah))))) Cq)) An (B5 _)) (Ao (Ba Py)) Dv)
 refine Av ?s7 ?t7
 case s7=>exact (Dz (Cy C.ub C.vK (Hh C) (hr.mono (by decide)) C.xL (Ag 2) (Ar Gv Cq)))
 exact (Ao (Ba (R7 (Oj (Wk hu) Wy (K7 C.ub C.uY (D8 C) (hr.mono (by decide)) C.uX (Ag 2)) (Ct (Ad (Ct (Ad Gv (Ad (Dd Cj Ce (Ag 1) An) (Ad An Ah)))) Ah)) (B5 _)) (R7 (Cu (Nu C) (hr.mono (by decide)) (by rfl) C.xy C.xw.kp C.xx (Ad (Ag 1) Ah)) (Vk (Cu (Mz C) (hr.mono (by decide)) (by rfl) C.ww C.wu.kp C.wv (Ad (Ag 1) Ah)))))))
end
theorem Al4{l:kW}{w:cC}{K:aD}{h:Heap}{mg:Str->Option aC}{fa:Addr}(X:K.In h)(G:h.Ns bK mg)(hfa:mg "law" = some (.ref fa))
  {od0 an0:Option Addr} {sl0:Array (Option aC)} {oc0 kV0 dc0 pm0 cd0 ct0:aC} {f0:Addr} {od1 an1:Option Addr} {sl1:Array (Option aC)} {oc1 kV1 dc1 pm1 cd1 ct1:aC} {f1:Addr} {od2 an2:Option Addr} {sl2:Array (Option aC)} {oc2 kV2 dc2 pm2 cd2 ct2:aC} {f2:Addr} {od3 an3:Option Addr} {sl3:Array (Option aC)} {oc3 kV3 dc3 pm3 cd3 ct3:aC} {f3:Addr} {od4 an4:Option Addr} {sl4:Array (Option aC)} {oc4 kV4 dc4 pm4 cd4 ct4:aC} {f4:Addr} {od5 an5:Option Addr} {sl5:Array (Option aC)} {oc5 kV5 dc5 pm5 cd5 ct5:aC} {f5:Addr} {od6 an6:Option Addr} {sl6:Array (Option aC)} {oc6 kV6 dc6 pm6 cd6 ct6:aC} {f6:Addr} {od7 an7:Option Addr} {sl7:Array (Option aC)} {oc7 kV7 dc7 pm7 cd7 ct7:aC} {f7:Addr} {od8 an8:Option Addr} {sl8:Array (Option aC)} {oc8 kV8 dc8 pm8 cd8 ct8:aC} {f8:Addr} {od9 an9:Option Addr} {sl9:Array (Option aC)} {oc9 kV9 dc9 pm9 cd9 ct9:aC} {f9:Addr} {od10 an10:Option Addr} {sl10:Array (Option aC)} {oc10 kV10 dc10 pm10 cd10 ct10:aC} {f10:Addr} {od11 an11:Option Addr} {sl11:Array (Option aC)} {oc11 kV11 dc11 pm11 cd11 ct11:aC} {f11:Addr} {od12 an12:Option Addr} {sl12:Array (Option aC)} {oc12 kV12 dc12 pm12 cd12 ct12:aC} {f12:Addr} {od13 an13:Option Addr} {sl13:Array (Option aC)} {oc13 kV13 dc13 pm13 cd13 ct13:aC} {f13:Addr} {od14 an14:Option Addr} {sl14:Array (Option aC)} {oc14 kV14 dc14 pm14 cd14 ct14:aC} {f14:Addr} {od15 an15:Option Addr} {sl15:Array (Option aC)} {oc15 kV15 dc15 pm15 cd15 ct15:aC} {f15:Addr} {od16 an16:Option Addr} {sl16:Array (Option aC)} {oc16 kV16 dc16 pm16 cd16 ct16:aC} {f16:Addr} {od17 an17:Option Addr} {sl17:Array (Option aC)} {oc17 kV17 dc17 pm17 cd17 ct17:aC} {f17:Addr} {od18 an18:Option Addr} {sl18:Array (Option aC)} {oc18 kV18 dc18 pm18 cd18 ct18:aC} {f18:Addr} {od19 an19:Option Addr} {sl19:Array (Option aC)} {oc19 kV19 dc19 pm19 cd19 ct19:aC} {f19:Addr} {od20 an20:Option Addr} {sl20:Array (Option aC)} {oc20 kV20 dc20 pm20 cd20 ct20:aC} {f20:Addr} {od21 an21:Option Addr} {sl21:Array (Option aC)} {oc21 kV21 dc21 pm21 cd21 ct21:aC} {f21:Addr} {od22 an22:Option Addr} {sl22:Array (Option aC)} {oc22 kV22 dc22 pm22 cd22 ct22:aC} {f22:Addr} {od23 an23:Option Addr} {sl23:Array (Option aC)} {oc23 kV23 dc23 pm23 cd23 ct23:aC} {f23:Addr} {od24 an24:Option Addr} {sl24:Array (Option aC)} {oc24 kV24 dc24 pm24 cd24 ct24:aC} {f24:Addr} {od25 an25:Option Addr} {sl25:Array (Option aC)} {oc25 kV25 dc25 pm25 cd25 ct25:aC} {f25:Addr} {od26 an26:Option Addr} {sl26:Array (Option aC)} {oc26 kV26 dc26 pm26 cd26 ct26:aC} {f26:Addr} {od27 an27:Option Addr} {sl27:Array (Option aC)} {oc27 kV27 dc27 pm27 cd27 ct27:aC} {f27:Addr} {od28 an28:Option Addr} {sl28:Array (Option aC)} {oc28 kV28 dc28 pm28 cd28 ct28:aC} {f28:Addr} {od29 an29:Option Addr} {sl29:Array (Option aC)} {oc29 kV29 dc29 pm29 cd29 ct29:aC} {f29:Addr} {od30 an30:Option Addr} {sl30:Array (Option aC)} {oc30 kV30 dc30 pm30 cd30 ct30:aC} {f30:Addr} {od31 an31:Option Addr} {sl31:Array (Option aC)} {oc31 kV31 dc31 pm31 cd31 ct31:aC} {f31:Addr} {od32 an32:Option Addr} {sl32:Array (Option aC)} {oc32 kV32 dc32 pm32 cd32 ct32:aC} {f32:Addr} {od33 an33:Option Addr} {sl33:Array (Option aC)} {oc33 kV33 dc33 pm33 cd33 ct33:aC} {f33:Addr} {od34 an34:Option Addr} {sl34:Array (Option aC)} {oc34 kV34 dc34 pm34 cd34 ct34:aC} {f34:Addr} {od35 an35:Option Addr} {sl35:Array (Option aC)} {oc35 kV35 dc35 pm35 cd35 ct35:aC} {f35:Addr}
  {A_KeptPoints:Addr} (aC_KeptPoints:bU K bK "KeptPoints" = some (some (.ref A_KeptPoints))) (pg_KeptPoints:hV K A_KeptPoints yB=true) (hd_KeptPoints:iM K A_KeptPoints=true) (po_KeptPoints:jY K A_KeptPoints=true) (sa_KeptPoints:bS K (.ref A_KeptPoints) "__setattr__" = some (some (.builtin "object.__setattr__")))
  {A_SumTree:Addr} (aC_SumTree:bU K bK "SumTree" = some (some (.ref A_SumTree))) (pg_SumTree:hV K A_SumTree yB=true) (hd_SumTree:iM K A_SumTree=true) (po_SumTree:jY K A_SumTree=true) (sa_SumTree:bS K (.ref A_SumTree) "__setattr__" = some (some (.builtin "object.__setattr__")))
  (mk_KeptPoints:lJ K A_KeptPoints=true) (kc_KeptPoints:aV K (.ref A_KeptPoints)=true)
  (mk_SumTree:lJ K A_SumTree=true) (kc_SumTree:aV K (.ref A_SumTree)=true)
  (nf_KeptPoints_points:bS K (.ref A_KeptPoints) "points" = some none)
  (nf_SumTree_cells:bS K (.ref A_SumTree) "cells" = some none)
  (nf_SumTree_many:bS K (.ref A_SumTree) "many" = some none)
  (a0:bS K (.ref A_KeptPoints) "__init__" = some (some (.ref f0))) (i0:cY K (.ref f0)=true) (l0:K.lookup f0=some ⟨oc0,od0,.func (aQ "__init__" "KeptPoints.__init__" (Ak Bu) (Ai Bu) (Af Bu) .none kV0 dc0 pm0 an0 cd0 ct0),sl0⟩) (c0:bH K cd0 "KeptPoints.__init__" = true) (k0:aV K (.ref f0)=true)
  (a1:bU K bK "place_of" = some (some (.ref f1))) (l1:K.lookup f1=some ⟨oc1,od1,.func (aQ "place_of" "place_of" (Ak Fg) (Ai Fg) (Af Fg) .none kV1 dc1 pm1 an1 cd1 ct1),sl1⟩) (c1:bH K cd1 "place_of" = true) (k1:aV K (.ref f1)=true)
  (a2:bS K (.ref A_KeptPoints) "places_now" = some (some (.ref f2))) (i2:cY K (.ref f2)=true) (l2:K.lookup f2=some ⟨oc2,od2,.func (aQ "places_now" "KeptPoints.places_now" (Ak Bn) (Ai Bn) (Af Bn) .none kV2 dc2 pm2 an2 cd2 ct2),sl2⟩) (c2:bH K cd2 "KeptPoints.places_now" = true) (k2:aV K (.ref f2)=true)
  (a3:bU K bK "lies_below" = some (some (.ref f3))) (l3:K.lookup f3=some ⟨oc3,od3,.func (aQ "lies_below" "lies_below" (Ak D6) (Ai D6) (Af D6) .none kV3 dc3 pm3 an3 cd3 ct3),sl3⟩) (c3:bH K cd3 "lies_below" = true) (k3:aV K (.ref f3)=true)
  (a4:bU K bK "many_above" = some (some (.ref f4))) (l4:K.lookup f4=some ⟨oc4,od4,.func (aQ "many_above" "many_above" (Ak D1) (Ai D1) (Af D1) .none kV4 dc4 pm4 an4 cd4 ct4),sl4⟩) (c4:bH K cd4 "many_above" = true) (k4:aV K (.ref f4)=true)
  (a5:bS K (.ref A_KeptPoints) "above_now" = some (some (.ref f5))) (i5:cY K (.ref f5)=true) (l5:K.lookup f5=some ⟨oc5,od5,.func (aQ "above_now" "KeptPoints.above_now" (Ak A0) (Ai A0) (Af A0) .none kV5 dc5 pm5 an5 cd5 ct5),sl5⟩) (c5:bH K cd5 "KeptPoints.above_now" = true) (k5:aV K (.ref f5)=true)
  (a6:bU K bK "many_below" = some (some (.ref f6))) (l6:K.lookup f6=some ⟨oc6,od6,.func (aQ "many_below" "many_below" (Ak D4) (Ai D4) (Af D4) .none kV6 dc6 pm6 an6 cd6 ct6),sl6⟩) (c6:bH K cd6 "many_below" = true) (k6:aV K (.ref f6)=true)
  (a7:bS K (.ref A_KeptPoints) "below_now" = some (some (.ref f7))) (i7:cY K (.ref f7)=true) (l7:K.lookup f7=some ⟨oc7,od7,.func (aQ "below_now" "KeptPoints.below_now" (Ak A7) (Ai A7) (Af A7) .none kV7 dc7 pm7 an7 cd7 ct7),sl7⟩) (c7:bH K cd7 "KeptPoints.below_now" = true) (k7:aV K (.ref f7)=true)
  (a8:bS K (.ref A_KeptPoints) "points_now" = some (some (.ref f8))) (i8:cY K (.ref f8)=true) (l8:K.lookup f8=some ⟨oc8,od8,.func (aQ "points_now" "KeptPoints.points_now" (Ak Bp) (Ai Bp) (Af Bp) .none kV8 dc8 pm8 an8 cd8 ct8),sl8⟩) (c8:bH K cd8 "KeptPoints.points_now" = true) (k8:aV K (.ref f8)=true)
  (a9:bU K bK "is_held" = some (some (.ref f9))) (l9:K.lookup f9=some ⟨oc9,od9,.func (aQ "is_held" "is_held" (Ak Gj) (Ai Gj) (Af Gj) .none kV9 dc9 pm9 an9 cd9 ct9),sl9⟩) (c9:bH K cd9 "is_held" = true) (k9:aV K (.ref f9)=true)
  (a10:bU K bK "points_in" = some (some (.ref f10))) (l10:K.lookup f10=some ⟨oc10,od10,.func (aQ "points_in" "points_in" (Ak Eg) (Ai Eg) (Af Eg) .none kV10 dc10 pm10 an10 cd10 ct10),sl10⟩) (c10:bH K cd10 "points_in" = true) (k10:aV K (.ref f10)=true)
  (a11:bU K bK "in_boxes" = some (some (.ref f11))) (l11:K.lookup f11=some ⟨oc11,od11,.func (aQ "in_boxes" "in_boxes" (Ak De) (Ai De) (Af De) .none kV11 dc11 pm11 an11 cd11 ct11),sl11⟩) (c11:bH K cd11 "in_boxes" = true) (k11:aV K (.ref f11)=true)
  (a12:bS K (.ref A_KeptPoints) "box_now" = some (some (.ref f12))) (i12:cY K (.ref f12)=true) (l12:K.lookup f12=some ⟨oc12,od12,.func (aQ "box_now" "KeptPoints.box_now" (Ak Bc) (Ai Bc) (Af Bc) .none kV12 dc12 pm12 an12 cd12 ct12),sl12⟩) (c12:bH K cd12 "KeptPoints.box_now" = true) (k12:aV K (.ref f12)=true)
  (a13:bS K (.ref A_KeptPoints) "need_name" = some (some (.ref f13))) (i13:cY K (.ref f13)=true) (l13:K.lookup f13=some ⟨oc13,od13,.func (aQ "need_name" "KeptPoints.need_name" (Ak Bt) (Ai Bt) (Af Bt) .none kV13 dc13 pm13 an13 cd13 ct13),sl13⟩) (c13:bH K cd13 "KeptPoints.need_name" = true) (k13:aV K (.ref f13)=true)
  (a14:bS K (.ref A_KeptPoints) "move_point" = some (some (.ref f14))) (i14:cY K (.ref f14)=true) (l14:K.lookup f14=some ⟨oc14,od14,.func (aQ "move_point" "KeptPoints.move_point" (Ak Ax) (Ai Ax) (Af Ax) .none kV14 dc14 pm14 an14 cd14 ct14),sl14⟩) (c14:bH K cd14 "KeptPoints.move_point" = true) (k14:aV K (.ref f14)=true)
  (a15:bS K (.ref A_KeptPoints) "put_point" = some (some (.ref f15))) (i15:cY K (.ref f15)=true) (l15:K.lookup f15=some ⟨oc15,od15,.func (aQ "put_point" "KeptPoints.put_point" (Ak Ap) (Ai Ap) (Af Ap) .none kV15 dc15 pm15 an15 cd15 ct15),sl15⟩) (c15:bH K cd15 "KeptPoints.put_point" = true) (k15:aV K (.ref f15)=true)
  (a16:bS K (.ref A_KeptPoints) "take_point" = some (some (.ref f16))) (i16:cY K (.ref f16)=true) (l16:K.lookup f16=some ⟨oc16,od16,.func (aQ "take_point" "KeptPoints.take_point" (Ak Ay) (Ai Ay) (Af Ay) .none kV16 dc16 pm16 an16 cd16 ct16),sl16⟩) (c16:bH K cd16 "KeptPoints.take_point" = true) (k16:aV K (.ref f16)=true)
  (a17:bU K bK "in_corner" = some (some (.ref f17))) (l17:K.lookup f17=some ⟨oc17,od17,.func (aQ "in_corner" "in_corner" (Ak C2) (Ai C2) (Af C2) .none kV17 dc17 pm17 an17 cd17 ct17),sl17⟩) (c17:bH K cd17 "in_corner" = true) (k17:aV K (.ref f17)=true)
  (a18:bU K bK "name_at" = some (some (.ref f18))) (l18:K.lookup f18=some ⟨oc18,od18,.func (aQ "name_at" "name_at" (Ak Gk) (Ai Gk) (Af Gk) .none kV18 dc18 pm18 an18 cd18 ct18),sl18⟩) (c18:bH K cd18 "name_at" = true) (k18:aV K (.ref f18)=true)
  (a19:bU K bK "nth_by_x" = some (some (.ref f19))) (l19:K.lookup f19=some ⟨oc19,od19,.func (aQ "nth_by_x" "nth_by_x" (Ak Df) (Ai Df) (Af Df) .none kV19 dc19 pm19 an19 cd19 ct19),sl19⟩) (c19:bH K cd19 "nth_by_x" = true) (k19:aV K (.ref f19)=true)
  (a20:bU K bK "turned_place_of" = some (some (.ref f20))) (l20:K.lookup f20=some ⟨oc20,od20,.func (aQ "turned_place_of" "turned_place_of" (Ak Cg) (Ai Cg) (Af Cg) .none kV20 dc20 pm20 an20 cd20 ct20),sl20⟩) (c20:bH K cd20 "turned_place_of" = true) (k20:aV K (.ref f20)=true)
  (a21:bU K bK "nth_by_y" = some (some (.ref f21))) (l21:K.lookup f21=some ⟨oc21,od21,.func (aQ "nth_by_y" "nth_by_y" (Ak Di) (Ai Di) (Af Di) .none kV21 dc21 pm21 an21 cd21 ct21),sl21⟩) (c21:bH K cd21 "nth_by_y" = true) (k21:aV K (.ref f21)=true)
  (a22:bU K bK "weight_of" = some (some (.ref f22))) (l22:K.lookup f22=some ⟨oc22,od22,.func (aQ "weight_of" "weight_of" (Ak El) (Ai El) (Af El) .none kV22 dc22 pm22 an22 cd22 ct22),sl22⟩) (c22:bH K cd22 "weight_of" = true) (k22:aV K (.ref f22)=true)
  (a23:bU K bK "weights_in" = some (some (.ref f23))) (l23:K.lookup f23=some ⟨oc23,od23,.func (aQ "weights_in" "weights_in" (Ak Co) (Ai Co) (Af Co) .none kV23 dc23 pm23 an23 cd23 ct23),sl23⟩) (c23:bH K cd23 "weights_in" = true) (k23:aV K (.ref f23)=true)
  (a24:bU K bK "_law_boxes_right" = some (some (.ref f24))) (l24:K.lookup f24=some ⟨oc24,od24,.func (aQ "_law_boxes_right" "_law_boxes_right" (Ak Cw) (Ai Cw) (Af Cw) .none kV24 dc24 pm24 an24 cd24 ct24),sl24⟩) (c24:bH K cd24 "_law_boxes_right" = true) (k24:aV K (.ref f24)=true)
  (a25:bS K (.ref A_SumTree) "__init__" = some (some (.ref f25))) (i25:cY K (.ref f25)=true) (l25:K.lookup f25=some ⟨oc25,od25,.func (aQ "__init__" "SumTree.__init__" (Ak Bh) (Ai Bh) (Af Bh) .none kV25 dc25 pm25 an25 cd25 ct25),sl25⟩) (c25:bH K cd25 "SumTree.__init__" = true) (k25:aV K (.ref f25)=true)
  (a26:bU K bK "lowest_bit" = some (some (.ref f26))) (l26:K.lookup f26=some ⟨oc26,od26,.func (aQ "lowest_bit" "lowest_bit" (Ak D2) (Ai D2) (Af D2) .none kV26 dc26 pm26 an26 cd26 ct26),sl26⟩) (c26:bH K cd26 "lowest_bit" = true) (k26:aV K (.ref f26)=true)
  (a27:bS K (.ref A_SumTree) "sum_of_first" = some (some (.ref f27))) (i27:cY K (.ref f27)=true) (l27:K.lookup f27=some ⟨oc27,od27,.func (aQ "sum_of_first" "SumTree.sum_of_first" (Ak A8) (Ai A8) (Af A8) .none kV27 dc27 pm27 an27 cd27 ct27),sl27⟩) (c27:bH K cd27 "SumTree.sum_of_first" = true) (k27:aV K (.ref f27)=true)
  (a28:bS K (.ref A_SumTree) "least_many" = some (some (.ref f28))) (i28:cY K (.ref f28)=true) (l28:K.lookup f28=some ⟨oc28,od28,.func (aQ "least_many" "SumTree.least_many" (Ak Bb) (Ai Bb) (Af Bb) .none kV28 dc28 pm28 an28 cd28 ct28),sl28⟩) (c28:bH K cd28 "SumTree.least_many" = true) (k28:aV K (.ref f28)=true)
  (a29:bS K (.ref A_SumTree) "need_place" = some (some (.ref f29))) (i29:cY K (.ref f29)=true) (l29:K.lookup f29=some ⟨oc29,od29,.func (aQ "need_place" "SumTree.need_place" (Ak B2) (Ai B2) (Af B2) .none kV29 dc29 pm29 an29 cd29 ct29),sl29⟩) (c29:bH K cd29 "SumTree.need_place" = true) (k29:aV K (.ref f29)=true)
  (a30:bS K (.ref A_SumTree) "sum_from_to" = some (some (.ref f30))) (i30:cY K (.ref f30)=true) (l30:K.lookup f30=some ⟨oc30,od30,.func (aQ "sum_from_to" "SumTree.sum_from_to" (Ak A9) (Ai A9) (Af A9) .none kV30 dc30 pm30 an30 cd30 ct30),sl30⟩) (c30:bH K cd30 "SumTree.sum_from_to" = true) (k30:aV K (.ref f30)=true)
  (a31:bS K (.ref A_SumTree) "number_at" = some (some (.ref f31))) (i31:cY K (.ref f31)=true) (l31:K.lookup f31=some ⟨oc31,od31,.func (aQ "number_at" "SumTree.number_at" (Ak Bd) (Ai Bd) (Af Bd) .none kV31 dc31 pm31 an31 cd31 ct31),sl31⟩) (c31:bH K cd31 "SumTree.number_at" = true) (k31:aV K (.ref f31)=true)
  (a32:bS K (.ref A_SumTree) "put_to" = some (some (.ref f32))) (i32:cY K (.ref f32)=true) (l32:K.lookup f32=some ⟨oc32,od32,.func (aQ "put_to" "SumTree.put_to" (Ak Br) (Ai Br) (Af Br) .none kV32 dc32 pm32 an32 cd32 ct32),sl32⟩) (c32:bH K cd32 "SumTree.put_to" = true) (k32:aV K (.ref f32)=true)
  (a33:bU K bK "places_of" = some (some (.ref f33))) (l33:K.lookup f33=some ⟨oc33,od33,.func (aQ "places_of" "places_of" (Ak C5) (Ai C5) (Af C5) .none kV33 dc33 pm33 an33 cd33 ct33),sl33⟩) (c33:bH K cd33 "places_of" = true) (k33:aV K (.ref f33)=true)
  (a34:bU K bK "_law_tree_right" = some (some (.ref f34))) (l34:K.lookup f34=some ⟨oc34,od34,.func (aQ "_law_tree_right" "_law_tree_right" (Ak C9) (Ai C9) (Af C9) .none kV34 dc34 pm34 an34 cd34 ct34),sl34⟩) (c34:bH K cd34 "_law_tree_right" = true) (k34:aV K (.ref f34)=true)
  (a35:bU K bK "law" = some (some (.ref f35))) (l35:K.lookup f35=some ⟨oc35,od35,.func (aQ "law" "law" (Ak K6) (Ai K6) (Af K6) .none kV35 dc35 pm35 an35 cd35 ct35),sl35⟩) (c35:bH K cd35 "law" = true) (k35:aV K (.ref f35)=true)
  (z_all:bU K bK "all" = some none)
  (z_enumerate:bU K bK "enumerate" = some none)
  (z_len:bU K bK "len" = some none)
  (z_range:bU K bK "range" = some none)
  (z_set:bU K bK "set" = some none)
  (z_sorted:bU K bK "sorted" = some none)
  (z_sum:bU K bK "sum" = some none)
  (z_tuple:bU K bK "tuple" = some none)
  (z_zip:bU K bK "zip" = some none) :
  ∃ fd:bT,(∀ (s:aG) (v:aC),pV s fd ⟨[v],[]⟩ [("script",v)])/\∀ base:Heap,K.In base->base.Ns bK mg->FnOk l.prog w K mg base CX0 6 fa fd ["script"] (spF K 1 Va):=by
 have e:=hfa.symm.trans (cQ X G a35)
 cases e
 have F0:=Bm (st:=Bu) l0 c0 k0
 have b0:=F0.binds (ps:=["self"]) fun _ _ _ _ _ _=>Eb (fun _=>rfl)
 have F1:=Bm (st:=Fg) l1 c1 k1
 have b1:=F1.binds (ps:=["point"]) fun _ _ _ _ _ _=>Eb (fun _=>rfl)
 have F2:=Bm (st:=Bn) l2 c2 k2
 have b2:=F2.binds (ps:=["self"]) fun _ _ _ _ _ _=>Eb (fun _=>rfl)
 have F3:=Bm (st:=D6) l3 c3 k3
 have b3:=F3.binds (ps:=["one","other"]) fun _ _ _ _ _ _=>G7 (fun _ _=>rfl)
 have F4:=Bm (st:=D1) l4 c4 k4
 have b4:=F4.binds (ps:=["places","place"]) fun _ _ _ _ _ _=>G7 (fun _ _=>rfl)
 have F5:=Bm (st:=A0) l5 c5 k5
 have b5:=F5.binds (ps:=["self","x","y"]) fun _ _ _ _ _ _=>Kh (fun _ _ _=>rfl)
 have kp5_0:=Cv (K:=K) (fd:=aQ "above_now" "KeptPoints.above_now" (Ak A0) (Ai A0) (Af A0) .none kV5 dc5 pm5 an5 cd5 ct5) (p := "self") (ps:=["x","y"]) (ks:=["x","y"]) (m:=1) (n:=2) (π:=[0,1]) (by refine Eb ?_;intro _;exact G7 (fun _ _=>rfl))
 have F6:=Bm (st:=D4) l6 c6 k6
 have b6:=F6.binds (ps:=["places","place"]) fun _ _ _ _ _ _=>G7 (fun _ _=>rfl)
 have F7:=Bm (st:=A7) l7 c7 k7
 have b7:=F7.binds (ps:=["self","x","y"]) fun _ _ _ _ _ _=>Kh (fun _ _ _=>rfl)
 have kp7_0:=Cv (K:=K) (fd:=aQ "below_now" "KeptPoints.below_now" (Ak A7) (Ai A7) (Af A7) .none kV7 dc7 pm7 an7 cd7 ct7) (p := "self") (ps:=["x","y"]) (ks:=["y","x"]) (m:=1) (n:=2) (π:=[1,0]) (by refine Eb ?_;intro _;exact G7 (fun _ _=>rfl))
 have F8:=Bm (st:=Bp) l8 c8 k8
 have b8:=F8.binds (ps:=["self"]) fun _ _ _ _ _ _=>Eb (fun _=>rfl)
 have F9:=Bm (st:=Gj) l9 c9 k9
 have b9:=F9.binds (ps:=["point","box"]) fun _ _ _ _ _ _=>G7 (fun _ _=>rfl)
 have F10:=Bm (st:=Eg) l10 c10 k10
 have b10:=F10.binds (ps:=["points","box"]) fun _ _ _ _ _ _=>G7 (fun _ _=>rfl)
 have F11:=Bm (st:=De) l11 c11 k11
 have b11:=F11.binds (ps:=["points","boxes"]) fun _ _ _ _ _ _=>G7 (fun _ _=>rfl)
 have kp11_0:=Cv (K:=K) (fd:=aQ "in_boxes" "in_boxes" (Ak De) (Ai De) (Af De) .none kV11 dc11 pm11 an11 cd11 ct11) (p := "points") (ps:=["boxes"]) (ks:=["boxes","points"]) (m:=0) (n:=2) (π:=[1,0]) (by refine Aau ?_;exact G7 (fun _ _=>rfl))
 have F12:=Bm (st:=Bc) l12 c12 k12
 have b12:=F12.binds (ps:=["self","box"]) fun _ _ _ _ _ _=>G7 (fun _ _=>rfl)
 have kp12_0:=Cv (K:=K) (fd:=aQ "box_now" "KeptPoints.box_now" (Ak Bc) (Ai Bc) (Af Bc) .none kV12 dc12 pm12 an12 cd12 ct12) (p := "self") (ps:=["box"]) (ks:=["box"]) (m:=1) (n:=1) (π:=[0]) (by refine Eb ?_;intro _;exact Eb (fun _=>rfl))
 have F13:=Bm (st:=Bt) l13 c13 k13
 have b13:=F13.binds (ps:=["self","name"]) fun _ _ _ _ _ _=>G7 (fun _ _=>rfl)
 have F14:=Bm (st:=Ax) l14 c14 k14
 have b14:=F14.binds (ps:=["self","name","x","y"]) fun _ _ _ _ _ _=>An4 (fun _ _ _ _=>rfl)
 have kp14_0:=Cv (K:=K) (fd:=aQ "move_point" "KeptPoints.move_point" (Ak Ax) (Ai Ax) (Af Ax) .none kV14 dc14 pm14 an14 cd14 ct14) (p := "self") (ps:=["name","x","y"]) (ks:=["x","y","name"]) (m:=1) (n:=3) (π:=[2,0,1]) (by refine Eb ?_;intro _;exact Kh (fun _ _ _=>rfl))
 have F15:=Bm (st:=Ap) l15 c15 k15
 have b15:=F15.binds (ps:=["self","name","x","y"]) fun _ _ _ _ _ _=>An4 (fun _ _ _ _=>rfl)
 have kp15_0:=Cv (K:=K) (fd:=aQ "put_point" "KeptPoints.put_point" (Ak Ap) (Ai Ap) (Af Ap) .none kV15 dc15 pm15 an15 cd15 ct15) (p := "self") (ps:=["name","x","y"]) (ks:=["name","y","x"]) (m:=1) (n:=3) (π:=[0,2,1]) (by refine Eb ?_;intro _;exact Kh (fun _ _ _=>rfl))
 have kp15_1:=Cv (K:=K) (fd:=aQ "put_point" "KeptPoints.put_point" (Ak Ap) (Ai Ap) (Af Ap) .none kV15 dc15 pm15 an15 cd15 ct15) (p := "self") (ps:=["name","x","y"]) (ks:=["y","x","name"]) (m:=1) (n:=3) (π:=[2,1,0]) (by refine Eb ?_;intro _;exact Kh (fun _ _ _=>rfl))
 have F16:=Bm (st:=Ay) l16 c16 k16
 have b16:=F16.binds (ps:=["self","name"]) fun _ _ _ _ _ _=>G7 (fun _ _=>rfl)
 have kp16_0:=Cv (K:=K) (fd:=aQ "take_point" "KeptPoints.take_point" (Ak Ay) (Ai Ay) (Af Ay) .none kV16 dc16 pm16 an16 cd16 ct16) (p := "self") (ps:=["name"]) (ks:=["name"]) (m:=1) (n:=1) (π:=[0]) (by refine Eb ?_;intro _;exact Eb (fun _=>rfl))
 have F17:=Bm (st:=C2) l17 c17 k17
 have b17:=F17.binds (ps:=["points","x","y"]) fun _ _ _ _ _ _=>Kh (fun _ _ _=>rfl)
 have kp17_0:=Cv (K:=K) (fd:=aQ "in_corner" "in_corner" (Ak C2) (Ai C2) (Af C2) .none kV17 dc17 pm17 an17 cd17 ct17) (p := "points") (ps:=["x","y"]) (ks:=["y","x","points"]) (m:=0) (n:=3) (π:=[2,1,0]) (by refine Aau ?_;exact Kh (fun _ _ _=>rfl))
 have F18:=Bm (st:=Gk) l18 c18 k18
 have b18:=F18.binds (ps:=["points","place"]) fun _ _ _ _ _ _=>G7 (fun _ _=>rfl)
 have F19:=Bm (st:=Df) l19 c19 k19
 have b19:=F19.binds (ps:=["points","box","place"]) fun _ _ _ _ _ _=>Kh (fun _ _ _=>rfl)
 have kp19_0:=Cv (K:=K) (fd:=aQ "nth_by_x" "nth_by_x" (Ak Df) (Ai Df) (Af Df) .none kV19 dc19 pm19 an19 cd19 ct19) (p := "points") (ps:=["box","place"]) (ks:=["place","box","points"]) (m:=0) (n:=3) (π:=[2,1,0]) (by refine Aau ?_;exact Kh (fun _ _ _=>rfl))
 have F20:=Bm (st:=Cg) l20 c20 k20
 have b20:=F20.binds (ps:=["point"]) fun _ _ _ _ _ _=>Eb (fun _=>rfl)
 have F21:=Bm (st:=Di) l21 c21 k21
 have b21:=F21.binds (ps:=["points","box","place"]) fun _ _ _ _ _ _=>Kh (fun _ _ _=>rfl)
 have kp21_0:=Cv (K:=K) (fd:=aQ "nth_by_y" "nth_by_y" (Ak Di) (Ai Di) (Af Di) .none kV21 dc21 pm21 an21 cd21 ct21) (p := "points") (ps:=["box","place"]) (ks:=["place","box","points"]) (m:=0) (n:=3) (π:=[2,1,0]) (by refine Aau ?_;exact Kh (fun _ _ _=>rfl))
 have F22:=Bm (st:=El) l22 c22 k22
 have b22:=F22.binds (ps:=["points","weights"]) fun _ _ _ _ _ _=>G7 (fun _ _=>rfl)
 have F23:=Bm (st:=Co) l23 c23 k23
 have b23:=F23.binds (ps:=["points","boxes","weights"]) fun _ _ _ _ _ _=>Kh (fun _ _ _=>rfl)
 have kp23_0:=Cv (K:=K) (fd:=aQ "weights_in" "weights_in" (Ak Co) (Ai Co) (Af Co) .none kV23 dc23 pm23 an23 cd23 ct23) (p := "points") (ps:=["boxes","weights"]) (ks:=["weights","boxes","points"]) (m:=0) (n:=3) (π:=[2,1,0]) (by refine Aau ?_;exact Kh (fun _ _ _=>rfl))
 have F24:=Bm (st:=Cw) l24 c24 k24
 have b24:=F24.binds (ps:=["far"]) fun _ _ _ _ _ _=>Eb (fun _=>rfl)
 have F25:=Bm (st:=Bh) l25 c25 k25
 have b25:=F25.binds (ps:=["self","many"]) fun _ _ _ _ _ _=>G7 (fun _ _=>rfl)
 have kp25_0:=Cv (K:=K) (fd:=aQ "__init__" "SumTree.__init__" (Ak Bh) (Ai Bh) (Af Bh) .none kV25 dc25 pm25 an25 cd25 ct25) (p := "self") (ps:=["many"]) (ks:=["many"]) (m:=1) (n:=1) (π:=[0]) (by refine Eb ?_;intro _;exact Eb (fun _=>rfl))
 have F26:=Bm (st:=D2) l26 c26 k26
 have b26:=F26.binds (ps:=["number"]) fun _ _ _ _ _ _=>Eb (fun _=>rfl)
 have F27:=Bm (st:=A8) l27 c27 k27
 have b27:=F27.binds (ps:=["self","many"]) fun _ _ _ _ _ _=>G7 (fun _ _=>rfl)
 have kp27_0:=Cv (K:=K) (fd:=aQ "sum_of_first" "SumTree.sum_of_first" (Ak A8) (Ai A8) (Af A8) .none kV27 dc27 pm27 an27 cd27 ct27) (p := "self") (ps:=["many"]) (ks:=["many"]) (m:=1) (n:=1) (π:=[0]) (by refine Eb ?_;intro _;exact Eb (fun _=>rfl))
 have F28:=Bm (st:=Bb) l28 c28 k28
 have b28:=F28.binds (ps:=["self","number"]) fun _ _ _ _ _ _=>G7 (fun _ _=>rfl)
 have kp28_0:=Cv (K:=K) (fd:=aQ "least_many" "SumTree.least_many" (Ak Bb) (Ai Bb) (Af Bb) .none kV28 dc28 pm28 an28 cd28 ct28) (p := "self") (ps:=["number"]) (ks:=["number"]) (m:=1) (n:=1) (π:=[0]) (by refine Eb ?_;intro _;exact Eb (fun _=>rfl))
 have F29:=Bm (st:=B2) l29 c29 k29
 have b29:=F29.binds (ps:=["self","place"]) fun _ _ _ _ _ _=>G7 (fun _ _=>rfl)
 have F30:=Bm (st:=A9) l30 c30 k30
 have b30:=F30.binds (ps:=["self","first","last"]) fun _ _ _ _ _ _=>Kh (fun _ _ _=>rfl)
 have kp30_0:=Cv (K:=K) (fd:=aQ "sum_from_to" "SumTree.sum_from_to" (Ak A9) (Ai A9) (Af A9) .none kV30 dc30 pm30 an30 cd30 ct30) (p := "self") (ps:=["first","last"]) (ks:=["last","first"]) (m:=1) (n:=2) (π:=[1,0]) (by refine Eb ?_;intro _;exact G7 (fun _ _=>rfl))
 have F31:=Bm (st:=Bd) l31 c31 k31
 have b31:=F31.binds (ps:=["self","place"]) fun _ _ _ _ _ _=>G7 (fun _ _=>rfl)
 have kp31_0:=Cv (K:=K) (fd:=aQ "number_at" "SumTree.number_at" (Ak Bd) (Ai Bd) (Af Bd) .none kV31 dc31 pm31 an31 cd31 ct31) (p := "self") (ps:=["place"]) (ks:=["place"]) (m:=1) (n:=1) (π:=[0]) (by refine Eb ?_;intro _;exact Eb (fun _=>rfl))
 have F32:=Bm (st:=Br) l32 c32 k32
 have b32:=F32.binds (ps:=["self","place","number"]) fun _ _ _ _ _ _=>Kh (fun _ _ _=>rfl)
 have kp32_0:=Cv (K:=K) (fd:=aQ "put_to" "SumTree.put_to" (Ak Br) (Ai Br) (Af Br) .none kV32 dc32 pm32 an32 cd32 ct32) (p := "self") (ps:=["place","number"]) (ks:=["number","place"]) (m:=1) (n:=2) (π:=[1,0]) (by refine Eb ?_;intro _;exact G7 (fun _ _=>rfl))
 have F33:=Bm (st:=C5) l33 c33 k33
 have b33:=F33.binds (ps:=["numbers"]) fun _ _ _ _ _ _=>Eb (fun _=>rfl)
 have kb33:=Agc (K:=K) (fd:=aQ "places_of" "places_of" (Ak C5) (Ai C5) (Af C5) .none kV33 dc33 pm33 an33 cd33 ct33) (p := "numbers") (ps:=[]) (Eb (fun _=>rfl))
 have F34:=Bm (st:=C9) l34 c34 k34
 have b34:=F34.binds (ps:=["far"]) fun _ _ _ _ _ _=>Eb (fun _=>rfl)
 have F35:=Bm (st:=K6) l35 c35 k35
 have b35:=F35.binds (ps:=["script"]) fun _ _ _ _ _ _=>Eb (fun _=>rfl)
 let C:Defs K mg:={ ue:=_,uf:=_,ug:=F0,uh:=b0,xW:=⟨mk_KeptPoints,a0,i0,kc_KeptPoints⟩,xX:=cQ X G aC_KeptPoints,ui:=_,uj:=_,uk:=F1,ul:=b1,um:=cQ X G a1,uo:=_,uq:=_,ur:=F2,ut:=b2,uu:=⟨a2,i2,k2⟩,uv:=_,uw:=_,ux:=F3,uy:=b3,uz:=cQ X G a3,uA:=_,uB:=_,uC:=F4,uD:=b4,uE:=cQ X G a4,xE:=kp5_0,uF:=_,uG:=_,uH:=F5,uI:=b5,uJ:=⟨a5,i5,k5⟩,uK:=_,uL:=_,uM:=F6,uN:=b6,uO:=cQ X G a6,xF:=kp7_0,uP:=_,uQ:=_,uR:=F7,uS:=b7,uT:=⟨a7,i7,k7⟩,uU:=_,uV:=_,uW:=F8,uX:=b8,uY:=⟨a8,i8,k8⟩,uZ:=_,u4:=_,u5:=F9,u6:=b9,u7:=cQ X G a9,u8:=_,u9:=_,va:=F10,vb:=b10,vc:=cQ X G a10,xG:=kp11_0,vd:=_,ve:=_,vf:=F11,vg:=b11,vh:=cQ X G a11,xH:=kp12_0,vi:=_,vj:=_,vk:=F12,vm:=b12,vn:=⟨a12,i12,k12⟩,vo:=_,vp:=_,vq:=F13,vt:=b13,vv:=⟨a13,i13,k13⟩,xI:=kp14_0,vw:=_,vx:=_,vy:=F14,vz:=b14,vA:=⟨a14,i14,k14⟩,xJ:=kp15_0,xK:=kp15_1,vB:=_,vC:=_,vD:=F15,vE:=b15,vF:=⟨a15,i15,k15⟩,xL:=kp16_0,vG:=_,vH:=_,vI:=F16,vJ:=b16,vK:=⟨a16,i16,k16⟩,xM:=kp17_0,vL:=_,vM:=_,vN:=F17,vO:=b17,vP:=cQ X G a17,vQ:=_,vR:=_,vS:=F18,vT:=b18,vU:=cQ X G a18,xN:=kp19_0,vV:=_,vW:=_,vX:=F19,vY:=b19,vZ:=cQ X G a19,v1:=_,v3:=_,v4:=F20,v5:=b20,v6:=cQ X G a20,xO:=kp21_0,v7:=_,v8:=_,v9:=F21,wa:=b21,wb:=cQ X G a21,wc:=_,wd:=_,we:=F22,wf:=b22,wg:=cQ X G a22,xP:=kp23_0,wj:=_,wk:=_,wm:=F23,wn:=b23,wo:=cQ X G a23,wq:=_,wt:=_,wu:=F24,wv:=b24,ww:=cQ X G a24,xQ:=kp25_0,wx:=_,wy:=_,wz:=F25,wA:=b25,xY:=⟨mk_SumTree,a25,i25,kc_SumTree⟩,xZ:=cQ X G aC_SumTree,wB:=_,wC:=_,wD:=F26,wE:=b26,wF:=cQ X G a26,xR:=kp27_0,wG:=_,wH:=_,wI:=F27,wJ:=b27,wK:=⟨a27,i27,k27⟩,xS:=kp28_0,wL:=_,wM:=_,wN:=F28,wO:=b28,wP:=⟨a28,i28,k28⟩,wQ:=_,wR:=_,wS:=F29,wT:=b29,wU:=⟨a29,i29,k29⟩,xT:=kp30_0,wV:=_,wW:=_,wX:=F30,wY:=b30,wZ:=⟨a30,i30,k30⟩,xU:=kp31_0,w9:=_,xa:=_,xb:=F31,xc:=b31,xf:=⟨a31,i31,k31⟩,xV:=kp32_0,xg:=_,xh:=_,xi:=F32,xj:=b32,xk:=⟨a32,i32,k32⟩,xl:=_,xm:=_,xn:=F33,xo:=b33,xp:=cQ X G a33,xq:=kb33,xt:=_,xu:=_,xw:=F34,xx:=b34,xy:=cQ X G a34,xz:=_,xA:=_,xB:=F35,xC:=b35,xD:=cQ X G a35,ua:=_,ub:=⟨aC_KeptPoints,⟨pg_KeptPoints,hd_KeptPoints,po_KeptPoints,sa_KeptPoints⟩⟩,uc:=_,ud:=⟨aC_SumTree,⟨pg_SumTree,hd_SumTree,po_SumTree,sa_SumTree⟩⟩,x0:=nf_KeptPoints_points,x3:=nf_SumTree_cells,x4:=nf_SumTree_many,x5:=eF X G z_all,x6:=eF X G z_enumerate,x8:=eF X G z_len,x9:=eF X G z_range,ya:=eF X G z_set,yb:=eF X G z_sorted,yc:=eF X G z_sum,yd:=eF X G z_tuple,ye:=eF X G z_zip }
 refine ⟨aQ "law" "law" (Ak K6) (Ai K6) (Af K6) .none kV35 dc35 pm35 an35 cd35 ct35,fun s v=>.of_eq rfl,fun base _ _=>?_⟩
 exact Alu C
noncomputable section
variable (P:pK)
abbrev fn(a b:Str)(s:Stmt)(dV kV d p:aC)(n:Option Addr)(c t:aC):bT:=aQ a b (Ak s) (Ai s) (Af s) dV kV d p n c t
abbrev zf(a b:Str)(s:Stmt)(p c:aC):Obj:=⟨.type "function",none,.func (fn a b s .none .none .none p none c .none),#[]⟩
abbrev zx(a b:Str)(s:Stmt):Obj:=⟨.none,none,.func ⟨a,b,Ak s,.stmts (Ai s),Af s,0,[],.none,.none,.none,.none,none,.none,.none,0⟩,#[]⟩
abbrev zi(n:Int):aC:=.int n 0
abbrev zr(a:Addr):aC:=.ref a
abbrev zs(a:Str)(n:Nat):aC:=.str a n
abbrev zc(l:List aC):Obj:=⟨.type "code",none,.fields l.toArray,#[]⟩
abbrev zt(l:List aC):Obj:=⟨.type "tuple",none,.seq l.toArray 0,#[]⟩
abbrev zl(l:List aC):Obj:=⟨.none,none,.fields l.toArray,#[]⟩
abbrev zd(l:List DictEntry)(n:Nat):Obj:=⟨.type "dict",none,.dict l.toArray n,#[]⟩
abbrev zn(o:Obj)(l r:kP):kP:=.node o l r
abbrev zg(o:Obj):kP:=.node o .nil .nil
abbrev de(s:Str)(n:Nat)(v:aC):DictEntry:=⟨tH.keyHash P s,.str s n,v⟩
noncomputable def zo1:Obj:=zd [de P "builtins" 162 (zr 4),de P "__main__" 163 (zr 5)] 2
noncomputable def zo2:Obj:=⟨.none,none,(.dict #[] 0),#[]⟩
noncomputable def zo4:Obj:=⟨(.type "module"),(some 0),.plain,#[]⟩
noncomputable def zo5:Obj:=⟨(.type "module"),(some 3),.plain,#[]⟩
noncomputable def zo6:Obj:=zd [] 0
noncomputable def zo7:Obj:=zt []
noncomputable def zo8:Obj:=zl []
noncomputable def zo9:Obj:=zc [(zs "<module>" 176),(zs "<module>" 177),(zs "/claim/cut.py" 178),(zi 1),(zi 0),(zi 0),(zi 0),(zi 0),(zr 7),(.bool false),(zi 175),(zr 8),.none,.none,.none,.none,(zi 179),(zi 1),(zs "/claim/cut.py" 180)]
noncomputable def zo10:Obj:=⟨(.type "frame"),none,.plain,#[(some (zr 9)),(some (zr 3)),(some (zr 3)),none,(some (zs "__main__" 164)),none,(some (zr 0))]⟩
noncomputable def Aap:Obj:=zc [(zs "<module>" 182),(zs "<module>" 183),(zs "/claim/cut.py" 184),(zi 1),(zi 0),(zi 0),(zi 0),(zi 0),(zr 11),(.bool false),(zi 181),(zr 12),.none,.none,.none,.none,(zi 185),(zi 1),(zs "/claim/cut.py" 186)]
noncomputable def zo12:Obj:=⟨(.type "frame"),none,.plain,#[(some (zr 13)),(some (zr 3)),(some (zr 3)),none,(some (zs "__main__" 164)),none,(some (zr 0))]⟩
noncomputable def Aqc:Obj:=zd [de P "__name__" 165 (zs "belowpoints.heaps.boxes" 292),de P "__doc__" 166 .none,de P "__package__" 167 .none,de P "__loader__" 168 (.builtin "__main__.__loader__#opaque"),de P "__spec__" 169 .none,de P "__annotations__" 170 (zr 6),de P "__builtins__" 171 (zr 4),de P "__file__" 173 (zs "/claim/cut.py" 172),de P "__cached__" 174 .none,de P "_wall" 193 (zr 21),de P "BelowError" 213 (zr 31),de P "NoPlace" 237 (zr 51),de P "NoName" 262 (zr 70),de P "lies_below" 270 (zr 77),de P "place_of" 277 (zr 84),de P "many_below" 285 (zr 89),de P "many_above" 291 (zr 94),de P "in_corner" 299 (zr 99),de P "in_boxes" 305 (zr 104)] 19
noncomputable def Aqn:Obj:=zl [(zi 1),(zi 0),(zr 20),(zi 5),(zi 0),(zr 27),(zi 7),(zi 0),(zr 40),(zi 11),(zi 0),(zr 59),(zi 17),(zi 0),(zr 76),(zi 19),(zi 0),(zr 83),(zi 22),(zi 0),(zr 88),(zi 24),(zi 0),(zr 93),(zi 27),(zi 0),(zr 98),(zi 29),(zi 0),(zr 103)]
noncomputable def Agb:Obj:=zt [(zs "k" 190)]
noncomputable def Aib:Obj:=zx "_wall" "_wall" (top 0)
noncomputable def zo17:Obj:=zc [(zs "_wall" 187),(zs "_wall" 188),(zs "/claim/cut.py" 189),(zi 1),(zi 1),(zi 0),(zi 0),(zi 3),(zr 15),(.bool true),(zi 181),(zr 16),.none,(zr 17),(zr 18),(zr 19),(zi 191),(zi 1),(zs "/claim/cut.py" 192)]
noncomputable def Ag5:Obj:=zf "_wall" "_wall" (top 0) (zs "__main__" 164) (zr 20)
noncomputable def zo19:Obj:=zt [(.type "ValueError")]
noncomputable def zo20:Obj:=⟨(.type "builtin_function_or_method"),none,(.fields #[(.builtin "type.__prepare__"),(.type "type")]),#[]⟩
noncomputable def Ael:Obj:=zd [de P "__module__" 203 (zs "belowpoints.errors" 194),de P "__qualname__" 205 (zs "BelowError" 204),de P "__firstlineno__" 207 (.int 5 206),de P "__static_attributes__" 208 (zr 29)] 4
noncomputable def zo22:Obj:=zc [(zs "BelowError" 198),(zs "BelowError" 199),(zs "/claim/cut.py" 200),(zi 5),(zi 0),(zi 0),(zi 0),(zi 0),(zr 25),(.bool false),(zi 181),(zr 26),.none,.none,.none,.none,(zi 201),(zi 5),(zs "/claim/cut.py" 202)]
noncomputable def Af7:Obj:=⟨(.type "frame"),none,.plain,#[(some (zr 27)),(some (zr 3)),(some (zr 24)),none,(some (zs "belowpoints.errors" 194)),none,(some (zr 0))]⟩
noncomputable def Aca:Obj:=zd [de P "__module__" 203 (zs "belowpoints.errors" 194),de P "__firstlineno__" 207 (.int 5 206),de P "__static_attributes__" 208 (zr 29),de P "__weakref__" 210 (zr 32),de P "__doc__" 211 .none] 3
noncomputable def zo25:Obj:=⟨(.type "type"),none,(.cls ⟨"BelowError",[(.type "ValueError")],[(zr 31),(.type "ValueError"),(.type "Exception"),(.type "BaseException"),(.type "object")],30,"BelowError",true,[],[(zr 51),(zr 70)],false,none,false⟩),#[(some (zr 22)),none,(some (zs "BelowError" 196)),(some (zs "BelowError" 204)),(some (.builtin "ValueError.__new__")),(some (.bool true))]⟩
noncomputable def Aga:Obj:=⟨(.type "getset_descriptor"),none,(.fields #[(zs "__weakref__" 209),(zr 31),(.builtin "ExceptionGroup.__weakref__"),.none]),#[]⟩
noncomputable def zo27:Obj:=⟨(.type "super"),none,(.fields #[(zr 31),(zr 31),(zr 31)]),#[]⟩
noncomputable def Agy:Obj:=⟨(.type "builtin_function_or_method"),none,(.fields #[(.builtin "object.__init_subclass__"),(zr 31)]),#[]⟩
noncomputable def zo29:Obj:=zt [(zr 31)]
noncomputable def Adw:Obj:=zd [de P "__module__" 221 (zs "belowpoints.errors" 194),de P "__qualname__" 223 (zs "NoPlace" 222),de P "__firstlineno__" 225 (.int 7 224),de P "__init__" 233 (zr 48),de P "__static_attributes__" 234 (zr 49)] 5
noncomputable def Ahs:Obj:=zl [(zi 9),(zi 4),(zr 47)]
noncomputable def zo32:Obj:=zc [(zs "NoPlace" 216),(zs "NoPlace" 217),(zs "/claim/cut.py" 218),(zi 7),(zi 0),(zi 0),(zi 0),(zi 0),(zr 38),(.bool false),(zi 181),(zr 39),.none,.none,.none,.none,(zi 219),(zi 7),(zs "/claim/cut.py" 220)]
noncomputable def Aio:Obj:=⟨(.type "frame"),none,.plain,#[(some (zr 40)),(some (zr 3)),(some (zr 37)),none,(some (zs "belowpoints.errors" 194)),none,(some (zr 0))]⟩
noncomputable def zo34:Obj:=zt [(zs "self" 229),(zs "text" 230)]
noncomputable def zo35:Obj:=zx "__init__" "NoPlace.__init__" (Am (top 3) 0)
noncomputable def Agx:Obj:=zc [(zs "__init__" 226),(zs "NoPlace.__init__" 227),(zs "/claim/cut.py" 228),(zi 9),(zi 2),(zi 0),(zi 0),(zi 3),(zr 42),(.bool true),(zi 181),(zr 43),.none,(zr 44),(zr 45),(zr 46),(zi 231),(zi 9),(zs "/claim/cut.py" 232)]
noncomputable def zo37:Obj:=zf "__init__" "NoPlace.__init__" (Am (top 3) 0) (zs "belowpoints.errors" 194) (zr 47)
noncomputable def Afz:Obj:=zd [de P "__module__" 221 (zs "belowpoints.errors" 194),de P "__firstlineno__" 225 (.int 7 224),de P "__init__" 233 (zr 48),de P "__static_attributes__" 234 (zr 49),de P "__doc__" 235 .none] 2
noncomputable def zo39:Obj:=⟨(.type "type"),none,(.cls ⟨"NoPlace",[(zr 31)],[(zr 51),(zr 31),(.type "ValueError"),(.type "Exception"),(.type "BaseException"),(.type "object")],50,"NoPlace",true,[],[],false,none,false⟩),#[(some (zr 35)),none,(some (zs "NoPlace" 214)),(some (zs "NoPlace" 222)),(some (.builtin "ValueError.__new__")),(some (.bool true))]⟩
noncomputable def Aha:Obj:=⟨(.type "super"),none,(.fields #[(zr 51),(zr 51),(zr 51)]),#[]⟩
noncomputable def zo41:Obj:=⟨(.type "builtin_function_or_method"),none,(.fields #[(.builtin "object.__init_subclass__"),(zr 51)]),#[]⟩
noncomputable def Ae8:Obj:=zd [de P "__module__" 245 (zs "belowpoints.errors" 194),de P "__qualname__" 247 (zs "NoName" 246),de P "__firstlineno__" 249 (.int 11 248),de P "__init__" 257 (zr 67),de P "__static_attributes__" 259 (zr 68)] 5
noncomputable def Ahc:Obj:=zl [(zi 13),(zi 4),(zr 66)]
noncomputable def zo44:Obj:=zc [(zs "NoName" 240),(zs "NoName" 241),(zs "/claim/cut.py" 242),(zi 11),(zi 0),(zi 0),(zi 0),(zi 0),(zr 57),(.bool false),(zi 181),(zr 58),.none,.none,.none,.none,(zi 243),(zi 11),(zs "/claim/cut.py" 244)]
noncomputable def Aia:Obj:=⟨(.type "frame"),none,.plain,#[(some (zr 59)),(some (zr 3)),(some (zr 56)),none,(some (zs "belowpoints.errors" 194)),none,(some (zr 0))]⟩
noncomputable def zo46:Obj:=zt [(zs "self" 253),(zs "word" 254)]
noncomputable def zo47:Obj:=zx "__init__" "NoName.__init__" (Am (top 4) 0)
noncomputable def Ahn:Obj:=zc [(zs "__init__" 250),(zs "NoName.__init__" 251),(zs "/claim/cut.py" 252),(zi 13),(zi 2),(zi 0),(zi 0),(zi 3),(zr 61),(.bool true),(zi 181),(zr 62),.none,(zr 63),(zr 64),(zr 65),(zi 255),(zi 13),(zs "/claim/cut.py" 256)]
noncomputable def zo49:Obj:=zf "__init__" "NoName.__init__" (Am (top 4) 0) (zs "belowpoints.errors" 194) (zr 66)
noncomputable def Aji:Obj:=zt [(zs "word" 258)]
noncomputable def Aeo:Obj:=zd [de P "__module__" 245 (zs "belowpoints.errors" 194),de P "__firstlineno__" 249 (.int 11 248),de P "__init__" 257 (zr 67),de P "__static_attributes__" 259 (zr 68),de P "__doc__" 260 .none] 2
noncomputable def zo52:Obj:=⟨(.type "type"),none,(.cls ⟨"NoName",[(zr 31)],[(zr 70),(zr 31),(.type "ValueError"),(.type "Exception"),(.type "BaseException"),(.type "object")],69,"NoName",true,[],[],false,none,false⟩),#[(some (zr 54)),none,(some (zs "NoName" 238)),(some (zs "NoName" 246)),(some (.builtin "ValueError.__new__")),(some (.bool true))]⟩
noncomputable def Ahk:Obj:=⟨(.type "super"),none,(.fields #[(zr 70),(zr 70),(zr 70)]),#[]⟩
noncomputable def zo54:Obj:=⟨(.type "builtin_function_or_method"),none,(.fields #[(.builtin "object.__init_subclass__"),(zr 70)]),#[]⟩
noncomputable def Agn:Obj:=zx "lies_below" "lies_below" (top 6)
noncomputable def zo56:Obj:=zc [(zs "lies_below" 265),(zs "lies_below" 266),(zs "/claim/cut.py" 267),(zi 17),(zi 2),(zi 0),(zi 0),(zi 3),(zr 73),(.bool true),(zi 181),(zr 74),.none,.none,.none,(zr 75),(zi 268),(zi 17),(zs "/claim/cut.py" 269)]
noncomputable def Ad4:Obj:=zf "lies_below" "lies_below" (top 6) (zs "belowpoints.heaps.texts" 263) (zr 76)
noncomputable def zo58:Obj:=zt [(zs "point" 274)]
noncomputable def zo59:Obj:=zx "place_of" "place_of" (top 7)
noncomputable def Aez:Obj:=zc [(zs "place_of" 271),(zs "place_of" 272),(zs "/claim/cut.py" 273),(zi 19),(zi 1),(zi 0),(zi 0),(zi 3),(zr 78),(.bool true),(zi 181),(zr 79),.none,(zr 80),(zr 81),(zr 82),(zi 275),(zi 19),(zs "/claim/cut.py" 276)]
noncomputable def zo61:Obj:=zf "place_of" "place_of" (top 7) (zs "belowpoints.heaps.texts" 263) (zr 83)
noncomputable def Aik:Obj:=zx "many_below" "many_below" (top 9)
noncomputable def zo63:Obj:=zc [(zs "many_below" 280),(zs "many_below" 281),(zs "/claim/cut.py" 282),(zi 22),(zi 2),(zi 0),(zi 0),(zi 3),(zr 85),(.bool true),(zi 181),(zr 86),.none,.none,.none,(zr 87),(zi 283),(zi 22),(zs "/claim/cut.py" 284)]
noncomputable def Adm:Obj:=zf "many_below" "many_below" (top 9) (zs "belowpoints.counts.pairs" 278) (zr 88)
noncomputable def zo65:Obj:=zx "many_above" "many_above" (top 10)
noncomputable def Adl:Obj:=zc [(zs "many_above" 286),(zs "many_above" 287),(zs "/claim/cut.py" 288),(zi 24),(zi 2),(zi 0),(zi 0),(zi 3),(zr 90),(.bool true),(zi 181),(zr 91),.none,.none,.none,(zr 92),(zi 289),(zi 24),(zs "/claim/cut.py" 290)]
noncomputable def zo67:Obj:=zf "many_above" "many_above" (top 10) (zs "belowpoints.counts.pairs" 278) (zr 93)
noncomputable def Ahu:Obj:=zx "in_corner" "in_corner" (top 12)
noncomputable def zo69:Obj:=zc [(zs "in_corner" 294),(zs "in_corner" 295),(zs "/claim/cut.py" 296),(zi 27),(zi 3),(zi 0),(zi 0),(zi 3),(zr 95),(.bool true),(zi 181),(zr 96),.none,.none,.none,(zr 97),(zi 297),(zi 27),(zs "/claim/cut.py" 298)]
noncomputable def Ac2:Obj:=zf "in_corner" "in_corner" (top 12) (zs "belowpoints.heaps.boxes" 292) (zr 98)
noncomputable def zo71:Obj:=zx "in_boxes" "in_boxes" (top 13)
noncomputable def Afn:Obj:=zc [(zs "in_boxes" 300),(zs "in_boxes" 301),(zs "/claim/cut.py" 302),(zi 29),(zi 2),(zi 0),(zi 0),(zi 3),(zr 100),(.bool true),(zi 181),(zr 101),.none,.none,.none,(zr 102),(zi 303),(zi 29),(zs "/claim/cut.py" 304)]
noncomputable def zo73:Obj:=zf "in_boxes" "in_boxes" (top 13) (zs "belowpoints.heaps.boxes" 292) (zr 103)
noncomputable def Aq0:Obj:=zd [de P "__name__" 165 (zs "belowpoints.counts.sums" 477),de P "__doc__" 166 .none,de P "__package__" 167 .none,de P "__loader__" 168 (.builtin "__main__.__loader__#opaque"),de P "__spec__" 169 .none,de P "__annotations__" 170 (zr 6),de P "__builtins__" 171 (zr 4),de P "__file__" 173 (zs "/claim/cut.py" 172),de P "__cached__" 174 .none,de P "_wall" 193 (zr 21),de P "BelowError" 213 (zr 31),de P "NoPlace" 237 (zr 51),de P "NoName" 262 (zr 70),de P "lies_below" 270 (zr 77),de P "place_of" 277 (zr 84),de P "many_below" 285 (zr 89),de P "many_above" 291 (zr 94),de P "in_corner" 299 (zr 99),de P "in_boxes" 305 (zr 104),de P "weights_in" 311 (zr 109),de P "nth_by_x" 320 (zr 116),de P "nth_by_y" 329 (zr 123),de P "points_in" 335 (zr 128),de P "is_held" 343 (zr 135),de P "weight_of" 349 (zr 140),de P "turned_place_of" 356 (zr 147),de P "name_at" 364 (zr 154),de P "KeptPoints" 476 (zr 239)] 28
noncomputable def Aqz:Obj:=zl [(zi 1),(zi 0),(zr 20),(zi 5),(zi 0),(zr 27),(zi 7),(zi 0),(zr 40),(zi 11),(zi 0),(zr 59),(zi 17),(zi 0),(zr 76),(zi 19),(zi 0),(zr 83),(zi 22),(zi 0),(zr 88),(zi 24),(zi 0),(zr 93),(zi 27),(zi 0),(zr 98),(zi 29),(zi 0),(zr 103),(zi 31),(zi 0),(zr 108),(zi 33),(zi 0),(zr 115),(zi 35),(zi 0),(zr 122),(zi 37),(zi 0),(zr 127),(zi 39),(zi 0),(zr 134),(zi 41),(zi 0),(zr 139),(zi 43),(zi 0),(zr 146),(zi 45),(zi 0),(zr 153),(zi 50),(zi 0),(zr 160)]
noncomputable def Am1:Obj:=zx "weights_in" "weights_in" (top 14)
noncomputable def zo77:Obj:=zc [(zs "weights_in" 306),(zs "weights_in" 307),(zs "/claim/cut.py" 308),(zi 31),(zi 3),(zi 0),(zi 0),(zi 3),(zr 105),(.bool true),(zi 181),(zr 106),.none,.none,.none,(zr 107),(zi 309),(zi 31),(zs "/claim/cut.py" 310)]
noncomputable def Ag0:Obj:=zf "weights_in" "weights_in" (top 14) (zs "belowpoints.heaps.boxes" 292) (zr 108)
noncomputable def zo79:Obj:=zt [(zs "points" 315),(zs "box" 316),(zs "place" 317)]
noncomputable def zo80:Obj:=zx "nth_by_x" "nth_by_x" (top 15)
noncomputable def Ahm:Obj:=zc [(zs "nth_by_x" 312),(zs "nth_by_x" 313),(zs "/claim/cut.py" 314),(zi 33),(zi 3),(zi 0),(zi 0),(zi 3),(zr 110),(.bool true),(zi 181),(zr 111),.none,(zr 112),(zr 113),(zr 114),(zi 318),(zi 33),(zs "/claim/cut.py" 319)]
noncomputable def zo82:Obj:=zf "nth_by_x" "nth_by_x" (top 15) (zs "belowpoints.heaps.boxes" 292) (zr 115)
noncomputable def Am8:Obj:=zt [(zs "points" 324),(zs "box" 325),(zs "place" 326)]
noncomputable def Ak6:Obj:=zx "nth_by_y" "nth_by_y" (top 16)
noncomputable def zo85:Obj:=zc [(zs "nth_by_y" 321),(zs "nth_by_y" 322),(zs "/claim/cut.py" 323),(zi 35),(zi 3),(zi 0),(zi 0),(zi 3),(zr 117),(.bool true),(zi 181),(zr 118),.none,(zr 119),(zr 120),(zr 121),(zi 327),(zi 35),(zs "/claim/cut.py" 328)]
noncomputable def Agd:Obj:=zf "nth_by_y" "nth_by_y" (top 16) (zs "belowpoints.heaps.boxes" 292) (zr 122)
noncomputable def zo87:Obj:=zx "points_in" "points_in" (top 17)
noncomputable def Af9:Obj:=zc [(zs "points_in" 330),(zs "points_in" 331),(zs "/claim/cut.py" 332),(zi 37),(zi 2),(zi 0),(zi 0),(zi 3),(zr 124),(.bool true),(zi 181),(zr 125),.none,.none,.none,(zr 126),(zi 333),(zi 37),(zs "/claim/cut.py" 334)]
noncomputable def zo89:Obj:=zf "points_in" "points_in" (top 17) (zs "belowpoints.heaps.boxes" 292) (zr 127)
noncomputable def Ak5:Obj:=zt [(zs "point" 339),(zs "box" 340)]
noncomputable def Akx:Obj:=zx "is_held" "is_held" (top 18)
noncomputable def zo92:Obj:=zc [(zs "is_held" 336),(zs "is_held" 337),(zs "/claim/cut.py" 338),(zi 39),(zi 2),(zi 0),(zi 0),(zi 3),(zr 129),(.bool true),(zi 181),(zr 130),.none,(zr 131),(zr 132),(zr 133),(zi 341),(zi 39),(zs "/claim/cut.py" 342)]
noncomputable def Ait:Obj:=zf "is_held" "is_held" (top 18) (zs "belowpoints.heaps.boxes" 292) (zr 134)
noncomputable def zo94:Obj:=zx "weight_of" "weight_of" (top 19)
noncomputable def Aic:Obj:=zc [(zs "weight_of" 344),(zs "weight_of" 345),(zs "/claim/cut.py" 346),(zi 41),(zi 2),(zi 0),(zi 0),(zi 3),(zr 136),(.bool true),(zi 181),(zr 137),.none,.none,.none,(zr 138),(zi 347),(zi 41),(zs "/claim/cut.py" 348)]
noncomputable def zo96:Obj:=zf "weight_of" "weight_of" (top 19) (zs "belowpoints.heaps.boxes" 292) (zr 139)
noncomputable def Aky:Obj:=zt [(zs "point" 353)]
noncomputable def Ak8:Obj:=zx "turned_place_of" "turned_place_of" (top 20)
noncomputable def zo99:Obj:=zc [(zs "turned_place_of" 350),(zs "turned_place_of" 351),(zs "/claim/cut.py" 352),(zi 43),(zi 1),(zi 0),(zi 0),(zi 3),(zr 141),(.bool true),(zi 181),(zr 142),.none,(zr 143),(zr 144),(zr 145),(zi 354),(zi 43),(zs "/claim/cut.py" 355)]
noncomputable def Yn:Obj:=zf "turned_place_of" "turned_place_of" (top 20) (zs "belowpoints.heaps.boxes" 292) (zr 146)
noncomputable def zo101:Obj:=zt [(zs "points" 360),(zs "place" 361)]
noncomputable def zo102:Obj:=zx "name_at" "name_at" (top 21)
noncomputable def Ym:Obj:=zc [(zs "name_at" 357),(zs "name_at" 358),(zs "/claim/cut.py" 359),(zi 45),(zi 2),(zi 0),(zi 0),(zi 3),(zr 148),(.bool true),(zi 181),(zr 149),.none,(zr 150),(zr 151),(zr 152),(zi 362),(zi 45),(zs "/claim/cut.py" 363)]
noncomputable def zo104:Obj:=zf "name_at" "name_at" (top 21) (zs "belowpoints.heaps.boxes" 292) (zr 153)
noncomputable def Aak:Obj:=zd [de P "__module__" 374 (zs "belowpoints.kept" 365),de P "__qualname__" 376 (zs "KeptPoints" 375),de P "__firstlineno__" 378 (.int 50 377),de P "__init__" 385 (zr 168),de P "put_point" 395 (zr 175),de P "take_point" 403 (zr 182),de P "move_point" 413 (zr 189),de P "points_now" 420 (zr 196),de P "below_now" 429 (zr 203),de P "above_now" 438 (zr 210),de P "pairs_now" 445 (zr 217),de P "box_now" 453 (zr 224),de P "places_now" 459 (zr 229),de P "need_name" 467 (zr 236),de P "__static_attributes__" 469 (zr 237)] 15
noncomputable def Acw:Obj:=zl [(zi 52),(zi 4),(zr 167),(zi 55),(zi 4),(zr 174),(zi 60),(zi 4),(zr 181),(zi 64),(zi 4),(zr 188),(zi 68),(zi 4),(zr 195),(zi 71),(zi 4),(zr 202),(zi 74),(zi 4),(zr 209),(zi 77),(zi 4),(zr 216),(zi 80),(zi 4),(zr 223),(zi 83),(zi 4),(zr 228),(zi 86),(zi 4),(zr 235)]
noncomputable def zo107:Obj:=zc [(zs "KeptPoints" 369),(zs "KeptPoints" 370),(zs "/claim/cut.py" 371),(zi 50),(zi 0),(zi 0),(zi 0),(zi 0),(zr 158),(.bool false),(zi 181),(zr 159),.none,.none,.none,.none,(zi 372),(zi 50),(zs "/claim/cut.py" 373)]
noncomputable def Acb:Obj:=⟨(.type "frame"),none,.plain,#[(some (zr 160)),(some (zr 3)),(some (zr 157)),none,(some (zs "belowpoints.kept" 365)),none,(some (zr 0))]⟩
noncomputable def zo109:Obj:=zt [(zs "self" 382)]
noncomputable def zo110:Obj:=zx "__init__" "KeptPoints.__init__" (Am (top 23) 0)
noncomputable def Aaj:Obj:=zc [(zs "__init__" 379),(zs "KeptPoints.__init__" 380),(zs "/claim/cut.py" 381),(zi 52),(zi 1),(zi 0),(zi 0),(zi 3),(zr 162),(.bool true),(zi 181),(zr 163),.none,(zr 164),(zr 165),(zr 166),(zi 383),(zi 52),(zs "/claim/cut.py" 384)]
noncomputable def zo112:Obj:=zf "__init__" "KeptPoints.__init__" (Am (top 23) 0) (zs "belowpoints.kept" 365) (zr 167)
noncomputable def Aea:Obj:=zt [(zs "self" 389),(zs "name" 390),(zs "x" 391),(zs "y" 392)]
noncomputable def Ac1:Obj:=zx "put_point" "KeptPoints.put_point" (Am (top 23) 1)
noncomputable def zo115:Obj:=zc [(zs "put_point" 386),(zs "KeptPoints.put_point" 387),(zs "/claim/cut.py" 388),(zi 55),(zi 4),(zi 0),(zi 0),(zi 3),(zr 169),(.bool true),(zi 181),(zr 170),.none,(zr 171),(zr 172),(zr 173),(zi 393),(zi 55),(zs "/claim/cut.py" 394)]
noncomputable def Ye:Obj:=zf "put_point" "KeptPoints.put_point" (Am (top 23) 1) (zs "belowpoints.kept" 365) (zr 174)
noncomputable def zo117:Obj:=zt [(zs "self" 399),(zs "name" 400)]
noncomputable def zo118:Obj:=zx "take_point" "KeptPoints.take_point" (Am (top 23) 2)
noncomputable def Yl:Obj:=zc [(zs "take_point" 396),(zs "KeptPoints.take_point" 397),(zs "/claim/cut.py" 398),(zi 60),(zi 2),(zi 0),(zi 0),(zi 3),(zr 176),(.bool true),(zi 181),(zr 177),.none,(zr 178),(zr 179),(zr 180),(zi 401),(zi 60),(zs "/claim/cut.py" 402)]
noncomputable def zo120:Obj:=zf "take_point" "KeptPoints.take_point" (Am (top 23) 2) (zs "belowpoints.kept" 365) (zr 181)
noncomputable def Adh:Obj:=zt [(zs "self" 407),(zs "name" 408),(zs "x" 409),(zs "y" 410)]
noncomputable def Afv:Obj:=zx "move_point" "KeptPoints.move_point" (Am (top 23) 3)
noncomputable def zo123:Obj:=zc [(zs "move_point" 404),(zs "KeptPoints.move_point" 405),(zs "/claim/cut.py" 406),(zi 64),(zi 4),(zi 0),(zi 0),(zi 3),(zr 183),(.bool true),(zi 181),(zr 184),.none,(zr 185),(zr 186),(zr 187),(zi 411),(zi 64),(zs "/claim/cut.py" 412)]
noncomputable def X1:Obj:=zf "move_point" "KeptPoints.move_point" (Am (top 23) 3) (zs "belowpoints.kept" 365) (zr 188)
noncomputable def zo125:Obj:=zt [(zs "self" 417)]
noncomputable def zo126:Obj:=zx "points_now" "KeptPoints.points_now" (Am (top 23) 4)
noncomputable def Xq:Obj:=zc [(zs "points_now" 414),(zs "KeptPoints.points_now" 415),(zs "/claim/cut.py" 416),(zi 68),(zi 1),(zi 0),(zi 0),(zi 3),(zr 190),(.bool true),(zi 181),(zr 191),.none,(zr 192),(zr 193),(zr 194),(zi 418),(zi 68),(zs "/claim/cut.py" 419)]
noncomputable def zo128:Obj:=zf "points_now" "KeptPoints.points_now" (Am (top 23) 4) (zs "belowpoints.kept" 365) (zr 195)
noncomputable def Af5:Obj:=zt [(zs "self" 424),(zs "x" 425),(zs "y" 426)]
noncomputable def Acl:Obj:=zx "below_now" "KeptPoints.below_now" (Am (top 23) 5)
noncomputable def zo131:Obj:=zc [(zs "below_now" 421),(zs "KeptPoints.below_now" 422),(zs "/claim/cut.py" 423),(zi 71),(zi 3),(zi 0),(zi 0),(zi 3),(zr 197),(.bool true),(zi 181),(zr 198),.none,(zr 199),(zr 200),(zr 201),(zi 427),(zi 71),(zs "/claim/cut.py" 428)]
noncomputable def Xz:Obj:=zf "below_now" "KeptPoints.below_now" (Am (top 23) 5) (zs "belowpoints.kept" 365) (zr 202)
noncomputable def zo133:Obj:=zt [(zs "self" 433),(zs "x" 434),(zs "y" 435)]
noncomputable def zo134:Obj:=zx "above_now" "KeptPoints.above_now" (Am (top 23) 6)
noncomputable def Yr:Obj:=zc [(zs "above_now" 430),(zs "KeptPoints.above_now" 431),(zs "/claim/cut.py" 432),(zi 74),(zi 3),(zi 0),(zi 0),(zi 3),(zr 204),(.bool true),(zi 181),(zr 205),.none,(zr 206),(zr 207),(zr 208),(zi 436),(zi 74),(zs "/claim/cut.py" 437)]
noncomputable def zo136:Obj:=zf "above_now" "KeptPoints.above_now" (Am (top 23) 6) (zs "belowpoints.kept" 365) (zr 209)
noncomputable def Aej:Obj:=zt [(zs "self" 442)]
noncomputable def Ado:Obj:=zx "pairs_now" "KeptPoints.pairs_now" (Am (top 23) 7)
noncomputable def zo139:Obj:=zc [(zs "pairs_now" 439),(zs "KeptPoints.pairs_now" 440),(zs "/claim/cut.py" 441),(zi 77),(zi 1),(zi 0),(zi 0),(zi 3),(zr 211),(.bool true),(zi 181),(zr 212),.none,(zr 213),(zr 214),(zr 215),(zi 443),(zi 77),(zs "/claim/cut.py" 444)]
noncomputable def Afw:Obj:=zf "pairs_now" "KeptPoints.pairs_now" (Am (top 23) 7) (zs "belowpoints.kept" 365) (zr 216)
noncomputable def zo141:Obj:=zt [(zs "self" 449),(zs "box" 450)]
noncomputable def zo142:Obj:=zx "box_now" "KeptPoints.box_now" (Am (top 23) 8)
noncomputable def Aae:Obj:=zc [(zs "box_now" 446),(zs "KeptPoints.box_now" 447),(zs "/claim/cut.py" 448),(zi 80),(zi 2),(zi 0),(zi 0),(zi 3),(zr 218),(.bool true),(zi 181),(zr 219),.none,(zr 220),(zr 221),(zr 222),(zi 451),(zi 80),(zs "/claim/cut.py" 452)]
noncomputable def zo144:Obj:=zf "box_now" "KeptPoints.box_now" (Am (top 23) 8) (zs "belowpoints.kept" 365) (zr 223)
noncomputable def Aex:Obj:=zx "places_now" "KeptPoints.places_now" (Am (top 23) 9)
noncomputable def zo146:Obj:=zc [(zs "places_now" 454),(zs "KeptPoints.places_now" 455),(zs "/claim/cut.py" 456),(zi 83),(zi 1),(zi 0),(zi 0),(zi 3),(zr 225),(.bool true),(zi 181),(zr 226),.none,.none,.none,(zr 227),(zi 457),(zi 83),(zs "/claim/cut.py" 458)]
noncomputable def Yw:Obj:=zf "places_now" "KeptPoints.places_now" (Am (top 23) 9) (zs "belowpoints.kept" 365) (zr 228)
noncomputable def zo148:Obj:=zt [(zs "self" 463),(zs "name" 464)]
noncomputable def zo149:Obj:=zx "need_name" "KeptPoints.need_name" (Am (top 23) 10)
noncomputable def Xm:Obj:=zc [(zs "need_name" 460),(zs "KeptPoints.need_name" 461),(zs "/claim/cut.py" 462),(zi 86),(zi 2),(zi 0),(zi 0),(zi 3),(zr 230),(.bool true),(zi 181),(zr 231),.none,(zr 232),(zr 233),(zr 234),(zi 465),(zi 86),(zs "/claim/cut.py" 466)]
noncomputable def zo151:Obj:=zf "need_name" "KeptPoints.need_name" (Am (top 23) 10) (zs "belowpoints.kept" 365) (zr 235)
noncomputable def Afi:Obj:=zt [(zs "points" 468)]
noncomputable def Yt:Obj:=zd [de P "__module__" 374 (zs "belowpoints.kept" 365),de P "__firstlineno__" 378 (.int 50 377),de P "__init__" 385 (zr 168),de P "put_point" 395 (zr 175),de P "take_point" 403 (zr 182),de P "move_point" 413 (zr 189),de P "points_now" 420 (zr 196),de P "below_now" 429 (zr 203),de P "above_now" 438 (zr 210),de P "pairs_now" 445 (zr 217),de P "box_now" 453 (zr 224),de P "places_now" 459 (zr 229),de P "need_name" 467 (zr 236),de P "__static_attributes__" 469 (zr 237),de P "__dict__" 471 (zr 240),de P "__weakref__" 473 (zr 241),de P "__doc__" 474 .none] 4
noncomputable def zo154:Obj:=⟨(.type "type"),none,(.cls ⟨"KeptPoints",[(.type "object")],[(zr 239),(.type "object")],238,"KeptPoints",true,[],[],false,none,false⟩),#[none,none,(some (zs "KeptPoints" 367)),(some (zs "KeptPoints" 375)),(some (.builtin "object.__new__")),(some (.bool true))]⟩
noncomputable def Acm:Obj:=⟨(.type "getset_descriptor"),none,(.fields #[(zs "__dict__" 470),(zr 239),(.builtin "function.__dict__"),(.builtin "function.__dict__#set")]),#[]⟩
noncomputable def zo156:Obj:=⟨(.type "getset_descriptor"),none,(.fields #[(zs "__weakref__" 472),(zr 239),(.builtin "ExceptionGroup.__weakref__"),.none]),#[]⟩
noncomputable def Aen:Obj:=⟨(.type "super"),none,(.fields #[(zr 239),(zr 239),(zr 239)]),#[]⟩
noncomputable def zo158:Obj:=⟨(.type "builtin_function_or_method"),none,(.fields #[(.builtin "object.__init_subclass__"),(zr 239)]),#[]⟩
noncomputable def Adb:Obj:=zd [de P "__name__" 165 (zs "law_belowpoints_k91_sums_boxes_kept_by_names" 590),de P "__doc__" 166 .none,de P "__package__" 167 .none,de P "__loader__" 168 (.builtin "__main__.__loader__#opaque"),de P "__spec__" 169 .none,de P "__annotations__" 170 (zr 6),de P "__builtins__" 171 (zr 4),de P "__file__" 173 (zs "/claim/cut.py" 172),de P "__cached__" 174 .none,de P "_wall" 193 (zr 21),de P "BelowError" 213 (zr 31),de P "NoPlace" 237 (zr 51),de P "NoName" 262 (zr 70),de P "lies_below" 270 (zr 77),de P "place_of" 277 (zr 84),de P "many_below" 285 (zr 89),de P "many_above" 291 (zr 94),de P "in_corner" 299 (zr 99),de P "in_boxes" 305 (zr 104),de P "weights_in" 311 (zr 109),de P "nth_by_x" 320 (zr 116),de P "nth_by_y" 329 (zr 123),de P "points_in" 335 (zr 128),de P "is_held" 343 (zr 135),de P "weight_of" 349 (zr 140),de P "turned_place_of" 356 (zr 147),de P "name_at" 364 (zr 154),de P "KeptPoints" 476 (zr 239),de P "SumTree" 576 (zr 316),de P "places_of" 582 (zr 325),de P "lowest_bit" 589 (zr 332),de P "_law_tree_right" 599 (zr 339),de P "_law_boxes_right" 608 (zr 346),de P "law" 617 (zr 353)] 34
noncomputable def zo160:Obj:=zl [(zi 1),(zi 0),(zr 20),(zi 5),(zi 0),(zr 27),(zi 7),(zi 0),(zr 40),(zi 11),(zi 0),(zr 59),(zi 17),(zi 0),(zr 76),(zi 19),(zi 0),(zr 83),(zi 22),(zi 0),(zr 88),(zi 24),(zi 0),(zr 93),(zi 27),(zi 0),(zr 98),(zi 29),(zi 0),(zr 103),(zi 31),(zi 0),(zr 108),(zi 33),(zi 0),(zr 115),(zi 35),(zi 0),(zr 122),(zi 37),(zi 0),(zr 127),(zi 39),(zi 0),(zr 134),(zi 41),(zi 0),(zr 139),(zi 43),(zi 0),(zr 146),(zi 45),(zi 0),(zr 153),(zi 50),(zi 0),(zr 160),(zi 90),(zi 0),(zr 249),(zi 138),(zi 0),(zr 324),(zi 144),(zi 0),(zr 331),(zi 147),(zi 0),(zr 338),(zi 155),(zi 0),(zr 345),(zi 165),(zi 0),(zr 352)]
noncomputable def Adv:Obj:=zd [de P "__module__" 486 (zs "belowpoints.counts.sums" 477),de P "__qualname__" 488 (zs "SumTree" 487),de P "__firstlineno__" 490 (.int 90 489),de P "__init__" 498 (zr 257),de P "put_to" 508 (zr 264),de P "sum_of_first" 518 (zr 271),de P "sum_from_to" 527 (zr 278),de P "number_at" 535 (zr 285),de P "row_now" 542 (zr 292),de P "cells_now" 549 (zr 299),de P "least_many" 558 (zr 306),de P "need_place" 566 (zr 313),de P "__static_attributes__" 569 (zr 314)] 13
noncomputable def Aj3:Obj:=zl [(zi 92),(zi 4),(zr 256),(zi 96),(zi 4),(zr 263),(zi 103),(zi 4),(zr 270),(zi 113),(zi 4),(zr 277),(zi 120),(zi 4),(zr 284),(zi 123),(zi 4),(zr 291),(zi 126),(zi 4),(zr 298),(zi 129),(zi 4),(zr 305),(zi 135),(zi 4),(zr 312)]
noncomputable def zo163:Obj:=zc [(zs "SumTree" 481),(zs "SumTree" 482),(zs "/claim/cut.py" 483),(zi 90),(zi 0),(zi 0),(zi 0),(zi 0),(zr 247),(.bool false),(zi 181),(zr 248),.none,.none,.none,.none,(zi 484),(zi 90),(zs "/claim/cut.py" 485)]
noncomputable def Ako:Obj:=⟨(.type "frame"),none,.plain,#[(some (zr 249)),(some (zr 3)),(some (zr 246)),none,(some (zs "belowpoints.counts.sums" 477)),none,(some (zr 0))]⟩
noncomputable def zo165:Obj:=zt [(zs "self" 494),(zs "many" 495)]
noncomputable def zo166:Obj:=zx "__init__" "SumTree.__init__" (Am (top 25) 0)
noncomputable def Aft:Obj:=zc [(zs "__init__" 491),(zs "SumTree.__init__" 492),(zs "/claim/cut.py" 493),(zi 92),(zi 2),(zi 0),(zi 0),(zi 3),(zr 251),(.bool true),(zi 181),(zr 252),.none,(zr 253),(zr 254),(zr 255),(zi 496),(zi 92),(zs "/claim/cut.py" 497)]
noncomputable def zo168:Obj:=zf "__init__" "SumTree.__init__" (Am (top 25) 0) (zs "belowpoints.counts.sums" 477) (zr 256)
noncomputable def Akm:Obj:=zt [(zs "self" 502),(zs "place" 503),(zs "number" 504),(zs "cell" 505)]
noncomputable def Aj9:Obj:=zx "put_to" "SumTree.put_to" (Am (top 25) 1)
noncomputable def zo171:Obj:=zc [(zs "put_to" 499),(zs "SumTree.put_to" 500),(zs "/claim/cut.py" 501),(zi 96),(zi 3),(zi 0),(zi 0),(zi 3),(zr 258),(.bool true),(zi 181),(zr 259),.none,(zr 260),(zr 261),(zr 262),(zi 506),(zi 96),(zs "/claim/cut.py" 507)]
noncomputable def Ac9:Obj:=zf "put_to" "SumTree.put_to" (Am (top 25) 1) (zs "belowpoints.counts.sums" 477) (zr 263)
noncomputable def zo173:Obj:=zt [(zs "self" 512),(zs "many" 513),(zs "told" 514),(zs "cell" 515)]
noncomputable def zo174:Obj:=zx "sum_of_first" "SumTree.sum_of_first" (Am (top 25) 2)
noncomputable def Aec:Obj:=zc [(zs "sum_of_first" 509),(zs "SumTree.sum_of_first" 510),(zs "/claim/cut.py" 511),(zi 103),(zi 2),(zi 0),(zi 0),(zi 3),(zr 265),(.bool true),(zi 181),(zr 266),.none,(zr 267),(zr 268),(zr 269),(zi 516),(zi 103),(zs "/claim/cut.py" 517)]
noncomputable def zo176:Obj:=zf "sum_of_first" "SumTree.sum_of_first" (Am (top 25) 2) (zs "belowpoints.counts.sums" 477) (zr 270)
noncomputable def Aj5:Obj:=zt [(zs "self" 522),(zs "first" 523),(zs "last" 524)]
noncomputable def Aju:Obj:=zx "sum_from_to" "SumTree.sum_from_to" (Am (top 25) 3)
noncomputable def zo179:Obj:=zc [(zs "sum_from_to" 519),(zs "SumTree.sum_from_to" 520),(zs "/claim/cut.py" 521),(zi 113),(zi 3),(zi 0),(zi 0),(zi 3),(zr 272),(.bool true),(zi 181),(zr 273),.none,(zr 274),(zr 275),(zr 276),(zi 525),(zi 113),(zs "/claim/cut.py" 526)]
noncomputable def Af3:Obj:=zf "sum_from_to" "SumTree.sum_from_to" (Am (top 25) 3) (zs "belowpoints.counts.sums" 477) (zr 277)
noncomputable def zo181:Obj:=zt [(zs "self" 531),(zs "place" 532)]
noncomputable def zo182:Obj:=zx "number_at" "SumTree.number_at" (Am (top 25) 4)
noncomputable def Af4:Obj:=zc [(zs "number_at" 528),(zs "SumTree.number_at" 529),(zs "/claim/cut.py" 530),(zi 120),(zi 2),(zi 0),(zi 0),(zi 3),(zr 279),(.bool true),(zi 181),(zr 280),.none,(zr 281),(zr 282),(zr 283),(zi 533),(zi 120),(zs "/claim/cut.py" 534)]
noncomputable def zo184:Obj:=zf "number_at" "SumTree.number_at" (Am (top 25) 4) (zs "belowpoints.counts.sums" 477) (zr 284)
noncomputable def Akg:Obj:=zt [(zs "self" 539)]
noncomputable def Ake:Obj:=zx "row_now" "SumTree.row_now" (Am (top 25) 5)
noncomputable def zo187:Obj:=zc [(zs "row_now" 536),(zs "SumTree.row_now" 537),(zs "/claim/cut.py" 538),(zi 123),(zi 1),(zi 0),(zi 0),(zi 3),(zr 286),(.bool true),(zi 181),(zr 287),.none,(zr 288),(zr 289),(zr 290),(zi 540),(zi 123),(zs "/claim/cut.py" 541)]
noncomputable def Ajv:Obj:=zf "row_now" "SumTree.row_now" (Am (top 25) 5) (zs "belowpoints.counts.sums" 477) (zr 291)
noncomputable def zo189:Obj:=zt [(zs "self" 546)]
noncomputable def zo190:Obj:=zx "cells_now" "SumTree.cells_now" (Am (top 25) 6)
noncomputable def Aj1:Obj:=zc [(zs "cells_now" 543),(zs "SumTree.cells_now" 544),(zs "/claim/cut.py" 545),(zi 126),(zi 1),(zi 0),(zi 0),(zi 3),(zr 293),(.bool true),(zi 181),(zr 294),.none,(zr 295),(zr 296),(zr 297),(zi 547),(zi 126),(zs "/claim/cut.py" 548)]
noncomputable def zo192:Obj:=zf "cells_now" "SumTree.cells_now" (Am (top 25) 6) (zs "belowpoints.counts.sums" 477) (zr 298)
noncomputable def Akd:Obj:=zt [(zs "self" 553),(zs "number" 554),(zs "many" 555)]
noncomputable def Aks:Obj:=zx "least_many" "SumTree.least_many" (Am (top 25) 7)
noncomputable def zo195:Obj:=zc [(zs "least_many" 550),(zs "SumTree.least_many" 551),(zs "/claim/cut.py" 552),(zi 129),(zi 2),(zi 0),(zi 0),(zi 3),(zr 300),(.bool true),(zi 181),(zr 301),.none,(zr 302),(zr 303),(zr 304),(zi 556),(zi 129),(zs "/claim/cut.py" 557)]
noncomputable def Ae9:Obj:=zf "least_many" "SumTree.least_many" (Am (top 25) 7) (zs "belowpoints.counts.sums" 477) (zr 305)
noncomputable def zo197:Obj:=zt [(zs "self" 562),(zs "place" 563)]
noncomputable def zo198:Obj:=zx "need_place" "SumTree.need_place" (Am (top 25) 8)
noncomputable def Acp:Obj:=zc [(zs "need_place" 559),(zs "SumTree.need_place" 560),(zs "/claim/cut.py" 561),(zi 135),(zi 2),(zi 0),(zi 0),(zi 3),(zr 307),(.bool true),(zi 181),(zr 308),.none,(zr 309),(zr 310),(zr 311),(zi 564),(zi 135),(zs "/claim/cut.py" 565)]
noncomputable def zo200:Obj:=zf "need_place" "SumTree.need_place" (Am (top 25) 8) (zs "belowpoints.counts.sums" 477) (zr 312)
noncomputable def Akq:Obj:=zt [(zs "cells" 567),(zs "many" 568)]
noncomputable def Ach:Obj:=zd [de P "__module__" 486 (zs "belowpoints.counts.sums" 477),de P "__firstlineno__" 490 (.int 90 489),de P "__init__" 498 (zr 257),de P "put_to" 508 (zr 264),de P "sum_of_first" 518 (zr 271),de P "sum_from_to" 527 (zr 278),de P "number_at" 535 (zr 285),de P "row_now" 542 (zr 292),de P "cells_now" 549 (zr 299),de P "least_many" 558 (zr 306),de P "need_place" 566 (zr 313),de P "__static_attributes__" 569 (zr 314),de P "__dict__" 571 (zr 317),de P "__weakref__" 573 (zr 318),de P "__doc__" 574 .none] 4
noncomputable def zo203:Obj:=⟨(.type "type"),none,(.cls ⟨"SumTree",[(.type "object")],[(zr 316),(.type "object")],315,"SumTree",true,[],[],false,none,false⟩),#[none,none,(some (zs "SumTree" 479)),(some (zs "SumTree" 487)),(some (.builtin "object.__new__")),(some (.bool true))]⟩
noncomputable def Ajr:Obj:=⟨(.type "getset_descriptor"),none,(.fields #[(zs "__dict__" 570),(zr 316),(.builtin "function.__dict__"),(.builtin "function.__dict__#set")]),#[]⟩
noncomputable def zo205:Obj:=⟨(.type "getset_descriptor"),none,(.fields #[(zs "__weakref__" 572),(zr 316),(.builtin "ExceptionGroup.__weakref__"),.none]),#[]⟩
noncomputable def Akn:Obj:=⟨(.type "super"),none,(.fields #[(zr 316),(zr 316),(zr 316)]),#[]⟩
noncomputable def zo207:Obj:=⟨(.type "builtin_function_or_method"),none,(.fields #[(.builtin "object.__init_subclass__"),(zr 316)]),#[]⟩
noncomputable def Aj8:Obj:=zx "places_of" "places_of" (top 26)
noncomputable def zo209:Obj:=zc [(zs "places_of" 577),(zs "places_of" 578),(zs "/claim/cut.py" 579),(zi 138),(zi 1),(zi 0),(zi 0),(zi 3),(zr 321),(.bool true),(zi 181),(zr 322),.none,.none,.none,(zr 323),(zi 580),(zi 138),(zs "/claim/cut.py" 581)]
noncomputable def Aeg:Obj:=zf "places_of" "places_of" (top 26) (zs "belowpoints.counts.sums" 477) (zr 324)
noncomputable def zo211:Obj:=zt [(zs "number" 586)]
noncomputable def zo212:Obj:=zx "lowest_bit" "lowest_bit" (top 27)
noncomputable def Aem:Obj:=zc [(zs "lowest_bit" 583),(zs "lowest_bit" 584),(zs "/claim/cut.py" 585),(zi 144),(zi 1),(zi 0),(zi 0),(zi 3),(zr 326),(.bool true),(zi 181),(zr 327),.none,(zr 328),(zr 329),(zr 330),(zi 587),(zi 144),(zs "/claim/cut.py" 588)]
noncomputable def zo214:Obj:=zf "lowest_bit" "lowest_bit" (top 27) (zs "belowpoints.counts.sums" 477) (zr 331)
noncomputable def Aku:Obj:=zt [(zs "far" 595),(zs "tree" 596)]
noncomputable def Ajz:Obj:=zx "_law_tree_right" "_law_tree_right" (top 29)
noncomputable def zo217:Obj:=zc [(zs "_law_tree_right" 592),(zs "_law_tree_right" 593),(zs "/claim/cut.py" 594),(zi 147),(zi 1),(zi 0),(zi 0),(zi 3),(zr 333),(.bool true),(zi 181),(zr 334),.none,(zr 335),(zr 336),(zr 337),(zi 597),(zi 147),(zs "/claim/cut.py" 598)]
noncomputable def Ac7:Obj:=zf "_law_tree_right" "_law_tree_right" (top 29) (zs "law_belowpoints_k91_sums_boxes_kept_by_names" 590) (zr 338)
noncomputable def zo219:Obj:=zt [(zs "far" 603),(zs "two" 604),(zs "all_of" 605)]
noncomputable def zo220:Obj:=zx "_law_boxes_right" "_law_boxes_right" (top 30)
noncomputable def Ae5:Obj:=zc [(zs "_law_boxes_right" 600),(zs "_law_boxes_right" 601),(zs "/claim/cut.py" 602),(zi 155),(zi 1),(zi 0),(zi 0),(zi 3),(zr 340),(.bool true),(zi 181),(zr 341),.none,(zr 342),(zr 343),(zr 344),(zi 606),(zi 155),(zs "/claim/cut.py" 607)]
noncomputable def zo222:Obj:=zf "_law_boxes_right" "_law_boxes_right" (top 30) (zs "law_belowpoints_k91_sums_boxes_kept_by_names" 590) (zr 345)
noncomputable def Ajq:Obj:=zt [(zs "script" 612),(zs "far" 613),(zs "kept" 614)]
noncomputable def Ajx:Obj:=zx "law" "law" (top 31)
noncomputable def zo225:Obj:=zc [(zs "law" 609),(zs "law" 610),(zs "/claim/cut.py" 611),(zi 165),(zi 1),(zi 0),(zi 0),(zi 3),(zr 347),(.bool true),(zi 181),(zr 348),.none,(zr 349),(zr 350),(zr 351),(zi 615),(zi 165),(zs "/claim/cut.py" 616)]
noncomputable def Afj:Obj:=zf "law" "law" (top 31) (zs "law_belowpoints_k91_sums_boxes_kept_by_names" 590) (zr 352)
noncomputable def t_0:kP:=zn (gM P) (zn (zo1 P) (zn (sG P) (zg zo7) (zg zo7)) (zn zo5 (zg zo9) (zg Aap))) (zn zo2 (zn zo4 (zg zo8) (zg zo8)) (zn zo6 (zg zo10) (zg zo12)))
noncomputable def t_1:kP:=zn (gM P) (zn (zo1 P) (zn (Aqc P) (zn zo7 (zn zo7 (zn zo25 (zg zo46) (zg zo7)) (zn Agx (zg zo8) .nil)) (zn zo20 (zn Ahs (zg Ahk) (zg Afn)) (zn zo20 (zg Aik) .nil))) (zn zo7 (zn Aib (zn zo29 (zg zo49) (zg Ac2)) (zn zo39 (zg Aez) .nil)) (zn zo22 (zn zo8 (zg Agn) .nil) (zn zo44 (zg zo8) .nil)))) (zn zo5 (zn zo9 (zn Agb (zn zo27 (zg zo47) (zg Ahu)) (zn zo7 (zg zo7) .nil)) (zn zo7 (zn Aio (zg zo7) .nil) (zn zo7 (zg Adm) .nil))) (zn Aap (zn Ag5 (zn (Adw P) (zg (Aeo P)) (zg zo8)) (zn zo41 (zg zo7) .nil)) (zn zo7 (zn zo7 (zg Ad4) .nil) (zn zo7 (zg Adl) .nil))))) (zn zo2 (zn zo4 (zn zo8 (zn zo8 (zn Aga (zg zo7) (zg zo8)) (zn zo37 (zg zo58) .nil)) (zn (Ael P) (zn zo32 (zg zo54) (zg zo73)) (zn (Ae8 P) (zg zo63) .nil))) (zn Aqn (zn zo17 (zn zo20 (zg Aji) (zg zo7)) (zn Aha (zg zo61) .nil)) (zn Af7 (zn zo34 (zg zo56) .nil) (zn Aia (zg zo65) .nil)))) (zn zo6 (zn zo10 (zn zo7 (zn Agy (zg Ahn) (zg zo69)) (zn (Afz P) (zg zo59) .nil)) (zn zo8 (zn zo7 (zg zo8) .nil) (zn Ahc (zg zo7) .nil))) (zn zo12 (zn zo19 (zn zo7 (zg zo52) (zg zo71)) (zn zo29 (zg zo8) .nil)) (zn (Aca P) (zn zo35 (zg zo7) .nil) (zn zo8 (zg zo67) .nil)))))
noncomputable def t_2:kP:=zn (gM P) (zn (zo1 P) (zn (Aq0 P) (zn zo7 (zn zo7 (zn zo25 (zn zo46 (zg Af9) (zg zo8)) (zn zo7 (zg Acw) (zg Aae))) (zn Agx (zn zo8 (zg Aky) (zg zo7)) (zn zo8 (zg Ye) (zg zo154)))) (zn zo20 (zn Ahs (zn Ahk (zg Ait) (zg Af5)) (zn Afn (zg Aaj) (zg zo8))) (zn zo20 (zn Aik (zg zo7) (zg Ado)) (zn Am8 (zg zo7) .nil)))) (zn zo7 (zn Aib (zn zo29 (zn zo49 (zg Ak5) (zg Xq)) (zn Ac2 (zg zo8) (zg Aex))) (zn zo39 (zn Aez (zg Yn) (zg zo7)) (zn Ahm (zg zo7) (zg zo158)))) (zn zo22 (zn zo8 (zn Agn (zg Aic) (zg Xz)) (zn Am1 (zg Aea) (zg Xm))) (zn zo44 (zn zo8 (zg zo7) (zg zo8)) (zn Agd (zg Afv) .nil))))) (zn zo5 (zn zo9 (zn Agb (zn zo27 (zn zo47 (zg zo7) (zg zo7)) (zn Ahu (zg Acb) (zg zo7))) (zn zo7 (zn zo7 (zg Ak8) (zg Yr)) (zn zo7 (zg zo8) (zg zo156)))) (zn zo7 (zn Aio (zn zo7 (zg zo8) (zg Acl)) (zn zo7 (zg zo7) (zg zo7))) (zn zo7 (zn Adm (zg Ym) (zg Afw)) (zn Ak6 (zg Adh) .nil)))) (zn Aap (zn Ag5 (zn (Adw P) (zn (Aeo P) (zg Akx) (zg zo7)) (zn zo8 (zg zo7) (zg Yw))) (zn zo41 (zn zo7 (zg zo8) (zg Aej)) (zn zo7 (zg Yl) .nil))) (zn zo7 (zn zo7 (zn Ad4 (zg zo7) (zg zo8)) (zn Ag0 (zg Ac1) (zg Afi))) (zn zo7 (zn Adl (zg (Aak P)) (zg zo7)) (zn zo8 (zg X1) .nil)))))) (zn zo2 (zn zo4 (zn zo8 (zn zo8 (zn Aga (zn zo7 (zg zo89) (zg zo125)) (zn zo8 (zg zo107) (zg zo144))) (zn zo37 (zn zo58 (zg zo7) (zg zo134)) (zn zo79 (zg zo7) (zg Acm)))) (zn (Ael P) (zn zo32 (zn zo54 (zg zo7) (zg zo7)) (zn zo73 (zg zo112) (zg zo148))) (zn (Ae8 P) (zn zo63 (zg zo102) (zg zo139)) (zn zo7 (zg zo8) .nil)))) (zn Aqz (zn zo17 (zn zo20 (zn Aji (zg zo7) (zg zo128)) (zn zo7 (zg zo109) (zg zo146))) (zn Aha (zn zo61 (zg zo7) (zg zo8)) (zn zo82 (zg zo118) .nil))) (zn Af7 (zn zo34 (zn zo56 (zg zo96) (zg zo7)) (zn zo77 (zg zo7) (zg zo151))) (zn Aia (zn zo65 (zg zo20) (zg zo141)) (zn zo7 (zg zo123) .nil))))) (zn zo6 (zn zo10 (zn zo7 (zn Agy (zn Ahn (zg zo8) (zg zo126)) (zn zo69 (zg zo7) (zg zo8))) (zn (Afz P) (zn zo59 (zg zo99) (zg zo136)) (zn zo80 (zg zo117) (zg Aen)))) (zn zo8 (zn zo7 (zn zo8 (zg zo94) (zg zo131)) (zn zo8 (zg zo8) (zg zo149))) (zn Ahc (zn zo7 (zg zo104) (zg zo7)) (zn zo85 (zg zo7) .nil)))) (zn zo12 (zn zo19 (zn zo7 (zn zo52 (zg zo92) (zg zo8)) (zn zo71 (zg zo110) (zg zo7))) (zn zo29 (zn zo8 (zg zo101) (zg zo7)) (zn zo8 (zg zo120) .nil))) (zn (Aca P) (zn zo35 (zn zo7 (zg zo8) (zg zo133)) (zn zo7 (zg zo115) (zg (Yt P)))) (zn zo8 (zn zo67 (zg zo7) (zg zo142)) (zn zo87 (zg zo7) .nil))))))
noncomputable def t_3:kP:=zn (gM P) (zn (zo1 P) (zn (Adb P) (zn zo7 (zn zo7 (zn zo25 (zn zo46 (zn Af9 (zg zo166) .nil) (zn zo8 (zg Akn) .nil)) (zn zo7 (zn Acw (zg zo8) .nil) (zn Aae (zg Ajx) .nil))) (zn Agx (zn zo8 (zn Aky (zg zo176) .nil) (zn zo7 (zg Aku) .nil)) (zn zo8 (zn Ye (zg zo7) .nil) (zg zo154)))) (zn zo20 (zn Ahs (zn Ahk (zn Ait (zg zo171) .nil) (zn Af5 (zg zo8) .nil)) (zn Afn (zn Aaj (zg zo189) .nil) (zg zo8))) (zn zo20 (zn Aik (zn zo7 (zg zo7) .nil) (zn Ado (zg zo7) .nil)) (zn Am8 (zn zo7 (zg zo198) .nil) (zg zo7))))) (zn zo7 (zn Aib (zn zo29 (zn zo49 (zn Ak5 (zg zo8) .nil) (zn Xq (zg Aj8) .nil)) (zn Ac2 (zn zo8 (zg zo187) .nil) (zg Aex))) (zn zo39 (zn Aez (zn Yn (zg zo7) .nil) (zn zo7 (zg Ac7) .nil)) (zn Ahm (zn zo7 (zg zo7) .nil) (zg zo158)))) (zn zo22 (zn zo8 (zn Agn (zn Aic (zg zo173) .nil) (zn Xz (zg Aem) .nil)) (zn Am1 (zn Aea (zg zo192) .nil) (zg Xm))) (zn zo44 (zn zo8 (zn zo7 (zg zo182) .nil) (zn zo8 (zg zo7) .nil)) (zn Agd (zn Afv (zg (Ach P)) .nil) (zg zo7)))))) (zn zo5 (zn zo9 (zn Agb (zn zo27 (zn zo47 (zn zo7 (zg zo168) .nil) (zn zo7 (zg zo7) .nil)) (zn Ahu (zn Acb (zg zo7) .nil) (zn zo7 (zg Afj) .nil))) (zn zo7 (zn zo7 (zn Ak8 (zg zo8) .nil) (zn Yr (zg Ajz) .nil)) (zn zo7 (zn zo8 (zg zo195) .nil) (zg zo156)))) (zn zo7 (zn Aio (zn zo7 (zn zo8 (zg zo7) .nil) (zn Acl (zg zo7) .nil)) (zn zo7 (zn zo7 (zg zo190) .nil) (zg zo7))) (zn zo7 (zn Adm (zn Ym (zg zo181) .nil) (zn Afw (zg Ae5) .nil)) (zn Ak6 (zn Adh (zg zo200) .nil) (zg zo163))))) (zn Aap (zn Ag5 (zn (Adw P) (zn (Aeo P) (zn Akx (zg zo7) .nil) (zn zo7 (zg Aeg) .nil)) (zn zo8 (zn zo7 (zg zo7) .nil) (zg Yw))) (zn zo41 (zn zo7 (zn zo8 (zg zo179) .nil) (zn Aej (zg zo8) .nil)) (zn zo7 (zn Yl (zg zo197) .nil) (zg zo20)))) (zn zo7 (zn zo7 (zn Ad4 (zn zo7 (zg zo174) .nil) (zn zo8 (zg zo7) .nil)) (zn Ag0 (zn Ac1 (zg zo8) .nil) (zg Afi))) (zn zo7 (zn Adl (zn (Aak P) (zg zo184) .nil) (zn zo7 (zg Ajq) .nil)) (zn zo8 (zn X1 (zg Ajr) .nil) (zg zo165))))))) (zn zo2 (zn zo4 (zn zo8 (zn zo8 (zn Aga (zn zo7 (zn zo89 (zg Aft) .nil) (zn zo125 (zg zo207) .nil)) (zn zo8 (zn zo107 (zg Akg) .nil) (zn zo144 (zg zo225) .nil))) (zn zo37 (zn zo58 (zn zo7 (zg zo7) .nil) (zn zo134 (zg zo7) .nil)) (zn zo79 (zn zo7 (zg Aks) .nil) (zg Acm)))) (zn (Ael P) (zn zo32 (zn zo54 (zn zo7 (zg Ac9) .nil) (zn zo7 (zg zo211) .nil)) (zn zo73 (zn zo112 (zg zo7) .nil) (zg zo148))) (zn (Ae8 P) (zn zo63 (zn zo102 (zg zo8) .nil) (zn zo139 (zg zo220) .nil)) (zn zo7 (zn zo8 (zg Acp) .nil) (zg Aj3))))) (zn zo160 (zn zo17 (zn zo20 (zn Aji (zn zo7 (zg Akm) .nil) (zn zo128 (zg zo209) .nil)) (zn zo7 (zn zo109 (zg Ajv) .nil) (zg zo146))) (zn Aha (zn zo61 (zn zo7 (zg Aju) .nil) (zn zo8 (zg zo7) .nil)) (zn zo82 (zn zo118 (zg zo8) .nil) (zg zo7)))) (zn Af7 (zn zo34 (zn zo56 (zn zo96 (zg zo7) .nil) (zn zo7 (zg zo214) .nil)) (zn zo77 (zn zo7 (zg zo7) .nil) (zg zo151))) (zn Aia (zn zo65 (zn zo20 (zg Af4) .nil) (zn zo141 (zg zo8) .nil)) (zn zo7 (zn zo123 (zg zo203) .nil) (zg zo8)))))) (zn zo6 (zn zo10 (zn zo7 (zn Agy (zn Ahn (zn zo8 (zg zo7) .nil) (zn zo126 (zg zo8) .nil)) (zn zo69 (zn zo7 (zg Ake) .nil) (zg zo8))) (zn (Afz P) (zn zo59 (zn zo99 (zg Aj5) .nil) (zn zo136 (zg zo217) .nil)) (zn zo80 (zn zo117 (zg Ae9) .nil) (zg Aen)))) (zn zo8 (zn zo7 (zn zo8 (zn zo94 (zg zo8) .nil) (zn zo131 (zg zo212) .nil)) (zn zo8 (zn zo8 (zg Aj1) .nil) (zg zo149))) (zn Ahc (zn zo7 (zn zo104 (zg zo7) .nil) (zn zo7 (zg zo222) .nil)) (zn zo85 (zn zo7 (zg Akq) .nil) (zg Ako))))) (zn zo12 (zn zo19 (zn zo7 (zn zo52 (zn zo92 (zg Aj9) .nil) (zn zo8 (zg zo7) .nil)) (zn zo71 (zn zo110 (zg zo8) .nil) (zg zo7))) (zn zo29 (zn zo8 (zn zo101 (zg Af3) .nil) (zn zo7 (zg zo219) .nil)) (zn zo8 (zn zo120 (zg zo7) .nil) (zg (Adv P))))) (zn (Aca P) (zn zo35 (zn zo7 (zn zo8 (zg Aec) .nil) (zn zo133 (zg zo8) .nil)) (zn zo7 (zn zo115 (zg Akd) .nil) (zg (Yt P)))) (zn zo8 (zn zo67 (zn zo7 (zg zo7) .nil) (zn zo142 (zg zo7) .nil)) (zn zo87 (zn zo7 (zg zo205) .nil) (zg zo7)))))))
noncomputable def hA:Heap:=⟨⟨[(gM P),(zo1 P),zo2,(sG P),zo4,zo5,zo6,zo7,zo8,zo9,zo10,zo7,zo8,Aap,zo12]⟩,{}⟩
noncomputable def hZ:Heap:=⟨⟨[(gM P),(zo1 P),zo2,(Adb P),zo4,zo5,zo6,zo7,zo8,zo9,zo10,zo7,zo160,Aap,zo12,zo7,zo8,Agb,zo7,Aib,zo17,Ag5,zo19,zo20,(Ael P),zo7,zo8,zo22,Af7,zo7,(Aca P),zo25,Aga,zo27,Agy,zo29,zo20,(Adw P),zo7,Ahs,zo32,Aio,zo7,zo8,zo34,zo7,zo35,Agx,zo37,zo7,(Afz P),zo39,Aha,zo41,zo29,zo20,(Ae8 P),zo7,Ahc,zo44,Aia,zo7,zo8,zo46,zo7,zo47,Ahn,zo49,Aji,(Aeo P),zo52,Ahk,zo54,zo7,zo8,Agn,zo56,Ad4,zo7,zo8,zo58,zo7,zo59,Aez,zo61,zo7,zo8,Aik,zo63,Adm,zo7,zo8,zo65,Adl,zo67,zo7,zo8,Ahu,zo69,Ac2,zo7,zo8,zo71,Afn,zo73,zo7,zo8,Am1,zo77,Ag0,zo7,zo8,zo79,zo7,zo80,Ahm,zo82,zo7,zo8,Am8,zo7,Ak6,zo85,Agd,zo7,zo8,zo87,Af9,zo89,zo7,zo8,Ak5,zo7,Akx,zo92,Ait,zo7,zo8,zo94,Aic,zo96,zo7,zo8,Aky,zo7,Ak8,zo99,Yn,zo7,zo8,zo101,zo7,zo102,Ym,zo104,zo7,zo20,(Aak P),zo7,Acw,zo107,Acb,zo7,zo8,zo109,zo7,zo110,Aaj,zo112,zo7,zo8,Aea,zo7,Ac1,zo115,Ye,zo7,zo8,zo117,zo7,zo118,Yl,zo120,zo7,zo8,Adh,zo7,Afv,zo123,X1,zo7,zo8,zo125,zo7,zo126,Xq,zo128,zo7,zo8,Af5,zo7,Acl,zo131,Xz,zo7,zo8,zo133,zo7,zo134,Yr,zo136,zo7,zo8,Aej,zo7,Ado,zo139,Afw,zo7,zo8,zo141,zo7,zo142,Aae,zo144,zo7,zo8,Aex,zo146,Yw,zo7,zo8,zo148,zo7,zo149,Xm,zo151,Afi,(Yt P),zo154,Acm,zo156,Aen,zo158,zo7,zo20,(Adv P),zo7,Aj3,zo163,Ako,zo7,zo8,zo165,zo7,zo166,Aft,zo168,zo7,zo8,Akm,zo7,Aj9,zo171,Ac9,zo7,zo8,zo173,zo7,zo174,Aec,zo176,zo7,zo8,Aj5,zo7,Aju,zo179,Af3,zo7,zo8,zo181,zo7,zo182,Af4,zo184,zo7,zo8,Akg,zo7,Ake,zo187,Ajv,zo7,zo8,zo189,zo7,zo190,Aj1,zo192,zo7,zo8,Akd,zo7,Aks,zo195,Ae9,zo7,zo8,zo197,zo7,zo198,Acp,zo200,Akq,(Ach P),zo203,Ajr,zo205,Akn,zo207,zo7,zo8,Aj8,zo209,Aeg,zo7,zo8,zo211,zo7,zo212,Aem,zo214,zo7,zo8,Aku,zo7,Ajz,zo217,Ac7,zo7,zo8,zo219,zo7,zo220,Ae5,zo222,zo7,zo8,Ajq,zo7,Ajx,zo225,Afj]⟩,{}⟩
abbrev pp:bQ:=PySem.Challenge.pw_belowpoints_k91_sums_boxes_kept_by_names
noncomputable def q0:bQ:={ pp with main:={ pp.main with body:=[0,2,3,4,6,7,9,10,12,13,14,15,16,17,18,19,20,21,23,25,26,27,29,30,31].map top } }
noncomputable def ev:Env:={ scope:=pp.main.scope,locals:=mainNs,globals:=mainNs,cells:=[],code:=(.ref 13),frame:=some 14 }
abbrev bd:List Stmt:=PySem.W.behindTheImports pp
abbrev cE:Code:=.body bd ev
abbrev tB:List Frame:=[kQ ⟨0,0,0,0⟩]
noncomputable def sl(i j:Nat):List Stmt:=(bd.drop i).take j
theorem Aoi(w:cC)(os:mD):PySem.W.topGo fE pp w 11 (some (.ref 6)) 12 ⟨eZ w.params,⟨[]⟩,mP,nE,os⟩ (sT pp)=some (⟨hA w.params,⟨[]⟩,{},187,os⟩,⟨denote fE cE,cE,⟨0,0,0,0⟩,tB⟩):=by
 rw[PySem.W.Fast.te15667345088766844465,dA,PySem.W.Fast.te11892475500146522536];kernel_rfl
theorem Agl(w:cC)(os:mD):tS fE pp w 11 (some (.ref 6)) 1 1 ⟨hA w.params,⟨[]⟩,{},187,os⟩ (sU bd ev cE ⟨0,0,0,0⟩ tB)=some (.next,qB ⟨t_0 w.params,15,{},⟨[]⟩,{},187,os⟩,cE,⟨0,0,0,0⟩):=by
 rw[PySem.W.Fast.te14374325043358763698,dA];kernel_rfl
theorem r_0(w:cC)(os:mD):oY fE pp w 11 (some (.ref 6)) 1 900 ⟨t_0 w.params,15,{},⟨[]⟩,{},187,os⟩ (oE (sl 0 14) ev cE ⟨0,0,0,0⟩ tB)=some (.next,⟨t_1 w.params,105,{},⟨[]⟩,{},306,os⟩,cE,⟨29,0,30,64⟩):=by
 rw[gK,dA];kernel_rfl
theorem r_1(w:cC)(os:mD):oY fE pp w 11 (some (.ref 6)) 1 789 ⟨t_1 w.params,105,{},⟨[]⟩,{},306,os⟩ (oE (sl 14 11) ev cE ⟨29,0,30,64⟩ tB)=some (.next,⟨t_2 w.params,244,{},⟨[]⟩,{},479,os⟩,cE,⟨89,0,89,8⟩):=by
 rw[gK,dA];kernel_rfl
theorem r_2(w:cC)(os:mD):oY fE pp w 11 (some (.ref 6)) 1 640 ⟨t_2 w.params,244,{},⟨[]⟩,{},479,os⟩ (oE (sl 25 7) ev cE ⟨89,0,89,8⟩ tB)=some (.next,⟨t_3 w.params,354,{},⟨[]⟩,{},618,os⟩,cE,⟨165,0,176,103⟩):=by
 rw[gK,dA];kernel_rfl
theorem Aob(w:cC)(os:mD):mQ fE pp w 11 (some (.ref 6)) 2 (qB ⟨t_3 w.params,354,{},⟨[]⟩,{},618,os⟩) (tT [] ev cE ⟨165,0,176,103⟩ tB)=some ⟨hZ w.params,⟨[]⟩,{},618,os⟩:=by
 rw[PySem.W.Fast.te14082659384304107361,dA];kernel_rfl
theorem bdE:bd=(sl 0 14++(sl 14 11++(sl 25 7++[]))):=by kernel_rfl
theorem Ajf{tb:String->Option gD}{p:bQ}{w:cC}{n₀:Nat}{ann:Option aC}{env:Env}{q:Pos}{n N:Nat}{s s1 r:aG}{b b1:List Stmt}{c:Code}{pos p1:Pos}(hb:b=b1)(h:tS tb p w n₀ ann 1 n s (sU b env c pos [kQ q])=some (.next,s1,c,p1))(k:mQ tb p w n₀ ann N s1 (tT b1 env c p1 [kQ q])=some r):mQ tb p w n₀ ann (n+N) s ⟨denote tb (.body b env),c,pos,[kQ q]⟩=some r:=by
 subst hb;exact PySem.W.piece_block h k
theorem An5(w:cC)(os:mD):mQ fE pp w 11 (some (.ref 6)) (12+(1+(900+(789+(640+2))))) ⟨eZ w.params,⟨[]⟩,mP,nE,os⟩ (sT pp)=some ⟨hZ w.params,⟨[]⟩,{},618,os⟩:=
 PySem.W.go_top (Aoi w os) (Ajf bdE (Agl w os) (nF (nG (r_0 w os)) (nF (nG (r_1 w os)) (nF (nG (r_2 w os)) (Aob w os)))))
theorem Anj:∀ w:cC,(PySem.W.fencedOpening fE pp w 4778).map (fun s=>(s.heap,s.gens,s.drawn,s.toks))=some (eZ w.params,Array.mk [],mP,nE):=
 PySem.W.boot_open (by kernel_rfl) (by decide) (fun s=>by kernel_rfl)
theorem Ank(w:cC):((eZ w.params).isNs bK&&(Array.mk []:Array kT).size == 0,(eZ w.params).objs.size,(eZ w.params).nsMap bK "__annotations__")=(true,11,(some (.ref 6))):=by
 rw[PySem.W.Fast.te8920871248978507458];kernel_rfl
noncomputable def K0(P:pK):aD:=(nat_lit 77,Ad4)::(nat_lit 84,zo61)::(nat_lit 89,Adm)::(nat_lit 94,zo67)::(nat_lit 99,Ac2)::(nat_lit 104,zo73)::(nat_lit 109,Ag0)::(nat_lit 116,zo82)::(nat_lit 123,Agd)::(nat_lit 128,zo89)::(nat_lit 135,Ait)::(nat_lit 140,zo96)::(nat_lit 147,Yn)::(nat_lit 154,zo104)::(nat_lit 168,zo112)::(nat_lit 175,Ye)::(nat_lit 182,zo120)::(nat_lit 189,X1)::(nat_lit 196,zo128)::(nat_lit 203,Xz)::(nat_lit 210,zo136)::(nat_lit 224,zo144)::(nat_lit 229,Yw)::(nat_lit 236,zo151)::(nat_lit 257,zo168)::(nat_lit 264,Ac9)::(nat_lit 271,zo176)::(nat_lit 278,Af3)::(nat_lit 285,zo184)::(nat_lit 306,Ae9)::(nat_lit 313,zo200)::(nat_lit 325,Aeg)::(nat_lit 332,zo214)::(nat_lit 339,Ac7)::(nat_lit 346,zo222)::(nat_lit 353,Afj)::(nat_lit 0,(gM P))::(nat_lit 1,(zo1 P))::(nat_lit 2,zo2)::(nat_lit 3,(Adb P))::(nat_lit 6,zo6)::(nat_lit 24,(Ael P))::(nat_lit 30,(Aca P))::(nat_lit 31,zo25)::(nat_lit 37,(Adw P))::(nat_lit 50,(Afz P))::(nat_lit 51,zo39)::(nat_lit 56,(Ae8 P))::(nat_lit 69,(Aeo P))::(nat_lit 70,zo52)::(nat_lit 76,zo56)::(nat_lit 83,Aez)::(nat_lit 88,zo63)::(nat_lit 93,Adl)::(nat_lit 98,zo69)::(nat_lit 103,Afn)::(nat_lit 108,zo77)::(nat_lit 115,Ahm)::(nat_lit 122,zo85)::(nat_lit 127,Af9)::(nat_lit 134,zo92)::(nat_lit 139,Aic)::(nat_lit 146,zo99)::(nat_lit 153,Ym)::(nat_lit 157,(Aak P))::(nat_lit 167,Aaj)::(nat_lit 174,zo115)::(nat_lit 181,Yl)::(nat_lit 188,zo123)::(nat_lit 195,Xq)::(nat_lit 202,zo131)::(nat_lit 209,Yr)::(nat_lit 223,Aae)::(nat_lit 228,zo146)::(nat_lit 235,Xm)::(nat_lit 238,(Yt P))::(nat_lit 239,zo154)::(nat_lit 246,(Adv P))::(nat_lit 256,Aft)::(nat_lit 263,zo171)::(nat_lit 270,Aec)::(nat_lit 277,zo179)::(nat_lit 284,Af4)::(nat_lit 305,zo195)::(nat_lit 312,Acp)::(nat_lit 315,(Ach P))::(nat_lit 316,zo203)::(nat_lit 324,zo209)::(nat_lit 331,Aem)::(nat_lit 338,zo217)::(nat_lit 345,Ae5)::(nat_lit 352,zo225)::[]
abbrev hK:PySem.W.Hook:=PySem.W.kHook K0 [nat_lit 77,nat_lit 84,nat_lit 89,nat_lit 94,nat_lit 99,nat_lit 104,nat_lit 109,nat_lit 116,nat_lit 123,nat_lit 128,nat_lit 135,nat_lit 140,nat_lit 147,nat_lit 154,nat_lit 168,nat_lit 175,nat_lit 182,nat_lit 189,nat_lit 196,nat_lit 203,nat_lit 210,nat_lit 224,nat_lit 229,nat_lit 236,nat_lit 257,nat_lit 264,nat_lit 271,nat_lit 278,nat_lit 285,nat_lit 306,nat_lit 313,nat_lit 325,nat_lit 332,nat_lit 339,nat_lit 346,nat_lit 353,nat_lit 0,nat_lit 1,nat_lit 2,nat_lit 3,nat_lit 6,nat_lit 24,nat_lit 30,nat_lit 31,nat_lit 37,nat_lit 50,nat_lit 51,nat_lit 56,nat_lit 69,nat_lit 70,nat_lit 76,nat_lit 83,nat_lit 88,nat_lit 93,nat_lit 98,nat_lit 103,nat_lit 108,nat_lit 115,nat_lit 122,nat_lit 127,nat_lit 134,nat_lit 139,nat_lit 146,nat_lit 153,nat_lit 157,nat_lit 167,nat_lit 174,nat_lit 181,nat_lit 188,nat_lit 195,nat_lit 202,nat_lit 209,nat_lit 223,nat_lit 228,nat_lit 235,nat_lit 238,nat_lit 239,nat_lit 246,nat_lit 256,nat_lit 263,nat_lit 270,nat_lit 277,nat_lit 284,nat_lit 305,nat_lit 312,nat_lit 315,nat_lit 316,nat_lit 324,nat_lit 331,nat_lit 338,nat_lit 345,nat_lit 352] (fun _=>by kernel_rfl)
theorem Aqu(w:cC)(os:mD):(PySem.W.staticsOk (importedModules pp.main.body) (eZ w.params) (hZ w.params)&&PySem.W.namesBound pp (hZ w.params)&&PySem.W.gensDone ⟨hZ w.params,⟨[]⟩,{},618,os⟩&&PySem.W.laidKept (eZ w.params) (hZ w.params))=true:=by
 rw[jS];kernel_rfl
theorem Aqt(w:cC)(os:mD):PySem.W.openSeen q0 [] (importedModules pp.main.body) (fun s=>yF q0 [] s&&yA [] s) true ⟨hZ w.params,⟨[]⟩,{},618,os⟩=PySem.W.openGood q0 []:=by
 rw[jS,PySem.W.Fast.te4187177175401517315];kernel_rfl
theorem Aqy(w:cC)(os:mD):hK.obs ⟨hZ w.params,⟨[]⟩,{},618,os⟩=hK.val w:=by kernel_rfl
theorem left:PySem.W.LeftO pp q0 [] (fun s=>yF q0 [] s&&yA [] s) hK.obs hK.val 4778:=
 PySem.W.LeftO.of_pieces Anj Ank An5 (by decide) fun w=>funext fun os=>Prod.ext (Aqu w os) (Prod.ext (Aqt w os) (Aqy w os))
end
theorem Aql{l:kW}{q:bQ}{loose:List Str}{XP:(Str->Option aC)->Heap->Prop}{YP:cC->Heap->Prop}{d:DefRec}{K:pK->aD}(hn:l.most=some 63)(hdf:d.params.defaults=[])
  (hY:∀ (w:cC) (h:Heap),YP w h->(K w.params).In h)
  (F:∀ (w:cC) (mg:Str->Option aC) (fa:Addr) (h:Heap),(K w.params).In h->h.Ns bK mg->mg d.name=some (.ref fa) ->
   ∃ fd:bT,(∀ (s:aG) (u:aC),pV s fd ⟨[u],[]⟩ [("script",u)])/\∀ base:Heap,(K w.params).In base->base.Ns bK mg->FnOk l.prog w (K w.params) mg base CX0 6 fa fd ["script"] (spF (K w.params) 1 Va)) :
  tV q loose XP YP l.row.toRowW d [] (fun f vs=>tF f vs):=
 L2.Ai9 (n:=63) (k:=6) (x := "script") (CX:=fun _=>CX0) (sp:=fun w=>spF (K w.params) 1 Va) hn (by decide) hdf ⟨rfl,by decide,by decide⟩ hY F (fun w H a ns hl ho hS=>Al5 ho hS (Ae2 ns hl)) fun _ _ _ _ _ z=>z
end Lw
open PySem PySem.W PyProof.Rows
set_option maxRecDepth 100000 in
set_option maxHeartbeats 0 in
theorem PySem.Challenge.cw_belowpoints_k91_sums_boxes_kept_by_names_holds : PySem.Challenge.rw_belowpoints_k91_sums_boxes_kept_by_names.Holds := by
  w_on; o_law
  refine holds_open (q := Lw.q0) (loose := []) (Xt := fun s => xlAt Lw.q0 [] s && recOk [] s) (XP := XL Lw.q0 []) (Yf := Lw.hK.obs) (Ya := Lw.hK.val) (YP := InK Lw.K0) Lw.left Lw.hK.of Lw.hK.keeps (fun s e => xl_of s (Bool.and_eq_true_iff.mp e).1) XL.keeps (by rfl) (by rfl) (by rfl) (fun s e => recFacts_of (Bool.and_eq_true_iff.mp e).2) (by rfl) (by first | assumption | decide +kernel) (by decide +kernel) ⟨rfl, rfl, rfl, rfl, rfl, by decide +kernel⟩ ?hw ?hc
  case hw => w_witness2
  k_fill
  refine Lw.Aql (l := PySem.Challenge.rw_belowpoints_k91_sums_boxes_kept_by_names) rfl rfl (K := Lw.K0) (fun w h Y => Y) ?F
  case F =>
    intro w mg fa h KX G hmg
    refine' Lw.Al4 KX G hmg ?aC_KeptPoints ?pg_KeptPoints ?hd_KeptPoints ?po_KeptPoints ?sa_KeptPoints ?aC_SumTree ?pg_SumTree ?hd_SumTree ?po_SumTree ?sa_SumTree ?mk_KeptPoints ?kc_KeptPoints ?mk_SumTree ?kc_SumTree ?nf_KeptPoints_points ?nf_SumTree_cells ?nf_SumTree_many ?a0 ?i0 ?l0 ?c0 ?k0 ?a1 ?l1 ?c1 ?k1 ?a2 ?i2 ?l2 ?c2 ?k2 ?a3 ?l3 ?c3 ?k3 ?a4 ?l4 ?c4 ?k4 ?a5 ?i5 ?l5 ?c5 ?k5 ?a6 ?l6 ?c6 ?k6 ?a7 ?i7 ?l7 ?c7 ?k7 ?a8 ?i8 ?l8 ?c8 ?k8 ?a9 ?l9 ?c9 ?k9 ?a10 ?l10 ?c10 ?k10 ?a11 ?l11 ?c11 ?k11 ?a12 ?i12 ?l12 ?c12 ?k12 ?a13 ?i13 ?l13 ?c13 ?k13 ?a14 ?i14 ?l14 ?c14 ?k14 ?a15 ?i15 ?l15 ?c15 ?k15 ?a16 ?i16 ?l16 ?c16 ?k16 ?a17 ?l17 ?c17 ?k17 ?a18 ?l18 ?c18 ?k18 ?a19 ?l19 ?c19 ?k19 ?a20 ?l20 ?c20 ?k20 ?a21 ?l21 ?c21 ?k21 ?a22 ?l22 ?c22 ?k22 ?a23 ?l23 ?c23 ?k23 ?a24 ?l24 ?c24 ?k24 ?a25 ?i25 ?l25 ?c25 ?k25 ?a26 ?l26 ?c26 ?k26 ?a27 ?i27 ?l27 ?c27 ?k27 ?a28 ?i28 ?l28 ?c28 ?k28 ?a29 ?i29 ?l29 ?c29 ?k29 ?a30 ?i30 ?l30 ?c30 ?k30 ?a31 ?i31 ?l31 ?c31 ?k31 ?a32 ?i32 ?l32 ?c32 ?k32 ?a33 ?l33 ?c33 ?k33 ?a34 ?l34 ?c34 ?k34 ?a35 ?l35 ?c35 ?k35 ?z_all ?z_enumerate ?z_len ?z_range ?z_set ?z_sorted ?z_sum ?z_tuple ?z_zip
    (case aC_KeptPoints => k_is)
    (case pg_KeptPoints => k_is)
    (case hd_KeptPoints => k_is)
    (case po_KeptPoints => k_is)
    (case sa_KeptPoints => k_is)
    (case aC_SumTree => k_is)
    (case pg_SumTree => k_is)
    (case hd_SumTree => k_is)
    (case po_SumTree => k_is)
    (case sa_SumTree => k_is)
    (case mk_KeptPoints => k_is)
    (case kc_KeptPoints => k_is)
    (case mk_SumTree => k_is)
    (case kc_SumTree => k_is)
    (case nf_KeptPoints_points => k_is)
    (case nf_SumTree_cells => k_is)
    (case nf_SumTree_many => k_is)
    (case a0 => k_is); (case i0 => k_is)
    (case l0 => k_is); (case c0 => k_is); (case k0 => k_is)
    (case a1 => k_is); (case l1 => k_is); (case c1 => k_is); (case k1 => k_is)
    (case a2 => k_is); (case i2 => k_is)
    (case l2 => k_is); (case c2 => k_is); (case k2 => k_is)
    (case a3 => k_is); (case l3 => k_is); (case c3 => k_is); (case k3 => k_is)
    (case a4 => k_is); (case l4 => k_is); (case c4 => k_is); (case k4 => k_is)
    (case a5 => k_is); (case i5 => k_is)
    (case l5 => k_is); (case c5 => k_is); (case k5 => k_is)
    (case a6 => k_is); (case l6 => k_is); (case c6 => k_is); (case k6 => k_is)
    (case a7 => k_is); (case i7 => k_is)
    (case l7 => k_is); (case c7 => k_is); (case k7 => k_is)
    (case a8 => k_is); (case i8 => k_is)
    (case l8 => k_is); (case c8 => k_is); (case k8 => k_is)
    (case a9 => k_is); (case l9 => k_is); (case c9 => k_is); (case k9 => k_is)
    (case a10 => k_is); (case l10 => k_is); (case c10 => k_is); (case k10 => k_is)
    (case a11 => k_is); (case l11 => k_is); (case c11 => k_is); (case k11 => k_is)
    (case a12 => k_is); (case i12 => k_is)
    (case l12 => k_is); (case c12 => k_is); (case k12 => k_is)
    (case a13 => k_is); (case i13 => k_is)
    (case l13 => k_is); (case c13 => k_is); (case k13 => k_is)
    (case a14 => k_is); (case i14 => k_is)
    (case l14 => k_is); (case c14 => k_is); (case k14 => k_is)
    (case a15 => k_is); (case i15 => k_is)
    (case l15 => k_is); (case c15 => k_is); (case k15 => k_is)
    (case a16 => k_is); (case i16 => k_is)
    (case l16 => k_is); (case c16 => k_is); (case k16 => k_is)
    (case a17 => k_is); (case l17 => k_is); (case c17 => k_is); (case k17 => k_is)
    (case a18 => k_is); (case l18 => k_is); (case c18 => k_is); (case k18 => k_is)
    (case a19 => k_is); (case l19 => k_is); (case c19 => k_is); (case k19 => k_is)
    (case a20 => k_is); (case l20 => k_is); (case c20 => k_is); (case k20 => k_is)
    (case a21 => k_is); (case l21 => k_is); (case c21 => k_is); (case k21 => k_is)
    (case a22 => k_is); (case l22 => k_is); (case c22 => k_is); (case k22 => k_is)
    (case a23 => k_is); (case l23 => k_is); (case c23 => k_is); (case k23 => k_is)
    (case a24 => k_is); (case l24 => k_is); (case c24 => k_is); (case k24 => k_is)
    (case a25 => k_is); (case i25 => k_is)
    (case l25 => k_is); (case c25 => k_is); (case k25 => k_is)
    (case a26 => k_is); (case l26 => k_is); (case c26 => k_is); (case k26 => k_is)
    (case a27 => k_is); (case i27 => k_is)
    (case l27 => k_is); (case c27 => k_is); (case k27 => k_is)
    (case a28 => k_is); (case i28 => k_is)
    (case l28 => k_is); (case c28 => k_is); (case k28 => k_is)
    (case a29 => k_is); (case i29 => k_is)
    (case l29 => k_is); (case c29 => k_is); (case k29 => k_is)
    (case a30 => k_is); (case i30 => k_is)
    (case l30 => k_is); (case c30 => k_is); (case k30 => k_is)
    (case a31 => k_is); (case i31 => k_is)
    (case l31 => k_is); (case c31 => k_is); (case k31 => k_is)
    (case a32 => k_is); (case i32 => k_is)
    (case l32 => k_is); (case c32 => k_is); (case k32 => k_is)
    (case a33 => k_is); (case l33 => k_is); (case c33 => k_is); (case k33 => k_is)
    (case a34 => k_is); (case l34 => k_is); (case c34 => k_is); (case k34 => k_is)
    (case a35 => k_is); (case l35 => k_is); (case c35 => k_is); (case k35 => k_is)
    (case z_all => k_is)
    (case z_enumerate => k_is)
    (case z_len => k_is)
    (case z_range => k_is)
    (case z_set => k_is)
    (case z_sorted => k_is)
    (case z_sum => k_is)
    (case z_tuple => k_is)
    (case z_zip => k_is)
