import PyProof.Rows.All
import Wide.All
import OpenK.AllK
import Wide.FinOn
import Lean
import PyProof.EqAt
import PyProof.EqKinds
import PyProof.TupleCall
import KE.KLam
import KE.KSortTup
import KE.KMinKey
import KE.KTurnsDict
import KE.KPairComp
import KE.KDictList
import PyProof.TupleOfSeq
import KE.KEqDict
import PySem.Challenge.RW_belowpoints_k26_heaviest_chains
set_option Elab.async false
set_option linter.all false
set_option maxRecDepth 100000
set_option maxHeartbeats 4000000
open Option renaming bind_some->aA,bind_eq_some_iff->aB,map_some->aD,map_eq_some_iff->aG,join_some->bB,getD_some->iX,isSome_iff_exists->jF,isSome_some->qB,isSome_map->qQ,none->wG
open PySem renaming wpAny_bind->aC,Value->aF,Shared->aL,wpAny_pure->aU,mainGlobals->bI,starEach->bS,Program->cU,FuncData->dA,wpAny_newObj_type->dG,wpAny_mono->dM,Around->dO,sizeLine_eq->dU,wpAny_field->dW,wpAny_holding->eC,World->eD,compareOp->eE,wpAny_Call_Name_kw->eF,wpAny_callSpecial?_slot->eK,boot_len->eN,wpAny_seqItems->eU,wpAny_call_entry->eY,bootBuiltins->fB,wpAny_truthy_bool->fD,wpAny_pyIter_tuple->fN,binaryOp->fX,wpAny_setField_rec->gQ,IsPair->gW,wpAny_passesOwn->gY,wpAny_loadPart'->gZ,codeAny_builtin->hV,mem_of_lookup->iF,wpAny_getItem_str_slice->iH,wpAny_tryCatch->iI,NameKind->iO,plainId_quiet->iS,wpAny_letGo->iU,Builtin->iW,Scope->iZ,wpAny_comprehension_free->jG,Keyword->jJ,Env->jQ,wpAny_pyIter_list->jR,codeAny->jT,wpAny_pyIter_enum->jV,Arguments->kD,wpAny_newList->kJ,wpAny_updateSeq_pair->kL,wpAny_execs_nil->kM,wpAny_updateSeq->kP,post_val_or_str->kW,evalArgs_none->kZ,builtinsNs->lP,call_meets->lX,wpAny_letOwnedTupleGo_enum->lY,wpAny_rule->lZ,IsZip->mB,slot_list_getitem->mN,wpAny_standAt->mR,evalPart_none->mU,wpAny_getItem_list_slice->mV,wpAny_onRaise->mY,wpAny_attempt->mZ,wpAny_pyNext_list_item->nR,richCompare_meets_room->nT,IsPart->nW,wpAny_typeOf->nX,codeAny_compStart_list->oA,pushCells_keeps->oK,wpAny_pyNext_list_end->oN,GenState->oV,wpAny_newFunctionEnv->pB,ZipApart->pC,wpAny_newTuple->pF,BindsTo->pL,rangeSize_one->pO,nums_intItems->pP,PlainAttrs->qA,tupleKind_room_in1->qC,call_range_1->qI,codeAny_mono->qM,wpAny_sequenceKey->qO,seqIndex_neg->qP,wpAny_Call_method->rB,meets_dict_values->rC,Paired->rG,wpAny_execs_cons->rH,PassesOwn->rJ,Result->rL,wpAny_forIn_list->rM,noFill_tuple_add->rN,TriplesOk->rQ,wpAny_isInstance->rT,wpAny_pyIter_zip->rV,wpAny_Slice->sC,seqIndex_of->sD,wpAny_Name->sV,wpAny_load->sW,typeIs_str->sZ,typeIs_int->tB,PyData->tE,Within->tU,call->wL
open PySem.Heap renaming get?_push_of_some->aE,get?_push_size->bC,lt_size->bD,size_push->dH,get?_update_self->kA,SameBut->lF,ExtBut->mO,get?_update_other->nZ,IsTuple->qT
open PySem.W renaming Frag->aH,nsIn->bM,keepIn->bY,codeIn->cF,mg_none_of->cI,fnOf->cJ,mg_of->cX,tabIn->dF,kia_one->dX,emptyDict->fE,kitOne->fF,instObj->gX,kas_ask->jE,findIn->jS,cellsFrom_some->jU,OpenLaw->lN,kas_sort->mE,methodObj->mI,kitx_list->mK,kas_rev->oD,envX->oE,lookIn->oW,kitx_tuple->pV,specialIn->qK,kitx_dict->qL,plainGet->rK,kat_cons->rX,kat_kind->rZ,kat_nil->sQ,kat_yes->sR,kla_obj->sS,KatTups->sT,KatLex->tH,kat_no->tI,kla_fn->tJ,kat_lt->tK,WalkO->tN,Looks->tR,isFn->tV
open List renaming getElem?_eq_getElem->aI,getElem?_eq_some_iff->aJ,getElem?_cons_zero->aK,mem_cons_of_mem->aM,length_cons->aN,map_cons->aO,getD_eq_getElem?_getD->aP,getElem?_cons_succ->aR,size_toArray->aS,mem_append_right->aT,length_map->aV,mem_cons_self->aW,range->aX,set_cons_succ->aZ,set_cons_zero->bA,mem_cons->bE,length_nil->bF,append_nil->bG,replicate->bJ,getElem?_append_left->bK,mem_range->bL,all_eq_true->bN,getElem?_map->bO,getElem?_set_self->bQ,getElem?_set_ne->bR,map_nil->bT,mem_of_getElem?->bV,length_reverse->bW,mem_filter->bX,lookup_cons->cA,mem_map->cB,length_range->cD,length_append->cG,mem_singleton->cH,Nodup->cM,map_congr_left->cO,getElem?_eq_none_iff->cP,cons_append->cQ,filter_cons_of_pos->cR,filter_cons_of_neg->cS,mem_append->cT,getElem?_append_right->cV,find?_cons->cW,nil_append->dB,map_map->dD,mem_append_left->dE,filter_eq_self->dL,append_assoc->dP,not_mem_nil->eG,replicate_zero->eI,reverse_cons->eJ,getElem?_eq_none->eR,getElem?_reverse->eS,length_filter_le->eT,getElem_mem->eZ,replicate_succ->fH,mem_map_of_mem->fJ,mem_take_iff_getElem->fL,pairwise_cons->fO,filterMap_cons->fW,take_of_length_le->gC,any_cons->gD,filter->gE,length_take->gF,mem_reverse->gH,mem_filterMap->gL,nodup_iff_pairwise_ne->gU,flatten_cons->hZ,take_add_one->iB,toArray->iC,length_pos_iff->iG,zip_cons_cons->iL,ext_getElem->iY,getElem?_zip_eq_some->jA,pairwise_iff_getElem->jB,getElem_of_mem->jD,range_succ->jK,filterMap_map->jL,filter_append->jP,eraseIdxIfInBounds_toArray->jY,eraseIdx_eq_take_drop_succ->jZ,filter_cons->kF,take_length->kG,all_cons->kI,nodup_cons->kN,forIn_cons->kO,map_append->kY,getElem?_range->lB,drop_eq_getElem_cons->mF,length->mM,length_drop->nF,eraseIdx_cons_succ->nG,any_eq_true->nL,nodup_range->nM,of_mem_zip->oF,length_set->oG,foldl_cons->oH,reverse_reverse->pD,forIn_nil->pE,getElem?_mapIdx->pG,drop_zero->pH,zip_nil_right->pX,any_eq_false->qJ,zip_nil_left->qN,pairwise_map->rD,filter_congr->rF,zipIdx_cons->rR,drop_length->rY,isEmpty_iff->sA,map_reverse->sB,map_id->sG,zipIdx_nil->sL,sum_append->sU,foldl->tD,map_take->tO,map_drop->tP,sum_cons->tQ
open Nat renaming le_refl->aQ,lt_of_lt_of_le->aY,ne_of_lt->bU,lt_irrefl->cC,le_trans->cK,lt_succ_self->dZ,sub_self->eW,zero_le->eX,le_succ->iA,ne_of_gt->iJ,pow_le_pow_right->iV,add_sub_cancel->jO,le_of_lt->lD,lt_succ_of_lt->mP,le_of_eq->nS,one_le_two_pow->qG,lt_trans->qR,le_succ_of_le->qU,sub_zero->qX,log2_lt->sE,two_pow_pos->sN,zero_add->tY
open Bool renaming false_eq_true->bH,and_eq_true->cE,false_ne_true->cL,not_true->iT,eq_iff_iff->kT,or_eq_true->oJ,and_eq_false_iff->oR,and_false->oZ,not_false->pK,and_true->pQ,not_eq_true'->rE,false_or->tM
open Option.some renaming inj->bP
open PySem.Obj renaming mapSeq->bZ,data_mapFields->qD
open Array renaming length_toList->cN,getD_eq_getD_getElem?->dR,getElem?_toList->fM,toList_append->lC,getElem?_eq_getElem->mH,append_assoc->pT,toList->qH,size_append->qY,ext->tT
open PySem.Builtin.SmallTypes renaming nextOf->cY,ownedTupleIsFree->eV,ownedTupleHandOut->jC
open PyProof.Rows renaming callWith_type1->cZ,slot_tuple_getitem->dS,IntsAre->fY,get?_update_seq->hU,listUpdate_at->jI,boot_max->kB,callWith_builtin1->kE,IsTup->mJ,boot_sorted->nA,AllBare->nQ,subscriptTail_builtinR->nY,boot_min->oQ,boot_sum->oU,seqEpoch_at->pI,entry_tuple_getitem->pM,args_tuple_getitem->pY,Subscript_->pZ,listItems_at->qZ,boot_range->sX,tail_any->sY,SortKind->tG
open PySem.Str renaming ofString->dC
open PySem.Heap.SameBut renaming update->dI
open PySem.Builtin.Int renaming intBits->dJ
open PySem.Builtin.Slice renaming slicePlaces->dN,sliceAdjust->fK,sliceApplied->gO,sliceFields->mD
open PySem.Builtin.Tuple renaming tupleExact->dQ,tupleCompareSizes->jX,tupleItemsOf->lV
open PySem.Value renaming ref->dY,none->eM,type->gJ,int->kC,str->lM,bool->nO,notImplemented->oY,isStrOf->tL,isInt->tZ,float->wC
open PySem.PyData renaming eqv->eA,canLay0->gR,depth->iN,eqvAll->jH,strOk->oB,canLayAll0->qW,depthAll->sM,list->wI
open PySem.F renaming plainAttrs_list->eB,plain_min_loop->eQ,slot_list_append->fR,type_list_append->fT,slot_tuple_iterator_next->gP,slot_dict_values->iE,slot_list_pop->jN,entry_min_loop->jW,args_tuple_iterator_next_1->kQ,slot_zip_next->kR,entry_tuple_iterator_next->lJ,args_dict_values_1->mC,entry_dict_values->mG,args_tuple_add_2->mT,type_dict_values->nB,args_tuple_lt_2->nD,entry_tuple_add->nE,plain_list_iadd->nI,plainAttrs_dict->nJ,entry_tuple_lt->nU,slot_tuple_add->nV,slot_tuple_lt->oO,slot_enumerate_next->oP,type_list_pop->oT,args_zip_next_1->qS,entry_list_pop->rP,entry_zip_next->rS,slot_int_rmul->sJ
open PySem.PassesOwn renaming never->eO
open Ne renaming symm->eP
open PySem.Around renaming under_plainId->fA,frames_deeper->oX,in1->qF
open Int renaming toNat_natCast->fG,ofNat->fP,emod_lt_of_pos->gT,emod_nonneg->iQ,natCast_nonneg->jM,zero_add->lL,max_eq_right->rO,min_eq_left->sH,ediv_nonneg->sO,ofNat_le->tW
open PySem.NameKind renaming cell->fQ,free->iR
open PySem.Builtin.Str renaming occurrences->fU
open False renaming elim->fV
open PySem.SeqAt renaming shaped->fZ,EqAt->pW
open PySem.Txt renaming slice->gG,mul->lH,slice_le->qV,join->tF
open PySem.Builtin.List renaming listTooLong->iD
open True renaming intro->iK
open PySem.Calls renaming callWith_builtin->iM,Name_function_global->lQ,spliced_cons->lR,spliced_nil->mL
open ForInStep renaming yield->iP
open Sum renaming inl->kH,inr->nN
open Prod.mk renaming inj->kK
open PySem.W.WData renaming weightAll->kX,int->nH,layableAll->rW,weight->tX,list->wJ
open PySem.Builtin.Builtins renaming bindParams->lK
open PySem.SeqAt.EqAt renaming int_int->lU,int_str->pR,str_int->pS,same->sI
open PySem.Heap.IsSliceOf renaming new->lW
open PySem.Paired renaming length->mQ,snoc->wH
open PySem.AutoSeq1 renaming sub_tuple_tuple->mS
open Or renaming inr->mW,inl->pA
open Function renaming comp->mX
open PySem.Builtin.Range renaming rangeSize->nC
open PySem.Builtin.Dict renaming updateFrom->nK
open List.cons renaming injEq->oM
open PySem.W.KatTups renaming cons->pJ,nil->pN
open PySem.Walks renaming list->qE
open PySem.W.Looks renaming now->rA
open PySem.Shared renaming heap->sF
open PySem.Heap.DictOf renaming new->sK
open StateT renaming run_pure->sP
open Int.ofNat renaming inj->tS
open PySem.Data renaming fields->wD
open PySem.IsRange renaming new->wF
open PySem.W.WShape renaming has->wK
open PyProof.Rows.SortSt renaming mk'->wM
namespace L2
open PySem PySem.Spec PyProof.Rows
abbrev Key:=Sum Int Str
noncomputable def Ta:Key->aF->Bool
 | .inl k,v=>tZ k v
 | .inr x,v=>tL x v
noncomputable def Ap1(w:eD):Key->Int
 | .inl k=>hashInt k
 | .inr x=>hashStr w x
theorem Cy:∀ {k:Key} {v:aF},Ta k v=true->(∃ i t,k=kH i/\v=kC i t)\/(∃ x t,k=nN x/\v=lM x t)
 | .inl i,v,h=>by
  obtain ⟨t,e⟩:=aF.isInt_shape (k:=i) (v:=v) h
  exact .inl ⟨i,t,rfl,e⟩
 | .inr x,v,h=>by
  obtain ⟨t,e⟩:=aF.isStrOf_shape (x:=x) (v:=v) h
  exact .inr ⟨x,t,rfl,e⟩
theorem Ab0(i:Int)(t:Tok):Ta (.inl i) (.int i t)=true:=by simp[Ta,tZ]
theorem Ada(x:Str)(t:Tok):Ta (.inr x) (.str x t)=true:=by simp[Ta,tL]
theorem Amy(a b:Int):decide ((kH a:Key)=kH b)=(a == b):=by
 by_cases e:a=b
 ·subst e;simp
 ·have h:¬ (kH a:Key)=kH b:=fun q=>e (kH.inj q)
  rw[decide_eq_false h]
  exact (beq_eq_false_iff_ne.mpr e).symm
theorem Am2(a b:Str):decide ((nN a:Key)=nN b)=decide (a=b):=by
 by_cases e:a=b
 ·subst e;simp
 ·have h:¬ (nN a:Key)=nN b:=fun q=>e (nN.inj q)
  rw[decide_eq_false h,decide_eq_false e]
theorem Ak2(a:Int)(b:Str):decide ((kH a:Key)=nN b)=false:=decide_eq_false (fun q=>nomatch q)
theorem Ak8(a:Str)(b:Int):decide ((nN a:Key)=kH b)=false:=decide_eq_false (fun q=>nomatch q)
noncomputable def Br(prog:cU)(w:eD):PySem.KeyKind prog w Key where
 is:=Ta
 hash:=Ap1 w
 inj:=fun v a b ha hb=>by
  rcases Cy ha with ⟨i,t,rfl,rfl⟩ | ⟨x,t,rfl,rfl⟩
  ·rcases Cy hb with ⟨j,u,rfl,e⟩ | ⟨y,u,rfl,e⟩
   ·injection e with e1 _;rw[e1]
   ·exact nomatch e
  ·rcases Cy hb with ⟨j,u,rfl,e⟩ | ⟨y,u,rfl,e⟩
   ·exact nomatch e
   ·injection e with e1 _;rw[e1]
 byValue:=fun k v h=>by
  rcases Cy h with ⟨i,t,rfl,rfl⟩ | ⟨x,t,rfl,rfl⟩ <;> rfl
 pyHash:=fun hv h=>by
  rcases Cy hv with ⟨i,t,rfl,rfl⟩ | ⟨x,t,rfl,rfl⟩
  ·exact wpAny_pyHash_int h
  ·exact wpAny_pyHash_str h
 eqBool:=fun hu hv h=>by
  rcases Cy hu with ⟨i,t,rfl,rfl⟩ | ⟨x,t,rfl,rfl⟩
  ·rcases Cy hv with ⟨j,u,rfl,rfl⟩ | ⟨y,u,rfl,rfl⟩
   ·rw[Amy] at h;exact wpAny_eqBool_int h
   ·rw[Ak2] at h;exact pR i t y u _ _ _ _ h
  ·rcases Cy hv with ⟨j,u,rfl,rfl⟩ | ⟨y,u,rfl,rfl⟩
   ·rw[Ak8] at h;exact pS x t j u _ _ _ _ h
   ·rw[Am2] at h;exact wpAny_eqBool_str h
 «strs» := fun k x t v h=>by
  rcases Cy h with ⟨i,u,rfl,e⟩ | ⟨y,u,rfl,e⟩
  ·exact nomatch e
  ·injection e with e1 _
   subst e1
   cases v <;> rfl
theorem U5(prog:cU)(w:eD)(i:Int)(t:Tok):(Br prog w).is (.inl i) (.int i t)=true:=Ab0 i t
theorem Vn(prog:cU)(w:eD)(x:Str)(t:Tok):(Br prog w).is (.inr x) (.str x t)=true:=Ada x t
inductive V where
 | non | bl (b:Bool) | int (i:Int) | str (x:Str) | byt (b:Array UInt8) | flt (b:UInt64) | ref (a:Addr) | ty (n:String)
 deriving DecidableEq
noncomputable def RelV:V->aF->Prop
 | .non,u=>u=eM
 | .bl b,u=>u=nO b
 | .int i,u=>∃ t,u=kC i t
 | .str x,u=>∃ t,u=lM x t
 | .byt b,u=>∃ t,u=aF.bytes b t
 | .flt b,u=>∃ t,u=wC b t
 | .ref a,u=>u=dY a
 | .ty n,u=>u=gJ n
abbrev Vals:List V->List aF->Prop:=rG RelV
variable {xs:List V}{us:List aF}
theorem Vals.length(r:Vals xs us):xs.length=us.length:=mQ r
variable {i:Nat}
theorem Vals.get{x:V}(h:Vals xs us)(e:xs[i]? = some x):∃ u,us[i]? = some u/\RelV x u:=by
 induction h generalizing i with
 | nil=>cases e
 | cons r t ih=>
  cases i with
  | zero=>cases e;exact ⟨_,rfl,r⟩
  | succ i=>exact ih (i:=i) e
variable {u:aF}
theorem Vals.set{x:V}(r:RelV x u)(i:Nat)(h:Vals xs us):Vals (xs.set i x) (us.set i u):=by
 induction h generalizing i with
 | nil=>exact .nil
 | cons q t ih=>
  cases i with
  | zero=>exact .cons r t
  | succ i=>exact .cons q (ih i)
variable {ys:List V}
theorem Vals.append{ws:List aF}(h:Vals xs us)(s:Vals ys ws):Vals (xs++ys) (us++ws):=by
 induction h with
 | nil=>exact s
 | cons r t ih=>exact .cons r ih
theorem Vals.take(n:Nat)(h:Vals xs us):Vals (xs.take n) (us.take n):=by
 induction h generalizing n with
 | nil=>cases n <;> exact .nil
 | cons r t ih=>
  cases n with
  | zero=>exact .nil
  | succ n=>exact .cons r (ih n)
theorem Vals.drop(n:Nat)(h:Vals xs us):Vals (xs.drop n) (us.drop n):=by
 induction h generalizing n with
 | nil=>cases n <;> exact .nil
 | cons r t ih=>
  cases n with
  | zero=>exact .cons r t
  | succ n=>exact ih n
theorem Vals.none_of:∀ {xs:List V} {us:List aF} {i:Nat},Vals xs us->xs[i]? = none->us[i]? = none:=fun {xs us i} r e=>by
 have h1:=r.length
 have h2:xs.length<=i:=cP.mp e
 exact cP.mpr (by omega)
noncomputable def RelO:Option V->Option aF->Prop
 | some v,some u=>RelV v u
 | none,none=>True
 | _,_=>False
noncomputable def KV{κ:Type}:List (κ×V)->List (κ×aF)->Prop:=rG fun (p:κ×V) (q:κ×aF)=>p.1=q.1/\RelV p.2 q.2
noncomputable def kV:Key->V
 | .inl i=>.int i
 | .inr x=>.str x
inductive HO where
 | lst (xs:List V)
 | tup (xs:List V)
 | dK (kvs:List (Key×V)) | dT (kvs:List (List Key×V))
 | set (S:Int->Bool) (n:Nat)
 | ins (C dx:Addr) (fs:List (Str×V))
 | own (x:Addr)
 | xd (fs:List (Str×V))
 | met (f x:Addr)
 | rng (lo hi:Int)
 | frz (o:Obj) (u:HO)
 | tbl (ps:Array aF)
 | ext (φ:Heap->Prop)
abbrev Hp:=Addr->Option HO
noncomputable def upd(H:Hp)(a:Addr)(o:HO):Hp:=fun b=>if b=a then some o else H b
variable {H:Hp}{a:Addr}{o:HO}
theorem upd_same:upd H a o a=some o:=by unfold upd;rw[if_pos rfl]
variable {b:Addr}
theorem Aq(h:b≠a):upd H a o b=H b:=by unfold upd;rw[if_neg h]
theorem Kp{u:HO}(h:H a=some o)(h':H b=some u)(d:o≠u):a≠b:=by
 intro e;subst e;rw[h] at h';exact d (bP h')
theorem Ba(h:H a=some o)(h':H b=none):a≠b:=by
 intro e;subst e;rw[h] at h';cases h'
noncomputable def TupN(h:Heap)(a:Addr)(its:Array aF):Prop:=∃ o:Obj,h.get? a=some o/\(o.cls,o.dict)=(gJ "tuple",(none:Option Addr))/\∃ n,o.data = .seq its n
variable {h:Heap}
theorem TupN.is{its:Array aF}(x:TupN h a its):h.IsTuple a its:=by
 obtain ⟨o,e,c,n,d⟩:=x
 exact ⟨o,e,(kK c).1,n,d⟩
theorem TupN.new(h:Heap)(its:Array aF):TupN (h.push { cls:=.type "tuple",data:=.seq its }) h.objs.size its:=⟨_,bC _ rfl,rfl,0,rfl⟩
theorem TupN.lt{its:Array aF}(x:TupN h a its):a < h.objs.size:=by
 obtain ⟨o,e,_⟩:=x;exact bD e
section
variable (P:cU)(w:eD)
noncomputable def ObjOk(H:Hp)(h:Heap)(a:Addr):HO->Prop
 | .lst xs=>xs.length<=sizeLine/\∃ (its:List aF) (n:Nat),Vals xs its/\h.get? a=some { cls:=.type "list",data:=.seq its.toArray n }
 | .tup xs=>xs.length<=sizeLine/\∃ its:List aF,Vals xs its/\TupN h a its.toArray
 | .dK kvs=>kvs.length<=sizeLine/\(a == sysModules)=false/\∃ vs,KV kvs vs/\h.DictOf (Br P w) a vs
 | .dT kvs=>kvs.length<=sizeLine/\(a == sysModules)=false/\∃ xs:List (List Key×Addr×aF),
   rG (fun (p:List Key×V) (q:List Key×Addr×aF)=>p.1=q.1/\H q.2.1=some (.tup (p.1.map kV))/\RelV p.2 q.2.2) kvs xs /\
   ∃ o es ep,h.get? a=some o/\o.ExactDict/\o.data = .dict es ep/\es.toList=xs.map (entryOfKey (tupleKind (Br P w)))/\(xs.map (·.1)).Nodup
 | .set S n=>h.SetOf (intKind P w) a S n
 | .ins C dx fs=>H dx=some (.own a)/\fs.length<=1000/\dx≠a/\h.get? a=some (gX C dx) /\
   ∃ mA,h.Ns1 dx mA/\(∀ f,RelO (fs.lookup f) (mA f))/\tU mA (fs.map (·.1))
 | .own _=>∃ o,h.get? a=some o
 | .xd fs=>∃ mA,h.Ns1 a mA/\∀ f,RelO (fs.lookup f) (mA f)
 | .rng lo hi=>∃ t u v,h.get? a=some { cls:=.type "range",data:=.fields #[.int lo t,.int hi u,.int 1 v] }
 | .frz o u=>h.get? a=some o/\ObjOk H h a u
 | .tbl ps=>h.get? a=some { cls:=.none,data:=.fields ps }
 | .met f x=>h.get? a=some (mI (.ref f) (.ref x))
 | .ext φ=>φ h/\(∃ o,h.get? a=some o)/\∀ h1 h2:Heap,φ h1->(∀ o,h1.get? a=some o->h2.get? a=some o)->φ h2
noncomputable def HOk(H:Hp)(h:Heap):Prop:=∀ a o,H a=some o->ObjOk P w H h a o
end
variable {P:cU}{w:eD}{H':Hp}{h':Heap}
section
theorem ObjOk.lt(x:ObjOk P w H h a o):a < h.objs.size:=by
 cases o with
 | lst xs=>obtain ⟨_,_,_,_,e⟩:=x;exact bD e
 | tup xs=>obtain ⟨_,_,_,p⟩:=x;exact p.lt
 | dK kvs=>obtain ⟨_,_,_,_,o,_,_,e,_⟩:=x;exact bD e
 | dT kvs=>obtain ⟨_,_,_,_,o,_,_,e,_⟩:=x;exact bD e
 | set S n=>obtain ⟨o,_,_,_,e,_⟩:=x;exact bD e
 | ins C dx fs=>obtain ⟨_,_,_,e,_⟩:=x;exact bD e
 | own y=>obtain ⟨_,e⟩:=x;exact bD e
 | xd fs=>obtain ⟨_,⟨_,_,_,e,_⟩,_⟩:=x;exact bD e
 | rng lo hi=>obtain ⟨_,_,_,e⟩:=x;exact bD e
 | frz ob u=>obtain ⟨e,_⟩:=x;exact bD e
 | tbl ps=>exact bD (show h.get? a=some _ from x)
 | met f y=>exact bD (show h.get? a=some _ from x)
 | ext φ=>obtain ⟨_,⟨_,e⟩,_⟩:=x;exact bD e
theorem Paired.mapP{α β:Type}{F G:α->β->Prop}{l₁:List α}{l₂:List β}(h:rG F l₁ l₂)(f:∀ a b,F a b->G a b):rG G l₁ l₂:=by
 induction h with
 | nil=>exact .nil
 | cons r t ih=>exact .cons (f _ _ r) ih
theorem ObjOk.stay(x:ObjOk P w H h a o)(k:∀ b u,(b=a\/H b=some (.own a))->h.get? b=some u->h'.get? b=some u)
  (ho:∀ b,H b=some (.own a)->H' b=some (.own a)) (ht:∀ b xs,H b=some (.tup xs)->H' b=some (.tup xs)):ObjOk P w H' h' a o:=by
 induction o with
 | lst xs=>obtain ⟨z,its,n,r,e⟩:=x;exact ⟨z,its,n,r,k _ _ (.inl rfl) e⟩
 | tup xs=>obtain ⟨z,its,r,ob,e,c⟩:=x;exact ⟨z,its,r,ob,k _ _ (.inl rfl) e,c⟩
 | dK kvs=>obtain ⟨z,y,vs,r,ob,es,ep,e,c⟩:=x;exact ⟨z,y,vs,r,ob,es,ep,k _ _ (.inl rfl) e,c⟩
 | dT kvs=>
  obtain ⟨z,y,xs,r,ob,es,ep,e,c⟩:=x
  exact ⟨z,y,xs,Paired.mapP r fun p q z=>⟨z.1,ht _ _ z.2.1,z.2.2⟩,ob,es,ep,k _ _ (.inl rfl) e,c⟩
 | set S n=>obtain ⟨ob,es,ep,t,e,c⟩:=x;exact ⟨ob,es,ep,t,k _ _ (.inl rfl) e,c⟩
 | ins C dx fs=>
  obtain ⟨d,z,ne,e,mA,⟨od,es,ep,e2,c⟩,r⟩:=x
  exact ⟨ho _ d,z,ne,k _ _ (.inl rfl) e,mA,⟨od,es,ep,k _ _ (.inr d) e2,c⟩,r⟩
 | own y=>obtain ⟨ob,e⟩:=x;exact ⟨ob,k _ _ (.inl rfl) e⟩
 | xd fs=>obtain ⟨mA,⟨od,es,ep,e,c⟩,r⟩:=x;exact ⟨mA,⟨od,es,ep,k _ _ (.inl rfl) e,c⟩,r⟩
 | rng lo hi=>obtain ⟨t,u,v,e⟩:=x;exact ⟨t,u,v,k _ _ (.inl rfl) e⟩
 | frz ob u ih=>obtain ⟨e,q⟩:=x;exact ⟨k _ _ (.inl rfl) e,ih q⟩
 | tbl ps=>
  have e:h.get? a=some { cls:=.none,data:=.fields ps }:=x
  show h'.get? a=some { cls:=.none,data:=.fields ps }
  exact k a _ (.inl rfl) e
 | met f y=>
  have e:h.get? a=some (mI (.ref f) (.ref y)):=x
  show h'.get? a=some (mI (.ref f) (.ref y))
  exact k a _ (.inl rfl) e
 | ext φ=>obtain ⟨p,⟨o,e⟩,st⟩:=x;exact ⟨st _ _ p fun o q=>k _ _ (.inl rfl) q,⟨o,k _ _ (.inl rfl) e⟩,st⟩
theorem HOk.lt(x:HOk P w H h)(e:H a=some o):a < h.objs.size:=(x a o e).lt
theorem HOk.fresh(x:HOk P w H h)(e:h.objs.size<=a):H a=none:=by
 cases q:H a with
 | none=>rfl
 | some u=>exact absurd (aY (x.lt q) e) (cC _)
theorem HOk.kept(x:HOk P w H h)(k:∀ b u,h.get? b=some u->h'.get? b=some u):HOk P w H h':=fun a o e=>
 (x a o e).stay (fun b u _ q=>k b u q) (fun _ q=>q) fun _ _ q=>q
theorem HOk.laid(x:HOk P w H h)(k:∀ b u,h.get? b=some u->h'.get? b=some u)(hp:h.objs.size<=a)(new:ObjOk P w (upd H a o) h' a o):HOk P w (upd H a o) h':=fun b u e=>by
 have hn:=x.fresh hp
 by_cases hb:b=a
 ·subst hb;rw[upd_same] at e;cases e;exact new
 ·rw[Aq hb] at e
  exact (x b u e).stay (fun c v _ q=>k c v q) (fun c q=>by rw[Aq (Ba q hn)];exact q) fun c xs q=>by rw[Aq (Ba q hn)];exact q
end
noncomputable def Rd(H:Hp)(a:Addr)(u:HO):Prop:=H a=some u\/∃ o,H a=some (.frz o u)
theorem Rd.of{u:HO}(h:H a=some u):Rd H a u:=.inl h
theorem Rd.ok{u:HO}(r:Rd H a u)(x:HOk P w H h):ObjOk P w H h a u:=by
 rcases r with r | ⟨o,r⟩
 ·exact x a u r
 ·obtain ⟨_,q⟩:=x a _ r
  exact q
noncomputable def Mut:Option HO->Prop
 | some (.lst _)=>True
 | some (.dK _)=>True
 | some (.dT _)=>True
 | some (.set _ _)=>True
 | some (.ins _ _ _)=>True
 | some (.ext _)=>True
 | _=>False
section
variable {x e:Addr}{o':HO}
theorem HOk.write(ok:HOk P w H h)(mu:Mut (H x))(he:e=x\/H e=some (.own x))(k:∀ b u,b≠e->h.get? b=some u->h'.get? b=some u)(heo:∃ u,h'.get? e=some u)
  (new:ObjOk P w (upd H x o') h' x o'):HOk P w (upd H x o') h':=fun b u q=>by
 have nown:∀ c y,H c=some (.own y)->c≠x:=fun c y r z=>by subst z;rw[r] at mu;exact mu
 have ntup:∀ c xs,H c=some (.tup xs)->c≠x:=fun c xs r z=>by subst z;rw[r] at mu;exact mu
 by_cases hb:b=x
 ·subst hb;rw[upd_same] at q;cases q;exact new
 ·rw[Aq hb] at q
  by_cases hbe:b=e
  ·have q':H b=some (.own x):=by
    rcases he with z | z
    ·exact absurd (hbe.trans z) hb
    ·rw[hbe];exact z
   rw[q] at q';cases q'
   obtain ⟨v,hv⟩:=heo
   exact ⟨v,by rw[hbe];exact hv⟩
  ·refine (ok b u q).stay (fun c v hc r=>k c v ?_ r) (fun c r=>by rw[Aq (nown c b r)];exact r) fun c xs r=>by rw[Aq (ntup c xs r)];exact r
   rcases hc with rfl | hc
   ·exact hbe
   ·rintro rfl
    rcases he with z | z
    ·exact nown c b hc z
    ·rw[hc] at z;cases z;exact hb rfl
end
structure Un(fs ex:List Addr)(H H':Hp)(h h':Heap):Prop where
 keep:∀ b o,h.get? b=some o->H b=none->b∉fs->b∉ex->h'.get? b=some o
 slot:∀ b o,h.get? b=some o->H b=none->b∈fs->b∉ex->∃ sl,h'.get? b=some { o with slots:=sl }
 free:∀ b o,h.get? b=some o->H b=none->b∉ex->H' b=none
 there:∀ b o,h.get? b=some o->b∉ex->∃ o',h'.get? b=some o'
 tups:∀ b xs,H b=some (.tup xs)->H' b=some (.tup xs)
 frzs:∀ b o u,H b=some (.frz o u)->H' b=some (.frz o u)
 tbls:∀ b ps,H b=some (.tbl ps)->∃ more,H' b=some (.tbl (ps++more))
section
variable {fs fs' ex ex':List Addr}{H1 H2:Hp}{h1 h2:Heap}{x e:Addr}
theorem Un.any(u:Un fs ex H H1 h h1){ob:Obj}(q:h.get? b=some ob)(n:H b=none)(hx:b∉ex):∃ sl,h1.get? b=some { ob with slots:=sl }:=by
 by_cases hb:b∈fs
 ·exact u.slot b ob q n hb hx
 ·exact ⟨ob.slots,u.keep b ob q n hb hx⟩
theorem Un.trans(a:Un fs ex H H1 h h1)(b:Un fs ex H1 H2 h1 h2):Un fs ex H H2 h h2 where
 keep:=fun c ob q n hc hx=>b.keep c ob (a.keep c ob q n hc hx) (a.free c ob q n hx) hc hx
 slot:=fun c ob q n hc hx=>by
  obtain ⟨sl,e1⟩:=a.slot c ob q n hc hx
  obtain ⟨sl',e2⟩:=b.slot c _ e1 (a.free c ob q n hx) hc hx
  exact ⟨sl',e2⟩
 free:=fun c ob q n hx=>by
  obtain ⟨o',e1⟩:=a.there c ob q hx
  exact b.free c o' e1 (a.free c ob q n hx) hx
 there:=fun c ob q hx=>by
  obtain ⟨o',e1⟩:=a.there c ob q hx
  exact b.there c o' e1 hx
 tups:=fun c xs q=>b.tups c xs (a.tups c xs q)
 frzs:=fun c ob xs q=>b.frzs c ob xs (a.frzs c ob xs q)
 tbls:=fun c ps q=>by
  obtain ⟨m1,e1⟩:=a.tbls c ps q
  obtain ⟨m2,e2⟩:=b.tbls c _ e1
  exact ⟨m1++m2,by rw[e2,pT]⟩
theorem Un.kept(k:∀ b u,h.get? b=some u->h'.get? b=some u):Un fs ex H H h h':=
 ⟨fun b ob q _ _ _=>k b ob q,fun b ob q _ _ _=>⟨ob.slots,k b ob q⟩,fun _ _ _ n _=>n,fun b ob q _=>⟨ob,k b ob q⟩,fun _ _ q=>q,fun _ _ _ q=>q,fun _ ps q=>⟨#[],by rw[q];simp⟩⟩
theorem Un.refl:Un fs ex H H h h:=Un.kept fun _ _ q=>q
theorem Un.laid(k:∀ b u,h.get? b=some u->h'.get? b=some u)(hp:h.objs.size<=a)(hn:H a=none):Un fs ex H (upd H a o) h h' where
 keep:=fun b u q _ _ _=>k b u q
 slot:=fun b u q _ _ _=>⟨u.slots,k b u q⟩
 free:=fun b u q n _=>by rw[Aq (bU (aY (bD q) hp))];exact n
 there:=fun b u q _=>⟨u,k b u q⟩
 tups:=fun b xs q=>by rw[Aq (Ba q hn)];exact q
 frzs:=fun b u xs q=>by rw[Aq (Ba q hn)];exact q
 tbls:=fun b ps q=>⟨#[],by rw[Aq (Ba q hn),q];simp⟩
theorem Un.write(mu:Mut (H x))(he:e=x\/H e=some (.own x))(k:∀ b u,b≠e->h.get? b=some u->h'.get? b=some u)(heo:∃ u,h'.get? e=some u):Un fs ex H (upd H x o) h h':=by
 have hx:∀ b,H b=none->b≠x:=fun b n z=>by subst z;rw[n] at mu;exact mu
 have hb:∀ b,H b=none->b≠e:=fun b n z=>by
  subst z
  rcases he with r | r
  ·exact hx b n r
  ·rw[n] at r;cases r
 have hm:∀ b u,H b=some u->¬ Mut (some u)->b≠x:=fun b u q nm z=>by subst z;rw[q] at mu;exact nm mu
 refine ⟨fun b u q n _ _=>k b u (hb b n) q,fun b u q n _ _=>⟨u.slots,k b u (hb b n) q⟩,fun b u q n _=>by rw[Aq (hx b n)];exact n,fun b u q _=>?_,
  fun b xs q=>by rw[Aq (hm b _ q fun z=>z)];exact q,fun b u xs q=>by rw[Aq (hm b _ q fun z=>z)];exact q,fun b ps q=>⟨#[],by rw[Aq (hm b _ q fun z=>z),q];simp⟩⟩
 by_cases hbe:b=e
 ·subst hbe;exact heo
 ·exact ⟨u,k b u hbe q⟩
theorem Un.mono(u:Un fs ex H H1 h h1)(hs:∀ b∈fs,b∈fs')(hx:∀ b∈ex,b∈ex'):Un fs' ex' H H1 h h1:=
 ⟨fun b ob q n hb he=>u.keep b ob q n (fun z=>hb (hs b z)) fun z=>he (hx b z),fun _ _ q n _ he=>u.any q n fun z=>he (hx _ z),fun b ob q n he=>u.free b ob q n fun z=>he (hx b z),fun b ob q he=>u.there b ob q fun z=>he (hx b z),u.tups,u.frzs,u.tbls⟩
end
noncomputable def trk(h:Heap)(H:Hp):List Addr:=(aX h.objs.size).filter fun a=>(H a).isSome
noncomputable def R1(h:Heap)(H:Hp):Heap:=PySem.W.hideAll h (trk h H)
theorem Abo(h:Heap)(H:Hp):(R1 h H).objs.size=h.objs.size:=PySem.W.hideAll_size _ _
theorem Afl{o:Obj}(e:h.get? b=some o)(n:H b=none):(R1 h H).get? b=some o:=
 PySem.W.hideAll_get _ e fun hm=>by
  have q:(H b).isSome=true:=(bX.mp hm).2
  rw[n] at q;simp at q
theorem Ajv{o:Obj}(e:(R1 h H).get? b=some o):h.get? b=some o/\H b=none:=by
 have e':h.get? b=some o:=PySem.W.of_hideAll (trk h H) e
 refine ⟨e',?_⟩
 cases q:H b with
 | none=>rfl
 | some x=>
  have hm:b∈trk h H:=bX.mpr ⟨bL.mpr (bD e'),by simp[q]⟩
  have z:(R1 h H).get? b=none:=PySem.W.hideAll_none (trk h H) hm
  rw[z] at e;cases e
noncomputable def Aiy(g h:Heap)(L:Addr):List (Addr×Obj):=(aX h.objs.size).filterMap fun a=>if a=L\/(g.get? a).isSome=true then none else (h.get? a).map fun o=>(a,o)
noncomputable def rest(g h:Heap)(L d:Addr):List (Addr×Obj):=(Aiy g h L).filter fun p=>decide (p.1≠d)
structure Mod(K:aH)(mg:Str->Option aF)(base:Heap):Prop where
 kin:K.In base
 glob:base.Ns bI mg
 blt:∃ mb,base.Ns lP mb/\∀ x:Str,x ≠ "__name__" -> mb x=fB x
 nolimit:base.NoLimit
structure Cx where
 prog:cU
 w:eD
 K:aH
 mg:Str->Option aF
 base:Heap
 A:dO
 N:List Str
 s₀:aL
 H₀:Hp
 env:Env
 outer:List Env
 stack:List Env
 ex:List Addr
 fn:Str->Bool
 calm:Bool
 pn:List (Addr×Obj)
 xe:aF->aL->Prop
noncomputable def frs(l:List Env):List Addr:=l.filterMap (·.frame)
noncomputable abbrev Cx.fs(X:Cx):List Addr:=frs X.outer
noncomputable def Vis(sc:iZ)(x:Str):Prop:=sc.names.lookup x=some .local\/sc.names.lookup x=some .cell\/sc.names.lookup x=some .free
noncomputable def Loc(sc:iZ)(x:Str):Prop:=sc.names.lookup x=some .local\/sc.names.lookup x=some .cell
noncomputable def Apq(env:Env)(h:Heap)(m:Str->Option aF)(x:Str)(u:aF):Prop:=
 (env.kindOf x=some .local/\m x=some u)\/((env.kindOf x=some .cell\/env.kindOf x=some .free)/\∃ c,env.cells.lookup x=some c/\h.IsCell c (some u))
structure Cx.Ok(X:Cx):Prop where
 mod:Mod X.K X.mg X.base
 kind:X.env.scope.kind = .function
 glob:X.env.globals=bI
 blt:X.env.builtins=lP
 above:X.s₀.heap.objs.size<=X.env.locals
 inj:∀ x y c,X.env.cells.lookup x=some c->X.env.cells.lookup y=some c->x=y
 has:∀ x,(X.env.kindOf x=some .cell\/X.env.kindOf x=some .free)->∃ c,X.env.cells.lookup x=some c
 cab:∀ x c,X.fn x=true->X.env.cells.lookup x=some c->X.s₀.heap.objs.size<=c
 hd:X.calm=true->X.A.handled=none
 frames:X.A.frames=some X.stack
 stk:X.stack=X.outer\/(X.stack=X.env::X.outer/\X.env.frame=some X.env.locals)
 exf:∀ b∈X.ex,b≠X.env.locals/\∀ x c,X.env.cells.lookup x=some c->c≠b
 bs:∀ b o,X.base.get? b=some o->X.s₀.heap.get? b=some o/\X.H₀ b=none
 bsz:X.base.objs.size<=X.s₀.heap.objs.size
 noex:∀ b o,X.base.get? b=some o->b∉X.ex
 exfs:∀ b∈X.ex,b∉X.fs
 funs:X.s₀.heap.FunFrames X.base X.outer
 frf:∀ b∈X.fs,X.H₀ b=none
structure Inv(X:Cx)(pins:List (Addr×Obj))(σ:List (Option V))(H:Hp)(s:aL):Prop where
 ok:X.Ok
 os:s.os=X.s₀.os
 bare:nQ s.gens
 base:Un X.fs X.ex X.H₀ H X.s₀.heap s.heap
 loc:∃ m,s.heap.Ns X.env.locals m/\∀ (i:Nat) (x:Str) (v:V),X.N[i]? = some x->σ[i]? = some (some v)->Vis X.env.scope x->∃ u,RelV v u/\Apq X.env s.heap m x u
 cell:∀ x c,X.env.cells.lookup x=some c->∃ v,s.heap.IsCell c v
 free:H X.env.locals=none
 freeC:∀ x c,X.env.cells.lookup x=some c->H c=none
 pin:∀ p∈X.pn++pins,s.heap.get? p.1=some p.2/\H p.1=none/\p.1≠X.env.locals/\p.1∉X.fs/\∀ v,p.2.data≠.cell v
 hok:HOk X.prog X.w H s.heap
 len:σ.length=X.N.length
variable {x:Str}{X:Cx}{pins:List (Addr×Obj)}{s s':aL}{t' j:Nat}{ch:List Addr}{M:Model}{A:dO}{E:aF->aL->Prop}{v:V}
section
variable {σ:List (Option V)}
theorem Cx.Ok.nofr(ok:X.Ok){o:Obj}(e:X.base.get? b=some o):b∉X.fs:=fun hb=>by
 have:=(ok.funs.mem hb).1
 rw[e] at this;cases this
theorem Inv.bs(I:Inv X pins σ H s):∀ b o,X.base.get? b=some o->s.heap.get? b=some o/\H b=none:=fun b o e=>
 ⟨I.base.keep b o (I.ok.bs b o e).1 (I.ok.bs b o e).2 (I.ok.nofr e) (I.ok.noex b o e),I.base.free b o (I.ok.bs b o e).1 (I.ok.bs b o e).2 (I.ok.noex b o e)⟩
theorem Inv.bk(I:Inv X pins σ H s):∀ b o,X.base.get? b=some o->s.heap.get? b=some o:=fun b o e=>(I.bs b o e).1
theorem Inv.mod(I:Inv X pins σ H s):Mod X.K X.mg X.base:=I.ok.mod
theorem Inv.kIn(I:Inv X pins σ H s):X.K.In s.heap:=I.ok.mod.kin.keeps I.bk
theorem Inv.nolimit(I:Inv X pins σ H s):s.heap.NoLimit:=I.ok.mod.nolimit.keeps I.bk
theorem Inv.fr(I:Inv X pins σ H s):∃ m,Fr X.base X.env.locals s.heap m:=
 let ⟨m,hn,_⟩:=I.loc
 ⟨m,hn,I.bk,cK I.ok.bsz I.ok.above⟩
theorem Inv.lt(I:Inv X pins σ H s):X.env.locals < s.heap.objs.size:=let ⟨_,hn,_⟩:=I.loc;hn.lt
theorem Inv.sz(I:Inv X pins σ H s):X.s₀.heap.objs.size<=s.heap.objs.size:=cK I.ok.above (lD I.lt)
theorem Inv.nofs(I:Inv X pins σ H s)(h:s.heap.objs.size<=a):a∉X.fs:=fun hb=>by
 obtain ⟨_,o,ho,_⟩:=I.ok.funs.mem hb
 exact absurd (aY (bD ho) (cK I.sz h)) (cC _)
theorem Inv.cne(I:Inv X pins σ H s):∀ x c,X.env.cells.lookup x=some c->c≠X.env.locals:=fun x c e z=>by
 obtain ⟨v,o,ho,hd⟩:=I.cell x c e
 obtain ⟨m,⟨o',es,ep,ho',hd',_⟩,_⟩:=I.loc
 rw[z,ho'] at ho;cases ho;rw[hd'] at hd;cases hd
theorem Inv.funs(I:Inv X pins σ H s):s.heap.FunFrames X.base X.outer:=by
 have all:∀ (l:List Env),(∀ b∈frs l,b∈X.fs)->X.s₀.heap.FunFrames X.base l->s.heap.FunFrames X.base l:=by
  intro l
  induction l with
  | nil=>intro _ _;trivial
  | cons env r ih=>
   intro hs hl
   obtain ⟨hk,⟨L,o,hf,hn,ho,hd⟩,hr⟩:=hl
   have hL:L∈X.fs:=hs L (by unfold frs;rw[fW,hf];exact aW)
   obtain ⟨sl,e⟩:=I.base.slot L o ho (I.ok.frf L hL) hL fun z=>I.ok.exfs L z hL
   exact ⟨hk,⟨L,_,hf,hn,e,hd⟩,ih (fun b hb=>hs b (by unfold frs;rw[fW,hf];exact aM _ hb)) hr⟩
 exact all X.outer (fun _ hb=>hb) I.ok.funs
theorem Inv.stack(I:Inv X pins σ H s):s.heap.FunFrames X.base X.stack:=by
 rcases I.ok.stk with e | ⟨e,hf⟩
 ·rw[e];exact I.funs
 ·rw[e]
  obtain ⟨m,hn,_⟩:=I.loc
  refine .cons (by rw[I.ok.kind];decide) hf hn ?_ I.funs
  exact Heap.get?_none_of_le (cK I.ok.bsz I.ok.above)
theorem Inv.stkSub(I:Inv X pins σ H s):∀ b∈frs X.stack,b∈X.env.locals::X.fs:=fun b hb=>by
 rcases I.ok.stk with e | ⟨e,hf⟩
 ·rw[e] at hb;exact aM _ hb
 ·rw[e] at hb
  unfold frs at hb
  rw[fW,hf] at hb
  exact hb
theorem Inv.stkFree(I:Inv X pins σ H s):∀ b∈frs X.stack,H b=none:=fun b hb=>by
 rcases bE.mp (I.stkSub b hb) with e | hb
 ·rw[e];exact I.free
 ·obtain ⟨_,o,ho,_⟩:=I.ok.funs.mem hb
  exact I.base.free b o ho (I.ok.frf b hb) fun z=>I.ok.exfs b z hb
theorem Inv.step{g':Array oV}{d':Drawn}(I:Inv X pins σ H s)
  (hch:∀ b∈ch,(b∈X.ex\/X.s₀.heap.objs.size<=b)/\b≠X.env.locals/\(∀ x c,X.env.cells.lookup x=some c->c≠b)/\∀ p∈X.pn++pins,p.1≠b)
  (keep:∀ b o,b≠X.env.locals->b∉X.fs->b∉ch->s.heap.get? b=some o->H b=none->h'.get? b=some o)
  (slot:∀ b o,b≠X.env.locals->b∈X.fs->b∉ch->s.heap.get? b=some o->H b=none->∃ sl,h'.get? b=some { o with slots:=sl }) (free:∀ b o,b∉ch->s.heap.get? b=some o->H b=none->H' b=none)
  (there:∀ b o,b∉ch->s.heap.get? b=some o->∃ o',h'.get? b=some o')
  (tups:∀ b xs,H b=some (.tup xs)->H' b=some (.tup xs)) (frzs:∀ b o u,H b=some (.frz o u)->H' b=some (.frz o u)) (tbls:∀ b ps,H b=some (.tbl ps)->∃ more,H' b=some (.tbl (ps++more)))
  (ns:∀ m,s.heap.Ns X.env.locals m->h'.Ns X.env.locals m) (hok:HOk X.prog X.w H' h') (hg:nQ g') :
  Inv X pins σ H' { s with heap:=h',gens:=g',drawn:=d',toks:=t' }:=by
 have neL:∀ b o,X.s₀.heap.get? b=some o->b≠X.env.locals:=fun b o e=>bU (aY (bD e) I.ok.above)
 have neC:∀ b o,X.s₀.heap.get? b=some o->b∉X.ex->b∉ch:=fun b o e hx hb=>by
  rcases (hch b hb).1 with z | z
  ·exact hx z
  ·exact absurd (aY (bD e) z) (cC _)
 have cellK:∀ x c,X.env.cells.lookup x=some c->∀ v,s.heap.IsCell c v->h'.IsCell c v:=fun x c e v zz=>by
  obtain ⟨o,ho,hd⟩:=zz
  have nch:c∉ch:=fun z=>(hch c z).2.2.1 x c e rfl
  by_cases hc:c∈X.fs
  ·obtain ⟨sl,q⟩:=slot c o (I.cne x c e) hc nch ho (I.freeC x c e)
   exact ⟨_,q,hd⟩
  ·exact ⟨o,keep c o (I.cne x c e) hc nch ho (I.freeC x c e),hd⟩
 refine ⟨I.ok,I.os,hg,⟨fun b o e n hb hx=>?_,fun b o e n hb hx=>?_,fun b o e n hx=>?_,fun b o e hx=>?_,fun b xs e=>tups b xs (I.base.tups b xs e),fun b o xs e=>frzs b o xs (I.base.frzs b o xs e),fun b ps e=>?_⟩,?_,fun x c e=>?_,?_,fun x c e=>?_,fun p hp=>?_,hok,I.len⟩
 ·exact keep b o (neL b o e) hb (neC b o e hx) (I.base.keep b o e n hb hx) (I.base.free b o e n hx)
 ·obtain ⟨sl,e1⟩:=I.base.slot b o e n hb hx
  obtain ⟨sl',e2⟩:=slot b _ (neL b o e) hb (neC b o e hx) e1 (I.base.free b o e n hx)
  exact ⟨sl',e2⟩
 ·obtain ⟨o',e1⟩:=I.base.there b o e hx
  exact free b o' (neC b o e hx) e1 (I.base.free b o e n hx)
 ·obtain ⟨o',e1⟩:=I.base.there b o e hx
  exact there b o' (neC b o e hx) e1
 ·obtain ⟨m1,e1⟩:=I.base.tbls b ps e
  obtain ⟨m2,e2⟩:=tbls b _ e1
  exact ⟨m1++m2,by rw[e2,pT]⟩
 ·obtain ⟨m,hn,hl⟩:=I.loc
  refine ⟨m,ns m hn,fun i x v e1 e2 e3=>?_⟩
  obtain ⟨u,r,l⟩:=hl i x v e1 e2 e3
  refine ⟨u,r,?_⟩
  rcases l with l | ⟨k,c,e,z⟩
  ·exact .inl l
  ·exact .inr ⟨k,c,e,cellK x c e _ z⟩
 ·obtain ⟨v,z⟩:=I.cell x c e
  exact ⟨v,cellK x c e v z⟩
 ·obtain ⟨m,⟨o,_,_,ho,_⟩,_⟩:=I.loc
  exact free _ o (fun z=>(hch _ z).2.1 rfl) ho I.free
 ·obtain ⟨v,o,ho,hd⟩:=I.cell x c e
  exact free c o (fun z=>(hch c z).2.2.1 x c e rfl) ho (I.freeC x c e)
 ·obtain ⟨e,n,ne,nf,d⟩:=I.pin p hp
  have nch:p.1∉ch:=fun z=>(hch p.1 z).2.2.2 p hp rfl
  exact ⟨keep p.1 p.2 ne nf nch e n,free p.1 p.2 nch e n,ne,nf,d⟩
theorem Inv.un(I:Inv X pins σ H s)(u:Un X.fs [] H H' s.heap h')(hok:HOk X.prog X.w H' h'):Inv X pins σ H' { s with heap:=h',toks:=t' }:=by
 obtain ⟨m,⟨o,es,ep,ho,r⟩,_⟩:=id I.loc
 obtain ⟨sl,hL⟩:=u.any ho I.free (by simp)
 exact I.step (g':=s.gens) (d':=s.drawn) (ch:=[]) (fun _ z=>nomatch z) (fun b o _ hb _ e n=>u.keep b o e n hb (by simp)) (fun b o _ hb _ e n=>u.slot b o e n hb (by simp)) (fun b o _ e n=>u.free b o e n (by simp)) (fun b o _ e=>u.there b o e (by simp)) u.tups u.frzs u.tbls (fun m' hm=>by
  obtain ⟨o',es',ep',ho',r'⟩:=hm
  rw[ho] at ho';cases ho'
  exact ⟨_,es',ep',hL,r'⟩) hok I.bare
theorem Inv.call{g':Array oV}{d':Drawn}(I:Inv X pins σ H s)(u:Un (frs X.stack) ch H H' s.heap h')(hok:HOk X.prog X.w H' h')(hg:nQ g')
  (hch:∀ b∈ch,(b∈X.ex\/X.s₀.heap.objs.size<=b)/\b≠X.env.locals/\(∀ x c,X.env.cells.lookup x=some c->c≠b)/\∀ p∈X.pn++pins,p.1≠b) :
  Inv X pins σ H' { s with heap:=h',gens:=g',drawn:=d',toks:=t' }:=by
 obtain ⟨m,⟨o,es,ep,ho,r⟩,_⟩:=id I.loc
 obtain ⟨sl,hL⟩:=u.any ho I.free fun z=>(hch _ z).2.1 rfl
 exact I.step (ch:=ch) hch (fun b o hL hb hc e n=>u.keep b o e n (fun z=>(bE.mp (I.stkSub b z)).elim hL hb) hc) (fun b o _ _ hc e n=>u.any e n hc) (fun b o hc e n=>u.free b o e n hc) (fun b o hc e=>u.there b o e hc) u.tups u.frzs u.tbls (fun m' hm=>by
  obtain ⟨o',es',ep',ho',r'⟩:=hm
  rw[ho] at ho';cases ho'
  exact ⟨_,es',ep',hL,r'⟩) hok hg
theorem Inv.turned{it:Addr}(I:Inv X pins σ H s)(k:∀ b o,b≠it->s.heap.get? b=some o->h'.get? b=some o)(hn:H it=none)(hL:it≠X.env.locals)
  (h1:it∈X.ex\/X.s₀.heap.objs.size<=it) (h2:∀ x c,X.env.cells.lookup x=some c->c≠it) (h3:∀ p∈X.pn++pins,p.1≠it):Inv X pins σ H { s with heap:=h',toks:=t' }:=by
 have nit:∀ b u,H b=some u->b≠it:=fun b u e z=>by rw[z,hn] at e;cases e
 refine I.step (g':=s.gens) (d':=s.drawn) (ch:=[it]) (fun b hb=>?_) (fun b o _ _ hc e _=>k b o (fun z=>hc (by simp[z])) e) (fun b o _ _ hc e _=>⟨o.slots,k b o (fun z=>hc (by simp[z])) e⟩) (fun _ _ _ _ n=>n)
  (fun b o hc e=>⟨o,k b o (fun z=>hc (by simp[z])) e⟩) (fun _ _ e=>e) (fun _ _ _ e=>e) (fun b ps e=>⟨#[],by rw[e];simp⟩) (fun m hm=>?_) (fun b u e=>?_) I.bare
 ·have e:b=it:=by simpa using hb
  subst e
  exact ⟨h1,hL,h2,h3⟩
 ·obtain ⟨o,es,ep,ho,r⟩:=hm
  exact ⟨o,es,ep,k _ o (eP hL) ho,r⟩
 ·refine (I.hok b u e).stay (fun c v hc q=>k c v ?_ q) (fun _ q=>q) fun _ _ q=>q
  rcases hc with z | z
  ·rw[z];exact nit b u e
  ·exact nit c _ z
theorem Inv.tok(I:Inv X pins σ H s)(t:Nat):Inv X pins σ H { s with toks:=t }:=I.un (h':=s.heap) (t':=t) Un.refl I.hok
theorem Inv.kept(I:Inv X pins σ H s)(k:∀ b u,s.heap.get? b=some u->h'.get? b=some u):Inv X pins σ H { s with heap:=h',toks:=t' }:=I.un (Un.kept k) (I.hok.kept k)
theorem Inv.laid(I:Inv X pins σ H s)(k:∀ b u,s.heap.get? b=some u->h'.get? b=some u)(hp:s.heap.objs.size<=a)(new:ObjOk X.prog X.w (upd H a o) h' a o) :
  Inv X pins σ (upd H a o) { s with heap:=h',toks:=t' }:=I.un (Un.laid k hp (I.hok.fresh hp)) (I.hok.laid k hp new)
theorem Inv.write{x e:Addr}(I:Inv X pins σ H s)(mu:Mut (H x))(he:e=x\/H e=some (.own x))(k:∀ b u,b≠e->s.heap.get? b=some u->h'.get? b=some u)(heo:∃ u,h'.get? e=some u)
  (new:ObjOk X.prog X.w (upd H x o) h' x o):Inv X pins σ (upd H x o) { s with heap:=h',toks:=t' }:=I.un (Un.write mu he k heo) (I.hok.write mu he k heo new)
theorem Inv.pins_of{pins':List (Addr×Obj)}(I:Inv X pins σ H s)(h:∀ p∈pins',s.heap.get? p.1=some p.2/\H p.1=none/\p.1≠X.env.locals/\p.1∉X.fs/\∀ v,p.2.data≠.cell v):Inv X pins' σ H s:=
 ⟨I.ok,I.os,I.bare,I.base,I.loc,I.cell,I.free,I.freeC,fun p hp=>(cT.mp hp).elim (fun z=>I.pin p (dE _ z)) (h p),I.hok,I.len⟩
theorem Ve{N:List Str}(hN:N.Nodup)(a:N[i]? = some x)(b:N[j]? = some x):i=j:=by
 obtain ⟨h1,e1⟩:=aJ.mp a
 obtain ⟨h2,e2⟩:=aJ.mp b
 exact (List.getElem_inj hN).mp (e1.trans e2.symm)
theorem Adg{Q:Unit->aL->Prop}(I:Inv X pins σ H s)(hN:X.N.Nodup)(hi:X.N[i]? = some x)(hx:Loc X.env.scope x)(r:RelV v u)
  (h:∀ s',Inv X pins (σ.set i (some v)) H s'->(∃ a,lF a s.heap s'.heap/\(a=X.env.locals\/X.env.cells.lookup x=some a))->Q () s') (hf:X.fn x=true\/X.env.scope.names.lookup x=some .local:=by first | exact .inl rfl | exact .inr rfl | assumption):wpAny M A (storeName X.env x u) Q E s:=by
 obtain ⟨m,hn,hl⟩:=id I.loc
 have hcls:(X.env.scope.kind == .class || (X.env.scope.kind == .module&&X.env.locals != X.env.globals))=false:=by rw[I.ok.kind];rfl
 have hiσ:i < σ.length:=by rw[I.len];exact (aJ.mp hi).1
 have cne:=I.cne
 have tracked:∀ {a:Addr} {h':Heap},(∃ o,s.heap.get? a=some o/\H a=none)->lF a s.heap h'->HOk X.prog X.w H h':=fun {a h'} ha hs b ob e=>by
  obtain ⟨_,_,hfree⟩:=ha
  refine (I.hok b ob e).stay (fun c w' hc q=>(hs.2 c ?_).trans q) (fun _ q=>q) fun _ _ q=>q
  rintro rfl
  rcases hc with rfl | hc
  ·rw[hfree] at e;cases e
  ·rw[hfree] at hc;cases hc
 rcases hx with hk | hk
 ·refine wpAny_storeName_local hk hn (fun h' hn' hs=>?_) hcls
  obtain ⟨oL,_,_,hoL,_⟩:=id hn
  refine h _ ⟨I.ok,I.os,I.bare,⟨fun b o e n hb hx=>?_,fun b o e n hb hx=>?_,I.base.free,fun b o e hx=>?_,I.base.tups,I.base.frzs,I.base.tbls⟩,⟨_,hn',fun j y v' e1 e2 e3=>?_⟩,fun y c e=>?_,I.free,I.freeC,fun p hp=>?_,tracked ⟨oL,hoL,I.free⟩ hs,by simpa using I.len⟩ ⟨_,hs,.inl rfl⟩
  ·exact (hs.2 b (bU (aY (bD e) I.ok.above))).trans (I.base.keep b o e n hb hx)
  ·obtain ⟨sl,e1⟩:=I.base.slot b o e n hb hx
   exact ⟨sl,(hs.2 b (bU (aY (bD e) I.ok.above))).trans e1⟩
  ·obtain ⟨o',e1⟩:=I.base.there b o e hx
   exact ⟨o',(hs.2 b (bU (aY (bD e) I.ok.above))).trans e1⟩
  ·by_cases hj:j=i
   ·subst hj
    rw[hi] at e1;cases e1
    rw[bQ hiσ] at e2
    cases e2
    exact ⟨u,r,.inl ⟨hk,by simp⟩⟩
   ·rw[bR (eP hj)] at e2
    obtain ⟨u',r',q⟩:=hl j y v' e1 e2 e3
    refine ⟨u',r',?_⟩
    rcases q with ⟨k,e⟩ | ⟨k,c,e,z⟩
    ·refine .inl ⟨k,?_⟩
     have:y≠x:=fun e=>hj (Ve hN e1 (e ▸ hi))
     simp[this,e]
    ·exact .inr ⟨k,c,e,z.sameBut hs (cne y c e)⟩
  ·obtain ⟨w',z⟩:=I.cell y c e
   exact ⟨w',z.sameBut hs (cne y c e)⟩
  ·obtain ⟨e,n,ne,nf,d⟩:=I.pin p hp
   exact ⟨(hs.2 p.1 ne).trans e,n,ne,nf,d⟩
 ·have hfn:X.fn x=true:=by
   rcases hf with z | z
   ·exact z
   ·rw[z] at hk;cases hk
  obtain ⟨c,hc⟩:=I.ok.has x (.inl hk)
  obtain ⟨w',z⟩:=I.cell x c hc
  refine wpAny_storeName_cell I.ok.kind hk hc z (fun h' hc' hs=>?_)
  obtain ⟨oc,hoc,hocd⟩:=id z
  refine h { s with heap:=h' } ⟨I.ok,I.os,I.bare,⟨fun b o e n hb hx=>?_,fun b o e n hb hx=>?_,I.base.free,fun b o e hx=>?_,I.base.tups,I.base.frzs,I.base.tbls⟩,⟨m,hn.sameBut hs (eP (cne x c hc)),fun j y v' e1 e2 e3=>?_⟩,fun y c' e=>?_,I.free,I.freeC,fun p hp=>?_,tracked ⟨oc,hoc,I.freeC x c hc⟩ hs,by simpa using I.len⟩ ⟨c,hs,.inr hc⟩
  ·exact (hs.2 b (bU (aY (bD e) (I.ok.cab x c hfn hc)))).trans (I.base.keep b o e n hb hx)
  ·obtain ⟨sl,e1⟩:=I.base.slot b o e n hb hx
   exact ⟨sl,(hs.2 b (bU (aY (bD e) (I.ok.cab x c hfn hc)))).trans e1⟩
  ·obtain ⟨o',e1⟩:=I.base.there b o e hx
   exact ⟨o',(hs.2 b (bU (aY (bD e) (I.ok.cab x c hfn hc)))).trans e1⟩
  ·by_cases hj:j=i
   ·subst hj
    rw[hi] at e1;cases e1
    rw[bQ hiσ] at e2
    cases e2
    exact ⟨u,r,.inr ⟨.inl hk,c,hc,hc'⟩⟩
   ·rw[bR (eP hj)] at e2
    obtain ⟨u',r',q⟩:=hl j y v' e1 e2 e3
    refine ⟨u',r',?_⟩
    rcases q with q | ⟨k,c',e,z'⟩
    ·exact .inl q
    ·refine .inr ⟨k,c',e,z'.sameBut hs ?_⟩
     rintro rfl
     exact hj (Ve hN e1 (I.ok.inj _ _ _ e hc ▸ hi))
  ·by_cases hcc:c'=c
   ·subst hcc;exact ⟨_,hc'⟩
   ·obtain ⟨w2,z2⟩:=I.cell y c' e
    exact ⟨w2,z2.sameBut hs hcc⟩
  ·obtain ⟨e,n,ne,nf,d⟩:=I.pin p hp
   refine ⟨(hs.2 p.1 ?_).trans e,n,ne,nf,d⟩
   intro q
   rw[q,hoc] at e
   have q':oc=p.2:=bP e
   exact d w' (by rw[<- q'];exact hocd)
theorem V3{Q:Unit->aL->Prop}(I:Inv X pins σ H s)(hN:X.N.Nodup)(hi:X.N[i]? = some x)(hx:Loc X.env.scope x)(r:RelV v u)
  (h:∀ s',Inv X pins (σ.set i (some v)) H s'->Q () s') (hf:X.fn x=true\/X.env.scope.names.lookup x=some .local:=by first | exact .inl rfl | exact .inr rfl | assumption):wpAny M A (storeName X.env x u) Q E s:=
 Adg I hN hi hx r (fun s' I' _=>h s' I') hf
theorem Inv.call'(I:Inv X pins σ H s)(ho:s'.os=s.os)(u:Un (frs X.stack) ch H H' s.heap s'.heap)(hok:HOk X.prog X.w H' s'.heap)(hg:nQ s'.gens)
  (hch:∀ b∈ch,(b∈X.ex\/X.s₀.heap.objs.size<=b)/\b≠X.env.locals/\(∀ x c,X.env.cells.lookup x=some c->c≠b)/\∀ p∈X.pn++pins,p.1≠b):Inv X pins σ H' s':=by
 obtain ⟨h',g',d',t',o'⟩:=s'
 have e:o'=s.os:=ho
 subst e
 exact I.call (g':=g') (t':=t') (d':=d') u hok hg hch
end
abbrev XK:=aF->Option Addr->Hp->Prop
abbrev St:=List (Option V)
abbrev VK:=V->Hp->Prop
abbrev TE:=St->Hp->VK->Prop
abbrev TT:=St->Hp->(Bool->Hp->Prop)->Prop
abbrev TA:=St->Hp->(List V->Hp->Prop)->Prop
structure Ends where
 nx:St->Hp->Prop
 rt:VK
 bk:St->Hp->Prop:=fun _ _=>False
 ct:St->Hp->Prop:=fun _ _=>False
abbrev TS:=Ends->St->Hp->Prop
inductive EP(X:Cx)(pins:List (Addr×Obj))(σ:St)(Q:VK)(u:aF)(s':aL):Prop
 | mk (v:V) (H':Hp) (I:Inv X pins σ H' s') (r:RelV v u) (q:Q v H'):EP X pins σ Q u s'
inductive TP(X:Cx)(pins:List (Addr×Obj))(σ:St)(Q:Bool->Hp->Prop)(b:Bool)(s':aL):Prop
 | mk (H':Hp) (I:Inv X pins σ H' s') (q:Q b H'):TP X pins σ Q b s'
inductive AP(X:Cx)(pins:List (Addr×Obj))(σ:St)(Q:List V->Hp->Prop)(us:List aF)(s':aL):Prop
 | mk (vs:List V) (H':Hp) (I:Inv X pins σ H' s') (r:Vals vs us) (q:Q vs H'):AP X pins σ Q us s'
variable {σ:St}{Q:VK}
theorem EP.elim{C:Prop}(h:EP X pins σ Q u s')(k:∀ v H',Inv X pins σ H' s'->RelV v u->Q v H'->C):C:=h.rec k
theorem AP.elim{Q:List V->Hp->Prop}{C:Prop}(h:AP X pins σ Q us s')(k:∀ vs H',Inv X pins σ H' s'->Vals vs us->Q vs H'->C):C:=h.rec k
noncomputable def SP(X:Cx)(pins:List (Addr×Obj))(D:Ends)(f:Flow)(s':aL):Prop:=
 match f with
 | .next=>∃ σ' H',Inv X pins σ' H' s'/\D.nx σ' H'
 | .brk=>∃ σ' H',Inv X pins σ' H' s'/\D.bk σ' H'
 | .cont=>∃ σ' H',Inv X pins σ' H' s'/\D.ct σ' H'
 | .ret u=>∃ v σ' H',Inv X pins σ' H' s'/\RelV v u/\D.rt v H'
noncomputable def PE(X:Cx)(e:Expr)(t:TE):Prop:=
 ∀ (pins:List (Addr×Obj)) (s:aL) (σ:St) (H:Hp) (Q:VK),Inv X pins σ H s->t σ H Q->wpAny (model X.prog X.w) X.A (eval e X.env) (EP X pins σ Q) X.xe s
noncomputable def PT(X:Cx)(e:Expr)(t:TT):Prop:=
 ∀ (pins:List (Addr×Obj)) (s:aL) (σ:St) (H:Hp) (Q:Bool->Hp->Prop),Inv X pins σ H s->t σ H Q->wpAny (model X.prog X.w) X.A (isTrue e X.env (eval e X.env)) (TP X pins σ Q) X.xe s
noncomputable def PW(X:Cx)(e:Expr)(t:TT):Prop:=
 ∀ (whole:Sem aF) (pins:List (Addr×Obj)) (s:aL) (σ:St) (H:Hp) (Q:Bool->Hp->Prop),Inv X pins σ H s->t σ H Q->wpAny (model X.prog X.w) X.A (isTrue e X.env whole) (TP X pins σ Q) X.xe s
variable {e:Expr}
theorem PW.pt{t:TT}(h:PW X e t):PT X e t:=h _
noncomputable def PA(X:Cx)(es:List Expr)(t:TA):Prop:=
 ∀ (pos:Pos) (pins:List (Addr×Obj)) (s:aL) (σ:St) (H:Hp) (Q:List V->Hp->Prop),Inv X pins σ H s->t σ H Q->wpAny (model X.prog X.w) X.A (spliced (backTo pos (bS es X.env))) (AP X pins σ Q) X.xe s
noncomputable def PS(X:Cx)(st:Stmt)(t:TS):Prop:=
 ∀ (pins:List (Addr×Obj)) (s:aL) (σ:St) (H:Hp) (D:Ends),Inv X pins σ H s->t D σ H->wpAny (model X.prog X.w) X.A (exec st X.env) (SP X pins D) X.xe s
noncomputable def PSs(X:Cx)(st:List Stmt)(t:TS):Prop:=
 ∀ (pins:List (Addr×Obj)) (s:aL) (σ:St) (H:Hp) (D:Ends),Inv X pins σ H s->t D σ H->wpAny (model X.prog X.w) X.A (execs st X.env) (SP X pins D) X.xe s
theorem thn{α:Type}{t:Sem α}{Q Q':α->aL->Prop}(h:wpAny M A t Q E s)(hQ:∀ a s,Q a s->Q' a s):wpAny M A t Q' E s:=dM h hQ fun _ _ x=>x
variable {pos:Pos}{ta tb:TE}
section
noncomputable def Ao7(i:Nat):TE:=fun σ H Q=>∃ v,σ[i]? = some (some v)/\Q v H
noncomputable def tC(v:V):TE:=fun _ H Q=>Q v H
theorem Afe(hN:X.N[i]? = some x)(hv:Vis X.env.scope x)(hd:(x == ("__debug__" : Str))=false:=by decide)(hcd:(x == ("__classdict__" : Str))=false:=by decide):PE X (.Name x pos) (Ao7 i):=by
 intro pins s σ H Q I h
 obtain ⟨v,e,h⟩:=h
 obtain ⟨m,hn,hl⟩:=I.loc
 obtain ⟨u,r,l⟩:=hl i x v hN e hv
 have fin:EP X pins σ Q u s:=⟨v,H,I,r,h⟩
 rcases l with ⟨hk,hm⟩ | ⟨hk,c,hc,hcell⟩
 ·exact sV (wpAny_loadName_local I.ok.kind hk hn hm fin) hd
 ·rcases hk with hk | hk
  ·exact sV (wpAny_loadName_cell I.ok.kind hk hc hcell fin) hd
  ·exact sV (wpAny_loadName_free I.ok.kind hk hc hcell fin hcd) hd
theorem Am3{i j pos}:PE X (.Constant (.int i) j pos) (tC (.int i)):=fun _ _ _ H _ I h=>wpAny_Constant_int ⟨.int i,H,I.tok _,⟨_,rfl⟩,h⟩
theorem Akc{b j pos}:PE X (.Constant (.bool b) j pos) (tC (.bl b)):=fun _ _ _ H _ I h=>Constant_bool ⟨.bl b,H,I,rfl,h⟩
theorem Amf{j pos}:PE X (.Constant .none j pos) (tC .non):=fun _ _ _ H _ I h=>Constant_none ⟨.non,H,I,rfl,h⟩
theorem Aly{x j pos}:PE X (.Constant (.str x) j pos) (tC (.str x)):=fun _ _ _ H _ I h=>Calls.Constant_str ⟨.str x,H,I.tok _,⟨_,rfl⟩,h⟩
noncomputable def Gl(X:Cx)(x:Str):Prop:=X.env.kindOf x=some .globalImplicit
theorem Ajn{Q:aF->aL->Prop}(I:Inv X pins σ H s)(hg:Gl X x)(hm:X.mg x=some u)(h:Q u s)
  (hd:(x == ("__debug__" : Str))=false:=by decide):wpAny (model X.prog X.w) X.A (eval (.Name x pos) X.env) Q E s:=
 lQ I.ok.kind hg (Calls.loadGlobal_global (by rw[I.ok.glob];exact I.mod.glob.keeps I.bk) hm h) hd
theorem Fv{Q:aF->aL->Prop}(I:Inv X pins σ H s)(hg:Gl X x)(hm:X.mg x=none)(hv:fB x=some u)(h:Q u s)
  (hn:x ≠ "__name__" := by decide) (hd:(x == ("__debug__" : Str))=false:=by decide):wpAny (model X.prog X.w) X.A (eval (.Name x pos) X.env) Q E s:=by
 obtain ⟨mb,h1,h2⟩:=I.mod.blt
 exact lQ I.ok.kind hg (Calls.loadGlobal_builtin (by rw[I.ok.glob];exact I.mod.glob.keeps I.bk) hm (by rw[I.ok.blt];exact h1.keeps I.bk) ((h2 x hn).trans hv) h) hd
theorem Ah8(hg:Gl X x)(hm:X.mg x=none)(hv:fB x=some u)(r:RelV v u)(hn:x ≠ "__name__" := by decide)(hd:(x == ("__debug__" : Str))=false:=by decide):PE X (.Name x pos) (tC v):=
 fun _ _ _ H _ I h=>Fv I hg hm hv ⟨v,H,I,r,h⟩ hn hd
variable {a b:Expr}
variable {tA tB':TT}{rest:List Expr}
noncomputable def Api(t u:TT):TT:=fun σ H Q=>t σ H fun c H1=>if c=true then u σ H1 Q else Q false H1
noncomputable def tOr(t u:TT):TT:=fun σ H Q=>t σ H fun c H1=>if c=true then Q true H1 else u σ H1 Q
noncomputable def Apy(t:TT):TT:=fun σ H Q=>t σ H fun c H1=>Q (!c) H1
theorem Ait(ha:PT X a tA):PW X (.BoolOp .And [a] pos) tA:=by
 intro wh pins s σ H Q I h
 refine isTrue_and (thn (ha pins s σ H Q I h) fun c s1 e=>?_)
 cases c with
 | true=>exact isTrue_and_nil e
 | false=>exact e
theorem Alw(ha:PT X a tA):PW X (.BoolOp .Or [a] pos) tA:=by
 intro wh pins s σ H Q I h
 refine isTrue_or (thn (ha pins s σ H Q I h) fun c s1 e=>?_)
 cases c with
 | false=>exact isTrue_or_nil e
 | true=>exact e
theorem Alr(ha:PT X a tA)(hb:PW X (.BoolOp .And (b::rest) pos) tB'):PW X (.BoolOp .And (a::b::rest) pos) (Api tA tB'):=by
 intro wh pins s σ H Q I h
 refine isTrue_and (thn (ha pins s σ H _ I h) fun c s1 zz=>?_)
 obtain ⟨H1,I1,q1⟩:=zz
 cases c with
 | true=>exact hb wh pins s1 σ H1 Q I1 q1
 | false=>exact ⟨H1,I1,q1⟩
theorem Aoq(ha:PT X a tA)(hb:PW X (.BoolOp .Or (b::rest) pos) tB'):PW X (.BoolOp .Or (a::b::rest) pos) (tOr tA tB'):=by
 intro wh pins s σ H Q I h
 refine isTrue_or (thn (ha pins s σ H _ I h) fun c s1 zz=>?_)
 obtain ⟨H1,I1,q1⟩:=zz
 cases c with
 | true=>exact ⟨H1,I1,q1⟩
 | false=>exact hb wh pins s1 σ H1 Q I1 q1
theorem Akz(ha:PT X a tA):PT X (.UnaryOp .Not a pos) (Apy tA):=by
 intro pins s σ H Q I h
 exact isTrue_not (thn (ha pins s σ H (fun c H1=>Q (!c) H1) I h) fun _ _ z=>z.rec fun H' I' q=>⟨H',I',q⟩)
noncomputable def Anv(ta tb:TE):TE:=fun σ H Q=>ta σ H fun x H1=>∃ c,x = .bl c/\if c=true then tb σ H1 Q else Q (.bl false) H1
noncomputable def Aok(ta:TE):TE:=fun σ H Q=>ta σ H fun x H1=>∃ c,x = .bl c/\Q (.bl (!c)) H1
theorem Ald{op}{t:TE}(h:PE X a t):PE X (.BoolOp op [a] pos) t:=fun pins s σ H Q I hw=>BoolOp_one (h pins s σ H Q I hw)
theorem Ako(ha:PE X a ta)(hb:PE X (.BoolOp .And (b::rest) pos) tb):PE X (.BoolOp .And (a::b::rest) pos) (Anv ta tb):=by
 intro pins s σ H Q I h
 refine BoolOp_and (thn (ha pins s σ H _ I h) fun v s1 zz=>?_)
 obtain ⟨x,H1,I1,r1,q1⟩:=zz
 obtain ⟨c,rfl,q1⟩:=q1
 cases r1
 refine fD ?_
 cases c with
 | true=>exact hb pins s1 σ H1 Q I1 q1
 | false=>exact ⟨.bl false,H1,I1,rfl,q1⟩
theorem Amu(ha:PE X a ta):PE X (.UnaryOp .Not a pos) (Aok ta):=by
 intro pins s σ H Q I h
 refine UnaryOp_ (thn (ha pins s σ H _ I h) fun v s1 zz=>?_)
 obtain ⟨x,H1,I1,r1,q1⟩:=zz
 obtain ⟨c,rfl,q1⟩:=q1
 cases r1
 exact not_of (fD ⟨.bl (!c),H1,I1,rfl,q1⟩)
end
noncomputable def SqL(K:aH)(H:Hp)(a:Addr)(xs:List V):Prop:=
 Rd H a (.lst xs) \/
  ∃ (o:Obj) (its:Array aF) (n:Nat),K.lookup a=some o/\o.cls = .type "list" /\ o.dict=none/\o.data = .seq its n/\its.size<=sizeLine/\Vals xs its.toList
noncomputable def SqT(K:aH)(H:Hp)(a:Addr)(xs:List V):Prop:=
 Rd H a (.tup xs) \/
  ∃ (o:Obj) (its:Array aF) (n:Nat),K.lookup a=some o/\(o.cls,o.dict)=(gJ "tuple",(none:Option Addr))/\o.data = .seq its n/\its.size<=sizeLine/\Vals xs its.toList
noncomputable def Ap3:aF->Option V
 | .none=>some .non
 | .bool b=>some (.bl b)
 | .int i _=>some (.int i)
 | .str x _=>some (.str x)
 | .bytes b _=>some (.byt b)
 | .float b _=>some (.flt b)
 | .ref a=>some (.ref a)
 | .type n=>some (.ty n)
 | _=>none
theorem RelV.abs{x:V}(r:RelV x u):Ap3 u=some x:=by
 cases x with
 | non=>cases r;rfl
 | bl _=>cases r;rfl
 | int _=>obtain ⟨t,rfl⟩:=r;rfl
 | str _=>obtain ⟨t,rfl⟩:=r;rfl
 | byt _=>obtain ⟨t,rfl⟩:=r;rfl
 | flt _=>obtain ⟨t,rfl⟩:=r;rfl
 | ref _=>cases r;rfl
 | ty _=>cases r;rfl
theorem RelV.inj{x y:V}(r:RelV x u)(q:RelV y u):x=y:=bP (r.abs.symm.trans q.abs)
theorem Vals.inj(h:Vals xs us)(h':Vals ys us):xs=ys:=by
 induction h generalizing ys with
 | nil=>cases h';rfl
 | cons r t ih=>
  cases h' with
  | cons r' t'=>rw[r.inj r',ih t']
variable {K:aH}
section
theorem SqL.of(h:H a=some (.lst xs)):SqL K H a xs:=.inl (.inl h)
theorem SqT.of(h:H a=some (.tup xs)):SqT K H a xs:=.inl (.inl h)
theorem Inv.list(I:Inv X pins σ H s)(h:SqL X.K H a xs):∃ its:List aF,Vals xs its/\PlainL s.heap a its.toArray/\xs.length<=sizeLine:=by
 rcases h with h | ⟨o,its,n,hk,hc,hd,hs,hz,r⟩
 ·obtain ⟨z,its,n,r,e⟩:=h.ok I.hok
  exact ⟨its,r,⟨_,n,e,rfl,rfl,rfl⟩,z⟩
 ·refine ⟨its.toList,r,⟨o,n,I.kIn a o hk,hc,hd,by simpa using hs⟩,?_⟩
  have e:=r.length
  simp only[cN] at e
  omega
theorem Inv.tupleN(I:Inv X pins σ H s)(h:SqT X.K H a xs):∃ its:List aF,Vals xs its/\TupN s.heap a its.toArray/\xs.length<=sizeLine:=by
 rcases h with h | ⟨o,its,n,hk,hc,hs,hz,r⟩
 ·obtain ⟨z,its,r,p⟩:=h.ok I.hok
  exact ⟨its,r,p,z⟩
 ·refine ⟨its.toList,r,⟨o,I.kIn a o hk,hc,n,by simpa using hs⟩,?_⟩
  have e:=r.length
  simp only[cN] at e
  omega
theorem Inv.tuple(I:Inv X pins σ H s)(h:SqT X.K H a xs):∃ its:List aF,Vals xs its/\mJ s.heap a its.toArray/\xs.length<=sizeLine:=by
 obtain ⟨its,r,p,z⟩:=I.tupleN h
 exact ⟨its,r,p.is,z⟩
theorem Inv.list_inj(I:Inv X pins σ H s)(h:SqL X.K H a xs)(h':SqL X.K H a ys):xs=ys:=by
 obtain ⟨its,r,⟨o,n,e,_,_,d⟩,_⟩:=I.list h
 obtain ⟨its',r',⟨o',n',e',_,_,d'⟩,_⟩:=I.list h'
 rw[e] at e';cases e'
 rw[d] at d'
 injection d' with d1 _
 have:its=its':=by simpa using congrArg qH d1
 subst this
 exact r.inj r'
theorem Inv.tuple_inj(I:Inv X pins σ H s)(h:SqT X.K H a xs)(h':SqT X.K H a ys):xs=ys:=by
 obtain ⟨its,r,⟨o,e,_,n,d⟩,_⟩:=I.tuple h
 obtain ⟨its',r',⟨o',e',_,n',d'⟩,_⟩:=I.tuple h'
 rw[e] at e';cases e'
 rw[d] at d'
 injection d' with d1 _
 have:its=its':=by simpa using congrArg qH d1
 subst this
 exact r.inj r'
end
abbrev Cx.wish(X:Cx)(E:aF->aL->Prop):Cx:={ X with xe:=E }
abbrev Cx.nox(X:Cx):Cx:=X.wish fun _ _=>False
theorem Cx.Ok.wish(ok:X.Ok)(E:aF->aL->Prop):(X.wish E).Ok:=
 ⟨ok.mod,ok.kind,ok.glob,ok.blt,ok.above,ok.inj,ok.has,ok.cab,ok.hd,ok.frames,ok.stk,ok.exf,ok.bs,ok.bsz,ok.noex,ok.exfs,ok.funs,ok.frf⟩
theorem Cx.Ok.unwish(ok:(X.wish E).Ok):X.Ok:=
 ⟨ok.mod,ok.kind,ok.glob,ok.blt,ok.above,ok.inj,ok.has,ok.cab,ok.hd,ok.frames,ok.stk,ok.exf,ok.bs,ok.bsz,ok.noex,ok.exfs,ok.funs,ok.frf⟩
section
theorem Inv.wish(I:Inv X pins σ H s)(E:aF->aL->Prop):Inv (X.wish E) pins σ H s:=⟨I.ok.wish E,I.os,I.bare,I.base,I.loc,I.cell,I.free,I.freeC,I.pin,I.hok,I.len⟩
theorem Inv.unwish(I:Inv (X.wish E) pins σ H s):Inv X pins σ H s:=⟨I.ok.unwish,I.os,I.bare,I.base,I.loc,I.cell,I.free,I.freeC,I.pin,I.hok,I.len⟩
theorem SP.unwish{D:Ends}{f:Flow}(h:SP (X.wish E) pins D f s'):SP X pins D f s':=by
 cases f with
 | next=>obtain ⟨σ',H',I,q⟩:=h;exact ⟨σ',H',I.unwish,q⟩
 | brk=>obtain ⟨σ',H',I,q⟩:=h;exact ⟨σ',H',I.unwish,q⟩
 | cont=>obtain ⟨σ',H',I,q⟩:=h;exact ⟨σ',H',I.unwish,q⟩
 | ret u=>obtain ⟨v,σ',H',I,r,q⟩:=h;exact ⟨v,σ',H',I.unwish,r,q⟩
theorem PE.nox{t:TE}(h:PE X.nox e t):PE X e t:=fun pins s σ H Q I hw=>
 dM (h pins s σ H Q (I.wish _) hw) (fun _ _ zz=>by obtain ⟨v,H',I',r,q⟩:=zz;exact ⟨v,H',I'.unwish,r,q⟩) fun _ _ z=>fV z
theorem PT.nox{t:TT}(h:PT X.nox e t):PT X e t:=fun pins s σ H Q I hw=>
 dM (h pins s σ H Q (I.wish _) hw) (fun _ _ zz=>by obtain ⟨H',I',q⟩:=zz;exact ⟨H',I'.unwish,q⟩) fun _ _ z=>fV z
theorem PSs.nox{st:List Stmt}{t:TS}(h:PSs X.nox st t):PSs X st t:=fun pins s σ H D I hw=>
 dM (h pins s σ H D (I.wish _) hw) (fun _ _ q=>q.unwish) fun _ _ z=>fV z
end
variable {te:TE}{c:Expr}
section
variable {st:Stmt}{rest:List Stmt}{t u:TS}
noncomputable def An7:TS:=fun D σ H=>D.nx σ H
noncomputable def Apm(t u:TS):TS:=fun D σ H=>t { D with nx:=u D } σ H
theorem Aho:PSs X [] An7:=fun _ _ σ H _ I h=>kM ⟨σ,H,I,h⟩
theorem Ad3(h1:PS X st t)(h2:PSs X rest u):PSs X (st::rest) (Apm t u):=by
 intro pins s σ H D I h
 refine rH (thn (h1 pins s σ H { D with nx:=u D } I h) fun f s1 q=>?_)
 cases f with
 | next=>
  obtain ⟨σ',H',I',q⟩:=q
  exact h2 pins s1 σ' H' D I' q
 | ret v=>exact q
 | brk=>exact q
 | cont=>exact q
theorem Ahm(h1:PS X st t):PSs X [st] t:=by
 intro pins s σ H D I h
 refine rH (thn (h1 pins s σ H D I h) fun f s1 q=>?_)
 cases f with
 | next=>exact kM q
 | ret v=>exact q
 | brk=>exact q
 | cont=>exact q
theorem Inv.quiet(I:Inv X pins σ H s):interactive X.env=false:=by simp[interactive,I.ok.kind]
noncomputable def Aon(te:TE):TS:=fun D σ H=>te σ H fun _ H1=>D.nx σ H1
theorem Aiq(he:PE X e te)(hs:swapsWith e none pos.line X.env=pure false:=by rfl):PS X (.Expr e pos) (Aon te):=by
 intro pins s σ H D I h
 exact wpAny_Expr_any (thn (he pins s σ H _ I h) fun v s1 zz=>by obtain ⟨x,H1,I1,r1,q1⟩:=zz;exact ⟨σ,H1,I1,q1⟩) I.quiet hs
noncomputable def Apr(te:TE):TS:=fun D σ H=>te σ H D.rt
theorem Ak0(he:PE X e te):PS X (.Return (some e) pos) (Apr te):=by
 intro pins s σ H D I h
 exact wpAny_Return_some (thn (he pins s σ H _ I h) fun v s1 zz=>by obtain ⟨x,H1,I1,r1,q1⟩:=zz;exact ⟨x,σ,H1,I1,r1,q1⟩)
noncomputable def Ap0(c:TT)(t u:TS):TS:=fun D σ H=>c σ H fun b H1=>if b=true then t D σ H1 else u D σ H1
theorem Ao8{a b:List Stmt}{tc:TT}(hc:PT X c tc)(ha:PSs X a t)(hb:PSs X b u):PS X (.If c a b pos) (Ap0 tc t u):=by
 intro pins s σ H D I h
 refine wpAny_If (thn (hc pins s σ H _ I h) fun d s1 zz=>?_)
 obtain ⟨H1,I1,q1⟩:=zz
 cases d with
 | true=>exact ha pins s1 σ H1 D I1 q1
 | false=>exact hb pins s1 σ H1 D I1 q1
end
abbrev TG:=V->St->Hp->(St->Hp->Prop)->Prop
abbrev TGs:=List V->St->Hp->(St->Hp->Prop)->Prop
noncomputable def PG(X:Cx)(target:Expr)(t:TG):Prop:=
 ∀ (pins:List (Addr×Obj)) (s:aL) (σ:St) (H:Hp) (v:V) (u:aF) (Q:St->Hp->Prop),Inv X pins σ H s->RelV v u->t v σ H Q ->
  wpAny (model X.prog X.w) X.A (assign target X.env u) (fun _ s'=>∃ σ' H',Inv X pins σ' H' s'/\Q σ' H') X.xe s
noncomputable def PGs(X:Cx)(ts:List Expr)(t:TGs):Prop:=
 ∀ (pins:List (Addr×Obj)) (s:aL) (σ:St) (H:Hp) (vs:List V) (us:List aF) (Q:St->Hp->Prop),Inv X pins σ H s->Vals vs us->t vs σ H Q ->
  wpAny (model X.prog X.w) X.A (assignInOrder ((assignEach ts X.env).map (·.2)) us) (fun _ s'=>∃ σ' H',Inv X pins σ' H' s'/\Q σ' H') X.xe s
abbrev Aml:=V->V->V->Hp->(Hp->Prop)->Prop
noncomputable def Aou(X:Cx)(t:Aml):Prop:=
 ∀ (pins:List (Addr×Obj)) (s:aL) (σ:St) (H:Hp) (o i v:V) (ov iv u:aF) (Q:Hp->Prop),Inv X pins σ H s->RelV o ov->RelV i iv->RelV v u->t o i v H Q ->
  wpAny (model X.prog X.w) X.A (setItem ov iv u) (fun _ s'=>∃ H',Inv X pins σ H' s'/\Q H') X.xe s
variable {es:List Expr}{k:Nat}{tg:Expr}
section
noncomputable def Vc(i:Nat):TG:=fun v σ H Q=>Q (σ.set i (some v)) H
theorem Abk(hN:X.N.Nodup)(hi:X.N[i]? = some x)(hx:Loc X.env.scope x)(hf:X.fn x=true\/X.env.scope.names.lookup x=some .local:=by first | exact .inl rfl | exact .inr rfl | assumption):PG X (.Name x pos) (Vc i):=by
 intro pins s σ H v u Q I r h
 exact wpAny_assign_Name (V3 I hN hi hx r (fun s' I'=>⟨_,H,I',h⟩) hf)
noncomputable def gNil:TGs:=fun vs σ H Q=>vs=[]/\Q σ H
noncomputable def gCons(t:TG)(u:TGs):TGs:=fun vs σ H Q=>∃ v r,vs=v::r/\t v σ H fun σ' H'=>u r σ' H' Q
theorem Aiz:PGs X [] gNil:=by
 intro pins s σ H vs us Q I r h
 obtain ⟨e,h⟩:=h
 subst e
 cases r
 exact assignInOrder_nil ⟨σ,H,I,h⟩
theorem Agz{t:TG}{u:TGs}(h1:PG X e t)(h2:PGs X es u)
  (hs:(assignEach (e::es) X.env).map (·.2)=assign e X.env::(assignEach es X.env).map (·.2):=by rfl):PGs X (e::es) (gCons t u):=by
 intro pins s σ H vs us Q I r h
 obtain ⟨v,vr,e1,h⟩:=h
 subst e1
 cases r with
 | cons r rr=>
  rw[hs]
  refine assignInOrder_cons (thn (h1 pins s σ H _ _ _ I r h) fun _ s1 zz=>?_)
  obtain ⟨σ1,H1,I1,q1⟩:=zz
  exact h2 pins s1 σ1 H1 _ _ Q I1 rr q1
noncomputable def gTup(K:aH)(n:Nat)(t:TGs):TG:=fun v σ H Q=>∃ a xs,v = .ref a/\SqT K H a xs/\xs.length=n/\t xs σ H Q
theorem Amp{t:TGs}{n:Nat}(hc:X.calm=true)(h:PGs X es t)
  (hn:(assignEach es X.env).length=n:=by rfl) (hst:(assignEach es X.env).findIdx? (·.1)=none:=by rfl):PG X (.Tuple es k pos) (gTup X.K n t):=by
 intro pins s σ H v u Q I r hw
 obtain ⟨a,xs,e1,hq,hl,hw⟩:=hw
 subst e1
 cases r
 obtain ⟨its,rv,ht,hz⟩:=I.tuple hq
 refine assign_Tuple_tuple (I.ok.hd hc) ht (by simp[hn,<- hl,rv.length]) hst fun h' hx=>?_
 have I1:Inv X pins σ H { s with heap:=h' }:=I.kept (t':=s.toks) fun b o e=>hx b o (bU (bD e)) e
 exact h pins _ σ H xs _ Q I1 (by simpa using rv) hw
noncomputable def gSub(to ti:TE)(t:Aml):TG:=fun v σ H Q=>to σ H fun o H1=>ti σ H1 fun i H2=>t o i v H2 fun H3=>Q σ H3
theorem Akm{o i:Expr}{to ti:TE}{t:Aml}(ho:PE X o to)(hi:PE X i ti)(hs:Aou X t)
  (ha:∀ v,assign (.Subscript o i pos) X.env v=(do
   let ov <- holding [v] (eval o X.env)
   let iv <- holding [v,ov] (eval i X.env)
   standAt pos
   holding [v,ov,iv] (setItem ov iv v)
   release [v,ov,iv] []):=by intro _;rfl):PG X (.Subscript o i pos) (gSub to ti t):=by
 intro pins s σ H v u Q I r h
 rw[ha]
 refine aC (eC (thn (ho pins s σ H _ I h) fun ov s1 zz=>?_))
 obtain ⟨x,H1,I1,r1,q1⟩:=zz
 refine aC (eC (thn (hi pins s1 σ H1 _ I1 q1) fun iv s2 zz=>?_))
 obtain ⟨y,H2,I2,r2,q2⟩:=zz
 refine aC (mR (aC (eC (thn (hs pins s2 σ H2 x y v ov iv u _ I2 r1 r2 r q2) fun _ s3 zz=>?_))))
 obtain ⟨H3,I3,q3⟩:=zz
 exact wpAny_release ⟨σ,H3,I3,q3⟩
noncomputable def Ahp(te:TE)(g:TG):TS:=fun D σ H=>te σ H fun x H1=>g x σ H1 D.nx
theorem Als{g:TG}(he:PE X e te)(hg:PG X tg g)(hs:swapsWithSole [tg] e pos.line X.env=pure false:=by rfl)(hw:swappedStores [tg] e X.env=pure none:=by rfl)
  (h1:(assignEach [tg] X.env).map (·.2)=[assign tg X.env]:=by rfl):PS X (.Assign [tg] e pos) (Ahp te g):=by
 intro pins s σ H D I h
 refine wpAny_Assign_stores (thn (he pins s σ H _ I h) fun v s1 zz=>zz.elim fun x H1 I1 r1 q1=>?_) hs hw
 rw[h1]
 exact thn (hg pins s1 σ H1 x v _ I1 r1 q1) fun _ s2 q=>q
theorem Am0{pos':Pos}(hN:X.N.Nodup)(hi:X.N[i]? = some x)(hx:Loc X.env.scope x)(he:PE X e te)(hs:swapsWith e (some (.Name x pos')) pos.line X.env=pure false:=by rfl)(hf:X.fn x=true\/X.env.scope.names.lookup x=some .local:=by first | exact .inl rfl | exact .inr rfl | assumption) :
  PS X (.Assign [.Name x pos'] e pos) (Ahp te (Vc i)):=by
 intro pins s σ H D I h
 refine wpAny_Assign_Name (thn (he pins s σ H _ I h) fun v s1 zz=>zz.elim fun y H1 I1 r1 q1=>?_) hs
 exact V3 I1 hN hi hx r1 (fun s2 I2=>⟨_,H1,I2,q1⟩) hf
end
variable {body:List Stmt}
section
noncomputable def Ak7(c:TT)(tb:TS):TS:=fun D σ H=>∃ W:Nat->St->Hp->Prop,(∃ m,W m σ H)/\∀ m σ H,W m σ H ->
 c σ H fun b H1=>if b=true then ∃ N:St->Hp->Prop,(∀ σ' H',N σ' H'->∃ m',m' < m/\W m' σ' H')/\tb { D with nx:=N,ct:=N,bk:=D.nx } σ H1 else D.nx σ H1
theorem Agi{tc:TT}{tb:TS}(hp:rJ (model X.prog X.w) X.A X.env X.xe)(hc:PT X c tc)(hb:PSs X body tb):PS X (.While c body [] pos) (Ak7 tc tb):=by
 intro pins s σ H D I h
 obtain ⟨W,⟨m0,w0⟩,turn⟩:=h
 refine wpAny_While (codeAny_whileLoop (fun n s'=>∃ σ' H',Inv X pins σ' H' s'/\W n σ' H') ?_ m0 ⟨σ,H,I,w0⟩)
 rintro n s1 ⟨σ1,H1,I1,w1⟩
 refine gY hp (thn (hc pins s1 σ1 H1 _ I1 (turn n σ1 H1 w1)) fun b s2 zz=>?_)
 obtain ⟨H2,I2,q2⟩:=zz
 cases b with
 | true=>
  obtain ⟨N,hN,q2⟩:=q2
  rw[if_pos rfl]
  refine gY hp (thn (hb pins s2 σ1 H2 _ I2 q2) fun f s3 q3=>?_)
  cases f with
  | next=>
   obtain ⟨σ3,H3,I3,n3⟩:=q3
   obtain ⟨m',hm,w3⟩:=hN σ3 H3 n3
   exact ⟨m',hm,σ3,H3,I3,w3⟩
  | cont=>
   obtain ⟨σ3,H3,I3,n3⟩:=q3
   obtain ⟨m',hm,w3⟩:=hN σ3 H3 n3
   exact ⟨m',hm,σ3,H3,I3,w3⟩
  | brk=>exact q3
  | ret v=>exact q3
 | false=>
  rw[if_neg cL]
  exact kM ⟨σ1,H2,I2,q2⟩
end
structure It where
 go:Nat->Hp->Prop
 yld:Nat->Hp->V->Hp->Prop
 stop:Nat->Hp->Prop
noncomputable def Fx(X:Cx)(pins:List (Addr×Obj))(H:Hp)(b:Addr):Prop:=
 H b=none/\b≠X.env.locals/\b∉X.fs/\(b∈X.ex\/X.s₀.heap.objs.size<=b)/\(∀ x c,X.env.cells.lookup x=some c->c≠b)/\∀ p∈X.pn++pins,p.1≠b
theorem Inv.fpOk(I:Inv X pins σ H s)(hb:s.heap.objs.size<=b)(hn:H' b=none):Fx X pins H' b:=by
 refine ⟨hn,iJ (aY I.lt hb),I.nofs hb,.inr (cK I.sz hb),fun x c e z=>?_,fun p hp z=>?_⟩
 ·obtain ⟨v,q⟩:=I.cell x c e
  exact absurd (aY q.lt (by rw[z];exact hb)) (cC _)
 ·exact absurd (aY (bD (I.pin p hp).1) (by rw[z];exact hb)) (cC _)
structure Turn(P:cU)(w:eD)(K:aH)(tg:Expr)(J:It)(fp:List Addr)(it:Addr)(tn:Nat->Heap->Prop):Prop where
 mem:it∈fp
 obj:∀ i h,tn i h->∀ b∈fp,∃ o,h.get? b=some o/\∀ v,o.data≠.cell v
 keep:∀ i h h',tn i h->(∀ b∈fp,∀ o,h.get? b=some o->h'.get? b=some o)->tn i h'
 item:∀ (X:Cx),X.prog=P->X.w=w->X.K=K->X.calm=true->∀ (i:Nat) (pins:List (Addr×Obj)) (s:aL) (σ:St) (H:Hp) (E:aF->aL->Prop),Inv X pins σ H s->(∀ b∈fp,Fx X pins H b)->tn i s.heap->J.go i H ->
  wpAny (model P w) X.A (pyNext (.ref it)) (fun r s1=>∃ u,r=some u /\
   wpAny (model P w) X.A (letOwnedTupleGo tg (.ref it) u) (fun _ s2=>∃ x H',Inv X pins σ H' s2/\RelV x u/\J.yld i H x H'/\tn (i+1) s2.heap/\∀ b∈fp,H' b=none) E s1) E s
 done:∀ (X:Cx),X.prog=P->X.w=w->X.K=K->X.calm=true->∀ (i:Nat) (pins:List (Addr×Obj)) (s:aL) (σ:St) (H:Hp) (E:aF->aL->Prop),Inv X pins σ H s->(∀ b∈fp,Fx X pins H b)->tn i s.heap->J.stop i H ->
  wpAny (model P w) X.A (pyNext (.ref it)) (fun r s1=>r=none/\Inv X pins σ H s1) E s
 self:∀ (A:dO) (i:Nat) (s:aL) (Q:aF->aL->Prop) (E:aF->aL->Prop),tn i s.heap->Q (.ref it) s->wpAny (model P w) A (pyIter (.ref it)) Q E s
abbrev TI:=St->Hp->(It->Hp->Prop)->Prop
noncomputable def PIE(X:Cx)(pins:List (Addr×Obj))(σ:St)(tg:Expr)(R:It->Hp->Prop)(itv:aF)(s2:aL):Prop:=
 ∃ (it:Addr) (fp:List Addr) (tn:Nat->Heap->Prop) (J:It) (H':Hp),itv = .ref it/\Inv X pins σ H' s2/\Turn X.prog X.w X.K tg J fp it tn/\tn 0 s2.heap/\(∀ b∈fp,Fx X pins H' b)/\R J H'
noncomputable def PI(X:Cx)(tg iter:Expr)(wi:TI):Prop:=
 ∀ (pins:List (Addr×Obj)) (s:aL) (σ:St) (H:Hp) (R:It->Hp->Prop),Inv X pins σ H s->wi σ H R ->
  wpAny (model X.prog X.w) X.A (eval iter X.env) (fun v s1=>wpAny (model X.prog X.w) X.A (pyIter v) (PIE X pins σ tg R) X.xe s1) X.xe s
theorem Aec{it:Addr}{o:Obj}{n:String}{vs:Array aF}{Q:Unit->aL->Prop}(ho:s.heap.get? it=some o)(hc:o.cls = .type n)(hd:o.data = .fields vs)
  (hn:["enumerate","zip","dict_itemiterator","dict_reverseitemiterator","odict_iterator","itertools.zip_longest","itertools.pairwise"].contains n=false) (hQ:Q () s):wpAny M A (letOwnedTupleGo tg (.ref it) u) Q E s:=by
 unfold letOwnedTupleGo
 cases tg <;> first
  | exact aU hQ
  | (cases u <;> first
    | exact aU hQ
    | (refine aC (sW ho ?_)
       rw[hc,hd]
       show wpAny M A (if (["enumerate","zip","dict_itemiterator","dict_reverseitemiterator","odict_iterator","itertools.zip_longest","itertools.pairwise"].contains n&&vs[0]? == some (rawInt _))=true then _ else _) Q E s
       rw[if_neg (by intro h;rw[hn,Bool.false_and] at h;cases h)]
       exact aU hQ))
noncomputable def Itl(K:aH)(a:Addr):It:=
 ⟨fun i H=>∃ xs x,SqL K H a xs/\xs[i]? = some x,fun i H x H'=>H'=H/\∀ xs,SqL K H a xs->xs[i]? = some x,fun i H=>∃ xs,SqL K H a xs/\xs.length<=i⟩
noncomputable def Itt(K:aH)(a:Addr):It:=
 ⟨fun i H=>∃ xs x,SqT K H a xs/\xs[i]? = some x,fun i H x H'=>H'=H/\∀ xs,SqT K H a xs->xs[i]? = some x,fun i H=>∃ xs,SqT K H a xs/\xs.length<=i⟩
noncomputable def Itr(lo:Int)(n:Nat):It:=⟨fun i _=>i < n,fun i H x H'=>H'=H/\x = .int (lo+i),fun i _=>n<=i⟩
theorem Acw(a it:Addr):Turn P w K tg (Itl K a) [it] it (fun i h=>h.IsListIter it a i) where
 mem:=by simp
 obj:=fun i h st b hb=>by
  have e:b=it:=by simpa using hb
  subst e
  obtain ⟨o,e,c,d⟩:=st
  exact ⟨o,e,fun v z=>by rw[d] at z;cases z⟩
 keep:=fun i h h' st k=>st.at fun o e=>k it (by simp) o e
 item:=by
  intro X hP hw hK hc i pins s σ H E I hf st hg
  subst hP hw hK
  obtain ⟨xs,x,hq,hx⟩:=hg
  obtain ⟨its,rv,p,hz⟩:=I.list hq
  obtain ⟨u,hu,ru⟩:=rv.get hx
  obtain ⟨f0,f1,f2,f3,f4,f5⟩:=hf it (by simp)
  refine nR st p.isList (x:=u) (by simpa using hu) fun h' st' sb=>?_
  have I1:Inv X pins σ H { s with heap:=h' }:=I.turned (t':=s.toks) (fun b o hb e=>(sb.2 b hb).trans e) f0 f1 f3 f4 f5
  obtain ⟨o,e,c,d⟩:=id st'
  exact ⟨u,rfl,Aec (s:={ s with heap:=h' }) e c d (by decide) ⟨x,H,I1,ru,⟨rfl,fun ys hy=>by rw[I.list_inj hy hq];exact hx⟩,st',fun b hb=>(hf b hb).1⟩⟩
 done:=by
  intro X hP hw hK hc i pins s σ H E I hf st hg
  subst hP hw hK
  obtain ⟨xs,hq,hx⟩:=hg
  obtain ⟨its,rv,p,hz⟩:=I.list hq
  obtain ⟨f0,f1,f2,f3,f4,f5⟩:=hf it (by simp)
  have hl:=rv.length
  exact oN (I.ok.hd hc) st p.isList (by simp;omega) fun h' eb=>⟨rfl,I.turned (t':=s.toks) (fun b o hb e=>eb b o hb e) f0 f1 f3 f4 f5⟩
 self:=fun _ _ _ _ _ st h=>wpAny_pyIter_listiter st h
theorem Yi(a it:Addr):Turn P w K tg (Itt K a) [it] it (fun i h=>h.IsTupleIter it a i) where
 mem:=by simp
 obj:=fun i h st b hb=>by
  have e:b=it:=by simpa using hb
  subst e
  obtain ⟨o,e,c,d⟩:=st
  exact ⟨o,e,fun v z=>by rw[d] at z;cases z⟩
 keep:=fun i h h' st k=>st.at fun o e=>k it (by simp) o e
 item:=by
  intro X hP hw hK hc i pins s σ H E I hf st hg
  subst hP hw hK
  obtain ⟨xs,x,hq,hx⟩:=hg
  obtain ⟨its,rv,p,hz⟩:=I.tuple hq
  obtain ⟨u,hu,ru⟩:=rv.get hx
  obtain ⟨f0,f1,f2,f3,f4,f5⟩:=hf it (by simp)
  refine wpAny_pyNext_tuple_item st (show s.heap.IsTuple a its.toArray from p) (x:=u) (by simpa using hu) fun h' st' sb=>?_
  have I1:Inv X pins σ H { s with heap:=h' }:=I.turned (t':=s.toks) (fun b o hb e=>(sb.2 b hb).trans e) f0 f1 f3 f4 f5
  obtain ⟨o,e,c,d⟩:=id st'
  exact ⟨u,rfl,Aec (s:={ s with heap:=h' }) e c d (by decide) ⟨x,H,I1,ru,⟨rfl,fun ys hy=>by rw[I.tuple_inj hy hq];exact hx⟩,st',fun b hb=>(hf b hb).1⟩⟩
 done:=by
  intro X hP hw hK hc i pins s σ H E I hf st hg
  subst hP hw hK
  obtain ⟨xs,hq,hx⟩:=hg
  obtain ⟨its,rv,p,hz⟩:=I.tuple hq
  obtain ⟨f0,f1,f2,f3,f4,f5⟩:=hf it (by simp)
  have hl:=rv.length
  exact wpAny_pyNext_tuple_end (I.ok.hd hc) st (show s.heap.IsTuple a its.toArray from p) (by simp;omega) fun h' eb=>⟨rfl,I.turned (t':=s.toks) (fun b o hb e=>eb b o hb e) f0 f1 f3 f4 f5⟩
 self:=fun _ _ _ _ _ st h=>wpAny_pyIter_tupleiter st h
theorem Xp(it:Addr)(lo:Int)(n:Nat):Turn P w K tg (Itr lo n) [it] it (fun i h=>IsRangeIter h it (lo+(i:Nat) * 1) ((n:Int) - (i:Nat)) 1) where
 mem:=by simp
 obj:=fun i h st b hb=>by
  have e:b=it:=by simpa using hb
  subst e
  exact ⟨_,st,fun v z=>by
   have z':wD _=Data.cell v:=z
   cases z'⟩
 keep:=fun i h h' st k=>k it (by simp) _ st
 item:=by
  intro X hP hw hK hc i pins s σ H E I hf st hg
  subst hP hw hK
  obtain ⟨f0,f1,f2,f3,f4,f5⟩:=hf it (by simp)
  have W:=Walks.range (prog:=X.prog) (w:=X.w) (I.ok.hd hc) it lo 1 n
  refine W.item i s _ _ hg st fun v h' tk hv st' kk=>?_
  obtain ⟨t,rfl⟩:=hv
  have I1:Inv X pins σ H { s with heap:=h',toks:=tk }:=I.turned (fun b o hb e=>kk b o (by simpa using hb) e) f0 f1 f3 f4 f5
  refine ⟨_,rfl,Aec (s:={ s with heap:=h',toks:=tk }) (n := "range_iterator") st' rfl rfl (by decide) ⟨.int (lo+i),H,I1,⟨t,?_⟩,⟨rfl,rfl⟩,st',fun b hb=>(hf b hb).1⟩⟩
  rw[Int.mul_one]
 done:=by
  intro X hP hw hK hc i pins s σ H E I hf st hg
  subst hP hw hK
  obtain ⟨f0,f1,f2,f3,f4,f5⟩:=hf it (by simp)
  exact wpAny_pyNext_range_end (I.ok.hd hc) st (by have:n<=i:=hg;omega) fun h' eb=>⟨rfl,I.turned (t':=s.toks) (fun b o hb e=>eb b o hb e) f0 f1 f3 f4 f5⟩
 self:=fun _ _ _ _ _ st h=>wpAny_pyIter_rangeiter st h
variable {p:Pos}{fp:List Addr}
section
noncomputable def Aoe(K:aH)(tl:TE):TI:=fun σ H R=>tl σ H fun x H1=>∃ a,x = .ref a/\(∃ xs,SqL K H1 a xs)/\R (Itl K a) H1
noncomputable def Ap2(K:aH)(tl:TE):TI:=fun σ H R=>tl σ H fun x H1=>∃ a,x = .ref a/\(∃ xs,SqT K H1 a xs)/\R (Itt K a) H1
theorem Aii{l:Expr}{tl:TE}(hl:PE X l tl):PI X tg l (Aoe X.K tl):=by
 intro pins s σ H R I h
 refine thn (hl pins s σ H _ I h) fun v s1 zz=>?_
 obtain ⟨x,H1,I1,r1,q1⟩:=zz
 obtain ⟨a,e,⟨xs,hq⟩,q⟩:=q1
 subst e
 cases r1
 obtain ⟨its,rv,p,hz⟩:=I1.list hq
 refine jR p.isList ?_
 refine ⟨s1.heap.objs.size,[s1.heap.objs.size],_,_,H1,rfl,I1.kept (t':=s1.toks) fun b o e=>aE _ e,Acw a _,⟨_,bC _ rfl,rfl,rfl⟩,fun b hb=>?_,q⟩
 have e:b=s1.heap.objs.size:=by simpa using hb
 subst e
 exact I1.fpOk (aQ _) (I1.hok.fresh (aQ _))
theorem Ali{l:Expr}{tl:TE}(hl:PE X l tl):PI X tg l (Ap2 X.K tl):=by
 intro pins s σ H R I h
 refine thn (hl pins s σ H _ I h) fun v s1 zz=>?_
 obtain ⟨x,H1,I1,r1,q1⟩:=zz
 obtain ⟨a,e,⟨xs,hq⟩,q⟩:=q1
 subst e
 cases r1
 obtain ⟨its,rv,p,hz⟩:=I1.tuple hq
 refine fN (show s1.heap.IsTuple a its.toArray from p) ?_
 refine ⟨s1.heap.objs.size,[s1.heap.objs.size],_,_,H1,rfl,I1.kept (t':=s1.toks) fun b o e=>aE _ e,Yi a _,⟨_,bC _ rfl,rfl,rfl⟩,fun b hb=>?_,q⟩
 have e:b=s1.heap.objs.size:=by simpa using hb
 subst e
 exact I1.fpOk (aQ _) (I1.hok.fresh (aQ _))
theorem Ad4{R:It->Hp->Prop}{lo hi:Int}{t u v:Tok}{tk:Nat}(I:Inv X pins σ H s)(h1:-(2 ^ 62)<=lo)(h2:lo < 2 ^ 62)(h3:-(2 ^ 62)<=hi)(h4:hi < 2 ^ 62)
  (q:R (Itr lo (hi - lo).toNat) H):wpAny (model X.prog X.w) X.A (pyIter (.ref s.heap.objs.size)) (PIE X pins σ tg R) E { s with heap:=s.heap.push { cls:=.type "range",data:=.fields #[.int lo t,.int hi u,.int 1 v] },toks:=tk }:=by
 refine wpAny_pyIter_range (wF ..) (small_one h1 h2 h3 h4) ?_
 have I1:Inv X pins σ H { s with heap:=s.heap.push { cls:=.type "range",data:=.fields #[.int lo t,.int hi u,.int 1 v] },toks:=tk }:=I.kept fun b o e=>aE _ e
 refine ⟨(s.heap.push { cls:=.type "range",data:=.fields #[.int lo t,.int hi u,.int 1 v] }).objs.size,[(s.heap.push { cls:=.type "range",data:=.fields #[.int lo t,.int hi u,.int 1 v] }).objs.size],_,_,H,rfl,
  I1.kept (t':=tk) fun b o e=>aE _ e,Xp _ lo (hi - lo).toNat,?_,fun b hb=>?_,q⟩
 ·have e1:lo+((0:Nat):Int) * 1=lo:=by simp
  have e2:(((hi - lo).toNat:Nat):Int) - ((0:Nat):Int)=nC lo hi 1:=by rw[pO];split <;> omega
  show IsRangeIter _ _ (lo+((0:Nat):Int) * 1) ((((hi - lo).toNat:Nat):Int) - ((0:Nat):Int)) 1
  rw[e1,e2]
  exact bC _ rfl
 ·have e:b=(s.heap.push { cls:=.type "range",data:=.fields #[.int lo t,.int hi u,.int 1 v] }).objs.size:=by simpa using hb
  subst e
  exact I1.fpOk (aQ _) (I1.hok.fresh (aQ _))
noncomputable def Ann(ta:TA):TI:=fun σ H R=>ta σ H fun vs H1=>∃ j:Int,vs=[.int j]/\-(2 ^ 62)<=j/\j < 2 ^ 62/\R (Itr 0 j.toNat) H1
theorem Adw{a:Expr}{ta:TA}(hg:Gl X "range")(hm:X.mg "range" = none)(ha:PA X [a] ta)(hs:bS [a] X.env=[(false,eval a X.env)]:=by rfl):PI X tg (.Call (.Name "range" p) [a] [] pos) (Ann ta):=by
 intro pins s σ H R I h
 refine Call_ (Fv I hg hm sX (cZ (thn (ha pos pins s σ H _ I h) fun us s1 zz=>zz.elim fun vs H1 I1 r1 q1=>?_) hs rfl))
 obtain ⟨j,e,q1,q2,q⟩:=q1
 subst e
 cases r1 with
 | cons r rr=>
  cases rr
  obtain ⟨t,rfl⟩:=r
  exact qI (Ad4 I1 (by omega) (by omega) q1 q2 (by simpa using q))
noncomputable def Apv(wi:TI)(g:TG)(tb:TS):TS:=fun D σ H=>wi σ H fun J H1=>∃ W:Nat->Nat->St->Hp->Prop,(∃ m,W 0 m σ H1)/\∀ i m σ H,W i m σ H ->
 (J.stop i H/\D.nx σ H)\/(J.go i H/\∃ N:St->Hp->Prop,(∀ σ' H',N σ' H'->∃ m',m' < m/\W (i+1) m' σ' H')/\∀ x H',J.yld i H x H'->g x σ H' fun σ2 H2=>tb { D with nx:=N,ct:=N,bk:=D.nx } σ2 H2)
noncomputable def Rh(fp:List Addr)(h:Heap):List (Addr×Obj):=fp.filterMap fun b=>(h.get? b).map fun o=>(b,o)
theorem Ka{o:Obj}(hb:b∈fp)(e:h.get? b=some o):(b,o)∈Rh fp h:=gL.mpr ⟨b,hb,by rw[e];rfl⟩
theorem Acl{p:Addr×Obj}(hp:p∈Rh fp h):p.1∈fp/\h.get? p.1=some p.2:=by
 obtain ⟨b,hb,e⟩:=gL.mp hp
 cases q:h.get? b with
 | none=>rw[q] at e;cases e
 | some o=>
  rw[q] at e
  have e':(b,o)=p:=bP e
  subst e'
  exact ⟨hb,q⟩
theorem Inv.pinned(I:Inv X pins σ H s)(hf:∀ b∈fp,Fx X pins H b)(ho:∀ b∈fp,∃ o,s.heap.get? b=some o/\∀ v,o.data≠.cell v):Inv X (pins++Rh fp s.heap) σ H s:=
 I.pins_of fun p hp=>(cT.mp hp).elim (fun z=>I.pin p (aT _ z)) fun z=>by
  obtain ⟨hb,e⟩:=Acl z
  obtain ⟨f0,f1,f2,_⟩:=hf p.1 hb
  obtain ⟨o,e',d⟩:=ho p.1 hb
  rw[e] at e';cases e'
  exact ⟨e,f0,f1,f2,d⟩
theorem Inv.unpinned{pl:List (Addr×Obj)}(I:Inv X (pins++pl) σ H s):Inv X pins σ H s:=I.pins_of fun p hp=>I.pin p (aT _ (dE _ hp))
theorem Al3{iter:Expr}{wi:TI}{g:TG}{tb:TS}(hp:rJ (model X.prog X.w) X.A X.env X.xe)(hc:X.calm=true)(hi:PI X tg iter wi)(hg:PG X tg g)(hb:PSs X body tb)
  (hs:∀ x,foldedSetIterable iter X.env x=pure x:=by intro _;rfl):PS X (.For tg iter body [] pos) (Apv wi g tb):=by
 intro pins s σ H D I h
 refine wpAny_For (thn (hi pins s σ H _ I h) fun v s1 h1=>thn h1 fun itv s2 h2=>?_) hs
 obtain ⟨it,fp,tn,J,H2,e,I2,T,st2,f2,W,⟨m0,w0⟩,turn⟩:=h2
 subst e
 have stat:∀ {H':Hp},(∀ b∈fp,H' b=none)->∀ b∈fp,Fx X pins H' b:=fun hn b hb=>⟨hn b hb,(f2 b hb).2⟩
 refine codeAny_forLoop_any (fun n s'=>∃ i σ' H',Inv X pins σ' H' s'/\tn i s'.heap/\(∀ b∈fp,H' b=none)/\W i n σ' H') ?_ m0 ⟨0,σ,H2,I2,st2,fun b hb=>(f2 b hb).1,w0⟩
 rintro n s3 ⟨i,σ3,H3,I3,st3,fr3,w3⟩
 rcases turn i n σ3 H3 w3 with ⟨stop,qn⟩ | ⟨go,N,hN,step⟩
 ·refine gY hp (thn (T.done X rfl rfl rfl hc i pins s3 σ3 H3 X.xe I3 (stat fr3) st3 stop) fun r s4 zz=>?_)
  obtain ⟨hr,I4⟩:=zz
  subst hr
  exact kM ⟨σ3,H3,I4,qn⟩
 ·refine gY hp (thn (T.item X rfl rfl rfl hc i pins s3 σ3 H3 X.xe I3 (stat fr3) st3 go) fun r s4 zz=>?_)
  obtain ⟨u,hr,h4⟩:=zz
  subst hr
  refine gY hp (thn h4 fun _ s5 zz=>?_)
  obtain ⟨x,H5,I5,r5,y5,st5,fr5⟩:=zz
  have I5':=I5.pinned (stat fr5) (T.obj _ _ st5)
  refine gY hp (thn (hg _ s5 σ3 H5 x u _ I5' r5 (step x H5 y5)) fun _ s6 zz=>?_)
  obtain ⟨σ6,H6,I6,q6⟩:=zz
  refine gY hp (thn (hb _ s6 σ6 H6 _ I6 q6) fun f s7 q7=>?_)
  have again:∀ {σ7:St} {H7:Hp},Inv X (pins++Rh fp s5.heap) σ7 H7 s7->N σ7 H7->∃ m,m < n/\∃ i σ' H',Inv X pins σ' H' s7/\tn i s7.heap/\(∀ b∈fp,H' b=none)/\W i m σ' H':=fun {σ7 H7} I7 n7=>by
   obtain ⟨m',hm,w7⟩:=hN σ7 H7 n7
   refine ⟨m',hm,i+1,σ7,H7,I7.unpinned,T.keep _ _ _ st5 fun b hb o e=>(I7.pin (b,o) (aT _ (aT _ (Ka hb e)))).1,fun b hb=>?_,w7⟩
   obtain ⟨o,e,d⟩:=T.obj _ _ st5 b hb
   exact (I7.pin (b,o) (aT _ (aT _ (Ka hb e)))).2.1
  cases f with
  | next=>obtain ⟨σ7,H7,I7,n7⟩:=q7;exact again I7 n7
  | cont=>obtain ⟨σ7,H7,I7,n7⟩:=q7;exact again I7 n7
  | brk=>obtain ⟨σ7,H7,I7,q7⟩:=q7;exact ⟨σ7,H7,I7.unpinned,q7⟩
  | ret v=>obtain ⟨x7,σ7,H7,I7,r7,q7⟩:=q7;exact ⟨x7,σ7,H7,I7.unpinned,r7,q7⟩
end
abbrev R2:=V->V->Hp->VK->Prop
noncomputable def OpR(X:Cx)(f:aF->aF->Sem aF)(r:R2):Prop:=
 ∀ (pins:List (Addr×Obj)) (s:aL) (σ:St) (H:Hp) (x y:V) (v u:aF) (Q:VK),Inv X pins σ H s->RelV x v->RelV y u->r x y H Q ->
  wpAny (model X.prog X.w) X.A (f v u) (EP X pins σ Q) X.xe s
noncomputable def UnR(X:Cx)(f:aF->Sem aF)(r:V->Hp->VK->Prop):Prop:=
 ∀ (pins:List (Addr×Obj)) (s:aL) (σ:St) (H:Hp) (x:V) (v:aF) (Q:VK),Inv X pins σ H s->RelV x v->r x H Q ->
  wpAny (model X.prog X.w) X.A (f v) (EP X pins σ Q) X.xe s
noncomputable def CallR(X:Cx)(f:aF)(r:List V->Hp->VK->Prop):Prop:=
 ∀ (pins:List (Addr×Obj)) (s:aL) (σ:St) (H:Hp) (xs:List V) (us:List aF) (Q:VK),Inv X pins σ H s->Vals xs us->r xs H Q ->
  wpAny (model X.prog X.w) X.A (call f us) (EP X pins σ Q) X.xe s
noncomputable def Apz(X:Cx)(r:V->Hp->(Bool->Hp->Prop)->Prop):Prop:=
 ∀ (pins:List (Addr×Obj)) (s:aL) (σ:St) (H:Hp) (x:V) (v:aF) (Q:Bool->Hp->Prop),Inv X pins σ H s->RelV x v->r x H Q ->
  wpAny (model X.prog X.w) X.A (truthy v) (TP X pins σ Q) X.xe s
noncomputable def tOp(r:R2)(ta tb:TE):TE:=fun σ H Q=>ta σ H fun x H1=>tb σ H1 fun y H2=>r x y H2 Q
noncomputable def tUn(r:V->Hp->VK->Prop)(ta:TE):TE:=fun σ H Q=>ta σ H fun x H1=>r x H1 Q
noncomputable def rI(C:Int->Int->Prop)(g:Int->Int->V):R2:=fun x y H Q=>∃ i j,x = .int i/\y = .int j/\C i j/\Q (g i j) H
noncomputable def rI0(g:Int->Int->V):R2:=fun x y H Q=>∃ i j,x = .int i/\y = .int j/\Q (g i j) H
noncomputable def rU(g:Int->V):V->Hp->VK->Prop:=fun x H Q=>∃ i,x = .int i/\Q (g i) H
variable {r:R2}
section
variable {a b:Expr}{tc:TE}
theorem Amx(ha:PE X a ta)(hb:PE X b tb){R:V->V->Hp->Prop}(I:Inv X pins σ H s)
  (h:ta σ H fun x H1=>tb σ H1 fun y H2=>R x y H2) {Q:aF->aL->Prop} {f:aF->aF->Sem aF}
  (hf:∀ v u s2 x y H2,Inv X pins σ H2 s2->RelV x v->RelV y u->R x y H2->wpAny (model X.prog X.w) X.A (f v u) Q X.xe s2) :
  wpAny (model X.prog X.w) X.A (eval a X.env) (fun v s₁=>wpAny (model X.prog X.w) X.A (eval b X.env) (fun u s₂=>wpAny (model X.prog X.w) X.A (f v u) Q X.xe s₂) X.xe s₁) X.xe s:=by
 refine thn (ha pins s σ H _ I h) fun v s1 zz=>?_
 obtain ⟨x,H1,I1,r1,q1⟩:=zz
 refine thn (hb pins s1 σ H1 _ I1 q1) fun u s2 zz=>?_
 obtain ⟨y,H2,I2,r2,q2⟩:=zz
 exact hf v u s2 x y H2 I2 r1 r2 q2
theorem Ang{op:Operator}(ho:OpR X (fX op) r)(ha:PE X a ta)(hb:PE X b tb):PE X (.BinOp a op b pos) (tOp r ta tb):=by
 intro pins s σ H Q I h
 exact wpAny_BinOp (Amx ha hb I h fun v u s2 x y H2 I2 rx ry q=>ho pins s2 σ H2 x y v u Q I2 rx ry q)
theorem Ao3{op:UnaryOp}{r:V->Hp->VK->Prop}(ho:UnR X (unaryOp op) r)(ha:PE X a ta):PE X (.UnaryOp op a pos) (tUn r ta):=by
 intro pins s σ H Q I h
 exact UnaryOp_ (thn (ha pins s σ H _ I h) fun v s1 zz=>by obtain ⟨x,H1,I1,r1,q1⟩:=zz;exact ho pins s1 σ H1 x v Q I1 r1 q1)
theorem opI{f:aF->aF->Sem aF}{C:Int->Int->Prop}{g:Int->Int->Int}
  (rule:∀ (i j:Int) (t u:Tok) (s:aL) (Q:aF->aL->Prop) (E:aF->aL->Prop),C i j->Q (.int (g i j) s.toks) { s with toks:=s.toks+1 }->wpAny (model X.prog X.w) X.A (f (.int i t) (.int j u)) Q E s) :
  OpR X f (rI C fun i j=>.int (g i j)):=by
 intro pins s σ H x y v u Q I rx ry h
 obtain ⟨i,j,rfl,rfl,hc,q⟩:=h
 obtain ⟨t,rfl⟩:=rx
 obtain ⟨t',rfl⟩:=ry
 exact rule i j t t' s _ _ hc ⟨.int (g i j),H,I.tok _,⟨_,rfl⟩,q⟩
theorem Aol{f:aF->aF->Sem aF}{g:Int->Int->Int}
  (rule:∀ (i j:Int) (t u:Tok) (s:aL) (Q:aF->aL->Prop) (E:aF->aL->Prop),Q (.int (g i j) s.toks) { s with toks:=s.toks+1 }->wpAny (model X.prog X.w) X.A (f (.int i t) (.int j u)) Q E s) :
  OpR X f (rI0 fun i j=>.int (g i j)):=by
 intro pins s σ H x y v u Q I rx ry h
 obtain ⟨i,j,rfl,rfl,q⟩:=h
 obtain ⟨t,rfl⟩:=rx
 obtain ⟨t',rfl⟩:=ry
 exact rule i j t t' s _ _ ⟨.int (g i j),H,I.tok _,⟨_,rfl⟩,q⟩
theorem Ajx{f:aF->aF->Sem aF}{g:Int->Int->Bool}
  (rule:∀ (i j:Int) (t u:Tok) (s:aL) (Q:aF->aL->Prop) (E:aF->aL->Prop),Q (.bool (g i j)) s->wpAny (model X.prog X.w) X.A (f (.int i t) (.int j u)) Q E s) :
  OpR X f (rI0 fun i j=>.bl (g i j)):=by
 intro pins s σ H x y v u Q I rx ry h
 obtain ⟨i,j,rfl,rfl,q⟩:=h
 obtain ⟨t,rfl⟩:=rx
 obtain ⟨t',rfl⟩:=ry
 exact rule i j t t' s _ _ ⟨.bl (g i j),H,I,rfl,q⟩
noncomputable def An6(i j:Int):Prop:=0<=j/\j<=1000000/\i.natAbs < 2 ^ 64
noncomputable def CMul(i j:Int):Prop:=(-(2 ^ 64) < i/\i < 2 ^ 64)\/(-(2 ^ 64) < j/\j < 2 ^ 64)
theorem CMul.ok{i j:Int}(h:CMul i j):IntMulOk i j:=by
 rcases h with ⟨h1,h2⟩ | ⟨h1,h2⟩
 ·exact .of_left (intBits_le_64 h1 h2)
 ·exact .of_right (intBits_le_64 h1 h2)
theorem Al0:OpR X (fX .Add) (rI0 fun i j=>.int (i+j)):=Aol fun _ _ _ _ _ _ _ q=>add_int q
theorem Aea:OpR X (fX .Sub) (rI0 fun i j=>.int (i - j)):=Aol fun _ _ _ _ _ _ _ q=>sub_int q
theorem Akr:OpR X (fX .Mult) (rI CMul fun i j=>.int (i * j)):=opI fun _ _ _ _ _ _ _ hc q=>mul_int q hc.ok
theorem Jr:OpR X (fX .Mod) (rI (fun _ j=>0 < j) fun i j=>.int (i % j)):=opI fun i j _ _ _ _ _ hc q=>by
 have h1:(0:Int) < j:=hc
 exact mod_int' (by omega) (by rw[Int.fmod_eq_emod_of_nonneg i (by omega)];exact q)
theorem Kc:OpR X (fX .Pow) (rI An6 fun i j=>.int (i ^ j.toNat)):=opI fun _ _ _ _ _ _ _ hc q=>pow_int_small hc.1 hc.2.1 hc.2.2 q
theorem unI{f:aF->Sem aF}{g:Int->Int}
  (rule:∀ (i:Int) (t:Tok) (s:aL) (Q:aF->aL->Prop) (E:aF->aL->Prop),Q (.int (g i) s.toks) { s with toks:=s.toks+1 }->wpAny (model X.prog X.w) X.A (f (.int i t)) Q E s) :
  UnR X f (rU fun i=>.int (g i)):=by
 intro pins s σ H x v Q I rx h
 obtain ⟨i,rfl,q⟩:=h
 obtain ⟨t,rfl⟩:=rx
 exact rule i t s _ _ ⟨.int (g i),H,I.tok _,⟨_,rfl⟩,q⟩
theorem Ale:UnR X (unaryOp .USub) (rU fun i=>.int (-i)):=unI fun _ _ _ _ _ q=>neg_int q
end
variable {op:CmpOp}
section
variable {a b:Expr}{tc:TE}
theorem Alb{k k':Bool}(I:Inv X pins σ H s)(q:Q (.bl k) H)(e:k=k'):EP X pins σ Q (.bool k') s:=by
 subst e
 exact ⟨.bl k,H,I,rfl,q⟩
theorem Aa5:OpR X (eE .Lt) (rI0 fun i j=>.bl (decide (i < j))):=Ajx fun _ _ _ _ _ _ _ q=>lt_int q
theorem Ad0:OpR X (eE .LtE) (rI0 fun i j=>.bl (decide (i<=j))):=Ajx fun _ _ _ _ _ _ _ q=>le_int q
theorem An9:OpR X (eE .Gt) (rI0 fun i j=>.bl (decide (j < i))):=Ajx fun _ _ _ _ _ _ _ q=>gt_int q
theorem Aoj:OpR X (eE .GtE) (rI0 fun i j=>.bl (decide (j<=i))):=Ajx fun _ _ _ _ _ _ _ q=>ge_int q
theorem Akn:OpR X (eE .Is) (fun x y H Q=>y = .non/\Q (.bl (decide (x = .non))) H):=by
 intro pins s σ H x y v u Q I rx ry h
 obtain ⟨rfl,q⟩:=h
 cases ry
 refine is_none_gen (Alb I q ?_)
 cases x <;> first
  | (cases rx;rfl)
  | (obtain ⟨t,rfl⟩:=rx;rfl)
theorem OpR.or{f:aF->aF->Sem aF}{r':R2}(h:OpR X f r)(h':OpR X f r'):OpR X f (fun x y H Q=>r x y H Q\/r' x y H Q):=by
 intro pins s σ H x y v u Q I rx ry q
 rcases q with q | q
 ·exact h pins s σ H x y v u Q I rx ry q
 ·exact h' pins s σ H x y v u Q I rx ry q
theorem Bt(b:Expr)(h:op≠.In:=by decide)(h2:op≠.NotIn:=by decide):behindInMarks op b=false:=by
 have e1:(op == CmpOp.In)=false:=by cases op <;> first | rfl | exact absurd rfl h
 have e2:(op == CmpOp.NotIn)=false:=by cases op <;> first | rfl | exact absurd rfl h2
 cases b <;> simp[behindInMarks,e1,e2]
theorem Ai2(ho:OpR X (eE op) r)(ha:PE X a ta)(hb:PE X b tb)(hm:behindInMarks op b=false):PE X (.Compare a [op] [b] pos) (tOp r ta tb):=by
 intro pins s σ H Q I h
 exact wpAny_Compare1 (Amx ha hb I h fun v u s2 x y H2 I2 rx ry q=>ho pins s2 σ H2 x y v u Q I2 rx ry q) hm
noncomputable def Afj(t:TE):TT:=fun σ H Q=>t σ H fun x H'=>∃ k,x = .bl k/\Q k H'
theorem Ah0(ho:OpR X (eE op) r)(ha:PE X a ta)(hb:PE X b tb)(hm:behindInMarks op b=false):PT X (.Compare a [op] [b] pos) (Afj (tOp r ta tb)):=by
 intro pins s σ H Q I h
 refine wpAny_isTrue_Compare1 (thn (ha pins s σ H _ I h) fun v s1 zz=>zz.elim fun x H1 I1 r1 q1=>thn (hb pins s1 σ H1 _ I1 q1) fun u s2 ⟨y,H2,I2,r2,q2⟩=>
  thn (ho pins s2 σ H2 x y v u _ I2 r1 r2 q2) fun c s3 zz=>zz.elim fun z H3 I3 r3 zq=>?_) hm
 obtain ⟨k,e,q3⟩:=zq
 subst e
 cases r3
 exact fD ⟨H3,I3,q3⟩
noncomputable def Aeo(r r':R2)(ta tb tc:TE):TE:=fun σ H Q=>ta σ H fun x H1=>tb σ H1 fun y H2=>r x y H2 fun z H3=>∃ k,z = .bl k /\
 (if k=true then tc σ H3 fun w' H4=>r' y w' H4 Q else Q (.bl false) H3)
theorem Af6{op':CmpOp}{r':R2}(ho:OpR X (eE op) r)(ho':OpR X (eE op') r')(ha:PE X a ta)(hb:PE X b tb)(hc:PE X c tc)
  (hm:lastMarks [op,op'] [b,c]=false:=by with_unfolding_all rfl):PT X (.Compare a [op,op'] [b,c] pos) (Afj (Aeo r r' ta tb tc)):=by
 intro pins s σ H Q I h
 refine isTrue_chain (thn (ha pins s σ H _ I h) fun v s1 zz=>zz.elim fun x H1 I1 r1 q1=>test_link (thn (hb pins s1 σ H1 _ I1 q1) fun u s2 ⟨y,H2,I2,r2,q2⟩=>
  thn (ho pins s2 σ H2 x y v u _ I2 r1 r2 q2) fun d s3 zz=>zz.elim fun z H3 I3 r3 zq=>?_)) hm
 obtain ⟨k,e,q3⟩:=zq
 subst e
 cases r3
 refine fD ?_
 cases k with
 | false=>
  obtain ⟨k',e',q'⟩:=q3
  cases e'
  exact ite_ff ⟨H3,I3,q'⟩
 | true=>
  refine ite_tt (test_last (thn (hc pins s3 σ H3 _ I3 q3) fun w' s4 zz=>zz.elim fun z' H4 I4 r4 q4=>thn (ho' pins s4 σ H4 y z' u w' _ I4 r2 r4 q4) fun d' s5 zz=>?_))
  obtain ⟨z2,H5,I5,r5,k2,e2,q5⟩:=zz
  subst e2
  cases r5
  exact fD ⟨H5,I5,q5⟩
noncomputable def Ams(K:aH)(x:V)(H:Hp)(k:Bool):Prop:=
 match x with
 | .non=>k=false
 | .bl b=>k=b
 | .int i=>k=(i != 0)
 | .str y=>y.length<=sizeLine/\k=((y.length:Int) != 0)
 | .byt y=>y.size<=sizeLine/\k=((y.size:Int) != 0)
 | .ref p=>(∃ xs,SqL K H p xs/\k = !xs.isEmpty)\/(∃ xs,SqT K H p xs/\k = !xs.isEmpty)\/∃ kvs,H p=some (.dK kvs)/\k = !kvs.isEmpty
 | _=>False
theorem Yf{κ:Type}{kvs:List (κ×V)}{vs:List (κ×aF)}(r:KV kvs vs):(!vs.isEmpty) = !kvs.isEmpty:=by
 cases r <;> rfl
theorem Po{its:List aF}(r:Vals xs its):(!its.toArray.isEmpty) = !xs.isEmpty:=by
 cases r <;> simp
theorem Nw:(sizeLine:Nat) < 2 ^ 63:=by rw[dU];decide
theorem Alf:Apz X (fun x H Q=>∃ k,Ams X.K x H k/\Q k H):=by
 intro pins s σ H x v Q I rx h
 obtain ⟨k,e,q⟩:=h
 have hl:=Nw
 have hs:sizeLine=16777216:=dU
 cases x with
 | non=>
  cases rx
  have e':k=false:=e
  subst e'
  exact truthy_none ⟨H,I,q⟩
 | bl b=>
  cases rx
  have e':k=b:=e
  subst e'
  exact fD ⟨H,I,q⟩
 | int i=>
  obtain ⟨t,rfl⟩:=rx
  have e':k=(i != 0):=e
  subst e'
  exact PySem.P.truthy_int ⟨H,I,q⟩
 | str y=>
  obtain ⟨t,rfl⟩:=rx
  obtain ⟨hy,e'⟩:y.length<=sizeLine/\k=((y.length:Int) != 0):=e
  subst e'
  exact PySem.P.truthy_str (by omega) ⟨H,I.tok _,q⟩
 | byt y=>
  obtain ⟨t,rfl⟩:=rx
  obtain ⟨hy,e'⟩:y.size<=sizeLine/\k=((y.size:Int) != 0):=e
  subst e'
  exact PySem.W.truthy_bytes (by omega) ⟨H,I.tok _,q⟩
 | ref p=>
  cases rx
  have e':(∃ xs,SqL X.K H p xs/\k = !xs.isEmpty)\/(∃ xs,SqT X.K H p xs/\k = !xs.isEmpty)\/∃ kvs,H p=some (.dK kvs)/\k = !kvs.isEmpty:=e
  rcases e' with ⟨xs,hx,e'⟩ | ⟨xs,hx,e'⟩ | ⟨kvs,hx,e'⟩
  ·subst e'
   obtain ⟨its,r,pl,hz⟩:=I.list hx
   have hlen:=r.length
   exact wpAny_truthy_list pl.isList (by simp only[aS];omega) ⟨H,I.tok _,by rw[Po r];exact q⟩
  ·subst e'
   obtain ⟨its,r,pl,hz⟩:=I.tuple hx
   have hlen:=r.length
   exact truthy_tuple pl (by simp only[aS];omega) ⟨H,I.tok _,by rw[Po r];exact q⟩
  ·subst e'
   obtain ⟨hz,hS,vs,r,m⟩:kvs.length<=sizeLine/\(p == sysModules)=false/\∃ vs,KV kvs vs/\s.heap.DictOf (Br X.prog X.w) p vs:=I.hok p _ hx
   have hlen:kvs.length=vs.length:=mQ r
   exact wpAny_truthy_dict hS m (by omega) ⟨H,I.tok _,by rw[Yf r];exact q⟩
 | _=>exact (show False from e).elim
theorem Ae8(ha:PE X a ta)(he:∀ whole,isTrue a X.env whole=(do let v <- whole;standAt a.pos;holding [v] (truthy v))) :
  PT X a (fun σ H Q=>ta σ H fun x H'=>∃ k,Ams X.K x H' k/\Q k H'):=by
 intro pins s σ H Q I h
 exact isTrue_plain (thn (ha pins s σ H _ I h) fun v s1 zz=>by obtain ⟨x,H1,I1,r1,q1⟩:=zz;exact Alf pins s1 σ H1 x v Q I1 r1 q1) (he _)
theorem Xi:OpR X (fX .Add) (fun x y H Q=>∃ i j,x = .str i/\y = .str j/\i.length+j.length<=sizeLine/\Q (.str (i++j)) H):=by
 intro pins s σ H x y v u Q I rx ry h
 obtain ⟨i,j,rfl,rfl,hz,q⟩:=h
 obtain ⟨t,rfl⟩:=rx
 obtain ⟨t',rfl⟩:=ry
 exact add_str (fun t' tk=>⟨.str (i++j),H,I.tok _,⟨_,rfl⟩,q⟩) hz
theorem Fe{x:V}(r:Vals [x] us):∃ u,us=[u]/\RelV x u:=by
 cases r with
 | cons r1 r2=>cases r2;exact ⟨_,rfl,r1⟩
theorem Sj{x y:V}(r:Vals [x,y] us):∃ u w',us=[u,w']/\RelV x u/\RelV y w':=by
 cases r with
 | cons r1 r2=>
  cases r2 with
  | cons r3 r4=>cases r4;exact ⟨_,_,rfl,r1,r3⟩
theorem Ql:CallR X (.builtin "abs") (fun xs H Q=>∃ i,xs=[.int i]/\Q (.int (if i < 0 then -i else i)) H):=by
 intro pins s σ H xs us Q I r h
 obtain ⟨i,rfl,q⟩:=h
 obtain ⟨u,rfl,t,rfl⟩:=Fe r
 exact call_abs_int fun u tk=>⟨.int (if i < 0 then -i else i),H,I.tok _,⟨_,rfl⟩,q⟩
theorem Acy(hc:X.calm=true):CallR X (.builtin "max") (fun xs H Q=>∃ i j,xs=[.int i,.int j]/\Q (.int (if j > i then j else i)) H):=by
 intro pins s σ H xs us Q I r h
 obtain ⟨i,j,rfl,q⟩:=h
 obtain ⟨u,w',rfl,⟨t,rfl⟩,⟨t',rfl⟩⟩:=Sj r
 refine max_two_ints (I.ok.hd hc) fun h' tk k=>⟨_,H,I.kept k,?_,q⟩
 by_cases hj:j > i
 ·rw[if_pos hj,if_pos hj];exact ⟨_,rfl⟩
 ·rw[if_neg hj,if_neg hj];exact ⟨_,rfl⟩
theorem Ac4:CallR X (.type "int") (fun xs H Q=>(∃ i,xs=[.int i]/\Q (.int i) H)\/∃ k,xs=[.bl k]/\Q (.int (if k then 1 else 0)) H):=by
 intro pins s σ H xs us Q I r h
 rcases h with ⟨i,rfl,q⟩ | ⟨k,rfl,q⟩
 ·obtain ⟨u,rfl,t,rfl⟩:=Fe r
  exact call_int_int ⟨.int i,H,I,⟨_,rfl⟩,q⟩
 ·obtain ⟨u,rfl,r1⟩:=Fe r
  cases r1
  exact call_int_bool ⟨.int (if k then 1 else 0),H,I.tok _,⟨_,rfl⟩,q⟩
noncomputable def Anx(K:aH)(x:V)(H:Hp)(n:Nat):Prop:=
 match x with
 | .str y=>y.length<=sizeLine/\n=y.length
 | .byt y=>y.size<=sizeLine/\n=y.size
 | .ref p=>(∃ xs,SqL K H p xs/\n=xs.length)\/∃ xs,SqT K H p xs/\n=xs.length
 | _=>False
theorem Dt:CallR X (.builtin "len") (fun xs H Q=>∃ x n,xs=[x]/\Anx X.K x H n/\Q (.int n) H):=by
 intro pins s σ H xs us Q I r h
 obtain ⟨x,n,rfl,e,q⟩:=h
 obtain ⟨u,rfl,rx⟩:=Fe r
 have hl:=Nw
 have hs:sizeLine=16777216:=dU
 cases x with
 | str y=>
  obtain ⟨t,rfl⟩:=rx
  obtain ⟨hy,e'⟩:y.length<=sizeLine/\n=y.length:=e
  subst e'
  exact len_str (by omega) ⟨.int _,H,I.tok _,⟨_,rfl⟩,q⟩
 | byt y=>
  obtain ⟨t,rfl⟩:=rx
  obtain ⟨hy,e'⟩:y.size<=sizeLine/\n=y.size:=e
  subst e'
  exact PySem.W.len_bytes (by omega) ⟨.int _,H,I.tok _,⟨_,rfl⟩,q⟩
 | ref p=>
  cases rx
  have e':(∃ xs,SqL X.K H p xs/\n=xs.length)\/∃ xs,SqT X.K H p xs/\n=xs.length:=e
  rcases e' with ⟨xs,hx,e'⟩ | ⟨xs,hx,e'⟩
  ·subst e'
   obtain ⟨its,r',pl,hz⟩:=I.list hx
   have hlen:=r'.length
   exact Calls.call_len_list pl.isList (by simp only[aS];omega) ⟨.int xs.length,H,I.tok _,⟨_,by simp only[aS];rw[hlen]⟩,q⟩
  ·subst e'
   obtain ⟨its,r',pl,hz⟩:=I.tuple hx
   have hlen:=r'.length
   exact len_tuple pl (by simp only[aS];omega) ⟨.int xs.length,H,I.tok _,⟨_,by simp only[aS];rw[hlen]⟩,q⟩
 | _=>exact (show False from e).elim
end
structure ObjM(h:Heap)(x dx C:Addr)(mA:Str->Option aF):Prop where
 obj:h.get? x=some (gX C dx)
 ns:h.Ns1 dx mA
 ne:dx≠x
variable {dx:Addr}{mA:Str->Option aF}
theorem Adc(n:h.Ns1 dx mA):∃ od,h.get? dx=some od/\∀ name,oW name od=some (mA name):=by
 obtain ⟨o,es,ep,ho,hd,hk,_,hm⟩:=n
 refine ⟨o,ho,fun name=>?_⟩
 have e:=hm name
 unfold nsFind findBy at e
 rw[<- Array.find?_toList] at e
 unfold oW
 rw[hd]
 dsimp only
 split
 ·rename_i y q
  rw[q] at e
  exact congrArg some e
 ·rename_i q
  rw[q] at e
  have a:es.toList.any (·.refKey)=false:=by
   rw[qJ]
   intro y hy
   obtain ⟨z,t,hkey⟩:=hk y (Array.mem_toList_iff.mp hy)
   simp[DictEntry.refKey,hkey]
  have a':¬ es.toList.any (·.refKey)=true:=by rw[a];exact cL
  rw[if_neg a']
  exact congrArg some e
variable {C:Addr}
theorem ObjM.look{x:Addr}(I:ObjM h x dx C mA):∃ od,PySem.W.InstAt h x (gX C dx) C (some od)/\∀ name,oW name od=some (mA name):=
 let ⟨od,ho,hl⟩:=Adc I.ns
 ⟨od,⟨I.obj,rfl,rfl,ho⟩,hl⟩
variable {f:Addr}
section
variable {prog:cU}{x:Addr}{name:Str}{v:aF}
end
theorem RelO.some_of{o:Option aF}(r:RelO (some v) o):∃ u,o=some u/\RelV v u:=by
 cases o with
 | none=>exact (show False from r).elim
 | some u=>exact ⟨u,rfl,r⟩
theorem RelO.none_of{o:Option aF}(r:RelO none o):o=none:=by
 cases o with
 | none=>rfl
 | some u=>exact (show False from r).elim
section
variable {fs fs':List (Str×V)}
theorem Aif(hok:HOk P w H h)(e:H a=some (.ins C dx fs)):∃ mA,ObjM h a dx C mA/\(∀ f,RelO (fs.lookup f) (mA f))/\tU mA (fs.map (·.1))/\fs.length<=1000/\H dx=some (.own a):=by
 obtain ⟨d,z,ne,ob,mA,n,r,q⟩:=(show ObjOk P w H h a (.ins C dx fs) from hok a _ e)
 exact ⟨mA,⟨ob,n,ne⟩,r,q,z,d⟩
end
structure Cls(K:aH)(C:Addr):Prop where
 pg:rK K C Str.empty=true
 hd:PySem.W.hasDictIn K C=true
 po:PySem.W.plainOver K C=true
 sa:jS K (.ref C) "__setattr__" = some (some (.builtin "object.__setattr__"))
theorem Cls.get(c:Cls K C)(f:Str):rK K C f=true:=c.pg
structure Con(K:aH)(C:Addr)(f:Str)(v:V)(u:aF):Prop where
 at_:jS K (.ref C) f=some (some u)
 rel:RelV v u
 get:qK K u "__get__" = some none
 cp:PySem.W.copiedNames.contains f=false
structure Meth(K:aH)(C:Addr)(m:Str)(f:Addr):Prop where
 at_:jS K (.ref C) m=some (some (.ref f))
 fn:tV K (.ref f)=true
 kp:bY K (.ref f)=true
section
variable {fs:List (Str×V)}{f:Str}
theorem Inv.made(I:Inv X pins σ H s):Inv X pins σ (upd (upd H s.heap.objs.size (.own (s.heap.objs.size+1))) (s.heap.objs.size+1) (.ins C s.heap.objs.size []))
  { s with heap:=(s.heap.push fE).push (gX C s.heap.objs.size) }:=by
 have e1:(s.heap.push fE).get? s.heap.objs.size=some fE:=bC s.heap rfl
 have e2:((s.heap.push fE).push (gX C s.heap.objs.size)).get? (s.heap.objs.size+1)=some (gX C s.heap.objs.size):=by
  have:=bC (s.heap.push fE) (o:=gX C s.heap.objs.size) rfl
  rwa [dH] at this
 have e3:(s.heap.push fE).Ns s.heap.objs.size (fun _=>none):=⟨fE,#[],_,e1,rfl,(fun e he=>absurd he (by simp)),fun _=>rfl⟩
 have I1:=I.laid (a:=s.heap.objs.size) (o:=.own (s.heap.objs.size+1)) (h':=s.heap.push fE) (t':=s.toks) (fun b u q=>aE _ q) (aQ _) ⟨_,e1⟩
 refine I1.laid (a:=s.heap.objs.size+1) (o:=.ins C s.heap.objs.size []) (t':=s.toks) (fun b u q=>aE _ q) (nS (dH _ _)) ?_
 have ne:s.heap.objs.size≠s.heap.objs.size+1:=bU (dZ _)
 refine ⟨by rw[Aq ne,upd_same],eX _,ne,e2,fun _=>none,(Heap.Ns1.of_empty e3).at fun o q=>aE _ q,fun _=>iK,fun y hy=>absurd rfl hy⟩
end
section
variable {o value:Expr}{f:Str}{pos' tpos:Pos}{tv:TE}
end
section
variable {Q:aF->aL->Prop}{c:aF}{b:Bool}
inductive TyOf(K:aH)(H:Hp):V->aF->Prop where
 | non:TyOf K H .non (.type "NoneType")
 | bl (x:Bool):TyOf K H (.bl x) (.type "bool")
 | int (i:Int):TyOf K H (.int i) (.type "int")
 | str (x:Str):TyOf K H (.str x) (.type "str")
 | flt (x:UInt64):TyOf K H (.flt x) (.type "float")
 | lst {a:Addr} {xs:List V} (e:H a=some (.lst xs)):TyOf K H (.ref a) (.type "list")
 | frz {a:Addr} {o:Obj} {xs:List V} (e:H a=some (.frz o (.lst xs))):TyOf K H (.ref a) (.type "list")
 | tup {a:Addr} {xs:List V} (e:H a=some (.tup xs)):TyOf K H (.ref a) (.type "tuple")
 | dK {a:Addr} {kvs:List (Key×V)} (e:H a=some (.dK kvs)):TyOf K H (.ref a) (.type "dict")
 | dT {a:Addr} {kvs:List (List Key×V)} (e:H a=some (.dT kvs)):TyOf K H (.ref a) (.type "dict")
 | ins {a C dx:Addr} {fs:List (Str×V)} (e:H a=some (.ins C dx fs)) (cl:Cls K C) (ha:jS K (.ref C) "__class__" = some (some (.builtin "object.__class__")))
   (hn:qK K (.builtin "object.__class__") "__get__" = some (some (.builtin "getset_descriptor.__get__"))) (htk:PySem.W.takesIn K (.builtin "object.__class__")=some true)
   (hm:PySem.W.mroIn K C (.type "object")=some true):TyOf K H (.ref a) (.ref C)
theorem Jf{x:V}{t:aF}(I:Inv X pins σ H s)(rx:RelV x u)(ty:TyOf X.K H x t)(e:fF X.K t c=some b)(h:∀ tk,Q (.bool b) { s with toks:=tk }) :
  wpAny (model X.prog X.w) A (call (.builtin "isinstance") [u,c]) Q E s:=by
 cases ty with
 | non=>cases (show u=eM from rx);exact dX PySem.W.kitx_none I.kIn iK e (fun z=>nomatch z) h
 | bl y=>cases (show u=nO y from rx);exact dX PySem.W.kitx_bool I.kIn iK e (fun z=>nomatch z) h
 | int i=>obtain ⟨t,q⟩:=(show ∃ t,u=kC i t from rx);cases q;exact dX PySem.W.kitx_int I.kIn iK e (fun z=>nomatch z) h
 | str y=>obtain ⟨t,q⟩:=(show ∃ t,u=lM y t from rx);cases q;exact dX PySem.W.kitx_str I.kIn iK e (fun z=>nomatch z) h
 | flt y=>obtain ⟨t,q⟩:=(show ∃ t,u=wC y t from rx);cases q;exact dX PySem.W.kitx_float I.kIn iK e (fun z=>nomatch z) h
 | @lst a xs ea=>
  cases (show u=dY a from rx)
  obtain ⟨_,_,n,_,h1⟩:=(show ObjOk X.prog X.w H s.heap a (.lst xs) from I.hok a _ ea)
  exact dX mK I.kIn ⟨_,h1,rfl⟩ e (fun z=>nomatch z) h
 | @frz a ob xs ea=>
  cases (show u=dY a from rx)
  obtain ⟨_,_,_,n,_,h1⟩:=(show ObjOk X.prog X.w H s.heap a (.frz ob (.lst xs)) from I.hok a _ ea)
  exact dX mK I.kIn ⟨_,h1,rfl⟩ e (fun z=>nomatch z) h
 | @tup a xs ea=>
  cases (show u=dY a from rx)
  obtain ⟨_,_,_,p⟩:=(show ObjOk X.prog X.w H s.heap a (.tup xs) from I.hok a _ ea)
  obtain ⟨o,h1,h2,_⟩:=p
  exact dX pV I.kIn ⟨o,h1,(kK h2).1⟩ e (fun z=>nomatch z) h
 | @dK a kvs ea=>
  cases (show u=dY a from rx)
  obtain ⟨_,_,vs,_,p⟩:=(show ObjOk X.prog X.w H s.heap a (.dK kvs) from I.hok a _ ea)
  obtain ⟨o,es,ep,h1,h2,_⟩:=p
  exact dX qL I.kIn ⟨o,h1,h2.1⟩ e (fun z=>nomatch z) h
 | @dT a kvs ea=>
  cases (show u=dY a from rx)
  obtain ⟨_,_,xs,_,o,es,ep,h1,h2,_⟩:=(show ObjOk X.prog X.w H s.heap a (.dT kvs) from I.hok a _ ea)
  exact dX qL I.kIn ⟨o,h1,h2.1⟩ e (fun z=>nomatch z) h
 | @ins a C dx fs ea cl ha hn htk hm=>
  cases (show u=dY a from rx)
  obtain ⟨mA,O,_⟩:=Aif I.hok ea
  obtain ⟨od,J,_⟩:=O.look
  exact dX (PySem.W.kitx_own (cl.get _) cl.hd ha hn htk hm) I.kIn J e (fun z=>nomatch z) h
end
structure Room(k:Nat)(A:dO):Prop where
 hd:A.handled=none
 dp:A.depth+3 * k+5 < recursionLimit
 un:A.units+16 * k+200 < cLine
theorem Room.mono(r:Room k A)(h:j<=k):Room j A:=⟨r.hd,by have:=r.dp;omega,by have:=r.un;omega⟩
theorem Room.deeper(r:Room (k+1) A)(env:Env):Room k (A.deeper env):=
 ⟨r.hd,by have:=r.dp;show A.depth+1+3 * k+5 < _;omega,by have:=r.un;show A.units+3+16 * k+200 < _;omega⟩
theorem Room.in1(r:Room (k+1) A):Room k A.in1:=
 ⟨r.hd,by have:=r.dp;show A.depth+3 * k+5 < _;omega,by have:=r.un;show A.units+1+16 * k+200 < _;omega⟩
theorem Room.depth(r:Room k A):A.depth < recursionLimit:=by have:=r.dp;omega
theorem Room.units(r:Room k A):A.units+64 < cLine:=by have:=r.un;omega
noncomputable def An5:TA:=fun _ H Q=>Q [] H
noncomputable def Aj5(ta:TE)(tr:TA):TA:=fun σ H Q=>ta σ H fun x H1=>tr σ H1 fun xs H2=>Q (x::xs) H2
variable {t:TA}
section
theorem Xx:PA X [] An5:=fun _ _ _ _ H Q I h=>mL ⟨[],H,I,.nil,h⟩
theorem Pb(ha:PE X e te)(hr:PA X es t)(hs:bS (e::es) X.env=(false,eval e X.env)::bS es X.env:=by rfl):PA X (e::es) (Aj5 te t):=by
 intro pos pins s σ H Q I h
 rw[hs]
 show wpAny _ _ (spliced ((false,eval e X.env)::backTo pos (bS es X.env))) _ _ s
 refine lR (thn (ha pins s σ H _ I h) fun u s1 zz=>?_)
 obtain ⟨x,H1,I1,r1,q1⟩:=zz
 refine thn (hr pos pins s1 σ H1 _ I1 q1) fun us s2 zz=>?_
 obtain ⟨xs,H2,I2,r2,q2⟩:=zz
 exact ⟨x::xs,H2,I2,.cons r1 r2,q2⟩
noncomputable def Aps(t:TA):TE:=fun σ H Q=>t σ H fun xs H1=>xs.length<=sizeLine/\∀ p,H1 p=none->Q (.ref p) (upd H1 p (.tup xs))
noncomputable def Apk(t:TA):TE:=fun σ H Q=>t σ H fun xs H1=>xs.length<=sizeLine/\∀ p,H1 p=none->Q (.ref p) (upd H1 p (.lst xs))
theorem Akx{x1}(h:PA X es t):PE X (.Tuple es x1 pos) (Aps t):=by
 intro pins s σ H Q I hq
 refine wpAny_Tuple_spliced (thn (h pos pins s σ H _ I hq) fun us s1 zz=>zz.elim fun xs H1 I1 r zq=>⟨by rw[<- r.length];exact zq.1,?_⟩)
 obtain ⟨z,q⟩:=zq
 have hf:H1 s1.heap.objs.size=none:=I1.hok.fresh (aQ _)
 refine ⟨.ref s1.heap.objs.size,upd H1 s1.heap.objs.size (.tup xs),I1.laid (t':=s1.toks) (fun b u e=>aE _ e) (aQ _) ?_,rfl,q _ hf⟩
 exact ⟨z,us,r,⟨_,bC _ rfl,rfl,_,rfl⟩⟩
theorem Amz(h:PA X es t):PE X (.List es pos) (Apk t):=by
 intro pins s σ H Q I hq
 refine wpAny_List_spliced (thn (h pos pins s σ H _ I hq) fun us s1 zz=>zz.elim fun xs H1 I1 r zq=>⟨by rw[<- r.length];exact zq.1,?_⟩)
 obtain ⟨z,q⟩:=zq
 have hf:H1 s1.heap.objs.size=none:=I1.hok.fresh (aQ _)
 refine ⟨.ref s1.heap.objs.size,upd H1 s1.heap.objs.size (.lst xs),I1.laid (t':=s1.toks) (fun b u e=>aE _ e) (aQ _) ?_,rfl,q _ hf⟩
 exact ⟨z,us,0,r,bC _ rfl⟩
end
abbrev Sp:=List V->Hp->VK->XK->Prop
abbrev CXT:=List Env->Hp->aL->XK->aF->aL->Prop
structure Env0(P:cU)(w:eD)(K:aH)(mg:Str->Option aF)(base:Heap)(A:dO)(outer:List Env)(s:aL)(H:Hp):Prop where
 frames:A.frames=some outer
 mod:Mod K mg base
 bs:∀ b o,base.get? b=some o->s.heap.get? b=some o/\H b=none
 bsz:base.objs.size<=s.heap.objs.size
 funs:s.heap.FunFrames base outer
 frf:∀ b∈frs outer,H b=none
 hok:HOk P w H s.heap
 bare:nQ s.gens
inductive CE(outer:List Env)(P:cU)(w:eD)(H:Hp)(s:aL)(Q:VK)(u:aF)(s':aL):Prop
 | mk (v:V) (H':Hp) (os:s'.os=s.os) (bare:nQ s'.gens) (un:Un (frs outer) [] H H' s.heap s'.heap) (hok:HOk P w H' s'.heap) (r:RelV v u) (q:Q v H'):CE outer P w H s Q u s'
noncomputable def CR(CX:CXT)(outer:List Env)(P:cU)(w:eD)(H:Hp)(s:aL)(Q:VK)(E:XK)(r:rL)(s':aL):Prop:=
 match r with
 | .ok (.ret u)=>CE outer P w H s Q u s'
 | .ok _=>False
 | .error e=>CX outer H s E e s'
structure FnOk(P:cU)(w:eD)(K:aH)(mg:Str->Option aF)(base:Heap)(CX:CXT)(k:Nat)(f:Addr)(fd:dA)(ps:List Str)(sp:Sp):Prop where
 len:∀ vs H Q E,sp vs H Q E->vs.length=ps.length
 run:∀ (A:dO) (outer:List Env) (s:aL) (H:Hp) (args:Args) (us:List aF) (vs:List V) (Q:VK) (E:XK),Room k A->Env0 P w K mg base A outer s H->pL s fd args (ps.zip us)->Vals vs us->sp vs H Q E ->
  jT (model P w) A (.call (.ref f) args) (CR CX outer P w H s Q E) s
variable {mg:Str->Option aF}{base:Heap}{CX:CXT}{fd:dA}{ps:List Str}{sp:Sp}
theorem FnOk.mono(F:FnOk P w K mg base CX j f fd ps sp)(h:j<=k) :
  FnOk P w K mg base CX k f fd ps sp:=⟨F.len,fun A outer s H args us vs Q E hr=>F.run A outer s H args us vs Q E (hr.mono h)⟩
theorem FnOk.imp{sp':Sp}(F:FnOk P w K mg base CX k f fd ps sp)
  (h:∀ vs H Q E,sp' vs H Q E->sp vs H Q E):FnOk P w K mg base CX k f fd ps sp':=
 ⟨fun vs H Q E q=>F.len vs H Q E (h _ _ _ _ q),fun A outer s H args us vs Q E hr he hb hv hs=>F.run A outer s H args us vs Q E hr he hb hv (h _ _ _ _ hs)⟩
theorem Env0.in1{outer:List Env}(e:Env0 P w K mg base A outer s H) :
  Env0 P w K mg base A.in1 outer s H:=⟨e.frames,e.mod,e.bs,e.bsz,e.funs,e.frf,e.hok,e.bare⟩
section
theorem Inv.env0(I:Inv X pins σ H s):Env0 X.prog X.w X.K X.mg X.base X.A X.stack s H:=
 ⟨I.ok.frames,I.ok.mod,I.bs,cK I.ok.bsz I.sz,I.stack,I.stkFree,I.hok,I.bare⟩
theorem Inv.after(I:Inv X pins σ H s)(h:CE X.stack X.prog X.w H s Q u s'):EP X pins σ Q u s':=by
 obtain ⟨v,H',os,bare,un,hok,r,q⟩:=h
 obtain ⟨hh,g,d,t,os'⟩:=s'
 obtain rfl:os'=s.os:=os
 exact ⟨v,H',I.call (h':=hh) (g':=g) (d':=d) (t':=t) (ch:=[]) un hok bare (fun b z=>absurd z (by simp)),r,q⟩
end
noncomputable def An0(sp:Sp)(dvs:List V)(E:XK)(t:TA):TE:=fun σ H Q=>t σ H fun vs H1=>sp (vs++dvs) H1 Q E
noncomputable def Binds(K:aH)(fd:dA)(ps:List Str)(ds:List aF):Prop:=
 ∀ (s:aL) (us:List aF),K.In s.heap->(us++ds).length=ps.length->pL s fd ⟨us,[]⟩ (ps.zip (us++ds))
theorem Binds.all(h:∀ us:List aF,us.length=ps.length->bindArgs fd ⟨us,[]⟩=pure (ps.zip us)):Binds K fd ps []:=fun s us _ hl=>by
 rw[bG] at hl ⊢
 exact .of_eq (h us hl)
noncomputable def X1(CX:CXT)(X:Cx)(E:XK):Prop:=∀ (pins:List (Addr×Obj)) (σ:St) (H:Hp) (s:aL) (e:aF) (s':aL),Inv X pins σ H s->CX X.stack H s E e s'->X.xe e s'
section
variable {dvs:List V}{ds:List aF}{E:XK}{m:Str}{apos:Pos}{o:Expr}
theorem Ana{vs:List V}(F:FnOk X.prog X.w X.K X.mg X.base CX k f fd ps sp)(hr:Room k X.A)(hb:Binds X.K fd ps ds)(hd:Vals dvs ds)(hx:X1 CX X E)
  (I:Inv X pins σ H s) (r:Vals vs us) (h:sp (vs++dvs) H Q E):wpAny (model X.prog X.w) X.A (call (.ref f) us) (EP X pins σ Q) X.xe s:=by
 have r2:Vals (vs++dvs) (us++ds):=r.append hd
 have hl:(us++ds).length=ps.length:=by rw[<- r2.length];exact F.len _ _ _ _ h
 refine wpAny_call (qM (F.run X.A X.stack s H ⟨us,[]⟩ (us++ds) (vs++dvs) Q E hr I.env0 (hb s us I.kIn hl) r2 h) fun r s' hq=>?_)
 cases r with
 | error e=>exact hx pins σ H s e s' I hq
 | ok fl=>
  cases fl with
  | ret u=>exact I.after hq
  | next=>exact fV hq
  | brk=>exact fV hq
  | cont=>exact fV hq
theorem Ahv(F:FnOk X.prog X.w X.K X.mg X.base CX k f fd ps sp)(hr:Room k X.A)(hg:Gl X x)(hm:X.mg x=some (.ref f))(hk:bY X.K (.ref f)=true)(hb:Binds X.K fd ps ds)(hd:Vals dvs ds)(hx:X1 CX X E)
  (ha:PA X (e::es) t) (hdb:(x == ("__debug__" : Str))=false:=by decide) (he:bS (e::es) X.env=(false,eval e X.env)::bS es X.env:=by rfl) (hpl:(backTo pos (bS es X.env)).any (·.1)=false:=by rfl) :
  PE X (.Call (.Name x p) (e::es) [] pos) (An0 sp dvs E t):=by
 intro pins s σ H Q I h
 refine eF (Ajn I hg hm ?_ hdb)
 refine PySem.W.callWith_K (h₀:=X.base) I.ok.mod.kin hk (thn (ha pos pins s σ H _ I h) fun us s1 zz=>zz.elim fun vs H1 I1 r q=>⟨I1.kIn,?_⟩) he hpl
 exact Ana F hr hb hd hx I1 r q
structure Mk(K:aH)(C f:Addr):Prop where
 makes:PySem.W.makesIn K C=true
 init:jS K (.ref C) "__init__" = some (some (.ref f))
 fn:tV K (.ref f)=true
 kp:bY K (.ref C)=true
end
noncomputable def PK(X:Cx)(kws:List jJ)(t:TA):Prop:=
 ∀ (pos:Pos) (pins:List (Addr×Obj)) (s:aL) (σ:St) (H:Hp) (Q:List V->Hp->Prop),Inv X pins σ H s->t σ H Q->wpAny (model X.prog X.w) X.A (evalAll ((backToKw pos (keywordEach kws X.env)).map (·.2))) (AP X pins σ Q) X.xe s
section
variable {ks:List Str}{E:XK}{m:Str}{apos kpos:Pos}{o:Expr}{kws:List jJ}{tk:TA}{nm:Option Str}
theorem Af1:PK X [] An5:=fun _ _ _ _ H Q I h=>wpAny_evalAll_nil ⟨[],H,I,.nil,h⟩
theorem Uj(ha:PE X e te)(hr:PK X kws t):PK X (⟨nm,e,kpos⟩::kws) (Aj5 te t):=by
 intro pos pins s σ H Q I h
 show wpAny _ _ (evalAll ((do let v <- eval e X.env;standAt pos;pure v)::(backToKw pos (keywordEach kws X.env)).map (·.2))) _ _ s
 refine wpAny_evalAll_cons (aC (thn (ha pins s σ H _ I h) fun u s1 zz=>zz.elim fun x H1 I1 r1 q1=>aC (mR (aU ?_))))
 refine thn (hr pos pins s1 σ H1 _ I1 q1) fun us s2 zz=>?_
 obtain ⟨xs,H2,I2,r2,q2⟩:=zz
 exact ⟨x::xs,H2,I2,.cons r1 r2,q2⟩
structure KBinds(K:aH)(fd:dA)(ps ks:List Str)(g:List aF->List aF->List aF)(gV:List V->List V->List V):Prop where
 to:∀ (s:aL) (us ws:List aF),K.In s.heap->(g us ws).length=ps.length->pL s fd ⟨us,ks.zip ws⟩ (ps.zip (g us ws))
 rel:∀ {vs:List V} {us:List aF} {zs:List V} {ws:List aF},Vals vs us->Vals zs ws->Vals (gV vs zs) (g us ws)
variable {g:List aF->List aF->List aF}{gV:List V->List V->List V}
end
structure FnScope(N P:List Str)(sc:iZ):Prop where
 kind:sc.kind = .function
 co:sc.isCoroutine=false
 gen:sc.isGenerator=false
 nd:N.Nodup
 pre:N.take P.length=P
 par:∀ x∈P,sc.names.lookup x=some .local\/sc.names.lookup x=some .cell
 nofree:∀ y∈sc.names,y.2≠.free
variable {kindOf:Str->Option iO}
theorem S8:∀ {binds:List (Str×aF)} {m:Str->Option aF},(∀ v,(x,v)∉binds)->bindL kindOf binds m x=m x
 | [],_,_=>rfl
 | (n,v)::r,m,h=>by
  unfold bindL
  rw[S8 fun w hw=>h w (aM _ hw)]
  split
  ·have:x≠n:=by rintro rfl;exact h v aW
   simp[this]
  ·rfl
theorem Ts:∀ {binds:List (Str×aF)} {m:Str->Option aF},(∀ v,(x,v)∉binds)->bindC kindOf binds m x=m x
 | [],_,_=>rfl
 | (n,v)::r,m,h=>by
  unfold bindC
  rw[Ts fun w hw=>h w (aM _ hw)]
  split
  ·rfl
  ·have:x≠n:=by rintro rfl;exact h v aW
   simp[this]
theorem Sl{v:aF}:∀ {P:List Str} {vs:List aF} {i:Nat} {m:Str->Option aF},P.Nodup->P[i]? = some x->vs[i]? = some v->kindOf x=some .local ->
  bindL kindOf (P.zip vs) m x=some v
 | [],_,_,_,_,h,_,_=>by simp at h
 | _::_,[],_,_,_,_,h,_=>by simp at h
 | p::P,w::vs,0,m,nd,h1,h2,hk=>by
  simp at h1 h2;subst h1;subst h2
  show bindL kindOf ((p,w)::P.zip vs) m p=_
  unfold bindL
  rw[S8 fun v hv=>(kN.mp nd).1 (oF hv).1,if_pos hk]
  simp
 | p::P,w::vs,i+1,m,nd,h1,h2,hk=>by
  show bindL kindOf ((p,w)::P.zip vs) m x=_
  unfold bindL
  exact Sl (i:=i) (kN.mp nd).2 (by simpa using h1) (by simpa using h2) hk
theorem Tq{v:aF}:∀ {P:List Str} {vs:List aF} {i:Nat} {m:Str->Option aF},P.Nodup->P[i]? = some x->vs[i]? = some v->kindOf x≠some .local ->
  bindC kindOf (P.zip vs) m x=some v
 | [],_,_,_,_,h,_,_=>by simp at h
 | _::_,[],_,_,_,_,h,_=>by simp at h
 | p::P,w::vs,0,m,nd,h1,h2,hk=>by
  simp at h1 h2;subst h1;subst h2
  show bindC kindOf ((p,w)::P.zip vs) m p=_
  unfold bindC
  rw[Ts fun v hv=>(kN.mp nd).1 (oF hv).1,if_neg hk]
  simp
 | p::P,w::vs,i+1,m,nd,h1,h2,hk=>by
  show bindC kindOf ((p,w)::P.zip vs) m x=_
  unfold bindC
  exact Tq (i:=i) (kN.mp nd).2 (by simpa using h1) (by simpa using h2) hk
noncomputable def start(N:List Str)(vs:List V):St:=vs.map some++bJ (N.length - vs.length) none
noncomputable def Vu(CX:CXT)(P:cU)(w:eD)(K:aH)(mg:Str->Option aF)(base:Heap)(N:List Str)(qual:Str)(scope:iZ)(f:Addr)(cd:aF)(A:dO)(outer:List Env)(s:aL)(H:Hp)(E:XK):Cx where
 prog:=P
 w:=w
 K:=K
 mg:=mg
 base:=base
 A:=A.deeper (envOfC qual scope s.heap.objs.size f cd)
 N:=N
 s₀:=s
 H₀:=H
 env:=envOfC qual scope s.heap.objs.size f cd
 outer:=outer
 stack:=envOfC qual scope s.heap.objs.size f cd::outer
 ex:=[]
 calm:=true
 fn:=fun _=>true
 pn:=[]
 xe:=fun e s'=>wpAny (model P w) (A.deeper (envOfC qual scope s.heap.objs.size f cd)) (leaving (envOfC qual scope s.heap.objs.size f cd) e) (fun _ s''=>CX outer H s E e s'') (fun e' s''=>CX outer H s E e' s'') s'
theorem Vi{sc:iZ}{n:Nat}(h:sc.names.lookup x=some .cell):∃ c,(cellsFrom n sc.names []).lookup x=some c:=by
 have q:=jU sc.names n [] (.inl h)
 exact jF.mp q
theorem Aco{N:List Str}{qual:Str}{scope:iZ}{cd:aF}{outer:List Env}{s1:aL}{E:XK}{vs:List V}
  (S:FnScope N ps scope) (hd:A.handled=none) (e0:Env0 P w K mg base A outer s H) (hl:vs.length=ps.length) (r:Vals vs us)
  (x:InCallC s s.heap.objs.size (bindL (envOfC qual scope s.heap.objs.size f cd).kindOf (ps.zip us) fun _=>none) (cellsFrom (s.heap.objs.size+1) scope.names []) (bindC (envOfC qual scope s.heap.objs.size f cd).kindOf (ps.zip us) fun _=>none) s1) :
  Inv (Vu CX P w K mg base N qual scope f cd A outer s H E) [] (start N vs) H s1:=by
 have hpl:ps.length<=N.length:=by have:=congrArg mM S.pre;rw[gF] at this;omega
 obtain ⟨h1,tk,rfl,hk⟩:=x.done
 have noA:∀ b:Addr,b∉(Vu CX P w K mg base N qual scope f cd A outer s H E).ex:=fun b z=>absurd (show b∈([]:List Addr) from z) (by simp)
 refine ⟨⟨e0.mod,S.kind,rfl,rfl,aQ _,fun y z c h1 h2=>?_,fun y hy=>?_,fun y c _ h=>?_,fun _=>hd,oX e0.frames,.inr ⟨rfl,rfl⟩,fun b z=>absurd z (noA b),e0.bs,e0.bsz,fun b _ _=>noA b,fun b z=>absurd z (noA b),e0.funs,e0.frf⟩,
  rfl,e0.bare,Un.kept hk,⟨_,x.toInCall.ns,fun i y v h1 h2 h3=>?_⟩,fun y c h=>⟨_,x.cell y c h⟩,e0.hok.fresh (aQ _),fun y c h=>?_,fun p hp=>absurd (show p∈([]:List (Addr×Obj)) from hp) (by simp),e0.hok.kept hk,?_⟩
 ·exact name_of_addr x.apart (iF h1) (iF h2)
 ·have hy:scope.names.lookup y=some .cell\/scope.names.lookup y=some .free:=hy
  rcases hy with hy | hy
  ·exact Vi hy
  ·exact absurd rfl (S.nofree _ (iF hy))
 ·exact lD (x.above y c (iF h))
 ·have hi:i < vs.length:=by
   unfold start at h2
   by_cases hi:i < vs.length
   ·exact hi
   ·rw[cV (by simpa using hi)] at h2
    rw[List.getElem?_replicate] at h2
    split at h2 <;> cases h2
  have ha:vs[i]? = some v:=by
   unfold start at h2
   rw[bK (by simpa using hi),bO] at h2
   cases e:vs[i]? with
   | none=>rw[e] at h2;cases h2
   | some a=>rw[e] at h2;cases h2;rfl
  obtain ⟨u,hu,rv⟩:=r.get ha
  have hp:ps[i]? = some y:=by
   rw[<- S.pre,List.getElem?_take_of_lt (by omega)];exact h1
  have ndP:ps.Nodup:=by rw[<- S.pre];exact S.nd.sublist (List.take_sublist _ _)
  refine ⟨u,rv,?_⟩
  rcases S.par y (bV hp) with k | k
  ·exact .inl ⟨k,Sl ndP hp hu k⟩
  ·obtain ⟨c,e⟩:=Vi (n:=s.heap.objs.size+1) k
   refine .inr ⟨.inl k,c,e,?_⟩
   have q:=x.cell y c e
   rw[Tq ndP hp hu (by show scope.names.lookup y≠_;rw[k];decide)] at q
   exact q
 ·exact e0.hok.fresh (lD (x.above y c (iF h)))
 ·unfold start
  show _=N.length
  rw[cG,aV,List.length_replicate]
  omega
theorem Ajy{name qual:Str}{params:kD}{scope:iZ}{dV kV doc pm cdv ct oc:aF}{an od:Option Addr}
  {osl:Array (Option aF)} {N ps:List Str} {sp:Sp} (lk:K.lookup f=some ⟨oc,od,.func (cJ name qual params body scope dV kV doc pm an cdv ct),osl⟩) (hcd:cF K cdv qual=true) (S:FnScope N ps scope)
  (len:∀ vs H Q E,sp vs H Q E->vs.length=ps.length)
  (hbody:∀ (A:dO) (outer:List Env) (s:aL) (H:Hp) (vs:List V) (Q:VK) (E:XK),Room k (A.deeper (envOfC qual scope s.heap.objs.size f cdv))->sp vs H Q E ->
   ∃ t,PSs (Vu CX P w K mg base N qual scope f cdv A outer s H E) body t/\t { nx:=fun _ H'=>Q .non H',rt:=Q } (start N vs) H) :
  FnOk P w K mg base CX (k+1) f (cJ name qual params body scope dV kV doc pm an cdv ct) ps sp:=by
 refine ⟨len,fun A outer s H args us vs Q E hr e0 hb r hsp=>?_⟩
 have hl:=len _ _ _ _ hsp
 have KX:K.In s.heap:=e0.mod.kin.keeps fun b o e=>(e0.bs b o e).1
 have lim:s.heap.NoLimit:=e0.mod.nolimit.keeps fun b o e=>(e0.bs b o e).1
 have hkind:∀ y∈ps.zip us,scope.names.lookup y.1=some .local\/(scope.names.lookup y.1=some .cell/\((cellsFrom (s.heap.objs.size+1) scope.names []).lookup y.1).isSome=true):=fun ⟨n,v⟩ hy=>by
  rcases S.par n (oF hy).1 with q | q
  ·exact .inl q
  ·exact .inr ⟨q,jU _ _ _ (.inl q)⟩
 refine codeAny_call_function hr.depth (KX _ _ lk) rfl S.co S.gen rfl (PySem.W.codeRec_of KX hcd) (hb _ _ _ _ ?_)
 refine wpAny_newFunctionEnv_cells S.kind hkind fun env he s1 x=>?_
 subst he
 refine ⟨lim.keeps x.toInCall.keep,codeAny_func ?_⟩
 obtain ⟨t,ht,hq⟩:=hbody A outer s H vs Q E (hr.deeper _) hsp
 have I:Inv (Vu CX P w K mg base N qual scope f cdv A outer s H E) [] (start N vs) H s1:=Aco S hr.hd e0 hl r x
 refine dM (ht [] s1 (start N vs) H _ I hq) (fun fl s' hs=>?_) fun e s' hs=>hs
 have fin:∀ {σ':St} {H':Hp} {v:V} {u:aF},Inv (Vu CX P w K mg base N qual scope f cdv A outer s H E) [] σ' H' s'->RelV v u->Q v H'->CE outer P w H s Q u s':=
  fun {σ' H' v u} J rv q=>⟨v,H',J.os,J.bare,J.base,J.hok,rv,q⟩
 cases fl with
 | ret u=>
  obtain ⟨v,σ',H',J,rv,q⟩:=hs
  exact fin J rv q
 | next=>
  obtain ⟨σ',H',J,q⟩:=hs
  exact fin (v:=V.non) (u:=eM) J rfl q
 | brk=>
  obtain ⟨_,_,_,q⟩:=hs
  exact fV q
 | cont=>
  obtain ⟨_,_,_,q⟩:=hs
  exact fV q
section
variable {id T:String}{r:List V->Hp->VK->Prop}
noncomputable def tCB(r:List V->Hp->VK->Prop)(t:TA):TE:=fun σ H Q=>t σ H fun vs H1=>r vs H1 Q
theorem Wn(hc:CallR X (.builtin id) r)(hg:Gl X x)(hm:X.mg x=none)(hv:fB x=some (.builtin id))(ha:PA X (e::es) t)(hn:x ≠ "__name__" := by decide)(hdb:(x == ("__debug__" : Str))=false:=by decide)
  (he:bS (e::es) X.env=(false,eval e X.env)::bS es X.env:=by rfl) (hpl:(backTo pos (bS es X.env)).any (·.1)=false:=by rfl):PE X (.Call (.Name x p) (e::es) [] pos) (tCB r t):=by
 intro pins s σ H Q I h
 refine eF (Fv I hg hm hv ?_ hn hdb)
 exact kE (thn (ha pos pins s σ H _ I h) fun us s1 zz=>by obtain ⟨vs,H1,I1,r1,q1⟩:=zz;exact hc pins s1 σ H1 vs us Q I1 r1 q1) he hpl
theorem Adj(hc:CallR X (.type T) r)(hg:Gl X x)(hm:X.mg x=none)(hv:fB x=some (.type T))(ha:PA X (e::es) t)(hn:x ≠ "__name__" := by decide)(hdb:(x == ("__debug__" : Str))=false:=by decide)
  (he:bS (e::es) X.env=(false,eval e X.env)::bS es X.env:=by rfl) (hpl:(backTo pos (bS es X.env)).any (·.1)=false:=by rfl):PE X (.Call (.Name x p) (e::es) [] pos) (tCB r t):=by
 intro pins s σ H Q I h
 refine eF (Fv I hg hm hv ?_ hn hdb)
 exact cZ (thn (ha pos pins s σ H _ I h) fun us s1 zz=>by obtain ⟨vs,H1,I1,r1,q1⟩:=zz;exact hc pins s1 σ H1 vs us Q I1 r1 q1) he hpl
end
end L2
namespace HT
open PySem PyProof.Rows
noncomputable def G8:List Int->List Int->Bool
 | [],[]=>false
 | [],_::_=>true
 | _::_,[]=>false
 | x::xs,y::ys=>if x=y then G8 xs ys else decide (x < y)
theorem Qx(x y:Int)(xs ys:List Int):G8 (x::xs) (y::ys)=if x=y then G8 xs ys else decide (x < y):=rfl
theorem Ry:G8 [] []=false:=rfl
theorem Q0(y:Int)(ys:List Int):G8 [] (y::ys)=true:=rfl
theorem Rk(x:Int)(xs:List Int):G8 (x::xs) []=false:=rfl
theorem Qv(A:dO)(s:aL)(a:Int)(t:Tok)(c:Int)(u:Tok):∃ e,pW A s (.int a t) (.int c u) e/\(e=true↔a=c):=
 ⟨(a == c),lU a t c u,by simp⟩
theorem U4(A:dO)(s:aL)(a:Int)(t:Tok)(c:Int)(u:Tok)(prog:cU)(w:eD)(E:aF->aL->Prop)(Q:aF->aL->Prop)(h:Q (.bool (decide (a < c))) s) :
  wpAny (model prog w) A (richCompare .Lt (.int a t) (.int c u)) Q E s:=
 (PyProof.Rows.lt_int h:wpAny (model prog w) A (eE .Lt (.int a t) (.int c u)) Q E s)
section
open PySem.SeqAt
open PySem.AutoSeq1 (wpAny_loadPart')
open PySem.MeetsSeq PySem.MeetsSeq2 PySem.MeetsSeq3
theorem R6(l b:Addr)(items items2:Array aF)(n n2:Nat)(dd dd2:Option Addr)(sl sl2:Array (Option aF))(ns ms:List Int)(hi:fY items.toList ns)(hj:fY items2.toList ms) :
  Meets (iW.«tuple.__lt__» ⟨[.ref l,.ref b],[]⟩)
   (fun _ R s=>s.heap.get? l=some { cls:=.type "tuple",dict:=dd,data:=.seq items n,slots:=sl }/\s.heap.get? b=some { cls:=.type "tuple",dict:=dd2,data:=.seq items2 n2,slots:=sl2 } /\
    R (.ok (.ret (.bool (G8 ns ms)))) s):=
 .of_wp fun prog w A R s h=>by
  obtain ⟨hp,g,d,tk,os⟩:=s;obtain ⟨hl,hb,h⟩:=h
  have f2:=mS
  have z1:items.size=ns.length:=by rw[<- hi.length];simp
  have z2:items2.size=ms.length:=by rw[<- hj.length];simp
  wp_walk using gZ hl,gZ hb,rM _ (fun rest b s'=>b.1=none/\s'=⟨hp,g,d,tk,os⟩/\∃ (vs ws:List aF) (ns' ms':List Int),rest=vs.zip ws /\
   fY vs ns'/\fY ws ms'/\ns'.length+items2.size=ms'.length+items.size/\R (.ok (.ret (.bool (G8 ns' ms')))) ⟨hp,g,d,tk,os⟩) _
  case turn=>
   rintro ⟨y,x⟩ rest b s' ⟨hb',rfl,vs,ws,ns',ms',hz,hvi,hwi,hlen,hR⟩
   cases hvi with
   | nil=>rw[qN] at hz;cases hz
   | cons a t hvi'=>
    cases hwi with
    | nil=>rw[pX] at hz;cases hz
    | cons c u hwi'=>
     rw[iL] at hz
     injection hz with hyx hrest
     injection hyx with hy hx
     subst hy hx
     rw[Qx] at hR
     simp only[aN] at hlen
     obtain ⟨e,he,hiff⟩:=Qv A.in1 ⟨hp,g,d,tk,os⟩ a t c u
     refine aC (he prog w _ _ ?_)
     cases e with
     | true=>
      rw[if_pos (hiff.mp rfl)] at hR
      wp_walk
      exact ⟨rfl,rfl,_,_,_,_,hrest,hvi',hwi',by omega,hR⟩
     | false=>
      rw[if_neg (fun q=>absurd (hiff.mpr q) cL)] at hR
      have hri:=U4 A.in1 ⟨hp,g,d,tk,os⟩ a t c u prog w
      wp_walk using hri
      exact ⟨_,rfl,by simpa using hR⟩
  case fin=>
   rintro ⟨b1,b2⟩ s' ⟨hb',rfl,vs,ws,ns',ms',hz,hvi,hwi,hlen,hR⟩
   simp only at hb'
   subst hb'
   have hv:G8 ns' ms'=decide (items.size < items2.size):=by
    cases hvi with
    | nil=>
     cases hwi with
     | nil=>
      simp only[bF] at hlen
      rw[Ry]
      exact (decide_eq_false (by omega)).symm
     | cons c u hw=>
      simp only[bF,aN] at hlen
      rw[Q0]
      exact (decide_eq_true (by omega)).symm
    | cons a t hv=>
     cases hwi with
     | nil=>
      simp only[bF,aN] at hlen
      rw[Rk]
      exact (decide_eq_false (by omega)).symm
     | cons c u hw=>
      rw[iL] at hz
      cases hz
   rw[hv] at hR
   wp_walk
   exact ⟨_,rfl,by simpa[jX] using hR⟩
  case h=>
   exact ⟨rfl,rfl,items.toList,items2.toList,ns,ms,rfl,hi,hj,by omega,h⟩
end
variable {Q:aF->aL->Prop}
section
variable {prog:cU}{w:eD}{A:dO}{E:aF->aL->Prop}{s:aL}
theorem Ra{l b:Addr}{items items2:Array aF}{ns ms:List Int}(hl:mJ s.heap l items)(hb:mJ s.heap b items2)(hi:fY items.toList ns)(hj:fY items2.toList ms)
  (hu:A.units < cLine) (h:Q (.bool (G8 ns ms)) s):wpAny (model prog w) A (eE .Lt (.ref l) (.ref b)) Q E s:=by
 obtain ⟨⟨cls,dd,data,sl⟩,ho,hc,n,hd⟩:=id hl
 obtain ⟨⟨cls2,dd2,data2,sl2⟩,ho2,hc2,n2,hd2⟩:=id hb
 simp only at hc hd hc2 hd2
 subst hc hd hc2 hd2
 exact nT (op:=.Lt) ⟨_,ho,rfl⟩ ⟨_,ho2,rfl⟩ oO nU (nD _ _) (R6 l b items items2 n n2 dd dd2 sl sl2 ns ms hi hj)
  ⟨ho,ho2,show nO (G8 ns ms)≠oY/\Q (.bool (G8 ns ms)) s from ⟨(fun x=>nomatch x),h⟩⟩ hu
theorem Ais{t b:Addr}{vs ws:List aF}(ht:mJ s.heap t vs.toArray)(hb:mJ s.heap b ws.toArray)(hv:vs≠[])
  (h1:ws=[]->Q (.ref t) s) (h2:ws≠[]->Q (.ref s.heap.objs.size) { s with heap:=s.heap.push { cls:=.type "tuple",data:=.seq (vs++ws).toArray } })
  (hsz:vs.length+ws.length<=sizeLine):wpAny (model prog w) A (fX .Add (.ref t) (.ref b)) Q E s:=by
 obtain ⟨⟨cls,dd,data,sl⟩,ho,hc,n,hd⟩:=id ht
 obtain ⟨⟨cls2,dd2,data2,sl2⟩,ho2,hc2,n2,hd2⟩:=id hb
 simp only at hc hd hc2 hd2
 subst hc hd hc2 hd2
 have e:vs.toArray++ws.toArray=(vs++ws).toArray:=by simp
 by_cases hw:ws=[]
 ·exact concat_meets ⟨_,ho,rfl⟩ ⟨_,ho2,rfl⟩ rN seq_tuple_add nV nE (mT _ _)
   (tuple_addW1 t b vs.toArray ws.toArray n n2 dd dd2 sl sl2 (by simpa using hv) (by simp[hw])) ⟨ho,ho2,h1 hw⟩
 ·refine concat_meets ⟨_,ho,rfl⟩ ⟨_,ho2,rfl⟩ rN seq_tuple_add nV nE (mT _ _)
   (tuple_addW2 t b vs.toArray ws.toArray n n2 dd dd2 sl sl2 (by simpa using hv) (by simpa using hw) (by rw[aS,aS];exact hsz)) ⟨ho,ho2,?_⟩
  rw[e]
  exact h2 hw
noncomputable def sIx(n d:Nat):Option Int->Nat
 | none=>d
 | some v=>if v < 0 then (v+(n:Int)).toNat else min v.toNat n
theorem Aev(n d:Nat):sIx n d none=d:=rfl
theorem Aia(n d k:Nat):sIx n d (some (k:Int))=min k n:=by
 show (if (k:Int) < 0 then ((k:Int)+(n:Int)).toNat else min (k:Int).toNat n)=min k n
 rw[if_neg (by omega),fG]
theorem Alq(n d:Nat)(hd:d<=n)(o:Option Int):sIx n d o<=n:=by
 cases o with
 | none=>exact hd
 | some v=>
  show (if v < 0 then (v+(n:Int)).toNat else min v.toNat n)<=n
  by_cases hv:v < 0
  ·rw[if_pos hv];omega
  ·rw[if_neg hv];exact Nat.min_le_right _ _
theorem Y8(v:Int)(n d:Nat):(if v < 0 then max (v+(n:Int)) 0 else min v (n:Int))=((sIx n d (some v):Nat):Int):=by
 show (if v < 0 then max (v+(n:Int)) 0 else min v (n:Int))=(((if v < 0 then (v+(n:Int)).toNat else min v.toNat n):Nat):Int)
 by_cases hv:v < 0
 ·simp only[if_pos hv];omega
 ·simp only[if_neg hv];omega
theorem Xm(lo hi:Option Int)(n:Nat):fK lo hi 1 (n:Int)=(((sIx n 0 lo:Nat):Int),((sIx n n hi:Nat):Int)):=by
 have h1:¬ ((1:Int) < 0):=by omega
 unfold fK
 simp only[h1,if_false]
 refine Prod.ext ?_ ?_
 ·cases lo with
  | none=>rfl
  | some v=>exact Y8 v n 0
 ·cases hi with
  | none=>rfl
  | some v=>exact Y8 v n n
theorem X8(i j:Nat):dN (i:Int) (j:Int) 1=j - i:=by
 unfold dN
 have h1:(1:Int) > 0:=by omega
 simp only[h1,if_true,Int.ediv_one]
 split <;> omega
theorem Hy{v:aF}{o:Option Int}{Q:Option Int->aL->Prop}(p:nW v o)(h:Q o s):wpAny (model prog w) A (iW.Slice.slicePartIndex v) Q E s:=by
 cases p with
 | none=>exact slicePart_none h
 | int i t=>exact slicePart_int h
theorem N4{sl:Addr}{vl vu:aF}{lo hi:Option Int}{n:Nat}{Q:Int×Int×Nat->aL->Prop}(hs:s.heap.IsSliceOf sl vl vu .none)(pl:nW vl lo)(pu:nW vu hi)
  (h:Q (((sIx n 0 lo:Nat):Int),1,sIx n n hi - sIx n 0 lo) s):wpAny (model prog w) A (gO (.ref sl) (pure (n:Int))) Q E s:=by
 obtain ⟨os,hos,hcs,hds⟩:=id hs
 unfold gO mD
 refine aC (aC (dW hos hds (x:=vl) rfl (aC (dW hos hds (x:=vu) rfl (aC (dW hos hds (x:=.none) rfl (aU ?_)))))))
 refine aC (slicePart_none ?_)
 show wpAny _ _ (if ((1:Int) == 0)=true then _ else _) _ _ s
 rw[if_neg (by decide)]
 refine aC (Hy pl (aC (Hy pu (aC (aU ?_)))))
 show wpAny _ _ (match fK lo hi 1 (n:Int) with | (lo,hi)=>pure (lo,(1:Int),dN lo hi 1)) _ _ s
 rw[Xm lo hi n]
 show wpAny _ _ (pure (((sIx n 0 lo:Nat):Int),(1:Int),dN ((sIx n 0 lo:Nat):Int) ((sIx n n hi:Nat):Int) 1)) _ _ s
 rw[X8]
 exact aU h
theorem Afx(xs:Array aF)(i k:Nat):((aX k).filterMap fun (m:Nat)=>xs[((i:Int)+(m:Int) * 1).toNat]?).toArray=((xs.toList.drop i).take k).toArray:=by
 have e:(fun (m:Nat)=>xs[((i:Int)+(m:Int) * 1).toNat]?)=fun m=>xs[i+m]?:=by
  funext m
  have:((i:Int)+(m:Int) * 1).toNat=i+m:=by omega
  rw[this]
 rw[e]
 have:=pick_run xs i k
 rw[jL] at this
 have e2:((fun x=>xs[x]?)∘fun x=>i+x)=fun m=>xs[i+m]?:=rfl
 rw[e2] at this
 rw[this]
theorem M9{t sl:Addr}{items:Array aF}{vl vu:aF}{lo hi:Option Int}(ht:mJ s.heap t items)(hs:s.heap.IsSliceOf sl vl vu .none)(pl:nW vl lo)(pu:nW vu hi)
  (hw:¬ (sIx items.size 0 lo=0/\sIx items.size items.size hi=items.size))
  (h:Q (.ref s.heap.objs.size) { s with heap:=s.heap.push { cls:=.type "tuple",data:=.seq ((items.toList.drop (sIx items.size 0 lo)).take (sIx items.size items.size hi - sIx items.size 0 lo)).toArray } })
  (hsz:items.size<=sizeLine):wpAny (model prog w) A (getItem (.ref t) (.ref sl)) Q E s:=by
 have htake:sizeOk (.seq ((items.toList.drop (sIx items.size 0 lo)).take (sIx items.size items.size hi - sIx items.size 0 lo)).toArray):=by
  show ((items.toList.drop (sIx items.size 0 lo)).take (sIx items.size items.size hi - sIx items.size 0 lo)).toArray.size<=sizeLine
  rw[aS,gF,nF,cN]
  omega
 have hj:sIx items.size items.size hi<=items.size:=Alq _ _ (aQ _) hi
 obtain ⟨os,hos,hcs,hds⟩:=id hs
 have hTs:s.TypeIs (.ref sl) "slice" := ⟨os,hos,hcs⟩
 unfold getItem
 try with_reducible refine eC ?_
 first | refine aC (aU ?_) | skip
 refine aC (qO ht.typeIs (by decide) ?_)
 refine aC (eK (name:=dC "__getitem__") ht.typeIs dS
  (eY dS ht.typeIs pM ?_ (pY _ _)))
 show wpAny _ _ (lV (.ref t) >>= _) _ _ s
 refine aC (tupleItemsOf_ ht ?_)
 refine aC (nX hTs ?_)
 rw[if_pos (by decide)]
 refine aC (N4 hs pl pu ?_)
 have hno:¬ ((((sIx items.size 0 lo:Nat):Int) == 0&&(1:Int) == 1&&(sIx items.size items.size hi - sIx items.size 0 lo) == items.size)=true):=by
  intro q
  rw[cE,cE] at q
  have q1:((sIx items.size 0 lo:Nat):Int)=0:=eq_of_beq q.1.1
  have q2:sIx items.size items.size hi - sIx items.size 0 lo=items.size:=eq_of_beq q.2
  exact hw ⟨by omega,by omega⟩
 show wpAny _ _ (if (((sIx items.size 0 lo:Nat):Int) == 0&&(1:Int) == 1&&(sIx items.size items.size hi - sIx items.size 0 lo) == items.size)=true then _ else _) _ _ s
 rw[if_neg hno,Afx]
 first
  | exact aC (m:=dQ _) (dG (aU ⟨_,rfl,aU h⟩) htake)
  | exact aC (m:=dQ _) (dG (aC (aU (aU ⟨_,rfl,aU h⟩))) htake)
  | exact aC (aC (m:=dQ _) (dG (aU (aU ⟨_,rfl,aU h⟩)) htake))
  | exact aC (aC (m:=dQ _) (dG (aU ⟨_,rfl,aU h⟩) htake))
end
end HT
namespace L2
open PySem PySem.Spec PyProof.Rows
abbrev TO:=St->Hp->(Option Int->Hp->Prop)->Prop
noncomputable def PO(X:Cx)(e:Option Expr)(t:TO):Prop:=
 ∀ (pins:List (Addr×Obj)) (s:aL) (σ:St) (H:Hp) (Q:Option Int->Hp->Prop),Inv X pins σ H s->t σ H Q ->
  wpAny (model X.prog X.w) X.A (evalPart e X.env) (fun u s'=>∃ o H',Inv X pins σ H' s'/\nW u o/\Q o H') X.xe s
noncomputable def Ai7:TO:=fun _ H Q=>Q none H
noncomputable def An2(t:TE):TO:=fun σ H Q=>t σ H fun x H1=>∃ i,x = .int i/\Q (some i) H1
theorem Dm{ns:List Int}:∀ {us:List aF},Vals (ns.map V.int) us->fY us ns:=by
 induction ns with
 | nil=>intro us r;rw[bT] at r;cases r;exact .nil
 | cons n ns ih=>
  intro us r
  rw[aO] at r
  cases r with
  | cons r1 r2=>
   obtain ⟨t,e⟩:=r1
   subst e
   exact .cons n t (ih r2)
variable {X:Cx}{xs:List V}{us:List aF}
section
variable {e:Expr}{te:TE}{lo hi:Option Expr}{tl th:TO}{pos p2:Pos}
theorem Ah3:PO X none Ai7:=by
 intro pins s σ H Q I h
 rw[mU]
 exact aU ⟨none,H,I,.none,h⟩
theorem Air(h:PE X e te):PO X (some e) (An2 te):=by
 intro pins s σ H Q I hw
 rw[evalPart_some]
 refine thn (h pins s σ H _ I hw) fun u s1 zz=>?_
 obtain ⟨x,H1,I1,r1,q1⟩:=zz
 obtain ⟨i,rfl,q⟩:=q1
 obtain ⟨t,rfl⟩:=r1
 exact ⟨some i,H1,I1,.int i t,q⟩
noncomputable def SlR(X:Cx)(r:V->Option Int->Option Int->Hp->VK->Prop):Prop:=
 ∀ (pins:List (Addr×Obj)) (s:aL) (σ:St) (H:Hp) (x:V) (v vl vu:aF) (lo hi:Option Int) (sl:Addr) (Q:VK),Inv X pins σ H s->RelV x v->s.heap.IsSliceOf sl vl vu .none->nW vl lo->nW vu hi->r x lo hi H Q ->
  ∃ T id,typeLookup (.type T) "__getitem__" = pure (some (.builtin id))/\s.TypeIs v T/\wpAny (model X.prog X.w) X.A (getItem v (.ref sl)) (EP X pins σ Q) X.xe s
theorem SlR.or{r r':V->Option Int->Option Int->Hp->VK->Prop}(h:SlR X r)(h':SlR X r'):SlR X (fun x lo hi H Q=>r x lo hi H Q\/r' x lo hi H Q):=by
 intro pins s σ H x v vl vu lo hi sl Q I rx hs pl pu q
 rcases q with q | q
 ·exact h pins s σ H x v vl vu lo hi sl Q I rx hs pl pu q
 ·exact h' pins s σ H x v vl vu lo hi sl Q I rx hs pl pu q
noncomputable def tSl(r:V->Option Int->Option Int->Hp->VK->Prop)(te:TE)(tl th:TO):TE:=fun σ H Q=>te σ H fun x H1=>tl σ H1 fun l H2=>th σ H2 fun u H3=>r x l u H3 Q
theorem Afo{r:V->Option Int->Option Int->Hp->VK->Prop}(hr:SlR X r)(he:PE X e te)(hl:PO X lo tl)(hu:PO X hi th):PE X (.Subscript e (.Slice lo hi none p2) pos) (tSl r te tl th):=by
 intro pins s σ H Q I h
 refine pZ (thn (he pins s σ H _ I h) fun v s1 zz=>?_)
 obtain ⟨x,H1,I1,r1,q1⟩:=zz
 refine sC (thn (hl pins s1 σ H1 _ I1 q1) fun vl s2 ⟨l,H2,I2,pl,q2⟩=>thn (hu pins s2 σ H2 _ I2 q2) fun vu s3 zz=>?_)
 obtain ⟨u,H3,I3,pu,q3⟩:=zz
 rw[mU]
 refine aU ?_
 have I4:Inv X pins σ H3 { s3 with heap:=s3.heap.push { cls:=.type "slice",data:=.fields #[vl,vu,.none] } }:=I3.kept (t':=s3.toks) fun b ob q=>aE _ q
 obtain ⟨T,id,hT,ht,hg⟩:=hr pins { s3 with heap:=s3.heap.push { cls:=.type "slice",data:=.fields #[vl,vu,.none] } } σ H3 x v vl vu l u s3.heap.objs.size Q I4 r1 (lW ..) pl pu q3
 show wpAny (model X.prog X.w) X.A (subscriptTail e (.Slice lo hi none p2) v (.ref s3.heap.objs.size)) (EP X pins σ Q) X.xe { s3 with heap:=s3.heap.push { cls:=.type "slice",data:=.fields #[vl,vu,.none] } }
 exact sY (ops:=[.ref s3.heap.objs.size,v]) ht hT hg (by with_unfolding_all rfl)
noncomputable def Vk(xs:List V)(lo hi:Option Int):List V:=(xs.drop (HT.sIx xs.length 0 lo)).take (HT.sIx xs.length xs.length hi - HT.sIx xs.length 0 lo)
theorem Ob(xs:List V)(lo hi:Option Int):(Vk xs lo hi).length<=xs.length:=by
 unfold Vk
 rw[gF,nF]
 omega
noncomputable def Aox(K:aH):V->Option Int->Option Int->Hp->VK->Prop:=fun x lo hi H Q=>∃ a xs,x = .ref a/\SqT K H a xs /\
 ¬ (HT.sIx xs.length 0 lo=0/\HT.sIx xs.length xs.length hi=xs.length)/\∀ p,H p=none->Q (.ref p) (upd H p (.tup (Vk xs lo hi)))
theorem Alh:SlR X (Aox X.K):=by
 intro pins s σ H x v vl vu lo hi sl Q I rx hs pl pu h
 obtain ⟨a,xs,rfl,hx,hw,q⟩:=h
 cases rx
 obtain ⟨its,r,ht,hz⟩:=I.tuple hx
 have hlen:its.toArray.size=xs.length:=by rw[aS];exact r.length.symm
 refine ⟨"tuple",_,dS.lookup,ht.typeIs,?_⟩
 refine HT.M9 ht hs pl pu (by rw[hlen];exact hw) ?_ (by rw[hlen];exact hz)
 rw[hlen]
 refine ⟨.ref s.heap.objs.size,_,I.laid (t':=s.toks) (o:=.tup (Vk xs lo hi)) (fun b ob q=>aE _ q) (aQ _) ?_,rfl,q _ (I.hok.fresh (aQ _))⟩
 exact ⟨cK (Ob xs lo hi) hz,_,(r.drop (HT.sIx xs.length 0 lo)).take (HT.sIx xs.length xs.length hi - HT.sIx xs.length 0 lo),TupN.new _ _⟩
noncomputable def Aj3(K:aH):R2:=fun x y H Q=>∃ a b xs ys,x = .ref a/\y = .ref b/\SqT K H a xs/\SqT K H b ys/\xs≠[]/\xs.length+ys.length<=sizeLine /\
 (ys=[]->Q (.ref a) H)/\(ys≠[]->∀ p,H p=none->Q (.ref p) (upd H p (.tup (xs++ys))))
theorem Vals.nil_iff(r:Vals xs us):us=[]↔xs=[]:=by
 cases r with
 | nil=>simp
 | cons _ _=>simp
theorem Ahy:OpR X (fX .Add) (Aj3 X.K):=by
 intro pins s σ H x y v u Q I rx ry h
 obtain ⟨a,b,xs,ys,rfl,rfl,ha,hb,hx,hz,q1,q2⟩:=h
 cases rx
 cases ry
 obtain ⟨its,r1,p1,_⟩:=I.tuple ha
 obtain ⟨its2,r2,p2,_⟩:=I.tuple hb
 refine HT.Ais p1 p2 (fun z=>hx (r1.nil_iff.mp z)) (fun z=>⟨.ref a,H,I,rfl,q1 (r2.nil_iff.mp z)⟩) (fun z=>?_) (by rw[<- r1.length,<- r2.length];exact hz)
 refine ⟨.ref s.heap.objs.size,_,I.laid (t':=s.toks) (o:=.tup (xs++ys)) (fun b ob q=>aE _ q) (aQ _) ?_,rfl,q2 (fun w=>z (r2.nil_iff.mpr w)) _ (I.hok.fresh (aQ _))⟩
 exact ⟨by rw[cG];exact hz,_,r1.append r2,TupN.new _ _⟩
end
noncomputable def ixN(n:Nat)(i:Int):Option Nat:=if 0<=i then (if i < n then some i.toNat else none) else if -(n:Int)<=i then some (i+n).toNat else none
noncomputable def atI{α:Type}(xs:List α)(i:Int):Option α:=(ixN xs.length i).bind fun j=>xs[j]?
variable {n:Nat}
theorem Aak{i:Int}{j:Nat}(h:ixN n i=some j):seqIndex? i n=some j/\j < n/\-(n:Int)<=i/\i < n:=by
 unfold ixN at h
 by_cases h0:0<=i
 ·rw[if_pos h0] at h
  by_cases h1:i < n
  ·rw[if_pos h1] at h
   have e:i.toNat=j:=bP h
   exact ⟨by rw[sD h0 h1,e],by omega,by omega,h1⟩
  ·rw[if_neg h1] at h;cases h
 ·rw[if_neg h0] at h
  by_cases h1:-(n:Int)<=i
  ·rw[if_pos h1] at h
   have e:(i+n).toNat=j:=bP h
   exact ⟨by rw[qP (by omega) h1,e],by omega,h1,by omega⟩
  ·rw[if_neg h1] at h;cases h
theorem T8{α:Type}{xs:List α}{i:Int}{v:α}(h:atI xs i=some v):∃ j,seqIndex? i xs.length=some j/\xs[j]? = some v/\j < xs.length/\-(xs.length:Int)<=i/\i < xs.length:=by
 unfold atI at h
 cases e:ixN xs.length i with
 | none=>rw[e] at h;cases h
 | some j=>
  rw[e] at h
  obtain ⟨h1,h2,h3,h4⟩:=Aak e
  exact ⟨j,h1,h,h2,h3,h4⟩
noncomputable def Aaw(b:Expr):Prop:=∀ o i,subscripted b false o i=operate [o,i] (getItem o i)
noncomputable def IxR(X:Cx)(r:R2):Prop:=
 ∀ (value slice:Expr) (pins:List (Addr×Obj)) (s:aL) (σ:St) (H:Hp) (x y:V) (v u:aF) (Q:VK),Inv X pins σ H s->RelV x v->RelV y u->r x y H Q ->
  subscripted slice false v u=operate [v,u] (getItem v u)->wpAny (model X.prog X.w) X.A (subscriptTail value slice v u) (EP X pins σ Q) X.xe s
noncomputable def MtR(X:Cx)(id:String)(r:V->List V->Hp->VK->Prop):Prop:=
 ∀ (pins:List (Addr×Obj)) (s:aL) (σ:St) (H:Hp) (x:V) (xs:List V) (v:aF) (us:List aF) (Q:VK),Inv X pins σ H s->RelV x v->Vals xs us->r x xs H Q ->
  wpAny (model X.prog X.w) X.A (call (.builtin id) (v::us)) (EP X pins σ Q) X.xe s
variable {v:aF}{pins:List (Addr×Obj)}{σ:St}{H:Hp}{s:aL}{its:List aF}{A:dO}{y x:V}
section
variable {a b:Expr}{ta tb:TE}{pos:Pos}
theorem IxR.or{r r':R2}(h:IxR X r)(h':IxR X r'):IxR X (fun x y H Q=>r x y H Q\/r' x y H Q):=by
 intro value slice pins s σ H x y v u Q I rx ry q hs
 rcases q with q | q
 ·exact h value slice pins s σ H x y v u Q I rx ry q hs
 ·exact h' value slice pins s σ H x y v u Q I rx ry q hs
theorem MtR.or{id:String}{r r':V->List V->Hp->VK->Prop}(h:MtR X id r)(h':MtR X id r'):MtR X id (fun x xs H Q=>r x xs H Q\/r' x xs H Q):=by
 intro pins s σ H x xs v us Q I rx rs q
 rcases q with q | q
 ·exact h pins s σ H x xs v us Q I rx rs q
 ·exact h' pins s σ H x xs v us Q I rx rs q
theorem Aob{r:R2}(hr:IxR X r)(ha:PE X a ta)(hb:PE X b tb)(hs:Aaw b):PE X (.Subscript a b pos) (tOp r ta tb):=by
 intro pins s σ H Q I h
 exact pZ (Amx ha hb I h fun v u s2 x y H2 I2 rx ry q=>hr a b pins s2 σ H2 x y v u Q I2 rx ry q (hs _ _))
noncomputable def Aos(K:aH):R2:=fun x y H Q=>∃ p xs i v,x = .ref p/\y = .int i/\SqL K H p xs/\atI xs i=some v/\Q v H
noncomputable def Anh(K:aH):R2:=fun x y H Q=>∃ p xs i v,x = .ref p/\y = .int i/\SqT K H p xs/\atI xs i=some v/\Q v H
noncomputable def Anm:R2:=fun x y H Q=>∃ z i c,x = .str z/\y = .int i/\z.length<=sizeLine/\atI z.cps.toList i=some c/\Q (.str ⟨#[c]⟩) H
theorem Ah5:IxR X (Aos X.K):=by
 intro value slice pins s σ H x y v u Q I rx ry h hs
 obtain ⟨p,xs,i,z,rfl,rfl,hq,he,q⟩:=h
 cases rx
 obtain ⟨t,rfl⟩:=ry
 obtain ⟨its,r,pl,hz⟩:=I.list hq
 obtain ⟨j,h1,h2,h3,h4,h5⟩:=T8 he
 obtain ⟨w,ew,rw'⟩:=r.get h2
 have hl:=r.length
 have hn:=Nw
 have fin:EP X pins σ Q w s:=⟨z,H,I,rw',q⟩
 by_cases h0:0<=i
 ·have hj:i.toNat=j:=by
   rw[sD h0 h5] at h1
   exact bP h1
  exact item_listR pl.isList h0 (by omega) (by rw[hj];simpa using ew) fin hs
 ·have hj:(i+(its.toArray.size:Int)).toNat=j:=by
   rw[qP (by omega) h4] at h1
   rw[aS,<- hl]
   exact bP h1
  exact nY (x:=w) pl.isList.typeIs mN.lookup
   (wpAny_getItem_list_neg (Q:=fun r s'=>r=w/\EP X pins σ Q r s') pl.isList (by omega) (by rw[aS] <;> omega) (by omega) (by rw[hj];simpa using ew) ⟨rfl,fin⟩) hs
theorem Amd:IxR X (Anh X.K):=by
 intro value slice pins s σ H x y v u Q I rx ry h hs
 obtain ⟨p,xs,i,z,rfl,rfl,hq,he,q⟩:=h
 cases rx
 obtain ⟨t,rfl⟩:=ry
 obtain ⟨its,r,pl,hz⟩:=I.tuple hq
 obtain ⟨j,h1,h2,h3,h4,h5⟩:=T8 he
 obtain ⟨w,ew,rw'⟩:=r.get h2
 have hl:=r.length
 have hn:=Nw
 have fin:EP X pins σ Q w s:=⟨z,H,I,rw',q⟩
 exact nY (x:=w) pl.typeIs slot_tuple_getitem.lookup
  (getItem_tuple (j:=j) (Q:=fun r s'=>r=w/\EP X pins σ Q r s') pl (by omega) (by omega) (by rw[aS,<- hl];exact h1) (by simpa using ew) ⟨rfl,fin⟩) hs
theorem Alz:IxR X Anm:=by
 intro value slice pins s σ H x y v u Q I rx ry h hs
 obtain ⟨z,i,c,rfl,rfl,hz,he,q⟩:=h
 obtain ⟨t,rfl⟩:=rx
 obtain ⟨t',rfl⟩:=ry
 obtain ⟨j,h1,h2,h3,h4,h5⟩:=T8 he
 have hl:z.cps.toList.length=z.length:=by simp[Str.length]
 rw[hl] at h1 h4 h5
 have hn:=Nw
 exact sY (sZ s z t) slot_str_getitem.lookup (getItem_str (c:=c) (by
  have e1:decide (i < -(2 ^ 63:Int))=false:=decide_eq_false (by omega)
  have e2:decide (i ≥ 2 ^ 63)=false:=decide_eq_false (by omega)
  rw[e1,e2,Bool.or_false]) (by rw[h1];simpa using h2) ⟨.str ⟨#[c]⟩,H,I.tok _,⟨_,rfl⟩,q⟩) hs
noncomputable def rIx(K:aH):R2:=fun x y H Q=>Aos K x y H Q\/Anh K x y H Q\/Anm x y H Q
theorem Az:IxR X (rIx X.K):=Ah5.or (Amd.or Alz)
theorem Xe(its:List aF)(n j:Nat)(u:aF):bZ (·.setIfInBounds j u) { cls:=.type "list",data:=.seq its.toArray n } = { cls:=.type "list",data:=.seq (its.set j u).toArray n }:=by
 simp[bZ]
theorem Inv.lst{p:Addr}(I:Inv X pins σ H s)(h:H p=some (.lst xs)) :
  ∃ (its:List aF) (n:Nat),Vals xs its/\s.heap.get? p=some { cls:=.type "list",data:=.seq its.toArray n }/\xs.length<=sizeLine:=by
 obtain ⟨z,its,n,r,e⟩:=I.hok p _ h
 exact ⟨its,n,r,e,z⟩
theorem Inv.lstUpd{p:Addr}{ys:List V}{its':List aF}{n':Nat}{f:Obj->Obj}(I:Inv X pins σ H s)(h:H p=some (.lst xs))
  (ho:s.heap.get? p=some { cls:=.type "list",data:=.seq its.toArray n }) (hf:f { cls:=.type "list",data:=.seq its.toArray n } = { cls:=.type "list",data:=.seq its'.toArray n' }) (r:Vals ys its') (hz:ys.length<=sizeLine) (t:Nat) :
  Inv X pins σ (upd H p (.lst ys)) { s with heap:=s.heap.update p f,toks:=t }:=by
 have e:(s.heap.update p f).get? p=some { cls:=.type "list",data:=.seq its'.toArray n' }:=by
  rw[kA f ho (by rw[hf] <;> rfl),hf]
 refine I.write (x:=p) (e:=p) (by rw[h];trivial) (.inl rfl) (fun b u hb q=>(nZ _ _ (eP hb)).trans q) ⟨_,e⟩ ?_
 exact ⟨hz,its',n',r,e⟩
noncomputable def Ans:V->V->V->Hp->(Hp->Prop)->Prop:=fun o i v H Q=>∃ p xs k j,o = .ref p/\i = .int k/\H p=some (.lst xs)/\ixN xs.length k=some j/\Q (upd H p (.lst (xs.set j v)))
theorem Agr:Aou X Ans:=by
 intro pins s σ H o i v ov iv u Q I ro ri rv h
 obtain ⟨p,xs,k,j,rfl,rfl,hp,hj,q⟩:=h
 cases ro
 obtain ⟨t,rfl⟩:=ri
 obtain ⟨its,n,r,ho,hz⟩:=I.lst hp
 obtain ⟨h1,h2,h3,h4⟩:=Aak hj
 have hl:=r.length
 have hn:=Nw
 have I':Inv X pins σ (upd H p (.lst (xs.set j v))) { s with heap:=s.heap.update p (bZ (·.setIfInBounds j u)) }:=
  I.lstUpd hp ho (Xe its n j u) (r.set rv j) (by rw[oG];exact hz) s.toks
 by_cases h0:0<=k
 ·have hk:k.toNat=j:=by
   rw[sD h0 h4] at h1
   exact bP h1
  exact PySem.W.ki_setAt ho h0 (by omega) (by rw[aS,<- hl];exact h4) (by rw[hk];exact ⟨_,I',q⟩)
 ·have hk:(k+(its.toArray.size:Int)).toNat=j:=by
   rw[qP (by omega) h3] at h1
   rw[aS,<- hl]
   exact bP h1
  exact PySem.W.ki_setBack ho (by omega) (by rw[aS,<- hl];exact h3) (by omega) (by rw[hk];exact ⟨_,I',q⟩)
theorem Abb(i:Int)(n:Nat):max 0 (min (if i < 0 then i+(n:Int) else i) (n:Int))=(((if i < 0 then (i+(n:Int)).toNat else min i.toNat n):Nat):Int):=by
 by_cases h:i < 0
 ·have hm:i+(n:Int)<=n:=by omega
  rw[if_pos h,if_pos h,sH hm,Int.ofNat_toNat,Int.max_comm]
 ·obtain ⟨k,rfl⟩:=Int.eq_ofNat_of_zero_le (Int.not_lt.mp h)
  rw[if_neg h,if_neg h,fG]
  rcases Nat.le_total k n with hk | hk
  ·rw[Nat.min_eq_left hk,sH (tW.mpr hk),rO (jM k)]
  ·rw[Nat.min_eq_right hk,Int.min_eq_right (tW.mpr hk),rO (jM n)]
theorem Ul(lo hi:Option Int)(n:Nat):(sliceBounds lo hi none n).1=((HT.sIx n 0 lo:Nat):Int)/\(sliceBounds lo hi none n).2.1=((HT.sIx n n hi:Nat):Int)/\(sliceBounds lo hi none n).2.2=1:=by
 refine ⟨?_,?_,rfl⟩
 ·cases lo with
  | none=>rfl
  | some i=>exact Abb i n
 ·cases hi with
  | none=>rfl
  | some i=>exact Abb i n
theorem Rx(its:List aF)(lo hi:Option Int):slicePick its.toArray lo hi none=((its.drop (HT.sIx its.length 0 lo)).take (HT.sIx its.length its.length hi - HT.sIx its.length 0 lo)).toArray:=by
 obtain ⟨h1,h2,h3⟩:=Ul lo hi its.toArray.size
 unfold slicePick
 rw[h1,h2,h3]
 simp only[sliceRange_one,pick_run,aS] <;> rfl
noncomputable def Aoa(K:aH):V->Option Int->Option Int->Hp->VK->Prop:=fun x lo hi H Q=>∃ a xs,x = .ref a/\SqL K H a xs/\∀ p,H p=none->Q (.ref p) (upd H p (.lst (Vk xs lo hi)))
theorem Ahi:SlR X (Aoa X.K):=by
 intro pins s σ H x v vl vu lo hi sl Q I rx hs pl pu h
 obtain ⟨a,xs,rfl,hx,q⟩:=h
 cases rx
 obtain ⟨its,r,ht,hz⟩:=I.list hx
 have hlen:=r.length
 refine ⟨"list",_,mN.lookup,ht.isList.typeIs,?_⟩
 refine mV ht.isList hs pl pu .none (by simp) ?_ (by rw[aS] <;> omega)
 rw[Rx,<- hlen]
 refine ⟨.ref s.heap.objs.size,_,I.laid (t':=s.toks) (o:=.lst (Vk xs lo hi)) (fun b ob q=>aE _ q) (aQ _) ?_,rfl,q _ (I.hok.fresh (aQ _))⟩
 exact ⟨cK (Ob xs lo hi) hz,_,0,(r.drop (HT.sIx xs.length 0 lo)).take (HT.sIx xs.length xs.length hi - HT.sIx xs.length 0 lo),bC _ rfl⟩
noncomputable def Ls:V->Bool
 | .non=>true
 | .bl _=>true
 | .int _=>true
 | .str _=>true
 | _=>false
noncomputable def eqV:V->V->Bool
 | .non,.non=>true
 | .bl a,.bl b=>a == b
 | .bl a,.int b=>(if a then 1 else 0) == b
 | .int a,.bl b=>a == (if b then 1 else 0)
 | .int a,.int b=>a == b
 | .str a,.str b=>a == b
 | _,_=>false
theorem Alo{u:aF}(ry:RelV y u)(rx:RelV x v)(fy:Ls y=true)(fx:Ls x=true):pW A s u v (eqV y x):=by
 cases y with
 | non=>
  cases ry
  cases x with
  | non=>cases rx;exact sI _
  | bl b=>cases rx;exact pW.none_bool b
  | int b=>obtain ⟨t,rfl⟩:=rx;exact pW.none_int b t
  | str b=>obtain ⟨t,rfl⟩:=rx;exact pW.none_str b t
  | _=>exact absurd (show false=true from fx) cL
 | bl a=>
  cases ry
  cases x with
  | non=>cases rx;exact pW.bool_none a
  | bl b=>cases rx;exact pW.bool_bool a b
  | int b=>obtain ⟨t,rfl⟩:=rx;exact pW.bool_int a b t
  | str b=>obtain ⟨t,rfl⟩:=rx;exact pW.bool_str a b t
  | _=>exact absurd (show false=true from fx) cL
 | int a=>
  obtain ⟨t',rfl⟩:=ry
  cases x with
  | non=>cases rx;exact pW.int_none a t'
  | bl b=>cases rx;exact pW.int_bool a t' b
  | int b=>obtain ⟨t,rfl⟩:=rx;exact lU a t' b t
  | str b=>obtain ⟨t,rfl⟩:=rx;exact pR a t' b t
  | _=>exact absurd (show false=true from fx) cL
 | str a=>
  obtain ⟨t',rfl⟩:=ry
  cases x with
  | non=>cases rx;exact pW.str_none a t'
  | bl b=>cases rx;exact pW.str_bool a t' b
  | int b=>obtain ⟨t,rfl⟩:=rx;exact pS a t' b t
  | str b=>obtain ⟨t,rfl⟩:=rx;exact pW.str_str a t' b t
  | _=>exact absurd (show false=true from fx) cL
 | _=>exact absurd (show false=true from fy) cL
noncomputable def eqU(x:V)(u:aF):Bool:=match u with
 | .none=>eqV .non x
 | .bool b=>eqV (.bl b) x
 | .int i _=>eqV (.int i) x
 | .str z _=>eqV (.str z) x
 | _=>false
theorem Aeu{u:aF}(r:RelV y u)(f:Ls y=true):eqU x u=eqV y x:=by
 cases y with
 | non=>cases r;rfl
 | bl b=>cases r;rfl
 | int i=>obtain ⟨t,rfl⟩:=r;rfl
 | str z=>obtain ⟨t,rfl⟩:=r;rfl
 | _=>exact absurd (show false=true from f) cL
theorem Aat(h:Vals xs us)(f:xs.all Ls=true):us.any (eqU x)=xs.any fun y=>eqV y x:=by
 induction h with
 | nil=>rfl
 | cons r t ih=>
  rw[kI,cE] at f
  rw[gD,gD,Aeu r f.1,ih f.2]
theorem P5(rx:RelV x v)(fx:Ls x=true):∀ {xs:List V} {us:List aF},Vals xs us->xs.all Ls=true->∀ u∈us,pW A s u v (eqU x u)
 | _,_,.nil,_=>fun u hu=>by cases hu
 | y::xs,u::us,.cons r t,f=>fun u' hu=>by
  rw[kI,cE] at f
  rcases bE.mp hu with rfl | hu
  ·rw[Aeu r f.1];exact Alo r rx f.1 fx
  ·exact P5 rx fx t f.2 u' hu
noncomputable def inV(x:V)(xs:List V):Bool:=xs.any fun y=>eqV y x
noncomputable def rIn(K:aH)(neg:Bool):R2:=fun x y H Q=>∃ p xs,y = .ref p/\(SqL K H p xs\/SqT K H p xs)/\Ls x=true/\xs.all Ls=true/\Q (.bl (if neg then !inV x xs else inV x xs)) H
theorem Tx:OpR X (eE .NotIn) (rIn X.K true):=by
 intro pins s σ H x y v u Q I rx ry h
 obtain ⟨p,xs,rfl,hq,fx,fs,q⟩:=h
 cases ry
 rcases hq with hq | hq
 ·obtain ⟨its,r,pl,hz⟩:=I.list hq
  refine SeqAt.notIn_listAt (eqU x) pl.isList (fun w hw=>P5 rx fx r fs w (by simpa using hw)) ⟨.bl _,H,I,rfl,?_⟩
  rw[show its.toArray.any (eqU x)=its.any (eqU x) by simp,Aat r fs]
  exact q
 ·obtain ⟨its,r,pl,hz⟩:=I.tuple hq
  refine SeqAt.notIn_tupleAt (eqU x) pl (fun w hw=>P5 rx fx r fs w (by simpa using hw)) ⟨.bl _,H,I,rfl,?_⟩
  rw[show its.toArray.any (eqU x)=its.any (eqU x) by simp,Aat r fs]
  exact q
theorem Uk:OpR X (eE .NotIn) (fun x y H Q=>∃ i j,x = .str i/\y = .str j/\Q (.bl (!(!(fU j i 0 j.length 1).isEmpty))) H):=by
 intro pins s σ H x y v u Q I rx ry h
 obtain ⟨i,j,rfl,rfl,q⟩:=h
 obtain ⟨t,rfl⟩:=rx
 obtain ⟨t',rfl⟩:=ry
 exact notIn_str ⟨.bl _,H,I,rfl,q⟩
theorem CallR.or{f:aF}{r r':List V->Hp->VK->Prop}(h:CallR X f r)(h':CallR X f r'):CallR X f (fun xs H Q=>r xs H Q\/r' xs H Q):=by
 intro pins s σ H xs us Q I rs q
 rcases q with q | q
 ·exact h pins s σ H xs us Q I rs q
 ·exact h' pins s σ H xs us Q I rs q
theorem Gq:CallR X (.type "tuple") (fun xs H Q=>∃ p ys,xs=[.ref p]/\((SqL X.K H p ys/\∀ l,H l=none->Q (.ref l) (upd H l (.tup ys)))\/(SqT X.K H p ys/\Q (.ref p) H))):=by
 intro pins s σ H xs us Q I r h
 obtain ⟨p,ys,rfl,h⟩:=h
 obtain ⟨u,rfl,rx⟩:=Fe r
 cases rx
 rcases h with ⟨hq,q⟩ | ⟨hq,q⟩
 ·obtain ⟨its,r',pl,hz⟩:=I.list hq
  have hlen:=r'.length
  refine call_tuple_list pl.isList (fun h' kp=>?_) (by simp only[aS] <;> omega)
  have I1:Inv X pins σ H { s with heap:=h' }:=I.kept (t':=s.toks) kp
  have I2:Inv X pins σ (upd H h'.objs.size (.tup ys)) { s with heap:=h'.push { cls:=.type "tuple",data:=.seq its.toArray } }:=
   I1.laid (t':=s.toks) (fun b o e=>aE _ e) (aQ _) (show ObjOk X.prog X.w _ _ _ (.tup ys) from ⟨hz,its,r',TupN.new _ _⟩)
  exact ⟨.ref h'.objs.size,_,I2,rfl,q _ (I1.hok.fresh (aQ _))⟩
 ·obtain ⟨its,r',pl,hz⟩:=I.tuple hq
  exact call_tuple_same pl ⟨.ref p,H,I,rfl,q⟩
noncomputable def tyV(K:aH)(T:String)(x:V)(H:Hp):Prop:=match x with
 | .str _=>T = "str"
 | .int _=>T = "int"
 | .ref p=>(T = "list" /\ ∃ xs,SqL K H p xs)\/(T = "tuple" /\ ∃ xs,SqT K H p xs) \/
   (T = "dict" /\ ((∃ kvs,H p=some (.dK kvs))\/∃ kvs,H p=some (.dT kvs)))\/(T = "set" /\ ∃ S n,H p=some (.set S n))
 | _=>False
theorem Aew{T:String}(I:Inv X pins σ H s)(r:RelV x v)(ty:tyV X.K T x H) :
  s.TypeIs v T/\∀ a,v = .ref a->∃ ob,s.heap.get? a=some ob/\ob.dict=none:=by
 cases x with
 | str z=>
  obtain ⟨t,rfl⟩:=r
  cases (show T = "str" from ty)
  exact ⟨sZ s z t,fun _ e=>nomatch e⟩
 | int i=>
  obtain ⟨t,rfl⟩:=r
  cases (show T = "int" from ty)
  exact ⟨tB s i t,fun _ e=>nomatch e⟩
 | ref p=>
  cases r
  rcases ty with ⟨rfl,xs,hq⟩ | ⟨rfl,xs,hq⟩ | ⟨rfl,hk⟩ | ⟨rfl,S,n,hk⟩
  ·obtain ⟨its,_,pl,_⟩:=I.list hq
   refine ⟨pl.isList.typeIs,fun a e=>?_⟩
   cases e
   obtain ⟨o,n,e,c,hd,_⟩:=pl
   exact ⟨o,e,hd⟩
  ·obtain ⟨its,_,⟨o,ho,hc,_⟩,_⟩:=I.tupleN hq
   obtain ⟨h1,h2⟩:=kK hc
   refine ⟨⟨o,ho,h1⟩,fun a e=>?_⟩
   cases e
   exact ⟨o,ho,h2⟩
  ·have z:∃ o,s.heap.get? p=some o/\o.ExactDict:=by
    rcases hk with ⟨kvs,hk⟩ | ⟨kvs,hk⟩
    ·obtain ⟨_,_,_,_,o,_,_,e,ex,_⟩:=I.hok p _ hk
     exact ⟨o,e,ex⟩
    ·obtain ⟨_,_,_,_,o,_,_,e,ex,_⟩:=I.hok p _ hk
     exact ⟨o,e,ex⟩
   obtain ⟨o,e,ex⟩:=z
   refine ⟨⟨o,e,ex.1⟩,fun a e2=>?_⟩
   cases e2
   exact ⟨o,e,ex.2.1⟩
  ·obtain ⟨o,_,_,_,e,ex,_⟩:=I.hok p _ hk
   refine ⟨⟨o,e,ex.1⟩,fun a e2=>?_⟩
   cases e2
   exact ⟨o,e,ex.2.1⟩
 | _=>exact fV ty
noncomputable def Aoz(K:aH)(T:String)(r:V->List V->Hp->VK->Prop)(to:TE):TE:=fun σ H Q=>to σ H fun x H1=>tyV K T x H1/\r x [] H1 Q
noncomputable def tBM(K:aH)(T:String)(r:V->List V->Hp->VK->Prop)(to:TE)(t:TA):TE:=fun σ H Q=>to σ H fun x H1=>tyV K T x H1/\t σ H1 fun xs H2=>r x xs H2 Q
variable {o e:Expr}{es:List Expr}{to:TE}{t:TA}{name:Str}{apos cpos:Pos}{T id:String}{r:V->List V->Hp->VK->Prop}
theorem Ak6(pa:qA T)(slot:Slot T name id)(hty:typeOf (.builtin id)=pure (.type "method_descriptor"))(hm:MtR X id r)(ho:PE X o to)
  (hbase:attributeBase o name X.env (eval o X.env)=eval o X.env:=by rfl) (hline:(apos.endLine == cpos.line)=true:=by rfl):PE X (.Call (.Attribute o name apos) [] [] cpos) (Aoz X.K T r to):=by
 intro pins s σ H Q I h
 refine wpAny_Call_method0_late hbase hline (thn (ho pins s σ H _ I h) fun v s1 zz=>?_)
 obtain ⟨x,H1,I1,r1,ty,q1⟩:=zz
 obtain ⟨h1,h2⟩:=Aew I1 r1 ty
 exact ⟨T,id,pa,slot,hty,h1,h2,iM rfl (kZ (hm pins s1 σ H1 x [] v [] Q I1 r1 .nil q1))⟩
theorem Ao4(pa:qA T)(slot:Slot T name id)(hty:typeOf (.builtin id)=pure (.type "method_descriptor"))(hm:MtR X id r)(ho:PE X o to)(ha:PA X (e::es) t)
  (hbase:attributeBase o name X.env (eval o X.env)=eval o X.env:=by rfl)
  (hfew:((backTo cpos (bS (e::es) X.env)).all (fun x=>!x.1)&&(backToKw cpos (keywordEach [] X.env)).all (fun x=>x.1.isSome)
   && decide ((e::es).length+([]:List jJ).length+(if ([]:List jJ).isEmpty then 0 else 1) < 30))=true:=by rfl)
  (hline:(apos.endLine == cpos.line)=true:=by rfl) (hs:bS (e::es) X.env=(false,eval e X.env)::bS es X.env:=by rfl) (hplain:(backTo cpos (bS es X.env)).any (·.1)=false:=by rfl) :
  PE X (.Call (.Attribute o name apos) (e::es) [] cpos) (tBM X.K T r to t):=by
 intro pins s σ H Q I h
 refine wpAny_Call_method_late hbase hfew hline rfl (thn (ho pins s σ H _ I h) fun v s1 zz=>?_)
 obtain ⟨x,H1,I1,r1,ty,q1⟩:=zz
 obtain ⟨h1,h2⟩:=Aew I1 r1 ty
 refine ⟨T,id,pa,slot,hty,h1,h2,?_⟩
 have hA:=ha cpos pins s1 σ H1 _ I1 q1
 rw[hs] at hA ⊢
 refine iM (by show (false || (backTo cpos (bS es X.env)).any (·.1))=false;rw[hplain] <;> rfl) (Calls.evalArgs_plain ?_)
 exact thn hA fun us s2 zz=>by obtain ⟨vs,H2,I2,r2,q2⟩:=zz;exact hm pins s2 σ H2 x vs v us Q I2 r1 r2 q2
end
noncomputable def MtM(X:Cx)(id:String)(r:V->List V->Hp->VK->Prop):Prop:=
 ∀ (pins:List (Addr×Obj)) (s:aL) (σ:St) (H:Hp) (x:V) (xs:List V) (v:aF) (us:List aF) (Q:VK),Inv X pins σ H s->RelV x v->Vals xs us->r x xs H Q ->
  wpAny (model X.prog X.w) X.A (call (.builtin id) (v::us)) (EP X pins σ Q) X.xe s
theorem Vals.one(h:Vals [x] us):∃ u,us=[u]/\RelV x u:=by
 cases h with
 | cons r t=>cases t;exact ⟨_,rfl,r⟩
theorem Vals.two(h:Vals [x,y] us):∃ u v,us=[u,v]/\RelV x u/\RelV y v:=by
 cases h with
 | cons r t=>obtain ⟨v,rfl,q⟩:=Vals.one t;exact ⟨_,v,rfl,r,q⟩
theorem Vals.zero:∀ {us:List aF},Vals [] us->us=[]
 | _,.nil=>rfl
theorem Vals.dropLast(h:Vals xs us):Vals xs.dropLast us.dropLast:=by
 induction h with
 | nil=>exact .nil
 | cons r t ih=>
  cases t with
  | nil=>exact .nil
  | cons q t'=>exact .cons r ih
theorem Vals.eraseIdx(i:Nat)(h:Vals xs us):Vals (xs.eraseIdx i) (us.eraseIdx i):=by
 induction h generalizing i with
 | nil=>exact .nil
 | cons r t ih=>
  cases i with
  | zero=>exact t
  | succ i=>exact .cons r (ih i)
theorem Vals.reverse(h:Vals xs us):Vals xs.reverse us.reverse:=by
 induction h with
 | nil=>exact .nil
 | cons r t ih=>rw[eJ,eJ];exact Vals.append ih (.cons r .nil)
theorem Vals.rep(h:Vals xs us):∀ k:Nat,Vals (bJ k xs).flatten (bJ k us).flatten
 | 0=>.nil
 | k+1=>by
  rw[fH,fH,hZ,hZ]
  exact Vals.append h (Vals.rep h k)
theorem Xd{α:Type}(l:List α):l.eraseIdx (l.length - 1)=l.dropLast:=by
 induction l with
 | nil=>rfl
 | cons a r ih=>
  cases r with
  | nil=>rfl
  | cons b r=>
   have e:(a::b::r).length - 1=((b::r).length - 1)+1:=by
    have h1:(a::b::r).length=r.length+2:=rfl
    have h2:(b::r).length=r.length+1:=rfl
    omega
   rw[e,nG,ih]
   all_goals rfl
theorem Sh{α:Type}:∀ (l:List α) (i:Nat),(l.eraseIdx i).length<=l.length
 | [],_=>aQ _
 | _::_,0=>iA _
 | _::r,i+1=>Nat.succ_le_succ (Sh r i)
theorem Tc(its:List aF):∀ (k:Nat) (acc:List aF),
  tD (fun x1 x2=>x1++x2) acc.toArray (bJ k its.toArray)=(acc++(bJ k its).flatten).toArray
 | 0,acc=>by simp
 | k+1,acc=>by
  have e:acc.toArray++its.toArray=(acc++its).toArray:=by simp
  have e2:(acc++its)++(bJ k its).flatten=acc++(bJ (k+1) its).flatten:=by
   rw[fH,hZ,dP]
  rw[<- e2,<- Tc its k (acc++its),<- e,fH,oH]
section
variable {l b:Addr}{ys zs:List V}
theorem Inv.lset{its':List aF}{f:Array aF->Array aF}{t':Nat}(I:Inv X pins σ H s)(hH:H l=some (.lst xs))
  (e:s.heap.get? l=some { cls:=.type "list",data:=.seq its.toArray n }) (hf:f its.toArray=its'.toArray) (hv:Vals ys its') (hz:ys.length<=sizeLine) :
  Inv X pins σ (upd H l (.lst ys)) { s with heap:=s.heap.update l (bZ f),toks:=t' }:=by
 have q:=PySem.IsL.update e f
 rw[hf] at q
 refine I.write (x:=l) (e:=l) (by rw[hH];exact trivial) (.inl rfl) (fun b' u hb hu=>(nZ s.heap (bZ f) (eP hb)).trans hu) ⟨_,q⟩ ?_
 exact ⟨hz,its',_,hv,q⟩
theorem Inv.lnew{t':Nat}(I:Inv X pins σ H s)(hv:Vals ys its)(hz:ys.length<=sizeLine) :
  Inv X pins σ (upd H s.heap.objs.size (.lst ys)) { s with heap:=s.heap.push { cls:=.type "list",data:=.seq its.toArray },toks:=t' }:=
 I.laid (fun _ _ q=>aE _ q) (aQ _) ⟨hz,its,0,hv,bC _ rfl⟩
theorem Inv.fresh(I:Inv X pins σ H s):H s.heap.objs.size=none:=I.hok.fresh (aQ _)
theorem Inv.lstM(I:Inv X pins σ H s)(hH:H l=some (.lst xs)):xs.length<=sizeLine/\∃ (its:List aF) (n:Nat),Vals xs its/\xs.length=its.length/\s.heap.get? l=some { cls:=.type "list",data:=.seq its.toArray n }:=by
 obtain ⟨z,its,n,r,e⟩:=I.hok l _ hH
 exact ⟨z,its,n,r,r.length,e⟩
theorem Wc(h:n<=sizeLine):iD n=false:=by
 unfold iD
 exact decide_eq_false (by omega)
end
section
noncomputable def Aau:V->List V->Hp->VK->Prop:=fun x vs H Q=>∃ l xs y,x = .ref l/\vs=[y]/\H l=some (.lst xs)/\xs.length < sizeLine/\Q .non (upd H l (.lst (xs++[y])))
theorem Jk:MtM X "list.append" Aau:=by
 intro pins s σ H x vs v us Q I rx rv h
 obtain ⟨l,xs,y,rfl,rfl,hH,hz,q⟩:=h
 cases rx
 obtain ⟨u,rfl,ru⟩:=rv.one
 obtain ⟨z,its,n,r,hl,e⟩:=I.lstM hH
 refine lX F.slot_list_append ⟨_,e,rfl⟩ F.entry_list_append (F.args_list_append_2 _ _) (PySem.list_append l its.toArray n u (by rw[aS];omega)) ⟨e,?_⟩
 refine ⟨.non,_,I.lset (its':=its++[u]) hH e (by simp) (r.append (.cons ru .nil)) ?_,rfl,q⟩
 rw[cG,List.length_singleton]
 omega
noncomputable def Abj:V->List V->Hp->VK->Prop:=fun x vs H Q=>∃ l b xs zs,x = .ref l/\vs=[.ref b]/\H l=some (.lst xs)/\H b=some (.lst zs)/\xs.length+zs.length<=sizeLine/\Q .non (upd H l (.lst (xs++zs)))
theorem Ab8:MtM X "list.extend" Abj:=by
 intro pins s σ H x vs v us Q I rx rv h
 obtain ⟨l,b,xs,zs,rfl,rfl,hH,hB,hz,q⟩:=h
 cases rx
 obtain ⟨u,rfl,ru⟩:=rv.one
 cases ru
 obtain ⟨z,its,n,r,hl,e⟩:=I.lstM hH
 obtain ⟨z2,its2,n2,r2,hl2,e2⟩:=I.lstM hB
 have hsz:its.toArray.size+its2.toArray.size<=sizeLine:=by rw[aS,aS];omega
 have hlong:¬ (!its.toArray.isEmpty&&iD (its.toArray.size+its2.toArray.size))=true:=by
  rw[Wc hsz,oZ]
  exact cL
 refine lX F.slot_list_extend ⟨_,e,rfl⟩ F.entry_list_extend (F.args_list_extend_2 _ _)
  (AutoSeq1.list_extend_list_list_0 l its.toArray n b its2.toArray n2 hlong (by rw[aS];omega) (by omega)) ⟨e,e2,?_⟩
 refine ⟨.non,_,I.lset (its':=its++its2) hH e (by simp) (r.append r2) ?_,rfl,q⟩
 rw[cG]
 omega
noncomputable def Aor:V->List V->Hp->VK->Prop:=fun x vs H Q=>∃ l xs y,x = .ref l/\vs=[]/\H l=some (.lst xs)/\xs[xs.length - 1]? = some y/\Q y (upd H l (.lst xs.dropLast))
theorem Alj:MtM X "list.pop" Aor:=by
 intro pins s σ H x vs v us Q I rx rv h
 obtain ⟨l,xs,y,rfl,rfl,hH,hy,q⟩:=h
 cases rx
 have hus:=rv.zero
 subst hus
 obtain ⟨z,its,n,r,hl,e⟩:=I.lstM hH
 obtain ⟨u,hu,ru⟩:=r.get hy
 have hy':its.toArray[its.toArray.size - 1]? = some u:=by
  show its.toArray[its.length - 1]? = some u
  rw[<- fM,<- hl]
  exact hu
 refine lX jN ⟨_,e,rfl⟩ rP (F.args_list_pop_1 _) (MeetsSeq.list_pop_last l its.toArray n u hy' (by rw[aS];omega)) ⟨e,?_⟩
 refine ⟨y,_,I.lset (its':=its.dropLast) hH e ?_ r.dropLast ?_,ru,q⟩
 ·show its.toArray.eraseIdxIfInBounds (its.toArray.size - 1)=its.dropLast.toArray
  rw[aS,jY,Xd]
 ·rw[List.length_dropLast]
  omega
noncomputable def Afy:V->List V->Hp->VK->Prop:=fun x vs H Q=>∃ l xs i k y,x = .ref l/\vs=[.int i]/\H l=some (.lst xs)/\-(2 ^ 63)<=i/\i < 2 ^ 63/\seqIndex? i xs.length=some k/\xs[k]? = some y/\Q y (upd H l (.lst (xs.eraseIdx k)))
theorem Aey:MtM X "list.pop" Afy:=by
 intro pins s σ H x vs v us Q I rx rv h
 obtain ⟨l,xs,i,k,y,rfl,rfl,hH,h1,h2,hk,hy,q⟩:=h
 cases rx
 obtain ⟨u,rfl,ru⟩:=rv.one
 obtain ⟨t,rfl⟩:=ru
 obtain ⟨z,its,n,r,hl,e⟩:=I.lstM hH
 obtain ⟨w,hw,rw'⟩:=r.get hy
 refine lX jN ⟨_,e,rfl⟩ rP (F.args_list_pop_2 _ _)
  (MeetsSeq.list_pop_at l its.toArray n i t k w (fitsIndex_both h1 h2) (by rw[aS,<- hl];exact hk) (by rw[<- fM];exact hw) (by rw[aS];omega)) ⟨e,?_⟩
 refine ⟨y,_,I.lset (its':=its.eraseIdx k) hH e ?_ (r.eraseIdx k) ?_,rw',q⟩
 ·show its.toArray.eraseIdxIfInBounds k=(its.eraseIdx k).toArray
  rw[jY]
 ·have:=Sh xs k
  omega
noncomputable def Aoy:R2:=fun x y H Q=>∃ l b xs zs,x = .ref l/\y = .ref b/\H l=some (.lst xs)/\H b=some (.lst zs)/\xs.length+zs.length<=sizeLine/\∀ p,H p=none->Q (.ref p) (upd H p (.lst (xs++zs)))
theorem Alx:OpR X (fX .Add) Aoy:=by
 intro pins s σ H x y v u Q I rx ry h
 obtain ⟨l,b,xs,zs,rfl,rfl,hH,hB,hz,q⟩:=h
 cases rx
 cases ry
 obtain ⟨z,its,n,r,hl,e⟩:=I.lstM hH
 obtain ⟨z2,its2,n2,r2,hl2,e2⟩:=I.lstM hB
 refine PySem.P.add_list e e2 ?_ (by rw[aS,aS];omega)
 have ea:its.toArray++its2.toArray=(its++its2).toArray:=by simp
 rw[ea]
 exact ⟨.ref _,_,I.lnew (t':=s.toks) (r.append r2) (by rw[cG];omega),rfl,q _ I.fresh⟩
noncomputable def An3:R2:=fun x y H Q=>∃ l k xs,x = .ref l/\y = .int k/\H l=some (.lst xs)/\-(2 ^ 63)<=k/\k < 2 ^ 63/\xs.length * k.toNat<=sizeLine /\
 ∀ p,H p=none->Q (.ref p) (upd H p (.lst (bJ k.toNat xs).flatten))
theorem Aig{α:Type}(xs:List α)(k:Nat):(bJ k xs).flatten.length=k * xs.length:=by
 induction k with
 | zero=>simp
 | succ k ih=>rw[fH,hZ,cG,ih,Nat.succ_mul,Nat.add_comm]
theorem Ak1:OpR X (fX .Mult) An3:=by
 intro pins s σ H x y v u Q I rx ry h
 obtain ⟨l,k,xs,rfl,rfl,hH,h1,h2,hz,q⟩:=h
 cases rx
 obtain ⟨t,rfl⟩:=ry
 obtain ⟨z,its,n,r,hl,e⟩:=I.lstM hH
 have hlen:its.toArray.size * k.toNat<=sizeLine:=by rw[aS,<- hl];exact hz
 have hcap:¬ its.toArray.size * k.toNat > (2 ^ 63 - 1) / 8:=by
  have:(sizeLine:Nat)<=(2 ^ 63 - 1) / 8:=by decide
  omega
 have hfit:¬ (!Builtin.List.listFitsIndex k)=true:=by
  rw[fitsIndex_both h1 h2]
  exact cL
 have hlong:¬ iD (its.toArray.size * k.toNat)=true:=by
  rw[Wc hlen]
  exact cL
 have hnew:tD (fun x1 x2=>x1++x2) #[] (bJ (if its.toArray.isEmpty=true then 0 else k.toNat) its.toArray)=(bJ k.toNat its).flatten.toArray:=by
  have f0:∀ m:Nat,tD (fun x1 x2=>x1++x2) #[] (bJ m its.toArray)=(bJ m its).flatten.toArray:=fun m=>by
   have:=Tc its m []
   rw[dB] at this
   exact this
  rw[f0]
  cases its with
  | nil=>simp
  | cons a r'=>rw[if_neg (by simp)]
 refine wpAny_binaryOp_repeat_ref (T := "list") (U := "int") (by decide) ⟨_,e,rfl⟩ (fun s'=>tB s' k t) noFill_list_mul F.fills_int_mul sJ repeat_list F.slot_int_index.lookup
  (lX sJ (tB s k t) F.entry_int_rmul (F.args_int_rmul_2 _ _) (int___rmul___int_list k t l its.toArray n)
   ⟨e,rfl,⟨_,e,rfl⟩,lX F.slot_list_mul ⟨_,e,rfl⟩ F.entry_list_mul (F.args_list_mul_2 _ _) (AutoListH.list___mul___list_int_3 l its.toArray n k t hfit hcap hlong) ⟨e,?_⟩⟩)
 rw[hnew]
 exact ⟨.ref _,_,I.lnew (t':=s.toks) (r.rep k.toNat) (by rw[Aig,Nat.mul_comm];exact hz),rfl,q _ I.fresh⟩
end
section
variable {prog:cU}{w:eD}{E:aF->aL->Prop}
end
end L2
namespace Att
open PySem PySem.W PySem.Calls PyProof.Rows
theorem Oy{P:Params}{h:Heap}:∀ (ns:List Int) (vs:List aF),WellAll P h vs (ns.map nH)->fY vs ns:=by
 intro ns
 induction ns with
 | nil=>
  intro vs w
  rw[bT] at w
  cases w
  exact .nil
 | cons n ns ih=>
  intro vs w
  rw[aO] at w
  cases w with
  | cons a b=>
   cases a
   exact .cons _ _ (ih _ b)
theorem Adv{l:lN}{n:Nat}(hn:l.most=some n){P:Params}{h:Heap}{args:List WData}{vals:List aF}
  (hpre:l.row.toRowW.claim.pre args=true) (hwl:WellAll P h vals args) :
  ∃ a vs ns,vals=[dY a]/\args=[wJ (ns.map nH)]/\h.get? a=some { cls:=.type "list",data:=.seq vs.toArray }/\fY vs ns/\ns.length<=n:=by
 have hsh:WShape.hasAll [] args [.list .int]=true:=(pre_splitW hpre).1
 have hc:l.pre.holds [] { args:=args } = true:=(pre_splitW hpre).2
 obtain ⟨d,r,rfl,h1,h2⟩:=hasAllW_cons hsh
 obtain rfl:=hasAllW_nil h2
 obtain ⟨xs,rfl,h3⟩:=hasW_list h1
 obtain ⟨ns,rfl⟩:=items_int h3
 have hlen:ns.length<=n:=by
  unfold lN.pre at hc
  have h4:(WTm.not (.lt (.lit (.int (n:Int))) (.len (.arg 0)))).holds [] { args:=[.list (ns.map .int)] } = true:=by
   have h4:=(holds_andW hc).1
   rw[hn] at h4
   exact h4
  have h5:=condW_of h4 (w_not (w_lt w_lit (w_len_list (w_arg rfl))))
  rw[aV] at h5
  refine Nat.le_of_not_lt fun q=>?_
  have q':(n:Int) < ((ns.length:Nat):Int):=by omega
  first
   | (rw[decide_eq_true q'] at h5;exact absurd h5 (by decide))
   | (simp at h5;omega)
 cases hwl with
 | cons w1 w2=>
  cases w2
  cases w1 with
  | list ho hall=>exact ⟨_,_,ns,rfl,rfl,ho,Oy ns _ hall,hlen⟩
theorem Ac1(l:lN)(args:List WData):l.row.toRowW.claim.post args (.bool true) args=true:=
 postW_of (r:=l.row.toRowW) (X:=(true == true))
  (show wK [] (.bool true) .bool=true by first | rfl | decide | simp[wK,WShape.arms,WShape.armsAll])
  (show (WTm.eq .res (.lit (.bool true))).value [] { args:=args,res:=some (.bool true),after:=args } = some (.bool (true == true)) from w_eq_bool (w_res rfl) w_lit) rfl
section
variable {prog:cU}{w:eD}{A:dO}{E:aF->aL->Prop}{s:aL}{K:Frag}
end
end Att
namespace L2
open PySem PySem.Spec PyProof.Rows
theorem Abt{vs:List aF}{ns:List Int}(h:fY vs ns):Vals (ns.map V.int) vs:=by
 induction h with
 | nil=>exact .nil
 | cons n t h ih=>exact .cons ⟨t,rfl⟩ ih
noncomputable def Only(H:Hp):Prop:=∀ b,H b=none\/∃ o xs,H b=some (.frz o (.lst xs))
noncomputable def Bu(s:Stmt):kD:=match s with
 | .FunctionDef _ a _ _ _ _ _ _ _ _=>a
 | _=>{ posonlyargs:=[],args:=[],vararg:=none,kwonlyargs:=[],kw_defaults:=[],kwarg:=none,defaults:=[] }
noncomputable def Bp(s:Stmt):List Stmt:=match s with
 | .FunctionDef _ _ b _ _ _ _ _ _ _=>b
 | _=>[]
noncomputable def Am(s:Stmt):iZ:=match s with
 | .FunctionDef _ _ _ _ _ _ sc _ _ _=>sc
 | _=>{ kind:=.function,names:=[],isGenerator:=false,isCoroutine:=false }
abbrev CX0:CXT:=fun _ _ _ _ _ _=>False
abbrev E0:XK:=fun _ _ _=>False
variable {X:Cx}
theorem Aom:X1 CX0 X E0:=fun _ _ _ _ _ _ _ h=>h.elim
structure Fun(K:aH)(x qual:Str)(st:Stmt)(f:Addr)(fd:dA):Prop where
 ex:∃ (oc:aF) (od:Option Addr) (kV doc pm:aF) (an:Option Addr) (cdv ct:aF) (osl:Array (Option aF)),
  fd=cJ x qual (Bu st) (Bp st) (Am st) .none kV doc pm an cdv ct/\K.lookup f=some ⟨oc,od,.func fd,osl⟩/\cF K cdv qual=true
 kp:bY K (.ref f)=true
variable {P:cU}{w:eD}{x qual:Str}{st:Stmt}{f:Addr}
section
variable {K:aH}{mg:Str->Option aF}{base:Heap}
theorem Fun.ok{fd:dA}{N ps:List Str}{k:Nat}{sp:Sp}(F:Fun K x qual st f fd)(S:FnScope N ps (Am st))(len:∀ vs H Q E,sp vs H Q E->vs.length=ps.length)
  (hbody:∀ (cdv:aF) (A:dO) (outer:List Env) (s:aL) (H:Hp) (vs:List V) (Q:VK) (E:XK),Room k (A.deeper (envOfC qual (Am st) s.heap.objs.size f cdv))->sp vs H Q E ->
   ∃ t,PSs (Vu CX0 P w K mg base N qual (Am st) f cdv A outer s H E).nox (Bp st) t/\t { nx:=fun _ H'=>Q .non H',rt:=Q } (start N vs) H):FnOk P w K mg base CX0 (k+1) f fd ps sp:=by
 obtain ⟨oc,od,kV,doc,pm,an,cdv,ct,osl,rfl,lk,hcd⟩:=F.ex
 refine Ajy lk hcd S len fun A outer s H vs Q E hr hsp=>?_
 obtain ⟨t,h,q⟩:=hbody cdv A outer s H vs Q E hr hsp
 exact ⟨t,h.nox,q⟩
theorem Fun.binds{fd:dA}{ps:List Str}(F:Fun K x qual st f fd)
  (h:∀ (kV doc pm:aF) (an:Option Addr) (cdv ct:aF) (us:List aF),us.length=ps.length->bindArgs (cJ x qual (Bu st) (Bp st) (Am st) .none kV doc pm an cdv ct) ⟨us,[]⟩=pure (ps.zip us)):Binds K fd ps []:=by
 obtain ⟨oc,od,kV,doc,pm,an,cdv,ct,osl,rfl,lk,hcd⟩:=F.ex
 exact .all (h kV doc pm an cdv ct)
theorem C8{oc:aF}{od an:Option Addr}{osl:Array (Option aF)}{kV doc pm cdv ct:aF}(l:K.lookup f=some ⟨oc,od,.func (cJ x qual (Bu st) (Bp st) (Am st) .none kV doc pm an cdv ct),osl⟩)
  (c:cF K cdv qual=true) (k:bY K (.ref f)=true):Fun K x qual st f (cJ x qual (Bu st) (Bp st) (Am st) .none kV doc pm an cdv ct):=⟨⟨oc,od,kV,doc,pm,an,cdv,ct,osl,rfl,l,c⟩,k⟩
end
variable {pos:Pos}
section
theorem pv(i:Nat)(hN:X.N[i]? = some x:=by rfl)(hv:Vis X.env.scope x:=by first | exact pA rfl | exact mW (pA rfl) | exact mW (mW rfl))(hd:(x == ("__debug__" : Str))=false:=by decide)
  (hcd:(x == ("__classdict__" : Str))=false:=by decide):PE X (.Name x pos) (Ao7 i):=Afe hN hv hd hcd
end
theorem Xg{A B:Prop}(h:B):if false=true then A else B:=by
 rw[if_neg cL]
 exact h
theorem X5{A B:Prop}(h:A):if true=true then A else B:=by
 rw[if_pos rfl]
 exact h
noncomputable def Same(H H':Hp):Prop:=∀ b o,H b=some o->H' b=some o
theorem Same.refl(H:Hp):Same H H:=fun _ _ h=>h
variable {H:Hp}
theorem Same.trans{H1 H2:Hp}(a:Same H H1)(b:Same H1 H2):Same H H2:=fun c o h=>b c o (a c o h)
variable {H':Hp}
theorem Same.free(e:Same H H'){l:Addr}(h:H' l=wG):H l=wG:=by
 cases q:H l with
 | none=>rfl
 | some o=>
  rw[e l o q] at h
  cases h
variable {a:Addr}
theorem Same.seq{K:aH}{xs:List V}(e:Same H H')(h:SqL K H a xs):SqL K H' a xs:=by
 rcases h with (h | ⟨o,h⟩) | h
 ·exact .inl (.inl (e _ _ h))
 ·exact .inl (.inr ⟨o,e _ _ h⟩)
 ·exact .inr h
variable {o:Option V}{u:aF}{y:V}
section
variable {κ:Type}[DecidableEq κ]
noncomputable def Kw(kvs:List (κ×V))(k:κ):Option V:=(kvs.find? fun kv=>decide (kv.1=k)).map (·.2)
noncomputable def Kd(kvs:List (κ×V))(k:κ)(v:V):List (κ×V):=
 if (kvs.any fun kv=>decide (kv.1=k))=true then kvs.map (fun kv=>if kv.1=k then (kv.1,v) else kv) else kvs++[(k,v)]
noncomputable def Yz(kvs:List (κ×V))(k:κ):List (κ×V):=kvs.filter fun kv=>decide (kv.1≠k)
theorem Q7{p:κ×V}{r:List (κ×V)}{k:κ}(e:p.1=k):Kw (p::r) k=some p.2:=by simp[Kw,cW,e]
theorem Qr{p:κ×V}{r:List (κ×V)}{k:κ}(e:¬ p.1=k):Kw (p::r) k=Kw r k:=by simp[Kw,cW,e]
theorem Qf(k:κ):∀ kvs:List (κ×V),(kvs.any fun kv=>decide (kv.1=k))=(Kw kvs k).isSome
 | []=>rfl
 | p::r=>by
  rw[gD]
  by_cases e:p.1=k
  ·simp only[Q7 e,decide_eq_true e,Bool.true_or,qB]
  ·rw[Qr e,decide_eq_false e,tM];exact Qf k r
theorem Lb(kvs:List (κ×V))(k:κ)(v:V):(Kd kvs k v).length<=kvs.length+1:=by
 unfold Kd
 split
 ·rw[aV];omega
 ·rw[cG,aN,bF];omega
theorem RelO.isSome_eq{u:Option aF}(r:RelO o u):o.isSome=u.isSome:=by
 cases o with
 | none=>cases u with
  | none=>rfl
  | some _=>exact (show False from r).elim
 | some _=>cases u with
  | none=>exact (show False from r).elim
  | some _=>rfl
theorem RelO.getD{u:Option aF}{d:V}{d':aF}(r:RelO o u)(rd:RelV d d'):RelV (o.getD d) (u.getD d'):=by
 cases o with
 | none=>cases u with
  | none=>exact rd
  | some _=>exact (show False from r).elim
 | some _=>cases u with
  | none=>exact (show False from r).elim
  | some _=>exact r
theorem KV.val{kvs:List (κ×V)}{vs:List (κ×aF)}(r:KV kvs vs)(k:κ):RelO (Kw kvs k) (valueAt vs k):=by
 unfold KV at r
 induction r with
 | nil=>exact iK
 | @cons p q ps qs h t ih=>
  obtain ⟨h1,h2⟩:=h
  by_cases e:p.1=k
  ·have e':q.1=k:=h1.symm.trans e
   have b:valueAt (q::qs) k=some q.2:=by simp[valueAt,cW,e']
   rw[Q7 e,b];exact h2
  ·have e':¬ q.1=k:=fun z=>e (h1.trans z)
   have b:valueAt (q::qs) k=valueAt qs k:=by simp[valueAt,cW,e']
   rw[Qr e,b];exact ih
theorem KV.any{kvs:List (κ×V)}{vs:List (κ×aF)}(r:KV kvs vs)(k:κ):(kvs.any fun kv=>decide (kv.1=k))=vs.any fun kv=>decide (kv.1=k):=by
 unfold KV at r
 induction r with
 | nil=>rfl
 | cons h t ih=>rw[gD,gD,ih,h.1]
theorem KV.repl{kvs:List (κ×V)}{vs:List (κ×aF)}(r:KV kvs vs)(k:κ)(ry:RelV y u) :
  KV (kvs.map fun kv=>if kv.1=k then (kv.1,y) else kv) (vs.map fun kv=>if kv.1=k then (kv.1,u) else kv):=by
 unfold KV at r ⊢
 induction r with
 | nil=>exact .nil
 | @cons p q ps qs h t ih=>
  rw[aO,aO]
  refine .cons ?_ ih
  obtain ⟨h1,h2⟩:=h
  by_cases e:p.1=k
  ·rw[if_pos e,if_pos (h1.symm.trans e)];exact ⟨h1,ry⟩
  ·rw[if_neg e,if_neg (fun z=>e (h1.trans z))];exact ⟨h1,h2⟩
theorem KV.put{kvs:List (κ×V)}{vs:List (κ×aF)}(r:KV kvs vs)(k:κ)(ry:RelV y u):KV (Kd kvs k y) (stored vs k u):=by
 unfold Kd stored
 rw[r.any k]
 by_cases e:(vs.any fun kv=>decide (kv.1=k))=true
 ·rw[if_pos e,if_pos e];exact r.repl k ry
 ·rw[if_neg e,if_neg e];exact wH r ⟨rfl,ry⟩
theorem KV.drop{kvs:List (κ×V)}{vs:List (κ×aF)}(r:KV kvs vs)(k:κ):KV (Yz kvs k) (without vs k):=by
 unfold KV at r ⊢
 unfold Yz without
 induction r with
 | nil=>exact .nil
 | @cons p q ps qs h t ih=>
  obtain ⟨h1,h2⟩:=h
  rw[kF,kF]
  by_cases e:p.1=k
  ·have a:¬ decide (p.1≠k)=true:=by simp[e]
   have b:¬ decide (q.1≠k)=true:=by simp[h1.symm.trans e]
   rw[if_neg a,if_neg b];exact ih
  ·have e':¬ q.1=k:=fun z=>e (h1.trans z)
   have a:decide (p.1≠k)=true:=by simp[e]
   have b:decide (q.1≠k)=true:=by simp[e']
   rw[if_pos a,if_pos b];exact .cons ⟨h1,h2⟩ ih
theorem KV.keys{kvs:List (κ×V)}{vs:List (κ×aF)}(r:KV kvs vs):kvs.map (·.1)=vs.map (·.1):=by
 unfold KV at r
 induction r with
 | nil=>rfl
 | cons h t ih=>rw[aO,aO,ih,h.1]
theorem KV.length{kvs:List (κ×V)}{vs:List (κ×aF)}(r:KV kvs vs):kvs.length=vs.length:=mQ r
end
theorem Abi{k:Key}(r:RelV (kV k) u):(Br P w).is k u=true:=by
 cases k with
 | inl i=>obtain ⟨t,e⟩:=(show ∃ t,u=kC i t from r);subst e;exact U5 P w i t
 | inr x=>obtain ⟨t,e⟩:=(show ∃ t,u=lM x t from r);subst e;exact Vn P w x t
theorem Sk:∀ {ks:List Key} {us:List aF},Vals (ks.map kV) us->ItemsAre (Br P w) ks us
 | [],_,r=>by rw[bT] at r;cases r;exact .nil
 | k::ks,_,r=>by
  rw[aO] at r
  cases r with
  | cons h t=>exact .cons (Abi h) (Sk t)
abbrev KT(H:Hp):List (List Key×V)->List (List Key×Addr×aF)->Prop:=rG fun p q=>p.1=q.1/\H q.2.1=some (.tup (p.1.map kV))/\RelV p.2 q.2.2
variable {xs:List (List Key×Addr×aF)}{kvs:List (List Key×V)}
theorem KT.val(r:KT H kvs xs)(k:List Key):RelO (Kw kvs k) ((atKey xs k).map (·.2)):=by
 induction r with
 | nil=>exact iK
 | @cons p q ps qs h t ih=>
  obtain ⟨h1,_,h2⟩:=h
  by_cases e:p.1=k
  ·have e':q.1=k:=h1.symm.trans e
   have b:atKey (q::qs) k=some q.2:=by simp[atKey,cW,e']
   rw[Q7 e,b];exact h2
  ·have e':¬ q.1=k:=fun z=>e (h1.trans z)
   have b:atKey (q::qs) k=atKey qs k:=by simp[atKey,cW,e']
   rw[Qr e,b];exact ih
theorem KT.repl(r:KT H kvs xs)(k:List Key)(ry:RelV y u) :
  KT H (kvs.map fun kv=>if kv.1=k then (kv.1,y) else kv) (xs.map (putAt k u)):=by
 induction r with
 | nil=>exact .nil
 | @cons p q ps qs h t ih=>
  rw[aO,aO]
  refine .cons ?_ ih
  obtain ⟨h1,h2,h3⟩:=h
  unfold putAt
  by_cases e:p.1=k
  ·rw[if_pos e,if_pos (h1.symm.trans e)];exact ⟨h1,h2,ry⟩
  ·rw[if_neg e,if_neg (fun z=>e (h1.trans z))];exact ⟨h1,h2,h3⟩
variable {b:Addr}
theorem KT.put(r:KT H kvs xs)(k:List Key)(hb:H b=some (.tup (k.map kV)))(ry:RelV y u) :
  KT H (Kd kvs k y) (storedH xs k b u):=by
 have e:(kvs.any fun kv=>decide (kv.1=k))=(atKey xs k).isSome:=by
  rw[Qf,(r.val k).isSome_eq,qQ]
 unfold Kd storedH
 rw[e]
 by_cases q:(atKey xs k).isSome=true
 ·rw[if_pos q,if_pos q];exact r.repl k ry
 ·rw[if_neg q,if_neg q];exact wH r ⟨rfl,hb,ry⟩
theorem KT.keeps(r:KT H kvs xs)(ht:∀ b ys,H b=some (.tup ys)->H' b=some (.tup ys)):KT H' kvs xs:=
 Paired.mapP r fun _ _ z=>⟨z.1,ht _ _ z.2.1,z.2.2⟩
section
variable {h:Heap}
theorem Akh{u:HO}(ok:HOk P w H h)(e:Rd H a u):ObjOk P w H h a u:=e.ok ok
theorem Ww{kvs:List (Key×V)}(ok:HOk P w H h)(e:Rd H a (.dK kvs)):kvs.length<=sizeLine/\(a == sysModules)=false/\∃ vs,KV kvs vs/\h.DictOf (Br P w) a vs:=
 show ObjOk P w H h a (.dK kvs) from Akh ok e
theorem V2{kvs:List (Key×V)}(ok:HOk P w H h)(e:H a=some (.dK kvs)):kvs.length<=sizeLine/\(a == sysModules)=false/\∃ vs,KV kvs vs/\h.DictOf (Br P w) a vs:=Ww ok (.inl e)
theorem Yb{ks:List Key}(ok:HOk P w H h)(e:H a=some (.tup (ks.map kV))):(tupleKind (Br P w)).is h ks a:=by
 obtain ⟨_,its,r,o,h1,h2,n,h3⟩:=(show ObjOk P w H h a (.tup (ks.map kV)) from ok a _ e)
 exact ⟨o,its.toArray,n,h1,(kK h2).1,h3,by simpa using Sk r⟩
theorem Aa7(ok:HOk P w H h)(e:Rd H a (.dT kvs)):kvs.length<=sizeLine/\(a == sysModules)=false /\
  ∃ xs,KT H kvs xs/\h.DictOfH (tupleKind (Br P w)) a xs:=by
 obtain ⟨z,y,xs,r,o,es,ep,h1,h2,h3,h4,h5⟩:=(show ObjOk P w H h a (.dT kvs) from Akh ok e)
 refine ⟨z,y,xs,r,o,es,ep,h1,h2,h3,h4,fun x hx=>?_,h5⟩
 have all:∀ {l:List (List Key×V)} {m:List (List Key×Addr×aF)},KT H l m->∀ x∈m,(tupleKind (Br P w)).is h x.1 x.2.1:=by
  intro l m q
  induction q with
  | nil=>intro x hx;exact nomatch hx
  | @cons p q ps qs hq t ih=>
   intro x hx
   rcases bE.mp hx with e | hx
   ·subst e
    exact Yb ok (by rw[<- hq.1];exact hq.2.1)
   ·exact ih x hx
 exact all r x hx
theorem Ano(ok:HOk P w H h)(e:H a=some (.dT kvs)):kvs.length<=sizeLine/\(a == sysModules)=false /\
  ∃ xs,KT H kvs xs/\h.DictOfH (tupleKind (Br P w)) a xs:=Aa7 ok (.inl e)
end
noncomputable def DGet(H:Hp)(a:Addr)(y:V)(r:Option V):Prop:=
 (∃ kvs k,Rd H a (.dK kvs)/\y=kV k/\r=Kw kvs k)\/∃ kvs k b,Rd H a (.dT kvs)/\y = .ref b/\H b=some (.tup (k.map kV))/\r=Kw kvs k
noncomputable def DPut(H:Hp)(a:Addr)(y v:V)(H':Hp):Prop:=
 (∃ kvs k,H a=some (.dK kvs)/\y=kV k/\kvs.length < sizeLine/\H'=upd H a (.dK (Kd kvs k v))) \/
 ∃ kvs k b,H a=some (.dT kvs)/\y = .ref b/\H b=some (.tup (k.map kV))/\kvs.length < sizeLine/\H'=upd H a (.dT (Kd kvs k v))
theorem DGet.k{kvs:List (Key×V)}{k:Key}(e:H a=some (.dK kvs)):DGet H a (kV k) (Kw kvs k):=.inl ⟨kvs,k,.inl e,rfl,rfl⟩
theorem DGet.t{k:List Key}(e:H a=some (.dT kvs))(eb:H b=some (.tup (k.map kV))):DGet H a (.ref b) (Kw kvs k):=.inr ⟨kvs,k,b,.inl e,rfl,eb,rfl⟩
variable {v:V}
theorem DPut.k{kvs:List (Key×V)}{k:Key}(e:H a=some (.dK kvs))(hl:kvs.length < sizeLine):DPut H a (kV k) v (upd H a (.dK (Kd kvs k v))):=.inl ⟨kvs,k,e,rfl,hl,rfl⟩
theorem DPut.t{k:List Key}(e:H a=some (.dT kvs))(eb:H b=some (.tup (k.map kV)))(hl:kvs.length < sizeLine) :
  DPut H a (.ref b) v (upd H a (.dT (Kd kvs k v))):=.inr ⟨kvs,k,b,e,rfl,eb,hl,rfl⟩
variable {A:dO}{pins:List (Addr×Obj)}{σ:St}{s:aL}{E Q:aF->aL->Prop}
section
variable {r:aF}
theorem Inv.big(I:Inv X pins σ H s):sysModules < s.heap.objs.size:=by
 have h:bI < s.heap.objs.size:=(I.mod.glob.keeps I.bk).lt
 exact qR (by decide) h
theorem Acq(hu:A.units+1 < cLine)(I:Inv X pins σ H s)(g:DGet H a y (some v))(ry:RelV y u)(h:∀ w' s',Inv X pins σ H s'->RelV v w'->Q w' s') :
  wpAny (model X.prog X.w) A (getItem (.ref a) u) Q E s:=by
 rcases g with ⟨kvs,k,e,ey,l⟩ | ⟨kvs,k,b,e,ey,eb,l⟩
 ·subst ey
  obtain ⟨z,hd,vs,rel,dd⟩:=Ww I.hok e
  obtain ⟨w',hw,rw'⟩:=RelO.some_of (v:=v) (o:=valueAt vs k) (by rw[l];exact rel.val k)
  exact wpAny_getItem_of (Abi ry) dd.mapOf hw (h w' _ (I.tok _) rw')
 ·subst ey
  cases (show u=dY b from ry)
  obtain ⟨z,hd,xs,rel,dd⟩:=Aa7 I.hok e
  obtain ⟨w',hw,rw'⟩:=RelO.some_of (v:=v) (o:=(atKey xs k).map (·.2)) (by rw[l];exact rel.val k)
  obtain ⟨p,hp,hp2⟩:=aG.mp hw
  refine wpAny_getItem_heap (qC hu) (Yb I.hok eb) dd hp ?_
  rw[hp2]
  exact h w' _ (I.tok _) rw'
theorem Y3{h':Heap}{t':Nat}{ob:HO}(I:Inv X pins σ H s)(mu:Mut (H a))(hs:lF a s.heap h')(he:∃ q,h'.get? a=some q)(new:ObjOk X.prog X.w (upd H a ob) h' a ob) :
  Inv X pins σ (upd H a ob) { s with heap:=h',toks:=t' }:=
 I.write (x:=a) (e:=a) mu (.inl rfl) (fun b q hb z=>(hs.2 b hb).trans z) he new
theorem W6{h':Heap}{kvs:List (Key×V)}{vs:List (Key×aF)}(z:kvs.length<=sizeLine)(hd:(a == sysModules)=false)(rel:KV kvs vs)(dd:h'.DictOf (Br P w) a vs) :
  ObjOk P w H' h' a (.dK kvs):=⟨z,hd,vs,rel,dd⟩
theorem Aca{Q:Unit->aL->Prop}(hu:A.units+1 < cLine)(I:Inv X pins σ H s)(g:DPut H a y v H')(ry:RelV y u)(rv:RelV v r)(h:∀ s',Inv X pins σ H' s'->Q () s') :
  wpAny (model X.prog X.w) A (setItem (.ref a) u r) Q E s:=by
 rcases g with ⟨kvs,k,e,ey,l,eH⟩ | ⟨kvs,k,b,e,ey,eb,l,eH⟩
 ·subst ey eH
  obtain ⟨z,hd,vs,rel,dd⟩:=V2 I.hok e
  have hz:vs.length<=sizeLine:=by rw[<- rel.length];exact z
  have hl:(Kd kvs k v).length<=sizeLine:=by have:=Lb kvs k v;omega
  refine wpAny_setItem_pairs (hsz:=hz) (Abi ry) dd fun h' dd' hs=>h _ ?_
  have he:∃ q,h'.get? a=some q:=let ⟨q,_,_,hq,_⟩:=dd';⟨q,hq⟩
  exact Y3 I (by rw[e];exact iK) hs he (W6 hl hd (rel.put k rv) dd')
 ·subst ey eH
  cases (show u=dY b from ry)
  obtain ⟨z,hd,xs,rel,dd⟩:=Ano I.hok e
  have hz:xs.length<=sizeLine:=by rw[<- mQ rel];exact z
  have hl:(Kd kvs k v).length<=sizeLine:=by have:=Lb kvs k v;omega
  refine wpAny_setItem_heap (hsz:=hz) (qC hu) (Yb I.hok eb) dd fun h' dd' hs=>h _ ?_
  obtain ⟨q,es,ep,hq,h2,h3,h4,_,h5⟩:=dd'
  refine Y3 I (by rw[e];exact iK) hs ⟨q,hq⟩ ⟨hl,hd,_,(rel.put k eb rv).keeps fun c ys ec=>?_,q,es,ep,hq,h2,h3,h4,h5⟩
  rw[Aq (Kp ec e (fun z=>nomatch z))]
  exact ec
end
section
variable {kvs:List (Key×V)}{k:Key}
end
noncomputable def Al7(i:Expr):Prop:=∀ ov iv,subscripted i false ov iv=operate [ov,iv] (getItem ov iv)
theorem Ajg{prog:cU}{env:Env}{value slice:Expr}{T id:String}
  (hl:typeLookup (.type T) "__getitem__" = pure (some (.builtin id))) (hs:Al7 slice)
  (h:wpAny (model prog w) A (eval value env) (fun o s₁=>wpAny (model prog w) A (eval slice env) (fun i s₂=>s₂.TypeIs o T/\wpAny (model prog w) A (getItem o i) Q E s₂) E s₁) E s) :
  wpAny (model prog w) A (eval (.Subscript value slice pos) env) Q E s:=by
 refine pZ (dM h (fun o s₁ h₁=>dM h₁ (fun i s₂ h₂=>?_) fun _ _ x=>x) fun _ _ x=>x)
 obtain ⟨hT,h₂⟩:=h₂
 unfold subscriptTail
 refine aC ?_
 rw[getitemInPython_of_ne hT.not_modules]
 refine aC (wpAny_specialOf hT hl ?_)
 have fin:wpAny (model prog w) A (subscripted slice false o i) (fun r s₃=>wpAny (model prog w) A (letTemporaryGo value o r >>= fun _=>pure r) Q E s₃) E s₂:=by
  rw[hs o i]
  exact wpAny_operating (dM h₂ (fun r s₃ h₃=>aC (wpAny_letTemporaryGo (aU h₃))) fun _ _ x=>x)
 first
  | exact aU (aC fin)
  | exact aC (aU (aC fin))
  | exact aC fin
theorem Vt(I:Inv X pins σ H s)(g:DGet H a y o):s.TypeIs (.ref a) "dict" := by
 rcases g with ⟨kvs,k,e,_,_⟩ | ⟨kvs,k,b,e,_,_,_⟩
 ·obtain ⟨_,_,vs,_,dd⟩:=Ww I.hok e
  exact dd.typeIs
 ·obtain ⟨_,_,xs,_,dd⟩:=Aa7 I.hok e
  exact dd.typeIs
noncomputable def An1(td ty:TE):TE:=fun σ H Q=>td σ H fun x H1=>ty σ H1 fun y H2=>∃ a v,x = .ref a/\DGet H2 a y (some v)/\Q v H2
noncomputable def Anz(td ty tv:TE):TS:=fun D σ H=>tv σ H fun v H1=>td σ H1 fun x H2=>ty σ H2 fun y H3=>∃ a H4,x = .ref a/\DPut H3 a y v H4/\D.nx σ H4
section
variable {o i e value:Expr}{pos' tpos:Pos}{td ty tv:TE}
theorem Ag9(hu:X.A.units+1 < cLine)(ho:PE X o td)(hi:PE X i ty)(hs:Al7 i):PE X (.Subscript o i pos) (An1 td ty):=by
 intro pins s σ H Q I h
 refine Ajg PySem.F.slot_dict_getitem.lookup hs (thn (ho pins s σ H _ I h) fun u s1 zz=>zz.elim fun x H1 I1 rx q1=>thn (hi pins s1 σ H1 _ I1 q1) fun iv s2 zz=>zz.elim fun y H2 I2 ry zq=>?_)
 obtain ⟨a,v,ex,g,q2⟩:=zq
 subst ex
 obtain rfl:u=dY a:=rx
 exact ⟨Vt I2 g,Acq hu I2 g ry fun w' s3 I3 rw'=>⟨v,H2,I3,rw',q2⟩⟩
theorem Ahn(hu:X.A.units+1 < cLine)(ho:PE X o td)(hi:PE X i ty)(hv:PE X value tv)(hs:swapsWith value (some (.Subscript o i pos')) pos.line X.env=pure false) :
  PS X (.Assign [.Subscript o i pos'] value pos) (Anz td ty tv):=by
 intro pins s σ H D I h
 refine wpAny_Assign_Subscript (thn (hv pins s σ H _ I h) fun r s1 zz=>zz.elim fun v H1 I1 rv q1=>thn (ho pins s1 σ H1 _ I1 q1) fun u s2 zz=>zz.elim fun x H2 I2 rx q2=>thn (hi pins s2 σ H2 _ I2 q2) fun iv s3 zz=>zz.elim fun y H3 I3 ry zq=>?_) hs
 obtain ⟨a,H4,ex,g,q3⟩:=zq
 subst ex
 obtain rfl:u=dY a:=rx
 exact Aca hu I3 g ry rv fun s4 I4=>⟨σ,H4,I4,q3⟩
end
theorem Ae4(h:Heap)(hb:sysModules < h.objs.size):ObjOk P w H (h.push { cls:=.type "dict",data:=.dict #[] }) h.objs.size (.dK []):=
 ⟨eX _,beq_eq_false_iff_ne.mpr (eP (bU hb)),[],.nil,sK h⟩
noncomputable def Amk:TE:=fun _ H Q=>∀ p,H p=none->Q (.ref p) (upd H p (.dK []))
section
theorem Aex:PE X (.Dict [] [] pos) Amk:=fun pins s σ H Q I h=>
 wpAny_Dict_empty ⟨.ref s.heap.objs.size,_,I.laid (a:=s.heap.objs.size) (o:=.dK []) (t':=s.toks) (fun _ _ q=>aE _ q) (aQ _) (Ae4 s.heap I.big),rfl,h _ (I.hok.fresh (aQ _))⟩
end
noncomputable def Kg(kvs more:List (Key×V)):List (Key×V):=more.foldl (fun acc kv=>Kd acc kv.1 kv.2) kvs
theorem KV.merge:∀ {more:List (Key×V)} {rs:List (Key×aF)} {kvs:List (Key×V)} {vs:List (Key×aF)},KV more rs->KV kvs vs->KV (Kg kvs more) (merged vs rs):=by
 intro more rs kvs vs r
 unfold KV at r
 induction r generalizing kvs vs with
 | nil=>intro q;exact q
 | @cons p q ps qs h t ih=>
  intro r0
  have e:KV (Kd kvs p.1 p.2) (stored vs q.1 q.2):=by
   have:=r0.put p.1 h.2
   rw[<- h.1];exact this
  exact ih e
theorem Lu:∀ (more kvs:List (Key×V)),(Kg kvs more).length<=kvs.length+more.length
 | [],kvs=>by show kvs.length<=kvs.length+0;omega
 | p::r,kvs=>by
  have h1:=Lu r (Kd kvs p.1 p.2)
  have h2:=Lb kvs p.1 p.2
  show (Kg (Kd kvs p.1 p.2) r).length<=_
  rw[aN];omega
structure M1(X:Cx)(o:Expr)(m:Str)(apos:Pos)(e:Expr)(cpos:Pos):Prop where
 base:attributeBase o m X.env (eval o X.env)=eval o X.env
 few:((backTo cpos (bS [e] X.env)).all (fun x=>!x.1)&&(backToKw cpos (keywordEach [] X.env)).all (fun x=>x.1.isSome)
  && decide (([e]:List Expr).length+([]:List jJ).length+(if ([]:List jJ).isEmpty then 0 else 1) < 30))=true
 line:(apos.endLine == cpos.line)=true
 trees:backTo cpos (bS [e] X.env)=[(false,eval e X.env)]
structure M2(X:Cx)(o:Expr)(m:Str)(apos:Pos)(e f:Expr)(cpos:Pos):Prop where
 base:attributeBase o m X.env (eval o X.env)=eval o X.env
 few:((backTo cpos (bS [e,f] X.env)).all (fun x=>!x.1)&&(backToKw cpos (keywordEach [] X.env)).all (fun x=>x.1.isSome)
  && decide (([e,f]:List Expr).length+([]:List jJ).length+(if ([]:List jJ).isEmpty then 0 else 1) < 30))=true
 line:(apos.endLine == cpos.line)=true
 trees:backTo cpos (bS [e,f] X.env)=[(false,eval e X.env),(false,eval f X.env)]
noncomputable def IsD(H:Hp)(a:Addr):Prop:=(∃ kvs,Rd H a (.dK kvs))\/∃ kvs,Rd H a (.dT kvs)
theorem Afz(I:Inv X pins σ H s)(d:IsD H a) :
  s.TypeIs (.ref a) "dict" /\ (∀ b,dY a = .ref b->∃ ob,s.heap.get? b=some ob/\ob.dict=none)/\(a == sysModules)=false:=by
 rcases d with ⟨kvs,e⟩ | ⟨kvs,e⟩
 ·obtain ⟨_,hd,vs,_,dd⟩:=Ww I.hok e
  refine ⟨dd.typeIs,fun b q=>?_,hd⟩
  cases q
  obtain ⟨ob,_,_,h1,h2,_⟩:=dd
  exact ⟨ob,h1,h2.2.1⟩
 ·obtain ⟨_,hd,xs,_,dd⟩:=Aa7 I.hok e
  refine ⟨dd.typeIs,fun b q=>?_,hd⟩
  cases q
  obtain ⟨ob,_,_,h1,h2,_⟩:=dd
  exact ⟨ob,h1,h2.2.1⟩
section
variable {d:V}{r:aF}
end
section
variable {o e f:Expr}{apos cpos:Pos}{td ty tx:TE}
end
section
variable {kvs:List (Key×V)}
theorem Ago(I:Inv X pins σ H s)(e:Rd H a (.dK kvs))(h:∀ p s',H p=none->Inv X pins σ (upd H p (.dK kvs)) s'->Q (.ref p) s'):wpAny (model X.prog X.w) A (call (.type "dict") [.ref a]) Q E s:=by
 obtain ⟨z,hd,vs,rel,dd⟩:=Ww I.hok e
 refine kt_call_dict hd dd (by rw[<- rel.length];exact z) fun h' dd' hs=>?_
 refine h _ _ (I.hok.fresh (aQ _)) (I.laid (a:=s.heap.objs.size) (o:=.dK kvs) (t':=s.toks) (fun b q hq=>?_) (aQ _) (W6 z (beq_eq_false_iff_ne.mpr (eP (bU I.big))) rel dd'))
 exact (hs.2 b (bU (bD hq))).trans (aE _ hq)
end
end L2
namespace MR
open PySem PySem.Spec PyProof.Rows L2
inductive U where
 | non | bl (b:Bool) | int (i:Int) | str (x:Str) | tup (l:List U) | ref (n:Nat)
inductive HU where
 | lst (xs:List U) | ro (xs:List U) | dic (kvs:List (Key×U)) | rod (kvs:List (Key×U)) | ins (C:Str) (fs:List (Str×U)) | exc (C:Str) (fr:Bool) (fs:List (Str×U))
abbrev UH:=List HU
abbrev UE:=List (Option U)
section
variable (K:aH)(H:Hp)(α:List Addr)
mutual
noncomputable def RepU:U->V->Prop
 | .non,v=>v = .non
 | .bl b,v=>v = .bl b
 | .int i,v=>v = .int i
 | .str x,v=>v = .str x
 | .tup l,v=>∃ a xs,v = .ref a/\SqT K H a xs/\RepL l xs
 | .ref n,v=>∃ a,α[n]? = some a/\v = .ref a
noncomputable def RepL:List U->List V->Prop
 | [],xs=>xs=[]
 | u::l,xs=>∃ x r,xs=x::r/\RepU u x/\RepL l r
end
end
noncomputable def Fu:List Str:=["first_heaviest","turns_from_the_highest"]
noncomputable def Lj(nm:Str):Str:=nm++(".<locals>." : Str)++("<lambda>" : Str)
noncomputable def LCode(H:Hp)(q:Str)(cv:aF):Prop:=∃ c oc vs t,cv = .ref c/\H c=some (.frz oc (.ext fun _=>True))/\oc.data = .fields vs/\vs[1]? = some (.str q t)
noncomputable def GoodTab(H:Hp)(P:Addr)(q:Str):Prop:=∃ ps,H P=some (.tbl ps)/\rQ ps.toList/\∀ pos cv,codeAmong pos ps.toList=some cv->LCode H q cv
variable {H H':Hp}
theorem GoodTab.keep{P:Addr}{q:Str}(hf:∀ b o u,H b=some (.frz o u)->H' b=some (.frz o u))(ht:∀ ps,H P=some (.tbl ps)->H' P=some (.tbl ps))(h:GoodTab H P q):GoodTab H' P q:=by
 obtain ⟨ps,e,tr,g⟩:=h
 refine ⟨ps,ht ps e,tr,fun pos cv ec=>?_⟩
 obtain ⟨c,oc,vs,t,e1,e2,r⟩:=g pos cv ec
 exact ⟨c,oc,vs,t,e1,hf _ _ _ e2,r⟩
noncomputable def Stay(H H':Hp):Prop:=(∀ b xs,H b=some (.tup xs)->H' b=some (.tup xs))/\∀ b o u,H b=some (.frz o u)->H' b=some (.frz o u)
theorem Stay.refl(H:Hp):Stay H H:=⟨fun _ _ q=>q,fun _ _ _ q=>q⟩
variable {H1 H2:Hp}
theorem Stay.trans(a:Stay H H1)(b:Stay H1 H2):Stay H H2:=⟨fun c xs q=>b.1 c xs (a.1 c xs q),fun c o u q=>b.2 c o u (a.2 c o u q)⟩
variable {K:aH}{a:Addr}{xs:List V}
theorem Stay.sqT(e:Stay H H')(h:SqT K H a xs):SqT K H' a xs:=by
 rcases h with (h | ⟨o,h⟩) | h
 ·exact .inl (.inl (e.1 _ _ h))
 ·exact .inl (.inr ⟨o,e.2 _ _ _ h⟩)
 ·exact .inr h
variable {p:Addr}
theorem Stay.new(h:H p=none)(o:HO):Stay H (upd H p o):=⟨fun b u q=>by rw[Aq (Ba q h)];exact q,fun b o u q=>by rw[Aq (Ba q h)];exact q⟩
variable {o:HO}
theorem Stay.write(h:H p=some o)(m:Mut (some o))(o':HO):Stay H (upd H p o'):=
 ⟨fun b u q=>by rw[Aq (Kp q h (fun z=>by subst z;exact m))];exact q,fun b w u q=>by rw[Aq (Kp q h (fun z=>by subst z;exact m))];exact q⟩
theorem Pe(h:H p=none)(o:HO):∀ b ps,H b=some (.tbl ps)->upd H p o b=some (.tbl ps):=fun b u q=>by rw[Aq (Ba q h)];exact q
theorem Acb(h:H p=some o)(m:Mut (some o))(o':HO):∀ b ps,H b=some (.tbl ps)->upd H p o' b=some (.tbl ps):=fun b u q=>by rw[Aq (Kp q h (fun z=>by subst z;exact m))];exact q
structure Gr(H:Hp)(α:List Addr)(H':Hp)(α':List Addr):Prop where
 pre:∃ β,α' = α ++ β
 st:Stay H H'
theorem Gr.refl(H:Hp)(α:List Addr):Gr H α H α:=⟨⟨[],by simp⟩,.refl H⟩
variable {α:List Addr}
theorem Gr.trans{α1 α2:List Addr}(a:Gr H α H1 α1)(b:Gr H1 α1 H2 α2):Gr H α H2 α2:=by
 obtain ⟨⟨β,e⟩,s⟩:=a
 obtain ⟨⟨γ,e'⟩,s'⟩:=b
 exact ⟨⟨β ++ γ,by rw[e',e,dP]⟩,s.trans s'⟩
variable {α':List Addr}{n:Nat}
theorem Gr.at(g:Gr H α H' α')(h:α[n]? = some a):α'[n]? = some a:=by
 obtain ⟨β,e⟩:=g.pre
 have hn:n < α.length:=(aJ.mp h).1
 rw[e,bK hn];exact h
variable {l:List U}{i:Nat}{x:V}{u:U}
section
mutual
theorem RepU.mono(g:Gr H α H' α'):∀ (u:U) (v:V),RepU K H α u v->RepU K H' α' u v
 | .non,_,h=>h
 | .bl _,_,h=>h
 | .int _,_,h=>h
 | .str _,_,h=>h
 | .tup l,v,h=>by
  unfold RepU at h ⊢
  obtain ⟨a,xs,e,s,r⟩:=h
  exact ⟨a,xs,e,g.st.sqT s,RepL.mono g l xs r⟩
 | .ref n,v,h=>by
  unfold RepU at h ⊢
  obtain ⟨a,e,q⟩:=h
  exact ⟨a,g.at e,q⟩
theorem RepL.mono(g:Gr H α H' α'):∀ (l:List U) (xs:List V),RepL K H α l xs->RepL K H' α' l xs
 | [],xs,h=>h
 | u::l,xs,h=>by
  unfold RepL at h ⊢
  obtain ⟨x,r,e,h1,h2⟩:=h
  exact ⟨x,r,e,RepU.mono g u x h1,RepL.mono g l r h2⟩
end
theorem RepL.length:∀ {l:List U} {xs:List V},RepL K H α l xs->l.length=xs.length
 | [],xs,h=>by unfold RepL at h;subst h;rfl
 | u::l,xs,h=>by
  unfold RepL at h
  obtain ⟨x,r,e,_,h2⟩:=h
  subst e
  simp[RepL.length h2]
theorem RepL.get:∀ {l:List U} {xs:List V} {i:Nat} {u:U},RepL K H α l xs->l[i]? = some u->∃ x,xs[i]? = some x/\RepU K H α u x
 | [],xs,i,u,h,e=>by simp at e
 | w::l,xs,i,u,h,e=>by
  unfold RepL at h
  obtain ⟨x,r,e',h1,h2⟩:=h
  subst e'
  cases i with
  | zero=>simp at e;subst e;exact ⟨x,rfl,h1⟩
  | succ i=>simpa using RepL.get (i:=i) h2 (by simpa using e)
theorem RepL.get'(h:RepL K H α l xs)(e:xs[i]? = some x):∃ u,l[i]? = some u/\RepU K H α u x:=by
 have hi:i < l.length:=by rw[h.length];exact (aJ.mp e).1
 obtain ⟨y,e2,r⟩:=h.get (aI hi)
 rw[e] at e2;cases e2
 exact ⟨_,aI hi,r⟩
theorem RepL.nil:RepL K H α [] []:=by unfold RepL;rfl
theorem RepL.cons(h:RepU K H α u x)(t:RepL K H α l xs):RepL K H α (u::l) (x::xs):=by
 unfold RepL;exact ⟨x,xs,rfl,h,t⟩
theorem RepL.append:∀ {l l':List U} {xs ys:List V},RepL K H α l xs->RepL K H α l' ys->RepL K H α (l++l') (xs++ys)
 | [],l',xs,ys,h,t=>by unfold RepL at h;subst h;exact t
 | u::l,l',xs,ys,h,t=>by
  unfold RepL at h
  obtain ⟨x,r,e,h1,h2⟩:=h
  subst e
  exact .cons h1 (RepL.append h2 t)
theorem RepL.take:∀ {l:List U} {xs:List V} (n:Nat),RepL K H α l xs->RepL K H α (l.take n) (xs.take n)
 | [],xs,n,h=>by unfold RepL at h;subst h;simp[RepL.nil]
 | u::l,xs,0,h=>by simp[RepL.nil]
 | u::l,xs,n+1,h=>by
  unfold RepL at h
  obtain ⟨x,r,e,h1,h2⟩:=h
  subst e
  exact .cons h1 (RepL.take n h2)
theorem RepL.drop:∀ {l:List U} {xs:List V} (n:Nat),RepL K H α l xs->RepL K H α (l.drop n) (xs.drop n)
 | [],xs,n,h=>by unfold RepL at h;subst h;simp[RepL.nil]
 | u::l,xs,0,h=>h
 | u::l,xs,n+1,h=>by
  unfold RepL at h
  obtain ⟨x,r,e,h1,h2⟩:=h
  subst e
  exact RepL.drop n h2
theorem RepL.set(q:RepU K H α u x):∀ {l:List U} {xs:List V} (n:Nat),RepL K H α l xs->RepL K H α (l.set n u) (xs.set n x)
 | [],xs,n,h=>by unfold RepL at h;subst h;exact .nil
 | w::l,xs,0,h=>by
  unfold RepL at h
  obtain ⟨y,r,e,h1,h2⟩:=h
  subst e
  exact .cons q h2
 | w::l,xs,n+1,h=>by
  unfold RepL at h
  obtain ⟨y,r,e,h1,h2⟩:=h
  subst e
  exact .cons h1 (RepL.set q n h2)
theorem RepL.erase:∀ {l:List U} {xs:List V} (n:Nat),RepL K H α l xs->RepL K H α (l.eraseIdx n) (xs.eraseIdx n)
 | [],xs,n,h=>by unfold RepL at h;subst h;exact .nil
 | w::l,xs,0,h=>by
  unfold RepL at h
  obtain ⟨y,r,e,h1,h2⟩:=h
  subst e
  exact h2
 | w::l,xs,n+1,h=>by
  unfold RepL at h
  obtain ⟨y,r,e,h1,h2⟩:=h
  subst e
  exact .cons h1 (RepL.erase n h2)
theorem RepL.reverse:∀ {l:List U} {xs:List V},RepL K H α l xs->RepL K H α l.reverse xs.reverse
 | [],xs,h=>by unfold RepL at h;subst h;exact .nil
 | w::l,xs,h=>by
  unfold RepL at h
  obtain ⟨y,r,e,h1,h2⟩:=h
  subst e
  rw[eJ,eJ]
  exact (RepL.reverse h2).append (.cons h1 .nil)
theorem RepL.ints:∀ (ns:List Int),RepL K H α (ns.map U.int) (ns.map V.int)
 | []=>.nil
 | n::r=>.cons rfl (RepL.ints r)
end
noncomputable def RO(K:aH)(H:Hp)(a:Addr)(xs:List V):Prop:=
 (∃ o,H a=some (.frz o (.lst xs)))\/∃ (o:Obj) (its:Array aF) (n:Nat),K.lookup a=some o/\o.cls = .type "list" /\ o.dict=none/\o.data = .seq its n/\its.size<=sizeLine/\Vals xs its.toList
theorem RO.sq(h:RO K H a xs):SqL K H a xs:=by
 rcases h with ⟨o,h⟩ | h
 ·exact .inl (.inr ⟨o,h⟩)
 ·exact .inr h
theorem RO.stay(st:Stay H H')(h:RO K H a xs):RO K H' a xs:=by
 rcases h with ⟨o,h⟩ | h
 ·exact .inl ⟨o,st.2 _ _ _ h⟩
 ·exact .inr h
noncomputable def Ant(a Ca:Addr)(dd:Option Addr)(fr:Bool)(h:Heap):Prop:=∃ (o:Obj) (vs:Array aF),h.get? a=some o/\o.cls = .ref Ca/\o.dict=dd/\o.data = .fields vs/\1 < vs.size/\o.slots=#[]/\(fr=true->vs[1]? = some .none)
noncomputable def DictIs(H:Hp)(dd:Option Addr)(vs:List (Str×V)):Prop:=match dd with
 | none=>vs=[]
 | some dx=>vs≠[]/\∃ od,H dx=some (.frz od (.xd vs))
theorem DictIs.stay{dd:Option Addr}{vs:List (Str×V)}(st:∀ b o ws,H b=some (.frz o (.xd ws))->H' b=some (.frz o (.xd ws)))(h:DictIs H dd vs):DictIs H' dd vs:=by
 cases dd with
 | none=>exact h
 | some dx=>obtain ⟨ne,od,q⟩:=h;exact ⟨ne,od,st _ _ _ q⟩
noncomputable def HRep(K:aH)(H:Hp)(α:List Addr)(a:Addr):HU->Prop
 | .lst us=>∃ xs,H a=some (.lst xs)/\RepL K H α us xs
 | .ro us=>∃ xs,RO K H a xs/\RepL K H α us xs
 | .dic kvs=>∃ vs,H a=some (.dK vs)/\kvs.map (·.1)=vs.map (·.1)/\RepL K H α (kvs.map (·.2)) (vs.map (·.2))
 | .rod kvs=>∃ o vs,H a=some (.frz o (.dK vs))/\kvs.map (·.1)=vs.map (·.1)/\RepL K H α (kvs.map (·.2)) (vs.map (·.2))
 | .ins C fs=>∃ Ca dx vs,bM K bI C=some (some (.ref Ca))/\H a=some (.ins Ca dx vs)/\fs.map (·.1)=vs.map (·.1)/\RepL K H α (fs.map (·.2)) (vs.map (·.2))
 | .exc C fr fs=>∃ Ca dd vs,bM K bI C=some (some (.ref Ca))/\H a=some (.ext (Ant a Ca dd fr))/\DictIs H dd vs/\fs.map (·.1)=vs.map (·.1)/\RepL K H α (fs.map (·.2)) (vs.map (·.2))
noncomputable def HU.isRo:HU->Bool
 | .ro _=>true
 | _=>false
structure Abs(K:aH)(H:Hp)(α:List Addr)(L:UH):Prop where
 len:α.length=L.length
 inj:∀ (i j:Nat) (a:Addr) (o o':HU),α[i]? = some a->α[j]? = some a->L[i]? = some o->L[j]? = some o'->i=j\/o.isRo=true\/o'.isRo=true
 rep:∀ (i:Nat) (a:Addr) (o:HU),α[i]? = some a->L[i]? = some o->HRep K H α a o
 tab:∀ nm∈Fu,∀ c P,dF K nm=some (c,P)->GoodTab H P (Lj nm)
variable {L:UH}
theorem Abs.tabs(A:Abs K H α L)(g:Stay H H')(ht:∀ b ps,H b=some (.tbl ps)->H' b=some (.tbl ps)):∀ nm∈Fu,∀ c P,dF K nm=some (c,P)->GoodTab H' P (Lj nm):=fun nm h c P e=>(A.tab nm h c P e).keep g.2 (ht P)
theorem Abs.addr(A:Abs K H α L){o:HU}(h:L[n]? = some o):∃ a,α[n]? = some a/\HRep K H α a o:=by
 have hn:n < α.length:=by rw[A.len];exact (aJ.mp h).1
 exact ⟨α[n],aI hn,A.rep n _ o (aI hn) h⟩
theorem HRep.other{o:HU}(g:Gr H α H' α')(hs:o.isRo=true\/∀ u,H a=some u->H' a=some u)(h:HRep K H α a o):HRep K H' α' a o:=by
 cases o with
 | lst us=>obtain ⟨xs,e,r⟩:=h;exact ⟨xs,(hs.resolve_left (by simp[HU.isRo])) _ e,r.mono g⟩
 | ro us=>obtain ⟨xs,e,r⟩:=h;exact ⟨xs,e.stay g.st,r.mono g⟩
 | dic kvs=>obtain ⟨vs,e,k,r⟩:=h;exact ⟨vs,(hs.resolve_left (by simp[HU.isRo])) _ e,k,r.mono g⟩
 | rod kvs=>obtain ⟨o,vs,e,k,r⟩:=h;exact ⟨o,vs,(hs.resolve_left (by simp[HU.isRo])) _ e,k,r.mono g⟩
 | ins C fs=>obtain ⟨Ca,dx,vs,n,e,k,r⟩:=h;exact ⟨Ca,dx,vs,n,(hs.resolve_left (by simp[HU.isRo])) _ e,k,r.mono g⟩
 | exc C fr fs=>obtain ⟨Ca,dd,vs,n,e,d,k,r⟩:=h;exact ⟨Ca,dd,vs,n,(hs.resolve_left (by simp[HU.isRo])) _ e,d.stay fun b o ws q=>g.st.2 b o _ q,k,r.mono g⟩
theorem HRep.some{o:HU}(h:HRep K H α a o)(n:o.isRo=false):∃ u,H a=some u:=by
 cases o with
 | lst us=>obtain ⟨xs,e,r⟩:=h;exact ⟨_,e⟩
 | ro us=>simp[HU.isRo] at n
 | dic kvs=>obtain ⟨vs,e,k,r⟩:=h;exact ⟨_,e⟩
 | rod kvs=>obtain ⟨o,vs,e,k,r⟩:=h;exact ⟨_,e⟩
 | ins C fs=>obtain ⟨Ca,dx,vs,n',e,k,r⟩:=h;exact ⟨_,e⟩
 | exc C fr fs=>obtain ⟨Ca,dd,vs,n',e,k,r⟩:=h;exact ⟨_,e⟩
theorem Abs.new{u:HU}(A:Abs K H α L)(hp:H p=none)(hr:HRep K (upd H p o) (α ++ [p]) p u) :
  Abs K (upd H p o) (α ++ [p]) (L++[u])/\Gr H α (upd H p o) (α ++ [p]):=by
 have g:Gr H α (upd H p o) (α ++ [p]):=⟨⟨[p],rfl⟩,.new hp o⟩
 have hl:=A.len
 refine ⟨⟨by simp[hl],fun i j a o1 o2 e1 e2 e3 e4=>?_,fun i a o1 e1 e2=>?_,A.tabs g.st (Pe hp o)⟩,g⟩
 ·have fresh:∀ (k:Nat) (o3:HU),α[k]? = some p->L[k]? = some o3->o3.isRo=true:=fun k o3 q1 q2=>by
   cases hh:o3.isRo with
   | true=>rfl
   | false=>
    obtain ⟨u3,q⟩:=(A.rep k p o3 q1 q2).some hh
    rw[hp] at q;cases q
  by_cases hi:i < α.length
  ·rw[bK hi] at e1
   rw[bK (by omega)] at e3
   by_cases hj:j < α.length
   ·rw[bK hj] at e2
    rw[bK (by omega)] at e4
    exact A.inj i j a o1 o2 e1 e2 e3 e4
   ·rw[cV (by omega)] at e2
    have:a=p:=by
     cases hk:j - α.length with
     | zero=>rw[hk] at e2;simp at e2;exact e2.symm
     | succ k=>rw[hk] at e2;simp at e2
    subst this
    exact .inr (.inl (fresh i o1 e1 e3))
  ·rw[cV (by omega)] at e1
   have hia:a=p/\i = α.length:=by
    cases hk:i - α.length with
    | zero=>rw[hk] at e1;simp at e1;exact ⟨e1.symm,by omega⟩
    | succ k=>rw[hk] at e1;simp at e1
   obtain ⟨rfl,hi'⟩:=hia
   by_cases hj:j < α.length
   ·rw[bK hj] at e2
    rw[bK (by omega)] at e4
    exact .inr (.inr (fresh j o2 e2 e4))
   ·rw[cV (by omega)] at e2
    have:j = α.length:=by
     cases hk:j - α.length with
     | zero=>omega
     | succ k=>rw[hk] at e2;simp at e2
    exact .inl (by omega)
 ·by_cases hi:i < α.length
  ·rw[bK hi] at e1
   rw[bK (by omega)] at e2
   refine (A.rep i a o1 e1 e2).other g ?_
   exact .inr fun u3 q=>by rw[Aq (Ba q hp)];exact q
  ·rw[cV (by omega)] at e1
   rw[cV (by omega)] at e2
   have h1:i - α.length=0:=by
    cases hk:i - α.length with
    | zero=>rfl
    | succ k=>rw[hk] at e1;simp at e1
   rw[h1] at e1
   rw[show i - L.length=0 by omega] at e2
   simp at e1 e2
   subst e1;subst e2
   exact hr
theorem Abs.put{o0:HO}{u0 u:HU}(A:Abs K H α L)(hn:α[n]? = some p)(hL:L[n]? = some u0)(hro:u0.isRo=false)(hro':u.isRo=false)(hp:H p=some o0)(hm:Mut (some o0))(hr:HRep K (upd H p o) α p u) :
  Abs K (upd H p o) α (L.set n u)/\Gr H α (upd H p o) α:=by
 have g:Gr H α (upd H p o) α:=⟨⟨[],by simp⟩,.write hp hm o⟩
 have hl:=A.len
 have hlt:n < L.length:=(aJ.mp hL).1
 have look:∀ (i:Nat) (o1:HU),(L.set n u)[i]? = some o1->∃ o2,L[i]? = some o2/\o2.isRo=o1.isRo/\(i≠n->o2=o1):=fun i o1 e=>by
  by_cases hi:n=i
  ·subst hi
   rw[bQ hlt] at e
   cases e
   exact ⟨u0,hL,by rw[hro,hro'],fun z=>absurd rfl z⟩
  ·rw[bR hi] at e
   exact ⟨o1,e,rfl,fun _=>rfl⟩
 refine ⟨⟨by simp[hl],fun i j a o1 o2 e1 e2 e3 e4=>?_,fun i a o1 e1 e2=>?_,A.tabs g.st (Acb hp hm o)⟩,g⟩
 ·obtain ⟨x1,q1,r1,_⟩:=look i o1 e3
  obtain ⟨x2,q2,r2,_⟩:=look j o2 e4
  rw[<- r1,<- r2]
  exact A.inj i j a x1 x2 e1 e2 q1 q2
 ·by_cases hi:n=i
  ·subst hi
   rw[bQ hlt] at e2
   cases e2
   rw[hn] at e1;cases e1
   exact hr
  ·rw[bR hi] at e2
   refine (A.rep i a o1 e1 e2).other g ?_
   by_cases hap:a=p
   ·subst hap
    rcases A.inj i n a o1 u0 e1 hn e2 hL with z | z | z
    ·exact absurd z.symm hi
    ·exact .inl z
    ·rw[hro] at z;cases z
   ·exact .inr fun u3 q=>by rw[Aq hap];exact q
structure RepS(K:aH)(H:Hp)(α:List Addr)(δ:UE)(σ:L2.St):Prop where
 len:δ.length = σ.length
 at_:∀ (i:Nat) (u:U),δ[i]? = some (some u)->∃ v,σ[i]? = some (some v)/\RepU K H α u v
variable {δ:UE}{σ:L2.St}
theorem RepS.mono(g:Gr H α H' α')(h:RepS K H α δ σ):RepS K H' α' δ σ:=
 ⟨h.len,fun i u e=>let ⟨v,q,r⟩:=h.at_ i u e;⟨v,q,r.mono g⟩⟩
theorem RepS.set(h:RepS K H α δ σ)(i:Nat){v:V}(r:RepU K H α u v):RepS K H α (δ.set i (some u)) (σ.set i (some v)):=
 ⟨by simp[h.len],fun j w e=>by
  by_cases hj:i=j
  ·subst hj
   by_cases hi:i < δ.length
   ·rw[bQ hi] at e
    cases e
    exact ⟨v,bQ (by rw[<- h.len];exact hi),r⟩
   ·rw[eR (by simpa using hi)] at e;cases e
  ·rw[bR hj] at e
   obtain ⟨v',q,r'⟩:=h.at_ j w e
   exact ⟨v',by rw[bR hj];exact q,r'⟩⟩
variable {us:List U}
theorem RepS.start(N:List Str){vs:List V}(h:RepL K H α us vs):RepS K H α (us.map some++bJ (N.length - us.length) none) (start N vs):=by
 have hl:=h.length
 refine ⟨by simp[L2.start,hl],fun i u e=>?_⟩
 by_cases hi:i < us.length
 ·rw[bK (by simpa using hi),bO] at e
  cases q:us[i]? with
  | none=>rw[q] at e;simp at e
  | some w=>
   rw[q] at e
   simp at e
   subst e
   obtain ⟨x,e2,r⟩:=h.get q
   refine ⟨x,?_,r⟩
   unfold L2.start
   rw[bK (by simp;omega),bO,e2];rfl
 ·rw[cV (by simpa using hi)] at e
  have:=bV e
  simp at this
abbrev FE:=UE->UH->Option (U×UH)
abbrev FT:=UE->UH->Option (Bool×UH)
abbrev FA:=UE->UH->Option (List U×UH)
inductive lE(K:aH)(f:FE)(σ:L2.St)(H:Hp)(Q:VK):Prop
 | mk (α:List Addr) (δ:UE) (L:UH) (A:Abs K H α L) (S:RepS K H α δ σ) (u:U) (L':UH) (e:f δ L=some (u,L')) (q:∀ v H' α',Gr H α H' α'->Abs K H' α' L'->RepU K H' α' u v->Q v H'):lE K f σ H Q
inductive lT(K:aH)(f:FT)(σ:L2.St)(H:Hp)(Q:Bool->Hp->Prop):Prop
 | mk (α:List Addr) (δ:UE) (L:UH) (A:Abs K H α L) (S:RepS K H α δ σ) (b:Bool) (L':UH) (e:f δ L=some (b,L')) (q:∀ H' α',Gr H α H' α'->Abs K H' α' L'->Q b H'):lT K f σ H Q
inductive lA(K:aH)(f:FA)(σ:L2.St)(H:Hp)(Q:List V->Hp->Prop):Prop
 | mk (α:List Addr) (δ:UE) (L:UH) (A:Abs K H α L) (S:RepS K H α δ σ) (us:List U) (L':UH) (e:f δ L=some (us,L')) (q:∀ vs H' α',Gr H α H' α'->Abs K H' α' L'->RepL K H' α' us vs->Q vs H'):lA K f σ H Q
noncomputable def PEF(X:Cx)(e:Expr)(f:FE):Prop:=PE X e (lE X.K f)
noncomputable def PTF(X:Cx)(e:Expr)(f:FT):Prop:=PT X e (lT X.K f)
noncomputable def PWF(X:Cx)(e:Expr)(f:FT):Prop:=PW X e (lT X.K f)
noncomputable def PAF(X:Cx)(es:List Expr)(f:FA):Prop:=PA X es (lA X.K f)
variable {X:Cx}{e:Expr}{es:List Expr}
section
theorem PE.imp{t t':TE}(h:PE X e t)(hi:∀ σ H Q,t' σ H Q->t σ H Q):PE X e t':=fun pins s σ H Q I q=>h pins s σ H Q I (hi σ H Q q)
theorem PT.imp{t t':TT}(h:PT X e t)(hi:∀ σ H Q,t' σ H Q->t σ H Q):PT X e t':=fun pins s σ H Q I q=>h pins s σ H Q I (hi σ H Q q)
theorem PW.imp{t t':TT}(h:PW X e t)(hi:∀ σ H Q,t' σ H Q->t σ H Q):PW X e t':=fun wh pins s σ H Q I q=>h wh pins s σ H Q I (hi σ H Q q)
theorem PA.imp{t t':TA}(h:PA X es t)(hi:∀ σ H Q,t' σ H Q->t σ H Q):PA X es t':=fun pos pins s σ H Q I q=>h pos pins s σ H Q I (hi σ H Q q)
end
noncomputable def Ad(i:Nat):FE:=fun δ L=>(δ[i]?).join.map fun u=>(u,L)
noncomputable def fC(u:U):FE:=fun _ L=>some (u,L)
variable {b c:Expr}{pos:Pos}{r:R2}{sem:S2}{fa fb f:FE}{op:CmpOp}
section
variable {a:Expr}
theorem Ag(i:Nat){x:Str}(hN:X.N[i]? = some x:=by rfl)(hv:Vis X.env.scope x:=by first | exact pA rfl | exact mW (pA rfl) | exact mW (mW rfl))
  (hd:(x == ("__debug__" : Str))=false:=by decide) (hcd:(x == ("__classdict__" : Str))=false:=by decide):PEF X (.Name x pos) (Ad i):=by
 refine PE.imp (Afe hN hv hd hcd) ?_
 rintro σ H Q ⟨α,δ,L,A,S,u,L',e,q⟩
 unfold Ad at e
 cases h:δ[i]? with
 | none=>rw[h] at e;simp at e
 | some o=>
  cases o with
  | none=>rw[h] at e;simp at e
  | some w=>
   rw[h] at e
   simp at e
   obtain ⟨rfl,rfl⟩:=e
   obtain ⟨v,hv,r⟩:=S.at_ i w h
   exact ⟨v,hv,q v H α (.refl _ _) A r⟩
theorem Aim{v:V}(h:PE X e (tC v))(r:∀ H α,RepU X.K H α u v):PEF X e (fC u):=by
 refine PE.imp h ?_
 rintro σ H Q ⟨α,δ,L,A,S,w,L',e,q⟩
 unfold fC at e
 cases e
 exact q v H α (.refl _ _) A (r H α)
theorem Ai{i:Int}{j pos}:PEF X (.Constant (.int i) j pos) (fC (.int i)):=Aim Am3 fun _ _=>rfl
theorem Tr{b:Bool}{j pos}:PEF X (.Constant (.bool b) j pos) (fC (.bl b)):=Aim Akc fun _ _=>rfl
theorem Ag3{j pos}:PEF X (.Constant .none j pos) (fC .non):=Aim Amf fun _ _=>rfl
theorem Ez{x:Str}{j pos}:PEF X (.Constant (.str x) j pos) (fC (.str x)):=Aim Aly fun _ _=>rfl
abbrev S2:=U->U->UH->Option (U×UH)
noncomputable def C1(K:aH)(r:R2)(sem:S2):Prop:=∀ (H:Hp) (α:List Addr) (L:UH) (u w:U) (x y:V) (z:U) (L':UH) (Q:VK),Abs K H α L->RepU K H α u x->RepU K H α w y->sem u w L=some (z,L') ->
 (∀ v H' α',Gr H α H' α'->Abs K H' α' L'->RepU K H' α' z v->Q v H')->r x y H Q
noncomputable def f2(sem:S2)(fa fb:FE):FE:=fun δ L=>(fa δ L).bind fun p=>(fb δ p.2).bind fun q=>sem p.1 q.1 q.2
theorem Yx(h:C1 K r sem):∀ σ H Q,lE K (f2 sem fa fb) σ H Q->tOp r (lE K fa) (lE K fb) σ H Q:=by
 rintro σ H Q ⟨α,δ,L,A,S,z,L3,e,q⟩
 obtain ⟨⟨u,L1⟩,e1,e⟩:=aB.mp e
 obtain ⟨⟨w,L2⟩,e2,e3⟩:=aB.mp e
 refine ⟨α,δ,L,A,S,u,L1,e1,fun x H1 α1 g1 A1 r1=>⟨α1,δ,L1,A1,S.mono g1,w,L2,e2,fun y H2 α2 g2 A2 r2=>?_⟩⟩
 exact h H2 α2 L2 u w x y z L3 Q A2 (r1.mono g2) r2 e3 fun v H3 α3 g3 A3 r3=>q v H3 α3 (g1.trans (g2.trans g3)) A3 r3
theorem Bb{op:Operator}(ho:OpR X (fX op) r)(h:C1 X.K r sem)(ha:PEF X a fa)(hb:PEF X b fb):PEF X (.BinOp a op b pos) (f2 sem fa fb):=PE.imp (Ang ho ha hb) (Yx h)
theorem Js(ho:OpR X (eE op) r)(h:C1 X.K r sem)(ha:PEF X a fa)(hb:PEF X b fb)(hm:behindInMarks op b=false):PEF X (.Compare a [op] [b] pos) (f2 sem fa fb):=PE.imp (Ai2 ho ha hb hm) (Yx h)
noncomputable def Bl(f:FE):FT:=fun δ L=>(f δ L).bind fun p=>match p.1 with | .bl k=>some (k,p.2) | _=>none
theorem Abm{t:TE}(ht:∀ σ H Q,lE K f σ H Q->t σ H Q):∀ σ H Q,lT K (Bl f) σ H Q->Afj t σ H Q:=by
 rintro σ H Q ⟨α,δ,L,A,S,b,L1,e,q⟩
 obtain ⟨⟨u,L2⟩,e1,e⟩:=aB.mp e
 refine ht σ H _ ⟨α,δ,L,A,S,u,L2,e1,fun x H1 α1 g1 A1 r1=>?_⟩
 cases u with
 | bl k=>simp at e;obtain ⟨rfl,rfl⟩:=e;exact ⟨k,r1,q H1 α1 g1 A1⟩
 | _=>simp at e
theorem Bw(ho:OpR X (eE op) r)(h:C1 X.K r sem)(ha:PEF X a fa)(hb:PEF X b fb)(hm:behindInMarks op b=false):PTF X (.Compare a [op] [b] pos) (Bl (f2 sem fa fb)):=PT.imp (Ah0 ho ha hb hm) (Abm (Yx h))
end
variable {g:FA}
section
variable {a:Expr}{rest:List Expr}
noncomputable def Ou(f g:FT):FT:=fun δ L=>(f δ L).bind fun p=>if p.1=true then g δ p.2 else some (false,p.2)
noncomputable def fOr(f g:FT):FT:=fun δ L=>(f δ L).bind fun p=>if p.1=true then some (true,p.2) else g δ p.2
noncomputable def Uo(f:FT):FT:=fun δ L=>(f δ L).map fun p=>(!p.1,p.2)
noncomputable def Ri(f g:FE):FE:=fun δ L=>(f δ L).bind fun p=>match p.1 with | .bl k=>if k=true then g δ p.2 else some (.bl false,p.2) | _=>none
noncomputable def Apj(f g:FE):FE:=fun δ L=>(f δ L).bind fun p=>match p.1 with | .bl k=>if k=true then some (.bl true,p.2) else g δ p.2 | _=>none
noncomputable def Afb(f:FE):FE:=fun δ L=>(f δ L).bind fun p=>match p.1 with | .bl k=>some (.bl (!k),p.2) | _=>none
noncomputable def fIf(c:FT)(f g:FE):FE:=fun δ L=>(c δ L).bind fun p=>if p.1=true then f δ p.2 else g δ p.2
theorem Nb{f:FT}(ha:PTF X a f):PWF X (.BoolOp .And [a] pos) f:=Ait ha
theorem Abd{f:FT}(ha:PTF X a f):PWF X (.BoolOp .Or [a] pos) f:=Alw ha
theorem O9{f g:FT}(ha:PTF X a f)(hb:PWF X (.BoolOp .And (b::rest) pos) g):PWF X (.BoolOp .And (a::b::rest) pos) (Ou f g):=by
 refine PW.imp (Alr ha hb) ?_
 rintro σ H Q ⟨α,δ,L,A,S,z,L3,e,q⟩
 obtain ⟨⟨u,L1⟩,e1,e⟩:=aB.mp e
 refine ⟨α,δ,L,A,S,u,L1,e1,fun H1 α1 g1 A1=>?_⟩
 cases u with
 | true=>exact X5 ⟨α1,δ,L1,A1,S.mono g1,z,L3,e,fun H2 α2 g2 A2=>q H2 α2 (g1.trans g2) A2⟩
 | false=>cases e;exact Xg (q H1 α1 g1 A1)
theorem Afq{f g:FT}(ha:PTF X a f)(hb:PWF X (.BoolOp .Or (b::rest) pos) g):PWF X (.BoolOp .Or (a::b::rest) pos) (fOr f g):=by
 refine PW.imp (Aoq ha hb) ?_
 rintro σ H Q ⟨α,δ,L,A,S,z,L3,e,q⟩
 obtain ⟨⟨u,L1⟩,e1,e⟩:=aB.mp e
 refine ⟨α,δ,L,A,S,u,L1,e1,fun H1 α1 g1 A1=>?_⟩
 cases u with
 | false=>exact Xg ⟨α1,δ,L1,A1,S.mono g1,z,L3,e,fun H2 α2 g2 A2=>q H2 α2 (g1.trans g2) A2⟩
 | true=>cases e;exact X5 (q H1 α1 g1 A1)
theorem PWF.pt{f:FT}(h:PWF X e f):PTF X e f:=PW.pt h
theorem Pj{f:FT}(ha:PTF X a f):PTF X (.UnaryOp .Not a pos) (Uo f):=by
 refine PT.imp (Akz ha) ?_
 rintro σ H Q ⟨α,δ,L,A,S,z,L3,e,q⟩
 obtain ⟨⟨u,L1⟩,e1,e⟩:=aG.mp e
 cases e
 exact ⟨α,δ,L,A,S,u,L1,e1,fun H1 α1 g1 A1=>q H1 α1 g1 A1⟩
theorem Tz{op}(h:PEF X a f):PEF X (.BoolOp op [a] pos) f:=Ald h
theorem Qp{g:FE}(ha:PEF X a f)(hb:PEF X (.BoolOp .And (b::rest) pos) g):PEF X (.BoolOp .And (a::b::rest) pos) (Ri f g):=by
 refine PE.imp (Ako ha hb) ?_
 rintro σ H Q ⟨α,δ,L,A,S,z,L3,e,q⟩
 obtain ⟨⟨u,L1⟩,e1,e⟩:=aB.mp e
 refine ⟨α,δ,L,A,S,u,L1,e1,fun v H1 α1 g1 A1 r1=>?_⟩
 cases u with
 | bl k=>
  cases k with
  | true=>exact ⟨true,r1,X5 ⟨α1,δ,L1,A1,S.mono g1,z,L3,e,fun v H2 α2 g2 A2 r=>q v H2 α2 (g1.trans g2) A2 r⟩⟩
  | false=>cases e;exact ⟨false,r1,Xg (q _ H1 α1 g1 A1 rfl)⟩
 | _=>simp at e
theorem Al1(ha:PEF X a f):PEF X (.UnaryOp .Not a pos) (Afb f):=by
 refine PE.imp (Amu ha) ?_
 rintro σ H Q ⟨α,δ,L,A,S,z,L3,e,q⟩
 obtain ⟨⟨u,L1⟩,e1,e⟩:=aB.mp e
 refine ⟨α,δ,L,A,S,u,L1,e1,fun v H1 α1 g1 A1 r1=>?_⟩
 cases u with
 | bl k=>cases e;exact ⟨k,r1,q _ H1 α1 g1 A1 rfl⟩
 | _=>simp at e
noncomputable def Af:FA:=fun _ L=>some ([],L)
noncomputable def Aa(f:FE)(g:FA):FA:=fun δ L=>(f δ L).bind fun p=>(g δ p.2).map fun q=>(p.1::q.1,q.2)
theorem Ae:PAF X [] Af:=by
 refine PA.imp Xx ?_
 rintro σ H Q ⟨α,δ,L,A,S,z,L3,e,q⟩
 cases e
 exact q [] H α (.refl _ _) A .nil
theorem Ac(ha:PEF X e f)(hr:PAF X es g)(hs:bS (e::es) X.env=(false,eval e X.env)::bS es X.env:=by rfl):PAF X (e::es) (Aa f g):=by
 refine PA.imp (Pb ha hr hs) ?_
 rintro σ H Q ⟨α,δ,L,A,S,z,L3,e,q⟩
 obtain ⟨⟨u,L1⟩,e1,e⟩:=aB.mp e
 obtain ⟨⟨us,L2⟩,e2,e⟩:=aG.mp e
 cases e
 exact ⟨α,δ,L,A,S,u,L1,e1,fun x H1 α1 g1 A1 r1=>⟨α1,δ,L1,A1,S.mono g1,us,L2,e2,fun xs H2 α2 g2 A2 r2=>q (x::xs) H2 α2 (g1.trans g2) A2 (.cons (r1.mono g2) r2)⟩⟩
noncomputable def small(n:Nat):Bool:=decide (n<=sizeLine)
noncomputable def Dz(g:FA):FE:=fun δ L=>(g δ L).bind fun p=>if small p.1.length=true then some (.tup p.1,p.2) else none
noncomputable def Cw(g:FA):FE:=fun δ L=>(g δ L).bind fun p=>if small p.1.length=true then some (.ref p.2.length,p.2++[.lst p.1]) else none
theorem E5(h:small n=true):n<=sizeLine:=of_decide_eq_true h
theorem Abs.tup(A:Abs K H α L)(r:RepL K H α us xs)(hp:H p=none) :
  Gr H α (upd H p (.tup xs)) α/\Abs K (upd H p (.tup xs)) α L/\RepU K (upd H p (.tup xs)) α (.tup us) (.ref p):=by
 have g:Gr H α (upd H p (.tup xs)) α:=⟨⟨[],by simp⟩,.new hp _⟩
 refine ⟨g,⟨A.len,A.inj,fun i a o e1 e2=>(A.rep i a o e1 e2).other g (.inr fun u q=>by rw[Aq (Ba q hp)];exact q),A.tabs g.st (Pe hp _)⟩,?_⟩
 unfold RepU
 exact ⟨p,xs,rfl,.of upd_same,r.mono g⟩
theorem Abs.lst(A:Abs K H α L)(r:RepL K H α us xs)(hp:H p=none) :
  Gr H α (upd H p (.lst xs)) (α ++ [p])/\Abs K (upd H p (.lst xs)) (α ++ [p]) (L++[.lst us])/\RepU K (upd H p (.lst xs)) (α ++ [p]) (.ref L.length) (.ref p):=by
 have g:Gr H α (upd H p (.lst xs)) (α ++ [p]):=⟨⟨[p],rfl⟩,.new hp _⟩
 obtain ⟨A',_⟩:=A.new (o:=.lst xs) (u:=.lst us) hp ⟨xs,upd_same,r.mono g⟩
 refine ⟨g,A',?_⟩
 unfold RepU
 exact ⟨p,by rw[<- A.len];simp,rfl⟩
theorem Cq{x1}(h:PAF X es g):PEF X (.Tuple es x1 pos) (Dz g):=by
 refine PE.imp (Akx h) ?_
 rintro σ H Q ⟨α,δ,L,A,S,z,L3,e,q⟩
 obtain ⟨⟨us,L1⟩,e1,e⟩:=aB.mp e
 refine ⟨α,δ,L,A,S,us,L1,e1,fun xs H1 α1 g1 A1 r1=>?_⟩
 simp only at e
 split at e
 ·rename_i hs
  cases e
  refine ⟨by rw[<- r1.length];exact E5 hs,fun p hp=>?_⟩
  obtain ⟨g2,A2,r2⟩:=A1.tup r1 hp
  exact q _ _ α1 (g1.trans g2) A2 r2
 ·cases e
theorem C4(h:PAF X es g):PEF X (.List es pos) (Cw g):=by
 refine PE.imp (Amz h) ?_
 rintro σ H Q ⟨α,δ,L,A,S,z,L3,e,q⟩
 obtain ⟨⟨us,L1⟩,e1,e⟩:=aB.mp e
 refine ⟨α,δ,L,A,S,us,L1,e1,fun xs H1 α1 g1 A1 r1=>?_⟩
 simp only at e
 split at e
 ·rename_i hs
  cases e
  refine ⟨by rw[<- r1.length];exact E5 hs,fun p hp=>?_⟩
  obtain ⟨g2,A2,r2⟩:=A1.lst r1 hp
  exact q _ _ _ (g1.trans g2) A2 r2
 ·cases e
abbrev SC:=List U->UH->Option (U×UH)
noncomputable def N3(K:aH)(r:List V->Hp->VK->Prop)(sem:SC):Prop:=∀ (H:Hp) (α:List Addr) (L:UH) (us:List U) (xs:List V) (z:U) (L':UH) (Q:VK),Abs K H α L->RepL K H α us xs->sem us L=some (z,L') ->
 (∀ v H' α',Gr H α H' α'->Abs K H' α' L'->RepU K H' α' z v->Q v H')->r xs H Q
noncomputable def Be(sem:SC)(g:FA):FE:=fun δ L=>(g δ L).bind fun p=>sem p.1 p.2
theorem Aka{r:List V->Hp->VK->Prop}{sem:SC}(h:N3 K r sem):∀ σ H Q,lE K (Be sem g) σ H Q->tCB r (lA K g) σ H Q:=by
 rintro σ H Q ⟨α,δ,L,A,S,z,L3,e,q⟩
 obtain ⟨⟨us,L1⟩,e1,e⟩:=aB.mp e
 exact ⟨α,δ,L,A,S,us,L1,e1,fun xs H1 α1 g1 A1 r1=>h H1 α1 L1 us xs z L3 Q A1 r1 e fun v H2 α2 g2 A2 r2=>q v H2 α2 (g1.trans g2) A2 r2⟩
variable {x:Str}{p:Pos}{id T:String}{r:List V->Hp->VK->Prop}{sem:SC}
theorem Bq(hc:CallR X (.builtin id) r)(h:N3 X.K r sem)(hg:Gl X x)(hm:X.mg x=none)(hv:fB x=some (.builtin id))(ha:PAF X (e::es) g)(hn:x ≠ "__name__" := by decide)(hdb:(x == ("__debug__" : Str))=false:=by decide)
  (he:bS (e::es) X.env=(false,eval e X.env)::bS es X.env:=by rfl) (hpl:(backTo pos (bS es X.env)).any (·.1)=false:=by rfl) :
  PEF X (.Call (.Name x p) (e::es) [] pos) (Be sem g):=PE.imp (Wn hc hg hm hv ha hn hdb he hpl) (Aka h)
theorem Hm(hc:CallR X (.type T) r)(h:N3 X.K r sem)(hg:Gl X x)(hm:X.mg x=none)(hv:fB x=some (.type T))(ha:PAF X (e::es) g)(hn:x ≠ "__name__" := by decide)(hdb:(x == ("__debug__" : Str))=false:=by decide)
  (he:bS (e::es) X.env=(false,eval e X.env)::bS es X.env:=by rfl) (hpl:(backTo pos (bS es X.env)).any (·.1)=false:=by rfl) :
  PEF X (.Call (.Name x p) (e::es) [] pos) (Be sem g):=PE.imp (Adj hc hg hm hv ha hn hdb he hpl) (Aka h)
abbrev SM:=U->List U->UH->Option (U×UH)
noncomputable def Uy(K:aH)(r:V->List V->Hp->VK->Prop)(sem:SM):Prop:=∀ (H:Hp) (α:List Addr) (L:UH) (u:U) (us:List U) (x:V) (xs:List V) (z:U) (L':UH) (Q:VK),Abs K H α L->RepU K H α u x->RepL K H α us xs->sem u us L=some (z,L') ->
 (∀ v H' α',Gr H α H' α'->Abs K H' α' L'->RepU K H' α' z v->Q v H')->r x xs H Q
noncomputable def tyU(T:String)(u:U)(L:UH):Bool:=match u with
 | .str _=>T == "str"
 | .int _=>T == "int"
 | .tup _=>T == "tuple"
 | .ref n=>match L[n]? with
  | some (.lst _)=>T == "list"
  | some (.ro _)=>T == "list"
  | some (.dic _)=>T == "dict"
  | _=>false
 | _=>false
theorem Ael{x:V}(A:Abs K H α L)(r:RepU K H α u x)(h:tyU T u L=true):tyV K T x H:=by
 cases u with
 | str y=>unfold RepU at r;subst r;simpa[tyU,tyV] using h
 | int i=>unfold RepU at r;subst r;simpa[tyU,tyV] using h
 | ref n=>
  unfold RepU at r
  obtain ⟨a,ea,rfl⟩:=r
  unfold tyU at h
  simp only at h
  cases q:L[n]? with
  | none=>rw[q] at h;simp at h
  | some o=>
   have hr:=A.rep n a o ea q
   rw[q] at h
   cases o with
   | lst us=>simp at h;obtain ⟨xs,e,_⟩:=hr;exact .inl ⟨h,xs,.of e⟩
   | ro us=>simp at h;obtain ⟨xs,e,_⟩:=hr;exact .inl ⟨h,xs,e.sq⟩
   | dic kvs=>simp at h;obtain ⟨vs,e,_⟩:=hr;exact .inr (.inr (.inl ⟨h,.inl ⟨vs,e⟩⟩))
   | rod kvs=>simp at h
   | ins C fs=>simp at h
   | exc C fr fs=>simp at h
 | non=>simp[tyU] at h
 | bl b=>simp[tyU] at h
 | tup l=>
  unfold RepU at r
  obtain ⟨a,ys,rfl,sq,_⟩:=r
  have hT:T = "tuple" := by simpa[tyU] using h
  exact .inr (.inl ⟨hT,ys,sq⟩)
noncomputable def Eu(T:String)(sem:SM)(f:FE)(g:FA):FE:=fun δ L=>(f δ L).bind fun p=>if tyU T p.1 p.2=true then (g δ p.2).bind fun q=>sem p.1 q.1 q.2 else none
theorem Aoc{r:V->List V->Hp->VK->Prop}{sem:SM}(h:Uy K r sem):∀ σ H Q,lE K (Eu T sem f g) σ H Q->tBM K T r (lE K f) (lA K g) σ H Q:=by
 rintro σ H Q ⟨α,δ,L,A,S,z,L3,e,q⟩
 obtain ⟨⟨u,L1⟩,e1,e⟩:=aB.mp e
 simp only at e
 split at e
 ·rename_i ht
  obtain ⟨⟨us,L2⟩,e2,e⟩:=aB.mp e
  refine ⟨α,δ,L,A,S,u,L1,e1,fun x H1 α1 g1 A1 r1=>⟨Ael A1 r1 ht,α1,δ,L1,A1,S.mono g1,us,L2,e2,fun xs H2 α2 g2 A2 r2=>?_⟩⟩
  exact h H2 α2 L2 u us x xs z L3 Q A2 (r1.mono g2) r2 e fun v H3 α3 g3 A3 r3=>q v H3 α3 (g1.trans (g2.trans g3)) A3 r3
 ·cases e
theorem Alu{r:V->List V->Hp->VK->Prop}{sem:SM}(h:Uy K r sem):∀ σ H Q,lE K (Eu T sem f Af) σ H Q->Aoz K T r (lE K f) σ H Q:=by
 rintro σ H Q ⟨α,δ,L,A,S,z,L3,e,q⟩
 obtain ⟨⟨u,L1⟩,e1,e⟩:=aB.mp e
 simp only at e
 split at e
 ·rename_i ht
  obtain ⟨⟨us,L2⟩,e2,e⟩:=aB.mp e
  cases e2
  refine ⟨α,δ,L,A,S,u,L1,e1,fun x H1 α1 g1 A1 r1=>⟨Ael A1 r1 ht,?_⟩⟩
  exact h H1 α1 L1 u [] x [] z L3 Q A1 r1 .nil e fun v H3 α3 g3 A3 r3=>q v H3 α3 (g1.trans g3) A3 r3
 ·cases e
section
variable {o:Expr}{name:Str}{apos cpos:Pos}{T id:String}{r:V->List V->Hp->VK->Prop}{sem:SM}
theorem Amn(pa:qA T)(slot:Slot T name id)(hty:typeOf (.builtin id)=pure (.type "method_descriptor"))(hm:MtR X id r)(h:Uy X.K r sem)(ho:PEF X o f)
  (hbase:attributeBase o name X.env (eval o X.env)=eval o X.env:=by rfl) (hline:(apos.endLine == cpos.line)=true:=by rfl):PEF X (.Call (.Attribute o name apos) [] [] cpos) (Eu T sem f Af):=
 PE.imp (Ak6 pa slot hty hm ho hbase hline) (Alu h)
theorem Oi(pa:qA T)(slot:Slot T name id)(hty:typeOf (.builtin id)=pure (.type "method_descriptor"))(hm:MtR X id r)(h:Uy X.K r sem)(ho:PEF X o f)(ha:PAF X (e::es) g)
  (hbase:attributeBase o name X.env (eval o X.env)=eval o X.env:=by rfl)
  (hfew:((backTo cpos (bS (e::es) X.env)).all (fun x=>!x.1)&&(backToKw cpos (keywordEach [] X.env)).all (fun x=>x.1.isSome)&&decide ((e::es).length+([]:List jJ).length+(if ([]:List jJ).isEmpty then 0 else 1) < 30))=true:=by rfl)
  (hline:(apos.endLine == cpos.line)=true:=by rfl) (hst:bS (e::es) X.env=(false,eval e X.env)::bS es X.env:=by rfl) (hpl:(backTo cpos (bS es X.env)).any (·.1)=false:=by rfl) :
  PEF X (.Call (.Attribute o name apos) (e::es) [] cpos) (Eu T sem f g):=
 PE.imp (Ao4 pa slot hty hm ho ha hbase hfew hline hst hpl) (Aoc h)
end
end
abbrev FN:=List U->UH->Option (U×UH)
inductive spF(K:aH)(n:Nat)(f:FN)(vs:List V)(H:Hp)(Q:VK)(E:XK):Prop
 | mk (α:List Addr) (L:UH) (us:List U) (A:Abs K H α L) (r:RepL K H α us vs) (hl:us.length=n) (u:U) (L':UH) (e:f us L=some (u,L')) (q:∀ v H' α',Gr H α H' α'->Abs K H' α' L'->RepU K H' α' u v->Q v H'):spF K n f vs H Q E
variable {k:Nat}
section
variable {a o:Expr}{p:Pos}{x:Str}{f:Addr}{fd:dA}{ps:List Str}{F:FN}{fc:FE}
noncomputable def A9(n:Nat)(F:FN)(g:FA):FE:=fun δ L=>(g δ L).bind fun p=>if p.1.length=n then F p.1 p.2 else none
theorem Av(hF:FnOk X.prog X.w X.K X.mg X.base CX0 k f fd ps (spF X.K n F))(hr:Room k X.A)(hg:Gl X x)(hm:X.mg x=some (.ref f))(hk:bY X.K (.ref f)=true)(hb:Binds X.K fd ps [])
  (ha:PAF X (e::es) g) (hdb:(x == ("__debug__" : Str))=false:=by decide) (he:bS (e::es) X.env=(false,eval e X.env)::bS es X.env:=by rfl) (hpl:(backTo pos (bS es X.env)).any (·.1)=false:=by rfl) :
  PEF X (.Call (.Name x p) (e::es) [] pos) (A9 n F g):=by
 refine PE.imp (Ahv hF hr hg hm hk hb .nil Aom ha hdb he hpl) ?_
 rintro σ H Q ⟨α,δ,L,A,S,z,L3,e,q⟩
 obtain ⟨⟨us,L1⟩,e1,e⟩:=aB.mp e
 simp only at e
 split at e
 ·rename_i hl
  refine ⟨α,δ,L,A,S,us,L1,e1,fun xs H1 α1 g1 A1 r1=>?_⟩
  exact ⟨α1,L1,us,A1,by rw[bG];exact r1,hl,z,L3,e,fun v H2 α2 g2 A2 r2=>q v H2 α2 (g1.trans g2) A2 r2⟩
 ·cases e
theorem Bf(hr:IxR X r)(h:C1 X.K r sem)(ha:PEF X a fa)(hb:PEF X b fb)(hs:Aaw b):PEF X (.Subscript a b pos) (f2 sem fa fb):=PE.imp (Aob hr ha hb hs) (Yx h)
abbrev FO:=UE->UH->Option (Option Int×UH)
inductive lO(K:aH)(f:FO)(σ:L2.St)(H:Hp)(Q:Option Int->Hp->Prop):Prop
 | mk (α:List Addr) (δ:UE) (L:UH) (A:Abs K H α L) (S:RepS K H α δ σ) (i:Option Int) (L':UH) (e:f δ L=some (i,L')) (q:∀ H' α',Gr H α H' α'->Abs K H' α' L'->Q i H'):lO K f σ H Q
noncomputable def POF(X:Cx)(e:Option Expr)(f:FO):Prop:=PO X e (lO X.K f)
noncomputable def Cf:FO:=fun _ L=>some (none,L)
noncomputable def E6(f:FE):FO:=fun δ L=>(f δ L).bind fun p=>match p.1 with | .int i=>some (some i,p.2) | _=>none
theorem PO.imp{e:Option Expr}{t t':TO}(h:PO X e t)(hi:∀ σ H Q,t' σ H Q->t σ H Q):PO X e t':=fun pins s σ H Q I q=>h pins s σ H Q I (hi σ H Q q)
theorem Hn:POF X none Cf:=by
 refine PO.imp Ah3 ?_
 rintro σ H Q ⟨α,δ,L,A,S,z,L3,e,q⟩
 cases e
 exact q H α (.refl _ _) A
theorem Fi(h:PEF X e fa):POF X (some e) (E6 fa):=by
 refine PO.imp (Air h) ?_
 rintro σ H Q ⟨α,δ,L,A,S,z,L3,e,q⟩
 obtain ⟨⟨u,L1⟩,e1,e⟩:=aB.mp e
 refine ⟨α,δ,L,A,S,u,L1,e1,fun x H1 α1 g1 A1 r1=>?_⟩
 cases u with
 | int i=>cases e;exact ⟨i,r1,q H1 α1 g1 A1⟩
 | _=>simp at e
abbrev SS:=U->Option Int->Option Int->UH->Option (U×UH)
noncomputable def Afi(K:aH)(r:V->Option Int->Option Int->Hp->VK->Prop)(sem:SS):Prop:=∀ (H:Hp) (α:List Addr) (L:UH) (u:U) (x:V) (lo hi:Option Int) (z:U) (L':UH) (Q:VK),Abs K H α L->RepU K H α u x->sem u lo hi L=some (z,L') ->
 (∀ v H' α',Gr H α H' α'->Abs K H' α' L'->RepU K H' α' z v->Q v H')->r x lo hi H Q
noncomputable def fSl(sem:SS)(f:FE)(l h:FO):FE:=fun δ L=>(f δ L).bind fun p=>(l δ p.2).bind fun q=>(h δ q.2).bind fun r=>sem p.1 q.1 r.1 r.2
theorem Ia{r:V->Option Int->Option Int->Hp->VK->Prop}{sem:SS}{lo hi:Option Expr}{fl fh:FO}{p2:Pos}(hr:SlR X r)(h:Afi X.K r sem)(he:PEF X e fa)(hl:POF X lo fl)(hu:POF X hi fh):PEF X (.Subscript e (.Slice lo hi none p2) pos) (fSl sem fa fl fh):=by
 refine PE.imp (Afo hr he hl hu) ?_
 rintro σ H Q ⟨α,δ,L,A,S,z,L3,e,q⟩
 obtain ⟨⟨u,L1⟩,e1,e⟩:=aB.mp e
 obtain ⟨⟨i,L2⟩,e2,e⟩:=aB.mp e
 obtain ⟨⟨j,L4⟩,e3,e⟩:=aB.mp e
 refine ⟨α,δ,L,A,S,u,L1,e1,fun x H1 α1 g1 A1 r1=>⟨α1,δ,L1,A1,S.mono g1,i,L2,e2,fun H2 α2 g2 A2=>⟨α2,δ,L2,A2,(S.mono g1).mono g2,j,L4,e3,fun H3 α3 g3 A3=>?_⟩⟩⟩
 exact h H3 α3 L4 u x i j z L3 Q A3 ((r1.mono g2).mono g3) e fun v H4 α4 g4 A4 r4=>q v H4 α4 (g1.trans (g2.trans (g3.trans g4))) A4 r4
noncomputable def T5(f:FE):FE:=fun δ L=>(f δ L).bind fun p=>match p.1 with | .int i=>some (.int (-i),p.2) | _=>none
theorem P8(ha:PEF X a fa):PEF X (.UnaryOp .USub a pos) (T5 fa):=by
 refine PE.imp (Ao3 Ale ha) ?_
 rintro σ H Q ⟨α,δ,L,A,S,z,L3,e,q⟩
 obtain ⟨⟨u,L1⟩,e1,e⟩:=aB.mp e
 refine ⟨α,δ,L,A,S,u,L1,e1,fun x H1 α1 g1 A1 r1=>?_⟩
 cases u with
 | int i=>cases e;exact ⟨i,r1,q _ H1 α1 g1 A1 rfl⟩
 | _=>simp at e
noncomputable def Mh(s1 s2:S2)(fa fb fc:FE):FE:=fun δ L=>(fa δ L).bind fun p=>(fb δ p.2).bind fun q=>(s1 p.1 q.1 q.2).bind fun r=>match r.1 with
 | .bl k=>if k=true then (fc δ r.2).bind fun t=>s2 q.1 t.1 t.2 else some (.bl false,r.2)
 | _=>none
theorem Aep{r':R2}{s1 s2:S2}(h1:C1 K r s1)(h2:C1 K r' s2):∀ σ H Q,lE K (Mh s1 s2 fa fb fc) σ H Q->Aeo r r' (lE K fa) (lE K fb) (lE K fc) σ H Q:=by
 rintro σ H Q ⟨α,δ,L,A,S,z,L3,e,q⟩
 obtain ⟨⟨u,L1⟩,e1,e⟩:=aB.mp e
 obtain ⟨⟨w,L2⟩,e2,e⟩:=aB.mp e
 obtain ⟨⟨t,L4⟩,e3,e⟩:=aB.mp e
 refine ⟨α,δ,L,A,S,u,L1,e1,fun x H1 α1 g1 A1 r1=>⟨α1,δ,L1,A1,S.mono g1,w,L2,e2,fun y H2 α2 g2 A2 r2=>?_⟩⟩
 refine h1 H2 α2 L2 u w x y t L4 _ A2 (r1.mono g2) r2 e3 fun v H3 α3 g3 A3 r3=>?_
 cases t with
 | bl k=>
  refine ⟨k,r3,?_⟩
  cases k with
  | true=>
   obtain ⟨⟨s,L5⟩,e4,e⟩:=aB.mp e
   refine X5 ⟨α3,δ,L4,A3,((S.mono g1).mono g2).mono g3,s,L5,e4,fun y' H4 α4 g4 A4 r4=>?_⟩
   exact h2 H4 α4 L5 w s y y' z L3 Q A4 ((r2.mono g3).mono g4) r4 e fun v H5 α5 g5 A5 r5=>q v H5 α5 (g1.trans (g2.trans (g3.trans (g4.trans g5)))) A5 r5
  | false=>cases e;exact Xg (q _ H3 α3 (g1.trans (g2.trans g3)) A3 rfl)
 | _=>simp at e
theorem Acf{op':CmpOp}{r':R2}{s1 s2:S2}(ho:OpR X (eE op) r)(ho':OpR X (eE op') r')(h1:C1 X.K r s1)(h2:C1 X.K r' s2)(ha:PEF X a fa)(hb:PEF X b fb)(hc:PEF X c fc)(hm:lastMarks [op,op'] [b,c]=false:=by with_unfolding_all rfl) :
  PTF X (.Compare a [op,op'] [b,c] pos) (Bl (Mh s1 s2 fa fb fc)):=PT.imp (Af6 ho ho' ha hb hc hm) (Abm (Aep h1 h2))
noncomputable def Yt(u:U)(L:UH):Option Bool:=match u with
 | .non=>some false
 | .bl b=>some b
 | .int i=>some (i != 0)
 | .str y=>if small y.length=true then some ((y.length:Int) != 0) else none
 | .tup l=>some (!l.isEmpty)
 | .ref n=>match L[n]? with
  | some (.lst xs)=>some (!xs.isEmpty)
  | some (.ro xs)=>some (!xs.isEmpty)
  | some (.dic kvs)=>some (!kvs.isEmpty)
  | _=>none
theorem Il{α β:Type}{l:List α}{m:List β}(h:l.length=m.length):l.isEmpty=m.isEmpty:=by
 cases l <;> cases m <;> simp_all
theorem Aju{x:V}{k:Bool}(A:Abs K H α L)(r:RepU K H α u x)(h:Yt u L=some k):Ams K x H k:=by
 cases u with
 | non=>unfold RepU at r;subst r;exact (bP h).symm
 | bl b=>unfold RepU at r;subst r;exact (bP h).symm
 | int i=>unfold RepU at r;subst r;exact (bP h).symm
 | str y=>
  unfold RepU at r;subst r
  unfold Yt at h
  simp only at h
  split at h
  ·rename_i hs;cases h;exact ⟨E5 hs,rfl⟩
  ·cases h
 | tup l=>
  unfold RepU at r
  obtain ⟨a,xs,rfl,s,r⟩:=r
  exact .inr (.inl ⟨xs,s,by rw[<- Il r.length];exact (bP h).symm⟩)
 | ref n=>
  unfold RepU at r
  obtain ⟨a,ea,rfl⟩:=r
  unfold Yt at h
  simp only at h
  cases q:L[n]? with
  | none=>rw[q] at h;simp at h
  | some o=>
   have hr:=A.rep n a o ea q
   rw[q] at h
   cases o with
   | lst us=>obtain ⟨xs,e,r⟩:=hr;exact .inl ⟨xs,.of e,by rw[<- Il r.length];exact (bP h).symm⟩
   | ro us=>obtain ⟨xs,e,r⟩:=hr;exact .inl ⟨xs,e.sq,by rw[<- Il r.length];exact (bP h).symm⟩
   | dic kvs=>obtain ⟨vs,e,ek,_⟩:=hr;exact .inr (.inr ⟨vs,e,by rw[<- Il (show kvs.length=vs.length by simpa using congrArg mM ek)];exact (bP h).symm⟩)
   | rod kvs=>simp at h
   | ins C fs=>simp at h
   | exc C fr fs=>simp at h
noncomputable def Kz(f:FE):FT:=fun δ L=>(f δ L).bind fun p=>(Yt p.1 p.2).map fun k=>(k,p.2)
theorem Gm(ha:PEF X a fa)(he:∀ whole,isTrue a X.env whole=(do let v <- whole;standAt a.pos;holding [v] (truthy v)):=by intro _;rfl):PTF X a (Kz fa):=by
 refine PT.imp (Ae8 ha he) ?_
 rintro σ H Q ⟨α,δ,L,A,S,z,L3,e,q⟩
 obtain ⟨⟨u,L1⟩,e1,e⟩:=aB.mp e
 obtain ⟨k,e2,e⟩:=aG.mp e
 cases e
 exact ⟨α,δ,L,A,S,u,_,e1,fun x H1 α1 g1 A1 r1=>⟨_,Aju A1 r1 e2,q H1 α1 g1 A1⟩⟩
end
inductive Fl where
 | nx (δ:UE) | rt (u:U) | bk (δ:UE) | ct (δ:UE)
abbrev FS:=UE->UH->Option (Fl×UH)
noncomputable def Post(K:aH)(D:Ends)(H:Hp)(α:List Addr)(fl:Fl)(L':UH):Prop:=match fl with
 | .nx δ'=>∀ σ' H' α',Gr H α H' α'->Abs K H' α' L'->RepS K H' α' δ' σ'->D.nx σ' H'
 | .bk δ'=>∀ σ' H' α',Gr H α H' α'->Abs K H' α' L'->RepS K H' α' δ' σ'->D.bk σ' H'
 | .ct δ'=>∀ σ' H' α',Gr H α H' α'->Abs K H' α' L'->RepS K H' α' δ' σ'->D.ct σ' H'
 | .rt u=>∀ v H' α',Gr H α H' α'->Abs K H' α' L'->RepU K H' α' u v->D.rt v H'
theorem Post.from{D:Ends}{α1:List Addr}{fl:Fl}{L':UH}(g:Gr H α H1 α1)(p:Post K D H α fl L'):Post K D H1 α1 fl L':=by
 cases fl with
 | nx δ=>exact fun σ' H' α' g'=>p σ' H' α' (g.trans g')
 | bk δ=>exact fun σ' H' α' g'=>p σ' H' α' (g.trans g')
 | ct δ=>exact fun σ' H' α' g'=>p σ' H' α' (g.trans g')
 | rt u=>exact fun v H' α' g'=>p v H' α' (g.trans g')
inductive lS(K:aH)(f:FS)(D:Ends)(σ:L2.St)(H:Hp):Prop
 | mk (α:List Addr) (δ:UE) (L:UH) (A:Abs K H α L) (S:RepS K H α δ σ) (fl:Fl) (L':UH) (e:f δ L=some (fl,L')) (q:Post K D H α fl L'):lS K f D σ H
noncomputable def PSF(X:Cx)(st:Stmt)(f:FS):Prop:=PS X st (lS X.K f)
noncomputable def R0(X:Cx)(st:List Stmt)(f:FS):Prop:=PSs X st (lS X.K f)
variable {fe:FE}
section
variable {st:Stmt}{rest:List Stmt}{f g:FS}
theorem PS.imp{t t':TS}(h:PS X st t)(hi:∀ D σ H,t' D σ H->t D σ H):PS X st t':=fun pins s σ H D I q=>h pins s σ H D I (hi D σ H q)
theorem PSs.imp{sts:List Stmt}{t t':TS}(h:PSs X sts t)(hi:∀ D σ H,t' D σ H->t D σ H):PSs X sts t':=fun pins s σ H D I q=>h pins s σ H D I (hi D σ H q)
noncomputable def Co:FS:=fun δ L=>some (.nx δ,L)
noncomputable def A7(f g:FS):FS:=fun δ L=>(f δ L).bind fun p=>match p.1 with | .nx δ'=>g δ' p.2 | fl=>some (fl,p.2)
theorem Cp:R0 X [] Co:=by
 refine PSs.imp Aho ?_
 rintro D σ H ⟨α,δ,L,A,S,fl,L',e,q⟩
 cases e
 exact q σ H α (.refl _ _) A S
theorem Ah(h1:PSF X st f)(h2:R0 X rest g):R0 X (st::rest) (A7 f g):=by
 refine PSs.imp (Ad3 h1 h2) ?_
 rintro D σ H ⟨α,δ,L,A,S,fl,L',e,q⟩
 obtain ⟨⟨fl1,L1⟩,e1,e⟩:=aB.mp e
 refine ⟨α,δ,L,A,S,fl1,L1,e1,?_⟩
 cases fl1 with
 | nx δ1=>exact fun σ1 H1 α1 g1 A1 S1=>⟨α1,δ1,L1,A1,S1,fl,L',e,q.from g1⟩
 | rt u=>cases e;exact q
 | bk δ1=>cases e;exact q
 | ct δ1=>cases e;exact q
theorem Aw(h1:PSF X st f):R0 X [st] f:=Ahm h1
noncomputable def De(f:FE):FS:=fun δ L=>(f δ L).map fun p=>(.rt p.1,p.2)
noncomputable def Ik(f:FE):FS:=fun δ L=>(f δ L).map fun p=>(.nx δ,p.2)
noncomputable def Aoh:FS:=fun _ L=>some (.rt .non,L)
theorem Bi(he:PEF X e fe):PSF X (.Return (some e) pos) (De fe):=by
 refine PS.imp (Ak0 he) ?_
 rintro D σ H ⟨α,δ,L,A,S,fl,L',e,q⟩
 obtain ⟨⟨u,L1⟩,e1,e⟩:=aG.mp e
 cases e
 exact ⟨α,δ,L,A,S,u,_,e1,fun v H1 α1 g1 A1 r1=>q v H1 α1 g1 A1 r1⟩
theorem Hu(he:PEF X e fe)(hs:swapsWith e none pos.line X.env=pure false:=by rfl):PSF X (.Expr e pos) (Ik fe):=by
 refine PS.imp (Aiq he hs) ?_
 rintro D σ H ⟨α,δ,L,A,S,fl,L',e,q⟩
 obtain ⟨⟨u,L1⟩,e1,e⟩:=aG.mp e
 cases e
 exact ⟨α,δ,L,A,S,u,_,e1,fun v H1 α1 g1 A1 r1=>q σ H1 α1 g1 A1 (S.mono g1)⟩
noncomputable def Ey(c:FT)(f g:FS):FS:=fun δ L=>(c δ L).bind fun p=>if p.1=true then f δ p.2 else g δ p.2
theorem Di{a b:List Stmt}{tc:FT}(hc:PTF X c tc)(ha:R0 X a f)(hb:R0 X b g):PSF X (.If c a b pos) (Ey tc f g):=by
 refine PS.imp (Ao8 hc ha hb) ?_
 rintro D σ H ⟨α,δ,L,A,S,fl,L',e,q⟩
 obtain ⟨⟨u,L1⟩,e1,e⟩:=aB.mp e
 refine ⟨α,δ,L,A,S,u,L1,e1,fun H1 α1 g1 A1=>?_⟩
 cases u with
 | true=>exact X5 ⟨α1,δ,L1,A1,S.mono g1,fl,L',e,q.from g1⟩
 | false=>exact Xg ⟨α1,δ,L1,A1,S.mono g1,fl,L',e,q.from g1⟩
end
abbrev FG:=U->UE->UH->Option (UE×UH)
abbrev FGs:=List U->UE->UH->Option (UE×UH)
inductive lG(K:aH)(f:FG)(v:V)(σ:L2.St)(H:Hp)(Q:L2.St->Hp->Prop):Prop
 | mk (α:List Addr) (δ:UE) (L:UH) (u:U) (A:Abs K H α L) (S:RepS K H α δ σ) (r:RepU K H α u v) (δ':UE) (L':UH) (e:f u δ L=some (δ',L')) (q:∀ σ' H' α',Gr H α H' α'->Abs K H' α' L'->RepS K H' α' δ' σ'->Q σ' H'):lG K f v σ H Q
inductive lGs(K:aH)(f:FGs)(vs:List V)(σ:L2.St)(H:Hp)(Q:L2.St->Hp->Prop):Prop
 | mk (α:List Addr) (δ:UE) (L:UH) (us:List U) (A:Abs K H α L) (S:RepS K H α δ σ) (r:RepL K H α us vs) (δ':UE) (L':UH) (e:f us δ L=some (δ',L')) (q:∀ σ' H' α',Gr H α H' α'->Abs K H' α' L'->RepS K H' α' δ' σ'->Q σ' H'):lGs K f vs σ H Q
noncomputable def PGF(X:Cx)(e:Expr)(f:FG):Prop:=PG X e (lG X.K f)
noncomputable def Ai8(X:Cx)(es:List Expr)(f:FGs):Prop:=PGs X es (lGs X.K f)
variable {tg:Expr}
section
theorem PG.imp{t t':TG}(h:PG X e t)(hi:∀ v σ H Q,t' v σ H Q->t v σ H Q):PG X e t':=fun pins s σ H v u Q I r q=>h pins s σ H v u Q I r (hi v σ H Q q)
theorem PGs.imp{t t':TGs}(h:PGs X es t)(hi:∀ v σ H Q,t' v σ H Q->t v σ H Q):PGs X es t':=fun pins s σ H v u Q I r q=>h pins s σ H v u Q I r (hi v σ H Q q)
noncomputable def gN(i:Nat):FG:=fun u δ L=>some (δ.set i (some u),L)
theorem Ar{x:Str}(hN:X.N.Nodup)(hi:X.N[i]? = some x:=by rfl)(hx:Loc X.env.scope x:=by first | exact pA rfl | exact mW rfl)(hf:X.fn x=true\/X.env.scope.names.lookup x=some .local:=by first | exact .inl rfl | exact .inr rfl):PGF X (.Name x pos) (gN i):=by
 refine PG.imp (Abk (i:=i) hN hi hx hf) ?_
 rintro v σ H Q ⟨α,δ,L,u,A,S,r,δ',L',e,q⟩
 cases e
 exact q _ H α (.refl _ _) A (S.set i r)
noncomputable def gNil:FGs:=fun us δ L=>match us with | []=>some (δ,L) | _=>none
noncomputable def gCons(f:FG)(g:FGs):FGs:=fun us δ L=>match us with | []=>none | u::r=>(f u δ L).bind fun p=>g r p.1 p.2
theorem E3:Ai8 X [] MR.gNil:=by
 refine PGs.imp Aiz ?_
 rintro vs σ H Q ⟨α,δ,L,us,A,S,r,δ',L',e,q⟩
 cases us with
 | nil=>cases e;exact ⟨by unfold RepL at r;exact r,q σ H α (.refl _ _) A S⟩
 | cons u us=>cases e
theorem Bg{f:FG}{g:FGs}(h1:PGF X e f)(h2:Ai8 X es g)(hs:(assignEach (e::es) X.env).map (·.2)=assign e X.env::(assignEach es X.env).map (·.2):=by rfl):Ai8 X (e::es) (MR.gCons f g):=by
 refine PGs.imp (Agz h1 h2 hs) ?_
 rintro vs σ H Q ⟨α,δ,L,us,A,S,r,δ',L',e,q⟩
 cases us with
 | nil=>cases e
 | cons u us=>
  unfold RepL at r
  obtain ⟨x,xs,rfl,r1,r2⟩:=r
  obtain ⟨⟨δ1,L1⟩,e1,e⟩:=aB.mp e
  refine ⟨x,xs,rfl,α,δ,L,u,A,S,r1,δ1,L1,e1,fun σ1 H1 α1 g1 A1 S1=>?_⟩
  exact ⟨α1,δ1,L1,us,A1,S1,r2.mono g1,δ',L',e,fun σ2 H2 α2 g2 A2 S2=>q σ2 H2 α2 (g1.trans g2) A2 S2⟩
noncomputable def gTup(n:Nat)(g:FGs):FG:=fun u δ L=>match u with | .tup us=>if us.length=n then g us δ L else none | _=>none
theorem Gn{g:FGs}(hc:X.calm=true)(h:Ai8 X es g)(hn:(assignEach es X.env).length=n:=by rfl)(hst:(assignEach es X.env).findIdx? (·.1)=none:=by rfl):PGF X (.Tuple es k pos) (MR.gTup n g):=by
 refine PG.imp (Amp hc h hn hst) ?_
 rintro v σ H Q ⟨α,δ,L,u,A,S,r,δ',L',e,q⟩
 cases u with
 | tup us=>
  unfold RepU at r
  obtain ⟨a,xs,rfl,s,r⟩:=r
  unfold MR.gTup at e
  simp only at e
  split at e
  ·rename_i hl
   exact ⟨a,xs,rfl,s,by rw[<- r.length];exact hl,α,δ,L,us,A,S,r,δ',L',e,q⟩
  ·cases e
 | _=>simp[MR.gTup] at e
noncomputable def A8(fe:FE)(g:FG):FS:=fun δ L=>(fe δ L).bind fun p=>(g p.1 δ p.2).map fun q=>(.nx q.1,q.2)
theorem Ur{g:FG}(he:PEF X e fe)(hg:PGF X tg g)(hs:swapsWithSole [tg] e pos.line X.env=pure false:=by rfl)(hw:swappedStores [tg] e X.env=pure none:=by rfl)(h1:(assignEach [tg] X.env).map (·.2)=[assign tg X.env]:=by rfl) :
  PSF X (.Assign [tg] e pos) (A8 fe g):=by
 refine PS.imp (Als he hg hs hw h1) ?_
 rintro D σ H ⟨α,δ,L,A,S,fl,L',e,q⟩
 obtain ⟨⟨u,L1⟩,e1,e⟩:=aB.mp e
 obtain ⟨⟨δ2,L2⟩,e2,e⟩:=aG.mp e
 cases e
 exact ⟨α,δ,L,A,S,u,L1,e1,fun v H1 α1 g1 A1 r1=>⟨α1,δ,L1,u,A1,S.mono g1,r1,δ2,_,e2,fun σ2 H2 α2 g2 A2 S2=>q σ2 H2 α2 (g1.trans g2) A2 S2⟩⟩
theorem Au{x:Str}{pos':Pos}(hN:X.N.Nodup)(he:PEF X e fe)(hi:X.N[i]? = some x:=by rfl)(hx:Loc X.env.scope x:=by first | exact pA rfl | exact mW rfl)
  (hs:swapsWith e (some (.Name x pos')) pos.line X.env=pure false:=by rfl) (hf:X.fn x=true\/X.env.scope.names.lookup x=some .local:=by first | exact .inl rfl | exact .inr rfl) :
  PSF X (.Assign [.Name x pos'] e pos) (A8 fe (gN i)):=by
 refine PS.imp (Am0 (i:=i) hN hi hx he hs hf) ?_
 rintro D σ H ⟨α,δ,L,A,S,fl,L',e,q⟩
 obtain ⟨⟨u,L1⟩,e1,e⟩:=aB.mp e
 obtain ⟨⟨δ2,L2⟩,e2,e⟩:=aG.mp e
 cases e
 cases e2
 exact ⟨α,δ,L,A,S,u,_,e1,fun v H1 α1 g1 A1 r1=>q _ H1 α1 g1 A1 ((S.mono g1).set i r1)⟩
end
noncomputable def Fg(L:UH)(n:Nat):Option (List U):=match L[n]? with
 | some (.lst us)=>some us
 | _=>none
noncomputable def Ao(L:UH)(n:Nat):Option (List U):=match L[n]? with
 | some (.lst us)=>some us
 | some (.ro us)=>some us
 | _=>none
inductive IU where
 | seq (us:List U) | ref (n:Nat) | enm (n:Nat) | zip2 (n m:Nat) | zipT (us:List U) (m:Nat) | zipL (n:Nat) (ws:List U)
noncomputable def Oa:Option U->Option U->Option U
 | some x,some y=>some (.tup [x,y])
 | _,_=>none
noncomputable def IU.at(i:IU)(k:Nat)(L:UH):Option (Option U):=match i with
 | .seq us=>some us[k]?
 | .ref n=>match L[n]? with
  | some (.lst us)=>some us[k]?
  | some (.ro us)=>some us[k]?
  | _=>none
 | .enm n=>(Ao L n).map fun us=>(us[k]?).map fun u=>.tup [.int k,u]
 | .zip2 n m=>(Ao L n).bind fun us=>(Ao L m).map fun ws=>Oa us[k]? ws[k]?
 | .zipT us m=>(Ao L m).map fun ws=>Oa us[k]? ws[k]?
 | .zipL n ws=>(Ao L n).map fun us=>Oa us[k]? ws[k]?
noncomputable def IU.size(i:IU)(L:UH):Nat:=match i with
 | .seq us=>us.length
 | .ref n=>match L[n]? with
  | some (.lst us)=>us.length
  | some (.ro us)=>us.length
  | _=>0
 | .enm n=>match Ao L n with
  | some us=>us.length
  | none=>0
 | .zip2 n m=>match Ao L n,Ao L m with
  | some us,some ws=>min us.length ws.length
  | _,_=>0
 | .zipT us m=>match Ao L m with
  | some ws=>min us.length ws.length
  | none=>0
 | .zipL n ws=>match Ao L n with
  | some us=>min us.length ws.length
  | none=>0
abbrev FI:=UE->UH->Option (IU×UH)
noncomputable def Na(K:aH)(J:It)(i:IU)(H:Hp)(α:List Addr):Prop:=∀ (H2:Hp) (α2:List Addr) (L2:UH),Gr H α H2 α2->Abs K H2 α2 L2->∀ k:Nat,
 (∀ u,i.at k L2=some (some u)->J.go k H2/\∀ x H3,J.yld k H2 x H3->Gr H2 α2 H3 α2/\Abs K H3 α2 L2/\RepU K H3 α2 u x)/\(i.at k L2=some none->J.stop k H2)
inductive lI(K:aH)(f:FI)(σ:L2.St)(H:Hp)(R:It->Hp->Prop):Prop
 | mk (α:List Addr) (δ:UE) (L:UH) (A:Abs K H α L) (S:RepS K H α δ σ) (i:IU) (L':UH) (e:f δ L=some (i,L')) (q:∀ J H' α',Gr H α H' α'->Abs K H' α' L'->Na K J i H' α'->R J H'):lI K f σ H R
noncomputable def PIF(X:Cx)(tg iter:Expr)(f:FI):Prop:=PI X tg iter (lI X.K f)
variable {iter:Expr}{fi:FI}
section
variable {l:Expr}
theorem PI.imp{t t':TI}(h:PI X tg iter t)(hi:∀ σ H R,t' σ H R->t σ H R):PI X tg iter t':=fun pins s σ H R I q=>h pins s σ H R I (hi σ H R q)
theorem PI.or{t t':TI}(h:PI X tg iter t)(h':PI X tg iter t'):PI X tg iter (fun σ H R=>t σ H R\/t' σ H R):=fun pins s σ H R I q=>by
 rcases q with q | q
 ·exact h pins s σ H R I q
 ·exact h' pins s σ H R I q
noncomputable def Vd(u:U)(L:UH):Option IU:=match u with
 | .tup us=>some (.seq us)
 | .ref n=>match L[n]? with
  | some (.lst _)=>some (.ref n)
  | some (.ro _)=>some (.ref n)
  | _=>none
 | _=>none
theorem Aav(ea:α[n]? = some a):Na K (Itl K a) (.ref n) H α:=by
 intro H2 α2 L2 g A2 k
 have ea2:=g.at ea
 have go:∀ (us:List U) (xs:List V),SqL K H2 a xs->RepL K H2 α2 us xs->(∀ ys,SqL K H2 a ys->True)->(∀ u,us[k]? = some u->(Itl K a).go k H2/\∀ x H3,(Itl K a).yld k H2 x H3->Gr H2 α2 H3 α2/\Abs K H3 α2 L2/\RepU K H3 α2 u x)/\(us[k]? = none->(Itl K a).stop k H2):=by
  intro us xs sq r _
  refine ⟨fun u eu=>?_,fun eu=>?_⟩
  ·obtain ⟨x,ex,rx⟩:=r.get eu
   refine ⟨⟨xs,x,sq,ex⟩,?_⟩
   rintro y H3 ⟨rfl,hy⟩
   have:=hy xs sq
   rw[ex] at this;cases this
   exact ⟨.refl _ _,A2,rx⟩
  ·exact ⟨xs,sq,by rw[<- r.length];exact cP.mp eu⟩
 unfold IU.at
 simp only
 cases q:L2[n]? with
 | none=>simp
 | some o=>
  have hr:=A2.rep n a o ea2 q
  cases o with
  | lst us=>
   obtain ⟨xs,e,r⟩:=hr
   obtain ⟨h1,h2⟩:=go us xs (.of e) r fun _ _=>trivial
   exact ⟨fun u eu=>h1 u (bP eu),fun eu=>h2 (bP eu)⟩
  | ro us=>
   obtain ⟨xs,e,r⟩:=hr
   obtain ⟨h1,h2⟩:=go us xs e.sq r fun _ _=>trivial
   exact ⟨fun u eu=>h1 u (bP eu),fun eu=>h2 (bP eu)⟩
  | dic kvs=>simp
  | rod kvs=>simp
  | ins C fs=>simp
  | exc C fr fs=>simp
theorem Aji(sq:SqT K H a xs)(r:RepL K H α us xs):Na K (Itt K a) (.seq us) H α:=by
 intro H2 α2 L2 g A2 k
 have sq2:=g.st.sqT (K:=K) sq
 have r2:=r.mono g
 refine ⟨fun u eu=>?_,fun eu=>?_⟩
 ·obtain ⟨x,ex,rx⟩:=r2.get (bP eu)
  refine ⟨⟨xs,x,sq2,ex⟩,?_⟩
  rintro y H3 ⟨rfl,hy⟩
  have:=hy xs sq2
  rw[ex] at this;cases this
  exact ⟨.refl _ _,A2,rx⟩
 ·exact ⟨xs,sq2,by rw[<- r2.length];exact cP.mp (bP eu)⟩
theorem Ahl(lo:Int)(n:Nat):Na K (Itr lo n) (.seq ((aX n).map fun i=>U.int (lo+(i:Nat)))) H α:=by
 intro H2 α2 L2 g A2 k
 refine ⟨fun u eu=>?_,fun eu=>?_⟩
 ·have eu:=bP eu
  rw[bO] at eu
  by_cases hk:k < n
  ·rw[lB hk] at eu
   simp at eu
   refine ⟨hk,?_⟩
   rintro x H3 ⟨rfl,rfl⟩
   subst eu
   exact ⟨.refl _ _,A2,rfl⟩
  ·rw[eR (by simpa using hk)] at eu
   simp at eu
 ·have:=cP.mp (bP eu)
  show n<=k
  simpa using this
noncomputable def Bm(f:FE):FI:=fun δ L=>(f δ L).bind fun p=>(Vd p.1 p.2).map fun i=>(i,p.2)
theorem B8(h:PEF X l fe):PIF X tg l (Bm fe):=by
 refine PI.imp (PI.or (Aii h) (Ali h)) ?_
 rintro σ H R ⟨α,δ,L,A,S,i,L3,e,q⟩
 obtain ⟨⟨u,L1⟩,e1,e⟩:=aB.mp e
 obtain ⟨j,e2,e⟩:=aG.mp e
 cases e
 cases u with
 | tup us=>
  cases e2
  refine .inr ⟨α,δ,L,A,S,_,_,e1,fun x H1 α1 g1 A1 r1=>?_⟩
  unfold RepU at r1
  obtain ⟨a,xs,rfl,sq,r⟩:=r1
  exact ⟨a,rfl,⟨xs,sq⟩,q _ H1 α1 g1 A1 (Aji sq r)⟩
 | ref n=>
  refine .inl ⟨α,δ,L,A,S,_,_,e1,fun x H1 α1 g1 A1 r1=>?_⟩
  unfold RepU at r1
  obtain ⟨a,ea,rfl⟩:=r1
  refine ⟨a,rfl,?_⟩
  unfold Vd at e2
  simp only at e2
  cases w:L1[n]? with
  | none=>simp only[w] at e2;cases e2
  | some o=>
   have hr:=A1.rep n a o ea w
   cases o with
   | lst us=>simp only[w] at e2;cases e2;obtain ⟨xs,e,r⟩:=hr;exact ⟨⟨xs,.of e⟩,q _ H1 α1 g1 A1 (Aav ea)⟩
   | ro us=>simp only[w] at e2;cases e2;obtain ⟨xs,e,r⟩:=hr;exact ⟨⟨xs,e.sq⟩,q _ H1 α1 g1 A1 (Aav ea)⟩
   | dic kvs=>simp only[w] at e2;cases e2
   | rod kvs=>simp only[w] at e2;cases e2
   | ins C fs=>simp only[w] at e2;cases e2
   | exc C fr fs=>simp only[w] at e2;cases e2
 | _=>cases e2
noncomputable def Bc(lo:Int)(n:Nat):List U:=(aX n).map fun i=>U.int (lo+(i:Nat))
noncomputable def Dd(g:FA):FI:=fun δ L=>(g δ L).bind fun p=>match p.1 with
 | [.int j]=>if -(2 ^ 62)<=j/\j < 2 ^ 62 then some (.seq (Bc 0 j.toNat),p.2) else none
 | _=>none
noncomputable def Aj2(g:FA):FI:=fun δ L=>(g δ L).bind fun p=>match p.1 with
 | [.int i,.int j]=>if (-(2 ^ 62)<=i/\i < 2 ^ 62)/\-(2 ^ 62)<=j/\j < 2 ^ 62 then some (.seq (Bc i (j - i).toNat),p.2) else none
 | _=>none
theorem RepL.one(h:RepL K H α [u] xs):∃ x,xs=[x]/\RepU K H α u x:=by
 unfold RepL at h
 obtain ⟨x,r,e,h1,h2⟩:=h
 unfold RepL at h2
 subst h2
 exact ⟨x,e,h1⟩
theorem RepL.two{w:U}(h:RepL K H α [u,w] xs):∃ x y,xs=[x,y]/\RepU K H α u x/\RepU K H α w y:=by
 unfold RepL at h
 obtain ⟨x,r,e,h1,h2⟩:=h
 obtain ⟨y,e2,h3⟩:=h2.one
 subst e2
 exact ⟨x,y,e,h1,h3⟩
theorem Fb{a:Expr}{p:Pos}(hg:Gl X "range")(hm:X.mg "range" = none)(ha:PAF X [a] g)(hs:bS [a] X.env=[(false,eval a X.env)]:=by rfl):PIF X tg (.Call (.Name "range" p) [a] [] pos) (Dd g):=by
 refine PI.imp (Adw hg hm ha hs) ?_
 rintro σ H R ⟨α,δ,L,A,S,i,L3,e,q⟩
 obtain ⟨⟨us,L1⟩,e1,e⟩:=aB.mp e
 refine ⟨α,δ,L,A,S,us,L1,e1,fun xs H1 α1 g1 A1 r1=>?_⟩
 simp only at e
 split at e
 ·rename_i _ j
  split at e
  ·rename_i hj
   cases e
   obtain ⟨x,rfl,rx⟩:=r1.one
   unfold RepU at rx
   subst rx
   exact ⟨j,rfl,hj.1,hj.2,q _ H1 α1 g1 A1 (Ahl 0 _)⟩
  ·cases e
 ·cases e
noncomputable def Ng(i:IU)(g:FG)(body:FS):Nat->Nat->UE->UH->Option (Fl×UH)
 | 0,_,_,_=>none
 | m+1,k,δ,L=>match i.at k L with
  | none=>none
  | some none=>some (.nx δ,L)
  | some (some u)=>(g u δ L).bind fun p=>(body p.1 p.2).bind fun q=>match q.1 with
   | .nx δ'=>Ng i g body m (k+1) δ' q.2
   | .ct δ'=>Ng i g body m (k+1) δ' q.2
   | .bk δ'=>some (.nx δ',q.2)
   | .rt w=>some (.rt w,q.2)
noncomputable def Jd(fi:FI)(g:FG)(body:FS):FS:=fun δ L=>(fi δ L).bind fun p=>Ng p.1 g body (p.1.size p.2+1) 0 δ p.2
inductive FI_(K:aH)(D:Ends)(H1:Hp)(α1:List Addr)(fl:Fl)(L':UH)(go:UE->UH->Option (Fl×UH))(σ2:_root_.L2.St)(H2:Hp):Prop
 | mk (α2:List Addr) (δ2:UE) (L2:UH) (g2:Gr H1 α1 H2 α2) (A2:Abs K H2 α2 L2) (S2:RepS K H2 α2 δ2 σ2) (e2:go δ2 L2=some (fl,L')) (q2:Post K D H2 α2 fl L'):FI_ K D H1 α1 fl L' go σ2 H2
theorem Hb{body:List Stmt}{g:FG}{fb:FS}(hp:rJ (model X.prog X.w) X.A X.env X.xe)(hc:X.calm=true)(hi:PIF X tg iter fi)(hg:PGF X tg g)(hb:R0 X body fb)
  (hs:∀ x,foldedSetIterable iter X.env x=pure x:=by intro _;rfl):PSF X (.For tg iter body [] pos) (Jd fi g fb):=by
 refine PS.imp (Al3 hp hc hi hg hb hs) ?_
 rintro D σ H ⟨α,δ,L,A,S,fl,L',e,q⟩
 obtain ⟨⟨it,L1⟩,e1,e⟩:=aB.mp e
 refine ⟨α,δ,L,A,S,it,L1,e1,fun J H1 α1 g1 A1 hJ=>?_⟩
 refine ⟨fun k m=>FI_ X.K D H1 α1 fl L' (Ng it g fb m k),⟨_,α1,δ,L1,.refl _ _,A1,S.mono g1,e,q.from g1⟩,?_⟩
 rintro k m σ2 H2 ⟨α2,δ2,L2,g2,A2,S2,e2,q2⟩
 cases m with
 | zero=>cases e2
 | succ m=>
  obtain ⟨hgo,hstop⟩:=hJ H2 α2 L2 g2 A2 k
  unfold Ng at e2
  cases hat:it.at k L2 with
  | none=>rw[hat] at e2;cases e2
  | some o=>
   cases o with
   | none=>
    rw[hat] at e2
    cases e2
    exact .inl ⟨hstop hat,q2 σ2 H2 α2 (.refl _ _) A2 S2⟩
   | some u=>
    rw[hat] at e2
    obtain ⟨go,yld⟩:=hgo u hat
    obtain ⟨⟨δ3,L3⟩,e3,e2⟩:=aB.mp e2
    obtain ⟨⟨fl4,L4⟩,e4,e2⟩:=aB.mp e2
    refine .inr ⟨go,FI_ X.K D H1 α1 fl L' (Ng it g fb m (k+1)),fun σ5 H5 h5=>⟨m,dZ _,h5⟩,fun x H3 y3=>?_⟩
    obtain ⟨g3,A3,r3⟩:=yld x H3 y3
    refine ⟨α2,δ2,L2,u,A3,S2.mono g3,r3,δ3,L3,e3,fun σ4 H4 α4 g4 A4 S4=>⟨α4,δ3,L3,A4,S4,fl4,L4,e4,?_⟩⟩
    have gA:=g2.trans (g3.trans g4)
    have gB:=g3.trans g4
    cases fl4 with
    | nx δ5=>exact fun σ5 H5 α5 g5 A5 S5=>⟨α5,δ5,L4,gA.trans g5,A5,S5,e2,q2.from (gB.trans g5)⟩
    | ct δ5=>exact fun σ5 H5 α5 g5 A5 S5=>⟨α5,δ5,L4,gA.trans g5,A5,S5,e2,q2.from (gB.trans g5)⟩
    | bk δ5=>cases e2;exact fun σ5 H5 α5 g5 A5 S5=>q2 σ5 H5 α5 (gB.trans g5) A5 S5
    | rt w=>cases e2;exact fun v H5 α5 g5 A5 r5=>q2 v H5 α5 (gB.trans g5) A5 r5
noncomputable def Ir(c:FT)(body:FS):Nat->UE->UH->Option (Fl×UH)
 | 0,_,_=>none
 | m+1,δ,L=>(c δ L).bind fun p=>if p.1=true then (body δ p.2).bind fun q=>match q.1 with
   | .nx δ'=>Ir c body m δ' q.2
   | .ct δ'=>Ir c body m δ' q.2
   | .bk δ'=>some (.nx δ',q.2)
   | .rt w=>some (.rt w,q.2)
  else some (.nx δ,p.2)
inductive WI_(K:aH)(D:Ends)(fl:Fl)(L':UH)(go:UE->UH->Option (Fl×UH))(σ2:_root_.L2.St)(H2:Hp):Prop
 | mk (α2:List Addr) (δ2:UE) (L2:UH) (A2:Abs K H2 α2 L2) (S2:RepS K H2 α2 δ2 σ2) (e2:go δ2 L2=some (fl,L')) (q2:Post K D H2 α2 fl L'):WI_ K D fl L' go σ2 H2
theorem Te{body:List Stmt}{tc:FT}{fb:FS}(n:Nat)(hp:rJ (model X.prog X.w) X.A X.env X.xe)(hc:PTF X c tc)(hb:R0 X body fb):PSF X (.While c body [] pos) (Ir tc fb n):=by
 refine PS.imp (Agi hp hc hb) ?_
 rintro D σ H ⟨α,δ,L,A,S,fl,L',e,q⟩
 refine ⟨fun m=>WI_ X.K D fl L' (Ir tc fb m),⟨n,α,δ,L,A,S,e,q⟩,?_⟩
 rintro m σ2 H2 ⟨α2,δ2,L2,A2,S2,e2,q2⟩
 cases m with
 | zero=>cases e2
 | succ m=>
  unfold Ir at e2
  obtain ⟨⟨b,L3⟩,e3,e2⟩:=aB.mp e2
  refine ⟨α2,δ2,L2,A2,S2,b,L3,e3,fun H3 α3 g3 A3=>?_⟩
  cases b with
  | false=>cases e2;exact Xg (q2 σ2 H3 α3 g3 A3 (S2.mono g3))
  | true=>
   obtain ⟨⟨fl4,L4⟩,e4,e2⟩:=aB.mp e2
   refine X5 ⟨WI_ X.K D fl L' (Ir tc fb m),fun σ5 H5 h5=>⟨m,dZ _,h5⟩,?_⟩
   refine ⟨α3,δ2,L3,A3,S2.mono g3,fl4,L4,e4,?_⟩
   cases fl4 with
   | nx δ5=>exact fun σ5 H5 α5 g5 A5 S5=>⟨α5,δ5,L4,A5,S5,e2,q2.from (g3.trans g5)⟩
   | ct δ5=>exact fun σ5 H5 α5 g5 A5 S5=>⟨α5,δ5,L4,A5,S5,e2,q2.from (g3.trans g5)⟩
   | bk δ5=>cases e2;exact fun σ5 H5 α5 g5 A5 S5=>q2 σ5 H5 α5 (g3.trans g5) A5 S5
   | rt w=>cases e2;exact fun v H5 α5 g5 A5 r5=>q2 v H5 α5 (g3.trans g5) A5 r5
end
noncomputable def fnU(n m:Nat)(body:FS):FN:=fun us L=>if us.length=m then (body (us.map some++bJ (n - us.length) none) L).bind fun p=>match p.1 with
 | .rt u=>some (u,p.2)
 | .nx _=>some (.non,p.2)
 | _=>none
 else none
variable {P:cU}{w:eD}
section
variable {mg:Str->Option aF}{base:Heap}
theorem Fun.okF{x qual:Str}{st:Stmt}{f:Addr}{fd:dA}{N ps:List Str}{body:FS}(F:Fun K x qual st f fd)(S:FnScope N ps (Am st))
  (hbody:∀ (cdv:aF) (A:dO) (outer:List jQ) (s:aL) (H:Hp) (E:XK),Room k (A.deeper (envOfC qual (Am st) s.heap.objs.size f cdv))->R0 (Vu CX0 P w K mg base N qual (Am st) f cdv A outer s H E).nox (Bp st) body) :
  FnOk P w K mg base CX0 (k+1) f fd ps (spF K ps.length (fnU N.length ps.length body)):=by
 refine F.ok S (fun vs H Q E ⟨α,L,us,A,r,hl,_,_,_,_⟩=>by rw[<- r.length];exact hl) (fun cdv A outer s H vs Q E hr h=>?_)
 obtain ⟨α,L,us,Ab,r,hl,u,L',e,q⟩:=h
 refine ⟨_,hbody cdv A outer s H E hr,?_⟩
 unfold fnU at e
 rw[if_pos hl] at e
 obtain ⟨⟨fl,L1⟩,e1,e⟩:=aB.mp e
 refine ⟨α,_,L,Ab,RepS.start N r,fl,L1,e1,?_⟩
 cases fl with
 | rt w=>cases e;exact q
 | nx δ=>cases e;exact fun σ' H' α' g' A' S'=>q .non H' α' g' A' rfl
 | bk δ=>cases e
 | ct δ=>cases e
end
section
theorem Rr(h:Fg L n=some us):L[n]? = some (.lst us):=by
 unfold Fg at h
 split at h
 ·rename_i e;cases h;exact e
 ·cases h
theorem Nj(A:Abs K H α L)(h:Fg L n=some us):∃ a xs,α[n]? = some a/\H a=some (.lst xs)/\RepL K H α us xs:=by
 obtain ⟨a,ea,xs,e,r⟩:=A.addr (Rr h)
 exact ⟨a,xs,ea,e,r⟩
theorem Fm(A:Abs K H α L)(h:Ao L n=some us):∃ a xs,α[n]? = some a/\SqL K H a xs/\RepL K H α us xs:=by
 unfold Ao at h
 split at h
 ·rename_i e;cases h
  obtain ⟨a,ea,xs,e,r⟩:=A.addr e
  exact ⟨a,xs,ea,.of e,r⟩
 ·rename_i e;cases h
  obtain ⟨a,ea,xs,e,r⟩:=A.addr e
  exact ⟨a,xs,ea,e.sq,r⟩
 ·cases h
theorem Abs.setL{ys:List V}{ws:List U}(A:Abs K H α L)(h:Fg L n=some us)(ea:α[n]? = some a)(e:H a=some (.lst xs))(r:RepL K H α ws ys) :
  Gr H α (upd H a (.lst ys)) α/\Abs K (upd H a (.lst ys)) α (L.set n (.lst ws)):=by
 have g:Gr H α (upd H a (.lst ys)) α:=⟨⟨[],by simp⟩,.write e (by exact trivial) _⟩
 obtain ⟨A',_⟩:=A.put (o:=.lst ys) (u:=.lst ws) ea (Rr h) rfl rfl e (by exact trivial) ⟨ys,upd_same,r.mono g⟩
 exact ⟨g,A'⟩
theorem RepU.ref_of(A:Abs K H α L)(h:RepU K H α (.ref n) x):∃ a,α[n]? = some a/\x = .ref a:=by unfold RepU at h;exact h
end
noncomputable def Ax:S2:=fun u w L=>match u,w with
 | .int i,.int j=>some (.int (i+j),L)
 | .str a,.str b=>if small (a.length+b.length)=true then some (.str (a++b),L) else none
 | .tup a,.tup b=>if a.isEmpty=false/\small (a.length+b.length)=true then some (.tup (a++b),L) else none
 | .ref n,.ref m=>(Fg L n).bind fun a=>(Fg L m).bind fun b=>if small (a.length+b.length)=true then some (.ref L.length,L++[.lst (a++b)]) else none
 | _,_=>none
noncomputable def Ake(K:aH):R2:=fun x y H Q=>rI0 (fun i j=>.int (i+j)) x y H Q\/(∃ i j,x = .str i/\y = .str j/\i.length+j.length<=sizeLine/\Q (.str (i++j)) H)\/Aj3 K x y H Q\/Aoy x y H Q
theorem By:OpR X (fX .Add) (Ake X.K):=Al0.or (Xi.or (Ahy.or Alx))
theorem Bx:C1 K (Ake K) Ax:=by
 intro H α L u w x y z L' Q A ru rw e q
 unfold Ax at e
 split at e
 ·cases e
  unfold RepU at ru rw
  exact .inl ⟨_,_,ru,rw,q _ H α (.refl _ _) A rfl⟩
 ·split at e
  ·rename_i h
   cases e
   unfold RepU at ru rw
   exact .inr (.inl ⟨_,_,ru,rw,E5 h,q _ H α (.refl _ _) A rfl⟩)
  ·cases e
 ·rename_i a b
  split at e
  ·rename_i h
   cases e
   unfold RepU at ru rw
   obtain ⟨p,xs,rfl,s1,r1⟩:=ru
   obtain ⟨p2,ys,rfl,s2,r2⟩:=rw
   have e1:=r1.length
   have e2:=r2.length
   refine .inr (.inr (.inl ⟨p,p2,xs,ys,rfl,rfl,s1,s2,?_,by rw[<- e1,<- e2];exact E5 h.2,fun hy=>?_,fun hy l hl=>?_⟩))
   ·intro hx;subst hx
    cases a with
    | nil=>simp at h
    | cons _ _=>simp at e1
   ·subst hy
    have hb:b=[]:=by
     cases b with
     | nil=>rfl
     | cons _ _=>simp at e2
    subst hb
    refine q _ H α (.refl _ _) A ?_
    unfold RepU
    exact ⟨p,xs,rfl,s1,by rw[bG];exact r1⟩
   ·obtain ⟨g,A',r⟩:=A.tup (r1.append r2) hl
    exact q _ _ α g A' r
  ·cases e
 ·rename_i n m
  obtain ⟨a,ha,e⟩:=aB.mp e
  obtain ⟨b,hb,e⟩:=aB.mp e
  split at e
  ·rename_i h
   cases e
   obtain ⟨p,xs,e1,h1,r1⟩:=Nj A ha
   obtain ⟨p2,ys,e2,h2,r2⟩:=Nj A hb
   obtain ⟨p',e1',rfl⟩:=ru.ref_of A
   obtain ⟨p2',e2',rfl⟩:=rw.ref_of A
   rw[e1] at e1';cases e1'
   rw[e2] at e2';cases e2'
   refine .inr (.inr (.inr ⟨p,p2,xs,ys,rfl,rfl,h1,h2,by rw[<- r1.length,<- r2.length];exact E5 h,fun l hl=>?_⟩))
   obtain ⟨g,A',r⟩:=A.lst (r1.append r2) hl
   exact q _ _ _ g A' r
  ·cases e
 ·cases e
noncomputable def Abq(C:Int->Int->Bool)(g:Int->Int->U):S2:=fun u w L=>match u,w with
 | .int i,.int j=>if C i j=true then some (g i j,L) else none
 | _,_=>none
theorem Aas{C:Int->Int->Prop}{Cb:Int->Int->Bool}{g:Int->Int->V}{g':Int->Int->U}(hC:∀ i j,Cb i j=true->C i j)(hg:∀ i j H α,RepU K H α (g' i j) (g i j)):C1 K (rI C g) (Abq Cb g'):=by
 intro H α L u w x y z L' Q A ru rw e q
 unfold Abq at e
 split at e
 ·split at e
  ·rename_i h
   cases e
   unfold RepU at ru rw
   exact ⟨_,_,ru,rw,hC _ _ h,q _ H α (.refl _ _) A (hg _ _ _ _)⟩
  ·cases e
 ·cases e
noncomputable def Qt(g:Int->Int->U):S2:=fun u w L=>match u,w with
 | .int i,.int j=>some (g i j,L)
 | _,_=>none
theorem Pu{g:Int->Int->V}{g':Int->Int->U}(hg:∀ i j H α,RepU K H α (g' i j) (g i j)):C1 K (rI0 g) (Qt g'):=by
 intro H α L u w x y z L' Q A ru rw e q
 unfold Qt at e
 split at e
 ·cases e
  unfold RepU at ru rw
  exact ⟨_,_,ru,rw,q _ H α (.refl _ _) A (hg _ _ _ _)⟩
 ·cases e
noncomputable def Pk:S2:=Qt fun i j=>.int (i - j)
theorem Aaq:C1 K (rI0 fun i j=>.int (i - j)) Pk:=Pu fun _ _ _ _=>rfl
noncomputable def Hq(i j:Int):Bool:=(decide (-(2 ^ 64) < i)&&decide (i < 2 ^ 64)) || (decide (-(2 ^ 64) < j)&&decide (j < 2 ^ 64))
noncomputable def Bo:S2:=fun u w L=>match u,w with
 | .int i,.int j=>if Hq i j=true then some (.int (i * j),L) else none
 | .str a,.int j=>if a.length<=1000/\-1000<=j/\j<=1000 then some (.str (lH a j),L) else none
 | .ref n,.int k=>(Fg L n).bind fun a=>if -1000000<=k/\k<=1000000/\small (a.length * k.toNat)=true then some (.ref L.length,L++[.lst (bJ k.toNat a).flatten]) else none
 | _,_=>none
noncomputable def Akf:R2:=fun x y H Q=>rI CMul (fun i j=>.int (i * j)) x y H Q\/(∃ a j,x = .str a/\y = .int j/\MulOk a j/\Q (.str (lH a j)) H)\/An3 x y H Q
theorem Yg:OpR X (fX .Mult) (fun x y H Q=>∃ a j,x = .str a/\y = .int j/\MulOk a j/\Q (.str (lH a j)) H):=by
 intro pins s σ H x y v u Q I rx ry h
 obtain ⟨a,j,rfl,rfl,hok,q⟩:=h
 obtain ⟨t,rfl⟩:=rx
 obtain ⟨t',rfl⟩:=ry
 exact SB.mul hok fun t' k=>⟨.str (lH a j),H,I.tok _,⟨_,rfl⟩,q⟩
theorem Ec:OpR X (fX .Mult) Akf:=Akr.or (Yg.or Ak1)
theorem RepL.flat(h:RepL K H α us xs):∀ k:Nat,RepL K H α (bJ k us).flatten (bJ k xs).flatten
 | 0=>.nil
 | k+1=>by rw[fH,fH,hZ,hZ];exact h.append (RepL.flat h k)
theorem Eb:C1 K Akf Bo:=by
 intro H α L u w x y z L' Q A ru rw e q
 unfold Bo at e
 split at e
 ·rename_i i j
  split at e
  ·rename_i h
   cases e
   unfold RepU at ru rw
   refine .inl ⟨_,_,ru,rw,?_,q _ H α (.refl _ _) A rfl⟩
   simp only[Hq,oJ,cE,decide_eq_true_eq] at h
   exact h
  ·cases e
 ·rename_i a j
  split at e
  ·rename_i h
   cases e
   unfold RepU at ru rw
   exact .inr (.inl ⟨_,_,ru,rw,mulOk_of 1000 1000 h.1 (by omega) (by omega) (by decide) (by decide),q _ H α (.refl _ _) A rfl⟩)
  ·cases e
 ·rename_i n k
  obtain ⟨a,ha,e⟩:=aB.mp e
  split at e
  ·rename_i h
   cases e
   obtain ⟨p,xs,e1,h1,r1⟩:=Nj A ha
   obtain ⟨p',e1',rfl⟩:=ru.ref_of A
   rw[e1] at e1';cases e1'
   unfold RepU at rw
   refine .inr (.inr ⟨p,k,xs,rfl,rw,h1,by omega,by omega,by rw[<- r1.length];exact E5 h.2.2,fun l hl=>?_⟩)
   obtain ⟨g,A',r⟩:=A.lst (r1.flat k.toNat) hl
   exact q _ _ _ g A' r
  ·cases e
 ·cases e
noncomputable def Aem(i j:Int):Prop:=0 < j/\j < 1152921504606846976
theorem Mq:OpR X (fX .FloorDiv) (rI Aem fun i j=>.int (i / j)):=opI fun i j _ _ _ _ _ hc q=>by
 have h1:(0:Int) < j:=hc.1
 have h2:j < 1152921504606846976:=hc.2
 refine floordiv_int (by omega) (by rw[Int.fdiv_eq_ediv_of_nonneg i (by omega)];exact q) (.inl (PyProof.noPylong_of_log2 ?_))
 have h3:j.natAbs.log2 < 60:=(sE (by omega)).mpr (by omega)
 omega
noncomputable def Sm(i j:Int):Bool:=decide (0 < j)&&decide (j < 1152921504606846976)
noncomputable def Hx:S2:=Abq Sm fun i j=>.int (i / j)
theorem O1:C1 K (rI Aem fun i j=>.int (i / j)) Hx:=Aas (fun i j h=>by simpa[Sm,Aem] using h) fun _ _ _ _=>rfl
noncomputable def C5:S2:=Abq (fun _ j=>decide (0 < j)) fun i j=>.int (i % j)
theorem Ha:C1 K (rI (fun _ j=>0 < j) fun i j=>.int (i % j)) C5:=Aas (fun i j h=>by simpa using h) fun _ _ _ _=>rfl
noncomputable def Tn(i j:Int):Bool:=decide (0<=j)&&decide (j<=1000000)&&decide (i.natAbs < 2 ^ 64)
noncomputable def Dh:S2:=Abq Tn fun i j=>.int (i ^ j.toNat)
theorem He:C1 K (rI An6 fun i j=>.int (i ^ j.toNat)) Dh:=Aas (fun i j h=>by simp[Tn] at h;exact ⟨h.1.1,h.1.2,h.2⟩) fun _ _ _ _=>rfl
noncomputable def Tf:S2:=Qt fun i j=>.bl (decide (i<=j))
noncomputable def Aef:S2:=Qt fun i j=>.bl (decide (j < i))
noncomputable def Q1:S2:=Qt fun i j=>.bl (decide (j<=i))
noncomputable def Hv:S2:=Qt fun i j=>.bl (decide (i < j))
theorem Xu:C1 K (rI0 fun i j=>.bl (decide (i<=j))) Tf:=Pu fun _ _ _ _=>rfl
theorem Alc:C1 K (rI0 fun i j=>.bl (decide (j < i))) Aef:=Pu fun _ _ _ _=>rfl
theorem Ala:C1 K (rI0 fun i j=>.bl (decide (j<=i))) Q1:=Pu fun _ _ _ _=>rfl
theorem Uz:C1 K (rI0 fun i j=>.bl (decide (i < j))) Hv:=Pu fun _ _ _ _=>rfl
noncomputable def mapO{β γ:Type}(f:β->Option γ):List β->Option (List γ)
 | []=>some []
 | u::r=>(f u).bind fun d=>(mapO f r).map fun ds=>d::ds
noncomputable def toP(L:UH):Nat->U->Option tE
 | 0,_=>none
 | _+1,.non=>some .none
 | _+1,.bl b=>some (.bool b)
 | _+1,.int i=>some (.int i)
 | _+1,.str x=>some (.str x)
 | n+1,.tup l=>(mapO (toP L n) l).map .tuple
 | n+1,.ref k=>(Ao L k).bind fun l=>(mapO (toP L n) l).map .list
variable {pins:List (Addr×Obj)}
section
variable {s:aL}
theorem Tw(ih:∀ (u:U) (x:V) (v:aF) (d:tE),RepU X.K H α u x->RelV x v->toP L n u=some d->∃ as,Reads s.heap v d as):∀ (l:List U) (xs:List V) (vs:List aF) (ds:List tE),RepL X.K H α l xs->Vals xs vs->mapO (toP L n) l=some ds->∃ as,ReadsAll s.heap vs ds as
 | [],xs,vs,ds,r,hv,e=>by
  unfold RepL at r;subst r;cases hv;cases e;exact ⟨_,.nil⟩
 | u::l,xs,vs,ds,r,hv,e=>by
  unfold RepL at r
  obtain ⟨x,xr,rfl,r1,r2⟩:=r
  cases hv with
  | cons h1 h2=>
   obtain ⟨d,e1,e⟩:=aB.mp e
   obtain ⟨dr,e2,e⟩:=aG.mp e
   subst e
   obtain ⟨as,q1⟩:=ih u x _ d r1 h1 e1
   obtain ⟨bs,q2⟩:=Tw ih l xr _ dr r2 h2 e2
   exact ⟨_,.cons q1 q2⟩
theorem N0(I:Inv X pins σ H s)(A:Abs X.K H α L):∀ (n:Nat) (u:U) (x:V) (v:aF) (d:tE),RepU X.K H α u x->RelV x v->toP L n u=some d->∃ as,Reads s.heap v d as
 | 0,_,_,_,_,_,_,e=>by cases e
 | n+1,u,x,v,d,r,hv,e=>by
  cases u with
  | non=>unfold RepU at r;subst r;cases hv;cases e;exact ⟨_,.none⟩
  | bl b=>unfold RepU at r;subst r;cases hv;cases e;exact ⟨_,.bool b⟩
  | int i=>unfold RepU at r;subst r;obtain ⟨t,rfl⟩:=hv;cases e;exact ⟨_,.int i t⟩
  | str y=>unfold RepU at r;subst r;obtain ⟨t,rfl⟩:=hv;cases e;exact ⟨_,.str y t⟩
  | tup l=>
   unfold RepU at r
   obtain ⟨a,xs,rfl,sq,r⟩:=r
   cases hv
   unfold toP at e
   obtain ⟨ds,e1,e⟩:=aG.mp e
   subst e
   obtain ⟨its,hv,⟨o,h1,h2,m,h3⟩,_⟩:=I.tuple sq
   obtain ⟨as,q⟩:=Tw (N0 I A n) l xs its ds r hv e1
   exact ⟨_,.tuple h1 h2 h3 (by simpa using q)⟩
  | ref k=>
   unfold RepU at r
   obtain ⟨a,ea,rfl⟩:=r
   cases hv
   unfold toP at e
   obtain ⟨l,hl,e⟩:=aB.mp e
   obtain ⟨ds,e1,e⟩:=aG.mp e
   subst e
   obtain ⟨a',xs,ea',sq,r⟩:=Fm A hl
   rw[ea] at ea';cases ea'
   obtain ⟨its,hv,⟨o,m,h1,h2,_,h3⟩,_⟩:=I.list sq
   obtain ⟨as,q⟩:=Tw (N0 I A n) l xs its ds r hv e1
   exact ⟨_,.list h1 h2 h3 (by simpa using q)⟩
end
noncomputable def eqP(u w:U)(L:UH):Option Bool:=(toP L 8 u).bind fun d=>(toP L 8 w).bind fun e=>if fZ d=true/\fZ e=true then some (eA d e) else none
noncomputable def Acv(K:aH)(neg:Bool):R2:=fun x y H Q=>∃ α L u w b,Abs K H α L/\RepU K H α u x/\RepU K H α w y/\eqP u w L=some b/\Q (.bl (if neg then !b else b)) H
theorem Gz(hu:X.A.units+64 < cLine):OpR X (eE .Eq) (Acv X.K false):=by
 intro pins s σ H x y v u Q I rx ry h
 obtain ⟨α,L,a,b,k,A,ra,rb,e,q⟩:=h
 obtain ⟨d,e1,e⟩:=aB.mp e
 obtain ⟨d2,e2,e⟩:=aB.mp e
 split at e
 ·rename_i hs
  cases e
  obtain ⟨as,q1⟩:=N0 I A 8 a x v d ra rx e1
  obtain ⟨bs,q2⟩:=N0 I A 8 b y u d2 rb ry e2
  exact eq_dataH q1 q2 hs.1 hs.2 hu ⟨.bl _,H,I,rfl,q⟩
 ·cases e
theorem Mc(hu:X.A.units+64 < cLine):OpR X (eE .NotEq) (Acv X.K true):=by
 intro pins s σ H x y v u Q I rx ry h
 obtain ⟨α,L,a,b,k,A,ra,rb,e,q⟩:=h
 obtain ⟨d,e1,e⟩:=aB.mp e
 obtain ⟨d2,e2,e⟩:=aB.mp e
 split at e
 ·rename_i hs
  cases e
  obtain ⟨as,q1⟩:=N0 I A 8 a x v d ra rx e1
  obtain ⟨bs,q2⟩:=N0 I A 8 b y u d2 rb ry e2
  exact ne_dataH q1 q2 hs.1 hs.2 hu ⟨.bl _,H,I,rfl,q⟩
 ·cases e
noncomputable def B7:S2:=fun u w L=>(eqP u w L).map fun b=>(.bl b,L)
noncomputable def Ef:S2:=fun u w L=>(eqP u w L).map fun b=>(.bl (!b),L)
theorem G0:C1 K (Acv K false) B7:=by
 intro H α L u w x y z L' Q A ru rw e q
 obtain ⟨b,e1,e⟩:=aG.mp e
 cases e
 exact ⟨α,_,u,w,b,A,ru,rw,e1,q _ H α (.refl _ _) A rfl⟩
theorem La:C1 K (Acv K true) Ef:=by
 intro H α L u w x y z L' Q A ru rw e q
 obtain ⟨b,e1,e⟩:=aG.mp e
 cases e
 exact ⟨α,_,u,w,b,A,ru,rw,e1,q _ H α (.refl _ _) A rfl⟩
noncomputable def Ot(neg:Bool):S2:=fun u w L=>match u,w with
 | .non,.non=>some (.bl (!neg),L)
 | .bl a,.bl b=>some (.bl (if neg then !(a == b) else a == b),L)
 | .int _,.non=>some (.bl neg,L)
 | .bl _,.non=>some (.bl neg,L)
 | .str _,.non=>some (.bl neg,L)
 | .tup _,.non=>some (.bl neg,L)
 | .ref _,.non=>some (.bl neg,L)
 | _,_=>none
noncomputable def isSome:U->Bool
 | .non=>false
 | _=>true
noncomputable def Al5(neg:Bool):R2:=fun x y H Q=>(y = .non/\Q (.bl (if neg then !decide (x = .non) else decide (x = .non))) H)\/∃ a b,x = .bl a/\y = .bl b/\Q (.bl (if neg then !(a == b) else a == b)) H
theorem Ad7:OpR X (eE .Is) (Al5 false):=Akn.or (by
 intro pins s σ H x y v u Q I rx ry h
 obtain ⟨a,b,rfl,rfl,q⟩:=h
 cases rx;cases ry
 exact is_bool ⟨.bl _,H,I,rfl,q⟩)
theorem Af0(neg:Bool):C1 K (Al5 neg) (Ot neg):=by
 intro H α L u w x y z L' Q A ru rw e q
 unfold Ot at e
 have fin:∀ (k:Bool),x≠.non->w = .non->some (U.bl neg,L)=some (z,L')->Al5 neg x y H Q:=fun _ hx hw e'=>by
  subst hw
  obtain ⟨rfl,rfl⟩:U.bl neg=z/\L=L':=by simpa using e'
  unfold RepU at rw
  subst rw
  refine .inl ⟨rfl,?_⟩
  rw[decide_eq_false hx]
  have:(if neg=true then !false else false)=neg:=by cases neg <;> rfl
  rw[this]
  exact q _ H α (.refl _ _) A rfl
 split at e
 ·cases e
  unfold RepU at ru rw
  subst ru;subst rw
  refine .inl ⟨rfl,?_⟩
  have:(if neg=true then !decide (V.non=V.non) else decide (V.non=V.non)) = !neg:=by cases neg <;> simp
  rw[this]
  exact q _ H α (.refl _ _) A rfl
 ·cases e
  unfold RepU at ru rw
  exact .inr ⟨_,_,ru,rw,q _ H α (.refl _ _) A rfl⟩
 ·unfold RepU at ru;subst ru;exact fin true (fun z=>nomatch z) rfl e
 ·unfold RepU at ru;subst ru;exact fin true (fun z=>nomatch z) rfl e
 ·unfold RepU at ru;subst ru;exact fin true (fun z=>nomatch z) rfl e
 ·unfold RepU at ru;obtain ⟨_,_,rfl,_⟩:=ru;exact fin true (fun z=>nomatch z) rfl e
 ·unfold RepU at ru;obtain ⟨_,_,rfl⟩:=ru;exact fin true (fun z=>nomatch z) rfl e
 ·cases e
theorem RepL.atI{i:Int}(r:RepL K H α us xs)(h:L2.atI us i=some u):∃ x,L2.atI xs i=some x/\RepU K H α u x:=by
 unfold L2.atI at h ⊢
 obtain ⟨j,e1,e2⟩:=aB.mp h
 obtain ⟨x,e3,r3⟩:=r.get e2
 exact ⟨x,by rw[<- r.length,e1];exact e3,r3⟩
noncomputable def Ak:S2:=fun u w L=>match u,w with
 | .tup l,.int i=>(L2.atI l i).map fun z=>(z,L)
 | .ref n,.int i=>(Ao L n).bind fun l=>(L2.atI l i).map fun z=>(z,L)
 | .str x,.int i=>if small x.length=true then (L2.atI x.cps.toList i).map fun c=>(.str ⟨#[c]⟩,L) else none
 | _,_=>none
theorem A0:C1 K (rIx K) Ak:=by
 intro H α L u w x y z L' Q A ru rw e q
 unfold Ak at e
 split at e
 ·obtain ⟨c,e1,e⟩:=aG.mp e
  cases e
  unfold RepU at ru rw
  obtain ⟨a,xs,rfl,sq,r⟩:=ru
  obtain ⟨v,e2,r2⟩:=r.atI e1
  exact .inr (.inl ⟨a,xs,_,v,rfl,rw,sq,e2,q _ H α (.refl _ _) A r2⟩)
 ·obtain ⟨l,hl,e⟩:=aB.mp e
  obtain ⟨c,e1,e⟩:=aG.mp e
  cases e
  obtain ⟨a,xs,ea,sq,r⟩:=Fm A hl
  obtain ⟨a',ea',rfl⟩:=ru.ref_of A
  rw[ea] at ea';cases ea'
  unfold RepU at rw
  obtain ⟨v,e2,r2⟩:=r.atI e1
  exact .inl ⟨a,xs,_,v,rfl,rw,sq,e2,q _ H α (.refl _ _) A r2⟩
 ·split at e
  ·rename_i hs
   obtain ⟨c,e1,e⟩:=aG.mp e
   cases e
   unfold RepU at ru rw
   exact .inr (.inr ⟨_,_,c,ru,rw,E5 hs,e1,q _ H α (.refl _ _) A rfl⟩)
  ·cases e
 ·cases e
noncomputable def W8(l:List U)(lo hi:Option Int):List U:=(l.drop (HT.sIx l.length 0 lo)).take (HT.sIx l.length l.length hi - HT.sIx l.length 0 lo)
theorem RepL.cut(r:RepL K H α us xs)(lo hi:Option Int):RepL K H α (W8 us lo hi) (Vk xs lo hi):=by
 unfold W8 Vk
 rw[r.length]
 exact (r.drop _).take _
noncomputable def G7:SS:=fun u lo hi L=>match u with
 | .tup l=>if HT.sIx l.length 0 lo=0/\HT.sIx l.length l.length hi=l.length then none else some (.tup (W8 l lo hi),L)
 | .ref n=>(Ao L n).map fun l=>(.ref L.length,L++[.lst (W8 l lo hi)])
 | _=>none
noncomputable def Ah9(K:aH):V->Option Int->Option Int->Hp->VK->Prop:=fun x lo hi H Q=>Aox K x lo hi H Q\/Aoa K x lo hi H Q
theorem Qn:SlR X (Ah9 X.K):=Alh.or Ahi
theorem Nv:Afi K (Ah9 K) G7:=by
 intro H α L u x lo hi z L' Q A ru e q
 unfold G7 at e
 split at e
 ·split at e
  ·cases e
  ·rename_i hn
   cases e
   unfold RepU at ru
   obtain ⟨a,xs,rfl,sq,r⟩:=ru
   refine .inl ⟨a,xs,rfl,sq,by rw[<- r.length];exact hn,fun p hp=>?_⟩
   obtain ⟨g,A',r'⟩:=A.tup (r.cut lo hi) hp
   exact q _ _ α g A' r'
 ·obtain ⟨l,hl,e⟩:=aG.mp e
  cases e
  obtain ⟨a,xs,ea,sq,r⟩:=Fm A hl
  obtain ⟨a',ea',rfl⟩:=ru.ref_of A
  rw[ea] at ea';cases ea'
  refine .inr ⟨a,xs,rfl,sq,fun p hp=>?_⟩
  obtain ⟨g,A',r'⟩:=A.lst (r.cut lo hi) hp
  exact q _ _ _ g A' r'
 ·cases e
noncomputable def toV:U->Option V
 | .non=>some .non
 | .bl b=>some (.bl b)
 | .int i=>some (.int i)
 | .str x=>some (.str x)
 | _=>none
theorem Yu{y:V}(r:RepU K H α u x)(h:toV u=some y):x=y/\Ls y=true:=by
 cases u <;> simp only[toV] at h <;> first
  | (cases h;unfold RepU at r;exact ⟨r,rfl⟩)
  | cases h
theorem Tv:∀ {us:List U} {xs ys:List V},RepL K H α us xs->mapO toV us=some ys->xs=ys/\ys.all Ls=true
 | [],xs,ys,r,h=>by unfold RepL at r;subst r;cases h;exact ⟨rfl,rfl⟩
 | u::us,xs,ys,r,h=>by
  unfold RepL at r
  obtain ⟨x,xr,rfl,r1,r2⟩:=r
  obtain ⟨y,e1,h⟩:=aB.mp h
  obtain ⟨yr,e2,h⟩:=aG.mp h
  subst h
  obtain ⟨rfl,h1⟩:=Yu r1 e1
  obtain ⟨rfl,h2⟩:=Tv r2 e2
  exact ⟨rfl,by simp[h1,h2]⟩
noncomputable def Vz(neg:Bool):S2:=fun u w L=>match w with
 | .tup l=>(toV u).bind fun x=>(mapO toV l).map fun xs=>(.bl (if neg then !inV x xs else inV x xs),L)
 | .ref n=>(Ao L n).bind fun l=>(toV u).bind fun x=>(mapO toV l).map fun xs=>(.bl (if neg then !inV x xs else inV x xs),L)
 | .str j=>match u with
  | .str i=>some (.bl (if neg then !(!(fU j i 0 j.length 1).isEmpty) else !(fU j i 0 j.length 1).isEmpty),L)
  | _=>none
 | _=>none
noncomputable def Ao9(K:aH)(neg:Bool):R2:=fun x y H Q=>rIn K neg x y H Q\/∃ i j,x = .str i/\y = .str j/\Q (.bl (if neg then !(!(fU j i 0 j.length 1).isEmpty) else !(fU j i 0 j.length 1).isEmpty)) H
theorem Acg:OpR X (eE .NotIn) (Ao9 X.K true):=Tx.or Uk
theorem Ak9(neg:Bool):C1 K (Ao9 K neg) (Vz neg):=by
 intro H α L u w x y z L' Q A ru rw e q
 unfold Vz at e
 split at e
 ·obtain ⟨x',e1,e⟩:=aB.mp e
  obtain ⟨xs,e2,e⟩:=aG.mp e
  cases e
  unfold RepU at rw
  obtain ⟨a,ys,rfl,sq,r⟩:=rw
  obtain ⟨rfl,f1⟩:=Yu ru e1
  obtain ⟨rfl,f2⟩:=Tv r e2
  exact .inl ⟨a,ys,rfl,.inr sq,f1,f2,q _ H α (.refl _ _) A rfl⟩
 ·obtain ⟨l,hl,e⟩:=aB.mp e
  obtain ⟨x',e1,e⟩:=aB.mp e
  obtain ⟨xs,e2,e⟩:=aG.mp e
  cases e
  obtain ⟨a,ys,ea,sq,r⟩:=Fm A hl
  obtain ⟨a',ea',rfl⟩:=rw.ref_of A
  rw[ea] at ea';cases ea'
  obtain ⟨rfl,f1⟩:=Yu ru e1
  obtain ⟨rfl,f2⟩:=Tv r e2
  exact .inl ⟨a,ys,rfl,.inl sq,f1,f2,q _ H α (.refl _ _) A rfl⟩
 ·split at e
  ·cases e
   unfold RepU at ru rw
   exact .inr ⟨_,_,ru,rw,q _ H α (.refl _ _) A rfl⟩
  ·cases e
 ·cases e
noncomputable def lenU(u:U)(L:UH):Option Nat:=match u with
 | .str y=>if small y.length=true then some y.length else none
 | .tup l=>some l.length
 | .ref n=>(Ao L n).map mM
 | _=>none
noncomputable def Bd:SC:=fun us L=>match us with
 | [u]=>(lenU u L).map fun (n:Nat)=>(U.int (n:Int),L)
 | _=>none
theorem E9:N3 K (fun xs H Q=>∃ x n,xs=[x]/\Anx K x H n/\Q (.int n) H) Bd:=by
 intro H α L us xs z L' Q A r e q
 unfold Bd at e
 split at e
 ·rename_i u
  obtain ⟨n,e1,e⟩:=aG.mp e
  cases e
  obtain ⟨x,rfl,rx⟩:=r.one
  refine ⟨x,n,rfl,?_,q _ H α (.refl _ _) A rfl⟩
  cases u with
  | str y=>
   unfold lenU at e1
   simp only at e1
   split at e1
   ·rename_i hs;cases e1;unfold RepU at rx;subst rx;exact ⟨E5 hs,rfl⟩
   ·cases e1
  | tup l=>
   cases e1
   unfold RepU at rx
   obtain ⟨a,ys,rfl,sq,r2⟩:=rx
   exact .inr ⟨ys,sq,r2.length⟩
  | ref k=>
   obtain ⟨l,hl,e2⟩:=aG.mp e1
   subst e2
   obtain ⟨a,ys,ea,sq,r2⟩:=Fm A hl
   obtain ⟨a',ea',rfl⟩:=rx.ref_of A
   rw[ea] at ea';cases ea'
   exact .inl ⟨ys,sq,r2.length⟩
  | _=>cases e1
 ·cases e
noncomputable def toI:U->Option Int
 | .int i=>some i
 | _=>none
theorem Gp:∀ {us:List U} {xs:List V} {ns:List Int},RepL K H α us xs->mapO toI us=some ns->xs=ns.map V.int
 | [],xs,ys,r,h=>by unfold RepL at r;subst r;cases h;rfl
 | u::us,xs,ys,r,h=>by
  unfold RepL at r
  obtain ⟨x,xr,rfl,r1,r2⟩:=r
  obtain ⟨y,e1,h⟩:=aB.mp h
  obtain ⟨yr,e2,h⟩:=aG.mp h
  subst h
  cases u <;> simp only[toI] at e1 <;> first
   | (cases e1;unfold RepU at r1;subst r1;rw[Gp r2 e2];rfl)
   | cases e1
noncomputable def Kq:List Int->Int
 | []=>0
 | [a]=>a
 | a::r=>max a (Kq r)
theorem Tu:∀ (ns:List Int) (M:Int),M∈ns->(∀ a,a∈ns->a<=M)->Kq ns=M
 | [],M,h,_=>by cases h
 | [a],M,h,_=>by simp at h;exact h.symm
 | a::b::r,M,h,hm=>by
  show max a (Kq (b::r))=M
  by_cases hb:M∈b::r
  ·rw[Tu (b::r) M hb fun c hc=>hm c (aM _ hc)]
   have:=hm a (aW ..)
   omega
  ·rcases bE.mp h with rfl | h
   ·have hle:∀ (l:List Int),l≠[]->(∀ c,c∈l->c<=M)->Kq l<=M:=by
     intro l
     induction l with
     | nil=>intro h;exact absurd rfl h
     | cons c t ih=>
      intro _ hc
      cases t with
      | nil=>exact hc c (aW ..)
      | cons d t=>
       have h1:=hc c (aW ..)
       have h2:=ih (by simp) fun e he=>hc e (aM _ he)
       show max c (Kq (d::t))<=M
       omega
    have:=hle (b::r) (by simp) fun c hc=>hm c (aM _ hc)
    omega
   ·exact absurd h hb
section
theorem Ads(hc:X.calm=true):CallR X (.builtin "sum") (fun xs H Q=>∃ (p:Addr) (ns:List Int),xs=[.ref p]/\SqL X.K H p (ns.map V.int)/\Q (.int ns.sum) H):=by
 intro pins s σ H xs us Q I r h
 obtain ⟨p,ns,rfl,hq,q⟩:=h
 obtain ⟨u,rfl,rx⟩:=Fe r
 cases rx
 obtain ⟨its,r',pl,hz⟩:=I.list hq
 have hi:fY its ns:=Dm r'
 obtain ⟨m,F⟩:=I.fr
 obtain ⟨xs,hx⟩:=hi.allInts.items
 have hl':s.heap.IsList p (intItems xs):=hx ▸ pl.isList
 refine sum_intListG (I.ok.hd hc) hl' fun h' tk t' hk=>?_
 have e1:ns=xs.toList.map (·.1):=by
  rw[<- pP,<- hx]
  exact (show numsOf its.toArray.toList=ns from hi.numsOf).symm
 have e2:preSum (numAt xs) xs.size=ns.sum:=by
  rw[preSum_eq,gC (by simp),e1]
 rw[e2]
 exact ⟨.int ns.sum,H,I.kept hk,⟨_,rfl⟩,q⟩
theorem Ab7(hc:X.calm=true):CallR X (.builtin "sum") (fun xs H Q=>∃ (p:Addr) (ns:List Int),xs=[.ref p]/\SqT X.K H p (ns.map V.int)/\Q (.int ns.sum) H):=by
 intro pins s σ H xs us Q I r h
 obtain ⟨p,ns,rfl,hq,q⟩:=h
 obtain ⟨u,rfl,rx⟩:=Fe r
 cases rx
 obtain ⟨its,r',pl,hz⟩:=I.tuple hq
 have hi:fY its ns:=Dm r'
 obtain ⟨xs,hx⟩:=hi.allInts.items
 have hl':s.heap.IsTuple p (intItems xs):=hx ▸ pl
 refine PySem.W.ktm_sumG (I.ok.hd hc) hl' fun h' tk t' hk=>?_
 have e1:ns=xs.toList.map (·.1):=by
  rw[<- pP,<- hx]
  exact (show numsOf its.toArray.toList=ns from hi.numsOf).symm
 have e2:preSum (numAt xs) xs.size=ns.sum:=by
  rw[preSum_eq,gC (by simp),e1]
 rw[e2]
 exact ⟨.int ns.sum,H,I.kept hk,⟨_,rfl⟩,q⟩
theorem Su(hc:X.calm=true):CallR X (.builtin "sum") (fun xs H Q=>(∃ (p:Addr) (ns:List Int),xs=[.ref p]/\SqL X.K H p (ns.map V.int)/\Q (.int ns.sum) H)\/∃ (p:Addr) (ns:List Int),xs=[.ref p]/\SqT X.K H p (ns.map V.int)/\Q (.int ns.sum) H):=(Ads hc).or (Ab7 hc)
theorem Adt(hc:X.calm=true):CallR X (.builtin "max") (fun xs H Q=>∃ (p:Addr) (ns:List Int),xs=[.ref p]/\SqL X.K H p (ns.map V.int)/\0 < ns.length/\Q (.int (Kq ns)) H):=by
 intro pins s σ H xs us Q I r h
 obtain ⟨p,ns,rfl,hq,hne,q⟩:=h
 obtain ⟨u,rfl,rx⟩:=Fe r
 cases rx
 obtain ⟨its,r',pl,hz⟩:=I.list hq
 have hi:fY its ns:=Dm r'
 obtain ⟨xs,e⟩:=hi.allInts.items
 have hns:ns=xs.toList.map (·.1):=by rw[<- hi.numsOf,<- pP,<- e]
 have hsz:0 < xs.size:=by
  have h3:=hne;rw[hns,aV,cN] at h3;exact h3
 have hl':s.heap.IsList p (intItems xs):=e ▸ pl.isList
 refine max_intList (I.ok.hd hc) hl' hsz fun v h' tk hv hk=>?_
 obtain ⟨t,rfl⟩:=intItems_at hv
 obtain ⟨h1,h2⟩:=argBest_gt (numAt xs) (xs.size - 1)
 have hM:=Tu ns (numAt xs (argBest (fun i j=>decide (numAt xs i > numAt xs j)) (xs.size - 1))) (by rw[hns,numAt_eq];exact getD_mem (by rw[aV,cN];omega)) (fun a ha=>by
  rw[hns] at ha
  obtain ⟨j,hj,rfl⟩:=mem_getD ha
  rw[aV,cN] at hj
  rw[<- numAt_eq];exact h2 j (by omega))
 rw[hM] at q
 exact ⟨.int _,H,I.kept hk,⟨_,rfl⟩,q⟩
end
noncomputable def Ma:SC:=fun us L=>match us with
 | [.ref n]=>(Ao L n).bind fun l=>(mapO toI l).map fun ns=>(.int ns.sum,L)
 | [.tup l]=>(mapO toI l).map fun ns=>(.int ns.sum,L)
 | _=>none
theorem Iq(A:Abs K H α L)(hl:Ao L n=some l)(rx:RepU K H α (.ref n) x):∃ a ys,x = .ref a/\SqL K H a ys/\RepL K H α l ys:=by
 obtain ⟨a,ys,ea,sq,r2⟩:=Fm A hl
 obtain ⟨a',ea',rfl⟩:=rx.ref_of A
 rw[ea] at ea';cases ea'
 exact ⟨a,ys,rfl,sq,r2⟩
theorem Aax:N3 K (fun xs H Q=>(∃ (p:Addr) (ns:List Int),xs=[.ref p]/\SqL K H p (ns.map V.int)/\Q (.int ns.sum) H)\/∃ (p:Addr) (ns:List Int),xs=[.ref p]/\SqT K H p (ns.map V.int)/\Q (.int ns.sum) H) Ma:=by
 intro H α L us xs z L' Q A r e q
 unfold Ma at e
 split at e
 ·obtain ⟨l,hl,e⟩:=aB.mp e
  obtain ⟨ns,e1,e⟩:=aG.mp e
  cases e
  obtain ⟨x,rfl,rx⟩:=r.one
  obtain ⟨a,ys,rfl,sq,r2⟩:=Iq A hl rx
  rw[Gp r2 e1] at sq
  exact .inl ⟨a,ns,rfl,sq,q _ H α (.refl _ _) A rfl⟩
 ·obtain ⟨ns,e1,e⟩:=aG.mp e
  cases e
  obtain ⟨x,rfl,rx⟩:=r.one
  unfold RepU at rx
  obtain ⟨a,ys,rfl,sq,r2⟩:=rx
  rw[Gp r2 e1] at sq
  exact .inr ⟨a,ns,rfl,sq,q _ H α (.refl _ _) A rfl⟩
 ·cases e
noncomputable def Aa1(g2:Int->Int->Int)(gl:List Int->Int):SC:=fun us L=>match us with
 | [.int i,.int j]=>some (.int (g2 i j),L)
 | [.ref n]=>(Ao L n).bind fun l=>(mapO toI l).bind fun ns=>if ns.isEmpty=true then none else some (.int (gl ns),L)
 | _=>none
noncomputable def N6:SC:=Aa1 (fun i j=>if j > i then j else i) Kq
theorem Am7{g2:Int->Int->Int}{gl:List Int->Int}:N3 K (fun xs H Q=>(∃ i j,xs=[.int i,.int j]/\Q (.int (g2 i j)) H)\/∃ (p:Addr) (ns:List Int),xs=[.ref p]/\SqL K H p (ns.map V.int)/\0 < ns.length/\Q (.int (gl ns)) H) (Aa1 g2 gl):=by
 intro H α L us xs z L' Q A r e q
 unfold Aa1 at e
 split at e
 ·cases e
  obtain ⟨x,y,rfl,rx,ry⟩:=r.two
  unfold RepU at rx ry
  exact .inl ⟨_,_,by rw[rx,ry],q _ H α (.refl _ _) A rfl⟩
 ·obtain ⟨l,hl,e⟩:=aB.mp e
  obtain ⟨ns,e1,e⟩:=aB.mp e
  split at e
  ·cases e
  ·rename_i hne
   cases e
   obtain ⟨x,rfl,rx⟩:=r.one
   obtain ⟨a,ys,rfl,sq,r2⟩:=Iq A hl rx
   rw[Gp r2 e1] at sq
   exact .inr ⟨a,ns,rfl,sq,by cases ns <;> simp_all,q _ H α (.refl _ _) A rfl⟩
 ·cases e
theorem Nn(hc:X.calm=true):CallR X (.builtin "max") (fun xs H Q=>(∃ i j,xs=[.int i,.int j]/\Q (.int (if j > i then j else i)) H)\/∃ (p:Addr) (ns:List Int),xs=[.ref p]/\SqL X.K H p (ns.map V.int)/\0 < ns.length/\Q (.int (Kq ns)) H):=(Acy hc).or (Adt hc)
theorem U0:N3 K (fun xs H Q=>(∃ i j,xs=[.int i,.int j]/\Q (.int (if j > i then j else i)) H)\/∃ (p:Addr) (ns:List Int),xs=[.ref p]/\SqL K H p (ns.map V.int)/\0 < ns.length/\Q (.int (Kq ns)) H) N6:=Am7
noncomputable def Ju:SC:=fun us L=>match us with
 | [.int i]=>some (.int (if i < 0 then -i else i),L)
 | _=>none
theorem Ue:N3 K (fun xs H Q=>∃ i,xs=[.int i]/\Q (.int (if i < 0 then -i else i)) H) Ju:=by
 intro H α L us xs z L' Q A r e q
 unfold Ju at e
 split at e
 ·cases e
  obtain ⟨x,rfl,rx⟩:=r.one
  unfold RepU at rx
  exact ⟨_,by rw[rx],q _ H α (.refl _ _) A rfl⟩
 ·cases e
noncomputable def Nx:SC:=fun us L=>match us with
 | [.int i]=>some (.int i,L)
 | [.bl k]=>some (.int (if k then 1 else 0),L)
 | _=>none
theorem Ai0:N3 K (fun xs H Q=>(∃ i,xs=[.int i]/\Q (.int i) H)\/∃ k,xs=[.bl k]/\Q (.int (if k then 1 else 0)) H) Nx:=by
 intro H α L us xs z L' Q A r e q
 unfold Nx at e
 split at e
 ·cases e
  obtain ⟨x,rfl,rx⟩:=r.one
  unfold RepU at rx
  exact .inl ⟨_,by rw[rx],q _ H α (.refl _ _) A rfl⟩
 ·cases e
  obtain ⟨x,rfl,rx⟩:=r.one
  unfold RepU at rx
  exact .inr ⟨_,by rw[rx],q _ H α (.refl _ _) A rfl⟩
 ·cases e
noncomputable def Ei:SC:=fun us L=>match us with
 | [.ref n]=>(Ao L n).map fun l=>(.tup l,L)
 | [.tup l]=>some (.tup l,L)
 | _=>none
theorem Li:N3 K (fun xs H Q=>∃ p ys,xs=[.ref p]/\((SqL K H p ys/\∀ l,H l=none->Q (.ref l) (upd H l (.tup ys)))\/(SqT K H p ys/\Q (.ref p) H))) Ei:=by
 intro H α L us xs z L' Q A r e q
 unfold Ei at e
 split at e
 ·obtain ⟨l,hl,e⟩:=aG.mp e
  cases e
  obtain ⟨x,rfl,rx⟩:=r.one
  obtain ⟨a,ys,rfl,sq,r2⟩:=Iq A hl rx
  refine ⟨a,ys,rfl,.inl ⟨sq,fun p hp=>?_⟩⟩
  obtain ⟨g,A',r'⟩:=A.tup r2 hp
  exact q _ _ _ g A' r'
 ·cases e
  obtain ⟨x,rfl,rx⟩:=r.one
  have rx':=rx
  unfold RepU at rx
  obtain ⟨a,ys,rfl,sq,r2⟩:=rx
  exact ⟨a,ys,rfl,.inr ⟨sq,q _ H α (.refl _ _) A rx'⟩⟩
 ·cases e
noncomputable def C3:SM:=fun u us L=>match u,us with
 | .ref n,[y]=>(Fg L n).bind fun l=>if decide (l.length < sizeLine)=true then some (.non,L.set n (.lst (l++[y]))) else none
 | _,_=>none
theorem Jt(A:Abs K H α L)(hl:Fg L n=some l)(rx:RepU K H α (.ref n) x):∃ a ys,x = .ref a/\α[n]? = some a/\H a=some (.lst ys)/\RepL K H α l ys:=by
 obtain ⟨a,ys,ea,sq,r2⟩:=Nj A hl
 obtain ⟨a',ea',rfl⟩:=rx.ref_of A
 rw[ea] at ea';cases ea'
 exact ⟨a,ys,rfl,ea,sq,r2⟩
theorem Ho:Uy K Aau C3:=by
 intro H α L u us x xs z L' Q A ru r e q
 unfold C3 at e
 split at e
 ·obtain ⟨l,hl,e⟩:=aB.mp e
  split at e
  ·rename_i hs
   cases e
   obtain ⟨y,rfl,ry⟩:=r.one
   obtain ⟨a,ys,rfl,ea,h,r2⟩:=Jt A hl ru
   obtain ⟨g,A'⟩:=A.setL hl ea h (r2.append (.cons ry .nil))
   exact ⟨a,ys,y,rfl,rfl,h,by rw[<- r2.length];exact of_decide_eq_true hs,q _ _ _ g A' rfl⟩
  ·cases e
 ·cases e
noncomputable def N7:SM:=fun u us L=>match u,us with
 | .ref n,[.int i]=>(Fg L n).bind fun l=>if -(2 ^ 63)<=i/\i < 2 ^ 63 then (seqIndex? i l.length).bind fun k=>(l[k]?).map fun y=>(y,L.set n (.lst (l.eraseIdx k))) else none
 | _,_=>none
theorem Ajd:Uy K Afy N7:=by
 intro H α L u us x xs z L' Q A ru r e q
 unfold N7 at e
 split at e
 ·obtain ⟨l,hl,e⟩:=aB.mp e
  split at e
  ·rename_i hs
   obtain ⟨k,ek,e⟩:=aB.mp e
   obtain ⟨y,ey,e⟩:=aG.mp e
   cases e
   obtain ⟨v,rfl,rv⟩:=r.one
   unfold RepU at rv
   subst rv
   obtain ⟨a,ys,rfl,ea,h,r2⟩:=Jt A hl ru
   obtain ⟨w,ew,rw⟩:=r2.get ey
   obtain ⟨g,A'⟩:=A.setL hl ea h (r2.erase k)
   exact ⟨a,ys,_,k,w,rfl,rfl,h,hs.1,hs.2,by rw[<- r2.length];exact ek,ew,q _ _ _ g A' (rw.mono g)⟩
  ·cases e
 ·cases e
noncomputable def gSub(fo fi:FE):FG:=fun v δ L=>(fo δ L).bind fun p=>(fi δ p.2).bind fun q=>match p.1,q.1 with
 | .ref n,.int k=>(Fg q.2 n).bind fun l=>(ixN l.length k).map fun j=>(δ,q.2.set n (.lst (l.set j v)))
 | _,_=>none
theorem Y0{o i:Expr}{fo fi:FE}(ho:PEF X o fo)(hi:PEF X i fi)(ha:∀ v,assign (.Subscript o i pos) X.env v=(do let ov <- holding [v] (eval o X.env);let iv <- holding [v,ov] (eval i X.env);standAt pos;holding [v,ov,iv] (setItem ov iv v);release [v,ov,iv] []):=by intro _;rfl):PGF X (.Subscript o i pos) (MR.gSub fo fi):=by
 refine PG.imp (Akm ho hi Agr ha) ?_
 rintro v σ H Q ⟨α,δ,L,u,A,S,r,δ',L',e,q⟩
 obtain ⟨⟨o',L1⟩,e1,e⟩:=aB.mp e
 obtain ⟨⟨i',L2⟩,e2,e⟩:=aB.mp e
 refine ⟨α,δ,L,A,S,o',L1,e1,fun x H1 α1 g1 A1 r1=>⟨α1,δ,L1,A1,S.mono g1,i',L2,e2,fun y H2 α2 g2 A2 r2=>?_⟩⟩
 simp only at e
 split at e
 ·obtain ⟨l,hl,e⟩:=aB.mp e
  obtain ⟨j,ej,e⟩:=aG.mp e
  cases e
  unfold RepU at r2
  subst r2
  obtain ⟨a,ys,rfl,ea,h,r3⟩:=Jt A2 hl (r1.mono g2)
  obtain ⟨g,A'⟩:=A2.setL hl ea h (r3.set ((r.mono g1).mono g2) j)
  exact ⟨a,ys,_,j,rfl,rfl,h,by rw[<- r3.length];exact ej,q _ _ _ (g1.trans (g2.trans g)) A' (((S.mono g1).mono g2).mono g)⟩
 ·cases e
noncomputable def Me(u:U)(L:UH):Option String:=match u with
 | .non=>some "NoneType"
 | .bl _=>some "bool"
 | .int _=>some "int"
 | .str _=>some "str"
 | .tup _=>some "tuple"
 | .ref n=>match L[n]? with
  | some (.lst _)=>some "list"
  | some (.ro _)=>some "list"
  | some (.dic _)=>some "dict"
  | _=>none
noncomputable def isT(t c:String):Bool:=t == c || (t == "bool" && c == "int")
noncomputable def T4:List String:=["NoneType","bool","int","str","tuple","list","dict"]
noncomputable def Kit(K:aH)(c:String):Prop:=∀ t∈T4,fF K (.type t) (.type c)=some (isT t c)
theorem U2{c:String}(h1:fF K (.type "NoneType") (.type c)=some (isT "NoneType" c))(h2:fF K (.type "bool") (.type c)=some (isT "bool" c))(h3:fF K (.type "int") (.type c)=some (isT "int" c))
  (h4:fF K (.type "str") (.type c)=some (isT "str" c)) (h5:fF K (.type "tuple") (.type c)=some (isT "tuple" c)) (h6:fF K (.type "list") (.type c)=some (isT "list" c)) (h7:fF K (.type "dict") (.type c)=some (isT "dict" c)):Kit K c:=by
 intro t ht
 simp only[T4,bE,eG,or_false] at ht
 rcases ht with rfl | rfl | rfl | rfl | rfl | rfl | rfl <;> assumption
theorem Ag1:Kit K "bool" := U2 (by with_unfolding_all rfl) (by with_unfolding_all rfl) (by with_unfolding_all rfl) (by with_unfolding_all rfl) (by with_unfolding_all rfl) (by with_unfolding_all rfl) (by with_unfolding_all rfl)
theorem Ajh:Kit K "int" := U2 (by with_unfolding_all rfl) (by with_unfolding_all rfl) (by with_unfolding_all rfl) (by with_unfolding_all rfl) (by with_unfolding_all rfl) (by with_unfolding_all rfl) (by with_unfolding_all rfl)
theorem Aad:Kit K "str" := U2 (by with_unfolding_all rfl) (by with_unfolding_all rfl) (by with_unfolding_all rfl) (by with_unfolding_all rfl) (by with_unfolding_all rfl) (by with_unfolding_all rfl) (by with_unfolding_all rfl)
theorem S7:Kit K "tuple" := U2 (by with_unfolding_all rfl) (by with_unfolding_all rfl) (by with_unfolding_all rfl) (by with_unfolding_all rfl) (by with_unfolding_all rfl) (by with_unfolding_all rfl) (by with_unfolding_all rfl)
noncomputable def TyV(K:aH)(H:Hp)(x:V)(t:String):Prop:=match x with
 | .non=>t = "NoneType"
 | .bl _=>t = "bool"
 | .int _=>t = "int"
 | .str _=>t = "str"
 | .ref a=>(t = "list" /\ ∃ xs,SqL K H a xs)\/(t = "tuple" /\ ∃ xs,SqT K H a xs)\/(t = "dict" /\ ∃ kvs,H a=some (.dK kvs))
 | _=>False
theorem Aeh{c:String}:CallR X (.builtin "isinstance") (fun xs H Q=>∃ x t b,xs=[x,.ty c]/\TyV X.K H x t/\fF X.K (.type t) (.type c)=some b/\Q (.bl b) H):=by
 intro pins s σ H xs us Q I r h
 obtain ⟨x,t,b,rfl,ty,e,q⟩:=h
 obtain ⟨u,w',rfl,rx,ry⟩:=Sj r
 cases ry
 have fin:∀ tk,EP X pins σ Q (.bool b) { s with toks:=tk }:=fun tk=>⟨.bl b,H,I.tok _,rfl,q⟩
 cases x with
 | non=>cases ty;exact Jf I rx (.non) e fin
 | bl y=>cases ty;exact Jf I rx (.bl y) e fin
 | int y=>cases ty;exact Jf I rx (.int y) e fin
 | str y=>cases ty;exact Jf I rx (.str y) e fin
 | ref a=>
  cases (show u=dY a from rx)
  rcases ty with ⟨rfl,ys,sq⟩ | ⟨rfl,ys,sq⟩ | ⟨rfl,kvs,ea⟩
  ·obtain ⟨its,_,⟨o,n,h1,h2,_⟩,_⟩:=I.list sq
   exact dX mK I.kIn ⟨o,h1,h2⟩ e (fun z=>nomatch z) fin
  ·obtain ⟨its,_,⟨o,h1,h2,_⟩,_⟩:=I.tuple sq
   exact dX pV I.kIn ⟨o,h1,h2⟩ e (fun z=>nomatch z) fin
  ·exact Jf I rx (.dK ea) e fin
 | byt y=>cases ty
 | flt y=>cases ty
 | ty y=>cases ty
theorem Acm{t:String}(A:Abs K H α L)(r:RepU K H α u x)(h:Me u L=some t):TyV K H x t/\t∈T4:=by
 cases u with
 | non=>unfold RepU at r;subst r;cases h;exact ⟨rfl,by decide⟩
 | bl b=>unfold RepU at r;subst r;cases h;exact ⟨rfl,by decide⟩
 | int i=>unfold RepU at r;subst r;cases h;exact ⟨rfl,by decide⟩
 | str y=>unfold RepU at r;subst r;cases h;exact ⟨rfl,by decide⟩
 | tup l=>unfold RepU at r;obtain ⟨a,xs,rfl,sq,_⟩:=r;cases h;exact ⟨.inr (.inl ⟨rfl,xs,sq⟩),by decide⟩
 | ref n=>
  unfold RepU at r
  obtain ⟨a,ea,rfl⟩:=r
  unfold Me at h
  simp only at h
  split at h
  ·rename_i e;cases h;obtain ⟨xs,h,_⟩:=A.rep n a _ ea e;exact ⟨.inl ⟨rfl,xs,.of h⟩,by decide⟩
  ·rename_i e;cases h;obtain ⟨xs,h,_⟩:=A.rep n a _ ea e;exact ⟨.inl ⟨rfl,xs,h.sq⟩,by decide⟩
  ·rename_i e;cases h;obtain ⟨xs,h,_⟩:=A.rep n a _ ea e;exact ⟨.inr (.inr ⟨rfl,xs,h⟩),by decide⟩
  ·cases h
noncomputable def Wm(c:String)(f:FE):FE:=fun δ L=>(f δ L).bind fun p=>(Me p.1 p.2).map fun t=>(.bl (isT t c),p.2)
theorem N5{p p2:Pos}{cn:Str}{c:String}(hk:Kit X.K c)(he:PEF X e fe)(hg:Gl X "isinstance")(hm:X.mg "isinstance" = none)(hg2:Gl X cn)(hm2:X.mg cn=none)(hv2:fB cn=some (.type c))
  (hn:cn ≠ "__name__" := by decide) (hdb:(cn == ("__debug__" : Str))=false:=by decide)
  (hs:bS [e,.Name cn p2] X.env=(false,eval e X.env)::bS [.Name cn p2] X.env:=by rfl) (hs2:bS [.Name cn p2] X.env=(false,eval (.Name cn p2) X.env)::bS [] X.env:=by rfl)
  (hpl:(backTo pos (bS [.Name cn p2] X.env)).any (·.1)=false:=by rfl):PEF X (.Call (.Name "isinstance" p) [e,.Name cn p2] [] pos) (Wm c fe):=by
 refine PE.imp (Wn (Aeh (c:=c)) hg hm (by decide +kernel) (Pb he (Pb (Ah8 hg2 hm2 hv2 (v:=.ty c) rfl hn hdb) Xx hs2) hs) (by decide) (by decide) hs hpl) ?_
 rintro σ H Q ⟨α,δ,L,A,S,z,L3,e,q⟩
 obtain ⟨⟨u,L1⟩,e1,e⟩:=aB.mp e
 obtain ⟨t,e2,e⟩:=aG.mp e
 cases e
 refine ⟨α,δ,L,A,S,u,_,e1,fun x H1 α1 g1 A1 r1=>?_⟩
 obtain ⟨h1,h2⟩:=Acm A1 r1 e2
 exact ⟨x,t,_,rfl,h1,hk t h2,q _ H1 α1 g1 A1 rfl⟩
noncomputable def Aeq(H:Hp):Prop:=∀ b,H b=none\/(∃ o xs,H b=some (.frz o (.lst xs)))\/∃ ps,H b=some (.tbl ps)
theorem Only.t(h:Only H):Aeq H:=fun b=>(h b).elim .inl fun z=>.inr (.inl z)
theorem Alp{F:FN}{ns:List Int}{E:XK}(ho:Aeq H)(hT:∀ nm∈Fu,∀ c P,dF K nm=some (c,P)->GoodTab H P (Lj nm))(hS:SqL K H a (ns.map V.int))(h:∃ L',F [.ref 0] [.ro (ns.map U.int)]=some (.bl true,L')):spF K 1 F [.ref a] H (fun v _=>v = .bl true) E:=by
 obtain ⟨L',e⟩:=h
 have ro:RO K H a (ns.map V.int):=by
  rcases hS with (q | ⟨o,q⟩) | q
  ·rcases ho a with z | ⟨o,xs,z⟩ | ⟨ps,z⟩
   ·rw[z] at q;cases q
   ·rw[z] at q;cases q
   ·rw[z] at q;cases q
  ·exact .inl ⟨o,q⟩
  ·exact .inr q
 refine ⟨[a],[.ro (ns.map U.int)],[.ref 0],⟨rfl,fun i j b o o' e1 e2 e3 e4=>?_,fun i b o e1 e2=>?_,hT⟩,.cons ?_ .nil,rfl,.bl true,L',e,fun v H' α' _ _ r=>r⟩
 ·cases i with
  | zero=>cases j with
   | zero=>exact .inl rfl
   | succ j=>simp at e2
  | succ i=>simp at e1
 ·cases i with
  | zero=>simp at e1 e2;subst e1;subst e2;exact ⟨_,ro,RepL.ints ns⟩
  | succ i=>simp at e1
 ·unfold RepU;exact ⟨a,rfl,rfl⟩
theorem Mf(env:jQ):∀ (names:List (Str×iO)) (cs:List (Str×Addr)),(∀ y∈names,y.2 = .free->∃ c,env.cells.lookup y.1=some c)->(∀ x c,cs.lookup x=some c->env.cells.lookup x=some c) ->
  ∃ cl:List (Str×Addr),(forIn names cs fun (x:Str×iO) r=>if (x.2 == iR)=true then do let c <- cellOf env x.1;pure (iP ((x.1,c)::r)) else pure (iP r):Sem (List (Str×Addr)))=pure cl /\
   (∀ x c,cl.lookup x=some c->env.cells.lookup x=some c)/\(∀ y∈names,y.2 = .free->∃ c,cl.lookup y.1=some c)/\∀ x,(∃ c,cs.lookup x=some c)->∃ c,cl.lookup x=some c
 | [],cs,_,h2=>⟨cs,rfl,h2,(fun _ h=>nomatch h),fun _ h=>h⟩
 | (n,k)::r,cs,h1,h2=>by
  cases hk:k == iR with
  | true=>
   have hk':k = .free:=by simpa using hk
   obtain ⟨c,hc⟩:=h1 (n,k) (aW ..) hk'
   have look:∀ x c',List.lookup x ((n,c)::cs)=some c'->env.cells.lookup x=some c':=fun x c' e=>by
    rw[cA] at e
    cases hx:x == n with
    | true => rw [hx] at e; simp at e; subst e; have : x = n := by simpa using hx
              rw[this];exact hc
    | false=>rw[hx] at e;exact h2 x c' e
   obtain ⟨cl,e,p1,p2,p3⟩:=Mf env r ((n,c)::cs) (fun y hy=>h1 y (aM _ hy)) look
   refine ⟨cl,?_,p1,fun y hy hf=>?_,fun x hx=>?_⟩
   ·rw[kO]
    have e0:(cellOf env n:Sem Addr)=pure c:=by unfold cellOf;rw[hc]
    simp only[hk,if_true,e0]
    exact e
   ·rcases bE.mp hy with rfl | hy
    ·exact p3 n ⟨c,by simp⟩
    ·exact p2 y hy hf
   ·refine p3 x ?_
    rw[cA]
    cases hx':x == n with
    | true=>exact ⟨c,rfl⟩
    | false=>exact hx
  | false=>
   obtain ⟨cl,e,p1,p2,p3⟩:=Mf env r cs (fun y hy=>h1 y (aM _ hy)) h2
   refine ⟨cl,?_,p1,fun y hy hf=>?_,p3⟩
   ·rw[kO]
    simp only[hk,bH,if_false]
    exact e
   ·rcases bE.mp hy with rfl | hy
    ·rw[show k=iR from hf] at hk;cases hk
    ·exact p2 y hy hf
variable {scope:iZ}{env:jQ}
theorem Lo(h:∀ y∈scope.names,y.2 = .free->∃ c,env.cells.lookup y.1=some c) :
  ∃ cl,closureFor scope env=pure cl/\(∀ x c,cl.lookup x=some c->env.cells.lookup x=some c)/\∀ y∈scope.names,y.2 = .free->∃ c,cl.lookup y.1=some c:=by
 obtain ⟨cl,e,p1,p2,_⟩:=Mf env scope.names [] h (fun x c e=>by simp at e)
 refine ⟨cl,?_,p1,p2⟩
 unfold closureFor
 show (forIn scope.names [] _ >>= fun cs=>pure cs)=pure cl
 have:(forIn scope.names ([]:List (Str×Addr)) (fun (x:Str×iO) (r:List (Str×Addr))=>if (x.2 == iR)=true then do let c <- cellOf env x.1;pure (iP ((x.1,c)::r)) else pure (iP r)):Sem (List (Str×Addr))) >>= (fun cs=>pure cs)=pure cl:=by rw[e];rfl
 exact this
noncomputable def blk(X:Cx)(scope:iZ)(cl:List (Str×Addr))(C:Addr)(N':List Str)(s2:aL)(H2:Hp)(fp:List Addr)(pins:List (Addr×Obj)):Cx:=
 { X with env:=compEnvC scope cl C X.env,N:=N',s₀:=s2,H₀:=H2,outer:=X.stack,ex:=fp,fn:=fun _=>false,pn:=X.pn++pins,xe:=fun _ _=>False }
theorem HOk.adopt{h:Heap}(x:HOk P w H h)(hn:H a=none)(new:ObjOk P w (upd H a o) h a o):HOk P w (upd H a o) h:=fun b u e=>by
 by_cases hb:b=a
 ·subst hb;rw[upd_same] at e;cases e;exact new
 ·rw[Aq hb] at e
  exact (x b u e).stay (fun c v _ q=>q) (fun c q=>by rw[Aq (Ba q hn)];exact q) fun c xs q=>by rw[Aq (Ba q hn)];exact q
theorem Un.adopt{fs ex:List Addr}{h h1:Heap}(u:Un fs ex H H1 h h1)(hn:H1 a=none)(ha:h.get? a=none):Un fs ex H (upd H1 a o) h h1 where
 keep:=u.keep
 slot:=u.slot
 free:=fun b ob q n hx=>by
  have:b≠a:=fun z=>by rw[z,ha] at q;cases q
  rw[Aq this];exact u.free b ob q n hx
 there:=u.there
 tups:=fun b xs q=>by have q':=u.tups b xs q;rw[Aq (Ba q' hn)];exact q'
 frzs:=fun b ob xs q=>by have q':=u.frzs b ob xs q;rw[Aq (Ba q' hn)];exact q'
 tbls:=fun b ps q=>by
  obtain ⟨m,q'⟩:=u.tbls b ps q
  exact ⟨m,by rw[Aq (Ba q' hn)];exact q'⟩
structure CompSc(X:Cx)(scope:iZ)(N':List Str)(ix:List (Option Nat)):Prop where
 kind:scope.kind = .function
 cell:(scope.names.all fun y=>y.2 != .cell)=true
 loc:(scope.names.all fun y=>y.2 != .local || scope.names.lookup y.1 == some .local)=true
 free:(scope.names.all fun y=>y.2 != .free || (X.env.kindOf y.1 == some .cell || X.env.kindOf y.1 == some .free))=true
 ixs:((N'.zip ix).all fun p=>match p.2 with | none=>true | some i=>(X.N[i]? == some p.1)&&(scope.names.lookup p.1 == some .free))=true
 len:N'.length=ix.length
noncomputable def inner(ix:List (Option Nat))(σ:L2.St):L2.St:=ix.map fun o=>o.bind fun i=>(σ[i]?).join
noncomputable def Aae(J:It)(g:TG)(tt:TT)(te:TE)(σ':L2.St)(H:Hp)(Fin:List V->Hp->Prop):Prop:=∃ W:Nat->Nat->List V->L2.St->Hp->Prop,(∃ m,W 0 m [] σ' H)/\∀ i m acc σ1 H1,W i m acc σ1 H1 ->
 (J.stop i H1/\Fin acc H1)\/(J.go i H1/\∀ x H3,J.yld i H1 x H3->g x σ1 H3 fun σ2 H4=>tt σ2 H4 fun b H5=>
  if b=true then te σ2 H5 fun y H6=>acc.length < sizeLine/\∃ m',m' < m/\W (i+1) m' (acc++[y]) σ2 H6 else ∃ m',m' < m/\W (i+1) m' acc σ2 H5)
variable {s2:aL}{N':List Str}{ix:List (Option Nat)}{cl:List (Str×Addr)}{fp:List Addr}
section
theorem B2{β:Type}{x:Str}{v:β}:∀ {l:List (Str×β)},l.lookup x=some v->(x,v)∈l
 | [],h=>by simp at h
 | (n,k)::r,h=>by
  rw[cA] at h
  cases hx:x == n with
  | true => rw [hx] at h; simp at h; have : x = n := by simpa using hx
            subst this;subst h;exact aW ..
  | false=>rw[hx] at h;exact aM _ (B2 h)
theorem Eh{env:jQ}{x:Str}:∀ {names:List (Str×iO)} {k:iO},(names.map fun (n,k)=>if (k == iR&&env.scope.kind == .function&&env.kindOf n == some .cell) then (n,fQ) else (n,k)).lookup x=some k ->
  names.lookup x=some k\/(names.lookup x=some .free/\k = .cell)
 | [],k,h=>by simp at h
 | (n,k')::r,k,h=>by
  have ih:=@Eh env x r k
  rw[aO] at h
  cases hx:x == n with
  | true=>
   rw[cA,hx]
   simp only at h ⊢
   split at h
   ·rename_i hc
    rw[cA,hx] at h
    simp at h
    simp only[cE] at hc
    have:k' = .free:=by simpa using hc.1.1
    subst this
    exact .inr ⟨rfl,h.symm⟩
   ·rw[cA,hx] at h
    exact .inl h
  | false=>
   rw[cA,hx]
   simp only at h ⊢
   split at h
   ·rw[cA,hx] at h;exact ih h
   ·rw[cA,hx] at h;exact ih h
theorem Ew{env:jQ}{x:Str}:∀ {names:List (Str×iO)},names.lookup x=some .free ->
  (names.map fun (n,k)=>if (k == iR&&env.scope.kind == .function&&env.kindOf n == some .cell) then (n,fQ) else (n,k)).lookup x=some .free\/(names.map fun (n,k)=>if (k == iR&&env.scope.kind == .function&&env.kindOf n == some .cell) then (n,fQ) else (n,k)).lookup x=some .cell
 | [],h=>by simp at h
 | (n,k')::r,h=>by
  have ih:=@Ew env x r
  rw[aO]
  cases hx:x == n with
  | true=>
   rw[cA,hx] at h
   simp at h
   subst h
   simp only
   split
   ·right;rw[cA,hx]
   ·left;rw[cA,hx]
  | false=>
   rw[cA,hx] at h
   have:=ih h
   simp only
   split
   ·rw[cA,hx];exact this
   ·rw[cA,hx];exact this
theorem Adq(S:CompSc X scope N' ix)(hcalm:X.calm=true)(I2:Inv X pins σ H2 s2)(hcl:∀ x c,cl.lookup x=some c->X.env.cells.lookup x=some c)(hcl2:∀ y∈scope.names,y.2 = .free->∃ c,cl.lookup y.1=some c)
  (f2:∀ b∈fp,Fx X pins H2 b) (hfp:∀ b∈fp,b < s2.heap.objs.size) {C:Addr} {h4:Heap} {m:Str->Option aF} {t4:Nat} (hC:s2.heap.objs.size<=C) (hns:h4.Ns C m) (keep:∀ b o,s2.heap.get? b=some o->h4.get? b=some o) :
  Inv (blk X scope cl C N' s2 H2 fp pins) [] (inner ix σ) H2 { s2 with heap:=h4,toks:=t4 }:=by
 have hkindC:(relabel scope X.env).kind = .function:=S.kind
 have ok:(blk X scope cl C N' s2 H2 fp pins).Ok:=
  { mod:=I2.ok.mod
    kind:=hkindC
    glob:=I2.ok.glob
    blt:=I2.ok.blt
    above:=hC
    inj:=fun x y c e1 e2=>I2.ok.inj x y c (hcl x c e1) (hcl y c e2)
    has:=fun x h=>by
     have h':(relabel scope X.env).names.lookup x=some .cell\/(relabel scope X.env).names.lookup x=some .free:=h
     have hfree:scope.names.lookup x=some .free:=by
      rcases h' with h' | h'
      ·rcases Eh h' with q | ⟨q,_⟩
       ·have:=bN.mp S.cell _ (B2 q)
        simp at this
       ·exact q
      ·rcases Eh h' with q | ⟨q,z⟩
       ·exact q
       ·cases z
     exact hcl2 _ (B2 hfree) rfl
    cab:=fun x c h=>by cases h
    hd:=fun _=>I2.ok.hd hcalm
    frames:=I2.ok.frames
    stk:=.inl rfl
    exf:=fun b hb=>⟨bU (aY (hfp b hb) hC),fun x c e=>(f2 b hb).2.2.2.2.1 x c (hcl x c e)⟩
    bs:=fun b o e=>I2.bs b o e
    bsz:=cK I2.ok.bsz I2.sz
    noex:=fun b o e hb=>by
     rcases (f2 b hb).2.2.2.1 with z | z
     ·exact I2.ok.noex b o e z
     ·exact absurd (aY (bD (I2.ok.bs b o e).1) z) (cC _)
    exfs:=fun b hb z=>by
     rcases bE.mp (I2.stkSub b z) with q | q
     ·exact (f2 b hb).2.1 q
     ·exact (f2 b hb).2.2.1 q
    funs:=I2.stack
    frf:=I2.stkFree }
 obtain ⟨m0,hn0,hl0⟩:=id I2.loc
 refine ⟨ok,rfl,I2.bare,Un.kept keep,⟨m,hns,fun j x v e1 e2 e3=>?_⟩,fun x c e=>?_,I2.hok.fresh hC,fun x c e=>I2.freeC x c (hcl x c e),fun p hp=>?_,I2.hok.kept keep,?_⟩
 ·-- a name that the block takes along
  have e1':N'[j]? = some x:=e1
  have e2':(inner ix σ)[j]? = some (some v):=e2
  unfold inner at e2'
  rw[bO] at e2'
  cases hx:ix[j]? with
  | none=>rw[hx] at e2';simp at e2'
  | some o=>
   rw[hx] at e2'
   cases o with
   | none=>simp at e2'
   | some i=>
    simp at e2'
    have hz:(x,some i)∈N'.zip ix:=bV (i:=j) (by rw[jA];exact ⟨e1',hx⟩)
    have hz':=bN.mp S.ixs _ hz
    simp only[cE,beq_iff_eq] at hz'
    obtain ⟨hXN,hfr⟩:=hz'
    have hσ:σ[i]? = some (some v):=by
     cases q:σ[i]? with
     | none=>rw[q] at e2';simp at e2'
     | some o=>rw[q] at e2';simp at e2';rw[e2']
    have hk:=bN.mp S.free _ (B2 hfr)
    simp at hk
    have hvis:Vis X.env.scope x:=by
     rcases hk with q | q
     ·exact .inr (.inl q)
     ·exact .inr (.inr q)
    obtain ⟨u,r,look⟩:=hl0 i x v hXN hσ hvis
    rcases look with ⟨q,_⟩ | ⟨_,c,ec,hc⟩
    ·rcases hk with z | z
     ·rw[z] at q;cases q
     ·rw[z] at q;cases q
    ·obtain ⟨c',ec'⟩:=hcl2 _ (B2 hfr) rfl
     have:c'=c:=by have:=hcl x c' ec';rw[ec] at this;cases this;rfl
     subst this
     refine ⟨u,r,.inr ⟨?_,c',ec',?_⟩⟩
     ·rcases Ew (env:=X.env) hfr with q | q
      ·exact .inr q
      ·exact .inl q
     ·obtain ⟨oc,ho,hd⟩:=hc
      exact ⟨oc,keep _ _ ho,hd⟩
 ·obtain ⟨v,oc,ho,hd⟩:=I2.cell x c (hcl x c e)
  exact ⟨v,oc,keep _ _ ho,hd⟩
 ·have hp':p∈X.pn++pins:=by simpa[blk] using hp
  obtain ⟨q1,q2,q3,q4,q5⟩:=I2.pin p hp'
  refine ⟨keep _ _ q1,q2,bU (aY (bD q1) hC),fun z=>?_,q5⟩
  rcases bE.mp (I2.stkSub p.1 z) with q | q
  ·exact q3 q
  ·exact q4 q
 ·show (inner ix σ).length=N'.length
  rw[S.len];simp[inner]
end
variable {X':Cx}{tt:TT}{elt:Expr}{ifs:List Expr}{te:TE}
section
noncomputable def Oh(X':Cx)(ifs:List Expr)(tt:TT):Prop:=∀ (pins:List (Addr×Obj)) (s:aL) (σ:L2.St) (H:Hp) (Q:Bool->Hp->Prop) (E:aF->aL->Prop),Inv X' pins σ H s->tt σ H Q->(∀ e s,X'.xe e s->E e s) ->
 wpAny (model X'.prog X'.w) X'.A (forIn ifs true fun c r=>if r=true then do let ok <- isTrue c X'.env (eval c X'.env);pure (iP ok) else pure (iP r)) (TP X' pins σ Q) E s
noncomputable def Ahs:TT:=fun _ H Q=>Q true H
theorem Sv:Oh X' [] Ahs:=fun pins s σ H Q E I h _=>wpAny_tests_nil ⟨H,I,h⟩
theorem Np(h:PT X' c tt):Oh X' [c] tt:=fun pins s σ H Q E I q hE=>wpAny_tests_one (dM (h pins s σ H Q I q) (fun _ _ z=>z) hE)
noncomputable def Ce(its:List aF)(n:Nat):Obj:={ cls:=.type "list",data:=.seq its.toArray n }
theorem Sr{it D C:Addr}{J:It}{tn:Nat->Heap->Prop}{g:TG}{Fin:List V->Hp->Prop}{R:rL->aL->Prop}
  (hX:X'.A=X.A/\X'.prog=X.prog/\X'.w=X.w/\X'.K=X.K/\X'.calm=true/\∀ e s,¬ X'.xe e s) (T:Turn X.prog X.w X.K tg J fp it tn) (hg:PG X' tg g) (ht:Oh X' ifs tt) (he:PE X' elt te)
  (hD1:s2.heap.objs.size<=D) (hDC:D≠C) (hC:s2.heap.objs.size<=C) (hfp:∀ b∈fp,Fx X' [] H2 b/\b≠D) (hDf:∀ H,H D=none->Fx X' [] H D)
  {s:aL} {σ1:L2.St} {H1:Hp} {n0:Nat} (I:Inv X' [(D,Ce [] n0)] σ1 H1 s) (st:tn 0 s.heap) (fr:∀ b∈fp,H1 b=none) (hloop:Aae J g tt te σ1 H1 Fin)
  (hR:∀ (s':aL) (σ':L2.St) (H':Hp) (acc:List V) (its:List aF) (n:Nat),Inv X' [(D,Ce its n)] σ' H' s'->Vals acc its->acc.length<=sizeLine->Fin acc H'->R (.ok .next) s') :
  jT (model X.prog X.w) X.A (.compLoop (.ListComp elt [⟨tg,iter,ifs,0⟩] scope pos) 0 (.ref it) (.ref D) X'.env) R s:=by
 obtain ⟨W,⟨m0,w0⟩,turn⟩:=hloop
 obtain ⟨hXA,hXp,hXw,hXK,hXc,hxe⟩:=hX
 have hfpo:∀ (o:Obj) (H:Hp),(∀ b∈fp,H b=none)->∀ b∈fp,Fx X' [(D,o)] H b:=fun o H hn b hb=>by
  obtain ⟨⟨_,q1,q2,q3,q4,q5⟩,q6⟩:=hfp b hb
  refine ⟨hn b hb,q1,q2,q3,q4,fun p hp=>?_⟩
  rcases cT.mp hp with z | z
  ·exact q5 p (dE _ z)
  ·have:p=(D,o):=by simpa using z
   rw[this];exact fun z=>q6 z.symm
 refine codeAny_loop rfl (fun n s=>∃ i acc its k σ1 H1,Inv X' [(D,Ce its k)] σ1 H1 s/\Vals acc its/\acc.length<=sizeLine/\tn i s.heap/\(∀ b∈fp,H1 b=none)/\W i n acc σ1 H1) (fun n s hI=>?_) m0 ⟨0,[],[],n0,σ1,H1,I,.nil,eX _,st,fr,w0⟩
 show wpAny _ X.A ((compTurn (.ListComp elt [⟨tg,iter,ifs,0⟩] scope pos) 0 (.ref it) (.ref D) X'.env).onRaise (fun x=>do noteFrame x X'.env;theTreesLotGoes x)) _ _ s
 refine wpAny_noted ?_
 rw[compTurn_list]
 obtain ⟨i,acc,its,k,σ1,H1,I,hv,hz,st,fr,w1⟩:=hI
 refine aC (mR (aC ?_))
 rcases turn i n acc σ1 H1 w1 with ⟨stop,fin⟩ | ⟨go,step⟩
 ·have h:=T.done X' hXp hXw hXK hXc i _ s σ1 H1 (notedBy (model X.prog X.w) X.A X'.env fun e s'=>R (.error e) s') I (hfpo _ H1 fr) st stop
  rw[hXA] at h
  refine thn h fun r s4 zz=>?_
  obtain ⟨hr,I4⟩:=zz
  subst hr
  exact aU (hR s4 σ1 H1 acc its k I4 hv hz fin)
 ·have h:=T.item X' hXp hXw hXK hXc i _ s σ1 H1 (notedBy (model X.prog X.w) X.A X'.env fun e s'=>R (.error e) s') I (hfpo _ H1 fr) st go
  rw[hXA] at h
  refine thn h fun r s4 zz=>?_
  obtain ⟨u,hr,h4⟩:=zz
  subst hr
  refine aC (thn h4 fun _ s5 zz=>?_)
  obtain ⟨x,H5,I5,r5,y5,st5,fr5⟩:=zz
  have I5':=I5.pinned (hfpo _ H5 fr5) (T.obj _ _ st5)
  have hg5:=hg _ s5 σ1 H5 x u _ I5' r5 (step x H5 y5)
  rw[hXp,hXw,hXA] at hg5
  refine aC (dM hg5 (fun _ s6 zz=>?_) fun e s z=>absurd z (hxe e s))
  obtain ⟨σ6,H6,I6,q6⟩:=zz
  have ht6:=ht _ s6 σ6 H6 _ (notedBy (model X.prog X.w) X.A X'.env fun e s'=>R (.error e) s') I6 q6 (fun e s z=>absurd z (hxe e s))
  rw[hXp,hXw,hXA] at ht6
  refine aC (thn ht6 fun b s7 zz=>?_)
  obtain ⟨H7,I7,q7⟩:=zz
  have back:∀ {σ8:L2.St} {H8:Hp} {s8:aL},Inv X' ([(D,Ce its k)]++Rh fp s5.heap) σ8 H8 s8->tn (i+1) s8.heap/\(∀ b∈fp,H8 b=none)/\s8.heap.get? D=some (Ce its k)/\H8 D=none:=fun {σ8 H8 s8} I8=>by
   refine ⟨T.keep _ _ _ st5 fun b hb o e=>(I8.pin (b,o) (aT _ (aT _ (Ka hb e)))).1,fun b hb=>?_,?_,?_⟩
   ·obtain ⟨o,e,d⟩:=T.obj _ _ st5 b hb
    exact (I8.pin (b,o) (aT _ (aT _ (Ka hb e)))).2.1
   ·exact (I8.pin (D,Ce its k) (aT _ (dE _ (cH.mpr rfl)))).1
   ·exact (I8.pin (D,Ce its k) (aT _ (dE _ (cH.mpr rfl)))).2.1
  cases b with
  | false=>
   obtain ⟨m',hm,w8⟩:=(q7:if false=true then _ else _)
   obtain ⟨st8,fr8,_,_⟩:=back I7
   refine aU ⟨rfl,m',hm,i+1,acc,its,k,σ6,H7,?_,hv,hz,st8,fr8,w8⟩
   exact I7.pins_of fun p hp=>I7.pin p (aT _ (dE _ hp))
  | true=>
   have q7':te σ6 H7 fun y H6=>acc.length < sizeLine/\∃ m',m' < n/\W (i+1) m' (acc++[y]) σ6 H6:=q7
   have he7:=he _ s7 σ6 H7 _ I7 q7'
   rw[hXp,hXw,hXA] at he7
   refine aC (aC (dM he7 (fun y s8 zz=>zz.elim fun v H8 I8 r8 zq=>?_) fun e s z=>absurd z (hxe e s)))
   obtain ⟨hlt,m',hm,w8⟩:=zq
   obtain ⟨st8,fr8,hDo,hDn⟩:=back I8
   have hlen:=hv.length
   have hisl:s8.heap.IsList D its.toArray:=⟨_,hDo,rfl,k,rfl⟩
   refine aC ?_
   obtain ⟨k',hd'⟩:∃ k',bZ (·.push y) (Ce its k)=Ce (its++[y]) k':=⟨_,by simp[Ce,bZ];rfl⟩
   refine eY slot_list_append hisl.typeIs entry_list_append ?_ (args_list_append _ _)
   show wpAny _ _ (updateSeq D (·.push y) >>= fun _=>ret .none) _ _ s8
   refine aC (kP hDo rfl (aU ⟨.none,rfl,?_⟩))
   have hk9:∀ b o,b≠D->s8.heap.get? b=some o->(s8.heap.update D (bZ (·.push y))).get? b=some o:=fun b o hb e=>(dI (h:=s8.heap) (a:=D) ..).2 b hb |>.trans e
   have hD9:(s8.heap.update D (bZ (·.push y))).get? D=some (Ce (its++[y]) k'):=by
    rw[<- hd'];exact kA _ hDo (by rw[hd'];exact Obj.isFreed_of_seq (xs:=(its++[y]).toArray) (n:=k') rfl)
   have I8':Inv X' [] σ6 H8 s8:=I8.pins_of fun p hp=>by cases hp
   obtain ⟨d0,d1,d2,d3,d4,d5⟩:=hDf H8 hDn
   have I9:Inv X' [] σ6 H8 { s8 with heap:=s8.heap.update D (bZ (·.push y)) }:=I8'.turned (t':=s8.toks) hk9 hDn d1 d3 d4 d5
   have I10:=I9.pins_of (pins':=[(D,Ce (its++[y]) k')]) fun p hp=>by
    have:p=(D,Ce (its++[y]) k'):=by simpa using hp
    subst this
    exact ⟨hD9,hDn,d1,d2,fun v z=>by simp[Ce] at z⟩
   refine aU (aU ⟨rfl,m',hm,i+1,acc++[v],its++[y],k',σ6,H8,I10,Vals.append hv (.cons r8 .nil),by rw[cG];simp;omega,?_,fr8,w8⟩)
   refine T.keep _ _ _ st8 fun b hb o e=>hk9 b o (hfp b hb).2 e
end
variable {y:Str}{py spos:Pos}
section
noncomputable def Abg(ix:List (Option Nat))(wi:TI)(g:TG)(tt:TT)(te:TE):TE:=fun σ H Q=>wi σ H fun J H1=>Aae J g tt te (inner ix σ) H1 fun acc H2=>∀ p,H2 p=none->Q (.ref p) (upd H2 p (.lst acc))
theorem Si{g:TG}{it:Addr}{J:It}{tn:Nat->Heap->Prop}{E:aF->aL->Prop}{Fin:List V->Hp->Prop}{RR:aF->Addr->rL->aL->Prop}
  (S:CompSc X scope N' ix) (hcalm:X.calm=true) (hcl:∀ x c,cl.lookup x=some c->X.env.cells.lookup x=some c) (hcl2:∀ y∈scope.names,y.2 = .free->∃ c,cl.lookup y.1=some c)
  (hg:∀ C,PG (blk X scope cl C N' s2 H2 fp pins) tg g) (ht:∀ C,Oh (blk X scope cl C N' s2 H2 fp pins) ifs tt) (he:∀ C,PE (blk X scope cl C N' s2 H2 fp pins) elt te)
  (I2:Inv X pins σ H2 s2) (T:Turn X.prog X.w X.K tg J fp it tn) (st2:tn 0 s2.heap) (f2:∀ b∈fp,Fx X pins H2 b) (hloop:Aae J g tt te (inner ix σ) H2 Fin)
  (hRR:∀ (D C:Addr) (s':aL) (H':Hp) (acc:List V),Inv X pins σ (upd H' D (.lst acc)) s'->H' D=none->(∃ m,s'.heap.Ns C m)->(upd H' D (.lst acc)) C=none->Fx X pins (upd H' D (.lst acc)) C->Fin acc H'->RR (.ref D) C (.ok .next) s') :
  wpAny (model X.prog X.w) X.A (newList []) (fun acc s₃=>wpAny (model X.prog X.w) X.A (newFunctionEnv scope X.env.globals cl [] X.env.qual none .none (some X.env)) (fun cenv s₄=>
   jT (model X.prog X.w) X.A (.compStart (.ListComp elt [⟨tg,iter,ifs,0⟩] scope pos) 0 (.ref it) acc { cenv with scope:=relabel scope X.env }) (RR acc cenv.locals) s₄) E s₃) E s2:=by
 have hcell:∀ y∈scope.names,y.2≠.cell:=fun y hy z=>by
  have:=bN.mp S.cell y hy
  rw[z] at this;simp at this
 refine dG (pB hcell (by intro y hy;simp at hy) (fun h₁ hns₁ hsb₁=>?_) S.kind)
 dsimp only at hns₁ hsb₁ ⊢
 generalize hH2:s2.heap.push { cls:=.type "list",dict:=none,data:=.seq ([]:List aF).toArray } = HP at hns₁ hsb₁ ⊢
 have hCs:HP.objs.size=s2.heap.objs.size+1:=by rw[<- hH2,dH]
 have hDC:s2.heap.objs.size≠HP.objs.size:=by rw[hCs];exact bU (dZ _)
 have hCle:s2.heap.objs.size<=HP.objs.size:=by rw[hCs];exact iA _
 have old:∀ b o,s2.heap.get? b=some o->h₁.get? b=some o:=fun b o e=>hsb₁.extBut b o (bU (aY (bD e) hCle)) (aE _ (hH2 ▸ aE _ e))
 have hacc:h₁.get? s2.heap.objs.size=some (Ce [] 0):=hsb₁.extBut _ _ hDC (aE _ (hH2 ▸ bC _ rfl))
 have hfp:∀ b∈fp,b < s2.heap.objs.size:=fun b hb=>by
  obtain ⟨o,e,_⟩:=T.obj _ _ st2 b hb
  exact bD e
 generalize hDg:s2.heap.objs.size=D at hDC hacc
 generalize hCg:HP.objs.size=C at *
 have hDle:s2.heap.objs.size<=D:=nS hDg
 have hD2:s2.heap.get? D=none:=by
  cases q:s2.heap.get? D with
  | none=>rfl
  | some o=>exact absurd (aY (bD q) hDle) (cC _)
 have I4:=Adq (t4:=s2.toks+([]:List (Str×aF)).length) S hcalm I2 hcl hcl2 f2 hfp hCle hns₁ old
 have above:∀ a,s2.heap.objs.size<=a->a∉frs X.stack/\(∀ x c,X.env.cells.lookup x=some c->c≠a)/\(∀ p∈X.pn++pins,p.1≠a)/\a≠X.env.locals:=fun a ha=>by
  refine ⟨fun z=>?_,fun x c e z=>?_,fun p hp z=>?_,?_⟩
  ·rcases bE.mp (I2.stkSub a z) with q | q
   ·exact absurd (aY I2.lt (q ▸ ha)) (cC _)
   ·exact I2.nofs ha q
  ·obtain ⟨v,q⟩:=I2.cell x c e
   exact absurd (aY q.lt (z ▸ ha)) (cC _)
  ·exact absurd (aY (bD (I2.pin p hp).1) (z ▸ ha)) (cC _)
  ·intro z;exact absurd (aY I2.lt (z ▸ ha)) (cC _)
 have hfpX:∀ b∈fp,Fx (blk X scope cl C N' s2 H2 fp pins) [] H2 b/\b≠D:=fun b hb=>by
  obtain ⟨q0,q1,q2,q3,q4,q5⟩:=f2 b hb
  have hlt:=hfp b hb
  refine ⟨⟨q0,bU (aY hlt hCle),fun z=>?_,.inl hb,fun x c e=>q4 x c (hcl x c e),fun p hp=>q5 p (by simpa[blk] using hp)⟩,bU (aY hlt hDle)⟩
  rcases bE.mp (I2.stkSub b z) with q | q
  ·exact q1 q
  ·exact q2 q
 have hDf:∀ H:Hp,H D=none->Fx (blk X scope cl C N' s2 H2 fp pins) [] H D:=fun H hn=>by
  obtain ⟨a1,a2,a3,a4⟩:=above D hDle
  exact ⟨hn,hDC,a1,.inr hDle,fun x c e=>a2 x c (hcl x c e),fun p hp=>a3 p (by simpa[blk] using hp)⟩
 have hDn2:H2 D=none:=I2.hok.fresh hDle
 have I5:Inv (blk X scope cl C N' s2 H2 fp pins) [(D,Ce [] 0)] (inner ix σ) H2 { s2 with heap:=h₁,toks:=s2.toks+([]:List (Str×aF)).length }:=I4.pins_of fun p hp=>by
  have:p=(D,Ce [] 0):=by simpa using hp
  subst this
  obtain ⟨_,d1,d2,_⟩:=hDf H2 hDn2
  exact ⟨hacc,hDn2,d1,d2,fun v z=>by simp[Ce] at z⟩
 have st5:tn 0 h₁:=T.keep _ _ _ st2 fun b _ o e=>old b o e
 have loop:jT (model X.prog X.w) X.A (.compLoop (.ListComp elt [⟨tg,iter,ifs,0⟩] scope pos) 0 (.ref it) (.ref D) (blk X scope cl C N' s2 H2 fp pins).env) (RR (.ref D) C) { s2 with heap:=h₁,toks:=s2.toks+([]:List (Str×aF)).length }:=by
  refine Sr (X':=blk X scope cl C N' s2 H2 fp pins) ⟨rfl,rfl,rfl,rfl,hcalm,fun _ _ z=>z⟩ T (hg C) (ht C) (he C) hDle hDC hCle hfpX hDf I5 st5 (fun b hb=>(f2 b hb).1) hloop ?_
  intro s' σ' H' acc its n I hv hz fin
  obtain ⟨hDo,hDn,_⟩:=I.pin (D,Ce its n) (aT _ (cH.mpr rfl))
  have hbase:Un (frs X.stack) fp H2 H' s2.heap s'.heap:=I.base
  have hok:HOk X.prog X.w (upd H' D (.lst acc)) s'.heap:=HOk.adopt I.hok hDn ⟨hz,its,n,hv,hDo⟩
  have IX:Inv X pins σ (upd H' D (.lst acc)) s':=I2.call' I.os (Un.adopt hbase hDn hD2) hok I.bare fun b hb=>⟨(f2 b hb).2.2.2.1,(f2 b hb).2.1,(f2 b hb).2.2.2.2.1,(f2 b hb).2.2.2.2.2⟩
  obtain ⟨m,hm,_⟩:=I.loc
  have hCn:(upd H' D (.lst acc)) C=none:=by rw[Aq (eP hDC)];exact I.free
  obtain ⟨a1,a2,a3,a4⟩:=above C hCle
  refine hRR D C s' H' acc IX hDn ⟨m,hm⟩ hCn ⟨hCn,a4,fun z=>?_,.inr (cK I2.sz hCle),a2,a3⟩ fin
  exact I2.nofs hCle z
 have e1:({ newEnv scope C X.env.globals cl X.env.qual none .none (some X.env) lP with scope:=relabel scope X.env }:jQ)=(blk X scope cl C N' s2 H2 fp pins).env:=rfl
 exact oA loop (T.self _ 0 _ _ _ st5 loop)
theorem CompSc.names(S:CompSc X scope N' ix):∀ x∈scope.names,x.2 = .local->scope.names.lookup x.1=some .local:=fun x hx hl=>by
 have:=bN.mp S.loc x hx
 rw[hl] at this
 simpa using this
theorem CompSc.clos(S:CompSc X scope N' ix)(ok:X.Ok):∃ cl,closureFor scope X.env=pure cl/\(∀ x c,cl.lookup x=some c->X.env.cells.lookup x=some c)/\∀ y∈scope.names,y.2 = .free->∃ c,cl.lookup y.1=some c:=by
 refine Lo fun y hy hf=>?_
 have:=bN.mp S.free y hy
 rw[hf] at this
 simp at this
 exact ok.has y.1 this
theorem Aar{wi:TI}{g:TG}(S:CompSc X scope N' ix)(hcalm:X.calm=true)(hi:PI X tg iter wi)
  (hg:∀ cl C s2 H2 fp pins,PG (blk X scope cl C N' s2 H2 fp pins) tg g) (ht:∀ cl C s2 H2 fp pins,Oh (blk X scope cl C N' s2 H2 fp pins) ifs tt) (he:∀ cl C s2 H2 fp pins,PE (blk X scope cl C N' s2 H2 fp pins) elt te)
  (hs:∀ x,foldedSetIterable iter X.env x=pure x:=by intro _;rfl):PE X (.ListComp elt [⟨tg,iter,ifs,0⟩] scope pos) (Abg ix wi g tt te):=by
 intro pins s σ H Q I h
 obtain ⟨cl,hclos,hcl,hcl2⟩:=S.clos I.ok
 rw[eval_ListComp]
 refine jG (use:=none) rfl hs hclos S.kind S.names (thn (hi pins s σ H _ I h) fun v s1 h1=>thn h1 fun itv s2 h2=>?_)
 obtain ⟨it,fp,tn,J,H2,e,I2,T,st2,f2,loop⟩:=h2
 subst e
 refine Si (RR:=fun acc C=>compPost (model X.prog X.w) X.A X.xe none (EP X pins σ Q) acc C) S hcalm hcl hcl2 (fun C=>hg cl C s2 H2 fp pins) (fun C=>ht cl C s2 H2 fp pins) (fun C=>he cl C s2 H2 fp pins) I2 T st2 f2 loop ?_
 intro D C s' H' acc IX hDn ⟨m,hm⟩ hCn hC fin
 refine ⟨m,hm,fun h' hsb=>?_⟩
 obtain ⟨c0,c1,c2,c3,c4,c5⟩:=hC
 exact ⟨.ref D,_,IX.turned (t':=s'.toks) (fun b o hb e=>hsb.2 b hb |>.trans e) c0 c1 c3 c4 c5,rfl,fin D hDn⟩
theorem Aah{wi:TI}{g:TG}(hN:X.N.Nodup)(hiN:X.N[i]? = some y)(hx:Loc X.env.scope y)(hf:X.fn y=true\/X.env.scope.names.lookup y=some .local)
  (S:CompSc X scope N' ix) (hcalm:X.calm=true) (hi:PI X tg iter wi)
  (hg:∀ cl C s2 H2 fp pins,PG (blk X scope cl C N' s2 H2 fp pins) tg g) (ht:∀ cl C s2 H2 fp pins,Oh (blk X scope cl C N' s2 H2 fp pins) ifs tt) (he:∀ cl C s2 H2 fp pins,PE (blk X scope cl C N' s2 H2 fp pins) elt te)
  (hsw:swapsWith (.ListComp elt [⟨tg,iter,ifs,0⟩] scope pos) (some (.Name y py)) spos.line X.env=pure true)
  (hs:∀ x,foldedSetIterable iter X.env x=pure x:=by intro _;rfl):PS X (.Assign [.Name y py] (.ListComp elt [⟨tg,iter,ifs,0⟩] scope pos) spos) (Ahp (Abg ix wi g tt te) (Vc i)):=by
 intro pins s σ H Dn I h
 obtain ⟨cl,hclos,hcl,hcl2⟩:=S.clos I.ok
 rw[exec_Assign_Name_used _ _ _ _ hsw]
 refine aC (mR (aC ?_))
 show wpAny _ X.A (do let _ <- comprehension (.ListComp elt [⟨tg,iter,ifs,0⟩] scope pos) scope X.env _ (newList []) false (eval iter X.env) (some (assign (.Name y py) X.env))) _ _ s
 refine aC (dM (jG (Q:=fun _ s'=>SP X pins Dn .next s') (use:=some (assign (.Name y py) X.env)) rfl hs hclos S.kind S.names (thn (hi pins s σ H _ I h) fun v s1 h1=>thn h1 fun itv s2 h2=>?_)) (fun _ s' hq=>aU (aU hq)) fun _ _ e=>e)
 obtain ⟨it,fp,tn,J,H2,e,I2,T,st2,f2,loop⟩:=h2
 subst e
 refine Si (RR:=fun acc C=>compPost (model X.prog X.w) X.A X.xe (some (assign (.Name y py) X.env)) (fun _ s'=>SP X pins Dn .next s') acc C) S hcalm hcl hcl2 (fun C=>hg cl C s2 H2 fp pins) (fun C=>ht cl C s2 H2 fp pins) (fun C=>he cl C s2 H2 fp pins) I2 T st2 f2 loop ?_
 intro D C s' H' acc IX hDn ⟨m,hm⟩ hCn hC fin
 obtain ⟨c0,c1,c2,c3,c4,c5⟩:=hC
 obtain ⟨oC,es,ep,hoC,hdC,hrest⟩:=id hm
 have IP:Inv X (pins++[(C,oC)]) σ (upd H' D (.lst acc)) s':=IX.pins_of fun p hp=>by
  rcases cT.mp hp with z | z
  ·exact IX.pin p (aT _ z)
  ·have:p=(C,oC):=by simpa using z
   subst this
   exact ⟨hoC,c0,c1,c2,fun v z=>by rw[hdC] at z;cases z⟩
 have hq:Vc i (.ref D) σ (upd H' D (.lst acc)) Dn.nx:=fin D hDn
 refine thn (Abk (i:=i) (pos:=py) hN hiN hx hf (pins++[(C,oC)]) s' σ _ (.ref D) (.ref D) Dn.nx IP rfl hq) fun _ s'' zz=>?_
 obtain ⟨σ'',H'',I'',q''⟩:=zz
 obtain ⟨p1,p2,p3,p4,p5⟩:=I''.pin (C,oC) (aT _ (aT _ (cH.mpr rfl)))
 refine ⟨m,⟨oC,es,ep,p1,hdC,hrest⟩,fun h' hsb=>?_⟩
 exact ⟨σ'',H'',(I''.unpinned).turned (t':=s''.toks) (fun b o hb e=>hsb.2 b hb |>.trans e) p2 p3 c3 c4 c5,q''⟩
end
noncomputable def Hw(tt:Option FT):FT:=fun δ L=>match tt with
 | none=>some (true,L)
 | some f=>f δ L
noncomputable def Rq(it:IU)(g:FG)(tt:Option FT)(fe:FE):Nat->Nat->List U->UE->UH->Option (List U×UH)
 | 0,_,_,_,_=>none
 | m+1,k,acc,δ,L=>match it.at k L with
  | none=>none
  | some none=>some (acc,L)
  | some (some u)=>(g u δ L).bind fun p=>(Hw tt p.1 p.2).bind fun q=>if q.1=true then (fe p.1 q.2).bind fun r=>if decide (acc.length < sizeLine)=true then Rq it g tt fe m (k+1) (acc++[r.1]) p.1 r.2 else none
   else Rq it g tt fe m (k+1) acc p.1 q.2
noncomputable def E2(ix:List (Option Nat))(δ:UE):UE:=ix.map fun o=>o.bind fun i=>(δ[i]?).join
noncomputable def Bn(ix:List (Option Nat))(fi:FI)(g:FG)(tt:Option FT)(fe:FE):FE:=fun δ L=>(fi δ L).bind fun p=>(Rq p.1 g tt fe (p.1.size p.2+1) 0 [] (E2 ix δ) p.2).map fun q=>(.ref q.2.length,q.2++[.lst q.1])
theorem RepS.inner(S:RepS K H α δ σ)(ix:List (Option Nat)):RepS K H α (E2 ix δ) (MR.inner ix σ):=by
 refine ⟨by simp[E2,MR.inner],fun j u e=>?_⟩
 unfold E2 at e
 unfold MR.inner
 rw[bO] at e ⊢
 cases hx:ix[j]? with
 | none=>rw[hx] at e;simp at e
 | some o=>
  rw[hx] at e
  cases o with
  | none=>simp at e
  | some i=>
   simp at e
   have:δ[i]? = some (some u):=by
    cases q:δ[i]? with
    | none=>rw[q] at e;simp at e
    | some o=>rw[q] at e;simp at e;rw[e]
   obtain ⟨v,hv,r⟩:=S.at_ i u this
   exact ⟨v,by simp[hv],r⟩
noncomputable def lTo(K:aH)(tt:Option FT):TT:=match tt with
 | none=>Ahs
 | some f=>lT K f
inductive CI(K:aH)(it:IU)(g:FG)(tt:Option FT)(fe:FE)(H1:Hp)(α1:List Addr)(ys:List U)(L2:UH)(k m:Nat)(acc:List V)(σ2:_root_.L2.St)(H2:Hp):Prop
 | mk (α2:List Addr) (δ2:UE) (M:UH) (us:List U) (g2:Gr H1 α1 H2 α2) (A2:Abs K H2 α2 M) (S2:RepS K H2 α2 δ2 σ2) (r2:RepL K H2 α2 us acc) (e:Rq it g tt fe m k us δ2 M=some (ys,L2)):CI K it g tt fe H1 α1 ys L2 k m acc σ2 H2
theorem Nh{g:FG}{tt:Option FT}:∀ σ H Q,lE K (Bn ix fi g tt fe) σ H Q->Abg ix (lI K fi) (lG K g) (lTo K tt) (lE K fe) σ H Q:=by
 rintro σ H Q ⟨α,δ,L,A,S,z,L3,e,q⟩
 obtain ⟨⟨it,L1⟩,e1,e⟩:=aB.mp e
 obtain ⟨⟨ys,L2⟩,e2,e⟩:=aG.mp e
 cases e
 refine ⟨α,δ,L,A,S,it,L1,e1,fun J H1 α1 g1 A1 hJ=>?_⟩
 refine ⟨CI K it g tt fe H1 α1 ys L2,⟨_,α1,_,L1,[],.refl _ _,A1,(S.mono g1).inner ix,.nil,e2⟩,?_⟩
 rintro k m acc σ2 H2 ⟨α2,δ2,M,us,g2,A2,S2,r2,e3⟩
 cases m with
 | zero=>cases e3
 | succ m=>
  obtain ⟨hgo,hstop⟩:=hJ H2 α2 M g2 A2 k
  unfold Rq at e3
  cases hat:it.at k M with
  | none=>rw[hat] at e3;cases e3
  | some o=>
   cases o with
   | none=>
    rw[hat] at e3
    cases e3
    refine .inl ⟨hstop hat,fun p hp=>?_⟩
    obtain ⟨g3,A3,r3⟩:=A2.lst r2 hp
    exact q _ _ _ (g1.trans (g2.trans g3)) A3 r3
   | some u=>
    rw[hat] at e3
    obtain ⟨go,yld⟩:=hgo u hat
    obtain ⟨⟨δ3,L3⟩,e4,e3⟩:=aB.mp e3
    obtain ⟨⟨b,L4⟩,e5,e3⟩:=aB.mp e3
    refine .inr ⟨go,fun x H3 y3=>?_⟩
    obtain ⟨g3,A3,r3⟩:=yld x H3 y3
    refine ⟨α2,δ2,M,u,A3,S2.mono g3,r3,δ3,L3,e4,fun σ4 H4 α4 g4 A4 S4=>?_⟩
    have after:∀ H5 α5,Gr H4 α4 H5 α5->Abs K H5 α5 L4->(if b=true then lE K fe σ4 H5 (fun y H6=>acc.length < sizeLine/\∃ m',m' < m+1/\CI K it g tt fe H1 α1 ys L2 (k+1) m' (acc++[y]) σ4 H6) else ∃ m',m' < m+1/\CI K it g tt fe H1 α1 ys L2 (k+1) m' acc σ4 H5):=fun H5 α5 g5 A5=>by
     have gA:=g2.trans (g3.trans (g4.trans g5))
     have gB:=g3.trans (g4.trans g5)
     cases b with
     | false=>exact Xg ⟨m,dZ _,α5,δ3,L4,us,gA,A5,S4.mono g5,r2.mono gB,e3⟩
     | true=>
      obtain ⟨⟨w,L5⟩,e6,e3⟩:=aB.mp e3
      simp only at e3
      split at e3
      ·rename_i hlt
       refine X5 ⟨α5,δ3,L4,A5,S4.mono g5,w,L5,e6,fun y H6 α6 g6 A6 r6=>?_⟩
       exact ⟨by rw[<- r2.length];exact of_decide_eq_true hlt,m,dZ _,α6,δ3,L5,us++[w],gA.trans g6,A6,(S4.mono g5).mono g6,(r2.mono (gB.trans g6)).append (.cons r6 .nil),e3⟩
      ·cases e3
    cases tt with
    | none=>
     cases e5
     exact after H4 α4 (.refl _ _) A4
    | some f=>exact ⟨α4,δ3,L3,A4,S4,b,L4,e5,fun H5 α5 g5 A5=>after H5 α5 g5 A5⟩
section
variable {g:FG}{ft:FT}
theorem Fp(S:CompSc X scope N' ix)(hcalm:X.calm=true)(hi:PIF X tg iter fi)(hg:∀ cl C s2 H2 fp pins,PGF (blk X scope cl C N' s2 H2 fp pins) tg g)(he:∀ cl C s2 H2 fp pins,PEF (blk X scope cl C N' s2 H2 fp pins) elt fe)
  (hs:∀ x,foldedSetIterable iter X.env x=pure x:=by intro _;rfl):PEF X (.ListComp elt [⟨tg,iter,[],0⟩] scope pos) (Bn ix fi g none fe):=
 PE.imp (Aar (g:=lG X.K g) (te:=lE X.K fe) (tt:=Ahs) S hcalm hi hg (fun _ _ _ _ _ _=>Sv) he hs) Nh
theorem Iv(S:CompSc X scope N' ix)(hcalm:X.calm=true)(hi:PIF X tg iter fi)(hg:∀ cl C s2 H2 fp pins,PGF (blk X scope cl C N' s2 H2 fp pins) tg g)(ht:∀ cl C s2 H2 fp pins,PTF (blk X scope cl C N' s2 H2 fp pins) c ft)(he:∀ cl C s2 H2 fp pins,PEF (blk X scope cl C N' s2 H2 fp pins) elt fe)
  (hs:∀ x,foldedSetIterable iter X.env x=pure x:=by intro _;rfl):PEF X (.ListComp elt [⟨tg,iter,[c],0⟩] scope pos) (Bn ix fi g (some ft) fe):=
 PE.imp (Aar (g:=lG X.K g) (te:=lE X.K fe) (tt:=lT X.K ft) S hcalm hi hg (fun _ _ _ _ _ _=>Np (ht _ _ _ _ _ _)) he hs) (Nh (tt:=some ft))
theorem Agh{fc:FE}{t:TE}(ht:∀ σ H Q,lE K fc σ H Q->t σ H Q):∀ D σ H,lS K (A8 fc (gN i)) D σ H->Ahp t (Vc i) D σ H:=by
 rintro D σ H ⟨α,δ,L,A,S,fl,L',e,q⟩
 obtain ⟨⟨u,L1⟩,e1,e⟩:=aB.mp e
 obtain ⟨⟨δ2,L2⟩,e2,e⟩:=aG.mp e
 cases e
 cases e2
 exact ht σ H _ ⟨α,δ,L,A,S,u,_,e1,fun v H1 α1 g1 A1 r1=>q _ H1 α1 g1 A1 ((S.mono g1).set i r1)⟩
theorem Nl(hN:X.N.Nodup)(S:CompSc X scope N' ix)(hcalm:X.calm=true)(hi:PIF X tg iter fi)(hg:∀ cl C s2 H2 fp pins,PGF (blk X scope cl C N' s2 H2 fp pins) tg g)(he:∀ cl C s2 H2 fp pins,PEF (blk X scope cl C N' s2 H2 fp pins) elt fe)
  (hiN:X.N[i]? = some y:=by rfl) (hx:Loc X.env.scope y:=by first | exact pA rfl | exact mW rfl) (hf:X.fn y=true\/X.env.scope.names.lookup y=some .local:=by first | exact .inl rfl | exact .inr rfl)
  (hsw:swapsWith (.ListComp elt [⟨tg,iter,[],0⟩] scope pos) (some (.Name y py)) spos.line X.env=pure true:=by rfl)
  (hs:∀ x,foldedSetIterable iter X.env x=pure x:=by intro _;rfl):PSF X (.Assign [.Name y py] (.ListComp elt [⟨tg,iter,[],0⟩] scope pos) spos) (A8 (Bn ix fi g none fe) (gN i)):=
 PS.imp (Aah (i:=i) (g:=lG X.K g) (te:=lE X.K fe) (tt:=Ahs) hN hiN hx hf S hcalm hi hg (fun _ _ _ _ _ _=>Sv) he hsw hs) (Agh Nh)
theorem Abw(hN:X.N.Nodup)(S:CompSc X scope N' ix)(hcalm:X.calm=true)(hi:PIF X tg iter fi)(hg:∀ cl C s2 H2 fp pins,PGF (blk X scope cl C N' s2 H2 fp pins) tg g)(ht:∀ cl C s2 H2 fp pins,PTF (blk X scope cl C N' s2 H2 fp pins) c ft)(he:∀ cl C s2 H2 fp pins,PEF (blk X scope cl C N' s2 H2 fp pins) elt fe)
  (hiN:X.N[i]? = some y:=by rfl) (hx:Loc X.env.scope y:=by first | exact pA rfl | exact mW rfl) (hf:X.fn y=true\/X.env.scope.names.lookup y=some .local:=by first | exact .inl rfl | exact .inr rfl)
  (hsw:swapsWith (.ListComp elt [⟨tg,iter,[c],0⟩] scope pos) (some (.Name y py)) spos.line X.env=pure true:=by rfl)
  (hs:∀ x,foldedSetIterable iter X.env x=pure x:=by intro _;rfl):PSF X (.Assign [.Name y py] (.ListComp elt [⟨tg,iter,[c],0⟩] scope pos) spos) (A8 (Bn ix fi g (some ft) fe) (gN i)):=
 PS.imp (Aah (i:=i) (g:=lG X.K g) (te:=lE X.K fe) (tt:=lT X.K ft) hN hiN hx hf S hcalm hi hg (fun _ _ _ _ _ _=>Np (ht _ _ _ _ _ _)) he hsw hs) (Agh (Nh (tt:=some ft)))
end
section
variable {s:aL}{h':Heap}
theorem Inv.turnNew{ch:List Addr}{t':Nat}(I:L2.Inv X pins σ H s)(hch:∀ b∈ch,Fx X pins H b)(k:∀ b o,b∉ch->s.heap.get? b=some o->h'.get? b=some o)(hp:s.heap.objs.size<=p)(new:ObjOk X.prog X.w (upd H p o) h' p o) :
  L2.Inv X pins σ (upd H p o) { s with heap:=h',toks:=t' }:=by
 have hn:H p=none:=I.hok.fresh hp
 have nch:∀ b u,H b=some u->b∉ch:=fun b u e hb=>by rw[(hch b hb).1] at e;cases e
 have st:=Stay.new hn o
 refine I.step (g':=s.gens) (d':=s.drawn) (ch:=ch) (fun b hb=>?_) (fun b o _ _ hc e _=>k b o hc e) (fun b o _ _ hc e _=>⟨o.slots,k b o hc e⟩) (fun b u hc e n=>?_) (fun b u hc e=>⟨u,k b u hc e⟩) st.1 st.2 (fun b ps e=>⟨#[],?_⟩) (fun m hm=>?_) (fun b u e=>?_) I.bare
 ·obtain ⟨_,f1,_,f3,f4,f5⟩:=hch b hb
  exact ⟨f3,f1,f4,f5⟩
 ·rw[Aq (bU (aY (bD e) hp))];exact n
 ·rw[Aq (Ba e hn),e];simp
 ·obtain ⟨o1,es,ep,ho,r⟩:=hm
  exact ⟨o1,es,ep,k _ o1 (fun z=>(hch _ z).2.1 rfl) ho,r⟩
 ·by_cases hb:b=p
  ·subst hb;rw[upd_same] at e;cases e;exact new
  ·rw[Aq hb] at e
   refine (I.hok b u e).stay (fun c v hc q=>k c v ?_ q) (fun c q=>by rw[Aq (Ba q hn)];exact q) fun c xs q=>by rw[Aq (Ba q hn)];exact q
   rcases hc with z | z
   ·rw[z];exact nch b u e
   ·exact nch c _ z
end
noncomputable def Ite(K:aH)(a:Addr):It:=
 ⟨fun i H=>∃ xs x,SqL K H a xs/\xs[i]? = some x,fun i H x H'=>∃ p v,H p=none/\x = .ref p/\H'=upd H p (.tup [.int i,v])/\∀ xs,SqL K H a xs->xs[i]? = some v,fun i H=>∃ xs,SqL K H a xs/\xs.length<=i⟩
theorem Ac5{elts:List Expr}{x1}(a e it:Addr)(hne:e≠it):Turn P w K (.Tuple elts x1 pos) (Ite K a) [e,it] e (fun i h=>(∃ old,IsEnum h e it i old)/\h.IsListIter it a i) where
 mem:=by simp
 obj:=fun i h st b hb=>by
  obtain ⟨⟨old,he⟩,o,ho,hc,hd⟩:=st
  rcases bE.mp hb with rfl | hb
  ·exact ⟨_,he,fun v z=>by simp at z⟩
  ·have:b=it:=by simpa using hb
   subst this
   exact ⟨o,ho,fun v z=>by rw[hd] at z;cases z⟩
 keep:=fun i h h' st k=>by
  obtain ⟨⟨old,he⟩,o,ho,hc,hd⟩:=st
  exact ⟨⟨old,k e (by simp) _ he⟩,o,k it (by simp) _ ho,hc,hd⟩
 item:=by
  intro X hP hw hK hc i pins s σ H E I hf st hg
  subst hP hw hK
  obtain ⟨⟨old,he⟩,hit⟩:=st
  obtain ⟨xs,v,sq,hx⟩:=hg
  obtain ⟨its,hv,pl,hz⟩:=I.list sq
  obtain ⟨u,hu,r⟩:=hv.get hx
  refine wpAny_pyNext_enum_item he hit pl.isList (by simpa using hu) hne fun h' o1 o2 o3 o4 o5=>?_
  refine ⟨_,rfl,?_⟩
  have hfr:H s.heap.objs.size=none:=I.hok.fresh (aQ _)
  have I1:L2.Inv X pins σ (upd H s.heap.objs.size (.tup [.int i,v])) { s with heap:=h',toks:=s.toks+1 }:=
   Inv.turnNew (ch:=[e,it]) I hf (fun b o hb q=>o5 b o (fun z=>hb (by simp[z])) (fun z=>hb (by simp[z])) q) (aQ _)
    (show ObjOk X.prog X.w _ h' _ (.tup [.int i,v]) from ⟨by show 2<=sizeLine;decide,[.int i s.toks,u],.cons ⟨_,rfl⟩ (.cons r .nil),⟨_,o3,rfl,_,rfl⟩⟩)
  refine lY o1 fun h2 e2 sb2=>?_
  have hne2:∀ b∈[e,it],b≠s.heap.objs.size:=fun b hb z=>by
   rcases bE.mp hb with q | q
   ·have:=bD he;rw[<- q,z] at this;exact cC _ this
   ·have q:b=it:=by simpa using q
    obtain ⟨o,ho,_⟩:=hit
    have:=bD ho;rw[<- q,z] at this;exact cC _ this
  have hnone:∀ b∈[e,it],(upd H s.heap.objs.size (.tup [.int i,v])) b=none:=fun b hb=>by rw[Aq (hne2 b hb)];exact (hf b hb).1
  obtain ⟨f0,f1,f2,f3,f4,f5⟩:=hf e (by simp)
  have I2:=I1.turned (t':=s.toks+1) (h':=h2) (it:=e) (fun b o hb q=>sb2.2 b hb |>.trans q) (hnone e (by simp)) f1 f3 f4 f5
  obtain ⟨oi,hoi,hci,hdi⟩:=o2
  refine ⟨.ref s.heap.objs.size,_,I2,rfl,⟨_,v,hfr,rfl,rfl,fun ys sq'=>?_⟩,⟨⟨_,e2⟩,oi,(sb2.2 it (eP hne)).trans hoi,hci,hdi⟩,hnone⟩
  rw[I.list_inj sq' sq];exact hx
 done:=by
  intro X hP hw hK hc i pins s σ H E I hf st hg
  subst hP hw hK
  obtain ⟨⟨old,he⟩,hit⟩:=st
  obtain ⟨xs,sq,hx⟩:=hg
  obtain ⟨its,hv,pl,hz⟩:=I.list sq
  obtain ⟨f0,f1,f2,f3,f4,f5⟩:=hf it (by simp)
  have hlen:=hv.length
  refine wpAny_pyNext_enum_end (I.ok.hd hc) he hit pl.isList (by simp;omega) fun h' eb=>⟨rfl,I.turned (t':=s.toks) (fun b o hb q=>eb b o hb q) f0 f1 f3 f4 f5⟩
 self:=fun _ _ _ _ _ st h=>by obtain ⟨⟨old,he⟩,_⟩:=st;exact jV he h
theorem Adi(n l1 l2:Nat)(h1:l1 < n)(h2:l2 < n):pC (n+4) (n+2) (n+3) n (n+1) l1 l2:=by
 constructor <;> (intro q;exact absurd (show (_:Nat)=_ from q) (by omega))
section
variable {elts:List Expr}{x1:Nat}{tpos:Pos}
theorem Sf:fB "enumerate" = some (.type "enumerate"):=by decide +kernel
theorem Agc:fB "zip" = some (.type "zip"):=by decide +kernel
noncomputable def An8(K:aH)(ta:TA):TI:=fun σ H R=>ta σ H fun vs H1=>∃ a xs,vs=[.ref a]/\SqL K H1 a xs/\R (Ite K a) H1
theorem Ah1{a:Expr}{ta:TA}{p:Pos}(hg:Gl X "enumerate")(hm:X.mg "enumerate" = none)(ha:PA X [a] ta)(hs:bS [a] X.env=[(false,eval a X.env)]:=by rfl):PI X (.Tuple elts x1 tpos) (.Call (.Name "enumerate" p) [a] [] pos) (An8 X.K ta):=by
 intro pins s σ H R I h
 refine Call_ (Fv I hg hm Sf (cZ (thn (ha pos pins s σ H _ I h) fun us s1 ⟨vs,H1,I1,r1,q1⟩=>?_) hs rfl))
 obtain ⟨l,xs,rfl,sq,q⟩:=q1
 obtain ⟨u,rfl,ru⟩:=Fe r1
 cases ru
 obtain ⟨its,hv,pl,hz⟩:=I1.list sq
 refine call_enumerate_list pl.isList fun h' o1 o2 o3 o4=>?_
 have I2:L2.Inv X pins σ H1 { s1 with heap:=h' }:=I1.kept (t':=s1.toks) o4
 refine jV o1 ⟨_,_,_,_,H1,rfl,I2,Ac5 l (s1.heap.objs.size+1) s1.heap.objs.size (iJ (dZ _)),⟨⟨_,o1⟩,o2⟩,fun b hb=>?_,q⟩
 have hb':s1.heap.objs.size<=b:=by
  simp only[bE,eG,or_false] at hb
  rcases hb with rfl | rfl
  ·exact iA _
  ·exact aQ _
 exact L2.Inv.fpOk I1 hb' (I1.hok.fresh hb')
noncomputable def Anl(g:FA):FI:=fun δ L=>(g δ L).bind fun p=>match p.1 with
 | [.ref n]=>(Ao p.2 n).map fun _=>(.enm n,p.2)
 | _=>none
noncomputable def Apw(g:FA):FI:=fun δ L=>(g δ L).bind fun p=>match p.1 with
 | [.ref n,.ref m]=>(Ao p.2 n).bind fun _=>(Ao p.2 m).map fun _=>(.zip2 n m,p.2)
 | _=>none
theorem Qz(A:Abs K H α L)(ea:α[n]? = some a)(h:Ao L n=some us):∃ xs,SqL K H a xs/\RepL K H α us xs:=by
 obtain ⟨a',xs,ea',sq,r⟩:=Fm A h
 rw[ea] at ea';cases ea'
 exact ⟨xs,sq,r⟩
theorem Ah7(hinj:∀ (H:Hp) xs ys,SqL K H a xs->SqL K H a ys->True)(ea:α[n]? = some a):Na K (Ite K a) (.enm n) H α:=by
 intro H2 α2 L2 g A2 k
 have ea2:=g.at ea
 refine ⟨fun u eu=>?_,fun eu=>?_⟩
 ·obtain ⟨us,hs,eu⟩:=aG.mp eu
  obtain ⟨xs,sq,r⟩:=Qz A2 ea2 hs
  obtain ⟨w,hw,eu⟩:=aG.mp eu
  subst eu
  obtain ⟨x,hx,rx⟩:=r.get hw
  refine ⟨⟨xs,x,sq,hx⟩,?_⟩
  rintro y H3 ⟨p,v,hp,rfl,rfl,hy⟩
  have:=hy xs sq
  rw[hx] at this;cases this
  exact A2.tup (.cons rfl (.cons rx .nil)) hp
 ·obtain ⟨us,hs,eu⟩:=aG.mp eu
  obtain ⟨xs,sq,r⟩:=Qz A2 ea2 hs
  have:us[k]? = none:=by simpa using eu
  exact ⟨xs,sq,by rw[<- r.length];exact cP.mp this⟩
end
theorem Qk{β γ:Type}{f g:β->Option γ}:∀ {l:List β},(∀ x∈l,f x=g x)->l.filterMap f=l.filterMap g
 | [],_=>rfl
 | a::l,h=>by rw[fW,fW,h a (aW ..),Qk fun x hx=>h x (aM _ hx)]
theorem Qi{β:Type}:∀ r:List β,((aX r.length).map fun (k:Nat)=>(((r.length:Int) - 1 + -1 * (k:Int)).toNat)).filterMap (r.reverse[·]?)=r
 | []=>rfl
 | a::r=>by
  have ih:=Qi r
  rw[aN,List.range_succ_eq_map,aO,fW]
  have h0:(a::r).reverse[(((r.length+1:Nat):Int) - 1 + -1 * ((0:Nat):Int)).toNat]? = some a:=by
   have:(((r.length+1:Nat):Int) - 1 + -1 * ((0:Nat):Int)).toNat=r.reverse.length:=by rw[bW];omega
   rw[this,eJ,cV (aQ _)]
   simp
  rw[h0]
  simp only
  congr 1
  rw[dD,jL]
  rw[jL] at ih
  refine Eq.trans (Qk fun k hk=>?_) ih
  have hk:=bL.mp hk
  simp only[mX]
  have:(((r.length+1:Nat):Int) - 1 + -1 * ((k.succ:Nat):Int)).toNat=((r.length:Int) - 1 + -1 * (k:Int)).toNat:=by simp only[Nat.succ_eq_add_one];omega
  rw[this,eJ,bK (by rw[bW];omega)]
theorem Pn(its:List aF):slicePick its.toArray none none (some (-1))=its.reverse.toArray:=by
 unfold slicePick
 have e:sliceBounds none none (some (-1)) its.toArray.size=((its.length:Int) - 1,-1,-1):=by simp[sliceBounds]
 rw[e]
 have e2:sliceRange ((its.length:Int) - 1) (-1) (-1)=(aX its.length).map fun (k:Nat)=>(((its.length:Int) - 1 + -1 * (k:Int)).toNat):=by
  unfold sliceRange
  have:(if (-1:Int) > 0 then (if ((its.length:Int) - 1) < -1 then (-1 - ((its.length:Int) - 1) + -1 - 1) / -1 else 0) else (if ((its.length:Int) - 1) > -1 then (((its.length:Int) - 1) - -1 - -1 - 1) / (- -1) else 0)).toNat=its.length:=by
   rw[if_neg (by decide)]
   split
   ·have:(its.length:Int) - 1 - -1 - -1 - 1=its.length:=by omega
    rw[this]
    simp
   ·simp;omega
  simp only[this]
 simp only
 rw[e2]
 have:=Qi its.reverse
 rw[bW,pD] at this
 have h2:(List.filterMap (fun x=>its.toArray[x]?) (List.map (fun (k:Nat)=>(((its.length:Int) - 1 + -1 * (k:Int)).toNat)) (aX its.length)))=its.reverse:=by
  rw[<- this]
  simp
 rw[h2]
theorem Vals.rev{us:List aF}(h:Vals xs us):Vals xs.reverse us.reverse:=by
 induction h with
 | nil=>exact .nil
 | cons h1 _ ih=>rw[eJ,eJ];exact ih.append (.cons h1 .nil)
theorem RepL.rev:∀ {us:List U} {xs:List V},RepL K H α us xs->RepL K H α us.reverse xs.reverse
 | [],xs,r=>by unfold RepL at r;subst r;exact .nil
 | u::us,xs,r=>by
  unfold RepL at r
  obtain ⟨x,xr,rfl,r1,r2⟩:=r
  rw[eJ,eJ]
  exact (RepL.rev r2).append (.cons r1 .nil)
end MR
namespace HT
open PySem PySem.Spec PyProof.Rows
section
variable {prog:cU}{w:eD}{A:dO}{E:aF->aL->Prop}{s:aL}
theorem Nk{sl:Addr}{vs:aF}{n:Nat}{Q:Int×Int×Nat->aL->Prop}(hs:s.heap.IsSliceOf sl .none .none vs)(pu:nW vs (some (-1)))
  (h:Q ((n:Int) - 1,-1,n) s):wpAny (model prog w) A (gO (.ref sl) (pure (n:Int))) Q E s:=by
 obtain ⟨os,hos,hcs,hds⟩:=id hs
 unfold gO mD
 refine aC (aC (dW hos hds (x:=.none) rfl (aC (dW hos hds (x:=.none) rfl (aC (dW hos hds (x:=vs) rfl (aU ?_)))))))
 refine aC (Hy pu ?_)
 show wpAny _ _ (if ((-1:Int) == 0)=true then _ else _) _ _ s
 rw[if_neg (by decide)]
 refine aC (Hy .none (aC (Hy .none (aC (aU ?_)))))
 show wpAny _ _ (match fK none none (-1) (n:Int) with | (lo,hi)=>pure (lo,(-1:Int),dN lo hi (-1))) _ _ s
 have e1:fK none none (-1) (n:Int)=((n:Int) - 1,-1):=rfl
 rw[e1]
 show wpAny _ _ (pure ((n:Int) - 1,(-1:Int),dN ((n:Int) - 1) (-1) (-1))) _ _ s
 have e2:dN ((n:Int) - 1) (-1) (-1)=n:=by
  unfold dN
  rw[if_neg (by decide)]
  split
  ·simp
  ·simp;omega
 rw[e2]
 exact aU h
theorem Ac0(xs:List aF):((aX xs.length).filterMap fun (m:Nat)=>xs.toArray[((xs.length:Int) - 1+(m:Int) * -1).toNat]?).toArray=xs.reverse.toArray:=by
 have:=MR.Qi xs.reverse
 rw[bW,pD,jL] at this
 rw[<- this]
 congr 1
 refine MR.Qk fun k _=>?_
 simp only[mX]
 have:((xs.length:Int) - 1+(k:Int) * -1)=((xs.length:Int) - 1 + -1 * (k:Int)):=by omega
 rw[this]
 simp
theorem Mn{t sl:Addr}{its:List aF}{vs:aF}{Q:aF->aL->Prop}(ht:mJ s.heap t its.toArray)(hs:s.heap.IsSliceOf sl .none .none vs)(pu:nW vs (some (-1)))
  (h:Q (.ref s.heap.objs.size) { s with heap:=s.heap.push { cls:=.type "tuple",data:=.seq its.reverse.toArray } })
  (hsz:its.length<=sizeLine):wpAny (model prog w) A (getItem (.ref t) (.ref sl)) Q E s:=by
 have htake:sizeOk (.seq its.reverse.toArray):=by
  show its.reverse.toArray.size<=sizeLine
  rw[aS,bW];exact hsz
 obtain ⟨os,hos,hcs,hds⟩:=id hs
 have hTs:s.TypeIs (.ref sl) "slice" := ⟨os,hos,hcs⟩
 unfold getItem
 try with_reducible refine eC ?_
 first | refine aC (aU ?_) | skip
 refine aC (qO ht.typeIs (by decide) ?_)
 refine aC (eK (name:=dC "__getitem__") ht.typeIs dS
  (eY dS ht.typeIs pM ?_ (pY _ _)))
 show wpAny _ _ (lV (.ref t) >>= _) _ _ s
 refine aC (tupleItemsOf_ ht ?_)
 refine aC (nX hTs ?_)
 rw[if_pos (by decide)]
 refine aC (Nk hs pu ?_)
 show wpAny _ _ (if ((((its.toArray.size:Nat):Int) - 1) == 0&&(-1:Int) == 1&&its.toArray.size == its.toArray.size)=true then _ else _) _ _ s
 have hno:¬ (((((its.toArray.size:Nat):Int) - 1) == 0&&(-1:Int) == 1&&its.toArray.size == its.toArray.size)=true):=by simp
 rw[if_neg hno]
 have e:((aX its.toArray.size).filterMap fun (m:Nat)=>its.toArray[((its.toArray.size:Int) - 1+(m:Int) * -1).toNat]?).toArray=its.reverse.toArray:=by
  have:=Ac0 its
  simpa using this
 first
  | (rw[e]
     first
      | exact aC (m:=dQ _) (dG (aU ⟨_,rfl,aU h⟩) htake)
      | exact aC (m:=dQ _) (dG (aC (aU (aU ⟨_,rfl,aU h⟩))) htake)
      | exact aC (aC (m:=dQ _) (dG (aU (aU ⟨_,rfl,aU h⟩)) htake))
      | exact aC (aC (m:=dQ _) (dG (aU ⟨_,rfl,aU h⟩) htake)))
end
end HT
namespace MR
open PySem PySem.Spec PyProof.Rows L2
section
variable {X:Cx}{e st:Expr}{fa fs:FE}{p2 pos:Pos}
noncomputable def Rv(f:FE):FE:=fun δ L=>(f δ L).bind fun p=>match p.1 with | .ref n=>(Ao p.2 n).map fun l=>(.ref p.2.length,p.2++[.lst l.reverse]) | .tup l=>some (.tup l.reverse,p.2) | _=>none
theorem Af9(he:PEF X e fa){q1 q2:Pos}{k:Nat}:PEF X (.Subscript e (.Slice none none (some (.UnaryOp .USub (.Constant (.int 1) k q1) q2)) p2) pos) (Rv fa):=by
 rintro pins s σ H Q I ⟨α,δ,L,A,S,z,L3,ee,q⟩
 obtain ⟨⟨u,L1⟩,e1,ee⟩:=aB.mp ee
 refine pZ (thn (he pins s σ H (fun x H1=>∃ α1,Gr H α H1 α1/\Abs X.K H1 α1 L1/\RepU X.K H1 α1 u x) I ⟨α,δ,L,A,S,u,L1,e1,fun x H1 α1 g1 A1 r1=>⟨α1,g1,A1,r1⟩⟩) fun v s1 ⟨x,H1,I1,r1,α1,g1,A1,ru⟩=>?_)
 cases u with
 | ref n=>
  obtain ⟨l,hl,ee⟩:=aG.mp ee
  cases ee
  obtain ⟨a,xs,ea,sq,r⟩:=Fm A1 hl
  obtain ⟨a',ea',rfl⟩:=ru.ref_of A1
  rw[ea] at ea';cases ea'
  cases r1
  have ps:POF X (some (.UnaryOp .USub (.Constant (.int 1) k q1) q2)) (E6 (T5 (fC (.int 1)))):=Fi (P8 Ai)
  refine sC ?_
  rw[mU]
  refine aU (aU ?_)
  refine thn (ps pins s1 σ H1 (fun o H'=>o=some (-1)/\∃ α2,Gr H1 α1 H' α2/\Abs X.K H' α2 L1) I1 ⟨α1,δ,L1,A1,S.mono g1,some (-1),L1,rfl,fun H2 α2 g2 A2=>⟨rfl,α2,g2,A2⟩⟩) fun vs s3 ⟨o,H3,I3,pu,ho,α3,g3,A3⟩=>?_
  subst ho
  have I4:L2.Inv X pins σ H3 { s3 with heap:=s3.heap.push { cls:=.type "slice",data:=.fields #[.none,.none,vs] } }:=I3.kept (t':=s3.toks) fun b ob q=>aE _ q
  obtain ⟨a3,xs3,ea3,sq3,r3⟩:=Fm A3 hl
  have:a3=a:=by
   obtain ⟨ys,hy⟩:=g3.1
   rw[hy,bK (aJ.mp ea).1,ea] at ea3
   exact (bP ea3).symm
  subst this
  obtain ⟨its,rv,ht,hz⟩:=I4.list sq3
  have hlen:=rv.length
  show wpAny (model X.prog X.w) X.A (subscriptTail e (.Slice none none _ p2) (.ref _) (.ref s3.heap.objs.size)) (EP X pins σ Q) X.xe { s3 with heap:=s3.heap.push { cls:=.type "slice",data:=.fields #[.none,.none,vs] } }
  refine sY (ops:=[.ref _,.ref s3.heap.objs.size]) ht.isList.typeIs mN.lookup ?_ (by with_unfolding_all rfl)
  refine mV ht.isList (lW ..) .none .none pu (by simp) ?_ (by rw[aS] <;> omega)
  rw[Pn]
  obtain ⟨g4,A4,r4⟩:=A3.lst r3.rev (I4.hok.fresh (aQ _))
  refine ⟨.ref _,_,I4.laid (t':=s3.toks) (o:=.lst xs3.reverse) (fun b ob q=>aE _ q) (aQ _) ?_,rfl,q _ _ _ (g1.trans (g3.trans g4)) A4 r4⟩
  exact ⟨by rw[bW];exact hz,_,0,Vals.rev rv,bC _ rfl⟩
 | tup l=>
  cases ee
  unfold RepU at ru
  obtain ⟨a,xs,rfl,sq,r⟩:=ru
  cases r1
  have ps:POF X (some (.UnaryOp .USub (.Constant (.int 1) k q1) q2)) (E6 (T5 (fC (.int 1)))):=Fi (P8 Ai)
  refine sC ?_
  rw[mU]
  refine aU (aU ?_)
  refine thn (ps pins s1 σ H1 (fun o H'=>o=some (-1)/\∃ α2,Gr H1 α1 H' α2/\Abs X.K H' α2 L1) I1 ⟨α1,δ,L1,A1,S.mono g1,some (-1),L1,rfl,fun H2 α2 g2 A2=>⟨rfl,α2,g2,A2⟩⟩) fun vs s3 ⟨o,H3,I3,pu,ho,α3,g3,A3⟩=>?_
  subst ho
  have I4:L2.Inv X pins σ H3 { s3 with heap:=s3.heap.push { cls:=.type "slice",data:=.fields #[.none,.none,vs] } }:=I3.kept (t':=s3.toks) fun b ob q=>aE _ q
  have rr:RepU X.K H3 α3 (.tup l) (.ref a):=(show RepU X.K H1 α1 (.tup l) (.ref a) by unfold RepU;exact ⟨a,xs,rfl,sq,r⟩).mono g3
  unfold RepU at rr
  obtain ⟨a3,xs3,ha3,sq3,r3⟩:=rr
  cases ha3
  obtain ⟨its,rv,ht,hz⟩:=I4.tuple sq3
  have hlen:=rv.length
  show wpAny (model X.prog X.w) X.A (subscriptTail e (.Slice none none _ p2) (.ref _) (.ref s3.heap.objs.size)) (EP X pins σ Q) X.xe { s3 with heap:=s3.heap.push { cls:=.type "slice",data:=.fields #[.none,.none,vs] } }
  refine sY (ops:=[.ref _,.ref s3.heap.objs.size]) ht.typeIs dS.lookup ?_ (by with_unfolding_all rfl)
  refine HT.Mn ht (lW ..) pu ?_ (by omega)
  obtain ⟨g4,A4,r4⟩:=A3.tup r3.rev (I4.hok.fresh (aQ _))
  refine ⟨.ref _,_,I4.laid (t':=s3.toks) (o:=.tup xs3.reverse) (fun b ob q=>aE _ q) (aQ _) ?_,rfl,q _ _ _ (g1.trans (g3.trans g4)) A4 r4⟩
  exact ⟨by rw[bW];exact hz,_,Vals.rev rv,TupN.new _ _⟩
 | _=>cases ee
end
structure ClsF(K:aH)(C:Str)(Ca:Addr):Prop where
 ns:bM K bI C=some (some (.ref Ca))
 cl:Cls K Ca
theorem ClsF.eq{K:aH}{C:Str}{Ca Cb:Addr}(T:ClsF K C Ca)(h:bM K bI C=some (some (.ref Cb))):Cb=Ca:=by
 have:=T.ns.symm.trans h
 simpa using this.symm
section
variable {X:Cx}{o e value:Expr}{es:List Expr}{f m C x:Str}{p pos pos' apos:Pos}{Ca fa:Addr}{fd:dA}{ps:List Str}{k n:Nat}{F:FN}{fe fo fv:FE}{g:FA}
end
end MR
namespace ZT
open PySem PySem.Spec PyProof.Rows
open Sem (wp)
noncomputable def SqK(b:Bool)(h:Heap)(l:Addr)(xs:Array aF):Prop:=match b with
 | true=>h.IsList l xs
 | false=>h.IsTuple l xs
noncomputable def ItK(b:Bool)(h:Heap)(jt l:Addr)(k:Nat):Prop:=match b with
 | true=>h.IsListIter jt l k
 | false=>h.IsTupleIter jt l k
variable {b:Bool}{h h':Heap}{l:Addr}{xs:Array aF}
theorem SqK.keep(x:SqK b h l xs)(e:∀ o,h.get? l=some o->h'.get? l=some o):SqK b h' l xs:=by
 cases b with
 | true=>obtain ⟨o,ho,r⟩:=x;exact ⟨o,e _ ho,r⟩
 | false=>obtain ⟨o,ho,r⟩:=x;exact ⟨o,e _ ho,r⟩
variable {jt:Addr}{k:Nat}
theorem ItK.keep(x:ItK b h jt l k)(e:∀ o,h.get? jt=some o->h'.get? jt=some o):ItK b h' jt l k:=by
 cases b with
 | true=>obtain ⟨o,ho,r⟩:=x;exact ⟨o,e _ ho,r⟩
 | false=>obtain ⟨o,ho,r⟩:=x;exact ⟨o,e _ ho,r⟩
theorem ItK.lt(x:ItK b h jt l k):jt < h.objs.size:=by
 cases b with
 | true=>obtain ⟨o,ho,r⟩:=x;exact bD ho
 | false=>obtain ⟨o,ho,r⟩:=x;exact bD ho
theorem ItK.obj(x:ItK b h jt l k):∃ o,h.get? jt=some o/\o.data = .fields #[.ref l,.int k 0]:=by
 cases b with
 | true=>obtain ⟨o,ho,_,r⟩:=x;exact ⟨o,ho,r⟩
 | false=>obtain ⟨o,ho,_,r⟩:=x;exact ⟨o,ho,r⟩
variable {its:Array aF}{Q:aF->aL->Prop}
section
variable {prog:cU}{w:eD}{A:dO}{E:aF->aL->Prop}{s:aL}
theorem V4{t:Addr}{v:aF}(hj:s.heap.IsTupleIter jt t k)(ht:s.heap.IsTuple t its)(hv:its[k]? = some v)
  (hQ:∀ h',h'.IsTupleIter jt t (k+1)->lF jt s.heap h'->Q v { s with heap:=h' }):wpAny (model prog w) A (cY (.ref jt)) Q E s:=by
 obtain ⟨ob,hob,hcl,hda⟩:=id hj
 obtain ⟨ot,hot,_,nt,hdt⟩:=ht
 unfold cY
 refine aC (eK (name:=dC "__next__") hj.typeIs gP (eY gP hj.typeIs lJ ?_ (kQ _)))
 show wpAny _ _ (field (.ref jt) 0 >>= _) _ _ s
 refine aC (dW hob hda (x:=.ref t) rfl ?_)
 show wpAny _ _ (if (dY t == eM)=true then _ else _) _ _ s
 rw[if_neg (show ¬ ((dY t == eM)=true) from (fun z=>cL z))]
 show wpAny _ _ (field (.ref jt) 1 >>= _) _ _ s
 refine aC (dW hob hda (x:=.int k 0) rfl ?_)
 show wpAny _ _ (seqItems? (.ref t) >>= fun z=>_) _ _ s
 refine aC (eU hot hdt ?_)
 simp only[fG,hv]
 refine aC (wpAny_setField hob hda (by simp) (aU ⟨v,rfl,aU (hQ _ ?_ (dI ..))⟩))
 exact ⟨_,kA _ hob (Obj.isFreed_of_fields (qD hda _)),(Obj.cls_mapFields ..).trans hcl,by rw[qD hda];simp[rawInt]⟩
theorem Ro{t:Addr}(hh:A.handled=none)(hj:s.heap.IsTupleIter jt t k)(ht:s.heap.IsTuple t its)(hv:its[k]? = none)
  (hE:∀ h' e,mO jt s.heap h'->(∃ ob,h'.get? e=some ob/\ob.cls = .type "StopIteration")->E (.ref e) { s with heap:=h' }):wpAny (model prog w) A (cY (.ref jt)) Q E s:=by
 obtain ⟨ob,hob,hcl,hda⟩:=id hj
 obtain ⟨ot,hot,_,nt,hdt⟩:=ht
 unfold cY
 refine aC (eK (name:=dC "__next__") hj.typeIs gP (eY gP hj.typeIs lJ ?_ (kQ _)))
 show wpAny _ _ (field (.ref jt) 0 >>= _) _ _ s
 refine aC (dW hob hda (x:=.ref t) rfl ?_)
 show wpAny _ _ (if (dY t == eM)=true then _ else _) _ _ s
 rw[if_neg (show ¬ ((dY t == eM)=true) from (fun z=>cL z))]
 show wpAny _ _ (field (.ref jt) 1 >>= _) _ _ s
 refine aC (dW hob hda (x:=.int k 0) rfl ?_)
 show wpAny _ _ (seqItems? (.ref t) >>= fun z=>_) _ _ s
 refine aC (eU hot hdt ?_)
 simp only[fG,hv]
 refine aC (lZ (aC (wpAny_setField hob hda (by simp) ?_)))
 show wpAny _ _ (newExc (.type "StopIteration") [] >>= fun z=>_) _ _ _
 refine aC ?_
 simp only[newExc,newTuple];refine aC (dG ?_ (by size_fits))
 refine aC (m:=firstArgMember _ _) (wpAny_of_eq (a:=eM) (by first | rfl | (simp only[firstArgMember];rfl)) (dG ?_ (by size_fits)))
 simp only[raiseNew];refine aC (wpAny_handled ?_)
 first | rw[show A.in1.handled=none from hh] | (rw[hh])
 exact aC (aU (wpAny_throw (hE _ _ (((dI ..).extBut.push _).push _) ⟨_,bC _ rfl,rfl⟩)))
theorem Xy{v:aF}(hj:ItK b s.heap jt l k)(hl:SqK b s.heap l its)(hv:its[k]? = some v)
  (hQ:∀ h',ItK b h' jt l (k+1)->lF jt s.heap h'->Q v { s with heap:=h' }):wpAny (model prog w) A (cY (.ref jt)) Q E s:=by
 cases b with
 | true=>exact wpAny_nextOf_list_item hj hl hv hQ
 | false=>exact V4 hj hl hv hQ
theorem Aei(hh:A.handled=none)(hj:ItK b s.heap jt l k)(hl:SqK b s.heap l its)(hv:its[k]? = none)
  (hE:∀ h' e,mO jt s.heap h'->(∃ ob,h'.get? e=some ob/\ob.cls = .type "StopIteration")->E (.ref e) { s with heap:=h' }):wpAny (model prog w) A (cY (.ref jt)) Q E s:=by
 cases b with
 | true=>exact wpAny_nextOf_list_end hh hj hl hv hE
 | false=>exact Ro hh hj hl hv hE
theorem SqK.but{c:Addr}(x:SqK b h l xs)(e:mO c h h')(hne:l≠c):SqK b h' l xs:=x.keep fun o q=>e l o hne q
theorem ItK.but{c:Addr}(x:ItK b h jt l k)(e:mO c h h')(hne:jt≠c):ItK b h' jt l k:=x.keep fun o q=>e jt o hne q
variable {b1 b2:Bool}{z TI TO j1 j2 l1 l2:Addr}{k1 k2:Nat}{ys:Array aF}{a b:aF}
theorem Ahr{x y:aF}(D:pC z TI TO j1 j2 l1 l2)(hz:mB s.heap z TI TO .none)(hI:gW s.heap TI (.ref j1) (.ref j2))(hO:gW s.heap TO a b)
  (h1:ItK b1 s.heap j1 l1 k1) (h2:ItK b2 s.heap j2 l2 k2) (g1:SqK b1 s.heap l1 xs) (g2:SqK b2 s.heap l2 ys) (hx:xs[k1]? = some x) (hy:ys[k2]? = some y)
  (hQ:∀ h',mB h' z TI TO (rawInt s.heap.objs.size)->gW h' TO x y->ItK b1 h' j1 l1 (k1+1)->ItK b2 h' j2 l2 (k2+1)->gW h' s.heap.objs.size x y->h'.objs.size=s.heap.objs.size+1 ->
   (∀ c o,c≠z->c≠TO->c≠j1->c≠j2->s.heap.get? c=some o->h'.get? c=some o)->Q (.ref s.heap.objs.size) { s with heap:=h' }) :
  wpAny (model prog w) A (iW.«zip.__next__» ⟨[.ref z],[]⟩) (fun fin s'=>∃ v,fin = .done (.ret v)/\Q v s') E s:=by
 show wpAny _ _ (field (.ref z) 2 >>= fun q=>_) _ _ _
 refine aC (dW hz rfl (x:=.bool false) rfl ?_);show wpAny _ _ (field (.ref z) 3 >>= _) _ _ _
 refine aC (dW hz rfl (x:=.ref TI) rfl (aC (eU hI rfl ?_)))
 show wpAny _ _ (eV (.ref z) >>= fun q=>_) _ _ _
 refine aC ?_;unfold eV
 refine aC (dW hz rfl (x:=.none) rfl (aU ?_));simp only[if_true]
 refine aC (lZ (aC (dW hz rfl (x:=.ref TO) rfl (aC (gQ hz (by simp) fun p1 z1 s1=>?_)))))
 replace z1:mB p1 z TI TO .ellipsis:=z1
 refine aC ?_;simp only[rR,sL,kO,pE]
 refine aC (aC (mY ?_));show wpAny _ _ (cY (.ref j1) >>= _) _ _ _
 refine aC (Xy (h1.but s1.extBut D.i1z) (g1.but s1.extBut D.l1z) hx fun p2 i2 s2=>aU ?_)
 have O2:gW p2 TO a b:=s2.extBut _ _ D.TOi1 (s1.extBut _ _ D.TOz hO)
 refine aC (eU O2 rfl (aC (kL O2 fun p3 O3 s3=>?_)))
 replace O3:gW p3 TO x b:=O3
 refine aC (iU (aU ?_));refine aC (aC (mY ?_))
 show wpAny _ _ (cY (.ref j2) >>= fun q=>_) _ _ _
 refine aC (Xy (((h2.but s1.extBut D.i2z).but s2.extBut D.i12.symm).but s3.extBut D.TOi2.symm) (((g2.but s1.extBut D.l2z).but s2.extBut D.l2i1).but s3.extBut D.l2TO) hy fun p4 i4 s4=>aU ?_)
 have O4:gW p4 TO x b:=s4.extBut _ _ D.TOi2 O3
 refine aC (eU O4 rfl (aC (kL O4 fun p5 O5 s5=>?_)))
 replace O5:gW p5 TO x y:=O5
 refine aC (iU (aU (aU ?_)));refine aC (eU O5 rfl (aC (pF ?_)))
 have hsz:p5.objs.size=s.heap.objs.size:=by rw[s5.1,s4.1,s3.1,s2.1,s1.1]
 have z5:mB p5 z TI TO .ellipsis:=s5.extBut _ _ D.TOz.symm (s4.extBut _ _ D.i2z.symm (s3.extBut _ _ D.TOz.symm (s2.extBut _ _ D.i1z.symm z1)))
 have k5:∀ c o,c≠z->c≠TO->c≠j1->c≠j2->s.heap.get? c=some o->p5.get? c=some o:=fun c o c1 c2 c3 c4 e=>s5.extBut _ _ c2 (s4.extBut _ _ c4 (s3.extBut _ _ c2 (s2.extBut _ _ c3 (s1.extBut _ _ c1 e))))
 have i15:ItK b1 p5 j1 l1 (k1+1):=((i2.but s3.extBut D.TOi1.symm).but s4.extBut D.i12).but s5.extBut D.TOi1.symm
 have i25:ItK b2 p5 j2 l2 (k2+1):=i4.but s5.extBut D.TOi2.symm
 have zlt:z < p5.objs.size:=bD z5
 show wpAny _ _ (jC (.ref z) (.ref p5.objs.size) >>= fun q=>_) _ _ _
 refine aC ?_;unfold jC
 have z6:mB (p5.push { cls:=.type "tuple",data:=.seq #[x,y] }) z TI TO .ellipsis:=aE _ z5
 refine aC (gQ z6 (by simp) fun p7 z7 s7=>?_)
 replace z7:mB p7 z TI TO (rawInt p5.objs.size):=z7
 refine gQ z7 (by simp) fun p8 z8 s8=>?_
 replace z8:mB p8 z TI TO (rawInt p5.objs.size):=z8
 have up:∀ c o,c≠z->p5.get? c=some o->p8.get? c=some o:=fun c o c1 e=>s8.extBut _ _ c1 (s7.extBut _ _ c1 (aE _ e))
 have t8:gW p8 p5.objs.size x y:=s8.extBut _ _ (iJ zlt) (s7.extBut _ _ (iJ zlt) (bC _ rfl))
 have e8:p8.objs.size=p5.objs.size+1:=by rw[s8.1,s7.1,dH]
 rw[hsz] at z8 t8 e8
 refine aU ⟨_,rfl,?_⟩
 show Q (.ref p5.objs.size) _
 rw[hsz]
 exact hQ p8 z8 (up _ _ D.TOz O5) (i15.keep fun o e=>up _ o D.i1z e) (i25.keep fun o e=>up _ o D.i2z e) t8 e8 fun c o c1 c2 c3 c4 e=>up c o c1 (k5 c o c1 c2 c3 c4 e)
theorem Amt{Q:Fin->aL->Prop}(hh:A.handled=none)(D:pC z TI TO j1 j2 l1 l2)(hz:mB s.heap z TI TO .none)(hI:gW s.heap TI (.ref j1) (.ref j2))(hO:gW s.heap TO a b)
  (h1:ItK b1 s.heap j1 l1 k1) (h2:ItK b2 s.heap j2 l2 k2) (g1:SqK b1 s.heap l1 xs) (g2:SqK b2 s.heap l2 ys) (hend:xs[k1]? = none\/ys[k2]? = none)
  (hE:∀ h' e,(∀ c o,c≠z->c≠TO->c≠j1->c≠j2->s.heap.get? c=some o->h'.get? c=some o)->(∃ ob,h'.get? e=some ob/\ob.cls = .type "StopIteration")->E (.ref e) { s with heap:=h' }) :
  wpAny (model prog w) A (iW.«zip.__next__» ⟨[.ref z],[]⟩) Q E s:=by
 show wpAny _ _ (field (.ref z) 2 >>= fun q=>_) _ _ _
 refine aC (dW hz rfl (x:=.bool false) rfl ?_);show wpAny _ _ (field (.ref z) 3 >>= _) _ _ _
 refine aC (dW hz rfl (x:=.ref TI) rfl (aC (eU hI rfl ?_)))
 show wpAny _ _ (eV (.ref z) >>= fun q=>_) _ _ _
 refine aC ?_;unfold eV
 refine aC (dW hz rfl (x:=.none) rfl (aU ?_));simp only[if_true]
 refine aC (lZ (aC (dW hz rfl (x:=.ref TO) rfl (aC (gQ hz (by simp) fun p1 z1 s1=>?_)))))
 replace z1:mB p1 z TI TO .ellipsis:=z1
 refine aC ?_;simp only[rR,sL,kO,pE]
 refine aC (aC (mY ?_));show wpAny _ _ (cY (.ref j1) >>= _) _ _ _
 cases hx:xs[k1]? with
 | none=>
  refine aC (Aei hh (h1.but s1.extBut D.i1z) (g1.but s1.extBut D.l1z) hx fun p2 e s2 he=>?_)
  obtain ⟨oe,hoe,hce⟩:=he
  have z2:mB p2 z TI TO .ellipsis:=s2 _ _ D.i1z.symm z1
  have hez:e≠z:=fun q=>by subst q;rw[z2] at hoe;cases hoe;simp at hce
  refine gQ z2 (by simp) fun p3 _ s3=>hE p3 e (fun c o c1 _ c3 _ q=>s3.extBut _ _ c1 (s2 _ _ c3 (s1.extBut _ _ c1 q))) ⟨oe,s3.extBut _ _ hez hoe,hce⟩
 | some x=>
  have hy:ys[k2]? = none:=by rcases hend with h | h;(rw[hx] at h;cases h);exact h
  refine aC (Xy (h1.but s1.extBut D.i1z) (g1.but s1.extBut D.l1z) hx fun p2 i2 s2=>aU ?_)
  have O2:gW p2 TO a b:=s2.extBut _ _ D.TOi1 (s1.extBut _ _ D.TOz hO)
  refine aC (eU O2 rfl (aC (kL O2 fun p3 O3 s3=>?_)))
  refine aC (iU (aU ?_));refine aC (aC (mY ?_))
  show wpAny _ _ (cY (.ref j2) >>= fun q=>_) _ _ _
  refine aC (Aei hh (((h2.but s1.extBut D.i2z).but s2.extBut D.i12.symm).but s3.extBut D.TOi2.symm) (((g2.but s1.extBut D.l2z).but s2.extBut D.l2i1).but s3.extBut D.l2TO) hy fun p4 e s4 he=>?_)
  obtain ⟨oe,hoe,hce⟩:=he
  have z4:mB p4 z TI TO .ellipsis:=s4 _ _ D.i2z.symm (s3.extBut _ _ D.TOz.symm (s2.extBut _ _ D.i1z.symm z1))
  have hez:e≠z:=fun q=>by subst q;rw[z4] at hoe;cases hoe;simp at hce
  refine gQ z4 (by simp) fun p5 _ s5=>hE p5 e (fun c o c1 c2 c3 c4 q=>s5.extBut _ _ c1 (s4 _ _ c4 (s3.extBut _ _ c2 (s2.extBut _ _ c3 (s1.extBut _ _ c1 q))))) ⟨oe,s5.extBut _ _ hez hoe,hce⟩
theorem Aic{x y:aF}{Q:Option aF->aL->Prop}(D:pC z TI TO j1 j2 l1 l2)(hz:mB s.heap z TI TO .none)(hI:gW s.heap TI (.ref j1) (.ref j2))(hO:gW s.heap TO a b)
  (h1:ItK b1 s.heap j1 l1 k1) (h2:ItK b2 s.heap j2 l2 k2) (g1:SqK b1 s.heap l1 xs) (g2:SqK b2 s.heap l2 ys) (hx:xs[k1]? = some x) (hy:ys[k2]? = some y)
  (hQ:∀ h',mB h' z TI TO (rawInt s.heap.objs.size)->gW h' TO x y->ItK b1 h' j1 l1 (k1+1)->ItK b2 h' j2 l2 (k2+1)->gW h' s.heap.objs.size x y->h'.objs.size=s.heap.objs.size+1 ->
   (∀ c o,c≠z->c≠TO->c≠j1->c≠j2->s.heap.get? c=some o->h'.get? c=some o)->Q (some (.ref s.heap.objs.size)) { s with heap:=h' }) :
  wpAny (model prog w) A (pyNext (.ref z)) Q E s:=by
 have ty:s.TypeIs (.ref z) "zip" := ⟨_,hz,rfl⟩
 unfold pyNext
 exact aC (mZ (eK (name:=dC "__next__") ty kR (eY kR ty rS (Ahr D hz hI hO h1 h2 g1 g2 hx hy fun h' q1 q2 q3 q4 q5 q6 q7=>aU (hQ h' q1 q2 q3 q4 q5 q6 q7)) (qS _))))
theorem Ame{Q:Option aF->aL->Prop}(hh:A.handled=none)(D:pC z TI TO j1 j2 l1 l2)(hz:mB s.heap z TI TO .none)(hI:gW s.heap TI (.ref j1) (.ref j2))(hO:gW s.heap TO a b)
  (h1:ItK b1 s.heap j1 l1 k1) (h2:ItK b2 s.heap j2 l2 k2) (g1:SqK b1 s.heap l1 xs) (g2:SqK b2 s.heap l2 ys) (hend:xs[k1]? = none\/ys[k2]? = none)
  (hQ:∀ h',(∀ c o,c≠z->c≠TO->c≠j1->c≠j2->s.heap.get? c=some o->h'.get? c=some o)->Q none { s with heap:=h' }):wpAny (model prog w) A (pyNext (.ref z)) Q E s:=by
 have ty:s.TypeIs (.ref z) "zip" := ⟨_,hz,rfl⟩
 unfold pyNext
 refine aC (mZ (eK (name:=dC "__next__") ty kR (eY kR ty rS (Amt hh D hz hI hO h1 h2 g1 g2 hend fun h' e hk he=>?_) (qS _))))
 obtain ⟨ob,hob,hcl⟩:=he
 exact aC (rT (T := "StopIteration") (b:=true) ⟨ob,hob,hcl⟩ isSubtype_stop (aU (hQ _ hk)))
end
abbrev zh1(c1:String)(h:Heap)(l1:Addr):Heap:=h.push { cls:=.type c1,data:=.fields #[.ref l1,.int 0 0] }
abbrev zh2(c1 c2:String)(h:Heap)(l1 l2:Addr):Heap:=(zh1 c1 h l1).push { cls:=.type c2,data:=.fields #[.ref l2,.int 0 0] }
abbrev zh3(c1 c2:String)(h:Heap)(l1 l2:Addr):Heap:=(zh2 c1 c2 h l1 l2).push { cls:=.type "tuple",data:=.seq #[.ref h.objs.size,.ref (zh1 c1 h l1).objs.size] }
abbrev zh4(c1 c2:String)(h:Heap)(l1 l2:Addr):Heap:=(zh3 c1 c2 h l1 l2).push { cls:=.type "tuple",data:=.seq #[.none,.none] }
abbrev zh5(c1 c2:String)(h:Heap)(l1 l2:Addr):Heap:=(zh4 c1 c2 h l1 l2).push { cls:=.type "zip",data:=.fields #[.none,.bool false,.bool false,.ref (zh2 c1 c2 h l1 l2).objs.size,.ref (zh3 c1 c2 h l1 l2).objs.size] }
theorem Amh (l1 l2 : Addr) (xs ys : Array aF) : Meets (iW.«zip.__new__» ⟨[.type "zip", .ref l1, .ref l2], []⟩) (fun _ R s => s.heap.IsTuple l1 xs /\ s.heap.IsTuple l2 ys /\
   R (.ok (.ret (.ref (zh4 "tuple_iterator" "tuple_iterator" s.heap l1 l2).objs.size))) { s with heap:=zh5 "tuple_iterator" "tuple_iterator" s.heap l1 l2 }):=
 .of_wp fun prog w A R s h=>by
  obtain ⟨hp,g,d,tk,os⟩:=s
  obtain ⟨t1,t2,h⟩:=h
  have hsub:=sub_zip
  have T1:qT (sF ⟨hp,g,d,tk,os⟩) l1 xs:=t1
  have T2:qT (sF ⟨hp.push { cls:=.type "tuple_iterator",data:=.fields #[.ref l1,.int 0 0] },g,d,tk,os⟩) l2 ys:=qT.push t2 _
  wp_walk using fN T1,fN T2
  exact ⟨_,rfl,h⟩
section
variable {prog:cU}{w:eD}{A:dO}{E:aF->aL->Prop}{s:aL}
theorem Ag8{l1 l2:Addr}{ys:Array aF}(t1:s.heap.IsTuple l1 xs)(t2:s.heap.IsTuple l2 ys)
  (h:∀ h',mB h' (s.heap.objs.size+4) (s.heap.objs.size+2) (s.heap.objs.size+3) .none->gW h' (s.heap.objs.size+2) (.ref s.heap.objs.size) (.ref (s.heap.objs.size+1)) ->
   gW h' (s.heap.objs.size+3) .none .none->ItK false h' s.heap.objs.size l1 0->ItK false h' (s.heap.objs.size+1) l2 0->(∀ c o,s.heap.get? c=some o->h'.get? c=some o)->Q (.ref (s.heap.objs.size+4)) { s with heap:=h' }) :
  wpAny (model prog w) A (call (.type "zip") [.ref l1,.ref l2]) Q E s:=by
 refine callType_new F.called_zip (by decide) (F.typeCall_zip_2 _ _) (F.newCall_zip_2 _ _) (fun obj=>F.args_object_init_3 obj _ _) F.entry_zip_new (Amh l1 l2 xs ys) ⟨t1,t2,?_⟩
 have z1:(zh1 "tuple_iterator" s.heap l1).objs.size=s.heap.objs.size+1:=dH ..
 have z2:(zh2 "tuple_iterator" "tuple_iterator" s.heap l1 l2).objs.size=s.heap.objs.size+2:=by rw[dH,z1]
 have z3:(zh3 "tuple_iterator" "tuple_iterator" s.heap l1 l2).objs.size=s.heap.objs.size+3:=by rw[dH,z2]
 have z4:(zh4 "tuple_iterator" "tuple_iterator" s.heap l1 l2).objs.size=s.heap.objs.size+4:=by rw[dH,z3]
 have q5:(zh5 "tuple_iterator" "tuple_iterator" s.heap l1 l2).get? (zh4 "tuple_iterator" "tuple_iterator" s.heap l1 l2).objs.size=some _:=bC _ rfl
 have q4:(zh5 "tuple_iterator" "tuple_iterator" s.heap l1 l2).get? (zh3 "tuple_iterator" "tuple_iterator" s.heap l1 l2).objs.size=some _:=aE _ (bC _ rfl)
 have q3:(zh5 "tuple_iterator" "tuple_iterator" s.heap l1 l2).get? (zh2 "tuple_iterator" "tuple_iterator" s.heap l1 l2).objs.size=some _:=aE _ (aE _ (bC _ rfl))
 have q2:(zh5 "tuple_iterator" "tuple_iterator" s.heap l1 l2).get? (zh1 "tuple_iterator" s.heap l1).objs.size=some _:=aE _ (aE _ (aE _ (bC _ rfl)))
 have q1:(zh5 "tuple_iterator" "tuple_iterator" s.heap l1 l2).get? s.heap.objs.size=some _:=aE _ (aE _ (aE _ (aE _ (bC _ rfl))))
 show _/\_
 rw[z2,z3,z4] at q5;rw[z1,z2] at q3;rw[z3] at q4
 rw[z1] at q2;rw[z4]
 exact ⟨⟨_,q5,rfl⟩,h _ q5 q3 q4 ⟨_,q1,rfl,rfl⟩ ⟨_,q2,rfl,rfl⟩ fun c o q=>aE _ (aE _ (aE _ (aE _ (aE _ q))))⟩
end
end ZT
namespace MR
open PySem PySem.Spec PyProof.Rows L2
noncomputable def SK(bb:Bool)(K:aH)(H:Hp)(a:Addr)(xs:List V):Prop:=match bb with
 | true=>SqL K H a xs
 | false=>SqT K H a xs
variable {X:Cx}{H:Hp}{a:Addr}{xs:List V}
theorem SK.at{pins:List (Addr×Obj)}{σ:L2.St}{s:aL}{bb:Bool}(I:L2.Inv X pins σ H s)(h:SK bb X.K H a xs):∃ its:List aF,Vals xs its/\ZT.SqK bb s.heap a its.toArray/\xs.length<=sizeLine:=by
 cases bb with
 | true=>obtain ⟨its,r,p,z⟩:=I.list h;exact ⟨its,r,p.isList,z⟩
 | false=>obtain ⟨its,r,p,z⟩:=I.tuple h;exact ⟨its,r,p,z⟩
theorem SK.inj{pins:List (Addr×Obj)}{σ:L2.St}{s:aL}{bb:Bool}{ys:List V}(I:L2.Inv X pins σ H s)(h:SK bb X.K H a xs)(h':SK bb X.K H a ys):xs=ys:=by
 cases bb with
 | true=>exact I.list_inj h h'
 | false=>exact I.tuple_inj h h'
noncomputable def Amj(b1 b2:Bool)(K:aH)(a b:Addr):It:=
 ⟨fun i H=>∃ xs ys x y,SK b1 K H a xs/\SK b2 K H b ys/\xs[i]? = some x/\ys[i]? = some y,fun i H z H'=>∃ p x y,H p=none/\z = .ref p/\H'=upd H p (.tup [x,y])/\(∀ xs,SK b1 K H a xs->xs[i]? = some x)/\∀ ys,SK b2 K H b ys->ys[i]? = some y,
  fun i H=>∃ xs ys,SK b1 K H a xs/\SK b2 K H b ys/\(xs.length<=i\/ys.length<=i)⟩
theorem Ade{b1 b2:Bool}{P:cU}{w:eD}{K:aH}{elts:List Expr}{x1}{pos:Pos}(a b z TI TO i1 i2:Addr)(D:pC z TI TO i1 i2 a b):Turn P w K (.Tuple elts x1 pos) (Amj b1 b2 K a b) [z,TI,TO,i1,i2] z
  (fun i h=>mB h z TI TO .none/\gW h TI (.ref i1) (.ref i2)/\(∃ u v,gW h TO u v)/\ZT.ItK b1 h i1 a i/\ZT.ItK b2 h i2 b i) where
 mem:=by simp
 obj:=fun i h st c hb=>by
  obtain ⟨h1,h2,⟨u,v,h3⟩,h4',h5'⟩:=st
  obtain ⟨o4,h4,d4⟩:=h4'.obj
  obtain ⟨o5,h5,d5⟩:=h5'.obj
  simp only[bE,eG,or_false] at hb
  rcases hb with rfl | rfl | rfl | rfl | rfl
  ·exact ⟨_,h1,fun v z=>by simp at z⟩
  ·exact ⟨_,h2,fun v z=>by simp at z⟩
  ·exact ⟨_,h3,fun v z=>by simp at z⟩
  ·exact ⟨_,h4,fun v z=>by rw[d4] at z;cases z⟩
  ·exact ⟨_,h5,fun v z=>by rw[d5] at z;cases z⟩
 keep:=fun i h h' st k=>by
  obtain ⟨h1,h2,⟨u,v,h3⟩,h4,h5⟩:=st
  exact ⟨k z (by simp) _ h1,k TI (by simp) _ h2,⟨u,v,k TO (by simp) _ h3⟩,h4.keep (k i1 (by simp)),h5.keep (k i2 (by simp))⟩
 item:=by
  intro X hP hw hK hc i pins s σ H E I hf st hg
  subst hP hw hK
  obtain ⟨h1,h2,⟨u0,v0,h3⟩,h4,h5⟩:=st
  obtain ⟨xs,ys,x,y,sq1,sq2,hx,hy⟩:=hg
  obtain ⟨its1,hv1,pl1,hz1⟩:=SK.at I sq1
  obtain ⟨its2,hv2,pl2,hz2⟩:=SK.at I sq2
  obtain ⟨u,hu,r⟩:=hv1.get hx
  obtain ⟨u',hu',r'⟩:=hv2.get hy
  refine ZT.Aic D h1 h2 h3 h4 h5 pl1 pl2 (by simpa using hu) (by simpa using hu') fun h' o1 o2 o3 o4 o5 o6 o7=>?_
  refine ⟨_,rfl,?_⟩
  have hfr:H s.heap.objs.size=none:=I.hok.fresh (aQ _)
  have I1:L2.Inv X pins σ (upd H s.heap.objs.size (.tup [x,y])) { s with heap:=h',toks:=s.toks }:=
   Inv.turnNew (ch:=[z,TI,TO,i1,i2]) I hf (fun c o hb q=>o7 c o (fun z=>hb (by simp[z])) (fun z=>hb (by simp[z])) (fun z=>hb (by simp[z])) (fun z=>hb (by simp[z])) q) (aQ _)
    (show ObjOk X.prog X.w _ h' _ (.tup [x,y]) from ⟨by show 2<=sizeLine;decide,[u,u'],.cons r (.cons r' .nil),⟨_,o5,rfl,_,rfl⟩⟩)
  refine wpAny_letOwnedTupleGo_zip o1 fun h9 e2 sb2=>?_
  have hlt:∀ c∈[z,TI,TO,i1,i2],c < s.heap.objs.size:=fun c hb=>by
   simp only[bE,eG,or_false] at hb
   rcases hb with rfl | rfl | rfl | rfl | rfl
   ·exact bD h1
   ·exact bD h2
   ·exact bD h3
   ·exact h4.lt
   ·exact h5.lt
  have hnone:∀ c∈[z,TI,TO,i1,i2],(upd H s.heap.objs.size (.tup [x,y])) c=none:=fun c hb=>by rw[Aq (bU (hlt c hb))];exact (hf c hb).1
  obtain ⟨f0,f1,f2,f3,f4,f5⟩:=hf z (by simp)
  have I2:=I1.turned (t':=s.toks) (h':=h9) (it:=z) (fun c o hb q=>sb2.2 c hb |>.trans q) (hnone z (by simp)) f1 f3 f4 f5
  have hTI:gW h' TI (.ref i1) (.ref i2):=o7 TI _ D.TIz D.TITO D.TIi1 D.TIi2 h2
  refine ⟨.ref s.heap.objs.size,_,I2,rfl,⟨_,x,y,hfr,rfl,rfl,fun ys sq'=>?_,fun ys sq'=>?_⟩,⟨e2,(sb2.2 TI D.TIz).trans hTI,⟨_,_,(sb2.2 TO D.TOz).trans o2⟩,o3.keep (fun o q=>(sb2.2 i1 D.i1z).trans q),o4.keep (fun o q=>(sb2.2 i2 D.i2z).trans q)⟩,hnone⟩
  ·rw[SK.inj I sq' sq1];exact hx
  ·rw[SK.inj I sq' sq2];exact hy
 done:=by
  intro X hP hw hK hc i pins s σ H E I hf st hg
  subst hP hw hK
  obtain ⟨h1,h2,⟨u0,v0,h3⟩,h4,h5⟩:=st
  obtain ⟨xs,ys,sq1,sq2,hx⟩:=hg
  obtain ⟨its1,hv1,pl1,hz1⟩:=SK.at I sq1
  obtain ⟨its2,hv2,pl2,hz2⟩:=SK.at I sq2
  have hl1:=hv1.length
  have hl2:=hv2.length
  refine ZT.Ame (I.ok.hd hc) D h1 h2 h3 h4 h5 pl1 pl2 (by simp;omega) fun h' k=>⟨rfl,?_⟩
  have nch:∀ b u,H b=some u->b∉[z,TI,TO,i1,i2]:=fun b u e hb=>by rw[(hf b hb).1] at e;cases e
  have k':∀ b o,b∉[z,TI,TO,i1,i2]->s.heap.get? b=some o->h'.get? b=some o:=fun c o hb q=>k c o (fun z=>hb (by simp[z])) (fun z=>hb (by simp[z])) (fun z=>hb (by simp[z])) (fun z=>hb (by simp[z])) q
  refine I.step (g':=s.gens) (d':=s.drawn) (t':=s.toks) (ch:=[z,TI,TO,i1,i2]) (fun b hb=>?_) (fun b o _ _ hc e _=>k' b o hc e) (fun b o _ _ hc e _=>⟨o.slots,k' b o hc e⟩) (fun _ _ _ _ n=>n) (fun b u hc e=>⟨u,k' b u hc e⟩) (fun _ _ e=>e) (fun _ _ _ e=>e) (fun b ps e=>⟨#[],by rw[e];simp⟩) (fun m hm=>?_) (fun b u e=>?_) I.bare
  ·obtain ⟨_,f1,_,f3,f4,f5⟩:=hf b hb
   exact ⟨f3,f1,f4,f5⟩
  ·obtain ⟨o1,es,ep,ho,r⟩:=hm
   exact ⟨o1,es,ep,k' _ o1 (fun z=>(hf _ z).2.1 rfl) ho,r⟩
  ·refine (I.hok b u e).stay (fun c v hc q=>k' c v ?_ q) (fun _ q=>q) fun _ _ q=>q
   rcases hc with z | z
   ·rw[z];exact nch b u e
   ·exact nch c _ z
 self:=fun _ _ _ _ _ st h=>rV st.1 h
section
variable {elts:List Expr}{x1:Nat}{tpos:Pos}
noncomputable def Aot(K:aH)(ta:TA):TI:=fun σ H R=>ta σ H fun vs H1=>∃ a b xs ys,vs=[.ref a,.ref b]/\SqT K H1 a xs/\SqT K H1 b ys/\R (Amj false false K a b) H1
theorem Ajk{a b:Expr}{ta:TA}{p pos:Pos}(hg:Gl X "zip")(hm:X.mg "zip" = none)(ha:PA X [a,b] ta)(hs:bS [a,b] X.env=(false,eval a X.env)::bS [b] X.env:=by rfl)(hpl:(backTo pos (bS [b] X.env)).any (·.1)=false:=by rfl):PI X (.Tuple elts x1 tpos) (.Call (.Name "zip" p) [a,b] [] pos) (Aot X.K ta):=by
 intro pins s σ H R I h
 refine Call_ (Fv I hg hm Agc (cZ (thn (ha pos pins s σ H _ I h) fun us s1 ⟨vs,H1,I1,r1,q1⟩=>?_) hs hpl))
 obtain ⟨l1,l2,xs,ys,rfl,sq1,sq2,q⟩:=q1
 obtain ⟨u,u',rfl,ru,ru'⟩:=Sj r1
 cases ru;cases ru'
 obtain ⟨its1,hv1,pl1,hz1⟩:=I1.tuple sq1
 obtain ⟨its2,hv2,pl2,hz2⟩:=I1.tuple sq2
 have lt1:l1 < s1.heap.objs.size:=by obtain ⟨o,e,_⟩:=pl1;exact bD e
 have lt2:l2 < s1.heap.objs.size:=by obtain ⟨o,e,_⟩:=pl2;exact bD e
 refine ZT.Ag8 pl1 pl2 fun h' o1 o2 o3 o4 o5 o7=>?_
 have I2:L2.Inv X pins σ H1 { s1 with heap:=h' }:=I1.kept (t':=s1.toks) o7
 refine rV o1 ⟨_,_,_,_,H1,rfl,I2,Ade (b1:=false) (b2:=false) l1 l2 _ _ _ _ _ (Adi _ _ _ lt1 lt2),⟨o1,o2,⟨_,_,o3⟩,o4,o5⟩,fun b hb=>?_,q⟩
 have hb':s1.heap.objs.size<=b:=by
  simp only[bE,eG,or_false] at hb
  rcases hb with rfl | rfl | rfl | rfl | rfl <;> first | exact Nat.le_add_right _ _ | exact aQ _
 exact L2.Inv.fpOk I1 hb' (I1.hok.fresh hb')
noncomputable def Kv(us ws:List U):List U:=(us.zip ws).map fun p=>.tup [p.1,p.2]
theorem Qj(us ws:List U)(k:Nat):(Kv us ws)[k]? = Oa us[k]? ws[k]?:=by
 unfold Kv
 rw[bO,List.zip,List.getElem?_zipWith]
 cases us[k]? <;> cases ws[k]? <;> rfl
theorem Aek{K:aH}{α:List Addr}{b:Addr}{us ws:List U}{ys:List V}(sa:SqT K H a xs)(sb:SqT K H b ys)(ra:RepL K H α us xs)(rb:RepL K H α ws ys):Na K (Amj false false K a b) (.seq (Kv us ws)) H α:=by
 intro H2 α2 L2 g A2 k
 have mv:∀ (c:Addr) (vs:List U) (zs:List V),SqT K H c zs->RepL K H α vs zs->∃ zs2,SqT K H2 c zs2/\RepL K H2 α2 vs zs2:=fun c vs zs s r=>by
  have m:=(show RepU K H α (.tup vs) (.ref c) by unfold RepU;exact ⟨c,zs,rfl,s,r⟩).mono g
  unfold RepU at m
  obtain ⟨c',zs2,e,s2,r2⟩:=m
  cases e
  exact ⟨zs2,s2,r2⟩
 obtain ⟨xs2,sa2,ra2⟩:=mv a us xs sa ra
 obtain ⟨ys2,sb2,rb2⟩:=mv b ws ys sb rb
 refine ⟨fun u eu=>?_,fun eu=>?_⟩
 ·have eu:(Kv us ws)[k]? = some u:=by simpa[IU.at] using eu
  rw[Qj] at eu
  cases h1:us[k]? with
  | none=>rw[h1] at eu;simp[Oa] at eu
  | some u1=>
   cases h2:ws[k]? with
   | none=>rw[h1,h2] at eu;simp[Oa] at eu
   | some u2=>
    rw[h1,h2] at eu
    simp[Oa] at eu
    subst eu
    obtain ⟨x,hx,rx⟩:=ra2.get h1
    obtain ⟨y,hy,ry⟩:=rb2.get h2
    refine ⟨⟨xs2,ys2,x,y,sa2,sb2,hx,hy⟩,?_⟩
    rintro z H3 ⟨p,v,v',hp,rfl,rfl,hy1,hy2⟩
    have e1:=hy1 xs2 sa2
    have e2:=hy2 ys2 sb2
    rw[hx] at e1;cases e1
    rw[hy] at e2;cases e2
    exact A2.tup (.cons rx (.cons ry .nil)) hp
 ·have eu:(Kv us ws)[k]? = none:=by simpa[IU.at] using eu
  rw[Qj] at eu
  refine ⟨xs2,ys2,sa2,sb2,?_⟩
  cases h1:us[k]? with
  | none=>left;rw[<- ra2.length];exact cP.mp h1
  | some u1=>
   cases h2:ws[k]? with
   | none=>right;rw[<- rb2.length];exact cP.mp h2
   | some u2=>rw[h1,h2] at eu;simp[Oa] at eu
end
end MR
namespace MR
open PySem PySem.Spec PyProof.Rows PySem.Calls L2
theorem Ai3{bs:List Bool}:∀ {us:List aF},Vals (bs.map V.bl) us->∀ (i:Nat) (v:aF),us[i]? = some v->∃ b,bs[i]? = some b/\v = .bool b:=by
 induction bs with
 | nil=>intro us r i v e;rw[bT] at r;cases r;simp at e
 | cons n ns ih=>
  intro us r i v e
  rw[aO] at r
  cases r with
  | cons r1 r2=>
   cases i with
   | zero=>simp at e;subst e;exact ⟨n,rfl,r1⟩
   | succ i=>simpa using ih r2 i v (by simpa using e)
theorem Ajc{bs:List Bool}:∀ {us:List aF},Vals (bs.map V.bl) us->us.length=bs.length:=by
 induction bs with
 | nil=>intro us r;rw[bT] at r;cases r;rfl
 | cons n ns ih=>
  intro us r
  rw[aO] at r
  cases r with
  | cons r1 r2=>simp[ih r2]
theorem Ahe(bs:List Bool):((aX bs.length).all fun i=>(bs[i]?).getD true)=bs.all id:=by
 rw[kT,bN,bN]
 constructor
 ·intro h b hb
  obtain ⟨i,hi,e⟩:=jD hb
  have:=h i (bL.mpr hi)
  simp only[aI hi,iX,e] at this
  exact this
 ·intro h i hi
  have hi':=bL.mp hi
  simp only[aI hi',iX]
  exact h _ (eZ hi')
section
variable {X:Cx}
theorem Ahd{s:aL}{h':Heap}{o:Obj}(hk:∀ b x,b∉[s.heap.objs.size]->(s.heap.push o).get? b=some x->h'.get? b=some x):∀ b x,s.heap.get? b=some x->h'.get? b=some x:=
 fun b x e=>hk b x (fun hm=>by rw[cH.mp hm] at e;exact cC _ (bD e)) (aE _ e)
theorem Acp(hc:X.calm=true):CallR X (.builtin "all") (fun xs H Q=>∃ (p:Addr) (bs:List Bool),xs=[.ref p]/\SqL X.K H p (bs.map V.bl)/\Q (.bl (bs.all id)) H):=by
 intro pins s σ H xs us Q I r h
 obtain ⟨p,bs,rfl,hq,q⟩:=h
 obtain ⟨u,rfl,rx⟩:=Fe r
 cases rx
 obtain ⟨its,r',pl,hz⟩:=I.list hq
 have hl:=pl.isList
 have hlt:p < s.heap.objs.size:=by obtain ⟨_,e,_⟩:=hl;exact bD e
 refine call_all_walk (jR hl ?_)
 refine ⟨s.heap.objs.size,[s.heap.objs.size,p],[s.heap.objs.size],its.toArray.size,_,_,fun i=>(bs[i]?).getD true,rfl,qE (A:=qF _) (I.ok.hd hc) _ p (bU hlt) its.toArray,
  ⟨⟨_,bC _ rfl,rfl,rfl⟩,hl.push _⟩,fun i v s' Q' E' hP hQ=>?_,fun h' tk hk=>?_⟩
 ·obtain ⟨b,e,rfl⟩:=Ai3 r' i v (by simpa using hP)
  simp only[e,iX] at hQ
  exact fD hQ
 ·have e:((aX its.toArray.size).all fun i=>(bs[i]?).getD true)=bs.all id:=by
   rw[aS,Ajc r'];exact Ahe bs
  rw[e]
  exact ⟨.bl (bs.all id),H,I.kept (Ahd hk),rfl,q⟩
end
noncomputable def toB:U->Option Bool
 | .bl b=>some b
 | _=>none
variable {K:aH}
theorem Y5{H:Hp}{α:List Addr}:∀ {us:List U} {xs:List V} {bs:List Bool},RepL K H α us xs->mapO toB us=some bs->xs=bs.map V.bl
 | [],xs,ys,r,h=>by unfold RepL at r;subst r;cases h;rfl
 | u::us,xs,ys,r,h=>by
  unfold RepL at r
  obtain ⟨x,xr,rfl,r1,r2⟩:=r
  obtain ⟨y,e1,h⟩:=aB.mp h
  obtain ⟨yr,e2,h⟩:=aG.mp h
  subst h
  cases u <;> simp only[toB] at e1 <;> first
   | (cases e1;unfold RepU at r1;subst r1;rw[Y5 r2 e2];rfl)
   | cases e1
noncomputable def Qd:SC:=fun us L=>match us with
 | [.ref n]=>(Ao L n).bind fun l=>(mapO toB l).map fun bs=>(.bl (bs.all id),L)
 | _=>none
theorem Ajs:N3 K (fun xs H Q=>∃ (p:Addr) (bs:List Bool),xs=[.ref p]/\SqL K H p (bs.map V.bl)/\Q (.bl (bs.all id)) H) Qd:=by
 intro H α L us xs z L' Q A r e q
 unfold Qd at e
 split at e
 ·obtain ⟨l,hl,e⟩:=aB.mp e
  obtain ⟨bs,e1,e⟩:=aG.mp e
  cases e
  obtain ⟨x,rfl,rx⟩:=r.one
  obtain ⟨a,ys,rfl,sq,r2⟩:=Iq A hl rx
  rw[Y5 r2 e1] at sq
  exact ⟨a,bs,rfl,sq,q _ H α (.refl _ _) A rfl⟩
 ·cases e
section
variable {X:Cx}
end
noncomputable def Hj:SM:=fun u us L=>match u,us with
 | .ref n,[.ref m]=>(Fg L n).bind fun l=>(Fg L m).bind fun l'=>if l.length+l'.length<=sizeLine then some (.non,L.set n (.lst (l++l'))) else none
 | _,_=>none
theorem Xq:Uy K Abj Hj:=by
 intro H α L u us x xs z L' Q A ru r e q
 unfold Hj at e
 split at e
 ·obtain ⟨l,hl,e⟩:=aB.mp e
  obtain ⟨l',hl',e⟩:=aB.mp e
  split at e
  ·rename_i hs
   cases e
   obtain ⟨v,rfl,rv⟩:=r.one
   obtain ⟨a,ys,rfl,ea,h,r2⟩:=Jt A hl ru
   obtain ⟨b,ws,rfl,eb,h',r3⟩:=Jt A hl' rv
   obtain ⟨g,A'⟩:=A.setL hl ea h (r2.append r3)
   exact ⟨a,b,ys,ws,rfl,rfl,h,h',by rw[<- r2.length,<- r3.length];exact hs,q _ _ _ g A' rfl⟩
  ·cases e
 ·cases e
end MR
namespace ZT
open PySem PySem.Spec PyProof.Rows
open Sem (wp)
theorem Ku(l:Addr)(items:Array aF) :
  Meets (iW.«enumerate.__new__» ⟨[.type "enumerate",.ref l],[]⟩) (fun _ R s=>s.heap.IsTuple l items /\
   R (.ok (.ret (.ref (s.heap.push { cls:=.type "tuple_iterator",data:=.fields #[.ref l,.int 0 0] }).objs.size)))
    { s with heap:=(s.heap.push { cls:=.type "tuple_iterator",data:=.fields #[.ref l,.int 0 0] }).push { cls:=.type "enumerate",data:=.fields #[.none,.bool false,.ref s.heap.objs.size,rawInt 0,.none,.none] } }):=
 .of_wp fun prog w A R s h=>by
  obtain ⟨hp,g,d,tk,os⟩:=s;obtain ⟨hl,h⟩:=h
  have hsub:=sub_enumerate
  have hL:qT (sF ⟨hp,g,d,tk,os⟩) l items:=hl
  wp_walk using fN hL
  refine wpAny_stack_any fun st=>aU ?_
  split
  ·rename_i c _ _ _ _ _
   cases (c == gJ "enumerate")
   ·wp_walk using fN hL
    exact ⟨_,rfl,h⟩
   ·wp_walk using fN hL
    exact ⟨_,rfl,h⟩
  ·wp_walk using fN hL
   exact ⟨_,rfl,h⟩
variable {prog:cU}{w:eD}{A:dO}
section
variable {E:aF->aL->Prop}{s:aL}
theorem Ks{l:Addr}{items:Array aF}{Q:aF->aL->Prop}(hL:s.heap.IsTuple l items)
  (h:∀ h',IsEnum h' (s.heap.objs.size+1) s.heap.objs.size 0 .none->h'.IsTupleIter s.heap.objs.size l 0->h'.objs.size=s.heap.objs.size+2 ->
   (∀ b o,s.heap.get? b=some o->h'.get? b=some o)->Q (.ref (s.heap.objs.size+1)) { s with heap:=h' }) :
  wpAny (model prog w) A (call (.type "enumerate") [.ref l]) Q E s:=by
 refine callType_new F.called_enumerate (by decide) (F.typeCall_enumerate_1 _) (F.newCall_enumerate_1 _) (fun obj=>F.args_object_init_2 obj _) F.entry_enumerate_new
  (Ku l items) ⟨hL,?_⟩
 have hz:(s.heap.push { cls:=.type "tuple_iterator",data:=.fields #[.ref l,.int 0 0] }).objs.size=s.heap.objs.size+1:=dH ..
 show _/\_
 rw[hz]
 have he:IsEnum ((s.heap.push { cls:=.type "tuple_iterator",data:=.fields #[.ref l,.int 0 0] }).push
   { cls:=.type "enumerate",data:=.fields #[.none,.bool false,.ref s.heap.objs.size,rawInt 0,.none,.none] }) (s.heap.objs.size+1) s.heap.objs.size 0 .none:=by
  have:=bC (s.heap.push { cls:=.type "tuple_iterator",data:=.fields #[.ref l,.int 0 0] })
   (o:={ cls:=.type "enumerate",data:=.fields #[.none,.bool false,.ref s.heap.objs.size,rawInt 0,.none,.none] }) rfl
  rw[hz] at this;exact this
 refine ⟨⟨_,he,rfl⟩,h _ he ⟨_,aE _ (bC _ rfl),rfl,rfl⟩ (by rw[dH,hz]) fun b o x=>aE _ (aE _ x)⟩
end
theorem U7(hh:A.handled=none)(it l:Addr)(hne:l≠it)(items:Array aF) :
  Draws prog w A it [it,l] items.size (fun i v=>items[i]? = some v) (fun i h=>h.IsTupleIter it l i/\h.IsTuple l items) where
 live:=fun _ _ st=>let ⟨o,ho,_⟩:=st.1;⟨o,ho⟩
 frame:=fun _ _ _ st hk=>⟨st.1.at fun o e=>hk it (by simp) o e,st.2.at fun o e=>hk l (by simp) o e⟩
 item:=fun i s Q E hi st hQ=>by
  refine V4 st.1 st.2 (v:=items[i]) (by simp[hi]) fun h' hit' hs'=>?_
  exact hQ _ h' s.toks (by simp[hi]) ⟨hit',st.2.extBut hs'.extBut hne⟩ hs'
 done:=fun s Q E st hE=>Ro hh st.1 st.2 (by simp) hE
section
variable {E:aF->aL->Prop}{s:aL}
theorem Um{e it l:Addr}{n:Nat}{i:Int}{items:Array aF}{old:aF}{Q:Option aF->aL->Prop}(hh:A.handled=none)
  (he:IsEnum s.heap e it i old) (hit:s.heap.IsTupleIter it l n) (hl:s.heap.IsTuple l items) (hn:items.size<=n)
  (hQ:∀ h',mO it s.heap h'->Q none { s with heap:=h' }):wpAny (model prog w) A (pyNext (.ref e)) Q E s:=by
 have hT:s.TypeIs (.ref e) "enumerate" := ⟨_,he,rfl⟩
 unfold pyNext
 refine aC (mZ (eK (name:=dC "__next__") hT oP
  (eY oP hT F.entry_enumerate_next ?_ (F.args_enumerate_next_1 _))))
 show wpAny _ _ (field (.ref e) 2 >>= _) _ _ _
 refine aC (dW he rfl (x:=.ref it) rfl ?_)
 refine aC (Ro (A:=qF A) hh hit hl (by simp;omega) fun h' x he' hx'=>?_)
 obtain ⟨o,ho,hc⟩:=hx'
 refine aC (rT (T := "StopIteration") (b:=true) ⟨o,ho,hc⟩ isSubtype_stop ?_)
 exact aU (hQ _ he')
end
end ZT
namespace MR
open PySem PySem.Spec PyProof.Rows L2
noncomputable def Amc(K:aH)(a:Addr):It:=
 ⟨fun i H=>∃ xs x,SqT K H a xs/\xs[i]? = some x,fun i H x H'=>∃ p v,H p=none/\x = .ref p/\H'=upd H p (.tup [.int i,v])/\∀ xs,SqT K H a xs->xs[i]? = some v,fun i H=>∃ xs,SqT K H a xs/\xs.length<=i⟩
variable {pos:Pos}
theorem Xo{P:cU}{w:eD}{K:aH}{elts:List Expr}{x1}(a e it:Addr)(hne:e≠it):Turn P w K (.Tuple elts x1 pos) (Amc K a) [e,it] e (fun i h=>(∃ old,IsEnum h e it i old)/\h.IsTupleIter it a i) where
 mem:=by simp
 obj:=fun i h st b hb=>by
  obtain ⟨⟨old,he⟩,o,ho,hc,hd⟩:=st
  rcases bE.mp hb with rfl | hb
  ·exact ⟨_,he,fun v z=>by simp at z⟩
  ·have:b=it:=by simpa using hb
   subst this
   exact ⟨o,ho,fun v z=>by rw[hd] at z;cases z⟩
 keep:=fun i h h' st k=>by
  obtain ⟨⟨old,he⟩,o,ho,hc,hd⟩:=st
  exact ⟨⟨old,k e (by simp) _ he⟩,o,k it (by simp) _ ho,hc,hd⟩
 item:=by
  intro X hP hw hK hc i pins s σ H E I hf st hg
  subst hP hw hK
  obtain ⟨⟨old,he⟩,hit⟩:=st
  obtain ⟨xs,v,sq,hx⟩:=hg
  obtain ⟨its,hv,pl,hz⟩:=I.tuple sq
  obtain ⟨u,hu,r⟩:=hv.get hx
  have hae:e≠a:=fun q=>by
   subst q
   obtain ⟨o,ho,hc,_⟩:=pl
   have:some o=some _:=ho.symm.trans he
   cases this
   simp at hc
  have hai:a≠it:=fun q=>by
   subst q
   obtain ⟨o,ho,hc,_⟩:=pl
   obtain ⟨o',ho',hc',_⟩:=hit
   have:some o=some o':=ho.symm.trans ho'
   cases this
   rw[hc] at hc';simp at hc'
  have hlt:i < its.toArray.size:=by
   have:=(aJ.mp hu).1
   simpa using this
  refine wpAny_pyNext_enum_itemD (ZT.U7 (A:=qF _) (I.ok.hd hc) it a hai its.toArray) he ⟨hit,pl⟩ hlt hne (by simp[hne,hae]) fun x h' tk px o1 o2 o3 o4 o5=>?_
  have hxu:x=u:=by
   have:its[i]? = some x:=by simpa using px
   rw[hu] at this;cases this;rfl
  subst hxu
  refine ⟨_,rfl,?_⟩
  have hfr:H s.heap.objs.size=none:=I.hok.fresh (aQ _)
  have I1:L2.Inv X pins σ (upd H s.heap.objs.size (.tup [.int i,v])) { s with heap:=h',toks:=tk+1 }:=
   Inv.turnNew (ch:=[e,it]) I hf (fun b o hb q=>o5 b o (fun z=>hb (by simp[z])) (fun z=>hb (by simp[z])) q) (aQ _)
    (show ObjOk X.prog X.w _ h' _ (.tup [.int i,v]) from ⟨by show 2<=sizeLine;decide,[.int i tk,x],.cons ⟨_,rfl⟩ (.cons r .nil),⟨_,o3,rfl,_,rfl⟩⟩)
  refine lY o1 fun h2 e2 sb2=>?_
  have hne2:∀ b∈[e,it],b≠s.heap.objs.size:=fun b hb z=>by
   rcases bE.mp hb with q | q
   ·have:=bD he;rw[<- q,z] at this;exact cC _ this
   ·have q:b=it:=by simpa using q
    obtain ⟨o,ho,_⟩:=hit
    have:=bD ho;rw[<- q,z] at this;exact cC _ this
  have hnone:∀ b∈[e,it],(upd H s.heap.objs.size (.tup [.int i,v])) b=none:=fun b hb=>by rw[Aq (hne2 b hb)];exact (hf b hb).1
  obtain ⟨f0,f1,f2,f3,f4,f5⟩:=hf e (by simp)
  have I2:=I1.turned (t':=tk+1) (h':=h2) (it:=e) (fun b o hb q=>sb2.2 b hb |>.trans q) (hnone e (by simp)) f1 f3 f4 f5
  obtain ⟨oi,hoi,hci,hdi⟩:=o2.1
  refine ⟨.ref s.heap.objs.size,_,I2,rfl,⟨_,v,hfr,rfl,rfl,fun ys sq'=>?_⟩,⟨⟨_,e2⟩,oi,(sb2.2 it (eP hne)).trans hoi,hci,hdi⟩,hnone⟩
  rw[I.tuple_inj sq' sq];exact hx
 done:=by
  intro X hP hw hK hc i pins s σ H E I hf st hg
  subst hP hw hK
  obtain ⟨⟨old,he⟩,hit⟩:=st
  obtain ⟨xs,sq,hx⟩:=hg
  obtain ⟨its,hv,pl,hz⟩:=I.tuple sq
  obtain ⟨f0,f1,f2,f3,f4,f5⟩:=hf it (by simp)
  have hlen:=hv.length
  exact ZT.Um (I.ok.hd hc) he hit pl (by simp;omega) fun h' eb=>⟨rfl,I.turned (t':=s.toks) (fun b o hb q=>eb b o hb q) f0 f1 f3 f4 f5⟩
 self:=fun _ _ _ _ _ st h=>by obtain ⟨⟨old,he⟩,_⟩:=st;exact jV he h
variable {X:Cx}
section
variable {elts:List Expr}{x1:Nat}{tpos:Pos}
noncomputable def Am5(K:aH)(ta:TA):TI:=fun σ H R=>ta σ H fun vs H1=>∃ a xs,vs=[.ref a]/\SqT K H1 a xs/\R (Amc K a) H1
theorem Aen{a:Expr}{ta:TA}{p:Pos}(hg:Gl X "enumerate")(hm:X.mg "enumerate" = none)(ha:PA X [a] ta)(hs:bS [a] X.env=[(false,eval a X.env)]:=by rfl):PI X (.Tuple elts x1 tpos) (.Call (.Name "enumerate" p) [a] [] pos) (Am5 X.K ta):=by
 intro pins s σ H R I h
 refine Call_ (Fv I hg hm Sf (cZ (thn (ha pos pins s σ H _ I h) fun us s1 ⟨vs,H1,I1,r1,q1⟩=>?_) hs rfl))
 obtain ⟨l,xs,rfl,sq,q⟩:=q1
 obtain ⟨u,rfl,ru⟩:=Fe r1
 cases ru
 obtain ⟨its,hv,pl,hz⟩:=I1.tuple sq
 refine ZT.Ks pl fun h' o1 o2 o3 o4=>?_
 have I2:L2.Inv X pins σ H1 { s1 with heap:=h' }:=I1.kept (t':=s1.toks) o4
 refine jV o1 ⟨_,_,_,_,H1,rfl,I2,Xo l (s1.heap.objs.size+1) s1.heap.objs.size (iJ (dZ _)),⟨⟨_,o1⟩,o2⟩,fun b hb=>?_,q⟩
 have hb':s1.heap.objs.size<=b:=by
  simp only[bE,eG,or_false] at hb
  rcases hb with rfl | rfl
  ·exact iA _
  ·exact aQ _
 exact L2.Inv.fpOk I1 hb' (I1.hok.fresh hb')
noncomputable def Lm(us:List U):List U:=us.mapIdx fun i u=>.tup [.int i,u]
noncomputable def Xr(g:FA):FI:=fun δ L=>(g δ L).bind fun p=>match p.1 with
 | [.ref n]=>(Ao p.2 n).map fun _=>(.enm n,p.2)
 | [.tup us]=>some (.seq (Lm us),p.2)
 | _=>none
theorem Aga{K:aH}{H:Hp}{α:List Addr}{a:Addr}{us:List U}{xs:List V}(sq:SqT K H a xs)(r:RepL K H α us xs):Na K (Amc K a) (.seq (Lm us)) H α:=by
 intro H2 α2 L2 g A2 k
 have m:=(show RepU K H α (.tup us) (.ref a) by unfold RepU;exact ⟨a,xs,rfl,sq,r⟩).mono g
 unfold RepU at m
 obtain ⟨c',xs,e,sq2,r2⟩:=m
 cases e
 refine ⟨fun u eu=>?_,fun eu=>?_⟩
 ·have eu:(Lm us)[k]? = some u:=by simpa[IU.at] using eu
  unfold Lm at eu
  rw[pG] at eu
  obtain ⟨w,hw,eu⟩:=aG.mp eu
  subst eu
  obtain ⟨x,hx,rx⟩:=r2.get hw
  refine ⟨⟨xs,x,sq2,hx⟩,?_⟩
  rintro y H3 ⟨p,v,hp,rfl,rfl,hy⟩
  have:=hy xs sq2
  rw[hx] at this;cases this
  exact A2.tup (.cons rfl (.cons rx .nil)) hp
 ·have eu:(Lm us)[k]? = none:=by simpa[IU.at] using eu
  unfold Lm at eu
  rw[pG] at eu
  have:us[k]? = none:=by simpa using eu
  exact ⟨xs,sq2,by rw[<- r2.length];exact cP.mp this⟩
theorem Ac3{a:Expr}{g:FA}{p:Pos}(hg:Gl X "enumerate")(hm:X.mg "enumerate" = none)(ha:PAF X [a] g)(hs:bS [a] X.env=[(false,eval a X.env)]:=by rfl):PIF X (.Tuple elts x1 tpos) (.Call (.Name "enumerate" p) [a] [] pos) (Xr g):=by
 refine PI.imp (PI.or (Ah1 hg hm ha hs) (Aen hg hm ha hs)) ?_
 rintro σ H R ⟨α,δ,L,A,S,i,L3,e,q⟩
 obtain ⟨⟨us,L1⟩,e1,e⟩:=aB.mp e
 simp only at e
 split at e
 ·obtain ⟨l,hl,e⟩:=aG.mp e
  cases e
  refine .inl ⟨α,δ,L,A,S,_,_,e1,fun xs H1 α1 g1 A1 r1=>?_⟩
  obtain ⟨x,rfl,rx⟩:=r1.one
  obtain ⟨a',ys,rfl,sq,r2⟩:=Iq A1 hl rx
  obtain ⟨a2,ea,ha2⟩:=rx.ref_of A1
  cases ha2
  exact ⟨a',ys,rfl,sq,q _ H1 α1 g1 A1 (Ah7 (fun _ _ _ _ _=>trivial) ea)⟩
 ·cases e
  refine .inr ⟨α,δ,L,A,S,_,_,e1,fun xs H1 α1 g1 A1 r1=>?_⟩
  obtain ⟨x,rfl,rx⟩:=r1.one
  unfold RepU at rx
  obtain ⟨a',ys,rfl,sq,r2⟩:=rx
  exact ⟨a',ys,rfl,sq,q _ H1 α1 g1 A1 (Aga sq r2)⟩
 ·cases e
end
theorem Pd:∀ (names:List (Str×iO)) (n:Nat) (acc:List (Str×Addr)) (x:Str) (c:Addr),(cellsFrom n names acc).lookup x=some c->((x,fQ)∈names/\n<=c)\/acc.lookup x=some c
 | [],n,acc,x,c,h=>.inr h
 | (y,k)::r,n,acc,x,c,h=>by
  unfold cellsFrom at h
  split at h
  ·rename_i hk
   have hk':k = .cell:=by simpa using hk
   rcases Pd r (n+1) _ x c h with ⟨a,b⟩ | q
   ·exact .inl ⟨aM _ a,by omega⟩
   ·rw[cA] at q
    cases hx:x == y with
    | true => rw [hx] at q; simp at q; have : x = y := by simpa using hx
              subst this;subst hk';subst q
              exact .inl ⟨aW ..,aQ _⟩
    | false=>rw[hx] at q;exact .inr q
  ·rcases Pd r n acc x c h with ⟨a,b⟩ | q
   ·exact .inl ⟨aM _ a,b⟩
   ·exact .inr q
theorem Uw:∀ (names:List (Str×iO)) (n:Nat) (acc:List (Str×Addr)) (x:Str),(x,fQ)∉names->(cellsFrom n names acc).lookup x=acc.lookup x
 | [],n,acc,x,h=>rfl
 | (y,k)::r,n,acc,x,h=>by
  unfold cellsFrom
  have h2:(x,fQ)∉r:=fun q=>h (aM _ q)
  split
  ·rename_i hk
   have hk':k = .cell:=by simpa using hk
   rw[Uw r (n+1) _ x h2,cA]
   cases hx:x == y with
   | true => have : x = y := by simpa using hx
             subst this;subst hk'
             exact absurd (aW ..) h
   | false=>rfl
  ·exact Uw r n acc x h2
theorem Yl:∀ (names:List (Str×iO)) (n:Nat) (acc:List (Str×Addr)),(∀ x c,acc.lookup x=some c->c < n)->(∀ x y c,acc.lookup x=some c->acc.lookup y=some c->x=y)->∀ x y c,(cellsFrom n names acc).lookup x=some c->(cellsFrom n names acc).lookup y=some c->x=y
 | [],n,acc,_,h,x,y,c,a,b=>h x y c a b
 | (z,k)::r,n,acc,h1,h2,x,y,c,a,b=>by
  unfold cellsFrom at a b
  split at a
  ·rw[if_pos (by assumption)] at b
   refine Yl r (n+1) ((z,n)::acc) (fun u v q=>?_) (fun u v w q1 q2=>?_) x y c a b
   ·rw[cA] at q
    cases hx:u == z with
    | true=>rw[hx] at q;simp at q;subst q;exact dZ _
    | false=>rw[hx] at q;exact mP (h1 u v q)
   ·rw[cA] at q1 q2
    cases hu:u == z with
    | true=>
     rw[hu] at q1;simp at q1
     cases hv:v == z with
     | true => have e1 : u = z := by simpa using hu
               have e2:v=z:=by simpa using hv
               rw[e1,e2]
     | false=>rw[hv] at q2;subst q1;exact absurd (h1 v _ q2) (cC _)
    | false=>
     rw[hu] at q1
     cases hv:v == z with
     | true=>rw[hv] at q2;simp at q2;subst q2;exact absurd (h1 u _ q1) (cC _)
     | false=>rw[hv] at q2;exact h2 u v w q1 q2
  ·rw[if_neg (by assumption)] at b
   exact Yl r n acc h1 h2 x y c a b
theorem Qq:∀ (names:List (Str×iO)) (h:Heap) (acc:List (Str×Addr)),(∀ x c,acc.lookup x=some c->∃ v,h.IsCell c v)->∀ x c,(cellsFrom h.objs.size names acc).lookup x=some c->∃ v,(pushCells h names).IsCell c v
 | [],h,acc,q,x,c,e=>q x c e
 | (y,k)::r,h,acc,q,x,c,e=>by
  unfold cellsFrom at e
  unfold pushCells
  split at e
  ·rw[if_pos (by assumption)]
   have hz:h.objs.size+1=(h.push { cls:=.type "cell",data:=.cell none }).objs.size:=(dH ..).symm
   rw[hz] at e
   refine Qq r _ _ (fun u v z=>?_) x c e
   rw[cA] at z
   cases hx:u == y with
   | true=>rw[hx] at z;simp at z;subst z;exact ⟨none,⟨_,bC _ rfl,rfl⟩⟩
   | false=>rw[hx] at z;obtain ⟨w,hw⟩:=q u v z;exact ⟨w,hw.keeps fun b o e=>aE _ e⟩
  ·rw[if_neg (by assumption)]
   exact Qq r h acc q x c e
theorem Yd:∀ (names:List (Str×iO)) (n:Nat) (acc:List (Str×Addr)) (x:Str) (c:Addr) (n0:Nat),n0<=n->((x,fQ)∈names\/∀ c':Addr,acc.lookup x=some c'->n0<=c')->(cellsFrom n names acc).lookup x=some c->n0<=c
 | [],n,acc,x,c,n0,_,h,e=>by
  rcases h with h | h
  ·cases h
  ·exact h c e
 | (y,k)::r,n,acc,x,c,n0,hn,h,e=>by
  unfold cellsFrom at e
  split at e
  ·rename_i hk
   refine Yd r (n+1) _ x c n0 (qU hn) ?_ e
   cases hx:x == y with
   | true=>right;intro c' q;rw[cA,hx] at q;simp at q;subst q;exact hn
   | false=>
    rcases h with h | h
    ·rcases bE.mp h with q | q
     ·have:x=y:=(kK q).1
      rw[this] at hx;simp at hx
     ·exact .inl q
    ·right;intro c' q;rw[cA,hx] at q;exact h c' q
  ·rename_i hk
   refine Yd r n acc x c n0 hn ?_ e
   rcases h with h | h
   ·rcases bE.mp h with q | q
    ·have:fQ=k:=(kK q).2
     rw[<- this] at hk;simp at hk
    ·exact .inl q
   ·exact .inr h
variable {scope:iZ}
theorem Abx{M:Model}{A:dO}{E:aF->aL->Prop}{s:aL}{globals:Addr}{closure:List (Str×Addr)}{qual:Str}{func:Option Addr}{code:aF}{outer:jQ}{builtins:Addr}{Q:jQ->aL->Prop}
  (hQ:Q (newEnv scope s.heap.objs.size globals (cellsFrom (s.heap.objs.size+1) scope.names closure) qual func code (some outer) builtins) { s with heap:=pushCells (s.heap.push { cls:=.type "dict",data:=.dict #[] }) scope.names }) :
  wpAny M A (newFunctionEnv scope globals closure [] qual func code (some outer) builtins) Q E s:=by
 simp only[newFunctionEnv,qB,if_true]
 refine aC (wpAny_alloc ?_)
 refine aC (wpAny_layCells _ (fun name kind cells=>by cases hkc:kind == fQ <;> simp[hkc]) _ _ _ _ ?_)
 rw[show ({ s with heap:=s.heap.push { cls:=.type "dict",data:=.dict #[] } }:aL).heap.objs.size=s.heap.objs.size+1 from dH ..]
 rw[pE]
 exact aC (aU (aU hQ))
structure CompScC(X:Cx)(scope:iZ)(N':List Str)(ix:List (Option Nat)):Prop where
 kind:scope.kind = .function
 own:(scope.names.all fun y=>scope.names.lookup y.1 == some y.2)=true
 free:(scope.names.all fun y=>y.2 != .free || (X.env.kindOf y.1 == some .cell || X.env.kindOf y.1 == some .free))=true
 ixs:((N'.zip ix).all fun p=>match p.2 with | none=>true | some i=>(X.N[i]? == some p.1)&&(scope.names.lookup p.1 == some .free))=true
 len:N'.length=ix.length
noncomputable def Jv(X:Cx)(scope:iZ)(cl:List (Str×Addr))(C:Addr)(N':List Str)(s2:aL)(H2:Hp)(fp:List Addr)(pins:List (Addr×Obj)):Cx:=
 { blk X scope (cellsFrom (C+1) scope.names cl) C N' s2 H2 fp pins with fn:=fun x=>scope.names.lookup x == some .cell }
variable {elt tg iter:Expr}
section
variable {N':List Str}{ix:List (Option Nat)}{pins:List (Addr×Obj)}{σ:L2.St}{H2:Hp}{s2:aL}{cl:List (Str×Addr)}{fp:List Addr}
theorem CompScC.lk(S:CompScC X scope N' ix){x:Str}{k:iO}(h:(x,k)∈scope.names):scope.names.lookup x=some k:=by
 have:=bN.mp S.own _ h
 simpa using this
theorem W7(S:CompScC X scope N' ix)(hcalm:X.calm=true)(I2:Inv X pins σ H2 s2)(hcl:∀ x c,cl.lookup x=some c->X.env.cells.lookup x=some c)(hcl2:∀ y∈scope.names,y.2 = .free->∃ c,cl.lookup y.1=some c)
  (f2:∀ b∈fp,Fx X pins H2 b) (hfp:∀ b∈fp,b < s2.heap.objs.size) {C:Addr} {h4:Heap} {m:Str->Option aF} {t4:Nat} (hC:s2.heap.objs.size<=C) (hns:h4.Ns C m) (keep:∀ b o,s2.heap.get? b=some o->h4.get? b=some o)
  (hcells:∀ x c,(cellsFrom (C+1) scope.names cl).lookup x=some c->∃ v,h4.IsCell c v) :
  Inv (Jv X scope cl C N' s2 H2 fp pins) [] (inner ix σ) H2 { s2 with heap:=h4,toks:=t4 }:=by
 have hkindC:(relabel scope X.env).kind = .function:=S.kind
 have clt:∀ x c,cl.lookup x=some c->c < s2.heap.objs.size:=fun x c e=>by
  obtain ⟨v,oc,ho,_⟩:=I2.cell x c (hcl x c e)
  exact bD ho
 have new:∀ x c,(cellsFrom (C+1) scope.names cl).lookup x=some c->(C+1<=c)\/cl.lookup x=some c:=fun x c e=>by
  rcases Pd _ _ _ _ _ e with ⟨_,q⟩ | q
  ·exact .inl q
  ·exact .inr q
 have fr:∀ x,scope.names.lookup x=some .free->(cellsFrom (C+1) scope.names cl).lookup x=cl.lookup x:=fun x hx=>Uw _ _ _ _ fun q=>by
  have:=S.lk q
  rw[hx] at this;cases this
 have ok:(Jv X scope cl C N' s2 H2 fp pins).Ok:=
  { mod:=I2.ok.mod
    kind:=hkindC
    glob:=I2.ok.glob
    blt:=I2.ok.blt
    above:=hC
    inj:=Yl _ _ _ (fun x c e=>mP (aY (clt x c e) hC)) (fun x y c e1 e2=>I2.ok.inj x y c (hcl x c e1) (hcl y c e2))
    has:=fun x h=>by
     have h':(relabel scope X.env).names.lookup x=some .cell\/(relabel scope X.env).names.lookup x=some .free:=h
     have two:scope.names.lookup x=some .free\/scope.names.lookup x=some .cell:=by
      rcases h' with h' | h'
      ·rcases Eh h' with q | ⟨q,_⟩
       ·exact .inr q
       ·exact .inl q
      ·rcases Eh h' with q | ⟨q,z⟩
       ·exact .inl q
       ·cases z
     rcases two with hfree | hcell
     ·obtain ⟨c,hc⟩:=hcl2 _ (B2 hfree) rfl
      exact ⟨c,(fr x hfree).trans hc⟩
     ·exact jF.mp (jU _ _ _ (.inl hcell))
    cab:=fun x c h e=>by
     have hx:scope.names.lookup x=some .cell:=by
      have:(scope.names.lookup x == some fQ)=true:=h
      simpa using this
     exact cK hC (cK (iA _) (Yd _ _ _ _ _ (C+1) (aQ _) (.inl (B2 hx)) e))
    hd:=fun _=>I2.ok.hd hcalm
    frames:=I2.ok.frames
    stk:=.inl rfl
    exf:=fun b hb=>⟨bU (aY (hfp b hb) hC),fun x c e=>by
     rcases new x c e with q | q
     ·intro z;subst z;exact absurd (aY (hfp c hb) (cK hC (cK (iA _) q))) (cC _)
     ·exact (f2 b hb).2.2.2.2.1 x c (hcl x c q)⟩
    bs:=fun b o e=>I2.bs b o e
    bsz:=cK I2.ok.bsz I2.sz
    noex:=fun b o e hb=>by
     rcases (f2 b hb).2.2.2.1 with z | z
     ·exact I2.ok.noex b o e z
     ·exact absurd (aY (bD (I2.ok.bs b o e).1) z) (cC _)
    exfs:=fun b hb z=>by
     rcases bE.mp (I2.stkSub b z) with q | q
     ·exact (f2 b hb).2.1 q
     ·exact (f2 b hb).2.2.1 q
    funs:=I2.stack
    frf:=I2.stkFree }
 obtain ⟨m0,hn0,hl0⟩:=id I2.loc
 refine ⟨ok,rfl,I2.bare,Un.kept keep,⟨m,hns,fun j x v e1 e2 e3=>?_⟩,fun x c e=>hcells x c e,I2.hok.fresh hC,fun x c e=>?_,fun p hp=>?_,I2.hok.kept keep,?_⟩
 ·have e1':N'[j]? = some x:=e1
  have e2':(inner ix σ)[j]? = some (some v):=e2
  unfold inner at e2'
  rw[bO] at e2'
  cases hx:ix[j]? with
  | none=>rw[hx] at e2';simp at e2'
  | some o=>
   rw[hx] at e2'
   cases o with
   | none=>simp at e2'
   | some i=>
    simp at e2'
    have hz:(x,some i)∈N'.zip ix:=bV (i:=j) (by rw[jA];exact ⟨e1',hx⟩)
    have hz':=bN.mp S.ixs _ hz
    simp only[cE,beq_iff_eq] at hz'
    obtain ⟨hXN,hfr⟩:=hz'
    have hσ:σ[i]? = some (some v):=by
     cases q:σ[i]? with
     | none=>rw[q] at e2';simp at e2'
     | some o=>rw[q] at e2';simp at e2';rw[e2']
    have hk:=bN.mp S.free _ (B2 hfr)
    simp at hk
    have hvis:Vis X.env.scope x:=by
     rcases hk with q | q
     ·exact .inr (.inl q)
     ·exact .inr (.inr q)
    obtain ⟨u,r,look⟩:=hl0 i x v hXN hσ hvis
    rcases look with ⟨q,_⟩ | ⟨_,c,ec,hc⟩
    ·rcases hk with z | z
     ·rw[z] at q;cases q
     ·rw[z] at q;cases q
    ·obtain ⟨c',ec'⟩:=hcl2 _ (B2 hfr) rfl
     have:c'=c:=by have:=hcl x c' ec';rw[ec] at this;cases this;rfl
     subst this
     refine ⟨u,r,.inr ⟨?_,c',(fr x hfr).trans ec',?_⟩⟩
     ·rcases Ew (env:=X.env) hfr with q | q
      ·exact .inr q
      ·exact .inl q
     ·obtain ⟨oc,ho,hd⟩:=hc
      exact ⟨oc,keep _ _ ho,hd⟩
 ·rcases new x c e with q | q
  ·exact I2.hok.fresh (cK hC (cK (iA _) q))
  ·exact I2.freeC x c (hcl x c q)
 ·have hp':p∈X.pn++pins:=by simpa[Jv,blk] using hp
  obtain ⟨q1,q2,q3,q4,q5⟩:=I2.pin p hp'
  refine ⟨keep _ _ q1,q2,bU (aY (bD q1) hC),fun z=>?_,q5⟩
  rcases bE.mp (I2.stkSub p.1 z) with q | q
  ·exact q3 q
  ·exact q4 q
 ·show (inner ix σ).length=N'.length
  rw[S.len];simp[inner]
theorem Yq{ifs:List Expr}{g:TG}{tt:TT}{te:TE}{it:Addr}{J:It}{tn:Nat->Heap->Prop}{E:aF->aL->Prop}{Fin:List V->Hp->Prop}{RR:aF->Addr->rL->aL->Prop}
  (S:CompScC X scope N' ix) (hcalm:X.calm=true) (hcl:∀ x c,cl.lookup x=some c->X.env.cells.lookup x=some c) (hcl2:∀ y∈scope.names,y.2 = .free->∃ c,cl.lookup y.1=some c)
  (hg:∀ C,PG (Jv X scope cl C N' s2 H2 fp pins) tg g) (ht:∀ C,Oh (Jv X scope cl C N' s2 H2 fp pins) ifs tt) (he:∀ C,PE (Jv X scope cl C N' s2 H2 fp pins) elt te)
  (I2:Inv X pins σ H2 s2) (T:Turn X.prog X.w X.K tg J fp it tn) (st2:tn 0 s2.heap) (f2:∀ b∈fp,Fx X pins H2 b) (hloop:Aae J g tt te (inner ix σ) H2 Fin)
  (hRR:∀ (D C:Addr) (s':aL) (H':Hp) (acc:List V),Inv X pins σ (upd H' D (.lst acc)) s'->H' D=none->(∃ m,s'.heap.Ns C m)->(upd H' D (.lst acc)) C=none->Fx X pins (upd H' D (.lst acc)) C->Fin acc H'->RR (.ref D) C (.ok .next) s') :
  wpAny (model X.prog X.w) X.A (newList []) (fun acc s₃=>wpAny (model X.prog X.w) X.A (newFunctionEnv scope X.env.globals cl [] X.env.qual none .none (some X.env)) (fun cenv s₄=>
   jT (model X.prog X.w) X.A (.compStart (.ListComp elt [⟨tg,iter,ifs,0⟩] scope pos) 0 (.ref it) acc { cenv with scope:=relabel scope X.env }) (RR acc cenv.locals) s₄) E s₃) E s2:=by
 refine dG (Abx ?_)
 dsimp only
 generalize hH2:s2.heap.push { cls:=.type "list",dict:=none,data:=.seq ([]:List aF).toArray } = HP
 have hCs:HP.objs.size=s2.heap.objs.size+1:=by rw[<- hH2,dH]
 have hDC:s2.heap.objs.size≠HP.objs.size:=by rw[hCs];exact bU (dZ _)
 have hCle:s2.heap.objs.size<=HP.objs.size:=by rw[hCs];exact iA _
 have hz1:(HP.push { cls:=.type "dict",data:=.dict #[] }).objs.size=HP.objs.size+1:=dH ..
 generalize h1eq:pushCells (HP.push { cls:=.type "dict",data:=.dict #[] }) scope.names=h₁
 have old:∀ b o,s2.heap.get? b=some o->h₁.get? b=some o:=fun b o e=>h1eq ▸ oK _ _ _ _ (aE _ (hH2 ▸ aE _ e))
 have hacc:h₁.get? s2.heap.objs.size=some (Ce [] 0):=h1eq ▸ oK _ _ _ _ (aE _ (hH2 ▸ bC _ rfl))
 have hns₁:h₁.Ns HP.objs.size (fun _=>none):=h1eq ▸ (Heap.Ns.new HP (.type "dict")).keeps (oK _ _)
 have hcells:∀ x c,(cellsFrom (HP.objs.size+1) scope.names cl).lookup x=some c->∃ v,h₁.IsCell c v:=fun x c e=>by
  rw[<- hz1] at e
  rw[<- h1eq]
  refine Qq _ _ _ (fun y d q=>?_) x c e
  obtain ⟨v,oc,ho,hd⟩:=I2.cell y d (hcl y d q)
  exact ⟨v,oc,aE _ (hH2 ▸ aE _ ho),hd⟩
 have hfp:∀ b∈fp,b < s2.heap.objs.size:=fun b hb=>by
  obtain ⟨o,e,_⟩:=T.obj _ _ st2 b hb
  exact bD e
 generalize hDg:s2.heap.objs.size=D at hDC hacc
 generalize hCg:HP.objs.size=C at *
 have hDle:s2.heap.objs.size<=D:=nS hDg
 have hD2:s2.heap.get? D=none:=by
  cases q:s2.heap.get? D with
  | none=>rfl
  | some o=>exact absurd (aY (bD q) hDle) (cC _)
 have I4:=W7 (t4:=s2.toks) S hcalm I2 hcl hcl2 f2 hfp hCle hns₁ old hcells
 have above:∀ a,s2.heap.objs.size<=a->a∉frs X.stack/\(∀ x c,X.env.cells.lookup x=some c->c≠a)/\(∀ p∈X.pn++pins,p.1≠a)/\a≠X.env.locals:=fun a ha=>by
  refine ⟨fun z=>?_,fun x c e z=>?_,fun p hp z=>?_,?_⟩
  ·rcases bE.mp (I2.stkSub a z) with q | q
   ·exact absurd (aY I2.lt (q ▸ ha)) (cC _)
   ·exact I2.nofs ha q
  ·obtain ⟨v,q⟩:=I2.cell x c e
   exact absurd (aY q.lt (z ▸ ha)) (cC _)
  ·exact absurd (aY (bD (I2.pin p hp).1) (z ▸ ha)) (cC _)
  ·intro z;exact absurd (aY I2.lt (z ▸ ha)) (cC _)
 have newc:∀ x c,(cellsFrom (C+1) scope.names cl).lookup x=some c->(C+1<=c)\/X.env.cells.lookup x=some c:=fun x c e=>by
  rcases Pd _ _ _ _ _ e with ⟨_,q⟩ | q
  ·exact .inl q
  ·exact .inr (hcl x c q)
 have hfpX:∀ b∈fp,Fx (Jv X scope cl C N' s2 H2 fp pins) [] H2 b/\b≠D:=fun b hb=>by
  obtain ⟨q0,q1,q2,q3,q4,q5⟩:=f2 b hb
  have hlt:=hfp b hb
  refine ⟨⟨q0,bU (aY hlt hCle),fun z=>?_,.inl hb,fun x c e=>?_,fun p hp=>q5 p (by simpa[Jv,blk] using hp)⟩,bU (aY hlt hDle)⟩
  ·rcases bE.mp (I2.stkSub b z) with q | q
   ·exact q1 q
   ·exact q2 q
  ·rcases newc x c e with q | q
   ·intro z;subst z;exact absurd (aY hlt (cK hCle (cK (iA _) q))) (cC _)
   ·exact q4 x c q
 have hDC':D < C:=by rw[<- hDg,hCs];exact dZ _
 have hDf:∀ H:Hp,H D=none->Fx (Jv X scope cl C N' s2 H2 fp pins) [] H D:=fun H hn=>by
  obtain ⟨a1,a2,a3,a4⟩:=above D hDle
  refine ⟨hn,hDC,a1,.inr hDle,fun x c e=>?_,fun p hp=>a3 p (by simpa[Jv,blk] using hp)⟩
  rcases newc x c e with q | q
  ·intro z;subst z;exact absurd (aY hDC' (cK (iA _) q)) (cC _)
  ·exact a2 x c q
 have hDn2:H2 D=none:=I2.hok.fresh hDle
 have I5:Inv (Jv X scope cl C N' s2 H2 fp pins) [(D,Ce [] 0)] (inner ix σ) H2 { s2 with heap:=h₁,toks:=s2.toks }:=I4.pins_of fun p hp=>by
  have:p=(D,Ce [] 0):=by simpa using hp
  subst this
  obtain ⟨_,d1,d2,_⟩:=hDf H2 hDn2
  exact ⟨hacc,hDn2,d1,d2,fun v z=>by simp[Ce] at z⟩
 have st5:tn 0 h₁:=T.keep _ _ _ st2 fun b _ o e=>old b o e
 have loop:jT (model X.prog X.w) X.A (.compLoop (.ListComp elt [⟨tg,iter,ifs,0⟩] scope pos) 0 (.ref it) (.ref D) (Jv X scope cl C N' s2 H2 fp pins).env) (RR (.ref D) C) { s2 with heap:=h₁,toks:=s2.toks }:=by
  refine Sr (X':=Jv X scope cl C N' s2 H2 fp pins) ⟨rfl,rfl,rfl,rfl,hcalm,fun _ _ z=>z⟩ T (hg C) (ht C) (he C) hDle hDC hCle hfpX hDf I5 st5 (fun b hb=>(f2 b hb).1) hloop ?_
  intro s' σ' H' acc its n I hv hz fin
  obtain ⟨hDo,hDn,_⟩:=I.pin (D,Ce its n) (aT _ (cH.mpr rfl))
  have hbase:Un (frs X.stack) fp H2 H' s2.heap s'.heap:=I.base
  have hok:HOk X.prog X.w (upd H' D (.lst acc)) s'.heap:=HOk.adopt I.hok hDn ⟨hz,its,n,hv,hDo⟩
  have IX:Inv X pins σ (upd H' D (.lst acc)) s':=I2.call' I.os (Un.adopt hbase hDn hD2) hok I.bare fun b hb=>⟨(f2 b hb).2.2.2.1,(f2 b hb).2.1,(f2 b hb).2.2.2.2.1,(f2 b hb).2.2.2.2.2⟩
  obtain ⟨m,hm,_⟩:=I.loc
  have hCn:(upd H' D (.lst acc)) C=none:=by rw[Aq (eP hDC)];exact I.free
  obtain ⟨a1,a2,a3,a4⟩:=above C hCle
  refine hRR D C s' H' acc IX hDn ⟨m,hm⟩ hCn ⟨hCn,a4,fun z=>?_,.inr (cK I2.sz hCle),a2,a3⟩ fin
  exact I2.nofs hCle z
 exact oA loop (T.self _ 0 _ _ _ st5 loop)
theorem CompScC.names(S:CompScC X scope N' ix):∀ x∈scope.names,x.2 = .local->scope.names.lookup x.1=some .local:=fun x hx hl=>by
 have:=S.lk (x:=x.1) (k:=x.2) hx
 rw[hl] at this
 exact this
theorem CompScC.clos(S:CompScC X scope N' ix)(ok:X.Ok):∃ cl,closureFor scope X.env=pure cl/\(∀ x c,cl.lookup x=some c->X.env.cells.lookup x=some c)/\∀ y∈scope.names,y.2 = .free->∃ c,cl.lookup y.1=some c:=by
 refine Lo fun y hy hf=>?_
 have:=bN.mp S.free y hy
 rw[hf] at this
 simp at this
 exact ok.has y.1 this
theorem Aes{ifs:List Expr}{wi:TI}{g:TG}{tt:TT}{te:TE}(S:CompScC X scope N' ix)(hcalm:X.calm=true)(hi:PI X tg iter wi)
  (hg:∀ cl C s2 H2 fp pins,PG (Jv X scope cl C N' s2 H2 fp pins) tg g) (ht:∀ cl C s2 H2 fp pins,Oh (Jv X scope cl C N' s2 H2 fp pins) ifs tt) (he:∀ cl C s2 H2 fp pins,PE (Jv X scope cl C N' s2 H2 fp pins) elt te)
  (hs:∀ x,foldedSetIterable iter X.env x=pure x:=by intro _;rfl):PE X (.ListComp elt [⟨tg,iter,ifs,0⟩] scope pos) (Abg ix wi g tt te):=by
 intro pins s σ H Q I h
 obtain ⟨cl,hclos,hcl,hcl2⟩:=S.clos I.ok
 rw[eval_ListComp]
 refine jG (use:=none) rfl hs hclos S.kind S.names (thn (hi pins s σ H _ I h) fun v s1 h1=>thn h1 fun itv s2 h2=>?_)
 obtain ⟨it,fp,tn,J,H2,e,I2,T,st2,f2,loop⟩:=h2
 subst e
 refine Yq (RR:=fun acc C=>compPost (model X.prog X.w) X.A X.xe none (EP X pins σ Q) acc C) S hcalm hcl hcl2 (fun C=>hg cl C s2 H2 fp pins) (fun C=>ht cl C s2 H2 fp pins) (fun C=>he cl C s2 H2 fp pins) I2 T st2 f2 loop ?_
 intro D C s' H' acc IX hDn ⟨m,hm⟩ hCn hC fin
 refine ⟨m,hm,fun h' hsb=>?_⟩
 obtain ⟨c0,c1,c2,c3,c4,c5⟩:=hC
 exact ⟨.ref D,_,IX.turned (t':=s'.toks) (fun b o hb e=>hsb.2 b hb |>.trans e) c0 c1 c3 c4 c5,rfl,fin D hDn⟩
end
section
variable {N':List Str}{ix:List (Option Nat)}{c:Expr}{fi:FI}{g:FG}{ft:FT}{fe:FE}
theorem Ab2(S:CompScC X scope N' ix)(hcalm:X.calm=true)(hi:PIF X tg iter fi)(hg:∀ cl C s2 H2 fp pins,PGF (Jv X scope cl C N' s2 H2 fp pins) tg g)(ht:∀ cl C s2 H2 fp pins,PTF (Jv X scope cl C N' s2 H2 fp pins) c ft)(he:∀ cl C s2 H2 fp pins,PEF (Jv X scope cl C N' s2 H2 fp pins) elt fe)
  (hs:∀ x,foldedSetIterable iter X.env x=pure x:=by intro _;rfl):PEF X (.ListComp elt [⟨tg,iter,[c],0⟩] scope pos) (Bn ix fi g (some ft) fe):=
 PE.imp (Aes (g:=lG X.K g) (te:=lE X.K fe) (tt:=lT X.K ft) S hcalm hi hg (fun _ _ _ _ _ _=>Np (ht _ _ _ _ _ _)) he hs) (Nh (tt:=some ft))
end
end MR
namespace ZT
open PySem PySem.Spec PyProof.Rows
open Sem (wp)
section
variable {prog:cU}{w:eD}{A:dO}{s:aL}{R:rL->aL->Prop}
variable {I:Addr}{fp wr:List Addr}{G:Array oV->Array oV->Prop}{n:Nat}{P:Nat->aF->Prop}{St:Nat->aL->Prop}
end
section
variable {prog:cU}{w:eD}{A:dO}{E:aF->aL->Prop}{s:aL}
variable {I:Addr}{fp wr:List Addr}{G:Array oV->Array oV->Prop}{n:Nat}{P:Nat->aF->Prop}{St:Nat->aL->Prop}
end
end ZT
namespace MR
open PySem PySem.Spec PyProof.Rows PySem.Calls L2
section
variable {X:Cx}
theorem Qh:fB "list" = some (.type "list"):=by decide +kernel
end
end MR
namespace ZT
open PySem PySem.Spec PyProof.Rows HT
section
variable {prog:cU}{w:eD}{A:dO}{E:aF->aL->Prop}{s:aL}
end
end ZT
namespace MR
open PySem PySem.Spec PyProof.Rows PySem.Calls L2
section
variable {X:Cx}{tg:Expr}
end
section
variable {X:Cx}
end
noncomputable def Aio:S2:=fun u w L=>match u,w with
 | .tup [],.tup b=>some (.tup b,L)
 | u,w=>Ax u w L
@[simp] theorem Akj(i j:Int)(L:UH):Aio (.int i) (.int j) L=some (.int (i+j),L):=rfl
end MR
namespace MR
open PySem PyProof.Rows L2
section
variable {X:Cx}
noncomputable def Aop(i j:Int):Prop:=0<=j/\(dJ i:Int)+j<=2 ^ 27
theorem Aiw:OpR X (fX .LShift) (rI Aop fun i j=>.int (i * 2 ^ j.toNat)):=opI fun _ _ _ _ _ _ _ hc q=>lshift_int hc.1 hc.2 q
noncomputable def Al2:V->Option Int->Option Int->Hp->VK->Prop:=fun x lo hi H Q=>∃ a,x = .str a/\a.length<=sizeLine/\Q (.str (gG a lo hi)) H
theorem Akp:SlR X Al2:=by
 intro pins s σ H x v vl vu lo hi sl Q I rx hs pl pu h
 obtain ⟨a,rfl,hl,q⟩:=h
 obtain ⟨t,rfl⟩:=rx
 refine ⟨"str",_,F.slot_str_getitem.lookup,sZ _ _ _,?_⟩
 have fin:∀ (t':Tok) (k:Nat),EP X pins σ Q (.str (gG a lo hi) t') { s with toks:=k }:=fun t' k=>⟨.str (gG a lo hi),H,I.tok k,⟨_,rfl⟩,q⟩
 have hz:(gG a lo hi).length<=sizeLine:=cK (qV a _ _) hl
 cases pl with
 | none=>
  cases pu with
  | none=>exact iH (l:=none) (u:=none) (st:=none) hs rfl (kW ⟨hz,fin⟩)
  | int j tj=>exact iH (l:=none) (u:=some (j,tj)) (st:=none) hs rfl (kW ⟨hz,fin⟩)
 | int i ti=>
  cases pu with
  | none=>exact iH (l:=some (i,ti)) (u:=none) (st:=none) hs rfl (kW ⟨hz,fin⟩)
  | int j tj=>exact iH (l:=some (i,ti)) (u:=some (j,tj)) (st:=none) hs rfl (kW ⟨hz,fin⟩)
noncomputable def Aj7:V->List V->Hp->VK->Prop:=fun x vs H Q=>∃ (a:Str) (l:Addr) (ys:List Str),x = .str a/\vs=[.ref l]/\H l=some (.lst (ys.map V.str))/\a.length<=16/\(ys.map (·.length)).sum+ys.length<=1048576/\Q (.str (tF a ys)) H
theorem Qg:∀ {its:List aF} {ys:List Str},Vals (ys.map V.str) its->StrsAre its ys
 | its,[],r=>by rw[bT] at r;cases r;exact .nil
 | its,y::ys,r=>by
  rw[aO] at r
  cases r with
  | cons r1 r2=>
   obtain ⟨t',rfl⟩:=r1
   exact .cons _ _ (Qg r2)
theorem Ahq:MtR X "str.join" Aj7:=by
 intro pins s σ H x vs v us Q I rx rv h
 obtain ⟨a,l,ys,rfl,rfl,hH,ha,hw,q⟩:=h
 obtain ⟨t,rfl⟩:=rx
 obtain ⟨u,rfl,ru⟩:=rv.one
 cases ru
 obtain ⟨z,its,n,r,hl,e⟩:=I.lstM hH
 exact join_listW ⟨_,e,rfl,_,rfl⟩ (by simpa using Qg r) ha hw fun t' k=>⟨.str (tF a ys),H,I.tok k,⟨_,rfl⟩,q⟩
end
noncomputable def Vg(i j:Int):Bool:=decide (0<=j)&&decide ((dJ i:Int)+j<=2 ^ 27)
noncomputable def M7:S2:=Abq Vg fun i j=>.int (i * 2 ^ j.toNat)
variable {K:aH}
theorem Aee:C1 K (rI Aop fun i j=>.int (i * 2 ^ j.toNat)) M7:=Aas (fun i j h=>by simp only[Vg,cE,decide_eq_true_eq] at h;exact h) fun _ _ _ _=>rfl
noncomputable def Fo:SS:=fun u lo hi L=>match u with
 | .str x=>if small x.length=true then some (.str (gG x lo hi),L) else none
 | u=>G7 u lo hi L
theorem T3{X:Cx}:SlR X (fun x lo hi H Q=>Ah9 X.K x lo hi H Q\/Al2 x lo hi H Q):=Qn.or Akp
theorem Us:Afi K (fun x lo hi H Q=>Ah9 K x lo hi H Q\/Al2 x lo hi H Q) Fo:=by
 intro H α L u x lo hi z L' Q A ru e q
 cases u with
 | str a=>
  unfold Fo at e
  simp only at e
  split at e
  ·rename_i hs
   cases e
   unfold RepU at ru
   subst ru
   exact .inr ⟨a,rfl,E5 hs,q _ H α (.refl _ _) A rfl⟩
  ·cases e
 | tup l=>exact .inl (Nv H α L (.tup l) x lo hi z L' Q A ru e q)
 | ref n=>exact .inl (Nv H α L (.ref n) x lo hi z L' Q A ru e q)
 | _=>cases e
noncomputable def toS:U->Option Str
 | .str a=>some a
 | _=>none
theorem Aa2{H:Hp}{α:List Addr}:∀ {us:List U} {xs:List V} {ys:List Str},RepL K H α us xs->mapO toS us=some ys->xs=ys.map V.str
 | [],xs,ys,r,e=>by
  unfold RepL at r
  cases e
  exact r
 | u::us,xs,ys,r,e=>by
  unfold RepL at r
  obtain ⟨x,xr,rfl,rx,r⟩:=r
  unfold mapO at e
  obtain ⟨y,hy,e⟩:=aB.mp e
  obtain ⟨yr,hyr,e⟩:=aG.mp e
  cases e
  cases u with
  | str a=>
   cases hy
   unfold RepU at rx
   rw[rx,Aa2 r hyr];rfl
  | _=>cases hy
noncomputable def Jy:SM:=fun u us L=>match u,us with
 | .str a,[.ref n]=>(Fg L n).bind fun l=>(mapO toS l).bind fun ys=>if a.length<=16/\(ys.map (·.length)).sum+ys.length<=1048576 then some (.str (tF a ys),L) else none
 | _,_=>none
theorem Ae0:Uy K Aj7 Jy:=by
 intro H α L u us x xs z L' Q A ru r e q
 unfold Jy at e
 split at e
 ·obtain ⟨l,hl,e⟩:=aB.mp e
  obtain ⟨ys,hys,e⟩:=aB.mp e
  split at e
  ·rename_i hc
   cases e
   unfold RepU at ru
   subst ru
   obtain ⟨v,rfl,rv⟩:=r.one
   obtain ⟨a',zs,rfl,ea,h,r2⟩:=Jt A hl rv
   rw[Aa2 r2 hys] at h
   exact ⟨_,a',ys,rfl,rfl,h,hc.1,hc.2,q _ H α (.refl _ _) A rfl⟩
  ·cases e
 ·cases e
end MR
namespace MR
open PySem PySem.W PyProof.Rows L2
theorem P0:∀ (ns:List Int) (n:Int),n∈ns->dJ n<=kX (ns.map nH)
 | [],_,h=>by cases h
 | m::ns,n,h=>by
  have e:kX ((m::ns).map nH)=dJ m+1+kX (ns.map nH):=by
   rw[aO,kX,tX];rfl
  rw[e]
  rcases bE.mp h with rfl | h
  ·omega
  ·have:=P0 ns n h;omega
theorem R5{ns:List Int}(h:rW [wJ (ns.map nH)]=true):∀ n∈ns,dJ n<=2 ^ 20:=by
 intro n hn
 unfold rW at h
 rw[kI,cE] at h
 have h1:=h.1
 unfold WData.layable at h1
 rw[cE] at h1
 have h2:=of_decide_eq_true h1.2
 rw[tX] at h2
 exact cK (P0 ns n hn) h2
end MR
namespace Att
open PySem PySem.W PySem.Calls PyProof.Rows L2 MR
structure _root_.MR.LamB(K:aH)(mg:Str->Option aF)(base:Heap):Prop where
 bm:∃ bm ob,mg "__builtins__" = some (.ref bm)/\bm≠lP/\base.get? bm=some ob/\ob.cls = .type "module" /\ ob.dict=some lP/\ob.data = .plain
 hd:∀ nm∈Fu,∀ c P,dF K nm=some (c,P)->PySem.W.CodeHd base c P
 inj:∀ nm1∈Fu,∀ nm2∈Fu,∀ c1 c2 P,dF K nm1=some (c1,P)->dF K nm2=some (c2,P)->nm1=nm2
open PySem.Spec in
theorem Abu{P:cU}{w:eD}{K:aH}{mg mb:Str->Option aF}{k:Nat}{fa a:Addr}{fd:dA}{x:Str}{sp:Sp}{s₁:aL}{vs:List aF}{ns:List Int}(tabs:List Addr)
  (hT:∀ b∈tabs,(∃ c,CodeHd s₁.heap c b)/\s₁.heap.get? b=some (tabObj #[])) (hKT:noTabs K=true) (LB:LamB K mg s₁.heap)
  (KX:K.In s₁.heap) (hns:s₁.heap.Ns bI mg) (hb:s₁.heap.Ns lP mb) (hbb:∀ x:Str,x ≠ "__name__" -> mb x=fB x) (hlim:s₁.heap.NoLimit) (hg:s₁.gens=#[])
  (ha:s₁.heap.get? a=some { cls:=.type "list",data:=.seq vs.toArray }) (hi:fY vs ns) (hl:ns.length<=sizeLine) (hr:Room k callerA)
  (F:∀ base:Heap,K.In base->base.Ns bI mg->LamB K mg base->FnOk P w K mg base CX0 k fa fd [x] sp) (hbind:∀ (s:aL) (u:aF),pL s fd ⟨[u],[]⟩ [(x,u)])
  (hsp:∀ H:Hp,Aeq H->(∀ b∈tabs,H b=some (.tbl #[]))->SqL K H a (ns.map V.int)->sp [.ref a] H (fun v _=>v = .bl true) fun _ _ _=>False) :
  jT (model P w) callerA (.call (.ref fa) ⟨[.ref a],[]⟩) (fun r s'=>r = .ok (.ret (.bool true))/\OldK s₁.heap s'.heap/\s'.os=s₁.os/\nQ s'.gens) s₁:=by
 have rv:=Abt hi
 have lenV:=hi.length
 have noK:∀ b∈tabs,K.lookup b=none:=fun b hb=>by
  cases q:K.lookup b with
  | none=>rfl
  | some o=>
   have e:=KX b o q
   rw[(hT b hb).2] at e
   cases e
   have h2:=bN.mp hKT (b,_) (mem_of_lookupK q)
   exact absurd (show false=true from h2) cL
 have naT:a∉tabs:=fun z=>by
  have e:=(hT a z).2
  rw[ha] at e;cases e
 have core:∀ H:Hp,(∀ b,H b=none\/(b=a/\H b=some (.frz { cls:=.type "list",data:=.seq vs.toArray } (.lst (ns.map V.int))))\/(b∈tabs/\H b=some (.tbl #[])))->(∀ b∈tabs,H b=some (.tbl #[]))->SqL K H a (ns.map V.int)->HOk P w H s₁.heap->(H a≠none->K.lookup a=none) ->
   jT (model P w) callerA (.call (.ref fa) ⟨[.ref a],[]⟩) (fun r s'=>r = .ok (.ret (.bool true))/\OldK s₁.heap s'.heap/\s'.os=s₁.os/\nQ s'.gens) s₁:=by
  intro H hO hB hS hok hK
  have base_of:∀ {b:Addr} {o:Obj},s₁.heap.get? b=some o->H b=none->(R1 s₁.heap H).get? b=some o:=fun e n=>Afl e n
  have noA:∀ {b:Addr} {o:Obj} {es:Array DictEntry} {ep:Nat},s₁.heap.get? b=some o->o.data = .dict es ep->H b=none:=fun {b o es ep} e d=>by
   rcases hO b with z | ⟨e',_⟩ | ⟨e',_⟩
   ·exact z
   ·subst e'
    rw[ha] at e;cases e
    have d':Data.seq vs.toArray _=Data.dict es ep:=d
    cases d'
   ·rw[(hT b e').2] at e;cases e
    have d':wD #[]=Data.dict es ep:=d
    cases d'
  have nsK:∀ {b:Addr} {m:Str->Option aF},s₁.heap.Ns b m->(R1 s₁.heap H).Ns b m:=fun {b m} ⟨o,es,ep,e,d,r⟩=>⟨o,es,ep,base_of e (noA e d),d,r⟩
  have hKb:K.In (R1 s₁.heap H):=fun b o e=>base_of (KX b o e) (by
   rcases hO b with z | ⟨e',z⟩ | ⟨e',z⟩
   ·exact z
   ·subst e'
    rw[hK (by rw[z];simp)] at e;cases e
   ·rw[noK b e'] at e;cases e)
  have noO:∀ {b:Addr} {o:Obj} {n:String},s₁.heap.get? b=some o->o.cls = .type n->n ≠ "list" -> H b=none:=fun {b o n} e d ne=>by
   rcases hO b with z | ⟨e',_⟩ | ⟨e',_⟩
   ·exact z
   ·subst e'
    rw[ha] at e;cases e
    have d':gJ "list" = gJ n:=d
    cases d'
    exact absurd rfl ne
   ·rw[(hT b e').2] at e;cases e
    cases d
  have hLB:LamB K mg (R1 s₁.heap H):=by
   obtain ⟨bm,ob,b1,b2,b3,b4,b5,b6⟩:=LB.bm
   refine ⟨⟨bm,ob,b1,b2,base_of b3 (noO b3 b4 (by decide)),b4,b5,b6⟩,fun nm hn c P e=>?_,LB.inj⟩
   obtain ⟨o,vs,file,tf,flags,tg,inF,text,tt,c1,c2,c3⟩:=LB.hd nm hn c P e
   exact ⟨o,vs,file,tf,flags,tg,inF,text,tt,base_of c1 (noO c1 c2 (by decide)),c2,c3⟩
  have hM:Mod K mg (R1 s₁.heap H):=⟨hKb,nsK hns,⟨mb,nsK hb,hbb⟩,let ⟨mc,h1,h2⟩:=hlim;⟨mc,nsK h1,h2⟩⟩
  have e0:Env0 P w K mg (R1 s₁.heap H) callerA [] s₁ H:=⟨rfl,hM,fun b o e=>Ajv e,nS (Abo _ _),trivial,fun b hb=>absurd (show b∈([]:List Addr) from hb) (by simp),hok,.of_eq hg⟩
  refine qM ((F _ hKb (nsK hns) hLB).run callerA [] s₁ H ⟨[.ref a],[]⟩ [.ref a] [.ref a] _ _ hr e0 (hbind s₁ (.ref a)) (.cons rfl .nil) (hsp H (fun b=>?_) hB hS)) fun r s' h=>?_
  ·rcases hO b with z | ⟨_,z⟩ | ⟨_,z⟩
   ·exact .inl z
   ·exact .inr (.inl ⟨_,_,z⟩)
   ·exact .inr (.inr ⟨_,z⟩)
  cases r with
  | error e=>exact fV h
  | ok fl=>
   cases fl with
   | next=>exact fV h
   | brk=>exact fV h
   | cont=>exact fV h
   | ret u=>
    obtain ⟨v,H',os,bare,un,hok',r',q⟩:=h
    have q':v = .bl true:=q
    subst q'
    obtain rfl:u=nO true:=r'
    have grow:∀ b∈tabs,∃ more,s'.heap.get? b=some (tabObj (#[]++more)):=fun b hb=>by
     obtain ⟨more,e2⟩:=un.tbls b _ (hB b hb)
     exact ⟨more,hok' b _ e2⟩
    have keep:∀ b o,b∉tabs->s₁.heap.get? b=some o->s'.heap.get? b=some o:=fun b o hb e=>by
     rcases hO b with z | ⟨e',z⟩ | ⟨e',z⟩
     ·exact un.keep b o e z (by intro z;exact absurd (show b∈([]:List Addr) from z) (by simp)) (by simp)
     ·have z2:=un.frzs b _ _ z
      obtain ⟨e1,_⟩:=hok b _ z
      obtain ⟨e2,_⟩:=hok' b _ z2
      rw[e] at e1;cases e1
      exact e2
     ·exact absurd e' hb
    refine ⟨rfl,⟨fun b o e=>?_,fun b o e=>?_⟩,os,bare⟩
    ·by_cases hb:b∈tabs
     ·obtain ⟨more,e2⟩:=grow b hb
      obtain ⟨⟨c,hc⟩,e3⟩:=hT b hb
      rw[e] at e3;cases e3
      exact .inr (.inl ⟨(hc.tab e).isCodeTable,rfl,#[],more,rfl,e2⟩)
     ·exact .inl (keep b o hb e)
    ·by_cases hb:b∈tabs
     ·obtain ⟨more,e2⟩:=grow b hb
      exact ⟨_,e2⟩
     ·exact ⟨o,keep b o hb e⟩
 have tabok:∀ b∈tabs,∀ H:Hp,ObjOk P w H s₁.heap b (.tbl #[]):=fun b hb H=>(hT b hb).2
 cases hk:K.lookup a with
 | some o=>
  have e:=KX a o hk
  rw[ha] at e
  cases e
  refine core (fun b=>if b∈tabs then some (.tbl #[]) else none) (fun b=>?_) (fun b hb=>if_pos hb) (.inr ⟨_,vs.toArray,_,hk,rfl,rfl,rfl,by rw[aS,lenV];exact hl,by simpa using rv⟩) (fun b u z=>?_) fun z=>absurd (if_neg naT) z
  ·by_cases hb:b∈tabs
   ·exact .inr (.inr ⟨hb,if_pos hb⟩)
   ·exact .inl (if_neg hb)
  ·by_cases hb:b∈tabs
   ·have z':=(if_pos hb).symm.trans z
    cases z'
    exact tabok b hb _
   ·have z':=(if_neg hb).symm.trans z
    cases z'
 | none=>
  refine core (fun b=>if b=a then some (.frz { cls:=.type "list",data:=.seq vs.toArray } (.lst (ns.map V.int))) else if b∈tabs then some (.tbl #[]) else none) (fun b=>?_) (fun b hb=>?_) (.inl (.inr ⟨{ cls:=.type "list",data:=.seq vs.toArray },if_pos rfl⟩)) (fun b u z=>?_) fun _=>hk
  ·by_cases hb:b=a
   ·exact .inr (.inl ⟨hb,if_pos hb⟩)
   ·by_cases hb2:b∈tabs
    ·exact .inr (.inr ⟨hb2,(if_neg hb).trans (if_pos hb2)⟩)
    ·exact .inl ((if_neg hb).trans (if_neg hb2))
  ·exact (if_neg (fun z=>naT (by rw[<- z];exact hb))).trans (if_pos hb)
  ·by_cases hb:b=a
   ·have z':=(if_pos hb).symm.trans z
    cases z'
    subst hb
    exact ⟨ha,by rw[aV];exact hl,vs,_,rv,ha⟩
   ·have z:=(if_neg hb).symm.trans z
    by_cases hb2:b∈tabs
    ·have z':=(if_pos hb2).symm.trans z
     cases z'
     exact tabok b hb2 _
    ·have z':=(if_neg hb2).symm.trans z
     cases z'
noncomputable def Age(K:aH):List (Addr×Addr):=Fu.filterMap fun nm=>dF K nm
noncomputable def Ua(K:aH):List (Str×Addr):=Fu.filterMap fun nm=>(dF K nm).map fun q=>(nm,q.2)
noncomputable def Nq(K:aH):Bool:=(Ua K).all fun x=>(Ua K).all fun y=>x.1 == y.1 || x.2 != y.2
theorem Agf{K:aH}(h:Nq K=true):∀ nm1∈Fu,∀ nm2∈Fu,∀ c1 c2 P,dF K nm1=some (c1,P)->dF K nm2=some (c2,P)->nm1=nm2:=by
 intro nm1 h1 nm2 h2 c1 c2 P e1 e2
 have m1:(nm1,P)∈Ua K:=gL.mpr ⟨nm1,h1,by rw[e1];rfl⟩
 have m2:(nm2,P)∈Ua K:=gL.mpr ⟨nm2,h2,by rw[e2];rfl⟩
 have:=bN.mp (bN.mp h _ m1) _ m2
 simpa using this
theorem Amr{l:lN}{k:Nat}{q:cU}{loose:List Str}{XP:(Str->Option aF)->Heap->Prop}{YP:eD->Heap->Prop}{d:DefRec}{K:Params->aH}{m:FN}{x:Str}
  (hn:l.most=some 63) (hdf:d.params.defaults=[]) (hr:Room k callerA) (hY:∀ (w:eD) (h:Heap),YP w h->(K w.params).In h)
  (hTK:∀ w:eD,noTabs (K w.params)=true/\Nq (K w.params)=true) (hrec:∀ nm∈Fu,∃ d,(recsOf q).find? (fun e=>e.name == nm)=some d)
  (F:∀ (w:eD) (mg:Str->Option aF) (fa:Addr) (h:Heap),(K w.params).In h->h.Ns bI mg->mg d.name=some (.ref fa) ->
   ∃ fd:dA,(∀ (s:aL) (u:aF),pL s fd ⟨[u],[]⟩ [(x,u)])/\∀ base:Heap,(K w.params).In base->base.Ns bI mg->LamB (K w.params) mg base->FnOk l.prog w (K w.params) mg base CX0 k fa fd [x] (spF (K w.params) 1 m))
  (ht:∀ ns:List Int,ns.length<=63->(∀ n∈ns,dJ n<=2 ^ 20)->∃ L',m [.ref 0] [.ro (ns.map U.int)]=some (.bl true,L')) :
  tN q loose XP YP l.row.toRowW d [] (fun f vs=>wL f vs):=by
 intro w s₀ s₁ mg mb G Y fa o pm cd doc dV kV ho hd hcd hD hmg hg args vals as hpre hlay hrd hwl hlo
 obtain rfl:dV = .none:=Dflts.none hD hdf
 obtain rfl:kV = .none:=Dflts.noKw hD
 obtain ⟨a,vs,ns,rfl,rfl,hobj,hints,hlen⟩:=Adv hn hpre hwl
 have KX:=hY w _ Y
 obtain ⟨fd,hb,hF⟩:=F w mg fa _ KX G.T.g hmg
 have hwt:=R5 hlay
 have hT:∀ b∈(Age (K w.params)).map (·.2),(∃ c,CodeHd s₁.heap c b)/\s₁.heap.get? b=some (tabObj #[]):=fun b hb=>by
  obtain ⟨⟨c,b'⟩,h1,h2⟩:=cB.mp hb
  obtain ⟨nm,h3,h4⟩:=gL.mp h1
  cases h2
  obtain ⟨dr,hd⟩:=hrec nm h3
  obtain ⟨e1,e2⟩:=tab_of G.T KX hd h4
  exact ⟨⟨c,e1⟩,e2⟩
 have LB:LamB (K w.params) mg s₁.heap:=⟨G.T.bmain,fun nm hn c P e=>by
  obtain ⟨dr,hd⟩:=hrec nm hn
  exact (tab_of G.T KX hd e).1,Agf (hTK w).2⟩
 have all:=Abu ((Age (K w.params)).map (·.2)) hT (hTK w).1 LB KX G.T.g G.T.b G.T.builtins G.T.nolimit hg hobj hints (cK hlen (by decide)) hr hF hb (fun H hO hB hS=>Alp hO (fun nm hn c P e=>?_) hS (ht ns hlen hwt))
 ·refine enter_call (qM all fun r s' hq=>?_)
  obtain ⟨rfl,h2,h3,h4⟩:=hq
  exact ⟨.inl ⟨.bool true,.bool true,[],rfl,fun _=>rfl,.bool true,Ac1 l _,fun _=>⟨List.Pairwise.nil,fun _ hm=>(nomatch hm)⟩⟩,h2,h3,h4⟩
 ·exact ⟨#[],hB P (cB.mpr ⟨(c,P),gL.mpr ⟨nm,hn,e⟩,rfl⟩),trivial,fun pos cv z=>by cases z⟩
end Att
namespace MR
open PySem PyProof.Rows L2
noncomputable def g0(us ws:List aF):List aF:=match us with | []=>ws | _=>[]
section
variable {X:Cx}{k:Nat}{f:Addr}{fd:dA}{p:Str}{ps:List Str}{x:Str}{pp pos kpos:Pos}{e:Expr}{kws:List jJ}{nm:Option Str}
theorem PK.imp{t t':TA}(h:PK X kws t)(hi:∀ σ H Q,t' σ H Q->t σ H Q):PK X kws t':=fun pos pins s σ H Q I q=>h pos pins s σ H Q I (hi σ H Q q)
end
end MR
namespace MR
open PySem PySem.Spec PyProof.Rows PySem.Calls L2
theorem Aid{ns:List Int}:∀ {us:List aF},Vals (ns.map V.int) us->∀ (i:Nat) (v:aF),us[i]? = some v->∃ n t,ns[i]? = some n/\v = .int n t:=by
 induction ns with
 | nil=>intro us r i v e;rw[bT] at r;cases r;simp at e
 | cons n ns ih=>
  intro us r i v e
  rw[aO] at r
  cases r with
  | cons r1 r2=>
   cases i with
   | zero=>
    simp at e;subst e
    obtain ⟨t,rfl⟩:=r1
    exact ⟨n,t,rfl,rfl⟩
   | succ i=>simpa using ih r2 i v (by simpa using e)
variable {X:Cx}
noncomputable def Mb(lo:Int)(n:Nat):List V:=(aX n).map fun i=>V.int (lo+(i:Nat))
theorem Td{lo:Int}{n:Nat}{acc:Array aF}(h:ItemsOf (fun i v=>∃ t,v=kC (lo+(i:Nat) * 1) t) acc n):Vals (Mb lo n) acc.toList:=by
 obtain ⟨h1,h2⟩:=h
 have key:∀ (k:Nat) (l:List aF) (m:Nat),l.length=k->(∀ i v,l[i]? = some v->∃ t,v=kC (lo+((m+i:Nat):Int)) t)->Vals ((List.range' m k).map fun i=>V.int (lo+((i:Nat):Int))) l:=by
  intro k
  induction k with
  | zero=>intro l m hl _;cases l with | nil=>exact .nil | cons _ _=>simp at hl
  | succ k ih=>
   intro l m hl hv
   cases l with
   | nil=>simp at hl
   | cons v l=>
    rw[List.range'_succ,aO]
    obtain ⟨t,ht⟩:=hv 0 v rfl
    refine .cons ⟨t,by rw[ht];rfl⟩ (ih l (m+1) (by simpa using hl) fun i w hw=>?_)
    obtain ⟨t',ht'⟩:=hv (i+1) w (by simpa using hw)
    refine ⟨t',?_⟩
    rw[ht']
    have:m+(i+1)=m+1+i:=by omega
    rw[this]
 have:=key n acc.toList 0 (by simpa using h1) (fun i v hv=>by
  obtain ⟨t,ht⟩:=h2 i v (by simpa using hv)
  refine ⟨t,?_⟩
  rw[ht,Int.mul_one,tY])
 unfold Mb
 rw[List.range_eq_range']
 exact this
section
theorem Ad2{pins:List (Addr×Obj)}{σ:L2.St}{H:Hp}{s:aL}{Q:VK}{lo hi:Int}{t u v:Tok}{tk:Nat}(hc:X.calm=true)(I:L2.Inv X pins σ H s)(h1:-(2 ^ 62)<=lo)(h2:lo < 2 ^ 62)(h3:-(2 ^ 62)<=hi)(h4:hi < 2 ^ 62)(hn:(hi - lo).toNat<=1000000)
  (q:∀ l,H l=none->Q (.ref l) (upd H l (.lst (Mb lo (hi - lo).toNat)))) :
  wpAny (model X.prog X.w) X.A (call (.type "list") [.ref s.heap.objs.size]) (EP X pins σ Q) X.xe { s with heap:=s.heap.push { cls:=.type "range",data:=.fields #[.int lo t,.int hi u,.int 1 v] },toks:=tk }:=by
 have I1:L2.Inv X pins σ H { s with heap:=s.heap.push { cls:=.type "range",data:=.fields #[.int lo t,.int hi u,.int 1 v] },toks:=tk }:=I.kept fun b o e=>aE _ e
 refine call_list_range (n:=(hi - lo).toNat) (I.ok.hd hc) (wF ..) (small_one h1 h2 h3 h4) (by rw[pO];split <;> omega) (by omega) fun h' tk' acc c' hk hS hacc=>?_
 have hz2:(s.heap.push { cls:=.type "range",data:=.fields #[.int lo t,.int hi u,.int 1 v] }).objs.size=s.heap.objs.size+1:=dH ..
 have hv:=Td hacc
 have kp:∀ b o,(s.heap.push { cls:=.type "range",data:=.fields #[.int lo t,.int hi u,.int 1 v] }).get? b=some o->h'.get? b=some o:=hk
 have hlen:(Mb lo (hi - lo).toNat).length<=sizeLine:=by
  unfold Mb sizeLine
  rw[aV,cD];omega
 have new:ObjOk X.prog X.w (upd H (s.heap.push { cls:=.type "range",data:=.fields #[.int lo t,.int hi u,.int 1 v] }).objs.size (.lst (Mb lo (hi - lo).toNat))) h' (s.heap.push { cls:=.type "range",data:=.fields #[.int lo t,.int hi u,.int 1 v] }).objs.size (.lst (Mb lo (hi - lo).toNat)):=
  ⟨hlen,acc.toList,c',hv,by simpa using hS⟩
 exact ⟨.ref (s.heap.push { cls:=.type "range",data:=.fields #[.int lo t,.int hi u,.int 1 v] }).objs.size,_,I1.laid (t':=tk') kp (aQ _) new,rfl,q _ (I1.hok.fresh (aQ _))⟩
noncomputable def Ak5(ta:TA):TE:=fun σ H Q=>ta σ H fun vs H1=>∃ j:Int,vs=[.int j]/\-(2 ^ 62)<=j/\j<=1000000/\∀ l,H1 l=none->Q (.ref l) (upd H1 l (.lst (Mb 0 j.toNat)))
theorem Agx{a:Expr}{ta:TA}{p p' pos pos':Pos}(hc:X.calm=true)(hgL:Gl X "list")(hmL:X.mg "list" = none)(hg:Gl X "range")(hm:X.mg "range" = none)(ha:PA X [a] ta)(hs:bS [a] X.env=[(false,eval a X.env)]:=by rfl)
  (hs2:bS [.Call (.Name "range" p') [a] [] pos'] X.env=[(false,eval (.Call (.Name "range" p') [a] [] pos') X.env)]:=by rfl):PE X (.Call (.Name "list" p) [.Call (.Name "range" p') [a] [] pos'] [] pos) (Ak5 ta):=by
 intro pins s σ H Q I h
 refine eF (Fv I hgL hmL Qh ?_)
 refine cZ ?_ hs2 rfl
 rw[hs2]
 refine lR ?_
 refine eF (Fv I hg hm sX (cZ (thn (ha pos' pins s σ H _ I h) fun us s1 ⟨vs,H1,I1,r1,q1⟩=>?_) hs rfl))
 obtain ⟨j,rfl,j0,j1,q⟩:=q1
 obtain ⟨u,rfl,ru⟩:=Fe r1
 obtain ⟨t,rfl⟩:=ru
 refine qI ?_
 refine mL ?_
 have hj:(j - 0).toNat=j.toNat:=by rw[Int.sub_zero]
 exact Ad2 (lo:=0) (hi:=j) hc I1 (by omega) (by omega) j0 (by omega) (by omega) (fun l hl=>by rw[hj];exact q l hl)
end
noncomputable def U1(g:FA):FE:=fun δ L=>(g δ L).bind fun p=>match p.1 with
 | [.int j]=>if -(2 ^ 62)<=j/\j<=1000000 then some (.ref p.2.length,p.2++[.lst (Bc 0 j.toNat)]) else none
 | _=>none
theorem T7{K:aH}{H:Hp}{α:List Addr}(lo:Int)(n:Nat):RepL K H α (Bc lo n) (Mb lo n):=by
 unfold Bc Mb
 generalize aX n=ks
 induction ks with
 | nil=>exact .nil
 | cons k ks ih=>exact .cons (by unfold RepU;rfl) ih
theorem Ae6{a:Expr}{g:FA}{p p' pos pos':Pos}(hc:X.calm=true)(hgL:Gl X "list")(hmL:X.mg "list" = none)(hg:Gl X "range")(hm:X.mg "range" = none)(ha:PAF X [a] g)(hs:bS [a] X.env=[(false,eval a X.env)]:=by rfl)
  (hs2:bS [.Call (.Name "range" p') [a] [] pos'] X.env=[(false,eval (.Call (.Name "range" p') [a] [] pos') X.env)]:=by rfl):PEF X (.Call (.Name "list" p) [.Call (.Name "range" p') [a] [] pos'] [] pos) (U1 g):=by
 refine PE.imp (Agx hc hgL hmL hg hm ha hs hs2) ?_
 rintro σ H Q ⟨α,δ,L,A,S,z,L3,e,q⟩
 obtain ⟨⟨us,L1⟩,e1,e⟩:=aB.mp e
 refine ⟨α,δ,L,A,S,us,L1,e1,fun xs H1 α1 g1 A1 r1=>?_⟩
 simp only at e
 split at e
 ·split at e
  ·rename_i hj
   cases e
   obtain ⟨x,rfl,rx⟩:=r1.one
   unfold RepU at rx
   subst rx
   refine ⟨_,rfl,hj.1,hj.2,fun l hl=>?_⟩
   obtain ⟨g2,A2,r2⟩:=A1.lst (T7 (K:=X.K) (H:=H1) (α:=α1) 0 _) hl
   exact q _ _ _ (g1.trans g2) A2 r2
  ·cases e
 ·cases e
end MR
namespace MR
open PySem PyProof.Rows L2
noncomputable def Lg:SM:=fun u us L=>match u,us with
 | .ref n,[]=>(Fg L n).bind fun l=>(l[l.length - 1]?).map fun y=>(y,L.set n (.lst l.dropLast))
 | _,_=>none
variable {K:aH}{H:Hp}{α:List Addr}
theorem RepL.init:∀ {us:List U} {xs:List V},RepL K H α us xs->RepL K H α us.dropLast xs.dropLast
 | [],xs,r=>by unfold RepL at r;subst r;exact .nil
 | [u],xs,r=>by
  unfold RepL at r
  obtain ⟨x,xr,rfl,rx,r⟩:=r
  unfold RepL at r
  subst r
  exact .nil
 | u::w::us,xs,r=>by
  unfold RepL at r
  obtain ⟨x,xr,rfl,rx,r⟩:=r
  have r':=r
  unfold RepL at r'
  obtain ⟨y,yr,rfl,ry,_⟩:=r'
  exact .cons rx (RepL.init r)
theorem Ag5:Uy K Aor Lg:=by
 intro H α L u us x xs z L' Q A ru r e q
 unfold Lg at e
 split at e
 ·obtain ⟨l,hl,e⟩:=aB.mp e
  obtain ⟨y,ey,e⟩:=aG.mp e
  cases e
  unfold RepL at r
  subst r
  obtain ⟨a,ys,rfl,ea,h,r2⟩:=Jt A hl ru
  obtain ⟨w,ew,rw⟩:=r2.get ey
  obtain ⟨g,A'⟩:=A.setL hl ea h (RepL.init r2)
  exact ⟨a,ys,w,rfl,rfl,h,by rw[<- r2.length];exact ew,q _ _ _ g A' (rw.mono g)⟩
 ·cases e
noncomputable def toK:U->Option Key
 | .int i=>some (.inl i)
 | .str x=>some (.inr x)
 | _=>none
variable {u:U}{x:V}{k:Key}
theorem Xv(r:RepU K H α u x)(h:toK u=some k):x=kV k:=by
 cases u <;> simp only[toK] at h <;> first | (cases h;unfold RepU at r;exact r) | cases h
noncomputable def Gx(kvs:List (Key×U))(k:Key):Option U:=(kvs.find? fun kv=>decide (kv.1=k)).map (·.2)
noncomputable def Km(kvs:List (Key×U))(k:Key)(v:U):List (Key×U):=
 if (kvs.any fun kv=>decide (kv.1=k))=true then kvs.map (fun kv=>if kv.1=k then (kv.1,v) else kv) else kvs++[(k,v)]
variable {kvs:List (Key×U)}{vs:List (Key×V)}
section
noncomputable def RepKV(K:aH)(H:Hp)(α:List Addr)(kvs:List (Key×U))(vs:List (Key×V)):Prop:=kvs.map (·.1)=vs.map (·.1)/\RepL K H α (kvs.map (·.2)) (vs.map (·.2))
theorem RepKV.nil:RepKV K H α [] []:=⟨rfl,.nil⟩
theorem RepKV.cons{kv:Key×U}(h:RepKV K H α (kv::kvs) vs):∃ x vs',vs=(kv.1,x)::vs'/\RepU K H α kv.2 x/\RepKV K H α kvs vs':=by
 obtain ⟨h1,h2⟩:=h
 cases vs with
 | nil=>simp at h1
 | cons w vs'=>
  simp only[aO,oM] at h1
  rw[aO,aO] at h2
  unfold RepL at h2
  obtain ⟨x,xr,hx,rx,r⟩:=h2
  injection hx with e1 e2
  subst e1
  refine ⟨w.2,vs',by rw[h1.1],rx,h1.2,?_⟩
  rw[e2];exact r
theorem RepKV.mk(r:RepU K H α u x)(h:RepKV K H α kvs vs):RepKV K H α ((k,u)::kvs) ((k,x)::vs):=
 ⟨by simp[h.1],by rw[aO,aO];exact .cons r h.2⟩
theorem RepKV.val:∀ {kvs:List (Key×U)} {vs:List (Key×V)},RepKV K H α kvs vs->Gx kvs k=some u->∃ x,Kw vs k=some x/\RepU K H α u x
 | [],vs,_,e=>by simp[Gx] at e
 | kv::kvs,vs,r,e=>by
  obtain ⟨x,vs',rfl,rx,r'⟩:=r.cons
  unfold Gx at e
  unfold Kw
  rw[cW] at e ⊢
  by_cases h:kv.1=k
  ·simp only[h,decide_true,aD] at e ⊢
   cases e
   exact ⟨x,rfl,rx⟩
  ·simp only[h,decide_false] at e ⊢
   exact RepKV.val r' e
theorem RepKV.any:∀ {kvs:List (Key×U)} {vs:List (Key×V)},RepKV K H α kvs vs->(kvs.any fun kv=>decide (kv.1=k))=(vs.any fun kv=>decide (kv.1=k))
 | [],vs,r=>by
  obtain ⟨h1,_⟩:=r
  cases vs with
  | nil=>rfl
  | cons _ _=>simp at h1
 | kv::kvs,vs,r=>by
  obtain ⟨x,vs',rfl,rx,r'⟩:=r.cons
  rw[gD,gD,RepKV.any r']
theorem RepKV.len(r:RepKV K H α kvs vs):kvs.length=vs.length:=by
 have:=congrArg mM r.1
 simpa using this
theorem RepKV.upd(ru:RepU K H α u x):∀ {kvs:List (Key×U)} {vs:List (Key×V)},RepKV K H α kvs vs->RepKV K H α (kvs.map fun kv=>if kv.1=k then (kv.1,u) else kv) (vs.map fun kv=>if kv.1=k then (kv.1,x) else kv)
 | [],vs,r=>by
  obtain ⟨h1,_⟩:=r
  cases vs with
  | nil=>exact .nil
  | cons _ _=>simp at h1
 | kv::kvs,vs,r=>by
  obtain ⟨y,vs',rfl,ry,r'⟩:=r.cons
  rw[aO,aO]
  by_cases h:kv.1=k
  ·rw[if_pos h,if_pos h]
   exact .mk ru (RepKV.upd ru r')
  ·rw[if_neg h,if_neg h]
   exact .mk ry (RepKV.upd ru r')
theorem RepKV.add(ru:RepU K H α u x):∀ {kvs:List (Key×U)} {vs:List (Key×V)},RepKV K H α kvs vs->RepKV K H α (kvs++[(k,u)]) (vs++[(k,x)])
 | [],vs,r=>by
  obtain ⟨h1,_⟩:=r
  cases vs with
  | nil=>exact .mk ru .nil
  | cons _ _=>simp at h1
 | kv::kvs,vs,r=>by
  obtain ⟨y,vs',rfl,ry,r'⟩:=r.cons
  exact .mk ry (RepKV.add ru r')
theorem RepKV.put(ru:RepU K H α u x)(r:RepKV K H α kvs vs):RepKV K H α (Km kvs k u) (Kd vs k x):=by
 unfold Km Kd
 rw[r.any]
 split
 ·exact r.upd ru
 ·exact r.add ru
theorem RepKV.mono{H':Hp}{α':List Addr}(r:RepKV K H α kvs vs)(g:Gr H α H' α'):RepKV K H' α' kvs vs:=⟨r.1,r.2.mono g⟩
end
noncomputable def Dg(L:UH)(n:Nat):Option (List (Key×U)):=match L[n]? with
 | some (.dic kvs)=>some kvs
 | _=>none
variable {L:UH}{n:Nat}
theorem Lx(h:Dg L n=some kvs):L[n]? = some (.dic kvs):=by
 unfold Dg at h
 split at h
 ·rename_i e;cases h;exact e
 ·cases h
theorem Jz(A:Abs K H α L)(h:Dg L n=some kvs)(r:RepU K H α (.ref n) x):∃ a vs,x = .ref a/\α[n]? = some a/\H a=some (.dK vs)/\RepKV K H α kvs vs:=by
 unfold RepU at r
 obtain ⟨a,ea,rfl⟩:=r
 obtain ⟨vs,e,k1,k2⟩:=A.rep n a _ ea (Lx h)
 exact ⟨a,vs,rfl,ea,e,k1,k2⟩
theorem Abs.setD{a:Addr}{ws:List (Key×V)}{kws:List (Key×U)}(A:Abs K H α L)(h:Dg L n=some kvs)(ea:α[n]? = some a)(e:H a=some (.dK vs))(r:RepKV K H α kws ws) :
  Gr H α (upd H a (.dK ws)) α/\Abs K (upd H a (.dK ws)) α (L.set n (.dic kws)):=by
 have g:Gr H α (upd H a (.dK ws)) α:=⟨⟨[],by simp⟩,.write e (by exact trivial) _⟩
 obtain ⟨A',_⟩:=A.put (o:=.dK ws) (u:=.dic kws) ea (Lx h) rfl rfl e (by exact trivial) ⟨ws,upd_same,(r.mono g).1,(r.mono g).2⟩
 exact ⟨g,A'⟩
section
variable {X:Cx}{o i value:Expr}{pos pos':Pos}{fo fi fv:FE}
noncomputable def Pp:FE:=fun _ L=>some (.ref L.length,L++[.dic []])
theorem Uu:PEF X (.Dict [] [] pos) Pp:=by
 refine PE.imp Aex ?_
 rintro σ H Q ⟨α,δ,L,A,S,z,L3,e,q⟩
 cases e
 intro p hp
 have g:Gr H α (upd H p (.dK [])) (α ++ [p]):=⟨⟨[p],rfl⟩,.new hp _⟩
 obtain ⟨A',_⟩:=A.new (o:=.dK []) (u:=.dic []) hp ⟨[],upd_same,rfl,.nil⟩
 refine q _ _ _ g A' ?_
 unfold RepU
 exact ⟨p,by rw[<- A.len];simp,rfl⟩
noncomputable def Ll(fo fi:FE):FE:=fun δ L=>(fo δ L).bind fun p=>(fi δ p.2).bind fun q=>match p.1 with
 | .ref n=>(toK q.1).bind fun k=>(Dg q.2 n).bind fun kvs=>(Gx kvs k).map fun u=>(u,q.2)
 | _=>none
theorem Nf(hu:X.A.units+64 < cLine)(ho:PEF X o fo)(hi:PEF X i fi)(hs:Al7 i):PEF X (.Subscript o i pos) (Ll fo fi):=by
 refine PE.imp (Ag9 (by omega) ho hi hs) ?_
 rintro σ H Q ⟨α,δ,L,A,S,z,L3,e,q⟩
 obtain ⟨⟨u,L1⟩,e1,e⟩:=aB.mp e
 obtain ⟨⟨w,L2⟩,e2,e⟩:=aB.mp e
 refine ⟨α,δ,L,A,S,u,L1,e1,fun x H1 α1 g1 A1 r1=>⟨α1,δ,L1,A1,S.mono g1,w,L2,e2,fun y H2 α2 g2 A2 r2=>?_⟩⟩
 simp only at e
 split at e
 ·obtain ⟨k,hk,e⟩:=aB.mp e
  obtain ⟨kvs,hd,e⟩:=aB.mp e
  obtain ⟨v,hv,e⟩:=aG.mp e
  cases e
  obtain ⟨a,vs,rfl,ea,ha,rk⟩:=Jz A2 hd (r1.mono g2)
  obtain ⟨x',hx',rx'⟩:=rk.val hv
  refine ⟨a,x',rfl,?_,q _ _ _ (g1.trans g2) A2 rx'⟩
  rw[Xv r2 hk,<- hx']
  exact DGet.k ha
 ·cases e
noncomputable def Th(fo fi fv:FE):FS:=fun δ L=>(fv δ L).bind fun p=>(fo δ p.2).bind fun q=>(fi δ q.2).bind fun r=>match q.1 with
 | .ref n=>(toK r.1).bind fun k=>(Dg r.2 n).bind fun kvs=>if kvs.length < 1000000 then some (.nx δ,r.2.set n (.dic (Km kvs k p.1))) else none
 | _=>none
theorem Q5(hu:X.A.units+64 < cLine)(ho:PEF X o fo)(hi:PEF X i fi)(hv:PEF X value fv)(hs:swapsWith value (some (.Subscript o i pos')) pos.line X.env=pure false:=by rfl):PSF X (.Assign [.Subscript o i pos'] value pos) (Th fo fi fv):=by
 refine PS.imp (Ahn (by omega) ho hi hv hs) ?_
 rintro D σ H ⟨α,δ,L,A,S,fl,L',e,q⟩
 obtain ⟨⟨v,L1⟩,e1,e⟩:=aB.mp e
 obtain ⟨⟨u,L2⟩,e2,e⟩:=aB.mp e
 obtain ⟨⟨w,L3⟩,e3,e⟩:=aB.mp e
 refine ⟨α,δ,L,A,S,v,L1,e1,fun xv H1 α1 g1 A1 rv=>⟨α1,δ,L1,A1,S.mono g1,u,L2,e2,fun x H2 α2 g2 A2 rx=>⟨α2,δ,L2,A2,(S.mono g1).mono g2,w,L3,e3,fun y H3 α3 g3 A3 ry=>?_⟩⟩⟩
 simp only at e
 split at e
 ·obtain ⟨k,hk,e⟩:=aB.mp e
  obtain ⟨kvs,hd,e⟩:=aB.mp e
  split at e
  ·rename_i hl
   cases e
   obtain ⟨a,vs,rfl,ea,ha,rk⟩:=Jz A3 hd (rx.mono g3)
   have rv':=rv.mono (g2.trans g3)
   obtain ⟨g4,A4⟩:=A3.setD hd ea ha (rk.put (k:=k) rv')
   refine ⟨a,_,rfl,?_,q σ _ α3 ((g1.trans (g2.trans g3)).trans g4) A4 ((((S.mono g1).mono g2).mono g3).mono g4)⟩
   rw[Xv ry hk]
   exact DPut.k ha (by rw[<- rk.len];unfold sizeLine;omega)
  ·cases e
 ·cases e
end
theorem Apl{β:Type}{P:List β->Prop}(h:P [])(us:List β)(hl:us.length=0):P us:=by
 cases us with
 | nil=>exact h
 | cons=>cases hl
theorem Ao0{β:Type}{P:List β->Prop}(h:∀ (a:β) (us:List β),us.length=n->P (a::us))(us:List β)(hl:us.length=n+1):P us:=by
 cases us with
 | nil=>cases hl
 | cons a us=>exact h a us (Nat.succ.inj hl)
theorem Wv{β:Type}{P:List β->Prop}(h:∀ a,P [a]):∀ us:List β,us.length=1->P us:=Ao0 fun a=>Apl (h a)
theorem Nt{β:Type}{P:List β->Prop}(h:∀ a b,P [a,b]):∀ us:List β,us.length=2->P us:=Ao0 fun a=>Wv (h a)
section
variable {X:Cx}{elts:List Expr}{x1:Nat}{tpos:Pos}
noncomputable def Q9(g:FA):FI:=fun δ L=>(g δ L).bind fun p=>match p.1 with
 | [.tup us,.tup ws]=>some (.seq (Kv us ws),p.2)
 | _=>none
theorem Vq{a b:Expr}{g:FA}{p pos:Pos}(hg:Gl X "zip")(hm:X.mg "zip" = none)(ha:PAF X [a,b] g)(hs:bS [a,b] X.env=(false,eval a X.env)::bS [b] X.env:=by rfl)(hpl:(backTo pos (bS [b] X.env)).any (·.1)=false:=by rfl):PIF X (.Tuple elts x1 tpos) (.Call (.Name "zip" p) [a,b] [] pos) (Q9 g):=by
 refine PI.imp (Ajk hg hm ha hs hpl) ?_
 rintro σ H R ⟨α,δ,L,A,S,i,L3,e,q⟩
 obtain ⟨⟨us,L1⟩,e1,ee⟩:=aB.mp e
 simp only at ee
 split at ee
 ·cases ee
  refine ⟨α,δ,L,A,S,_,_,e1,fun xs H1 α1 g1 A1 r1=>?_⟩
  obtain ⟨x,y,rfl,rx,ry⟩:=r1.two
  unfold RepU at rx ry
  obtain ⟨a',ys,rfl,sq,r2⟩:=rx
  obtain ⟨b',ys',rfl,sq',r2'⟩:=ry
  exact ⟨a',b',ys,ys',rfl,sq,sq',q _ H1 α1 g1 A1 (Aek sq sq' r2 r2')⟩
 ·cases ee
end
end MR
namespace MR
open PySem L2
@[simp] theorem fVar_eq(i:Nat)(δ:UE)(L:UH):Ad i δ L=(δ[i]?).join.map fun u=>(u,L):=rfl
@[simp] theorem fC_eq(u:U)(δ:UE)(L:UH):fC u δ L=some (u,L):=rfl
@[simp] theorem f2_eq(s:S2)(a b:FE)(δ:UE)(L:UH):f2 s a b δ L=(a δ L).bind fun p=>(b δ p.2).bind fun q=>s p.1 q.1 q.2:=rfl
@[simp] theorem fTest_eq(f:FE)(δ:UE)(L:UH):Bl f δ L=(f δ L).bind fun p=>match p.1 with | .bl k=>some (k,p.2) | _=>none:=rfl
@[simp] theorem fAnd_eq(f g:FT)(δ:UE)(L:UH):Ou f g δ L=(f δ L).bind fun p=>if p.1=true then g δ p.2 else some (false,p.2):=rfl
@[simp] theorem fOr_eq(f g:FT)(δ:UE)(L:UH):fOr f g δ L=(f δ L).bind fun p=>if p.1=true then some (true,p.2) else g δ p.2:=rfl
@[simp] theorem Pf(f:FT)(δ:UE)(L:UH):Uo f δ L=(f δ L).map fun p=>(!p.1,p.2):=rfl
@[simp] theorem Ld(f g:FE)(δ:UE)(L:UH):Ri f g δ L=(f δ L).bind fun p=>match p.1 with | .bl k=>if k=true then g δ p.2 else some (.bl false,p.2) | _=>none:=rfl
@[simp] theorem Aph(f g:FE)(δ:UE)(L:UH):Apj f g δ L=(f δ L).bind fun p=>match p.1 with | .bl k=>if k=true then some (.bl true,p.2) else g δ p.2 | _=>none:=rfl
@[simp] theorem fNotV_eq(f:FE)(δ:UE)(L:UH):Afb f δ L=(f δ L).bind fun p=>match p.1 with | .bl k=>some (.bl (!k),p.2) | _=>none:=rfl
@[simp] theorem Apu(c:FT)(f g:FE)(δ:UE)(L:UH):fIf c f g δ L=(c δ L).bind fun p=>if p.1=true then f δ p.2 else g δ p.2:=rfl
@[simp] theorem fNil_eq(δ:UE)(L:UH):Af δ L=some ([],L):=rfl
@[simp] theorem fCons_eq(f:FE)(g:FA)(δ:UE)(L:UH):Aa f g δ L=(f δ L).bind fun p=>(g δ p.2).map fun q=>(p.1::q.1,q.2):=rfl
@[simp] theorem fTup_eq(g:FA)(δ:UE)(L:UH):Dz g δ L=(g δ L).bind fun p=>if small p.1.length=true then some (.tup p.1,p.2) else none:=rfl
@[simp] theorem fLst_eq(g:FA)(δ:UE)(L:UH):Cw g δ L=(g δ L).bind fun p=>if small p.1.length=true then some (.ref p.2.length,p.2++[.lst p.1]) else none:=rfl
@[simp] theorem fCall_eq(s:SC)(g:FA)(δ:UE)(L:UH):Be s g δ L=(g δ L).bind fun p=>s p.1 p.2:=rfl
@[simp] theorem fOwn_eq(n:Nat)(F:FN)(g:FA)(δ:UE)(L:UH):A9 n F g δ L=(g δ L).bind fun p=>if p.1.length=n then F p.1 p.2 else none:=rfl
@[simp] theorem fMeth_eq(T:String)(s:SM)(f:FE)(g:FA)(δ:UE)(L:UH):Eu T s f g δ L=(f δ L).bind fun p=>if tyU T p.1 p.2=true then (g δ p.2).bind fun q=>s p.1 q.1 q.2 else none:=rfl
@[simp] theorem fPart_eq(f:FE)(δ:UE)(L:UH):E6 f δ L=(f δ L).bind fun p=>match p.1 with | .int i=>some (some i,p.2) | _=>none:=rfl
@[simp] theorem fNoPart_eq(δ:UE)(L:UH):Cf δ L=some (none,L):=rfl
@[simp] theorem fSl_eq(s:SS)(f:FE)(l h:FO)(δ:UE)(L:UH):fSl s f l h δ L=(f δ L).bind fun p=>(l δ p.2).bind fun q=>(h δ q.2).bind fun r=>s p.1 q.1 r.1 r.2:=rfl
@[simp] theorem Aal(f:FE)(δ:UE)(L:UH):T5 f δ L=(f δ L).bind fun p=>match p.1 with | .int i=>some (.int (-i),p.2) | _=>none:=rfl
@[simp] theorem fTru_eq(f:FE)(δ:UE)(L:UH):Kz f δ L=(f δ L).bind fun p=>(Yt p.1 p.2).map fun k=>(k,p.2):=rfl
@[simp] theorem Ui(c:String)(f:FE)(δ:UE)(L:UH):Wm c f δ L=(f δ L).bind fun p=>(Me p.1 p.2).map fun t=>(.bl (isT t c),p.2):=rfl
@[simp] theorem B4(δ:UE)(L:UH):Co δ L=some (.nx δ,L):=rfl
@[simp] theorem fSeq_eq(f g:FS)(δ:UE)(L:UH):A7 f g δ L=(f δ L).bind fun p=>match p.1 with | .nx δ'=>g δ' p.2 | fl=>some (fl,p.2):=rfl
@[simp] theorem fRet_eq(f:FE)(δ:UE)(L:UH):De f δ L=(f δ L).map fun p=>(.rt p.1,p.2):=rfl
@[simp] theorem Hs(f:FE)(δ:UE)(L:UH):Ik f δ L=(f δ L).map fun p=>(.nx δ,p.2):=rfl
@[simp] theorem Aod(δ:UE)(L:UH):Aoh δ L=some (.rt .non,L):=rfl
@[simp] theorem fIfS_eq(c:FT)(f g:FS)(δ:UE)(L:UH):Ey c f g δ L=(c δ L).bind fun p=>if p.1=true then f δ p.2 else g δ p.2:=rfl
@[simp] theorem gN_eq(i:Nat)(u:U)(δ:UE)(L:UH):gN i u δ L=some (δ.set i (some u),L):=rfl
@[simp] theorem Ape(δ:UE)(L:UH):MR.gNil [] δ L=some (δ,L):=rfl
@[simp] theorem Ao6(f:FG)(g:FGs)(u:U)(r:List U)(δ:UE)(L:UH):MR.gCons f g (u::r) δ L=(f u δ L).bind fun p=>g r p.1 p.2:=rfl
@[simp] theorem Apg(n:Nat)(g:FGs)(us:List U)(δ:UE)(L:UH):MR.gTup n g (.tup us) δ L=if us.length=n then g us δ L else none:=rfl
@[simp] theorem Apd(a b:FE)(v:U)(δ:UE)(L:UH):MR.gSub a b v δ L=(a δ L).bind fun p=>(b δ p.2).bind fun q=>match p.1,q.1 with
 | .ref n,.int k=>(Fg q.2 n).bind fun l=>(ixN l.length k).map fun j=>(δ,q.2.set n (.lst (l.set j v)))
 | _,_=>none:=rfl
@[simp] theorem fAsg_eq(f:FE)(g:FG)(δ:UE)(L:UH):A8 f g δ L=(f δ L).bind fun p=>(g p.1 δ p.2).map fun q=>(.nx q.1,q.2):=rfl
@[simp] theorem Aaj(fi:FI)(g:FG)(b:FS)(δ:UE)(L:UH):Jd fi g b δ L=(fi δ L).bind fun p=>Ng p.1 g b (p.1.size p.2+1) 0 δ p.2:=rfl
@[simp] theorem Dc(f:FE)(δ:UE)(L:UH):Bm f δ L=(f δ L).bind fun p=>(Vd p.1 p.2).map fun i=>(i,p.2):=rfl
@[simp] theorem Afm(g:FA)(δ:UE)(L:UH):Dd g δ L=(g δ L).bind fun p=>match p.1 with
 | [.int j]=>if -(2 ^ 62)<=j/\j < 2 ^ 62 then some (.seq (Bc 0 j.toNat),p.2) else none
 | _=>none:=rfl
@[simp] theorem semAdd_int(i j:Int)(L:UH):Ax (.int i) (.int j) L=some (.int (i+j),L):=rfl
@[simp] theorem semSub_int(i j:Int)(L:UH):Pk (.int i) (.int j) L=some (.int (i - j),L):=rfl
@[simp] theorem X3(i j:Int)(L:UH):Bo (.int i) (.int j) L=if Hq i j=true then some (.int (i * j),L) else none:=rfl
@[simp] theorem Al6(i j:Int)(L:UH):Hx (.int i) (.int j) L=if Sm i j=true then some (.int (i / j),L) else none:=rfl
@[simp] theorem X0(i j:Int)(L:UH):C5 (.int i) (.int j) L=if decide (0 < j)=true then some (.int (i % j),L) else none:=rfl
@[simp] theorem Q6(i j:Int)(L:UH):Dh (.int i) (.int j) L=if Tn i j=true then some (.int (i ^ j.toNat),L) else none:=rfl
@[simp] theorem Anf(i j:Int)(L:UH):Tf (.int i) (.int j) L=some (.bl (decide (i<=j)),L):=rfl
@[simp] theorem semLt_int(i j:Int)(L:UH):Hv (.int i) (.int j) L=some (.bl (decide (i < j)),L):=rfl
@[simp] theorem Anc(i j:Int)(L:UH):Aef (.int i) (.int j) L=some (.bl (decide (j < i)),L):=rfl
@[simp] theorem Anb(i j:Int)(L:UH):Q1 (.int i) (.int j) L=some (.bl (decide (j<=i)),L):=rfl
@[simp] theorem semEq_int(i j:Int)(L:UH):B7 (.int i) (.int j) L=some (.bl (i == j),L):=rfl
@[simp] theorem Ane(i j:Int)(L:UH):Ef (.int i) (.int j) L=some (.bl (!(i == j)),L):=rfl
@[simp] theorem Aoi(i j:Bool)(L:UH):B7 (.bl i) (.bl j) L=some (.bl (i == j),L):=rfl
@[simp] theorem Ank(i j:Bool)(L:UH):Ef (.bl i) (.bl j) L=some (.bl (!(i == j)),L):=rfl
@[simp] theorem Ao2(i j:Bool)(L:UH):Ot false (.bl i) (.bl j) L=some (.bl (i == j),L):=rfl
@[simp] theorem Sz(l:List U)(i:Int)(L:UH):Ak (.tup l) (.int i) L=(L2.atI l i).map fun z=>(z,L):=rfl
@[simp] theorem semIx_ref(n:Nat)(i:Int)(L:UH):Ak (.ref n) (.int i) L=(Ao L n).bind fun l=>(L2.atI l i).map fun z=>(z,L):=rfl
@[simp] theorem truU_bl(b:Bool)(L:UH):Yt (.bl b) L=some b:=rfl
variable {L:UH}{n:Nat}{us:List U}
theorem Aj(h:L[n]? = some (.lst us)):Ao L n=some us:=by unfold Ao;rw[h]
theorem Dy(h:L[n]? = some (.lst us)):Fg L n=some us:=by unfold Fg;rw[h]
theorem small_of(h:n<=16777216):small n=true:=by unfold small sizeLine;exact decide_eq_true (by omega)
variable {i:Int}
theorem Uh{β:Type}{l:List β}(h0:0<=i)(h:i < l.length):L2.atI l i=l[i.toNat]?:=by
 unfold L2.atI ixN
 rw[if_pos h0,if_pos h];rfl
variable {j:Int}
theorem Lh(h1:-1000000000000000000<=i)(h2:i<=1000000000000000000):Hq i j=true:=by
 unfold Hq;simp only[oJ,cE,decide_eq_true_eq];left;constructor <;> omega
theorem Lf(h1:-1000000000000000000<=j)(h2:j<=1000000000000000000):Hq i j=true:=by
 unfold Hq;simp only[oJ,cE,decide_eq_true_eq];right;constructor <;> omega
theorem Pz(h1:0 < j)(h2:j < 1152921504606846976):Sm i j=true:=by
 unfold Sm;simp only[cE,decide_eq_true_eq];exact ⟨h1,h2⟩
noncomputable def Xc(g:FG)(body:FS)(u:U)(δ:UE)(L:UH)(R:UE->UH->Prop):Prop:=∃ δ1 L1,g u δ L=some (δ1,L1)/\∃ δ2 L2,(body δ1 L1=some (.nx δ2,L2)\/body δ1 L1=some (.ct δ2,L2))/\R δ2 L2
variable {it:IU}{g:FG}{body:FS}
theorem Q8(P:Nat->UE->UH->Prop)(hat:∀ k δ L,k<=us.length->P k δ L->it.at k L=some us[k]?)
  (step:∀ k u δ L,us[k]? = some u->P k δ L->Xc g body u δ L (P (k+1))) :
  ∀ (m k:Nat) (δ:UE) (L:UH),us.length < m+k->k<=us.length->P k δ L->∃ δ' L',Ng it g body m k δ L=some (.nx δ',L')/\P us.length δ' L'
 | 0,k,δ,L,h1,h2,_=>by omega
 | m+1,k,δ,L,h1,h2,hP=>by
  have hk:=hat k δ L h2 hP
  unfold Ng
  rw[hk]
  cases hu:us[k]? with
  | none=>
   have:k=us.length:=by have:=cP.mp hu;omega
   subst this
   exact ⟨δ,L,rfl,hP⟩
  | some u=>
   have hlt:k < us.length:=(aJ.mp hu).1
   obtain ⟨δ1,L1,e1,δ2,L2,e2,hP2⟩:=step k u δ L hu hP
   obtain ⟨δ',L',e3,hP3⟩:=Q8 P hat step m (k+1) δ2 L2 (by omega) (by omega) hP2
   refine ⟨δ',L',?_,hP3⟩
   rcases e2 with e2 | e2
   ·simp only[e1,aA,e2,e3]
   ·simp only[e1,aA,e2,e3]
variable {fi:FI}{δ:UE}{L0:UH}
theorem Mu(P:Nat->UE->UH->Prop)(hi:fi δ L=some (.seq us,L0))(h0:P 0 δ L0)(step:∀ k u δ L,us[k]? = some u->P k δ L->Xc g body u δ L (P (k+1))) :
  ∃ δ' L',Jd fi g body δ L=some (.nx δ',L')/\P us.length δ' L':=by
 obtain ⟨δ',L',e,h⟩:=Q8 (it:=.seq us) (g:=g) (body:=body) (us:=us) P (fun _ _ _ _ _=>rfl) step (us.length+1) 0 δ L0 (by omega) (by omega) h0
 exact ⟨δ',L',by rw[Aaj,hi];exact e,h⟩
theorem Mx(P:Nat->UE->UH->Prop)(hi:fi δ L=some (.ref n,L0))(h0:P 0 δ L0)(hl:∀ k δ L,P k δ L->Ao L n=some us)(step:∀ k u δ L,us[k]? = some u->P k δ L->Xc g body u δ L (P (k+1))) :
  ∃ δ' L',Jd fi g body δ L=some (.nx δ',L')/\P us.length δ' L':=by
 have hat:∀ k δ L,k<=us.length->P k δ L->(IU.ref n).at k L=some us[k]?:=fun k δ L _ hp=>by
  have:=hl k δ L hp
  unfold Ao at this
  unfold IU.at
  simp only
  split at this
  ·rename_i e;cases this;first | rw[e] | rfl
  ·rename_i e;cases this;first | rw[e] | rfl
  ·cases this
 have hsz:(IU.ref n).size L0=us.length:=by
  have:=hl 0 δ L0 h0
  unfold Ao at this
  unfold IU.size
  simp only
  split at this
  ·rename_i e;cases this;first | rw[e] | rfl
  ·rename_i e;cases this;first | rw[e] | rfl
  ·cases this
 obtain ⟨δ',L',e,h⟩:=Q8 (it:=.ref n) (g:=g) (body:=body) (us:=us) P hat step (us.length+1) 0 δ L0 (by omega) (by omega) h0
 exact ⟨δ',L',by rw[Aaj,hi];simp only[aA,hsz];exact e,h⟩
theorem Ci(h:Ao L n=some us):Vd (.ref n) L=some (.ref n):=by
 unfold Ao at h
 unfold Vd
 simp only
 split at h
 ·rename_i e;first | rw[e] | rfl
 ·rename_i e;first | rw[e] | rfl
 ·cases h
variable {u:U}
theorem Gj{lo:Int}{k:Nat}(h:(Bc lo n)[k]? = some u):k < n/\u = .int (lo+k):=by
 unfold Bc at h
 rw[bO] at h
 by_cases hk:k < n
 ·rw[lB hk] at h
  simp at h
  exact ⟨hk,h.symm⟩
 ·rw[eR (by simpa using hk)] at h
  simp at h
theorem Hr{lo:Int}:(Bc lo n).length=n:=by simp[Bc]
@[simp] theorem Aog(g:FA)(δ:UE)(L:UH):Anl g δ L=(g δ L).bind fun p=>match p.1 with
 | [.ref n]=>(Ao p.2 n).map fun _=>(.enm n,p.2)
 | _=>none:=rfl
@[simp] theorem Apf(g:FA)(δ:UE)(L:UH):Apw g δ L=(g δ L).bind fun p=>match p.1 with
 | [.ref n,.ref m]=>(Ao p.2 n).bind fun _=>(Ao p.2 m).map fun _=>(.zip2 n m,p.2)
 | _=>none:=rfl
@[simp] theorem fRev_eq(f:FE)(δ:UE)(L:UH):Rv f δ L=(f δ L).bind fun p=>match p.1 with | .ref n=>(Ao p.2 n).map fun l=>(.ref p.2.length,p.2++[.lst l.reverse]) | .tup l=>some (.tup l.reverse,p.2) | _=>none:=rfl
@[simp] theorem Ao5(g:FA)(δ:UE)(L:UH):Aj2 g δ L=(g δ L).bind fun p=>match p.1 with
 | [.int i,.int j]=>if (-(2 ^ 62)<=i/\i < 2 ^ 62)/\(-(2 ^ 62)<=j/\j < 2 ^ 62) then some (.seq (Bc i (j - i).toNat),p.2) else none
 | _=>none:=by first | rfl | (unfold Aj2;rfl)
variable {tt:Option FT}{fe:FE}
theorem Q4(P:Nat->List U->UE->UH->Prop)(hat:∀ k acc δ L,k<=us.length->P k acc δ L->it.at k L=some us[k]?)
  (step:∀ k u acc δ L,us[k]? = some u->P k acc δ L->∃ δ1 L1,g u δ L=some (δ1,L1)/\∃ b L2,Hw tt δ1 L1=some (b,L2)/\(b=true->∃ r L3,fe δ1 L2=some (r,L3)/\acc.length < 16777216/\P (k+1) (acc++[r]) δ1 L3)/\(b=false->P (k+1) acc δ1 L2)) :
  ∀ (m k:Nat) (acc:List U) (δ:UE) (L:UH),us.length < m+k->k<=us.length->P k acc δ L->∃ ys δ' L',Rq it g tt fe m k acc δ L=some (ys,L')/\P us.length ys δ' L'
 | 0,k,acc,δ,L,h1,h2,_=>by omega
 | m+1,k,acc,δ,L,h1,h2,hP=>by
  have hk:=hat k acc δ L h2 hP
  unfold Rq
  rw[hk]
  cases hu:us[k]? with
  | none=>
   have:k=us.length:=by have:=cP.mp hu;omega
   subst this
   exact ⟨acc,δ,L,rfl,hP⟩
  | some u=>
   have hlt:k < us.length:=(aJ.mp hu).1
   obtain ⟨δ1,L1,e1,b,L2,e2,h3,h4⟩:=step k u acc δ L hu hP
   cases b with
   | true=>
    obtain ⟨r,L3,e3,hl,hP2⟩:=h3 rfl
    obtain ⟨ys,δ',L',e4,hP3⟩:=Q4 P hat step m (k+1) (acc++[r]) δ1 L3 (by omega) (by omega) hP2
    refine ⟨ys,δ',L',?_,hP3⟩
    have hz:decide (acc.length < sizeLine)=true:=decide_eq_true (by unfold sizeLine;omega)
    simp only[e1,aA,e2,e3,if_true,hz,e4]
   | false=>
    obtain ⟨ys,δ',L',e4,hP3⟩:=Q4 P hat step m (k+1) acc δ1 L2 (by omega) (by omega) (h4 rfl)
    refine ⟨ys,δ',L',?_,hP3⟩
    simp only[e1,aA,e2,e4,bH,if_false]
theorem Ad5{ix:List (Option Nat)}(P:Nat->List U->UE->UH->Prop)(hi:fi δ L=some (it,L0))(hsz:us.length<=it.size L0)(h0:P 0 [] (E2 ix δ) L0)
  (hat:∀ k acc δ L,k<=us.length->P k acc δ L->it.at k L=some us[k]?)
  (step:∀ k u acc δ L,us[k]? = some u->P k acc δ L->∃ δ1 L1,g u δ L=some (δ1,L1)/\∃ b L2,Hw tt δ1 L1=some (b,L2)/\(b=true->∃ r L3,fe δ1 L2=some (r,L3)/\acc.length < 16777216/\P (k+1) (acc++[r]) δ1 L3)/\(b=false->P (k+1) acc δ1 L2)) :
  ∃ ys δ' L',Bn ix fi g tt fe δ L=some (.ref L'.length,L'++[.lst ys])/\P us.length ys δ' L':=by
 obtain ⟨ys,δ',L',e,h⟩:=Q4 P hat step (it.size L0+1) 0 [] (E2 ix δ) L0 (by omega) (by omega) h0
 refine ⟨ys,δ',L',?_,h⟩
 unfold Bn
 simp only[hi,aA,e,aD]
theorem K6{k:Nat}(h:Ao L n=some us):(IU.ref n).at k L=some us[k]?:=by
 unfold Ao at h
 unfold IU.at
 simp only
 split at h
 ·rename_i e;cases h;first | rw[e] | rfl
 ·rename_i e;cases h;first | rw[e] | rfl
 ·cases h
theorem Gs(h:Ao L n=some us):(IU.ref n).size L=us.length:=by
 unfold Ao at h
 unfold IU.size
 simp only
 split at h
 ·rename_i e;cases h;first | rw[e] | rfl
 ·rename_i e;cases h;first | rw[e] | rfl
 ·cases h
noncomputable def Anr(us ws:List U):List U:=(us.zip ws).map fun p=>.tup [p.1,p.2]
variable {m:Nat}{ws:List U}
theorem size_zip(h:Ao L n=some us)(h2:Ao L m=some ws):(IU.zip2 n m).size L=(Anr us ws).length:=by
 show (match Ao L n,Ao L m with | some us,some ws=>min us.length ws.length | _,_=>0)=_
 rw[h,h2];simp[Anr]
theorem Bv{β:Type}{ix:List (Option Nat)}(as:List β)(rep:β->U)(f:β->Bool)(e:β->U)(E:UE->Prop)(hi:fi δ L=some (it,L0))(hsz:as.length<=it.size L0)(hl:as.length < 16777216)(h0:E (E2 ix δ))
  (hat:∀ k x,it.at k (L0++x)=some (as.map rep)[k]?)
  (step:∀ (a:β) δ x,a∈as->E δ->∃ δ1,g (rep a) δ (L0++x)=some (δ1,L0++x)/\E δ1/\∃ y,Hw tt δ1 (L0++x)=some (f a,L0++x++y)/\(f a=true->∃ z,fe δ1 (L0++x++y)=some (e a,L0++x++y++z))) :
  ∃ x,Bn ix fi g tt fe δ L=some (.ref (L0++x).length,L0++x++[.lst ((as.filter f).map e)]):=by
 obtain ⟨ys,δ',L',e1,⟨h1,h2,x,rfl⟩,h3⟩:=Ad5 (us:=as.map rep) (ix:=ix) (tt:=tt) (g:=g) (fe:=fe) (δ:=δ) (fun k acc δ L=>(acc=((as.take k).filter f).map e/\E δ/\∃ x,L=L0++x)/\acc.length<=k) hi (by simpa using hsz) ⟨⟨rfl,h0,[],by simp⟩,by simp⟩
  (fun k acc δ L _ zz=>by obtain ⟨⟨_,_,x,hx⟩,_⟩:=zz;rw[hx];exact hat k x)
  (fun k u acc δ L hu zz=>by
   obtain ⟨⟨ha,hE,x,hx⟩,hlen⟩:=zz
   subst hx
   rw[bO] at hu
   obtain ⟨a,hk,rfl⟩:=aG.mp hu
   have hk':=(aJ.mp hk).1
   obtain ⟨δ1,g1,E1,y,t1,r1⟩:=step a δ x (bV hk) hE
   have ht:as.take (k+1)=as.take k++[a]:=by
    rw[iB,hk];rfl
   refine ⟨δ1,_,g1,f a,_,t1,fun hf=>?_,fun hf=>?_⟩
   ·obtain ⟨z,q⟩:=r1 hf
    refine ⟨_,_,q,by omega,⟨?_,E1,x++y++z,by simp⟩,by simp;omega⟩
    rw[ha,ht];simp[hf]
   ·refine ⟨⟨?_,E1,x++y,by simp⟩,by omega⟩
    rw[ha,ht];simp[hf])
 refine ⟨x,?_⟩
 rw[e1,h1]
 simp
theorem Cc{x:UH}(h:Ao L n=some us):Ao (L++x) n=some us:=by
 unfold Ao at h ⊢
 cases hn:L[n]? with
 | none=>rw[hn] at h;cases h
 | some o=>rw[bK (aJ.mp hn).1,hn];rw[hn] at h;exact h
noncomputable def Pl:Nat->U->Prop
 | _,.non=>True
 | _,.int _=>True
 | _,.str x=>oB x=true
 | n+1,.tup l=>∀ u∈l,Pl n u
 | _,_=>False
mutual
noncomputable def pd:U->tE
 | .non=>.none
 | .bl b=>.bool b
 | .int i=>.int i
 | .str x=>.str x
 | .tup l=>.tuple (pds l)
 | .ref _=>.none
noncomputable def pds:List U->List tE
 | []=>[]
 | u::r=>pd u::pds r
end
theorem Gg{l:List U}:Pl (n+1) (.tup l)↔∀ u∈l,Pl n u:=by rw[Pl]
theorem Oz(ih:∀ u,Pl n u->toP L m u=some (pd u)):∀ l:List U,(∀ u∈l,Pl n u)->mapO (toP L m) l=some (pds l)
 | [],_=>rfl
 | u::r,h=>by
  simp only[mapO,ih u (h u (aW ..)),Oz ih r (fun x hx=>h x (aM _ hx)),aA,aD,pds]
theorem Rg(L:UH):∀ (n m:Nat) (u:U),n < m->Pl n u->toP L m u=some (pd u)
 | n,0,u,h,_=>by omega
 | n,m+1,.non,_,_=>rfl
 | n,m+1,.int _,_,_=>rfl
 | n,m+1,.str _,_,_=>rfl
 | n,m+1,.bl _,_,h=>by cases n <;> exact absurd h (by simp[Pl])
 | n,m+1,.ref _,_,h=>by cases n <;> exact absurd h (by simp[Pl])
 | 0,m+1,.tup l,_,h=>absurd h (by simp[Pl])
 | n+1,m+1,.tup l,hm,h=>by
  have:=Oz (L:=L) (n:=n) (m:=m) (fun u hu=>Rg L n m u (by omega) hu) l (Gg.mp h)
  show (mapO (toP L m) l).map tE.tuple=_
  rw[this]
  rfl
theorem O7(ih:∀ u,Pl n u->gR (pd u)=true/\iN (pd u)<=n):∀ l:List U,(∀ u∈l,Pl n u)->qW (pds l)=true/\sM (pds l)<=n
 | [],_=>⟨rfl,eX _⟩
 | u::r,h=>by
  obtain ⟨a1,a2⟩:=ih u (h u (aW ..))
  obtain ⟨b1,b2⟩:=O7 ih r (fun x hx=>h x (aM _ hx))
  refine ⟨by simp[pds,qW,a1,b1],?_⟩
  simp only[pds,sM]
  omega
theorem Qa:∀ (n:Nat) (u:U),Pl n u->gR (pd u)=true/\iN (pd u)<=n
 | n,.non,_=>by simp[pd,gR,iN]
 | n,.int _,_=>by simp[pd,gR,iN]
 | n,.str x,h=>by
  have h':oB x=true:=by cases n <;> simpa[Pl] using h
  simp[pd,gR,iN,h']
 | n,.bl _,h=>by cases n <;> exact absurd h (by simp[Pl])
 | n,.ref _,h=>by cases n <;> exact absurd h (by simp[Pl])
 | 0,.tup l,h=>absurd h (by simp[Pl])
 | n+1,.tup l,h=>by
  obtain ⟨a,b⟩:=O7 (fun u hu=>Qa n u hu) l (Gg.mp h)
  simp only[pd,gR,iN]
  exact ⟨a,by omega⟩
theorem Mi(ih:∀ u w,Pl n u->Pl n w->(eA (pd u) (pd w)=true↔u=w)):∀ l m:List U,(∀ u∈l,Pl n u)->(∀ u∈m,Pl n u)->(jH (pds l) (pds m)=true↔l=m)
 | [],[],_,_=>by simp[pds,jH]
 | [],_::_,_,_=>by simp[pds,jH]
 | _::_,[],_,_=>by simp[pds,jH]
 | u::l,w::m,h1,h2=>by
  simp only[pds,jH,cE,ih u w (h1 u (aW ..)) (h2 w (aW ..)),Mi ih l m (fun x hx=>h1 x (aM _ hx)) (fun x hx=>h2 x (aM _ hx)),oM]
theorem Uv:∀ (n:Nat) (u w:U),Pl n u->Pl n w->(eA (pd u) (pd w)=true↔u=w)
 | n,.bl _,_,h,_=>by cases n <;> exact absurd h (by simp[Pl])
 | n,.ref _,_,h,_=>by cases n <;> exact absurd h (by simp[Pl])
 | n,_,.bl _,_,h=>by cases n <;> exact absurd h (by simp[Pl])
 | n,_,.ref _,_,h=>by cases n <;> exact absurd h (by simp[Pl])
 | 0,.tup _,_,h,_=>absurd h (by simp[Pl])
 | 0,_,.tup _,_,h=>absurd h (by simp[Pl])
 | n+1,.tup l,.tup m,h1,h2=>by
  simp only[pd,eA,U.tup.injEq]
  exact Mi (fun u w=>Uv n u w) l m (Gg.mp h1) (Gg.mp h2)
 | n,.non,.non,_,_=>by simp[pd,eA]
 | n,.non,.int _,_,_=>by simp[pd,eA]
 | n,.non,.str _,_,_=>by simp[pd,eA]
 | n+1,.non,.tup _,_,_=>by simp[pd,eA]
 | n,.int _,.non,_,_=>by simp[pd,eA]
 | n,.int _,.int _,_,_=>by simp[pd,eA]
 | n,.int _,.str _,_,_=>by simp[pd,eA]
 | n+1,.int _,.tup _,_,_=>by simp[pd,eA]
 | n,.str _,.non,_,_=>by simp[pd,eA]
 | n,.str _,.int _,_,_=>by simp[pd,eA]
 | n,.str _,.str _,_,_=>by simp[pd,eA]
 | n+1,.str _,.tup _,_,_=>by simp[pd,eA]
 | n+1,.tup _,.non,_,_=>by simp[pd,eA]
 | n+1,.tup _,.int _,_,_=>by simp[pd,eA]
 | n+1,.tup _,.str _,_,_=>by simp[pd,eA]
noncomputable def eqB(u w:U):Bool:=eA (pd u) (pd w)
variable {w:U}
theorem Aa3(h1:Pl 6 u)(h2:Pl 6 w):eqB u w=true↔u=w:=Uv 6 u w h1 h2
theorem Rc(h1:Pl 6 u):eqB u u=true:=(Aa3 h1 h1).mpr rfl
theorem Agk(L:UH)(h1:Pl 6 u)(h2:Pl 6 w):eqP u w L=some (eqB u w):=by
 obtain ⟨a1,a2⟩:=Qa 6 u h1
 obtain ⟨b1,b2⟩:=Qa 6 w h2
 have s1:fZ (pd u)=true:=by unfold fZ;rw[a1];simp;omega
 have s2:fZ (pd w)=true:=by unfold fZ;rw[b1];simp;omega
 unfold eqP
 simp only[Rg L 6 8 u (by decide) h1,Rg L 6 8 w (by decide) h2,aA,s1,s2,and_self,if_true,eqB]
theorem Aez(L:UH)(h1:Pl 6 u)(h2:Pl 6 w):B7 u w L=some (.bl (eqB u w),L):=by unfold B7;rw[Agk L h1 h2];rfl
theorem Vb(L:UH)(h1:Pl 6 u)(h2:Pl 6 w):Ef u w L=some (.bl (!eqB u w),L):=by unfold Ef;rw[Agk L h1 h2];rfl
noncomputable def R4(us ws:List U):Bool:=jH (pds us) (pds ws)
theorem Ae2(h1:∀ u∈us,Pl 6 u)(h2:∀ u∈ws,Pl 6 u):R4 us ws=true↔us=ws:=Mi (fun u w=>Uv 6 u w) us ws h1 h2
theorem Aam(e1:Ao L n=some us)(e2:Ao L m=some ws)(h1:∀ u∈us,Pl 6 u)(h2:∀ u∈ws,Pl 6 u):eqP (.ref n) (.ref m) L=some (R4 us ws):=by
 obtain ⟨a1,a2⟩:=O7 (Qa 6) us h1
 obtain ⟨b1,b2⟩:=O7 (Qa 6) ws h2
 have s1:fZ (.list (pds us))=true:=by unfold fZ;simp[gR,iN,a1];omega
 have s2:fZ (.list (pds ws))=true:=by unfold fZ;simp[gR,iN,b1];omega
 have t1:toP L 8 (.ref n)=some (.list (pds us)):=by
  show (Ao L n).bind (fun l=>(mapO (toP L 7) l).map wI)=_
  rw[e1]
  simp only[aA,Oz (fun u hu=>Rg L 6 7 u (by decide) hu) us h1,aD]
 have t2:toP L 8 (.ref m)=some (.list (pds ws)):=by
  show (Ao L m).bind (fun l=>(mapO (toP L 7) l).map wI)=_
  rw[e2]
  simp only[aA,Oz (fun u hu=>Rg L 6 7 u (by decide) hu) ws h2,aD]
 unfold eqP
 simp only[t1,t2,aA,s1,s2,and_self,if_true,eA,R4]
theorem S9(e1:Ao L n=some us)(e2:Ao L m=some ws)(h1:∀ u∈us,Pl 6 u)(h2:∀ u∈ws,Pl 6 u):B7 (.ref n) (.ref m) L=some (.bl (R4 us ws),L):=by unfold B7;rw[Aam e1 e2 h1 h2];rfl
theorem Ny(e1:Ao L n=some us)(e2:Ao L m=some ws)(h1:∀ u∈us,Pl 6 u)(h2:∀ u∈ws,Pl 6 u):Ef (.ref n) (.ref m) L=some (.bl (!R4 us ws),L):=by unfold Ef;rw[Aam e1 e2 h1 h2];rfl
theorem Pl.int(n:Nat)(i:Int):Pl n (.int i):=by cases n <;> exact trivial
theorem Ajb{g:FA}{L':UH}(hg:g δ L=some ([.int j],L'))(h0:0<=j)(h1:j < 1000000):Dd g δ L=some (.seq (Bc 0 j.toNat),L'):=by
 rw[Afm,hg]
 simp only[aA]
 rw[if_pos ⟨by omega,by omega⟩]
theorem Hz{g:FA}{L':UH}(hg:g δ L=some ([.int n],L'))(h1:n < 1000000):Dd g δ L=some (.seq (Bc 0 n),L'):=by
 have:=Ajb hg (by omega) (by omega)
 rwa [fG] at this
end MR
namespace Lw
open PySem L2 MR
structure Ex(d:Nat)(L L':UH):Prop where
 le:L.length<=L'.length
 at_:∀ i,i < L.length->i≠d->L'[i]? = L[i]?
theorem Ex.refl(d:Nat)(L:UH):Ex d L L:=⟨aQ _,fun _ _ _=>rfl⟩
variable {d:Nat}{L:UH}
theorem Ex.trans{L1 L2:UH}(a:Ex d L L1)(b:Ex d L1 L2):Ex d L L2:=
 ⟨cK a.le b.le,fun i h1 h2=>by rw[b.at_ i (aY h1 a.le) h2,a.at_ i h1 h2]⟩
theorem Ex.new(d:Nat)(L:UH)(x:List HU):Ex d L (L++x):=⟨by simp,fun i h _=>by rw[bK h]⟩
theorem Ex.put(d:Nat)(L:UH)(o:HU):Ex d L (L.set d o):=⟨by simp,fun i _ h=>by rw[bR (eP h)]⟩
variable {L':UH}{n:Nat}
theorem Ex.set(h:Ex d L L')(hn:L.length<=n)(o:HU):Ex d L (L'.set n o):=
 ⟨by rw[oG];exact h.le,fun i h1 h2=>by rw[bR (by omega)];exact h.at_ i h1 h2⟩
variable {i:Nat}
theorem Ex.get{o:HU}(h:Ex d L L')(e:L[i]? = some o)(hi:i≠d):L'[i]? = some o:=by
 rw[h.at_ i (aJ.mp e).1 hi];exact e
noncomputable def Gw(L L':UH):Prop:=∃ x,L'=L++x
theorem Gw.refl(L:UH):Gw L L:=⟨[],by simp⟩
variable {M:UH}
theorem Gw.trans{L1:UH}(a:Gw L L1)(b:Gw L1 M):Gw L M:=by obtain ⟨x,rfl⟩:=a;obtain ⟨y,rfl⟩:=b;exact ⟨x++y,by simp⟩
theorem Gw.new(L x:UH):Gw L (L++x):=⟨x,rfl⟩
theorem Gw.set(h:Gw L L')(hn:L.length<=n)(o:HU):Gw L (L'.set n o):=by
 obtain ⟨x,rfl⟩:=h
 exact ⟨x.set (n - L.length) o,by rw[List.set_append_right _ _ hn]⟩
theorem Gw.le(h:Gw L L'):L.length<=L'.length:=by obtain ⟨x,rfl⟩:=h;simp
theorem Gw.get(h:Gw L L'){o:HU}(e:L[n]? = some o):L'[n]? = some o:=by
 obtain ⟨x,rfl⟩:=h
 rw[bK (aJ.mp e).1];exact e
theorem Gw.seq(h:Gw L L'){us:List U}(e:Ao L n=some us):Ao L' n=some us:=by
 obtain ⟨x,rfl⟩:=h;exact Cc e
theorem Gw.ex(h:Gw L L')(d:Nat):Ex d L L':=by obtain ⟨x,rfl⟩:=h;exact Ex.new d L x
variable {l:List U}
theorem Jo(u:U)(h:L[n]? = some (.lst l))(hl:l.length < 16777216):C3 (.ref n) [u] L=some (.non,L.set n (.lst (l++[u]))):=by
 show (Fg L n).bind _=_
 rw[Dy h]
 simp only[aA]
 rw[if_pos (decide_eq_true (by unfold sizeLine;omega))]
theorem Im(h:L[n]? = some (.lst l)):tyU "list" (.ref n) L=true:=by simp[tyU,h]
theorem Aba(h:L[n]? = some (.lst l)):Bd [.ref n] L=some (.int l.length,L):=by simp[Bd,lenU,Aj h]
variable {δ:UE}
theorem Al{f g:FS}{δ':UE}(h:f δ L=some (.nx δ',L')):A7 f g δ L=g δ' L':=by rw[fSeq_eq,h];rfl
theorem Ex.seq(h:Ex d L L'){us:List U}(hn:n≠d)(e:Ao L n=some us):Ao L' n=some us:=by
 unfold Ao at e ⊢
 cases hq:L[n]? with
 | none=>rw[hq] at e;cases e
 | some o=>rw[h.get hq hn];rw[hq] at e;exact e
noncomputable def Ke:FS:=(Ey (Bl (f2 Q1 (Be Ju (Aa (Ad 3) Af)) (f2 Dh (fC (.int 10)) (fC (.int 18))))) (A8 (f2 Ax (f2 M7 (Ad 1) (fC (.int 205))) (Be Ju (Aa (Ad 3) Af))) (gN 1)) (A8 (f2 C5 (f2 Ax (f2 Bo (Ad 2) (fC (.int 43))) (Ad 3)) (fC (.int 1999999871))) (gN 2)))
noncomputable def Wl:FS:=(A7 (A8 (fC (.int 0)) (gN 1)) (A7 (A8 (f2 Ax (f2 Bo (fC (.int 17)) (Be Bd (Aa (Ad 0) Af))) (fC (.int 11))) (gN 2)) (A7 (Jd (Bm (fSl G7 (Ad 0) Cf (E6 (fC (.int 63))))) (gN 3) Ke) (De (Cw (Aa (Ad 1) (Aa (Ad 2) (Aa (fC (.int 0)) Af))))))))
noncomputable def Mw:FN:=fnU 4 1 Wl
noncomputable def Pw:FS:=(A7 (A8 (f2 Ax (f2 Ak (Ad 0) (fC (.int 2))) (fC (.int 1))) (MR.gSub (Ad 0) (fC (.int 2)))) (A7 (Ey (Bl (f2 Aef (f2 Ak (Ad 0) (fC (.int 0))) (fC (.int 0)))) (A7 (A8 (f2 C5 (f2 Ak (Ad 0) (fC (.int 0))) (Ad 1)) (gN 2)) (A7 (A8 (f2 Hx (f2 Ak (Ad 0) (fC (.int 0))) (Ad 1)) (MR.gSub (Ad 0) (fC (.int 0)))) (De (Ad 2)))) Co) (A7 (A8 (f2 Ak (Ad 0) (fC (.int 2))) (gN 3)) (A7 (A8 (f2 C5 (f2 Ax (f2 Ax (f2 Ak (Ad 0) (fC (.int 1))) (f2 Bo (f2 Bo (fC (.int 70003)) (Ad 3)) (Ad 3))) (f2 Bo (fC (.int 5003)) (Ad 3))) (fC (.int 2147483543))) (gN 4)) (A7 (A8 (f2 C5 (f2 Bo (Ad 4) (Ad 4)) (fC (.int 2147483497))) (gN 4)) (De (f2 C5 (f2 Hx (f2 C5 (f2 Ax (f2 Bo (Ad 4) (fC (.int 38333))) (f2 Bo (Ad 3) (fC (.int 67)))) (fC (.int 2147483477))) (fC (.int 13))) (Ad 1))))))))
noncomputable def Ap:FN:=fnU 5 2 Pw
noncomputable def Fs:FE:=(Eu "list" N7 (Ad 1) (Aa (A9 2 Ap (Aa (Ad 2) (Aa (Be Bd (Aa (Ad 1) Af)) Af))) Af))
noncomputable def Fh:FS:=(A7 (A8 (f2 Ak (Ad 2) (f2 C5 (f2 Ax (Ad 4) (Ad 8)) (fC (.int 26)))) (gN 9)) (Ik (Eu "list" C3 (Ad 3) (Aa (f2 Ak (Cw (Aa (f2 Ax (Ad 9) (f2 Bo (f2 Ak (fC (.str "qjx")) (f2 Hx (Ad 8) (fC (.int 26)))) (f2 Ax (fC (.int 1)) (f2 C5 (Ad 8) (fC (.int 7)))))) (Aa (f2 Ax (f2 Ax (f2 Ax (fSl Fo (Ad 5) Cf (E6 (Ad 6))) (Ad 9)) (f2 Ak (fC (.str "qjx")) (f2 Hx (Ad 8) (fC (.int 26))))) (fSl Fo (Ad 5) (E6 (Ad 6)) Cf)) Af))) (Ad 7)) Af))))
noncomputable def Et:FE:=(f2 Ak (Ad 1) (A9 2 Ap (Aa (Ad 2) (Aa (fC (.int 26)) Af))))
noncomputable def Sx:FS:=(A7 (A8 (fC (.str "abcdefghijklmnopqrstuvwxyz")) (gN 2)) (A7 (A8 (Cw (Aa (fC (.str "a")) (Aa (fC (.str "b")) (Aa (fC (.str "ab")) (Aa (fC (.str "ba")) (Aa (fC (.str "aba")) (Aa (fC (.str "put")) (Aa (fC (.str "take")) (Aa (fC (.str "move")) (Aa (fC (.str "stairs")) (Aa (fC (.str "longest")) (Aa (fC (.str "crowd")) (Aa (fC (.str "northeas")) Af))))))))))))) (gN 3)) (A7 (A8 (A9 2 Ap (Aa (Ad 0) (Aa (fC (.int 26)) Af))) (gN 4)) (A7 (A8 (Eu "str" Jy (fC (.str "")) (Aa (Bn [none,some 2,some 0] (Dd (Aa (fC (.int 6)) Af)) (gN 0) none Et) Af)) (gN 5)) (A7 (A8 (A9 2 Ap (Aa (Ad 0) (Aa (fC (.int 7)) Af))) (gN 6)) (A7 (A8 (A9 2 Ap (Aa (Ad 0) (Aa (fC (.int 2)) Af))) (gN 7)) (A7 (A8 (fSl Fo (Ad 3) (E6 (f2 Bo (fC (.int 12)) (Ad 7))) Cf) (gN 3)) (A7 (Jd (Dd (Aa (fC (.int 60)) Af)) (gN 8) Fh) (De (Bn [none,some 3,some 0] (Dd (Aa (Ad 1) Af)) (gN 0) none Fs))))))))))
noncomputable def Hi:FN:=fnU 10 2 Sx
noncomputable def Jw:FS:=(A7 (Ey (Bl (f2 Hv (Ad 1) (fC (.int 2)))) (De (f2 Pk (A9 2 Ap (Aa (Ad 0) (Aa (f2 Ak (Cw (Aa (fC (.int 4)) (Aa (fC (.int 41)) Af))) (Ad 1)) Af))) (f2 Ak (Cw (Aa (fC (.int 1)) (Aa (fC (.int 20)) Af))) (Ad 1)))) Co) (A7 (A8 (f2 Ax (f2 Bo (A9 2 Ap (Aa (Ad 0) (Aa (f2 Dh (fC (.int 10)) (fC (.int 5))) Af))) (f2 Dh (fC (.int 10)) (fC (.int 5)))) (A9 2 Ap (Aa (Ad 0) (Aa (f2 Dh (fC (.int 10)) (fC (.int 5))) Af)))) (gN 2)) (De (f2 Bo (Ad 2) (f2 Ak (Cw (Aa (fC (.int 1)) (Aa (T5 (fC (.int 1))) Af))) (A9 2 Ap (Aa (Ad 0) (Aa (fC (.int 2)) Af))))))))
noncomputable def Dk:FN:=fnU 3 2 Jw
variable {b:Nat}
theorem Ajq{x:Int}(h:dJ x<=b):x.natAbs < 2 ^ b:=by
 unfold dJ at h
 split at h
 ·rename_i h0
  have:x=0:=by simpa using h0
  subst this
  exact sN b
 ·rename_i h0
  have hx:x.natAbs≠0:=by simp at h0;omega
  exact (sE hx).mp (by omega)
theorem Aje{x:Int}(h:x.natAbs < 2 ^ b):dJ x<=b:=by
 unfold dJ
 split
 ·exact eX _
 ·rename_i h0
  have hx:x.natAbs≠0:=by simp at h0;omega
  exact (sE hx).mpr h
structure Gdk(L:UH)(d:Nat)(B:Int):Prop where
 ex:∃ (a b c:Int),L[d]? = some (.lst [.int a,.int b,.int c])/\0<=a/\0<=b/\b < 1000000000000/\0<=c/\c<=B
variable {B:Int}
theorem Gdk.lt(h:Gdk L d B):d < L.length:=by
 obtain ⟨a,b,c,h1,_⟩:=h.ex
 exact (aJ.mp h1).1
theorem Gdk.mono{B':Int}(h:Gdk L d B)(hb:B<=B'):Gdk L d B':=by
 obtain ⟨a,b,c,h1,h2,h3,h4,h5,h6⟩:=h.ex
 exact ⟨a,b,c,h1,h2,h3,h4,h5,by omega⟩
theorem Gdk.new(h:Gdk L d B)(x:List HU):Gdk (L++x) d B:=by
 obtain ⟨a,b,c,h1,h2⟩:=h.ex
 exact ⟨a,b,c,by rw[bK (aJ.mp h1).1];exact h1,h2⟩
theorem Gdk.set(h:Gdk L d B)(hn:n≠d)(o:HU):Gdk (L.set n o) d B:=by
 obtain ⟨a,b,c,h1,h2⟩:=h.ex
 exact ⟨a,b,c,by rw[bR hn];exact h1,h2⟩
theorem Gdk.gw(h:Gdk L d B)(g:Gw L L'):Gdk L' d B:=by obtain ⟨x,rfl⟩:=g;exact h.new x
theorem B3{many:Int}(D:Gdk L d B)(hB:B<=1000000000000)(h0:0 < many)(h1:many < 1000000000000000) :
  ∃ r L',Ap [.ref d,.int many] L=some (.int r,L')/\0<=r/\r < many/\Gdk L' d (B+1)/\Ex d L L':=by
 obtain ⟨a,b,c,hd,ha,hb0,hb1,hc0,hc1⟩:=D.ex
 have hdl:d < L.length:=(aJ.mp hd).1
 have q1:=Aj hd
 have q2:=Dy hd
 have md:∀ x:Int,0<=x % many/\x % many < many:=fun x=>⟨iQ _ (by omega),gT _ h0⟩
 have i0:∀ (x0 x1 x2:U),L2.atI [x0,x1,x2] 0=some x0:=fun _ _ _=>rfl
 have i1:∀ (x0 x1 x2:U),L2.atI [x0,x1,x2] 1=some x1:=fun _ _ _=>rfl
 have i2:∀ (x0 x1 x2:U),L2.atI [x0,x1,x2] 2=some x2:=fun _ _ _=>rfl
 have j0:ixN 3 0=some 0:=rfl
 have j2:ixN 3 2=some 2:=rfl
 have set1:∀ us:List U,Ao (L.set d (.lst us)) d=some us/\Fg (L.set d (.lst us)) d=some us:=fun us=>by
  have:(L.set d (.lst us))[d]? = some (.lst us):=bQ hdl
  exact ⟨Aj this,Dy this⟩
 have s1:=set1 [.int a,.int b,.int (c+1)]
 have keep:∀ x:Int,0<=x->Gdk (L.set d (.lst [.int x,.int b,.int (c+1)])) d (B+1)/\Ex d L (L.set d (.lst [.int x,.int b,.int (c+1)])):=fun x hx=>
  ⟨⟨x,b,c+1,bQ hdl,hx,hb0,hb1,by omega,by omega⟩,Ex.put d L _⟩
 by_cases hap:0 < a
 ·refine ⟨a % many,L.set d (.lst [.int (a / many),.int b,.int (c+1)]),?_,(md a).1,(md a).2,(keep (a / many) (sO (by omega) (by omega))).1,(keep (a / many) (sO (by omega) (by omega))).2⟩
  simp[Ap,fnU,Pw,q1,q2,i0,i1,i2,j0,j2,s1,hap,h0,Pz h0 (by omega),bJ]
 ·generalize hA:(b+70003 * (c+1) * (c+1)+5003 * (c+1)) % 2147483543=A
  have hA0:0<=A/\A < 2147483543:=by rw[<- hA];exact ⟨iQ _ (by decide),gT _ (by decide)⟩
  generalize hC:A * A % 2147483497=Cn
  have hC0:0<=Cn/\Cn < 2147483497:=by rw[<- hC];exact ⟨iQ _ (by decide),gT _ (by decide)⟩
  generalize hE:(Cn * 38333+(c+1) * 67) % 2147483477=En
  have m1:Hq 70003 (c+1)=true:=Lh (by decide) (by decide)
  have m2:∀ x:Int,Hq x (c+1)=true:=fun x=>Lf (by omega) (by omega)
  have m3:Hq A A=true:=Lh (by omega) (by omega)
  have m4:∀ x:Int,Hq x 38333=true:=fun x=>Lf (by decide) (by decide)
  have m5:∀ x:Int,Hq x 67=true:=fun x=>Lf (by decide) (by decide)
  have d13:∀ x:Int,Sm x 13=true:=fun x=>Pz (by decide) (by decide)
  refine ⟨En / 13 % many,L.set d (.lst [.int a,.int b,.int (c+1)]),?_,(md _).1,(md _).2,(keep a ha).1,(keep a ha).2⟩
  simp[Ap,fnU,Pw,q1,q2,i0,i1,i2,j0,j2,s1,hap,h0,m1,m2,m3,m4,m5,d13,hA,hC,hE,bJ]
variable {c:Nat}
theorem Wr{G X P:Nat}(hG:G < X)(hc:c < X)(hP:1<=P):G * P+c < 2 * (X * P):=by
 have e3:G * P<=X * P:=Nat.mul_le_mul_right _ (lD hG)
 have e4:X * 1<=X * P:=Nat.mul_le_mul_left _ hP
 rw[Nat.mul_one] at e4
 generalize X * P=Z at *
 generalize G * P=Y at *
 omega
variable {W K p:Nat}
theorem Yo{G:Nat}(hG:G < 2 ^ (W+K))(hc:c < 2 ^ W):G * 2 ^ p+c < 2 ^ (W+(K+(p+1))):=by
 have e2:2 ^ W<=2 ^ (W+K):=iV (by omega) (by omega)
 have e1:2 ^ (W+(K+(p+1)))=2 * (2 ^ (W+K) * 2 ^ p):=by
  have:W+(K+(p+1))=1+((W+K)+p):=by omega
  rw[this,Nat.pow_add 2 1,Nat.pow_add 2 (W+K) p,Nat.pow_one]
 rw[e1]
 exact Wr hG (aY hc e2) qG
variable {G cell:Int}
theorem Adm(h0:0<=G):(G * 2 ^ p+(cell.natAbs:Int)).natAbs=G.natAbs * 2 ^ p+cell.natAbs:=by
 have hGn:G=(G.natAbs:Int):=by omega
 have:G * 2 ^ p+(cell.natAbs:Int)=((G.natAbs * 2 ^ p+cell.natAbs:Nat):Int):=by
  rw[Int.natCast_add,Int.natCast_mul,Int.natCast_pow,<- hGn];rfl
 rw[this,Int.natAbs_natCast]
theorem Ye(h0:0<=G)(hG:G.natAbs < 2 ^ (W+K))(hc:cell.natAbs < 2 ^ W):0<=G * 2 ^ p+(cell.natAbs:Int)/\(G * 2 ^ p+(cell.natAbs:Int)).natAbs < 2 ^ (W+(K+(p+1))):=by
 refine ⟨Int.add_nonneg (Int.mul_nonneg h0 (Int.pow_nonneg (by decide))) (by omega),?_⟩
 rw[Adm h0]
 exact Yo hG hc
theorem Ah4(G p:Int)(L:UH):M7 (.int G) (.int p) L=if Vg G p=true then some (.int (G * 2 ^ p.toNat),L) else none:=rfl
theorem Anj:(2:Int) ^ 27=134217728:=by decide +kernel
theorem Am4(hG:G.natAbs < 2 ^ b)(hb:b<=100000000)(L:UH):M7 (.int G) (.int 205) L=some (.int (G * 2 ^ 205),L):=by
 have:=Aje hG
 have hsz:Vg G 205=true:=by
  unfold Vg
  rw[cE]
  refine ⟨decide_eq_true (by omega),decide_eq_true ?_⟩
  rw[Anj]
  omega
 have h205:(205:Int).toNat=205:=rfl
 rw[Ah4,if_pos hsz,h205]
theorem Aj6(L:UH):Dh (.int 10) (.int 18) L=some (.int 1000000000000000000,L):=by
 have p:Tn 10 18=true:=rfl
 simp[p]
theorem Xt(cell:Int)(L:UH):Ju [.int cell] L=some (.int (cell.natAbs:Int),L):=by
 show some (U.int (if cell < 0 then -cell else cell),L)=_
 have:(if cell < 0 then -cell else cell)=(cell.natAbs:Int):=by split <;> omega
 rw[this]
theorem Aj1(i j:Int)(L:UH):Q1 (.int i) (.int j) L=some (.bl (decide (j<=i)),L):=rfl
noncomputable def Vv(sh pw:S2)(ab:SC):FS:=(Ey (Bl (f2 Q1 (Be ab (Aa (Ad 3) Af)) (f2 pw (fC (.int 10)) (fC (.int 18))))) (A8 (f2 Ax (f2 sh (Ad 1) (fC (.int 205))) (Be ab (Aa (Ad 3) Af))) (gN 1)) (A8 (f2 C5 (f2 Ax (f2 Bo (Ad 2) (fC (.int 43))) (Ad 3)) (fC (.int 1999999871))) (gN 2)))
theorem Wb:Ke=Vv M7 Dh Ju:=rfl
theorem Agt{sh pw:S2}{ab:SC}{G2 b ca E:Int}(x0:Option U)(hab:ab [.int cell] L=some (.int ca,L))(hp:pw (.int 10) (.int 18) L=some (.int E,L))(hsh:sh (.int G) (.int 205) L=some (.int G2,L))(h:E<=ca):Vv sh pw ab [x0,some (.int G),some (.int b),some (.int cell)] L=some (.nx [x0,some (.int (G2+ca)),some (.int b),some (.int cell)],L):=by
 have hge:Q1 (.int ca) (.int E) L=some (.bl true,L):=by
  rw[Aj1,decide_eq_true h]
 unfold Vv
 simp only[fIfS_eq,fTest_eq,f2_eq,fCall_eq,fCons_eq,fNil_eq,fC_eq,fVar_eq,aR,aK,bB,aD,aA,hab,hp,hge,if_true,fAsg_eq,hsh,semAdd_int,gN_eq,aZ,bA]
theorem Ac2{sh pw:S2}{ab:SC}{b ca E:Int}(x0:Option U)(hab:ab [.int cell] L=some (.int ca,L))(hp:pw (.int 10) (.int 18) L=some (.int E,L))(h:¬ E<=ca):Vv sh pw ab [x0,some (.int G),some (.int b),some (.int cell)] L=some (.nx [x0,some (.int G),some (.int ((b * 43+cell) % 1999999871)),some (.int cell)],L):=by
 have m43:Bo (.int b) (.int 43) L=some (.int (b * 43),L):=by
  have:=Lf (i:=b) (j:=43) (by decide) (by decide)
  simp only[Bo,this,if_true]
 have hge:Q1 (.int ca) (.int E) L=some (.bl false,L):=by
  rw[Aj1,decide_eq_false h]
 have hmd:C5 (.int (b * 43+cell)) (.int 1999999871) L=some (.int ((b * 43+cell) % 1999999871),L):=by simp
 unfold Vv
 simp only[fIfS_eq,fTest_eq,f2_eq,fCall_eq,fCons_eq,fNil_eq,fC_eq,fVar_eq,aR,aK,bB,aD,aA,hab,hp,hge,bH,if_false,fAsg_eq,m43,semAdd_int,hmd,gN_eq,aZ,bA]
theorem Aci{b:Int}(h0:0<=G)(hG:G.natAbs < 2 ^ (W+K))(hb0:0<=b)(hb1:b < 1000000000000)(hc:cell.natAbs < 2 ^ W)(hW:W<=1048576)(hk:K<=100000)(x0:Option U) :
  ∃ (G' b':Int),Ke [x0,some (.int G),some (.int b),some (.int cell)] L=some (.nx [x0,some (.int G'),some (.int b'),some (.int cell)],L)/\0<=G'/\G'.natAbs < 2 ^ (W+(K+(205+1)))/\0<=b'/\b' < 1000000000000:=by
 by_cases h:(1000000000000000000:Int)<=(cell.natAbs:Int)
 ·have hnx:=Ye (p:=205) h0 hG hc
  exact ⟨_,b,by rw[Wb];exact Agt x0 (Xt cell L) (Aj6 L) (Am4 hG (by omega) L) h,hnx.1,hnx.2,hb0,hb1⟩
 ·exact ⟨G,_,by rw[Wb];exact Ac2 x0 (Xt cell L) (Aj6 L) h,h0,aY hG (iV (by decide) (by omega)),iQ _ (by decide),Int.lt_trans (gT _ (by decide)) (by decide)⟩
theorem Acr(ns:List Int)(L:UH)(n:Nat)(hn:L[n]? = some (.ro (ns.map U.int)))(hl:ns.length<=63)(hW:W<=1048576)(hb:∀ c∈ns,c.natAbs < 2 ^ W) :
  ∃ d L',Mw [.ref n] L=some (.ref d,L')/\Gdk L' d 0/\Gw L L':=by
 have hs:Ao L n=some (ns.map U.int):=by unfold Ao;rw[hn]
 have hlen:Bd [.ref n] L=some (.int ns.length,L):=by simp[Bd,lenU,hs]
 have m17:Bo (.int 17) (.int (ns.length:Nat)) L=some (.int (17 * (ns.length:Int)),L):=by
  have:=Lh (i:=17) (j:=(ns.length:Int)) (by decide) (by decide)
  simp only[Bo,this,if_true]
 have s1:(A8 (fC (.int 0)) (gN 1)) [some (.ref n),none,none,none] L=some (.nx [some (.ref n),some (.int 0),none,none],L):=rfl
 have s2:(A8 (f2 Ax (f2 Bo (fC (.int 17)) (Be Bd (Aa (Ad 0) Af))) (fC (.int 11))) (gN 2)) [some (.ref n),some (.int 0),none,none] L=some (.nx [some (.ref n),some (.int 0),some (.int (17 * (ns.length:Int)+11)),none],L):=by
  simp only[f2_eq,fCall_eq,fCons_eq,fNil_eq,fC_eq,fVar_eq,aR,aK,bB,aD,aA,hlen,m17,fAsg_eq,semAdd_int,gN_eq,aZ,bA]
 have hcut:W8 (ns.map U.int) none (some 63)=ns.map U.int:=by
  unfold W8
  rw[HT.Aev]
  have h63:(63:Int)=((63:Nat):Int):=rfl
  rw[h63,HT.Aia,pH,qX]
  exact gC (by rw[aV];omega)
 have hsl:G7 (.ref n) none (some 63) L=some (.ref L.length,L++[.lst (ns.map U.int)]):=by
  simp only[G7,hs,aD,hcut]
 have hq:(L++[HU.lst (ns.map U.int)])[L.length]? = some (.lst (ns.map U.int)):=by simp
 have hi:(Bm (fSl G7 (Ad 0) Cf (E6 (fC (.int 63))))) [some (.ref n),some (.int 0),some (.int (17 * (ns.length:Int)+11)),none] L=some (.ref L.length,L++[.lst (ns.map U.int)]):=by
  simp only[Dc,fSl_eq,fNoPart_eq,fPart_eq,fC_eq,fVar_eq,aK,bB,aD,aA,hsl,Ci (Aj hq)]
 obtain ⟨δ',L',e,P⟩:=Mx (us:=ns.map U.int) (body:=Ke) (g:=gN 3)
  (fun k δ' L'=>∃ (G b:Int) (y3:Option U),δ'=[some (.ref n),some (.int G),some (.int b),y3]/\L'=L++[HU.lst (ns.map U.int)]/\0<=G/\G.natAbs < 2 ^ (W+206 * k)/\0<=b/\b < 1000000000000)
  hi ⟨0,17 * (ns.length:Int)+11,none,rfl,rfl,by decide,sN _,by omega,by omega⟩
  (fun k δ M ⟨_,_,_,_,hM,_⟩=>by rw[hM];exact Aj hq)
  (fun k u δ M hu ⟨G,b,y3,hδ,hM,g0,g1,b0,b1⟩=>by
   subst hδ
   rw[bO] at hu
   obtain ⟨cell,hcell,rfl⟩:=aG.mp hu
   have hk:=(aJ.mp hcell).1
   obtain ⟨G',b',e1,r1,r2,r3,r4⟩:=Aci (L:=M) g0 g1 b0 b1 (hb _ (bV hcell)) hW (by omega) (some (.ref n))
   have hk6:206 * (k+1)=206 * k+(205+1):=by omega
   rw[<- hk6] at r2
   exact ⟨[some (.ref n),some (.int G),some (.int b),some (.int cell)],M,rfl,_,M,.inl e1,G',b',_,rfl,hM,r1,r2,r3,r4⟩)
 obtain ⟨G,b,y3,hδ,hM,g0,g1,b0,b1⟩:=P
 rw[hδ] at e
 have sm3:∀ x y z:U,small [x,y,z].length=true:=fun _ _ _=>small_of (by show 3<=16777216;decide)
 refine ⟨L'.length,L'++[.lst [.int G,.int b,.int 0]],?_,⟨G,b,0,by simp,g0,b0,b1,by decide,by decide⟩,by rw[hM];exact (Gw.new _ _).trans (Gw.new _ _)⟩
 unfold Mw fnU Wl
 simp only[aN,bF,if_true,aO,bT,bJ,cQ,dB]
 rw[Al s1,Al s2,Al e,fRet_eq]
 simp only[fLst_eq,fCons_eq,fC_eq,fNil_eq,fVar_eq,aR,aK,bB,aA,aD]
 rw[if_pos (sm3 _ _ _)]
 rfl
theorem Sn{kind:Int}(D:Gdk L d B)(hB:B<=100000000000)(hw:kind=0\/kind=1\/kind=2) :
  ∃ r L',Dk [.ref d,.int kind] L=some (.int r,L')/\Gdk L' d (B+3)/\Ex d L L':=by
 have hdl:=D.lt
 rcases hw with rfl | rfl | rfl
 ·have q0:Ao (L++[HU.lst [.int 4,.int 41]]) L.length=some [.int 4,.int 41]:=Aj (by simp)
  have i0:L2.atI [U.int 4,.int 41] 0=some (.int 4):=rfl
  have i1:L2.atI [U.int 1,.int 20] 0=some (.int 1):=rfl
  obtain ⟨r,L1,e1,a1,b1,D1,x1⟩:=B3 (many:=4) (D.new [HU.lst [.int 4,.int 41]]) (by omega) (by decide) (by decide)
  have q1:Ao (L1++[HU.lst [.int 1,.int 20]]) L1.length=some [.int 1,.int 20]:=Aj (by simp)
  exact ⟨r - 1,L1++[HU.lst [.int 1,.int 20]],by simp[Dk,fnU,Jw,small_of,q0,i0,e1,q1,i1,bJ],(D1.new _).mono (by omega),((Ex.new d L _).trans x1).trans (Ex.new d L1 _)⟩
 ·have q0:Ao (L++[HU.lst [.int 4,.int 41]]) L.length=some [.int 4,.int 41]:=Aj (by simp)
  have i0:L2.atI [U.int 4,.int 41] 1=some (.int 41):=rfl
  have i1:L2.atI [U.int 1,.int 20] 1=some (.int 20):=rfl
  obtain ⟨r,L1,e1,a1,b1,D1,x1⟩:=B3 (many:=41) (D.new [HU.lst [.int 4,.int 41]]) (by omega) (by decide) (by decide)
  have q1:Ao (L1++[HU.lst [.int 1,.int 20]]) L1.length=some [.int 1,.int 20]:=Aj (by simp)
  exact ⟨r - 20,L1++[HU.lst [.int 1,.int 20]],by simp[Dk,fnU,Jw,small_of,q0,i0,e1,q1,i1,bJ],(D1.new _).mono (by omega),((Ex.new d L _).trans x1).trans (Ex.new d L1 _)⟩
 ·obtain ⟨r1,L1,e1,a1,b1,D1,x1⟩:=B3 (many:=100000) D (by omega) (by decide) (by decide)
  obtain ⟨r2,K2,e2,a2,b2,D2,x2⟩:=B3 (many:=100000) D1 (by omega) (by decide) (by decide)
  obtain ⟨r4,L4,e4,a4,b4,D4,x4⟩:=B3 (many:=2) (D2.new [HU.lst [.int 1,.int (-1)]]) (by omega) (by decide) (by decide)
  have q4:Ao L4 K2.length=some [.int 1,.int (-1)]:=Aj (x4.get (i:=K2.length) (by simp) (by have:=D2.lt;omega))
  have hs:∃ sg:Int,L2.atI [U.int 1,.int (-1)] r4=some (.int sg)/\(sg=1\/sg = -1):=by
   have:r4=0\/r4=1:=by omega
   rcases this with rfl | rfl
   ·exact ⟨1,rfl,.inl rfl⟩
   ·exact ⟨-1,rfl,.inr rfl⟩
  obtain ⟨sg,hs,hsg⟩:=hs
  have p5:Tn 10 5=true:=rfl
  have m1:Hq r1 100000=true:=Lf (by decide) (by decide)
  have m2:Hq (r1 * 100000+r2) sg=true:=Lh (by omega) (by omega)
  refine ⟨(r1 * 100000+r2) * sg,L4,?_,D4.mono (by omega),x1.trans (x2.trans ((Ex.new d K2 _).trans x4))⟩
  simp[Dk,fnU,Jw,p5,e1,m1,e2,small_of,e4,q4,hs,m2,bJ]
theorem Alv{i:Int}(h:L[n]? = some (.lst l))(h0:0<=i)(h1:i < l.length)(hs:l.length < 1000000):N7 (.ref n) [.int i] L=some (l[i.toNat]'(by omega),L.set n (.lst (l.eraseIdx i.toNat))):=by
 have hk:seqIndex? i l.length=some i.toNat:=by unfold seqIndex?;simp;omega
 have hg:l[i.toNat]? = some (l[i.toNat]'(by omega)):=aI (by omega)
 simp only[N7,Dy h,aA,hk,hg,aD]
 rw[if_pos ⟨by omega,by omega⟩]
theorem Rz{β γ:Type}(f:β->γ)(l:List β)(i:Nat):(l.map f).eraseIdx i=(l.eraseIdx i).map f:=by
 rw[jZ,jZ,kY,tO,tP]
theorem Rf{β:Type}:∀ (l:List β) (i:Nat) (h:i < l.length),(l[i]'h::l.eraseIdx i).Perm l
 | a::l,0,_=>by simp
 | a::l,i+1,h=>by
  have ih:=Rf l i (by simpa using h)
  simp only[List.getElem_cons_succ,nG]
  exact (List.Perm.swap _ _ _).trans (ih.cons a)
theorem Ado{β:Type}(rep:β->U){l:List β}(D:Gdk L d B)(hB:B<=1000000000)(hd:n≠d)(h:L[n]? = some (.lst (l.map rep)))(hl:0 < l.length)(hs:l.length < 1000)(x0:Option U) :
  ∃ (r:β) (L':UH) (l':List β),(Eu "list" N7 (Ad 1) (Aa (A9 2 Ap (Aa (Ad 2) (Aa (Be Bd (Aa (Ad 1) Af)) Af))) Af)) [x0,some (.ref n),some (.ref d)] L=some (rep r,L')/\Gdk L' d (B+1)/\L'[n]? = some (.lst (l'.map rep))/\l'.length+1=l.length/\(∀ L0,Ex d L0 L->L0.length<=n->Ex d L0 L')/\(r::l').Perm l:=by
 obtain ⟨i,L1,e1,i0,i1,D1,x1⟩:=B3 (many:=((l.map rep).length:Nat)) D (by omega) (by simp;omega) (by simp;omega)
 have h':L1[n]? = some (.lst (l.map rep)):=x1.get h hd
 have hi:i < l.length:=by simpa using i1
 have hp:=Alv h' i0 i1 (by simp;omega)
 refine ⟨l[i.toNat]'(by omega),L1.set n (.lst ((l.map rep).eraseIdx i.toNat)),l.eraseIdx i.toNat,?_,D1.set hd _,?_,?_,fun L0 x0 hn=>(x0.trans x1).set hn _,Rf l i.toNat (by omega)⟩
 ·have ty:=Im h
  have e1':=e1
  simp only[aV] at e1'
  simp[ty,Aba h,e1',hp]
 ·rw[bQ (by have:=(aJ.mp h').1;exact this)]
  rw[Rz]
 ·rw[List.length_eraseIdx,if_pos (by omega)];omega
noncomputable def Low(s:Str):Prop:=∀ c∈s.cps.toList,97<=c/\c<=122
theorem Low.ok{s:Str}(h:Low s):oB s=true:=by
 unfold oB
 rw[Array.all_eq_true]
 intro i hi
 have:=h (s.cps[i]) (by simp)
 exact decide_eq_true (by omega)
theorem Low.app{a b:Str}(ha:Low a)(hb:Low b):Low (a++b):=by
 intro c hc
 rw[Str.cps_append,lC,cT] at hc
 exact hc.elim (ha c) (hb c)
theorem Low.slice{x:Str}(h:Low x)(lo hi:Option Int):Low (gG x lo hi):=by
 unfold gG
 split
 ·exact h
 ·intro c hc
  simp only[gL] at hc
  obtain ⟨i,_,hi⟩:=hc
  exact h c (by rw[Array.mem_toList_iff];exact Array.mem_of_getElem? hi)
theorem Low.fold(g:Str)(hg:Low g):∀ (ys:List Str) (acc:Array Nat),(∀ y∈ys,Low y)->(∀ c∈acc.toList,97<=c/\c<=122)->∀ c∈(ys.foldl (fun acc p=>acc++g.cps++p.cps) acc).toList,97<=c/\c<=122
 | [],acc,_,h=>h
 | y::ys,acc,hy,h=>by
  rw[oH]
  refine Low.fold g hg ys _ (fun z hz=>hy z (aM _ hz)) ?_
  intro c hc
  rw[lC,lC,cT,cT] at hc
  rcases hc with (hc | hc) | hc
  ·exact h c hc
  ·exact hg c hc
  ·exact hy y (aW ..) c hc
noncomputable def abc:Str := "abcdefghijklmnopqrstuvwxyz"
theorem Aaz:abc.cps.toList.length=26:=by decide +kernel
theorem Acu:small abc.length=true:=small_of (by show abc.cps.size<=16777216;have:=Aaz;simp only[cN] at this;omega)
noncomputable def one(c:Nat):Str:=⟨#[c]⟩
theorem Low.one(h:97<=c/\c<=122):Low (Lw.one c):=by
 intro x hx
 have:x=c:=by simpa[Lw.one] using hx
 rw[this];exact h
theorem Low.mul(h:97<=c/\c<=122)(j:Int)(h0:1<=j)(h1:j<=7):Low (lH (Lw.one c) j):=by
 intro x hx
 have:j=1\/j=2\/j=3\/j=4\/j=5\/j=6\/j=7:=by omega
 have:x=c:=by rcases this with rfl | rfl | rfl | rfl | rfl | rfl | rfl <;> simp[Lw.one,lH,Str.length,Str.empty,bJ] at hx <;> omega
 rw[this];exact h
theorem one_len(c:Nat):(one c).length=1:=rfl
theorem Ahc:Low abc:=by unfold Low;decide +kernel
theorem Ae9{i:Int}(h0:0<=i)(h1:i < 26)(L:UH):∃ c,(97<=c/\c<=122)/\Ak (.str abc) (.int i) L=some (.str (one c),L):=by
 have hl:=Aaz
 have hi:i.toNat < abc.cps.toList.length:=by omega
 refine ⟨abc.cps.toList[i.toNat]'hi,Ahc _ (eZ hi),?_⟩
 unfold Ak
 simp only
 rw[if_pos Acu,Uh h0 (by omega),aI hi]
 rfl
noncomputable def qjx:Str := "qjx"
theorem Y9:qjx.cps.toList.length=3:=by decide +kernel
theorem Abz:small qjx.length=true:=small_of (by show qjx.cps.size<=16777216;have:=Y9;simp only[cN] at this;omega)
theorem Aiv:Low qjx:=by unfold Low;decide +kernel
theorem Aky{i:Int}(h0:0<=i)(h1:i < 3)(L:UH):∃ c,(97<=c/\c<=122)/\Ak (.str qjx) (.int i) L=some (.str (one c),L):=by
 have hl:=Y9
 have hi:i.toNat < qjx.cps.toList.length:=by omega
 refine ⟨qjx.cps.toList[i.toNat]'hi,Aiv _ (eZ hi),?_⟩
 unfold Ak
 simp only
 rw[if_pos Abz,Uh h0 (by omega),aI hi]
 rfl
theorem O6(a b:Str)(h:a.length+b.length<=10000)(L:UH):Ax (.str a) (.str b) L=some (.str (a++b),L):=by
 unfold Ax
 simp only
 rw[if_pos (small_of (by omega))]
theorem cat_len(a b:Str):(a++b).length=a.length+b.length:=by
 show (a.cps++b.cps).size=a.cps.size+b.cps.size
 simp
theorem Wq(c:Nat)(j:Int)(h0:0<=j):((lH (one c) j).length:Int)=j:=by
 have:=PyProof.Rows.len_mul_k1 (x:=one c) (n:=j) (one_len c)
 rw[if_neg (by omega)] at this
 omega
theorem Ajw(c:Nat)(j:Int)(h0:0<=j)(h1:j<=100)(L:UH):Bo (.str (one c)) (.int j) L=some (.str (lH (one c) j),L):=by
 unfold Bo
 simp only
 rw[if_pos ⟨by rw[one_len];omega,by omega,by omega⟩]
theorem Aaa(a:Str)(lo hi:Option Int)(h:a.length<=1000)(L:UH):Fo (.str a) lo hi L=some (.str (gG a lo hi),L):=by
 unfold Fo
 simp only
 rw[if_pos (small_of (by omega))]
noncomputable def Wz(A B:FE)(δi:FE):FS:=(Ik (Eu "list" C3 (Ad 3) (Aa (f2 Ak (Cw (Aa A (Aa B Af))) δi) Af)))
variable {n2:Nat}{sp:List Str}{al:Int}
theorem Ac8{A B:FE}{a b:Str}(hal:al=0\/al=1)(h3:Ad 3 δ M=some (.ref n2,M))(hat:M[n2]? = some (.lst (sp.map U.str)))(hs:sp.length<=1000)
  (hA:A δ M=some (.str a,M)) (hB:B δ M=some (.str b,M)) {al':FE} (h7:∀ M',al' δ M'=some (.int al,M')) (la:Low a) (lb:Low b) :
  ∃ (x:Str) (M':UH),Wz A B al' δ M=some (.nx δ,M')/\Low x/\M'[n2]? = some (.lst ((sp++[x]).map U.str))/\(∀ L d,Ex d L M->L.length<=n2->Ex d L M')/\(∀ (d:Nat) (B:Int),n2≠d->Gdk M d B->Gdk M' d B):=by
 have sm2:∀ x y:U,small [x,y].length=true:=fun _ _=>small_of (by show 2<=16777216;decide)
 have hl:(Cw (Aa A (Aa B Af))) δ M=some (.ref M.length,M++[.lst [.str a,.str b]]):=by
  simp only[fLst_eq,fCons_eq,hA,hB,fNil_eq,aA,aD]
  rw[if_pos (sm2 _ _)]
 have q:Ao (M++[HU.lst [.str a,.str b]]) M.length=some [.str a,.str b]:=Aj (by simp)
 have hx:∃ x,Low x/\L2.atI [U.str a,.str b] al=some (.str x):=by
  rcases hal with rfl | rfl
  ·exact ⟨a,la,rfl⟩
  ·exact ⟨b,lb,rfl⟩
 obtain ⟨x,lx,hx⟩:=hx
 have hat':(M++[HU.lst [.str a,.str b]])[n2]? = some (.lst (sp.map U.str)):=(Gw.new M _).get hat
 have ap:=Jo (.str x) hat' (by simp;omega)
 have hm:sp.map U.str++[.str x]=(sp++[x]).map U.str:=by simp
 rw[hm] at ap
 have ty:=Im hat
 refine ⟨x,(M++[HU.lst [.str a,.str b]]).set n2 (.lst ((sp++[x]).map U.str)),?_,lx,bQ (aJ.mp hat').1,fun L d e hn=>(e.trans (Ex.new d M _)).set hn _,fun d B hn D=>(D.new _).set hn _⟩
 unfold Wz
 rw[Hs,fMeth_eq,h3,aA]
 simp only[ty,if_true]
 rw[fCons_eq,f2_eq,hl]
 simp only[aA,h7,semIx_ref,q,hx,aD,fNil_eq,ap]
theorem W2{k:Nat}{begin place:Int}{near:Str}(hat:M[n2]? = some (.lst (sp.map U.str)))(hs:sp.length<=1000)(hk:k < 60)(hb0:0<=begin)(hb1:begin < 26)(hal:al=0\/al=1)(hn:near.length<=100)(hlow:Low near)(x0 x1 y9:Option U) :
  ∃ (x:Str) (z9:Option U) (M':UH),Fh [x0,x1,some (.str abc),some (.ref n2),some (.int begin),some (.str near),some (.int place),some (.int al),some (.int (k:Int)),y9] M=some (.nx [x0,x1,some (.str abc),some (.ref n2),some (.int begin),some (.str near),some (.int place),some (.int al),some (.int (k:Int)),z9],M')/\Low x/\M'[n2]? = some (.lst ((sp++[x]).map U.str))/\(∀ L d,Ex d L M->L.length<=n2->Ex d L M')/\(∀ (d:Nat) (B:Int),n2≠d->Gdk M d B->Gdk M' d B):=by
 obtain ⟨c,wc,hc⟩:=Ae9 (i:=(begin+(k:Int)) % 26) (iQ _ (by decide)) (gT _ (by decide)) M
 obtain ⟨q,wq,hq⟩:=Aky (i:=(k:Int) / 26) (by omega) (by omega) M
 have hmd:C5 (.int (begin+(k:Int))) (.int 26) M=some (.int ((begin+(k:Int)) % 26),M):=by simp
 have hmd7:C5 (.int (k:Int)) (.int 7) M=some (.int ((k:Int) % 7),M):=by simp
 have hdv:Hx (.int (k:Int)) (.int 26) M=some (.int ((k:Int) / 26),M):=by
  have:=Pz (i:=(k:Int)) (j:=26) (by decide) (by decide)
  simp[this]
 have s1:(A8 (f2 Ak (Ad 2) (f2 C5 (f2 Ax (Ad 4) (Ad 8)) (fC (.int 26)))) (gN 9)) [x0,x1,some (.str abc),some (.ref n2),some (.int begin),some (.str near),some (.int place),some (.int al),some (.int (k:Int)),y9] M=some (.nx [x0,x1,some (.str abc),some (.ref n2),some (.int begin),some (.str near),some (.int place),some (.int al),some (.int (k:Int)),some (.str (one c))],M):=by
  generalize abc=ab at hc
  simp only[fAsg_eq,f2_eq,fC_eq,fVar_eq,aR,aK,bB,aD,aA,semAdd_int,hmd,hc,gN_eq,aZ,bA]
 have m0:0<=(k:Int) % 7/\(k:Int) % 7 < 7:=⟨iQ _ (by decide),gT _ (by decide)⟩
 have hml:=Ajw q (1+(k:Int) % 7) (by omega) (by omega) M
 have hll:=Wq q (1+(k:Int) % 7) (by omega)
 have hA:(f2 Ax (Ad 9) (f2 Bo (f2 Ak (fC (.str qjx)) (f2 Hx (Ad 8) (fC (.int 26)))) (f2 Ax (fC (.int 1)) (f2 C5 (Ad 8) (fC (.int 7)))))) [x0,x1,some (.str abc),some (.ref n2),some (.int begin),some (.str near),some (.int place),some (.int al),some (.int (k:Int)),some (.str (one c))] M=some (.str (one c++lH (one q) (1+(k:Int) % 7)),M):=by
  have hcat:=O6 (one c) (lH (one q) (1+(k:Int) % 7)) (by rw[one_len];omega) M
  generalize qjx=qj at hq
  generalize abc=ab
  simp only[f2_eq,fC_eq,fVar_eq,aR,aK,bB,aD,aA,hdv,hq,hmd7,semAdd_int,hml,hcat]
 have l1:=qV near none (some place)
 have l2:=qV near (some place) none
 have hB:(f2 Ax (f2 Ax (f2 Ax (fSl Fo (Ad 5) Cf (E6 (Ad 6))) (Ad 9)) (f2 Ak (fC (.str qjx)) (f2 Hx (Ad 8) (fC (.int 26))))) (fSl Fo (Ad 5) (E6 (Ad 6)) Cf)) [x0,x1,some (.str abc),some (.ref n2),some (.int begin),some (.str near),some (.int place),some (.int al),some (.int (k:Int)),some (.str (one c))] M=some (.str (gG near none (some place)++one c++one q++gG near (some place) none),M):=by
  have c1:=O6 (gG near none (some place)) (one c) (by rw[one_len];omega) M
  have c2:=O6 (gG near none (some place)++one c) (one q) (by rw[cat_len,one_len,one_len];omega) M
  have c3:=O6 (gG near none (some place)++one c++one q) (gG near (some place) none) (by rw[cat_len,cat_len,one_len,one_len];omega) M
  have k1:=Aaa near none (some place) (by omega) M
  have k2:=Aaa near (some place) none (by omega) M
  generalize qjx=qj at hq
  generalize abc=ab
  simp only[f2_eq,fSl_eq,fNoPart_eq,fPart_eq,fC_eq,fVar_eq,aR,aK,bB,aD,aA,hdv,hq,k1,k2,c1,c2,c3]
 obtain ⟨x,M',e,lx,r1,r2,r3⟩:=Ac8 (al':=Ad 7) (δ:=[x0,x1,some (.str abc),some (.ref n2),some (.int begin),some (.str near),some (.int place),some (.int al),some (.int (k:Int)),some (.str (one c))]) hal rfl hat hs hA hB (fun _=>rfl) ((Low.one wc).app (Low.mul wq _ (by omega) (by omega))) ((((hlow.slice _ _).app (Low.one wc)).app (Low.one wq)).app (hlow.slice _ _))
 refine ⟨x,some (.str (one c)),M',?_,lx,r1,r2,r3⟩
 have hb:Fh=A7 (A8 (f2 Ak (Ad 2) (f2 C5 (f2 Ax (Ad 4) (Ad 8)) (fC (.int 26)))) (gN 9)) (Wz (f2 Ax (Ad 9) (f2 Bo (f2 Ak (fC (.str qjx)) (f2 Hx (Ad 8) (fC (.int 26)))) (f2 Ax (fC (.int 1)) (f2 C5 (Ad 8) (fC (.int 7)))))) (f2 Ax (f2 Ax (f2 Ax (fSl Fo (Ad 5) Cf (E6 (Ad 6))) (Ad 9)) (f2 Ak (fC (.str qjx)) (f2 Hx (Ad 8) (fC (.int 26))))) (fSl Fo (Ad 5) (E6 (Ad 6)) Cf)) (Ad 7)):=rfl
 rw[hb,Al s1]
 exact e
theorem Adh(D:Gdk L d B)(hB:B<=100000000)(x1 x3 x4 x5 x6 x7 x8 x9:Option U) :
  ∃ (r:Nat) (ys:List Str) (L':UH),Bn [none,some 2,some 0] (Dd (Aa (fC (.int 6)) Af)) (gN 0) none Et [some (.ref d),x1,some (.str abc),x3,x4,x5,x6,x7,x8,x9] L=some (.ref r,L')/\L'[r]? = some (.lst (ys.map U.str))/\(∀ y∈ys,y.length=1/\Low y)/\ys.length=6/\Gdk L' d (B+6)/\Ex d L L':=by
 have hi:Dd (Aa (fC (.int 6)) Af) [some (.ref d),x1,some (.str abc),x3,x4,x5,x6,x7,x8,x9] L=some (.seq (Bc 0 6),L):=Hz (n:=6) rfl (by omega)
 obtain ⟨us,δ',M',e,⟨z,hδ⟩,ys,hys,hl1,hly,DM,xM⟩:=Ad5 (ix:=[none,some 2,some 0]) (it:=.seq (Bc 0 6)) (g:=gN 0) (tt:=none) (fe:=Et) (us:=Bc 0 6) (δ:=[some (.ref d),x1,some (.str abc),x3,x4,x5,x6,x7,x8,x9]) (L:=L) (L0:=L)
   (fun k acc δ' M=>(∃ z,δ'=[z,some (.str abc),some (.ref d)])/\∃ (ys:List Str),acc=ys.map U.str/\(∀ y∈ys,y.length=1/\Low y)/\ys.length=k/\Gdk M d (B+k)/\Ex d L M)
   hi (by simp[IU.size]) ⟨⟨none,rfl⟩,[],rfl,by simp,rfl,by simpa using D,Ex.refl d L⟩
   (fun k acc δ L _ _=>rfl)
   (fun k u acc δ M hu ⟨⟨z,hδ⟩,ys,hys,hl1,hly,DM,xM⟩=>by
    subst hδ
    obtain ⟨hk,rfl⟩:=Gj hu
    obtain ⟨r,M',e1,r0,r1,D',x'⟩:=B3 (many:=26) DM (by omega) (by decide) (by decide)
    obtain ⟨c,wc,hc⟩:=Ae9 r0 r1 M'
    have ha:acc.length < 16777216:=by rw[hys,aV,hly];omega
    refine ⟨[some (.int (0+k)),some (.str abc),some (.ref d)],M,rfl,true,M,rfl,fun _=>⟨.str (one c),M',?_,ha,⟨_,rfl⟩,ys++[one c],by simp[hys],?_,by simp[hly],?_,xM.trans x'⟩,fun h=>by cases h⟩
    ·unfold Et
     generalize abc=ab at hc
     simp only[f2_eq,fOwn_eq,fCons_eq,fNil_eq,fC_eq,fVar_eq,aR,aK,bB,aD,aA,aN,bF,if_true,e1,hc]
    ·intro y hy
     rcases cT.mp hy with h | h
     ·exact hl1 y h
     ·rw[cH.mp h];exact ⟨rfl,Low.one wc⟩
    ·have:B+((k+1:Nat):Int)=B+(k:Int)+1:=by omega
     rw[this];exact D')
 rw[Hr] at hly DM
 exact ⟨_,ys,_,e,by rw[hys];simp,hl1,hly,DM.new _,xM.trans (Ex.new d _ _)⟩
theorem Rt:∀ ys:List Str,(∀ y∈ys,y.length=1)->(ys.map (·.length)).sum=ys.length
 | [],_=>rfl
 | y::ys,h=>by
  rw[aO,tQ,Rt ys (fun z hz=>h z (aM _ hz)),h y (aW ..),aN];omega
theorem V9:∀ ys:List Str,mapO toS (ys.map U.str)=some ys
 | []=>rfl
 | y::ys=>by simp only[aO,mapO,toS,V9 ys,aA,aD]
noncomputable def nul:Str := ""
theorem Aik:Low nul:=by unfold Low;decide +kernel
theorem Abh:nul.length=0:=by decide +kernel
theorem S0(g:Str)(hg:g.length=0):∀ (ys:List Str) (acc:Array Nat),(ys.foldl (fun acc p=>acc++g.cps++p.cps) acc).size=acc.size+(ys.map (·.length)).sum
 | [],acc=>by simp
 | y::ys,acc=>by
  have hg':g.cps.size=0:=hg
  have hy:y.length=y.cps.size:=rfl
  rw[oH,S0 g hg ys,aO,tQ,qY,qY,hg',hy]
  omega
theorem Ai5{r:Nat}{ys:List Str}(h:L[r]? = some (.lst (ys.map U.str)))(h1:∀ y∈ys,y.length=1/\Low y)(h2:ys.length=6):∃ near:Str,Jy (.str nul) [.ref r] L=some (.str near,L)/\near.length<=100/\Low near:=by
 have hs:=Rt ys (fun y hy=>(h1 y hy).1)
 refine ⟨tF nul ys,?_,?_,?_⟩
 ·unfold Jy
  simp only[Dy h,aA,V9]
  rw[if_pos ⟨by rw[Abh];omega,by rw[hs];omega⟩]
 ·cases ys with
  | nil=>simp at h2
  | cons y ys=>
   show (ys.foldl (fun acc p=>acc++nul.cps++p.cps) y.cps).size<=100
   have hy:y.cps.size=1:=(h1 y (aW ..)).1
   rw[S0 nul Abh ys y.cps,hy,Rt ys (fun z hz=>(h1 z (aM _ hz)).1)]
   simp only[aN] at h2
   omega
 ·cases ys with
  | nil=>simp at h2
  | cons y ys=>exact Low.fold nul Aik ys y.cps (fun z hz=>(h1 z (aM _ hz)).2) (h1 y (aW ..)).2
noncomputable def Eo:List Str:=["a","b","ab","ba","aba","put","take","move","stairs","longest","crowd","northeas"]
theorem Am1(a b c d e f g h i j k l:Str)(δ:UE)(L:UH):(Cw (Aa (fC (.str a)) (Aa (fC (.str b)) (Aa (fC (.str c)) (Aa (fC (.str d)) (Aa (fC (.str e)) (Aa (fC (.str f)) (Aa (fC (.str g)) (Aa (fC (.str h)) (Aa (fC (.str i)) (Aa (fC (.str j)) (Aa (fC (.str k)) (Aa (fC (.str l)) Af))))))))))))) δ L=some (.ref L.length,L++[.lst ([a,b,c,d,e,f,g,h,i,j,k,l].map U.str)]):=by
 have sm:∀ a b c d e f g h i j k l:U,small [a,b,c,d,e,f,g,h,i,j,k,l].length=true:=fun _ _ _ _ _ _ _ _ _ _ _ _=>small_of (by show 12<=16777216;decide)
 simp only[fLst_eq,fCons_eq,fC_eq,fNil_eq,aA,aD]
 rw[if_pos (sm _ _ _ _ _ _ _ _ _ _ _ _)]
 rfl
variable {v:U}
theorem Dp{fe:FE}(e:fe δ L=some (v,L')):(A8 fe (gN i)) δ L=some (.nx (δ.set i (some v)),L'):=by
 rw[fAsg_eq,e]
 simp only[aA,gN_eq,aD]
theorem Lq{f:FN}{c:Int}{u:U}(h:Ad i δ L=some (u,L))(e:f [u,.int c] L=some (v,L')):(A9 2 f (Aa (Ad i) (Aa (fC (.int c)) Af))) δ L=some (v,L'):=by
 rw[fOwn_eq,fCons_eq,h]
 simp only[aA,fCons_eq,fC_eq,fNil_eq,aD,aN,bF,if_true,e]
theorem Ab3{f:FN}{u:U}(h:Ad i δ L=some (u,L))(e:f [u] L=some (v,L')):(A9 1 f (Aa (Ad i) Af)) δ L=some (v,L'):=by
 rw[fOwn_eq,fCons_eq,h]
 simp only[aA,fNil_eq,aD,aN,bF,if_true,e]
noncomputable def An4(s:Str):Bool:=s.cps.toList.all fun c=>decide (97<=c)&&decide (c<=122)
theorem Ajo{s:Str}(h:An4 s=true):Low s:=fun c hc=>by
 have:=bN.mp h c hc
 simpa using this
theorem Acs:∀ x∈Eo,Low x:=fun x hx=>Ajo (bN.mp (show Eo.all An4=true by decide +kernel) x hx)
theorem Adu{n1:Nat}(hal:al=0\/al=1)(h:M[n1]? = some (.lst (Eo.map U.str))):∃ sp:List Str,Fo (.ref n1) (some (12 * al)) none M=some (.ref M.length,M++[.lst (sp.map U.str)])/\sp.length<=12/\∀ x∈sp,Low x:=by
 have hs:=Aj h
 refine ⟨(Eo.drop (HT.sIx (Eo.map U.str).length 0 (some (12 * al)))).take (HT.sIx (Eo.map U.str).length (Eo.map U.str).length none - HT.sIx (Eo.map U.str).length 0 (some (12 * al))),?_,?_,fun x hx=>Acs x (List.mem_of_mem_drop (List.mem_of_mem_take hx))⟩
 ·show G7 (.ref n1) (some (12 * al)) none M=_
  simp only[G7,hs,aD]
  unfold W8
  rw[tO,tP]
 ·have:Eo.length=12:=rfl
  rw[gF,nF];omega
theorem Ys{begin place:Int}{near:Str}(hat:M[n2]? = some (.lst (sp.map U.str)))(hs:sp.length<=12)(hb0:0<=begin)(hb1:begin < 26)(hal:al=0\/al=1)(hn:near.length<=100)(hlow:Low near)(hsl:∀ x∈sp,Low x)(x0 x1 y8 y9:Option U) :
  ∃ (sp':List Str) (z8 z9:Option U) (M':UH),(Jd (Dd (Aa (fC (.int 60)) Af)) (gN 8) Fh) [x0,x1,some (.str abc),some (.ref n2),some (.int begin),some (.str near),some (.int place),some (.int al),y8,y9] M=some (.nx [x0,x1,some (.str abc),some (.ref n2),some (.int begin),some (.str near),some (.int place),some (.int al),z8,z9],M')/\M'[n2]? = some (.lst (sp'.map U.str))/\60<=sp'.length/\sp'.length<=72/\(∀ x∈sp',Low x)/\(∀ L d,Ex d L M->L.length<=n2->Ex d L M')/\(∀ (d:Nat) (B:Int),n2≠d->Gdk M d B->Gdk M' d B):=by
 have hi:Dd (Aa (fC (.int 60)) Af) [x0,x1,some (.str abc),some (.ref n2),some (.int begin),some (.str near),some (.int place),some (.int al),y8,y9] M=some (.seq (Bc 0 60),M):=Hz (n:=60) rfl (by omega)
 obtain ⟨δ',M',e,P⟩:=Mu (us:=Bc 0 60) (body:=Fh) (g:=gN 8)
  (fun k δ' M'=>∃ (sp':List Str) (z8 z9:Option U),δ'=[x0,x1,some (.str abc),some (.ref n2),some (.int begin),some (.str near),some (.int place),some (.int al),z8,z9]/\M'[n2]? = some (.lst (sp'.map U.str))/\k<=sp'.length/\sp'.length<=12+k/\(∀ x∈sp',Low x)/\(∀ L d,Ex d L M->L.length<=n2->Ex d L M')/\(∀ (d:Nat) (B:Int),n2≠d->Gdk M d B->Gdk M' d B))
  hi ⟨sp,y8,y9,rfl,hat,by omega,by omega,hsl,fun _ _ e _=>e,fun _ _ _ D=>D⟩
  (fun k u δ N hu ⟨sp',z8,z9,hδ,hat',h1,h2,hw,h3,h4⟩=>by
   subst hδ
   obtain ⟨hk,rfl⟩:=Gj hu
   have h0:(0:Int)+(k:Int)=(k:Int):=by omega
   rw[h0]
   obtain ⟨x,w9,N',e1,lx,r1,r2,r3⟩:=W2 (place:=place) hat' (by omega) hk hb0 hb1 hal hn hlow x0 x1 z9
   exact ⟨[x0,x1,some (.str abc),some (.ref n2),some (.int begin),some (.str near),some (.int place),some (.int al),some (.int (k:Int)),z9],N,rfl,_,N',.inl e1,sp'++[x],_,_,rfl,r1,by simp;omega,by simp;omega,fun y hy=>by rcases cT.mp hy with h | h;exact hw y h;rw[cH.mp h];exact lx,fun L d e hL=>r2 L d (h3 L d e hL) hL,fun d B hd D=>r3 d B hd (h4 d B hd D)⟩)
 obtain ⟨sp',z8,z9,hδ,hat',h1,h2,hw,h3,h4⟩:=P
 rw[hδ] at e
 rw[Hr] at h1 h2
 exact ⟨sp',z8,z9,M',e,hat',h1,h2,hw,h3,h4⟩
theorem Adn{many:Nat}(D:Gdk M d B)(hB:B<=100000000)(hnd:n2≠d)(hat:M[n2]? = some (.lst (sp.map U.str)))(hm:many<=sp.length)(hs:sp.length<=72)(x2 x4 x5 x6 x7 x8 x9:Option U) :
  ∃ (r:Nat) (names:List Str) (M':UH),Bn [none,some 3,some 0] (Dd (Aa (Ad 1) Af)) (gN 0) none Fs [some (.ref d),some (.int many),x2,some (.ref n2),x4,x5,x6,x7,x8,x9] M=some (.ref r,M')/\M'[r]? = some (.lst (names.map U.str))/\names.length=many/\(∃ rest,(names++rest).Perm sp)/\Gdk M' d (B+many)/\(∀ L,Ex d L M->L.length<=n2->Ex d L M'/\L.length<=r):=by
 have hi:Dd (Aa (Ad 1) Af) [some (.ref d),some (.int many),x2,some (.ref n2),x4,x5,x6,x7,x8,x9] M=some (.seq (Bc 0 many),M):=Hz rfl (by omega)
 obtain ⟨ys,δ',M',e,⟨z,hδ⟩,vs,rest,hvs,hlv,hlr,hp,hat,DM,xM⟩:=Ad5 (ix:=[none,some 3,some 0]) (it:=.seq (Bc 0 many)) (g:=gN 0) (tt:=none) (fe:=Fs) (us:=Bc 0 many) (δ:=[some (.ref d),some (.int many),x2,some (.ref n2),x4,x5,x6,x7,x8,x9]) (L:=M) (L0:=M)
   (fun k acc δ' M'=>(∃ z,δ'=[z,some (.ref n2),some (.ref d)])/\∃ (vs rest:List Str),acc=vs.map U.str/\vs.length=k/\rest.length+k=sp.length/\(vs++rest).Perm sp/\M'[n2]? = some (.lst (rest.map U.str))/\Gdk M' d (B+k)/\(∀ L,Ex d L M->L.length<=n2->Ex d L M'))
   hi (by simp[IU.size]) ⟨⟨none,rfl⟩,[],sp,rfl,rfl,rfl,by simp,hat,by simpa using D,fun _ e _=>e⟩
   (fun k acc δ L _ _=>rfl)
   (fun k u acc δ N hu ⟨⟨z,hδ⟩,vs,rest,hvs,hlv,hlr,hp,hat,DM,xM⟩=>by
    subst hδ
    obtain ⟨hk,rfl⟩:=Gj hu
    obtain ⟨r,N',l',e,D',hat',hl',hx',hperm⟩:=Ado U.str DM (by omega) hnd hat (by omega) (by omega) (some (.int (0+(k:Int))))
    have ha:acc.length < 16777216:=by rw[hvs,aV,hlv];omega
    refine ⟨[some (.int (0+k)),some (.ref n2),some (.ref d)],N,rfl,true,N,rfl,fun _=>⟨.str r,N',?_,ha,⟨_,rfl⟩,vs++[r],l',by simp[hvs],by simp[hlv],by omega,?_,hat',?_,fun L eL hL=>hx' L (xM L eL hL) hL⟩,fun h=>by cases h⟩
    ·unfold Fs;exact e
    ·refine List.Perm.trans ?_ hp
     rw[dP]
     exact List.Perm.append_left vs hperm
    ·have:B+((k+1:Nat):Int)=B+(k:Int)+1:=by omega
     rw[this];exact D')
 rw[Hr] at hlv DM
 exact ⟨_,vs,_,e,by rw[hvs];simp,hlv,⟨rest,hp⟩,DM.new _,fun L eL hL=>⟨(xM L eL hL).trans (Ex.new d _ _),(xM L eL hL).le⟩⟩
theorem Agw{many:Nat}(D:Gdk L d B)(hB:B<=10000000)(hm:many<=60) :
  ∃ (n:Nat) (names:List Str) (L':UH),Hi [.ref d,.int many] L=some (.ref n,L')/\L'[n]? = some (.lst (names.map U.str))/\names.length=many/\(∀ x∈names,Low x)/\Gdk L' d (B+100)/\Ex d L L'/\L.length<=n:=by
 have s1:(A8 (fC (.str "abcdefghijklmnopqrstuvwxyz")) (gN 2)) [some (.ref d),some (.int many),none,none,none,none,none,none,none,none] L=some (.nx [some (.ref d),some (.int many),some (.str abc),none,none,none,none,none,none,none],L):=rfl
 have s2:=Dp (i:=3) (Am1 "a" "b" "ab" "ba" "aba" "put" "take" "move" "stairs" "longest" "crowd" "northeas" [some (.ref d),some (.int many),some (.str abc),none,none,none,none,none,none,none] L)
 have hw:(["a","b","ab","ba","aba","put","take","move","stairs","longest","crowd","northeas"]:List Str)=Eo:=rfl
 rw[hw] at s2
 simp only[aZ,bA] at s2
 have hdl:=D.lt
 have k1:(L++[HU.lst (Eo.map U.str)])[L.length]? = some (.lst (Eo.map U.str)):=by simp
 obtain ⟨begin,L3,e3,b0,b1,D3,x3⟩:=B3 (many:=26) (D.new [HU.lst (Eo.map U.str)]) (by omega) (by decide) (by decide)
 have s3:=Dp (i:=4) (Lq (i:=0) (δ:=[some (.ref d),some (.int many),some (.str abc),some (.ref L.length),none,none,none,none,none,none]) rfl e3)
 simp only[aZ,bA] at s3
 have k3:=x3.get k1 (by omega)
 obtain ⟨r4,ys,L4,e4,h4,hy1,hy6,D4,x4⟩:=Adh D3 (by omega) (some (.int many)) (some (.ref L.length)) (some (.int begin)) none none none none none
 obtain ⟨near,hj,hnl,hlow⟩:=Ai5 h4 hy1 hy6
 have s4:(A8 (Eu "str" Jy (fC (.str "")) (Aa (Bn [none,some 2,some 0] (Dd (Aa (fC (.int 6)) Af)) (gN 0) none Et) Af)) (gN 5)) [some (.ref d),some (.int many),some (.str abc),some (.ref L.length),some (.int begin),none,none,none,none,none] L3=some (.nx [some (.ref d),some (.int many),some (.str abc),some (.ref L.length),some (.int begin),some (.str near),none,none,none,none],L4):=by
  have ty:tyU "str" (.str nul) L3=true:=rfl
  have hn:(fC (.str ""):FE)=fC (.str nul):=rfl
  rw[hn]
  generalize nul=nl at hj ty
  rw[fAsg_eq,fMeth_eq]
  simp only[fC_eq,aA,ty,if_true]
  rw[fCons_eq,e4]
  simp only[aA,fNil_eq,aD,hj,gN_eq,aZ,bA]
 have k4:=x4.get k3 (by omega)
 obtain ⟨place,L5,e5,p0,p1,D5,x5⟩:=B3 (many:=7) D4 (by omega) (by decide) (by decide)
 have s5:=Dp (i:=6) (Lq (i:=0) (δ:=[some (.ref d),some (.int many),some (.str abc),some (.ref L.length),some (.int begin),some (.str near),none,none,none,none]) rfl e5)
 simp only[aZ,bA] at s5
 have k5:=x5.get k4 (by omega)
 obtain ⟨al,L6,e6,a0,a1,D6,x6⟩:=B3 (many:=2) D5 (by omega) (by decide) (by decide)
 have s6:=Dp (i:=7) (Lq (i:=0) (δ:=[some (.ref d),some (.int many),some (.str abc),some (.ref L.length),some (.int begin),some (.str near),some (.int place),none,none,none]) rfl e6)
 simp only[aZ,bA] at s6
 have k6:=x6.get k5 (by omega)
 have hal:al=0\/al=1:=by omega
 obtain ⟨sp,hsl,hsp,hspl⟩:=Adu hal k6
 have s7:(A8 (fSl Fo (Ad 3) (E6 (f2 Bo (fC (.int 12)) (Ad 7))) Cf) (gN 3)) [some (.ref d),some (.int many),some (.str abc),some (.ref L.length),some (.int begin),some (.str near),some (.int place),some (.int al),none,none] L6=some (.nx [some (.ref d),some (.int many),some (.str abc),some (.ref L6.length),some (.int begin),some (.str near),some (.int place),some (.int al),none,none],L6++[.lst (sp.map U.str)]):=by
  have hmu:Bo (.int 12) (.int al) L6=some (.int (12 * al),L6):=by
   have:=Lh (i:=12) (j:=al) (by decide) (by decide)
   simp only[Bo,this,if_true]
  generalize abc=ab
  simp only[fAsg_eq,fSl_eq,fNoPart_eq,fPart_eq,f2_eq,fC_eq,fVar_eq,aR,aK,bB,aD,aA,hmu,hsl,gN_eq,aZ,bA]
 have k7:(L6++[HU.lst (sp.map U.str)])[L6.length]? = some (.lst (sp.map U.str)):=by simp
 have xL6:Ex d L L6:=(Ex.new d L _).trans (x3.trans (x4.trans (x5.trans x6)))
 have D7:=D6.new [HU.lst (sp.map U.str)]
 have hne:L6.length≠d:=by have:=D6.lt;omega
 obtain ⟨sp',z8,z9,L8,e8,k8,l0,l1,hw8,h8,h8D⟩:=Ys (place:=place) k7 hsp b0 b1 hal hnl hlow hspl (some (.ref d)) (some (.int many)) none none
 obtain ⟨r,names,L9,e9,k9,hln,⟨rest,hperm⟩,D9,h9⟩:=Adn (many:=many) (h8D d _ hne D7) (by omega) hne k8 (by omega) l1 (some (.str abc)) (some (.int begin)) (some (.str near)) (some (.int place)) (some (.int al)) z8 z9
 have x9:=h9 L (h8 L d (xL6.trans (Ex.new d L6 _)) xL6.le) xL6.le
 refine ⟨r,names,L9,?_,k9,hln,fun x hx=>hw8 x (hperm.mem_iff.mp (dE _ hx)),D9.mono (by omega),x9.1,x9.2⟩
 have hb:Sx=A7 (A8 (fC (.str "abcdefghijklmnopqrstuvwxyz")) (gN 2)) (A7 (A8 (Cw (Aa (fC (.str "a")) (Aa (fC (.str "b")) (Aa (fC (.str "ab")) (Aa (fC (.str "ba")) (Aa (fC (.str "aba")) (Aa (fC (.str "put")) (Aa (fC (.str "take")) (Aa (fC (.str "move")) (Aa (fC (.str "stairs")) (Aa (fC (.str "longest")) (Aa (fC (.str "crowd")) (Aa (fC (.str "northeas")) Af))))))))))))) (gN 3)) (A7 (A8 (A9 2 Ap (Aa (Ad 0) (Aa (fC (.int 26)) Af))) (gN 4)) (A7 (A8 (Eu "str" Jy (fC (.str "")) (Aa (Bn [none,some 2,some 0] (Dd (Aa (fC (.int 6)) Af)) (gN 0) none Et) Af)) (gN 5)) (A7 (A8 (A9 2 Ap (Aa (Ad 0) (Aa (fC (.int 7)) Af))) (gN 6)) (A7 (A8 (A9 2 Ap (Aa (Ad 0) (Aa (fC (.int 2)) Af))) (gN 7)) (A7 (A8 (fSl Fo (Ad 3) (E6 (f2 Bo (fC (.int 12)) (Ad 7))) Cf) (gN 3)) (A7 (Jd (Dd (Aa (fC (.int 60)) Af)) (gN 8) Fh) (De (Bn [none,some 3,some 0] (Dd (Aa (Ad 1) Af)) (gN 0) none Fs))))))))):=rfl
 unfold Hi fnU
 simp only[aN,bF,if_true,aO,bT,bJ,cQ,dB]
 rw[hb,Al s1,Al s2,Al s3,Al s4,Al s5,Al s6,Al s7,Al e8,fRet_eq,e9]
 rfl
end Lw
namespace SO
open PySem PySem.W PyProof.Rows
noncomputable def On{α:Type}(n:Nat)(lt:Nat->Nat->Bool)(P:α->Prop):KasT α->Prop
 | .ret a=>P a
 | .ask i j k=>i < n/\j < n/\On n lt P (k (lt i j))
variable {n:Nat}{lt:Nat->Nat->Bool}
theorem On.bind{α β:Type}{P:α->Prop}{Q:β->Prop}{f:α->KasT β}(hf:∀ a,P a->On n lt Q (f a)):∀ {t:KasT α},On n lt P t->On n lt Q (t.bind f)
 | .ret a,h=>hf a h
 | .ask i j k,h=>⟨h.1,h.2.1,On.bind hf h.2.2⟩
theorem On.imp{α:Type}{P Q:α->Prop}(hf:∀ a,P a->Q a):∀ {t:KasT α},On n lt P t->On n lt Q t
 | .ret a,h=>hf a h
 | .ask i j k,h=>⟨h.1,h.2.1,On.imp hf h.2.2⟩
theorem On.wp{α:Type}{P:α->Prop}{cmp:Nat->Nat->(Bool->aL->Prop)->aL->Prop}{s:aL}{Q:α->aL->Prop}(hc:∀ i j C,i < n->j < n->C (lt i j) s->cmp i j C s)(hq:∀ a,P a->Q a s):∀ {t:KasT α},On n lt P t->t.kasWp cmp Q s
 | .ret a,h=>hq a h
 | .ask i j k,h=>hc i j _ h.1 h.2.1 (On.wp hc hq h.2.2)
structure Wo(lt:Nat->Nat->Bool):Prop where
 asym:∀ i j,lt i j=true->lt j i=false
 tr:∀ i j k,lt j i=false->lt k j=false->lt k i=false
variable {i j k m nrem:Nat}{p:Array Nat}
section
noncomputable def Le(lt:Nat->Nat->Bool)(i j:Nat):Prop:=lt j i=false
noncomputable def Eqv(lt:Nat->Nat->Bool)(i j:Nat):Prop:=Le lt i j/\Le lt j i
theorem Wo.refl(W:Wo lt)(i:Nat):Le lt i i:=by
 unfold Le
 cases h:lt i i with
 | false=>rfl
 | true=>have:=W.asym i i h;rw[h] at this;cases this
theorem Wo.le(W:Wo lt)(h:lt i j=true):Le lt i j:=W.asym i j h
theorem Wo.trans(W:Wo lt)(h1:Le lt i j)(h2:Le lt j k):Le lt i k:=W.tr i j k h1 h2
noncomputable def at0(p:Array Nat)(i:Nat):Nat:=p.getD i 0
theorem Qo{q:Array Nat}(h:p[i]? = q[j]?):at0 p i=at0 q j:=by
 unfold at0
 rw[dR,dR,h]
structure Pm(n:Nat)(p:Array Nat):Prop where
 size:p.size=n
 perm:p.toList.Perm (aX n)
theorem Pm.bd(h:Pm n p)(h0:0 < n)(i:Nat):at0 p i < n:=by
 unfold at0
 rw[dR]
 cases hi:p[i]? with
 | none=>exact h0
 | some x=>
  have:x∈p.toList:=by
   rw[<- fM] at hi
   exact bV hi
  exact bL.mp (h.perm.mem_iff.mp this)
noncomputable def Up(lt:Nat->Nat->Bool)(p:Array Nat)(k:Nat):Prop:=∀ i j,i<=j->j < k->Le lt (at0 p i) (at0 p j)
noncomputable def Dn(lt:Nat->Nat->Bool)(p:Array Nat)(k:Nat):Prop:=∀ i j,i<=j->j < k->Le lt (at0 p j) (at0 p i)
theorem Up.one(W:Wo lt)(p:Array Nat):Up lt p 1:=fun i j h1 h2=>by
 have:i=j:=by omega
 subst this;exact W.refl _
theorem Up.snoc(W:Wo lt)(h:Up lt p m)(hm:1<=m)(hl:Le lt (at0 p (m - 1)) (at0 p m)):Up lt p (m+1):=fun i j h1 h2=>by
 by_cases hj:j < m
 ·exact h i j h1 hj
 ·have hj:j=m:=by omega
  subst hj
  by_cases hi:i=j
  ·subst hi;exact W.refl _
  ·exact W.trans (h i (j - 1) (by omega) (by omega)) hl
theorem Dn.snoc(W:Wo lt)(h:Dn lt p m)(hm:1<=m)(hl:Le lt (at0 p m) (at0 p (m - 1))):Dn lt p (m+1):=fun i j h1 h2=>by
 by_cases hj:j < m
 ·exact h i j h1 hj
 ·have hj:j=m:=by omega
  subst hj
  by_cases hi:i=j
  ·subst hi;exact W.refl _
  ·exact W.trans hl (h i (j - 1) (by omega) (by omega))
theorem Kx(hj:j<=p.size)(k:Nat):at0 (oD p i j) k=if i<=k/\k < j then at0 p (i+j - 1 - k) else at0 p k:=by
 have h:=getElem?_mirror_all (xs:=p) (i:=i) hj k
 unfold oD
 split
 ·rename_i hc;rw[if_pos hc] at h;exact Qo h
 ·rename_i hc;rw[if_neg hc] at h;exact Qo h
theorem Pm.rev(h:Pm n p)(i j:Nat):Pm n (oD p i j):=⟨by unfold oD;rw[mirror_size];exact h.size,(mirror_perm p i j _).toList.trans h.perm⟩
theorem Pm.bub(h:Pm n p)(i j:Nat):Pm n (bubble p i j):=⟨by rw[bubble_size];exact h.size,(bubble_perm p i j).toList.trans h.perm⟩
theorem Ad8{l:Nat}(hk:k < p.size)(hl:l<=k)(i:Nat):at0 (bubble p k (k - l)) i=if i=l then at0 p k else if l < i/\i<=k then at0 p (i - 1) else at0 p i:=by
 have h:=getElem?_bubble (xs:=p) hk (k - l) (by omega) i
 have e:k - (k - l)=l:=by omega
 rw[e] at h
 split
 ·rename_i hc;rw[if_pos hc] at h;exact Qo h
 ·rename_i hc
  rw[if_neg hc] at h
  split
  ·rename_i hd;rw[if_pos hd] at h;exact Qo h
  ·rename_i hd;rw[if_neg hd] at h;exact Qo h
theorem X2(W:Wo lt)(h0:0 < n)(hp:Pm n p):∀ (f m:Nat),1<=m->m+f=nrem->Up lt p m->On n lt (fun m'=>m<=m'/\m'<=nrem/\Up lt p m'/\(m'=nrem\/lt (at0 p m') (at0 p (m' - 1))=true)) (kas_asc p f m)
 | 0,m,h1,hf,hu=>⟨aQ _,by omega,hu,.inl (by omega)⟩
 | f+1,m,h1,hf,hu=>by
  refine ⟨hp.bd h0 _,hp.bd h0 _,?_⟩
  show On n lt _ (if lt (at0 p m) (at0 p (m - 1))=true then KasT.ret m else kas_asc p f (m+1))
  cases hl:lt (at0 p m) (at0 p (m - 1)) with
  | true=>exact ⟨aQ _,by omega,hu,.inr hl⟩
  | false=>
   exact (X2 W h0 hp f (m+1) (by omega) (by omega) (hu.snoc W h1 hl)).imp fun m' ⟨a,b,c⟩=>⟨by omega,b,c⟩
noncomputable def Tl(lt:Nat->Nat->Bool)(p:Array Nat)(m q:Nat):Prop:=∀ i,m - (q+1)<=i->i < m->Eqv lt (at0 p i) (at0 p (m - 1))
theorem Tl.rev(W:Wo lt){q:Nat}(h:Tl lt p m q)(hq:q < m)(hm:m<=p.size)(k:Nat):Eqv lt (at0 (oD p (m - (q+1)) m) k) (at0 p k):=by
 rw[Kx hm]
 split
 ·rename_i hc
  have a:=h (m - (q+1)+m - 1 - k) (by omega) (by omega)
  have b:=h k hc.1 hc.2
  exact ⟨W.trans a.1 b.2,W.trans b.1 a.2⟩
 ·exact ⟨W.refl _,W.refl _⟩
theorem Dn.eqv(W:Wo lt){p':Array Nat}(h:Dn lt p m)(he:∀ k,Eqv lt (at0 p' k) (at0 p k)):Dn lt p' m:=fun i j h1 h2=>W.trans (he j).1 (W.trans (h i j h1 h2) (he i).2)
theorem Pg(W:Wo lt)(h0:0 < n)(hz:nrem<=n):∀ (f:Nat) (p:Array Nat) (m q:Nat),Pm n p->1<=m->m+f=nrem->Dn lt p m->q < m->Tl lt p m q ->
  On n lt (fun r=>Pm n r.1/\1<=r.2.1/\r.2.1<=nrem/\Dn lt r.1 r.2.1/\r.2.2 < r.2.1/\Tl lt r.1 r.2.1 r.2.2) (kas_desc f p m q)
 | 0,p,m,q,hp,h1,hf,hd,hq,ht=>⟨hp,h1,(by show m<=nrem;omega),hd,hq,ht⟩
 | f+1,p,m,q,hp,h1,hf,hd,hq,ht=>by
  refine ⟨hp.bd h0 _,hp.bd h0 _,?_⟩
  show On n lt _ (if lt (at0 p m) (at0 p (m - 1))=true then _ else _)
  have tl0:∀ p':Array Nat,Tl lt p' (m+1) 0:=fun p' i i1 i2=>by
   have:i=m:=by omega
   subst this
   rw[jO];exact ⟨W.refl _,W.refl _⟩
  cases hl:lt (at0 p m) (at0 p (m - 1)) with
  | true=>
   have hms:m<=p.size:=by rw[hp.size];omega
   rw[if_pos rfl]
   by_cases hq0:q > 0
   ·rw[if_pos hq0]
    have he:=ht.rev W hq hms
    have hm':at0 (oD p (m - (q+1)) m) m=at0 p m:=by rw[Kx hms,if_neg (by omega)]
    have hd':=(hd.eqv W he).snoc W h1 (by rw[hm'];exact W.trans (W.le hl) (he (m - 1)).2)
    exact Pg W h0 hz f _ (m+1) 0 (hp.rev _ _) (by omega) (by omega) hd' (by omega) (tl0 _)
   ·rw[if_neg hq0]
    exact Pg W h0 hz f p (m+1) 0 hp (by omega) (by omega) (hd.snoc W h1 (W.le hl)) (by omega) (tl0 _)
  | false=>
   rw[if_neg (by simp)]
   refine ⟨hp.bd h0 _,hp.bd h0 _,?_⟩
   show On n lt _ (if lt (at0 p (m - 1)) (at0 p m)=true then _ else _)
   cases hl2:lt (at0 p (m - 1)) (at0 p m) with
   | true=>rw[if_pos rfl];exact ⟨hp,h1,(by show m<=nrem;omega),hd,hq,ht⟩
   | false=>
    rw[if_neg (by simp)]
    refine Pg W h0 hz f p (m+1) (q+1) hp (by omega) (by omega) (hd.snoc W h1 hl2) (by omega) fun i i1 i2=>?_
    rw[jO]
    by_cases hi:i=m
    ·subst hi;exact ⟨W.refl _,W.refl _⟩
    ·have a:=ht i (by omega) (by omega)
     exact ⟨W.trans a.1 hl,W.trans hl2 a.2⟩
theorem Aa8(W:Wo lt)(h0:0 < n)(hz:nrem<=n)(hp:Pm n p)(h1:1<=m)(hm:m<=nrem)(hd:Dn lt p m):On n lt (fun r=>Pm n r.2/\1<=r.1/\r.1<=nrem/\Up lt r.2 r.1) (kas_tail3 m nrem p):=by
 have hms:m<=p.size:=by rw[hp.size];omega
 have hu:Up lt (oD p 0 m) m:=fun i j i1 i2=>by
  rw[Kx hms,Kx hms,if_pos (by omega),if_pos (by omega)]
  exact hd _ _ (by omega) (by omega)
 unfold kas_tail3
 exact On.bind (fun a ⟨a1,a2,a3,_⟩=>⟨hp.rev _ _,by omega,a2,a3⟩) (X2 (nrem:=nrem) W h0 (hp.rev 0 m) (nrem - m) m h1 (by omega) hu)
theorem Oq(W:Wo lt)(h0:0 < n)(hz:nrem<=n)(hp:Pm n p)(hm:m+1<=nrem)(hd:Dn lt p (m+1)):On n lt (fun r=>Pm n r.2/\1<=r.1/\r.1<=nrem/\Up lt r.2 r.1) (kas_descPart m nrem p):=by
 unfold kas_descPart
 have tl0:Tl lt p (m+1) 0:=fun i i1 i2=>by
  have:i=m:=by omega
  subst this
  rw[jO];exact ⟨W.refl _,W.refl _⟩
 refine On.bind (fun r ⟨a1,a2,a3,a4,a5,a6⟩=>?_) (Pg W h0 hz (nrem - (m+1)) p (m+1) 0 hp (by omega) (by omega) hd (by omega) tl0)
 have hms:r.2.1<=r.1.size:=by rw[a1.size];omega
 split
 ·exact Aa8 W h0 hz (a1.rev _ _) a2 a3 (a4.eqv W (a6.rev W a5 hms))
 ·exact Aa8 W h0 hz a1 a2 a3 a4
theorem Ag0(W:Wo lt)(h0:0 < n)(hz:nrem<=n)(h1:1<=nrem)(hp:Pm n p):On n lt (fun r=>Pm n r.2/\1<=r.1/\r.1<=nrem/\Up lt r.2 r.1) (kas_count nrem p):=by
 unfold kas_count
 refine On.bind (fun m ⟨a1,a2,a3,a4⟩=>?_) (X2 (nrem:=nrem) W h0 hp (nrem - 1) 1 (aQ _) (by omega) (Up.one W p))
 by_cases hm:(m == nrem)=true
 ·rw[if_pos hm];exact ⟨hp,by omega,a2,a3⟩
 ·rw[if_neg hm]
  have hne:m≠nrem:=by simpa using hm
  have hlt:lt (at0 p m) (at0 p (m - 1))=true:=a4.resolve_left hne
  by_cases hm1:m > 1
  ·rw[if_pos hm1]
   refine ⟨hp.bd h0 _,hp.bd h0 _,?_⟩
   show On n lt _ (if lt (at0 p 0) (at0 p (m - 1))=true then _ else _)
   cases hl:lt (at0 p 0) (at0 p (m - 1)) with
   | true=>rw[if_pos rfl];exact ⟨hp,by omega,a2,a3⟩
   | false=>
    rw[if_neg (by simp)]
    have hms:m<=p.size:=by rw[hp.size];omega
    have hall:∀ i j,i < m->j < m->Le lt (at0 p i) (at0 p j):=fun i j i1 j1=>W.trans (a3 i (m - 1) (by omega) (by omega)) (W.trans hl (a3 0 j (by omega) j1))
    refine Oq W h0 hz (hp.rev 0 m) (by omega) ?_
    have hd:Dn lt (oD p 0 m) m:=fun i j i1 i2=>by
     rw[Kx hms,Kx hms,if_pos (by omega),if_pos (by omega)]
     exact hall _ _ (by omega) (by omega)
    refine hd.snoc W (by omega) ?_
    rw[Kx hms,Kx hms,if_neg (by omega),if_pos (by omega)]
    exact W.trans (W.le hlt) (hall _ _ (by omega) (by omega))
  ·rw[if_neg hm1]
   have:m=1:=by omega
   subst this
   refine Oq W h0 hz hp (by omega) ?_
   have hd:Dn lt p 1:=fun i j h1 h2=>by
    have:i=j:=by omega
    subst this;exact W.refl _
   exact hd.snoc W (aQ _) (W.le hlt)
theorem Q3(W:Wo lt)(h0:0 < n)(hp:Pm n p)(hu:Up lt p k):∀ (f l r:Nat),l<=r->r<=k->r - l<=f->(∀ i,i < l->Le lt (at0 p i) (at0 p k))->(∀ i,r<=i->i < k->Le lt (at0 p k) (at0 p i)) ->
  On n lt (fun l'=>l'<=k/\(∀ i,i < l'->Le lt (at0 p i) (at0 p k))/\∀ i,l'<=i->i < k->Le lt (at0 p k) (at0 p i)) (kas_place p k f l r)
 | 0,l,r,h1,h2,h3,h4,h5=>⟨by omega,h4,fun i i1 i2=>h5 i (by omega) i2⟩
 | f+1,l,r,h1,h2,h3,h4,h5=>by
  unfold kas_place
  by_cases hlr:l ≥ r
  ·rw[if_pos hlr];exact ⟨by omega,h4,fun i i1 i2=>h5 i (by omega) i2⟩
  ·rw[if_neg hlr]
   refine ⟨hp.bd h0 _,hp.bd h0 _,?_⟩
   show On n lt _ (if lt (at0 p k) (at0 p ((l+r) / 2))=true then _ else _)
   cases hl:lt (at0 p k) (at0 p ((l+r) / 2)) with
   | true=>
    rw[if_pos rfl]
    exact Q3 W h0 hp hu f l ((l+r) / 2) (by omega) (by omega) (by omega) h4 fun i i1 i2=>W.trans (W.le hl) (hu _ _ i1 i2)
   | false=>
    rw[if_neg (by simp)]
    exact Q3 W h0 hp hu f ((l+r) / 2+1) r (by omega) h2 (by omega) (fun i i1=>W.trans (hu i ((l+r) / 2) (by omega) (by omega)) hl) h5
theorem Agl(W:Wo lt)(h0:0 < n):∀ (f:Nat) (p:Array Nat) (k:Nat),Pm n p->Up lt p k->k+f=n->On n lt (fun p'=>Pm n p'/\Up lt p' n) (kas_bin f p k)
 | 0,p,k,hp,hu,hk=>⟨hp,(show k=n by omega) ▸ hu⟩
 | f+1,p,k,hp,hu,hk=>by
  unfold kas_bin
  refine On.bind (fun l ⟨a1,a2,a3⟩=>?_) (Q3 W h0 hp hu k 0 k (by omega) (aQ _) (by omega) (fun i h=>by omega) fun i h1 h2=>by omega)
  have hks:k < p.size:=by rw[hp.size];omega
  refine Agl W h0 f _ (k+1) (hp.bub _ _) (fun i j i1 i2=>?_) (by omega)
  rw[Ad8 hks a1,Ad8 hks a1]
  by_cases hi:i=l
  ·rw[if_pos hi]
   by_cases hj:j=l
   ·rw[if_pos hj];exact W.refl _
   ·rw[if_neg hj,if_pos (by omega)];exact a3 _ (by omega) (by omega)
  ·rw[if_neg hi]
   by_cases hi2:l < i/\i<=k
   ·rw[if_pos hi2,if_neg (by omega),if_pos (by omega)]
    exact hu _ _ (by omega) (by omega)
   ·rw[if_neg hi2]
    by_cases hj:j=l
    ·rw[if_pos hj];exact a2 _ (by omega)
    ·rw[if_neg hj]
     by_cases hj2:l < j/\j<=k
     ·rw[if_pos hj2];exact hu _ _ (by omega) (by omega)
     ·rw[if_neg hj2];exact hu _ _ i1 (by omega)
theorem O0(W:Wo lt)(h0:0 < n):On n lt (fun p=>Pm n p/\Up lt p n) (mE n):=by
 unfold mE
 have hp:Pm n (iC (aX n)):=⟨by simp,by simp⟩
 refine On.bind (fun r ⟨a1,a2,a3,a4⟩=>?_) (Ag0 W h0 (aQ n) h0 hp)
 by_cases hr:r.1 < n
 ·rw[if_pos hr]
  have hm:max r.1 1=r.1:=by omega
  rw[hm]
  exact Agl W h0 _ _ _ a1 a4 (by omega)
 ·rw[if_neg hr]
  have:r.1=n:=by omega
  exact ⟨a1,by rw[<- this];exact a4⟩
end
end SO
namespace SO
open PySem PySem.W PySem.Calls PyProof.Rows
section
variable {P:cU}{w:eD}{A:dO}{E:aF->aL->Prop}{s:aL}{vs:List aF}{lt:Nat->Nat->Bool}{κ:tG}
noncomputable def Kb(a:Addr)(h h':Heap):Prop:=∀ b o,b≠a->h.get? b=some o->h'.get? b=some o
theorem Kb.trans{a:Addr}{h h1 h2:Heap}(x:Kb a h h1)(y:Kb a h1 h2):Kb a h h2:=fun b o hb e=>y b o hb (x b o hb e)
theorem Ae7(h:Heap)(a:Addr)(f:Obj->Obj):Kb a h (h.update a f):=fun b o hb e=>((dI h a f).2 b hb).trans e
theorem Abe(a:Addr)(h:Heap)(o:Obj):Kb a h (h.push o):=fun _ _ _ e=>aE _ e
noncomputable def G1(vs:List aF)(p:Array Nat):List aF:=p.toList.map fun i=>vs.getD i eM
theorem Qw(vs:List aF):G1 vs (iC (aX vs.length))=vs:=by
 unfold G1
 apply iY
 ·simp
 ·intro i h1 h2
  simp[h2]
theorem Agy{a:Addr}{c0:Nat}{F:PySem.Fin->aL->Prop}(W:Wo lt)(ho:s.heap.get? a=some (seqObj "list" vs.toArray c0))(h64:vs.length < 64)
  (hkind:2<=vs.length->∀ (h':Heap) (Q:tG->aL->Prop),Kb a s.heap h'->Q κ { s with heap:=h' }->wpAny (model P w) A (keyKind' vs.toArray) Q E { s with heap:=h' })
  (hask:∀ (h':Heap) (i j:Nat) (C:Bool->aL->Prop),Kb a s.heap h'->i < vs.length->j < vs.length->C (lt i j) { s with heap:=h' }->jE P w A κ vs i j C { s with heap:=h' })
  (hq:∀ (p:Array Nat) (h':Heap) (c:Nat),Pm vs.length p->Up lt p vs.length->Kb a s.heap h'->h'.get? a=some (seqObj "list" (G1 vs p).toArray c)->F (.done (.ret .none)) { s with heap:=h' }) :
  wpAny (model P w) A (iW.«list.sort» ⟨[.ref a],[]⟩) F E s:=by
 obtain ⟨c1,h1⟩:∃ c1,(s.heap.update a (bZ fun _=>(#[]:Array aF))).get? a=some (seqObj "list" #[] c1):=⟨_,hU ho fun _=>#[]⟩
 have k1:Kb a s.heap (((s.heap.update a (bZ fun _=>(#[]:Array aF))).push (seqObj "tuple" vs.toArray 0)).push (seqObj "list" #[] 0)):=((Ae7 _ _ _).trans (Abe _ _ _)).trans (Abe _ _ _)
 have h3:(((s.heap.update a (bZ fun _=>(#[]:Array aF))).push (seqObj "tuple" vs.toArray 0)).push (seqObj "list" #[] 0)).get? a=some (seqObj "list" #[] c1):=aE _ (aE _ h1)
 rw[list_sort_plain]
 refine aC (qZ ho rfl (aC (jI ho rfl (aC (pI h1 rfl (aC (pF (aC (kJ (eC ?_) (eX _))) ?z2)))) ?z1 (eX _))))
 case z1=>rw[aS,dU];omega
 case z2=>show vs.length<=_;rw[dU];omega
 show wpAny (model P w) A _ F E ({ s with heap:=((s.heap.update a (bZ fun _=>(#[]:Array aF))).push (seqObj "tuple" vs.toArray 0)).push (seqObj "list" #[] 0) }:aL)
 generalize ((s.heap.update a (bZ fun _=>(#[]:Array aF))).push (seqObj "tuple" vs.toArray 0)).push (seqObj "list" #[] 0)=hp at k1 h3
 dsimp only
 have fin:∀ (p:Array Nat) (st:SortSt),Pm vs.length p->Up lt p vs.length->(arrOf st).map (·.2)=(G1 vs p).toArray->failedOf st=none->wpAny (model P w) A (do
   let touched:=(<- seqEpoch a) != c1
   iW.List.listUpdate (.ref a) fun _=>(arrOf st).map (·.2)
   if let some e:=failedOf st then rule "list.sort.comparison-raised";throw e
   if touched then rule "list.sort.modified";raiseError "ValueError" "list modified during sort"
   ret .none) F E { s with heap:=hp }:=by
  intro p st hpm hup hout hfail
  have hlen:(G1 vs p).length=vs.length:=by unfold G1;rw[aV,cN,hpm.size]
  obtain ⟨c2,h4⟩:∃ c2,(hp.update a (bZ fun _=>(G1 vs p).toArray)).get? a=some (seqObj "list" (G1 vs p).toArray c2):=⟨_,hU h3 fun _=>(G1 vs p).toArray⟩
  rw[hout,hfail]
  refine aC (pI h3 rfl (aC (jI h3 rfl ?_ (eX _) ?z3)))
  case z3=>rw[aS,hlen,dU];omega
  simp only[bne_self_eq_false,bH,if_false]
  exact aU (hq p _ c2 hpm hup (k1.trans (Ae7 _ _ _)) h4)
 by_cases hsmall:vs.toArray.size < 2
 ·rw[if_pos hsmall,if_pos hsmall]
  have hs2:vs.length < 2:=by simpa using hsmall
  refine aC (aU ?_)
  rw[sP]
  refine aC (aU (fin (iC (aX vs.length)) (wM general' (vs.toArray.zip vs.toArray) #[] 7 none) ⟨by simp,by simp⟩ ?_ ?_ rfl))
  ·intro i j hij hj
   have:i=j:=by omega
   subst this;exact W.refl _
  ·rw[Qw]
   show (vs.toArray.zip vs.toArray).map (·.2)=vs.toArray
   apply tT
   ·simp
   ·intro i i1 i2;simp
 ·rw[if_neg hsmall,if_neg hsmall]
  have hs2:2<=vs.length:=by simp at hsmall;omega
  refine aC (hkind hs2 hp _ k1 ?_)
  have on:=(O0 (n:=vs.length) W (by omega)).wp (cmp:=jE P w A κ vs) (s:={ s with heap:=hp }) (Q:=fun p s'=>(Pm vs.length p/\Up lt p vs.length)/\s' = { s with heap:=hp }) (fun i j C hi hj hC=>hask hp i j C k1 hi hj hC) fun p h=>⟨h,rfl⟩
  refine aC (dM (kat_run (Q:=fun st s'=>∃ p:Array Nat,arrOf st=p.map (kas_item (vs.toArray.zip vs.toArray))/\failedOf st=none/\(Pm vs.length p/\Up lt p vs.length)/\s' = { s with heap:=hp }) rfl hs2 h64 (fun p st s' _ q1 q2 q3=>⟨p,q1,q2,q3⟩) on) ?_ fun _ _ e=>e)
  rintro ⟨⟨⟩,st⟩ s' ⟨p,q1,q2,⟨q3,q4⟩,rfl⟩
  exact fin p st q3 q4 (kat_snds rfl q1) q2
end
end SO
namespace MR
open PySem PySem.Spec PyProof.Rows PySem.Calls L2 SO
noncomputable def ltT:List Int->List Int->Bool
 | _,[]=>false
 | [],_::_=>true
 | a::x,b::y=>if a == b then ltT x y else decide (a < b)
theorem H9:∀ x y:List Int,ltT x y=true->ltT y x=false
 | x,[],h=>by unfold ltT at h;cases h
 | [],b::y,_=>by simp[ltT]
 | a::x,b::y,h=>by
  unfold ltT at h ⊢
  by_cases e:a=b
  ·subst e
   simp only[beq_self_eq_true,if_true] at h ⊢
   exact H9 x y h
  ·have h1:(a == b)=false:=by simpa using e
   have h2:(b == a)=false:=by simpa using fun q=>e q.symm
   simp only[h1,h2,bH,if_false,decide_eq_true_eq] at h ⊢
   simp only[decide_eq_false_iff_not];omega
theorem Nm:∀ x y z:List Int,ltT y x=false->ltT z y=false->ltT z x=false
 | [],_,z,_,_=>by unfold ltT;rfl
 | a::x,[],z,h,_=>by simp[ltT] at h
 | a::x,b::y,[],_,h=>by simp[ltT] at h
 | a::x,b::y,c::z,h1,h2=>by
  unfold ltT at h1 h2 ⊢
  by_cases e1:b=a
  ·subst e1
   simp only[beq_self_eq_true,if_true] at h1
   by_cases e2:c=b
   ·subst e2
    simp only[beq_self_eq_true,if_true] at h2 ⊢
    exact Nm x y z h1 h2
   ·have q:(c == b)=false:=by simpa using e2
    simp only[q,bH,if_false] at h2 ⊢
    exact h2
  ·have q1:(b == a)=false:=by simpa using e1
   simp only[q1,bH,if_false,decide_eq_false_iff_not] at h1
   by_cases e2:c=b
   ·subst e2
    simp only[q1,bH,if_false,decide_eq_false_iff_not];exact h1
   ·have q2:(c == b)=false:=by simpa using e2
    simp only[q2,bH,if_false,decide_eq_false_iff_not] at h2
    have e3:c≠a:=by omega
    have q3:(c == a)=false:=by simpa using e3
    simp only[q3,bH,if_false,decide_eq_false_iff_not];omega
theorem Px:∀ x y:List Int,ltT x y=false->ltT y x=false->x=y
 | [],[],_,_=>rfl
 | a::x,[],_,h=>by simp[ltT] at h
 | [],b::y,h,_=>by simp[ltT] at h
 | a::x,b::y,h1,h2=>by
  unfold ltT at h1 h2
  by_cases e:a=b
  ·subst e
   simp only[beq_self_eq_true,if_true] at h1 h2
   rw[Px x y h1 h2]
  ·have q1:(a == b)=false:=by simpa using e
   have q2:(b == a)=false:=by simpa using fun q=>e q.symm
   simp only[q1,q2,bH,if_false,decide_eq_false_iff_not] at h1 h2
   omega
noncomputable def leT(x y:List Int):Prop:=ltT y x=false
theorem Ss:∀ {a b:List (List Int)},a.Perm b->a.Pairwise leT->b.Pairwise leT->a=b
 | [],b,p,_,_=>p.nil_eq
 | x::r,[],p,_,_=>absurd p.length_eq (by simp)
 | x::r,y::t,p,ha,hb=>by
  have hx:x∈y::t:=p.mem_iff.mp (aW ..)
  have hy:y∈x::r:=p.mem_iff.mpr (aW ..)
  have e:x=y:=by
   rcases bE.mp hx with h | h
   ·exact h
   ·rcases bE.mp hy with h' | h'
    ·exact h'.symm
    ·exact Px x y ((fO.mp hb).1 x h) ((fO.mp ha).1 y h')
  subst e
  rw[Ss p.cons_inv (fO.mp ha).2 (fO.mp hb).2]
noncomputable def Ab6(x:List Int):List (List Int)->List (List Int)
 | []=>[x]
 | y::r=>if ltT y x=true then y::Ab6 x r else x::y::r
theorem N9(x:List Int):∀ l,(Ab6 x l).Perm (x::l)
 | []=>.refl _
 | y::r=>by
  unfold Ab6
  split
  ·exact ((N9 x r).cons y).trans (.swap ..)
  ·exact .refl _
theorem Oe(x:List Int):∀ l,l.Pairwise leT->(Ab6 x l).Pairwise leT
 | [],_=>List.pairwise_singleton ..
 | y::r,h=>by
  obtain ⟨h1,h2⟩:=fO.mp h
  unfold Ab6
  split
  ·rename_i hl
   refine fO.mpr ⟨fun z hz=>?_,Oe x r h2⟩
   rcases bE.mp ((N9 x r).mem_iff.mp hz) with e | e
   ·subst e;exact H9 _ _ hl
   ·exact h1 z e
  ·rename_i hl
   have hl:leT x y:=by unfold leT;simpa using hl
   refine fO.mpr ⟨fun z hz=>?_,h⟩
   rcases bE.mp hz with e | e
   ·subst e;exact hl
   ·exact Nm x y z hl (h1 z e)
noncomputable def Wj:List (List Int)->List (List Int)
 | []=>[]
 | x::r=>Ab6 x (Wj r)
theorem Ly:∀ l,(Wj l).Perm l
 | []=>.refl _
 | x::r=>(N9 x _).trans ((Ly r).cons x)
theorem Ni:∀ l,(Wj l).Pairwise leT
 | []=>.nil
 | x::r=>Oe x _ (Ni r)
inductive Tups(K:aH)(H:Hp):List (List Int)->List V->Prop
 | nil:Tups K H [] []
 | cons {a:Addr} {n:Int} {t:List Int} {ts:List (List Int)} {ys:List V} (h:SqT K H a ((n::t).map V.int)) (r:Tups K H ts ys):Tups K H ((n::t)::ts) (.ref a::ys)
theorem Tups.len{K:aH}{H:Hp}{ts:List (List Int)}{ys:List V}(r:Tups K H ts ys):ts.length=ys.length:=by
 induction r with
 | nil=>rfl
 | cons h r ih=>simp[ih]
theorem Tups.at_{K:aH}{H:Hp}{ts:List (List Int)}{ys:List V}(r:Tups K H ts ys):∀ i,i < ts.length->∃ (a:Addr) (n:Int) (t:List Int),ts[i]? = some (n::t)/\ys[i]? = some (.ref a)/\SqT K H a ((n::t).map V.int):=by
 induction r with
 | nil=>intro i h;simp at h
 | @cons a n t ts ys h r ih=>
  intro i hi
  cases i with
  | zero=>exact ⟨a,n,t,rfl,rfl,h⟩
  | succ i=>simpa using ih i (by simpa using hi)
theorem Abl{ns:List Int}{us:List aF}(r:Vals (ns.map V.int) us):∀ (i:Nat) (v:aF),us[i]? = some v->∃ n t,ns[i]? = some n/\v = .int n t:=Aid r
theorem Wx{P:cU}{w:eD}{A:dO}{b fin:Bool}{s:aL}{Q:Bool->aL->Prop}:∀ (ns ms:List Int) (xs ys:List aF) (i:Nat),Vals (ns.map V.int) xs->Vals (ms.map V.int) ys->fin=decide (ns.length < ms.length)->Q (ltT ns ms) s->tH P w A b fin Q (xs.zip ys) i s
 | [],ms,xs,ys,i,rx,ry,hf,q=>by
  rw[bT] at rx;cases rx
  rw[qN]
  refine sQ ?_
  rw[hf]
  cases ms with
  | nil=>exact q
  | cons m ms=>simpa[ltT] using q
 | n::ns,[],xs,ys,i,rx,ry,hf,q=>by
  rw[bT] at ry;cases ry
  rw[pX]
  refine sQ ?_
  rw[hf]
  simpa[ltT] using q
 | n::ns,m::ms,xs,ys,i,rx,ry,hf,q=>by
  rw[aO] at rx ry
  cases rx with
  | cons r1 r2=>
   cases ry with
   | cons s1 s2=>
    obtain ⟨t,rfl⟩:=r1
    obtain ⟨u,rfl⟩:=s1
    rw[iL]
    refine rX (PySem.wpAny_eqBool_int ?_)
    unfold ltT at q
    cases e:(n == m) with
    | true=>
     rw[e,if_pos rfl] at q
     exact sR (Wx ns ms _ _ (i+1) r2 s2 (by rw[hf];simp) q)
    | false=>
     rw[e,if_neg (by simp)] at q
     refine tI ?_
     cases (b&&i == 0) with
     | true=>exact oneLt_int q
     | false=>exact PySem.W.kat_one _ _ (lt_int q)
section
variable {X:Cx}
end
noncomputable def Wd:U->Option (List Int)
 | .tup l=>mapO toI l
 | _=>none
noncomputable def Ux(l:List Int):U:=.tup (l.map U.int)
theorem Aai:∀ {us:List U} {ts:List (List Int)},mapO Wd us=some ts->us=ts.map Ux
 | [],ts,e=>by simp only[mapO] at e;cases e;rfl
 | u::us,ts,e=>by
  simp only[mapO] at e
  obtain ⟨t,e1,e⟩:=aB.mp e
  obtain ⟨tr,e2,e⟩:=aG.mp e
  subst e
  rw[aO,Aai e2]
  congr 1
  cases u with
  | tup l=>
   have:∀ (l:List U) (t:List Int),mapO toI l=some t->l=t.map U.int:=by
    intro l
    induction l with
    | nil=>intro t e;simp only[mapO] at e;cases e;rfl
    | cons a l ih=>
     intro t e
     simp only[mapO] at e
     obtain ⟨x,x1,e⟩:=aB.mp e
     obtain ⟨y,y1,e⟩:=aG.mp e
     subst e
     rw[aO,<- ih y y1]
     cases a <;> first | (cases x1;rfl) | cases x1
   unfold Ux
   rw[this l t e1]
  | _=>cases e1
end MR
namespace SO
open PySem PySem.W PyProof.Rows
noncomputable def Yv{α:Type}(lt:Nat->Nat->Bool):KasT α->α
 | .ret a=>a
 | .ask i j k=>Yv lt (k (lt i j))
variable {n:Nat}{lt:Nat->Nat->Bool}
theorem On.run{α:Type}{P:α->Prop}:∀ {t:KasT α},On n lt P t->On n lt (fun a=>a=Yv lt t) t
 | .ret a,h=>rfl
 | .ask i j k,h=>⟨h.1,h.2.1,On.run h.2.2⟩
theorem On.holds{α:Type}{P:α->Prop}:∀ {t:KasT α},On n lt P t->P (Yv lt t)
 | .ret a,h=>h
 | .ask i j k,h=>by
  show P (Yv lt (k (lt i j)))
  exact On.holds h.2.2
noncomputable def sortN(lt:Nat->Nat->Bool)(n:Nat):List Nat:=if n < 2 then aX n else (Yv lt (mE n)).toList
theorem sortN_perm(W:Wo lt):(sortN lt n).Perm (aX n):=by
 unfold sortN
 split
 ·exact .refl _
 ·exact (O0 (n:=n) W (by omega)).holds.1.perm
end SO
namespace MR
open PySem PySem.Spec PyProof.Rows PySem.Calls L2 SO
section
variable {X:Cx}{pins:List (Addr×Obj)}{σ:L2.St}{H:Hp}{s:aL}{h':Heap}
theorem Inv.adopt{a:Addr}{o:HO}{t':Nat}(I:L2.Inv X pins σ H s)(hf:Fx X pins H a)(k:∀ b o,b≠a->s.heap.get? b=some o->h'.get? b=some o)(new:ObjOk X.prog X.w (upd H a o) h' a o) :
  L2.Inv X pins σ (upd H a o) { s with heap:=h',toks:=t' }:=by
 have hn:H a=none:=hf.1
 have na:∀ b u,H b=some u->b≠a:=fun b u e z=>by rw[z,hn] at e;cases e
 have st:=Stay.new hn o
 refine I.step (g':=s.gens) (d':=s.drawn) (ch:=[a]) (fun b hb=>?_) (fun b o _ _ hc e _=>k b o (fun z=>hc (by simp[z])) e) (fun b o _ _ hc e _=>⟨o.slots,k b o (fun z=>hc (by simp[z])) e⟩) (fun b u hc e n=>?_) (fun b u hc e=>⟨u,k b u (fun z=>hc (by simp[z])) e⟩) st.1 st.2 (fun b ps e=>⟨#[],?_⟩) (fun m hm=>?_) (fun b u e=>?_) I.bare
 ·have e:b=a:=by simpa using hb
  subst e
  obtain ⟨_,f1,_,f3,f4,f5⟩:=hf
  exact ⟨f3,f1,f4,f5⟩
 ·rw[Aq (fun z=>hc (by simp[z]))];exact n
 ·rw[Aq (na b _ e),e];simp
 ·obtain ⟨o1,es,ep,ho,r⟩:=hm
  exact ⟨o1,es,ep,k _ o1 (eP hf.2.1) ho,r⟩
 ·by_cases hb:b=a
  ·subst hb;rw[upd_same] at e;cases e;exact new
  ·rw[Aq hb] at e
   refine (I.hok b u e).stay (fun c v hc q=>k c v ?_ q) (fun c q=>by rw[Aq (na c _ q)];exact q) fun c xs q=>by rw[Aq (na c _ q)];exact q
   rcases hc with z | z
   ·rw[z];exact hb
   ·exact na c _ z
end
section
variable {X:Cx}{pins:List (Addr×Obj)}{σ:L2.St}{H:Hp}{s:aL}
theorem Aa4:∀ l:List Int,mapO toI (l.map U.int)=some l
 | []=>rfl
 | a::r=>by simp only[aO,mapO,toI,Aa4 r,aA,aD]
noncomputable def ltK(ks:List (List Int))(i j:Nat):Bool:=ltT (ks.getD i []) (ks.getD j [])
theorem Qe(ks:List (List Int)):Wo (ltK ks):=⟨fun i j h=>H9 _ _ h,fun i j k h1 h2=>Nm _ _ _ h1 h2⟩
end
end MR
namespace MR
open PySem PySem.Spec PyProof.Rows PySem.Calls L2
abbrev Iw(o:Obj):HO:=.frz o (.ext fun _=>True)
variable {H:Hp}
theorem Pa{P:cU}{w:eD}{h:Heap}{a:Addr}{o:Obj}(e:h.get? a=some o):ObjOk P w H h a (Iw o):=⟨e,trivial,⟨o,e⟩,fun _ _ _ _=>trivial⟩
abbrev Ak4(q:Str)(params:kD)(body:Expr)(scope:iZ)(cl:List (Str×Addr))(pm:aF)(c:Addr)(ct:aF):Obj:=sS "<lambda>" q params body scope cl pm c ct
noncomputable def LamAt(H:Hp)(q:Str)(params:kD)(body:Expr)(scope:iZ)(cl:List (Str×Addr))(f:Addr):Prop:=∃ pm c ct,H f=some (Iw (Ak4 q params body scope cl pm c ct))/\LCode H q (.ref c)
variable {q:Str}{v:aF}
theorem LCode.stay{H':Hp}(st:Stay H H')(h:LCode H q v):LCode H' q v:=by
 obtain ⟨c,oc,vs,t,e1,e2,r⟩:=h
 exact ⟨c,oc,vs,t,e1,st.2 _ _ _ e2,r⟩
variable {params:kD}{body:Expr}{scope:iZ}{cl:List (Str×Addr)}
theorem LamAt.stay{H':Hp}{f:Addr}(st:Stay H H')(h:LamAt H q params body scope cl f):LamAt H' q params body scope cl f:=by
 obtain ⟨pm,c,ct,e,l⟩:=h
 exact ⟨pm,c,ct,st.2 _ _ _ e,l.stay st⟩
section
variable {X:Cx}{pins:List (Addr×Obj)}{σ:L2.St}{s:aL}{α:List Addr}{L:UH}{nm:Str}{c P:Addr}{pos:Pos}
theorem Inv.grow{t':Nat}{h':Heap}{P:Addr}{ps more:Array aF}(I:L2.Inv X pins σ H s)(hP:H P=some (.tbl ps))(k:∀ b o,b≠P->s.heap.get? b=some o->h'.get? b=some o)(hp:h'.get? P=some { cls:=.none,data:=.fields (ps++more) }) :
  L2.Inv X pins σ (upd H P (.tbl (ps++more))) { s with heap:=h',toks:=t' }:=by
 have nP:∀ b,H b=none->b≠P:=fun b n z=>by rw[z,hP] at n;cases n
 refine I.step (g':=s.gens) (d':=s.drawn) (ch:=[]) (fun _ z=>nomatch z) (fun b o _ _ _ e n=>k b o (nP b n) e) (fun b o _ _ _ e n=>⟨o.slots,k b o (nP b n) e⟩) (fun b o _ e n=>by rw[Aq (nP b n)];exact n) (fun b o _ e=>?_) (fun b xs e=>?_) (fun b o u e=>?_) (fun b qs e=>?_) (fun m hm=>?_) (fun b u e=>?_) I.bare
 ·by_cases hb:b=P
  ·subst hb;exact ⟨_,hp⟩
  ·exact ⟨o,k b o hb e⟩
 ·rw[Aq (Kp e hP (fun z=>by cases z))];exact e
 ·rw[Aq (Kp e hP (fun z=>by cases z))];exact e
 ·by_cases hb:b=P
  ·subst hb
   rw[hP] at e;cases e
   exact ⟨more,upd_same⟩
  ·exact ⟨#[],by rw[Aq hb,e];simp⟩
 ·obtain ⟨o1,es,ep,ho,r⟩:=hm
  exact ⟨o1,es,ep,k _ o1 (nP _ I.free) ho,r⟩
 ·by_cases hb:b=P
  ·subst hb;rw[upd_same] at e;cases e;exact hp
  ·rw[Aq hb] at e
   refine (I.hok b u e).stay (fun c v hc q=>k c v ?_ q) (fun c q=>by rw[Aq (Kp q hP (fun z=>by cases z))];exact q) fun c xs q=>by rw[Aq (Kp q hP (fun z=>by cases z))];exact q
   rcases hc with z | z
   ·rw[z];exact hb
   ·exact Kp z hP (fun z=>by cases z)
theorem Ms{a b:Nat}:∀ {ps:List aF},rQ ps->rQ (ps++[rawInt a,rawInt b,v])
 | [],_=>trivial
 | .int _ _ :: .int _ _::_::rest,h=>Ms (ps:=rest) h
theorem Qm{pos:Pos}{a b:Nat}{cv:aF}:∀ {ps:List aF},rQ ps->codeAmong pos (ps++[rawInt a,rawInt b,v])=some cv->codeAmong pos ps=some cv\/cv=v
 | [],_,e=>by
  have e':(if ((a:Int) == pos.line&&(b:Int) == pos.col)=true then some v else codeAmong pos [])=some cv:=e
  split at e'
  ·cases e';exact .inr rfl
  ·cases e'
 | .int x _ :: .int y _::w::rest,h,e=>by
  have e':(if (x == pos.line&&y == pos.col)=true then some w else codeAmong pos (rest++[rawInt a,rawInt b,v]))=some cv:=e
  show (if (x == pos.line&&y == pos.col)=true then some w else codeAmong pos rest)=some cv\/cv=v
  split at e'
  ·rename_i hc;rw[if_pos hc];exact .inl e'
  ·rename_i hc;rw[if_neg hc];exact Qm (ps:=rest) h e'
theorem Agj(B:LamB X.K X.mg X.base)(hnm:nm∈Fu)(ht:dF X.K nm=some (c,P))(hcode:X.env.code = .ref c)(hq:X.env.qual++("<lambda>" : Str)=Lj nm)(hdef:defaultsOf params X.env=([],[]))(hcl:closureFor scope X.env=pure cl)
  (I:L2.Inv X pins σ H s) (A:Abs X.K H α L):wpAny (model X.prog X.w) X.A (eval (.Lambda params body scope pos) X.env)
   (fun v s'=>∃ f H',v = .ref f/\L2.Inv X pins σ H' s'/\Gr H α H' α/\Abs X.K H' α L/\LamAt H' (Lj nm) params body scope cl f) X.xe s:=by
 obtain ⟨ps,hP,tr,good⟩:=A.tab nm hnm c P ht
 have hPo:s.heap.get? P=some (PySem.W.tabObj ps):=I.hok P _ hP
 have C:=(B.hd nm hnm c P ht).keeps I.bk
 have G:s.heap.Ns bI X.mg:=I.mod.glob.keeps I.bk
 have nbP:∀ b o,X.base.get? b=some o->b≠P:=fun b o e z=>by
  have:=(I.bs b o e).2
  rw[z,hP] at this;cases this
 have hgP:bI≠P:=by
  obtain ⟨o,es,ep,e,_⟩:=I.mod.glob
  exact nbP _ o e
 obtain ⟨bm,ob,b1,b2,b3,b4,b5,b6⟩:=B.bm
 have hbG:bm≠bI:=fun z=>by
  obtain ⟨o,es,ep,e,hd,_⟩:=I.mod.glob
  rw[z,e] at b3;cases b3;rw[hd] at b6;cases b6
 have hb:s.heap.BuiltinsAt X.mg P:=⟨bm,ob,b1,b2,hbG,nbP _ ob b3,I.bk _ _ b3,b4,b5,b6⟩
 refine PySem.W.kla_eval hdef ?_
 rw[hq]
 cases hca:codeAmong pos ps.toList with
 | none=>
  refine PySem.W.kla_makeFunction (mg:=X.mg) hcl I.ok.glob G hcode C hPo tr hca hgP hb fun c' ctv h' tk hx hge hlt hrec htb=>?_
  obtain ⟨c₂,oc,vs,t,e2,hoc,hd,hv⟩:=hrec
  cases e2
  have I1:L2.Inv X pins σ (upd H P (.tbl (ps++#[rawInt pos.line,rawInt pos.col,.ref c']))) { s with heap:=h',toks:=tk }:=Inv.grow I hP (fun b o hb e=>hx b o hb e) htb
  have hc'n:H c'=none:=I.hok.fresh hge
  have hc'P:c'≠P:=fun z=>by rw[z,hP] at hc'n;cases hc'n
  have hn1:(upd H P (.tbl (ps++#[rawInt pos.line,rawInt pos.col,.ref c']))) c'=none:=by rw[Aq hc'P];exact hc'n
  have I2:L2.Inv X pins σ (upd (upd H P (.tbl (ps++#[rawInt pos.line,rawInt pos.col,.ref c']))) c' (Iw oc)) { s with heap:=h',toks:=tk }:=by
   refine Inv.adopt (s:={ s with heap:=h',toks:=tk }) (t':=tk) I1 ?_ (fun b o _ e=>e) (Pa hoc)
   exact ⟨hn1,(I.fpOk hge hc'n).2⟩
  have hfs:(upd (upd H P (.tbl (ps++#[rawInt pos.line,rawInt pos.col,.ref c']))) c' (Iw oc)) h'.objs.size=none:=I2.hok.fresh (aQ _)
  generalize hO:sS "<lambda>" (Lj nm) params body scope cl ((X.mg "__name__").getD .none) c' ctv=fo
  have I3:=I2.laid (t':=tk) (o:=Iw fo) (a:=h'.objs.size) (h':=h'.push fo) (fun b u e=>aE _ e) (aQ _) (Pa (bC _ (by rw[<- hO];rfl)))
  have st1:Stay H (upd H P (.tbl (ps++#[rawInt pos.line,rawInt pos.col,.ref c']))):=⟨fun b xs q=>by rw[Aq (Kp q hP (fun z=>by cases z))];exact q,fun b o u q=>by rw[Aq (Kp q hP (fun z=>by cases z))];exact q⟩
  have st2:=Stay.new hn1 (Iw oc)
  have st3:=Stay.new hfs (Iw fo)
  have st:=st1.trans (st2.trans st3)
  have g:Gr H α _ α:=⟨⟨[],by simp⟩,st⟩
  have keep:∀ b u,b≠P->H b=some u->(upd (upd (upd H P (.tbl (ps++#[rawInt pos.line,rawInt pos.col,.ref c']))) c' (Iw oc)) h'.objs.size (Iw fo)) b=some u:=fun b u hb e=>by
   have e1:(upd H P (.tbl (ps++#[rawInt pos.line,rawInt pos.col,.ref c']))) b=some u:=by rw[Aq hb];exact e
   have e2:(upd (upd H P (.tbl (ps++#[rawInt pos.line,rawInt pos.col,.ref c']))) c' (Iw oc)) b=some u:=by rw[Aq (Ba e1 hn1)];exact e1
   rw[Aq (Ba e2 hfs)];exact e2
  have lc:LCode (upd (upd (upd H P (.tbl (ps++#[rawInt pos.line,rawInt pos.col,.ref c']))) c' (Iw oc)) h'.objs.size (Iw fo)) (Lj nm) (.ref c'):=
   ⟨c',oc,vs,t,rfl,by rw[Aq (bU hlt),upd_same],hd,hv⟩
  refine ⟨h'.objs.size,_,rfl,I3,g,⟨A.len,A.inj,fun i a o e1 e2=>(A.rep i a o e1 e2).other g ?_,fun nm2 hn2 c2 P2 e2=>?_⟩,⟨_,c',ctv,by rw[<- hO];exact upd_same,lc⟩⟩
  ·by_cases hr:o.isRo=true
   ·exact .inl hr
   ·refine .inr fun u q=>keep a u (fun z=>?_) q
    rw[z,hP] at q;cases q
    have hr':=A.rep i a o e1 e2
    rw[z] at hr'
    cases o with
    | lst us=>obtain ⟨xs,e,_⟩:=hr';rw[hP] at e;cases e
    | ro us=>exact hr rfl
    | dic kvs=>obtain ⟨xs,e,_⟩:=hr';rw[hP] at e;cases e
    | rod kvs=>obtain ⟨o,xs,e,_⟩:=hr';rw[hP] at e;cases e
    | ins C fs=>obtain ⟨_,_,_,_,e,_⟩:=hr';rw[hP] at e;cases e
    | exc C fr fs=>obtain ⟨_,_,_,_,e,_⟩:=hr';rw[hP] at e;cases e
  ·by_cases hPP:P2=P
   ·subst hPP
    obtain ⟨ps2,hP2,tr2,good2⟩:=A.tab nm2 hn2 c2 P2 e2
    rw[hP] at hP2;cases hP2
    have hqq:Lj nm2=Lj nm:=by rw[B.inj nm2 hn2 nm hnm c2 c P2 e2 ht]
    have e3:(upd (upd H P2 (.tbl (ps++#[rawInt pos.line,rawInt pos.col,.ref c']))) c' (Iw oc)) P2=some (.tbl (ps++#[rawInt pos.line,rawInt pos.col,.ref c'])):=by rw[Aq (eP hc'P),upd_same]
    refine ⟨_,by rw[Aq (Ba e3 hfs)];exact e3,?_,fun p cv e=>?_⟩
    ·simpa using Ms (a:=pos.line) (b:=pos.col) (v:=.ref c') tr
    ·rcases Qm (a:=pos.line) (b:=pos.col) (v:=.ref c') tr (by simpa using e) with z | z
     ·exact (good2 p cv z).stay st
     ·rw[z,hqq];exact lc
   ·exact (A.tab nm2 hn2 c2 P2 e2).keep st.2 fun ps' e=>keep P2 _ hPP e
 | some cv=>
  obtain ⟨c',oc,vs,t,rfl,e2,hd,hv⟩:=good pos cv hca
  refine PySem.W.kla_makeFunctionHit (mg:=X.mg) hcl I.ok.glob G hcode C hPo tr hca hb fun ctv h' tk hk hsz=>?_
  have I1:L2.Inv X pins σ H { s with heap:=h',toks:=tk }:=I.kept hk
  have hfs:H h'.objs.size=none:=I1.hok.fresh (aQ _)
  generalize hO:({ cls:=.type "function",data:=.func (tJ "<lambda>" (Lj nm) params body scope cl ((X.mg "__name__").getD .none) (.ref c') ctv) }:Obj)=fo
  have I3:=I1.laid (t':=tk) (o:=Iw fo) (a:=h'.objs.size) (h':=h'.push fo) (fun b u e=>aE _ e) (aQ _) (Pa (bC _ (by rw[<- hO];rfl)))
  have g:Gr H α (upd H h'.objs.size (Iw fo)) α:=⟨⟨[],by simp⟩,.new hfs _⟩
  refine ⟨h'.objs.size,_,rfl,I3,g,⟨A.len,A.inj,fun i a o e1 e2=>(A.rep i a o e1 e2).other g (.inr fun u q=>by rw[Aq (Ba q hfs)];exact q),A.tabs g.st (Pe hfs _)⟩,⟨_,c',ctv,by rw[<- hO];exact upd_same,?_⟩⟩
  exact LCode.stay g.st ⟨c',oc,vs,t,rfl,e2,hd,hv⟩
end
noncomputable def Oj(X:Cx)(A:dO)(N':List Str)(q:Str)(scope:iZ)(f c:Addr)(cl:List (Str×Addr))(s:aL)(H:Hp):Cx where
 prog:=X.prog
 w:=X.w
 K:=X.K
 mg:=X.mg
 base:=X.base
 A:=A.deeper (oE q scope s.heap.objs.size f (.ref c) cl)
 N:=N'
 s₀:=s
 H₀:=H
 env:=oE q scope s.heap.objs.size f (.ref c) cl
 outer:=X.stack
 stack:=oE q scope s.heap.objs.size f (.ref c) cl::X.stack
 ex:=[]
 calm:=true
 fn:=fun _=>false
 pn:=[]
 xe:=fun _ _=>False
structure LamSc(X:Cx)(params:kD)(body:Expr)(scope:iZ)(N':List Str)(ix:List (Option Nat))(p:Str):Prop where
 sc:CompSc X scope N' ix
 pre:N'[0]? = some p
 par:scope.names.lookup p=some .local
 co:scope.isCoroutine=false
 gen:scope.isGenerator=false
 binds:∀ (q:Str) (cl:List (Str×Addr)) (pm cd ct v:aF),bindArgs (tJ "<lambda>" q params body scope cl pm cd ct) ⟨[v],[]⟩=pure [(p,v)]
noncomputable def Va(ix:List (Option Nat))(u:U)(δ:UE):UE:=(E2 ix δ).set 0 (some u)
section
variable {X:Cx}{pins:List (Addr×Obj)}{σ:L2.St}{s:aL}{α:List Addr}{L:UH}{c f:Addr}{N':List Str}{ix:List (Option Nat)}{p:Str}{A:dO}
theorem Acj(S:LamSc X params body scope N' ix p)(hA:A.frames=X.A.frames)(hh:A.handled=none)(I2:L2.Inv X pins σ H s)(hcl:∀ x c,cl.lookup x=some c->X.env.cells.lookup x=some c)(hcl2:∀ y∈scope.names,y.2 = .free->∃ c,cl.lookup y.1=some c)
  {y:V} {x0:aF} (ry:L2.RelV y x0) {h4:Heap} {t4:Nat} (hns:h4.Ns s.heap.objs.size (fun z=>[(p,x0)].reverse.lookup z)) (keep:∀ b o,s.heap.get? b=some o->h4.get? b=some o) :
  L2.Inv (Oj X A N' q scope f c cl s H) [] ((inner ix σ).set 0 (some y)) H { s with heap:=h4,toks:=t4 }:=by
 have e0:=I2.env0
 have ok:(Oj X A N' q scope f c cl s H).Ok:=
  { mod:=I2.ok.mod
    kind:=S.sc.kind
    glob:=rfl
    blt:=rfl
    above:=aQ _
    inj:=fun x y c e1 e2=>I2.ok.inj x y c (hcl x c e1) (hcl y c e2)
    has:=fun x h=>by
     have h':scope.names.lookup x=some .cell\/scope.names.lookup x=some .free:=h
     rcases h' with h' | h'
     ·have:=bN.mp S.sc.cell _ (B2 h')
      simp at this
     ·exact hcl2 _ (B2 h') rfl
    cab:=fun x c h=>by cases h
    hd:=fun _=>hh
    frames:=oX (hA.trans e0.frames)
    stk:=.inr ⟨rfl,rfl⟩
    exf:=fun b hb=>absurd (show b∈([]:List Addr) from hb) (by simp)
    bs:=fun b o e=>I2.bs b o e
    bsz:=cK I2.ok.bsz I2.sz
    noex:=fun b o e hb=>absurd (show b∈([]:List Addr) from hb) (by simp)
    exfs:=fun b hb z=>absurd (show b∈([]:List Addr) from hb) (by simp)
    funs:=I2.stack
    frf:=I2.stkFree }
 obtain ⟨m0,hn0,hl0⟩:=id I2.loc
 refine ⟨ok,rfl,I2.bare,Un.kept keep,⟨_,hns,fun j x v e1 e2 e3=>?_⟩,fun x c e=>?_,I2.hok.fresh (aQ _),fun x c e=>I2.freeC x c (hcl x c e),fun p hp=>absurd (show p∈([]:List (Addr×Obj)) from hp) (by simp),I2.hok.kept keep,?_⟩
 ·have e1':N'[j]? = some x:=e1
  have e2':((inner ix σ).set 0 (some y))[j]? = some (some v):=e2
  by_cases hj:0=j
  ·subst hj
   rw[S.pre] at e1';cases e1'
   have hlen:0 < (inner ix σ).length:=by
    unfold inner
    rw[aV,<- S.sc.len]
    exact (aJ.mp S.pre).1
   rw[bQ hlen] at e2'
   cases e2'
   exact ⟨x0,ry,.inl ⟨S.par,by simp⟩⟩
  ·rw[bR hj] at e2'
   unfold inner at e2'
   rw[bO] at e2'
   cases hx:ix[j]? with
   | none=>rw[hx] at e2';simp at e2'
   | some o=>
    rw[hx] at e2'
    cases o with
    | none=>simp at e2'
    | some i=>
     simp at e2'
     have hz:(x,some i)∈N'.zip ix:=bV (i:=j) (by rw[jA];exact ⟨e1',hx⟩)
     have hz':=bN.mp S.sc.ixs _ hz
     simp only[cE,beq_iff_eq] at hz'
     obtain ⟨hXN,hfr⟩:=hz'
     have hσ:σ[i]? = some (some v):=by
      cases q:σ[i]? with
      | none=>rw[q] at e2';simp at e2'
      | some o=>rw[q] at e2';simp at e2';rw[e2']
     have hk:=bN.mp S.sc.free _ (B2 hfr)
     simp at hk
     have hvis:Vis X.env.scope x:=by
      rcases hk with q | q
      ·exact .inr (.inl q)
      ·exact .inr (.inr q)
     obtain ⟨u,r,look⟩:=hl0 i x v hXN hσ hvis
     rcases look with ⟨q,_⟩ | ⟨_,c,ec,hc⟩
     ·rcases hk with z | z
      ·rw[z] at q;cases q
      ·rw[z] at q;cases q
     ·obtain ⟨c',ec'⟩:=hcl2 _ (B2 hfr) rfl
      have:c'=c:=by have:=hcl x c' ec';rw[ec] at this;cases this;rfl
      subst this
      refine ⟨u,r,.inr ⟨.inr hfr,c',ec',?_⟩⟩
      obtain ⟨oc,ho,hd⟩:=hc
      exact ⟨oc,keep _ _ ho,hd⟩
 ·obtain ⟨v,oc,ho,hd⟩:=I2.cell x c (hcl x c e)
  exact ⟨v,oc,keep _ _ ho,hd⟩
 ·show ((inner ix σ).set 0 (some y)).length=N'.length
  rw[oG,S.sc.len];simp[inner]
theorem Ahb{k:Nat}{fb:FE}{δ:UE}(S:LamSc X params body scope N' ix p)(hr:Room (k+1) A)(hA:A.frames=X.A.frames)(hcl:∀ x c,cl.lookup x=some c->X.env.cells.lookup x=some c)(hcl2:∀ y∈scope.names,y.2 = .free->∃ c,cl.lookup y.1=some c)
  (hb:∀ (c:Addr) (s:aL) (H:Hp),Room k (Oj X A N' q scope f c cl s H).A->PEF (Oj X A N' q scope f c cl s H) body fb)
  (I:L2.Inv X pins σ H s) (Ab:Abs X.K H α L) (Sg:RepS X.K H α δ σ) (la:LamAt H q params body scope cl f) {u z:U} {y:V} {x:aF} (ru:RepU X.K H α u y) (rx:L2.RelV y x) (hm:fb (Va ix u δ) L=some (z,L)) :
  wpAny (model X.prog X.w) A (call (.ref f) [x]) (EP X pins σ (fun v H'=>∃ α',Gr H α H' α'/\Abs X.K H' α' L/\RepU X.K H' α' z v)) (fun _ _=>False) s:=by
 obtain ⟨pm,c,ct,hf,c',oc,vs,t,e1,e2,hd,hv⟩:=la
 cases e1
 have ho:=(I.hok f _ hf).1
 have hoc:=(I.hok c _ e2).1
 refine wpAny_call (PySem.W.kla_callFunE hr.depth ho rfl S.co S.gen rfl ⟨c,oc,vs,t,rfl,hoc,hd,hv⟩ ?_)
 rw[S.binds q cl pm (.ref c) ct x]
 have hcell:∀ z∈scope.names,z.2≠.cell:=fun z hz=>by
  have:=bN.mp S.sc.cell z hz
  simpa using this
 refine aU (pB hcell (fun z hz=>by obtain rfl:z=(p,x):=cH.mp hz;exact S.par) (fun h₁ hns hsb=>⟨I.nolimit.fresh _ hsb,?_⟩) S.sc.kind)
 have hk₁:∀ b o,s.heap.get? b=some o->h₁.get? b=some o:=fun b o e=>hsb.extBut b o (bU (bD e)) (aE _ e)
 have J:L2.Inv (Oj X A N' q scope f c cl s H) [] ((inner ix σ).set 0 (some y)) H { s with heap:=h₁,toks:=s.toks+[(p,x)].length }:=Acj S hA hr.hd I hcl hcl2 rx hns hk₁
 have hrr:Room k (Oj X A N' q scope f c cl s H).A:=hr.deeper _
 show jT _ _ (.expr body (oE q scope s.heap.objs.size f (.ref c) cl)) _ _
 refine PySem.W.kla_codeExpr (dM (hb c s H hrr [] _ _ H (fun v H'=>∃ α',Gr H α H' α'/\Abs X.K H' α' L/\RepU X.K H' α' z v) J ⟨α,Va ix u δ,L,Ab,(Sg.inner ix).set 0 ru,z,L,hm,fun v H' α' g A' r'=>⟨α',g,A',r'⟩⟩) (fun v s' he=>?_) fun _ _ hF=>hF.elim)
 obtain ⟨v',H',J',rv',hq⟩:=he
 exact I.after ⟨v',H',J'.os,J'.bare,J'.base,J'.hok,rv',hq⟩
end
end MR
namespace MR
open PySem PySem.Spec PyProof.Rows PySem.Calls L2 SO
theorem Ab4{A:dO}{s:aL}{a b:Addr}{vs us:List aF}{ns ms:List Int}(ha:mJ s.heap a vs.toArray)(hb:mJ s.heap b us.toArray)(ra:Vals (ns.map V.int) vs)(rb:Vals (ms.map V.int) us)(hu:A.units < cLine):pW A s (.ref a) (.ref b) (decide (ns=ms)):=by
 by_cases h:a=b
 ·subst h
  obtain ⟨o,e1,_,n,d1⟩:=ha
  obtain ⟨o',e2,_,n',d2⟩:=hb
  rw[e1] at e2;cases e2
  rw[d1] at d2
  injection d2 with d3 _
  have:vs=us:=by simpa using congrArg qH d3
  subst this
  have:ns=ms:=by
   have h1:=Dm ra
   have h2:=Dm rb
   have:∀ (vs:List aF) (ns ms:List Int),fY vs ns->fY vs ms->ns=ms:=by
    intro vs
    induction vs with
    | nil=>intro ns ms a b;cases a;cases b;rfl
    | cons v vs ih=>
     intro ns ms a b
     cases a with
     | cons _ _ a'=>cases b with
      | cons _ _ b'=>rw[ih _ _ a' b']
   exact this vs ns ms h1 h2
  rw[decide_eq_true this]
  exact sI _
 ·have hl1:=ra.length
  have hl2:=rb.length
  rw[aV] at hl1 hl2
  have key:=SeqAt.RcAt.tuples (A:=A) (s:=s) (l:=a) (b:=b) (items:=vs.toArray) (items2:=us.toArray) (e:=fun j=>decide (ns[j]? = ms[j]?)) ha hb hu (fun j h1 h2=>by
   simp only[aS] at h1 h2
   obtain ⟨n,t,en,ev⟩:=Abl ra j vs[j] (aI h1)
   obtain ⟨m,t',em,eu⟩:=Abl rb j us[j] (aI h2)
   have e1:(vs.toArray)[j]=kC n t:=by simpa using ev
   have e2:(us.toArray)[j]=kC m t':=by simpa using eu
   rw[e1,e2]
   obtain ⟨e,he,hiff⟩:=HT.Qv A.in1 s n t m t'
   have:e=decide (ns[j]? = ms[j]?):=by
    rw[en,em,kT,hiff]
    simp
   rw[<- this];exact he)
  have e:((aX (min vs.toArray.size us.toArray.size)).all (fun j=>decide (ns[j]? = ms[j]?))&&vs.toArray.size == us.toArray.size)=decide (ns=ms):=by
   rw[kT,cE,bN,beq_iff_eq,decide_eq_true_eq]
   simp only[aS,bL,decide_eq_true_eq]
   constructor
   ·rintro ⟨h1,h2⟩
    apply List.ext_getElem?
    intro i
    by_cases hi:i < ns.length
    ·exact h1 i (by omega)
    ·rw[eR (by omega),eR (by omega)]
   ·rintro rfl
    exact ⟨fun i _=>rfl,by omega⟩
  rw[e] at key
  exact pW.of_refs h key
inductive PTups(K:aH)(H:Hp)(m:Nat):List (List Int×List Int)->List V->Prop
 | nil:PTups K H m [] []
 | cons {a b c:Addr} {p:List Int×List Int} {ts:List (List Int×List Int)} {ys:List V} (h:SqT K H a [.ref b,.ref c]) (hb:SqT K H b (p.1.map V.int)) (hc:SqT K H c (p.2.map V.int)) (hm:p.1.length=m) (r:PTups K H m ts ys):PTups K H m (p::ts) (.ref a::ys)
theorem PTups.len{K:aH}{H:Hp}{m:Nat}{ts:List (List Int×List Int)}{ys:List V}(r:PTups K H m ts ys):ts.length=ys.length:=by
 induction r with
 | nil=>rfl
 | cons _ _ _ _ _ ih=>simp[ih]
theorem PTups.at_{K:aH}{H:Hp}{m:Nat}{ts:List (List Int×List Int)}{ys:List V}(r:PTups K H m ts ys):∀ i,i < ts.length->∃ (a b c:Addr) (p:List Int×List Int),ts[i]? = some p/\ys[i]? = some (.ref a)/\SqT K H a [.ref b,.ref c]/\SqT K H b (p.1.map V.int)/\SqT K H c (p.2.map V.int)/\p.1.length=m:=by
 induction r with
 | nil=>intro i h;simp at h
 | @cons a b c p ts ys h hb hc hm r ih=>
  intro i hi
  cases i with
  | zero=>exact ⟨a,b,c,p,rfl,rfl,h,hb,hc,hm⟩
  | succ i=>simpa using ih i (by simpa using hi)
section
variable {X:Cx}
end
end MR
namespace MR
open PySem PyProof.Rows L2
theorem Qy:∀ x y:List Int,HT.G8 x y=ltT x y
 | [],[]=>by unfold HT.G8 ltT;rfl
 | a::x,[]=>by unfold HT.G8 ltT;rfl
 | [],b::y=>by unfold HT.G8 ltT;rfl
 | a::x,b::y=>by
  have ih:=Qy x y
  rw[HT.Qx,ltT,ih]
  by_cases h:a=b
  ·subst h;simp
  ·have h':(a == b)=false:=by simpa using h
   rw[h',if_neg h,if_neg (by simp)]
end MR
namespace HT
open PySem PyProof.Rows
open PySem.SeqAt
open PySem.AutoSeq1 (wpAny_loadPart')
open PySem.MeetsSeq PySem.MeetsSeq2 PySem.MeetsSeq3
noncomputable def RcL(A:dO)(s:aL)(y x:aF)(b:Bool):Prop:=
 ∀ (prog:cU) (w:eD) (E:aF->aL->Prop) (Q:aF->aL->Prop),Q (.bool b) s->wpAny (model prog w) A (richCompare .Lt y x) Q E s
theorem R7(l b:Addr)(x1 x2 y1 y2:aF)(n n2:Nat)(dd dd2:Option Addr)(sl sl2:Array (Option aF))(e1 e2 r:Bool) :
  Meets (iW.«tuple.__lt__» ⟨[.ref l,.ref b],[]⟩)
   (fun A R s=>s.heap.get? l=some { cls:=.type "tuple",dict:=dd,data:=.seq #[x1,x2] n,slots:=sl }/\s.heap.get? b=some { cls:=.type "tuple",dict:=dd2,data:=.seq #[y1,y2] n2,slots:=sl2 } /\
    EqAt A.in1 s x1 y1 e1/\EqAt A.in1 s x2 y2 e2/\(e1=false->RcL A.in1 s x1 y1 r)/\(e1=true->e2=false->RcL A.in1 s x2 y2 r)/\(e1=true->e2=true->r=false)/\R (.ok (.ret (.bool r))) s):=
 .of_wp fun prog w A R s h=>by
  obtain ⟨hp,g,d,tk,os⟩:=s;obtain ⟨hl,hb,q1,q2,c1,c2,c3,h⟩:=h
  have f2:=mS
  wp_walk using gZ hl,gZ hb,rM _ (fun rest b s'=>b.1=none/\s'=⟨hp,g,d,tk,os⟩/\(rest=[(x1,y1),(x2,y2)]\/(e1=true/\rest=[(x2,y2)])\/(e1=true/\e2=true/\rest=[]))) _
  case turn=>
   rintro ⟨y,x⟩ rest b s' ⟨hb',rfl,hz⟩
   rcases hz with hz | ⟨he,hz⟩ | ⟨_,_,hz⟩
   ·cases hz
    refine aC (q1 prog w _ _ ?_)
    cases e1 with
    | true=>
     wp_walk
     exact ⟨rfl,rfl,.inr (.inl ⟨rfl,rfl⟩)⟩
    | false=>
     have hri:=c1 rfl prog w
     wp_walk using hri
     exact ⟨_,rfl,by simpa using h⟩
   ·cases hz
    refine aC (q2 prog w _ _ ?_)
    cases e2 with
    | true=>
     wp_walk
     exact ⟨rfl,rfl,.inr (.inr ⟨he,rfl,rfl⟩)⟩
    | false=>
     have hri:=c2 he rfl prog w
     wp_walk using hri
     exact ⟨_,rfl,by simpa using h⟩
   ·cases hz
  case fin=>
   rintro ⟨b1,b2⟩ s' ⟨hb',rfl,hz⟩
   simp only at hb'
   subst hb'
   rcases hz with hz | ⟨he,hz⟩ | ⟨he,he2,hz⟩
   ·cases hz
   ·cases hz
   ·have hr:=c3 he he2
    subst hr
    wp_walk
    exact ⟨_,rfl,by simpa[jX] using h⟩
  case h=>exact ⟨rfl,rfl,.inl rfl⟩
section
variable {prog:cU}{w:eD}{A:dO}{E:aF->aL->Prop}{s:aL}
theorem Ain{l b:Addr}{x1 x2 y1 y2:aF}{e1 e2 r:Bool}{Q:aF->aL->Prop}(hl:mJ s.heap l #[x1,x2])(hb:mJ s.heap b #[y1,y2])(q1:EqAt A.in1 s x1 y1 e1)(q2:EqAt A.in1 s x2 y2 e2)
  (c1:e1=false->RcL A.in1 s x1 y1 r) (c2:e1=true->e2=false->RcL A.in1 s x2 y2 r) (c3:e1=true->e2=true->r=false)
  (hu:A.units < cLine) (h:Q (.bool r) s):wpAny (model prog w) A (richCompare .Lt (.ref l) (.ref b)) Q E s:=by
 obtain ⟨⟨cls,dd,data,sl⟩,ho,hc,n,hd⟩:=id hl
 obtain ⟨⟨cls2,dd2,data2,sl2⟩,ho2,hc2,n2,hd2⟩:=id hb
 simp only at hc hd hc2 hd2
 subst hc hd hc2 hd2
 exact nT (op:=.Lt) ⟨_,ho,rfl⟩ ⟨_,ho2,rfl⟩ oO nU (nD _ _) (R7 l b x1 x2 y1 y2 n n2 dd dd2 sl sl2 e1 e2 r)
  ⟨ho,ho2,q1,q2,c1,c2,c3,show nO r≠oY/\Q (.bool r) s from ⟨(fun x=>nomatch x),h⟩⟩ hu
end
end HT
namespace MR
open PySem PySem.Spec PyProof.Rows L2 SO
noncomputable def ltU:U->U->Option Bool
 | .tup [.int a,.tup b],.tup [.int c,.tup d]=>(mapO toI b).bind fun bs=>(mapO toI d).map fun ds=>if a=c then ltT bs ds else decide (a < c)
 | .tup a,.tup b=>(mapO toI a).bind fun ns=>(mapO toI b).map fun ms=>ltT ns ms
 | _,_=>none
theorem Ama{X:Cx}{pins:List (Addr×Obj)}{σ:L2.St}{H:Hp}{s:aL}{α:List Addr}{u w:U}{x y:V}{v v':aF}{b:Bool}{A:dO}{E:aF->aL->Prop}{Q:aF->aL->Prop}(I:L2.Inv X pins σ H s)(ru:RepU X.K H α u x)(rw:RepU X.K H α w y)
  (rx:L2.RelV x v) (ry:L2.RelV y v') (h:ltU u w=some b) (hu:A.units+4 < cLine) (q:Q (.bool b) s):wpAny (model X.prog X.w) A (richCompare .Lt v v') Q E s:=by
 have tups:∀ {l r:List U} {a c:V} {va vc:aF} {ns ms:List Int} {A:dO} {E:aF->aL->Prop} {Q:aF->aL->Prop},RepU X.K H α (.tup l) a->RepU X.K H α (.tup r) c->L2.RelV a va->L2.RelV c vc->mapO toI l=some ns->mapO toI r=some ms->A.units < cLine->Q (.bool (ltT ns ms)) s ->
   wpAny (model X.prog X.w) A (richCompare .Lt va vc) Q E s:=by
  intro l r a c va vc ns ms A E Q ra rc r1 r2 e1 e2 hu hq
  unfold RepU at ra rc
  obtain ⟨p,xs,rfl,sq,rl⟩:=ra
  obtain ⟨p',ys,rfl,sq',rl'⟩:=rc
  cases r1
  cases r2
  rw[Gp rl e1] at sq
  rw[Gp rl' e2] at sq'
  obtain ⟨its,i1,p1,_⟩:=I.tuple sq
  obtain ⟨its2,i2,p2,_⟩:=I.tuple sq'
  have i1':fY its.toArray.toList ns:=Dm i1
  have i2':fY its2.toArray.toList ms:=Dm i2
  exact HT.Ra p1 p2 i1' i2' hu (by rw[Qy];exact hq)
 unfold ltU at h
 split at h
 ·rename_i a b' c d
  obtain ⟨bs,h1,h⟩:=aB.mp h
  obtain ⟨ds,h2,h⟩:=aG.mp h
  unfold RepU at ru rw
  obtain ⟨p,xs,rfl,sq,rl⟩:=ru
  obtain ⟨p',ys,rfl,sq',rl'⟩:=rw
  obtain ⟨xa,xb,rfl,ra,rb⟩:=rl.two
  obtain ⟨ya,yb,rfl,rc,rd⟩:=rl'.two
  cases rx
  cases ry
  obtain ⟨its,i1,p1,_⟩:=I.tuple sq
  obtain ⟨its2,i2,p2,_⟩:=I.tuple sq'
  obtain ⟨va,vb,rfl,qa,qb⟩:=Sj i1
  obtain ⟨vc,vd,rfl,qc,qd⟩:=Sj i2
  have rb0:=rb
  have rd0:=rd
  unfold RepU at ra rb rc rd
  subst ra
  subst rc
  obtain ⟨t1,rfl⟩:=qa
  obtain ⟨t2,rfl⟩:=qc
  obtain ⟨pb,xs2,rfl,sqb,rlb⟩:=rb
  obtain ⟨pd,ys2,rfl,sqd,rld⟩:=rd
  cases qb
  cases qd
  rw[Gp rlb h1] at sqb
  rw[Gp rld h2] at sqd
  obtain ⟨jts,j1,k1,_⟩:=I.tuple sqb
  obtain ⟨jts2,j2,k2,_⟩:=I.tuple sqd
  obtain ⟨e,he,hiff⟩:=HT.Qv A.in1 s a t1 c t2
  have hun:A.in1.units < cLine:=by show A.units+1 < cLine;omega
  refine HT.Ain (r:=b) p1 p2 he (Ab4 k1 k2 j1 j2 hun) (fun z=>?_) (fun z1 z2=>?_) (fun z1 z2=>?_) (by omega) q
  ·have hne:a≠c:=fun z'=>by rw[hiff.mpr z'] at z;cases z
   rw[if_neg hne] at h
   intro prog w E Q hQ
   exact HT.U4 A.in1 s a t1 c t2 prog w E Q (by rw[h];exact hQ)
  ·have hac:a=c:=hiff.mp z1
   rw[if_pos hac] at h
   intro prog w E Q hQ
   obtain ⟨o1,o2,o3⟩:=id k1
   have i1':fY jts.toArray.toList bs:=Dm j1
   have i2':fY jts2.toArray.toList ds:=Dm j2
   exact HT.Ra k1 k2 i1' i2' hun (by rw[Qy,h];exact hQ)
  ·have hac:a=c:=hiff.mp z1
   rw[if_pos hac] at h
   have hbd:bs=ds:=of_decide_eq_true z2
   subst hbd
   rw[<- h]
   cases hh:ltT bs bs with
   | false=>rfl
   | true=>have:=H9 _ _ hh;rw[hh] at this;exact this
 ·obtain ⟨ns,h1,h⟩:=aB.mp h
  obtain ⟨ms,h2,h⟩:=aG.mp h
  subst h
  exact tups ru rw rx ry h1 h2 (by omega) q
 ·cases h
end MR
namespace MR
open PySem PySem.Spec PyProof.Rows PySem.Calls L2
noncomputable def Cd(bt:Nat->Nat->Bool):Nat->Nat
 | 0=>0
 | j+1=>if bt (j+1) (Cd bt j)=true then j+1 else Cd bt j
theorem N8(bt:Nat->Nat->Bool):∀ j,Cd bt j<=j
 | 0=>aQ _
 | j+1=>by
  unfold Cd
  split
  ·exact aQ _
  ·exact qU (N8 bt j)
noncomputable def Qu(X:Cx)(A:dO)(σ:L2.St)(H0:Hp)(α0:List Addr)(L:UH)(f:Addr)(m:U->Option U):Prop:=
 ∀ (pins:List (Addr×Obj)) (H:Hp) (α:List Addr) (s:aL) (u z:U) (y:V) (x:aF),L2.Inv X pins σ H s->Gr H0 α0 H α->Abs X.K H α L->RepU X.K H α u y->L2.RelV y x->m u=some z ->
  wpAny (model X.prog X.w) A (call (.ref f) [x]) (EP X pins σ (fun v H'=>∃ α',Gr H α H' α'/\Abs X.K H' α' L/\RepU X.K H' α' z v)) (fun _ _=>False) s
noncomputable def W5:Option Addr->aF
 | none=>.none
 | some f=>.ref f
noncomputable def Anq(kf:Option Addr)(m:U->Option U):U->Option U:=match kf with
 | none=>some
 | some _=>m
section
variable {X:Cx}{pins:List (Addr×Obj)}{σ:L2.St}{H:Hp}{s:aL}{α:List Addr}{L:UH}{kf:Option Addr}{m:U->Option U}{us ks:List U}{n:Nat}{bt:Nat->Nat->Bool}{l I S:Addr}{R:rL->aL->Prop}
inductive MS(X:Cx)(pins:List (Addr×Obj))(σ:L2.St)(H:Hp)(α:List Addr)(L:UH)(us ks:List U)(bt:Nat->Nat->Bool)(l I S:Addr)(j:Nat)(s:aL):Prop
 | mk (H':Hp) (α':List Addr) (vb kb:aF) (yb zb:V) (c:Nat) (oI:Obj) (ub kub:U) (J:L2.Inv X ((S,seqObj "list" #[vb,kb] c)::(I,oI)::pins) σ H' s) (g:Gr H α H' α') (A':Abs X.K H' α' L) (hit:s.heap.IsListIter I l (j+1))
   (hu:us[Cd bt j]? = some ub) (hk:ks[Cd bt j]? = some kub) (r1:L2.RelV yb vb) (r2:RepU X.K H' α' ub yb) (r3:L2.RelV zb kb) (r4:RepU X.K H' α' kub zb):MS X pins σ H α L us ks bt l I S j s
theorem Adz(hh:X.A.handled=none)(hu:X.A.in1.units+4 < cLine)(hL:Ao L n=some us)(hal:α[n]? = some l)(hlk:us.length=ks.length)(KR:∀ f,kf=some f->Qu X X.A.in1 σ H α L f m)(hm:∀ (i:Nat) (u z:U),us[i]? = some u->ks[i]? = some z->Anq kf m u=some z)
  (hbt:∀ (i j:Nat) (a b:U),ks[i]? = some a->ks[j]? = some b->ltU a b=some (bt i j)) (hlI:l≠I) (hSI:S≠I) (fI:Fx X pins H I) (fS:Fx X pins H S)
  (hR:∀ (s':aL) (H':Hp) (α':List Addr) (v:aF) (y:V) (u:U),L2.Inv X pins σ H' s'->Gr H α H' α'->Abs X.K H' α' L->us[Cd bt (us.length - 1)]? = some u->L2.RelV y v->RepU X.K H' α' u y->R (.ok (.ret v)) s') :
  ∀ (r j:Nat) (s':aL),us.length - (j+1)=r->j+1<=us.length->MS X pins σ H α L us ks bt l I S j s'->jT (model X.prog X.w) X.A (.builtin "min.loop" ⟨[.ref I,W5 kf,.ref S],[]⟩) R s':=by
 have hname:(toString "min" ++ toString ".loop" : String) = "min.loop" := by decide
 have pin2:∀ (oS oI:Obj) (H':Hp) (s':aL),L2.Inv X pins σ H' s'->H' S=none->H' I=none->s'.heap.get? S=some oS->s'.heap.get? I=some oI->(∀ v,oS.data≠.cell v)->(∀ v,oI.data≠.cell v)->L2.Inv X ((S,oS)::(I,oI)::pins) σ H' s':=by
  intro oS oI H' s' J n1 n2 g1 g2 d1 d2
  refine J.pins_of fun q hq=>?_
  rcases bE.mp hq with rfl | hq
  ·exact ⟨g1,n1,fS.2.1,fS.2.2.1,d1⟩
  ·rcases bE.mp hq with rfl | hq
   ·exact ⟨g2,n2,fI.2.1,fI.2.2.1,d2⟩
   ·exact J.pin q (aT _ hq)
 have lst:∀ (H':Hp) (α':List Addr),Gr H α H' α'->Abs X.K H' α' L->∃ xs,SqL X.K H' l xs/\RepL X.K H' α' us xs:=by
  intro H' α' g A'
  obtain ⟨b,ys,e,sq,r⟩:=Iq A' hL (show RepU X.K H' α' (.ref n) (.ref l) by unfold RepU;exact ⟨l,g.at hal,rfl⟩)
  cases e
  exact ⟨ys,sq,r⟩
 intro r
 induction r with
 | zero=>
  intro j s' hr hj hms
  obtain ⟨H',α',vb,kb,yb,zb,c,oI,ub,kub,J,g,A',hit,h1,h2,r1,r2,r3,r4⟩:=hms
  have p1:=J.pin (S,seqObj "list" #[vb,kb] c) (aT _ (aW ..))
  have p2:=J.pin (I,oI) (aT _ (aM _ (aW ..)))
  have J3:L2.Inv X pins σ H' s':=J.pins_of fun q hq=>J.pin q (aT _ (aM _ (aM _ hq)))
  obtain ⟨xs,sq,rl⟩:=lst H' α' g A'
  obtain ⟨its,rv,pl,hz⟩:=J3.list sq
  have hil:=pl.isList
  have hin:j+1=its.length:=by rw[<- rv.length,<- rl.length];omega
  have W:=qE (prog:=X.prog) (w:=X.w) (A:=X.A.in1) hh I l hlI its.toArray
  have hsz:its.toArray.size=its.length:=aS ..
  refine hV jW ?_
  rw[fA eQ _]
  show wpAny _ X.A.in1 (seqItems? (.ref S) >>= _) _ _ _
  refine aC (eU p1.1 rfl ?_)
  show wpAny _ X.A.in1 (tryCatch (pyNext (.ref I)) _ >>= _) _ _ _
  refine aC (iI (W.done _ _ _ ⟨by rw[hsz,<- hin];exact hit,hil⟩ fun h' tk' hk'=>?_))
  have J4:L2.Inv X pins σ H' { s' with heap:=h',toks:=tk' }:=J3.turned (fun b o hb e=>hk' b o (by simpa using hb) e) p2.2.1 fI.2.1 fI.2.2.2.1 fI.2.2.2.2.1 fI.2.2.2.2.2
  have hS':=hk' S _ (by simpa using hSI) p1.1
  have s1:=dI h' S (bZ fun _=>(#[]:Array aF))
  show wpAny _ X.A.in1 (updateSeq S (fun _=>#[]) >>= _) _ _ _
  refine aC ?_
  refine kP hS' rfl (aC (iU (aU ?_)))
  have J5:L2.Inv X pins σ H' { s' with heap:=h'.update S (bZ fun _=>(#[]:Array aF)),toks:=tk' }:=J4.turned (t':=tk') (fun b o hb e=>(s1.2 b hb).trans e) p1.2.1 fS.2.1 fS.2.2.2.1 fS.2.2.2.2.1 fS.2.2.2.2.2
  exact hR _ H' α' vb yb ub J5 g A' (by rw[show us.length - 1=j by omega];exact h1) r1 r2
 | succ r ih=>
  intro j s' hr hj hms
  obtain ⟨H',α',vb,kb,yb,zb,c,oI,ub,kub,J,g,A',hit,h1,h2,r1,r2,r3,r4⟩:=hms
  have p1:=J.pin (S,seqObj "list" #[vb,kb] c) (aT _ (aW ..))
  have p2:=J.pin (I,oI) (aT _ (aM _ (aW ..)))
  have J3:L2.Inv X pins σ H' s':=J.pins_of fun q hq=>J.pin q (aT _ (aM _ (aM _ hq)))
  obtain ⟨xs,sq,rl⟩:=lst H' α' g A'
  obtain ⟨its,rv,pl,hz⟩:=J3.list sq
  have hil:=pl.isList
  have hlt:j+1 < its.length:=by rw[<- rv.length,<- rl.length];omega
  have W:=qE (prog:=X.prog) (w:=X.w) (A:=X.A.in1) hh I l hlI its.toArray
  have hsz:its.toArray.size=its.length:=aS ..
  refine hV jW ?_
  rw[fA eQ _]
  show wpAny _ X.A.in1 (seqItems? (.ref S) >>= _) _ _ _
  refine aC (eU p1.1 rfl ?_)
  show wpAny _ X.A.in1 (tryCatch (pyNext (.ref I)) _ >>= _) _ _ _
  refine aC (iI (W.item (j+1) _ _ _ (by rw[hsz];exact hlt) ⟨hit,hil⟩ fun v h' tk' hP hst' hk'=>?_))
  have hv:its[j+1]? = some v:=by simpa using hP
  obtain ⟨oI',hoI',hoc,hod⟩:=id hst'.1
  have hS':=hk' S _ (by simpa using hSI) p1.1
  have J4:L2.Inv X pins σ H' { s' with heap:=h',toks:=tk' }:=J3.turned (fun b o hb e=>hk' b o (by simpa using hb) e) p2.2.1 fI.2.1 fI.2.2.2.1 fI.2.2.2.2.1 fI.2.2.2.2.2
  have J6:=pin2 (seqObj "list" #[vb,kb] c) oI' H' { s' with heap:=h',toks:=tk' } J4 p1.2.1 p2.2.1 hS' hoI' (fun v z=>by cases z) (fun v z=>by rw[hod] at z;cases z)
  obtain ⟨u,hu1⟩:∃ u,us[j+1]? = some u:=⟨us[j+1],aI (by omega)⟩
  obtain ⟨zk,hz1⟩:∃ z,ks[j+1]? = some z:=⟨ks[j+1],aI (by omega)⟩
  obtain ⟨y,hy,ry⟩:=rl.get hu1
  obtain ⟨v2,hv2,rvy⟩:=rv.get hy
  rw[hv] at hv2;cases hv2
  have hmm:=hm (j+1) u zk hu1 hz1
  cases kf
  case' none=>(
   dsimp only[W5]
   refine aC (dM (Q:=fun val s''=>∃ (H2:Hp) (α2:List Addr) (z:V),L2.Inv X ((S,seqObj "list" #[vb,kb] c)::(I,oI')::pins) σ H2 s''/\Gr H' α' H2 α2/\Abs X.K H2 α2 L/\L2.RelV z val/\RepU X.K H2 α2 zk z) (E:=fun _ _=>False) (by
    cases hmm
    exact aU ⟨H',α',y,J6,.refl _ _,A',rvy,ry⟩) (fun val s'' hv=>?_) (fun _ _ h=>h.elim)))
  case' some f=>(
   dsimp only[W5]
   refine aC (iI (eC (dM (Q:=fun val s''=>∃ (H2:Hp) (α2:List Addr) (z:V),L2.Inv X ((S,seqObj "list" #[vb,kb] c)::(I,oI')::pins) σ H2 s''/\Gr H' α' H2 α2/\Abs X.K H2 α2 L/\L2.RelV z val/\RepU X.K H2 α2 zk z) (E:=fun _ _=>False) (dM (KR f rfl _ H' α' _ u zk y v J6 g A' ry rvy hmm) (fun x s'' he=>by
    obtain ⟨z,H2,J7,rz,α2,g2,A2,r5⟩:=he
    exact ⟨H2,α2,z,J7,g2,A2,rz,r5⟩) fun _ _ hF=>hF.elim) (fun val s'' hv=>?_) (fun _ _ h=>h.elim)))))
  all_goals
   obtain ⟨H2,α2,z,J7,g2,A2,rz,r5⟩:=hv
   have p1':=J7.pin (S,seqObj "list" #[vb,kb] c) (aT _ (aW ..))
   have p2':=J7.pin (I,oI') (aT _ (aM _ (aW ..)))
   have J8:L2.Inv X pins σ H2 s'':=J7.pins_of fun q hq=>J7.pin q (aT _ (aM _ (aM _ hq)))
   have hb:=hbt (j+1) (Cd bt j) zk kub hz1 h2
   show wpAny _ X.A.in1 (tryCatch (holding [v,val] (richCompare .Lt val kb >>= _)) _ >>= _) _ _ _
   refine aC (iI (eC (aC (Ama J7 r5 (r4.mono g2) rz r3 hb hu ?_))))
   refine aC (eC (fD ?_))
   refine aC (iU (aU ?_))
   cases hbb:bt (j+1) (Cd bt j) with
   | true=>
    have s1:=dI s''.heap S (bZ fun _=>#[v,val])
    obtain ⟨c2,hc2⟩:∃ c2,(s''.heap.update S (bZ fun _=>#[v,val])).get? S=some (seqObj "list" #[v,val] c2):=⟨_,hU p1'.1 fun _=>#[v,val]⟩
    simp only[if_true]
    refine aC ?_
    refine kP p1'.1 rfl (aC (iU ?_))
    rw[hname]
    have J9:L2.Inv X pins σ H2 { s'' with heap:=s''.heap.update S (bZ fun _=>#[v,val]) }:=J8.turned (t':=s''.toks) (fun b o hb e=>(s1.2 b hb).trans e) p1'.2.1 fS.2.1 fS.2.2.2.1 fS.2.2.2.2.1 fS.2.2.2.2.2
    have gI:=(s1.2 I hSI.symm).trans p2'.1
    have hbo:Cd bt (j+1)=j+1:=by unfold Cd;rw[if_pos hbb]
    refine aU ⟨iS eQ _,ih (j+1) _ (by omega) (by omega) ⟨H2,α2,v,val,y,z,c2,oI',u,zk,pin2 _ oI' H2 _ J9 p1'.2.1 p2'.2.1 hc2 gI (fun v z=>by cases z) (fun v z=>by rw[hod] at z;cases z),g.trans g2,A2,⟨oI',gI,hoc,hod⟩,by rw[hbo];exact hu1,by rw[hbo];exact hz1,rvy,ry.mono g2,rz,r5⟩⟩
   | false=>
    simp only[bH,if_false]
    refine aC (iU ?_)
    rw[hname]
    have hbo:Cd bt (j+1)=Cd bt j:=by
     show (if bt (j+1) (Cd bt j)=true then j+1 else Cd bt j)=_
     rw[if_neg (by rw[hbb];simp)]
    refine aU ⟨iS eQ _,ih (j+1) _ (by omega) (by omega) ⟨H2,α2,vb,kb,yb,zb,c,oI',ub,kub,J7,g.trans g2,A2,⟨oI',p2'.1,hoc,hod⟩,by rw[hbo];exact h1,by rw[hbo];exact h2,r1,r2.mono g2,r3,r4.mono g2⟩⟩
end
noncomputable def Aap:Option Addr->List (Str×aF)
 | none=>[]
 | some f=>[(dC "key",.ref f)]
theorem Afr(a:aF):∀ kf,argsOk "min" ⟨[a],Aap kf⟩
 | none=>by unfold argsOk;kernel_rfl
 | some f=>by unfold argsOk;kernel_rfl
section
variable {X:Cx}{pins:List (Addr×Obj)}{σ:L2.St}{H:Hp}{s:aL}{α:List Addr}{L:UH}{kf:Option Addr}{m:U->Option U}{us ks:List U}{n:Nat}{bt:Nat->Nat->Bool}{l:Addr}{Q:aF->aL->Prop}{E:aF->aL->Prop}
theorem Vl(hh:X.A.handled=none)(hu:X.A.in1.units+4 < cLine)(hL:Ao L n=some us)(hal:α[n]? = some l)(hlk:us.length=ks.length)(hne:0 < us.length)(KR:∀ f,kf=some f->Qu X X.A.in1 σ H α L f m)(hm:∀ (i:Nat) (u z:U),us[i]? = some u->ks[i]? = some z->Anq kf m u=some z)
  (hbt:∀ (i j:Nat) (a b:U),ks[i]? = some a->ks[j]? = some b->ltU a b=some (bt i j)) (I:L2.Inv X pins σ H s) (Ab:Abs X.K H α L)
  (hQ:∀ (s':aL) (H':Hp) (α':List Addr) (v:aF) (y:V) (u:U),L2.Inv X pins σ H' s'->Gr H α H' α'->Abs X.K H' α' L->us[Cd bt (us.length - 1)]? = some u->L2.RelV y v->RepU X.K H' α' u y->Q v s') :
  wpAny (model X.prog X.w) X.A (call (.builtin "min") [.ref l] (Aap kf)) Q E s:=by
 have hname:(toString "min" ++ toString ".loop" : String) = "min.loop" := by decide
 obtain ⟨b0,ys0,e0,sq0,rl0⟩:=Iq Ab hL (show RepU X.K H α (.ref n) (.ref l) by unfold RepU;exact ⟨l,hal,rfl⟩)
 cases e0
 obtain ⟨its,rv,pl,hz⟩:=I.list sq0
 have hls:=pl.isList
 obtain ⟨ol,hol,_⟩:=id hls
 have hll:l < s.heap.objs.size:=bD hol
 refine kmk_tree PySem.F.kind_min PySem.F.plain_min PySem.F.entry_min (Afr _ kf) ?_
 show wpAny _ X.A.in1 (lK "min" ["key","default"] 0 ⟨[],Aap kf⟩ >>= _) _ _ s
 refine aC (wpAny_of_eq (show lK "min" ["key","default"] 0 ⟨[],Aap kf⟩=pure [kf.map dY,none] by cases kf <;> rfl) ?_)
 refine aC (aU ?_)
 refine aC (jR hls ?_)
 refine aC (kJ ?_ (eX _))
 rw[hname]
 have hkv:(kf.map dY).getD eM=W5 kf:=by cases kf <;> rfl
 rw[hkv]
 have hS:(s.heap.push { cls:=.type "list_iterator",data:=.fields #[.ref l,.int 0 0] }).objs.size=s.heap.objs.size+1:=size_push' ..
 have hlI:l≠s.heap.objs.size:=bU hll
 have I1:L2.Inv X pins σ H { s with heap:=s.heap.push { cls:=.type "list_iterator",data:=.fields #[.ref l,.int 0 0] } }:=I.kept (t':=s.toks) fun b o e=>aE _ e
 have fI:Fx X pins H s.heap.objs.size:=I.fpOk (aQ _) (I.hok.fresh (aQ _))
 have fS:Fx X pins H (s.heap.push { cls:=.type "list_iterator",data:=.fields #[.ref l,.int 0 0] }).objs.size:=I1.fpOk (s:={ s with heap:=s.heap.push { cls:=.type "list_iterator",data:=.fields #[.ref l,.int 0 0] } }) (aQ _) (I1.hok.fresh (aQ _))
 have hSI:(s.heap.push { cls:=.type "list_iterator",data:=.fields #[.ref l,.int 0 0] }).objs.size≠s.heap.objs.size:=by rw[hS];exact iJ (dZ _)
 have I2:L2.Inv X pins σ H { s with heap:=(s.heap.push { cls:=.type "list_iterator",data:=.fields #[.ref l,.int 0 0] }).push (seqObj "list" #[] 0) }:=I1.kept (t':=s.toks) fun b o e=>aE _ e
 have gI:((s.heap.push { cls:=.type "list_iterator",data:=.fields #[.ref l,.int 0 0] }).push (seqObj "list" #[] 0)).get? s.heap.objs.size=some { cls:=.type "list_iterator",data:=.fields #[.ref l,.int 0 0] }:=
  aE _ (bC _ rfl)
 have gS:((s.heap.push { cls:=.type "list_iterator",data:=.fields #[.ref l,.int 0 0] }).push (seqObj "list" #[] 0)).get? (s.heap.push { cls:=.type "list_iterator",data:=.fields #[.ref l,.int 0 0] }).objs.size=some (seqObj "list" #[] 0):=bC _ rfl
 refine aU ⟨iS eQ _,?_⟩
 obtain ⟨its2,rv2,pl2,_⟩:=I2.list sq0
 have hls2:=pl2.isList
 have hsz:its2.toArray.size=its2.length:=aS ..
 have hn2:0 < its2.length:=by rw[<- rv2.length,<- rl0.length];exact hne
 generalize hSS:(s.heap.push { cls:=.type "list_iterator",data:=.fields #[.ref l,.int 0 0] }).objs.size=S at fS hSI gS
 generalize hII:s.heap.objs.size=It at fI hSI gI hlI
 generalize hHH:(s.heap.push { cls:=.type "list_iterator",data:=.fields #[.ref l,.int 0 0] }).push (seqObj "list" #[] 0)=hp at gI gS I2 hls2
 have W:=qE (prog:=X.prog) (w:=X.w) (A:=X.A.in1) hh It l hlI its2.toArray
 show jT _ _ (.builtin "min.loop" ⟨[.ref It,W5 kf,.ref S],[]⟩) _ ({ s with heap:=hp }:aL)
 refine hV jW ?_
 rw[fA eQ _]
 show wpAny _ X.A.in1 (seqItems? (.ref S) >>= _) _ _ _
 refine aC (eU gS rfl ?_)
 show wpAny _ X.A.in1 (tryCatch (pyNext (.ref It)) _ >>= _) _ _ _
 refine aC (iI (W.item 0 _ _ _ (by rw[hsz];exact hn2) ⟨⟨_,gI,rfl,rfl⟩,hls2⟩ fun v h' tk' hP hst' hk'=>?_))
 have hv:its2[0]? = some v:=by simpa using hP
 obtain ⟨oI',hoI',hoc,hod⟩:=id hst'.1
 have hS':=hk' S _ (by simpa using hSI) gS
 have J4:L2.Inv X pins σ H { s with heap:=h',toks:=tk' }:=I2.turned (fun b o hb e=>hk' b o (by simpa using hb) e) fI.1 fI.2.1 fI.2.2.2.1 fI.2.2.2.2.1 fI.2.2.2.2.2
 have pin2:∀ (oS oI:Obj) (H':Hp) (s':aL),L2.Inv X pins σ H' s'->H' S=none->H' It=none->s'.heap.get? S=some oS->s'.heap.get? It=some oI->(∀ v,oS.data≠.cell v)->(∀ v,oI.data≠.cell v)->L2.Inv X ((S,oS)::(It,oI)::pins) σ H' s':=by
  intro oS oI H' s' J n1 n2 g1 g2 d1 d2
  refine J.pins_of fun q hq=>?_
  rcases bE.mp hq with rfl | hq
  ·exact ⟨g1,n1,fS.2.1,fS.2.2.1,d1⟩
  ·rcases bE.mp hq with rfl | hq
   ·exact ⟨g2,n2,fI.2.1,fI.2.2.1,d2⟩
   ·exact J.pin q (aT _ hq)
 have J6:=pin2 (seqObj "list" #[] 0) oI' H { s with heap:=h',toks:=tk' } J4 fS.1 fI.1 hS' hoI' (fun v z=>by cases z) (fun v z=>by rw[hod] at z;cases z)
 obtain ⟨u,hu1⟩:∃ u,us[0]? = some u:=⟨us[0],aI (by omega)⟩
 obtain ⟨zk,hz1⟩:∃ z,ks[0]? = some z:=⟨ks[0],aI (by omega)⟩
 obtain ⟨y,hy,ry⟩:=rl0.get hu1
 obtain ⟨v2,hv2,rvy⟩:=rv2.get hy
 rw[hv] at hv2;cases hv2
 have hmm:=hm 0 u zk hu1 hz1
 cases kf
 case' none=>(
  dsimp only[W5]
  refine aC (dM (Q:=fun val s''=>∃ (H2:Hp) (α2:List Addr) (z:V),L2.Inv X ((S,seqObj "list" #[] 0)::(It,oI')::pins) σ H2 s''/\Gr H α H2 α2/\Abs X.K H2 α2 L/\L2.RelV z val/\RepU X.K H2 α2 zk z) (E:=fun _ _=>False) (by
   cases hmm
   exact aU ⟨H,α,y,J6,.refl _ _,Ab,rvy,ry⟩) (fun val s'' hv=>?_) (fun _ _ h=>h.elim)))
 case' some f=>(
  dsimp only[W5]
  refine aC (iI (eC (dM (Q:=fun val s''=>∃ (H2:Hp) (α2:List Addr) (z:V),L2.Inv X ((S,seqObj "list" #[] 0)::(It,oI')::pins) σ H2 s''/\Gr H α H2 α2/\Abs X.K H2 α2 L/\L2.RelV z val/\RepU X.K H2 α2 zk z) (E:=fun _ _=>False) (dM (KR f rfl _ H α _ u zk y v J6 (.refl _ _) Ab ry rvy hmm) (fun x s'' he=>by
   obtain ⟨z,H2,J7,rz,α2,g2,A2,r5⟩:=he
   exact ⟨H2,α2,z,J7,g2,A2,rz,r5⟩) fun _ _ hF=>hF.elim) (fun val s'' hv=>?_) (fun _ _ h=>h.elim)))))
 all_goals
  obtain ⟨H2,α2,z,J7,g2,A2,rz,r5⟩:=hv
  have p1':=J7.pin (S,seqObj "list" #[] 0) (aT _ (aW ..))
  have p2':=J7.pin (It,oI') (aT _ (aM _ (aW ..)))
  have J8:L2.Inv X pins σ H2 s'':=J7.pins_of fun q hq=>J7.pin q (aT _ (aM _ (aM _ hq)))
  have s1:=dI s''.heap S (bZ fun _=>#[v,val])
  obtain ⟨c2,hc2⟩:∃ c2,(s''.heap.update S (bZ fun _=>#[v,val])).get? S=some (seqObj "list" #[v,val] c2):=⟨_,hU p1'.1 fun _=>#[v,val]⟩
  show wpAny _ X.A.in1 (updateSeq S (fun _=>#[v,val]) >>= _) _ _ _
  refine aC ?_
  refine kP p1'.1 rfl ?_
  rw[hname]
  have J9:L2.Inv X pins σ H2 { s'' with heap:=s''.heap.update S (bZ fun _=>#[v,val]) }:=J8.turned (t':=s''.toks) (fun b o hb e=>(s1.2 b hb).trans e) p1'.2.1 fS.2.1 fS.2.2.2.1 fS.2.2.2.2.1 fS.2.2.2.2.2
  have gI2:=(s1.2 It hSI.symm).trans p2'.1
  refine aU ⟨iS eQ _,?_⟩
  refine Adz (m:=m) hh hu hL hal hlk KR hm hbt hlI hSI fI fS (fun s' H' α' v y u J g A e r1 r2=>hQ s' H' α' v y u J g A e r1 r2) _ 0 _ rfl hne ⟨H2,α2,v,val,y,z,c2,oI',u,zk,pin2 _ oI' H2 _ J9 p1'.2.1 p2'.2.1 hc2 gI2 (fun v z=>by cases z) (fun v z=>by rw[hod] at z;cases z),g2,A2,⟨oI',gI2,hoc,hod⟩,hu1,hz1,rvy,ry.mono g2,rz,r5⟩
end
end MR
namespace MR
open PySem PySem.Spec PyProof.Rows PySem.Calls L2 SO
variable {X:Cx}{σ:L2.St}{H:Hp}{s:aL}{f:Addr}{α:List Addr}{L:UH}
section
variable {pins:List (Addr×Obj)}
theorem Aha{a:Addr}{m:U->Option U}{c0:Nat}{vs:List aF}{ys:List V}{us:List U}{ks:List (List Int)}
  (KR:Qu X X.A.in1.in1 σ H α L f m) (I:L2.Inv X pins σ H s) (fa:Fx X pins H a)
  (ho:s.heap.get? a=some (seqObj "list" vs.toArray c0)) (rv:Vals ys vs) (ru:RepL X.K H α us ys) (Ab:Abs X.K H α L) (hl:ks.length=vs.length) (hk1:∀ t∈ks,t≠[])
  (hk:∀ (i:Nat) (u:U) (t:List Int),us[i]? = some u->ks[i]? = some t->m u=some (Ux t)) (h64:vs.length < 64) :
  wpAny (model X.prog X.w) X.A.in1.in1 (ksk_tree a (.ref f) true) (fun fin s'=>fin = .done (.ret .none)/\∃ H' α',L2.Inv X pins σ (upd H' a (.lst (((sortN (ltK ks.reverse) vs.length).map fun i=>ys.reverse.getD i .non).reverse))) s'/\H' a=none/\Gr H α H' α'/\Abs X.K H' α' L) X.xe s:=by
 have hyl:=rv.length
 have hul:=ru.length
 have z1:vs.toArray.size<=sizeLine:=by rw[aS,dU];omega
 obtain ⟨e1,h1⟩:∃ e1,(s.heap.update a (bZ fun _=>(#[]:Array aF))).get? a=some (seqObj "list" #[] e1):=⟨_,hU ho fun _=>#[]⟩
 have hlt:a < s.heap.objs.size:=bD ho
 have sb:=dI s.heap a (bZ fun _=>(#[]:Array aF))
 have I1:L2.Inv X pins σ H { s with heap:=s.heap.update a (bZ fun _=>(#[]:Array aF)) }:=I.turned (t':=s.toks) (fun b o hb e=>(sb.2 b hb).trans e) fa.1 fa.2.1 fa.2.2.2.1 fa.2.2.2.2.1 fa.2.2.2.2.2
 have hs1:(s.heap.update a (bZ fun _=>(#[]:Array aF))).objs.size=s.heap.objs.size:=Heap.size_update ..
 generalize hA:s.heap.update a (bZ fun _=>(#[]:Array aF))=hp1 at h1 I1 hs1
 have I2:L2.Inv X pins σ H { s with heap:=hp1.push { cls:=.type "tuple",data:=.seq vs.toArray } }:=I1.kept (t':=s.toks) fun b o e=>aE _ e
 have h2:(hp1.push { cls:=.type "tuple",data:=.seq vs.toArray }).get? a=some (seqObj "list" #[] e1):=aE _ h1
 have hs2:(hp1.push { cls:=.type "tuple",data:=.seq vs.toArray }).objs.size=s.heap.objs.size+1:=by rw[dH,hs1]
 generalize hB:hp1.push { cls:=.type "tuple",data:=.seq vs.toArray } = hp2 at I2 h2 hs2
 have I3:L2.Inv X pins σ H { s with heap:=hp2.push { cls:=.type "list",data:=.seq (iC []) } }:=I2.kept (t':=s.toks) fun b o e=>aE _ e
 have h3:(hp2.push { cls:=.type "list",data:=.seq (iC []) }).get? a=some (seqObj "list" #[] e1):=aE _ h2
 have hkS:(hp2.push { cls:=.type "list",data:=.seq (iC []) }).get? hp2.objs.size=some (seqObj "list" #[] 0):=bC _ rfl
 have fk:Fx X pins H hp2.objs.size:=I2.fpOk (s:={ s with heap:=hp2 }) (aQ _) (I2.hok.fresh (aQ _))
 have hne:hp2.objs.size≠a:=by rw[hs2];exact iJ (mP hlt)
 generalize hC:hp2.push { cls:=.type "list",data:=.seq (iC []) } = hp3 at I3 h3 hkS
 generalize hS:hp2.objs.size=kS at hkS fk hne
 unfold ksk_tree
 refine aC (qZ ho rfl (aC (jI ho rfl ?_ z1 (eX _))))
 rw[hA]
 refine aC (pI (s:={ s with heap:=hp1 }) h1 rfl (aC (pF ?_ (by show vs.length<=_;rw[dU];omega))))
 show wpAny _ _ _ _ _ ({ s with heap:=hp1.push { cls:=.type "tuple",data:=.seq vs.toArray } }:aL)
 rw[hB]
 refine aC (kJ ?_ (eX _))
 show wpAny _ _ _ _ _ ({ s with heap:=hp2.push { cls:=.type "list",data:=.seq (iC []) } }:aL)
 rw[hC]
 show wpAny _ _ (holding _ (ksk_rest a (.ref f) true vs.toArray e1 (.ref hp2.objs.size))) _ _ _
 rw[hS]
 refine eC ?_
 unfold ksk_rest
 refine aC (lZ ?_)
 rw[<- Array.forIn_toList]
 have pin2:∀ (kv:List aF) (e:Nat) (H':Hp) (s':aL),L2.Inv X pins σ H' s'->H' kS=none->H' a=none->s'.heap.get? kS=some (seqObj "list" kv.toArray e)->s'.heap.get? a=some (seqObj "list" #[] e1)->L2.Inv X ((kS,seqObj "list" kv.toArray e)::(a,seqObj "list" #[] e1)::pins) σ H' s':=by
  intro kv e H' s' J n1 n2 g1 g2
  refine J.pins_of fun q hq=>?_
  rcases bE.mp hq with rfl | hq
  ·exact ⟨g1,n1,fk.2.1,fk.2.2.1,fun v z=>by cases z⟩
  ·rcases bE.mp hq with rfl | hq
   ·exact ⟨g2,n2,fa.2.1,fa.2.2.1,fun v z=>by cases z⟩
   ·exact J.pin q (aT _ hq)
 refine aC (ksk_fold (fun j s'=>∃ (H':Hp) (α':List Addr) (kv:List aF) (kx:List V) (e:Nat),L2.Inv X ((kS,seqObj "list" kv.toArray e)::(a,seqObj "list" #[] e1)::pins) σ H' s'/\Gr H α H' α'/\Abs X.K H' α' L/\Vals kx kv/\RepL X.K H' α' ((ks.take j).map Ux) kx) vs 0 _
  ⟨H,α,[],[],0,pin2 [] 0 H _ I3 fk.1 fa.1 hkS h3,.refl _ _,Ab,.nil,.nil⟩ ?step ?done)
 case step=>
  rintro j x s' hx ⟨H',α',kv,kx,e,J,g,A',rk,rr⟩
  simp only[tY] at rr ⊢
  have hj:j < vs.length:=(aJ.mp hx).1
  obtain ⟨t,ht⟩:∃ t,ks[j]? = some t:=⟨ks[j],aI (by omega)⟩
  obtain ⟨y,hy⟩:∃ y,ys[j]? = some y:=⟨ys[j],aI (by omega)⟩
  obtain ⟨x',hx',rx⟩:=rv.get hy
  rw[hx] at hx';cases hx'
  obtain ⟨u,hu,ry⟩:=ru.get' hy
  have hkl:=rr.length
  have hkl2:=rk.length
  rw[aV,gF] at hkl
  refine aC (mZ (dM (KR _ H' α' _ u (Ux t) y x J g A' (ry.mono g) rx (hk j u t hu ht)) (fun v s'' hv=>?_) fun _ _ hF=>hF.elim))
  obtain ⟨v',H2,J2,rv',α2,g2,A2,r2⟩:=hv
  dsimp only
  have p1:=J2.pin (kS,seqObj "list" kv.toArray e) (aT _ (aW ..))
  have p2:=J2.pin (a,seqObj "list" #[] e1) (aT _ (aM _ (aW ..)))
  have J3:L2.Inv X pins σ H2 s'':=J2.pins_of fun q hq=>J2.pin q (aT _ (aM _ (aM _ hq)))
  have sb2:=dI s''.heap kS (bZ (·.push v))
  obtain ⟨e2,he2⟩:∃ e2,(s''.heap.update kS (bZ (·.push v))).get? kS=some (seqObj "list" (kv.toArray.push v) e2):=⟨_,hU p1.1 (·.push v)⟩
  have J4:L2.Inv X pins σ H2 { s'' with heap:=s''.heap.update kS (bZ (·.push v)) }:=J3.turned (t':=s''.toks) (fun b o hb e=>(sb2.2 b hb).trans e) p1.2.1 fk.2.1 fk.2.2.2.1 fk.2.2.2.2.1 fk.2.2.2.2.2
  refine aC (jI p1.1 rfl ?_ (by rw[aS,dU];omega) (by rw[Array.size_push,aS,dU];omega))
  have hpush:kv.toArray.push v=(kv++[v]).toArray:=by simp
  rw[hpush] at he2
  refine aU ⟨rfl,H2,α2,kv++[v],kx++[v'],e2,pin2 (kv++[v]) e2 H2 _ J4 p1.2.1 p2.2.1 he2 ((sb2.2 a (eP hne)).trans p2.1),g.trans g2,A2,rk.append (.cons rv' .nil),?_⟩
  have htk:ks.take (j+1)=ks.take j++[t]:=by rw[iB,ht];rfl
  rw[htk,kY]
  exact (rr.mono g2).append (.cons r2 .nil)
 case done=>
  rintro s' ⟨H',α',kv,kx,e,J,g,A',rk,rr⟩
  have htk:ks.take (0+vs.length)=ks:=gC (by omega)
  rw[htk] at rr
  have hkl:=rr.length
  have hkl2:=rk.length
  rw[aV] at hkl
  have hkv:kv.length=vs.length:=by omega
  have p1:=J.pin (kS,seqObj "list" kv.toArray e) (aT _ (aW ..))
  have p2:=J.pin (a,seqObj "list" #[] e1) (aT _ (aM _ (aW ..)))
  have J3:L2.Inv X pins σ H' s':=J.pins_of fun q hq=>J.pin q (aT _ (aM _ (aM _ hq)))
  refine aC (qZ p1.1 rfl ?_)
  have hat:∀ i,i < kv.length->∃ (b:Addr) (n:Int) (t:List Int) (ws:List aF),kv[i]? = some (.ref b)/\ks.getD i []=n::t/\Vals ((n::t).map V.int) ws/\mJ s'.heap b ws.toArray:=by
   intro i hi
   obtain ⟨t,ht⟩:∃ t,ks[i]? = some t:=⟨ks[i],aI (by omega)⟩
   obtain ⟨y,hy,ry⟩:=rr.get (i:=i) (u:=Ux t) (by rw[bO,ht];rfl)
   obtain ⟨v,hv,rx⟩:=rk.get hy
   unfold Ux RepU at ry
   obtain ⟨b,xs,rfl,sq,rl⟩:=ry
   cases rx
   have hxs:=Gp rl (Aa4 t)
   rw[hxs] at sq
   obtain ⟨ws,r2,it,_⟩:=J3.tuple sq
   cases t with
   | nil=>exact absurd rfl (hk1 [] (bV ht))
   | cons n t=>exact ⟨b,n,t,ws,hv,by rw[aP,ht];rfl,r2,it⟩
  have hatR:∀ i,i < kv.length->∃ (b:Addr) (n:Int) (t:List Int) (ws:List aF),kv.reverse[i]? = some (.ref b)/\ks.reverse.getD i []=n::t/\Vals ((n::t).map V.int) ws/\mJ s'.heap b ws.toArray:=by
   intro i hi
   obtain ⟨b,n,t,ws,q1,q2,r2,it⟩:=hat (kv.length - 1 - i) (by omega)
   refine ⟨b,n,t,ws,by rw[eS hi];exact q1,?_,r2,it⟩
   rw[aP,eS (by omega),<- aP,show ks.length - 1 - i=kv.length - 1 - i by omega]
   exact q2
  have rvr:Vals ys.reverse vs.reverse:=Vals.rev rv
  have hvrl:vs.reverse.length=vs.length:=bW
  have hyrl:ys.reverse.length=ys.length:=bW
  generalize hvr:vs.reverse=vr at rvr hvrl
  generalize hyr:ys.reverse=yr at rvr hyrl
  generalize hkz:ks.reverse=kz at hatR
  generalize hkr:kv.reverse=kr at hatR
  have fin:∀ (q:Array Nat) (st:SortSt),q.toList=sortN (ltK kz) vs.length->(arrOf st).map (·.2)=(G1 vr q).toArray->failedOf st=none->wpAny (model X.prog X.w) X.A.in1.in1 (ksk_tail a true e1 (.ref kS) st)
    (fun fin s'=>fin = .done (.ret .none)/\∃ H' α',L2.Inv X pins σ (upd H' a (.lst (((sortN (ltK kz) vs.length).map fun i=>yr.getD i .non).reverse))) s'/\H' a=none/\Gr H α H' α'/\Abs X.K H' α' L) X.xe s':=by
   intro q st hq hout hfail
   have hperm:=sortN_perm (n:=vs.length) (Qe kz)
   have hlen:(G1 vr q).length=vs.length:=by unfold G1;rw[hq,aV,hperm.length_eq,cD]
   have sb1:=dI s'.heap kS (bZ fun _=>(#[]:Array aF))
   have J4:L2.Inv X pins σ H' { s' with heap:=s'.heap.update kS (bZ fun _=>(#[]:Array aF)) }:=J3.turned (t':=s'.toks) (fun b o hb e=>(sb1.2 b hb).trans e) p1.2.1 fk.2.1 fk.2.2.2.1 fk.2.2.2.2.1 fk.2.2.2.2.2
   have ga:(s'.heap.update kS (bZ fun _=>(#[]:Array aF))).get? a=some (seqObj "list" #[] e1):=(sb1.2 a (eP hne)).trans p2.1
   generalize hG:s'.heap.update kS (bZ fun _=>(#[]:Array aF))=g1 at J4 ga
   have sb3:=dI g1 a (bZ fun _=>(G1 vr q).reverse.toArray)
   obtain ⟨c2,hc2⟩:∃ c2,(g1.update a (bZ fun _=>(G1 vr q).reverse.toArray)).get? a=some (seqObj "list" (G1 vr q).reverse.toArray c2):=⟨_,hU ga fun _=>(G1 vr q).reverse.toArray⟩
   have hlt':∀ k∈sortN (ltK kz) vs.length,k < yr.length:=fun k hk=>by
    have:=bL.mp (hperm.mem_iff.mp hk)
    omega
   have hrel:Vals (((sortN (ltK kz) vs.length).map fun i=>yr.getD i .non).reverse) (G1 vr q).reverse:=by
    refine Vals.rev ?_
    unfold G1
    rw[hq]
    have:∀ js:List Nat,(∀ k∈js,k < yr.length)->Vals (js.map fun i=>yr.getD i .non) (js.map fun i=>vr.getD i eM):=by
     intro js
     induction js with
     | nil=>intro _;exact .nil
     | cons k js ih=>
      intro hk
      have hk0:=hk k (aW ..)
      obtain ⟨v,e3,rr⟩:=rvr.get (aI hk0)
      refine .cons ?_ (ih fun x hx=>hk x (aM _ hx))
      show L2.RelV (yr.getD k .non) (vr.getD k eM)
      rw[aP,aP,aI hk0,e3]
      exact rr
    exact this _ hlt'
   have hsz:(((sortN (ltK kz) vs.length).map fun i=>yr.getD i .non).reverse).length<=sizeLine:=by
    rw[bW,aV,hperm.length_eq,cD,dU];omega
   have J5:L2.Inv X pins σ (upd H' a (.lst (((sortN (ltK kz) vs.length).map fun i=>yr.getD i .non).reverse))) { s' with heap:=g1.update a (bZ fun _=>(G1 vr q).reverse.toArray) }:=
    Inv.adopt (s:={ s' with heap:=g1 }) (t':=s'.toks) J4 ⟨p2.2.1,fa.2⟩ (fun b o hb e=>(sb3.2 b hb).trans e) ⟨hsz,(G1 vr q).reverse,c2,hrel,hc2⟩
   unfold ksk_tail
   refine aC (jI p1.1 rfl ?_ (by rw[aS,dU];omega) (eX _))
   rw[hG]
   refine aC (iU (aC (pI (s:={ s' with heap:=g1 }) ga rfl ?_)))
   have hout':(if true=true then ((arrOf st).map (·.2)).reverse else (arrOf st).map (·.2))=(G1 vr q).reverse.toArray:=by rw[if_pos rfl,hout];simp
   rw[hout',hfail]
   refine aC (jI (s:={ s' with heap:=g1 }) ga rfl ?_ (eX _) (by rw[aS,bW,hlen,dU];omega))
   simp only[bne_self_eq_false,bH,if_false]
   exact aU ⟨rfl,H',α',J5,p2.2.1,g,A'⟩
  have hzip:(kv.toArray.zip vs.toArray).reverse=kr.toArray.zip vr.toArray:=by
   rw[<- hkr,<- hvr]
   apply tT
   ·simp
   ·intro i i1 i2
    simp at i1
    simp only[Array.getElem_reverse,Array.getElem_zip,List.getElem_toArray,List.getElem_reverse,Array.size_zip,aS]
    have e1:min kv.length vs.length - 1 - i=kv.length - 1 - i:=by omega
    have e2:min kv.length vs.length - 1 - i=vs.length - 1 - i:=by omega
    congr 1 <;> congr 1
  have hkrl:kr.length=vr.length:=by rw[<- hkr,<- hvr,bW,bW];exact hkv
  unfold ksk_end
  simp only[if_true]
  refine aC (lZ ?_)
  rw[hzip]
  by_cases hsmall:vs.toArray.size < 2
  ·rw[if_pos hsmall,if_pos hsmall]
   have hs2:vs.length < 2:=by simpa using hsmall
   refine aC (aU ?_)
   rw[sP]
   refine aC (aU (fin (iC (aX vr.length)) (wM general' (kr.toArray.zip vr.toArray) #[] 7 none) ?_ ?_ rfl))
   ·unfold sortN;rw[if_pos hs2,hvrl]
   ·rw[Qw]
    show (kr.toArray.zip vr.toArray).map (·.2)=vr.toArray
    apply tT
    ·simp;omega
    ·intro i i1 i2;simp
  ·rw[if_neg hsmall,if_neg hsmall]
   have hs2:2<=vs.length:=by simp at hsmall;omega
   have mk:∀ (m:Nat),m<=kv.length->∃ fs:List aF,sT s'.heap (kv.drop (kv.length - m)) fs/\fs.length=m/\∀ v∈fs,tR (model X.prog X.w) s'.heap (typeOf v) (.type "int"):=by
    intro m
    induction m with
    | zero=>intro _;exact ⟨[],by rw[qX,rY];exact pN,rfl,by simp⟩
    | succ m ih=>
     intro hm
     obtain ⟨fs,k1,k2,k3⟩:=ih (by omega)
     obtain ⟨b,n,t,ws,q1,_,r2,it⟩:=hat (kv.length - (m+1)) (by omega)
     obtain ⟨o,ho',hcls,nn,hd⟩:=it
     rw[aO] at r2
     cases r2 with
     | @cons _ v0 _ vr rr rs=>
      obtain ⟨tk,rfl⟩:=rr
      have hdrop:kv.drop (kv.length - (m+1)) = .ref b::kv.drop (kv.length - m):=by
       have hlt2:kv.length - (m+1) < kv.length:=by omega
       rw[mF hlt2]
       have:kv[kv.length - (m+1)] = .ref b:=by
        rw[aI hlt2] at q1;exact bP q1
       rw[this]
       congr 2;omega
      refine ⟨.int n tk::fs,?_,by simp[k2],fun v hv=>?_⟩
      ·rw[hdrop]
       exact pJ ho' hcls hd rfl k1
      ·rcases bE.mp hv with e | e
       ·subst e
        exact rA
       ·exact k3 v e
   obtain ⟨fs,k1,k2,k3⟩:=mk kv.length (aQ _)
   rw[eW,pH] at k1
   refine aC (rZ k1 (by omega) k3 rfl ?_)
   have ask:∀ (i j:Nat) (C:Bool->aL->Prop),i < vs.length->j < vs.length->C (ltK kz i j) s'->jE X.prog X.w X.A.in1.in1 (tuples' (gJ "int" != gJ "tuple")) kr i j C s':=by
    intro i j C hi hj hC
    obtain ⟨b,n,t,ws,q1,q2,r2,it⟩:=hatR i (by omega)
    obtain ⟨b',n',t',ws',q1',q2',r2',it'⟩:=hatR j (by omega)
    obtain ⟨o,ho1,_,c1,hd⟩:=it
    obtain ⟨o',ho2,_,c2,hd'⟩:=it'
    have g1:kr.getD i eM = .ref b:=by rw[aP,q1];rfl
    have g2:kr.getD j eM = .ref b':=by rw[aP,q1'];rfl
    unfold jE
    rw[g1,g2]
    refine tK ho1 hd ho2 hd' ?_
    have hl1:=r2.length
    have hl2:=r2'.length
    rw[aV] at hl1 hl2
    refine Wx (n::t) (n'::t') ws ws' 0 r2 r2' ?_ ?_
    ·rw[aS,aS,<- hl1,<- hl2]
    ·rw[<- q2,<- q2'];exact hC
   have on:=(O0 (n:=vr.length) (Qe kz) (by omega)).run.wp (cmp:=jE X.prog X.w X.A.in1.in1 (tuples' (gJ "int" != gJ "tuple")) kr) (s:=s') (Q:=fun q s2=>q=Yv (ltK kz) (mE vr.length)/\s2=s') (fun i j C hi hj hC=>ask i j C (by omega) (by omega) hC) fun q h=>⟨h,rfl⟩
   refine aC (dM (PySem.W.kat_run (ks:=kr) (vs:=vr) (Q:=fun st s2=>∃ q:Array Nat,arrOf st=q.map (PySem.W.kas_item (kr.toArray.zip vr.toArray))/\failedOf st=none/\q=Yv (ltK kz) (mE vr.length)/\s2=s') hkrl (by omega) (by omega) (fun q st s2 _ q1 q2 q3=>⟨q,q1,q2,q3⟩) on) ?_ fun _ _ e=>e)
   rintro ⟨⟨⟩,st⟩ s2 ⟨q,q1,q2,q3,rfl⟩
   refine fin q st ?_ (PySem.W.kat_snds hkrl q1) q2
   unfold sortN
   rw[if_neg (by omega),q3,hvrl]
end
theorem Q2{β γ:Type}{f:β->Option γ}:∀ {l:List β} {r:List γ},mapO f l=some r->l.length=r.length
 | [],r,h=>by simp only[mapO] at h;cases h;rfl
 | a::l,r,h=>by
  simp only[mapO] at h
  obtain ⟨x,_,h⟩:=aB.mp h
  obtain ⟨y,hy,h⟩:=aG.mp h
  subst h
  simp[Q2 hy]
theorem Rp{β γ:Type}{f:β->Option γ}:∀ {l:List β} {r:List γ} {i:Nat} {a:β} {b:γ},mapO f l=some r->l[i]? = some a->r[i]? = some b->f a=some b
 | [],r,i,a,b,h,h1,h2=>by simp at h1
 | c::l,r,i,a,b,h,h1,h2=>by
  simp only[mapO] at h
  obtain ⟨x,hx,h⟩:=aB.mp h
  obtain ⟨y,hy,h⟩:=aG.mp h
  subst h
  cases i with
  | zero=>simp at h1 h2;subst h1;subst h2;exact hx
  | succ i=>exact Rp hy (by simpa using h1) (by simpa using h2)
section
variable {prog:cU}{w:eD}{A:dO}{E:aF->aL->Prop}
theorem V0{Q:List aF->aL->Prop}{r:Addr}{a b c:Int}{t u v:Tok}{n:Nat}(hh:A.handled=none)(hr:IsRange s.heap r a b c t u v)(hsmall:iW.Range.small a b c=true)
  (hn:nC a b c=n) (hlen:n<=2 ^ 24)
  (hQ:∀ (h':Heap) (tk:Nat) (acc:Array aF),(∀ b o,s.heap.get? b=some o->h'.get? b=some o)->ItemsOf (fun i v=>∃ t,v = .int (a+i * c) t) acc n->Q acc.toList { s with heap:=h',toks:=tk }):wpAny (model prog w) A (collect (.ref r)) Q E s:=by
 unfold collect
 refine aC (wpAny_runValue (hV PySem.F.entry_proto_collect ?_))
 rw[fA PySem.F.plain_proto_collect _]
 show wpAny _ A.in1 (newList [] >>= fun l=>again (.builtin "list.__iadd__" ⟨[l,.ref r],[]⟩)) _ _ s
 refine aC (dG ?_)
 refine aU ⟨iS nI _,hV PySem.F.entry_list_iadd ?_⟩
 rw[fA nI _]
 have hS₁:(s.heap.push { cls:=.type "list",data:=.seq ([]:List aF).toArray }).get? s.heap.objs.size=some { cls:=.type "list",data:=.seq ([]:List aF).toArray }:=bC _ rfl
 show wpAny _ A.in1 (iW.List.listExtendWith (.ref s.heap.objs.size) (.ref r) (.ref s.heap.objs.size)) _ _ _
 refine wpAny_extend_range (R:=wants _ E) (s:={ s with heap:=s.heap.push { cls:=.type "list",data:=.seq ([]:List aF).toArray } }) hh (aE _ hr) hsmall hn hlen s.heap.objs.size _ _ hS₁ fun h' tk acc' c' hk hS' hacc=>?_
 show wpAny _ A (load s.heap.objs.size >>= _) _ _ _
 refine aC (sW hS' ?_)
 exact aU (hQ h' tk acc' (fun b o e=>hk b o (bU (bD e)) (aE _ e)) hacc)
end
abbrev Ae1(j:Int)(t u v:Tok):Obj:={ cls:=.type "range",data:=.fields #[.int 0 t,.int j u,.int 1 v] }
section
variable {pins:List (Addr×Obj)}
theorem Ai9{r:Addr}{m:U->Option U}{j:Int}{t u v:Tok}{us:List U}{ks:List (List Int)}{Q:VK}(hc:X.calm=true)
  (KR:Qu X X.A.in1.in1 σ H α L f m) (I:L2.Inv X pins σ H s) (hr:H r=some (Iw (Ae1 j t u v))) (h0:-(2 ^ 62)<=j) (h64:j < 64) (Ab:Abs X.K H α L) (hus:us=Bc 0 j.toNat) (hl:ks.length=us.length) (hk1:∀ t∈ks,t≠[])
  (hk:∀ (i:Nat) (u:U) (t:List Int),us[i]? = some u->ks[i]? = some t->m u=some (Ux t))
  (q:∀ (b:Addr) (H':Hp) (α':List Addr),H' b=none->Gr H α H' α'->Abs X.K H' α' L->Q (.ref b) (upd H' b (.lst (((sortN (ltK ks.reverse) us.length).map fun i=>(Mb 0 j.toNat).reverse.getD i .non).reverse)))) :
  wpAny (model X.prog X.w) X.A (call (.builtin "sorted") [.ref r] [(dC "key",.ref f),(dC "reverse",.bool true)]) (EP X pins σ Q) X.xe s:=by
 have hh:=I.ok.hd hc
 have hro:=(I.hok r _ hr).1
 have hul:us.length=j.toNat:=by rw[hus];unfold Bc;rw[aV,cD]
 refine call_function_entry_kw kind_sorted plain_sorted entry_sorted (ksk_s2 _ _ _) ?_
 unfold iW.«sorted»
 refine aC (m:=checkCount "sorted" 1 1 _) (aU (aC (V0 (a:=0) (b:=j) (c:=1) (n:=j.toNat) hh hro (small_one (by omega) (by omega) h0 (by omega)) (by rw[pO];split <;> omega) (by omega) fun h1 tk1 acc hk1' hacc=>aC (kJ ?_ ?y2))))
 case y2=>rw[dU,cN,hacc.1];omega
 have hv:=Td hacc
 have J0:L2.Inv X pins σ H { s with heap:=h1,toks:=tk1 }:=I.kept hk1'
 have e2:(h1.push (seqObj "list" acc.toList.toArray 0)).get? h1.objs.size=some (seqObj "list" acc.toList.toArray 0):=bC _ rfl
 have J1:L2.Inv X pins σ H { s with heap:=h1.push (seqObj "list" acc.toList.toArray 0),toks:=tk1 }:=J0.kept (s:={ s with heap:=h1,toks:=tk1 }) (t':=tk1) fun b o e=>aE _ e
 have fp:Fx X pins H h1.objs.size:=J0.fpOk (s:={ s with heap:=h1,toks:=tk1 }) (aQ _) (J0.hok.fresh (aQ _))
 have hal:acc.toList.length=j.toNat:=by rw[cN];exact hacc.1
 refine aC (eC (wpAny_call_entry_kw slot_list_sort ⟨_,e2,rfl⟩ entry_list_sort ?body (ksk_l2 _ _ _)))
 case body=>
  show wpAny (model X.prog X.w) X.A.in1.in1 (iW.«list.sort» ⟨[.ref h1.objs.size],[(dC "key",.ref f),(dC "reverse",.bool true)]⟩) _ _ _
  rw[ksk_t2]
  refine dM (Aha KR J1 fp e2 hv (by rw[hus];exact T7 0 _) Ab (by omega) hk1 hk (by omega)) (fun fin s' ⟨hf,H',α',J,hn,g,A'⟩=>?_) fun _ _ e=>e
  subst hf
  refine ⟨_,rfl,aU ⟨_,rfl,.ref h1.objs.size,_,J,rfl,?_⟩⟩
  have:=q h1.objs.size H' α' hn g A'
  rw[hul] at this
  rw[hal]
  exact this
noncomputable def Akb(ta:TA):TE:=fun σ H Q=>ta σ H fun vs H1=>∃ j:Int,vs=[.int j]/\∀ r t u v,H1 r=none->Q (.ref r) (upd H1 r (Iw (Ae1 j t u v)))
theorem Ajp{a:Expr}{ta:TA}{p' pos':Pos}(hg:Gl X "range")(hm:X.mg "range" = none)(ha:PA X [a] ta)(hs:bS [a] X.env=[(false,eval a X.env)]:=by rfl):PE X (.Call (.Name "range" p') [a] [] pos') (Akb ta):=by
 intro pins s σ H Q I h
 refine eF (Fv I hg hm sX (cZ (thn (ha pos' pins s σ H _ I h) fun us s1 ⟨vs,H1,I1,r1,q1⟩=>?_) hs rfl))
 obtain ⟨j,rfl,q⟩:=q1
 obtain ⟨u,rfl,ru⟩:=Fe r1
 obtain ⟨t,rfl⟩:=ru
 refine qI ?_
 exact ⟨.ref s1.heap.objs.size,_,I1.laid (o:=Iw (Ae1 j _ _ _)) (fun b o e=>aE _ e) (aQ _) (Pa (bC _ rfl)),rfl,q _ _ _ _ (I1.hok.fresh (aQ _))⟩
end
structure LamX(X:Cx)(nm:Str):Prop where
 b:LamB X.K X.mg X.base
 mem:nm∈Fu
 tab:∃ c P,dF X.K nm=some (c,P)/\X.env.code = .ref c
 q:X.env.qual++("<lambda>" : Str)=Lj nm
noncomputable def Y4(X:Cx)(scope:iZ)(cl:List (Str×Addr)):Prop:=(∀ x c,cl.lookup x=some c->X.env.cells.lookup x=some c)/\∀ y∈scope.names,y.2 = .free->∃ c,cl.lookup y.1=some c
noncomputable def Apt(X:Cx)(q:Str)(params:kD)(body:Expr)(scope:iZ):TE:=fun σ H Q=>∃ α L,Abs X.K H α L/\∀ f cl H',Y4 X scope cl->Gr H α H' α->Abs X.K H' α L->LamAt H' q params body scope cl f->Q (.ref f) H'
theorem Aay{K:aH}{nm:Str}{oc:aF}{od:Option Addr}{fd:dA}{sl:Array (Option aF)}(h:(dF K nm).isSome=true)(a:bM K bI nm=some (some (.ref f)))(l:K.lookup f=some ⟨oc,od,.func fd,sl⟩):∃ c P,dF K nm=some (c,P)/\fd.code = .ref c:=by
 obtain ⟨⟨c,P⟩,e⟩:=jF.mp h
 refine ⟨c,P,e,?_⟩
 unfold dF at e
 rw[a] at e
 simp only[l] at e
 split at e
 ·rename_i c' hc
  split at e
  ·split at e
   ·cases e;exact hc
   ·cases e
  ·cases e
 ·cases e
variable {k:Nat}
section
variable {P:cU}{w:eD}{K:aH}{mg:Str->Option aF}{base:Heap}
theorem Fun.okFL{x qual:Str}{st:Stmt}{fd:dA}{N ps:List Str}{body:FS}(F:Fun K x qual st f fd)(S:FnScope N ps (Am st))
  (hbody:∀ (cdv:aF) (A:dO) (outer:List jQ) (s:aL) (H:Hp) (E:XK),fd.code=cdv->Room k (A.deeper (envOfC qual (Am st) s.heap.objs.size f cdv))->R0 (Vu CX0 P w K mg base N qual (Am st) f cdv A outer s H E).nox (Bp st) body) :
  FnOk P w K mg base CX0 (k+1) f fd ps (spF K ps.length (fnU N.length ps.length body)):=by
 obtain ⟨oc,od,kV,doc,pm,an,cdv0,ct,osl,rfl,lk,hcd⟩:=F.ex
 refine Ajy lk hcd S (fun vs H Q E ⟨α,L,us,A,r,hl,_,_,_,_⟩=>by rw[<- r.length];exact hl) fun A outer s H vs Q E hr h=>?_
 obtain ⟨α,L,us,Ab,r,hl,u,L',e,q⟩:=h
 refine ⟨_,(hbody cdv0 A outer s H E rfl hr).nox,?_⟩
 unfold fnU at e
 rw[if_pos hl] at e
 obtain ⟨⟨fl,L1⟩,e1,e⟩:=aB.mp e
 refine ⟨α,_,L,Ab,RepS.start N r,fl,L1,e1,?_⟩
 cases fl with
 | rt w=>cases e;exact q
 | nx δ=>cases e;exact fun σ' H' α' g' A' S'=>q .non H' α' g' A' rfl
 | bk δ=>cases e
 | ct δ=>cases e
end
variable {u:U}{δ:UE}{p pos:Pos}
section
variable {nm:Str}{params:kD}{body:Expr}{scope:iZ}{lpos:Pos}{N':List Str}{ix:List (Option Nat)}{pn:Str}{fb:FE}
theorem Af3(LX:LamX X nm)(S:LamSc X params body scope N' ix pn)(hdef:defaultsOf params X.env=([],[])):PE X (.Lambda params body scope lpos) (Apt X (Lj nm) params body scope):=by
 intro pins s σ H Q I h
 obtain ⟨α,L,A,q⟩:=h
 obtain ⟨c,P,ht,hc⟩:=LX.tab
 obtain ⟨cl,hcl,h1,h2⟩:=S.sc.clos I.ok
 refine thn (Agj LX.b LX.mem ht hc LX.q hdef hcl I A) fun v s' hq=>?_
 obtain ⟨f,H',rfl,I',g,A',la⟩:=hq
 exact ⟨.ref f,H',I',rfl,q f cl H' ⟨h1,h2⟩ g A' la⟩
noncomputable def LamP(X:Cx)(A:dO)(N':List Str)(q:Str)(scope:iZ)(k:Nat)(body:Expr)(fb:FE):Prop:=∀ (f c:Addr) (cl:List (Str×Addr)) (s:aL) (H:Hp),Room k (Oj X A N' q scope f c cl s H).A->PEF (Oj X A N' q scope f c cl s H) body fb
open Classical in
noncomputable def Lk(ix:List (Option Nat))(fb:FE)(δ:UE)(L:UH)(u:U):Option U:=(fb (Va ix u δ) L).bind fun r=>if r.2=L then some r.1 else none
theorem Ai4{z:U}(h:Lk ix fb δ L u=some z):fb (Va ix u δ) L=some (z,L):=by
 unfold Lk at h
 obtain ⟨⟨y,L'⟩,e,h⟩:=aB.mp h
 simp only at h
 split at h
 ·rename_i hL
  cases h
  subst hL
  exact e
 ·cases h
theorem Aag{z:U}(h:fb (Va ix u δ) L=some (z,L)):Lk ix fb δ L u=some z:=by
 unfold Lk
 rw[h]
 simp
theorem LamP.key{A:dO}{q:Str}{cl:List (Str×Addr)}(P:LamP X A N' q scope k body fb)(S:LamSc X params body scope N' ix pn)(hr:Room (k+1) A)(hA:A.frames=X.A.frames)(hcl:Y4 X scope cl)
  (Sg:RepS X.K H α δ σ) (la:LamAt H q params body scope cl f):Qu X A σ H α L f (Lk ix fb δ L):=by
 intro pins H' α' s u z y x I g Ab ru rx hm
 exact Ahb S hr hA hcl.1 hcl.2 (fun c s H hr=>P f c cl s H hr) I Ab (Sg.mono g) (la.stay g.st) ru rx (Ai4 hm)
noncomputable def Ht(ks:List U):Nat:=Cd (fun i j=>(ltU (ks.getD i .non) (ks.getD j .non)).getD false) (ks.length - 1)
noncomputable def Vf(ks:List U):Bool:=ks.all fun a=>ks.all fun b=>(ltU a b).isSome
theorem Vy{ks:List U}(h:Vf ks=true):∀ (i j:Nat) (a b:U),ks[i]? = some a->ks[j]? = some b->ltU a b=some ((ltU (ks.getD i .non) (ks.getD j .non)).getD false):=by
 intro i j a b ha hb
 have h1:=bN.mp h a (bV ha)
 have h2:=bN.mp h1 b (bV hb)
 rw[aP,aP,ha,hb]
 simp only[iX]
 cases e:ltU a b with
 | none=>rw[e] at h2;cases h2
 | some c=>rfl
noncomputable def Nd(ix:List (Option Nat))(fb:FE)(fe:FE):FE:=fun δ L=>(fe δ L).bind fun p=>match p.1 with
 | .ref n=>(Ao p.2 n).bind fun us=>(mapO (Lk ix fb δ p.2) us).bind fun ks=>if 0 < us.length/\Vf ks=true then some (us.getD (Ht ks) .non,p.2) else none
 | _=>none
theorem Ach{e:Expr}{fe:FE}{kpos:Pos}(LX:LamX X nm)(S:LamSc X params body scope N' ix pn)(hdef:defaultsOf params X.env=([],[]))(P:LamP X X.A.in1 N' (Lj nm) scope k body fb)(hr:Room (k+2) X.A)(hc:X.calm=true)
  (hg:Gl X "min") (hm:X.mg "min" = none) (he:PEF X e fe) (hs:bS [e] X.env=[(false,eval e X.env)]:=by rfl) :
  PEF X (.Call (.Name "min" p) [e] [⟨some (dC "key"),.Lambda params body scope lpos,kpos⟩] pos) (Nd ix fb fe):=by
 intro pins s σ H Q I h
 obtain ⟨α,δ,L,A,Sg,z,L3,ez,q⟩:=h
 unfold Nd at ez
 obtain ⟨⟨u,L1⟩,e1,ez⟩:=aB.mp ez
 simp only at ez
 split at ez
 ·rename_i n
  obtain ⟨us,hus,ez⟩:=aB.mp ez
  obtain ⟨ks,hks,ez⟩:=aB.mp ez
  split at ez
  ·rename_i hcc
   cases ez
   refine eF (Fv I hg hm oQ ?_)
   refine callWith_kw ?_ (by rw[hs];rfl) (by rw[hs];rfl) (by rfl)
   have hpa:PAF X [e] (Aa fe Af):=Ac he Ae (hs:=by rw[hs];rfl)
   have hA:(Aa fe Af) δ L=some ([.ref n],L3):=by
    show (fe δ L).bind _=_
    rw[e1];rfl
   refine thn (hpa pos pins s σ H (fun vs H1=>∃ α1,Gr H α H1 α1/\Abs X.K H1 α1 L3/\RepL X.K H1 α1 [.ref n] vs) I ⟨α,δ,L,A,Sg,_,L3,hA,fun vs H1 α1 g1 A1 r1=>⟨α1,g1,A1,r1⟩⟩) fun vs s1 ⟨xs,H1,I1,rx,α1,g1,A1,r1⟩=>?_
   refine thn (Uj (nm:=some (dC "key")) (kpos:=kpos) (Af3 LX S hdef) Af1 pos pins s1 σ H1 (fun zs H2=>∃ f cl,zs=[.ref f]/\Y4 X scope cl/\Gr H1 α1 H2 α1/\Abs X.K H2 α1 L3/\LamAt H2 (Lj nm) params body scope cl f) I1 ⟨α1,L3,A1,fun f cl H2 h1 h2 h3 h4=>⟨f,cl,rfl,h1,h2,h3,h4⟩⟩) fun ws s2 ⟨zs,H2,I2,rz,f,cl,hz,hcl,g2,A2,la⟩=>?_
   subst hz
   obtain ⟨y,rfl,ry⟩:=r1.one
   unfold RepU at ry
   obtain ⟨l,hal,rfl⟩:=ry
   obtain ⟨v,rfl,rv⟩:=Fe rx
   cases rv
   obtain ⟨v2,rfl,rv2⟩:=Fe rz
   cases rv2
   have hlk:=Q2 hks
   refine Vl (kf:=some f) (m:=Lk ix fb δ L3) (bt:=fun i j=>(ltU (ks.getD i .non) (ks.getD j .non)).getD false) (I.ok.hd hc) (by have:=hr.un;show X.A.units+1+4 < cLine;omega) hus (g2.at hal) hlk hcc.1 (fun f' hf'=>?_) (fun i u z hu hz=>Rp hks hu hz) (Vy hcc.2) I2 A2 (fun s' H' α' v y u J g A' hu1 rv ru=>?_)
   ·cases hf'
    exact P.key S hr.in1 rfl hcl (Sg.mono (g1.trans g2)) la
   ·refine ⟨y,H',J,rv,q _ H' α' (g1.trans (g2.trans g)) A' ?_⟩
    have:us.getD (Ht ks) .non=u:=by
     unfold Ht
     rw[aP,<- hlk,hu1];rfl
    rw[this];exact ru
  ·cases ez
 ·cases ez
noncomputable def Og(fe:FE):FE:=fun δ L=>(fe δ L).bind fun p=>match p.1 with
 | .ref n=>(Ao p.2 n).bind fun us=>if 0 < us.length/\Vf us=true then some (us.getD (Ht us) .non,p.2) else none
 | _=>none
theorem Ug{e:Expr}{fe:FE}(hc:X.calm=true)(hu:X.A.units+64 < cLine)(hg:Gl X "min")(hm:X.mg "min" = none)(he:PEF X e fe)(hs:bS [e] X.env=[(false,eval e X.env)]:=by rfl) :
  PEF X (.Call (.Name "min" p) [e] [] pos) (Og fe):=by
 intro pins s σ H Q I h
 obtain ⟨α,δ,L,A,Sg,z,L3,ez,q⟩:=h
 unfold Og at ez
 obtain ⟨⟨u,L1⟩,e1,ez⟩:=aB.mp ez
 simp only at ez
 split at ez
 ·rename_i n
  obtain ⟨us,hus,ez⟩:=aB.mp ez
  split at ez
  ·rename_i hcc
   cases ez
   have hpa:PAF X [e] (Aa fe Af):=Ac he Ae (hs:=by rw[hs];rfl)
   have hA:(Aa fe Af) δ L=some ([.ref n],L3):=by
    show (fe δ L).bind _=_
    rw[e1];rfl
   refine eF (Fv I hg hm oQ ?_)
   refine kE (thn (hpa pos pins s σ H (fun vs H1=>∃ α1,Gr H α H1 α1/\Abs X.K H1 α1 L3/\RepL X.K H1 α1 [.ref n] vs) I ⟨α,δ,L,A,Sg,_,L3,hA,fun vs H1 α1 g1 A1 r1=>⟨α1,g1,A1,r1⟩⟩) fun vs s1 ⟨xs,H1,I1,rx,α1,g1,A1,r1⟩=>?_) hs rfl
   obtain ⟨y,rfl,ry⟩:=r1.one
   unfold RepU at ry
   obtain ⟨l,hal,rfl⟩:=ry
   obtain ⟨v,rfl,rv⟩:=Fe rx
   cases rv
   refine Vl (kf:=none) (m:=fun _=>none) (ks:=us) (bt:=fun i j=>(ltU (us.getD i .non) (us.getD j .non)).getD false) (I.ok.hd hc) (by show X.A.units+1+4 < cLine;omega) hus hal rfl hcc.1 (fun f' hf'=>by cases hf') (fun i u z hu hz=>by rw[hu] at hz;exact hz) (Vy hcc.2) I1 A1 (fun s' H' α' v y u J g A' hu1 rv ru=>?_)
   refine ⟨y,H',J,rv,q _ H' α' (g1.trans g) A' ?_⟩
   have:us.getD (Ht us) .non=u:=by
    unfold Ht
    rw[aP,hu1];rfl
   rw[this];exact ru
  ·cases ez
 ·cases ez
noncomputable def K5(ix:List (Option Nat))(fb:FE)(ga:FA):FE:=fun δ L=>(ga δ L).bind fun p=>match p.1 with
 | [.int j]=>(mapO (fun u=>(Lk ix fb δ p.2 u).bind Wd) (Bc 0 j.toNat)).bind fun ks=>if (-(2 ^ 62)<=j/\j < 64)/\(ks.all fun t=>!t.isEmpty)=true then
   some (.ref p.2.length,p.2++[.lst (((sortN (ltK ks.reverse) j.toNat).map fun i=>(Bc 0 j.toNat).reverse.getD i .non).reverse)]) else none
 | _=>none
theorem Ahj{t:List Int}(h:Wd u=some t):u=Ux t:=by
 have h1:mapO Wd [u]=some [t]:=by simp only[mapO,h,aA,aD]
 have h2:=Aai h1
 simpa using h2
theorem Ym{a:Expr}{ga:FA}{p' kpos kpos2 pos' bpos:Pos}{kd:Nat}(LX:LamX X nm)(S:LamSc X params body scope N' ix pn)(hdef:defaultsOf params X.env=([],[]))(P:LamP X X.A.in1.in1 N' (Lj nm) scope k body fb)(hr:Room (k+3) X.A)(hc:X.calm=true)
  (hg:Gl X "sorted") (hm:X.mg "sorted" = none) (hg2:Gl X "range") (hm2:X.mg "range" = none) (ha:PAF X [a] ga) (hs:bS [a] X.env=[(false,eval a X.env)]:=by rfl)
  (hs2:bS [.Call (.Name "range" p') [a] [] pos'] X.env=[(false,eval (.Call (.Name "range" p') [a] [] pos') X.env)]:=by rfl) :
  PEF X (.Call (.Name "sorted" p) [.Call (.Name "range" p') [a] [] pos'] [⟨some (dC "key"),.Lambda params body scope lpos,kpos⟩,⟨some (dC "reverse"),.Constant (.bool true) kd bpos,kpos2⟩] pos) (K5 ix fb ga):=by
 intro pins s σ H Q I h
 obtain ⟨α,δ,L,A,Sg,z,L3,ez,q⟩:=h
 unfold K5 at ez
 obtain ⟨⟨us,L1⟩,e1,ez⟩:=aB.mp ez
 simp only at ez
 split at ez
 ·rename_i j
  obtain ⟨ks,hks,ez⟩:=aB.mp ez
  split at ez
  ·rename_i hcc
   cases ez
   refine eF (Fv I hg hm nA ?_)
   refine callWith_kw ?_ (by rw[hs2];rfl) (by rw[hs2];rfl) (by rfl)
   have hpr:PE X (.Call (.Name "range" p') [a] [] pos') (Akb (lA X.K ga)):=Ajp hg2 hm2 ha hs
   refine thn (Pb hpr Xx (hs:=hs2) pos pins s σ H (fun vs H1=>∃ α1 r t u v,vs=[.ref r]/\H1 r=some (Iw (Ae1 j t u v))/\Gr H α H1 α1/\Abs X.K H1 α1 L1) I ?_) fun vs s1 ⟨xs,H1,I1,rx,α1,r,t,u,v,hx,hr1,g1,A1⟩=>?_
   ·refine ⟨α,δ,L,A,Sg,_,L1,e1,fun vs H1 α1 g1 A1 r1=>?_⟩
    obtain ⟨y,rfl,ry⟩:=r1.one
    unfold RepU at ry
    subst ry
    refine ⟨j,rfl,fun r t u v hn=>?_⟩
    have g2:Gr H1 α1 (upd H1 r (Iw (Ae1 j t u v))) α1:=⟨⟨[],by simp⟩,.new hn _⟩
    exact ⟨α1,r,t,u,v,rfl,upd_same,g1.trans g2,⟨A1.len,A1.inj,fun i a o e1 e2=>(A1.rep i a o e1 e2).other g2 (.inr fun u q=>by rw[Aq (Ba q hn)];exact q),A1.tabs g2.st (Pe hn _)⟩⟩
   subst hx
   refine thn (Uj (nm:=some (dC "key")) (kpos:=kpos) (Af3 LX S hdef) (Uj (nm:=some (dC "reverse")) (kpos:=kpos2) (Akc (b:=true)) Af1) pos pins s1 σ H1 (fun zs H2=>∃ f cl,zs=[.ref f,.bl true]/\Y4 X scope cl/\Gr H1 α1 H2 α1/\Abs X.K H2 α1 L1/\LamAt H2 (Lj nm) params body scope cl f) I1 ⟨α1,L1,A1,fun f cl H2 h1 h2 h3 h4=>⟨f,cl,rfl,h1,h2,h3,h4⟩⟩) fun ws s2 ⟨zs,H2,I2,rz,f,cl,hz,hcl,g2,A2,la⟩=>?_
   subst hz
   obtain ⟨v1,rfl,rv1⟩:=Fe rx
   cases rv1
   obtain ⟨v2,v3,rfl,rv2,rv3⟩:=Sj rz
   cases rv2
   cases rv3
   have hlk:=Q2 hks
   have hlen:(Bc 0 j.toNat).length=j.toNat:=by unfold Bc;rw[aV,cD]
   refine Ai9 (m:=Lk ix fb δ L1) (us:=Bc 0 j.toNat) (ks:=ks) hc (P.key S hr.in1.in1 rfl hcl (Sg.mono (g1.trans g2)) la) I2 (g2.st.2 _ _ _ hr1) hcc.1.1 hcc.1.2 A2 rfl hlk.symm (fun t ht=>?_) (fun i u t hu ht=>?_) fun b H' α' hn g A'=>?_
   ·have:=bN.mp hcc.2 t ht
    intro z;rw[z] at this;simp at this
   ·obtain ⟨y,hy1,hy2⟩:=aB.mp (Rp (f:=fun u=>(Lk ix fb δ L1 u).bind Wd) hks hu ht)
    rw[hy1,Ahj hy2]
   ·have hperm:=sortN_perm (n:=j.toNat) (Qe ks.reverse)
    rw[hlen]
    have rl:RepL X.K H' α' (((sortN (ltK ks.reverse) j.toNat).map fun i=>(Bc 0 j.toNat).reverse.getD i .non).reverse) (((sortN (ltK ks.reverse) j.toNat).map fun i=>(Mb 0 j.toNat).reverse.getD i .non).reverse):=by
     refine RepL.reverse ?_
     have r2:RepL X.K H' α' (Bc 0 j.toNat).reverse (Mb 0 j.toNat).reverse:=(T7 0 _).reverse
     have hl2:(Bc 0 j.toNat).reverse.length=j.toNat:=by rw[bW,hlen]
     have:∀ js:List Nat,(∀ i∈js,i < j.toNat)->RepL X.K H' α' (js.map fun i=>(Bc 0 j.toNat).reverse.getD i .non) (js.map fun i=>(Mb 0 j.toNat).reverse.getD i .non):=by
      intro js
      induction js with
      | nil=>intro _;exact .nil
      | cons i js ih=>
       intro hj
       have hj0:=hj i (aW ..)
       obtain ⟨x,hx,rx'⟩:=r2.get (aI (by rw[hl2];exact hj0))
       refine .cons ?_ (ih fun x hx=>hj x (aM _ hx))
       show RepU X.K H' α' ((Bc 0 j.toNat).reverse.getD i .non) ((Mb 0 j.toNat).reverse.getD i .non)
       rw[aP,aP,aI (by rw[hl2];exact hj0),hx]
       exact rx'
     exact this _ fun i hi=>bL.mp (hperm.mem_iff.mp hi)
    obtain ⟨g3,A3,r3⟩:=A'.lst rl hn
    exact q _ _ _ (g1.trans (g2.trans (g.trans g3))) A3 r3
  ·cases ez
 ·cases ez
end
end MR
namespace MR
open PySem PySem.Spec PyProof.Rows L2
variable {X:Cx}{pins:List (Addr×Obj)}{σ:L2.St}{H H':Hp}{s:aL}{a:Addr}{kvs:List (Key×V)}{e:Expr}
section
theorem Inv.freeze{o:Obj}(I:L2.Inv X pins σ H s)(e:H a=some (.dK kvs))(ho:s.heap.get? a=some o):L2.Inv X pins σ (upd H a (.frz o (.dK kvs))) s:=by
 have tp:∀ b u,H b=some u->(∀ ks,u≠.dK ks)->upd H a (.frz o (.dK kvs)) b=some u:=fun b u q n=>by
  rw[Aq (fun z=>by subst z;rw[e] at q;cases q;exact n _ rfl)];exact q
 refine I.un (t':=s.toks) (h':=s.heap) ⟨fun b ob q n _ _=>q,fun b ob q n _ _=>⟨ob.slots,q⟩,fun b ob q n _=>?_,fun b ob q _=>⟨ob,q⟩,fun b xs q=>tp b _ q fun ks z=>(nomatch z),fun b ob u q=>tp b _ q fun ks z=>(nomatch z),fun b ps q=>⟨#[],by rw[tp b _ q fun ks z=>(nomatch z)];simp⟩⟩ fun b u q=>?_
 ·rw[Aq (fun z=>by subst z;rw[e] at n;cases n)];exact n
 ·have own:∀ c,H c=some (.own b)->upd H a (.frz o (.dK kvs)) c=some (.own b):=fun c z=>tp c _ z fun ks z=>(nomatch z)
  have tups:∀ c xs,H c=some (.tup xs)->upd H a (.frz o (.dK kvs)) c=some (.tup xs):=fun c xs z=>tp c _ z fun ks z=>(nomatch z)
  by_cases hb:b=a
  ·subst hb
   rw[upd_same] at q
   cases q
   exact ⟨ho,(I.hok b _ e).stay (fun _ _ _ z=>z) own tups⟩
  ·rw[Aq hb] at q
   exact (I.hok b u q).stay (fun _ _ _ z=>z) own tups
noncomputable def Thaw(H H' H2:Hp):Prop:=∀ b,H2 b=H' b\/∃ o vs,H' b=some (.frz o (.dK vs))/\H2 b=some (.dK vs)/\∀ o u,H b≠some (.frz o u)
theorem Thaw.stay{H2:Hp}(t:Thaw H H' H2){b:Addr}{u:Option HO}(e:H' b=u)(n:∀ o ks,u≠some (.frz o (.dK ks))):H2 b=u:=by
 rcases t b with z | ⟨o,vs,z,_⟩
 ·rw[z];exact e
 ·rw[e] at z;exact absurd z (n _ _)
theorem Inv.thaw{pins0:List (Addr×Obj)}{σ0:L2.St}{s0:aL}{H2:Hp}(I0:L2.Inv X pins0 σ0 H s0)(I:L2.Inv X pins σ H' s)(t:Thaw H H' H2):L2.Inv X pins σ H2 s:=by
 have nn:∀ b,H' b=none->H2 b=none:=fun b e=>t.stay e fun _ _ z=>(nomatch z)
 refine ⟨I.ok,I.os,I.bare,⟨I.base.keep,I.base.slot,fun b o e n hx=>nn b (I.base.free b o e n hx),I.base.there,fun b xs e=>t.stay (I.base.tups b xs e) fun _ _ z=>(nomatch z),fun b o u e=>?_,fun b ps e=>?_⟩,I.loc,I.cell,nn _ I.free,fun x c e=>nn _ (I.freeC x c e),fun p hp=>?_,fun a o e=>?_,I.len⟩
 ·have h0:=I0.base.frzs b o u e
  rcases t b with z | ⟨o',vs,_,_,z⟩
  ·rw[z];exact I.base.frzs b o u e
  ·exact absurd h0 (z _ _)
 ·obtain ⟨more,q⟩:=I.base.tbls b ps e
  exact ⟨more,t.stay q fun _ _ z=>(nomatch z)⟩
 ·obtain ⟨h1,h2,h3⟩:=I.pin p hp
  exact ⟨h1,nn _ h2,h3⟩
 ·have own:∀ c,H' c=some (.own a)->H2 c=some (.own a):=fun c z=>t.stay z fun _ _ z=>(nomatch z)
  have tups:∀ c xs,H' c=some (.tup xs)->H2 c=some (.tup xs):=fun c xs z=>t.stay z fun _ _ z=>(nomatch z)
  rcases t a with z | ⟨o',vs,z1,z2,_⟩
  ·rw[z] at e
   exact (I.hok a o e).stay (fun _ _ _ z=>z) own tups
  ·rw[z2] at e
   cases e
   exact (show ObjOk X.prog X.w H' s.heap a (.dK vs) from (I.hok a _ z1).2).stay (fun _ _ _ z=>z) own tups
theorem Ahu{t:TE}(h:PE X e t):PE X e (fun σ H Q=>t σ H fun x H'=>∃ H2,Thaw H H' H2/\Q x H2):=fun pins s σ H Q I q=>
 thn (h pins s σ H _ I q) fun v s1 zz=>by obtain ⟨x,H1,I1,r,H2,th,q⟩:=zz;exact ⟨x,H2,Inv.thaw I I1 th,r,q⟩
end
variable {K:aH}{α:List Addr}
section
mutual
theorem RepU.via(g:∀ a xs,SqT K H a xs->SqT K H' a xs):∀ (u:U) (v:V),RepU K H α u v->RepU K H' α u v
 | .non,_,h=>h
 | .bl _,_,h=>h
 | .int _,_,h=>h
 | .str _,_,h=>h
 | .tup l,v,h=>by
  unfold RepU at h ⊢
  obtain ⟨a,xs,e,s,r⟩:=h
  exact ⟨a,xs,e,g _ _ s,RepL.via g l xs r⟩
 | .ref n,v,h=>by
  unfold RepU at h ⊢
  exact h
theorem RepL.via(g:∀ a xs,SqT K H a xs->SqT K H' a xs):∀ (l:List U) (xs:List V),RepL K H α l xs->RepL K H' α l xs
 | [],xs,h=>h
 | u::l,xs,h=>by
  unfold RepL at h ⊢
  obtain ⟨x,r,e,h1,h2⟩:=h
  exact ⟨x,r,e,RepU.via g u x h1,RepL.via g l r h2⟩
end
end
noncomputable def Ky:Option HU->Option HU->Option HU
 | some (.dic _),some (.rod kvs)=>some (.dic kvs)
 | _,x=>x
noncomputable def Eg:UH->UH->UH
 | [],L'=>L'
 | _::_,[]=>[]
 | .dic _::L,.rod kvs::L'=>.dic kvs::Eg L L'
 | _::L,x::L'=>x::Eg L L'
theorem Mt:∀ (L L':UH),(Eg L L').length=L'.length
 | [],L'=>by unfold Eg;rfl
 | a::L,[]=>by unfold Eg;rfl
 | a::L,x::L'=>by
  cases a <;> cases x <;> simp[Eg,Mt L L']
theorem Qc:∀ (L L':UH) (n:Nat),(Eg L L')[n]? = Ky L[n]? L'[n]?
 | [],L',n=>by
  unfold Eg
  cases h:L'[n]? <;> simp[Ky]
 | a::L,[],n=>by
  unfold Eg
  cases h:(a::L)[n]? with
  | none=>simp[Ky]
  | some w=>cases w <;> simp[Ky]
 | a::L,x::L',0=>by
  cases a <;> cases x <;> simp[Eg,Ky]
 | a::L,x::L',n+1=>by
  have:=Qc L L' n
  cases a <;> cases x <;> simpa[Eg] using this
theorem Rn{a:Option HU}{x y:HU}(h:Ky a (some x)=some y):y.isRo=x.isRo/\(x.isRo=true->y=x):=by
 unfold Ky at h
 split at h
 ·rename_i h1 h2
  cases h2;cases h
  exact ⟨rfl,fun z=>(nomatch z)⟩
 ·cases h;exact ⟨rfl,fun _=>rfl⟩
theorem Ae3{α':List Addr}{L L':UH}(A:Abs K H α L)(g:Gr H α H' α')(A':Abs K H' α' L') :
  ∃ H2,Thaw H H' H2/\Gr H α H2 α'/\Abs K H2 α' (Eg L L')/\(∀ u v,RepU K H' α' u v->RepU K H2 α' u v):=by
 classical
 let T:Addr->Prop:=fun b=>∃ (n:Nat) (kvs kws:List (Key×U)),α'[n]? = some b/\L[n]? = some (HU.dic kvs)/\L'[n]? = some (HU.rod kws)
 let H2:Hp:=fun b=>if T b then (match H' b with | some (.frz o (.dK vs))=>some (.dK vs) | x=>x) else H' b
 have Tfrz:∀ b,T b->∃ o vs,H' b=some (.frz o (.dK vs)):=by
  rintro b ⟨n,kvs,kws,e1,e2,e3⟩
  obtain ⟨o,vs,q,_⟩:=A'.rep n b _ e1 e3
  exact ⟨o,vs,q⟩
 have Told:∀ b,T b->∃ vs,H b=some (.dK vs):=by
  rintro b ⟨n,kvs,kws,e1,e2,e3⟩
  obtain ⟨a,ea,vs,q,_⟩:=A.addr e2
  have:=g.at ea
  rw[e1] at this;cases this
  exact ⟨vs,q⟩
 have on:∀ b o vs,T b->H' b=some (.frz o (.dK vs))->H2 b=some (.dK vs):=fun b o vs t e=>by
  show (if T b then _ else _)=_
  rw[if_pos t,e]
 have off:∀ b,¬ T b->H2 b=H' b:=fun b t=>by
  show (if T b then _ else _)=_
  rw[if_neg t]
 have th:Thaw H H' H2:=fun b=>by
  by_cases t:T b
  ·obtain ⟨o,vs,e⟩:=Tfrz b t
   obtain ⟨ws,e0⟩:=Told b t
   exact .inr ⟨o,vs,e,on b o vs t e,fun o u z=>by rw[e0] at z;cases z⟩
  ·exact .inl (off b t)
 have sq:∀ a xs,SqT K H' a xs->SqT K H2 a xs:=fun a xs h=>by
  rcases h with (h | ⟨o,h⟩) | h
  ·exact .inl (.inl (th.stay h fun _ _ z=>(nomatch z)))
  ·exact .inl (.inr ⟨o,th.stay h fun _ _ z=>(nomatch z)⟩)
  ·exact .inr h
 have gr:Gr H α H2 α':=⟨g.pre,fun b xs q=>th.stay (g.st.1 b xs q) fun _ _ z=>(nomatch z),fun b o u q=>by
  rcases th b with z | ⟨_,_,_,_,z⟩
  ·rw[z];exact g.st.2 b o u q
  ·exact absurd q (z _ _)⟩
 refine ⟨H2,th,gr,⟨?_,fun i j a o o' e1 e2 e3 e4=>?_,fun i a o e1 e2=>?_,fun nm hnm c P e=>?_⟩,fun u v r=>RepU.via sq u v r⟩
 ·rw[Mt];exact A'.len
 ·rw[Qc] at e3 e4
  cases q1:L'[i]? with
  | none=>rw[q1] at e3;unfold Ky at e3;split at e3 <;> cases e3;rename_i z;cases z
  | some x1=>
   cases q2:L'[j]? with
   | none=>rw[q2] at e4;unfold Ky at e4;split at e4 <;> cases e4;rename_i z;cases z
   | some x2=>
    rw[q1] at e3
    rw[q2] at e4
    rw[(Rn e3).1,(Rn e4).1]
    exact A'.inj i j a x1 x2 e1 e2 q1 q2
 ·rw[Qc] at e2
  cases q1:L'[i]? with
  | none=>rw[q1] at e2;unfold Ky at e2;split at e2 <;> cases e2;rename_i z;cases z
  | some x1=>
   rw[q1] at e2
   have hr:=A'.rep i a x1 e1 q1
   by_cases t:T a
   ·obtain ⟨o',vs,ef⟩:=Tfrz a t
    obtain ⟨n,kvs,kws,n1,n2,n3⟩:=id t
    rcases A'.inj i n a x1 _ e1 n1 q1 n3 with z | z | z
    ·subst z
     rw[q1] at n3;cases n3
     rw[n2] at e2
     cases e2
     obtain ⟨o2,ws,f1,f2,f3⟩:=hr
     exact ⟨ws,on a o2 ws t f1,f2,RepL.via sq _ _ f3⟩
    ·have:=(Rn e2).2 z
     subst this
     cases o with
     | ro us=>
      obtain ⟨xs,f1,f2⟩:=hr
      refine ⟨xs,?_,RepL.via sq _ _ f2⟩
      rcases f1 with ⟨o2,f1⟩ | f1
      ·rw[ef] at f1;cases f1
      ·exact .inr f1
     | _=>cases z
    ·cases z
   ·have same:o=x1:=by
     unfold Ky at e2
     split at e2
     ·rename_i h1 h2
      cases h2
      exact absurd ⟨i,_,_,e1,h1,q1⟩ t
     ·cases e2;rfl
    subst same
    have ea:=off a t
    cases o with
    | lst us=>obtain ⟨xs,f1,f2⟩:=hr;exact ⟨xs,by rw[ea];exact f1,RepL.via sq _ _ f2⟩
    | ro us=>
     obtain ⟨xs,f1,f2⟩:=hr
     refine ⟨xs,?_,RepL.via sq _ _ f2⟩
     rcases f1 with ⟨o2,f1⟩ | f1
     ·exact .inl ⟨o2,by rw[ea];exact f1⟩
     ·exact .inr f1
    | dic kvs=>obtain ⟨vs,f1,f2,f3⟩:=hr;exact ⟨vs,by rw[ea];exact f1,f2,RepL.via sq _ _ f3⟩
    | rod kvs=>obtain ⟨o2,vs,f1,f2,f3⟩:=hr;exact ⟨o2,vs,by rw[ea];exact f1,f2,RepL.via sq _ _ f3⟩
    | ins C fs=>obtain ⟨Ca,dx,vs,n,f1,f2,f3⟩:=hr;exact ⟨Ca,dx,vs,n,by rw[ea];exact f1,f2,RepL.via sq _ _ f3⟩
    | exc C fr fs=>obtain ⟨Ca,dd,vs,n,f1,f0,f2,f3⟩:=hr;exact ⟨Ca,dd,vs,n,by rw[ea];exact f1,f0.stay fun b o ws q=>th.stay q fun _ _ z=>(nomatch z),f2,RepL.via sq _ _ f3⟩
 ·obtain ⟨ps,e,tr,k⟩:=A'.tab nm hnm c P e
  refine ⟨ps,th.stay e fun _ _ z=>(nomatch z),tr,fun pos cv ec=>?_⟩
  obtain ⟨c,oc,vs,t,e1,e2,r⟩:=k pos cv ec
  exact ⟨c,oc,vs,t,e1,th.stay e2 fun _ _ z=>(nomatch z),r⟩
noncomputable def Rj(f:FE):FE:=fun δ L=>(f δ L).map fun p=>(p.1,Eg L p.2)
theorem Aa9{f:FE}(h:PEF X e f):PEF X e (Rj f):=by
 refine PE.imp (Ahu h) ?_
 rintro σ H Q ⟨α,δ,L,A,S,z,L3,e,q⟩
 obtain ⟨⟨z',L1⟩,e1,e⟩:=aG.mp e
 cases e
 refine ⟨α,δ,L,A,S,z',L1,e1,fun v H1 α1 g1 A1 r1=>?_⟩
 obtain ⟨H2,th,g2,A2,r2⟩:=Ae3 A g1 A1
 exact ⟨H2,th,q v H2 α1 g2 A2 (r2 _ _ r1)⟩
structure DObj(P:cU)(w:eD)(o:Obj)(kvs:List (Key×V))(vs:List (Key×aF))(ep:Nat):Prop where
 rel:KV kvs vs
 at_:∀ (h:Heap) (d:Addr),h.get? d=some o->h.DictAt (Br P w) d vs ep
noncomputable def Itv(d:Addr)(o:Obj)(xs:List V):It:=⟨fun i H=>(∃ u,H d=some (.frz o u))/\i < xs.length,fun i H x H'=>H'=H/\xs[i]? = some x,fun i H=>(∃ u,H d=some (.frz o u))/\xs.length<=i⟩
theorem KV.at_:∀ {kvs:List (Key×V)} {vs:List (Key×aF)} {i:Nat} {p:Key×aF},KV kvs vs->vs[i]? = some p->∃ q,kvs[i]? = some q/\q.1=p.1/\RelV q.2 p.2
 | _,_,i,p,.nil,e=>by simp at e
 | _,_,0,p,.cons r t,e=>by simp at e;subst e;exact ⟨_,rfl,r⟩
 | _,_,i+1,p,.cons r t,e=>by simpa using KV.at_ (i:=i) t (by simpa using e)
variable {tg:Expr}
section
variable {P:cU}{w:eD}{d it:Addr}{o:Obj}{vs:List (Key×aF)}{ep:Nat}
theorem Adb(D:DObj P w o kvs vs ep):Turn P w K tg (Itv d o (kvs.map fun kv=>kv.2)) [it] it (fun i h=>h.IsValIter it d i vs.length ep) where
 mem:=by simp
 obj:=fun i h st b hb=>by
  have e:b=it:=by simpa using hb
  subst e
  obtain ⟨o,e,c,d⟩:=st
  exact ⟨o,e,fun v z=>by rw[d] at z;cases z⟩
 keep:=fun i h h' st k=>st.at fun o e=>k it (by simp) o e
 item:=by
  intro X hP hw hK hc i pins s σ H E I hf st hg
  subst hP hw hK
  obtain ⟨⟨u,hd⟩,hi⟩:=hg
  have da:=D.at_ s.heap d (I.hok d _ hd).1
  have hl:=KV.length D.rel
  have hi':i < vs.length:=by rw[<- hl];simpa using hi
  obtain ⟨⟨k,x⟩,hx⟩:∃ p,vs[i]? = some p:=⟨vs[i],by simp[hi']⟩
  obtain ⟨q,hq,q1,q2⟩:=KV.at_ D.rel hx
  obtain ⟨f0,f1,f2,f3,f4,f5⟩:=hf it (by simp)
  refine wpAny_pyNext_values_item st da hx fun h' st' sb=>?_
  have I1:L2.Inv X pins σ H { s with heap:=h' }:=I.turned (t':=s.toks) (fun b o hb e=>(sb.2 b hb).trans e) f0 f1 f3 f4 f5
  refine ⟨x,rfl,letGo_valiter (s':={ s with heap:=h' }) st' ⟨q.2,H,I1,q2,⟨rfl,?_⟩,st',fun b hb=>(hf b hb).1⟩⟩
  rw[bO,hq]
  rfl
 done:=by
  intro X hP hw hK hc i pins s σ H E I hf st hg
  subst hP hw hK
  obtain ⟨⟨u,hd⟩,hi⟩:=hg
  have da:=D.at_ s.heap d (I.hok d _ hd).1
  have hl:=KV.length D.rel
  obtain ⟨f0,f1,f2,f3,f4,f5⟩:=hf it (by simp)
  exact wpAny_pyNext_values_end (I.ok.hd hc) st da (eR (by rw[<- hl];simpa using hi)) fun h' eb=>⟨rfl,I.turned (t':=s.toks) (fun b o hb e=>eb b o hb e) f0 f1 f3 f4 f5⟩
 self:=fun _ _ _ _ _ st h=>wpAny_pyIter_valiter st h
end
section
variable {o:Expr}{apos cpos:Pos}{td:TE}
structure M0(X:Cx)(o:Expr)(m:Str)(apos cpos:Pos):Prop where
 base:attributeBase o m X.env (eval o X.env)=eval o X.env
 few:((backTo cpos (bS [] X.env)).all (fun x=>!x.1)&&(backToKw cpos (keywordEach [] X.env)).all (fun x=>x.1.isSome)
  && decide (([]:List Expr).length+([]:List jJ).length+(if ([]:List jJ).isEmpty then 0 else 1) < 30))=true
 line:(apos.endLine == cpos.line)=true
 trees:backTo cpos (bS [] X.env)=[]
theorem T9(I:L2.Inv X pins σ H s)(e:H a=some (.dK kvs)) :
  (a == sysModules)=false/\∃ ob vs ep,s.heap.get? a=some ob/\DObj X.prog X.w ob kvs vs ep:=by
 obtain ⟨z,hd,vs,rel,ob,es,ep,h1,h2⟩:=V2 I.hok e
 exact ⟨hd,ob,vs,ep,h1,rel,fun h d hg=>⟨ob,es,hg,h2⟩⟩
noncomputable def Ao1(td:TE):TI:=fun σ H R=>td σ H fun x H1=>∃ a kvs,x = .ref a/\H1 a=some (.dK kvs)/\∀ ob,R (Itv a ob (kvs.map fun kv=>kv.2)) (upd H1 a (.frz ob (.dK kvs)))
theorem Aix{ob:Obj}(I:L2.Inv X pins σ H s)(e:H a=some (.dK kvs)) :
  ∀ b∈[s.heap.objs.size],Fx X pins (upd H a (.frz ob (.dK kvs))) b:=fun b hb=>by
 have q:b=s.heap.objs.size:=by simpa using hb
 subst q
 have hn:=I.hok.fresh (aQ _)
 exact L2.Inv.fpOk I (aQ _) (by rw[Aq (fun z=>by rw[z,e] at hn;cases hn)];exact hn)
theorem Ai6(hl:PE X o td)(m:M0 X o "values" apos cpos):PI X tg (.Call (.Attribute o "values" apos) [] [] cpos) (Ao1 td):=by
 intro pins s σ H R I h
 refine rB m.base m.few m.line nJ iE nB (thn (hl pins s σ H _ I h) fun u s1 zz=>zz.elim fun x H1 I1 rx zq=>?_)
 obtain ⟨a,kvs,ex,ea,q⟩:=zq
 subst ex
 obtain rfl:u=dY a:=rx
 obtain ⟨t1,t2,_⟩:=Afz I1 (.inl ⟨kvs,.inl ea⟩)
 refine ⟨t1,t2,?_⟩
 rw[m.trees]
 obtain ⟨hd,ob,vs,ep,ho,D⟩:=T9 I1 ea
 have da:=D.at_ _ _ ho
 refine iM rfl (kZ ?_)
 refine call_meetsIn iE t1 mG (mC _) (rC (Br X.prog X.w) a hd) ⟨⟨vs,da.dictOf⟩,?_⟩
 have I2:L2.Inv X pins σ H1 { s1 with heap:=s1.heap.push { cls:=.type "dict_values",data:=.fields #[.ref a] } }:=I1.kept (t':=s1.toks) fun b o e=>aE _ e
 obtain ⟨hd,ob,vs,ep,ho,D⟩:=T9 I2 ea
 have da:=D.at_ _ _ ho
 refine wpAny_pyIter_values ⟨_,bC _ rfl,rfl,rfl⟩ da ?_
 have I3:=I2.kept (t':=s1.toks) (h':=(s1.heap.push { cls:=.type "dict_values",data:=.fields #[.ref a] }).push { cls:=.type "dict_valueiterator",data:=.fields #[.ref a,.int 0 0,.int vs.length 0,.int ep 0] }) fun b o e=>aE _ e
 exact ⟨_,[_],_,_,_,rfl,Inv.freeze I3 ea (aE _ ho),Adb D,⟨_,bC _ rfl,rfl,rfl⟩,Aix I2 ea,q ob⟩
end
noncomputable def kU:Key->U
 | .inl i=>.int i
 | .inr x=>.str x
noncomputable def Ih(kvs:List (Key×U)):List U:=kvs.map fun kv=>kv.2
noncomputable def M8(v:List (Key×U)->List U)(f:FE):FI:=fun δ L=>(f δ L).bind fun p=>match p.1 with
 | .ref n=>(Dg p.2 n).map fun kvs=>(.seq (v kvs),p.2.set n (.rod kvs))
 | _=>none
section
variable {L:UH}{ob:Obj}
theorem Ajf{u:HO}{us:List U}{xs:List V}(e:H a=some (.frz ob u))(r:RepL K H α us xs):Na K (Itv a ob xs) (.seq us) H α:=by
 intro H2 α2 L2 g A2 k
 have e2:=g.st.2 _ _ _ e
 have r2:=r.mono g
 refine ⟨fun w eu=>?_,fun eu=>?_⟩
 ·have eu:us[k]? = some w:=by simpa[IU.at] using eu
  obtain ⟨x,hx,rx⟩:=r2.get eu
  refine ⟨⟨⟨u,e2⟩,(aJ.mp hx).1⟩,?_⟩
  rintro y H3 ⟨rfl,hy⟩
  rw[hx] at hy;cases hy
  exact ⟨.refl _ _,A2,rx⟩
 ·have eu:us[k]? = none:=by simpa[IU.at] using eu
  exact ⟨⟨u,e2⟩,by rw[<- r2.length];exact cP.mp eu⟩
theorem Yp{n:Nat}{kvs:List (Key×U)}{vs:List (Key×V)}(A:Abs K H α L)(h:Dg L n=some kvs)(ea:α[n]? = some a)(e:H a=some (.dK vs))(r:RepKV K H α kvs vs)(ob:Obj) :
  Gr H α (upd H a (.frz ob (.dK vs))) α/\Abs K (upd H a (.frz ob (.dK vs))) α (L.set n (.rod kvs)):=by
 have g:Gr H α (upd H a (.frz ob (.dK vs))) α:=⟨⟨[],by simp⟩,.write e (by exact trivial) _⟩
 obtain ⟨A',_⟩:=A.put (o:=.frz ob (.dK vs)) (u:=.rod kvs) ea (Lx h) rfl rfl e (by exact trivial) ⟨ob,vs,upd_same,(r.mono g).1,(r.mono g).2⟩
 exact ⟨g,A'⟩
end
section
variable {o:Expr}{apos cpos:Pos}{fo:FE}
theorem Aby{v:List (Key×U)->List U}{J:Addr->Obj->List (Key×V)->It}(hJ:∀ (H:Hp) (α:List Addr) (a:Addr) (ob:Obj) (u:HO) (kvs:List (Key×U)) (vs:List (Key×V)),H a=some (.frz ob u)->RepKV X.K H α kvs vs->Na X.K (J a ob vs) (.seq (v kvs)) H α)
  {σ:L2.St} {H:Hp} {R:It->Hp->Prop} (h:lI X.K (M8 v fo) σ H R):lE X.K fo σ H fun x H1=>∃ a kvs,x = .ref a/\H1 a=some (.dK kvs)/\∀ ob,R (J a ob kvs) (upd H1 a (.frz ob (.dK kvs))):=by
 obtain ⟨α,δ,L,A,S,i,L3,e,q⟩:=h
 obtain ⟨⟨u,L1⟩,e1,e⟩:=aB.mp e
 simp only at e
 split at e
 ·obtain ⟨kvs,hd,e⟩:=aG.mp e
  cases e
  refine ⟨α,δ,L,A,S,_,_,e1,fun x H1 α1 g1 A1 r1=>?_⟩
  obtain ⟨a,vs,rfl,ea,ha,rk⟩:=Jz A1 hd r1
  refine ⟨a,vs,rfl,ha,fun ob=>?_⟩
  obtain ⟨g2,A2⟩:=Yp A1 hd ea ha rk ob
  exact q _ _ _ (g1.trans g2) A2 (hJ _ _ _ _ _ _ _ upd_same (rk.mono g2))
 ·cases e
noncomputable def Ani(a:Addr)(ob:Obj)(vs:List (Key×V)):It:=Itv a ob (vs.map fun kv=>kv.2)
theorem Vm(ho:PEF X o fo)(m:M0 X o "values" apos cpos):PIF X tg (.Call (.Attribute o "values" apos) [] [] cpos) (M8 Ih fo):=
 PI.imp (Ai6 ho m) fun _ _ _ h=>Aby (J:=Ani) (fun _ _ _ _ _ _ _ e r=>Ajf e r.2) h
theorem Vw(k:Key):∀ kvs:List (Key×U),(kvs.find? fun kv=>decide (kv.1=k)).isSome=kvs.any fun kv=>decide (kv.1=k)
 | []=>rfl
 | kv::kvs=>by
  rw[cW,gD]
  by_cases h:kv.1=k
  ·simp[h]
  ·simp only[h,decide_false,tM]
   exact Vw k kvs
theorem RepKV.some{kvs:List (Key×U)}{vs:List (Key×V)}(r:RepKV K H α kvs vs)(k:Key):(Gx kvs k).isSome=(Kw vs k).isSome:=by
 have h1:(Gx kvs k).isSome=kvs.any fun kv=>decide (kv.1=k):=by
  unfold Gx
  rw[qQ]
  exact Vw k kvs
 rw[h1,r.any,Qf]
end
noncomputable def Akk(kvs:List (Key×U))(k:Key):List (Key×U):=kvs.filter fun kv=>decide (kv.1≠k)
theorem RepKV.drop(k:Key):∀ {kvs:List (Key×U)} {vs:List (Key×V)},RepKV K H α kvs vs->RepKV K H α (Akk kvs k) (Yz vs k)
 | [],vs,r=>by
  have:=r.1
  cases vs with
  | nil=>exact .nil
  | cons _ _=>simp at this
 | kv::kvs,vs,r=>by
  obtain ⟨x,vs',rfl,rx,r'⟩:=r.cons
  unfold Akk Yz
  rw[kF,kF]
  by_cases h:kv.1=k
  ·simp only[h,ne_eq,not_true_eq_false,decide_false,bH,if_false]
   exact RepKV.drop k r'
  ·simp only[h,ne_eq,not_false_eq_true,decide_true,if_true]
   exact .mk rx (RepKV.drop k r')
end MR
namespace ZT
open PySem PySem.Spec PyProof.Rows PySem.W
open Sem (wp)
section
variable {prog:cU}{w:eD}{A:dO}{E:aF->aL->Prop}{s:aL}{T:String}{r d:Addr}{n:Nat}{P:Nat->aF->Prop}{OK:Heap->Prop}
end
end ZT
namespace MR
open PySem PySem.Spec PyProof.Rows PySem.Calls L2
theorem Abf:∀ {kvs:List (Key×V)} {vs:List (Key×aF)},KV kvs vs->Vals (kvs.map (·.2)) (vs.map (·.2))
 | _,_,.nil=>.nil
 | _,_,.cons r t=>.cons r.2 (Abf t)
theorem Xn{vs:List (Key×aF)}{acc:Array aF}(h:ItemsOf (fun i v=>∃ k,vs[i]? = some (k,v)) acc vs.length):acc.toList=vs.map (·.2):=
 PySem.W.kdl_vals_eq acc.toList (by rw[cN];exact h.1) fun j v e=>h.2 j v (by rw[<- fM];exact e)
section
variable {X:Cx}{o:Expr}{apos cpos p pos:Pos}{td:TE}{fo:FE}
noncomputable def Aln(td:TE):TE:=fun σ H Q=>td σ H fun x H1=>∃ a kvs,x = .ref a/\H1 a=some (.dK kvs)/\∀ l,H1 l=none->Q (.ref l) (upd H1 l (.lst (kvs.map (·.2))))
theorem Af8(hc:X.calm=true)(hgL:Gl X "list")(hmL:X.mg "list" = none)(hl:PE X o td)(m:M0 X o "values" apos cpos)
  (hs2:bS [.Call (.Attribute o "values" apos) [] [] cpos] X.env=[(false,eval (.Call (.Attribute o "values" apos) [] [] cpos) X.env)]:=by rfl):PE X (.Call (.Name "list" p) [.Call (.Attribute o "values" apos) [] [] cpos] [] pos) (Aln td):=by
 intro pins s σ H Q I h
 refine eF (Fv I hgL hmL Qh ?_)
 refine cZ ?_ hs2 rfl
 rw[hs2]
 refine lR ?_
 refine rB m.base m.few m.line nJ iE nB (thn (hl pins s σ H _ I h) fun u s1 zz=>zz.elim fun x H1 I1 rx zq=>?_)
 obtain ⟨a,kvs,ex,ea,q⟩:=zq
 subst ex
 obtain rfl:u=dY a:=rx
 obtain ⟨t1,t2,_⟩:=Afz I1 (.inl ⟨kvs,.inl ea⟩)
 refine ⟨t1,t2,?_⟩
 rw[m.trees]
 obtain ⟨hd,ob,vs,ep,ho,D⟩:=T9 I1 ea
 have da:=D.at_ _ _ ho
 refine iM rfl (kZ ?_)
 refine call_meetsIn iE t1 mG (mC _) (rC (Br X.prog X.w) a hd) ⟨⟨vs,da.dictOf⟩,?_⟩
 refine mL ?_
 have I2:L2.Inv X pins σ H1 { s1 with heap:=s1.heap.push { cls:=.type "dict_values",data:=.fields #[.ref a] } }:=I1.kept (t':=s1.toks) fun b o e=>aE _ e
 have hz:kvs.length<=sizeLine:=(V2 I1.hok ea).1
 have hl:=KV.length D.rel
 refine PySem.W.kdl_call (PySem.W.kdl_values (knd:=Br X.prog X.w) (kvs:=vs) (ep:=ep)) (I2.ok.hd hc) ⟨⟨_,bC _ rfl,rfl,rfl⟩,da.push _⟩ (by rw[<- hl];exact hz) fun h' tk acc c' hk hS hacc=>?_
 have hacc':=Xn hacc
 have hacc2:acc=(vs.map (·.2)).toArray:=by rw[<- hacc']
 have new:ObjOk X.prog X.w (upd H1 (s1.heap.push { cls:=.type "dict_values",data:=.fields #[.ref a] }).objs.size (.lst (kvs.map (·.2)))) h' (s1.heap.push { cls:=.type "dict_values",data:=.fields #[.ref a] }).objs.size (.lst (kvs.map (·.2))):=
  ⟨by rw[aV];exact hz,vs.map (·.2),c',Abf D.rel,by rw[hS,hacc2]⟩
 exact ⟨.ref _,_,I2.laid (t':=tk) hk (aQ _) new,rfl,q _ (I2.hok.fresh (aQ _))⟩
noncomputable def Uc(f:FE):FE:=fun δ L=>(f δ L).bind fun p=>match p.1 with
 | .ref n=>(Dg p.2 n).map fun kvs=>(.ref p.2.length,p.2++[.lst (Ih kvs)])
 | _=>none
theorem Ad1(hc:X.calm=true)(hgL:Gl X "list")(hmL:X.mg "list" = none)(hl:PEF X o fo)(m:M0 X o "values" apos cpos)
  (hs2:bS [.Call (.Attribute o "values" apos) [] [] cpos] X.env=[(false,eval (.Call (.Attribute o "values" apos) [] [] cpos) X.env)]:=by rfl):PEF X (.Call (.Name "list" p) [.Call (.Attribute o "values" apos) [] [] cpos] [] pos) (Uc fo):=by
 refine PE.imp (Af8 hc hgL hmL hl m hs2) ?_
 rintro σ H Q ⟨α,δ,L,A,S,u,L3,e,q⟩
 obtain ⟨⟨u,L1⟩,e1,e⟩:=aB.mp e
 simp only at e
 split at e
 ·obtain ⟨kvs,hd,e⟩:=aG.mp e
  cases e
  refine ⟨α,δ,L,A,S,_,_,e1,fun x H1 α1 g1 A1 r1=>?_⟩
  obtain ⟨a,vs,rfl,ea,ha,rk⟩:=Jz A1 hd r1
  refine ⟨a,vs,rfl,ha,fun l hl=>?_⟩
  obtain ⟨g',A',r'⟩:=A1.lst rk.2 hl
  exact q _ _ _ (g1.trans g') A' r'
 ·cases e
end
section
variable {X:Cx}{o:Expr}{apos cpos p pos:Pos}{td:TE}{fo:FE}
end
end MR
namespace MR
open PySem PySem.Spec PyProof.Rows L2
section
variable {X:Cx}{o i e f:Expr}{pos apos cpos:Pos}{fo fi fe fx:FE}
end
end MR
namespace MR
open PySem PySem.Spec PyProof.Rows PySem.Calls L2
section
variable {X:Cx}
end
end MR
namespace MR
open PySem PyProof.Rows L2
theorem P9:∀ L:UH,Eg L L=L
 | []=>by unfold Eg;rfl
 | x::L=>by cases x <;> simp[Eg,P9 L]
theorem Se:∀ (L L' x:UH),L.length=L'.length->Eg L (L'++x)=Eg L L'++x
 | [],[],x,_=>by simp[Eg]
 | [],y::L',x,h=>by simp at h
 | a::L,[],x,h=>by simp at h
 | a::L,y::L',x,h=>by
  have:=Se L L' x (by simpa using h)
  cases a <;> cases y <;> simp[Eg,this]
theorem Tg:∀ (L:UH) (n:Nat) (kvs:List (Key×U)),L[n]? = some (.dic kvs)->Eg L (L.set n (.rod kvs))=L
 | [],n,kvs,h=>by simp at h
 | x::L,0,kvs,h=>by
  simp at h;subst h
  simp[Eg,P9]
 | x::L,n+1,kvs,h=>by
  have:=Tg L n kvs (by simpa using h)
  cases x <;> simp[Eg,this]
theorem Ail{v:List (Key×U)->List U}{fo:FE}{δ:UE}{L:UH}{n:Nat}{kvs:List (Key×U)}(hf:fo δ L=some (.ref n,L))(hn:L[n]? = some (.dic kvs)):M8 v fo δ L=some (.seq (v kvs),L.set n (.rod kvs)):=by
 have hd:Dg L n=some kvs:=by unfold Dg;rw[hn]
 unfold M8
 rw[hf]
 simp only[aA,hd,aD]
theorem Sy{β:Type}{ix:List (Option Nat)}{v:List (Key×U)->List U}{fo:FE}{g:FG}{tt:Option FT}{fe:FE}{δ:UE}{L:UH}{n:Nat}{kvs:List (Key×U)}(as:List β)(rep:β->U)(f:β->Bool)(e:β->U)(E:UE->Prop)(hf:fo δ L=some (.ref n,L))(hn:L[n]? = some (.dic kvs))(hv:v kvs=as.map rep)(hl:as.length < 16777216)(h0:E (E2 ix δ))
  (step:∀ (a:β) δ (M:UH),a∈as->E δ->∃ δ1,g (rep a) δ M=some (δ1,M)/\E δ1/\∃ y,Hw tt δ1 M=some (f a,M++y)/\(f a=true->∃ z,fe δ1 (M++y)=some (e a,M++y++z))) :
  ∃ x,Rj (Bn ix (M8 v fo) g tt fe) δ L=some (.ref (L++x).length,L++x++[.lst ((as.filter f).map e)]):=by
 have hi:=Ail (v:=v) hf hn
 rw[hv] at hi
 obtain ⟨x,q⟩:=Bv (ix:=ix) (g:=g) (tt:=tt) (fe:=fe) as rep f e E hi (by simp[IU.size]) hl h0 (fun k x=>rfl) (fun a δ x ha hE=>step a δ _ ha hE)
 refine ⟨x,?_⟩
 unfold Rj
 rw[q]
 have ln:(L.set n (.rod kvs)).length=L.length:=by simp
 simp only[aD]
 rw[dP,Se _ _ _ ln.symm,Tg L n kvs hn,<- dP]
 simp
end MR
namespace MR
open PySem PySem.Spec PyProof.Rows PySem.Calls L2 SO
noncomputable def Abn(s:Str):List Int:=s.cps.toList.map fP
noncomputable def Agd(l:List Int):Str:=⟨(l.map Int.toNat).toArray⟩
theorem Akt(s:Str):Agd (Abn s)=s:=by
 unfold Agd Abn
 rw[dD]
 have:(Int.toNat∘fP)=id:=by funext x;rfl
 rw[this,sG]
section
variable {X:Cx}
end
end MR
namespace SO
open PySem PySem.W PySem.Calls PyProof.Rows
section
variable {P:cU}{w:eD}{A:dO}{E:aF->aL->Prop}{s:aL}{vs:List aF}{lt:Nat->Nat->Bool}{κ:tG}
theorem Xj{l:Addr}{Q:aF->aL->Prop}(W:Wo lt)(hcol:∀ (A':dO) (E':aF->aL->Prop) (Q':List aF->aL->Prop),(∀ h1,(∀ b o,s.heap.get? b=some o->h1.get? b=some o)->Q' vs { s with heap:=h1 })->wpAny (model P w) A' (collect (.ref l)) Q' E' s)(h64:vs.length < 64)
  (hkind:2<=vs.length->∀ (h':Heap) (Q:tG->aL->Prop) (E:aF->aL->Prop),(∀ b o,s.heap.get? b=some o->h'.get? b=some o)->Q κ { s with heap:=h' }->wpAny (model P w) A.in1.in1 (keyKind' vs.toArray) Q E { s with heap:=h' })
  (hask:∀ (h':Heap) (i j:Nat) (C:Bool->aL->Prop),(∀ b o,s.heap.get? b=some o->h'.get? b=some o)->i < vs.length->j < vs.length->C (lt i j) { s with heap:=h' }->jE P w A.in1.in1 κ vs i j C { s with heap:=h' })
  (hq:∀ (h1:Heap),(∀ b o,s.heap.get? b=some o->h1.get? b=some o)->∀ (p:Array Nat) (h':Heap) (c:Nat),Pm vs.length p->Up lt p vs.length->(∀ b o,h1.get? b=some o->h'.get? b=some o)->h'.get? h1.objs.size=some (seqObj "list" (G1 vs p).toArray c)->Q (.ref h1.objs.size) { s with heap:=h' }) :
  wpAny (model P w) A (call (.builtin "sorted") [.ref l]) Q E s:=by
 refine call_function_entry kind_sorted plain_sorted entry_sorted (args_sorted1 _) ?_
 unfold iW.«sorted»
 refine aC (m:=checkCount "sorted" 1 1 _) (aU (aC (hcol _ _ _ fun h1 kp=>aC (kJ ?_ ?y2))))
 case y2=>rw[dU];omega
 have e2:(h1.push (seqObj "list" vs.toArray 0)).get? h1.objs.size=some (seqObj "list" vs.toArray 0):=bC _ rfl
 have e3:∀ b o,h1.get? b=some o->(h1.push (seqObj "list" vs.toArray 0)).get? b=some o:=fun b o q=>aE _ q
 have e4:∀ (h':Heap),Kb h1.objs.size (h1.push (seqObj "list" vs.toArray 0)) h'->∀ b o,h1.get? b=some o->h'.get? b=some o:=fun h' k b o q=>
  k b o (bU (bD q)) (e3 b o q)
 show wpAny _ _ _ _ _ ({ s with heap:=h1.push (seqObj "list" vs.toArray 0) }:aL)
 generalize h1.push (seqObj "list" vs.toArray 0)=hp at e2 e3 e4
 refine aC (eC (eY slot_list_sort ⟨_,e2,rfl⟩ entry_list_sort (Agy (s:={ s with heap:=hp }) W e2 h64 (fun h2 h' Q' k q=>hkind h2 h' Q' _ (fun b o z=>e4 h' k b o (kp b o z)) q) (fun h' i j C k=>hask h' i j C (fun b o z=>e4 h' k b o (kp b o z))) fun p h' c a1 a2 a3 a4=>⟨_,rfl,?_⟩) (args_list_sort _)))
 exact aU ⟨_,rfl,hq h1 kp p h' c a1 a2 (e4 h' a3) a4⟩
end
end SO
namespace MR
open PySem PySem.Spec PyProof.Rows PySem.Calls L2 SO
section
variable {X:Cx}
end
noncomputable def Lz(p:Str×List Int):List Int:=Abn p.1++(-1)::p.2
noncomputable def Ady(l:List Int):Str×List Int:=(Agd (l.takeWhile fun x=>decide (0<=x)),(l.dropWhile fun x=>decide (0<=x)).drop 1)
theorem Aao(p:Str×List Int):Ady (Lz p)=p:=by
 have h:∀ (a:List Nat) (r:List Int),(a.map fP++(-1)::r).takeWhile (fun x=>decide (0<=x))=a.map fP/\(a.map fP++(-1)::r).dropWhile (fun x=>decide (0<=x))=(-1)::r:=by
  intro a r
  induction a with
  | nil=>exact ⟨rfl,rfl⟩
  | cons x a ih=>
   have hx:decide ((0:Int)<=fP x)=true:=decide_eq_true (jM x)
   rw[aO,cQ,List.takeWhile_cons,List.dropWhile_cons,hx]
   exact ⟨by rw[if_pos rfl,ih.1],by rw[if_pos rfl,ih.2]⟩
 obtain ⟨s,r⟩:=p
 obtain ⟨h1,h2⟩:=h s.cps.toList r
 unfold Ady Lz Abn
 rw[h1,h2]
 have:=Akt s
 unfold Abn at this
 rw[this];rfl
theorem Aa0:∀ (a b:List Nat) (r q:List Int),ltT (a.map fP++(-1)::r) (b.map fP++(-1)::q)=if a=b then ltT r q else decide (a < b)
 | [],[],r,q=>by rw[if_pos rfl,bT,dB,dB,ltT];simp
 | [],b::bs,r,q=>by
  rw[if_neg (by simp),bT,dB,aO,cQ,ltT]
  have h1:((-1:Int) == fP b)=false:=by rw[beq_eq_false_iff_ne];exact fun h=>by cases h
  have h2:decide ((-1:Int) < fP b)=true:=decide_eq_true (by have:=jM b;show (-1:Int) < (b:Int);omega)
  rw[h1,h2];simp
 | a::as,[],r,q=>by
  rw[if_neg (by simp),bT,dB,aO,cQ,ltT]
  have h1:(fP a == (-1:Int))=false:=by rw[beq_eq_false_iff_ne];exact fun h=>by cases h
  have h2:decide (fP a < (-1:Int))=false:=decide_eq_false (by show ¬ ((a:Int) < -1);omega)
  rw[h1,h2];simp
 | a::as,b::bs,r,q=>by
  have ih:=Aa0 as bs r q
  rw[aO,aO,cQ,cQ,ltT]
  by_cases e:a=b
  ·subst e
   rw[if_pos (by simp),ih]
   simp
  ·have h1:(fP a == fP b)=false:=by rw[beq_eq_false_iff_ne];exact fun h=>e (tS h)
   rw[h1,if_neg (by simp),if_neg (fun h=>e (List.cons.inj h).1)]
   have:(fP a < fP b)↔a < b:=by simp
   rw[decide_eq_decide,this,List.cons_lt_cons_iff]
   constructor
   ·exact .inl
   ·rintro (h | ⟨h,_⟩)
    ·exact h
    ·exact absurd h e
noncomputable def sortN(ts:List (Str×List Int)):List (Str×List Int):=(Wj (ts.map Lz)).map Ady
theorem sortN_perm(ts:List (Str×List Int)):(sortN ts).Perm ts:=by
 have:=(Ly (ts.map Lz)).map Ady
 rw[dD] at this
 have e:ts.map (Ady∘Lz)=ts:=by
  rw[show (Ady∘Lz)=id from funext Aao,sG]
 rw[e] at this
 exact this
inductive TupsN(K:aH)(H:Hp):List (Str×List Int)->List V->Prop
 | nil:TupsN K H [] []
 | cons {a:Addr} {n:Str} {t:List Int} {ts:List (Str×List Int)} {ys:List V} (h:SqT K H a (.str n::t.map V.int)) (r:TupsN K H ts ys):TupsN K H ((n,t)::ts) (.ref a::ys)
variable {K:aH}{H:Hp}
theorem TupsN.len{ts:List (Str×List Int)}{ys:List V}(r:TupsN K H ts ys):ts.length=ys.length:=by
 induction r with
 | nil=>rfl
 | cons h r ih=>simp[ih]
theorem TupsN.at_{ts:List (Str×List Int)}{ys:List V}(r:TupsN K H ts ys):∀ i,i < ts.length->∃ (a:Addr) (n:Str) (t:List Int),ts[i]? = some (n,t)/\ys[i]? = some (.ref a)/\SqT K H a (.str n::t.map V.int):=by
 induction r with
 | nil=>intro i h;simp at h
 | @cons a n t ts ys h r ih=>
  intro i hi
  cases i with
  | zero=>exact ⟨a,n,t,rfl,rfl,h⟩
  | succ i=>simpa using ih i (by simpa using hi)
theorem Ah2{P:cU}{w:eD}{A:dO}{b fin:Bool}{s:aL}{Q:Bool->aL->Prop}(hb:b=true)(n m:Str)(ns ms:List Int)(tn tm:Tok)(xs ys:List aF)(rx:Vals (ns.map V.int) xs)(ry:Vals (ms.map V.int) ys)(hf:fin=decide (ns.length < ms.length))(q:Q (ltT (Lz (n,ns)) (Lz (m,ms))) s):tH P w A b fin Q ((lM n tn::xs).zip (lM m tm::ys)) 0 s:=by
 unfold Lz Abn at q
 rw[Aa0] at q
 rw[iL]
 refine rX (PySem.wpAny_eqBool_str ?_)
 by_cases e:n=m
 ·subst e
  rw[if_pos rfl] at q
  rw[decide_eq_true rfl]
  exact sR (Wx ns ms _ _ 1 rx ry hf q)
 ·rw[if_neg (fun h=>e (by cases n;cases m;congr 1;exact Array.toList_inj.mp h))] at q
  rw[decide_eq_false e]
  refine tI ?_
  rw[hb]
  exact oneLt_str q
section
variable {X:Cx}
theorem Xa(hc:X.calm=true):CallR X (.builtin "sorted") (fun xs H Q=>∃ (l:Addr) (ys:List V) (ts:List (Str×List Int)),xs=[.ref l]/\SqT X.K H l ys/\TupsN X.K H ts ys/\ys.length < 64 /\
  ∀ (p:Addr) (ks:List Nat),H p=none->(ks.map fun i=>ts.getD i ("",[]))=sortN ts->(∀ k∈ks,k < ys.length)->Q (.ref p) (upd H p (.lst (ks.map fun i=>ys.getD i .non)))):=by
 intro pins s σ H xs us Q I r h
 obtain ⟨l,ys,ts,rfl,hq,tp,h64,q⟩:=h
 obtain ⟨u,rfl,rx⟩:=Fe r
 cases rx
 obtain ⟨its,rv,tpl,hz⟩:=I.tuple hq
 obtain ⟨o0,ho0,hcl0,cn0,hd0⟩:=tpl
 have hlen:=rv.length
 have htl:=tp.len
 have hat:∀ i,i < its.length->∃ (a:Addr) (n:Str) (t:List Int) (tk:Tok) (vs:List aF),its[i]? = some (.ref a)/\ts.getD i ("",[])=(n,t)/\Vals (t.map V.int) vs/\mJ s.heap a (lM n tk::vs).toArray:=by
  intro i hi
  obtain ⟨a,n,t,e1,e2,sq⟩:=tp.at_ i (by omega)
  obtain ⟨v,e3,rr⟩:=rv.get e2
  cases rr
  obtain ⟨vs,r2,it,_⟩:=I.tuple sq
  cases r2 with
  | @cons _ v0 _ vr rr rs=>
   obtain ⟨tk,rfl⟩:=rr
   exact ⟨a,n,t,tk,vr,e3,by rw[aP,e1];rfl,rs,it⟩
 have W:Wo fun i j=>ltT (Lz (ts.getD i ("",[]))) (Lz (ts.getD j ("",[]))):=⟨fun i j h=>H9 _ _ h,fun i j k h1 h2=>Nm _ _ _ h1 h2⟩
 refine Xj (κ:=tuples' (gJ "str" != gJ "tuple")) (vs:=its) W (fun A' E' Q' hQ=>by
  refine wpAny_collect_seq l (.inr rfl) ho0 hcl0 hd0 (fun h1 kp=>?_) (by rw[dU,aS];omega)
  rw[show its.toArray.toList=its from by simp]
  exact hQ h1 kp) (by omega) ?kd ?ak ?en
 case kd=>
  intro h2 h' Q' E' kp q'
  have mk:∀ (m:Nat),m<=its.length->∃ fs:List aF,sT h' (its.drop (its.length - m)) fs/\fs.length=m/\∀ v∈fs,tR (model X.prog X.w) h' (typeOf v) (.type "str"):=by
   intro m
   induction m with
   | zero=>intro _;exact ⟨[],by rw[qX,rY];exact pN,rfl,by simp⟩
   | succ m ih=>
    intro hm
    obtain ⟨fs,k1,k2,k3⟩:=ih (by omega)
    obtain ⟨a,n,t,tk,vs,e1,_,r2,it⟩:=hat (its.length - (m+1)) (by omega)
    obtain ⟨o,ho,hcls,nn,hd⟩:=it
    have hdrop:its.drop (its.length - (m+1)) = .ref a::its.drop (its.length - m):=by
     have hlt:its.length - (m+1) < its.length:=by omega
     rw[mF hlt]
     have:its[its.length - (m+1)] = .ref a:=by
      rw[aI hlt] at e1;exact bP e1
     rw[this]
     congr 2;omega
    refine ⟨.str n tk::fs,?_,by simp[k2],fun v hv=>?_⟩
    ·rw[hdrop]
     exact pJ (kp _ _ ho) hcls hd rfl k1
    ·rcases bE.mp hv with e | e
     ·subst e
      exact rA
     ·exact k3 v e
  obtain ⟨fs,k1,k2,k3⟩:=mk its.length (aQ _)
  rw[eW,pH] at k1
  exact rZ (s:={ s with heap:=h' }) k1 (by omega) k3 rfl q'
 case ak=>
  intro h' i j C kp hi hj hC
  obtain ⟨a,n,t,tk,vs,e1,e2,r2,it⟩:=hat i hi
  obtain ⟨b,m,u,tm,ws,f1,f2,s2,jt⟩:=hat j hj
  obtain ⟨o,ho,_,c1,hd⟩:=it
  obtain ⟨o',ho',_,c2,hd'⟩:=jt
  have g1:its.getD i eM = .ref a:=by rw[aP,e1];rfl
  have g2:its.getD j eM = .ref b:=by rw[aP,f1];rfl
  unfold jE
  rw[g1,g2]
  refine tK (s:={ s with heap:=h' }) (kp _ _ ho) hd (kp _ _ ho') hd' ?_
  have hl1:=r2.length
  have hl2:=s2.length
  rw[aV] at hl1 hl2
  refine Ah2 rfl n m t u tk tm vs ws r2 s2 ?_ ?_
  ·rw[aS,aS,aN,aN,<- hl1,<- hl2]
   simp
  ·rw[<- e2,<- f2];exact hC
 case en=>
  intro h1 kp1 p h' c hp hu kp hl
  have J0:L2.Inv X pins σ H { s with heap:=h1 }:=I.kept (t':=s.toks) kp1
  have hks0:(p.toList.map fun i=>Lz (ts.getD i ("",[])))=Wj (ts.map Lz):=by
   refine Ss ?_ ?_ (Ni _)
   ·have e:(aX its.length).map (fun i=>Lz (ts.getD i ("",[])))=ts.map Lz:=by
     apply iY
     ·simp;omega
     ·intro i h1 h2
      have:i < ts.length:=by simpa using h2
      simp[this]
    exact ((hp.perm.map _).trans (by rw[e])).trans (Ly _).symm
   ·rw[rD,jB]
    intro i j hi hj hij
    have hz:p.toList.length=its.length:=by rw[cN];exact hp.size
    have:=hu i j (lD hij) (by omega)
    have ai:at0 p i=p.toList[i]:=by unfold at0;rw[dR,<- fM,aI hi];rfl
    have aj:at0 p j=p.toList[j]:=by unfold at0;rw[dR,<- fM,aI hj];rfl
    rw[ai,aj] at this
    exact this
  have hks:(p.toList.map fun i=>ts.getD i ("",[]))=sortN ts:=by
   unfold sortN
   rw[<- hks0,dD]
   exact cO fun i _=>(Aao _).symm
  have hlt:∀ k∈p.toList,k < ys.length:=fun k hk=>by
   have:=bL.mp (hp.perm.mem_iff.mp hk)
   omega
  have hrel:Vals (p.toList.map fun i=>ys.getD i .non) (G1 its p):=by
   unfold G1
   have:∀ ks:List Nat,(∀ k∈ks,k < ys.length)->Vals (ks.map fun i=>ys.getD i .non) (ks.map fun i=>its.getD i eM):=by
    intro ks
    induction ks with
    | nil=>intro _;exact .nil
    | cons k ks ih=>
     intro hk
     have hk0:=hk k (aW ..)
     obtain ⟨v,e3,rr⟩:=rv.get (aI hk0)
     refine .cons ?_ (ih fun x hx=>hk x (aM _ hx))
     show L2.RelV (ys.getD k .non) (its.getD k eM)
     rw[aP,aP,aI hk0,e3]
     exact rr
   exact this _ hlt
  have hsz:(p.toList.map fun i=>ys.getD i .non).length<=sizeLine:=by
   have:p.toList.length=its.length:=by rw[cN];exact hp.size
   rw[aV,this,dU];omega
  have I1:Inv X pins σ (upd H h1.objs.size (.lst (p.toList.map fun i=>ys.getD i .non))) { s with heap:=h' }:=J0.laid (t':=s.toks) kp (aQ _) ⟨hsz,G1 its p,c,hrel,hl⟩
  exact ⟨.ref h1.objs.size,_,I1,rfl,q _ _ (J0.hok.fresh (aQ _)) hks hlt⟩
end
noncomputable def toN:U->Option (Str×List Int)
 | .tup (.str s::l)=>(mapO toI l).map fun t=>(s,t)
 | _=>none
noncomputable def K7(p:Str×List Int):U:=.tup (.str p.1::p.2.map U.int)
noncomputable def Fj:SC:=fun us L=>match us with
 | [.tup l]=>(mapO toN l).bind fun ts=>if ts.length < 64 then some (.ref L.length,L++[.lst ((sortN ts).map K7)]) else none
 | _=>none
theorem Aip:∀ (l:List U) (t:List Int),mapO toI l=some t->l=t.map U.int:=by
 intro l
 induction l with
 | nil=>intro t e;simp only[mapO] at e;cases e;rfl
 | cons a l ih=>
  intro t e
  simp only[mapO] at e
  obtain ⟨x,x1,e⟩:=aB.mp e
  obtain ⟨y,y1,e⟩:=aG.mp e
  subst e
  rw[aO,<- ih y y1]
  cases a <;> first | (cases x1;rfl) | cases x1
theorem Al9{u:U}{p:Str×List Int}(h:toN u=some p):u=K7 p:=by
 unfold toN at h
 split at h
 ·obtain ⟨t,ht,e⟩:=aG.mp h
  subst e
  unfold K7
  rw[Aip _ _ ht]
 ·cases h
theorem Ud:∀ {us:List U} {ts:List (Str×List Int)},mapO toN us=some ts->us=ts.map K7
 | [],ts,e=>by simp only[mapO] at e;cases e;rfl
 | u::us,ts,e=>by
  simp only[mapO] at e
  obtain ⟨t,e1,e⟩:=aB.mp e
  obtain ⟨tr,e2,e⟩:=aG.mp e
  subst e
  rw[aO,<- Ud e2,<- Al9 e1]
theorem Tp:∀ t:List Int,mapO toI (t.map U.int)=some t
 | []=>rfl
 | n::t=>by rw[aO];simp only[mapO];rw[Tp t];rfl
theorem Vx{α:List Addr}:∀ {ts:List (Str×List Int)} {ys:List V},RepL K H α (ts.map K7) ys->TupsN K H ts ys
 | [],ys,r=>by
  rw[bT] at r
  unfold RepL at r;subst r
  exact .nil
 | (n,t)::ts,ys,r=>by
  rw[aO] at r
  unfold RepL at r
  obtain ⟨x,xr,rfl,r1,r2⟩:=r
  have ih:=Vx r2
  unfold K7 RepU at r1
  obtain ⟨a,vs,rfl,sq,rl⟩:=r1
  unfold RepL at rl
  obtain ⟨y,yr,rfl,q1,q2⟩:=rl
  unfold RepU at q1
  subst q1
  rw[Gp q2 (Tp t)] at sq
  exact .cons sq ih
theorem Adp:N3 K (fun xs H Q=>∃ (l:Addr) (ys:List V) (ts:List (Str×List Int)),xs=[.ref l]/\SqT K H l ys/\TupsN K H ts ys/\ys.length < 64 /\
  ∀ (p:Addr) (ks:List Nat),H p=none->(ks.map fun i=>ts.getD i ("",[]))=sortN ts->(∀ k∈ks,k < ys.length)->Q (.ref p) (upd H p (.lst (ks.map fun i=>ys.getD i .non)))) Fj:=by
 intro H α L us xs z L' Q A r e q
 unfold Fj at e
 split at e
 ·rename_i l
  obtain ⟨ts,hts,e⟩:=aB.mp e
  split at e
  ·rename_i hc
   cases e
   obtain ⟨x,rfl,rx⟩:=r.one
   unfold RepU at rx
   obtain ⟨a,ys,rfl,sq,r2⟩:=rx
   have tp:TupsN K H ts ys:=Vx (by rw[<- Ud hts];exact r2)
   have hlen:=tp.len
   refine ⟨a,ys,ts,rfl,sq,tp,by omega,fun p ks hp hks hlt=>?_⟩
   have rl:RepL K H α ((sortN ts).map K7) (ks.map fun i=>ys.getD i .non):=by
    rw[<- hks]
    have hus:=Ud hts
    have:∀ ks:List Nat,(∀ k∈ks,k < ys.length)->RepL K H α ((ks.map fun i=>ts.getD i ("",[])).map K7) (ks.map fun i=>ys.getD i .non):=by
     intro ks
     induction ks with
     | nil=>intro _;exact .nil
     | cons k ks ih=>
      intro hk
      have hk0:=hk k (aW ..)
      have hkt:k < ts.length:=by omega
      refine .cons ?_ (ih fun x hx=>hk x (aM _ hx))
      have eu:l[k]? = some (K7 (ts.getD k ("",[]))):=by
       rw[hus,bO,aP,aI hkt];rfl
      obtain ⟨x,ex,rx⟩:=r2.get eu
      show RepU K H α (K7 (ts.getD k ("",[]))) (ys.getD k .non)
      rw[aP (l:=ys),ex]
      exact rx
    exact this ks hlt
   obtain ⟨g2,A2,r3⟩:=A.lst rl hp
   exact q _ _ _ g2 A2 r3
  ·cases e
 ·cases e
end MR
namespace HT
open PySem PyProof.Rows
section
open PySem.SeqAt
open PySem.AutoSeq1 (wpAny_loadPart')
open PySem.MeetsSeq PySem.MeetsSeq2 PySem.MeetsSeq3
end
section
variable {prog:cU}{w:eD}{A:dO}{E:aF->aL->Prop}{s:aL}
end
end HT
namespace MR
open PySem PyProof.Rows L2
end MR
namespace DP
open PySem PySem.Spec PyProof.Rows
theorem Ajr:typeLookup (.type "list") (dC "keys")=pure none:=am_miss_of_fast (by kernel_rfl)
theorem Aib:typeLookup (.type "list") "__getattr__" = pure none:=am_miss_of_fast (by kernel_rfl)
variable {prog:cU}{w:eD}{A:dO}{E:aF->aL->Prop}{s:aL}{n:Nat}{sl:Array (Option aF)}
theorem Ai1{P:PySem.Fin->aL->Prop}{a:Addr}{vs:Array aF}{u:Tok}(hA:A.handled=none)(hx:s.heap.get? a=some { cls:=.type "list",dict:=none,data:=.seq vs n,slots:=sl })
  (h:∀ h' tk e,Heap.NewAttrErr s.heap h' e (.ref a) (dC "keys")->E (.ref e) { s with heap:=h',toks:=tk }):wpAny (model prog w) A (iW.«object.__getattribute__» ⟨[.ref a,.str (dC "keys") u],[]⟩) P E s:=by
 obtain ⟨hp,g,d,tk,os⟩:=s
 have hT:(⟨hp,g,d,tk,os⟩:aL).TypeIs (.ref a) "list" := ⟨_,hx,rfl⟩
 have f1:=Ajr
 unfold iW.«object.__getattribute__»
 (repeat (any_goals (first | assumption | wp_step)));exact wpAny_raiseAttrError hA h (attrMsg_fits (by decide +kernel) (by decide +kernel))
theorem Abp{Q:Option aF->aL->Prop}{a:Addr}{vs:Array aF}(hA:A.handled=none)(hx:s.heap.get? a=some { cls:=.type "list",dict:=none,data:=.seq vs n,slots:=sl })
  (h:∀ h' tk,(∀ b ob,s.heap.get? b=some ob->h'.get? b=some ob)->Q none { s with heap:=h',toks:=tk }):wpAny (model prog w) A (getAttr? (.ref a) (dC "keys")) Q E s:=by
 obtain ⟨hp,g,d,tk,os⟩:=s
 have hT:(⟨hp,g,d,tk,os⟩:aL).TypeIs (.ref a) "list" := ⟨_,hx,rfl⟩
 have f1:=sub_AttributeError
 have f3:=F.slot_list_getattribute.lookup
 have f4:=F.slot_list_getattribute.bind (.ref a)
 have f5:=Aib
 unfold getAttr? getAttrBy? getAttrBy
 (repeat (any_goals (first | assumption | wp_step)));refine codeAny_call_builtin F.slot_list_getattribute.plain F.entry_list_ga (F.slot_list_getattribute.check _ _ _ _ _ _ _ _ hT (F.args_list_getattribute_2 _ _) (Ai1 (A:=qF A) hA hx fun h' tk' e hn=>?_))
 obtain ⟨t',u',he⟩:=hn.there
 show wpAny _ _ (getattributeRaised _ _ _ _ _ _ _) _ _ _
 unfold getattributeRaised
 (repeat (any_goals (first | assumption | wp_step)));exact h _ _ hn.keeps
theorem Aab:entryFor table "dict.update.loop" = some iW.«dict.update.loop» := entryFor_of_fast (by kernel_rfl)
theorem O8:plainId "dict.update.loop" = true:=by decide +kernel
structure PairAt(P:cU)(w:eD)(h:Heap)(v:aF)(k:L2.Key)(x:aF):Prop where
 ex:∃ (T:Addr) (key:aF),v = .ref T/\h.IsTuple T #[key,x]/\(L2.Br P w).is k key=true
theorem Ru:∀ (ps:List (L2.Key×aF)),(merged ([]:List (L2.Key×aF)) ps).length<=ps.length:=by
 have aux:∀ (ps vs:List (L2.Key×aF)),(merged vs ps).length<=vs.length+ps.length:=by
  intro ps
  induction ps with
  | nil=>intro vs;exact aQ _
  | cons p ps ih=>
   intro vs
   have h1:=ih (stored vs p.1 p.2)
   have h2:(stored vs p.1 p.2).length<=vs.length+1:=by unfold stored;split <;> simp
   show (merged (stored vs p.1 p.2) ps).length<=_
   rw[aN];omega
 exact fun ps=>by have:=aux ps [];simpa using this
theorem Xb{R:rL->aL->Prop}{d it l:Addr}{its:List aF}{ps:List (L2.Key×aF)}{h1:Heap}(hA:A.handled=none)(res:aF)(hdi:d≠it)(hdl:d≠l)(hli:l≠it)(hlen:its.length=ps.length)(hsz:ps.length<=1000000)
  (hp:∀ (h:Heap) (j:Nat) (v:aF) (p:L2.Key×aF),(∀ b o,b≠d->b≠it->h1.get? b=some o->h.get? b=some o)->its[j]? = some v->ps[j]? = some p->PairAt prog w h v p.1 p.2)
  (hR:∀ h' tk,(∀ b o,b≠d->b≠it->h1.get? b=some o->h'.get? b=some o)->h'.DictOf (L2.Br prog w) d (merged [] ps)->R (.ok (.ret res)) { s with heap:=h',toks:=tk }) :
  ∀ (k i:Nat) (h:Heap) (tk:Nat),ps.length - i=k->i<=ps.length->(∀ b o,b≠d->b≠it->h1.get? b=some o->h.get? b=some o)->h.IsListIter it l i->h.IsList l its.toArray->h.DictOf (L2.Br prog w) d (merged [] (ps.take i)) ->
   jT (model prog w) A (.builtin "dict.update.loop" ⟨[.ref d,.ref it,rawInt i,res],[]⟩) R { s with heap:=h,toks:=tk }:=by
 intro k
 induction k with
 | zero=>
  intro i h tk hk hi hkeep hit hl hD
  have hin:i=ps.length:=by omega
  subst hin
  rw[kG] at hD
  refine hV Aab ?_
  rw[fA O8 _]
  show wpAny _ A.in1 (pyNext (.ref it) >>= _) _ _ _
  refine aC (oN (s:={ s with heap:=h,toks:=tk }) (A:=A.in1) hA hit hl (by simp;omega) fun h' he=>?_)
  exact aC (aU (aU (hR h' tk (fun b o x1 x2 e=>he b o x2 (hkeep b o x1 x2 e)) (hD.extBut he hdi))))
 | succ k ih=>
  intro i h tk hk hi hkeep hit hl hD
  have hlt:i < ps.length:=by omega
  have hlt2:i < its.length:=by omega
  obtain ⟨T,key,e1,e2,e3⟩:=(hp h i its[i] ps[i] hkeep (aI hlt2) (aI hlt)).ex
  refine hV Aab ?_
  rw[fA O8 _]
  show wpAny _ A.in1 (pyNext (.ref it) >>= _) _ _ _
  refine aC (nR (s:={ s with heap:=h,toks:=tk }) (A:=A.in1) hit hl (x:=.ref T) (by simp[hlt2,<- e1]) fun h' hit' hs'=>?_)
  have hTi:T≠it:=fun q=>by
   obtain ⟨o,ho,hc,_⟩:=e2
   obtain ⟨o',ho',hc',_⟩:=hit
   rw[q,ho'] at ho;cases ho
   rw[hc'] at hc;simp at hc
  have hTd:T≠d:=fun q=>by
   obtain ⟨o,ho,hc,_⟩:=e2
   obtain ⟨o',ho',hc'⟩:(⟨h,s.gens,s.drawn,tk,s.os⟩:aL).TypeIs (.ref d) "dict" := Heap.DictOf.typeIs (s:=⟨h,s.gens,s.drawn,tk,s.os⟩) hD
   rw[q,ho'] at ho;cases ho
   rw[hc'] at hc;simp at hc
  have e2':h'.IsTuple T #[key,ps[i].2]:=e2.at fun o e=>(hs'.2 T hTi).trans e
  have hD':h'.DictOf (L2.Br prog w) d (merged [] (ps.take i)):=hD.extBut hs'.extBut hdi
  refine aC (eC (aC (iI ?_)))
  obtain ⟨o,ho,hc,n,hd⟩:=id e2'
  unfold iW.Dict.pairItems
  refine aC (nX (T := "tuple") ⟨o,ho,hc⟩ ?_)
  rw[if_pos (by rfl)]
  refine aC (show wpAny _ _ (seqItems? (dY T)) _ _ _ from ?_)
  unfold seqItems?
  refine aC (sW ho ?_)
  rw[hd]
  refine aU (aU (eC (wpAny_dictSet_pairs (s:={ s with heap:=h',toks:=tk }) e3 hD' (fun h2 hD2 hs2=>?_) ?zz)))
  case zz=>have:=Ru (ps.take i);rw[dU];simp at this;omega
  have htk:merged [] (ps.take (i+1))=stored (merged [] (ps.take i)) ps[i].1 ps[i].2:=by
   rw[iB,aI hlt]
   unfold merged
   rw[List.foldl_append];rfl
  refine aU ⟨iS O8 _,?_⟩
  have hcast:((i:Int)+1)=((i+1:Nat):Int):=by omega
  rw[hcast]
  refine ih (i+1) h2 _ (by omega) hlt (fun b o x1 x2 e=>(hs2.2 b x1).trans ((hs'.2 b x2).trans (hkeep b o x1 x2 e))) (hit'.at fun o e=>(hs2.2 it (eP hdi)).trans e) ((hl.at fun o e=>(hs'.2 l hli).trans e).at fun o e=>(hs2.2 l (eP hdl)).trans e) ?_
  rw[htk];exact hD2
theorem W0{Q:aF->aL->Prop}{l:Addr}{its:List aF}{ps:List (L2.Key×aF)}(hA:A.handled=none)(hx:s.heap.get? l=some { cls:=.type "list",dict:=none,data:=.seq its.toArray n,slots:=sl })(hlen:its.length=ps.length)(hsz:ps.length<=1000000)
  (hp:∀ (h:Heap) (j:Nat) (v:aF) (p:L2.Key×aF),(∀ b o,s.heap.get? b=some o->h.get? b=some o)->its[j]? = some v->ps[j]? = some p->PairAt prog w h v p.1 p.2)
  (hQ:∀ h' tk,(∀ b o,s.heap.get? b=some o->h'.get? b=some o)->h'.DictOf (L2.Br prog w) s.heap.objs.size (merged [] ps)->Q (.ref s.heap.objs.size) { s with heap:=h',toks:=tk }) :
  wpAny (model prog w) A (call (.type "dict") [.ref l]) Q E s:=by
 refine callType_codes (Q₁:=fun obj s₁=>obj = .ref s.heap.objs.size/\s₁ = { s with heap:=s.heap.push { cls:=.type "dict",data:=.dict #[] } }) F.kt_called_dict (F.kt_typeCall_dict_1 _) F.entry_dict_init (kt_code_dict_new _ ⟨rfl,rfl⟩) ?_
 rintro _ _ ⟨rfl,rfl⟩
 have new:(s.heap.push { cls:=.type "dict",data:=.dict #[] }).DictOf (L2.Br prog w) s.heap.objs.size []:=sK s.heap
 have kp:∀ b o,s.heap.get? b=some o->(s.heap.push { cls:=.type "dict",data:=.dict #[] }).get? b=some o:=fun b o e=>aE _ e
 have hlt:=bD hx
 have hx1:=kp _ _ hx
 refine ⟨new.typeIs,F.args_dict_init_2 _ _,?_⟩
 unfold iW.«dict.__init__» iW.Dict.selfAndRest
 refine aC (aC (wpAny_notOrdered_dict new.typeIs (show wpAny _ _ (pure (s.heap.objs.size,[dY l])) _ _ _ from aU ?_)))
 show wpAny _ _ (nK "dict.__init__" s.heap.objs.size (.ref l) [] .none) _ _ _
 unfold nK
 refine aC (nX (T := "list") ⟨_,hx1,rfl⟩ ?_)
 rw[if_pos (by decide)]
 refine aC (Abp hA hx1 fun h2 tk2 kp2=>?_)
 rw[if_pos (show (none:Option aF).isNone=true from rfl)]
 have hx2:=kp2 _ _ hx1
 have hl2:h2.IsList l its.toArray:=⟨_,hx2,rfl,n,rfl⟩
 have new2:h2.DictOf (L2.Br prog w) s.heap.objs.size []:=by
  obtain ⟨o,es,ep,ho,r⟩:=new
  exact ⟨o,es,ep,kp2 _ _ ho,r⟩
 have hd2:s.heap.objs.size < h2.objs.size:=by
  obtain ⟨o,es,ep,ho,r⟩:=new2
  exact bD ho
 have kp3:∀ b o,s.heap.get? b=some o->(h2.push { cls:=.type "list_iterator",data:=.fields #[.ref l,.int 0 0] }).get? b=some o:=fun b o e=>aE _ (kp2 _ _ (kp _ _ e))
 have far:∀ b o,s.heap.get? b=some o->b≠s.heap.objs.size/\b≠h2.objs.size:=fun b o e=>by
  have:=bD e
  exact ⟨bU this,bU (qR this hd2)⟩
 refine aC (lZ (aC (jR hl2 (aU ⟨iS O8 _,?_⟩))))
 refine Xb (A:=A.in1) (s:=s) (l:=l) (its:=its) (ps:=ps) (h1:=h2.push { cls:=.type "list_iterator",data:=.fields #[.ref l,.int 0 0] }) hA .none (bU hd2) (iJ hlt) (bU (qR hlt hd2)) hlen hsz (fun h j v p hk e1 e2=>hp h j v p (fun b o e=>hk b o (far b o e).1 (far b o e).2 (kp3 b o e)) e1 e2) (fun h' tk hk hD=>?_) ps.length 0 _ _ rfl (eX _) (fun b o _ _ e=>e) ⟨_,bC _ rfl,rfl,rfl⟩ (hl2.push _) (new2.push _)
 exact ⟨rfl,hQ h' tk (fun b o e=>hk b o (far b o e).1 (far b o e).2 (kp3 b o e)) hD⟩
end DP
namespace MR
open PySem PySem.Spec PyProof.Rows PySem.Calls L2 DP
inductive PairsV(K:aH)(H:Hp):List (Key×V)->List V->Prop
 | nil:PairsV K H [] []
 | cons {a:Addr} {k:Key} {v:V} {kvs:List (Key×V)} {ys:List V} (h:SqT K H a [kV k,v]) (r:PairsV K H kvs ys):PairsV K H ((k,v)::kvs) (.ref a::ys)
variable {K:aH}{H:Hp}
theorem PairsV.len{kvs:List (Key×V)}{ys:List V}(r:PairsV K H kvs ys):kvs.length=ys.length:=by
 induction r with
 | nil=>rfl
 | cons h r ih=>simp[ih]
variable {X:Cx}
section
theorem Afk{pins:List (Addr×Obj)}{σ:L2.St}{s:aL}(I:L2.Inv X pins σ H s){kvs:List (Key×V)}{ys:List V}(r:PairsV X.K H kvs ys):∀ {its:List aF},Vals ys its ->
  ∃ ps:List (Key×aF),KV kvs ps/\∀ (j:Nat) (v:aF) (p:Key×aF),its[j]? = some v->ps[j]? = some p->∃ (T:Addr) (key:aF),v = .ref T/\mJ s.heap T #[key,p.2]/\(Br X.prog X.w).is p.1 key=true:=by
 induction r with
 | nil=>intro its rv;cases rv;exact ⟨[],.nil,fun j v p e=>by simp at e⟩
 | @cons a k v kvs ys h r ih=>
  intro its rv
  cases rv with
  | @cons _ u _ us r1 r2=>
   cases r1
   obtain ⟨ps,kv,hp⟩:=ih r2
   obtain ⟨ts,rt,it,_⟩:=I.tuple h
   cases rt with
   | @cons _ key _ ts' k1 k2=>
    cases k2 with
    | @cons _ x _ ts'' x1 x2=>
     cases x2
     refine ⟨(k,x)::ps,.cons ⟨rfl,x1⟩ kv,fun j v p e1 e2=>?_⟩
     cases j with
     | zero=>
      simp at e1 e2
      subst e1 e2
      exact ⟨a,key,rfl,it,Abi k1⟩
     | succ j=>exact hp j v p (by simpa using e1) (by simpa using e2)
theorem X4(hc:X.calm=true):CallR X (.type "dict") (fun xs H Q=>∃ (l:Addr) (ys:List V) (kvs:List (Key×V)),xs=[.ref l]/\SqL X.K H l ys/\PairsV X.K H kvs ys/\kvs.length<=1000000/\∀ p,H p=none->Q (.ref p) (upd H p (.dK (Kg [] kvs)))):=by
 intro pins s σ H xs us Q I r h
 obtain ⟨l,ys,kvs,rfl,hq,pv,hsz,q⟩:=h
 obtain ⟨u,rfl,rx⟩:=Fe r
 cases rx
 obtain ⟨its,rv,pl,hz⟩:=I.list hq
 obtain ⟨ps,kv,hp⟩:=Afk I pv rv
 have hl1:=rv.length
 have hl2:=pv.len
 have hl3:=kv.length
 obtain ⟨⟨cls,dd,data,sl⟩,n,ho,h1,h2,h3⟩:=pl
 simp only at h1 h2 h3
 subst h1 h2 h3
 refine W0 (ps:=ps) (I.ok.hd hc) ho (by omega) (by omega) (fun h j v p kp e1 e2=>?_) fun h' tk kp hD=>?_
 ·obtain ⟨T,key,rfl,it,hk⟩:=hp j v p e1 e2
  obtain ⟨o,ho,hcls,n',hd'⟩:=it
  exact ⟨T,key,rfl,⟨o,kp _ _ ho,hcls,n',hd'⟩,hk⟩
 ·have hz2:(Kg [] kvs).length<=sizeLine:=by have:=Lu kvs [];rw[dU];simp at this;omega
  have I1:L2.Inv X pins σ (upd H s.heap.objs.size (.dK (Kg [] kvs))) { s with heap:=h',toks:=tk }:=I.laid (t':=tk) kp (aQ _) (W6 hz2 (beq_eq_false_iff_ne.mpr (eP (bU I.big))) (kv.merge .nil) hD)
  exact ⟨.ref s.heap.objs.size,_,I1,rfl,q _ (I.hok.fresh (aQ _))⟩
theorem Xf:CallR X (.type "dict") (fun xs H Q=>∃ (a:Addr) (kvs:List (Key×V)),xs=[.ref a]/\H a=some (.dK kvs)/\∀ p,H p=none->Q (.ref p) (upd H p (.dK kvs))):=by
 intro pins s σ H xs us Q I r h
 obtain ⟨a,kvs,rfl,ha,q⟩:=h
 obtain ⟨u,rfl,rx⟩:=Fe r
 cases rx
 exact Ago I (.inl ha) fun p s' hp I'=>⟨.ref p,_,I',rfl,q p hp⟩
noncomputable def Aj0(K:aH):List V->Hp->VK->Prop:=fun xs H Q=>(∃ (l:Addr) (ys:List V) (kvs:List (Key×V)),xs=[.ref l]/\SqL K H l ys/\PairsV K H kvs ys/\kvs.length<=1000000/\∀ p,H p=none->Q (.ref p) (upd H p (.dK (Kg [] kvs)))) \/
 ∃ (a:Addr) (kvs:List (Key×V)),xs=[.ref a]/\H a=some (.dK kvs)/\∀ p,H p=none->Q (.ref p) (upd H p (.dK kvs))
theorem Ace(hc:X.calm=true):CallR X (.type "dict") (Aj0 X.K):=(X4 hc).or Xf
end
noncomputable def W3:U->Option (Key×U)
 | .tup [k,v]=>(toK k).map fun x=>(x,v)
 | _=>none
noncomputable def Amg(kvs:List (Key×U)):List (Key×U):=kvs.foldl (fun acc kv=>Km acc kv.1 kv.2) []
noncomputable def Mp:SC:=fun us L=>match us with
 | [.ref n]=>match Dg L n with
  | some kvs=>some (.ref L.length,L++[.dic kvs])
  | none=>(Ao L n).bind fun l=>(mapO W3 l).bind fun kvs=>if kvs.length<=1000000 then some (.ref L.length,L++[.dic (Amg kvs)]) else none
 | _=>none
variable {α:List Addr}
theorem Vj:∀ {us:List U} {ys:List V} {kvs:List (Key×U)},RepL K H α us ys->mapO W3 us=some kvs->∃ vs,PairsV K H vs ys/\RepKV K H α kvs vs
 | [],ys,kvs,r,e=>by
  unfold RepL at r;subst r
  simp only[mapO] at e;cases e
  exact ⟨[],.nil,.nil⟩
 | u::us,ys,kvs,r,e=>by
  unfold RepL at r
  obtain ⟨x,xr,rfl,r1,r2⟩:=r
  simp only[mapO] at e
  obtain ⟨kv,e1,e⟩:=aB.mp e
  obtain ⟨kvr,e2,e⟩:=aG.mp e
  subst e
  obtain ⟨vs,pv,rk⟩:=Vj r2 e2
  unfold W3 at e1
  split at e1
  ·rename_i k v
   obtain ⟨kk,hk,e1⟩:=aG.mp e1
   subst e1
   unfold RepU at r1
   obtain ⟨a,xs,rfl,sq,rl⟩:=r1
   unfold RepL at rl
   obtain ⟨x1,xr1,rfl,rx1,rl⟩:=rl
   unfold RepL at rl
   obtain ⟨x2,xr2,rfl,rx2,rl⟩:=rl
   unfold RepL at rl
   subst rl
   rw[Xv rx1 hk] at sq
   exact ⟨(kk,x2)::vs,.cons sq pv,.mk rx2 rk⟩
  ·cases e1
theorem S6:∀ {more:List (Key×U)} {ms:List (Key×V)} {kvs:List (Key×U)} {vs:List (Key×V)},RepKV K H α more ms->RepKV K H α kvs vs->RepKV K H α (more.foldl (fun acc kv=>Km acc kv.1 kv.2) kvs) (Kg vs ms)
 | [],ms,kvs,vs,r,r0=>by
  obtain ⟨h1,_⟩:=r
  cases ms with
  | nil=>exact r0
  | cons _ _=>simp at h1
 | kv::more,ms,kvs,vs,r,r0=>by
  obtain ⟨x,ms',rfl,rx,r'⟩:=r.cons
  show RepKV K H α (more.foldl (fun acc kv=>Km acc kv.1 kv.2) (Km kvs kv.1 kv.2)) (Kg (Kd vs kv.1 x) ms')
  exact S6 r' (r0.put rx)
theorem Abs.dict{L:UH}{p:Addr}{kvs:List (Key×U)}{vs:List (Key×V)}(A:Abs K H α L)(r:RepKV K H α kvs vs)(hp:H p=none) :
  Gr H α (upd H p (.dK vs)) (α ++ [p])/\Abs K (upd H p (.dK vs)) (α ++ [p]) (L++[.dic kvs])/\RepU K (upd H p (.dK vs)) (α ++ [p]) (.ref L.length) (.ref p):=by
 have g:Gr H α (upd H p (.dK vs)) (α ++ [p]):=⟨⟨[p],rfl⟩,.new hp _⟩
 obtain ⟨A',_⟩:=A.new (o:=.dK vs) (u:=.dic kvs) hp ⟨vs,upd_same,(r.mono g).1,(r.mono g).2⟩
 refine ⟨g,A',?_⟩
 unfold RepU
 exact ⟨p,by rw[<- A.len];simp,rfl⟩
theorem Ag6:N3 K (Aj0 K) Mp:=by
 intro H α L us xs z L' Q A r e q
 unfold Mp at e
 split at e
 ·obtain ⟨x,rfl,rx⟩:=r.one
  split at e
  ·rename_i kvs hd
   cases e
   obtain ⟨a,vs,rfl,ea,ha,rk⟩:=Jz A hd rx
   refine .inr ⟨a,vs,rfl,ha,fun p hp=>?_⟩
   obtain ⟨g2,A2,r3⟩:=A.dict rk hp
   exact q _ _ _ g2 A2 r3
  ·obtain ⟨l,hl,e⟩:=aB.mp e
   obtain ⟨kvs,hk,e⟩:=aB.mp e
   split at e
   ·rename_i hlen
    cases e
    obtain ⟨a,ys,rfl,sq,r2⟩:=Iq A hl rx
    obtain ⟨vs,pv,rk⟩:=Vj r2 hk
    refine .inl ⟨a,ys,vs,rfl,sq,pv,by rw[<- rk.len];exact hlen,fun p hp=>?_⟩
    obtain ⟨g2,A2,r3⟩:=A.dict (S6 rk .nil) hp
    exact q _ _ _ g2 A2 r3
   ·cases e
 ·cases e
noncomputable def Tb(kb ka:List (Key×Int)):Bool:=ka.all fun p=>match kb.find? fun q=>decide (q.1=p.1) with | none=>false | some q=>p.2 == q.2
noncomputable def eqD(ka kb:List (Key×Int)):Bool:=ka.length == kb.length&&Tb kb ka
noncomputable def kiV(kb:List (Key×Int)):List (Key×V):=kb.map fun p=>(p.1,V.int p.2)
theorem Ah6(kb:List (Key×Int))(k:Key):Kw (kiV kb) k=(kb.find? fun q=>decide (q.1=k)).map fun q=>V.int q.2:=by
 unfold Kw kiV
 induction kb with
 | nil=>rfl
 | cons p kb ih=>
  rw[aO,cW,cW]
  by_cases h:p.1=k
  ·simp[h]
  ·simp only[h,decide_false]
   exact ih
theorem Y1{A:dO}{s:aL}{kb:List (Key×Int)}{wb:List (Key×aF)}(hb:KV (kiV kb) wb):∀ {ka:List (Key×Int)} {wa:List (Key×aF)},KV (kiV ka) wa->PySem.W.KeqHits A s wb wa (Tb kb ka)
 | [],wa,r=>by cases r;exact .nil
 | p::ka,wa,r=>by
  have r':rG (fun (p:Key×V) (q:Key×aF)=>p.1=q.1/\L2.RelV p.2 q.2) ((p.1,V.int p.2)::kiV ka) wa:=r
  cases r' with
  | @cons _ w _ ws h t=>
   obtain ⟨w1,w2⟩:=w
   obtain ⟨e1,⟨tk,e2⟩⟩:=h
   simp only at e1 e2
   subst e1 e2
   have ih:=Y1 (A:=A) (s:=s) hb (ka:=ka) t
   have hv:=hb.val p.1
   rw[Ah6] at hv
   have hh:Tb kb (p::ka)=((match kb.find? fun q=>decide (q.1=p.1) with | none=>false | some q=>p.2 == q.2)&&Tb kb ka):=by unfold Tb;rw[kI]
   rw[hh]
   cases hf:kb.find? fun q=>decide (q.1=p.1) with
   | none=>
    rw[hf] at hv
    exact .miss (RelO.none_of hv)
   | some q=>
    rw[hf] at hv
    have:∃ y,valueAt wb p.1=some y/\L2.RelV (V.int q.2) y:=by
     cases hw:valueAt wb p.1 with
     | none=>rw[hw] at hv;cases hv
     | some y=>rw[hw] at hv;exact ⟨y,rfl,hv⟩
    obtain ⟨y,hy,tk2,rfl⟩:=this
    exact .hit hy (lU p.2 tk q.2 tk2) ih
noncomputable def Al8(neg:Bool):R2:=fun x y H Q=>∃ a b ka kb,x = .ref a/\y = .ref b/\H a=some (.dK (kiV ka))/\H b=some (.dK (kiV kb))/\Q (.bl (if neg then !eqD ka kb else eqD ka kb)) H
theorem Am6(hu:X.A.units < cLine):OpR X (eE .NotEq) (Al8 true):=by
 intro pins s σ H x y v u Q I rx ry h
 obtain ⟨a,b,ka,kb,rfl,rfl,ha,hb,q⟩:=h
 cases rx
 cases ry
 obtain ⟨_,d1,wa,ra,da⟩:=V2 I.hok ha
 obtain ⟨_,d2,wb,rb,db⟩:=V2 I.hok hb
 have l1:=ra.length
 have l2:=rb.length
 unfold kiV at l1 l2
 rw[aV] at l1 l2
 refine PySem.W.keq_ne d1 d2 da db hu (fun _=>Y1 rb ra) ⟨.bl (!eqD ka kb),H,I,?_,q⟩
 unfold eqD
 rw[l1,l2];rfl
noncomputable def Agq:Key×U->Option (Key×Int)
 | (k,.int i)=>some (k,i)
 | _=>none
noncomputable def Cr:S2:=fun u w L=>match u,w with
 | .ref n,.ref m=>match Dg L n with
  | some ka=>(Dg L m).bind fun kb=>(mapO Agq ka).bind fun a=>(mapO Agq kb).map fun b=>(.bl (!eqD a b),L)
  | none=>Ef u w L
 | _,_=>Ef u w L
theorem U3:∀ {kvs:List (Key×U)} {vs:List (Key×V)} {a:List (Key×Int)},RepKV K H α kvs vs->mapO Agq kvs=some a->vs=kiV a
 | [],vs,a,r,e=>by
  simp only[mapO] at e;cases e
  obtain ⟨h1,_⟩:=r
  cases vs with
  | nil=>rfl
  | cons _ _=>simp at h1
 | kv::kvs,vs,a,r,e=>by
  obtain ⟨x,vs',rfl,rx,r'⟩:=r.cons
  simp only[mapO] at e
  obtain ⟨p,e1,e⟩:=aB.mp e
  obtain ⟨ar,e2,e⟩:=aG.mp e
  subst e
  rw[U3 r' e2]
  obtain ⟨k,v⟩:=kv
  cases v with
  | int i=>
   cases e1
   unfold RepU at rx
   subst rx
   rfl
  | _=>cases e1
theorem P7(hu:X.A.units+64 < cLine):OpR X (eE .NotEq) (fun x y H Q=>Acv X.K true x y H Q\/Al8 true x y H Q):=(Mc hu).or (Am6 (by omega))
theorem Mv:C1 K (fun x y H Q=>Acv K true x y H Q\/Al8 true x y H Q) Cr:=by
 intro H α L u w x y z L' Q A ru rw e q
 unfold Cr at e
 split at e
 ·split at e
  ·rename_i n m _ ka hd
   obtain ⟨kb,hb,e⟩:=aB.mp e
   obtain ⟨a,ha',e⟩:=aB.mp e
   obtain ⟨b,hb',e⟩:=aG.mp e
   cases e
   obtain ⟨p,vs,rfl,ep,hp,rk⟩:=Jz A hd ru
   obtain ⟨p2,vs2,rfl,ep2,hp2,rk2⟩:=Jz A hb rw
   rw[U3 rk ha'] at hp
   rw[U3 rk2 hb'] at hp2
   exact .inr ⟨p,p2,a,b,rfl,rfl,hp,hp2,q _ H α (.refl _ _) A rfl⟩
  ·exact .inl (La H α L _ _ x y z L' Q A ru rw e q)
 ·exact .inl (La H α L _ _ x y z L' Q A ru rw e q)
end MR
namespace Lw
open PySem L2 MR
noncomputable def Tj:FS:=(A7 (Ey (Bl (f2 B7 (fSl G7 (Ad 0) (E6 (fC (.int 1))) Cf) (fSl G7 (Ad 1) (E6 (fC (.int 1))) Cf))) (De (fC (.bl false))) Co) (De (Ri (f2 Tf (f2 Ak (Ad 0) (fC (.int 1))) (f2 Ak (Ad 1) (fC (.int 1)))) (f2 Tf (f2 Ak (Ad 0) (fC (.int 2))) (f2 Ak (Ad 1) (fC (.int 2)))))))
noncomputable def Fd:FN:=fnU 2 2 Tj
noncomputable def Ee:FE:=(Ad 0)
noncomputable def Cz:FT:=(Bl (f2 (Vz true) (Ad 0) (Ad 1)))
noncomputable def D8:FE:=(Ad 0)
noncomputable def Ct:FT:=(Kz (A9 2 Fd (Aa (f2 Ak (Ad 1) (Ad 0)) (Aa (f2 Ak (Ad 1) (Ad 2)) Af))))
noncomputable def Ea:FE:=(Ad 0)
noncomputable def Cu:FT:=(Bl (f2 B7 (Bn [none,some 2,some 0] (Bm (Ad 1)) (gN 0) (some Ct) D8) (Cw Af)))
noncomputable def D0:FT:=(Bl (f2 Ef (Ad 1) (Cw Af)))
noncomputable def Ge:FS:=(A7 (A8 (Bn [none,some 1,some 0] (Bm (Ad 1)) (gN 0) (some Cu) Ea) (gN 3)) (A7 (Ik (Eu "list" Hj (Ad 2) (Aa (Ad 3) Af))) (A8 (Bn [none,some 3] (Bm (Ad 1)) (gN 0) (some Cz) Ee) (gN 1))))
noncomputable def Kr:FS:=(A7 (A8 (U1 (Aa (Be Bd (Aa (Ad 0) Af)) Af)) (gN 1)) (A7 (A8 (Cw Af) (gN 2)) (A7 (Ir D0 Ge 100000) (De (Ad 2)))))
noncomputable def Ej:FN:=fnU 4 1 Kr
noncomputable def Ja:FE:=(f2 Ak (f2 Ak (Ad 1) (Ad 0)) (fC (.int 0)))
noncomputable def Je:FE:=(Ad 1)
noncomputable def Jp:FT:=(Bl (f2 B7 (Ad 0) (Ad 2)))
noncomputable def Jc:FE:=(Ad 0)
noncomputable def Jm:FE:=(Ad 1)
noncomputable def Jg:FT:=(Bl (f2 B7 (Ad 0) (Ad 2)))
noncomputable def Iz:FE:=(Ad 0)
noncomputable def Ds:FS:=(Ey (Kz (A9 2 Fd (Aa (f2 Ak (Ad 0) (Ad 3)) (Aa (f2 Ak (Ad 0) (Ad 5)) Af)))) (Ik (Eu "list" C3 (Ad 4) (Aa (Ll (Ad 2) (Ad 5)) Af))) Co)
noncomputable def Dq:FS:=(A7 (A8 (Cw (Aa (Dz (Aa (fC (.int 0)) (Aa (Dz Af) Af))) Af)) (gN 4)) (A7 (Jd (Dd (Aa (Be Bd (Aa (Ad 0) Af)) Af)) (gN 5) Ds) (A7 (A8 (Be N6 (Aa (Bn [none,none] (Bm (Ad 4)) (MR.gTup 2 (MR.gCons (gN 0) (MR.gCons (gN 1) MR.gNil))) none Iz) Af)) (gN 6)) (Th (Ad 2) (Ad 3) (Dz (Aa (f2 Ax (f2 Ak (Ad 1) (Ad 3)) (Ad 6)) (Aa (f2 Ax (Dz (Aa (Ad 3) Af)) (Og (Bn [none,none,some 6] (Bm (Ad 4)) (MR.gTup 2 (MR.gCons (gN 0) (MR.gCons (gN 1) MR.gNil))) (some Jg) Jm))) Af)))))))
noncomputable def Ln:FS:=(A7 (A8 Pp (gN 2)) (A7 (Jd (Bm (Rv (A9 1 Ej (Aa (Ad 0) Af)))) (gN 3) Dq) (A7 (A8 (Be N6 (Aa (Rj (Bn [none,none] (M8 Ih (Ad 2)) (MR.gTup 2 (MR.gCons (gN 0) (MR.gCons (gN 1) MR.gNil))) none Jc)) Af)) (gN 6)) (A7 (A8 (Og (Rj (Bn [none,none,some 6] (M8 Ih (Ad 2)) (MR.gTup 2 (MR.gCons (gN 0) (MR.gCons (gN 1) MR.gNil))) (some Jp) Je))) (gN 7)) (De (Dz (Aa (Ad 6) (Aa (Be Ei (Aa (Bn [none,some 0] (Bm (Ad 7)) (gN 0) none Ja) Af)) Af))))))))
noncomputable def Cg:FN:=fnU 8 2 Ln
noncomputable def C6:FS:=(Ey (Kz (A9 2 Fd (Aa (f2 Ak (Ad 0) (f2 Ak (Ad 3) (T5 (fC (.int 1))))) (Aa (f2 Ak (Ad 0) (Ad 4)) Af)))) (Ik (Eu "list" C3 (Ad 2) (Aa (f2 Ax (Ad 3) (Dz (Aa (Ad 4) Af))) Af))) Co)
noncomputable def Ed:FT:=(Bl (f2 Ef (Ad 2) (Cw Af)))
noncomputable def Gh:FS:=(A7 (A8 (Eu "list" Lg (Ad 2) Af) (gN 3)) (A7 (Ik (Eu "list" C3 (Ad 1) (Aa (Ad 3) Af))) (Jd (Dd (Aa (Be Bd (Aa (Ad 0) Af)) Af)) (gN 4) C6)))
noncomputable def Fy:FE:=(Dz (Aa (Ad 0) Af))
noncomputable def Ko:FS:=(A7 (A8 (Cw Af) (gN 1)) (A7 (A8 (Bn [none] (Dd (Aa (Be Bd (Aa (Ad 0) Af)) Af)) (gN 0) none Fy) (gN 2)) (A7 (Ir Ed Gh 100000) (De (Ad 1)))))
noncomputable def Fw:FN:=fnU 5 1 Ko
noncomputable def Kj:FE:=(f2 Ak (f2 Ak (Ad 1) (Ad 0)) (fC (.int 0)))
noncomputable def Kk:FE:=(f2 Ak (Ad 1) (Ad 0))
noncomputable def Ki:FE:=(Ad 0)
noncomputable def E8:FT:=(Bl (f2 B7 (Be Ma (Aa (Bn [none,some 1] (Bm (Ad 0)) (gN 0) none Kk) Af)) (Ad 2)))
noncomputable def Ov:FE:=(f2 Ak (Ad 1) (Ad 0))
noncomputable def Kl:FE:=(Be Ma (Aa (Bn [none,some 1] (Bm (Ad 0)) (gN 0) none Ov) Af))
noncomputable def Mr:FS:=(A7 (A8 (A9 1 Fw (Aa (Ad 0) Af)) (gN 2)) (A7 (A8 (Be N6 (Aa (Bn [none,some 1] (Bm (Ad 2)) (gN 0) none Kl) Af)) (gN 3)) (A7 (A8 (Bn [none,some 1,some 3] (Bm (Ad 2)) (gN 0) (some E8) Ki) (gN 4)) (De (Dz (Aa (Ad 3) (Aa (Be Ei (Aa (Bn [none,some 0] (Bm (Og (Ad 4))) (gN 0) none Kj) Af)) Af)))))))
noncomputable def Dl:FN:=fnU 5 2 Mr
noncomputable def Fz:FS:=(A7 (A8 (A9 2 Dk (Aa (Ad 0) (Aa (Ad 2) Af))) (gN 6)) (A7 (A8 (A9 2 Dk (Aa (Ad 0) (Aa (Ad 2) Af))) (gN 7)) (A7 (Ey (Bl (f2 B7 (Ad 3) (fC (.int 1)))) (A8 (f2 Ax (Ad 6) (f2 Bo (A9 2 Ap (Aa (Ad 0) (Aa (fC (.int 3)) Af))) (Be Nx (Aa (f2 Hv (Be Ju (Aa (Ad 6) Af)) (f2 Dh (fC (.int 10)) (fC (.int 9)))) Af)))) (gN 7)) Co) (A7 (Ey (Bl (f2 B7 (Ad 3) (fC (.int 2)))) (A8 (f2 Pk (fC (.int 0)) (Ad 6)) (gN 7)) Co) (A7 (Ey (Ou (Bl (f2 Ef (Ad 4) (Cw Af))) (Bl (f2 B7 (A9 2 Ap (Aa (Ad 0) (Aa (fC (.int 5)) Af))) (fC (.int 0))))) (A8 (fSl G7 (f2 Ak (Ad 4) (A9 2 Ap (Aa (Ad 0) (Aa (Be Bd (Aa (Ad 4) Af)) Af)))) (E6 (fC (.int 1))) Cf) (MR.gTup 2 (MR.gCons (gN 6) (MR.gCons (gN 7) MR.gNil)))) Co) (A7 (Ey (Ou (Bl (f2 Ef (Ad 4) (Cw Af))) (Bl (f2 B7 (A9 2 Ap (Aa (Ad 0) (Aa (fC (.int 5)) Af))) (fC (.int 0))))) (A8 (f2 Ak (f2 Ak (Ad 4) (A9 2 Ap (Aa (Ad 0) (Aa (Be Bd (Aa (Ad 4) Af)) Af)))) (fC (.int 1))) (gN 6)) Co) (Ik (Eu "list" C3 (Ad 4) (Aa (Dz (Aa (Ad 5) (Aa (Ad 6) (Aa (Ad 7) Af)))) Af)))))))))
noncomputable def Rb:FS:=(A7 (A8 (A9 2 Ap (Aa (Ad 0) (Aa (fC (.int 3)) Af))) (gN 2)) (A7 (A8 (A9 2 Ap (Aa (Ad 0) (Aa (fC (.int 4)) Af))) (gN 3)) (A7 (A8 (Cw Af) (gN 4)) (A7 (Jd (Bm (A9 2 Hi (Aa (Ad 0) (Aa (A9 2 Ap (Aa (Ad 0) (Aa (f2 Ax (Ad 1) (fC (.int 1))) Af))) Af)))) (gN 5) Fz) (De (Be Ei (Aa (Ad 4) Af)))))))
noncomputable def Kf:FN:=fnU 8 2 Rb
noncomputable def Oo(R:FN):FE:=(fC (.int 1))
noncomputable def Ig(R:FN):FT:=(Uo (Kz (A9 2 R (Aa (Ad 0) (Aa (Ad 1) Af)))))
noncomputable def Gv(R:FN):FS:=(A7 (Ey (Bl (f2 (Ot false) (Ad 1) (fC .non))) (De (f2 (Ot false) (Ad 0) (fC .non))) Co) (A7 (Ey (Kz (Wm "tuple" (Ad 1))) (A7 (Ey (fOr (Uo (Kz (Wm "tuple" (Ad 0)))) (Bl (f2 Ef (Be Bd (Aa (Ad 0) Af)) (Be Bd (Aa (Ad 1) Af))))) (De (fC (.bl false))) Co) (De (f2 B7 (Bn [none,none] (Q9 (Aa (Ad 0) (Aa (Ad 1) Af))) (MR.gTup 2 (MR.gCons (gN 0) (MR.gCons (gN 1) MR.gNil))) (some (Ig R)) (Oo R)) (Cw Af)))) Co) (A7 (Ey (Kz (Wm "str" (Ad 1))) (De (Ri (Wm "str" (Ad 0)) (f2 B7 (Ad 0) (Ad 1)))) Co) (De (Ri (Wm "int" (Ad 0)) (Ri (Afb (Wm "bool" (Ad 0))) (f2 B7 (Ad 0) (Ad 1))))))))
noncomputable def Hl:Nat->FN
 | 0=>fun _ _=>none
 | k+1=>fnU 2 2 (Gv (Hl k))
noncomputable def Kt:FN:=Hl 3
noncomputable def Dv:FS:=(Th (Ad 3) (Ad 4) (f2 C5 (f2 Ax (f2 Bo (A9 2 Ap (Aa (Ad 0) (Aa (f2 Dh (fC (.int 10)) (fC (.int 5))) Af))) (f2 Dh (fC (.int 10)) (fC (.int 5)))) (A9 2 Ap (Aa (Ad 0) (Aa (f2 Dh (fC (.int 10)) (fC (.int 5))) Af)))) (Ad 2)))
noncomputable def Od:FS:=(A7 (A8 (f2 Ak (Cw (Aa (fC (.int 2)) (Aa (fC (.int 4)) (Aa (fC (.int 30)) (Aa (f2 Dh (fC (.int 10)) (fC (.int 10))) Af))))) (A9 2 Ap (Aa (Ad 0) (Aa (fC (.int 4)) Af)))) (gN 2)) (A7 (A8 Pp (gN 3)) (A7 (Jd (Bm (f2 Ak (Cw (Aa (Ad 1) (Aa (Rv (Ad 1)) (Aa (Be Fj (Aa (Ad 1) Af)) Af)))) (A9 2 Ap (Aa (Ad 0) (Aa (fC (.int 3)) Af))))) (MR.gTup 3 (MR.gCons (gN 4) (MR.gCons (gN 5) (MR.gCons (gN 6) MR.gNil)))) Dv) (De (Ad 3)))))
noncomputable def Gu:FN:=fnU 7 2 Od
noncomputable def B0:FE:=(Dz (Aa (T5 (f2 Ak (Ad 0) (fC (.int 0)))) (Aa (f2 Ak (Ad 0) (fC (.int 1))) Af)))
noncomputable def Jq:FS:=(De (Nd [none] B0 (Ad 0)))
noncomputable def C2:FN:=fnU 1 1 Jq
noncomputable def G3:FE:=(f2 Tf (Ad 0) (Ad 1))
noncomputable def Kh:FS:=(De (Ri (f2 Ef (Ad 0) (Ad 1)) (Be Qd (Aa (Bn [none,none] (Q9 (Aa (Ad 0) (Aa (Ad 1) Af))) (MR.gTup 2 (MR.gCons (gN 0) (MR.gCons (gN 1) MR.gNil))) none G3) Af))))
noncomputable def Ft:FN:=fnU 2 2 Kh
noncomputable def Qb:FS:=(De (Dz (Aa (f2 Ak (Ad 0) (fC (.int 1))) (Aa (f2 Ak (Ad 0) (fC (.int 2))) Af))))
noncomputable def Gb:FN:=fnU 1 1 Qb
noncomputable def Jl:FE:=(Ad 0)
noncomputable def Ep:FT:=(Kz (A9 2 Ft (Aa (Ad 2) (Aa (A9 1 Gb (Aa (Ad 1) Af)) Af))))
noncomputable def Lr:FS:=(A7 (A8 (A9 1 Gb (Aa (Ad 1) Af)) (gN 2)) (De (Bn [none,none,some 2] (Xr (Aa (Ad 0) Af)) (MR.gTup 2 (MR.gCons (gN 0) (MR.gCons (gN 1) MR.gNil))) (some Ep) Jl)))
noncomputable def E7:FN:=fnU 3 2 Lr
noncomputable def Ay:FE:=(A9 1 Gb (Aa (f2 Ak (Ad 1) (Ad 0)) Af))
noncomputable def E4:FS:=(De (K5 [none,some 0] Ay (Aa (Be Bd (Aa (Ad 0) Af)) Af)))
noncomputable def Bs:FN:=fnU 1 1 E4
noncomputable def G4:FE:=(Ll (Ad 1) (Ad 0))
noncomputable def Dj:FS:=(A7 (A8 (Bn [none,some 2] (Bm (A9 2 E7 (Aa (Ad 0) (Aa (f2 Ak (Ad 0) (Ad 3)) Af)))) (gN 0) none G4) (gN 4)) (A7 (A8 (A9 1 C2 (Aa (f2 Ax (Cw (Aa (Dz (Aa (fC (.int 0)) (Aa (Dz Af) Af))) Af)) (Ad 4)) Af)) (gN 5)) (Th (Ad 2) (Ad 3) (Dz (Aa (f2 Ax (Ll (Ad 1) (f2 Ak (f2 Ak (Ad 0) (Ad 3)) (fC (.int 0)))) (f2 Ak (Ad 5) (fC (.int 0)))) (Aa (f2 Ax (Dz (Aa (Ad 3) Af)) (f2 Ak (Ad 5) (fC (.int 1)))) Af))))))
noncomputable def Jn:FS:=(A7 (A8 Pp (gN 2)) (A7 (Jd (Bm (A9 1 Bs (Aa (Ad 0) Af))) (gN 3) Dj) (De (Uc (Ad 2)))))
noncomputable def Em:FN:=fnU 6 2 Jn
noncomputable def G6:FE:=(f2 Ak (f2 Ak (Ad 1) (Ad 0)) (fC (.int 0)))
noncomputable def Iu:FS:=(A7 (Ey (Uo (Kz (Ad 0))) (De (Dz (Aa (fC (.int 0)) (Aa (Dz Af) Af)))) Co) (A7 (A8 (A9 1 C2 (Aa (A9 2 Em (Aa (Ad 0) (Aa (Ad 1) Af))) Af)) (gN 2)) (De (Dz (Aa (f2 Ak (Ad 2) (fC (.int 0))) (Aa (Be Ei (Aa (Bn [none,some 0] (Bm (f2 Ak (Ad 2) (fC (.int 1)))) (gN 0) none G6) Af)) Af))))))
noncomputable def Bj:FN:=fnU 3 2 Iu
noncomputable def Wa:FE:=(Ll (Ad 1) (f2 Ak (Ad 0) (fC (.int 0))))
noncomputable def U8:FE:=(Ll (Ad 3) (Ad 0))
noncomputable def Ph:FS:=(A7 (A8 (A9 2 Kf (Aa (Ad 1) (Aa (f2 Ak (Cw (Aa (fC (.int 8)) (Aa (fC (.int 8)) (Aa (fC (.int 8)) (Aa (fC (.int 60)) Af))))) (A9 2 Ap (Aa (Ad 1) (Aa (fC (.int 4)) Af)))) Af))) (gN 3)) (A7 (A8 (A9 2 Gu (Aa (Ad 1) (Aa (Ad 3) Af))) (gN 4)) (A7 (A8 (Bn [none,none,none,some 4] (Bm (Ad 3)) (MR.gTup 3 (MR.gCons (gN 0) (MR.gCons (gN 1) (MR.gCons (gN 2) MR.gNil)))) none U8) (gN 5)) (A7 (A8 (Be Mp (Aa (Ad 4) Af)) (gN 6)) (A7 (A8 (Dz (Aa (fC (.int 0)) (Aa (Dz Af) Af))) (gN 7)) (A7 (Ey (Bl (f2 Cr (Ad 3) (Dz Af))) (A8 (A9 2 Cg (Aa (Ad 3) (Aa (Ad 5) Af))) (gN 7)) Co) (A7 (Ey (Ou (Bl (Mh Hv Hv (fC (.int 0)) (Be Bd (Aa (Ad 3) Af)) (fC (.int 9)))) (Bl (f2 Cr (Ad 7) (A9 2 Dl (Aa (Ad 3) (Aa (Ad 5) Af)))))) (De (fC (.bl false))) Co) (A7 (A8 (A9 2 Gu (Aa (Ad 1) (Aa (Ad 3) Af))) (gN 8)) (A7 (Ik (A9 2 Bj (Aa (Ad 3) (Aa (Ad 8) Af)))) (A7 (Ey (fOr (Uo (Kz (A9 2 Kt (Aa (A9 2 Bj (Aa (Ad 3) (Aa (Ad 4) Af))) (Aa (Ad 7) Af))))) (Bl (f2 Cr (Ad 4) (Ad 6)))) (De (fC (.bl false))) Co) (A7 (A8 (A9 2 Bj (Aa (Ad 3) (Aa (Ad 8) Af))) (gN 9)) (A7 (A8 (Bn [none,some 8] (Bm (Ad 3)) (gN 0) none Wa) (gN 10)) (Ey (Ou (Bl (f2 Cr (Ad 3) (Dz Af))) (Bl (f2 Cr (Ad 9) (A9 2 Cg (Aa (Ad 3) (Aa (Ad 10) Af)))))) (De (fC (.bl false))) Co)))))))))))))
noncomputable def Aj9:FS:=(A7 (A8 (A9 1 Mw (Aa (Ad 0) Af)) (gN 1)) (A7 (Jd (Dd (Aa (fC (.int 4)) Af)) (gN 2) Ph) (De (fC (.bl true)))))
noncomputable def Wk:FN:=fnU 11 1 Aj9
abbrev P3:=Str×Int×Int
noncomputable def p3U(p:P3):U:=.tup [.str p.1,.int p.2.1,.int p.2.2]
theorem Aof{p:P3}(h:Low p.1):Pl 6 (p3U p):=by
 unfold p3U
 rw[Gg]
 intro u hu
 simp only[bE,eG,or_false] at hu
 rcases hu with rfl | rfl | rfl
 ·show Pl 5 (.str p.1)
  simpa[Pl] using h.ok
 ·exact Pl.int _ _
 ·exact Pl.int _ _
variable {M:UH}{f:Nat}{ps:List P3}
theorem Acn(h:M[f]? = some (.lst (ps.map p3U)))(hw:∀ p∈ps,Low p.1):Ef (.ref f) (.ref M.length) (M++[.lst []])=some (.bl (!ps.isEmpty),M++[.lst []]):=by
 have q1:Ao (M++[HU.lst []]) f=some (ps.map p3U):=Aj ((Gw.new M _).get h)
 have q2:Ao (M++[HU.lst []]) M.length=some []:=Aj (by simp)
 have hp:∀ u∈ps.map p3U,Pl 6 u:=fun u hu=>by obtain ⟨a,ha,rfl⟩:=cB.mp hu;exact Aof (hw a ha)
 have hp0:∀ u∈([]:List U),Pl 6 u:=fun u hu=>by cases hu
 rw[Ny q1 q2 hp hp0]
 cases ps with
 | nil=>rfl
 | cons p ps=>
  have:R4 ((p::ps).map p3U) []=false:=by
   have:=(Ae2 (us:=(p::ps).map p3U) (ws:=[]) hp hp0)
   cases hq:R4 ((p::ps).map p3U) [] with
   | false=>rfl
   | true=>exact absurd (this.mp hq) (by simp)
  rw[this];rfl
variable {L:UH}{d:Nat}{B:Int}{δ:UE}
theorem Aa6(D:Gdk L d B)(hB:B<=100000000)(hf:L[f]? = some (.lst (ps.map p3U)))(hfd:f≠d)(hp:ps≠[])(hs:ps.length<=1000)(h0:∀ M,Ad 0 δ M=some (.ref d,M))(h4:∀ M,Ad 4 δ M=some (.ref f,M)) :
  ∃ (p:P3) (L':UH),(f2 Ak (Ad 4) (A9 2 Ap (Aa (Ad 0) (Aa (Be Bd (Aa (Ad 4) Af)) Af)))) δ L=some (p3U p,L')/\Gdk L' d (B+1)/\Ex d L L':=by
 have hpos:0 < ps.length:=iG.mpr hp
 obtain ⟨i,L1,e1,i0,i1,D1,x1⟩:=B3 (many:=((ps.map p3U).length:Nat)) D (by omega) (by simp;omega) (by simp;omega)
 have hf1:=x1.get hf hfd
 have hlen:=Aba hf
 rw[aV] at i1
 have hix:L2.atI (ps.map p3U) i=some (p3U (ps[i.toNat]'(by omega))):=by
  rw[Uh i0 (by rw[aV];omega),bO,aI (by omega)];rfl
 refine ⟨ps[i.toNat]'(by omega),L1,?_,D1,x1⟩
 rw[f2_eq,h4,aA,fOwn_eq,fCons_eq,h0]
 simp only[aA,fCons_eq,fCall_eq,h4,fNil_eq,aD,hlen,aN,bF,if_true,e1,semIx_ref,Aj hf1,hix]
theorem Yy{c:Int}(D:Gdk M d B)(hB:B<=100000000)(hf:M[f]? = some (.lst (ps.map p3U)))(hw:∀ p∈ps,Low p.1)(h0:0 < c)(h1:c < 1000)(v0:∀ M,Ad 0 δ M=some (.ref d,M))(v4:∀ M,Ad 4 δ M=some (.ref f,M)) :
  ∃ (b:Bool) (M':UH),(Ou (Bl (f2 Ef (Ad 4) (Cw Af))) (Bl (f2 B7 (A9 2 Ap (Aa (Ad 0) (Aa (fC (.int c)) Af))) (fC (.int 0))))) δ M=some (b,M')/\(b=true->ps≠[])/\Gdk M' d (B+1)/\Ex d M M':=by
 have sm0:small ([]:List U).length=true:=small_of (by show 0<=16777216;decide)
 have hl:∀ M,(Cw Af) δ M=some (.ref M.length,M++[.lst []]):=fun M=>by rw[fLst_eq,fNil_eq,aA,if_pos sm0]
 have hne:=Acn hf hw
 have t1:(f2 Ef (Ad 4) (Cw Af)) δ M=some (.bl (!ps.isEmpty),M++[.lst []]):=by
  rw[f2_eq,v4,aA,hl,aA,hne]
 cases hps:ps.isEmpty with
 | true=>
  rw[hps] at t1
  refine ⟨false,M++[.lst []],?_,(fun h=>by cases h),(D.new _).mono (by omega),Ex.new d M _⟩
  simp only[fAnd_eq,fTest_eq,t1,aA,iT,bH,if_false]
 | false=>
  rw[hps] at t1
  obtain ⟨i,M2,e1,i0,i1,D1,x1⟩:=B3 (many:=c) (D.new [HU.lst []]) (by omega) h0 (by omega)
  refine ⟨i == 0,M2,?_,(fun _=>by intro h;rw[h] at hps;cases hps),D1,(Ex.new d M _).trans x1⟩
  have t2:(f2 B7 (A9 2 Ap (Aa (Ad 0) (Aa (fC (.int c)) Af))) (fC (.int 0))) δ (M++[.lst []])=some (.bl (i == 0),M2):=by
   rw[f2_eq,Lq (i:=0) (v0 _) e1]
   simp only[aA,fC_eq,semEq_int]
  simp only[fAnd_eq,fTest_eq,t1,aA,pK,if_true,t2]
theorem Akv(k:Bool)(L:UH):Nx [.bl k] L=some (.int (if k then 1 else 0),L):=rfl
noncomputable def pt3:FS:=(Ey (Bl (f2 B7 (Ad 3) (fC (.int 1)))) (A8 (f2 Ax (Ad 6) (f2 Bo (A9 2 Ap (Aa (Ad 0) (Aa (fC (.int 3)) Af))) (Be Nx (Aa (f2 Hv (Be Ju (Aa (Ad 6) Af)) (f2 Dh (fC (.int 10)) (fC (.int 9)))) Af)))) (gN 7)) Co)
noncomputable def Amb(pw:S2)(ab:SC):FE:=(f2 Ax (Ad 6) (f2 Bo (A9 2 Ap (Aa (Ad 0) (Aa (fC (.int 3)) Af))) (Be Nx (Aa (f2 Hv (Be ab (Aa (Ad 6) Af)) (f2 pw (fC (.int 10)) (fC (.int 9)))) Af))))
variable {x:Int}
theorem Ajm{pw:S2}{ab:SC}{M1:UH}{i E ca:Int}(x1 x2 x3 x4 x5 x7:Option U)(e1:Ap [.ref d,.int 3] M=some (.int i,M1))(h0:0<=i)(h1:i < 3)(hp:pw (.int 10) (.int 9) M1=some (.int E,M1))(hab:ab [.int x] M1=some (.int ca,M1)) :
  ∃ y:Int,Amb pw ab [some (.ref d),x1,x2,x3,x4,x5,some (.int x),x7] M=some (.int y,M1):=by
 have a1:=Lq (i:=0) (δ:=[some (.ref d),x1,x2,x3,x4,x5,some (.int x),x7]) rfl e1
 have hlt:Hv (.int ca) (.int E) M1=some (.bl (decide (ca < E)),M1):=rfl
 have hmu:∀ z:Int,Bo (.int i) (.int z) M1=some (.int (i * z),M1):=fun z=>by
  have:=Lh (i:=i) (j:=z) (by omega) (by omega)
  simp only[Bo,this,if_true]
 refine ⟨x+i * (if decide (ca < E) then 1 else 0),?_⟩
 have v6:∀ M,Ad 6 [some (.ref d),x1,x2,x3,x4,x5,some (.int x),x7] M=some (.int x,M):=fun _=>rfl
 unfold Amb
 rw[f2_eq,v6,aA,f2_eq,a1]
 simp only[aA,fCall_eq,fCons_eq,fNil_eq,f2_eq,v6,fC_eq,aD,hab,hp,hlt,Akv,hmu,semAdd_int]
theorem Apo(L:UH):Dh (.int 10) (.int 9) L=some (.int 1000000000,L):=by
 have p:Tn 10 9=true:=rfl
 simp[p]
variable {way y:Int}
theorem Amo(D:Gdk M d B)(hB:B<=10000000)(x1 x2 x4 x5:Option U) :
  ∃ (y':Int) (M':UH),pt3 [some (.ref d),x1,x2,some (.int way),x4,x5,some (.int x),some (.int y)] M=some (.nx [some (.ref d),x1,x2,some (.int way),x4,x5,some (.int x),some (.int y')],M')/\Gdk M' d (B+1)/\Ex d M M':=by
 have t:(f2 B7 (Ad 3) (fC (.int 1))) [some (.ref d),x1,x2,some (.int way),x4,x5,some (.int x),some (.int y)] M=some (.bl (way == 1),M):=by
  simp only[f2_eq,fVar_eq,fC_eq,aR,aK,bB,aD,aA,semEq_int]
 have hb:pt3=Ey (Bl (f2 B7 (Ad 3) (fC (.int 1)))) (A8 (Amb Dh Ju) (gN 7)) Co:=rfl
 cases hw:(way == (1:Int)) with
 | true=>
  rw[hw] at t
  obtain ⟨i,M1,e1,i0,i1,D1,x1'⟩:=B3 (many:=3) D (by omega) (by decide) (by decide)
  obtain ⟨y',e⟩:=Ajm (x:=x) x1 x2 (some (.int way)) x4 x5 (some (.int y)) e1 i0 i1 (Apo M1) (Xt x M1)
  have s:=Dp (i:=7) e
  simp only[aZ,bA] at s
  refine ⟨y',M1,?_,D1,x1'⟩
  rw[hb,fIfS_eq,fTest_eq,t]
  simp only[aA,if_true]
  exact s
 | false=>
  rw[hw] at t
  refine ⟨y,M,?_,D.mono (by omega),Ex.refl d M⟩
  rw[hb,fIfS_eq,fTest_eq,t]
  simp only[aA,bH,if_false,B4]
noncomputable def pt4:FS:=(Ey (Bl (f2 B7 (Ad 3) (fC (.int 2)))) (A8 (f2 Pk (fC (.int 0)) (Ad 6)) (gN 7)) Co)
theorem Amq(x0 x1 x2 x4 x5:Option U) :
  ∃ (y':Int),pt4 [x0,x1,x2,some (.int way),x4,x5,some (.int x),some (.int y)] M=some (.nx [x0,x1,x2,some (.int way),x4,x5,some (.int x),some (.int y')],M):=by
 have t:(f2 B7 (Ad 3) (fC (.int 2))) [x0,x1,x2,some (.int way),x4,x5,some (.int x),some (.int y)] M=some (.bl (way == 2),M):=by
  simp only[f2_eq,fVar_eq,fC_eq,aR,aK,bB,aD,aA,semEq_int]
 cases hw:(way == (2:Int)) with
 | true=>
  rw[hw] at t
  refine ⟨0 - x,?_⟩
  unfold pt4
  rw[fIfS_eq,fTest_eq,t]
  simp only[aA,if_true,fAsg_eq,f2_eq,fC_eq,fVar_eq,aR,aK,bB,aD,semSub_int,gN_eq,aZ,bA]
 | false=>
  rw[hw] at t
  refine ⟨y,?_⟩
  unfold pt4
  rw[fIfS_eq,fTest_eq,t]
  simp only[aA,bH,if_false,B4]
noncomputable def Vr:FE:=(f2 Ak (Ad 4) (A9 2 Ap (Aa (Ad 0) (Aa (Be Bd (Aa (Ad 4) Af)) Af))))
noncomputable def pt5:FS:=(Ey (Ou (Bl (f2 Ef (Ad 4) (Cw Af))) (Bl (f2 B7 (A9 2 Ap (Aa (Ad 0) (Aa (fC (.int 5)) Af))) (fC (.int 0))))) (A8 (fSl G7 Vr (E6 (fC (.int 1))) Cf) (MR.gTup 2 (MR.gCons (gN 6) (MR.gCons (gN 7) MR.gNil)))) Co)
theorem Am9(D:Gdk M d B)(hB:B<=10000000)(hf:M[f]? = some (.lst (ps.map p3U)))(hfd:f≠d)(hs:ps.length<=100)(hw:∀ p∈ps,Low p.1)(x1 x2 x3 x5:Option U) :
  ∃ (x' y':Int) (M':UH),pt5 [some (.ref d),x1,x2,x3,some (.ref f),x5,some (.int x),some (.int y)] M=some (.nx [some (.ref d),x1,x2,x3,some (.ref f),x5,some (.int x'),some (.int y')],M')/\Gdk M' d (B+2)/\Ex d M M':=by
 obtain ⟨b,M1,e1,hb,D1,x1'⟩:=Yy (c:=5) D (by omega) hf hw (by decide) (by decide) (δ:=[some (.ref d),x1,x2,x3,some (.ref f),x5,some (.int x),some (.int y)]) (fun _=>rfl) (fun _=>rfl)
 cases b with
 | false=>
  refine ⟨x,y,M1,?_,D1.mono (by omega),x1'⟩
  unfold pt5
  rw[fIfS_eq,e1]
  simp only[aA,bH,if_false,B4]
 | true=>
  obtain ⟨p,M2,e2,D2,x2'⟩:=Aa6 D1 (by omega) (x1'.get hf hfd) hfd (hb rfl) (by omega) (δ:=[some (.ref d),x1,x2,x3,some (.ref f),x5,some (.int x),some (.int y)]) (fun _=>rfl) (fun _=>rfl)
  have e2':Vr [some (.ref d),x1,x2,x3,some (.ref f),x5,some (.int x),some (.int y)] M1=some (p3U p,M2):=e2
  have hc:G7 (p3U p) (some 1) none M2=some (.tup [.int p.2.1,.int p.2.2],M2):=rfl
  have hg:(MR.gTup 2 (MR.gCons (gN 6) (MR.gCons (gN 7) MR.gNil))) (.tup [.int p.2.1,.int p.2.2]) [some (.ref d),x1,x2,x3,some (.ref f),x5,some (.int x),some (.int y)] M2=some ([some (.ref d),x1,x2,x3,some (.ref f),x5,some (.int p.2.1),some (.int p.2.2)],M2):=rfl
  refine ⟨p.2.1,p.2.2,M2,?_,D2.mono (by omega),x1'.trans x2'⟩
  unfold pt5
  rw[fIfS_eq,e1]
  simp only[aA,if_true]
  rw[fAsg_eq,fSl_eq,e2']
  simp only[aA,fPart_eq,fC_eq,fNoPart_eq,aD,hc,hg]
noncomputable def pt6:FS:=(Ey (Ou (Bl (f2 Ef (Ad 4) (Cw Af))) (Bl (f2 B7 (A9 2 Ap (Aa (Ad 0) (Aa (fC (.int 5)) Af))) (fC (.int 0))))) (A8 (f2 Ak Vr (fC (.int 1))) (gN 6)) Co)
theorem Aku(D:Gdk M d B)(hB:B<=10000000)(hf:M[f]? = some (.lst (ps.map p3U)))(hfd:f≠d)(hs:ps.length<=100)(hw:∀ p∈ps,Low p.1)(x1 x2 x3 x5 x7:Option U) :
  ∃ (x':Int) (M':UH),pt6 [some (.ref d),x1,x2,x3,some (.ref f),x5,some (.int x),x7] M=some (.nx [some (.ref d),x1,x2,x3,some (.ref f),x5,some (.int x'),x7],M')/\Gdk M' d (B+2)/\Ex d M M':=by
 obtain ⟨b,M1,e1,hb,D1,x1'⟩:=Yy (c:=5) D (by omega) hf hw (by decide) (by decide) (δ:=[some (.ref d),x1,x2,x3,some (.ref f),x5,some (.int x),x7]) (fun _=>rfl) (fun _=>rfl)
 cases b with
 | false=>
  refine ⟨x,M1,?_,D1.mono (by omega),x1'⟩
  unfold pt6
  rw[fIfS_eq,e1]
  simp only[aA,bH,if_false,B4]
 | true=>
  obtain ⟨p,M2,e2,D2,x2'⟩:=Aa6 D1 (by omega) (x1'.get hf hfd) hfd (hb rfl) (by omega) (δ:=[some (.ref d),x1,x2,x3,some (.ref f),x5,some (.int x),x7]) (fun _=>rfl) (fun _=>rfl)
  have e2':Vr [some (.ref d),x1,x2,x3,some (.ref f),x5,some (.int x),x7] M1=some (p3U p,M2):=e2
  have hc:Ak (p3U p) (.int 1) M2=some (.int p.2.1,M2):=rfl
  refine ⟨p.2.1,M2,?_,D2.mono (by omega),x1'.trans x2'⟩
  have h1:(f2 Ak Vr (fC (.int 1))) [some (.ref d),x1,x2,x3,some (.ref f),x5,some (.int x),x7] M1=some (.int p.2.1,M2):=by
   rw[f2_eq,e2']
   simp only[aA,fC_eq,hc]
  have s:=Dp (i:=6) h1
  simp only[aZ,bA] at s
  unfold pt6
  rw[fIfS_eq,e1]
  simp only[aA,if_true]
  exact s
noncomputable def pt7:FS:=(Ik (Eu "list" C3 (Ad 4) (Aa (Dz (Aa (Ad 5) (Aa (Ad 6) (Aa (Ad 7) Af)))) Af)))
theorem Akw(hf:M[f]? = some (.lst (ps.map p3U)))(hs:ps.length<=100)(name:Str)(x y:Int)(x0 x1 x2 x3:Option U) :
  pt7 [x0,x1,x2,x3,some (.ref f),some (.str name),some (.int x),some (.int y)] M=some (.nx [x0,x1,x2,x3,some (.ref f),some (.str name),some (.int x),some (.int y)],M.set f (.lst ((ps++[(name,x,y)]).map p3U))):=by
 have sm3:∀ x y z:U,small [x,y,z].length=true:=fun _ _ _=>small_of (by show 3<=16777216;decide)
 have t1:(Dz (Aa (Ad 5) (Aa (Ad 6) (Aa (Ad 7) Af)))) [x0,x1,x2,x3,some (.ref f),some (.str name),some (.int x),some (.int y)] M=some (p3U (name,x,y),M):=by
  simp only[fTup_eq,fCons_eq,fVar_eq,fNil_eq,aR,aK,bB,aD,aA]
  rw[if_pos (sm3 _ _ _)]
  rfl
 have ap:=Jo (p3U (name,x,y)) hf (by simp;omega)
 have hm:ps.map p3U++[p3U (name,x,y)]=(ps++[(name,x,y)]).map p3U:=by simp
 rw[hm] at ap
 have ty:=Im hf
 unfold pt7
 rw[Hs,fMeth_eq]
 simp only[fVar_eq,aR,aK,bB,aD,aA,ty,if_true]
 rw[fCons_eq,t1]
 simp only[aA,fNil_eq,aD,ap]
variable {i j:Nat}{u v:U}{L':UH}
theorem Afs{f:FN}{w:U}(h:Ad i δ L=some (u,L))(h2:Ad j δ L=some (w,L))(e:f [u,w] L=some (v,L')):(A9 2 f (Aa (Ad i) (Aa (Ad j) Af))) δ L=some (v,L'):=by
 rw[fOwn_eq,fCons_eq,h]
 simp only[aA,fCons_eq,h2,fNil_eq,aD,aN,bF,if_true,e]
theorem Vo{kind:Int}(D:Gdk M d B)(hB:B<=1000000)(hf:M[f]? = some (.lst (ps.map p3U)))(hfd:f≠d)(hs:ps.length<=99)(hw:∀ p∈ps,Low p.1)(hk:kind=0\/kind=1\/kind=2)(name:Str)(x1 x6 x7:Option U) :
  ∃ (y6 y7:Option U) (x y:Int) (M':UH),Fz [some (.ref d),x1,some (.int kind),some (.int way),some (.ref f),some (.str name),x6,x7] M=some (.nx [some (.ref d),x1,some (.int kind),some (.int way),some (.ref f),some (.str name),y6,y7],M')/\Gdk M' d (B+11)/\M'[f]? = some (.lst ((ps++[(name,x,y)]).map p3U))/\(∀ L,Ex d L M->L.length<=f->Ex d L M')/\(∀ n o,n≠d->n≠f->M[n]? = some o->M'[n]? = some o):=by
 obtain ⟨x,M1,e1,D1,z1⟩:=Sn D (by omega) hk
 have s1:=Dp (i:=6) (Afs (i:=0) (j:=2) (δ:=[some (.ref d),x1,some (.int kind),some (.int way),some (.ref f),some (.str name),x6,x7]) rfl rfl e1)
 obtain ⟨y,M2,e2,D2,z2⟩:=Sn D1 (by omega) hk
 have s2:=Dp (i:=7) (Afs (i:=0) (j:=2) (δ:=[some (.ref d),x1,some (.int kind),some (.int way),some (.ref f),some (.str name),some (.int x),x7]) rfl rfl e2)
 simp only[aZ,bA] at s1 s2
 obtain ⟨y3,M3,s3,D3,z3⟩:=Amo (way:=way) (x:=x) (y:=y) D2 (by omega) x1 (some (.int kind)) (some (.ref f)) (some (.str name))
 obtain ⟨y4,s4⟩:=Amq (M:=M3) (way:=way) (x:=x) (y:=y3) (some (.ref d)) x1 (some (.int kind)) (some (.ref f)) (some (.str name))
 have hf3:=z3.get (z2.get (z1.get hf hfd) hfd) hfd
 obtain ⟨x5,y5,M5,s5,D5,z5⟩:=Am9 (x:=x) (y:=y4) D3 (by omega) hf3 hfd (by omega) hw x1 (some (.int kind)) (some (.int way)) (some (.str name))
 have hf5:=z5.get hf3 hfd
 obtain ⟨x6',M6,s6,D6,z6⟩:=Aku (x:=x5) D5 (by omega) hf5 hfd (by omega) hw x1 (some (.int kind)) (some (.int way)) (some (.str name)) (some (.int y5))
 have hf6:=z6.get hf5 hfd
 have s7:=Akw hf6 (by omega) name x6' y5 (some (.ref d)) x1 (some (.int kind)) (some (.int way))
 have zz:=z1.trans (z2.trans (z3.trans (z5.trans z6)))
 refine ⟨some (.int x6'),some (.int y5),x6',y5,M6.set f (.lst ((ps++[(name,x6',y5)]).map p3U)),?_,(D6.set hfd _).mono (by omega),bQ (aJ.mp hf6).1,fun L e hL=>(e.trans zz).set hL _,fun n o hn1 hn2 ho=>by rw[bR (eP hn2)];exact zz.get ho hn1⟩
 have hb:Fz=A7 (A8 (A9 2 Dk (Aa (Ad 0) (Aa (Ad 2) Af))) (gN 6)) (A7 (A8 (A9 2 Dk (Aa (Ad 0) (Aa (Ad 2) Af))) (gN 7)) (A7 pt3 (A7 pt4 (A7 pt5 (A7 pt6 pt7))))):=rfl
 rw[hb,Al s1,Al s2,Al s3,Al s4,Al s5,Al s6]
 exact s7
theorem Ac7{most:Nat}(D:Gdk L d B)(hB:B<=100000)(hm:most<=60) :
  ∃ (ps:List P3) (L':UH),Kf [.ref d,.int most] L=some (.tup (ps.map p3U),L')/\ps.length<=most/\(∀ p∈ps,Low p.1)/\Gdk L' d (B+1000)/\Ex d L L':=by
 have sm0:small ([]:List U).length=true:=small_of (by show 0<=16777216;decide)
 obtain ⟨kind,L1,e1,k0,k1,D1,x1⟩:=B3 (many:=3) D (by omega) (by decide) (by decide)
 have s1:=Dp (i:=2) (Lq (i:=0) (δ:=[some (.ref d),some (.int most),none,none,none,none,none,none]) rfl e1)
 obtain ⟨way,L2',e2,w0,w1,D2,x2⟩:=B3 (many:=4) D1 (by omega) (by decide) (by decide)
 have s2:=Dp (i:=3) (Lq (i:=0) (δ:=[some (.ref d),some (.int most),some (.int kind),none,none,none,none,none]) rfl e2)
 have s3:(A8 (Cw Af) (gN 4)) [some (.ref d),some (.int most),some (.int kind),some (.int way),none,none,none,none] L2'=some (.nx [some (.ref d),some (.int most),some (.int kind),some (.int way),some (.ref L2'.length),none,none,none],L2'++[.lst []]):=by
  rw[fAsg_eq,fLst_eq,fNil_eq,aA,if_pos sm0];rfl
 simp only[aZ,bA] at s1 s2
 have D3:=D2.new [HU.lst []]
 have hl2:=D2.lt
 obtain ⟨m,L4,e4,m0,m1,D4,x4⟩:=B3 (many:=(most:Int)+1) D3 (by omega) (by omega) (by omega)
 obtain ⟨n,names,L5,e5,h5,hln,hlow,D5,x5,hn5⟩:=Agw (many:=m.toNat) D4 (by omega) (by omega)
 have hmn:((m.toNat:Nat):Int)=m:=by omega
 rw[hmn] at e5
 have hle4:=x4.le
 have hi:(Bm (A9 2 Hi (Aa (Ad 0) (Aa (A9 2 Ap (Aa (Ad 0) (Aa (f2 Ax (Ad 1) (fC (.int 1))) Af))) Af)))) [some (.ref d),some (.int most),some (.int kind),some (.int way),some (.ref L2'.length),none,none,none] (L2'++[.lst []])=some (.ref n,L5):=by
  have v0:Ad 0 [some (.ref d),some (.int most),some (.int kind),some (.int way),some (.ref L2'.length),none,none,none] (L2'++[.lst []])=some (.ref d,L2'++[.lst []]):=rfl
  have hd:(A9 2 Ap (Aa (Ad 0) (Aa (f2 Ax (Ad 1) (fC (.int 1))) Af))) [some (.ref d),some (.int most),some (.int kind),some (.int way),some (.ref L2'.length),none,none,none] (L2'++[.lst []])=some (.int m,L4):=by
   rw[fOwn_eq,fCons_eq,v0]
   simp only[aA,fCons_eq,f2_eq,fC_eq,fVar_eq,fNil_eq,aR,aK,bB,aD,semAdd_int,aN,bF,if_true,e4]
  rw[Dc,fOwn_eq,fCons_eq,v0,aA,fCons_eq,hd]
  simp only[aA,fNil_eq,aD,aN,bF,if_true,e5,Ci (Aj h5)]
 have hk3:kind=0\/kind=1\/kind=2:=by omega
 have hf5:L5[L2'.length]? = some (.lst []):=x5.get (x4.get (by simp) (by omega)) (by omega)
 have hnd:n≠d:=by have:=D4.lt;omega
 have hnf:L2'.length≠n:=by simp at hle4;omega
 obtain ⟨δ',L6,e6,P⟩:=Mx (us:=names.map U.str) (body:=Fz) (g:=gN 5)
  (fun k δ' M=>∃ (y5 y6 y7:Option U) (ps:List P3),δ'=[some (.ref d),some (.int most),some (.int kind),some (.int way),some (.ref L2'.length),y5,y6,y7]/\M[L2'.length]? = some (.lst (ps.map p3U))/\ps.length=k/\k<=names.length/\(∀ p∈ps,Low p.1)/\Gdk M d (B+104+14 * k)/\M[n]? = some (.lst (names.map U.str))/\Ex d L2' M)
  hi ⟨none,none,none,[],rfl,by simpa using hf5,rfl,by omega,by simp,D5.mono (by omega),h5,(Ex.new d L2' _).trans (x4.trans x5)⟩
  (fun k δ M ⟨_,_,_,_,_,_,_,_,_,_,h,_⟩=>Aj h)
  (fun k u δ M hu ⟨y5,y6,y7,ps,hδ,hat,hlk,hkn,hw,DM,hnm,xM⟩=>by
   subst hδ
   rw[bO] at hu
   obtain ⟨name,hname,rfl⟩:=aG.mp hu
   have hk:=(aJ.mp hname).1
   have hln60:names.length<=60:=by omega
   have hnlow:=hlow _ (bV hname)
   obtain ⟨z6,z7,x,y,M',e,D',hat',hx,hkeep⟩:=Vo (way:=way) DM (by omega) hat (by omega) (by omega) hw hk3 name (some (.int most)) y6 y7
   exact ⟨[some (.ref d),some (.int most),some (.int kind),some (.int way),some (.ref L2'.length),some (.str name),y6,y7],M,rfl,_,M',.inl e,_,_,_,ps++[(name,x,y)],rfl,hat',by simp[hlk],by omega,fun p hp=>by rcases cT.mp hp with h | h;exact hw p h;rw[cH.mp h];exact hnlow,D'.mono (by omega),hkeep n _ hnd (eP hnf) hnm,hx L2' xM (aQ _)⟩)
 obtain ⟨y5,y6,y7,ps,hδ,hat,hlk,hkn,hw,DM,hnm,xM⟩:=P
 rw[aV] at hlk hkn DM
 rw[hδ] at e6
 refine ⟨ps,L6,?_,by omega,hw,DM.mono (by omega),x1.trans (x2.trans xM)⟩
 have t2:Ei [.ref L2'.length] L6=some (.tup (ps.map p3U),L6):=by simp only[Ei,Aj hat,aD]
 have hb:Rb=A7 (A8 (A9 2 Ap (Aa (Ad 0) (Aa (fC (.int 3)) Af))) (gN 2)) (A7 (A8 (A9 2 Ap (Aa (Ad 0) (Aa (fC (.int 4)) Af))) (gN 3)) (A7 (A8 (Cw Af) (gN 4)) (A7 (Jd (Bm (A9 2 Hi (Aa (Ad 0) (Aa (A9 2 Ap (Aa (Ad 0) (Aa (f2 Ax (Ad 1) (fC (.int 1))) Af))) Af)))) (gN 5) Fz) (De (Be Ei (Aa (Ad 4) Af)))))):=rfl
 unfold Kf fnU
 simp only[aN,bF,if_true,aO,bT,bJ,cQ,dB]
 rw[hb,Al s1,Al s2,Al s3,Al e6,fRet_eq,fCall_eq,fCons_eq]
 simp only[fVar_eq,fNil_eq,aR,aK,bB,aD,aA,t2]
noncomputable def pr(p:Int×Int):U:=.tup [.int p.1,.int p.2]
noncomputable def Ga(p q:Int×Int):Bool:=decide (p.1<=q.1)&&(decide (p.2<=q.2) && !(p.1 == q.1&&(p.2 == q.2&&true)))
theorem Aki(p q:Int×Int)(L:UH):Ef (pr p) (pr q) L=some (.bl (!(p.1 == q.1&&(p.2 == q.2&&true))),L):=rfl
theorem Agv{β:Type}(as:List β)(f:β->Bool):mapO toB (as.map fun a=>U.bl (f a))=some (as.map f):=by
 induction as with
 | nil=>rfl
 | cons a as ih=>simp[mapO,toB,ih]
variable {n:Nat}
theorem Aiu{β:Type}(as:List β)(f:β->Bool)(h:Ao L n=some (as.map fun a=>U.bl (f a))):Qd [.ref n] L=some (.bl (as.all f),L):=by
 simp[Qd,h,Agv]
theorem Aih(p q:Int×Int)(L:UH):∃ x,Ft [pr p,pr q] L=some (.bl (Ga p q),L++x):=by
 have hz:(Q9 (Aa (Ad 0) (Aa (Ad 1) Af))) [some (pr p),some (pr q)] L=some (.seq ([(p.1,q.1),(p.2,q.2)].map fun a=>.tup [.int a.1,.int a.2]),L):=rfl
 obtain ⟨x,e⟩:=Bv (ix:=[none,none]) (fi:=Q9 (Aa (Ad 0) (Aa (Ad 1) Af))) (it:=.seq ([(p.1,q.1),(p.2,q.2)].map fun a=>.tup [.int a.1,.int a.2])) (g:=(MR.gTup 2 (MR.gCons (gN 0) (MR.gCons (gN 1) MR.gNil)))) (tt:=none) (fe:=G3) (δ:=[some (pr p),some (pr q)]) (L:=L) (L0:=L)
  [(p.1,q.1),(p.2,q.2)] (fun a=>.tup [.int a.1,.int a.2]) (fun _=>true) (fun a=>.bl (decide (a.1<=a.2))) (fun δ=>∃ a b,δ = [a,b]) hz (by simp[IU.size]) (by simp) ⟨none,none,rfl⟩
  (fun k x=>rfl)
  (fun a δ x _ ⟨y,z,hδ⟩=>by
   subst hδ
   refine ⟨_,rfl,⟨_,_,rfl⟩,[],by simp[Hw],fun _=>⟨[],?_⟩⟩
   simp[G3])
 have hf:gE (fun _:Int×Int=>true) [(p.1,q.1),(p.2,q.2)]=[(p.1,q.1),(p.2,q.2)]:=by simp
 rw[hf] at e
 have q1:Ao (L++x++[HU.lst ([(p.1,q.1),(p.2,q.2)].map fun a=>.bl (decide (a.1<=a.2)))]) (L++x).length=some ([(p.1,q.1),(p.2,q.2)].map fun a=>U.bl (decide (a.1<=a.2))):=Aj (by simp)
 have ha:=Aiu _ _ q1
 by_cases h:(!(p.1 == q.1&&(p.2 == q.2&&true)))=true
 ·refine ⟨x++[HU.lst ([(p.1,q.1),(p.2,q.2)].map fun a=>.bl (decide (a.1<=a.2)))],?_⟩
  have hb:Ga p q=List.all [(p.1,q.1),(p.2,q.2)] fun a=>decide (a.1<=a.2):=by
   simp only[Ga,h,kI,List.all_nil]
  have hn:=Aki p q L
  rw[h] at hn
  unfold Ft fnU Kh
  simp only[aN,bF,if_true,aO,bT,eW,eI,bG,fRet_eq,Ld,f2_eq,fVar_eq,aK,aR,bB,aD,aA,hn,fCall_eq,fCons_eq,fNil_eq]
  simp only[aO,bT] at e ha
  rw[hb,<- dP]
  simp only[e,ha,aD,aA]
 ·have h':(!(p.1 == q.1&&(p.2 == q.2&&true)))=false:=by simpa using h
  refine ⟨[],?_⟩
  have hb:Ga p q=false:=by simp only[Ga,h',oZ]
  have hn:=Aki p q L
  rw[h'] at hn
  unfold Ft fnU Kh
  simp only[aN,bF,if_true,aO,bT,eW,eI,bG,fRet_eq,Ld,f2_eq,fVar_eq,aK,aR,bB,aD,aA,hn,hb]
  simp
theorem K9(p:P3)(L:UH):Gb [p3U p] L=some (pr p.2,L):=by
 have sm2:small (0+1+1)=true:=small_of (by decide)
 have i1:∀ p:P3,Ak (p3U p) (.int 1) L=some (.int p.2.1,L):=fun _=>rfl
 have i2:∀ p:P3,Ak (p3U p) (.int 2) L=some (.int p.2.2,L):=fun _=>rfl
 unfold Gb fnU Qb
 simp only[aN,bF,if_true,aO,bT,eW,eI,bG,fRet_eq,fTup_eq,fCons_eq,fNil_eq,f2_eq,fVar_eq,fC_eq,aK,bB,aD,aA,i1,i2]
 rw[if_pos sm2]
 rfl
theorem Aow(p q:Int×Int)(L:UH):B7 (pr p) (pr q) L=some (.bl (p.1 == q.1&&(p.2 == q.2&&true)),L):=rfl
theorem Lv(p q:P3)(L:UH):Fd [p3U p,p3U q] L=some (.bl (Ga p.2 q.2),L):=by
 have c1:(fSl G7 (Ad 0) (E6 (fC (.int 1))) Cf) [some (p3U p),some (p3U q)] L=some (pr p.2,L):=rfl
 have c2:(fSl G7 (Ad 1) (E6 (fC (.int 1))) Cf) [some (p3U p),some (p3U q)] L=some (pr q.2,L):=rfl
 have i1:∀ p:P3,Ak (p3U p) (.int 1) L=some (.int p.2.1,L):=fun _=>rfl
 have i2:∀ p:P3,Ak (p3U p) (.int 2) L=some (.int p.2.2,L):=fun _=>rfl
 have le:∀ i j:Int,Tf (.int i) (.int j) L=some (.bl (decide (i<=j)),L):=fun _ _=>rfl
 unfold Fd fnU Tj Ga
 simp only[aN,bF,if_true,aO,bT,eW,eI,bG]
 rw[fSeq_eq,fIfS_eq,fTest_eq,f2_eq,c1]
 simp only[aA,c2,Aow]
 cases (p.2.1 == q.2.1&&(p.2.2 == q.2.2&&true)) with
 | true=>simp only[if_true,fRet_eq,fC_eq,aD,aA,iT,oZ]
 | false=>
  simp only[bH,if_false,B4,aA,fRet_eq,Ld,f2_eq,fVar_eq,fC_eq,aR,aK,bB,aD,i1,i2,le,pK,pQ]
  cases decide (p.2.1<=q.2.1) <;> rfl
noncomputable def Apa:P3:=("",0,0)
noncomputable def ptAt(ps:List P3)(i:Nat):P3:=ps.getD i Apa
noncomputable def Acz(ps:List P3)(a:Int×Int):List Nat:=(aX ps.length).filter fun j=>Ga a (ptAt ps j).2
noncomputable def ixU(l:List Nat):List U:=l.map fun (j:Nat)=>U.int (j:Int)
theorem Agu(ps:List P3):Lm (ps.map p3U)=(aX ps.length).map fun (i:Nat)=>U.tup [.int (i:Int),p3U (ptAt ps i)]:=by
 apply iY
 ·simp[Lm]
 ·intro i h1 h2
  have hi:i < ps.length:=by simpa[Lm] using h1
  simp[Lm,ptAt,aP,hi]
theorem Afa(ps:List P3)(hl:ps.length<=1000)(p:P3)(L:UH):∃ (r:Nat) (L':UH),E7 [.tup (ps.map p3U),p3U p] L=some (.ref r,L')/\L'[r]? = some (.lst (ixU (Acz ps p.2)))/\Gw L L'/\L.length<=r:=by
 have s1:=Dp (i:=2) (Ab3 (i:=1) (δ:=[some (.tup (ps.map p3U)),some (p3U p),none]) rfl (K9 p L))
 simp only[aZ,bA] at s1
 have hi:(Xr (Aa (Ad 0) Af)) [some (.tup (ps.map p3U)),some (p3U p),some (pr p.2)] L=some (.seq ((aX ps.length).map fun (i:Nat)=>U.tup [.int (i:Int),p3U (ptAt ps i)]),L):=by
  rw[<- Agu];rfl
 obtain ⟨x,e⟩:=Bv (ix:=[none,none,some 2]) (it:=.seq ((aX ps.length).map fun (i:Nat)=>U.tup [.int (i:Int),p3U (ptAt ps i)])) (g:=(MR.gTup 2 (MR.gCons (gN 0) (MR.gCons (gN 1) MR.gNil)))) (tt:=some Ep) (fe:=Jl) (δ:=[some (.tup (ps.map p3U)),some (p3U p),some (pr p.2)]) (L:=L) (L0:=L)
  (aX ps.length) (fun (i:Nat)=>U.tup [.int (i:Int),p3U (ptAt ps i)]) (fun j=>Ga p.2 (ptAt ps j).2) (fun (j:Nat)=>.int (j:Int)) (fun δ=>∃ a b,δ = [a,b,some (pr p.2)]) hi (by simp[IU.size]) (by simp;omega) ⟨none,none,rfl⟩
  (fun k x=>rfl)
  (fun j δ x _ ⟨y,z,hδ⟩=>by
   subst hδ
   obtain ⟨w,e1⟩:=Aih p.2 (ptAt ps j).2 (L++x)
   refine ⟨[some (.int (j:Int)),some (p3U (ptAt ps j)),some (pr p.2)],rfl,⟨_,_,rfl⟩,w,?_,fun _=>⟨[],?_⟩⟩
   ·show Ep [some (.int (j:Int)),some (p3U (ptAt ps j)),some (pr p.2)] (L++x)=_
    have hp:=Ab3 (i:=1) (δ:=[some (.int (j:Int)),some (p3U (ptAt ps j)),some (pr p.2)]) rfl (K9 (ptAt ps j) (L++x))
    have v2:Ad 2 [some (.int (j:Int)),some (p3U (ptAt ps j)),some (pr p.2)] (L++x)=some (pr p.2,L++x):=rfl
    unfold Ep
    rw[fTru_eq,fOwn_eq,fCons_eq,v2,aA,fCons_eq,hp]
    simp only[aA,fNil_eq,aD,aN,bF,if_true,e1,truU_bl]
   ·rw[bG];rfl)
 have hm:((aX ps.length).filter fun j=>Ga p.2 (ptAt ps j).2).map (fun (j:Nat)=>U.int (j:Int))=ixU (Acz ps p.2):=rfl
 rw[hm] at e
 generalize ixU (Acz ps p.2)=us at e
 refine ⟨(L++x).length,L++x++[HU.lst us],?_,by simp,⟨x++[HU.lst us],by rw[dP]⟩,by simp⟩
 unfold E7 fnU Lr
 simp only[aN,bF,if_true,aO,bT,bJ,cQ,dB]
 rw[Al s1,fRet_eq,e]
 simp only[aD,aA]
theorem toI_ints(l:List Int):mapO toI (l.map U.int)=some l:=by
 induction l with
 | nil=>rfl
 | cons a r ih=>simp only[aO,mapO,toI,ih,aA,aD]
noncomputable def Akl(bs:List Int)(js:List Nat):Int:=(js.map fun j=>bs.getD j 0).sum
theorem Aet{a b c:Int×Int}(h1:Ga a b=true)(h2:Ga b c=true):Ga a c=true:=by
 simp only[Ga,pQ,cE,rE,oR,beq_eq_false_iff_ne,decide_eq_true_eq] at h1 h2 ⊢
 obtain ⟨a1,a2,a3⟩:=h1
 obtain ⟨b1,b2,b3⟩:=h2
 refine ⟨by omega,by omega,?_⟩
 rcases a3 with h | h
 ·left;intro e;omega
 ·right;intro e;omega
theorem Ad9(a:Int×Int):Ga a a=false:=by
 simp[Ga]
theorem Abv{β:Type}{p q:β->Bool}(l:List β)(h:∀ x∈l,p x=true->q x=true):(l.filter p).length<=(l.filter q).length:=by
 induction l with
 | nil=>simp
 | cons a l ih=>
  have ih':=ih (fun x hx=>h x (aM _ hx))
  have ha:=h a (aW ..)
  cases hp:p a with
  | true=>
   rw[cR hp,cR (ha hp),aN,aN];omega
  | false=>
   rw[cS (by simp[hp])]
   cases hq:q a with
   | true=>rw[cR hq,aN];omega
   | false=>rw[cS (by simp[hq])];exact ih'
theorem Hg{β:Type}{p q:β->Bool}:∀ (l:List β),(∀ x∈l,p x=true->q x=true)->(∃ x∈l,q x=true/\p x=false)->(l.filter p).length < (l.filter q).length
 | [],_,h=>by obtain ⟨x,hx,_⟩:=h;cases hx
 | a::l,h,hx=>by
  have h':∀ x∈l,p x=true->q x=true:=fun x hx=>h x (aM _ hx)
  have ha:=h a (aW ..)
  obtain ⟨x,hx,hq,hp⟩:=hx
  rcases bE.mp hx with rfl | hx
  ·rw[cS (by simp[hp]),cR hq,aN]
   have:=Abv l h'
   omega
  ·have ih:=Hg l h' ⟨x,hx,hq,hp⟩
   cases hpa:p a with
   | true=>rw[cR hpa,cR (ha hpa),aN,aN];omega
   | false=>
    rw[cS (by simp[hpa])]
    cases hqa:q a with
    | true=>rw[cR hqa,aN];omega
    | false=>rw[cS (by simp[hqa])];exact ih
noncomputable def bg(ps:List P3):Nat->List Int
 | 0=>bJ ps.length 1
 | t+1=>(aX ps.length).map fun i=>Akl (bg ps t) (Acz ps (ptAt ps i).2)
theorem Amv(ps:List P3)(t:Nat):(bg ps t).length=ps.length:=by
 cases t <;> simp[bg]
theorem Apb{t:Nat}(h:i < ps.length):(bg ps (t+1)).getD i 0=Akl (bg ps t) (Acz ps (ptAt ps i).2):=by
 simp[bg,aP,h]
noncomputable def Ap4(ps:List P3)(T:Nat):List Int:=(aX T).map fun t=>(bg ps t).sum
structure Ab(M:UH)(A n:Nat)(rs:List Nat)(ps:List P3):Prop where
 hA:M[A]? = some (.lst (rs.map U.ref))
 hl:rs.length=ps.length
 at_:∀ (i ρ:Nat),rs[i]? = some ρ->M[ρ]? = some (HU.lst (ixU (Acz ps (ptAt ps i).2)))
 An:A < n
 rn:∀ (i ρ:Nat),rs[i]? = some ρ->ρ < n
theorem Ab.gw{M':UH}{A:Nat}{rs:List Nat}(h:Ab M A n rs ps)(g:Gw M M'):Ab M' A n rs ps:=⟨g.get h.hA,h.hl,fun i ρ e=>g.get (h.at_ i ρ e),h.An,h.rn⟩
theorem Ab.set{A:Nat}{rs:List Nat}(h:Ab M A n rs ps)(o:HU):Ab (M.set n o) A n rs ps:=
 ⟨by rw[bR (by have:=h.An;omega)];exact h.hA,h.hl,fun i ρ e=>by rw[bR (by have:=h.rn i ρ e;omega)];exact h.at_ i ρ e,h.An,h.rn⟩
noncomputable def Ab1(ps:List P3)(i j:Nat):Bool:=Ga (ptAt ps i).2 (ptAt ps j).2
noncomputable def sm(l:List Nat)(f:Nat->Int):Int:=(l.map f).sum
theorem P4{l:List Nat}{f g:Nat->Int}(h:∀ x∈l,f x=g x):sm l f=sm l g:=by
 unfold sm;rw[cO h]
theorem sm_cons(a:Nat)(l:List Nat)(f:Nat->Int):sm (a::l) f=f a+sm l f:=by simp[sm]
theorem N1(p:Nat->Bool)(f:Nat->Int):∀ l:List Nat,sm (l.filter p) f=sm l fun j=>if p j then f j else 0
 | []=>rfl
 | a::l=>by
  have ih:=N1 p f l
  cases hp:p a with
  | true=>rw[cR hp,sm_cons,sm_cons,ih];simp[hp]
  | false=>rw[cS (by simp[hp]),sm_cons,ih];simp[hp]
theorem Ut:∀ l:List Nat,sm l (fun _=>0)=0
 | []=>rfl
 | a::l=>by rw[sm_cons,Ut l];rfl
noncomputable def Apx(ps:List P3)(k:Nat):List Nat:=(aX ps.length).filter fun j=>Ab1 ps j k
noncomputable def en(ps:List P3):Nat->Nat->Int
 | 0,_=>1
 | t+1,k=>sm (Apx ps k) (en ps t)
noncomputable def bgf(ps:List P3)(t i:Nat):Int:=(bg ps t).getD i 0
theorem Aeb(h:i < ps.length):bgf ps 0 i=1:=by simp[bgf,bg,aP,h]
theorem Ae5{t:Nat}(h:i < ps.length):bgf ps (t+1) i=sm (aX ps.length) fun j=>if Ab1 ps i j then bgf ps t j else 0:=by
 unfold bgf
 rw[Apb h,<- N1]
 rfl
theorem Apc(ps:List P3)(t:Nat):(bg ps t).sum=sm (aX ps.length) (bgf ps t):=by
 unfold sm
 congr 1
 apply iY
 ·simp[Amv]
 ·intro i h1 h2
  simp[bgf,aP,h1]
theorem Y6(f:Nat->Nat):∀ S:List Nat,S≠[]->∃ m∈S,∀ j∈S,f j<=f m
 | [],h=>absurd rfl h
 | [a],_=>⟨a,aW ..,fun j hj=>by rw[cH.mp hj];exact aQ _⟩
 | a::b::S,_=>by
  obtain ⟨m,hm,h⟩:=Y6 f (b::S) (by simp)
  by_cases hc:f a<=f m
  ·exact ⟨m,aM _ hm,fun j hj=>by rcases bE.mp hj with rfl | hj;exact hc;exact h j hj⟩
  ·exact ⟨a,aW ..,fun j hj=>by rcases bE.mp hj with rfl | hj;exact aQ _;have:=h j hj;omega⟩
variable {k:Nat}
theorem Y7(h1:Ab1 ps i j=true)(h2:Ab1 ps j k=true):Ab1 ps i k=true:=Aet h1 h2
theorem S3(ps:List P3)(i:Nat):Ab1 ps i i=false:=Ad9 _
theorem Ti(ps:List P3){S:List Nat}(h:S≠[]):∃ m∈S,∀ j∈S,Ab1 ps j m=false:=by
 obtain ⟨m,hm,hx⟩:=Y6 (fun k=>(S.filter (Ab1 ps k)).length) S h
 refine ⟨m,hm,fun j hj=>?_⟩
 cases hb:Ab1 ps j m with
 | false=>rfl
 | true=>
  have:=Hg (p:=Ab1 ps m) (q:=Ab1 ps j) S (fun x _ hx=>Y7 hb hx) ⟨m,hm,hb,S3 ps m⟩
  have:=hx j hj
  omega
noncomputable def wt(ps:List P3)(S:List Nat)(k:Nat):Nat:=2 ^ (S.filter (Ab1 ps k)).length
theorem Aeg(ps:List P3):∀ (n:Nat) (S:List Nat),S.length=n->(S.map (wt ps S)).sum+1<=2 ^ n
 | 0,S,h=>by rw[List.length_eq_zero_iff.mp h];simp
 | n+1,S,h=>by
  obtain ⟨m,hm,hx⟩:=Ti ps (S:=S) (by intro e;rw[e] at h;cases h)
  have hp:=List.perm_cons_erase hm
  have hl:(S.erase m).length=n:=by rw[List.length_erase_of_mem hm];omega
  have ih:=Aeg ps n (S.erase m) hl
  have hs:(S.map (wt ps S)).sum=wt ps S m+((S.erase m).map (wt ps S)).sum:=by
   rw[(hp.map (wt ps S)).sum_nat];simp
  have hf:∀ k,(S.filter (Ab1 ps k)).length=((m::S.erase m).filter (Ab1 ps k)).length:=fun k=>(hp.filter _).length_eq
  have hw:(S.erase m).map (wt ps S)=(S.erase m).map (wt ps (S.erase m)):=cO fun k hk=>by
   unfold wt
   rw[hf,cS (by rw[hx k (List.mem_of_mem_erase hk)];simp)]
  have hm1:wt ps S m<=2 ^ n:=by
   unfold wt
   rw[hf,cS (by rw[S3];simp)]
   refine iV (by omega) ?_
   have:=eT (Ab1 ps m) (S.erase m)
   omega
  rw[hs,hw]
  have:2 ^ (n+1)=2 ^ n+2 ^ n:=by rw[Nat.pow_succ];omega
  omega
theorem Rl{c:FT}{body:FS}{P:Nat->UE->UH->Prop}{Q:UE->UH->Prop}
  (step:∀ k δ L,P k δ L->(∃ L1,c δ L=some (false,L1)/\Q δ L1)\/∃ L1,c δ L=some (true,L1)/\∃ δ2 M2 k',body δ L1=some (.nx δ2,M2)/\k' < k/\P k' δ2 M2) :
  ∀ (m k:Nat) (δ:UE) (L:UH),k < m->P k δ L->∃ δ' L',Ir c body m δ L=some (.nx δ',L')/\Q δ' L'
 | 0,k,δ,L,h,_=>by omega
 | m+1,k,δ,L,h,hP=>by
  unfold Ir
  rcases step k δ L hP with ⟨L1,e1,q⟩ | ⟨L1,e1,δ2,M2,k',e2,hk,hP2⟩
  ·exact ⟨δ,L1,by simp only[e1,aA,bH,if_false],q⟩
  ·obtain ⟨δ',L',e3,q⟩:=Rl step m k' δ2 M2 (by omega) hP2
   exact ⟨δ',L',by simp only[e1,aA,if_true,e2,e3],q⟩
theorem Qs(us:List U):R4 us []=us.isEmpty:=by cases us <;> rfl
theorem Akd(l:List Nat):∀ u∈ixU l,Pl 6 u:=fun u hu=>by
 obtain ⟨a,_,rfl⟩:=cB.mp hu
 exact Pl.int _ _
theorem Lp(h:j < ps.length)(L:UH):Ak (.tup (ps.map p3U)) (.int (j:Int)) L=some (p3U (ptAt ps j),L):=by
 rw[Sz,Uh (by omega) (by rw[aV];omega),fG,bO,aI h]
 simp[ptAt,aP,h]
theorem Alm(l:List Nat):mapO toV (ixU l)=some (l.map fun (j:Nat)=>L2.V.int (j:Int)):=by
 induction l with
 | nil=>rfl
 | cons a l ih=>
  unfold ixU at ih ⊢
  simp only[aO,mapO,toV,ih,aA,aD]
theorem inV_ix(k:Nat)(l:List Nat):inV (.int (k:Int)) (l.map fun (j:Nat)=>L2.V.int (j:Int))=l.contains k:=by
 induction l with
 | nil=>rfl
 | cons a l ih=>
  have h1:inV (.int (k:Int)) ((a::l).map fun (j:Nat)=>L2.V.int (j:Int))=(eqV (.int (a:Int)) (.int (k:Int)) || inV (.int (k:Int)) (l.map fun (j:Nat)=>L2.V.int (j:Int))):=rfl
  rw[h1,ih,List.contains_cons]
  congr 1
  show ((a:Int) == (k:Int))=(k == a)
  rw[kT,beq_iff_eq,beq_iff_eq]
  omega
theorem Adx(hj:j < ps.length)(hk:k < ps.length)(L:UH):Ct [some (.int (j:Int)),some (.tup (ps.map p3U)),some (.int (k:Int))] L=some (Ab1 ps j k,L):=by
 have i1:(f2 Ak (Ad 1) (Ad 0)) [some (.int (j:Int)),some (.tup (ps.map p3U)),some (.int (k:Int))] L=some (p3U (ptAt ps j),L):=by
  rw[f2_eq];simp only[fVar_eq,aR,aK,bB,aD,aA,Lp hj]
 have i2:(f2 Ak (Ad 1) (Ad 2)) [some (.int (j:Int)),some (.tup (ps.map p3U)),some (.int (k:Int))] L=some (p3U (ptAt ps k),L):=by
  rw[f2_eq];simp only[fVar_eq,aR,aK,bB,aD,aA,Lp hk]
 unfold Ct
 rw[fTru_eq,fOwn_eq,fCons_eq,i1]
 simp only[aA,fCons_eq,i2,fNil_eq,aD,aN,bF,if_true,Lv,truU_bl]
 rfl
variable {l:Nat}{ls:List Nat}
theorem Yc(h:L[l]? = some (.lst (ixU ls)))(hls:∀ j∈ls,j < ps.length)(hk:k < ps.length)(hl:ls.length<=1000) :
  ∃ x,Bn [none,some 2,some 0] (Bm (Ad 1)) (gN 0) (some Ct) D8 [some (.int (k:Int)),some (.ref l),some (.tup (ps.map p3U))] L=some (.ref (L++x).length,L++x++[.lst (ixU (ls.filter fun j=>Ab1 ps j k))]):=by
 have hs:Ao L l=some (ls.map fun (j:Nat)=>U.int (j:Int)):=Aj h
 exact Bv (ix:=[none,some 2,some 0]) (fi:=Bm (Ad 1)) (it:=.ref l) (g:=gN 0) (tt:=some Ct) (fe:=D8) (δ:=[some (.int (k:Int)),some (.ref l),some (.tup (ps.map p3U))]) (L:=L) (L0:=L)
  ls (fun (j:Nat)=>U.int (j:Int)) (fun j=>Ab1 ps j k) (fun (j:Nat)=>U.int (j:Int)) (fun δ=>∃ z,δ = [z,some (.tup (ps.map p3U)),some (.int (k:Int))]) (by simp[Ci hs]) (by rw[Gs hs];simp) (by omega) ⟨none,rfl⟩
  (fun k x=>K6 (Cc hs))
  (fun j δ x hj ⟨z,hδ⟩=>by
   subst hδ
   refine ⟨[some (.int (j:Int)),some (.tup (ps.map p3U)),some (.int (k:Int))],rfl,⟨_,rfl⟩,[],?_,fun _=>⟨[],by simp[D8]⟩⟩
   rw[bG]
   exact Adx (hls j hj) hk _)
noncomputable def B6(ps:List P3)(ls:List Nat)(k:Nat):Bool:=(ls.filter fun j=>Ab1 ps j k).isEmpty
theorem Ahf(h:L[l]? = some (.lst (ixU ls)))(hls:∀ j∈ls,j < ps.length)(hk:k < ps.length)(hl:ls.length<=1000) :
  ∃ x,Cu [some (.int (k:Int)),some (.ref l),some (.tup (ps.map p3U))] L=some (B6 ps ls k,L++x):=by
 have sm0:small ([]:List U).length=true:=small_of (by show 0<=16777216;decide)
 obtain ⟨x,e⟩:=Yc h hls hk hl
 have q1:Ao (L++x++[HU.lst (ixU (ls.filter fun j=>Ab1 ps j k))]++[HU.lst []]) (L++x).length=some (ixU (ls.filter fun j=>Ab1 ps j k)):=Cc (Aj (by simp))
 have q2:Ao (L++x++[HU.lst (ixU (ls.filter fun j=>Ab1 ps j k))]++[HU.lst []]) (L++x++[HU.lst (ixU (ls.filter fun j=>Ab1 ps j k))]).length=some []:=Aj (by simp)
 have he:=S9 q1 q2 (Akd _) (by simp)
 have hb:R4 (ixU (ls.filter fun j=>Ab1 ps j k)) []=B6 ps ls k:=by
  rw[Qs,B6];unfold ixU;cases ls.filter fun j=>Ab1 ps j k <;> rfl
 rw[hb] at he
 refine ⟨x++[HU.lst (ixU (ls.filter fun j=>Ab1 ps j k))]++[HU.lst []],?_⟩
 rw[<- dP,<- dP]
 generalize ixU (ls.filter fun j=>Ab1 ps j k)=us at e he
 have hl0:∀ δ M,(Cw Af) δ M=some (.ref M.length,M++[.lst []]):=fun δ M=>by rw[fLst_eq,fNil_eq,aA,if_pos sm0]
 unfold Cu
 rw[fTest_eq,f2_eq,e]
 simp only[aA,hl0,he]
theorem Xz(h:L[l]? = some (.lst (ixU ls)))(hls:∀ j∈ls,j < ps.length)(hl:ls.length<=1000)(x2 x3:Option U) :
  ∃ x,Bn [none,some 1,some 0] (Bm (Ad 1)) (gN 0) (some Cu) Ea [some (.tup (ps.map p3U)),some (.ref l),x2,x3] L=some (.ref (L++x).length,L++x++[.lst (ixU (ls.filter (B6 ps ls)))]):=by
 have hs:Ao L l=some (ls.map fun (j:Nat)=>U.int (j:Int)):=Aj h
 exact Bv (ix:=[none,some 1,some 0]) (fi:=Bm (Ad 1)) (it:=.ref l) (g:=gN 0) (tt:=some Cu) (fe:=Ea) (δ:=[some (.tup (ps.map p3U)),some (.ref l),x2,x3]) (L:=L) (L0:=L)
  ls (fun (j:Nat)=>U.int (j:Int)) (B6 ps ls) (fun (j:Nat)=>U.int (j:Int)) (fun δ=>∃ z,δ = [z,some (.ref l),some (.tup (ps.map p3U))]) (by simp[Ci hs]) (by rw[Gs hs];simp) (by omega) ⟨none,rfl⟩
  (fun k x=>K6 (Cc hs))
  (fun j δ x hj ⟨z,hδ⟩=>by
   subst hδ
   obtain ⟨y,e⟩:=Ahf (L:=L++x) ((Gw.new L x).get h) hls (hls j hj) hl
   exact ⟨[some (.int (j:Int)),some (.ref l),some (.tup (ps.map p3U))],rfl,⟨_,rfl⟩,y,e,fun _=>⟨[],by simp[Ea]⟩⟩)
theorem Abr{fs:List Nat}(h:L[l]? = some (.lst (ixU ls)))(hf:L[f]? = some (.lst (ixU fs)))(hl:ls.length<=1000)(x0 x2:Option U) :
  ∃ x,Bn [none,some 3] (Bm (Ad 1)) (gN 0) (some Cz) Ee [x0,some (.ref l),x2,some (.ref f)] L=some (.ref (L++x).length,L++x++[.lst (ixU (ls.filter fun k=>!fs.contains k))]):=by
 have hs:Ao L l=some (ls.map fun (j:Nat)=>U.int (j:Int)):=Aj h
 have hfs:Ao L f=some (ixU fs):=Aj hf
 exact Bv (ix:=[none,some 3]) (fi:=Bm (Ad 1)) (it:=.ref l) (g:=gN 0) (tt:=some Cz) (fe:=Ee) (δ:=[x0,some (.ref l),x2,some (.ref f)]) (L:=L) (L0:=L)
  ls (fun (j:Nat)=>U.int (j:Int)) (fun k=>!fs.contains k) (fun (j:Nat)=>U.int (j:Int)) (fun δ=>∃ z,δ = [z,some (.ref f)]) (by simp[Ci hs]) (by rw[Gs hs];simp) (by omega) ⟨none,rfl⟩
  (fun k x=>K6 (Cc hs))
  (fun j δ x hj ⟨z,hδ⟩=>by
   subst hδ
   refine ⟨[some (.int (j:Int)),some (.ref f)],rfl,⟨_,rfl⟩,[],?_,fun _=>⟨[],by simp[Ee]⟩⟩
   rw[bG]
   have hin:Vz true (.int (j:Int)) (.ref f) (L++x)=some (.bl (!fs.contains j),L++x):=by
    simp only[Vz,Cc hfs,aA,toV,Alm,inV_ix,aD,if_true]
   show Cz [some (.int (j:Int)),some (.ref f)] (L++x)=_
   unfold Cz
   rw[fTest_eq,f2_eq]
   simp only[fVar_eq,aR,aK,bB,aD,aA,hin])
theorem Mm{β:Type}(p:β->Bool):∀ l:List β,(l.filter p++l.filter fun x=>!p x).Perm l
 | []=>.nil
 | a::l=>by
  cases hp:p a with
  | true=>
   rw[cR hp,cS (by simp[hp]),cQ]
   exact (Mm p l).cons a
  | false=>
   rw[cS (by simp[hp]),cR (by simp[hp])]
   exact List.perm_middle.trans ((Mm p l).cons a)
structure Ord(ps:List P3)(F:List Nat)(ls:List Nat):Prop where
 pm:(F++ls).Perm (aX ps.length)
 at_:∀ p k,F[p]? = some k->∀ j,j < ps.length->Ab1 ps j k=true->j∈F.take p
variable {F:List Nat}
theorem Ord.lt(h:Ord ps F ls)(hj:j∈F++ls):j < ps.length:=bL.mp (h.pm.mem_iff.mp hj)
theorem Ord.more(h:Ord ps F ls):Ord ps (F++ls.filter (B6 ps ls)) (ls.filter fun k=>!B6 ps ls k):=by
 refine ⟨?_,fun p k hk j hj hb=>?_⟩
 ·rw[dP]
  exact ((Mm (B6 ps ls) ls).append_left F).trans h.pm
 ·by_cases hp:p < F.length
  ·rw[bK hp] at hk
   rw[List.take_append_of_le_length (by omega)]
   exact h.at_ p k hk j hj hb
  ·rw[cV (by omega)] at hk
   have hm:=bV hk
   obtain ⟨hm1,hm2⟩:=bX.mp hm
   have hjm:j∈F++ls:=h.pm.mem_iff.mpr (bL.mpr hj)
   rcases cT.mp hjm with q | q
   ·rw[List.take_append]
    refine dE _ ?_
    rw[gC (by omega)];exact q
   ·exfalso
    unfold B6 at hm2
    have:j∈ls.filter fun j=>Ab1 ps j k:=bX.mpr ⟨q,hb⟩
    rw[sA] at hm2
    rw[hm2] at this;cases this
theorem R9(ps:List P3)(hn:ps.length<=100)(L:UH):∃ (r:Nat) (F:List Nat) (L':UH),Ej [.tup (ps.map p3U)] L=some (.ref r,L')/\L'[r]? = some (.lst (ixU F))/\Ord ps F []/\Gw L L'/\L.length<=r:=by
 have sm0:small ([]:List U).length=true:=small_of (by show 0<=16777216;decide)
 have hl0:∀ δ M,(Cw Af) δ M=some (.ref M.length,M++[.lst []]):=fun δ M=>by rw[fLst_eq,fNil_eq,aA,if_pos sm0]
 have hlen:Bd [.tup (ps.map p3U)] L=some (.int ps.length,L):=by simp[Bd,lenU]
 have hrg:Bc 0 ps.length=ixU (aX ps.length):=by
  unfold Bc ixU
  exact cO fun i _=>by rw[lL]
 have h1:(U1 (Aa (Be Bd (Aa (Ad 0) Af)) Af)) [some (.tup (ps.map p3U)),none,none,none] L=some (.ref L.length,L++[.lst (ixU (aX ps.length))]):=by
  unfold U1
  simp only[fCons_eq,fCall_eq,fVar_eq,fNil_eq,aK,bB,aD,aA,hlen,fG,hrg]
  rw[if_pos ⟨by omega,by omega⟩]
 have s1:=Dp (i:=1) h1
 have s2:=Dp (i:=2) (hl0 [some (.tup (ps.map p3U)),some (.ref L.length),none,none] (L++[.lst (ixU (aX ps.length))]))
 simp only[aZ,bA] at s1 s2
 generalize hM:L++[HU.lst (ixU (aX ps.length))]=M at s1 s2
 have hML:M.length=L.length+1:=by rw[<- hM];simp
 have hMl:M[L.length]? = some (.lst (ixU (aX ps.length))):=by rw[<- hM];simp
 have gLM:Gw L M:=⟨_,hM.symm⟩
 have o0:Ord ps [] (aX ps.length):=⟨by simp,fun p k hk=>by simp at hk⟩
 obtain ⟨δ',L',e,P⟩:=Rl (c:=D0) (body:=Ge)
  (P:=fun m δ K=>∃ l x3 F ls,δ = [some (.tup (ps.map p3U)),some (.ref l),some (.ref M.length),x3]/\K[l]? = some (.lst (ixU ls))/\K[M.length]? = some (.lst (ixU F))/\l≠M.length/\Ord ps F ls/\Gw M K/\ls.length=m)
  (Q:=fun δ K=>∃ l x3 F,δ = [some (.tup (ps.map p3U)),some (.ref l),some (.ref M.length),x3]/\K[M.length]? = some (.lst (ixU F))/\Ord ps F []/\Gw M K)
  (fun m δ K ⟨l,x3,F,ls,hδ,hl,hF,hlM,O,g,hm⟩=>by
   subst hδ
   have hlsn:ls.length<=100:=by
    have:=O.pm.length_eq
    simp only[cG,cD] at this
    omega
   have hFn:F.length<=100:=by
    have:=O.pm.length_eq
    simp only[cG,cD] at this
    omega
   have q1:Ao (K++[HU.lst []]) l=some (ixU ls):=Cc (Aj hl)
   have q2:Ao (K++[HU.lst []]) K.length=some []:=Aj (by simp)
   have he:=Ny q1 q2 (Akd _) (by simp)
   rw[Qs] at he
   have hc:D0 [some (.tup (ps.map p3U)),some (.ref l),some (.ref M.length),x3] K=some (!(ixU ls).isEmpty,K++[.lst []]):=by
    unfold D0
    rw[fTest_eq,f2_eq]
    simp only[fVar_eq,aR,aK,bB,aD,aA,hl0,he]
   have hMK:=(aJ.mp hF).1
   cases hls:ls with
   | nil=>
    left
    rw[hls] at hc O
    exact ⟨_,hc,l,x3,F,rfl,(Gw.new K _).get hF,O,g.trans (Gw.new K _)⟩
   | cons a ls'=>
    right
    have hne:ls≠[]:=by rw[hls];simp
    have hemp:(ixU ls).isEmpty=false:=by rw[hls];rfl
    rw[hemp] at hc
    refine ⟨_,hc,?_⟩
    have g1:Gw K (K++[HU.lst []]):=Gw.new K _
    have hls_lt:∀ j∈ls,j < ps.length:=fun j hj=>O.lt (aT _ hj)
    obtain ⟨x,e1⟩:=Xz (g1.get hl) hls_lt (by omega) (some (.ref M.length)) x3
    have t1:=Dp (i:=3) e1
    simp only[aZ,bA] at t1
    have g2:Gw K (K++[HU.lst []]++x++[HU.lst (ixU (ls.filter (B6 ps ls)))]):=((g1.trans (Gw.new _ x)).trans (Gw.new _ _))
    have hr:(K++[HU.lst []]++x++[HU.lst (ixU (ls.filter (B6 ps ls)))])[(K++[HU.lst []]++x).length]? = some (.lst (ixU (ls.filter (B6 ps ls)))):=by simp
    have hge:M.length < (K++[HU.lst []]++x).length:=by simp;omega
    have hge2:l < (K++[HU.lst []]++x).length:=by have:=(aJ.mp hl).1;simp;omega
    generalize K++[HU.lst []]++x++[HU.lst (ixU (ls.filter (B6 ps ls)))]=K2 at t1 g2 hr
    generalize (K++[HU.lst []]++x).length=r at t1 hr hge hge2
    have hext:Hj (.ref M.length) [.ref r] K2=some (.non,K2.set M.length (.lst (ixU (F++ls.filter (B6 ps ls))))):=by
     have:ixU (F++ls.filter (B6 ps ls))=ixU F++ixU (ls.filter (B6 ps ls)):=by simp[ixU]
     rw[this]
     simp only[Hj,Dy (g2.get hF),Dy hr,aA]
     rw[if_pos]
     have:=eT (B6 ps ls) ls
     simp only[ixU,aV,sizeLine]
     omega
    have ty:=Im (g2.get hF)
    have t2:(Ik (Eu "list" Hj (Ad 2) (Aa (Ad 3) Af))) [some (.tup (ps.map p3U)),some (.ref l),some (.ref M.length),some (.ref r)] K2=some (.nx [some (.tup (ps.map p3U)),some (.ref l),some (.ref M.length),some (.ref r)],K2.set M.length (.lst (ixU (F++ls.filter (B6 ps ls))))):=by
     rw[Hs,fMeth_eq]
     simp only[fVar_eq,aR,aK,bB,aD,aA,ty,if_true,fCons_eq,fNil_eq,hext]
    have hMK2:=(aJ.mp (g2.get hF)).1
    have hl3:(K2.set M.length (.lst (ixU (F++ls.filter (B6 ps ls)))))[l]? = some (.lst (ixU ls)):=by rw[bR (eP hlM)];exact g2.get hl
    have hr3:(K2.set M.length (.lst (ixU (F++ls.filter (B6 ps ls)))))[r]? = some (.lst (ixU (ls.filter (B6 ps ls)))):=by rw[bR (by omega)];exact hr
    have hF3:(K2.set M.length (.lst (ixU (F++ls.filter (B6 ps ls)))))[M.length]? = some (.lst (ixU (F++ls.filter (B6 ps ls)))):=bQ hMK2
    have g3:Gw M (K2.set M.length (.lst (ixU (F++ls.filter (B6 ps ls))))):=(g.trans g2).set (aQ _) _
    obtain ⟨y,e3⟩:=Abr hl3 hr3 (by omega) (some (.tup (ps.map p3U))) (some (.ref M.length))
    have t3:=Dp (i:=1) e3
    simp only[aZ,bA] at t3
    have hrest:(ls.filter fun k=>!(ls.filter (B6 ps ls)).contains k)=ls.filter fun k=>!B6 ps ls k:=rF fun k hk=>by
     congr 1
     cases hf:B6 ps ls k with
     | true=>exact List.contains_iff_mem.mpr (bX.mpr ⟨hk,hf⟩)
     | false=>
      cases hc:(ls.filter (B6 ps ls)).contains k with
      | false=>rfl
      | true=>have:=(bX.mp (List.contains_iff_mem.mp hc)).2;rw[hf] at this;cases this
    rw[hrest] at t3
    have hlt:(ls.filter fun k=>!B6 ps ls k).length < ls.length:=by
     obtain ⟨k,hk,hx⟩:=Ti ps hne
     have hfk:B6 ps ls k=true:=by
      unfold B6
      rw[sA,List.filter_eq_nil_iff]
      exact fun j hj=>by rw[hx j hj];simp
     have:=Hg (p:=fun k=>!B6 ps ls k) (q:=fun _=>true) ls (fun _ _ _=>rfl) ⟨k,hk,rfl,by rw[hfk];rfl⟩
     have h2:ls.filter (fun _=>true)=ls:=dL.mpr (fun _ _=>rfl)
     rw[h2] at this;exact this
    generalize K2.set M.length (.lst (ixU (F++ls.filter (B6 ps ls))))=K3 at t2 t3 hF3 g3
    have g4:Gw K3 (K3++y++[HU.lst (ixU (ls.filter fun k=>!B6 ps ls k))]):=(Gw.new _ y).trans (Gw.new _ _)
    have hMK3:=(aJ.mp hF3).1
    refine ⟨_,_,(ls.filter fun k=>!B6 ps ls k).length,?_,by omega,(K3++y).length,some (.ref r),_,_,rfl,by simp,g4.get hF3,by simp;omega,O.more,g3.trans g4,rfl⟩
    unfold Ge
    rw[Al t1,Al t2]
    exact t3)
  100000 ps.length [some (.tup (ps.map p3U)),some (.ref L.length),some (.ref M.length),none] (M++[.lst []]) (by omega) ⟨L.length,none,[],aX ps.length,rfl,(Gw.new M _).get hMl,by simp[ixU],by omega,o0,Gw.new _ _,by simp⟩
 obtain ⟨l,x3,F,hδ,hF,O,g⟩:=P
 rw[hδ] at e
 refine ⟨M.length,F,L',?_,hF,O,gLM.trans g,by omega⟩
 unfold Ej fnU Kr
 simp only[aN,bF,if_true,aO,bT,bJ,cQ,dB]
 rw[Al s1,Al s2,Al e,fRet_eq]
 simp only[fVar_eq,aR,aK,bB,aD,aA]
theorem Afv(kvs:List (Key×U))(k k':Key)(v:U):Gx (Km kvs k v) k'=if k'=k then some v else Gx kvs k':=by
 unfold Km
 by_cases ha:(kvs.any fun kv=>decide (kv.1=k))=true
 ·rw[if_pos ha]
  induction kvs with
  | nil=>simp at ha
  | cons kv kvs ih=>
   by_cases h1:kv.1=k
   ·by_cases h2:k'=k
    ·subst h2
     simp[Gx,h1]
    ·have hn:¬ k=k':=fun e=>h2 e.symm
     rw[if_neg h2]
     by_cases hr:(kvs.any fun kv=>decide (kv.1=k))=true
     ·have:=ih hr
      rw[if_neg h2] at this
      unfold Gx at this ⊢
      rw[aO,if_pos h1,cW,cW]
      simp only[h1,hn,decide_false]
      exact this
     ·have hm:kvs.map (fun kv=>if kv.1=k then (kv.1,v) else kv)=kvs:=by
       conv=>rhs;rw[<- sG kvs]
       refine cO fun a hx=>?_
       have:¬ a.1=k:=fun e=>hr (nL.mpr ⟨a,hx,by simpa using e⟩)
       rw[if_neg this];rfl
      unfold Gx
      rw[aO,if_pos h1,hm,cW,cW]
      simp only[h1,hn,decide_false]
   ·have hr:(kvs.any fun kv=>decide (kv.1=k))=true:=by
     rw[gD] at ha
     simpa[h1] using ha
    have:=ih hr
    unfold Gx at this ⊢
    rw[aO,if_neg h1,cW,cW]
    by_cases h3:kv.1=k'
    ·have h2:¬ k'=k:=fun e=>h1 (h3.trans e)
     simp only[h3,decide_true,aD,if_neg h2]
    ·simp only[h3,decide_false]
     exact this
 ·rw[if_neg ha]
  unfold Gx
  rw[List.find?_append]
  by_cases h2:k'=k
  ·subst h2
   have:kvs.find? (fun kv=>decide (kv.1=k'))=none:=by
    rw[List.find?_eq_none]
    intro x hx
    simp only[decide_eq_true_eq]
    exact fun e=>ha (nL.mpr ⟨x,hx,by simpa using e⟩)
   rw[this,if_pos rfl]
   simp
  ·have hn:¬ k=k':=fun e=>h2 e.symm
   rw[if_neg h2]
   cases kvs.find? (fun kv=>decide (kv.1=k')) <;> simp[hn]
theorem Ag2(kvs:List (Key×U))(k:Key)(v:U):(Km kvs k v).length<=kvs.length+1:=by
 unfold Km
 split <;> simp
abbrev Ch:=List Nat×Nat
noncomputable def chU(c:Ch):U:=.tup (ixU (c.1++[c.2]))
theorem Aov(cs:List Ch):∀ u∈cs.map chU,Pl 6 u:=fun u hu=>by
 obtain ⟨c,_,rfl⟩:=cB.mp hu
 unfold chU
 rw[Gg]
 intro w hw
 obtain ⟨a,_,rfl⟩:=cB.mp hw
 exact Pl.int _ _
noncomputable def abl(ps:List P3)(e:Nat):List Nat:=(aX ps.length).filter (Ab1 ps e)
noncomputable def nxt(ps:List P3)(c:Ch):List Ch:=(abl ps c.2).map fun k=>(c.1++[c.2],k)
noncomputable def ext(ps:List P3)(t:Nat)(c:Ch):Int:=if c.1.length<=t then bgf ps (t - c.1.length) c.2 else 0
noncomputable def sc(cs:List Ch)(f:Ch->Int):Int:=(cs.map f).sum
theorem sc_append(a b:List Ch)(f:Ch->Int):sc (a++b) f=sc a f+sc b f:=by simp[sc,sU]
theorem Aft(c:Ch)(f:Ch->Int):sc [c] f=f c:=by simp[sc]
noncomputable def hit(t:Nat)(c:Ch):Int:=if c.1.length=t then 1 else 0
theorem Agg{c:Ch}(h:c.2 < ps.length)(t:Nat):ext ps t c=hit t c+sc (nxt ps c) (ext ps t):=by
 have hs:sc (nxt ps c) (ext ps t)=sm (abl ps c.2) fun k=>if c.1.length+1<=t then bgf ps (t - (c.1.length+1)) k else 0:=by
  unfold sc nxt sm
  rw[dD]
  congr 1
  refine cO fun k _=>?_
  simp[ext]
 rw[hs]
 unfold ext hit
 rcases Nat.lt_trichotomy c.1.length t with q | q | q
 ·rw[if_pos (by omega),if_neg (by omega),show t - c.1.length=(t - (c.1.length+1))+1 by omega,Ae5 h,abl,N1]
  rw[lL]
  have hc:c.1.length+1<=t:=q
  exact P4 fun j _=>by simp only[hc,if_true]
 ·rw[if_pos (by omega),if_pos q,q,eW,Aeb h]
  have:(sm (abl ps c.2) fun k=>if t+1<=t then bgf ps (t - (t+1)) k else 0)=0:=(P4 (g:=fun _=>0) fun j _=>by rw[if_neg (by omega)]).trans (Ut _)
  rw[this];rfl
 ·rw[if_neg (by omega),if_neg (by omega)]
  have:(sm (abl ps c.2) fun k=>if c.1.length+1<=t then bgf ps (t - (c.1.length+1)) k else 0)=0:=(P4 (g:=fun _=>0) fun j _=>by rw[if_neg (by omega)]).trans (Ut _)
  rw[this];rfl
noncomputable def wr(ps:List P3)(k:Nat):Nat:=wt ps (aX ps.length) k
theorem Ajj(ps:List P3)(e:Nat):((abl ps e).map (wr ps)).sum+1<=wr ps e:=by
 have h:=Aeg ps (abl ps e).length (abl ps e) rfl
 have hm:(abl ps e).map (wt ps (abl ps e))=(abl ps e).map (wr ps):=cO fun k hk=>by
  unfold wr wt
  have hk2:=(bX.mp hk).2
  have:(abl ps e).filter (Ab1 ps k)=(aX ps.length).filter (Ab1 ps k):=by
   unfold abl
   rw[List.filter_filter]
   refine rF fun x _=>?_
   cases hx:Ab1 ps k x with
   | false=>rfl
   | true=>rw[Y7 hk2 hx];rfl
  rw[this]
 rw[hm] at h
 exact h
theorem Afu(ps:List P3)(e:Nat):1<=wr ps e:=qG
noncomputable def mu(ps:List P3)(cs:List Ch):Nat:=(cs.map fun c=>wr ps c.2).sum
theorem So(ps:List P3)(a b:List Ch):mu ps (a++b)=mu ps a+mu ps b:=by simp[mu,sU]
theorem Ahk(ps:List P3)(c:Ch):mu ps (nxt ps c)+1<=wr ps c.2:=by
 have h:=Ajj ps c.2
 unfold mu nxt
 rw[dD]
 exact h
theorem Af7(ps:List P3):∀ cs:List Ch,cs.length<=mu ps cs
 | []=>aQ _
 | c::cs=>by
  have h:=Af7 ps cs
  have h1:=Afu ps c.2
  have:mu ps (c::cs)=wr ps c.2+mu ps cs:=by simp[mu]
  rw[aN];omega
noncomputable def Okc(ps:List P3)(c:Ch):Prop:=c.2 < ps.length/\c.1.length+(abl ps c.2).length<=ps.length
theorem Af4{c d:Ch}(h:Okc ps c)(hd:d∈nxt ps c):Okc ps d:=by
 obtain ⟨k,hk,rfl⟩:=cB.mp hd
 obtain ⟨hk1,hk2⟩:=bX.mp hk
 have hl:(abl ps k).length < (abl ps c.2).length:=Hg _ (fun x _ hx=>Y7 hk2 hx) ⟨k,hk1,hk2,S3 ps k⟩
 refine ⟨bL.mp hk1,?_⟩
 have:=h.2
 simp only[cG,aN,bF]
 omega
theorem Ahh(cs:List Nat)(e:Nat)(L:UH):Ak (.tup (ixU (cs++[e]))) (.int (-1)) L=some (.int (e:Int),L):=by
 have hl:(ixU (cs++[e])).length=cs.length+1:=by simp[ixU]
 have:L2.atI (ixU (cs++[e])) (-1)=some (.int (e:Int)):=by
  have hn:ixN (cs.length+1) (-1)=some cs.length:=by
   unfold ixN
   rw[if_neg (by decide),if_pos (by omega)]
   congr 1;omega
  unfold L2.atI
  rw[hl,hn]
  simp[ixU]
 rw[Sz,this];rfl
variable {us:List U}{x1:Option U}
theorem Yn{w:Nat}{c:Ch}(hk:k < ps.length)(hc:c.2 < ps.length)(hl:c.1.length<=1000)(hw:M[w]? = some (.lst us))(hu:us.length<=10000) :
  C6 [some (.tup (ps.map p3U)),x1,some (.ref w),some (chU c),some (.int (k:Int))] M=some (.nx [some (.tup (ps.map p3U)),x1,some (.ref w),some (chU c),some (.int (k:Int))],if Ab1 ps c.2 k=true then M.set w (.lst (us++[chU (c.1++[c.2],k)])) else M):=by
 have sm1:∀ x:U,small [x].length=true:=fun _=>small_of (by show 1<=16777216;decide)
 have hlast:=Ahh c.1 c.2 M
 have i1:(f2 Ak (Ad 0) (f2 Ak (Ad 3) (T5 (fC (.int 1))))) [some (.tup (ps.map p3U)),x1,some (.ref w),some (chU c),some (.int (k:Int))] M=some (p3U (ptAt ps c.2),M):=by
  unfold chU
  generalize ixU (c.1++[c.2])=vs at hlast
  have hneg:-(1:Int) = -1:=rfl
  simp only[f2_eq,fVar_eq,Aal,fC_eq,aR,aK,bB,aD,aA,hneg,hlast,Lp hc]
 have i2:(f2 Ak (Ad 0) (Ad 4)) [some (.tup (ps.map p3U)),x1,some (.ref w),some (chU c),some (.int (k:Int))] M=some (p3U (ptAt ps k),M):=by
  rw[f2_eq];simp only[fVar_eq,aR,aK,bB,aD,aA,Lp hk]
 have hb:(Kz (A9 2 Fd (Aa (f2 Ak (Ad 0) (f2 Ak (Ad 3) (T5 (fC (.int 1))))) (Aa (f2 Ak (Ad 0) (Ad 4)) Af)))) [some (.tup (ps.map p3U)),x1,some (.ref w),some (chU c),some (.int (k:Int))] M=some (Ab1 ps c.2 k,M):=by
  rw[fTru_eq,fOwn_eq,fCons_eq,i1]
  simp only[aA,fCons_eq,i2,fNil_eq,aD,aN,bF,if_true,Lv,truU_bl]
  rfl
 unfold C6
 rw[fIfS_eq,hb,aA]
 cases hab:Ab1 ps c.2 k with
 | false=>simp only[bH,if_false,B4]
 | true=>
  simp only[if_true]
  have hadd:Ax (chU c) (.tup [.int (k:Int)]) M=some (chU (c.1++[c.2],k),M):=by
   have hx:ixU (c.1++[c.2])++[.int (k:Int)]=ixU (c.1++[c.2]++[k]):=by simp[ixU]
   have he:(ixU (c.1++[c.2])).isEmpty=false:=by unfold ixU;cases c.1 <;> rfl
   have hlen:(ixU (c.1++[c.2])).length=c.1.length+1:=by simp[ixU]
   unfold chU
   simp only[<- hx]
   unfold Ax
   simp only
   rw[if_pos ⟨he,small_of (by rw[hlen];simp only[aN,bF];omega)⟩]
  have ap:=Jo (chU (c.1++[c.2],k)) hw (by omega)
  have ty:=Im hw
  generalize chU (c.1++[c.2],k)=cu at hadd ap
  generalize chU c=c0 at hadd
  rw[Hs,fMeth_eq]
  simp only[fVar_eq,aR,aK,bB,aD,aA,ty,if_true,fCons_eq,f2_eq,fTup_eq,fNil_eq]
  rw[if_pos (sm1 _)]
  simp only[aA,hadd,aD,ap]
variable {L0:UH}{x4:Option U}
theorem X9{w:Nat}{c:Ch}(hn:ps.length<=100)(hc:c.2 < ps.length)(hl:c.1.length<=1000)(hw:M[w]? = some (.lst us))(hu:us.length<=5000)(g0:Gw L0 M)(hw0:L0.length<=w){fu:List U}(hf:M[f]? = some (.lst fu))(hfw:f≠w) :
  ∃ (y4:Option U) (M':UH),(Jd (Dd (Aa (Be Bd (Aa (Ad 0) Af)) Af)) (gN 4) C6) [some (.tup (ps.map p3U)),some (.ref f),some (.ref w),some (chU c),x4] M=some (.nx [some (.tup (ps.map p3U)),some (.ref f),some (.ref w),some (chU c),y4],M')/\M'[w]? = some (.lst (us++(nxt ps c).map chU))/\M'[f]? = some (.lst fu)/\Gw L0 M':=by
 have hlen:Bd [.tup (ps.map p3U)] M=some (.int ps.length,M):=by simp[Bd,lenU]
 obtain ⟨δ',M',e,P⟩:=Mu (us:=Bc 0 ps.length) (L0:=M) (L:=M) (δ:=[some (.tup (ps.map p3U)),some (.ref f),some (.ref w),some (chU c),x4]) (body:=C6) (g:=gN 4) (fi:=Dd (Aa (Be Bd (Aa (Ad 0) Af)) Af))
  (fun k δ' K=>(∃ y4,δ'=[some (.tup (ps.map p3U)),some (.ref f),some (.ref w),some (chU c),y4])/\K[w]? = some (.lst (us++(((aX k).filter (Ab1 ps c.2)).map fun k=>(c.1++[c.2],k)).map chU))/\K[f]? = some (.lst fu)/\Gw L0 K)
  (Hz (n:=ps.length) (by simp only[fCons_eq,fCall_eq,fVar_eq,fNil_eq,aK,bB,aD,aA,hlen]) (by omega))
  ⟨⟨_,rfl⟩,by simpa using hw,hf,g0⟩
  (fun k u δ K hu' ⟨⟨y4,hδ⟩,h1,h2,h3⟩=>by
   subst hδ
   obtain ⟨hk,rfl⟩:=Gj hu'
   have h0:(0:Int)+(k:Int)=(k:Int):=by omega
   rw[h0]
   have hlk:(us++(((aX k).filter (Ab1 ps c.2)).map fun k=>(c.1++[c.2],k)).map chU).length<=10000:=by
    have:=eT (Ab1 ps c.2) (aX k)
    simp only[cG,aV]
    rw[cD] at this
    omega
   have t:=Yn (x1:=some (.ref f)) hk hc hl h1 hlk
   have hwl:=(aJ.mp h1).1
   refine ⟨_,K,rfl,_,_,.inl t,⟨_,rfl⟩,?_⟩
   cases hab:Ab1 ps c.2 k with
   | true=>
    rw[if_pos rfl]
    refine ⟨?_,by rw[bR (eP hfw)];exact h2,h3.set hw0 _⟩
    rw[bQ hwl,jK,jP,cR hab]
    simp
   | false=>
    rw[if_neg (by simp)]
    refine ⟨?_,h2,h3⟩
    rw[jK,jP,cS (by simp[hab])]
    simpa using h1)
 rw[Hr] at P
 obtain ⟨⟨y4,hδ⟩,h1,h2,h3⟩:=P
 rw[hδ] at e
 exact ⟨y4,M',e,h1,h2,h3⟩
noncomputable def ixI(l:List Nat):List Int:=l.map fun (j:Nat)=>(j:Int)
noncomputable def wS(w:Nat->Int)(c:List Nat):Int:=(c.map w).sum
noncomputable def kl(w:Nat->Int)(a b:List Nat):Bool:=if -(wS w a) = -(wS w b) then ltT (ixI a) (ixI b) else decide (-(wS w a) < -(wS w b))
theorem Pc(w:Nat->Int)(i:Nat)(c:List Nat):wS w (i::c)=w i+wS w c:=by simp[wS]
theorem Ahg(w:Nat->Int)(i:Nat)(a b:List Nat):kl w (i::a) (i::b)=kl w a b:=by
 unfold kl
 rw[Pc,Pc]
 have h1:ltT (ixI (i::a)) (ixI (i::b))=ltT (ixI a) (ixI b):=by simp[ixI,ltT]
 rw[h1]
 by_cases h:-(wS w a) = -(wS w b)
 ·rw[if_pos h,if_pos (by omega)]
 ·rw[if_neg h,if_neg (by omega)]
  congr 1
  rw[eq_iff_iff]
  omega
variable {a b:List Nat}
theorem Aja(h:ixI a=ixI b):a=b:=by
 unfold ixI at h
 induction a generalizing b with
 | nil=>cases b with | nil=>rfl | cons _ _=>simp at h
 | cons x a ih=>
  cases b with
  | nil=>simp at h
  | cons y b=>
   simp only[aO,oM] at h
   rw[ih h.2,tS h.1]
variable {w:Nat->Int}
theorem Aij(h:kl w a b=true):kl w b a=false:=by
 unfold kl at h ⊢
 by_cases e:-(wS w a) = -(wS w b)
 ·rw[if_pos e] at h
  rw[if_pos e.symm]
  exact H9 _ _ h
 ·rw[if_neg e] at h
  rw[if_neg (fun z=>e z.symm)]
  simp only[decide_eq_true_eq,decide_eq_false_iff_not] at h ⊢
  omega
variable {c:List Nat}
theorem Xh(h1:kl w a b=false)(h2:kl w b c=false):kl w a c=false:=by
 unfold kl at h1 h2 ⊢
 by_cases e1:-(wS w a) = -(wS w b)
 ·rw[if_pos e1] at h1
  by_cases e2:-(wS w b) = -(wS w c)
  ·rw[if_pos e2] at h2
   rw[if_pos (e1.trans e2)]
   exact Nm _ _ _ h2 h1
  ·rw[if_neg e2] at h2
   rw[if_neg (by omega)]
   simp only[decide_eq_false_iff_not] at h2 ⊢
   omega
 ·rw[if_neg e1] at h1
  simp only[decide_eq_false_iff_not] at h1
  by_cases e2:-(wS w b) = -(wS w c)
  ·rw[if_neg (by omega)]
   simp only[decide_eq_false_iff_not]
   omega
  ·rw[if_neg e2] at h2
   simp only[decide_eq_false_iff_not] at h2
   rw[if_neg (by omega)]
   simp only[decide_eq_false_iff_not]
   omega
theorem Ajl(h1:kl w a b=false)(h2:kl w b a=false):a=b:=by
 unfold kl at h1 h2
 by_cases e:-(wS w a) = -(wS w b)
 ·rw[if_pos e] at h1
  rw[if_pos e.symm] at h2
  exact Aja (Px _ _ h1 h2)
 ·rw[if_neg e] at h1
  rw[if_neg (fun z=>e z.symm)] at h2
  simp only[decide_eq_false_iff_not] at h1 h2
  omega
noncomputable def Bst(P:List Nat->Prop)(w:Nat->Int)(c:List Nat):Prop:=P c/\∀ d,P d->kl w d c=false
theorem Bst.uniq{P:List Nat->Prop}{d:List Nat}(h1:Bst P w c)(h2:Bst P w d):c=d:=Ajl (h2.2 c h1.1) (h1.2 d h2.1)
noncomputable def IsC(ps:List P3):List Nat->Prop
 | []=>False
 | [i]=>i < ps.length
 | i::j::r=>i < ps.length/\Ab1 ps i j=true/\IsC ps (j::r)
noncomputable def Ml(ps:List P3)(i:Nat)(c:List Nat):Prop:=IsC ps c/\c.head? = some i
theorem IsC.head(h:IsC ps (i::c)):i < ps.length:=by
 cases c with
 | nil=>exact h
 | cons j r=>exact h.1
theorem IsC.ex(h:IsC ps c):∃ i r,c=i::r:=by
 cases c with
 | nil=>exact h.elim
 | cons i r=>exact ⟨i,r,rfl⟩
theorem Vs{b:Nat->List Nat}{r:List Nat}(hi:i < ps.length)(hb:∀ j∈abl ps i,Bst (Ml ps j) w (b j))(hr:r=[]\/∃ j∈abl ps i,r=b j)(h0:kl w [] r=false)(h1:∀ j∈abl ps i,kl w (b j) r=false) :
  Bst (Ml ps i) w (i::r):=by
 refine ⟨⟨?_,rfl⟩,fun d hd=>?_⟩
 ·rcases hr with rfl | ⟨j,hj,rfl⟩
  ·exact hi
  ·obtain ⟨⟨hc,hh⟩,_⟩:=hb j hj
   obtain ⟨k,t,e⟩:=hc.ex
   rw[e] at hc hh ⊢
   cases hh
   exact ⟨hi,(bX.mp hj).2,hc⟩
 ·obtain ⟨hc,hh⟩:=hd
  obtain ⟨k,t,e⟩:=hc.ex
  rw[e] at hc hh ⊢
  cases hh
  rw[Ahg]
  cases t with
  | nil=>exact h0
  | cons j t=>
   have hj:j∈abl ps i:=bX.mpr ⟨bL.mpr hc.2.2.head,hc.2.1⟩
   exact Xh ((hb j hj).2 _ ⟨hc.2.2,rfl⟩) (h1 j hj)
theorem Yw{b:Nat->List Nat}(hk:k < ps.length)(hb:∀ i,i < ps.length->Bst (Ml ps i) w (b i))(h:∀ i,i < ps.length->kl w (b i) (b k)=false):Bst (IsC ps) w (b k):=by
 refine ⟨(hb k hk).1.1,fun d hd=>?_⟩
 obtain ⟨i,t,e⟩:=hd.ex
 have hi:i < ps.length:=by rw[e] at hd;exact hd.head
 exact Xh ((hb i hi).2 d ⟨hd,by rw[e];rfl⟩) (h i hi)
theorem V5{bt:Nat->Nat->Bool}(asy:∀ i j,bt i j=true->bt j i=false)(ntr:∀ i j k,bt i j=false->bt j k=false->bt i k=false):∀ (m j:Nat),j<=m->bt j (Cd bt m)=false
 | 0,j,h=>by
  have:j=0:=by omega
  subst this
  show bt 0 0=false
  cases e:bt 0 0 with
  | false=>rfl
  | true=>rw[<- e];exact asy _ _ e
 | m+1,j,h=>by
  unfold Cd
  have ih:=V5 asy ntr m
  split
  ·rename_i hb
   by_cases hj:j=m+1
   ·subst hj
    cases e:bt (m+1) (m+1) with
    | false=>rfl
    | true=>rw[<- e];exact asy _ _ e
   ·exact ntr _ _ _ (ih j (by omega)) (asy _ _ hb)
  ·rename_i hb
   by_cases hj:j=m+1
   ·subst hj;simpa using hb
   ·exact ih j (by omega)
theorem Xl(l:List Nat):mapO toI (ixU l)=some (ixI l):=by
 induction l with
 | nil=>rfl
 | cons a l ih=>
  unfold ixU ixI at ih ⊢
  simp only[aO,mapO,toI,ih,aA,aD]
theorem Afg{β:Type}(cs:List β)(key:β->U)(lt:β->β->Bool)(hne:cs≠[])(hlt:∀ a∈cs,∀ b∈cs,ltU (key a) (key b)=some (lt a b))(asy:∀ a b,lt a b=true->lt b a=false)(ntr:∀ a b c,lt a b=false->lt b c=false->lt a c=false) :
  Vf (cs.map key)=true/\∃ c,cs[Ht (cs.map key)]? = some c/\∀ d∈cs,lt d c=false:=by
 have hpos:0 < cs.length:=iG.mpr hne
 refine ⟨?_,?_⟩
 ·unfold Vf
  rw[bN]
  intro x hx
  obtain ⟨a,ha,rfl⟩:=cB.mp hx
  rw[bN]
  intro y hy
  obtain ⟨b,hb,rfl⟩:=cB.mp hy
  rw[hlt a ha b hb];rfl
 ·have hle:=N8 (fun i j=>(ltU ((cs.map key).getD i .non) ((cs.map key).getD j .non)).getD false) ((cs.map key).length - 1)
  have hmi:Ht (cs.map key) < cs.length:=by
   unfold Ht
   rw[aV] at hle ⊢
   omega
  refine ⟨cs[Ht (cs.map key)],aI hmi,fun d hd=>?_⟩
  let at_:Nat->β:=fun i=>cs.getD i cs[0]
  have hat:∀ i,at_ i∈cs:=fun i=>by
   show cs.getD i cs[0]∈cs
   rw[aP]
   by_cases h:i < cs.length
   ·rw[aI h];exact eZ h
   ·rw[eR (by omega)];exact eZ hpos
  have hbt:∀ i j,i < cs.length->j < cs.length->(ltU ((cs.map key).getD i .non) ((cs.map key).getD j .non)).getD false=lt (at_ i) (at_ j):=fun i j hi hj=>by
   have e:∀ i,i < cs.length->(cs.map key).getD i .non=key (at_ i):=fun i hi=>by
    show _=key (cs.getD i cs[0])
    rw[aP,bO,aI hi,aP,aI hi];rfl
   rw[e i hi,e j hj,hlt _ (hat i) _ (hat j)];rfl
  have hcong:∀ m,m < cs.length->Cd (fun i j=>(ltU ((cs.map key).getD i .non) ((cs.map key).getD j .non)).getD false) m=Cd (fun i j=>lt (at_ i) (at_ j)) m:=by
   intro m
   induction m with
   | zero=>intro _;rfl
   | succ m ih=>
    intro hm
    unfold Cd
    rw[ih (by omega)]
    have hb:=N8 (fun i j=>lt (at_ i) (at_ j)) m
    rw[hbt (m+1) _ hm (by omega)]
  obtain ⟨k,hk,rfl⟩:=jD hd
  have hmin:=V5 (bt:=fun i j=>lt (at_ i) (at_ j)) (fun i j h=>asy _ _ h) (fun i j k h1 h2=>ntr _ _ _ h1 h2) (cs.length - 1) k (by omega)
  have e1:at_ k=cs[k]:=by show cs.getD k cs[0]=_;rw[aP,aI hk];rfl
  have e2:at_ (Cd (fun i j=>lt (at_ i) (at_ j)) (cs.length - 1))=cs[Ht (cs.map key)]:=by
   have:Ht (cs.map key)=Cd (fun i j=>lt (at_ i) (at_ j)) (cs.length - 1):=by
    unfold Ht
    rw[aV]
    exact hcong _ (by omega)
   show cs.getD _ cs[0]=_
   rw[aP]
   have hlt2:Cd (fun i j=>lt (at_ i) (at_ j)) (cs.length - 1) < cs.length:=by rw[<- this];exact hmi
   rw[aI hlt2]
   simp only[iX]
   congr 1
   exact this.symm
  rw[e1,e2] at hmin
  exact hmin
noncomputable def pU(w:Nat->Int)(c:List Nat):U:=.tup [.int (wS w c),.tup (ixU c)]
noncomputable def kU(w:Nat->Int)(c:List Nat):U:=.tup [.int (-(wS w c)),.tup (ixU c)]
theorem Anu(w:Nat->Int)(a b:List Nat):ltU (kU w a) (kU w b)=some (kl w a b):=by
 unfold kU ltU kl
 simp only[Xl,aA,aD]
theorem Anw(w:Nat->Int)(c:List Nat)(δ:UE)(L:UH):Lk [none] B0 δ L (pU w c)=some (kU w c):=by
 have sm2:∀ x y:U,small [x,y].length=true:=fun _ _=>small_of (by show 2<=16777216;decide)
 refine Aag ?_
 have i0:Ak (pU w c) (.int 0) L=some (.int (wS w c),L):=rfl
 have i1:Ak (pU w c) (.int 1) L=some (.tup (ixU c),L):=rfl
 have hd:Va [none] (pU w c) δ = [some (pU w c)]:=rfl
 rw[hd]
 unfold B0
 generalize pU w c=u at i0 i1
 simp only[fTup_eq,fCons_eq,Aal,f2_eq,fVar_eq,fC_eq,fNil_eq,aK,bB,aD,aA,i0,i1]
 rw[if_pos (sm2 _ _)]
 rfl
theorem U9{β γ δ:Type}{f:γ->Option δ}{g:β->γ}{h:β->δ}(e:∀ b,f (g b)=some (h b)):∀ l:List β,mapO f (l.map g)=some (l.map h)
 | []=>rfl
 | b::l=>by simp only[aO,mapO,e,U9 e l,aA,aD]
variable {cs:List (List Nat)}
theorem Aj4(h:L[n]? = some (.lst (cs.map (pU w))))(hne:cs≠[]):∃ c,c∈cs/\C2 [.ref n] L=some (pU w c,L)/\∀ d∈cs,kl w d c=false:=by
 obtain ⟨hall,c,hc,hmin⟩:=Afg cs (kU w) (kl w) hne (fun a _ b _=>Anu w a b) (fun a b h=>Aij h) (fun a b c h1 h2=>Xh h1 h2)
 refine ⟨c,bV hc,?_,hmin⟩
 have hs:=Aj h
 have hk:=U9 (f:=Lk [none] B0 [some (.ref n)] L) (g:=pU w) (h:=kU w) (fun c=>Anw w c _ L) cs
 have hg:(cs.map (pU w)).getD (Ht (cs.map (kU w))) .non=pU w c:=by
  rw[aP,bO,hc];rfl
 have hpos:0 < (cs.map (pU w)).length:=by rw[aV];exact iG.mpr hne
 have e:(Nd [none] B0 (Ad 0)) [some (.ref n)] L=some (pU w c,L):=by
  unfold Nd
  simp only[fVar_eq,aK,bB,aD,aA,hs,hk]
  rw[if_pos ⟨hpos,hall⟩,hg]
 unfold C2 fnU Jq
 simp only[aN,bF,if_true,aO,bT,eW,eI,bG,fRet_eq,e,aD,aA]
theorem Afw{lt:Nat->Nat->Bool}(W:SO.Wo lt)(n:Nat):(SO.sortN lt n).Pairwise (SO.Le lt):=by
 unfold SO.sortN
 split
 ·rename_i h
  match n,h with
  | 0,_=>exact .nil
  | 1,_=>simp[jK]
 ·rename_i h
  obtain ⟨hp,hu⟩:=(SO.O0 (n:=n) W (by omega)).holds
  refine jB.mpr fun i j hi hj hij=>?_
  have h:=hu i j (by omega) (by rw[<- hp.size];simpa using hj)
  unfold SO.at0 at h
  rw[dR,dR] at h
  simp only[cN] at hi hj
  rw[mH hi,mH hj] at h
  simpa using h
noncomputable def kyI(p:Int×Int):List Int:=[p.1,p.2]
noncomputable def kys(ps:List P3):List (List Int):=(aX ps.length).map fun i=>kyI (ptAt ps i).2
noncomputable def Nr(ps:List P3):List Nat:=SO.sortN (ltK (kys ps).reverse) ps.length
noncomputable def Df(ps:List P3):List Nat:=((Nr ps).map fun i=>ps.length - 1 - i).reverse
theorem El(ps:List P3):(Nr ps).Perm (aX ps.length):=SO.sortN_perm (Qe _)
theorem Jb(ps:List P3):k∈Df ps↔k < ps.length:=by
 unfold Df
 rw[gH,cB]
 constructor
 ·rintro ⟨i,hi,rfl⟩
  have:=bL.mp ((El ps).mem_iff.mp hi)
  omega
 ·intro hk
  exact ⟨ps.length - 1 - k,(El ps).mem_iff.mpr (bL.mpr (by omega)),by omega⟩
theorem P6(ps:List P3):(Df ps).length=ps.length:=by
 unfold Df
 rw[bW,aV,(El ps).length_eq,cD]
theorem Xw(ps:List P3):(Df ps).Nodup:=by
 unfold Df
 rw[gU,List.pairwise_reverse]
 have hnd:(Nr ps).Nodup:=(El ps).nodup_iff.mpr nM
 have hlt:∀ i∈Nr ps,i < ps.length:=fun i hi=>bL.mp ((El ps).mem_iff.mp hi)
 rw[rD]
 rw[gU] at hnd
 refine List.Pairwise.imp_of_mem (fun {a b} ha hb hab=>?_) hnd
 have:=hlt a ha
 have:=hlt b hb
 omega
theorem Ag4(h:Ab1 ps i j=true):ltT (kyI (ptAt ps i).2) (kyI (ptAt ps j).2)=true:=by
 unfold Ab1 Ga at h
 simp only[pQ,cE,rE,oR,beq_eq_false_iff_ne,decide_eq_true_eq] at h
 obtain ⟨h1,h2,h3⟩:=h
 unfold kyI ltT
 by_cases e:(ptAt ps i).2.1=(ptAt ps j).2.1
 ·rw[if_pos (by simpa using e)]
  unfold ltT
  have e2:(ptAt ps i).2.2≠(ptAt ps j).2.2:=by rcases h3 with q | q;exact absurd e q;exact q
  rw[if_neg (by simpa using e2)]
  exact decide_eq_true (by omega)
 ·rw[if_neg (by simpa using e)]
  exact decide_eq_true (by omega)
theorem Y2(h:i < ps.length):(kys ps).reverse.getD i []=kyI (ptAt ps (ps.length - 1 - i)).2:=by
 have hl:(kys ps).length=ps.length:=by simp[kys]
 rw[aP,eS (by omega),hl]
 simp[kys,show ps.length - 1 - i < ps.length by omega]
variable {p:Nat}
theorem Yk(hk:(Df ps)[p]? = some k)(hj:j < ps.length)(hb:Ab1 ps k j=true):j∈(Df ps).take p:=by
 have hkn:k < ps.length:=(Jb ps).mp (bV hk)
 obtain ⟨q,hq,hqe⟩:=jD ((Jb ps).mpr hj)
 have hp:=(aJ.mp hk).1
 have hpe:(Df ps)[p]=k:=by rw[aI hp] at hk;exact bP hk
 by_cases hqp:q < p
 ·rw[<- hqe]
  rw[fL]
  exact ⟨q,by omega,rfl⟩
 ·exfalso
  have hne:q≠p:=fun e=>by
   subst e
   rw[hqe] at hpe
   rw[hpe,S3] at hb
   cases hb
  have hpw:=Afw (Qe (kys ps).reverse) ps.length
  have hl:=P6 ps
  have hrl:(Nr ps).length=ps.length:=by rw[(El ps).length_eq,cD]
  have hR:∀ t (ht:t < (Df ps).length),∃ (h2:ps.length - 1 - t < (Nr ps).length),(Df ps)[t]=ps.length - 1 - (Nr ps)[ps.length - 1 - t]:=fun t ht=>by
   have h2:ps.length - 1 - t < (Nr ps).length:=by omega
   refine ⟨h2,?_⟩
   have e:(Df ps)[t]? = some (ps.length - 1 - (Nr ps)[ps.length - 1 - t]):=by
    unfold Df
    rw[eS (by rw[aV];omega),bO,aV,hrl,aI h2]
    rfl
   rw[aI ht] at e
   exact bP e
  obtain ⟨a1,a2⟩:=hR q hq
  obtain ⟨b1,b2⟩:=hR p hp
  have hle:=jB.mp hpw (ps.length - 1 - q) (ps.length - 1 - p) a1 b1 (by omega)
  have la:(Nr ps)[ps.length - 1 - q] < ps.length:=bL.mp ((El ps).mem_iff.mp (eZ a1))
  have lb:(Nr ps)[ps.length - 1 - p] < ps.length:=bL.mp ((El ps).mem_iff.mp (eZ b1))
  have hle2:ltK (kys ps).reverse (Nr ps)[ps.length - 1 - p] (Nr ps)[ps.length - 1 - q]=false:=hle
  unfold ltK at hle2
  rw[Y2 la,Y2 lb,<- a2,<- b2,hqe,hpe,Ag4 hb] at hle2
  cases hle2
theorem Ags(n:Nat):Bc 0 n=ixU (aX n):=by
 unfold Bc ixU
 exact cO fun i _=>by rw[lL]
theorem Acd(h:i < ps.length)(δ:UE)(L:UH)(hd:δ[0]? = some (some (.tup (ps.map p3U)))):(Lk [none,some 0] Ay δ L (.int (i:Int))).bind Wd=some (kyI (ptAt ps i).2):=by
 have e:Lk [none,some 0] Ay δ L (.int (i:Int))=some (pr (ptAt ps i).2):=by
  refine Aag ?_
  have hδ:Va [none,some 0] (.int (i:Int)) δ = [some (.int (i:Int)),some (.tup (ps.map p3U))]:=by
   unfold Va E2
   simp[hd]
  rw[hδ]
  have i1:(f2 Ak (Ad 1) (Ad 0)) [some (.int (i:Int)),some (.tup (ps.map p3U))] L=some (p3U (ptAt ps i),L):=by
   rw[f2_eq];simp only[fVar_eq,aR,aK,bB,aD,aA,Lp h]
  unfold Ay
  rw[fOwn_eq,fCons_eq,i1]
  simp only[aA,fNil_eq,aD,aN,bF,if_true,K9]
 rw[e]
 rfl
theorem Yh(ps:List P3)(hn:ps.length<=60)(L:UH):Bs [.tup (ps.map p3U)] L=some (.ref L.length,L++[.lst (ixU (Df ps))]):=by
 have hlen:Bd [.tup (ps.map p3U)] L=some (.int ps.length,L):=by simp[Bd,lenU]
 have hk:mapO (fun u=>(Lk [none,some 0] Ay [some (.tup (ps.map p3U))] L u).bind Wd) (Bc 0 ps.length)=some (kys ps):=by
  rw[Ags]
  unfold ixU kys
  have:∀ l:List Nat,(∀ i∈l,i < ps.length)->mapO (fun u=>(Lk [none,some 0] Ay [some (.tup (ps.map p3U))] L u).bind Wd) (l.map fun (j:Nat)=>U.int (j:Int))=some (l.map fun i=>kyI (ptAt ps i).2):=by
   intro l
   induction l with
   | nil=>intro _;rfl
   | cons a l ih=>
    intro h
    simp only[aO,mapO]
    rw[Acd (h a (aW ..)) _ L rfl,ih fun i hi=>h i (aM _ hi)]
    rfl
  exact this _ fun i hi=>bL.mp hi
 have hall:((kys ps).all fun t=>!t.isEmpty)=true:=by
  rw[bN]
  intro t ht
  obtain ⟨i,_,rfl⟩:=cB.mp ht
  rfl
 have hres:((SO.sortN (ltK (kys ps).reverse) ps.length).map fun i=>(Bc 0 ps.length).reverse.getD i .non).reverse=ixU (Df ps):=by
  unfold Df ixU
  rw[sB,dD]
  congr 1
  refine cO fun i hi=>?_
  have hin:i < ps.length:=bL.mp ((El ps).mem_iff.mp hi)
  have hl:(Bc 0 ps.length).length=ps.length:=by unfold Bc;rw[aV,cD]
  rw[aP,eS (by omega),hl,Ags]
  unfold ixU
  rw[bO,lB (by omega)]
  rfl
 have e:(K5 [none,some 0] Ay (Aa (Be Bd (Aa (Ad 0) Af)) Af)) [some (.tup (ps.map p3U))] L=some (.ref L.length,L++[.lst (ixU (Df ps))]):=by
  unfold K5
  simp only[fCons_eq,fCall_eq,fVar_eq,fNil_eq,aK,bB,aD,aA,hlen,fG,hk]
  rw[if_pos ⟨⟨by omega,by omega⟩,hall⟩,hres]
 unfold Bs fnU E4
 simp only[aN,bF,if_true,aO,bT,eW,eI,bG,fRet_eq,e,aD,aA]
variable {fa fb:FE}{K:UH}
theorem B9{s:S2}{a b c:U}{J:UH}(ha:fa δ L=some (a,M))(hb:fb δ M=some (b,K))(h:s a b K=some (c,J)):(f2 s fa fb) δ L=some (c,J):=by
 rw[f2_eq,ha,aA,hb,aA,h]
theorem Aj8{f:FN}(h:fa δ L=some (u,M))(e:f [u] M=some (v,L')):(A9 1 f (Aa fa Af)) δ L=some (v,L'):=by
 rw[fOwn_eq,fCons_eq,h,aA,fNil_eq,aD]
 simp only[aA,aN,bF,if_true,e]
theorem Ij{f:FN}{w:U}(h:fa δ L=some (u,M))(h2:fb δ M=some (w,K))(e:f [u,w] K=some (v,L')):(A9 2 f (Aa fa (Aa fb Af))) δ L=some (v,L'):=by
 rw[fOwn_eq,fCons_eq,h,aA,fCons_eq,h2,aA,fNil_eq,aD,aD]
 simp only[aA,aN,bF,if_true,e]
theorem Jx{s:SC}(h:fa δ L=some (u,M))(e:s [u] M=some (v,L')):(Be s (Aa fa Af)) δ L=some (v,L'):=by
 rw[fCall_eq,fCons_eq,h,aA,fNil_eq,aD,aA,e]
theorem Ol(h:fa δ L=some (u,M))(h2:fb δ M=some (v,K)):(Dz (Aa fa (Aa fb Af))) δ L=some (.tup [u,v],K):=by
 rw[fTup_eq,fCons_eq,h,aA,fCons_eq,h2,aA,fNil_eq,aD,aD,aA,if_pos (small_of (by show 2<=16777216;decide))]
theorem Akg(h:fa δ L=some (u,M)):(Dz (Aa fa Af)) δ L=some (.tup [u],M):=by
 rw[fTup_eq,fCons_eq,h,aA,fNil_eq,aD,aA,if_pos (small_of (by show 1<=16777216;decide))]
theorem Wi(δ:UE)(L:UH):(Dz Af) δ L=some (.tup [],L):=by
 rw[fTup_eq,fNil_eq,aA,if_pos (small_of (by show 0<=16777216;decide))]
theorem Ajz(h:fa δ L=some (u,M)):(Cw (Aa fa Af)) δ L=some (.ref M.length,M++[.lst [u]]):=by
 rw[fLst_eq,fCons_eq,h,aA,fNil_eq,aD,aA,if_pos (small_of (by show 1<=16777216;decide))]
theorem Ahx{a b:Nat}{x y:List U}(ha:L[a]? = some (.lst x))(hb:L[b]? = some (.lst y))(hl:x.length+y.length<=16777216):Ax (.ref a) (.ref b) L=some (.ref L.length,L++[.lst (x++y)]):=by
 unfold Ax
 simp only[Dy ha,Dy hb,aA]
 rw[if_pos (small_of hl)]
theorem Aaf{a b:List U}(L:UH)(ha:a≠[])(hl:a.length+b.length<=16777216):Ax (.tup a) (.tup b) L=some (.tup (a++b),L):=by
 show (if a.isEmpty=false/\small (a.length+b.length)=true then some (U.tup (a++b),L) else none)=_
 rw[if_pos ⟨by cases a with | nil=>exact absurd rfl ha | cons _ _=>rfl,small_of hl⟩]
variable {E:Nat}{fo:FE}{kvs:List (Key×U)}
theorem Wu{fi:FE}{k:Key}(hv:fo δ M=some (.ref E,M))(hw:fi δ M=some (u,M))(hk:toK u=some k)(hE:M[E]? = some (.dic kvs))(h:Gx kvs k=some v):Ll fo fi δ M=some (v,M):=by
 have hd:Dg M E=some kvs:=by unfold Dg;rw[hE]
 unfold Ll
 simp only[hv,aA,hw,hk,hd,h,aD]
theorem Af2{fi fv:FE}{k:Key}(hv:fv δ L=some (v,M))(ho:fo δ M=some (.ref E,M))(hi:fi δ M=some (u,M))(hk:toK u=some k)(hE:M[E]? = some (.dic kvs))(hl:kvs.length < 1000000):Th fo fi fv δ L=some (.nx δ,M.set E (.dic (Km kvs k v))):=by
 have hd:Dg M E=some kvs:=by unfold Dg;rw[hE]
 unfold Th
 simp only[hv,aA,ho,hi,hk,hd]
 rw[if_pos hl]
noncomputable def dK(F:List Nat)(g:Nat->U):List (Key×U):=F.map fun (i:Nat)=>((kH (i:Int):Key),g i)
variable {g:Nat->U}
theorem Afh(h:j∈F):Gx (dK F g) (.inl (j:Int))=some (g j):=by
 unfold Gx dK
 induction F with
 | nil=>cases h
 | cons a F ih=>
  rw[aO,cW]
  by_cases e:a=j
  ·subst e;simp
  ·have hn:¬ (kH (a:Int):Key) = .inl (j:Int):=fun q=>e (by injection q with q;omega)
   simp only[hn,decide_false]
   exact ih (by rcases bE.mp h with z | z;exact absurd z.symm e;exact z)
theorem Af5(h:k∉F):Km (dK F g) (.inl (k:Int)) v=dK (F++[k]) (fun j=>if j=k then v else g j):=by
 have ha:((dK F g).any fun kv=>decide (kv.1 = .inl (k:Int)))=false:=by
  rw[qJ]
  intro x hx
  obtain ⟨i,hi,rfl⟩:=cB.mp hx
  simp only[decide_eq_true_eq]
  intro q
  injection q with q
  exact h (by rw[show k=i by omega];exact hi)
 unfold Km
 rw[if_neg (by rw[ha];simp)]
 unfold dK
 rw[kY]
 congr 1
 ·refine cO fun i hi=>?_
  have hik:i≠k:=fun e=>h (by rw[<- e];exact hi)
  show ((kH (i:Int):Key),g i)=(kH (i:Int),if i=k then v else g i)
  rw[if_neg hik]
 ·simp
theorem U6{g':Nat->U}(h:∀ i∈F,g i=g' i):dK F g=dK F g':=cO fun i hi=>by rw[h i hi]
structure Wt(M:UH)(W:Nat)(ps:List P3)(w:Nat->Int):Prop where
 ex:∃ kvs,M[W]? = some (.dic kvs)/\∀ i,i < ps.length->Gx kvs (.inr (ptAt ps i).1)=some (.int (w i))
variable {W:Nat}
theorem Wt.gw{M':UH}(h:Wt M W ps w)(g:Gw M M'):Wt M' W ps w:=by
 obtain ⟨kvs,h1,h2⟩:=h
 exact ⟨kvs,g.get h1,h2⟩
theorem Wt.set(h:Wt M W ps w)(hne:E≠W)(o:HU):Wt (M.set E o) W ps w:=by
 obtain ⟨kvs,h1,h2⟩:=h
 exact ⟨kvs,by rw[bR hne];exact h1,h2⟩
theorem IsC.len(hF:∀ i∈F,i < ps.length):F.length=F.length:=rfl
variable {x5:Option U}
theorem X7{b:Nat->List Nat}(hn:ps.length<=60)(hk:k < ps.length)(hW:Wt M W ps w)(hE:M[E]? = some (.dic (dK F fun i=>pU w (b i))))(hF:∀ j,j < ps.length->Ab1 ps k j=true->j∈F)(hkF:k∉F)(hFl:F.length<=60)
  (hb:∀ i∈F,Bst (Ml ps i) w (b i)) (hbl:∀ i∈F,(b i).length<=1000) :
  ∃ (b':Nat->List Nat) (y4 y5:Option U) (M':UH),Dj [some (.tup (ps.map p3U)),some (.ref W),some (.ref E),some (.int (k:Int)),x4,x5] M=some (.nx [some (.tup (ps.map p3U)),some (.ref W),some (.ref E),some (.int (k:Int)),y4,y5],M'.set E (.dic (dK (F++[k]) fun i=>pU w (b' i))))/\Gw M M'/\(∀ i∈F,b' i=b i)/\Bst (Ml ps k) w (b' k):=by
 obtain ⟨r,L1,e1,h1,g1,_⟩:=Afa ps (by omega) (ptAt ps k) M
 have hE1:=g1.get hE
 have hi:(f2 Ak (Ad 0) (Ad 3)) [some (.tup (ps.map p3U)),some (.ref W),some (.ref E),some (.int (k:Int)),x4,x5] M=some (p3U (ptAt ps k),M):=B9 rfl rfl (Lp hk M)
 have hi2:∀ N x4 x5,(f2 Ak (Ad 0) (Ad 3)) [some (.tup (ps.map p3U)),some (.ref W),some (.ref E),some (.int (k:Int)),x4,x5] N=some (p3U (ptAt ps k),N):=fun N x4 x5=>B9 rfl rfl (Lp hk N)
 have ht:=Ij (fa:=Ad 0) (δ:=[some (.tup (ps.map p3U)),some (.ref W),some (.ref E),some (.int (k:Int)),x4,x5]) rfl hi e1
 have hs:Ao L1 r=some ((abl ps k).map fun (j:Nat)=>U.int (j:Int)):=Aj h1
 have hab:∀ j∈abl ps k,j∈F:=fun j hj=>hF j (bL.mp (bX.mp hj).1) (bX.mp hj).2
 have hal:(abl ps k).length<=60:=by
  have:=eT (Ab1 ps k) (aX ps.length)
  rw[cD] at this
  unfold abl;omega
 obtain ⟨x,ec⟩:=Bv (ix:=[none,some 2]) (fi:=Bm (A9 2 E7 (Aa (Ad 0) (Aa (f2 Ak (Ad 0) (Ad 3)) Af)))) (it:=.ref r) (g:=gN 0) (tt:=none) (fe:=G4) (δ:=[some (.tup (ps.map p3U)),some (.ref W),some (.ref E),some (.int (k:Int)),x4,x5]) (L:=M) (L0:=L1)
  (abl ps k) (fun (j:Nat)=>U.int (j:Int)) (fun _=>true) (fun j=>pU w (b j)) (fun δ=>∃ z,δ = [z,some (.ref E)]) (by rw[Dc,ht];simp only[aA,Ci hs,aD]) (by rw[Gs hs];simp) (by omega) ⟨none,rfl⟩
  (fun k x=>K6 (Cc hs))
  (fun j δ x hj ⟨z,hδ⟩=>by
   subst hδ
   refine ⟨[some (.int (j:Int)),some (.ref E)],rfl,⟨_,rfl⟩,[],by simp[Hw],fun _=>⟨[],?_⟩⟩
   rw[bG,bG]
   exact Wu (u:=.int (j:Int)) rfl rfl rfl ((Gw.new L1 x).get hE1) (Afh (hab j hj)))
 have hff:gE (fun _=>true) (abl ps k)=abl ps k:=dL.mpr (fun _ _=>rfl)
 rw[hff] at ec
 have s1:=Dp (i:=4) ec
 simp only[aZ,bA] at s1
 have g2:Gw M (L1++x++[HU.lst ((abl ps k).map fun j=>pU w (b j))]):=(g1.trans (Gw.new _ x)).trans (Gw.new _ _)
 have hf:(L1++x++[HU.lst ((abl ps k).map fun j=>pU w (b j))])[(L1++x).length]? = some (.lst ((abl ps k).map fun j=>pU w (b j))):=by simp
 generalize L1++x++[HU.lst ((abl ps k).map fun j=>pU w (b j))]=L2 at s1 g2 hf
 generalize (L1++x).length=rf at s1 hf
 have hz:(Dz (Aa (fC (.int 0)) (Aa (Dz Af) Af))) [some (.tup (ps.map p3U)),some (.ref W),some (.ref E),some (.int (k:Int)),some (.ref rf),x5] L2=some (pU w [],L2):=Ol rfl (Wi _ _)
 have hl1:=Ajz hz
 have hq1:(L2++[HU.lst [pU w []]])[L2.length]? = some (.lst [pU w []]):=by simp
 have hq2:=(Gw.new L2 [HU.lst [pU w []]]).get hf
 have hadd:=Ahx hq1 hq2 (by simp only[aN,bF,aV];omega)
 have hcs:[pU w []]++(abl ps k).map (fun j=>pU w (b j))=([]::(abl ps k).map b).map (pU w):=by simp
 rw[hcs] at hadd
 obtain ⟨rr,hrm,er,hrmin⟩:=Aj4 (L:=L2++[HU.lst [pU w []]]++[HU.lst (([]::(abl ps k).map b).map (pU w))]) (n:=(L2++[HU.lst [pU w []]]).length) (w:=w) (cs:=[]::(abl ps k).map b) (by simp) (by simp)
 have s2:=Dp (i:=5) (Aj8 (B9 (fb:=Ad 4) hl1 rfl hadd) er)
 simp only[aZ,bA] at s2
 have g3:Gw M (L2++[HU.lst [pU w []]]++[HU.lst (([]::(abl ps k).map b).map (pU w))]):=(g2.trans (Gw.new _ _)).trans (Gw.new _ _)
 generalize L2++[HU.lst [pU w []]]++[HU.lst (([]::(abl ps k).map b).map (pU w))]=L3 at s2 g3
 have hrl:rr.length<=1000:=by
  rcases bE.mp hrm with rfl | h
  ·simp
  ·obtain ⟨j,hj,rfl⟩:=cB.mp h
   exact hbl j (hab j hj)
 obtain ⟨wk,hw1,hw2⟩:=hW.gw g3
 have hnm:∀ N,(f2 Ak (f2 Ak (Ad 0) (Ad 3)) (fC (.int 0))) [some (.tup (ps.map p3U)),some (.ref W),some (.ref E),some (.int (k:Int)),some (.ref rf),some (pU w rr)] N=some (.str (ptAt ps k).1,N):=fun N=>B9 (hi2 N _ _) rfl rfl
 have hwk:=Wu (fo:=Ad 1) (δ:=[some (.tup (ps.map p3U)),some (.ref W),some (.ref E),some (.int (k:Int)),some (.ref rf),some (pU w rr)]) rfl (hnm L3) rfl hw1 (hw2 k hk)
 have hr0:(f2 Ak (Ad 5) (fC (.int 0))) [some (.tup (ps.map p3U)),some (.ref W),some (.ref E),some (.int (k:Int)),some (.ref rf),some (pU w rr)] L3=some (.int (wS w rr),L3):=B9 rfl rfl rfl
 have hr1:(f2 Ak (Ad 5) (fC (.int 1))) [some (.tup (ps.map p3U)),some (.ref W),some (.ref E),some (.int (k:Int)),some (.ref rf),some (pU w rr)] L3=some (.tup (ixU rr),L3):=B9 rfl rfl rfl
 have hv:=Ol (B9 (s:=Ax) hwk hr0 rfl) (B9 (s:=Ax) (Akg (fa:=Ad 3) rfl) hr1 (Aaf (a:=[.int (k:Int)]) (b:=ixU rr) L3 (by simp) (by simp only[ixU,aN,bF,aV];omega)))
 have hvU:(.tup [.int (w k+wS w rr),.tup ([.int (k:Int)]++ixU rr)]:U)=pU w (k::rr):=by
  unfold pU
  rw[Pc]
  rfl
 rw[hvU] at hv
 have s3:=Af2 (fo:=Ad 2) (fi:=Ad 3) (u:=.int (k:Int)) hv rfl rfl rfl (g3.get hE) (by unfold dK;rw[aV];omega)
 rw[Af5 hkF] at s3
 refine ⟨fun j=>if j=k then k::rr else b j,some (.ref rf),some (pU w rr),L3,?_,g3,fun i hi=>if_neg (fun e=>hkF (by rw[<- e];exact hi)),?_⟩
 ·have hd:dK (F++[k]) (fun j=>if j=k then pU w (k::rr) else pU w (b j))=dK (F++[k]) fun i=>pU w (if i=k then k::rr else b i):=U6 fun i _=>by
   by_cases h:i=k
   ·rw[if_pos h,if_pos h]
   ·rw[if_neg h,if_neg h]
  rw[hd] at s3
  unfold Dj
  rw[Al s1,Al s2]
  exact s3
 ·show Bst (Ml ps k) w (if k=k then k::rr else b k)
  rw[if_pos rfl]
  refine Vs hk (fun j hj=>hb j (hab j hj)) ?_ (hrmin [] (aW ..)) fun j hj=>hrmin _ (aM _ (fJ hj))
  rcases bE.mp hrm with h | h
  ·exact .inl h
  ·obtain ⟨j,hj,rfl⟩:=cB.mp h
   exact .inr ⟨j,hj,rfl⟩
theorem Ip:∀ {c:List Nat},IsC ps c->c.length<=ps.length:=by
 have key:∀ (c:List Nat),IsC ps c->∀ i r,c=i::r->c.length<=(abl ps i).length+1:=by
  intro c
  induction c with
  | nil=>intro h;exact h.elim
  | cons a c ih=>
   intro h i r e
   cases e
   cases c with
   | nil=>simp
   | cons j r=>
    have h2:=ih h.2.2 j r rfl
    have h3:(abl ps j).length < (abl ps a).length:=Hg _ (fun x _ hx=>Y7 h.2.1 hx) ⟨j,bL.mpr h.2.2.head,h.2.1,S3 ps j⟩
    simp only[aN] at h2 ⊢
    omega
 intro c h
 obtain ⟨i,r,e⟩:=h.ex
 have h1:=key c h i r e
 have hi:i < ps.length:=by rw[e] at h;exact h.head
 have h2:(abl ps i).length < (aX ps.length).length:=by
  have:(aX ps.length).filter (fun _=>true)=aX ps.length:=dL.mpr fun _ _=>rfl
  conv=>rhs;rw[<- this]
  exact Hg _ (fun _ _ _=>rfl) ⟨i,bL.mpr hi,rfl,S3 ps i⟩
 rw[cD] at h2
 omega
theorem Aer(hn:ps.length<=60)(hW:Wt L W ps w):∃ (b:Nat->List Nat) (r:Nat) (L':UH),Em [.tup (ps.map p3U),.ref W] L=some (.ref r,L')/\L'[r]? = some (.lst ((Df ps).map fun i=>pU w (b i)))/\(∀ i,i < ps.length->Bst (Ml ps i) w (b i))/\Gw L L':=by
 have hWl:W < L.length:=by
  obtain ⟨kvs,h,_⟩:=hW
  exact (aJ.mp h).1
 have s1:(A8 Pp (gN 2)) [some (.tup (ps.map p3U)),some (.ref W),none,none,none,none] L=some (.nx [some (.tup (ps.map p3U)),some (.ref W),some (.ref L.length),none,none,none],L++[.dic []]):=rfl
 have hh:=Yh ps hn (L++[HU.dic []])
 have hFl:=P6 ps
 have gA:Gw L (L++[HU.dic []]++[HU.lst (ixU (Df ps))]):=(Gw.new L _).trans (Gw.new _ _)
 have hr:(L++[HU.dic []]++[HU.lst (ixU (Df ps))])[(L++[HU.dic []]).length]? = some (.lst (ixU (Df ps))):=by simp
 have hE0:(L++[HU.dic []]++[HU.lst (ixU (Df ps))])[L.length]? = some (.dic (dK [] fun i=>pU w [])):=by simp[dK]
 have hre:(L++[HU.dic []]).length≠L.length:=by simp
 generalize hM:L++[HU.dic []]++[HU.lst (ixU (Df ps))]=M at hh gA hr hE0
 generalize (L++[HU.dic []]).length=r at hh hr hre
 have hi:(Bm (A9 1 Bs (Aa (Ad 0) Af))) [some (.tup (ps.map p3U)),some (.ref W),some (.ref L.length),none,none,none] (L++[HU.dic []])=some (.ref r,M):=by
  rw[Dc,Ab3 (i:=0) rfl hh]
  simp only[aA,Ci (Aj hr),aD]
 obtain ⟨δ',L',e,P⟩:=Mx (us:=ixU (Df ps)) (n:=r) (body:=Dj) (g:=gN 3)
  (fun p δ' M'=>∃ (b:Nat->List Nat) (y3 y4 y5:Option U),δ'=[some (.tup (ps.map p3U)),some (.ref W),some (.ref L.length),y3,y4,y5]/\M'[L.length]? = some (.dic (dK ((Df ps).take p) fun i=>pU w (b i)))/\(∀ i∈(Df ps).take p,Bst (Ml ps i) w (b i))/\M'[r]? = some (.lst (ixU (Df ps)))/\Gw L M')
  hi ⟨fun _=>[],none,none,none,rfl,hE0,(fun i hi=>by cases hi),hr,gA⟩
  (fun k δ M ⟨_,_,_,_,_,_,_,h,_⟩=>Aj h)
  (fun p u δ M' hu ⟨b,y3,y4,y5,hδ,h1,h2,h3,h4⟩=>by
   subst hδ
   unfold ixU at hu
   rw[bO] at hu
   obtain ⟨k,hk,rfl⟩:=aG.mp hu
   have hpl:=(aJ.mp hk).1
   have hkn:k < ps.length:=(Jb ps).mp (bV hk)
   have htake:(Df ps).take (p+1)=(Df ps).take p++[k]:=by rw[iB,hk];rfl
   have hkF:k∉(Df ps).take p:=fun hm=>by
    obtain ⟨q,hq,hqe⟩:=fL.mp hm
    have hpe:(Df ps)[p]=k:=by rw[aI hpl] at hk;exact bP hk
    have:=(gU.mp (Xw ps))
    have h5:=jB.mp this q p (by omega) hpl (by omega)
    exact h5 (by rw[hqe,hpe])
   obtain ⟨b',z4,z5,M2,e2,g2,q1,q2⟩:=X7 (x4:=y4) (x5:=y5) hn hkn (hW.gw h4) h1 (fun j hj hb=>Yk hk hj hb) hkF (by rw[gF];omega) h2 (fun i hi=>by have:=Ip (h2 i hi).1.1;omega)
   have hEl:L.length < M2.length:=by
    have:=(aJ.mp (g2.get h1)).1
    exact this
   refine ⟨[some (.tup (ps.map p3U)),some (.ref W),some (.ref L.length),some (.int (k:Int)),y4,y5],M',rfl,_,_,.inl e2,b',_,_,_,rfl,by rw[htake];exact bQ hEl,fun i hi=>?_,by rw[bR (eP hre)];exact g2.get h3,(h4.trans g2).set (aQ _) _⟩
   rw[htake] at hi
   rcases cT.mp hi with hi | hi
   ·rw[q1 i hi];exact h2 i hi
   ·rw[cH.mp hi];exact q2)
 obtain ⟨b,y3,y4,y5,hδ,h1,h2,h3,h4⟩:=P
 rw[hδ] at e
 have hxl:(ixU (Df ps)).length=(Df ps).length:=by simp[ixU]
 rw[hxl,kG] at h1 h2
 have hdic:Dg L' L.length=some (dK (Df ps) fun i=>pU w (b i)):=by unfold Dg;rw[h1]
 have hvals:Ih (dK (Df ps) fun i=>pU w (b i))=(Df ps).map fun i=>pU w (b i):=by
  unfold Ih dK
  rw[dD];rfl
 have ev:(Uc (Ad 2)) [some (.tup (ps.map p3U)),some (.ref W),some (.ref L.length),y3,y4,y5] L'=some (.ref L'.length,L'++[.lst ((Df ps).map fun i=>pU w (b i))]):=by
  rw[<- hvals]
  unfold Uc
  simp only[fVar_eq,aR,aK,bB,aD,aA,hdic]
 refine ⟨b,L'.length,L'++[.lst ((Df ps).map fun i=>pU w (b i))],?_,by simp,fun i hi=>h2 i ((Jb ps).mpr hi),h4.trans (Gw.new _ _)⟩
 unfold Em fnU Jn
 simp only[aN,bF,if_true,aO,bT,bJ,cQ,dB]
 rw[Al s1,Al e,fRet_eq,ev]
 simp only[aD,aA]
noncomputable def nmU(ps:List P3)(c:List Nat):U:=.tup (c.map fun i=>U.str (ptAt ps i).1)
theorem Ahz{v0 v1:Nat}(h:j < ps.length)(L:UH)(h0:Ad v0 δ L=some (.tup (ps.map p3U),L))(h1:Ad v1 δ L=some (.int (j:Int),L)):(f2 Ak (f2 Ak (Ad v0) (Ad v1)) (fC (.int 0))) δ L=some (.str (ptAt ps j).1,L):=B9 (B9 h0 h1 (Lp h L)) rfl rfl
variable {fi:FI}{it:IU}{fe:FE}
theorem Md{i0:Nat}(hfe:fe=f2 Ak (f2 Ak (Ad 1) (Ad 0)) (fC (.int 0)))(hi:fi δ L=some (it,L0))(hsz:c.length<=it.size L0)(hat:∀ k x,it.at k (L0++x)=some (c.map fun (j:Nat)=>U.int (j:Int))[k]?)(hd:δ[i0]? = some (some (.tup (ps.map p3U))))(hc:∀ j∈c,j < ps.length)(hl:c.length<=1000) :
  ∃ L',(Be Ei (Aa (Bn [none,some i0] fi (gN 0) none fe) Af)) δ L=some (nmU ps c,L')/\Gw L0 L':=by
 obtain ⟨x,e⟩:=Bv (ix:=[none,some i0]) (fi:=fi) (it:=it) (g:=gN 0) (tt:=none) (fe:=fe) (δ:=δ) (L:=L) (L0:=L0) c (fun (j:Nat)=>U.int (j:Int)) (fun _=>true) (fun j=>U.str (ptAt ps j).1) (fun δ=>∃ z,δ = [z,some (.tup (ps.map p3U))]) hi hsz (by omega) ⟨none,by simp[E2,hd]⟩ hat
  (fun j δ x hj ⟨z,hδ⟩=>by
   subst hδ
   refine ⟨[some (.int (j:Int)),some (.tup (ps.map p3U))],rfl,⟨_,rfl⟩,[],by simp[Hw],fun _=>⟨[],?_⟩⟩
   rw[bG,bG,hfe]
   exact Ahz (hc j hj) _ rfl rfl)
 have hff:gE (fun _=>true) c=c:=dL.mpr (fun _ _=>rfl)
 rw[hff] at e
 refine ⟨L0++x++[HU.lst (c.map fun j=>U.str (ptAt ps j).1)],Jx e ?_,(Gw.new _ x).trans (Gw.new _ _)⟩
 have hq:Ao (L0++x++[HU.lst (c.map fun j=>U.str (ptAt ps j).1)]) (L0++x).length=some (c.map fun j=>U.str (ptAt ps j).1):=Aj (by simp)
 simp only[Ei,hq,aD,nmU]
theorem IsC.all:∀ {c:List Nat},IsC ps c->∀ j∈c,j < ps.length:=by
 intro c
 induction c with
 | nil=>intro h;exact h.elim
 | cons a c ih=>
  intro h j hj
  rcases bE.mp hj with rfl | hj
  ·exact h.head
  ·cases c with
   | nil=>cases hj
   | cons b c=>exact ih h.2.2 j hj
theorem V8(hn:ps.length<=60)(hne:ps≠[])(hW:Wt L W ps w):∃ (c:List Nat) (L':UH),Bj [.tup (ps.map p3U),.ref W] L=some (.tup [.int (wS w c),nmU ps c],L')/\Bst (IsC ps) w c/\Gw L L':=by
 have hpos:0 < ps.length:=iG.mpr hne
 obtain ⟨b,r,L1,e1,h1,hb,g1⟩:=Aer hn hW
 have hm:(Df ps).map (fun i=>pU w (b i))=((Df ps).map b).map (pU w):=by rw[dD];rfl
 rw[hm] at h1
 obtain ⟨c,hc,e2,hmin⟩:=Aj4 h1 (by
  intro z
  have:=congrArg mM z
  rw[aV,P6] at this
  have h0:ps.length=0:=this
  omega)
 obtain ⟨k,hk,rfl⟩:=cB.mp hc
 have hkn:=(Jb ps).mp hk
 have hB:=Yw hkn hb (fun i hi=>hmin _ (fJ ((Jb ps).mpr hi)))
 have t0:(Uo (Kz (Ad 0))) [some (.tup (ps.map p3U)),some (.ref W),none] L=some (false,L):=by
  have:Yt (.tup (ps.map p3U)) L=some true:=by
   cases ps with
   | nil=>exact absurd rfl hne
   | cons _ _=>rfl
  simp only[Pf,fTru_eq,fVar_eq,aK,bB,aD,aA,this,iT]
 have s0:(Ey (Uo (Kz (Ad 0))) (De (Dz (Aa (fC (.int 0)) (Aa (Dz Af) Af)))) Co) [some (.tup (ps.map p3U)),some (.ref W),none] L=some (.nx [some (.tup (ps.map p3U)),some (.ref W),none],L):=by
  rw[fIfS_eq,t0]
  simp only[aA,bH,if_false,B4]
 have s1:=Dp (i:=2) (Aj8 (Afs (i:=0) (j:=1) (δ:=[some (.tup (ps.map p3U)),some (.ref W),none]) rfl rfl e1) e2)
 simp only[aZ,bA] at s1
 have hcl:=Ip hB.1
 have hx:(f2 Ak (Ad 2) (fC (.int 1))) [some (.tup (ps.map p3U)),some (.ref W),some (pU w (b k))] L1=some (.tup (ixU (b k)),L1):=B9 rfl rfl rfl
 have h0:(f2 Ak (Ad 2) (fC (.int 0))) [some (.tup (ps.map p3U)),some (.ref W),some (pU w (b k))] L1=some (.int (wS w (b k)),L1):=B9 rfl rfl rfl
 obtain ⟨L2,e3,g3⟩:=Md (ps:=ps) (fi:=Bm (f2 Ak (Ad 2) (fC (.int 1)))) (it:=.seq (ixU (b k))) (fe:=G6) (δ:=[some (.tup (ps.map p3U)),some (.ref W),some (pU w (b k))]) (L:=L1) (L0:=L1) (c:=b k) (i0:=0) rfl (by rw[Dc,hx];rfl) (by simp[IU.size,ixU]) (fun _ _=>rfl) rfl hB.1.all (by omega)
 refine ⟨b k,L2,?_,hB,g1.trans g3⟩
 have ht:=Ol h0 e3
 unfold Bj fnU Iu
 simp only[aN,bF,if_true,aO,bT,bJ,cQ,dB]
 rw[Al s0,Al s1,fRet_eq,ht]
 simp only[aD,aA]
noncomputable def Lc(c:Ch):List Nat:=c.1++[c.2]
theorem Agn{e:Nat}(hk:k < ps.length)(hb:Ab1 ps e k=true):∀ {l:List Nat},IsC ps (l++[e])->IsC ps (l++[e]++[k]):=by
 intro l
 induction l with
 | nil=>intro h;exact ⟨h,hb,hk⟩
 | cons a l ih=>
  intro h
  cases l with
  | nil=>exact ⟨h.1,h.2.1,ih h.2.2⟩
  | cons b l=>exact ⟨h.1,h.2.1,ih h.2.2⟩
theorem Al4{e:Nat}{t:List Nat}:∀ {l:List Nat},IsC ps (l++[e]++k::t)->Ab1 ps e k=true/\k < ps.length:=by
 intro l
 induction l with
 | nil=>intro h;exact ⟨h.2.1,h.2.2.head⟩
 | cons a l ih=>
  intro h
  cases l with
  | nil=>exact ih h.2.2
  | cons b l=>exact ih h.2.2
structure Cv(ps:List P3)(fs ws:List Ch):Prop where
 f:∀ c∈fs,IsC ps (Lc c)
 w:∀ c∈ws,IsC ps (Lc c)
 all:∀ d,IsC ps d->(∃ c∈fs,Lc c=d)\/∃ c∈ws,∃ t,Lc c++t=d
theorem Cv.start(ps:List P3):Cv ps [] ((aX ps.length).map fun i=>(([],i):Ch)):=by
 refine ⟨(fun c hc=>by cases hc),fun c hc=>?_,fun d hd=>.inr ?_⟩
 ·obtain ⟨i,hi,rfl⟩:=cB.mp hc
  exact bL.mp hi
 ·obtain ⟨i,r,e⟩:=hd.ex
  have hi:i < ps.length:=by rw[e] at hd;exact hd.head
  exact ⟨([],i),cB.mpr ⟨i,bL.mpr hi,rfl⟩,r,by rw[e];rfl⟩
theorem Cv.step{fs ws:List Ch}{c:Ch}(h:Cv ps fs (ws++[c])):Cv ps (fs++[c]) (ws++nxt ps c):=by
 have hc:=h.w c (by simp)
 refine ⟨fun d hd=>?_,fun d hd=>?_,fun d hd=>?_⟩
 ·rcases cT.mp hd with z | z
  ·exact h.f d z
  ·rw[cH.mp z];exact hc
 ·rcases cT.mp hd with z | z
  ·exact h.w d (dE _ z)
  ·obtain ⟨k,hk,rfl⟩:=cB.mp z
   obtain ⟨hk1,hk2⟩:=bX.mp hk
   exact Agn (bL.mp hk1) hk2 hc
 ·rcases h.all d hd with ⟨x,hx,e⟩ | ⟨x,hx,t,e⟩
  ·exact .inl ⟨x,dE _ hx,e⟩
  ·rcases cT.mp hx with z | z
   ·exact .inr ⟨x,dE _ z,t,e⟩
   ·rw[cH.mp z] at e
    cases t with
    | nil=>exact .inl ⟨c,by simp,by rw[<- e,bG]⟩
    | cons k t=>
     rw[<- e] at hd
     obtain ⟨h1,h2⟩:=Al4 (l:=c.1) (e:=c.2) hd
     refine .inr ⟨(c.1++[c.2],k),aT _ (cB.mpr ⟨k,bX.mpr ⟨bL.mpr h2,h1⟩,rfl⟩),t,?_⟩
     rw[<- e]
     unfold Lc
     simp
theorem Uq(us:List U)(u:U):(us++[u]).dropLast=us:=by simp
theorem R8(ps:List P3)(hn:ps.length<=8)(L:UH):∃ (r:Nat) (fs:List Ch) (L':UH),Fw [.tup (ps.map p3U)] L=some (.ref r,L')/\L'[r]? = some (.lst (fs.map chU))/\(∀ c∈fs,Okc ps c)/\(∀ t,sc fs (hit t)=(bg ps t).sum)/\Gw L L'/\Cv ps fs []/\fs.length<=256:=by
 have sm0:small ([]:List U).length=true:=small_of (by show 0<=16777216;decide)
 have sm1:∀ x:U,small [x].length=true:=fun _=>small_of (by show 1<=16777216;decide)
 have hl0:∀ δ M,(Cw Af) δ M=some (.ref M.length,M++[.lst []]):=fun δ M=>by rw[fLst_eq,fNil_eq,aA,if_pos sm0]
 have s1:=Dp (i:=1) (hl0 [some (.tup (ps.map p3U)),none,none,none,none] L)
 simp only[aZ,bA] at s1
 have hlen:Bd [.tup (ps.map p3U)] (L++[HU.lst []])=some (.int ps.length,L++[HU.lst []]):=by simp[Bd,lenU]
 have hrg:Bc 0 ps.length=(aX ps.length).map fun (i:Nat)=>U.int (i:Int):=by
  unfold Bc
  exact cO fun i _=>by rw[lL]
 have hi:Dd (Aa (Be Bd (Aa (Ad 0) Af)) Af) [some (.tup (ps.map p3U)),some (.ref L.length),none,none,none] (L++[HU.lst []])=some (.seq ((aX ps.length).map fun (i:Nat)=>U.int (i:Int)),L++[HU.lst []]):=by
  rw[<- hrg]
  exact Hz (n:=ps.length) (by simp only[fCons_eq,fCall_eq,fVar_eq,fNil_eq,aK,bB,aD,aA,hlen]) (by omega)
 obtain ⟨x,e1⟩:=Bv (ix:=[none]) (it:=.seq ((aX ps.length).map fun (i:Nat)=>U.int (i:Int))) (g:=gN 0) (tt:=none) (fe:=Fy) (δ:=[some (.tup (ps.map p3U)),some (.ref L.length),none,none,none]) (L:=L++[HU.lst []]) (L0:=L++[HU.lst []])
  (aX ps.length) (fun (i:Nat)=>U.int (i:Int)) (fun _=>true) (fun i=>chU ([],i)) (fun δ=>∃ z,δ = [z]) hi (by simp[IU.size]) (by simp;omega) ⟨none,rfl⟩
  (fun k x=>rfl)
  (fun j δ x _ ⟨z,hδ⟩=>by
   subst hδ
   refine ⟨[some (.int (j:Int))],rfl,⟨_,rfl⟩,[],by simp[Hw],fun _=>⟨[],?_⟩⟩
   rw[bG,bG]
   unfold Fy
   simp only[fTup_eq,fCons_eq,fVar_eq,fNil_eq,aK,bB,aD,aA]
   rw[if_pos (sm1 _)]
   rfl)
 have hff:gE (fun _=>true) (aX ps.length)=aX ps.length:=dL.mpr (fun _ _=>rfl)
 have hmm:(aX ps.length).map (fun i=>chU ([],i))=((aX ps.length).map fun i=>(([],i):Ch)).map chU:=by simp
 rw[hff,hmm] at e1
 have s2:=Dp (i:=2) e1
 simp only[aZ,bA] at s2
 have gM:Gw L (L++[HU.lst []]++x++[HU.lst (((aX ps.length).map fun i=>(([],i):Ch)).map chU)]):=((Gw.new L _).trans (Gw.new _ _)).trans (Gw.new _ _)
 have hwM:(L++[HU.lst []]++x++[HU.lst (((aX ps.length).map fun i=>(([],i):Ch)).map chU)])[(L++[HU.lst []]++x).length]? = some (.lst (((aX ps.length).map fun i=>(([],i):Ch)).map chU)):=by simp
 have hfM:(L++[HU.lst []]++x++[HU.lst (((aX ps.length).map fun i=>(([],i):Ch)).map chU)])[L.length]? = some (.lst []):=by simp
 have hwl:L.length < (L++[HU.lst []]++x).length:=by rw[cG,cG];simp only[aN,bF];omega
 generalize L++[HU.lst []]++x++[HU.lst (((aX ps.length).map fun i=>(([],i):Ch)).map chU)]=M at s2 gM hwM hfM
 generalize (L++[HU.lst []]++x).length=w at s2 hwM hwl
 have hmu0:mu ps ((aX ps.length).map fun i=>(([],i):Ch))+1<=256:=by
  have h:=Aeg ps ps.length (aX ps.length) (by simp)
  have h2:2 ^ ps.length<=2 ^ 8:=iV (by omega) hn
  have h3:mu ps ((aX ps.length).map fun i=>(([],i):Ch))=((aX ps.length).map (wt ps (aX ps.length))).sum:=by
   unfold mu
   rw[dD];rfl
  rw[h3]
  have:(2:Nat) ^ 8=256:=by decide
  omega
 have hsc0:∀ t,sc [] (hit t)+sc ((aX ps.length).map fun i=>(([],i):Ch)) (ext ps t)=(bg ps t).sum:=fun t=>by
  rw[Apc]
  unfold sc sm
  rw[dD,bT,List.sum_nil,lL]
  congr 1
 obtain ⟨δ',L',e,P⟩:=Rl (c:=Ed) (body:=Gh)
  (P:=fun m δ K=>∃ (y3 y4:Option U) (fs ws:List Ch),δ = [some (.tup (ps.map p3U)),some (.ref L.length),some (.ref w),y3,y4]/\K[L.length]? = some (.lst (fs.map chU))/\K[w]? = some (.lst (ws.map chU))/\mu ps ws=m/\fs.length+mu ps ws<=256/\(∀ c∈fs,Okc ps c)/\(∀ c∈ws,Okc ps c)/\(∀ t,sc fs (hit t)+sc ws (ext ps t)=(bg ps t).sum)/\Gw L K/\Cv ps fs ws)
  (Q:=fun δ K=>∃ (y3 y4:Option U) (fs:List Ch),δ = [some (.tup (ps.map p3U)),some (.ref L.length),some (.ref w),y3,y4]/\K[L.length]? = some (.lst (fs.map chU))/\(∀ c∈fs,Okc ps c)/\(∀ t,sc fs (hit t)=(bg ps t).sum)/\Gw L K/\Cv ps fs []/\fs.length<=256)
  (fun m δ K ⟨y3,y4,fs,ws,hδ,h1,h2,h3,h4,h5,h6,h7,h8,h9⟩=>by
   subst hδ
   have q1:Ao (K++[HU.lst []]) w=some (ws.map chU):=Cc (Aj h2)
   have q2:Ao (K++[HU.lst []]) K.length=some []:=Aj (by simp)
   have he:=Ny q1 q2 (Aov _) (by simp)
   rw[Qs] at he
   have hc:Ed [some (.tup (ps.map p3U)),some (.ref L.length),some (.ref w),y3,y4] K=some (!(ws.map chU).isEmpty,K++[.lst []]):=by
    unfold Ed
    rw[fTest_eq,f2_eq]
    simp only[fVar_eq,aR,aK,bB,aD,aA,hl0,he]
   have g1:Gw K (K++[HU.lst []]):=Gw.new K _
   rcases List.eq_nil_or_concat ws with hws | ⟨ws0,c,hws⟩
   ·left
    subst hws
    exact ⟨_,hc,y3,y4,fs,rfl,g1.get h1,h5,fun t=>by have:=h7 t;simpa[sc] using this,h8.trans g1,h9,by omega⟩
   ·right
    rw[List.concat_eq_append] at hws
    have hemp:(ws.map chU).isEmpty=false:=by rw[hws];cases ws0 <;> rfl
    rw[hemp] at hc
    refine ⟨_,hc,?_⟩
    have k2:=g1.get h2
    have k1:=g1.get h1
    have gK:=h8.trans g1
    have hfw:L.length≠w:=by omega
    generalize K++[HU.lst []]=K1 at k1 k2 gK
    have hok:Okc ps c:=h6 c (by rw[hws];simp)
    have hmu:mu ps ws=mu ps ws0+wr ps c.2:=by rw[hws,So];simp[mu]
    have hmc:=Afu ps c.2
    have hml:=Af7 ps ws
    have hwl0:ws.length=ws0.length+1:=by rw[hws];simp
    have hpop:Lg (.ref w) [] K1=some (chU c,K1.set w (.lst (ws0.map chU))):=by
     have hm:ws.map chU=ws0.map chU++[chU c]:=by rw[hws];simp
     rw[hm] at k2
     unfold Lg
     simp only[Dy k2,aA,Uq]
     rw[cG,aN,bF,jO,cV (aQ _),eW]
     rfl
    have ty:=Im k2
    have t1:(A8 (Eu "list" Lg (Ad 2) Af) (gN 3)) [some (.tup (ps.map p3U)),some (.ref L.length),some (.ref w),y3,y4] K1=some (.nx [some (.tup (ps.map p3U)),some (.ref L.length),some (.ref w),some (chU c),y4],K1.set w (.lst (ws0.map chU))):=by
     generalize chU c=cu at hpop
     rw[fAsg_eq,fMeth_eq]
     simp only[fVar_eq,aR,aK,bB,aD,aA,ty,if_true,fNil_eq,hpop,gN_eq,aZ,bA]
    have hwl1:=(aJ.mp k2).1
    have m2:(K1.set w (.lst (ws0.map chU)))[w]? = some (.lst (ws0.map chU)):=bQ hwl1
    have m1:(K1.set w (.lst (ws0.map chU)))[L.length]? = some (.lst (fs.map chU)):=by rw[bR (eP hfw)];exact k1
    have gK2:Gw L (K1.set w (.lst (ws0.map chU))):=gK.set (by omega) _
    generalize K1.set w (.lst (ws0.map chU))=K2 at t1 m1 m2 gK2
    have ap:=Jo (chU c) m1 (by rw[aV];omega)
    have ty2:=Im m1
    have t2:(Ik (Eu "list" C3 (Ad 1) (Aa (Ad 3) Af))) [some (.tup (ps.map p3U)),some (.ref L.length),some (.ref w),some (chU c),y4] K2=some (.nx [some (.tup (ps.map p3U)),some (.ref L.length),some (.ref w),some (chU c),y4],K2.set L.length (.lst (fs.map chU++[chU c]))):=by
     generalize chU c=cu at ap
     rw[Hs,fMeth_eq]
     simp only[fVar_eq,aR,aK,bB,aD,aA,ty2,if_true,fCons_eq,fNil_eq,ap]
    have hfl:=(aJ.mp m1).1
    have n1:(K2.set L.length (.lst (fs.map chU++[chU c])))[L.length]? = some (.lst (fs.map chU++[chU c])):=bQ hfl
    have n2:(K2.set L.length (.lst (fs.map chU++[chU c])))[w]? = some (.lst (ws0.map chU)):=by rw[bR hfw];exact m2
    have gK3:Gw L (K2.set L.length (.lst (fs.map chU++[chU c]))):=gK2.set (aQ _) _
    generalize K2.set L.length (.lst (fs.map chU++[chU c]))=K3 at t2 n1 n2 gK3
    have hcl:=hok.2
    obtain ⟨z4,K4,t3,r1,r2,r3⟩:=X9 (x4:=y4) (by omega) hok.1 (by omega) n2 (by rw[aV];omega) gK3 (by omega) n1 hfw
    have hnx:=Ahk ps c
    have hmn:mu ps (ws0++nxt ps c)=mu ps ws0+mu ps (nxt ps c):=So ..
    refine ⟨_,K4,mu ps (ws0++nxt ps c),?_,by omega,some (chU c),z4,fs++[c],ws0++nxt ps c,rfl,by rw[r2];simp,by rw[r1];simp,rfl,by simp;omega,?_,?_,fun t=>?_,r3,Cv.step (by rw[<- hws];exact h9)⟩
    ·unfold Gh
     rw[Al t1,Al t2]
     exact t3
    ·intro d hd
     rcases cT.mp hd with h | h
     ·exact h5 d h
     ·rw[cH.mp h];exact hok
    ·intro d hd
     rcases cT.mp hd with h | h
     ·exact h6 d (by rw[hws];exact dE _ h)
     ·exact Af4 hok h
    ·have:=h7 t
     rw[hws,sc_append,Aft,Agg hok.1] at this
     rw[sc_append,sc_append,Aft,<- this]
     omega)
  100000 (mu ps ((aX ps.length).map fun i=>(([],i):Ch))) [some (.tup (ps.map p3U)),some (.ref L.length),some (.ref w),none,none] M (by omega) ⟨none,none,[],_,rfl,by simpa using hfM,hwM,rfl,by simp;omega,by simp,fun c hc=>by
   obtain ⟨i,hi,rfl⟩:=cB.mp hc
   refine ⟨bL.mp hi,?_⟩
   have:=eT (Ab1 ps i) (aX ps.length)
   rw[cD] at this
   simpa[abl] using this,hsc0,gM,Cv.start ps⟩
 obtain ⟨y3,y4,fs,hδ,h1,h2,h3,h4,h5,h6⟩:=P
 rw[hδ] at e
 refine ⟨L.length,fs,L',?_,h1,h2,h3,h4,h5,h6⟩
 unfold Fw fnU Ko
 simp only[aN,bF,if_true,aO,bT,bJ,cQ,dB]
 rw[Al s1,Al s2,Al e,fRet_eq]
 simp only[fVar_eq,aR,aK,bB,aD,aA]
variable {m:Int}
theorem Aht{ns:List Int}(hm:m∈ns)(h:∀ x∈ns,x<=m):Kq ns=m:=Tu ns m hm h
theorem T6{ns:List Int}(h:L[n]? = some (.lst (ns.map U.int)))(hne:ns≠[]):N6 [.ref n] L=some (.int (Kq ns),L):=by
 unfold N6 Aa1
 simp only[Aj h,aA,toI_ints]
 rw[if_neg (by cases ns with | nil=>exact absurd rfl hne | cons _ _=>simp)]
theorem Aks(a b:List Nat):ltU (.tup (ixU a)) (.tup (ixU b))=some (ltT (ixI a) (ixI b)):=by
 have h:∀ (x y:List U) (m n:List Int),mapO toI x=some m->mapO toI y=some n->ltU (.tup x) (.tup y)=some (ltT m n):=by
  intro x y m n h1 h2
  unfold ltU
  split
  ·rename_i e1 e2
   cases e1
   simp[mapO,toI] at h1
  ·rename_i e1 e2
   cases e1
   cases e2
   rw[h1,h2];rfl
  ·rename_i hc
   exact absurd rfl (hc x y rfl)
 exact h _ _ _ _ (Xl a) (Xl b)
theorem Mg(hf:fe δ L0=some (.ref n,L))(h:L[n]? = some (.lst (cs.map fun c=>.tup (ixU c))))(hne:cs≠[]):∃ c,c∈cs/\Og fe δ L0=some (.tup (ixU c),L)/\∀ d∈cs,ltT (ixI d) (ixI c)=false:=by
 obtain ⟨hall,c,hc,hmin⟩:=Afg cs (fun c=>U.tup (ixU c)) (fun a b=>ltT (ixI a) (ixI b)) hne (fun a _ b _=>Aks a b) (fun a b h=>H9 _ _ h) (fun a b c h1 h2=>Nm _ _ _ h2 h1)
 refine ⟨c,bV hc,?_,hmin⟩
 have hs:=Aj h
 have hg:(cs.map fun c=>U.tup (ixU c)).getD (Ht (cs.map fun c=>U.tup (ixU c))) .non = .tup (ixU c):=by
  rw[aP,bO,hc];rfl
 have hpos:0 < (cs.map fun c=>U.tup (ixU c)).length:=by rw[aV];exact iG.mpr hne
 unfold Og
 simp only[hf,aA,hs]
 rw[if_pos ⟨hpos,hall⟩,hg]
noncomputable def kiU(xs:List (Key×Int)):List (Key×U):=xs.map fun p=>(p.1,U.int p.2)
theorem Amw(xs:List (Key×Int))(k:Key)(i:Int)(hn:(xs.map (·.1)).Nodup):∃ ys,Km (kiU xs) k (.int i)=kiU ys/\(ys.map (·.1)).Nodup/\ys.length<=xs.length+1:=by
 unfold Km
 have ha:((kiU xs).any fun kv=>decide (kv.1=k))=xs.any fun p=>decide (p.1=k):=by
  unfold kiU;rw[List.any_map];rfl
 rw[ha]
 by_cases h:(xs.any fun p=>decide (p.1=k))=true
 ·rw[if_pos h]
  refine ⟨xs.map fun p=>if p.1=k then (p.1,i) else p,?_,?_,by simp⟩
  ·unfold kiU
   rw[dD,dD]
   refine cO fun p _=>?_
   show (if p.1=k then (p.1,U.int i) else (p.1,U.int p.2))=_
   simp only[mX]
   split <;> rfl
  ·have:(xs.map fun p=>if p.1=k then (p.1,i) else p).map (·.1)=xs.map (·.1):=by
    rw[dD]
    refine cO fun p _=>?_
    simp only[mX]
    split <;> rfl
   rw[this];exact hn
 ·rw[if_neg h]
  refine ⟨xs++[(k,i)],by unfold kiU;simp,?_,by simp⟩
  rw[kY,List.nodup_append]
  refine ⟨hn,by simp,fun a hm b hb=>?_⟩
  simp only[aO,bT,cH] at hb
  subst hb
  intro e
  subst e
  obtain ⟨p,hp,rfl⟩:=cB.mp hm
  exact h (nL.mpr ⟨p,hp,by simp⟩)
theorem toKIs(xs:List (Key×Int)):mapO Agq (kiU xs)=some xs:=by
 induction xs with
 | nil=>rfl
 | cons p xs ih=>
  unfold kiU at ih ⊢
  simp only[aO,mapO,Agq,ih,aA,aD]
theorem V6:∀ (xs:List (Key×Int)),(xs.map (·.1)).Nodup->∀ p∈xs,(xs.find? fun q=>decide (q.1=p.1))=some p
 | [],_,p,hp=>by cases hp
 | x::xs,hn,p,hp=>by
  rw[aO,kN] at hn
  rw[cW]
  rcases bE.mp hp with e | e
  ·subst e;simp
  ·have:x.1≠p.1:=fun q=>hn.1 (by rw[q];exact fJ e)
   simp only[this,decide_false]
   exact V6 xs hn.2 p e
theorem Aej{xs:List (Key×Int)}(hn:(xs.map (·.1)).Nodup):eqD xs xs=true:=by
 unfold eqD Tb
 rw[beq_self_eq_true,Bool.true_and,bN]
 intro p hp
 rw[V6 xs hn p hp]
 simp
theorem Agm(R:FN)(i:Int)(L:UH):(fnU 2 2 (Gv R)) [.int i,.int i] L=some (.bl true,L):=by
 have t1:∀ i L,Me (.int i) L=some "int" := fun _ _=>rfl
 have n1:isT "int" "tuple" = false:=rfl
 have n2:isT "int" "str" = false:=rfl
 have n3:isT "int" "int" = true:=rfl
 have n4:isT "int" "bool" = false:=rfl
 have hi:Ot false (.int i) .non L=some (.bl false,L):=rfl
 unfold fnU Gv
 simp only[aN,bF,if_true,aO,bT,eW,eI,bG,fSeq_eq,fIfS_eq,fTest_eq,fTru_eq,f2_eq,Ui,fVar_eq,fC_eq,aR,aK,bB,aD,aA,hi,t1,n1,n2,n3,n4,truU_bl,bH,if_false,B4,fRet_eq,Ld,fNotV_eq,pK,semEq_int,beq_self_eq_true]
theorem Afc(R:FN){s:Str}(hs:Pl 6 (.str s))(L:UH):(fnU 2 2 (Gv R)) [.str s,.str s] L=some (.bl true,L):=by
 have t1:∀ s L,Me (.str s) L=some "str" := fun _ _=>rfl
 have n1:isT "str" "tuple" = false:=rfl
 have n2:isT "str" "str" = true:=rfl
 have hi:Ot false (.str s) .non L=some (.bl false,L):=rfl
 have he:B7 (.str s) (.str s) L=some (.bl true,L):=by rw[Aez L hs hs,Rc hs]
 unfold fnU Gv
 simp only[aN,bF,if_true,aO,bT,eW,eI,bG,fSeq_eq,fIfS_eq,fTest_eq,fTru_eq,f2_eq,Ui,fVar_eq,fC_eq,aR,aK,bB,aD,aA,hi,t1,n1,n2,truU_bl,bH,if_false,B4,fRet_eq,Ld,he]
theorem Sd(R:FN)(us:List U)(hR:∀ u∈us,∀ L,∃ x,R [u,u] L=some (.bl true,L++x))(hx:us.length<=1000)(L:UH):∃ x,(fnU 2 2 (Gv R)) [.tup us,.tup us] L=some (.bl true,L++x):=by
 have hz:(Q9 (Aa (Ad 0) (Aa (Ad 1) Af))) [some (.tup us),some (.tup us)] L=some (.seq (us.map fun a=>.tup [a,a]),L):=by
  have:Kv us us=us.map fun a=>.tup [a,a]:=by
   clear hR hx
   unfold Kv
   induction us with
   | nil=>rfl
   | cons x xs ih=>rw[iL,aO,ih];rfl
  rw[<- this];rfl
 obtain ⟨x,e⟩:=Bv (ix:=[none,none]) (fi:=Q9 (Aa (Ad 0) (Aa (Ad 1) Af))) (it:=.seq (us.map fun a=>.tup [a,a])) (g:=(MR.gTup 2 (MR.gCons (gN 0) (MR.gCons (gN 1) MR.gNil)))) (tt:=some (Ig R)) (fe:=Oo R) (δ:=[some (.tup us),some (.tup us)]) (L:=L) (L0:=L)
  us (fun a=>.tup [a,a]) (fun _=>false) (fun _=>.int 1) (fun δ=>∃ a b,δ = [a,b]) hz (by simp[IU.size]) (by omega) ⟨none,none,rfl⟩
  (fun k x=>rfl)
  (fun a δ x ha ⟨y,z,hδ⟩=>by
   subst hδ
   obtain ⟨w,hw⟩:=hR a ha (L++x)
   refine ⟨[some a,some a],rfl,⟨_,_,rfl⟩,w,?_,fun h=>by cases h⟩
   show (Ig R) [some a,some a] (L++x)=_
   unfold Ig
   simp only[Pf,fTru_eq,fOwn_eq,fCons_eq,fNil_eq,fVar_eq,aR,aK,bB,aD,aA,aN,bF,if_true,hw,truU_bl,iT])
 have hf:gE (fun _=>false) us=([]:List U):=List.filter_eq_nil_iff.mpr (fun _ _=>by simp)
 rw[hf,bT] at e
 have q1:Ao (L++x++[HU.lst []]++[HU.lst []]) (L++x).length=some []:=Cc (Aj (by simp))
 have q2:Ao (L++x++[HU.lst []]++[HU.lst []]) (L++x++[HU.lst []]).length=some []:=Aj (by simp)
 have he:=S9 q1 q2 (by simp) (by simp)
 have hb:R4 [] []=true:=rfl
 rw[hb] at he
 refine ⟨x++[HU.lst []]++[HU.lst []],?_⟩
 have t1:∀ l L,Me (.tup l) L=some "tuple" := fun _ _=>rfl
 have n1:isT "tuple" "tuple" = true:=rfl
 have hi:∀ l,Ot false (.tup l) .non L=some (.bl false,L):=fun _=>rfl
 have hlen:∀ l:List U,Bd [.tup l] L=some (.int l.length,L):=fun l=>rfl
 have hne:∀ i:Int,Ef (.int i) (.int i) L=some (.bl false,L):=fun i=>by simp
 have sm0:small ([]:List U).length=true:=small_of (by show 0<=16777216;decide)
 have hl0:∀ δ M,(Cw Af) δ M=some (.ref M.length,M++[.lst []]):=fun δ M=>by rw[fLst_eq,fNil_eq,aA,if_pos sm0]
 unfold fnU Gv
 simp only[aN,bF,if_true,aO,bT,eW,eI,bG,fSeq_eq,fIfS_eq,fTest_eq,fTru_eq,fOr_eq,Pf,f2_eq,Ui,fCall_eq,fCons_eq,fVar_eq,fC_eq,aR,aK,bB,aD,aA,hi,t1,n1,truU_bl,bH,if_false,B4,fRet_eq,iT,fNil_eq,hlen,hne]
 simp only[e,aA,hl0,he,aD]
 simp only[dP]
theorem Ub{x:Str}(h:Low x)(n:Nat):Pl n (.str x):=by
 cases n <;> simpa[Pl] using h.ok
theorem Ag7(hw:∀ p∈ps,Low p.1)(h:i < ps.length):Low (ptAt ps i).1:=by
 refine hw _ ?_
 unfold ptAt
 rw[aP,aI h]
 exact eZ h
theorem Adf(O:Ord ps F [])(hk:F.reverse[p]? = some k)(hj:j < ps.length)(hb:Ab1 ps k j=true):j∈F.reverse.take p:=by
 have hpm:=O.pm
 rw[bG] at hpm
 have hnd:F.Nodup:=hpm.nodup_iff.mpr nM
 have hpl:=(aJ.mp hk).1
 rw[bW] at hpl
 obtain ⟨q,hq,hqe⟩:=jD (hpm.mem_iff.mpr (bL.mpr hj))
 have hkn:k < ps.length:=bL.mp (hpm.mem_iff.mp (by rw[<- gH];exact bV hk))
 have hkq:=O.at_ q j (by rw[aI hq,hqe]) k hkn hb
 obtain ⟨i,hi,hie⟩:=fL.mp hkq
 have hki:F[F.length - 1 - p]? = some k:=by rw[<- eS hpl];exact hk
 have hii:i=F.length - 1 - p:=by
  have h1:F[i]? = some k:=by rw[aI (by omega),hie]
  exact (List.getElem?_inj (by omega) hnd).mp (h1.trans hki.symm)
 have hr:F.reverse[F.length - 1 - q]? = some j:=by
  rw[eS (by omega),show F.length - 1 - (F.length - 1 - q)=q by omega,aI hq,hqe]
 obtain ⟨h3,h4⟩:=aJ.mp hr
 rw[fL]
 exact ⟨F.length - 1 - q,by rw[bW];omega,h4⟩
theorem X6(h:F.Nodup)(hk:F[p]? = some k):k∉F.take p:=fun hm=>by
 obtain ⟨hpl,hpe⟩:=aJ.mp hk
 obtain ⟨q,hq,hqe⟩:=fL.mp hm
 have h5:=jB.mp (gU.mp h) q p (by omega) hpl (by omega)
 exact h5 (by rw[hqe,hpe])
theorem Akq(δ:UE)(L:UH):(f2 Dh (fC (.int 10)) (fC (.int 5))) δ L=some (.int 100000,L):=B9 rfl rfl (by rw[Q6,if_pos (by rfl)];rfl)
variable {wide:Int}{x6:Option U}
theorem Xk{name:Str}(D:Gdk M d B)(hB:B<=1000000)(hE:M[E]? = some (.dic kvs))(hEd:E≠d)(hk:kvs.length<=1000)(hw:0 < wide) :
  ∃ (v:Int) (M':UH),Dv [some (.ref d),x1,some (.int wide),some (.ref E),some (.str name),x5,x6] M=some (.nx [some (.ref d),x1,some (.int wide),some (.ref E),some (.str name),x5,x6],M'.set E (.dic (Km kvs (.inr name) (.int v))))/\Gdk M' d (B+2)/\Ex d M M':=by
 obtain ⟨r1,L1,e1,a1,b1,D1,z1⟩:=B3 (many:=100000) D (by omega) (by decide) (by decide)
 obtain ⟨r2,K2,e2,a2,b2,D2,z2⟩:=B3 (many:=100000) D1 (by omega) (by decide) (by decide)
 have m1:Hq r1 100000=true:=Lf (by decide) (by decide)
 have q1:=Ij (fa:=Ad 0) (δ:=[some (.ref d),x1,some (.int wide),some (.ref E),some (.str name),x5,x6]) rfl (Akq _ M) e1
 have q2:=B9 (s:=Bo) q1 (Akq _ L1) (by rw[X3,if_pos m1])
 have q3:=Ij (fa:=Ad 0) (δ:=[some (.ref d),x1,some (.int wide),some (.ref E),some (.str name),x5,x6]) rfl (Akq _ L1) e2
 have q4:=B9 (s:=Ax) q2 q3 (semAdd_int _ _ _)
 have q5:=B9 (s:=C5) (fb:=Ad 2) q4 rfl (by rw[X0,if_pos (decide_eq_true hw)])
 have hE2:=(z1.trans z2).get hE hEd
 exact ⟨_,K2,Af2 (fo:=Ad 3) (fi:=Ad 4) (u:=.str name) q5 rfl rfl rfl hE2 (by omega),D2.mono (by omega),z1.trans z2⟩
noncomputable def IntV(kvs:List (Key×U)):Prop:=∃ xs,kvs=kiU xs/\(xs.map (·.1)).Nodup
theorem IntV.put(h:IntV kvs)(k:Key)(v:Int):IntV (Km kvs k (.int v)):=by
 obtain ⟨xs,rfl,hn⟩:=h
 obtain ⟨ys,e,hy⟩:=Amw xs k v hn
 exact ⟨ys,e,hy.1⟩
structure Wg(M:UH)(d E:Nat)(B:Int)(qs:List P3)(p:Nat):Prop where
 ex:∃ kvs,M[E]? = some (.dic kvs)/\kvs.length<=p/\IntV kvs/\∀ q∈qs.take p,∃ v:Int,Gx kvs (.inr q.1)=some (.int v)
 dk:Gdk M d (B+2 * p)
theorem Py{qs:List P3}{q:P3}{y4 y5 y6:Option U}(G:Wg M d E B qs p)(hB:B<=500000)(hp:p<=100)(hEd:E≠d)(hw:0 < wide)(hq:qs[p]? = some q)(hEL:L.length<=E)(g:Ex d L M) :
  ∃ (δ1:UE) (M':UH),(MR.gTup 3 (MR.gCons (gN 4) (MR.gCons (gN 5) (MR.gCons (gN 6) MR.gNil)))) (p3U q) [some (.ref d),x1,some (.int wide),some (.ref E),y4,y5,y6] M=some (δ1,M)/\δ1=[some (.ref d),x1,some (.int wide),some (.ref E),some (.str q.1),some (.int q.2.1),some (.int q.2.2)]/\Dv δ1 M=some (.nx δ1,M')/\Wg M' d E B qs (p+1)/\Ex d L M'/\(∀ n o,n≠d->n≠E->M[n]? = some o->M'[n]? = some o):=by
 obtain ⟨kvs,h1,h2,h3,h4⟩:=G.ex
 obtain ⟨v,M',e,D',z⟩:=Xk (name:=q.1) (x1:=x1) (x5:=some (.int q.2.1)) (x6:=some (.int q.2.2)) G.dk (by omega) h1 hEd (by omega) hw
 have hEl:=(aJ.mp (z.get h1 hEd)).1
 refine ⟨_,_,rfl,rfl,e,⟨⟨_,bQ hEl,by have:=Ag2 kvs (.inr q.1) (.int v);omega,h3.put _ _,fun x hx=>?_⟩,(D'.set hEd _).mono (by omega)⟩,(g.trans z).set hEL _,fun n o n1 n2 ho=>by rw[bR (eP n2)];exact z.get ho n1⟩
 rw[Afv]
 by_cases hk:(nN x.1:Key) = .inr q.1
 ·rw[if_pos hk];exact ⟨v,rfl⟩
 ·rw[if_neg hk]
  refine h4 x ?_
  rw[iB,hq] at hx
  rcases cT.mp hx with hx | hx
  ·exact hx
  ·have hx2:x=q:=by simpa using hx
   rw[hx2] at hk;exact absurd rfl hk
theorem Ya{M0:UH}{qs:List P3}(hfi:fi [some (.ref d),x1,some (.int wide),some (.ref E),none,none,none] M=some (.seq (qs.map p3U),M0)\/∃ n,fi [some (.ref d),x1,some (.int wide),some (.ref E),none,none,none] M=some (.ref n,M0)/\M0[n]? = some (.lst (qs.map p3U))/\n≠d/\n≠E)(hB:B<=500000)(hl:qs.length<=60)(hEd:E≠d)(hw:0 < wide)(hEL:L.length<=E)(g:Ex d L M0)(G:Wg M0 d E B qs 0) :
  ∃ (y4 y5 y6:Option U) (M':UH),(Jd fi (MR.gTup 3 (MR.gCons (gN 4) (MR.gCons (gN 5) (MR.gCons (gN 6) MR.gNil)))) Dv) [some (.ref d),x1,some (.int wide),some (.ref E),none,none,none] M=some (.nx [some (.ref d),x1,some (.int wide),some (.ref E),y4,y5,y6],M')/\Wg M' d E B qs qs.length/\Ex d L M':=by
 rcases hfi with hi | ⟨n,hi,hn,n1,n2⟩
 ·obtain ⟨δ',L',e,P⟩:=Mu (us:=qs.map p3U) (body:=Dv) (g:=(MR.gTup 3 (MR.gCons (gN 4) (MR.gCons (gN 5) (MR.gCons (gN 6) MR.gNil)))))
   (fun p δ' M=>(∃ (y4 y5 y6:Option U),δ'=[some (.ref d),x1,some (.int wide),some (.ref E),y4,y5,y6])/\Wg M d E B qs p/\Ex d L M)
   hi ⟨⟨none,none,none,rfl⟩,G,g⟩
   (fun p u δ M hu ⟨⟨y4,y5,y6,hδ⟩,G,g⟩=>by
    subst hδ
    rw[bO] at hu
    obtain ⟨q,hq,rfl⟩:=aG.mp hu
    have hpl:=(aJ.mp hq).1
    obtain ⟨δ1,M',t1,t2,t3,G',g',_⟩:=Py (x1:=x1) (y4:=y4) (y5:=y5) (y6:=y6) G hB (by omega) hEd hw hq hEL g
    exact ⟨δ1,M,t1,δ1,M',.inl t3,⟨_,_,_,t2⟩,G',g'⟩)
  obtain ⟨⟨y4,y5,y6,hδ⟩,G',g'⟩:=P
  rw[hδ] at e
  rw[aV] at G'
  exact ⟨y4,y5,y6,L',e,G',g'⟩
 ·obtain ⟨δ',L',e,P⟩:=Mx (us:=qs.map p3U) (n:=n) (body:=Dv) (g:=(MR.gTup 3 (MR.gCons (gN 4) (MR.gCons (gN 5) (MR.gCons (gN 6) MR.gNil)))))
   (fun p δ' M=>(∃ (y4 y5 y6:Option U),δ'=[some (.ref d),x1,some (.int wide),some (.ref E),y4,y5,y6])/\Wg M d E B qs p/\Ex d L M/\M[n]? = some (.lst (qs.map p3U)))
   hi ⟨⟨none,none,none,rfl⟩,G,g,hn⟩
   (fun k δ M ⟨_,_,_,h⟩=>Aj h)
   (fun p u δ M hu ⟨⟨y4,y5,y6,hδ⟩,G,g,h⟩=>by
    subst hδ
    rw[bO] at hu
    obtain ⟨q,hq,rfl⟩:=aG.mp hu
    have hpl:=(aJ.mp hq).1
    obtain ⟨δ1,M',t1,t2,t3,G',g',kp⟩:=Py (x1:=x1) (y4:=y4) (y5:=y5) (y6:=y6) G hB (by omega) hEd hw hq hEL g
    exact ⟨δ1,M,t1,δ1,M',.inl t3,⟨_,_,_,t2⟩,G',g',kp n _ n1 n2 h⟩)
  obtain ⟨⟨y4,y5,y6,hδ⟩,G',g',_⟩:=P
  rw[hδ] at e
  rw[aV] at G'
  exact ⟨y4,y5,y6,L',e,G',g'⟩
noncomputable def n3(p:P3):Str×List Int:=(p.1,[p.2.1,p.2.2])
theorem Afn:∀ ps:List P3,mapO toN (ps.map p3U)=some (ps.map n3)
 | []=>rfl
 | p::ps=>by
  rw[aO]
  simp only[mapO]
  rw[Afn ps]
  rfl
theorem Agp(ps:List P3):∃ qs:List P3,(sortN (ps.map n3)).map K7=qs.map p3U/\qs.length=ps.length/\∀ p∈ps,p∈qs:=by
 have hp:=sortN_perm (ps.map n3)
 refine ⟨(sortN (ps.map n3)).map fun t=>(t.1,t.2.getD 0 0,t.2.getD 1 0),?_,by rw[aV,hp.length_eq,aV],fun p h=>?_⟩
 ·rw[dD]
  refine cO fun t ht=>?_
  obtain ⟨p,_,rfl⟩:=cB.mp (hp.mem_iff.mp ht)
  rfl
 ·exact cB.mpr ⟨n3 p,hp.mem_iff.mpr (fJ h),rfl⟩
theorem Rm(D:Gdk L d B)(hB:B<=100000)(hn:ps.length<=60) :
  ∃ (E:Nat) (L':UH) (kvs:List (Key×U)) (w:Nat->Int),Gu [.ref d,.tup (ps.map p3U)] L=some (.ref E,L')/\L'[E]? = some (.dic kvs)/\kvs.length<=60/\IntV kvs/\(∀ i,i < ps.length->Gx kvs (.inr (ptAt ps i).1)=some (.int (w i)))/\Gdk L' d (B+200)/\Ex d L L'/\L.length<=E:=by
 have hdl:=D.lt
 have hp10:∀ (δ:UE) (M:UH),(f2 Dh (fC (.int 10)) (fC (.int 10))) δ M=some (.int 10000000000,M):=fun δ M=>B9 rfl rfl (by rw[Q6,if_pos (by rfl)];rfl)
 have sm4:∀ x y z t:U,small [x,y,z,t].length=true:=fun _ _ _ _=>small_of (by show 4<=16777216;decide)
 have sm3:∀ x y z:U,small [x,y,z].length=true:=fun _ _ _=>small_of (by show 3<=16777216;decide)
 have hl:(Cw (Aa (fC (.int 2)) (Aa (fC (.int 4)) (Aa (fC (.int 30)) (Aa (f2 Dh (fC (.int 10)) (fC (.int 10))) Af))))) [some (.ref d),some (.tup (ps.map p3U)),none,none,none,none,none] L=some (.ref L.length,L++[.lst [.int 2,.int 4,.int 30,.int 10000000000]]):=by
  rw[fLst_eq,fCons_eq,fC_eq,aA,fCons_eq,fC_eq,aA,fCons_eq,fC_eq,aA,fCons_eq,hp10]
  simp only[fNil_eq,aA,aD]
  rw[if_pos (sm4 _ _ _ _)]
 obtain ⟨i,L1,e1,i0,i1,D1,x1⟩:=B3 (many:=4) (D.new [HU.lst [.int 2,.int 4,.int 30,.int 10000000000]]) (by omega) (by decide) (by decide)
 have h1:L1[L.length]? = some (.lst [.int 2,.int 4,.int 30,.int 10000000000]):=x1.get (by simp) (by omega)
 have hm:∃ wide:Int,L2.atI [U.int 2,.int 4,.int 30,.int 10000000000] i=some (.int wide)/\0 < wide:=by
  have:i=0\/i=1\/i=2\/i=3:=by omega
  rcases this with rfl | rfl | rfl | rfl
  ·exact ⟨2,rfl,by decide⟩
  ·exact ⟨4,rfl,by decide⟩
  ·exact ⟨30,rfl,by decide⟩
  ·exact ⟨10000000000,rfl,by decide⟩
 obtain ⟨wide,hm,hw⟩:=hm
 have s1:=Dp (i:=2) (B9 (s:=Ak) hl (Lq (i:=0) rfl e1) (by rw[semIx_ref,Aj h1,aA,hm];rfl))
 simp only[aZ,bA] at s1
 have s2:(A8 Pp (gN 3)) [some (.ref d),some (.tup (ps.map p3U)),some (.int wide),none,none,none,none] L1=some (.nx [some (.ref d),some (.tup (ps.map p3U)),some (.int wide),some (.ref L1.length),none,none,none],L1++[.dic []]):=rfl
 have D2:=D1.new [HU.dic []]
 have hE0:(L1++[HU.dic []])[L1.length]? = some (.dic []):=by simp
 have hL1:=x1.le
 have hLL:L.length<=L1.length:=by rw[cG] at hL1;omega
 have hd1:d < L1.length:=D1.lt
 have x2:Ex d L (L1++[HU.dic []]):=((Ex.new d L _).trans x1).trans (Ex.new d L1 _)
 generalize L1++[HU.dic []]=M2 at s2 D2 hE0 x2
 obtain ⟨qs',hq1,hq2,hq3⟩:=Agp ps
 have e3:(Be Fj (Aa (Ad 1) Af)) [some (.ref d),some (.tup (ps.map p3U)),some (.int wide),some (.ref L1.length),none,none,none] M2=some (.ref M2.length,M2++[.lst (qs'.map p3U)]):=by
  refine Jx (fa:=Ad 1) rfl ?_
  unfold Fj
  simp only[Afn,aA]
  rw[if_pos (by rw[aV];omega),hq1]
 have hr:(Rv (Ad 1)) [some (.ref d),some (.tup (ps.map p3U)),some (.int wide),some (.ref L1.length),none,none,none] M2=some (.tup (ps.reverse.map p3U),M2):=by rw[sB];rfl
 have hl3:(Cw (Aa (Ad 1) (Aa (Rv (Ad 1)) (Aa (Be Fj (Aa (Ad 1) Af)) Af)))) [some (.ref d),some (.tup (ps.map p3U)),some (.int wide),some (.ref L1.length),none,none,none] M2=some (.ref (M2++[HU.lst (qs'.map p3U)]).length,M2++[.lst (qs'.map p3U)]++[.lst [.tup (ps.map p3U),.tup (ps.reverse.map p3U),.ref M2.length]]):=by
  have hv:Ad 1 [some (.ref d),some (.tup (ps.map p3U)),some (.int wide),some (.ref L1.length),none,none,none] M2=some (.tup (ps.map p3U),M2):=rfl
  rw[fLst_eq,fCons_eq,hv,aA,fCons_eq,hr,aA,fCons_eq,e3]
  simp only[fNil_eq,aA,aD]
  rw[if_pos (sm3 _ _ _)]
 have D3:=(D2.new [HU.lst (qs'.map p3U)]).new [HU.lst [.tup (ps.map p3U),.tup (ps.reverse.map p3U),.ref M2.length]]
 obtain ⟨j,L4,e4,j0,j1,D4,x4⟩:=B3 (many:=3) D3 (by omega) (by decide) (by decide)
 have hd2:=D2.lt
 have hr4:L4[(M2++[HU.lst (qs'.map p3U)]).length]? = some (.lst [.tup (ps.map p3U),.tup (ps.reverse.map p3U),.ref M2.length]):=x4.get (by simp) (by rw[cG];omega)
 have hs4:L4[M2.length]? = some (.lst (qs'.map p3U)):=x4.get (by simp) (by omega)
 have hE4:L4[L1.length]? = some (.dic []):=x4.get ((Gw.new _ _).get ((Gw.new M2 _).get hE0)) (by omega)
 have x24:Ex d L L4:=x2.trans ((Ex.new d M2 _).trans ((Ex.new d _ _).trans x4))
 have hEl2:L1.length < M2.length:=(aJ.mp hE0).1
 have hix:∀ u,L2.atI [U.tup (ps.map p3U),.tup (ps.reverse.map p3U),.ref M2.length] j=some u->(f2 Ak (Cw (Aa (Ad 1) (Aa (Rv (Ad 1)) (Aa (Be Fj (Aa (Ad 1) Af)) Af)))) (A9 2 Ap (Aa (Ad 0) (Aa (fC (.int 3)) Af)))) [some (.ref d),some (.tup (ps.map p3U)),some (.int wide),some (.ref L1.length),none,none,none] M2=some (u,L4):=fun u hu=>B9 (s:=Ak) hl3 (Lq (i:=0) rfl e4) (by rw[semIx_ref,Aj hr4,aA,hu];rfl)
 have hfi:∃ qs:List P3,qs.length<=60/\(∀ p∈ps,p∈qs)/\((Bm (f2 Ak (Cw (Aa (Ad 1) (Aa (Rv (Ad 1)) (Aa (Be Fj (Aa (Ad 1) Af)) Af)))) (A9 2 Ap (Aa (Ad 0) (Aa (fC (.int 3)) Af))))) [some (.ref d),some (.tup (ps.map p3U)),some (.int wide),some (.ref L1.length),none,none,none] M2=some (.seq (qs.map p3U),L4)\/∃ n,(Bm (f2 Ak (Cw (Aa (Ad 1) (Aa (Rv (Ad 1)) (Aa (Be Fj (Aa (Ad 1) Af)) Af)))) (A9 2 Ap (Aa (Ad 0) (Aa (fC (.int 3)) Af))))) [some (.ref d),some (.tup (ps.map p3U)),some (.int wide),some (.ref L1.length),none,none,none] M2=some (.ref n,L4)/\L4[n]? = some (.lst (qs.map p3U))/\n≠d/\n≠L1.length):=by
  have:j=0\/j=1\/j=2:=by omega
  rcases this with rfl | rfl | rfl
  ·exact ⟨ps,hn,fun p h=>h,.inl (by rw[Dc,hix _ rfl];rfl)⟩
  ·exact ⟨ps.reverse,by rw[bW];exact hn,fun p h=>gH.mpr h,.inl (by rw[Dc,hix _ rfl];rfl)⟩
  ·exact ⟨qs',by omega,hq3,.inr ⟨M2.length,by
    rw[Dc,hix _ rfl]
    simp only[aA,Ci (Aj hs4),aD],hs4,by omega,by omega⟩⟩
 obtain ⟨qs,hql,hqm,hfi⟩:=hfi
 have D4':Gdk L4 d (B+2+2 * ((0:Nat):Int)):=D4.mono (by omega)
 obtain ⟨y4,y5,y6,L5,e5,G5,x5⟩:=Ya (L:=L) hfi (by omega) hql (by omega) hw hLL x24 ⟨⟨[],hE4,by simp,⟨[],rfl,List.nodup_nil⟩,fun q hq=>by cases hq⟩,D4'⟩
 obtain ⟨kvs,k1,k2,k3,k4⟩:=G5.ex
 rw[kG] at k4
 have hat:∀ i,i < ps.length->∃ v:Int,Gx kvs (.inr (ptAt ps i).1)=some (.int v):=fun i hi=>k4 _ (hqm _ (by
  unfold ptAt
  rw[aP,aI hi]
  exact eZ hi))
 refine ⟨L1.length,L5,kvs,fun i=>match Gx kvs (.inr (ptAt ps i).1) with | some (.int v)=>v | _=>0,?_,k1,by omega,k3,fun i hi=>?_,G5.dk.mono (by omega),x5,hLL⟩
 ·unfold Gu fnU Od
  simp only[aN,bF,if_true,aO,bT,bJ,cQ,dB]
  rw[Al s1,Al s2,Al e5]
  rfl
 ·obtain ⟨v,hv⟩:=hat i hi
  simp only[hv]
theorem N2(hm:∀ d∈cs,wS w d<=m)(hc:wS w c=m)(h:∀ d∈cs,wS w d=m->ltT (ixI d) (ixI c)=false):∀ d∈cs,kl w d c=false:=fun d hd=>by
 unfold kl
 by_cases e:wS w d=wS w c
 ·rw[if_pos (by omega)];exact h d hd (e.trans hc)
 ·rw[if_neg (by omega)]
  have:=hm d hd
  simp only[decide_eq_false_iff_not]
  omega
theorem Yr(hfe:fe=Ad 0)(hi:fi δ L=some (it,L0))(hsz:cs.length<=it.size L0)(hl:cs.length<=1000)(hat:∀ k x,it.at k (L0++x)=some (cs.map (pU w))[k]?) :
  ∃ x,Bn [none,none] fi (MR.gTup 2 (MR.gCons (gN 0) (MR.gCons (gN 1) MR.gNil))) none fe δ L=some (.ref (L0++x).length,L0++x++[.lst ((cs.map (wS w)).map U.int)]):=by
 obtain ⟨x,e⟩:=Bv (ix:=[none,none]) (fi:=fi) (it:=it) (g:=(MR.gTup 2 (MR.gCons (gN 0) (MR.gCons (gN 1) MR.gNil)))) (tt:=none) (fe:=fe) (δ:=δ) (L:=L) (L0:=L0) cs (pU w) (fun _=>true) (fun c=>U.int (wS w c)) (fun δ=>∃ a b,δ = [a,b]) hi hsz (by omega) ⟨none,none,rfl⟩ hat
  (fun c δ x _ ⟨a,b,hδ⟩=>by
   subst hδ
   exact ⟨[some (.int (wS w c)),some (.tup (ixU c))],rfl,⟨_,_,rfl⟩,[],by simp[Hw],fun _=>⟨[],by rw[bG,bG,hfe];rfl⟩⟩)
 have hff:gE (fun _=>true) cs=cs:=dL.mpr (fun _ _=>rfl)
 rw[hff] at e
 have:cs.map (fun c=>U.int (wS w c))=(cs.map (wS w)).map U.int:=by rw[dD];rfl
 rw[this] at e
 exact ⟨x,e⟩
variable {t:FT}
theorem Aac(ht:t=Bl (f2 B7 (Ad 0) (Ad 2)))(c:List Nat)(N:UH):t [some (.int (wS w c)),some (.tup (ixU c)),some (.int m)] N=some (decide (wS w c=m),N):=by
 have he:B7 (.int (wS w c)) (.int m) N=some (.bl (decide (wS w c=m)),N):=by
  rw[semEq_int]
  have:(wS w c == m)=decide (wS w c=m):=rfl
  rw[this]
 rw[ht,fTest_eq,B9 (fa:=Ad 0) (fb:=Ad 2) rfl rfl he]
 rfl
theorem V7{v:Nat}(hfe:fe=Ad 1)(ht:t=Bl (f2 B7 (Ad 0) (Ad 2)))(hv:δ[v]? = some (some (.int m)))(hi:fi δ L=some (it,L0))(hsz:cs.length<=it.size L0)(hl:cs.length<=1000)(hat:∀ k x,it.at k (L0++x)=some (cs.map (pU w))[k]?) :
  ∃ x,Bn [none,none,some v] fi (MR.gTup 2 (MR.gCons (gN 0) (MR.gCons (gN 1) MR.gNil))) (some t) fe δ L=some (.ref (L0++x).length,L0++x++[.lst ((cs.filter fun c=>decide (wS w c=m)).map fun c=>.tup (ixU c))]):=
 Bv (ix:=[none,none,some v]) (fi:=fi) (it:=it) (g:=(MR.gTup 2 (MR.gCons (gN 0) (MR.gCons (gN 1) MR.gNil)))) (tt:=some t) (fe:=fe) (δ:=δ) (L:=L) (L0:=L0) cs (pU w) (fun c=>decide (wS w c=m)) (fun c=>U.tup (ixU c)) (fun δ=>∃ a b,δ = [a,b,some (.int m)]) hi hsz (by omega) ⟨none,none,by simp[E2,hv]⟩ hat
  (fun c δ x _ ⟨a,b,hδ⟩=>by
   subst hδ
   refine ⟨[some (.int (wS w c)),some (.tup (ixU c)),some (.int m)],rfl,⟨_,_,rfl⟩,[],?_,fun _=>⟨[],by rw[bG,bG,hfe];rfl⟩⟩
   rw[bG]
   exact Aac ht c _)
theorem W4(hfe:fe=Ad 0)(hf:fo δ L=some (.ref n,L))(hn:L[n]? = some (.dic kvs))(hv:Ih kvs=cs.map (pU w))(hl:cs.length<=1000) :
  ∃ x,Rj (Bn [none,none] (M8 Ih fo) (MR.gTup 2 (MR.gCons (gN 0) (MR.gCons (gN 1) MR.gNil))) none fe) δ L=some (.ref (L++x).length,L++x++[.lst ((cs.map (wS w)).map U.int)]):=by
 obtain ⟨x,e⟩:=Sy (ix:=[none,none]) (v:=Ih) (fo:=fo) (g:=(MR.gTup 2 (MR.gCons (gN 0) (MR.gCons (gN 1) MR.gNil)))) (tt:=none) (fe:=fe) (δ:=δ) (L:=L) cs (pU w) (fun _=>true) (fun c=>U.int (wS w c)) (fun δ=>∃ a b,δ = [a,b]) hf hn hv (by omega) ⟨none,none,rfl⟩
  (fun c δ M _ ⟨a,b,hδ⟩=>by
   subst hδ
   exact ⟨[some (.int (wS w c)),some (.tup (ixU c))],rfl,⟨_,_,rfl⟩,[],by simp[Hw],fun _=>⟨[],by rw[bG,bG,hfe];rfl⟩⟩)
 have hff:gE (fun _=>true) cs=cs:=dL.mpr (fun _ _=>rfl)
 rw[hff] at e
 have:cs.map (fun c=>U.int (wS w c))=(cs.map (wS w)).map U.int:=by rw[dD];rfl
 rw[this] at e
 exact ⟨x,e⟩
theorem Vh{v:Nat}(hfe:fe=Ad 1)(ht:t=Bl (f2 B7 (Ad 0) (Ad 2)))(hd:δ[v]? = some (some (.int m)))(hf:fo δ L=some (.ref n,L))(hn:L[n]? = some (.dic kvs))(hv:Ih kvs=cs.map (pU w))(hl:cs.length<=1000) :
  ∃ x,Rj (Bn [none,none,some v] (M8 Ih fo) (MR.gTup 2 (MR.gCons (gN 0) (MR.gCons (gN 1) MR.gNil))) (some t) fe) δ L=some (.ref (L++x).length,L++x++[.lst ((cs.filter fun c=>decide (wS w c=m)).map fun c=>.tup (ixU c))]):=
 Sy (ix:=[none,none,some v]) (v:=Ih) (fo:=fo) (g:=(MR.gTup 2 (MR.gCons (gN 0) (MR.gCons (gN 1) MR.gNil)))) (tt:=some t) (fe:=fe) (δ:=δ) (L:=L) cs (pU w) (fun c=>decide (wS w c=m)) (fun c=>U.tup (ixU c)) (fun δ=>∃ a b,δ = [a,b,some (.int m)]) hf hn hv (by omega) ⟨none,none,by simp[E2,hd]⟩
  (fun c δ M _ ⟨a,b,hδ⟩=>by
   subst hδ
   refine ⟨[some (.int (wS w c)),some (.tup (ixU c)),some (.int m)],rfl,⟨_,_,rfl⟩,[],?_,fun _=>⟨[],by rw[bG,bG,hfe];rfl⟩⟩
   rw[bG]
   exact Aac ht c _)
theorem Yj(hne:cs≠[]):(∀ d∈cs,wS w d<=Kq (cs.map (wS w)))/\∃ c∈cs,wS w c=Kq (cs.map (wS w)):=by
 obtain ⟨m,hm,hall⟩:∃ m∈cs,∀ d∈cs,wS w d<=wS w m:=by
  induction cs with
  | nil=>exact absurd rfl hne
  | cons a cs ih=>
   by_cases h:cs=[]
   ·subst h
    exact ⟨a,aW ..,fun d hd=>by rw[cH.mp hd];exact Int.le_refl _⟩
   ·obtain ⟨m,hm,hall⟩:=ih h
    by_cases q:wS w m<=wS w a
    ·exact ⟨a,aW ..,fun d hd=>by
      rcases bE.mp hd with rfl | hd
      ·exact Int.le_refl _
      ·exact Int.le_trans (hall d hd) q⟩
    ·exact ⟨m,aM _ hm,fun d hd=>by
      rcases bE.mp hd with rfl | hd
      ·omega
      ·exact hall d hd⟩
 have e:Kq (cs.map (wS w))=wS w m:=Aht (fJ hm) fun y hy=>by
  obtain ⟨d,hd,rfl⟩:=cB.mp hy
  exact hall d hd
 rw[e]
 exact ⟨hall,m,hm,rfl⟩
variable {r:Nat}{x7:Option U}
theorem Adr{b:Nat->List Nat}(hk:k < ps.length)(hj:j < ps.length)(hE:K[E]? = some (.dic (dK F fun i=>pU w (b i))))(hF:Ab1 ps k j=true->j∈F)(hr:K[r]? = some (.lst us))(hu:us.length<=1000) :
  Ds [some (.tup (ps.map p3U)),x1,some (.ref E),some (.int (k:Int)),some (.ref r),some (.int (j:Int)),x6,x7] K=some (.nx [some (.tup (ps.map p3U)),x1,some (.ref E),some (.int (k:Int)),some (.ref r),some (.int (j:Int)),x6,x7],if Ab1 ps k j=true then K.set r (.lst (us++[pU w (b j)])) else K):=by
 have hb:(Kz (A9 2 Fd (Aa (f2 Ak (Ad 0) (Ad 3)) (Aa (f2 Ak (Ad 0) (Ad 5)) Af)))) [some (.tup (ps.map p3U)),x1,some (.ref E),some (.int (k:Int)),some (.ref r),some (.int (j:Int)),x6,x7] K=some (Ab1 ps k j,K):=by
  rw[fTru_eq,Ij (B9 (fa:=Ad 0) (fb:=Ad 3) rfl rfl (Lp hk K)) (B9 (fa:=Ad 0) (fb:=Ad 5) rfl rfl (Lp hj K)) (Lv _ _ _)]
  simp only[aA,truU_bl,aD]
  rfl
 unfold Ds
 rw[fIfS_eq,hb,aA]
 cases hab:Ab1 ps k j with
 | false=>simp only[bH,if_false,B4]
 | true=>
  simp only[if_true]
  have hg:=Wu (fo:=Ad 2) (fi:=Ad 5) (δ:=[some (.tup (ps.map p3U)),x1,some (.ref E),some (.int (k:Int)),some (.ref r),some (.int (j:Int)),x6,x7]) (u:=.int (j:Int)) rfl rfl rfl hE (Afh (hF hab))
  have ap:=Jo (pU w (b j)) hr (by omega)
  have ty:=Im hr
  rw[Hs,fMeth_eq]
  simp only[fVar_eq,aR,aK,bB,aD,aA,ty,if_true,fCons_eq,hg,fNil_eq,ap]
theorem Ab9{b:Nat->List Nat}(hn:ps.length<=60)(hk:k < ps.length)(g0:Gw L0 M)(hE:L0[E]? = some (.dic (dK F fun i=>pU w (b i))))(hF:∀ j,j < ps.length->Ab1 ps k j=true->j∈F)(hr0:L0.length<=r)(hr:M[r]? = some (.lst [pU w []])) :
  ∃ (y5:Option U) (M':UH),(Jd (Dd (Aa (Be Bd (Aa (Ad 0) Af)) Af)) (gN 5) Ds) [some (.tup (ps.map p3U)),x1,some (.ref E),some (.int (k:Int)),some (.ref r),x5,x6,x7] M=some (.nx [some (.tup (ps.map p3U)),x1,some (.ref E),some (.int (k:Int)),some (.ref r),y5,x6,x7],M')/\M'[r]? = some (.lst (([]::(abl ps k).map b).map (pU w)))/\Gw L0 M':=by
 have hlen:Bd [.tup (ps.map p3U)] M=some (.int ps.length,M):=by simp[Bd,lenU]
 obtain ⟨δ',M',e,P⟩:=Mu (us:=Bc 0 ps.length) (L0:=M) (L:=M) (δ:=[some (.tup (ps.map p3U)),x1,some (.ref E),some (.int (k:Int)),some (.ref r),x5,x6,x7]) (body:=Ds) (g:=gN 5) (fi:=Dd (Aa (Be Bd (Aa (Ad 0) Af)) Af))
  (fun p δ' K=>(∃ y5,δ'=[some (.tup (ps.map p3U)),x1,some (.ref E),some (.int (k:Int)),some (.ref r),y5,x6,x7])/\K[r]? = some (.lst (([]::((aX p).filter (Ab1 ps k)).map b).map (pU w)))/\Gw L0 K)
  (Hz (n:=ps.length) (by rw[fCons_eq,Jx (fa:=Ad 0) rfl hlen,aA,fNil_eq];rfl) (by omega))
  ⟨⟨_,rfl⟩,hr,g0⟩
  (fun p u δ K hu' ⟨⟨y5,hδ⟩,h1,h3⟩=>by
   subst hδ
   obtain ⟨hp,rfl⟩:=Gj hu'
   have h0:(0:Int)+(p:Int)=(p:Int):=by omega
   rw[h0]
   have hlk:(([]::((aX p).filter (Ab1 ps k)).map b).map (pU w)).length<=1000:=by
    have:=eT (Ab1 ps k) (aX p)
    simp only[aN,aV]
    rw[cD] at this
    omega
   have t:=Adr (x1:=x1) (x6:=x6) (x7:=x7) hk hp (h3.get hE) (fun z=>hF p hp z) h1 hlk
   have hwl:=(aJ.mp h1).1
   refine ⟨_,K,rfl,_,_,.inl t,⟨_,rfl⟩,?_⟩
   cases hab:Ab1 ps k p with
   | true=>
    rw[if_pos rfl]
    refine ⟨?_,h3.set hr0 _⟩
    rw[bQ hwl,jK,jP,cR hab]
    simp
   | false=>
    rw[if_neg (by simp)]
    refine ⟨?_,h3⟩
    rw[jK,jP,cS (by simp[hab])]
    simpa using h1)
 rw[Hr] at P
 obtain ⟨⟨y5,hδ⟩,h1,h3⟩:=P
 rw[hδ] at e
 exact ⟨y5,M',e,h1,h3⟩
noncomputable def G9(ps:List P3)(w:Nat->Int):List U:=(aX ps.length).map fun i=>U.int (w i)
theorem Afd(hk:k < ps.length):L2.atI (G9 ps w) (k:Int)=some (.int (w k)):=by
 have hn:ixN (G9 ps w).length (k:Int)=some k:=by
  unfold ixN G9
  rw[aV,cD,if_pos (by omega)]
  simp
  omega
 unfold L2.atI
 rw[hn]
 simp[G9,hk]
variable {O:Nat}
theorem We{b:Nat->List Nat}(hn:ps.length<=60)(hk:k < ps.length)(hO:M[O]? = some (.lst (G9 ps w)))(hE:M[E]? = some (.dic (dK F fun i=>pU w (b i))))(hF:∀ j,j < ps.length->Ab1 ps k j=true->j∈F)(hkF:k∉F)(hFl:F.length<=60)
  (hb:∀ i∈F,Bst (Ml ps i) w (b i)) :
  ∃ (b':Nat->List Nat) (y4 y5 y6:Option U) (M':UH),Dq [some (.tup (ps.map p3U)),some (.ref O),some (.ref E),some (.int (k:Int)),x4,x5,x6,x7] M=some (.nx [some (.tup (ps.map p3U)),some (.ref O),some (.ref E),some (.int (k:Int)),y4,y5,y6,x7],M'.set E (.dic (dK (F++[k]) fun i=>pU w (b' i))))/\Gw M M'/\(∀ i∈F,b' i=b i)/\Bst (Ml ps k) w (b' k):=by
 have hz:(Dz (Aa (fC (.int 0)) (Aa (Dz Af) Af))) [some (.tup (ps.map p3U)),some (.ref O),some (.ref E),some (.int (k:Int)),x4,x5,x6,x7] M=some (pU w [],M):=Ol rfl (Wi _ _)
 have s1:=Dp (i:=4) (Ajz hz)
 simp only[aZ,bA] at s1
 obtain ⟨y5,M2,e2,h2,g2⟩:=Ab9 (x1:=some (.ref O)) (x5:=x5) (x6:=x6) (x7:=x7) (M:=M++[HU.lst [pU w []]]) (r:=M.length) hn hk (Gw.new M _) hE hF (aQ _) (by simp)
 have hab:∀ j∈abl ps k,j∈F:=fun j hj=>hF j (bL.mp (bX.mp hj).1) (bX.mp hj).2
 have hal:(abl ps k).length<=60:=by
  have:=eT (Ab1 ps k) (aX ps.length)
  rw[cD] at this
  unfold abl;omega
 have hcl:([]::(abl ps k).map b).length<=61:=by rw[aN,aV];omega
 have hlist:∀ c∈([]::(abl ps k).map b),c=[]\/∃ j∈abl ps k,c=b j:=fun c hc=>by
  rcases bE.mp hc with h | h
  ·exact .inl h
  ·obtain ⟨j,hj,e⟩:=cB.mp h
   exact .inr ⟨j,hj,e.symm⟩
 have hin:∀ j∈abl ps k,b j∈([]::(abl ps k).map b):=fun j hj=>aM _ (fJ hj)
 have hnil:[]∈([]::(abl ps k).map b):=aW ..
 have hcne:([]::(abl ps k).map b)≠[]:=by simp
 generalize ([]::(abl ps k).map b)=cs at h2 hcl hlist hin hnil hcne
 have hs2:Ao M2 M.length=some (cs.map (pU w)):=Aj h2
 obtain ⟨x,e3⟩:=Yr (w:=w) (fi:=Bm (Ad 4)) (it:=.ref M.length) (fe:=Iz) (δ:=[some (.tup (ps.map p3U)),some (.ref O),some (.ref E),some (.int (k:Int)),some (.ref M.length),y5,x6,x7]) (L:=M2) (L0:=M2) (cs:=cs) rfl (by simp[Ci hs2]) (by rw[Gs hs2];simp) (by omega) (fun k x=>K6 (Cc hs2))
 have hmx:=T6 (L:=M2++x++[HU.lst ((cs.map (wS w)).map U.int)]) (n:=(M2++x).length) (ns:=cs.map (wS w)) (by simp) (by simpa using hcne)
 obtain ⟨hall,c0,hc0,ec0⟩:=Yj (w:=w) hcne
 generalize Kq (cs.map (wS w))=m at hmx hall ec0
 have s3:=Dp (i:=6) (Jx e3 hmx)
 simp only[aZ,bA] at s3
 have g3:Gw M2 (M2++x++[HU.lst ((cs.map (wS w)).map U.int)]):=(Gw.new _ x).trans (Gw.new _ _)
 generalize M2++x++[HU.lst ((cs.map (wS w)).map U.int)]=M3 at s3 g3
 have hs3:Ao M3 M.length=some (cs.map (pU w)):=Aj (g3.get h2)
 obtain ⟨y,e4⟩:=V7 (w:=w) (fi:=Bm (Ad 4)) (it:=.ref M.length) (fe:=Jm) (t:=Jg) (v:=6) (m:=m) (δ:=[some (.tup (ps.map p3U)),some (.ref O),some (.ref E),some (.int (k:Int)),some (.ref M.length),y5,some (.int m),x7]) (L:=M3) (L0:=M3) (cs:=cs) rfl rfl rfl (by simp[Ci hs3]) (by rw[Gs hs3];simp) (by omega) (fun k x=>K6 (Cc hs3))
 obtain ⟨c,hc,em,hmin⟩:=Mg (cs:=cs.filter fun c=>decide (wS w c=m)) e4 (by simp) (by
  intro z
  have:c0∈cs.filter fun c=>decide (wS w c=m):=bX.mpr ⟨hc0,decide_eq_true ec0⟩
  rw[z] at this;cases this)
 have g4:Gw M (M3++y++[HU.lst ((cs.filter fun c=>decide (wS w c=m)).map fun c=>.tup (ixU c))]):=((g2.trans g3).trans (Gw.new _ y)).trans (Gw.new _ _)
 generalize M3++y++[HU.lst ((cs.filter fun c=>decide (wS w c=m)).map fun c=>.tup (ixU c))]=M4 at em g4
 obtain ⟨hc1,hc2⟩:=bX.mp hc
 have hcm:=of_decide_eq_true hc2
 have hkl:=N2 hall hcm fun d hd e=>hmin d (bX.mpr ⟨hd,decide_eq_true e⟩)
 have hB:Bst (Ml ps k) w (k::c):=Vs hk (fun j hj=>hb j (hab j hj)) (hlist c hc1) (hkl _ hnil) fun j hj=>hkl _ (hin j hj)
 have hclen:=Ip hB.1.1
 have gM3:=g2.trans g3
 have hv1:(f2 Ak (Ad 1) (Ad 3)) [some (.tup (ps.map p3U)),some (.ref O),some (.ref E),some (.int (k:Int)),some (.ref M.length),y5,some (.int m),x7] M3=some (.int (w k),M3):=B9 rfl rfl (by rw[semIx_ref,Aj (gM3.get hO),aA,Afd hk];rfl)
 have hv2:=B9 (s:=Ax) (fb:=Ad 6) hv1 rfl (semAdd_int _ _ _)
 have hv3:=B9 (s:=Ax) (Akg (fa:=Ad 3) (δ:=[some (.tup (ps.map p3U)),some (.ref O),some (.ref E),some (.int (k:Int)),some (.ref M.length),y5,some (.int m),x7]) (L:=M3) (M:=M3) (u:=.int (k:Int)) rfl) em (Aaf (a:=[.int (k:Int)]) (b:=ixU c) M4 (by simp) (by simp only[ixU,aN,bF,aV];simp only[aN] at hclen;omega))
 have hv:=Ol hv2 hv3
 have hvU:(.tup [.int (w k+m),.tup ([.int (k:Int)]++ixU c)]:U)=pU w (k::c):=by
  unfold pU
  rw[Pc,hcm]
  rfl
 rw[hvU] at hv
 have s4:=Af2 (fo:=Ad 2) (fi:=Ad 3) (u:=.int (k:Int)) hv rfl rfl rfl (g4.get hE) (by unfold dK;rw[aV];omega)
 rw[Af5 hkF] at s4
 refine ⟨fun j=>if j=k then k::c else b j,some (.ref M.length),y5,some (.int m),M4,?_,g4,fun i hi=>if_neg (fun e=>hkF (by rw[<- e];exact hi)),?_⟩
 ·have hd:dK (F++[k]) (fun j=>if j=k then pU w (k::c) else pU w (b j))=dK (F++[k]) fun i=>pU w (if i=k then k::c else b i):=U6 fun i _=>by
   by_cases h:i=k
   ·rw[if_pos h,if_pos h]
   ·rw[if_neg h,if_neg h]
  rw[hd] at s4
  unfold Dq
  rw[Al s1,Al e2,Al s3]
  exact s4
 ·show Bst (Ml ps k) w (if k=k then k::c else b k)
  rw[if_pos rfl]
  exact hB
noncomputable def hvU(ps:List P3)(w:Nat->Int)(c:List Nat):U:=.tup [.int (wS w c),nmU ps c]
theorem Ws{M0:UH}(hn:ps.length<=60)(O':Ord ps F [])(hi:fi [some (.tup (ps.map p3U)),some (.ref O),some (.ref E),none,none,none,none,none] M=some (.ref r,M0))(hO:L[O]? = some (.lst (G9 ps w)))(hE:M0[E]? = some (.dic []))(hr:M0[r]? = some (.lst (ixU F.reverse)))(g0:Gw L M0)(hEL:L.length<=E) :
  ∃ (f:Nat->List Nat) (y3 y4 y5 y6:Option U) (M':UH),(Jd fi (gN 3) Dq) [some (.tup (ps.map p3U)),some (.ref O),some (.ref E),none,none,none,none,none] M=some (.nx [some (.tup (ps.map p3U)),some (.ref O),some (.ref E),y3,y4,y5,y6,none],M')/\M'[E]? = some (.dic (dK F.reverse fun i=>pU w (f i)))/\(∀ i∈F,Bst (Ml ps i) w (f i))/\Gw L M':=by
 have hpm:=O'.pm
 rw[bG] at hpm
 have hnd:F.reverse.Nodup:=(List.reverse_perm F).nodup_iff.mpr (hpm.nodup_iff.mpr nM)
 have hFl:F.reverse.length=ps.length:=by rw[bW,hpm.length_eq,cD]
 have hrE:r≠E:=fun z=>by rw[z,hE] at hr;cases hr
 obtain ⟨δ',L',e,P⟩:=Mx (us:=ixU F.reverse) (n:=r) (body:=Dq) (g:=gN 3)
  (fun p δ' M'=>∃ (f:Nat->List Nat) (y3 y4 y5 y6:Option U),δ'=[some (.tup (ps.map p3U)),some (.ref O),some (.ref E),y3,y4,y5,y6,none]/\M'[E]? = some (.dic (dK (F.reverse.take p) fun i=>pU w (f i)))/\(∀ i∈F.reverse.take p,Bst (Ml ps i) w (f i))/\M'[r]? = some (.lst (ixU F.reverse))/\Gw L M')
  hi ⟨fun _=>[],none,none,none,none,rfl,hE,(fun i hi=>by cases hi),hr,g0⟩
  (fun k δ M ⟨_,_,_,_,_,_,_,_,h,_⟩=>Aj h)
  (fun p u δ M' hu ⟨f,y3,y4,y5,y6,hδ,h1,h2,h3,h4⟩=>by
   subst hδ
   unfold ixU at hu
   rw[bO] at hu
   obtain ⟨k,hk,rfl⟩:=aG.mp hu
   have hkn:k < ps.length:=bL.mp (hpm.mem_iff.mp (gH.mp (bV hk)))
   have htake:F.reverse.take (p+1)=F.reverse.take p++[k]:=by rw[iB,hk];rfl
   obtain ⟨f',z4,z5,z6,M2,e2,g2,q1,q2⟩:=We (x4:=y4) (x5:=y5) (x6:=y6) (x7:=none) hn hkn (h4.get hO) h1 (fun j hj hb=>Adf O' hk hj hb) (X6 hnd hk) (by rw[gF];omega) h2
   have hEl:E < M2.length:=(aJ.mp (g2.get h1)).1
   refine ⟨[some (.tup (ps.map p3U)),some (.ref O),some (.ref E),some (.int (k:Int)),y4,y5,y6,none],M',rfl,_,_,.inl e2,f',_,_,_,_,rfl,by rw[htake];exact bQ hEl,fun i hi=>?_,by rw[bR (eP hrE)];exact g2.get h3,(h4.trans g2).set hEL _⟩
   rw[htake] at hi
   rcases cT.mp hi with hi | hi
   ·rw[q1 i hi];exact h2 i hi
   ·rw[cH.mp hi];exact q2)
 obtain ⟨f,y3,y4,y5,y6,hδ,h1,h2,h3,h4⟩:=P
 rw[hδ] at e
 have hxl:(ixU F.reverse).length=F.reverse.length:=by simp[ixU]
 rw[hxl,kG] at h1 h2
 exact ⟨f,y3,y4,y5,y6,L',e,h1,fun i hi=>h2 i (gH.mpr hi),h4⟩
theorem Tt(hn:ps.length<=60)(hO:L[O]? = some (.lst (G9 ps w)))(hb:Bst (IsC ps) w b):∃ L',Cg [.tup (ps.map p3U),.ref O] L=some (hvU ps w b,L')/\Gw L L':=by
 have hbl:=Ip hb.1
 have s1:(A8 Pp (gN 2)) [some (.tup (ps.map p3U)),some (.ref O),none,none,none,none,none,none] L=some (.nx [some (.tup (ps.map p3U)),some (.ref O),some (.ref L.length),none,none,none,none,none],L++[.dic []]):=rfl
 obtain ⟨r,F,L3,e3,h3,O',g3,hr3⟩:=R9 ps (by omega) (L++[.dic []])
 have hrv:(ixU F).reverse=ixU F.reverse:=by simp[ixU]
 have hi:(Bm (Rv (A9 1 Ej (Aa (Ad 0) Af)))) [some (.tup (ps.map p3U)),some (.ref O),some (.ref L.length),none,none,none,none,none] (L++[.dic []])=some (.ref L3.length,L3++[.lst (ixU F.reverse)]):=by
  have hv:=Ab3 (i:=0) (δ:=[some (.tup (ps.map p3U)),some (.ref O),some (.ref L.length),none,none,none,none,none]) rfl e3
  have hq:Ao (L3++[HU.lst (ixU F.reverse)]) L3.length=some (ixU F.reverse):=Aj (by simp)
  rw[Dc,fRev_eq,hv]
  simp only[aA,Aj h3,aD,hrv,Ci hq]
 have gN1:Gw L3 (L3++[HU.lst (ixU F.reverse)]):=Gw.new _ _
 obtain ⟨f,y3,y4,y5,y6,M,e4,hE,hf,gM⟩:=Ws hn O' hi hO (gN1.get (g3.get (by simp))) (by simp) (((Gw.new L _).trans g3).trans gN1) (aQ _)
 have hpm:=O'.pm
 rw[bG] at hpm
 have hFl:F.length=ps.length:=by rw[hpm.length_eq,cD]
 have hmem:∀ {k},k∈F↔k < ps.length:=fun {k}=>hpm.mem_iff.trans bL
 have hfn:∀ i,i < ps.length->Bst (Ml ps i) w (f i):=fun i hi=>hf i (hmem.mpr hi)
 have hvals:Ih (dK F.reverse fun i=>pU w (f i))=(F.reverse.map f).map (pU w):=by
  unfold Ih dK
  rw[dD,dD];rfl
 have hcl:(F.reverse.map f).length<=60:=by rw[aV,bW];omega
 have hin:∀ i,i < ps.length->f i∈F.reverse.map f:=fun i hi=>fJ (gH.mpr (hmem.mpr hi))
 have hout:∀ c∈F.reverse.map f,∃ k,k < ps.length/\c=f k:=fun c hc=>by
  obtain ⟨k,hk,e⟩:=cB.mp hc
  exact ⟨k,hmem.mp (gH.mp hk),e.symm⟩
 have hcne:F.reverse.map f≠[]:=fun z=>by
  obtain ⟨i,t,e⟩:=hb.1.ex
  have hi:i < ps.length:=by have:=hb.1;rw[e] at this;exact this.head
  have:=hin i hi
  rw[z] at this;cases this
 generalize F.reverse.map f=cs at hvals hcl hin hout hcne
 obtain ⟨x,e5⟩:=W4 (w:=w) (fo:=Ad 2) (fe:=Jc) (δ:=[some (.tup (ps.map p3U)),some (.ref O),some (.ref L.length),y3,y4,y5,y6,none]) (L:=M) (cs:=cs) rfl rfl hE hvals (by omega)
 have hmx:=T6 (L:=M++x++[HU.lst ((cs.map (wS w)).map U.int)]) (n:=(M++x).length) (ns:=cs.map (wS w)) (by simp) (by simpa using hcne)
 obtain ⟨hall,c0,hc0,ec0⟩:=Yj (w:=w) hcne
 generalize Kq (cs.map (wS w))=m at hmx hall ec0
 have s5:=Dp (i:=6) (Jx e5 hmx)
 simp only[aZ,bA] at s5
 have g5:Gw M (M++x++[HU.lst ((cs.map (wS w)).map U.int)]):=(Gw.new _ x).trans (Gw.new _ _)
 generalize M++x++[HU.lst ((cs.map (wS w)).map U.int)]=M5 at s5 g5
 obtain ⟨y,e6⟩:=Vh (w:=w) (fo:=Ad 2) (fe:=Je) (t:=Jp) (v:=6) (m:=m) (δ:=[some (.tup (ps.map p3U)),some (.ref O),some (.ref L.length),y3,y4,y5,some (.int m),none]) (L:=M5) (cs:=cs) rfl rfl rfl rfl (g5.get hE) hvals (by omega)
 obtain ⟨c,hc,em,hmin⟩:=Mg (cs:=cs.filter fun c=>decide (wS w c=m)) e6 (by simp) (by
  intro z
  have:c0∈cs.filter fun c=>decide (wS w c=m):=bX.mpr ⟨hc0,decide_eq_true ec0⟩
  rw[z] at this;cases this)
 have g6:Gw M5 (M5++y++[HU.lst ((cs.filter fun c=>decide (wS w c=m)).map fun c=>.tup (ixU c))]):=(Gw.new _ y).trans (Gw.new _ _)
 obtain ⟨hc1,hc2⟩:=bX.mp hc
 have hcm:=of_decide_eq_true hc2
 have hkl:=N2 hall hcm fun d hd e=>hmin d (bX.mpr ⟨hd,decide_eq_true e⟩)
 obtain ⟨k0,hk0,ek0⟩:=hout c hc1
 have hcb:c=b:=by
  have hB:Bst (IsC ps) w (f k0):=Yw hk0 hfn fun i hi=>by rw[<- ek0];exact hkl _ (hin i hi)
  rw[ek0];exact Bst.uniq hB hb
 rw[hcb] at em hcm
 subst hcm
 have s6:=Dp (i:=7) em
 simp only[aZ,bA] at s6
 generalize M5++y++[HU.lst ((cs.filter fun c=>decide (wS w c=wS w b)).map fun c=>.tup (ixU c))]=M6 at s6 g6
 obtain ⟨L4,e4',g4⟩:=Md (ps:=ps) (fi:=Bm (Ad 7)) (it:=.seq (ixU b)) (fe:=Ja) (δ:=[some (.tup (ps.map p3U)),some (.ref O),some (.ref L.length),y3,y4,y5,some (.int (wS w b)),some (.tup (ixU b))]) (L:=M6) (L0:=M6) (c:=b) (i0:=0) rfl rfl (by simp[IU.size,ixU]) (fun _ _=>rfl) rfl hb.1.all (by omega)
 have ht:=Ol (fa:=Ad 6) rfl e4'
 refine ⟨L4,?_,((gM.trans g5).trans g6).trans g4⟩
 unfold Cg fnU Ln
 simp only[aN,bF,if_true,aO,bT,bJ,cQ,dB]
 rw[Al s1,Al e4,Al s5,Al s6,fRet_eq,ht]
 simp only[aD,aA]
 rfl
theorem Aan{N:UH}(hfe:fe=f2 Ak (Ad 1) (Ad 0))(h0:δ[0]? = some (some (.tup (ixU c))))(h1:δ[1]? = some (some (.ref O)))(hO:N[O]? = some (.lst (G9 ps w)))(hc:∀ j∈c,j < ps.length)(hl:c.length<=1000) :
  ∃ y,(Be Ma (Aa (Bn [none,some 1] (Bm (Ad 0)) (gN 0) none fe) Af)) δ N=some (.int (wS w c),N++y):=by
 have hv:Ad 0 δ N=some (.tup (ixU c),N):=by rw[fVar_eq,h0];rfl
 obtain ⟨x,e⟩:=Bv (ix:=[none,some 1]) (fi:=Bm (Ad 0)) (it:=.seq (ixU c)) (g:=gN 0) (tt:=none) (fe:=fe) (δ:=δ) (L:=N) (L0:=N)
  c (fun (j:Nat)=>U.int (j:Int)) (fun _=>true) (fun j=>U.int (w j)) (fun δ=>∃ z,δ = [z,some (.ref O)]) (by rw[Dc,hv];rfl) (by simp[IU.size,ixU]) (by omega) ⟨none,by simp[E2,h1]⟩
  (fun k x=>rfl)
  (fun j δ x hj ⟨z,hδ⟩=>by
   subst hδ
   refine ⟨[some (.int (j:Int)),some (.ref O)],rfl,⟨_,rfl⟩,[],by simp[Hw],fun _=>⟨[],?_⟩⟩
   rw[bG,bG,hfe]
   exact B9 rfl rfl (by rw[semIx_ref,Aj ((Gw.new N x).get hO),aA,Afd (hc j hj)];rfl))
 have hff:gE (fun _=>true) c=c:=dL.mpr (fun _ _=>rfl)
 have hm:c.map (fun j=>U.int (w j))=(c.map w).map U.int:=by rw[dD];rfl
 rw[hff,hm] at e
 have hq:Ao (N++x++[HU.lst ((c.map w).map U.int)]) (N++x).length=some ((c.map w).map U.int):=Aj (by simp)
 have hs:Ma [.ref (N++x).length] (N++x++[HU.lst ((c.map w).map U.int)])=some (.int (wS w c),N++x++[HU.lst ((c.map w).map U.int)]):=by
  simp only[Ma,hq,aA,toI_ints,aD,wS]
 refine ⟨x++[HU.lst ((c.map w).map U.int)],?_⟩
 rw[<- dP]
 exact Jx e hs
theorem Wh(hn:ps.length<=8)(hO:L[O]? = some (.lst (G9 ps w)))(hb:Bst (IsC ps) w b):∃ L',Dl [.tup (ps.map p3U),.ref O] L=some (hvU ps w b,L')/\Gw L L':=by
 obtain ⟨r,fs,L1,e1,h1,_,_,g1,cv,hfl⟩:=R8 ps hn L
 have hch:fs.map chU=(fs.map Lc).map fun c=>U.tup (ixU c):=by rw[dD];rfl
 rw[hch] at h1
 have hcl:(fs.map Lc).length<=256:=by rw[aV];exact hfl
 have hin:∀ d,IsC ps d->d∈fs.map Lc:=fun d hd=>by
  rcases cv.all d hd with ⟨c,hc,e⟩ | ⟨c,hc,_⟩
  ·exact cB.mpr ⟨c,hc,e⟩
  ·cases hc
 have hout:∀ c∈fs.map Lc,IsC ps c:=fun c hc=>by
  obtain ⟨d,hd,rfl⟩:=cB.mp hc
  exact cv.f d hd
 have hcne:fs.map Lc≠[]:=fun z=>by
  have:=hin b hb.1
  rw[z] at this;cases this
 generalize fs.map Lc=cs at h1 hcl hin hout hcne
 have hbl:=Ip hb.1
 have s1:=Dp (i:=2) (Ab3 (i:=0) (δ:=[some (.tup (ps.map p3U)),some (.ref O),none,none,none]) rfl e1)
 simp only[aZ,bA] at s1
 have hs1:Ao L1 r=some (cs.map fun c=>U.tup (ixU c)):=Aj h1
 obtain ⟨x,ec⟩:=Bv (ix:=[none,some 1]) (fi:=Bm (Ad 2)) (it:=.ref r) (g:=gN 0) (tt:=none) (fe:=Kl) (δ:=[some (.tup (ps.map p3U)),some (.ref O),some (.ref r),none,none]) (L:=L1) (L0:=L1)
  cs (fun c=>U.tup (ixU c)) (fun _=>true) (fun c=>U.int (wS w c)) (fun δ=>∃ z,δ = [z,some (.ref O)]) (by simp[Ci hs1]) (by rw[Gs hs1];simp) (by omega) ⟨none,rfl⟩
  (fun k x=>K6 (Cc hs1))
  (fun c δ x hc ⟨z,hδ⟩=>by
   subst hδ
   refine ⟨[some (.tup (ixU c)),some (.ref O)],rfl,⟨_,rfl⟩,[],by simp[Hw],fun _=>?_⟩
   rw[bG]
   have hcl:=Ip (hout c hc)
   exact Aan rfl rfl rfl ((g1.trans (Gw.new _ x)).get hO) (hout c hc).all (by omega))
 have hff:gE (fun _=>true) cs=cs:=dL.mpr (fun _ _=>rfl)
 have hmm:cs.map (fun c=>U.int (wS w c))=(cs.map (wS w)).map U.int:=by rw[dD];rfl
 rw[hff,hmm] at ec
 have hmx:=T6 (L:=L1++x++[HU.lst ((cs.map (wS w)).map U.int)]) (n:=(L1++x).length) (ns:=cs.map (wS w)) (by simp) (by simpa using hcne)
 obtain ⟨hall,c0,hc0,ec0⟩:=Yj (w:=w) hcne
 generalize Kq (cs.map (wS w))=m at hmx hall ec0
 have s2:=Dp (i:=3) (Jx ec hmx)
 simp only[aZ,bA] at s2
 have g2:Gw L1 (L1++x++[HU.lst ((cs.map (wS w)).map U.int)]):=(Gw.new _ x).trans (Gw.new _ _)
 generalize L1++x++[HU.lst ((cs.map (wS w)).map U.int)]=M2 at s2 g2
 have hs2:Ao M2 r=some (cs.map fun c=>U.tup (ixU c)):=Aj (g2.get h1)
 obtain ⟨y,ed⟩:=Bv (ix:=[none,some 1,some 3]) (fi:=Bm (Ad 2)) (it:=.ref r) (g:=gN 0) (tt:=some E8) (fe:=Ki) (δ:=[some (.tup (ps.map p3U)),some (.ref O),some (.ref r),some (.int m),none]) (L:=M2) (L0:=M2)
  cs (fun c=>U.tup (ixU c)) (fun c=>decide (wS w c=m)) (fun c=>U.tup (ixU c)) (fun δ=>∃ z,δ = [z,some (.ref O),some (.int m)]) (by simp[Ci hs2]) (by rw[Gs hs2];simp) (by omega) ⟨none,rfl⟩
  (fun k x=>K6 (Cc hs2))
  (fun c δ x hc ⟨z,hδ⟩=>by
   subst hδ
   have hcl:=Ip (hout c hc)
   obtain ⟨u,eu⟩:=Aan (w:=w) (fe:=Kk) (δ:=[some (.tup (ixU c)),some (.ref O),some (.int m)]) (N:=M2++x) rfl rfl rfl (((g1.trans g2).trans (Gw.new _ x)).get hO) (hout c hc).all (by omega)
   refine ⟨[some (.tup (ixU c)),some (.ref O),some (.int m)],rfl,⟨_,rfl⟩,u,?_,fun _=>⟨[],by rw[bG];rfl⟩⟩
   have he:B7 (.int (wS w c)) (.int m) (M2++x++u)=some (.bl (decide (wS w c=m)),M2++x++u):=by
    rw[semEq_int];rfl
   show E8 [some (.tup (ixU c)),some (.ref O),some (.int m)] (M2++x)=_
   unfold E8
   rw[fTest_eq,B9 (fb:=Ad 2) eu rfl he]
   rfl)
 have s3:=Dp (i:=4) ed
 simp only[aZ,bA] at s3
 have g3:Gw M2 (M2++y++[HU.lst ((cs.filter fun c=>decide (wS w c=m)).map fun c=>U.tup (ixU c))]):=(Gw.new _ y).trans (Gw.new _ _)
 have h3:(M2++y++[HU.lst ((cs.filter fun c=>decide (wS w c=m)).map fun c=>U.tup (ixU c))])[(M2++y).length]? = some (.lst ((cs.filter fun c=>decide (wS w c=m)).map fun c=>U.tup (ixU c))):=by simp
 generalize M2++y++[HU.lst ((cs.filter fun c=>decide (wS w c=m)).map fun c=>U.tup (ixU c))]=M3 at s3 g3 h3
 generalize (M2++y).length=r3 at s3 h3
 obtain ⟨c,hc,em,hmin⟩:=Mg (cs:=cs.filter fun c=>decide (wS w c=m)) (fe:=Ad 4) (δ:=[some (.tup (ps.map p3U)),some (.ref O),some (.ref r),some (.int m),some (.ref r3)]) (L0:=M3) rfl h3 (by
  intro z
  have:c0∈cs.filter fun c=>decide (wS w c=m):=bX.mpr ⟨hc0,decide_eq_true ec0⟩
  rw[z] at this;cases this)
 obtain ⟨hc1,hc2⟩:=bX.mp hc
 have hcm:=of_decide_eq_true hc2
 have hkl:=N2 hall hcm fun d hd e=>hmin d (bX.mpr ⟨hd,decide_eq_true e⟩)
 have hcb:c=b:=Bst.uniq ⟨hout c hc1,fun d hd=>hkl d (hin d hd)⟩ hb
 rw[hcb] at em hcm
 subst hcm
 obtain ⟨L4,e4,g4⟩:=Md (ps:=ps) (fi:=Bm (Og (Ad 4))) (it:=.seq (ixU b)) (fe:=Kj) (δ:=[some (.tup (ps.map p3U)),some (.ref O),some (.ref r),some (.int (wS w b)),some (.ref r3)]) (L:=M3) (L0:=M3) (c:=b) (i0:=0) rfl (by rw[Dc,em];rfl) (by simp[IU.size,ixU]) (fun _ _=>rfl) rfl hb.1.all (by omega)
 have ht:=Ol (fa:=Ad 3) rfl e4
 refine ⟨L4,?_,((g1.trans g2).trans g3).trans g4⟩
 unfold Dl fnU Mr
 simp only[aN,bF,if_true,aO,bT,bJ,cQ,dB]
 rw[Al s1,Al s2,Al s3,fRet_eq,ht]
 simp only[aD,aA]
 rfl
theorem Sw(ps:List P3):ps.map p3U=(aX ps.length).map fun i=>p3U (ptAt ps i):=by
 apply iY
 ·simp
 ·intro i h1 h2
  have hi:i < ps.length:=by simpa using h1
  simp[ptAt,hi]
theorem Aed{v:Nat}(hn:ps.length<=60)(hfe:fe=Ll (Ad 3) (Ad 0))(hp:δ[p]? = some (some (.tup (ps.map p3U))))(hv:δ[v]? = some (some (.ref W)))(hW:L[W]? = some (.dic kvs))(hw:∀ i,i < ps.length->Gx kvs (.inr (ptAt ps i).1)=some (.int (w i))) :
  ∃ x,Bn [none,none,none,some v] (Bm (Ad p)) (MR.gTup 3 (MR.gCons (gN 0) (MR.gCons (gN 1) (MR.gCons (gN 2) MR.gNil)))) none fe δ L=some (.ref (L++x).length,L++x++[.lst (G9 ps w)]):=by
 have hvv:Ad p δ L=some (.tup (ps.map p3U),L):=by rw[fVar_eq,hp];rfl
 obtain ⟨x,e⟩:=Bv (ix:=[none,none,none,some v]) (fi:=Bm (Ad p)) (it:=.seq ((aX ps.length).map fun i=>p3U (ptAt ps i))) (g:=(MR.gTup 3 (MR.gCons (gN 0) (MR.gCons (gN 1) (MR.gCons (gN 2) MR.gNil))))) (tt:=none) (fe:=fe) (δ:=δ) (L:=L) (L0:=L)
  (aX ps.length) (fun i=>p3U (ptAt ps i)) (fun _=>true) (fun i=>U.int (w i)) (fun δ=>∃ a b c,δ = [a,b,c,some (.ref W)]) (by rw[Dc,hvv,Sw];rfl) (by simp[IU.size]) (by simp;omega) ⟨none,none,none,by simp[E2,hv]⟩
  (fun k x=>rfl)
  (fun i δ x hi ⟨a,b,c,hδ⟩=>by
   subst hδ
   refine ⟨[some (.str (ptAt ps i).1),some (.int (ptAt ps i).2.1),some (.int (ptAt ps i).2.2),some (.ref W)],rfl,⟨_,_,_,rfl⟩,[],by simp[Hw],fun _=>⟨[],?_⟩⟩
   rw[bG,bG,hfe]
   exact Wu (fo:=Ad 3) (fi:=Ad 0) (u:=.str (ptAt ps i).1) rfl rfl rfl ((Gw.new L x).get hW) (hw i (bL.mp hi)))
 have hff:gE (fun _=>true) (aX ps.length)=aX ps.length:=dL.mpr (fun _ _=>rfl)
 rw[hff] at e
 exact ⟨x,e⟩
theorem Ack{v:Nat}(hn:ps.length<=60)(hfe:fe=Ll (Ad 1) (f2 Ak (Ad 0) (fC (.int 0))))(hp:δ[p]? = some (some (.tup (ps.map p3U))))(hv:δ[v]? = some (some (.ref W)))(hW:L[W]? = some (.dic kvs))(hw:∀ i,i < ps.length->Gx kvs (.inr (ptAt ps i).1)=some (.int (w i))) :
  ∃ x,Bn [none,some v] (Bm (Ad p)) (gN 0) none fe δ L=some (.ref (L++x).length,L++x++[.lst (G9 ps w)]):=by
 have hvv:Ad p δ L=some (.tup (ps.map p3U),L):=by rw[fVar_eq,hp];rfl
 obtain ⟨x,e⟩:=Bv (ix:=[none,some v]) (fi:=Bm (Ad p)) (it:=.seq ((aX ps.length).map fun i=>p3U (ptAt ps i))) (g:=gN 0) (tt:=none) (fe:=fe) (δ:=δ) (L:=L) (L0:=L)
  (aX ps.length) (fun i=>p3U (ptAt ps i)) (fun _=>true) (fun i=>U.int (w i)) (fun δ=>∃ a,δ = [a,some (.ref W)]) (by rw[Dc,hvv,Sw];rfl) (by simp[IU.size]) (by simp;omega) ⟨none,by simp[E2,hv]⟩
  (fun k x=>rfl)
  (fun i δ x hi ⟨a,hδ⟩=>by
   subst hδ
   refine ⟨[some (p3U (ptAt ps i)),some (.ref W)],rfl,⟨_,rfl⟩,[],by simp[Hw],fun _=>⟨[],?_⟩⟩
   rw[bG,bG,hfe]
   exact Wu (fo:=Ad 1) (fi:=f2 Ak (Ad 0) (fC (.int 0))) (u:=.str (ptAt ps i).1) rfl (B9 rfl rfl rfl) rfl ((Gw.new L x).get hW) (hw i (bL.mp hi)))
 have hff:gE (fun _=>true) (aX ps.length)=aX ps.length:=dL.mpr (fun _ _=>rfl)
 rw[hff] at e
 exact ⟨x,e⟩
noncomputable def Nu(ps:List P3)(w:Nat->Int):U->Prop:=fun u=>(ps=[]/\u = .tup [.int 0,.tup []])\/(ps≠[]/\∃ b,Bst (IsC ps) w b/\u=hvU ps w b)
theorem Sb(h1:Nu ps w u)(h2:Nu ps w v):u=v:=by
 rcases h1 with ⟨a,rfl⟩ | ⟨a,b,hb,rfl⟩
 ·rcases h2 with ⟨_,rfl⟩ | ⟨z,_⟩
  ·rfl
  ·exact absurd a z
 ·rcases h2 with ⟨z,_⟩ | ⟨_,c,hc,rfl⟩
  ·exact absurd z a
  ·rw[Bst.uniq hb hc]
theorem Hc(hn:ps.length<=60)(hW:Wt L W ps w):∃ (u:U) (L':UH),Bj [.tup (ps.map p3U),.ref W] L=some (u,L')/\Nu ps w u/\Gw L L':=by
 by_cases h:ps=[]
 ·refine ⟨_,L,?_,.inl ⟨h,rfl⟩,Gw.refl _⟩
  rw[h];rfl
 ·obtain ⟨c,L',e,hc,g⟩:=V8 hn h hW
  exact ⟨_,L',e,.inr ⟨h,c,hc,rfl⟩,g⟩
theorem Ajt(hw:∀ p∈ps,Low p.1)(h:Nu ps w u):Pl 6 u:=by
 rcases h with ⟨_,rfl⟩ | ⟨_,b,hb,rfl⟩
 ·rw[Gg]
  intro u hu
  simp only[bE,eG,or_false] at hu
  rcases hu with rfl | rfl
  ·exact Pl.int _ _
  ·rw[Gg];intro u hu;cases hu
 ·unfold hvU
  rw[Gg]
  intro u hu
  simp only[bE,eG,or_false] at hu
  rcases hu with rfl | rfl
  ·exact Pl.int _ _
  ·unfold nmU
   rw[Gg];intro u hu
   obtain ⟨i,hi,rfl⟩:=cB.mp hu
   exact Ub (Ag7 hw (hb.1.all i hi)) _
theorem Acx(hn:ps.length<=60)(hw:∀ p∈ps,Low p.1)(h:Nu ps w u)(L:UH):∃ x,Kt [u,u] L=some (.bl true,L++x):=by
 have hI:∀ (R:FN) (i:Int) (L:UH),∃ x,(fnU 2 2 (Gv R)) [.int i,.int i] L=some (.bl true,L++x):=fun R i L=>⟨[],by rw[bG];exact Agm R i L⟩
 have hT:∀ (a:Int) (us:List U),us.length<=1000->(∀ u∈us,∀ L,∃ x,Hl 1 [u,u] L=some (.bl true,L++x))->∃ x,Kt [.tup [.int a,.tup us],.tup [.int a,.tup us]] L=some (.bl true,L++x):=fun a us hl hu=>Sd (Hl 2) _ (fun u hu' M=>by
  simp only[bE,eG,or_false] at hu'
  rcases hu' with rfl | rfl
  ·exact hI _ _ _
  ·exact Sd (Hl 1) _ hu hl M) (by simp) L
 rcases h with ⟨_,rfl⟩ | ⟨_,b,hb,rfl⟩
 ·exact hT _ _ (by simp) (fun u hu=>by cases hu)
 ·have:=Ip hb.1
  refine hT _ _ (by rw[aV];omega) fun u hu M=>?_
  obtain ⟨i,hi,rfl⟩:=cB.mp hu
  exact ⟨[],by rw[bG];exact Afc _ (Ub (Ag7 hw (hb.1.all i hi)) _) M⟩
theorem Ad6(hw:∀ p∈ps,Low p.1)(L:UH):Ef (.tup (ps.map p3U)) (.tup []) L=some (.bl (!ps.isEmpty),L):=by
 have hp:Pl 6 (.tup (ps.map p3U)):=by
  rw[Gg]
  intro u hu
  obtain ⟨p,hp,rfl⟩:=cB.mp hu
  unfold p3U
  rw[Gg]
  intro w hw'
  simp only[bE,eG,or_false] at hw'
  rcases hw' with rfl | rfl | rfl
  ·exact Ub (hw p hp) _
  ·exact Pl.int _ _
  ·exact Pl.int _ _
 have h0:Pl 6 (.tup []):=by rw[Gg];intro u hu;cases hu
 rw[Vb L hp h0]
 cases ps with
 | nil=>rw[bT,Rc h0];rfl
 | cons p ps=>
  have:eqB (.tup ((p::ps).map p3U)) (.tup [])=false:=by
   cases hq:eqB (.tup ((p::ps).map p3U)) (.tup []) with
   | false=>rfl
   | true=>
    have:=(Aa3 hp h0).mp hq
    simp at this
  rw[this];rfl
theorem P1(hn:ps.length<=60)(hO:L[O]? = some (.lst (G9 ps w)))(h:Nu ps w u)(hne:ps≠[]):∃ L',Cg [.tup (ps.map p3U),.ref O] L=some (u,L')/\Gw L L':=by
 rcases h with ⟨z,_⟩ | ⟨_,b,hb,rfl⟩
 ·exact absurd z hne
 ·exact Tt hn hO hb
theorem Ac6(hn:0 < ps.length/\ps.length < 9)(hO:L[O]? = some (.lst (G9 ps w)))(h:Nu ps w u):∃ L',Dl [.tup (ps.map p3U),.ref O] L=some (u,L')/\Gw L L':=by
 rcases h with ⟨z,_⟩ | ⟨_,b,hb,rfl⟩
 ·rw[z] at hn;exact absurd hn.1 (by decide)
 ·exact Wh (by omega) hO hb
theorem Aie{C:Nat}(h1:L[W]? = some (.dic kvs))(h2:L[C]? = some (.dic kvs))(hi:IntV kvs):Cr (.ref W) (.ref C) L=some (.bl false,L):=by
 obtain ⟨xs,rfl,hn⟩:=hi
 have d1:Dg L W=some (kiU xs):=by unfold Dg;rw[h1]
 have d2:Dg L C=some (kiU xs):=by unfold Dg;rw[h2]
 unfold Cr
 simp only[d1,d2,aA,toKIs,aD,Aej hn,iT]
theorem Ami(hn:ps.length<=60)(hW:Wt L W ps w):∃ u,Nu ps w u:=by
 obtain ⟨u,_,_,h,_⟩:=Hc hn hW
 exact ⟨u,h⟩
variable {x0 x2 x8 x9 x10:Option U}
theorem Anp(hn:ps.length<=60)(hw:∀ p∈ps,Low p.1)(hO:L[O]? = some (.lst (G9 ps w)))(hu:Nu ps w u) :
  ∃ L',(Ey (Bl (f2 Cr (Ad 3) (Dz Af))) (A8 (A9 2 Cg (Aa (Ad 3) (Aa (Ad 5) Af))) (gN 7)) Co) [x0,x1,x2,some (.tup (ps.map p3U)),x4,some (.ref O),x6,some (.tup [.int 0,.tup []]),x8,x9,x10] L=some (.nx [x0,x1,x2,some (.tup (ps.map p3U)),x4,some (.ref O),x6,some u,x8,x9,x10],L')/\Gw L L':=by
 have t:=B9 (s:=Cr) (fa:=Ad 3) (δ:=[x0,x1,x2,some (.tup (ps.map p3U)),x4,some (.ref O),x6,some (.tup [.int 0,.tup []]),x8,x9,x10]) rfl (Wi _ L) (Ad6 hw L)
 by_cases h:ps=[]
 ·have he:(!ps.isEmpty)=false:=by rw[h];rfl
  rw[he] at t
  have hu2:u = .tup [.int 0,.tup []]:=Sb hu (.inl ⟨h,rfl⟩)
  refine ⟨L,?_,Gw.refl _⟩
  rw[hu2]
  simp only[fIfS_eq,fTest_eq,t,aA,bH,if_false,B4]
 ·have he:(!ps.isEmpty)=true:=by cases ps with | nil=>exact absurd rfl h | cons _ _=>rfl
  rw[he] at t
  obtain ⟨L',e,g⟩:=P1 hn hO hu h
  have s:=Dp (i:=7) (Ij (fa:=Ad 3) (fb:=Ad 5) (δ:=[x0,x1,x2,some (.tup (ps.map p3U)),x4,some (.ref O),x6,some (.tup [.int 0,.tup []]),x8,x9,x10]) rfl rfl e)
  simp only[aZ,bA] at s
  refine ⟨L',?_,g⟩
  simp only[fIfS_eq,fTest_eq,t,aA,if_true,s]
theorem Adl{ft:FN}{L1:UH}{pu du ou:U}(hlen:Bd [pu] L=some (.int (n:Int),L))(ht:0 < n/\n < 9->ft [pu,ou] L=some (du,L1))(hne:Cr du du L1=some (.bl false,L1)) :
  (Ey (Ou (Bl (Mh Hv Hv (fC (.int 0)) (Be Bd (Aa (Ad 3) Af)) (fC (.int 9)))) (Bl (f2 Cr (Ad 7) (A9 2 ft (Aa (Ad 3) (Aa (Ad 5) Af)))))) (De (fC (.bl false))) Co) [x0,x1,x2,some pu,x4,some ou,x6,some du,x8,x9,x10] L=some (.nx [x0,x1,x2,some pu,x4,some ou,x6,some du,x8,x9,x10],if 0 < n/\n < 9 then L1 else L):=by
 have hl:=Jx (fa:=Ad 3) (δ:=[x0,x1,x2,some pu,x4,some ou,x6,some du,x8,x9,x10]) rfl hlen
 have t1:(Mh Hv Hv (fC (.int 0)) (Be Bd (Aa (Ad 3) Af)) (fC (.int 9))) [x0,x1,x2,some pu,x4,some ou,x6,some du,x8,x9,x10] L=some (.bl (decide (0 < n/\n < 9)),L):=by
  unfold Mh
  rw[fC_eq,aA,hl]
  simp only[aA,semLt_int,fC_eq]
  by_cases h0:0 < n
  ·rw[decide_eq_true (p:=(0:Int) < (n:Int)) (by omega)]
   simp only
   by_cases h9:n < 9
   ·rw[decide_eq_true (p:=(n:Int) < 9) (by omega),decide_eq_true (p:=0 < n/\n < 9) ⟨h0,h9⟩];rfl
   ·rw[decide_eq_false (p:=(n:Int) < 9) (by omega),decide_eq_false (p:=0 < n/\n < 9) (fun z=>h9 z.2)];rfl
  ·rw[decide_eq_false (p:=(0:Int) < (n:Int)) (by omega),decide_eq_false (p:=0 < n/\n < 9) (fun z=>h0 z.1)];rfl
 by_cases h:0 < n/\n < 9
 ·rw[decide_eq_true h] at t1
  have t2:=B9 (s:=Cr) (fa:=Ad 7) (δ:=[x0,x1,x2,some pu,x4,some ou,x6,some du,x8,x9,x10]) rfl (Ij (fa:=Ad 3) (fb:=Ad 5) rfl rfl (ht h)) hne
  rw[if_pos h]
  simp only[fIfS_eq,fAnd_eq,fTest_eq,t1,t2,aA,if_true,bH,if_false,B4]
 ·rw[decide_eq_false h] at t1
  rw[if_neg h]
  simp only[fIfS_eq,fAnd_eq,fTest_eq,t1,aA,bH,if_false,B4]
theorem Afp(hw:∀ p∈ps,Low p.1)(hu:Nu ps w u)(L:UH):Cr u u L=some (.bl false,L):=by
 have hpu:=Ajt hw hu
 have h0:Ef u u L=some (.bl false,L):=by rw[Vb _ hpu hpu,Rc hpu];rfl
 rcases hu with ⟨_,rfl⟩ | ⟨_,b,_,rfl⟩ <;> exact h0
theorem Ahw(hw:∀ p∈ps,Low p.1)(hO:L[O]? = some (.lst (G9 ps w)))(hu:Nu ps w u) :
  ∃ L',(Ey (Ou (Bl (Mh Hv Hv (fC (.int 0)) (Be Bd (Aa (Ad 3) Af)) (fC (.int 9)))) (Bl (f2 Cr (Ad 7) (A9 2 Dl (Aa (Ad 3) (Aa (Ad 5) Af)))))) (De (fC (.bl false))) Co) [x0,x1,x2,some (.tup (ps.map p3U)),x4,some (.ref O),x6,some u,x8,x9,x10] L=some (.nx [x0,x1,x2,some (.tup (ps.map p3U)),x4,some (.ref O),x6,some u,x8,x9,x10],L')/\Gw L L':=by
 have hlen:Bd [.tup (ps.map p3U)] L=some (.int (ps.length:Int),L):=by simp[Bd,lenU]
 have hT:∃ L5,(0 < ps.length/\ps.length < 9->Dl [.tup (ps.map p3U),.ref O] L=some (u,L5))/\Gw L L5:=by
  by_cases h9:0 < ps.length/\ps.length < 9
  ·obtain ⟨L5,e5,g5⟩:=Ac6 h9 hO hu
   exact ⟨L5,fun _=>e5,g5⟩
  ·exact ⟨L,fun h=>absurd h h9,Gw.refl _⟩
 obtain ⟨L5,e5,g5⟩:=hT
 refine ⟨_,Adl hlen e5 (Afp hw hu L5),?_⟩
 split
 ·exact g5
 ·exact Gw.refl _
theorem Aoo{C:Nat}(hn:ps.length<=60)(hw:∀ p∈ps,Low p.1)(hW:L[W]? = some (.dic kvs))(hC:L[C]? = some (.dic kvs))(hi:IntV kvs)(hv:∀ i,i < ps.length->Gx kvs (.inr (ptAt ps i).1)=some (.int (w i)))(hu:Nu ps w u) :
  ∃ L',(Ey (fOr (Uo (Kz (A9 2 Kt (Aa (A9 2 Bj (Aa (Ad 3) (Aa (Ad 4) Af))) (Aa (Ad 7) Af))))) (Bl (f2 Cr (Ad 4) (Ad 6)))) (De (fC (.bl false))) Co) [x0,x1,x2,some (.tup (ps.map p3U)),some (.ref W),x5,some (.ref C),some u,x8,x9,x10] L=some (.nx [x0,x1,x2,some (.tup (ps.map p3U)),some (.ref W),x5,some (.ref C),some u,x8,x9,x10],L')/\Gw L L':=by
 obtain ⟨u',L1,e1,hu',g1⟩:=Hc hn (W:=W) (L:=L) ⟨kvs,hW,hv⟩
 rw[Sb hu' hu] at e1
 obtain ⟨x,e2⟩:=Acx hn hw hu L1
 have a:=Ij (fa:=A9 2 Bj (Aa (Ad 3) (Aa (Ad 4) Af))) (fb:=Ad 7) (δ:=[x0,x1,x2,some (.tup (ps.map p3U)),some (.ref W),x5,some (.ref C),some u,x8,x9,x10]) (Ij (fa:=Ad 3) (fb:=Ad 4) rfl rfl e1) rfl e2
 have g2:=g1.trans (Gw.new L1 x)
 have t:=B9 (s:=Cr) (fa:=Ad 4) (fb:=Ad 6) (δ:=[x0,x1,x2,some (.tup (ps.map p3U)),some (.ref W),x5,some (.ref C),some u,x8,x9,x10]) (L:=L1++x) rfl rfl (Aie (g2.get hW) (g2.get hC) hi)
 refine ⟨L1++x,?_,g2⟩
 simp only[fIfS_eq,fOr_eq,Pf,fTru_eq,fTest_eq,a,t,truU_bl,aD,aA,iT,bH,if_false,B4]
theorem Amm(hn:ps.length<=60)(hw:∀ p∈ps,Low p.1)(hO:L[O]? = some (.lst (G9 ps w)))(hu:Nu ps w u) :
  ∃ L',(Ey (Ou (Bl (f2 Cr (Ad 3) (Dz Af))) (Bl (f2 Cr (Ad 9) (A9 2 Cg (Aa (Ad 3) (Aa (Ad 10) Af)))))) (De (fC (.bl false))) Co) [x0,x1,x2,some (.tup (ps.map p3U)),x4,x5,x6,x7,x8,some u,some (.ref O)] L=some (.nx [x0,x1,x2,some (.tup (ps.map p3U)),x4,x5,x6,x7,x8,some u,some (.ref O)],L')/\Gw L L':=by
 have t:=B9 (s:=Cr) (fa:=Ad 3) (δ:=[x0,x1,x2,some (.tup (ps.map p3U)),x4,x5,x6,x7,x8,some u,some (.ref O)]) rfl (Wi _ L) (Ad6 hw L)
 by_cases h:ps=[]
 ·have he:(!ps.isEmpty)=false:=by rw[h];rfl
  rw[he] at t
  refine ⟨L,?_,Gw.refl _⟩
  simp only[fIfS_eq,fAnd_eq,fTest_eq,t,aA,bH,if_false,B4]
 ·have he:(!ps.isEmpty)=true:=by cases ps with | nil=>exact absurd rfl h | cons _ _=>rfl
  rw[he] at t
  obtain ⟨L',e,g⟩:=P1 hn hO hu h
  have hne:=Afp hw hu L'
  have t2:=B9 (s:=Cr) (fa:=Ad 9) (δ:=[x0,x1,x2,some (.tup (ps.map p3U)),x4,x5,x6,x7,x8,some u,some (.ref O)]) rfl (Ij (fa:=Ad 3) (fb:=Ad 10) rfl rfl e) hne
  refine ⟨L',?_,g⟩
  simp only[fIfS_eq,fAnd_eq,fTest_eq,t,t2,aA,if_true,bH,if_false,B4]
theorem Am8(D:Gdk L d B)(hB:B<=50000)(x0 x2 x3 x4 x5 x6 x7 x8 x9 x10:Option U) :
  ∃ (y3 y4 y5 y6 y7 y8 y9 y10:Option U) (L':UH),Ph [x0,some (.ref d),x2,x3,x4,x5,x6,x7,x8,x9,x10] L=some (.nx [x0,some (.ref d),x2,y3,y4,y5,y6,y7,y8,y9,y10],L')/\Gdk L' d (B+1500):=by
 have hdl:=D.lt
 have sm4:∀ x y z t:U,small [x,y,z,t].length=true:=fun _ _ _ _=>small_of (by show 4<=16777216;decide)
 have hl:(Cw (Aa (fC (.int 8)) (Aa (fC (.int 8)) (Aa (fC (.int 8)) (Aa (fC (.int 60)) Af))))) [x0,some (.ref d),x2,x3,x4,x5,x6,x7,x8,x9,x10] L=some (.ref L.length,L++[.lst [.int 8,.int 8,.int 8,.int 60]]):=by
  simp only[fLst_eq,fCons_eq,fC_eq,fNil_eq,aA,aD]
  rw[if_pos (sm4 _ _ _ _)]
 obtain ⟨i,L1,e1,i0,i1,D1,x1⟩:=B3 (many:=4) (D.new [HU.lst [.int 8,.int 8,.int 8,.int 60]]) (by omega) (by decide) (by decide)
 have h1:L1[L.length]? = some (.lst [.int 8,.int 8,.int 8,.int 60]):=x1.get (by simp) (by omega)
 have hm:∃ most:Nat,L2.atI [U.int 8,.int 8,.int 8,.int 60] i=some (.int most)/\most<=60:=by
  have:i=0\/i=1\/i=2\/i=3:=by omega
  rcases this with rfl | rfl | rfl | rfl
  ·exact ⟨8,rfl,by decide⟩
  ·exact ⟨8,rfl,by decide⟩
  ·exact ⟨8,rfl,by decide⟩
  ·exact ⟨60,rfl,by decide⟩
 obtain ⟨most,hm,hm60⟩:=hm
 obtain ⟨ps,L3,e2,hps,hw,D3,x3'⟩:=Ac7 D1 (by omega) hm60
 have hn:ps.length<=60:=by omega
 have s1:=Dp (i:=3) (Ij (fa:=Ad 1) (δ:=[x0,some (.ref d),x2,x3,x4,x5,x6,x7,x8,x9,x10]) (L:=L) rfl (B9 (s:=Ak) hl (Lq (i:=1) rfl e1) (by rw[semIx_ref,Aj h1,aA,hm];rfl)) e2)
 simp only[aZ,bA] at s1
 have hd3:=D3.lt
 obtain ⟨W,L4,kvs,w,e4,hW4,hk4,hi4,hv4,D4,x4',hWL⟩:=Rm D3 (by omega) hn
 have s2:=Dp (i:=4) (Ij (fa:=Ad 1) (fb:=Ad 3) (δ:=[x0,some (.ref d),x2,some (.tup (ps.map p3U)),x4,x5,x6,x7,x8,x9,x10]) rfl rfl e4)
 simp only[aZ,bA] at s2
 obtain ⟨x,e5⟩:=Aed (fe:=U8) (δ:=[x0,some (.ref d),x2,some (.tup (ps.map p3U)),some (.ref W),x5,x6,x7,x8,x9,x10]) (v:=4) (p:=3) hn rfl rfl rfl hW4 hv4
 have s3:=Dp (i:=5) e5
 simp only[aZ,bA] at s3
 have g5:Gw L4 (L4++x++[HU.lst (G9 ps w)]):=(Gw.new _ x).trans (Gw.new _ _)
 have hO5:(L4++x++[HU.lst (G9 ps w)])[(L4++x).length]? = some (.lst (G9 ps w)):=by simp
 generalize L4++x++[HU.lst (G9 ps w)]=L5 at s3 g5 hO5
 generalize (L4++x).length=O at s3 hO5
 have hd5:Dg L5 W=some kvs:=by unfold Dg;rw[g5.get hW4]
 have e6:Mp [.ref W] L5=some (.ref L5.length,L5++[.dic kvs]):=by unfold Mp;simp only[hd5]
 have s4:=Dp (i:=6) (Jx (fa:=Ad 4) (δ:=[x0,some (.ref d),x2,some (.tup (ps.map p3U)),some (.ref W),some (.ref O),x6,x7,x8,x9,x10]) rfl e6)
 simp only[aZ,bA] at s4
 have g6:Gw L5 (L5++[HU.dic kvs]):=Gw.new _ _
 have hC6:(L5++[HU.dic kvs])[L5.length]? = some (.dic kvs):=by simp
 have hCd:L5.length≠d:=by
  have:=(D4.gw g5).lt
  omega
 generalize L5++[HU.dic kvs]=L6 at s4 g6 hC6
 generalize L5.length=C at s4 hC6 hCd
 have s5:=Dp (i:=7) (Ol (fa:=fC (.int 0)) (δ:=[x0,some (.ref d),x2,some (.tup (ps.map p3U)),some (.ref W),some (.ref O),some (.ref C),x7,x8,x9,x10]) (L:=L6) rfl (Wi _ L6))
 simp only[aZ,bA] at s5
 have gL6:=g5.trans g6
 obtain ⟨u,hu⟩:=Ami (L:=L6) (W:=W) hn ⟨kvs,gL6.get hW4,hv4⟩
 obtain ⟨L7,s6,g7⟩:=Anp (x0:=x0) (x1:=some (.ref d)) (x2:=x2) (x4:=some (.ref W)) (x6:=some (.ref C)) (x8:=x8) (x9:=x9) (x10:=x10) hn hw (g6.get hO5) hu
 obtain ⟨L8,s7,g8⟩:=Ahw (x0:=x0) (x1:=some (.ref d)) (x2:=x2) (x4:=some (.ref W)) (x6:=some (.ref C)) (x8:=x8) (x9:=x9) (x10:=x10) hw (g7.get (g6.get hO5)) hu
 have g48:=(gL6.trans g7).trans g8
 obtain ⟨V,L9,kws,v,e9,hV9,hk9,hi9,hv9,D9,x9',hVL⟩:=Rm (ps:=ps) (D4.gw g48) (by omega) hn
 have s8:=Dp (i:=8) (Ij (fa:=Ad 1) (fb:=Ad 3) (δ:=[x0,some (.ref d),x2,some (.tup (ps.map p3U)),some (.ref W),some (.ref O),some (.ref C),some u,x8,x9,x10]) rfl rfl e9)
 simp only[aZ,bA] at s8
 have hW9:=x9'.get (g48.get hW4) (show W≠d by omega)
 have hC9:=x9'.get ((g7.trans g8).get hC6) hCd
 obtain ⟨t,L10,e10,ht,g10⟩:=Hc (W:=V) hn ⟨kws,hV9,hv9⟩
 have s9:(Ik (A9 2 Bj (Aa (Ad 3) (Aa (Ad 8) Af)))) [x0,some (.ref d),x2,some (.tup (ps.map p3U)),some (.ref W),some (.ref O),some (.ref C),some u,some (.ref V),x9,x10] L9=some (.nx [x0,some (.ref d),x2,some (.tup (ps.map p3U)),some (.ref W),some (.ref O),some (.ref C),some u,some (.ref V),x9,x10],L10):=by
  rw[Hs,Ij (fa:=Ad 3) (fb:=Ad 8) rfl rfl e10]
  rfl
 obtain ⟨L11,s10,g11⟩:=Aoo (x0:=x0) (x1:=some (.ref d)) (x2:=x2) (x5:=some (.ref O)) (x8:=some (.ref V)) (x9:=x9) (x10:=x10) hn hw (g10.get hW9) (g10.get hC9) hi4 hv4 hu
 obtain ⟨t',L12,e12,ht',g12⟩:=Hc (W:=V) hn ⟨kws,(g10.trans g11).get hV9,hv9⟩
 have s11:=Dp (i:=9) (Ij (fa:=Ad 3) (fb:=Ad 8) (δ:=[x0,some (.ref d),x2,some (.tup (ps.map p3U)),some (.ref W),some (.ref O),some (.ref C),some u,some (.ref V),x9,x10]) rfl rfl e12)
 simp only[aZ,bA] at s11
 have g912:=(g10.trans g11).trans g12
 obtain ⟨y,e13⟩:=Ack (fe:=Wa) (δ:=[x0,some (.ref d),x2,some (.tup (ps.map p3U)),some (.ref W),some (.ref O),some (.ref C),some u,some (.ref V),some t',x10]) (v:=8) (p:=3) hn rfl rfl rfl (g912.get hV9) hv9
 have s12:=Dp (i:=10) e13
 simp only[aZ,bA] at s12
 have g13:Gw L12 (L12++y++[HU.lst (G9 ps v)]):=(Gw.new _ y).trans (Gw.new _ _)
 have hQ:(L12++y++[HU.lst (G9 ps v)])[(L12++y).length]? = some (.lst (G9 ps v)):=by simp
 generalize L12++y++[HU.lst (G9 ps v)]=L13 at s12 g13 hQ
 generalize (L12++y).length=Q at s12 hQ
 obtain ⟨L14,s13,g14⟩:=Amm (x0:=x0) (x1:=some (.ref d)) (x2:=x2) (x4:=some (.ref W)) (x5:=some (.ref O)) (x6:=some (.ref C)) (x7:=some u) (x8:=some (.ref V)) hn hw hQ ht'
 refine ⟨some (.tup (ps.map p3U)),some (.ref W),some (.ref O),some (.ref C),some u,some (.ref V),some t',some (.ref Q),L14,?_,(D9.gw ((g912.trans g13).trans g14)).mono (by omega)⟩
 unfold Ph
 rw[Al s1,Al s2,Al s3,Al s4,Al s5,Al s6,Al s7,Al s8,Al s9,Al s10,Al s11,Al s12]
 exact s13
theorem Agb(ns:List Int)(hl:ns.length<=63)(hb:∀ n∈ns,dJ n<=2 ^ 20):∃ L',Wk [.ref 0] [.ro (ns.map U.int)]=some (.bl true,L'):=by
 have h20:(2:Nat) ^ 20<=1048576:=by decide
 obtain ⟨d,L1,e1,D1,_⟩:=Acr ns [.ro (ns.map U.int)] 0 rfl hl h20 (fun c hc=>Ajq (hb c hc))
 have s1:=Dp (i:=1) (Ab3 (i:=0) (δ:=[some (.ref 0),none,none,none,none,none,none,none,none,none,none]) rfl e1)
 simp only[aZ,bA] at s1
 obtain ⟨δ2,K2,e2,P⟩:=Mu (us:=Bc 0 4) (L0:=L1) (L:=L1) (δ:=[some (.ref 0),some (.ref d),none,none,none,none,none,none,none,none,none]) (body:=Ph) (g:=gN 2) (fi:=Dd (Aa (fC (.int 4)) Af))
  (fun k δ' L'=>(∃ y2 y3 y4 y5 y6 y7 y8 y9 y10,δ'=[some (.ref 0),some (.ref d),y2,y3,y4,y5,y6,y7,y8,y9,y10])/\Gdk L' d (1500 * k)/\k<=4)
  (Hz (n:=4) rfl (by omega)) ⟨⟨_,_,_,_,_,_,_,_,_,rfl⟩,by simpa using D1,by omega⟩
  (fun k u δ M hu ⟨⟨y2,y3,y4,y5,y6,y7,y8,y9,y10,hδ⟩,D,_⟩=>by
   subst hδ
   obtain ⟨hk,rfl⟩:=Gj hu
   obtain ⟨z3,z4,z5,z6,z7,z8,z9,z10,M',e,D'⟩:=Am8 D (by omega) (some (.ref 0)) (some (.int (0+(k:Int)))) y3 y4 y5 y6 y7 y8 y9 y10
   refine ⟨[some (.ref 0),some (.ref d),some (.int (0+(k:Int))),y3,y4,y5,y6,y7,y8,y9,y10],M,rfl,_,M',.inl e,⟨_,_,_,_,_,_,_,_,_,rfl⟩,?_,by omega⟩
   have:(1500:Int) * ((k+1:Nat):Int)=1500 * (k:Int)+1500:=by omega
   rw[this];exact D')
 obtain ⟨⟨y2,y3,y4,y5,y6,y7,y8,y9,y10,hδ⟩,_⟩:=P
 rw[hδ] at e2
 refine ⟨K2,?_⟩
 unfold Wk fnU Aj9
 simp only[aN,bF,if_true,aO,bT,bJ,cQ,dB]
 rw[Al s1,Al e2]
 rfl
noncomputable def top(i:Nat):Stmt:=PySem.Challenge.pw_belowpoints_k26_heaviest_chains.main.body.getD i (.Pass ⟨0,0,0,0⟩)
noncomputable abbrev Hf:Stmt:=top 15
theorem Wy:FnScope ["one","other"] ["one","other"] (Am Hf):=⟨rfl,rfl,rfl,by decide +kernel,rfl,by decide +kernel,by decide +kernel⟩
noncomputable abbrev C9:Stmt:=top 17
theorem Dr:FnScope ["points","left","found","first"] ["points"] (Am C9):=⟨rfl,rfl,rfl,by decide +kernel,rfl,by decide +kernel,by decide +kernel⟩
noncomputable abbrev Dw:Stmt:=top 21
theorem B5:FnScope ["points","own","best","k","some","j","weight","chain"] ["points","own"] (Am Dw):=⟨rfl,rfl,rfl,by decide +kernel,rfl,by decide +kernel,by decide +kernel⟩
noncomputable abbrev C7:Stmt:=top 16
theorem Du:FnScope ["points","found","waiting","chain","k"] ["points"] (Am C7):=⟨rfl,rfl,rfl,by decide +kernel,rfl,by decide +kernel,by decide +kernel⟩
noncomputable abbrev Ek:Stmt:=top 20
theorem Gk:FnScope ["points","own","chains","weight","heaviest"] ["points","own"] (Am Ek):=⟨rfl,rfl,rfl,by decide +kernel,rfl,by decide +kernel,by decide +kernel⟩
noncomputable abbrev Iy:Stmt:=top 10
theorem Hk:FnScope ["script","great","mixed","cell"] ["script"] (Am Iy):=⟨rfl,rfl,rfl,by decide +kernel,rfl,by decide +kernel,by decide +kernel⟩
noncomputable abbrev Jj:Stmt:=top 11
theorem Jh:FnScope ["deck","most","found","turn","one"] ["deck","most"] (Am Jj):=⟨rfl,rfl,rfl,by decide +kernel,rfl,by decide +kernel,by decide +kernel⟩
noncomputable abbrev Hh:Stmt:=top 12
theorem C0:FnScope ["deck","many","letters","spare","begin","near","place","alike","k","sign"] ["deck","many"] (Am Hh):=⟨rfl,rfl,rfl,by decide +kernel,rfl,by decide +kernel,by decide +kernel⟩
noncomputable abbrev Gd:Stmt:=top 13
theorem Oc:FnScope ["deck","kind","far"] ["deck","kind"] (Am Gd):=⟨rfl,rfl,rfl,by decide +kernel,rfl,by decide +kernel,by decide +kernel⟩
noncomputable abbrev Gf:Stmt:=top 14
theorem B1:FnScope ["deck","most","kind","way","found","name","x","y"] ["deck","most"] (Am Gf):=⟨rfl,rfl,rfl,by decide +kernel,rfl,by decide +kernel,by decide +kernel⟩
noncomputable abbrev Ji:Stmt:=top 19
theorem Adk:FnScope ["found","due"] ["found","due"] (Am Ji):=⟨rfl,rfl,rfl,by decide +kernel,rfl,by decide +kernel,by decide +kernel⟩
noncomputable abbrev Ff:Stmt:=top 18
theorem Er:FnScope ["deck","points","wide","found","name","x","y"] ["deck","points"] (Am Ff):=⟨rfl,rfl,rfl,by decide +kernel,rfl,by decide +kernel,by decide +kernel⟩
noncomputable abbrev Cj:Stmt:=top 6
theorem Mz:FnScope ["chains"] ["chains"] (Am Cj):=⟨rfl,rfl,rfl,by decide +kernel,rfl,by decide +kernel,by decide +kernel⟩
noncomputable abbrev Es:Stmt:=top 1
theorem Sa:FnScope ["one","other"] ["one","other"] (Am Es):=⟨rfl,rfl,rfl,by decide +kernel,rfl,by decide +kernel,by decide +kernel⟩
noncomputable abbrev Gi:Stmt:=top 2
theorem V1:FnScope ["point"] ["point"] (Am Gi):=⟨rfl,rfl,rfl,by decide +kernel,rfl,by decide +kernel,by decide +kernel⟩
noncomputable abbrev Dx:Stmt:=top 8
theorem Kn:FnScope ["points","point","place"] ["points","point"] (Am Dx):=⟨rfl,rfl,rfl,by decide +kernel,rfl,by decide +kernel,by decide +kernel⟩
noncomputable abbrev Bk:Stmt:=top 7
theorem Ib:FnScope ["points"] ["points"] (Am Bk):=⟨rfl,rfl,rfl,by decide +kernel,rfl,by decide +kernel,by decide +kernel⟩
noncomputable abbrev Cm:Stmt:=top 5
theorem Cs:FnScope ["points","weights","begun","turn","following","rest"] ["points","weights"] (Am Cm):=⟨rfl,rfl,rfl,by decide +kernel,rfl,by decide +kernel,by decide +kernel⟩
noncomputable abbrev Ck:Stmt:=top 4
theorem Ii:FnScope ["points","weights","heaviest"] ["points","weights"] (Am Ck):=⟨rfl,rfl,rfl,by decide +kernel,rfl,by decide +kernel,by decide +kernel⟩
noncomputable abbrev Mo:Stmt:=top 22
theorem Gy:FnScope ["script","deck","turn","points","weights","own","kept","due","others","told","theirs"] ["script"] (Am Mo):=⟨rfl,rfl,rfl,by decide +kernel,rfl,by decide +kernel,by decide +kernel⟩
set_option genInjectivity false
set_option genSizeOf false
set_option genSizeOfSpec false
structure Defs(K:aH)(mg:Str->Option aF) where
 ua:Addr
 uc:dA
 ud:Fun K "_law_below" "_law_below" Hf ua uc
 ue:Binds K uc ["one","other"] []
 uf:mg "_law_below" = some (.ref ua)
 ug:Addr
 uh:dA
 ui:Fun K "_law_from_below" "_law_from_below" C9 ug uh
 uj:Binds K uh ["points"] []
 uk:mg "_law_from_below" = some (.ref ug)
 ul:Addr
 um:dA
 uo:Fun K "_law_by_begins" "_law_by_begins" Dw ul um
 uq:Binds K um ["points","own"] []
 ur:mg "_law_by_begins" = some (.ref ul)
 ut:Addr
 uu:dA
 uv:Fun K "_law_all_chains" "_law_all_chains" C7 ut uu
 uw:Binds K uu ["points"] []
 ux:mg "_law_all_chains" = some (.ref ut)
 uy:Addr
 uz:dA
 uA:Fun K "_law_by_trial" "_law_by_trial" Ek uy uz
 uB:Binds K uz ["points","own"] []
 uC:mg "_law_by_trial" = some (.ref uy)
 uD:Addr
 uE:dA
 uF:Fun K "_law_deck" "_law_deck" Iy uD uE
 uG:Binds K uE ["script"] []
 uH:mg "_law_deck" = some (.ref uD)
 uI:Addr
 uJ:dA
 uK:Fun K "_law_draw" "_law_draw" Jj uI uJ
 uL:Binds K uJ ["deck","most"] []
 uM:mg "_law_draw" = some (.ref uI)
 uN:Addr
 uO:dA
 uP:Fun K "_law_names" "_law_names" Hh uN uO
 uQ:Binds K uO ["deck","many"] []
 uR:mg "_law_names" = some (.ref uN)
 uS:Addr
 uT:dA
 uU:Fun K "_law_number" "_law_number" Gd uS uT
 uV:Binds K uT ["deck","kind"] []
 uW:mg "_law_number" = some (.ref uS)
 uX:Addr
 uY:dA
 uZ:Fun K "_law_points" "_law_points" Gf uX uY
 u4:Binds K uY ["deck","most"] []
 u5:mg "_law_points" = some (.ref uX)
 u6:Addr
 u7:dA
 u8:Fun K "_law_same" "_law_same" Ji u6 u7
 u9:Binds K u7 ["found","due"] []
 ve:mg "_law_same" = some (.ref u6)
 vf:Addr
 vg:dA
 vh:Fun K "_law_weights" "_law_weights" Ff vf vg
 vi:Binds K vg ["deck","points"] []
 vj:mg "_law_weights" = some (.ref vf)
 vk:Addr
 vm:dA
 vn:Fun K "first_heaviest" "first_heaviest" Cj vk vm
 vo:Binds K vm ["chains"] []
 vp:mg "first_heaviest" = some (.ref vk)
 vq:Addr
 vt:dA
 vv:Fun K "lies_below" "lies_below" Es vq vt
 vw:Binds K vt ["one","other"] []
 vx:mg "lies_below" = some (.ref vq)
 vy:Addr
 vz:dA
 vA:Fun K "place_of" "place_of" Gi vy vz
 vB:Binds K vz ["point"] []
 vC:mg "place_of" = some (.ref vy)
 vD:Addr
 vE:dA
 vF:Fun K "turns_above" "turns_above" Dx vD vE
 vG:Binds K vE ["points","point"] []
 vH:mg "turns_above" = some (.ref vD)
 vI:Addr
 vJ:dA
 vK:Fun K "turns_from_the_highest" "turns_from_the_highest" Bk vI vJ
 vL:Binds K vJ ["points"] []
 vM:mg "turns_from_the_highest" = some (.ref vI)
 vN:Addr
 vO:dA
 vP:Fun K "heaviest_begun" "heaviest_begun" Cm vN vO
 vQ:Binds K vO ["points","weights"] []
 vR:mg "heaviest_begun" = some (.ref vN)
 vS:Addr
 vT:dA
 vU:Fun K "heaviest_chain" "heaviest_chain" Ck vS vT
 vV:Binds K vT ["points","weights"] []
 vW:mg "heaviest_chain" = some (.ref vS)
 vX:Addr
 vY:dA
 vZ:Fun K "law" "law" Mo vX vY
 v5:Binds K vY ["script"] []
 v7:mg "law" = some (.ref vX)
 v8:∃ c P,dF K "first_heaviest" = some (c,P)/\vm.code = .ref c
 v9:∃ c P,dF K "turns_from_the_highest" = some (c,P)/\vJ.code = .ref c
 wd:mg "abs" = none
 we:mg "all" = none
 wf:mg "bool" = none
 wg:mg "dict" = none
 wj:mg "enumerate" = none
 wl:mg "int" = none
 wm:mg "isinstance" = none
 wn:mg "len" = none
 wo:mg "list" = none
 wu:mg "max" = none
 wv:mg "min" = none
 ww:mg "range" = none
 wx:mg "sorted" = none
 wy:mg "str" = none
 wz:mg "sum" = none
 wA:mg "tuple" = none
 wB:mg "zip" = none
section
variable {P:cU}{w:eD}{K:aH}{mg:Str->Option aF}{base:Heap}
theorem Mj(C:Defs K mg)(LB:LamB K mg base):FnOk P w K mg base CX0 1 C.ua C.uc ["one","other"] (spF K 2 Fd):=by
 refine Fun.okF (N:=["one","other"]) C.ud Wy (fun cdv A outer s H E hr=>?_)
 have hu:=hr.units
 refine Ah ?s0 ?t0
 case s0=>exact (Di (Bw (Gz hu) G0 (Ia Qn Nv (Ag 0) (Fi Ai) Hn) (Ia Qn Nv (Ag 1) (Fi Ai) Hn) (Bt _)) (Aw (Bi Tr)) Cp)
 exact (Aw (Bi (Qp (Js Ad0 Xu (Bf Az A0 (Ag 0) Ai (fun _ _=>rfl)) (Bf Az A0 (Ag 1) Ai (fun _ _=>rfl)) (Bt _)) (Tz (Js Ad0 Xu (Bf Az A0 (Ag 0) Ai (fun _ _=>rfl)) (Bf Az A0 (Ag 1) Ai (fun _ _=>rfl)) (Bt _))))))
theorem Ox(C:Defs K mg)(LB:LamB K mg base):FnOk P w K mg base CX0 2 C.ug C.uh ["points"] (spF K 1 Ej):=by
 refine Fun.okF (N:=["points","left","found","first"]) C.ui Dr (fun cdv A outer s H E hr=>?_)
 have hu:=hr.units
 refine Ah ?s0 ?t0
 case s0=>exact (Au (i:=1) (by exact Dr.nd) (Ae6 rfl (by rfl) C.wo (by rfl) C.ww (Ac (Bq Dt E9 (by rfl) C.wn eN (Ac (Ag 0) Ae)) Ae)))
 refine Ah ?s1 ?t1
 case s1=>exact (Au (i:=2) (by exact Dr.nd) (C4 Ae))
 refine Ah ?s2 ?t2
 case s2=>exact (Te 100000 eO (Bw (Mc hu) La (Ag 1) (C4 Ae) (Bt _)) (Ah (Au (i:=3) (by exact Dr.nd) (Ab2 (N':=["k","left","points"]) (ix:=[none,some 1,some 0]) ⟨rfl,rfl,rfl,rfl,rfl⟩ rfl (B8 (Ag 1)) (fun _ _ _ _ _ _=>(Ar (i:=0) (show cM (α:=Str) ["k","left","points"] by decide +kernel))) (fun _ _ _ _ _ _=>(Bw (Gz hu) G0 (Iv (N':=["j","points","k"]) (ix:=[none,some 2,some 0]) ⟨rfl,rfl,rfl,rfl,rfl,rfl⟩ rfl (B8 (Ag 1)) (fun _ _ _ _ _ _=>(Ar (i:=0) (show cM (α:=Str) ["j","points","k"] by decide +kernel))) (fun _ _ _ _ _ _=>(Gm (Av (Mj C LB) (hr.mono (by decide)) (by rfl) C.uf C.ud.kp C.ue (Ac (Bf Az A0 (Ag 1) (Ag 0) (fun _ _=>rfl)) (Ac (Bf Az A0 (Ag 1) (Ag 2) (fun _ _=>rfl)) Ae))))) (fun _ _ _ _ _ _=>(Ag 0))) (C4 Ae) (Bt _))) (fun _ _ _ _ _ _=>(Ag 0)))) (Ah (Hu (Oi eB PySem.F.slot_list_extend PySem.F.type_list_extend Ab8 Xq (Ag 2) (Ac (Ag 3) Ae))) (Aw (Au (i:=1) (by exact Dr.nd) (Iv (N':=["k","first"]) (ix:=[none,some 3]) ⟨rfl,rfl,rfl,rfl,rfl,rfl⟩ rfl (B8 (Ag 1)) (fun _ _ _ _ _ _=>(Ar (i:=0) (show cM (α:=Str) ["k","first"] by decide +kernel))) (fun _ _ _ _ _ _=>(Bw Acg (Ak9 true) (Ag 0) (Ag 1) (by with_unfolding_all rfl))) (fun _ _ _ _ _ _=>(Ag 0))))))))
 exact (Aw (Bi (Ag 2)))
theorem K0(C:Defs K mg)(LB:LamB K mg base):FnOk P w K mg base CX0 3 C.ul C.um ["points","own"] (spF K 2 Cg):=by
 refine Fun.okF (N:=["points","own","best","k","some","j","weight","chain"]) C.uo B5 (fun cdv A outer s H E hr=>?_)
 have hu:=hr.units
 refine Ah ?s0 ?t0
 case s0=>exact (Au (i:=2) (by exact B5.nd) Uu)
 refine Ah ?s1 ?t1
 case s1=>exact (Hb eO rfl (B8 (Af9 (Av (Ox C LB) (hr.mono (by decide)) (by rfl) C.uk C.ui.kp C.uj (Ac (Ag 0) Ae)))) (Ar (i:=3) (by exact B5.nd)) (Ah (Au (i:=4) (by exact B5.nd) (C4 (Ac (Cq (Ac Ai (Ac (Cq Ae) Ae))) Ae))) (Ah (Hb eO rfl (Fb (by rfl) C.ww (Ac (Bq Dt E9 (by rfl) C.wn eN (Ac (Ag 0) Ae)) Ae)) (Ar (i:=5) (by exact B5.nd)) (Aw (Di (Gm (Av (Mj C LB) (hr.mono (by decide)) (by rfl) C.uf C.ud.kp C.ue (Ac (Bf Az A0 (Ag 0) (Ag 3) (fun _ _=>rfl)) (Ac (Bf Az A0 (Ag 0) (Ag 5) (fun _ _=>rfl)) Ae)))) (Aw (Hu (Oi eB fR fT Jk Ho (Ag 4) (Ac (Nf hu (Ag 2) (Ag 5) (fun _ _=>rfl)) Ae)))) Cp))) (Ah (Au (i:=6) (by exact B5.nd) (Bq (Nn rfl) U0 (by rfl) C.wu kB (Ac (Fp (N':=["heavy","chain"]) (ix:=[none,none]) ⟨rfl,rfl,rfl,rfl,rfl,rfl⟩ rfl (B8 (Ag 4)) (fun _ _ _ _ _ _=>(Gn rfl (Bg (Ar (i:=0) (show cM (α:=Str) ["heavy","chain"] by decide +kernel)) (Bg (Ar (i:=1) (show cM (α:=Str) ["heavy","chain"] by decide +kernel)) E3)))) (fun _ _ _ _ _ _=>(Ag 0))) Ae))) (Aw (Q5 hu (Ag 2) (Ag 3) (Cq (Ac (Bb By Bx (Bf Az A0 (Ag 1) (Ag 3) (fun _ _=>rfl)) (Ag 6)) (Ac (Bb By Bx (Cq (Ac (Ag 3) Ae)) (Ug rfl hu (by rfl) C.wv (Iv (N':=["heavy","chain","weight"]) (ix:=[none,none,some 6]) ⟨rfl,rfl,rfl,rfl,rfl,rfl⟩ rfl (B8 (Ag 4)) (fun _ _ _ _ _ _=>(Gn rfl (Bg (Ar (i:=0) (show cM (α:=Str) ["heavy","chain","weight"] by decide +kernel)) (Bg (Ar (i:=1) (show cM (α:=Str) ["heavy","chain","weight"] by decide +kernel)) E3)))) (fun _ _ _ _ _ _=>(Bw (Gz hu) G0 (Ag 0) (Ag 2) (Bt _))) (fun _ _ _ _ _ _=>(Ag 1))))) Ae)))))))))
 refine Ah ?s2 ?t2
 case s2=>exact (Au (i:=6) (by exact B5.nd) (Bq (Nn rfl) U0 (by rfl) C.wu kB (Ac (Aa9 (Fp (N':=["heavy","chain"]) (ix:=[none,none]) ⟨rfl,rfl,rfl,rfl,rfl,rfl⟩ rfl (Vm (Ag 2) ⟨rfl,rfl,rfl,rfl⟩) (fun _ _ _ _ _ _=>(Gn rfl (Bg (Ar (i:=0) (show cM (α:=Str) ["heavy","chain"] by decide +kernel)) (Bg (Ar (i:=1) (show cM (α:=Str) ["heavy","chain"] by decide +kernel)) E3)))) (fun _ _ _ _ _ _=>(Ag 0)))) Ae)))
 refine Ah ?s3 ?t3
 case s3=>exact (Au (i:=7) (by exact B5.nd) (Ug rfl hu (by rfl) C.wv (Aa9 (Iv (N':=["heavy","chain","weight"]) (ix:=[none,none,some 6]) ⟨rfl,rfl,rfl,rfl,rfl,rfl⟩ rfl (Vm (Ag 2) ⟨rfl,rfl,rfl,rfl⟩) (fun _ _ _ _ _ _=>(Gn rfl (Bg (Ar (i:=0) (show cM (α:=Str) ["heavy","chain","weight"] by decide +kernel)) (Bg (Ar (i:=1) (show cM (α:=Str) ["heavy","chain","weight"] by decide +kernel)) E3)))) (fun _ _ _ _ _ _=>(Bw (Gz hu) G0 (Ag 0) (Ag 2) (Bt _))) (fun _ _ _ _ _ _=>(Ag 1))))))
 exact (Aw (Bi (Cq (Ac (Ag 6) (Ac (Hm Gq Li (by rfl) C.wA (by decide +kernel) (Ac (Fp (N':=["k","points"]) (ix:=[none,some 0]) ⟨rfl,rfl,rfl,rfl,rfl,rfl⟩ rfl (B8 (Ag 7)) (fun _ _ _ _ _ _=>(Ar (i:=0) (show cM (α:=Str) ["k","points"] by decide +kernel))) (fun _ _ _ _ _ _=>(Bf Az A0 (Bf Az A0 (Ag 1) (Ag 0) (fun _ _=>rfl)) Ai (fun _ _=>rfl)))) Ae)) Ae)))))
theorem Ow(C:Defs K mg)(LB:LamB K mg base):FnOk P w K mg base CX0 2 C.ut C.uu ["points"] (spF K 1 Fw):=by
 refine Fun.okF (N:=["points","found","waiting","chain","k"]) C.uv Du (fun cdv A outer s H E hr=>?_)
 have hu:=hr.units
 refine Ah ?s0 ?t0
 case s0=>exact (Au (i:=1) (by exact Du.nd) (C4 Ae))
 refine Ah ?s1 ?t1
 case s1=>exact (Nl (i:=2) (N':=["k"]) (ix:=[none]) (by exact Du.nd) ⟨rfl,rfl,rfl,rfl,rfl,rfl⟩ rfl (Fb (by rfl) C.ww (Ac (Bq Dt E9 (by rfl) C.wn eN (Ac (Ag 0) Ae)) Ae)) (fun _ _ _ _ _ _=>(Ar (i:=0) (show cM (α:=Str) ["k"] by decide +kernel))) (fun _ _ _ _ _ _=>(Cq (Ac (Ag 0) Ae))))
 refine Ah ?s2 ?t2
 case s2=>exact (Te 100000 eO (Bw (Mc hu) La (Ag 2) (C4 Ae) (Bt _)) (Ah (Au (i:=3) (by exact Du.nd) (Amn eB jN oT Alj Ag5 (Ag 2))) (Ah (Hu (Oi eB fR fT Jk Ho (Ag 1) (Ac (Ag 3) Ae))) (Aw (Hb eO rfl (Fb (by rfl) C.ww (Ac (Bq Dt E9 (by rfl) C.wn eN (Ac (Ag 0) Ae)) Ae)) (Ar (i:=4) (by exact Du.nd)) (Aw (Di (Gm (Av (Mj C LB) (hr.mono (by decide)) (by rfl) C.uf C.ud.kp C.ue (Ac (Bf Az A0 (Ag 0) (Bf Az A0 (Ag 3) (P8 Ai) (fun _ _=>rfl)) (fun _ _=>rfl)) (Ac (Bf Az A0 (Ag 0) (Ag 4) (fun _ _=>rfl)) Ae)))) (Aw (Hu (Oi eB fR fT Jk Ho (Ag 2) (Ac (Bb By Bx (Ag 3) (Cq (Ac (Ag 4) Ae))) Ae)))) Cp)))))))
 exact (Aw (Bi (Ag 1)))
theorem Rw(C:Defs K mg)(LB:LamB K mg base):FnOk P w K mg base CX0 3 C.uy C.uz ["points","own"] (spF K 2 Dl):=by
 refine Fun.okF (N:=["points","own","chains","weight","heaviest"]) C.uA Gk (fun cdv A outer s H E hr=>?_)
 have hu:=hr.units
 refine Ah ?s0 ?t0
 case s0=>exact (Au (i:=2) (by exact Gk.nd) (Av (Ow C LB) (hr.mono (by decide)) (by rfl) C.ux C.uv.kp C.uw (Ac (Ag 0) Ae)))
 refine Ah ?s1 ?t1
 case s1=>exact (Au (i:=3) (by exact Gk.nd) (Bq (Nn rfl) U0 (by rfl) C.wu kB (Ac (Fp (N':=["chain","own"]) (ix:=[none,some 1]) ⟨rfl,rfl,rfl,rfl,rfl,rfl⟩ rfl (B8 (Ag 2)) (fun _ _ _ _ _ _=>(Ar (i:=0) (show cM (α:=Str) ["chain","own"] by decide +kernel))) (fun _ _ _ _ _ _=>(Bq (Su rfl) Aax (by rfl) C.wz oU (Ac (Fp (N':=["k","own"]) (ix:=[none,some 1]) ⟨rfl,rfl,rfl,rfl,rfl,rfl⟩ rfl (B8 (Ag 0)) (fun _ _ _ _ _ _=>(Ar (i:=0) (show cM (α:=Str) ["k","own"] by decide +kernel))) (fun _ _ _ _ _ _=>(Bf Az A0 (Ag 1) (Ag 0) (fun _ _=>rfl)))) Ae)))) Ae)))
 refine Ah ?s2 ?t2
 case s2=>exact (Abw (i:=4) (N':=["chain","own","weight"]) (ix:=[none,some 1,some 3]) (by exact Gk.nd) ⟨rfl,rfl,rfl,rfl,rfl,rfl⟩ rfl (B8 (Ag 2)) (fun _ _ _ _ _ _=>(Ar (i:=0) (show cM (α:=Str) ["chain","own","weight"] by decide +kernel))) (fun _ _ _ _ _ _=>(Bw (Gz hu) G0 (Bq (Su rfl) Aax (by rfl) C.wz oU (Ac (Fp (N':=["k","own"]) (ix:=[none,some 1]) ⟨rfl,rfl,rfl,rfl,rfl,rfl⟩ rfl (B8 (Ag 0)) (fun _ _ _ _ _ _=>(Ar (i:=0) (show cM (α:=Str) ["k","own"] by decide +kernel))) (fun _ _ _ _ _ _=>(Bf Az A0 (Ag 1) (Ag 0) (fun _ _=>rfl)))) Ae)) (Ag 2) (Bt _))) (fun _ _ _ _ _ _=>(Ag 0)))
 exact (Aw (Bi (Cq (Ac (Ag 3) (Ac (Hm Gq Li (by rfl) C.wA (by decide +kernel) (Ac (Fp (N':=["k","points"]) (ix:=[none,some 0]) ⟨rfl,rfl,rfl,rfl,rfl,rfl⟩ rfl (B8 (Ug rfl hu (by rfl) C.wv (Ag 4))) (fun _ _ _ _ _ _=>(Ar (i:=0) (show cM (α:=Str) ["k","points"] by decide +kernel))) (fun _ _ _ _ _ _=>(Bf Az A0 (Bf Az A0 (Ag 1) (Ag 0) (fun _ _=>rfl)) Ai (fun _ _=>rfl)))) Ae)) Ae)))))
theorem Ac9(C:Defs K mg)(LB:LamB K mg base):FnOk P w K mg base CX0 1 C.uD C.uE ["script"] (spF K 1 Mw):=by
 refine Fun.okF (N:=["script","great","mixed","cell"]) C.uF Hk (fun cdv A outer s H E hr=>?_)
 have hu:=hr.units
 refine Ah ?s0 ?t0
 case s0=>exact (Au (i:=1) (by exact Hk.nd) Ai)
 refine Ah ?s1 ?t1
 case s1=>exact (Au (i:=2) (by exact Hk.nd) (Bb By Bx (Bb Ec Eb Ai (Bq Dt E9 (by rfl) C.wn eN (Ac (Ag 0) Ae))) Ai))
 refine Ah ?s2 ?t2
 case s2=>exact (Hb eO rfl (B8 (Ia Qn Nv (Ag 0) Hn (Fi Ai))) (Ar (i:=3) (by exact Hk.nd)) (Aw (Di (Bw Aoj Ala (Bq Ql Ue (by rfl) C.wd (by decide +kernel) (Ac (Ag 3) Ae)) (Bb Kc He Ai Ai) (Bt _)) (Aw (Au (i:=1) (by exact Hk.nd) (Bb By Bx (Bb Aiw Aee (Ag 1) Ai) (Bq Ql Ue (by rfl) C.wd (by decide +kernel) (Ac (Ag 3) Ae))))) (Aw (Au (i:=2) (by exact Hk.nd) (Bb Jr Ha (Bb By Bx (Bb Ec Eb (Ag 2) Ai) (Ag 3)) Ai))))))
 exact (Aw (Bi (C4 (Ac (Ag 1) (Ac (Ag 2) (Ac Ai Ae))))))
theorem Bh(C:Defs K mg)(LB:LamB K mg base):FnOk P w K mg base CX0 1 C.uI C.uJ ["deck","most"] (spF K 2 Ap):=by
 refine Fun.okF (N:=["deck","most","found","turn","one"]) C.uK Jh (fun cdv A outer s H E hr=>?_)
 have hu:=hr.units
 refine Ah ?s0 ?t0
 case s0=>exact (Ur (Bb By Bx (Bf Az A0 (Ag 0) Ai (fun _ _=>rfl)) Ai) (Y0 (Ag 0) Ai))
 refine Ah ?s1 ?t1
 case s1=>exact (Di (Bw An9 Alc (Bf Az A0 (Ag 0) Ai (fun _ _=>rfl)) Ai (Bt _)) (Ah (Au (i:=2) (by exact Jh.nd) (Bb Jr Ha (Bf Az A0 (Ag 0) Ai (fun _ _=>rfl)) (Ag 1))) (Ah (Ur (Bb Mq O1 (Bf Az A0 (Ag 0) Ai (fun _ _=>rfl)) (Ag 1)) (Y0 (Ag 0) Ai)) (Aw (Bi (Ag 2))))) Cp)
 refine Ah ?s2 ?t2
 case s2=>exact (Au (i:=3) (by exact Jh.nd) (Bf Az A0 (Ag 0) Ai (fun _ _=>rfl)))
 refine Ah ?s3 ?t3
 case s3=>exact (Au (i:=4) (by exact Jh.nd) (Bb Jr Ha (Bb By Bx (Bb By Bx (Bf Az A0 (Ag 0) Ai (fun _ _=>rfl)) (Bb Ec Eb (Bb Ec Eb Ai (Ag 3)) (Ag 3))) (Bb Ec Eb Ai (Ag 3))) Ai))
 refine Ah ?s4 ?t4
 case s4=>exact (Au (i:=4) (by exact Jh.nd) (Bb Jr Ha (Bb Ec Eb (Ag 4) (Ag 4)) Ai))
 exact (Aw (Bi (Bb Jr Ha (Bb Mq O1 (Bb Jr Ha (Bb By Bx (Bb Ec Eb (Ag 4) Ai) (Bb Ec Eb (Ag 3) Ai)) Ai) Ai) (Ag 1))))
theorem W9(C:Defs K mg)(LB:LamB K mg base):FnOk P w K mg base CX0 2 C.uN C.uO ["deck","many"] (spF K 2 Hi):=by
 refine Fun.okF (N:=["deck","many","letters","spare","begin","near","place","alike","k","sign"]) C.uP C0 (fun cdv A outer s H E hr=>?_)
 have hu:=hr.units
 refine Ah ?s0 ?t0
 case s0=>exact (Au (i:=2) (by exact C0.nd) Ez)
 refine Ah ?s1 ?t1
 case s1=>
  refine Au (i:=3) (hi:=?h1_1) (hx:=?h2_1) (hf:=?h3_1) (hs:=?h4_1) ?h5_1 ?h6_1
  case h1_1=>rfl
  case h2_1=>first | exact pA rfl | exact mW rfl
  case h3_1=>first | exact .inl rfl | exact .inr rfl
  case h4_1=>rfl
  case h5_1=>exact (by exact C0.nd)
  case h6_1=>
   refine C4 ?g
   refine Ac (hs:=?q0) ?e0 ?r0
   case q0=>rfl
   case e0=>exact Ez
   refine Ac (hs:=?q1) ?e1 ?r1
   case q1=>rfl
   case e1=>exact Ez
   refine Ac (hs:=?q2) ?e2 ?r2
   case q2=>rfl
   case e2=>exact Ez
   refine Ac (hs:=?q3) ?e3 ?r3
   case q3=>rfl
   case e3=>exact Ez
   refine Ac (hs:=?q4) ?e4 ?r4
   case q4=>rfl
   case e4=>exact Ez
   refine Ac (hs:=?q5) ?e5 ?r5
   case q5=>rfl
   case e5=>exact Ez
   refine Ac (hs:=?q6) ?e6 ?r6
   case q6=>rfl
   case e6=>exact Ez
   refine Ac (hs:=?q7) ?e7 ?r7
   case q7=>rfl
   case e7=>exact Ez
   refine Ac (hs:=?q8) ?e8 ?r8
   case q8=>rfl
   case e8=>exact Ez
   refine Ac (hs:=?q9) ?e9 ?r9
   case q9=>rfl
   case e9=>exact Ez
   refine Ac (hs:=?q10) ?e10 ?r10
   case q10=>rfl
   case e10=>exact Ez
   refine Ac (hs:=?q11) ?e11 ?r11
   case q11=>rfl
   case e11=>exact Ez
   exact Ae
 refine Ah ?s2 ?t2
 case s2=>exact (Au (i:=4) (by exact C0.nd) (Av (Bh C LB) (hr.mono (by decide)) (by rfl) C.uM C.uK.kp C.uL (Ac (Ag 0) (Ac Ai Ae))))
 refine Ah ?s3 ?t3
 case s3=>exact (Au (i:=5) (by exact C0.nd) (Oi PySem.F.plainAttrs_str PySem.F.slot_str_join PySem.F.type_str_join Ahq Ae0 Ez (Ac (Fp (N':=["k","letters","deck"]) (ix:=[none,some 2,some 0]) ⟨rfl,rfl,rfl,rfl,rfl,rfl⟩ rfl (Fb (by rfl) C.ww (Ac Ai Ae)) (fun _ _ _ _ _ _=>(Ar (i:=0) (show cM (α:=Str) ["k","letters","deck"] by decide +kernel))) (fun _ _ _ _ _ _=>(Bf Az A0 (Ag 1) (Av (Bh C LB) (hr.mono (by decide)) (by rfl) C.uM C.uK.kp C.uL (Ac (Ag 2) (Ac Ai Ae))) (fun _ _=>rfl)))) Ae)))
 refine Ah ?s4 ?t4
 case s4=>exact (Au (i:=6) (by exact C0.nd) (Av (Bh C LB) (hr.mono (by decide)) (by rfl) C.uM C.uK.kp C.uL (Ac (Ag 0) (Ac Ai Ae))))
 refine Ah ?s5 ?t5
 case s5=>exact (Au (i:=7) (by exact C0.nd) (Av (Bh C LB) (hr.mono (by decide)) (by rfl) C.uM C.uK.kp C.uL (Ac (Ag 0) (Ac Ai Ae))))
 refine Ah ?s6 ?t6
 case s6=>exact (Au (i:=3) (by exact C0.nd) (Ia T3 Us (Ag 3) (Fi (Bb Ec Eb Ai (Ag 7))) Hn))
 refine Ah ?s7 ?t7
 case s7=>exact (Hb eO rfl (Fb (by rfl) C.ww (Ac Ai Ae)) (Ar (i:=8) (by exact C0.nd)) (Ah (Au (i:=9) (by exact C0.nd) (Bf Az A0 (Ag 2) (Bb Jr Ha (Bb By Bx (Ag 4) (Ag 8)) Ai) (fun _ _=>rfl))) (Aw (Hu (Oi eB fR fT Jk Ho (Ag 3) (Ac (Bf Az A0 (C4 (Ac (Bb By Bx (Ag 9) (Bb Ec Eb (Bf Az A0 Ez (Bb Mq O1 (Ag 8) Ai) (fun _ _=>rfl)) (Bb By Bx Ai (Bb Jr Ha (Ag 8) Ai)))) (Ac (Bb By Bx (Bb By Bx (Bb By Bx (Ia T3 Us (Ag 5) Hn (Fi (Ag 6))) (Ag 9)) (Bf Az A0 Ez (Bb Mq O1 (Ag 8) Ai) (fun _ _=>rfl))) (Ia T3 Us (Ag 5) (Fi (Ag 6)) Hn)) Ae))) (Ag 7) (fun _ _=>rfl)) Ae))))))
 exact (Aw (Bi (Fp (N':=["k","spare","deck"]) (ix:=[none,some 3,some 0]) ⟨rfl,rfl,rfl,rfl,rfl,rfl⟩ rfl (Fb (by rfl) C.ww (Ac (Ag 1) Ae)) (fun _ _ _ _ _ _=>(Ar (i:=0) (show cM (α:=Str) ["k","spare","deck"] by decide +kernel))) (fun _ _ _ _ _ _=>(Oi eB jN oT Aey Ajd (Ag 1) (Ac (Av (Bh C LB) (hr.mono (by decide)) (by rfl) C.uM C.uK.kp C.uL (Ac (Ag 2) (Ac (Bq Dt E9 (by rfl) C.wn eN (Ac (Ag 1) Ae)) Ae))) Ae))))))
theorem Om(C:Defs K mg)(LB:LamB K mg base):FnOk P w K mg base CX0 2 C.uS C.uT ["deck","kind"] (spF K 2 Dk):=by
 refine Fun.okF (N:=["deck","kind","far"]) C.uU Oc (fun cdv A outer s H E hr=>?_)
 have hu:=hr.units
 refine Ah ?s0 ?t0
 case s0=>exact (Di (Bw Aa5 Uz (Ag 1) Ai (Bt _)) (Aw (Bi (Bb Aea Aaq (Av (Bh C LB) (hr.mono (by decide)) (by rfl) C.uM C.uK.kp C.uL (Ac (Ag 0) (Ac (Bf Az A0 (C4 (Ac Ai (Ac Ai Ae))) (Ag 1) (fun _ _=>rfl)) Ae))) (Bf Az A0 (C4 (Ac Ai (Ac Ai Ae))) (Ag 1) (fun _ _=>rfl))))) Cp)
 refine Ah ?s1 ?t1
 case s1=>exact (Au (i:=2) (by exact Oc.nd) (Bb By Bx (Bb Ec Eb (Av (Bh C LB) (hr.mono (by decide)) (by rfl) C.uM C.uK.kp C.uL (Ac (Ag 0) (Ac (Bb Kc He Ai Ai) Ae))) (Bb Kc He Ai Ai)) (Av (Bh C LB) (hr.mono (by decide)) (by rfl) C.uM C.uK.kp C.uL (Ac (Ag 0) (Ac (Bb Kc He Ai Ai) Ae)))))
 exact (Aw (Bi (Bb Ec Eb (Ag 2) (Bf Az A0 (C4 (Ac Ai (Ac (P8 Ai) Ae))) (Av (Bh C LB) (hr.mono (by decide)) (by rfl) C.uM C.uK.kp C.uL (Ac (Ag 0) (Ac Ai Ae))) (fun _ _=>rfl)))))
theorem Vp(C:Defs K mg)(LB:LamB K mg base):FnOk P w K mg base CX0 3 C.uX C.uY ["deck","most"] (spF K 2 Kf):=by
 refine Fun.okF (N:=["deck","most","kind","way","found","name","x","y"]) C.uZ B1 (fun cdv A outer s H E hr=>?_)
 have hu:=hr.units
 refine Ah ?s0 ?t0
 case s0=>exact (Au (i:=2) (by exact B1.nd) (Av (Bh C LB) (hr.mono (by decide)) (by rfl) C.uM C.uK.kp C.uL (Ac (Ag 0) (Ac Ai Ae))))
 refine Ah ?s1 ?t1
 case s1=>exact (Au (i:=3) (by exact B1.nd) (Av (Bh C LB) (hr.mono (by decide)) (by rfl) C.uM C.uK.kp C.uL (Ac (Ag 0) (Ac Ai Ae))))
 refine Ah ?s2 ?t2
 case s2=>exact (Au (i:=4) (by exact B1.nd) (C4 Ae))
 refine Ah ?s3 ?t3
 case s3=>exact (Hb eO rfl (B8 (Av (W9 C LB) (hr.mono (by decide)) (by rfl) C.uR C.uP.kp C.uQ (Ac (Ag 0) (Ac (Av (Bh C LB) (hr.mono (by decide)) (by rfl) C.uM C.uK.kp C.uL (Ac (Ag 0) (Ac (Bb By Bx (Ag 1) Ai) Ae))) Ae)))) (Ar (i:=5) (by exact B1.nd)) (Ah (Au (i:=6) (by exact B1.nd) (Av (Om C LB) (hr.mono (by decide)) (by rfl) C.uW C.uU.kp C.uV (Ac (Ag 0) (Ac (Ag 2) Ae)))) (Ah (Au (i:=7) (by exact B1.nd) (Av (Om C LB) (hr.mono (by decide)) (by rfl) C.uW C.uU.kp C.uV (Ac (Ag 0) (Ac (Ag 2) Ae)))) (Ah (Di (Bw (Gz hu) G0 (Ag 3) Ai (Bt _)) (Aw (Au (i:=7) (by exact B1.nd) (Bb By Bx (Ag 6) (Bb Ec Eb (Av (Bh C LB) (hr.mono (by decide)) (by rfl) C.uM C.uK.kp C.uL (Ac (Ag 0) (Ac Ai Ae))) (Hm Ac4 Ai0 (by rfl) C.wl (by decide +kernel) (Ac (Js Aa5 Uz (Bq Ql Ue (by rfl) C.wd (by decide +kernel) (Ac (Ag 6) Ae)) (Bb Kc He Ai Ai) (Bt _)) Ae)))))) Cp) (Ah (Di (Bw (Gz hu) G0 (Ag 3) Ai (Bt _)) (Aw (Au (i:=7) (by exact B1.nd) (Bb Aea Aaq Ai (Ag 6)))) Cp) (Ah (Di (PWF.pt (O9 (Bw (Mc hu) La (Ag 4) (C4 Ae) (Bt _)) (Nb (Bw (Gz hu) G0 (Av (Bh C LB) (hr.mono (by decide)) (by rfl) C.uM C.uK.kp C.uL (Ac (Ag 0) (Ac Ai Ae))) Ai (Bt _))))) (Aw (Ur (Ia Qn Nv (Bf Az A0 (Ag 4) (Av (Bh C LB) (hr.mono (by decide)) (by rfl) C.uM C.uK.kp C.uL (Ac (Ag 0) (Ac (Bq Dt E9 (by rfl) C.wn eN (Ac (Ag 4) Ae)) Ae))) (fun _ _=>rfl)) (Fi Ai) Hn) (Gn rfl (Bg (Ar (i:=6) (by exact B1.nd)) (Bg (Ar (i:=7) (by exact B1.nd)) E3))))) Cp) (Ah (Di (PWF.pt (O9 (Bw (Mc hu) La (Ag 4) (C4 Ae) (Bt _)) (Nb (Bw (Gz hu) G0 (Av (Bh C LB) (hr.mono (by decide)) (by rfl) C.uM C.uK.kp C.uL (Ac (Ag 0) (Ac Ai Ae))) Ai (Bt _))))) (Aw (Au (i:=6) (by exact B1.nd) (Bf Az A0 (Bf Az A0 (Ag 4) (Av (Bh C LB) (hr.mono (by decide)) (by rfl) C.uM C.uK.kp C.uL (Ac (Ag 0) (Ac (Bq Dt E9 (by rfl) C.wn eN (Ac (Ag 4) Ae)) Ae))) (fun _ _=>rfl)) Ai (fun _ _=>rfl)))) Cp) (Aw (Hu (Oi eB fR fT Jk Ho (Ag 4) (Ac (Cq (Ac (Ag 5) (Ac (Ag 6) (Ac (Ag 7) Ae)))) Ae)))))))))))
 exact (Aw (Bi (Hm Gq Li (by rfl) C.wA (by decide +kernel) (Ac (Ag 4) Ae))))
theorem Pt(C:Defs K mg)(LB:LamB K mg base):∀ k:Nat,FnOk P w K mg base CX0 (1+k) C.u6 C.u7 ["found","due"] (spF K 2 (Hl k))
 | 0=>⟨fun _ _ _ _ h=>(by obtain ⟨_,_,_,_,_,_,_,_,e,_⟩:=h;cases e),fun _ _ _ _ _ _ _ _ _ _ _ _ _ h=>(by obtain ⟨_,_,_,_,_,_,_,_,e,_⟩:=h;cases e)⟩
 | k+1=>by
  have hR:=Pt C LB k
  refine Fun.okF (N:=["found","due"]) C.u8 Adk (fun cdv A outer s H E hr=>?_)
  have hu:=hr.units
  refine Ah ?s0 ?t0
  case s0=>exact (Di (Bw Ad7 (Af0 false) (Ag 1) Ag3 (Bt _)) (Aw (Bi (Js Ad7 (Af0 false) (Ag 0) Ag3 (Bt _)))) Cp)
  refine Ah ?s1 ?t1
  case s1=>exact (Di (Gm (N5 S7 (Ag 1) (by rfl) C.wm (by rfl) C.wA (by decide +kernel))) (Ah (Di (PWF.pt (Afq (Pj (Gm (N5 S7 (Ag 0) (by rfl) C.wm (by rfl) C.wA (by decide +kernel)))) (Abd (Bw (Mc hu) La (Bq Dt E9 (by rfl) C.wn eN (Ac (Ag 0) Ae)) (Bq Dt E9 (by rfl) C.wn eN (Ac (Ag 1) Ae)) (Bt _))))) (Aw (Bi Tr)) Cp) (Aw (Bi (Js (Gz hu) G0 (Iv (N':=["one","other"]) (ix:=[none,none]) ⟨rfl,rfl,rfl,rfl,rfl,rfl⟩ rfl (Vq (by rfl) C.wB (Ac (Ag 0) (Ac (Ag 1) Ae))) (fun _ _ _ _ _ _=>(Gn rfl (Bg (Ar (i:=0) (show cM (α:=Str) ["one","other"] by decide +kernel)) (Bg (Ar (i:=1) (show cM (α:=Str) ["one","other"] by decide +kernel)) E3)))) (fun _ _ _ _ _ _=>(Pj (Gm (Av hR hr (by rfl) C.ve C.u8.kp C.u9 (Ac (Ag 0) (Ac (Ag 1) Ae)))))) (fun _ _ _ _ _ _=>Ai)) (C4 Ae) (Bt _))))) Cp)
  refine Ah ?s2 ?t2
  case s2=>exact (Di (Gm (N5 Aad (Ag 1) (by rfl) C.wm (by rfl) C.wy (by decide +kernel))) (Aw (Bi (Qp (N5 Aad (Ag 0) (by rfl) C.wm (by rfl) C.wy (by decide +kernel)) (Tz (Js (Gz hu) G0 (Ag 0) (Ag 1) (Bt _)))))) Cp)
  exact (Aw (Bi (Qp (N5 Ajh (Ag 0) (by rfl) C.wm (by rfl) C.wl (by decide +kernel)) (Qp (Al1 (N5 Ag1 (Ag 0) (by rfl) C.wm (by rfl) C.wf (by decide +kernel))) (Tz (Js (Gz hu) G0 (Ag 0) (Ag 1) (Bt _)))))))
theorem Ab5(C:Defs K mg)(LB:LamB K mg base):FnOk P w K mg base CX0 4 C.u6 C.u7 ["found","due"] (spF K 2 Kt):=Pt C LB 3
theorem Nc(C:Defs K mg)(LB:LamB K mg base):FnOk P w K mg base CX0 2 C.vf C.vg ["deck","points"] (spF K 2 Gu):=by
 refine Fun.okF (N:=["deck","points","wide","found","name","x","y"]) C.vh Er (fun cdv A outer s H E hr=>?_)
 have hu:=hr.units
 refine Ah ?s0 ?t0
 case s0=>exact (Au (i:=2) (by exact Er.nd) (Bf Az A0 (C4 (Ac Ai (Ac Ai (Ac Ai (Ac (Bb Kc He Ai Ai) Ae))))) (Av (Bh C LB) (hr.mono (by decide)) (by rfl) C.uM C.uK.kp C.uL (Ac (Ag 0) (Ac Ai Ae))) (fun _ _=>rfl)))
 refine Ah ?s1 ?t1
 case s1=>exact (Au (i:=3) (by exact Er.nd) Uu)
 refine Ah ?s2 ?t2
 case s2=>exact (Hb eO rfl (B8 (Bf Az A0 (C4 (Ac (Ag 1) (Ac (Af9 (Ag 1)) (Ac (Bq (Xa rfl) Adp (by rfl) C.wx nA (Ac (Ag 1) Ae)) Ae)))) (Av (Bh C LB) (hr.mono (by decide)) (by rfl) C.uM C.uK.kp C.uL (Ac (Ag 0) (Ac Ai Ae))) (fun _ _=>rfl))) (Gn rfl (Bg (Ar (i:=4) (by exact Er.nd)) (Bg (Ar (i:=5) (by exact Er.nd)) (Bg (Ar (i:=6) (by exact Er.nd)) E3)))) (Aw (Q5 hu (Ag 3) (Ag 4) (Bb Jr Ha (Bb By Bx (Bb Ec Eb (Av (Bh C LB) (hr.mono (by decide)) (by rfl) C.uM C.uK.kp C.uL (Ac (Ag 0) (Ac (Bb Kc He Ai Ai) Ae))) (Bb Kc He Ai Ai)) (Av (Bh C LB) (hr.mono (by decide)) (by rfl) C.uM C.uK.kp C.uL (Ac (Ag 0) (Ac (Bb Kc He Ai Ai) Ae)))) (Ag 2)))))
 exact (Aw (Bi (Ag 3)))
theorem Ie(C:Defs K mg)(LB:LamB K mg base):FnOk P w K mg base CX0 3 C.vk C.vm ["chains"] (spF K 1 C2):=by
 refine Fun.okFL (N:=["chains"]) C.vn Mz (fun cdv A outer s H E hcd hr=>?_)
 have hu:=hr.units
 exact (Aw (Bi (Ach (nm := "first_heaviest") (N':=["chain"]) (ix:=[none]) (pn := "chain") (fb:=B0) (k:=0) ⟨LB,by decide,(by obtain ⟨c,P,h1,h2⟩:=C.v8;exact ⟨c,P,h1,hcd.symm.trans h2⟩),rfl⟩ ⟨⟨rfl,rfl,rfl,rfl,rfl,rfl⟩,rfl,rfl,rfl,rfl,fun _ _ _ _ _ _=>rfl⟩ rfl (fun _ _ _ _ _ hr=>by have hu:=hr.units;exact (Cq (Ac (P8 (Bf Az A0 (Ag 0) Ai (fun _ _=>rfl))) (Ac (Bf Az A0 (Ag 0) Ai (fun _ _=>rfl)) Ae)))) (hr.mono (by decide)) rfl (by rfl) C.wv (Ag 0))))
theorem R3(C:Defs K mg)(LB:LamB K mg base):FnOk P w K mg base CX0 1 C.vq C.vt ["one","other"] (spF K 2 Ft):=by
 refine Fun.okF (N:=["one","other"]) C.vv Sa (fun cdv A outer s H E hr=>?_)
 have hu:=hr.units
 exact (Aw (Bi (Qp (Js (Mc hu) La (Ag 0) (Ag 1) (Bt _)) (Tz (Bq (Acp rfl) Ajs (by rfl) C.we PyProof.Rows.boot_all (Ac (Fp (N':=["number","above"]) (ix:=[none,none]) ⟨rfl,rfl,rfl,rfl,rfl,rfl⟩ rfl (Vq (by rfl) C.wB (Ac (Ag 0) (Ac (Ag 1) Ae))) (fun _ _ _ _ _ _=>(Gn rfl (Bg (Ar (i:=0) (show cM (α:=Str) ["number","above"] by decide +kernel)) (Bg (Ar (i:=1) (show cM (α:=Str) ["number","above"] by decide +kernel)) E3)))) (fun _ _ _ _ _ _=>(Js Ad0 Xu (Ag 0) (Ag 1) (Bt _)))) Ae))))))
theorem K8(C:Defs K mg)(LB:LamB K mg base):FnOk P w K mg base CX0 1 C.vy C.vz ["point"] (spF K 1 Gb):=by
 refine Fun.okF (N:=["point"]) C.vA V1 (fun cdv A outer s H E hr=>?_)
 have hu:=hr.units
 exact (Aw (Bi (Cq (Ac (Bf Az A0 (Ag 0) Ai (fun _ _=>rfl)) (Ac (Bf Az A0 (Ag 0) Ai (fun _ _=>rfl)) Ae)))))
theorem Pq(C:Defs K mg)(LB:LamB K mg base):FnOk P w K mg base CX0 2 C.vD C.vE ["points","point"] (spF K 2 E7):=by
 refine Fun.okF (N:=["points","point","place"]) C.vF Kn (fun cdv A outer s H E hr=>?_)
 have hu:=hr.units
 refine Ah ?s0 ?t0
 case s0=>exact (Au (i:=2) (by exact Kn.nd) (Av (K8 C LB) (hr.mono (by decide)) (by rfl) C.vC C.vA.kp C.vB (Ac (Ag 1) Ae)))
 exact (Aw (Bi (Iv (N':=["turn","other","place"]) (ix:=[none,none,some 2]) ⟨rfl,rfl,rfl,rfl,rfl,rfl⟩ rfl (Ac3 (by rfl) C.wj (Ac (Ag 0) Ae)) (fun _ _ _ _ _ _=>(Gn rfl (Bg (Ar (i:=0) (show cM (α:=Str) ["turn","other","place"] by decide +kernel)) (Bg (Ar (i:=1) (show cM (α:=Str) ["turn","other","place"] by decide +kernel)) E3)))) (fun _ _ _ _ _ _=>(Gm (Av (R3 C LB) (hr.mono (by decide)) (by rfl) C.vx C.vv.kp C.vw (Ac (Ag 2) (Ac (Av (K8 C LB) (hr.mono (by decide)) (by rfl) C.vC C.vA.kp C.vB (Ac (Ag 1) Ae)) Ae))))) (fun _ _ _ _ _ _=>(Ag 0)))))
theorem Ic(C:Defs K mg)(LB:LamB K mg base):FnOk P w K mg base CX0 5 C.vI C.vJ ["points"] (spF K 1 Bs):=by
 refine Fun.okFL (N:=["points"]) C.vK Ib (fun cdv A outer s H E hcd hr=>?_)
 have hu:=hr.units
 exact (Aw (Bi (Ym (nm := "turns_from_the_highest") (N':=["turn","points"]) (ix:=[none,some 0]) (pn := "turn") (fb:=Ay) (k:=1) ⟨LB,by decide,(by obtain ⟨c,P,h1,h2⟩:=C.v9;exact ⟨c,P,h1,hcd.symm.trans h2⟩),rfl⟩ ⟨⟨rfl,rfl,rfl,rfl,rfl,rfl⟩,rfl,rfl,rfl,rfl,fun _ _ _ _ _ _=>rfl⟩ rfl (fun _ _ _ _ _ hr=>by have hu:=hr.units;exact (Av (K8 C LB) (hr.mono (by decide)) (by rfl) C.vC C.vA.kp C.vB (Ac (Bf Az A0 (Ag 1) (Ag 0) (fun _ _=>rfl)) Ae))) (hr.mono (by decide)) rfl (by rfl) C.wx (by rfl) C.ww (Ac (Bq Dt E9 (by rfl) C.wn eN (Ac (Ag 0) Ae)) Ae))))
theorem My(C:Defs K mg)(LB:LamB K mg base):FnOk P w K mg base CX0 6 C.vN C.vO ["points","weights"] (spF K 2 Em):=by
 refine Fun.okF (N:=["points","weights","begun","turn","following","rest"]) C.vP Cs (fun cdv A outer s H E hr=>?_)
 have hu:=hr.units
 refine Ah ?s0 ?t0
 case s0=>exact (Au (i:=2) (by exact Cs.nd) Uu)
 refine Ah ?s1 ?t1
 case s1=>exact (Hb eO rfl (B8 (Av (Ic C LB) (hr.mono (by decide)) (by rfl) C.vM C.vK.kp C.vL (Ac (Ag 0) Ae))) (Ar (i:=3) (by exact Cs.nd)) (Ah (Nl (i:=4) (N':=["other","begun"]) (ix:=[none,some 2]) (by exact Cs.nd) ⟨rfl,rfl,rfl,rfl,rfl,rfl⟩ rfl (B8 (Av (Pq C LB) (hr.mono (by decide)) (by rfl) C.vH C.vF.kp C.vG (Ac (Ag 0) (Ac (Bf Az A0 (Ag 0) (Ag 3) (fun _ _=>rfl)) Ae)))) (fun _ _ _ _ _ _=>(Ar (i:=0) (show cM (α:=Str) ["other","begun"] by decide +kernel))) (fun _ _ _ _ _ _=>(Nf hu (Ag 1) (Ag 0) (fun _ _=>rfl)))) (Ah (Au (i:=5) (by exact Cs.nd) (Av (Ie C LB) (hr.mono (by decide)) (by rfl) C.vp C.vn.kp C.vo (Ac (Bb By Bx (C4 (Ac (Cq (Ac Ai (Ac (Cq Ae) Ae))) Ae)) (Ag 4)) Ae))) (Aw (Q5 hu (Ag 2) (Ag 3) (Cq (Ac (Bb By Bx (Nf hu (Ag 1) (Bf Az A0 (Bf Az A0 (Ag 0) (Ag 3) (fun _ _=>rfl)) Ai (fun _ _=>rfl)) (fun _ _=>rfl)) (Bf Az A0 (Ag 5) Ai (fun _ _=>rfl))) (Ac (Bb By Bx (Cq (Ac (Ag 3) Ae)) (Bf Az A0 (Ag 5) Ai (fun _ _=>rfl))) Ae))))))))
 exact (Aw (Bi (Ad1 rfl (by rfl) C.wo (Ag 2) ⟨rfl,rfl,rfl,rfl⟩)))
theorem Fq(C:Defs K mg)(LB:LamB K mg base):FnOk P w K mg base CX0 7 C.vS C.vT ["points","weights"] (spF K 2 Bj):=by
 refine Fun.okF (N:=["points","weights","heaviest"]) C.vU Ii (fun cdv A outer s H E hr=>?_)
 have hu:=hr.units
 refine Ah ?s0 ?t0
 case s0=>exact (Di (Pj (Gm (Ag 0))) (Aw (Bi (Cq (Ac Ai (Ac (Cq Ae) Ae))))) Cp)
 refine Ah ?s1 ?t1
 case s1=>exact (Au (i:=2) (by exact Ii.nd) (Av (Ie C LB) (hr.mono (by decide)) (by rfl) C.vp C.vn.kp C.vo (Ac (Av (My C LB) (hr.mono (by decide)) (by rfl) C.vR C.vP.kp C.vQ (Ac (Ag 0) (Ac (Ag 1) Ae))) Ae)))
 exact (Aw (Bi (Cq (Ac (Bf Az A0 (Ag 2) Ai (fun _ _=>rfl)) (Ac (Hm Gq Li (by rfl) C.wA (by decide +kernel) (Ac (Fp (N':=["turn","points"]) (ix:=[none,some 0]) ⟨rfl,rfl,rfl,rfl,rfl,rfl⟩ rfl (B8 (Bf Az A0 (Ag 2) Ai (fun _ _=>rfl))) (fun _ _ _ _ _ _=>(Ar (i:=0) (show cM (α:=Str) ["turn","points"] by decide +kernel))) (fun _ _ _ _ _ _=>(Bf Az A0 (Bf Az A0 (Ag 1) (Ag 0) (fun _ _=>rfl)) Ai (fun _ _=>rfl)))) Ae)) Ae)))))
theorem Ak3(C:Defs K mg)(LB:LamB K mg base):FnOk P w K mg base CX0 8 C.vX C.vY ["script"] (spF K 1 Wk):=by
 refine Fun.okF (N:=["script","deck","turn","points","weights","own","kept","due","others","told","theirs"]) C.vZ Gy (fun cdv A outer s H E hr=>?_)
 have hu:=hr.units
 refine Ah ?s0 ?t0
 case s0=>exact (Au (i:=1) (by exact Gy.nd) (Av (Ac9 C LB) (hr.mono (by decide)) (by rfl) C.uH C.uF.kp C.uG (Ac (Ag 0) Ae)))
 refine Ah ?s1 ?t1
 case s1=>exact (Hb eO rfl (Fb (by rfl) C.ww (Ac Ai Ae)) (Ar (i:=2) (by exact Gy.nd)) (Ah (Au (i:=3) (by exact Gy.nd) (Av (Vp C LB) (hr.mono (by decide)) (by rfl) C.u5 C.uZ.kp C.u4 (Ac (Ag 1) (Ac (Bf Az A0 (C4 (Ac Ai (Ac Ai (Ac Ai (Ac Ai Ae))))) (Av (Bh C LB) (hr.mono (by decide)) (by rfl) C.uM C.uK.kp C.uL (Ac (Ag 1) (Ac Ai Ae))) (fun _ _=>rfl)) Ae)))) (Ah (Au (i:=4) (by exact Gy.nd) (Av (Nc C LB) (hr.mono (by decide)) (by rfl) C.vj C.vh.kp C.vi (Ac (Ag 1) (Ac (Ag 3) Ae)))) (Ah (Nl (i:=5) (N':=["name","x","y","weights"]) (ix:=[none,none,none,some 4]) (by exact Gy.nd) ⟨rfl,rfl,rfl,rfl,rfl,rfl⟩ rfl (B8 (Ag 3)) (fun _ _ _ _ _ _=>(Gn rfl (Bg (Ar (i:=0) (show cM (α:=Str) ["name","x","y","weights"] by decide +kernel)) (Bg (Ar (i:=1) (show cM (α:=Str) ["name","x","y","weights"] by decide +kernel)) (Bg (Ar (i:=2) (show cM (α:=Str) ["name","x","y","weights"] by decide +kernel)) E3))))) (fun _ _ _ _ _ _=>(Nf hu (Ag 3) (Ag 0) (fun _ _=>rfl)))) (Ah (Au (i:=6) (by exact Gy.nd) (Hm (Ace rfl) Ag6 (by rfl) C.wg (by decide +kernel) (Ac (Ag 4) Ae))) (Ah (Au (i:=7) (by exact Gy.nd) (Cq (Ac Ai (Ac (Cq Ae) Ae)))) (Ah (Di (Bw (P7 hu) Mv (Ag 3) (Cq Ae) (Bt _)) (Aw (Au (i:=7) (by exact Gy.nd) (Av (K0 C LB) (hr.mono (by decide)) (by rfl) C.ur C.uo.kp C.uq (Ac (Ag 3) (Ac (Ag 5) Ae))))) Cp) (Ah (Di (PWF.pt (O9 (Acf Aa5 Aa5 Uz Uz Ai (Bq Dt E9 (by rfl) C.wn eN (Ac (Ag 3) Ae)) Ai) (Nb (Bw (P7 hu) Mv (Ag 7) (Av (Rw C LB) (hr.mono (by decide)) (by rfl) C.uC C.uA.kp C.uB (Ac (Ag 3) (Ac (Ag 5) Ae))) (Bt _))))) (Aw (Bi Tr)) Cp) (Ah (Au (i:=8) (by exact Gy.nd) (Av (Nc C LB) (hr.mono (by decide)) (by rfl) C.vj C.vh.kp C.vi (Ac (Ag 1) (Ac (Ag 3) Ae)))) (Ah (Hu (Av (Fq C LB) (hr.mono (by decide)) (by rfl) C.vW C.vU.kp C.vV (Ac (Ag 3) (Ac (Ag 8) Ae)))) (Ah (Di (PWF.pt (Afq (Pj (Gm (Av (Ab5 C LB) (hr.mono (by decide)) (by rfl) C.ve C.u8.kp C.u9 (Ac (Av (Fq C LB) (hr.mono (by decide)) (by rfl) C.vW C.vU.kp C.vV (Ac (Ag 3) (Ac (Ag 4) Ae))) (Ac (Ag 7) Ae))))) (Abd (Bw (P7 hu) Mv (Ag 4) (Ag 6) (Bt _))))) (Aw (Bi Tr)) Cp) (Ah (Au (i:=9) (by exact Gy.nd) (Av (Fq C LB) (hr.mono (by decide)) (by rfl) C.vW C.vU.kp C.vV (Ac (Ag 3) (Ac (Ag 8) Ae)))) (Ah (Nl (i:=10) (N':=["point","others"]) (ix:=[none,some 8]) (by exact Gy.nd) ⟨rfl,rfl,rfl,rfl,rfl,rfl⟩ rfl (B8 (Ag 3)) (fun _ _ _ _ _ _=>(Ar (i:=0) (show cM (α:=Str) ["point","others"] by decide +kernel))) (fun _ _ _ _ _ _=>(Nf hu (Ag 1) (Bf Az A0 (Ag 0) Ai (fun _ _=>rfl)) (fun _ _=>rfl)))) (Aw (Di (PWF.pt (O9 (Bw (P7 hu) Mv (Ag 3) (Cq Ae) (Bt _)) (Nb (Bw (P7 hu) Mv (Ag 9) (Av (K0 C LB) (hr.mono (by decide)) (by rfl) C.ur C.uo.kp C.uq (Ac (Ag 3) (Ac (Ag 10) Ae))) (Bt _))))) (Aw (Bi Tr)) Cp)))))))))))))))
 exact (Aw (Bi Tr))
end
theorem Alk{l:lN}{w:eD}{K:aH}{h:Heap}{mg:Str->Option aF}{fa:Addr}(X:K.In h)(G:h.Ns bI mg)(hfa:mg "law" = some (.ref fa))
  {od0 an0:Option Addr} {sl0:Array (Option aF)} {oc0 kV0 dc0 pm0 cd0 ct0:aF} {f0:Addr} {od1 an1:Option Addr} {sl1:Array (Option aF)} {oc1 kV1 dc1 pm1 cd1 ct1:aF} {f1:Addr} {od2 an2:Option Addr} {sl2:Array (Option aF)} {oc2 kV2 dc2 pm2 cd2 ct2:aF} {f2:Addr} {od3 an3:Option Addr} {sl3:Array (Option aF)} {oc3 kV3 dc3 pm3 cd3 ct3:aF} {f3:Addr} {od4 an4:Option Addr} {sl4:Array (Option aF)} {oc4 kV4 dc4 pm4 cd4 ct4:aF} {f4:Addr} {od5 an5:Option Addr} {sl5:Array (Option aF)} {oc5 kV5 dc5 pm5 cd5 ct5:aF} {f5:Addr} {od6 an6:Option Addr} {sl6:Array (Option aF)} {oc6 kV6 dc6 pm6 cd6 ct6:aF} {f6:Addr} {od7 an7:Option Addr} {sl7:Array (Option aF)} {oc7 kV7 dc7 pm7 cd7 ct7:aF} {f7:Addr} {od8 an8:Option Addr} {sl8:Array (Option aF)} {oc8 kV8 dc8 pm8 cd8 ct8:aF} {f8:Addr} {od9 an9:Option Addr} {sl9:Array (Option aF)} {oc9 kV9 dc9 pm9 cd9 ct9:aF} {f9:Addr} {od10 an10:Option Addr} {sl10:Array (Option aF)} {oc10 kV10 dc10 pm10 cd10 ct10:aF} {f10:Addr} {od11 an11:Option Addr} {sl11:Array (Option aF)} {oc11 kV11 dc11 pm11 cd11 ct11:aF} {f11:Addr} {od12 an12:Option Addr} {sl12:Array (Option aF)} {oc12 kV12 dc12 pm12 cd12 ct12:aF} {f12:Addr} {od13 an13:Option Addr} {sl13:Array (Option aF)} {oc13 kV13 dc13 pm13 cd13 ct13:aF} {f13:Addr} {od14 an14:Option Addr} {sl14:Array (Option aF)} {oc14 kV14 dc14 pm14 cd14 ct14:aF} {f14:Addr} {od15 an15:Option Addr} {sl15:Array (Option aF)} {oc15 kV15 dc15 pm15 cd15 ct15:aF} {f15:Addr} {od16 an16:Option Addr} {sl16:Array (Option aF)} {oc16 kV16 dc16 pm16 cd16 ct16:aF} {f16:Addr} {od17 an17:Option Addr} {sl17:Array (Option aF)} {oc17 kV17 dc17 pm17 cd17 ct17:aF} {f17:Addr} {od18 an18:Option Addr} {sl18:Array (Option aF)} {oc18 kV18 dc18 pm18 cd18 ct18:aF} {f18:Addr} {od19 an19:Option Addr} {sl19:Array (Option aF)} {oc19 kV19 dc19 pm19 cd19 ct19:aF} {f19:Addr}
  (a0:bM K bI "_law_below" = some (some (.ref f0))) (l0:K.lookup f0=some ⟨oc0,od0,.func (cJ "_law_below" "_law_below" (Bu Hf) (Bp Hf) (Am Hf) .none kV0 dc0 pm0 an0 cd0 ct0),sl0⟩) (c0:cF K cd0 "_law_below" = true) (k0:bY K (.ref f0)=true)
  (a1:bM K bI "_law_from_below" = some (some (.ref f1))) (l1:K.lookup f1=some ⟨oc1,od1,.func (cJ "_law_from_below" "_law_from_below" (Bu C9) (Bp C9) (Am C9) .none kV1 dc1 pm1 an1 cd1 ct1),sl1⟩) (c1:cF K cd1 "_law_from_below" = true) (k1:bY K (.ref f1)=true)
  (a2:bM K bI "_law_by_begins" = some (some (.ref f2))) (l2:K.lookup f2=some ⟨oc2,od2,.func (cJ "_law_by_begins" "_law_by_begins" (Bu Dw) (Bp Dw) (Am Dw) .none kV2 dc2 pm2 an2 cd2 ct2),sl2⟩) (c2:cF K cd2 "_law_by_begins" = true) (k2:bY K (.ref f2)=true)
  (a3:bM K bI "_law_all_chains" = some (some (.ref f3))) (l3:K.lookup f3=some ⟨oc3,od3,.func (cJ "_law_all_chains" "_law_all_chains" (Bu C7) (Bp C7) (Am C7) .none kV3 dc3 pm3 an3 cd3 ct3),sl3⟩) (c3:cF K cd3 "_law_all_chains" = true) (k3:bY K (.ref f3)=true)
  (a4:bM K bI "_law_by_trial" = some (some (.ref f4))) (l4:K.lookup f4=some ⟨oc4,od4,.func (cJ "_law_by_trial" "_law_by_trial" (Bu Ek) (Bp Ek) (Am Ek) .none kV4 dc4 pm4 an4 cd4 ct4),sl4⟩) (c4:cF K cd4 "_law_by_trial" = true) (k4:bY K (.ref f4)=true)
  (a5:bM K bI "_law_deck" = some (some (.ref f5))) (l5:K.lookup f5=some ⟨oc5,od5,.func (cJ "_law_deck" "_law_deck" (Bu Iy) (Bp Iy) (Am Iy) .none kV5 dc5 pm5 an5 cd5 ct5),sl5⟩) (c5:cF K cd5 "_law_deck" = true) (k5:bY K (.ref f5)=true)
  (a6:bM K bI "_law_draw" = some (some (.ref f6))) (l6:K.lookup f6=some ⟨oc6,od6,.func (cJ "_law_draw" "_law_draw" (Bu Jj) (Bp Jj) (Am Jj) .none kV6 dc6 pm6 an6 cd6 ct6),sl6⟩) (c6:cF K cd6 "_law_draw" = true) (k6:bY K (.ref f6)=true)
  (a7:bM K bI "_law_names" = some (some (.ref f7))) (l7:K.lookup f7=some ⟨oc7,od7,.func (cJ "_law_names" "_law_names" (Bu Hh) (Bp Hh) (Am Hh) .none kV7 dc7 pm7 an7 cd7 ct7),sl7⟩) (c7:cF K cd7 "_law_names" = true) (k7:bY K (.ref f7)=true)
  (a8:bM K bI "_law_number" = some (some (.ref f8))) (l8:K.lookup f8=some ⟨oc8,od8,.func (cJ "_law_number" "_law_number" (Bu Gd) (Bp Gd) (Am Gd) .none kV8 dc8 pm8 an8 cd8 ct8),sl8⟩) (c8:cF K cd8 "_law_number" = true) (k8:bY K (.ref f8)=true)
  (a9:bM K bI "_law_points" = some (some (.ref f9))) (l9:K.lookup f9=some ⟨oc9,od9,.func (cJ "_law_points" "_law_points" (Bu Gf) (Bp Gf) (Am Gf) .none kV9 dc9 pm9 an9 cd9 ct9),sl9⟩) (c9:cF K cd9 "_law_points" = true) (k9:bY K (.ref f9)=true)
  (a10:bM K bI "_law_same" = some (some (.ref f10))) (l10:K.lookup f10=some ⟨oc10,od10,.func (cJ "_law_same" "_law_same" (Bu Ji) (Bp Ji) (Am Ji) .none kV10 dc10 pm10 an10 cd10 ct10),sl10⟩) (c10:cF K cd10 "_law_same" = true) (k10:bY K (.ref f10)=true)
  (a11:bM K bI "_law_weights" = some (some (.ref f11))) (l11:K.lookup f11=some ⟨oc11,od11,.func (cJ "_law_weights" "_law_weights" (Bu Ff) (Bp Ff) (Am Ff) .none kV11 dc11 pm11 an11 cd11 ct11),sl11⟩) (c11:cF K cd11 "_law_weights" = true) (k11:bY K (.ref f11)=true)
  (a12:bM K bI "first_heaviest" = some (some (.ref f12))) (l12:K.lookup f12=some ⟨oc12,od12,.func (cJ "first_heaviest" "first_heaviest" (Bu Cj) (Bp Cj) (Am Cj) .none kV12 dc12 pm12 an12 cd12 ct12),sl12⟩) (c12:cF K cd12 "first_heaviest" = true) (k12:bY K (.ref f12)=true)
  (a13:bM K bI "lies_below" = some (some (.ref f13))) (l13:K.lookup f13=some ⟨oc13,od13,.func (cJ "lies_below" "lies_below" (Bu Es) (Bp Es) (Am Es) .none kV13 dc13 pm13 an13 cd13 ct13),sl13⟩) (c13:cF K cd13 "lies_below" = true) (k13:bY K (.ref f13)=true)
  (a14:bM K bI "place_of" = some (some (.ref f14))) (l14:K.lookup f14=some ⟨oc14,od14,.func (cJ "place_of" "place_of" (Bu Gi) (Bp Gi) (Am Gi) .none kV14 dc14 pm14 an14 cd14 ct14),sl14⟩) (c14:cF K cd14 "place_of" = true) (k14:bY K (.ref f14)=true)
  (a15:bM K bI "turns_above" = some (some (.ref f15))) (l15:K.lookup f15=some ⟨oc15,od15,.func (cJ "turns_above" "turns_above" (Bu Dx) (Bp Dx) (Am Dx) .none kV15 dc15 pm15 an15 cd15 ct15),sl15⟩) (c15:cF K cd15 "turns_above" = true) (k15:bY K (.ref f15)=true)
  (a16:bM K bI "turns_from_the_highest" = some (some (.ref f16))) (l16:K.lookup f16=some ⟨oc16,od16,.func (cJ "turns_from_the_highest" "turns_from_the_highest" (Bu Bk) (Bp Bk) (Am Bk) .none kV16 dc16 pm16 an16 cd16 ct16),sl16⟩) (c16:cF K cd16 "turns_from_the_highest" = true) (k16:bY K (.ref f16)=true)
  (a17:bM K bI "heaviest_begun" = some (some (.ref f17))) (l17:K.lookup f17=some ⟨oc17,od17,.func (cJ "heaviest_begun" "heaviest_begun" (Bu Cm) (Bp Cm) (Am Cm) .none kV17 dc17 pm17 an17 cd17 ct17),sl17⟩) (c17:cF K cd17 "heaviest_begun" = true) (k17:bY K (.ref f17)=true)
  (a18:bM K bI "heaviest_chain" = some (some (.ref f18))) (l18:K.lookup f18=some ⟨oc18,od18,.func (cJ "heaviest_chain" "heaviest_chain" (Bu Ck) (Bp Ck) (Am Ck) .none kV18 dc18 pm18 an18 cd18 ct18),sl18⟩) (c18:cF K cd18 "heaviest_chain" = true) (k18:bY K (.ref f18)=true)
  (a19:bM K bI "law" = some (some (.ref f19))) (l19:K.lookup f19=some ⟨oc19,od19,.func (cJ "law" "law" (Bu Mo) (Bp Mo) (Am Mo) .none kV19 dc19 pm19 an19 cd19 ct19),sl19⟩) (c19:cF K cd19 "law" = true) (k19:bY K (.ref f19)=true)
  (tb_first_heaviest:(dF K "first_heaviest").isSome=true)
  (tb_turns_from_the_highest:(dF K "turns_from_the_highest").isSome=true)
  (z_abs:bM K bI "abs" = some none)
  (z_all:bM K bI "all" = some none)
  (z_bool:bM K bI "bool" = some none)
  (z_dict:bM K bI "dict" = some none)
  (z_enumerate:bM K bI "enumerate" = some none)
  (z_int:bM K bI "int" = some none)
  (z_isinstance:bM K bI "isinstance" = some none)
  (z_len:bM K bI "len" = some none)
  (z_list:bM K bI "list" = some none)
  (z_max:bM K bI "max" = some none)
  (z_min:bM K bI "min" = some none)
  (z_range:bM K bI "range" = some none)
  (z_sorted:bM K bI "sorted" = some none)
  (z_str:bM K bI "str" = some none)
  (z_sum:bM K bI "sum" = some none)
  (z_tuple:bM K bI "tuple" = some none)
  (z_zip:bM K bI "zip" = some none) :
  ∃ fd:dA,(∀ (s:aL) (v:aF),pL s fd ⟨[v],[]⟩ [("script",v)])/\∀ base:Heap,K.In base->base.Ns bI mg->LamB K mg base->FnOk l.prog w K mg base CX0 8 fa fd ["script"] (spF K 1 Wk):=by
 have e:=hfa.symm.trans (cX X G a19)
 cases e
 have F0:=C8 (st:=Hf) l0 c0 k0
 have b0:=F0.binds (ps:=["one","other"]) fun _ _ _ _ _ _=>Nt (fun _ _=>rfl)
 have F1:=C8 (st:=C9) l1 c1 k1
 have b1:=F1.binds (ps:=["points"]) fun _ _ _ _ _ _=>Wv (fun _=>rfl)
 have F2:=C8 (st:=Dw) l2 c2 k2
 have b2:=F2.binds (ps:=["points","own"]) fun _ _ _ _ _ _=>Nt (fun _ _=>rfl)
 have F3:=C8 (st:=C7) l3 c3 k3
 have b3:=F3.binds (ps:=["points"]) fun _ _ _ _ _ _=>Wv (fun _=>rfl)
 have F4:=C8 (st:=Ek) l4 c4 k4
 have b4:=F4.binds (ps:=["points","own"]) fun _ _ _ _ _ _=>Nt (fun _ _=>rfl)
 have F5:=C8 (st:=Iy) l5 c5 k5
 have b5:=F5.binds (ps:=["script"]) fun _ _ _ _ _ _=>Wv (fun _=>rfl)
 have F6:=C8 (st:=Jj) l6 c6 k6
 have b6:=F6.binds (ps:=["deck","most"]) fun _ _ _ _ _ _=>Nt (fun _ _=>rfl)
 have F7:=C8 (st:=Hh) l7 c7 k7
 have b7:=F7.binds (ps:=["deck","many"]) fun _ _ _ _ _ _=>Nt (fun _ _=>rfl)
 have F8:=C8 (st:=Gd) l8 c8 k8
 have b8:=F8.binds (ps:=["deck","kind"]) fun _ _ _ _ _ _=>Nt (fun _ _=>rfl)
 have F9:=C8 (st:=Gf) l9 c9 k9
 have b9:=F9.binds (ps:=["deck","most"]) fun _ _ _ _ _ _=>Nt (fun _ _=>rfl)
 have F10:=C8 (st:=Ji) l10 c10 k10
 have b10:=F10.binds (ps:=["found","due"]) fun _ _ _ _ _ _=>Nt (fun _ _=>rfl)
 have F11:=C8 (st:=Ff) l11 c11 k11
 have b11:=F11.binds (ps:=["deck","points"]) fun _ _ _ _ _ _=>Nt (fun _ _=>rfl)
 have F12:=C8 (st:=Cj) l12 c12 k12
 have b12:=F12.binds (ps:=["chains"]) fun _ _ _ _ _ _=>Wv (fun _=>rfl)
 have F13:=C8 (st:=Es) l13 c13 k13
 have b13:=F13.binds (ps:=["one","other"]) fun _ _ _ _ _ _=>Nt (fun _ _=>rfl)
 have F14:=C8 (st:=Gi) l14 c14 k14
 have b14:=F14.binds (ps:=["point"]) fun _ _ _ _ _ _=>Wv (fun _=>rfl)
 have F15:=C8 (st:=Dx) l15 c15 k15
 have b15:=F15.binds (ps:=["points","point"]) fun _ _ _ _ _ _=>Nt (fun _ _=>rfl)
 have F16:=C8 (st:=Bk) l16 c16 k16
 have b16:=F16.binds (ps:=["points"]) fun _ _ _ _ _ _=>Wv (fun _=>rfl)
 have F17:=C8 (st:=Cm) l17 c17 k17
 have b17:=F17.binds (ps:=["points","weights"]) fun _ _ _ _ _ _=>Nt (fun _ _=>rfl)
 have F18:=C8 (st:=Ck) l18 c18 k18
 have b18:=F18.binds (ps:=["points","weights"]) fun _ _ _ _ _ _=>Nt (fun _ _=>rfl)
 have F19:=C8 (st:=Mo) l19 c19 k19
 have b19:=F19.binds (ps:=["script"]) fun _ _ _ _ _ _=>Wv (fun _=>rfl)
 let C:Defs K mg:={ ua:=_,uc:=_,ud:=F0,ue:=b0,uf:=cX X G a0,ug:=_,uh:=_,ui:=F1,uj:=b1,uk:=cX X G a1,ul:=_,um:=_,uo:=F2,uq:=b2,ur:=cX X G a2,ut:=_,uu:=_,uv:=F3,uw:=b3,ux:=cX X G a3,uy:=_,uz:=_,uA:=F4,uB:=b4,uC:=cX X G a4,uD:=_,uE:=_,uF:=F5,uG:=b5,uH:=cX X G a5,uI:=_,uJ:=_,uK:=F6,uL:=b6,uM:=cX X G a6,uN:=_,uO:=_,uP:=F7,uQ:=b7,uR:=cX X G a7,uS:=_,uT:=_,uU:=F8,uV:=b8,uW:=cX X G a8,uX:=_,uY:=_,uZ:=F9,u4:=b9,u5:=cX X G a9,u6:=_,u7:=_,u8:=F10,u9:=b10,ve:=cX X G a10,vf:=_,vg:=_,vh:=F11,vi:=b11,vj:=cX X G a11,vk:=_,vm:=_,vn:=F12,vo:=b12,vp:=cX X G a12,vq:=_,vt:=_,vv:=F13,vw:=b13,vx:=cX X G a13,vy:=_,vz:=_,vA:=F14,vB:=b14,vC:=cX X G a14,vD:=_,vE:=_,vF:=F15,vG:=b15,vH:=cX X G a15,vI:=_,vJ:=_,vK:=F16,vL:=b16,vM:=cX X G a16,vN:=_,vO:=_,vP:=F17,vQ:=b17,vR:=cX X G a17,vS:=_,vT:=_,vU:=F18,vV:=b18,vW:=cX X G a18,vX:=_,vY:=_,vZ:=F19,v5:=b19,v7:=cX X G a19,v8:=Aay tb_first_heaviest a12 l12,v9:=Aay tb_turns_from_the_highest a16 l16,wd:=cI X G z_abs,we:=cI X G z_all,wf:=cI X G z_bool,wg:=cI X G z_dict,wj:=cI X G z_enumerate,wl:=cI X G z_int,wm:=cI X G z_isinstance,wn:=cI X G z_len,wo:=cI X G z_list,wu:=cI X G z_max,wv:=cI X G z_min,ww:=cI X G z_range,wx:=cI X G z_sorted,wy:=cI X G z_str,wz:=cI X G z_sum,wA:=cI X G z_tuple,wB:=cI X G z_zip }
 refine ⟨cJ "law" "law" (Bu Mo) (Bp Mo) (Am Mo) .none kV19 dc19 pm19 an19 cd19 ct19,fun s v=>.of_eq rfl,fun base _ _ LB=>?_⟩
 exact Ak3 C LB
theorem Apn{l:lN}{q:cU}{loose:List Str}{XP:(Str->Option aF)->Heap->Prop}{YP:eD->Heap->Prop}{d:DefRec}{K:Params->aH}(hn:l.most=some 63)(hdf:d.params.defaults=[])
  (hY:∀ (w:eD) (h:Heap),YP w h->(K w.params).In h) (hTK:∀ w:eD,PySem.W.noTabs (K w.params)=true/\Att.Nq (K w.params)=true) (hrec:∀ nm∈Fu,∃ d,(PyProof.Rows.recsOf q).find? (fun e=>e.name == nm)=some d)
  (F:∀ (w:eD) (mg:Str->Option aF) (fa:Addr) (h:Heap),(K w.params).In h->h.Ns bI mg->mg d.name=some (.ref fa) ->
   ∃ fd:dA,(∀ (s:aL) (u:aF),pL s fd ⟨[u],[]⟩ [("script",u)])/\∀ base:Heap,(K w.params).In base->base.Ns bI mg->LamB (K w.params) mg base->FnOk l.prog w (K w.params) mg base CX0 8 fa fd ["script"] (spF (K w.params) 1 Wk)) :
  tN q loose XP YP l.row.toRowW d [] (fun f vs=>wL f vs):=
 Att.Amr (k:=8) (x := "script") hn hdf ⟨rfl,by decide,by decide⟩ hY hTK hrec F (fun ns hl hb=>Agb ns hl hb)
end Lw
open PySem PySem.W PyProof.Rows
set_option maxRecDepth 100000 in
set_option maxHeartbeats 0 in
theorem PySem.Challenge.cw_belowpoints_k26_heaviest_chains_holds : PySem.Challenge.rw_belowpoints_k26_heaviest_chains.Holds := by
  w_on; o_law; k_head; (case hw => w_witness2)
  k_fill
  refine Lw.Apn (l := PySem.Challenge.rw_belowpoints_k26_heaviest_chains) rfl rfl (fun w h Y => PySem.W.km_in_of Y) ?T1 ?T2 ?F
  case T1 => exact fun w => ⟨by kernel_rfl, by kernel_rfl⟩
  case T2 => exact List.forall_mem_cons.mpr ⟨⟨_, rfl⟩, List.forall_mem_cons.mpr ⟨⟨_, rfl⟩, fun _ h => nomatch h⟩⟩
  case F =>
    intro w mg fa h KX G hmg
    refine' Lw.Alk KX G hmg  ?a0 ?l0 ?c0 ?k0 ?a1 ?l1 ?c1 ?k1 ?a2 ?l2 ?c2 ?k2 ?a3 ?l3 ?c3 ?k3 ?a4 ?l4 ?c4 ?k4 ?a5 ?l5 ?c5 ?k5 ?a6 ?l6 ?c6 ?k6 ?a7 ?l7 ?c7 ?k7 ?a8 ?l8 ?c8 ?k8 ?a9 ?l9 ?c9 ?k9 ?a10 ?l10 ?c10 ?k10 ?a11 ?l11 ?c11 ?k11 ?a12 ?l12 ?c12 ?k12 ?a13 ?l13 ?c13 ?k13 ?a14 ?l14 ?c14 ?k14 ?a15 ?l15 ?c15 ?k15 ?a16 ?l16 ?c16 ?k16 ?a17 ?l17 ?c17 ?k17 ?a18 ?l18 ?c18 ?k18 ?a19 ?l19 ?c19 ?k19 ?tb_first_heaviest ?tb_turns_from_the_highest ?z_abs ?z_all ?z_bool ?z_dict ?z_enumerate ?z_int ?z_isinstance ?z_len ?z_list ?z_max ?z_min ?z_range ?z_sorted ?z_str ?z_sum ?z_tuple ?z_zip
    (case a0 => k_is); (case l0 => k_is); (case c0 => k_is); (case k0 => k_is)
    (case a1 => k_is); (case l1 => k_is); (case c1 => k_is); (case k1 => k_is)
    (case a2 => k_is); (case l2 => k_is); (case c2 => k_is); (case k2 => k_is)
    (case a3 => k_is); (case l3 => k_is); (case c3 => k_is); (case k3 => k_is)
    (case a4 => k_is); (case l4 => k_is); (case c4 => k_is); (case k4 => k_is)
    (case a5 => k_is); (case l5 => k_is); (case c5 => k_is); (case k5 => k_is)
    (case a6 => k_is); (case l6 => k_is); (case c6 => k_is); (case k6 => k_is)
    (case a7 => k_is); (case l7 => k_is); (case c7 => k_is); (case k7 => k_is)
    (case a8 => k_is); (case l8 => k_is); (case c8 => k_is); (case k8 => k_is)
    (case a9 => k_is); (case l9 => k_is); (case c9 => k_is); (case k9 => k_is)
    (case a10 => k_is); (case l10 => k_is); (case c10 => k_is); (case k10 => k_is)
    (case a11 => k_is); (case l11 => k_is); (case c11 => k_is); (case k11 => k_is)
    (case a12 => k_is); (case l12 => k_is); (case c12 => k_is); (case k12 => k_is)
    (case a13 => k_is); (case l13 => k_is); (case c13 => k_is); (case k13 => k_is)
    (case a14 => k_is); (case l14 => k_is); (case c14 => k_is); (case k14 => k_is)
    (case a15 => k_is); (case l15 => k_is); (case c15 => k_is); (case k15 => k_is)
    (case a16 => k_is); (case l16 => k_is); (case c16 => k_is); (case k16 => k_is)
    (case a17 => k_is); (case l17 => k_is); (case c17 => k_is); (case k17 => k_is)
    (case a18 => k_is); (case l18 => k_is); (case c18 => k_is); (case k18 => k_is)
    (case a19 => k_is); (case l19 => k_is); (case c19 => k_is); (case k19 => k_is)
    (case tb_first_heaviest => kernel_rfl)
    (case tb_turns_from_the_highest => kernel_rfl)
    (case z_abs => k_is)
    (case z_all => k_is)
    (case z_bool => k_is)
    (case z_dict => k_is)
    (case z_enumerate => k_is)
    (case z_int => k_is)
    (case z_isinstance => k_is)
    (case z_len => k_is)
    (case z_list => k_is)
    (case z_max => k_is)
    (case z_min => k_is)
    (case z_range => k_is)
    (case z_sorted => k_is)
    (case z_str => k_is)
    (case z_sum => k_is)
    (case z_tuple => k_is)
    (case z_zip => k_is)
