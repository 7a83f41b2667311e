import PyProof.Rows.All
import Wide.All
import OpenK.AllK
import Wide.FinOn
import Lean
import PyProof.EqAt
import PyProof.EqKinds
import PyProof.TupleCall
import KE.KLam
import KE.KSortTup
import KE.KMinKey
import KE.KTurnsDict
import KE.KPairComp
import KE.KDictList
import PySem.Challenge.RW_belowpoints_k25_longest_chains
set_option Elab.async false
set_option linter.all false
set_option maxRecDepth 100000
set_option maxHeartbeats 4000000
open Option renaming bind_some->aA,bind_eq_some_iff->aB,map_some->aC,map_eq_some_iff->aH,join_some->aV,getD_some->fM,isSome_iff_exists->jE,isSome_some->pQ,isSome_map->qH,none->tG
open PySem renaming wpAny_bind->aD,Value->aG,Shared->aR,wpAny_pure->bC,mainGlobals->bJ,starEach->bQ,boot_len->cS,FuncData->cU,Program->cX,wpAny_newObj_type->dD,wpAny_mono->dN,wpAny_Call_Name_kw->dO,wpAny_field->dR,Around->eE,World->eG,compareOp->eM,wpAny_callSpecial?_slot->eN,wpAny_seqItems->eU,wpAny_holding->eY,bootBuiltins->eZ,wpAny_truthy_bool->fA,wpAny_pyIter_tuple->fJ,wpAny_call_entry->fL,binaryOp->fV,sizeLine_eq->gD,wpAny_setField_rec->gO,IsPair->gU,wpAny_passesOwn->gX,mem_of_lookup->iC,wpAny_getItem_str_slice->iF,NameKind->iN,wpAny_loadPart'->iO,wpAny_letGo->iX,wpAny_tryCatch->iZ,Scope->jA,wpAny_comprehension_free->jF,plainId_quiet->jI,Keyword->jJ,codeAny_builtin->jL,Env->jS,wpAny_pyIter_list->jU,wpAny_pyIter_enum->jY,Arguments->kG,codeAny->kM,wpAny_updateSeq_pair->kO,wpAny_execs_nil->kP,wpAny_updateSeq->kT,post_val_or_str->kY,evalArgs_none->lC,builtinsNs->lP,call_meets->lW,wpAny_letOwnedTupleGo_enum->lX,IsZip->lY,slot_list_getitem->mJ,wpAny_standAt->mM,evalPart_none->mP,wpAny_getItem_list_slice->mQ,wpAny_onRaise->mS,wpAny_attempt->mT,wpAny_newList->mU,Builtin->nM,richCompare_meets_room->nN,IsPart->nR,codeAny_compStart_list->nU,wpAny_rule->nV,pushCells_keeps->oG,GenState->oQ,wpAny_newFunctionEnv->oW,ZipApart->oX,BindsTo->pB,rangeSize_one->pD,nums_intItems->pE,PlainAttrs->pP,tupleKind_room_in1->pR,call_range_1->qA,codeAny_mono->qD,wpAny_sequenceKey->qF,seqIndex_neg->qG,wpAny_Call_method->qO,meets_dict_values->qP,wpAny_execs_cons->qU,PassesOwn->qV,wpAny_forIn_list->qX,noFill_tuple_add->qY,TriplesOk->rB,wpAny_isInstance->rF,wpAny_pyIter_zip->rG,wpAny_Slice->rL,seqIndex_of->rM,wpAny_of_eq->rO,Paired->sC,wpAny_Name->sD,Result->sF,typeIs_str->sH,typeIs_int->sI,PyData->sK,Within->sU,call->tL
open PySem.Heap renaming get?_push_of_some->aE,get?_push_size->bE,lt_size->bF,size_push->dG,get?_update_self->kE,SameBut->lJ,ExtBut->mK,get?_update_other->nT,IsTuple->qJ
open List renaming getElem?_eq_some_iff->aF,getElem?_cons_zero->aI,mem_cons_of_mem->aK,getElem?_eq_getElem->aL,length_cons->aM,getElem?_cons_succ->aN,range->aO,getD_eq_getElem?_getD->aP,length_map->aQ,mem_cons_self->aT,mem_append_right->aU,map_cons->aW,size_toArray->aX,length_nil->aY,set_cons_succ->aZ,set_cons_zero->bA,append_nil->bB,mem_range->bG,mem_cons->bH,getElem?_append_left->bI,getElem?_set_ne->bL,getElem?_set_self->bM,replicate->bN,getElem?_map->bO,all_eq_true->bR,mem_filter->bT,mem_map->bU,mem_of_getElem?->bV,map_nil->bW,length_reverse->bY,lookup_cons->cA,mem_singleton->cB,length_range->cF,length_append->cH,getElem?_append_right->cJ,mem_append_left->cO,filter_cons_of_pos->cP,filter_cons_of_neg->cQ,mem_append->cR,Nodup->cT,getElem?_eq_none_iff->cV,map_map->dB,cons_append->dC,append_assoc->dE,find?_cons->dF,map_congr_left->dI,nil_append->dL,length_filter_le->dS,replicate_zero->dW,filter_eq_self->dX,not_mem_nil->eB,replicate_succ->eI,reverse_cons->eK,getElem_mem->eO,getElem?_eq_none->eS,getElem?_reverse->eT,length->eW,getElem_of_mem->fE,mem_take_iff_getElem->fG,length_take->fK,flatten_cons->fR,filterMap_cons->fU,mem_map_of_mem->fW,take_of_length_le->fZ,any_cons->gF,mem_filterMap->gH,nodup_iff_pairwise_ne->gR,length_set->gY,filter->hV,length_pos_iff->iD,mem_reverse->iG,toArray->iM,foldl_cons->iP,take_add_one->iW,getElem?_zip_eq_some->jB,pairwise_iff_getElem->jC,sum_cons->jH,map_append->jK,zip_cons_cons->jO,filterMap_map->jP,eraseIdxIfInBounds_toArray->kC,eraseIdx_eq_take_drop_succ->kD,filter_cons->kH,any_eq_true->kI,ext_getElem->kJ,nodup_range->kK,nodup_cons->kQ,forIn_cons->kR,range_succ->lB,getElem?_range->lD,map_eq_nil_iff->lH,any_eq_false->mH,all_cons->mR,length_drop->nA,eraseIdx_cons_succ->nB,take_length->nG,filter_eq_nil_iff->oB,of_mem_zip->oE,reverse_reverse->oY,forIn_nil->oZ,getElem?_mapIdx->pA,zip_nil_right->pM,filter_append->pY,zip_nil_left->qE,filter_congr->qR,zipIdx_cons->rD,isEmpty_iff->rJ,zipIdx_nil->rV,sum_append->sB,foldl->sJ,drop_zero->sM,map_take->sS,map_drop->sT
open PySem.W renaming Frag->aJ,nsIn->bP,keepIn->bX,codeIn->cD,fnOf->cE,mg_none_of->cI,mg_of->cN,tabIn->cZ,kia_one->dY,emptyDict->fB,kitOne->fD,instObj->gW,findIn->jV,cellsFrom_some->jX,OpenLaw->lN,kas_sort->mD,methodObj->mG,kitx_list->mI,kas_rev->nZ,envX->oA,kas_ask->oJ,lookIn->oR,kitx_tuple->pJ,kdl_values->pX,specialIn->qB,kitx_dict->qC,plainGet->qW,kat_nil->rZ,kla_obj->sA,kla_fn->sN,WalkO->sR,isFn->sV
open Nat renaming le_refl->aS,lt_of_lt_of_le->bD,lt_irrefl->bZ,ne_of_lt->cC,le_trans->cL,lt_succ_self->dZ,sub_self->eQ,zero_le->gE,le_succ->gZ,ne_of_gt->iI,pow_le_pow_right->iY,add_sub_cancel->jR,add_sub_cancel_left->jT,lt_succ_of_lt->jZ,le_of_lt->nK,le_of_eq->nL,zero_add->nX,one_le_two_pow->pW,le_succ_of_le->qK,lt_trichotomy->qS,log2_lt->rN,two_pow_pos->rX,le_total->sW,sub_zero->sZ
open Bool renaming false_eq_true->bK,and_eq_true->cG,false_ne_true->cM,not_true->iB,eq_iff_iff->iR,not_false->mB,or_eq_true->oF,and_eq_false_iff->oO,and_false->oV,and_true->pF,not_eq_true'->qQ,false_or->sP
open Option.some renaming inj->bS
open PySem.Obj renaming mapSeq->cK,data_mapFields->pT
open PySem.Builtin.SmallTypes renaming nextOf->cW,ownedTupleIsFree->eV,ownedTupleHandOut->jD
open PyProof.Rows renaming callWith_type1->cY,slot_tuple_getitem->dQ,IntsAre->fX,boot_max->gT,callWith_builtin1->iE,boot_sum->iV,get?_update_seq->jM,listUpdate_at->mV,truthy_int->nD,AllBare->nJ,subscriptTail_builtinR->nS,IsTup->oD,boot_min->oN,entry_tuple_getitem->pC,args_tuple_getitem->pN,Subscript_->pO,boot_range->sE,tail_any->sG
open Array renaming length_toList->dA,getD_eq_getD_getElem?->eX,getElem?_toList->iU,toList_append->lF,getElem?_eq_getElem->mF,append_assoc->pI,toList->pZ,size_append->qN
open PySem.Builtin.Int renaming intBits->dH
open PySem.Builtin.Slice renaming slicePlaces->dJ,sliceAdjust->fF,sliceApplied->gJ,sliceFields->mC
open PySem.Str renaming ofString->dM
open PySem.Builtin.Tuple renaming tupleExact->dP,tupleCompareSizes->kB,tupleItemsOf->lR
open PySem.Heap.SameBut renaming update->dU
open PySem.PyData renaming eqv->eA,canLay0->gP,depth->iL,eqvAll->jG,strOk->nY,canLayAll0->qM,depthAll->rW,list->tI
open PySem.F renaming plainAttrs_list->eC,plain_min_loop->eP,slot_list_append->fO,type_list_append->fP,slot_tuple_iterator_next->gL,slot_dict_values->iA,slot_list_pop->jQ,entry_min_loop->kA,args_tuple_iterator_next_1->kW,slot_zip_next->kX,entry_tuple_iterator_next->lL,args_dict_values_1->lZ,entry_dict_values->mE,args_tuple_add_2->mO,type_dict_values->mW,args_tuple_lt_2->mY,entry_tuple_add->mZ,plain_list_iadd->nE,plainAttrs_dict->nF,entry_tuple_lt->nO,slot_tuple_add->nQ,slot_tuple_lt->oK,slot_enumerate_next->oM,type_list_pop->oP,args_zip_next_1->qI,entry_list_pop->rA,entry_zip_next->rE,slot_int_rmul->rT
open PySem.Value renaming ref->eD,none->fH,type->iH,int->kF,bool->nI,notImplemented->oU,str->qT,isStrOf->sO,isInt->tB,float->tD
open PySem.PassesOwn renaming never->eF
open Int renaming toNat_natCast->eJ,emod_lt_of_pos->gQ,emod_nonneg->iS,zero_add->lM,natCast_nonneg->lV,max_eq_right->qZ,mul_one->rK,le_refl->rQ,min_eq_left->rR,ediv_nonneg->rY,ofNat_le->sX
open Ne renaming symm->eR
open PySem.NameKind renaming cell->fN,free->iT
open PySem.Builtin.Str renaming occurrences->fQ
open False renaming elim->fT
open PySem.SeqAt renaming shaped->fY,EqAt->pK
open PySem.Builtin.Builtins renaming bindParams->gC
open PySem.Txt renaming slice->gG,mul->lK,slice_le->qL,join->sL
open PySem.Around renaming under_plainId->hU,frames_deeper->oT,in1->pV
open PySem.Builtin.List renaming listTooLong->hZ
open True renaming intro->iJ
open PySem.Calls renaming callWith_builtin->iK,spliced_cons->jN,spliced_nil->jW,Name_function_global->lQ
open ForInStep renaming yield->iQ
open Sum renaming inl->kL,inr->nH
open Prod.mk renaming inj->kN
open PySem.W.WData renaming weightAll->kZ,int->nC,layableAll->rH,weight->sY,list->tJ
open PySem.Heap.IsSliceOf renaming new->lU
open PySem.Paired renaming length->mL,snoc->tH
open PySem.AutoSeq1 renaming sub_tuple_tuple->mN
open PySem.Builtin.Range renaming rangeSize->mX
open PySem.Walks renaming list->nW
open List.cons renaming injEq->oH
open PySem.SeqAt.EqAt renaming int_str->pG,str_int->pH,int_int->pL,same->rS
open Or renaming inr->pS,inl->rC
open PySem.Shared renaming heap->rP
open Function renaming comp->sQ
open PySem.Data renaming fields->tE
open PySem.IsRange renaming new->tF
open PySem.W.WShape renaming has->tK
namespace L2
open PySem PySem.Spec PyProof.Rows
abbrev Key:=Sum Int Str
noncomputable def R1:Key->aG->Bool
 | .inl k,v=>tB k v
 | .inr x,v=>sO x v
noncomputable def Aqf(w:eG):Key->Int
 | .inl k=>hashInt k
 | .inr x=>hashStr w x
theorem Ci:∀ {k:Key} {v:aG},R1 k v=true->(∃ i t,k=kL i/\v=kF i t)\/(∃ x t,k=nH x/\v=qT x t)
 | .inl i,v,h=>by
  obtain ⟨t,e⟩:=aG.isInt_shape (k:=i) (v:=v) h
  exact .inl ⟨i,t,rfl,e⟩
 | .inr x,v,h=>by
  obtain ⟨t,e⟩:=aG.isStrOf_shape (x:=x) (v:=v) h
  exact .inr ⟨x,t,rfl,e⟩
theorem Acr(i:Int)(t:Tok):R1 (.inl i) (.int i t)=true:=by simp[R1,tB]
theorem Ady(x:Str)(t:Tok):R1 (.inr x) (.str x t)=true:=by simp[R1,sO]
theorem Ane(a b:Int):decide ((kL a:Key)=kL b)=(a == b):=by
 by_cases e:a=b
 ·subst e;simp
 ·have h:¬ (kL a:Key)=kL b:=fun q=>e (kL.inj q)
  rw[decide_eq_false h]
  exact (beq_eq_false_iff_ne.mpr e).symm
theorem Ani(a b:Str):decide ((nH a:Key)=nH b)=decide (a=b):=by
 by_cases e:a=b
 ·subst e;simp
 ·have h:¬ (nH a:Key)=nH b:=fun q=>e (nH.inj q)
  rw[decide_eq_false h,decide_eq_false e]
theorem Ale(a:Int)(b:Str):decide ((kL a:Key)=nH b)=false:=decide_eq_false (fun q=>nomatch q)
theorem Alm(a:Str)(b:Int):decide ((nH a:Key)=kL b)=false:=decide_eq_false (fun q=>nomatch q)
noncomputable def B7(prog:cX)(w:eG):PySem.KeyKind prog w Key where
 is:=R1
 hash:=Aqf w
 inj:=fun v a b ha hb=>by
  rcases Ci ha with ⟨i,t,rfl,rfl⟩ | ⟨x,t,rfl,rfl⟩
  ·rcases Ci hb with ⟨j,u,rfl,e⟩ | ⟨y,u,rfl,e⟩
   ·injection e with e1 _;rw[e1]
   ·exact nomatch e
  ·rcases Ci hb with ⟨j,u,rfl,e⟩ | ⟨y,u,rfl,e⟩
   ·exact nomatch e
   ·injection e with e1 _;rw[e1]
 byValue:=fun k v h=>by
  rcases Ci h with ⟨i,t,rfl,rfl⟩ | ⟨x,t,rfl,rfl⟩ <;> rfl
 pyHash:=fun hv h=>by
  rcases Ci hv with ⟨i,t,rfl,rfl⟩ | ⟨x,t,rfl,rfl⟩
  ·exact wpAny_pyHash_int h
  ·exact wpAny_pyHash_str h
 eqBool:=fun hu hv h=>by
  rcases Ci hu with ⟨i,t,rfl,rfl⟩ | ⟨x,t,rfl,rfl⟩
  ·rcases Ci hv with ⟨j,u,rfl,rfl⟩ | ⟨y,u,rfl,rfl⟩
   ·rw[Ane] at h;exact wpAny_eqBool_int h
   ·rw[Ale] at h;exact pG i t y u _ _ _ _ h
  ·rcases Ci hv with ⟨j,u,rfl,rfl⟩ | ⟨y,u,rfl,rfl⟩
   ·rw[Alm] at h;exact pH x t j u _ _ _ _ h
   ·rw[Ani] at h;exact wpAny_eqBool_str h
 «strs» := fun k x t v h=>by
  rcases Ci h with ⟨i,u,rfl,e⟩ | ⟨y,u,rfl,e⟩
  ·exact nomatch e
  ·injection e with e1 _
   subst e1
   cases v <;> rfl
theorem Xp(prog:cX)(w:eG)(k:Key)(v:aG):(B7 prog w).is k v=R1 k v:=rfl
theorem Vx(prog:cX)(w:eG)(i:Int)(t:Tok):(B7 prog w).is (.inl i) (.int i t)=true:=Acr i t
theorem Wd(prog:cX)(w:eG)(x:Str)(t:Tok):(B7 prog w).is (.inr x) (.str x t)=true:=Ady x t
inductive V where
 | non | bl (b:Bool) | int (i:Int) | str (x:Str) | byt (b:Array UInt8) | flt (b:UInt64) | ref (a:Addr) | ty (n:String)
 deriving DecidableEq
noncomputable def RelV:V->aG->Prop
 | .non,u=>u=fH
 | .bl b,u=>u=nI b
 | .int i,u=>∃ t,u=kF i t
 | .str x,u=>∃ t,u=qT x t
 | .byt b,u=>∃ t,u=aG.bytes b t
 | .flt b,u=>∃ t,u=tD b t
 | .ref a,u=>u=eD a
 | .ty n,u=>u=iH n
abbrev Vals:List V->List aG->Prop:=sC RelV
variable {xs:List V}{us:List aG}
theorem Vals.length(r:Vals xs us):xs.length=us.length:=mL r
variable {i:Nat}
theorem Vals.get{x:V}(h:Vals xs us)(e:xs[i]? = some x):∃ u,us[i]? = some u/\RelV x u:=by
 induction h generalizing i with
 | nil=>cases e
 | cons r t ih=>
  cases i with
  | zero=>cases e;exact ⟨_,rfl,r⟩
  | succ i=>exact ih (i:=i) e
variable {u:aG}
theorem Vals.set{x:V}(r:RelV x u)(i:Nat)(h:Vals xs us):Vals (xs.set i x) (us.set i u):=by
 induction h generalizing i with
 | nil=>exact .nil
 | cons q t ih=>
  cases i with
  | zero=>exact .cons r t
  | succ i=>exact .cons q (ih i)
variable {ys:List V}
theorem Vals.append{ws:List aG}(h:Vals xs us)(s:Vals ys ws):Vals (xs++ys) (us++ws):=by
 induction h with
 | nil=>exact s
 | cons r t ih=>exact .cons r ih
theorem Vals.take(n:Nat)(h:Vals xs us):Vals (xs.take n) (us.take n):=by
 induction h generalizing n with
 | nil=>cases n <;> exact .nil
 | cons r t ih=>
  cases n with
  | zero=>exact .nil
  | succ n=>exact .cons r (ih n)
theorem Vals.drop(n:Nat)(h:Vals xs us):Vals (xs.drop n) (us.drop n):=by
 induction h generalizing n with
 | nil=>cases n <;> exact .nil
 | cons r t ih=>
  cases n with
  | zero=>exact .cons r t
  | succ n=>exact ih n
noncomputable def RelO:Option V->Option aG->Prop
 | some v,some u=>RelV v u
 | none,none=>True
 | _,_=>False
noncomputable def KV{κ:Type}:List (κ×V)->List (κ×aG)->Prop:=sC fun (p:κ×V) (q:κ×aG)=>p.1=q.1/\RelV p.2 q.2
noncomputable def kV:Key->V
 | .inl i=>.int i
 | .inr x=>.str x
inductive HO where
 | lst (xs:List V)
 | tup (xs:List V)
 | dK (kvs:List (Key×V)) | dT (kvs:List (List Key×V))
 | set (S:Int->Bool) (n:Nat)
 | ins (C dx:Addr) (fs:List (Str×V))
 | own (x:Addr)
 | xd (fs:List (Str×V))
 | met (f x:Addr)
 | rng (lo hi:Int)
 | frz (o:Obj) (u:HO)
 | tbl (ps:Array aG)
 | ext (φ:Heap->Prop)
abbrev Hp:=Addr->Option HO
noncomputable def upd(H:Hp)(a:Addr)(o:HO):Hp:=fun b=>if b=a then some o else H b
variable {H:Hp}{a:Addr}{o:HO}
theorem upd_same:upd H a o a=some o:=by unfold upd;rw[if_pos rfl]
variable {b:Addr}
theorem Ap(h:b≠a):upd H a o b=H b:=by unfold upd;rw[if_neg h]
theorem K5{u:HO}(h:H a=some o)(h':H b=some u)(d:o≠u):a≠b:=by
 intro e;subst e;rw[h] at h';exact d (bS h')
theorem Bc(h:H a=some o)(h':H b=none):a≠b:=by
 intro e;subst e;rw[h] at h';cases h'
noncomputable def TupN(h:Heap)(a:Addr)(its:Array aG):Prop:=∃ o:Obj,h.get? a=some o/\(o.cls,o.dict)=(iH "tuple",(none:Option Addr))/\∃ n,o.data = .seq its n
variable {h:Heap}
theorem TupN.is{its:Array aG}(x:TupN h a its):h.IsTuple a its:=by
 obtain ⟨o,e,c,n,d⟩:=x
 exact ⟨o,e,(kN c).1,n,d⟩
theorem TupN.new(h:Heap)(its:Array aG):TupN (h.push { cls:=.type "tuple",data:=.seq its }) h.objs.size its:=⟨_,bE _ rfl,rfl,0,rfl⟩
theorem TupN.lt{its:Array aG}(x:TupN h a its):a < h.objs.size:=by
 obtain ⟨o,e,_⟩:=x;exact bF e
section
variable (P:cX)(w:eG)
noncomputable def ObjOk(H:Hp)(h:Heap)(a:Addr):HO->Prop
 | .lst xs=>xs.length<=sizeLine/\∃ (its:List aG) (n:Nat),Vals xs its/\h.get? a=some { cls:=.type "list",data:=.seq its.toArray n }
 | .tup xs=>xs.length<=sizeLine/\∃ its:List aG,Vals xs its/\TupN h a its.toArray
 | .dK kvs=>kvs.length<=sizeLine/\(a == sysModules)=false/\∃ vs,KV kvs vs/\h.DictOf (B7 P w) a vs
 | .dT kvs=>kvs.length<=sizeLine/\(a == sysModules)=false/\∃ xs:List (List Key×Addr×aG),
   sC (fun (p:List Key×V) (q:List Key×Addr×aG)=>p.1=q.1/\H q.2.1=some (.tup (p.1.map kV))/\RelV p.2 q.2.2) kvs xs /\
   ∃ o es ep,h.get? a=some o/\o.ExactDict/\o.data = .dict es ep/\es.toList=xs.map (entryOfKey (tupleKind (B7 P w)))/\(xs.map (·.1)).Nodup
 | .set S n=>h.SetOf (intKind P w) a S n
 | .ins C dx fs=>H dx=some (.own a)/\fs.length<=1000/\dx≠a/\h.get? a=some (gW C dx) /\
   ∃ mA,h.Ns1 dx mA/\(∀ f,RelO (fs.lookup f) (mA f))/\sU mA (fs.map (·.1))
 | .own _=>∃ o,h.get? a=some o
 | .xd fs=>∃ mA,h.Ns1 a mA/\∀ f,RelO (fs.lookup f) (mA f)
 | .rng lo hi=>∃ t u v,h.get? a=some { cls:=.type "range",data:=.fields #[.int lo t,.int hi u,.int 1 v] }
 | .frz o u=>h.get? a=some o/\ObjOk H h a u
 | .tbl ps=>h.get? a=some { cls:=.none,data:=.fields ps }
 | .met f x=>h.get? a=some (mG (.ref f) (.ref x))
 | .ext φ=>φ h/\(∃ o,h.get? a=some o)/\∀ h1 h2:Heap,φ h1->(∀ o,h1.get? a=some o->h2.get? a=some o)->φ h2
noncomputable def HOk(H:Hp)(h:Heap):Prop:=∀ a o,H a=some o->ObjOk P w H h a o
end
variable {P:cX}{w:eG}{H':Hp}{h':Heap}
section
theorem ObjOk.lt(x:ObjOk P w H h a o):a < h.objs.size:=by
 cases o with
 | lst xs=>obtain ⟨_,_,_,_,e⟩:=x;exact bF e
 | tup xs=>obtain ⟨_,_,_,p⟩:=x;exact p.lt
 | dK kvs=>obtain ⟨_,_,_,_,o,_,_,e,_⟩:=x;exact bF e
 | dT kvs=>obtain ⟨_,_,_,_,o,_,_,e,_⟩:=x;exact bF e
 | set S n=>obtain ⟨o,_,_,_,e,_⟩:=x;exact bF e
 | ins C dx fs=>obtain ⟨_,_,_,e,_⟩:=x;exact bF e
 | own y=>obtain ⟨_,e⟩:=x;exact bF e
 | xd fs=>obtain ⟨_,⟨_,_,_,e,_⟩,_⟩:=x;exact bF e
 | rng lo hi=>obtain ⟨_,_,_,e⟩:=x;exact bF e
 | frz ob u=>obtain ⟨e,_⟩:=x;exact bF e
 | tbl ps=>exact bF (show h.get? a=some _ from x)
 | met f y=>exact bF (show h.get? a=some _ from x)
 | ext φ=>obtain ⟨_,⟨_,e⟩,_⟩:=x;exact bF e
theorem Paired.mapP{α β:Type}{F G:α->β->Prop}{l₁:List α}{l₂:List β}(h:sC F l₁ l₂)(f:∀ a b,F a b->G a b):sC G l₁ l₂:=by
 induction h with
 | nil=>exact .nil
 | cons r t ih=>exact .cons (f _ _ r) ih
theorem ObjOk.stay(x:ObjOk P w H h a o)(k:∀ b u,(b=a\/H b=some (.own a))->h.get? b=some u->h'.get? b=some u)
  (ho:∀ b,H b=some (.own a)->H' b=some (.own a)) (ht:∀ b xs,H b=some (.tup xs)->H' b=some (.tup xs)):ObjOk P w H' h' a o:=by
 induction o with
 | lst xs=>obtain ⟨z,its,n,r,e⟩:=x;exact ⟨z,its,n,r,k _ _ (.inl rfl) e⟩
 | tup xs=>obtain ⟨z,its,r,ob,e,c⟩:=x;exact ⟨z,its,r,ob,k _ _ (.inl rfl) e,c⟩
 | dK kvs=>obtain ⟨z,y,vs,r,ob,es,ep,e,c⟩:=x;exact ⟨z,y,vs,r,ob,es,ep,k _ _ (.inl rfl) e,c⟩
 | dT kvs=>
  obtain ⟨z,y,xs,r,ob,es,ep,e,c⟩:=x
  exact ⟨z,y,xs,Paired.mapP r fun p q z=>⟨z.1,ht _ _ z.2.1,z.2.2⟩,ob,es,ep,k _ _ (.inl rfl) e,c⟩
 | set S n=>obtain ⟨ob,es,ep,t,e,c⟩:=x;exact ⟨ob,es,ep,t,k _ _ (.inl rfl) e,c⟩
 | ins C dx fs=>
  obtain ⟨d,z,ne,e,mA,⟨od,es,ep,e2,c⟩,r⟩:=x
  exact ⟨ho _ d,z,ne,k _ _ (.inl rfl) e,mA,⟨od,es,ep,k _ _ (.inr d) e2,c⟩,r⟩
 | own y=>obtain ⟨ob,e⟩:=x;exact ⟨ob,k _ _ (.inl rfl) e⟩
 | xd fs=>obtain ⟨mA,⟨od,es,ep,e,c⟩,r⟩:=x;exact ⟨mA,⟨od,es,ep,k _ _ (.inl rfl) e,c⟩,r⟩
 | rng lo hi=>obtain ⟨t,u,v,e⟩:=x;exact ⟨t,u,v,k _ _ (.inl rfl) e⟩
 | frz ob u ih=>obtain ⟨e,q⟩:=x;exact ⟨k _ _ (.inl rfl) e,ih q⟩
 | tbl ps=>
  have e:h.get? a=some { cls:=.none,data:=.fields ps }:=x
  show h'.get? a=some { cls:=.none,data:=.fields ps }
  exact k a _ (.inl rfl) e
 | met f y=>
  have e:h.get? a=some (mG (.ref f) (.ref y)):=x
  show h'.get? a=some (mG (.ref f) (.ref y))
  exact k a _ (.inl rfl) e
 | ext φ=>obtain ⟨p,⟨o,e⟩,st⟩:=x;exact ⟨st _ _ p fun o q=>k _ _ (.inl rfl) q,⟨o,k _ _ (.inl rfl) e⟩,st⟩
theorem HOk.lt(x:HOk P w H h)(e:H a=some o):a < h.objs.size:=(x a o e).lt
theorem HOk.fresh(x:HOk P w H h)(e:h.objs.size<=a):H a=none:=by
 cases q:H a with
 | none=>rfl
 | some u=>exact absurd (bD (x.lt q) e) (bZ _)
theorem HOk.kept(x:HOk P w H h)(k:∀ b u,h.get? b=some u->h'.get? b=some u):HOk P w H h':=fun a o e=>
 (x a o e).stay (fun b u _ q=>k b u q) (fun _ q=>q) fun _ _ q=>q
theorem HOk.laid(x:HOk P w H h)(k:∀ b u,h.get? b=some u->h'.get? b=some u)(hp:h.objs.size<=a)(new:ObjOk P w (upd H a o) h' a o):HOk P w (upd H a o) h':=fun b u e=>by
 have hn:=x.fresh hp
 by_cases hb:b=a
 ·subst hb;rw[upd_same] at e;cases e;exact new
 ·rw[Ap hb] at e
  exact (x b u e).stay (fun c v _ q=>k c v q) (fun c q=>by rw[Ap (Bc q hn)];exact q) fun c xs q=>by rw[Ap (Bc q hn)];exact q
end
noncomputable def Rd(H:Hp)(a:Addr)(u:HO):Prop:=H a=some u\/∃ o,H a=some (.frz o u)
theorem Rd.of{u:HO}(h:H a=some u):Rd H a u:=.inl h
theorem Rd.ok{u:HO}(r:Rd H a u)(x:HOk P w H h):ObjOk P w H h a u:=by
 rcases r with r | ⟨o,r⟩
 ·exact x a u r
 ·obtain ⟨_,q⟩:=x a _ r
  exact q
noncomputable def Mut:Option HO->Prop
 | some (.lst _)=>True
 | some (.dK _)=>True
 | some (.dT _)=>True
 | some (.set _ _)=>True
 | some (.ins _ _ _)=>True
 | some (.ext _)=>True
 | _=>False
section
variable {x e:Addr}{o':HO}
theorem HOk.write(ok:HOk P w H h)(mu:Mut (H x))(he:e=x\/H e=some (.own x))(k:∀ b u,b≠e->h.get? b=some u->h'.get? b=some u)(heo:∃ u,h'.get? e=some u)
  (new:ObjOk P w (upd H x o') h' x o'):HOk P w (upd H x o') h':=fun b u q=>by
 have nown:∀ c y,H c=some (.own y)->c≠x:=fun c y r z=>by subst z;rw[r] at mu;exact mu
 have ntup:∀ c xs,H c=some (.tup xs)->c≠x:=fun c xs r z=>by subst z;rw[r] at mu;exact mu
 by_cases hb:b=x
 ·subst hb;rw[upd_same] at q;cases q;exact new
 ·rw[Ap hb] at q
  by_cases hbe:b=e
  ·have q':H b=some (.own x):=by
    rcases he with z | z
    ·exact absurd (hbe.trans z) hb
    ·rw[hbe];exact z
   rw[q] at q';cases q'
   obtain ⟨v,hv⟩:=heo
   exact ⟨v,by rw[hbe];exact hv⟩
  ·refine (ok b u q).stay (fun c v hc r=>k c v ?_ r) (fun c r=>by rw[Ap (nown c b r)];exact r) fun c xs r=>by rw[Ap (ntup c xs r)];exact r
   rcases hc with rfl | hc
   ·exact hbe
   ·rintro rfl
    rcases he with z | z
    ·exact nown c b hc z
    ·rw[hc] at z;cases z;exact hb rfl
end
structure Un(fs ex:List Addr)(H H':Hp)(h h':Heap):Prop where
 keep:∀ b o,h.get? b=some o->H b=none->b∉fs->b∉ex->h'.get? b=some o
 slot:∀ b o,h.get? b=some o->H b=none->b∈fs->b∉ex->∃ sl,h'.get? b=some { o with slots:=sl }
 free:∀ b o,h.get? b=some o->H b=none->b∉ex->H' b=none
 there:∀ b o,h.get? b=some o->b∉ex->∃ o',h'.get? b=some o'
 tups:∀ b xs,H b=some (.tup xs)->H' b=some (.tup xs)
 frzs:∀ b o u,H b=some (.frz o u)->H' b=some (.frz o u)
 tbls:∀ b ps,H b=some (.tbl ps)->∃ more,H' b=some (.tbl (ps++more))
section
variable {fs fs' ex ex':List Addr}{H1 H2:Hp}{h1 h2:Heap}{x e:Addr}
theorem Un.any(u:Un fs ex H H1 h h1){ob:Obj}(q:h.get? b=some ob)(n:H b=none)(hx:b∉ex):∃ sl,h1.get? b=some { ob with slots:=sl }:=by
 by_cases hb:b∈fs
 ·exact u.slot b ob q n hb hx
 ·exact ⟨ob.slots,u.keep b ob q n hb hx⟩
theorem Un.trans(a:Un fs ex H H1 h h1)(b:Un fs ex H1 H2 h1 h2):Un fs ex H H2 h h2 where
 keep:=fun c ob q n hc hx=>b.keep c ob (a.keep c ob q n hc hx) (a.free c ob q n hx) hc hx
 slot:=fun c ob q n hc hx=>by
  obtain ⟨sl,e1⟩:=a.slot c ob q n hc hx
  obtain ⟨sl',e2⟩:=b.slot c _ e1 (a.free c ob q n hx) hc hx
  exact ⟨sl',e2⟩
 free:=fun c ob q n hx=>by
  obtain ⟨o',e1⟩:=a.there c ob q hx
  exact b.free c o' e1 (a.free c ob q n hx) hx
 there:=fun c ob q hx=>by
  obtain ⟨o',e1⟩:=a.there c ob q hx
  exact b.there c o' e1 hx
 tups:=fun c xs q=>b.tups c xs (a.tups c xs q)
 frzs:=fun c ob xs q=>b.frzs c ob xs (a.frzs c ob xs q)
 tbls:=fun c ps q=>by
  obtain ⟨m1,e1⟩:=a.tbls c ps q
  obtain ⟨m2,e2⟩:=b.tbls c _ e1
  exact ⟨m1++m2,by rw[e2,pI]⟩
theorem Un.kept(k:∀ b u,h.get? b=some u->h'.get? b=some u):Un fs ex H H h h':=
 ⟨fun b ob q _ _ _=>k b ob q,fun b ob q _ _ _=>⟨ob.slots,k b ob q⟩,fun _ _ _ n _=>n,fun b ob q _=>⟨ob,k b ob q⟩,fun _ _ q=>q,fun _ _ _ q=>q,fun _ ps q=>⟨#[],by rw[q];simp⟩⟩
theorem Un.refl:Un fs ex H H h h:=Un.kept fun _ _ q=>q
theorem Un.laid(k:∀ b u,h.get? b=some u->h'.get? b=some u)(hp:h.objs.size<=a)(hn:H a=none):Un fs ex H (upd H a o) h h' where
 keep:=fun b u q _ _ _=>k b u q
 slot:=fun b u q _ _ _=>⟨u.slots,k b u q⟩
 free:=fun b u q n _=>by rw[Ap (cC (bD (bF q) hp))];exact n
 there:=fun b u q _=>⟨u,k b u q⟩
 tups:=fun b xs q=>by rw[Ap (Bc q hn)];exact q
 frzs:=fun b u xs q=>by rw[Ap (Bc q hn)];exact q
 tbls:=fun b ps q=>⟨#[],by rw[Ap (Bc q hn),q];simp⟩
theorem Un.write(mu:Mut (H x))(he:e=x\/H e=some (.own x))(k:∀ b u,b≠e->h.get? b=some u->h'.get? b=some u)(heo:∃ u,h'.get? e=some u):Un fs ex H (upd H x o) h h':=by
 have hx:∀ b,H b=none->b≠x:=fun b n z=>by subst z;rw[n] at mu;exact mu
 have hb:∀ b,H b=none->b≠e:=fun b n z=>by
  subst z
  rcases he with r | r
  ·exact hx b n r
  ·rw[n] at r;cases r
 have hm:∀ b u,H b=some u->¬ Mut (some u)->b≠x:=fun b u q nm z=>by subst z;rw[q] at mu;exact nm mu
 refine ⟨fun b u q n _ _=>k b u (hb b n) q,fun b u q n _ _=>⟨u.slots,k b u (hb b n) q⟩,fun b u q n _=>by rw[Ap (hx b n)];exact n,fun b u q _=>?_,
  fun b xs q=>by rw[Ap (hm b _ q fun z=>z)];exact q,fun b u xs q=>by rw[Ap (hm b _ q fun z=>z)];exact q,fun b ps q=>⟨#[],by rw[Ap (hm b _ q fun z=>z),q];simp⟩⟩
 by_cases hbe:b=e
 ·subst hbe;exact heo
 ·exact ⟨u,k b u hbe q⟩
theorem Un.mono(u:Un fs ex H H1 h h1)(hs:∀ b∈fs,b∈fs')(hx:∀ b∈ex,b∈ex'):Un fs' ex' H H1 h h1:=
 ⟨fun b ob q n hb he=>u.keep b ob q n (fun z=>hb (hs b z)) fun z=>he (hx b z),fun _ _ q n _ he=>u.any q n fun z=>he (hx _ z),fun b ob q n he=>u.free b ob q n fun z=>he (hx b z),fun b ob q he=>u.there b ob q fun z=>he (hx b z),u.tups,u.frzs,u.tbls⟩
end
noncomputable def trk(h:Heap)(H:Hp):List Addr:=(aO h.objs.size).filter fun a=>(H a).isSome
noncomputable def Ta(h:Heap)(H:Hp):Heap:=PySem.W.hideAll h (trk h H)
theorem Ach(h:Heap)(H:Hp):(Ta h H).objs.size=h.objs.size:=PySem.W.hideAll_size _ _
theorem Afz{o:Obj}(e:h.get? b=some o)(n:H b=none):(Ta h H).get? b=some o:=
 PySem.W.hideAll_get _ e fun hm=>by
  have q:(H b).isSome=true:=(bT.mp hm).2
  rw[n] at q;simp at q
theorem Aj6{o:Obj}(e:(Ta h H).get? b=some o):h.get? b=some o/\H b=none:=by
 have e':h.get? b=some o:=PySem.W.of_hideAll (trk h H) e
 refine ⟨e',?_⟩
 cases q:H b with
 | none=>rfl
 | some x=>
  have hm:b∈trk h H:=bT.mpr ⟨bG.mpr (bF e'),by simp[q]⟩
  have z:(Ta h H).get? b=none:=PySem.W.hideAll_none (trk h H) hm
  rw[z] at e;cases e
noncomputable def Ai7(g h:Heap)(L:Addr):List (Addr×Obj):=(aO h.objs.size).filterMap fun a=>if a=L\/(g.get? a).isSome=true then none else (h.get? a).map fun o=>(a,o)
noncomputable def rest(g h:Heap)(L d:Addr):List (Addr×Obj):=(Ai7 g h L).filter fun p=>decide (p.1≠d)
structure Mod(K:aJ)(mg:Str->Option aG)(base:Heap):Prop where
 kin:K.In base
 glob:base.Ns bJ mg
 blt:∃ mb,base.Ns lP mb/\∀ x:Str,x ≠ "__name__" -> mb x=eZ x
 nolimit:base.NoLimit
structure Cx where
 prog:cX
 w:eG
 K:aJ
 mg:Str->Option aG
 base:Heap
 A:eE
 N:List Str
 s₀:aR
 H₀:Hp
 env:Env
 outer:List Env
 stack:List Env
 ex:List Addr
 fn:Str->Bool
 calm:Bool
 pn:List (Addr×Obj)
 xe:aG->aR->Prop
noncomputable def frs(l:List Env):List Addr:=l.filterMap (·.frame)
noncomputable abbrev Cx.fs(X:Cx):List Addr:=frs X.outer
noncomputable def Vis(sc:jA)(x:Str):Prop:=sc.names.lookup x=some .local\/sc.names.lookup x=some .cell\/sc.names.lookup x=some .free
noncomputable def Loc(sc:jA)(x:Str):Prop:=sc.names.lookup x=some .local\/sc.names.lookup x=some .cell
noncomputable def Ap4(env:Env)(h:Heap)(m:Str->Option aG)(x:Str)(u:aG):Prop:=
 (env.kindOf x=some .local/\m x=some u)\/((env.kindOf x=some .cell\/env.kindOf x=some .free)/\∃ c,env.cells.lookup x=some c/\h.IsCell c (some u))
structure Cx.Ok(X:Cx):Prop where
 mod:Mod X.K X.mg X.base
 kind:X.env.scope.kind = .function
 glob:X.env.globals=bJ
 blt:X.env.builtins=lP
 above:X.s₀.heap.objs.size<=X.env.locals
 inj:∀ x y c,X.env.cells.lookup x=some c->X.env.cells.lookup y=some c->x=y
 has:∀ x,(X.env.kindOf x=some .cell\/X.env.kindOf x=some .free)->∃ c,X.env.cells.lookup x=some c
 cab:∀ x c,X.fn x=true->X.env.cells.lookup x=some c->X.s₀.heap.objs.size<=c
 hd:X.calm=true->X.A.handled=none
 frames:X.A.frames=some X.stack
 stk:X.stack=X.outer\/(X.stack=X.env::X.outer/\X.env.frame=some X.env.locals)
 exf:∀ b∈X.ex,b≠X.env.locals/\∀ x c,X.env.cells.lookup x=some c->c≠b
 bs:∀ b o,X.base.get? b=some o->X.s₀.heap.get? b=some o/\X.H₀ b=none
 bsz:X.base.objs.size<=X.s₀.heap.objs.size
 noex:∀ b o,X.base.get? b=some o->b∉X.ex
 exfs:∀ b∈X.ex,b∉X.fs
 funs:X.s₀.heap.FunFrames X.base X.outer
 frf:∀ b∈X.fs,X.H₀ b=none
structure Inv(X:Cx)(pins:List (Addr×Obj))(σ:List (Option V))(H:Hp)(s:aR):Prop where
 ok:X.Ok
 os:s.os=X.s₀.os
 bare:nJ s.gens
 base:Un X.fs X.ex X.H₀ H X.s₀.heap s.heap
 loc:∃ m,s.heap.Ns X.env.locals m/\∀ (i:Nat) (x:Str) (v:V),X.N[i]? = some x->σ[i]? = some (some v)->Vis X.env.scope x->∃ u,RelV v u/\Ap4 X.env s.heap m x u
 cell:∀ x c,X.env.cells.lookup x=some c->∃ v,s.heap.IsCell c v
 free:H X.env.locals=none
 freeC:∀ x c,X.env.cells.lookup x=some c->H c=none
 pin:∀ p∈X.pn++pins,s.heap.get? p.1=some p.2/\H p.1=none/\p.1≠X.env.locals/\p.1∉X.fs/\∀ v,p.2.data≠.cell v
 hok:HOk X.prog X.w H s.heap
 len:σ.length=X.N.length
variable {x:Str}{X:Cx}{pins:List (Addr×Obj)}{s s':aR}{t' j:Nat}{ch:List Addr}{M:Model}{A:eE}{E:aG->aR->Prop}{v:V}
section
variable {σ:List (Option V)}
theorem Cx.Ok.nofr(ok:X.Ok){o:Obj}(e:X.base.get? b=some o):b∉X.fs:=fun hb=>by
 have:=(ok.funs.mem hb).1
 rw[e] at this;cases this
theorem Inv.bs(I:Inv X pins σ H s):∀ b o,X.base.get? b=some o->s.heap.get? b=some o/\H b=none:=fun b o e=>
 ⟨I.base.keep b o (I.ok.bs b o e).1 (I.ok.bs b o e).2 (I.ok.nofr e) (I.ok.noex b o e),I.base.free b o (I.ok.bs b o e).1 (I.ok.bs b o e).2 (I.ok.noex b o e)⟩
theorem Inv.bk(I:Inv X pins σ H s):∀ b o,X.base.get? b=some o->s.heap.get? b=some o:=fun b o e=>(I.bs b o e).1
theorem Inv.mod(I:Inv X pins σ H s):Mod X.K X.mg X.base:=I.ok.mod
theorem Inv.kIn(I:Inv X pins σ H s):X.K.In s.heap:=I.ok.mod.kin.keeps I.bk
theorem Inv.nolimit(I:Inv X pins σ H s):s.heap.NoLimit:=I.ok.mod.nolimit.keeps I.bk
theorem Inv.fr(I:Inv X pins σ H s):∃ m,Fr X.base X.env.locals s.heap m:=
 let ⟨m,hn,_⟩:=I.loc
 ⟨m,hn,I.bk,cL I.ok.bsz I.ok.above⟩
theorem Inv.lt(I:Inv X pins σ H s):X.env.locals < s.heap.objs.size:=let ⟨_,hn,_⟩:=I.loc;hn.lt
theorem Inv.sz(I:Inv X pins σ H s):X.s₀.heap.objs.size<=s.heap.objs.size:=cL I.ok.above (nK I.lt)
theorem Inv.nofs(I:Inv X pins σ H s)(h:s.heap.objs.size<=a):a∉X.fs:=fun hb=>by
 obtain ⟨_,o,ho,_⟩:=I.ok.funs.mem hb
 exact absurd (bD (bF ho) (cL I.sz h)) (bZ _)
theorem Inv.cne(I:Inv X pins σ H s):∀ x c,X.env.cells.lookup x=some c->c≠X.env.locals:=fun x c e z=>by
 obtain ⟨v,o,ho,hd⟩:=I.cell x c e
 obtain ⟨m,⟨o',es,ep,ho',hd',_⟩,_⟩:=I.loc
 rw[z,ho'] at ho;cases ho;rw[hd'] at hd;cases hd
theorem Inv.funs(I:Inv X pins σ H s):s.heap.FunFrames X.base X.outer:=by
 have all:∀ (l:List Env),(∀ b∈frs l,b∈X.fs)->X.s₀.heap.FunFrames X.base l->s.heap.FunFrames X.base l:=by
  intro l
  induction l with
  | nil=>intro _ _;trivial
  | cons env r ih=>
   intro hs hl
   obtain ⟨hk,⟨L,o,hf,hn,ho,hd⟩,hr⟩:=hl
   have hL:L∈X.fs:=hs L (by unfold frs;rw[fU,hf];exact aT)
   obtain ⟨sl,e⟩:=I.base.slot L o ho (I.ok.frf L hL) hL fun z=>I.ok.exfs L z hL
   exact ⟨hk,⟨L,_,hf,hn,e,hd⟩,ih (fun b hb=>hs b (by unfold frs;rw[fU,hf];exact aK _ hb)) hr⟩
 exact all X.outer (fun _ hb=>hb) I.ok.funs
theorem Inv.stack(I:Inv X pins σ H s):s.heap.FunFrames X.base X.stack:=by
 rcases I.ok.stk with e | ⟨e,hf⟩
 ·rw[e];exact I.funs
 ·rw[e]
  obtain ⟨m,hn,_⟩:=I.loc
  refine .cons (by rw[I.ok.kind];decide) hf hn ?_ I.funs
  exact Heap.get?_none_of_le (cL I.ok.bsz I.ok.above)
theorem Inv.stkSub(I:Inv X pins σ H s):∀ b∈frs X.stack,b∈X.env.locals::X.fs:=fun b hb=>by
 rcases I.ok.stk with e | ⟨e,hf⟩
 ·rw[e] at hb;exact aK _ hb
 ·rw[e] at hb
  unfold frs at hb
  rw[fU,hf] at hb
  exact hb
theorem Inv.stkFree(I:Inv X pins σ H s):∀ b∈frs X.stack,H b=none:=fun b hb=>by
 rcases bH.mp (I.stkSub b hb) with e | hb
 ·rw[e];exact I.free
 ·obtain ⟨_,o,ho,_⟩:=I.ok.funs.mem hb
  exact I.base.free b o ho (I.ok.frf b hb) fun z=>I.ok.exfs b z hb
theorem Inv.step{g':Array oQ}{d':Drawn}(I:Inv X pins σ H s)
  (hch:∀ b∈ch,(b∈X.ex\/X.s₀.heap.objs.size<=b)/\b≠X.env.locals/\(∀ x c,X.env.cells.lookup x=some c->c≠b)/\∀ p∈X.pn++pins,p.1≠b)
  (keep:∀ b o,b≠X.env.locals->b∉X.fs->b∉ch->s.heap.get? b=some o->H b=none->h'.get? b=some o)
  (slot:∀ b o,b≠X.env.locals->b∈X.fs->b∉ch->s.heap.get? b=some o->H b=none->∃ sl,h'.get? b=some { o with slots:=sl }) (free:∀ b o,b∉ch->s.heap.get? b=some o->H b=none->H' b=none)
  (there:∀ b o,b∉ch->s.heap.get? b=some o->∃ o',h'.get? b=some o')
  (tups:∀ b xs,H b=some (.tup xs)->H' b=some (.tup xs)) (frzs:∀ b o u,H b=some (.frz o u)->H' b=some (.frz o u)) (tbls:∀ b ps,H b=some (.tbl ps)->∃ more,H' b=some (.tbl (ps++more)))
  (ns:∀ m,s.heap.Ns X.env.locals m->h'.Ns X.env.locals m) (hok:HOk X.prog X.w H' h') (hg:nJ g') :
  Inv X pins σ H' { s with heap:=h',gens:=g',drawn:=d',toks:=t' }:=by
 have neL:∀ b o,X.s₀.heap.get? b=some o->b≠X.env.locals:=fun b o e=>cC (bD (bF e) I.ok.above)
 have neC:∀ b o,X.s₀.heap.get? b=some o->b∉X.ex->b∉ch:=fun b o e hx hb=>by
  rcases (hch b hb).1 with z | z
  ·exact hx z
  ·exact absurd (bD (bF e) z) (bZ _)
 have cellK:∀ x c,X.env.cells.lookup x=some c->∀ v,s.heap.IsCell c v->h'.IsCell c v:=fun x c e v zz=>by
  obtain ⟨o,ho,hd⟩:=zz
  have nch:c∉ch:=fun z=>(hch c z).2.2.1 x c e rfl
  by_cases hc:c∈X.fs
  ·obtain ⟨sl,q⟩:=slot c o (I.cne x c e) hc nch ho (I.freeC x c e)
   exact ⟨_,q,hd⟩
  ·exact ⟨o,keep c o (I.cne x c e) hc nch ho (I.freeC x c e),hd⟩
 refine ⟨I.ok,I.os,hg,⟨fun b o e n hb hx=>?_,fun b o e n hb hx=>?_,fun b o e n hx=>?_,fun b o e hx=>?_,fun b xs e=>tups b xs (I.base.tups b xs e),fun b o xs e=>frzs b o xs (I.base.frzs b o xs e),fun b ps e=>?_⟩,?_,fun x c e=>?_,?_,fun x c e=>?_,fun p hp=>?_,hok,I.len⟩
 ·exact keep b o (neL b o e) hb (neC b o e hx) (I.base.keep b o e n hb hx) (I.base.free b o e n hx)
 ·obtain ⟨sl,e1⟩:=I.base.slot b o e n hb hx
  obtain ⟨sl',e2⟩:=slot b _ (neL b o e) hb (neC b o e hx) e1 (I.base.free b o e n hx)
  exact ⟨sl',e2⟩
 ·obtain ⟨o',e1⟩:=I.base.there b o e hx
  exact free b o' (neC b o e hx) e1 (I.base.free b o e n hx)
 ·obtain ⟨o',e1⟩:=I.base.there b o e hx
  exact there b o' (neC b o e hx) e1
 ·obtain ⟨m1,e1⟩:=I.base.tbls b ps e
  obtain ⟨m2,e2⟩:=tbls b _ e1
  exact ⟨m1++m2,by rw[e2,pI]⟩
 ·obtain ⟨m,hn,hl⟩:=I.loc
  refine ⟨m,ns m hn,fun i x v e1 e2 e3=>?_⟩
  obtain ⟨u,r,l⟩:=hl i x v e1 e2 e3
  refine ⟨u,r,?_⟩
  rcases l with l | ⟨k,c,e,z⟩
  ·exact .inl l
  ·exact .inr ⟨k,c,e,cellK x c e _ z⟩
 ·obtain ⟨v,z⟩:=I.cell x c e
  exact ⟨v,cellK x c e v z⟩
 ·obtain ⟨m,⟨o,_,_,ho,_⟩,_⟩:=I.loc
  exact free _ o (fun z=>(hch _ z).2.1 rfl) ho I.free
 ·obtain ⟨v,o,ho,hd⟩:=I.cell x c e
  exact free c o (fun z=>(hch c z).2.2.1 x c e rfl) ho (I.freeC x c e)
 ·obtain ⟨e,n,ne,nf,d⟩:=I.pin p hp
  have nch:p.1∉ch:=fun z=>(hch p.1 z).2.2.2 p hp rfl
  exact ⟨keep p.1 p.2 ne nf nch e n,free p.1 p.2 nch e n,ne,nf,d⟩
theorem Inv.un(I:Inv X pins σ H s)(u:Un X.fs [] H H' s.heap h')(hok:HOk X.prog X.w H' h'):Inv X pins σ H' { s with heap:=h',toks:=t' }:=by
 obtain ⟨m,⟨o,es,ep,ho,r⟩,_⟩:=id I.loc
 obtain ⟨sl,hL⟩:=u.any ho I.free (by simp)
 exact I.step (g':=s.gens) (d':=s.drawn) (ch:=[]) (fun _ z=>nomatch z) (fun b o _ hb _ e n=>u.keep b o e n hb (by simp)) (fun b o _ hb _ e n=>u.slot b o e n hb (by simp)) (fun b o _ e n=>u.free b o e n (by simp)) (fun b o _ e=>u.there b o e (by simp)) u.tups u.frzs u.tbls (fun m' hm=>by
  obtain ⟨o',es',ep',ho',r'⟩:=hm
  rw[ho] at ho';cases ho'
  exact ⟨_,es',ep',hL,r'⟩) hok I.bare
theorem Inv.call{g':Array oQ}{d':Drawn}(I:Inv X pins σ H s)(u:Un (frs X.stack) ch H H' s.heap h')(hok:HOk X.prog X.w H' h')(hg:nJ g')
  (hch:∀ b∈ch,(b∈X.ex\/X.s₀.heap.objs.size<=b)/\b≠X.env.locals/\(∀ x c,X.env.cells.lookup x=some c->c≠b)/\∀ p∈X.pn++pins,p.1≠b) :
  Inv X pins σ H' { s with heap:=h',gens:=g',drawn:=d',toks:=t' }:=by
 obtain ⟨m,⟨o,es,ep,ho,r⟩,_⟩:=id I.loc
 obtain ⟨sl,hL⟩:=u.any ho I.free fun z=>(hch _ z).2.1 rfl
 exact I.step (ch:=ch) hch (fun b o hL hb hc e n=>u.keep b o e n (fun z=>(bH.mp (I.stkSub b z)).elim hL hb) hc) (fun b o _ _ hc e n=>u.any e n hc) (fun b o hc e n=>u.free b o e n hc) (fun b o hc e=>u.there b o e hc) u.tups u.frzs u.tbls (fun m' hm=>by
  obtain ⟨o',es',ep',ho',r'⟩:=hm
  rw[ho] at ho';cases ho'
  exact ⟨_,es',ep',hL,r'⟩) hok hg
theorem Inv.turned{it:Addr}(I:Inv X pins σ H s)(k:∀ b o,b≠it->s.heap.get? b=some o->h'.get? b=some o)(hn:H it=none)(hL:it≠X.env.locals)
  (h1:it∈X.ex\/X.s₀.heap.objs.size<=it) (h2:∀ x c,X.env.cells.lookup x=some c->c≠it) (h3:∀ p∈X.pn++pins,p.1≠it):Inv X pins σ H { s with heap:=h',toks:=t' }:=by
 have nit:∀ b u,H b=some u->b≠it:=fun b u e z=>by rw[z,hn] at e;cases e
 refine I.step (g':=s.gens) (d':=s.drawn) (ch:=[it]) (fun b hb=>?_) (fun b o _ _ hc e _=>k b o (fun z=>hc (by simp[z])) e) (fun b o _ _ hc e _=>⟨o.slots,k b o (fun z=>hc (by simp[z])) e⟩) (fun _ _ _ _ n=>n)
  (fun b o hc e=>⟨o,k b o (fun z=>hc (by simp[z])) e⟩) (fun _ _ e=>e) (fun _ _ _ e=>e) (fun b ps e=>⟨#[],by rw[e];simp⟩) (fun m hm=>?_) (fun b u e=>?_) I.bare
 ·have e:b=it:=by simpa using hb
  subst e
  exact ⟨h1,hL,h2,h3⟩
 ·obtain ⟨o,es,ep,ho,r⟩:=hm
  exact ⟨o,es,ep,k _ o (eR hL) ho,r⟩
 ·refine (I.hok b u e).stay (fun c v hc q=>k c v ?_ q) (fun _ q=>q) fun _ _ q=>q
  rcases hc with z | z
  ·rw[z];exact nit b u e
  ·exact nit c _ z
theorem Inv.tok(I:Inv X pins σ H s)(t:Nat):Inv X pins σ H { s with toks:=t }:=I.un (h':=s.heap) (t':=t) Un.refl I.hok
theorem Inv.kept(I:Inv X pins σ H s)(k:∀ b u,s.heap.get? b=some u->h'.get? b=some u):Inv X pins σ H { s with heap:=h',toks:=t' }:=I.un (Un.kept k) (I.hok.kept k)
theorem Inv.laid(I:Inv X pins σ H s)(k:∀ b u,s.heap.get? b=some u->h'.get? b=some u)(hp:s.heap.objs.size<=a)(new:ObjOk X.prog X.w (upd H a o) h' a o) :
  Inv X pins σ (upd H a o) { s with heap:=h',toks:=t' }:=I.un (Un.laid k hp (I.hok.fresh hp)) (I.hok.laid k hp new)
theorem Inv.write{x e:Addr}(I:Inv X pins σ H s)(mu:Mut (H x))(he:e=x\/H e=some (.own x))(k:∀ b u,b≠e->s.heap.get? b=some u->h'.get? b=some u)(heo:∃ u,h'.get? e=some u)
  (new:ObjOk X.prog X.w (upd H x o) h' x o):Inv X pins σ (upd H x o) { s with heap:=h',toks:=t' }:=I.un (Un.write mu he k heo) (I.hok.write mu he k heo new)
theorem Inv.pins_of{pins':List (Addr×Obj)}(I:Inv X pins σ H s)(h:∀ p∈pins',s.heap.get? p.1=some p.2/\H p.1=none/\p.1≠X.env.locals/\p.1∉X.fs/\∀ v,p.2.data≠.cell v):Inv X pins' σ H s:=
 ⟨I.ok,I.os,I.bare,I.base,I.loc,I.cell,I.free,I.freeC,fun p hp=>(cR.mp hp).elim (fun z=>I.pin p (cO _ z)) (h p),I.hok,I.len⟩
theorem V6{N:List Str}(hN:N.Nodup)(a:N[i]? = some x)(b:N[j]? = some x):i=j:=by
 obtain ⟨h1,e1⟩:=aF.mp a
 obtain ⟨h2,e2⟩:=aF.mp b
 exact (List.getElem_inj hN).mp (e1.trans e2.symm)
theorem Ad2{Q:Unit->aR->Prop}(I:Inv X pins σ H s)(hN:X.N.Nodup)(hi:X.N[i]? = some x)(hx:Loc X.env.scope x)(r:RelV v u)
  (h:∀ s',Inv X pins (σ.set i (some v)) H s'->(∃ a,lJ a s.heap s'.heap/\(a=X.env.locals\/X.env.cells.lookup x=some a))->Q () s') (hf:X.fn x=true\/X.env.scope.names.lookup x=some .local:=by first | exact .inl rfl | exact .inr rfl | assumption):wpAny M A (storeName X.env x u) Q E s:=by
 obtain ⟨m,hn,hl⟩:=id I.loc
 have hcls:(X.env.scope.kind == .class || (X.env.scope.kind == .module&&X.env.locals != X.env.globals))=false:=by rw[I.ok.kind];rfl
 have hiσ:i < σ.length:=by rw[I.len];exact (aF.mp hi).1
 have cne:=I.cne
 have tracked:∀ {a:Addr} {h':Heap},(∃ o,s.heap.get? a=some o/\H a=none)->lJ a s.heap h'->HOk X.prog X.w H h':=fun {a h'} ha hs b ob e=>by
  obtain ⟨_,_,hfree⟩:=ha
  refine (I.hok b ob e).stay (fun c w' hc q=>(hs.2 c ?_).trans q) (fun _ q=>q) fun _ _ q=>q
  rintro rfl
  rcases hc with rfl | hc
  ·rw[hfree] at e;cases e
  ·rw[hfree] at hc;cases hc
 rcases hx with hk | hk
 ·refine wpAny_storeName_local hk hn (fun h' hn' hs=>?_) hcls
  obtain ⟨oL,_,_,hoL,_⟩:=id hn
  refine h _ ⟨I.ok,I.os,I.bare,⟨fun b o e n hb hx=>?_,fun b o e n hb hx=>?_,I.base.free,fun b o e hx=>?_,I.base.tups,I.base.frzs,I.base.tbls⟩,⟨_,hn',fun j y v' e1 e2 e3=>?_⟩,fun y c e=>?_,I.free,I.freeC,fun p hp=>?_,tracked ⟨oL,hoL,I.free⟩ hs,by simpa using I.len⟩ ⟨_,hs,.inl rfl⟩
  ·exact (hs.2 b (cC (bD (bF e) I.ok.above))).trans (I.base.keep b o e n hb hx)
  ·obtain ⟨sl,e1⟩:=I.base.slot b o e n hb hx
   exact ⟨sl,(hs.2 b (cC (bD (bF e) I.ok.above))).trans e1⟩
  ·obtain ⟨o',e1⟩:=I.base.there b o e hx
   exact ⟨o',(hs.2 b (cC (bD (bF e) I.ok.above))).trans e1⟩
  ·by_cases hj:j=i
   ·subst hj
    rw[hi] at e1;cases e1
    rw[bM hiσ] at e2
    cases e2
    exact ⟨u,r,.inl ⟨hk,by simp⟩⟩
   ·rw[bL (eR hj)] at e2
    obtain ⟨u',r',q⟩:=hl j y v' e1 e2 e3
    refine ⟨u',r',?_⟩
    rcases q with ⟨k,e⟩ | ⟨k,c,e,z⟩
    ·refine .inl ⟨k,?_⟩
     have:y≠x:=fun e=>hj (V6 hN e1 (e ▸ hi))
     simp[this,e]
    ·exact .inr ⟨k,c,e,z.sameBut hs (cne y c e)⟩
  ·obtain ⟨w',z⟩:=I.cell y c e
   exact ⟨w',z.sameBut hs (cne y c e)⟩
  ·obtain ⟨e,n,ne,nf,d⟩:=I.pin p hp
   exact ⟨(hs.2 p.1 ne).trans e,n,ne,nf,d⟩
 ·have hfn:X.fn x=true:=by
   rcases hf with z | z
   ·exact z
   ·rw[z] at hk;cases hk
  obtain ⟨c,hc⟩:=I.ok.has x (.inl hk)
  obtain ⟨w',z⟩:=I.cell x c hc
  refine wpAny_storeName_cell I.ok.kind hk hc z (fun h' hc' hs=>?_)
  obtain ⟨oc,hoc,hocd⟩:=id z
  refine h { s with heap:=h' } ⟨I.ok,I.os,I.bare,⟨fun b o e n hb hx=>?_,fun b o e n hb hx=>?_,I.base.free,fun b o e hx=>?_,I.base.tups,I.base.frzs,I.base.tbls⟩,⟨m,hn.sameBut hs (eR (cne x c hc)),fun j y v' e1 e2 e3=>?_⟩,fun y c' e=>?_,I.free,I.freeC,fun p hp=>?_,tracked ⟨oc,hoc,I.freeC x c hc⟩ hs,by simpa using I.len⟩ ⟨c,hs,.inr hc⟩
  ·exact (hs.2 b (cC (bD (bF e) (I.ok.cab x c hfn hc)))).trans (I.base.keep b o e n hb hx)
  ·obtain ⟨sl,e1⟩:=I.base.slot b o e n hb hx
   exact ⟨sl,(hs.2 b (cC (bD (bF e) (I.ok.cab x c hfn hc)))).trans e1⟩
  ·obtain ⟨o',e1⟩:=I.base.there b o e hx
   exact ⟨o',(hs.2 b (cC (bD (bF e) (I.ok.cab x c hfn hc)))).trans e1⟩
  ·by_cases hj:j=i
   ·subst hj
    rw[hi] at e1;cases e1
    rw[bM hiσ] at e2
    cases e2
    exact ⟨u,r,.inr ⟨.inl hk,c,hc,hc'⟩⟩
   ·rw[bL (eR hj)] at e2
    obtain ⟨u',r',q⟩:=hl j y v' e1 e2 e3
    refine ⟨u',r',?_⟩
    rcases q with q | ⟨k,c',e,z'⟩
    ·exact .inl q
    ·refine .inr ⟨k,c',e,z'.sameBut hs ?_⟩
     rintro rfl
     exact hj (V6 hN e1 (I.ok.inj _ _ _ e hc ▸ hi))
  ·by_cases hcc:c'=c
   ·subst hcc;exact ⟨_,hc'⟩
   ·obtain ⟨w2,z2⟩:=I.cell y c' e
    exact ⟨w2,z2.sameBut hs hcc⟩
  ·obtain ⟨e,n,ne,nf,d⟩:=I.pin p hp
   refine ⟨(hs.2 p.1 ?_).trans e,n,ne,nf,d⟩
   intro q
   rw[q,hoc] at e
   have q':oc=p.2:=bS e
   exact d w' (by rw[<- q'];exact hocd)
theorem W0{Q:Unit->aR->Prop}(I:Inv X pins σ H s)(hN:X.N.Nodup)(hi:X.N[i]? = some x)(hx:Loc X.env.scope x)(r:RelV v u)
  (h:∀ s',Inv X pins (σ.set i (some v)) H s'->Q () s') (hf:X.fn x=true\/X.env.scope.names.lookup x=some .local:=by first | exact .inl rfl | exact .inr rfl | assumption):wpAny M A (storeName X.env x u) Q E s:=
 Ad2 I hN hi hx r (fun s' I' _=>h s' I') hf
theorem Inv.call'(I:Inv X pins σ H s)(ho:s'.os=s.os)(u:Un (frs X.stack) ch H H' s.heap s'.heap)(hok:HOk X.prog X.w H' s'.heap)(hg:nJ s'.gens)
  (hch:∀ b∈ch,(b∈X.ex\/X.s₀.heap.objs.size<=b)/\b≠X.env.locals/\(∀ x c,X.env.cells.lookup x=some c->c≠b)/\∀ p∈X.pn++pins,p.1≠b):Inv X pins σ H' s':=by
 obtain ⟨h',g',d',t',o'⟩:=s'
 have e:o'=s.os:=ho
 subst e
 exact I.call (g':=g') (t':=t') (d':=d') u hok hg hch
end
abbrev XK:=aG->Option Addr->Hp->Prop
abbrev St:=List (Option V)
abbrev VK:=V->Hp->Prop
abbrev TE:=St->Hp->VK->Prop
abbrev TT:=St->Hp->(Bool->Hp->Prop)->Prop
abbrev TA:=St->Hp->(List V->Hp->Prop)->Prop
structure Ends where
 nx:St->Hp->Prop
 rt:VK
 bk:St->Hp->Prop:=fun _ _=>False
 ct:St->Hp->Prop:=fun _ _=>False
abbrev TS:=Ends->St->Hp->Prop
inductive EP(X:Cx)(pins:List (Addr×Obj))(σ:St)(Q:VK)(u:aG)(s':aR):Prop
 | mk (v:V) (H':Hp) (I:Inv X pins σ H' s') (r:RelV v u) (q:Q v H'):EP X pins σ Q u s'
inductive TP(X:Cx)(pins:List (Addr×Obj))(σ:St)(Q:Bool->Hp->Prop)(b:Bool)(s':aR):Prop
 | mk (H':Hp) (I:Inv X pins σ H' s') (q:Q b H'):TP X pins σ Q b s'
inductive AP(X:Cx)(pins:List (Addr×Obj))(σ:St)(Q:List V->Hp->Prop)(us:List aG)(s':aR):Prop
 | mk (vs:List V) (H':Hp) (I:Inv X pins σ H' s') (r:Vals vs us) (q:Q vs H'):AP X pins σ Q us s'
variable {σ:St}{Q:VK}
theorem EP.elim{C:Prop}(h:EP X pins σ Q u s')(k:∀ v H',Inv X pins σ H' s'->RelV v u->Q v H'->C):C:=h.rec k
theorem AP.elim{Q:List V->Hp->Prop}{C:Prop}(h:AP X pins σ Q us s')(k:∀ vs H',Inv X pins σ H' s'->Vals vs us->Q vs H'->C):C:=h.rec k
noncomputable def SP(X:Cx)(pins:List (Addr×Obj))(D:Ends)(f:Flow)(s':aR):Prop:=
 match f with
 | .next=>∃ σ' H',Inv X pins σ' H' s'/\D.nx σ' H'
 | .brk=>∃ σ' H',Inv X pins σ' H' s'/\D.bk σ' H'
 | .cont=>∃ σ' H',Inv X pins σ' H' s'/\D.ct σ' H'
 | .ret u=>∃ v σ' H',Inv X pins σ' H' s'/\RelV v u/\D.rt v H'
noncomputable def PE(X:Cx)(e:Expr)(t:TE):Prop:=
 ∀ (pins:List (Addr×Obj)) (s:aR) (σ:St) (H:Hp) (Q:VK),Inv X pins σ H s->t σ H Q->wpAny (model X.prog X.w) X.A (eval e X.env) (EP X pins σ Q) X.xe s
noncomputable def PT(X:Cx)(e:Expr)(t:TT):Prop:=
 ∀ (pins:List (Addr×Obj)) (s:aR) (σ:St) (H:Hp) (Q:Bool->Hp->Prop),Inv X pins σ H s->t σ H Q->wpAny (model X.prog X.w) X.A (isTrue e X.env (eval e X.env)) (TP X pins σ Q) X.xe s
noncomputable def PW(X:Cx)(e:Expr)(t:TT):Prop:=
 ∀ (whole:Sem aG) (pins:List (Addr×Obj)) (s:aR) (σ:St) (H:Hp) (Q:Bool->Hp->Prop),Inv X pins σ H s->t σ H Q->wpAny (model X.prog X.w) X.A (isTrue e X.env whole) (TP X pins σ Q) X.xe s
variable {e:Expr}
theorem PW.pt{t:TT}(h:PW X e t):PT X e t:=h _
noncomputable def PA(X:Cx)(es:List Expr)(t:TA):Prop:=
 ∀ (pos:Pos) (pins:List (Addr×Obj)) (s:aR) (σ:St) (H:Hp) (Q:List V->Hp->Prop),Inv X pins σ H s->t σ H Q->wpAny (model X.prog X.w) X.A (spliced (backTo pos (bQ es X.env))) (AP X pins σ Q) X.xe s
noncomputable def PS(X:Cx)(st:Stmt)(t:TS):Prop:=
 ∀ (pins:List (Addr×Obj)) (s:aR) (σ:St) (H:Hp) (D:Ends),Inv X pins σ H s->t D σ H->wpAny (model X.prog X.w) X.A (exec st X.env) (SP X pins D) X.xe s
noncomputable def PSs(X:Cx)(st:List Stmt)(t:TS):Prop:=
 ∀ (pins:List (Addr×Obj)) (s:aR) (σ:St) (H:Hp) (D:Ends),Inv X pins σ H s->t D σ H->wpAny (model X.prog X.w) X.A (execs st X.env) (SP X pins D) X.xe s
theorem thn{α:Type}{t:Sem α}{Q Q':α->aR->Prop}(h:wpAny M A t Q E s)(hQ:∀ a s,Q a s->Q' a s):wpAny M A t Q' E s:=dN h hQ fun _ _ x=>x
variable {pos:Pos}{ta tb:TE}
section
noncomputable def Aqb(i:Nat):TE:=fun σ H Q=>∃ v,σ[i]? = some (some v)/\Q v H
noncomputable def tC(v:V):TE:=fun _ H Q=>Q v H
theorem Alx(hN:X.N[i]? = some x)(hv:Vis X.env.scope x)(hd:(x == ("__debug__" : Str))=false:=by decide)(hcd:(x == ("__classdict__" : Str))=false:=by decide):PE X (.Name x pos) (Aqb i):=by
 intro pins s σ H Q I h
 obtain ⟨v,e,h⟩:=h
 obtain ⟨m,hn,hl⟩:=I.loc
 obtain ⟨u,r,l⟩:=hl i x v hN e hv
 have fin:EP X pins σ Q u s:=⟨v,H,I,r,h⟩
 rcases l with ⟨hk,hm⟩ | ⟨hk,c,hc,hcell⟩
 ·exact sD (wpAny_loadName_local I.ok.kind hk hn hm fin) hd
 ·rcases hk with hk | hk
  ·exact sD (wpAny_loadName_cell I.ok.kind hk hc hcell fin) hd
  ·exact sD (wpAny_loadName_free I.ok.kind hk hc hcell fin hcd) hd
theorem Anj{i j pos}:PE X (.Constant (.int i) j pos) (tC (.int i)):=fun _ _ _ H _ I h=>wpAny_Constant_int ⟨.int i,H,I.tok _,⟨_,rfl⟩,h⟩
theorem Akl{b j pos}:PE X (.Constant (.bool b) j pos) (tC (.bl b)):=fun _ _ _ H _ I h=>Constant_bool ⟨.bl b,H,I,rfl,h⟩
theorem Amx{j pos}:PE X (.Constant .none j pos) (tC .non):=fun _ _ _ H _ I h=>Constant_none ⟨.non,H,I,rfl,h⟩
theorem Amd{x j pos}:PE X (.Constant (.str x) j pos) (tC (.str x)):=fun _ _ _ H _ I h=>Calls.Constant_str ⟨.str x,H,I.tok _,⟨_,rfl⟩,h⟩
noncomputable def Gl(X:Cx)(x:Str):Prop:=X.env.kindOf x=some .globalImplicit
theorem Ajy{Q:aG->aR->Prop}(I:Inv X pins σ H s)(hg:Gl X x)(hm:X.mg x=some u)(h:Q u s)
  (hd:(x == ("__debug__" : Str))=false:=by decide):wpAny (model X.prog X.w) X.A (eval (.Name x pos) X.env) Q E s:=
 lQ I.ok.kind hg (Calls.loadGlobal_global (by rw[I.ok.glob];exact I.mod.glob.keeps I.bk) hm h) hd
theorem Fq{Q:aG->aR->Prop}(I:Inv X pins σ H s)(hg:Gl X x)(hm:X.mg x=none)(hv:eZ x=some u)(h:Q u s)
  (hn:x ≠ "__name__" := by decide) (hd:(x == ("__debug__" : Str))=false:=by decide):wpAny (model X.prog X.w) X.A (eval (.Name x pos) X.env) Q E s:=by
 obtain ⟨mb,h1,h2⟩:=I.mod.blt
 exact lQ I.ok.kind hg (Calls.loadGlobal_builtin (by rw[I.ok.glob];exact I.mod.glob.keeps I.bk) hm (by rw[I.ok.blt];exact h1.keeps I.bk) ((h2 x hn).trans hv) h) hd
theorem Aii(hg:Gl X x)(hm:X.mg x=none)(hv:eZ x=some u)(r:RelV v u)(hn:x ≠ "__name__" := by decide)(hd:(x == ("__debug__" : Str))=false:=by decide):PE X (.Name x pos) (tC v):=
 fun _ _ _ H _ I h=>Fq I hg hm hv ⟨v,H,I,r,h⟩ hn hd
variable {a b:Expr}
variable {tA tB':TT}{rest:List Expr}
noncomputable def Apx(t u:TT):TT:=fun σ H Q=>t σ H fun c H1=>if c=true then u σ H1 Q else Q false H1
noncomputable def tOr(t u:TT):TT:=fun σ H Q=>t σ H fun c H1=>if c=true then Q true H1 else u σ H1 Q
noncomputable def Aqc(t:TT):TT:=fun σ H Q=>t σ H fun c H1=>Q (!c) H1
theorem Ai1(ha:PT X a tA):PW X (.BoolOp .And [a] pos) tA:=by
 intro wh pins s σ H Q I h
 refine isTrue_and (thn (ha pins s σ H Q I h) fun c s1 e=>?_)
 cases c with
 | true=>exact isTrue_and_nil e
 | false=>exact e
theorem Al9(ha:PT X a tA):PW X (.BoolOp .Or [a] pos) tA:=by
 intro wh pins s σ H Q I h
 refine isTrue_or (thn (ha pins s σ H Q I h) fun c s1 e=>?_)
 cases c with
 | false=>exact isTrue_or_nil e
 | true=>exact e
theorem Al5(ha:PT X a tA)(hb:PW X (.BoolOp .And (b::rest) pos) tB'):PW X (.BoolOp .And (a::b::rest) pos) (Apx tA tB'):=by
 intro wh pins s σ H Q I h
 refine isTrue_and (thn (ha pins s σ H _ I h) fun c s1 zz=>?_)
 obtain ⟨H1,I1,q1⟩:=zz
 cases c with
 | true=>exact hb wh pins s1 σ H1 Q I1 q1
 | false=>exact ⟨H1,I1,q1⟩
theorem Ao5(ha:PT X a tA)(hb:PW X (.BoolOp .Or (b::rest) pos) tB'):PW X (.BoolOp .Or (a::b::rest) pos) (tOr tA tB'):=by
 intro wh pins s σ H Q I h
 refine isTrue_or (thn (ha pins s σ H _ I h) fun c s1 zz=>?_)
 obtain ⟨H1,I1,q1⟩:=zz
 cases c with
 | true=>exact ⟨H1,I1,q1⟩
 | false=>exact hb wh pins s1 σ H1 Q I1 q1
theorem Alb(ha:PT X a tA):PT X (.UnaryOp .Not a pos) (Aqc tA):=by
 intro pins s σ H Q I h
 exact isTrue_not (thn (ha pins s σ H (fun c H1=>Q (!c) H1) I h) fun _ _ z=>z.rec fun H' I' q=>⟨H',I',q⟩)
noncomputable def Aoa(ta tb:TE):TE:=fun σ H Q=>ta σ H fun x H1=>∃ c,x = .bl c/\if c=true then tb σ H1 Q else Q (.bl false) H1
noncomputable def Aoz(ta:TE):TE:=fun σ H Q=>ta σ H fun x H1=>∃ c,x = .bl c/\Q (.bl (!c)) H1
theorem Alr{op}{t:TE}(h:PE X a t):PE X (.BoolOp op [a] pos) t:=fun pins s σ H Q I hw=>BoolOp_one (h pins s σ H Q I hw)
theorem Ak0(ha:PE X a ta)(hb:PE X (.BoolOp .And (b::rest) pos) tb):PE X (.BoolOp .And (a::b::rest) pos) (Aoa ta tb):=by
 intro pins s σ H Q I h
 refine BoolOp_and (thn (ha pins s σ H _ I h) fun v s1 zz=>?_)
 obtain ⟨x,H1,I1,r1,q1⟩:=zz
 obtain ⟨c,rfl,q1⟩:=q1
 cases r1
 refine fA ?_
 cases c with
 | true=>exact hb pins s1 σ H1 Q I1 q1
 | false=>exact ⟨.bl false,H1,I1,rfl,q1⟩
theorem Anb(ha:PE X a ta):PE X (.UnaryOp .Not a pos) (Aoz ta):=by
 intro pins s σ H Q I h
 refine UnaryOp_ (thn (ha pins s σ H _ I h) fun v s1 zz=>?_)
 obtain ⟨x,H1,I1,r1,q1⟩:=zz
 obtain ⟨c,rfl,q1⟩:=q1
 cases r1
 exact not_of (fA ⟨.bl (!c),H1,I1,rfl,q1⟩)
end
noncomputable def SqL(K:aJ)(H:Hp)(a:Addr)(xs:List V):Prop:=
 Rd H a (.lst xs) \/
  ∃ (o:Obj) (its:Array aG) (n:Nat),K.lookup a=some o/\o.cls = .type "list" /\ o.dict=none/\o.data = .seq its n/\its.size<=sizeLine/\Vals xs its.toList
noncomputable def SqT(K:aJ)(H:Hp)(a:Addr)(xs:List V):Prop:=
 Rd H a (.tup xs) \/
  ∃ (o:Obj) (its:Array aG) (n:Nat),K.lookup a=some o/\(o.cls,o.dict)=(iH "tuple",(none:Option Addr))/\o.data = .seq its n/\its.size<=sizeLine/\Vals xs its.toList
noncomputable def Aqh:aG->Option V
 | .none=>some .non
 | .bool b=>some (.bl b)
 | .int i _=>some (.int i)
 | .str x _=>some (.str x)
 | .bytes b _=>some (.byt b)
 | .float b _=>some (.flt b)
 | .ref a=>some (.ref a)
 | .type n=>some (.ty n)
 | _=>none
theorem RelV.abs{x:V}(r:RelV x u):Aqh u=some x:=by
 cases x with
 | non=>cases r;rfl
 | bl _=>cases r;rfl
 | int _=>obtain ⟨t,rfl⟩:=r;rfl
 | str _=>obtain ⟨t,rfl⟩:=r;rfl
 | byt _=>obtain ⟨t,rfl⟩:=r;rfl
 | flt _=>obtain ⟨t,rfl⟩:=r;rfl
 | ref _=>cases r;rfl
 | ty _=>cases r;rfl
theorem RelV.inj{x y:V}(r:RelV x u)(q:RelV y u):x=y:=bS (r.abs.symm.trans q.abs)
theorem Vals.inj(h:Vals xs us)(h':Vals ys us):xs=ys:=by
 induction h generalizing ys with
 | nil=>cases h';rfl
 | cons r t ih=>
  cases h' with
  | cons r' t'=>rw[r.inj r',ih t']
variable {K:aJ}
section
theorem SqL.of(h:H a=some (.lst xs)):SqL K H a xs:=.inl (.inl h)
theorem SqT.of(h:H a=some (.tup xs)):SqT K H a xs:=.inl (.inl h)
theorem Inv.list(I:Inv X pins σ H s)(h:SqL X.K H a xs):∃ its:List aG,Vals xs its/\PlainL s.heap a its.toArray/\xs.length<=sizeLine:=by
 rcases h with h | ⟨o,its,n,hk,hc,hd,hs,hz,r⟩
 ·obtain ⟨z,its,n,r,e⟩:=h.ok I.hok
  exact ⟨its,r,⟨_,n,e,rfl,rfl,rfl⟩,z⟩
 ·refine ⟨its.toList,r,⟨o,n,I.kIn a o hk,hc,hd,by simpa using hs⟩,?_⟩
  have e:=r.length
  simp only[dA] at e
  omega
theorem Inv.tupleN(I:Inv X pins σ H s)(h:SqT X.K H a xs):∃ its:List aG,Vals xs its/\TupN s.heap a its.toArray/\xs.length<=sizeLine:=by
 rcases h with h | ⟨o,its,n,hk,hc,hs,hz,r⟩
 ·obtain ⟨z,its,r,p⟩:=h.ok I.hok
  exact ⟨its,r,p,z⟩
 ·refine ⟨its.toList,r,⟨o,I.kIn a o hk,hc,n,by simpa using hs⟩,?_⟩
  have e:=r.length
  simp only[dA] at e
  omega
theorem Inv.tuple(I:Inv X pins σ H s)(h:SqT X.K H a xs):∃ its:List aG,Vals xs its/\oD s.heap a its.toArray/\xs.length<=sizeLine:=by
 obtain ⟨its,r,p,z⟩:=I.tupleN h
 exact ⟨its,r,p.is,z⟩
theorem Inv.list_inj(I:Inv X pins σ H s)(h:SqL X.K H a xs)(h':SqL X.K H a ys):xs=ys:=by
 obtain ⟨its,r,⟨o,n,e,_,_,d⟩,_⟩:=I.list h
 obtain ⟨its',r',⟨o',n',e',_,_,d'⟩,_⟩:=I.list h'
 rw[e] at e';cases e'
 rw[d] at d'
 injection d' with d1 _
 have:its=its':=by simpa using congrArg pZ d1
 subst this
 exact r.inj r'
theorem Inv.tuple_inj(I:Inv X pins σ H s)(h:SqT X.K H a xs)(h':SqT X.K H a ys):xs=ys:=by
 obtain ⟨its,r,⟨o,e,_,n,d⟩,_⟩:=I.tuple h
 obtain ⟨its',r',⟨o',e',_,n',d'⟩,_⟩:=I.tuple h'
 rw[e] at e';cases e'
 rw[d] at d'
 injection d' with d1 _
 have:its=its':=by simpa using congrArg pZ d1
 subst this
 exact r.inj r'
end
abbrev Cx.wish(X:Cx)(E:aG->aR->Prop):Cx:={ X with xe:=E }
abbrev Cx.nox(X:Cx):Cx:=X.wish fun _ _=>False
theorem Cx.Ok.wish(ok:X.Ok)(E:aG->aR->Prop):(X.wish E).Ok:=
 ⟨ok.mod,ok.kind,ok.glob,ok.blt,ok.above,ok.inj,ok.has,ok.cab,ok.hd,ok.frames,ok.stk,ok.exf,ok.bs,ok.bsz,ok.noex,ok.exfs,ok.funs,ok.frf⟩
theorem Cx.Ok.unwish(ok:(X.wish E).Ok):X.Ok:=
 ⟨ok.mod,ok.kind,ok.glob,ok.blt,ok.above,ok.inj,ok.has,ok.cab,ok.hd,ok.frames,ok.stk,ok.exf,ok.bs,ok.bsz,ok.noex,ok.exfs,ok.funs,ok.frf⟩
section
theorem Inv.wish(I:Inv X pins σ H s)(E:aG->aR->Prop):Inv (X.wish E) pins σ H s:=⟨I.ok.wish E,I.os,I.bare,I.base,I.loc,I.cell,I.free,I.freeC,I.pin,I.hok,I.len⟩
theorem Inv.unwish(I:Inv (X.wish E) pins σ H s):Inv X pins σ H s:=⟨I.ok.unwish,I.os,I.bare,I.base,I.loc,I.cell,I.free,I.freeC,I.pin,I.hok,I.len⟩
theorem SP.unwish{D:Ends}{f:Flow}(h:SP (X.wish E) pins D f s'):SP X pins D f s':=by
 cases f with
 | next=>obtain ⟨σ',H',I,q⟩:=h;exact ⟨σ',H',I.unwish,q⟩
 | brk=>obtain ⟨σ',H',I,q⟩:=h;exact ⟨σ',H',I.unwish,q⟩
 | cont=>obtain ⟨σ',H',I,q⟩:=h;exact ⟨σ',H',I.unwish,q⟩
 | ret u=>obtain ⟨v,σ',H',I,r,q⟩:=h;exact ⟨v,σ',H',I.unwish,r,q⟩
theorem PE.nox{t:TE}(h:PE X.nox e t):PE X e t:=fun pins s σ H Q I hw=>
 dN (h pins s σ H Q (I.wish _) hw) (fun _ _ zz=>by obtain ⟨v,H',I',r,q⟩:=zz;exact ⟨v,H',I'.unwish,r,q⟩) fun _ _ z=>fT z
theorem PT.nox{t:TT}(h:PT X.nox e t):PT X e t:=fun pins s σ H Q I hw=>
 dN (h pins s σ H Q (I.wish _) hw) (fun _ _ zz=>by obtain ⟨H',I',q⟩:=zz;exact ⟨H',I'.unwish,q⟩) fun _ _ z=>fT z
theorem PSs.nox{st:List Stmt}{t:TS}(h:PSs X.nox st t):PSs X st t:=fun pins s σ H D I hw=>
 dN (h pins s σ H D (I.wish _) hw) (fun _ _ q=>q.unwish) fun _ _ z=>fT z
end
variable {te:TE}{c:Expr}
section
variable {st:Stmt}{rest:List Stmt}{t u:TS}
noncomputable def Aom:TS:=fun D σ H=>D.nx σ H
noncomputable def Ap1(t u:TS):TS:=fun D σ H=>t { D with nx:=u D } σ H
theorem Ah0:PSs X [] Aom:=fun _ _ σ H _ I h=>kP ⟨σ,H,I,h⟩
theorem Aeo(h1:PS X st t)(h2:PSs X rest u):PSs X (st::rest) (Ap1 t u):=by
 intro pins s σ H D I h
 refine qU (thn (h1 pins s σ H { D with nx:=u D } I h) fun f s1 q=>?_)
 cases f with
 | next=>
  obtain ⟨σ',H',I',q⟩:=q
  exact h2 pins s1 σ' H' D I' q
 | ret v=>exact q
 | brk=>exact q
 | cont=>exact q
theorem Ahy(h1:PS X st t):PSs X [st] t:=by
 intro pins s σ H D I h
 refine qU (thn (h1 pins s σ H D I h) fun f s1 q=>?_)
 cases f with
 | next=>exact kP q
 | ret v=>exact q
 | brk=>exact q
 | cont=>exact q
theorem Inv.quiet(I:Inv X pins σ H s):interactive X.env=false:=by simp[interactive,I.ok.kind]
noncomputable def Ao3(te:TE):TS:=fun D σ H=>te σ H fun _ H1=>D.nx σ H1
theorem Aiy(he:PE X e te)(hs:swapsWith e none pos.line X.env=pure false:=by rfl):PS X (.Expr e pos) (Ao3 te):=by
 intro pins s σ H D I h
 exact wpAny_Expr_any (thn (he pins s σ H _ I h) fun v s1 zz=>by obtain ⟨x,H1,I1,r1,q1⟩:=zz;exact ⟨σ,H1,I1,q1⟩) I.quiet hs
noncomputable def Ap5(te:TE):TS:=fun D σ H=>te σ H D.rt
theorem Alc(he:PE X e te):PS X (.Return (some e) pos) (Ap5 te):=by
 intro pins s σ H D I h
 exact wpAny_Return_some (thn (he pins s σ H _ I h) fun v s1 zz=>by obtain ⟨x,H1,I1,r1,q1⟩:=zz;exact ⟨x,σ,H1,I1,r1,q1⟩)
noncomputable def Aqe(c:TT)(t u:TS):TS:=fun D σ H=>c σ H fun b H1=>if b=true then t D σ H1 else u D σ H1
theorem Apn{a b:List Stmt}{tc:TT}(hc:PT X c tc)(ha:PSs X a t)(hb:PSs X b u):PS X (.If c a b pos) (Aqe tc t u):=by
 intro pins s σ H D I h
 refine wpAny_If (thn (hc pins s σ H _ I h) fun d s1 zz=>?_)
 obtain ⟨H1,I1,q1⟩:=zz
 cases d with
 | true=>exact ha pins s1 σ H1 D I1 q1
 | false=>exact hb pins s1 σ H1 D I1 q1
end
abbrev TG:=V->St->Hp->(St->Hp->Prop)->Prop
abbrev TGs:=List V->St->Hp->(St->Hp->Prop)->Prop
noncomputable def PG(X:Cx)(target:Expr)(t:TG):Prop:=
 ∀ (pins:List (Addr×Obj)) (s:aR) (σ:St) (H:Hp) (v:V) (u:aG) (Q:St->Hp->Prop),Inv X pins σ H s->RelV v u->t v σ H Q ->
  wpAny (model X.prog X.w) X.A (assign target X.env u) (fun _ s'=>∃ σ' H',Inv X pins σ' H' s'/\Q σ' H') X.xe s
noncomputable def PGs(X:Cx)(ts:List Expr)(t:TGs):Prop:=
 ∀ (pins:List (Addr×Obj)) (s:aR) (σ:St) (H:Hp) (vs:List V) (us:List aG) (Q:St->Hp->Prop),Inv X pins σ H s->Vals vs us->t vs σ H Q ->
  wpAny (model X.prog X.w) X.A (assignInOrder ((assignEach ts X.env).map (·.2)) us) (fun _ s'=>∃ σ' H',Inv X pins σ' H' s'/\Q σ' H') X.xe s
abbrev Am1:=V->V->V->Hp->(Hp->Prop)->Prop
noncomputable def Apa(X:Cx)(t:Am1):Prop:=
 ∀ (pins:List (Addr×Obj)) (s:aR) (σ:St) (H:Hp) (o i v:V) (ov iv u:aG) (Q:Hp->Prop),Inv X pins σ H s->RelV o ov->RelV i iv->RelV v u->t o i v H Q ->
  wpAny (model X.prog X.w) X.A (setItem ov iv u) (fun _ s'=>∃ H',Inv X pins σ H' s'/\Q H') X.xe s
variable {es:List Expr}{k:Nat}{tg:Expr}
section
noncomputable def V4(i:Nat):TG:=fun v σ H Q=>Q (σ.set i (some v)) H
theorem Acb(hN:X.N.Nodup)(hi:X.N[i]? = some x)(hx:Loc X.env.scope x)(hf:X.fn x=true\/X.env.scope.names.lookup x=some .local:=by first | exact .inl rfl | exact .inr rfl | assumption):PG X (.Name x pos) (V4 i):=by
 intro pins s σ H v u Q I r h
 exact wpAny_assign_Name (W0 I hN hi hx r (fun s' I'=>⟨_,H,I',h⟩) hf)
noncomputable def gNil:TGs:=fun vs σ H Q=>vs=[]/\Q σ H
noncomputable def gCons(t:TG)(u:TGs):TGs:=fun vs σ H Q=>∃ v r,vs=v::r/\t v σ H fun σ' H'=>u r σ' H' Q
theorem Ai9:PGs X [] gNil:=by
 intro pins s σ H vs us Q I r h
 obtain ⟨e,h⟩:=h
 subst e
 cases r
 exact assignInOrder_nil ⟨σ,H,I,h⟩
theorem Ag7{t:TG}{u:TGs}(h1:PG X e t)(h2:PGs X es u)
  (hs:(assignEach (e::es) X.env).map (·.2)=assign e X.env::(assignEach es X.env).map (·.2):=by rfl):PGs X (e::es) (gCons t u):=by
 intro pins s σ H vs us Q I r h
 obtain ⟨v,vr,e1,h⟩:=h
 subst e1
 cases r with
 | cons r rr=>
  rw[hs]
  refine assignInOrder_cons (thn (h1 pins s σ H _ _ _ I r h) fun _ s1 zz=>?_)
  obtain ⟨σ1,H1,I1,q1⟩:=zz
  exact h2 pins s1 σ1 H1 _ _ Q I1 rr q1
noncomputable def gTup(K:aJ)(n:Nat)(t:TGs):TG:=fun v σ H Q=>∃ a xs,v = .ref a/\SqT K H a xs/\xs.length=n/\t xs σ H Q
theorem Am6{t:TGs}{n:Nat}(hc:X.calm=true)(h:PGs X es t)
  (hn:(assignEach es X.env).length=n:=by rfl) (hst:(assignEach es X.env).findIdx? (·.1)=none:=by rfl):PG X (.Tuple es k pos) (gTup X.K n t):=by
 intro pins s σ H v u Q I r hw
 obtain ⟨a,xs,e1,hq,hl,hw⟩:=hw
 subst e1
 cases r
 obtain ⟨its,rv,ht,hz⟩:=I.tuple hq
 refine assign_Tuple_tuple (I.ok.hd hc) ht (by simp[hn,<- hl,rv.length]) hst fun h' hx=>?_
 have I1:Inv X pins σ H { s with heap:=h' }:=I.kept (t':=s.toks) fun b o e=>hx b o (cC (bF e)) e
 exact h pins _ σ H xs _ Q I1 (by simpa using rv) hw
noncomputable def gSub(to ti:TE)(t:Am1):TG:=fun v σ H Q=>to σ H fun o H1=>ti σ H1 fun i H2=>t o i v H2 fun H3=>Q σ H3
theorem Aky{o i:Expr}{to ti:TE}{t:Am1}(ho:PE X o to)(hi:PE X i ti)(hs:Apa X t)
  (ha:∀ v,assign (.Subscript o i pos) X.env v=(do
   let ov <- holding [v] (eval o X.env)
   let iv <- holding [v,ov] (eval i X.env)
   standAt pos
   holding [v,ov,iv] (setItem ov iv v)
   release [v,ov,iv] []):=by intro _;rfl):PG X (.Subscript o i pos) (gSub to ti t):=by
 intro pins s σ H v u Q I r h
 rw[ha]
 refine aD (eY (thn (ho pins s σ H _ I h) fun ov s1 zz=>?_))
 obtain ⟨x,H1,I1,r1,q1⟩:=zz
 refine aD (eY (thn (hi pins s1 σ H1 _ I1 q1) fun iv s2 zz=>?_))
 obtain ⟨y,H2,I2,r2,q2⟩:=zz
 refine aD (mM (aD (eY (thn (hs pins s2 σ H2 x y v ov iv u _ I2 r1 r2 r q2) fun _ s3 zz=>?_))))
 obtain ⟨H3,I3,q3⟩:=zz
 exact wpAny_release ⟨σ,H3,I3,q3⟩
noncomputable def Ah1(te:TE)(g:TG):TS:=fun D σ H=>te σ H fun x H1=>g x σ H1 D.nx
theorem Al6{g:TG}(he:PE X e te)(hg:PG X tg g)(hs:swapsWithSole [tg] e pos.line X.env=pure false:=by rfl)(hw:swappedStores [tg] e X.env=pure none:=by rfl)
  (h1:(assignEach [tg] X.env).map (·.2)=[assign tg X.env]:=by rfl):PS X (.Assign [tg] e pos) (Ah1 te g):=by
 intro pins s σ H D I h
 refine wpAny_Assign_stores (thn (he pins s σ H _ I h) fun v s1 zz=>zz.elim fun x H1 I1 r1 q1=>?_) hs hw
 rw[h1]
 exact thn (hg pins s1 σ H1 x v _ I1 r1 q1) fun _ s2 q=>q
theorem Ang{pos':Pos}(hN:X.N.Nodup)(hi:X.N[i]? = some x)(hx:Loc X.env.scope x)(he:PE X e te)(hs:swapsWith e (some (.Name x pos')) pos.line X.env=pure false:=by rfl)(hf:X.fn x=true\/X.env.scope.names.lookup x=some .local:=by first | exact .inl rfl | exact .inr rfl | assumption) :
  PS X (.Assign [.Name x pos'] e pos) (Ah1 te (V4 i)):=by
 intro pins s σ H D I h
 refine wpAny_Assign_Name (thn (he pins s σ H _ I h) fun v s1 zz=>zz.elim fun y H1 I1 r1 q1=>?_) hs
 exact W0 I1 hN hi hx r1 (fun s2 I2=>⟨_,H1,I2,q1⟩) hf
end
variable {body:List Stmt}
section
noncomputable def Alk(c:TT)(tb:TS):TS:=fun D σ H=>∃ W:Nat->St->Hp->Prop,(∃ m,W m σ H)/\∀ m σ H,W m σ H ->
 c σ H fun b H1=>if b=true then ∃ N:St->Hp->Prop,(∀ σ' H',N σ' H'->∃ m',m' < m/\W m' σ' H')/\tb { D with nx:=N,ct:=N,bk:=D.nx } σ H1 else D.nx σ H1
theorem Agu{tc:TT}{tb:TS}(hp:qV (model X.prog X.w) X.A X.env X.xe)(hc:PT X c tc)(hb:PSs X body tb):PS X (.While c body [] pos) (Alk tc tb):=by
 intro pins s σ H D I h
 obtain ⟨W,⟨m0,w0⟩,turn⟩:=h
 refine wpAny_While (codeAny_whileLoop (fun n s'=>∃ σ' H',Inv X pins σ' H' s'/\W n σ' H') ?_ m0 ⟨σ,H,I,w0⟩)
 rintro n s1 ⟨σ1,H1,I1,w1⟩
 refine gX hp (thn (hc pins s1 σ1 H1 _ I1 (turn n σ1 H1 w1)) fun b s2 zz=>?_)
 obtain ⟨H2,I2,q2⟩:=zz
 cases b with
 | true=>
  obtain ⟨N,hN,q2⟩:=q2
  rw[if_pos rfl]
  refine gX hp (thn (hb pins s2 σ1 H2 _ I2 q2) fun f s3 q3=>?_)
  cases f with
  | next=>
   obtain ⟨σ3,H3,I3,n3⟩:=q3
   obtain ⟨m',hm,w3⟩:=hN σ3 H3 n3
   exact ⟨m',hm,σ3,H3,I3,w3⟩
  | cont=>
   obtain ⟨σ3,H3,I3,n3⟩:=q3
   obtain ⟨m',hm,w3⟩:=hN σ3 H3 n3
   exact ⟨m',hm,σ3,H3,I3,w3⟩
  | brk=>exact q3
  | ret v=>exact q3
 | false=>
  rw[if_neg cM]
  exact kP ⟨σ1,H2,I2,q2⟩
end
structure It where
 go:Nat->Hp->Prop
 yld:Nat->Hp->V->Hp->Prop
 stop:Nat->Hp->Prop
noncomputable def Gv(X:Cx)(pins:List (Addr×Obj))(H:Hp)(b:Addr):Prop:=
 H b=none/\b≠X.env.locals/\b∉X.fs/\(b∈X.ex\/X.s₀.heap.objs.size<=b)/\(∀ x c,X.env.cells.lookup x=some c->c≠b)/\∀ p∈X.pn++pins,p.1≠b
theorem Inv.fpOk(I:Inv X pins σ H s)(hb:s.heap.objs.size<=b)(hn:H' b=none):Gv X pins H' b:=by
 refine ⟨hn,iI (bD I.lt hb),I.nofs hb,.inr (cL I.sz hb),fun x c e z=>?_,fun p hp z=>?_⟩
 ·obtain ⟨v,q⟩:=I.cell x c e
  exact absurd (bD q.lt (by rw[z];exact hb)) (bZ _)
 ·exact absurd (bD (bF (I.pin p hp).1) (by rw[z];exact hb)) (bZ _)
structure Turn(P:cX)(w:eG)(K:aJ)(tg:Expr)(J:It)(fp:List Addr)(it:Addr)(tn:Nat->Heap->Prop):Prop where
 mem:it∈fp
 obj:∀ i h,tn i h->∀ b∈fp,∃ o,h.get? b=some o/\∀ v,o.data≠.cell v
 keep:∀ i h h',tn i h->(∀ b∈fp,∀ o,h.get? b=some o->h'.get? b=some o)->tn i h'
 item:∀ (X:Cx),X.prog=P->X.w=w->X.K=K->X.calm=true->∀ (i:Nat) (pins:List (Addr×Obj)) (s:aR) (σ:St) (H:Hp) (E:aG->aR->Prop),Inv X pins σ H s->(∀ b∈fp,Gv X pins H b)->tn i s.heap->J.go i H ->
  wpAny (model P w) X.A (pyNext (.ref it)) (fun r s1=>∃ u,r=some u /\
   wpAny (model P w) X.A (letOwnedTupleGo tg (.ref it) u) (fun _ s2=>∃ x H',Inv X pins σ H' s2/\RelV x u/\J.yld i H x H'/\tn (i+1) s2.heap/\∀ b∈fp,H' b=none) E s1) E s
 done:∀ (X:Cx),X.prog=P->X.w=w->X.K=K->X.calm=true->∀ (i:Nat) (pins:List (Addr×Obj)) (s:aR) (σ:St) (H:Hp) (E:aG->aR->Prop),Inv X pins σ H s->(∀ b∈fp,Gv X pins H b)->tn i s.heap->J.stop i H ->
  wpAny (model P w) X.A (pyNext (.ref it)) (fun r s1=>r=none/\Inv X pins σ H s1) E s
 self:∀ (A:eE) (i:Nat) (s:aR) (Q:aG->aR->Prop) (E:aG->aR->Prop),tn i s.heap->Q (.ref it) s->wpAny (model P w) A (pyIter (.ref it)) Q E s
abbrev TI:=St->Hp->(It->Hp->Prop)->Prop
noncomputable def PIE(X:Cx)(pins:List (Addr×Obj))(σ:St)(tg:Expr)(R:It->Hp->Prop)(itv:aG)(s2:aR):Prop:=
 ∃ (it:Addr) (fp:List Addr) (tn:Nat->Heap->Prop) (J:It) (H':Hp),itv = .ref it/\Inv X pins σ H' s2/\Turn X.prog X.w X.K tg J fp it tn/\tn 0 s2.heap/\(∀ b∈fp,Gv X pins H' b)/\R J H'
noncomputable def PI(X:Cx)(tg iter:Expr)(wi:TI):Prop:=
 ∀ (pins:List (Addr×Obj)) (s:aR) (σ:St) (H:Hp) (R:It->Hp->Prop),Inv X pins σ H s->wi σ H R ->
  wpAny (model X.prog X.w) X.A (eval iter X.env) (fun v s1=>wpAny (model X.prog X.w) X.A (pyIter v) (PIE X pins σ tg R) X.xe s1) X.xe s
theorem Aeu{it:Addr}{o:Obj}{n:String}{vs:Array aG}{Q:Unit->aR->Prop}(ho:s.heap.get? it=some o)(hc:o.cls = .type n)(hd:o.data = .fields vs)
  (hn:["enumerate","zip","dict_itemiterator","dict_reverseitemiterator","odict_iterator","itertools.zip_longest","itertools.pairwise"].contains n=false) (hQ:Q () s):wpAny M A (letOwnedTupleGo tg (.ref it) u) Q E s:=by
 unfold letOwnedTupleGo
 cases tg <;> first
  | exact bC hQ
  | (cases u <;> first
    | exact bC hQ
    | (refine aD (wpAny_load ho ?_)
       rw[hc,hd]
       show wpAny M A (if (["enumerate","zip","dict_itemiterator","dict_reverseitemiterator","odict_iterator","itertools.zip_longest","itertools.pairwise"].contains n&&vs[0]? == some (rawInt _))=true then _ else _) Q E s
       rw[if_neg (by intro h;rw[hn,Bool.false_and] at h;cases h)]
       exact bC hQ))
noncomputable def Itl(K:aJ)(a:Addr):It:=
 ⟨fun i H=>∃ xs x,SqL K H a xs/\xs[i]? = some x,fun i H x H'=>H'=H/\∀ xs,SqL K H a xs->xs[i]? = some x,fun i H=>∃ xs,SqL K H a xs/\xs.length<=i⟩
noncomputable def Itt(K:aJ)(a:Addr):It:=
 ⟨fun i H=>∃ xs x,SqT K H a xs/\xs[i]? = some x,fun i H x H'=>H'=H/\∀ xs,SqT K H a xs->xs[i]? = some x,fun i H=>∃ xs,SqT K H a xs/\xs.length<=i⟩
noncomputable def Itr(lo:Int)(n:Nat):It:=⟨fun i _=>i < n,fun i H x H'=>H'=H/\x = .int (lo+i),fun i _=>n<=i⟩
theorem Adl(a it:Addr):Turn P w K tg (Itl K a) [it] it (fun i h=>h.IsListIter it a i) where
 mem:=by simp
 obj:=fun i h st b hb=>by
  have e:b=it:=by simpa using hb
  subst e
  obtain ⟨o,e,c,d⟩:=st
  exact ⟨o,e,fun v z=>by rw[d] at z;cases z⟩
 keep:=fun i h h' st k=>st.at fun o e=>k it (by simp) o e
 item:=by
  intro X hP hw hK hc i pins s σ H E I hf st hg
  subst hP hw hK
  obtain ⟨xs,x,hq,hx⟩:=hg
  obtain ⟨its,rv,p,hz⟩:=I.list hq
  obtain ⟨u,hu,ru⟩:=rv.get hx
  obtain ⟨f0,f1,f2,f3,f4,f5⟩:=hf it (by simp)
  refine wpAny_pyNext_list_item st p.isList (x:=u) (by simpa using hu) fun h' st' sb=>?_
  have I1:Inv X pins σ H { s with heap:=h' }:=I.turned (t':=s.toks) (fun b o hb e=>(sb.2 b hb).trans e) f0 f1 f3 f4 f5
  obtain ⟨o,e,c,d⟩:=id st'
  exact ⟨u,rfl,Aeu (s:={ s with heap:=h' }) e c d (by decide) ⟨x,H,I1,ru,⟨rfl,fun ys hy=>by rw[I.list_inj hy hq];exact hx⟩,st',fun b hb=>(hf b hb).1⟩⟩
 done:=by
  intro X hP hw hK hc i pins s σ H E I hf st hg
  subst hP hw hK
  obtain ⟨xs,hq,hx⟩:=hg
  obtain ⟨its,rv,p,hz⟩:=I.list hq
  obtain ⟨f0,f1,f2,f3,f4,f5⟩:=hf it (by simp)
  have hl:=rv.length
  exact wpAny_pyNext_list_end (I.ok.hd hc) st p.isList (by simp;omega) fun h' eb=>⟨rfl,I.turned (t':=s.toks) (fun b o hb e=>eb b o hb e) f0 f1 f3 f4 f5⟩
 self:=fun _ _ _ _ _ st h=>wpAny_pyIter_listiter st h
theorem Y1(a it:Addr):Turn P w K tg (Itt K a) [it] it (fun i h=>h.IsTupleIter it a i) where
 mem:=by simp
 obj:=fun i h st b hb=>by
  have e:b=it:=by simpa using hb
  subst e
  obtain ⟨o,e,c,d⟩:=st
  exact ⟨o,e,fun v z=>by rw[d] at z;cases z⟩
 keep:=fun i h h' st k=>st.at fun o e=>k it (by simp) o e
 item:=by
  intro X hP hw hK hc i pins s σ H E I hf st hg
  subst hP hw hK
  obtain ⟨xs,x,hq,hx⟩:=hg
  obtain ⟨its,rv,p,hz⟩:=I.tuple hq
  obtain ⟨u,hu,ru⟩:=rv.get hx
  obtain ⟨f0,f1,f2,f3,f4,f5⟩:=hf it (by simp)
  refine wpAny_pyNext_tuple_item st (show s.heap.IsTuple a its.toArray from p) (x:=u) (by simpa using hu) fun h' st' sb=>?_
  have I1:Inv X pins σ H { s with heap:=h' }:=I.turned (t':=s.toks) (fun b o hb e=>(sb.2 b hb).trans e) f0 f1 f3 f4 f5
  obtain ⟨o,e,c,d⟩:=id st'
  exact ⟨u,rfl,Aeu (s:={ s with heap:=h' }) e c d (by decide) ⟨x,H,I1,ru,⟨rfl,fun ys hy=>by rw[I.tuple_inj hy hq];exact hx⟩,st',fun b hb=>(hf b hb).1⟩⟩
 done:=by
  intro X hP hw hK hc i pins s σ H E I hf st hg
  subst hP hw hK
  obtain ⟨xs,hq,hx⟩:=hg
  obtain ⟨its,rv,p,hz⟩:=I.tuple hq
  obtain ⟨f0,f1,f2,f3,f4,f5⟩:=hf it (by simp)
  have hl:=rv.length
  exact wpAny_pyNext_tuple_end (I.ok.hd hc) st (show s.heap.IsTuple a its.toArray from p) (by simp;omega) fun h' eb=>⟨rfl,I.turned (t':=s.toks) (fun b o hb e=>eb b o hb e) f0 f1 f3 f4 f5⟩
 self:=fun _ _ _ _ _ st h=>wpAny_pyIter_tupleiter st h
theorem Yc(it:Addr)(lo:Int)(n:Nat):Turn P w K tg (Itr lo n) [it] it (fun i h=>IsRangeIter h it (lo+(i:Nat) * 1) ((n:Int) - (i:Nat)) 1) where
 mem:=by simp
 obj:=fun i h st b hb=>by
  have e:b=it:=by simpa using hb
  subst e
  exact ⟨_,st,fun v z=>by
   have z':tE _=Data.cell v:=z
   cases z'⟩
 keep:=fun i h h' st k=>k it (by simp) _ st
 item:=by
  intro X hP hw hK hc i pins s σ H E I hf st hg
  subst hP hw hK
  obtain ⟨f0,f1,f2,f3,f4,f5⟩:=hf it (by simp)
  have W:=Walks.range (prog:=X.prog) (w:=X.w) (I.ok.hd hc) it lo 1 n
  refine W.item i s _ _ hg st fun v h' tk hv st' kk=>?_
  obtain ⟨t,rfl⟩:=hv
  have I1:Inv X pins σ H { s with heap:=h',toks:=tk }:=I.turned (fun b o hb e=>kk b o (by simpa using hb) e) f0 f1 f3 f4 f5
  refine ⟨_,rfl,Aeu (s:={ s with heap:=h',toks:=tk }) (n := "range_iterator") st' rfl rfl (by decide) ⟨.int (lo+i),H,I1,⟨t,?_⟩,⟨rfl,rfl⟩,st',fun b hb=>(hf b hb).1⟩⟩
  rw[rK]
 done:=by
  intro X hP hw hK hc i pins s σ H E I hf st hg
  subst hP hw hK
  obtain ⟨f0,f1,f2,f3,f4,f5⟩:=hf it (by simp)
  exact wpAny_pyNext_range_end (I.ok.hd hc) st (by have:n<=i:=hg;omega) fun h' eb=>⟨rfl,I.turned (t':=s.toks) (fun b o hb e=>eb b o hb e) f0 f1 f3 f4 f5⟩
 self:=fun _ _ _ _ _ st h=>wpAny_pyIter_rangeiter st h
variable {p:Pos}{fp:List Addr}
section
noncomputable def Aot(K:aJ)(tl:TE):TI:=fun σ H R=>tl σ H fun x H1=>∃ a,x = .ref a/\(∃ xs,SqL K H1 a xs)/\R (Itl K a) H1
noncomputable def Aqg(K:aJ)(tl:TE):TI:=fun σ H R=>tl σ H fun x H1=>∃ a,x = .ref a/\(∃ xs,SqT K H1 a xs)/\R (Itt K a) H1
theorem Aiq{l:Expr}{tl:TE}(hl:PE X l tl):PI X tg l (Aot X.K tl):=by
 intro pins s σ H R I h
 refine thn (hl pins s σ H _ I h) fun v s1 zz=>?_
 obtain ⟨x,H1,I1,r1,q1⟩:=zz
 obtain ⟨a,e,⟨xs,hq⟩,q⟩:=q1
 subst e
 cases r1
 obtain ⟨its,rv,p,hz⟩:=I1.list hq
 refine jU p.isList ?_
 refine ⟨s1.heap.objs.size,[s1.heap.objs.size],_,_,H1,rfl,I1.kept (t':=s1.toks) fun b o e=>aE _ e,Adl a _,⟨_,bE _ rfl,rfl,rfl⟩,fun b hb=>?_,q⟩
 have e:b=s1.heap.objs.size:=by simpa using hb
 subst e
 exact I1.fpOk (aS _) (I1.hok.fresh (aS _))
theorem Alw{l:Expr}{tl:TE}(hl:PE X l tl):PI X tg l (Aqg X.K tl):=by
 intro pins s σ H R I h
 refine thn (hl pins s σ H _ I h) fun v s1 zz=>?_
 obtain ⟨x,H1,I1,r1,q1⟩:=zz
 obtain ⟨a,e,⟨xs,hq⟩,q⟩:=q1
 subst e
 cases r1
 obtain ⟨its,rv,p,hz⟩:=I1.tuple hq
 refine fJ (show s1.heap.IsTuple a its.toArray from p) ?_
 refine ⟨s1.heap.objs.size,[s1.heap.objs.size],_,_,H1,rfl,I1.kept (t':=s1.toks) fun b o e=>aE _ e,Y1 a _,⟨_,bE _ rfl,rfl,rfl⟩,fun b hb=>?_,q⟩
 have e:b=s1.heap.objs.size:=by simpa using hb
 subst e
 exact I1.fpOk (aS _) (I1.hok.fresh (aS _))
theorem Aep{R:It->Hp->Prop}{lo hi:Int}{t u v:Tok}{tk:Nat}(I:Inv X pins σ H s)(h1:-(2 ^ 62)<=lo)(h2:lo < 2 ^ 62)(h3:-(2 ^ 62)<=hi)(h4:hi < 2 ^ 62)
  (q:R (Itr lo (hi - lo).toNat) H):wpAny (model X.prog X.w) X.A (pyIter (.ref s.heap.objs.size)) (PIE X pins σ tg R) E { s with heap:=s.heap.push { cls:=.type "range",data:=.fields #[.int lo t,.int hi u,.int 1 v] },toks:=tk }:=by
 refine wpAny_pyIter_range (tF ..) (small_one h1 h2 h3 h4) ?_
 have I1:Inv X pins σ H { s with heap:=s.heap.push { cls:=.type "range",data:=.fields #[.int lo t,.int hi u,.int 1 v] },toks:=tk }:=I.kept fun b o e=>aE _ e
 refine ⟨(s.heap.push { cls:=.type "range",data:=.fields #[.int lo t,.int hi u,.int 1 v] }).objs.size,[(s.heap.push { cls:=.type "range",data:=.fields #[.int lo t,.int hi u,.int 1 v] }).objs.size],_,_,H,rfl,
  I1.kept (t':=tk) fun b o e=>aE _ e,Yc _ lo (hi - lo).toNat,?_,fun b hb=>?_,q⟩
 ·have e1:lo+((0:Nat):Int) * 1=lo:=by simp
  have e2:(((hi - lo).toNat:Nat):Int) - ((0:Nat):Int)=mX lo hi 1:=by rw[pD];split <;> omega
  show IsRangeIter _ _ (lo+((0:Nat):Int) * 1) ((((hi - lo).toNat:Nat):Int) - ((0:Nat):Int)) 1
  rw[e1,e2]
  exact bE _ rfl
 ·have e:b=(s.heap.push { cls:=.type "range",data:=.fields #[.int lo t,.int hi u,.int 1 v] }).objs.size:=by simpa using hb
  subst e
  exact I1.fpOk (aS _) (I1.hok.fresh (aS _))
noncomputable def An2(ta:TA):TI:=fun σ H R=>ta σ H fun vs H1=>∃ j:Int,vs=[.int j]/\-(2 ^ 62)<=j/\j < 2 ^ 62/\R (Itr 0 j.toNat) H1
theorem Aeh{a:Expr}{ta:TA}(hg:Gl X "range")(hm:X.mg "range" = none)(ha:PA X [a] ta)(hs:bQ [a] X.env=[(false,eval a X.env)]:=by rfl):PI X tg (.Call (.Name "range" p) [a] [] pos) (An2 ta):=by
 intro pins s σ H R I h
 refine Call_ (Fq I hg hm sE (cY (thn (ha pos pins s σ H _ I h) fun us s1 zz=>zz.elim fun vs H1 I1 r1 q1=>?_) hs rfl))
 obtain ⟨j,e,q1,q2,q⟩:=q1
 subst e
 cases r1 with
 | cons r rr=>
  cases rr
  obtain ⟨t,rfl⟩:=r
  exact qA (Aep I1 (by omega) (by omega) q1 q2 (by simpa using q))
noncomputable def Ap9(wi:TI)(g:TG)(tb:TS):TS:=fun D σ H=>wi σ H fun J H1=>∃ W:Nat->Nat->St->Hp->Prop,(∃ m,W 0 m σ H1)/\∀ i m σ H,W i m σ H ->
 (J.stop i H/\D.nx σ H)\/(J.go i H/\∃ N:St->Hp->Prop,(∀ σ' H',N σ' H'->∃ m',m' < m/\W (i+1) m' σ' H')/\∀ x H',J.yld i H x H'->g x σ H' fun σ2 H2=>tb { D with nx:=N,ct:=N,bk:=D.nx } σ2 H2)
noncomputable def Si(fp:List Addr)(h:Heap):List (Addr×Obj):=fp.filterMap fun b=>(h.get? b).map fun o=>(b,o)
theorem Kf{o:Obj}(hb:b∈fp)(e:h.get? b=some o):(b,o)∈Si fp h:=gH.mpr ⟨b,hb,by rw[e];rfl⟩
theorem Ac9{p:Addr×Obj}(hp:p∈Si fp h):p.1∈fp/\h.get? p.1=some p.2:=by
 obtain ⟨b,hb,e⟩:=gH.mp hp
 cases q:h.get? b with
 | none=>rw[q] at e;cases e
 | some o=>
  rw[q] at e
  have e':(b,o)=p:=bS e
  subst e'
  exact ⟨hb,q⟩
theorem Inv.pinned(I:Inv X pins σ H s)(hf:∀ b∈fp,Gv X pins H b)(ho:∀ b∈fp,∃ o,s.heap.get? b=some o/\∀ v,o.data≠.cell v):Inv X (pins++Si fp s.heap) σ H s:=
 I.pins_of fun p hp=>(cR.mp hp).elim (fun z=>I.pin p (aU _ z)) fun z=>by
  obtain ⟨hb,e⟩:=Ac9 z
  obtain ⟨f0,f1,f2,_⟩:=hf p.1 hb
  obtain ⟨o,e',d⟩:=ho p.1 hb
  rw[e] at e';cases e'
  exact ⟨e,f0,f1,f2,d⟩
theorem Inv.unpinned{pl:List (Addr×Obj)}(I:Inv X (pins++pl) σ H s):Inv X pins σ H s:=I.pins_of fun p hp=>I.pin p (aU _ (cO _ hp))
theorem Ami{iter:Expr}{wi:TI}{g:TG}{tb:TS}(hp:qV (model X.prog X.w) X.A X.env X.xe)(hc:X.calm=true)(hi:PI X tg iter wi)(hg:PG X tg g)(hb:PSs X body tb)
  (hs:∀ x,foldedSetIterable iter X.env x=pure x:=by intro _;rfl):PS X (.For tg iter body [] pos) (Ap9 wi g tb):=by
 intro pins s σ H D I h
 refine wpAny_For (thn (hi pins s σ H _ I h) fun v s1 h1=>thn h1 fun itv s2 h2=>?_) hs
 obtain ⟨it,fp,tn,J,H2,e,I2,T,st2,f2,W,⟨m0,w0⟩,turn⟩:=h2
 subst e
 have stat:∀ {H':Hp},(∀ b∈fp,H' b=none)->∀ b∈fp,Gv X pins H' b:=fun hn b hb=>⟨hn b hb,(f2 b hb).2⟩
 refine codeAny_forLoop_any (fun n s'=>∃ i σ' H',Inv X pins σ' H' s'/\tn i s'.heap/\(∀ b∈fp,H' b=none)/\W i n σ' H') ?_ m0 ⟨0,σ,H2,I2,st2,fun b hb=>(f2 b hb).1,w0⟩
 rintro n s3 ⟨i,σ3,H3,I3,st3,fr3,w3⟩
 rcases turn i n σ3 H3 w3 with ⟨stop,qn⟩ | ⟨go,N,hN,step⟩
 ·refine gX hp (thn (T.done X rfl rfl rfl hc i pins s3 σ3 H3 X.xe I3 (stat fr3) st3 stop) fun r s4 zz=>?_)
  obtain ⟨hr,I4⟩:=zz
  subst hr
  exact kP ⟨σ3,H3,I4,qn⟩
 ·refine gX hp (thn (T.item X rfl rfl rfl hc i pins s3 σ3 H3 X.xe I3 (stat fr3) st3 go) fun r s4 zz=>?_)
  obtain ⟨u,hr,h4⟩:=zz
  subst hr
  refine gX hp (thn h4 fun _ s5 zz=>?_)
  obtain ⟨x,H5,I5,r5,y5,st5,fr5⟩:=zz
  have I5':=I5.pinned (stat fr5) (T.obj _ _ st5)
  refine gX hp (thn (hg _ s5 σ3 H5 x u _ I5' r5 (step x H5 y5)) fun _ s6 zz=>?_)
  obtain ⟨σ6,H6,I6,q6⟩:=zz
  refine gX hp (thn (hb _ s6 σ6 H6 _ I6 q6) fun f s7 q7=>?_)
  have again:∀ {σ7:St} {H7:Hp},Inv X (pins++Si fp s5.heap) σ7 H7 s7->N σ7 H7->∃ m,m < n/\∃ i σ' H',Inv X pins σ' H' s7/\tn i s7.heap/\(∀ b∈fp,H' b=none)/\W i m σ' H':=fun {σ7 H7} I7 n7=>by
   obtain ⟨m',hm,w7⟩:=hN σ7 H7 n7
   refine ⟨m',hm,i+1,σ7,H7,I7.unpinned,T.keep _ _ _ st5 fun b hb o e=>(I7.pin (b,o) (aU _ (aU _ (Kf hb e)))).1,fun b hb=>?_,w7⟩
   obtain ⟨o,e,d⟩:=T.obj _ _ st5 b hb
   exact (I7.pin (b,o) (aU _ (aU _ (Kf hb e)))).2.1
  cases f with
  | next=>obtain ⟨σ7,H7,I7,n7⟩:=q7;exact again I7 n7
  | cont=>obtain ⟨σ7,H7,I7,n7⟩:=q7;exact again I7 n7
  | brk=>obtain ⟨σ7,H7,I7,q7⟩:=q7;exact ⟨σ7,H7,I7.unpinned,q7⟩
  | ret v=>obtain ⟨x7,σ7,H7,I7,r7,q7⟩:=q7;exact ⟨x7,σ7,H7,I7.unpinned,r7,q7⟩
end
abbrev R2:=V->V->Hp->VK->Prop
noncomputable def OpR(X:Cx)(f:aG->aG->Sem aG)(r:R2):Prop:=
 ∀ (pins:List (Addr×Obj)) (s:aR) (σ:St) (H:Hp) (x y:V) (v u:aG) (Q:VK),Inv X pins σ H s->RelV x v->RelV y u->r x y H Q ->
  wpAny (model X.prog X.w) X.A (f v u) (EP X pins σ Q) X.xe s
noncomputable def UnR(X:Cx)(f:aG->Sem aG)(r:V->Hp->VK->Prop):Prop:=
 ∀ (pins:List (Addr×Obj)) (s:aR) (σ:St) (H:Hp) (x:V) (v:aG) (Q:VK),Inv X pins σ H s->RelV x v->r x H Q ->
  wpAny (model X.prog X.w) X.A (f v) (EP X pins σ Q) X.xe s
noncomputable def CallR(X:Cx)(f:aG)(r:List V->Hp->VK->Prop):Prop:=
 ∀ (pins:List (Addr×Obj)) (s:aR) (σ:St) (H:Hp) (xs:List V) (us:List aG) (Q:VK),Inv X pins σ H s->Vals xs us->r xs H Q ->
  wpAny (model X.prog X.w) X.A (call f us) (EP X pins σ Q) X.xe s
noncomputable def Aqd(X:Cx)(r:V->Hp->(Bool->Hp->Prop)->Prop):Prop:=
 ∀ (pins:List (Addr×Obj)) (s:aR) (σ:St) (H:Hp) (x:V) (v:aG) (Q:Bool->Hp->Prop),Inv X pins σ H s->RelV x v->r x H Q ->
  wpAny (model X.prog X.w) X.A (truthy v) (TP X pins σ Q) X.xe s
noncomputable def tOp(r:R2)(ta tb:TE):TE:=fun σ H Q=>ta σ H fun x H1=>tb σ H1 fun y H2=>r x y H2 Q
noncomputable def tUn(r:V->Hp->VK->Prop)(ta:TE):TE:=fun σ H Q=>ta σ H fun x H1=>r x H1 Q
noncomputable def rI(C:Int->Int->Prop)(g:Int->Int->V):R2:=fun x y H Q=>∃ i j,x = .int i/\y = .int j/\C i j/\Q (g i j) H
noncomputable def rI0(g:Int->Int->V):R2:=fun x y H Q=>∃ i j,x = .int i/\y = .int j/\Q (g i j) H
noncomputable def rU(g:Int->V):V->Hp->VK->Prop:=fun x H Q=>∃ i,x = .int i/\Q (g i) H
variable {r:R2}
section
variable {a b:Expr}{tc:TE}
theorem Anc(ha:PE X a ta)(hb:PE X b tb){R:V->V->Hp->Prop}(I:Inv X pins σ H s)
  (h:ta σ H fun x H1=>tb σ H1 fun y H2=>R x y H2) {Q:aG->aR->Prop} {f:aG->aG->Sem aG}
  (hf:∀ v u s2 x y H2,Inv X pins σ H2 s2->RelV x v->RelV y u->R x y H2->wpAny (model X.prog X.w) X.A (f v u) Q X.xe s2) :
  wpAny (model X.prog X.w) X.A (eval a X.env) (fun v s₁=>wpAny (model X.prog X.w) X.A (eval b X.env) (fun u s₂=>wpAny (model X.prog X.w) X.A (f v u) Q X.xe s₂) X.xe s₁) X.xe s:=by
 refine thn (ha pins s σ H _ I h) fun v s1 zz=>?_
 obtain ⟨x,H1,I1,r1,q1⟩:=zz
 refine thn (hb pins s1 σ H1 _ I1 q1) fun u s2 zz=>?_
 obtain ⟨y,H2,I2,r2,q2⟩:=zz
 exact hf v u s2 x y H2 I2 r1 r2 q2
theorem Anu{op:Operator}(ho:OpR X (fV op) r)(ha:PE X a ta)(hb:PE X b tb):PE X (.BinOp a op b pos) (tOp r ta tb):=by
 intro pins s σ H Q I h
 exact wpAny_BinOp (Anc ha hb I h fun v u s2 x y H2 I2 rx ry q=>ho pins s2 σ H2 x y v u Q I2 rx ry q)
theorem Apj{op:UnaryOp}{r:V->Hp->VK->Prop}(ho:UnR X (unaryOp op) r)(ha:PE X a ta):PE X (.UnaryOp op a pos) (tUn r ta):=by
 intro pins s σ H Q I h
 exact UnaryOp_ (thn (ha pins s σ H _ I h) fun v s1 zz=>by obtain ⟨x,H1,I1,r1,q1⟩:=zz;exact ho pins s1 σ H1 x v Q I1 r1 q1)
theorem opI{f:aG->aG->Sem aG}{C:Int->Int->Prop}{g:Int->Int->Int}
  (rule:∀ (i j:Int) (t u:Tok) (s:aR) (Q:aG->aR->Prop) (E:aG->aR->Prop),C i j->Q (.int (g i j) s.toks) { s with toks:=s.toks+1 }->wpAny (model X.prog X.w) X.A (f (.int i t) (.int j u)) Q E s) :
  OpR X f (rI C fun i j=>.int (g i j)):=by
 intro pins s σ H x y v u Q I rx ry h
 obtain ⟨i,j,rfl,rfl,hc,q⟩:=h
 obtain ⟨t,rfl⟩:=rx
 obtain ⟨t',rfl⟩:=ry
 exact rule i j t t' s _ _ hc ⟨.int (g i j),H,I.tok _,⟨_,rfl⟩,q⟩
theorem Ao0{f:aG->aG->Sem aG}{g:Int->Int->Int}
  (rule:∀ (i j:Int) (t u:Tok) (s:aR) (Q:aG->aR->Prop) (E:aG->aR->Prop),Q (.int (g i j) s.toks) { s with toks:=s.toks+1 }->wpAny (model X.prog X.w) X.A (f (.int i t) (.int j u)) Q E s) :
  OpR X f (rI0 fun i j=>.int (g i j)):=by
 intro pins s σ H x y v u Q I rx ry h
 obtain ⟨i,j,rfl,rfl,q⟩:=h
 obtain ⟨t,rfl⟩:=rx
 obtain ⟨t',rfl⟩:=ry
 exact rule i j t t' s _ _ ⟨.int (g i j),H,I.tok _,⟨_,rfl⟩,q⟩
theorem Aj8{f:aG->aG->Sem aG}{g:Int->Int->Bool}
  (rule:∀ (i j:Int) (t u:Tok) (s:aR) (Q:aG->aR->Prop) (E:aG->aR->Prop),Q (.bool (g i j)) s->wpAny (model X.prog X.w) X.A (f (.int i t) (.int j u)) Q E s) :
  OpR X f (rI0 fun i j=>.bl (g i j)):=by
 intro pins s σ H x y v u Q I rx ry h
 obtain ⟨i,j,rfl,rfl,q⟩:=h
 obtain ⟨t,rfl⟩:=rx
 obtain ⟨t',rfl⟩:=ry
 exact rule i j t t' s _ _ ⟨.bl (g i j),H,I,rfl,q⟩
noncomputable def Aol(i j:Int):Prop:=0<=j/\j<=1000000/\i.natAbs < 2 ^ 64
noncomputable def CMul(i j:Int):Prop:=(-(2 ^ 64) < i/\i < 2 ^ 64)\/(-(2 ^ 64) < j/\j < 2 ^ 64)
theorem CMul.ok{i j:Int}(h:CMul i j):IntMulOk i j:=by
 rcases h with ⟨h1,h2⟩ | ⟨h1,h2⟩
 ·exact .of_left (intBits_le_64 h1 h2)
 ·exact .of_right (intBits_le_64 h1 h2)
theorem Amf:OpR X (fV .Add) (rI0 fun i j=>.int (i+j)):=Ao0 fun _ _ _ _ _ _ _ q=>add_int q
theorem Xu:OpR X (fV .Sub) (rI0 fun i j=>.int (i - j)):=Ao0 fun _ _ _ _ _ _ _ q=>sub_int q
theorem Ak2:OpR X (fV .Mult) (rI CMul fun i j=>.int (i * j)):=opI fun _ _ _ _ _ _ _ hc q=>mul_int q hc.ok
theorem K8:OpR X (fV .Mod) (rI (fun _ j=>0 < j) fun i j=>.int (i % j)):=opI fun i j _ _ _ _ _ hc q=>by
 have h1:(0:Int) < j:=hc
 exact mod_int' (by omega) (by rw[Int.fmod_eq_emod_of_nonneg i (by omega)];exact q)
theorem Sj:OpR X (fV .Pow) (rI Aol fun i j=>.int (i ^ j.toNat)):=opI fun _ _ _ _ _ _ _ hc q=>pow_int_small hc.1 hc.2.1 hc.2.2 q
theorem unI{f:aG->Sem aG}{g:Int->Int}
  (rule:∀ (i:Int) (t:Tok) (s:aR) (Q:aG->aR->Prop) (E:aG->aR->Prop),Q (.int (g i) s.toks) { s with toks:=s.toks+1 }->wpAny (model X.prog X.w) X.A (f (.int i t)) Q E s) :
  UnR X f (rU fun i=>.int (g i)):=by
 intro pins s σ H x v Q I rx h
 obtain ⟨i,rfl,q⟩:=h
 obtain ⟨t,rfl⟩:=rx
 exact rule i t s _ _ ⟨.int (g i),H,I.tok _,⟨_,rfl⟩,q⟩
theorem Als:UnR X (unaryOp .USub) (rU fun i=>.int (-i)):=unI fun _ _ _ _ _ q=>neg_int q
end
variable {op:CmpOp}
section
variable {a b:Expr}{tc:TE}
theorem Alp{k k':Bool}(I:Inv X pins σ H s)(q:Q (.bl k) H)(e:k=k'):EP X pins σ Q (.bool k') s:=by
 subst e
 exact ⟨.bl k,H,I,rfl,q⟩
theorem Abz:OpR X (eM .Lt) (rI0 fun i j=>.bl (decide (i < j))):=Aj8 fun _ _ _ _ _ _ _ q=>lt_int q
theorem Ael:OpR X (eM .LtE) (rI0 fun i j=>.bl (decide (i<=j))):=Aj8 fun _ _ _ _ _ _ _ q=>le_int q
theorem Aoo:OpR X (eM .Gt) (rI0 fun i j=>.bl (decide (j < i))):=Aj8 fun _ _ _ _ _ _ _ q=>gt_int q
theorem Aoy:OpR X (eM .GtE) (rI0 fun i j=>.bl (decide (j<=i))):=Aj8 fun _ _ _ _ _ _ _ q=>ge_int q
theorem Akz:OpR X (eM .Is) (fun x y H Q=>y = .non/\Q (.bl (decide (x = .non))) H):=by
 intro pins s σ H x y v u Q I rx ry h
 obtain ⟨rfl,q⟩:=h
 cases ry
 refine is_none_gen (Alp I q ?_)
 cases x <;> first
  | (cases rx;rfl)
  | (obtain ⟨t,rfl⟩:=rx;rfl)
theorem OpR.or{f:aG->aG->Sem aG}{r':R2}(h:OpR X f r)(h':OpR X f r'):OpR X f (fun x y H Q=>r x y H Q\/r' x y H Q):=by
 intro pins s σ H x y v u Q I rx ry q
 rcases q with q | q
 ·exact h pins s σ H x y v u Q I rx ry q
 ·exact h' pins s σ H x y v u Q I rx ry q
theorem Bu(b:Expr)(h:op≠.In:=by decide)(h2:op≠.NotIn:=by decide):behindInMarks op b=false:=by
 have e1:(op == CmpOp.In)=false:=by cases op <;> first | rfl | exact absurd rfl h
 have e2:(op == CmpOp.NotIn)=false:=by cases op <;> first | rfl | exact absurd rfl h2
 cases b <;> simp[behindInMarks,e1,e2]
theorem Aja(ho:OpR X (eM op) r)(ha:PE X a ta)(hb:PE X b tb)(hm:behindInMarks op b=false):PE X (.Compare a [op] [b] pos) (tOp r ta tb):=by
 intro pins s σ H Q I h
 exact wpAny_Compare1 (Anc ha hb I h fun v u s2 x y H2 I2 rx ry q=>ho pins s2 σ H2 x y v u Q I2 rx ry q) hm
noncomputable def Afx(t:TE):TT:=fun σ H Q=>t σ H fun x H'=>∃ k,x = .bl k/\Q k H'
theorem Aib(ho:OpR X (eM op) r)(ha:PE X a ta)(hb:PE X b tb)(hm:behindInMarks op b=false):PT X (.Compare a [op] [b] pos) (Afx (tOp r ta tb)):=by
 intro pins s σ H Q I h
 refine wpAny_isTrue_Compare1 (thn (ha pins s σ H _ I h) fun v s1 zz=>zz.elim fun x H1 I1 r1 q1=>thn (hb pins s1 σ H1 _ I1 q1) fun u s2 ⟨y,H2,I2,r2,q2⟩=>
  thn (ho pins s2 σ H2 x y v u _ I2 r1 r2 q2) fun c s3 zz=>zz.elim fun z H3 I3 r3 zq=>?_) hm
 obtain ⟨k,e,q3⟩:=zq
 subst e
 cases r3
 exact fA ⟨H3,I3,q3⟩
noncomputable def Ae5(r r':R2)(ta tb tc:TE):TE:=fun σ H Q=>ta σ H fun x H1=>tb σ H1 fun y H2=>r x y H2 fun z H3=>∃ k,z = .bl k /\
 (if k=true then tc σ H3 fun w' H4=>r' y w' H4 Q else Q (.bl false) H3)
theorem Agi{op':CmpOp}{r':R2}(ho:OpR X (eM op) r)(ho':OpR X (eM op') r')(ha:PE X a ta)(hb:PE X b tb)(hc:PE X c tc)
  (hm:lastMarks [op,op'] [b,c]=false:=by with_unfolding_all rfl):PT X (.Compare a [op,op'] [b,c] pos) (Afx (Ae5 r r' ta tb tc)):=by
 intro pins s σ H Q I h
 refine isTrue_chain (thn (ha pins s σ H _ I h) fun v s1 zz=>zz.elim fun x H1 I1 r1 q1=>test_link (thn (hb pins s1 σ H1 _ I1 q1) fun u s2 ⟨y,H2,I2,r2,q2⟩=>
  thn (ho pins s2 σ H2 x y v u _ I2 r1 r2 q2) fun d s3 zz=>zz.elim fun z H3 I3 r3 zq=>?_)) hm
 obtain ⟨k,e,q3⟩:=zq
 subst e
 cases r3
 refine fA ?_
 cases k with
 | false=>
  obtain ⟨k',e',q'⟩:=q3
  cases e'
  exact ite_ff ⟨H3,I3,q'⟩
 | true=>
  refine ite_tt (test_last (thn (hc pins s3 σ H3 _ I3 q3) fun w' s4 zz=>zz.elim fun z' H4 I4 r4 q4=>thn (ho' pins s4 σ H4 y z' u w' _ I4 r2 r4 q4) fun d' s5 zz=>?_))
  obtain ⟨z2,H5,I5,r5,k2,e2,q5⟩:=zz
  subst e2
  cases r5
  exact fA ⟨H5,I5,q5⟩
noncomputable def Am9(K:aJ)(x:V)(H:Hp)(k:Bool):Prop:=
 match x with
 | .non=>k=false
 | .bl b=>k=b
 | .int i=>k=(i != 0)
 | .str y=>y.length<=sizeLine/\k=((y.length:Int) != 0)
 | .byt y=>y.size<=sizeLine/\k=((y.size:Int) != 0)
 | .ref p=>(∃ xs,SqL K H p xs/\k = !xs.isEmpty)\/(∃ xs,SqT K H p xs/\k = !xs.isEmpty)\/∃ kvs,H p=some (.dK kvs)/\k = !kvs.isEmpty
 | _=>False
theorem Yy{κ:Type}{kvs:List (κ×V)}{vs:List (κ×aG)}(r:KV kvs vs):(!vs.isEmpty) = !kvs.isEmpty:=by
 cases r <;> rfl
theorem Qk{its:List aG}(r:Vals xs its):(!its.toArray.isEmpty) = !xs.isEmpty:=by
 cases r <;> simp
theorem Oo:(sizeLine:Nat) < 2 ^ 63:=by rw[gD];decide
theorem Alu:Aqd X (fun x H Q=>∃ k,Am9 X.K x H k/\Q k H):=by
 intro pins s σ H x v Q I rx h
 obtain ⟨k,e,q⟩:=h
 have hl:=Oo
 have hs:sizeLine=16777216:=gD
 cases x with
 | non=>
  cases rx
  have e':k=false:=e
  subst e'
  exact truthy_none ⟨H,I,q⟩
 | bl b=>
  cases rx
  have e':k=b:=e
  subst e'
  exact fA ⟨H,I,q⟩
 | int i=>
  obtain ⟨t,rfl⟩:=rx
  have e':k=(i != 0):=e
  subst e'
  exact PySem.P.truthy_int ⟨H,I,q⟩
 | str y=>
  obtain ⟨t,rfl⟩:=rx
  obtain ⟨hy,e'⟩:y.length<=sizeLine/\k=((y.length:Int) != 0):=e
  subst e'
  exact PySem.P.truthy_str (by omega) ⟨H,I.tok _,q⟩
 | byt y=>
  obtain ⟨t,rfl⟩:=rx
  obtain ⟨hy,e'⟩:y.size<=sizeLine/\k=((y.size:Int) != 0):=e
  subst e'
  exact PySem.W.truthy_bytes (by omega) ⟨H,I.tok _,q⟩
 | ref p=>
  cases rx
  have e':(∃ xs,SqL X.K H p xs/\k = !xs.isEmpty)\/(∃ xs,SqT X.K H p xs/\k = !xs.isEmpty)\/∃ kvs,H p=some (.dK kvs)/\k = !kvs.isEmpty:=e
  rcases e' with ⟨xs,hx,e'⟩ | ⟨xs,hx,e'⟩ | ⟨kvs,hx,e'⟩
  ·subst e'
   obtain ⟨its,r,pl,hz⟩:=I.list hx
   have hlen:=r.length
   exact wpAny_truthy_list pl.isList (by simp only[aX];omega) ⟨H,I.tok _,by rw[Qk r];exact q⟩
  ·subst e'
   obtain ⟨its,r,pl,hz⟩:=I.tuple hx
   have hlen:=r.length
   exact truthy_tuple pl (by simp only[aX];omega) ⟨H,I.tok _,by rw[Qk r];exact q⟩
  ·subst e'
   obtain ⟨hz,hS,vs,r,m⟩:kvs.length<=sizeLine/\(p == sysModules)=false/\∃ vs,KV kvs vs/\s.heap.DictOf (B7 X.prog X.w) p vs:=I.hok p _ hx
   have hlen:kvs.length=vs.length:=mL r
   exact wpAny_truthy_dict hS m (by omega) ⟨H,I.tok _,by rw[Yy r];exact q⟩
 | _=>exact (show False from e).elim
theorem Afp(ha:PE X a ta)(he:∀ whole,isTrue a X.env whole=(do let v <- whole;standAt a.pos;holding [v] (truthy v))) :
  PT X a (fun σ H Q=>ta σ H fun x H'=>∃ k,Am9 X.K x H' k/\Q k H'):=by
 intro pins s σ H Q I h
 exact isTrue_plain (thn (ha pins s σ H _ I h) fun v s1 zz=>by obtain ⟨x,H1,I1,r1,q1⟩:=zz;exact Alu pins s1 σ H1 x v Q I1 r1 q1) (he _)
theorem X6:OpR X (fV .Add) (fun x y H Q=>∃ i j,x = .str i/\y = .str j/\i.length+j.length<=sizeLine/\Q (.str (i++j)) H):=by
 intro pins s σ H x y v u Q I rx ry h
 obtain ⟨i,j,rfl,rfl,hz,q⟩:=h
 obtain ⟨t,rfl⟩:=rx
 obtain ⟨t',rfl⟩:=ry
 exact add_str (fun t' tk=>⟨.str (i++j),H,I.tok _,⟨_,rfl⟩,q⟩) hz
theorem Gz{x:V}(r:Vals [x] us):∃ u,us=[u]/\RelV x u:=by
 cases r with
 | cons r1 r2=>cases r2;exact ⟨_,rfl,r1⟩
theorem Tu{x y:V}(r:Vals [x,y] us):∃ u w',us=[u,w']/\RelV x u/\RelV y w':=by
 cases r with
 | cons r1 r2=>
  cases r2 with
  | cons r3 r4=>cases r4;exact ⟨_,_,rfl,r1,r3⟩
theorem Ra:CallR X (.builtin "abs") (fun xs H Q=>∃ i,xs=[.int i]/\Q (.int (if i < 0 then -i else i)) H):=by
 intro pins s σ H xs us Q I r h
 obtain ⟨i,rfl,q⟩:=h
 obtain ⟨u,rfl,t,rfl⟩:=Gz r
 exact call_abs_int fun u tk=>⟨.int (if i < 0 then -i else i),H,I.tok _,⟨_,rfl⟩,q⟩
theorem Adm(hc:X.calm=true):CallR X (.builtin "max") (fun xs H Q=>∃ i j,xs=[.int i,.int j]/\Q (.int (if j > i then j else i)) H):=by
 intro pins s σ H xs us Q I r h
 obtain ⟨i,j,rfl,q⟩:=h
 obtain ⟨u,w',rfl,⟨t,rfl⟩,⟨t',rfl⟩⟩:=Tu r
 refine max_two_ints (I.ok.hd hc) fun h' tk k=>⟨_,H,I.kept k,?_,q⟩
 by_cases hj:j > i
 ·rw[if_pos hj,if_pos hj];exact ⟨_,rfl⟩
 ·rw[if_neg hj,if_neg hj];exact ⟨_,rfl⟩
theorem Uc:CallR X (.type "int") (fun xs H Q=>(∃ i,xs=[.int i]/\Q (.int i) H)\/∃ k,xs=[.bl k]/\Q (.int (if k then 1 else 0)) H):=by
 intro pins s σ H xs us Q I r h
 rcases h with ⟨i,rfl,q⟩ | ⟨k,rfl,q⟩
 ·obtain ⟨u,rfl,t,rfl⟩:=Gz r
  exact call_int_int ⟨.int i,H,I,⟨_,rfl⟩,q⟩
 ·obtain ⟨u,rfl,r1⟩:=Gz r
  cases r1
  exact call_int_bool ⟨.int (if k then 1 else 0),H,I.tok _,⟨_,rfl⟩,q⟩
noncomputable def Aoc(K:aJ)(x:V)(H:Hp)(n:Nat):Prop:=
 match x with
 | .str y=>y.length<=sizeLine/\n=y.length
 | .byt y=>y.size<=sizeLine/\n=y.size
 | .ref p=>(∃ xs,SqL K H p xs/\n=xs.length)\/∃ xs,SqT K H p xs/\n=xs.length
 | _=>False
theorem B1:CallR X (.builtin "len") (fun xs H Q=>∃ x n,xs=[x]/\Aoc X.K x H n/\Q (.int n) H):=by
 intro pins s σ H xs us Q I r h
 obtain ⟨x,n,rfl,e,q⟩:=h
 obtain ⟨u,rfl,rx⟩:=Gz r
 have hl:=Oo
 have hs:sizeLine=16777216:=gD
 cases x with
 | str y=>
  obtain ⟨t,rfl⟩:=rx
  obtain ⟨hy,e'⟩:y.length<=sizeLine/\n=y.length:=e
  subst e'
  exact len_str (by omega) ⟨.int _,H,I.tok _,⟨_,rfl⟩,q⟩
 | byt y=>
  obtain ⟨t,rfl⟩:=rx
  obtain ⟨hy,e'⟩:y.size<=sizeLine/\n=y.size:=e
  subst e'
  exact PySem.W.len_bytes (by omega) ⟨.int _,H,I.tok _,⟨_,rfl⟩,q⟩
 | ref p=>
  cases rx
  have e':(∃ xs,SqL X.K H p xs/\n=xs.length)\/∃ xs,SqT X.K H p xs/\n=xs.length:=e
  rcases e' with ⟨xs,hx,e'⟩ | ⟨xs,hx,e'⟩
  ·subst e'
   obtain ⟨its,r',pl,hz⟩:=I.list hx
   have hlen:=r'.length
   exact Calls.call_len_list pl.isList (by simp only[aX];omega) ⟨.int xs.length,H,I.tok _,⟨_,by simp only[aX];rw[hlen]⟩,q⟩
  ·subst e'
   obtain ⟨its,r',pl,hz⟩:=I.tuple hx
   have hlen:=r'.length
   exact len_tuple pl (by simp only[aX];omega) ⟨.int xs.length,H,I.tok _,⟨_,by simp only[aX];rw[hlen]⟩,q⟩
 | _=>exact (show False from e).elim
end
structure ObjM(h:Heap)(x dx C:Addr)(mA:Str->Option aG):Prop where
 obj:h.get? x=some (gW C dx)
 ns:h.Ns1 dx mA
 ne:dx≠x
variable {dx:Addr}{mA:Str->Option aG}
theorem Adz(n:h.Ns1 dx mA):∃ od,h.get? dx=some od/\∀ name,oR name od=some (mA name):=by
 obtain ⟨o,es,ep,ho,hd,hk,_,hm⟩:=n
 refine ⟨o,ho,fun name=>?_⟩
 have e:=hm name
 unfold nsFind findBy at e
 rw[<- Array.find?_toList] at e
 unfold oR
 rw[hd]
 dsimp only
 split
 ·rename_i y q
  rw[q] at e
  exact congrArg some e
 ·rename_i q
  rw[q] at e
  have a:es.toList.any (·.refKey)=false:=by
   rw[mH]
   intro y hy
   obtain ⟨z,t,hkey⟩:=hk y (Array.mem_toList_iff.mp hy)
   simp[DictEntry.refKey,hkey]
  have a':¬ es.toList.any (·.refKey)=true:=by rw[a];exact cM
  rw[if_neg a']
  exact congrArg some e
variable {C:Addr}
theorem ObjM.look{x:Addr}(I:ObjM h x dx C mA):∃ od,PySem.W.InstAt h x (gW C dx) C (some od)/\∀ name,oR name od=some (mA name):=
 let ⟨od,ho,hl⟩:=Adz I.ns
 ⟨od,⟨I.obj,rfl,rfl,ho⟩,hl⟩
variable {f:Addr}
section
variable {prog:cX}{x:Addr}{name:Str}{v:aG}
end
theorem RelO.some_of{o:Option aG}(r:RelO (some v) o):∃ u,o=some u/\RelV v u:=by
 cases o with
 | none=>exact (show False from r).elim
 | some u=>exact ⟨u,rfl,r⟩
section
variable {fs fs':List (Str×V)}
theorem Ain(hok:HOk P w H h)(e:H a=some (.ins C dx fs)):∃ mA,ObjM h a dx C mA/\(∀ f,RelO (fs.lookup f) (mA f))/\sU mA (fs.map (·.1))/\fs.length<=1000/\H dx=some (.own a):=by
 obtain ⟨d,z,ne,ob,mA,n,r,q⟩:=(show ObjOk P w H h a (.ins C dx fs) from hok a _ e)
 exact ⟨mA,⟨ob,n,ne⟩,r,q,z,d⟩
end
structure Cls(K:aJ)(C:Addr):Prop where
 pg:qW K C Str.empty=true
 hd:PySem.W.hasDictIn K C=true
 po:PySem.W.plainOver K C=true
 sa:jV K (.ref C) "__setattr__" = some (some (.builtin "object.__setattr__"))
theorem Cls.get(c:Cls K C)(f:Str):qW K C f=true:=c.pg
structure Con(K:aJ)(C:Addr)(f:Str)(v:V)(u:aG):Prop where
 at_:jV K (.ref C) f=some (some u)
 rel:RelV v u
 get:qB K u "__get__" = some none
 cp:PySem.W.copiedNames.contains f=false
structure Meth(K:aJ)(C:Addr)(m:Str)(f:Addr):Prop where
 at_:jV K (.ref C) m=some (some (.ref f))
 fn:sV K (.ref f)=true
 kp:bX K (.ref f)=true
section
variable {fs:List (Str×V)}{f:Str}
theorem Inv.made(I:Inv X pins σ H s):Inv X pins σ (upd (upd H s.heap.objs.size (.own (s.heap.objs.size+1))) (s.heap.objs.size+1) (.ins C s.heap.objs.size []))
  { s with heap:=(s.heap.push fB).push (gW C s.heap.objs.size) }:=by
 have e1:(s.heap.push fB).get? s.heap.objs.size=some fB:=bE s.heap rfl
 have e2:((s.heap.push fB).push (gW C s.heap.objs.size)).get? (s.heap.objs.size+1)=some (gW C s.heap.objs.size):=by
  have:=bE (s.heap.push fB) (o:=gW C s.heap.objs.size) rfl
  rwa [dG] at this
 have e3:(s.heap.push fB).Ns s.heap.objs.size (fun _=>none):=⟨fB,#[],_,e1,rfl,(fun e he=>absurd he (by simp)),fun _=>rfl⟩
 have I1:=I.laid (a:=s.heap.objs.size) (o:=.own (s.heap.objs.size+1)) (h':=s.heap.push fB) (t':=s.toks) (fun b u q=>aE _ q) (aS _) ⟨_,e1⟩
 refine I1.laid (a:=s.heap.objs.size+1) (o:=.ins C s.heap.objs.size []) (t':=s.toks) (fun b u q=>aE _ q) (nL (dG _ _)) ?_
 have ne:s.heap.objs.size≠s.heap.objs.size+1:=cC (dZ _)
 refine ⟨by rw[Ap ne,upd_same],gE _,ne,e2,fun _=>none,(Heap.Ns1.of_empty e3).at fun o q=>aE _ q,fun _=>iJ,fun y hy=>absurd rfl hy⟩
end
section
variable {o value:Expr}{f:Str}{pos' tpos:Pos}{tv:TE}
end
section
variable {Q:aG->aR->Prop}{c:aG}{b:Bool}
inductive TyOf(K:aJ)(H:Hp):V->aG->Prop where
 | non:TyOf K H .non (.type "NoneType")
 | bl (x:Bool):TyOf K H (.bl x) (.type "bool")
 | int (i:Int):TyOf K H (.int i) (.type "int")
 | str (x:Str):TyOf K H (.str x) (.type "str")
 | flt (x:UInt64):TyOf K H (.flt x) (.type "float")
 | lst {a:Addr} {xs:List V} (e:H a=some (.lst xs)):TyOf K H (.ref a) (.type "list")
 | frz {a:Addr} {o:Obj} {xs:List V} (e:H a=some (.frz o (.lst xs))):TyOf K H (.ref a) (.type "list")
 | tup {a:Addr} {xs:List V} (e:H a=some (.tup xs)):TyOf K H (.ref a) (.type "tuple")
 | dK {a:Addr} {kvs:List (Key×V)} (e:H a=some (.dK kvs)):TyOf K H (.ref a) (.type "dict")
 | dT {a:Addr} {kvs:List (List Key×V)} (e:H a=some (.dT kvs)):TyOf K H (.ref a) (.type "dict")
 | ins {a C dx:Addr} {fs:List (Str×V)} (e:H a=some (.ins C dx fs)) (cl:Cls K C) (ha:jV K (.ref C) "__class__" = some (some (.builtin "object.__class__")))
   (hn:qB K (.builtin "object.__class__") "__get__" = some (some (.builtin "getset_descriptor.__get__"))) (htk:PySem.W.takesIn K (.builtin "object.__class__")=some true)
   (hm:PySem.W.mroIn K C (.type "object")=some true):TyOf K H (.ref a) (.ref C)
theorem Ji{x:V}{t:aG}(I:Inv X pins σ H s)(rx:RelV x u)(ty:TyOf X.K H x t)(e:fD X.K t c=some b)(h:∀ tk,Q (.bool b) { s with toks:=tk }) :
  wpAny (model X.prog X.w) A (call (.builtin "isinstance") [u,c]) Q E s:=by
 cases ty with
 | non=>cases (show u=fH from rx);exact dY PySem.W.kitx_none I.kIn iJ e (fun z=>nomatch z) h
 | bl y=>cases (show u=nI y from rx);exact dY PySem.W.kitx_bool I.kIn iJ e (fun z=>nomatch z) h
 | int i=>obtain ⟨t,q⟩:=(show ∃ t,u=kF i t from rx);cases q;exact dY PySem.W.kitx_int I.kIn iJ e (fun z=>nomatch z) h
 | str y=>obtain ⟨t,q⟩:=(show ∃ t,u=qT y t from rx);cases q;exact dY PySem.W.kitx_str I.kIn iJ e (fun z=>nomatch z) h
 | flt y=>obtain ⟨t,q⟩:=(show ∃ t,u=tD y t from rx);cases q;exact dY PySem.W.kitx_float I.kIn iJ e (fun z=>nomatch z) h
 | @lst a xs ea=>
  cases (show u=eD a from rx)
  obtain ⟨_,_,n,_,h1⟩:=(show ObjOk X.prog X.w H s.heap a (.lst xs) from I.hok a _ ea)
  exact dY mI I.kIn ⟨_,h1,rfl⟩ e (fun z=>nomatch z) h
 | @frz a ob xs ea=>
  cases (show u=eD a from rx)
  obtain ⟨_,_,_,n,_,h1⟩:=(show ObjOk X.prog X.w H s.heap a (.frz ob (.lst xs)) from I.hok a _ ea)
  exact dY mI I.kIn ⟨_,h1,rfl⟩ e (fun z=>nomatch z) h
 | @tup a xs ea=>
  cases (show u=eD a from rx)
  obtain ⟨_,_,_,p⟩:=(show ObjOk X.prog X.w H s.heap a (.tup xs) from I.hok a _ ea)
  obtain ⟨o,h1,h2,_⟩:=p
  exact dY pJ I.kIn ⟨o,h1,(kN h2).1⟩ e (fun z=>nomatch z) h
 | @dK a kvs ea=>
  cases (show u=eD a from rx)
  obtain ⟨_,_,vs,_,p⟩:=(show ObjOk X.prog X.w H s.heap a (.dK kvs) from I.hok a _ ea)
  obtain ⟨o,es,ep,h1,h2,_⟩:=p
  exact dY qC I.kIn ⟨o,h1,h2.1⟩ e (fun z=>nomatch z) h
 | @dT a kvs ea=>
  cases (show u=eD a from rx)
  obtain ⟨_,_,xs,_,o,es,ep,h1,h2,_⟩:=(show ObjOk X.prog X.w H s.heap a (.dT kvs) from I.hok a _ ea)
  exact dY qC I.kIn ⟨o,h1,h2.1⟩ e (fun z=>nomatch z) h
 | @ins a C dx fs ea cl ha hn htk hm=>
  cases (show u=eD a from rx)
  obtain ⟨mA,O,_⟩:=Ain I.hok ea
  obtain ⟨od,J,_⟩:=O.look
  exact dY (PySem.W.kitx_own (cl.get _) cl.hd ha hn htk hm) I.kIn J e (fun z=>nomatch z) h
end
structure Room(k:Nat)(A:eE):Prop where
 hd:A.handled=none
 dp:A.depth+3 * k+5 < recursionLimit
 un:A.units+16 * k+200 < cLine
theorem Room.mono(r:Room k A)(h:j<=k):Room j A:=⟨r.hd,by have:=r.dp;omega,by have:=r.un;omega⟩
theorem Room.deeper(r:Room (k+1) A)(env:Env):Room k (A.deeper env):=
 ⟨r.hd,by have:=r.dp;show A.depth+1+3 * k+5 < _;omega,by have:=r.un;show A.units+3+16 * k+200 < _;omega⟩
theorem Room.in1(r:Room (k+1) A):Room k A.in1:=
 ⟨r.hd,by have:=r.dp;show A.depth+3 * k+5 < _;omega,by have:=r.un;show A.units+1+16 * k+200 < _;omega⟩
theorem Room.depth(r:Room k A):A.depth < recursionLimit:=by have:=r.dp;omega
theorem Room.units(r:Room k A):A.units+64 < cLine:=by have:=r.un;omega
noncomputable def Aoj:TA:=fun _ H Q=>Q [] H
noncomputable def Ake(ta:TE)(tr:TA):TA:=fun σ H Q=>ta σ H fun x H1=>tr σ H1 fun xs H2=>Q (x::xs) H2
variable {t:TA}
section
theorem Yl:PA X [] Aoj:=fun _ _ _ _ H Q I h=>jW ⟨[],H,I,.nil,h⟩
theorem Qb(ha:PE X e te)(hr:PA X es t)(hs:bQ (e::es) X.env=(false,eval e X.env)::bQ es X.env:=by rfl):PA X (e::es) (Ake te t):=by
 intro pos pins s σ H Q I h
 rw[hs]
 show wpAny _ _ (spliced ((false,eval e X.env)::backTo pos (bQ es X.env))) _ _ s
 refine jN (thn (ha pins s σ H _ I h) fun u s1 zz=>?_)
 obtain ⟨x,H1,I1,r1,q1⟩:=zz
 refine thn (hr pos pins s1 σ H1 _ I1 q1) fun us s2 zz=>?_
 obtain ⟨xs,H2,I2,r2,q2⟩:=zz
 exact ⟨x::xs,H2,I2,.cons r1 r2,q2⟩
noncomputable def Ap6(t:TA):TE:=fun σ H Q=>t σ H fun xs H1=>xs.length<=sizeLine/\∀ p,H1 p=none->Q (.ref p) (upd H1 p (.tup xs))
noncomputable def Apz(t:TA):TE:=fun σ H Q=>t σ H fun xs H1=>xs.length<=sizeLine/\∀ p,H1 p=none->Q (.ref p) (upd H1 p (.lst xs))
theorem Ak9{x1}(h:PA X es t):PE X (.Tuple es x1 pos) (Ap6 t):=by
 intro pins s σ H Q I hq
 refine wpAny_Tuple_spliced (thn (h pos pins s σ H _ I hq) fun us s1 zz=>zz.elim fun xs H1 I1 r zq=>⟨by rw[<- r.length];exact zq.1,?_⟩)
 obtain ⟨z,q⟩:=zq
 have hf:H1 s1.heap.objs.size=none:=I1.hok.fresh (aS _)
 refine ⟨.ref s1.heap.objs.size,upd H1 s1.heap.objs.size (.tup xs),I1.laid (t':=s1.toks) (fun b u e=>aE _ e) (aS _) ?_,rfl,q _ hf⟩
 exact ⟨z,us,r,⟨_,bE _ rfl,rfl,_,rfl⟩⟩
theorem Anf(h:PA X es t):PE X (.List es pos) (Apz t):=by
 intro pins s σ H Q I hq
 refine wpAny_List_spliced (thn (h pos pins s σ H _ I hq) fun us s1 zz=>zz.elim fun xs H1 I1 r zq=>⟨by rw[<- r.length];exact zq.1,?_⟩)
 obtain ⟨z,q⟩:=zq
 have hf:H1 s1.heap.objs.size=none:=I1.hok.fresh (aS _)
 refine ⟨.ref s1.heap.objs.size,upd H1 s1.heap.objs.size (.lst xs),I1.laid (t':=s1.toks) (fun b u e=>aE _ e) (aS _) ?_,rfl,q _ hf⟩
 exact ⟨z,us,0,r,bE _ rfl⟩
end
abbrev Sp:=List V->Hp->VK->XK->Prop
abbrev CXT:=List Env->Hp->aR->XK->aG->aR->Prop
structure Env0(P:cX)(w:eG)(K:aJ)(mg:Str->Option aG)(base:Heap)(A:eE)(outer:List Env)(s:aR)(H:Hp):Prop where
 frames:A.frames=some outer
 mod:Mod K mg base
 bs:∀ b o,base.get? b=some o->s.heap.get? b=some o/\H b=none
 bsz:base.objs.size<=s.heap.objs.size
 funs:s.heap.FunFrames base outer
 frf:∀ b∈frs outer,H b=none
 hok:HOk P w H s.heap
 bare:nJ s.gens
inductive CE(outer:List Env)(P:cX)(w:eG)(H:Hp)(s:aR)(Q:VK)(u:aG)(s':aR):Prop
 | mk (v:V) (H':Hp) (os:s'.os=s.os) (bare:nJ s'.gens) (un:Un (frs outer) [] H H' s.heap s'.heap) (hok:HOk P w H' s'.heap) (r:RelV v u) (q:Q v H'):CE outer P w H s Q u s'
noncomputable def CR(CX:CXT)(outer:List Env)(P:cX)(w:eG)(H:Hp)(s:aR)(Q:VK)(E:XK)(r:sF)(s':aR):Prop:=
 match r with
 | .ok (.ret u)=>CE outer P w H s Q u s'
 | .ok _=>False
 | .error e=>CX outer H s E e s'
structure FnOk(P:cX)(w:eG)(K:aJ)(mg:Str->Option aG)(base:Heap)(CX:CXT)(k:Nat)(f:Addr)(fd:cU)(ps:List Str)(sp:Sp):Prop where
 len:∀ vs H Q E,sp vs H Q E->vs.length=ps.length
 run:∀ (A:eE) (outer:List Env) (s:aR) (H:Hp) (args:Args) (us:List aG) (vs:List V) (Q:VK) (E:XK),Room k A->Env0 P w K mg base A outer s H->pB s fd args (ps.zip us)->Vals vs us->sp vs H Q E ->
  kM (model P w) A (.call (.ref f) args) (CR CX outer P w H s Q E) s
variable {mg:Str->Option aG}{base:Heap}{CX:CXT}{fd:cU}{ps:List Str}{sp:Sp}
theorem FnOk.mono(F:FnOk P w K mg base CX j f fd ps sp)(h:j<=k) :
  FnOk P w K mg base CX k f fd ps sp:=⟨F.len,fun A outer s H args us vs Q E hr=>F.run A outer s H args us vs Q E (hr.mono h)⟩
theorem FnOk.imp{sp':Sp}(F:FnOk P w K mg base CX k f fd ps sp)
  (h:∀ vs H Q E,sp' vs H Q E->sp vs H Q E):FnOk P w K mg base CX k f fd ps sp':=
 ⟨fun vs H Q E q=>F.len vs H Q E (h _ _ _ _ q),fun A outer s H args us vs Q E hr he hb hv hs=>F.run A outer s H args us vs Q E hr he hb hv (h _ _ _ _ hs)⟩
theorem Env0.in1{outer:List Env}(e:Env0 P w K mg base A outer s H) :
  Env0 P w K mg base A.in1 outer s H:=⟨e.frames,e.mod,e.bs,e.bsz,e.funs,e.frf,e.hok,e.bare⟩
section
theorem Inv.env0(I:Inv X pins σ H s):Env0 X.prog X.w X.K X.mg X.base X.A X.stack s H:=
 ⟨I.ok.frames,I.ok.mod,I.bs,cL I.ok.bsz I.sz,I.stack,I.stkFree,I.hok,I.bare⟩
theorem Inv.after(I:Inv X pins σ H s)(h:CE X.stack X.prog X.w H s Q u s'):EP X pins σ Q u s':=by
 obtain ⟨v,H',os,bare,un,hok,r,q⟩:=h
 obtain ⟨hh,g,d,t,os'⟩:=s'
 obtain rfl:os'=s.os:=os
 exact ⟨v,H',I.call (h':=hh) (g':=g) (d':=d) (t':=t) (ch:=[]) un hok bare (fun b z=>absurd z (by simp)),r,q⟩
end
noncomputable def Aoe(sp:Sp)(dvs:List V)(E:XK)(t:TA):TE:=fun σ H Q=>t σ H fun vs H1=>sp (vs++dvs) H1 Q E
noncomputable def Binds(K:aJ)(fd:cU)(ps:List Str)(ds:List aG):Prop:=
 ∀ (s:aR) (us:List aG),K.In s.heap->(us++ds).length=ps.length->pB s fd ⟨us,[]⟩ (ps.zip (us++ds))
theorem Binds.all(h:∀ us:List aG,us.length=ps.length->bindArgs fd ⟨us,[]⟩=pure (ps.zip us)):Binds K fd ps []:=fun s us _ hl=>by
 rw[bB] at hl ⊢
 exact .of_eq (h us hl)
noncomputable def Yo(CX:CXT)(X:Cx)(E:XK):Prop:=∀ (pins:List (Addr×Obj)) (σ:St) (H:Hp) (s:aR) (e:aG) (s':aR),Inv X pins σ H s->CX X.stack H s E e s'->X.xe e s'
section
variable {dvs:List V}{ds:List aG}{E:XK}{m:Str}{apos:Pos}{o:Expr}
theorem Anp{vs:List V}(F:FnOk X.prog X.w X.K X.mg X.base CX k f fd ps sp)(hr:Room k X.A)(hb:Binds X.K fd ps ds)(hd:Vals dvs ds)(hx:Yo CX X E)
  (I:Inv X pins σ H s) (r:Vals vs us) (h:sp (vs++dvs) H Q E):wpAny (model X.prog X.w) X.A (call (.ref f) us) (EP X pins σ Q) X.xe s:=by
 have r2:Vals (vs++dvs) (us++ds):=r.append hd
 have hl:(us++ds).length=ps.length:=by rw[<- r2.length];exact F.len _ _ _ _ h
 refine wpAny_call (qD (F.run X.A X.stack s H ⟨us,[]⟩ (us++ds) (vs++dvs) Q E hr I.env0 (hb s us I.kIn hl) r2 h) fun r s' hq=>?_)
 cases r with
 | error e=>exact hx pins σ H s e s' I hq
 | ok fl=>
  cases fl with
  | ret u=>exact I.after hq
  | next=>exact fT hq
  | brk=>exact fT hq
  | cont=>exact fT hq
theorem Ah7(F:FnOk X.prog X.w X.K X.mg X.base CX k f fd ps sp)(hr:Room k X.A)(hg:Gl X x)(hm:X.mg x=some (.ref f))(hk:bX X.K (.ref f)=true)(hb:Binds X.K fd ps ds)(hd:Vals dvs ds)(hx:Yo CX X E)
  (ha:PA X (e::es) t) (hdb:(x == ("__debug__" : Str))=false:=by decide) (he:bQ (e::es) X.env=(false,eval e X.env)::bQ es X.env:=by rfl) (hpl:(backTo pos (bQ es X.env)).any (·.1)=false:=by rfl) :
  PE X (.Call (.Name x p) (e::es) [] pos) (Aoe sp dvs E t):=by
 intro pins s σ H Q I h
 refine dO (Ajy I hg hm ?_ hdb)
 refine PySem.W.callWith_K (h₀:=X.base) I.ok.mod.kin hk (thn (ha pos pins s σ H _ I h) fun us s1 zz=>zz.elim fun vs H1 I1 r q=>⟨I1.kIn,?_⟩) he hpl
 exact Anp F hr hb hd hx I1 r q
structure Mk(K:aJ)(C f:Addr):Prop where
 makes:PySem.W.makesIn K C=true
 init:jV K (.ref C) "__init__" = some (some (.ref f))
 fn:sV K (.ref f)=true
 kp:bX K (.ref C)=true
end
noncomputable def PK(X:Cx)(kws:List jJ)(t:TA):Prop:=
 ∀ (pos:Pos) (pins:List (Addr×Obj)) (s:aR) (σ:St) (H:Hp) (Q:List V->Hp->Prop),Inv X pins σ H s->t σ H Q->wpAny (model X.prog X.w) X.A (evalAll ((backToKw pos (keywordEach kws X.env)).map (·.2))) (AP X pins σ Q) X.xe s
section
variable {ks:List Str}{E:XK}{m:Str}{apos kpos:Pos}{o:Expr}{kws:List jJ}{tk:TA}{nm:Option Str}
theorem Agb:PK X [] Aoj:=fun _ _ _ _ H Q I h=>wpAny_evalAll_nil ⟨[],H,I,.nil,h⟩
theorem Vc(ha:PE X e te)(hr:PK X kws t):PK X (⟨nm,e,kpos⟩::kws) (Ake te t):=by
 intro pos pins s σ H Q I h
 show wpAny _ _ (evalAll ((do let v <- eval e X.env;standAt pos;pure v)::(backToKw pos (keywordEach kws X.env)).map (·.2))) _ _ s
 refine wpAny_evalAll_cons (aD (thn (ha pins s σ H _ I h) fun u s1 zz=>zz.elim fun x H1 I1 r1 q1=>aD (mM (bC ?_))))
 refine thn (hr pos pins s1 σ H1 _ I1 q1) fun us s2 zz=>?_
 obtain ⟨xs,H2,I2,r2,q2⟩:=zz
 exact ⟨x::xs,H2,I2,.cons r1 r2,q2⟩
structure KBinds(K:aJ)(fd:cU)(ps ks:List Str)(g:List aG->List aG->List aG)(gV:List V->List V->List V):Prop where
 to:∀ (s:aR) (us ws:List aG),K.In s.heap->(g us ws).length=ps.length->pB s fd ⟨us,ks.zip ws⟩ (ps.zip (g us ws))
 rel:∀ {vs:List V} {us:List aG} {zs:List V} {ws:List aG},Vals vs us->Vals zs ws->Vals (gV vs zs) (g us ws)
variable {g:List aG->List aG->List aG}{gV:List V->List V->List V}
end
structure FnScope(N P:List Str)(sc:jA):Prop where
 kind:sc.kind = .function
 co:sc.isCoroutine=false
 gen:sc.isGenerator=false
 nd:N.Nodup
 pre:N.take P.length=P
 par:∀ x∈P,sc.names.lookup x=some .local\/sc.names.lookup x=some .cell
 nofree:∀ y∈sc.names,y.2≠.free
variable {kindOf:Str->Option iN}
theorem Ub:∀ {binds:List (Str×aG)} {m:Str->Option aG},(∀ v,(x,v)∉binds)->bindL kindOf binds m x=m x
 | [],_,_=>rfl
 | (n,v)::r,m,h=>by
  unfold bindL
  rw[Ub fun w hw=>h w (aK _ hw)]
  split
  ·have:x≠n:=by rintro rfl;exact h v aT
   simp[this]
  ·rfl
theorem Uq:∀ {binds:List (Str×aG)} {m:Str->Option aG},(∀ v,(x,v)∉binds)->bindC kindOf binds m x=m x
 | [],_,_=>rfl
 | (n,v)::r,m,h=>by
  unfold bindC
  rw[Uq fun w hw=>h w (aK _ hw)]
  split
  ·rfl
  ·have:x≠n:=by rintro rfl;exact h v aT
   simp[this]
theorem Tw{v:aG}:∀ {P:List Str} {vs:List aG} {i:Nat} {m:Str->Option aG},P.Nodup->P[i]? = some x->vs[i]? = some v->kindOf x=some .local ->
  bindL kindOf (P.zip vs) m x=some v
 | [],_,_,_,_,h,_,_=>by simp at h
 | _::_,[],_,_,_,_,h,_=>by simp at h
 | p::P,w::vs,0,m,nd,h1,h2,hk=>by
  simp at h1 h2;subst h1;subst h2
  show bindL kindOf ((p,w)::P.zip vs) m p=_
  unfold bindL
  rw[Ub fun v hv=>(kQ.mp nd).1 (oE hv).1,if_pos hk]
  simp
 | p::P,w::vs,i+1,m,nd,h1,h2,hk=>by
  show bindL kindOf ((p,w)::P.zip vs) m x=_
  unfold bindL
  exact Tw (i:=i) (kQ.mp nd).2 (by simpa using h1) (by simpa using h2) hk
theorem Uo{v:aG}:∀ {P:List Str} {vs:List aG} {i:Nat} {m:Str->Option aG},P.Nodup->P[i]? = some x->vs[i]? = some v->kindOf x≠some .local ->
  bindC kindOf (P.zip vs) m x=some v
 | [],_,_,_,_,h,_,_=>by simp at h
 | _::_,[],_,_,_,_,h,_=>by simp at h
 | p::P,w::vs,0,m,nd,h1,h2,hk=>by
  simp at h1 h2;subst h1;subst h2
  show bindC kindOf ((p,w)::P.zip vs) m p=_
  unfold bindC
  rw[Uq fun v hv=>(kQ.mp nd).1 (oE hv).1,if_neg hk]
  simp
 | p::P,w::vs,i+1,m,nd,h1,h2,hk=>by
  show bindC kindOf ((p,w)::P.zip vs) m x=_
  unfold bindC
  exact Uo (i:=i) (kQ.mp nd).2 (by simpa using h1) (by simpa using h2) hk
noncomputable def start(N:List Str)(vs:List V):St:=vs.map some++bN (N.length - vs.length) none
noncomputable def Wn(CX:CXT)(P:cX)(w:eG)(K:aJ)(mg:Str->Option aG)(base:Heap)(N:List Str)(qual:Str)(scope:jA)(f:Addr)(cd:aG)(A:eE)(outer:List Env)(s:aR)(H:Hp)(E:XK):Cx where
 prog:=P
 w:=w
 K:=K
 mg:=mg
 base:=base
 A:=A.deeper (envOfC qual scope s.heap.objs.size f cd)
 N:=N
 s₀:=s
 H₀:=H
 env:=envOfC qual scope s.heap.objs.size f cd
 outer:=outer
 stack:=envOfC qual scope s.heap.objs.size f cd::outer
 ex:=[]
 calm:=true
 fn:=fun _=>true
 pn:=[]
 xe:=fun e s'=>wpAny (model P w) (A.deeper (envOfC qual scope s.heap.objs.size f cd)) (leaving (envOfC qual scope s.heap.objs.size f cd) e) (fun _ s''=>CX outer H s E e s'') (fun e' s''=>CX outer H s E e' s'') s'
theorem V9{sc:jA}{n:Nat}(h:sc.names.lookup x=some .cell):∃ c,(cellsFrom n sc.names []).lookup x=some c:=by
 have q:=jX sc.names n [] (.inl h)
 exact jE.mp q
theorem Adc{N:List Str}{qual:Str}{scope:jA}{cd:aG}{outer:List Env}{s1:aR}{E:XK}{vs:List V}
  (S:FnScope N ps scope) (hd:A.handled=none) (e0:Env0 P w K mg base A outer s H) (hl:vs.length=ps.length) (r:Vals vs us)
  (x:InCallC s s.heap.objs.size (bindL (envOfC qual scope s.heap.objs.size f cd).kindOf (ps.zip us) fun _=>none) (cellsFrom (s.heap.objs.size+1) scope.names []) (bindC (envOfC qual scope s.heap.objs.size f cd).kindOf (ps.zip us) fun _=>none) s1) :
  Inv (Wn CX P w K mg base N qual scope f cd A outer s H E) [] (start N vs) H s1:=by
 have hpl:ps.length<=N.length:=by have:=congrArg eW S.pre;rw[fK] at this;omega
 obtain ⟨h1,tk,rfl,hk⟩:=x.done
 have noA:∀ b:Addr,b∉(Wn CX P w K mg base N qual scope f cd A outer s H E).ex:=fun b z=>absurd (show b∈([]:List Addr) from z) (by simp)
 refine ⟨⟨e0.mod,S.kind,rfl,rfl,aS _,fun y z c h1 h2=>?_,fun y hy=>?_,fun y c _ h=>?_,fun _=>hd,oT e0.frames,.inr ⟨rfl,rfl⟩,fun b z=>absurd z (noA b),e0.bs,e0.bsz,fun b _ _=>noA b,fun b z=>absurd z (noA b),e0.funs,e0.frf⟩,
  rfl,e0.bare,Un.kept hk,⟨_,x.toInCall.ns,fun i y v h1 h2 h3=>?_⟩,fun y c h=>⟨_,x.cell y c h⟩,e0.hok.fresh (aS _),fun y c h=>?_,fun p hp=>absurd (show p∈([]:List (Addr×Obj)) from hp) (by simp),e0.hok.kept hk,?_⟩
 ·exact name_of_addr x.apart (iC h1) (iC h2)
 ·have hy:scope.names.lookup y=some .cell\/scope.names.lookup y=some .free:=hy
  rcases hy with hy | hy
  ·exact V9 hy
  ·exact absurd rfl (S.nofree _ (iC hy))
 ·exact nK (x.above y c (iC h))
 ·have hi:i < vs.length:=by
   unfold start at h2
   by_cases hi:i < vs.length
   ·exact hi
   ·rw[cJ (by simpa using hi)] at h2
    rw[List.getElem?_replicate] at h2
    split at h2 <;> cases h2
  have ha:vs[i]? = some v:=by
   unfold start at h2
   rw[bI (by simpa using hi),bO] at h2
   cases e:vs[i]? with
   | none=>rw[e] at h2;cases h2
   | some a=>rw[e] at h2;cases h2;rfl
  obtain ⟨u,hu,rv⟩:=r.get ha
  have hp:ps[i]? = some y:=by
   rw[<- S.pre,List.getElem?_take_of_lt (by omega)];exact h1
  have ndP:ps.Nodup:=by rw[<- S.pre];exact S.nd.sublist (List.take_sublist _ _)
  refine ⟨u,rv,?_⟩
  rcases S.par y (bV hp) with k | k
  ·exact .inl ⟨k,Tw ndP hp hu k⟩
  ·obtain ⟨c,e⟩:=V9 (n:=s.heap.objs.size+1) k
   refine .inr ⟨.inl k,c,e,?_⟩
   have q:=x.cell y c e
   rw[Uo ndP hp hu (by show scope.names.lookup y≠_;rw[k];decide)] at q
   exact q
 ·exact e0.hok.fresh (nK (x.above y c (iC h)))
 ·unfold start
  show _=N.length
  rw[cH,aQ,List.length_replicate]
  omega
theorem Aj9{name qual:Str}{params:kG}{scope:jA}{dV kV doc pm cdv ct oc:aG}{an od:Option Addr}
  {osl:Array (Option aG)} {N ps:List Str} {sp:Sp} (lk:K.lookup f=some ⟨oc,od,.func (cE name qual params body scope dV kV doc pm an cdv ct),osl⟩) (hcd:cD K cdv qual=true) (S:FnScope N ps scope)
  (len:∀ vs H Q E,sp vs H Q E->vs.length=ps.length)
  (hbody:∀ (A:eE) (outer:List Env) (s:aR) (H:Hp) (vs:List V) (Q:VK) (E:XK),Room k (A.deeper (envOfC qual scope s.heap.objs.size f cdv))->sp vs H Q E ->
   ∃ t,PSs (Wn CX P w K mg base N qual scope f cdv A outer s H E) body t/\t { nx:=fun _ H'=>Q .non H',rt:=Q } (start N vs) H) :
  FnOk P w K mg base CX (k+1) f (cE name qual params body scope dV kV doc pm an cdv ct) ps sp:=by
 refine ⟨len,fun A outer s H args us vs Q E hr e0 hb r hsp=>?_⟩
 have hl:=len _ _ _ _ hsp
 have KX:K.In s.heap:=e0.mod.kin.keeps fun b o e=>(e0.bs b o e).1
 have lim:s.heap.NoLimit:=e0.mod.nolimit.keeps fun b o e=>(e0.bs b o e).1
 have hkind:∀ y∈ps.zip us,scope.names.lookup y.1=some .local\/(scope.names.lookup y.1=some .cell/\((cellsFrom (s.heap.objs.size+1) scope.names []).lookup y.1).isSome=true):=fun ⟨n,v⟩ hy=>by
  rcases S.par n (oE hy).1 with q | q
  ·exact .inl q
  ·exact .inr ⟨q,jX _ _ _ (.inl q)⟩
 refine codeAny_call_function hr.depth (KX _ _ lk) rfl S.co S.gen rfl (PySem.W.codeRec_of KX hcd) (hb _ _ _ _ ?_)
 refine wpAny_newFunctionEnv_cells S.kind hkind fun env he s1 x=>?_
 subst he
 refine ⟨lim.keeps x.toInCall.keep,codeAny_func ?_⟩
 obtain ⟨t,ht,hq⟩:=hbody A outer s H vs Q E (hr.deeper _) hsp
 have I:Inv (Wn CX P w K mg base N qual scope f cdv A outer s H E) [] (start N vs) H s1:=Adc S hr.hd e0 hl r x
 refine dN (ht [] s1 (start N vs) H _ I hq) (fun fl s' hs=>?_) fun e s' hs=>hs
 have fin:∀ {σ':St} {H':Hp} {v:V} {u:aG},Inv (Wn CX P w K mg base N qual scope f cdv A outer s H E) [] σ' H' s'->RelV v u->Q v H'->CE outer P w H s Q u s':=
  fun {σ' H' v u} J rv q=>⟨v,H',J.os,J.bare,J.base,J.hok,rv,q⟩
 cases fl with
 | ret u=>
  obtain ⟨v,σ',H',J,rv,q⟩:=hs
  exact fin J rv q
 | next=>
  obtain ⟨σ',H',J,q⟩:=hs
  exact fin (v:=V.non) (u:=fH) J rfl q
 | brk=>
  obtain ⟨_,_,_,q⟩:=hs
  exact fT q
 | cont=>
  obtain ⟨_,_,_,q⟩:=hs
  exact fT q
section
variable {id T:String}{r:List V->Hp->VK->Prop}
noncomputable def tCB(r:List V->Hp->VK->Prop)(t:TA):TE:=fun σ H Q=>t σ H fun vs H1=>r vs H1 Q
theorem Xh(hc:CallR X (.builtin id) r)(hg:Gl X x)(hm:X.mg x=none)(hv:eZ x=some (.builtin id))(ha:PA X (e::es) t)(hn:x ≠ "__name__" := by decide)(hdb:(x == ("__debug__" : Str))=false:=by decide)
  (he:bQ (e::es) X.env=(false,eval e X.env)::bQ es X.env:=by rfl) (hpl:(backTo pos (bQ es X.env)).any (·.1)=false:=by rfl):PE X (.Call (.Name x p) (e::es) [] pos) (tCB r t):=by
 intro pins s σ H Q I h
 refine dO (Fq I hg hm hv ?_ hn hdb)
 exact iE (thn (ha pos pins s σ H _ I h) fun us s1 zz=>by obtain ⟨vs,H1,I1,r1,q1⟩:=zz;exact hc pins s1 σ H1 vs us Q I1 r1 q1) he hpl
theorem Ad5(hc:CallR X (.type T) r)(hg:Gl X x)(hm:X.mg x=none)(hv:eZ x=some (.type T))(ha:PA X (e::es) t)(hn:x ≠ "__name__" := by decide)(hdb:(x == ("__debug__" : Str))=false:=by decide)
  (he:bQ (e::es) X.env=(false,eval e X.env)::bQ es X.env:=by rfl) (hpl:(backTo pos (bQ es X.env)).any (·.1)=false:=by rfl):PE X (.Call (.Name x p) (e::es) [] pos) (tCB r t):=by
 intro pins s σ H Q I h
 refine dO (Fq I hg hm hv ?_ hn hdb)
 exact cY (thn (ha pos pins s σ H _ I h) fun us s1 zz=>by obtain ⟨vs,H1,I1,r1,q1⟩:=zz;exact hc pins s1 σ H1 vs us Q I1 r1 q1) he hpl
end
end L2
namespace HT
open PySem PyProof.Rows
noncomputable def Hq:List Int->List Int->Bool
 | [],[]=>false
 | [],_::_=>true
 | _::_,[]=>false
 | x::xs,y::ys=>if x=y then Hq xs ys else decide (x < y)
theorem Rv(x y:Int)(xs ys:List Int):Hq (x::xs) (y::ys)=if x=y then Hq xs ys else decide (x < y):=rfl
theorem S7:Hq [] []=false:=rfl
theorem Ry(y:Int)(ys:List Int):Hq [] (y::ys)=true:=rfl
theorem Sn(x:Int)(xs:List Int):Hq (x::xs) []=false:=rfl
theorem Ru(A:eE)(s:aR)(a:Int)(t:Tok)(c:Int)(u:Tok):∃ e,pK A s (.int a t) (.int c u) e/\(e=true↔a=c):=
 ⟨(a == c),pL a t c u,by simp⟩
theorem Vw(A:eE)(s:aR)(a:Int)(t:Tok)(c:Int)(u:Tok)(prog:cX)(w:eG)(E:aG->aR->Prop)(Q:aG->aR->Prop)(h:Q (.bool (decide (a < c))) s) :
  wpAny (model prog w) A (richCompare .Lt (.int a t) (.int c u)) Q E s:=
 (PyProof.Rows.lt_int h:wpAny (model prog w) A (eM .Lt (.int a t) (.int c u)) Q E s)
section
open PySem.SeqAt
open PySem.AutoSeq1 (wpAny_loadPart')
open PySem.MeetsSeq PySem.MeetsSeq2 PySem.MeetsSeq3
theorem Tf(l b:Addr)(items items2:Array aG)(n n2:Nat)(dd dd2:Option Addr)(sl sl2:Array (Option aG))(ns ms:List Int)(hi:fX items.toList ns)(hj:fX items2.toList ms) :
  Meets (nM.«tuple.__lt__» ⟨[.ref l,.ref b],[]⟩)
   (fun _ R s=>s.heap.get? l=some { cls:=.type "tuple",dict:=dd,data:=.seq items n,slots:=sl }/\s.heap.get? b=some { cls:=.type "tuple",dict:=dd2,data:=.seq items2 n2,slots:=sl2 } /\
    R (.ok (.ret (.bool (Hq ns ms)))) s):=
 .of_wp fun prog w A R s h=>by
  obtain ⟨hp,g,d,tk,os⟩:=s;obtain ⟨hl,hb,h⟩:=h
  have f2:=mN
  have z1:items.size=ns.length:=by rw[<- hi.length];simp
  have z2:items2.size=ms.length:=by rw[<- hj.length];simp
  wp_walk using iO hl,iO hb,qX _ (fun rest b s'=>b.1=none/\s'=⟨hp,g,d,tk,os⟩/\∃ (vs ws:List aG) (ns' ms':List Int),rest=vs.zip ws /\
   fX vs ns'/\fX ws ms'/\ns'.length+items2.size=ms'.length+items.size/\R (.ok (.ret (.bool (Hq ns' ms')))) ⟨hp,g,d,tk,os⟩) _
  case turn=>
   rintro ⟨y,x⟩ rest b s' ⟨hb',rfl,vs,ws,ns',ms',hz,hvi,hwi,hlen,hR⟩
   cases hvi with
   | nil=>rw[qE] at hz;cases hz
   | cons a t hvi'=>
    cases hwi with
    | nil=>rw[pM] at hz;cases hz
    | cons c u hwi'=>
     rw[jO] at hz
     injection hz with hyx hrest
     injection hyx with hy hx
     subst hy hx
     rw[Rv] at hR
     simp only[aM] at hlen
     obtain ⟨e,he,hiff⟩:=Ru A.in1 ⟨hp,g,d,tk,os⟩ a t c u
     refine aD (he prog w _ _ ?_)
     cases e with
     | true=>
      rw[if_pos (hiff.mp rfl)] at hR
      wp_walk
      exact ⟨rfl,rfl,_,_,_,_,hrest,hvi',hwi',by omega,hR⟩
     | false=>
      rw[if_neg (fun q=>absurd (hiff.mpr q) cM)] at hR
      have hri:=Vw A.in1 ⟨hp,g,d,tk,os⟩ a t c u prog w
      wp_walk using hri
      exact ⟨_,rfl,by simpa using hR⟩
  case fin=>
   rintro ⟨b1,b2⟩ s' ⟨hb',rfl,vs,ws,ns',ms',hz,hvi,hwi,hlen,hR⟩
   simp only at hb'
   subst hb'
   have hv:Hq ns' ms'=decide (items.size < items2.size):=by
    cases hvi with
    | nil=>
     cases hwi with
     | nil=>
      simp only[aY] at hlen
      rw[S7]
      exact (decide_eq_false (by omega)).symm
     | cons c u hw=>
      simp only[aY,aM] at hlen
      rw[Ry]
      exact (decide_eq_true (by omega)).symm
    | cons a t hv=>
     cases hwi with
     | nil=>
      simp only[aY,aM] at hlen
      rw[Sn]
      exact (decide_eq_false (by omega)).symm
     | cons c u hw=>
      rw[jO] at hz
      cases hz
   rw[hv] at hR
   wp_walk
   exact ⟨_,rfl,by simpa[kB] using hR⟩
  case h=>
   exact ⟨rfl,rfl,items.toList,items2.toList,ns,ms,rfl,hi,hj,by omega,h⟩
end
variable {Q:aG->aR->Prop}
section
variable {prog:cX}{w:eG}{A:eE}{E:aG->aR->Prop}{s:aR}
theorem Sa{l b:Addr}{items items2:Array aG}{ns ms:List Int}(hl:oD s.heap l items)(hb:oD s.heap b items2)(hi:fX items.toList ns)(hj:fX items2.toList ms)
  (hu:A.units < cLine) (h:Q (.bool (Hq ns ms)) s):wpAny (model prog w) A (eM .Lt (.ref l) (.ref b)) Q E s:=by
 obtain ⟨⟨cls,dd,data,sl⟩,ho,hc,n,hd⟩:=id hl
 obtain ⟨⟨cls2,dd2,data2,sl2⟩,ho2,hc2,n2,hd2⟩:=id hb
 simp only at hc hd hc2 hd2
 subst hc hd hc2 hd2
 exact nN (op:=.Lt) ⟨_,ho,rfl⟩ ⟨_,ho2,rfl⟩ oK nO (mY _ _) (Tf l b items items2 n n2 dd dd2 sl sl2 ns ms hi hj)
  ⟨ho,ho2,show nI (Hq ns ms)≠oU/\Q (.bool (Hq ns ms)) s from ⟨(fun x=>nomatch x),h⟩⟩ hu
theorem Ai0{t b:Addr}{vs ws:List aG}(ht:oD s.heap t vs.toArray)(hb:oD s.heap b ws.toArray)(hv:vs≠[])
  (h1:ws=[]->Q (.ref t) s) (h2:ws≠[]->Q (.ref s.heap.objs.size) { s with heap:=s.heap.push { cls:=.type "tuple",data:=.seq (vs++ws).toArray } })
  (hsz:vs.length+ws.length<=sizeLine):wpAny (model prog w) A (fV .Add (.ref t) (.ref b)) Q E s:=by
 obtain ⟨⟨cls,dd,data,sl⟩,ho,hc,n,hd⟩:=id ht
 obtain ⟨⟨cls2,dd2,data2,sl2⟩,ho2,hc2,n2,hd2⟩:=id hb
 simp only at hc hd hc2 hd2
 subst hc hd hc2 hd2
 have e:vs.toArray++ws.toArray=(vs++ws).toArray:=by simp
 by_cases hw:ws=[]
 ·exact concat_meets ⟨_,ho,rfl⟩ ⟨_,ho2,rfl⟩ qY seq_tuple_add nQ mZ (mO _ _)
   (tuple_addW1 t b vs.toArray ws.toArray n n2 dd dd2 sl sl2 (by simpa using hv) (by simp[hw])) ⟨ho,ho2,h1 hw⟩
 ·refine concat_meets ⟨_,ho,rfl⟩ ⟨_,ho2,rfl⟩ qY seq_tuple_add nQ mZ (mO _ _)
   (tuple_addW2 t b vs.toArray ws.toArray n n2 dd dd2 sl sl2 (by simpa using hv) (by simpa using hw) (by rw[aX,aX];exact hsz)) ⟨ho,ho2,?_⟩
  rw[e]
  exact h2 hw
noncomputable def sIx(n d:Nat):Option Int->Nat
 | none=>d
 | some v=>if v < 0 then (v+(n:Int)).toNat else min v.toNat n
theorem Afd(n d:Nat):sIx n d none=d:=rfl
theorem Aik(n d k:Nat):sIx n d (some (k:Int))=min k n:=by
 show (if (k:Int) < 0 then ((k:Int)+(n:Int)).toNat else min (k:Int).toNat n)=min k n
 rw[if_neg (by omega),eJ]
theorem Al4(n d:Nat)(hd:d<=n)(o:Option Int):sIx n d o<=n:=by
 cases o with
 | none=>exact hd
 | some v=>
  show (if v < 0 then (v+(n:Int)).toNat else min v.toNat n)<=n
  by_cases hv:v < 0
  ·rw[if_pos hv];omega
  ·rw[if_neg hv];exact Nat.min_le_right _ _
theorem Aav(v:Int)(n d:Nat):(if v < 0 then max (v+(n:Int)) 0 else min v (n:Int))=((sIx n d (some v):Nat):Int):=by
 show (if v < 0 then max (v+(n:Int)) 0 else min v (n:Int))=(((if v < 0 then (v+(n:Int)).toNat else min v.toNat n):Nat):Int)
 by_cases hv:v < 0
 ·simp only[if_pos hv];omega
 ·simp only[if_neg hv];omega
theorem X8(lo hi:Option Int)(n:Nat):fF lo hi 1 (n:Int)=(((sIx n 0 lo:Nat):Int),((sIx n n hi:Nat):Int)):=by
 have h1:¬ ((1:Int) < 0):=by omega
 unfold fF
 simp only[h1,if_false]
 refine Prod.ext ?_ ?_
 ·cases lo with
  | none=>rfl
  | some v=>exact Aav v n 0
 ·cases hi with
  | none=>rfl
  | some v=>exact Aav v n n
theorem Ys(i j:Nat):dJ (i:Int) (j:Int) 1=j - i:=by
 unfold dJ
 have h1:(1:Int) > 0:=by omega
 simp only[h1,if_true,Int.ediv_one]
 split <;> omega
theorem Ib{v:aG}{o:Option Int}{Q:Option Int->aR->Prop}(p:nR v o)(h:Q o s):wpAny (model prog w) A (nM.Slice.slicePartIndex v) Q E s:=by
 cases p with
 | none=>exact slicePart_none h
 | int i t=>exact slicePart_int h
theorem Ox{sl:Addr}{vl vu:aG}{lo hi:Option Int}{n:Nat}{Q:Int×Int×Nat->aR->Prop}(hs:s.heap.IsSliceOf sl vl vu .none)(pl:nR vl lo)(pu:nR vu hi)
  (h:Q (((sIx n 0 lo:Nat):Int),1,sIx n n hi - sIx n 0 lo) s):wpAny (model prog w) A (gJ (.ref sl) (pure (n:Int))) Q E s:=by
 obtain ⟨os,hos,hcs,hds⟩:=id hs
 unfold gJ mC
 refine aD (aD (dR hos hds (x:=vl) rfl (aD (dR hos hds (x:=vu) rfl (aD (dR hos hds (x:=.none) rfl (bC ?_)))))))
 refine aD (slicePart_none ?_)
 show wpAny _ _ (if ((1:Int) == 0)=true then _ else _) _ _ s
 rw[if_neg (by decide)]
 refine aD (Ib pl (aD (Ib pu (aD (bC ?_)))))
 show wpAny _ _ (match fF lo hi 1 (n:Int) with | (lo,hi)=>pure (lo,(1:Int),dJ lo hi 1)) _ _ s
 rw[X8 lo hi n]
 show wpAny _ _ (pure (((sIx n 0 lo:Nat):Int),(1:Int),dJ ((sIx n 0 lo:Nat):Int) ((sIx n n hi:Nat):Int) 1)) _ _ s
 rw[Ys]
 exact bC h
theorem Af7(xs:Array aG)(i k:Nat):((aO k).filterMap fun (m:Nat)=>xs[((i:Int)+(m:Int) * 1).toNat]?).toArray=((xs.toList.drop i).take k).toArray:=by
 have e:(fun (m:Nat)=>xs[((i:Int)+(m:Int) * 1).toNat]?)=fun m=>xs[i+m]?:=by
  funext m
  have:((i:Int)+(m:Int) * 1).toNat=i+m:=by omega
  rw[this]
 rw[e]
 have:=pick_run xs i k
 rw[jP] at this
 have e2:((fun x=>xs[x]?)∘fun x=>i+x)=fun m=>xs[i+m]?:=rfl
 rw[e2] at this
 rw[this]
theorem Nw{t sl:Addr}{items:Array aG}{vl vu:aG}{lo hi:Option Int}(ht:oD s.heap t items)(hs:s.heap.IsSliceOf sl vl vu .none)(pl:nR vl lo)(pu:nR vu hi)
  (hw:¬ (sIx items.size 0 lo=0/\sIx items.size items.size hi=items.size))
  (h:Q (.ref s.heap.objs.size) { s with heap:=s.heap.push { cls:=.type "tuple",data:=.seq ((items.toList.drop (sIx items.size 0 lo)).take (sIx items.size items.size hi - sIx items.size 0 lo)).toArray } })
  (hsz:items.size<=sizeLine):wpAny (model prog w) A (getItem (.ref t) (.ref sl)) Q E s:=by
 have htake:sizeOk (.seq ((items.toList.drop (sIx items.size 0 lo)).take (sIx items.size items.size hi - sIx items.size 0 lo)).toArray):=by
  show ((items.toList.drop (sIx items.size 0 lo)).take (sIx items.size items.size hi - sIx items.size 0 lo)).toArray.size<=sizeLine
  rw[aX,fK,nA,dA]
  omega
 have hj:sIx items.size items.size hi<=items.size:=Al4 _ _ (aS _) hi
 obtain ⟨os,hos,hcs,hds⟩:=id hs
 have hTs:s.TypeIs (.ref sl) "slice" := ⟨os,hos,hcs⟩
 unfold getItem
 try with_reducible refine eY ?_
 first | refine aD (bC ?_) | skip
 refine aD (qF ht.typeIs (by decide) ?_)
 refine aD (eN (name:=dM "__getitem__") ht.typeIs dQ
  (fL dQ ht.typeIs pC ?_ (pN _ _)))
 show wpAny _ _ (lR (.ref t) >>= _) _ _ s
 refine aD (tupleItemsOf_ ht ?_)
 refine aD (wpAny_typeOf hTs ?_)
 rw[if_pos (by decide)]
 refine aD (Ox hs pl pu ?_)
 have hno:¬ ((((sIx items.size 0 lo:Nat):Int) == 0&&(1:Int) == 1&&(sIx items.size items.size hi - sIx items.size 0 lo) == items.size)=true):=by
  intro q
  rw[cG,cG] at q
  have q1:((sIx items.size 0 lo:Nat):Int)=0:=eq_of_beq q.1.1
  have q2:sIx items.size items.size hi - sIx items.size 0 lo=items.size:=eq_of_beq q.2
  exact hw ⟨by omega,by omega⟩
 show wpAny _ _ (if (((sIx items.size 0 lo:Nat):Int) == 0&&(1:Int) == 1&&(sIx items.size items.size hi - sIx items.size 0 lo) == items.size)=true then _ else _) _ _ s
 rw[if_neg hno,Af7]
 first
  | exact aD (m:=dP _) (dD (bC ⟨_,rfl,bC h⟩) htake)
  | exact aD (m:=dP _) (dD (aD (bC (bC ⟨_,rfl,bC h⟩))) htake)
  | exact aD (aD (m:=dP _) (dD (bC (bC ⟨_,rfl,bC h⟩)) htake))
  | exact aD (aD (m:=dP _) (dD (bC ⟨_,rfl,bC h⟩) htake))
end
end HT
namespace L2
open PySem PySem.Spec PyProof.Rows
abbrev TO:=St->Hp->(Option Int->Hp->Prop)->Prop
noncomputable def PO(X:Cx)(e:Option Expr)(t:TO):Prop:=
 ∀ (pins:List (Addr×Obj)) (s:aR) (σ:St) (H:Hp) (Q:Option Int->Hp->Prop),Inv X pins σ H s->t σ H Q ->
  wpAny (model X.prog X.w) X.A (evalPart e X.env) (fun u s'=>∃ o H',Inv X pins σ H' s'/\nR u o/\Q o H') X.xe s
noncomputable def Aje:TO:=fun _ H Q=>Q none H
noncomputable def Aog(t:TE):TO:=fun σ H Q=>t σ H fun x H1=>∃ i,x = .int i/\Q (some i) H1
theorem Dx{ns:List Int}:∀ {us:List aG},Vals (ns.map V.int) us->fX us ns:=by
 induction ns with
 | nil=>intro us r;rw[bW] at r;cases r;exact .nil
 | cons n ns ih=>
  intro us r
  rw[aW] at r
  cases r with
  | cons r1 r2=>
   obtain ⟨t,e⟩:=r1
   subst e
   exact .cons n t (ih r2)
variable {X:Cx}{xs:List V}{us:List aG}
section
variable {e:Expr}{te:TE}{lo hi:Option Expr}{tl th:TO}{pos p2:Pos}
theorem Aie:PO X none Aje:=by
 intro pins s σ H Q I h
 rw[mP]
 exact bC ⟨none,H,I,.none,h⟩
theorem Aiz(h:PE X e te):PO X (some e) (Aog te):=by
 intro pins s σ H Q I hw
 rw[evalPart_some]
 refine thn (h pins s σ H _ I hw) fun u s1 zz=>?_
 obtain ⟨x,H1,I1,r1,q1⟩:=zz
 obtain ⟨i,rfl,q⟩:=q1
 obtain ⟨t,rfl⟩:=r1
 exact ⟨some i,H1,I1,.int i t,q⟩
noncomputable def SlR(X:Cx)(r:V->Option Int->Option Int->Hp->VK->Prop):Prop:=
 ∀ (pins:List (Addr×Obj)) (s:aR) (σ:St) (H:Hp) (x:V) (v vl vu:aG) (lo hi:Option Int) (sl:Addr) (Q:VK),Inv X pins σ H s->RelV x v->s.heap.IsSliceOf sl vl vu .none->nR vl lo->nR vu hi->r x lo hi H Q ->
  ∃ T id,typeLookup (.type T) "__getitem__" = pure (some (.builtin id))/\s.TypeIs v T/\wpAny (model X.prog X.w) X.A (getItem v (.ref sl)) (EP X pins σ Q) X.xe s
theorem SlR.or{r r':V->Option Int->Option Int->Hp->VK->Prop}(h:SlR X r)(h':SlR X r'):SlR X (fun x lo hi H Q=>r x lo hi H Q\/r' x lo hi H Q):=by
 intro pins s σ H x v vl vu lo hi sl Q I rx hs pl pu q
 rcases q with q | q
 ·exact h pins s σ H x v vl vu lo hi sl Q I rx hs pl pu q
 ·exact h' pins s σ H x v vl vu lo hi sl Q I rx hs pl pu q
noncomputable def tSl(r:V->Option Int->Option Int->Hp->VK->Prop)(te:TE)(tl th:TO):TE:=fun σ H Q=>te σ H fun x H1=>tl σ H1 fun l H2=>th σ H2 fun u H3=>r x l u H3 Q
theorem Af1{r:V->Option Int->Option Int->Hp->VK->Prop}(hr:SlR X r)(he:PE X e te)(hl:PO X lo tl)(hu:PO X hi th):PE X (.Subscript e (.Slice lo hi none p2) pos) (tSl r te tl th):=by
 intro pins s σ H Q I h
 refine pO (thn (he pins s σ H _ I h) fun v s1 zz=>?_)
 obtain ⟨x,H1,I1,r1,q1⟩:=zz
 refine rL (thn (hl pins s1 σ H1 _ I1 q1) fun vl s2 ⟨l,H2,I2,pl,q2⟩=>thn (hu pins s2 σ H2 _ I2 q2) fun vu s3 zz=>?_)
 obtain ⟨u,H3,I3,pu,q3⟩:=zz
 rw[mP]
 refine bC ?_
 have I4:Inv X pins σ H3 { s3 with heap:=s3.heap.push { cls:=.type "slice",data:=.fields #[vl,vu,.none] } }:=I3.kept (t':=s3.toks) fun b ob q=>aE _ q
 obtain ⟨T,id,hT,ht,hg⟩:=hr pins { s3 with heap:=s3.heap.push { cls:=.type "slice",data:=.fields #[vl,vu,.none] } } σ H3 x v vl vu l u s3.heap.objs.size Q I4 r1 (lU ..) pl pu q3
 show wpAny (model X.prog X.w) X.A (subscriptTail e (.Slice lo hi none p2) v (.ref s3.heap.objs.size)) (EP X pins σ Q) X.xe { s3 with heap:=s3.heap.push { cls:=.type "slice",data:=.fields #[vl,vu,.none] } }
 exact sG (ops:=[.ref s3.heap.objs.size,v]) ht hT hg (by with_unfolding_all rfl)
noncomputable def Wa(xs:List V)(lo hi:Option Int):List V:=(xs.drop (HT.sIx xs.length 0 lo)).take (HT.sIx xs.length xs.length hi - HT.sIx xs.length 0 lo)
theorem Pa(xs:List V)(lo hi:Option Int):(Wa xs lo hi).length<=xs.length:=by
 unfold Wa
 rw[fK,nA]
 omega
noncomputable def Ape(K:aJ):V->Option Int->Option Int->Hp->VK->Prop:=fun x lo hi H Q=>∃ a xs,x = .ref a/\SqT K H a xs /\
 ¬ (HT.sIx xs.length 0 lo=0/\HT.sIx xs.length xs.length hi=xs.length)/\∀ p,H p=none->Q (.ref p) (upd H p (.tup (Wa xs lo hi)))
theorem Alv:SlR X (Ape X.K):=by
 intro pins s σ H x v vl vu lo hi sl Q I rx hs pl pu h
 obtain ⟨a,xs,rfl,hx,hw,q⟩:=h
 cases rx
 obtain ⟨its,r,ht,hz⟩:=I.tuple hx
 have hlen:its.toArray.size=xs.length:=by rw[aX];exact r.length.symm
 refine ⟨"tuple",_,dQ.lookup,ht.typeIs,?_⟩
 refine HT.Nw ht hs pl pu (by rw[hlen];exact hw) ?_ (by rw[hlen];exact hz)
 rw[hlen]
 refine ⟨.ref s.heap.objs.size,_,I.laid (t':=s.toks) (o:=.tup (Wa xs lo hi)) (fun b ob q=>aE _ q) (aS _) ?_,rfl,q _ (I.hok.fresh (aS _))⟩
 exact ⟨cL (Pa xs lo hi) hz,_,(r.drop (HT.sIx xs.length 0 lo)).take (HT.sIx xs.length xs.length hi - HT.sIx xs.length 0 lo),TupN.new _ _⟩
noncomputable def Akc(K:aJ):R2:=fun x y H Q=>∃ a b xs ys,x = .ref a/\y = .ref b/\SqT K H a xs/\SqT K H b ys/\xs≠[]/\xs.length+ys.length<=sizeLine /\
 (ys=[]->Q (.ref a) H)/\(ys≠[]->∀ p,H p=none->Q (.ref p) (upd H p (.tup (xs++ys))))
theorem Vals.nil_iff(r:Vals xs us):us=[]↔xs=[]:=by
 cases r with
 | nil=>simp
 | cons _ _=>simp
theorem Ah8:OpR X (fV .Add) (Akc X.K):=by
 intro pins s σ H x y v u Q I rx ry h
 obtain ⟨a,b,xs,ys,rfl,rfl,ha,hb,hx,hz,q1,q2⟩:=h
 cases rx
 cases ry
 obtain ⟨its,r1,p1,_⟩:=I.tuple ha
 obtain ⟨its2,r2,p2,_⟩:=I.tuple hb
 refine HT.Ai0 p1 p2 (fun z=>hx (r1.nil_iff.mp z)) (fun z=>⟨.ref a,H,I,rfl,q1 (r2.nil_iff.mp z)⟩) (fun z=>?_) (by rw[<- r1.length,<- r2.length];exact hz)
 refine ⟨.ref s.heap.objs.size,_,I.laid (t':=s.toks) (o:=.tup (xs++ys)) (fun b ob q=>aE _ q) (aS _) ?_,rfl,q2 (fun w=>z (r2.nil_iff.mpr w)) _ (I.hok.fresh (aS _))⟩
 exact ⟨by rw[cH];exact hz,_,r1.append r2,TupN.new _ _⟩
end
noncomputable def ixN(n:Nat)(i:Int):Option Nat:=if 0<=i then (if i < n then some i.toNat else none) else if -(n:Int)<=i then some (i+n).toNat else none
noncomputable def atI{α:Type}(xs:List α)(i:Int):Option α:=(ixN xs.length i).bind fun j=>xs[j]?
variable {n:Nat}
theorem Aa7{i:Int}{j:Nat}(h:ixN n i=some j):seqIndex? i n=some j/\j < n/\-(n:Int)<=i/\i < n:=by
 unfold ixN at h
 by_cases h0:0<=i
 ·rw[if_pos h0] at h
  by_cases h1:i < n
  ·rw[if_pos h1] at h
   have e:i.toNat=j:=bS h
   exact ⟨by rw[rM h0 h1,e],by omega,by omega,h1⟩
  ·rw[if_neg h1] at h;cases h
 ·rw[if_neg h0] at h
  by_cases h1:-(n:Int)<=i
  ·rw[if_pos h1] at h
   have e:(i+n).toNat=j:=bS h
   exact ⟨by rw[qG (by omega) h1,e],by omega,h1,by omega⟩
  ·rw[if_neg h1] at h;cases h
theorem Uz{α:Type}{xs:List α}{i:Int}{v:α}(h:atI xs i=some v):∃ j,seqIndex? i xs.length=some j/\xs[j]? = some v/\j < xs.length/\-(xs.length:Int)<=i/\i < xs.length:=by
 unfold atI at h
 cases e:ixN xs.length i with
 | none=>rw[e] at h;cases h
 | some j=>
  rw[e] at h
  obtain ⟨h1,h2,h3,h4⟩:=Aa7 e
  exact ⟨j,h1,h,h2,h3,h4⟩
noncomputable def Abk(b:Expr):Prop:=∀ o i,subscripted b false o i=operate [o,i] (getItem o i)
noncomputable def IxR(X:Cx)(r:R2):Prop:=
 ∀ (value slice:Expr) (pins:List (Addr×Obj)) (s:aR) (σ:St) (H:Hp) (x y:V) (v u:aG) (Q:VK),Inv X pins σ H s->RelV x v->RelV y u->r x y H Q ->
  subscripted slice false v u=operate [v,u] (getItem v u)->wpAny (model X.prog X.w) X.A (subscriptTail value slice v u) (EP X pins σ Q) X.xe s
noncomputable def MtR(X:Cx)(id:String)(r:V->List V->Hp->VK->Prop):Prop:=
 ∀ (pins:List (Addr×Obj)) (s:aR) (σ:St) (H:Hp) (x:V) (xs:List V) (v:aG) (us:List aG) (Q:VK),Inv X pins σ H s->RelV x v->Vals xs us->r x xs H Q ->
  wpAny (model X.prog X.w) X.A (call (.builtin id) (v::us)) (EP X pins σ Q) X.xe s
variable {v:aG}{pins:List (Addr×Obj)}{σ:St}{H:Hp}{s:aR}{its:List aG}{A:eE}{y x:V}
section
variable {a b:Expr}{ta tb:TE}{pos:Pos}
theorem IxR.or{r r':R2}(h:IxR X r)(h':IxR X r'):IxR X (fun x y H Q=>r x y H Q\/r' x y H Q):=by
 intro value slice pins s σ H x y v u Q I rx ry q hs
 rcases q with q | q
 ·exact h value slice pins s σ H x y v u Q I rx ry q hs
 ·exact h' value slice pins s σ H x y v u Q I rx ry q hs
theorem MtR.or{id:String}{r r':V->List V->Hp->VK->Prop}(h:MtR X id r)(h':MtR X id r'):MtR X id (fun x xs H Q=>r x xs H Q\/r' x xs H Q):=by
 intro pins s σ H x xs v us Q I rx rs q
 rcases q with q | q
 ·exact h pins s σ H x xs v us Q I rx rs q
 ·exact h' pins s σ H x xs v us Q I rx rs q
theorem Aoq{r:R2}(hr:IxR X r)(ha:PE X a ta)(hb:PE X b tb)(hs:Abk b):PE X (.Subscript a b pos) (tOp r ta tb):=by
 intro pins s σ H Q I h
 exact pO (Anc ha hb I h fun v u s2 x y H2 I2 rx ry q=>hr a b pins s2 σ H2 x y v u Q I2 rx ry q (hs _ _))
noncomputable def Ao7(K:aJ):R2:=fun x y H Q=>∃ p xs i v,x = .ref p/\y = .int i/\SqL K H p xs/\atI xs i=some v/\Q v H
noncomputable def Anw(K:aJ):R2:=fun x y H Q=>∃ p xs i v,x = .ref p/\y = .int i/\SqT K H p xs/\atI xs i=some v/\Q v H
noncomputable def An1:R2:=fun x y H Q=>∃ z i c,x = .str z/\y = .int i/\z.length<=sizeLine/\atI z.cps.toList i=some c/\Q (.str ⟨#[c]⟩) H
theorem Aig:IxR X (Ao7 X.K):=by
 intro value slice pins s σ H x y v u Q I rx ry h hs
 obtain ⟨p,xs,i,z,rfl,rfl,hq,he,q⟩:=h
 cases rx
 obtain ⟨t,rfl⟩:=ry
 obtain ⟨its,r,pl,hz⟩:=I.list hq
 obtain ⟨j,h1,h2,h3,h4,h5⟩:=Uz he
 obtain ⟨w,ew,rw'⟩:=r.get h2
 have hl:=r.length
 have hn:=Oo
 have fin:EP X pins σ Q w s:=⟨z,H,I,rw',q⟩
 by_cases h0:0<=i
 ·have hj:i.toNat=j:=by
   rw[rM h0 h5] at h1
   exact bS h1
  exact item_listR pl.isList h0 (by omega) (by rw[hj];simpa using ew) fin hs
 ·have hj:(i+(its.toArray.size:Int)).toNat=j:=by
   rw[qG (by omega) h4] at h1
   rw[aX,<- hl]
   exact bS h1
  exact nS (x:=w) pl.isList.typeIs mJ.lookup
   (wpAny_getItem_list_neg (Q:=fun r s'=>r=w/\EP X pins σ Q r s') pl.isList (by omega) (by rw[aX] <;> omega) (by omega) (by rw[hj];simpa using ew) ⟨rfl,fin⟩) hs
theorem Amu:IxR X (Anw X.K):=by
 intro value slice pins s σ H x y v u Q I rx ry h hs
 obtain ⟨p,xs,i,z,rfl,rfl,hq,he,q⟩:=h
 cases rx
 obtain ⟨t,rfl⟩:=ry
 obtain ⟨its,r,pl,hz⟩:=I.tuple hq
 obtain ⟨j,h1,h2,h3,h4,h5⟩:=Uz he
 obtain ⟨w,ew,rw'⟩:=r.get h2
 have hl:=r.length
 have hn:=Oo
 have fin:EP X pins σ Q w s:=⟨z,H,I,rw',q⟩
 exact nS (x:=w) pl.typeIs slot_tuple_getitem.lookup
  (getItem_tuple (j:=j) (Q:=fun r s'=>r=w/\EP X pins σ Q r s') pl (by omega) (by omega) (by rw[aX,<- hl];exact h1) (by simpa using ew) ⟨rfl,fin⟩) hs
theorem Ame:IxR X An1:=by
 intro value slice pins s σ H x y v u Q I rx ry h hs
 obtain ⟨z,i,c,rfl,rfl,hz,he,q⟩:=h
 obtain ⟨t,rfl⟩:=rx
 obtain ⟨t',rfl⟩:=ry
 obtain ⟨j,h1,h2,h3,h4,h5⟩:=Uz he
 have hl:z.cps.toList.length=z.length:=by simp[Str.length]
 rw[hl] at h1 h4 h5
 have hn:=Oo
 exact sG (sH s z t) slot_str_getitem.lookup (getItem_str (c:=c) (by
  have e1:decide (i < -(2 ^ 63:Int))=false:=decide_eq_false (by omega)
  have e2:decide (i ≥ 2 ^ 63)=false:=decide_eq_false (by omega)
  rw[e1,e2,Bool.or_false]) (by rw[h1];simpa using h2) ⟨.str ⟨#[c]⟩,H,I.tok _,⟨_,rfl⟩,q⟩) hs
noncomputable def rIx(K:aJ):R2:=fun x y H Q=>Ao7 K x y H Q\/Anw K x y H Q\/An1 x y H Q
theorem A7:IxR X (rIx X.K):=Aig.or (Amu.or Ame)
theorem X3(its:List aG)(n j:Nat)(u:aG):cK (·.setIfInBounds j u) { cls:=.type "list",data:=.seq its.toArray n } = { cls:=.type "list",data:=.seq (its.set j u).toArray n }:=by
 simp[cK]
theorem Inv.lst{p:Addr}(I:Inv X pins σ H s)(h:H p=some (.lst xs)) :
  ∃ (its:List aG) (n:Nat),Vals xs its/\s.heap.get? p=some { cls:=.type "list",data:=.seq its.toArray n }/\xs.length<=sizeLine:=by
 obtain ⟨z,its,n,r,e⟩:=I.hok p _ h
 exact ⟨its,n,r,e,z⟩
theorem Inv.lstUpd{p:Addr}{ys:List V}{its':List aG}{n':Nat}{f:Obj->Obj}(I:Inv X pins σ H s)(h:H p=some (.lst xs))
  (ho:s.heap.get? p=some { cls:=.type "list",data:=.seq its.toArray n }) (hf:f { cls:=.type "list",data:=.seq its.toArray n } = { cls:=.type "list",data:=.seq its'.toArray n' }) (r:Vals ys its') (hz:ys.length<=sizeLine) (t:Nat) :
  Inv X pins σ (upd H p (.lst ys)) { s with heap:=s.heap.update p f,toks:=t }:=by
 have e:(s.heap.update p f).get? p=some { cls:=.type "list",data:=.seq its'.toArray n' }:=by
  rw[kE f ho (by rw[hf] <;> rfl),hf]
 refine I.write (x:=p) (e:=p) (by rw[h];trivial) (.inl rfl) (fun b u hb q=>(nT _ _ (eR hb)).trans q) ⟨_,e⟩ ?_
 exact ⟨hz,its',n',r,e⟩
noncomputable def An6:V->V->V->Hp->(Hp->Prop)->Prop:=fun o i v H Q=>∃ p xs k j,o = .ref p/\i = .int k/\H p=some (.lst xs)/\ixN xs.length k=some j/\Q (upd H p (.lst (xs.set j v)))
theorem Ag1:Apa X An6:=by
 intro pins s σ H o i v ov iv u Q I ro ri rv h
 obtain ⟨p,xs,k,j,rfl,rfl,hp,hj,q⟩:=h
 cases ro
 obtain ⟨t,rfl⟩:=ri
 obtain ⟨its,n,r,ho,hz⟩:=I.lst hp
 obtain ⟨h1,h2,h3,h4⟩:=Aa7 hj
 have hl:=r.length
 have hn:=Oo
 have I':Inv X pins σ (upd H p (.lst (xs.set j v))) { s with heap:=s.heap.update p (cK (·.setIfInBounds j u)) }:=
  I.lstUpd hp ho (X3 its n j u) (r.set rv j) (by rw[gY];exact hz) s.toks
 by_cases h0:0<=k
 ·have hk:k.toNat=j:=by
   rw[rM h0 h4] at h1
   exact bS h1
  exact PySem.W.ki_setAt ho h0 (by omega) (by rw[aX,<- hl];exact h4) (by rw[hk];exact ⟨_,I',q⟩)
 ·have hk:(k+(its.toArray.size:Int)).toNat=j:=by
   rw[qG (by omega) h3] at h1
   rw[aX,<- hl]
   exact bS h1
  exact PySem.W.ki_setBack ho (by omega) (by rw[aX,<- hl];exact h3) (by omega) (by rw[hk];exact ⟨_,I',q⟩)
theorem Ab6(i:Int)(n:Nat):max 0 (min (if i < 0 then i+(n:Int) else i) (n:Int))=(((if i < 0 then (i+(n:Int)).toNat else min i.toNat n):Nat):Int):=by
 by_cases h:i < 0
 ·have hm:i+(n:Int)<=n:=by omega
  rw[if_pos h,if_pos h,rR hm,Int.ofNat_toNat,Int.max_comm]
 ·obtain ⟨k,rfl⟩:=Int.eq_ofNat_of_zero_le (Int.not_lt.mp h)
  rw[if_neg h,if_neg h,eJ]
  rcases sW k n with hk | hk
  ·rw[Nat.min_eq_left hk,rR (sX.mpr hk),qZ (lV k)]
  ·rw[Nat.min_eq_right hk,Int.min_eq_right (sX.mpr hk),qZ (lV n)]
theorem Ve(lo hi:Option Int)(n:Nat):(sliceBounds lo hi none n).1=((HT.sIx n 0 lo:Nat):Int)/\(sliceBounds lo hi none n).2.1=((HT.sIx n n hi:Nat):Int)/\(sliceBounds lo hi none n).2.2=1:=by
 refine ⟨?_,?_,rfl⟩
 ·cases lo with
  | none=>rfl
  | some i=>exact Ab6 i n
 ·cases hi with
  | none=>rfl
  | some i=>exact Ab6 i n
theorem S3(its:List aG)(lo hi:Option Int):slicePick its.toArray lo hi none=((its.drop (HT.sIx its.length 0 lo)).take (HT.sIx its.length its.length hi - HT.sIx its.length 0 lo)).toArray:=by
 obtain ⟨h1,h2,h3⟩:=Ve lo hi its.toArray.size
 unfold slicePick
 rw[h1,h2,h3]
 simp only[sliceRange_one,pick_run,aX] <;> rfl
noncomputable def Aop(K:aJ):V->Option Int->Option Int->Hp->VK->Prop:=fun x lo hi H Q=>∃ a xs,x = .ref a/\SqL K H a xs/\∀ p,H p=none->Q (.ref p) (upd H p (.lst (Wa xs lo hi)))
theorem Ahs:SlR X (Aop X.K):=by
 intro pins s σ H x v vl vu lo hi sl Q I rx hs pl pu h
 obtain ⟨a,xs,rfl,hx,q⟩:=h
 cases rx
 obtain ⟨its,r,ht,hz⟩:=I.list hx
 have hlen:=r.length
 refine ⟨"list",_,mJ.lookup,ht.isList.typeIs,?_⟩
 refine mQ ht.isList hs pl pu .none (by simp) ?_ (by rw[aX] <;> omega)
 rw[S3,<- hlen]
 refine ⟨.ref s.heap.objs.size,_,I.laid (t':=s.toks) (o:=.lst (Wa xs lo hi)) (fun b ob q=>aE _ q) (aS _) ?_,rfl,q _ (I.hok.fresh (aS _))⟩
 exact ⟨cL (Pa xs lo hi) hz,_,0,(r.drop (HT.sIx xs.length 0 lo)).take (HT.sIx xs.length xs.length hi - HT.sIx xs.length 0 lo),bE _ rfl⟩
noncomputable def Mn:V->Bool
 | .non=>true
 | .bl _=>true
 | .int _=>true
 | .str _=>true
 | _=>false
noncomputable def eqV:V->V->Bool
 | .non,.non=>true
 | .bl a,.bl b=>a == b
 | .bl a,.int b=>(if a then 1 else 0) == b
 | .int a,.bl b=>a == (if b then 1 else 0)
 | .int a,.int b=>a == b
 | .str a,.str b=>a == b
 | _,_=>false
theorem Al2{u:aG}(ry:RelV y u)(rx:RelV x v)(fy:Mn y=true)(fx:Mn x=true):pK A s u v (eqV y x):=by
 cases y with
 | non=>
  cases ry
  cases x with
  | non=>cases rx;exact rS _
  | bl b=>cases rx;exact pK.none_bool b
  | int b=>obtain ⟨t,rfl⟩:=rx;exact pK.none_int b t
  | str b=>obtain ⟨t,rfl⟩:=rx;exact pK.none_str b t
  | _=>exact absurd (show false=true from fx) cM
 | bl a=>
  cases ry
  cases x with
  | non=>cases rx;exact pK.bool_none a
  | bl b=>cases rx;exact pK.bool_bool a b
  | int b=>obtain ⟨t,rfl⟩:=rx;exact pK.bool_int a b t
  | str b=>obtain ⟨t,rfl⟩:=rx;exact pK.bool_str a b t
  | _=>exact absurd (show false=true from fx) cM
 | int a=>
  obtain ⟨t',rfl⟩:=ry
  cases x with
  | non=>cases rx;exact pK.int_none a t'
  | bl b=>cases rx;exact pK.int_bool a t' b
  | int b=>obtain ⟨t,rfl⟩:=rx;exact pL a t' b t
  | str b=>obtain ⟨t,rfl⟩:=rx;exact pG a t' b t
  | _=>exact absurd (show false=true from fx) cM
 | str a=>
  obtain ⟨t',rfl⟩:=ry
  cases x with
  | non=>cases rx;exact pK.str_none a t'
  | bl b=>cases rx;exact pK.str_bool a t' b
  | int b=>obtain ⟨t,rfl⟩:=rx;exact pH a t' b t
  | str b=>obtain ⟨t,rfl⟩:=rx;exact pK.str_str a t' b t
  | _=>exact absurd (show false=true from fx) cM
 | _=>exact absurd (show false=true from fy) cM
noncomputable def eqU(x:V)(u:aG):Bool:=match u with
 | .none=>eqV .non x
 | .bool b=>eqV (.bl b) x
 | .int i _=>eqV (.int i) x
 | .str z _=>eqV (.str z) x
 | _=>false
theorem Afc{u:aG}(r:RelV y u)(f:Mn y=true):eqU x u=eqV y x:=by
 cases y with
 | non=>cases r;rfl
 | bl b=>cases r;rfl
 | int i=>obtain ⟨t,rfl⟩:=r;rfl
 | str z=>obtain ⟨t,rfl⟩:=r;rfl
 | _=>exact absurd (show false=true from f) cM
theorem Abg(h:Vals xs us)(f:xs.all Mn=true):us.any (eqU x)=xs.any fun y=>eqV y x:=by
 induction h with
 | nil=>rfl
 | cons r t ih=>
  rw[mR,cG] at f
  rw[gF,gF,Afc r f.1,ih f.2]
theorem Qt(rx:RelV x v)(fx:Mn x=true):∀ {xs:List V} {us:List aG},Vals xs us->xs.all Mn=true->∀ u∈us,pK A s u v (eqU x u)
 | _,_,.nil,_=>fun u hu=>by cases hu
 | y::xs,u::us,.cons r t,f=>fun u' hu=>by
  rw[mR,cG] at f
  rcases bH.mp hu with rfl | hu
  ·rw[Afc r f.1];exact Al2 r rx f.1 fx
  ·exact Qt rx fx t f.2 u' hu
noncomputable def inV(x:V)(xs:List V):Bool:=xs.any fun y=>eqV y x
noncomputable def rIn(K:aJ)(neg:Bool):R2:=fun x y H Q=>∃ p xs,y = .ref p/\(SqL K H p xs\/SqT K H p xs)/\Mn x=true/\xs.all Mn=true/\Q (.bl (if neg then !inV x xs else inV x xs)) H
theorem Ut:OpR X (eM .NotIn) (rIn X.K true):=by
 intro pins s σ H x y v u Q I rx ry h
 obtain ⟨p,xs,rfl,hq,fx,fs,q⟩:=h
 cases ry
 rcases hq with hq | hq
 ·obtain ⟨its,r,pl,hz⟩:=I.list hq
  refine SeqAt.notIn_listAt (eqU x) pl.isList (fun w hw=>Qt rx fx r fs w (by simpa using hw)) ⟨.bl _,H,I,rfl,?_⟩
  rw[show its.toArray.any (eqU x)=its.any (eqU x) by simp,Abg r fs]
  exact q
 ·obtain ⟨its,r,pl,hz⟩:=I.tuple hq
  refine SeqAt.notIn_tupleAt (eqU x) pl (fun w hw=>Qt rx fx r fs w (by simpa using hw)) ⟨.bl _,H,I,rfl,?_⟩
  rw[show its.toArray.any (eqU x)=its.any (eqU x) by simp,Abg r fs]
  exact q
theorem Vd:OpR X (eM .NotIn) (fun x y H Q=>∃ i j,x = .str i/\y = .str j/\Q (.bl (!(!(fQ j i 0 j.length 1).isEmpty))) H):=by
 intro pins s σ H x y v u Q I rx ry h
 obtain ⟨i,j,rfl,rfl,q⟩:=h
 obtain ⟨t,rfl⟩:=rx
 obtain ⟨t',rfl⟩:=ry
 exact notIn_str ⟨.bl _,H,I,rfl,q⟩
theorem CallR.or{f:aG}{r r':List V->Hp->VK->Prop}(h:CallR X f r)(h':CallR X f r'):CallR X f (fun xs H Q=>r xs H Q\/r' xs H Q):=by
 intro pins s σ H xs us Q I rs q
 rcases q with q | q
 ·exact h pins s σ H xs us Q I rs q
 ·exact h' pins s σ H xs us Q I rs q
theorem Fe:CallR X (.type "tuple") (fun xs H Q=>∃ p ys,xs=[.ref p]/\((SqL X.K H p ys/\∀ l,H l=none->Q (.ref l) (upd H l (.tup ys)))\/(SqT X.K H p ys/\Q (.ref p) H))):=by
 intro pins s σ H xs us Q I r h
 obtain ⟨p,ys,rfl,h⟩:=h
 obtain ⟨u,rfl,rx⟩:=Gz r
 cases rx
 rcases h with ⟨hq,q⟩ | ⟨hq,q⟩
 ·obtain ⟨its,r',pl,hz⟩:=I.list hq
  have hlen:=r'.length
  refine call_tuple_list pl.isList (fun h' kp=>?_) (by simp only[aX] <;> omega)
  have I1:Inv X pins σ H { s with heap:=h' }:=I.kept (t':=s.toks) kp
  have I2:Inv X pins σ (upd H h'.objs.size (.tup ys)) { s with heap:=h'.push { cls:=.type "tuple",data:=.seq its.toArray } }:=
   I1.laid (t':=s.toks) (fun b o e=>aE _ e) (aS _) (show ObjOk X.prog X.w _ _ _ (.tup ys) from ⟨hz,its,r',TupN.new _ _⟩)
  exact ⟨.ref h'.objs.size,_,I2,rfl,q _ (I1.hok.fresh (aS _))⟩
 ·obtain ⟨its,r',pl,hz⟩:=I.tuple hq
  exact call_tuple_same pl ⟨.ref p,H,I,rfl,q⟩
noncomputable def tyV(K:aJ)(T:String)(x:V)(H:Hp):Prop:=match x with
 | .str _=>T = "str"
 | .int _=>T = "int"
 | .ref p=>(T = "list" /\ ∃ xs,SqL K H p xs)\/(T = "tuple" /\ ∃ xs,SqT K H p xs) \/
   (T = "dict" /\ ((∃ kvs,H p=some (.dK kvs))\/∃ kvs,H p=some (.dT kvs)))\/(T = "set" /\ ∃ S n,H p=some (.set S n))
 | _=>False
theorem Afe{T:String}(I:Inv X pins σ H s)(r:RelV x v)(ty:tyV X.K T x H) :
  s.TypeIs v T/\∀ a,v = .ref a->∃ ob,s.heap.get? a=some ob/\ob.dict=none:=by
 cases x with
 | str z=>
  obtain ⟨t,rfl⟩:=r
  cases (show T = "str" from ty)
  exact ⟨sH s z t,fun _ e=>nomatch e⟩
 | int i=>
  obtain ⟨t,rfl⟩:=r
  cases (show T = "int" from ty)
  exact ⟨sI s i t,fun _ e=>nomatch e⟩
 | ref p=>
  cases r
  rcases ty with ⟨rfl,xs,hq⟩ | ⟨rfl,xs,hq⟩ | ⟨rfl,hk⟩ | ⟨rfl,S,n,hk⟩
  ·obtain ⟨its,_,pl,_⟩:=I.list hq
   refine ⟨pl.isList.typeIs,fun a e=>?_⟩
   cases e
   obtain ⟨o,n,e,c,hd,_⟩:=pl
   exact ⟨o,e,hd⟩
  ·obtain ⟨its,_,⟨o,ho,hc,_⟩,_⟩:=I.tupleN hq
   obtain ⟨h1,h2⟩:=kN hc
   refine ⟨⟨o,ho,h1⟩,fun a e=>?_⟩
   cases e
   exact ⟨o,ho,h2⟩
  ·have z:∃ o,s.heap.get? p=some o/\o.ExactDict:=by
    rcases hk with ⟨kvs,hk⟩ | ⟨kvs,hk⟩
    ·obtain ⟨_,_,_,_,o,_,_,e,ex,_⟩:=I.hok p _ hk
     exact ⟨o,e,ex⟩
    ·obtain ⟨_,_,_,_,o,_,_,e,ex,_⟩:=I.hok p _ hk
     exact ⟨o,e,ex⟩
   obtain ⟨o,e,ex⟩:=z
   refine ⟨⟨o,e,ex.1⟩,fun a e2=>?_⟩
   cases e2
   exact ⟨o,e,ex.2.1⟩
  ·obtain ⟨o,_,_,_,e,ex,_⟩:=I.hok p _ hk
   refine ⟨⟨o,e,ex.1⟩,fun a e2=>?_⟩
   cases e2
   exact ⟨o,e,ex.2.1⟩
 | _=>exact fT ty
noncomputable def Apg(K:aJ)(T:String)(r:V->List V->Hp->VK->Prop)(to:TE):TE:=fun σ H Q=>to σ H fun x H1=>tyV K T x H1/\r x [] H1 Q
noncomputable def tBM(K:aJ)(T:String)(r:V->List V->Hp->VK->Prop)(to:TE)(t:TA):TE:=fun σ H Q=>to σ H fun x H1=>tyV K T x H1/\t σ H1 fun xs H2=>r x xs H2 Q
variable {o e:Expr}{es:List Expr}{to:TE}{t:TA}{name:Str}{apos cpos:Pos}{T id:String}{r:V->List V->Hp->VK->Prop}
theorem Alj(pa:pP T)(slot:Slot T name id)(hty:typeOf (.builtin id)=pure (.type "method_descriptor"))(hm:MtR X id r)(ho:PE X o to)
  (hbase:attributeBase o name X.env (eval o X.env)=eval o X.env:=by rfl) (hline:(apos.endLine == cpos.line)=true:=by rfl):PE X (.Call (.Attribute o name apos) [] [] cpos) (Apg X.K T r to):=by
 intro pins s σ H Q I h
 refine wpAny_Call_method0_late hbase hline (thn (ho pins s σ H _ I h) fun v s1 zz=>?_)
 obtain ⟨x,H1,I1,r1,ty,q1⟩:=zz
 obtain ⟨h1,h2⟩:=Afe I1 r1 ty
 exact ⟨T,id,pa,slot,hty,h1,h2,iK rfl (lC (hm pins s1 σ H1 x [] v [] Q I1 r1 .nil q1))⟩
theorem Apk(pa:pP T)(slot:Slot T name id)(hty:typeOf (.builtin id)=pure (.type "method_descriptor"))(hm:MtR X id r)(ho:PE X o to)(ha:PA X (e::es) t)
  (hbase:attributeBase o name X.env (eval o X.env)=eval o X.env:=by rfl)
  (hfew:((backTo cpos (bQ (e::es) X.env)).all (fun x=>!x.1)&&(backToKw cpos (keywordEach [] X.env)).all (fun x=>x.1.isSome)
   && decide ((e::es).length+([]:List jJ).length+(if ([]:List jJ).isEmpty then 0 else 1) < 30))=true:=by rfl)
  (hline:(apos.endLine == cpos.line)=true:=by rfl) (hs:bQ (e::es) X.env=(false,eval e X.env)::bQ es X.env:=by rfl) (hplain:(backTo cpos (bQ es X.env)).any (·.1)=false:=by rfl) :
  PE X (.Call (.Attribute o name apos) (e::es) [] cpos) (tBM X.K T r to t):=by
 intro pins s σ H Q I h
 refine wpAny_Call_method_late hbase hfew hline rfl (thn (ho pins s σ H _ I h) fun v s1 zz=>?_)
 obtain ⟨x,H1,I1,r1,ty,q1⟩:=zz
 obtain ⟨h1,h2⟩:=Afe I1 r1 ty
 refine ⟨T,id,pa,slot,hty,h1,h2,?_⟩
 have hA:=ha cpos pins s1 σ H1 _ I1 q1
 rw[hs] at hA ⊢
 refine iK (by show (false || (backTo cpos (bQ es X.env)).any (·.1))=false;rw[hplain] <;> rfl) (Calls.evalArgs_plain ?_)
 exact thn hA fun us s2 zz=>by obtain ⟨vs,H2,I2,r2,q2⟩:=zz;exact hm pins s2 σ H2 x vs v us Q I2 r1 r2 q2
end
noncomputable def MtM(X:Cx)(id:String)(r:V->List V->Hp->VK->Prop):Prop:=
 ∀ (pins:List (Addr×Obj)) (s:aR) (σ:St) (H:Hp) (x:V) (xs:List V) (v:aG) (us:List aG) (Q:VK),Inv X pins σ H s->RelV x v->Vals xs us->r x xs H Q ->
  wpAny (model X.prog X.w) X.A (call (.builtin id) (v::us)) (EP X pins σ Q) X.xe s
theorem Vals.one(h:Vals [x] us):∃ u,us=[u]/\RelV x u:=by
 cases h with
 | cons r t=>cases t;exact ⟨_,rfl,r⟩
theorem Vals.two(h:Vals [x,y] us):∃ u v,us=[u,v]/\RelV x u/\RelV y v:=by
 cases h with
 | cons r t=>obtain ⟨v,rfl,q⟩:=Vals.one t;exact ⟨_,v,rfl,r,q⟩
theorem Vals.zero:∀ {us:List aG},Vals [] us->us=[]
 | _,.nil=>rfl
theorem Vals.dropLast(h:Vals xs us):Vals xs.dropLast us.dropLast:=by
 induction h with
 | nil=>exact .nil
 | cons r t ih=>
  cases t with
  | nil=>exact .nil
  | cons q t'=>exact .cons r ih
theorem Vals.eraseIdx(i:Nat)(h:Vals xs us):Vals (xs.eraseIdx i) (us.eraseIdx i):=by
 induction h generalizing i with
 | nil=>exact .nil
 | cons r t ih=>
  cases i with
  | zero=>exact t
  | succ i=>exact .cons r (ih i)
theorem Vals.reverse(h:Vals xs us):Vals xs.reverse us.reverse:=by
 induction h with
 | nil=>exact .nil
 | cons r t ih=>rw[eK,eK];exact Vals.append ih (.cons r .nil)
theorem Vals.rep(h:Vals xs us):∀ k:Nat,Vals (bN k xs).flatten (bN k us).flatten
 | 0=>.nil
 | k+1=>by
  rw[eI,eI,fR,fR]
  exact Vals.append h (Vals.rep h k)
theorem X2{α:Type}(l:List α):l.eraseIdx (l.length - 1)=l.dropLast:=by
 induction l with
 | nil=>rfl
 | cons a r ih=>
  cases r with
  | nil=>rfl
  | cons b r=>
   have e:(a::b::r).length - 1=((b::r).length - 1)+1:=by
    have h1:(a::b::r).length=r.length+2:=rfl
    have h2:(b::r).length=r.length+1:=rfl
    omega
   rw[e,nB,ih]
   all_goals rfl
theorem Tr{α:Type}:∀ (l:List α) (i:Nat),(l.eraseIdx i).length<=l.length
 | [],_=>aS _
 | _::_,0=>gZ _
 | _::r,i+1=>Nat.succ_le_succ (Tr r i)
theorem Ug(its:List aG):∀ (k:Nat) (acc:List aG),
  sJ (fun x1 x2=>x1++x2) acc.toArray (bN k its.toArray)=(acc++(bN k its).flatten).toArray
 | 0,acc=>by simp
 | k+1,acc=>by
  have e:acc.toArray++its.toArray=(acc++its).toArray:=by simp
  have e2:(acc++its)++(bN k its).flatten=acc++(bN (k+1) its).flatten:=by
   rw[eI,fR,dE]
  rw[<- e2,<- Ug its k (acc++its),<- e,eI,iP]
section
variable {l b:Addr}{ys zs:List V}
theorem Inv.lset{its':List aG}{f:Array aG->Array aG}{t':Nat}(I:Inv X pins σ H s)(hH:H l=some (.lst xs))
  (e:s.heap.get? l=some { cls:=.type "list",data:=.seq its.toArray n }) (hf:f its.toArray=its'.toArray) (hv:Vals ys its') (hz:ys.length<=sizeLine) :
  Inv X pins σ (upd H l (.lst ys)) { s with heap:=s.heap.update l (cK f),toks:=t' }:=by
 have q:=PySem.IsL.update e f
 rw[hf] at q
 refine I.write (x:=l) (e:=l) (by rw[hH];exact trivial) (.inl rfl) (fun b' u hb hu=>(nT s.heap (cK f) (eR hb)).trans hu) ⟨_,q⟩ ?_
 exact ⟨hz,its',_,hv,q⟩
theorem Inv.lnew{t':Nat}(I:Inv X pins σ H s)(hv:Vals ys its)(hz:ys.length<=sizeLine) :
  Inv X pins σ (upd H s.heap.objs.size (.lst ys)) { s with heap:=s.heap.push { cls:=.type "list",data:=.seq its.toArray },toks:=t' }:=
 I.laid (fun _ _ q=>aE _ q) (aS _) ⟨hz,its,0,hv,bE _ rfl⟩
theorem Inv.fresh(I:Inv X pins σ H s):H s.heap.objs.size=none:=I.hok.fresh (aS _)
theorem Inv.lstM(I:Inv X pins σ H s)(hH:H l=some (.lst xs)):xs.length<=sizeLine/\∃ (its:List aG) (n:Nat),Vals xs its/\xs.length=its.length/\s.heap.get? l=some { cls:=.type "list",data:=.seq its.toArray n }:=by
 obtain ⟨z,its,n,r,e⟩:=I.hok l _ hH
 exact ⟨z,its,n,r,r.length,e⟩
theorem W9(h:n<=sizeLine):hZ n=false:=by
 unfold hZ
 exact decide_eq_false (by omega)
end
section
noncomputable def Abi:V->List V->Hp->VK->Prop:=fun x vs H Q=>∃ l xs y,x = .ref l/\vs=[y]/\H l=some (.lst xs)/\xs.length < sizeLine/\Q .non (upd H l (.lst (xs++[y])))
theorem Jo:MtM X "list.append" Abi:=by
 intro pins s σ H x vs v us Q I rx rv h
 obtain ⟨l,xs,y,rfl,rfl,hH,hz,q⟩:=h
 cases rx
 obtain ⟨u,rfl,ru⟩:=rv.one
 obtain ⟨z,its,n,r,hl,e⟩:=I.lstM hH
 refine lW F.slot_list_append ⟨_,e,rfl⟩ F.entry_list_append (F.args_list_append_2 _ _) (PySem.list_append l its.toArray n u (by rw[aX];omega)) ⟨e,?_⟩
 refine ⟨.non,_,I.lset (its':=its++[u]) hH e (by simp) (r.append (.cons ru .nil)) ?_,rfl,q⟩
 rw[cH,List.length_singleton]
 omega
noncomputable def Aca:V->List V->Hp->VK->Prop:=fun x vs H Q=>∃ l b xs zs,x = .ref l/\vs=[.ref b]/\H l=some (.lst xs)/\H b=some (.lst zs)/\xs.length+zs.length<=sizeLine/\Q .non (upd H l (.lst (xs++zs)))
theorem Acz:MtM X "list.extend" Aca:=by
 intro pins s σ H x vs v us Q I rx rv h
 obtain ⟨l,b,xs,zs,rfl,rfl,hH,hB,hz,q⟩:=h
 cases rx
 obtain ⟨u,rfl,ru⟩:=rv.one
 cases ru
 obtain ⟨z,its,n,r,hl,e⟩:=I.lstM hH
 obtain ⟨z2,its2,n2,r2,hl2,e2⟩:=I.lstM hB
 have hsz:its.toArray.size+its2.toArray.size<=sizeLine:=by rw[aX,aX];omega
 have hlong:¬ (!its.toArray.isEmpty&&hZ (its.toArray.size+its2.toArray.size))=true:=by
  rw[W9 hsz,oV]
  exact cM
 refine lW F.slot_list_extend ⟨_,e,rfl⟩ F.entry_list_extend (F.args_list_extend_2 _ _)
  (AutoSeq1.list_extend_list_list_0 l its.toArray n b its2.toArray n2 hlong (by rw[aX];omega) (by omega)) ⟨e,e2,?_⟩
 refine ⟨.non,_,I.lset (its':=its++its2) hH e (by simp) (r.append r2) ?_,rfl,q⟩
 rw[cH]
 omega
noncomputable def Ao6:V->List V->Hp->VK->Prop:=fun x vs H Q=>∃ l xs y,x = .ref l/\vs=[]/\H l=some (.lst xs)/\xs[xs.length - 1]? = some y/\Q y (upd H l (.lst xs.dropLast))
theorem Aly:MtM X "list.pop" Ao6:=by
 intro pins s σ H x vs v us Q I rx rv h
 obtain ⟨l,xs,y,rfl,rfl,hH,hy,q⟩:=h
 cases rx
 have hus:=rv.zero
 subst hus
 obtain ⟨z,its,n,r,hl,e⟩:=I.lstM hH
 obtain ⟨u,hu,ru⟩:=r.get hy
 have hy':its.toArray[its.toArray.size - 1]? = some u:=by
  show its.toArray[its.length - 1]? = some u
  rw[<- iU,<- hl]
  exact hu
 refine lW jQ ⟨_,e,rfl⟩ rA (F.args_list_pop_1 _) (MeetsSeq.list_pop_last l its.toArray n u hy' (by rw[aX];omega)) ⟨e,?_⟩
 refine ⟨y,_,I.lset (its':=its.dropLast) hH e ?_ r.dropLast ?_,ru,q⟩
 ·show its.toArray.eraseIdxIfInBounds (its.toArray.size - 1)=its.dropLast.toArray
  rw[aX,kC,X2]
 ·rw[List.length_dropLast]
  omega
noncomputable def Af8:V->List V->Hp->VK->Prop:=fun x vs H Q=>∃ l xs i k y,x = .ref l/\vs=[.int i]/\H l=some (.lst xs)/\-(2 ^ 63)<=i/\i < 2 ^ 63/\seqIndex? i xs.length=some k/\xs[k]? = some y/\Q y (upd H l (.lst (xs.eraseIdx k)))
theorem Afh:MtM X "list.pop" Af8:=by
 intro pins s σ H x vs v us Q I rx rv h
 obtain ⟨l,xs,i,k,y,rfl,rfl,hH,h1,h2,hk,hy,q⟩:=h
 cases rx
 obtain ⟨u,rfl,ru⟩:=rv.one
 obtain ⟨t,rfl⟩:=ru
 obtain ⟨z,its,n,r,hl,e⟩:=I.lstM hH
 obtain ⟨w,hw,rw'⟩:=r.get hy
 refine lW jQ ⟨_,e,rfl⟩ rA (F.args_list_pop_2 _ _)
  (MeetsSeq.list_pop_at l its.toArray n i t k w (fitsIndex_both h1 h2) (by rw[aX,<- hl];exact hk) (by rw[<- iU];exact hw) (by rw[aX];omega)) ⟨e,?_⟩
 refine ⟨y,_,I.lset (its':=its.eraseIdx k) hH e ?_ (r.eraseIdx k) ?_,rw',q⟩
 ·show its.toArray.eraseIdxIfInBounds k=(its.eraseIdx k).toArray
  rw[kC]
 ·have:=Tr xs k
  omega
noncomputable def Apf:R2:=fun x y H Q=>∃ l b xs zs,x = .ref l/\y = .ref b/\H l=some (.lst xs)/\H b=some (.lst zs)/\xs.length+zs.length<=sizeLine/\∀ p,H p=none->Q (.ref p) (upd H p (.lst (xs++zs)))
theorem Amc:OpR X (fV .Add) Apf:=by
 intro pins s σ H x y v u Q I rx ry h
 obtain ⟨l,b,xs,zs,rfl,rfl,hH,hB,hz,q⟩:=h
 cases rx
 cases ry
 obtain ⟨z,its,n,r,hl,e⟩:=I.lstM hH
 obtain ⟨z2,its2,n2,r2,hl2,e2⟩:=I.lstM hB
 refine PySem.P.add_list e e2 ?_ (by rw[aX,aX];omega)
 have ea:its.toArray++its2.toArray=(its++its2).toArray:=by simp
 rw[ea]
 exact ⟨.ref _,_,I.lnew (t':=s.toks) (r.append r2) (by rw[cH];omega),rfl,q _ I.fresh⟩
noncomputable def Aoh:R2:=fun x y H Q=>∃ l k xs,x = .ref l/\y = .int k/\H l=some (.lst xs)/\-(2 ^ 63)<=k/\k < 2 ^ 63/\xs.length * k.toNat<=sizeLine /\
 ∀ p,H p=none->Q (.ref p) (upd H p (.lst (bN k.toNat xs).flatten))
theorem Aio{α:Type}(xs:List α)(k:Nat):(bN k xs).flatten.length=k * xs.length:=by
 induction k with
 | zero=>simp
 | succ k ih=>rw[eI,fR,cH,ih,Nat.succ_mul,Nat.add_comm]
theorem Ald:OpR X (fV .Mult) Aoh:=by
 intro pins s σ H x y v u Q I rx ry h
 obtain ⟨l,k,xs,rfl,rfl,hH,h1,h2,hz,q⟩:=h
 cases rx
 obtain ⟨t,rfl⟩:=ry
 obtain ⟨z,its,n,r,hl,e⟩:=I.lstM hH
 have hlen:its.toArray.size * k.toNat<=sizeLine:=by rw[aX,<- hl];exact hz
 have hcap:¬ its.toArray.size * k.toNat > (2 ^ 63 - 1) / 8:=by
  have:(sizeLine:Nat)<=(2 ^ 63 - 1) / 8:=by decide
  omega
 have hfit:¬ (!Builtin.List.listFitsIndex k)=true:=by
  rw[fitsIndex_both h1 h2]
  exact cM
 have hlong:¬ hZ (its.toArray.size * k.toNat)=true:=by
  rw[W9 hlen]
  exact cM
 have hnew:sJ (fun x1 x2=>x1++x2) #[] (bN (if its.toArray.isEmpty=true then 0 else k.toNat) its.toArray)=(bN k.toNat its).flatten.toArray:=by
  have f0:∀ m:Nat,sJ (fun x1 x2=>x1++x2) #[] (bN m its.toArray)=(bN m its).flatten.toArray:=fun m=>by
   have:=Ug its m []
   rw[dL] at this
   exact this
  rw[f0]
  cases its with
  | nil=>simp
  | cons a r'=>rw[if_neg (by simp)]
 refine wpAny_binaryOp_repeat_ref (T := "list") (U := "int") (by decide) ⟨_,e,rfl⟩ (fun s'=>sI s' k t) noFill_list_mul F.fills_int_mul rT repeat_list F.slot_int_index.lookup
  (lW rT (sI s k t) F.entry_int_rmul (F.args_int_rmul_2 _ _) (int___rmul___int_list k t l its.toArray n)
   ⟨e,rfl,⟨_,e,rfl⟩,lW F.slot_list_mul ⟨_,e,rfl⟩ F.entry_list_mul (F.args_list_mul_2 _ _) (AutoListH.list___mul___list_int_3 l its.toArray n k t hfit hcap hlong) ⟨e,?_⟩⟩)
 rw[hnew]
 exact ⟨.ref _,_,I.lnew (t':=s.toks) (r.rep k.toNat) (by rw[Aio,Nat.mul_comm];exact hz),rfl,q _ I.fresh⟩
end
section
variable {prog:cX}{w:eG}{E:aG->aR->Prop}
end
end L2
namespace Att
open PySem PySem.W PySem.Calls PyProof.Rows
theorem Pz{P:Params}{h:Heap}:∀ (ns:List Int) (vs:List aG),WellAll P h vs (ns.map nC)->fX vs ns:=by
 intro ns
 induction ns with
 | nil=>
  intro vs w
  rw[bW] at w
  cases w
  exact .nil
 | cons n ns ih=>
  intro vs w
  rw[aW] at w
  cases w with
  | cons a b=>
   cases a
   exact .cons _ _ (ih _ b)
theorem Aeg{l:lN}{n:Nat}(hn:l.most=some n){P:Params}{h:Heap}{args:List WData}{vals:List aG}
  (hpre:l.row.toRowW.claim.pre args=true) (hwl:WellAll P h vals args) :
  ∃ a vs ns,vals=[eD a]/\args=[tJ (ns.map nC)]/\h.get? a=some { cls:=.type "list",data:=.seq vs.toArray }/\fX vs ns/\ns.length<=n:=by
 have hsh:WShape.hasAll [] args [.list .int]=true:=(pre_splitW hpre).1
 have hc:l.pre.holds [] { args:=args } = true:=(pre_splitW hpre).2
 obtain ⟨d,r,rfl,h1,h2⟩:=hasAllW_cons hsh
 obtain rfl:=hasAllW_nil h2
 obtain ⟨xs,rfl,h3⟩:=hasW_list h1
 obtain ⟨ns,rfl⟩:=items_int h3
 have hlen:ns.length<=n:=by
  unfold lN.pre at hc
  have h4:(WTm.not (.lt (.lit (.int (n:Int))) (.len (.arg 0)))).holds [] { args:=[.list (ns.map .int)] } = true:=by
   have h4:=(holds_andW hc).1
   rw[hn] at h4
   exact h4
  have h5:=condW_of h4 (w_not (w_lt w_lit (w_len_list (w_arg rfl))))
  rw[aQ] at h5
  refine Nat.le_of_not_lt fun q=>?_
  have q':(n:Int) < ((ns.length:Nat):Int):=by omega
  first
   | (rw[decide_eq_true q'] at h5;exact absurd h5 (by decide))
   | (simp at h5;omega)
 cases hwl with
 | cons w1 w2=>
  cases w2
  cases w1 with
  | list ho hall=>exact ⟨_,_,ns,rfl,rfl,ho,Pz ns _ hall,hlen⟩
theorem Adp(l:lN)(args:List WData):l.row.toRowW.claim.post args (.bool true) args=true:=
 postW_of (r:=l.row.toRowW) (X:=(true == true))
  (show tK [] (.bool true) .bool=true by first | rfl | decide | simp[tK,WShape.arms,WShape.armsAll])
  (show (WTm.eq .res (.lit (.bool true))).value [] { args:=args,res:=some (.bool true),after:=args } = some (.bool (true == true)) from w_eq_bool (w_res rfl) w_lit) rfl
section
variable {prog:cX}{w:eG}{A:eE}{E:aG->aR->Prop}{s:aR}{K:Frag}
end
end Att
namespace L2
open PySem PySem.Spec PyProof.Rows
theorem Acl{vs:List aG}{ns:List Int}(h:fX vs ns):Vals (ns.map V.int) vs:=by
 induction h with
 | nil=>exact .nil
 | cons n t h ih=>exact .cons ⟨t,rfl⟩ ih
noncomputable def Only(H:Hp):Prop:=∀ b,H b=none\/∃ o xs,H b=some (.frz o (.lst xs))
noncomputable def Bq(s:Stmt):kG:=match s with
 | .FunctionDef _ a _ _ _ _ _ _ _ _=>a
 | _=>{ posonlyargs:=[],args:=[],vararg:=none,kwonlyargs:=[],kw_defaults:=[],kwarg:=none,defaults:=[] }
noncomputable def Bm(s:Stmt):List Stmt:=match s with
 | .FunctionDef _ _ b _ _ _ _ _ _ _=>b
 | _=>[]
noncomputable def Al(s:Stmt):jA:=match s with
 | .FunctionDef _ _ _ _ _ _ sc _ _ _=>sc
 | _=>{ kind:=.function,names:=[],isGenerator:=false,isCoroutine:=false }
abbrev CX0:CXT:=fun _ _ _ _ _ _=>False
abbrev E0:XK:=fun _ _ _=>False
variable {X:Cx}
theorem Ao2:Yo CX0 X E0:=fun _ _ _ _ _ _ _ h=>h.elim
structure Fun(K:aJ)(x qual:Str)(st:Stmt)(f:Addr)(fd:cU):Prop where
 ex:∃ (oc:aG) (od:Option Addr) (kV doc pm:aG) (an:Option Addr) (cdv ct:aG) (osl:Array (Option aG)),
  fd=cE x qual (Bq st) (Bm st) (Al st) .none kV doc pm an cdv ct/\K.lookup f=some ⟨oc,od,.func fd,osl⟩/\cD K cdv qual=true
 kp:bX K (.ref f)=true
variable {P:cX}{w:eG}{x qual:Str}{st:Stmt}{f:Addr}
section
variable {K:aJ}{mg:Str->Option aG}{base:Heap}
theorem Fun.ok{fd:cU}{N ps:List Str}{k:Nat}{sp:Sp}(F:Fun K x qual st f fd)(S:FnScope N ps (Al st))(len:∀ vs H Q E,sp vs H Q E->vs.length=ps.length)
  (hbody:∀ (cdv:aG) (A:eE) (outer:List Env) (s:aR) (H:Hp) (vs:List V) (Q:VK) (E:XK),Room k (A.deeper (envOfC qual (Al st) s.heap.objs.size f cdv))->sp vs H Q E ->
   ∃ t,PSs (Wn CX0 P w K mg base N qual (Al st) f cdv A outer s H E).nox (Bm st) t/\t { nx:=fun _ H'=>Q .non H',rt:=Q } (start N vs) H):FnOk P w K mg base CX0 (k+1) f fd ps sp:=by
 obtain ⟨oc,od,kV,doc,pm,an,cdv,ct,osl,rfl,lk,hcd⟩:=F.ex
 refine Aj9 lk hcd S len fun A outer s H vs Q E hr hsp=>?_
 obtain ⟨t,h,q⟩:=hbody cdv A outer s H vs Q E hr hsp
 exact ⟨t,h.nox,q⟩
theorem Fun.binds{fd:cU}{ps:List Str}(F:Fun K x qual st f fd)
  (h:∀ (kV doc pm:aG) (an:Option Addr) (cdv ct:aG) (us:List aG),us.length=ps.length->bindArgs (cE x qual (Bq st) (Bm st) (Al st) .none kV doc pm an cdv ct) ⟨us,[]⟩=pure (ps.zip us)):Binds K fd ps []:=by
 obtain ⟨oc,od,kV,doc,pm,an,cdv,ct,osl,rfl,lk,hcd⟩:=F.ex
 exact .all (h kV doc pm an cdv ct)
theorem Cw{oc:aG}{od an:Option Addr}{osl:Array (Option aG)}{kV doc pm cdv ct:aG}(l:K.lookup f=some ⟨oc,od,.func (cE x qual (Bq st) (Bm st) (Al st) .none kV doc pm an cdv ct),osl⟩)
  (c:cD K cdv qual=true) (k:bX K (.ref f)=true):Fun K x qual st f (cE x qual (Bq st) (Bm st) (Al st) .none kV doc pm an cdv ct):=⟨⟨oc,od,kV,doc,pm,an,cdv,ct,osl,rfl,l,c⟩,k⟩
end
theorem X4{A B:Prop}(h:B):if false=true then A else B:=by
 rw[if_neg cM]
 exact h
theorem Yq{A B:Prop}(h:A):if true=true then A else B:=by
 rw[if_pos rfl]
 exact h
noncomputable def Same(H H':Hp):Prop:=∀ b o,H b=some o->H' b=some o
theorem Same.refl(H:Hp):Same H H:=fun _ _ h=>h
variable {H:Hp}
theorem Same.trans{H1 H2:Hp}(a:Same H H1)(b:Same H1 H2):Same H H2:=fun c o h=>b c o (a c o h)
variable {H':Hp}
theorem Same.free(e:Same H H'){l:Addr}(h:H' l=tG):H l=tG:=by
 cases q:H l with
 | none=>rfl
 | some o=>
  rw[e l o q] at h
  cases h
variable {a:Addr}
theorem Same.seq{K:aJ}{xs:List V}(e:Same H H')(h:SqL K H a xs):SqL K H' a xs:=by
 rcases h with (h | ⟨o,h⟩) | h
 ·exact .inl (.inl (e _ _ h))
 ·exact .inl (.inr ⟨o,e _ _ h⟩)
 ·exact .inr h
variable {o:Option V}{u:aG}{y:V}
section
variable {κ:Type}[DecidableEq κ]
noncomputable def Mt(kvs:List (κ×V))(k:κ):Option V:=(kvs.find? fun kv=>decide (kv.1=k)).map (·.2)
noncomputable def N9(kvs:List (κ×V))(k:κ)(v:V):List (κ×V):=
 if (kvs.any fun kv=>decide (kv.1=k))=true then kvs.map (fun kv=>if kv.1=k then (kv.1,v) else kv) else kvs++[(k,v)]
noncomputable def Aah(kvs:List (κ×V))(k:κ):List (κ×V):=kvs.filter fun kv=>decide (kv.1≠k)
theorem R7{p:κ×V}{r:List (κ×V)}{k:κ}(e:p.1=k):Mt (p::r) k=some p.2:=by simp[Mt,dF,e]
theorem Rm{p:κ×V}{r:List (κ×V)}{k:κ}(e:¬ p.1=k):Mt (p::r) k=Mt r k:=by simp[Mt,dF,e]
theorem Q2(k:κ):∀ kvs:List (κ×V),(kvs.any fun kv=>decide (kv.1=k))=(Mt kvs k).isSome
 | []=>rfl
 | p::r=>by
  rw[gF]
  by_cases e:p.1=k
  ·simp only[R7 e,decide_eq_true e,Bool.true_or,pQ]
  ·rw[Rm e,decide_eq_false e,sP];exact Q2 k r
theorem Pn(kvs:List (κ×V))(k:κ)(v:V):(N9 kvs k v).length<=kvs.length+1:=by
 unfold N9
 split
 ·rw[aQ];omega
 ·rw[cH,aM,aY];omega
theorem RelO.isSome_eq{u:Option aG}(r:RelO o u):o.isSome=u.isSome:=by
 cases o with
 | none=>cases u with
  | none=>rfl
  | some _=>exact (show False from r).elim
 | some _=>cases u with
  | none=>exact (show False from r).elim
  | some _=>rfl
theorem RelO.getD{u:Option aG}{d:V}{d':aG}(r:RelO o u)(rd:RelV d d'):RelV (o.getD d) (u.getD d'):=by
 cases o with
 | none=>cases u with
  | none=>exact rd
  | some _=>exact (show False from r).elim
 | some _=>cases u with
  | none=>exact (show False from r).elim
  | some _=>exact r
theorem KV.val{kvs:List (κ×V)}{vs:List (κ×aG)}(r:KV kvs vs)(k:κ):RelO (Mt kvs k) (valueAt vs k):=by
 unfold KV at r
 induction r with
 | nil=>exact iJ
 | @cons p q ps qs h t ih=>
  obtain ⟨h1,h2⟩:=h
  by_cases e:p.1=k
  ·have e':q.1=k:=h1.symm.trans e
   have b:valueAt (q::qs) k=some q.2:=by simp[valueAt,dF,e']
   rw[R7 e,b];exact h2
  ·have e':¬ q.1=k:=fun z=>e (h1.trans z)
   have b:valueAt (q::qs) k=valueAt qs k:=by simp[valueAt,dF,e']
   rw[Rm e,b];exact ih
theorem KV.any{kvs:List (κ×V)}{vs:List (κ×aG)}(r:KV kvs vs)(k:κ):(kvs.any fun kv=>decide (kv.1=k))=vs.any fun kv=>decide (kv.1=k):=by
 unfold KV at r
 induction r with
 | nil=>rfl
 | cons h t ih=>rw[gF,gF,ih,h.1]
theorem KV.repl{kvs:List (κ×V)}{vs:List (κ×aG)}(r:KV kvs vs)(k:κ)(ry:RelV y u) :
  KV (kvs.map fun kv=>if kv.1=k then (kv.1,y) else kv) (vs.map fun kv=>if kv.1=k then (kv.1,u) else kv):=by
 unfold KV at r ⊢
 induction r with
 | nil=>exact .nil
 | @cons p q ps qs h t ih=>
  rw[aW,aW]
  refine .cons ?_ ih
  obtain ⟨h1,h2⟩:=h
  by_cases e:p.1=k
  ·rw[if_pos e,if_pos (h1.symm.trans e)];exact ⟨h1,ry⟩
  ·rw[if_neg e,if_neg (fun z=>e (h1.trans z))];exact ⟨h1,h2⟩
theorem KV.put{kvs:List (κ×V)}{vs:List (κ×aG)}(r:KV kvs vs)(k:κ)(ry:RelV y u):KV (N9 kvs k y) (stored vs k u):=by
 unfold N9 stored
 rw[r.any k]
 by_cases e:(vs.any fun kv=>decide (kv.1=k))=true
 ·rw[if_pos e,if_pos e];exact r.repl k ry
 ·rw[if_neg e,if_neg e];exact tH r ⟨rfl,ry⟩
theorem KV.drop{kvs:List (κ×V)}{vs:List (κ×aG)}(r:KV kvs vs)(k:κ):KV (Aah kvs k) (without vs k):=by
 unfold KV at r ⊢
 unfold Aah without
 induction r with
 | nil=>exact .nil
 | @cons p q ps qs h t ih=>
  obtain ⟨h1,h2⟩:=h
  rw[kH,kH]
  by_cases e:p.1=k
  ·have a:¬ decide (p.1≠k)=true:=by simp[e]
   have b:¬ decide (q.1≠k)=true:=by simp[h1.symm.trans e]
   rw[if_neg a,if_neg b];exact ih
  ·have e':¬ q.1=k:=fun z=>e (h1.trans z)
   have a:decide (p.1≠k)=true:=by simp[e]
   have b:decide (q.1≠k)=true:=by simp[e']
   rw[if_pos a,if_pos b];exact .cons ⟨h1,h2⟩ ih
theorem KV.keys{kvs:List (κ×V)}{vs:List (κ×aG)}(r:KV kvs vs):kvs.map (·.1)=vs.map (·.1):=by
 unfold KV at r
 induction r with
 | nil=>rfl
 | cons h t ih=>rw[aW,aW,ih,h.1]
theorem KV.length{kvs:List (κ×V)}{vs:List (κ×aG)}(r:KV kvs vs):kvs.length=vs.length:=mL r
end
theorem Ahh{k:Key}(r:RelV (kV k) u):(B7 P w).is k u=true:=by
 cases k with
 | inl i=>obtain ⟨t,e⟩:=(show ∃ t,u=kF i t from r);subst e;exact Vx P w i t
 | inr x=>obtain ⟨t,e⟩:=(show ∃ t,u=qT x t from r);subst e;exact Wd P w x t
theorem Tv:∀ {ks:List Key} {us:List aG},Vals (ks.map kV) us->ItemsAre (B7 P w) ks us
 | [],_,r=>by rw[bW] at r;cases r;exact .nil
 | k::ks,_,r=>by
  rw[aW] at r
  cases r with
  | cons h t=>exact .cons (Ahh h) (Tv t)
abbrev KT(H:Hp):List (List Key×V)->List (List Key×Addr×aG)->Prop:=sC fun p q=>p.1=q.1/\H q.2.1=some (.tup (p.1.map kV))/\RelV p.2 q.2.2
variable {xs:List (List Key×Addr×aG)}{kvs:List (List Key×V)}
theorem KT.val(r:KT H kvs xs)(k:List Key):RelO (Mt kvs k) ((atKey xs k).map (·.2)):=by
 induction r with
 | nil=>exact iJ
 | @cons p q ps qs h t ih=>
  obtain ⟨h1,_,h2⟩:=h
  by_cases e:p.1=k
  ·have e':q.1=k:=h1.symm.trans e
   have b:atKey (q::qs) k=some q.2:=by simp[atKey,dF,e']
   rw[R7 e,b];exact h2
  ·have e':¬ q.1=k:=fun z=>e (h1.trans z)
   have b:atKey (q::qs) k=atKey qs k:=by simp[atKey,dF,e']
   rw[Rm e,b];exact ih
theorem KT.repl(r:KT H kvs xs)(k:List Key)(ry:RelV y u) :
  KT H (kvs.map fun kv=>if kv.1=k then (kv.1,y) else kv) (xs.map (putAt k u)):=by
 induction r with
 | nil=>exact .nil
 | @cons p q ps qs h t ih=>
  rw[aW,aW]
  refine .cons ?_ ih
  obtain ⟨h1,h2,h3⟩:=h
  unfold putAt
  by_cases e:p.1=k
  ·rw[if_pos e,if_pos (h1.symm.trans e)];exact ⟨h1,h2,ry⟩
  ·rw[if_neg e,if_neg (fun z=>e (h1.trans z))];exact ⟨h1,h2,h3⟩
variable {b:Addr}
theorem KT.put(r:KT H kvs xs)(k:List Key)(hb:H b=some (.tup (k.map kV)))(ry:RelV y u) :
  KT H (N9 kvs k y) (storedH xs k b u):=by
 have e:(kvs.any fun kv=>decide (kv.1=k))=(atKey xs k).isSome:=by
  rw[Q2,(r.val k).isSome_eq,qH]
 unfold N9 storedH
 rw[e]
 by_cases q:(atKey xs k).isSome=true
 ·rw[if_pos q,if_pos q];exact r.repl k ry
 ·rw[if_neg q,if_neg q];exact tH r ⟨rfl,hb,ry⟩
theorem KT.keeps(r:KT H kvs xs)(ht:∀ b ys,H b=some (.tup ys)->H' b=some (.tup ys)):KT H' kvs xs:=
 Paired.mapP r fun _ _ z=>⟨z.1,ht _ _ z.2.1,z.2.2⟩
section
variable {h:Heap}
theorem Akr{u:HO}(ok:HOk P w H h)(e:Rd H a u):ObjOk P w H h a u:=e.ok ok
theorem Ab9{kvs:List (Key×V)}(ok:HOk P w H h)(e:Rd H a (.dK kvs)):kvs.length<=sizeLine/\(a == sysModules)=false/\∃ vs,KV kvs vs/\h.DictOf (B7 P w) a vs:=
 show ObjOk P w H h a (.dK kvs) from Akr ok e
theorem Agh{kvs:List (Key×V)}(ok:HOk P w H h)(e:H a=some (.dK kvs)):kvs.length<=sizeLine/\(a == sysModules)=false/\∃ vs,KV kvs vs/\h.DictOf (B7 P w) a vs:=Ab9 ok (.inl e)
theorem Yu{ks:List Key}(ok:HOk P w H h)(e:H a=some (.tup (ks.map kV))):(tupleKind (B7 P w)).is h ks a:=by
 obtain ⟨_,its,r,o,h1,h2,n,h3⟩:=(show ObjOk P w H h a (.tup (ks.map kV)) from ok a _ e)
 exact ⟨o,its.toArray,n,h1,(kN h2).1,h3,by simpa using Tv r⟩
theorem Ab2(ok:HOk P w H h)(e:Rd H a (.dT kvs)):kvs.length<=sizeLine/\(a == sysModules)=false /\
  ∃ xs,KT H kvs xs/\h.DictOfH (tupleKind (B7 P w)) a xs:=by
 obtain ⟨z,y,xs,r,o,es,ep,h1,h2,h3,h4,h5⟩:=(show ObjOk P w H h a (.dT kvs) from Akr ok e)
 refine ⟨z,y,xs,r,o,es,ep,h1,h2,h3,h4,fun x hx=>?_,h5⟩
 have all:∀ {l:List (List Key×V)} {m:List (List Key×Addr×aG)},KT H l m->∀ x∈m,(tupleKind (B7 P w)).is h x.1 x.2.1:=by
  intro l m q
  induction q with
  | nil=>intro x hx;exact nomatch hx
  | @cons p q ps qs hq t ih=>
   intro x hx
   rcases bH.mp hx with e | hx
   ·subst e
    exact Yu ok (by rw[<- hq.1];exact hq.2.1)
   ·exact ih x hx
 exact all r x hx
theorem An3(ok:HOk P w H h)(e:H a=some (.dT kvs)):kvs.length<=sizeLine/\(a == sysModules)=false /\
  ∃ xs,KT H kvs xs/\h.DictOfH (tupleKind (B7 P w)) a xs:=Ab2 ok (.inl e)
end
noncomputable def DGet(H:Hp)(a:Addr)(y:V)(r:Option V):Prop:=
 (∃ kvs k,Rd H a (.dK kvs)/\y=kV k/\r=Mt kvs k)\/∃ kvs k b,Rd H a (.dT kvs)/\y = .ref b/\H b=some (.tup (k.map kV))/\r=Mt kvs k
noncomputable def DPut(H:Hp)(a:Addr)(y v:V)(H':Hp):Prop:=
 (∃ kvs k,H a=some (.dK kvs)/\y=kV k/\kvs.length < sizeLine/\H'=upd H a (.dK (N9 kvs k v))) \/
 ∃ kvs k b,H a=some (.dT kvs)/\y = .ref b/\H b=some (.tup (k.map kV))/\kvs.length < sizeLine/\H'=upd H a (.dT (N9 kvs k v))
theorem DGet.k{kvs:List (Key×V)}{k:Key}(e:H a=some (.dK kvs)):DGet H a (kV k) (Mt kvs k):=.inl ⟨kvs,k,.inl e,rfl,rfl⟩
theorem DGet.t{k:List Key}(e:H a=some (.dT kvs))(eb:H b=some (.tup (k.map kV))):DGet H a (.ref b) (Mt kvs k):=.inr ⟨kvs,k,b,.inl e,rfl,eb,rfl⟩
variable {v:V}
theorem DPut.k{kvs:List (Key×V)}{k:Key}(e:H a=some (.dK kvs))(hl:kvs.length < sizeLine):DPut H a (kV k) v (upd H a (.dK (N9 kvs k v))):=.inl ⟨kvs,k,e,rfl,hl,rfl⟩
theorem DPut.t{k:List Key}(e:H a=some (.dT kvs))(eb:H b=some (.tup (k.map kV)))(hl:kvs.length < sizeLine) :
  DPut H a (.ref b) v (upd H a (.dT (N9 kvs k v))):=.inr ⟨kvs,k,b,e,rfl,eb,hl,rfl⟩
variable {A:eE}{pins:List (Addr×Obj)}{σ:St}{s:aR}{E:aG->aR->Prop}
section
variable {r:aG}
theorem Inv.big(I:Inv X pins σ H s):sysModules < s.heap.objs.size:=by
 have h:bJ < s.heap.objs.size:=(I.mod.glob.keeps I.bk).lt
 exact Nat.lt_trans (by decide) h
theorem Adg{Q:aG->aR->Prop}(hu:A.units+1 < cLine)(I:Inv X pins σ H s)(g:DGet H a y (some v))(ry:RelV y u)(h:∀ w' s',Inv X pins σ H s'->RelV v w'->Q w' s') :
  wpAny (model X.prog X.w) A (getItem (.ref a) u) Q E s:=by
 rcases g with ⟨kvs,k,e,ey,l⟩ | ⟨kvs,k,b,e,ey,eb,l⟩
 ·subst ey
  obtain ⟨z,hd,vs,rel,dd⟩:=Ab9 I.hok e
  obtain ⟨w',hw,rw'⟩:=RelO.some_of (v:=v) (o:=valueAt vs k) (by rw[l];exact rel.val k)
  exact wpAny_getItem_of (Ahh ry) dd.mapOf hw (h w' _ (I.tok _) rw')
 ·subst ey
  cases (show u=eD b from ry)
  obtain ⟨z,hd,xs,rel,dd⟩:=Ab2 I.hok e
  obtain ⟨w',hw,rw'⟩:=RelO.some_of (v:=v) (o:=(atKey xs k).map (·.2)) (by rw[l];exact rel.val k)
  obtain ⟨p,hp,hp2⟩:=aH.mp hw
  refine wpAny_getItem_heap (pR hu) (Yu I.hok eb) dd hp ?_
  rw[hp2]
  exact h w' _ (I.tok _) rw'
theorem Aan{h':Heap}{t':Nat}{ob:HO}(I:Inv X pins σ H s)(mu:Mut (H a))(hs:lJ a s.heap h')(he:∃ q,h'.get? a=some q)(new:ObjOk X.prog X.w (upd H a ob) h' a ob) :
  Inv X pins σ (upd H a ob) { s with heap:=h',toks:=t' }:=
 I.write (x:=a) (e:=a) mu (.inl rfl) (fun b q hb z=>(hs.2 b hb).trans z) he new
theorem Ak4{h':Heap}{kvs:List (Key×V)}{vs:List (Key×aG)}(z:kvs.length<=sizeLine)(hd:(a == sysModules)=false)(rel:KV kvs vs)(dd:h'.DictOf (B7 P w) a vs) :
  ObjOk P w H' h' a (.dK kvs):=⟨z,hd,vs,rel,dd⟩
theorem Ac1{Q:Unit->aR->Prop}(hu:A.units+1 < cLine)(I:Inv X pins σ H s)(g:DPut H a y v H')(ry:RelV y u)(rv:RelV v r)(h:∀ s',Inv X pins σ H' s'->Q () s') :
  wpAny (model X.prog X.w) A (setItem (.ref a) u r) Q E s:=by
 rcases g with ⟨kvs,k,e,ey,l,eH⟩ | ⟨kvs,k,b,e,ey,eb,l,eH⟩
 ·subst ey eH
  obtain ⟨z,hd,vs,rel,dd⟩:=Agh I.hok e
  have hz:vs.length<=sizeLine:=by rw[<- rel.length];exact z
  have hl:(N9 kvs k v).length<=sizeLine:=by have:=Pn kvs k v;omega
  refine wpAny_setItem_pairs (hsz:=hz) (Ahh ry) dd fun h' dd' hs=>h _ ?_
  have he:∃ q,h'.get? a=some q:=let ⟨q,_,_,hq,_⟩:=dd';⟨q,hq⟩
  exact Aan I (by rw[e];exact iJ) hs he (Ak4 hl hd (rel.put k rv) dd')
 ·subst ey eH
  cases (show u=eD b from ry)
  obtain ⟨z,hd,xs,rel,dd⟩:=An3 I.hok e
  have hz:xs.length<=sizeLine:=by rw[<- mL rel];exact z
  have hl:(N9 kvs k v).length<=sizeLine:=by have:=Pn kvs k v;omega
  refine wpAny_setItem_heap (hsz:=hz) (pR hu) (Yu I.hok eb) dd fun h' dd' hs=>h _ ?_
  obtain ⟨q,es,ep,hq,h2,h3,h4,_,h5⟩:=dd'
  refine Aan I (by rw[e];exact iJ) hs ⟨q,hq⟩ ⟨hl,hd,_,(rel.put k eb rv).keeps fun c ys ec=>?_,q,es,ep,hq,h2,h3,h4,h5⟩
  rw[Ap (K5 ec e (fun z=>nomatch z))]
  exact ec
end
section
variable {kvs:List (Key×V)}{k:Key}
end
noncomputable def Aiv(i:Expr):Prop:=∀ ov iv,subscripted i false ov iv=operate [ov,iv] (getItem ov iv)
variable {pos:Pos}
theorem Ajp{prog:cX}{env:Env}{value slice:Expr}{T id:String}{Q:aG->aR->Prop}
  (hl:typeLookup (.type T) "__getitem__" = pure (some (.builtin id))) (hs:Aiv slice)
  (h:wpAny (model prog w) A (eval value env) (fun o s₁=>wpAny (model prog w) A (eval slice env) (fun i s₂=>s₂.TypeIs o T/\wpAny (model prog w) A (getItem o i) Q E s₂) E s₁) E s) :
  wpAny (model prog w) A (eval (.Subscript value slice pos) env) Q E s:=by
 refine pO (dN h (fun o s₁ h₁=>dN h₁ (fun i s₂ h₂=>?_) fun _ _ x=>x) fun _ _ x=>x)
 obtain ⟨hT,h₂⟩:=h₂
 unfold subscriptTail
 refine aD ?_
 rw[getitemInPython_of_ne hT.not_modules]
 refine aD (wpAny_specialOf hT hl ?_)
 have fin:wpAny (model prog w) A (subscripted slice false o i) (fun r s₃=>wpAny (model prog w) A (letTemporaryGo value o r >>= fun _=>pure r) Q E s₃) E s₂:=by
  rw[hs o i]
  exact wpAny_operating (dN h₂ (fun r s₃ h₃=>aD (wpAny_letTemporaryGo (bC h₃))) fun _ _ x=>x)
 first
  | exact bC (aD fin)
  | exact aD (bC (aD fin))
  | exact aD fin
theorem Wm(I:Inv X pins σ H s)(g:DGet H a y o):s.TypeIs (.ref a) "dict" := by
 rcases g with ⟨kvs,k,e,_,_⟩ | ⟨kvs,k,b,e,_,_,_⟩
 ·obtain ⟨_,_,vs,_,dd⟩:=Ab9 I.hok e
  exact dd.typeIs
 ·obtain ⟨_,_,xs,_,dd⟩:=Ab2 I.hok e
  exact dd.typeIs
noncomputable def Aof(td ty:TE):TE:=fun σ H Q=>td σ H fun x H1=>ty σ H1 fun y H2=>∃ a v,x = .ref a/\DGet H2 a y (some v)/\Q v H2
noncomputable def Aod(td ty tv:TE):TS:=fun D σ H=>tv σ H fun v H1=>td σ H1 fun x H2=>ty σ H2 fun y H3=>∃ a H4,x = .ref a/\DPut H3 a y v H4/\D.nx σ H4
section
variable {o i e value:Expr}{pos' tpos:Pos}{td ty tv:TE}
theorem Aaf(hu:X.A.units+1 < cLine)(ho:PE X o td)(hi:PE X i ty)(hs:Aiv i):PE X (.Subscript o i pos) (Aof td ty):=by
 intro pins s σ H Q I h
 refine Ajp PySem.F.slot_dict_getitem.lookup hs (thn (ho pins s σ H _ I h) fun u s1 zz=>zz.elim fun x H1 I1 rx q1=>thn (hi pins s1 σ H1 _ I1 q1) fun iv s2 zz=>zz.elim fun y H2 I2 ry zq=>?_)
 obtain ⟨a,v,ex,g,q2⟩:=zq
 subst ex
 obtain rfl:u=eD a:=rx
 exact ⟨Wm I2 g,Adg hu I2 g ry fun w' s3 I3 rw'=>⟨v,H2,I3,rw',q2⟩⟩
theorem Ahz(hu:X.A.units+1 < cLine)(ho:PE X o td)(hi:PE X i ty)(hv:PE X value tv)(hs:swapsWith value (some (.Subscript o i pos')) pos.line X.env=pure false) :
  PS X (.Assign [.Subscript o i pos'] value pos) (Aod td ty tv):=by
 intro pins s σ H D I h
 refine wpAny_Assign_Subscript (thn (hv pins s σ H _ I h) fun r s1 zz=>zz.elim fun v H1 I1 rv q1=>thn (ho pins s1 σ H1 _ I1 q1) fun u s2 zz=>zz.elim fun x H2 I2 rx q2=>thn (hi pins s2 σ H2 _ I2 q2) fun iv s3 zz=>zz.elim fun y H3 I3 ry zq=>?_) hs
 obtain ⟨a,H4,ex,g,q3⟩:=zq
 subst ex
 obtain rfl:u=eD a:=rx
 exact Ac1 hu I3 g ry rv fun s4 I4=>⟨σ,H4,I4,q3⟩
end
theorem Afn(h:Heap)(hb:sysModules < h.objs.size):ObjOk P w H (h.push { cls:=.type "dict",data:=.dict #[] }) h.objs.size (.dK []):=
 ⟨gE _,beq_eq_false_iff_ne.mpr (eR (cC hb)),[],.nil,Heap.DictOf.new h⟩
noncomputable def Am0:TE:=fun _ H Q=>∀ p,H p=none->Q (.ref p) (upd H p (.dK []))
section
theorem Afg:PE X (.Dict [] [] pos) Am0:=fun pins s σ H Q I h=>
 wpAny_Dict_empty ⟨.ref s.heap.objs.size,_,I.laid (a:=s.heap.objs.size) (o:=.dK []) (t':=s.toks) (fun _ _ q=>aE _ q) (aS _) (Afn s.heap I.big),rfl,h _ (I.hok.fresh (aS _))⟩
end
structure M1(X:Cx)(o:Expr)(m:Str)(apos:Pos)(e:Expr)(cpos:Pos):Prop where
 base:attributeBase o m X.env (eval o X.env)=eval o X.env
 few:((backTo cpos (bQ [e] X.env)).all (fun x=>!x.1)&&(backToKw cpos (keywordEach [] X.env)).all (fun x=>x.1.isSome)
  && decide (([e]:List Expr).length+([]:List jJ).length+(if ([]:List jJ).isEmpty then 0 else 1) < 30))=true
 line:(apos.endLine == cpos.line)=true
 trees:backTo cpos (bQ [e] X.env)=[(false,eval e X.env)]
structure M2(X:Cx)(o:Expr)(m:Str)(apos:Pos)(e f:Expr)(cpos:Pos):Prop where
 base:attributeBase o m X.env (eval o X.env)=eval o X.env
 few:((backTo cpos (bQ [e,f] X.env)).all (fun x=>!x.1)&&(backToKw cpos (keywordEach [] X.env)).all (fun x=>x.1.isSome)
  && decide (([e,f]:List Expr).length+([]:List jJ).length+(if ([]:List jJ).isEmpty then 0 else 1) < 30))=true
 line:(apos.endLine == cpos.line)=true
 trees:backTo cpos (bQ [e,f] X.env)=[(false,eval e X.env),(false,eval f X.env)]
noncomputable def IsD(H:Hp)(a:Addr):Prop:=(∃ kvs,Rd H a (.dK kvs))\/∃ kvs,Rd H a (.dT kvs)
theorem Af9(I:Inv X pins σ H s)(d:IsD H a) :
  s.TypeIs (.ref a) "dict" /\ (∀ b,eD a = .ref b->∃ ob,s.heap.get? b=some ob/\ob.dict=none)/\(a == sysModules)=false:=by
 rcases d with ⟨kvs,e⟩ | ⟨kvs,e⟩
 ·obtain ⟨_,hd,vs,_,dd⟩:=Ab9 I.hok e
  refine ⟨dd.typeIs,fun b q=>?_,hd⟩
  cases q
  obtain ⟨ob,_,_,h1,h2,_⟩:=dd
  exact ⟨ob,h1,h2.2.1⟩
 ·obtain ⟨_,hd,xs,_,dd⟩:=Ab2 I.hok e
  refine ⟨dd.typeIs,fun b q=>?_,hd⟩
  cases q
  obtain ⟨ob,_,_,h1,h2,_⟩:=dd
  exact ⟨ob,h1,h2.2.1⟩
section
variable {d:V}{r:aG}
end
section
variable {o e f:Expr}{apos cpos:Pos}{td ty tx:TE}
end
section
variable {kvs:List (Key×V)}
end
end L2
namespace MR
open PySem PySem.Spec PyProof.Rows L2
inductive U where
 | non | bl (b:Bool) | int (i:Int) | str (x:Str) | tup (l:List U) | ref (n:Nat)
inductive HU where
 | lst (xs:List U) | ro (xs:List U) | dic (kvs:List (Key×U)) | rod (kvs:List (Key×U)) | ins (C:Str) (fs:List (Str×U)) | exc (C:Str) (fr:Bool) (fs:List (Str×U))
abbrev UH:=List HU
abbrev UE:=List (Option U)
section
variable (K:aJ)(H:Hp)(α:List Addr)
mutual
noncomputable def RepU:U->V->Prop
 | .non,v=>v = .non
 | .bl b,v=>v = .bl b
 | .int i,v=>v = .int i
 | .str x,v=>v = .str x
 | .tup l,v=>∃ a xs,v = .ref a/\SqT K H a xs/\RepL l xs
 | .ref n,v=>∃ a,α[n]? = some a/\v = .ref a
noncomputable def RepL:List U->List V->Prop
 | [],xs=>xs=[]
 | u::l,xs=>∃ x r,xs=x::r/\RepU u x/\RepL l r
end
end
noncomputable def Gn:List Str:=["first_heaviest","turns_from_the_highest"]
noncomputable def Mg(nm:Str):Str:=nm++(".<locals>." : Str)++("<lambda>" : Str)
noncomputable def LCode(H:Hp)(q:Str)(cv:aG):Prop:=∃ c oc vs t,cv = .ref c/\H c=some (.frz oc (.ext fun _=>True))/\oc.data = .fields vs/\vs[1]? = some (.str q t)
noncomputable def GoodTab(H:Hp)(P:Addr)(q:Str):Prop:=∃ ps,H P=some (.tbl ps)/\rB ps.toList/\∀ pos cv,codeAmong pos ps.toList=some cv->LCode H q cv
variable {H H':Hp}
theorem GoodTab.keep{P:Addr}{q:Str}(hf:∀ b o u,H b=some (.frz o u)->H' b=some (.frz o u))(ht:∀ ps,H P=some (.tbl ps)->H' P=some (.tbl ps))(h:GoodTab H P q):GoodTab H' P q:=by
 obtain ⟨ps,e,tr,g⟩:=h
 refine ⟨ps,ht ps e,tr,fun pos cv ec=>?_⟩
 obtain ⟨c,oc,vs,t,e1,e2,r⟩:=g pos cv ec
 exact ⟨c,oc,vs,t,e1,hf _ _ _ e2,r⟩
noncomputable def Stay(H H':Hp):Prop:=(∀ b xs,H b=some (.tup xs)->H' b=some (.tup xs))/\∀ b o u,H b=some (.frz o u)->H' b=some (.frz o u)
theorem Stay.refl(H:Hp):Stay H H:=⟨fun _ _ q=>q,fun _ _ _ q=>q⟩
variable {H1 H2:Hp}
theorem Stay.trans(a:Stay H H1)(b:Stay H1 H2):Stay H H2:=⟨fun c xs q=>b.1 c xs (a.1 c xs q),fun c o u q=>b.2 c o u (a.2 c o u q)⟩
variable {K:aJ}{a:Addr}{xs:List V}
theorem Stay.sqT(e:Stay H H')(h:SqT K H a xs):SqT K H' a xs:=by
 rcases h with (h | ⟨o,h⟩) | h
 ·exact .inl (.inl (e.1 _ _ h))
 ·exact .inl (.inr ⟨o,e.2 _ _ _ h⟩)
 ·exact .inr h
variable {p:Addr}
theorem Stay.new(h:H p=none)(o:HO):Stay H (upd H p o):=⟨fun b u q=>by rw[Ap (Bc q h)];exact q,fun b o u q=>by rw[Ap (Bc q h)];exact q⟩
variable {o:HO}
theorem Stay.write(h:H p=some o)(m:Mut (some o))(o':HO):Stay H (upd H p o'):=
 ⟨fun b u q=>by rw[Ap (K5 q h (fun z=>by subst z;exact m))];exact q,fun b w u q=>by rw[Ap (K5 q h (fun z=>by subst z;exact m))];exact q⟩
theorem Qe(h:H p=none)(o:HO):∀ b ps,H b=some (.tbl ps)->upd H p o b=some (.tbl ps):=fun b u q=>by rw[Ap (Bc q h)];exact q
theorem Ac2(h:H p=some o)(m:Mut (some o))(o':HO):∀ b ps,H b=some (.tbl ps)->upd H p o' b=some (.tbl ps):=fun b u q=>by rw[Ap (K5 q h (fun z=>by subst z;exact m))];exact q
structure Gr(H:Hp)(α:List Addr)(H':Hp)(α':List Addr):Prop where
 pre:∃ β,α' = α ++ β
 st:Stay H H'
theorem Gr.refl(H:Hp)(α:List Addr):Gr H α H α:=⟨⟨[],by simp⟩,.refl H⟩
variable {α:List Addr}
theorem Gr.trans{α1 α2:List Addr}(a:Gr H α H1 α1)(b:Gr H1 α1 H2 α2):Gr H α H2 α2:=by
 obtain ⟨⟨β,e⟩,s⟩:=a
 obtain ⟨⟨γ,e'⟩,s'⟩:=b
 exact ⟨⟨β ++ γ,by rw[e',e,dE]⟩,s.trans s'⟩
variable {α':List Addr}{n:Nat}
theorem Gr.at(g:Gr H α H' α')(h:α[n]? = some a):α'[n]? = some a:=by
 obtain ⟨β,e⟩:=g.pre
 have hn:n < α.length:=(aF.mp h).1
 rw[e,bI hn];exact h
variable {l:List U}{i:Nat}{x:V}{u:U}
section
mutual
theorem RepU.mono(g:Gr H α H' α'):∀ (u:U) (v:V),RepU K H α u v->RepU K H' α' u v
 | .non,_,h=>h
 | .bl _,_,h=>h
 | .int _,_,h=>h
 | .str _,_,h=>h
 | .tup l,v,h=>by
  unfold RepU at h ⊢
  obtain ⟨a,xs,e,s,r⟩:=h
  exact ⟨a,xs,e,g.st.sqT s,RepL.mono g l xs r⟩
 | .ref n,v,h=>by
  unfold RepU at h ⊢
  obtain ⟨a,e,q⟩:=h
  exact ⟨a,g.at e,q⟩
theorem RepL.mono(g:Gr H α H' α'):∀ (l:List U) (xs:List V),RepL K H α l xs->RepL K H' α' l xs
 | [],xs,h=>h
 | u::l,xs,h=>by
  unfold RepL at h ⊢
  obtain ⟨x,r,e,h1,h2⟩:=h
  exact ⟨x,r,e,RepU.mono g u x h1,RepL.mono g l r h2⟩
end
theorem RepL.length:∀ {l:List U} {xs:List V},RepL K H α l xs->l.length=xs.length
 | [],xs,h=>by unfold RepL at h;subst h;rfl
 | u::l,xs,h=>by
  unfold RepL at h
  obtain ⟨x,r,e,_,h2⟩:=h
  subst e
  simp[RepL.length h2]
theorem RepL.get:∀ {l:List U} {xs:List V} {i:Nat} {u:U},RepL K H α l xs->l[i]? = some u->∃ x,xs[i]? = some x/\RepU K H α u x
 | [],xs,i,u,h,e=>by simp at e
 | w::l,xs,i,u,h,e=>by
  unfold RepL at h
  obtain ⟨x,r,e',h1,h2⟩:=h
  subst e'
  cases i with
  | zero=>simp at e;subst e;exact ⟨x,rfl,h1⟩
  | succ i=>simpa using RepL.get (i:=i) h2 (by simpa using e)
theorem RepL.get'(h:RepL K H α l xs)(e:xs[i]? = some x):∃ u,l[i]? = some u/\RepU K H α u x:=by
 have hi:i < l.length:=by rw[h.length];exact (aF.mp e).1
 obtain ⟨y,e2,r⟩:=h.get (aL hi)
 rw[e] at e2;cases e2
 exact ⟨_,aL hi,r⟩
theorem RepL.nil:RepL K H α [] []:=by unfold RepL;rfl
theorem RepL.cons(h:RepU K H α u x)(t:RepL K H α l xs):RepL K H α (u::l) (x::xs):=by
 unfold RepL;exact ⟨x,xs,rfl,h,t⟩
theorem RepL.append:∀ {l l':List U} {xs ys:List V},RepL K H α l xs->RepL K H α l' ys->RepL K H α (l++l') (xs++ys)
 | [],l',xs,ys,h,t=>by unfold RepL at h;subst h;exact t
 | u::l,l',xs,ys,h,t=>by
  unfold RepL at h
  obtain ⟨x,r,e,h1,h2⟩:=h
  subst e
  exact .cons h1 (RepL.append h2 t)
theorem RepL.take:∀ {l:List U} {xs:List V} (n:Nat),RepL K H α l xs->RepL K H α (l.take n) (xs.take n)
 | [],xs,n,h=>by unfold RepL at h;subst h;simp[RepL.nil]
 | u::l,xs,0,h=>by simp[RepL.nil]
 | u::l,xs,n+1,h=>by
  unfold RepL at h
  obtain ⟨x,r,e,h1,h2⟩:=h
  subst e
  exact .cons h1 (RepL.take n h2)
theorem RepL.drop:∀ {l:List U} {xs:List V} (n:Nat),RepL K H α l xs->RepL K H α (l.drop n) (xs.drop n)
 | [],xs,n,h=>by unfold RepL at h;subst h;simp[RepL.nil]
 | u::l,xs,0,h=>h
 | u::l,xs,n+1,h=>by
  unfold RepL at h
  obtain ⟨x,r,e,h1,h2⟩:=h
  subst e
  exact RepL.drop n h2
theorem RepL.set(q:RepU K H α u x):∀ {l:List U} {xs:List V} (n:Nat),RepL K H α l xs->RepL K H α (l.set n u) (xs.set n x)
 | [],xs,n,h=>by unfold RepL at h;subst h;exact .nil
 | w::l,xs,0,h=>by
  unfold RepL at h
  obtain ⟨y,r,e,h1,h2⟩:=h
  subst e
  exact .cons q h2
 | w::l,xs,n+1,h=>by
  unfold RepL at h
  obtain ⟨y,r,e,h1,h2⟩:=h
  subst e
  exact .cons h1 (RepL.set q n h2)
theorem RepL.erase:∀ {l:List U} {xs:List V} (n:Nat),RepL K H α l xs->RepL K H α (l.eraseIdx n) (xs.eraseIdx n)
 | [],xs,n,h=>by unfold RepL at h;subst h;exact .nil
 | w::l,xs,0,h=>by
  unfold RepL at h
  obtain ⟨y,r,e,h1,h2⟩:=h
  subst e
  exact h2
 | w::l,xs,n+1,h=>by
  unfold RepL at h
  obtain ⟨y,r,e,h1,h2⟩:=h
  subst e
  exact .cons h1 (RepL.erase n h2)
theorem RepL.reverse:∀ {l:List U} {xs:List V},RepL K H α l xs->RepL K H α l.reverse xs.reverse
 | [],xs,h=>by unfold RepL at h;subst h;exact .nil
 | w::l,xs,h=>by
  unfold RepL at h
  obtain ⟨y,r,e,h1,h2⟩:=h
  subst e
  rw[eK,eK]
  exact (RepL.reverse h2).append (.cons h1 .nil)
theorem RepL.ints:∀ (ns:List Int),RepL K H α (ns.map U.int) (ns.map V.int)
 | []=>.nil
 | n::r=>.cons rfl (RepL.ints r)
end
noncomputable def RO(K:aJ)(H:Hp)(a:Addr)(xs:List V):Prop:=
 (∃ o,H a=some (.frz o (.lst xs)))\/∃ (o:Obj) (its:Array aG) (n:Nat),K.lookup a=some o/\o.cls = .type "list" /\ o.dict=none/\o.data = .seq its n/\its.size<=sizeLine/\Vals xs its.toList
theorem RO.sq(h:RO K H a xs):SqL K H a xs:=by
 rcases h with ⟨o,h⟩ | h
 ·exact .inl (.inr ⟨o,h⟩)
 ·exact .inr h
theorem RO.stay(st:Stay H H')(h:RO K H a xs):RO K H' a xs:=by
 rcases h with ⟨o,h⟩ | h
 ·exact .inl ⟨o,st.2 _ _ _ h⟩
 ·exact .inr h
noncomputable def An8(a Ca:Addr)(dd:Option Addr)(fr:Bool)(h:Heap):Prop:=∃ (o:Obj) (vs:Array aG),h.get? a=some o/\o.cls = .ref Ca/\o.dict=dd/\o.data = .fields vs/\1 < vs.size/\o.slots=#[]/\(fr=true->vs[1]? = some .none)
noncomputable def DictIs(H:Hp)(dd:Option Addr)(vs:List (Str×V)):Prop:=match dd with
 | none=>vs=[]
 | some dx=>vs≠[]/\∃ od,H dx=some (.frz od (.xd vs))
theorem DictIs.stay{dd:Option Addr}{vs:List (Str×V)}(st:∀ b o ws,H b=some (.frz o (.xd ws))->H' b=some (.frz o (.xd ws)))(h:DictIs H dd vs):DictIs H' dd vs:=by
 cases dd with
 | none=>exact h
 | some dx=>obtain ⟨ne,od,q⟩:=h;exact ⟨ne,od,st _ _ _ q⟩
noncomputable def HRep(K:aJ)(H:Hp)(α:List Addr)(a:Addr):HU->Prop
 | .lst us=>∃ xs,H a=some (.lst xs)/\RepL K H α us xs
 | .ro us=>∃ xs,RO K H a xs/\RepL K H α us xs
 | .dic kvs=>∃ vs,H a=some (.dK vs)/\kvs.map (·.1)=vs.map (·.1)/\RepL K H α (kvs.map (·.2)) (vs.map (·.2))
 | .rod kvs=>∃ o vs,H a=some (.frz o (.dK vs))/\kvs.map (·.1)=vs.map (·.1)/\RepL K H α (kvs.map (·.2)) (vs.map (·.2))
 | .ins C fs=>∃ Ca dx vs,bP K bJ C=some (some (.ref Ca))/\H a=some (.ins Ca dx vs)/\fs.map (·.1)=vs.map (·.1)/\RepL K H α (fs.map (·.2)) (vs.map (·.2))
 | .exc C fr fs=>∃ Ca dd vs,bP K bJ C=some (some (.ref Ca))/\H a=some (.ext (An8 a Ca dd fr))/\DictIs H dd vs/\fs.map (·.1)=vs.map (·.1)/\RepL K H α (fs.map (·.2)) (vs.map (·.2))
noncomputable def HU.isRo:HU->Bool
 | .ro _=>true
 | _=>false
structure Abs(K:aJ)(H:Hp)(α:List Addr)(L:UH):Prop where
 len:α.length=L.length
 inj:∀ (i j:Nat) (a:Addr) (o o':HU),α[i]? = some a->α[j]? = some a->L[i]? = some o->L[j]? = some o'->i=j\/o.isRo=true\/o'.isRo=true
 rep:∀ (i:Nat) (a:Addr) (o:HU),α[i]? = some a->L[i]? = some o->HRep K H α a o
 tab:∀ nm∈Gn,∀ c P,cZ K nm=some (c,P)->GoodTab H P (Mg nm)
variable {L:UH}
theorem Abs.tabs(A:Abs K H α L)(g:Stay H H')(ht:∀ b ps,H b=some (.tbl ps)->H' b=some (.tbl ps)):∀ nm∈Gn,∀ c P,cZ K nm=some (c,P)->GoodTab H' P (Mg nm):=fun nm h c P e=>(A.tab nm h c P e).keep g.2 (ht P)
theorem Abs.addr(A:Abs K H α L){o:HU}(h:L[n]? = some o):∃ a,α[n]? = some a/\HRep K H α a o:=by
 have hn:n < α.length:=by rw[A.len];exact (aF.mp h).1
 exact ⟨α[n],aL hn,A.rep n _ o (aL hn) h⟩
theorem HRep.other{o:HU}(g:Gr H α H' α')(hs:o.isRo=true\/∀ u,H a=some u->H' a=some u)(h:HRep K H α a o):HRep K H' α' a o:=by
 cases o with
 | lst us=>obtain ⟨xs,e,r⟩:=h;exact ⟨xs,(hs.resolve_left (by simp[HU.isRo])) _ e,r.mono g⟩
 | ro us=>obtain ⟨xs,e,r⟩:=h;exact ⟨xs,e.stay g.st,r.mono g⟩
 | dic kvs=>obtain ⟨vs,e,k,r⟩:=h;exact ⟨vs,(hs.resolve_left (by simp[HU.isRo])) _ e,k,r.mono g⟩
 | rod kvs=>obtain ⟨o,vs,e,k,r⟩:=h;exact ⟨o,vs,(hs.resolve_left (by simp[HU.isRo])) _ e,k,r.mono g⟩
 | ins C fs=>obtain ⟨Ca,dx,vs,n,e,k,r⟩:=h;exact ⟨Ca,dx,vs,n,(hs.resolve_left (by simp[HU.isRo])) _ e,k,r.mono g⟩
 | exc C fr fs=>obtain ⟨Ca,dd,vs,n,e,d,k,r⟩:=h;exact ⟨Ca,dd,vs,n,(hs.resolve_left (by simp[HU.isRo])) _ e,d.stay fun b o ws q=>g.st.2 b o _ q,k,r.mono g⟩
theorem HRep.some{o:HU}(h:HRep K H α a o)(n:o.isRo=false):∃ u,H a=some u:=by
 cases o with
 | lst us=>obtain ⟨xs,e,r⟩:=h;exact ⟨_,e⟩
 | ro us=>simp[HU.isRo] at n
 | dic kvs=>obtain ⟨vs,e,k,r⟩:=h;exact ⟨_,e⟩
 | rod kvs=>obtain ⟨o,vs,e,k,r⟩:=h;exact ⟨_,e⟩
 | ins C fs=>obtain ⟨Ca,dx,vs,n',e,k,r⟩:=h;exact ⟨_,e⟩
 | exc C fr fs=>obtain ⟨Ca,dd,vs,n',e,k,r⟩:=h;exact ⟨_,e⟩
theorem Abs.new{u:HU}(A:Abs K H α L)(hp:H p=none)(hr:HRep K (upd H p o) (α ++ [p]) p u) :
  Abs K (upd H p o) (α ++ [p]) (L++[u])/\Gr H α (upd H p o) (α ++ [p]):=by
 have g:Gr H α (upd H p o) (α ++ [p]):=⟨⟨[p],rfl⟩,.new hp o⟩
 have hl:=A.len
 refine ⟨⟨by simp[hl],fun i j a o1 o2 e1 e2 e3 e4=>?_,fun i a o1 e1 e2=>?_,A.tabs g.st (Qe hp o)⟩,g⟩
 ·have fresh:∀ (k:Nat) (o3:HU),α[k]? = some p->L[k]? = some o3->o3.isRo=true:=fun k o3 q1 q2=>by
   cases hh:o3.isRo with
   | true=>rfl
   | false=>
    obtain ⟨u3,q⟩:=(A.rep k p o3 q1 q2).some hh
    rw[hp] at q;cases q
  by_cases hi:i < α.length
  ·rw[bI hi] at e1
   rw[bI (by omega)] at e3
   by_cases hj:j < α.length
   ·rw[bI hj] at e2
    rw[bI (by omega)] at e4
    exact A.inj i j a o1 o2 e1 e2 e3 e4
   ·rw[cJ (by omega)] at e2
    have:a=p:=by
     cases hk:j - α.length with
     | zero=>rw[hk] at e2;simp at e2;exact e2.symm
     | succ k=>rw[hk] at e2;simp at e2
    subst this
    exact .inr (.inl (fresh i o1 e1 e3))
  ·rw[cJ (by omega)] at e1
   have hia:a=p/\i = α.length:=by
    cases hk:i - α.length with
    | zero=>rw[hk] at e1;simp at e1;exact ⟨e1.symm,by omega⟩
    | succ k=>rw[hk] at e1;simp at e1
   obtain ⟨rfl,hi'⟩:=hia
   by_cases hj:j < α.length
   ·rw[bI hj] at e2
    rw[bI (by omega)] at e4
    exact .inr (.inr (fresh j o2 e2 e4))
   ·rw[cJ (by omega)] at e2
    have:j = α.length:=by
     cases hk:j - α.length with
     | zero=>omega
     | succ k=>rw[hk] at e2;simp at e2
    exact .inl (by omega)
 ·by_cases hi:i < α.length
  ·rw[bI hi] at e1
   rw[bI (by omega)] at e2
   refine (A.rep i a o1 e1 e2).other g ?_
   exact .inr fun u3 q=>by rw[Ap (Bc q hp)];exact q
  ·rw[cJ (by omega)] at e1
   rw[cJ (by omega)] at e2
   have h1:i - α.length=0:=by
    cases hk:i - α.length with
    | zero=>rfl
    | succ k=>rw[hk] at e1;simp at e1
   rw[h1] at e1
   rw[show i - L.length=0 by omega] at e2
   simp at e1 e2
   subst e1;subst e2
   exact hr
theorem Abs.put{o0:HO}{u0 u:HU}(A:Abs K H α L)(hn:α[n]? = some p)(hL:L[n]? = some u0)(hro:u0.isRo=false)(hro':u.isRo=false)(hp:H p=some o0)(hm:Mut (some o0))(hr:HRep K (upd H p o) α p u) :
  Abs K (upd H p o) α (L.set n u)/\Gr H α (upd H p o) α:=by
 have g:Gr H α (upd H p o) α:=⟨⟨[],by simp⟩,.write hp hm o⟩
 have hl:=A.len
 have hlt:n < L.length:=(aF.mp hL).1
 have look:∀ (i:Nat) (o1:HU),(L.set n u)[i]? = some o1->∃ o2,L[i]? = some o2/\o2.isRo=o1.isRo/\(i≠n->o2=o1):=fun i o1 e=>by
  by_cases hi:n=i
  ·subst hi
   rw[bM hlt] at e
   cases e
   exact ⟨u0,hL,by rw[hro,hro'],fun z=>absurd rfl z⟩
  ·rw[bL hi] at e
   exact ⟨o1,e,rfl,fun _=>rfl⟩
 refine ⟨⟨by simp[hl],fun i j a o1 o2 e1 e2 e3 e4=>?_,fun i a o1 e1 e2=>?_,A.tabs g.st (Ac2 hp hm o)⟩,g⟩
 ·obtain ⟨x1,q1,r1,_⟩:=look i o1 e3
  obtain ⟨x2,q2,r2,_⟩:=look j o2 e4
  rw[<- r1,<- r2]
  exact A.inj i j a x1 x2 e1 e2 q1 q2
 ·by_cases hi:n=i
  ·subst hi
   rw[bM hlt] at e2
   cases e2
   rw[hn] at e1;cases e1
   exact hr
  ·rw[bL hi] at e2
   refine (A.rep i a o1 e1 e2).other g ?_
   by_cases hap:a=p
   ·subst hap
    rcases A.inj i n a o1 u0 e1 hn e2 hL with z | z | z
    ·exact absurd z.symm hi
    ·exact .inl z
    ·rw[hro] at z;cases z
   ·exact .inr fun u3 q=>by rw[Ap hap];exact q
structure RepS(K:aJ)(H:Hp)(α:List Addr)(δ:UE)(σ:L2.St):Prop where
 len:δ.length = σ.length
 at_:∀ (i:Nat) (u:U),δ[i]? = some (some u)->∃ v,σ[i]? = some (some v)/\RepU K H α u v
variable {δ:UE}{σ:L2.St}
theorem RepS.mono(g:Gr H α H' α')(h:RepS K H α δ σ):RepS K H' α' δ σ:=
 ⟨h.len,fun i u e=>let ⟨v,q,r⟩:=h.at_ i u e;⟨v,q,r.mono g⟩⟩
theorem RepS.set(h:RepS K H α δ σ)(i:Nat){v:V}(r:RepU K H α u v):RepS K H α (δ.set i (some u)) (σ.set i (some v)):=
 ⟨by simp[h.len],fun j w e=>by
  by_cases hj:i=j
  ·subst hj
   by_cases hi:i < δ.length
   ·rw[bM hi] at e
    cases e
    exact ⟨v,bM (by rw[<- h.len];exact hi),r⟩
   ·rw[eS (by simpa using hi)] at e;cases e
  ·rw[bL hj] at e
   obtain ⟨v',q,r'⟩:=h.at_ j w e
   exact ⟨v',by rw[bL hj];exact q,r'⟩⟩
variable {us:List U}
theorem RepS.start(N:List Str){vs:List V}(h:RepL K H α us vs):RepS K H α (us.map some++bN (N.length - us.length) none) (start N vs):=by
 have hl:=h.length
 refine ⟨by simp[L2.start,hl],fun i u e=>?_⟩
 by_cases hi:i < us.length
 ·rw[bI (by simpa using hi),bO] at e
  cases q:us[i]? with
  | none=>rw[q] at e;simp at e
  | some w=>
   rw[q] at e
   simp at e
   subst e
   obtain ⟨x,e2,r⟩:=h.get q
   refine ⟨x,?_,r⟩
   unfold L2.start
   rw[bI (by simp;omega),bO,e2];rfl
 ·rw[cJ (by simpa using hi)] at e
  have:=bV e
  simp at this
abbrev FE:=UE->UH->Option (U×UH)
abbrev FT:=UE->UH->Option (Bool×UH)
abbrev FA:=UE->UH->Option (List U×UH)
inductive lE(K:aJ)(f:FE)(σ:L2.St)(H:Hp)(Q:VK):Prop
 | mk (α:List Addr) (δ:UE) (L:UH) (A:Abs K H α L) (S:RepS K H α δ σ) (u:U) (L':UH) (e:f δ L=some (u,L')) (q:∀ v H' α',Gr H α H' α'->Abs K H' α' L'->RepU K H' α' u v->Q v H'):lE K f σ H Q
inductive lT(K:aJ)(f:FT)(σ:L2.St)(H:Hp)(Q:Bool->Hp->Prop):Prop
 | mk (α:List Addr) (δ:UE) (L:UH) (A:Abs K H α L) (S:RepS K H α δ σ) (b:Bool) (L':UH) (e:f δ L=some (b,L')) (q:∀ H' α',Gr H α H' α'->Abs K H' α' L'->Q b H'):lT K f σ H Q
inductive lA(K:aJ)(f:FA)(σ:L2.St)(H:Hp)(Q:List V->Hp->Prop):Prop
 | mk (α:List Addr) (δ:UE) (L:UH) (A:Abs K H α L) (S:RepS K H α δ σ) (us:List U) (L':UH) (e:f δ L=some (us,L')) (q:∀ vs H' α',Gr H α H' α'->Abs K H' α' L'->RepL K H' α' us vs->Q vs H'):lA K f σ H Q
noncomputable def PEF(X:Cx)(e:Expr)(f:FE):Prop:=PE X e (lE X.K f)
noncomputable def PTF(X:Cx)(e:Expr)(f:FT):Prop:=PT X e (lT X.K f)
noncomputable def PWF(X:Cx)(e:Expr)(f:FT):Prop:=PW X e (lT X.K f)
noncomputable def PAF(X:Cx)(es:List Expr)(f:FA):Prop:=PA X es (lA X.K f)
variable {X:Cx}{e:Expr}{es:List Expr}
section
theorem PE.imp{t t':TE}(h:PE X e t)(hi:∀ σ H Q,t' σ H Q->t σ H Q):PE X e t':=fun pins s σ H Q I q=>h pins s σ H Q I (hi σ H Q q)
theorem PT.imp{t t':TT}(h:PT X e t)(hi:∀ σ H Q,t' σ H Q->t σ H Q):PT X e t':=fun pins s σ H Q I q=>h pins s σ H Q I (hi σ H Q q)
theorem PW.imp{t t':TT}(h:PW X e t)(hi:∀ σ H Q,t' σ H Q->t σ H Q):PW X e t':=fun wh pins s σ H Q I q=>h wh pins s σ H Q I (hi σ H Q q)
theorem PA.imp{t t':TA}(h:PA X es t)(hi:∀ σ H Q,t' σ H Q->t σ H Q):PA X es t':=fun pos pins s σ H Q I q=>h pos pins s σ H Q I (hi σ H Q q)
end
noncomputable def Ad(i:Nat):FE:=fun δ L=>(δ[i]?).join.map fun u=>(u,L)
noncomputable def fC(u:U):FE:=fun _ L=>some (u,L)
variable {b c:Expr}{pos:Pos}{r:R2}{sem:S2}{fa fb f:FE}{op:CmpOp}
section
variable {a:Expr}
theorem Ag(i:Nat){x:Str}(hN:X.N[i]? = some x:=by rfl)(hv:Vis X.env.scope x:=by first | exact rC rfl | exact pS (rC rfl) | exact pS (pS rfl))
  (hd:(x == ("__debug__" : Str))=false:=by decide) (hcd:(x == ("__classdict__" : Str))=false:=by decide):PEF X (.Name x pos) (Ad i):=by
 refine PE.imp (Alx hN hv hd hcd) ?_
 rintro σ H Q ⟨α,δ,L,A,S,u,L',e,q⟩
 unfold Ad at e
 cases h:δ[i]? with
 | none=>rw[h] at e;simp at e
 | some o=>
  cases o with
  | none=>rw[h] at e;simp at e
  | some w=>
   rw[h] at e
   simp at e
   obtain ⟨rfl,rfl⟩:=e
   obtain ⟨v,hv,r⟩:=S.at_ i w h
   exact ⟨v,hv,q v H α (.refl _ _) A r⟩
theorem Ait{v:V}(h:PE X e (tC v))(r:∀ H α,RepU X.K H α u v):PEF X e (fC u):=by
 refine PE.imp h ?_
 rintro σ H Q ⟨α,δ,L,A,S,w,L',e,q⟩
 unfold fC at e
 cases e
 exact q v H α (.refl _ _) A (r H α)
theorem Ai{i:Int}{j pos}:PEF X (.Constant (.int i) j pos) (fC (.int i)):=Ait Anj fun _ _=>rfl
theorem Xk{b:Bool}{j pos}:PEF X (.Constant (.bool b) j pos) (fC (.bl b)):=Ait Akl fun _ _=>rfl
theorem Ahc{j pos}:PEF X (.Constant .none j pos) (fC .non):=Ait Amx fun _ _=>rfl
theorem E8{x:Str}{j pos}:PEF X (.Constant (.str x) j pos) (fC (.str x)):=Ait Amd fun _ _=>rfl
abbrev S2:=U->U->UH->Option (U×UH)
noncomputable def Dp(K:aJ)(r:R2)(sem:S2):Prop:=∀ (H:Hp) (α:List Addr) (L:UH) (u w:U) (x y:V) (z:U) (L':UH) (Q:VK),Abs K H α L->RepU K H α u x->RepU K H α w y->sem u w L=some (z,L') ->
 (∀ v H' α',Gr H α H' α'->Abs K H' α' L'->RepU K H' α' z v->Q v H')->r x y H Q
noncomputable def f2(sem:S2)(fa fb:FE):FE:=fun δ L=>(fa δ L).bind fun p=>(fb δ p.2).bind fun q=>sem p.1 q.1 q.2
theorem Aae(h:Dp K r sem):∀ σ H Q,lE K (f2 sem fa fb) σ H Q->tOp r (lE K fa) (lE K fb) σ H Q:=by
 rintro σ H Q ⟨α,δ,L,A,S,z,L3,e,q⟩
 obtain ⟨⟨u,L1⟩,e1,e⟩:=aB.mp e
 obtain ⟨⟨w,L2⟩,e2,e3⟩:=aB.mp e
 refine ⟨α,δ,L,A,S,u,L1,e1,fun x H1 α1 g1 A1 r1=>⟨α1,δ,L1,A1,S.mono g1,w,L2,e2,fun y H2 α2 g2 A2 r2=>?_⟩⟩
 exact h H2 α2 L2 u w x y z L3 Q A2 (r1.mono g2) r2 e3 fun v H3 α3 g3 A3 r3=>q v H3 α3 (g1.trans (g2.trans g3)) A3 r3
theorem Bd{op:Operator}(ho:OpR X (fV op) r)(h:Dp X.K r sem)(ha:PEF X a fa)(hb:PEF X b fb):PEF X (.BinOp a op b pos) (f2 sem fa fb):=PE.imp (Anu ho ha hb) (Aae h)
theorem Ja(ho:OpR X (eM op) r)(h:Dp X.K r sem)(ha:PEF X a fa)(hb:PEF X b fb)(hm:behindInMarks op b=false):PEF X (.Compare a [op] [b] pos) (f2 sem fa fb):=PE.imp (Aja ho ha hb hm) (Aae h)
noncomputable def By(f:FE):FT:=fun δ L=>(f δ L).bind fun p=>match p.1 with | .bl k=>some (k,p.2) | _=>none
theorem Acf{t:TE}(ht:∀ σ H Q,lE K f σ H Q->t σ H Q):∀ σ H Q,lT K (By f) σ H Q->Afx t σ H Q:=by
 rintro σ H Q ⟨α,δ,L,A,S,b,L1,e,q⟩
 obtain ⟨⟨u,L2⟩,e1,e⟩:=aB.mp e
 refine ht σ H _ ⟨α,δ,L,A,S,u,L2,e1,fun x H1 α1 g1 A1 r1=>?_⟩
 cases u with
 | bl k=>simp at e;obtain ⟨rfl,rfl⟩:=e;exact ⟨k,r1,q H1 α1 g1 A1⟩
 | _=>simp at e
theorem B4(ho:OpR X (eM op) r)(h:Dp X.K r sem)(ha:PEF X a fa)(hb:PEF X b fb)(hm:behindInMarks op b=false):PTF X (.Compare a [op] [b] pos) (By (f2 sem fa fb)):=PT.imp (Aib ho ha hb hm) (Acf (Aae h))
end
variable {g:FA}
section
variable {a:Expr}{rest:List Expr}
noncomputable def U3(f g:FT):FT:=fun δ L=>(f δ L).bind fun p=>if p.1=true then g δ p.2 else some (false,p.2)
noncomputable def fOr(f g:FT):FT:=fun δ L=>(f δ L).bind fun p=>if p.1=true then some (true,p.2) else g δ p.2
noncomputable def Pu(f:FT):FT:=fun δ L=>(f δ L).map fun p=>(!p.1,p.2)
noncomputable def Sk(f g:FE):FE:=fun δ L=>(f δ L).bind fun p=>match p.1 with | .bl k=>if k=true then g δ p.2 else some (.bl false,p.2) | _=>none
noncomputable def Apy(f g:FE):FE:=fun δ L=>(f δ L).bind fun p=>match p.1 with | .bl k=>if k=true then some (.bl true,p.2) else g δ p.2 | _=>none
noncomputable def Afr(f:FE):FE:=fun δ L=>(f δ L).bind fun p=>match p.1 with | .bl k=>some (.bl (!k),p.2) | _=>none
noncomputable def fIf(c:FT)(f g:FE):FE:=fun δ L=>(c δ L).bind fun p=>if p.1=true then f δ p.2 else g δ p.2
theorem Rq{f:FT}(ha:PTF X a f):PWF X (.BoolOp .And [a] pos) f:=Ai1 ha
theorem Ajr{f:FT}(ha:PTF X a f):PWF X (.BoolOp .Or [a] pos) f:=Al9 ha
theorem U8{f g:FT}(ha:PTF X a f)(hb:PWF X (.BoolOp .And (b::rest) pos) g):PWF X (.BoolOp .And (a::b::rest) pos) (U3 f g):=by
 refine PW.imp (Al5 ha hb) ?_
 rintro σ H Q ⟨α,δ,L,A,S,z,L3,e,q⟩
 obtain ⟨⟨u,L1⟩,e1,e⟩:=aB.mp e
 refine ⟨α,δ,L,A,S,u,L1,e1,fun H1 α1 g1 A1=>?_⟩
 cases u with
 | true=>exact Yq ⟨α1,δ,L1,A1,S.mono g1,z,L3,e,fun H2 α2 g2 A2=>q H2 α2 (g1.trans g2) A2⟩
 | false=>cases e;exact X4 (q H1 α1 g1 A1)
theorem Aml{f g:FT}(ha:PTF X a f)(hb:PWF X (.BoolOp .Or (b::rest) pos) g):PWF X (.BoolOp .Or (a::b::rest) pos) (fOr f g):=by
 refine PW.imp (Ao5 ha hb) ?_
 rintro σ H Q ⟨α,δ,L,A,S,z,L3,e,q⟩
 obtain ⟨⟨u,L1⟩,e1,e⟩:=aB.mp e
 refine ⟨α,δ,L,A,S,u,L1,e1,fun H1 α1 g1 A1=>?_⟩
 cases u with
 | false=>exact X4 ⟨α1,δ,L1,A1,S.mono g1,z,L3,e,fun H2 α2 g2 A2=>q H2 α2 (g1.trans g2) A2⟩
 | true=>cases e;exact Yq (q H1 α1 g1 A1)
theorem PWF.pt{f:FT}(h:PWF X e f):PTF X e f:=PW.pt h
theorem Oc{f:FT}(ha:PTF X a f):PTF X (.UnaryOp .Not a pos) (Pu f):=by
 refine PT.imp (Alb ha) ?_
 rintro σ H Q ⟨α,δ,L,A,S,z,L3,e,q⟩
 obtain ⟨⟨u,L1⟩,e1,e⟩:=aH.mp e
 cases e
 exact ⟨α,δ,L,A,S,u,L1,e1,fun H1 α1 g1 A1=>q H1 α1 g1 A1⟩
theorem Uu{op}(h:PEF X a f):PEF X (.BoolOp op [a] pos) f:=Alr h
theorem Rk{g:FE}(ha:PEF X a f)(hb:PEF X (.BoolOp .And (b::rest) pos) g):PEF X (.BoolOp .And (a::b::rest) pos) (Sk f g):=by
 refine PE.imp (Ak0 ha hb) ?_
 rintro σ H Q ⟨α,δ,L,A,S,z,L3,e,q⟩
 obtain ⟨⟨u,L1⟩,e1,e⟩:=aB.mp e
 refine ⟨α,δ,L,A,S,u,L1,e1,fun v H1 α1 g1 A1 r1=>?_⟩
 cases u with
 | bl k=>
  cases k with
  | true=>exact ⟨true,r1,Yq ⟨α1,δ,L1,A1,S.mono g1,z,L3,e,fun v H2 α2 g2 A2 r=>q v H2 α2 (g1.trans g2) A2 r⟩⟩
  | false=>cases e;exact ⟨false,r1,X4 (q _ H1 α1 g1 A1 rfl)⟩
 | _=>simp at e
theorem Amg(ha:PEF X a f):PEF X (.UnaryOp .Not a pos) (Afr f):=by
 refine PE.imp (Anb ha) ?_
 rintro σ H Q ⟨α,δ,L,A,S,z,L3,e,q⟩
 obtain ⟨⟨u,L1⟩,e1,e⟩:=aB.mp e
 refine ⟨α,δ,L,A,S,u,L1,e1,fun v H1 α1 g1 A1 r1=>?_⟩
 cases u with
 | bl k=>cases e;exact ⟨k,r1,q _ H1 α1 g1 A1 rfl⟩
 | _=>simp at e
noncomputable def Af:FA:=fun _ L=>some ([],L)
noncomputable def Ac(f:FE)(g:FA):FA:=fun δ L=>(f δ L).bind fun p=>(g δ p.2).map fun q=>(p.1::q.1,q.2)
theorem Ae:PAF X [] Af:=by
 refine PA.imp Yl ?_
 rintro σ H Q ⟨α,δ,L,A,S,z,L3,e,q⟩
 cases e
 exact q [] H α (.refl _ _) A .nil
theorem Aa(ha:PEF X e f)(hr:PAF X es g)(hs:bQ (e::es) X.env=(false,eval e X.env)::bQ es X.env:=by rfl):PAF X (e::es) (Ac f g):=by
 refine PA.imp (Qb ha hr hs) ?_
 rintro σ H Q ⟨α,δ,L,A,S,z,L3,e,q⟩
 obtain ⟨⟨u,L1⟩,e1,e⟩:=aB.mp e
 obtain ⟨⟨us,L2⟩,e2,e⟩:=aH.mp e
 cases e
 exact ⟨α,δ,L,A,S,u,L1,e1,fun x H1 α1 g1 A1 r1=>⟨α1,δ,L1,A1,S.mono g1,us,L2,e2,fun xs H2 α2 g2 A2 r2=>q (x::xs) H2 α2 (g1.trans g2) A2 (.cons (r1.mono g2) r2)⟩⟩
noncomputable def small(n:Nat):Bool:=decide (n<=sizeLine)
noncomputable def Ec(g:FA):FE:=fun δ L=>(g δ L).bind fun p=>if small p.1.length=true then some (.tup p.1,p.2) else none
noncomputable def Cs(g:FA):FE:=fun δ L=>(g δ L).bind fun p=>if small p.1.length=true then some (.ref p.2.length,p.2++[.lst p.1]) else none
theorem Fb(h:small n=true):n<=sizeLine:=of_decide_eq_true h
theorem Abs.tup(A:Abs K H α L)(r:RepL K H α us xs)(hp:H p=none) :
  Gr H α (upd H p (.tup xs)) α/\Abs K (upd H p (.tup xs)) α L/\RepU K (upd H p (.tup xs)) α (.tup us) (.ref p):=by
 have g:Gr H α (upd H p (.tup xs)) α:=⟨⟨[],by simp⟩,.new hp _⟩
 refine ⟨g,⟨A.len,A.inj,fun i a o e1 e2=>(A.rep i a o e1 e2).other g (.inr fun u q=>by rw[Ap (Bc q hp)];exact q),A.tabs g.st (Qe hp _)⟩,?_⟩
 unfold RepU
 exact ⟨p,xs,rfl,.of upd_same,r.mono g⟩
theorem Abs.lst(A:Abs K H α L)(r:RepL K H α us xs)(hp:H p=none) :
  Gr H α (upd H p (.lst xs)) (α ++ [p])/\Abs K (upd H p (.lst xs)) (α ++ [p]) (L++[.lst us])/\RepU K (upd H p (.lst xs)) (α ++ [p]) (.ref L.length) (.ref p):=by
 have g:Gr H α (upd H p (.lst xs)) (α ++ [p]):=⟨⟨[p],rfl⟩,.new hp _⟩
 obtain ⟨A',_⟩:=A.new (o:=.lst xs) (u:=.lst us) hp ⟨xs,upd_same,r.mono g⟩
 refine ⟨g,A',?_⟩
 unfold RepU
 exact ⟨p,by rw[<- A.len];simp,rfl⟩
theorem Cu{x1}(h:PAF X es g):PEF X (.Tuple es x1 pos) (Ec g):=by
 refine PE.imp (Ak9 h) ?_
 rintro σ H Q ⟨α,δ,L,A,S,z,L3,e,q⟩
 obtain ⟨⟨us,L1⟩,e1,e⟩:=aB.mp e
 refine ⟨α,δ,L,A,S,us,L1,e1,fun xs H1 α1 g1 A1 r1=>?_⟩
 simp only at e
 split at e
 ·rename_i hs
  cases e
  refine ⟨by rw[<- r1.length];exact Fb hs,fun p hp=>?_⟩
  obtain ⟨g2,A2,r2⟩:=A1.tup r1 hp
  exact q _ _ α1 (g1.trans g2) A2 r2
 ·cases e
theorem Ct(h:PAF X es g):PEF X (.List es pos) (Cs g):=by
 refine PE.imp (Anf h) ?_
 rintro σ H Q ⟨α,δ,L,A,S,z,L3,e,q⟩
 obtain ⟨⟨us,L1⟩,e1,e⟩:=aB.mp e
 refine ⟨α,δ,L,A,S,us,L1,e1,fun xs H1 α1 g1 A1 r1=>?_⟩
 simp only at e
 split at e
 ·rename_i hs
  cases e
  refine ⟨by rw[<- r1.length];exact Fb hs,fun p hp=>?_⟩
  obtain ⟨g2,A2,r2⟩:=A1.lst r1 hp
  exact q _ _ _ (g1.trans g2) A2 r2
 ·cases e
abbrev SC:=List U->UH->Option (U×UH)
noncomputable def Px(K:aJ)(r:List V->Hp->VK->Prop)(sem:SC):Prop:=∀ (H:Hp) (α:List Addr) (L:UH) (us:List U) (xs:List V) (z:U) (L':UH) (Q:VK),Abs K H α L->RepL K H α us xs->sem us L=some (z,L') ->
 (∀ v H' α',Gr H α H' α'->Abs K H' α' L'->RepU K H' α' z v->Q v H')->r xs H Q
noncomputable def Az(sem:SC)(g:FA):FE:=fun δ L=>(g δ L).bind fun p=>sem p.1 p.2
theorem Akj{r:List V->Hp->VK->Prop}{sem:SC}(h:Px K r sem):∀ σ H Q,lE K (Az sem g) σ H Q->tCB r (lA K g) σ H Q:=by
 rintro σ H Q ⟨α,δ,L,A,S,z,L3,e,q⟩
 obtain ⟨⟨us,L1⟩,e1,e⟩:=aB.mp e
 exact ⟨α,δ,L,A,S,us,L1,e1,fun xs H1 α1 g1 A1 r1=>h H1 α1 L1 us xs z L3 Q A1 r1 e fun v H2 α2 g2 A2 r2=>q v H2 α2 (g1.trans g2) A2 r2⟩
variable {x:Str}{p:Pos}{id T:String}{r:List V->Hp->VK->Prop}{sem:SC}
theorem Bb(hc:CallR X (.builtin id) r)(h:Px X.K r sem)(hg:Gl X x)(hm:X.mg x=none)(hv:eZ x=some (.builtin id))(ha:PAF X (e::es) g)(hn:x ≠ "__name__" := by decide)(hdb:(x == ("__debug__" : Str))=false:=by decide)
  (he:bQ (e::es) X.env=(false,eval e X.env)::bQ es X.env:=by rfl) (hpl:(backTo pos (bQ es X.env)).any (·.1)=false:=by rfl) :
  PEF X (.Call (.Name x p) (e::es) [] pos) (Az sem g):=PE.imp (Xh hc hg hm hv ha hn hdb he hpl) (Akj h)
theorem Hb(hc:CallR X (.type T) r)(h:Px X.K r sem)(hg:Gl X x)(hm:X.mg x=none)(hv:eZ x=some (.type T))(ha:PAF X (e::es) g)(hn:x ≠ "__name__" := by decide)(hdb:(x == ("__debug__" : Str))=false:=by decide)
  (he:bQ (e::es) X.env=(false,eval e X.env)::bQ es X.env:=by rfl) (hpl:(backTo pos (bQ es X.env)).any (·.1)=false:=by rfl) :
  PEF X (.Call (.Name x p) (e::es) [] pos) (Az sem g):=PE.imp (Ad5 hc hg hm hv ha hn hdb he hpl) (Akj h)
abbrev SM:=U->List U->UH->Option (U×UH)
noncomputable def Vq(K:aJ)(r:V->List V->Hp->VK->Prop)(sem:SM):Prop:=∀ (H:Hp) (α:List Addr) (L:UH) (u:U) (us:List U) (x:V) (xs:List V) (z:U) (L':UH) (Q:VK),Abs K H α L->RepU K H α u x->RepL K H α us xs->sem u us L=some (z,L') ->
 (∀ v H' α',Gr H α H' α'->Abs K H' α' L'->RepU K H' α' z v->Q v H')->r x xs H Q
noncomputable def tyU(T:String)(u:U)(L:UH):Bool:=match u with
 | .str _=>T == "str"
 | .int _=>T == "int"
 | .tup _=>T == "tuple"
 | .ref n=>match L[n]? with
  | some (.lst _)=>T == "list"
  | some (.ro _)=>T == "list"
  | some (.dic _)=>T == "dict"
  | _=>false
 | _=>false
theorem Ae2{x:V}(A:Abs K H α L)(r:RepU K H α u x)(h:tyU T u L=true):tyV K T x H:=by
 cases u with
 | str y=>unfold RepU at r;subst r;simpa[tyU,tyV] using h
 | int i=>unfold RepU at r;subst r;simpa[tyU,tyV] using h
 | ref n=>
  unfold RepU at r
  obtain ⟨a,ea,rfl⟩:=r
  unfold tyU at h
  simp only at h
  cases q:L[n]? with
  | none=>rw[q] at h;simp at h
  | some o=>
   have hr:=A.rep n a o ea q
   rw[q] at h
   cases o with
   | lst us=>simp at h;obtain ⟨xs,e,_⟩:=hr;exact .inl ⟨h,xs,.of e⟩
   | ro us=>simp at h;obtain ⟨xs,e,_⟩:=hr;exact .inl ⟨h,xs,e.sq⟩
   | dic kvs=>simp at h;obtain ⟨vs,e,_⟩:=hr;exact .inr (.inr (.inl ⟨h,.inl ⟨vs,e⟩⟩))
   | rod kvs=>simp at h
   | ins C fs=>simp at h
   | exc C fr fs=>simp at h
 | non=>simp[tyU] at h
 | bl b=>simp[tyU] at h
 | tup l=>
  unfold RepU at r
  obtain ⟨a,ys,rfl,sq,_⟩:=r
  have hT:T = "tuple" := by simpa[tyU] using h
  exact .inr (.inl ⟨hT,ys,sq⟩)
noncomputable def Ep(T:String)(sem:SM)(f:FE)(g:FA):FE:=fun δ L=>(f δ L).bind fun p=>if tyU T p.1 p.2=true then (g δ p.2).bind fun q=>sem p.1 q.1 q.2 else none
theorem Aor{r:V->List V->Hp->VK->Prop}{sem:SM}(h:Vq K r sem):∀ σ H Q,lE K (Ep T sem f g) σ H Q->tBM K T r (lE K f) (lA K g) σ H Q:=by
 rintro σ H Q ⟨α,δ,L,A,S,z,L3,e,q⟩
 obtain ⟨⟨u,L1⟩,e1,e⟩:=aB.mp e
 simp only at e
 split at e
 ·rename_i ht
  obtain ⟨⟨us,L2⟩,e2,e⟩:=aB.mp e
  refine ⟨α,δ,L,A,S,u,L1,e1,fun x H1 α1 g1 A1 r1=>⟨Ae2 A1 r1 ht,α1,δ,L1,A1,S.mono g1,us,L2,e2,fun xs H2 α2 g2 A2 r2=>?_⟩⟩
  exact h H2 α2 L2 u us x xs z L3 Q A2 (r1.mono g2) r2 e fun v H3 α3 g3 A3 r3=>q v H3 α3 (g1.trans (g2.trans g3)) A3 r3
 ·cases e
theorem Al7{r:V->List V->Hp->VK->Prop}{sem:SM}(h:Vq K r sem):∀ σ H Q,lE K (Ep T sem f Af) σ H Q->Apg K T r (lE K f) σ H Q:=by
 rintro σ H Q ⟨α,δ,L,A,S,z,L3,e,q⟩
 obtain ⟨⟨u,L1⟩,e1,e⟩:=aB.mp e
 simp only at e
 split at e
 ·rename_i ht
  obtain ⟨⟨us,L2⟩,e2,e⟩:=aB.mp e
  cases e2
  refine ⟨α,δ,L,A,S,u,L1,e1,fun x H1 α1 g1 A1 r1=>⟨Ae2 A1 r1 ht,?_⟩⟩
  exact h H1 α1 L1 u [] x [] z L3 Q A1 r1 .nil e fun v H3 α3 g3 A3 r3=>q v H3 α3 (g1.trans g3) A3 r3
 ·cases e
section
variable {o:Expr}{name:Str}{apos cpos:Pos}{T id:String}{r:V->List V->Hp->VK->Prop}{sem:SM}
theorem Am3(pa:pP T)(slot:Slot T name id)(hty:typeOf (.builtin id)=pure (.type "method_descriptor"))(hm:MtR X id r)(h:Vq X.K r sem)(ho:PEF X o f)
  (hbase:attributeBase o name X.env (eval o X.env)=eval o X.env:=by rfl) (hline:(apos.endLine == cpos.line)=true:=by rfl):PEF X (.Call (.Attribute o name apos) [] [] cpos) (Ep T sem f Af):=
 PE.imp (Alj pa slot hty hm ho hbase hline) (Al7 h)
theorem Pf(pa:pP T)(slot:Slot T name id)(hty:typeOf (.builtin id)=pure (.type "method_descriptor"))(hm:MtR X id r)(h:Vq X.K r sem)(ho:PEF X o f)(ha:PAF X (e::es) g)
  (hbase:attributeBase o name X.env (eval o X.env)=eval o X.env:=by rfl)
  (hfew:((backTo cpos (bQ (e::es) X.env)).all (fun x=>!x.1)&&(backToKw cpos (keywordEach [] X.env)).all (fun x=>x.1.isSome)&&decide ((e::es).length+([]:List jJ).length+(if ([]:List jJ).isEmpty then 0 else 1) < 30))=true:=by rfl)
  (hline:(apos.endLine == cpos.line)=true:=by rfl) (hst:bQ (e::es) X.env=(false,eval e X.env)::bQ es X.env:=by rfl) (hpl:(backTo cpos (bQ es X.env)).any (·.1)=false:=by rfl) :
  PEF X (.Call (.Attribute o name apos) (e::es) [] cpos) (Ep T sem f g):=
 PE.imp (Apk pa slot hty hm ho ha hbase hfew hline hst hpl) (Aor h)
end
end
abbrev FN:=List U->UH->Option (U×UH)
inductive spF(K:aJ)(n:Nat)(f:FN)(vs:List V)(H:Hp)(Q:VK)(E:XK):Prop
 | mk (α:List Addr) (L:UH) (us:List U) (A:Abs K H α L) (r:RepL K H α us vs) (hl:us.length=n) (u:U) (L':UH) (e:f us L=some (u,L')) (q:∀ v H' α',Gr H α H' α'->Abs K H' α' L'->RepU K H' α' u v->Q v H'):spF K n f vs H Q E
variable {k:Nat}
section
variable {a o:Expr}{p:Pos}{x:Str}{f:Addr}{fd:cU}{ps:List Str}{F:FN}{fc:FE}
noncomputable def Be(n:Nat)(F:FN)(g:FA):FE:=fun δ L=>(g δ L).bind fun p=>if p.1.length=n then F p.1 p.2 else none
theorem Ay(hF:FnOk X.prog X.w X.K X.mg X.base CX0 k f fd ps (spF X.K n F))(hr:Room k X.A)(hg:Gl X x)(hm:X.mg x=some (.ref f))(hk:bX X.K (.ref f)=true)(hb:Binds X.K fd ps [])
  (ha:PAF X (e::es) g) (hdb:(x == ("__debug__" : Str))=false:=by decide) (he:bQ (e::es) X.env=(false,eval e X.env)::bQ es X.env:=by rfl) (hpl:(backTo pos (bQ es X.env)).any (·.1)=false:=by rfl) :
  PEF X (.Call (.Name x p) (e::es) [] pos) (Be n F g):=by
 refine PE.imp (Ah7 hF hr hg hm hk hb .nil Ao2 ha hdb he hpl) ?_
 rintro σ H Q ⟨α,δ,L,A,S,z,L3,e,q⟩
 obtain ⟨⟨us,L1⟩,e1,e⟩:=aB.mp e
 simp only at e
 split at e
 ·rename_i hl
  refine ⟨α,δ,L,A,S,us,L1,e1,fun xs H1 α1 g1 A1 r1=>?_⟩
  exact ⟨α1,L1,us,A1,by rw[bB];exact r1,hl,z,L3,e,fun v H2 α2 g2 A2 r2=>q v H2 α2 (g1.trans g2) A2 r2⟩
 ·cases e
theorem Bj(hr:IxR X r)(h:Dp X.K r sem)(ha:PEF X a fa)(hb:PEF X b fb)(hs:Abk b):PEF X (.Subscript a b pos) (f2 sem fa fb):=PE.imp (Aoq hr ha hb hs) (Aae h)
abbrev FO:=UE->UH->Option (Option Int×UH)
inductive lO(K:aJ)(f:FO)(σ:L2.St)(H:Hp)(Q:Option Int->Hp->Prop):Prop
 | mk (α:List Addr) (δ:UE) (L:UH) (A:Abs K H α L) (S:RepS K H α δ σ) (i:Option Int) (L':UH) (e:f δ L=some (i,L')) (q:∀ H' α',Gr H α H' α'->Abs K H' α' L'->Q i H'):lO K f σ H Q
noncomputable def POF(X:Cx)(e:Option Expr)(f:FO):Prop:=PO X e (lO X.K f)
noncomputable def Cg:FO:=fun _ L=>some (none,L)
noncomputable def Fd(f:FE):FO:=fun δ L=>(f δ L).bind fun p=>match p.1 with | .int i=>some (some i,p.2) | _=>none
theorem PO.imp{e:Option Expr}{t t':TO}(h:PO X e t)(hi:∀ σ H Q,t' σ H Q->t σ H Q):PO X e t':=fun pins s σ H Q I q=>h pins s σ H Q I (hi σ H Q q)
theorem Hy:POF X none Cg:=by
 refine PO.imp Aie ?_
 rintro σ H Q ⟨α,δ,L,A,S,z,L3,e,q⟩
 cases e
 exact q H α (.refl _ _) A
theorem Fx(h:PEF X e fa):POF X (some e) (Fd fa):=by
 refine PO.imp (Aiz h) ?_
 rintro σ H Q ⟨α,δ,L,A,S,z,L3,e,q⟩
 obtain ⟨⟨u,L1⟩,e1,e⟩:=aB.mp e
 refine ⟨α,δ,L,A,S,u,L1,e1,fun x H1 α1 g1 A1 r1=>?_⟩
 cases u with
 | int i=>cases e;exact ⟨i,r1,q H1 α1 g1 A1⟩
 | _=>simp at e
abbrev SS:=U->Option Int->Option Int->UH->Option (U×UH)
noncomputable def Afw(K:aJ)(r:V->Option Int->Option Int->Hp->VK->Prop)(sem:SS):Prop:=∀ (H:Hp) (α:List Addr) (L:UH) (u:U) (x:V) (lo hi:Option Int) (z:U) (L':UH) (Q:VK),Abs K H α L->RepU K H α u x->sem u lo hi L=some (z,L') ->
 (∀ v H' α',Gr H α H' α'->Abs K H' α' L'->RepU K H' α' z v->Q v H')->r x lo hi H Q
noncomputable def fSl(sem:SS)(f:FE)(l h:FO):FE:=fun δ L=>(f δ L).bind fun p=>(l δ p.2).bind fun q=>(h δ q.2).bind fun r=>sem p.1 q.1 r.1 r.2
theorem Ig{r:V->Option Int->Option Int->Hp->VK->Prop}{sem:SS}{lo hi:Option Expr}{fl fh:FO}{p2:Pos}(hr:SlR X r)(h:Afw X.K r sem)(he:PEF X e fa)(hl:POF X lo fl)(hu:POF X hi fh):PEF X (.Subscript e (.Slice lo hi none p2) pos) (fSl sem fa fl fh):=by
 refine PE.imp (Af1 hr he hl hu) ?_
 rintro σ H Q ⟨α,δ,L,A,S,z,L3,e,q⟩
 obtain ⟨⟨u,L1⟩,e1,e⟩:=aB.mp e
 obtain ⟨⟨i,L2⟩,e2,e⟩:=aB.mp e
 obtain ⟨⟨j,L4⟩,e3,e⟩:=aB.mp e
 refine ⟨α,δ,L,A,S,u,L1,e1,fun x H1 α1 g1 A1 r1=>⟨α1,δ,L1,A1,S.mono g1,i,L2,e2,fun H2 α2 g2 A2=>⟨α2,δ,L2,A2,(S.mono g1).mono g2,j,L4,e3,fun H3 α3 g3 A3=>?_⟩⟩⟩
 exact h H3 α3 L4 u x i j z L3 Q A3 ((r1.mono g2).mono g3) e fun v H4 α4 g4 A4 r4=>q v H4 α4 (g1.trans (g2.trans (g3.trans g4))) A4 r4
noncomputable def Qs(f:FE):FE:=fun δ L=>(f δ L).bind fun p=>match p.1 with | .int i=>some (.int (-i),p.2) | _=>none
theorem Oj(ha:PEF X a fa):PEF X (.UnaryOp .USub a pos) (Qs fa):=by
 refine PE.imp (Apj Als ha) ?_
 rintro σ H Q ⟨α,δ,L,A,S,z,L3,e,q⟩
 obtain ⟨⟨u,L1⟩,e1,e⟩:=aB.mp e
 refine ⟨α,δ,L,A,S,u,L1,e1,fun x H1 α1 g1 A1 r1=>?_⟩
 cases u with
 | int i=>cases e;exact ⟨i,r1,q _ H1 α1 g1 A1 rfl⟩
 | _=>simp at e
noncomputable def Oz(s1 s2:S2)(fa fb fc:FE):FE:=fun δ L=>(fa δ L).bind fun p=>(fb δ p.2).bind fun q=>(s1 p.1 q.1 q.2).bind fun r=>match r.1 with
 | .bl k=>if k=true then (fc δ r.2).bind fun t=>s2 q.1 t.1 t.2 else some (.bl false,r.2)
 | _=>none
theorem Ae6{r':R2}{s1 s2:S2}(h1:Dp K r s1)(h2:Dp K r' s2):∀ σ H Q,lE K (Oz s1 s2 fa fb fc) σ H Q->Ae5 r r' (lE K fa) (lE K fb) (lE K fc) σ H Q:=by
 rintro σ H Q ⟨α,δ,L,A,S,z,L3,e,q⟩
 obtain ⟨⟨u,L1⟩,e1,e⟩:=aB.mp e
 obtain ⟨⟨w,L2⟩,e2,e⟩:=aB.mp e
 obtain ⟨⟨t,L4⟩,e3,e⟩:=aB.mp e
 refine ⟨α,δ,L,A,S,u,L1,e1,fun x H1 α1 g1 A1 r1=>⟨α1,δ,L1,A1,S.mono g1,w,L2,e2,fun y H2 α2 g2 A2 r2=>?_⟩⟩
 refine h1 H2 α2 L2 u w x y t L4 _ A2 (r1.mono g2) r2 e3 fun v H3 α3 g3 A3 r3=>?_
 cases t with
 | bl k=>
  refine ⟨k,r3,?_⟩
  cases k with
  | true=>
   obtain ⟨⟨s,L5⟩,e4,e⟩:=aB.mp e
   refine Yq ⟨α3,δ,L4,A3,((S.mono g1).mono g2).mono g3,s,L5,e4,fun y' H4 α4 g4 A4 r4=>?_⟩
   exact h2 H4 α4 L5 w s y y' z L3 Q A4 ((r2.mono g3).mono g4) r4 e fun v H5 α5 g5 A5 r5=>q v H5 α5 (g1.trans (g2.trans (g3.trans (g4.trans g5)))) A5 r5
  | false=>cases e;exact X4 (q _ H3 α3 (g1.trans (g2.trans g3)) A3 rfl)
 | _=>simp at e
theorem Ac4{op':CmpOp}{r':R2}{s1 s2:S2}(ho:OpR X (eM op) r)(ho':OpR X (eM op') r')(h1:Dp X.K r s1)(h2:Dp X.K r' s2)(ha:PEF X a fa)(hb:PEF X b fb)(hc:PEF X c fc)(hm:lastMarks [op,op'] [b,c]=false:=by with_unfolding_all rfl) :
  PTF X (.Compare a [op,op'] [b,c] pos) (By (Oz s1 s2 fa fb fc)):=PT.imp (Agi ho ho' ha hb hc hm) (Acf (Ae6 h1 h2))
noncomputable def Xo(u:U)(L:UH):Option Bool:=match u with
 | .non=>some false
 | .bl b=>some b
 | .int i=>some (i != 0)
 | .str y=>if small y.length=true then some ((y.length:Int) != 0) else none
 | .tup l=>some (!l.isEmpty)
 | .ref n=>match L[n]? with
  | some (.lst xs)=>some (!xs.isEmpty)
  | some (.ro xs)=>some (!xs.isEmpty)
  | some (.dic kvs)=>some (!kvs.isEmpty)
  | _=>none
theorem Ir{α β:Type}{l:List α}{m:List β}(h:l.length=m.length):l.isEmpty=m.isEmpty:=by
 cases l <;> cases m <;> simp_all
theorem Aj5{x:V}{k:Bool}(A:Abs K H α L)(r:RepU K H α u x)(h:Xo u L=some k):Am9 K x H k:=by
 cases u with
 | non=>unfold RepU at r;subst r;exact (bS h).symm
 | bl b=>unfold RepU at r;subst r;exact (bS h).symm
 | int i=>unfold RepU at r;subst r;exact (bS h).symm
 | str y=>
  unfold RepU at r;subst r
  unfold Xo at h
  simp only at h
  split at h
  ·rename_i hs;cases h;exact ⟨Fb hs,rfl⟩
  ·cases h
 | tup l=>
  unfold RepU at r
  obtain ⟨a,xs,rfl,s,r⟩:=r
  exact .inr (.inl ⟨xs,s,by rw[<- Ir r.length];exact (bS h).symm⟩)
 | ref n=>
  unfold RepU at r
  obtain ⟨a,ea,rfl⟩:=r
  unfold Xo at h
  simp only at h
  cases q:L[n]? with
  | none=>rw[q] at h;simp at h
  | some o=>
   have hr:=A.rep n a o ea q
   rw[q] at h
   cases o with
   | lst us=>obtain ⟨xs,e,r⟩:=hr;exact .inl ⟨xs,.of e,by rw[<- Ir r.length];exact (bS h).symm⟩
   | ro us=>obtain ⟨xs,e,r⟩:=hr;exact .inl ⟨xs,e.sq,by rw[<- Ir r.length];exact (bS h).symm⟩
   | dic kvs=>obtain ⟨vs,e,ek,_⟩:=hr;exact .inr (.inr ⟨vs,e,by rw[<- Ir (show kvs.length=vs.length by simpa using congrArg eW ek)];exact (bS h).symm⟩)
   | rod kvs=>simp at h
   | ins C fs=>simp at h
   | exc C fr fs=>simp at h
noncomputable def Ij(f:FE):FT:=fun δ L=>(f δ L).bind fun p=>(Xo p.1 p.2).map fun k=>(k,p.2)
theorem Eu(ha:PEF X a fa)(he:∀ whole,isTrue a X.env whole=(do let v <- whole;standAt a.pos;holding [v] (truthy v)):=by intro _;rfl):PTF X a (Ij fa):=by
 refine PT.imp (Afp ha he) ?_
 rintro σ H Q ⟨α,δ,L,A,S,z,L3,e,q⟩
 obtain ⟨⟨u,L1⟩,e1,e⟩:=aB.mp e
 obtain ⟨k,e2,e⟩:=aH.mp e
 cases e
 exact ⟨α,δ,L,A,S,u,_,e1,fun x H1 α1 g1 A1 r1=>⟨_,Aj5 A1 r1 e2,q H1 α1 g1 A1⟩⟩
end
inductive Fl where
 | nx (δ:UE) | rt (u:U) | bk (δ:UE) | ct (δ:UE)
abbrev FS:=UE->UH->Option (Fl×UH)
noncomputable def Post(K:aJ)(D:Ends)(H:Hp)(α:List Addr)(fl:Fl)(L':UH):Prop:=match fl with
 | .nx δ'=>∀ σ' H' α',Gr H α H' α'->Abs K H' α' L'->RepS K H' α' δ' σ'->D.nx σ' H'
 | .bk δ'=>∀ σ' H' α',Gr H α H' α'->Abs K H' α' L'->RepS K H' α' δ' σ'->D.bk σ' H'
 | .ct δ'=>∀ σ' H' α',Gr H α H' α'->Abs K H' α' L'->RepS K H' α' δ' σ'->D.ct σ' H'
 | .rt u=>∀ v H' α',Gr H α H' α'->Abs K H' α' L'->RepU K H' α' u v->D.rt v H'
theorem Post.from{D:Ends}{α1:List Addr}{fl:Fl}{L':UH}(g:Gr H α H1 α1)(p:Post K D H α fl L'):Post K D H1 α1 fl L':=by
 cases fl with
 | nx δ=>exact fun σ' H' α' g'=>p σ' H' α' (g.trans g')
 | bk δ=>exact fun σ' H' α' g'=>p σ' H' α' (g.trans g')
 | ct δ=>exact fun σ' H' α' g'=>p σ' H' α' (g.trans g')
 | rt u=>exact fun v H' α' g'=>p v H' α' (g.trans g')
inductive lS(K:aJ)(f:FS)(D:Ends)(σ:L2.St)(H:Hp):Prop
 | mk (α:List Addr) (δ:UE) (L:UH) (A:Abs K H α L) (S:RepS K H α δ σ) (fl:Fl) (L':UH) (e:f δ L=some (fl,L')) (q:Post K D H α fl L'):lS K f D σ H
noncomputable def PSF(X:Cx)(st:Stmt)(f:FS):Prop:=PS X st (lS X.K f)
noncomputable def S9(X:Cx)(st:List Stmt)(f:FS):Prop:=PSs X st (lS X.K f)
variable {fe:FE}
section
variable {st:Stmt}{rest:List Stmt}{f g:FS}
theorem PS.imp{t t':TS}(h:PS X st t)(hi:∀ D σ H,t' D σ H->t D σ H):PS X st t':=fun pins s σ H D I q=>h pins s σ H D I (hi D σ H q)
theorem PSs.imp{sts:List Stmt}{t t':TS}(h:PSs X sts t)(hi:∀ D σ H,t' D σ H->t D σ H):PSs X sts t':=fun pins s σ H D I q=>h pins s σ H D I (hi D σ H q)
noncomputable def C1:FS:=fun δ L=>some (.nx δ,L)
noncomputable def A9(f g:FS):FS:=fun δ L=>(f δ L).bind fun p=>match p.1 with | .nx δ'=>g δ' p.2 | fl=>some (fl,p.2)
theorem C6:S9 X [] C1:=by
 refine PSs.imp Ah0 ?_
 rintro D σ H ⟨α,δ,L,A,S,fl,L',e,q⟩
 cases e
 exact q σ H α (.refl _ _) A S
theorem Ah(h1:PSF X st f)(h2:S9 X rest g):S9 X (st::rest) (A9 f g):=by
 refine PSs.imp (Aeo h1 h2) ?_
 rintro D σ H ⟨α,δ,L,A,S,fl,L',e,q⟩
 obtain ⟨⟨fl1,L1⟩,e1,e⟩:=aB.mp e
 refine ⟨α,δ,L,A,S,fl1,L1,e1,?_⟩
 cases fl1 with
 | nx δ1=>exact fun σ1 H1 α1 g1 A1 S1=>⟨α1,δ1,L1,A1,S1,fl,L',e,q.from g1⟩
 | rt u=>cases e;exact q
 | bk δ1=>cases e;exact q
 | ct δ1=>cases e;exact q
theorem Au(h1:PSF X st f):S9 X [st] f:=Ahy h1
noncomputable def Dj(f:FE):FS:=fun δ L=>(f δ L).map fun p=>(.rt p.1,p.2)
noncomputable def Jp(f:FE):FS:=fun δ L=>(f δ L).map fun p=>(.nx δ,p.2)
noncomputable def Aow:FS:=fun _ L=>some (.rt .non,L)
theorem Bh(he:PEF X e fe):PSF X (.Return (some e) pos) (Dj fe):=by
 refine PS.imp (Alc he) ?_
 rintro D σ H ⟨α,δ,L,A,S,fl,L',e,q⟩
 obtain ⟨⟨u,L1⟩,e1,e⟩:=aH.mp e
 cases e
 exact ⟨α,δ,L,A,S,u,_,e1,fun v H1 α1 g1 A1 r1=>q v H1 α1 g1 A1 r1⟩
theorem Jr(he:PEF X e fe)(hs:swapsWith e none pos.line X.env=pure false:=by rfl):PSF X (.Expr e pos) (Jp fe):=by
 refine PS.imp (Aiy he hs) ?_
 rintro D σ H ⟨α,δ,L,A,S,fl,L',e,q⟩
 obtain ⟨⟨u,L1⟩,e1,e⟩:=aH.mp e
 cases e
 exact ⟨α,δ,L,A,S,u,_,e1,fun v H1 α1 g1 A1 r1=>q σ H1 α1 g1 A1 (S.mono g1)⟩
noncomputable def Fm(c:FT)(f g:FS):FS:=fun δ L=>(c δ L).bind fun p=>if p.1=true then f δ p.2 else g δ p.2
theorem Ee{a b:List Stmt}{tc:FT}(hc:PTF X c tc)(ha:S9 X a f)(hb:S9 X b g):PSF X (.If c a b pos) (Fm tc f g):=by
 refine PS.imp (Apn hc ha hb) ?_
 rintro D σ H ⟨α,δ,L,A,S,fl,L',e,q⟩
 obtain ⟨⟨u,L1⟩,e1,e⟩:=aB.mp e
 refine ⟨α,δ,L,A,S,u,L1,e1,fun H1 α1 g1 A1=>?_⟩
 cases u with
 | true=>exact Yq ⟨α1,δ,L1,A1,S.mono g1,fl,L',e,q.from g1⟩
 | false=>exact X4 ⟨α1,δ,L1,A1,S.mono g1,fl,L',e,q.from g1⟩
end
abbrev FG:=U->UE->UH->Option (UE×UH)
abbrev FGs:=List U->UE->UH->Option (UE×UH)
inductive lG(K:aJ)(f:FG)(v:V)(σ:L2.St)(H:Hp)(Q:L2.St->Hp->Prop):Prop
 | mk (α:List Addr) (δ:UE) (L:UH) (u:U) (A:Abs K H α L) (S:RepS K H α δ σ) (r:RepU K H α u v) (δ':UE) (L':UH) (e:f u δ L=some (δ',L')) (q:∀ σ' H' α',Gr H α H' α'->Abs K H' α' L'->RepS K H' α' δ' σ'->Q σ' H'):lG K f v σ H Q
inductive lGs(K:aJ)(f:FGs)(vs:List V)(σ:L2.St)(H:Hp)(Q:L2.St->Hp->Prop):Prop
 | mk (α:List Addr) (δ:UE) (L:UH) (us:List U) (A:Abs K H α L) (S:RepS K H α δ σ) (r:RepL K H α us vs) (δ':UE) (L':UH) (e:f us δ L=some (δ',L')) (q:∀ σ' H' α',Gr H α H' α'->Abs K H' α' L'->RepS K H' α' δ' σ'->Q σ' H'):lGs K f vs σ H Q
noncomputable def PGF(X:Cx)(e:Expr)(f:FG):Prop:=PG X e (lG X.K f)
noncomputable def Ajg(X:Cx)(es:List Expr)(f:FGs):Prop:=PGs X es (lGs X.K f)
variable {tg:Expr}
section
theorem PG.imp{t t':TG}(h:PG X e t)(hi:∀ v σ H Q,t' v σ H Q->t v σ H Q):PG X e t':=fun pins s σ H v u Q I r q=>h pins s σ H v u Q I r (hi v σ H Q q)
theorem PGs.imp{t t':TGs}(h:PGs X es t)(hi:∀ v σ H Q,t' v σ H Q->t v σ H Q):PGs X es t':=fun pins s σ H v u Q I r q=>h pins s σ H v u Q I r (hi v σ H Q q)
noncomputable def gN(i:Nat):FG:=fun u δ L=>some (δ.set i (some u),L)
theorem Av{x:Str}(hN:X.N.Nodup)(hi:X.N[i]? = some x:=by rfl)(hx:Loc X.env.scope x:=by first | exact rC rfl | exact pS rfl)(hf:X.fn x=true\/X.env.scope.names.lookup x=some .local:=by first | exact .inl rfl | exact .inr rfl):PGF X (.Name x pos) (gN i):=by
 refine PG.imp (Acb (i:=i) hN hi hx hf) ?_
 rintro v σ H Q ⟨α,δ,L,u,A,S,r,δ',L',e,q⟩
 cases e
 exact q _ H α (.refl _ _) A (S.set i r)
noncomputable def gNil:FGs:=fun us δ L=>match us with | []=>some (δ,L) | _=>none
noncomputable def gCons(f:FG)(g:FGs):FGs:=fun us δ L=>match us with | []=>none | u::r=>(f u δ L).bind fun p=>g r p.1 p.2
theorem Nl:Ajg X [] MR.gNil:=by
 refine PGs.imp Ai9 ?_
 rintro vs σ H Q ⟨α,δ,L,us,A,S,r,δ',L',e,q⟩
 cases us with
 | nil=>cases e;exact ⟨by unfold RepL at r;exact r,q σ H α (.refl _ _) A S⟩
 | cons u us=>cases e
theorem Fs{f:FG}{g:FGs}(h1:PGF X e f)(h2:Ajg X es g)(hs:(assignEach (e::es) X.env).map (·.2)=assign e X.env::(assignEach es X.env).map (·.2):=by rfl):Ajg X (e::es) (MR.gCons f g):=by
 refine PGs.imp (Ag7 h1 h2 hs) ?_
 rintro vs σ H Q ⟨α,δ,L,us,A,S,r,δ',L',e,q⟩
 cases us with
 | nil=>cases e
 | cons u us=>
  unfold RepL at r
  obtain ⟨x,xs,rfl,r1,r2⟩:=r
  obtain ⟨⟨δ1,L1⟩,e1,e⟩:=aB.mp e
  refine ⟨x,xs,rfl,α,δ,L,u,A,S,r1,δ1,L1,e1,fun σ1 H1 α1 g1 A1 S1=>?_⟩
  exact ⟨α1,δ1,L1,us,A1,S1,r2.mono g1,δ',L',e,fun σ2 H2 α2 g2 A2 S2=>q σ2 H2 α2 (g1.trans g2) A2 S2⟩
noncomputable def gTup(n:Nat)(g:FGs):FG:=fun u δ L=>match u with | .tup us=>if us.length=n then g us δ L else none | _=>none
theorem P8{g:FGs}(hc:X.calm=true)(h:Ajg X es g)(hn:(assignEach es X.env).length=n:=by rfl)(hst:(assignEach es X.env).findIdx? (·.1)=none:=by rfl):PGF X (.Tuple es k pos) (MR.gTup n g):=by
 refine PG.imp (Am6 hc h hn hst) ?_
 rintro v σ H Q ⟨α,δ,L,u,A,S,r,δ',L',e,q⟩
 cases u with
 | tup us=>
  unfold RepU at r
  obtain ⟨a,xs,rfl,s,r⟩:=r
  unfold MR.gTup at e
  simp only at e
  split at e
  ·rename_i hl
   exact ⟨a,xs,rfl,s,by rw[<- r.length];exact hl,α,δ,L,us,A,S,r,δ',L',e,q⟩
  ·cases e
 | _=>simp[MR.gTup] at e
noncomputable def Ba(fe:FE)(g:FG):FS:=fun δ L=>(fe δ L).bind fun p=>(g p.1 δ p.2).map fun q=>(.nx q.1,q.2)
theorem Vj{g:FG}(he:PEF X e fe)(hg:PGF X tg g)(hs:swapsWithSole [tg] e pos.line X.env=pure false:=by rfl)(hw:swappedStores [tg] e X.env=pure none:=by rfl)(h1:(assignEach [tg] X.env).map (·.2)=[assign tg X.env]:=by rfl) :
  PSF X (.Assign [tg] e pos) (Ba fe g):=by
 refine PS.imp (Al6 he hg hs hw h1) ?_
 rintro D σ H ⟨α,δ,L,A,S,fl,L',e,q⟩
 obtain ⟨⟨u,L1⟩,e1,e⟩:=aB.mp e
 obtain ⟨⟨δ2,L2⟩,e2,e⟩:=aH.mp e
 cases e
 exact ⟨α,δ,L,A,S,u,L1,e1,fun v H1 α1 g1 A1 r1=>⟨α1,δ,L1,u,A1,S.mono g1,r1,δ2,_,e2,fun σ2 H2 α2 g2 A2 S2=>q σ2 H2 α2 (g1.trans g2) A2 S2⟩⟩
theorem Ar{x:Str}{pos':Pos}(hN:X.N.Nodup)(he:PEF X e fe)(hi:X.N[i]? = some x:=by rfl)(hx:Loc X.env.scope x:=by first | exact rC rfl | exact pS rfl)
  (hs:swapsWith e (some (.Name x pos')) pos.line X.env=pure false:=by rfl) (hf:X.fn x=true\/X.env.scope.names.lookup x=some .local:=by first | exact .inl rfl | exact .inr rfl) :
  PSF X (.Assign [.Name x pos'] e pos) (Ba fe (gN i)):=by
 refine PS.imp (Ang (i:=i) hN hi hx he hs hf) ?_
 rintro D σ H ⟨α,δ,L,A,S,fl,L',e,q⟩
 obtain ⟨⟨u,L1⟩,e1,e⟩:=aB.mp e
 obtain ⟨⟨δ2,L2⟩,e2,e⟩:=aH.mp e
 cases e
 cases e2
 exact ⟨α,δ,L,A,S,u,_,e1,fun v H1 α1 g1 A1 r1=>q _ H1 α1 g1 A1 ((S.mono g1).set i r1)⟩
end
noncomputable def Fu(L:UH)(n:Nat):Option (List U):=match L[n]? with
 | some (.lst us)=>some us
 | _=>none
noncomputable def Ao(L:UH)(n:Nat):Option (List U):=match L[n]? with
 | some (.lst us)=>some us
 | some (.ro us)=>some us
 | _=>none
inductive IU where
 | seq (us:List U) | ref (n:Nat) | enm (n:Nat) | zip2 (n m:Nat) | zipT (us:List U) (m:Nat) | zipL (n:Nat) (ws:List U)
noncomputable def O9:Option U->Option U->Option U
 | some x,some y=>some (.tup [x,y])
 | _,_=>none
noncomputable def IU.at(i:IU)(k:Nat)(L:UH):Option (Option U):=match i with
 | .seq us=>some us[k]?
 | .ref n=>match L[n]? with
  | some (.lst us)=>some us[k]?
  | some (.ro us)=>some us[k]?
  | _=>none
 | .enm n=>(Ao L n).map fun us=>(us[k]?).map fun u=>.tup [.int k,u]
 | .zip2 n m=>(Ao L n).bind fun us=>(Ao L m).map fun ws=>O9 us[k]? ws[k]?
 | .zipT us m=>(Ao L m).map fun ws=>O9 us[k]? ws[k]?
 | .zipL n ws=>(Ao L n).map fun us=>O9 us[k]? ws[k]?
noncomputable def IU.size(i:IU)(L:UH):Nat:=match i with
 | .seq us=>us.length
 | .ref n=>match L[n]? with
  | some (.lst us)=>us.length
  | some (.ro us)=>us.length
  | _=>0
 | .enm n=>match Ao L n with
  | some us=>us.length
  | none=>0
 | .zip2 n m=>match Ao L n,Ao L m with
  | some us,some ws=>min us.length ws.length
  | _,_=>0
 | .zipT us m=>match Ao L m with
  | some ws=>min us.length ws.length
  | none=>0
 | .zipL n ws=>match Ao L n with
  | some us=>min us.length ws.length
  | none=>0
abbrev FI:=UE->UH->Option (IU×UH)
noncomputable def Nx(K:aJ)(J:It)(i:IU)(H:Hp)(α:List Addr):Prop:=∀ (H2:Hp) (α2:List Addr) (L2:UH),Gr H α H2 α2->Abs K H2 α2 L2->∀ k:Nat,
 (∀ u,i.at k L2=some (some u)->J.go k H2/\∀ x H3,J.yld k H2 x H3->Gr H2 α2 H3 α2/\Abs K H3 α2 L2/\RepU K H3 α2 u x)/\(i.at k L2=some none->J.stop k H2)
inductive lI(K:aJ)(f:FI)(σ:L2.St)(H:Hp)(R:It->Hp->Prop):Prop
 | mk (α:List Addr) (δ:UE) (L:UH) (A:Abs K H α L) (S:RepS K H α δ σ) (i:IU) (L':UH) (e:f δ L=some (i,L')) (q:∀ J H' α',Gr H α H' α'->Abs K H' α' L'->Nx K J i H' α'->R J H'):lI K f σ H R
noncomputable def PIF(X:Cx)(tg iter:Expr)(f:FI):Prop:=PI X tg iter (lI X.K f)
variable {iter:Expr}{fi:FI}
section
variable {l:Expr}
theorem PI.imp{t t':TI}(h:PI X tg iter t)(hi:∀ σ H R,t' σ H R->t σ H R):PI X tg iter t':=fun pins s σ H R I q=>h pins s σ H R I (hi σ H R q)
theorem PI.or{t t':TI}(h:PI X tg iter t)(h':PI X tg iter t'):PI X tg iter (fun σ H R=>t σ H R\/t' σ H R):=fun pins s σ H R I q=>by
 rcases q with q | q
 ·exact h pins s σ H R I q
 ·exact h' pins s σ H R I q
noncomputable def Qq(u:U)(L:UH):Option IU:=match u with
 | .tup us=>some (.seq us)
 | .ref n=>match L[n]? with
  | some (.lst _)=>some (.ref n)
  | some (.ro _)=>some (.ref n)
  | _=>none
 | _=>none
theorem Abj(ea:α[n]? = some a):Nx K (Itl K a) (.ref n) H α:=by
 intro H2 α2 L2 g A2 k
 have ea2:=g.at ea
 have go:∀ (us:List U) (xs:List V),SqL K H2 a xs->RepL K H2 α2 us xs->(∀ ys,SqL K H2 a ys->True)->(∀ u,us[k]? = some u->(Itl K a).go k H2/\∀ x H3,(Itl K a).yld k H2 x H3->Gr H2 α2 H3 α2/\Abs K H3 α2 L2/\RepU K H3 α2 u x)/\(us[k]? = none->(Itl K a).stop k H2):=by
  intro us xs sq r _
  refine ⟨fun u eu=>?_,fun eu=>?_⟩
  ·obtain ⟨x,ex,rx⟩:=r.get eu
   refine ⟨⟨xs,x,sq,ex⟩,?_⟩
   rintro y H3 ⟨rfl,hy⟩
   have:=hy xs sq
   rw[ex] at this;cases this
   exact ⟨.refl _ _,A2,rx⟩
  ·exact ⟨xs,sq,by rw[<- r.length];exact cV.mp eu⟩
 unfold IU.at
 simp only
 cases q:L2[n]? with
 | none=>simp
 | some o=>
  have hr:=A2.rep n a o ea2 q
  cases o with
  | lst us=>
   obtain ⟨xs,e,r⟩:=hr
   obtain ⟨h1,h2⟩:=go us xs (.of e) r fun _ _=>trivial
   exact ⟨fun u eu=>h1 u (bS eu),fun eu=>h2 (bS eu)⟩
  | ro us=>
   obtain ⟨xs,e,r⟩:=hr
   obtain ⟨h1,h2⟩:=go us xs e.sq r fun _ _=>trivial
   exact ⟨fun u eu=>h1 u (bS eu),fun eu=>h2 (bS eu)⟩
  | dic kvs=>simp
  | rod kvs=>simp
  | ins C fs=>simp
  | exc C fr fs=>simp
theorem Ajt(sq:SqT K H a xs)(r:RepL K H α us xs):Nx K (Itt K a) (.seq us) H α:=by
 intro H2 α2 L2 g A2 k
 have sq2:=g.st.sqT (K:=K) sq
 have r2:=r.mono g
 refine ⟨fun u eu=>?_,fun eu=>?_⟩
 ·obtain ⟨x,ex,rx⟩:=r2.get (bS eu)
  refine ⟨⟨xs,x,sq2,ex⟩,?_⟩
  rintro y H3 ⟨rfl,hy⟩
  have:=hy xs sq2
  rw[ex] at this;cases this
  exact ⟨.refl _ _,A2,rx⟩
 ·exact ⟨xs,sq2,by rw[<- r2.length];exact cV.mp (bS eu)⟩
theorem Ahx(lo:Int)(n:Nat):Nx K (Itr lo n) (.seq ((aO n).map fun i=>U.int (lo+(i:Nat)))) H α:=by
 intro H2 α2 L2 g A2 k
 refine ⟨fun u eu=>?_,fun eu=>?_⟩
 ·have eu:=bS eu
  rw[bO] at eu
  by_cases hk:k < n
  ·rw[lD hk] at eu
   simp at eu
   refine ⟨hk,?_⟩
   rintro x H3 ⟨rfl,rfl⟩
   subst eu
   exact ⟨.refl _ _,A2,rfl⟩
  ·rw[eS (by simpa using hk)] at eu
   simp at eu
 ·have:=cV.mp (bS eu)
  show n<=k
  simpa using this
noncomputable def Bg(f:FE):FI:=fun δ L=>(f δ L).bind fun p=>(Qq p.1 p.2).map fun i=>(i,p.2)
theorem B3(h:PEF X l fe):PIF X tg l (Bg fe):=by
 refine PI.imp (PI.or (Aiq h) (Alw h)) ?_
 rintro σ H R ⟨α,δ,L,A,S,i,L3,e,q⟩
 obtain ⟨⟨u,L1⟩,e1,e⟩:=aB.mp e
 obtain ⟨j,e2,e⟩:=aH.mp e
 cases e
 cases u with
 | tup us=>
  cases e2
  refine .inr ⟨α,δ,L,A,S,_,_,e1,fun x H1 α1 g1 A1 r1=>?_⟩
  unfold RepU at r1
  obtain ⟨a,xs,rfl,sq,r⟩:=r1
  exact ⟨a,rfl,⟨xs,sq⟩,q _ H1 α1 g1 A1 (Ajt sq r)⟩
 | ref n=>
  refine .inl ⟨α,δ,L,A,S,_,_,e1,fun x H1 α1 g1 A1 r1=>?_⟩
  unfold RepU at r1
  obtain ⟨a,ea,rfl⟩:=r1
  refine ⟨a,rfl,?_⟩
  unfold Qq at e2
  simp only at e2
  cases w:L1[n]? with
  | none=>simp only[w] at e2;cases e2
  | some o=>
   have hr:=A1.rep n a o ea w
   cases o with
   | lst us=>simp only[w] at e2;cases e2;obtain ⟨xs,e,r⟩:=hr;exact ⟨⟨xs,.of e⟩,q _ H1 α1 g1 A1 (Abj ea)⟩
   | ro us=>simp only[w] at e2;cases e2;obtain ⟨xs,e,r⟩:=hr;exact ⟨⟨xs,e.sq⟩,q _ H1 α1 g1 A1 (Abj ea)⟩
   | dic kvs=>simp only[w] at e2;cases e2
   | rod kvs=>simp only[w] at e2;cases e2
   | ins C fs=>simp only[w] at e2;cases e2
   | exc C fr fs=>simp only[w] at e2;cases e2
 | _=>cases e2
noncomputable def Bf(lo:Int)(n:Nat):List U:=(aO n).map fun i=>U.int (lo+(i:Nat))
noncomputable def Dc(g:FA):FI:=fun δ L=>(g δ L).bind fun p=>match p.1 with
 | [.int j]=>if -(2 ^ 62)<=j/\j < 2 ^ 62 then some (.seq (Bf 0 j.toNat),p.2) else none
 | _=>none
noncomputable def Akb(g:FA):FI:=fun δ L=>(g δ L).bind fun p=>match p.1 with
 | [.int i,.int j]=>if (-(2 ^ 62)<=i/\i < 2 ^ 62)/\-(2 ^ 62)<=j/\j < 2 ^ 62 then some (.seq (Bf i (j - i).toNat),p.2) else none
 | _=>none
theorem RepL.one(h:RepL K H α [u] xs):∃ x,xs=[x]/\RepU K H α u x:=by
 unfold RepL at h
 obtain ⟨x,r,e,h1,h2⟩:=h
 unfold RepL at h2
 subst h2
 exact ⟨x,e,h1⟩
theorem RepL.two{w:U}(h:RepL K H α [u,w] xs):∃ x y,xs=[x,y]/\RepU K H α u x/\RepU K H α w y:=by
 unfold RepL at h
 obtain ⟨x,r,e,h1,h2⟩:=h
 obtain ⟨y,e2,h3⟩:=h2.one
 subst e2
 exact ⟨x,y,e,h1,h3⟩
theorem Em{a:Expr}{p:Pos}(hg:Gl X "range")(hm:X.mg "range" = none)(ha:PAF X [a] g)(hs:bQ [a] X.env=[(false,eval a X.env)]:=by rfl):PIF X tg (.Call (.Name "range" p) [a] [] pos) (Dc g):=by
 refine PI.imp (Aeh hg hm ha hs) ?_
 rintro σ H R ⟨α,δ,L,A,S,i,L3,e,q⟩
 obtain ⟨⟨us,L1⟩,e1,e⟩:=aB.mp e
 refine ⟨α,δ,L,A,S,us,L1,e1,fun xs H1 α1 g1 A1 r1=>?_⟩
 simp only at e
 split at e
 ·rename_i _ j
  split at e
  ·rename_i hj
   cases e
   obtain ⟨x,rfl,rx⟩:=r1.one
   unfold RepU at rx
   subst rx
   exact ⟨j,rfl,hj.1,hj.2,q _ H1 α1 g1 A1 (Ahx 0 _)⟩
  ·cases e
 ·cases e
noncomputable def N3(i:IU)(g:FG)(body:FS):Nat->Nat->UE->UH->Option (Fl×UH)
 | 0,_,_,_=>none
 | m+1,k,δ,L=>match i.at k L with
  | none=>none
  | some none=>some (.nx δ,L)
  | some (some u)=>(g u δ L).bind fun p=>(body p.1 p.2).bind fun q=>match q.1 with
   | .nx δ'=>N3 i g body m (k+1) δ' q.2
   | .ct δ'=>N3 i g body m (k+1) δ' q.2
   | .bk δ'=>some (.nx δ',q.2)
   | .rt w=>some (.rt w,q.2)
noncomputable def Jh(fi:FI)(g:FG)(body:FS):FS:=fun δ L=>(fi δ L).bind fun p=>N3 p.1 g body (p.1.size p.2+1) 0 δ p.2
inductive FI_(K:aJ)(D:Ends)(H1:Hp)(α1:List Addr)(fl:Fl)(L':UH)(go:UE->UH->Option (Fl×UH))(σ2:_root_.L2.St)(H2:Hp):Prop
 | mk (α2:List Addr) (δ2:UE) (L2:UH) (g2:Gr H1 α1 H2 α2) (A2:Abs K H2 α2 L2) (S2:RepS K H2 α2 δ2 σ2) (e2:go δ2 L2=some (fl,L')) (q2:Post K D H2 α2 fl L'):FI_ K D H1 α1 fl L' go σ2 H2
theorem Hr{body:List Stmt}{g:FG}{fb:FS}(hp:qV (model X.prog X.w) X.A X.env X.xe)(hc:X.calm=true)(hi:PIF X tg iter fi)(hg:PGF X tg g)(hb:S9 X body fb)
  (hs:∀ x,foldedSetIterable iter X.env x=pure x:=by intro _;rfl):PSF X (.For tg iter body [] pos) (Jh fi g fb):=by
 refine PS.imp (Ami hp hc hi hg hb hs) ?_
 rintro D σ H ⟨α,δ,L,A,S,fl,L',e,q⟩
 obtain ⟨⟨it,L1⟩,e1,e⟩:=aB.mp e
 refine ⟨α,δ,L,A,S,it,L1,e1,fun J H1 α1 g1 A1 hJ=>?_⟩
 refine ⟨fun k m=>FI_ X.K D H1 α1 fl L' (N3 it g fb m k),⟨_,α1,δ,L1,.refl _ _,A1,S.mono g1,e,q.from g1⟩,?_⟩
 rintro k m σ2 H2 ⟨α2,δ2,L2,g2,A2,S2,e2,q2⟩
 cases m with
 | zero=>cases e2
 | succ m=>
  obtain ⟨hgo,hstop⟩:=hJ H2 α2 L2 g2 A2 k
  unfold N3 at e2
  cases hat:it.at k L2 with
  | none=>rw[hat] at e2;cases e2
  | some o=>
   cases o with
   | none=>
    rw[hat] at e2
    cases e2
    exact .inl ⟨hstop hat,q2 σ2 H2 α2 (.refl _ _) A2 S2⟩
   | some u=>
    rw[hat] at e2
    obtain ⟨go,yld⟩:=hgo u hat
    obtain ⟨⟨δ3,L3⟩,e3,e2⟩:=aB.mp e2
    obtain ⟨⟨fl4,L4⟩,e4,e2⟩:=aB.mp e2
    refine .inr ⟨go,FI_ X.K D H1 α1 fl L' (N3 it g fb m (k+1)),fun σ5 H5 h5=>⟨m,dZ _,h5⟩,fun x H3 y3=>?_⟩
    obtain ⟨g3,A3,r3⟩:=yld x H3 y3
    refine ⟨α2,δ2,L2,u,A3,S2.mono g3,r3,δ3,L3,e3,fun σ4 H4 α4 g4 A4 S4=>⟨α4,δ3,L3,A4,S4,fl4,L4,e4,?_⟩⟩
    have gA:=g2.trans (g3.trans g4)
    have gB:=g3.trans g4
    cases fl4 with
    | nx δ5=>exact fun σ5 H5 α5 g5 A5 S5=>⟨α5,δ5,L4,gA.trans g5,A5,S5,e2,q2.from (gB.trans g5)⟩
    | ct δ5=>exact fun σ5 H5 α5 g5 A5 S5=>⟨α5,δ5,L4,gA.trans g5,A5,S5,e2,q2.from (gB.trans g5)⟩
    | bk δ5=>cases e2;exact fun σ5 H5 α5 g5 A5 S5=>q2 σ5 H5 α5 (gB.trans g5) A5 S5
    | rt w=>cases e2;exact fun v H5 α5 g5 A5 r5=>q2 v H5 α5 (gB.trans g5) A5 r5
noncomputable def Fz(c:FT)(body:FS):Nat->UE->UH->Option (Fl×UH)
 | 0,_,_=>none
 | m+1,δ,L=>(c δ L).bind fun p=>if p.1=true then (body δ p.2).bind fun q=>match q.1 with
   | .nx δ'=>Fz c body m δ' q.2
   | .ct δ'=>Fz c body m δ' q.2
   | .bk δ'=>some (.nx δ',q.2)
   | .rt w=>some (.rt w,q.2)
  else some (.nx δ,p.2)
inductive WI_(K:aJ)(D:Ends)(fl:Fl)(L':UH)(go:UE->UH->Option (Fl×UH))(σ2:_root_.L2.St)(H2:Hp):Prop
 | mk (α2:List Addr) (δ2:UE) (L2:UH) (A2:Abs K H2 α2 L2) (S2:RepS K H2 α2 δ2 σ2) (e2:go δ2 L2=some (fl,L')) (q2:Post K D H2 α2 fl L'):WI_ K D fl L' go σ2 H2
theorem Ow{body:List Stmt}{tc:FT}{fb:FS}(n:Nat)(hp:qV (model X.prog X.w) X.A X.env X.xe)(hc:PTF X c tc)(hb:S9 X body fb):PSF X (.While c body [] pos) (Fz tc fb n):=by
 refine PS.imp (Agu hp hc hb) ?_
 rintro D σ H ⟨α,δ,L,A,S,fl,L',e,q⟩
 refine ⟨fun m=>WI_ X.K D fl L' (Fz tc fb m),⟨n,α,δ,L,A,S,e,q⟩,?_⟩
 rintro m σ2 H2 ⟨α2,δ2,L2,A2,S2,e2,q2⟩
 cases m with
 | zero=>cases e2
 | succ m=>
  unfold Fz at e2
  obtain ⟨⟨b,L3⟩,e3,e2⟩:=aB.mp e2
  refine ⟨α2,δ2,L2,A2,S2,b,L3,e3,fun H3 α3 g3 A3=>?_⟩
  cases b with
  | false=>cases e2;exact X4 (q2 σ2 H3 α3 g3 A3 (S2.mono g3))
  | true=>
   obtain ⟨⟨fl4,L4⟩,e4,e2⟩:=aB.mp e2
   refine Yq ⟨WI_ X.K D fl L' (Fz tc fb m),fun σ5 H5 h5=>⟨m,dZ _,h5⟩,?_⟩
   refine ⟨α3,δ2,L3,A3,S2.mono g3,fl4,L4,e4,?_⟩
   cases fl4 with
   | nx δ5=>exact fun σ5 H5 α5 g5 A5 S5=>⟨α5,δ5,L4,A5,S5,e2,q2.from (g3.trans g5)⟩
   | ct δ5=>exact fun σ5 H5 α5 g5 A5 S5=>⟨α5,δ5,L4,A5,S5,e2,q2.from (g3.trans g5)⟩
   | bk δ5=>cases e2;exact fun σ5 H5 α5 g5 A5 S5=>q2 σ5 H5 α5 (g3.trans g5) A5 S5
   | rt w=>cases e2;exact fun v H5 α5 g5 A5 r5=>q2 v H5 α5 (g3.trans g5) A5 r5
end
noncomputable def fnU(n m:Nat)(body:FS):FN:=fun us L=>if us.length=m then (body (us.map some++bN (n - us.length) none) L).bind fun p=>match p.1 with
 | .rt u=>some (u,p.2)
 | .nx _=>some (.non,p.2)
 | _=>none
 else none
variable {P:cX}{w:eG}
section
variable {mg:Str->Option aG}{base:Heap}
theorem Fun.okF{x qual:Str}{st:Stmt}{f:Addr}{fd:cU}{N ps:List Str}{body:FS}(F:Fun K x qual st f fd)(S:FnScope N ps (Al st))
  (hbody:∀ (cdv:aG) (A:eE) (outer:List jS) (s:aR) (H:Hp) (E:XK),Room k (A.deeper (envOfC qual (Al st) s.heap.objs.size f cdv))->S9 (Wn CX0 P w K mg base N qual (Al st) f cdv A outer s H E).nox (Bm st) body) :
  FnOk P w K mg base CX0 (k+1) f fd ps (spF K ps.length (fnU N.length ps.length body)):=by
 refine F.ok S (fun vs H Q E ⟨α,L,us,A,r,hl,_,_,_,_⟩=>by rw[<- r.length];exact hl) (fun cdv A outer s H vs Q E hr h=>?_)
 obtain ⟨α,L,us,Ab,r,hl,u,L',e,q⟩:=h
 refine ⟨_,hbody cdv A outer s H E hr,?_⟩
 unfold fnU at e
 rw[if_pos hl] at e
 obtain ⟨⟨fl,L1⟩,e1,e⟩:=aB.mp e
 refine ⟨α,_,L,Ab,RepS.start N r,fl,L1,e1,?_⟩
 cases fl with
 | rt w=>cases e;exact q
 | nx δ=>cases e;exact fun σ' H' α' g' A' S'=>q .non H' α' g' A' rfl
 | bk δ=>cases e
 | ct δ=>cases e
end
section
theorem Sx(h:Fu L n=some us):L[n]? = some (.lst us):=by
 unfold Fu at h
 split at h
 ·rename_i e;cases h;exact e
 ·cases h
theorem N8(A:Abs K H α L)(h:Fu L n=some us):∃ a xs,α[n]? = some a/\H a=some (.lst xs)/\RepL K H α us xs:=by
 obtain ⟨a,ea,xs,e,r⟩:=A.addr (Sx h)
 exact ⟨a,xs,ea,e,r⟩
theorem Gb(A:Abs K H α L)(h:Ao L n=some us):∃ a xs,α[n]? = some a/\SqL K H a xs/\RepL K H α us xs:=by
 unfold Ao at h
 split at h
 ·rename_i e;cases h
  obtain ⟨a,ea,xs,e,r⟩:=A.addr e
  exact ⟨a,xs,ea,.of e,r⟩
 ·rename_i e;cases h
  obtain ⟨a,ea,xs,e,r⟩:=A.addr e
  exact ⟨a,xs,ea,e.sq,r⟩
 ·cases h
theorem Abs.setL{ys:List V}{ws:List U}(A:Abs K H α L)(h:Fu L n=some us)(ea:α[n]? = some a)(e:H a=some (.lst xs))(r:RepL K H α ws ys) :
  Gr H α (upd H a (.lst ys)) α/\Abs K (upd H a (.lst ys)) α (L.set n (.lst ws)):=by
 have g:Gr H α (upd H a (.lst ys)) α:=⟨⟨[],by simp⟩,.write e (by exact trivial) _⟩
 obtain ⟨A',_⟩:=A.put (o:=.lst ys) (u:=.lst ws) ea (Sx h) rfl rfl e (by exact trivial) ⟨ys,upd_same,r.mono g⟩
 exact ⟨g,A'⟩
theorem RepU.ref_of(A:Abs K H α L)(h:RepU K H α (.ref n) x):∃ a,α[n]? = some a/\x = .ref a:=by unfold RepU at h;exact h
end
noncomputable def Aw:S2:=fun u w L=>match u,w with
 | .int i,.int j=>some (.int (i+j),L)
 | .str a,.str b=>if small (a.length+b.length)=true then some (.str (a++b),L) else none
 | .tup a,.tup b=>if a.isEmpty=false/\small (a.length+b.length)=true then some (.tup (a++b),L) else none
 | .ref n,.ref m=>(Fu L n).bind fun a=>(Fu L m).bind fun b=>if small (a.length+b.length)=true then some (.ref L.length,L++[.lst (a++b)]) else none
 | _,_=>none
noncomputable def Ako(K:aJ):R2:=fun x y H Q=>rI0 (fun i j=>.int (i+j)) x y H Q\/(∃ i j,x = .str i/\y = .str j/\i.length+j.length<=sizeLine/\Q (.str (i++j)) H)\/Akc K x y H Q\/Apf x y H Q
theorem Bx:OpR X (fV .Add) (Ako X.K):=Amf.or (X6.or (Ah8.or Amc))
theorem Bw:Dp K (Ako K) Aw:=by
 intro H α L u w x y z L' Q A ru rw e q
 unfold Aw at e
 split at e
 ·cases e
  unfold RepU at ru rw
  exact .inl ⟨_,_,ru,rw,q _ H α (.refl _ _) A rfl⟩
 ·split at e
  ·rename_i h
   cases e
   unfold RepU at ru rw
   exact .inr (.inl ⟨_,_,ru,rw,Fb h,q _ H α (.refl _ _) A rfl⟩)
  ·cases e
 ·rename_i a b
  split at e
  ·rename_i h
   cases e
   unfold RepU at ru rw
   obtain ⟨p,xs,rfl,s1,r1⟩:=ru
   obtain ⟨p2,ys,rfl,s2,r2⟩:=rw
   have e1:=r1.length
   have e2:=r2.length
   refine .inr (.inr (.inl ⟨p,p2,xs,ys,rfl,rfl,s1,s2,?_,by rw[<- e1,<- e2];exact Fb h.2,fun hy=>?_,fun hy l hl=>?_⟩))
   ·intro hx;subst hx
    cases a with
    | nil=>simp at h
    | cons _ _=>simp at e1
   ·subst hy
    have hb:b=[]:=by
     cases b with
     | nil=>rfl
     | cons _ _=>simp at e2
    subst hb
    refine q _ H α (.refl _ _) A ?_
    unfold RepU
    exact ⟨p,xs,rfl,s1,by rw[bB];exact r1⟩
   ·obtain ⟨g,A',r⟩:=A.tup (r1.append r2) hl
    exact q _ _ α g A' r
  ·cases e
 ·rename_i n m
  obtain ⟨a,ha,e⟩:=aB.mp e
  obtain ⟨b,hb,e⟩:=aB.mp e
  split at e
  ·rename_i h
   cases e
   obtain ⟨p,xs,e1,h1,r1⟩:=N8 A ha
   obtain ⟨p2,ys,e2,h2,r2⟩:=N8 A hb
   obtain ⟨p',e1',rfl⟩:=ru.ref_of A
   obtain ⟨p2',e2',rfl⟩:=rw.ref_of A
   rw[e1] at e1';cases e1'
   rw[e2] at e2';cases e2'
   refine .inr (.inr (.inr ⟨p,p2,xs,ys,rfl,rfl,h1,h2,by rw[<- r1.length,<- r2.length];exact Fb h,fun l hl=>?_⟩))
   obtain ⟨g,A',r⟩:=A.lst (r1.append r2) hl
   exact q _ _ _ g A' r
  ·cases e
 ·cases e
noncomputable def Aci(C:Int->Int->Bool)(g:Int->Int->U):S2:=fun u w L=>match u,w with
 | .int i,.int j=>if C i j=true then some (g i j,L) else none
 | _,_=>none
theorem Abe{C:Int->Int->Prop}{Cb:Int->Int->Bool}{g:Int->Int->V}{g':Int->Int->U}(hC:∀ i j,Cb i j=true->C i j)(hg:∀ i j H α,RepU K H α (g' i j) (g i j)):Dp K (rI C g) (Aci Cb g'):=by
 intro H α L u w x y z L' Q A ru rw e q
 unfold Aci at e
 split at e
 ·split at e
  ·rename_i h
   cases e
   unfold RepU at ru rw
   exact ⟨_,_,ru,rw,hC _ _ h,q _ H α (.refl _ _) A (hg _ _ _ _)⟩
  ·cases e
 ·cases e
noncomputable def Ro(g:Int->Int->U):S2:=fun u w L=>match u,w with
 | .int i,.int j=>some (g i j,L)
 | _,_=>none
theorem Qn{g:Int->Int->V}{g':Int->Int->U}(hg:∀ i j H α,RepU K H α (g' i j) (g i j)):Dp K (rI0 g) (Ro g'):=by
 intro H α L u w x y z L' Q A ru rw e q
 unfold Ro at e
 split at e
 ·cases e
  unfold RepU at ru rw
  exact ⟨_,_,ru,rw,q _ H α (.refl _ _) A (hg _ _ _ _)⟩
 ·cases e
noncomputable def Mo:S2:=Ro fun i j=>.int (i - j)
theorem Va:Dp K (rI0 fun i j=>.int (i - j)) Mo:=Qn fun _ _ _ _=>rfl
noncomputable def Im(i j:Int):Bool:=(decide (-(2 ^ 64) < i)&&decide (i < 2 ^ 64)) || (decide (-(2 ^ 64) < j)&&decide (j < 2 ^ 64))
noncomputable def Bi:S2:=fun u w L=>match u,w with
 | .int i,.int j=>if Im i j=true then some (.int (i * j),L) else none
 | .str a,.int j=>if a.length<=1000/\-1000<=j/\j<=1000 then some (.str (lK a j),L) else none
 | .ref n,.int k=>(Fu L n).bind fun a=>if -1000000<=k/\k<=1000000/\small (a.length * k.toNat)=true then some (.ref L.length,L++[.lst (bN k.toNat a).flatten]) else none
 | _,_=>none
noncomputable def Akp:R2:=fun x y H Q=>rI CMul (fun i j=>.int (i * j)) x y H Q\/(∃ a j,x = .str a/\y = .int j/\MulOk a j/\Q (.str (lK a j)) H)\/Aoh x y H Q
theorem Yz:OpR X (fV .Mult) (fun x y H Q=>∃ a j,x = .str a/\y = .int j/\MulOk a j/\Q (.str (lK a j)) H):=by
 intro pins s σ H x y v u Q I rx ry h
 obtain ⟨a,j,rfl,rfl,hok,q⟩:=h
 obtain ⟨t,rfl⟩:=rx
 obtain ⟨t',rfl⟩:=ry
 exact SB.mul hok fun t' k=>⟨.str (lK a j),H,I.tok _,⟨_,rfl⟩,q⟩
theorem Dw:OpR X (fV .Mult) Akp:=Ak2.or (Yz.or Ald)
theorem RepL.flat(h:RepL K H α us xs):∀ k:Nat,RepL K H α (bN k us).flatten (bN k xs).flatten
 | 0=>.nil
 | k+1=>by rw[eI,eI,fR,fR];exact h.append (RepL.flat h k)
theorem Du:Dp K Akp Bi:=by
 intro H α L u w x y z L' Q A ru rw e q
 unfold Bi at e
 split at e
 ·rename_i i j
  split at e
  ·rename_i h
   cases e
   unfold RepU at ru rw
   refine .inl ⟨_,_,ru,rw,?_,q _ H α (.refl _ _) A rfl⟩
   simp only[Im,oF,cG,decide_eq_true_eq] at h
   exact h
  ·cases e
 ·rename_i a j
  split at e
  ·rename_i h
   cases e
   unfold RepU at ru rw
   exact .inr (.inl ⟨_,_,ru,rw,mulOk_of 1000 1000 h.1 (by omega) (by omega) (by decide) (by decide),q _ H α (.refl _ _) A rfl⟩)
  ·cases e
 ·rename_i n k
  obtain ⟨a,ha,e⟩:=aB.mp e
  split at e
  ·rename_i h
   cases e
   obtain ⟨p,xs,e1,h1,r1⟩:=N8 A ha
   obtain ⟨p',e1',rfl⟩:=ru.ref_of A
   rw[e1] at e1';cases e1'
   unfold RepU at rw
   refine .inr (.inr ⟨p,k,xs,rfl,rw,h1,by omega,by omega,by rw[<- r1.length];exact Fb h.2.2,fun l hl=>?_⟩)
   obtain ⟨g,A',r⟩:=A.lst (r1.flat k.toNat) hl
   exact q _ _ _ g A' r
  ·cases e
 ·cases e
noncomputable def Ae3(i j:Int):Prop:=0 < j/\j < 1152921504606846976
theorem Ni:OpR X (fV .FloorDiv) (rI Ae3 fun i j=>.int (i / j)):=opI fun i j _ _ _ _ _ hc q=>by
 have h1:(0:Int) < j:=hc.1
 have h2:j < 1152921504606846976:=hc.2
 refine floordiv_int (by omega) (by rw[Int.fdiv_eq_ediv_of_nonneg i (by omega)];exact q) (.inl (PyProof.noPylong_of_log2 ?_))
 have h3:j.natAbs.log2 < 60:=(rN (by omega)).mpr (by omega)
 omega
noncomputable def Tx(i j:Int):Bool:=decide (0 < j)&&decide (j < 1152921504606846976)
noncomputable def Ia:S2:=Aci Tx fun i j=>.int (i / j)
theorem P4:Dp K (rI Ae3 fun i j=>.int (i / j)) Ia:=Abe (fun i j h=>by simpa[Tx,Ae3] using h) fun _ _ _ _=>rfl
noncomputable def Ed:S2:=Aci (fun _ j=>decide (0 < j)) fun i j=>.int (i % j)
theorem Il:Dp K (rI (fun _ j=>0 < j) fun i j=>.int (i % j)) Ed:=Abe (fun i j h=>by simpa using h) fun _ _ _ _=>rfl
noncomputable def Um(i j:Int):Bool:=decide (0<=j)&&decide (j<=1000000)&&decide (i.natAbs < 2 ^ 64)
noncomputable def Hh:S2:=Aci Um fun i j=>.int (i ^ j.toNat)
theorem Ob:Dp K (rI Aol fun i j=>.int (i ^ j.toNat)) Hh:=Abe (fun i j h=>by simp[Um] at h;exact ⟨h.1.1,h.1.2,h.2⟩) fun _ _ _ _=>rfl
noncomputable def Ui:S2:=Ro fun i j=>.bl (decide (i<=j))
noncomputable def Aex:S2:=Ro fun i j=>.bl (decide (j < i))
noncomputable def Rz:S2:=Ro fun i j=>.bl (decide (j<=i))
noncomputable def Js:S2:=Ro fun i j=>.bl (decide (i < j))
theorem Yg:Dp K (rI0 fun i j=>.bl (decide (i<=j))) Ui:=Qn fun _ _ _ _=>rfl
theorem Alq:Dp K (rI0 fun i j=>.bl (decide (j < i))) Aex:=Qn fun _ _ _ _=>rfl
theorem Alo:Dp K (rI0 fun i j=>.bl (decide (j<=i))) Rz:=Qn fun _ _ _ _=>rfl
theorem Vr:Dp K (rI0 fun i j=>.bl (decide (i < j))) Js:=Qn fun _ _ _ _=>rfl
noncomputable def mapO{β γ:Type}(f:β->Option γ):List β->Option (List γ)
 | []=>some []
 | u::r=>(f u).bind fun d=>(mapO f r).map fun ds=>d::ds
noncomputable def toP(L:UH):Nat->U->Option sK
 | 0,_=>none
 | _+1,.non=>some .none
 | _+1,.bl b=>some (.bool b)
 | _+1,.int i=>some (.int i)
 | _+1,.str x=>some (.str x)
 | n+1,.tup l=>(mapO (toP L n) l).map .tuple
 | n+1,.ref k=>(Ao L k).bind fun l=>(mapO (toP L n) l).map .list
variable {pins:List (Addr×Obj)}
section
variable {s:aR}
theorem Us(ih:∀ (u:U) (x:V) (v:aG) (d:sK),RepU X.K H α u x->RelV x v->toP L n u=some d->∃ as,Reads s.heap v d as):∀ (l:List U) (xs:List V) (vs:List aG) (ds:List sK),RepL X.K H α l xs->Vals xs vs->mapO (toP L n) l=some ds->∃ as,ReadsAll s.heap vs ds as
 | [],xs,vs,ds,r,hv,e=>by
  unfold RepL at r;subst r;cases hv;cases e;exact ⟨_,.nil⟩
 | u::l,xs,vs,ds,r,hv,e=>by
  unfold RepL at r
  obtain ⟨x,xr,rfl,r1,r2⟩:=r
  cases hv with
  | cons h1 h2=>
   obtain ⟨d,e1,e⟩:=aB.mp e
   obtain ⟨dr,e2,e⟩:=aH.mp e
   subst e
   obtain ⟨as,q1⟩:=ih u x _ d r1 h1 e1
   obtain ⟨bs,q2⟩:=Us ih l xr _ dr r2 h2 e2
   exact ⟨_,.cons q1 q2⟩
theorem Ov(I:Inv X pins σ H s)(A:Abs X.K H α L):∀ (n:Nat) (u:U) (x:V) (v:aG) (d:sK),RepU X.K H α u x->RelV x v->toP L n u=some d->∃ as,Reads s.heap v d as
 | 0,_,_,_,_,_,_,e=>by cases e
 | n+1,u,x,v,d,r,hv,e=>by
  cases u with
  | non=>unfold RepU at r;subst r;cases hv;cases e;exact ⟨_,.none⟩
  | bl b=>unfold RepU at r;subst r;cases hv;cases e;exact ⟨_,.bool b⟩
  | int i=>unfold RepU at r;subst r;obtain ⟨t,rfl⟩:=hv;cases e;exact ⟨_,.int i t⟩
  | str y=>unfold RepU at r;subst r;obtain ⟨t,rfl⟩:=hv;cases e;exact ⟨_,.str y t⟩
  | tup l=>
   unfold RepU at r
   obtain ⟨a,xs,rfl,sq,r⟩:=r
   cases hv
   unfold toP at e
   obtain ⟨ds,e1,e⟩:=aH.mp e
   subst e
   obtain ⟨its,hv,⟨o,h1,h2,m,h3⟩,_⟩:=I.tuple sq
   obtain ⟨as,q⟩:=Us (Ov I A n) l xs its ds r hv e1
   exact ⟨_,.tuple h1 h2 h3 (by simpa using q)⟩
  | ref k=>
   unfold RepU at r
   obtain ⟨a,ea,rfl⟩:=r
   cases hv
   unfold toP at e
   obtain ⟨l,hl,e⟩:=aB.mp e
   obtain ⟨ds,e1,e⟩:=aH.mp e
   subst e
   obtain ⟨a',xs,ea',sq,r⟩:=Gb A hl
   rw[ea] at ea';cases ea'
   obtain ⟨its,hv,⟨o,m,h1,h2,_,h3⟩,_⟩:=I.list sq
   obtain ⟨as,q⟩:=Us (Ov I A n) l xs its ds r hv e1
   exact ⟨_,.list h1 h2 h3 (by simpa using q)⟩
end
noncomputable def eqP(u w:U)(L:UH):Option Bool:=(toP L 8 u).bind fun d=>(toP L 8 w).bind fun e=>if fY d=true/\fY e=true then some (eA d e) else none
noncomputable def Aiu(K:aJ)(neg:Bool):R2:=fun x y H Q=>∃ α L u w b,Abs K H α L/\RepU K H α u x/\RepU K H α w y/\eqP u w L=some b/\Q (.bl (if neg then !b else b)) H
theorem Fo(hu:X.A.units+64 < cLine):OpR X (eM .Eq) (Aiu X.K false):=by
 intro pins s σ H x y v u Q I rx ry h
 obtain ⟨α,L,a,b,k,A,ra,rb,e,q⟩:=h
 obtain ⟨d,e1,e⟩:=aB.mp e
 obtain ⟨d2,e2,e⟩:=aB.mp e
 split at e
 ·rename_i hs
  cases e
  obtain ⟨as,q1⟩:=Ov I A 8 a x v d ra rx e1
  obtain ⟨bs,q2⟩:=Ov I A 8 b y u d2 rb ry e2
  exact eq_dataH q1 q2 hs.1 hs.2 hu ⟨.bl _,H,I,rfl,q⟩
 ·cases e
theorem Li(hu:X.A.units+64 < cLine):OpR X (eM .NotEq) (Aiu X.K true):=by
 intro pins s σ H x y v u Q I rx ry h
 obtain ⟨α,L,a,b,k,A,ra,rb,e,q⟩:=h
 obtain ⟨d,e1,e⟩:=aB.mp e
 obtain ⟨d2,e2,e⟩:=aB.mp e
 split at e
 ·rename_i hs
  cases e
  obtain ⟨as,q1⟩:=Ov I A 8 a x v d ra rx e1
  obtain ⟨bs,q2⟩:=Ov I A 8 b y u d2 rb ry e2
  exact ne_dataH q1 q2 hs.1 hs.2 hu ⟨.bl _,H,I,rfl,q⟩
 ·cases e
noncomputable def B2:S2:=fun u w L=>(eqP u w L).map fun b=>(.bl b,L)
noncomputable def Dl:S2:=fun u w L=>(eqP u w L).map fun b=>(.bl (!b),L)
theorem Fp:Dp K (Aiu K false) B2:=by
 intro H α L u w x y z L' Q A ru rw e q
 obtain ⟨b,e1,e⟩:=aH.mp e
 cases e
 exact ⟨α,_,u,w,b,A,ru,rw,e1,q _ H α (.refl _ _) A rfl⟩
theorem Lx:Dp K (Aiu K true) Dl:=by
 intro H α L u w x y z L' Q A ru rw e q
 obtain ⟨b,e1,e⟩:=aH.mp e
 cases e
 exact ⟨α,_,u,w,b,A,ru,rw,e1,q _ H α (.refl _ _) A rfl⟩
noncomputable def Pq(neg:Bool):S2:=fun u w L=>match u,w with
 | .non,.non=>some (.bl (!neg),L)
 | .bl a,.bl b=>some (.bl (if neg then !(a == b) else a == b),L)
 | .int _,.non=>some (.bl neg,L)
 | .bl _,.non=>some (.bl neg,L)
 | .str _,.non=>some (.bl neg,L)
 | .tup _,.non=>some (.bl neg,L)
 | .ref _,.non=>some (.bl neg,L)
 | _,_=>none
noncomputable def isSome:U->Bool
 | .non=>false
 | _=>true
noncomputable def Amk(neg:Bool):R2:=fun x y H Q=>(y = .non/\Q (.bl (if neg then !decide (x = .non) else decide (x = .non))) H)\/∃ a b,x = .bl a/\y = .bl b/\Q (.bl (if neg then !(a == b) else a == b)) H
theorem Aer:OpR X (eM .Is) (Amk false):=Akz.or (by
 intro pins s σ H x y v u Q I rx ry h
 obtain ⟨a,b,rfl,rfl,q⟩:=h
 cases rx;cases ry
 exact is_bool ⟨.bl _,H,I,rfl,q⟩)
theorem Aga(neg:Bool):Dp K (Amk neg) (Pq neg):=by
 intro H α L u w x y z L' Q A ru rw e q
 unfold Pq at e
 have fin:∀ (k:Bool),x≠.non->w = .non->some (U.bl neg,L)=some (z,L')->Amk neg x y H Q:=fun _ hx hw e'=>by
  subst hw
  obtain ⟨rfl,rfl⟩:U.bl neg=z/\L=L':=by simpa using e'
  unfold RepU at rw
  subst rw
  refine .inl ⟨rfl,?_⟩
  rw[decide_eq_false hx]
  have:(if neg=true then !false else false)=neg:=by cases neg <;> rfl
  rw[this]
  exact q _ H α (.refl _ _) A rfl
 split at e
 ·cases e
  unfold RepU at ru rw
  subst ru;subst rw
  refine .inl ⟨rfl,?_⟩
  have:(if neg=true then !decide (V.non=V.non) else decide (V.non=V.non)) = !neg:=by cases neg <;> simp
  rw[this]
  exact q _ H α (.refl _ _) A rfl
 ·cases e
  unfold RepU at ru rw
  exact .inr ⟨_,_,ru,rw,q _ H α (.refl _ _) A rfl⟩
 ·unfold RepU at ru;subst ru;exact fin true (fun z=>nomatch z) rfl e
 ·unfold RepU at ru;subst ru;exact fin true (fun z=>nomatch z) rfl e
 ·unfold RepU at ru;subst ru;exact fin true (fun z=>nomatch z) rfl e
 ·unfold RepU at ru;obtain ⟨_,_,rfl,_⟩:=ru;exact fin true (fun z=>nomatch z) rfl e
 ·unfold RepU at ru;obtain ⟨_,_,rfl⟩:=ru;exact fin true (fun z=>nomatch z) rfl e
 ·cases e
theorem RepL.atI{i:Int}(r:RepL K H α us xs)(h:L2.atI us i=some u):∃ x,L2.atI xs i=some x/\RepU K H α u x:=by
 unfold L2.atI at h ⊢
 obtain ⟨j,e1,e2⟩:=aB.mp h
 obtain ⟨x,e3,r3⟩:=r.get e2
 exact ⟨x,by rw[<- r.length,e1];exact e3,r3⟩
noncomputable def Am:S2:=fun u w L=>match u,w with
 | .tup l,.int i=>(L2.atI l i).map fun z=>(z,L)
 | .ref n,.int i=>(Ao L n).bind fun l=>(L2.atI l i).map fun z=>(z,L)
 | .str x,.int i=>if small x.length=true then (L2.atI x.cps.toList i).map fun c=>(.str ⟨#[c]⟩,L) else none
 | _,_=>none
theorem A8:Dp K (rIx K) Am:=by
 intro H α L u w x y z L' Q A ru rw e q
 unfold Am at e
 split at e
 ·obtain ⟨c,e1,e⟩:=aH.mp e
  cases e
  unfold RepU at ru rw
  obtain ⟨a,xs,rfl,sq,r⟩:=ru
  obtain ⟨v,e2,r2⟩:=r.atI e1
  exact .inr (.inl ⟨a,xs,_,v,rfl,rw,sq,e2,q _ H α (.refl _ _) A r2⟩)
 ·obtain ⟨l,hl,e⟩:=aB.mp e
  obtain ⟨c,e1,e⟩:=aH.mp e
  cases e
  obtain ⟨a,xs,ea,sq,r⟩:=Gb A hl
  obtain ⟨a',ea',rfl⟩:=ru.ref_of A
  rw[ea] at ea';cases ea'
  unfold RepU at rw
  obtain ⟨v,e2,r2⟩:=r.atI e1
  exact .inl ⟨a,xs,_,v,rfl,rw,sq,e2,q _ H α (.refl _ _) A r2⟩
 ·split at e
  ·rename_i hs
   obtain ⟨c,e1,e⟩:=aH.mp e
   cases e
   unfold RepU at ru rw
   exact .inr (.inr ⟨_,_,c,ru,rw,Fb hs,e1,q _ H α (.refl _ _) A rfl⟩)
  ·cases e
 ·cases e
noncomputable def Xy(l:List U)(lo hi:Option Int):List U:=(l.drop (HT.sIx l.length 0 lo)).take (HT.sIx l.length l.length hi - HT.sIx l.length 0 lo)
theorem RepL.cut(r:RepL K H α us xs)(lo hi:Option Int):RepL K H α (Xy us lo hi) (Wa xs lo hi):=by
 unfold Xy Wa
 rw[r.length]
 exact (r.drop _).take _
noncomputable def Ho:SS:=fun u lo hi L=>match u with
 | .tup l=>if HT.sIx l.length 0 lo=0/\HT.sIx l.length l.length hi=l.length then none else some (.tup (Xy l lo hi),L)
 | .ref n=>(Ao L n).map fun l=>(.ref L.length,L++[.lst (Xy l lo hi)])
 | _=>none
noncomputable def Aij(K:aJ):V->Option Int->Option Int->Hp->VK->Prop:=fun x lo hi H Q=>Ape K x lo hi H Q\/Aop K x lo hi H Q
theorem Rf:SlR X (Aij X.K):=Alv.or Ahs
theorem Om:Afw K (Aij K) Ho:=by
 intro H α L u x lo hi z L' Q A ru e q
 unfold Ho at e
 split at e
 ·split at e
  ·cases e
  ·rename_i hn
   cases e
   unfold RepU at ru
   obtain ⟨a,xs,rfl,sq,r⟩:=ru
   refine .inl ⟨a,xs,rfl,sq,by rw[<- r.length];exact hn,fun p hp=>?_⟩
   obtain ⟨g,A',r'⟩:=A.tup (r.cut lo hi) hp
   exact q _ _ α g A' r'
 ·obtain ⟨l,hl,e⟩:=aH.mp e
  cases e
  obtain ⟨a,xs,ea,sq,r⟩:=Gb A hl
  obtain ⟨a',ea',rfl⟩:=ru.ref_of A
  rw[ea] at ea';cases ea'
  refine .inr ⟨a,xs,rfl,sq,fun p hp=>?_⟩
  obtain ⟨g,A',r'⟩:=A.lst (r.cut lo hi) hp
  exact q _ _ _ g A' r'
 ·cases e
noncomputable def toV:U->Option V
 | .non=>some .non
 | .bl b=>some (.bl b)
 | .int i=>some (.int i)
 | .str x=>some (.str x)
 | _=>none
theorem Aac{y:V}(r:RepU K H α u x)(h:toV u=some y):x=y/\Mn y=true:=by
 cases u <;> simp only[toV] at h <;> first
  | (cases h;unfold RepU at r;exact ⟨r,rfl⟩)
  | cases h
theorem Ur:∀ {us:List U} {xs ys:List V},RepL K H α us xs->mapO toV us=some ys->xs=ys/\ys.all Mn=true
 | [],xs,ys,r,h=>by unfold RepL at r;subst r;cases h;exact ⟨rfl,rfl⟩
 | u::us,xs,ys,r,h=>by
  unfold RepL at r
  obtain ⟨x,xr,rfl,r1,r2⟩:=r
  obtain ⟨y,e1,h⟩:=aB.mp h
  obtain ⟨yr,e2,h⟩:=aH.mp h
  subst h
  obtain ⟨rfl,h1⟩:=Aac r1 e1
  obtain ⟨rfl,h2⟩:=Ur r2 e2
  exact ⟨rfl,by simp[h1,h2]⟩
noncomputable def Ww(neg:Bool):S2:=fun u w L=>match w with
 | .tup l=>(toV u).bind fun x=>(mapO toV l).map fun xs=>(.bl (if neg then !inV x xs else inV x xs),L)
 | .ref n=>(Ao L n).bind fun l=>(toV u).bind fun x=>(mapO toV l).map fun xs=>(.bl (if neg then !inV x xs else inV x xs),L)
 | .str j=>match u with
  | .str i=>some (.bl (if neg then !(!(fQ j i 0 j.length 1).isEmpty) else !(fQ j i 0 j.length 1).isEmpty),L)
  | _=>none
 | _=>none
noncomputable def Apo(K:aJ)(neg:Bool):R2:=fun x y H Q=>rIn K neg x y H Q\/∃ i j,x = .str i/\y = .str j/\Q (.bl (if neg then !(!(fQ j i 0 j.length 1).isEmpty) else !(fQ j i 0 j.length 1).isEmpty)) H
theorem Ac5:OpR X (eM .NotIn) (Apo X.K true):=Ut.or Vd
theorem Aln(neg:Bool):Dp K (Apo K neg) (Ww neg):=by
 intro H α L u w x y z L' Q A ru rw e q
 unfold Ww at e
 split at e
 ·obtain ⟨x',e1,e⟩:=aB.mp e
  obtain ⟨xs,e2,e⟩:=aH.mp e
  cases e
  unfold RepU at rw
  obtain ⟨a,ys,rfl,sq,r⟩:=rw
  obtain ⟨rfl,f1⟩:=Aac ru e1
  obtain ⟨rfl,f2⟩:=Ur r e2
  exact .inl ⟨a,ys,rfl,.inr sq,f1,f2,q _ H α (.refl _ _) A rfl⟩
 ·obtain ⟨l,hl,e⟩:=aB.mp e
  obtain ⟨x',e1,e⟩:=aB.mp e
  obtain ⟨xs,e2,e⟩:=aH.mp e
  cases e
  obtain ⟨a,ys,ea,sq,r⟩:=Gb A hl
  obtain ⟨a',ea',rfl⟩:=rw.ref_of A
  rw[ea] at ea';cases ea'
  obtain ⟨rfl,f1⟩:=Aac ru e1
  obtain ⟨rfl,f2⟩:=Ur r e2
  exact .inl ⟨a,ys,rfl,.inl sq,f1,f2,q _ H α (.refl _ _) A rfl⟩
 ·split at e
  ·cases e
   unfold RepU at ru rw
   exact .inr ⟨_,_,ru,rw,q _ H α (.refl _ _) A rfl⟩
  ·cases e
 ·cases e
noncomputable def lenU(u:U)(L:UH):Option Nat:=match u with
 | .str y=>if small y.length=true then some y.length else none
 | .tup l=>some l.length
 | .ref n=>(Ao L n).map eW
 | _=>none
noncomputable def Aq:SC:=fun us L=>match us with
 | [u]=>(lenU u L).map fun (n:Nat)=>(U.int (n:Int),L)
 | _=>none
theorem Cc:Px K (fun xs H Q=>∃ x n,xs=[x]/\Aoc K x H n/\Q (.int n) H) Aq:=by
 intro H α L us xs z L' Q A r e q
 unfold Aq at e
 split at e
 ·rename_i u
  obtain ⟨n,e1,e⟩:=aH.mp e
  cases e
  obtain ⟨x,rfl,rx⟩:=r.one
  refine ⟨x,n,rfl,?_,q _ H α (.refl _ _) A rfl⟩
  cases u with
  | str y=>
   unfold lenU at e1
   simp only at e1
   split at e1
   ·rename_i hs;cases e1;unfold RepU at rx;subst rx;exact ⟨Fb hs,rfl⟩
   ·cases e1
  | tup l=>
   cases e1
   unfold RepU at rx
   obtain ⟨a,ys,rfl,sq,r2⟩:=rx
   exact .inr ⟨ys,sq,r2.length⟩
  | ref k=>
   obtain ⟨l,hl,e2⟩:=aH.mp e1
   subst e2
   obtain ⟨a,ys,ea,sq,r2⟩:=Gb A hl
   obtain ⟨a',ea',rfl⟩:=rx.ref_of A
   rw[ea] at ea';cases ea'
   exact .inl ⟨ys,sq,r2.length⟩
  | _=>cases e1
 ·cases e
noncomputable def toI:U->Option Int
 | .int i=>some i
 | _=>none
theorem Gi:∀ {us:List U} {xs:List V} {ns:List Int},RepL K H α us xs->mapO toI us=some ns->xs=ns.map V.int
 | [],xs,ys,r,h=>by unfold RepL at r;subst r;cases h;rfl
 | u::us,xs,ys,r,h=>by
  unfold RepL at r
  obtain ⟨x,xr,rfl,r1,r2⟩:=r
  obtain ⟨y,e1,h⟩:=aB.mp h
  obtain ⟨yr,e2,h⟩:=aH.mp h
  subst h
  cases u <;> simp only[toI] at e1 <;> first
   | (cases e1;unfold RepU at r1;subst r1;rw[Gi r2 e2];rfl)
   | cases e1
noncomputable def Ks:List Int->Int
 | []=>0
 | [a]=>a
 | a::r=>max a (Ks r)
theorem Nc:∀ (ns:List Int) (M:Int),M∈ns->(∀ a,a∈ns->a<=M)->Ks ns=M
 | [],M,h,_=>by cases h
 | [a],M,h,_=>by simp at h;exact h.symm
 | a::b::r,M,h,hm=>by
  show max a (Ks (b::r))=M
  by_cases hb:M∈b::r
  ·rw[Nc (b::r) M hb fun c hc=>hm c (aK _ hc)]
   have:=hm a (aT ..)
   omega
  ·rcases bH.mp h with rfl | h
   ·have hle:∀ (l:List Int),l≠[]->(∀ c,c∈l->c<=M)->Ks l<=M:=by
     intro l
     induction l with
     | nil=>intro h;exact absurd rfl h
     | cons c t ih=>
      intro _ hc
      cases t with
      | nil=>exact hc c (aT ..)
      | cons d t=>
       have h1:=hc c (aT ..)
       have h2:=ih (by simp) fun e he=>hc e (aK _ he)
       show max c (Ks (d::t))<=M
       omega
    have:=hle (b::r) (by simp) fun c hc=>hm c (aK _ hc)
    omega
   ·exact absurd h hb
section
theorem Aed(hc:X.calm=true):CallR X (.builtin "sum") (fun xs H Q=>∃ (p:Addr) (ns:List Int),xs=[.ref p]/\SqL X.K H p (ns.map V.int)/\Q (.int ns.sum) H):=by
 intro pins s σ H xs us Q I r h
 obtain ⟨p,ns,rfl,hq,q⟩:=h
 obtain ⟨u,rfl,rx⟩:=Gz r
 cases rx
 obtain ⟨its,r',pl,hz⟩:=I.list hq
 have hi:fX its ns:=Dx r'
 obtain ⟨m,F⟩:=I.fr
 obtain ⟨xs,hx⟩:=hi.allInts.items
 have hl':s.heap.IsList p (intItems xs):=hx ▸ pl.isList
 refine sum_intListG (I.ok.hd hc) hl' fun h' tk t' hk=>?_
 have e1:ns=xs.toList.map (·.1):=by
  rw[<- pE,<- hx]
  exact (show numsOf its.toArray.toList=ns from hi.numsOf).symm
 have e2:preSum (numAt xs) xs.size=ns.sum:=by
  rw[preSum_eq,fZ (by simp),e1]
 rw[e2]
 exact ⟨.int ns.sum,H,I.kept hk,⟨_,rfl⟩,q⟩
theorem Acy(hc:X.calm=true):CallR X (.builtin "sum") (fun xs H Q=>∃ (p:Addr) (ns:List Int),xs=[.ref p]/\SqT X.K H p (ns.map V.int)/\Q (.int ns.sum) H):=by
 intro pins s σ H xs us Q I r h
 obtain ⟨p,ns,rfl,hq,q⟩:=h
 obtain ⟨u,rfl,rx⟩:=Gz r
 cases rx
 obtain ⟨its,r',pl,hz⟩:=I.tuple hq
 have hi:fX its ns:=Dx r'
 obtain ⟨xs,hx⟩:=hi.allInts.items
 have hl':s.heap.IsTuple p (intItems xs):=hx ▸ pl
 refine PySem.W.ktm_sumG (I.ok.hd hc) hl' fun h' tk t' hk=>?_
 have e1:ns=xs.toList.map (·.1):=by
  rw[<- pE,<- hx]
  exact (show numsOf its.toArray.toList=ns from hi.numsOf).symm
 have e2:preSum (numAt xs) xs.size=ns.sum:=by
  rw[preSum_eq,fZ (by simp),e1]
 rw[e2]
 exact ⟨.int ns.sum,H,I.kept hk,⟨_,rfl⟩,q⟩
theorem Me(hc:X.calm=true):CallR X (.builtin "sum") (fun xs H Q=>(∃ (p:Addr) (ns:List Int),xs=[.ref p]/\SqL X.K H p (ns.map V.int)/\Q (.int ns.sum) H)\/∃ (p:Addr) (ns:List Int),xs=[.ref p]/\SqT X.K H p (ns.map V.int)/\Q (.int ns.sum) H):=(Aed hc).or (Acy hc)
theorem Aee(hc:X.calm=true):CallR X (.builtin "max") (fun xs H Q=>∃ (p:Addr) (ns:List Int),xs=[.ref p]/\SqL X.K H p (ns.map V.int)/\0 < ns.length/\Q (.int (Ks ns)) H):=by
 intro pins s σ H xs us Q I r h
 obtain ⟨p,ns,rfl,hq,hne,q⟩:=h
 obtain ⟨u,rfl,rx⟩:=Gz r
 cases rx
 obtain ⟨its,r',pl,hz⟩:=I.list hq
 have hi:fX its ns:=Dx r'
 obtain ⟨xs,e⟩:=hi.allInts.items
 have hns:ns=xs.toList.map (·.1):=by rw[<- hi.numsOf,<- pE,<- e]
 have hsz:0 < xs.size:=by
  have h3:=hne;rw[hns,aQ,dA] at h3;exact h3
 have hl':s.heap.IsList p (intItems xs):=e ▸ pl.isList
 refine max_intList (I.ok.hd hc) hl' hsz fun v h' tk hv hk=>?_
 obtain ⟨t,rfl⟩:=intItems_at hv
 obtain ⟨h1,h2⟩:=argBest_gt (numAt xs) (xs.size - 1)
 have hM:=Nc ns (numAt xs (argBest (fun i j=>decide (numAt xs i > numAt xs j)) (xs.size - 1))) (by rw[hns,numAt_eq];exact getD_mem (by rw[aQ,dA];omega)) (fun a ha=>by
  rw[hns] at ha
  obtain ⟨j,hj,rfl⟩:=mem_getD ha
  rw[aQ,dA] at hj
  rw[<- numAt_eq];exact h2 j (by omega))
 rw[hM] at q
 exact ⟨.int _,H,I.kept hk,⟨_,rfl⟩,q⟩
end
noncomputable def E7:SC:=fun us L=>match us with
 | [.ref n]=>(Ao L n).bind fun l=>(mapO toI l).map fun ns=>(.int ns.sum,L)
 | [.tup l]=>(mapO toI l).map fun ns=>(.int ns.sum,L)
 | _=>none
theorem Iy(A:Abs K H α L)(hl:Ao L n=some l)(rx:RepU K H α (.ref n) x):∃ a ys,x = .ref a/\SqL K H a ys/\RepL K H α l ys:=by
 obtain ⟨a,ys,ea,sq,r2⟩:=Gb A hl
 obtain ⟨a',ea',rfl⟩:=rx.ref_of A
 rw[ea] at ea';cases ea'
 exact ⟨a,ys,rfl,sq,r2⟩
theorem Qc:Px K (fun xs H Q=>(∃ (p:Addr) (ns:List Int),xs=[.ref p]/\SqL K H p (ns.map V.int)/\Q (.int ns.sum) H)\/∃ (p:Addr) (ns:List Int),xs=[.ref p]/\SqT K H p (ns.map V.int)/\Q (.int ns.sum) H) E7:=by
 intro H α L us xs z L' Q A r e q
 unfold E7 at e
 split at e
 ·obtain ⟨l,hl,e⟩:=aB.mp e
  obtain ⟨ns,e1,e⟩:=aH.mp e
  cases e
  obtain ⟨x,rfl,rx⟩:=r.one
  obtain ⟨a,ys,rfl,sq,r2⟩:=Iy A hl rx
  rw[Gi r2 e1] at sq
  exact .inl ⟨a,ns,rfl,sq,q _ H α (.refl _ _) A rfl⟩
 ·obtain ⟨ns,e1,e⟩:=aH.mp e
  cases e
  obtain ⟨x,rfl,rx⟩:=r.one
  unfold RepU at rx
  obtain ⟨a,ys,rfl,sq,r2⟩:=rx
  rw[Gi r2 e1] at sq
  exact .inr ⟨a,ns,rfl,sq,q _ H α (.refl _ _) A rfl⟩
 ·cases e
noncomputable def Abr(g2:Int->Int->Int)(gl:List Int->Int):SC:=fun us L=>match us with
 | [.int i,.int j]=>some (.int (g2 i j),L)
 | [.ref n]=>(Ao L n).bind fun l=>(mapO toI l).bind fun ns=>if ns.isEmpty=true then none else some (.int (gl ns),L)
 | _=>none
noncomputable def Kg:SC:=Abr (fun i j=>if j > i then j else i) Ks
theorem Anm{g2:Int->Int->Int}{gl:List Int->Int}:Px K (fun xs H Q=>(∃ i j,xs=[.int i,.int j]/\Q (.int (g2 i j)) H)\/∃ (p:Addr) (ns:List Int),xs=[.ref p]/\SqL K H p (ns.map V.int)/\0 < ns.length/\Q (.int (gl ns)) H) (Abr g2 gl):=by
 intro H α L us xs z L' Q A r e q
 unfold Abr at e
 split at e
 ·cases e
  obtain ⟨x,y,rfl,rx,ry⟩:=r.two
  unfold RepU at rx ry
  exact .inl ⟨_,_,by rw[rx,ry],q _ H α (.refl _ _) A rfl⟩
 ·obtain ⟨l,hl,e⟩:=aB.mp e
  obtain ⟨ns,e1,e⟩:=aB.mp e
  split at e
  ·cases e
  ·rename_i hne
   cases e
   obtain ⟨x,rfl,rx⟩:=r.one
   obtain ⟨a,ys,rfl,sq,r2⟩:=Iy A hl rx
   rw[Gi r2 e1] at sq
   exact .inr ⟨a,ns,rfl,sq,by cases ns <;> simp_all,q _ H α (.refl _ _) A rfl⟩
 ·cases e
theorem Ma(hc:X.calm=true):CallR X (.builtin "max") (fun xs H Q=>(∃ i j,xs=[.int i,.int j]/\Q (.int (if j > i then j else i)) H)\/∃ (p:Addr) (ns:List Int),xs=[.ref p]/\SqL X.K H p (ns.map V.int)/\0 < ns.length/\Q (.int (Ks ns)) H):=(Adm hc).or (Aee hc)
theorem Qh:Px K (fun xs H Q=>(∃ i j,xs=[.int i,.int j]/\Q (.int (if j > i then j else i)) H)\/∃ (p:Addr) (ns:List Int),xs=[.ref p]/\SqL K H p (ns.map V.int)/\0 < ns.length/\Q (.int (Ks ns)) H) Kg:=Anm
noncomputable def Jy:SC:=fun us L=>match us with
 | [.int i]=>some (.int (if i < 0 then -i else i),L)
 | _=>none
theorem U7:Px K (fun xs H Q=>∃ i,xs=[.int i]/\Q (.int (if i < 0 then -i else i)) H) Jy:=by
 intro H α L us xs z L' Q A r e q
 unfold Jy at e
 split at e
 ·cases e
  obtain ⟨x,rfl,rx⟩:=r.one
  unfold RepU at rx
  exact ⟨_,by rw[rx],q _ H α (.refl _ _) A rfl⟩
 ·cases e
noncomputable def Jz:SC:=fun us L=>match us with
 | [.int i]=>some (.int i,L)
 | [.bl k]=>some (.int (if k then 1 else 0),L)
 | _=>none
theorem Abq:Px K (fun xs H Q=>(∃ i,xs=[.int i]/\Q (.int i) H)\/∃ k,xs=[.bl k]/\Q (.int (if k then 1 else 0)) H) Jz:=by
 intro H α L us xs z L' Q A r e q
 unfold Jz at e
 split at e
 ·cases e
  obtain ⟨x,rfl,rx⟩:=r.one
  unfold RepU at rx
  exact .inl ⟨_,by rw[rx],q _ H α (.refl _ _) A rfl⟩
 ·cases e
  obtain ⟨x,rfl,rx⟩:=r.one
  unfold RepU at rx
  exact .inr ⟨_,by rw[rx],q _ H α (.refl _ _) A rfl⟩
 ·cases e
noncomputable def C5:SC:=fun us L=>match us with
 | [.ref n]=>(Ao L n).map fun l=>(.tup l,L)
 | [.tup l]=>some (.tup l,L)
 | _=>none
theorem Je:Px K (fun xs H Q=>∃ p ys,xs=[.ref p]/\((SqL K H p ys/\∀ l,H l=none->Q (.ref l) (upd H l (.tup ys)))\/(SqT K H p ys/\Q (.ref p) H))) C5:=by
 intro H α L us xs z L' Q A r e q
 unfold C5 at e
 split at e
 ·obtain ⟨l,hl,e⟩:=aH.mp e
  cases e
  obtain ⟨x,rfl,rx⟩:=r.one
  obtain ⟨a,ys,rfl,sq,r2⟩:=Iy A hl rx
  refine ⟨a,ys,rfl,.inl ⟨sq,fun p hp=>?_⟩⟩
  obtain ⟨g,A',r'⟩:=A.tup r2 hp
  exact q _ _ _ g A' r'
 ·cases e
  obtain ⟨x,rfl,rx⟩:=r.one
  have rx':=rx
  unfold RepU at rx
  obtain ⟨a,ys,rfl,sq,r2⟩:=rx
  exact ⟨a,ys,rfl,.inr ⟨sq,q _ H α (.refl _ _) A rx'⟩⟩
 ·cases e
noncomputable def Cy:SM:=fun u us L=>match u,us with
 | .ref n,[y]=>(Fu L n).bind fun l=>if decide (l.length < sizeLine)=true then some (.non,L.set n (.lst (l++[y]))) else none
 | _,_=>none
theorem Jx(A:Abs K H α L)(hl:Fu L n=some l)(rx:RepU K H α (.ref n) x):∃ a ys,x = .ref a/\α[n]? = some a/\H a=some (.lst ys)/\RepL K H α l ys:=by
 obtain ⟨a,ys,ea,sq,r2⟩:=N8 A hl
 obtain ⟨a',ea',rfl⟩:=rx.ref_of A
 rw[ea] at ea';cases ea'
 exact ⟨a,ys,rfl,ea,sq,r2⟩
theorem Hz:Vq K Abi Cy:=by
 intro H α L u us x xs z L' Q A ru r e q
 unfold Cy at e
 split at e
 ·obtain ⟨l,hl,e⟩:=aB.mp e
  split at e
  ·rename_i hs
   cases e
   obtain ⟨y,rfl,ry⟩:=r.one
   obtain ⟨a,ys,rfl,ea,h,r2⟩:=Jx A hl ru
   obtain ⟨g,A'⟩:=A.setL hl ea h (r2.append (.cons ry .nil))
   exact ⟨a,ys,y,rfl,rfl,h,by rw[<- r2.length];exact of_decide_eq_true hs,q _ _ _ g A' rfl⟩
  ·cases e
 ·cases e
noncomputable def O1:SM:=fun u us L=>match u,us with
 | .ref n,[.int i]=>(Fu L n).bind fun l=>if -(2 ^ 63)<=i/\i < 2 ^ 63 then (seqIndex? i l.length).bind fun k=>(l[k]?).map fun y=>(y,L.set n (.lst (l.eraseIdx k))) else none
 | _,_=>none
theorem Ajl:Vq K Af8 O1:=by
 intro H α L u us x xs z L' Q A ru r e q
 unfold O1 at e
 split at e
 ·obtain ⟨l,hl,e⟩:=aB.mp e
  split at e
  ·rename_i hs
   obtain ⟨k,ek,e⟩:=aB.mp e
   obtain ⟨y,ey,e⟩:=aH.mp e
   cases e
   obtain ⟨v,rfl,rv⟩:=r.one
   unfold RepU at rv
   subst rv
   obtain ⟨a,ys,rfl,ea,h,r2⟩:=Jx A hl ru
   obtain ⟨w,ew,rw⟩:=r2.get ey
   obtain ⟨g,A'⟩:=A.setL hl ea h (r2.erase k)
   exact ⟨a,ys,_,k,w,rfl,rfl,h,hs.1,hs.2,by rw[<- r2.length];exact ek,ew,q _ _ _ g A' (rw.mono g)⟩
  ·cases e
 ·cases e
noncomputable def gSub(fo fi:FE):FG:=fun v δ L=>(fo δ L).bind fun p=>(fi δ p.2).bind fun q=>match p.1,q.1 with
 | .ref n,.int k=>(Fu q.2 n).bind fun l=>(ixN l.length k).map fun j=>(δ,q.2.set n (.lst (l.set j v)))
 | _,_=>none
theorem Aak{o i:Expr}{fo fi:FE}(ho:PEF X o fo)(hi:PEF X i fi)(ha:∀ v,assign (.Subscript o i pos) X.env v=(do let ov <- holding [v] (eval o X.env);let iv <- holding [v,ov] (eval i X.env);standAt pos;holding [v,ov,iv] (setItem ov iv v);release [v,ov,iv] []):=by intro _;rfl):PGF X (.Subscript o i pos) (MR.gSub fo fi):=by
 refine PG.imp (Aky ho hi Ag1 ha) ?_
 rintro v σ H Q ⟨α,δ,L,u,A,S,r,δ',L',e,q⟩
 obtain ⟨⟨o',L1⟩,e1,e⟩:=aB.mp e
 obtain ⟨⟨i',L2⟩,e2,e⟩:=aB.mp e
 refine ⟨α,δ,L,A,S,o',L1,e1,fun x H1 α1 g1 A1 r1=>⟨α1,δ,L1,A1,S.mono g1,i',L2,e2,fun y H2 α2 g2 A2 r2=>?_⟩⟩
 simp only at e
 split at e
 ·obtain ⟨l,hl,e⟩:=aB.mp e
  obtain ⟨j,ej,e⟩:=aH.mp e
  cases e
  unfold RepU at r2
  subst r2
  obtain ⟨a,ys,rfl,ea,h,r3⟩:=Jx A2 hl (r1.mono g2)
  obtain ⟨g,A'⟩:=A2.setL hl ea h (r3.set ((r.mono g1).mono g2) j)
  exact ⟨a,ys,_,j,rfl,rfl,h,by rw[<- r3.length];exact ej,q _ _ _ (g1.trans (g2.trans g)) A' (((S.mono g1).mono g2).mono g)⟩
 ·cases e
noncomputable def Mu(u:U)(L:UH):Option String:=match u with
 | .non=>some "NoneType"
 | .bl _=>some "bool"
 | .int _=>some "int"
 | .str _=>some "str"
 | .tup _=>some "tuple"
 | .ref n=>match L[n]? with
  | some (.lst _)=>some "list"
  | some (.ro _)=>some "list"
  | some (.dic _)=>some "dict"
  | _=>none
noncomputable def isT(t c:String):Bool:=t == c || (t == "bool" && c == "int")
noncomputable def Uw:List String:=["NoneType","bool","int","str","tuple","list","dict"]
noncomputable def Kit(K:aJ)(c:String):Prop:=∀ t∈Uw,fD K (.type t) (.type c)=some (isT t c)
theorem Vu{c:String}(h1:fD K (.type "NoneType") (.type c)=some (isT "NoneType" c))(h2:fD K (.type "bool") (.type c)=some (isT "bool" c))(h3:fD K (.type "int") (.type c)=some (isT "int" c))
  (h4:fD K (.type "str") (.type c)=some (isT "str" c)) (h5:fD K (.type "tuple") (.type c)=some (isT "tuple" c)) (h6:fD K (.type "list") (.type c)=some (isT "list" c)) (h7:fD K (.type "dict") (.type c)=some (isT "dict" c)):Kit K c:=by
 intro t ht
 simp only[Uw,bH,eB,or_false] at ht
 rcases ht with rfl | rfl | rfl | rfl | rfl | rfl | rfl <;> assumption
theorem Ag9:Kit K "bool" := Vu (by with_unfolding_all rfl) (by with_unfolding_all rfl) (by with_unfolding_all rfl) (by with_unfolding_all rfl) (by with_unfolding_all rfl) (by with_unfolding_all rfl) (by with_unfolding_all rfl)
theorem Ajq:Kit K "int" := Vu (by with_unfolding_all rfl) (by with_unfolding_all rfl) (by with_unfolding_all rfl) (by with_unfolding_all rfl) (by with_unfolding_all rfl) (by with_unfolding_all rfl) (by with_unfolding_all rfl)
theorem Aay:Kit K "str" := Vu (by with_unfolding_all rfl) (by with_unfolding_all rfl) (by with_unfolding_all rfl) (by with_unfolding_all rfl) (by with_unfolding_all rfl) (by with_unfolding_all rfl) (by with_unfolding_all rfl)
theorem Ua:Kit K "tuple" := Vu (by with_unfolding_all rfl) (by with_unfolding_all rfl) (by with_unfolding_all rfl) (by with_unfolding_all rfl) (by with_unfolding_all rfl) (by with_unfolding_all rfl) (by with_unfolding_all rfl)
noncomputable def TyV(K:aJ)(H:Hp)(x:V)(t:String):Prop:=match x with
 | .non=>t = "NoneType"
 | .bl _=>t = "bool"
 | .int _=>t = "int"
 | .str _=>t = "str"
 | .ref a=>(t = "list" /\ ∃ xs,SqL K H a xs)\/(t = "tuple" /\ ∃ xs,SqT K H a xs)\/(t = "dict" /\ ∃ kvs,H a=some (.dK kvs))
 | _=>False
theorem Aez{c:String}:CallR X (.builtin "isinstance") (fun xs H Q=>∃ x t b,xs=[x,.ty c]/\TyV X.K H x t/\fD X.K (.type t) (.type c)=some b/\Q (.bl b) H):=by
 intro pins s σ H xs us Q I r h
 obtain ⟨x,t,b,rfl,ty,e,q⟩:=h
 obtain ⟨u,w',rfl,rx,ry⟩:=Tu r
 cases ry
 have fin:∀ tk,EP X pins σ Q (.bool b) { s with toks:=tk }:=fun tk=>⟨.bl b,H,I.tok _,rfl,q⟩
 cases x with
 | non=>cases ty;exact Ji I rx (.non) e fin
 | bl y=>cases ty;exact Ji I rx (.bl y) e fin
 | int y=>cases ty;exact Ji I rx (.int y) e fin
 | str y=>cases ty;exact Ji I rx (.str y) e fin
 | ref a=>
  cases (show u=eD a from rx)
  rcases ty with ⟨rfl,ys,sq⟩ | ⟨rfl,ys,sq⟩ | ⟨rfl,kvs,ea⟩
  ·obtain ⟨its,_,⟨o,n,h1,h2,_⟩,_⟩:=I.list sq
   exact dY mI I.kIn ⟨o,h1,h2⟩ e (fun z=>nomatch z) fin
  ·obtain ⟨its,_,⟨o,h1,h2,_⟩,_⟩:=I.tuple sq
   exact dY pJ I.kIn ⟨o,h1,h2⟩ e (fun z=>nomatch z) fin
  ·exact Ji I rx (.dK ea) e fin
 | byt y=>cases ty
 | flt y=>cases ty
 | ty y=>cases ty
theorem Ada{t:String}(A:Abs K H α L)(r:RepU K H α u x)(h:Mu u L=some t):TyV K H x t/\t∈Uw:=by
 cases u with
 | non=>unfold RepU at r;subst r;cases h;exact ⟨rfl,by decide⟩
 | bl b=>unfold RepU at r;subst r;cases h;exact ⟨rfl,by decide⟩
 | int i=>unfold RepU at r;subst r;cases h;exact ⟨rfl,by decide⟩
 | str y=>unfold RepU at r;subst r;cases h;exact ⟨rfl,by decide⟩
 | tup l=>unfold RepU at r;obtain ⟨a,xs,rfl,sq,_⟩:=r;cases h;exact ⟨.inr (.inl ⟨rfl,xs,sq⟩),by decide⟩
 | ref n=>
  unfold RepU at r
  obtain ⟨a,ea,rfl⟩:=r
  unfold Mu at h
  simp only at h
  split at h
  ·rename_i e;cases h;obtain ⟨xs,h,_⟩:=A.rep n a _ ea e;exact ⟨.inl ⟨rfl,xs,.of h⟩,by decide⟩
  ·rename_i e;cases h;obtain ⟨xs,h,_⟩:=A.rep n a _ ea e;exact ⟨.inl ⟨rfl,xs,h.sq⟩,by decide⟩
  ·rename_i e;cases h;obtain ⟨xs,h,_⟩:=A.rep n a _ ea e;exact ⟨.inr (.inr ⟨rfl,xs,h⟩),by decide⟩
  ·cases h
noncomputable def Xg(c:String)(f:FE):FE:=fun δ L=>(f δ L).bind fun p=>(Mu p.1 p.2).map fun t=>(.bl (isT t c),p.2)
theorem Oy{p p2:Pos}{cn:Str}{c:String}(hk:Kit X.K c)(he:PEF X e fe)(hg:Gl X "isinstance")(hm:X.mg "isinstance" = none)(hg2:Gl X cn)(hm2:X.mg cn=none)(hv2:eZ cn=some (.type c))
  (hn:cn ≠ "__name__" := by decide) (hdb:(cn == ("__debug__" : Str))=false:=by decide)
  (hs:bQ [e,.Name cn p2] X.env=(false,eval e X.env)::bQ [.Name cn p2] X.env:=by rfl) (hs2:bQ [.Name cn p2] X.env=(false,eval (.Name cn p2) X.env)::bQ [] X.env:=by rfl)
  (hpl:(backTo pos (bQ [.Name cn p2] X.env)).any (·.1)=false:=by rfl):PEF X (.Call (.Name "isinstance" p) [e,.Name cn p2] [] pos) (Xg c fe):=by
 refine PE.imp (Xh (Aez (c:=c)) hg hm (by decide +kernel) (Qb he (Qb (Aii hg2 hm2 hv2 (v:=.ty c) rfl hn hdb) Yl hs2) hs) (by decide) (by decide) hs hpl) ?_
 rintro σ H Q ⟨α,δ,L,A,S,z,L3,e,q⟩
 obtain ⟨⟨u,L1⟩,e1,e⟩:=aB.mp e
 obtain ⟨t,e2,e⟩:=aH.mp e
 cases e
 refine ⟨α,δ,L,A,S,u,_,e1,fun x H1 α1 g1 A1 r1=>?_⟩
 obtain ⟨h1,h2⟩:=Ada A1 r1 e2
 exact ⟨x,t,_,rfl,h1,hk t h2,q _ H1 α1 g1 A1 rfl⟩
noncomputable def Ae7(H:Hp):Prop:=∀ b,H b=none\/(∃ o xs,H b=some (.frz o (.lst xs)))\/∃ ps,H b=some (.tbl ps)
theorem Only.t(h:Only H):Ae7 H:=fun b=>(h b).elim .inl fun z=>.inr (.inl z)
theorem Al3{F:FN}{ns:List Int}{E:XK}(ho:Ae7 H)(hT:∀ nm∈Gn,∀ c P,cZ K nm=some (c,P)->GoodTab H P (Mg nm))(hS:SqL K H a (ns.map V.int))(h:∃ L',F [.ref 0] [.ro (ns.map U.int)]=some (.bl true,L')):spF K 1 F [.ref a] H (fun v _=>v = .bl true) E:=by
 obtain ⟨L',e⟩:=h
 have ro:RO K H a (ns.map V.int):=by
  rcases hS with (q | ⟨o,q⟩) | q
  ·rcases ho a with z | ⟨o,xs,z⟩ | ⟨ps,z⟩
   ·rw[z] at q;cases q
   ·rw[z] at q;cases q
   ·rw[z] at q;cases q
  ·exact .inl ⟨o,q⟩
  ·exact .inr q
 refine ⟨[a],[.ro (ns.map U.int)],[.ref 0],⟨rfl,fun i j b o o' e1 e2 e3 e4=>?_,fun i b o e1 e2=>?_,hT⟩,.cons ?_ .nil,rfl,.bl true,L',e,fun v H' α' _ _ r=>r⟩
 ·cases i with
  | zero=>cases j with
   | zero=>exact .inl rfl
   | succ j=>simp at e2
  | succ i=>simp at e1
 ·cases i with
  | zero=>simp at e1 e2;subst e1;subst e2;exact ⟨_,ro,RepL.ints ns⟩
  | succ i=>simp at e1
 ·unfold RepU;exact ⟨a,rfl,rfl⟩
theorem Mw(env:jS):∀ (names:List (Str×iN)) (cs:List (Str×Addr)),(∀ y∈names,y.2 = .free->∃ c,env.cells.lookup y.1=some c)->(∀ x c,cs.lookup x=some c->env.cells.lookup x=some c) ->
  ∃ cl:List (Str×Addr),(forIn names cs fun (x:Str×iN) r=>if (x.2 == iT)=true then do let c <- cellOf env x.1;pure (iQ ((x.1,c)::r)) else pure (iQ r):Sem (List (Str×Addr)))=pure cl /\
   (∀ x c,cl.lookup x=some c->env.cells.lookup x=some c)/\(∀ y∈names,y.2 = .free->∃ c,cl.lookup y.1=some c)/\∀ x,(∃ c,cs.lookup x=some c)->∃ c,cl.lookup x=some c
 | [],cs,_,h2=>⟨cs,rfl,h2,(fun _ h=>nomatch h),fun _ h=>h⟩
 | (n,k)::r,cs,h1,h2=>by
  cases hk:k == iT with
  | true=>
   have hk':k = .free:=by simpa using hk
   obtain ⟨c,hc⟩:=h1 (n,k) (aT ..) hk'
   have look:∀ x c',List.lookup x ((n,c)::cs)=some c'->env.cells.lookup x=some c':=fun x c' e=>by
    rw[cA] at e
    cases hx:x == n with
    | true => rw [hx] at e; simp at e; subst e; have : x = n := by simpa using hx
              rw[this];exact hc
    | false=>rw[hx] at e;exact h2 x c' e
   obtain ⟨cl,e,p1,p2,p3⟩:=Mw env r ((n,c)::cs) (fun y hy=>h1 y (aK _ hy)) look
   refine ⟨cl,?_,p1,fun y hy hf=>?_,fun x hx=>?_⟩
   ·rw[kR]
    have e0:(cellOf env n:Sem Addr)=pure c:=by unfold cellOf;rw[hc]
    simp only[hk,if_true,e0]
    exact e
   ·rcases bH.mp hy with rfl | hy
    ·exact p3 n ⟨c,by simp⟩
    ·exact p2 y hy hf
   ·refine p3 x ?_
    rw[cA]
    cases hx':x == n with
    | true=>exact ⟨c,rfl⟩
    | false=>exact hx
  | false=>
   obtain ⟨cl,e,p1,p2,p3⟩:=Mw env r cs (fun y hy=>h1 y (aK _ hy)) h2
   refine ⟨cl,?_,p1,fun y hy hf=>?_,p3⟩
   ·rw[kR]
    simp only[hk,bK,if_false]
    exact e
   ·rcases bH.mp hy with rfl | hy
    ·rw[show k=iT from hf] at hk;cases hk
    ·exact p2 y hy hf
variable {scope:jA}{env:jS}
theorem Mj(h:∀ y∈scope.names,y.2 = .free->∃ c,env.cells.lookup y.1=some c) :
  ∃ cl,closureFor scope env=pure cl/\(∀ x c,cl.lookup x=some c->env.cells.lookup x=some c)/\∀ y∈scope.names,y.2 = .free->∃ c,cl.lookup y.1=some c:=by
 obtain ⟨cl,e,p1,p2,_⟩:=Mw env scope.names [] h (fun x c e=>by simp at e)
 refine ⟨cl,?_,p1,p2⟩
 unfold closureFor
 show (forIn scope.names [] _ >>= fun cs=>pure cs)=pure cl
 have:(forIn scope.names ([]:List (Str×Addr)) (fun (x:Str×iN) (r:List (Str×Addr))=>if (x.2 == iT)=true then do let c <- cellOf env x.1;pure (iQ ((x.1,c)::r)) else pure (iQ r)):Sem (List (Str×Addr))) >>= (fun cs=>pure cs)=pure cl:=by rw[e];rfl
 exact this
noncomputable def blk(X:Cx)(scope:jA)(cl:List (Str×Addr))(C:Addr)(N':List Str)(s2:aR)(H2:Hp)(fp:List Addr)(pins:List (Addr×Obj)):Cx:=
 { X with env:=compEnvC scope cl C X.env,N:=N',s₀:=s2,H₀:=H2,outer:=X.stack,ex:=fp,fn:=fun _=>false,pn:=X.pn++pins,xe:=fun _ _=>False }
theorem HOk.adopt{h:Heap}(x:HOk P w H h)(hn:H a=none)(new:ObjOk P w (upd H a o) h a o):HOk P w (upd H a o) h:=fun b u e=>by
 by_cases hb:b=a
 ·subst hb;rw[upd_same] at e;cases e;exact new
 ·rw[Ap hb] at e
  exact (x b u e).stay (fun c v _ q=>q) (fun c q=>by rw[Ap (Bc q hn)];exact q) fun c xs q=>by rw[Ap (Bc q hn)];exact q
theorem Un.adopt{fs ex:List Addr}{h h1:Heap}(u:Un fs ex H H1 h h1)(hn:H1 a=none)(ha:h.get? a=none):Un fs ex H (upd H1 a o) h h1 where
 keep:=u.keep
 slot:=u.slot
 free:=fun b ob q n hx=>by
  have:b≠a:=fun z=>by rw[z,ha] at q;cases q
  rw[Ap this];exact u.free b ob q n hx
 there:=u.there
 tups:=fun b xs q=>by have q':=u.tups b xs q;rw[Ap (Bc q' hn)];exact q'
 frzs:=fun b ob xs q=>by have q':=u.frzs b ob xs q;rw[Ap (Bc q' hn)];exact q'
 tbls:=fun b ps q=>by
  obtain ⟨m,q'⟩:=u.tbls b ps q
  exact ⟨m,by rw[Ap (Bc q' hn)];exact q'⟩
structure CompSc(X:Cx)(scope:jA)(N':List Str)(ix:List (Option Nat)):Prop where
 kind:scope.kind = .function
 cell:(scope.names.all fun y=>y.2 != .cell)=true
 loc:(scope.names.all fun y=>y.2 != .local || scope.names.lookup y.1 == some .local)=true
 free:(scope.names.all fun y=>y.2 != .free || (X.env.kindOf y.1 == some .cell || X.env.kindOf y.1 == some .free))=true
 ixs:((N'.zip ix).all fun p=>match p.2 with | none=>true | some i=>(X.N[i]? == some p.1)&&(scope.names.lookup p.1 == some .free))=true
 len:N'.length=ix.length
noncomputable def inner(ix:List (Option Nat))(σ:L2.St):L2.St:=ix.map fun o=>o.bind fun i=>(σ[i]?).join
noncomputable def Aaz(J:It)(g:TG)(tt:TT)(te:TE)(σ':L2.St)(H:Hp)(Fin:List V->Hp->Prop):Prop:=∃ W:Nat->Nat->List V->L2.St->Hp->Prop,(∃ m,W 0 m [] σ' H)/\∀ i m acc σ1 H1,W i m acc σ1 H1 ->
 (J.stop i H1/\Fin acc H1)\/(J.go i H1/\∀ x H3,J.yld i H1 x H3->g x σ1 H3 fun σ2 H4=>tt σ2 H4 fun b H5=>
  if b=true then te σ2 H5 fun y H6=>acc.length < sizeLine/\∃ m',m' < m/\W (i+1) m' (acc++[y]) σ2 H6 else ∃ m',m' < m/\W (i+1) m' acc σ2 H5)
variable {s2:aR}{N':List Str}{ix:List (Option Nat)}{cl:List (Str×Addr)}{fp:List Addr}
section
theorem B8{β:Type}{x:Str}{v:β}:∀ {l:List (Str×β)},l.lookup x=some v->(x,v)∈l
 | [],h=>by simp at h
 | (n,k)::r,h=>by
  rw[cA] at h
  cases hx:x == n with
  | true => rw [hx] at h; simp at h; have : x = n := by simpa using hx
            subst this;subst h;exact aT ..
  | false=>rw[hx] at h;exact aK _ (B8 h)
theorem Eo{env:jS}{x:Str}:∀ {names:List (Str×iN)} {k:iN},(names.map fun (n,k)=>if (k == iT&&env.scope.kind == .function&&env.kindOf n == some .cell) then (n,fN) else (n,k)).lookup x=some k ->
  names.lookup x=some k\/(names.lookup x=some .free/\k = .cell)
 | [],k,h=>by simp at h
 | (n,k')::r,k,h=>by
  have ih:=@Eo env x r k
  rw[aW] at h
  cases hx:x == n with
  | true=>
   rw[cA,hx]
   simp only at h ⊢
   split at h
   ·rename_i hc
    rw[cA,hx] at h
    simp at h
    simp only[cG] at hc
    have:k' = .free:=by simpa using hc.1.1
    subst this
    exact .inr ⟨rfl,h.symm⟩
   ·rw[cA,hx] at h
    exact .inl h
  | false=>
   rw[cA,hx]
   simp only at h ⊢
   split at h
   ·rw[cA,hx] at h;exact ih h
   ·rw[cA,hx] at h;exact ih h
theorem E6{env:jS}{x:Str}:∀ {names:List (Str×iN)},names.lookup x=some .free ->
  (names.map fun (n,k)=>if (k == iT&&env.scope.kind == .function&&env.kindOf n == some .cell) then (n,fN) else (n,k)).lookup x=some .free\/(names.map fun (n,k)=>if (k == iT&&env.scope.kind == .function&&env.kindOf n == some .cell) then (n,fN) else (n,k)).lookup x=some .cell
 | [],h=>by simp at h
 | (n,k')::r,h=>by
  have ih:=@E6 env x r
  rw[aW]
  cases hx:x == n with
  | true=>
   rw[cA,hx] at h
   simp at h
   subst h
   simp only
   split
   ·right;rw[cA,hx]
   ·left;rw[cA,hx]
  | false=>
   rw[cA,hx] at h
   have:=ih h
   simp only
   split
   ·rw[cA,hx];exact this
   ·rw[cA,hx];exact this
theorem Aeb(S:CompSc X scope N' ix)(hcalm:X.calm=true)(I2:Inv X pins σ H2 s2)(hcl:∀ x c,cl.lookup x=some c->X.env.cells.lookup x=some c)(hcl2:∀ y∈scope.names,y.2 = .free->∃ c,cl.lookup y.1=some c)
  (f2:∀ b∈fp,Gv X pins H2 b) (hfp:∀ b∈fp,b < s2.heap.objs.size) {C:Addr} {h4:Heap} {m:Str->Option aG} {t4:Nat} (hC:s2.heap.objs.size<=C) (hns:h4.Ns C m) (keep:∀ b o,s2.heap.get? b=some o->h4.get? b=some o) :
  Inv (blk X scope cl C N' s2 H2 fp pins) [] (inner ix σ) H2 { s2 with heap:=h4,toks:=t4 }:=by
 have hkindC:(relabel scope X.env).kind = .function:=S.kind
 have ok:(blk X scope cl C N' s2 H2 fp pins).Ok:=
  { mod:=I2.ok.mod
    kind:=hkindC
    glob:=I2.ok.glob
    blt:=I2.ok.blt
    above:=hC
    inj:=fun x y c e1 e2=>I2.ok.inj x y c (hcl x c e1) (hcl y c e2)
    has:=fun x h=>by
     have h':(relabel scope X.env).names.lookup x=some .cell\/(relabel scope X.env).names.lookup x=some .free:=h
     have hfree:scope.names.lookup x=some .free:=by
      rcases h' with h' | h'
      ·rcases Eo h' with q | ⟨q,_⟩
       ·have:=bR.mp S.cell _ (B8 q)
        simp at this
       ·exact q
      ·rcases Eo h' with q | ⟨q,z⟩
       ·exact q
       ·cases z
     exact hcl2 _ (B8 hfree) rfl
    cab:=fun x c h=>by cases h
    hd:=fun _=>I2.ok.hd hcalm
    frames:=I2.ok.frames
    stk:=.inl rfl
    exf:=fun b hb=>⟨cC (bD (hfp b hb) hC),fun x c e=>(f2 b hb).2.2.2.2.1 x c (hcl x c e)⟩
    bs:=fun b o e=>I2.bs b o e
    bsz:=cL I2.ok.bsz I2.sz
    noex:=fun b o e hb=>by
     rcases (f2 b hb).2.2.2.1 with z | z
     ·exact I2.ok.noex b o e z
     ·exact absurd (bD (bF (I2.ok.bs b o e).1) z) (bZ _)
    exfs:=fun b hb z=>by
     rcases bH.mp (I2.stkSub b z) with q | q
     ·exact (f2 b hb).2.1 q
     ·exact (f2 b hb).2.2.1 q
    funs:=I2.stack
    frf:=I2.stkFree }
 obtain ⟨m0,hn0,hl0⟩:=id I2.loc
 refine ⟨ok,rfl,I2.bare,Un.kept keep,⟨m,hns,fun j x v e1 e2 e3=>?_⟩,fun x c e=>?_,I2.hok.fresh hC,fun x c e=>I2.freeC x c (hcl x c e),fun p hp=>?_,I2.hok.kept keep,?_⟩
 ·-- a name that the block takes along
  have e1':N'[j]? = some x:=e1
  have e2':(inner ix σ)[j]? = some (some v):=e2
  unfold inner at e2'
  rw[bO] at e2'
  cases hx:ix[j]? with
  | none=>rw[hx] at e2';simp at e2'
  | some o=>
   rw[hx] at e2'
   cases o with
   | none=>simp at e2'
   | some i=>
    simp at e2'
    have hz:(x,some i)∈N'.zip ix:=bV (i:=j) (by rw[jB];exact ⟨e1',hx⟩)
    have hz':=bR.mp S.ixs _ hz
    simp only[cG,beq_iff_eq] at hz'
    obtain ⟨hXN,hfr⟩:=hz'
    have hσ:σ[i]? = some (some v):=by
     cases q:σ[i]? with
     | none=>rw[q] at e2';simp at e2'
     | some o=>rw[q] at e2';simp at e2';rw[e2']
    have hk:=bR.mp S.free _ (B8 hfr)
    simp at hk
    have hvis:Vis X.env.scope x:=by
     rcases hk with q | q
     ·exact .inr (.inl q)
     ·exact .inr (.inr q)
    obtain ⟨u,r,look⟩:=hl0 i x v hXN hσ hvis
    rcases look with ⟨q,_⟩ | ⟨_,c,ec,hc⟩
    ·rcases hk with z | z
     ·rw[z] at q;cases q
     ·rw[z] at q;cases q
    ·obtain ⟨c',ec'⟩:=hcl2 _ (B8 hfr) rfl
     have:c'=c:=by have:=hcl x c' ec';rw[ec] at this;cases this;rfl
     subst this
     refine ⟨u,r,.inr ⟨?_,c',ec',?_⟩⟩
     ·rcases E6 (env:=X.env) hfr with q | q
      ·exact .inr q
      ·exact .inl q
     ·obtain ⟨oc,ho,hd⟩:=hc
      exact ⟨oc,keep _ _ ho,hd⟩
 ·obtain ⟨v,oc,ho,hd⟩:=I2.cell x c (hcl x c e)
  exact ⟨v,oc,keep _ _ ho,hd⟩
 ·have hp':p∈X.pn++pins:=by simpa[blk] using hp
  obtain ⟨q1,q2,q3,q4,q5⟩:=I2.pin p hp'
  refine ⟨keep _ _ q1,q2,cC (bD (bF q1) hC),fun z=>?_,q5⟩
  rcases bH.mp (I2.stkSub p.1 z) with q | q
  ·exact q3 q
  ·exact q4 q
 ·show (inner ix σ).length=N'.length
  rw[S.len];simp[inner]
end
variable {X':Cx}{tt:TT}{elt:Expr}{ifs:List Expr}{te:TE}
section
noncomputable def Pe(X':Cx)(ifs:List Expr)(tt:TT):Prop:=∀ (pins:List (Addr×Obj)) (s:aR) (σ:L2.St) (H:Hp) (Q:Bool->Hp->Prop) (E:aG->aR->Prop),Inv X' pins σ H s->tt σ H Q->(∀ e s,X'.xe e s->E e s) ->
 wpAny (model X'.prog X'.w) X'.A (forIn ifs true fun c r=>if r=true then do let ok <- isTrue c X'.env (eval c X'.env);pure (iQ ok) else pure (iQ r)) (TP X' pins σ Q) E s
noncomputable def Ah4:TT:=fun _ H Q=>Q true H
theorem T5:Pe X' [] Ah4:=fun pins s σ H Q E I h _=>wpAny_tests_nil ⟨H,I,h⟩
theorem Og(h:PT X' c tt):Pe X' [c] tt:=fun pins s σ H Q E I q hE=>wpAny_tests_one (dN (h pins s σ H Q I q) (fun _ _ z=>z) hE)
noncomputable def Cf(its:List aG)(n:Nat):Obj:={ cls:=.type "list",data:=.seq its.toArray n }
theorem T4{it D C:Addr}{J:It}{tn:Nat->Heap->Prop}{g:TG}{Fin:List V->Hp->Prop}{R:sF->aR->Prop}
  (hX:X'.A=X.A/\X'.prog=X.prog/\X'.w=X.w/\X'.K=X.K/\X'.calm=true/\∀ e s,¬ X'.xe e s) (T:Turn X.prog X.w X.K tg J fp it tn) (hg:PG X' tg g) (ht:Pe X' ifs tt) (he:PE X' elt te)
  (hD1:s2.heap.objs.size<=D) (hDC:D≠C) (hC:s2.heap.objs.size<=C) (hfp:∀ b∈fp,Gv X' [] H2 b/\b≠D) (hDf:∀ H,H D=none->Gv X' [] H D)
  {s:aR} {σ1:L2.St} {H1:Hp} {n0:Nat} (I:Inv X' [(D,Cf [] n0)] σ1 H1 s) (st:tn 0 s.heap) (fr:∀ b∈fp,H1 b=none) (hloop:Aaz J g tt te σ1 H1 Fin)
  (hR:∀ (s':aR) (σ':L2.St) (H':Hp) (acc:List V) (its:List aG) (n:Nat),Inv X' [(D,Cf its n)] σ' H' s'->Vals acc its->acc.length<=sizeLine->Fin acc H'->R (.ok .next) s') :
  kM (model X.prog X.w) X.A (.compLoop (.ListComp elt [⟨tg,iter,ifs,0⟩] scope pos) 0 (.ref it) (.ref D) X'.env) R s:=by
 obtain ⟨W,⟨m0,w0⟩,turn⟩:=hloop
 obtain ⟨hXA,hXp,hXw,hXK,hXc,hxe⟩:=hX
 have hfpo:∀ (o:Obj) (H:Hp),(∀ b∈fp,H b=none)->∀ b∈fp,Gv X' [(D,o)] H b:=fun o H hn b hb=>by
  obtain ⟨⟨_,q1,q2,q3,q4,q5⟩,q6⟩:=hfp b hb
  refine ⟨hn b hb,q1,q2,q3,q4,fun p hp=>?_⟩
  rcases cR.mp hp with z | z
  ·exact q5 p (cO _ z)
  ·have:p=(D,o):=by simpa using z
   rw[this];exact fun z=>q6 z.symm
 refine codeAny_loop rfl (fun n s=>∃ i acc its k σ1 H1,Inv X' [(D,Cf its k)] σ1 H1 s/\Vals acc its/\acc.length<=sizeLine/\tn i s.heap/\(∀ b∈fp,H1 b=none)/\W i n acc σ1 H1) (fun n s hI=>?_) m0 ⟨0,[],[],n0,σ1,H1,I,.nil,gE _,st,fr,w0⟩
 show wpAny _ X.A ((compTurn (.ListComp elt [⟨tg,iter,ifs,0⟩] scope pos) 0 (.ref it) (.ref D) X'.env).onRaise (fun x=>do noteFrame x X'.env;theTreesLotGoes x)) _ _ s
 refine wpAny_noted ?_
 rw[compTurn_list]
 obtain ⟨i,acc,its,k,σ1,H1,I,hv,hz,st,fr,w1⟩:=hI
 refine aD (mM (aD ?_))
 rcases turn i n acc σ1 H1 w1 with ⟨stop,fin⟩ | ⟨go,step⟩
 ·have h:=T.done X' hXp hXw hXK hXc i _ s σ1 H1 (notedBy (model X.prog X.w) X.A X'.env fun e s'=>R (.error e) s') I (hfpo _ H1 fr) st stop
  rw[hXA] at h
  refine thn h fun r s4 zz=>?_
  obtain ⟨hr,I4⟩:=zz
  subst hr
  exact bC (hR s4 σ1 H1 acc its k I4 hv hz fin)
 ·have h:=T.item X' hXp hXw hXK hXc i _ s σ1 H1 (notedBy (model X.prog X.w) X.A X'.env fun e s'=>R (.error e) s') I (hfpo _ H1 fr) st go
  rw[hXA] at h
  refine thn h fun r s4 zz=>?_
  obtain ⟨u,hr,h4⟩:=zz
  subst hr
  refine aD (thn h4 fun _ s5 zz=>?_)
  obtain ⟨x,H5,I5,r5,y5,st5,fr5⟩:=zz
  have I5':=I5.pinned (hfpo _ H5 fr5) (T.obj _ _ st5)
  have hg5:=hg _ s5 σ1 H5 x u _ I5' r5 (step x H5 y5)
  rw[hXp,hXw,hXA] at hg5
  refine aD (dN hg5 (fun _ s6 zz=>?_) fun e s z=>absurd z (hxe e s))
  obtain ⟨σ6,H6,I6,q6⟩:=zz
  have ht6:=ht _ s6 σ6 H6 _ (notedBy (model X.prog X.w) X.A X'.env fun e s'=>R (.error e) s') I6 q6 (fun e s z=>absurd z (hxe e s))
  rw[hXp,hXw,hXA] at ht6
  refine aD (thn ht6 fun b s7 zz=>?_)
  obtain ⟨H7,I7,q7⟩:=zz
  have back:∀ {σ8:L2.St} {H8:Hp} {s8:aR},Inv X' ([(D,Cf its k)]++Si fp s5.heap) σ8 H8 s8->tn (i+1) s8.heap/\(∀ b∈fp,H8 b=none)/\s8.heap.get? D=some (Cf its k)/\H8 D=none:=fun {σ8 H8 s8} I8=>by
   refine ⟨T.keep _ _ _ st5 fun b hb o e=>(I8.pin (b,o) (aU _ (aU _ (Kf hb e)))).1,fun b hb=>?_,?_,?_⟩
   ·obtain ⟨o,e,d⟩:=T.obj _ _ st5 b hb
    exact (I8.pin (b,o) (aU _ (aU _ (Kf hb e)))).2.1
   ·exact (I8.pin (D,Cf its k) (aU _ (cO _ (cB.mpr rfl)))).1
   ·exact (I8.pin (D,Cf its k) (aU _ (cO _ (cB.mpr rfl)))).2.1
  cases b with
  | false=>
   obtain ⟨m',hm,w8⟩:=(q7:if false=true then _ else _)
   obtain ⟨st8,fr8,_,_⟩:=back I7
   refine bC ⟨rfl,m',hm,i+1,acc,its,k,σ6,H7,?_,hv,hz,st8,fr8,w8⟩
   exact I7.pins_of fun p hp=>I7.pin p (aU _ (cO _ hp))
  | true=>
   have q7':te σ6 H7 fun y H6=>acc.length < sizeLine/\∃ m',m' < n/\W (i+1) m' (acc++[y]) σ6 H6:=q7
   have he7:=he _ s7 σ6 H7 _ I7 q7'
   rw[hXp,hXw,hXA] at he7
   refine aD (aD (dN he7 (fun y s8 zz=>zz.elim fun v H8 I8 r8 zq=>?_) fun e s z=>absurd z (hxe e s)))
   obtain ⟨hlt,m',hm,w8⟩:=zq
   obtain ⟨st8,fr8,hDo,hDn⟩:=back I8
   have hlen:=hv.length
   have hisl:s8.heap.IsList D its.toArray:=⟨_,hDo,rfl,k,rfl⟩
   refine aD ?_
   obtain ⟨k',hd'⟩:∃ k',cK (·.push y) (Cf its k)=Cf (its++[y]) k':=⟨_,by simp[Cf,cK];rfl⟩
   refine fL slot_list_append hisl.typeIs entry_list_append ?_ (args_list_append _ _)
   show wpAny _ _ (updateSeq D (·.push y) >>= fun _=>ret .none) _ _ s8
   refine aD (kT hDo rfl (bC ⟨.none,rfl,?_⟩))
   have hk9:∀ b o,b≠D->s8.heap.get? b=some o->(s8.heap.update D (cK (·.push y))).get? b=some o:=fun b o hb e=>(dU (h:=s8.heap) (a:=D) ..).2 b hb |>.trans e
   have hD9:(s8.heap.update D (cK (·.push y))).get? D=some (Cf (its++[y]) k'):=by
    rw[<- hd'];exact kE _ hDo (by rw[hd'];exact Obj.isFreed_of_seq (xs:=(its++[y]).toArray) (n:=k') rfl)
   have I8':Inv X' [] σ6 H8 s8:=I8.pins_of fun p hp=>by cases hp
   obtain ⟨d0,d1,d2,d3,d4,d5⟩:=hDf H8 hDn
   have I9:Inv X' [] σ6 H8 { s8 with heap:=s8.heap.update D (cK (·.push y)) }:=I8'.turned (t':=s8.toks) hk9 hDn d1 d3 d4 d5
   have I10:=I9.pins_of (pins':=[(D,Cf (its++[y]) k')]) fun p hp=>by
    have:p=(D,Cf (its++[y]) k'):=by simpa using hp
    subst this
    exact ⟨hD9,hDn,d1,d2,fun v z=>by simp[Cf] at z⟩
   refine bC (bC ⟨rfl,m',hm,i+1,acc++[v],its++[y],k',σ6,H8,I10,Vals.append hv (.cons r8 .nil),by rw[cH];simp;omega,?_,fr8,w8⟩)
   refine T.keep _ _ _ st8 fun b hb o e=>hk9 b o (hfp b hb).2 e
end
variable {y:Str}{py spos:Pos}
section
noncomputable def Ab7(ix:List (Option Nat))(wi:TI)(g:TG)(tt:TT)(te:TE):TE:=fun σ H Q=>wi σ H fun J H1=>Aaz J g tt te (inner ix σ) H1 fun acc H2=>∀ p,H2 p=none->Q (.ref p) (upd H2 p (.lst acc))
theorem Ts{g:TG}{it:Addr}{J:It}{tn:Nat->Heap->Prop}{E:aG->aR->Prop}{Fin:List V->Hp->Prop}{RR:aG->Addr->sF->aR->Prop}
  (S:CompSc X scope N' ix) (hcalm:X.calm=true) (hcl:∀ x c,cl.lookup x=some c->X.env.cells.lookup x=some c) (hcl2:∀ y∈scope.names,y.2 = .free->∃ c,cl.lookup y.1=some c)
  (hg:∀ C,PG (blk X scope cl C N' s2 H2 fp pins) tg g) (ht:∀ C,Pe (blk X scope cl C N' s2 H2 fp pins) ifs tt) (he:∀ C,PE (blk X scope cl C N' s2 H2 fp pins) elt te)
  (I2:Inv X pins σ H2 s2) (T:Turn X.prog X.w X.K tg J fp it tn) (st2:tn 0 s2.heap) (f2:∀ b∈fp,Gv X pins H2 b) (hloop:Aaz J g tt te (inner ix σ) H2 Fin)
  (hRR:∀ (D C:Addr) (s':aR) (H':Hp) (acc:List V),Inv X pins σ (upd H' D (.lst acc)) s'->H' D=none->(∃ m,s'.heap.Ns C m)->(upd H' D (.lst acc)) C=none->Gv X pins (upd H' D (.lst acc)) C->Fin acc H'->RR (.ref D) C (.ok .next) s') :
  wpAny (model X.prog X.w) X.A (newList []) (fun acc s₃=>wpAny (model X.prog X.w) X.A (newFunctionEnv scope X.env.globals cl [] X.env.qual none .none (some X.env)) (fun cenv s₄=>
   kM (model X.prog X.w) X.A (.compStart (.ListComp elt [⟨tg,iter,ifs,0⟩] scope pos) 0 (.ref it) acc { cenv with scope:=relabel scope X.env }) (RR acc cenv.locals) s₄) E s₃) E s2:=by
 have hcell:∀ y∈scope.names,y.2≠.cell:=fun y hy z=>by
  have:=bR.mp S.cell y hy
  rw[z] at this;simp at this
 refine dD (oW hcell (by intro y hy;simp at hy) (fun h₁ hns₁ hsb₁=>?_) S.kind)
 dsimp only at hns₁ hsb₁ ⊢
 generalize hH2:s2.heap.push { cls:=.type "list",dict:=none,data:=.seq ([]:List aG).toArray } = HP at hns₁ hsb₁ ⊢
 have hCs:HP.objs.size=s2.heap.objs.size+1:=by rw[<- hH2,dG]
 have hDC:s2.heap.objs.size≠HP.objs.size:=by rw[hCs];exact cC (dZ _)
 have hCle:s2.heap.objs.size<=HP.objs.size:=by rw[hCs];exact gZ _
 have old:∀ b o,s2.heap.get? b=some o->h₁.get? b=some o:=fun b o e=>hsb₁.extBut b o (cC (bD (bF e) hCle)) (aE _ (hH2 ▸ aE _ e))
 have hacc:h₁.get? s2.heap.objs.size=some (Cf [] 0):=hsb₁.extBut _ _ hDC (aE _ (hH2 ▸ bE _ rfl))
 have hfp:∀ b∈fp,b < s2.heap.objs.size:=fun b hb=>by
  obtain ⟨o,e,_⟩:=T.obj _ _ st2 b hb
  exact bF e
 generalize hDg:s2.heap.objs.size=D at hDC hacc
 generalize hCg:HP.objs.size=C at *
 have hDle:s2.heap.objs.size<=D:=nL hDg
 have hD2:s2.heap.get? D=none:=by
  cases q:s2.heap.get? D with
  | none=>rfl
  | some o=>exact absurd (bD (bF q) hDle) (bZ _)
 have I4:=Aeb (t4:=s2.toks+([]:List (Str×aG)).length) S hcalm I2 hcl hcl2 f2 hfp hCle hns₁ old
 have above:∀ a,s2.heap.objs.size<=a->a∉frs X.stack/\(∀ x c,X.env.cells.lookup x=some c->c≠a)/\(∀ p∈X.pn++pins,p.1≠a)/\a≠X.env.locals:=fun a ha=>by
  refine ⟨fun z=>?_,fun x c e z=>?_,fun p hp z=>?_,?_⟩
  ·rcases bH.mp (I2.stkSub a z) with q | q
   ·exact absurd (bD I2.lt (q ▸ ha)) (bZ _)
   ·exact I2.nofs ha q
  ·obtain ⟨v,q⟩:=I2.cell x c e
   exact absurd (bD q.lt (z ▸ ha)) (bZ _)
  ·exact absurd (bD (bF (I2.pin p hp).1) (z ▸ ha)) (bZ _)
  ·intro z;exact absurd (bD I2.lt (z ▸ ha)) (bZ _)
 have hfpX:∀ b∈fp,Gv (blk X scope cl C N' s2 H2 fp pins) [] H2 b/\b≠D:=fun b hb=>by
  obtain ⟨q0,q1,q2,q3,q4,q5⟩:=f2 b hb
  have hlt:=hfp b hb
  refine ⟨⟨q0,cC (bD hlt hCle),fun z=>?_,.inl hb,fun x c e=>q4 x c (hcl x c e),fun p hp=>q5 p (by simpa[blk] using hp)⟩,cC (bD hlt hDle)⟩
  rcases bH.mp (I2.stkSub b z) with q | q
  ·exact q1 q
  ·exact q2 q
 have hDf:∀ H:Hp,H D=none->Gv (blk X scope cl C N' s2 H2 fp pins) [] H D:=fun H hn=>by
  obtain ⟨a1,a2,a3,a4⟩:=above D hDle
  exact ⟨hn,hDC,a1,.inr hDle,fun x c e=>a2 x c (hcl x c e),fun p hp=>a3 p (by simpa[blk] using hp)⟩
 have hDn2:H2 D=none:=I2.hok.fresh hDle
 have I5:Inv (blk X scope cl C N' s2 H2 fp pins) [(D,Cf [] 0)] (inner ix σ) H2 { s2 with heap:=h₁,toks:=s2.toks+([]:List (Str×aG)).length }:=I4.pins_of fun p hp=>by
  have:p=(D,Cf [] 0):=by simpa using hp
  subst this
  obtain ⟨_,d1,d2,_⟩:=hDf H2 hDn2
  exact ⟨hacc,hDn2,d1,d2,fun v z=>by simp[Cf] at z⟩
 have st5:tn 0 h₁:=T.keep _ _ _ st2 fun b _ o e=>old b o e
 have loop:kM (model X.prog X.w) X.A (.compLoop (.ListComp elt [⟨tg,iter,ifs,0⟩] scope pos) 0 (.ref it) (.ref D) (blk X scope cl C N' s2 H2 fp pins).env) (RR (.ref D) C) { s2 with heap:=h₁,toks:=s2.toks+([]:List (Str×aG)).length }:=by
  refine T4 (X':=blk X scope cl C N' s2 H2 fp pins) ⟨rfl,rfl,rfl,rfl,hcalm,fun _ _ z=>z⟩ T (hg C) (ht C) (he C) hDle hDC hCle hfpX hDf I5 st5 (fun b hb=>(f2 b hb).1) hloop ?_
  intro s' σ' H' acc its n I hv hz fin
  obtain ⟨hDo,hDn,_⟩:=I.pin (D,Cf its n) (aU _ (cB.mpr rfl))
  have hbase:Un (frs X.stack) fp H2 H' s2.heap s'.heap:=I.base
  have hok:HOk X.prog X.w (upd H' D (.lst acc)) s'.heap:=HOk.adopt I.hok hDn ⟨hz,its,n,hv,hDo⟩
  have IX:Inv X pins σ (upd H' D (.lst acc)) s':=I2.call' I.os (Un.adopt hbase hDn hD2) hok I.bare fun b hb=>⟨(f2 b hb).2.2.2.1,(f2 b hb).2.1,(f2 b hb).2.2.2.2.1,(f2 b hb).2.2.2.2.2⟩
  obtain ⟨m,hm,_⟩:=I.loc
  have hCn:(upd H' D (.lst acc)) C=none:=by rw[Ap (eR hDC)];exact I.free
  obtain ⟨a1,a2,a3,a4⟩:=above C hCle
  refine hRR D C s' H' acc IX hDn ⟨m,hm⟩ hCn ⟨hCn,a4,fun z=>?_,.inr (cL I2.sz hCle),a2,a3⟩ fin
  exact I2.nofs hCle z
 have e1:({ newEnv scope C X.env.globals cl X.env.qual none .none (some X.env) lP with scope:=relabel scope X.env }:jS)=(blk X scope cl C N' s2 H2 fp pins).env:=rfl
 exact nU loop (T.self _ 0 _ _ _ st5 loop)
theorem CompSc.names(S:CompSc X scope N' ix):∀ x∈scope.names,x.2 = .local->scope.names.lookup x.1=some .local:=fun x hx hl=>by
 have:=bR.mp S.loc x hx
 rw[hl] at this
 simpa using this
theorem CompSc.clos(S:CompSc X scope N' ix)(ok:X.Ok):∃ cl,closureFor scope X.env=pure cl/\(∀ x c,cl.lookup x=some c->X.env.cells.lookup x=some c)/\∀ y∈scope.names,y.2 = .free->∃ c,cl.lookup y.1=some c:=by
 refine Mj fun y hy hf=>?_
 have:=bR.mp S.free y hy
 rw[hf] at this
 simp at this
 exact ok.has y.1 this
theorem Abd{wi:TI}{g:TG}(S:CompSc X scope N' ix)(hcalm:X.calm=true)(hi:PI X tg iter wi)
  (hg:∀ cl C s2 H2 fp pins,PG (blk X scope cl C N' s2 H2 fp pins) tg g) (ht:∀ cl C s2 H2 fp pins,Pe (blk X scope cl C N' s2 H2 fp pins) ifs tt) (he:∀ cl C s2 H2 fp pins,PE (blk X scope cl C N' s2 H2 fp pins) elt te)
  (hs:∀ x,foldedSetIterable iter X.env x=pure x:=by intro _;rfl):PE X (.ListComp elt [⟨tg,iter,ifs,0⟩] scope pos) (Ab7 ix wi g tt te):=by
 intro pins s σ H Q I h
 obtain ⟨cl,hclos,hcl,hcl2⟩:=S.clos I.ok
 rw[eval_ListComp]
 refine jF (use:=none) rfl hs hclos S.kind S.names (thn (hi pins s σ H _ I h) fun v s1 h1=>thn h1 fun itv s2 h2=>?_)
 obtain ⟨it,fp,tn,J,H2,e,I2,T,st2,f2,loop⟩:=h2
 subst e
 refine Ts (RR:=fun acc C=>compPost (model X.prog X.w) X.A X.xe none (EP X pins σ Q) acc C) S hcalm hcl hcl2 (fun C=>hg cl C s2 H2 fp pins) (fun C=>ht cl C s2 H2 fp pins) (fun C=>he cl C s2 H2 fp pins) I2 T st2 f2 loop ?_
 intro D C s' H' acc IX hDn ⟨m,hm⟩ hCn hC fin
 refine ⟨m,hm,fun h' hsb=>?_⟩
 obtain ⟨c0,c1,c2,c3,c4,c5⟩:=hC
 exact ⟨.ref D,_,IX.turned (t':=s'.toks) (fun b o hb e=>hsb.2 b hb |>.trans e) c0 c1 c3 c4 c5,rfl,fin D hDn⟩
theorem Aa2{wi:TI}{g:TG}(hN:X.N.Nodup)(hiN:X.N[i]? = some y)(hx:Loc X.env.scope y)(hf:X.fn y=true\/X.env.scope.names.lookup y=some .local)
  (S:CompSc X scope N' ix) (hcalm:X.calm=true) (hi:PI X tg iter wi)
  (hg:∀ cl C s2 H2 fp pins,PG (blk X scope cl C N' s2 H2 fp pins) tg g) (ht:∀ cl C s2 H2 fp pins,Pe (blk X scope cl C N' s2 H2 fp pins) ifs tt) (he:∀ cl C s2 H2 fp pins,PE (blk X scope cl C N' s2 H2 fp pins) elt te)
  (hsw:swapsWith (.ListComp elt [⟨tg,iter,ifs,0⟩] scope pos) (some (.Name y py)) spos.line X.env=pure true)
  (hs:∀ x,foldedSetIterable iter X.env x=pure x:=by intro _;rfl):PS X (.Assign [.Name y py] (.ListComp elt [⟨tg,iter,ifs,0⟩] scope pos) spos) (Ah1 (Ab7 ix wi g tt te) (V4 i)):=by
 intro pins s σ H Dn I h
 obtain ⟨cl,hclos,hcl,hcl2⟩:=S.clos I.ok
 rw[exec_Assign_Name_used _ _ _ _ hsw]
 refine aD (mM (aD ?_))
 show wpAny _ X.A (do let _ <- comprehension (.ListComp elt [⟨tg,iter,ifs,0⟩] scope pos) scope X.env _ (newList []) false (eval iter X.env) (some (assign (.Name y py) X.env))) _ _ s
 refine aD (dN (jF (Q:=fun _ s'=>SP X pins Dn .next s') (use:=some (assign (.Name y py) X.env)) rfl hs hclos S.kind S.names (thn (hi pins s σ H _ I h) fun v s1 h1=>thn h1 fun itv s2 h2=>?_)) (fun _ s' hq=>bC (bC hq)) fun _ _ e=>e)
 obtain ⟨it,fp,tn,J,H2,e,I2,T,st2,f2,loop⟩:=h2
 subst e
 refine Ts (RR:=fun acc C=>compPost (model X.prog X.w) X.A X.xe (some (assign (.Name y py) X.env)) (fun _ s'=>SP X pins Dn .next s') acc C) S hcalm hcl hcl2 (fun C=>hg cl C s2 H2 fp pins) (fun C=>ht cl C s2 H2 fp pins) (fun C=>he cl C s2 H2 fp pins) I2 T st2 f2 loop ?_
 intro D C s' H' acc IX hDn ⟨m,hm⟩ hCn hC fin
 obtain ⟨c0,c1,c2,c3,c4,c5⟩:=hC
 obtain ⟨oC,es,ep,hoC,hdC,hrest⟩:=id hm
 have IP:Inv X (pins++[(C,oC)]) σ (upd H' D (.lst acc)) s':=IX.pins_of fun p hp=>by
  rcases cR.mp hp with z | z
  ·exact IX.pin p (aU _ z)
  ·have:p=(C,oC):=by simpa using z
   subst this
   exact ⟨hoC,c0,c1,c2,fun v z=>by rw[hdC] at z;cases z⟩
 have hq:V4 i (.ref D) σ (upd H' D (.lst acc)) Dn.nx:=fin D hDn
 refine thn (Acb (i:=i) (pos:=py) hN hiN hx hf (pins++[(C,oC)]) s' σ _ (.ref D) (.ref D) Dn.nx IP rfl hq) fun _ s'' zz=>?_
 obtain ⟨σ'',H'',I'',q''⟩:=zz
 obtain ⟨p1,p2,p3,p4,p5⟩:=I''.pin (C,oC) (aU _ (aU _ (cB.mpr rfl)))
 refine ⟨m,⟨oC,es,ep,p1,hdC,hrest⟩,fun h' hsb=>?_⟩
 exact ⟨σ'',H'',(I''.unpinned).turned (t':=s''.toks) (fun b o hb e=>hsb.2 b hb |>.trans e) p2 p3 c3 c4 c5,q''⟩
end
noncomputable def Iw(tt:Option FT):FT:=fun δ L=>match tt with
 | none=>some (true,L)
 | some f=>f δ L
noncomputable def Sw(it:IU)(g:FG)(tt:Option FT)(fe:FE):Nat->Nat->List U->UE->UH->Option (List U×UH)
 | 0,_,_,_,_=>none
 | m+1,k,acc,δ,L=>match it.at k L with
  | none=>none
  | some none=>some (acc,L)
  | some (some u)=>(g u δ L).bind fun p=>(Iw tt p.1 p.2).bind fun q=>if q.1=true then (fe p.1 q.2).bind fun r=>if decide (acc.length < sizeLine)=true then Sw it g tt fe m (k+1) (acc++[r.1]) p.1 r.2 else none
   else Sw it g tt fe m (k+1) acc p.1 q.2
noncomputable def Gg(ix:List (Option Nat))(δ:UE):UE:=ix.map fun o=>o.bind fun i=>(δ[i]?).join
noncomputable def Bk(ix:List (Option Nat))(fi:FI)(g:FG)(tt:Option FT)(fe:FE):FE:=fun δ L=>(fi δ L).bind fun p=>(Sw p.1 g tt fe (p.1.size p.2+1) 0 [] (Gg ix δ) p.2).map fun q=>(.ref q.2.length,q.2++[.lst q.1])
theorem RepS.inner(S:RepS K H α δ σ)(ix:List (Option Nat)):RepS K H α (Gg ix δ) (MR.inner ix σ):=by
 refine ⟨by simp[Gg,MR.inner],fun j u e=>?_⟩
 unfold Gg at e
 unfold MR.inner
 rw[bO] at e ⊢
 cases hx:ix[j]? with
 | none=>rw[hx] at e;simp at e
 | some o=>
  rw[hx] at e
  cases o with
  | none=>simp at e
  | some i=>
   simp at e
   have:δ[i]? = some (some u):=by
    cases q:δ[i]? with
    | none=>rw[q] at e;simp at e
    | some o=>rw[q] at e;simp at e;rw[e]
   obtain ⟨v,hv,r⟩:=S.at_ i u this
   exact ⟨v,by simp[hv],r⟩
noncomputable def lTo(K:aJ)(tt:Option FT):TT:=match tt with
 | none=>Ah4
 | some f=>lT K f
inductive CI(K:aJ)(it:IU)(g:FG)(tt:Option FT)(fe:FE)(H1:Hp)(α1:List Addr)(ys:List U)(L2:UH)(k m:Nat)(acc:List V)(σ2:_root_.L2.St)(H2:Hp):Prop
 | mk (α2:List Addr) (δ2:UE) (M:UH) (us:List U) (g2:Gr H1 α1 H2 α2) (A2:Abs K H2 α2 M) (S2:RepS K H2 α2 δ2 σ2) (r2:RepL K H2 α2 us acc) (e:Sw it g tt fe m k us δ2 M=some (ys,L2)):CI K it g tt fe H1 α1 ys L2 k m acc σ2 H2
theorem N4{g:FG}{tt:Option FT}:∀ σ H Q,lE K (Bk ix fi g tt fe) σ H Q->Ab7 ix (lI K fi) (lG K g) (lTo K tt) (lE K fe) σ H Q:=by
 rintro σ H Q ⟨α,δ,L,A,S,z,L3,e,q⟩
 obtain ⟨⟨it,L1⟩,e1,e⟩:=aB.mp e
 obtain ⟨⟨ys,L2⟩,e2,e⟩:=aH.mp e
 cases e
 refine ⟨α,δ,L,A,S,it,L1,e1,fun J H1 α1 g1 A1 hJ=>?_⟩
 refine ⟨CI K it g tt fe H1 α1 ys L2,⟨_,α1,_,L1,[],.refl _ _,A1,(S.mono g1).inner ix,.nil,e2⟩,?_⟩
 rintro k m acc σ2 H2 ⟨α2,δ2,M,us,g2,A2,S2,r2,e3⟩
 cases m with
 | zero=>cases e3
 | succ m=>
  obtain ⟨hgo,hstop⟩:=hJ H2 α2 M g2 A2 k
  unfold Sw at e3
  cases hat:it.at k M with
  | none=>rw[hat] at e3;cases e3
  | some o=>
   cases o with
   | none=>
    rw[hat] at e3
    cases e3
    refine .inl ⟨hstop hat,fun p hp=>?_⟩
    obtain ⟨g3,A3,r3⟩:=A2.lst r2 hp
    exact q _ _ _ (g1.trans (g2.trans g3)) A3 r3
   | some u=>
    rw[hat] at e3
    obtain ⟨go,yld⟩:=hgo u hat
    obtain ⟨⟨δ3,L3⟩,e4,e3⟩:=aB.mp e3
    obtain ⟨⟨b,L4⟩,e5,e3⟩:=aB.mp e3
    refine .inr ⟨go,fun x H3 y3=>?_⟩
    obtain ⟨g3,A3,r3⟩:=yld x H3 y3
    refine ⟨α2,δ2,M,u,A3,S2.mono g3,r3,δ3,L3,e4,fun σ4 H4 α4 g4 A4 S4=>?_⟩
    have after:∀ H5 α5,Gr H4 α4 H5 α5->Abs K H5 α5 L4->(if b=true then lE K fe σ4 H5 (fun y H6=>acc.length < sizeLine/\∃ m',m' < m+1/\CI K it g tt fe H1 α1 ys L2 (k+1) m' (acc++[y]) σ4 H6) else ∃ m',m' < m+1/\CI K it g tt fe H1 α1 ys L2 (k+1) m' acc σ4 H5):=fun H5 α5 g5 A5=>by
     have gA:=g2.trans (g3.trans (g4.trans g5))
     have gB:=g3.trans (g4.trans g5)
     cases b with
     | false=>exact X4 ⟨m,dZ _,α5,δ3,L4,us,gA,A5,S4.mono g5,r2.mono gB,e3⟩
     | true=>
      obtain ⟨⟨w,L5⟩,e6,e3⟩:=aB.mp e3
      simp only at e3
      split at e3
      ·rename_i hlt
       refine Yq ⟨α5,δ3,L4,A5,S4.mono g5,w,L5,e6,fun y H6 α6 g6 A6 r6=>?_⟩
       exact ⟨by rw[<- r2.length];exact of_decide_eq_true hlt,m,dZ _,α6,δ3,L5,us++[w],gA.trans g6,A6,(S4.mono g5).mono g6,(r2.mono (gB.trans g6)).append (.cons r6 .nil),e3⟩
      ·cases e3
    cases tt with
    | none=>
     cases e5
     exact after H4 α4 (.refl _ _) A4
    | some f=>exact ⟨α4,δ3,L3,A4,S4,b,L4,e5,fun H5 α5 g5 A5=>after H5 α5 g5 A5⟩
section
variable {g:FG}{ft:FT}
theorem Ge(S:CompSc X scope N' ix)(hcalm:X.calm=true)(hi:PIF X tg iter fi)(hg:∀ cl C s2 H2 fp pins,PGF (blk X scope cl C N' s2 H2 fp pins) tg g)(he:∀ cl C s2 H2 fp pins,PEF (blk X scope cl C N' s2 H2 fp pins) elt fe)
  (hs:∀ x,foldedSetIterable iter X.env x=pure x:=by intro _;rfl):PEF X (.ListComp elt [⟨tg,iter,[],0⟩] scope pos) (Bk ix fi g none fe):=
 PE.imp (Abd (g:=lG X.K g) (te:=lE X.K fe) (tt:=Ah4) S hcalm hi hg (fun _ _ _ _ _ _=>T5) he hs) N4
theorem He(S:CompSc X scope N' ix)(hcalm:X.calm=true)(hi:PIF X tg iter fi)(hg:∀ cl C s2 H2 fp pins,PGF (blk X scope cl C N' s2 H2 fp pins) tg g)(ht:∀ cl C s2 H2 fp pins,PTF (blk X scope cl C N' s2 H2 fp pins) c ft)(he:∀ cl C s2 H2 fp pins,PEF (blk X scope cl C N' s2 H2 fp pins) elt fe)
  (hs:∀ x,foldedSetIterable iter X.env x=pure x:=by intro _;rfl):PEF X (.ListComp elt [⟨tg,iter,[c],0⟩] scope pos) (Bk ix fi g (some ft) fe):=
 PE.imp (Abd (g:=lG X.K g) (te:=lE X.K fe) (tt:=lT X.K ft) S hcalm hi hg (fun _ _ _ _ _ _=>Og (ht _ _ _ _ _ _)) he hs) (N4 (tt:=some ft))
theorem Agt{fc:FE}{t:TE}(ht:∀ σ H Q,lE K fc σ H Q->t σ H Q):∀ D σ H,lS K (Ba fc (gN i)) D σ H->Ah1 t (V4 i) D σ H:=by
 rintro D σ H ⟨α,δ,L,A,S,fl,L',e,q⟩
 obtain ⟨⟨u,L1⟩,e1,e⟩:=aB.mp e
 obtain ⟨⟨δ2,L2⟩,e2,e⟩:=aH.mp e
 cases e
 cases e2
 exact ht σ H _ ⟨α,δ,L,A,S,u,_,e1,fun v H1 α1 g1 A1 r1=>q _ H1 α1 g1 A1 ((S.mono g1).set i r1)⟩
theorem Od(hN:X.N.Nodup)(S:CompSc X scope N' ix)(hcalm:X.calm=true)(hi:PIF X tg iter fi)(hg:∀ cl C s2 H2 fp pins,PGF (blk X scope cl C N' s2 H2 fp pins) tg g)(he:∀ cl C s2 H2 fp pins,PEF (blk X scope cl C N' s2 H2 fp pins) elt fe)
  (hiN:X.N[i]? = some y:=by rfl) (hx:Loc X.env.scope y:=by first | exact rC rfl | exact pS rfl) (hf:X.fn y=true\/X.env.scope.names.lookup y=some .local:=by first | exact .inl rfl | exact .inr rfl)
  (hsw:swapsWith (.ListComp elt [⟨tg,iter,[],0⟩] scope pos) (some (.Name y py)) spos.line X.env=pure true:=by rfl)
  (hs:∀ x,foldedSetIterable iter X.env x=pure x:=by intro _;rfl):PSF X (.Assign [.Name y py] (.ListComp elt [⟨tg,iter,[],0⟩] scope pos) spos) (Ba (Bk ix fi g none fe) (gN i)):=
 PS.imp (Aa2 (i:=i) (g:=lG X.K g) (te:=lE X.K fe) (tt:=Ah4) hN hiN hx hf S hcalm hi hg (fun _ _ _ _ _ _=>T5) he hsw hs) (Agt N4)
theorem Oh(hN:X.N.Nodup)(S:CompSc X scope N' ix)(hcalm:X.calm=true)(hi:PIF X tg iter fi)(hg:∀ cl C s2 H2 fp pins,PGF (blk X scope cl C N' s2 H2 fp pins) tg g)(ht:∀ cl C s2 H2 fp pins,PTF (blk X scope cl C N' s2 H2 fp pins) c ft)(he:∀ cl C s2 H2 fp pins,PEF (blk X scope cl C N' s2 H2 fp pins) elt fe)
  (hiN:X.N[i]? = some y:=by rfl) (hx:Loc X.env.scope y:=by first | exact rC rfl | exact pS rfl) (hf:X.fn y=true\/X.env.scope.names.lookup y=some .local:=by first | exact .inl rfl | exact .inr rfl)
  (hsw:swapsWith (.ListComp elt [⟨tg,iter,[c],0⟩] scope pos) (some (.Name y py)) spos.line X.env=pure true:=by rfl)
  (hs:∀ x,foldedSetIterable iter X.env x=pure x:=by intro _;rfl):PSF X (.Assign [.Name y py] (.ListComp elt [⟨tg,iter,[c],0⟩] scope pos) spos) (Ba (Bk ix fi g (some ft) fe) (gN i)):=
 PS.imp (Aa2 (i:=i) (g:=lG X.K g) (te:=lE X.K fe) (tt:=lT X.K ft) hN hiN hx hf S hcalm hi hg (fun _ _ _ _ _ _=>Og (ht _ _ _ _ _ _)) he hsw hs) (Agt (N4 (tt:=some ft)))
end
section
variable {s:aR}{h':Heap}
theorem Inv.turnNew{ch:List Addr}{t':Nat}(I:L2.Inv X pins σ H s)(hch:∀ b∈ch,Gv X pins H b)(k:∀ b o,b∉ch->s.heap.get? b=some o->h'.get? b=some o)(hp:s.heap.objs.size<=p)(new:ObjOk X.prog X.w (upd H p o) h' p o) :
  L2.Inv X pins σ (upd H p o) { s with heap:=h',toks:=t' }:=by
 have hn:H p=none:=I.hok.fresh hp
 have nch:∀ b u,H b=some u->b∉ch:=fun b u e hb=>by rw[(hch b hb).1] at e;cases e
 have st:=Stay.new hn o
 refine I.step (g':=s.gens) (d':=s.drawn) (ch:=ch) (fun b hb=>?_) (fun b o _ _ hc e _=>k b o hc e) (fun b o _ _ hc e _=>⟨o.slots,k b o hc e⟩) (fun b u hc e n=>?_) (fun b u hc e=>⟨u,k b u hc e⟩) st.1 st.2 (fun b ps e=>⟨#[],?_⟩) (fun m hm=>?_) (fun b u e=>?_) I.bare
 ·obtain ⟨_,f1,_,f3,f4,f5⟩:=hch b hb
  exact ⟨f3,f1,f4,f5⟩
 ·rw[Ap (cC (bD (bF e) hp))];exact n
 ·rw[Ap (Bc e hn),e];simp
 ·obtain ⟨o1,es,ep,ho,r⟩:=hm
  exact ⟨o1,es,ep,k _ o1 (fun z=>(hch _ z).2.1 rfl) ho,r⟩
 ·by_cases hb:b=p
  ·subst hb;rw[upd_same] at e;cases e;exact new
  ·rw[Ap hb] at e
   refine (I.hok b u e).stay (fun c v hc q=>k c v ?_ q) (fun c q=>by rw[Ap (Bc q hn)];exact q) fun c xs q=>by rw[Ap (Bc q hn)];exact q
   rcases hc with z | z
   ·rw[z];exact nch b u e
   ·exact nch c _ z
end
noncomputable def Ite(K:aJ)(a:Addr):It:=
 ⟨fun i H=>∃ xs x,SqL K H a xs/\xs[i]? = some x,fun i H x H'=>∃ p v,H p=none/\x = .ref p/\H'=upd H p (.tup [.int i,v])/\∀ xs,SqL K H a xs->xs[i]? = some v,fun i H=>∃ xs,SqL K H a xs/\xs.length<=i⟩
theorem Adt{elts:List Expr}{x1}(a e it:Addr)(hne:e≠it):Turn P w K (.Tuple elts x1 pos) (Ite K a) [e,it] e (fun i h=>(∃ old,IsEnum h e it i old)/\h.IsListIter it a i) where
 mem:=by simp
 obj:=fun i h st b hb=>by
  obtain ⟨⟨old,he⟩,o,ho,hc,hd⟩:=st
  rcases bH.mp hb with rfl | hb
  ·exact ⟨_,he,fun v z=>by simp at z⟩
  ·have:b=it:=by simpa using hb
   subst this
   exact ⟨o,ho,fun v z=>by rw[hd] at z;cases z⟩
 keep:=fun i h h' st k=>by
  obtain ⟨⟨old,he⟩,o,ho,hc,hd⟩:=st
  exact ⟨⟨old,k e (by simp) _ he⟩,o,k it (by simp) _ ho,hc,hd⟩
 item:=by
  intro X hP hw hK hc i pins s σ H E I hf st hg
  subst hP hw hK
  obtain ⟨⟨old,he⟩,hit⟩:=st
  obtain ⟨xs,v,sq,hx⟩:=hg
  obtain ⟨its,hv,pl,hz⟩:=I.list sq
  obtain ⟨u,hu,r⟩:=hv.get hx
  refine wpAny_pyNext_enum_item he hit pl.isList (by simpa using hu) hne fun h' o1 o2 o3 o4 o5=>?_
  refine ⟨_,rfl,?_⟩
  have hfr:H s.heap.objs.size=none:=I.hok.fresh (aS _)
  have I1:L2.Inv X pins σ (upd H s.heap.objs.size (.tup [.int i,v])) { s with heap:=h',toks:=s.toks+1 }:=
   Inv.turnNew (ch:=[e,it]) I hf (fun b o hb q=>o5 b o (fun z=>hb (by simp[z])) (fun z=>hb (by simp[z])) q) (aS _)
    (show ObjOk X.prog X.w _ h' _ (.tup [.int i,v]) from ⟨by show 2<=sizeLine;decide,[.int i s.toks,u],.cons ⟨_,rfl⟩ (.cons r .nil),⟨_,o3,rfl,_,rfl⟩⟩)
  refine lX o1 fun h2 e2 sb2=>?_
  have hne2:∀ b∈[e,it],b≠s.heap.objs.size:=fun b hb z=>by
   rcases bH.mp hb with q | q
   ·have:=bF he;rw[<- q,z] at this;exact bZ _ this
   ·have q:b=it:=by simpa using q
    obtain ⟨o,ho,_⟩:=hit
    have:=bF ho;rw[<- q,z] at this;exact bZ _ this
  have hnone:∀ b∈[e,it],(upd H s.heap.objs.size (.tup [.int i,v])) b=none:=fun b hb=>by rw[Ap (hne2 b hb)];exact (hf b hb).1
  obtain ⟨f0,f1,f2,f3,f4,f5⟩:=hf e (by simp)
  have I2:=I1.turned (t':=s.toks+1) (h':=h2) (it:=e) (fun b o hb q=>sb2.2 b hb |>.trans q) (hnone e (by simp)) f1 f3 f4 f5
  obtain ⟨oi,hoi,hci,hdi⟩:=o2
  refine ⟨.ref s.heap.objs.size,_,I2,rfl,⟨_,v,hfr,rfl,rfl,fun ys sq'=>?_⟩,⟨⟨_,e2⟩,oi,(sb2.2 it (eR hne)).trans hoi,hci,hdi⟩,hnone⟩
  rw[I.list_inj sq' sq];exact hx
 done:=by
  intro X hP hw hK hc i pins s σ H E I hf st hg
  subst hP hw hK
  obtain ⟨⟨old,he⟩,hit⟩:=st
  obtain ⟨xs,sq,hx⟩:=hg
  obtain ⟨its,hv,pl,hz⟩:=I.list sq
  obtain ⟨f0,f1,f2,f3,f4,f5⟩:=hf it (by simp)
  have hlen:=hv.length
  refine wpAny_pyNext_enum_end (I.ok.hd hc) he hit pl.isList (by simp;omega) fun h' eb=>⟨rfl,I.turned (t':=s.toks) (fun b o hb q=>eb b o hb q) f0 f1 f3 f4 f5⟩
 self:=fun _ _ _ _ _ st h=>by obtain ⟨⟨old,he⟩,_⟩:=st;exact jY he h
theorem Ad4(n l1 l2:Nat)(h1:l1 < n)(h2:l2 < n):oX (n+4) (n+2) (n+3) n (n+1) l1 l2:=by
 constructor <;> (intro q;exact absurd (show (_:Nat)=_ from q) (by omega))
section
variable {elts:List Expr}{x1:Nat}{tpos:Pos}
theorem Tq:eZ "enumerate" = some (.type "enumerate"):=by decide +kernel
theorem Agp:eZ "zip" = some (.type "zip"):=by decide +kernel
noncomputable def Aon(K:aJ)(ta:TA):TI:=fun σ H R=>ta σ H fun vs H1=>∃ a xs,vs=[.ref a]/\SqL K H1 a xs/\R (Ite K a) H1
theorem Aic{a:Expr}{ta:TA}{p:Pos}(hg:Gl X "enumerate")(hm:X.mg "enumerate" = none)(ha:PA X [a] ta)(hs:bQ [a] X.env=[(false,eval a X.env)]:=by rfl):PI X (.Tuple elts x1 tpos) (.Call (.Name "enumerate" p) [a] [] pos) (Aon X.K ta):=by
 intro pins s σ H R I h
 refine Call_ (Fq I hg hm Tq (cY (thn (ha pos pins s σ H _ I h) fun us s1 ⟨vs,H1,I1,r1,q1⟩=>?_) hs rfl))
 obtain ⟨l,xs,rfl,sq,q⟩:=q1
 obtain ⟨u,rfl,ru⟩:=Gz r1
 cases ru
 obtain ⟨its,hv,pl,hz⟩:=I1.list sq
 refine call_enumerate_list pl.isList fun h' o1 o2 o3 o4=>?_
 have I2:L2.Inv X pins σ H1 { s1 with heap:=h' }:=I1.kept (t':=s1.toks) o4
 refine jY o1 ⟨_,_,_,_,H1,rfl,I2,Adt l (s1.heap.objs.size+1) s1.heap.objs.size (iI (dZ _)),⟨⟨_,o1⟩,o2⟩,fun b hb=>?_,q⟩
 have hb':s1.heap.objs.size<=b:=by
  simp only[bH,eB,or_false] at hb
  rcases hb with rfl | rfl
  ·exact gZ _
  ·exact aS _
 exact L2.Inv.fpOk I1 hb' (I1.hok.fresh hb')
noncomputable def An0(g:FA):FI:=fun δ L=>(g δ L).bind fun p=>match p.1 with
 | [.ref n]=>(Ao p.2 n).map fun _=>(.enm n,p.2)
 | _=>none
noncomputable def Aqa(g:FA):FI:=fun δ L=>(g δ L).bind fun p=>match p.1 with
 | [.ref n,.ref m]=>(Ao p.2 n).bind fun _=>(Ao p.2 m).map fun _=>(.zip2 n m,p.2)
 | _=>none
theorem Rx(A:Abs K H α L)(ea:α[n]? = some a)(h:Ao L n=some us):∃ xs,SqL K H a xs/\RepL K H α us xs:=by
 obtain ⟨a',xs,ea',sq,r⟩:=Gb A h
 rw[ea] at ea';cases ea'
 exact ⟨xs,sq,r⟩
theorem Aih(hinj:∀ (H:Hp) xs ys,SqL K H a xs->SqL K H a ys->True)(ea:α[n]? = some a):Nx K (Ite K a) (.enm n) H α:=by
 intro H2 α2 L2 g A2 k
 have ea2:=g.at ea
 refine ⟨fun u eu=>?_,fun eu=>?_⟩
 ·obtain ⟨us,hs,eu⟩:=aH.mp eu
  obtain ⟨xs,sq,r⟩:=Rx A2 ea2 hs
  obtain ⟨w,hw,eu⟩:=aH.mp eu
  subst eu
  obtain ⟨x,hx,rx⟩:=r.get hw
  refine ⟨⟨xs,x,sq,hx⟩,?_⟩
  rintro y H3 ⟨p,v,hp,rfl,rfl,hy⟩
  have:=hy xs sq
  rw[hx] at this;cases this
  exact A2.tup (.cons rfl (.cons rx .nil)) hp
 ·obtain ⟨us,hs,eu⟩:=aH.mp eu
  obtain ⟨xs,sq,r⟩:=Rx A2 ea2 hs
  have:us[k]? = none:=by simpa using eu
  exact ⟨xs,sq,by rw[<- r.length];exact cV.mp this⟩
end
theorem Q9{β γ:Type}{f g:β->Option γ}:∀ {l:List β},(∀ x∈l,f x=g x)->l.filterMap f=l.filterMap g
 | [],_=>rfl
 | a::l,h=>by rw[fU,fU,h a (aT ..),Q9 fun x hx=>h x (aK _ hx)]
theorem Q7{β:Type}:∀ r:List β,((aO r.length).map fun (k:Nat)=>(((r.length:Int) - 1 + -1 * (k:Int)).toNat)).filterMap (r.reverse[·]?)=r
 | []=>rfl
 | a::r=>by
  have ih:=Q7 r
  rw[aM,List.range_succ_eq_map,aW,fU]
  have h0:(a::r).reverse[(((r.length+1:Nat):Int) - 1 + -1 * ((0:Nat):Int)).toNat]? = some a:=by
   have:(((r.length+1:Nat):Int) - 1 + -1 * ((0:Nat):Int)).toNat=r.reverse.length:=by rw[bY];omega
   rw[this,eK,cJ (aS _)]
   simp
  rw[h0]
  simp only
  congr 1
  rw[dB,jP]
  rw[jP] at ih
  refine Eq.trans (Q9 fun k hk=>?_) ih
  have hk:=bG.mp hk
  simp only[sQ]
  have:(((r.length+1:Nat):Int) - 1 + -1 * ((k.succ:Nat):Int)).toNat=((r.length:Int) - 1 + -1 * (k:Int)).toNat:=by simp only[Nat.succ_eq_add_one];omega
  rw[this,eK,bI (by rw[bY];omega)]
theorem Qj(its:List aG):slicePick its.toArray none none (some (-1))=its.reverse.toArray:=by
 unfold slicePick
 have e:sliceBounds none none (some (-1)) its.toArray.size=((its.length:Int) - 1,-1,-1):=by simp[sliceBounds]
 rw[e]
 have e2:sliceRange ((its.length:Int) - 1) (-1) (-1)=(aO its.length).map fun (k:Nat)=>(((its.length:Int) - 1 + -1 * (k:Int)).toNat):=by
  unfold sliceRange
  have:(if (-1:Int) > 0 then (if ((its.length:Int) - 1) < -1 then (-1 - ((its.length:Int) - 1) + -1 - 1) / -1 else 0) else (if ((its.length:Int) - 1) > -1 then (((its.length:Int) - 1) - -1 - -1 - 1) / (- -1) else 0)).toNat=its.length:=by
   rw[if_neg (by decide)]
   split
   ·have:(its.length:Int) - 1 - -1 - -1 - 1=its.length:=by omega
    rw[this]
    simp
   ·simp;omega
  simp only[this]
 simp only
 rw[e2]
 have:=Q7 its.reverse
 rw[bY,oY] at this
 have h2:(List.filterMap (fun x=>its.toArray[x]?) (List.map (fun (k:Nat)=>(((its.length:Int) - 1 + -1 * (k:Int)).toNat)) (aO its.length)))=its.reverse:=by
  rw[<- this]
  simp
 rw[h2]
theorem Vals.rev{us:List aG}(h:Vals xs us):Vals xs.reverse us.reverse:=by
 induction h with
 | nil=>exact .nil
 | cons h1 _ ih=>rw[eK,eK];exact ih.append (.cons h1 .nil)
theorem RepL.rev:∀ {us:List U} {xs:List V},RepL K H α us xs->RepL K H α us.reverse xs.reverse
 | [],xs,r=>by unfold RepL at r;subst r;exact .nil
 | u::us,xs,r=>by
  unfold RepL at r
  obtain ⟨x,xr,rfl,r1,r2⟩:=r
  rw[eK,eK]
  exact (RepL.rev r2).append (.cons r1 .nil)
end MR
namespace HT
open PySem PySem.Spec PyProof.Rows
section
variable {prog:cX}{w:eG}{A:eE}{E:aG->aR->Prop}{s:aR}
theorem Oa{sl:Addr}{vs:aG}{n:Nat}{Q:Int×Int×Nat->aR->Prop}(hs:s.heap.IsSliceOf sl .none .none vs)(pu:nR vs (some (-1)))
  (h:Q ((n:Int) - 1,-1,n) s):wpAny (model prog w) A (gJ (.ref sl) (pure (n:Int))) Q E s:=by
 obtain ⟨os,hos,hcs,hds⟩:=id hs
 unfold gJ mC
 refine aD (aD (dR hos hds (x:=.none) rfl (aD (dR hos hds (x:=.none) rfl (aD (dR hos hds (x:=vs) rfl (bC ?_)))))))
 refine aD (Ib pu ?_)
 show wpAny _ _ (if ((-1:Int) == 0)=true then _ else _) _ _ s
 rw[if_neg (by decide)]
 refine aD (Ib .none (aD (Ib .none (aD (bC ?_)))))
 show wpAny _ _ (match fF none none (-1) (n:Int) with | (lo,hi)=>pure (lo,(-1:Int),dJ lo hi (-1))) _ _ s
 have e1:fF none none (-1) (n:Int)=((n:Int) - 1,-1):=rfl
 rw[e1]
 show wpAny _ _ (pure ((n:Int) - 1,(-1:Int),dJ ((n:Int) - 1) (-1) (-1))) _ _ s
 have e2:dJ ((n:Int) - 1) (-1) (-1)=n:=by
  unfold dJ
  rw[if_neg (by decide)]
  split
  ·simp
  ·simp;omega
 rw[e2]
 exact bC h
theorem Ado(xs:List aG):((aO xs.length).filterMap fun (m:Nat)=>xs.toArray[((xs.length:Int) - 1+(m:Int) * -1).toNat]?).toArray=xs.reverse.toArray:=by
 have:=MR.Q7 xs.reverse
 rw[bY,oY,jP] at this
 rw[<- this]
 congr 1
 refine MR.Q9 fun k _=>?_
 simp only[sQ]
 have:((xs.length:Int) - 1+(k:Int) * -1)=((xs.length:Int) - 1 + -1 * (k:Int)):=by omega
 rw[this]
 simp
theorem Nb{t sl:Addr}{its:List aG}{vs:aG}{Q:aG->aR->Prop}(ht:oD s.heap t its.toArray)(hs:s.heap.IsSliceOf sl .none .none vs)(pu:nR vs (some (-1)))
  (h:Q (.ref s.heap.objs.size) { s with heap:=s.heap.push { cls:=.type "tuple",data:=.seq its.reverse.toArray } })
  (hsz:its.length<=sizeLine):wpAny (model prog w) A (getItem (.ref t) (.ref sl)) Q E s:=by
 have htake:sizeOk (.seq its.reverse.toArray):=by
  show its.reverse.toArray.size<=sizeLine
  rw[aX,bY];exact hsz
 obtain ⟨os,hos,hcs,hds⟩:=id hs
 have hTs:s.TypeIs (.ref sl) "slice" := ⟨os,hos,hcs⟩
 unfold getItem
 try with_reducible refine eY ?_
 first | refine aD (bC ?_) | skip
 refine aD (qF ht.typeIs (by decide) ?_)
 refine aD (eN (name:=dM "__getitem__") ht.typeIs dQ
  (fL dQ ht.typeIs pC ?_ (pN _ _)))
 show wpAny _ _ (lR (.ref t) >>= _) _ _ s
 refine aD (tupleItemsOf_ ht ?_)
 refine aD (wpAny_typeOf hTs ?_)
 rw[if_pos (by decide)]
 refine aD (Oa hs pu ?_)
 show wpAny _ _ (if ((((its.toArray.size:Nat):Int) - 1) == 0&&(-1:Int) == 1&&its.toArray.size == its.toArray.size)=true then _ else _) _ _ s
 have hno:¬ (((((its.toArray.size:Nat):Int) - 1) == 0&&(-1:Int) == 1&&its.toArray.size == its.toArray.size)=true):=by simp
 rw[if_neg hno]
 have e:((aO its.toArray.size).filterMap fun (m:Nat)=>its.toArray[((its.toArray.size:Int) - 1+(m:Int) * -1).toNat]?).toArray=its.reverse.toArray:=by
  have:=Ado its
  simpa using this
 first
  | (rw[e]
     first
      | exact aD (m:=dP _) (dD (bC ⟨_,rfl,bC h⟩) htake)
      | exact aD (m:=dP _) (dD (aD (bC (bC ⟨_,rfl,bC h⟩))) htake)
      | exact aD (aD (m:=dP _) (dD (bC (bC ⟨_,rfl,bC h⟩)) htake))
      | exact aD (aD (m:=dP _) (dD (bC ⟨_,rfl,bC h⟩) htake)))
end
end HT
namespace MR
open PySem PySem.Spec PyProof.Rows L2
section
variable {X:Cx}{e st:Expr}{fa fs:FE}{p2 pos:Pos}
noncomputable def Aet(f:FE):FE:=fun δ L=>(f δ L).bind fun p=>match p.1 with | .ref n=>(Ao p.2 n).map fun l=>(.ref p.2.length,p.2++[.lst l.reverse]) | .tup l=>some (.tup l.reverse,p.2) | _=>none
theorem Am4(he:PEF X e fa){q1 q2:Pos}{k:Nat}:PEF X (.Subscript e (.Slice none none (some (.UnaryOp .USub (.Constant (.int 1) k q1) q2)) p2) pos) (Aet fa):=by
 rintro pins s σ H Q I ⟨α,δ,L,A,S,z,L3,ee,q⟩
 obtain ⟨⟨u,L1⟩,e1,ee⟩:=aB.mp ee
 refine pO (thn (he pins s σ H (fun x H1=>∃ α1,Gr H α H1 α1/\Abs X.K H1 α1 L1/\RepU X.K H1 α1 u x) I ⟨α,δ,L,A,S,u,L1,e1,fun x H1 α1 g1 A1 r1=>⟨α1,g1,A1,r1⟩⟩) fun v s1 ⟨x,H1,I1,r1,α1,g1,A1,ru⟩=>?_)
 cases u with
 | ref n=>
  obtain ⟨l,hl,ee⟩:=aH.mp ee
  cases ee
  obtain ⟨a,xs,ea,sq,r⟩:=Gb A1 hl
  obtain ⟨a',ea',rfl⟩:=ru.ref_of A1
  rw[ea] at ea';cases ea'
  cases r1
  have ps:POF X (some (.UnaryOp .USub (.Constant (.int 1) k q1) q2)) (Fd (Qs (fC (.int 1)))):=Fx (Oj Ai)
  refine rL ?_
  rw[mP]
  refine bC (bC ?_)
  refine thn (ps pins s1 σ H1 (fun o H'=>o=some (-1)/\∃ α2,Gr H1 α1 H' α2/\Abs X.K H' α2 L1) I1 ⟨α1,δ,L1,A1,S.mono g1,some (-1),L1,rfl,fun H2 α2 g2 A2=>⟨rfl,α2,g2,A2⟩⟩) fun vs s3 ⟨o,H3,I3,pu,ho,α3,g3,A3⟩=>?_
  subst ho
  have I4:L2.Inv X pins σ H3 { s3 with heap:=s3.heap.push { cls:=.type "slice",data:=.fields #[.none,.none,vs] } }:=I3.kept (t':=s3.toks) fun b ob q=>aE _ q
  obtain ⟨a3,xs3,ea3,sq3,r3⟩:=Gb A3 hl
  have:a3=a:=by
   obtain ⟨ys,hy⟩:=g3.1
   rw[hy,bI (aF.mp ea).1,ea] at ea3
   exact (bS ea3).symm
  subst this
  obtain ⟨its,rv,ht,hz⟩:=I4.list sq3
  have hlen:=rv.length
  show wpAny (model X.prog X.w) X.A (subscriptTail e (.Slice none none _ p2) (.ref _) (.ref s3.heap.objs.size)) (EP X pins σ Q) X.xe { s3 with heap:=s3.heap.push { cls:=.type "slice",data:=.fields #[.none,.none,vs] } }
  refine sG (ops:=[.ref _,.ref s3.heap.objs.size]) ht.isList.typeIs mJ.lookup ?_ (by with_unfolding_all rfl)
  refine mQ ht.isList (lU ..) .none .none pu (by simp) ?_ (by rw[aX] <;> omega)
  rw[Qj]
  obtain ⟨g4,A4,r4⟩:=A3.lst r3.rev (I4.hok.fresh (aS _))
  refine ⟨.ref _,_,I4.laid (t':=s3.toks) (o:=.lst xs3.reverse) (fun b ob q=>aE _ q) (aS _) ?_,rfl,q _ _ _ (g1.trans (g3.trans g4)) A4 r4⟩
  exact ⟨by rw[bY];exact hz,_,0,Vals.rev rv,bE _ rfl⟩
 | tup l=>
  cases ee
  unfold RepU at ru
  obtain ⟨a,xs,rfl,sq,r⟩:=ru
  cases r1
  have ps:POF X (some (.UnaryOp .USub (.Constant (.int 1) k q1) q2)) (Fd (Qs (fC (.int 1)))):=Fx (Oj Ai)
  refine rL ?_
  rw[mP]
  refine bC (bC ?_)
  refine thn (ps pins s1 σ H1 (fun o H'=>o=some (-1)/\∃ α2,Gr H1 α1 H' α2/\Abs X.K H' α2 L1) I1 ⟨α1,δ,L1,A1,S.mono g1,some (-1),L1,rfl,fun H2 α2 g2 A2=>⟨rfl,α2,g2,A2⟩⟩) fun vs s3 ⟨o,H3,I3,pu,ho,α3,g3,A3⟩=>?_
  subst ho
  have I4:L2.Inv X pins σ H3 { s3 with heap:=s3.heap.push { cls:=.type "slice",data:=.fields #[.none,.none,vs] } }:=I3.kept (t':=s3.toks) fun b ob q=>aE _ q
  have rr:RepU X.K H3 α3 (.tup l) (.ref a):=(show RepU X.K H1 α1 (.tup l) (.ref a) by unfold RepU;exact ⟨a,xs,rfl,sq,r⟩).mono g3
  unfold RepU at rr
  obtain ⟨a3,xs3,ha3,sq3,r3⟩:=rr
  cases ha3
  obtain ⟨its,rv,ht,hz⟩:=I4.tuple sq3
  have hlen:=rv.length
  show wpAny (model X.prog X.w) X.A (subscriptTail e (.Slice none none _ p2) (.ref _) (.ref s3.heap.objs.size)) (EP X pins σ Q) X.xe { s3 with heap:=s3.heap.push { cls:=.type "slice",data:=.fields #[.none,.none,vs] } }
  refine sG (ops:=[.ref _,.ref s3.heap.objs.size]) ht.typeIs dQ.lookup ?_ (by with_unfolding_all rfl)
  refine HT.Nb ht (lU ..) pu ?_ (by omega)
  obtain ⟨g4,A4,r4⟩:=A3.tup r3.rev (I4.hok.fresh (aS _))
  refine ⟨.ref _,_,I4.laid (t':=s3.toks) (o:=.tup xs3.reverse) (fun b ob q=>aE _ q) (aS _) ?_,rfl,q _ _ _ (g1.trans (g3.trans g4)) A4 r4⟩
  exact ⟨by rw[bY];exact hz,_,Vals.rev rv,TupN.new _ _⟩
 | _=>cases ee
end
structure ClsF(K:aJ)(C:Str)(Ca:Addr):Prop where
 ns:bP K bJ C=some (some (.ref Ca))
 cl:Cls K Ca
theorem ClsF.eq{K:aJ}{C:Str}{Ca Cb:Addr}(T:ClsF K C Ca)(h:bP K bJ C=some (some (.ref Cb))):Cb=Ca:=by
 have:=T.ns.symm.trans h
 simpa using this.symm
section
variable {X:Cx}{o e value:Expr}{es:List Expr}{f m C x:Str}{p pos pos' apos:Pos}{Ca fa:Addr}{fd:cU}{ps:List Str}{k n:Nat}{F:FN}{fe fo fv:FE}{g:FA}
end
end MR
namespace ZT
open PySem PySem.Spec PyProof.Rows
open Sem (wp)
noncomputable def SqK(b:Bool)(h:Heap)(l:Addr)(xs:Array aG):Prop:=match b with
 | true=>h.IsList l xs
 | false=>h.IsTuple l xs
noncomputable def ItK(b:Bool)(h:Heap)(jt l:Addr)(k:Nat):Prop:=match b with
 | true=>h.IsListIter jt l k
 | false=>h.IsTupleIter jt l k
variable {b:Bool}{h h':Heap}{l:Addr}{xs:Array aG}
theorem SqK.keep(x:SqK b h l xs)(e:∀ o,h.get? l=some o->h'.get? l=some o):SqK b h' l xs:=by
 cases b with
 | true=>obtain ⟨o,ho,r⟩:=x;exact ⟨o,e _ ho,r⟩
 | false=>obtain ⟨o,ho,r⟩:=x;exact ⟨o,e _ ho,r⟩
variable {jt:Addr}{k:Nat}
theorem ItK.keep(x:ItK b h jt l k)(e:∀ o,h.get? jt=some o->h'.get? jt=some o):ItK b h' jt l k:=by
 cases b with
 | true=>obtain ⟨o,ho,r⟩:=x;exact ⟨o,e _ ho,r⟩
 | false=>obtain ⟨o,ho,r⟩:=x;exact ⟨o,e _ ho,r⟩
theorem ItK.lt(x:ItK b h jt l k):jt < h.objs.size:=by
 cases b with
 | true=>obtain ⟨o,ho,r⟩:=x;exact bF ho
 | false=>obtain ⟨o,ho,r⟩:=x;exact bF ho
theorem ItK.obj(x:ItK b h jt l k):∃ o,h.get? jt=some o/\o.data = .fields #[.ref l,.int k 0]:=by
 cases b with
 | true=>obtain ⟨o,ho,_,r⟩:=x;exact ⟨o,ho,r⟩
 | false=>obtain ⟨o,ho,_,r⟩:=x;exact ⟨o,ho,r⟩
variable {its:Array aG}{Q:aG->aR->Prop}
section
variable {prog:cX}{w:eG}{A:eE}{E:aG->aR->Prop}{s:aR}
theorem W2{t:Addr}{v:aG}(hj:s.heap.IsTupleIter jt t k)(ht:s.heap.IsTuple t its)(hv:its[k]? = some v)
  (hQ:∀ h',h'.IsTupleIter jt t (k+1)->lJ jt s.heap h'->Q v { s with heap:=h' }):wpAny (model prog w) A (cW (.ref jt)) Q E s:=by
 obtain ⟨ob,hob,hcl,hda⟩:=id hj
 obtain ⟨ot,hot,_,nt,hdt⟩:=ht
 unfold cW
 refine aD (eN (name:=dM "__next__") hj.typeIs gL (fL gL hj.typeIs lL ?_ (kW _)))
 show wpAny _ _ (field (.ref jt) 0 >>= _) _ _ s
 refine aD (dR hob hda (x:=.ref t) rfl ?_)
 show wpAny _ _ (if (eD t == fH)=true then _ else _) _ _ s
 rw[if_neg (show ¬ ((eD t == fH)=true) from (fun z=>cM z))]
 show wpAny _ _ (field (.ref jt) 1 >>= _) _ _ s
 refine aD (dR hob hda (x:=.int k 0) rfl ?_)
 show wpAny _ _ (seqItems? (.ref t) >>= fun z=>_) _ _ s
 refine aD (eU hot hdt ?_)
 simp only[eJ,hv]
 refine aD (wpAny_setField hob hda (by simp) (bC ⟨v,rfl,bC (hQ _ ?_ (dU ..))⟩))
 exact ⟨_,kE _ hob (Obj.isFreed_of_fields (pT hda _)),(Obj.cls_mapFields ..).trans hcl,by rw[pT hda];simp[rawInt]⟩
theorem Su{t:Addr}(hh:A.handled=none)(hj:s.heap.IsTupleIter jt t k)(ht:s.heap.IsTuple t its)(hv:its[k]? = none)
  (hE:∀ h' e,mK jt s.heap h'->(∃ ob,h'.get? e=some ob/\ob.cls = .type "StopIteration")->E (.ref e) { s with heap:=h' }):wpAny (model prog w) A (cW (.ref jt)) Q E s:=by
 obtain ⟨ob,hob,hcl,hda⟩:=id hj
 obtain ⟨ot,hot,_,nt,hdt⟩:=ht
 unfold cW
 refine aD (eN (name:=dM "__next__") hj.typeIs gL (fL gL hj.typeIs lL ?_ (kW _)))
 show wpAny _ _ (field (.ref jt) 0 >>= _) _ _ s
 refine aD (dR hob hda (x:=.ref t) rfl ?_)
 show wpAny _ _ (if (eD t == fH)=true then _ else _) _ _ s
 rw[if_neg (show ¬ ((eD t == fH)=true) from (fun z=>cM z))]
 show wpAny _ _ (field (.ref jt) 1 >>= _) _ _ s
 refine aD (dR hob hda (x:=.int k 0) rfl ?_)
 show wpAny _ _ (seqItems? (.ref t) >>= fun z=>_) _ _ s
 refine aD (eU hot hdt ?_)
 simp only[eJ,hv]
 refine aD (nV (aD (wpAny_setField hob hda (by simp) ?_)))
 show wpAny _ _ (newExc (.type "StopIteration") [] >>= fun z=>_) _ _ _
 refine aD ?_
 simp only[newExc,newTuple];refine aD (dD ?_ (by size_fits))
 refine aD (m:=firstArgMember _ _) (rO (a:=fH) (by first | rfl | (simp only[firstArgMember];rfl)) (dD ?_ (by size_fits)))
 simp only[raiseNew];refine aD (wpAny_handled ?_)
 first | rw[show A.in1.handled=none from hh] | (rw[hh])
 exact aD (bC (wpAny_throw (hE _ _ (((dU ..).extBut.push _).push _) ⟨_,bE _ rfl,rfl⟩)))
theorem Ym{v:aG}(hj:ItK b s.heap jt l k)(hl:SqK b s.heap l its)(hv:its[k]? = some v)
  (hQ:∀ h',ItK b h' jt l (k+1)->lJ jt s.heap h'->Q v { s with heap:=h' }):wpAny (model prog w) A (cW (.ref jt)) Q E s:=by
 cases b with
 | true=>exact wpAny_nextOf_list_item hj hl hv hQ
 | false=>exact W2 hj hl hv hQ
theorem Ae0(hh:A.handled=none)(hj:ItK b s.heap jt l k)(hl:SqK b s.heap l its)(hv:its[k]? = none)
  (hE:∀ h' e,mK jt s.heap h'->(∃ ob,h'.get? e=some ob/\ob.cls = .type "StopIteration")->E (.ref e) { s with heap:=h' }):wpAny (model prog w) A (cW (.ref jt)) Q E s:=by
 cases b with
 | true=>exact wpAny_nextOf_list_end hh hj hl hv hE
 | false=>exact Su hh hj hl hv hE
theorem SqK.but{c:Addr}(x:SqK b h l xs)(e:mK c h h')(hne:l≠c):SqK b h' l xs:=x.keep fun o q=>e l o hne q
theorem ItK.but{c:Addr}(x:ItK b h jt l k)(e:mK c h h')(hne:jt≠c):ItK b h' jt l k:=x.keep fun o q=>e jt o hne q
variable {b1 b2:Bool}{z TI TO j1 j2 l1 l2:Addr}{k1 k2:Nat}{ys:Array aG}{a b:aG}
theorem Ah3{x y:aG}(D:oX z TI TO j1 j2 l1 l2)(hz:lY s.heap z TI TO .none)(hI:gU s.heap TI (.ref j1) (.ref j2))(hO:gU s.heap TO a b)
  (h1:ItK b1 s.heap j1 l1 k1) (h2:ItK b2 s.heap j2 l2 k2) (g1:SqK b1 s.heap l1 xs) (g2:SqK b2 s.heap l2 ys) (hx:xs[k1]? = some x) (hy:ys[k2]? = some y)
  (hQ:∀ h',lY h' z TI TO (rawInt s.heap.objs.size)->gU h' TO x y->ItK b1 h' j1 l1 (k1+1)->ItK b2 h' j2 l2 (k2+1)->gU h' s.heap.objs.size x y->h'.objs.size=s.heap.objs.size+1 ->
   (∀ c o,c≠z->c≠TO->c≠j1->c≠j2->s.heap.get? c=some o->h'.get? c=some o)->Q (.ref s.heap.objs.size) { s with heap:=h' }) :
  wpAny (model prog w) A (nM.«zip.__next__» ⟨[.ref z],[]⟩) (fun fin s'=>∃ v,fin = .done (.ret v)/\Q v s') E s:=by
 show wpAny _ _ (field (.ref z) 2 >>= fun q=>_) _ _ _
 refine aD (dR hz rfl (x:=.bool false) rfl ?_);show wpAny _ _ (field (.ref z) 3 >>= _) _ _ _
 refine aD (dR hz rfl (x:=.ref TI) rfl (aD (eU hI rfl ?_)))
 show wpAny _ _ (eV (.ref z) >>= fun q=>_) _ _ _
 refine aD ?_;unfold eV
 refine aD (dR hz rfl (x:=.none) rfl (bC ?_));simp only[if_true]
 refine aD (nV (aD (dR hz rfl (x:=.ref TO) rfl (aD (gO hz (by simp) fun p1 z1 s1=>?_)))))
 replace z1:lY p1 z TI TO .ellipsis:=z1
 refine aD ?_;simp only[rD,rV,kR,oZ]
 refine aD (aD (mS ?_));show wpAny _ _ (cW (.ref j1) >>= _) _ _ _
 refine aD (Ym (h1.but s1.extBut D.i1z) (g1.but s1.extBut D.l1z) hx fun p2 i2 s2=>bC ?_)
 have O2:gU p2 TO a b:=s2.extBut _ _ D.TOi1 (s1.extBut _ _ D.TOz hO)
 refine aD (eU O2 rfl (aD (kO O2 fun p3 O3 s3=>?_)))
 replace O3:gU p3 TO x b:=O3
 refine aD (iX (bC ?_));refine aD (aD (mS ?_))
 show wpAny _ _ (cW (.ref j2) >>= fun q=>_) _ _ _
 refine aD (Ym (((h2.but s1.extBut D.i2z).but s2.extBut D.i12.symm).but s3.extBut D.TOi2.symm) (((g2.but s1.extBut D.l2z).but s2.extBut D.l2i1).but s3.extBut D.l2TO) hy fun p4 i4 s4=>bC ?_)
 have O4:gU p4 TO x b:=s4.extBut _ _ D.TOi2 O3
 refine aD (eU O4 rfl (aD (kO O4 fun p5 O5 s5=>?_)))
 replace O5:gU p5 TO x y:=O5
 refine aD (iX (bC (bC ?_)));refine aD (eU O5 rfl (aD (wpAny_newTuple ?_)))
 have hsz:p5.objs.size=s.heap.objs.size:=by rw[s5.1,s4.1,s3.1,s2.1,s1.1]
 have z5:lY p5 z TI TO .ellipsis:=s5.extBut _ _ D.TOz.symm (s4.extBut _ _ D.i2z.symm (s3.extBut _ _ D.TOz.symm (s2.extBut _ _ D.i1z.symm z1)))
 have k5:∀ c o,c≠z->c≠TO->c≠j1->c≠j2->s.heap.get? c=some o->p5.get? c=some o:=fun c o c1 c2 c3 c4 e=>s5.extBut _ _ c2 (s4.extBut _ _ c4 (s3.extBut _ _ c2 (s2.extBut _ _ c3 (s1.extBut _ _ c1 e))))
 have i15:ItK b1 p5 j1 l1 (k1+1):=((i2.but s3.extBut D.TOi1.symm).but s4.extBut D.i12).but s5.extBut D.TOi1.symm
 have i25:ItK b2 p5 j2 l2 (k2+1):=i4.but s5.extBut D.TOi2.symm
 have zlt:z < p5.objs.size:=bF z5
 show wpAny _ _ (jD (.ref z) (.ref p5.objs.size) >>= fun q=>_) _ _ _
 refine aD ?_;unfold jD
 have z6:lY (p5.push { cls:=.type "tuple",data:=.seq #[x,y] }) z TI TO .ellipsis:=aE _ z5
 refine aD (gO z6 (by simp) fun p7 z7 s7=>?_)
 replace z7:lY p7 z TI TO (rawInt p5.objs.size):=z7
 refine gO z7 (by simp) fun p8 z8 s8=>?_
 replace z8:lY p8 z TI TO (rawInt p5.objs.size):=z8
 have up:∀ c o,c≠z->p5.get? c=some o->p8.get? c=some o:=fun c o c1 e=>s8.extBut _ _ c1 (s7.extBut _ _ c1 (aE _ e))
 have t8:gU p8 p5.objs.size x y:=s8.extBut _ _ (iI zlt) (s7.extBut _ _ (iI zlt) (bE _ rfl))
 have e8:p8.objs.size=p5.objs.size+1:=by rw[s8.1,s7.1,dG]
 rw[hsz] at z8 t8 e8
 refine bC ⟨_,rfl,?_⟩
 show Q (.ref p5.objs.size) _
 rw[hsz]
 exact hQ p8 z8 (up _ _ D.TOz O5) (i15.keep fun o e=>up _ o D.i1z e) (i25.keep fun o e=>up _ o D.i2z e) t8 e8 fun c o c1 c2 c3 c4 e=>up c o c1 (k5 c o c1 c2 c3 c4 e)
theorem Ana{Q:Fin->aR->Prop}(hh:A.handled=none)(D:oX z TI TO j1 j2 l1 l2)(hz:lY s.heap z TI TO .none)(hI:gU s.heap TI (.ref j1) (.ref j2))(hO:gU s.heap TO a b)
  (h1:ItK b1 s.heap j1 l1 k1) (h2:ItK b2 s.heap j2 l2 k2) (g1:SqK b1 s.heap l1 xs) (g2:SqK b2 s.heap l2 ys) (hend:xs[k1]? = none\/ys[k2]? = none)
  (hE:∀ h' e,(∀ c o,c≠z->c≠TO->c≠j1->c≠j2->s.heap.get? c=some o->h'.get? c=some o)->(∃ ob,h'.get? e=some ob/\ob.cls = .type "StopIteration")->E (.ref e) { s with heap:=h' }) :
  wpAny (model prog w) A (nM.«zip.__next__» ⟨[.ref z],[]⟩) Q E s:=by
 show wpAny _ _ (field (.ref z) 2 >>= fun q=>_) _ _ _
 refine aD (dR hz rfl (x:=.bool false) rfl ?_);show wpAny _ _ (field (.ref z) 3 >>= _) _ _ _
 refine aD (dR hz rfl (x:=.ref TI) rfl (aD (eU hI rfl ?_)))
 show wpAny _ _ (eV (.ref z) >>= fun q=>_) _ _ _
 refine aD ?_;unfold eV
 refine aD (dR hz rfl (x:=.none) rfl (bC ?_));simp only[if_true]
 refine aD (nV (aD (dR hz rfl (x:=.ref TO) rfl (aD (gO hz (by simp) fun p1 z1 s1=>?_)))))
 replace z1:lY p1 z TI TO .ellipsis:=z1
 refine aD ?_;simp only[rD,rV,kR,oZ]
 refine aD (aD (mS ?_));show wpAny _ _ (cW (.ref j1) >>= _) _ _ _
 cases hx:xs[k1]? with
 | none=>
  refine aD (Ae0 hh (h1.but s1.extBut D.i1z) (g1.but s1.extBut D.l1z) hx fun p2 e s2 he=>?_)
  obtain ⟨oe,hoe,hce⟩:=he
  have z2:lY p2 z TI TO .ellipsis:=s2 _ _ D.i1z.symm z1
  have hez:e≠z:=fun q=>by subst q;rw[z2] at hoe;cases hoe;simp at hce
  refine gO z2 (by simp) fun p3 _ s3=>hE p3 e (fun c o c1 _ c3 _ q=>s3.extBut _ _ c1 (s2 _ _ c3 (s1.extBut _ _ c1 q))) ⟨oe,s3.extBut _ _ hez hoe,hce⟩
 | some x=>
  have hy:ys[k2]? = none:=by rcases hend with h | h;(rw[hx] at h;cases h);exact h
  refine aD (Ym (h1.but s1.extBut D.i1z) (g1.but s1.extBut D.l1z) hx fun p2 i2 s2=>bC ?_)
  have O2:gU p2 TO a b:=s2.extBut _ _ D.TOi1 (s1.extBut _ _ D.TOz hO)
  refine aD (eU O2 rfl (aD (kO O2 fun p3 O3 s3=>?_)))
  refine aD (iX (bC ?_));refine aD (aD (mS ?_))
  show wpAny _ _ (cW (.ref j2) >>= fun q=>_) _ _ _
  refine aD (Ae0 hh (((h2.but s1.extBut D.i2z).but s2.extBut D.i12.symm).but s3.extBut D.TOi2.symm) (((g2.but s1.extBut D.l2z).but s2.extBut D.l2i1).but s3.extBut D.l2TO) hy fun p4 e s4 he=>?_)
  obtain ⟨oe,hoe,hce⟩:=he
  have z4:lY p4 z TI TO .ellipsis:=s4 _ _ D.i2z.symm (s3.extBut _ _ D.TOz.symm (s2.extBut _ _ D.i1z.symm z1))
  have hez:e≠z:=fun q=>by subst q;rw[z4] at hoe;cases hoe;simp at hce
  refine gO z4 (by simp) fun p5 _ s5=>hE p5 e (fun c o c1 c2 c3 c4 q=>s5.extBut _ _ c1 (s4 _ _ c4 (s3.extBut _ _ c2 (s2.extBut _ _ c3 (s1.extBut _ _ c1 q))))) ⟨oe,s5.extBut _ _ hez hoe,hce⟩
theorem Aim{x y:aG}{Q:Option aG->aR->Prop}(D:oX z TI TO j1 j2 l1 l2)(hz:lY s.heap z TI TO .none)(hI:gU s.heap TI (.ref j1) (.ref j2))(hO:gU s.heap TO a b)
  (h1:ItK b1 s.heap j1 l1 k1) (h2:ItK b2 s.heap j2 l2 k2) (g1:SqK b1 s.heap l1 xs) (g2:SqK b2 s.heap l2 ys) (hx:xs[k1]? = some x) (hy:ys[k2]? = some y)
  (hQ:∀ h',lY h' z TI TO (rawInt s.heap.objs.size)->gU h' TO x y->ItK b1 h' j1 l1 (k1+1)->ItK b2 h' j2 l2 (k2+1)->gU h' s.heap.objs.size x y->h'.objs.size=s.heap.objs.size+1 ->
   (∀ c o,c≠z->c≠TO->c≠j1->c≠j2->s.heap.get? c=some o->h'.get? c=some o)->Q (some (.ref s.heap.objs.size)) { s with heap:=h' }) :
  wpAny (model prog w) A (pyNext (.ref z)) Q E s:=by
 have ty:s.TypeIs (.ref z) "zip" := ⟨_,hz,rfl⟩
 unfold pyNext
 exact aD (mT (eN (name:=dM "__next__") ty kX (fL kX ty rE (Ah3 D hz hI hO h1 h2 g1 g2 hx hy fun h' q1 q2 q3 q4 q5 q6 q7=>bC (hQ h' q1 q2 q3 q4 q5 q6 q7)) (qI _))))
theorem Amw{Q:Option aG->aR->Prop}(hh:A.handled=none)(D:oX z TI TO j1 j2 l1 l2)(hz:lY s.heap z TI TO .none)(hI:gU s.heap TI (.ref j1) (.ref j2))(hO:gU s.heap TO a b)
  (h1:ItK b1 s.heap j1 l1 k1) (h2:ItK b2 s.heap j2 l2 k2) (g1:SqK b1 s.heap l1 xs) (g2:SqK b2 s.heap l2 ys) (hend:xs[k1]? = none\/ys[k2]? = none)
  (hQ:∀ h',(∀ c o,c≠z->c≠TO->c≠j1->c≠j2->s.heap.get? c=some o->h'.get? c=some o)->Q none { s with heap:=h' }):wpAny (model prog w) A (pyNext (.ref z)) Q E s:=by
 have ty:s.TypeIs (.ref z) "zip" := ⟨_,hz,rfl⟩
 unfold pyNext
 refine aD (mT (eN (name:=dM "__next__") ty kX (fL kX ty rE (Ana hh D hz hI hO h1 h2 g1 g2 hend fun h' e hk he=>?_) (qI _))))
 obtain ⟨ob,hob,hcl⟩:=he
 exact aD (rF (T := "StopIteration") (b:=true) ⟨ob,hob,hcl⟩ isSubtype_stop (bC (hQ _ hk)))
end
abbrev zh1(c1:String)(h:Heap)(l1:Addr):Heap:=h.push { cls:=.type c1,data:=.fields #[.ref l1,.int 0 0] }
abbrev zh2(c1 c2:String)(h:Heap)(l1 l2:Addr):Heap:=(zh1 c1 h l1).push { cls:=.type c2,data:=.fields #[.ref l2,.int 0 0] }
abbrev zh3(c1 c2:String)(h:Heap)(l1 l2:Addr):Heap:=(zh2 c1 c2 h l1 l2).push { cls:=.type "tuple",data:=.seq #[.ref h.objs.size,.ref (zh1 c1 h l1).objs.size] }
abbrev zh4(c1 c2:String)(h:Heap)(l1 l2:Addr):Heap:=(zh3 c1 c2 h l1 l2).push { cls:=.type "tuple",data:=.seq #[.none,.none] }
abbrev zh5(c1 c2:String)(h:Heap)(l1 l2:Addr):Heap:=(zh4 c1 c2 h l1 l2).push { cls:=.type "zip",data:=.fields #[.none,.bool false,.bool false,.ref (zh2 c1 c2 h l1 l2).objs.size,.ref (zh3 c1 c2 h l1 l2).objs.size] }
theorem Amy (l1 l2 : Addr) (xs ys : Array aG) : Meets (nM.«zip.__new__» ⟨[.type "zip", .ref l1, .ref l2], []⟩) (fun _ R s => s.heap.IsTuple l1 xs /\ s.heap.IsTuple l2 ys /\
   R (.ok (.ret (.ref (zh4 "tuple_iterator" "tuple_iterator" s.heap l1 l2).objs.size))) { s with heap:=zh5 "tuple_iterator" "tuple_iterator" s.heap l1 l2 }):=
 .of_wp fun prog w A R s h=>by
  obtain ⟨hp,g,d,tk,os⟩:=s
  obtain ⟨t1,t2,h⟩:=h
  have hsub:=sub_zip
  have T1:qJ (rP ⟨hp,g,d,tk,os⟩) l1 xs:=t1
  have T2:qJ (rP ⟨hp.push { cls:=.type "tuple_iterator",data:=.fields #[.ref l1,.int 0 0] },g,d,tk,os⟩) l2 ys:=qJ.push t2 _
  wp_walk using fJ T1,fJ T2
  exact ⟨_,rfl,h⟩
section
variable {prog:cX}{w:eG}{A:eE}{E:aG->aR->Prop}{s:aR}
theorem Ahj{l1 l2:Addr}{ys:Array aG}(t1:s.heap.IsTuple l1 xs)(t2:s.heap.IsTuple l2 ys)
  (h:∀ h',lY h' (s.heap.objs.size+4) (s.heap.objs.size+2) (s.heap.objs.size+3) .none->gU h' (s.heap.objs.size+2) (.ref s.heap.objs.size) (.ref (s.heap.objs.size+1)) ->
   gU h' (s.heap.objs.size+3) .none .none->ItK false h' s.heap.objs.size l1 0->ItK false h' (s.heap.objs.size+1) l2 0->(∀ c o,s.heap.get? c=some o->h'.get? c=some o)->Q (.ref (s.heap.objs.size+4)) { s with heap:=h' }) :
  wpAny (model prog w) A (call (.type "zip") [.ref l1,.ref l2]) Q E s:=by
 refine callType_new F.called_zip (by decide) (F.typeCall_zip_2 _ _) (F.newCall_zip_2 _ _) (fun obj=>F.args_object_init_3 obj _ _) F.entry_zip_new (Amy l1 l2 xs ys) ⟨t1,t2,?_⟩
 have z1:(zh1 "tuple_iterator" s.heap l1).objs.size=s.heap.objs.size+1:=dG ..
 have z2:(zh2 "tuple_iterator" "tuple_iterator" s.heap l1 l2).objs.size=s.heap.objs.size+2:=by rw[dG,z1]
 have z3:(zh3 "tuple_iterator" "tuple_iterator" s.heap l1 l2).objs.size=s.heap.objs.size+3:=by rw[dG,z2]
 have z4:(zh4 "tuple_iterator" "tuple_iterator" s.heap l1 l2).objs.size=s.heap.objs.size+4:=by rw[dG,z3]
 have q5:(zh5 "tuple_iterator" "tuple_iterator" s.heap l1 l2).get? (zh4 "tuple_iterator" "tuple_iterator" s.heap l1 l2).objs.size=some _:=bE _ rfl
 have q4:(zh5 "tuple_iterator" "tuple_iterator" s.heap l1 l2).get? (zh3 "tuple_iterator" "tuple_iterator" s.heap l1 l2).objs.size=some _:=aE _ (bE _ rfl)
 have q3:(zh5 "tuple_iterator" "tuple_iterator" s.heap l1 l2).get? (zh2 "tuple_iterator" "tuple_iterator" s.heap l1 l2).objs.size=some _:=aE _ (aE _ (bE _ rfl))
 have q2:(zh5 "tuple_iterator" "tuple_iterator" s.heap l1 l2).get? (zh1 "tuple_iterator" s.heap l1).objs.size=some _:=aE _ (aE _ (aE _ (bE _ rfl)))
 have q1:(zh5 "tuple_iterator" "tuple_iterator" s.heap l1 l2).get? s.heap.objs.size=some _:=aE _ (aE _ (aE _ (aE _ (bE _ rfl))))
 show _/\_
 rw[z2,z3,z4] at q5;rw[z1,z2] at q3;rw[z3] at q4
 rw[z1] at q2;rw[z4]
 exact ⟨⟨_,q5,rfl⟩,h _ q5 q3 q4 ⟨_,q1,rfl,rfl⟩ ⟨_,q2,rfl,rfl⟩ fun c o q=>aE _ (aE _ (aE _ (aE _ (aE _ q))))⟩
end
end ZT
namespace MR
open PySem PySem.Spec PyProof.Rows L2
noncomputable def SK(bb:Bool)(K:aJ)(H:Hp)(a:Addr)(xs:List V):Prop:=match bb with
 | true=>SqL K H a xs
 | false=>SqT K H a xs
variable {X:Cx}{H:Hp}{a:Addr}{xs:List V}
theorem SK.at{pins:List (Addr×Obj)}{σ:L2.St}{s:aR}{bb:Bool}(I:L2.Inv X pins σ H s)(h:SK bb X.K H a xs):∃ its:List aG,Vals xs its/\ZT.SqK bb s.heap a its.toArray/\xs.length<=sizeLine:=by
 cases bb with
 | true=>obtain ⟨its,r,p,z⟩:=I.list h;exact ⟨its,r,p.isList,z⟩
 | false=>obtain ⟨its,r,p,z⟩:=I.tuple h;exact ⟨its,r,p,z⟩
theorem SK.inj{pins:List (Addr×Obj)}{σ:L2.St}{s:aR}{bb:Bool}{ys:List V}(I:L2.Inv X pins σ H s)(h:SK bb X.K H a xs)(h':SK bb X.K H a ys):xs=ys:=by
 cases bb with
 | true=>exact I.list_inj h h'
 | false=>exact I.tuple_inj h h'
noncomputable def Amz(b1 b2:Bool)(K:aJ)(a b:Addr):It:=
 ⟨fun i H=>∃ xs ys x y,SK b1 K H a xs/\SK b2 K H b ys/\xs[i]? = some x/\ys[i]? = some y,fun i H z H'=>∃ p x y,H p=none/\z = .ref p/\H'=upd H p (.tup [x,y])/\(∀ xs,SK b1 K H a xs->xs[i]? = some x)/\∀ ys,SK b2 K H b ys->ys[i]? = some y,
  fun i H=>∃ xs ys,SK b1 K H a xs/\SK b2 K H b ys/\(xs.length<=i\/ys.length<=i)⟩
theorem Ad0{b1 b2:Bool}{P:cX}{w:eG}{K:aJ}{elts:List Expr}{x1}{pos:Pos}(a b z TI TO i1 i2:Addr)(D:oX z TI TO i1 i2 a b):Turn P w K (.Tuple elts x1 pos) (Amz b1 b2 K a b) [z,TI,TO,i1,i2] z
  (fun i h=>lY h z TI TO .none/\gU h TI (.ref i1) (.ref i2)/\(∃ u v,gU h TO u v)/\ZT.ItK b1 h i1 a i/\ZT.ItK b2 h i2 b i) where
 mem:=by simp
 obj:=fun i h st c hb=>by
  obtain ⟨h1,h2,⟨u,v,h3⟩,h4',h5'⟩:=st
  obtain ⟨o4,h4,d4⟩:=h4'.obj
  obtain ⟨o5,h5,d5⟩:=h5'.obj
  simp only[bH,eB,or_false] at hb
  rcases hb with rfl | rfl | rfl | rfl | rfl
  ·exact ⟨_,h1,fun v z=>by simp at z⟩
  ·exact ⟨_,h2,fun v z=>by simp at z⟩
  ·exact ⟨_,h3,fun v z=>by simp at z⟩
  ·exact ⟨_,h4,fun v z=>by rw[d4] at z;cases z⟩
  ·exact ⟨_,h5,fun v z=>by rw[d5] at z;cases z⟩
 keep:=fun i h h' st k=>by
  obtain ⟨h1,h2,⟨u,v,h3⟩,h4,h5⟩:=st
  exact ⟨k z (by simp) _ h1,k TI (by simp) _ h2,⟨u,v,k TO (by simp) _ h3⟩,h4.keep (k i1 (by simp)),h5.keep (k i2 (by simp))⟩
 item:=by
  intro X hP hw hK hc i pins s σ H E I hf st hg
  subst hP hw hK
  obtain ⟨h1,h2,⟨u0,v0,h3⟩,h4,h5⟩:=st
  obtain ⟨xs,ys,x,y,sq1,sq2,hx,hy⟩:=hg
  obtain ⟨its1,hv1,pl1,hz1⟩:=SK.at I sq1
  obtain ⟨its2,hv2,pl2,hz2⟩:=SK.at I sq2
  obtain ⟨u,hu,r⟩:=hv1.get hx
  obtain ⟨u',hu',r'⟩:=hv2.get hy
  refine ZT.Aim D h1 h2 h3 h4 h5 pl1 pl2 (by simpa using hu) (by simpa using hu') fun h' o1 o2 o3 o4 o5 o6 o7=>?_
  refine ⟨_,rfl,?_⟩
  have hfr:H s.heap.objs.size=none:=I.hok.fresh (aS _)
  have I1:L2.Inv X pins σ (upd H s.heap.objs.size (.tup [x,y])) { s with heap:=h',toks:=s.toks }:=
   Inv.turnNew (ch:=[z,TI,TO,i1,i2]) I hf (fun c o hb q=>o7 c o (fun z=>hb (by simp[z])) (fun z=>hb (by simp[z])) (fun z=>hb (by simp[z])) (fun z=>hb (by simp[z])) q) (aS _)
    (show ObjOk X.prog X.w _ h' _ (.tup [x,y]) from ⟨by show 2<=sizeLine;decide,[u,u'],.cons r (.cons r' .nil),⟨_,o5,rfl,_,rfl⟩⟩)
  refine wpAny_letOwnedTupleGo_zip o1 fun h9 e2 sb2=>?_
  have hlt:∀ c∈[z,TI,TO,i1,i2],c < s.heap.objs.size:=fun c hb=>by
   simp only[bH,eB,or_false] at hb
   rcases hb with rfl | rfl | rfl | rfl | rfl
   ·exact bF h1
   ·exact bF h2
   ·exact bF h3
   ·exact h4.lt
   ·exact h5.lt
  have hnone:∀ c∈[z,TI,TO,i1,i2],(upd H s.heap.objs.size (.tup [x,y])) c=none:=fun c hb=>by rw[Ap (cC (hlt c hb))];exact (hf c hb).1
  obtain ⟨f0,f1,f2,f3,f4,f5⟩:=hf z (by simp)
  have I2:=I1.turned (t':=s.toks) (h':=h9) (it:=z) (fun c o hb q=>sb2.2 c hb |>.trans q) (hnone z (by simp)) f1 f3 f4 f5
  have hTI:gU h' TI (.ref i1) (.ref i2):=o7 TI _ D.TIz D.TITO D.TIi1 D.TIi2 h2
  refine ⟨.ref s.heap.objs.size,_,I2,rfl,⟨_,x,y,hfr,rfl,rfl,fun ys sq'=>?_,fun ys sq'=>?_⟩,⟨e2,(sb2.2 TI D.TIz).trans hTI,⟨_,_,(sb2.2 TO D.TOz).trans o2⟩,o3.keep (fun o q=>(sb2.2 i1 D.i1z).trans q),o4.keep (fun o q=>(sb2.2 i2 D.i2z).trans q)⟩,hnone⟩
  ·rw[SK.inj I sq' sq1];exact hx
  ·rw[SK.inj I sq' sq2];exact hy
 done:=by
  intro X hP hw hK hc i pins s σ H E I hf st hg
  subst hP hw hK
  obtain ⟨h1,h2,⟨u0,v0,h3⟩,h4,h5⟩:=st
  obtain ⟨xs,ys,sq1,sq2,hx⟩:=hg
  obtain ⟨its1,hv1,pl1,hz1⟩:=SK.at I sq1
  obtain ⟨its2,hv2,pl2,hz2⟩:=SK.at I sq2
  have hl1:=hv1.length
  have hl2:=hv2.length
  refine ZT.Amw (I.ok.hd hc) D h1 h2 h3 h4 h5 pl1 pl2 (by simp;omega) fun h' k=>⟨rfl,?_⟩
  have nch:∀ b u,H b=some u->b∉[z,TI,TO,i1,i2]:=fun b u e hb=>by rw[(hf b hb).1] at e;cases e
  have k':∀ b o,b∉[z,TI,TO,i1,i2]->s.heap.get? b=some o->h'.get? b=some o:=fun c o hb q=>k c o (fun z=>hb (by simp[z])) (fun z=>hb (by simp[z])) (fun z=>hb (by simp[z])) (fun z=>hb (by simp[z])) q
  refine I.step (g':=s.gens) (d':=s.drawn) (t':=s.toks) (ch:=[z,TI,TO,i1,i2]) (fun b hb=>?_) (fun b o _ _ hc e _=>k' b o hc e) (fun b o _ _ hc e _=>⟨o.slots,k' b o hc e⟩) (fun _ _ _ _ n=>n) (fun b u hc e=>⟨u,k' b u hc e⟩) (fun _ _ e=>e) (fun _ _ _ e=>e) (fun b ps e=>⟨#[],by rw[e];simp⟩) (fun m hm=>?_) (fun b u e=>?_) I.bare
  ·obtain ⟨_,f1,_,f3,f4,f5⟩:=hf b hb
   exact ⟨f3,f1,f4,f5⟩
  ·obtain ⟨o1,es,ep,ho,r⟩:=hm
   exact ⟨o1,es,ep,k' _ o1 (fun z=>(hf _ z).2.1 rfl) ho,r⟩
  ·refine (I.hok b u e).stay (fun c v hc q=>k' c v ?_ q) (fun _ q=>q) fun _ _ q=>q
   rcases hc with z | z
   ·rw[z];exact nch b u e
   ·exact nch c _ z
 self:=fun _ _ _ _ _ st h=>rG st.1 h
section
variable {elts:List Expr}{x1:Nat}{tpos:Pos}
noncomputable def Ao9(K:aJ)(ta:TA):TI:=fun σ H R=>ta σ H fun vs H1=>∃ a b xs ys,vs=[.ref a,.ref b]/\SqT K H1 a xs/\SqT K H1 b ys/\R (Amz false false K a b) H1
theorem Ajv{a b:Expr}{ta:TA}{p pos:Pos}(hg:Gl X "zip")(hm:X.mg "zip" = none)(ha:PA X [a,b] ta)(hs:bQ [a,b] X.env=(false,eval a X.env)::bQ [b] X.env:=by rfl)(hpl:(backTo pos (bQ [b] X.env)).any (·.1)=false:=by rfl):PI X (.Tuple elts x1 tpos) (.Call (.Name "zip" p) [a,b] [] pos) (Ao9 X.K ta):=by
 intro pins s σ H R I h
 refine Call_ (Fq I hg hm Agp (cY (thn (ha pos pins s σ H _ I h) fun us s1 ⟨vs,H1,I1,r1,q1⟩=>?_) hs hpl))
 obtain ⟨l1,l2,xs,ys,rfl,sq1,sq2,q⟩:=q1
 obtain ⟨u,u',rfl,ru,ru'⟩:=Tu r1
 cases ru;cases ru'
 obtain ⟨its1,hv1,pl1,hz1⟩:=I1.tuple sq1
 obtain ⟨its2,hv2,pl2,hz2⟩:=I1.tuple sq2
 have lt1:l1 < s1.heap.objs.size:=by obtain ⟨o,e,_⟩:=pl1;exact bF e
 have lt2:l2 < s1.heap.objs.size:=by obtain ⟨o,e,_⟩:=pl2;exact bF e
 refine ZT.Ahj pl1 pl2 fun h' o1 o2 o3 o4 o5 o7=>?_
 have I2:L2.Inv X pins σ H1 { s1 with heap:=h' }:=I1.kept (t':=s1.toks) o7
 refine rG o1 ⟨_,_,_,_,H1,rfl,I2,Ad0 (b1:=false) (b2:=false) l1 l2 _ _ _ _ _ (Ad4 _ _ _ lt1 lt2),⟨o1,o2,⟨_,_,o3⟩,o4,o5⟩,fun b hb=>?_,q⟩
 have hb':s1.heap.objs.size<=b:=by
  simp only[bH,eB,or_false] at hb
  rcases hb with rfl | rfl | rfl | rfl | rfl <;> first | exact Nat.le_add_right _ _ | exact aS _
 exact L2.Inv.fpOk I1 hb' (I1.hok.fresh hb')
noncomputable def Lj(us ws:List U):List U:=(us.zip ws).map fun p=>.tup [p.1,p.2]
theorem Q8(us ws:List U)(k:Nat):(Lj us ws)[k]? = O9 us[k]? ws[k]?:=by
 unfold Lj
 rw[bO,List.zip,List.getElem?_zipWith]
 cases us[k]? <;> cases ws[k]? <;> rfl
theorem Ae1{K:aJ}{α:List Addr}{b:Addr}{us ws:List U}{ys:List V}(sa:SqT K H a xs)(sb:SqT K H b ys)(ra:RepL K H α us xs)(rb:RepL K H α ws ys):Nx K (Amz false false K a b) (.seq (Lj us ws)) H α:=by
 intro H2 α2 L2 g A2 k
 have mv:∀ (c:Addr) (vs:List U) (zs:List V),SqT K H c zs->RepL K H α vs zs->∃ zs2,SqT K H2 c zs2/\RepL K H2 α2 vs zs2:=fun c vs zs s r=>by
  have m:=(show RepU K H α (.tup vs) (.ref c) by unfold RepU;exact ⟨c,zs,rfl,s,r⟩).mono g
  unfold RepU at m
  obtain ⟨c',zs2,e,s2,r2⟩:=m
  cases e
  exact ⟨zs2,s2,r2⟩
 obtain ⟨xs2,sa2,ra2⟩:=mv a us xs sa ra
 obtain ⟨ys2,sb2,rb2⟩:=mv b ws ys sb rb
 refine ⟨fun u eu=>?_,fun eu=>?_⟩
 ·have eu:(Lj us ws)[k]? = some u:=by simpa[IU.at] using eu
  rw[Q8] at eu
  cases h1:us[k]? with
  | none=>rw[h1] at eu;simp[O9] at eu
  | some u1=>
   cases h2:ws[k]? with
   | none=>rw[h1,h2] at eu;simp[O9] at eu
   | some u2=>
    rw[h1,h2] at eu
    simp[O9] at eu
    subst eu
    obtain ⟨x,hx,rx⟩:=ra2.get h1
    obtain ⟨y,hy,ry⟩:=rb2.get h2
    refine ⟨⟨xs2,ys2,x,y,sa2,sb2,hx,hy⟩,?_⟩
    rintro z H3 ⟨p,v,v',hp,rfl,rfl,hy1,hy2⟩
    have e1:=hy1 xs2 sa2
    have e2:=hy2 ys2 sb2
    rw[hx] at e1;cases e1
    rw[hy] at e2;cases e2
    exact A2.tup (.cons rx (.cons ry .nil)) hp
 ·have eu:(Lj us ws)[k]? = none:=by simpa[IU.at] using eu
  rw[Q8] at eu
  refine ⟨xs2,ys2,sa2,sb2,?_⟩
  cases h1:us[k]? with
  | none=>left;rw[<- ra2.length];exact cV.mp h1
  | some u1=>
   cases h2:ws[k]? with
   | none=>right;rw[<- rb2.length];exact cV.mp h2
   | some u2=>rw[h1,h2] at eu;simp[O9] at eu
end
end MR
namespace MR
open PySem PySem.Spec PyProof.Rows PySem.Calls L2
theorem Ajb{bs:List Bool}:∀ {us:List aG},Vals (bs.map V.bl) us->∀ (i:Nat) (v:aG),us[i]? = some v->∃ b,bs[i]? = some b/\v = .bool b:=by
 induction bs with
 | nil=>intro us r i v e;rw[bW] at r;cases r;simp at e
 | cons n ns ih=>
  intro us r i v e
  rw[aW] at r
  cases r with
  | cons r1 r2=>
   cases i with
   | zero=>simp at e;subst e;exact ⟨n,rfl,r1⟩
   | succ i=>simpa using ih r2 i v (by simpa using e)
theorem Ajk{bs:List Bool}:∀ {us:List aG},Vals (bs.map V.bl) us->us.length=bs.length:=by
 induction bs with
 | nil=>intro us r;rw[bW] at r;cases r;rfl
 | cons n ns ih=>
  intro us r
  rw[aW] at r
  cases r with
  | cons r1 r2=>simp[ih r2]
theorem Aho(bs:List Bool):((aO bs.length).all fun i=>(bs[i]?).getD true)=bs.all id:=by
 rw[iR,bR,bR]
 constructor
 ·intro h b hb
  obtain ⟨i,hi,e⟩:=fE hb
  have:=h i (bG.mpr hi)
  simp only[aL hi,fM,e] at this
  exact this
 ·intro h i hi
  have hi':=bG.mp hi
  simp only[aL hi',fM]
  exact h _ (eO hi')
section
variable {X:Cx}
theorem Aam{s:aR}{h':Heap}{o:Obj}(hk:∀ b x,b∉[s.heap.objs.size]->(s.heap.push o).get? b=some x->h'.get? b=some x):∀ b x,s.heap.get? b=some x->h'.get? b=some x:=
 fun b x e=>hk b x (fun hm=>by rw[cB.mp hm] at e;exact bZ _ (bF e)) (aE _ e)
theorem Ade(hc:X.calm=true):CallR X (.builtin "all") (fun xs H Q=>∃ (p:Addr) (bs:List Bool),xs=[.ref p]/\SqL X.K H p (bs.map V.bl)/\Q (.bl (bs.all id)) H):=by
 intro pins s σ H xs us Q I r h
 obtain ⟨p,bs,rfl,hq,q⟩:=h
 obtain ⟨u,rfl,rx⟩:=Gz r
 cases rx
 obtain ⟨its,r',pl,hz⟩:=I.list hq
 have hl:=pl.isList
 have hlt:p < s.heap.objs.size:=by obtain ⟨_,e,_⟩:=hl;exact bF e
 refine call_all_walk (jU hl ?_)
 refine ⟨s.heap.objs.size,[s.heap.objs.size,p],[s.heap.objs.size],its.toArray.size,_,_,fun i=>(bs[i]?).getD true,rfl,nW (A:=pV _) (I.ok.hd hc) _ p (cC hlt) its.toArray,
  ⟨⟨_,bE _ rfl,rfl,rfl⟩,hl.push _⟩,fun i v s' Q' E' hP hQ=>?_,fun h' tk hk=>?_⟩
 ·obtain ⟨b,e,rfl⟩:=Ajb r' i v (by simpa using hP)
  simp only[e,fM] at hQ
  exact fA hQ
 ·have e:((aO its.toArray.size).all fun i=>(bs[i]?).getD true)=bs.all id:=by
   rw[aX,Ajk r'];exact Aho bs
  rw[e]
  exact ⟨.bl (bs.all id),H,I.kept (Aam hk),rfl,q⟩
end
noncomputable def toB:U->Option Bool
 | .bl b=>some b
 | _=>none
variable {K:aJ}
theorem Aaq{H:Hp}{α:List Addr}:∀ {us:List U} {xs:List V} {bs:List Bool},RepL K H α us xs->mapO toB us=some bs->xs=bs.map V.bl
 | [],xs,ys,r,h=>by unfold RepL at r;subst r;cases h;rfl
 | u::us,xs,ys,r,h=>by
  unfold RepL at r
  obtain ⟨x,xr,rfl,r1,r2⟩:=r
  obtain ⟨y,e1,h⟩:=aB.mp h
  obtain ⟨yr,e2,h⟩:=aH.mp h
  subst h
  cases u <;> simp only[toB] at e1 <;> first
   | (cases e1;unfold RepU at r1;subst r1;rw[Aaq r2 e2];rfl)
   | cases e1
noncomputable def Qz:SC:=fun us L=>match us with
 | [.ref n]=>(Ao L n).bind fun l=>(mapO toB l).map fun bs=>(.bl (bs.all id),L)
 | _=>none
theorem Aj4:Px K (fun xs H Q=>∃ (p:Addr) (bs:List Bool),xs=[.ref p]/\SqL K H p (bs.map V.bl)/\Q (.bl (bs.all id)) H) Qz:=by
 intro H α L us xs z L' Q A r e q
 unfold Qz at e
 split at e
 ·obtain ⟨l,hl,e⟩:=aB.mp e
  obtain ⟨bs,e1,e⟩:=aH.mp e
  cases e
  obtain ⟨x,rfl,rx⟩:=r.one
  obtain ⟨a,ys,rfl,sq,r2⟩:=Iy A hl rx
  rw[Aaq r2 e1] at sq
  exact ⟨a,bs,rfl,sq,q _ H α (.refl _ _) A rfl⟩
 ·cases e
section
variable {X:Cx}
end
noncomputable def Hv:SM:=fun u us L=>match u,us with
 | .ref n,[.ref m]=>(Fu L n).bind fun l=>(Fu L m).bind fun l'=>if l.length+l'.length<=sizeLine then some (.non,L.set n (.lst (l++l'))) else none
 | _,_=>none
theorem Yd:Vq K Aca Hv:=by
 intro H α L u us x xs z L' Q A ru r e q
 unfold Hv at e
 split at e
 ·obtain ⟨l,hl,e⟩:=aB.mp e
  obtain ⟨l',hl',e⟩:=aB.mp e
  split at e
  ·rename_i hs
   cases e
   obtain ⟨v,rfl,rv⟩:=r.one
   obtain ⟨a,ys,rfl,ea,h,r2⟩:=Jx A hl ru
   obtain ⟨b,ws,rfl,eb,h',r3⟩:=Jx A hl' rv
   obtain ⟨g,A'⟩:=A.setL hl ea h (r2.append r3)
   exact ⟨a,b,ys,ws,rfl,rfl,h,h',by rw[<- r2.length,<- r3.length];exact hs,q _ _ _ g A' rfl⟩
  ·cases e
 ·cases e
end MR
namespace ZT
open PySem PySem.Spec PyProof.Rows
open Sem (wp)
theorem Lh(l:Addr)(items:Array aG) :
  Meets (nM.«enumerate.__new__» ⟨[.type "enumerate",.ref l],[]⟩) (fun _ R s=>s.heap.IsTuple l items /\
   R (.ok (.ret (.ref (s.heap.push { cls:=.type "tuple_iterator",data:=.fields #[.ref l,.int 0 0] }).objs.size)))
    { s with heap:=(s.heap.push { cls:=.type "tuple_iterator",data:=.fields #[.ref l,.int 0 0] }).push { cls:=.type "enumerate",data:=.fields #[.none,.bool false,.ref s.heap.objs.size,rawInt 0,.none,.none] } }):=
 .of_wp fun prog w A R s h=>by
  obtain ⟨hp,g,d,tk,os⟩:=s;obtain ⟨hl,h⟩:=h
  have hsub:=sub_enumerate
  have hL:qJ (rP ⟨hp,g,d,tk,os⟩) l items:=hl
  wp_walk using fJ hL
  refine wpAny_stack_any fun st=>bC ?_
  split
  ·rename_i c _ _ _ _ _
   cases (c == iH "enumerate")
   ·wp_walk using fJ hL
    exact ⟨_,rfl,h⟩
   ·wp_walk using fJ hL
    exact ⟨_,rfl,h⟩
  ·wp_walk using fJ hL
   exact ⟨_,rfl,h⟩
variable {prog:cX}{w:eG}{A:eE}
section
variable {E:aG->aR->Prop}{s:aR}
theorem Ld{l:Addr}{items:Array aG}{Q:aG->aR->Prop}(hL:s.heap.IsTuple l items)
  (h:∀ h',IsEnum h' (s.heap.objs.size+1) s.heap.objs.size 0 .none->h'.IsTupleIter s.heap.objs.size l 0->h'.objs.size=s.heap.objs.size+2 ->
   (∀ b o,s.heap.get? b=some o->h'.get? b=some o)->Q (.ref (s.heap.objs.size+1)) { s with heap:=h' }) :
  wpAny (model prog w) A (call (.type "enumerate") [.ref l]) Q E s:=by
 refine callType_new F.called_enumerate (by decide) (F.typeCall_enumerate_1 _) (F.newCall_enumerate_1 _) (fun obj=>F.args_object_init_2 obj _) F.entry_enumerate_new
  (Lh l items) ⟨hL,?_⟩
 have hz:(s.heap.push { cls:=.type "tuple_iterator",data:=.fields #[.ref l,.int 0 0] }).objs.size=s.heap.objs.size+1:=dG ..
 show _/\_
 rw[hz]
 have he:IsEnum ((s.heap.push { cls:=.type "tuple_iterator",data:=.fields #[.ref l,.int 0 0] }).push
   { cls:=.type "enumerate",data:=.fields #[.none,.bool false,.ref s.heap.objs.size,rawInt 0,.none,.none] }) (s.heap.objs.size+1) s.heap.objs.size 0 .none:=by
  have:=bE (s.heap.push { cls:=.type "tuple_iterator",data:=.fields #[.ref l,.int 0 0] })
   (o:={ cls:=.type "enumerate",data:=.fields #[.none,.bool false,.ref s.heap.objs.size,rawInt 0,.none,.none] }) rfl
  rw[hz] at this;exact this
 refine ⟨⟨_,he,rfl⟩,h _ he ⟨_,aE _ (bE _ rfl),rfl,rfl⟩ (by rw[dG,hz]) fun b o x=>aE _ (aE _ x)⟩
end
theorem Vy(hh:A.handled=none)(it l:Addr)(hne:l≠it)(items:Array aG) :
  Draws prog w A it [it,l] items.size (fun i v=>items[i]? = some v) (fun i h=>h.IsTupleIter it l i/\h.IsTuple l items) where
 live:=fun _ _ st=>let ⟨o,ho,_⟩:=st.1;⟨o,ho⟩
 frame:=fun _ _ _ st hk=>⟨st.1.at fun o e=>hk it (by simp) o e,st.2.at fun o e=>hk l (by simp) o e⟩
 item:=fun i s Q E hi st hQ=>by
  refine W2 st.1 st.2 (v:=items[i]) (by simp[hi]) fun h' hit' hs'=>?_
  exact hQ _ h' s.toks (by simp[hi]) ⟨hit',st.2.extBut hs'.extBut hne⟩ hs'
 done:=fun s Q E st hE=>Su hh st.1 st.2 (by simp) hE
section
variable {E:aG->aR->Prop}{s:aR}
theorem Vf{e it l:Addr}{n:Nat}{i:Int}{items:Array aG}{old:aG}{Q:Option aG->aR->Prop}(hh:A.handled=none)
  (he:IsEnum s.heap e it i old) (hit:s.heap.IsTupleIter it l n) (hl:s.heap.IsTuple l items) (hn:items.size<=n)
  (hQ:∀ h',mK it s.heap h'->Q none { s with heap:=h' }):wpAny (model prog w) A (pyNext (.ref e)) Q E s:=by
 have hT:s.TypeIs (.ref e) "enumerate" := ⟨_,he,rfl⟩
 unfold pyNext
 refine aD (mT (eN (name:=dM "__next__") hT oM
  (fL oM hT F.entry_enumerate_next ?_ (F.args_enumerate_next_1 _))))
 show wpAny _ _ (field (.ref e) 2 >>= _) _ _ _
 refine aD (dR he rfl (x:=.ref it) rfl ?_)
 refine aD (Su (A:=pV A) hh hit hl (by simp;omega) fun h' x he' hx'=>?_)
 obtain ⟨o,ho,hc⟩:=hx'
 refine aD (rF (T := "StopIteration") (b:=true) ⟨o,ho,hc⟩ isSubtype_stop ?_)
 exact bC (hQ _ he')
end
end ZT
namespace MR
open PySem PySem.Spec PyProof.Rows L2
noncomputable def Amt(K:aJ)(a:Addr):It:=
 ⟨fun i H=>∃ xs x,SqT K H a xs/\xs[i]? = some x,fun i H x H'=>∃ p v,H p=none/\x = .ref p/\H'=upd H p (.tup [.int i,v])/\∀ xs,SqT K H a xs->xs[i]? = some v,fun i H=>∃ xs,SqT K H a xs/\xs.length<=i⟩
variable {pos:Pos}
theorem Yb{P:cX}{w:eG}{K:aJ}{elts:List Expr}{x1}(a e it:Addr)(hne:e≠it):Turn P w K (.Tuple elts x1 pos) (Amt K a) [e,it] e (fun i h=>(∃ old,IsEnum h e it i old)/\h.IsTupleIter it a i) where
 mem:=by simp
 obj:=fun i h st b hb=>by
  obtain ⟨⟨old,he⟩,o,ho,hc,hd⟩:=st
  rcases bH.mp hb with rfl | hb
  ·exact ⟨_,he,fun v z=>by simp at z⟩
  ·have:b=it:=by simpa using hb
   subst this
   exact ⟨o,ho,fun v z=>by rw[hd] at z;cases z⟩
 keep:=fun i h h' st k=>by
  obtain ⟨⟨old,he⟩,o,ho,hc,hd⟩:=st
  exact ⟨⟨old,k e (by simp) _ he⟩,o,k it (by simp) _ ho,hc,hd⟩
 item:=by
  intro X hP hw hK hc i pins s σ H E I hf st hg
  subst hP hw hK
  obtain ⟨⟨old,he⟩,hit⟩:=st
  obtain ⟨xs,v,sq,hx⟩:=hg
  obtain ⟨its,hv,pl,hz⟩:=I.tuple sq
  obtain ⟨u,hu,r⟩:=hv.get hx
  have hae:e≠a:=fun q=>by
   subst q
   obtain ⟨o,ho,hc,_⟩:=pl
   have:some o=some _:=ho.symm.trans he
   cases this
   simp at hc
  have hai:a≠it:=fun q=>by
   subst q
   obtain ⟨o,ho,hc,_⟩:=pl
   obtain ⟨o',ho',hc',_⟩:=hit
   have:some o=some o':=ho.symm.trans ho'
   cases this
   rw[hc] at hc';simp at hc'
  have hlt:i < its.toArray.size:=by
   have:=(aF.mp hu).1
   simpa using this
  refine wpAny_pyNext_enum_itemD (ZT.Vy (A:=pV _) (I.ok.hd hc) it a hai its.toArray) he ⟨hit,pl⟩ hlt hne (by simp[hne,hae]) fun x h' tk px o1 o2 o3 o4 o5=>?_
  have hxu:x=u:=by
   have:its[i]? = some x:=by simpa using px
   rw[hu] at this;cases this;rfl
  subst hxu
  refine ⟨_,rfl,?_⟩
  have hfr:H s.heap.objs.size=none:=I.hok.fresh (aS _)
  have I1:L2.Inv X pins σ (upd H s.heap.objs.size (.tup [.int i,v])) { s with heap:=h',toks:=tk+1 }:=
   Inv.turnNew (ch:=[e,it]) I hf (fun b o hb q=>o5 b o (fun z=>hb (by simp[z])) (fun z=>hb (by simp[z])) q) (aS _)
    (show ObjOk X.prog X.w _ h' _ (.tup [.int i,v]) from ⟨by show 2<=sizeLine;decide,[.int i tk,x],.cons ⟨_,rfl⟩ (.cons r .nil),⟨_,o3,rfl,_,rfl⟩⟩)
  refine lX o1 fun h2 e2 sb2=>?_
  have hne2:∀ b∈[e,it],b≠s.heap.objs.size:=fun b hb z=>by
   rcases bH.mp hb with q | q
   ·have:=bF he;rw[<- q,z] at this;exact bZ _ this
   ·have q:b=it:=by simpa using q
    obtain ⟨o,ho,_⟩:=hit
    have:=bF ho;rw[<- q,z] at this;exact bZ _ this
  have hnone:∀ b∈[e,it],(upd H s.heap.objs.size (.tup [.int i,v])) b=none:=fun b hb=>by rw[Ap (hne2 b hb)];exact (hf b hb).1
  obtain ⟨f0,f1,f2,f3,f4,f5⟩:=hf e (by simp)
  have I2:=I1.turned (t':=tk+1) (h':=h2) (it:=e) (fun b o hb q=>sb2.2 b hb |>.trans q) (hnone e (by simp)) f1 f3 f4 f5
  obtain ⟨oi,hoi,hci,hdi⟩:=o2.1
  refine ⟨.ref s.heap.objs.size,_,I2,rfl,⟨_,v,hfr,rfl,rfl,fun ys sq'=>?_⟩,⟨⟨_,e2⟩,oi,(sb2.2 it (eR hne)).trans hoi,hci,hdi⟩,hnone⟩
  rw[I.tuple_inj sq' sq];exact hx
 done:=by
  intro X hP hw hK hc i pins s σ H E I hf st hg
  subst hP hw hK
  obtain ⟨⟨old,he⟩,hit⟩:=st
  obtain ⟨xs,sq,hx⟩:=hg
  obtain ⟨its,hv,pl,hz⟩:=I.tuple sq
  obtain ⟨f0,f1,f2,f3,f4,f5⟩:=hf it (by simp)
  have hlen:=hv.length
  exact ZT.Vf (I.ok.hd hc) he hit pl (by simp;omega) fun h' eb=>⟨rfl,I.turned (t':=s.toks) (fun b o hb q=>eb b o hb q) f0 f1 f3 f4 f5⟩
 self:=fun _ _ _ _ _ st h=>by obtain ⟨⟨old,he⟩,_⟩:=st;exact jY he h
variable {X:Cx}
section
variable {elts:List Expr}{x1:Nat}{tpos:Pos}
noncomputable def Anl(K:aJ)(ta:TA):TI:=fun σ H R=>ta σ H fun vs H1=>∃ a xs,vs=[.ref a]/\SqT K H1 a xs/\R (Amt K a) H1
theorem Ae4{a:Expr}{ta:TA}{p:Pos}(hg:Gl X "enumerate")(hm:X.mg "enumerate" = none)(ha:PA X [a] ta)(hs:bQ [a] X.env=[(false,eval a X.env)]:=by rfl):PI X (.Tuple elts x1 tpos) (.Call (.Name "enumerate" p) [a] [] pos) (Anl X.K ta):=by
 intro pins s σ H R I h
 refine Call_ (Fq I hg hm Tq (cY (thn (ha pos pins s σ H _ I h) fun us s1 ⟨vs,H1,I1,r1,q1⟩=>?_) hs rfl))
 obtain ⟨l,xs,rfl,sq,q⟩:=q1
 obtain ⟨u,rfl,ru⟩:=Gz r1
 cases ru
 obtain ⟨its,hv,pl,hz⟩:=I1.tuple sq
 refine ZT.Ld pl fun h' o1 o2 o3 o4=>?_
 have I2:L2.Inv X pins σ H1 { s1 with heap:=h' }:=I1.kept (t':=s1.toks) o4
 refine jY o1 ⟨_,_,_,_,H1,rfl,I2,Yb l (s1.heap.objs.size+1) s1.heap.objs.size (iI (dZ _)),⟨⟨_,o1⟩,o2⟩,fun b hb=>?_,q⟩
 have hb':s1.heap.objs.size<=b:=by
  simp only[bH,eB,or_false] at hb
  rcases hb with rfl | rfl
  ·exact gZ _
  ·exact aS _
 exact L2.Inv.fpOk I1 hb' (I1.hok.fresh hb')
noncomputable def Mi(us:List U):List U:=us.mapIdx fun i u=>.tup [.int i,u]
noncomputable def Ye(g:FA):FI:=fun δ L=>(g δ L).bind fun p=>match p.1 with
 | [.ref n]=>(Ao p.2 n).map fun _=>(.enm n,p.2)
 | [.tup us]=>some (.seq (Mi us),p.2)
 | _=>none
theorem Agm{K:aJ}{H:Hp}{α:List Addr}{a:Addr}{us:List U}{xs:List V}(sq:SqT K H a xs)(r:RepL K H α us xs):Nx K (Amt K a) (.seq (Mi us)) H α:=by
 intro H2 α2 L2 g A2 k
 have m:=(show RepU K H α (.tup us) (.ref a) by unfold RepU;exact ⟨a,xs,rfl,sq,r⟩).mono g
 unfold RepU at m
 obtain ⟨c',xs,e,sq2,r2⟩:=m
 cases e
 refine ⟨fun u eu=>?_,fun eu=>?_⟩
 ·have eu:(Mi us)[k]? = some u:=by simpa[IU.at] using eu
  unfold Mi at eu
  rw[pA] at eu
  obtain ⟨w,hw,eu⟩:=aH.mp eu
  subst eu
  obtain ⟨x,hx,rx⟩:=r2.get hw
  refine ⟨⟨xs,x,sq2,hx⟩,?_⟩
  rintro y H3 ⟨p,v,hp,rfl,rfl,hy⟩
  have:=hy xs sq2
  rw[hx] at this;cases this
  exact A2.tup (.cons rfl (.cons rx .nil)) hp
 ·have eu:(Mi us)[k]? = none:=by simpa[IU.at] using eu
  unfold Mi at eu
  rw[pA] at eu
  have:us[k]? = none:=by simpa using eu
  exact ⟨xs,sq2,by rw[<- r2.length];exact cV.mp this⟩
theorem Adr{a:Expr}{g:FA}{p:Pos}(hg:Gl X "enumerate")(hm:X.mg "enumerate" = none)(ha:PAF X [a] g)(hs:bQ [a] X.env=[(false,eval a X.env)]:=by rfl):PIF X (.Tuple elts x1 tpos) (.Call (.Name "enumerate" p) [a] [] pos) (Ye g):=by
 refine PI.imp (PI.or (Aic hg hm ha hs) (Ae4 hg hm ha hs)) ?_
 rintro σ H R ⟨α,δ,L,A,S,i,L3,e,q⟩
 obtain ⟨⟨us,L1⟩,e1,e⟩:=aB.mp e
 simp only at e
 split at e
 ·obtain ⟨l,hl,e⟩:=aH.mp e
  cases e
  refine .inl ⟨α,δ,L,A,S,_,_,e1,fun xs H1 α1 g1 A1 r1=>?_⟩
  obtain ⟨x,rfl,rx⟩:=r1.one
  obtain ⟨a',ys,rfl,sq,r2⟩:=Iy A1 hl rx
  obtain ⟨a2,ea,ha2⟩:=rx.ref_of A1
  cases ha2
  exact ⟨a',ys,rfl,sq,q _ H1 α1 g1 A1 (Aih (fun _ _ _ _ _=>trivial) ea)⟩
 ·cases e
  refine .inr ⟨α,δ,L,A,S,_,_,e1,fun xs H1 α1 g1 A1 r1=>?_⟩
  obtain ⟨x,rfl,rx⟩:=r1.one
  unfold RepU at rx
  obtain ⟨a',ys,rfl,sq,r2⟩:=rx
  exact ⟨a',ys,rfl,sq,q _ H1 α1 g1 A1 (Agm sq r2)⟩
 ·cases e
end
theorem Qd:∀ (names:List (Str×iN)) (n:Nat) (acc:List (Str×Addr)) (x:Str) (c:Addr),(cellsFrom n names acc).lookup x=some c->((x,fN)∈names/\n<=c)\/acc.lookup x=some c
 | [],n,acc,x,c,h=>.inr h
 | (y,k)::r,n,acc,x,c,h=>by
  unfold cellsFrom at h
  split at h
  ·rename_i hk
   have hk':k = .cell:=by simpa using hk
   rcases Qd r (n+1) _ x c h with ⟨a,b⟩ | q
   ·exact .inl ⟨aK _ a,by omega⟩
   ·rw[cA] at q
    cases hx:x == y with
    | true => rw [hx] at q; simp at q; have : x = y := by simpa using hx
              subst this;subst hk';subst q
              exact .inl ⟨aT ..,aS _⟩
    | false=>rw[hx] at q;exact .inr q
  ·rcases Qd r n acc x c h with ⟨a,b⟩ | q
   ·exact .inl ⟨aK _ a,b⟩
   ·exact .inr q
theorem Vn:∀ (names:List (Str×iN)) (n:Nat) (acc:List (Str×Addr)) (x:Str),(x,fN)∉names->(cellsFrom n names acc).lookup x=acc.lookup x
 | [],n,acc,x,h=>rfl
 | (y,k)::r,n,acc,x,h=>by
  unfold cellsFrom
  have h2:(x,fN)∉r:=fun q=>h (aK _ q)
  split
  ·rename_i hk
   have hk':k = .cell:=by simpa using hk
   rw[Vn r (n+1) _ x h2,cA]
   cases hx:x == y with
   | true => have : x = y := by simpa using hx
             subst this;subst hk'
             exact absurd (aT ..) h
   | false=>rfl
  ·exact Vn r n acc x h2
theorem Y3:∀ (names:List (Str×iN)) (n:Nat) (acc:List (Str×Addr)),(∀ x c,acc.lookup x=some c->c < n)->(∀ x y c,acc.lookup x=some c->acc.lookup y=some c->x=y)->∀ x y c,(cellsFrom n names acc).lookup x=some c->(cellsFrom n names acc).lookup y=some c->x=y
 | [],n,acc,_,h,x,y,c,a,b=>h x y c a b
 | (z,k)::r,n,acc,h1,h2,x,y,c,a,b=>by
  unfold cellsFrom at a b
  split at a
  ·rw[if_pos (by assumption)] at b
   refine Y3 r (n+1) ((z,n)::acc) (fun u v q=>?_) (fun u v w q1 q2=>?_) x y c a b
   ·rw[cA] at q
    cases hx:u == z with
    | true=>rw[hx] at q;simp at q;subst q;exact dZ _
    | false=>rw[hx] at q;exact jZ (h1 u v q)
   ·rw[cA] at q1 q2
    cases hu:u == z with
    | true=>
     rw[hu] at q1;simp at q1
     cases hv:v == z with
     | true => have e1 : u = z := by simpa using hu
               have e2:v=z:=by simpa using hv
               rw[e1,e2]
     | false=>rw[hv] at q2;subst q1;exact absurd (h1 v _ q2) (bZ _)
    | false=>
     rw[hu] at q1
     cases hv:v == z with
     | true=>rw[hv] at q2;simp at q2;subst q2;exact absurd (h1 u _ q1) (bZ _)
     | false=>rw[hv] at q2;exact h2 u v w q1 q2
  ·rw[if_neg (by assumption)] at b
   exact Y3 r n acc h1 h2 x y c a b
theorem Rl:∀ (names:List (Str×iN)) (h:Heap) (acc:List (Str×Addr)),(∀ x c,acc.lookup x=some c->∃ v,h.IsCell c v)->∀ x c,(cellsFrom h.objs.size names acc).lookup x=some c->∃ v,(pushCells h names).IsCell c v
 | [],h,acc,q,x,c,e=>q x c e
 | (y,k)::r,h,acc,q,x,c,e=>by
  unfold cellsFrom at e
  unfold pushCells
  split at e
  ·rw[if_pos (by assumption)]
   have hz:h.objs.size+1=(h.push { cls:=.type "cell",data:=.cell none }).objs.size:=(dG ..).symm
   rw[hz] at e
   refine Rl r _ _ (fun u v z=>?_) x c e
   rw[cA] at z
   cases hx:u == y with
   | true=>rw[hx] at z;simp at z;subst z;exact ⟨none,⟨_,bE _ rfl,rfl⟩⟩
   | false=>rw[hx] at z;obtain ⟨w,hw⟩:=q u v z;exact ⟨w,hw.keeps fun b o e=>aE _ e⟩
  ·rw[if_neg (by assumption)]
   exact Rl r h acc q x c e
theorem Yw:∀ (names:List (Str×iN)) (n:Nat) (acc:List (Str×Addr)) (x:Str) (c:Addr) (n0:Nat),n0<=n->((x,fN)∈names\/∀ c':Addr,acc.lookup x=some c'->n0<=c')->(cellsFrom n names acc).lookup x=some c->n0<=c
 | [],n,acc,x,c,n0,_,h,e=>by
  rcases h with h | h
  ·cases h
  ·exact h c e
 | (y,k)::r,n,acc,x,c,n0,hn,h,e=>by
  unfold cellsFrom at e
  split at e
  ·rename_i hk
   refine Yw r (n+1) _ x c n0 (qK hn) ?_ e
   cases hx:x == y with
   | true=>right;intro c' q;rw[cA,hx] at q;simp at q;subst q;exact hn
   | false=>
    rcases h with h | h
    ·rcases bH.mp h with q | q
     ·have:x=y:=(kN q).1
      rw[this] at hx;simp at hx
     ·exact .inl q
    ·right;intro c' q;rw[cA,hx] at q;exact h c' q
  ·rename_i hk
   refine Yw r n acc x c n0 hn ?_ e
   rcases h with h | h
   ·rcases bH.mp h with q | q
    ·have:fN=k:=(kN q).2
     rw[<- this] at hk;simp at hk
    ·exact .inl q
   ·exact .inr h
variable {scope:jA}
theorem Aco{M:Model}{A:eE}{E:aG->aR->Prop}{s:aR}{globals:Addr}{closure:List (Str×Addr)}{qual:Str}{func:Option Addr}{code:aG}{outer:jS}{builtins:Addr}{Q:jS->aR->Prop}
  (hQ:Q (newEnv scope s.heap.objs.size globals (cellsFrom (s.heap.objs.size+1) scope.names closure) qual func code (some outer) builtins) { s with heap:=pushCells (s.heap.push { cls:=.type "dict",data:=.dict #[] }) scope.names }) :
  wpAny M A (newFunctionEnv scope globals closure [] qual func code (some outer) builtins) Q E s:=by
 simp only[newFunctionEnv,pQ,if_true]
 refine aD (wpAny_alloc ?_)
 refine aD (wpAny_layCells _ (fun name kind cells=>by cases hkc:kind == fN <;> simp[hkc]) _ _ _ _ ?_)
 rw[show ({ s with heap:=s.heap.push { cls:=.type "dict",data:=.dict #[] } }:aR).heap.objs.size=s.heap.objs.size+1 from dG ..]
 rw[oZ]
 exact aD (bC (bC hQ))
structure CompScC(X:Cx)(scope:jA)(N':List Str)(ix:List (Option Nat)):Prop where
 kind:scope.kind = .function
 own:(scope.names.all fun y=>scope.names.lookup y.1 == some y.2)=true
 free:(scope.names.all fun y=>y.2 != .free || (X.env.kindOf y.1 == some .cell || X.env.kindOf y.1 == some .free))=true
 ixs:((N'.zip ix).all fun p=>match p.2 with | none=>true | some i=>(X.N[i]? == some p.1)&&(scope.names.lookup p.1 == some .free))=true
 len:N'.length=ix.length
noncomputable def Ka(X:Cx)(scope:jA)(cl:List (Str×Addr))(C:Addr)(N':List Str)(s2:aR)(H2:Hp)(fp:List Addr)(pins:List (Addr×Obj)):Cx:=
 { blk X scope (cellsFrom (C+1) scope.names cl) C N' s2 H2 fp pins with fn:=fun x=>scope.names.lookup x == some .cell }
variable {elt tg iter:Expr}
section
variable {N':List Str}{ix:List (Option Nat)}{pins:List (Addr×Obj)}{σ:L2.St}{H2:Hp}{s2:aR}{cl:List (Str×Addr)}{fp:List Addr}
theorem CompScC.lk(S:CompScC X scope N' ix){x:Str}{k:iN}(h:(x,k)∈scope.names):scope.names.lookup x=some k:=by
 have:=bR.mp S.own _ h
 simpa using this
theorem Xx(S:CompScC X scope N' ix)(hcalm:X.calm=true)(I2:Inv X pins σ H2 s2)(hcl:∀ x c,cl.lookup x=some c->X.env.cells.lookup x=some c)(hcl2:∀ y∈scope.names,y.2 = .free->∃ c,cl.lookup y.1=some c)
  (f2:∀ b∈fp,Gv X pins H2 b) (hfp:∀ b∈fp,b < s2.heap.objs.size) {C:Addr} {h4:Heap} {m:Str->Option aG} {t4:Nat} (hC:s2.heap.objs.size<=C) (hns:h4.Ns C m) (keep:∀ b o,s2.heap.get? b=some o->h4.get? b=some o)
  (hcells:∀ x c,(cellsFrom (C+1) scope.names cl).lookup x=some c->∃ v,h4.IsCell c v) :
  Inv (Ka X scope cl C N' s2 H2 fp pins) [] (inner ix σ) H2 { s2 with heap:=h4,toks:=t4 }:=by
 have hkindC:(relabel scope X.env).kind = .function:=S.kind
 have clt:∀ x c,cl.lookup x=some c->c < s2.heap.objs.size:=fun x c e=>by
  obtain ⟨v,oc,ho,_⟩:=I2.cell x c (hcl x c e)
  exact bF ho
 have new:∀ x c,(cellsFrom (C+1) scope.names cl).lookup x=some c->(C+1<=c)\/cl.lookup x=some c:=fun x c e=>by
  rcases Qd _ _ _ _ _ e with ⟨_,q⟩ | q
  ·exact .inl q
  ·exact .inr q
 have fr:∀ x,scope.names.lookup x=some .free->(cellsFrom (C+1) scope.names cl).lookup x=cl.lookup x:=fun x hx=>Vn _ _ _ _ fun q=>by
  have:=S.lk q
  rw[hx] at this;cases this
 have ok:(Ka X scope cl C N' s2 H2 fp pins).Ok:=
  { mod:=I2.ok.mod
    kind:=hkindC
    glob:=I2.ok.glob
    blt:=I2.ok.blt
    above:=hC
    inj:=Y3 _ _ _ (fun x c e=>jZ (bD (clt x c e) hC)) (fun x y c e1 e2=>I2.ok.inj x y c (hcl x c e1) (hcl y c e2))
    has:=fun x h=>by
     have h':(relabel scope X.env).names.lookup x=some .cell\/(relabel scope X.env).names.lookup x=some .free:=h
     have two:scope.names.lookup x=some .free\/scope.names.lookup x=some .cell:=by
      rcases h' with h' | h'
      ·rcases Eo h' with q | ⟨q,_⟩
       ·exact .inr q
       ·exact .inl q
      ·rcases Eo h' with q | ⟨q,z⟩
       ·exact .inl q
       ·cases z
     rcases two with hfree | hcell
     ·obtain ⟨c,hc⟩:=hcl2 _ (B8 hfree) rfl
      exact ⟨c,(fr x hfree).trans hc⟩
     ·exact jE.mp (jX _ _ _ (.inl hcell))
    cab:=fun x c h e=>by
     have hx:scope.names.lookup x=some .cell:=by
      have:(scope.names.lookup x == some fN)=true:=h
      simpa using this
     exact cL hC (cL (gZ _) (Yw _ _ _ _ _ (C+1) (aS _) (.inl (B8 hx)) e))
    hd:=fun _=>I2.ok.hd hcalm
    frames:=I2.ok.frames
    stk:=.inl rfl
    exf:=fun b hb=>⟨cC (bD (hfp b hb) hC),fun x c e=>by
     rcases new x c e with q | q
     ·intro z;subst z;exact absurd (bD (hfp c hb) (cL hC (cL (gZ _) q))) (bZ _)
     ·exact (f2 b hb).2.2.2.2.1 x c (hcl x c q)⟩
    bs:=fun b o e=>I2.bs b o e
    bsz:=cL I2.ok.bsz I2.sz
    noex:=fun b o e hb=>by
     rcases (f2 b hb).2.2.2.1 with z | z
     ·exact I2.ok.noex b o e z
     ·exact absurd (bD (bF (I2.ok.bs b o e).1) z) (bZ _)
    exfs:=fun b hb z=>by
     rcases bH.mp (I2.stkSub b z) with q | q
     ·exact (f2 b hb).2.1 q
     ·exact (f2 b hb).2.2.1 q
    funs:=I2.stack
    frf:=I2.stkFree }
 obtain ⟨m0,hn0,hl0⟩:=id I2.loc
 refine ⟨ok,rfl,I2.bare,Un.kept keep,⟨m,hns,fun j x v e1 e2 e3=>?_⟩,fun x c e=>hcells x c e,I2.hok.fresh hC,fun x c e=>?_,fun p hp=>?_,I2.hok.kept keep,?_⟩
 ·have e1':N'[j]? = some x:=e1
  have e2':(inner ix σ)[j]? = some (some v):=e2
  unfold inner at e2'
  rw[bO] at e2'
  cases hx:ix[j]? with
  | none=>rw[hx] at e2';simp at e2'
  | some o=>
   rw[hx] at e2'
   cases o with
   | none=>simp at e2'
   | some i=>
    simp at e2'
    have hz:(x,some i)∈N'.zip ix:=bV (i:=j) (by rw[jB];exact ⟨e1',hx⟩)
    have hz':=bR.mp S.ixs _ hz
    simp only[cG,beq_iff_eq] at hz'
    obtain ⟨hXN,hfr⟩:=hz'
    have hσ:σ[i]? = some (some v):=by
     cases q:σ[i]? with
     | none=>rw[q] at e2';simp at e2'
     | some o=>rw[q] at e2';simp at e2';rw[e2']
    have hk:=bR.mp S.free _ (B8 hfr)
    simp at hk
    have hvis:Vis X.env.scope x:=by
     rcases hk with q | q
     ·exact .inr (.inl q)
     ·exact .inr (.inr q)
    obtain ⟨u,r,look⟩:=hl0 i x v hXN hσ hvis
    rcases look with ⟨q,_⟩ | ⟨_,c,ec,hc⟩
    ·rcases hk with z | z
     ·rw[z] at q;cases q
     ·rw[z] at q;cases q
    ·obtain ⟨c',ec'⟩:=hcl2 _ (B8 hfr) rfl
     have:c'=c:=by have:=hcl x c' ec';rw[ec] at this;cases this;rfl
     subst this
     refine ⟨u,r,.inr ⟨?_,c',(fr x hfr).trans ec',?_⟩⟩
     ·rcases E6 (env:=X.env) hfr with q | q
      ·exact .inr q
      ·exact .inl q
     ·obtain ⟨oc,ho,hd⟩:=hc
      exact ⟨oc,keep _ _ ho,hd⟩
 ·rcases new x c e with q | q
  ·exact I2.hok.fresh (cL hC (cL (gZ _) q))
  ·exact I2.freeC x c (hcl x c q)
 ·have hp':p∈X.pn++pins:=by simpa[Ka,blk] using hp
  obtain ⟨q1,q2,q3,q4,q5⟩:=I2.pin p hp'
  refine ⟨keep _ _ q1,q2,cC (bD (bF q1) hC),fun z=>?_,q5⟩
  rcases bH.mp (I2.stkSub p.1 z) with q | q
  ·exact q3 q
  ·exact q4 q
 ·show (inner ix σ).length=N'.length
  rw[S.len];simp[inner]
theorem Aaa{ifs:List Expr}{g:TG}{tt:TT}{te:TE}{it:Addr}{J:It}{tn:Nat->Heap->Prop}{E:aG->aR->Prop}{Fin:List V->Hp->Prop}{RR:aG->Addr->sF->aR->Prop}
  (S:CompScC X scope N' ix) (hcalm:X.calm=true) (hcl:∀ x c,cl.lookup x=some c->X.env.cells.lookup x=some c) (hcl2:∀ y∈scope.names,y.2 = .free->∃ c,cl.lookup y.1=some c)
  (hg:∀ C,PG (Ka X scope cl C N' s2 H2 fp pins) tg g) (ht:∀ C,Pe (Ka X scope cl C N' s2 H2 fp pins) ifs tt) (he:∀ C,PE (Ka X scope cl C N' s2 H2 fp pins) elt te)
  (I2:Inv X pins σ H2 s2) (T:Turn X.prog X.w X.K tg J fp it tn) (st2:tn 0 s2.heap) (f2:∀ b∈fp,Gv X pins H2 b) (hloop:Aaz J g tt te (inner ix σ) H2 Fin)
  (hRR:∀ (D C:Addr) (s':aR) (H':Hp) (acc:List V),Inv X pins σ (upd H' D (.lst acc)) s'->H' D=none->(∃ m,s'.heap.Ns C m)->(upd H' D (.lst acc)) C=none->Gv X pins (upd H' D (.lst acc)) C->Fin acc H'->RR (.ref D) C (.ok .next) s') :
  wpAny (model X.prog X.w) X.A (newList []) (fun acc s₃=>wpAny (model X.prog X.w) X.A (newFunctionEnv scope X.env.globals cl [] X.env.qual none .none (some X.env)) (fun cenv s₄=>
   kM (model X.prog X.w) X.A (.compStart (.ListComp elt [⟨tg,iter,ifs,0⟩] scope pos) 0 (.ref it) acc { cenv with scope:=relabel scope X.env }) (RR acc cenv.locals) s₄) E s₃) E s2:=by
 refine dD (Aco ?_)
 dsimp only
 generalize hH2:s2.heap.push { cls:=.type "list",dict:=none,data:=.seq ([]:List aG).toArray } = HP
 have hCs:HP.objs.size=s2.heap.objs.size+1:=by rw[<- hH2,dG]
 have hDC:s2.heap.objs.size≠HP.objs.size:=by rw[hCs];exact cC (dZ _)
 have hCle:s2.heap.objs.size<=HP.objs.size:=by rw[hCs];exact gZ _
 have hz1:(HP.push { cls:=.type "dict",data:=.dict #[] }).objs.size=HP.objs.size+1:=dG ..
 generalize h1eq:pushCells (HP.push { cls:=.type "dict",data:=.dict #[] }) scope.names=h₁
 have old:∀ b o,s2.heap.get? b=some o->h₁.get? b=some o:=fun b o e=>h1eq ▸ oG _ _ _ _ (aE _ (hH2 ▸ aE _ e))
 have hacc:h₁.get? s2.heap.objs.size=some (Cf [] 0):=h1eq ▸ oG _ _ _ _ (aE _ (hH2 ▸ bE _ rfl))
 have hns₁:h₁.Ns HP.objs.size (fun _=>none):=h1eq ▸ (Heap.Ns.new HP (.type "dict")).keeps (oG _ _)
 have hcells:∀ x c,(cellsFrom (HP.objs.size+1) scope.names cl).lookup x=some c->∃ v,h₁.IsCell c v:=fun x c e=>by
  rw[<- hz1] at e
  rw[<- h1eq]
  refine Rl _ _ _ (fun y d q=>?_) x c e
  obtain ⟨v,oc,ho,hd⟩:=I2.cell y d (hcl y d q)
  exact ⟨v,oc,aE _ (hH2 ▸ aE _ ho),hd⟩
 have hfp:∀ b∈fp,b < s2.heap.objs.size:=fun b hb=>by
  obtain ⟨o,e,_⟩:=T.obj _ _ st2 b hb
  exact bF e
 generalize hDg:s2.heap.objs.size=D at hDC hacc
 generalize hCg:HP.objs.size=C at *
 have hDle:s2.heap.objs.size<=D:=nL hDg
 have hD2:s2.heap.get? D=none:=by
  cases q:s2.heap.get? D with
  | none=>rfl
  | some o=>exact absurd (bD (bF q) hDle) (bZ _)
 have I4:=Xx (t4:=s2.toks) S hcalm I2 hcl hcl2 f2 hfp hCle hns₁ old hcells
 have above:∀ a,s2.heap.objs.size<=a->a∉frs X.stack/\(∀ x c,X.env.cells.lookup x=some c->c≠a)/\(∀ p∈X.pn++pins,p.1≠a)/\a≠X.env.locals:=fun a ha=>by
  refine ⟨fun z=>?_,fun x c e z=>?_,fun p hp z=>?_,?_⟩
  ·rcases bH.mp (I2.stkSub a z) with q | q
   ·exact absurd (bD I2.lt (q ▸ ha)) (bZ _)
   ·exact I2.nofs ha q
  ·obtain ⟨v,q⟩:=I2.cell x c e
   exact absurd (bD q.lt (z ▸ ha)) (bZ _)
  ·exact absurd (bD (bF (I2.pin p hp).1) (z ▸ ha)) (bZ _)
  ·intro z;exact absurd (bD I2.lt (z ▸ ha)) (bZ _)
 have newc:∀ x c,(cellsFrom (C+1) scope.names cl).lookup x=some c->(C+1<=c)\/X.env.cells.lookup x=some c:=fun x c e=>by
  rcases Qd _ _ _ _ _ e with ⟨_,q⟩ | q
  ·exact .inl q
  ·exact .inr (hcl x c q)
 have hfpX:∀ b∈fp,Gv (Ka X scope cl C N' s2 H2 fp pins) [] H2 b/\b≠D:=fun b hb=>by
  obtain ⟨q0,q1,q2,q3,q4,q5⟩:=f2 b hb
  have hlt:=hfp b hb
  refine ⟨⟨q0,cC (bD hlt hCle),fun z=>?_,.inl hb,fun x c e=>?_,fun p hp=>q5 p (by simpa[Ka,blk] using hp)⟩,cC (bD hlt hDle)⟩
  ·rcases bH.mp (I2.stkSub b z) with q | q
   ·exact q1 q
   ·exact q2 q
  ·rcases newc x c e with q | q
   ·intro z;subst z;exact absurd (bD hlt (cL hCle (cL (gZ _) q))) (bZ _)
   ·exact q4 x c q
 have hDC':D < C:=by rw[<- hDg,hCs];exact dZ _
 have hDf:∀ H:Hp,H D=none->Gv (Ka X scope cl C N' s2 H2 fp pins) [] H D:=fun H hn=>by
  obtain ⟨a1,a2,a3,a4⟩:=above D hDle
  refine ⟨hn,hDC,a1,.inr hDle,fun x c e=>?_,fun p hp=>a3 p (by simpa[Ka,blk] using hp)⟩
  rcases newc x c e with q | q
  ·intro z;subst z;exact absurd (bD hDC' (cL (gZ _) q)) (bZ _)
  ·exact a2 x c q
 have hDn2:H2 D=none:=I2.hok.fresh hDle
 have I5:Inv (Ka X scope cl C N' s2 H2 fp pins) [(D,Cf [] 0)] (inner ix σ) H2 { s2 with heap:=h₁,toks:=s2.toks }:=I4.pins_of fun p hp=>by
  have:p=(D,Cf [] 0):=by simpa using hp
  subst this
  obtain ⟨_,d1,d2,_⟩:=hDf H2 hDn2
  exact ⟨hacc,hDn2,d1,d2,fun v z=>by simp[Cf] at z⟩
 have st5:tn 0 h₁:=T.keep _ _ _ st2 fun b _ o e=>old b o e
 have loop:kM (model X.prog X.w) X.A (.compLoop (.ListComp elt [⟨tg,iter,ifs,0⟩] scope pos) 0 (.ref it) (.ref D) (Ka X scope cl C N' s2 H2 fp pins).env) (RR (.ref D) C) { s2 with heap:=h₁,toks:=s2.toks }:=by
  refine T4 (X':=Ka X scope cl C N' s2 H2 fp pins) ⟨rfl,rfl,rfl,rfl,hcalm,fun _ _ z=>z⟩ T (hg C) (ht C) (he C) hDle hDC hCle hfpX hDf I5 st5 (fun b hb=>(f2 b hb).1) hloop ?_
  intro s' σ' H' acc its n I hv hz fin
  obtain ⟨hDo,hDn,_⟩:=I.pin (D,Cf its n) (aU _ (cB.mpr rfl))
  have hbase:Un (frs X.stack) fp H2 H' s2.heap s'.heap:=I.base
  have hok:HOk X.prog X.w (upd H' D (.lst acc)) s'.heap:=HOk.adopt I.hok hDn ⟨hz,its,n,hv,hDo⟩
  have IX:Inv X pins σ (upd H' D (.lst acc)) s':=I2.call' I.os (Un.adopt hbase hDn hD2) hok I.bare fun b hb=>⟨(f2 b hb).2.2.2.1,(f2 b hb).2.1,(f2 b hb).2.2.2.2.1,(f2 b hb).2.2.2.2.2⟩
  obtain ⟨m,hm,_⟩:=I.loc
  have hCn:(upd H' D (.lst acc)) C=none:=by rw[Ap (eR hDC)];exact I.free
  obtain ⟨a1,a2,a3,a4⟩:=above C hCle
  refine hRR D C s' H' acc IX hDn ⟨m,hm⟩ hCn ⟨hCn,a4,fun z=>?_,.inr (cL I2.sz hCle),a2,a3⟩ fin
  exact I2.nofs hCle z
 exact nU loop (T.self _ 0 _ _ _ st5 loop)
theorem CompScC.names(S:CompScC X scope N' ix):∀ x∈scope.names,x.2 = .local->scope.names.lookup x.1=some .local:=fun x hx hl=>by
 have:=S.lk (x:=x.1) (k:=x.2) hx
 rw[hl] at this
 exact this
theorem CompScC.clos(S:CompScC X scope N' ix)(ok:X.Ok):∃ cl,closureFor scope X.env=pure cl/\(∀ x c,cl.lookup x=some c->X.env.cells.lookup x=some c)/\∀ y∈scope.names,y.2 = .free->∃ c,cl.lookup y.1=some c:=by
 refine Mj fun y hy hf=>?_
 have:=bR.mp S.free y hy
 rw[hf] at this
 simp at this
 exact ok.has y.1 this
theorem Afb{ifs:List Expr}{wi:TI}{g:TG}{tt:TT}{te:TE}(S:CompScC X scope N' ix)(hcalm:X.calm=true)(hi:PI X tg iter wi)
  (hg:∀ cl C s2 H2 fp pins,PG (Ka X scope cl C N' s2 H2 fp pins) tg g) (ht:∀ cl C s2 H2 fp pins,Pe (Ka X scope cl C N' s2 H2 fp pins) ifs tt) (he:∀ cl C s2 H2 fp pins,PE (Ka X scope cl C N' s2 H2 fp pins) elt te)
  (hs:∀ x,foldedSetIterable iter X.env x=pure x:=by intro _;rfl):PE X (.ListComp elt [⟨tg,iter,ifs,0⟩] scope pos) (Ab7 ix wi g tt te):=by
 intro pins s σ H Q I h
 obtain ⟨cl,hclos,hcl,hcl2⟩:=S.clos I.ok
 rw[eval_ListComp]
 refine jF (use:=none) rfl hs hclos S.kind S.names (thn (hi pins s σ H _ I h) fun v s1 h1=>thn h1 fun itv s2 h2=>?_)
 obtain ⟨it,fp,tn,J,H2,e,I2,T,st2,f2,loop⟩:=h2
 subst e
 refine Aaa (RR:=fun acc C=>compPost (model X.prog X.w) X.A X.xe none (EP X pins σ Q) acc C) S hcalm hcl hcl2 (fun C=>hg cl C s2 H2 fp pins) (fun C=>ht cl C s2 H2 fp pins) (fun C=>he cl C s2 H2 fp pins) I2 T st2 f2 loop ?_
 intro D C s' H' acc IX hDn ⟨m,hm⟩ hCn hC fin
 refine ⟨m,hm,fun h' hsb=>?_⟩
 obtain ⟨c0,c1,c2,c3,c4,c5⟩:=hC
 exact ⟨.ref D,_,IX.turned (t':=s'.toks) (fun b o hb e=>hsb.2 b hb |>.trans e) c0 c1 c3 c4 c5,rfl,fin D hDn⟩
end
section
variable {N':List Str}{ix:List (Option Nat)}{c:Expr}{fi:FI}{g:FG}{ft:FT}{fe:FE}
theorem Acs(S:CompScC X scope N' ix)(hcalm:X.calm=true)(hi:PIF X tg iter fi)(hg:∀ cl C s2 H2 fp pins,PGF (Ka X scope cl C N' s2 H2 fp pins) tg g)(ht:∀ cl C s2 H2 fp pins,PTF (Ka X scope cl C N' s2 H2 fp pins) c ft)(he:∀ cl C s2 H2 fp pins,PEF (Ka X scope cl C N' s2 H2 fp pins) elt fe)
  (hs:∀ x,foldedSetIterable iter X.env x=pure x:=by intro _;rfl):PEF X (.ListComp elt [⟨tg,iter,[c],0⟩] scope pos) (Bk ix fi g (some ft) fe):=
 PE.imp (Afb (g:=lG X.K g) (te:=lE X.K fe) (tt:=lT X.K ft) S hcalm hi hg (fun _ _ _ _ _ _=>Og (ht _ _ _ _ _ _)) he hs) (N4 (tt:=some ft))
end
end MR
namespace ZT
open PySem PySem.Spec PyProof.Rows
open Sem (wp)
section
variable {prog:cX}{w:eG}{A:eE}{s:aR}{R:sF->aR->Prop}
variable {I:Addr}{fp wr:List Addr}{G:Array oQ->Array oQ->Prop}{n:Nat}{P:Nat->aG->Prop}{St:Nat->aR->Prop}
end
section
variable {prog:cX}{w:eG}{A:eE}{E:aG->aR->Prop}{s:aR}
variable {I:Addr}{fp wr:List Addr}{G:Array oQ->Array oQ->Prop}{n:Nat}{P:Nat->aG->Prop}{St:Nat->aR->Prop}
end
end ZT
namespace MR
open PySem PySem.Spec PyProof.Rows PySem.Calls L2
section
variable {X:Cx}
theorem Q5:eZ "list" = some (.type "list"):=by decide +kernel
end
end MR
namespace ZT
open PySem PySem.Spec PyProof.Rows HT
section
variable {prog:cX}{w:eG}{A:eE}{E:aG->aR->Prop}{s:aR}
end
end ZT
namespace MR
open PySem PySem.Spec PyProof.Rows PySem.Calls L2
section
variable {X:Cx}{tg:Expr}
end
section
variable {X:Cx}
end
noncomputable def Aix:S2:=fun u w L=>match u,w with
 | .tup [],.tup b=>some (.tup b,L)
 | u,w=>Aw u w L
@[simp] theorem Aku(i j:Int)(L:UH):Aix (.int i) (.int j) L=some (.int (i+j),L):=rfl
end MR
namespace MR
open PySem PyProof.Rows L2
section
variable {X:Cx}
noncomputable def Ao4(i j:Int):Prop:=0<=j/\(dH i:Int)+j<=2 ^ 27
theorem Ai5:OpR X (fV .LShift) (rI Ao4 fun i j=>.int (i * 2 ^ j.toNat)):=opI fun _ _ _ _ _ _ _ hc q=>lshift_int hc.1 hc.2 q
noncomputable def Amh:V->Option Int->Option Int->Hp->VK->Prop:=fun x lo hi H Q=>∃ a,x = .str a/\a.length<=sizeLine/\Q (.str (gG a lo hi)) H
theorem Ak1:SlR X Amh:=by
 intro pins s σ H x v vl vu lo hi sl Q I rx hs pl pu h
 obtain ⟨a,rfl,hl,q⟩:=h
 obtain ⟨t,rfl⟩:=rx
 refine ⟨"str",_,F.slot_str_getitem.lookup,sH _ _ _,?_⟩
 have fin:∀ (t':Tok) (k:Nat),EP X pins σ Q (.str (gG a lo hi) t') { s with toks:=k }:=fun t' k=>⟨.str (gG a lo hi),H,I.tok k,⟨_,rfl⟩,q⟩
 have hz:(gG a lo hi).length<=sizeLine:=cL (qL a _ _) hl
 cases pl with
 | none=>
  cases pu with
  | none=>exact iF (l:=none) (u:=none) (st:=none) hs rfl (kY ⟨hz,fin⟩)
  | int j tj=>exact iF (l:=none) (u:=some (j,tj)) (st:=none) hs rfl (kY ⟨hz,fin⟩)
 | int i ti=>
  cases pu with
  | none=>exact iF (l:=some (i,ti)) (u:=none) (st:=none) hs rfl (kY ⟨hz,fin⟩)
  | int j tj=>exact iF (l:=some (i,ti)) (u:=some (j,tj)) (st:=none) hs rfl (kY ⟨hz,fin⟩)
noncomputable def Akg:V->List V->Hp->VK->Prop:=fun x vs H Q=>∃ (a:Str) (l:Addr) (ys:List Str),x = .str a/\vs=[.ref l]/\H l=some (.lst (ys.map V.str))/\a.length<=16/\(ys.map (·.length)).sum+ys.length<=1048576/\Q (.str (sL a ys)) H
theorem Q4:∀ {its:List aG} {ys:List Str},Vals (ys.map V.str) its->StrsAre its ys
 | its,[],r=>by rw[bW] at r;cases r;exact .nil
 | its,y::ys,r=>by
  rw[aW] at r
  cases r with
  | cons r1 r2=>
   obtain ⟨t',rfl⟩:=r1
   exact .cons _ _ (Q4 r2)
theorem Ah2:MtR X "str.join" Akg:=by
 intro pins s σ H x vs v us Q I rx rv h
 obtain ⟨a,l,ys,rfl,rfl,hH,ha,hw,q⟩:=h
 obtain ⟨t,rfl⟩:=rx
 obtain ⟨u,rfl,ru⟩:=rv.one
 cases ru
 obtain ⟨z,its,n,r,hl,e⟩:=I.lstM hH
 exact join_listW ⟨_,e,rfl,_,rfl⟩ (by simpa using Q4 r) ha hw fun t' k=>⟨.str (sL a ys),H,I.tok k,⟨_,rfl⟩,q⟩
end
noncomputable def V8(i j:Int):Bool:=decide (0<=j)&&decide ((dH i:Int)+j<=2 ^ 27)
noncomputable def Nu:S2:=Aci V8 fun i j=>.int (i * 2 ^ j.toNat)
variable {K:aJ}
theorem Aew:Dp K (rI Ao4 fun i j=>.int (i * 2 ^ j.toNat)) Nu:=Abe (fun i j h=>by simp only[V8,cG,decide_eq_true_eq] at h;exact h) fun _ _ _ _=>rfl
noncomputable def Gd:SS:=fun u lo hi L=>match u with
 | .str x=>if small x.length=true then some (.str (gG x lo hi),L) else none
 | u=>Ho u lo hi L
theorem Uv{X:Cx}:SlR X (fun x lo hi H Q=>Aij X.K x lo hi H Q\/Amh x lo hi H Q):=Rf.or Ak1
theorem Vk:Afw K (fun x lo hi H Q=>Aij K x lo hi H Q\/Amh x lo hi H Q) Gd:=by
 intro H α L u x lo hi z L' Q A ru e q
 cases u with
 | str a=>
  unfold Gd at e
  simp only at e
  split at e
  ·rename_i hs
   cases e
   unfold RepU at ru
   subst ru
   exact .inr ⟨a,rfl,Fb hs,q _ H α (.refl _ _) A rfl⟩
  ·cases e
 | tup l=>exact .inl (Om H α L (.tup l) x lo hi z L' Q A ru e q)
 | ref n=>exact .inl (Om H α L (.ref n) x lo hi z L' Q A ru e q)
 | _=>cases e
noncomputable def toS:U->Option Str
 | .str a=>some a
 | _=>none
theorem Abt{H:Hp}{α:List Addr}:∀ {us:List U} {xs:List V} {ys:List Str},RepL K H α us xs->mapO toS us=some ys->xs=ys.map V.str
 | [],xs,ys,r,e=>by
  unfold RepL at r
  cases e
  exact r
 | u::us,xs,ys,r,e=>by
  unfold RepL at r
  obtain ⟨x,xr,rfl,rx,r⟩:=r
  unfold mapO at e
  obtain ⟨y,hy,e⟩:=aB.mp e
  obtain ⟨yr,hyr,e⟩:=aH.mp e
  cases e
  cases u with
  | str a=>
   cases hy
   unfold RepU at rx
   rw[rx,Abt r hyr];rfl
  | _=>cases hy
noncomputable def Ke:SM:=fun u us L=>match u,us with
 | .str a,[.ref n]=>(Fu L n).bind fun l=>(mapO toS l).bind fun ys=>if a.length<=16/\(ys.map (·.length)).sum+ys.length<=1048576 then some (.str (sL a ys),L) else none
 | _,_=>none
theorem Afj:Vq K Akg Ke:=by
 intro H α L u us x xs z L' Q A ru r e q
 unfold Ke at e
 split at e
 ·obtain ⟨l,hl,e⟩:=aB.mp e
  obtain ⟨ys,hys,e⟩:=aB.mp e
  split at e
  ·rename_i hc
   cases e
   unfold RepU at ru
   subst ru
   obtain ⟨v,rfl,rv⟩:=r.one
   obtain ⟨a',zs,rfl,ea,h,r2⟩:=Jx A hl rv
   rw[Abt r2 hys] at h
   exact ⟨_,a',ys,rfl,rfl,h,hc.1,hc.2,q _ H α (.refl _ _) A rfl⟩
  ·cases e
 ·cases e
end MR
namespace MR
open PySem PySem.W PyProof.Rows L2
theorem Qr:∀ (ns:List Int) (n:Int),n∈ns->dH n<=kZ (ns.map nC)
 | [],_,h=>by cases h
 | m::ns,n,h=>by
  have e:kZ ((m::ns).map nC)=dH m+1+kZ (ns.map nC):=by
   rw[aW,kZ,sY];rfl
  rw[e]
  rcases bH.mp h with rfl | h
  ·omega
  ·have:=Qr ns n h;omega
theorem Td{ns:List Int}(h:rH [tJ (ns.map nC)]=true):∀ n∈ns,dH n<=2 ^ 20:=by
 intro n hn
 unfold rH at h
 rw[mR,cG] at h
 have h1:=h.1
 unfold WData.layable at h1
 rw[cG] at h1
 have h2:=of_decide_eq_true h1.2
 rw[sY] at h2
 exact cL (Qr ns n hn) h2
end MR
namespace Att
open PySem PySem.W PySem.Calls PyProof.Rows L2 MR
structure _root_.MR.LamB(K:aJ)(mg:Str->Option aG)(base:Heap):Prop where
 bm:∃ bm ob,mg "__builtins__" = some (.ref bm)/\bm≠lP/\base.get? bm=some ob/\ob.cls = .type "module" /\ ob.dict=some lP/\ob.data = .plain
 hd:∀ nm∈Gn,∀ c P,cZ K nm=some (c,P)->PySem.W.CodeHd base c P
 inj:∀ nm1∈Gn,∀ nm2∈Gn,∀ c1 c2 P,cZ K nm1=some (c1,P)->cZ K nm2=some (c2,P)->nm1=nm2
open PySem.Spec in
theorem Acm{P:cX}{w:eG}{K:aJ}{mg mb:Str->Option aG}{k:Nat}{fa a:Addr}{fd:cU}{x:Str}{sp:Sp}{s₁:aR}{vs:List aG}{ns:List Int}(tabs:List Addr)
  (hT:∀ b∈tabs,(∃ c,CodeHd s₁.heap c b)/\s₁.heap.get? b=some (tabObj #[])) (hKT:noTabs K=true) (LB:LamB K mg s₁.heap)
  (KX:K.In s₁.heap) (hns:s₁.heap.Ns bJ mg) (hb:s₁.heap.Ns lP mb) (hbb:∀ x:Str,x ≠ "__name__" -> mb x=eZ x) (hlim:s₁.heap.NoLimit) (hg:s₁.gens=#[])
  (ha:s₁.heap.get? a=some { cls:=.type "list",data:=.seq vs.toArray }) (hi:fX vs ns) (hl:ns.length<=sizeLine) (hr:Room k callerA)
  (F:∀ base:Heap,K.In base->base.Ns bJ mg->LamB K mg base->FnOk P w K mg base CX0 k fa fd [x] sp) (hbind:∀ (s:aR) (u:aG),pB s fd ⟨[u],[]⟩ [(x,u)])
  (hsp:∀ H:Hp,Ae7 H->(∀ b∈tabs,H b=some (.tbl #[]))->SqL K H a (ns.map V.int)->sp [.ref a] H (fun v _=>v = .bl true) fun _ _ _=>False) :
  kM (model P w) callerA (.call (.ref fa) ⟨[.ref a],[]⟩) (fun r s'=>r = .ok (.ret (.bool true))/\OldK s₁.heap s'.heap/\s'.os=s₁.os/\nJ s'.gens) s₁:=by
 have rv:=Acl hi
 have lenV:=hi.length
 have noK:∀ b∈tabs,K.lookup b=none:=fun b hb=>by
  cases q:K.lookup b with
  | none=>rfl
  | some o=>
   have e:=KX b o q
   rw[(hT b hb).2] at e
   cases e
   have h2:=bR.mp hKT (b,_) (mem_of_lookupK q)
   exact absurd (show false=true from h2) cM
 have naT:a∉tabs:=fun z=>by
  have e:=(hT a z).2
  rw[ha] at e;cases e
 have core:∀ H:Hp,(∀ b,H b=none\/(b=a/\H b=some (.frz { cls:=.type "list",data:=.seq vs.toArray } (.lst (ns.map V.int))))\/(b∈tabs/\H b=some (.tbl #[])))->(∀ b∈tabs,H b=some (.tbl #[]))->SqL K H a (ns.map V.int)->HOk P w H s₁.heap->(H a≠none->K.lookup a=none) ->
   kM (model P w) callerA (.call (.ref fa) ⟨[.ref a],[]⟩) (fun r s'=>r = .ok (.ret (.bool true))/\OldK s₁.heap s'.heap/\s'.os=s₁.os/\nJ s'.gens) s₁:=by
  intro H hO hB hS hok hK
  have base_of:∀ {b:Addr} {o:Obj},s₁.heap.get? b=some o->H b=none->(Ta s₁.heap H).get? b=some o:=fun e n=>Afz e n
  have noA:∀ {b:Addr} {o:Obj} {es:Array DictEntry} {ep:Nat},s₁.heap.get? b=some o->o.data = .dict es ep->H b=none:=fun {b o es ep} e d=>by
   rcases hO b with z | ⟨e',_⟩ | ⟨e',_⟩
   ·exact z
   ·subst e'
    rw[ha] at e;cases e
    have d':Data.seq vs.toArray _=Data.dict es ep:=d
    cases d'
   ·rw[(hT b e').2] at e;cases e
    have d':tE #[]=Data.dict es ep:=d
    cases d'
  have nsK:∀ {b:Addr} {m:Str->Option aG},s₁.heap.Ns b m->(Ta s₁.heap H).Ns b m:=fun {b m} ⟨o,es,ep,e,d,r⟩=>⟨o,es,ep,base_of e (noA e d),d,r⟩
  have hKb:K.In (Ta s₁.heap H):=fun b o e=>base_of (KX b o e) (by
   rcases hO b with z | ⟨e',z⟩ | ⟨e',z⟩
   ·exact z
   ·subst e'
    rw[hK (by rw[z];simp)] at e;cases e
   ·rw[noK b e'] at e;cases e)
  have noO:∀ {b:Addr} {o:Obj} {n:String},s₁.heap.get? b=some o->o.cls = .type n->n ≠ "list" -> H b=none:=fun {b o n} e d ne=>by
   rcases hO b with z | ⟨e',_⟩ | ⟨e',_⟩
   ·exact z
   ·subst e'
    rw[ha] at e;cases e
    have d':iH "list" = iH n:=d
    cases d'
    exact absurd rfl ne
   ·rw[(hT b e').2] at e;cases e
    cases d
  have hLB:LamB K mg (Ta s₁.heap H):=by
   obtain ⟨bm,ob,b1,b2,b3,b4,b5,b6⟩:=LB.bm
   refine ⟨⟨bm,ob,b1,b2,base_of b3 (noO b3 b4 (by decide)),b4,b5,b6⟩,fun nm hn c P e=>?_,LB.inj⟩
   obtain ⟨o,vs,file,tf,flags,tg,inF,text,tt,c1,c2,c3⟩:=LB.hd nm hn c P e
   exact ⟨o,vs,file,tf,flags,tg,inF,text,tt,base_of c1 (noO c1 c2 (by decide)),c2,c3⟩
  have hM:Mod K mg (Ta s₁.heap H):=⟨hKb,nsK hns,⟨mb,nsK hb,hbb⟩,let ⟨mc,h1,h2⟩:=hlim;⟨mc,nsK h1,h2⟩⟩
  have e0:Env0 P w K mg (Ta s₁.heap H) callerA [] s₁ H:=⟨rfl,hM,fun b o e=>Aj6 e,nL (Ach _ _),trivial,fun b hb=>absurd (show b∈([]:List Addr) from hb) (by simp),hok,.of_eq hg⟩
  refine qD ((F _ hKb (nsK hns) hLB).run callerA [] s₁ H ⟨[.ref a],[]⟩ [.ref a] [.ref a] _ _ hr e0 (hbind s₁ (.ref a)) (.cons rfl .nil) (hsp H (fun b=>?_) hB hS)) fun r s' h=>?_
  ·rcases hO b with z | ⟨_,z⟩ | ⟨_,z⟩
   ·exact .inl z
   ·exact .inr (.inl ⟨_,_,z⟩)
   ·exact .inr (.inr ⟨_,z⟩)
  cases r with
  | error e=>exact fT h
  | ok fl=>
   cases fl with
   | next=>exact fT h
   | brk=>exact fT h
   | cont=>exact fT h
   | ret u=>
    obtain ⟨v,H',os,bare,un,hok',r',q⟩:=h
    have q':v = .bl true:=q
    subst q'
    obtain rfl:u=nI true:=r'
    have grow:∀ b∈tabs,∃ more,s'.heap.get? b=some (tabObj (#[]++more)):=fun b hb=>by
     obtain ⟨more,e2⟩:=un.tbls b _ (hB b hb)
     exact ⟨more,hok' b _ e2⟩
    have keep:∀ b o,b∉tabs->s₁.heap.get? b=some o->s'.heap.get? b=some o:=fun b o hb e=>by
     rcases hO b with z | ⟨e',z⟩ | ⟨e',z⟩
     ·exact un.keep b o e z (by intro z;exact absurd (show b∈([]:List Addr) from z) (by simp)) (by simp)
     ·have z2:=un.frzs b _ _ z
      obtain ⟨e1,_⟩:=hok b _ z
      obtain ⟨e2,_⟩:=hok' b _ z2
      rw[e] at e1;cases e1
      exact e2
     ·exact absurd e' hb
    refine ⟨rfl,⟨fun b o e=>?_,fun b o e=>?_⟩,os,bare⟩
    ·by_cases hb:b∈tabs
     ·obtain ⟨more,e2⟩:=grow b hb
      obtain ⟨⟨c,hc⟩,e3⟩:=hT b hb
      rw[e] at e3;cases e3
      exact .inr (.inl ⟨(hc.tab e).isCodeTable,rfl,#[],more,rfl,e2⟩)
     ·exact .inl (keep b o hb e)
    ·by_cases hb:b∈tabs
     ·obtain ⟨more,e2⟩:=grow b hb
      exact ⟨_,e2⟩
     ·exact ⟨o,keep b o hb e⟩
 have tabok:∀ b∈tabs,∀ H:Hp,ObjOk P w H s₁.heap b (.tbl #[]):=fun b hb H=>(hT b hb).2
 cases hk:K.lookup a with
 | some o=>
  have e:=KX a o hk
  rw[ha] at e
  cases e
  refine core (fun b=>if b∈tabs then some (.tbl #[]) else none) (fun b=>?_) (fun b hb=>if_pos hb) (.inr ⟨_,vs.toArray,_,hk,rfl,rfl,rfl,by rw[aX,lenV];exact hl,by simpa using rv⟩) (fun b u z=>?_) fun z=>absurd (if_neg naT) z
  ·by_cases hb:b∈tabs
   ·exact .inr (.inr ⟨hb,if_pos hb⟩)
   ·exact .inl (if_neg hb)
  ·by_cases hb:b∈tabs
   ·have z':=(if_pos hb).symm.trans z
    cases z'
    exact tabok b hb _
   ·have z':=(if_neg hb).symm.trans z
    cases z'
 | none=>
  refine core (fun b=>if b=a then some (.frz { cls:=.type "list",data:=.seq vs.toArray } (.lst (ns.map V.int))) else if b∈tabs then some (.tbl #[]) else none) (fun b=>?_) (fun b hb=>?_) (.inl (.inr ⟨{ cls:=.type "list",data:=.seq vs.toArray },if_pos rfl⟩)) (fun b u z=>?_) fun _=>hk
  ·by_cases hb:b=a
   ·exact .inr (.inl ⟨hb,if_pos hb⟩)
   ·by_cases hb2:b∈tabs
    ·exact .inr (.inr ⟨hb2,(if_neg hb).trans (if_pos hb2)⟩)
    ·exact .inl ((if_neg hb).trans (if_neg hb2))
  ·exact (if_neg (fun z=>naT (by rw[<- z];exact hb))).trans (if_pos hb)
  ·by_cases hb:b=a
   ·have z':=(if_pos hb).symm.trans z
    cases z'
    subst hb
    exact ⟨ha,by rw[aQ];exact hl,vs,_,rv,ha⟩
   ·have z:=(if_neg hb).symm.trans z
    by_cases hb2:b∈tabs
    ·have z':=(if_pos hb2).symm.trans z
     cases z'
     exact tabok b hb2 _
    ·have z':=(if_neg hb2).symm.trans z
     cases z'
noncomputable def Agq(K:aJ):List (Addr×Addr):=Gn.filterMap fun nm=>cZ K nm
noncomputable def U1(K:aJ):List (Str×Addr):=Gn.filterMap fun nm=>(cZ K nm).map fun q=>(nm,q.2)
noncomputable def Oi(K:aJ):Bool:=(U1 K).all fun x=>(U1 K).all fun y=>x.1 == y.1 || x.2 != y.2
theorem Agr{K:aJ}(h:Oi K=true):∀ nm1∈Gn,∀ nm2∈Gn,∀ c1 c2 P,cZ K nm1=some (c1,P)->cZ K nm2=some (c2,P)->nm1=nm2:=by
 intro nm1 h1 nm2 h2 c1 c2 P e1 e2
 have m1:(nm1,P)∈U1 K:=gH.mpr ⟨nm1,h1,by rw[e1];rfl⟩
 have m2:(nm2,P)∈U1 K:=gH.mpr ⟨nm2,h2,by rw[e2];rfl⟩
 have:=bR.mp (bR.mp h _ m1) _ m2
 simpa using this
theorem Am8{l:lN}{k:Nat}{q:cX}{loose:List Str}{XP:(Str->Option aG)->Heap->Prop}{YP:eG->Heap->Prop}{d:DefRec}{K:Params->aJ}{m:FN}{x:Str}
  (hn:l.most=some 63) (hdf:d.params.defaults=[]) (hr:Room k callerA) (hY:∀ (w:eG) (h:Heap),YP w h->(K w.params).In h)
  (hTK:∀ w:eG,noTabs (K w.params)=true/\Oi (K w.params)=true) (hrec:∀ nm∈Gn,∃ d,(recsOf q).find? (fun e=>e.name == nm)=some d)
  (F:∀ (w:eG) (mg:Str->Option aG) (fa:Addr) (h:Heap),(K w.params).In h->h.Ns bJ mg->mg d.name=some (.ref fa) ->
   ∃ fd:cU,(∀ (s:aR) (u:aG),pB s fd ⟨[u],[]⟩ [(x,u)])/\∀ base:Heap,(K w.params).In base->base.Ns bJ mg->LamB (K w.params) mg base->FnOk l.prog w (K w.params) mg base CX0 k fa fd [x] (spF (K w.params) 1 m))
  (ht:∀ ns:List Int,ns.length<=63->(∀ n∈ns,dH n<=2 ^ 20)->∃ L',m [.ref 0] [.ro (ns.map U.int)]=some (.bl true,L')) :
  sR q loose XP YP l.row.toRowW d [] (fun f vs=>tL f vs):=by
 intro w s₀ s₁ mg mb G Y fa o pm cd doc dV kV ho hd hcd hD hmg hg args vals as hpre hlay hrd hwl hlo
 obtain rfl:dV = .none:=Dflts.none hD hdf
 obtain rfl:kV = .none:=Dflts.noKw hD
 obtain ⟨a,vs,ns,rfl,rfl,hobj,hints,hlen⟩:=Aeg hn hpre hwl
 have KX:=hY w _ Y
 obtain ⟨fd,hb,hF⟩:=F w mg fa _ KX G.T.g hmg
 have hwt:=Td hlay
 have hT:∀ b∈(Agq (K w.params)).map (·.2),(∃ c,CodeHd s₁.heap c b)/\s₁.heap.get? b=some (tabObj #[]):=fun b hb=>by
  obtain ⟨⟨c,b'⟩,h1,h2⟩:=bU.mp hb
  obtain ⟨nm,h3,h4⟩:=gH.mp h1
  cases h2
  obtain ⟨dr,hd⟩:=hrec nm h3
  obtain ⟨e1,e2⟩:=tab_of G.T KX hd h4
  exact ⟨⟨c,e1⟩,e2⟩
 have LB:LamB (K w.params) mg s₁.heap:=⟨G.T.bmain,fun nm hn c P e=>by
  obtain ⟨dr,hd⟩:=hrec nm hn
  exact (tab_of G.T KX hd e).1,Agr (hTK w).2⟩
 have all:=Acm ((Agq (K w.params)).map (·.2)) hT (hTK w).1 LB KX G.T.g G.T.b G.T.builtins G.T.nolimit hg hobj hints (cL hlen (by decide)) hr hF hb (fun H hO hB hS=>Al3 hO (fun nm hn c P e=>?_) hS (ht ns hlen hwt))
 ·refine enter_call (qD all fun r s' hq=>?_)
  obtain ⟨rfl,h2,h3,h4⟩:=hq
  exact ⟨.inl ⟨.bool true,.bool true,[],rfl,fun _=>rfl,.bool true,Adp l _,fun _=>⟨List.Pairwise.nil,fun _ hm=>(nomatch hm)⟩⟩,h2,h3,h4⟩
 ·exact ⟨#[],hB P (bU.mpr ⟨(c,P),gH.mpr ⟨nm,hn,e⟩,rfl⟩),trivial,fun pos cv z=>by cases z⟩
end Att
namespace MR
open PySem PyProof.Rows L2
noncomputable def g0(us ws:List aG):List aG:=match us with | []=>ws | _=>[]
section
variable {X:Cx}{k:Nat}{f:Addr}{fd:cU}{p:Str}{ps:List Str}{x:Str}{pp pos kpos:Pos}{e:Expr}{kws:List jJ}{nm:Option Str}
theorem PK.imp{t t':TA}(h:PK X kws t)(hi:∀ σ H Q,t' σ H Q->t σ H Q):PK X kws t':=fun pos pins s σ H Q I q=>h pos pins s σ H Q I (hi σ H Q q)
end
end MR
namespace MR
open PySem PySem.Spec PyProof.Rows PySem.Calls L2
theorem Abf{ns:List Int}:∀ {us:List aG},Vals (ns.map V.int) us->∀ (i:Nat) (v:aG),us[i]? = some v->∃ n t,ns[i]? = some n/\v = .int n t:=by
 induction ns with
 | nil=>intro us r i v e;rw[bW] at r;cases r;simp at e
 | cons n ns ih=>
  intro us r i v e
  rw[aW] at r
  cases r with
  | cons r1 r2=>
   cases i with
   | zero=>
    simp at e;subst e
    obtain ⟨t,rfl⟩:=r1
    exact ⟨n,t,rfl,rfl⟩
   | succ i=>simpa using ih r2 i v (by simpa using e)
theorem Aia(ns:List Int):((aO ns.length).any fun i=>!((ns[i]?).getD 0 == 0))=ns.any fun n=>!(n == 0):=by
 rw[iR,kI,kI]
 constructor
 ·rintro ⟨i,hi,h⟩
  have hi':=bG.mp hi
  simp only[aL hi',fM] at h
  exact ⟨_,eO hi',h⟩
 ·rintro ⟨n,hn,h⟩
  obtain ⟨i,hi,e⟩:=fE hn
  refine ⟨i,bG.mpr hi,?_⟩
  simp only[aL hi,fM,e]
  exact h
variable {X:Cx}
section
theorem Ac0(hc:X.calm=true):CallR X (.builtin "any") (fun xs H Q=>∃ (p:Addr) (ns:List Int),xs=[.ref p]/\SqL X.K H p (ns.map V.int)/\Q (.bl (ns.any fun n=>!(n == 0))) H):=by
 intro pins s σ H xs us Q I r h
 obtain ⟨p,ns,rfl,hq,q⟩:=h
 obtain ⟨u,rfl,rx⟩:=Gz r
 cases rx
 obtain ⟨its,r',pl,hz⟩:=I.list hq
 have hl:=pl.isList
 have hlt:p < s.heap.objs.size:=by obtain ⟨_,e,_⟩:=hl;exact bF e
 refine call_any_walk (jU hl ?_)
 refine ⟨s.heap.objs.size,[s.heap.objs.size,p],[s.heap.objs.size],its.toArray.size,_,_,fun i=>!((ns[i]?).getD 0 == 0),rfl,nW (A:=pV _) (I.ok.hd hc) _ p (cC hlt) its.toArray,
  ⟨⟨_,bE _ rfl,rfl,rfl⟩,hl.push _⟩,fun i v s' Q' E' hP hQ=>?_,fun h' tk hk=>?_⟩
 ·obtain ⟨n,t,e,rfl⟩:=Abf r' i v (by simpa using hP)
  simp only[e,fM] at hQ
  first
   | exact nD hQ
   | exact nD (by simpa[bne] using hQ)
 ·have hlen:its.length=ns.length:=by have:=r'.length;rw[aQ] at this;exact this.symm
  have e:((aO its.toArray.size).any fun i=>!((ns[i]?).getD 0 == 0))=ns.any fun n=>!(n == 0):=by
   rw[aX,hlen];exact Aia ns
  rw[e]
  exact ⟨.bl _,H,I.kept (Aam hk),rfl,q⟩
end
noncomputable def Ql:SC:=fun us L=>match us with
 | [.ref n]=>(Ao L n).bind fun l=>(mapO toI l).map fun ns=>(.bl (ns.any fun n=>!(n == 0)),L)
 | _=>none
theorem Ail{K:aJ}:Px K (fun xs H Q=>∃ (p:Addr) (ns:List Int),xs=[.ref p]/\SqL K H p (ns.map V.int)/\Q (.bl (ns.any fun n=>!(n == 0))) H) Ql:=by
 intro H α L us xs z L' Q A r e q
 unfold Ql at e
 split at e
 ·obtain ⟨l,hl,e⟩:=aB.mp e
  obtain ⟨ns,hns,e⟩:=aH.mp e
  cases e
  obtain ⟨x,rfl,rx⟩:=r.one
  obtain ⟨a,ys,rfl,sq,r2⟩:=Iy A hl rx
  rw[Gi r2 hns] at sq
  exact ⟨a,ns,rfl,sq,q _ H α (.refl _ _) A rfl⟩
 ·cases e
noncomputable def Mr(lo:Int)(n:Nat):List V:=(aO n).map fun i=>V.int (lo+(i:Nat))
theorem Uh{lo:Int}{n:Nat}{acc:Array aG}(h:ItemsOf (fun i v=>∃ t,v=kF (lo+(i:Nat) * 1) t) acc n):Vals (Mr lo n) acc.toList:=by
 obtain ⟨h1,h2⟩:=h
 have key:∀ (k:Nat) (l:List aG) (m:Nat),l.length=k->(∀ i v,l[i]? = some v->∃ t,v=kF (lo+((m+i:Nat):Int)) t)->Vals ((List.range' m k).map fun i=>V.int (lo+((i:Nat):Int))) l:=by
  intro k
  induction k with
  | zero=>intro l m hl _;cases l with | nil=>exact .nil | cons _ _=>simp at hl
  | succ k ih=>
   intro l m hl hv
   cases l with
   | nil=>simp at hl
   | cons v l=>
    rw[List.range'_succ,aW]
    obtain ⟨t,ht⟩:=hv 0 v rfl
    refine .cons ⟨t,by rw[ht];rfl⟩ (ih l (m+1) (by simpa using hl) fun i w hw=>?_)
    obtain ⟨t',ht'⟩:=hv (i+1) w (by simpa using hw)
    refine ⟨t',?_⟩
    rw[ht']
    have:m+(i+1)=m+1+i:=by omega
    rw[this]
 have:=key n acc.toList 0 (by simpa using h1) (fun i v hv=>by
  obtain ⟨t,ht⟩:=h2 i v (by simpa using hv)
  refine ⟨t,?_⟩
  rw[ht,rK,nX])
 unfold Mr
 rw[List.range_eq_range']
 exact this
section
theorem Aen{pins:List (Addr×Obj)}{σ:L2.St}{H:Hp}{s:aR}{Q:VK}{lo hi:Int}{t u v:Tok}{tk:Nat}(hc:X.calm=true)(I:L2.Inv X pins σ H s)(h1:-(2 ^ 62)<=lo)(h2:lo < 2 ^ 62)(h3:-(2 ^ 62)<=hi)(h4:hi < 2 ^ 62)(hn:(hi - lo).toNat<=1000000)
  (q:∀ l,H l=none->Q (.ref l) (upd H l (.lst (Mr lo (hi - lo).toNat)))) :
  wpAny (model X.prog X.w) X.A (call (.type "list") [.ref s.heap.objs.size]) (EP X pins σ Q) X.xe { s with heap:=s.heap.push { cls:=.type "range",data:=.fields #[.int lo t,.int hi u,.int 1 v] },toks:=tk }:=by
 have I1:L2.Inv X pins σ H { s with heap:=s.heap.push { cls:=.type "range",data:=.fields #[.int lo t,.int hi u,.int 1 v] },toks:=tk }:=I.kept fun b o e=>aE _ e
 refine call_list_range (n:=(hi - lo).toNat) (I.ok.hd hc) (tF ..) (small_one h1 h2 h3 h4) (by rw[pD];split <;> omega) (by omega) fun h' tk' acc c' hk hS hacc=>?_
 have hz2:(s.heap.push { cls:=.type "range",data:=.fields #[.int lo t,.int hi u,.int 1 v] }).objs.size=s.heap.objs.size+1:=dG ..
 have hv:=Uh hacc
 have kp:∀ b o,(s.heap.push { cls:=.type "range",data:=.fields #[.int lo t,.int hi u,.int 1 v] }).get? b=some o->h'.get? b=some o:=hk
 have hlen:(Mr lo (hi - lo).toNat).length<=sizeLine:=by
  unfold Mr sizeLine
  rw[aQ,cF];omega
 have new:ObjOk X.prog X.w (upd H (s.heap.push { cls:=.type "range",data:=.fields #[.int lo t,.int hi u,.int 1 v] }).objs.size (.lst (Mr lo (hi - lo).toNat))) h' (s.heap.push { cls:=.type "range",data:=.fields #[.int lo t,.int hi u,.int 1 v] }).objs.size (.lst (Mr lo (hi - lo).toNat)):=
  ⟨hlen,acc.toList,c',hv,by simpa using hS⟩
 exact ⟨.ref (s.heap.push { cls:=.type "range",data:=.fields #[.int lo t,.int hi u,.int 1 v] }).objs.size,_,I1.laid (t':=tk') kp (aS _) new,rfl,q _ (I1.hok.fresh (aS _))⟩
noncomputable def Ali(ta:TA):TE:=fun σ H Q=>ta σ H fun vs H1=>∃ j:Int,vs=[.int j]/\-(2 ^ 62)<=j/\j<=1000000/\∀ l,H1 l=none->Q (.ref l) (upd H1 l (.lst (Mr 0 j.toNat)))
theorem Ag6{a:Expr}{ta:TA}{p p' pos pos':Pos}(hc:X.calm=true)(hgL:Gl X "list")(hmL:X.mg "list" = none)(hg:Gl X "range")(hm:X.mg "range" = none)(ha:PA X [a] ta)(hs:bQ [a] X.env=[(false,eval a X.env)]:=by rfl)
  (hs2:bQ [.Call (.Name "range" p') [a] [] pos'] X.env=[(false,eval (.Call (.Name "range" p') [a] [] pos') X.env)]:=by rfl):PE X (.Call (.Name "list" p) [.Call (.Name "range" p') [a] [] pos'] [] pos) (Ali ta):=by
 intro pins s σ H Q I h
 refine dO (Fq I hgL hmL Q5 ?_)
 refine cY ?_ hs2 rfl
 rw[hs2]
 refine jN ?_
 refine dO (Fq I hg hm sE (cY (thn (ha pos' pins s σ H _ I h) fun us s1 ⟨vs,H1,I1,r1,q1⟩=>?_) hs rfl))
 obtain ⟨j,rfl,j0,j1,q⟩:=q1
 obtain ⟨u,rfl,ru⟩:=Gz r1
 obtain ⟨t,rfl⟩:=ru
 refine qA ?_
 refine jW ?_
 have hj:(j - 0).toNat=j.toNat:=by rw[Int.sub_zero]
 exact Aen (lo:=0) (hi:=j) hc I1 (by omega) (by omega) j0 (by omega) (by omega) (fun l hl=>by rw[hj];exact q l hl)
end
noncomputable def Vs(g:FA):FE:=fun δ L=>(g δ L).bind fun p=>match p.1 with
 | [.int j]=>if -(2 ^ 62)<=j/\j<=1000000 then some (.ref p.2.length,p.2++[.lst (Bf 0 j.toNat)]) else none
 | _=>none
theorem Uy{K:aJ}{H:Hp}{α:List Addr}(lo:Int)(n:Nat):RepL K H α (Bf lo n) (Mr lo n):=by
 unfold Bf Mr
 generalize aO n=ks
 induction ks with
 | nil=>exact .nil
 | cons k ks ih=>exact .cons (by unfold RepU;rfl) ih
theorem Afo{a:Expr}{g:FA}{p p' pos pos':Pos}(hc:X.calm=true)(hgL:Gl X "list")(hmL:X.mg "list" = none)(hg:Gl X "range")(hm:X.mg "range" = none)(ha:PAF X [a] g)(hs:bQ [a] X.env=[(false,eval a X.env)]:=by rfl)
  (hs2:bQ [.Call (.Name "range" p') [a] [] pos'] X.env=[(false,eval (.Call (.Name "range" p') [a] [] pos') X.env)]:=by rfl):PEF X (.Call (.Name "list" p) [.Call (.Name "range" p') [a] [] pos'] [] pos) (Vs g):=by
 refine PE.imp (Ag6 hc hgL hmL hg hm ha hs hs2) ?_
 rintro σ H Q ⟨α,δ,L,A,S,z,L3,e,q⟩
 obtain ⟨⟨us,L1⟩,e1,e⟩:=aB.mp e
 refine ⟨α,δ,L,A,S,us,L1,e1,fun xs H1 α1 g1 A1 r1=>?_⟩
 simp only at e
 split at e
 ·split at e
  ·rename_i hj
   cases e
   obtain ⟨x,rfl,rx⟩:=r1.one
   unfold RepU at rx
   subst rx
   refine ⟨_,rfl,hj.1,hj.2,fun l hl=>?_⟩
   obtain ⟨g2,A2,r2⟩:=A1.lst (Uy (K:=X.K) (H:=H1) (α:=α1) 0 _) hl
   exact q _ _ _ (g1.trans g2) A2 r2
  ·cases e
 ·cases e
end MR
namespace MR
open PySem PyProof.Rows L2
noncomputable def Mb:SM:=fun u us L=>match u,us with
 | .ref n,[]=>(Fu L n).bind fun l=>(l[l.length - 1]?).map fun y=>(y,L.set n (.lst l.dropLast))
 | _,_=>none
variable {K:aJ}{H:Hp}{α:List Addr}
theorem RepL.init:∀ {us:List U} {xs:List V},RepL K H α us xs->RepL K H α us.dropLast xs.dropLast
 | [],xs,r=>by unfold RepL at r;subst r;exact .nil
 | [u],xs,r=>by
  unfold RepL at r
  obtain ⟨x,xr,rfl,rx,r⟩:=r
  unfold RepL at r
  subst r
  exact .nil
 | u::w::us,xs,r=>by
  unfold RepL at r
  obtain ⟨x,xr,rfl,rx,r⟩:=r
  have r':=r
  unfold RepL at r'
  obtain ⟨y,yr,rfl,ry,_⟩:=r'
  exact .cons rx (RepL.init r)
theorem Ahe:Vq K Ao6 Mb:=by
 intro H α L u us x xs z L' Q A ru r e q
 unfold Mb at e
 split at e
 ·obtain ⟨l,hl,e⟩:=aB.mp e
  obtain ⟨y,ey,e⟩:=aH.mp e
  cases e
  unfold RepL at r
  subst r
  obtain ⟨a,ys,rfl,ea,h,r2⟩:=Jx A hl ru
  obtain ⟨w,ew,rw⟩:=r2.get ey
  obtain ⟨g,A'⟩:=A.setL hl ea h (RepL.init r2)
  exact ⟨a,ys,w,rfl,rfl,h,by rw[<- r2.length];exact ew,q _ _ _ g A' (rw.mono g)⟩
 ·cases e
noncomputable def toK:U->Option Key
 | .int i=>some (.inl i)
 | .str x=>some (.inr x)
 | _=>none
variable {u:U}{x:V}{k:Key}
theorem Yh(r:RepU K H α u x)(h:toK u=some k):x=kV k:=by
 cases u <;> simp only[toK] at h <;> first | (cases h;unfold RepU at r;exact r) | cases h
noncomputable def Iz(kvs:List (Key×U))(k:Key):Option U:=(kvs.find? fun kv=>decide (kv.1=k)).map (·.2)
noncomputable def Te(kvs:List (Key×U))(k:Key)(v:U):List (Key×U):=
 if (kvs.any fun kv=>decide (kv.1=k))=true then kvs.map (fun kv=>if kv.1=k then (kv.1,v) else kv) else kvs++[(k,v)]
variable {kvs:List (Key×U)}{vs:List (Key×V)}
section
noncomputable def RepKV(K:aJ)(H:Hp)(α:List Addr)(kvs:List (Key×U))(vs:List (Key×V)):Prop:=kvs.map (·.1)=vs.map (·.1)/\RepL K H α (kvs.map (·.2)) (vs.map (·.2))
theorem RepKV.nil:RepKV K H α [] []:=⟨rfl,.nil⟩
theorem RepKV.cons{kv:Key×U}(h:RepKV K H α (kv::kvs) vs):∃ x vs',vs=(kv.1,x)::vs'/\RepU K H α kv.2 x/\RepKV K H α kvs vs':=by
 obtain ⟨h1,h2⟩:=h
 cases vs with
 | nil=>simp at h1
 | cons w vs'=>
  simp only[aW,oH] at h1
  rw[aW,aW] at h2
  unfold RepL at h2
  obtain ⟨x,xr,hx,rx,r⟩:=h2
  injection hx with e1 e2
  subst e1
  refine ⟨w.2,vs',by rw[h1.1],rx,h1.2,?_⟩
  rw[e2];exact r
theorem RepKV.mk(r:RepU K H α u x)(h:RepKV K H α kvs vs):RepKV K H α ((k,u)::kvs) ((k,x)::vs):=
 ⟨by simp[h.1],by rw[aW,aW];exact .cons r h.2⟩
theorem RepKV.val:∀ {kvs:List (Key×U)} {vs:List (Key×V)},RepKV K H α kvs vs->Iz kvs k=some u->∃ x,Mt vs k=some x/\RepU K H α u x
 | [],vs,_,e=>by simp[Iz] at e
 | kv::kvs,vs,r,e=>by
  obtain ⟨x,vs',rfl,rx,r'⟩:=r.cons
  unfold Iz at e
  unfold Mt
  rw[dF] at e ⊢
  by_cases h:kv.1=k
  ·simp only[h,decide_true,aC] at e ⊢
   cases e
   exact ⟨x,rfl,rx⟩
  ·simp only[h,decide_false] at e ⊢
   exact RepKV.val r' e
theorem RepKV.any:∀ {kvs:List (Key×U)} {vs:List (Key×V)},RepKV K H α kvs vs->(kvs.any fun kv=>decide (kv.1=k))=(vs.any fun kv=>decide (kv.1=k))
 | [],vs,r=>by
  obtain ⟨h1,_⟩:=r
  cases vs with
  | nil=>rfl
  | cons _ _=>simp at h1
 | kv::kvs,vs,r=>by
  obtain ⟨x,vs',rfl,rx,r'⟩:=r.cons
  rw[gF,gF,RepKV.any r']
theorem RepKV.len(r:RepKV K H α kvs vs):kvs.length=vs.length:=by
 have:=congrArg eW r.1
 simpa using this
theorem RepKV.upd(ru:RepU K H α u x):∀ {kvs:List (Key×U)} {vs:List (Key×V)},RepKV K H α kvs vs->RepKV K H α (kvs.map fun kv=>if kv.1=k then (kv.1,u) else kv) (vs.map fun kv=>if kv.1=k then (kv.1,x) else kv)
 | [],vs,r=>by
  obtain ⟨h1,_⟩:=r
  cases vs with
  | nil=>exact .nil
  | cons _ _=>simp at h1
 | kv::kvs,vs,r=>by
  obtain ⟨y,vs',rfl,ry,r'⟩:=r.cons
  rw[aW,aW]
  by_cases h:kv.1=k
  ·rw[if_pos h,if_pos h]
   exact .mk ru (RepKV.upd ru r')
  ·rw[if_neg h,if_neg h]
   exact .mk ry (RepKV.upd ru r')
theorem RepKV.add(ru:RepU K H α u x):∀ {kvs:List (Key×U)} {vs:List (Key×V)},RepKV K H α kvs vs->RepKV K H α (kvs++[(k,u)]) (vs++[(k,x)])
 | [],vs,r=>by
  obtain ⟨h1,_⟩:=r
  cases vs with
  | nil=>exact .mk ru .nil
  | cons _ _=>simp at h1
 | kv::kvs,vs,r=>by
  obtain ⟨y,vs',rfl,ry,r'⟩:=r.cons
  exact .mk ry (RepKV.add ru r')
theorem RepKV.put(ru:RepU K H α u x)(r:RepKV K H α kvs vs):RepKV K H α (Te kvs k u) (N9 vs k x):=by
 unfold Te N9
 rw[r.any]
 split
 ·exact r.upd ru
 ·exact r.add ru
theorem RepKV.mono{H':Hp}{α':List Addr}(r:RepKV K H α kvs vs)(g:Gr H α H' α'):RepKV K H' α' kvs vs:=⟨r.1,r.2.mono g⟩
end
noncomputable def Ft(L:UH)(n:Nat):Option (List (Key×U)):=match L[n]? with
 | some (.dic kvs)=>some kvs
 | _=>none
variable {L:UH}{n:Nat}
theorem Mq(h:Ft L n=some kvs):L[n]? = some (.dic kvs):=by
 unfold Ft at h
 split at h
 ·rename_i e;cases h;exact e
 ·cases h
theorem N2(A:Abs K H α L)(h:Ft L n=some kvs)(r:RepU K H α (.ref n) x):∃ a vs,x = .ref a/\α[n]? = some a/\H a=some (.dK vs)/\RepKV K H α kvs vs:=by
 unfold RepU at r
 obtain ⟨a,ea,rfl⟩:=r
 obtain ⟨vs,e,k1,k2⟩:=A.rep n a _ ea (Mq h)
 exact ⟨a,vs,rfl,ea,e,k1,k2⟩
theorem Abs.setD{a:Addr}{ws:List (Key×V)}{kws:List (Key×U)}(A:Abs K H α L)(h:Ft L n=some kvs)(ea:α[n]? = some a)(e:H a=some (.dK vs))(r:RepKV K H α kws ws) :
  Gr H α (upd H a (.dK ws)) α/\Abs K (upd H a (.dK ws)) α (L.set n (.dic kws)):=by
 have g:Gr H α (upd H a (.dK ws)) α:=⟨⟨[],by simp⟩,.write e (by exact trivial) _⟩
 obtain ⟨A',_⟩:=A.put (o:=.dK ws) (u:=.dic kws) ea (Mq h) rfl rfl e (by exact trivial) ⟨ws,upd_same,(r.mono g).1,(r.mono g).2⟩
 exact ⟨g,A'⟩
section
variable {X:Cx}{o i value:Expr}{pos pos':Pos}{fo fi fv:FE}
noncomputable def Kw:FE:=fun _ L=>some (.ref L.length,L++[.dic []])
theorem N5:PEF X (.Dict [] [] pos) Kw:=by
 refine PE.imp Afg ?_
 rintro σ H Q ⟨α,δ,L,A,S,z,L3,e,q⟩
 cases e
 intro p hp
 have g:Gr H α (upd H p (.dK [])) (α ++ [p]):=⟨⟨[p],rfl⟩,.new hp _⟩
 obtain ⟨A',_⟩:=A.new (o:=.dK []) (u:=.dic []) hp ⟨[],upd_same,rfl,.nil⟩
 refine q _ _ _ g A' ?_
 unfold RepU
 exact ⟨p,by rw[<- A.len];simp,rfl⟩
noncomputable def V5(fo fi:FE):FE:=fun δ L=>(fo δ L).bind fun p=>(fi δ p.2).bind fun q=>match p.1 with
 | .ref n=>(toK q.1).bind fun k=>(Ft q.2 n).bind fun kvs=>(Iz kvs k).map fun u=>(u,q.2)
 | _=>none
theorem Abl(hu:X.A.units+64 < cLine)(ho:PEF X o fo)(hi:PEF X i fi)(hs:Aiv i):PEF X (.Subscript o i pos) (V5 fo fi):=by
 refine PE.imp (Aaf (by omega) ho hi hs) ?_
 rintro σ H Q ⟨α,δ,L,A,S,z,L3,e,q⟩
 obtain ⟨⟨u,L1⟩,e1,e⟩:=aB.mp e
 obtain ⟨⟨w,L2⟩,e2,e⟩:=aB.mp e
 refine ⟨α,δ,L,A,S,u,L1,e1,fun x H1 α1 g1 A1 r1=>⟨α1,δ,L1,A1,S.mono g1,w,L2,e2,fun y H2 α2 g2 A2 r2=>?_⟩⟩
 simp only at e
 split at e
 ·obtain ⟨k,hk,e⟩:=aB.mp e
  obtain ⟨kvs,hd,e⟩:=aB.mp e
  obtain ⟨v,hv,e⟩:=aH.mp e
  cases e
  obtain ⟨a,vs,rfl,ea,ha,rk⟩:=N2 A2 hd (r1.mono g2)
  obtain ⟨x',hx',rx'⟩:=rk.val hv
  refine ⟨a,x',rfl,?_,q _ _ _ (g1.trans g2) A2 rx'⟩
  rw[Yh r2 hk,<- hx']
  exact DGet.k ha
 ·cases e
noncomputable def Pj(fo fi fv:FE):FS:=fun δ L=>(fv δ L).bind fun p=>(fo δ p.2).bind fun q=>(fi δ q.2).bind fun r=>match q.1 with
 | .ref n=>(toK r.1).bind fun k=>(Ft r.2 n).bind fun kvs=>if kvs.length < 1000000 then some (.nx δ,r.2.set n (.dic (Te kvs k p.1))) else none
 | _=>none
theorem Lp(hu:X.A.units+64 < cLine)(ho:PEF X o fo)(hi:PEF X i fi)(hv:PEF X value fv)(hs:swapsWith value (some (.Subscript o i pos')) pos.line X.env=pure false:=by rfl):PSF X (.Assign [.Subscript o i pos'] value pos) (Pj fo fi fv):=by
 refine PS.imp (Ahz (by omega) ho hi hv hs) ?_
 rintro D σ H ⟨α,δ,L,A,S,fl,L',e,q⟩
 obtain ⟨⟨v,L1⟩,e1,e⟩:=aB.mp e
 obtain ⟨⟨u,L2⟩,e2,e⟩:=aB.mp e
 obtain ⟨⟨w,L3⟩,e3,e⟩:=aB.mp e
 refine ⟨α,δ,L,A,S,v,L1,e1,fun xv H1 α1 g1 A1 rv=>⟨α1,δ,L1,A1,S.mono g1,u,L2,e2,fun x H2 α2 g2 A2 rx=>⟨α2,δ,L2,A2,(S.mono g1).mono g2,w,L3,e3,fun y H3 α3 g3 A3 ry=>?_⟩⟩⟩
 simp only at e
 split at e
 ·obtain ⟨k,hk,e⟩:=aB.mp e
  obtain ⟨kvs,hd,e⟩:=aB.mp e
  split at e
  ·rename_i hl
   cases e
   obtain ⟨a,vs,rfl,ea,ha,rk⟩:=N2 A3 hd (rx.mono g3)
   have rv':=rv.mono (g2.trans g3)
   obtain ⟨g4,A4⟩:=A3.setD hd ea ha (rk.put (k:=k) rv')
   refine ⟨a,_,rfl,?_,q σ _ α3 ((g1.trans (g2.trans g3)).trans g4) A4 ((((S.mono g1).mono g2).mono g3).mono g4)⟩
   rw[Yh ry hk]
   exact DPut.k ha (by rw[<- rk.len];unfold sizeLine;omega)
  ·cases e
 ·cases e
end
theorem Ap0{β:Type}{P:List β->Prop}(h:P [])(us:List β)(hl:us.length=0):P us:=by
 cases us with
 | nil=>exact h
 | cons=>cases hl
theorem Aph{β:Type}{P:List β->Prop}(h:∀ (a:β) (us:List β),us.length=n->P (a::us))(us:List β)(hl:us.length=n+1):P us:=by
 cases us with
 | nil=>cases hl
 | cons a us=>exact h a us (Nat.succ.inj hl)
theorem P0{β:Type}{P:List β->Prop}(h:∀ a,P [a]):∀ us:List β,us.length=1->P us:=Aph fun a=>Ap0 (h a)
theorem Q6{β:Type}{P:List β->Prop}(h:∀ a b,P [a,b]):∀ us:List β,us.length=2->P us:=Aph fun a=>P0 (h a)
section
variable {X:Cx}{elts:List Expr}{x1:Nat}{tpos:Pos}
noncomputable def R9(g:FA):FI:=fun δ L=>(g δ L).bind fun p=>match p.1 with
 | [.tup us,.tup ws]=>some (.seq (Lj us ws),p.2)
 | _=>none
theorem Wh{a b:Expr}{g:FA}{p pos:Pos}(hg:Gl X "zip")(hm:X.mg "zip" = none)(ha:PAF X [a,b] g)(hs:bQ [a,b] X.env=(false,eval a X.env)::bQ [b] X.env:=by rfl)(hpl:(backTo pos (bQ [b] X.env)).any (·.1)=false:=by rfl):PIF X (.Tuple elts x1 tpos) (.Call (.Name "zip" p) [a,b] [] pos) (R9 g):=by
 refine PI.imp (Ajv hg hm ha hs hpl) ?_
 rintro σ H R ⟨α,δ,L,A,S,i,L3,e,q⟩
 obtain ⟨⟨us,L1⟩,e1,ee⟩:=aB.mp e
 simp only at ee
 split at ee
 ·cases ee
  refine ⟨α,δ,L,A,S,_,_,e1,fun xs H1 α1 g1 A1 r1=>?_⟩
  obtain ⟨x,y,rfl,rx,ry⟩:=r1.two
  unfold RepU at rx ry
  obtain ⟨a',ys,rfl,sq,r2⟩:=rx
  obtain ⟨b',ys',rfl,sq',r2'⟩:=ry
  exact ⟨a',b',ys,ys',rfl,sq,sq',q _ H1 α1 g1 A1 (Ae1 sq sq' r2 r2')⟩
 ·cases ee
end
end MR
namespace MR
open PySem L2
@[simp] theorem fVar_eq(i:Nat)(δ:UE)(L:UH):Ad i δ L=(δ[i]?).join.map fun u=>(u,L):=rfl
@[simp] theorem fC_eq(u:U)(δ:UE)(L:UH):fC u δ L=some (u,L):=rfl
@[simp] theorem f2_eq(s:S2)(a b:FE)(δ:UE)(L:UH):f2 s a b δ L=(a δ L).bind fun p=>(b δ p.2).bind fun q=>s p.1 q.1 q.2:=rfl
@[simp] theorem fTest_eq(f:FE)(δ:UE)(L:UH):By f δ L=(f δ L).bind fun p=>match p.1 with | .bl k=>some (k,p.2) | _=>none:=rfl
@[simp] theorem fAnd_eq(f g:FT)(δ:UE)(L:UH):U3 f g δ L=(f δ L).bind fun p=>if p.1=true then g δ p.2 else some (false,p.2):=rfl
@[simp] theorem fOr_eq(f g:FT)(δ:UE)(L:UH):fOr f g δ L=(f δ L).bind fun p=>if p.1=true then some (true,p.2) else g δ p.2:=rfl
@[simp] theorem fNot_eq(f:FT)(δ:UE)(L:UH):Pu f δ L=(f δ L).map fun p=>(!p.1,p.2):=rfl
@[simp] theorem Ly(f g:FE)(δ:UE)(L:UH):Sk f g δ L=(f δ L).bind fun p=>match p.1 with | .bl k=>if k=true then g δ p.2 else some (.bl false,p.2) | _=>none:=rfl
@[simp] theorem Apw(f g:FE)(δ:UE)(L:UH):Apy f g δ L=(f δ L).bind fun p=>match p.1 with | .bl k=>if k=true then some (.bl true,p.2) else g δ p.2 | _=>none:=rfl
@[simp] theorem fNotV_eq(f:FE)(δ:UE)(L:UH):Afr f δ L=(f δ L).bind fun p=>match p.1 with | .bl k=>some (.bl (!k),p.2) | _=>none:=rfl
@[simp] theorem Ap8(c:FT)(f g:FE)(δ:UE)(L:UH):fIf c f g δ L=(c δ L).bind fun p=>if p.1=true then f δ p.2 else g δ p.2:=rfl
@[simp] theorem fNil_eq(δ:UE)(L:UH):Af δ L=some ([],L):=rfl
@[simp] theorem fCons_eq(f:FE)(g:FA)(δ:UE)(L:UH):Ac f g δ L=(f δ L).bind fun p=>(g δ p.2).map fun q=>(p.1::q.1,q.2):=rfl
@[simp] theorem fTup_eq(g:FA)(δ:UE)(L:UH):Ec g δ L=(g δ L).bind fun p=>if small p.1.length=true then some (.tup p.1,p.2) else none:=rfl
@[simp] theorem fLst_eq(g:FA)(δ:UE)(L:UH):Cs g δ L=(g δ L).bind fun p=>if small p.1.length=true then some (.ref p.2.length,p.2++[.lst p.1]) else none:=rfl
@[simp] theorem fCall_eq(s:SC)(g:FA)(δ:UE)(L:UH):Az s g δ L=(g δ L).bind fun p=>s p.1 p.2:=rfl
@[simp] theorem fOwn_eq(n:Nat)(F:FN)(g:FA)(δ:UE)(L:UH):Be n F g δ L=(g δ L).bind fun p=>if p.1.length=n then F p.1 p.2 else none:=rfl
@[simp] theorem fMeth_eq(T:String)(s:SM)(f:FE)(g:FA)(δ:UE)(L:UH):Ep T s f g δ L=(f δ L).bind fun p=>if tyU T p.1 p.2=true then (g δ p.2).bind fun q=>s p.1 q.1 q.2 else none:=rfl
@[simp] theorem fPart_eq(f:FE)(δ:UE)(L:UH):Fd f δ L=(f δ L).bind fun p=>match p.1 with | .int i=>some (some i,p.2) | _=>none:=rfl
@[simp] theorem fNoPart_eq(δ:UE)(L:UH):Cg δ L=some (none,L):=rfl
@[simp] theorem fSl_eq(s:SS)(f:FE)(l h:FO)(δ:UE)(L:UH):fSl s f l h δ L=(f δ L).bind fun p=>(l δ p.2).bind fun q=>(h δ q.2).bind fun r=>s p.1 q.1 r.1 r.2:=rfl
@[simp] theorem U5(f:FE)(δ:UE)(L:UH):Qs f δ L=(f δ L).bind fun p=>match p.1 with | .int i=>some (.int (-i),p.2) | _=>none:=rfl
@[simp] theorem fTru_eq(f:FE)(δ:UE)(L:UH):Ij f δ L=(f δ L).bind fun p=>(Xo p.1 p.2).map fun k=>(k,p.2):=rfl
@[simp] theorem Vb(c:String)(f:FE)(δ:UE)(L:UH):Xg c f δ L=(f δ L).bind fun p=>(Mu p.1 p.2).map fun t=>(.bl (isT t c),p.2):=rfl
@[simp] theorem Cq(δ:UE)(L:UH):C1 δ L=some (.nx δ,L):=rfl
@[simp] theorem fSeq_eq(f g:FS)(δ:UE)(L:UH):A9 f g δ L=(f δ L).bind fun p=>match p.1 with | .nx δ'=>g δ' p.2 | fl=>some (fl,p.2):=rfl
@[simp] theorem fRet_eq(f:FE)(δ:UE)(L:UH):Dj f δ L=(f δ L).map fun p=>(.rt p.1,p.2):=rfl
@[simp] theorem Jk(f:FE)(δ:UE)(L:UH):Jp f δ L=(f δ L).map fun p=>(.nx δ,p.2):=rfl
@[simp] theorem Aos(δ:UE)(L:UH):Aow δ L=some (.rt .non,L):=rfl
@[simp] theorem fIfS_eq(c:FT)(f g:FS)(δ:UE)(L:UH):Fm c f g δ L=(c δ L).bind fun p=>if p.1=true then f δ p.2 else g δ p.2:=rfl
@[simp] theorem gN_eq(i:Nat)(u:U)(δ:UE)(L:UH):gN i u δ L=some (δ.set i (some u),L):=rfl
@[simp] theorem Apt(δ:UE)(L:UH):MR.gNil [] δ L=some (δ,L):=rfl
@[simp] theorem Apm(f:FG)(g:FGs)(u:U)(r:List U)(δ:UE)(L:UH):MR.gCons f g (u::r) δ L=(f u δ L).bind fun p=>g r p.1 p.2:=rfl
@[simp] theorem Apv(n:Nat)(g:FGs)(us:List U)(δ:UE)(L:UH):MR.gTup n g (.tup us) δ L=if us.length=n then g us δ L else none:=rfl
@[simp] theorem Aps(a b:FE)(v:U)(δ:UE)(L:UH):MR.gSub a b v δ L=(a δ L).bind fun p=>(b δ p.2).bind fun q=>match p.1,q.1 with
 | .ref n,.int k=>(Fu q.2 n).bind fun l=>(ixN l.length k).map fun j=>(δ,q.2.set n (.lst (l.set j v)))
 | _,_=>none:=rfl
@[simp] theorem fAsg_eq(f:FE)(g:FG)(δ:UE)(L:UH):Ba f g δ L=(f δ L).bind fun p=>(g p.1 δ p.2).map fun q=>(.nx q.1,q.2):=rfl
@[simp] theorem Aa6(fi:FI)(g:FG)(b:FS)(δ:UE)(L:UH):Jh fi g b δ L=(fi δ L).bind fun p=>N3 p.1 g b (p.1.size p.2+1) 0 δ p.2:=rfl
@[simp] theorem Er(f:FE)(δ:UE)(L:UH):Bg f δ L=(f δ L).bind fun p=>(Qq p.1 p.2).map fun i=>(i,p.2):=rfl
@[simp] theorem Af0(g:FA)(δ:UE)(L:UH):Dc g δ L=(g δ L).bind fun p=>match p.1 with
 | [.int j]=>if -(2 ^ 62)<=j/\j < 2 ^ 62 then some (.seq (Bf 0 j.toNat),p.2) else none
 | _=>none:=rfl
@[simp] theorem semAdd_int(i j:Int)(L:UH):Aw (.int i) (.int j) L=some (.int (i+j),L):=rfl
@[simp] theorem semSub_int(i j:Int)(L:UH):Mo (.int i) (.int j) L=some (.int (i - j),L):=rfl
@[simp] theorem Amv(i j:Int)(L:UH):Bi (.int i) (.int j) L=if Im i j=true then some (.int (i * j),L) else none:=rfl
@[simp] theorem Amm(i j:Int)(L:UH):Ia (.int i) (.int j) L=if Tx i j=true then some (.int (i / j),L) else none:=rfl
@[simp] theorem Amn(i j:Int)(L:UH):Ed (.int i) (.int j) L=if decide (0 < j)=true then some (.int (i % j),L) else none:=rfl
@[simp] theorem Am2(i j:Int)(L:UH):Hh (.int i) (.int j) L=if Um i j=true then some (.int (i ^ j.toNat),L) else none:=rfl
@[simp] theorem Ant(i j:Int)(L:UH):Ui (.int i) (.int j) L=some (.bl (decide (i<=j)),L):=rfl
@[simp] theorem semLt_int(i j:Int)(L:UH):Js (.int i) (.int j) L=some (.bl (decide (i < j)),L):=rfl
@[simp] theorem Anr(i j:Int)(L:UH):Aex (.int i) (.int j) L=some (.bl (decide (j < i)),L):=rfl
@[simp] theorem Anq(i j:Int)(L:UH):Rz (.int i) (.int j) L=some (.bl (decide (j<=i)),L):=rfl
@[simp] theorem semEq_int(i j:Int)(L:UH):B2 (.int i) (.int j) L=some (.bl (i == j),L):=rfl
@[simp] theorem Ans(i j:Int)(L:UH):Dl (.int i) (.int j) L=some (.bl (!(i == j)),L):=rfl
@[simp] theorem Aox(i j:Bool)(L:UH):B2 (.bl i) (.bl j) L=some (.bl (i == j),L):=rfl
@[simp] theorem Anz(i j:Bool)(L:UH):Dl (.bl i) (.bl j) L=some (.bl (!(i == j)),L):=rfl
@[simp] theorem Api(i j:Bool)(L:UH):Pq false (.bl i) (.bl j) L=some (.bl (i == j),L):=rfl
@[simp] theorem Oq(l:List U)(i:Int)(L:UH):Am (.tup l) (.int i) L=(L2.atI l i).map fun z=>(z,L):=rfl
@[simp] theorem semIx_ref(n:Nat)(i:Int)(L:UH):Am (.ref n) (.int i) L=(Ao L n).bind fun l=>(L2.atI l i).map fun z=>(z,L):=rfl
@[simp] theorem truU_bl(b:Bool)(L:UH):Xo (.bl b) L=some b:=rfl
variable {L:UH}{n:Nat}{us:List U}
theorem Aj(h:L[n]? = some (.lst us)):Ao L n=some us:=by unfold Ao;rw[h]
theorem Cz(h:L[n]? = some (.lst us)):Fu L n=some us:=by unfold Fu;rw[h]
theorem small_of(h:n<=16777216):small n=true:=by unfold small sizeLine;exact decide_eq_true (by omega)
variable {i:Int}
theorem Rr{β:Type}{l:List β}(h0:0<=i)(h:i < l.length):L2.atI l i=l[i.toNat]?:=by
 unfold L2.atI ixN
 rw[if_pos h0,if_pos h];rfl
variable {j:Int}
theorem Md(h1:-1000000000000000000<=i)(h2:i<=1000000000000000000):Im i j=true:=by
 unfold Im;simp only[oF,cG,decide_eq_true_eq];left;constructor <;> omega
theorem Ng(h1:-1000000000000000000<=j)(h2:j<=1000000000000000000):Im i j=true:=by
 unfold Im;simp only[oF,cG,decide_eq_true_eq];right;constructor <;> omega
theorem Qp(h1:0 < j)(h2:j < 1152921504606846976):Tx i j=true:=by
 unfold Tx;simp only[cG,decide_eq_true_eq];exact ⟨h1,h2⟩
noncomputable def X1(g:FG)(body:FS)(u:U)(δ:UE)(L:UH)(R:UE->UH->Prop):Prop:=∃ δ1 L1,g u δ L=some (δ1,L1)/\∃ δ2 L2,(body δ1 L1=some (.nx δ2,L2)\/body δ1 L1=some (.ct δ2,L2))/\R δ2 L2
variable {it:IU}{g:FG}{body:FS}
theorem R8(P:Nat->UE->UH->Prop)(hat:∀ k δ L,k<=us.length->P k δ L->it.at k L=some us[k]?)
  (step:∀ k u δ L,us[k]? = some u->P k δ L->X1 g body u δ L (P (k+1))) :
  ∀ (m k:Nat) (δ:UE) (L:UH),us.length < m+k->k<=us.length->P k δ L->∃ δ' L',N3 it g body m k δ L=some (.nx δ',L')/\P us.length δ' L'
 | 0,k,δ,L,h1,h2,_=>by omega
 | m+1,k,δ,L,h1,h2,hP=>by
  have hk:=hat k δ L h2 hP
  unfold N3
  rw[hk]
  cases hu:us[k]? with
  | none=>
   have:k=us.length:=by have:=cV.mp hu;omega
   subst this
   exact ⟨δ,L,rfl,hP⟩
  | some u=>
   have hlt:k < us.length:=(aF.mp hu).1
   obtain ⟨δ1,L1,e1,δ2,L2,e2,hP2⟩:=step k u δ L hu hP
   obtain ⟨δ',L',e3,hP3⟩:=R8 P hat step m (k+1) δ2 L2 (by omega) (by omega) hP2
   refine ⟨δ',L',?_,hP3⟩
   rcases e2 with e2 | e2
   ·simp only[e1,aA,e2,e3]
   ·simp only[e1,aA,e2,e3]
variable {fi:FI}{δ:UE}{L0:UH}
theorem P7(P:Nat->UE->UH->Prop)(hi:fi δ L=some (.seq us,L0))(h0:P 0 δ L0)(step:∀ k u δ L,us[k]? = some u->P k δ L->X1 g body u δ L (P (k+1))) :
  ∃ δ' L',Jh fi g body δ L=some (.nx δ',L')/\P us.length δ' L':=by
 obtain ⟨δ',L',e,h⟩:=R8 (it:=.seq us) (g:=g) (body:=body) (us:=us) P (fun _ _ _ _ _=>rfl) step (us.length+1) 0 δ L0 (by omega) (by omega) h0
 exact ⟨δ',L',by rw[Aa6,hi];exact e,h⟩
theorem Nq(P:Nat->UE->UH->Prop)(hi:fi δ L=some (.ref n,L0))(h0:P 0 δ L0)(hl:∀ k δ L,P k δ L->Ao L n=some us)(step:∀ k u δ L,us[k]? = some u->P k δ L->X1 g body u δ L (P (k+1))) :
  ∃ δ' L',Jh fi g body δ L=some (.nx δ',L')/\P us.length δ' L':=by
 have hat:∀ k δ L,k<=us.length->P k δ L->(IU.ref n).at k L=some us[k]?:=fun k δ L _ hp=>by
  have:=hl k δ L hp
  unfold Ao at this
  unfold IU.at
  simp only
  split at this
  ·rename_i e;cases this;first | rw[e] | rfl
  ·rename_i e;cases this;first | rw[e] | rfl
  ·cases this
 have hsz:(IU.ref n).size L0=us.length:=by
  have:=hl 0 δ L0 h0
  unfold Ao at this
  unfold IU.size
  simp only
  split at this
  ·rename_i e;cases this;first | rw[e] | rfl
  ·rename_i e;cases this;first | rw[e] | rfl
  ·cases this
 obtain ⟨δ',L',e,h⟩:=R8 (it:=.ref n) (g:=g) (body:=body) (us:=us) P hat step (us.length+1) 0 δ L0 (by omega) (by omega) h0
 exact ⟨δ',L',by rw[Aa6,hi];simp only[aA,hsz];exact e,h⟩
theorem B0(h:Ao L n=some us):Qq (.ref n) L=some (.ref n):=by
 unfold Ao at h
 unfold Qq
 simp only
 split at h
 ·rename_i e;first | rw[e] | rfl
 ·rename_i e;first | rw[e] | rfl
 ·cases h
variable {u:U}
theorem Ie{lo:Int}{k:Nat}(h:(Bf lo n)[k]? = some u):k < n/\u = .int (lo+k):=by
 unfold Bf at h
 rw[bO] at h
 by_cases hk:k < n
 ·rw[lD hk] at h
  simp at h
  exact ⟨hk,h.symm⟩
 ·rw[eS (by simpa using hk)] at h
  simp at h
theorem Kd{lo:Int}:(Bf lo n).length=n:=by simp[Bf]
@[simp] theorem Aov(g:FA)(δ:UE)(L:UH):An0 g δ L=(g δ L).bind fun p=>match p.1 with
 | [.ref n]=>(Ao p.2 n).map fun _=>(.enm n,p.2)
 | _=>none:=rfl
@[simp] theorem Apu(g:FA)(δ:UE)(L:UH):Aqa g δ L=(g δ L).bind fun p=>match p.1 with
 | [.ref n,.ref m]=>(Ao p.2 n).bind fun _=>(Ao p.2 m).map fun _=>(.zip2 n m,p.2)
 | _=>none:=rfl
@[simp] theorem fRev_eq(f:FE)(δ:UE)(L:UH):Aet f δ L=(f δ L).bind fun p=>match p.1 with | .ref n=>(Ao p.2 n).map fun l=>(.ref p.2.length,p.2++[.lst l.reverse]) | .tup l=>some (.tup l.reverse,p.2) | _=>none:=rfl
@[simp] theorem Apl(g:FA)(δ:UE)(L:UH):Akb g δ L=(g δ L).bind fun p=>match p.1 with
 | [.int i,.int j]=>if (-(2 ^ 62)<=i/\i < 2 ^ 62)/\(-(2 ^ 62)<=j/\j < 2 ^ 62) then some (.seq (Bf i (j - i).toNat),p.2) else none
 | _=>none:=by first | rfl | (unfold Akb;rfl)
variable {tt:Option FT}{fe:FE}
theorem R6(P:Nat->List U->UE->UH->Prop)(hat:∀ k acc δ L,k<=us.length->P k acc δ L->it.at k L=some us[k]?)
  (step:∀ k u acc δ L,us[k]? = some u->P k acc δ L->∃ δ1 L1,g u δ L=some (δ1,L1)/\∃ b L2,Iw tt δ1 L1=some (b,L2)/\(b=true->∃ r L3,fe δ1 L2=some (r,L3)/\acc.length < 16777216/\P (k+1) (acc++[r]) δ1 L3)/\(b=false->P (k+1) acc δ1 L2)) :
  ∀ (m k:Nat) (acc:List U) (δ:UE) (L:UH),us.length < m+k->k<=us.length->P k acc δ L->∃ ys δ' L',Sw it g tt fe m k acc δ L=some (ys,L')/\P us.length ys δ' L'
 | 0,k,acc,δ,L,h1,h2,_=>by omega
 | m+1,k,acc,δ,L,h1,h2,hP=>by
  have hk:=hat k acc δ L h2 hP
  unfold Sw
  rw[hk]
  cases hu:us[k]? with
  | none=>
   have:k=us.length:=by have:=cV.mp hu;omega
   subst this
   exact ⟨acc,δ,L,rfl,hP⟩
  | some u=>
   have hlt:k < us.length:=(aF.mp hu).1
   obtain ⟨δ1,L1,e1,b,L2,e2,h3,h4⟩:=step k u acc δ L hu hP
   cases b with
   | true=>
    obtain ⟨r,L3,e3,hl,hP2⟩:=h3 rfl
    obtain ⟨ys,δ',L',e4,hP3⟩:=R6 P hat step m (k+1) (acc++[r]) δ1 L3 (by omega) (by omega) hP2
    refine ⟨ys,δ',L',?_,hP3⟩
    have hz:decide (acc.length < sizeLine)=true:=decide_eq_true (by unfold sizeLine;omega)
    simp only[e1,aA,e2,e3,if_true,hz,e4]
   | false=>
    obtain ⟨ys,δ',L',e4,hP3⟩:=R6 P hat step m (k+1) acc δ1 L2 (by omega) (by omega) (h4 rfl)
    refine ⟨ys,δ',L',?_,hP3⟩
    simp only[e1,aA,e2,e4,bK,if_false]
theorem Aaj{ix:List (Option Nat)}(P:Nat->List U->UE->UH->Prop)(hi:fi δ L=some (it,L0))(hsz:us.length<=it.size L0)(h0:P 0 [] (Gg ix δ) L0)
  (hat:∀ k acc δ L,k<=us.length->P k acc δ L->it.at k L=some us[k]?)
  (step:∀ k u acc δ L,us[k]? = some u->P k acc δ L->∃ δ1 L1,g u δ L=some (δ1,L1)/\∃ b L2,Iw tt δ1 L1=some (b,L2)/\(b=true->∃ r L3,fe δ1 L2=some (r,L3)/\acc.length < 16777216/\P (k+1) (acc++[r]) δ1 L3)/\(b=false->P (k+1) acc δ1 L2)) :
  ∃ ys δ' L',Bk ix fi g tt fe δ L=some (.ref L'.length,L'++[.lst ys])/\P us.length ys δ' L':=by
 obtain ⟨ys,δ',L',e,h⟩:=R6 P hat step (it.size L0+1) 0 [] (Gg ix δ) L0 (by omega) (by omega) h0
 refine ⟨ys,δ',L',?_,h⟩
 unfold Bk
 simp only[hi,aA,e,aC]
theorem Hj{k:Nat}(h:Ao L n=some us):(IU.ref n).at k L=some us[k]?:=by
 unfold Ao at h
 unfold IU.at
 simp only
 split at h
 ·rename_i e;cases h;first | rw[e] | rfl
 ·rename_i e;cases h;first | rw[e] | rfl
 ·cases h
theorem Dy(h:Ao L n=some us):(IU.ref n).size L=us.length:=by
 unfold Ao at h
 unfold IU.size
 simp only
 split at h
 ·rename_i e;cases h;first | rw[e] | rfl
 ·rename_i e;cases h;first | rw[e] | rfl
 ·cases h
noncomputable def An5(us ws:List U):List U:=(us.zip ws).map fun p=>.tup [p.1,p.2]
variable {m:Nat}{ws:List U}
theorem size_zip(h:Ao L n=some us)(h2:Ao L m=some ws):(IU.zip2 n m).size L=(An5 us ws).length:=by
 show (match Ao L n,Ao L m with | some us,some ws=>min us.length ws.length | _,_=>0)=_
 rw[h,h2];simp[An5]
theorem Bp{β:Type}{ix:List (Option Nat)}(as:List β)(rep:β->U)(f:β->Bool)(e:β->U)(E:UE->Prop)(hi:fi δ L=some (it,L0))(hsz:as.length<=it.size L0)(hl:as.length < 16777216)(h0:E (Gg ix δ))
  (hat:∀ k x,it.at k (L0++x)=some (as.map rep)[k]?)
  (step:∀ (a:β) δ x,a∈as->E δ->∃ δ1,g (rep a) δ (L0++x)=some (δ1,L0++x)/\E δ1/\∃ y,Iw tt δ1 (L0++x)=some (f a,L0++x++y)/\(f a=true->∃ z,fe δ1 (L0++x++y)=some (e a,L0++x++y++z))) :
  ∃ x,Bk ix fi g tt fe δ L=some (.ref (L0++x).length,L0++x++[.lst ((as.filter f).map e)]):=by
 obtain ⟨ys,δ',L',e1,⟨h1,h2,x,rfl⟩,h3⟩:=Aaj (us:=as.map rep) (ix:=ix) (tt:=tt) (g:=g) (fe:=fe) (δ:=δ) (fun k acc δ L=>(acc=((as.take k).filter f).map e/\E δ/\∃ x,L=L0++x)/\acc.length<=k) hi (by simpa using hsz) ⟨⟨rfl,h0,[],by simp⟩,by simp⟩
  (fun k acc δ L _ zz=>by obtain ⟨⟨_,_,x,hx⟩,_⟩:=zz;rw[hx];exact hat k x)
  (fun k u acc δ L hu zz=>by
   obtain ⟨⟨ha,hE,x,hx⟩,hlen⟩:=zz
   subst hx
   rw[bO] at hu
   obtain ⟨a,hk,rfl⟩:=aH.mp hu
   have hk':=(aF.mp hk).1
   obtain ⟨δ1,g1,E1,y,t1,r1⟩:=step a δ x (bV hk) hE
   have ht:as.take (k+1)=as.take k++[a]:=by
    rw[iW,hk];rfl
   refine ⟨δ1,_,g1,f a,_,t1,fun hf=>?_,fun hf=>?_⟩
   ·obtain ⟨z,q⟩:=r1 hf
    refine ⟨_,_,q,by omega,⟨?_,E1,x++y++z,by simp⟩,by simp;omega⟩
    rw[ha,ht];simp[hf]
   ·refine ⟨⟨?_,E1,x++y,by simp⟩,by omega⟩
    rw[ha,ht];simp[hf])
 refine ⟨x,?_⟩
 rw[e1,h1]
 simp
theorem Br{x:UH}(h:Ao L n=some us):Ao (L++x) n=some us:=by
 unfold Ao at h ⊢
 cases hn:L[n]? with
 | none=>rw[hn] at h;cases h
 | some o=>rw[bI (aF.mp hn).1,hn];rw[hn] at h;exact h
noncomputable def Pl:Nat->U->Prop
 | _,.non=>True
 | _,.int _=>True
 | _,.str x=>nY x=true
 | n+1,.tup l=>∀ u∈l,Pl n u
 | _,_=>False
mutual
noncomputable def pd:U->sK
 | .non=>.none
 | .bl b=>.bool b
 | .int i=>.int i
 | .str x=>.str x
 | .tup l=>.tuple (pds l)
 | .ref _=>.none
noncomputable def pds:List U->List sK
 | []=>[]
 | u::r=>pd u::pds r
end
theorem G8{l:List U}:Pl (n+1) (.tup l)↔∀ u∈l,Pl n u:=by rw[Pl]
theorem P1(ih:∀ u,Pl n u->toP L m u=some (pd u)):∀ l:List U,(∀ u∈l,Pl n u)->mapO (toP L m) l=some (pds l)
 | [],_=>rfl
 | u::r,h=>by
  simp only[mapO,ih u (h u (aT ..)),P1 ih r (fun x hx=>h x (aK _ hx)),aA,aC,pds]
theorem Sh(L:UH):∀ (n m:Nat) (u:U),n < m->Pl n u->toP L m u=some (pd u)
 | n,0,u,h,_=>by omega
 | n,m+1,.non,_,_=>rfl
 | n,m+1,.int _,_,_=>rfl
 | n,m+1,.str _,_,_=>rfl
 | n,m+1,.bl _,_,h=>by cases n <;> exact absurd h (by simp[Pl])
 | n,m+1,.ref _,_,h=>by cases n <;> exact absurd h (by simp[Pl])
 | 0,m+1,.tup l,_,h=>absurd h (by simp[Pl])
 | n+1,m+1,.tup l,hm,h=>by
  have:=P1 (L:=L) (n:=n) (m:=m) (fun u hu=>Sh L n m u (by omega) hu) l (G8.mp h)
  show (mapO (toP L m) l).map sK.tuple=_
  rw[this]
  rfl
theorem P6(ih:∀ u,Pl n u->gP (pd u)=true/\iL (pd u)<=n):∀ l:List U,(∀ u∈l,Pl n u)->qM (pds l)=true/\rW (pds l)<=n
 | [],_=>⟨rfl,gE _⟩
 | u::r,h=>by
  obtain ⟨a1,a2⟩:=ih u (h u (aT ..))
  obtain ⟨b1,b2⟩:=P6 ih r (fun x hx=>h x (aK _ hx))
  refine ⟨by simp[pds,qM,a1,b1],?_⟩
  simp only[pds,rW]
  omega
theorem Qw:∀ (n:Nat) (u:U),Pl n u->gP (pd u)=true/\iL (pd u)<=n
 | n,.non,_=>by simp[pd,gP,iL]
 | n,.int _,_=>by simp[pd,gP,iL]
 | n,.str x,h=>by
  have h':nY x=true:=by cases n <;> simpa[Pl] using h
  simp[pd,gP,iL,h']
 | n,.bl _,h=>by cases n <;> exact absurd h (by simp[Pl])
 | n,.ref _,h=>by cases n <;> exact absurd h (by simp[Pl])
 | 0,.tup l,h=>absurd h (by simp[Pl])
 | n+1,.tup l,h=>by
  obtain ⟨a,b⟩:=P6 (fun u hu=>Qw n u hu) l (G8.mp h)
  simp only[pd,gP,iL]
  exact ⟨a,by omega⟩
theorem M7(ih:∀ u w,Pl n u->Pl n w->(eA (pd u) (pd w)=true↔u=w)):∀ l m:List U,(∀ u∈l,Pl n u)->(∀ u∈m,Pl n u)->(jG (pds l) (pds m)=true↔l=m)
 | [],[],_,_=>by simp[pds,jG]
 | [],_::_,_,_=>by simp[pds,jG]
 | _::_,[],_,_=>by simp[pds,jG]
 | u::l,w::m,h1,h2=>by
  simp only[pds,jG,cG,ih u w (h1 u (aT ..)) (h2 w (aT ..)),M7 ih l m (fun x hx=>h1 x (aK _ hx)) (fun x hx=>h2 x (aK _ hx)),oH]
theorem Vl:∀ (n:Nat) (u w:U),Pl n u->Pl n w->(eA (pd u) (pd w)=true↔u=w)
 | n,.bl _,_,h,_=>by cases n <;> exact absurd h (by simp[Pl])
 | n,.ref _,_,h,_=>by cases n <;> exact absurd h (by simp[Pl])
 | n,_,.bl _,_,h=>by cases n <;> exact absurd h (by simp[Pl])
 | n,_,.ref _,_,h=>by cases n <;> exact absurd h (by simp[Pl])
 | 0,.tup _,_,h,_=>absurd h (by simp[Pl])
 | 0,_,.tup _,_,h=>absurd h (by simp[Pl])
 | n+1,.tup l,.tup m,h1,h2=>by
  simp only[pd,eA,U.tup.injEq]
  exact M7 (fun u w=>Vl n u w) l m (G8.mp h1) (G8.mp h2)
 | n,.non,.non,_,_=>by simp[pd,eA]
 | n,.non,.int _,_,_=>by simp[pd,eA]
 | n,.non,.str _,_,_=>by simp[pd,eA]
 | n+1,.non,.tup _,_,_=>by simp[pd,eA]
 | n,.int _,.non,_,_=>by simp[pd,eA]
 | n,.int _,.int _,_,_=>by simp[pd,eA]
 | n,.int _,.str _,_,_=>by simp[pd,eA]
 | n+1,.int _,.tup _,_,_=>by simp[pd,eA]
 | n,.str _,.non,_,_=>by simp[pd,eA]
 | n,.str _,.int _,_,_=>by simp[pd,eA]
 | n,.str _,.str _,_,_=>by simp[pd,eA]
 | n+1,.str _,.tup _,_,_=>by simp[pd,eA]
 | n+1,.tup _,.non,_,_=>by simp[pd,eA]
 | n+1,.tup _,.int _,_,_=>by simp[pd,eA]
 | n+1,.tup _,.str _,_,_=>by simp[pd,eA]
noncomputable def eqB(u w:U):Bool:=eA (pd u) (pd w)
variable {w:U}
theorem Abw(h1:Pl 6 u)(h2:Pl 6 w):eqB u w=true↔u=w:=Vl 6 u w h1 h2
theorem Se(h1:Pl 6 u):eqB u u=true:=(Abw h1 h1).mpr rfl
theorem Agw(L:UH)(h1:Pl 6 u)(h2:Pl 6 w):eqP u w L=some (eqB u w):=by
 obtain ⟨a1,a2⟩:=Qw 6 u h1
 obtain ⟨b1,b2⟩:=Qw 6 w h2
 have s1:fY (pd u)=true:=by unfold fY;rw[a1];simp;omega
 have s2:fY (pd w)=true:=by unfold fY;rw[b1];simp;omega
 unfold eqP
 simp only[Sh L 6 8 u (by decide) h1,Sh L 6 8 w (by decide) h2,aA,s1,s2,and_self,if_true,eqB]
theorem Afi(L:UH)(h1:Pl 6 u)(h2:Pl 6 w):B2 u w L=some (.bl (eqB u w),L):=by unfold B2;rw[Agw L h1 h2];rfl
theorem V3(L:UH)(h1:Pl 6 u)(h2:Pl 6 w):Dl u w L=some (.bl (!eqB u w),L):=by unfold Dl;rw[Agw L h1 h2];rfl
noncomputable def Tc(us ws:List U):Bool:=jG (pds us) (pds ws)
theorem Afl(h1:∀ u∈us,Pl 6 u)(h2:∀ u∈ws,Pl 6 u):Tc us ws=true↔us=ws:=M7 (fun u w=>Vl 6 u w) us ws h1 h2
theorem Aa8(e1:Ao L n=some us)(e2:Ao L m=some ws)(h1:∀ u∈us,Pl 6 u)(h2:∀ u∈ws,Pl 6 u):eqP (.ref n) (.ref m) L=some (Tc us ws):=by
 obtain ⟨a1,a2⟩:=P6 (Qw 6) us h1
 obtain ⟨b1,b2⟩:=P6 (Qw 6) ws h2
 have s1:fY (.list (pds us))=true:=by unfold fY;simp[gP,iL,a1];omega
 have s2:fY (.list (pds ws))=true:=by unfold fY;simp[gP,iL,b1];omega
 have t1:toP L 8 (.ref n)=some (.list (pds us)):=by
  show (Ao L n).bind (fun l=>(mapO (toP L 7) l).map tI)=_
  rw[e1]
  simp only[aA,P1 (fun u hu=>Sh L 6 7 u (by decide) hu) us h1,aC]
 have t2:toP L 8 (.ref m)=some (.list (pds ws)):=by
  show (Ao L m).bind (fun l=>(mapO (toP L 7) l).map tI)=_
  rw[e2]
  simp only[aA,P1 (fun u hu=>Sh L 6 7 u (by decide) hu) ws h2,aC]
 unfold eqP
 simp only[t1,t2,aA,s1,s2,and_self,if_true,eA,Tc]
theorem Ue(e1:Ao L n=some us)(e2:Ao L m=some ws)(h1:∀ u∈us,Pl 6 u)(h2:∀ u∈ws,Pl 6 u):B2 (.ref n) (.ref m) L=some (.bl (Tc us ws),L):=by unfold B2;rw[Aa8 e1 e2 h1 h2];rfl
theorem Ot(e1:Ao L n=some us)(e2:Ao L m=some ws)(h1:∀ u∈us,Pl 6 u)(h2:∀ u∈ws,Pl 6 u):Dl (.ref n) (.ref m) L=some (.bl (!Tc us ws),L):=by unfold Dl;rw[Aa8 e1 e2 h1 h2];rfl
theorem Pl.int(n:Nat)(i:Int):Pl n (.int i):=by cases n <;> exact trivial
theorem Ajj{g:FA}{L':UH}(hg:g δ L=some ([.int j],L'))(h0:0<=j)(h1:j < 1000000):Dc g δ L=some (.seq (Bf 0 j.toNat),L'):=by
 rw[Af0,hg]
 simp only[aA]
 rw[if_pos ⟨by omega,by omega⟩]
theorem Ic{g:FA}{L':UH}(hg:g δ L=some ([.int n],L'))(h1:n < 1000000):Dc g δ L=some (.seq (Bf 0 n),L'):=by
 have:=Ajj hg (by omega) (by omega)
 rwa [eJ] at this
end MR
namespace Lw
open PySem L2 MR
structure Ex(d:Nat)(L L':UH):Prop where
 le:L.length<=L'.length
 at_:∀ i,i < L.length->i≠d->L'[i]? = L[i]?
theorem Ex.refl(d:Nat)(L:UH):Ex d L L:=⟨aS _,fun _ _ _=>rfl⟩
variable {d:Nat}{L:UH}
theorem Ex.trans{L1 L2:UH}(a:Ex d L L1)(b:Ex d L1 L2):Ex d L L2:=
 ⟨cL a.le b.le,fun i h1 h2=>by rw[b.at_ i (bD h1 a.le) h2,a.at_ i h1 h2]⟩
theorem Ex.new(d:Nat)(L:UH)(x:List HU):Ex d L (L++x):=⟨by simp,fun i h _=>by rw[bI h]⟩
theorem Ex.put(d:Nat)(L:UH)(o:HU):Ex d L (L.set d o):=⟨by simp,fun i _ h=>by rw[bL (eR h)]⟩
variable {L':UH}{n:Nat}
theorem Ex.set(h:Ex d L L')(hn:L.length<=n)(o:HU):Ex d L (L'.set n o):=
 ⟨by rw[gY];exact h.le,fun i h1 h2=>by rw[bL (by omega)];exact h.at_ i h1 h2⟩
variable {i:Nat}
theorem Ex.get{o:HU}(h:Ex d L L')(e:L[i]? = some o)(hi:i≠d):L'[i]? = some o:=by
 rw[h.at_ i (aF.mp e).1 hi];exact e
noncomputable def Gw(L L':UH):Prop:=∃ x,L'=L++x
theorem Gw.refl(L:UH):Gw L L:=⟨[],by simp⟩
variable {M:UH}
theorem Gw.trans{L1:UH}(a:Gw L L1)(b:Gw L1 M):Gw L M:=by obtain ⟨x,rfl⟩:=a;obtain ⟨y,rfl⟩:=b;exact ⟨x++y,by simp⟩
theorem Gw.new(L x:UH):Gw L (L++x):=⟨x,rfl⟩
theorem Gw.set(h:Gw L L')(hn:L.length<=n)(o:HU):Gw L (L'.set n o):=by
 obtain ⟨x,rfl⟩:=h
 exact ⟨x.set (n - L.length) o,by rw[List.set_append_right _ _ hn]⟩
theorem Gw.le(h:Gw L L'):L.length<=L'.length:=by obtain ⟨x,rfl⟩:=h;simp
theorem Gw.get(h:Gw L L'){o:HU}(e:L[n]? = some o):L'[n]? = some o:=by
 obtain ⟨x,rfl⟩:=h
 rw[bI (aF.mp e).1];exact e
theorem Gw.seq(h:Gw L L'){us:List U}(e:Ao L n=some us):Ao L' n=some us:=by
 obtain ⟨x,rfl⟩:=h;exact Br e
theorem Gw.ex(h:Gw L L')(d:Nat):Ex d L L':=by obtain ⟨x,rfl⟩:=h;exact Ex.new d L x
variable {l:List U}
theorem Jv(u:U)(h:L[n]? = some (.lst l))(hl:l.length < 16777216):Cy (.ref n) [u] L=some (.non,L.set n (.lst (l++[u]))):=by
 show (Fu L n).bind _=_
 rw[Cz h]
 simp only[aA]
 rw[if_pos (decide_eq_true (by unfold sizeLine;omega))]
theorem Iv(h:L[n]? = some (.lst l)):tyU "list" (.ref n) L=true:=by simp[tyU,h]
theorem Vo(h:L[n]? = some (.lst l)):Aq [.ref n] L=some (.int l.length,L):=by simp[Aq,lenU,Aj h]
variable {δ:UE}
theorem Ak{f g:FS}{δ':UE}(h:f δ L=some (.nx δ',L')):A9 f g δ L=g δ' L':=by rw[fSeq_eq,h];rfl
theorem Ex.seq(h:Ex d L L'){us:List U}(hn:n≠d)(e:Ao L n=some us):Ao L' n=some us:=by
 unfold Ao at e ⊢
 cases hq:L[n]? with
 | none=>rw[hq] at e;cases e
 | some o=>rw[h.get hq hn];rw[hq] at e;exact e
noncomputable def Kh:FS:=(Fm (By (f2 Rz (Az Jy (Ac (Ad 3) Af)) (f2 Hh (fC (.int 10)) (fC (.int 18))))) (Ba (f2 Aw (f2 Nu (Ad 1) (fC (.int 205))) (Az Jy (Ac (Ad 3) Af))) (gN 1)) (Ba (f2 Ed (f2 Aw (f2 Bi (Ad 2) (fC (.int 43))) (Ad 3)) (fC (.int 1999999871))) (gN 2)))
noncomputable def Xf:FS:=(A9 (Ba (fC (.int 0)) (gN 1)) (A9 (Ba (f2 Aw (f2 Bi (fC (.int 17)) (Az Aq (Ac (Ad 0) Af))) (fC (.int 11))) (gN 2)) (A9 (Jh (Bg (fSl Ho (Ad 0) Cg (Fd (fC (.int 63))))) (gN 3) Kh) (Dj (Cs (Ac (Ad 1) (Ac (Ad 2) (Ac (fC (.int 0)) Af))))))))
noncomputable def Np:FN:=fnU 4 1 Xf
noncomputable def Qo:FS:=(A9 (Ba (f2 Aw (f2 Am (Ad 0) (fC (.int 2))) (fC (.int 1))) (MR.gSub (Ad 0) (fC (.int 2)))) (A9 (Fm (By (f2 Aex (f2 Am (Ad 0) (fC (.int 0))) (fC (.int 0)))) (A9 (Ba (f2 Ed (f2 Am (Ad 0) (fC (.int 0))) (Ad 1)) (gN 2)) (A9 (Ba (f2 Ia (f2 Am (Ad 0) (fC (.int 0))) (Ad 1)) (MR.gSub (Ad 0) (fC (.int 0)))) (Dj (Ad 2)))) C1) (A9 (Ba (f2 Am (Ad 0) (fC (.int 2))) (gN 3)) (A9 (Ba (f2 Ed (f2 Aw (f2 Aw (f2 Am (Ad 0) (fC (.int 1))) (f2 Bi (f2 Bi (fC (.int 70003)) (Ad 3)) (Ad 3))) (f2 Bi (fC (.int 5003)) (Ad 3))) (fC (.int 2147483543))) (gN 4)) (A9 (Ba (f2 Ed (f2 Bi (Ad 4) (Ad 4)) (fC (.int 2147483497))) (gN 4)) (Dj (f2 Ed (f2 Ia (f2 Ed (f2 Aw (f2 Bi (Ad 4) (fC (.int 38333))) (f2 Bi (Ad 3) (fC (.int 67)))) (fC (.int 2147483477))) (fC (.int 13))) (Ad 1))))))))
noncomputable def Ax:FN:=fnU 5 2 Qo
noncomputable def Gj:FE:=(Ep "list" O1 (Ad 1) (Ac (Be 2 Ax (Ac (Ad 2) (Ac (Az Aq (Ac (Ad 1) Af)) Af))) Af))
noncomputable def Fv:FS:=(A9 (Ba (f2 Am (Ad 2) (f2 Ed (f2 Aw (Ad 4) (Ad 8)) (fC (.int 26)))) (gN 9)) (Jp (Ep "list" Cy (Ad 3) (Ac (f2 Am (Cs (Ac (f2 Aw (Ad 9) (f2 Bi (f2 Am (fC (.str "qjx")) (f2 Ia (Ad 8) (fC (.int 26)))) (f2 Aw (fC (.int 1)) (f2 Ed (Ad 8) (fC (.int 7)))))) (Ac (f2 Aw (f2 Aw (f2 Aw (fSl Gd (Ad 5) Cg (Fd (Ad 6))) (Ad 9)) (f2 Am (fC (.str "qjx")) (f2 Ia (Ad 8) (fC (.int 26))))) (fSl Gd (Ad 5) (Fd (Ad 6)) Cg)) Af))) (Ad 7)) Af))))
noncomputable def E5:FE:=(f2 Am (Ad 1) (Be 2 Ax (Ac (Ad 2) (Ac (fC (.int 26)) Af))))
noncomputable def T6:FS:=(A9 (Ba (fC (.str "abcdefghijklmnopqrstuvwxyz")) (gN 2)) (A9 (Ba (Cs (Ac (fC (.str "a")) (Ac (fC (.str "b")) (Ac (fC (.str "ab")) (Ac (fC (.str "ba")) (Ac (fC (.str "aba")) (Ac (fC (.str "put")) (Ac (fC (.str "take")) (Ac (fC (.str "move")) (Ac (fC (.str "stairs")) (Ac (fC (.str "longest")) (Ac (fC (.str "crowd")) (Ac (fC (.str "northeas")) Af))))))))))))) (gN 3)) (A9 (Ba (Be 2 Ax (Ac (Ad 0) (Ac (fC (.int 26)) Af))) (gN 4)) (A9 (Ba (Ep "str" Ke (fC (.str "")) (Ac (Bk [none,some 2,some 0] (Dc (Ac (fC (.int 6)) Af)) (gN 0) none E5) Af)) (gN 5)) (A9 (Ba (Be 2 Ax (Ac (Ad 0) (Ac (fC (.int 7)) Af))) (gN 6)) (A9 (Ba (Be 2 Ax (Ac (Ad 0) (Ac (fC (.int 2)) Af))) (gN 7)) (A9 (Ba (fSl Gd (Ad 3) (Fd (f2 Bi (fC (.int 12)) (Ad 7))) Cg) (gN 3)) (A9 (Jh (Dc (Ac (fC (.int 60)) Af)) (gN 8) Fv) (Dj (Bk [none,some 3,some 0] (Dc (Ac (Ad 1) Af)) (gN 0) none Gj))))))))))
noncomputable def Hu:FN:=fnU 10 2 T6
noncomputable def Kc:FS:=(A9 (Fm (By (f2 Js (Ad 1) (fC (.int 2)))) (Dj (f2 Mo (Be 2 Ax (Ac (Ad 0) (Ac (f2 Am (Cs (Ac (fC (.int 4)) (Ac (fC (.int 41)) Af))) (Ad 1)) Af))) (f2 Am (Cs (Ac (fC (.int 1)) (Ac (fC (.int 20)) Af))) (Ad 1)))) C1) (A9 (Ba (f2 Aw (f2 Bi (Be 2 Ax (Ac (Ad 0) (Ac (f2 Hh (fC (.int 10)) (fC (.int 5))) Af))) (f2 Hh (fC (.int 10)) (fC (.int 5)))) (Be 2 Ax (Ac (Ad 0) (Ac (f2 Hh (fC (.int 10)) (fC (.int 5))) Af)))) (gN 2)) (Dj (f2 Bi (Ad 2) (f2 Am (Cs (Ac (fC (.int 1)) (Ac (Qs (fC (.int 1))) Af))) (Be 2 Ax (Ac (Ad 0) (Ac (fC (.int 2)) Af))))))))
noncomputable def Dv:FN:=fnU 3 2 Kc
variable {b:Nat}
theorem Aj1{x:Int}(h:dH x<=b):x.natAbs < 2 ^ b:=by
 unfold dH at h
 split at h
 ·rename_i h0
  have:x=0:=by simpa using h0
  subst this
  exact rX b
 ·rename_i h0
  have hx:x.natAbs≠0:=by simp at h0;omega
  exact (rN hx).mp (by omega)
theorem Ajm{x:Int}(h:x.natAbs < 2 ^ b):dH x<=b:=by
 unfold dH
 split
 ·exact gE _
 ·rename_i h0
  have hx:x.natAbs≠0:=by simp at h0;omega
  exact (rN hx).mpr h
structure Gdk(L:UH)(d:Nat)(B:Int):Prop where
 ex:∃ (a b c:Int),L[d]? = some (.lst [.int a,.int b,.int c])/\0<=a/\0<=b/\b < 1000000000000/\0<=c/\c<=B
variable {B:Int}
theorem Gdk.lt(h:Gdk L d B):d < L.length:=by
 obtain ⟨a,b,c,h1,_⟩:=h.ex
 exact (aF.mp h1).1
theorem Gdk.mono{B':Int}(h:Gdk L d B)(hb:B<=B'):Gdk L d B':=by
 obtain ⟨a,b,c,h1,h2,h3,h4,h5,h6⟩:=h.ex
 exact ⟨a,b,c,h1,h2,h3,h4,h5,by omega⟩
theorem Gdk.new(h:Gdk L d B)(x:List HU):Gdk (L++x) d B:=by
 obtain ⟨a,b,c,h1,h2⟩:=h.ex
 exact ⟨a,b,c,by rw[bI (aF.mp h1).1];exact h1,h2⟩
theorem Gdk.set(h:Gdk L d B)(hn:n≠d)(o:HU):Gdk (L.set n o) d B:=by
 obtain ⟨a,b,c,h1,h2⟩:=h.ex
 exact ⟨a,b,c,by rw[bL hn];exact h1,h2⟩
theorem Gdk.gw(h:Gdk L d B)(g:Gw L L'):Gdk L' d B:=by obtain ⟨x,rfl⟩:=g;exact h.new x
theorem C7{many:Int}(D:Gdk L d B)(hB:B<=1000000000000)(h0:0 < many)(h1:many < 1000000000000000) :
  ∃ r L',Ax [.ref d,.int many] L=some (.int r,L')/\0<=r/\r < many/\Gdk L' d (B+1)/\Ex d L L':=by
 obtain ⟨a,b,c,hd,ha,hb0,hb1,hc0,hc1⟩:=D.ex
 have hdl:d < L.length:=(aF.mp hd).1
 have q1:=Aj hd
 have q2:=Cz hd
 have md:∀ x:Int,0<=x % many/\x % many < many:=fun x=>⟨iS _ (by omega),gQ _ h0⟩
 have i0:∀ (x0 x1 x2:U),L2.atI [x0,x1,x2] 0=some x0:=fun _ _ _=>rfl
 have i1:∀ (x0 x1 x2:U),L2.atI [x0,x1,x2] 1=some x1:=fun _ _ _=>rfl
 have i2:∀ (x0 x1 x2:U),L2.atI [x0,x1,x2] 2=some x2:=fun _ _ _=>rfl
 have j0:ixN 3 0=some 0:=rfl
 have j2:ixN 3 2=some 2:=rfl
 have set1:∀ us:List U,Ao (L.set d (.lst us)) d=some us/\Fu (L.set d (.lst us)) d=some us:=fun us=>by
  have:(L.set d (.lst us))[d]? = some (.lst us):=bM hdl
  exact ⟨Aj this,Cz this⟩
 have s1:=set1 [.int a,.int b,.int (c+1)]
 have keep:∀ x:Int,0<=x->Gdk (L.set d (.lst [.int x,.int b,.int (c+1)])) d (B+1)/\Ex d L (L.set d (.lst [.int x,.int b,.int (c+1)])):=fun x hx=>
  ⟨⟨x,b,c+1,bM hdl,hx,hb0,hb1,by omega,by omega⟩,Ex.put d L _⟩
 by_cases hap:0 < a
 ·refine ⟨a % many,L.set d (.lst [.int (a / many),.int b,.int (c+1)]),?_,(md a).1,(md a).2,(keep (a / many) (rY (by omega) (by omega))).1,(keep (a / many) (rY (by omega) (by omega))).2⟩
  simp[Ax,fnU,Qo,q1,q2,i0,i1,i2,j0,j2,s1,hap,h0,Qp h0 (by omega),bN]
 ·generalize hA:(b+70003 * (c+1) * (c+1)+5003 * (c+1)) % 2147483543=A
  have hA0:0<=A/\A < 2147483543:=by rw[<- hA];exact ⟨iS _ (by decide),gQ _ (by decide)⟩
  generalize hC:A * A % 2147483497=Cn
  have hC0:0<=Cn/\Cn < 2147483497:=by rw[<- hC];exact ⟨iS _ (by decide),gQ _ (by decide)⟩
  generalize hE:(Cn * 38333+(c+1) * 67) % 2147483477=En
  have m1:Im 70003 (c+1)=true:=Md (by decide) (by decide)
  have m2:∀ x:Int,Im x (c+1)=true:=fun x=>Ng (by omega) (by omega)
  have m3:Im A A=true:=Md (by omega) (by omega)
  have m4:∀ x:Int,Im x 38333=true:=fun x=>Ng (by decide) (by decide)
  have m5:∀ x:Int,Im x 67=true:=fun x=>Ng (by decide) (by decide)
  have d13:∀ x:Int,Tx x 13=true:=fun x=>Qp (by decide) (by decide)
  refine ⟨En / 13 % many,L.set d (.lst [.int a,.int b,.int (c+1)]),?_,(md _).1,(md _).2,(keep a ha).1,(keep a ha).2⟩
  simp[Ax,fnU,Qo,q1,q2,i0,i1,i2,j0,j2,s1,hap,h0,m1,m2,m3,m4,m5,d13,hA,hC,hE,bN]
variable {c:Nat}
theorem Xj{G X P:Nat}(hG:G < X)(hc:c < X)(hP:1<=P):G * P+c < 2 * (X * P):=by
 have e3:G * P<=X * P:=Nat.mul_le_mul_right _ (nK hG)
 have e4:X * 1<=X * P:=Nat.mul_le_mul_left _ hP
 rw[Nat.mul_one] at e4
 generalize X * P=Z at *
 generalize G * P=Y at *
 omega
variable {W K p:Nat}
theorem Y6{G:Nat}(hG:G < 2 ^ (W+K))(hc:c < 2 ^ W):G * 2 ^ p+c < 2 ^ (W+(K+(p+1))):=by
 have e2:2 ^ W<=2 ^ (W+K):=iY (by omega) (by omega)
 have e1:2 ^ (W+(K+(p+1)))=2 * (2 ^ (W+K) * 2 ^ p):=by
  have:W+(K+(p+1))=1+((W+K)+p):=by omega
  rw[this,Nat.pow_add 2 1,Nat.pow_add 2 (W+K) p,Nat.pow_one]
 rw[e1]
 exact Xj hG (bD hc e2) pW
variable {G cell:Int}
theorem Ad8(h0:0<=G):(G * 2 ^ p+(cell.natAbs:Int)).natAbs=G.natAbs * 2 ^ p+cell.natAbs:=by
 have hGn:G=(G.natAbs:Int):=by omega
 have:G * 2 ^ p+(cell.natAbs:Int)=((G.natAbs * 2 ^ p+cell.natAbs:Nat):Int):=by
  rw[Int.natCast_add,Int.natCast_mul,Int.natCast_pow,<- hGn];rfl
 rw[this,Int.natAbs_natCast]
theorem Yx(h0:0<=G)(hG:G.natAbs < 2 ^ (W+K))(hc:cell.natAbs < 2 ^ W):0<=G * 2 ^ p+(cell.natAbs:Int)/\(G * 2 ^ p+(cell.natAbs:Int)).natAbs < 2 ^ (W+(K+(p+1))):=by
 refine ⟨Int.add_nonneg (Int.mul_nonneg h0 (Int.pow_nonneg (by decide))) (by omega),?_⟩
 rw[Ad8 h0]
 exact Y6 hG hc
theorem Aif(G p:Int)(L:UH):Nu (.int G) (.int p) L=if V8 G p=true then some (.int (G * 2 ^ p.toNat),L) else none:=rfl
theorem Anx:(2:Int) ^ 27=134217728:=by decide +kernel
theorem Ank(hG:G.natAbs < 2 ^ b)(hb:b<=100000000)(L:UH):Nu (.int G) (.int 205) L=some (.int (G * 2 ^ 205),L):=by
 have:=Ajm hG
 have hsz:V8 G 205=true:=by
  unfold V8
  rw[cG]
  refine ⟨decide_eq_true (by omega),decide_eq_true ?_⟩
  rw[Anx]
  omega
 have h205:(205:Int).toNat=205:=rfl
 rw[Aif,if_pos hsz,h205]
theorem Akf(L:UH):Hh (.int 10) (.int 18) L=some (.int 1000000000000000000,L):=by
 have p:Um 10 18=true:=rfl
 simp[p]
theorem Yf(cell:Int)(L:UH):Jy [.int cell] L=some (.int (cell.natAbs:Int),L):=by
 show some (U.int (if cell < 0 then -cell else cell),L)=_
 have:(if cell < 0 then -cell else cell)=(cell.natAbs:Int):=by split <;> omega
 rw[this]
theorem Aka(i j:Int)(L:UH):Rz (.int i) (.int j) L=some (.bl (decide (j<=i)),L):=rfl
noncomputable def Wq(sh pw:S2)(ab:SC):FS:=(Fm (By (f2 Rz (Az ab (Ac (Ad 3) Af)) (f2 pw (fC (.int 10)) (fC (.int 18))))) (Ba (f2 Aw (f2 sh (Ad 1) (fC (.int 205))) (Az ab (Ac (Ad 3) Af))) (gN 1)) (Ba (f2 Ed (f2 Aw (f2 Bi (Ad 2) (fC (.int 43))) (Ad 3)) (fC (.int 1999999871))) (gN 2)))
theorem W8:Kh=Wq Nu Hh Jy:=rfl
theorem Ag2{sh pw:S2}{ab:SC}{G2 b ca E:Int}(x0:Option U)(hab:ab [.int cell] L=some (.int ca,L))(hp:pw (.int 10) (.int 18) L=some (.int E,L))(hsh:sh (.int G) (.int 205) L=some (.int G2,L))(h:E<=ca):Wq sh pw ab [x0,some (.int G),some (.int b),some (.int cell)] L=some (.nx [x0,some (.int (G2+ca)),some (.int b),some (.int cell)],L):=by
 have hge:Rz (.int ca) (.int E) L=some (.bl true,L):=by
  rw[Aka,decide_eq_true h]
 unfold Wq
 simp only[fIfS_eq,fTest_eq,f2_eq,fCall_eq,fCons_eq,fNil_eq,fC_eq,fVar_eq,aN,aI,aV,aC,aA,hab,hp,hge,if_true,fAsg_eq,hsh,semAdd_int,gN_eq,aZ,bA]
theorem Adq{sh pw:S2}{ab:SC}{b ca E:Int}(x0:Option U)(hab:ab [.int cell] L=some (.int ca,L))(hp:pw (.int 10) (.int 18) L=some (.int E,L))(h:¬ E<=ca):Wq sh pw ab [x0,some (.int G),some (.int b),some (.int cell)] L=some (.nx [x0,some (.int G),some (.int ((b * 43+cell) % 1999999871)),some (.int cell)],L):=by
 have m43:Bi (.int b) (.int 43) L=some (.int (b * 43),L):=by
  have:=Ng (i:=b) (j:=43) (by decide) (by decide)
  simp only[Bi,this,if_true]
 have hge:Rz (.int ca) (.int E) L=some (.bl false,L):=by
  rw[Aka,decide_eq_false h]
 have hmd:Ed (.int (b * 43+cell)) (.int 1999999871) L=some (.int ((b * 43+cell) % 1999999871),L):=by simp
 unfold Wq
 simp only[fIfS_eq,fTest_eq,f2_eq,fCall_eq,fCons_eq,fNil_eq,fC_eq,fVar_eq,aN,aI,aV,aC,aA,hab,hp,hge,bK,if_false,fAsg_eq,m43,semAdd_int,hmd,gN_eq,aZ,bA]
theorem Ac7{b:Int}(h0:0<=G)(hG:G.natAbs < 2 ^ (W+K))(hb0:0<=b)(hb1:b < 1000000000000)(hc:cell.natAbs < 2 ^ W)(hW:W<=1048576)(hk:K<=100000)(x0:Option U) :
  ∃ (G' b':Int),Kh [x0,some (.int G),some (.int b),some (.int cell)] L=some (.nx [x0,some (.int G'),some (.int b'),some (.int cell)],L)/\0<=G'/\G'.natAbs < 2 ^ (W+(K+(205+1)))/\0<=b'/\b' < 1000000000000:=by
 by_cases h:(1000000000000000000:Int)<=(cell.natAbs:Int)
 ·have hnx:=Yx (p:=205) h0 hG hc
  exact ⟨_,b,by rw[W8];exact Ag2 x0 (Yf cell L) (Akf L) (Ank hG (by omega) L) h,hnx.1,hnx.2,hb0,hb1⟩
 ·exact ⟨G,_,by rw[W8];exact Adq x0 (Yf cell L) (Akf L) h,h0,bD hG (iY (by decide) (by omega)),iS _ (by decide),Int.lt_trans (gQ _ (by decide)) (by decide)⟩
theorem Adh(ns:List Int)(L:UH)(n:Nat)(hn:L[n]? = some (.ro (ns.map U.int)))(hl:ns.length<=63)(hW:W<=1048576)(hb:∀ c∈ns,c.natAbs < 2 ^ W) :
  ∃ d L',Np [.ref n] L=some (.ref d,L')/\Gdk L' d 0/\Gw L L':=by
 have hs:Ao L n=some (ns.map U.int):=by unfold Ao;rw[hn]
 have hlen:Aq [.ref n] L=some (.int ns.length,L):=by simp[Aq,lenU,hs]
 have m17:Bi (.int 17) (.int (ns.length:Nat)) L=some (.int (17 * (ns.length:Int)),L):=by
  have:=Md (i:=17) (j:=(ns.length:Int)) (by decide) (by decide)
  simp only[Bi,this,if_true]
 have s1:(Ba (fC (.int 0)) (gN 1)) [some (.ref n),none,none,none] L=some (.nx [some (.ref n),some (.int 0),none,none],L):=rfl
 have s2:(Ba (f2 Aw (f2 Bi (fC (.int 17)) (Az Aq (Ac (Ad 0) Af))) (fC (.int 11))) (gN 2)) [some (.ref n),some (.int 0),none,none] L=some (.nx [some (.ref n),some (.int 0),some (.int (17 * (ns.length:Int)+11)),none],L):=by
  simp only[f2_eq,fCall_eq,fCons_eq,fNil_eq,fC_eq,fVar_eq,aN,aI,aV,aC,aA,hlen,m17,fAsg_eq,semAdd_int,gN_eq,aZ,bA]
 have hcut:Xy (ns.map U.int) none (some 63)=ns.map U.int:=by
  unfold Xy
  rw[HT.Afd]
  have h63:(63:Int)=((63:Nat):Int):=rfl
  rw[h63,HT.Aik,sM,sZ]
  exact fZ (by rw[aQ];omega)
 have hsl:Ho (.ref n) none (some 63) L=some (.ref L.length,L++[.lst (ns.map U.int)]):=by
  simp only[Ho,hs,aC,hcut]
 have hq:(L++[HU.lst (ns.map U.int)])[L.length]? = some (.lst (ns.map U.int)):=by simp
 have hi:(Bg (fSl Ho (Ad 0) Cg (Fd (fC (.int 63))))) [some (.ref n),some (.int 0),some (.int (17 * (ns.length:Int)+11)),none] L=some (.ref L.length,L++[.lst (ns.map U.int)]):=by
  simp only[Er,fSl_eq,fNoPart_eq,fPart_eq,fC_eq,fVar_eq,aI,aV,aC,aA,hsl,B0 (Aj hq)]
 obtain ⟨δ',L',e,P⟩:=Nq (us:=ns.map U.int) (body:=Kh) (g:=gN 3)
  (fun k δ' L'=>∃ (G b:Int) (y3:Option U),δ'=[some (.ref n),some (.int G),some (.int b),y3]/\L'=L++[HU.lst (ns.map U.int)]/\0<=G/\G.natAbs < 2 ^ (W+206 * k)/\0<=b/\b < 1000000000000)
  hi ⟨0,17 * (ns.length:Int)+11,none,rfl,rfl,by decide,rX _,by omega,by omega⟩
  (fun k δ M ⟨_,_,_,_,hM,_⟩=>by rw[hM];exact Aj hq)
  (fun k u δ M hu ⟨G,b,y3,hδ,hM,g0,g1,b0,b1⟩=>by
   subst hδ
   rw[bO] at hu
   obtain ⟨cell,hcell,rfl⟩:=aH.mp hu
   have hk:=(aF.mp hcell).1
   obtain ⟨G',b',e1,r1,r2,r3,r4⟩:=Ac7 (L:=M) g0 g1 b0 b1 (hb _ (bV hcell)) hW (by omega) (some (.ref n))
   have hk6:206 * (k+1)=206 * k+(205+1):=by omega
   rw[<- hk6] at r2
   exact ⟨[some (.ref n),some (.int G),some (.int b),some (.int cell)],M,rfl,_,M,.inl e1,G',b',_,rfl,hM,r1,r2,r3,r4⟩)
 obtain ⟨G,b,y3,hδ,hM,g0,g1,b0,b1⟩:=P
 rw[hδ] at e
 have sm3:∀ x y z:U,small [x,y,z].length=true:=fun _ _ _=>small_of (by show 3<=16777216;decide)
 refine ⟨L'.length,L'++[.lst [.int G,.int b,.int 0]],?_,⟨G,b,0,by simp,g0,b0,b1,by decide,by decide⟩,by rw[hM];exact (Gw.new _ _).trans (Gw.new _ _)⟩
 unfold Np fnU Xf
 simp only[aM,aY,if_true,aW,bW,bN,dC,dL]
 rw[Ak s1,Ak s2,Ak e,fRet_eq]
 simp only[fLst_eq,fCons_eq,fC_eq,fNil_eq,fVar_eq,aN,aI,aV,aA,aC]
 rw[if_pos (sm3 _ _ _)]
 rfl
theorem Tz{kind:Int}(D:Gdk L d B)(hB:B<=100000000000)(hw:kind=0\/kind=1\/kind=2) :
  ∃ r L',Dv [.ref d,.int kind] L=some (.int r,L')/\Gdk L' d (B+3)/\Ex d L L':=by
 have hdl:=D.lt
 rcases hw with rfl | rfl | rfl
 ·have q0:Ao (L++[HU.lst [.int 4,.int 41]]) L.length=some [.int 4,.int 41]:=Aj (by simp)
  have i0:L2.atI [U.int 4,.int 41] 0=some (.int 4):=rfl
  have i1:L2.atI [U.int 1,.int 20] 0=some (.int 1):=rfl
  obtain ⟨r,L1,e1,a1,b1,D1,x1⟩:=C7 (many:=4) (D.new [HU.lst [.int 4,.int 41]]) (by omega) (by decide) (by decide)
  have q1:Ao (L1++[HU.lst [.int 1,.int 20]]) L1.length=some [.int 1,.int 20]:=Aj (by simp)
  exact ⟨r - 1,L1++[HU.lst [.int 1,.int 20]],by simp[Dv,fnU,Kc,small_of,q0,i0,e1,q1,i1,bN],(D1.new _).mono (by omega),((Ex.new d L _).trans x1).trans (Ex.new d L1 _)⟩
 ·have q0:Ao (L++[HU.lst [.int 4,.int 41]]) L.length=some [.int 4,.int 41]:=Aj (by simp)
  have i0:L2.atI [U.int 4,.int 41] 1=some (.int 41):=rfl
  have i1:L2.atI [U.int 1,.int 20] 1=some (.int 20):=rfl
  obtain ⟨r,L1,e1,a1,b1,D1,x1⟩:=C7 (many:=41) (D.new [HU.lst [.int 4,.int 41]]) (by omega) (by decide) (by decide)
  have q1:Ao (L1++[HU.lst [.int 1,.int 20]]) L1.length=some [.int 1,.int 20]:=Aj (by simp)
  exact ⟨r - 20,L1++[HU.lst [.int 1,.int 20]],by simp[Dv,fnU,Kc,small_of,q0,i0,e1,q1,i1,bN],(D1.new _).mono (by omega),((Ex.new d L _).trans x1).trans (Ex.new d L1 _)⟩
 ·obtain ⟨r1,L1,e1,a1,b1,D1,x1⟩:=C7 (many:=100000) D (by omega) (by decide) (by decide)
  obtain ⟨r2,K2,e2,a2,b2,D2,x2⟩:=C7 (many:=100000) D1 (by omega) (by decide) (by decide)
  obtain ⟨r4,L4,e4,a4,b4,D4,x4⟩:=C7 (many:=2) (D2.new [HU.lst [.int 1,.int (-1)]]) (by omega) (by decide) (by decide)
  have q4:Ao L4 K2.length=some [.int 1,.int (-1)]:=Aj (x4.get (i:=K2.length) (by simp) (by have:=D2.lt;omega))
  have hs:∃ sg:Int,L2.atI [U.int 1,.int (-1)] r4=some (.int sg)/\(sg=1\/sg = -1):=by
   have:r4=0\/r4=1:=by omega
   rcases this with rfl | rfl
   ·exact ⟨1,rfl,.inl rfl⟩
   ·exact ⟨-1,rfl,.inr rfl⟩
  obtain ⟨sg,hs,hsg⟩:=hs
  have p5:Um 10 5=true:=rfl
  have m1:Im r1 100000=true:=Ng (by decide) (by decide)
  have m2:Im (r1 * 100000+r2) sg=true:=Md (by omega) (by omega)
  refine ⟨(r1 * 100000+r2) * sg,L4,?_,D4.mono (by omega),x1.trans (x2.trans ((Ex.new d K2 _).trans x4))⟩
  simp[Dv,fnU,Kc,p5,e1,m1,e2,small_of,e4,q4,hs,m2,bN]
theorem Al8{i:Int}(h:L[n]? = some (.lst l))(h0:0<=i)(h1:i < l.length)(hs:l.length < 1000000):O1 (.ref n) [.int i] L=some (l[i.toNat]'(by omega),L.set n (.lst (l.eraseIdx i.toNat))):=by
 have hk:seqIndex? i l.length=some i.toNat:=by unfold seqIndex?;simp;omega
 have hg:l[i.toNat]? = some (l[i.toNat]'(by omega)):=aL (by omega)
 simp only[O1,Cz h,aA,hk,hg,aC]
 rw[if_pos ⟨by omega,by omega⟩]
theorem S8{β γ:Type}(f:β->γ)(l:List β)(i:Nat):(l.map f).eraseIdx i=(l.eraseIdx i).map f:=by
 rw[kD,kD,jK,sS,sT]
theorem Sf{β:Type}:∀ (l:List β) (i:Nat) (h:i < l.length),(l[i]'h::l.eraseIdx i).Perm l
 | a::l,0,_=>by simp
 | a::l,i+1,h=>by
  have ih:=Sf l i (by simpa using h)
  simp only[List.getElem_cons_succ,nB]
  exact (List.Perm.swap _ _ _).trans (ih.cons a)
theorem Aea{β:Type}(rep:β->U){l:List β}(D:Gdk L d B)(hB:B<=1000000000)(hd:n≠d)(h:L[n]? = some (.lst (l.map rep)))(hl:0 < l.length)(hs:l.length < 1000)(x0:Option U) :
  ∃ (r:β) (L':UH) (l':List β),(Ep "list" O1 (Ad 1) (Ac (Be 2 Ax (Ac (Ad 2) (Ac (Az Aq (Ac (Ad 1) Af)) Af))) Af)) [x0,some (.ref n),some (.ref d)] L=some (rep r,L')/\Gdk L' d (B+1)/\L'[n]? = some (.lst (l'.map rep))/\l'.length+1=l.length/\(∀ L0,Ex d L0 L->L0.length<=n->Ex d L0 L')/\(r::l').Perm l:=by
 obtain ⟨i,L1,e1,i0,i1,D1,x1⟩:=C7 (many:=((l.map rep).length:Nat)) D (by omega) (by simp;omega) (by simp;omega)
 have h':L1[n]? = some (.lst (l.map rep)):=x1.get h hd
 have hi:i < l.length:=by simpa using i1
 have hp:=Al8 h' i0 i1 (by simp;omega)
 refine ⟨l[i.toNat]'(by omega),L1.set n (.lst ((l.map rep).eraseIdx i.toNat)),l.eraseIdx i.toNat,?_,D1.set hd _,?_,?_,fun L0 x0 hn=>(x0.trans x1).set hn _,Sf l i.toNat (by omega)⟩
 ·have ty:=Iv h
  have e1':=e1
  simp only[aQ] at e1'
  simp[ty,Vo h,e1',hp]
 ·rw[bM (by have:=(aF.mp h').1;exact this)]
  rw[S8]
 ·rw[List.length_eraseIdx,if_pos (by omega)];omega
noncomputable def Low(s:Str):Prop:=∀ c∈s.cps.toList,97<=c/\c<=122
theorem Low.ok{s:Str}(h:Low s):nY s=true:=by
 unfold nY
 rw[Array.all_eq_true]
 intro i hi
 have:=h (s.cps[i]) (by simp)
 exact decide_eq_true (by omega)
theorem Low.app{a b:Str}(ha:Low a)(hb:Low b):Low (a++b):=by
 intro c hc
 rw[Str.cps_append,lF,cR] at hc
 exact hc.elim (ha c) (hb c)
theorem Low.slice{x:Str}(h:Low x)(lo hi:Option Int):Low (gG x lo hi):=by
 unfold gG
 split
 ·exact h
 ·intro c hc
  simp only[gH] at hc
  obtain ⟨i,_,hi⟩:=hc
  exact h c (by rw[Array.mem_toList_iff];exact Array.mem_of_getElem? hi)
theorem Low.fold(g:Str)(hg:Low g):∀ (ys:List Str) (acc:Array Nat),(∀ y∈ys,Low y)->(∀ c∈acc.toList,97<=c/\c<=122)->∀ c∈(ys.foldl (fun acc p=>acc++g.cps++p.cps) acc).toList,97<=c/\c<=122
 | [],acc,_,h=>h
 | y::ys,acc,hy,h=>by
  rw[iP]
  refine Low.fold g hg ys _ (fun z hz=>hy z (aK _ hz)) ?_
  intro c hc
  rw[lF,lF,cR,cR] at hc
  rcases hc with (hc | hc) | hc
  ·exact h c hc
  ·exact hg c hc
  ·exact hy y (aT ..) c hc
noncomputable def abc:Str := "abcdefghijklmnopqrstuvwxyz"
theorem Abo:abc.cps.toList.length=26:=by decide +kernel
theorem Adk:small abc.length=true:=small_of (by show abc.cps.size<=16777216;have:=Abo;simp only[dA] at this;omega)
noncomputable def one(c:Nat):Str:=⟨#[c]⟩
theorem Low.one(h:97<=c/\c<=122):Low (Lw.one c):=by
 intro x hx
 have:x=c:=by simpa[Lw.one] using hx
 rw[this];exact h
theorem Low.mul(h:97<=c/\c<=122)(j:Int)(h0:1<=j)(h1:j<=7):Low (lK (Lw.one c) j):=by
 intro x hx
 have:j=1\/j=2\/j=3\/j=4\/j=5\/j=6\/j=7:=by omega
 have:x=c:=by rcases this with rfl | rfl | rfl | rfl | rfl | rfl | rfl <;> simp[Lw.one,lK,Str.length,Str.empty,bN] at hx <;> omega
 rw[this];exact h
theorem one_len(c:Nat):(one c).length=1:=rfl
theorem Ahn:Low abc:=by unfold Low;decide +kernel
theorem Afq{i:Int}(h0:0<=i)(h1:i < 26)(L:UH):∃ c,(97<=c/\c<=122)/\Am (.str abc) (.int i) L=some (.str (one c),L):=by
 have hl:=Abo
 have hi:i.toNat < abc.cps.toList.length:=by omega
 refine ⟨abc.cps.toList[i.toNat]'hi,Ahn _ (eO hi),?_⟩
 unfold Am
 simp only
 rw[if_pos Adk,Rr h0 (by omega),aL hi]
 rfl
noncomputable def qjx:Str := "qjx"
theorem Aaw:qjx.cps.toList.length=3:=by decide +kernel
theorem Acq:small qjx.length=true:=small_of (by show qjx.cps.size<=16777216;have:=Aaw;simp only[dA] at this;omega)
theorem Ai3:Low qjx:=by unfold Low;decide +kernel
theorem Ala{i:Int}(h0:0<=i)(h1:i < 3)(L:UH):∃ c,(97<=c/\c<=122)/\Am (.str qjx) (.int i) L=some (.str (one c),L):=by
 have hl:=Aaw
 have hi:i.toNat < qjx.cps.toList.length:=by omega
 refine ⟨qjx.cps.toList[i.toNat]'hi,Ai3 _ (eO hi),?_⟩
 unfold Am
 simp only
 rw[if_pos Acq,Rr h0 (by omega),aL hi]
 rfl
theorem P5(a b:Str)(h:a.length+b.length<=10000)(L:UH):Aw (.str a) (.str b) L=some (.str (a++b),L):=by
 unfold Aw
 simp only
 rw[if_pos (small_of (by omega))]
theorem cat_len(a b:Str):(a++b).length=a.length+b.length:=by
 show (a.cps++b.cps).size=a.cps.size+b.cps.size
 simp
theorem Xi(c:Nat)(j:Int)(h0:0<=j):((lK (one c) j).length:Int)=j:=by
 have:=PyProof.Rows.len_mul_k1 (x:=one c) (n:=j) (one_len c)
 rw[if_neg (by omega)] at this
 omega
theorem Aj7(c:Nat)(j:Int)(h0:0<=j)(h1:j<=100)(L:UH):Bi (.str (one c)) (.int j) L=some (.str (lK (one c) j),L):=by
 unfold Bi
 simp only
 rw[if_pos ⟨by rw[one_len];omega,by omega,by omega⟩]
theorem Aax(a:Str)(lo hi:Option Int)(h:a.length<=1000)(L:UH):Gd (.str a) lo hi L=some (.str (gG a lo hi),L):=by
 unfold Gd
 simp only
 rw[if_pos (small_of (by omega))]
noncomputable def Xt(A B:FE)(δi:FE):FS:=(Jp (Ep "list" Cy (Ad 3) (Ac (f2 Am (Cs (Ac A (Ac B Af))) δi) Af)))
variable {n2:Nat}{sp:List Str}{al:Int}
theorem Adv{A B:FE}{a b:Str}(hal:al=0\/al=1)(h3:Ad 3 δ M=some (.ref n2,M))(hat:M[n2]? = some (.lst (sp.map U.str)))(hs:sp.length<=1000)
  (hA:A δ M=some (.str a,M)) (hB:B δ M=some (.str b,M)) {al':FE} (h7:∀ M',al' δ M'=some (.int al,M')) (la:Low a) (lb:Low b) :
  ∃ (x:Str) (M':UH),Xt A B al' δ M=some (.nx δ,M')/\Low x/\M'[n2]? = some (.lst ((sp++[x]).map U.str))/\(∀ L d,Ex d L M->L.length<=n2->Ex d L M')/\(∀ (d:Nat) (B:Int),n2≠d->Gdk M d B->Gdk M' d B):=by
 have sm2:∀ x y:U,small [x,y].length=true:=fun _ _=>small_of (by show 2<=16777216;decide)
 have hl:(Cs (Ac A (Ac B Af))) δ M=some (.ref M.length,M++[.lst [.str a,.str b]]):=by
  simp only[fLst_eq,fCons_eq,hA,hB,fNil_eq,aA,aC]
  rw[if_pos (sm2 _ _)]
 have q:Ao (M++[HU.lst [.str a,.str b]]) M.length=some [.str a,.str b]:=Aj (by simp)
 have hx:∃ x,Low x/\L2.atI [U.str a,.str b] al=some (.str x):=by
  rcases hal with rfl | rfl
  ·exact ⟨a,la,rfl⟩
  ·exact ⟨b,lb,rfl⟩
 obtain ⟨x,lx,hx⟩:=hx
 have hat':(M++[HU.lst [.str a,.str b]])[n2]? = some (.lst (sp.map U.str)):=(Gw.new M _).get hat
 have ap:=Jv (.str x) hat' (by simp;omega)
 have hm:sp.map U.str++[.str x]=(sp++[x]).map U.str:=by simp
 rw[hm] at ap
 have ty:=Iv hat
 refine ⟨x,(M++[HU.lst [.str a,.str b]]).set n2 (.lst ((sp++[x]).map U.str)),?_,lx,bM (aF.mp hat').1,fun L d e hn=>(e.trans (Ex.new d M _)).set hn _,fun d B hn D=>(D.new _).set hn _⟩
 unfold Xt
 rw[Jk,fMeth_eq,h3,aA]
 simp only[ty,if_true]
 rw[fCons_eq,f2_eq,hl]
 simp only[aA,h7,semIx_ref,q,hx,aC,fNil_eq,ap]
theorem Xv{k:Nat}{begin place:Int}{near:Str}(hat:M[n2]? = some (.lst (sp.map U.str)))(hs:sp.length<=1000)(hk:k < 60)(hb0:0<=begin)(hb1:begin < 26)(hal:al=0\/al=1)(hn:near.length<=100)(hlow:Low near)(x0 x1 y9:Option U) :
  ∃ (x:Str) (z9:Option U) (M':UH),Fv [x0,x1,some (.str abc),some (.ref n2),some (.int begin),some (.str near),some (.int place),some (.int al),some (.int (k:Int)),y9] M=some (.nx [x0,x1,some (.str abc),some (.ref n2),some (.int begin),some (.str near),some (.int place),some (.int al),some (.int (k:Int)),z9],M')/\Low x/\M'[n2]? = some (.lst ((sp++[x]).map U.str))/\(∀ L d,Ex d L M->L.length<=n2->Ex d L M')/\(∀ (d:Nat) (B:Int),n2≠d->Gdk M d B->Gdk M' d B):=by
 obtain ⟨c,wc,hc⟩:=Afq (i:=(begin+(k:Int)) % 26) (iS _ (by decide)) (gQ _ (by decide)) M
 obtain ⟨q,wq,hq⟩:=Ala (i:=(k:Int) / 26) (by omega) (by omega) M
 have hmd:Ed (.int (begin+(k:Int))) (.int 26) M=some (.int ((begin+(k:Int)) % 26),M):=by simp
 have hmd7:Ed (.int (k:Int)) (.int 7) M=some (.int ((k:Int) % 7),M):=by simp
 have hdv:Ia (.int (k:Int)) (.int 26) M=some (.int ((k:Int) / 26),M):=by
  have:=Qp (i:=(k:Int)) (j:=26) (by decide) (by decide)
  simp[this]
 have s1:(Ba (f2 Am (Ad 2) (f2 Ed (f2 Aw (Ad 4) (Ad 8)) (fC (.int 26)))) (gN 9)) [x0,x1,some (.str abc),some (.ref n2),some (.int begin),some (.str near),some (.int place),some (.int al),some (.int (k:Int)),y9] M=some (.nx [x0,x1,some (.str abc),some (.ref n2),some (.int begin),some (.str near),some (.int place),some (.int al),some (.int (k:Int)),some (.str (one c))],M):=by
  generalize abc=ab at hc
  simp only[fAsg_eq,f2_eq,fC_eq,fVar_eq,aN,aI,aV,aC,aA,semAdd_int,hmd,hc,gN_eq,aZ,bA]
 have m0:0<=(k:Int) % 7/\(k:Int) % 7 < 7:=⟨iS _ (by decide),gQ _ (by decide)⟩
 have hml:=Aj7 q (1+(k:Int) % 7) (by omega) (by omega) M
 have hll:=Xi q (1+(k:Int) % 7) (by omega)
 have hA:(f2 Aw (Ad 9) (f2 Bi (f2 Am (fC (.str qjx)) (f2 Ia (Ad 8) (fC (.int 26)))) (f2 Aw (fC (.int 1)) (f2 Ed (Ad 8) (fC (.int 7)))))) [x0,x1,some (.str abc),some (.ref n2),some (.int begin),some (.str near),some (.int place),some (.int al),some (.int (k:Int)),some (.str (one c))] M=some (.str (one c++lK (one q) (1+(k:Int) % 7)),M):=by
  have hcat:=P5 (one c) (lK (one q) (1+(k:Int) % 7)) (by rw[one_len];omega) M
  generalize qjx=qj at hq
  generalize abc=ab
  simp only[f2_eq,fC_eq,fVar_eq,aN,aI,aV,aC,aA,hdv,hq,hmd7,semAdd_int,hml,hcat]
 have l1:=qL near none (some place)
 have l2:=qL near (some place) none
 have hB:(f2 Aw (f2 Aw (f2 Aw (fSl Gd (Ad 5) Cg (Fd (Ad 6))) (Ad 9)) (f2 Am (fC (.str qjx)) (f2 Ia (Ad 8) (fC (.int 26))))) (fSl Gd (Ad 5) (Fd (Ad 6)) Cg)) [x0,x1,some (.str abc),some (.ref n2),some (.int begin),some (.str near),some (.int place),some (.int al),some (.int (k:Int)),some (.str (one c))] M=some (.str (gG near none (some place)++one c++one q++gG near (some place) none),M):=by
  have c1:=P5 (gG near none (some place)) (one c) (by rw[one_len];omega) M
  have c2:=P5 (gG near none (some place)++one c) (one q) (by rw[cat_len,one_len,one_len];omega) M
  have c3:=P5 (gG near none (some place)++one c++one q) (gG near (some place) none) (by rw[cat_len,cat_len,one_len,one_len];omega) M
  have k1:=Aax near none (some place) (by omega) M
  have k2:=Aax near (some place) none (by omega) M
  generalize qjx=qj at hq
  generalize abc=ab
  simp only[f2_eq,fSl_eq,fNoPart_eq,fPart_eq,fC_eq,fVar_eq,aN,aI,aV,aC,aA,hdv,hq,k1,k2,c1,c2,c3]
 obtain ⟨x,M',e,lx,r1,r2,r3⟩:=Adv (al':=Ad 7) (δ:=[x0,x1,some (.str abc),some (.ref n2),some (.int begin),some (.str near),some (.int place),some (.int al),some (.int (k:Int)),some (.str (one c))]) hal rfl hat hs hA hB (fun _=>rfl) ((Low.one wc).app (Low.mul wq _ (by omega) (by omega))) ((((hlow.slice _ _).app (Low.one wc)).app (Low.one wq)).app (hlow.slice _ _))
 refine ⟨x,some (.str (one c)),M',?_,lx,r1,r2,r3⟩
 have hb:Fv=A9 (Ba (f2 Am (Ad 2) (f2 Ed (f2 Aw (Ad 4) (Ad 8)) (fC (.int 26)))) (gN 9)) (Xt (f2 Aw (Ad 9) (f2 Bi (f2 Am (fC (.str qjx)) (f2 Ia (Ad 8) (fC (.int 26)))) (f2 Aw (fC (.int 1)) (f2 Ed (Ad 8) (fC (.int 7)))))) (f2 Aw (f2 Aw (f2 Aw (fSl Gd (Ad 5) Cg (Fd (Ad 6))) (Ad 9)) (f2 Am (fC (.str qjx)) (f2 Ia (Ad 8) (fC (.int 26))))) (fSl Gd (Ad 5) (Fd (Ad 6)) Cg)) (Ad 7)):=rfl
 rw[hb,Ak s1]
 exact e
theorem Ad3(D:Gdk L d B)(hB:B<=100000000)(x1 x3 x4 x5 x6 x7 x8 x9:Option U) :
  ∃ (r:Nat) (ys:List Str) (L':UH),Bk [none,some 2,some 0] (Dc (Ac (fC (.int 6)) Af)) (gN 0) none E5 [some (.ref d),x1,some (.str abc),x3,x4,x5,x6,x7,x8,x9] L=some (.ref r,L')/\L'[r]? = some (.lst (ys.map U.str))/\(∀ y∈ys,y.length=1/\Low y)/\ys.length=6/\Gdk L' d (B+6)/\Ex d L L':=by
 have hi:Dc (Ac (fC (.int 6)) Af) [some (.ref d),x1,some (.str abc),x3,x4,x5,x6,x7,x8,x9] L=some (.seq (Bf 0 6),L):=Ic (n:=6) rfl (by omega)
 obtain ⟨us,δ',M',e,⟨z,hδ⟩,ys,hys,hl1,hly,DM,xM⟩:=Aaj (ix:=[none,some 2,some 0]) (it:=.seq (Bf 0 6)) (g:=gN 0) (tt:=none) (fe:=E5) (us:=Bf 0 6) (δ:=[some (.ref d),x1,some (.str abc),x3,x4,x5,x6,x7,x8,x9]) (L:=L) (L0:=L)
   (fun k acc δ' M=>(∃ z,δ'=[z,some (.str abc),some (.ref d)])/\∃ (ys:List Str),acc=ys.map U.str/\(∀ y∈ys,y.length=1/\Low y)/\ys.length=k/\Gdk M d (B+k)/\Ex d L M)
   hi (by simp[IU.size]) ⟨⟨none,rfl⟩,[],rfl,by simp,rfl,by simpa using D,Ex.refl d L⟩
   (fun k acc δ L _ _=>rfl)
   (fun k u acc δ M hu ⟨⟨z,hδ⟩,ys,hys,hl1,hly,DM,xM⟩=>by
    subst hδ
    obtain ⟨hk,rfl⟩:=Ie hu
    obtain ⟨r,M',e1,r0,r1,D',x'⟩:=C7 (many:=26) DM (by omega) (by decide) (by decide)
    obtain ⟨c,wc,hc⟩:=Afq r0 r1 M'
    have ha:acc.length < 16777216:=by rw[hys,aQ,hly];omega
    refine ⟨[some (.int (0+k)),some (.str abc),some (.ref d)],M,rfl,true,M,rfl,fun _=>⟨.str (one c),M',?_,ha,⟨_,rfl⟩,ys++[one c],by simp[hys],?_,by simp[hly],?_,xM.trans x'⟩,fun h=>by cases h⟩
    ·unfold E5
     generalize abc=ab at hc
     simp only[f2_eq,fOwn_eq,fCons_eq,fNil_eq,fC_eq,fVar_eq,aN,aI,aV,aC,aA,aM,aY,if_true,e1,hc]
    ·intro y hy
     rcases cR.mp hy with h | h
     ·exact hl1 y h
     ·rw[cB.mp h];exact ⟨rfl,Low.one wc⟩
    ·have:B+((k+1:Nat):Int)=B+(k:Int)+1:=by omega
     rw[this];exact D')
 rw[Kd] at hly DM
 exact ⟨_,ys,_,e,by rw[hys];simp,hl1,hly,DM.new _,xM.trans (Ex.new d _ _)⟩
theorem Sy:∀ ys:List Str,(∀ y∈ys,y.length=1)->(ys.map (·.length)).sum=ys.length
 | [],_=>rfl
 | y::ys,h=>by
  rw[aW,jH,Sy ys (fun z hz=>h z (aK _ hz)),h y (aT ..),aM];omega
theorem W7:∀ ys:List Str,mapO toS (ys.map U.str)=some ys
 | []=>rfl
 | y::ys=>by simp only[aW,mapO,toS,W7 ys,aA,aC]
noncomputable def nul:Str := ""
theorem Air:Low nul:=by unfold Low;decide +kernel
theorem Ab8:nul.length=0:=by decide +kernel
theorem T8(g:Str)(hg:g.length=0):∀ (ys:List Str) (acc:Array Nat),(ys.foldl (fun acc p=>acc++g.cps++p.cps) acc).size=acc.size+(ys.map (·.length)).sum
 | [],acc=>by simp
 | y::ys,acc=>by
  have hg':g.cps.size=0:=hg
  have hy:y.length=y.cps.size:=rfl
  rw[iP,T8 g hg ys,aW,jH,qN,qN,hg',hy]
  omega
theorem Ajd{r:Nat}{ys:List Str}(h:L[r]? = some (.lst (ys.map U.str)))(h1:∀ y∈ys,y.length=1/\Low y)(h2:ys.length=6):∃ near:Str,Ke (.str nul) [.ref r] L=some (.str near,L)/\near.length<=100/\Low near:=by
 have hs:=Sy ys (fun y hy=>(h1 y hy).1)
 refine ⟨sL nul ys,?_,?_,?_⟩
 ·unfold Ke
  simp only[Cz h,aA,W7]
  rw[if_pos ⟨by rw[Ab8];omega,by rw[hs];omega⟩]
 ·cases ys with
  | nil=>simp at h2
  | cons y ys=>
   show (ys.foldl (fun acc p=>acc++nul.cps++p.cps) y.cps).size<=100
   have hy:y.cps.size=1:=(h1 y (aT ..)).1
   rw[T8 nul Ab8 ys y.cps,hy,Sy ys (fun z hz=>(h1 z (aK _ hz)).1)]
   simp only[aM] at h2
   omega
 ·cases ys with
  | nil=>simp at h2
  | cons y ys=>exact Low.fold nul Air ys y.cps (fun z hz=>(h1 z (aK _ hz)).2) (h1 y (aT ..)).2
noncomputable def E2:List Str:=["a","b","ab","ba","aba","put","take","move","stairs","longest","crowd","northeas"]
theorem Anh(a b c d e f g h i j k l:Str)(δ:UE)(L:UH):(Cs (Ac (fC (.str a)) (Ac (fC (.str b)) (Ac (fC (.str c)) (Ac (fC (.str d)) (Ac (fC (.str e)) (Ac (fC (.str f)) (Ac (fC (.str g)) (Ac (fC (.str h)) (Ac (fC (.str i)) (Ac (fC (.str j)) (Ac (fC (.str k)) (Ac (fC (.str l)) Af))))))))))))) δ L=some (.ref L.length,L++[.lst ([a,b,c,d,e,f,g,h,i,j,k,l].map U.str)]):=by
 have sm:∀ a b c d e f g h i j k l:U,small [a,b,c,d,e,f,g,h,i,j,k,l].length=true:=fun _ _ _ _ _ _ _ _ _ _ _ _=>small_of (by show 12<=16777216;decide)
 simp only[fLst_eq,fCons_eq,fC_eq,fNil_eq,aA,aC]
 rw[if_pos (sm _ _ _ _ _ _ _ _ _ _ _ _)]
 rfl
variable {v:U}
theorem Ds{fe:FE}(e:fe δ L=some (v,L')):(Ba fe (gN i)) δ L=some (.nx (δ.set i (some v)),L'):=by
 rw[fAsg_eq,e]
 simp only[aA,gN_eq,aC]
theorem Pc{f:FN}{c:Int}{u:U}(h:Ad i δ L=some (u,L))(e:f [u,.int c] L=some (v,L')):(Be 2 f (Ac (Ad i) (Ac (fC (.int c)) Af))) δ L=some (v,L'):=by
 rw[fOwn_eq,fCons_eq,h]
 simp only[aA,fCons_eq,fC_eq,fNil_eq,aC,aM,aY,if_true,e]
theorem S6{f:FN}{u:U}(h:Ad i δ L=some (u,L))(e:f [u] L=some (v,L')):(Be 1 f (Ac (Ad i) Af)) δ L=some (v,L'):=by
 rw[fOwn_eq,fCons_eq,h]
 simp only[aA,fNil_eq,aC,aM,aY,if_true,e]
noncomputable def Aoi(s:Str):Bool:=s.cps.toList.all fun c=>decide (97<=c)&&decide (c<=122)
theorem Ajz{s:Str}(h:Aoi s=true):Low s:=fun c hc=>by
 have:=bR.mp h c hc
 simpa using this
theorem Adi:∀ x∈E2,Low x:=fun x hx=>Ajz (bR.mp (show E2.all Aoi=true by decide +kernel) x hx)
theorem Aef{n1:Nat}(hal:al=0\/al=1)(h:M[n1]? = some (.lst (E2.map U.str))):∃ sp:List Str,Gd (.ref n1) (some (12 * al)) none M=some (.ref M.length,M++[.lst (sp.map U.str)])/\sp.length<=12/\∀ x∈sp,Low x:=by
 have hs:=Aj h
 refine ⟨(E2.drop (HT.sIx (E2.map U.str).length 0 (some (12 * al)))).take (HT.sIx (E2.map U.str).length (E2.map U.str).length none - HT.sIx (E2.map U.str).length 0 (some (12 * al))),?_,?_,fun x hx=>Adi x (List.mem_of_mem_drop (List.mem_of_mem_take hx))⟩
 ·show Ho (.ref n1) (some (12 * al)) none M=_
  simp only[Ho,hs,aC]
  unfold Xy
  rw[sS,sT]
 ·have:E2.length=12:=rfl
  rw[fK,nA];omega
theorem Aab{begin place:Int}{near:Str}(hat:M[n2]? = some (.lst (sp.map U.str)))(hs:sp.length<=12)(hb0:0<=begin)(hb1:begin < 26)(hal:al=0\/al=1)(hn:near.length<=100)(hlow:Low near)(hsl:∀ x∈sp,Low x)(x0 x1 y8 y9:Option U) :
  ∃ (sp':List Str) (z8 z9:Option U) (M':UH),(Jh (Dc (Ac (fC (.int 60)) Af)) (gN 8) Fv) [x0,x1,some (.str abc),some (.ref n2),some (.int begin),some (.str near),some (.int place),some (.int al),y8,y9] M=some (.nx [x0,x1,some (.str abc),some (.ref n2),some (.int begin),some (.str near),some (.int place),some (.int al),z8,z9],M')/\M'[n2]? = some (.lst (sp'.map U.str))/\60<=sp'.length/\sp'.length<=72/\(∀ x∈sp',Low x)/\(∀ L d,Ex d L M->L.length<=n2->Ex d L M')/\(∀ (d:Nat) (B:Int),n2≠d->Gdk M d B->Gdk M' d B):=by
 have hi:Dc (Ac (fC (.int 60)) Af) [x0,x1,some (.str abc),some (.ref n2),some (.int begin),some (.str near),some (.int place),some (.int al),y8,y9] M=some (.seq (Bf 0 60),M):=Ic (n:=60) rfl (by omega)
 obtain ⟨δ',M',e,P⟩:=P7 (us:=Bf 0 60) (body:=Fv) (g:=gN 8)
  (fun k δ' M'=>∃ (sp':List Str) (z8 z9:Option U),δ'=[x0,x1,some (.str abc),some (.ref n2),some (.int begin),some (.str near),some (.int place),some (.int al),z8,z9]/\M'[n2]? = some (.lst (sp'.map U.str))/\k<=sp'.length/\sp'.length<=12+k/\(∀ x∈sp',Low x)/\(∀ L d,Ex d L M->L.length<=n2->Ex d L M')/\(∀ (d:Nat) (B:Int),n2≠d->Gdk M d B->Gdk M' d B))
  hi ⟨sp,y8,y9,rfl,hat,by omega,by omega,hsl,fun _ _ e _=>e,fun _ _ _ D=>D⟩
  (fun k u δ N hu ⟨sp',z8,z9,hδ,hat',h1,h2,hw,h3,h4⟩=>by
   subst hδ
   obtain ⟨hk,rfl⟩:=Ie hu
   have h0:(0:Int)+(k:Int)=(k:Int):=by omega
   rw[h0]
   obtain ⟨x,w9,N',e1,lx,r1,r2,r3⟩:=Xv (place:=place) hat' (by omega) hk hb0 hb1 hal hn hlow x0 x1 z9
   exact ⟨[x0,x1,some (.str abc),some (.ref n2),some (.int begin),some (.str near),some (.int place),some (.int al),some (.int (k:Int)),z9],N,rfl,_,N',.inl e1,sp'++[x],_,_,rfl,r1,by simp;omega,by simp;omega,fun y hy=>by rcases cR.mp hy with h | h;exact hw y h;rw[cB.mp h];exact lx,fun L d e hL=>r2 L d (h3 L d e hL) hL,fun d B hd D=>r3 d B hd (h4 d B hd D)⟩)
 obtain ⟨sp',z8,z9,hδ,hat',h1,h2,hw,h3,h4⟩:=P
 rw[hδ] at e
 rw[Kd] at h1 h2
 exact ⟨sp',z8,z9,M',e,hat',h1,h2,hw,h3,h4⟩
theorem Ad9{many:Nat}(D:Gdk M d B)(hB:B<=100000000)(hnd:n2≠d)(hat:M[n2]? = some (.lst (sp.map U.str)))(hm:many<=sp.length)(hs:sp.length<=72)(x2 x4 x5 x6 x7 x8 x9:Option U) :
  ∃ (r:Nat) (names:List Str) (M':UH),Bk [none,some 3,some 0] (Dc (Ac (Ad 1) Af)) (gN 0) none Gj [some (.ref d),some (.int many),x2,some (.ref n2),x4,x5,x6,x7,x8,x9] M=some (.ref r,M')/\M'[r]? = some (.lst (names.map U.str))/\names.length=many/\(∃ rest,(names++rest).Perm sp)/\Gdk M' d (B+many)/\(∀ L,Ex d L M->L.length<=n2->Ex d L M'/\L.length<=r):=by
 have hi:Dc (Ac (Ad 1) Af) [some (.ref d),some (.int many),x2,some (.ref n2),x4,x5,x6,x7,x8,x9] M=some (.seq (Bf 0 many),M):=Ic rfl (by omega)
 obtain ⟨ys,δ',M',e,⟨z,hδ⟩,vs,rest,hvs,hlv,hlr,hp,hat,DM,xM⟩:=Aaj (ix:=[none,some 3,some 0]) (it:=.seq (Bf 0 many)) (g:=gN 0) (tt:=none) (fe:=Gj) (us:=Bf 0 many) (δ:=[some (.ref d),some (.int many),x2,some (.ref n2),x4,x5,x6,x7,x8,x9]) (L:=M) (L0:=M)
   (fun k acc δ' M'=>(∃ z,δ'=[z,some (.ref n2),some (.ref d)])/\∃ (vs rest:List Str),acc=vs.map U.str/\vs.length=k/\rest.length+k=sp.length/\(vs++rest).Perm sp/\M'[n2]? = some (.lst (rest.map U.str))/\Gdk M' d (B+k)/\(∀ L,Ex d L M->L.length<=n2->Ex d L M'))
   hi (by simp[IU.size]) ⟨⟨none,rfl⟩,[],sp,rfl,rfl,rfl,by simp,hat,by simpa using D,fun _ e _=>e⟩
   (fun k acc δ L _ _=>rfl)
   (fun k u acc δ N hu ⟨⟨z,hδ⟩,vs,rest,hvs,hlv,hlr,hp,hat,DM,xM⟩=>by
    subst hδ
    obtain ⟨hk,rfl⟩:=Ie hu
    obtain ⟨r,N',l',e,D',hat',hl',hx',hperm⟩:=Aea U.str DM (by omega) hnd hat (by omega) (by omega) (some (.int (0+(k:Int))))
    have ha:acc.length < 16777216:=by rw[hvs,aQ,hlv];omega
    refine ⟨[some (.int (0+k)),some (.ref n2),some (.ref d)],N,rfl,true,N,rfl,fun _=>⟨.str r,N',?_,ha,⟨_,rfl⟩,vs++[r],l',by simp[hvs],by simp[hlv],by omega,?_,hat',?_,fun L eL hL=>hx' L (xM L eL hL) hL⟩,fun h=>by cases h⟩
    ·unfold Gj;exact e
    ·refine List.Perm.trans ?_ hp
     rw[dE]
     exact List.Perm.append_left vs hperm
    ·have:B+((k+1:Nat):Int)=B+(k:Int)+1:=by omega
     rw[this];exact D')
 rw[Kd] at hlv DM
 exact ⟨_,vs,_,e,by rw[hvs];simp,hlv,⟨rest,hp⟩,DM.new _,fun L eL hL=>⟨(xM L eL hL).trans (Ex.new d _ _),(xM L eL hL).le⟩⟩
theorem Ag5{many:Nat}(D:Gdk L d B)(hB:B<=10000000)(hm:many<=60) :
  ∃ (n:Nat) (names:List Str) (L':UH),Hu [.ref d,.int many] L=some (.ref n,L')/\L'[n]? = some (.lst (names.map U.str))/\names.length=many/\(∀ x∈names,Low x)/\Gdk L' d (B+100)/\Ex d L L'/\L.length<=n:=by
 have s1:(Ba (fC (.str "abcdefghijklmnopqrstuvwxyz")) (gN 2)) [some (.ref d),some (.int many),none,none,none,none,none,none,none,none] L=some (.nx [some (.ref d),some (.int many),some (.str abc),none,none,none,none,none,none,none],L):=rfl
 have s2:=Ds (i:=3) (Anh "a" "b" "ab" "ba" "aba" "put" "take" "move" "stairs" "longest" "crowd" "northeas" [some (.ref d),some (.int many),some (.str abc),none,none,none,none,none,none,none] L)
 have hw:(["a","b","ab","ba","aba","put","take","move","stairs","longest","crowd","northeas"]:List Str)=E2:=rfl
 rw[hw] at s2
 simp only[aZ,bA] at s2
 have hdl:=D.lt
 have k1:(L++[HU.lst (E2.map U.str)])[L.length]? = some (.lst (E2.map U.str)):=by simp
 obtain ⟨begin,L3,e3,b0,b1,D3,x3⟩:=C7 (many:=26) (D.new [HU.lst (E2.map U.str)]) (by omega) (by decide) (by decide)
 have s3:=Ds (i:=4) (Pc (i:=0) (δ:=[some (.ref d),some (.int many),some (.str abc),some (.ref L.length),none,none,none,none,none,none]) rfl e3)
 simp only[aZ,bA] at s3
 have k3:=x3.get k1 (by omega)
 obtain ⟨r4,ys,L4,e4,h4,hy1,hy6,D4,x4⟩:=Ad3 D3 (by omega) (some (.int many)) (some (.ref L.length)) (some (.int begin)) none none none none none
 obtain ⟨near,hj,hnl,hlow⟩:=Ajd h4 hy1 hy6
 have s4:(Ba (Ep "str" Ke (fC (.str "")) (Ac (Bk [none,some 2,some 0] (Dc (Ac (fC (.int 6)) Af)) (gN 0) none E5) Af)) (gN 5)) [some (.ref d),some (.int many),some (.str abc),some (.ref L.length),some (.int begin),none,none,none,none,none] L3=some (.nx [some (.ref d),some (.int many),some (.str abc),some (.ref L.length),some (.int begin),some (.str near),none,none,none,none],L4):=by
  have ty:tyU "str" (.str nul) L3=true:=rfl
  have hn:(fC (.str ""):FE)=fC (.str nul):=rfl
  rw[hn]
  generalize nul=nl at hj ty
  rw[fAsg_eq,fMeth_eq]
  simp only[fC_eq,aA,ty,if_true]
  rw[fCons_eq,e4]
  simp only[aA,fNil_eq,aC,hj,gN_eq,aZ,bA]
 have k4:=x4.get k3 (by omega)
 obtain ⟨place,L5,e5,p0,p1,D5,x5⟩:=C7 (many:=7) D4 (by omega) (by decide) (by decide)
 have s5:=Ds (i:=6) (Pc (i:=0) (δ:=[some (.ref d),some (.int many),some (.str abc),some (.ref L.length),some (.int begin),some (.str near),none,none,none,none]) rfl e5)
 simp only[aZ,bA] at s5
 have k5:=x5.get k4 (by omega)
 obtain ⟨al,L6,e6,a0,a1,D6,x6⟩:=C7 (many:=2) D5 (by omega) (by decide) (by decide)
 have s6:=Ds (i:=7) (Pc (i:=0) (δ:=[some (.ref d),some (.int many),some (.str abc),some (.ref L.length),some (.int begin),some (.str near),some (.int place),none,none,none]) rfl e6)
 simp only[aZ,bA] at s6
 have k6:=x6.get k5 (by omega)
 have hal:al=0\/al=1:=by omega
 obtain ⟨sp,hsl,hsp,hspl⟩:=Aef hal k6
 have s7:(Ba (fSl Gd (Ad 3) (Fd (f2 Bi (fC (.int 12)) (Ad 7))) Cg) (gN 3)) [some (.ref d),some (.int many),some (.str abc),some (.ref L.length),some (.int begin),some (.str near),some (.int place),some (.int al),none,none] L6=some (.nx [some (.ref d),some (.int many),some (.str abc),some (.ref L6.length),some (.int begin),some (.str near),some (.int place),some (.int al),none,none],L6++[.lst (sp.map U.str)]):=by
  have hmu:Bi (.int 12) (.int al) L6=some (.int (12 * al),L6):=by
   have:=Md (i:=12) (j:=al) (by decide) (by decide)
   simp only[Bi,this,if_true]
  generalize abc=ab
  simp only[fAsg_eq,fSl_eq,fNoPart_eq,fPart_eq,f2_eq,fC_eq,fVar_eq,aN,aI,aV,aC,aA,hmu,hsl,gN_eq,aZ,bA]
 have k7:(L6++[HU.lst (sp.map U.str)])[L6.length]? = some (.lst (sp.map U.str)):=by simp
 have xL6:Ex d L L6:=(Ex.new d L _).trans (x3.trans (x4.trans (x5.trans x6)))
 have D7:=D6.new [HU.lst (sp.map U.str)]
 have hne:L6.length≠d:=by have:=D6.lt;omega
 obtain ⟨sp',z8,z9,L8,e8,k8,l0,l1,hw8,h8,h8D⟩:=Aab (place:=place) k7 hsp b0 b1 hal hnl hlow hspl (some (.ref d)) (some (.int many)) none none
 obtain ⟨r,names,L9,e9,k9,hln,⟨rest,hperm⟩,D9,h9⟩:=Ad9 (many:=many) (h8D d _ hne D7) (by omega) hne k8 (by omega) l1 (some (.str abc)) (some (.int begin)) (some (.str near)) (some (.int place)) (some (.int al)) z8 z9
 have x9:=h9 L (h8 L d (xL6.trans (Ex.new d L6 _)) xL6.le) xL6.le
 refine ⟨r,names,L9,?_,k9,hln,fun x hx=>hw8 x (hperm.mem_iff.mp (cO _ hx)),D9.mono (by omega),x9.1,x9.2⟩
 have hb:T6=A9 (Ba (fC (.str "abcdefghijklmnopqrstuvwxyz")) (gN 2)) (A9 (Ba (Cs (Ac (fC (.str "a")) (Ac (fC (.str "b")) (Ac (fC (.str "ab")) (Ac (fC (.str "ba")) (Ac (fC (.str "aba")) (Ac (fC (.str "put")) (Ac (fC (.str "take")) (Ac (fC (.str "move")) (Ac (fC (.str "stairs")) (Ac (fC (.str "longest")) (Ac (fC (.str "crowd")) (Ac (fC (.str "northeas")) Af))))))))))))) (gN 3)) (A9 (Ba (Be 2 Ax (Ac (Ad 0) (Ac (fC (.int 26)) Af))) (gN 4)) (A9 (Ba (Ep "str" Ke (fC (.str "")) (Ac (Bk [none,some 2,some 0] (Dc (Ac (fC (.int 6)) Af)) (gN 0) none E5) Af)) (gN 5)) (A9 (Ba (Be 2 Ax (Ac (Ad 0) (Ac (fC (.int 7)) Af))) (gN 6)) (A9 (Ba (Be 2 Ax (Ac (Ad 0) (Ac (fC (.int 2)) Af))) (gN 7)) (A9 (Ba (fSl Gd (Ad 3) (Fd (f2 Bi (fC (.int 12)) (Ad 7))) Cg) (gN 3)) (A9 (Jh (Dc (Ac (fC (.int 60)) Af)) (gN 8) Fv) (Dj (Bk [none,some 3,some 0] (Dc (Ac (Ad 1) Af)) (gN 0) none Gj))))))))):=rfl
 unfold Hu fnU
 simp only[aM,aY,if_true,aW,bW,bN,dC,dL]
 rw[hb,Ak s1,Ak s2,Ak s3,Ak s4,Ak s5,Ak s6,Ak s7,Ak e8,fRet_eq,e9]
 rfl
end Lw
namespace SO
open PySem PySem.W PyProof.Rows
noncomputable def On{α:Type}(n:Nat)(lt:Nat->Nat->Bool)(P:α->Prop):KasT α->Prop
 | .ret a=>P a
 | .ask i j k=>i < n/\j < n/\On n lt P (k (lt i j))
variable {n:Nat}{lt:Nat->Nat->Bool}
theorem On.bind{α β:Type}{P:α->Prop}{Q:β->Prop}{f:α->KasT β}(hf:∀ a,P a->On n lt Q (f a)):∀ {t:KasT α},On n lt P t->On n lt Q (t.bind f)
 | .ret a,h=>hf a h
 | .ask i j k,h=>⟨h.1,h.2.1,On.bind hf h.2.2⟩
theorem On.imp{α:Type}{P Q:α->Prop}(hf:∀ a,P a->Q a):∀ {t:KasT α},On n lt P t->On n lt Q t
 | .ret a,h=>hf a h
 | .ask i j k,h=>⟨h.1,h.2.1,On.imp hf h.2.2⟩
theorem On.wp{α:Type}{P:α->Prop}{cmp:Nat->Nat->(Bool->aR->Prop)->aR->Prop}{s:aR}{Q:α->aR->Prop}(hc:∀ i j C,i < n->j < n->C (lt i j) s->cmp i j C s)(hq:∀ a,P a->Q a s):∀ {t:KasT α},On n lt P t->t.kasWp cmp Q s
 | .ret a,h=>hq a h
 | .ask i j k,h=>hc i j _ h.1 h.2.1 (On.wp hc hq h.2.2)
structure Wo(lt:Nat->Nat->Bool):Prop where
 asym:∀ i j,lt i j=true->lt j i=false
 tr:∀ i j k,lt j i=false->lt k j=false->lt k i=false
variable {i j k m nrem:Nat}{p:Array Nat}
section
noncomputable def Le(lt:Nat->Nat->Bool)(i j:Nat):Prop:=lt j i=false
noncomputable def Eqv(lt:Nat->Nat->Bool)(i j:Nat):Prop:=Le lt i j/\Le lt j i
theorem Wo.refl(W:Wo lt)(i:Nat):Le lt i i:=by
 unfold Le
 cases h:lt i i with
 | false=>rfl
 | true=>have:=W.asym i i h;rw[h] at this;cases this
theorem Wo.le(W:Wo lt)(h:lt i j=true):Le lt i j:=W.asym i j h
theorem Wo.trans(W:Wo lt)(h1:Le lt i j)(h2:Le lt j k):Le lt i k:=W.tr i j k h1 h2
noncomputable def at0(p:Array Nat)(i:Nat):Nat:=p.getD i 0
theorem Ri{q:Array Nat}(h:p[i]? = q[j]?):at0 p i=at0 q j:=by
 unfold at0
 rw[eX,eX,h]
structure Pm(n:Nat)(p:Array Nat):Prop where
 size:p.size=n
 perm:p.toList.Perm (aO n)
theorem Pm.bd(h:Pm n p)(h0:0 < n)(i:Nat):at0 p i < n:=by
 unfold at0
 rw[eX]
 cases hi:p[i]? with
 | none=>exact h0
 | some x=>
  have:x∈p.toList:=by
   rw[<- iU] at hi
   exact bV hi
  exact bG.mp (h.perm.mem_iff.mp this)
noncomputable def Up(lt:Nat->Nat->Bool)(p:Array Nat)(k:Nat):Prop:=∀ i j,i<=j->j < k->Le lt (at0 p i) (at0 p j)
noncomputable def Dn(lt:Nat->Nat->Bool)(p:Array Nat)(k:Nat):Prop:=∀ i j,i<=j->j < k->Le lt (at0 p j) (at0 p i)
theorem Up.one(W:Wo lt)(p:Array Nat):Up lt p 1:=fun i j h1 h2=>by
 have:i=j:=by omega
 subst this;exact W.refl _
theorem Up.snoc(W:Wo lt)(h:Up lt p m)(hm:1<=m)(hl:Le lt (at0 p (m - 1)) (at0 p m)):Up lt p (m+1):=fun i j h1 h2=>by
 by_cases hj:j < m
 ·exact h i j h1 hj
 ·have hj:j=m:=by omega
  subst hj
  by_cases hi:i=j
  ·subst hi;exact W.refl _
  ·exact W.trans (h i (j - 1) (by omega) (by omega)) hl
theorem Dn.snoc(W:Wo lt)(h:Dn lt p m)(hm:1<=m)(hl:Le lt (at0 p m) (at0 p (m - 1))):Dn lt p (m+1):=fun i j h1 h2=>by
 by_cases hj:j < m
 ·exact h i j h1 hj
 ·have hj:j=m:=by omega
  subst hj
  by_cases hi:i=j
  ·subst hi;exact W.refl _
  ·exact W.trans hl (h i (j - 1) (by omega) (by omega))
theorem Lm(hj:j<=p.size)(k:Nat):at0 (nZ p i j) k=if i<=k/\k < j then at0 p (i+j - 1 - k) else at0 p k:=by
 have h:=getElem?_mirror_all (xs:=p) (i:=i) hj k
 unfold nZ
 split
 ·rename_i hc;rw[if_pos hc] at h;exact Ri h
 ·rename_i hc;rw[if_neg hc] at h;exact Ri h
theorem Pm.rev(h:Pm n p)(i j:Nat):Pm n (nZ p i j):=⟨by unfold nZ;rw[mirror_size];exact h.size,(mirror_perm p i j _).toList.trans h.perm⟩
theorem Pm.bub(h:Pm n p)(i j:Nat):Pm n (bubble p i j):=⟨by rw[bubble_size];exact h.size,(bubble_perm p i j).toList.trans h.perm⟩
theorem Aes{l:Nat}(hk:k < p.size)(hl:l<=k)(i:Nat):at0 (bubble p k (k - l)) i=if i=l then at0 p k else if l < i/\i<=k then at0 p (i - 1) else at0 p i:=by
 have h:=getElem?_bubble (xs:=p) hk (k - l) (by omega) i
 have e:k - (k - l)=l:=by omega
 rw[e] at h
 split
 ·rename_i hc;rw[if_pos hc] at h;exact Ri h
 ·rename_i hc
  rw[if_neg hc] at h
  split
  ·rename_i hd;rw[if_pos hd] at h;exact Ri h
  ·rename_i hd;rw[if_neg hd] at h;exact Ri h
theorem Yp(W:Wo lt)(h0:0 < n)(hp:Pm n p):∀ (f m:Nat),1<=m->m+f=nrem->Up lt p m->On n lt (fun m'=>m<=m'/\m'<=nrem/\Up lt p m'/\(m'=nrem\/lt (at0 p m') (at0 p (m' - 1))=true)) (kas_asc p f m)
 | 0,m,h1,hf,hu=>⟨aS _,by omega,hu,.inl (by omega)⟩
 | f+1,m,h1,hf,hu=>by
  refine ⟨hp.bd h0 _,hp.bd h0 _,?_⟩
  show On n lt _ (if lt (at0 p m) (at0 p (m - 1))=true then KasT.ret m else kas_asc p f (m+1))
  cases hl:lt (at0 p m) (at0 p (m - 1)) with
  | true=>exact ⟨aS _,by omega,hu,.inr hl⟩
  | false=>
   exact (Yp W h0 hp f (m+1) (by omega) (by omega) (hu.snoc W h1 hl)).imp fun m' ⟨a,b,c⟩=>⟨by omega,b,c⟩
noncomputable def Tl(lt:Nat->Nat->Bool)(p:Array Nat)(m q:Nat):Prop:=∀ i,m - (q+1)<=i->i < m->Eqv lt (at0 p i) (at0 p (m - 1))
theorem Tl.rev(W:Wo lt){q:Nat}(h:Tl lt p m q)(hq:q < m)(hm:m<=p.size)(k:Nat):Eqv lt (at0 (nZ p (m - (q+1)) m) k) (at0 p k):=by
 rw[Lm hm]
 split
 ·rename_i hc
  have a:=h (m - (q+1)+m - 1 - k) (by omega) (by omega)
  have b:=h k hc.1 hc.2
  exact ⟨W.trans a.1 b.2,W.trans b.1 a.2⟩
 ·exact ⟨W.refl _,W.refl _⟩
theorem Dn.eqv(W:Wo lt){p':Array Nat}(h:Dn lt p m)(he:∀ k,Eqv lt (at0 p' k) (at0 p k)):Dn lt p' m:=fun i j h1 h2=>W.trans (he j).1 (W.trans (h i j h1 h2) (he i).2)
theorem Qf(W:Wo lt)(h0:0 < n)(hz:nrem<=n):∀ (f:Nat) (p:Array Nat) (m q:Nat),Pm n p->1<=m->m+f=nrem->Dn lt p m->q < m->Tl lt p m q ->
  On n lt (fun r=>Pm n r.1/\1<=r.2.1/\r.2.1<=nrem/\Dn lt r.1 r.2.1/\r.2.2 < r.2.1/\Tl lt r.1 r.2.1 r.2.2) (kas_desc f p m q)
 | 0,p,m,q,hp,h1,hf,hd,hq,ht=>⟨hp,h1,(by show m<=nrem;omega),hd,hq,ht⟩
 | f+1,p,m,q,hp,h1,hf,hd,hq,ht=>by
  refine ⟨hp.bd h0 _,hp.bd h0 _,?_⟩
  show On n lt _ (if lt (at0 p m) (at0 p (m - 1))=true then _ else _)
  have tl0:∀ p':Array Nat,Tl lt p' (m+1) 0:=fun p' i i1 i2=>by
   have:i=m:=by omega
   subst this
   rw[jR];exact ⟨W.refl _,W.refl _⟩
  cases hl:lt (at0 p m) (at0 p (m - 1)) with
  | true=>
   have hms:m<=p.size:=by rw[hp.size];omega
   rw[if_pos rfl]
   by_cases hq0:q > 0
   ·rw[if_pos hq0]
    have he:=ht.rev W hq hms
    have hm':at0 (nZ p (m - (q+1)) m) m=at0 p m:=by rw[Lm hms,if_neg (by omega)]
    have hd':=(hd.eqv W he).snoc W h1 (by rw[hm'];exact W.trans (W.le hl) (he (m - 1)).2)
    exact Qf W h0 hz f _ (m+1) 0 (hp.rev _ _) (by omega) (by omega) hd' (by omega) (tl0 _)
   ·rw[if_neg hq0]
    exact Qf W h0 hz f p (m+1) 0 hp (by omega) (by omega) (hd.snoc W h1 (W.le hl)) (by omega) (tl0 _)
  | false=>
   rw[if_neg (by simp)]
   refine ⟨hp.bd h0 _,hp.bd h0 _,?_⟩
   show On n lt _ (if lt (at0 p (m - 1)) (at0 p m)=true then _ else _)
   cases hl2:lt (at0 p (m - 1)) (at0 p m) with
   | true=>rw[if_pos rfl];exact ⟨hp,h1,(by show m<=nrem;omega),hd,hq,ht⟩
   | false=>
    rw[if_neg (by simp)]
    refine Qf W h0 hz f p (m+1) (q+1) hp (by omega) (by omega) (hd.snoc W h1 hl2) (by omega) fun i i1 i2=>?_
    rw[jR]
    by_cases hi:i=m
    ·subst hi;exact ⟨W.refl _,W.refl _⟩
    ·have a:=ht i (by omega) (by omega)
     exact ⟨W.trans a.1 hl,W.trans hl2 a.2⟩
theorem Ab3(W:Wo lt)(h0:0 < n)(hz:nrem<=n)(hp:Pm n p)(h1:1<=m)(hm:m<=nrem)(hd:Dn lt p m):On n lt (fun r=>Pm n r.2/\1<=r.1/\r.1<=nrem/\Up lt r.2 r.1) (kas_tail3 m nrem p):=by
 have hms:m<=p.size:=by rw[hp.size];omega
 have hu:Up lt (nZ p 0 m) m:=fun i j i1 i2=>by
  rw[Lm hms,Lm hms,if_pos (by omega),if_pos (by omega)]
  exact hd _ _ (by omega) (by omega)
 unfold kas_tail3
 exact On.bind (fun a ⟨a1,a2,a3,_⟩=>⟨hp.rev _ _,by omega,a2,a3⟩) (Yp (nrem:=nrem) W h0 (hp.rev 0 m) (nrem - m) m h1 (by omega) hu)
theorem Pp(W:Wo lt)(h0:0 < n)(hz:nrem<=n)(hp:Pm n p)(hm:m+1<=nrem)(hd:Dn lt p (m+1)):On n lt (fun r=>Pm n r.2/\1<=r.1/\r.1<=nrem/\Up lt r.2 r.1) (kas_descPart m nrem p):=by
 unfold kas_descPart
 have tl0:Tl lt p (m+1) 0:=fun i i1 i2=>by
  have:i=m:=by omega
  subst this
  rw[jR];exact ⟨W.refl _,W.refl _⟩
 refine On.bind (fun r ⟨a1,a2,a3,a4,a5,a6⟩=>?_) (Qf W h0 hz (nrem - (m+1)) p (m+1) 0 hp (by omega) (by omega) hd (by omega) tl0)
 have hms:r.2.1<=r.1.size:=by rw[a1.size];omega
 split
 ·exact Ab3 W h0 hz (a1.rev _ _) a2 a3 (a4.eqv W (a6.rev W a5 hms))
 ·exact Ab3 W h0 hz a1 a2 a3 a4
theorem Ag8(W:Wo lt)(h0:0 < n)(hz:nrem<=n)(h1:1<=nrem)(hp:Pm n p):On n lt (fun r=>Pm n r.2/\1<=r.1/\r.1<=nrem/\Up lt r.2 r.1) (kas_count nrem p):=by
 unfold kas_count
 refine On.bind (fun m ⟨a1,a2,a3,a4⟩=>?_) (Yp (nrem:=nrem) W h0 hp (nrem - 1) 1 (aS _) (by omega) (Up.one W p))
 by_cases hm:(m == nrem)=true
 ·rw[if_pos hm];exact ⟨hp,by omega,a2,a3⟩
 ·rw[if_neg hm]
  have hne:m≠nrem:=by simpa using hm
  have hlt:lt (at0 p m) (at0 p (m - 1))=true:=a4.resolve_left hne
  by_cases hm1:m > 1
  ·rw[if_pos hm1]
   refine ⟨hp.bd h0 _,hp.bd h0 _,?_⟩
   show On n lt _ (if lt (at0 p 0) (at0 p (m - 1))=true then _ else _)
   cases hl:lt (at0 p 0) (at0 p (m - 1)) with
   | true=>rw[if_pos rfl];exact ⟨hp,by omega,a2,a3⟩
   | false=>
    rw[if_neg (by simp)]
    have hms:m<=p.size:=by rw[hp.size];omega
    have hall:∀ i j,i < m->j < m->Le lt (at0 p i) (at0 p j):=fun i j i1 j1=>W.trans (a3 i (m - 1) (by omega) (by omega)) (W.trans hl (a3 0 j (by omega) j1))
    refine Pp W h0 hz (hp.rev 0 m) (by omega) ?_
    have hd:Dn lt (nZ p 0 m) m:=fun i j i1 i2=>by
     rw[Lm hms,Lm hms,if_pos (by omega),if_pos (by omega)]
     exact hall _ _ (by omega) (by omega)
    refine hd.snoc W (by omega) ?_
    rw[Lm hms,Lm hms,if_neg (by omega),if_pos (by omega)]
    exact W.trans (W.le hlt) (hall _ _ (by omega) (by omega))
  ·rw[if_neg hm1]
   have:m=1:=by omega
   subst this
   refine Pp W h0 hz hp (by omega) ?_
   have hd:Dn lt p 1:=fun i j h1 h2=>by
    have:i=j:=by omega
    subst this;exact W.refl _
   exact hd.snoc W (aS _) (W.le hlt)
theorem R4(W:Wo lt)(h0:0 < n)(hp:Pm n p)(hu:Up lt p k):∀ (f l r:Nat),l<=r->r<=k->r - l<=f->(∀ i,i < l->Le lt (at0 p i) (at0 p k))->(∀ i,r<=i->i < k->Le lt (at0 p k) (at0 p i)) ->
  On n lt (fun l'=>l'<=k/\(∀ i,i < l'->Le lt (at0 p i) (at0 p k))/\∀ i,l'<=i->i < k->Le lt (at0 p k) (at0 p i)) (kas_place p k f l r)
 | 0,l,r,h1,h2,h3,h4,h5=>⟨by omega,h4,fun i i1 i2=>h5 i (by omega) i2⟩
 | f+1,l,r,h1,h2,h3,h4,h5=>by
  unfold kas_place
  by_cases hlr:l ≥ r
  ·rw[if_pos hlr];exact ⟨by omega,h4,fun i i1 i2=>h5 i (by omega) i2⟩
  ·rw[if_neg hlr]
   refine ⟨hp.bd h0 _,hp.bd h0 _,?_⟩
   show On n lt _ (if lt (at0 p k) (at0 p ((l+r) / 2))=true then _ else _)
   cases hl:lt (at0 p k) (at0 p ((l+r) / 2)) with
   | true=>
    rw[if_pos rfl]
    exact R4 W h0 hp hu f l ((l+r) / 2) (by omega) (by omega) (by omega) h4 fun i i1 i2=>W.trans (W.le hl) (hu _ _ i1 i2)
   | false=>
    rw[if_neg (by simp)]
    exact R4 W h0 hp hu f ((l+r) / 2+1) r (by omega) h2 (by omega) (fun i i1=>W.trans (hu i ((l+r) / 2) (by omega) (by omega)) hl) h5
theorem Agx(W:Wo lt)(h0:0 < n):∀ (f:Nat) (p:Array Nat) (k:Nat),Pm n p->Up lt p k->k+f=n->On n lt (fun p'=>Pm n p'/\Up lt p' n) (kas_bin f p k)
 | 0,p,k,hp,hu,hk=>⟨hp,(show k=n by omega) ▸ hu⟩
 | f+1,p,k,hp,hu,hk=>by
  unfold kas_bin
  refine On.bind (fun l ⟨a1,a2,a3⟩=>?_) (R4 W h0 hp hu k 0 k (by omega) (aS _) (by omega) (fun i h=>by omega) fun i h1 h2=>by omega)
  have hks:k < p.size:=by rw[hp.size];omega
  refine Agx W h0 f _ (k+1) (hp.bub _ _) (fun i j i1 i2=>?_) (by omega)
  rw[Aes hks a1,Aes hks a1]
  by_cases hi:i=l
  ·rw[if_pos hi]
   by_cases hj:j=l
   ·rw[if_pos hj];exact W.refl _
   ·rw[if_neg hj,if_pos (by omega)];exact a3 _ (by omega) (by omega)
  ·rw[if_neg hi]
   by_cases hi2:l < i/\i<=k
   ·rw[if_pos hi2,if_neg (by omega),if_pos (by omega)]
    exact hu _ _ (by omega) (by omega)
   ·rw[if_neg hi2]
    by_cases hj:j=l
    ·rw[if_pos hj];exact a2 _ (by omega)
    ·rw[if_neg hj]
     by_cases hj2:l < j/\j<=k
     ·rw[if_pos hj2];exact hu _ _ (by omega) (by omega)
     ·rw[if_neg hj2];exact hu _ _ i1 (by omega)
theorem Ux(W:Wo lt)(h0:0 < n):On n lt (fun p=>Pm n p/\Up lt p n) (mD n):=by
 unfold mD
 have hp:Pm n (iM (aO n)):=⟨by simp,by simp⟩
 refine On.bind (fun r ⟨a1,a2,a3,a4⟩=>?_) (Ag8 W h0 (aS n) h0 hp)
 by_cases hr:r.1 < n
 ·rw[if_pos hr]
  have hm:max r.1 1=r.1:=by omega
  rw[hm]
  exact Agx W h0 _ _ _ a1 a4 (by omega)
 ·rw[if_neg hr]
  have:r.1=n:=by omega
  exact ⟨a1,by rw[<- this];exact a4⟩
end
end SO
namespace SO
open PySem PySem.W PySem.Calls PyProof.Rows
section
variable {P:cX}{w:eG}{A:eE}{E:aG->aR->Prop}{s:aR}{vs:List aG}{lt:Nat->Nat->Bool}{κ:SortKind}
noncomputable def Kb(a:Addr)(h h':Heap):Prop:=∀ b o,b≠a->h.get? b=some o->h'.get? b=some o
theorem Kb.trans{a:Addr}{h h1 h2:Heap}(x:Kb a h h1)(y:Kb a h1 h2):Kb a h h2:=fun b o hb e=>y b o hb (x b o hb e)
noncomputable def N6(vs:List aG)(p:Array Nat):List aG:=p.toList.map fun i=>vs.getD i fH
theorem Yk(vs:List aG):N6 vs (iM (aO vs.length))=vs:=by
 unfold N6
 apply kJ
 ·simp
 ·intro i h1 h2
  simp[h2]
end
end SO
namespace MR
open PySem PySem.Spec PyProof.Rows PySem.Calls L2 SO
noncomputable def ltT:List Int->List Int->Bool
 | _,[]=>false
 | [],_::_=>true
 | a::x,b::y=>if a == b then ltT x y else decide (a < b)
theorem Lz:∀ x y:List Int,ltT x y=true->ltT y x=false
 | x,[],h=>by unfold ltT at h;cases h
 | [],b::y,_=>by simp[ltT]
 | a::x,b::y,h=>by
  unfold ltT at h ⊢
  by_cases e:a=b
  ·subst e
   simp only[beq_self_eq_true,if_true] at h ⊢
   exact Lz x y h
  ·have h1:(a == b)=false:=by simpa using e
   have h2:(b == a)=false:=by simpa using fun q=>e q.symm
   simp only[h1,h2,bK,if_false,decide_eq_true_eq] at h ⊢
   simp only[decide_eq_false_iff_not];omega
theorem Qi:∀ x y z:List Int,ltT y x=false->ltT z y=false->ltT z x=false
 | [],_,z,_,_=>by unfold ltT;rfl
 | a::x,[],z,h,_=>by simp[ltT] at h
 | a::x,b::y,[],_,h=>by simp[ltT] at h
 | a::x,b::y,c::z,h1,h2=>by
  unfold ltT at h1 h2 ⊢
  by_cases e1:b=a
  ·subst e1
   simp only[beq_self_eq_true,if_true] at h1
   by_cases e2:c=b
   ·subst e2
    simp only[beq_self_eq_true,if_true] at h2 ⊢
    exact Qi x y z h1 h2
   ·have q:(c == b)=false:=by simpa using e2
    simp only[q,bK,if_false] at h2 ⊢
    exact h2
  ·have q1:(b == a)=false:=by simpa using e1
   simp only[q1,bK,if_false,decide_eq_false_iff_not] at h1
   by_cases e2:c=b
   ·subst e2
    simp only[q1,bK,if_false,decide_eq_false_iff_not];exact h1
   ·have q2:(c == b)=false:=by simpa using e2
    simp only[q2,bK,if_false,decide_eq_false_iff_not] at h2
    have e3:c≠a:=by omega
    have q3:(c == a)=false:=by simpa using e3
    simp only[q3,bK,if_false,decide_eq_false_iff_not];omega
theorem V1:∀ x y:List Int,ltT x y=false->ltT y x=false->x=y
 | [],[],_,_=>rfl
 | a::x,[],_,h=>by simp[ltT] at h
 | [],b::y,h,_=>by simp[ltT] at h
 | a::x,b::y,h1,h2=>by
  unfold ltT at h1 h2
  by_cases e:a=b
  ·subst e
   simp only[beq_self_eq_true,if_true] at h1 h2
   rw[V1 x y h1 h2]
  ·have q1:(a == b)=false:=by simpa using e
   have q2:(b == a)=false:=by simpa using fun q=>e q.symm
   simp only[q1,q2,bK,if_false,decide_eq_false_iff_not] at h1 h2
   omega
inductive Tups(K:aJ)(H:Hp):List (List Int)->List V->Prop
 | nil:Tups K H [] []
 | cons {a:Addr} {n:Int} {t:List Int} {ts:List (List Int)} {ys:List V} (h:SqT K H a ((n::t).map V.int)) (r:Tups K H ts ys):Tups K H ((n::t)::ts) (.ref a::ys)
theorem Tups.len{K:aJ}{H:Hp}{ts:List (List Int)}{ys:List V}(r:Tups K H ts ys):ts.length=ys.length:=by
 induction r with
 | nil=>rfl
 | cons h r ih=>simp[ih]
theorem Tups.at_{K:aJ}{H:Hp}{ts:List (List Int)}{ys:List V}(r:Tups K H ts ys):∀ i,i < ts.length->∃ (a:Addr) (n:Int) (t:List Int),ts[i]? = some (n::t)/\ys[i]? = some (.ref a)/\SqT K H a ((n::t).map V.int):=by
 induction r with
 | nil=>intro i h;simp at h
 | @cons a n t ts ys h r ih=>
  intro i hi
  cases i with
  | zero=>exact ⟨a,n,t,rfl,rfl,h⟩
  | succ i=>simpa using ih i (by simpa using hi)
theorem Ace{ns:List Int}{us:List aG}(r:Vals (ns.map V.int) us):∀ (i:Nat) (v:aG),us[i]? = some v->∃ n t,ns[i]? = some n/\v = .int n t:=Abf r
theorem Aej{P:cX}{w:eG}{A:eE}{b fin:Bool}{s:aR}{Q:Bool->aR->Prop}:∀ (ns ms:List Int) (xs ys:List aG) (i:Nat),Vals (ns.map V.int) xs->Vals (ms.map V.int) ys->fin=decide (ns.length < ms.length)->Q (ltT ns ms) s->PySem.W.KatLex P w A b fin Q (xs.zip ys) i s
 | [],ms,xs,ys,i,rx,ry,hf,q=>by
  rw[bW] at rx;cases rx
  rw[qE]
  refine rZ ?_
  rw[hf]
  cases ms with
  | nil=>exact q
  | cons m ms=>simpa[ltT] using q
 | n::ns,[],xs,ys,i,rx,ry,hf,q=>by
  rw[bW] at ry;cases ry
  rw[pM]
  refine rZ ?_
  rw[hf]
  simpa[ltT] using q
 | n::ns,m::ms,xs,ys,i,rx,ry,hf,q=>by
  rw[aW] at rx ry
  cases rx with
  | cons r1 r2=>
   cases ry with
   | cons s1 s2=>
    obtain ⟨t,rfl⟩:=r1
    obtain ⟨u,rfl⟩:=s1
    rw[jO]
    refine PySem.W.kat_cons (PySem.wpAny_eqBool_int ?_)
    unfold ltT at q
    cases e:(n == m) with
    | true=>
     rw[e,if_pos rfl] at q
     exact PySem.W.kat_yes (Aej ns ms _ _ (i+1) r2 s2 (by rw[hf];simp) q)
    | false=>
     rw[e,if_neg (by simp)] at q
     refine PySem.W.kat_no ?_
     cases (b&&i == 0) with
     | true=>exact oneLt_int q
     | false=>exact PySem.W.kat_one _ _ (lt_int q)
section
variable {X:Cx}
end
noncomputable def Xa:U->Option (List Int)
 | .tup l=>mapO toI l
 | _=>none
noncomputable def Vp(l:List Int):U:=.tup (l.map U.int)
theorem Aa5:∀ {us:List U} {ts:List (List Int)},mapO Xa us=some ts->us=ts.map Vp
 | [],ts,e=>by simp only[mapO] at e;cases e;rfl
 | u::us,ts,e=>by
  simp only[mapO] at e
  obtain ⟨t,e1,e⟩:=aB.mp e
  obtain ⟨tr,e2,e⟩:=aH.mp e
  subst e
  rw[aW,Aa5 e2]
  congr 1
  cases u with
  | tup l=>
   have:∀ (l:List U) (t:List Int),mapO toI l=some t->l=t.map U.int:=by
    intro l
    induction l with
    | nil=>intro t e;simp only[mapO] at e;cases e;rfl
    | cons a l ih=>
     intro t e
     simp only[mapO] at e
     obtain ⟨x,x1,e⟩:=aB.mp e
     obtain ⟨y,y1,e⟩:=aH.mp e
     subst e
     rw[aW,<- ih y y1]
     cases a <;> first | (cases x1;rfl) | cases x1
   unfold Vp
   rw[this l t e1]
  | _=>cases e1
end MR
namespace SO
open PySem PySem.W PyProof.Rows
noncomputable def Aad{α:Type}(lt:Nat->Nat->Bool):KasT α->α
 | .ret a=>a
 | .ask i j k=>Aad lt (k (lt i j))
variable {n:Nat}{lt:Nat->Nat->Bool}
theorem On.run{α:Type}{P:α->Prop}:∀ {t:KasT α},On n lt P t->On n lt (fun a=>a=Aad lt t) t
 | .ret a,h=>rfl
 | .ask i j k,h=>⟨h.1,h.2.1,On.run h.2.2⟩
theorem On.holds{α:Type}{P:α->Prop}:∀ {t:KasT α},On n lt P t->P (Aad lt t)
 | .ret a,h=>h
 | .ask i j k,h=>by
  show P (Aad lt (k (lt i j)))
  exact On.holds h.2.2
noncomputable def Ga(lt:Nat->Nat->Bool)(n:Nat):List Nat:=if n < 2 then aO n else (Aad lt (mD n)).toList
theorem Mv(W:Wo lt):(Ga lt n).Perm (aO n):=by
 unfold Ga
 split
 ·exact .refl _
 ·exact (Ux (n:=n) W (by omega)).holds.1.perm
end SO
namespace MR
open PySem PySem.Spec PyProof.Rows PySem.Calls L2 SO
section
variable {X:Cx}{pins:List (Addr×Obj)}{σ:L2.St}{H:Hp}{s:aR}{h':Heap}
theorem Inv.adopt{a:Addr}{o:HO}{t':Nat}(I:L2.Inv X pins σ H s)(hf:Gv X pins H a)(k:∀ b o,b≠a->s.heap.get? b=some o->h'.get? b=some o)(new:ObjOk X.prog X.w (upd H a o) h' a o) :
  L2.Inv X pins σ (upd H a o) { s with heap:=h',toks:=t' }:=by
 have hn:H a=none:=hf.1
 have na:∀ b u,H b=some u->b≠a:=fun b u e z=>by rw[z,hn] at e;cases e
 have st:=Stay.new hn o
 refine I.step (g':=s.gens) (d':=s.drawn) (ch:=[a]) (fun b hb=>?_) (fun b o _ _ hc e _=>k b o (fun z=>hc (by simp[z])) e) (fun b o _ _ hc e _=>⟨o.slots,k b o (fun z=>hc (by simp[z])) e⟩) (fun b u hc e n=>?_) (fun b u hc e=>⟨u,k b u (fun z=>hc (by simp[z])) e⟩) st.1 st.2 (fun b ps e=>⟨#[],?_⟩) (fun m hm=>?_) (fun b u e=>?_) I.bare
 ·have e:b=a:=by simpa using hb
  subst e
  obtain ⟨_,f1,_,f3,f4,f5⟩:=hf
  exact ⟨f3,f1,f4,f5⟩
 ·rw[Ap (fun z=>hc (by simp[z]))];exact n
 ·rw[Ap (na b _ e),e];simp
 ·obtain ⟨o1,es,ep,ho,r⟩:=hm
  exact ⟨o1,es,ep,k _ o1 (eR hf.2.1) ho,r⟩
 ·by_cases hb:b=a
  ·subst hb;rw[upd_same] at e;cases e;exact new
  ·rw[Ap hb] at e
   refine (I.hok b u e).stay (fun c v hc q=>k c v ?_ q) (fun c q=>by rw[Ap (na c _ q)];exact q) fun c xs q=>by rw[Ap (na c _ q)];exact q
   rcases hc with z | z
   ·rw[z];exact hb
   ·exact na c _ z
end
section
variable {X:Cx}{pins:List (Addr×Obj)}{σ:L2.St}{H:Hp}{s:aR}
theorem Aby:∀ l:List Int,mapO toI (l.map U.int)=some l
 | []=>rfl
 | a::r=>by simp only[aW,mapO,toI,Aby r,aA,aC]
noncomputable def ltK(ks:List (List Int))(i j:Nat):Bool:=ltT (ks.getD i []) (ks.getD j [])
theorem Q0(ks:List (List Int)):Wo (ltK ks):=⟨fun i j h=>Lz _ _ h,fun i j k h1 h2=>Qi _ _ _ h1 h2⟩
end
end MR
namespace MR
open PySem PySem.Spec PyProof.Rows PySem.Calls L2
abbrev Jc(o:Obj):HO:=.frz o (.ext fun _=>True)
variable {H:Hp}
theorem Qa{P:cX}{w:eG}{h:Heap}{a:Addr}{o:Obj}(e:h.get? a=some o):ObjOk P w H h a (Jc o):=⟨e,trivial,⟨o,e⟩,fun _ _ _ _=>trivial⟩
abbrev Alh(q:Str)(params:kG)(body:Expr)(scope:jA)(cl:List (Str×Addr))(pm:aG)(c:Addr)(ct:aG):Obj:=sA "<lambda>" q params body scope cl pm c ct
noncomputable def LamAt(H:Hp)(q:Str)(params:kG)(body:Expr)(scope:jA)(cl:List (Str×Addr))(f:Addr):Prop:=∃ pm c ct,H f=some (Jc (Alh q params body scope cl pm c ct))/\LCode H q (.ref c)
variable {q:Str}{v:aG}
theorem LCode.stay{H':Hp}(st:Stay H H')(h:LCode H q v):LCode H' q v:=by
 obtain ⟨c,oc,vs,t,e1,e2,r⟩:=h
 exact ⟨c,oc,vs,t,e1,st.2 _ _ _ e2,r⟩
variable {params:kG}{body:Expr}{scope:jA}{cl:List (Str×Addr)}
theorem LamAt.stay{H':Hp}{f:Addr}(st:Stay H H')(h:LamAt H q params body scope cl f):LamAt H' q params body scope cl f:=by
 obtain ⟨pm,c,ct,e,l⟩:=h
 exact ⟨pm,c,ct,st.2 _ _ _ e,l.stay st⟩
section
variable {X:Cx}{pins:List (Addr×Obj)}{σ:L2.St}{s:aR}{α:List Addr}{L:UH}{nm:Str}{c P:Addr}{pos:Pos}
theorem Inv.grow{t':Nat}{h':Heap}{P:Addr}{ps more:Array aG}(I:L2.Inv X pins σ H s)(hP:H P=some (.tbl ps))(k:∀ b o,b≠P->s.heap.get? b=some o->h'.get? b=some o)(hp:h'.get? P=some { cls:=.none,data:=.fields (ps++more) }) :
  L2.Inv X pins σ (upd H P (.tbl (ps++more))) { s with heap:=h',toks:=t' }:=by
 have nP:∀ b,H b=none->b≠P:=fun b n z=>by rw[z,hP] at n;cases n
 refine I.step (g':=s.gens) (d':=s.drawn) (ch:=[]) (fun _ z=>nomatch z) (fun b o _ _ _ e n=>k b o (nP b n) e) (fun b o _ _ _ e n=>⟨o.slots,k b o (nP b n) e⟩) (fun b o _ e n=>by rw[Ap (nP b n)];exact n) (fun b o _ e=>?_) (fun b xs e=>?_) (fun b o u e=>?_) (fun b qs e=>?_) (fun m hm=>?_) (fun b u e=>?_) I.bare
 ·by_cases hb:b=P
  ·subst hb;exact ⟨_,hp⟩
  ·exact ⟨o,k b o hb e⟩
 ·rw[Ap (K5 e hP (fun z=>by cases z))];exact e
 ·rw[Ap (K5 e hP (fun z=>by cases z))];exact e
 ·by_cases hb:b=P
  ·subst hb
   rw[hP] at e;cases e
   exact ⟨more,upd_same⟩
  ·exact ⟨#[],by rw[Ap hb,e];simp⟩
 ·obtain ⟨o1,es,ep,ho,r⟩:=hm
  exact ⟨o1,es,ep,k _ o1 (nP _ I.free) ho,r⟩
 ·by_cases hb:b=P
  ·subst hb;rw[upd_same] at e;cases e;exact hp
  ·rw[Ap hb] at e
   refine (I.hok b u e).stay (fun c v hc q=>k c v ?_ q) (fun c q=>by rw[Ap (K5 q hP (fun z=>by cases z))];exact q) fun c xs q=>by rw[Ap (K5 q hP (fun z=>by cases z))];exact q
   rcases hc with z | z
   ·rw[z];exact hb
   ·exact K5 z hP (fun z=>by cases z)
theorem Nm{a b:Nat}:∀ {ps:List aG},rB ps->rB (ps++[rawInt a,rawInt b,v])
 | [],_=>trivial
 | .int _ _ :: .int _ _::_::rest,h=>Nm (ps:=rest) h
theorem Rb{pos:Pos}{a b:Nat}{cv:aG}:∀ {ps:List aG},rB ps->codeAmong pos (ps++[rawInt a,rawInt b,v])=some cv->codeAmong pos ps=some cv\/cv=v
 | [],_,e=>by
  have e':(if ((a:Int) == pos.line&&(b:Int) == pos.col)=true then some v else codeAmong pos [])=some cv:=e
  split at e'
  ·cases e';exact .inr rfl
  ·cases e'
 | .int x _ :: .int y _::w::rest,h,e=>by
  have e':(if (x == pos.line&&y == pos.col)=true then some w else codeAmong pos (rest++[rawInt a,rawInt b,v]))=some cv:=e
  show (if (x == pos.line&&y == pos.col)=true then some w else codeAmong pos rest)=some cv\/cv=v
  split at e'
  ·rename_i hc;rw[if_pos hc];exact .inl e'
  ·rename_i hc;rw[if_neg hc];exact Rb (ps:=rest) h e'
theorem Agv(B:LamB X.K X.mg X.base)(hnm:nm∈Gn)(ht:cZ X.K nm=some (c,P))(hcode:X.env.code = .ref c)(hq:X.env.qual++("<lambda>" : Str)=Mg nm)(hdef:defaultsOf params X.env=([],[]))(hcl:closureFor scope X.env=pure cl)
  (I:L2.Inv X pins σ H s) (A:Abs X.K H α L):wpAny (model X.prog X.w) X.A (eval (.Lambda params body scope pos) X.env)
   (fun v s'=>∃ f H',v = .ref f/\L2.Inv X pins σ H' s'/\Gr H α H' α/\Abs X.K H' α L/\LamAt H' (Mg nm) params body scope cl f) X.xe s:=by
 obtain ⟨ps,hP,tr,good⟩:=A.tab nm hnm c P ht
 have hPo:s.heap.get? P=some (PySem.W.tabObj ps):=I.hok P _ hP
 have C:=(B.hd nm hnm c P ht).keeps I.bk
 have G:s.heap.Ns bJ X.mg:=I.mod.glob.keeps I.bk
 have nbP:∀ b o,X.base.get? b=some o->b≠P:=fun b o e z=>by
  have:=(I.bs b o e).2
  rw[z,hP] at this;cases this
 have hgP:bJ≠P:=by
  obtain ⟨o,es,ep,e,_⟩:=I.mod.glob
  exact nbP _ o e
 obtain ⟨bm,ob,b1,b2,b3,b4,b5,b6⟩:=B.bm
 have hbG:bm≠bJ:=fun z=>by
  obtain ⟨o,es,ep,e,hd,_⟩:=I.mod.glob
  rw[z,e] at b3;cases b3;rw[hd] at b6;cases b6
 have hb:s.heap.BuiltinsAt X.mg P:=⟨bm,ob,b1,b2,hbG,nbP _ ob b3,I.bk _ _ b3,b4,b5,b6⟩
 refine PySem.W.kla_eval hdef ?_
 rw[hq]
 cases hca:codeAmong pos ps.toList with
 | none=>
  refine PySem.W.kla_makeFunction (mg:=X.mg) hcl I.ok.glob G hcode C hPo tr hca hgP hb fun c' ctv h' tk hx hge hlt hrec htb=>?_
  obtain ⟨c₂,oc,vs,t,e2,hoc,hd,hv⟩:=hrec
  cases e2
  have I1:L2.Inv X pins σ (upd H P (.tbl (ps++#[rawInt pos.line,rawInt pos.col,.ref c']))) { s with heap:=h',toks:=tk }:=Inv.grow I hP (fun b o hb e=>hx b o hb e) htb
  have hc'n:H c'=none:=I.hok.fresh hge
  have hc'P:c'≠P:=fun z=>by rw[z,hP] at hc'n;cases hc'n
  have hn1:(upd H P (.tbl (ps++#[rawInt pos.line,rawInt pos.col,.ref c']))) c'=none:=by rw[Ap hc'P];exact hc'n
  have I2:L2.Inv X pins σ (upd (upd H P (.tbl (ps++#[rawInt pos.line,rawInt pos.col,.ref c']))) c' (Jc oc)) { s with heap:=h',toks:=tk }:=by
   refine Inv.adopt (s:={ s with heap:=h',toks:=tk }) (t':=tk) I1 ?_ (fun b o _ e=>e) (Qa hoc)
   exact ⟨hn1,(I.fpOk hge hc'n).2⟩
  have hfs:(upd (upd H P (.tbl (ps++#[rawInt pos.line,rawInt pos.col,.ref c']))) c' (Jc oc)) h'.objs.size=none:=I2.hok.fresh (aS _)
  generalize hO:sA "<lambda>" (Mg nm) params body scope cl ((X.mg "__name__").getD .none) c' ctv=fo
  have I3:=I2.laid (t':=tk) (o:=Jc fo) (a:=h'.objs.size) (h':=h'.push fo) (fun b u e=>aE _ e) (aS _) (Qa (bE _ (by rw[<- hO];rfl)))
  have st1:Stay H (upd H P (.tbl (ps++#[rawInt pos.line,rawInt pos.col,.ref c']))):=⟨fun b xs q=>by rw[Ap (K5 q hP (fun z=>by cases z))];exact q,fun b o u q=>by rw[Ap (K5 q hP (fun z=>by cases z))];exact q⟩
  have st2:=Stay.new hn1 (Jc oc)
  have st3:=Stay.new hfs (Jc fo)
  have st:=st1.trans (st2.trans st3)
  have g:Gr H α _ α:=⟨⟨[],by simp⟩,st⟩
  have keep:∀ b u,b≠P->H b=some u->(upd (upd (upd H P (.tbl (ps++#[rawInt pos.line,rawInt pos.col,.ref c']))) c' (Jc oc)) h'.objs.size (Jc fo)) b=some u:=fun b u hb e=>by
   have e1:(upd H P (.tbl (ps++#[rawInt pos.line,rawInt pos.col,.ref c']))) b=some u:=by rw[Ap hb];exact e
   have e2:(upd (upd H P (.tbl (ps++#[rawInt pos.line,rawInt pos.col,.ref c']))) c' (Jc oc)) b=some u:=by rw[Ap (Bc e1 hn1)];exact e1
   rw[Ap (Bc e2 hfs)];exact e2
  have lc:LCode (upd (upd (upd H P (.tbl (ps++#[rawInt pos.line,rawInt pos.col,.ref c']))) c' (Jc oc)) h'.objs.size (Jc fo)) (Mg nm) (.ref c'):=
   ⟨c',oc,vs,t,rfl,by rw[Ap (cC hlt),upd_same],hd,hv⟩
  refine ⟨h'.objs.size,_,rfl,I3,g,⟨A.len,A.inj,fun i a o e1 e2=>(A.rep i a o e1 e2).other g ?_,fun nm2 hn2 c2 P2 e2=>?_⟩,⟨_,c',ctv,by rw[<- hO];exact upd_same,lc⟩⟩
  ·by_cases hr:o.isRo=true
   ·exact .inl hr
   ·refine .inr fun u q=>keep a u (fun z=>?_) q
    rw[z,hP] at q;cases q
    have hr':=A.rep i a o e1 e2
    rw[z] at hr'
    cases o with
    | lst us=>obtain ⟨xs,e,_⟩:=hr';rw[hP] at e;cases e
    | ro us=>exact hr rfl
    | dic kvs=>obtain ⟨xs,e,_⟩:=hr';rw[hP] at e;cases e
    | rod kvs=>obtain ⟨o,xs,e,_⟩:=hr';rw[hP] at e;cases e
    | ins C fs=>obtain ⟨_,_,_,_,e,_⟩:=hr';rw[hP] at e;cases e
    | exc C fr fs=>obtain ⟨_,_,_,_,e,_⟩:=hr';rw[hP] at e;cases e
  ·by_cases hPP:P2=P
   ·subst hPP
    obtain ⟨ps2,hP2,tr2,good2⟩:=A.tab nm2 hn2 c2 P2 e2
    rw[hP] at hP2;cases hP2
    have hqq:Mg nm2=Mg nm:=by rw[B.inj nm2 hn2 nm hnm c2 c P2 e2 ht]
    have e3:(upd (upd H P2 (.tbl (ps++#[rawInt pos.line,rawInt pos.col,.ref c']))) c' (Jc oc)) P2=some (.tbl (ps++#[rawInt pos.line,rawInt pos.col,.ref c'])):=by rw[Ap (eR hc'P),upd_same]
    refine ⟨_,by rw[Ap (Bc e3 hfs)];exact e3,?_,fun p cv e=>?_⟩
    ·simpa using Nm (a:=pos.line) (b:=pos.col) (v:=.ref c') tr
    ·rcases Rb (a:=pos.line) (b:=pos.col) (v:=.ref c') tr (by simpa using e) with z | z
     ·exact (good2 p cv z).stay st
     ·rw[z,hqq];exact lc
   ·exact (A.tab nm2 hn2 c2 P2 e2).keep st.2 fun ps' e=>keep P2 _ hPP e
 | some cv=>
  obtain ⟨c',oc,vs,t,rfl,e2,hd,hv⟩:=good pos cv hca
  refine PySem.W.kla_makeFunctionHit (mg:=X.mg) hcl I.ok.glob G hcode C hPo tr hca hb fun ctv h' tk hk hsz=>?_
  have I1:L2.Inv X pins σ H { s with heap:=h',toks:=tk }:=I.kept hk
  have hfs:H h'.objs.size=none:=I1.hok.fresh (aS _)
  generalize hO:({ cls:=.type "function",data:=.func (sN "<lambda>" (Mg nm) params body scope cl ((X.mg "__name__").getD .none) (.ref c') ctv) }:Obj)=fo
  have I3:=I1.laid (t':=tk) (o:=Jc fo) (a:=h'.objs.size) (h':=h'.push fo) (fun b u e=>aE _ e) (aS _) (Qa (bE _ (by rw[<- hO];rfl)))
  have g:Gr H α (upd H h'.objs.size (Jc fo)) α:=⟨⟨[],by simp⟩,.new hfs _⟩
  refine ⟨h'.objs.size,_,rfl,I3,g,⟨A.len,A.inj,fun i a o e1 e2=>(A.rep i a o e1 e2).other g (.inr fun u q=>by rw[Ap (Bc q hfs)];exact q),A.tabs g.st (Qe hfs _)⟩,⟨_,c',ctv,by rw[<- hO];exact upd_same,?_⟩⟩
  exact LCode.stay g.st ⟨c',oc,vs,t,rfl,e2,hd,hv⟩
end
noncomputable def Pg(X:Cx)(A:eE)(N':List Str)(q:Str)(scope:jA)(f c:Addr)(cl:List (Str×Addr))(s:aR)(H:Hp):Cx where
 prog:=X.prog
 w:=X.w
 K:=X.K
 mg:=X.mg
 base:=X.base
 A:=A.deeper (oA q scope s.heap.objs.size f (.ref c) cl)
 N:=N'
 s₀:=s
 H₀:=H
 env:=oA q scope s.heap.objs.size f (.ref c) cl
 outer:=X.stack
 stack:=oA q scope s.heap.objs.size f (.ref c) cl::X.stack
 ex:=[]
 calm:=true
 fn:=fun _=>false
 pn:=[]
 xe:=fun _ _=>False
structure LamSc(X:Cx)(params:kG)(body:Expr)(scope:jA)(N':List Str)(ix:List (Option Nat))(p:Str):Prop where
 sc:CompSc X scope N' ix
 pre:N'[0]? = some p
 par:scope.names.lookup p=some .local
 co:scope.isCoroutine=false
 gen:scope.isGenerator=false
 binds:∀ (q:Str) (cl:List (Str×Addr)) (pm cd ct v:aG),bindArgs (sN "<lambda>" q params body scope cl pm cd ct) ⟨[v],[]⟩=pure [(p,v)]
noncomputable def V2(ix:List (Option Nat))(u:U)(δ:UE):UE:=(Gg ix δ).set 0 (some u)
section
variable {X:Cx}{pins:List (Addr×Obj)}{σ:L2.St}{s:aR}{α:List Addr}{L:UH}{c f:Addr}{N':List Str}{ix:List (Option Nat)}{p:Str}{A:eE}
theorem Ac8(S:LamSc X params body scope N' ix p)(hA:A.frames=X.A.frames)(hh:A.handled=none)(I2:L2.Inv X pins σ H s)(hcl:∀ x c,cl.lookup x=some c->X.env.cells.lookup x=some c)(hcl2:∀ y∈scope.names,y.2 = .free->∃ c,cl.lookup y.1=some c)
  {y:V} {x0:aG} (ry:L2.RelV y x0) {h4:Heap} {t4:Nat} (hns:h4.Ns s.heap.objs.size (fun z=>[(p,x0)].reverse.lookup z)) (keep:∀ b o,s.heap.get? b=some o->h4.get? b=some o) :
  L2.Inv (Pg X A N' q scope f c cl s H) [] ((inner ix σ).set 0 (some y)) H { s with heap:=h4,toks:=t4 }:=by
 have e0:=I2.env0
 have ok:(Pg X A N' q scope f c cl s H).Ok:=
  { mod:=I2.ok.mod
    kind:=S.sc.kind
    glob:=rfl
    blt:=rfl
    above:=aS _
    inj:=fun x y c e1 e2=>I2.ok.inj x y c (hcl x c e1) (hcl y c e2)
    has:=fun x h=>by
     have h':scope.names.lookup x=some .cell\/scope.names.lookup x=some .free:=h
     rcases h' with h' | h'
     ·have:=bR.mp S.sc.cell _ (B8 h')
      simp at this
     ·exact hcl2 _ (B8 h') rfl
    cab:=fun x c h=>by cases h
    hd:=fun _=>hh
    frames:=oT (hA.trans e0.frames)
    stk:=.inr ⟨rfl,rfl⟩
    exf:=fun b hb=>absurd (show b∈([]:List Addr) from hb) (by simp)
    bs:=fun b o e=>I2.bs b o e
    bsz:=cL I2.ok.bsz I2.sz
    noex:=fun b o e hb=>absurd (show b∈([]:List Addr) from hb) (by simp)
    exfs:=fun b hb z=>absurd (show b∈([]:List Addr) from hb) (by simp)
    funs:=I2.stack
    frf:=I2.stkFree }
 obtain ⟨m0,hn0,hl0⟩:=id I2.loc
 refine ⟨ok,rfl,I2.bare,Un.kept keep,⟨_,hns,fun j x v e1 e2 e3=>?_⟩,fun x c e=>?_,I2.hok.fresh (aS _),fun x c e=>I2.freeC x c (hcl x c e),fun p hp=>absurd (show p∈([]:List (Addr×Obj)) from hp) (by simp),I2.hok.kept keep,?_⟩
 ·have e1':N'[j]? = some x:=e1
  have e2':((inner ix σ).set 0 (some y))[j]? = some (some v):=e2
  by_cases hj:0=j
  ·subst hj
   rw[S.pre] at e1';cases e1'
   have hlen:0 < (inner ix σ).length:=by
    unfold inner
    rw[aQ,<- S.sc.len]
    exact (aF.mp S.pre).1
   rw[bM hlen] at e2'
   cases e2'
   exact ⟨x0,ry,.inl ⟨S.par,by simp⟩⟩
  ·rw[bL hj] at e2'
   unfold inner at e2'
   rw[bO] at e2'
   cases hx:ix[j]? with
   | none=>rw[hx] at e2';simp at e2'
   | some o=>
    rw[hx] at e2'
    cases o with
    | none=>simp at e2'
    | some i=>
     simp at e2'
     have hz:(x,some i)∈N'.zip ix:=bV (i:=j) (by rw[jB];exact ⟨e1',hx⟩)
     have hz':=bR.mp S.sc.ixs _ hz
     simp only[cG,beq_iff_eq] at hz'
     obtain ⟨hXN,hfr⟩:=hz'
     have hσ:σ[i]? = some (some v):=by
      cases q:σ[i]? with
      | none=>rw[q] at e2';simp at e2'
      | some o=>rw[q] at e2';simp at e2';rw[e2']
     have hk:=bR.mp S.sc.free _ (B8 hfr)
     simp at hk
     have hvis:Vis X.env.scope x:=by
      rcases hk with q | q
      ·exact .inr (.inl q)
      ·exact .inr (.inr q)
     obtain ⟨u,r,look⟩:=hl0 i x v hXN hσ hvis
     rcases look with ⟨q,_⟩ | ⟨_,c,ec,hc⟩
     ·rcases hk with z | z
      ·rw[z] at q;cases q
      ·rw[z] at q;cases q
     ·obtain ⟨c',ec'⟩:=hcl2 _ (B8 hfr) rfl
      have:c'=c:=by have:=hcl x c' ec';rw[ec] at this;cases this;rfl
      subst this
      refine ⟨u,r,.inr ⟨.inr hfr,c',ec',?_⟩⟩
      obtain ⟨oc,ho,hd⟩:=hc
      exact ⟨oc,keep _ _ ho,hd⟩
 ·obtain ⟨v,oc,ho,hd⟩:=I2.cell x c (hcl x c e)
  exact ⟨v,oc,keep _ _ ho,hd⟩
 ·show ((inner ix σ).set 0 (some y)).length=N'.length
  rw[gY,S.sc.len];simp[inner]
theorem Ahm{k:Nat}{fb:FE}{δ:UE}(S:LamSc X params body scope N' ix p)(hr:Room (k+1) A)(hA:A.frames=X.A.frames)(hcl:∀ x c,cl.lookup x=some c->X.env.cells.lookup x=some c)(hcl2:∀ y∈scope.names,y.2 = .free->∃ c,cl.lookup y.1=some c)
  (hb:∀ (c:Addr) (s:aR) (H:Hp),Room k (Pg X A N' q scope f c cl s H).A->PEF (Pg X A N' q scope f c cl s H) body fb)
  (I:L2.Inv X pins σ H s) (Ab:Abs X.K H α L) (Sg:RepS X.K H α δ σ) (la:LamAt H q params body scope cl f) {u z:U} {y:V} {x:aG} (ru:RepU X.K H α u y) (rx:L2.RelV y x) (hm:fb (V2 ix u δ) L=some (z,L)) :
  wpAny (model X.prog X.w) A (call (.ref f) [x]) (EP X pins σ (fun v H'=>∃ α',Gr H α H' α'/\Abs X.K H' α' L/\RepU X.K H' α' z v)) (fun _ _=>False) s:=by
 obtain ⟨pm,c,ct,hf,c',oc,vs,t,e1,e2,hd,hv⟩:=la
 cases e1
 have ho:=(I.hok f _ hf).1
 have hoc:=(I.hok c _ e2).1
 refine wpAny_call (PySem.W.kla_callFunE hr.depth ho rfl S.co S.gen rfl ⟨c,oc,vs,t,rfl,hoc,hd,hv⟩ ?_)
 rw[S.binds q cl pm (.ref c) ct x]
 have hcell:∀ z∈scope.names,z.2≠.cell:=fun z hz=>by
  have:=bR.mp S.sc.cell z hz
  simpa using this
 refine bC (oW hcell (fun z hz=>by obtain rfl:z=(p,x):=cB.mp hz;exact S.par) (fun h₁ hns hsb=>⟨I.nolimit.fresh _ hsb,?_⟩) S.sc.kind)
 have hk₁:∀ b o,s.heap.get? b=some o->h₁.get? b=some o:=fun b o e=>hsb.extBut b o (cC (bF e)) (aE _ e)
 have J:L2.Inv (Pg X A N' q scope f c cl s H) [] ((inner ix σ).set 0 (some y)) H { s with heap:=h₁,toks:=s.toks+[(p,x)].length }:=Ac8 S hA hr.hd I hcl hcl2 rx hns hk₁
 have hrr:Room k (Pg X A N' q scope f c cl s H).A:=hr.deeper _
 show kM _ _ (.expr body (oA q scope s.heap.objs.size f (.ref c) cl)) _ _
 refine PySem.W.kla_codeExpr (dN (hb c s H hrr [] _ _ H (fun v H'=>∃ α',Gr H α H' α'/\Abs X.K H' α' L/\RepU X.K H' α' z v) J ⟨α,V2 ix u δ,L,Ab,(Sg.inner ix).set 0 ru,z,L,hm,fun v H' α' g A' r'=>⟨α',g,A',r'⟩⟩) (fun v s' he=>?_) fun _ _ hF=>hF.elim)
 obtain ⟨v',H',J',rv',hq⟩:=he
 exact I.after ⟨v',H',J'.os,J'.bare,J'.base,J'.hok,rv',hq⟩
end
end MR
namespace MR
open PySem PySem.Spec PyProof.Rows PySem.Calls L2 SO
theorem Acu{A:eE}{s:aR}{a b:Addr}{vs us:List aG}{ns ms:List Int}(ha:oD s.heap a vs.toArray)(hb:oD s.heap b us.toArray)(ra:Vals (ns.map V.int) vs)(rb:Vals (ms.map V.int) us)(hu:A.units < cLine):pK A s (.ref a) (.ref b) (decide (ns=ms)):=by
 by_cases h:a=b
 ·subst h
  obtain ⟨o,e1,_,n,d1⟩:=ha
  obtain ⟨o',e2,_,n',d2⟩:=hb
  rw[e1] at e2;cases e2
  rw[d1] at d2
  injection d2 with d3 _
  have:vs=us:=by simpa using congrArg pZ d3
  subst this
  have:ns=ms:=by
   have h1:=Dx ra
   have h2:=Dx rb
   have:∀ (vs:List aG) (ns ms:List Int),fX vs ns->fX vs ms->ns=ms:=by
    intro vs
    induction vs with
    | nil=>intro ns ms a b;cases a;cases b;rfl
    | cons v vs ih=>
     intro ns ms a b
     cases a with
     | cons _ _ a'=>cases b with
      | cons _ _ b'=>rw[ih _ _ a' b']
   exact this vs ns ms h1 h2
  rw[decide_eq_true this]
  exact rS _
 ·have hl1:=ra.length
  have hl2:=rb.length
  rw[aQ] at hl1 hl2
  have key:=SeqAt.RcAt.tuples (A:=A) (s:=s) (l:=a) (b:=b) (items:=vs.toArray) (items2:=us.toArray) (e:=fun j=>decide (ns[j]? = ms[j]?)) ha hb hu (fun j h1 h2=>by
   simp only[aX] at h1 h2
   obtain ⟨n,t,en,ev⟩:=Ace ra j vs[j] (aL h1)
   obtain ⟨m,t',em,eu⟩:=Ace rb j us[j] (aL h2)
   have e1:(vs.toArray)[j]=kF n t:=by simpa using ev
   have e2:(us.toArray)[j]=kF m t':=by simpa using eu
   rw[e1,e2]
   obtain ⟨e,he,hiff⟩:=HT.Ru A.in1 s n t m t'
   have:e=decide (ns[j]? = ms[j]?):=by
    rw[en,em,iR,hiff]
    simp
   rw[<- this];exact he)
  have e:((aO (min vs.toArray.size us.toArray.size)).all (fun j=>decide (ns[j]? = ms[j]?))&&vs.toArray.size == us.toArray.size)=decide (ns=ms):=by
   rw[iR,cG,bR,beq_iff_eq,decide_eq_true_eq]
   simp only[aX,bG,decide_eq_true_eq]
   constructor
   ·rintro ⟨h1,h2⟩
    apply List.ext_getElem?
    intro i
    by_cases hi:i < ns.length
    ·exact h1 i (by omega)
    ·rw[eS (by omega),eS (by omega)]
   ·rintro rfl
    exact ⟨fun i _=>rfl,by omega⟩
  rw[e] at key
  exact pK.of_refs h key
inductive PTups(K:aJ)(H:Hp)(m:Nat):List (List Int×List Int)->List V->Prop
 | nil:PTups K H m [] []
 | cons {a b c:Addr} {p:List Int×List Int} {ts:List (List Int×List Int)} {ys:List V} (h:SqT K H a [.ref b,.ref c]) (hb:SqT K H b (p.1.map V.int)) (hc:SqT K H c (p.2.map V.int)) (hm:p.1.length=m) (r:PTups K H m ts ys):PTups K H m (p::ts) (.ref a::ys)
theorem PTups.len{K:aJ}{H:Hp}{m:Nat}{ts:List (List Int×List Int)}{ys:List V}(r:PTups K H m ts ys):ts.length=ys.length:=by
 induction r with
 | nil=>rfl
 | cons _ _ _ _ _ ih=>simp[ih]
theorem PTups.at_{K:aJ}{H:Hp}{m:Nat}{ts:List (List Int×List Int)}{ys:List V}(r:PTups K H m ts ys):∀ i,i < ts.length->∃ (a b c:Addr) (p:List Int×List Int),ts[i]? = some p/\ys[i]? = some (.ref a)/\SqT K H a [.ref b,.ref c]/\SqT K H b (p.1.map V.int)/\SqT K H c (p.2.map V.int)/\p.1.length=m:=by
 induction r with
 | nil=>intro i h;simp at h
 | @cons a b c p ts ys h hb hc hm r ih=>
  intro i hi
  cases i with
  | zero=>exact ⟨a,b,c,p,rfl,rfl,h,hb,hc,hm⟩
  | succ i=>simpa using ih i (by simpa using hi)
section
variable {X:Cx}
end
end MR
namespace MR
open PySem PyProof.Rows L2
theorem Rw:∀ x y:List Int,HT.Hq x y=ltT x y
 | [],[]=>by unfold HT.Hq ltT;rfl
 | a::x,[]=>by unfold HT.Hq ltT;rfl
 | [],b::y=>by unfold HT.Hq ltT;rfl
 | a::x,b::y=>by
  have ih:=Rw x y
  rw[HT.Rv,ltT,ih]
  by_cases h:a=b
  ·subst h;simp
  ·have h':(a == b)=false:=by simpa using h
   rw[h',if_neg h,if_neg (by simp)]
end MR
namespace HT
open PySem PyProof.Rows
open PySem.SeqAt
open PySem.AutoSeq1 (wpAny_loadPart')
open PySem.MeetsSeq PySem.MeetsSeq2 PySem.MeetsSeq3
noncomputable def RcL(A:eE)(s:aR)(y x:aG)(b:Bool):Prop:=
 ∀ (prog:cX) (w:eG) (E:aG->aR->Prop) (Q:aG->aR->Prop),Q (.bool b) s->wpAny (model prog w) A (richCompare .Lt y x) Q E s
theorem Tg(l b:Addr)(x1 x2 y1 y2:aG)(n n2:Nat)(dd dd2:Option Addr)(sl sl2:Array (Option aG))(e1 e2 r:Bool) :
  Meets (nM.«tuple.__lt__» ⟨[.ref l,.ref b],[]⟩)
   (fun A R s=>s.heap.get? l=some { cls:=.type "tuple",dict:=dd,data:=.seq #[x1,x2] n,slots:=sl }/\s.heap.get? b=some { cls:=.type "tuple",dict:=dd2,data:=.seq #[y1,y2] n2,slots:=sl2 } /\
    EqAt A.in1 s x1 y1 e1/\EqAt A.in1 s x2 y2 e2/\(e1=false->RcL A.in1 s x1 y1 r)/\(e1=true->e2=false->RcL A.in1 s x2 y2 r)/\(e1=true->e2=true->r=false)/\R (.ok (.ret (.bool r))) s):=
 .of_wp fun prog w A R s h=>by
  obtain ⟨hp,g,d,tk,os⟩:=s;obtain ⟨hl,hb,q1,q2,c1,c2,c3,h⟩:=h
  have f2:=mN
  wp_walk using iO hl,iO hb,qX _ (fun rest b s'=>b.1=none/\s'=⟨hp,g,d,tk,os⟩/\(rest=[(x1,y1),(x2,y2)]\/(e1=true/\rest=[(x2,y2)])\/(e1=true/\e2=true/\rest=[]))) _
  case turn=>
   rintro ⟨y,x⟩ rest b s' ⟨hb',rfl,hz⟩
   rcases hz with hz | ⟨he,hz⟩ | ⟨_,_,hz⟩
   ·cases hz
    refine aD (q1 prog w _ _ ?_)
    cases e1 with
    | true=>
     wp_walk
     exact ⟨rfl,rfl,.inr (.inl ⟨rfl,rfl⟩)⟩
    | false=>
     have hri:=c1 rfl prog w
     wp_walk using hri
     exact ⟨_,rfl,by simpa using h⟩
   ·cases hz
    refine aD (q2 prog w _ _ ?_)
    cases e2 with
    | true=>
     wp_walk
     exact ⟨rfl,rfl,.inr (.inr ⟨he,rfl,rfl⟩)⟩
    | false=>
     have hri:=c2 he rfl prog w
     wp_walk using hri
     exact ⟨_,rfl,by simpa using h⟩
   ·cases hz
  case fin=>
   rintro ⟨b1,b2⟩ s' ⟨hb',rfl,hz⟩
   simp only at hb'
   subst hb'
   rcases hz with hz | ⟨he,hz⟩ | ⟨he,he2,hz⟩
   ·cases hz
   ·cases hz
   ·have hr:=c3 he he2
    subst hr
    wp_walk
    exact ⟨_,rfl,by simpa[kB] using h⟩
  case h=>exact ⟨rfl,rfl,.inl rfl⟩
section
variable {prog:cX}{w:eG}{A:eE}{E:aG->aR->Prop}{s:aR}
theorem Aiw{l b:Addr}{x1 x2 y1 y2:aG}{e1 e2 r:Bool}{Q:aG->aR->Prop}(hl:oD s.heap l #[x1,x2])(hb:oD s.heap b #[y1,y2])(q1:EqAt A.in1 s x1 y1 e1)(q2:EqAt A.in1 s x2 y2 e2)
  (c1:e1=false->RcL A.in1 s x1 y1 r) (c2:e1=true->e2=false->RcL A.in1 s x2 y2 r) (c3:e1=true->e2=true->r=false)
  (hu:A.units < cLine) (h:Q (.bool r) s):wpAny (model prog w) A (richCompare .Lt (.ref l) (.ref b)) Q E s:=by
 obtain ⟨⟨cls,dd,data,sl⟩,ho,hc,n,hd⟩:=id hl
 obtain ⟨⟨cls2,dd2,data2,sl2⟩,ho2,hc2,n2,hd2⟩:=id hb
 simp only at hc hd hc2 hd2
 subst hc hd hc2 hd2
 exact nN (op:=.Lt) ⟨_,ho,rfl⟩ ⟨_,ho2,rfl⟩ oK nO (mY _ _) (Tg l b x1 x2 y1 y2 n n2 dd dd2 sl sl2 e1 e2 r)
  ⟨ho,ho2,q1,q2,c1,c2,c3,show nI r≠oU/\Q (.bool r) s from ⟨(fun x=>nomatch x),h⟩⟩ hu
end
end HT
namespace MR
open PySem PySem.Spec PyProof.Rows L2 SO
noncomputable def ltU:U->U->Option Bool
 | .tup [.int a,.tup b],.tup [.int c,.tup d]=>(mapO toI b).bind fun bs=>(mapO toI d).map fun ds=>if a=c then ltT bs ds else decide (a < c)
 | .tup a,.tup b=>(mapO toI a).bind fun ns=>(mapO toI b).map fun ms=>ltT ns ms
 | _,_=>none
theorem Amp{X:Cx}{pins:List (Addr×Obj)}{σ:L2.St}{H:Hp}{s:aR}{α:List Addr}{u w:U}{x y:V}{v v':aG}{b:Bool}{A:eE}{E:aG->aR->Prop}{Q:aG->aR->Prop}(I:L2.Inv X pins σ H s)(ru:RepU X.K H α u x)(rw:RepU X.K H α w y)
  (rx:L2.RelV x v) (ry:L2.RelV y v') (h:ltU u w=some b) (hu:A.units+4 < cLine) (q:Q (.bool b) s):wpAny (model X.prog X.w) A (richCompare .Lt v v') Q E s:=by
 have tups:∀ {l r:List U} {a c:V} {va vc:aG} {ns ms:List Int} {A:eE} {E:aG->aR->Prop} {Q:aG->aR->Prop},RepU X.K H α (.tup l) a->RepU X.K H α (.tup r) c->L2.RelV a va->L2.RelV c vc->mapO toI l=some ns->mapO toI r=some ms->A.units < cLine->Q (.bool (ltT ns ms)) s ->
   wpAny (model X.prog X.w) A (richCompare .Lt va vc) Q E s:=by
  intro l r a c va vc ns ms A E Q ra rc r1 r2 e1 e2 hu hq
  unfold RepU at ra rc
  obtain ⟨p,xs,rfl,sq,rl⟩:=ra
  obtain ⟨p',ys,rfl,sq',rl'⟩:=rc
  cases r1
  cases r2
  rw[Gi rl e1] at sq
  rw[Gi rl' e2] at sq'
  obtain ⟨its,i1,p1,_⟩:=I.tuple sq
  obtain ⟨its2,i2,p2,_⟩:=I.tuple sq'
  have i1':fX its.toArray.toList ns:=Dx i1
  have i2':fX its2.toArray.toList ms:=Dx i2
  exact HT.Sa p1 p2 i1' i2' hu (by rw[Rw];exact hq)
 unfold ltU at h
 split at h
 ·rename_i a b' c d
  obtain ⟨bs,h1,h⟩:=aB.mp h
  obtain ⟨ds,h2,h⟩:=aH.mp h
  unfold RepU at ru rw
  obtain ⟨p,xs,rfl,sq,rl⟩:=ru
  obtain ⟨p',ys,rfl,sq',rl'⟩:=rw
  obtain ⟨xa,xb,rfl,ra,rb⟩:=rl.two
  obtain ⟨ya,yb,rfl,rc,rd⟩:=rl'.two
  cases rx
  cases ry
  obtain ⟨its,i1,p1,_⟩:=I.tuple sq
  obtain ⟨its2,i2,p2,_⟩:=I.tuple sq'
  obtain ⟨va,vb,rfl,qa,qb⟩:=Tu i1
  obtain ⟨vc,vd,rfl,qc,qd⟩:=Tu i2
  have rb0:=rb
  have rd0:=rd
  unfold RepU at ra rb rc rd
  subst ra
  subst rc
  obtain ⟨t1,rfl⟩:=qa
  obtain ⟨t2,rfl⟩:=qc
  obtain ⟨pb,xs2,rfl,sqb,rlb⟩:=rb
  obtain ⟨pd,ys2,rfl,sqd,rld⟩:=rd
  cases qb
  cases qd
  rw[Gi rlb h1] at sqb
  rw[Gi rld h2] at sqd
  obtain ⟨jts,j1,k1,_⟩:=I.tuple sqb
  obtain ⟨jts2,j2,k2,_⟩:=I.tuple sqd
  obtain ⟨e,he,hiff⟩:=HT.Ru A.in1 s a t1 c t2
  have hun:A.in1.units < cLine:=by show A.units+1 < cLine;omega
  refine HT.Aiw (r:=b) p1 p2 he (Acu k1 k2 j1 j2 hun) (fun z=>?_) (fun z1 z2=>?_) (fun z1 z2=>?_) (by omega) q
  ·have hne:a≠c:=fun z'=>by rw[hiff.mpr z'] at z;cases z
   rw[if_neg hne] at h
   intro prog w E Q hQ
   exact HT.Vw A.in1 s a t1 c t2 prog w E Q (by rw[h];exact hQ)
  ·have hac:a=c:=hiff.mp z1
   rw[if_pos hac] at h
   intro prog w E Q hQ
   obtain ⟨o1,o2,o3⟩:=id k1
   have i1':fX jts.toArray.toList bs:=Dx j1
   have i2':fX jts2.toArray.toList ds:=Dx j2
   exact HT.Sa k1 k2 i1' i2' hun (by rw[Rw,h];exact hQ)
  ·have hac:a=c:=hiff.mp z1
   rw[if_pos hac] at h
   have hbd:bs=ds:=of_decide_eq_true z2
   subst hbd
   rw[<- h]
   cases hh:ltT bs bs with
   | false=>rfl
   | true=>have:=Lz _ _ hh;rw[hh] at this;exact this
 ·obtain ⟨ns,h1,h⟩:=aB.mp h
  obtain ⟨ms,h2,h⟩:=aH.mp h
  subst h
  exact tups ru rw rx ry h1 h2 (by omega) q
 ·cases h
end MR
namespace MR
open PySem PySem.Spec PyProof.Rows PySem.Calls L2
noncomputable def Cd(bt:Nat->Nat->Bool):Nat->Nat
 | 0=>0
 | j+1=>if bt (j+1) (Cd bt j)=true then j+1 else Cd bt j
theorem O6(bt:Nat->Nat->Bool):∀ j,Cd bt j<=j
 | 0=>aS _
 | j+1=>by
  unfold Cd
  split
  ·exact aS _
  ·exact qK (O6 bt j)
noncomputable def Rp(X:Cx)(A:eE)(σ:L2.St)(H0:Hp)(α0:List Addr)(L:UH)(f:Addr)(m:U->Option U):Prop:=
 ∀ (pins:List (Addr×Obj)) (H:Hp) (α:List Addr) (s:aR) (u z:U) (y:V) (x:aG),L2.Inv X pins σ H s->Gr H0 α0 H α->Abs X.K H α L->RepU X.K H α u y->L2.RelV y x->m u=some z ->
  wpAny (model X.prog X.w) A (call (.ref f) [x]) (EP X pins σ (fun v H'=>∃ α',Gr H α H' α'/\Abs X.K H' α' L/\RepU X.K H' α' z v)) (fun _ _=>False) s
noncomputable def Xw:Option Addr->aG
 | none=>.none
 | some f=>.ref f
noncomputable def An4(kf:Option Addr)(m:U->Option U):U->Option U:=match kf with
 | none=>some
 | some _=>m
section
variable {X:Cx}{pins:List (Addr×Obj)}{σ:L2.St}{H:Hp}{s:aR}{α:List Addr}{L:UH}{kf:Option Addr}{m:U->Option U}{us ks:List U}{n:Nat}{bt:Nat->Nat->Bool}{l I S:Addr}{R:sF->aR->Prop}
inductive MS(X:Cx)(pins:List (Addr×Obj))(σ:L2.St)(H:Hp)(α:List Addr)(L:UH)(us ks:List U)(bt:Nat->Nat->Bool)(l I S:Addr)(j:Nat)(s:aR):Prop
 | mk (H':Hp) (α':List Addr) (vb kb:aG) (yb zb:V) (c:Nat) (oI:Obj) (ub kub:U) (J:L2.Inv X ((S,seqObj "list" #[vb,kb] c)::(I,oI)::pins) σ H' s) (g:Gr H α H' α') (A':Abs X.K H' α' L) (hit:s.heap.IsListIter I l (j+1))
   (hu:us[Cd bt j]? = some ub) (hk:ks[Cd bt j]? = some kub) (r1:L2.RelV yb vb) (r2:RepU X.K H' α' ub yb) (r3:L2.RelV zb kb) (r4:RepU X.K H' α' kub zb):MS X pins σ H α L us ks bt l I S j s
theorem Aek(hh:X.A.handled=none)(hu:X.A.in1.units+4 < cLine)(hL:Ao L n=some us)(hal:α[n]? = some l)(hlk:us.length=ks.length)(KR:∀ f,kf=some f->Rp X X.A.in1 σ H α L f m)(hm:∀ (i:Nat) (u z:U),us[i]? = some u->ks[i]? = some z->An4 kf m u=some z)
  (hbt:∀ (i j:Nat) (a b:U),ks[i]? = some a->ks[j]? = some b->ltU a b=some (bt i j)) (hlI:l≠I) (hSI:S≠I) (fI:Gv X pins H I) (fS:Gv X pins H S)
  (hR:∀ (s':aR) (H':Hp) (α':List Addr) (v:aG) (y:V) (u:U),L2.Inv X pins σ H' s'->Gr H α H' α'->Abs X.K H' α' L->us[Cd bt (us.length - 1)]? = some u->L2.RelV y v->RepU X.K H' α' u y->R (.ok (.ret v)) s') :
  ∀ (r j:Nat) (s':aR),us.length - (j+1)=r->j+1<=us.length->MS X pins σ H α L us ks bt l I S j s'->kM (model X.prog X.w) X.A (.builtin "min.loop" ⟨[.ref I,Xw kf,.ref S],[]⟩) R s':=by
 have hname:(toString "min" ++ toString ".loop" : String) = "min.loop" := by decide
 have pin2:∀ (oS oI:Obj) (H':Hp) (s':aR),L2.Inv X pins σ H' s'->H' S=none->H' I=none->s'.heap.get? S=some oS->s'.heap.get? I=some oI->(∀ v,oS.data≠.cell v)->(∀ v,oI.data≠.cell v)->L2.Inv X ((S,oS)::(I,oI)::pins) σ H' s':=by
  intro oS oI H' s' J n1 n2 g1 g2 d1 d2
  refine J.pins_of fun q hq=>?_
  rcases bH.mp hq with rfl | hq
  ·exact ⟨g1,n1,fS.2.1,fS.2.2.1,d1⟩
  ·rcases bH.mp hq with rfl | hq
   ·exact ⟨g2,n2,fI.2.1,fI.2.2.1,d2⟩
   ·exact J.pin q (aU _ hq)
 have lst:∀ (H':Hp) (α':List Addr),Gr H α H' α'->Abs X.K H' α' L->∃ xs,SqL X.K H' l xs/\RepL X.K H' α' us xs:=by
  intro H' α' g A'
  obtain ⟨b,ys,e,sq,r⟩:=Iy A' hL (show RepU X.K H' α' (.ref n) (.ref l) by unfold RepU;exact ⟨l,g.at hal,rfl⟩)
  cases e
  exact ⟨ys,sq,r⟩
 intro r
 induction r with
 | zero=>
  intro j s' hr hj hms
  obtain ⟨H',α',vb,kb,yb,zb,c,oI,ub,kub,J,g,A',hit,h1,h2,r1,r2,r3,r4⟩:=hms
  have p1:=J.pin (S,seqObj "list" #[vb,kb] c) (aU _ (aT ..))
  have p2:=J.pin (I,oI) (aU _ (aK _ (aT ..)))
  have J3:L2.Inv X pins σ H' s':=J.pins_of fun q hq=>J.pin q (aU _ (aK _ (aK _ hq)))
  obtain ⟨xs,sq,rl⟩:=lst H' α' g A'
  obtain ⟨its,rv,pl,hz⟩:=J3.list sq
  have hil:=pl.isList
  have hin:j+1=its.length:=by rw[<- rv.length,<- rl.length];omega
  have W:=nW (prog:=X.prog) (w:=X.w) (A:=X.A.in1) hh I l hlI its.toArray
  have hsz:its.toArray.size=its.length:=aX ..
  refine jL kA ?_
  rw[hU eP _]
  show wpAny _ X.A.in1 (seqItems? (.ref S) >>= _) _ _ _
  refine aD (eU p1.1 rfl ?_)
  show wpAny _ X.A.in1 (tryCatch (pyNext (.ref I)) _ >>= _) _ _ _
  refine aD (iZ (W.done _ _ _ ⟨by rw[hsz,<- hin];exact hit,hil⟩ fun h' tk' hk'=>?_))
  have J4:L2.Inv X pins σ H' { s' with heap:=h',toks:=tk' }:=J3.turned (fun b o hb e=>hk' b o (by simpa using hb) e) p2.2.1 fI.2.1 fI.2.2.2.1 fI.2.2.2.2.1 fI.2.2.2.2.2
  have hS':=hk' S _ (by simpa using hSI) p1.1
  have s1:=dU h' S (cK fun _=>(#[]:Array aG))
  show wpAny _ X.A.in1 (updateSeq S (fun _=>#[]) >>= _) _ _ _
  refine aD ?_
  refine kT hS' rfl (aD (iX (bC ?_)))
  have J5:L2.Inv X pins σ H' { s' with heap:=h'.update S (cK fun _=>(#[]:Array aG)),toks:=tk' }:=J4.turned (t':=tk') (fun b o hb e=>(s1.2 b hb).trans e) p1.2.1 fS.2.1 fS.2.2.2.1 fS.2.2.2.2.1 fS.2.2.2.2.2
  exact hR _ H' α' vb yb ub J5 g A' (by rw[show us.length - 1=j by omega];exact h1) r1 r2
 | succ r ih=>
  intro j s' hr hj hms
  obtain ⟨H',α',vb,kb,yb,zb,c,oI,ub,kub,J,g,A',hit,h1,h2,r1,r2,r3,r4⟩:=hms
  have p1:=J.pin (S,seqObj "list" #[vb,kb] c) (aU _ (aT ..))
  have p2:=J.pin (I,oI) (aU _ (aK _ (aT ..)))
  have J3:L2.Inv X pins σ H' s':=J.pins_of fun q hq=>J.pin q (aU _ (aK _ (aK _ hq)))
  obtain ⟨xs,sq,rl⟩:=lst H' α' g A'
  obtain ⟨its,rv,pl,hz⟩:=J3.list sq
  have hil:=pl.isList
  have hlt:j+1 < its.length:=by rw[<- rv.length,<- rl.length];omega
  have W:=nW (prog:=X.prog) (w:=X.w) (A:=X.A.in1) hh I l hlI its.toArray
  have hsz:its.toArray.size=its.length:=aX ..
  refine jL kA ?_
  rw[hU eP _]
  show wpAny _ X.A.in1 (seqItems? (.ref S) >>= _) _ _ _
  refine aD (eU p1.1 rfl ?_)
  show wpAny _ X.A.in1 (tryCatch (pyNext (.ref I)) _ >>= _) _ _ _
  refine aD (iZ (W.item (j+1) _ _ _ (by rw[hsz];exact hlt) ⟨hit,hil⟩ fun v h' tk' hP hst' hk'=>?_))
  have hv:its[j+1]? = some v:=by simpa using hP
  obtain ⟨oI',hoI',hoc,hod⟩:=id hst'.1
  have hS':=hk' S _ (by simpa using hSI) p1.1
  have J4:L2.Inv X pins σ H' { s' with heap:=h',toks:=tk' }:=J3.turned (fun b o hb e=>hk' b o (by simpa using hb) e) p2.2.1 fI.2.1 fI.2.2.2.1 fI.2.2.2.2.1 fI.2.2.2.2.2
  have J6:=pin2 (seqObj "list" #[vb,kb] c) oI' H' { s' with heap:=h',toks:=tk' } J4 p1.2.1 p2.2.1 hS' hoI' (fun v z=>by cases z) (fun v z=>by rw[hod] at z;cases z)
  obtain ⟨u,hu1⟩:∃ u,us[j+1]? = some u:=⟨us[j+1],aL (by omega)⟩
  obtain ⟨zk,hz1⟩:∃ z,ks[j+1]? = some z:=⟨ks[j+1],aL (by omega)⟩
  obtain ⟨y,hy,ry⟩:=rl.get hu1
  obtain ⟨v2,hv2,rvy⟩:=rv.get hy
  rw[hv] at hv2;cases hv2
  have hmm:=hm (j+1) u zk hu1 hz1
  cases kf
  case' none=>(
   dsimp only[Xw]
   refine aD (dN (Q:=fun val s''=>∃ (H2:Hp) (α2:List Addr) (z:V),L2.Inv X ((S,seqObj "list" #[vb,kb] c)::(I,oI')::pins) σ H2 s''/\Gr H' α' H2 α2/\Abs X.K H2 α2 L/\L2.RelV z val/\RepU X.K H2 α2 zk z) (E:=fun _ _=>False) (by
    cases hmm
    exact bC ⟨H',α',y,J6,.refl _ _,A',rvy,ry⟩) (fun val s'' hv=>?_) (fun _ _ h=>h.elim)))
  case' some f=>(
   dsimp only[Xw]
   refine aD (iZ (eY (dN (Q:=fun val s''=>∃ (H2:Hp) (α2:List Addr) (z:V),L2.Inv X ((S,seqObj "list" #[vb,kb] c)::(I,oI')::pins) σ H2 s''/\Gr H' α' H2 α2/\Abs X.K H2 α2 L/\L2.RelV z val/\RepU X.K H2 α2 zk z) (E:=fun _ _=>False) (dN (KR f rfl _ H' α' _ u zk y v J6 g A' ry rvy hmm) (fun x s'' he=>by
    obtain ⟨z,H2,J7,rz,α2,g2,A2,r5⟩:=he
    exact ⟨H2,α2,z,J7,g2,A2,rz,r5⟩) fun _ _ hF=>hF.elim) (fun val s'' hv=>?_) (fun _ _ h=>h.elim)))))
  all_goals
   obtain ⟨H2,α2,z,J7,g2,A2,rz,r5⟩:=hv
   have p1':=J7.pin (S,seqObj "list" #[vb,kb] c) (aU _ (aT ..))
   have p2':=J7.pin (I,oI') (aU _ (aK _ (aT ..)))
   have J8:L2.Inv X pins σ H2 s'':=J7.pins_of fun q hq=>J7.pin q (aU _ (aK _ (aK _ hq)))
   have hb:=hbt (j+1) (Cd bt j) zk kub hz1 h2
   show wpAny _ X.A.in1 (tryCatch (holding [v,val] (richCompare .Lt val kb >>= _)) _ >>= _) _ _ _
   refine aD (iZ (eY (aD (Amp J7 r5 (r4.mono g2) rz r3 hb hu ?_))))
   refine aD (eY (fA ?_))
   refine aD (iX (bC ?_))
   cases hbb:bt (j+1) (Cd bt j) with
   | true=>
    have s1:=dU s''.heap S (cK fun _=>#[v,val])
    obtain ⟨c2,hc2⟩:∃ c2,(s''.heap.update S (cK fun _=>#[v,val])).get? S=some (seqObj "list" #[v,val] c2):=⟨_,jM p1'.1 fun _=>#[v,val]⟩
    simp only[if_true]
    refine aD ?_
    refine kT p1'.1 rfl (aD (iX ?_))
    rw[hname]
    have J9:L2.Inv X pins σ H2 { s'' with heap:=s''.heap.update S (cK fun _=>#[v,val]) }:=J8.turned (t':=s''.toks) (fun b o hb e=>(s1.2 b hb).trans e) p1'.2.1 fS.2.1 fS.2.2.2.1 fS.2.2.2.2.1 fS.2.2.2.2.2
    have gI:=(s1.2 I hSI.symm).trans p2'.1
    have hbo:Cd bt (j+1)=j+1:=by unfold Cd;rw[if_pos hbb]
    refine bC ⟨jI eP _,ih (j+1) _ (by omega) (by omega) ⟨H2,α2,v,val,y,z,c2,oI',u,zk,pin2 _ oI' H2 _ J9 p1'.2.1 p2'.2.1 hc2 gI (fun v z=>by cases z) (fun v z=>by rw[hod] at z;cases z),g.trans g2,A2,⟨oI',gI,hoc,hod⟩,by rw[hbo];exact hu1,by rw[hbo];exact hz1,rvy,ry.mono g2,rz,r5⟩⟩
   | false=>
    simp only[bK,if_false]
    refine aD (iX ?_)
    rw[hname]
    have hbo:Cd bt (j+1)=Cd bt j:=by
     show (if bt (j+1) (Cd bt j)=true then j+1 else Cd bt j)=_
     rw[if_neg (by rw[hbb];simp)]
    refine bC ⟨jI eP _,ih (j+1) _ (by omega) (by omega) ⟨H2,α2,vb,kb,yb,zb,c,oI',ub,kub,J7,g.trans g2,A2,⟨oI',p2'.1,hoc,hod⟩,by rw[hbo];exact h1,by rw[hbo];exact h2,r1,r2.mono g2,r3,r4.mono g2⟩⟩
end
noncomputable def Abb:Option Addr->List (Str×aG)
 | none=>[]
 | some f=>[(dM "key",.ref f)]
theorem Af2(a:aG):∀ kf,argsOk "min" ⟨[a],Abb kf⟩
 | none=>by unfold argsOk;kernel_rfl
 | some f=>by unfold argsOk;kernel_rfl
section
variable {X:Cx}{pins:List (Addr×Obj)}{σ:L2.St}{H:Hp}{s:aR}{α:List Addr}{L:UH}{kf:Option Addr}{m:U->Option U}{us ks:List U}{n:Nat}{bt:Nat->Nat->Bool}{l:Addr}{Q:aG->aR->Prop}{E:aG->aR->Prop}
theorem Wb(hh:X.A.handled=none)(hu:X.A.in1.units+4 < cLine)(hL:Ao L n=some us)(hal:α[n]? = some l)(hlk:us.length=ks.length)(hne:0 < us.length)(KR:∀ f,kf=some f->Rp X X.A.in1 σ H α L f m)(hm:∀ (i:Nat) (u z:U),us[i]? = some u->ks[i]? = some z->An4 kf m u=some z)
  (hbt:∀ (i j:Nat) (a b:U),ks[i]? = some a->ks[j]? = some b->ltU a b=some (bt i j)) (I:L2.Inv X pins σ H s) (Ab:Abs X.K H α L)
  (hQ:∀ (s':aR) (H':Hp) (α':List Addr) (v:aG) (y:V) (u:U),L2.Inv X pins σ H' s'->Gr H α H' α'->Abs X.K H' α' L->us[Cd bt (us.length - 1)]? = some u->L2.RelV y v->RepU X.K H' α' u y->Q v s') :
  wpAny (model X.prog X.w) X.A (call (.builtin "min") [.ref l] (Abb kf)) Q E s:=by
 have hname:(toString "min" ++ toString ".loop" : String) = "min.loop" := by decide
 obtain ⟨b0,ys0,e0,sq0,rl0⟩:=Iy Ab hL (show RepU X.K H α (.ref n) (.ref l) by unfold RepU;exact ⟨l,hal,rfl⟩)
 cases e0
 obtain ⟨its,rv,pl,hz⟩:=I.list sq0
 have hls:=pl.isList
 obtain ⟨ol,hol,_⟩:=id hls
 have hll:l < s.heap.objs.size:=bF hol
 refine kmk_tree PySem.F.kind_min PySem.F.plain_min PySem.F.entry_min (Af2 _ kf) ?_
 show wpAny _ X.A.in1 (gC "min" ["key","default"] 0 ⟨[],Abb kf⟩ >>= _) _ _ s
 refine aD (rO (show gC "min" ["key","default"] 0 ⟨[],Abb kf⟩=pure [kf.map eD,none] by cases kf <;> rfl) ?_)
 refine aD (bC ?_)
 refine aD (jU hls ?_)
 refine aD (mU ?_ (gE _))
 rw[hname]
 have hkv:(kf.map eD).getD fH=Xw kf:=by cases kf <;> rfl
 rw[hkv]
 have hS:(s.heap.push { cls:=.type "list_iterator",data:=.fields #[.ref l,.int 0 0] }).objs.size=s.heap.objs.size+1:=size_push' ..
 have hlI:l≠s.heap.objs.size:=cC hll
 have I1:L2.Inv X pins σ H { s with heap:=s.heap.push { cls:=.type "list_iterator",data:=.fields #[.ref l,.int 0 0] } }:=I.kept (t':=s.toks) fun b o e=>aE _ e
 have fI:Gv X pins H s.heap.objs.size:=I.fpOk (aS _) (I.hok.fresh (aS _))
 have fS:Gv X pins H (s.heap.push { cls:=.type "list_iterator",data:=.fields #[.ref l,.int 0 0] }).objs.size:=I1.fpOk (s:={ s with heap:=s.heap.push { cls:=.type "list_iterator",data:=.fields #[.ref l,.int 0 0] } }) (aS _) (I1.hok.fresh (aS _))
 have hSI:(s.heap.push { cls:=.type "list_iterator",data:=.fields #[.ref l,.int 0 0] }).objs.size≠s.heap.objs.size:=by rw[hS];exact iI (dZ _)
 have I2:L2.Inv X pins σ H { s with heap:=(s.heap.push { cls:=.type "list_iterator",data:=.fields #[.ref l,.int 0 0] }).push (seqObj "list" #[] 0) }:=I1.kept (t':=s.toks) fun b o e=>aE _ e
 have gI:((s.heap.push { cls:=.type "list_iterator",data:=.fields #[.ref l,.int 0 0] }).push (seqObj "list" #[] 0)).get? s.heap.objs.size=some { cls:=.type "list_iterator",data:=.fields #[.ref l,.int 0 0] }:=
  aE _ (bE _ rfl)
 have gS:((s.heap.push { cls:=.type "list_iterator",data:=.fields #[.ref l,.int 0 0] }).push (seqObj "list" #[] 0)).get? (s.heap.push { cls:=.type "list_iterator",data:=.fields #[.ref l,.int 0 0] }).objs.size=some (seqObj "list" #[] 0):=bE _ rfl
 refine bC ⟨jI eP _,?_⟩
 obtain ⟨its2,rv2,pl2,_⟩:=I2.list sq0
 have hls2:=pl2.isList
 have hsz:its2.toArray.size=its2.length:=aX ..
 have hn2:0 < its2.length:=by rw[<- rv2.length,<- rl0.length];exact hne
 generalize hSS:(s.heap.push { cls:=.type "list_iterator",data:=.fields #[.ref l,.int 0 0] }).objs.size=S at fS hSI gS
 generalize hII:s.heap.objs.size=It at fI hSI gI hlI
 generalize hHH:(s.heap.push { cls:=.type "list_iterator",data:=.fields #[.ref l,.int 0 0] }).push (seqObj "list" #[] 0)=hp at gI gS I2 hls2
 have W:=nW (prog:=X.prog) (w:=X.w) (A:=X.A.in1) hh It l hlI its2.toArray
 show kM _ _ (.builtin "min.loop" ⟨[.ref It,Xw kf,.ref S],[]⟩) _ ({ s with heap:=hp }:aR)
 refine jL kA ?_
 rw[hU eP _]
 show wpAny _ X.A.in1 (seqItems? (.ref S) >>= _) _ _ _
 refine aD (eU gS rfl ?_)
 show wpAny _ X.A.in1 (tryCatch (pyNext (.ref It)) _ >>= _) _ _ _
 refine aD (iZ (W.item 0 _ _ _ (by rw[hsz];exact hn2) ⟨⟨_,gI,rfl,rfl⟩,hls2⟩ fun v h' tk' hP hst' hk'=>?_))
 have hv:its2[0]? = some v:=by simpa using hP
 obtain ⟨oI',hoI',hoc,hod⟩:=id hst'.1
 have hS':=hk' S _ (by simpa using hSI) gS
 have J4:L2.Inv X pins σ H { s with heap:=h',toks:=tk' }:=I2.turned (fun b o hb e=>hk' b o (by simpa using hb) e) fI.1 fI.2.1 fI.2.2.2.1 fI.2.2.2.2.1 fI.2.2.2.2.2
 have pin2:∀ (oS oI:Obj) (H':Hp) (s':aR),L2.Inv X pins σ H' s'->H' S=none->H' It=none->s'.heap.get? S=some oS->s'.heap.get? It=some oI->(∀ v,oS.data≠.cell v)->(∀ v,oI.data≠.cell v)->L2.Inv X ((S,oS)::(It,oI)::pins) σ H' s':=by
  intro oS oI H' s' J n1 n2 g1 g2 d1 d2
  refine J.pins_of fun q hq=>?_
  rcases bH.mp hq with rfl | hq
  ·exact ⟨g1,n1,fS.2.1,fS.2.2.1,d1⟩
  ·rcases bH.mp hq with rfl | hq
   ·exact ⟨g2,n2,fI.2.1,fI.2.2.1,d2⟩
   ·exact J.pin q (aU _ hq)
 have J6:=pin2 (seqObj "list" #[] 0) oI' H { s with heap:=h',toks:=tk' } J4 fS.1 fI.1 hS' hoI' (fun v z=>by cases z) (fun v z=>by rw[hod] at z;cases z)
 obtain ⟨u,hu1⟩:∃ u,us[0]? = some u:=⟨us[0],aL (by omega)⟩
 obtain ⟨zk,hz1⟩:∃ z,ks[0]? = some z:=⟨ks[0],aL (by omega)⟩
 obtain ⟨y,hy,ry⟩:=rl0.get hu1
 obtain ⟨v2,hv2,rvy⟩:=rv2.get hy
 rw[hv] at hv2;cases hv2
 have hmm:=hm 0 u zk hu1 hz1
 cases kf
 case' none=>(
  dsimp only[Xw]
  refine aD (dN (Q:=fun val s''=>∃ (H2:Hp) (α2:List Addr) (z:V),L2.Inv X ((S,seqObj "list" #[] 0)::(It,oI')::pins) σ H2 s''/\Gr H α H2 α2/\Abs X.K H2 α2 L/\L2.RelV z val/\RepU X.K H2 α2 zk z) (E:=fun _ _=>False) (by
   cases hmm
   exact bC ⟨H,α,y,J6,.refl _ _,Ab,rvy,ry⟩) (fun val s'' hv=>?_) (fun _ _ h=>h.elim)))
 case' some f=>(
  dsimp only[Xw]
  refine aD (iZ (eY (dN (Q:=fun val s''=>∃ (H2:Hp) (α2:List Addr) (z:V),L2.Inv X ((S,seqObj "list" #[] 0)::(It,oI')::pins) σ H2 s''/\Gr H α H2 α2/\Abs X.K H2 α2 L/\L2.RelV z val/\RepU X.K H2 α2 zk z) (E:=fun _ _=>False) (dN (KR f rfl _ H α _ u zk y v J6 (.refl _ _) Ab ry rvy hmm) (fun x s'' he=>by
   obtain ⟨z,H2,J7,rz,α2,g2,A2,r5⟩:=he
   exact ⟨H2,α2,z,J7,g2,A2,rz,r5⟩) fun _ _ hF=>hF.elim) (fun val s'' hv=>?_) (fun _ _ h=>h.elim)))))
 all_goals
  obtain ⟨H2,α2,z,J7,g2,A2,rz,r5⟩:=hv
  have p1':=J7.pin (S,seqObj "list" #[] 0) (aU _ (aT ..))
  have p2':=J7.pin (It,oI') (aU _ (aK _ (aT ..)))
  have J8:L2.Inv X pins σ H2 s'':=J7.pins_of fun q hq=>J7.pin q (aU _ (aK _ (aK _ hq)))
  have s1:=dU s''.heap S (cK fun _=>#[v,val])
  obtain ⟨c2,hc2⟩:∃ c2,(s''.heap.update S (cK fun _=>#[v,val])).get? S=some (seqObj "list" #[v,val] c2):=⟨_,jM p1'.1 fun _=>#[v,val]⟩
  show wpAny _ X.A.in1 (updateSeq S (fun _=>#[v,val]) >>= _) _ _ _
  refine aD ?_
  refine kT p1'.1 rfl ?_
  rw[hname]
  have J9:L2.Inv X pins σ H2 { s'' with heap:=s''.heap.update S (cK fun _=>#[v,val]) }:=J8.turned (t':=s''.toks) (fun b o hb e=>(s1.2 b hb).trans e) p1'.2.1 fS.2.1 fS.2.2.2.1 fS.2.2.2.2.1 fS.2.2.2.2.2
  have gI2:=(s1.2 It hSI.symm).trans p2'.1
  refine bC ⟨jI eP _,?_⟩
  refine Aek (m:=m) hh hu hL hal hlk KR hm hbt hlI hSI fI fS (fun s' H' α' v y u J g A e r1 r2=>hQ s' H' α' v y u J g A e r1 r2) _ 0 _ rfl hne ⟨H2,α2,v,val,y,z,c2,oI',u,zk,pin2 _ oI' H2 _ J9 p1'.2.1 p2'.2.1 hc2 gI2 (fun v z=>by cases z) (fun v z=>by rw[hod] at z;cases z),g2,A2,⟨oI',gI2,hoc,hod⟩,hu1,hz1,rvy,ry.mono g2,rz,r5⟩
end
end MR
namespace MR
open PySem PySem.Spec PyProof.Rows PySem.Calls L2 SO
variable {X:Cx}{σ:L2.St}{H:Hp}{s:aR}{f:Addr}{α:List Addr}{L:UH}
section
variable {pins:List (Addr×Obj)}
theorem Ahl{a:Addr}{m:U->Option U}{c0:Nat}{vs:List aG}{ys:List V}{us:List U}{ks:List (List Int)}
  (KR:Rp X X.A.in1.in1 σ H α L f m) (I:L2.Inv X pins σ H s) (fa:Gv X pins H a)
  (ho:s.heap.get? a=some (seqObj "list" vs.toArray c0)) (rv:Vals ys vs) (ru:RepL X.K H α us ys) (Ab:Abs X.K H α L) (hl:ks.length=vs.length) (hk1:∀ t∈ks,t≠[])
  (hk:∀ (i:Nat) (u:U) (t:List Int),us[i]? = some u->ks[i]? = some t->m u=some (Vp t)) (h64:vs.length < 64) :
  wpAny (model X.prog X.w) X.A.in1.in1 (ksk_tree a (.ref f) true) (fun fin s'=>fin = .done (.ret .none)/\∃ H' α',L2.Inv X pins σ (upd H' a (.lst (((Ga (ltK ks.reverse) vs.length).map fun i=>ys.reverse.getD i .non).reverse))) s'/\H' a=none/\Gr H α H' α'/\Abs X.K H' α' L) X.xe s:=by
 have hyl:=rv.length
 have hul:=ru.length
 have z1:vs.toArray.size<=sizeLine:=by rw[aX,gD];omega
 obtain ⟨e1,h1⟩:∃ e1,(s.heap.update a (cK fun _=>(#[]:Array aG))).get? a=some (seqObj "list" #[] e1):=⟨_,jM ho fun _=>#[]⟩
 have hlt:a < s.heap.objs.size:=bF ho
 have sb:=dU s.heap a (cK fun _=>(#[]:Array aG))
 have I1:L2.Inv X pins σ H { s with heap:=s.heap.update a (cK fun _=>(#[]:Array aG)) }:=I.turned (t':=s.toks) (fun b o hb e=>(sb.2 b hb).trans e) fa.1 fa.2.1 fa.2.2.2.1 fa.2.2.2.2.1 fa.2.2.2.2.2
 have hs1:(s.heap.update a (cK fun _=>(#[]:Array aG))).objs.size=s.heap.objs.size:=Heap.size_update ..
 generalize hA:s.heap.update a (cK fun _=>(#[]:Array aG))=hp1 at h1 I1 hs1
 have I2:L2.Inv X pins σ H { s with heap:=hp1.push { cls:=.type "tuple",data:=.seq vs.toArray } }:=I1.kept (t':=s.toks) fun b o e=>aE _ e
 have h2:(hp1.push { cls:=.type "tuple",data:=.seq vs.toArray }).get? a=some (seqObj "list" #[] e1):=aE _ h1
 have hs2:(hp1.push { cls:=.type "tuple",data:=.seq vs.toArray }).objs.size=s.heap.objs.size+1:=by rw[dG,hs1]
 generalize hB:hp1.push { cls:=.type "tuple",data:=.seq vs.toArray } = hp2 at I2 h2 hs2
 have I3:L2.Inv X pins σ H { s with heap:=hp2.push { cls:=.type "list",data:=.seq (iM []) } }:=I2.kept (t':=s.toks) fun b o e=>aE _ e
 have h3:(hp2.push { cls:=.type "list",data:=.seq (iM []) }).get? a=some (seqObj "list" #[] e1):=aE _ h2
 have hkS:(hp2.push { cls:=.type "list",data:=.seq (iM []) }).get? hp2.objs.size=some (seqObj "list" #[] 0):=bE _ rfl
 have fk:Gv X pins H hp2.objs.size:=I2.fpOk (s:={ s with heap:=hp2 }) (aS _) (I2.hok.fresh (aS _))
 have hne:hp2.objs.size≠a:=by rw[hs2];exact iI (jZ hlt)
 generalize hC:hp2.push { cls:=.type "list",data:=.seq (iM []) } = hp3 at I3 h3 hkS
 generalize hS:hp2.objs.size=kS at hkS fk hne
 unfold ksk_tree
 refine aD (listItems_at ho rfl (aD (mV ho rfl ?_ z1 (gE _))))
 rw[hA]
 refine aD (seqEpoch_at (s:={ s with heap:=hp1 }) h1 rfl (aD (wpAny_newTuple ?_ (by show vs.length<=_;rw[gD];omega))))
 show wpAny _ _ _ _ _ ({ s with heap:=hp1.push { cls:=.type "tuple",data:=.seq vs.toArray } }:aR)
 rw[hB]
 refine aD (mU ?_ (gE _))
 show wpAny _ _ _ _ _ ({ s with heap:=hp2.push { cls:=.type "list",data:=.seq (iM []) } }:aR)
 rw[hC]
 show wpAny _ _ (holding _ (ksk_rest a (.ref f) true vs.toArray e1 (.ref hp2.objs.size))) _ _ _
 rw[hS]
 refine eY ?_
 unfold ksk_rest
 refine aD (nV ?_)
 rw[<- Array.forIn_toList]
 have pin2:∀ (kv:List aG) (e:Nat) (H':Hp) (s':aR),L2.Inv X pins σ H' s'->H' kS=none->H' a=none->s'.heap.get? kS=some (seqObj "list" kv.toArray e)->s'.heap.get? a=some (seqObj "list" #[] e1)->L2.Inv X ((kS,seqObj "list" kv.toArray e)::(a,seqObj "list" #[] e1)::pins) σ H' s':=by
  intro kv e H' s' J n1 n2 g1 g2
  refine J.pins_of fun q hq=>?_
  rcases bH.mp hq with rfl | hq
  ·exact ⟨g1,n1,fk.2.1,fk.2.2.1,fun v z=>by cases z⟩
  ·rcases bH.mp hq with rfl | hq
   ·exact ⟨g2,n2,fa.2.1,fa.2.2.1,fun v z=>by cases z⟩
   ·exact J.pin q (aU _ hq)
 refine aD (ksk_fold (fun j s'=>∃ (H':Hp) (α':List Addr) (kv:List aG) (kx:List V) (e:Nat),L2.Inv X ((kS,seqObj "list" kv.toArray e)::(a,seqObj "list" #[] e1)::pins) σ H' s'/\Gr H α H' α'/\Abs X.K H' α' L/\Vals kx kv/\RepL X.K H' α' ((ks.take j).map Vp) kx) vs 0 _
  ⟨H,α,[],[],0,pin2 [] 0 H _ I3 fk.1 fa.1 hkS h3,.refl _ _,Ab,.nil,.nil⟩ ?step ?done)
 case step=>
  rintro j x s' hx ⟨H',α',kv,kx,e,J,g,A',rk,rr⟩
  simp only[nX] at rr ⊢
  have hj:j < vs.length:=(aF.mp hx).1
  obtain ⟨t,ht⟩:∃ t,ks[j]? = some t:=⟨ks[j],aL (by omega)⟩
  obtain ⟨y,hy⟩:∃ y,ys[j]? = some y:=⟨ys[j],aL (by omega)⟩
  obtain ⟨x',hx',rx⟩:=rv.get hy
  rw[hx] at hx';cases hx'
  obtain ⟨u,hu,ry⟩:=ru.get' hy
  have hkl:=rr.length
  have hkl2:=rk.length
  rw[aQ,fK] at hkl
  refine aD (mT (dN (KR _ H' α' _ u (Vp t) y x J g A' (ry.mono g) rx (hk j u t hu ht)) (fun v s'' hv=>?_) fun _ _ hF=>hF.elim))
  obtain ⟨v',H2,J2,rv',α2,g2,A2,r2⟩:=hv
  dsimp only
  have p1:=J2.pin (kS,seqObj "list" kv.toArray e) (aU _ (aT ..))
  have p2:=J2.pin (a,seqObj "list" #[] e1) (aU _ (aK _ (aT ..)))
  have J3:L2.Inv X pins σ H2 s'':=J2.pins_of fun q hq=>J2.pin q (aU _ (aK _ (aK _ hq)))
  have sb2:=dU s''.heap kS (cK (·.push v))
  obtain ⟨e2,he2⟩:∃ e2,(s''.heap.update kS (cK (·.push v))).get? kS=some (seqObj "list" (kv.toArray.push v) e2):=⟨_,jM p1.1 (·.push v)⟩
  have J4:L2.Inv X pins σ H2 { s'' with heap:=s''.heap.update kS (cK (·.push v)) }:=J3.turned (t':=s''.toks) (fun b o hb e=>(sb2.2 b hb).trans e) p1.2.1 fk.2.1 fk.2.2.2.1 fk.2.2.2.2.1 fk.2.2.2.2.2
  refine aD (mV p1.1 rfl ?_ (by rw[aX,gD];omega) (by rw[Array.size_push,aX,gD];omega))
  have hpush:kv.toArray.push v=(kv++[v]).toArray:=by simp
  rw[hpush] at he2
  refine bC ⟨rfl,H2,α2,kv++[v],kx++[v'],e2,pin2 (kv++[v]) e2 H2 _ J4 p1.2.1 p2.2.1 he2 ((sb2.2 a (eR hne)).trans p2.1),g.trans g2,A2,rk.append (.cons rv' .nil),?_⟩
  have htk:ks.take (j+1)=ks.take j++[t]:=by rw[iW,ht];rfl
  rw[htk,jK]
  exact (rr.mono g2).append (.cons r2 .nil)
 case done=>
  rintro s' ⟨H',α',kv,kx,e,J,g,A',rk,rr⟩
  have htk:ks.take (0+vs.length)=ks:=fZ (by omega)
  rw[htk] at rr
  have hkl:=rr.length
  have hkl2:=rk.length
  rw[aQ] at hkl
  have hkv:kv.length=vs.length:=by omega
  have p1:=J.pin (kS,seqObj "list" kv.toArray e) (aU _ (aT ..))
  have p2:=J.pin (a,seqObj "list" #[] e1) (aU _ (aK _ (aT ..)))
  have J3:L2.Inv X pins σ H' s':=J.pins_of fun q hq=>J.pin q (aU _ (aK _ (aK _ hq)))
  refine aD (listItems_at p1.1 rfl ?_)
  have hat:∀ i,i < kv.length->∃ (b:Addr) (n:Int) (t:List Int) (ws:List aG),kv[i]? = some (.ref b)/\ks.getD i []=n::t/\Vals ((n::t).map V.int) ws/\oD s'.heap b ws.toArray:=by
   intro i hi
   obtain ⟨t,ht⟩:∃ t,ks[i]? = some t:=⟨ks[i],aL (by omega)⟩
   obtain ⟨y,hy,ry⟩:=rr.get (i:=i) (u:=Vp t) (by rw[bO,ht];rfl)
   obtain ⟨v,hv,rx⟩:=rk.get hy
   unfold Vp RepU at ry
   obtain ⟨b,xs,rfl,sq,rl⟩:=ry
   cases rx
   have hxs:=Gi rl (Aby t)
   rw[hxs] at sq
   obtain ⟨ws,r2,it,_⟩:=J3.tuple sq
   cases t with
   | nil=>exact absurd rfl (hk1 [] (bV ht))
   | cons n t=>exact ⟨b,n,t,ws,hv,by rw[aP,ht];rfl,r2,it⟩
  have hatR:∀ i,i < kv.length->∃ (b:Addr) (n:Int) (t:List Int) (ws:List aG),kv.reverse[i]? = some (.ref b)/\ks.reverse.getD i []=n::t/\Vals ((n::t).map V.int) ws/\oD s'.heap b ws.toArray:=by
   intro i hi
   obtain ⟨b,n,t,ws,q1,q2,r2,it⟩:=hat (kv.length - 1 - i) (by omega)
   refine ⟨b,n,t,ws,by rw[eT hi];exact q1,?_,r2,it⟩
   rw[aP,eT (by omega),<- aP,show ks.length - 1 - i=kv.length - 1 - i by omega]
   exact q2
  have rvr:Vals ys.reverse vs.reverse:=Vals.rev rv
  have hvrl:vs.reverse.length=vs.length:=bY
  have hyrl:ys.reverse.length=ys.length:=bY
  generalize hvr:vs.reverse=vr at rvr hvrl
  generalize hyr:ys.reverse=yr at rvr hyrl
  generalize hkz:ks.reverse=kz at hatR
  generalize hkr:kv.reverse=kr at hatR
  have fin:∀ (q:Array Nat) (st:SortSt),q.toList=Ga (ltK kz) vs.length->(arrOf st).map (·.2)=(N6 vr q).toArray->failedOf st=none->wpAny (model X.prog X.w) X.A.in1.in1 (ksk_tail a true e1 (.ref kS) st)
    (fun fin s'=>fin = .done (.ret .none)/\∃ H' α',L2.Inv X pins σ (upd H' a (.lst (((Ga (ltK kz) vs.length).map fun i=>yr.getD i .non).reverse))) s'/\H' a=none/\Gr H α H' α'/\Abs X.K H' α' L) X.xe s':=by
   intro q st hq hout hfail
   have hperm:=Mv (n:=vs.length) (Q0 kz)
   have hlen:(N6 vr q).length=vs.length:=by unfold N6;rw[hq,aQ,hperm.length_eq,cF]
   have sb1:=dU s'.heap kS (cK fun _=>(#[]:Array aG))
   have J4:L2.Inv X pins σ H' { s' with heap:=s'.heap.update kS (cK fun _=>(#[]:Array aG)) }:=J3.turned (t':=s'.toks) (fun b o hb e=>(sb1.2 b hb).trans e) p1.2.1 fk.2.1 fk.2.2.2.1 fk.2.2.2.2.1 fk.2.2.2.2.2
   have ga:(s'.heap.update kS (cK fun _=>(#[]:Array aG))).get? a=some (seqObj "list" #[] e1):=(sb1.2 a (eR hne)).trans p2.1
   generalize hG:s'.heap.update kS (cK fun _=>(#[]:Array aG))=g1 at J4 ga
   have sb3:=dU g1 a (cK fun _=>(N6 vr q).reverse.toArray)
   obtain ⟨c2,hc2⟩:∃ c2,(g1.update a (cK fun _=>(N6 vr q).reverse.toArray)).get? a=some (seqObj "list" (N6 vr q).reverse.toArray c2):=⟨_,jM ga fun _=>(N6 vr q).reverse.toArray⟩
   have hlt':∀ k∈Ga (ltK kz) vs.length,k < yr.length:=fun k hk=>by
    have:=bG.mp (hperm.mem_iff.mp hk)
    omega
   have hrel:Vals (((Ga (ltK kz) vs.length).map fun i=>yr.getD i .non).reverse) (N6 vr q).reverse:=by
    refine Vals.rev ?_
    unfold N6
    rw[hq]
    have:∀ js:List Nat,(∀ k∈js,k < yr.length)->Vals (js.map fun i=>yr.getD i .non) (js.map fun i=>vr.getD i fH):=by
     intro js
     induction js with
     | nil=>intro _;exact .nil
     | cons k js ih=>
      intro hk
      have hk0:=hk k (aT ..)
      obtain ⟨v,e3,rr⟩:=rvr.get (aL hk0)
      refine .cons ?_ (ih fun x hx=>hk x (aK _ hx))
      show L2.RelV (yr.getD k .non) (vr.getD k fH)
      rw[aP,aP,aL hk0,e3]
      exact rr
    exact this _ hlt'
   have hsz:(((Ga (ltK kz) vs.length).map fun i=>yr.getD i .non).reverse).length<=sizeLine:=by
    rw[bY,aQ,hperm.length_eq,cF,gD];omega
   have J5:L2.Inv X pins σ (upd H' a (.lst (((Ga (ltK kz) vs.length).map fun i=>yr.getD i .non).reverse))) { s' with heap:=g1.update a (cK fun _=>(N6 vr q).reverse.toArray) }:=
    Inv.adopt (s:={ s' with heap:=g1 }) (t':=s'.toks) J4 ⟨p2.2.1,fa.2⟩ (fun b o hb e=>(sb3.2 b hb).trans e) ⟨hsz,(N6 vr q).reverse,c2,hrel,hc2⟩
   unfold ksk_tail
   refine aD (mV p1.1 rfl ?_ (by rw[aX,gD];omega) (gE _))
   rw[hG]
   refine aD (iX (aD (seqEpoch_at (s:={ s' with heap:=g1 }) ga rfl ?_)))
   have hout':(if true=true then ((arrOf st).map (·.2)).reverse else (arrOf st).map (·.2))=(N6 vr q).reverse.toArray:=by rw[if_pos rfl,hout];simp
   rw[hout',hfail]
   refine aD (mV (s:={ s' with heap:=g1 }) ga rfl ?_ (gE _) (by rw[aX,bY,hlen,gD];omega))
   simp only[bne_self_eq_false,bK,if_false]
   exact bC ⟨rfl,H',α',J5,p2.2.1,g,A'⟩
  have hzip:(kv.toArray.zip vs.toArray).reverse=kr.toArray.zip vr.toArray:=by
   rw[<- hkr,<- hvr]
   apply Array.ext
   ·simp
   ·intro i i1 i2
    simp at i1
    simp only[Array.getElem_reverse,Array.getElem_zip,List.getElem_toArray,List.getElem_reverse,Array.size_zip,aX]
    have e1:min kv.length vs.length - 1 - i=kv.length - 1 - i:=by omega
    have e2:min kv.length vs.length - 1 - i=vs.length - 1 - i:=by omega
    congr 1 <;> congr 1
  have hkrl:kr.length=vr.length:=by rw[<- hkr,<- hvr,bY,bY];exact hkv
  unfold ksk_end
  simp only[if_true]
  refine aD (nV ?_)
  rw[hzip]
  by_cases hsmall:vs.toArray.size < 2
  ·rw[if_pos hsmall,if_pos hsmall]
   have hs2:vs.length < 2:=by simpa using hsmall
   refine aD (bC ?_)
   rw[StateT.run_pure]
   refine aD (bC (fin (iM (aO vr.length)) (SortSt.mk' general' (kr.toArray.zip vr.toArray) #[] 7 none) ?_ ?_ rfl))
   ·unfold Ga;rw[if_pos hs2,hvrl]
   ·rw[Yk]
    show (kr.toArray.zip vr.toArray).map (·.2)=vr.toArray
    apply Array.ext
    ·simp;omega
    ·intro i i1 i2;simp
  ·rw[if_neg hsmall,if_neg hsmall]
   have hs2:2<=vs.length:=by simp at hsmall;omega
   have mk:∀ (m:Nat),m<=kv.length->∃ fs:List aG,PySem.W.KatTups s'.heap (kv.drop (kv.length - m)) fs/\fs.length=m/\∀ v∈fs,PySem.W.Looks (model X.prog X.w) s'.heap (typeOf v) (.type "int"):=by
    intro m
    induction m with
    | zero=>intro _;exact ⟨[],by rw[sZ,List.drop_length];exact PySem.W.KatTups.nil,rfl,by simp⟩
    | succ m ih=>
     intro hm
     obtain ⟨fs,k1,k2,k3⟩:=ih (by omega)
     obtain ⟨b,n,t,ws,q1,_,r2,it⟩:=hat (kv.length - (m+1)) (by omega)
     obtain ⟨o,ho',hcls,nn,hd⟩:=it
     rw[aW] at r2
     cases r2 with
     | @cons _ v0 _ vr rr rs=>
      obtain ⟨tk,rfl⟩:=rr
      have hdrop:kv.drop (kv.length - (m+1)) = .ref b::kv.drop (kv.length - m):=by
       have hlt2:kv.length - (m+1) < kv.length:=by omega
       rw[List.drop_eq_getElem_cons hlt2]
       have:kv[kv.length - (m+1)] = .ref b:=by
        rw[aL hlt2] at q1;exact bS q1
       rw[this]
       congr 2;omega
      refine ⟨.int n tk::fs,?_,by simp[k2],fun v hv=>?_⟩
      ·rw[hdrop]
       exact PySem.W.KatTups.cons ho' hcls hd rfl k1
      ·rcases bH.mp hv with e | e
       ·subst e
        exact PySem.W.Looks.now
       ·exact k3 v e
   obtain ⟨fs,k1,k2,k3⟩:=mk kv.length (aS _)
   rw[eQ,sM] at k1
   refine aD (PySem.W.kat_kind k1 (by omega) k3 rfl ?_)
   have ask:∀ (i j:Nat) (C:Bool->aR->Prop),i < vs.length->j < vs.length->C (ltK kz i j) s'->oJ X.prog X.w X.A.in1.in1 (tuples' (iH "int" != iH "tuple")) kr i j C s':=by
    intro i j C hi hj hC
    obtain ⟨b,n,t,ws,q1,q2,r2,it⟩:=hatR i (by omega)
    obtain ⟨b',n',t',ws',q1',q2',r2',it'⟩:=hatR j (by omega)
    obtain ⟨o,ho1,_,c1,hd⟩:=it
    obtain ⟨o',ho2,_,c2,hd'⟩:=it'
    have g1:kr.getD i fH = .ref b:=by rw[aP,q1];rfl
    have g2:kr.getD j fH = .ref b':=by rw[aP,q1'];rfl
    unfold oJ
    rw[g1,g2]
    refine PySem.W.kat_lt ho1 hd ho2 hd' ?_
    have hl1:=r2.length
    have hl2:=r2'.length
    rw[aQ] at hl1 hl2
    refine Aej (n::t) (n'::t') ws ws' 0 r2 r2' ?_ ?_
    ·rw[aX,aX,<- hl1,<- hl2]
    ·rw[<- q2,<- q2'];exact hC
   have on:=(Ux (n:=vr.length) (Q0 kz) (by omega)).run.wp (cmp:=oJ X.prog X.w X.A.in1.in1 (tuples' (iH "int" != iH "tuple")) kr) (s:=s') (Q:=fun q s2=>q=Aad (ltK kz) (mD vr.length)/\s2=s') (fun i j C hi hj hC=>ask i j C (by omega) (by omega) hC) fun q h=>⟨h,rfl⟩
   refine aD (dN (PySem.W.kat_run (ks:=kr) (vs:=vr) (Q:=fun st s2=>∃ q:Array Nat,arrOf st=q.map (PySem.W.kas_item (kr.toArray.zip vr.toArray))/\failedOf st=none/\q=Aad (ltK kz) (mD vr.length)/\s2=s') hkrl (by omega) (by omega) (fun q st s2 _ q1 q2 q3=>⟨q,q1,q2,q3⟩) on) ?_ fun _ _ e=>e)
   rintro ⟨⟨⟩,st⟩ s2 ⟨q,q1,q2,q3,rfl⟩
   refine fin q st ?_ (PySem.W.kat_snds hkrl q1) q2
   unfold Ga
   rw[if_neg (by omega),q3,hvrl]
end
theorem R0{β γ:Type}{f:β->Option γ}:∀ {l:List β} {r:List γ},mapO f l=some r->l.length=r.length
 | [],r,h=>by simp only[mapO] at h;cases h;rfl
 | a::l,r,h=>by
  simp only[mapO] at h
  obtain ⟨x,_,h⟩:=aB.mp h
  obtain ⟨y,hy,h⟩:=aH.mp h
  subst h
  simp[R0 hy]
theorem Sv{β γ:Type}{f:β->Option γ}:∀ {l:List β} {r:List γ} {i:Nat} {a:β} {b:γ},mapO f l=some r->l[i]? = some a->r[i]? = some b->f a=some b
 | [],r,i,a,b,h,h1,h2=>by simp at h1
 | c::l,r,i,a,b,h,h1,h2=>by
  simp only[mapO] at h
  obtain ⟨x,hx,h⟩:=aB.mp h
  obtain ⟨y,hy,h⟩:=aH.mp h
  subst h
  cases i with
  | zero=>simp at h1 h2;subst h1;subst h2;exact hx
  | succ i=>exact Sv hy (by simpa using h1) (by simpa using h2)
section
variable {prog:cX}{w:eG}{A:eE}{E:aG->aR->Prop}
theorem Wy{Q:List aG->aR->Prop}{r:Addr}{a b c:Int}{t u v:Tok}{n:Nat}(hh:A.handled=none)(hr:IsRange s.heap r a b c t u v)(hsmall:nM.Range.small a b c=true)
  (hn:mX a b c=n) (hlen:n<=2 ^ 24)
  (hQ:∀ (h':Heap) (tk:Nat) (acc:Array aG),(∀ b o,s.heap.get? b=some o->h'.get? b=some o)->ItemsOf (fun i v=>∃ t,v = .int (a+i * c) t) acc n->Q acc.toList { s with heap:=h',toks:=tk }):wpAny (model prog w) A (collect (.ref r)) Q E s:=by
 unfold collect
 refine aD (wpAny_runValue (jL PySem.F.entry_proto_collect ?_))
 rw[hU PySem.F.plain_proto_collect _]
 show wpAny _ A.in1 (newList [] >>= fun l=>again (.builtin "list.__iadd__" ⟨[l,.ref r],[]⟩)) _ _ s
 refine aD (dD ?_)
 refine bC ⟨jI nE _,jL PySem.F.entry_list_iadd ?_⟩
 rw[hU nE _]
 have hS₁:(s.heap.push { cls:=.type "list",data:=.seq ([]:List aG).toArray }).get? s.heap.objs.size=some { cls:=.type "list",data:=.seq ([]:List aG).toArray }:=bE _ rfl
 show wpAny _ A.in1 (nM.List.listExtendWith (.ref s.heap.objs.size) (.ref r) (.ref s.heap.objs.size)) _ _ _
 refine wpAny_extend_range (R:=wants _ E) (s:={ s with heap:=s.heap.push { cls:=.type "list",data:=.seq ([]:List aG).toArray } }) hh (aE _ hr) hsmall hn hlen s.heap.objs.size _ _ hS₁ fun h' tk acc' c' hk hS' hacc=>?_
 show wpAny _ A (load s.heap.objs.size >>= _) _ _ _
 refine aD (wpAny_load hS' ?_)
 exact bC (hQ h' tk acc' (fun b o e=>hk b o (cC (bF e)) (aE _ e)) hacc)
end
abbrev Afk(j:Int)(t u v:Tok):Obj:={ cls:=.type "range",data:=.fields #[.int 0 t,.int j u,.int 1 v] }
section
variable {pins:List (Addr×Obj)}
theorem Ajh{r:Addr}{m:U->Option U}{j:Int}{t u v:Tok}{us:List U}{ks:List (List Int)}{Q:VK}(hc:X.calm=true)
  (KR:Rp X X.A.in1.in1 σ H α L f m) (I:L2.Inv X pins σ H s) (hr:H r=some (Jc (Afk j t u v))) (h0:-(2 ^ 62)<=j) (h64:j < 64) (Ab:Abs X.K H α L) (hus:us=Bf 0 j.toNat) (hl:ks.length=us.length) (hk1:∀ t∈ks,t≠[])
  (hk:∀ (i:Nat) (u:U) (t:List Int),us[i]? = some u->ks[i]? = some t->m u=some (Vp t))
  (q:∀ (b:Addr) (H':Hp) (α':List Addr),H' b=none->Gr H α H' α'->Abs X.K H' α' L->Q (.ref b) (upd H' b (.lst (((Ga (ltK ks.reverse) us.length).map fun i=>(Mr 0 j.toNat).reverse.getD i .non).reverse)))) :
  wpAny (model X.prog X.w) X.A (call (.builtin "sorted") [.ref r] [(dM "key",.ref f),(dM "reverse",.bool true)]) (EP X pins σ Q) X.xe s:=by
 have hh:=I.ok.hd hc
 have hro:=(I.hok r _ hr).1
 have hul:us.length=j.toNat:=by rw[hus];unfold Bf;rw[aQ,cF]
 refine call_function_entry_kw kind_sorted plain_sorted entry_sorted (ksk_s2 _ _ _) ?_
 unfold nM.«sorted»
 refine aD (m:=checkCount "sorted" 1 1 _) (bC (aD (Wy (a:=0) (b:=j) (c:=1) (n:=j.toNat) hh hro (small_one (by omega) (by omega) h0 (by omega)) (by rw[pD];split <;> omega) (by omega) fun h1 tk1 acc hk1' hacc=>aD (mU ?_ ?y2))))
 case y2=>rw[gD,dA,hacc.1];omega
 have hv:=Uh hacc
 have J0:L2.Inv X pins σ H { s with heap:=h1,toks:=tk1 }:=I.kept hk1'
 have e2:(h1.push (seqObj "list" acc.toList.toArray 0)).get? h1.objs.size=some (seqObj "list" acc.toList.toArray 0):=bE _ rfl
 have J1:L2.Inv X pins σ H { s with heap:=h1.push (seqObj "list" acc.toList.toArray 0),toks:=tk1 }:=J0.kept (s:={ s with heap:=h1,toks:=tk1 }) (t':=tk1) fun b o e=>aE _ e
 have fp:Gv X pins H h1.objs.size:=J0.fpOk (s:={ s with heap:=h1,toks:=tk1 }) (aS _) (J0.hok.fresh (aS _))
 have hal:acc.toList.length=j.toNat:=by rw[dA];exact hacc.1
 refine aD (eY (wpAny_call_entry_kw slot_list_sort ⟨_,e2,rfl⟩ entry_list_sort ?body (ksk_l2 _ _ _)))
 case body=>
  show wpAny (model X.prog X.w) X.A.in1.in1 (nM.«list.sort» ⟨[.ref h1.objs.size],[(dM "key",.ref f),(dM "reverse",.bool true)]⟩) _ _ _
  rw[ksk_t2]
  refine dN (Ahl KR J1 fp e2 hv (by rw[hus];exact Uy 0 _) Ab (by omega) hk1 hk (by omega)) (fun fin s' ⟨hf,H',α',J,hn,g,A'⟩=>?_) fun _ _ e=>e
  subst hf
  refine ⟨_,rfl,bC ⟨_,rfl,.ref h1.objs.size,_,J,rfl,?_⟩⟩
  have:=q h1.objs.size H' α' hn g A'
  rw[hul] at this
  rw[hal]
  exact this
noncomputable def Akk(ta:TA):TE:=fun σ H Q=>ta σ H fun vs H1=>∃ j:Int,vs=[.int j]/\∀ r t u v,H1 r=none->Q (.ref r) (upd H1 r (Jc (Afk j t u v)))
theorem Aj0{a:Expr}{ta:TA}{p' pos':Pos}(hg:Gl X "range")(hm:X.mg "range" = none)(ha:PA X [a] ta)(hs:bQ [a] X.env=[(false,eval a X.env)]:=by rfl):PE X (.Call (.Name "range" p') [a] [] pos') (Akk ta):=by
 intro pins s σ H Q I h
 refine dO (Fq I hg hm sE (cY (thn (ha pos' pins s σ H _ I h) fun us s1 ⟨vs,H1,I1,r1,q1⟩=>?_) hs rfl))
 obtain ⟨j,rfl,q⟩:=q1
 obtain ⟨u,rfl,ru⟩:=Gz r1
 obtain ⟨t,rfl⟩:=ru
 refine qA ?_
 exact ⟨.ref s1.heap.objs.size,_,I1.laid (o:=Jc (Afk j _ _ _)) (fun b o e=>aE _ e) (aS _) (Qa (bE _ rfl)),rfl,q _ _ _ _ (I1.hok.fresh (aS _))⟩
end
structure LamX(X:Cx)(nm:Str):Prop where
 b:LamB X.K X.mg X.base
 mem:nm∈Gn
 tab:∃ c P,cZ X.K nm=some (c,P)/\X.env.code = .ref c
 q:X.env.qual++("<lambda>" : Str)=Mg nm
noncomputable def Aao(X:Cx)(scope:jA)(cl:List (Str×Addr)):Prop:=(∀ x c,cl.lookup x=some c->X.env.cells.lookup x=some c)/\∀ y∈scope.names,y.2 = .free->∃ c,cl.lookup y.1=some c
noncomputable def Ap7(X:Cx)(q:Str)(params:kG)(body:Expr)(scope:jA):TE:=fun σ H Q=>∃ α L,Abs X.K H α L/\∀ f cl H',Aao X scope cl->Gr H α H' α->Abs X.K H' α L->LamAt H' q params body scope cl f->Q (.ref f) H'
theorem Abn{K:aJ}{nm:Str}{oc:aG}{od:Option Addr}{fd:cU}{sl:Array (Option aG)}(h:(cZ K nm).isSome=true)(a:bP K bJ nm=some (some (.ref f)))(l:K.lookup f=some ⟨oc,od,.func fd,sl⟩):∃ c P,cZ K nm=some (c,P)/\fd.code = .ref c:=by
 obtain ⟨⟨c,P⟩,e⟩:=jE.mp h
 refine ⟨c,P,e,?_⟩
 unfold cZ at e
 rw[a] at e
 simp only[l] at e
 split at e
 ·rename_i c' hc
  split at e
  ·split at e
   ·cases e;exact hc
   ·cases e
  ·cases e
 ·cases e
variable {k:Nat}
section
variable {P:cX}{w:eG}{K:aJ}{mg:Str->Option aG}{base:Heap}
theorem Fun.okFL{x qual:Str}{st:Stmt}{fd:cU}{N ps:List Str}{body:FS}(F:Fun K x qual st f fd)(S:FnScope N ps (Al st))
  (hbody:∀ (cdv:aG) (A:eE) (outer:List jS) (s:aR) (H:Hp) (E:XK),fd.code=cdv->Room k (A.deeper (envOfC qual (Al st) s.heap.objs.size f cdv))->S9 (Wn CX0 P w K mg base N qual (Al st) f cdv A outer s H E).nox (Bm st) body) :
  FnOk P w K mg base CX0 (k+1) f fd ps (spF K ps.length (fnU N.length ps.length body)):=by
 obtain ⟨oc,od,kV,doc,pm,an,cdv0,ct,osl,rfl,lk,hcd⟩:=F.ex
 refine Aj9 lk hcd S (fun vs H Q E ⟨α,L,us,A,r,hl,_,_,_,_⟩=>by rw[<- r.length];exact hl) fun A outer s H vs Q E hr h=>?_
 obtain ⟨α,L,us,Ab,r,hl,u,L',e,q⟩:=h
 refine ⟨_,(hbody cdv0 A outer s H E rfl hr).nox,?_⟩
 unfold fnU at e
 rw[if_pos hl] at e
 obtain ⟨⟨fl,L1⟩,e1,e⟩:=aB.mp e
 refine ⟨α,_,L,Ab,RepS.start N r,fl,L1,e1,?_⟩
 cases fl with
 | rt w=>cases e;exact q
 | nx δ=>cases e;exact fun σ' H' α' g' A' S'=>q .non H' α' g' A' rfl
 | bk δ=>cases e
 | ct δ=>cases e
end
variable {u:U}{δ:UE}{p pos:Pos}
section
variable {nm:Str}{params:kG}{body:Expr}{scope:jA}{lpos:Pos}{N':List Str}{ix:List (Option Nat)}{pn:Str}{fb:FE}
theorem Agc(LX:LamX X nm)(S:LamSc X params body scope N' ix pn)(hdef:defaultsOf params X.env=([],[])):PE X (.Lambda params body scope lpos) (Ap7 X (Mg nm) params body scope):=by
 intro pins s σ H Q I h
 obtain ⟨α,L,A,q⟩:=h
 obtain ⟨c,P,ht,hc⟩:=LX.tab
 obtain ⟨cl,hcl,h1,h2⟩:=S.sc.clos I.ok
 refine thn (Agv LX.b LX.mem ht hc LX.q hdef hcl I A) fun v s' hq=>?_
 obtain ⟨f,H',rfl,I',g,A',la⟩:=hq
 exact ⟨.ref f,H',I',rfl,q f cl H' ⟨h1,h2⟩ g A' la⟩
noncomputable def LamP(X:Cx)(A:eE)(N':List Str)(q:Str)(scope:jA)(k:Nat)(body:Expr)(fb:FE):Prop:=∀ (f c:Addr) (cl:List (Str×Addr)) (s:aR) (H:Hp),Room k (Pg X A N' q scope f c cl s H).A->PEF (Pg X A N' q scope f c cl s H) body fb
open Classical in
noncomputable def Mh(ix:List (Option Nat))(fb:FE)(δ:UE)(L:UH)(u:U):Option U:=(fb (V2 ix u δ) L).bind fun r=>if r.2=L then some r.1 else none
theorem Ajc{z:U}(h:Mh ix fb δ L u=some z):fb (V2 ix u δ) L=some (z,L):=by
 unfold Mh at h
 obtain ⟨⟨y,L'⟩,e,h⟩:=aB.mp h
 simp only at h
 split at h
 ·rename_i hL
  cases h
  subst hL
  exact e
 ·cases h
theorem Aa1{z:U}(h:fb (V2 ix u δ) L=some (z,L)):Mh ix fb δ L u=some z:=by
 unfold Mh
 rw[h]
 simp
theorem LamP.key{A:eE}{q:Str}{cl:List (Str×Addr)}(P:LamP X A N' q scope k body fb)(S:LamSc X params body scope N' ix pn)(hr:Room (k+1) A)(hA:A.frames=X.A.frames)(hcl:Aao X scope cl)
  (Sg:RepS X.K H α δ σ) (la:LamAt H q params body scope cl f):Rp X A σ H α L f (Mh ix fb δ L):=by
 intro pins H' α' s u z y x I g Ab ru rx hm
 exact Ahm S hr hA hcl.1 hcl.2 (fun c s H hr=>P f c cl s H hr) I Ab (Sg.mono g) (la.stay g.st) ru rx (Ajc hm)
noncomputable def H9(ks:List U):Nat:=Cd (fun i j=>(ltU (ks.getD i .non) (ks.getD j .non)).getD false) (ks.length - 1)
noncomputable def V7(ks:List U):Bool:=ks.all fun a=>ks.all fun b=>(ltU a b).isSome
theorem Wv{ks:List U}(h:V7 ks=true):∀ (i j:Nat) (a b:U),ks[i]? = some a->ks[j]? = some b->ltU a b=some ((ltU (ks.getD i .non) (ks.getD j .non)).getD false):=by
 intro i j a b ha hb
 have h1:=bR.mp h a (bV ha)
 have h2:=bR.mp h1 b (bV hb)
 rw[aP,aP,ha,hb]
 simp only[fM]
 cases e:ltU a b with
 | none=>rw[e] at h2;cases h2
 | some c=>rfl
noncomputable def N0(ix:List (Option Nat))(fb:FE)(fe:FE):FE:=fun δ L=>(fe δ L).bind fun p=>match p.1 with
 | .ref n=>(Ao p.2 n).bind fun us=>(mapO (Mh ix fb δ p.2) us).bind fun ks=>if 0 < us.length/\V7 ks=true then some (us.getD (H9 ks) .non,p.2) else none
 | _=>none
theorem Ac6{e:Expr}{fe:FE}{kpos:Pos}(LX:LamX X nm)(S:LamSc X params body scope N' ix pn)(hdef:defaultsOf params X.env=([],[]))(P:LamP X X.A.in1 N' (Mg nm) scope k body fb)(hr:Room (k+2) X.A)(hc:X.calm=true)
  (hg:Gl X "min") (hm:X.mg "min" = none) (he:PEF X e fe) (hs:bQ [e] X.env=[(false,eval e X.env)]:=by rfl) :
  PEF X (.Call (.Name "min" p) [e] [⟨some (dM "key"),.Lambda params body scope lpos,kpos⟩] pos) (N0 ix fb fe):=by
 intro pins s σ H Q I h
 obtain ⟨α,δ,L,A,Sg,z,L3,ez,q⟩:=h
 unfold N0 at ez
 obtain ⟨⟨u,L1⟩,e1,ez⟩:=aB.mp ez
 simp only at ez
 split at ez
 ·rename_i n
  obtain ⟨us,hus,ez⟩:=aB.mp ez
  obtain ⟨ks,hks,ez⟩:=aB.mp ez
  split at ez
  ·rename_i hcc
   cases ez
   refine dO (Fq I hg hm oN ?_)
   refine callWith_kw ?_ (by rw[hs];rfl) (by rw[hs];rfl) (by rfl)
   have hpa:PAF X [e] (Ac fe Af):=Aa he Ae (hs:=by rw[hs];rfl)
   have hA:(Ac fe Af) δ L=some ([.ref n],L3):=by
    show (fe δ L).bind _=_
    rw[e1];rfl
   refine thn (hpa pos pins s σ H (fun vs H1=>∃ α1,Gr H α H1 α1/\Abs X.K H1 α1 L3/\RepL X.K H1 α1 [.ref n] vs) I ⟨α,δ,L,A,Sg,_,L3,hA,fun vs H1 α1 g1 A1 r1=>⟨α1,g1,A1,r1⟩⟩) fun vs s1 ⟨xs,H1,I1,rx,α1,g1,A1,r1⟩=>?_
   refine thn (Vc (nm:=some (dM "key")) (kpos:=kpos) (Agc LX S hdef) Agb pos pins s1 σ H1 (fun zs H2=>∃ f cl,zs=[.ref f]/\Aao X scope cl/\Gr H1 α1 H2 α1/\Abs X.K H2 α1 L3/\LamAt H2 (Mg nm) params body scope cl f) I1 ⟨α1,L3,A1,fun f cl H2 h1 h2 h3 h4=>⟨f,cl,rfl,h1,h2,h3,h4⟩⟩) fun ws s2 ⟨zs,H2,I2,rz,f,cl,hz,hcl,g2,A2,la⟩=>?_
   subst hz
   obtain ⟨y,rfl,ry⟩:=r1.one
   unfold RepU at ry
   obtain ⟨l,hal,rfl⟩:=ry
   obtain ⟨v,rfl,rv⟩:=Gz rx
   cases rv
   obtain ⟨v2,rfl,rv2⟩:=Gz rz
   cases rv2
   have hlk:=R0 hks
   refine Wb (kf:=some f) (m:=Mh ix fb δ L3) (bt:=fun i j=>(ltU (ks.getD i .non) (ks.getD j .non)).getD false) (I.ok.hd hc) (by have:=hr.un;show X.A.units+1+4 < cLine;omega) hus (g2.at hal) hlk hcc.1 (fun f' hf'=>?_) (fun i u z hu hz=>Sv hks hu hz) (Wv hcc.2) I2 A2 (fun s' H' α' v y u J g A' hu1 rv ru=>?_)
   ·cases hf'
    exact P.key S hr.in1 rfl hcl (Sg.mono (g1.trans g2)) la
   ·refine ⟨y,H',J,rv,q _ H' α' (g1.trans (g2.trans g)) A' ?_⟩
    have:us.getD (H9 ks) .non=u:=by
     unfold H9
     rw[aP,<- hlk,hu1];rfl
    rw[this];exact ru
  ·cases ez
 ·cases ez
noncomputable def Pd(fe:FE):FE:=fun δ L=>(fe δ L).bind fun p=>match p.1 with
 | .ref n=>(Ao p.2 n).bind fun us=>if 0 < us.length/\V7 us=true then some (us.getD (H9 us) .non,p.2) else none
 | _=>none
theorem U9{e:Expr}{fe:FE}(hc:X.calm=true)(hu:X.A.units+64 < cLine)(hg:Gl X "min")(hm:X.mg "min" = none)(he:PEF X e fe)(hs:bQ [e] X.env=[(false,eval e X.env)]:=by rfl) :
  PEF X (.Call (.Name "min" p) [e] [] pos) (Pd fe):=by
 intro pins s σ H Q I h
 obtain ⟨α,δ,L,A,Sg,z,L3,ez,q⟩:=h
 unfold Pd at ez
 obtain ⟨⟨u,L1⟩,e1,ez⟩:=aB.mp ez
 simp only at ez
 split at ez
 ·rename_i n
  obtain ⟨us,hus,ez⟩:=aB.mp ez
  split at ez
  ·rename_i hcc
   cases ez
   have hpa:PAF X [e] (Ac fe Af):=Aa he Ae (hs:=by rw[hs];rfl)
   have hA:(Ac fe Af) δ L=some ([.ref n],L3):=by
    show (fe δ L).bind _=_
    rw[e1];rfl
   refine dO (Fq I hg hm oN ?_)
   refine iE (thn (hpa pos pins s σ H (fun vs H1=>∃ α1,Gr H α H1 α1/\Abs X.K H1 α1 L3/\RepL X.K H1 α1 [.ref n] vs) I ⟨α,δ,L,A,Sg,_,L3,hA,fun vs H1 α1 g1 A1 r1=>⟨α1,g1,A1,r1⟩⟩) fun vs s1 ⟨xs,H1,I1,rx,α1,g1,A1,r1⟩=>?_) hs rfl
   obtain ⟨y,rfl,ry⟩:=r1.one
   unfold RepU at ry
   obtain ⟨l,hal,rfl⟩:=ry
   obtain ⟨v,rfl,rv⟩:=Gz rx
   cases rv
   refine Wb (kf:=none) (m:=fun _=>none) (ks:=us) (bt:=fun i j=>(ltU (us.getD i .non) (us.getD j .non)).getD false) (I.ok.hd hc) (by show X.A.units+1+4 < cLine;omega) hus hal rfl hcc.1 (fun f' hf'=>by cases hf') (fun i u z hu hz=>by rw[hu] at hz;exact hz) (Wv hcc.2) I1 A1 (fun s' H' α' v y u J g A' hu1 rv ru=>?_)
   refine ⟨y,H',J,rv,q _ H' α' (g1.trans g) A' ?_⟩
   have:us.getD (H9 us) .non=u:=by
    unfold H9
    rw[aP,hu1];rfl
   rw[this];exact ru
  ·cases ez
 ·cases ez
noncomputable def Lq(ix:List (Option Nat))(fb:FE)(ga:FA):FE:=fun δ L=>(ga δ L).bind fun p=>match p.1 with
 | [.int j]=>(mapO (fun u=>(Mh ix fb δ p.2 u).bind Xa) (Bf 0 j.toNat)).bind fun ks=>if (-(2 ^ 62)<=j/\j < 64)/\(ks.all fun t=>!t.isEmpty)=true then
   some (.ref p.2.length,p.2++[.lst (((Ga (ltK ks.reverse) j.toNat).map fun i=>(Bf 0 j.toNat).reverse.getD i .non).reverse)]) else none
 | _=>none
theorem Ahu{t:List Int}(h:Xa u=some t):u=Vp t:=by
 have h1:mapO Xa [u]=some [t]:=by simp only[mapO,h,aA,aC]
 have h2:=Aa5 h1
 simpa using h2
theorem Y4{a:Expr}{ga:FA}{p' kpos kpos2 pos' bpos:Pos}{kd:Nat}(LX:LamX X nm)(S:LamSc X params body scope N' ix pn)(hdef:defaultsOf params X.env=([],[]))(P:LamP X X.A.in1.in1 N' (Mg nm) scope k body fb)(hr:Room (k+3) X.A)(hc:X.calm=true)
  (hg:Gl X "sorted") (hm:X.mg "sorted" = none) (hg2:Gl X "range") (hm2:X.mg "range" = none) (ha:PAF X [a] ga) (hs:bQ [a] X.env=[(false,eval a X.env)]:=by rfl)
  (hs2:bQ [.Call (.Name "range" p') [a] [] pos'] X.env=[(false,eval (.Call (.Name "range" p') [a] [] pos') X.env)]:=by rfl) :
  PEF X (.Call (.Name "sorted" p) [.Call (.Name "range" p') [a] [] pos'] [⟨some (dM "key"),.Lambda params body scope lpos,kpos⟩,⟨some (dM "reverse"),.Constant (.bool true) kd bpos,kpos2⟩] pos) (Lq ix fb ga):=by
 intro pins s σ H Q I h
 obtain ⟨α,δ,L,A,Sg,z,L3,ez,q⟩:=h
 unfold Lq at ez
 obtain ⟨⟨us,L1⟩,e1,ez⟩:=aB.mp ez
 simp only at ez
 split at ez
 ·rename_i j
  obtain ⟨ks,hks,ez⟩:=aB.mp ez
  split at ez
  ·rename_i hcc
   cases ez
   refine dO (Fq I hg hm PyProof.Rows.boot_sorted ?_)
   refine callWith_kw ?_ (by rw[hs2];rfl) (by rw[hs2];rfl) (by rfl)
   have hpr:PE X (.Call (.Name "range" p') [a] [] pos') (Akk (lA X.K ga)):=Aj0 hg2 hm2 ha hs
   refine thn (Qb hpr Yl (hs:=hs2) pos pins s σ H (fun vs H1=>∃ α1 r t u v,vs=[.ref r]/\H1 r=some (Jc (Afk j t u v))/\Gr H α H1 α1/\Abs X.K H1 α1 L1) I ?_) fun vs s1 ⟨xs,H1,I1,rx,α1,r,t,u,v,hx,hr1,g1,A1⟩=>?_
   ·refine ⟨α,δ,L,A,Sg,_,L1,e1,fun vs H1 α1 g1 A1 r1=>?_⟩
    obtain ⟨y,rfl,ry⟩:=r1.one
    unfold RepU at ry
    subst ry
    refine ⟨j,rfl,fun r t u v hn=>?_⟩
    have g2:Gr H1 α1 (upd H1 r (Jc (Afk j t u v))) α1:=⟨⟨[],by simp⟩,.new hn _⟩
    exact ⟨α1,r,t,u,v,rfl,upd_same,g1.trans g2,⟨A1.len,A1.inj,fun i a o e1 e2=>(A1.rep i a o e1 e2).other g2 (.inr fun u q=>by rw[Ap (Bc q hn)];exact q),A1.tabs g2.st (Qe hn _)⟩⟩
   subst hx
   refine thn (Vc (nm:=some (dM "key")) (kpos:=kpos) (Agc LX S hdef) (Vc (nm:=some (dM "reverse")) (kpos:=kpos2) (Akl (b:=true)) Agb) pos pins s1 σ H1 (fun zs H2=>∃ f cl,zs=[.ref f,.bl true]/\Aao X scope cl/\Gr H1 α1 H2 α1/\Abs X.K H2 α1 L1/\LamAt H2 (Mg nm) params body scope cl f) I1 ⟨α1,L1,A1,fun f cl H2 h1 h2 h3 h4=>⟨f,cl,rfl,h1,h2,h3,h4⟩⟩) fun ws s2 ⟨zs,H2,I2,rz,f,cl,hz,hcl,g2,A2,la⟩=>?_
   subst hz
   obtain ⟨v1,rfl,rv1⟩:=Gz rx
   cases rv1
   obtain ⟨v2,v3,rfl,rv2,rv3⟩:=Tu rz
   cases rv2
   cases rv3
   have hlk:=R0 hks
   have hlen:(Bf 0 j.toNat).length=j.toNat:=by unfold Bf;rw[aQ,cF]
   refine Ajh (m:=Mh ix fb δ L1) (us:=Bf 0 j.toNat) (ks:=ks) hc (P.key S hr.in1.in1 rfl hcl (Sg.mono (g1.trans g2)) la) I2 (g2.st.2 _ _ _ hr1) hcc.1.1 hcc.1.2 A2 rfl hlk.symm (fun t ht=>?_) (fun i u t hu ht=>?_) fun b H' α' hn g A'=>?_
   ·have:=bR.mp hcc.2 t ht
    intro z;rw[z] at this;simp at this
   ·obtain ⟨y,hy1,hy2⟩:=aB.mp (Sv (f:=fun u=>(Mh ix fb δ L1 u).bind Xa) hks hu ht)
    rw[hy1,Ahu hy2]
   ·have hperm:=Mv (n:=j.toNat) (Q0 ks.reverse)
    rw[hlen]
    have rl:RepL X.K H' α' (((Ga (ltK ks.reverse) j.toNat).map fun i=>(Bf 0 j.toNat).reverse.getD i .non).reverse) (((Ga (ltK ks.reverse) j.toNat).map fun i=>(Mr 0 j.toNat).reverse.getD i .non).reverse):=by
     refine RepL.reverse ?_
     have r2:RepL X.K H' α' (Bf 0 j.toNat).reverse (Mr 0 j.toNat).reverse:=(Uy 0 _).reverse
     have hl2:(Bf 0 j.toNat).reverse.length=j.toNat:=by rw[bY,hlen]
     have:∀ js:List Nat,(∀ i∈js,i < j.toNat)->RepL X.K H' α' (js.map fun i=>(Bf 0 j.toNat).reverse.getD i .non) (js.map fun i=>(Mr 0 j.toNat).reverse.getD i .non):=by
      intro js
      induction js with
      | nil=>intro _;exact .nil
      | cons i js ih=>
       intro hj
       have hj0:=hj i (aT ..)
       obtain ⟨x,hx,rx'⟩:=r2.get (aL (by rw[hl2];exact hj0))
       refine .cons ?_ (ih fun x hx=>hj x (aK _ hx))
       show RepU X.K H' α' ((Bf 0 j.toNat).reverse.getD i .non) ((Mr 0 j.toNat).reverse.getD i .non)
       rw[aP,aP,aL (by rw[hl2];exact hj0),hx]
       exact rx'
     exact this _ fun i hi=>bG.mp (hperm.mem_iff.mp hi)
    obtain ⟨g3,A3,r3⟩:=A'.lst rl hn
    exact q _ _ _ (g1.trans (g2.trans (g.trans g3))) A3 r3
  ·cases ez
 ·cases ez
end
end MR
namespace MR
open PySem PySem.Spec PyProof.Rows L2
variable {X:Cx}{pins:List (Addr×Obj)}{σ:L2.St}{H H':Hp}{s:aR}{a:Addr}{kvs:List (Key×V)}{e:Expr}
section
theorem Inv.freeze{o:Obj}(I:L2.Inv X pins σ H s)(e:H a=some (.dK kvs))(ho:s.heap.get? a=some o):L2.Inv X pins σ (upd H a (.frz o (.dK kvs))) s:=by
 have tp:∀ b u,H b=some u->(∀ ks,u≠.dK ks)->upd H a (.frz o (.dK kvs)) b=some u:=fun b u q n=>by
  rw[Ap (fun z=>by subst z;rw[e] at q;cases q;exact n _ rfl)];exact q
 refine I.un (t':=s.toks) (h':=s.heap) ⟨fun b ob q n _ _=>q,fun b ob q n _ _=>⟨ob.slots,q⟩,fun b ob q n _=>?_,fun b ob q _=>⟨ob,q⟩,fun b xs q=>tp b _ q fun ks z=>(nomatch z),fun b ob u q=>tp b _ q fun ks z=>(nomatch z),fun b ps q=>⟨#[],by rw[tp b _ q fun ks z=>(nomatch z)];simp⟩⟩ fun b u q=>?_
 ·rw[Ap (fun z=>by subst z;rw[e] at n;cases n)];exact n
 ·have own:∀ c,H c=some (.own b)->upd H a (.frz o (.dK kvs)) c=some (.own b):=fun c z=>tp c _ z fun ks z=>(nomatch z)
  have tups:∀ c xs,H c=some (.tup xs)->upd H a (.frz o (.dK kvs)) c=some (.tup xs):=fun c xs z=>tp c _ z fun ks z=>(nomatch z)
  by_cases hb:b=a
  ·subst hb
   rw[upd_same] at q
   cases q
   exact ⟨ho,(I.hok b _ e).stay (fun _ _ _ z=>z) own tups⟩
  ·rw[Ap hb] at q
   exact (I.hok b u q).stay (fun _ _ _ z=>z) own tups
noncomputable def Thaw(H H' H2:Hp):Prop:=∀ b,H2 b=H' b\/∃ o vs,H' b=some (.frz o (.dK vs))/\H2 b=some (.dK vs)/\∀ o u,H b≠some (.frz o u)
theorem Thaw.stay{H2:Hp}(t:Thaw H H' H2){b:Addr}{u:Option HO}(e:H' b=u)(n:∀ o ks,u≠some (.frz o (.dK ks))):H2 b=u:=by
 rcases t b with z | ⟨o,vs,z,_⟩
 ·rw[z];exact e
 ·rw[e] at z;exact absurd z (n _ _)
theorem Inv.thaw{pins0:List (Addr×Obj)}{σ0:L2.St}{s0:aR}{H2:Hp}(I0:L2.Inv X pins0 σ0 H s0)(I:L2.Inv X pins σ H' s)(t:Thaw H H' H2):L2.Inv X pins σ H2 s:=by
 have nn:∀ b,H' b=none->H2 b=none:=fun b e=>t.stay e fun _ _ z=>(nomatch z)
 refine ⟨I.ok,I.os,I.bare,⟨I.base.keep,I.base.slot,fun b o e n hx=>nn b (I.base.free b o e n hx),I.base.there,fun b xs e=>t.stay (I.base.tups b xs e) fun _ _ z=>(nomatch z),fun b o u e=>?_,fun b ps e=>?_⟩,I.loc,I.cell,nn _ I.free,fun x c e=>nn _ (I.freeC x c e),fun p hp=>?_,fun a o e=>?_,I.len⟩
 ·have h0:=I0.base.frzs b o u e
  rcases t b with z | ⟨o',vs,_,_,z⟩
  ·rw[z];exact I.base.frzs b o u e
  ·exact absurd h0 (z _ _)
 ·obtain ⟨more,q⟩:=I.base.tbls b ps e
  exact ⟨more,t.stay q fun _ _ z=>(nomatch z)⟩
 ·obtain ⟨h1,h2,h3⟩:=I.pin p hp
  exact ⟨h1,nn _ h2,h3⟩
 ·have own:∀ c,H' c=some (.own a)->H2 c=some (.own a):=fun c z=>t.stay z fun _ _ z=>(nomatch z)
  have tups:∀ c xs,H' c=some (.tup xs)->H2 c=some (.tup xs):=fun c xs z=>t.stay z fun _ _ z=>(nomatch z)
  rcases t a with z | ⟨o',vs,z1,z2,_⟩
  ·rw[z] at e
   exact (I.hok a o e).stay (fun _ _ _ z=>z) own tups
  ·rw[z2] at e
   cases e
   exact (show ObjOk X.prog X.w H' s.heap a (.dK vs) from (I.hok a _ z1).2).stay (fun _ _ _ z=>z) own tups
theorem Ah6{t:TE}(h:PE X e t):PE X e (fun σ H Q=>t σ H fun x H'=>∃ H2,Thaw H H' H2/\Q x H2):=fun pins s σ H Q I q=>
 thn (h pins s σ H _ I q) fun v s1 zz=>by obtain ⟨x,H1,I1,r,H2,th,q⟩:=zz;exact ⟨x,H2,Inv.thaw I I1 th,r,q⟩
end
variable {K:aJ}{α:List Addr}
section
mutual
theorem RepU.via(g:∀ a xs,SqT K H a xs->SqT K H' a xs):∀ (u:U) (v:V),RepU K H α u v->RepU K H' α u v
 | .non,_,h=>h
 | .bl _,_,h=>h
 | .int _,_,h=>h
 | .str _,_,h=>h
 | .tup l,v,h=>by
  unfold RepU at h ⊢
  obtain ⟨a,xs,e,s,r⟩:=h
  exact ⟨a,xs,e,g _ _ s,RepL.via g l xs r⟩
 | .ref n,v,h=>by
  unfold RepU at h ⊢
  exact h
theorem RepL.via(g:∀ a xs,SqT K H a xs->SqT K H' a xs):∀ (l:List U) (xs:List V),RepL K H α l xs->RepL K H' α l xs
 | [],xs,h=>h
 | u::l,xs,h=>by
  unfold RepL at h ⊢
  obtain ⟨x,r,e,h1,h2⟩:=h
  exact ⟨x,r,e,RepU.via g u x h1,RepL.via g l r h2⟩
end
end
noncomputable def Lo:Option HU->Option HU->Option HU
 | some (.dic _),some (.rod kvs)=>some (.dic kvs)
 | _,x=>x
noncomputable def El:UH->UH->UH
 | [],L'=>L'
 | _::_,[]=>[]
 | .dic _::L,.rod kvs::L'=>.dic kvs::El L L'
 | _::L,x::L'=>x::El L L'
theorem Nn:∀ (L L':UH),(El L L').length=L'.length
 | [],L'=>by unfold El;rfl
 | a::L,[]=>by unfold El;rfl
 | a::L,x::L'=>by
  cases a <;> cases x <;> simp[El,Nn L L']
theorem Qy:∀ (L L':UH) (n:Nat),(El L L')[n]? = Lo L[n]? L'[n]?
 | [],L',n=>by
  unfold El
  cases h:L'[n]? <;> simp[Lo]
 | a::L,[],n=>by
  unfold El
  cases h:(a::L)[n]? with
  | none=>simp[Lo]
  | some w=>cases w <;> simp[Lo]
 | a::L,x::L',0=>by
  cases a <;> cases x <;> simp[El,Lo]
 | a::L,x::L',n+1=>by
  have:=Qy L L' n
  cases a <;> cases x <;> simpa[El] using this
theorem Ss{a:Option HU}{x y:HU}(h:Lo a (some x)=some y):y.isRo=x.isRo/\(x.isRo=true->y=x):=by
 unfold Lo at h
 split at h
 ·rename_i h1 h2
  cases h2;cases h
  exact ⟨rfl,fun z=>(nomatch z)⟩
 ·cases h;exact ⟨rfl,fun _=>rfl⟩
theorem Afm{α':List Addr}{L L':UH}(A:Abs K H α L)(g:Gr H α H' α')(A':Abs K H' α' L') :
  ∃ H2,Thaw H H' H2/\Gr H α H2 α'/\Abs K H2 α' (El L L')/\(∀ u v,RepU K H' α' u v->RepU K H2 α' u v):=by
 classical
 let T:Addr->Prop:=fun b=>∃ (n:Nat) (kvs kws:List (Key×U)),α'[n]? = some b/\L[n]? = some (HU.dic kvs)/\L'[n]? = some (HU.rod kws)
 let H2:Hp:=fun b=>if T b then (match H' b with | some (.frz o (.dK vs))=>some (.dK vs) | x=>x) else H' b
 have Tfrz:∀ b,T b->∃ o vs,H' b=some (.frz o (.dK vs)):=by
  rintro b ⟨n,kvs,kws,e1,e2,e3⟩
  obtain ⟨o,vs,q,_⟩:=A'.rep n b _ e1 e3
  exact ⟨o,vs,q⟩
 have Told:∀ b,T b->∃ vs,H b=some (.dK vs):=by
  rintro b ⟨n,kvs,kws,e1,e2,e3⟩
  obtain ⟨a,ea,vs,q,_⟩:=A.addr e2
  have:=g.at ea
  rw[e1] at this;cases this
  exact ⟨vs,q⟩
 have on:∀ b o vs,T b->H' b=some (.frz o (.dK vs))->H2 b=some (.dK vs):=fun b o vs t e=>by
  show (if T b then _ else _)=_
  rw[if_pos t,e]
 have off:∀ b,¬ T b->H2 b=H' b:=fun b t=>by
  show (if T b then _ else _)=_
  rw[if_neg t]
 have th:Thaw H H' H2:=fun b=>by
  by_cases t:T b
  ·obtain ⟨o,vs,e⟩:=Tfrz b t
   obtain ⟨ws,e0⟩:=Told b t
   exact .inr ⟨o,vs,e,on b o vs t e,fun o u z=>by rw[e0] at z;cases z⟩
  ·exact .inl (off b t)
 have sq:∀ a xs,SqT K H' a xs->SqT K H2 a xs:=fun a xs h=>by
  rcases h with (h | ⟨o,h⟩) | h
  ·exact .inl (.inl (th.stay h fun _ _ z=>(nomatch z)))
  ·exact .inl (.inr ⟨o,th.stay h fun _ _ z=>(nomatch z)⟩)
  ·exact .inr h
 have gr:Gr H α H2 α':=⟨g.pre,fun b xs q=>th.stay (g.st.1 b xs q) fun _ _ z=>(nomatch z),fun b o u q=>by
  rcases th b with z | ⟨_,_,_,_,z⟩
  ·rw[z];exact g.st.2 b o u q
  ·exact absurd q (z _ _)⟩
 refine ⟨H2,th,gr,⟨?_,fun i j a o o' e1 e2 e3 e4=>?_,fun i a o e1 e2=>?_,fun nm hnm c P e=>?_⟩,fun u v r=>RepU.via sq u v r⟩
 ·rw[Nn];exact A'.len
 ·rw[Qy] at e3 e4
  cases q1:L'[i]? with
  | none=>rw[q1] at e3;unfold Lo at e3;split at e3 <;> cases e3;rename_i z;cases z
  | some x1=>
   cases q2:L'[j]? with
   | none=>rw[q2] at e4;unfold Lo at e4;split at e4 <;> cases e4;rename_i z;cases z
   | some x2=>
    rw[q1] at e3
    rw[q2] at e4
    rw[(Ss e3).1,(Ss e4).1]
    exact A'.inj i j a x1 x2 e1 e2 q1 q2
 ·rw[Qy] at e2
  cases q1:L'[i]? with
  | none=>rw[q1] at e2;unfold Lo at e2;split at e2 <;> cases e2;rename_i z;cases z
  | some x1=>
   rw[q1] at e2
   have hr:=A'.rep i a x1 e1 q1
   by_cases t:T a
   ·obtain ⟨o',vs,ef⟩:=Tfrz a t
    obtain ⟨n,kvs,kws,n1,n2,n3⟩:=id t
    rcases A'.inj i n a x1 _ e1 n1 q1 n3 with z | z | z
    ·subst z
     rw[q1] at n3;cases n3
     rw[n2] at e2
     cases e2
     obtain ⟨o2,ws,f1,f2,f3⟩:=hr
     exact ⟨ws,on a o2 ws t f1,f2,RepL.via sq _ _ f3⟩
    ·have:=(Ss e2).2 z
     subst this
     cases o with
     | ro us=>
      obtain ⟨xs,f1,f2⟩:=hr
      refine ⟨xs,?_,RepL.via sq _ _ f2⟩
      rcases f1 with ⟨o2,f1⟩ | f1
      ·rw[ef] at f1;cases f1
      ·exact .inr f1
     | _=>cases z
    ·cases z
   ·have same:o=x1:=by
     unfold Lo at e2
     split at e2
     ·rename_i h1 h2
      cases h2
      exact absurd ⟨i,_,_,e1,h1,q1⟩ t
     ·cases e2;rfl
    subst same
    have ea:=off a t
    cases o with
    | lst us=>obtain ⟨xs,f1,f2⟩:=hr;exact ⟨xs,by rw[ea];exact f1,RepL.via sq _ _ f2⟩
    | ro us=>
     obtain ⟨xs,f1,f2⟩:=hr
     refine ⟨xs,?_,RepL.via sq _ _ f2⟩
     rcases f1 with ⟨o2,f1⟩ | f1
     ·exact .inl ⟨o2,by rw[ea];exact f1⟩
     ·exact .inr f1
    | dic kvs=>obtain ⟨vs,f1,f2,f3⟩:=hr;exact ⟨vs,by rw[ea];exact f1,f2,RepL.via sq _ _ f3⟩
    | rod kvs=>obtain ⟨o2,vs,f1,f2,f3⟩:=hr;exact ⟨o2,vs,by rw[ea];exact f1,f2,RepL.via sq _ _ f3⟩
    | ins C fs=>obtain ⟨Ca,dx,vs,n,f1,f2,f3⟩:=hr;exact ⟨Ca,dx,vs,n,by rw[ea];exact f1,f2,RepL.via sq _ _ f3⟩
    | exc C fr fs=>obtain ⟨Ca,dd,vs,n,f1,f0,f2,f3⟩:=hr;exact ⟨Ca,dd,vs,n,by rw[ea];exact f1,f0.stay fun b o ws q=>th.stay q fun _ _ z=>(nomatch z),f2,RepL.via sq _ _ f3⟩
 ·obtain ⟨ps,e,tr,k⟩:=A'.tab nm hnm c P e
  refine ⟨ps,th.stay e fun _ _ z=>(nomatch z),tr,fun pos cv ec=>?_⟩
  obtain ⟨c,oc,vs,t,e1,e2,r⟩:=k pos cv ec
  exact ⟨c,oc,vs,t,e1,th.stay e2 fun _ _ z=>(nomatch z),r⟩
noncomputable def Xc(f:FE):FE:=fun δ L=>(f δ L).map fun p=>(p.1,El L p.2)
theorem Ab4{f:FE}(h:PEF X e f):PEF X e (Xc f):=by
 refine PE.imp (Ah6 h) ?_
 rintro σ H Q ⟨α,δ,L,A,S,z,L3,e,q⟩
 obtain ⟨⟨z',L1⟩,e1,e⟩:=aH.mp e
 cases e
 refine ⟨α,δ,L,A,S,z',L1,e1,fun v H1 α1 g1 A1 r1=>?_⟩
 obtain ⟨H2,th,g2,A2,r2⟩:=Afm A g1 A1
 exact ⟨H2,th,q v H2 α1 g2 A2 (r2 _ _ r1)⟩
structure DObj(P:cX)(w:eG)(o:Obj)(kvs:List (Key×V))(vs:List (Key×aG))(ep:Nat):Prop where
 rel:KV kvs vs
 at_:∀ (h:Heap) (d:Addr),h.get? d=some o->h.DictAt (B7 P w) d vs ep
noncomputable def Itv(d:Addr)(o:Obj)(xs:List V):It:=⟨fun i H=>(∃ u,H d=some (.frz o u))/\i < xs.length,fun i H x H'=>H'=H/\xs[i]? = some x,fun i H=>(∃ u,H d=some (.frz o u))/\xs.length<=i⟩
theorem Ai8{P:cX}{w:eG}{k:Key}{v:aG}(h:(B7 P w).is k v=true):RelV (kV k) v:=by
 rw[Xp] at h
 rcases Ci h with ⟨i,t,rfl,rfl⟩ | ⟨x,t,rfl,rfl⟩
 ·exact ⟨t,rfl⟩
 ·exact ⟨t,rfl⟩
theorem KV.at_:∀ {kvs:List (Key×V)} {vs:List (Key×aG)} {i:Nat} {p:Key×aG},KV kvs vs->vs[i]? = some p->∃ q,kvs[i]? = some q/\q.1=p.1/\RelV q.2 p.2
 | _,_,i,p,.nil,e=>by simp at e
 | _,_,0,p,.cons r t,e=>by simp at e;subst e;exact ⟨_,rfl,r⟩
 | _,_,i+1,p,.cons r t,e=>by simpa using KV.at_ (i:=i) t (by simpa using e)
variable {tg:Expr}
section
variable {P:cX}{w:eG}{d it:Addr}{o:Obj}{vs:List (Key×aG)}{ep:Nat}
theorem Ack(D:DObj P w o kvs vs ep):Turn P w K tg (Itv d o (kvs.map fun kv=>kV kv.1)) [it] it (fun i h=>h.IsKeyIter it d i vs.length ep) where
 mem:=by simp
 obj:=fun i h st b hb=>by
  have e:b=it:=by simpa using hb
  subst e
  obtain ⟨o,e,c,d⟩:=st
  exact ⟨o,e,fun v z=>by rw[d] at z;cases z⟩
 keep:=fun i h h' st k=>st.at fun o e=>k it (by simp) o e
 item:=by
  intro X hP hw hK hc i pins s σ H E I hf st hg
  subst hP hw hK
  obtain ⟨⟨u,hd⟩,hi⟩:=hg
  have da:=D.at_ s.heap d (I.hok d _ hd).1
  have hl:=KV.length D.rel
  have hi':i < vs.length:=by rw[<- hl];simpa using hi
  obtain ⟨⟨k,x⟩,hx⟩:∃ p,vs[i]? = some p:=⟨vs[i],by simp[hi']⟩
  obtain ⟨q,hq,q1,q2⟩:=KV.at_ D.rel hx
  obtain ⟨f0,f1,f2,f3,f4,f5⟩:=hf it (by simp)
  refine wpAny_pyNext_dict_item st da hx fun key h' hkey st' sb=>?_
  have I1:L2.Inv X pins σ H { s with heap:=h' }:=I.turned (t':=s.toks) (fun b o hb e=>(sb.2 b hb).trans e) f0 f1 f3 f4 f5
  refine ⟨key,rfl,letGo_keyiter (s':={ s with heap:=h' }) st' ⟨kV k,H,I1,Ai8 hkey,⟨rfl,?_⟩,st',fun b hb=>(hf b hb).1⟩⟩
  rw[bO,hq]
  simp only[aC,q1]
 done:=by
  intro X hP hw hK hc i pins s σ H E I hf st hg
  subst hP hw hK
  obtain ⟨⟨u,hd⟩,hi⟩:=hg
  have da:=D.at_ s.heap d (I.hok d _ hd).1
  have hl:=KV.length D.rel
  obtain ⟨f0,f1,f2,f3,f4,f5⟩:=hf it (by simp)
  exact wpAny_pyNext_dict_end (I.ok.hd hc) st da (eS (by rw[<- hl];simpa using hi)) fun h' eb=>⟨rfl,I.turned (t':=s.toks) (fun b o hb e=>eb b o hb e) f0 f1 f3 f4 f5⟩
 self:=fun _ _ _ _ _ st h=>wpAny_pyIter_keyiter st h
end
section
variable {o:Expr}{apos cpos:Pos}{td:TE}
structure M0(X:Cx)(o:Expr)(m:Str)(apos cpos:Pos):Prop where
 base:attributeBase o m X.env (eval o X.env)=eval o X.env
 few:((backTo cpos (bQ [] X.env)).all (fun x=>!x.1)&&(backToKw cpos (keywordEach [] X.env)).all (fun x=>x.1.isSome)
  && decide (([]:List Expr).length+([]:List jJ).length+(if ([]:List jJ).isEmpty then 0 else 1) < 30))=true
 line:(apos.endLine == cpos.line)=true
 trees:backTo cpos (bQ [] X.env)=[]
theorem U0(I:L2.Inv X pins σ H s)(e:H a=some (.dK kvs)) :
  (a == sysModules)=false/\∃ ob vs ep,s.heap.get? a=some ob/\DObj X.prog X.w ob kvs vs ep:=by
 obtain ⟨z,hd,vs,rel,ob,es,ep,h1,h2⟩:=Agh I.hok e
 exact ⟨hd,ob,vs,ep,h1,rel,fun h d hg=>⟨ob,es,hg,h2⟩⟩
noncomputable def Ao8(td:TE):TI:=fun σ H R=>td σ H fun x H1=>∃ a kvs,x = .ref a/\H1 a=some (.dK kvs)/\∀ ob,R (Itv a ob (kvs.map fun kv=>kV kv.1)) (upd H1 a (.frz ob (.dK kvs)))
theorem Ai6{ob:Obj}(I:L2.Inv X pins σ H s)(e:H a=some (.dK kvs)) :
  ∀ b∈[s.heap.objs.size],Gv X pins (upd H a (.frz ob (.dK kvs))) b:=fun b hb=>by
 have q:b=s.heap.objs.size:=by simpa using hb
 subst q
 have hn:=I.hok.fresh (aS _)
 exact L2.Inv.fpOk I (aS _) (by rw[Ap (fun z=>by rw[z,e] at hn;cases hn)];exact hn)
theorem Aht(hl:PE X o td):PI X tg o (Ao8 td):=by
 intro pins s σ H R I h
 refine thn (hl pins s σ H _ I h) fun v s1 zz=>zz.elim fun x H1 I1 r1 zq=>?_
 obtain ⟨a,kvs,ex,ea,q⟩:=zq
 subst ex
 obtain rfl:v=eD a:=r1
 obtain ⟨hd,ob,vs,ep,ho,D⟩:=U0 I1 ea
 have da:=D.at_ _ _ ho
 refine wpAny_pyIter_dict hd da ?_
 have I2:L2.Inv X pins σ H1 { s1 with heap:=s1.heap.push { cls:=.type "dict_keyiterator",data:=.fields #[.ref a,.int 0 0,.int vs.length 0,.int ep 0] } }:=I1.kept (t':=s1.toks) fun b o e=>aE _ e
 exact ⟨s1.heap.objs.size,[s1.heap.objs.size],_,_,_,rfl,Inv.freeze I2 ea (aE _ ho),Ack D,⟨_,bE _ rfl,rfl,rfl⟩,Ai6 I1 ea,q ob⟩
end
noncomputable def kU:Key->U
 | .inl i=>.int i
 | .inr x=>.str x
theorem Ams(k:Key):RepU K H α (kU k) (kV k):=by
 cases k <;> (unfold RepU kU kV;rfl)
noncomputable def O8(kvs:List (Key×U)):List U:=kvs.map fun kv=>kU kv.1
noncomputable def T7(kvs:List (Key×U)):List U:=kvs.map fun kv=>kv.2
noncomputable def Rc(v:List (Key×U)->List U)(f:FE):FI:=fun δ L=>(f δ L).bind fun p=>match p.1 with
 | .ref n=>(Ft p.2 n).map fun kvs=>(.seq (v kvs),p.2.set n (.rod kvs))
 | _=>none
section
variable {L:UH}{ob:Obj}
theorem Sm:∀ {kvs:List (Key×U)} {vs:List (Key×V)},RepKV K H α kvs vs->RepL K H α (O8 kvs) (vs.map fun kv=>kV kv.1)
 | [],vs,r=>by
  have:=r.1
  cases vs with
  | nil=>exact .nil
  | cons _ _=>simp at this
 | kv::kvs,vs,r=>by
  obtain ⟨x,vs',rfl,rx,r'⟩:=r.cons
  exact .cons (Ams _) (Sm r')
theorem Ajn{u:HO}{us:List U}{xs:List V}(e:H a=some (.frz ob u))(r:RepL K H α us xs):Nx K (Itv a ob xs) (.seq us) H α:=by
 intro H2 α2 L2 g A2 k
 have e2:=g.st.2 _ _ _ e
 have r2:=r.mono g
 refine ⟨fun w eu=>?_,fun eu=>?_⟩
 ·have eu:us[k]? = some w:=by simpa[IU.at] using eu
  obtain ⟨x,hx,rx⟩:=r2.get eu
  refine ⟨⟨⟨u,e2⟩,(aF.mp hx).1⟩,?_⟩
  rintro y H3 ⟨rfl,hy⟩
  rw[hx] at hy;cases hy
  exact ⟨.refl _ _,A2,rx⟩
 ·have eu:us[k]? = none:=by simpa[IU.at] using eu
  exact ⟨⟨u,e2⟩,by rw[<- r2.length];exact cV.mp eu⟩
theorem Y9{n:Nat}{kvs:List (Key×U)}{vs:List (Key×V)}(A:Abs K H α L)(h:Ft L n=some kvs)(ea:α[n]? = some a)(e:H a=some (.dK vs))(r:RepKV K H α kvs vs)(ob:Obj) :
  Gr H α (upd H a (.frz ob (.dK vs))) α/\Abs K (upd H a (.frz ob (.dK vs))) α (L.set n (.rod kvs)):=by
 have g:Gr H α (upd H a (.frz ob (.dK vs))) α:=⟨⟨[],by simp⟩,.write e (by exact trivial) _⟩
 obtain ⟨A',_⟩:=A.put (o:=.frz ob (.dK vs)) (u:=.rod kvs) ea (Mq h) rfl rfl e (by exact trivial) ⟨ob,vs,upd_same,(r.mono g).1,(r.mono g).2⟩
 exact ⟨g,A'⟩
end
section
variable {o:Expr}{apos cpos:Pos}{fo:FE}
theorem Acp{v:List (Key×U)->List U}{J:Addr->Obj->List (Key×V)->It}(hJ:∀ (H:Hp) (α:List Addr) (a:Addr) (ob:Obj) (u:HO) (kvs:List (Key×U)) (vs:List (Key×V)),H a=some (.frz ob u)->RepKV X.K H α kvs vs->Nx X.K (J a ob vs) (.seq (v kvs)) H α)
  {σ:L2.St} {H:Hp} {R:It->Hp->Prop} (h:lI X.K (Rc v fo) σ H R):lE X.K fo σ H fun x H1=>∃ a kvs,x = .ref a/\H1 a=some (.dK kvs)/\∀ ob,R (J a ob kvs) (upd H1 a (.frz ob (.dK kvs))):=by
 obtain ⟨α,δ,L,A,S,i,L3,e,q⟩:=h
 obtain ⟨⟨u,L1⟩,e1,e⟩:=aB.mp e
 simp only at e
 split at e
 ·obtain ⟨kvs,hd,e⟩:=aH.mp e
  cases e
  refine ⟨α,δ,L,A,S,_,_,e1,fun x H1 α1 g1 A1 r1=>?_⟩
  obtain ⟨a,vs,rfl,ea,ha,rk⟩:=N2 A1 hd r1
  refine ⟨a,vs,rfl,ha,fun ob=>?_⟩
  obtain ⟨g2,A2⟩:=Y9 A1 hd ea ha rk ob
  exact q _ _ _ (g1.trans g2) A2 (hJ _ _ _ _ _ _ _ upd_same (rk.mono g2))
 ·cases e
noncomputable def Aok(a:Addr)(ob:Obj)(vs:List (Key×V)):It:=Itv a ob (vs.map fun kv=>kV kv.1)
theorem Vv(ho:PEF X o fo):PIF X tg o (Rc O8 fo):=
 PI.imp (Aht ho) fun _ _ _ h=>Acp (J:=Aok) (fun _ _ _ _ _ _ _ e r=>Ajn e (Sm r)) h
theorem Ws(k:Key):∀ kvs:List (Key×U),(kvs.find? fun kv=>decide (kv.1=k)).isSome=kvs.any fun kv=>decide (kv.1=k)
 | []=>rfl
 | kv::kvs=>by
  rw[dF,gF]
  by_cases h:kv.1=k
  ·simp[h]
  ·simp only[h,decide_false,sP]
   exact Ws k kvs
theorem RepKV.some{kvs:List (Key×U)}{vs:List (Key×V)}(r:RepKV K H α kvs vs)(k:Key):(Iz kvs k).isSome=(Mt vs k).isSome:=by
 have h1:(Iz kvs k).isSome=kvs.any fun kv=>decide (kv.1=k):=by
  unfold Iz
  rw[qH]
  exact Ws k kvs
 rw[h1,r.any,Q2]
end
noncomputable def Akv(kvs:List (Key×U))(k:Key):List (Key×U):=kvs.filter fun kv=>decide (kv.1≠k)
theorem RepKV.drop(k:Key):∀ {kvs:List (Key×U)} {vs:List (Key×V)},RepKV K H α kvs vs->RepKV K H α (Akv kvs k) (Aah vs k)
 | [],vs,r=>by
  have:=r.1
  cases vs with
  | nil=>exact .nil
  | cons _ _=>simp at this
 | kv::kvs,vs,r=>by
  obtain ⟨x,vs',rfl,rx,r'⟩:=r.cons
  unfold Akv Aah
  rw[kH,kH]
  by_cases h:kv.1=k
  ·simp only[h,ne_eq,not_true_eq_false,decide_false,bK,if_false]
   exact RepKV.drop k r'
  ·simp only[h,ne_eq,not_false_eq_true,decide_true,if_true]
   exact .mk rx (RepKV.drop k r')
end MR
namespace ZT
open PySem PySem.Spec PyProof.Rows PySem.W
open Sem (wp)
section
variable {prog:cX}{w:eG}{A:eE}{E:aG->aR->Prop}{s:aR}{T:String}{r d:Addr}{n:Nat}{P:Nat->aG->Prop}{OK:Heap->Prop}
end
end ZT
namespace MR
open PySem PySem.Spec PyProof.Rows PySem.Calls L2
theorem Vt:∀ {kvs:List (Key×V)} {vs:List (Key×aG)},KV kvs vs->Vals (kvs.map (·.2)) (vs.map (·.2))
 | _,_,.nil=>.nil
 | _,_,.cons r t=>.cons r.2 (Vt t)
theorem X9{vs:List (Key×aG)}{acc:Array aG}(h:ItemsOf (fun i v=>∃ k,vs[i]? = some (k,v)) acc vs.length):acc.toList=vs.map (·.2):=
 PySem.W.kdl_vals_eq acc.toList (by rw[dA];exact h.1) fun j v e=>h.2 j v (by rw[<- iU];exact e)
section
variable {X:Cx}{o:Expr}{apos cpos p pos:Pos}{td:TE}{fo:FE}
noncomputable def Al1(td:TE):TE:=fun σ H Q=>td σ H fun x H1=>∃ a kvs,x = .ref a/\H1 a=some (.dK kvs)/\∀ l,H1 l=none->Q (.ref l) (upd H1 l (.lst (kvs.map (·.2))))
theorem Agl(hc:X.calm=true)(hgL:Gl X "list")(hmL:X.mg "list" = none)(hl:PE X o td)(m:M0 X o "values" apos cpos)
  (hs2:bQ [.Call (.Attribute o "values" apos) [] [] cpos] X.env=[(false,eval (.Call (.Attribute o "values" apos) [] [] cpos) X.env)]:=by rfl):PE X (.Call (.Name "list" p) [.Call (.Attribute o "values" apos) [] [] cpos] [] pos) (Al1 td):=by
 intro pins s σ H Q I h
 refine dO (Fq I hgL hmL Q5 ?_)
 refine cY ?_ hs2 rfl
 rw[hs2]
 refine jN ?_
 refine qO m.base m.few m.line nF iA mW (thn (hl pins s σ H _ I h) fun u s1 zz=>zz.elim fun x H1 I1 rx zq=>?_)
 obtain ⟨a,kvs,ex,ea,q⟩:=zq
 subst ex
 obtain rfl:u=eD a:=rx
 obtain ⟨t1,t2,_⟩:=Af9 I1 (.inl ⟨kvs,.inl ea⟩)
 refine ⟨t1,t2,?_⟩
 rw[m.trees]
 obtain ⟨hd,ob,vs,ep,ho,D⟩:=U0 I1 ea
 have da:=D.at_ _ _ ho
 refine iK rfl (lC ?_)
 refine call_meetsIn iA t1 mE (lZ _) (qP (B7 X.prog X.w) a hd) ⟨⟨vs,da.dictOf⟩,?_⟩
 refine jW ?_
 have I2:L2.Inv X pins σ H1 { s1 with heap:=s1.heap.push { cls:=.type "dict_values",data:=.fields #[.ref a] } }:=I1.kept (t':=s1.toks) fun b o e=>aE _ e
 have hz:kvs.length<=sizeLine:=(Agh I1.hok ea).1
 have hl:=KV.length D.rel
 refine PySem.W.kdl_call (pX (knd:=B7 X.prog X.w) (kvs:=vs) (ep:=ep)) (I2.ok.hd hc) ⟨⟨_,bE _ rfl,rfl,rfl⟩,da.push _⟩ (by rw[<- hl];exact hz) fun h' tk acc c' hk hS hacc=>?_
 have hacc':=X9 hacc
 have hacc2:acc=(vs.map (·.2)).toArray:=by rw[<- hacc']
 have new:ObjOk X.prog X.w (upd H1 (s1.heap.push { cls:=.type "dict_values",data:=.fields #[.ref a] }).objs.size (.lst (kvs.map (·.2)))) h' (s1.heap.push { cls:=.type "dict_values",data:=.fields #[.ref a] }).objs.size (.lst (kvs.map (·.2))):=
  ⟨by rw[aQ];exact hz,vs.map (·.2),c',Vt D.rel,by rw[hS,hacc2]⟩
 exact ⟨.ref _,_,I2.laid (t':=tk) hk (aS _) new,rfl,q _ (I2.hok.fresh (aS _))⟩
noncomputable def U4(f:FE):FE:=fun δ L=>(f δ L).bind fun p=>match p.1 with
 | .ref n=>(Ft p.2 n).map fun kvs=>(.ref p.2.length,p.2++[.lst (T7 kvs)])
 | _=>none
theorem Aem(hc:X.calm=true)(hgL:Gl X "list")(hmL:X.mg "list" = none)(hl:PEF X o fo)(m:M0 X o "values" apos cpos)
  (hs2:bQ [.Call (.Attribute o "values" apos) [] [] cpos] X.env=[(false,eval (.Call (.Attribute o "values" apos) [] [] cpos) X.env)]:=by rfl):PEF X (.Call (.Name "list" p) [.Call (.Attribute o "values" apos) [] [] cpos] [] pos) (U4 fo):=by
 refine PE.imp (Agl hc hgL hmL hl m hs2) ?_
 rintro σ H Q ⟨α,δ,L,A,S,u,L3,e,q⟩
 obtain ⟨⟨u,L1⟩,e1,e⟩:=aB.mp e
 simp only at e
 split at e
 ·obtain ⟨kvs,hd,e⟩:=aH.mp e
  cases e
  refine ⟨α,δ,L,A,S,_,_,e1,fun x H1 α1 g1 A1 r1=>?_⟩
  obtain ⟨a,vs,rfl,ea,ha,rk⟩:=N2 A1 hd r1
  refine ⟨a,vs,rfl,ha,fun l hl=>?_⟩
  obtain ⟨g',A',r'⟩:=A1.lst rk.2 hl
  exact q _ _ _ (g1.trans g') A' r'
 ·cases e
end
theorem Aev(a:aG):argsOk "max" ⟨[a],[]⟩:=by unfold argsOk;kernel_rfl
section
variable {X:Cx}{o:Expr}{apos cpos p pos:Pos}{td:TE}{fo:FE}
noncomputable def Ao1(td:TE):TE:=fun σ H Q=>td σ H fun x H1=>∃ a kvs ns,x = .ref a/\H1 a=some (.dK kvs)/\kvs.map (·.2)=ns.map V.int/\0 < ns.length/\Q (.int (Ks ns)) H1
theorem Aid(hc:X.calm=true)(hgL:Gl X "max")(hmL:X.mg "max" = none)(hl:PE X o td)(m:M0 X o "values" apos cpos)
  (hs2:bQ [.Call (.Attribute o "values" apos) [] [] cpos] X.env=[(false,eval (.Call (.Attribute o "values" apos) [] [] cpos) X.env)]:=by rfl):PE X (.Call (.Name "max" p) [.Call (.Attribute o "values" apos) [] [] cpos] [] pos) (Ao1 td):=by
 intro pins s σ H Q I h
 refine dO (Fq I hgL hmL gT ?_)
 refine iE ?_ hs2 rfl
 rw[hs2]
 refine jN ?_
 refine qO m.base m.few m.line nF iA mW (thn (hl pins s σ H _ I h) fun u s1 zz=>zz.elim fun x H1 I1 rx zq=>?_)
 obtain ⟨a,kvs,ns,ex,ea,hns,hne,q⟩:=zq
 subst ex
 obtain rfl:u=eD a:=rx
 obtain ⟨t1,t2,_⟩:=Af9 I1 (.inl ⟨kvs,.inl ea⟩)
 refine ⟨t1,t2,?_⟩
 rw[m.trees]
 obtain ⟨hd,ob,vs,ep,ho,D⟩:=U0 I1 ea
 have da:=D.at_ _ _ ho
 refine iK rfl (lC ?_)
 refine call_meetsIn iA t1 mE (lZ _) (qP (B7 X.prog X.w) a hd) ⟨⟨vs,da.dictOf⟩,?_⟩
 refine jW ?_
 have I2:L2.Inv X pins σ H1 { s1 with heap:=s1.heap.push { cls:=.type "dict_values",data:=.fields #[.ref a] } }:=I1.kept (t':=s1.toks) fun b o e=>aE _ e
 have hl:=KV.length D.rel
 have hname:(toString "max" ++ toString ".loop" : String) = "max.loop" := by decide
 have hh:=I2.ok.hd hc
 have KS:=pX (prog:=X.prog) (w:=X.w) (knd:=B7 X.prog X.w) (kvs:=vs) (ep:=ep) (r:=s1.heap.objs.size) (d:=a)
 have hok:(s1.heap.push { cls:=.type "dict_values",data:=.fields #[.ref a] }).IsValuesView s1.heap.objs.size a/\(s1.heap.push { cls:=.type "dict_values",data:=.fields #[.ref a] }).DictAt (B7 X.prog X.w) a vs ep:=⟨⟨_,bE _ rfl,rfl,rfl⟩,da.push _⟩
 generalize hHp:s1.heap.push { cls:=.type "dict_values",data:=.fields #[.ref a] } = hp at I2 hok
 have hvr:∀ (i:Nat) (v:aG),(∃ k,vs[i]? = some (k,v))->∃ t,v = .int (ns.getD i 0) t:=by
  rintro i v ⟨k,e⟩
  have hv:(vs.map (·.2))[i]? = some v:=by rw[bO,e];rfl
  have rel:=Vt D.rel
  rw[hns] at rel
  have hi:i < ns.length:=by
   have:=(aF.mp hv).1
   have h2:=rel.length
   rw[aQ] at h2
   omega
  obtain ⟨u,hu,ru⟩:=rel.get (i:=i) (x:=.int ns[i]) (by rw[bO,aL hi];rfl)
  rw[hv] at hu;cases hu
  obtain ⟨t,rfl⟩:=ru
  exact ⟨t,by rw[aP,aL hi];rfl⟩
 have hnl:vs.length=ns.length:=by
  have:=congrArg eW hns
  rw[aQ,aQ] at this
  omega
 refine kmk_tree PySem.F.kind_max PySem.F.plain_max PySem.F.entry_max (Aev _) ?_
 show wpAny _ X.A.in1 (gC "max" ["key","default"] 0 ⟨[],[]⟩ >>= _) _ _ _
 refine aD (rO (show gC "max" ["key","default"] 0 ⟨[],[]⟩=pure [none,none] from rfl) ?_)
 refine aD (bC ?_)
 obtain ⟨oI,St,hit,W,st⟩:=KS.iter X.A.in1 { s1 with heap:=hp } hh hok
 refine aD (hit _ _ ?_)
 refine aD (mU ?_ (gE _))
 rw[hname]
 refine bC ⟨jI PySem.F.plain_max_loop _,?_⟩
 have hlt:a < hp.objs.size:=(KS.there _ hok).2
 have hS:(hp.push oI).objs.size=hp.objs.size+1:=size_push' ..
 refine codeAny_max_loop_first (W:=W) (fun i j=>decide (ns.getD i 0 > ns.getD j 0)) (CmpOf.ints_gt (fun i=>ns.getD i 0) hvr) (hp.push oI).objs.size ?_ (by omega) (W.frame _ _ _ st fun b _ o e=>aE _ e) (bE _ rfl) fun v h' tk hv hk=>?_
 ·rw[hS]
  simp only[bH,eB,or_false,not_or]
  exact ⟨Nat.succ_ne_self _,iI (jZ hlt)⟩
 ·obtain ⟨t,rfl⟩:=hvr _ v hv
  obtain ⟨h1,h2⟩:=argBest_gt (fun i=>ns.getD i 0) (vs.length - 1)
  have e:Ks ns=ns.getD (argBest (fun i j=>decide (ns.getD i 0 > ns.getD j 0)) (vs.length - 1)) 0:=by
   refine Nc ns _ (getD_mem (by omega)) fun b hb=>?_
   obtain ⟨j,hj,rfl⟩:=mem_getD hb
   exact h2 j (by omega)
  refine ⟨.int (Ks ns),H1,I2.kept (t':=tk) fun b o eb=>?_,⟨t,by rw[e]⟩,q⟩
  refine hk b o (fun z=>?_) (fun z=>?_) (aE _ (aE _ eb))
  ·rw[cB.mp z] at eb
   exact absurd (bF eb) (bZ _)
  ·rw[z,hS] at eb
   exact absurd (bF eb) (by show ¬ (hp.objs.size+1 < hp.objs.size);omega)
noncomputable def Wr(f:FE):FE:=fun δ L=>(f δ L).bind fun p=>match p.1 with
 | .ref n=>(Ft p.2 n).bind fun kvs=>(mapO toI (T7 kvs)).bind fun ns=>if 0 < ns.length then some (.int (Ks ns),p.2) else none
 | _=>none
theorem Ah5(hc:X.calm=true)(hgL:Gl X "max")(hmL:X.mg "max" = none)(hl:PEF X o fo)(m:M0 X o "values" apos cpos)
  (hs2:bQ [.Call (.Attribute o "values" apos) [] [] cpos] X.env=[(false,eval (.Call (.Attribute o "values" apos) [] [] cpos) X.env)]:=by rfl):PEF X (.Call (.Name "max" p) [.Call (.Attribute o "values" apos) [] [] cpos] [] pos) (Wr fo):=by
 refine PE.imp (Aid hc hgL hmL hl m hs2) ?_
 rintro σ H Q ⟨α,δ,L,A,S,u,L3,e,q⟩
 unfold Wr at e
 obtain ⟨⟨u,L1⟩,e1,e⟩:=aB.mp e
 simp only at e
 split at e
 ·obtain ⟨kvs,hd,e⟩:=aB.mp e
  obtain ⟨ns,hn,e⟩:=aB.mp e
  split at e
  ·rename_i hne
   cases e
   refine ⟨α,δ,L,A,S,_,_,e1,fun x H1 α1 g1 A1 r1=>?_⟩
   obtain ⟨a,vs,rfl,ea,ha,rk⟩:=N2 A1 hd r1
   exact ⟨a,vs,ns,rfl,ha,Gi rk.2 hn,hne,q _ H1 α1 g1 A1 rfl⟩
  ·cases e
 ·cases e
end
end MR
namespace MR
open PySem PySem.Spec PyProof.Rows L2
noncomputable def Ae8(L:UH)(n:Nat):Option (List (Key×U)):=match L[n]? with
 | some (.dic kvs)=>some kvs
 | some (.rod kvs)=>some kvs
 | _=>none
theorem Afs{K:aJ}{H:Hp}{α:List Addr}{L:UH}{n:Nat}{x:V}{kvs:List (Key×U)}(A:Abs K H α L)(h:Ae8 L n=some kvs)(r:RepU K H α (.ref n) x):∃ a vs,x = .ref a/\α[n]? = some a/\Rd H a (.dK vs)/\RepKV K H α kvs vs:=by
 unfold RepU at r
 obtain ⟨a,ea,rfl⟩:=r
 unfold Ae8 at h
 split at h
 ·rename_i kvs' e
  cases h
  obtain ⟨vs,q,k1,k2⟩:=A.rep n a _ ea e
  exact ⟨a,vs,rfl,ea,.inl q,k1,k2⟩
 ·rename_i kvs' e
  cases h
  obtain ⟨o,vs,q,k1,k2⟩:=A.rep n a _ ea e
  exact ⟨a,vs,rfl,ea,.inr ⟨o,q⟩,k1,k2⟩
 ·cases h
section
variable {X:Cx}{o i e f:Expr}{pos apos cpos:Pos}{fo fi fe fx:FE}
noncomputable def G3(fo fi:FE):FE:=fun δ L=>(fo δ L).bind fun p=>(fi δ p.2).bind fun q=>match p.1 with
 | .ref n=>(toK q.1).bind fun k=>(Ae8 q.2 n).bind fun kvs=>(Iz kvs k).map fun u=>(u,q.2)
 | _=>none
theorem Gh(hu:X.A.units+64 < cLine)(ho:PEF X o fo)(hi:PEF X i fi)(hs:Aiv i):PEF X (.Subscript o i pos) (G3 fo fi):=by
 refine PE.imp (Aaf (by omega) ho hi hs) ?_
 rintro σ H Q ⟨α,δ,L,A,S,z,L3,e,q⟩
 obtain ⟨⟨u,L1⟩,e1,e⟩:=aB.mp e
 obtain ⟨⟨w,L2⟩,e2,e⟩:=aB.mp e
 refine ⟨α,δ,L,A,S,u,L1,e1,fun x H1 α1 g1 A1 r1=>⟨α1,δ,L1,A1,S.mono g1,w,L2,e2,fun y H2 α2 g2 A2 r2=>?_⟩⟩
 simp only at e
 split at e
 ·obtain ⟨k,hk,e⟩:=aB.mp e
  obtain ⟨kvs,hd,e⟩:=aB.mp e
  obtain ⟨v,hv,e⟩:=aH.mp e
  cases e
  obtain ⟨a,vs,rfl,ea,ha,rk⟩:=Afs A2 hd (r1.mono g2)
  obtain ⟨x',hx',rx'⟩:=rk.val hv
  exact ⟨a,x',rfl,.inl ⟨vs,k,ha,Yh r2 hk,hx'.symm⟩,q _ _ _ (g1.trans g2) A2 rx'⟩
 ·cases e
end
end MR
namespace MR
open PySem PySem.Spec PyProof.Rows PySem.Calls L2
section
variable {X:Cx}
end
end MR
namespace MR
open PySem PyProof.Rows L2
theorem Qv:∀ L:UH,El L L=L
 | []=>by unfold El;rfl
 | x::L=>by cases x <;> simp[El,Qv L]
theorem Tp:∀ (L L' x:UH),L.length=L'.length->El L (L'++x)=El L L'++x
 | [],[],x,_=>by simp[El]
 | [],y::L',x,h=>by simp at h
 | a::L,[],x,h=>by simp at h
 | a::L,y::L',x,h=>by
  have:=Tp L L' x (by simpa using h)
  cases a <;> cases y <;> simp[El,this]
theorem Uj:∀ (L:UH) (n:Nat) (kvs:List (Key×U)),L[n]? = some (.dic kvs)->El L (L.set n (.rod kvs))=L
 | [],n,kvs,h=>by simp at h
 | x::L,0,kvs,h=>by
  simp at h;subst h
  simp[El,Qv]
 | x::L,n+1,kvs,h=>by
  have:=Uj L n kvs (by simpa using h)
  cases x <;> simp[El,this]
theorem Ais{v:List (Key×U)->List U}{fo:FE}{δ:UE}{L:UH}{n:Nat}{kvs:List (Key×U)}(hf:fo δ L=some (.ref n,L))(hn:L[n]? = some (.dic kvs)):Rc v fo δ L=some (.seq (v kvs),L.set n (.rod kvs)):=by
 have hd:Ft L n=some kvs:=by unfold Ft;rw[hn]
 unfold Rc
 rw[hf]
 simp only[aA,hd,aC]
end MR
namespace Lw
open PySem L2 MR
noncomputable def Ul:FS:=(A9 (Fm (By (f2 B2 (fSl Ho (Ad 0) (Fd (fC (.int 1))) Cg) (fSl Ho (Ad 1) (Fd (fC (.int 1))) Cg))) (Dj (fC (.bl false))) C1) (Dj (Sk (f2 Ui (f2 Am (Ad 0) (fC (.int 1))) (f2 Am (Ad 1) (fC (.int 1)))) (f2 Ui (f2 Am (Ad 0) (fC (.int 2))) (f2 Am (Ad 1) (fC (.int 2)))))))
noncomputable def Ey:FN:=fnU 2 2 Ul
noncomputable def Ej:FE:=(Ad 0)
noncomputable def C8:FT:=(By (f2 (Ww true) (Ad 0) (Ad 1)))
noncomputable def Eg:FE:=(Ad 0)
noncomputable def C3:FT:=(Ij (Be 2 Ey (Ac (f2 Am (Ad 1) (Ad 0)) (Ac (f2 Am (Ad 1) (Ad 2)) Af))))
noncomputable def Eh:FE:=(Ad 0)
noncomputable def C4:FT:=(By (f2 B2 (Bk [none,some 2,some 0] (Bg (Ad 1)) (gN 0) (some C3) Eg) (Cs Af)))
noncomputable def Ef:FT:=(By (f2 Dl (Ad 1) (Cs Af)))
noncomputable def G6:FS:=(A9 (Ba (Bk [none,some 1,some 0] (Bg (Ad 1)) (gN 0) (some C4) Eh) (gN 3)) (A9 (Jp (Ep "list" Hv (Ad 2) (Ac (Ad 3) Af))) (Ba (Bk [none,some 3] (Bg (Ad 1)) (gN 0) (some C8) Ej) (gN 1))))
noncomputable def K9:FS:=(A9 (Ba (Vs (Ac (Az Aq (Ac (Ad 0) Af)) Af)) (gN 1)) (A9 (Ba (Cs Af) (gN 2)) (A9 (Fz Ef G6 100000) (Dj (Ad 2)))))
noncomputable def Gs:FN:=fnU 4 1 K9
noncomputable def K7:FE:=(f2 Am (f2 Am (Ad 1) (Ad 0)) (fC (.int 0)))
noncomputable def Ku:FE:=(G3 (Ad 1) (Ad 0))
noncomputable def Fy:FT:=(By (f2 B2 (Az Aq (Ac (G3 (Ad 1) (Ad 0)) Af)) (Ad 2)))
noncomputable def La:FE:=(Ad 0)
noncomputable def Kz:FT:=(By (f2 B2 (Az Aq (Ac (Ad 0) Af)) (Ad 1)))
noncomputable def Ls:FE:=(Az Aq (Ac (Ad 0) Af))
noncomputable def Lk:FE:=(G3 (Ad 1) (Ad 0))
noncomputable def K6:FE:=(Ad 0)
noncomputable def Lf:FT:=(Ij (Be 2 Ey (Ac (f2 Am (Ad 1) (Ad 2)) (Ac (f2 Am (Ad 1) (Ad 0)) Af))))
noncomputable def Fg:FS:=(A9 (Ba (Bk [none,some 0,some 4] (Dc (Ac (Az Aq (Ac (Ad 0) Af)) Af)) (gN 0) (some Lf) K6) (gN 9)) (A9 (Ba (Bk [none,some 8] (Bg (Ad 9)) (gN 0) none Lk) (gN 10)) (A9 (Ba (Az Kg (Ac (f2 Aw (Cs (Ac (fC (.int 0)) Af)) (Bk [none] (Bg (Ad 10)) (gN 0) none Ls)) Af)) (gN 11)) (Pj (Ad 8) (Ad 4) (f2 Aw (Ec (Ac (Ad 4) Af)) (Pd (f2 Aw (Bk [none,some 11] (Bg (Ad 10)) (gN 0) (some Kz) La) (f2 Bi (Cs (Ac (Ec Af) Af)) (Az Jz (Ac (f2 B2 (Ad 11) (fC (.int 0))) Af))))))))))
noncomputable def Lc:FE:=(G3 (Ad 1) (Ad 0))
noncomputable def Gp:FT:=(By (f2 B2 (G3 (Ad 2) (Ad 0)) (Ad 3)))
noncomputable def Hi:FE:=(G3 (Ad 1) (Ad 0))
noncomputable def Dz:FT:=(By (f2 B2 (G3 (Ad 2) (Ad 0)) (f2 Mo (G3 (Ad 2) (Ad 3)) (fC (.int 1)))))
noncomputable def Kq:FE:=(G3 (Ad 1) (Ad 0))
noncomputable def Kr:FE:=(Ad 0)
noncomputable def Kp:FT:=(Ij (Be 2 Ey (Ac (f2 Am (Ad 1) (Ad 0)) (Ac (f2 Am (Ad 1) (Ad 2)) Af))))
noncomputable def Ff:FS:=(A9 (Ba (Bk [none,some 0,some 4] (Dc (Ac (Az Aq (Ac (Ad 0) Af)) Af)) (gN 0) (some Kp) Kr) (gN 5)) (A9 (Pj (Ad 1) (Ad 4) (f2 Aw (fC (.int 1)) (Az Kg (Ac (f2 Aw (Cs (Ac (fC (.int 0)) Af)) (Bk [none,some 1] (Bg (Ad 5)) (gN 0) none Kq)) Af)))) (Pj (Ad 2) (Ad 4) (Az Kg (Ac (fC (.int 1)) (Ac (Az E7 (Ac (Bk [none,some 2,some 1,some 4] (Bg (Ad 5)) (gN 0) (some Dz) Hi) Af)) Af))))))
noncomputable def Pt:FS:=(A9 (Ba Kw (gN 1)) (A9 (Ba Kw (gN 2)) (A9 (Ba (Be 1 Gs (Ac (Ad 0) Af)) (gN 3)) (A9 (Jh (Bg (Ad 3)) (gN 4) Ff) (A9 (Ba (Wr (Ad 1)) (gN 6)) (A9 (Ba (Az E7 (Ac (Xc (Bk [none,some 2,some 1,some 6] (Rc O8 (Ad 1)) (gN 0) (some Gp) Lc)) Af)) (gN 7)) (A9 (Ba Kw (gN 8)) (A9 (Jh (Bg (Aet (Ad 3))) (gN 4) Fg) (A9 (Ba (Pd (Xc (Bk [none,some 8,some 6] (Rc O8 (Ad 8)) (gN 0) (some Fy) Ku))) (gN 12)) (Dj (Ec (Ac (Ad 6) (Ac (Ad 7) (Ac (Az C5 (Ac (Bk [none,some 0] (Bg (Ad 12)) (gN 0) none K7) Af)) Af))))))))))))))
noncomputable def Hf:FN:=fnU 13 1 Pt
noncomputable def Dh:FS:=(Fm (Ij (Be 2 Ey (Ac (f2 Am (Ad 0) (f2 Am (Ad 3) (Qs (fC (.int 1))))) (Ac (f2 Am (Ad 0) (Ad 4)) Af)))) (Jp (Ep "list" Cy (Ad 2) (Ac (f2 Aw (Ad 3) (Ec (Ac (Ad 4) Af))) Af))) C1)
noncomputable def Ei:FT:=(By (f2 Dl (Ad 2) (Cs Af)))
noncomputable def G9:FS:=(A9 (Ba (Ep "list" Mb (Ad 2) Af) (gN 3)) (A9 (Jp (Ep "list" Cy (Ad 1) (Ac (Ad 3) Af))) (Jh (Dc (Ac (Az Aq (Ac (Ad 0) Af)) Af)) (gN 4) Dh)))
noncomputable def Gx:FE:=(Ec (Ac (Ad 0) Af))
noncomputable def K0:FS:=(A9 (Ba (Cs Af) (gN 1)) (A9 (Ba (Bk [none] (Dc (Ac (Az Aq (Ac (Ad 0) Af)) Af)) (gN 0) none Gx) (gN 2)) (A9 (Fz Ei G9 100000) (Dj (Ad 1)))))
noncomputable def Gu:FN:=fnU 5 1 K0
noncomputable def Kn:FE:=(f2 Am (f2 Am (Ad 1) (Ad 0)) (fC (.int 0)))
noncomputable def Ko:FE:=(Ad 0)
noncomputable def Fh:FT:=(By (f2 B2 (Az Aq (Ac (Ad 0) Af)) (Ad 1)))
noncomputable def Km:FE:=(Az Aq (Ac (Ad 0) Af))
noncomputable def Nj:FS:=(A9 (Ba (Be 1 Gu (Ac (Ad 0) Af)) (gN 1)) (A9 (Ba (Az Kg (Ac (Bk [none] (Bg (Ad 1)) (gN 0) none Km) Af)) (gN 2)) (A9 (Ba (Bk [none,some 2] (Bg (Ad 1)) (gN 0) (some Fh) Ko) (gN 3)) (Dj (Ec (Ac (Ad 2) (Ac (Az Aq (Ac (Ad 3) Af)) (Ac (Az C5 (Ac (Bk [none,some 0] (Bg (Pd (Ad 3))) (gN 0) none Kn) Af)) Af))))))))
noncomputable def Gm:FN:=fnU 4 1 Nj
noncomputable def Gy:FS:=(A9 (Ba (Be 2 Dv (Ac (Ad 0) (Ac (Ad 2) Af))) (gN 6)) (A9 (Ba (Be 2 Dv (Ac (Ad 0) (Ac (Ad 2) Af))) (gN 7)) (A9 (Fm (By (f2 B2 (Ad 3) (fC (.int 1)))) (Ba (f2 Aw (Ad 6) (f2 Bi (Be 2 Ax (Ac (Ad 0) (Ac (fC (.int 3)) Af))) (Az Jz (Ac (f2 Js (Az Jy (Ac (Ad 6) Af)) (f2 Hh (fC (.int 10)) (fC (.int 9)))) Af)))) (gN 7)) C1) (A9 (Fm (By (f2 B2 (Ad 3) (fC (.int 2)))) (Ba (f2 Mo (fC (.int 0)) (Ad 6)) (gN 7)) C1) (A9 (Fm (U3 (By (f2 Dl (Ad 4) (Cs Af))) (By (f2 B2 (Be 2 Ax (Ac (Ad 0) (Ac (fC (.int 5)) Af))) (fC (.int 0))))) (Ba (fSl Ho (f2 Am (Ad 4) (Be 2 Ax (Ac (Ad 0) (Ac (Az Aq (Ac (Ad 4) Af)) Af)))) (Fd (fC (.int 1))) Cg) (MR.gTup 2 (MR.gCons (gN 6) (MR.gCons (gN 7) MR.gNil)))) C1) (A9 (Fm (U3 (By (f2 Dl (Ad 4) (Cs Af))) (By (f2 B2 (Be 2 Ax (Ac (Ad 0) (Ac (fC (.int 5)) Af))) (fC (.int 0))))) (Ba (f2 Am (f2 Am (Ad 4) (Be 2 Ax (Ac (Ad 0) (Ac (Az Aq (Ac (Ad 4) Af)) Af)))) (fC (.int 1))) (gN 6)) C1) (Jp (Ep "list" Cy (Ad 4) (Ac (Ec (Ac (Ad 5) (Ac (Ad 6) (Ac (Ad 7) Af)))) Af)))))))))
noncomputable def Sd:FS:=(A9 (Ba (Be 2 Ax (Ac (Ad 0) (Ac (fC (.int 3)) Af))) (gN 2)) (A9 (Ba (Be 2 Ax (Ac (Ad 0) (Ac (fC (.int 4)) Af))) (gN 3)) (A9 (Ba (Cs Af) (gN 4)) (A9 (Jh (Bg (Be 2 Hu (Ac (Ad 0) (Ac (Be 2 Ax (Ac (Ad 0) (Ac (f2 Aw (Ad 1) (fC (.int 1))) Af))) Af)))) (gN 5) Gy) (Dj (Az C5 (Ac (Ad 4) Af)))))))
noncomputable def Kj:FN:=fnU 8 2 Sd
noncomputable def Po(R:FN):FE:=(fC (.int 1))
noncomputable def Ip(R:FN):FT:=(Pu (Ij (Be 2 R (Ac (Ad 0) (Ac (Ad 1) Af)))))
noncomputable def Hg(R:FN):FS:=(A9 (Fm (By (f2 (Pq false) (Ad 1) (fC .non))) (Dj (f2 (Pq false) (Ad 0) (fC .non))) C1) (A9 (Fm (Ij (Xg "tuple" (Ad 1))) (A9 (Fm (fOr (Pu (Ij (Xg "tuple" (Ad 0)))) (By (f2 Dl (Az Aq (Ac (Ad 0) Af)) (Az Aq (Ac (Ad 1) Af))))) (Dj (fC (.bl false))) C1) (Dj (f2 B2 (Bk [none,none] (R9 (Ac (Ad 0) (Ac (Ad 1) Af))) (MR.gTup 2 (MR.gCons (gN 0) (MR.gCons (gN 1) MR.gNil))) (some (Ip R)) (Po R)) (Cs Af)))) C1) (A9 (Fm (Ij (Xg "str" (Ad 1))) (Dj (Sk (Xg "str" (Ad 0)) (f2 B2 (Ad 0) (Ad 1)))) C1) (Dj (Sk (Xg "int" (Ad 0)) (Sk (Afr (Xg "bool" (Ad 0))) (f2 B2 (Ad 0) (Ad 1))))))))
noncomputable def Hx:Nat->FN
 | 0=>fun _ _=>none
 | k+1=>fnU 2 2 (Hg (Hx k))
noncomputable def Nv:FN:=Hx 3
noncomputable def Lr:FE:=(f2 Am (Ad 1) (Ad 0))
noncomputable def W3:FS:=(Dj (Az E7 (Ac (Bk [none,some 0] (Bg (Ad 1)) (gN 0) none Lr) Af)))
noncomputable def Nk:FN:=fnU 2 2 W3
noncomputable def Hl:FE:=(f2 Ui (Ad 0) (Ad 1))
noncomputable def Kl:FS:=(Dj (Sk (f2 Dl (Ad 0) (Ad 1)) (Az Qz (Ac (Bk [none,none] (R9 (Ac (Ad 0) (Ac (Ad 1) Af))) (MR.gTup 2 (MR.gCons (gN 0) (MR.gCons (gN 1) MR.gNil))) none Hl) Af))))
noncomputable def Gk:FN:=fnU 2 2 Kl
noncomputable def Qx:FS:=(Dj (Ec (Ac (f2 Am (Ad 0) (fC (.int 1))) (Ac (f2 Am (Ad 0) (fC (.int 2))) Af))))
noncomputable def G1:FN:=fnU 1 1 Qx
noncomputable def Jq:FE:=(Ad 0)
noncomputable def E3:FT:=(Ij (Be 2 Gk (Ac (Ad 2) (Ac (Be 1 G1 (Ac (Ad 1) Af)) Af))))
noncomputable def Mm:FS:=(A9 (Ba (Be 1 G1 (Ac (Ad 1) Af)) (gN 2)) (Dj (Bk [none,none,some 2] (Ye (Ac (Ad 0) Af)) (MR.gTup 2 (MR.gCons (gN 0) (MR.gCons (gN 1) MR.gNil))) (some E3) Jq)))
noncomputable def Eb:FN:=fnU 3 2 Mm
noncomputable def Dd:FE:=(Be 2 Nk (Ac (Ad 1) (Ac (Ad 0) Af)))
noncomputable def Df:FT:=(Ij (Az Ql (Ac (Ad 2) Af)))
noncomputable def Fi:FS:=(A9 (Jp (Ep "list" Cy (Ad 3) (Ac (Az E7 (Ac (Ad 2) Af)) Af))) (Ba (Bk [none,some 2] (Bg (Ad 1)) (gN 0) none Dd) (gN 2)))
noncomputable def De:FE:=(Be 2 Eb (Ac (Ad 1) (Ac (Ad 0) Af)))
noncomputable def Jt:FS:=(A9 (Ba (Bk [none,some 0] (Bg (Ad 0)) (gN 0) none De) (gN 1)) (A9 (Ba (f2 Bi (Cs (Ac (fC (.int 1)) Af)) (Az Aq (Ac (Ad 0) Af))) (gN 2)) (A9 (Ba (Cs Af) (gN 3)) (A9 (Fz Df Fi 100000) (Dj (Az C5 (Ac (Ad 3) Af)))))))
noncomputable def Dq:FN:=fnU 4 1 Jt
noncomputable def B5:FE:=(Ec (Ac (Qs (f2 Am (Ad 0) (fC (.int 0)))) (Ac (f2 Am (Ad 0) (fC (.int 1))) Af)))
noncomputable def Jw:FS:=(Dj (N0 [none] B5 (Ad 0)))
noncomputable def Dg:FN:=fnU 1 1 Jw
noncomputable def A0:FE:=(Be 1 G1 (Ac (f2 Am (Ad 1) (Ad 0)) Af))
noncomputable def E9:FS:=(Dj (Lq [none,some 0] A0 (Ac (Az Aq (Ac (Ad 0) Af)) Af)))
noncomputable def Bt:FN:=fnU 1 1 E9
noncomputable def Hm:FE:=(V5 (Ad 1) (Ad 0))
noncomputable def Dt:FS:=(A9 (Ba (Bk [none,some 2] (Bg (Be 2 Eb (Ac (Ad 0) (Ac (f2 Am (Ad 0) (Ad 3)) Af)))) (gN 0) none Hm) (gN 4)) (A9 (Ba (Be 1 Dg (Ac (f2 Aw (Cs (Ac (Ec (Ac (fC (.int 0)) (Ac (Ec Af) Af))) Af)) (Ad 4)) Af)) (gN 5)) (Pj (Ad 2) (Ad 3) (Ec (Ac (f2 Aw (V5 (Ad 1) (f2 Am (f2 Am (Ad 0) (Ad 3)) (fC (.int 0)))) (f2 Am (Ad 5) (fC (.int 0)))) (Ac (f2 Aw (Ec (Ac (Ad 3) Af)) (f2 Am (Ad 5) (fC (.int 1)))) Af))))))
noncomputable def Ju:FS:=(A9 (Ba Kw (gN 2)) (A9 (Jh (Bg (Be 1 Bt (Ac (Ad 0) Af))) (gN 3) Dt) (Dj (U4 (Ad 2)))))
noncomputable def Ew:FN:=fnU 6 2 Ju
noncomputable def Hn:FE:=(f2 Am (f2 Am (Ad 1) (Ad 0)) (fC (.int 0)))
noncomputable def Jb:FS:=(A9 (Fm (Pu (Ij (Ad 0))) (Dj (Ec (Ac (fC (.int 0)) (Ac (Ec Af) Af)))) C1) (A9 (Ba (Be 1 Dg (Ac (Be 2 Ew (Ac (Ad 0) (Ac (Ad 1) Af))) Af)) (gN 2)) (Dj (Ec (Ac (f2 Am (Ad 2) (fC (.int 0))) (Ac (Az C5 (Ac (Bk [none,some 0] (Bg (f2 Am (Ad 2) (fC (.int 1)))) (gN 0) none Hn) Af)) Af))))))
noncomputable def Ez:FN:=fnU 3 2 Jb
noncomputable def Fj:FS:=(Pj (Ad 1) (f2 Am (Ad 2) (fC (.int 0))) (fC (.int 1)))
noncomputable def Jl:FS:=(A9 (Fm (Pu (Ij (Ad 0))) (Dj (Ec (Ac (fC (.int 0)) (Ac (fC (.int 1)) (Ac (Ec Af) Af))))) C1) (A9 (Ba Kw (gN 1)) (A9 (Jh (Bg (Ad 0)) (gN 2) Fj) (A9 (Ba (Be 2 Ez (Ac (Ad 0) (Ac (Ad 1) Af))) (gN 3)) (Dj (Ec (Ac (f2 Am (Ad 3) (fC (.int 0))) (Ac (f2 Am (Be 1 Dq (Ac (Ad 0) Af)) (Qs (fC (.int 1)))) (Ac (f2 Am (Ad 3) (fC (.int 1))) Af)))))))))
noncomputable def Di:FN:=fnU 4 1 Jl
noncomputable def Qg:FS:=(A9 (Ba (Be 2 Kj (Ac (Ad 1) (Ac (f2 Am (Cs (Ac (fC (.int 8)) (Ac (fC (.int 8)) (Ac (fC (.int 8)) (Ac (fC (.int 60)) Af))))) (Be 2 Ax (Ac (Ad 1) (Ac (fC (.int 4)) Af)))) Af))) (gN 3)) (A9 (Ba (Ec (Ac (fC (.int 0)) (Ac (fC (.int 1)) (Ac (Ec Af) Af)))) (gN 4)) (A9 (Fm (By (f2 Dl (Ad 3) (Ec Af))) (Ba (Be 1 Hf (Ac (Ad 3) Af)) (gN 4)) C1) (A9 (Fm (U3 (By (Oz Js Js (fC (.int 0)) (Az Aq (Ac (Ad 3) Af)) (fC (.int 9)))) (By (f2 Dl (Ad 4) (Be 1 Gm (Ac (Ad 3) Af))))) (Dj (fC (.bl false))) C1) (Fm (Pu (Ij (Be 2 Nv (Ac (Be 1 Di (Ac (Ad 3) Af)) (Ac (Ad 4) Af))))) (Dj (fC (.bl false))) C1)))))
noncomputable def Aki:FS:=(A9 (Ba (Be 1 Np (Ac (Ad 0) Af)) (gN 1)) (A9 (Jh (Dc (Ac (fC (.int 4)) Af)) (gN 2) Qg) (Dj (fC (.bl true)))))
noncomputable def Xe:FN:=fnU 5 1 Aki
abbrev P3:=Str×Int×Int
noncomputable def p3U(p:P3):U:=.tup [.str p.1,.int p.2.1,.int p.2.2]
theorem Aou{p:P3}(h:Low p.1):Pl 6 (p3U p):=by
 unfold p3U
 rw[G8]
 intro u hu
 simp only[bH,eB,or_false] at hu
 rcases hu with rfl | rfl | rfl
 ·show Pl 5 (.str p.1)
  simpa[Pl] using h.ok
 ·exact Pl.int _ _
 ·exact Pl.int _ _
variable {M:UH}{f:Nat}{ps:List P3}
theorem Adb(h:M[f]? = some (.lst (ps.map p3U)))(hw:∀ p∈ps,Low p.1):Dl (.ref f) (.ref M.length) (M++[.lst []])=some (.bl (!ps.isEmpty),M++[.lst []]):=by
 have q1:Ao (M++[HU.lst []]) f=some (ps.map p3U):=Aj ((Gw.new M _).get h)
 have q2:Ao (M++[HU.lst []]) M.length=some []:=Aj (by simp)
 have hp:∀ u∈ps.map p3U,Pl 6 u:=fun u hu=>by obtain ⟨a,ha,rfl⟩:=bU.mp hu;exact Aou (hw a ha)
 have hp0:∀ u∈([]:List U),Pl 6 u:=fun u hu=>by cases hu
 rw[Ot q1 q2 hp hp0]
 cases ps with
 | nil=>rfl
 | cons p ps=>
  have:Tc ((p::ps).map p3U) []=false:=by
   have:=(Afl (us:=(p::ps).map p3U) (ws:=[]) hp hp0)
   cases hq:Tc ((p::ps).map p3U) [] with
   | false=>rfl
   | true=>exact absurd (this.mp hq) (by simp)
  rw[this];rfl
variable {L:UH}{d:Nat}{B:Int}{δ:UE}
theorem Ab0(D:Gdk L d B)(hB:B<=100000000)(hf:L[f]? = some (.lst (ps.map p3U)))(hfd:f≠d)(hp:ps≠[])(hs:ps.length<=1000)(h0:∀ M,Ad 0 δ M=some (.ref d,M))(h4:∀ M,Ad 4 δ M=some (.ref f,M)) :
  ∃ (p:P3) (L':UH),(f2 Am (Ad 4) (Be 2 Ax (Ac (Ad 0) (Ac (Az Aq (Ac (Ad 4) Af)) Af)))) δ L=some (p3U p,L')/\Gdk L' d (B+1)/\Ex d L L':=by
 have hpos:0 < ps.length:=iD.mpr hp
 obtain ⟨i,L1,e1,i0,i1,D1,x1⟩:=C7 (many:=((ps.map p3U).length:Nat)) D (by omega) (by simp;omega) (by simp;omega)
 have hf1:=x1.get hf hfd
 have hlen:=Vo hf
 rw[aQ] at i1
 have hix:L2.atI (ps.map p3U) i=some (p3U (ps[i.toNat]'(by omega))):=by
  rw[Rr i0 (by rw[aQ];omega),bO,aL (by omega)];rfl
 refine ⟨ps[i.toNat]'(by omega),L1,?_,D1,x1⟩
 rw[f2_eq,h4,aA,fOwn_eq,fCons_eq,h0]
 simp only[aA,fCons_eq,fCall_eq,h4,fNil_eq,aC,hlen,aM,aY,if_true,e1,semIx_ref,Aj hf1,hix]
theorem Aag{c:Int}(D:Gdk M d B)(hB:B<=100000000)(hf:M[f]? = some (.lst (ps.map p3U)))(hw:∀ p∈ps,Low p.1)(h0:0 < c)(h1:c < 1000)(v0:∀ M,Ad 0 δ M=some (.ref d,M))(v4:∀ M,Ad 4 δ M=some (.ref f,M)) :
  ∃ (b:Bool) (M':UH),(U3 (By (f2 Dl (Ad 4) (Cs Af))) (By (f2 B2 (Be 2 Ax (Ac (Ad 0) (Ac (fC (.int c)) Af))) (fC (.int 0))))) δ M=some (b,M')/\(b=true->ps≠[])/\Gdk M' d (B+1)/\Ex d M M':=by
 have sm0:small ([]:List U).length=true:=small_of (by show 0<=16777216;decide)
 have hl:∀ M,(Cs Af) δ M=some (.ref M.length,M++[.lst []]):=fun M=>by rw[fLst_eq,fNil_eq,aA,if_pos sm0]
 have hne:=Adb hf hw
 have t1:(f2 Dl (Ad 4) (Cs Af)) δ M=some (.bl (!ps.isEmpty),M++[.lst []]):=by
  rw[f2_eq,v4,aA,hl,aA,hne]
 cases hps:ps.isEmpty with
 | true=>
  rw[hps] at t1
  refine ⟨false,M++[.lst []],?_,(fun h=>by cases h),(D.new _).mono (by omega),Ex.new d M _⟩
  simp only[fAnd_eq,fTest_eq,t1,aA,iB,bK,if_false]
 | false=>
  rw[hps] at t1
  obtain ⟨i,M2,e1,i0,i1,D1,x1⟩:=C7 (many:=c) (D.new [HU.lst []]) (by omega) h0 (by omega)
  refine ⟨i == 0,M2,?_,(fun _=>by intro h;rw[h] at hps;cases hps),D1,(Ex.new d M _).trans x1⟩
  have t2:(f2 B2 (Be 2 Ax (Ac (Ad 0) (Ac (fC (.int c)) Af))) (fC (.int 0))) δ (M++[.lst []])=some (.bl (i == 0),M2):=by
   rw[f2_eq,Pc (i:=0) (v0 _) e1]
   simp only[aA,fC_eq,semEq_int]
  simp only[fAnd_eq,fTest_eq,t1,aA,mB,if_true,t2]
theorem Ak7(k:Bool)(L:UH):Jz [.bl k] L=some (.int (if k then 1 else 0),L):=rfl
noncomputable def pt3:FS:=(Fm (By (f2 B2 (Ad 3) (fC (.int 1)))) (Ba (f2 Aw (Ad 6) (f2 Bi (Be 2 Ax (Ac (Ad 0) (Ac (fC (.int 3)) Af))) (Az Jz (Ac (f2 Js (Az Jy (Ac (Ad 6) Af)) (f2 Hh (fC (.int 10)) (fC (.int 9)))) Af)))) (gN 7)) C1)
noncomputable def Amr(pw:S2)(ab:SC):FE:=(f2 Aw (Ad 6) (f2 Bi (Be 2 Ax (Ac (Ad 0) (Ac (fC (.int 3)) Af))) (Az Jz (Ac (f2 Js (Az ab (Ac (Ad 6) Af)) (f2 pw (fC (.int 10)) (fC (.int 9)))) Af))))
variable {x:Int}
theorem Ajx{pw:S2}{ab:SC}{M1:UH}{i E ca:Int}(x1 x2 x3 x4 x5 x7:Option U)(e1:Ax [.ref d,.int 3] M=some (.int i,M1))(h0:0<=i)(h1:i < 3)(hp:pw (.int 10) (.int 9) M1=some (.int E,M1))(hab:ab [.int x] M1=some (.int ca,M1)) :
  ∃ y:Int,Amr pw ab [some (.ref d),x1,x2,x3,x4,x5,some (.int x),x7] M=some (.int y,M1):=by
 have a1:=Pc (i:=0) (δ:=[some (.ref d),x1,x2,x3,x4,x5,some (.int x),x7]) rfl e1
 have hlt:Js (.int ca) (.int E) M1=some (.bl (decide (ca < E)),M1):=rfl
 have hmu:∀ z:Int,Bi (.int i) (.int z) M1=some (.int (i * z),M1):=fun z=>by
  have:=Md (i:=i) (j:=z) (by omega) (by omega)
  simp only[Bi,this,if_true]
 refine ⟨x+i * (if decide (ca < E) then 1 else 0),?_⟩
 have v6:∀ M,Ad 6 [some (.ref d),x1,x2,x3,x4,x5,some (.int x),x7] M=some (.int x,M):=fun _=>rfl
 unfold Amr
 rw[f2_eq,v6,aA,f2_eq,a1]
 simp only[aA,fCall_eq,fCons_eq,fNil_eq,f2_eq,v6,fC_eq,aC,hab,hp,hlt,Ak7,hmu,semAdd_int]
theorem Ap3(L:UH):Hh (.int 10) (.int 9) L=some (.int 1000000000,L):=by
 have p:Um 10 9=true:=rfl
 simp[p]
variable {way y:Int}
theorem Am5(D:Gdk M d B)(hB:B<=10000000)(x1 x2 x4 x5:Option U) :
  ∃ (y':Int) (M':UH),pt3 [some (.ref d),x1,x2,some (.int way),x4,x5,some (.int x),some (.int y)] M=some (.nx [some (.ref d),x1,x2,some (.int way),x4,x5,some (.int x),some (.int y')],M')/\Gdk M' d (B+1)/\Ex d M M':=by
 have t:(f2 B2 (Ad 3) (fC (.int 1))) [some (.ref d),x1,x2,some (.int way),x4,x5,some (.int x),some (.int y)] M=some (.bl (way == 1),M):=by
  simp only[f2_eq,fVar_eq,fC_eq,aN,aI,aV,aC,aA,semEq_int]
 have hb:pt3=Fm (By (f2 B2 (Ad 3) (fC (.int 1)))) (Ba (Amr Hh Jy) (gN 7)) C1:=rfl
 cases hw:(way == (1:Int)) with
 | true=>
  rw[hw] at t
  obtain ⟨i,M1,e1,i0,i1,D1,x1'⟩:=C7 (many:=3) D (by omega) (by decide) (by decide)
  obtain ⟨y',e⟩:=Ajx (x:=x) x1 x2 (some (.int way)) x4 x5 (some (.int y)) e1 i0 i1 (Ap3 M1) (Yf x M1)
  have s:=Ds (i:=7) e
  simp only[aZ,bA] at s
  refine ⟨y',M1,?_,D1,x1'⟩
  rw[hb,fIfS_eq,fTest_eq,t]
  simp only[aA,if_true]
  exact s
 | false=>
  rw[hw] at t
  refine ⟨y,M,?_,D.mono (by omega),Ex.refl d M⟩
  rw[hb,fIfS_eq,fTest_eq,t]
  simp only[aA,bK,if_false,Cq]
noncomputable def pt4:FS:=(Fm (By (f2 B2 (Ad 3) (fC (.int 2)))) (Ba (f2 Mo (fC (.int 0)) (Ad 6)) (gN 7)) C1)
theorem Am7(x0 x1 x2 x4 x5:Option U) :
  ∃ (y':Int),pt4 [x0,x1,x2,some (.int way),x4,x5,some (.int x),some (.int y)] M=some (.nx [x0,x1,x2,some (.int way),x4,x5,some (.int x),some (.int y')],M):=by
 have t:(f2 B2 (Ad 3) (fC (.int 2))) [x0,x1,x2,some (.int way),x4,x5,some (.int x),some (.int y)] M=some (.bl (way == 2),M):=by
  simp only[f2_eq,fVar_eq,fC_eq,aN,aI,aV,aC,aA,semEq_int]
 cases hw:(way == (2:Int)) with
 | true=>
  rw[hw] at t
  refine ⟨0 - x,?_⟩
  unfold pt4
  rw[fIfS_eq,fTest_eq,t]
  simp only[aA,if_true,fAsg_eq,f2_eq,fC_eq,fVar_eq,aN,aI,aV,aC,semSub_int,gN_eq,aZ,bA]
 | false=>
  rw[hw] at t
  refine ⟨y,?_⟩
  unfold pt4
  rw[fIfS_eq,fTest_eq,t]
  simp only[aA,bK,if_false,Cq]
noncomputable def Wi:FE:=(f2 Am (Ad 4) (Be 2 Ax (Ac (Ad 0) (Ac (Az Aq (Ac (Ad 4) Af)) Af))))
noncomputable def pt5:FS:=(Fm (U3 (By (f2 Dl (Ad 4) (Cs Af))) (By (f2 B2 (Be 2 Ax (Ac (Ad 0) (Ac (fC (.int 5)) Af))) (fC (.int 0))))) (Ba (fSl Ho Wi (Fd (fC (.int 1))) Cg) (MR.gTup 2 (MR.gCons (gN 6) (MR.gCons (gN 7) MR.gNil)))) C1)
theorem Ano(D:Gdk M d B)(hB:B<=10000000)(hf:M[f]? = some (.lst (ps.map p3U)))(hfd:f≠d)(hs:ps.length<=100)(hw:∀ p∈ps,Low p.1)(x1 x2 x3 x5:Option U) :
  ∃ (x' y':Int) (M':UH),pt5 [some (.ref d),x1,x2,x3,some (.ref f),x5,some (.int x),some (.int y)] M=some (.nx [some (.ref d),x1,x2,x3,some (.ref f),x5,some (.int x'),some (.int y')],M')/\Gdk M' d (B+2)/\Ex d M M':=by
 obtain ⟨b,M1,e1,hb,D1,x1'⟩:=Aag (c:=5) D (by omega) hf hw (by decide) (by decide) (δ:=[some (.ref d),x1,x2,x3,some (.ref f),x5,some (.int x),some (.int y)]) (fun _=>rfl) (fun _=>rfl)
 cases b with
 | false=>
  refine ⟨x,y,M1,?_,D1.mono (by omega),x1'⟩
  unfold pt5
  rw[fIfS_eq,e1]
  simp only[aA,bK,if_false,Cq]
 | true=>
  obtain ⟨p,M2,e2,D2,x2'⟩:=Ab0 D1 (by omega) (x1'.get hf hfd) hfd (hb rfl) (by omega) (δ:=[some (.ref d),x1,x2,x3,some (.ref f),x5,some (.int x),some (.int y)]) (fun _=>rfl) (fun _=>rfl)
  have e2':Wi [some (.ref d),x1,x2,x3,some (.ref f),x5,some (.int x),some (.int y)] M1=some (p3U p,M2):=e2
  have hc:Ho (p3U p) (some 1) none M2=some (.tup [.int p.2.1,.int p.2.2],M2):=rfl
  have hg:(MR.gTup 2 (MR.gCons (gN 6) (MR.gCons (gN 7) MR.gNil))) (.tup [.int p.2.1,.int p.2.2]) [some (.ref d),x1,x2,x3,some (.ref f),x5,some (.int x),some (.int y)] M2=some ([some (.ref d),x1,x2,x3,some (.ref f),x5,some (.int p.2.1),some (.int p.2.2)],M2):=rfl
  refine ⟨p.2.1,p.2.2,M2,?_,D2.mono (by omega),x1'.trans x2'⟩
  unfold pt5
  rw[fIfS_eq,e1]
  simp only[aA,if_true]
  rw[fAsg_eq,fSl_eq,e2']
  simp only[aA,fPart_eq,fC_eq,fNoPart_eq,aC,hc,hg]
noncomputable def pt6:FS:=(Fm (U3 (By (f2 Dl (Ad 4) (Cs Af))) (By (f2 B2 (Be 2 Ax (Ac (Ad 0) (Ac (fC (.int 5)) Af))) (fC (.int 0))))) (Ba (f2 Am Wi (fC (.int 1))) (gN 6)) C1)
theorem Ak5(D:Gdk M d B)(hB:B<=10000000)(hf:M[f]? = some (.lst (ps.map p3U)))(hfd:f≠d)(hs:ps.length<=100)(hw:∀ p∈ps,Low p.1)(x1 x2 x3 x5 x7:Option U) :
  ∃ (x':Int) (M':UH),pt6 [some (.ref d),x1,x2,x3,some (.ref f),x5,some (.int x),x7] M=some (.nx [some (.ref d),x1,x2,x3,some (.ref f),x5,some (.int x'),x7],M')/\Gdk M' d (B+2)/\Ex d M M':=by
 obtain ⟨b,M1,e1,hb,D1,x1'⟩:=Aag (c:=5) D (by omega) hf hw (by decide) (by decide) (δ:=[some (.ref d),x1,x2,x3,some (.ref f),x5,some (.int x),x7]) (fun _=>rfl) (fun _=>rfl)
 cases b with
 | false=>
  refine ⟨x,M1,?_,D1.mono (by omega),x1'⟩
  unfold pt6
  rw[fIfS_eq,e1]
  simp only[aA,bK,if_false,Cq]
 | true=>
  obtain ⟨p,M2,e2,D2,x2'⟩:=Ab0 D1 (by omega) (x1'.get hf hfd) hfd (hb rfl) (by omega) (δ:=[some (.ref d),x1,x2,x3,some (.ref f),x5,some (.int x),x7]) (fun _=>rfl) (fun _=>rfl)
  have e2':Wi [some (.ref d),x1,x2,x3,some (.ref f),x5,some (.int x),x7] M1=some (p3U p,M2):=e2
  have hc:Am (p3U p) (.int 1) M2=some (.int p.2.1,M2):=rfl
  refine ⟨p.2.1,M2,?_,D2.mono (by omega),x1'.trans x2'⟩
  have h1:(f2 Am Wi (fC (.int 1))) [some (.ref d),x1,x2,x3,some (.ref f),x5,some (.int x),x7] M1=some (.int p.2.1,M2):=by
   rw[f2_eq,e2']
   simp only[aA,fC_eq,hc]
  have s:=Ds (i:=6) h1
  simp only[aZ,bA] at s
  unfold pt6
  rw[fIfS_eq,e1]
  simp only[aA,if_true]
  exact s
noncomputable def pt7:FS:=(Jp (Ep "list" Cy (Ad 4) (Ac (Ec (Ac (Ad 5) (Ac (Ad 6) (Ac (Ad 7) Af)))) Af)))
theorem Ak8(hf:M[f]? = some (.lst (ps.map p3U)))(hs:ps.length<=100)(name:Str)(x y:Int)(x0 x1 x2 x3:Option U) :
  pt7 [x0,x1,x2,x3,some (.ref f),some (.str name),some (.int x),some (.int y)] M=some (.nx [x0,x1,x2,x3,some (.ref f),some (.str name),some (.int x),some (.int y)],M.set f (.lst ((ps++[(name,x,y)]).map p3U))):=by
 have sm3:∀ x y z:U,small [x,y,z].length=true:=fun _ _ _=>small_of (by show 3<=16777216;decide)
 have t1:(Ec (Ac (Ad 5) (Ac (Ad 6) (Ac (Ad 7) Af)))) [x0,x1,x2,x3,some (.ref f),some (.str name),some (.int x),some (.int y)] M=some (p3U (name,x,y),M):=by
  simp only[fTup_eq,fCons_eq,fVar_eq,fNil_eq,aN,aI,aV,aC,aA]
  rw[if_pos (sm3 _ _ _)]
  rfl
 have ap:=Jv (p3U (name,x,y)) hf (by simp;omega)
 have hm:ps.map p3U++[p3U (name,x,y)]=(ps++[(name,x,y)]).map p3U:=by simp
 rw[hm] at ap
 have ty:=Iv hf
 unfold pt7
 rw[Jk,fMeth_eq]
 simp only[fVar_eq,aN,aI,aV,aC,aA,ty,if_true]
 rw[fCons_eq,t1]
 simp only[aA,fNil_eq,aC,ap]
variable {i j:Nat}{u v:U}{L':UH}
theorem T9{f:FN}{w:U}(h:Ad i δ L=some (u,L))(h2:Ad j δ L=some (w,L))(e:f [u,w] L=some (v,L')):(Be 2 f (Ac (Ad i) (Ac (Ad j) Af))) δ L=some (v,L'):=by
 rw[fOwn_eq,fCons_eq,h]
 simp only[aA,fCons_eq,h2,fNil_eq,aC,aM,aY,if_true,e]
theorem We{kind:Int}(D:Gdk M d B)(hB:B<=1000000)(hf:M[f]? = some (.lst (ps.map p3U)))(hfd:f≠d)(hs:ps.length<=99)(hw:∀ p∈ps,Low p.1)(hk:kind=0\/kind=1\/kind=2)(name:Str)(x1 x6 x7:Option U) :
  ∃ (y6 y7:Option U) (x y:Int) (M':UH),Gy [some (.ref d),x1,some (.int kind),some (.int way),some (.ref f),some (.str name),x6,x7] M=some (.nx [some (.ref d),x1,some (.int kind),some (.int way),some (.ref f),some (.str name),y6,y7],M')/\Gdk M' d (B+11)/\M'[f]? = some (.lst ((ps++[(name,x,y)]).map p3U))/\(∀ L,Ex d L M->L.length<=f->Ex d L M')/\(∀ n o,n≠d->n≠f->M[n]? = some o->M'[n]? = some o):=by
 obtain ⟨x,M1,e1,D1,z1⟩:=Tz D (by omega) hk
 have s1:=Ds (i:=6) (T9 (i:=0) (j:=2) (δ:=[some (.ref d),x1,some (.int kind),some (.int way),some (.ref f),some (.str name),x6,x7]) rfl rfl e1)
 obtain ⟨y,M2,e2,D2,z2⟩:=Tz D1 (by omega) hk
 have s2:=Ds (i:=7) (T9 (i:=0) (j:=2) (δ:=[some (.ref d),x1,some (.int kind),some (.int way),some (.ref f),some (.str name),some (.int x),x7]) rfl rfl e2)
 simp only[aZ,bA] at s1 s2
 obtain ⟨y3,M3,s3,D3,z3⟩:=Am5 (way:=way) (x:=x) (y:=y) D2 (by omega) x1 (some (.int kind)) (some (.ref f)) (some (.str name))
 obtain ⟨y4,s4⟩:=Am7 (M:=M3) (way:=way) (x:=x) (y:=y3) (some (.ref d)) x1 (some (.int kind)) (some (.ref f)) (some (.str name))
 have hf3:=z3.get (z2.get (z1.get hf hfd) hfd) hfd
 obtain ⟨x5,y5,M5,s5,D5,z5⟩:=Ano (x:=x) (y:=y4) D3 (by omega) hf3 hfd (by omega) hw x1 (some (.int kind)) (some (.int way)) (some (.str name))
 have hf5:=z5.get hf3 hfd
 obtain ⟨x6',M6,s6,D6,z6⟩:=Ak5 (x:=x5) D5 (by omega) hf5 hfd (by omega) hw x1 (some (.int kind)) (some (.int way)) (some (.str name)) (some (.int y5))
 have hf6:=z6.get hf5 hfd
 have s7:=Ak8 hf6 (by omega) name x6' y5 (some (.ref d)) x1 (some (.int kind)) (some (.int way))
 have zz:=z1.trans (z2.trans (z3.trans (z5.trans z6)))
 refine ⟨some (.int x6'),some (.int y5),x6',y5,M6.set f (.lst ((ps++[(name,x6',y5)]).map p3U)),?_,(D6.set hfd _).mono (by omega),bM (aF.mp hf6).1,fun L e hL=>(e.trans zz).set hL _,fun n o hn1 hn2 ho=>by rw[bL (eR hn2)];exact zz.get ho hn1⟩
 have hb:Gy=A9 (Ba (Be 2 Dv (Ac (Ad 0) (Ac (Ad 2) Af))) (gN 6)) (A9 (Ba (Be 2 Dv (Ac (Ad 0) (Ac (Ad 2) Af))) (gN 7)) (A9 pt3 (A9 pt4 (A9 pt5 (A9 pt6 pt7))))):=rfl
 rw[hb,Ak s1,Ak s2,Ak s3,Ak s4,Ak s5,Ak s6]
 exact s7
theorem Adu{most:Nat}(D:Gdk L d B)(hB:B<=100000)(hm:most<=60) :
  ∃ (ps:List P3) (L':UH),Kj [.ref d,.int most] L=some (.tup (ps.map p3U),L')/\ps.length<=most/\(∀ p∈ps,Low p.1)/\Gdk L' d (B+1000)/\Ex d L L':=by
 have sm0:small ([]:List U).length=true:=small_of (by show 0<=16777216;decide)
 obtain ⟨kind,L1,e1,k0,k1,D1,x1⟩:=C7 (many:=3) D (by omega) (by decide) (by decide)
 have s1:=Ds (i:=2) (Pc (i:=0) (δ:=[some (.ref d),some (.int most),none,none,none,none,none,none]) rfl e1)
 obtain ⟨way,L2',e2,w0,w1,D2,x2⟩:=C7 (many:=4) D1 (by omega) (by decide) (by decide)
 have s2:=Ds (i:=3) (Pc (i:=0) (δ:=[some (.ref d),some (.int most),some (.int kind),none,none,none,none,none]) rfl e2)
 have s3:(Ba (Cs Af) (gN 4)) [some (.ref d),some (.int most),some (.int kind),some (.int way),none,none,none,none] L2'=some (.nx [some (.ref d),some (.int most),some (.int kind),some (.int way),some (.ref L2'.length),none,none,none],L2'++[.lst []]):=by
  rw[fAsg_eq,fLst_eq,fNil_eq,aA,if_pos sm0];rfl
 simp only[aZ,bA] at s1 s2
 have D3:=D2.new [HU.lst []]
 have hl2:=D2.lt
 obtain ⟨m,L4,e4,m0,m1,D4,x4⟩:=C7 (many:=(most:Int)+1) D3 (by omega) (by omega) (by omega)
 obtain ⟨n,names,L5,e5,h5,hln,hlow,D5,x5,hn5⟩:=Ag5 (many:=m.toNat) D4 (by omega) (by omega)
 have hmn:((m.toNat:Nat):Int)=m:=by omega
 rw[hmn] at e5
 have hle4:=x4.le
 have hi:(Bg (Be 2 Hu (Ac (Ad 0) (Ac (Be 2 Ax (Ac (Ad 0) (Ac (f2 Aw (Ad 1) (fC (.int 1))) Af))) Af)))) [some (.ref d),some (.int most),some (.int kind),some (.int way),some (.ref L2'.length),none,none,none] (L2'++[.lst []])=some (.ref n,L5):=by
  have v0:Ad 0 [some (.ref d),some (.int most),some (.int kind),some (.int way),some (.ref L2'.length),none,none,none] (L2'++[.lst []])=some (.ref d,L2'++[.lst []]):=rfl
  have hd:(Be 2 Ax (Ac (Ad 0) (Ac (f2 Aw (Ad 1) (fC (.int 1))) Af))) [some (.ref d),some (.int most),some (.int kind),some (.int way),some (.ref L2'.length),none,none,none] (L2'++[.lst []])=some (.int m,L4):=by
   rw[fOwn_eq,fCons_eq,v0]
   simp only[aA,fCons_eq,f2_eq,fC_eq,fVar_eq,fNil_eq,aN,aI,aV,aC,semAdd_int,aM,aY,if_true,e4]
  rw[Er,fOwn_eq,fCons_eq,v0,aA,fCons_eq,hd]
  simp only[aA,fNil_eq,aC,aM,aY,if_true,e5,B0 (Aj h5)]
 have hk3:kind=0\/kind=1\/kind=2:=by omega
 have hf5:L5[L2'.length]? = some (.lst []):=x5.get (x4.get (by simp) (by omega)) (by omega)
 have hnd:n≠d:=by have:=D4.lt;omega
 have hnf:L2'.length≠n:=by simp at hle4;omega
 obtain ⟨δ',L6,e6,P⟩:=Nq (us:=names.map U.str) (body:=Gy) (g:=gN 5)
  (fun k δ' M=>∃ (y5 y6 y7:Option U) (ps:List P3),δ'=[some (.ref d),some (.int most),some (.int kind),some (.int way),some (.ref L2'.length),y5,y6,y7]/\M[L2'.length]? = some (.lst (ps.map p3U))/\ps.length=k/\k<=names.length/\(∀ p∈ps,Low p.1)/\Gdk M d (B+104+14 * k)/\M[n]? = some (.lst (names.map U.str))/\Ex d L2' M)
  hi ⟨none,none,none,[],rfl,by simpa using hf5,rfl,by omega,by simp,D5.mono (by omega),h5,(Ex.new d L2' _).trans (x4.trans x5)⟩
  (fun k δ M ⟨_,_,_,_,_,_,_,_,_,_,h,_⟩=>Aj h)
  (fun k u δ M hu ⟨y5,y6,y7,ps,hδ,hat,hlk,hkn,hw,DM,hnm,xM⟩=>by
   subst hδ
   rw[bO] at hu
   obtain ⟨name,hname,rfl⟩:=aH.mp hu
   have hk:=(aF.mp hname).1
   have hln60:names.length<=60:=by omega
   have hnlow:=hlow _ (bV hname)
   obtain ⟨z6,z7,x,y,M',e,D',hat',hx,hkeep⟩:=We (way:=way) DM (by omega) hat (by omega) (by omega) hw hk3 name (some (.int most)) y6 y7
   exact ⟨[some (.ref d),some (.int most),some (.int kind),some (.int way),some (.ref L2'.length),some (.str name),y6,y7],M,rfl,_,M',.inl e,_,_,_,ps++[(name,x,y)],rfl,hat',by simp[hlk],by omega,fun p hp=>by rcases cR.mp hp with h | h;exact hw p h;rw[cB.mp h];exact hnlow,D'.mono (by omega),hkeep n _ hnd (eR hnf) hnm,hx L2' xM (aS _)⟩)
 obtain ⟨y5,y6,y7,ps,hδ,hat,hlk,hkn,hw,DM,hnm,xM⟩:=P
 rw[aQ] at hlk hkn DM
 rw[hδ] at e6
 refine ⟨ps,L6,?_,by omega,hw,DM.mono (by omega),x1.trans (x2.trans xM)⟩
 have t2:C5 [.ref L2'.length] L6=some (.tup (ps.map p3U),L6):=by simp only[C5,Aj hat,aC]
 have hb:Sd=A9 (Ba (Be 2 Ax (Ac (Ad 0) (Ac (fC (.int 3)) Af))) (gN 2)) (A9 (Ba (Be 2 Ax (Ac (Ad 0) (Ac (fC (.int 4)) Af))) (gN 3)) (A9 (Ba (Cs Af) (gN 4)) (A9 (Jh (Bg (Be 2 Hu (Ac (Ad 0) (Ac (Be 2 Ax (Ac (Ad 0) (Ac (f2 Aw (Ad 1) (fC (.int 1))) Af))) Af)))) (gN 5) Gy) (Dj (Az C5 (Ac (Ad 4) Af)))))):=rfl
 unfold Kj fnU
 simp only[aM,aY,if_true,aW,bW,bN,dC,dL]
 rw[hb,Ak s1,Ak s2,Ak s3,Ak e6,fRet_eq,fCall_eq,fCons_eq]
 simp only[fVar_eq,fNil_eq,aN,aI,aV,aC,aA,t2]
noncomputable def pr(p:Int×Int):U:=.tup [.int p.1,.int p.2]
noncomputable def Gq(p q:Int×Int):Bool:=decide (p.1<=q.1)&&(decide (p.2<=q.2) && !(p.1 == q.1&&(p.2 == q.2&&true)))
theorem Aks(p q:Int×Int)(L:UH):Dl (pr p) (pr q) L=some (.bl (!(p.1 == q.1&&(p.2 == q.2&&true))),L):=rfl
theorem Ag4{β:Type}(as:List β)(f:β->Bool):mapO toB (as.map fun a=>U.bl (f a))=some (as.map f):=by
 induction as with
 | nil=>rfl
 | cons a as ih=>simp[mapO,toB,ih]
variable {n:Nat}
theorem Ai2{β:Type}(as:List β)(f:β->Bool)(h:Ao L n=some (as.map fun a=>U.bl (f a))):Qz [.ref n] L=some (.bl (as.all f),L):=by
 simp[Qz,h,Ag4]
theorem Aip(p q:Int×Int)(L:UH):∃ x,Gk [pr p,pr q] L=some (.bl (Gq p q),L++x):=by
 have hz:(R9 (Ac (Ad 0) (Ac (Ad 1) Af))) [some (pr p),some (pr q)] L=some (.seq ([(p.1,q.1),(p.2,q.2)].map fun a=>.tup [.int a.1,.int a.2]),L):=rfl
 obtain ⟨x,e⟩:=Bp (ix:=[none,none]) (fi:=R9 (Ac (Ad 0) (Ac (Ad 1) Af))) (it:=.seq ([(p.1,q.1),(p.2,q.2)].map fun a=>.tup [.int a.1,.int a.2])) (g:=(MR.gTup 2 (MR.gCons (gN 0) (MR.gCons (gN 1) MR.gNil)))) (tt:=none) (fe:=Hl) (δ:=[some (pr p),some (pr q)]) (L:=L) (L0:=L)
  [(p.1,q.1),(p.2,q.2)] (fun a=>.tup [.int a.1,.int a.2]) (fun _=>true) (fun a=>.bl (decide (a.1<=a.2))) (fun δ=>∃ a b,δ = [a,b]) hz (by simp[IU.size]) (by simp) ⟨none,none,rfl⟩
  (fun k x=>rfl)
  (fun a δ x _ ⟨y,z,hδ⟩=>by
   subst hδ
   refine ⟨_,rfl,⟨_,_,rfl⟩,[],by simp[Iw],fun _=>⟨[],?_⟩⟩
   simp[Hl])
 have hf:hV (fun _:Int×Int=>true) [(p.1,q.1),(p.2,q.2)]=[(p.1,q.1),(p.2,q.2)]:=by simp
 rw[hf] at e
 have q1:Ao (L++x++[HU.lst ([(p.1,q.1),(p.2,q.2)].map fun a=>.bl (decide (a.1<=a.2)))]) (L++x).length=some ([(p.1,q.1),(p.2,q.2)].map fun a=>U.bl (decide (a.1<=a.2))):=Aj (by simp)
 have ha:=Ai2 _ _ q1
 by_cases h:(!(p.1 == q.1&&(p.2 == q.2&&true)))=true
 ·refine ⟨x++[HU.lst ([(p.1,q.1),(p.2,q.2)].map fun a=>.bl (decide (a.1<=a.2)))],?_⟩
  have hb:Gq p q=List.all [(p.1,q.1),(p.2,q.2)] fun a=>decide (a.1<=a.2):=by
   simp only[Gq,h,mR,List.all_nil]
  have hn:=Aks p q L
  rw[h] at hn
  unfold Gk fnU Kl
  simp only[aM,aY,if_true,aW,bW,eQ,dW,bB,fRet_eq,Ly,f2_eq,fVar_eq,aI,aN,aV,aC,aA,hn,fCall_eq,fCons_eq,fNil_eq]
  simp only[aW,bW] at e ha
  rw[hb,<- dE]
  simp only[e,ha,aC,aA]
 ·have h':(!(p.1 == q.1&&(p.2 == q.2&&true)))=false:=by simpa using h
  refine ⟨[],?_⟩
  have hb:Gq p q=false:=by simp only[Gq,h',oV]
  have hn:=Aks p q L
  rw[h'] at hn
  unfold Gk fnU Kl
  simp only[aM,aY,if_true,aW,bW,eQ,dW,bB,fRet_eq,Ly,f2_eq,fVar_eq,aI,aN,aV,aC,aA,hn,hb]
  simp
theorem Lv(p:P3)(L:UH):G1 [p3U p] L=some (pr p.2,L):=by
 have sm2:small (0+1+1)=true:=small_of (by decide)
 have i1:∀ p:P3,Am (p3U p) (.int 1) L=some (.int p.2.1,L):=fun _=>rfl
 have i2:∀ p:P3,Am (p3U p) (.int 2) L=some (.int p.2.2,L):=fun _=>rfl
 unfold G1 fnU Qx
 simp only[aM,aY,if_true,aW,bW,eQ,dW,bB,fRet_eq,fTup_eq,fCons_eq,fNil_eq,f2_eq,fVar_eq,fC_eq,aI,aV,aC,aA,i1,i2]
 rw[if_pos sm2]
 rfl
theorem Apd(p q:Int×Int)(L:UH):B2 (pr p) (pr q) L=some (.bl (p.1 == q.1&&(p.2 == q.2&&true)),L):=rfl
theorem Mp(p q:P3)(L:UH):Ey [p3U p,p3U q] L=some (.bl (Gq p.2 q.2),L):=by
 have c1:(fSl Ho (Ad 0) (Fd (fC (.int 1))) Cg) [some (p3U p),some (p3U q)] L=some (pr p.2,L):=rfl
 have c2:(fSl Ho (Ad 1) (Fd (fC (.int 1))) Cg) [some (p3U p),some (p3U q)] L=some (pr q.2,L):=rfl
 have i1:∀ p:P3,Am (p3U p) (.int 1) L=some (.int p.2.1,L):=fun _=>rfl
 have i2:∀ p:P3,Am (p3U p) (.int 2) L=some (.int p.2.2,L):=fun _=>rfl
 have le:∀ i j:Int,Ui (.int i) (.int j) L=some (.bl (decide (i<=j)),L):=fun _ _=>rfl
 unfold Ey fnU Ul Gq
 simp only[aM,aY,if_true,aW,bW,eQ,dW,bB]
 rw[fSeq_eq,fIfS_eq,fTest_eq,f2_eq,c1]
 simp only[aA,c2,Apd]
 cases (p.2.1 == q.2.1&&(p.2.2 == q.2.2&&true)) with
 | true=>simp only[if_true,fRet_eq,fC_eq,aC,aA,iB,oV]
 | false=>
  simp only[bK,if_false,Cq,aA,fRet_eq,Ly,f2_eq,fVar_eq,fC_eq,aN,aI,aV,aC,i1,i2,le,mB,pF]
  cases decide (p.2.1<=q.2.1) <;> rfl
noncomputable def Apq:P3:=("",0,0)
noncomputable def ptAt(ps:List P3)(i:Nat):P3:=ps.getD i Apq
noncomputable def Ll(ps:List P3)(a:Int×Int):List Nat:=(aO ps.length).filter fun j=>Gq a (ptAt ps j).2
noncomputable def ixU(l:List Nat):List U:=l.map fun (j:Nat)=>U.int (j:Int)
theorem Ag3(ps:List P3):Mi (ps.map p3U)=(aO ps.length).map fun (i:Nat)=>U.tup [.int (i:Int),p3U (ptAt ps i)]:=by
 apply kJ
 ·simp[Mi]
 ·intro i h1 h2
  have hi:i < ps.length:=by simpa[Mi] using h1
  simp[Mi,ptAt,aP,hi]
theorem Wk(ps:List P3)(hl:ps.length<=1000)(p:P3)(L:UH):∃ (r:Nat) (L':UH),Eb [.tup (ps.map p3U),p3U p] L=some (.ref r,L')/\L'[r]? = some (.lst (ixU (Ll ps p.2)))/\Gw L L'/\L.length<=r:=by
 have s1:=Ds (i:=2) (S6 (i:=1) (δ:=[some (.tup (ps.map p3U)),some (p3U p),none]) rfl (Lv p L))
 simp only[aZ,bA] at s1
 have hi:(Ye (Ac (Ad 0) Af)) [some (.tup (ps.map p3U)),some (p3U p),some (pr p.2)] L=some (.seq ((aO ps.length).map fun (i:Nat)=>U.tup [.int (i:Int),p3U (ptAt ps i)]),L):=by
  rw[<- Ag3];rfl
 obtain ⟨x,e⟩:=Bp (ix:=[none,none,some 2]) (it:=.seq ((aO ps.length).map fun (i:Nat)=>U.tup [.int (i:Int),p3U (ptAt ps i)])) (g:=(MR.gTup 2 (MR.gCons (gN 0) (MR.gCons (gN 1) MR.gNil)))) (tt:=some E3) (fe:=Jq) (δ:=[some (.tup (ps.map p3U)),some (p3U p),some (pr p.2)]) (L:=L) (L0:=L)
  (aO ps.length) (fun (i:Nat)=>U.tup [.int (i:Int),p3U (ptAt ps i)]) (fun j=>Gq p.2 (ptAt ps j).2) (fun (j:Nat)=>.int (j:Int)) (fun δ=>∃ a b,δ = [a,b,some (pr p.2)]) hi (by simp[IU.size]) (by simp;omega) ⟨none,none,rfl⟩
  (fun k x=>rfl)
  (fun j δ x _ ⟨y,z,hδ⟩=>by
   subst hδ
   obtain ⟨w,e1⟩:=Aip p.2 (ptAt ps j).2 (L++x)
   refine ⟨[some (.int (j:Int)),some (p3U (ptAt ps j)),some (pr p.2)],rfl,⟨_,_,rfl⟩,w,?_,fun _=>⟨[],?_⟩⟩
   ·show E3 [some (.int (j:Int)),some (p3U (ptAt ps j)),some (pr p.2)] (L++x)=_
    have hp:=S6 (i:=1) (δ:=[some (.int (j:Int)),some (p3U (ptAt ps j)),some (pr p.2)]) rfl (Lv (ptAt ps j) (L++x))
    have v2:Ad 2 [some (.int (j:Int)),some (p3U (ptAt ps j)),some (pr p.2)] (L++x)=some (pr p.2,L++x):=rfl
    unfold E3
    rw[fTru_eq,fOwn_eq,fCons_eq,v2,aA,fCons_eq,hp]
    simp only[aA,fNil_eq,aC,aM,aY,if_true,e1,truU_bl]
   ·rw[bB];rfl)
 have hm:((aO ps.length).filter fun j=>Gq p.2 (ptAt ps j).2).map (fun (j:Nat)=>U.int (j:Int))=ixU (Ll ps p.2):=rfl
 rw[hm] at e
 generalize ixU (Ll ps p.2)=us at e
 refine ⟨(L++x).length,L++x++[HU.lst us],?_,by simp,⟨x++[HU.lst us],by rw[dE]⟩,by simp⟩
 unfold Eb fnU Mm
 simp only[aM,aY,if_true,aW,bW,bN,dC,dL]
 rw[Ak s1,fRet_eq,e]
 simp only[aC,aA]
theorem toI_ints(l:List Int):mapO toI (l.map U.int)=some l:=by
 induction l with
 | nil=>rfl
 | cons a r ih=>simp only[aW,mapO,toI,ih,aA,aC]
noncomputable def Oe(bs:List Int)(js:List Nat):Int:=(js.map fun j=>bs.getD j 0).sum
variable {t:Nat}
theorem Adx{b:Nat}{bs:List Int}{js:List Nat}(hb:L[b]? = some (.lst (bs.map U.int)))(ht:L[t]? = some (.lst (ixU js)))(hj:∀ j∈js,j < bs.length)(hl:js.length<=1000):∃ L',Nk [.ref b,.ref t] L=some (.int (Oe bs js),L')/\Gw L L':=by
 have hbs:=Aj hb
 have hts:Ao L t=some (js.map fun (j:Nat)=>U.int (j:Int)):=Aj ht
 obtain ⟨x,e⟩:=Bp (ix:=[none,some 0]) (fi:=Bg (Ad 1)) (it:=.ref t) (g:=gN 0) (tt:=none) (fe:=Lr) (δ:=[some (.ref b),some (.ref t)]) (L:=L) (L0:=L)
  js (fun (j:Nat)=>U.int (j:Int)) (fun _=>true) (fun (j:Nat)=>.int (bs.getD j 0)) (fun δ=>∃ z,δ = [z,some (.ref b)]) (by simp[B0 hts]) (by rw[Dy hts];simp) (by omega) ⟨none,rfl⟩
  (fun k x=>Hj (Br hts))
  (fun j δ x hjm ⟨y,hδ⟩=>by
   subst hδ
   refine ⟨[some (.int (j:Int)),some (.ref b)],rfl,⟨_,rfl⟩,[],by simp[Iw],fun _=>⟨[],?_⟩⟩
   have hjl:=hj j hjm
   have hix:L2.atI (bs.map U.int) (j:Int)=some (.int (bs.getD j 0)):=by
    rw[Rr (by omega) (by rw[aQ];omega),eJ,bO,aL hjl]
    simp[aP,hjl]
   rw[bB,bB]
   unfold Lr
   simp only[f2_eq,fVar_eq,aN,aI,aV,aC,aA,semIx_ref,Br hbs,hix])
 have hff:hV (fun _=>true) js=js:=dX.mpr (fun _ _=>rfl)
 have hmm:js.map (fun (j:Nat)=>U.int (bs.getD j 0))=(js.map fun j=>bs.getD j 0).map U.int:=by simp
 rw[hff,hmm] at e
 have q2:Ao (L++x++[HU.lst ((js.map fun j=>bs.getD j 0).map U.int)]) (L++x).length=some ((js.map fun j=>bs.getD j 0).map U.int):=Aj (by simp)
 have hs:E7 [.ref (L++x).length] (L++x++[HU.lst ((js.map fun j=>bs.getD j 0).map U.int)])=some (.int (Oe bs js),L++x++[HU.lst ((js.map fun j=>bs.getD j 0).map U.int)]):=by
  simp only[E7,q2,aA,toI_ints,aC,Oe]
 generalize Oe bs js=sm at hs
 generalize (js.map fun j=>bs.getD j 0).map U.int=us at e hs
 refine ⟨L++x++[HU.lst us],?_,⟨x++[HU.lst us],by rw[dE]⟩⟩
 unfold Nk fnU W3
 simp only[aM,aY,if_true,aW,bW,eQ,dW,bB]
 rw[fRet_eq,fCall_eq,fCons_eq,e]
 simp only[aA,fNil_eq,aC,hs]
theorem Ya(ps:List P3)(hl:ps.length<=100)(L:UH)(x1 x2 x3:Option U):∃ (r:Nat) (rs:List Nat) (L':UH),Bk [none,some 0] (Bg (Ad 0)) (gN 0) none De [some (.tup (ps.map p3U)),x1,x2,x3] L=some (.ref r,L')/\L'[r]? = some (.lst (rs.map U.ref))/\rs.length=ps.length/\(∀ (i ρ:Nat),rs[i]? = some ρ->L'[ρ]? = some (HU.lst (ixU (Ll ps (ptAt ps i).2))))/\Gw L L':=by
 have hi:Bg (Ad 0) [some (.tup (ps.map p3U)),x1,x2,x3] L=some (.seq (ps.map p3U),L):=by simp[Qq]
 obtain ⟨us,δ',M',e,⟨z,hδ⟩,rs,hrs,hlr,hat,gM⟩:=Aaj (ix:=[none,some 0]) (it:=.seq (ps.map p3U)) (g:=gN 0) (tt:=none) (fe:=De) (us:=ps.map p3U) (δ:=[some (.tup (ps.map p3U)),x1,x2,x3]) (L:=L) (L0:=L)
   (fun k acc δ' (M:UH)=>(∃ z,δ'=[z,some (.tup (ps.map p3U))])/\∃ (rs:List Nat),acc=rs.map U.ref/\rs.length=k/\(∀ (i ρ:Nat),rs[i]? = some ρ->M[ρ]? = some (HU.lst (ixU (Ll ps (ptAt ps i).2))))/\Gw L M)
   hi (by simp[IU.size]) ⟨⟨none,rfl⟩,[],rfl,rfl,by simp,Gw.refl L⟩
   (fun k acc δ L _ _=>rfl)
   (fun k u acc δ M hu ⟨⟨z,hδ⟩,rs,hrs,hlr,hat,gM⟩=>by
    subst hδ
    rw[bO] at hu
    obtain ⟨p,hp,rfl⟩:=aH.mp hu
    have hk:=(aF.mp hp).1
    have hpk:ptAt ps k=p:=by unfold ptAt;rw[aP,hp];rfl
    obtain ⟨r,M',e1,h1,g1,_⟩:=Wk ps (by omega) p M
    have ha:acc.length < 16777216:=by rw[hrs,aQ,hlr];omega
    refine ⟨[some (p3U p),some (.tup (ps.map p3U))],M,rfl,true,M,rfl,fun _=>⟨.ref r,M',?_,ha,⟨_,rfl⟩,rs++[r],by simp[hrs],by simp[hlr],?_,gM.trans g1⟩,fun h=>by cases h⟩
    ·unfold De
     exact T9 (i:=1) (j:=0) rfl rfl e1
    ·intro i ρ hρ
     by_cases hi:i < rs.length
     ·rw[bI hi] at hρ
      exact g1.get (hat i ρ hρ)
     ·have hik:i=k:=by
       have:=(aF.mp hρ).1
       simp at this;omega
      subst hik
      rw[cJ (by omega),hlr,eQ] at hρ
      cases hρ
      rw[hpk];exact h1)
 rw[aQ] at hlr
 exact ⟨_,rs,_,e,by rw[hrs];simp,hlr,fun i ρ hρ=>(Gw.new M' _).get (hat i ρ hρ),gM.trans (Gw.new _ _)⟩
theorem Wc{a b c:Int×Int}(h1:Gq a b=true)(h2:Gq b c=true):Gq a c=true:=by
 simp only[Gq,pF,cG,qQ,oO,beq_eq_false_iff_ne,decide_eq_true_eq] at h1 h2 ⊢
 obtain ⟨a1,a2,a3⟩:=h1
 obtain ⟨b1,b2,b3⟩:=h2
 refine ⟨by omega,by omega,?_⟩
 rcases a3 with h | h
 ·left;intro e;omega
 ·right;intro e;omega
theorem Vz(a:Int×Int):Gq a a=false:=by
 simp[Gq]
theorem Acn{β:Type}{p q:β->Bool}(l:List β)(h:∀ x∈l,p x=true->q x=true):(l.filter p).length<=(l.filter q).length:=by
 induction l with
 | nil=>simp
 | cons a l ih=>
  have ih':=ih (fun x hx=>h x (aK _ hx))
  have ha:=h a (aT ..)
  cases hp:p a with
  | true=>
   rw[cP hp,cP (ha hp),aM,aM];omega
  | false=>
   rw[cQ (by simp[hp])]
   cases hq:q a with
   | true=>rw[cP hq,aM];omega
   | false=>rw[cQ (by simp[hq])];exact ih'
theorem G5{β:Type}{p q:β->Bool}:∀ (l:List β),(∀ x∈l,p x=true->q x=true)->(∃ x∈l,q x=true/\p x=false)->(l.filter p).length < (l.filter q).length
 | [],_,h=>by obtain ⟨x,hx,_⟩:=h;cases hx
 | a::l,h,hx=>by
  have h':∀ x∈l,p x=true->q x=true:=fun x hx=>h x (aK _ hx)
  have ha:=h a (aT ..)
  obtain ⟨x,hx,hq,hp⟩:=hx
  rcases bH.mp hx with rfl | hx
  ·rw[cQ (by simp[hp]),cP hq,aM]
   have:=Acn l h'
   omega
  ·have ih:=G5 l h' ⟨x,hx,hq,hp⟩
   cases hpa:p a with
   | true=>rw[cP hpa,cP (ha hpa),aM,aM];omega
   | false=>
    rw[cQ (by simp[hpa])]
    cases hqa:q a with
    | true=>rw[cP hqa,aM];omega
    | false=>rw[cQ (by simp[hqa])];exact ih
theorem Ahw{a:Int×Int}(h:j∈Ll ps a):(Ll ps (ptAt ps j).2).length < (Ll ps a).length:=by
 have hj:=bT.mp h
 exact G5 _ (fun x _ hx=>Wc hj.2 hx) ⟨j,hj.1,hj.2,Vz _⟩
theorem Wu{a:Int×Int}(h:j∈Ll ps a):j < ps.length:=bG.mp (bT.mp h).1
theorem Wl(ps:List P3)(a:Int×Int):(Ll ps a).length<=ps.length:=by
 have:=dS (fun j=>Gq a (ptAt ps j).2) (aO ps.length)
 simpa[Ll] using this
noncomputable def bg(ps:List P3):Nat->List Int
 | 0=>bN ps.length 1
 | t+1=>(aO ps.length).map fun i=>Oe (bg ps t) (Ll ps (ptAt ps i).2)
theorem Sl(ps:List P3)(t:Nat):(bg ps t).length=ps.length:=by
 cases t <;> simp[bg]
theorem Akx(h:i < ps.length):(bg ps (t+1)).getD i 0=Oe (bg ps t) (Ll ps (ptAt ps i).2):=by
 simp[bg,aP,h]
theorem Xn:∀ l:List Int,(∀ x∈l,x=0)->l.sum=0
 | [],_=>rfl
 | a::l,h=>by
  rw[jH,h a (aT ..),Xn l (fun x hx=>h x (aK _ hx))];rfl
theorem Agg(ps:List P3):∀ (t i:Nat),i < ps.length->(Ll ps (ptAt ps i).2).length < t->(bg ps t).getD i 0=0
 | 0,i,_,h=>by omega
 | t+1,i,hi,h=>by
  rw[Akx hi]
  unfold Oe
  refine Xn _ fun x hx=>?_
  obtain ⟨j,hj,rfl⟩:=bU.mp hx
  exact Agg ps t j (Wu hj) (by have:=Ahw hj;omega)
theorem Aa3(ps:List P3):(bg ps (ps.length+1)).any (fun n=>!(n == 0))=false:=by
 rw[mH]
 intro x hx
 obtain ⟨i,hi,rfl⟩:=fE hx
 have hi':i < ps.length:=by rw[Sl] at hi;exact hi
 have:=Agg ps (ps.length+1) i hi' (by have:=Wl ps (ptAt ps i).2;omega)
 rw[aP,aL hi] at this
 simpa using this
theorem Tt{c:FT}{body:FS}{N:Nat}{P:Nat->UE->UH->Prop}{Q:UE->UH->Prop}
  (hgo:∀ k δ L,k < N->P k δ L->∃ L1,c δ L=some (true,L1)/\∃ δ2 M2,body δ L1=some (.nx δ2,M2)/\P (k+1) δ2 M2)
  (hend:∀ δ L,P N δ L->∃ L1,c δ L=some (false,L1)/\Q δ L1):∀ (f k m:Nat) (δ:UE) (L:UH),k+f=N->f < m->P k δ L->∃ δ' L',Fz c body m δ L=some (.nx δ',L')/\Q δ' L'
 | 0,k,m+1,δ,L,hk,hm,h=>by
  have:k=N:=by omega
  subst this
  obtain ⟨L1,e1,q⟩:=hend δ L h
  refine ⟨δ,L1,?_,q⟩
  unfold Fz
  simp only[e1,aA,bK,if_false]
 | f+1,k,m+1,δ,L,hk,hm,h=>by
  obtain ⟨L1,e1,δ2,M2,e2,h2⟩:=hgo k δ L (by omega) h
  obtain ⟨δ',L',e3,q⟩:=Tt hgo hend f (k+1) m δ2 M2 (by omega) (by omega) h2
  refine ⟨δ',L',?_,q⟩
  unfold Fz
  simp only[e1,aA,if_true,e2,e3]
theorem Ln(b:Nat->Bool):∀ n,b n=false->∃ T,T<=n/\b T=false/\∀ t,t < T->b t=true
 | 0,h=>⟨0,aS _,h,fun t ht=>by omega⟩
 | n+1,h=>by
  by_cases hx:∃ t,t<=n/\b t=false
  ·obtain ⟨t,ht,hb⟩:=hx
   obtain ⟨T,hT,h1,h2⟩:=Ln b t hb
   exact ⟨T,by omega,h1,h2⟩
  ·refine ⟨n+1,aS _,h,fun t ht=>?_⟩
   cases hb:b t with
   | true=>rfl
   | false=>exact absurd ⟨t,by omega,hb⟩ hx
noncomputable def Kt(ps:List P3)(T:Nat):List Int:=(aO T).map fun t=>(bg ps t).sum
noncomputable def G0(ps:List P3)(t:Nat):Bool:=(bg ps t).any fun n=>!(n == 0)
structure Ab(M:UH)(A n:Nat)(rs:List Nat)(ps:List P3):Prop where
 hA:M[A]? = some (.lst (rs.map U.ref))
 hl:rs.length=ps.length
 at_:∀ (i ρ:Nat),rs[i]? = some ρ->M[ρ]? = some (HU.lst (ixU (Ll ps (ptAt ps i).2)))
 An:A < n
 rn:∀ (i ρ:Nat),rs[i]? = some ρ->ρ < n
variable {A:Nat}{rs:List Nat}
theorem Ab.gw{M':UH}(h:Ab M A n rs ps)(g:Gw M M'):Ab M' A n rs ps:=⟨g.get h.hA,h.hl,fun i ρ e=>g.get (h.at_ i ρ e),h.An,h.rn⟩
theorem Ab.set(h:Ab M A n rs ps)(o:HU):Ab (M.set n o) A n rs ps:=
 ⟨by rw[bL (by have:=h.An;omega)];exact h.hA,h.hl,fun i ρ e=>by rw[bL (by have:=h.rn i ρ e;omega)];exact h.at_ i ρ e,h.An,h.rn⟩
variable {k:Nat}
theorem Y7{b:Nat}(h:Ab M A n rs ps)(hb:M[b]? = some (.lst ((bg ps k).map U.int)))(hn:ps.length<=100)(x0 x3:Option U) :
  ∃ (r:Nat) (M':UH),Bk [none,some 2] (Bg (Ad 1)) (gN 0) none Dd [x0,some (.ref A),some (.ref b),x3] M=some (.ref r,M')/\M'[r]? = some (.lst ((bg ps (k+1)).map U.int))/\Gw M M'/\M.length<=r:=by
 have hrr:rs.map U.ref=(aO ps.length).map fun i=>U.ref (rs.getD i 0):=by
  apply kJ
  ·simp[h.hl]
  ·intro i h1 h2
   have hi:i < rs.length:=by simpa using h1
   simp[aP,hi]
 have hs:Ao M A=some ((aO ps.length).map fun i=>U.ref (rs.getD i 0)):=by rw[<- hrr];exact Aj h.hA
 obtain ⟨x,e⟩:=Bp (ix:=[none,some 2]) (fi:=Bg (Ad 1)) (it:=.ref A) (g:=gN 0) (tt:=none) (fe:=Dd) (δ:=[x0,some (.ref A),some (.ref b),x3]) (L:=M) (L0:=M)
  (aO ps.length) (fun i=>U.ref (rs.getD i 0)) (fun _=>true) (fun i=>.int (Oe (bg ps k) (Ll ps (ptAt ps i).2))) (fun δ=>∃ z,δ = [z,some (.ref b)]) (by simp[B0 hs]) (by rw[Dy hs];simp) (by simp;omega) ⟨none,rfl⟩
  (fun k x=>Hj (Br hs))
  (fun i δ x hi ⟨y,hδ⟩=>by
   subst hδ
   have hil:=bG.mp hi
   have hg:rs[i]? = some (rs.getD i 0):=by
    have:i < rs.length:=by rw[h.hl];exact hil
    simp[aP,this]
   have hat:=h.at_ i _ hg
   obtain ⟨M',e1,z,hz⟩:=Adx (L:=M++x) ((Gw.new M x).get hb) ((Gw.new M x).get hat) (fun j hj=>by rw[Sl];exact Wu hj) (by have:=Wl ps (ptAt ps i).2;omega)
   rw[hz] at e1
   refine ⟨[some (.ref (rs.getD i 0)),some (.ref b)],rfl,⟨_,rfl⟩,[],by simp[Iw],fun _=>⟨z,?_⟩⟩
   rw[bB]
   unfold Dd
   exact T9 (i:=1) (j:=0) rfl rfl e1)
 have hff:hV (fun _=>true) (aO ps.length)=aO ps.length:=dX.mpr (fun _ _=>rfl)
 have hmm:(aO ps.length).map (fun i=>U.int (Oe (bg ps k) (Ll ps (ptAt ps i).2)))=(bg ps (k+1)).map U.int:=by simp[bg]
 rw[hff,hmm] at e
 exact ⟨_,_,e,by simp,⟨x++[HU.lst ((bg ps (k+1)).map U.int)],by rw[dE]⟩,by simp⟩
theorem Ahi{b:Nat}{bs:List Int}(h:L[b]? = some (.lst (bs.map U.int))):Ql [.ref b] L=some (.bl (bs.any fun n=>!(n == 0)),L):=by
 simp only[Ql,Aj h,aA,toI_ints,aC]
theorem told_step(ps:List P3)(k:Nat):Kt ps (k+1)=Kt ps k++[(bg ps k).sum]:=by
 unfold Kt
 rw[lB];simp
theorem Ai4(ps:List P3)(hn:ps.length<=100)(L:UH):∃ (T:Nat) (L':UH),Dq [.tup (ps.map p3U)] L=some (.tup ((Kt ps T).map U.int),L')/\T<=ps.length+1/\G0 ps T=false/\(∀ t,t < T->G0 ps t=true)/\Gw L L':=by
 obtain ⟨T,hT,h1,h2⟩:=Ln (G0 ps) (ps.length+1) (Aa3 ps)
 have sm0:small ([]:List U).length=true:=small_of (by show 0<=16777216;decide)
 have sm1:∀ x:U,small [x].length=true:=fun _=>small_of (by show 1<=16777216;decide)
 obtain ⟨A,rs,L1,e1,hA,hlr,hat,g1⟩:=Ya ps hn L none none none
 have s1:=Ds (i:=1) e1
 simp only[aZ,bA] at s1
 have hl1:(Cs (Ac (fC (.int 1)) Af)) [some (.tup (ps.map p3U)),some (.ref A),none,none] L1=some (.ref L1.length,L1++[.lst [.int 1]]):=by
  simp only[fLst_eq,fCons_eq,fC_eq,fNil_eq,aA,aC]
  rw[if_pos (sm1 _)]
 have q1:(L1++[HU.lst [.int 1]])[L1.length]? = some (.lst [.int 1]):=by simp
 have hlen:Aq [.tup (ps.map p3U)] (L1++[HU.lst [.int 1]])=some (.int ps.length,L1++[HU.lst [.int 1]]):=by simp[Aq,lenU]
 have hrep:(bN ((ps.length:Int)).toNat [U.int 1]).flatten=(bg ps 0).map U.int:=by
  rw[eJ]
  show _=(bN ps.length (1:Int)).map U.int
  generalize ps.length=k
  induction k with
  | zero=>rfl
  | succ k ih=>rw[eI,fR,ih,eI];rfl
 have hmul:Bi (.ref L1.length) (.int ps.length) (L1++[.lst [.int 1]])=some (.ref (L1++[HU.lst [.int 1]]).length,L1++[.lst [.int 1]]++[.lst ((bg ps 0).map U.int)]):=by
  rw[<- hrep]
  unfold Bi
  simp only[Cz q1,aA]
  rw[if_pos ⟨by omega,by omega,small_of (by simp;omega)⟩]
 have h2':(f2 Bi (Cs (Ac (fC (.int 1)) Af)) (Az Aq (Ac (Ad 0) Af))) [some (.tup (ps.map p3U)),some (.ref A),none,none] L1=some (.ref (L1++[HU.lst [.int 1]]).length,L1++[.lst [.int 1]]++[.lst ((bg ps 0).map U.int)]):=by
  rw[f2_eq,hl1]
  simp only[aA,fCall_eq,fCons_eq,fVar_eq,fNil_eq,aI,aV,aC,hlen,hmul]
 have s2:=Ds (i:=2) h2'
 simp only[aZ,bA] at s2
 have gM:Gw L1 (L1++[HU.lst [.int 1]]++[HU.lst ((bg ps 0).map U.int)]):=(Gw.new _ _).trans (Gw.new _ _)
 have hb0:(L1++[HU.lst [.int 1]]++[HU.lst ((bg ps 0).map U.int)])[(L1++[HU.lst [.int 1]]).length]? = some (.lst ((bg ps 0).map U.int)):=by simp
 generalize hM:L1++[HU.lst [.int 1]]++[HU.lst ((bg ps 0).map U.int)]=M at s2 gM hb0
 generalize (L1++[HU.lst [.int 1]]).length=b0 at s2 hb0
 have s3:(Ba (Cs Af) (gN 3)) [some (.tup (ps.map p3U)),some (.ref A),some (.ref b0),none] M=some (.nx [some (.tup (ps.map p3U)),some (.ref A),some (.ref b0),some (.ref M.length)],M++[.lst []]):=by
  rw[fAsg_eq,fLst_eq,fNil_eq,aA,if_pos sm0];rfl
 have hAl:=(aF.mp (gM.get hA)).1
 have hbl:=(aF.mp hb0).1
 have ab0:Ab (M++[.lst []]) A M.length rs ps:=⟨(Gw.new M _).get (gM.get hA),hlr,fun i ρ h=>(Gw.new M _).get (gM.get (hat i ρ h)),hAl,fun i ρ h=>(aF.mp (gM.get (hat i ρ h))).1⟩
 obtain ⟨δ',L',e,P⟩:=Tt (c:=Df) (body:=Fi) (N:=T)
  (P:=fun k δ K=>∃ b,δ = [some (.tup (ps.map p3U)),some (.ref A),some (.ref b),some (.ref M.length)]/\Ab K A M.length rs ps/\K[b]? = some (.lst ((bg ps k).map U.int))/\b≠M.length/\K[M.length]? = some (.lst ((Kt ps k).map U.int))/\Gw M K/\k<=T)
  (Q:=fun δ K=>∃ b,δ = [some (.tup (ps.map p3U)),some (.ref A),some (.ref b),some (.ref M.length)]/\K[M.length]? = some (.lst ((Kt ps T).map U.int))/\Gw M K)
  (fun k δ K hk ⟨b,hδ,ab,hb,hbn,ht,gK,_⟩=>by
   subst hδ
   have hany:=Ahi hb
   have hlv:=h2 k hk
   unfold G0 at hlv
   rw[hlv] at hany
   have hlen2:(Kt ps k).length=k:=by simp[Kt]
   have hsum:E7 [.ref b] K=some (.int (bg ps k).sum,K):=by simp only[E7,Aj hb,aA,toI_ints,aC]
   have ap:=Jv (.int (bg ps k).sum) ht (by rw[aQ,hlen2];omega)
   have hm:(Kt ps k).map U.int++[.int (bg ps k).sum]=(Kt ps (k+1)).map U.int:=by rw[told_step];simp
   rw[hm] at ap
   have ty:=Iv ht
   have htl:=(aF.mp ht).1
   have ab2:=ab.set (.lst ((Kt ps (k+1)).map U.int))
   have hb2:(K.set M.length (.lst ((Kt ps (k+1)).map U.int)))[b]? = some (.lst ((bg ps k).map U.int)):=by rw[bL (eR hbn)];exact hb
   obtain ⟨r,K2,e2,hr,g2,hge⟩:=Y7 ab2 hb2 hn (some (.tup (ps.map p3U))) (some (.ref M.length))
   have s:=Ds (i:=2) e2
   simp only[aZ,bA] at s
   rw[gY] at hge
   have d1:(Jp (Ep "list" Cy (Ad 3) (Ac (Az E7 (Ac (Ad 2) Af)) Af))) [some (.tup (ps.map p3U)),some (.ref A),some (.ref b),some (.ref M.length)] K=some (.nx [some (.tup (ps.map p3U)),some (.ref A),some (.ref b),some (.ref M.length)],K.set M.length (.lst ((Kt ps (k+1)).map U.int))):=by
    generalize (bg ps k).sum=sm at hsum ap
    rw[Jk,fMeth_eq]
    simp only[fVar_eq,aN,aI,aV,aC,aA,ty,if_true,fCons_eq,fCall_eq,fNil_eq,hsum,ap]
   refine ⟨K,?_,[some (.tup (ps.map p3U)),some (.ref A),some (.ref r),some (.ref M.length)],K2,?_,r,rfl,ab2.gw g2,hr,by omega,g2.get (bM htl),(gK.set (aS _) _).trans g2,by omega⟩
   ·unfold Df
    simp only[fTru_eq,fCall_eq,fCons_eq,fVar_eq,fNil_eq,aN,aI,aV,aC,aA,hany,truU_bl]
   ·unfold Fi
    rw[Ak d1,s])
  (fun δ K ⟨b,hδ,ab,hb,hbn,ht,gK,_⟩=>by
   subst hδ
   have hany:=Ahi hb
   unfold G0 at h1
   rw[h1] at hany
   refine ⟨K,?_,b,rfl,ht,gK⟩
   unfold Df
   simp only[fTru_eq,fCall_eq,fCons_eq,fVar_eq,fNil_eq,aN,aI,aV,aC,aA,hany,truU_bl])
  T 0 100000 [some (.tup (ps.map p3U)),some (.ref A),some (.ref b0),some (.ref M.length)] (M++[.lst []]) (by omega) (by omega) ⟨b0,rfl,ab0,(Gw.new M _).get hb0,by omega,by simp[Kt],Gw.new _ _,by omega⟩
 obtain ⟨b,hδ,ht,gK⟩:=P
 rw[hδ] at e
 have t2:C5 [.ref M.length] L'=some (.tup ((Kt ps T).map U.int),L'):=by simp only[C5,Aj ht,aC]
 refine ⟨T,L',?_,hT,h1,h2,(g1.trans gM).trans gK⟩
 generalize (Kt ps T).map U.int=tt at t2
 unfold Dq fnU Jt
 simp only[aM,aY,if_true,aW,bW,bN,dC,dL]
 rw[Ak s1,Ak s2,Ak s3,Ak e,fRet_eq,fCall_eq,fCons_eq]
 simp only[fVar_eq,fNil_eq,aN,aI,aV,aC,aA,t2]
noncomputable def Ab1(ps:List P3)(i j:Nat):Bool:=Gq (ptAt ps i).2 (ptAt ps j).2
noncomputable def sm(l:List Nat)(f:Nat->Int):Int:=(l.map f).sum
variable {l:List Nat}
theorem Ce{f g:Nat->Int}(h:∀ x∈l,f x=g x):sm l f=sm l g:=by
 unfold sm;rw[dI h]
theorem sm_cons(a:Nat)(l:List Nat)(f:Nat->Int):sm (a::l) f=f a+sm l f:=by simp[sm]
theorem sm_filter(p:Nat->Bool)(f:Nat->Int):∀ l:List Nat,sm (l.filter p) f=sm l fun j=>if p j then f j else 0
 | []=>rfl
 | a::l=>by
  have ih:=sm_filter p f l
  cases hp:p a with
  | true=>rw[cP hp,sm_cons,sm_cons,ih];simp[hp]
  | false=>rw[cQ (by simp[hp]),sm_cons,ih];simp[hp]
theorem Iu:∀ l:List Nat,sm l (fun _=>0)=0
 | []=>rfl
 | a::l=>by rw[sm_cons,Iu l];rfl
theorem Ago(f g:Nat->Int):∀ l:List Nat,(sm l fun j=>f j+g j)=sm l f+sm l g
 | []=>rfl
 | a::l=>by rw[sm_cons,sm_cons,sm_cons,Ago f g l];omega
theorem Abp(f:Nat->Nat->Int)(m:List Nat):∀ l:List Nat,(sm l fun i=>sm m fun j=>f i j)=sm m fun j=>sm l fun i=>f i j
 | []=>(Iu m).symm
 | a::l=>by
  rw[sm_cons,Abp f m l,<- Ago]
  exact Ce fun j _=>(sm_cons a l fun i=>f i j).symm
theorem Aai(f:Nat->Int)(c:Int):∀ l:List Nat,sm l f * c=sm l fun j=>f j * c
 | []=>by simp[sm]
 | a::l=>by rw[sm_cons,sm_cons,Int.add_mul,Aai f c l]
theorem Abu(f:Nat->Int)(c:Int):∀ l:List Nat,c * sm l f=sm l fun j=>c * f j
 | []=>by simp[sm]
 | a::l=>by rw[sm_cons,sm_cons,Int.mul_add,Abu f c l]
theorem Aap{f:Nat->Int}:∀ {l:List Nat},(∀ x∈l,0<=f x)->0<=sm l f
 | [],_=>rQ _
 | a::l,h=>by
  have h1:=h a (aT ..)
  have h2:=Aap (f:=f) (l:=l) fun x hx=>h x (aK _ hx)
  rw[sm_cons];omega
noncomputable def Bl(ps:List P3)(k:Nat):List Nat:=(aO ps.length).filter fun j=>Ab1 ps j k
noncomputable def en(ps:List P3):Nat->Nat->Int
 | 0,_=>1
 | t+1,k=>sm (Bl ps k) (en ps t)
noncomputable def bgf(ps:List P3)(t i:Nat):Int:=(bg ps t).getD i 0
theorem Nh(h:i < ps.length):bgf ps 0 i=1:=by simp[bgf,bg,aP,h]
theorem Lb(h:i < ps.length):bgf ps (t+1) i=sm (aO ps.length) fun j=>if Ab1 ps i j then bgf ps t j else 0:=by
 unfold bgf
 rw[Akx h,<- sm_filter]
 rfl
theorem Acd(ps:List P3)(t:Nat):(bg ps t).sum=sm (aO ps.length) (bgf ps t):=by
 unfold sm
 congr 1
 apply kJ
 ·simp[Sl]
 ·intro i h1 h2
  simp[bgf,aP,h1]
theorem Acg(ps:List P3):∀ t k,0<=en ps t k
 | 0,_=>by show (0:Int)<=1;decide
 | t+1,k=>Aap fun x _=>Acg ps t x
theorem Sr(ps:List P3):∀ t i,i < ps.length->0<=bgf ps t i
 | 0,i,h=>by rw[Nh h];decide
 | t+1,i,h=>by
  rw[Lb h]
  exact Aap fun x hx=>by
   split
   ·exact Sr ps t x (bG.mp hx)
   ·exact rQ _
theorem Acx(ps:List P3)(s t:Nat):(sm (aO ps.length) fun i=>bgf ps (s+1) i * en ps t i)=sm (aO ps.length) fun i=>bgf ps s i * en ps (t+1) i:=by
 have h1:(sm (aO ps.length) fun i=>bgf ps (s+1) i * en ps t i)=sm (aO ps.length) fun i=>sm (aO ps.length) fun j=>(if Ab1 ps i j then bgf ps s j else 0) * en ps t i:=
  Ce fun i hi=>by rw[Lb (bG.mp hi),Aai]
 have h2:(sm (aO ps.length) fun i=>bgf ps s i * en ps (t+1) i)=sm (aO ps.length) fun j=>sm (aO ps.length) fun i=>bgf ps s j * (if Ab1 ps i j then en ps t i else 0):=
  Ce fun i hi=>by
   show bgf ps s i * sm (Bl ps i) (en ps t)=_
   rw[Bl,sm_filter,Abu]
 rw[h1,h2,Abp]
 refine Ce fun j _=>Ce fun i _=>?_
 cases Ab1 ps i j <;> simp
theorem Ud(ps:List P3):∀ s t,(sm (aO ps.length) fun i=>bgf ps s i * en ps t i)=sm (aO ps.length) fun i=>bgf ps (s+t) i
 | s,0=>Ce fun i _=>by show bgf ps s i * 1=_;rw[rK];rfl
 | s,t+1=>by
  rw[<- Acx,Ud ps (s+1) t]
  have:s+1+t=s+(t+1):=by omega
  rw[this]
theorem Mz(ps:List P3)(t:Nat):sm (aO ps.length) (en ps t)=(bg ps t).sum:=by
 rw[Acd]
 have:=Ud ps 0 t
 rw[nX] at this
 rw[show sm (aO ps.length) (bgf ps t)=sm (aO ps.length) fun i=>bgf ps t i from rfl,<- this]
 exact Ce fun i hi=>by rw[Nh (bG.mp hi),Int.one_mul]
theorem Aa9:∀ l:List Int,(∀ x∈l,0<=x)->(∃ x∈l,x≠0)->0 < l.sum
 | [],_,h=>by obtain ⟨x,hx,_⟩:=h;cases hx
 | a::l,hn,h=>by
  have ha:=hn a (aT ..)
  have hl:0<=l.sum:=by
   have:∀ m:List Int,(∀ x∈m,0<=x)->0<=m.sum:=fun m=>by
    induction m with
    | nil=>intro _;exact rQ _
    | cons b m ih=>
     intro h
     rw[jH]
     have h1:=h b (aT ..)
     have h2:=ih fun x hx=>h x (aK _ hx)
     omega
   exact this l fun x hx=>hn x (aK _ hx)
  rw[jH]
  obtain ⟨x,hx,h0⟩:=h
  rcases bH.mp hx with rfl | hx
  ·omega
  ·have:=Aa9 l (fun x hx=>hn x (aK _ hx)) ⟨x,hx,h0⟩
   omega
theorem Ann(h:x∈bg ps t):∃ i,i < ps.length/\x=bgf ps t i:=by
 obtain ⟨i,hi,rfl⟩:=fE h
 have hi':i < ps.length:=by rw[Sl] at hi;exact hi
 exact ⟨i,hi',by simp[bgf,aP,hi]⟩
theorem Rj(h:G0 ps t=true):0 < (bg ps t).sum:=by
 obtain ⟨x,hx,h0⟩:=kI.mp h
 refine Aa9 _ (fun y hy=>?_) ⟨x,hx,by simpa using h0⟩
 obtain ⟨i,hi,rfl⟩:=Ann hy
 exact Sr ps t i hi
theorem Aba(h:G0 ps t=false):∀ i,i < ps.length->bgf ps t i=0:=fun i hi=>by
 have:=mH.mp h (bgf ps t i) (by
  unfold bgf
  rw[aP,aL (by rw[Sl];exact hi)]
  exact eO ..)
 simpa using this
variable {T:Nat}
theorem Abv(h:G0 ps T=false):∀ d i,i < ps.length->bgf ps (T+d) i=0
 | 0,i,hi=>Aba h i hi
 | d+1,i,hi=>by
  rw[show T+(d+1)=T+d+1 from rfl,Lb hi]
  exact (Ce (g:=fun _=>0) fun j hj=>by rw[Abv h d j (bG.mp hj)];simp).trans (Iu _)
theorem Xl(h:G0 ps T=false)(ht:T<=t):(bg ps t).sum=0:=by
 rw[Acd,<- Iu (aO ps.length)]
 refine Ce fun i hi=>?_
 have:=Abv h (t - T) i (bG.mp hi)
 rwa [show T+(t - T)=t by omega] at this
theorem Aar(f:Nat->Nat):∀ S:List Nat,S≠[]->∃ m∈S,∀ j∈S,f j<=f m
 | [],h=>absurd rfl h
 | [a],_=>⟨a,aT ..,fun j hj=>by rw[cB.mp hj];exact aS _⟩
 | a::b::S,_=>by
  obtain ⟨m,hm,h⟩:=Aar f (b::S) (by simp)
  by_cases hc:f a<=f m
  ·exact ⟨m,aK _ hm,fun j hj=>by rcases bH.mp hj with rfl | hj;exact hc;exact h j hj⟩
  ·exact ⟨a,aT ..,fun j hj=>by rcases bH.mp hj with rfl | hj;exact aS _;have:=h j hj;omega⟩
theorem Aas(h1:Ab1 ps i j=true)(h2:Ab1 ps j k=true):Ab1 ps i k=true:=Wc h1 h2
theorem Rt(ps:List P3)(i:Nat):Ab1 ps i i=false:=Vz _
theorem Uk(ps:List P3){S:List Nat}(h:S≠[]):∃ m∈S,∀ j∈S,Ab1 ps j m=false:=by
 obtain ⟨m,hm,hx⟩:=Aar (fun k=>(S.filter (Ab1 ps k)).length) S h
 refine ⟨m,hm,fun j hj=>?_⟩
 cases hb:Ab1 ps j m with
 | false=>rfl
 | true=>
  have:=G5 (p:=Ab1 ps m) (q:=Ab1 ps j) S (fun x _ hx=>Aas hb hx) ⟨m,hm,hb,Rt ps m⟩
  have:=hx j hj
  omega
noncomputable def wt(ps:List P3)(S:List Nat)(k:Nat):Nat:=2 ^ (S.filter (Ab1 ps k)).length
theorem Aey(ps:List P3):∀ (n:Nat) (S:List Nat),S.length=n->(S.map (wt ps S)).sum+1<=2 ^ n
 | 0,S,h=>by rw[List.length_eq_zero_iff.mp h];simp
 | n+1,S,h=>by
  obtain ⟨m,hm,hx⟩:=Uk ps (S:=S) (by intro e;rw[e] at h;cases h)
  have hp:=List.perm_cons_erase hm
  have hl:(S.erase m).length=n:=by rw[List.length_erase_of_mem hm];omega
  have ih:=Aey ps n (S.erase m) hl
  have hs:(S.map (wt ps S)).sum=wt ps S m+((S.erase m).map (wt ps S)).sum:=by
   rw[(hp.map (wt ps S)).sum_nat];simp
  have hf:∀ k,(S.filter (Ab1 ps k)).length=((m::S.erase m).filter (Ab1 ps k)).length:=fun k=>(hp.filter _).length_eq
  have hw:(S.erase m).map (wt ps S)=(S.erase m).map (wt ps (S.erase m)):=dI fun k hk=>by
   unfold wt
   rw[hf,cQ (by rw[hx k (List.mem_of_mem_erase hk)];simp)]
  have hm1:wt ps S m<=2 ^ n:=by
   unfold wt
   rw[hf,cQ (by rw[Rt];simp)]
   refine iY (by omega) ?_
   have:=dS (Ab1 ps m) (S.erase m)
   omega
  rw[hs,hw]
  have:2 ^ (n+1)=2 ^ n+2 ^ n:=by rw[Nat.pow_succ];omega
  omega
theorem So{c:FT}{body:FS}{P:Nat->UE->UH->Prop}{Q:UE->UH->Prop}
  (step:∀ k δ L,P k δ L->(∃ L1,c δ L=some (false,L1)/\Q δ L1)\/∃ L1,c δ L=some (true,L1)/\∃ δ2 M2 k',body δ L1=some (.nx δ2,M2)/\k' < k/\P k' δ2 M2) :
  ∀ (m k:Nat) (δ:UE) (L:UH),k < m->P k δ L->∃ δ' L',Fz c body m δ L=some (.nx δ',L')/\Q δ' L'
 | 0,k,δ,L,h,_=>by omega
 | m+1,k,δ,L,h,hP=>by
  unfold Fz
  rcases step k δ L hP with ⟨L1,e1,q⟩ | ⟨L1,e1,δ2,M2,k',e2,hk,hP2⟩
  ·exact ⟨δ,L1,by simp only[e1,aA,bK,if_false],q⟩
  ·obtain ⟨δ',L',e3,q⟩:=So step m k' δ2 M2 (by omega) hP2
   exact ⟨δ',L',by simp only[e1,aA,if_true,e2,e3],q⟩
theorem Rn(us:List U):Tc us []=us.isEmpty:=by cases us <;> rfl
theorem Akm(l:List Nat):∀ u∈ixU l,Pl 6 u:=fun u hu=>by
 obtain ⟨a,_,rfl⟩:=bU.mp hu
 exact Pl.int _ _
theorem Ml(h:j < ps.length)(L:UH):Am (.tup (ps.map p3U)) (.int (j:Int)) L=some (p3U (ptAt ps j),L):=by
 rw[Oq,Rr (by omega) (by rw[aQ];omega),eJ,bO,aL h]
 simp[ptAt,aP,h]
theorem Al0(l:List Nat):mapO toV (ixU l)=some (l.map fun (j:Nat)=>L2.V.int (j:Int)):=by
 induction l with
 | nil=>rfl
 | cons a l ih=>
  unfold ixU at ih ⊢
  simp only[aW,mapO,toV,ih,aA,aC]
theorem inV_ix(k:Nat)(l:List Nat):inV (.int (k:Int)) (l.map fun (j:Nat)=>L2.V.int (j:Int))=l.contains k:=by
 induction l with
 | nil=>rfl
 | cons a l ih=>
  have h1:inV (.int (k:Int)) ((a::l).map fun (j:Nat)=>L2.V.int (j:Int))=(eqV (.int (a:Int)) (.int (k:Int)) || inV (.int (k:Int)) (l.map fun (j:Nat)=>L2.V.int (j:Int))):=rfl
  rw[h1,ih,List.contains_cons]
  congr 1
  show ((a:Int) == (k:Int))=(k == a)
  rw[iR,beq_iff_eq,beq_iff_eq]
  omega
theorem Aei(hj:j < ps.length)(hk:k < ps.length)(L:UH):C3 [some (.int (j:Int)),some (.tup (ps.map p3U)),some (.int (k:Int))] L=some (Ab1 ps j k,L):=by
 have i1:(f2 Am (Ad 1) (Ad 0)) [some (.int (j:Int)),some (.tup (ps.map p3U)),some (.int (k:Int))] L=some (p3U (ptAt ps j),L):=by
  rw[f2_eq];simp only[fVar_eq,aN,aI,aV,aC,aA,Ml hj]
 have i2:(f2 Am (Ad 1) (Ad 2)) [some (.int (j:Int)),some (.tup (ps.map p3U)),some (.int (k:Int))] L=some (p3U (ptAt ps k),L):=by
  rw[f2_eq];simp only[fVar_eq,aN,aI,aV,aC,aA,Ml hk]
 unfold C3
 rw[fTru_eq,fOwn_eq,fCons_eq,i1]
 simp only[aA,fCons_eq,i2,fNil_eq,aC,aM,aY,if_true,Mp,truU_bl]
 rfl
variable {ls:List Nat}
theorem Yv{l:Nat}(h:L[l]? = some (.lst (ixU ls)))(hls:∀ j∈ls,j < ps.length)(hk:k < ps.length)(hl:ls.length<=1000) :
  ∃ x,Bk [none,some 2,some 0] (Bg (Ad 1)) (gN 0) (some C3) Eg [some (.int (k:Int)),some (.ref l),some (.tup (ps.map p3U))] L=some (.ref (L++x).length,L++x++[.lst (ixU (ls.filter fun j=>Ab1 ps j k))]):=by
 have hs:Ao L l=some (ls.map fun (j:Nat)=>U.int (j:Int)):=Aj h
 exact Bp (ix:=[none,some 2,some 0]) (fi:=Bg (Ad 1)) (it:=.ref l) (g:=gN 0) (tt:=some C3) (fe:=Eg) (δ:=[some (.int (k:Int)),some (.ref l),some (.tup (ps.map p3U))]) (L:=L) (L0:=L)
  ls (fun (j:Nat)=>U.int (j:Int)) (fun j=>Ab1 ps j k) (fun (j:Nat)=>U.int (j:Int)) (fun δ=>∃ z,δ = [z,some (.tup (ps.map p3U)),some (.int (k:Int))]) (by simp[B0 hs]) (by rw[Dy hs];simp) (by omega) ⟨none,rfl⟩
  (fun k x=>Hj (Br hs))
  (fun j δ x hj ⟨z,hδ⟩=>by
   subst hδ
   refine ⟨[some (.int (j:Int)),some (.tup (ps.map p3U)),some (.int (k:Int))],rfl,⟨_,rfl⟩,[],?_,fun _=>⟨[],by simp[Eg]⟩⟩
   rw[bB]
   exact Aei (hls j hj) hk _)
noncomputable def B9(ps:List P3)(ls:List Nat)(k:Nat):Bool:=(ls.filter fun j=>Ab1 ps j k).isEmpty
theorem Ahp{l:Nat}(h:L[l]? = some (.lst (ixU ls)))(hls:∀ j∈ls,j < ps.length)(hk:k < ps.length)(hl:ls.length<=1000) :
  ∃ x,C4 [some (.int (k:Int)),some (.ref l),some (.tup (ps.map p3U))] L=some (B9 ps ls k,L++x):=by
 have sm0:small ([]:List U).length=true:=small_of (by show 0<=16777216;decide)
 obtain ⟨x,e⟩:=Yv h hls hk hl
 have q1:Ao (L++x++[HU.lst (ixU (ls.filter fun j=>Ab1 ps j k))]++[HU.lst []]) (L++x).length=some (ixU (ls.filter fun j=>Ab1 ps j k)):=Br (Aj (by simp))
 have q2:Ao (L++x++[HU.lst (ixU (ls.filter fun j=>Ab1 ps j k))]++[HU.lst []]) (L++x++[HU.lst (ixU (ls.filter fun j=>Ab1 ps j k))]).length=some []:=Aj (by simp)
 have he:=Ue q1 q2 (Akm _) (by simp)
 have hb:Tc (ixU (ls.filter fun j=>Ab1 ps j k)) []=B9 ps ls k:=by
  rw[Rn,B9];unfold ixU;cases ls.filter fun j=>Ab1 ps j k <;> rfl
 rw[hb] at he
 refine ⟨x++[HU.lst (ixU (ls.filter fun j=>Ab1 ps j k))]++[HU.lst []],?_⟩
 rw[<- dE,<- dE]
 generalize ixU (ls.filter fun j=>Ab1 ps j k)=us at e he
 have hl0:∀ δ M,(Cs Af) δ M=some (.ref M.length,M++[.lst []]):=fun δ M=>by rw[fLst_eq,fNil_eq,aA,if_pos sm0]
 unfold C4
 rw[fTest_eq,f2_eq,e]
 simp only[aA,hl0,he]
theorem Yn{l:Nat}(h:L[l]? = some (.lst (ixU ls)))(hls:∀ j∈ls,j < ps.length)(hl:ls.length<=1000)(x2 x3:Option U) :
  ∃ x,Bk [none,some 1,some 0] (Bg (Ad 1)) (gN 0) (some C4) Eh [some (.tup (ps.map p3U)),some (.ref l),x2,x3] L=some (.ref (L++x).length,L++x++[.lst (ixU (ls.filter (B9 ps ls)))]):=by
 have hs:Ao L l=some (ls.map fun (j:Nat)=>U.int (j:Int)):=Aj h
 exact Bp (ix:=[none,some 1,some 0]) (fi:=Bg (Ad 1)) (it:=.ref l) (g:=gN 0) (tt:=some C4) (fe:=Eh) (δ:=[some (.tup (ps.map p3U)),some (.ref l),x2,x3]) (L:=L) (L0:=L)
  ls (fun (j:Nat)=>U.int (j:Int)) (B9 ps ls) (fun (j:Nat)=>U.int (j:Int)) (fun δ=>∃ z,δ = [z,some (.ref l),some (.tup (ps.map p3U))]) (by simp[B0 hs]) (by rw[Dy hs];simp) (by omega) ⟨none,rfl⟩
  (fun k x=>Hj (Br hs))
  (fun j δ x hj ⟨z,hδ⟩=>by
   subst hδ
   obtain ⟨y,e⟩:=Ahp (L:=L++x) ((Gw.new L x).get h) hls (hls j hj) hl
   exact ⟨[some (.int (j:Int)),some (.ref l),some (.tup (ps.map p3U))],rfl,⟨_,rfl⟩,y,e,fun _=>⟨[],by simp[Eh]⟩⟩)
theorem Acj{l:Nat}{fs:List Nat}(h:L[l]? = some (.lst (ixU ls)))(hf:L[f]? = some (.lst (ixU fs)))(hl:ls.length<=1000)(x0 x2:Option U) :
  ∃ x,Bk [none,some 3] (Bg (Ad 1)) (gN 0) (some C8) Ej [x0,some (.ref l),x2,some (.ref f)] L=some (.ref (L++x).length,L++x++[.lst (ixU (ls.filter fun k=>!fs.contains k))]):=by
 have hs:Ao L l=some (ls.map fun (j:Nat)=>U.int (j:Int)):=Aj h
 have hfs:Ao L f=some (ixU fs):=Aj hf
 exact Bp (ix:=[none,some 3]) (fi:=Bg (Ad 1)) (it:=.ref l) (g:=gN 0) (tt:=some C8) (fe:=Ej) (δ:=[x0,some (.ref l),x2,some (.ref f)]) (L:=L) (L0:=L)
  ls (fun (j:Nat)=>U.int (j:Int)) (fun k=>!fs.contains k) (fun (j:Nat)=>U.int (j:Int)) (fun δ=>∃ z,δ = [z,some (.ref f)]) (by simp[B0 hs]) (by rw[Dy hs];simp) (by omega) ⟨none,rfl⟩
  (fun k x=>Hj (Br hs))
  (fun j δ x hj ⟨z,hδ⟩=>by
   subst hδ
   refine ⟨[some (.int (j:Int)),some (.ref f)],rfl,⟨_,rfl⟩,[],?_,fun _=>⟨[],by simp[Ej]⟩⟩
   rw[bB]
   have hin:Ww true (.int (j:Int)) (.ref f) (L++x)=some (.bl (!fs.contains j),L++x):=by
    simp only[Ww,Br hfs,aA,toV,Al0,inV_ix,aC,if_true]
   show C8 [some (.int (j:Int)),some (.ref f)] (L++x)=_
   unfold C8
   rw[fTest_eq,f2_eq]
   simp only[fVar_eq,aN,aI,aV,aC,aA,hin])
theorem Na{β:Type}(p:β->Bool):∀ l:List β,(l.filter p++l.filter fun x=>!p x).Perm l
 | []=>.nil
 | a::l=>by
  cases hp:p a with
  | true=>
   rw[cP hp,cQ (by simp[hp]),dC]
   exact (Na p l).cons a
  | false=>
   rw[cQ (by simp[hp]),cP (by simp[hp])]
   exact List.perm_middle.trans ((Na p l).cons a)
structure Ord(ps:List P3)(F:List Nat)(ls:List Nat):Prop where
 pm:(F++ls).Perm (aO ps.length)
 at_:∀ p k,F[p]? = some k->∀ j,j < ps.length->Ab1 ps j k=true->j∈F.take p
variable {F:List Nat}
theorem Ord.lt(h:Ord ps F ls)(hj:j∈F++ls):j < ps.length:=bG.mp (h.pm.mem_iff.mp hj)
theorem Ord.more(h:Ord ps F ls):Ord ps (F++ls.filter (B9 ps ls)) (ls.filter fun k=>!B9 ps ls k):=by
 refine ⟨?_,fun p k hk j hj hb=>?_⟩
 ·rw[dE]
  exact ((Na (B9 ps ls) ls).append_left F).trans h.pm
 ·by_cases hp:p < F.length
  ·rw[bI hp] at hk
   rw[List.take_append_of_le_length (by omega)]
   exact h.at_ p k hk j hj hb
  ·rw[cJ (by omega)] at hk
   have hm:=bV hk
   obtain ⟨hm1,hm2⟩:=bT.mp hm
   have hjm:j∈F++ls:=h.pm.mem_iff.mpr (bG.mpr hj)
   rcases cR.mp hjm with q | q
   ·rw[List.take_append]
    refine cO _ ?_
    rw[fZ (by omega)];exact q
   ·exfalso
    unfold B9 at hm2
    have:j∈ls.filter fun j=>Ab1 ps j k:=bT.mpr ⟨q,hb⟩
    rw[rJ] at hm2
    rw[hm2] at this;cases this
theorem Ti(ps:List P3)(hn:ps.length<=100)(L:UH):∃ (r:Nat) (F:List Nat) (L':UH),Gs [.tup (ps.map p3U)] L=some (.ref r,L')/\L'[r]? = some (.lst (ixU F))/\Ord ps F []/\Gw L L'/\L.length<=r:=by
 have sm0:small ([]:List U).length=true:=small_of (by show 0<=16777216;decide)
 have hl0:∀ δ M,(Cs Af) δ M=some (.ref M.length,M++[.lst []]):=fun δ M=>by rw[fLst_eq,fNil_eq,aA,if_pos sm0]
 have hlen:Aq [.tup (ps.map p3U)] L=some (.int ps.length,L):=by simp[Aq,lenU]
 have hrg:Bf 0 ps.length=ixU (aO ps.length):=by
  unfold Bf ixU
  exact dI fun i _=>by rw[lM]
 have h1:(Vs (Ac (Az Aq (Ac (Ad 0) Af)) Af)) [some (.tup (ps.map p3U)),none,none,none] L=some (.ref L.length,L++[.lst (ixU (aO ps.length))]):=by
  unfold Vs
  simp only[fCons_eq,fCall_eq,fVar_eq,fNil_eq,aI,aV,aC,aA,hlen,eJ,hrg]
  rw[if_pos ⟨by omega,by omega⟩]
 have s1:=Ds (i:=1) h1
 have s2:=Ds (i:=2) (hl0 [some (.tup (ps.map p3U)),some (.ref L.length),none,none] (L++[.lst (ixU (aO ps.length))]))
 simp only[aZ,bA] at s1 s2
 generalize hM:L++[HU.lst (ixU (aO ps.length))]=M at s1 s2
 have hML:M.length=L.length+1:=by rw[<- hM];simp
 have hMl:M[L.length]? = some (.lst (ixU (aO ps.length))):=by rw[<- hM];simp
 have gLM:Gw L M:=⟨_,hM.symm⟩
 have o0:Ord ps [] (aO ps.length):=⟨by simp,fun p k hk=>by simp at hk⟩
 obtain ⟨δ',L',e,P⟩:=So (c:=Ef) (body:=G6)
  (P:=fun m δ K=>∃ l x3 F ls,δ = [some (.tup (ps.map p3U)),some (.ref l),some (.ref M.length),x3]/\K[l]? = some (.lst (ixU ls))/\K[M.length]? = some (.lst (ixU F))/\l≠M.length/\Ord ps F ls/\Gw M K/\ls.length=m)
  (Q:=fun δ K=>∃ l x3 F,δ = [some (.tup (ps.map p3U)),some (.ref l),some (.ref M.length),x3]/\K[M.length]? = some (.lst (ixU F))/\Ord ps F []/\Gw M K)
  (fun m δ K ⟨l,x3,F,ls,hδ,hl,hF,hlM,O,g,hm⟩=>by
   subst hδ
   have hlsn:ls.length<=100:=by
    have:=O.pm.length_eq
    simp only[cH,cF] at this
    omega
   have hFn:F.length<=100:=by
    have:=O.pm.length_eq
    simp only[cH,cF] at this
    omega
   have q1:Ao (K++[HU.lst []]) l=some (ixU ls):=Br (Aj hl)
   have q2:Ao (K++[HU.lst []]) K.length=some []:=Aj (by simp)
   have he:=Ot q1 q2 (Akm _) (by simp)
   rw[Rn] at he
   have hc:Ef [some (.tup (ps.map p3U)),some (.ref l),some (.ref M.length),x3] K=some (!(ixU ls).isEmpty,K++[.lst []]):=by
    unfold Ef
    rw[fTest_eq,f2_eq]
    simp only[fVar_eq,aN,aI,aV,aC,aA,hl0,he]
   have hMK:=(aF.mp hF).1
   cases hls:ls with
   | nil=>
    left
    rw[hls] at hc O
    exact ⟨_,hc,l,x3,F,rfl,(Gw.new K _).get hF,O,g.trans (Gw.new K _)⟩
   | cons a ls'=>
    right
    have hne:ls≠[]:=by rw[hls];simp
    have hemp:(ixU ls).isEmpty=false:=by rw[hls];rfl
    rw[hemp] at hc
    refine ⟨_,hc,?_⟩
    have g1:Gw K (K++[HU.lst []]):=Gw.new K _
    have hls_lt:∀ j∈ls,j < ps.length:=fun j hj=>O.lt (aU _ hj)
    obtain ⟨x,e1⟩:=Yn (g1.get hl) hls_lt (by omega) (some (.ref M.length)) x3
    have t1:=Ds (i:=3) e1
    simp only[aZ,bA] at t1
    have g2:Gw K (K++[HU.lst []]++x++[HU.lst (ixU (ls.filter (B9 ps ls)))]):=((g1.trans (Gw.new _ x)).trans (Gw.new _ _))
    have hr:(K++[HU.lst []]++x++[HU.lst (ixU (ls.filter (B9 ps ls)))])[(K++[HU.lst []]++x).length]? = some (.lst (ixU (ls.filter (B9 ps ls)))):=by simp
    have hge:M.length < (K++[HU.lst []]++x).length:=by simp;omega
    have hge2:l < (K++[HU.lst []]++x).length:=by have:=(aF.mp hl).1;simp;omega
    generalize K++[HU.lst []]++x++[HU.lst (ixU (ls.filter (B9 ps ls)))]=K2 at t1 g2 hr
    generalize (K++[HU.lst []]++x).length=r at t1 hr hge hge2
    have hext:Hv (.ref M.length) [.ref r] K2=some (.non,K2.set M.length (.lst (ixU (F++ls.filter (B9 ps ls))))):=by
     have:ixU (F++ls.filter (B9 ps ls))=ixU F++ixU (ls.filter (B9 ps ls)):=by simp[ixU]
     rw[this]
     simp only[Hv,Cz (g2.get hF),Cz hr,aA]
     rw[if_pos]
     have:=dS (B9 ps ls) ls
     simp only[ixU,aQ,sizeLine]
     omega
    have ty:=Iv (g2.get hF)
    have t2:(Jp (Ep "list" Hv (Ad 2) (Ac (Ad 3) Af))) [some (.tup (ps.map p3U)),some (.ref l),some (.ref M.length),some (.ref r)] K2=some (.nx [some (.tup (ps.map p3U)),some (.ref l),some (.ref M.length),some (.ref r)],K2.set M.length (.lst (ixU (F++ls.filter (B9 ps ls))))):=by
     rw[Jk,fMeth_eq]
     simp only[fVar_eq,aN,aI,aV,aC,aA,ty,if_true,fCons_eq,fNil_eq,hext]
    have hMK2:=(aF.mp (g2.get hF)).1
    have hl3:(K2.set M.length (.lst (ixU (F++ls.filter (B9 ps ls)))))[l]? = some (.lst (ixU ls)):=by rw[bL (eR hlM)];exact g2.get hl
    have hr3:(K2.set M.length (.lst (ixU (F++ls.filter (B9 ps ls)))))[r]? = some (.lst (ixU (ls.filter (B9 ps ls)))):=by rw[bL (by omega)];exact hr
    have hF3:(K2.set M.length (.lst (ixU (F++ls.filter (B9 ps ls)))))[M.length]? = some (.lst (ixU (F++ls.filter (B9 ps ls)))):=bM hMK2
    have g3:Gw M (K2.set M.length (.lst (ixU (F++ls.filter (B9 ps ls))))):=(g.trans g2).set (aS _) _
    obtain ⟨y,e3⟩:=Acj hl3 hr3 (by omega) (some (.tup (ps.map p3U))) (some (.ref M.length))
    have t3:=Ds (i:=1) e3
    simp only[aZ,bA] at t3
    have hrest:(ls.filter fun k=>!(ls.filter (B9 ps ls)).contains k)=ls.filter fun k=>!B9 ps ls k:=qR fun k hk=>by
     congr 1
     cases hf:B9 ps ls k with
     | true=>exact List.contains_iff_mem.mpr (bT.mpr ⟨hk,hf⟩)
     | false=>
      cases hc:(ls.filter (B9 ps ls)).contains k with
      | false=>rfl
      | true=>have:=(bT.mp (List.contains_iff_mem.mp hc)).2;rw[hf] at this;cases this
    rw[hrest] at t3
    have hlt:(ls.filter fun k=>!B9 ps ls k).length < ls.length:=by
     obtain ⟨k,hk,hx⟩:=Uk ps hne
     have hfk:B9 ps ls k=true:=by
      unfold B9
      rw[rJ,oB]
      exact fun j hj=>by rw[hx j hj];simp
     have:=G5 (p:=fun k=>!B9 ps ls k) (q:=fun _=>true) ls (fun _ _ _=>rfl) ⟨k,hk,rfl,by rw[hfk];rfl⟩
     have h2:ls.filter (fun _=>true)=ls:=dX.mpr (fun _ _=>rfl)
     rw[h2] at this;exact this
    generalize K2.set M.length (.lst (ixU (F++ls.filter (B9 ps ls))))=K3 at t2 t3 hF3 g3
    have g4:Gw K3 (K3++y++[HU.lst (ixU (ls.filter fun k=>!B9 ps ls k))]):=(Gw.new _ y).trans (Gw.new _ _)
    have hMK3:=(aF.mp hF3).1
    refine ⟨_,_,(ls.filter fun k=>!B9 ps ls k).length,?_,by omega,(K3++y).length,some (.ref r),_,_,rfl,by simp,g4.get hF3,by simp;omega,O.more,g3.trans g4,rfl⟩
    unfold G6
    rw[Ak t1,Ak t2]
    exact t3)
  100000 ps.length [some (.tup (ps.map p3U)),some (.ref L.length),some (.ref M.length),none] (M++[.lst []]) (by omega) ⟨L.length,none,[],aO ps.length,rfl,(Gw.new M _).get hMl,by simp[ixU],by omega,o0,Gw.new _ _,by simp⟩
 obtain ⟨l,x3,F,hδ,hF,O,g⟩:=P
 rw[hδ] at e
 refine ⟨M.length,F,L',?_,hF,O,gLM.trans g,by omega⟩
 unfold Gs fnU K9
 simp only[aM,aY,if_true,aW,bW,bN,dC,dL]
 rw[Ak s1,Ak s2,Ak e,fRet_eq]
 simp only[fVar_eq,aN,aI,aV,aC,aA]
theorem Af5(kvs:List (Key×U))(k k':Key)(v:U):Iz (Te kvs k v) k'=if k'=k then some v else Iz kvs k':=by
 unfold Te
 by_cases ha:(kvs.any fun kv=>decide (kv.1=k))=true
 ·rw[if_pos ha]
  induction kvs with
  | nil=>simp at ha
  | cons kv kvs ih=>
   by_cases h1:kv.1=k
   ·by_cases h2:k'=k
    ·subst h2
     simp[Iz,h1]
    ·have hn:¬ k=k':=fun e=>h2 e.symm
     rw[if_neg h2]
     by_cases hr:(kvs.any fun kv=>decide (kv.1=k))=true
     ·have:=ih hr
      rw[if_neg h2] at this
      unfold Iz at this ⊢
      rw[aW,if_pos h1,dF,dF]
      simp only[h1,hn,decide_false]
      exact this
     ·have hm:kvs.map (fun kv=>if kv.1=k then (kv.1,v) else kv)=kvs:=by
       conv=>rhs;rw[<- List.map_id kvs]
       refine dI fun a hx=>?_
       have:¬ a.1=k:=fun e=>hr (kI.mpr ⟨a,hx,by simpa using e⟩)
       rw[if_neg this];rfl
      unfold Iz
      rw[aW,if_pos h1,hm,dF,dF]
      simp only[h1,hn,decide_false]
   ·have hr:(kvs.any fun kv=>decide (kv.1=k))=true:=by
     rw[gF] at ha
     simpa[h1] using ha
    have:=ih hr
    unfold Iz at this ⊢
    rw[aW,if_neg h1,dF,dF]
    by_cases h3:kv.1=k'
    ·have h2:¬ k'=k:=fun e=>h1 (h3.trans e)
     simp only[h3,decide_true,aC,if_neg h2]
    ·simp only[h3,decide_false]
     exact this
 ·rw[if_neg ha]
  unfold Iz
  rw[List.find?_append]
  by_cases h2:k'=k
  ·subst h2
   have:kvs.find? (fun kv=>decide (kv.1=k'))=none:=by
    rw[List.find?_eq_none]
    intro x hx
    simp only[decide_eq_true_eq]
    exact fun e=>ha (kI.mpr ⟨x,hx,by simpa using e⟩)
   rw[this,if_pos rfl]
   simp
  ·have hn:¬ k=k':=fun e=>h2 e.symm
   rw[if_neg h2]
   cases kvs.find? (fun kv=>decide (kv.1=k')) <;> simp[hn]
theorem Aha(kvs:List (Key×U))(k:Key)(v:U):(Te kvs k v).length<=kvs.length+1:=by
 unfold Te
 split <;> simp
theorem Aj2(f:Nat->Int){m:List Nat}(h:l.Perm m):sm l f=sm m f:=by
 induction h with
 | nil=>rfl
 | cons a _ ih=>rw[sm_cons,sm_cons,ih]
 | swap a b l=>rw[sm_cons,sm_cons,sm_cons,sm_cons];omega
 | trans _ _ h1 h2=>rw[h1,h2]
abbrev Ch:=List Nat×Nat
noncomputable def chU(c:Ch):U:=.tup (ixU (c.1++[c.2]))
theorem Apc(cs:List Ch):∀ u∈cs.map chU,Pl 6 u:=fun u hu=>by
 obtain ⟨c,_,rfl⟩:=bU.mp hu
 unfold chU
 rw[G8]
 intro w hw
 obtain ⟨a,_,rfl⟩:=bU.mp hw
 exact Pl.int _ _
noncomputable def abl(ps:List P3)(e:Nat):List Nat:=(aO ps.length).filter (Ab1 ps e)
noncomputable def nxt(ps:List P3)(c:Ch):List Ch:=(abl ps c.2).map fun k=>(c.1++[c.2],k)
noncomputable def ext(ps:List P3)(t:Nat)(c:Ch):Int:=if c.1.length<=t then bgf ps (t - c.1.length) c.2 else 0
noncomputable def sc(cs:List Ch)(f:Ch->Int):Int:=(cs.map f).sum
theorem sc_append(a b:List Ch)(f:Ch->Int):sc (a++b) f=sc a f+sc b f:=by simp[sc,sB]
theorem Af3(c:Ch)(f:Ch->Int):sc [c] f=f c:=by simp[sc]
noncomputable def hit(t:Nat)(c:Ch):Int:=if c.1.length=t then 1 else 0
theorem Ags{c:Ch}(h:c.2 < ps.length)(t:Nat):ext ps t c=hit t c+sc (nxt ps c) (ext ps t):=by
 have hs:sc (nxt ps c) (ext ps t)=sm (abl ps c.2) fun k=>if c.1.length+1<=t then bgf ps (t - (c.1.length+1)) k else 0:=by
  unfold sc nxt sm
  rw[dB]
  congr 1
  refine dI fun k _=>?_
  simp[ext]
 rw[hs]
 unfold ext hit
 rcases qS c.1.length t with q | q | q
 ·rw[if_pos (by omega),if_neg (by omega),show t - c.1.length=(t - (c.1.length+1))+1 by omega,Lb h,abl,sm_filter]
  rw[lM]
  have hc:c.1.length+1<=t:=q
  exact Ce fun j _=>by simp only[hc,if_true]
 ·rw[if_pos (by omega),if_pos q,q,eQ,Nh h]
  have:(sm (abl ps c.2) fun k=>if t+1<=t then bgf ps (t - (t+1)) k else 0)=0:=(Ce (g:=fun _=>0) fun j _=>by rw[if_neg (by omega)]).trans (Iu _)
  rw[this];rfl
 ·rw[if_neg (by omega),if_neg (by omega)]
  have:(sm (abl ps c.2) fun k=>if c.1.length+1<=t then bgf ps (t - (c.1.length+1)) k else 0)=0:=(Ce (g:=fun _=>0) fun j _=>by rw[if_neg (by omega)]).trans (Iu _)
  rw[this];rfl
noncomputable def wr(ps:List P3)(k:Nat):Nat:=wt ps (aO ps.length) k
theorem Aju(ps:List P3)(e:Nat):((abl ps e).map (wr ps)).sum+1<=wr ps e:=by
 have h:=Aey ps (abl ps e).length (abl ps e) rfl
 have hm:(abl ps e).map (wt ps (abl ps e))=(abl ps e).map (wr ps):=dI fun k hk=>by
  unfold wr wt
  have hk2:=(bT.mp hk).2
  have:(abl ps e).filter (Ab1 ps k)=(aO ps.length).filter (Ab1 ps k):=by
   unfold abl
   rw[List.filter_filter]
   refine qR fun x _=>?_
   cases hx:Ab1 ps k x with
   | false=>rfl
   | true=>rw[Aas hk2 hx];rfl
  rw[this]
 rw[hm] at h
 exact h
theorem Af4(ps:List P3)(e:Nat):1<=wr ps e:=pW
noncomputable def mu(ps:List P3)(cs:List Ch):Nat:=(cs.map fun c=>wr ps c.2).sum
theorem T3(ps:List P3)(a b:List Ch):mu ps (a++b)=mu ps a+mu ps b:=by simp[mu,sB]
theorem Ahv(ps:List P3)(c:Ch):mu ps (nxt ps c)+1<=wr ps c.2:=by
 have h:=Aju ps c.2
 unfold mu nxt
 rw[dB]
 exact h
theorem Agj(ps:List P3):∀ cs:List Ch,cs.length<=mu ps cs
 | []=>aS _
 | c::cs=>by
  have h:=Agj ps cs
  have h1:=Af4 ps c.2
  have:mu ps (c::cs)=wr ps c.2+mu ps cs:=by simp[mu]
  rw[aM];omega
noncomputable def Okc(ps:List P3)(c:Ch):Prop:=c.2 < ps.length/\c.1.length+(abl ps c.2).length<=ps.length
theorem Agf{c d:Ch}(h:Okc ps c)(hd:d∈nxt ps c):Okc ps d:=by
 obtain ⟨k,hk,rfl⟩:=bU.mp hd
 obtain ⟨hk1,hk2⟩:=bT.mp hk
 have hl:(abl ps k).length < (abl ps c.2).length:=G5 _ (fun x _ hx=>Aas hk2 hx) ⟨k,hk1,hk2,Rt ps k⟩
 refine ⟨bG.mp hk1,?_⟩
 have:=h.2
 simp only[cH,aM,aY]
 omega
theorem Ahr(cs:List Nat)(e:Nat)(L:UH):Am (.tup (ixU (cs++[e]))) (.int (-1)) L=some (.int (e:Int),L):=by
 have hl:(ixU (cs++[e])).length=cs.length+1:=by simp[ixU]
 have:L2.atI (ixU (cs++[e])) (-1)=some (.int (e:Int)):=by
  have hn:ixN (cs.length+1) (-1)=some cs.length:=by
   unfold ixN
   rw[if_neg (by decide),if_pos (by omega)]
   congr 1;omega
  unfold L2.atI
  rw[hl,hn]
  simp[ixU]
 rw[Oq,this];rfl
variable {x1:Option U}
theorem Y5{w:Nat}{c:Ch}{us:List U}(hk:k < ps.length)(hc:c.2 < ps.length)(hl:c.1.length<=1000)(hw:M[w]? = some (.lst us))(hu:us.length<=10000) :
  Dh [some (.tup (ps.map p3U)),x1,some (.ref w),some (chU c),some (.int (k:Int))] M=some (.nx [some (.tup (ps.map p3U)),x1,some (.ref w),some (chU c),some (.int (k:Int))],if Ab1 ps c.2 k=true then M.set w (.lst (us++[chU (c.1++[c.2],k)])) else M):=by
 have sm1:∀ x:U,small [x].length=true:=fun _=>small_of (by show 1<=16777216;decide)
 have hlast:=Ahr c.1 c.2 M
 have i1:(f2 Am (Ad 0) (f2 Am (Ad 3) (Qs (fC (.int 1))))) [some (.tup (ps.map p3U)),x1,some (.ref w),some (chU c),some (.int (k:Int))] M=some (p3U (ptAt ps c.2),M):=by
  unfold chU
  generalize ixU (c.1++[c.2])=vs at hlast
  have hneg:-(1:Int) = -1:=rfl
  simp only[f2_eq,fVar_eq,U5,fC_eq,aN,aI,aV,aC,aA,hneg,hlast,Ml hc]
 have i2:(f2 Am (Ad 0) (Ad 4)) [some (.tup (ps.map p3U)),x1,some (.ref w),some (chU c),some (.int (k:Int))] M=some (p3U (ptAt ps k),M):=by
  rw[f2_eq];simp only[fVar_eq,aN,aI,aV,aC,aA,Ml hk]
 have hb:(Ij (Be 2 Ey (Ac (f2 Am (Ad 0) (f2 Am (Ad 3) (Qs (fC (.int 1))))) (Ac (f2 Am (Ad 0) (Ad 4)) Af)))) [some (.tup (ps.map p3U)),x1,some (.ref w),some (chU c),some (.int (k:Int))] M=some (Ab1 ps c.2 k,M):=by
  rw[fTru_eq,fOwn_eq,fCons_eq,i1]
  simp only[aA,fCons_eq,i2,fNil_eq,aC,aM,aY,if_true,Mp,truU_bl]
  rfl
 unfold Dh
 rw[fIfS_eq,hb,aA]
 cases hab:Ab1 ps c.2 k with
 | false=>simp only[bK,if_false,Cq]
 | true=>
  simp only[if_true]
  have hadd:Aw (chU c) (.tup [.int (k:Int)]) M=some (chU (c.1++[c.2],k),M):=by
   have hx:ixU (c.1++[c.2])++[.int (k:Int)]=ixU (c.1++[c.2]++[k]):=by simp[ixU]
   have he:(ixU (c.1++[c.2])).isEmpty=false:=by unfold ixU;cases c.1 <;> rfl
   have hlen:(ixU (c.1++[c.2])).length=c.1.length+1:=by simp[ixU]
   unfold chU
   simp only[<- hx]
   unfold Aw
   simp only
   rw[if_pos ⟨he,small_of (by rw[hlen];simp only[aM,aY];omega)⟩]
  have ap:=Jv (chU (c.1++[c.2],k)) hw (by omega)
  have ty:=Iv hw
  generalize chU (c.1++[c.2],k)=cu at hadd ap
  generalize chU c=c0 at hadd
  rw[Jk,fMeth_eq]
  simp only[fVar_eq,aN,aI,aV,aC,aA,ty,if_true,fCons_eq,f2_eq,fTup_eq,fNil_eq]
  rw[if_pos (sm1 _)]
  simp only[aA,hadd,aC,ap]
variable {L0:UH}{x4:Option U}
theorem Yt{w:Nat}{c:Ch}{us:List U}(hn:ps.length<=100)(hc:c.2 < ps.length)(hl:c.1.length<=1000)(hw:M[w]? = some (.lst us))(hu:us.length<=5000)(g0:Gw L0 M)(hw0:L0.length<=w){fu:List U}(hf:M[f]? = some (.lst fu))(hfw:f≠w) :
  ∃ (y4:Option U) (M':UH),(Jh (Dc (Ac (Az Aq (Ac (Ad 0) Af)) Af)) (gN 4) Dh) [some (.tup (ps.map p3U)),some (.ref f),some (.ref w),some (chU c),x4] M=some (.nx [some (.tup (ps.map p3U)),some (.ref f),some (.ref w),some (chU c),y4],M')/\M'[w]? = some (.lst (us++(nxt ps c).map chU))/\M'[f]? = some (.lst fu)/\Gw L0 M':=by
 have hlen:Aq [.tup (ps.map p3U)] M=some (.int ps.length,M):=by simp[Aq,lenU]
 obtain ⟨δ',M',e,P⟩:=P7 (us:=Bf 0 ps.length) (L0:=M) (L:=M) (δ:=[some (.tup (ps.map p3U)),some (.ref f),some (.ref w),some (chU c),x4]) (body:=Dh) (g:=gN 4) (fi:=Dc (Ac (Az Aq (Ac (Ad 0) Af)) Af))
  (fun k δ' K=>(∃ y4,δ'=[some (.tup (ps.map p3U)),some (.ref f),some (.ref w),some (chU c),y4])/\K[w]? = some (.lst (us++(((aO k).filter (Ab1 ps c.2)).map fun k=>(c.1++[c.2],k)).map chU))/\K[f]? = some (.lst fu)/\Gw L0 K)
  (Ic (n:=ps.length) (by simp only[fCons_eq,fCall_eq,fVar_eq,fNil_eq,aI,aV,aC,aA,hlen]) (by omega))
  ⟨⟨_,rfl⟩,by simpa using hw,hf,g0⟩
  (fun k u δ K hu' ⟨⟨y4,hδ⟩,h1,h2,h3⟩=>by
   subst hδ
   obtain ⟨hk,rfl⟩:=Ie hu'
   have h0:(0:Int)+(k:Int)=(k:Int):=by omega
   rw[h0]
   have hlk:(us++(((aO k).filter (Ab1 ps c.2)).map fun k=>(c.1++[c.2],k)).map chU).length<=10000:=by
    have:=dS (Ab1 ps c.2) (aO k)
    simp only[cH,aQ]
    rw[cF] at this
    omega
   have t:=Y5 (x1:=some (.ref f)) hk hc hl h1 hlk
   have hwl:=(aF.mp h1).1
   refine ⟨_,K,rfl,_,_,.inl t,⟨_,rfl⟩,?_⟩
   cases hab:Ab1 ps c.2 k with
   | true=>
    rw[if_pos rfl]
    refine ⟨?_,by rw[bL (eR hfw)];exact h2,h3.set hw0 _⟩
    rw[bM hwl,lB,pY,cP hab]
    simp
   | false=>
    rw[if_neg (by simp)]
    refine ⟨?_,h2,h3⟩
    rw[lB,pY,cQ (by simp[hab])]
    simpa using h1)
 rw[Kd] at P
 obtain ⟨⟨y4,hδ⟩,h1,h2,h3⟩:=P
 rw[hδ] at e
 exact ⟨y4,M',e,h1,h2,h3⟩
noncomputable def ixI(l:List Nat):List Int:=l.map fun (j:Nat)=>(j:Int)
noncomputable def wS(w:Nat->Int)(c:List Nat):Int:=(c.map w).sum
noncomputable def kl(w:Nat->Int)(a b:List Nat):Bool:=if -(wS w a) = -(wS w b) then ltT (ixI a) (ixI b) else decide (-(wS w a) < -(wS w b))
theorem Vi(w:Nat->Int)(i:Nat)(c:List Nat):wS w (i::c)=w i+wS w c:=by simp[wS]
theorem Ahq(w:Nat->Int)(i:Nat)(a b:List Nat):kl w (i::a) (i::b)=kl w a b:=by
 unfold kl
 rw[Vi,Vi]
 have h1:ltT (ixI (i::a)) (ixI (i::b))=ltT (ixI a) (ixI b):=by simp[ixI,ltT]
 rw[h1]
 by_cases h:-(wS w a) = -(wS w b)
 ·rw[if_pos h,if_pos (by omega)]
 ·rw[if_neg h,if_neg (by omega)]
  congr 1
  rw[eq_iff_iff]
  omega
variable {b a:List Nat}
theorem Aji(h:ixI a=ixI b):a=b:=by
 unfold ixI at h
 induction a generalizing b with
 | nil=>cases b with | nil=>rfl | cons _ _=>simp at h
 | cons x a ih=>
  cases b with
  | nil=>simp at h
  | cons y b=>
   simp only[aW,oH] at h
   rw[ih h.2,Int.ofNat.inj h.1]
variable {w:Nat->Int}
theorem Abh(h:kl w a b=true):kl w b a=false:=by
 unfold kl at h ⊢
 by_cases e:-(wS w a) = -(wS w b)
 ·rw[if_pos e] at h
  rw[if_pos e.symm]
  exact Lz _ _ h
 ·rw[if_neg e] at h
  rw[if_neg (fun z=>e z.symm)]
  simp only[decide_eq_true_eq,decide_eq_false_iff_not] at h ⊢
  omega
variable {c:List Nat}
theorem X5(h1:kl w a b=false)(h2:kl w b c=false):kl w a c=false:=by
 unfold kl at h1 h2 ⊢
 by_cases e1:-(wS w a) = -(wS w b)
 ·rw[if_pos e1] at h1
  by_cases e2:-(wS w b) = -(wS w c)
  ·rw[if_pos e2] at h2
   rw[if_pos (e1.trans e2)]
   exact Qi _ _ _ h2 h1
  ·rw[if_neg e2] at h2
   rw[if_neg (by omega)]
   simp only[decide_eq_false_iff_not] at h2 ⊢
   omega
 ·rw[if_neg e1] at h1
  simp only[decide_eq_false_iff_not] at h1
  by_cases e2:-(wS w b) = -(wS w c)
  ·rw[if_neg (by omega)]
   simp only[decide_eq_false_iff_not]
   omega
  ·rw[if_neg e2] at h2
   simp only[decide_eq_false_iff_not] at h2
   rw[if_neg (by omega)]
   simp only[decide_eq_false_iff_not]
   omega
theorem An7(w:Nat->Int)(a:List Nat):kl w a a=false:=by
 cases h:kl w a a with
 | false=>rfl
 | true=>rw[<- h];exact Abh h
theorem Ajw(h1:kl w a b=false)(h2:kl w b a=false):a=b:=by
 unfold kl at h1 h2
 by_cases e:-(wS w a) = -(wS w b)
 ·rw[if_pos e] at h1
  rw[if_pos e.symm] at h2
  exact Aji (V1 _ _ h1 h2)
 ·rw[if_neg e] at h1
  rw[if_neg (fun z=>e z.symm)] at h2
  simp only[decide_eq_false_iff_not] at h1 h2
  omega
noncomputable def Bst(P:List Nat->Prop)(w:Nat->Int)(c:List Nat):Prop:=P c/\∀ d,P d->kl w d c=false
theorem Bst.uniq{P:List Nat->Prop}{d:List Nat}(h1:Bst P w c)(h2:Bst P w d):c=d:=Ajw (h2.2 c h1.1) (h1.2 d h2.1)
noncomputable def IsC(ps:List P3):List Nat->Prop
 | []=>False
 | [i]=>i < ps.length
 | i::j::r=>i < ps.length/\Ab1 ps i j=true/\IsC ps (j::r)
noncomputable def Kk(ps:List P3)(i:Nat)(c:List Nat):Prop:=IsC ps c/\c.head? = some i
theorem IsC.head(h:IsC ps (i::c)):i < ps.length:=by
 cases c with
 | nil=>exact h
 | cons j r=>exact h.1
theorem IsC.ex(h:IsC ps c):∃ i r,c=i::r:=by
 cases c with
 | nil=>exact h.elim
 | cons i r=>exact ⟨i,r,rfl⟩
theorem Rh{b:Nat->List Nat}{r:List Nat}(hi:i < ps.length)(hb:∀ j∈abl ps i,Bst (Kk ps j) w (b j))(hr:r=[]\/∃ j∈abl ps i,r=b j)(h0:kl w [] r=false)(h1:∀ j∈abl ps i,kl w (b j) r=false) :
  Bst (Kk ps i) w (i::r):=by
 refine ⟨⟨?_,rfl⟩,fun d hd=>?_⟩
 ·rcases hr with rfl | ⟨j,hj,rfl⟩
  ·exact hi
  ·obtain ⟨⟨hc,hh⟩,_⟩:=hb j hj
   obtain ⟨k,t,e⟩:=hc.ex
   rw[e] at hc hh ⊢
   cases hh
   exact ⟨hi,(bT.mp hj).2,hc⟩
 ·obtain ⟨hc,hh⟩:=hd
  obtain ⟨k,t,e⟩:=hc.ex
  rw[e] at hc hh ⊢
  cases hh
  rw[Ahq]
  cases t with
  | nil=>exact h0
  | cons j t=>
   have hj:j∈abl ps i:=bT.mpr ⟨bG.mpr hc.2.2.head,hc.2.1⟩
   exact X5 ((hb j hj).2 _ ⟨hc.2.2,rfl⟩) (h1 j hj)
theorem Ahk{b:Nat->List Nat}(hk:k < ps.length)(hb:∀ i,i < ps.length->Bst (Kk ps i) w (b i))(h:∀ i,i < ps.length->kl w (b i) (b k)=false):Bst (IsC ps) w (b k):=by
 refine ⟨(hb k hk).1.1,fun d hd=>?_⟩
 obtain ⟨i,t,e⟩:=hd.ex
 have hi:i < ps.length:=by rw[e] at hd;exact hd.head
 exact X5 ((hb i hi).2 d ⟨hd,by rw[e];rfl⟩) (h i hi)
theorem W4{bt:Nat->Nat->Bool}(asy:∀ i j,bt i j=true->bt j i=false)(ntr:∀ i j k,bt i j=false->bt j k=false->bt i k=false):∀ (m j:Nat),j<=m->bt j (Cd bt m)=false
 | 0,j,h=>by
  have:j=0:=by omega
  subst this
  show bt 0 0=false
  cases e:bt 0 0 with
  | false=>rfl
  | true=>rw[<- e];exact asy _ _ e
 | m+1,j,h=>by
  unfold Cd
  have ih:=W4 asy ntr m
  split
  ·rename_i hb
   by_cases hj:j=m+1
   ·subst hj
    cases e:bt (m+1) (m+1) with
    | false=>rfl
    | true=>rw[<- e];exact asy _ _ e
   ·exact ntr _ _ _ (ih j (by omega)) (asy _ _ hb)
  ·rename_i hb
   by_cases hj:j=m+1
   ·subst hj;simpa using hb
   ·exact ih j (by omega)
theorem X7(l:List Nat):mapO toI (ixU l)=some (ixI l):=by
 induction l with
 | nil=>rfl
 | cons a l ih=>
  unfold ixU ixI at ih ⊢
  simp only[aW,mapO,toI,ih,aA,aC]
theorem Afu{β:Type}(cs:List β)(key:β->U)(lt:β->β->Bool)(hne:cs≠[])(hlt:∀ a∈cs,∀ b∈cs,ltU (key a) (key b)=some (lt a b))(asy:∀ a b,lt a b=true->lt b a=false)(ntr:∀ a b c,lt a b=false->lt b c=false->lt a c=false) :
  V7 (cs.map key)=true/\∃ c,cs[H9 (cs.map key)]? = some c/\∀ d∈cs,lt d c=false:=by
 have hpos:0 < cs.length:=iD.mpr hne
 refine ⟨?_,?_⟩
 ·unfold V7
  rw[bR]
  intro x hx
  obtain ⟨a,ha,rfl⟩:=bU.mp hx
  rw[bR]
  intro y hy
  obtain ⟨b,hb,rfl⟩:=bU.mp hy
  rw[hlt a ha b hb];rfl
 ·have hle:=O6 (fun i j=>(ltU ((cs.map key).getD i .non) ((cs.map key).getD j .non)).getD false) ((cs.map key).length - 1)
  have hmi:H9 (cs.map key) < cs.length:=by
   unfold H9
   rw[aQ] at hle ⊢
   omega
  refine ⟨cs[H9 (cs.map key)],aL hmi,fun d hd=>?_⟩
  let at_:Nat->β:=fun i=>cs.getD i cs[0]
  have hat:∀ i,at_ i∈cs:=fun i=>by
   show cs.getD i cs[0]∈cs
   rw[aP]
   by_cases h:i < cs.length
   ·rw[aL h];exact eO h
   ·rw[eS (by omega)];exact eO hpos
  have hbt:∀ i j,i < cs.length->j < cs.length->(ltU ((cs.map key).getD i .non) ((cs.map key).getD j .non)).getD false=lt (at_ i) (at_ j):=fun i j hi hj=>by
   have e:∀ i,i < cs.length->(cs.map key).getD i .non=key (at_ i):=fun i hi=>by
    show _=key (cs.getD i cs[0])
    rw[aP,bO,aL hi,aP,aL hi];rfl
   rw[e i hi,e j hj,hlt _ (hat i) _ (hat j)];rfl
  have hcong:∀ m,m < cs.length->Cd (fun i j=>(ltU ((cs.map key).getD i .non) ((cs.map key).getD j .non)).getD false) m=Cd (fun i j=>lt (at_ i) (at_ j)) m:=by
   intro m
   induction m with
   | zero=>intro _;rfl
   | succ m ih=>
    intro hm
    unfold Cd
    rw[ih (by omega)]
    have hb:=O6 (fun i j=>lt (at_ i) (at_ j)) m
    rw[hbt (m+1) _ hm (by omega)]
  obtain ⟨k,hk,rfl⟩:=fE hd
  have hmin:=W4 (bt:=fun i j=>lt (at_ i) (at_ j)) (fun i j h=>asy _ _ h) (fun i j k h1 h2=>ntr _ _ _ h1 h2) (cs.length - 1) k (by omega)
  have e1:at_ k=cs[k]:=by show cs.getD k cs[0]=_;rw[aP,aL hk];rfl
  have e2:at_ (Cd (fun i j=>lt (at_ i) (at_ j)) (cs.length - 1))=cs[H9 (cs.map key)]:=by
   have:H9 (cs.map key)=Cd (fun i j=>lt (at_ i) (at_ j)) (cs.length - 1):=by
    unfold H9
    rw[aQ]
    exact hcong _ (by omega)
   show cs.getD _ cs[0]=_
   rw[aP]
   have hlt2:Cd (fun i j=>lt (at_ i) (at_ j)) (cs.length - 1) < cs.length:=by rw[<- this];exact hmi
   rw[aL hlt2]
   simp only[fM]
   congr 1
   exact this.symm
  rw[e1,e2] at hmin
  exact hmin
noncomputable def pU(w:Nat->Int)(c:List Nat):U:=.tup [.int (wS w c),.tup (ixU c)]
noncomputable def kU(w:Nat->Int)(c:List Nat):U:=.tup [.int (-(wS w c)),.tup (ixU c)]
theorem An9(w:Nat->Int)(a b:List Nat):ltU (kU w a) (kU w b)=some (kl w a b):=by
 unfold kU ltU kl
 simp only[X7,aA,aC]
theorem Aob(w:Nat->Int)(c:List Nat)(δ:UE)(L:UH):Mh [none] B5 δ L (pU w c)=some (kU w c):=by
 have sm2:∀ x y:U,small [x,y].length=true:=fun _ _=>small_of (by show 2<=16777216;decide)
 refine Aa1 ?_
 have i0:Am (pU w c) (.int 0) L=some (.int (wS w c),L):=rfl
 have i1:Am (pU w c) (.int 1) L=some (.tup (ixU c),L):=rfl
 have hd:V2 [none] (pU w c) δ = [some (pU w c)]:=rfl
 rw[hd]
 unfold B5
 generalize pU w c=u at i0 i1
 simp only[fTup_eq,fCons_eq,U5,f2_eq,fVar_eq,fC_eq,fNil_eq,aI,aV,aC,aA,i0,i1]
 rw[if_pos (sm2 _ _)]
 rfl
theorem V0{β γ δ:Type}{f:γ->Option δ}{g:β->γ}{h:β->δ}(e:∀ b,f (g b)=some (h b)):∀ l:List β,mapO f (l.map g)=some (l.map h)
 | []=>rfl
 | b::l=>by simp only[aW,mapO,e,V0 e l,aA,aC]
variable {cs:List (List Nat)}
theorem Akd(h:L[n]? = some (.lst (cs.map (pU w))))(hne:cs≠[]):∃ c,c∈cs/\Dg [.ref n] L=some (pU w c,L)/\∀ d∈cs,kl w d c=false:=by
 obtain ⟨hall,c,hc,hmin⟩:=Afu cs (kU w) (kl w) hne (fun a _ b _=>An9 w a b) (fun a b h=>Abh h) (fun a b c h1 h2=>X5 h1 h2)
 refine ⟨c,bV hc,?_,hmin⟩
 have hs:=Aj h
 have hk:=V0 (f:=Mh [none] B5 [some (.ref n)] L) (g:=pU w) (h:=kU w) (fun c=>Aob w c _ L) cs
 have hg:(cs.map (pU w)).getD (H9 (cs.map (kU w))) .non=pU w c:=by
  rw[aP,bO,hc];rfl
 have hpos:0 < (cs.map (pU w)).length:=by rw[aQ];exact iD.mpr hne
 have e:(N0 [none] B5 (Ad 0)) [some (.ref n)] L=some (pU w c,L):=by
  unfold N0
  simp only[fVar_eq,aI,aV,aC,aA,hs,hk]
  rw[if_pos ⟨hpos,hall⟩,hg]
 unfold Dg fnU Jw
 simp only[aM,aY,if_true,aW,bW,eQ,dW,bB,fRet_eq,e,aC,aA]
theorem Af6{lt:Nat->Nat->Bool}(W:SO.Wo lt)(n:Nat):(SO.Ga lt n).Pairwise (SO.Le lt):=by
 unfold SO.Ga
 split
 ·rename_i h
  match n,h with
  | 0,_=>exact .nil
  | 1,_=>simp[lB]
 ·rename_i h
  obtain ⟨hp,hu⟩:=(SO.Ux (n:=n) W (by omega)).holds
  refine jC.mpr fun i j hi hj hij=>?_
  have h:=hu i j (by omega) (by rw[<- hp.size];simpa using hj)
  unfold SO.at0 at h
  rw[eX,eX] at h
  simp only[dA] at hi hj
  rw[mF hi,mF hj] at h
  simpa using h
noncomputable def kyI(p:Int×Int):List Int:=[p.1,p.2]
noncomputable def kys(ps:List P3):List (List Int):=(aO ps.length).map fun i=>kyI (ptAt ps i).2
noncomputable def Ol(ps:List P3):List Nat:=SO.Ga (ltK (kys ps).reverse) ps.length
noncomputable def Dr(ps:List P3):List Nat:=((Ol ps).map fun i=>ps.length - 1 - i).reverse
theorem Et(ps:List P3):(Ol ps).Perm (aO ps.length):=SO.Mv (Q0 _)
theorem Jf(ps:List P3):k∈Dr ps↔k < ps.length:=by
 unfold Dr
 rw[iG,bU]
 constructor
 ·rintro ⟨i,hi,rfl⟩
  have:=bG.mp ((Et ps).mem_iff.mp hi)
  omega
 ·intro hk
  exact ⟨ps.length - 1 - k,(Et ps).mem_iff.mpr (bG.mpr (by omega)),by omega⟩
theorem Qu(ps:List P3):(Dr ps).length=ps.length:=by
 unfold Dr
 rw[bY,aQ,(Et ps).length_eq,cF]
theorem Yj(ps:List P3):(Dr ps).Nodup:=by
 unfold Dr
 rw[gR,List.pairwise_reverse]
 have hnd:(Ol ps).Nodup:=(Et ps).nodup_iff.mpr kK
 have hlt:∀ i∈Ol ps,i < ps.length:=fun i hi=>bG.mp ((Et ps).mem_iff.mp hi)
 rw[List.pairwise_map]
 rw[gR] at hnd
 refine List.Pairwise.imp_of_mem (fun {a b} ha hb hab=>?_) hnd
 have:=hlt a ha
 have:=hlt b hb
 omega
theorem Ahd(h:Ab1 ps i j=true):ltT (kyI (ptAt ps i).2) (kyI (ptAt ps j).2)=true:=by
 unfold Ab1 Gq at h
 simp only[pF,cG,qQ,oO,beq_eq_false_iff_ne,decide_eq_true_eq] at h
 obtain ⟨h1,h2,h3⟩:=h
 unfold kyI ltT
 by_cases e:(ptAt ps i).2.1=(ptAt ps j).2.1
 ·rw[if_pos (by simpa using e)]
  unfold ltT
  have e2:(ptAt ps i).2.2≠(ptAt ps j).2.2:=by rcases h3 with q | q;exact absurd e q;exact q
  rw[if_neg (by simpa using e2)]
  exact decide_eq_true (by omega)
 ·rw[if_neg (by simpa using e)]
  exact decide_eq_true (by omega)
theorem Aal(h:i < ps.length):(kys ps).reverse.getD i []=kyI (ptAt ps (ps.length - 1 - i)).2:=by
 have hl:(kys ps).length=ps.length:=by simp[kys]
 rw[aP,eT (by omega),hl]
 simp[kys,show ps.length - 1 - i < ps.length by omega]
variable {p:Nat}
theorem Y2(hk:(Dr ps)[p]? = some k)(hj:j < ps.length)(hb:Ab1 ps k j=true):j∈(Dr ps).take p:=by
 have hkn:k < ps.length:=(Jf ps).mp (bV hk)
 obtain ⟨q,hq,hqe⟩:=fE ((Jf ps).mpr hj)
 have hp:=(aF.mp hk).1
 have hpe:(Dr ps)[p]=k:=by rw[aL hp] at hk;exact bS hk
 by_cases hqp:q < p
 ·rw[<- hqe]
  rw[fG]
  exact ⟨q,by omega,rfl⟩
 ·exfalso
  have hne:q≠p:=fun e=>by
   subst e
   rw[hqe] at hpe
   rw[hpe,Rt] at hb
   cases hb
  have hpw:=Af6 (Q0 (kys ps).reverse) ps.length
  have hl:=Qu ps
  have hrl:(Ol ps).length=ps.length:=by rw[(Et ps).length_eq,cF]
  have hR:∀ t (ht:t < (Dr ps).length),∃ (h2:ps.length - 1 - t < (Ol ps).length),(Dr ps)[t]=ps.length - 1 - (Ol ps)[ps.length - 1 - t]:=fun t ht=>by
   have h2:ps.length - 1 - t < (Ol ps).length:=by omega
   refine ⟨h2,?_⟩
   have e:(Dr ps)[t]? = some (ps.length - 1 - (Ol ps)[ps.length - 1 - t]):=by
    unfold Dr
    rw[eT (by rw[aQ];omega),bO,aQ,hrl,aL h2]
    rfl
   rw[aL ht] at e
   exact bS e
  obtain ⟨a1,a2⟩:=hR q hq
  obtain ⟨b1,b2⟩:=hR p hp
  have hle:=jC.mp hpw (ps.length - 1 - q) (ps.length - 1 - p) a1 b1 (by omega)
  have la:(Ol ps)[ps.length - 1 - q] < ps.length:=bG.mp ((Et ps).mem_iff.mp (eO a1))
  have lb:(Ol ps)[ps.length - 1 - p] < ps.length:=bG.mp ((Et ps).mem_iff.mp (eO b1))
  have hle2:ltK (kys ps).reverse (Ol ps)[ps.length - 1 - p] (Ol ps)[ps.length - 1 - q]=false:=hle
  unfold ltK at hle2
  rw[Aal la,Aal lb,<- a2,<- b2,hqe,hpe,Ahd hb] at hle2
  cases hle2
theorem Y8(n:Nat):Bf 0 n=ixU (aO n):=by
 unfold Bf ixU
 exact dI fun i _=>by rw[lM]
theorem Ac3(h:i < ps.length)(δ:UE)(L:UH)(hd:δ[0]? = some (some (.tup (ps.map p3U)))):(Mh [none,some 0] A0 δ L (.int (i:Int))).bind Xa=some (kyI (ptAt ps i).2):=by
 have e:Mh [none,some 0] A0 δ L (.int (i:Int))=some (pr (ptAt ps i).2):=by
  refine Aa1 ?_
  have hδ:V2 [none,some 0] (.int (i:Int)) δ = [some (.int (i:Int)),some (.tup (ps.map p3U))]:=by
   unfold V2 Gg
   simp[hd]
  rw[hδ]
  have i1:(f2 Am (Ad 1) (Ad 0)) [some (.int (i:Int)),some (.tup (ps.map p3U))] L=some (p3U (ptAt ps i),L):=by
   rw[f2_eq];simp only[fVar_eq,aN,aI,aV,aC,aA,Ml h]
  unfold A0
  rw[fOwn_eq,fCons_eq,i1]
  simp only[aA,fNil_eq,aC,aM,aY,if_true,Lv]
 rw[e]
 rfl
theorem Y0(ps:List P3)(hn:ps.length<=60)(L:UH):Bt [.tup (ps.map p3U)] L=some (.ref L.length,L++[.lst (ixU (Dr ps))]):=by
 have hlen:Aq [.tup (ps.map p3U)] L=some (.int ps.length,L):=by simp[Aq,lenU]
 have hk:mapO (fun u=>(Mh [none,some 0] A0 [some (.tup (ps.map p3U))] L u).bind Xa) (Bf 0 ps.length)=some (kys ps):=by
  rw[Y8]
  unfold ixU kys
  have:∀ l:List Nat,(∀ i∈l,i < ps.length)->mapO (fun u=>(Mh [none,some 0] A0 [some (.tup (ps.map p3U))] L u).bind Xa) (l.map fun (j:Nat)=>U.int (j:Int))=some (l.map fun i=>kyI (ptAt ps i).2):=by
   intro l
   induction l with
   | nil=>intro _;rfl
   | cons a l ih=>
    intro h
    simp only[aW,mapO]
    rw[Ac3 (h a (aT ..)) _ L rfl,ih fun i hi=>h i (aK _ hi)]
    rfl
  exact this _ fun i hi=>bG.mp hi
 have hall:((kys ps).all fun t=>!t.isEmpty)=true:=by
  rw[bR]
  intro t ht
  obtain ⟨i,_,rfl⟩:=bU.mp ht
  rfl
 have hres:((SO.Ga (ltK (kys ps).reverse) ps.length).map fun i=>(Bf 0 ps.length).reverse.getD i .non).reverse=ixU (Dr ps):=by
  unfold Dr ixU
  rw[List.map_reverse,dB]
  congr 1
  refine dI fun i hi=>?_
  have hin:i < ps.length:=bG.mp ((Et ps).mem_iff.mp hi)
  have hl:(Bf 0 ps.length).length=ps.length:=by unfold Bf;rw[aQ,cF]
  rw[aP,eT (by omega),hl,Y8]
  unfold ixU
  rw[bO,lD (by omega)]
  rfl
 have e:(Lq [none,some 0] A0 (Ac (Az Aq (Ac (Ad 0) Af)) Af)) [some (.tup (ps.map p3U))] L=some (.ref L.length,L++[.lst (ixU (Dr ps))]):=by
  unfold Lq
  simp only[fCons_eq,fCall_eq,fVar_eq,fNil_eq,aI,aV,aC,aA,hlen,eJ,hk]
  rw[if_pos ⟨⟨by omega,by omega⟩,hall⟩,hres]
 unfold Bt fnU E9
 simp only[aM,aY,if_true,aW,bW,eQ,dW,bB,fRet_eq,e,aC,aA]
variable {fa fb:FE}{K:UH}
theorem Cr{s:S2}{a b c:U}{J:UH}(ha:fa δ L=some (a,M))(hb:fb δ M=some (b,K))(h:s a b K=some (c,J)):(f2 s fa fb) δ L=some (c,J):=by
 rw[f2_eq,ha,aA,hb,aA,h]
theorem Akh{f:FN}(h:fa δ L=some (u,M))(e:f [u] M=some (v,L')):(Be 1 f (Ac fa Af)) δ L=some (v,L'):=by
 rw[fOwn_eq,fCons_eq,h,aA,fNil_eq,aC]
 simp only[aA,aM,aY,if_true,e]
theorem Akn{f:FN}{w:U}(h:fa δ L=some (u,M))(h2:fb δ M=some (w,K))(e:f [u,w] K=some (v,L')):(Be 2 f (Ac fa (Ac fb Af))) δ L=some (v,L'):=by
 rw[fOwn_eq,fCons_eq,h,aA,fCons_eq,h2,aA,fNil_eq,aC,aC]
 simp only[aA,aM,aY,if_true,e]
theorem Gf{s:SC}(h:fa δ L=some (u,M))(e:s [u] M=some (v,L')):(Az s (Ac fa Af)) δ L=some (v,L'):=by
 rw[fCall_eq,fCons_eq,h,aA,fNil_eq,aC,aA,e]
theorem Age(h:fa δ L=some (u,M))(h2:fb δ M=some (v,K)):(Ec (Ac fa (Ac fb Af))) δ L=some (.tup [u,v],K):=by
 rw[fTup_eq,fCons_eq,h,aA,fCons_eq,h2,aA,fNil_eq,aC,aC,aA,if_pos (small_of (by show 2<=16777216;decide))]
theorem Abm{fc:FE}{w:U}{J:UH}(h:fa δ L=some (u,M))(h2:fb δ M=some (v,K))(h3:fc δ K=some (w,J)):(Ec (Ac fa (Ac fb (Ac fc Af)))) δ L=some (.tup [u,v,w],J):=by
 rw[fTup_eq,fCons_eq,h,aA,fCons_eq,h2,aA,fCons_eq,h3,aA,fNil_eq,aC,aC,aC,aA,if_pos (small_of (by show 3<=16777216;decide))]
theorem Akq(h:fa δ L=some (u,M)):(Ec (Ac fa Af)) δ L=some (.tup [u],M):=by
 rw[fTup_eq,fCons_eq,h,aA,fNil_eq,aC,aA,if_pos (small_of (by show 1<=16777216;decide))]
theorem Abx(δ:UE)(L:UH):(Ec Af) δ L=some (.tup [],L):=by
 rw[fTup_eq,fNil_eq,aA,if_pos (small_of (by show 0<=16777216;decide))]
theorem Aeq(h:fa δ L=some (u,M)):(Cs (Ac fa Af)) δ L=some (.ref M.length,M++[.lst [u]]):=by
 rw[fLst_eq,fCons_eq,h,aA,fNil_eq,aC,aA,if_pos (small_of (by show 1<=16777216;decide))]
theorem U6{a b:Nat}{x y:List U}(ha:L[a]? = some (.lst x))(hb:L[b]? = some (.lst y))(hl:x.length+y.length<=16777216):Aw (.ref a) (.ref b) L=some (.ref L.length,L++[.lst (x++y)]):=by
 unfold Aw
 simp only[Cz ha,Cz hb,aA]
 rw[if_pos (small_of hl)]
theorem Aa0{a b:List U}(L:UH)(ha:a≠[])(hl:a.length+b.length<=16777216):Aw (.tup a) (.tup b) L=some (.tup (a++b),L):=by
 show (if a.isEmpty=false/\small (a.length+b.length)=true then some (U.tup (a++b),L) else none)=_
 rw[if_pos ⟨by cases a with | nil=>exact absurd rfl ha | cons _ _=>rfl,small_of hl⟩]
variable {E:Nat}{fo fi:FE}{kvs:List (Key×U)}
theorem Akw{k:Key}(hv:fo δ M=some (.ref E,M))(hw:fi δ M=some (u,M))(hk:toK u=some k)(hE:M[E]? = some (.dic kvs))(h:Iz kvs k=some v):V5 fo fi δ M=some (v,M):=by
 have hd:Ft M E=some kvs:=by unfold Ft;rw[hE]
 unfold V5
 simp only[hv,aA,hw,hk,hd,h,aC]
theorem Wx{fv:FE}{k:Key}(hv:fv δ L=some (v,M))(ho:fo δ M=some (.ref E,M))(hi:fi δ M=some (u,M))(hk:toK u=some k)(hE:M[E]? = some (.dic kvs))(hl:kvs.length < 1000000):Pj fo fi fv δ L=some (.nx δ,M.set E (.dic (Te kvs k v))):=by
 have hd:Ft M E=some kvs:=by unfold Ft;rw[hE]
 unfold Pj
 simp only[hv,aA,ho,hi,hk,hd]
 rw[if_pos hl]
noncomputable def dK(F:List Nat)(g:Nat->U):List (Key×U):=F.map fun (i:Nat)=>((kL (i:Int):Key),g i)
variable {g:Nat->U}
theorem Lg(h:j∈F):Iz (dK F g) (.inl (j:Int))=some (g j):=by
 unfold Iz dK
 induction F with
 | nil=>cases h
 | cons a F ih=>
  rw[aW,dF]
  by_cases e:a=j
  ·subst e;simp
  ·have hn:¬ (kL (a:Int):Key) = .inl (j:Int):=fun q=>e (by injection q with q;omega)
   simp only[hn,decide_false]
   exact ih (by rcases bH.mp h with z | z;exact absurd z.symm e;exact z)
theorem Vg(h:k∉F):Te (dK F g) (.inl (k:Int)) v=dK (F++[k]) (fun j=>if j=k then v else g j):=by
 have ha:((dK F g).any fun kv=>decide (kv.1 = .inl (k:Int)))=false:=by
  rw[mH]
  intro x hx
  obtain ⟨i,hi,rfl⟩:=bU.mp hx
  simp only[decide_eq_true_eq]
  intro q
  injection q with q
  exact h (by rw[show k=i by omega];exact hi)
 unfold Te
 rw[if_neg (by rw[ha];simp)]
 unfold dK
 rw[jK]
 congr 1
 ·refine dI fun i hi=>?_
  have hik:i≠k:=fun e=>h (by rw[<- e];exact hi)
  show ((kL (i:Int):Key),g i)=(kL (i:Int),if i=k then v else g i)
  rw[if_neg hik]
 ·simp
theorem Nf{g':Nat->U}(h:∀ i∈F,g i=g' i):dK F g=dK F g':=dI fun i hi=>by rw[h i hi]
structure Wt(M:UH)(W:Nat)(ps:List P3)(w:Nat->Int):Prop where
 ex:∃ kvs,M[W]? = some (.dic kvs)/\∀ i,i < ps.length->Iz kvs (.inr (ptAt ps i).1)=some (.int (w i))
variable {W:Nat}
theorem Wt.gw{M':UH}(h:Wt M W ps w)(g:Gw M M'):Wt M' W ps w:=by
 obtain ⟨kvs,h1,h2⟩:=h
 exact ⟨kvs,g.get h1,h2⟩
theorem Wt.set(h:Wt M W ps w)(hne:E≠W)(o:HU):Wt (M.set E o) W ps w:=by
 obtain ⟨kvs,h1,h2⟩:=h
 exact ⟨kvs,by rw[bL hne];exact h1,h2⟩
theorem IsC.len(hF:∀ i∈F,i < ps.length):F.length=F.length:=rfl
variable {x5:Option U}
theorem Yr{b:Nat->List Nat}(hn:ps.length<=60)(hk:k < ps.length)(hW:Wt M W ps w)(hE:M[E]? = some (.dic (dK F fun i=>pU w (b i))))(hF:∀ j,j < ps.length->Ab1 ps k j=true->j∈F)(hkF:k∉F)(hFl:F.length<=60)
  (hb:∀ i∈F,Bst (Kk ps i) w (b i)) (hbl:∀ i∈F,(b i).length<=1000) :
  ∃ (b':Nat->List Nat) (y4 y5:Option U) (M':UH),Dt [some (.tup (ps.map p3U)),some (.ref W),some (.ref E),some (.int (k:Int)),x4,x5] M=some (.nx [some (.tup (ps.map p3U)),some (.ref W),some (.ref E),some (.int (k:Int)),y4,y5],M'.set E (.dic (dK (F++[k]) fun i=>pU w (b' i))))/\Gw M M'/\(∀ i∈F,b' i=b i)/\Bst (Kk ps k) w (b' k):=by
 obtain ⟨r,L1,e1,h1,g1,_⟩:=Wk ps (by omega) (ptAt ps k) M
 have hE1:=g1.get hE
 have hi:(f2 Am (Ad 0) (Ad 3)) [some (.tup (ps.map p3U)),some (.ref W),some (.ref E),some (.int (k:Int)),x4,x5] M=some (p3U (ptAt ps k),M):=Cr rfl rfl (Ml hk M)
 have hi2:∀ N x4 x5,(f2 Am (Ad 0) (Ad 3)) [some (.tup (ps.map p3U)),some (.ref W),some (.ref E),some (.int (k:Int)),x4,x5] N=some (p3U (ptAt ps k),N):=fun N x4 x5=>Cr rfl rfl (Ml hk N)
 have ht:=Akn (fa:=Ad 0) (δ:=[some (.tup (ps.map p3U)),some (.ref W),some (.ref E),some (.int (k:Int)),x4,x5]) rfl hi e1
 have hs:Ao L1 r=some ((abl ps k).map fun (j:Nat)=>U.int (j:Int)):=Aj h1
 have hab:∀ j∈abl ps k,j∈F:=fun j hj=>hF j (bG.mp (bT.mp hj).1) (bT.mp hj).2
 have hal:(abl ps k).length<=60:=by
  have:=dS (Ab1 ps k) (aO ps.length)
  rw[cF] at this
  unfold abl;omega
 obtain ⟨x,ec⟩:=Bp (ix:=[none,some 2]) (fi:=Bg (Be 2 Eb (Ac (Ad 0) (Ac (f2 Am (Ad 0) (Ad 3)) Af)))) (it:=.ref r) (g:=gN 0) (tt:=none) (fe:=Hm) (δ:=[some (.tup (ps.map p3U)),some (.ref W),some (.ref E),some (.int (k:Int)),x4,x5]) (L:=M) (L0:=L1)
  (abl ps k) (fun (j:Nat)=>U.int (j:Int)) (fun _=>true) (fun j=>pU w (b j)) (fun δ=>∃ z,δ = [z,some (.ref E)]) (by rw[Er,ht];simp only[aA,B0 hs,aC]) (by rw[Dy hs];simp) (by omega) ⟨none,rfl⟩
  (fun k x=>Hj (Br hs))
  (fun j δ x hj ⟨z,hδ⟩=>by
   subst hδ
   refine ⟨[some (.int (j:Int)),some (.ref E)],rfl,⟨_,rfl⟩,[],by simp[Iw],fun _=>⟨[],?_⟩⟩
   rw[bB,bB]
   exact Akw (u:=.int (j:Int)) rfl rfl rfl ((Gw.new L1 x).get hE1) (Lg (hab j hj)))
 have hff:hV (fun _=>true) (abl ps k)=abl ps k:=dX.mpr (fun _ _=>rfl)
 rw[hff] at ec
 have s1:=Ds (i:=4) ec
 simp only[aZ,bA] at s1
 have g2:Gw M (L1++x++[HU.lst ((abl ps k).map fun j=>pU w (b j))]):=(g1.trans (Gw.new _ x)).trans (Gw.new _ _)
 have hf:(L1++x++[HU.lst ((abl ps k).map fun j=>pU w (b j))])[(L1++x).length]? = some (.lst ((abl ps k).map fun j=>pU w (b j))):=by simp
 generalize L1++x++[HU.lst ((abl ps k).map fun j=>pU w (b j))]=L2 at s1 g2 hf
 generalize (L1++x).length=rf at s1 hf
 have hz:(Ec (Ac (fC (.int 0)) (Ac (Ec Af) Af))) [some (.tup (ps.map p3U)),some (.ref W),some (.ref E),some (.int (k:Int)),some (.ref rf),x5] L2=some (pU w [],L2):=Age rfl (Abx _ _)
 have hl1:=Aeq hz
 have hq1:(L2++[HU.lst [pU w []]])[L2.length]? = some (.lst [pU w []]):=by simp
 have hq2:=(Gw.new L2 [HU.lst [pU w []]]).get hf
 have hadd:=U6 hq1 hq2 (by simp only[aM,aY,aQ];omega)
 have hcs:[pU w []]++(abl ps k).map (fun j=>pU w (b j))=([]::(abl ps k).map b).map (pU w):=by simp
 rw[hcs] at hadd
 obtain ⟨rr,hrm,er,hrmin⟩:=Akd (L:=L2++[HU.lst [pU w []]]++[HU.lst (([]::(abl ps k).map b).map (pU w))]) (n:=(L2++[HU.lst [pU w []]]).length) (w:=w) (cs:=[]::(abl ps k).map b) (by simp) (by simp)
 have s2:=Ds (i:=5) (Akh (Cr (fb:=Ad 4) hl1 rfl hadd) er)
 simp only[aZ,bA] at s2
 have g3:Gw M (L2++[HU.lst [pU w []]]++[HU.lst (([]::(abl ps k).map b).map (pU w))]):=(g2.trans (Gw.new _ _)).trans (Gw.new _ _)
 generalize L2++[HU.lst [pU w []]]++[HU.lst (([]::(abl ps k).map b).map (pU w))]=L3 at s2 g3
 have hrl:rr.length<=1000:=by
  rcases bH.mp hrm with rfl | h
  ·simp
  ·obtain ⟨j,hj,rfl⟩:=bU.mp h
   exact hbl j (hab j hj)
 obtain ⟨wk,hw1,hw2⟩:=hW.gw g3
 have hnm:∀ N,(f2 Am (f2 Am (Ad 0) (Ad 3)) (fC (.int 0))) [some (.tup (ps.map p3U)),some (.ref W),some (.ref E),some (.int (k:Int)),some (.ref rf),some (pU w rr)] N=some (.str (ptAt ps k).1,N):=fun N=>Cr (hi2 N _ _) rfl rfl
 have hwk:=Akw (fo:=Ad 1) (δ:=[some (.tup (ps.map p3U)),some (.ref W),some (.ref E),some (.int (k:Int)),some (.ref rf),some (pU w rr)]) rfl (hnm L3) rfl hw1 (hw2 k hk)
 have hr0:(f2 Am (Ad 5) (fC (.int 0))) [some (.tup (ps.map p3U)),some (.ref W),some (.ref E),some (.int (k:Int)),some (.ref rf),some (pU w rr)] L3=some (.int (wS w rr),L3):=Cr rfl rfl rfl
 have hr1:(f2 Am (Ad 5) (fC (.int 1))) [some (.tup (ps.map p3U)),some (.ref W),some (.ref E),some (.int (k:Int)),some (.ref rf),some (pU w rr)] L3=some (.tup (ixU rr),L3):=Cr rfl rfl rfl
 have hv:=Age (Cr (s:=Aw) hwk hr0 rfl) (Cr (s:=Aw) (Akq (fa:=Ad 3) rfl) hr1 (Aa0 (a:=[.int (k:Int)]) (b:=ixU rr) L3 (by simp) (by simp only[ixU,aM,aY,aQ];omega)))
 have hvU:(.tup [.int (w k+wS w rr),.tup ([.int (k:Int)]++ixU rr)]:U)=pU w (k::rr):=by
  unfold pU
  rw[Vi]
  rfl
 rw[hvU] at hv
 have s3:=Wx (fo:=Ad 2) (fi:=Ad 3) (u:=.int (k:Int)) hv rfl rfl rfl (g3.get hE) (by unfold dK;rw[aQ];omega)
 rw[Vg hkF] at s3
 refine ⟨fun j=>if j=k then k::rr else b j,some (.ref rf),some (pU w rr),L3,?_,g3,fun i hi=>if_neg (fun e=>hkF (by rw[<- e];exact hi)),?_⟩
 ·have hd:dK (F++[k]) (fun j=>if j=k then pU w (k::rr) else pU w (b j))=dK (F++[k]) fun i=>pU w (if i=k then k::rr else b i):=Nf fun i _=>by
   by_cases h:i=k
   ·rw[if_pos h,if_pos h]
   ·rw[if_neg h,if_neg h]
  rw[hd] at s3
  unfold Dt
  rw[Ak s1,Ak s2]
  exact s3
 ·show Bst (Kk ps k) w (if k=k then k::rr else b k)
  rw[if_pos rfl]
  refine Rh hk (fun j hj=>hb j (hab j hj)) ?_ (hrmin [] (aT ..)) fun j hj=>hrmin _ (aK _ (fW hj))
  rcases bH.mp hrm with h | h
  ·exact .inl h
  ·obtain ⟨j,hj,rfl⟩:=bU.mp h
   exact .inr ⟨j,hj,rfl⟩
theorem Mf:∀ {c:List Nat},IsC ps c->c.length<=ps.length:=by
 have key:∀ (c:List Nat),IsC ps c->∀ i r,c=i::r->c.length<=(abl ps i).length+1:=by
  intro c
  induction c with
  | nil=>intro h;exact h.elim
  | cons a c ih=>
   intro h i r e
   cases e
   cases c with
   | nil=>simp
   | cons j r=>
    have h2:=ih h.2.2 j r rfl
    have h3:(abl ps j).length < (abl ps a).length:=G5 _ (fun x _ hx=>Aas h.2.1 hx) ⟨j,bG.mpr h.2.2.head,h.2.1,Rt ps j⟩
    simp only[aM] at h2 ⊢
    omega
 intro c h
 obtain ⟨i,r,e⟩:=h.ex
 have h1:=key c h i r e
 have hi:i < ps.length:=by rw[e] at h;exact h.head
 have h2:(abl ps i).length < (aO ps.length).length:=by
  have:(aO ps.length).filter (fun _=>true)=aO ps.length:=dX.mpr fun _ _=>rfl
  conv=>rhs;rw[<- this]
  exact G5 _ (fun _ _ _=>rfl) ⟨i,bG.mpr hi,rfl,Rt ps i⟩
 rw[cF] at h2
 omega
theorem Ae9(hn:ps.length<=60)(hW:Wt L W ps w):∃ (b:Nat->List Nat) (r:Nat) (L':UH),Ew [.tup (ps.map p3U),.ref W] L=some (.ref r,L')/\L'[r]? = some (.lst ((Dr ps).map fun i=>pU w (b i)))/\(∀ i,i < ps.length->Bst (Kk ps i) w (b i))/\Gw L L':=by
 have hWl:W < L.length:=by
  obtain ⟨kvs,h,_⟩:=hW
  exact (aF.mp h).1
 have s1:(Ba Kw (gN 2)) [some (.tup (ps.map p3U)),some (.ref W),none,none,none,none] L=some (.nx [some (.tup (ps.map p3U)),some (.ref W),some (.ref L.length),none,none,none],L++[.dic []]):=rfl
 have hh:=Y0 ps hn (L++[HU.dic []])
 have hFl:=Qu ps
 have gA:Gw L (L++[HU.dic []]++[HU.lst (ixU (Dr ps))]):=(Gw.new L _).trans (Gw.new _ _)
 have hr:(L++[HU.dic []]++[HU.lst (ixU (Dr ps))])[(L++[HU.dic []]).length]? = some (.lst (ixU (Dr ps))):=by simp
 have hE0:(L++[HU.dic []]++[HU.lst (ixU (Dr ps))])[L.length]? = some (.dic (dK [] fun i=>pU w [])):=by simp[dK]
 have hre:(L++[HU.dic []]).length≠L.length:=by simp
 generalize hM:L++[HU.dic []]++[HU.lst (ixU (Dr ps))]=M at hh gA hr hE0
 generalize (L++[HU.dic []]).length=r at hh hr hre
 have hi:(Bg (Be 1 Bt (Ac (Ad 0) Af))) [some (.tup (ps.map p3U)),some (.ref W),some (.ref L.length),none,none,none] (L++[HU.dic []])=some (.ref r,M):=by
  rw[Er,S6 (i:=0) rfl hh]
  simp only[aA,B0 (Aj hr),aC]
 obtain ⟨δ',L',e,P⟩:=Nq (us:=ixU (Dr ps)) (n:=r) (body:=Dt) (g:=gN 3)
  (fun p δ' M'=>∃ (b:Nat->List Nat) (y3 y4 y5:Option U),δ'=[some (.tup (ps.map p3U)),some (.ref W),some (.ref L.length),y3,y4,y5]/\M'[L.length]? = some (.dic (dK ((Dr ps).take p) fun i=>pU w (b i)))/\(∀ i∈(Dr ps).take p,Bst (Kk ps i) w (b i))/\M'[r]? = some (.lst (ixU (Dr ps)))/\Gw L M')
  hi ⟨fun _=>[],none,none,none,rfl,hE0,(fun i hi=>by cases hi),hr,gA⟩
  (fun k δ M ⟨_,_,_,_,_,_,_,h,_⟩=>Aj h)
  (fun p u δ M' hu ⟨b,y3,y4,y5,hδ,h1,h2,h3,h4⟩=>by
   subst hδ
   unfold ixU at hu
   rw[bO] at hu
   obtain ⟨k,hk,rfl⟩:=aH.mp hu
   have hpl:=(aF.mp hk).1
   have hkn:k < ps.length:=(Jf ps).mp (bV hk)
   have htake:(Dr ps).take (p+1)=(Dr ps).take p++[k]:=by rw[iW,hk];rfl
   have hkF:k∉(Dr ps).take p:=fun hm=>by
    obtain ⟨q,hq,hqe⟩:=fG.mp hm
    have hpe:(Dr ps)[p]=k:=by rw[aL hpl] at hk;exact bS hk
    have:=(gR.mp (Yj ps))
    have h5:=jC.mp this q p (by omega) hpl (by omega)
    exact h5 (by rw[hqe,hpe])
   obtain ⟨b',z4,z5,M2,e2,g2,q1,q2⟩:=Yr (x4:=y4) (x5:=y5) hn hkn (hW.gw h4) h1 (fun j hj hb=>Y2 hk hj hb) hkF (by rw[fK];omega) h2 (fun i hi=>by have:=Mf (h2 i hi).1.1;omega)
   have hEl:L.length < M2.length:=by
    have:=(aF.mp (g2.get h1)).1
    exact this
   refine ⟨[some (.tup (ps.map p3U)),some (.ref W),some (.ref L.length),some (.int (k:Int)),y4,y5],M',rfl,_,_,.inl e2,b',_,_,_,rfl,by rw[htake];exact bM hEl,fun i hi=>?_,by rw[bL (eR hre)];exact g2.get h3,(h4.trans g2).set (aS _) _⟩
   rw[htake] at hi
   rcases cR.mp hi with hi | hi
   ·rw[q1 i hi];exact h2 i hi
   ·rw[cB.mp hi];exact q2)
 obtain ⟨b,y3,y4,y5,hδ,h1,h2,h3,h4⟩:=P
 rw[hδ] at e
 have hxl:(ixU (Dr ps)).length=(Dr ps).length:=by simp[ixU]
 rw[hxl,nG] at h1 h2
 have hdic:Ft L' L.length=some (dK (Dr ps) fun i=>pU w (b i)):=by unfold Ft;rw[h1]
 have hvals:T7 (dK (Dr ps) fun i=>pU w (b i))=(Dr ps).map fun i=>pU w (b i):=by
  unfold T7 dK
  rw[dB];rfl
 have ev:(U4 (Ad 2)) [some (.tup (ps.map p3U)),some (.ref W),some (.ref L.length),y3,y4,y5] L'=some (.ref L'.length,L'++[.lst ((Dr ps).map fun i=>pU w (b i))]):=by
  rw[<- hvals]
  unfold U4
  simp only[fVar_eq,aN,aI,aV,aC,aA,hdic]
 refine ⟨b,L'.length,L'++[.lst ((Dr ps).map fun i=>pU w (b i))],?_,by simp,fun i hi=>h2 i ((Jf ps).mpr hi),h4.trans (Gw.new _ _)⟩
 unfold Ew fnU Ju
 simp only[aM,aY,if_true,aW,bW,bN,dC,dL]
 rw[Ak s1,Ak e,fRet_eq,ev]
 simp only[aC,aA]
noncomputable def nmU(ps:List P3)(c:List Nat):U:=.tup (c.map fun i=>U.str (ptAt ps i).1)
theorem Ah9{v0 v1:Nat}(h:j < ps.length)(L:UH)(h0:Ad v0 δ L=some (.tup (ps.map p3U),L))(h1:Ad v1 δ L=some (.int (j:Int),L)):(f2 Am (f2 Am (Ad v0) (Ad v1)) (fC (.int 0))) δ L=some (.str (ptAt ps j).1,L):=Cr (Cr h0 h1 (Ml h L)) rfl rfl
variable {fe:FE}
theorem Ms{fi:FI}{it:IU}{i0:Nat}(hfe:fe=f2 Am (f2 Am (Ad 1) (Ad 0)) (fC (.int 0)))(hi:fi δ L=some (it,L0))(hsz:c.length<=it.size L0)(hat:∀ k x,it.at k (L0++x)=some (c.map fun (j:Nat)=>U.int (j:Int))[k]?)(hd:δ[i0]? = some (some (.tup (ps.map p3U))))(hc:∀ j∈c,j < ps.length)(hl:c.length<=1000) :
  ∃ L',(Az C5 (Ac (Bk [none,some i0] fi (gN 0) none fe) Af)) δ L=some (nmU ps c,L')/\Gw L0 L':=by
 obtain ⟨x,e⟩:=Bp (ix:=[none,some i0]) (fi:=fi) (it:=it) (g:=gN 0) (tt:=none) (fe:=fe) (δ:=δ) (L:=L) (L0:=L0) c (fun (j:Nat)=>U.int (j:Int)) (fun _=>true) (fun j=>U.str (ptAt ps j).1) (fun δ=>∃ z,δ = [z,some (.tup (ps.map p3U))]) hi hsz (by omega) ⟨none,by simp[Gg,hd]⟩ hat
  (fun j δ x hj ⟨z,hδ⟩=>by
   subst hδ
   refine ⟨[some (.int (j:Int)),some (.tup (ps.map p3U))],rfl,⟨_,rfl⟩,[],by simp[Iw],fun _=>⟨[],?_⟩⟩
   rw[bB,bB,hfe]
   exact Ah9 (hc j hj) _ rfl rfl)
 have hff:hV (fun _=>true) c=c:=dX.mpr (fun _ _=>rfl)
 rw[hff] at e
 refine ⟨L0++x++[HU.lst (c.map fun j=>U.str (ptAt ps j).1)],Gf e ?_,(Gw.new _ x).trans (Gw.new _ _)⟩
 have hq:Ao (L0++x++[HU.lst (c.map fun j=>U.str (ptAt ps j).1)]) (L0++x).length=some (c.map fun j=>U.str (ptAt ps j).1):=Aj (by simp)
 simp only[C5,hq,aC,nmU]
theorem IsC.all:∀ {c:List Nat},IsC ps c->∀ j∈c,j < ps.length:=by
 intro c
 induction c with
 | nil=>intro h;exact h.elim
 | cons a c ih=>
  intro h j hj
  rcases bH.mp hj with rfl | hj
  ·exact h.head
  ·cases c with
   | nil=>cases hj
   | cons b c=>exact ih h.2.2 j hj
theorem W6(hn:ps.length<=60)(hne:ps≠[])(hW:Wt L W ps w):∃ (c:List Nat) (L':UH),Ez [.tup (ps.map p3U),.ref W] L=some (.tup [.int (wS w c),nmU ps c],L')/\Bst (IsC ps) w c/\Gw L L':=by
 have hpos:0 < ps.length:=iD.mpr hne
 obtain ⟨b,r,L1,e1,h1,hb,g1⟩:=Ae9 hn hW
 have hm:(Dr ps).map (fun i=>pU w (b i))=((Dr ps).map b).map (pU w):=by rw[dB];rfl
 rw[hm] at h1
 obtain ⟨c,hc,e2,hmin⟩:=Akd h1 (by
  intro z
  have:=congrArg eW z
  rw[aQ,Qu] at this
  have h0:ps.length=0:=this
  omega)
 obtain ⟨k,hk,rfl⟩:=bU.mp hc
 have hkn:=(Jf ps).mp hk
 have hB:=Ahk hkn hb (fun i hi=>hmin _ (fW ((Jf ps).mpr hi)))
 have t0:(Pu (Ij (Ad 0))) [some (.tup (ps.map p3U)),some (.ref W),none] L=some (false,L):=by
  have:Xo (.tup (ps.map p3U)) L=some true:=by
   cases ps with
   | nil=>exact absurd rfl hne
   | cons _ _=>rfl
  simp only[fNot_eq,fTru_eq,fVar_eq,aI,aV,aC,aA,this,iB]
 have s0:(Fm (Pu (Ij (Ad 0))) (Dj (Ec (Ac (fC (.int 0)) (Ac (Ec Af) Af)))) C1) [some (.tup (ps.map p3U)),some (.ref W),none] L=some (.nx [some (.tup (ps.map p3U)),some (.ref W),none],L):=by
  rw[fIfS_eq,t0]
  simp only[aA,bK,if_false,Cq]
 have s1:=Ds (i:=2) (Akh (T9 (i:=0) (j:=1) (δ:=[some (.tup (ps.map p3U)),some (.ref W),none]) rfl rfl e1) e2)
 simp only[aZ,bA] at s1
 have hcl:=Mf hB.1
 have hx:(f2 Am (Ad 2) (fC (.int 1))) [some (.tup (ps.map p3U)),some (.ref W),some (pU w (b k))] L1=some (.tup (ixU (b k)),L1):=Cr rfl rfl rfl
 have h0:(f2 Am (Ad 2) (fC (.int 0))) [some (.tup (ps.map p3U)),some (.ref W),some (pU w (b k))] L1=some (.int (wS w (b k)),L1):=Cr rfl rfl rfl
 obtain ⟨L2,e3,g3⟩:=Ms (ps:=ps) (fi:=Bg (f2 Am (Ad 2) (fC (.int 1)))) (it:=.seq (ixU (b k))) (fe:=Hn) (δ:=[some (.tup (ps.map p3U)),some (.ref W),some (pU w (b k))]) (L:=L1) (L0:=L1) (c:=b k) (i0:=0) rfl (by rw[Er,hx];rfl) (by simp[IU.size,ixU]) (fun _ _=>rfl) rfl hB.1.all (by omega)
 refine ⟨b k,L2,?_,hB,g1.trans g3⟩
 have ht:=Age h0 e3
 unfold Ez fnU Jb
 simp only[aM,aY,if_true,aW,bW,bN,dC,dL]
 rw[Ak s0,Ak s1,fRet_eq,ht]
 simp only[aC,aA]
noncomputable def w1:Nat->Int:=fun _=>1
theorem wS_one(c:List Nat):wS w1 c=(c.length:Int):=by
 unfold wS w1
 induction c with
 | nil=>rfl
 | cons a c ih=>rw[aW,jH,ih,aM];omega
theorem Yi{f:Nat->Int}(hn:∀ x∈l,0<=f x)(h:0 < sm l f):∃ x∈l,0 < f x:=by
 induction l with
 | nil=>simp[sm] at h
 | cons a l ih=>
  rw[sm_cons] at h
  by_cases ha:0 < f a
  ·exact ⟨a,aT ..,ha⟩
  ·obtain ⟨x,hx,h2⟩:=ih (fun x hx=>hn x (aK _ hx)) (by have:=hn a (aT ..);omega)
   exact ⟨x,aK _ hx,h2⟩
theorem Agz{f:Nat->Int}(hn:∀ x∈l,0<=f x){x:Nat}(hx:x∈l):f x<=sm l f:=by
 induction l with
 | nil=>cases hx
 | cons a l ih=>
  rw[sm_cons]
  have h1:=hn a (aT ..)
  have h2:=Aap (f:=f) (l:=l) fun y hy=>hn y (aK _ hy)
  rcases bH.mp hx with rfl | hx
  ·omega
  ·have:=ih (fun y hy=>hn y (aK _ hy)) hx
   omega
theorem Amq(h:i < ps.length):bgf ps (t+1) i=sm (abl ps i) (bgf ps t):=by
 rw[Lb h]
 unfold abl
 rw[sm_filter]
theorem Q1(h:j∈abl ps i):j < ps.length:=bG.mp (bT.mp h).1
theorem Mc:∀ (t i:Nat),i < ps.length->(0 < bgf ps t i↔∃ c,Kk ps i c/\c.length=t+1)
 | 0,i,h=>by
  rw[Nh h]
  exact ⟨fun _=>⟨[i],⟨h,rfl⟩,rfl⟩,fun _=>by decide⟩
 | t+1,i,h=>by
  rw[Amq h]
  constructor
  ·intro hp
   obtain ⟨j,hj,hq⟩:=Yi (fun x hx=>Sr ps t x (Q1 hx)) hp
   obtain ⟨c,⟨hc,hh⟩,hl⟩:=(Mc t j (Q1 hj)).mp hq
   obtain ⟨k,r,e⟩:=hc.ex
   rw[e] at hc hh hl
   cases hh
   exact ⟨i::j::r,⟨⟨h,(bT.mp hj).2,hc⟩,rfl⟩,by rw[aM,hl]⟩
  ·rintro ⟨c,⟨hc,hh⟩,hl⟩
   obtain ⟨k,r,e⟩:=hc.ex
   rw[e] at hc hh hl
   cases hh
   cases r with
   | nil=>simp at hl
   | cons j r=>
    have hj:j∈abl ps i:=bT.mpr ⟨bG.mpr hc.2.2.head,hc.2.1⟩
    have h1:=(Mc t j (Q1 hj)).mpr ⟨j::r,⟨hc.2.2,rfl⟩,by simpa using hl⟩
    have h2:=Agz (fun x hx=>Sr ps t x (Q1 hx)) hj
    omega
theorem My:G0 ps t=true↔∃ c,IsC ps c/\c.length=t+1:=by
 constructor
 ·intro h
  have hp:=Rj h
  rw[Acd] at hp
  obtain ⟨i,hi,hq⟩:=Yi (fun x hx=>Sr ps t x (bG.mp hx)) hp
  obtain ⟨c,hc,hl⟩:=(Mc t i (bG.mp hi)).mp hq
  exact ⟨c,hc.1,hl⟩
 ·rintro ⟨c,hc,hl⟩
  obtain ⟨i,r,e⟩:=hc.ex
  have hi:i < ps.length:=by rw[e] at hc;exact hc.head
  have hp:=(Mc t i hi).mpr ⟨c,⟨hc,by rw[e];rfl⟩,hl⟩
  cases h:G0 ps t with
  | true=>rfl
  | false=>rw[Aba h i hi] at hp;exact absurd hp (by decide)
theorem Ky{d:List Nat}(h:Bst (IsC ps) w1 c)(hd:IsC ps d):d.length<=c.length:=by
 have:=h.2 d hd
 unfold kl at this
 rw[wS_one,wS_one] at this
 by_cases e:(d.length:Int)=c.length
 ·omega
 ·rw[if_neg (by omega)] at this
  simp only[decide_eq_false_iff_not] at this
  omega
noncomputable def Ahb(ps:List P3)(c:List Nat):U:=.tup [.int (c.length:Int),.int (bg ps (c.length - 1)).sum,nmU ps c]
theorem Sz(h:Bst (IsC ps) w1 c)(h1:G0 ps T=false)(h2:∀ t,t < T->G0 ps t=true):T=c.length:=by
 obtain ⟨i,r,e⟩:=h.1.ex
 have hpos:0 < c.length:=by rw[e];simp
 have la:G0 ps (c.length - 1)=true:=My.mpr ⟨c,h.1,by omega⟩
 have lb:G0 ps c.length=false:=by
  cases q:G0 ps c.length with
  | false=>rfl
  | true=>
   obtain ⟨d,hd,hl⟩:=My.mp q
   have:=Ky h hd
   omega
 rcases qS T c.length with q | q | q
 ·exfalso
  have hp:=Rj la
  rw[Xl h1 (by omega)] at hp
  exact absurd hp (by decide)
 ·exact q
 ·rw[h2 _ q] at lb;cases lb
theorem Adf(ps:List P3)(hn:ps.length<=60)(L:UH):∃ (y2:Option U) (L':UH),(Jh (Bg (Ad 0)) (gN 2) Fj) [some (.tup (ps.map p3U)),some (.ref L.length),none,none] (L++[.dic []])=some (.nx [some (.tup (ps.map p3U)),some (.ref L.length),y2,none],L')/\Wt L' L.length ps w1/\Gw L L':=by
 obtain ⟨δ',L',e,P⟩:=P7 (us:=ps.map p3U) (L0:=L++[.dic []]) (L:=L++[.dic []]) (δ:=[some (.tup (ps.map p3U)),some (.ref L.length),none,none]) (body:=Fj) (g:=gN 2) (fi:=Bg (Ad 0))
  (fun p δ' M=>∃ (y2:Option U) (kvs:List (Key×U)),δ'=[some (.tup (ps.map p3U)),some (.ref L.length),y2,none]/\M[L.length]? = some (.dic kvs)/\kvs.length<=p/\(∀ i,i < p->Iz kvs (.inr (ptAt ps i).1)=some (.int 1))/\Gw L M)
  (by simp[Qq]) ⟨none,[],rfl,by simp,by simp,(fun i hi=>by omega),Gw.new _ _⟩
  (fun p u δ M hu ⟨y2,kvs,hδ,h1,h2,h3,h4⟩=>by
   subst hδ
   rw[bO] at hu
   obtain ⟨q,hq,rfl⟩:=aH.mp hu
   have hpl:=(aF.mp hq).1
   have hqe:ptAt ps p=q:=by unfold ptAt;rw[aP,hq];rfl
   have s:=Wx (fo:=Ad 1) (fi:=f2 Am (Ad 2) (fC (.int 0))) (fv:=fC (.int 1)) (u:=.str q.1) (k:=.inr q.1) (v:=.int 1) (δ:=[some (.tup (ps.map p3U)),some (.ref L.length),some (p3U q),none]) (L:=M) (M:=M) rfl rfl (Cr rfl rfl rfl) rfl h1 (by omega)
   have hEl:=(aF.mp h1).1
   refine ⟨[some (.tup (ps.map p3U)),some (.ref L.length),some (p3U q),none],M,rfl,_,_,.inl s,_,_,rfl,bM hEl,by have:=Aha kvs (.inr q.1) (.int 1);omega,fun i hi=>?_,h4.set (aS _) _⟩
   rw[Af5]
   by_cases hk:(nH (ptAt ps i).1:Key) = .inr q.1
   ·rw[if_pos hk]
   ·rw[if_neg hk]
    refine h3 i ?_
    by_cases hip:i=p
    ·rw[hip,hqe] at hk;exact absurd rfl hk
    ·omega)
 obtain ⟨y2,kvs,hδ,h1,h2,h3,h4⟩:=P
 rw[hδ] at e
 rw[aQ] at h3
 exact ⟨y2,L',e,⟨kvs,h1,h3⟩,h4⟩
theorem Rg(ps:List P3)(hn:ps.length<=60)(hne:ps≠[])(L:UH):∃ (c:List Nat) (L':UH),Di [.tup (ps.map p3U)] L=some (Ahb ps c,L')/\Bst (IsC ps) w1 c/\Gw L L':=by
 have t0:(Pu (Ij (Ad 0))) [some (.tup (ps.map p3U)),none,none,none] L=some (false,L):=by
  have:Xo (.tup (ps.map p3U)) L=some true:=by
   cases ps with
   | nil=>exact absurd rfl hne
   | cons _ _=>rfl
  simp only[fNot_eq,fTru_eq,fVar_eq,aI,aV,aC,aA,this,iB]
 have s0:(Fm (Pu (Ij (Ad 0))) (Dj (Ec (Ac (fC (.int 0)) (Ac (fC (.int 1)) (Ac (Ec Af) Af))))) C1) [some (.tup (ps.map p3U)),none,none,none] L=some (.nx [some (.tup (ps.map p3U)),none,none,none],L):=by
  rw[fIfS_eq,t0]
  simp only[aA,bK,if_false,Cq]
 have s1:(Ba Kw (gN 1)) [some (.tup (ps.map p3U)),none,none,none] L=some (.nx [some (.tup (ps.map p3U)),some (.ref L.length),none,none],L++[.dic []]):=rfl
 obtain ⟨y2,K2,s2,hW,g2⟩:=Adf ps hn L
 obtain ⟨c,L3,e3,hB,g3⟩:=W6 hn hne hW
 have s3:=Ds (i:=3) (T9 (i:=0) (j:=1) (δ:=[some (.tup (ps.map p3U)),some (.ref L.length),y2,none]) rfl rfl e3)
 simp only[aZ,bA] at s3
 obtain ⟨T,L4,e4,hT,h1,h2,g4⟩:=Ai4 ps (by omega) L3
 have hTc:=Sz hB h1 h2
 have hcp:0 < c.length:=by obtain ⟨i,r,e⟩:=hB.1.ex;rw[e];simp
 have a1:(f2 Am (Ad 3) (fC (.int 0))) [some (.tup (ps.map p3U)),some (.ref L.length),y2,some (.tup [.int (wS w1 c),nmU ps c])] L3=some (.int (c.length:Int),L3):=by
  rw[<- wS_one]
  exact Cr rfl rfl rfl
 have hix:Am (.tup ((Kt ps T).map U.int)) (.int (-1)) L4=some (.int (bg ps (c.length - 1)).sum,L4):=by
  obtain ⟨m,hm⟩:∃ m,T=m+1:=⟨T - 1,by omega⟩
  have hc1:c.length - 1=m:=by omega
  rw[hm,told_step,hc1,jK]
  generalize hl:(Kt ps m).map U.int=l
  generalize (bg ps m).sum=z
  have hn1:ixN (l.length+1) (-1)=some l.length:=by
   unfold ixN
   rw[if_neg (by decide),if_pos (by omega)]
   congr 1;omega
  have:L2.atI (l++[.int z]) (-1)=some (.int z):=by
   unfold L2.atI
   rw[cH,aM,aY,nX,hn1]
   simp
  rw[Oq]
  show (L2.atI (l++[.int z]) (-1)).map _=_
  rw[this];rfl
 have a2:(f2 Am (Be 1 Dq (Ac (Ad 0) Af)) (Qs (fC (.int 1)))) [some (.tup (ps.map p3U)),some (.ref L.length),y2,some (.tup [.int (wS w1 c),nmU ps c])] L3=some (.int (bg ps (c.length - 1)).sum,L4):=Cr (S6 (i:=0) rfl e4) (by rw[U5];rfl) hix
 have a3:(f2 Am (Ad 3) (fC (.int 1))) [some (.tup (ps.map p3U)),some (.ref L.length),y2,some (.tup [.int (wS w1 c),nmU ps c])] L4=some (nmU ps c,L4):=Cr rfl rfl rfl
 have ht:=Abm a1 a2 a3
 refine ⟨c,L4,?_,hB,(g2.trans g3).trans g4⟩
 unfold Di fnU Jl
 simp only[aM,aY,if_true,aW,bW,bN,dC,dL]
 rw[Ak s0,Ak s1,Ak s2,Ak s3,fRet_eq,ht]
 simp only[aC,aA]
 rfl
noncomputable def Bv(c:Ch):List Nat:=c.1++[c.2]
variable {e:Nat}
theorem Ag0(hk:k < ps.length)(hb:Ab1 ps e k=true):∀ {l:List Nat},IsC ps (l++[e])->IsC ps (l++[e]++[k]):=by
 intro l
 induction l with
 | nil=>intro h;exact ⟨h,hb,hk⟩
 | cons a l ih=>
  intro h
  cases l with
  | nil=>exact ⟨h.1,h.2.1,ih h.2.2⟩
  | cons b l=>exact ⟨h.1,h.2.1,ih h.2.2⟩
theorem Amj{t:List Nat}:∀ {l:List Nat},IsC ps (l++[e]++k::t)->Ab1 ps e k=true/\k < ps.length:=by
 intro l
 induction l with
 | nil=>intro h;exact ⟨h.2.1,h.2.2.head⟩
 | cons a l ih=>
  intro h
  cases l with
  | nil=>exact ih h.2.2
  | cons b l=>exact ih h.2.2
structure Cv(ps:List P3)(fs ws:List Ch):Prop where
 f:∀ c∈fs,IsC ps (Bv c)
 w:∀ c∈ws,IsC ps (Bv c)
 all:∀ d,IsC ps d->(∃ c∈fs,Bv c=d)\/∃ c∈ws,∃ t,Bv c++t=d
theorem Cv.start(ps:List P3):Cv ps [] ((aO ps.length).map fun i=>(([],i):Ch)):=by
 refine ⟨(fun c hc=>by cases hc),fun c hc=>?_,fun d hd=>.inr ?_⟩
 ·obtain ⟨i,hi,rfl⟩:=bU.mp hc
  exact bG.mp hi
 ·obtain ⟨i,r,e⟩:=hd.ex
  have hi:i < ps.length:=by rw[e] at hd;exact hd.head
  exact ⟨([],i),bU.mpr ⟨i,bG.mpr hi,rfl⟩,r,by rw[e];rfl⟩
theorem Cv.step{fs ws:List Ch}{c:Ch}(h:Cv ps fs (ws++[c])):Cv ps (fs++[c]) (ws++nxt ps c):=by
 have hc:=h.w c (by simp)
 refine ⟨fun d hd=>?_,fun d hd=>?_,fun d hd=>?_⟩
 ·rcases cR.mp hd with z | z
  ·exact h.f d z
  ·rw[cB.mp z];exact hc
 ·rcases cR.mp hd with z | z
  ·exact h.w d (cO _ z)
  ·obtain ⟨k,hk,rfl⟩:=bU.mp z
   obtain ⟨hk1,hk2⟩:=bT.mp hk
   exact Ag0 (bG.mp hk1) hk2 hc
 ·rcases h.all d hd with ⟨x,hx,e⟩ | ⟨x,hx,t,e⟩
  ·exact .inl ⟨x,cO _ hx,e⟩
  ·rcases cR.mp hx with z | z
   ·exact .inr ⟨x,cO _ z,t,e⟩
   ·rw[cB.mp z] at e
    cases t with
    | nil=>exact .inl ⟨c,by simp,by rw[<- e,bB]⟩
    | cons k t=>
     rw[<- e] at hd
     obtain ⟨h1,h2⟩:=Amj (l:=c.1) (e:=c.2) hd
     refine .inr ⟨(c.1++[c.2],k),aU _ (bU.mpr ⟨k,bT.mpr ⟨bG.mpr h2,h1⟩,rfl⟩),t,?_⟩
     rw[<- e]
     unfold Bv
     simp
theorem Vh(us:List U)(u:U):(us++[u]).dropLast=us:=by simp
theorem Th(ps:List P3)(hn:ps.length<=8)(L:UH):∃ (r:Nat) (fs:List Ch) (L':UH),Gu [.tup (ps.map p3U)] L=some (.ref r,L')/\L'[r]? = some (.lst (fs.map chU))/\(∀ c∈fs,Okc ps c)/\(∀ t,sc fs (hit t)=(bg ps t).sum)/\Gw L L'/\Cv ps fs []/\fs.length<=256:=by
 have sm0:small ([]:List U).length=true:=small_of (by show 0<=16777216;decide)
 have sm1:∀ x:U,small [x].length=true:=fun _=>small_of (by show 1<=16777216;decide)
 have hl0:∀ δ M,(Cs Af) δ M=some (.ref M.length,M++[.lst []]):=fun δ M=>by rw[fLst_eq,fNil_eq,aA,if_pos sm0]
 have s1:=Ds (i:=1) (hl0 [some (.tup (ps.map p3U)),none,none,none,none] L)
 simp only[aZ,bA] at s1
 have hlen:Aq [.tup (ps.map p3U)] (L++[HU.lst []])=some (.int ps.length,L++[HU.lst []]):=by simp[Aq,lenU]
 have hrg:Bf 0 ps.length=(aO ps.length).map fun (i:Nat)=>U.int (i:Int):=by
  unfold Bf
  exact dI fun i _=>by rw[lM]
 have hi:Dc (Ac (Az Aq (Ac (Ad 0) Af)) Af) [some (.tup (ps.map p3U)),some (.ref L.length),none,none,none] (L++[HU.lst []])=some (.seq ((aO ps.length).map fun (i:Nat)=>U.int (i:Int)),L++[HU.lst []]):=by
  rw[<- hrg]
  exact Ic (n:=ps.length) (by simp only[fCons_eq,fCall_eq,fVar_eq,fNil_eq,aI,aV,aC,aA,hlen]) (by omega)
 obtain ⟨x,e1⟩:=Bp (ix:=[none]) (it:=.seq ((aO ps.length).map fun (i:Nat)=>U.int (i:Int))) (g:=gN 0) (tt:=none) (fe:=Gx) (δ:=[some (.tup (ps.map p3U)),some (.ref L.length),none,none,none]) (L:=L++[HU.lst []]) (L0:=L++[HU.lst []])
  (aO ps.length) (fun (i:Nat)=>U.int (i:Int)) (fun _=>true) (fun i=>chU ([],i)) (fun δ=>∃ z,δ = [z]) hi (by simp[IU.size]) (by simp;omega) ⟨none,rfl⟩
  (fun k x=>rfl)
  (fun j δ x _ ⟨z,hδ⟩=>by
   subst hδ
   refine ⟨[some (.int (j:Int))],rfl,⟨_,rfl⟩,[],by simp[Iw],fun _=>⟨[],?_⟩⟩
   rw[bB,bB]
   unfold Gx
   simp only[fTup_eq,fCons_eq,fVar_eq,fNil_eq,aI,aV,aC,aA]
   rw[if_pos (sm1 _)]
   rfl)
 have hff:hV (fun _=>true) (aO ps.length)=aO ps.length:=dX.mpr (fun _ _=>rfl)
 have hmm:(aO ps.length).map (fun i=>chU ([],i))=((aO ps.length).map fun i=>(([],i):Ch)).map chU:=by simp
 rw[hff,hmm] at e1
 have s2:=Ds (i:=2) e1
 simp only[aZ,bA] at s2
 have gM:Gw L (L++[HU.lst []]++x++[HU.lst (((aO ps.length).map fun i=>(([],i):Ch)).map chU)]):=((Gw.new L _).trans (Gw.new _ _)).trans (Gw.new _ _)
 have hwM:(L++[HU.lst []]++x++[HU.lst (((aO ps.length).map fun i=>(([],i):Ch)).map chU)])[(L++[HU.lst []]++x).length]? = some (.lst (((aO ps.length).map fun i=>(([],i):Ch)).map chU)):=by simp
 have hfM:(L++[HU.lst []]++x++[HU.lst (((aO ps.length).map fun i=>(([],i):Ch)).map chU)])[L.length]? = some (.lst []):=by simp
 have hwl:L.length < (L++[HU.lst []]++x).length:=by rw[cH,cH];simp only[aM,aY];omega
 generalize L++[HU.lst []]++x++[HU.lst (((aO ps.length).map fun i=>(([],i):Ch)).map chU)]=M at s2 gM hwM hfM
 generalize (L++[HU.lst []]++x).length=w at s2 hwM hwl
 have hmu0:mu ps ((aO ps.length).map fun i=>(([],i):Ch))+1<=256:=by
  have h:=Aey ps ps.length (aO ps.length) (by simp)
  have h2:2 ^ ps.length<=2 ^ 8:=iY (by omega) hn
  have h3:mu ps ((aO ps.length).map fun i=>(([],i):Ch))=((aO ps.length).map (wt ps (aO ps.length))).sum:=by
   unfold mu
   rw[dB];rfl
  rw[h3]
  have:(2:Nat) ^ 8=256:=by decide
  omega
 have hsc0:∀ t,sc [] (hit t)+sc ((aO ps.length).map fun i=>(([],i):Ch)) (ext ps t)=(bg ps t).sum:=fun t=>by
  rw[Acd]
  unfold sc sm
  rw[dB,bW,List.sum_nil,lM]
  congr 1
 obtain ⟨δ',L',e,P⟩:=So (c:=Ei) (body:=G9)
  (P:=fun m δ K=>∃ (y3 y4:Option U) (fs ws:List Ch),δ = [some (.tup (ps.map p3U)),some (.ref L.length),some (.ref w),y3,y4]/\K[L.length]? = some (.lst (fs.map chU))/\K[w]? = some (.lst (ws.map chU))/\mu ps ws=m/\fs.length+mu ps ws<=256/\(∀ c∈fs,Okc ps c)/\(∀ c∈ws,Okc ps c)/\(∀ t,sc fs (hit t)+sc ws (ext ps t)=(bg ps t).sum)/\Gw L K/\Cv ps fs ws)
  (Q:=fun δ K=>∃ (y3 y4:Option U) (fs:List Ch),δ = [some (.tup (ps.map p3U)),some (.ref L.length),some (.ref w),y3,y4]/\K[L.length]? = some (.lst (fs.map chU))/\(∀ c∈fs,Okc ps c)/\(∀ t,sc fs (hit t)=(bg ps t).sum)/\Gw L K/\Cv ps fs []/\fs.length<=256)
  (fun m δ K ⟨y3,y4,fs,ws,hδ,h1,h2,h3,h4,h5,h6,h7,h8,h9⟩=>by
   subst hδ
   have q1:Ao (K++[HU.lst []]) w=some (ws.map chU):=Br (Aj h2)
   have q2:Ao (K++[HU.lst []]) K.length=some []:=Aj (by simp)
   have he:=Ot q1 q2 (Apc _) (by simp)
   rw[Rn] at he
   have hc:Ei [some (.tup (ps.map p3U)),some (.ref L.length),some (.ref w),y3,y4] K=some (!(ws.map chU).isEmpty,K++[.lst []]):=by
    unfold Ei
    rw[fTest_eq,f2_eq]
    simp only[fVar_eq,aN,aI,aV,aC,aA,hl0,he]
   have g1:Gw K (K++[HU.lst []]):=Gw.new K _
   rcases List.eq_nil_or_concat ws with hws | ⟨ws0,c,hws⟩
   ·left
    subst hws
    exact ⟨_,hc,y3,y4,fs,rfl,g1.get h1,h5,fun t=>by have:=h7 t;simpa[sc] using this,h8.trans g1,h9,by omega⟩
   ·right
    rw[List.concat_eq_append] at hws
    have hemp:(ws.map chU).isEmpty=false:=by rw[hws];cases ws0 <;> rfl
    rw[hemp] at hc
    refine ⟨_,hc,?_⟩
    have k2:=g1.get h2
    have k1:=g1.get h1
    have gK:=h8.trans g1
    have hfw:L.length≠w:=by omega
    generalize K++[HU.lst []]=K1 at k1 k2 gK
    have hok:Okc ps c:=h6 c (by rw[hws];simp)
    have hmu:mu ps ws=mu ps ws0+wr ps c.2:=by rw[hws,T3];simp[mu]
    have hmc:=Af4 ps c.2
    have hml:=Agj ps ws
    have hwl0:ws.length=ws0.length+1:=by rw[hws];simp
    have hpop:Mb (.ref w) [] K1=some (chU c,K1.set w (.lst (ws0.map chU))):=by
     have hm:ws.map chU=ws0.map chU++[chU c]:=by rw[hws];simp
     rw[hm] at k2
     unfold Mb
     simp only[Cz k2,aA,Vh]
     rw[cH,aM,aY,jR,cJ (aS _),eQ]
     rfl
    have ty:=Iv k2
    have t1:(Ba (Ep "list" Mb (Ad 2) Af) (gN 3)) [some (.tup (ps.map p3U)),some (.ref L.length),some (.ref w),y3,y4] K1=some (.nx [some (.tup (ps.map p3U)),some (.ref L.length),some (.ref w),some (chU c),y4],K1.set w (.lst (ws0.map chU))):=by
     generalize chU c=cu at hpop
     rw[fAsg_eq,fMeth_eq]
     simp only[fVar_eq,aN,aI,aV,aC,aA,ty,if_true,fNil_eq,hpop,gN_eq,aZ,bA]
    have hwl1:=(aF.mp k2).1
    have m2:(K1.set w (.lst (ws0.map chU)))[w]? = some (.lst (ws0.map chU)):=bM hwl1
    have m1:(K1.set w (.lst (ws0.map chU)))[L.length]? = some (.lst (fs.map chU)):=by rw[bL (eR hfw)];exact k1
    have gK2:Gw L (K1.set w (.lst (ws0.map chU))):=gK.set (by omega) _
    generalize K1.set w (.lst (ws0.map chU))=K2 at t1 m1 m2 gK2
    have ap:=Jv (chU c) m1 (by rw[aQ];omega)
    have ty2:=Iv m1
    have t2:(Jp (Ep "list" Cy (Ad 1) (Ac (Ad 3) Af))) [some (.tup (ps.map p3U)),some (.ref L.length),some (.ref w),some (chU c),y4] K2=some (.nx [some (.tup (ps.map p3U)),some (.ref L.length),some (.ref w),some (chU c),y4],K2.set L.length (.lst (fs.map chU++[chU c]))):=by
     generalize chU c=cu at ap
     rw[Jk,fMeth_eq]
     simp only[fVar_eq,aN,aI,aV,aC,aA,ty2,if_true,fCons_eq,fNil_eq,ap]
    have hfl:=(aF.mp m1).1
    have n1:(K2.set L.length (.lst (fs.map chU++[chU c])))[L.length]? = some (.lst (fs.map chU++[chU c])):=bM hfl
    have n2:(K2.set L.length (.lst (fs.map chU++[chU c])))[w]? = some (.lst (ws0.map chU)):=by rw[bL hfw];exact m2
    have gK3:Gw L (K2.set L.length (.lst (fs.map chU++[chU c]))):=gK2.set (aS _) _
    generalize K2.set L.length (.lst (fs.map chU++[chU c]))=K3 at t2 n1 n2 gK3
    have hcl:=hok.2
    obtain ⟨z4,K4,t3,r1,r2,r3⟩:=Yt (x4:=y4) (by omega) hok.1 (by omega) n2 (by rw[aQ];omega) gK3 (by omega) n1 hfw
    have hnx:=Ahv ps c
    have hmn:mu ps (ws0++nxt ps c)=mu ps ws0+mu ps (nxt ps c):=T3 ..
    refine ⟨_,K4,mu ps (ws0++nxt ps c),?_,by omega,some (chU c),z4,fs++[c],ws0++nxt ps c,rfl,by rw[r2];simp,by rw[r1];simp,rfl,by simp;omega,?_,?_,fun t=>?_,r3,Cv.step (by rw[<- hws];exact h9)⟩
    ·unfold G9
     rw[Ak t1,Ak t2]
     exact t3
    ·intro d hd
     rcases cR.mp hd with h | h
     ·exact h5 d h
     ·rw[cB.mp h];exact hok
    ·intro d hd
     rcases cR.mp hd with h | h
     ·exact h6 d (by rw[hws];exact cO _ h)
     ·exact Agf hok h
    ·have:=h7 t
     rw[hws,sc_append,Af3,Ags hok.1] at this
     rw[sc_append,sc_append,Af3,<- this]
     omega)
  100000 (mu ps ((aO ps.length).map fun i=>(([],i):Ch))) [some (.tup (ps.map p3U)),some (.ref L.length),some (.ref w),none,none] M (by omega) ⟨none,none,[],_,rfl,by simpa using hfM,hwM,rfl,by simp;omega,by simp,fun c hc=>by
   obtain ⟨i,hi,rfl⟩:=bU.mp hc
   refine ⟨bG.mp hi,?_⟩
   have:=dS (Ab1 ps i) (aO ps.length)
   rw[cF] at this
   simpa[abl] using this,hsc0,gM,Cv.start ps⟩
 obtain ⟨y3,y4,fs,hδ,h1,h2,h3,h4,h5,h6⟩:=P
 rw[hδ] at e
 refine ⟨L.length,fs,L',?_,h1,h2,h3,h4,h5,h6⟩
 unfold Gu fnU K0
 simp only[aM,aY,if_true,aW,bW,bN,dC,dL]
 rw[Ak s1,Ak s2,Ak e,fRet_eq]
 simp only[fVar_eq,aN,aI,aV,aC,aA]
theorem O7(m n:Nat):((m:Int) == (n:Int))=decide (m=n):=by
 rw[iR,beq_iff_eq,decide_eq_true_eq]
 omega
theorem Aa4{ns:List Int}{m:Int}(hm:m∈ns)(h:∀ x∈ns,x<=m):Ks ns=m:=Nc ns m hm h
theorem Aau{ns:List Int}(h:L[n]? = some (.lst (ns.map U.int)))(hne:ns≠[]):Kg [.ref n] L=some (.int (Ks ns),L):=by
 unfold Kg Abr
 simp only[Aj h,aA,toI_ints]
 rw[if_neg (by cases ns with | nil=>exact absurd rfl hne | cons _ _=>simp)]
theorem Ak3(a b:List Nat):ltU (.tup (ixU a)) (.tup (ixU b))=some (ltT (ixI a) (ixI b)):=by
 have h:∀ (x y:List U) (m n:List Int),mapO toI x=some m->mapO toI y=some n->ltU (.tup x) (.tup y)=some (ltT m n):=by
  intro x y m n h1 h2
  unfold ltU
  split
  ·rename_i e1 e2
   cases e1
   simp[mapO,toI] at h1
  ·rename_i e1 e2
   cases e1
   cases e2
   rw[h1,h2];rfl
  ·rename_i hc
   exact absurd rfl (hc x y rfl)
 exact h _ _ _ _ (X7 a) (X7 b)
theorem Mx(hf:fe δ L0=some (.ref n,L))(h:L[n]? = some (.lst (cs.map fun c=>.tup (ixU c))))(hne:cs≠[]):∃ c,c∈cs/\Pd fe δ L0=some (.tup (ixU c),L)/\∀ d∈cs,ltT (ixI d) (ixI c)=false:=by
 obtain ⟨hall,c,hc,hmin⟩:=Afu cs (fun c=>U.tup (ixU c)) (fun a b=>ltT (ixI a) (ixI b)) hne (fun a _ b _=>Ak3 a b) (fun a b h=>Lz _ _ h) (fun a b c h1 h2=>Qi _ _ _ h2 h1)
 refine ⟨c,bV hc,?_,hmin⟩
 have hs:=Aj h
 have hg:(cs.map fun c=>U.tup (ixU c)).getD (H9 (cs.map fun c=>U.tup (ixU c))) .non = .tup (ixU c):=by
  rw[aP,bO,hc];rfl
 have hpos:0 < (cs.map fun c=>U.tup (ixU c)).length:=by rw[aQ];exact iD.mpr hne
 unfold Pd
 simp only[hf,aA,hs]
 rw[if_pos ⟨hpos,hall⟩,hg]
theorem Ph(hb:Bst (IsC ps) w1 b)(hc:IsC ps c)(hl:c.length=b.length)(h:∀ d,IsC ps d->d.length=b.length->ltT (ixI d) (ixI c)=false):c=b:=by
 refine Bst.uniq ⟨hc,fun d hd=>?_⟩ hb
 have:=Ky hb hd
 unfold kl
 rw[wS_one,wS_one]
 by_cases e:d.length=b.length
 ·rw[if_pos (by omega)]
  exact h d hd e
 ·rw[if_neg (by omega)]
  simp only[decide_eq_false_iff_not]
  omega
theorem Afa(t:Nat):∀ fs:List Ch,sc fs (hit t)=((fs.filter fun c=>decide ((Bv c).length=t+1)).length:Int)
 | []=>rfl
 | c::fs=>by
  have ih:=Afa t fs
  have e:sc (c::fs) (hit t)=hit t c+sc fs (hit t):=by simp[sc]
  rw[e,ih]
  unfold hit
  by_cases h:c.1.length=t
  ·rw[if_pos h,cP (by simp[Bv,h]),aM];omega
  ·rw[if_neg h,cQ (by simp[Bv,h])];omega
theorem Xb(hn:ps.length<=8)(hb:Bst (IsC ps) w1 b)(L:UH):∃ L',Gm [.tup (ps.map p3U)] L=some (Ahb ps b,L')/\Gw L L':=by
 obtain ⟨r,fs,L1,e1,h1,hok,hsc,g1,cv,hfl⟩:=Th ps hn L
 have hch:fs.map chU=fs.map fun c=>U.tup (ixU (Bv c)):=rfl
 rw[hch] at h1
 have hbl:=Mf hb.1
 have hbpos:0 < b.length:=by obtain ⟨i,t,e⟩:=hb.1.ex;rw[e];simp
 have hbm:∃ c∈fs,Bv c=b:=by
  rcases cv.all b hb.1 with h | ⟨c,hc,_⟩
  ·exact h
  ·cases hc
 obtain ⟨c0,hc0,ec0⟩:=hbm
 have hlen:∀ (c:List Nat) (M:UH),Aq [.tup (ixU c)] M=some (.int (c.length:Int),M):=fun c M=>by simp[Aq,lenU,ixU]
 have s1:=Ds (i:=1) (S6 (i:=0) (δ:=[some (.tup (ps.map p3U)),none,none,none]) rfl e1)
 simp only[aZ,bA] at s1
 have hs1:Ao L1 r=some (fs.map fun c=>U.tup (ixU (Bv c))):=Aj h1
 obtain ⟨x,ec⟩:=Bp (ix:=[none]) (fi:=Bg (Ad 1)) (it:=.ref r) (g:=gN 0) (tt:=none) (fe:=Km) (δ:=[some (.tup (ps.map p3U)),some (.ref r),none,none]) (L:=L1) (L0:=L1)
  fs (fun c=>U.tup (ixU (Bv c))) (fun _=>true) (fun c=>U.int ((Bv c).length:Int)) (fun δ=>∃ z,δ = [z]) (by simp[B0 hs1]) (by rw[Dy hs1];simp) (by omega) ⟨none,rfl⟩
  (fun k x=>Hj (Br hs1))
  (fun c δ x hc ⟨z,hδ⟩=>by
   subst hδ
   refine ⟨[some (.tup (ixU (Bv c)))],rfl,⟨_,rfl⟩,[],by simp[Iw],fun _=>⟨[],?_⟩⟩
   rw[bB,bB]
   exact Gf (fa:=Ad 0) rfl (hlen _ _))
 have hff:hV (fun _=>true) fs=fs:=dX.mpr (fun _ _=>rfl)
 rw[hff] at ec
 have hmm:fs.map (fun c=>U.int ((Bv c).length:Int))=(fs.map fun c=>((Bv c).length:Int)).map U.int:=by rw[dB];rfl
 rw[hmm] at ec
 have hmx:Ks (fs.map fun c=>((Bv c).length:Int))=(b.length:Int):=by
  refine Aa4 (bU.mpr ⟨c0,hc0,by rw[ec0]⟩) fun y hy=>?_
  obtain ⟨c,hc,rfl⟩:=bU.mp hy
  have:=Ky hb (cv.f c hc)
  omega
 have hq:(L1++x++[HU.lst ((fs.map fun c=>((Bv c).length:Int)).map U.int)])[(L1++x).length]? = some (.lst ((fs.map fun c=>((Bv c).length:Int)).map U.int)):=by simp
 have hmax:=Aau hq (by intro z;rw[lH] at z;rw[z] at hc0;cases hc0)
 rw[hmx] at hmax
 have s2:=Ds (i:=2) (Gf ec hmax)
 simp only[aZ,bA] at s2
 have g2:Gw L1 (L1++x++[HU.lst ((fs.map fun c=>((Bv c).length:Int)).map U.int)]):=(Gw.new _ x).trans (Gw.new _ _)
 generalize L1++x++[HU.lst ((fs.map fun c=>((Bv c).length:Int)).map U.int)]=M2 at s2 g2
 have hs2:Ao M2 r=some (fs.map fun c=>U.tup (ixU (Bv c))):=Aj (g2.get h1)
 obtain ⟨y,ed⟩:=Bp (ix:=[none,some 2]) (fi:=Bg (Ad 1)) (it:=.ref r) (g:=gN 0) (tt:=some Fh) (fe:=Ko) (δ:=[some (.tup (ps.map p3U)),some (.ref r),some (.int (b.length:Int)),none]) (L:=M2) (L0:=M2)
  fs (fun c=>U.tup (ixU (Bv c))) (fun c=>decide ((Bv c).length=b.length)) (fun c=>U.tup (ixU (Bv c))) (fun δ=>∃ z,δ = [z,some (.int (b.length:Int))]) (by simp[B0 hs2]) (by rw[Dy hs2];simp) (by omega) ⟨none,rfl⟩
  (fun k x=>Hj (Br hs2))
  (fun c δ x hc ⟨z,hδ⟩=>by
   subst hδ
   refine ⟨[some (.tup (ixU (Bv c))),some (.int (b.length:Int))],rfl,⟨_,rfl⟩,[],?_,fun _=>⟨[],by rw[bB,bB];rfl⟩⟩
   rw[bB]
   have he:B2 (.int ((Bv c).length:Int)) (.int (b.length:Int)) (M2++x)=some (.bl (decide ((Bv c).length=b.length)),M2++x):=by
    rw[semEq_int,O7]
   show Fh [some (.tup (ixU (Bv c))),some (.int (b.length:Int))] (M2++x)=_
   unfold Fh
   rw[fTest_eq,Cr (Gf (fa:=Ad 0) rfl (hlen _ _)) rfl he]
   rfl)
 have s3:=Ds (i:=3) ed
 simp only[aZ,bA] at s3
 have hml:(fs.filter fun c=>decide ((Bv c).length=b.length)).map (fun c=>U.tup (ixU (Bv c)))=((fs.filter fun c=>decide ((Bv c).length=b.length)).map Bv).map fun c=>U.tup (ixU c):=by rw[dB];rfl
 rw[hml] at s3
 have g3:Gw M2 (M2++y++[HU.lst (((fs.filter fun c=>decide ((Bv c).length=b.length)).map Bv).map fun c=>U.tup (ixU c))]):=(Gw.new _ y).trans (Gw.new _ _)
 have h3:(M2++y++[HU.lst (((fs.filter fun c=>decide ((Bv c).length=b.length)).map Bv).map fun c=>U.tup (ixU c))])[(M2++y).length]? = some (.lst (((fs.filter fun c=>decide ((Bv c).length=b.length)).map Bv).map fun c=>U.tup (ixU c))):=by simp
 generalize M2++y++[HU.lst (((fs.filter fun c=>decide ((Bv c).length=b.length)).map Bv).map fun c=>U.tup (ixU c))]=M3 at s3 g3 h3
 generalize (M2++y).length=r3 at s3 h3
 have hmany:((fs.filter fun c=>decide ((Bv c).length=b.length)).length:Int)=(bg ps (b.length - 1)).sum:=by
  have h0:=Afa (b.length - 1) fs
  rw[hsc,Nat.sub_add_cancel hbpos] at h0
  exact h0.symm
 have hl3:(Az Aq (Ac (Ad 3) Af)) [some (.tup (ps.map p3U)),some (.ref r),some (.int (b.length:Int)),some (.ref r3)] M3=some (.int (bg ps (b.length - 1)).sum,M3):=by
  have hll:=Vo h3
  rw[aQ,aQ,hmany] at hll
  exact Gf (fa:=Ad 3) rfl hll
 obtain ⟨c,hc,em,hmin⟩:=Mx (fe:=Ad 3) (δ:=[some (.tup (ps.map p3U)),some (.ref r),some (.int (b.length:Int)),some (.ref r3)]) (L0:=M3) rfl h3 (by
  intro z
  rw[lH,oB] at z
  exact z c0 hc0 (by rw[ec0];simp))
 obtain ⟨cc,hcc,rfl⟩:=bU.mp hc
 obtain ⟨hcc1,hcc2⟩:=bT.mp hcc
 have hcb:Bv cc=b:=Ph hb (cv.f cc hcc1) (of_decide_eq_true hcc2) fun d hd hdl=>by
  rcases cv.all d hd with ⟨x,hx,e⟩ | ⟨x,hx,_⟩
  ·exact hmin d (bU.mpr ⟨x,bT.mpr ⟨hx,by rw[e];exact decide_eq_true hdl⟩,e⟩)
  ·cases hx
 rw[hcb] at em
 obtain ⟨L4,e4,g4⟩:=Ms (ps:=ps) (fi:=Bg (Pd (Ad 3))) (it:=.seq (ixU b)) (fe:=Kn) (δ:=[some (.tup (ps.map p3U)),some (.ref r),some (.int (b.length:Int)),some (.ref r3)]) (L:=M3) (L0:=M3) (c:=b) (i0:=0) rfl (by rw[Er,em];rfl) (by simp[IU.size,ixU]) (fun _ _=>rfl) rfl hb.1.all (by omega)
 have ht:=Abm (fa:=Ad 2) rfl hl3 e4
 refine ⟨L4,?_,((g1.trans g2).trans g3).trans g4⟩
 unfold Gm fnU Nj
 simp only[aM,aY,if_true,aW,bW,bN,dC,dL]
 rw[Ak s1,Ak s2,Ak s3,fRet_eq,ht]
 simp only[aC,aA]
 rfl
structure Hk(ps:List P3)(k m:Nat):Prop where
 one:1<=m
 pos:0 < en ps (m - 1) k
 zero:∀ t,m<=t->en ps t k=0
noncomputable def mxN(l:List Nat):Nat:=l.foldl max 0
theorem O0:∀ (l:List Nat) (a:Nat),a<=l.foldl max a/\∀ x∈l,x<=l.foldl max a
 | [],a=>⟨aS _,fun x hx=>by cases hx⟩
 | b::l,a=>by
  obtain ⟨h1,h2⟩:=O0 l (max a b)
  refine ⟨by rw[iP];omega,fun x hx=>?_⟩
  rw[iP]
  rcases bH.mp hx with rfl | hx
  ·omega
  ·exact h2 x hx
theorem P9:∀ (l:List Nat) (a:Nat),l.foldl max a=a\/l.foldl max a∈l
 | [],a=>.inl rfl
 | b::l,a=>by
  rw[iP]
  rcases P9 l (max a b) with h | h
  ·rcases sW a b with q | q
   ·rw[Nat.max_eq_right q] at h ⊢;exact .inr (by rw[h];exact aT ..)
   ·rw[Nat.max_eq_left q] at h ⊢;exact .inl h
  ·exact .inr (aK _ h)
theorem Ajf(l:List Nat):Ks (0::l.map fun (x:Nat)=>(x:Int))=((mxN l:Nat):Int):=by
 refine Nc _ _ ?_ fun a ha=>?_
 ·rcases P9 l 0 with h | h
  ·unfold mxN;rw[h];exact aT ..
  ·exact aK _ (bU.mpr ⟨_,h,rfl⟩)
 ·rcases bH.mp ha with rfl | ha
  ·exact lV _
  ·obtain ⟨x,hx,rfl⟩:=bU.mp ha
   have:=(O0 l 0).2 x hx
   unfold mxN
   omega
variable {h:Nat->Nat}
theorem Ab5(hb:∀ j∈Bl ps k,Hk ps j (h j)):Hk ps k (1+mxN ((Bl ps k).map h)):=by
 have hnn:∀ t,∀ x∈Bl ps k,0<=en ps t x:=fun t x _=>Acg ps t x
 refine ⟨by omega,?_,fun t ht=>?_⟩
 ·rw[jT]
  rcases P9 ((Bl ps k).map h) 0 with q | q
  ·unfold mxN;rw[q];show (0:Int) < 1;decide
  ·obtain ⟨j,hj,e⟩:=bU.mp q
   have hj2:=hb j hj
   have h1:=hj2.one
   obtain ⟨m,hm⟩:∃ m,mxN ((Bl ps k).map h)=m+1:=⟨mxN ((Bl ps k).map h) - 1,by unfold mxN;omega⟩
   rw[hm]
   show 0 < sm (Bl ps k) (en ps m)
   have hp:=hj2.pos
   have hje:h j - 1=m:=by unfold mxN at hm;omega
   rw[hje] at hp
   have:=Agz (hnn m) hj
   omega
 ·obtain ⟨m,hm⟩:∃ m,t=m+1:=⟨t - 1,by omega⟩
  rw[hm]
  show sm (Bl ps k) (en ps m)=0
  refine (Ce (g:=fun _=>0) fun j hj=>?_).trans (Iu _)
  refine (hb j hj).zero m ?_
  have:=(O0 ((Bl ps k).map h) 0).2 (h j) (fW hj)
  unfold mxN at ht
  omega
theorem Adj(hb:∀ j∈Bl ps k,Hk ps j (h j)) :
  max 1 (sm ((Bl ps k).filter fun j=>decide (h j=mxN ((Bl ps k).map h))) fun j=>en ps (h j - 1) j)=en ps (mxN ((Bl ps k).map h)) k:=by
 have H:=Ab5 hb
 rw[sm_filter]
 cases hm:mxN ((Bl ps k).map h) with
 | zero=>
  have:(sm (Bl ps k) fun j=>if decide (h j=0)=true then en ps (h j - 1) j else 0)=0:=(Ce (g:=fun _=>0) fun j hj=>by
   have:=(hb j hj).one
   rw[if_neg (by simp;omega)]).trans (Iu _)
  rw[this];rfl
 | succ m=>
  have e:(sm (Bl ps k) fun j=>if decide (h j=m+1)=true then en ps (h j - 1) j else 0)=sm (Bl ps k) (en ps m):=Ce fun j hj=>by
   by_cases q:h j=m+1
   ·rw[if_pos (by simpa using q),q];rfl
   ·rw[if_neg (by simpa using q)]
    have:=(O0 ((Bl ps k).map h) 0).2 (h j) (fW hj)
    exact ((hb j hj).zero m (by unfold mxN at hm;omega)).symm
  rw[e]
  have hp:=H.pos
  rw[hm,jT] at hp
  have hp2:0 < sm (Bl ps k) (en ps m):=hp
  show max 1 (sm (Bl ps k) (en ps m))=sm (Bl ps k) (en ps m)
  omega
theorem R3{m:Nat}(hb:Bst (IsC ps) w1 b)(hk:k < ps.length)(h:Hk ps k m):m<=b.length:=by
 obtain ⟨T,_,t1,t2⟩:=Ln (G0 ps) (ps.length+1) (Aa3 ps)
 have hT:=Sz hb t1 t2
 by_cases q:m<=b.length
 ·exact q
 ·exfalso
  have hz:=Xl (t:=m - 1) t1 (by omega)
  rw[<- Mz] at hz
  have:=Agz (f:=en ps (m - 1)) (l:=aO ps.length) (fun x _=>Acg ps _ x) (bG.mpr hk)
  have:=h.pos
  omega
theorem Amb(hb:Bst (IsC ps) w1 b)(hh:∀ k,k < ps.length->Hk ps k (h k)):∃ k,k < ps.length/\h k=b.length:=by
 obtain ⟨i,r,e⟩:=hb.1.ex
 have hpos:0 < b.length:=by rw[e];simp
 have la:G0 ps (b.length - 1)=true:=My.mpr ⟨b,hb.1,by omega⟩
 have hp:=Rj la
 rw[<- Mz] at hp
 obtain ⟨k,hk,hq⟩:=Yi (fun x _=>Acg ps _ x) hp
 have hkn:=bG.mp hk
 refine ⟨k,hkn,?_⟩
 have h1:=R3 hb hkn (hh k hkn)
 by_cases q:h k<=b.length - 1
 ·rw[(hh k hkn).zero _ q] at hq;exact absurd hq (by decide)
 ·omega
theorem Ajo(hb:Bst (IsC ps) w1 b)(hh:∀ k,k < ps.length->Hk ps k (h k))(hF:F.Perm (aO ps.length)) :
  (sm (F.filter fun k=>decide (h k=b.length)) fun k=>en ps (h k - 1) k)=(bg ps (b.length - 1)).sum:=by
 obtain ⟨i,r,e⟩:=hb.1.ex
 have hpos:0 < b.length:=by rw[e];simp
 rw[sm_filter,<- Mz,<- Aj2 (en ps (b.length - 1)) hF]
 refine Ce fun k hk=>?_
 have hkn:=bG.mp (hF.mem_iff.mp hk)
 by_cases q:h k=b.length
 ·rw[if_pos (by simpa using q),q]
 ·rw[if_neg (by simpa using q)]
  have h1:=R3 hb hkn (hh k hkn)
  exact ((hh k hkn).zero _ (by omega)).symm
theorem Ad1(O:Ord ps F [])(hk:F.reverse[p]? = some k)(hj:j < ps.length)(hb:Ab1 ps k j=true):j∈F.reverse.take p:=by
 have hpm:=O.pm
 rw[bB] at hpm
 have hnd:F.Nodup:=hpm.nodup_iff.mpr kK
 have hpl:=(aF.mp hk).1
 rw[bY] at hpl
 obtain ⟨q,hq,hqe⟩:=fE (hpm.mem_iff.mpr (bG.mpr hj))
 have hkn:k < ps.length:=bG.mp (hpm.mem_iff.mp (by rw[<- iG];exact bV hk))
 have hkq:=O.at_ q j (by rw[aL hq,hqe]) k hkn hb
 obtain ⟨i,hi,hie⟩:=fG.mp hkq
 have hki:F[F.length - 1 - p]? = some k:=by rw[<- eT hpl];exact hk
 have hii:i=F.length - 1 - p:=by
  have h1:F[i]? = some k:=by rw[aL (by omega),hie]
  exact (List.getElem?_inj (by omega) hnd).mp (h1.trans hki.symm)
 have hr:F.reverse[F.length - 1 - q]? = some j:=by
  rw[eT (by omega),show F.length - 1 - (F.length - 1 - q)=q by omega,aL hq,hqe]
 obtain ⟨h3,h4⟩:=aF.mp hr
 rw[fG]
 exact ⟨F.length - 1 - q,by rw[bY];omega,h4⟩
theorem Aec{f:Nat->List Nat}{r:List Nat}(hk:k < ps.length)(hb:∀ j∈abl ps k,Bst (Kk ps j) w1 (f j))(h0:abl ps k=[]->r=[])(h1:abl ps k≠[]->r∈(abl ps k).map f/\r.length=mxN ((abl ps k).map fun j=>(f j).length)/\∀ j∈abl ps k,(f j).length=r.length->ltT (ixI (f j)) (ixI r)=false):Bst (Kk ps k) w1 (k::r):=by
 by_cases q:abl ps k=[]
 ·rw[h0 q]
  exact Rh hk hb (.inl rfl) (An7 _ _) fun j hj=>by rw[q] at hj;cases hj
 ·obtain ⟨a1,a2,a3⟩:=h1 q
  obtain ⟨j0,hj0,rfl⟩:=bU.mp a1
  refine Rh hk hb (.inr ⟨j0,hj0,rfl⟩) ?_ fun j hj=>?_
  ·obtain ⟨i,t,e⟩:=(hb j0 hj0).1.1.ex
   unfold kl
   rw[wS_one,wS_one,e]
   rw[if_neg (by simp only[aY,aM];omega)]
   simp only[decide_eq_false_iff_not,aY,aM]
   omega
  ·unfold kl
   rw[wS_one,wS_one]
   by_cases e:(f j).length=(f j0).length
   ·rw[if_pos (by omega)];exact a3 j hj e
   ·have:=(O0 ((abl ps k).map fun j=>(f j).length) 0).2 _ (bU.mpr ⟨j,hj,rfl⟩)
    rw[if_neg (by omega)]
    simp only[decide_eq_false_iff_not]
    unfold mxN at a2
    omega
theorem Agd{f:Nat->List Nat}(hb:Bst (IsC ps) w1 b)(hf:∀ i,i < ps.length->Bst (Kk ps i) w1 (f i))(hc:∃ i,i < ps.length/\f i=c/\c.length=b.length)(hmin:∀ i,i < ps.length->(f i).length=b.length->ltT (ixI (f i)) (ixI c)=false):c=b:=by
 obtain ⟨i,hi,rfl,hl⟩:=hc
 refine Ph hb (hf i hi).1.1 hl fun d hd hdl=>?_
 obtain ⟨j,t,e⟩:=hd.ex
 have hj:j < ps.length:=by rw[e] at hd;exact hd.head
 have hk:=(hf j hj).2 d ⟨hd,by rw[e];rfl⟩
 have hle:=Ky hb (hf j hj).1.1
 unfold kl at hk
 rw[wS_one,wS_one] at hk
 by_cases q:d.length=(f j).length
 ·rw[if_pos (by omega)] at hk
  exact Qi _ _ _ (hmin j hj (by omega)) hk
 ·rw[if_neg (by omega)] at hk
  simp only[decide_eq_false_iff_not] at hk
  omega
theorem Q3{k:Key}(hv:fo δ M=some (.ref E,M))(hw:fi δ M=some (u,M))(hk:toK u=some k)(hE:M[E]? = some (.dic kvs)\/M[E]? = some (.rod kvs))(h:Iz kvs k=some v):G3 fo fi δ M=some (v,M):=by
 have hd:Ae8 M E=some kvs:=by
  unfold Ae8
  rcases hE with e | e <;> rw[e]
 unfold G3
 simp only[hv,aA,hw,hk,hd,h,aC]
theorem Wj{t:FT}{te:FE}{f:Nat->Bool}(hn:ps.length<=60)(hte:te=Ad 0)(h0:δ[0]? = some (some (.tup (ps.map p3U))))(h4:δ[4]? = some (some (.int (k:Int))))(ht:∀ j,j < ps.length->∀ N,t [some (.int (j:Int)),some (.tup (ps.map p3U)),some (.int (k:Int))] N=some (f j,N)) :
  ∃ x,Bk [none,some 0,some 4] (Dc (Ac (Az Aq (Ac (Ad 0) Af)) Af)) (gN 0) (some t) te δ L=some (.ref (L++x).length,L++x++[.lst (ixU ((aO ps.length).filter f))]):=by
 have hlen:Aq [.tup (ps.map p3U)] L=some (.int ps.length,L):=by simp[Aq,lenU]
 have hv0:Ad 0 δ L=some (.tup (ps.map p3U),L):=by rw[fVar_eq,h0];rfl
 have hi:Dc (Ac (Az Aq (Ac (Ad 0) Af)) Af) δ L=some (.seq ((aO ps.length).map fun (j:Nat)=>U.int (j:Int)),L):=by
  have:=Ic (g:=Ac (Az Aq (Ac (Ad 0) Af)) Af) (δ:=δ) (L:=L) (L':=L) (n:=ps.length) (by rw[fCons_eq,Gf hv0 hlen,aA,fNil_eq];rfl) (by omega)
  rw[this,Y8];rfl
 exact Bp (ix:=[none,some 0,some 4]) (it:=.seq ((aO ps.length).map fun (j:Nat)=>U.int (j:Int))) (g:=gN 0) (tt:=some t) (fe:=te) (δ:=δ) (L:=L) (L0:=L)
  (aO ps.length) (fun (j:Nat)=>U.int (j:Int)) f (fun (j:Nat)=>U.int (j:Int)) (fun δ=>∃ z,δ = [z,some (.tup (ps.map p3U)),some (.int (k:Int))]) hi (by simp[IU.size]) (by simp;omega) ⟨none,by simp[Gg,h0,h4]⟩
  (fun k x=>rfl)
  (fun j δ x hj ⟨z,hδ⟩=>by
   subst hδ
   refine ⟨[some (.int (j:Int)),some (.tup (ps.map p3U)),some (.int (k:Int))],rfl,⟨_,rfl⟩,[],?_,fun _=>⟨[],by rw[bB,bB,hte];rfl⟩⟩
   rw[bB]
   exact ht j (bG.mp hj) _)
theorem Akt{a b:Nat}(hi:i < ps.length)(hj:j < ps.length)(N:UH)(h1:Ad 1 δ N=some (.tup (ps.map p3U),N))(ha:Ad a δ N=some (.int (i:Int),N))(hb:Ad b δ N=some (.int (j:Int),N)):(Ij (Be 2 Ey (Ac (f2 Am (Ad 1) (Ad a)) (Ac (f2 Am (Ad 1) (Ad b)) Af)))) δ N=some (Ab1 ps i j,N):=by
 rw[fTru_eq,Akn (Cr h1 ha (Ml hi N)) (Cr h1 hb (Ml hj N)) (Mp _ _ _)]
 simp only[aA,truU_bl,aC]
 rfl
variable {r:Nat}
theorem W5{v:Nat}{js:List Nat}(hfe:fe=G3 (Ad 1) (Ad 0))(hv:δ[v]? = some (some (.ref r)))(he:δ[e]? = some (some (.ref E)))(hr:L[r]? = some (.lst (ixU js)))(hE:L[E]? = some (.dic (dK F g)))(hj:∀ j∈js,j∈F)(hl:js.length<=1000) :
  ∃ x,Bk [none,some e] (Bg (Ad v)) (gN 0) none fe δ L=some (.ref (L++x).length,L++x++[.lst (js.map g)]):=by
 have hs:Ao L r=some (js.map fun (j:Nat)=>U.int (j:Int)):=Aj hr
 have hvv:Ad v δ L=some (.ref r,L):=by rw[fVar_eq,hv];rfl
 obtain ⟨x,ec⟩:=Bp (ix:=[none,some e]) (fi:=Bg (Ad v)) (it:=.ref r) (g:=gN 0) (tt:=none) (fe:=fe) (δ:=δ) (L:=L) (L0:=L)
  js (fun (j:Nat)=>U.int (j:Int)) (fun _=>true) g (fun δ=>∃ z,δ = [z,some (.ref E)]) (by rw[Er,hvv];simp only[aA,B0 hs,aC]) (by rw[Dy hs];simp) (by omega) ⟨none,by simp[Gg,he]⟩
  (fun k x=>Hj (Br hs))
  (fun j δ x hjm ⟨z,hδ⟩=>by
   subst hδ
   refine ⟨[some (.int (j:Int)),some (.ref E)],rfl,⟨_,rfl⟩,[],by simp[Iw],fun _=>⟨[],?_⟩⟩
   rw[bB,bB,hfe]
   exact Q3 (u:=.int (j:Int)) rfl rfl rfl (.inl ((Gw.new L x).get hE)) (Lg (hj j hjm)))
 have hff:hV (fun _=>true) js=js:=dX.mpr (fun _ _=>rfl)
 rw[hff] at ec
 exact ⟨x,ec⟩
theorem Apr{fc:FE}(hc:fc δ (L++[.lst [.int 0]])=some (.ref r,M))(g:Gw (L++[.lst [.int 0]]) M)(hr:M[r]? = some (.lst (l.map fun (x:Nat)=>U.int (x:Int))))(hl:l.length<=1000) :
  (Az Kg (Ac (f2 Aw (Cs (Ac (fC (.int 0)) Af)) fc) Af)) δ L=some (.int (mxN l:Nat),M++[.lst ((0::l.map fun (x:Nat)=>(x:Int)).map U.int)]):=by
 have h1:=Aeq (fa:=fC (.int 0)) (δ:=δ) (L:=L) (M:=L) (u:=.int 0) rfl
 have h2:=U6 (g.get (show (L++[HU.lst [.int 0]])[L.length]? = some (.lst [.int 0]) by simp)) hr (by simp only[aM,aY,aQ];omega)
 have he:[U.int 0]++l.map (fun (x:Nat)=>U.int (x:Int))=(0::l.map fun (x:Nat)=>(x:Int)).map U.int:=by simp
 rw[he] at h2
 have h3:=Aau (L:=M++[.lst ((0::l.map fun (x:Nat)=>(x:Int)).map U.int)]) (n:=M.length) (ns:=0::l.map fun (x:Nat)=>(x:Int)) (by simp) (by simp)
 rw[Ajf] at h3
 exact Gf (Cr h1 hc h2) h3
variable {x3 x6 x7:Option U}
theorem Adn{x8 x9 x10 x11 x12:Option U}(hn:ps.length<=60)(hk:k < ps.length)(hE:M[E]? = some (.dic (dK F fun i=>.int ((h i:Nat):Int))))(hW:M[W]? = some (.dic (dK F fun i=>.int (en ps (h i - 1) i))))(hEW:E≠W)(hF:∀ j,j < ps.length->Ab1 ps j k=true->j∈F)(hkF:k∉F)(hFl:F.length<=60)
  (hb:∀ i∈F,Hk ps i (h i)) {L:UH} (g0:Gw L M) (hEL:L.length<=E) (hWL:L.length<=W) :
  ∃ (h':Nat->Nat) (y5:Option U) (M':UH),Ff [some (.tup (ps.map p3U)),some (.ref E),some (.ref W),x3,some (.int (k:Int)),x5,x6,x7,x8,x9,x10,x11,x12] M=some (.nx [some (.tup (ps.map p3U)),some (.ref E),some (.ref W),x3,some (.int (k:Int)),y5,x6,x7,x8,x9,x10,x11,x12],M')/\M'[E]? = some (.dic (dK (F++[k]) fun i=>.int ((h' i:Nat):Int)))/\M'[W]? = some (.dic (dK (F++[k]) fun i=>.int (en ps (h' i - 1) i)))/\(∀ i∈F,h' i=h i)/\Hk ps k (h' k)/\Gw L M'/\(∀ n us,n≠E->n≠W->M[n]? = some (.lst us)->M'[n]? = some (.lst us)):=by
 obtain ⟨x,e1⟩:=Wj (t:=Kp) (te:=Kr) (f:=fun j=>Ab1 ps j k) (δ:=[some (.tup (ps.map p3U)),some (.ref E),some (.ref W),x3,some (.int (k:Int)),x5,x6,x7,x8,x9,x10,x11,x12]) (L:=M) (k:=k) hn rfl rfl rfl (fun j hj N=>Akt (a:=0) (b:=2) hj hk N rfl rfl rfl)
 have s1:=Ds (i:=5) e1
 simp only[aZ,bA] at s1
 have g1:Gw M (M++x++[HU.lst (ixU ((aO ps.length).filter fun j=>Ab1 ps j k))]):=(Gw.new _ x).trans (Gw.new _ _)
 have hr1:(M++x++[HU.lst (ixU ((aO ps.length).filter fun j=>Ab1 ps j k))])[(M++x).length]? = some (.lst (ixU (Bl ps k))):=by simp[Bl]
 generalize M++x++[HU.lst (ixU ((aO ps.length).filter fun j=>Ab1 ps j k))]=M1 at s1 g1 hr1
 generalize (M++x).length=r1 at s1 hr1
 have hab:∀ j∈Bl ps k,j∈F:=fun j hj=>hF j (bG.mp (bT.mp hj).1) (bT.mp hj).2
 have hal:(Bl ps k).length<=60:=by
  have:=dS (fun j=>Ab1 ps j k) (aO ps.length)
  rw[cF] at this
  unfold Bl;omega
 have g1b:Gw M1 (M1++[HU.lst [.int 0]]):=Gw.new _ _
 obtain ⟨y,e2⟩:=W5 (fe:=Kq) (δ:=[some (.tup (ps.map p3U)),some (.ref E),some (.ref W),x3,some (.int (k:Int)),some (.ref r1),x6,x7,x8,x9,x10,x11,x12]) (L:=M1++[HU.lst [.int 0]]) (E:=E) (r:=r1) (v:=5) (e:=1) rfl rfl rfl (g1b.get hr1) (g1b.get (g1.get hE)) hab (by omega)
 have hmm:(Bl ps k).map (fun i=>U.int ((h i:Nat):Int))=((Bl ps k).map h).map fun (x:Nat)=>U.int (x:Int):=by rw[dB];rfl
 rw[hmm] at e2
 have e3:=Apr (l:=(Bl ps k).map h) e2 ((Gw.new _ y).trans (Gw.new _ _)) (by simp) (by rw[aQ];omega)
 have g2:Gw M1 (M1++[HU.lst [.int 0]]++y++[HU.lst (((Bl ps k).map h).map fun (x:Nat)=>U.int (x:Int))]++[HU.lst ((0::((Bl ps k).map h).map fun (x:Nat)=>(x:Int)).map U.int)]):=((g1b.trans (Gw.new _ y)).trans (Gw.new _ _)).trans (Gw.new _ _)
 generalize M1++[HU.lst [.int 0]]++y++[HU.lst (((Bl ps k).map h).map fun (x:Nat)=>U.int (x:Int))]++[HU.lst ((0::((Bl ps k).map h).map fun (x:Nat)=>(x:Int)).map U.int)]=M2 at e3 g2
 have e4:=Cr (s:=Aw) (fa:=fC (.int 1)) (δ:=[some (.tup (ps.map p3U)),some (.ref E),some (.ref W),x3,some (.int (k:Int)),some (.ref r1),x6,x7,x8,x9,x10,x11,x12]) (L:=M1) (M:=M1) rfl e3 (semAdd_int _ _ _)
 have hcast:(1:Int)+((mxN ((Bl ps k).map h):Nat):Int)=((1+mxN ((Bl ps k).map h):Nat):Int):=by omega
 rw[hcast] at e4
 have g12:=g1.trans g2
 have s2:=Wx (fo:=Ad 1) (fi:=Ad 4) (u:=.int (k:Int)) e4 rfl rfl rfl (g12.get hE) (by unfold dK;rw[aQ];omega)
 rw[Vg hkF] at s2
 have hEl:E < M2.length:=(aF.mp (g12.get hE)).1
 have hWl:W < M2.length:=(aF.mp (g12.get hW)).1
 have a1:(M2.set E (.dic (dK (F++[k]) fun j=>if j=k then .int ((1+mxN ((Bl ps k).map h):Nat):Int) else .int ((h j:Nat):Int))))[E]? = some (.dic (dK (F++[k]) fun j=>if j=k then .int ((1+mxN ((Bl ps k).map h):Nat):Int) else .int ((h j:Nat):Int))):=bM hEl
 have a2:(M2.set E (.dic (dK (F++[k]) fun j=>if j=k then .int ((1+mxN ((Bl ps k).map h):Nat):Int) else .int ((h j:Nat):Int))))[W]? = some (.dic (dK F fun i=>.int (en ps (h i - 1) i))):=by rw[bL hEW];exact g12.get hW
 have a3:∀ n us,n≠E->n≠W->M[n]? = some (.lst us)->(M2.set E (.dic (dK (F++[k]) fun j=>if j=k then .int ((1+mxN ((Bl ps k).map h):Nat):Int) else .int ((h j:Nat):Int))))[n]? = some (.lst us):=fun n us h1 _ h2=>by rw[bL (eR h1)];exact g12.get h2
 have hr1E:r1≠E:=fun z=>by
  have:=g1.get hE
  rw[<- z,hr1] at this;cases this
 have a4:(M2.set E (.dic (dK (F++[k]) fun j=>if j=k then .int ((1+mxN ((Bl ps k).map h):Nat):Int) else .int ((h j:Nat):Int))))[r1]? = some (.lst (ixU (Bl ps k))):=by rw[bL (eR hr1E)];exact g2.get hr1
 have g3:Gw L (M2.set E (.dic (dK (F++[k]) fun j=>if j=k then .int ((1+mxN ((Bl ps k).map h):Nat):Int) else .int ((h j:Nat):Int)))):=(g0.trans g12).set hEL _
 generalize M2.set E (.dic (dK (F++[k]) fun j=>if j=k then .int ((1+mxN ((Bl ps k).map h):Nat):Int) else .int ((h j:Nat):Int)))=M3 at s2 a1 a2 a3 a4 g3
 have hs3:Ao M3 r1=some ((Bl ps k).map fun (j:Nat)=>U.int (j:Int)):=Aj a4
 have hne:∀ j∈Bl ps k,j≠k:=fun j hj e=>by
  have:=(bT.mp hj).2
  rw[e,Rt] at this;cases this
 obtain ⟨z,e5⟩:=Bp (ix:=[none,some 2,some 1,some 4]) (fi:=Bg (Ad 5)) (it:=.ref r1) (g:=gN 0) (tt:=some Dz) (fe:=Hi) (δ:=[some (.tup (ps.map p3U)),some (.ref E),some (.ref W),x3,some (.int (k:Int)),some (.ref r1),x6,x7,x8,x9,x10,x11,x12]) (L:=M3) (L0:=M3)
  (Bl ps k) (fun (j:Nat)=>U.int (j:Int)) (fun j=>decide (h j=mxN ((Bl ps k).map h))) (fun j=>U.int (en ps (h j - 1) j)) (fun δ=>∃ z,δ = [z,some (.ref W),some (.ref E),some (.int (k:Int))]) (by simp[B0 hs3]) (by rw[Dy hs3];simp) (by omega) ⟨none,rfl⟩
  (fun k x=>Hj (Br hs3))
  (fun j δ x hj ⟨z,hδ⟩=>by
   subst hδ
   refine ⟨[some (.int (j:Int)),some (.ref W),some (.ref E),some (.int (k:Int))],rfl,⟨_,rfl⟩,[],?_,fun _=>⟨[],?_⟩⟩
   ·rw[bB]
    have q1:=Q3 (fo:=Ad 2) (fi:=Ad 0) (δ:=[some (.int (j:Int)),some (.ref W),some (.ref E),some (.int (k:Int))]) (u:=.int (j:Int)) rfl rfl rfl (.inl ((Gw.new M3 x).get a1)) (Lg (cO _ (hab j hj)))
    have q2:=Q3 (fo:=Ad 2) (fi:=Ad 3) (δ:=[some (.int (j:Int)),some (.ref W),some (.ref E),some (.int (k:Int))]) (u:=.int (k:Int)) rfl rfl rfl (.inl ((Gw.new M3 x).get a1)) (Lg (aU _ (cB.mpr rfl)))
    rw[if_neg (hne j hj)] at q1
    rw[if_pos rfl] at q2
    have q3:=Cr (s:=Mo) (fb:=fC (.int 1)) q2 rfl (semSub_int _ _ _)
    have hc1:((1+mxN ((Bl ps k).map h):Nat):Int) - 1=((mxN ((Bl ps k).map h):Nat):Int):=by omega
    rw[hc1] at q3
    have q4:=Cr (s:=B2) q1 q3 (semEq_int _ _ _)
    rw[O7] at q4
    show Dz [some (.int (j:Int)),some (.ref W),some (.ref E),some (.int (k:Int))] (M3++x)=_
    unfold Dz
    rw[fTest_eq,q4]
    rfl
   ·rw[bB,bB]
    exact Q3 (u:=.int (j:Int)) rfl rfl rfl (.inl ((Gw.new M3 x).get a2)) (Lg (hab j hj)))
 have hmi:((Bl ps k).filter fun j=>decide (h j=mxN ((Bl ps k).map h))).map (fun j=>U.int (en ps (h j - 1) j))=(((Bl ps k).filter fun j=>decide (h j=mxN ((Bl ps k).map h))).map fun j=>en ps (h j - 1) j).map U.int:=by rw[dB];rfl
 rw[hmi] at e5
 have hq5:Ao (M3++z++[HU.lst ((((Bl ps k).filter fun j=>decide (h j=mxN ((Bl ps k).map h))).map fun j=>en ps (h j - 1) j).map U.int)]) (M3++z).length=some ((((Bl ps k).filter fun j=>decide (h j=mxN ((Bl ps k).map h))).map fun j=>en ps (h j - 1) j).map U.int):=Aj (by simp)
 have hsum:E7 [.ref (M3++z).length] (M3++z++[HU.lst ((((Bl ps k).filter fun j=>decide (h j=mxN ((Bl ps k).map h))).map fun j=>en ps (h j - 1) j).map U.int)])=some (.int (sm ((Bl ps k).filter fun j=>decide (h j=mxN ((Bl ps k).map h))) fun j=>en ps (h j - 1) j),M3++z++[HU.lst ((((Bl ps k).filter fun j=>decide (h j=mxN ((Bl ps k).map h))).map fun j=>en ps (h j - 1) j).map U.int)]):=by
  simp only[E7,hq5,aA,toI_ints,aC,sm]
 have e6:=Gf e5 hsum
 have g4:Gw M3 (M3++z++[HU.lst ((((Bl ps k).filter fun j=>decide (h j=mxN ((Bl ps k).map h))).map fun j=>en ps (h j - 1) j).map U.int)]):=(Gw.new _ z).trans (Gw.new _ _)
 have hws:=Adj (k:=k) fun j hj=>hb j (hab j hj)
 generalize (sm ((Bl ps k).filter fun j=>decide (h j=mxN ((Bl ps k).map h))) fun j=>en ps (h j - 1) j)=sv at e6 hws
 generalize M3++z++[HU.lst ((((Bl ps k).filter fun j=>decide (h j=mxN ((Bl ps k).map h))).map fun j=>en ps (h j - 1) j).map U.int)]=M4 at e6 g4
 have e7:(Az Kg (Ac (fC (.int 1)) (Ac (Az E7 (Ac (Bk [none,some 2,some 1,some 4] (Bg (Ad 5)) (gN 0) (some Dz) Hi) Af)) Af))) [some (.tup (ps.map p3U)),some (.ref E),some (.ref W),x3,some (.int (k:Int)),some (.ref r1),x6,x7,x8,x9,x10,x11,x12] M3=some (.int (en ps (mxN ((Bl ps k).map h)) k),M4):=by
  rw[<- hws,fCall_eq,fCons_eq,fC_eq,aA,fCons_eq,e6,aA,fNil_eq]
  have:(if sv > 1 then sv else 1)=max 1 sv:=by split <;> omega
  rw[<- this]
  rfl
 have s3:=Wx (fo:=Ad 2) (fi:=Ad 4) (u:=.int (k:Int)) e7 rfl rfl rfl (g4.get a2) (by unfold dK;rw[aQ];omega)
 rw[Vg hkF] at s3
 have hWl4:W < M4.length:=(aF.mp (g4.get a2)).1
 have hh':∀ i∈F,i≠k:=fun i hi e=>hkF (by rw[<- e];exact hi)
 refine ⟨fun j=>if j=k then 1+mxN ((Bl ps k).map h) else h j,some (.ref r1),M4.set W (.dic (dK (F++[k]) fun j=>if j=k then .int (en ps (mxN ((Bl ps k).map h)) k) else .int (en ps (h j - 1) j))),?_,?_,?_,fun i hi=>if_neg (hh' i hi),?_,(g3.trans g4).set hWL _,fun n us h1 h2 h3=>by rw[bL (eR h2)];exact g4.get (a3 n us h1 h2 h3)⟩
 ·unfold Ff
  rw[Ak s1,Ak s2]
  exact s3
 ·rw[bL (eR hEW),g4.get a1]
  refine congrArg (fun d=>some (HU.dic d)) (Nf fun i _=>?_)
  show _=U.int ((if i=k then (1+mxN ((Bl ps k).map h)) else h i:Nat):Int)
  by_cases q:i=k
  ·rw[if_pos q,if_pos q]
  ·rw[if_neg q,if_neg q]
 ·rw[bM hWl4]
  refine congrArg (fun d=>some (HU.dic d)) (Nf fun i _=>?_)
  show _=U.int (en ps ((if i=k then (1+mxN ((Bl ps k).map h)) else h i) - 1) i)
  by_cases q:i=k
  ·rw[if_pos q,if_pos q,q,jT]
  ·rw[if_neg q,if_neg q]
 ·show Hk ps k (if k=k then _ else _)
  rw[if_pos rfl]
  exact Ab5 fun j hj=>hb j (hab j hj)
theorem Apb(b:Bool)(L:UH):Jz [.bl b] L=some (.int (if b then 1 else 0),L):=rfl
theorem Afv{v:Nat}(hfe:fe=Az Aq (Ac (Ad 0) Af))(hv:δ[v]? = some (some (.ref r)))(hr:L[r]? = some (.lst (cs.map fun c=>.tup (ixU c))))(hl:cs.length<=1000) :
  ∃ x,Bk [none] (Bg (Ad v)) (gN 0) none fe δ L=some (.ref (L++x).length,L++x++[.lst ((cs.map eW).map fun (x:Nat)=>U.int (x:Int))]):=by
 have hs:=Aj hr
 have hvv:Ad v δ L=some (.ref r,L):=by rw[fVar_eq,hv];rfl
 have hlen:∀ (c:List Nat) (M:UH),Aq [.tup (ixU c)] M=some (.int (c.length:Int),M):=fun c M=>by simp[Aq,lenU,ixU]
 obtain ⟨x,ec⟩:=Bp (ix:=[none]) (fi:=Bg (Ad v)) (it:=.ref r) (g:=gN 0) (tt:=none) (fe:=fe) (δ:=δ) (L:=L) (L0:=L)
  cs (fun c=>U.tup (ixU c)) (fun _=>true) (fun c=>U.int (c.length:Int)) (fun δ=>∃ z,δ = [z]) (by rw[Er,hvv];simp only[aA,B0 hs,aC]) (by rw[Dy hs];simp) (by omega) ⟨none,rfl⟩
  (fun k x=>Hj (Br hs))
  (fun c δ x hc ⟨z,hδ⟩=>by
   subst hδ
   refine ⟨[some (.tup (ixU c))],rfl,⟨_,rfl⟩,[],by simp[Iw],fun _=>⟨[],?_⟩⟩
   rw[bB,bB,hfe]
   exact Gf (fa:=Ad 0) rfl (hlen _ _))
 have hff:hV (fun _=>true) cs=cs:=dX.mpr (fun _ _=>rfl)
 rw[hff] at ec
 have:cs.map (fun c=>U.int (c.length:Int))=(cs.map eW).map fun (x:Nat)=>U.int (x:Int):=by rw[dB];rfl
 rw[this] at ec
 exact ⟨x,ec⟩
theorem Afy{t:FT}{v w m:Nat}(hfe:fe=Ad 0)(ht:t=By (f2 B2 (Az Aq (Ac (Ad 0) Af)) (Ad 1)))(hv:δ[v]? = some (some (.ref r)))(hw:δ[w]? = some (some (.int (m:Int))))(hr:L[r]? = some (.lst (cs.map fun c=>.tup (ixU c))))(hl:cs.length<=1000) :
  ∃ x,Bk [none,some w] (Bg (Ad v)) (gN 0) (some t) fe δ L=some (.ref (L++x).length,L++x++[.lst ((cs.filter fun c=>decide (c.length=m)).map fun c=>.tup (ixU c))]):=by
 have hs:=Aj hr
 have hvv:Ad v δ L=some (.ref r,L):=by rw[fVar_eq,hv];rfl
 have hlen:∀ (c:List Nat) (M:UH),Aq [.tup (ixU c)] M=some (.int (c.length:Int),M):=fun c M=>by simp[Aq,lenU,ixU]
 exact Bp (ix:=[none,some w]) (fi:=Bg (Ad v)) (it:=.ref r) (g:=gN 0) (tt:=some t) (fe:=fe) (δ:=δ) (L:=L) (L0:=L)
  cs (fun c=>U.tup (ixU c)) (fun c=>decide (c.length=m)) (fun c=>U.tup (ixU c)) (fun δ=>∃ z,δ = [z,some (.int (m:Int))]) (by rw[Er,hvv];simp only[aA,B0 hs,aC]) (by rw[Dy hs];simp) (by omega) ⟨none,by simp[Gg,hw]⟩
  (fun k x=>Hj (Br hs))
  (fun c δ x hc ⟨z,hδ⟩=>by
   subst hδ
   refine ⟨[some (.tup (ixU c)),some (.int (m:Int))],rfl,⟨_,rfl⟩,[],?_,fun _=>⟨[],by rw[bB,bB,hfe];rfl⟩⟩
   rw[bB]
   have he:B2 (.int (c.length:Int)) (.int (m:Int)) (L++x)=some (.bl (decide (c.length=m)),L++x):=by rw[semEq_int,O7]
   show t [some (.tup (ixU c)),some (.int (m:Int))] (L++x)=_
   rw[ht,fTest_eq,Cr (Gf (fa:=Ad 0) rfl (hlen _ _)) rfl he]
   rfl)
variable {x2:Option U}
theorem X0{f:Nat->List Nat}{x9 x10 x11 x12:Option U}(hn:ps.length<=60)(hk:k < ps.length)(hE:M[E]? = some (.dic (dK F fun i=>.tup (ixU (f i)))))(hF:∀ j,j < ps.length->Ab1 ps k j=true->j∈F)(hkF:k∉F)(hFl:F.length<=60)
  (hb:∀ i∈F,Bst (Kk ps i) w1 (f i)) :
  ∃ (f':Nat->List Nat) (y9 y10 y11:Option U) (M':UH),Fg [some (.tup (ps.map p3U)),x1,x2,x3,some (.int (k:Int)),x5,x6,x7,some (.ref E),x9,x10,x11,x12] M=some (.nx [some (.tup (ps.map p3U)),x1,x2,x3,some (.int (k:Int)),x5,x6,x7,some (.ref E),y9,y10,y11,x12],M'.set E (.dic (dK (F++[k]) fun i=>.tup (ixU (f' i)))))/\Gw M M'/\(∀ i∈F,f' i=f i)/\Bst (Kk ps k) w1 (f' k):=by
 obtain ⟨x,e1⟩:=Wj (t:=Lf) (te:=K6) (f:=fun j=>Ab1 ps k j) (δ:=[some (.tup (ps.map p3U)),x1,x2,x3,some (.int (k:Int)),x5,x6,x7,some (.ref E),x9,x10,x11,x12]) (L:=M) (k:=k) hn rfl rfl rfl (fun j hj N=>Akt (a:=2) (b:=0) hk hj N rfl rfl rfl)
 have s1:=Ds (i:=9) e1
 simp only[aZ,bA] at s1
 have g1:Gw M (M++x++[HU.lst (ixU ((aO ps.length).filter fun j=>Ab1 ps k j))]):=(Gw.new _ x).trans (Gw.new _ _)
 have hr1:(M++x++[HU.lst (ixU ((aO ps.length).filter fun j=>Ab1 ps k j))])[(M++x).length]? = some (.lst (ixU (abl ps k))):=by simp[abl]
 generalize M++x++[HU.lst (ixU ((aO ps.length).filter fun j=>Ab1 ps k j))]=M1 at s1 g1 hr1
 generalize (M++x).length=r1 at s1 hr1
 have hab:∀ j∈abl ps k,j∈F:=fun j hj=>hF j (Q1 hj) (bT.mp hj).2
 have hal:(abl ps k).length<=60:=by
  have:=dS (Ab1 ps k) (aO ps.length)
  rw[cF] at this
  unfold abl;omega
 obtain ⟨y,e2⟩:=W5 (fe:=Lk) (δ:=[some (.tup (ps.map p3U)),x1,x2,x3,some (.int (k:Int)),x5,x6,x7,some (.ref E),some (.ref r1),x10,x11,x12]) (L:=M1) (E:=E) (r:=r1) (v:=9) (e:=8) rfl rfl rfl hr1 (g1.get hE) hab (by omega)
 have hmm:(abl ps k).map (fun i=>U.tup (ixU (f i)))=((abl ps k).map f).map fun c=>U.tup (ixU c):=by rw[dB];rfl
 rw[hmm] at e2
 have s2:=Ds (i:=10) e2
 simp only[aZ,bA] at s2
 have g2:Gw M1 (M1++y++[HU.lst (((abl ps k).map f).map fun c=>U.tup (ixU c))]):=(Gw.new _ y).trans (Gw.new _ _)
 have hr2:(M1++y++[HU.lst (((abl ps k).map f).map fun c=>U.tup (ixU c))])[(M1++y).length]? = some (.lst (((abl ps k).map f).map fun c=>U.tup (ixU c))):=by simp
 generalize M1++y++[HU.lst (((abl ps k).map f).map fun c=>U.tup (ixU c))]=M2 at s2 g2 hr2
 generalize (M1++y).length=r2 at s2 hr2
 have hcl:((abl ps k).map f).length<=60:=by rw[aQ];exact hal
 obtain ⟨z,e3⟩:=Afv (fe:=Ls) (δ:=[some (.tup (ps.map p3U)),x1,x2,x3,some (.int (k:Int)),x5,x6,x7,some (.ref E),some (.ref r1),some (.ref r2),x11,x12]) (L:=M2++[HU.lst [.int 0]]) (r:=r2) (v:=10) rfl rfl ((Gw.new M2 _).get hr2) (by omega)
 have e4:=Apr (l:=((abl ps k).map f).map eW) e3 ((Gw.new _ z).trans (Gw.new _ _)) (by simp) (by rw[aQ];omega)
 have s3:=Ds (i:=11) e4
 simp only[aZ,bA] at s3
 have g3:Gw M2 (M2++[HU.lst [.int 0]]++z++[HU.lst ((((abl ps k).map f).map eW).map fun (x:Nat)=>U.int (x:Int))]++[HU.lst ((0::(((abl ps k).map f).map eW).map fun (x:Nat)=>(x:Int)).map U.int)]):=(((Gw.new M2 _).trans (Gw.new _ z)).trans (Gw.new _ _)).trans (Gw.new _ _)
 generalize M2++[HU.lst [.int 0]]++z++[HU.lst ((((abl ps k).map f).map eW).map fun (x:Nat)=>U.int (x:Int))]++[HU.lst ((0::(((abl ps k).map f).map eW).map fun (x:Nat)=>(x:Int)).map U.int)]=M3 at s3 g3
 have hmxe:((abl ps k).map f).map eW=(abl ps k).map fun j=>(f j).length:=by rw[dB];rfl
 rw[hmxe] at s3
 obtain ⟨u,e5⟩:=Afy (t:=Kz) (fe:=La) (δ:=[some (.tup (ps.map p3U)),x1,x2,x3,some (.int (k:Int)),x5,x6,x7,some (.ref E),some (.ref r1),some (.ref r2),some (.int ((mxN ((abl ps k).map fun j=>(f j).length):Nat):Int)),x12]) (L:=M3) (r:=r2) (v:=10) (w:=11) (m:=mxN ((abl ps k).map fun j=>(f j).length)) rfl rfl rfl rfl (g3.get hr2) (by omega)
 have g4:Gw M3 (M3++u++[HU.lst ((((abl ps k).map f).filter fun c=>decide (c.length=mxN ((abl ps k).map fun j=>(f j).length))).map fun c=>U.tup (ixU c))]):=(Gw.new _ u).trans (Gw.new _ _)
 have hr4:(M3++u++[HU.lst ((((abl ps k).map f).filter fun c=>decide (c.length=mxN ((abl ps k).map fun j=>(f j).length))).map fun c=>U.tup (ixU c))])[(M3++u).length]? = some (.lst ((((abl ps k).map f).filter fun c=>decide (c.length=mxN ((abl ps k).map fun j=>(f j).length))).map fun c=>U.tup (ixU c))):=by simp
 generalize M3++u++[HU.lst ((((abl ps k).map f).filter fun c=>decide (c.length=mxN ((abl ps k).map fun j=>(f j).length))).map fun c=>U.tup (ixU c))]=M4 at e5 g4 hr4
 generalize (M3++u).length=r4 at e5 hr4
 have fpos:∀ j∈abl ps k,0 < (f j).length:=fun j hj=>by
  obtain ⟨i,t,e⟩:=(hb j (hab j hj)).1.1.ex
  rw[e];simp
 have hzero:(mxN ((abl ps k).map fun j=>(f j).length)=0)↔abl ps k=[]:=by
  constructor
  ·intro h
   cases ha:abl ps k with
   | nil=>rfl
   | cons a t=>
    have h1:=fpos a (by rw[ha];exact aT ..)
    have h2:=(O0 ((abl ps k).map fun j=>(f j).length) 0).2 (f a).length (bU.mpr ⟨a,by rw[ha];exact aT ..,rfl⟩)
    unfold mxN at h;omega
  ·intro h;rw[h];rfl
 generalize hmx:mxN ((abl ps k).map fun j=>(f j).length)=mx at s3 e5 hr4 hzero
 have e6:=Aeq (Abx [some (.tup (ps.map p3U)),x1,x2,x3,some (.int (k:Int)),x5,x6,x7,some (.ref E),some (.ref r1),some (.ref r2),some (.int (mx:Int)),x12] M4)
 have e7:(Az Jz (Ac (f2 B2 (Ad 11) (fC (.int 0))) Af)) [some (.tup (ps.map p3U)),x1,x2,x3,some (.int (k:Int)),x5,x6,x7,some (.ref E),some (.ref r1),some (.ref r2),some (.int (mx:Int)),x12] (M4++[.lst [.tup []]])=some (.int (if decide (mx=0) then 1 else 0),M4++[.lst [.tup []]]):=by
  have h0:B2 (.int (mx:Int)) (.int 0) (M4++[.lst [.tup []]])=some (.bl (decide (mx=0)),M4++[.lst [.tup []]]):=by
   have:=semEq_int (mx:Int) ((0:Nat):Int) (M4++[.lst [.tup []]])
   rw[O7] at this
   exact this
  exact Gf (Cr (fa:=Ad 11) (fb:=fC (.int 0)) rfl rfl h0) (Apb _ _)
 have hmul:Bi (.ref M4.length) (.int (if decide (mx=0) then 1 else 0)) (M4++[.lst [.tup []]])=some (.ref (M4++[HU.lst [.tup []]]).length,M4++[.lst [.tup []]]++[.lst (if mx=0 then [.tup []] else [])]):=by
  have q1:(M4++[HU.lst [.tup []]])[M4.length]? = some (.lst [.tup []]):=by simp
  unfold Bi
  simp only[Cz q1,aA]
  by_cases h:mx=0
  ·rw[if_pos (c:=mx=0) h]
   simp only[h,decide_true,if_true]
   rw[if_pos ⟨by decide,by decide,small_of (by show 1<=16777216;decide)⟩]
   rfl
  ·rw[if_neg (c:=mx=0) h]
   simp only[h,decide_false,bK,if_false]
   rw[if_pos ⟨by decide,by decide,small_of (by show 0<=16777216;decide)⟩]
   rfl
 have e8:=Cr e6 e7 hmul
 have g5:Gw M4 (M4++[HU.lst [.tup []]]++[HU.lst (if mx=0 then [.tup []] else [])]):=(Gw.new _ _).trans (Gw.new _ _)
 have hr5:(M4++[HU.lst [.tup []]]++[HU.lst (if mx=0 then [.tup []] else [])])[(M4++[HU.lst [.tup []]]).length]? = some (.lst (if mx=0 then [.tup []] else [])):=by simp
 generalize M4++[HU.lst [.tup []]]++[HU.lst (if mx=0 then [.tup []] else [])]=M5 at e8 g5 hr5
 generalize (M4++[HU.lst [.tup []]]).length=r5 at e8 hr5
 have hadd:=U6 (g5.get hr4) hr5 (by
  have h1:=dS (fun c:List Nat=>decide (c.length=mx)) ((abl ps k).map f)
  rw[aQ]
  have h2:(if mx=0 then [U.tup []] else ([]:List U)).length<=1:=by split <;> simp
  omega)
 have hcs:(((abl ps k).map f).filter fun c:List Nat=>decide (c.length=mx)).map (fun c=>U.tup (ixU c))++(if mx=0 then [U.tup []] else [])=((((abl ps k).map f).filter fun c:List Nat=>decide (c.length=mx))++(if mx=0 then [([]:List Nat)] else [])).map fun c=>U.tup (ixU c):=by
  rw[jK]
  by_cases h:mx=0
  ·rw[if_pos h,if_pos h];rfl
  ·rw[if_neg h,if_neg h];rfl
 rw[hcs] at hadd
 have e9:=Cr e5 e8 hadd
 obtain ⟨c,hc,em,hmin⟩:=Mx (cs:=(((abl ps k).map f).filter fun c:List Nat=>decide (c.length=mx))++(if mx=0 then [([]:List Nat)] else [])) e9 (by simp) (by
  intro hz
  by_cases h:mx=0
  ·rw[if_pos h] at hz;simp at hz
  ·rcases P9 ((abl ps k).map fun j=>(f j).length) 0 with q | q
   ·unfold mxN at hmx;omega
   ·obtain ⟨j,hj,ej⟩:=bU.mp q
    have:f j∈(((abl ps k).map f).filter fun c:List Nat=>decide (c.length=mx))++(if mx=0 then [([]:List Nat)] else []):=cO _ (bT.mpr ⟨fW hj,by
     unfold mxN at hmx
     exact decide_eq_true (ej.trans hmx)⟩)
    rw[hz] at this;cases this)
 have g6:Gw M (M5++[HU.lst (((((abl ps k).map f).filter fun c:List Nat=>decide (c.length=mx))++(if mx=0 then [([]:List Nat)] else [])).map fun c=>U.tup (ixU c))]):=((((g1.trans g2).trans g3).trans g4).trans g5).trans (Gw.new _ _)
 generalize M5++[HU.lst (((((abl ps k).map f).filter fun c:List Nat=>decide (c.length=mx))++(if mx=0 then [([]:List Nat)] else [])).map fun c=>U.tup (ixU c))]=M6 at em g6
 have hB:Bst (Kk ps k) w1 (k::c):=by
  refine Aec hk (fun j hj=>hb j (hab j hj)) (fun ha=>?_) (fun ha=>?_)
  ·rw[ha] at hc
   have h0:mx=0:=hzero.mpr ha
   rw[if_pos h0] at hc
   simpa using hc
  ·have h0:mx≠0:=fun z=>ha (hzero.mp z)
   rw[if_neg h0,bB] at hc hmin
   obtain ⟨h1,h2⟩:=bT.mp hc
   have h2':=of_decide_eq_true h2
   refine ⟨h1,by rw[hmx];exact h2',fun j hj hl=>hmin (f j) (bT.mpr ⟨fW hj,decide_eq_true (hl.trans h2')⟩)⟩
 have hclen:=Mf hB.1.1
 have hv:=Cr (s:=Aw) (Akq (fa:=Ad 4) (δ:=[some (.tup (ps.map p3U)),x1,x2,x3,some (.int (k:Int)),x5,x6,x7,some (.ref E),some (.ref r1),some (.ref r2),some (.int (mx:Int)),x12]) (L:=M3) (M:=M3) (u:=.int (k:Int)) rfl) em (Aa0 (a:=[.int (k:Int)]) (b:=ixU c) M6 (by simp) (by simp only[ixU,aM,aY,aQ];simp only[aM] at hclen;omega))
 have hvU:(.tup ([.int (k:Int)]++ixU c):U) = .tup (ixU (k::c)):=rfl
 rw[hvU] at hv
 have s4:=Wx (fo:=Ad 8) (fi:=Ad 4) (u:=.int (k:Int)) hv rfl rfl rfl (g6.get hE) (by unfold dK;rw[aQ];omega)
 rw[Vg hkF] at s4
 refine ⟨fun j=>if j=k then k::c else f j,some (.ref r1),some (.ref r2),some (.int (mx:Int)),M6,?_,g6,fun i hi=>if_neg (fun e=>hkF (by rw[<- e];exact hi)),?_⟩
 ·have hd:dK (F++[k]) (fun j=>if j=k then .tup (ixU (k::c)) else .tup (ixU (f j)))=dK (F++[k]) fun i=>U.tup (ixU (if i=k then k::c else f i)):=Nf fun i _=>by
   by_cases h:i=k
   ·rw[if_pos h,if_pos h]
   ·rw[if_neg h,if_neg h]
  rw[hd] at s4
  unfold Fg
  rw[Ak s1,Ak s2,Ak s3]
  exact s4
 ·show Bst (Kk ps k) w1 (if k=k then k::c else f k)
  rw[if_pos rfl]
  exact hB
theorem Sb{β:Type}{ix:List (Option Nat)}{v:List (Key×U)->List U}{g:FG}{tt:Option FT}(as:List β)(rep:β->U)(f:β->Bool)(e:β->U)(E:UE->Prop)(hf:fo δ L=some (.ref n,L))(hn:L[n]? = some (.dic kvs))(hv:v kvs=as.map rep)(hl:as.length < 16777216)(h0:E (Gg ix δ))
  (step:∀ (a:β) δ (x:UH),a∈as->E δ->∃ δ1,g (rep a) δ (L.set n (.rod kvs)++x)=some (δ1,L.set n (.rod kvs)++x)/\E δ1/\Iw tt δ1 (L.set n (.rod kvs)++x)=some (f a,L.set n (.rod kvs)++x)/\fe δ1 (L.set n (.rod kvs)++x)=some (e a,L.set n (.rod kvs)++x)) :
  ∃ x,Xc (Bk ix (Rc v fo) g tt fe) δ L=some (.ref (L++x).length,L++x++[.lst ((as.filter f).map e)]):=by
 have hi:=Ais (v:=v) hf hn
 rw[hv] at hi
 obtain ⟨x,q⟩:=Bp (ix:=ix) (g:=g) (tt:=tt) (fe:=fe) as rep f e E hi (by simp[IU.size]) hl h0 (fun k x=>rfl) (fun a δ x ha hE=>by
  obtain ⟨δ1,h1,h2,h3,h4⟩:=step a δ x ha hE
  exact ⟨δ1,h1,h2,[],by rw[bB];exact h3,fun _=>⟨[],by rw[bB,bB];exact h4⟩⟩)
 refine ⟨x,?_⟩
 unfold Xc
 rw[q]
 have ln:(L.set n (.rod kvs)).length=L.length:=by simp
 simp only[aC]
 rw[dE,Tp _ _ _ ln.symm,Uj L n kvs hn,<- dE]
 simp
theorem Aat(F:List Nat)(g:Nat->U):O8 (dK F g)=F.map fun (i:Nat)=>U.int (i:Int):=by
 unfold O8 dK
 rw[dB];rfl
theorem R5(h:F.Nodup)(hk:F[p]? = some k):k∉F.take p:=fun hm=>by
 obtain ⟨hpl,hpe⟩:=aF.mp hk
 obtain ⟨q,hq,hqe⟩:=fG.mp hm
 have h5:=jC.mp (gR.mp h) q p (by omega) hpl (by omega)
 exact h5 (by rw[hqe,hpe])
theorem Ad6(hn:ps.length<=60)(O:Ord ps F [])(hE:M[E]? = some (.dic []))(hW:M[W]? = some (.dic []))(hr:M[r]? = some (.lst (ixU F)))(hEW:E≠W)(g0:Gw L M)(hEL:L.length<=E)(hWL:L.length<=W) :
  ∃ (h:Nat->Nat) (y4 y5:Option U) (M':UH),(Jh (Bg (Ad 3)) (gN 4) Ff) [some (.tup (ps.map p3U)),some (.ref E),some (.ref W),some (.ref r),none,none,none,none,none,none,none,none,none] M=some (.nx [some (.tup (ps.map p3U)),some (.ref E),some (.ref W),some (.ref r),y4,y5,none,none,none,none,none,none,none],M')/\M'[E]? = some (.dic (dK F fun i=>.int ((h i:Nat):Int)))/\M'[W]? = some (.dic (dK F fun i=>.int (en ps (h i - 1) i)))/\M'[r]? = some (.lst (ixU F))/\(∀ i∈F,Hk ps i (h i))/\Gw L M':=by
 have hpm:=O.pm
 rw[bB] at hpm
 have hnd:F.Nodup:=hpm.nodup_iff.mpr kK
 have hFl:F.length=ps.length:=by rw[hpm.length_eq,cF]
 have hrE:r≠E:=fun z=>by rw[z,hE] at hr;cases hr
 have hrW:r≠W:=fun z=>by rw[z,hW] at hr;cases hr
 have hi:(Bg (Ad 3)) [some (.tup (ps.map p3U)),some (.ref E),some (.ref W),some (.ref r),none,none,none,none,none,none,none,none,none] M=some (.ref r,M):=by
  have hv:Ad 3 [some (.tup (ps.map p3U)),some (.ref E),some (.ref W),some (.ref r),none,none,none,none,none,none,none,none,none] M=some (.ref r,M):=rfl
  rw[Er,hv]
  simp only[aA,B0 (Aj hr),aC]
 obtain ⟨δ',L',e,P⟩:=Nq (us:=ixU F) (n:=r) (body:=Ff) (g:=gN 4)
  (fun p δ' M'=>∃ (h:Nat->Nat) (y4 y5:Option U),δ'=[some (.tup (ps.map p3U)),some (.ref E),some (.ref W),some (.ref r),y4,y5,none,none,none,none,none,none,none]/\M'[E]? = some (.dic (dK (F.take p) fun i=>.int ((h i:Nat):Int)))/\M'[W]? = some (.dic (dK (F.take p) fun i=>.int (en ps (h i - 1) i)))/\M'[r]? = some (.lst (ixU F))/\(∀ i∈F.take p,Hk ps i (h i))/\Gw L M')
  hi ⟨fun _=>0,none,none,rfl,hE,hW,hr,(fun i hi=>by cases hi),g0⟩
  (fun k δ M ⟨_,_,_,_,_,_,h,_,_⟩=>Aj h)
  (fun p u δ M' hu ⟨h,y4,y5,hδ,h1,h2,h3,h4,h5⟩=>by
   subst hδ
   unfold ixU at hu
   rw[bO] at hu
   obtain ⟨k,hk,rfl⟩:=aH.mp hu
   have hkn:k < ps.length:=bG.mp (hpm.mem_iff.mp (bV hk))
   have htake:F.take (p+1)=F.take p++[k]:=by rw[iW,hk];rfl
   obtain ⟨h',z5,M2,e2,q1,q2,q3,q4,q5,q6⟩:=Adn (x3:=some (.ref r)) (x5:=y5) (x6:=none) (x7:=none) (x8:=none) (x9:=none) (x10:=none) (x11:=none) (x12:=none) hn hkn h1 h2 hEW (fun j hj hb=>O.at_ p k hk j hj hb) (R5 hnd hk) (by rw[fK];omega) h4 h5 hEL hWL
   refine ⟨[some (.tup (ps.map p3U)),some (.ref E),some (.ref W),some (.ref r),some (.int (k:Int)),y5,none,none,none,none,none,none,none],M',rfl,_,_,.inl e2,h',_,_,rfl,by rw[htake];exact q1,by rw[htake];exact q2,q6 r _ hrE hrW h3,fun i hi=>?_,q5⟩
   rw[htake] at hi
   rcases cR.mp hi with hi | hi
   ·rw[q3 i hi];exact h4 i hi
   ·rw[cB.mp hi];exact q4)
 obtain ⟨h,y4,y5,hδ,h1,h2,h3,h4,h5⟩:=P
 rw[hδ] at e
 have hxl:(ixU F).length=F.length:=by simp[ixU]
 rw[hxl,nG] at h1 h2 h4
 exact ⟨h,y4,y5,L',e,h1,h2,h3,h4,h5⟩
theorem Xd{D:Nat}(hn:ps.length<=60)(O:Ord ps F [])(hD:M[D]? = some (.dic []))(hr:M[r]? = some (.lst (ixU F)))(g0:Gw L M)(hDL:L.length<=D) :
  ∃ (f:Nat->List Nat) (y4 y9 y10 y11:Option U) (M':UH),(Jh (Bg (Aet (Ad 3))) (gN 4) Fg) [some (.tup (ps.map p3U)),x1,x2,some (.ref r),x4,x5,x6,x7,some (.ref D),none,none,none,none] M=some (.nx [some (.tup (ps.map p3U)),x1,x2,some (.ref r),y4,x5,x6,x7,some (.ref D),y9,y10,y11,none],M')/\M'[D]? = some (.dic (dK F.reverse fun i=>.tup (ixU (f i))))/\(∀ i∈F,Bst (Kk ps i) w1 (f i))/\Gw L M':=by
 have hpm:=O.pm
 rw[bB] at hpm
 have hnd:F.reverse.Nodup:=(List.reverse_perm F).nodup_iff.mpr (hpm.nodup_iff.mpr kK)
 have hFl:F.reverse.length=ps.length:=by rw[bY,hpm.length_eq,cF]
 have hrv:(ixU F).reverse=ixU F.reverse:=by simp[ixU]
 have hi:(Bg (Aet (Ad 3))) [some (.tup (ps.map p3U)),x1,x2,some (.ref r),x4,x5,x6,x7,some (.ref D),none,none,none,none] M=some (.ref M.length,M++[.lst (ixU F.reverse)]):=by
  have hv:Ad 3 [some (.tup (ps.map p3U)),x1,x2,some (.ref r),x4,x5,x6,x7,some (.ref D),none,none,none,none] M=some (.ref r,M):=rfl
  have hq:Ao (M++[HU.lst (ixU F.reverse)]) M.length=some (ixU F.reverse):=Aj (by simp)
  rw[Er,fRev_eq,hv]
  simp only[aA,Aj hr,aC,hrv,B0 hq]
 have hDl:=(aF.mp hD).1
 have gN1:Gw M (M++[HU.lst (ixU F.reverse)]):=Gw.new _ _
 obtain ⟨δ',L',e,P⟩:=Nq (us:=ixU F.reverse) (n:=M.length) (body:=Fg) (g:=gN 4)
  (fun p δ' M'=>∃ (f:Nat->List Nat) (y4 y9 y10 y11:Option U),δ'=[some (.tup (ps.map p3U)),x1,x2,some (.ref r),y4,x5,x6,x7,some (.ref D),y9,y10,y11,none]/\M'[D]? = some (.dic (dK (F.reverse.take p) fun i=>.tup (ixU (f i))))/\(∀ i∈F.reverse.take p,Bst (Kk ps i) w1 (f i))/\M'[M.length]? = some (.lst (ixU F.reverse))/\Gw L M')
  hi ⟨fun _=>[],x4,none,none,none,rfl,gN1.get hD,(fun i hi=>by cases hi),by simp,g0.trans gN1⟩
  (fun k δ M ⟨_,_,_,_,_,_,_,_,h,_⟩=>Aj h)
  (fun p u δ M' hu ⟨f,y4,y9,y10,y11,hδ,h1,h2,h3,h4⟩=>by
   subst hδ
   unfold ixU at hu
   rw[bO] at hu
   obtain ⟨k,hk,rfl⟩:=aH.mp hu
   have hkn:k < ps.length:=bG.mp (hpm.mem_iff.mp (iG.mp (bV hk)))
   have htake:F.reverse.take (p+1)=F.reverse.take p++[k]:=by rw[iW,hk];rfl
   obtain ⟨f',z9,z10,z11,M2,e2,g2,q1,q2⟩:=X0 (x1:=x1) (x2:=x2) (x3:=some (.ref r)) (x5:=x5) (x6:=x6) (x7:=x7) (x9:=y9) (x10:=y10) (x11:=y11) (x12:=none) hn hkn h1 (fun j hj hb=>Ad1 O hk hj hb) (R5 hnd hk) (by rw[fK];omega) h2
   have hEl:D < M2.length:=(aF.mp (g2.get h1)).1
   refine ⟨[some (.tup (ps.map p3U)),x1,x2,some (.ref r),some (.int (k:Int)),x5,x6,x7,some (.ref D),y9,y10,y11,none],M',rfl,_,_,.inl e2,f',_,_,_,_,rfl,by rw[htake];exact bM hEl,fun i hi=>?_,by rw[bL (by omega)];exact g2.get h3,(h4.trans g2).set hDL _⟩
   rw[htake] at hi
   rcases cR.mp hi with hi | hi
   ·rw[q1 i hi];exact h2 i hi
   ·rw[cB.mp hi];exact q2)
 obtain ⟨f,y4,y9,y10,y11,hδ,h1,h2,h3,h4⟩:=P
 rw[hδ] at e
 have hxl:(ixU F.reverse).length=F.reverse.length:=by simp[ixU]
 rw[hxl,nG] at h1 h2
 exact ⟨f,y4,y9,y10,y11,L',e,h1,fun i hi=>h2 i (iG.mpr hi),h4⟩
theorem Xr(hn:ps.length<=60)(hb:Bst (IsC ps) w1 b)(L:UH):∃ L',Hf [.tup (ps.map p3U)] L=some (Ahb ps b,L')/\Gw L L':=by
 have hbl:=Mf hb.1
 have hbpos:0 < b.length:=by obtain ⟨i,t,e⟩:=hb.1.ex;rw[e];simp
 have s1:(Ba Kw (gN 1)) [some (.tup (ps.map p3U)),none,none,none,none,none,none,none,none,none,none,none,none] L=some (.nx [some (.tup (ps.map p3U)),some (.ref L.length),none,none,none,none,none,none,none,none,none,none,none],L++[.dic []]):=rfl
 have s2:(Ba Kw (gN 2)) [some (.tup (ps.map p3U)),some (.ref L.length),none,none,none,none,none,none,none,none,none,none,none] (L++[.dic []])=some (.nx [some (.tup (ps.map p3U)),some (.ref L.length),some (.ref (L++[HU.dic []]).length),none,none,none,none,none,none,none,none,none,none],L++[.dic []]++[.dic []]):=rfl
 obtain ⟨r,F,L3,e3,h3,O,g3,hr3⟩:=Ti ps (by omega) (L++[.dic []]++[.dic []])
 have s3:=Ds (i:=3) (S6 (i:=0) (δ:=[some (.tup (ps.map p3U)),some (.ref L.length),some (.ref (L++[HU.dic []]).length),none,none,none,none,none,none,none,none,none,none]) rfl e3)
 simp only[aZ,bA] at s3
 have hE3:L3[L.length]? = some (.dic []):=g3.get (by simp)
 have hW3:L3[(L++[HU.dic []]).length]? = some (.dic []):=g3.get (by simp)
 have hWL:L.length < (L++[HU.dic []]).length:=by rw[cH];simp only[aM,aY];omega
 have gL3:Gw L L3:=((Gw.new L _).trans (Gw.new _ _)).trans g3
 generalize (L++[HU.dic []]).length=W at s2 s3 hW3 hWL
 obtain ⟨h,y4,y5,M,e4,hE,hW,hr,hH,gM⟩:=Ad6 hn O hE3 hW3 h3 (by omega) gL3 (aS _) (by omega)
 have hpm:=O.pm
 rw[bB] at hpm
 have hFl:F.length=ps.length:=by rw[hpm.length_eq,cF]
 have hmem:∀ {k},k∈F↔k < ps.length:=fun {k}=>hpm.mem_iff.trans bG
 have hh:∀ k,k < ps.length->Hk ps k (h k):=fun k hk=>hH k (hmem.mpr hk)
 have hdic:Ft M L.length=some (dK F fun i=>.int ((h i:Nat):Int)):=by unfold Ft;rw[hE]
 have hvals:T7 (dK F fun i=>.int ((h i:Nat):Int))=(F.map fun i=>((h i:Nat):Int)).map U.int:=by
  unfold T7 dK
  rw[dB,dB];rfl
 have hmx:Ks (F.map fun i=>((h i:Nat):Int))=(b.length:Int):=by
  obtain ⟨k,hk,e⟩:=Amb hb hh
  refine Aa4 (bU.mpr ⟨k,hmem.mpr hk,by rw[e]⟩) fun y hy=>?_
  obtain ⟨i,hi,rfl⟩:=bU.mp hy
  have:=R3 hb (hmem.mp hi) (hH i hi)
  omega
 have em:(Wr (Ad 1)) [some (.tup (ps.map p3U)),some (.ref L.length),some (.ref W),some (.ref r),y4,y5,none,none,none,none,none,none,none] M=some (.int (b.length:Int),M):=by
  unfold Wr
  simp only[fVar_eq,aN,aI,aV,aC,aA,hdic,hvals,toI_ints]
  rw[if_pos (by rw[aQ,hFl];omega),hmx]
 have s5:=Ds (i:=6) em
 simp only[aZ,bA] at s5
 have hWl:W < M.length:=(aF.mp hW).1
 have hEl:L.length < M.length:=(aF.mp hE).1
 obtain ⟨x,ec⟩:=Sb (ix:=[none,some 2,some 1,some 6]) (v:=O8) (fo:=Ad 1) (g:=gN 0) (tt:=some Gp) (fe:=Lc) (δ:=[some (.tup (ps.map p3U)),some (.ref L.length),some (.ref W),some (.ref r),y4,y5,some (.int (b.length:Int)),none,none,none,none,none,none]) (L:=M) (n:=L.length) F (fun (i:Nat)=>U.int (i:Int)) (fun k=>decide (h k=b.length)) (fun k=>U.int (en ps (h k - 1) k)) (fun δ=>∃ z,δ = [z,some (.ref W),some (.ref L.length),some (.int (b.length:Int))]) rfl hE (Aat _ _) (by omega) ⟨none,rfl⟩
  (fun k δ x hk ⟨z,hδ⟩=>by
   subst hδ
   have a1:(M.set L.length (.rod (dK F fun i=>.int ((h i:Nat):Int)))++x)[L.length]? = some (.rod (dK F fun i=>.int ((h i:Nat):Int))):=by
    rw[bI (by rw[gY];exact hEl),bM hEl]
   have a2:(M.set L.length (.rod (dK F fun i=>.int ((h i:Nat):Int)))++x)[W]? = some (.dic (dK F fun i=>.int (en ps (h i - 1) i))):=by
    rw[bI (by rw[gY];exact hWl),bL (by omega),hW]
   generalize M.set L.length (.rod (dK F fun i=>.int ((h i:Nat):Int)))++x=N at a1 a2
   refine ⟨[some (.int (k:Int)),some (.ref W),some (.ref L.length),some (.int (b.length:Int))],rfl,⟨_,rfl⟩,?_,?_⟩
   ·have q1:=Q3 (fo:=Ad 2) (fi:=Ad 0) (δ:=[some (.int (k:Int)),some (.ref W),some (.ref L.length),some (.int (b.length:Int))]) (u:=.int (k:Int)) rfl rfl rfl (.inr a1) (Lg hk)
    have q4:=Cr (s:=B2) (fb:=Ad 3) q1 rfl (semEq_int _ _ _)
    rw[O7] at q4
    show Gp [some (.int (k:Int)),some (.ref W),some (.ref L.length),some (.int (b.length:Int))] N=_
    unfold Gp
    rw[fTest_eq,q4]
    rfl
   ·exact Q3 (u:=.int (k:Int)) rfl rfl rfl (.inl a2) (Lg hk))
 have hmi:(F.filter fun k=>decide (h k=b.length)).map (fun k=>U.int (en ps (h k - 1) k))=((F.filter fun k=>decide (h k=b.length)).map fun k=>en ps (h k - 1) k).map U.int:=by rw[dB];rfl
 rw[hmi] at ec
 have hq5:Ao (M++x++[HU.lst (((F.filter fun k=>decide (h k=b.length)).map fun k=>en ps (h k - 1) k).map U.int)]) (M++x).length=some (((F.filter fun k=>decide (h k=b.length)).map fun k=>en ps (h k - 1) k).map U.int):=Aj (by simp)
 have hsum:E7 [.ref (M++x).length] (M++x++[HU.lst (((F.filter fun k=>decide (h k=b.length)).map fun k=>en ps (h k - 1) k).map U.int)])=some (.int (bg ps (b.length - 1)).sum,M++x++[HU.lst (((F.filter fun k=>decide (h k=b.length)).map fun k=>en ps (h k - 1) k).map U.int)]):=by
  rw[<- Ajo hb hh hpm]
  simp only[E7,hq5,aA,toI_ints,aC,sm]
 have s6:=Ds (i:=7) (Gf ec hsum)
 simp only[aZ,bA] at s6
 have g6:Gw M (M++x++[HU.lst (((F.filter fun k=>decide (h k=b.length)).map fun k=>en ps (h k - 1) k).map U.int)]):=(Gw.new _ x).trans (Gw.new _ _)
 generalize M++x++[HU.lst (((F.filter fun k=>decide (h k=b.length)).map fun k=>en ps (h k - 1) k).map U.int)]=M6 at s6 g6
 have s7:(Ba Kw (gN 8)) [some (.tup (ps.map p3U)),some (.ref L.length),some (.ref W),some (.ref r),y4,y5,some (.int (b.length:Int)),some (.int (bg ps (b.length - 1)).sum),none,none,none,none,none] M6=some (.nx [some (.tup (ps.map p3U)),some (.ref L.length),some (.ref W),some (.ref r),y4,y5,some (.int (b.length:Int)),some (.int (bg ps (b.length - 1)).sum),some (.ref M6.length),none,none,none,none],M6++[.dic []]):=rfl
 have g7:Gw M6 (M6++[HU.dic []]):=Gw.new _ _
 obtain ⟨f,z4,z9,z10,z11,M8,e8,hD,hf,g8⟩:=Xd (x1:=some (.ref L.length)) (x2:=some (.ref W)) (x4:=y4) (x5:=y5) (x6:=some (.int (b.length:Int))) (x7:=some (.int (bg ps (b.length - 1)).sum)) (M:=M6++[HU.dic []]) (D:=M6.length) hn O (by simp) (g7.get (g6.get hr)) ((gM.trans g6).trans g7) (gM.trans g6).le
 have hDl:M6.length < M8.length:=(aF.mp hD).1
 obtain ⟨y,ed⟩:=Sb (ix:=[none,some 8,some 6]) (v:=O8) (fo:=Ad 8) (g:=gN 0) (tt:=some Fy) (fe:=Ku) (δ:=[some (.tup (ps.map p3U)),some (.ref L.length),some (.ref W),some (.ref r),z4,y5,some (.int (b.length:Int)),some (.int (bg ps (b.length - 1)).sum),some (.ref M6.length),z9,z10,z11,none]) (L:=M8) (n:=M6.length) F.reverse (fun (i:Nat)=>U.int (i:Int)) (fun k=>decide ((f k).length=b.length)) (fun k=>U.tup (ixU (f k))) (fun δ=>∃ z,δ = [z,some (.ref M6.length),some (.int (b.length:Int))]) rfl hD (Aat _ _) (by rw[bY];omega) ⟨none,rfl⟩
  (fun k δ x hk ⟨z,hδ⟩=>by
   subst hδ
   have a1:(M8.set M6.length (.rod (dK F.reverse fun i=>.tup (ixU (f i))))++x)[M6.length]? = some (.rod (dK F.reverse fun i=>.tup (ixU (f i)))):=by
    rw[bI (by rw[gY];exact hDl),bM hDl]
   generalize M8.set M6.length (.rod (dK F.reverse fun i=>.tup (ixU (f i))))++x=N at a1
   have q1:=Q3 (fo:=Ad 1) (fi:=Ad 0) (δ:=[some (.int (k:Int)),some (.ref M6.length),some (.int (b.length:Int))]) (u:=.int (k:Int)) rfl rfl rfl (.inr a1) (Lg hk)
   refine ⟨[some (.int (k:Int)),some (.ref M6.length),some (.int (b.length:Int))],rfl,⟨_,rfl⟩,?_,q1⟩
   have hlen:Aq [.tup (ixU (f k))] N=some (.int ((f k).length:Int),N):=by simp[Aq,lenU,ixU]
   have he:B2 (.int ((f k).length:Int)) (.int (b.length:Int)) N=some (.bl (decide ((f k).length=b.length)),N):=by rw[semEq_int,O7]
   show Fy [some (.int (k:Int)),some (.ref M6.length),some (.int (b.length:Int))] N=_
   unfold Fy
   rw[fTest_eq,Cr (fb:=Ad 2) (Gf q1 hlen) rfl he]
   rfl)
 have hml:(F.reverse.filter fun k=>decide ((f k).length=b.length)).map (fun k=>U.tup (ixU (f k)))=((F.reverse.filter fun k=>decide ((f k).length=b.length)).map f).map fun c=>U.tup (ixU c):=by rw[dB];rfl
 rw[hml] at ed
 have hfn:∀ i,i < ps.length->Bst (Kk ps i) w1 (f i):=fun i hi=>hf i (hmem.mpr hi)
 have hin:∀ {k},k < ps.length->(f k).length=b.length->f k∈(F.reverse.filter fun k=>decide ((f k).length=b.length)).map f:=fun {k} hk hl=>bU.mpr ⟨k,bT.mpr ⟨iG.mpr (hmem.mpr hk),decide_eq_true hl⟩,rfl⟩
 obtain ⟨c,hc,en9,hmin⟩:=Mx (cs:=(F.reverse.filter fun k=>decide ((f k).length=b.length)).map f) ed (by simp) (by
  obtain ⟨i,t,e⟩:=hb.1.ex
  have hi:i < ps.length:=by have:=hb.1;rw[e] at this;exact this.head
  have h1:=(hfn i hi).2 b ⟨hb.1,by rw[e];rfl⟩
  have h2:=Ky hb (hfn i hi).1.1
  unfold kl at h1
  rw[wS_one,wS_one] at h1
  have hl:(f i).length=b.length:=by
   by_cases q:(f i).length=b.length
   ·exact q
   ·rw[if_neg (by omega)] at h1
    simp only[decide_eq_false_iff_not] at h1
    omega
  intro z
  have:=hin hi hl
  rw[z] at this;cases this)
 obtain ⟨k0,hk0,rfl⟩:=bU.mp hc
 obtain ⟨hk1,hk2⟩:=bT.mp hk0
 have hcb:f k0=b:=Agd hb hfn ⟨k0,hmem.mp (iG.mp hk1),rfl,of_decide_eq_true hk2⟩ fun i hi hl=>hmin _ (hin hi hl)
 rw[hcb] at en9
 have s9:=Ds (i:=12) en9
 simp only[aZ,bA] at s9
 have g9:Gw M8 (M8++y++[HU.lst (((F.reverse.filter fun k=>decide ((f k).length=b.length)).map f).map fun c=>U.tup (ixU c))]):=(Gw.new _ y).trans (Gw.new _ _)
 generalize M8++y++[HU.lst (((F.reverse.filter fun k=>decide ((f k).length=b.length)).map f).map fun c=>U.tup (ixU c))]=M9 at s9 g9
 obtain ⟨L4,e4',g4⟩:=Ms (ps:=ps) (fi:=Bg (Ad 12)) (it:=.seq (ixU b)) (fe:=K7) (δ:=[some (.tup (ps.map p3U)),some (.ref L.length),some (.ref W),some (.ref r),z4,y5,some (.int (b.length:Int)),some (.int (bg ps (b.length - 1)).sum),some (.ref M6.length),z9,z10,z11,some (.tup (ixU b))]) (L:=M9) (L0:=M9) (c:=b) (i0:=0) rfl rfl (by simp[IU.size,ixU]) (fun _ _=>rfl) rfl hb.1.all (by omega)
 have ht:=Abm (fa:=Ad 6) (fb:=Ad 7) rfl rfl e4'
 refine ⟨L4,?_,(g8.trans g9).trans g4⟩
 unfold Hf fnU Pt
 simp only[aM,aY,if_true,aW,bW,bN,dC,dL]
 rw[Ak s1,Ak s2,Ak s3,Ak e4,Ak s5,Ak s6,Ak s7,Ak e8,Ak s9,fRet_eq,ht]
 simp only[aC,aA]
 rfl
theorem Agy(R:FN)(i:Int)(L:UH):(fnU 2 2 (Hg R)) [.int i,.int i] L=some (.bl true,L):=by
 have t1:∀ i L,Mu (.int i) L=some "int" := fun _ _=>rfl
 have n1:isT "int" "tuple" = false:=rfl
 have n2:isT "int" "str" = false:=rfl
 have n3:isT "int" "int" = true:=rfl
 have n4:isT "int" "bool" = false:=rfl
 have hi:Pq false (.int i) .non L=some (.bl false,L):=rfl
 unfold fnU Hg
 simp only[aM,aY,if_true,aW,bW,eQ,dW,bB,fSeq_eq,fIfS_eq,fTest_eq,fTru_eq,f2_eq,Vb,fVar_eq,fC_eq,aN,aI,aV,aC,aA,hi,t1,n1,n2,n3,n4,truU_bl,bK,if_false,Cq,fRet_eq,Ly,fNotV_eq,mB,semEq_int,beq_self_eq_true]
theorem Aft(R:FN){s:Str}(hs:Pl 6 (.str s))(L:UH):(fnU 2 2 (Hg R)) [.str s,.str s] L=some (.bl true,L):=by
 have t1:∀ s L,Mu (.str s) L=some "str" := fun _ _=>rfl
 have n1:isT "str" "tuple" = false:=rfl
 have n2:isT "str" "str" = true:=rfl
 have hi:Pq false (.str s) .non L=some (.bl false,L):=rfl
 have he:B2 (.str s) (.str s) L=some (.bl true,L):=by rw[Afi L hs hs,Se hs]
 unfold fnU Hg
 simp only[aM,aY,if_true,aW,bW,eQ,dW,bB,fSeq_eq,fIfS_eq,fTest_eq,fTru_eq,f2_eq,Vb,fVar_eq,fC_eq,aN,aI,aV,aC,aA,hi,t1,n1,n2,truU_bl,bK,if_false,Cq,fRet_eq,Ly,he]
theorem Tn(R:FN)(us:List U)(hR:∀ u∈us,∀ L,∃ x,R [u,u] L=some (.bl true,L++x))(hx:us.length<=1000)(L:UH):∃ x,(fnU 2 2 (Hg R)) [.tup us,.tup us] L=some (.bl true,L++x):=by
 have hz:(R9 (Ac (Ad 0) (Ac (Ad 1) Af))) [some (.tup us),some (.tup us)] L=some (.seq (us.map fun a=>.tup [a,a]),L):=by
  have:Lj us us=us.map fun a=>.tup [a,a]:=by
   clear hR hx
   unfold Lj
   induction us with
   | nil=>rfl
   | cons x xs ih=>rw[jO,aW,ih];rfl
  rw[<- this];rfl
 obtain ⟨x,e⟩:=Bp (ix:=[none,none]) (fi:=R9 (Ac (Ad 0) (Ac (Ad 1) Af))) (it:=.seq (us.map fun a=>.tup [a,a])) (g:=(MR.gTup 2 (MR.gCons (gN 0) (MR.gCons (gN 1) MR.gNil)))) (tt:=some (Ip R)) (fe:=Po R) (δ:=[some (.tup us),some (.tup us)]) (L:=L) (L0:=L)
  us (fun a=>.tup [a,a]) (fun _=>false) (fun _=>.int 1) (fun δ=>∃ a b,δ = [a,b]) hz (by simp[IU.size]) (by omega) ⟨none,none,rfl⟩
  (fun k x=>rfl)
  (fun a δ x ha ⟨y,z,hδ⟩=>by
   subst hδ
   obtain ⟨w,hw⟩:=hR a ha (L++x)
   refine ⟨[some a,some a],rfl,⟨_,_,rfl⟩,w,?_,fun h=>by cases h⟩
   show (Ip R) [some a,some a] (L++x)=_
   unfold Ip
   simp only[fNot_eq,fTru_eq,fOwn_eq,fCons_eq,fNil_eq,fVar_eq,aN,aI,aV,aC,aA,aM,aY,if_true,hw,truU_bl,iB])
 have hf:hV (fun _=>false) us=([]:List U):=oB.mpr (fun _ _=>by simp)
 rw[hf,bW] at e
 have q1:Ao (L++x++[HU.lst []]++[HU.lst []]) (L++x).length=some []:=Br (Aj (by simp))
 have q2:Ao (L++x++[HU.lst []]++[HU.lst []]) (L++x++[HU.lst []]).length=some []:=Aj (by simp)
 have he:=Ue q1 q2 (by simp) (by simp)
 have hb:Tc [] []=true:=rfl
 rw[hb] at he
 refine ⟨x++[HU.lst []]++[HU.lst []],?_⟩
 have t1:∀ l L,Mu (.tup l) L=some "tuple" := fun _ _=>rfl
 have n1:isT "tuple" "tuple" = true:=rfl
 have hi:∀ l,Pq false (.tup l) .non L=some (.bl false,L):=fun _=>rfl
 have hlen:∀ l:List U,Aq [.tup l] L=some (.int l.length,L):=fun l=>rfl
 have hne:∀ i:Int,Dl (.int i) (.int i) L=some (.bl false,L):=fun i=>by simp
 have sm0:small ([]:List U).length=true:=small_of (by show 0<=16777216;decide)
 have hl0:∀ δ M,(Cs Af) δ M=some (.ref M.length,M++[.lst []]):=fun δ M=>by rw[fLst_eq,fNil_eq,aA,if_pos sm0]
 unfold fnU Hg
 simp only[aM,aY,if_true,aW,bW,eQ,dW,bB,fSeq_eq,fIfS_eq,fTest_eq,fTru_eq,fOr_eq,fNot_eq,f2_eq,Vb,fCall_eq,fCons_eq,fVar_eq,fC_eq,aN,aI,aV,aC,aA,hi,t1,n1,truU_bl,bK,if_false,Cq,fRet_eq,iB,fNil_eq,hlen,hne]
 simp only[e,aA,hl0,he,aC]
 simp only[dE]
theorem U2{x:Str}(h:Low x)(n:Nat):Pl n (.str x):=by
 cases n <;> simpa[Pl] using h.ok
theorem Ahg(hw:∀ p∈ps,Low p.1)(h:i < ps.length):Low (ptAt ps i).1:=by
 refine hw _ ?_
 unfold ptAt
 rw[aP,aL h]
 exact eO h
noncomputable def Aj3(ps:List P3):U->Prop:=fun u=>(ps=[]/\u = .tup [.int 0,.int 1,.tup []])\/(ps≠[]/\∃ b,Bst (IsC ps) w1 b/\u=Ahb ps b)
theorem Ama(hw:∀ p∈ps,Low p.1)(h:Aj3 ps u):Pl 6 u:=by
 rcases h with ⟨_,rfl⟩ | ⟨_,b,hb,rfl⟩
 ·rw[G8]
  intro u hu
  simp only[bH,eB,or_false] at hu
  rcases hu with rfl | rfl | rfl
  ·exact Pl.int _ _
  ·exact Pl.int _ _
  ·rw[G8];intro u hu;cases hu
 ·unfold Ahb
  rw[G8]
  intro u hu
  simp only[bH,eB,or_false] at hu
  rcases hu with rfl | rfl | rfl
  ·exact Pl.int _ _
  ·exact Pl.int _ _
  ·unfold nmU
   rw[G8];intro u hu
   obtain ⟨i,hi,rfl⟩:=bU.mp hu
   exact U2 (Ahg hw (hb.1.all i hi)) _
theorem Ahf(hn:ps.length<=60)(hw:∀ p∈ps,Low p.1)(h:Aj3 ps u)(L:UH):∃ x,Nv [u,u] L=some (.bl true,L++x):=by
 have hI:∀ (R:FN) (i:Int) (L:UH),∃ x,(fnU 2 2 (Hg R)) [.int i,.int i] L=some (.bl true,L++x):=fun R i L=>⟨[],by rw[bB];exact Agy R i L⟩
 have hT:∀ (a b:Int) (us:List U),us.length<=1000->(∀ u∈us,∀ L,∃ x,Hx 1 [u,u] L=some (.bl true,L++x))->∃ x,Nv [.tup [.int a,.int b,.tup us],.tup [.int a,.int b,.tup us]] L=some (.bl true,L++x):=fun a b us hl hu=>Tn (Hx 2) _ (fun u hu' M=>by
  simp only[bH,eB,or_false] at hu'
  rcases hu' with rfl | rfl | rfl
  ·exact hI _ _ _
  ·exact hI _ _ _
  ·exact Tn (Hx 1) _ hu hl M) (by simp) L
 rcases h with ⟨_,rfl⟩ | ⟨_,b,hb,rfl⟩
 ·exact hT _ _ _ (by simp) (fun u hu=>by cases hu)
 ·have:=Mf hb.1
  refine hT _ _ _ (by rw[aQ];omega) fun u hu M=>?_
  obtain ⟨i,hi,rfl⟩:=bU.mp hu
  exact ⟨[],by rw[bB];exact Aft _ (U2 (Ahg hw (hb.1.all i hi)) _) M⟩
variable {L1:UH}{pu:U}{x0:Option U}
theorem Ajs{fr fd:FN}{L3:UH}{i:Int}{most:Nat}(e1:fd [.ref d,.int 4] (L++[.lst [.int 8,.int 8,.int 8,.int 60]])=some (.int i,L1))(h1:L1[L.length]? = some (.lst [.int 8,.int 8,.int 8,.int 60]))(hi:L2.atI [U.int 8,.int 8,.int 8,.int 60] i=some (.int most))(e2:fr [.ref d,.int most] L1=some (pu,L3)) :
  (Ba (Be 2 fr (Ac (Ad 1) (Ac (f2 Am (Cs (Ac (fC (.int 8)) (Ac (fC (.int 8)) (Ac (fC (.int 8)) (Ac (fC (.int 60)) Af))))) (Be 2 fd (Ac (Ad 1) (Ac (fC (.int 4)) Af)))) Af))) (gN 3)) [x0,some (.ref d),x2,x3,x4] L=some (.nx [x0,some (.ref d),x2,some pu,x4],L3):=by
 have sm4:∀ x y z t:U,small [x,y,z,t].length=true:=fun _ _ _ _=>small_of (by show 4<=16777216;decide)
 have hl:(Cs (Ac (fC (.int 8)) (Ac (fC (.int 8)) (Ac (fC (.int 8)) (Ac (fC (.int 60)) Af))))) [x0,some (.ref d),x2,x3,x4] L=some (.ref L.length,L++[.lst [.int 8,.int 8,.int 8,.int 60]]):=by
  simp only[fLst_eq,fCons_eq,fC_eq,fNil_eq,aA,aC]
  rw[if_pos (sm4 _ _ _ _)]
 have a1:=Pc (i:=1) (δ:=[x0,some (.ref d),x2,x3,x4]) rfl e1
 have v1:Ad 1 [x0,some (.ref d),x2,x3,x4] L=some (.ref d,L):=rfl
 have h2:(Be 2 fr (Ac (Ad 1) (Ac (f2 Am (Cs (Ac (fC (.int 8)) (Ac (fC (.int 8)) (Ac (fC (.int 8)) (Ac (fC (.int 60)) Af))))) (Be 2 fd (Ac (Ad 1) (Ac (fC (.int 4)) Af)))) Af))) [x0,some (.ref d),x2,x3,x4] L=some (pu,L3):=by
  rw[fOwn_eq,fCons_eq,v1,aA,fCons_eq,f2_eq,hl,aA,a1]
  simp only[aA,semIx_ref,Aj h1,hi,aC,fNil_eq,aM,aY,if_true,e2]
 have:=Ds (i:=3) h2
 simpa only[aZ,bA] using this
theorem Agk{ft:FN}{du:U}(hlen:Aq [pu] L=some (.int (n:Int),L))(ht:0 < n/\n < 9->ft [pu] L=some (du,L1))(hne:Dl du du L1=some (.bl false,L1)) :
  (Fm (U3 (By (Oz Js Js (fC (.int 0)) (Az Aq (Ac (Ad 3) Af)) (fC (.int 9)))) (By (f2 Dl (Ad 4) (Be 1 ft (Ac (Ad 3) Af))))) (Dj (fC (.bl false))) C1) [x0,x1,x2,some pu,some du] L=some (.nx [x0,x1,x2,some pu,some du],if 0 < n/\n < 9 then L1 else L):=by
 have hl:=Gf (fa:=Ad 3) (δ:=[x0,x1,x2,some pu,some du]) rfl hlen
 have t1:(Oz Js Js (fC (.int 0)) (Az Aq (Ac (Ad 3) Af)) (fC (.int 9))) [x0,x1,x2,some pu,some du] L=some (.bl (decide (0 < n/\n < 9)),L):=by
  unfold Oz
  rw[fC_eq,aA,hl]
  simp only[aA,semLt_int,fC_eq]
  by_cases h0:0 < n
  ·rw[decide_eq_true (p:=(0:Int) < (n:Int)) (by omega)]
   simp only
   by_cases h9:n < 9
   ·rw[decide_eq_true (p:=(n:Int) < 9) (by omega),decide_eq_true (p:=0 < n/\n < 9) ⟨h0,h9⟩];rfl
   ·rw[decide_eq_false (p:=(n:Int) < 9) (by omega),decide_eq_false (p:=0 < n/\n < 9) (fun z=>h9 z.2)];rfl
  ·rw[decide_eq_false (p:=(0:Int) < (n:Int)) (by omega),decide_eq_false (p:=0 < n/\n < 9) (fun z=>h0 z.1)];rfl
 by_cases h:0 < n/\n < 9
 ·rw[decide_eq_true h] at t1
  have a:=S6 (i:=3) (δ:=[x0,x1,x2,some pu,some du]) rfl (ht h)
  have t2:(f2 Dl (Ad 4) (Be 1 ft (Ac (Ad 3) Af))) [x0,x1,x2,some pu,some du] L=some (.bl false,L1):=by
   have v4:Ad 4 [x0,x1,x2,some pu,some du] L=some (du,L):=rfl
   rw[f2_eq,v4,aA,a]
   simp only[aA,hne]
  rw[if_pos h]
  simp only[fIfS_eq,fAnd_eq,fTest_eq,t1,t2,aA,if_true,bK,if_false,Cq]
 ·rw[decide_eq_false h] at t1
  rw[if_neg h]
  simp only[fIfS_eq,fAnd_eq,fTest_eq,t1,aA,bK,if_false,Cq]
theorem Anv{fs fb:FN}{L2:UH}{du:U}(e1:fb [pu] L=some (du,L1))(e2:fs [du,du] L1=some (.bl true,L2)) :
  (Fm (Pu (Ij (Be 2 fs (Ac (Be 1 fb (Ac (Ad 3) Af)) (Ac (Ad 4) Af))))) (Dj (fC (.bl false))) C1) [x0,x1,x2,some pu,some du] L=some (.nx [x0,x1,x2,some pu,some du],L2):=by
 have a1:=S6 (i:=3) (δ:=[x0,x1,x2,some pu,some du]) rfl e1
 have b1:(Be 2 fs (Ac (Be 1 fb (Ac (Ad 3) Af)) (Ac (Ad 4) Af))) [x0,x1,x2,some pu,some du] L=some (.bl true,L2):=by
  rw[fOwn_eq,fCons_eq,a1]
  simp only[aA,fCons_eq,fVar_eq,fNil_eq,aN,aI,aV,aC,aM,aY,if_true,e2]
 simp only[fIfS_eq,fNot_eq,fTru_eq,b1,truU_bl,aC,aA,iB,bK,if_false,Cq]
theorem Amo(hn:ps.length<=60)(hw:∀ p∈ps,Low p.1)(x0 x1 x2:Option U)(L:UH):∃ (u:U) (L':UH),(Fm (By (f2 Dl (Ad 3) (Ec Af))) (Ba (Be 1 Hf (Ac (Ad 3) Af)) (gN 4)) C1) [x0,x1,x2,some (.tup (ps.map p3U)),some (.tup [.int 0,.int 1,.tup []])] L=some (.nx [x0,x1,x2,some (.tup (ps.map p3U)),some u],L')/\Aj3 ps u/\Gw L L':=by
 have hp:Pl 6 (.tup (ps.map p3U)):=by
  rw[G8]
  intro u hu
  obtain ⟨p,hp,rfl⟩:=bU.mp hu
  unfold p3U
  rw[G8]
  intro w hw'
  simp only[bH,eB,or_false] at hw'
  rcases hw' with rfl | rfl | rfl
  ·exact U2 (hw p hp) _
  ·exact Pl.int _ _
  ·exact Pl.int _ _
 have h0:Pl 6 (.tup []):=by rw[G8];intro u hu;cases hu
 have hne:=V3 L hp h0
 have t:=Cr (fa:=Ad 3) (δ:=[x0,x1,x2,some (.tup (ps.map p3U)),some (.tup [.int 0,.int 1,.tup []])]) rfl (Abx _ L) hne
 by_cases h:ps=[]
 ·have:eqB (.tup (ps.map p3U)) (.tup [])=true:=by rw[h];exact Se h0
  rw[this] at t
  refine ⟨_,L,?_,.inl ⟨h,rfl⟩,Gw.refl _⟩
  simp only[fIfS_eq,fTest_eq,t,aA,iB,bK,if_false,Cq]
 ·have:eqB (.tup (ps.map p3U)) (.tup [])=false:=by
   cases hq:eqB (.tup (ps.map p3U)) (.tup []) with
   | false=>rfl
   | true=>
    have:=(Abw hp h0).mp hq
    simp only[U.tup.injEq,lH] at this
    exact absurd this h
  rw[this] at t
  obtain ⟨b,_,_,hb,_⟩:=Rg ps hn h []
  obtain ⟨L',e,g⟩:=Xr hn hb L
  have s:=Ds (i:=4) (S6 (i:=3) (δ:=[x0,x1,x2,some (.tup (ps.map p3U)),some (.tup [.int 0,.int 1,.tup []])]) rfl e)
  simp only[aZ,bA] at s
  refine ⟨_,L',?_,.inr ⟨h,b,hb,rfl⟩,g⟩
  simp only[fIfS_eq,fTest_eq,t,aA,mB,if_true,s]
theorem Xm(hn:ps.length<=60)(h:Aj3 ps u)(L:UH):∃ L',Di [.tup (ps.map p3U)] L=some (u,L')/\Gw L L':=by
 rcases h with ⟨h,rfl⟩ | ⟨h,b,hb,rfl⟩
 ·refine ⟨L,?_,Gw.refl _⟩
  rw[h]
  rfl
 ·obtain ⟨c,L',e,hc,g⟩:=Rg ps hn h L
  rw[Bst.uniq hc hb] at e
  exact ⟨L',e,g⟩
theorem Ak6(D:Gdk L d B)(hB:B<=50000)(x0 x2 x3 x4:Option U) :
  ∃ (y3 y4:Option U) (L':UH),Qg [x0,some (.ref d),x2,x3,x4] L=some (.nx [x0,some (.ref d),x2,y3,y4],L')/\Gdk L' d (B+1001):=by
 have hdl:=D.lt
 obtain ⟨i,L1,e1,i0,i1,D1,x1⟩:=C7 (many:=4) (D.new [HU.lst [.int 8,.int 8,.int 8,.int 60]]) (by omega) (by decide) (by decide)
 have h1:L1[L.length]? = some (.lst [.int 8,.int 8,.int 8,.int 60]):=x1.get (by simp) (by omega)
 have hm:∃ most:Nat,L2.atI [U.int 8,.int 8,.int 8,.int 60] i=some (.int most)/\most<=60:=by
  have:i=0\/i=1\/i=2\/i=3:=by omega
  rcases this with rfl | rfl | rfl | rfl
  ·exact ⟨8,rfl,by decide⟩
  ·exact ⟨8,rfl,by decide⟩
  ·exact ⟨8,rfl,by decide⟩
  ·exact ⟨60,rfl,by decide⟩
 obtain ⟨most,hm,hm60⟩:=hm
 obtain ⟨ps,L3,e2,hps,hw,D3,x3'⟩:=Adu D1 (by omega) hm60
 have s1:=Ajs (x0:=x0) (x2:=x2) (x3:=x3) (x4:=x4) e1 h1 hm e2
 have hn:ps.length<=60:=by omega
 have s2:=Ds (i:=4) (Abm (fa:=fC (.int 0)) (fb:=fC (.int 1)) (δ:=[x0,some (.ref d),x2,some (.tup (ps.map p3U)),x4]) (L:=L3) rfl rfl (Abx _ L3))
 simp only[aZ,bA] at s2
 obtain ⟨u,L4,s3,hu,g4⟩:=Amo hn hw x0 (some (.ref d)) x2 L3
 have hT:∃ L5,(0 < ps.length/\ps.length < 9->Gm [.tup (ps.map p3U)] L4=some (u,L5))/\Gw L4 L5:=by
  by_cases h9:0 < ps.length/\ps.length < 9
  ·rcases hu with ⟨h,_⟩ | ⟨_,b,hb,rfl⟩
   ·rw[h] at h9;exact absurd h9.1 (by decide)
   ·obtain ⟨L5,e5,g5⟩:=Xb (by omega) hb L4
    exact ⟨L5,fun _=>e5,g5⟩
  ·exact ⟨L4,fun h=>absurd h h9,Gw.refl _⟩
 obtain ⟨L5,e5,g5⟩:=hT
 have hlen:Aq [.tup (ps.map p3U)] L4=some (.int (ps.length:Int),L4):=by simp[Aq,lenU]
 have hpu:=Ama hw hu
 have hne:Dl u u L5=some (.bl false,L5):=by
  rw[V3 _ hpu hpu,Se hpu];rfl
 have s4:=Agk (x0:=x0) (x1:=some (.ref d)) (x2:=x2) hlen e5 hne
 have g5':Gw L4 (if 0 < ps.length/\ps.length < 9 then L5 else L4):=by
  split
  ·exact g5
  ·exact Gw.refl _
 generalize (if 0 < ps.length/\ps.length < 9 then L5 else L4)=L6 at s4 g5'
 obtain ⟨L7,e7,g7⟩:=Xm hn hu L6
 obtain ⟨x,e8⟩:=Ahf hn hw hu L7
 have s5:=Anv (x0:=x0) (x1:=some (.ref d)) (x2:=x2) e7 e8
 refine ⟨some (.tup (ps.map p3U)),some u,L7++x,?_,(D3.gw ((g4.trans g5').trans (g7.trans (Gw.new _ x)))).mono (by omega)⟩
 unfold Qg
 rw[Ak s1,Ak s2,Ak s3,Ak s4]
 exact s5
theorem Agn(ns:List Int)(hl:ns.length<=63)(hb:∀ n∈ns,dH n<=2 ^ 20):∃ L',Xe [.ref 0] [.ro (ns.map U.int)]=some (.bl true,L'):=by
 have h20:(2:Nat) ^ 20<=1048576:=by decide
 obtain ⟨d,L1,e1,D1,_⟩:=Adh ns [.ro (ns.map U.int)] 0 rfl hl h20 (fun c hc=>Aj1 (hb c hc))
 have s1:=Ds (i:=1) (S6 (i:=0) (δ:=[some (.ref 0),none,none,none,none]) rfl e1)
 simp only[aZ,bA] at s1
 obtain ⟨δ2,K2,e2,P⟩:=P7 (us:=Bf 0 4) (L0:=L1) (L:=L1) (δ:=[some (.ref 0),some (.ref d),none,none,none]) (body:=Qg) (g:=gN 2) (fi:=Dc (Ac (fC (.int 4)) Af))
  (fun k δ' L'=>(∃ y2 y3 y4,δ'=[some (.ref 0),some (.ref d),y2,y3,y4])/\Gdk L' d (1001 * k)/\k<=4)
  (Ic (n:=4) rfl (by omega)) ⟨⟨_,_,_,rfl⟩,by simpa using D1,by omega⟩
  (fun k u δ M hu ⟨⟨y2,y3,y4,hδ⟩,D,_⟩=>by
   subst hδ
   obtain ⟨hk,rfl⟩:=Ie hu
   obtain ⟨z3,z4,M',e,D'⟩:=Ak6 D (by omega) (some (.ref 0)) (some (.int (0+(k:Int)))) y3 y4
   refine ⟨[some (.ref 0),some (.ref d),some (.int (0+(k:Int))),y3,y4],M,rfl,_,M',.inl e,⟨_,_,_,rfl⟩,?_,by omega⟩
   have:(1001:Int) * ((k+1:Nat):Int)=1001 * (k:Int)+1001:=by omega
   rw[this];exact D')
 obtain ⟨⟨y2,y3,y4,hδ⟩,_⟩:=P
 rw[hδ] at e2
 refine ⟨K2,?_⟩
 unfold Xe fnU Aki
 simp only[aM,aY,if_true,aW,bW,bN,dC,dL]
 rw[Ak s1,Ak e2]
 rfl
noncomputable def top(i:Nat):Stmt:=PySem.Challenge.pw_belowpoints_k25_longest_chains.main.body.getD i (.Pass ⟨0,0,0,0⟩)
noncomputable abbrev Hs:Stmt:=top 18
theorem Xq:FnScope ["one","other"] ["one","other"] (Al Hs):=⟨rfl,rfl,rfl,by decide +kernel,rfl,by decide +kernel,by decide +kernel⟩
noncomputable abbrev Dm:Stmt:=top 20
theorem D0:FnScope ["points","left","found","first"] ["points"] (Al Dm):=⟨rfl,rfl,rfl,by decide +kernel,rfl,by decide +kernel,by decide +kernel⟩
noncomputable abbrev Fw:Stmt:=top 23
theorem Bo:FnScope ["points","lengths","ways","order","k","ahead","length","many","first","above","some","size","chain"] ["points"] (Al Fw):=⟨rfl,rfl,rfl,by decide +kernel,rfl,by decide +kernel,by decide +kernel⟩
noncomputable abbrev Dk:Stmt:=top 19
theorem D8:FnScope ["points","found","waiting","chain","k"] ["points"] (Al Dk):=⟨rfl,rfl,rfl,by decide +kernel,rfl,by decide +kernel,by decide +kernel⟩
noncomputable abbrev Es:Stmt:=top 22
theorem Hc:FnScope ["points","chains","length","longest"] ["points"] (Al Es):=⟨rfl,rfl,rfl,by decide +kernel,rfl,by decide +kernel,by decide +kernel⟩
noncomputable abbrev Jd:Stmt:=top 13
theorem Hw:FnScope ["script","great","mixed","cell"] ["script"] (Al Jd):=⟨rfl,rfl,rfl,by decide +kernel,rfl,by decide +kernel,by decide +kernel⟩
noncomputable abbrev Jn:Stmt:=top 14
theorem Jj:FnScope ["deck","most","found","turn","one"] ["deck","most"] (Al Jn):=⟨rfl,rfl,rfl,by decide +kernel,rfl,by decide +kernel,by decide +kernel⟩
noncomputable abbrev Ht:Stmt:=top 15
theorem C9:FnScope ["deck","many","letters","spare","begin","near","place","alike","k","sign"] ["deck","many"] (Al Ht):=⟨rfl,rfl,rfl,by decide +kernel,rfl,by decide +kernel,by decide +kernel⟩
noncomputable abbrev G4:Stmt:=top 16
theorem Pb:FnScope ["deck","kind","far"] ["deck","kind"] (Al G4):=⟨rfl,rfl,rfl,by decide +kernel,rfl,by decide +kernel,by decide +kernel⟩
noncomputable abbrev G7:Stmt:=top 17
theorem B6:FnScope ["deck","most","kind","way","found","name","x","y"] ["deck","most"] (Al G7):=⟨rfl,rfl,rfl,by decide +kernel,rfl,by decide +kernel,by decide +kernel⟩
noncomputable abbrev Jm:Stmt:=top 21
theorem Ad7:FnScope ["found","due"] ["found","due"] (Al Jm):=⟨rfl,rfl,rfl,by decide +kernel,rfl,by decide +kernel,by decide +kernel⟩
noncomputable abbrev Jg:Stmt:=top 11
theorem Acw:FnScope ["numbers","turns"] ["numbers","turns"] (Al Jg):=⟨rfl,rfl,rfl,by decide +kernel,rfl,by decide +kernel,by decide +kernel⟩
noncomputable abbrev E4:Stmt:=top 1
theorem Tj:FnScope ["one","other"] ["one","other"] (Al E4):=⟨rfl,rfl,rfl,by decide +kernel,rfl,by decide +kernel,by decide +kernel⟩
noncomputable abbrev Ha:Stmt:=top 2
theorem Wz:FnScope ["point"] ["point"] (Al Ha):=⟨rfl,rfl,rfl,by decide +kernel,rfl,by decide +kernel,by decide +kernel⟩
noncomputable abbrev Ea:Stmt:=top 10
theorem Kv:FnScope ["points","point","place"] ["points","point"] (Al Ea):=⟨rfl,rfl,rfl,by decide +kernel,rfl,by decide +kernel,by decide +kernel⟩
noncomputable abbrev Ck:Stmt:=top 6
theorem C0:FnScope ["points","above","begun","told"] ["points"] (Al Ck):=⟨rfl,rfl,rfl,by decide +kernel,rfl,by decide +kernel,by decide +kernel⟩
noncomputable abbrev Cm:Stmt:=top 8
theorem Nt:FnScope ["chains"] ["chains"] (Al Cm):=⟨rfl,rfl,rfl,by decide +kernel,rfl,by decide +kernel,by decide +kernel⟩
noncomputable abbrev Bn:Stmt:=top 9
theorem Ih:FnScope ["points"] ["points"] (Al Bn):=⟨rfl,rfl,rfl,by decide +kernel,rfl,by decide +kernel,by decide +kernel⟩
noncomputable abbrev Cp:Stmt:=top 7
theorem C2:FnScope ["points","weights","begun","turn","following","rest"] ["points","weights"] (Al Cp):=⟨rfl,rfl,rfl,by decide +kernel,rfl,by decide +kernel,by decide +kernel⟩
noncomputable abbrev Co:Stmt:=top 5
theorem Iq:FnScope ["points","weights","heaviest"] ["points","weights"] (Al Co):=⟨rfl,rfl,rfl,by decide +kernel,rfl,by decide +kernel,by decide +kernel⟩
noncomputable abbrev Cj:Stmt:=top 4
theorem Ek:FnScope ["points","ones","point","heaviest"] ["points"] (Al Cj):=⟨rfl,rfl,rfl,by decide +kernel,rfl,by decide +kernel,by decide +kernel⟩
noncomputable abbrev Nd:Stmt:=top 24
theorem Ou:FnScope ["script","deck","turn","points","due"] ["script"] (Al Nd):=⟨rfl,rfl,rfl,by decide +kernel,rfl,by decide +kernel,by decide +kernel⟩
set_option genInjectivity false
set_option genSizeOf false
set_option genSizeOfSpec false
structure Defs(K:aJ)(mg:Str->Option aG) where
 ua:Addr
 uc:cU
 ud:Fun K "_law_below" "_law_below" Hs ua uc
 ue:Binds K uc ["one","other"] []
 uf:mg "_law_below" = some (.ref ua)
 ug:Addr
 uh:cU
 ui:Fun K "_law_from_below" "_law_from_below" Dm ug uh
 uj:Binds K uh ["points"] []
 uk:mg "_law_from_below" = some (.ref ug)
 ul:Addr
 um:cU
 uo:Fun K "_law_by_ends" "_law_by_ends" Fw ul um
 uq:Binds K um ["points"] []
 ur:mg "_law_by_ends" = some (.ref ul)
 ut:Addr
 uu:cU
 uv:Fun K "_law_all_chains" "_law_all_chains" Dk ut uu
 uw:Binds K uu ["points"] []
 ux:mg "_law_all_chains" = some (.ref ut)
 uy:Addr
 uz:cU
 uA:Fun K "_law_by_trial" "_law_by_trial" Es uy uz
 uB:Binds K uz ["points"] []
 uC:mg "_law_by_trial" = some (.ref uy)
 uD:Addr
 uE:cU
 uF:Fun K "_law_deck" "_law_deck" Jd uD uE
 uG:Binds K uE ["script"] []
 uH:mg "_law_deck" = some (.ref uD)
 uI:Addr
 uJ:cU
 uK:Fun K "_law_draw" "_law_draw" Jn uI uJ
 uL:Binds K uJ ["deck","most"] []
 uM:mg "_law_draw" = some (.ref uI)
 uN:Addr
 uO:cU
 uP:Fun K "_law_names" "_law_names" Ht uN uO
 uQ:Binds K uO ["deck","many"] []
 uR:mg "_law_names" = some (.ref uN)
 uS:Addr
 uT:cU
 uU:Fun K "_law_number" "_law_number" G4 uS uT
 uV:Binds K uT ["deck","kind"] []
 uW:mg "_law_number" = some (.ref uS)
 uX:Addr
 uY:cU
 uZ:Fun K "_law_points" "_law_points" G7 uX uY
 u4:Binds K uY ["deck","most"] []
 u5:mg "_law_points" = some (.ref uX)
 u6:Addr
 u7:cU
 u8:Fun K "_law_same" "_law_same" Jm u6 u7
 u9:Binds K u7 ["found","due"] []
 ve:mg "_law_same" = some (.ref u6)
 vf:Addr
 vg:cU
 vh:Fun K "sum_at" "sum_at" Jg vf vg
 vi:Binds K vg ["numbers","turns"] []
 vj:mg "sum_at" = some (.ref vf)
 vk:Addr
 vm:cU
 vn:Fun K "lies_below" "lies_below" E4 vk vm
 vo:Binds K vm ["one","other"] []
 vp:mg "lies_below" = some (.ref vk)
 vq:Addr
 vt:cU
 vv:Fun K "place_of" "place_of" Ha vq vt
 vw:Binds K vt ["point"] []
 vx:mg "place_of" = some (.ref vq)
 vy:Addr
 vz:cU
 vA:Fun K "turns_above" "turns_above" Ea vy vz
 vB:Binds K vz ["points","point"] []
 vC:mg "turns_above" = some (.ref vy)
 vD:Addr
 vE:cU
 vF:Fun K "chains_of_each" "chains_of_each" Ck vD vE
 vG:Binds K vE ["points"] []
 vH:mg "chains_of_each" = some (.ref vD)
 vI:Addr
 vJ:cU
 vK:Fun K "first_heaviest" "first_heaviest" Cm vI vJ
 vL:Binds K vJ ["chains"] []
 vM:mg "first_heaviest" = some (.ref vI)
 vN:Addr
 vO:cU
 vP:Fun K "turns_from_the_highest" "turns_from_the_highest" Bn vN vO
 vQ:Binds K vO ["points"] []
 vR:mg "turns_from_the_highest" = some (.ref vN)
 vS:Addr
 vT:cU
 vU:Fun K "heaviest_begun" "heaviest_begun" Cp vS vT
 vV:Binds K vT ["points","weights"] []
 vW:mg "heaviest_begun" = some (.ref vS)
 vX:Addr
 vY:cU
 vZ:Fun K "heaviest_chain" "heaviest_chain" Co vX vY
 v5:Binds K vY ["points","weights"] []
 v7:mg "heaviest_chain" = some (.ref vX)
 v8:Addr
 v9:cU
 wa:Fun K "longest_chains" "longest_chains" Cj v8 v9
 wb:Binds K v9 ["points"] []
 wd:mg "longest_chains" = some (.ref v8)
 we:Addr
 wf:cU
 wg:Fun K "law" "law" Nd we wf
 wj:Binds K wf ["script"] []
 wl:mg "law" = some (.ref we)
 wm:∃ c P,cZ K "first_heaviest" = some (c,P)/\vJ.code = .ref c
 wn:∃ c P,cZ K "turns_from_the_highest" = some (c,P)/\vO.code = .ref c
 wo:mg "abs" = none
 wu:mg "all" = none
 wv:mg "any" = none
 ww:mg "bool" = none
 wx:mg "enumerate" = none
 wy:mg "int" = none
 wz:mg "isinstance" = none
 wA:mg "len" = none
 wB:mg "list" = none
 wC:mg "max" = none
 wD:mg "min" = none
 wE:mg "range" = none
 wF:mg "sorted" = none
 wG:mg "str" = none
 wH:mg "sum" = none
 wI:mg "tuple" = none
 wJ:mg "zip" = none
section
variable {P:cX}{w:eG}{K:aJ}{mg:Str->Option aG}{base:Heap}
theorem Ki(C:Defs K mg)(LB:LamB K mg base):FnOk P w K mg base CX0 1 C.ua C.uc ["one","other"] (spF K 2 Ey):=by
 refine Fun.okF (N:=["one","other"]) C.ud Xq (fun cdv A outer s H E hr=>?_)
 have hu:=hr.units
 refine Ah ?s0 ?t0
 case s0=>exact (Ee (B4 (Fo hu) Fp (Ig Rf Om (Ag 0) (Fx Ai) Hy) (Ig Rf Om (Ag 1) (Fx Ai) Hy) (Bu _)) (Au (Bh Xk)) C6)
 exact (Au (Bh (Rk (Ja Ael Yg (Bj A7 A8 (Ag 0) Ai (fun _ _=>rfl)) (Bj A7 A8 (Ag 1) Ai (fun _ _=>rfl)) (Bu _)) (Uu (Ja Ael Yg (Bj A7 A8 (Ag 0) Ai (fun _ _=>rfl)) (Bj A7 A8 (Ag 1) Ai (fun _ _=>rfl)) (Bu _))))))
theorem Py(C:Defs K mg)(LB:LamB K mg base):FnOk P w K mg base CX0 2 C.ug C.uh ["points"] (spF K 1 Gs):=by
 refine Fun.okF (N:=["points","left","found","first"]) C.ui D0 (fun cdv A outer s H E hr=>?_)
 have hu:=hr.units
 refine Ah ?s0 ?t0
 case s0=>exact (Ar (i:=1) (by exact D0.nd) (Afo rfl (by rfl) C.wB (by rfl) C.wE (Aa (Bb B1 Cc (by rfl) C.wA cS (Aa (Ag 0) Ae)) Ae)))
 refine Ah ?s1 ?t1
 case s1=>exact (Ar (i:=2) (by exact D0.nd) (Ct Ae))
 refine Ah ?s2 ?t2
 case s2=>exact (Ow 100000 eF (B4 (Li hu) Lx (Ag 1) (Ct Ae) (Bu _)) (Ah (Ar (i:=3) (by exact D0.nd) (Acs (N':=["k","left","points"]) (ix:=[none,some 1,some 0]) ⟨rfl,rfl,rfl,rfl,rfl⟩ rfl (B3 (Ag 1)) (fun _ _ _ _ _ _=>(Av (i:=0) (show cT (α:=Str) ["k","left","points"] by decide +kernel))) (fun _ _ _ _ _ _=>(B4 (Fo hu) Fp (He (N':=["j","points","k"]) (ix:=[none,some 2,some 0]) ⟨rfl,rfl,rfl,rfl,rfl,rfl⟩ rfl (B3 (Ag 1)) (fun _ _ _ _ _ _=>(Av (i:=0) (show cT (α:=Str) ["j","points","k"] by decide +kernel))) (fun _ _ _ _ _ _=>(Eu (Ay (Ki C LB) (hr.mono (by decide)) (by rfl) C.uf C.ud.kp C.ue (Aa (Bj A7 A8 (Ag 1) (Ag 0) (fun _ _=>rfl)) (Aa (Bj A7 A8 (Ag 1) (Ag 2) (fun _ _=>rfl)) Ae))))) (fun _ _ _ _ _ _=>(Ag 0))) (Ct Ae) (Bu _))) (fun _ _ _ _ _ _=>(Ag 0)))) (Ah (Jr (Pf eC PySem.F.slot_list_extend PySem.F.type_list_extend Acz Yd (Ag 2) (Aa (Ag 3) Ae))) (Au (Ar (i:=1) (by exact D0.nd) (He (N':=["k","first"]) (ix:=[none,some 3]) ⟨rfl,rfl,rfl,rfl,rfl,rfl⟩ rfl (B3 (Ag 1)) (fun _ _ _ _ _ _=>(Av (i:=0) (show cT (α:=Str) ["k","first"] by decide +kernel))) (fun _ _ _ _ _ _=>(B4 Ac5 (Aln true) (Ag 0) (Ag 1) (by with_unfolding_all rfl))) (fun _ _ _ _ _ _=>(Ag 0))))))))
 exact (Au (Bh (Ag 2)))
theorem Vm(C:Defs K mg)(LB:LamB K mg base):FnOk P w K mg base CX0 3 C.ul C.um ["points"] (spF K 1 Hf):=by
 refine Fun.okF (N:=["points","lengths","ways","order","k","ahead","length","many","first","above","some","size","chain"]) C.uo Bo (fun cdv A outer s H E hr=>?_)
 have hu:=hr.units
 refine Ah ?s0 ?t0
 case s0=>exact (Ar (i:=1) (by exact Bo.nd) N5)
 refine Ah ?s1 ?t1
 case s1=>exact (Ar (i:=2) (by exact Bo.nd) N5)
 refine Ah ?s2 ?t2
 case s2=>exact (Ar (i:=3) (by exact Bo.nd) (Ay (Py C LB) (hr.mono (by decide)) (by rfl) C.uk C.ui.kp C.uj (Aa (Ag 0) Ae)))
 refine Ah ?s3 ?t3
 case s3=>exact (Hr eF rfl (B3 (Ag 3)) (Av (i:=4) (by exact Bo.nd)) (Ah (Oh (i:=5) (N':=["j","points","k"]) (ix:=[none,some 0,some 4]) (by exact Bo.nd) ⟨rfl,rfl,rfl,rfl,rfl,rfl⟩ rfl (Em (by rfl) C.wE (Aa (Bb B1 Cc (by rfl) C.wA cS (Aa (Ag 0) Ae)) Ae)) (fun _ _ _ _ _ _=>(Av (i:=0) (show cT (α:=Str) ["j","points","k"] by decide +kernel))) (fun _ _ _ _ _ _=>(Eu (Ay (Ki C LB) (hr.mono (by decide)) (by rfl) C.uf C.ud.kp C.ue (Aa (Bj A7 A8 (Ag 1) (Ag 0) (fun _ _=>rfl)) (Aa (Bj A7 A8 (Ag 1) (Ag 2) (fun _ _=>rfl)) Ae))))) (fun _ _ _ _ _ _=>(Ag 0))) (Ah (Lp hu (Ag 1) (Ag 4) (Bd Bx Bw Ai (Bb (Ma rfl) Qh (by rfl) C.wC gT (Aa (Bd Bx Bw (Ct (Aa Ai Ae)) (Ge (N':=["j","lengths"]) (ix:=[none,some 1]) ⟨rfl,rfl,rfl,rfl,rfl,rfl⟩ rfl (B3 (Ag 5)) (fun _ _ _ _ _ _=>(Av (i:=0) (show cT (α:=Str) ["j","lengths"] by decide +kernel))) (fun _ _ _ _ _ _=>(Gh hu (Ag 1) (Ag 0) (fun _ _=>rfl))))) Ae)))) (Au (Lp hu (Ag 2) (Ag 4) (Bb (Ma rfl) Qh (by rfl) C.wC gT (Aa Ai (Aa (Bb (Me rfl) Qc (by rfl) C.wH iV (Aa (He (N':=["j","ways","lengths","k"]) (ix:=[none,some 2,some 1,some 4]) ⟨rfl,rfl,rfl,rfl,rfl,rfl⟩ rfl (B3 (Ag 5)) (fun _ _ _ _ _ _=>(Av (i:=0) (show cT (α:=Str) ["j","ways","lengths","k"] by decide +kernel))) (fun _ _ _ _ _ _=>(B4 (Fo hu) Fp (Gh hu (Ag 2) (Ag 0) (fun _ _=>rfl)) (Bd Xu Va (Gh hu (Ag 2) (Ag 3) (fun _ _=>rfl)) Ai) (Bu _))) (fun _ _ _ _ _ _=>(Gh hu (Ag 1) (Ag 0) (fun _ _=>rfl)))) Ae)) Ae))))))))
 refine Ah ?s4 ?t4
 case s4=>exact (Ar (i:=6) (by exact Bo.nd) (Ah5 rfl (by rfl) C.wC (Ag 1) ⟨rfl,rfl,rfl,rfl⟩))
 refine Ah ?s5 ?t5
 case s5=>exact (Ar (i:=7) (by exact Bo.nd) (Bb (Me rfl) Qc (by rfl) C.wH iV (Aa (Ab4 (He (N':=["k","ways","lengths","length"]) (ix:=[none,some 2,some 1,some 6]) ⟨rfl,rfl,rfl,rfl,rfl,rfl⟩ rfl (Vv (Ag 1)) (fun _ _ _ _ _ _=>(Av (i:=0) (show cT (α:=Str) ["k","ways","lengths","length"] by decide +kernel))) (fun _ _ _ _ _ _=>(B4 (Fo hu) Fp (Gh hu (Ag 2) (Ag 0) (fun _ _=>rfl)) (Ag 3) (Bu _))) (fun _ _ _ _ _ _=>(Gh hu (Ag 1) (Ag 0) (fun _ _=>rfl))))) Ae)))
 refine Ah ?s6 ?t6
 case s6=>exact (Ar (i:=8) (by exact Bo.nd) N5)
 refine Ah ?s7 ?t7
 case s7=>exact (Hr eF rfl (B3 (Am4 (Ag 3))) (Av (i:=4) (by exact Bo.nd)) (Ah (Oh (i:=9) (N':=["j","points","k"]) (ix:=[none,some 0,some 4]) (by exact Bo.nd) ⟨rfl,rfl,rfl,rfl,rfl,rfl⟩ rfl (Em (by rfl) C.wE (Aa (Bb B1 Cc (by rfl) C.wA cS (Aa (Ag 0) Ae)) Ae)) (fun _ _ _ _ _ _=>(Av (i:=0) (show cT (α:=Str) ["j","points","k"] by decide +kernel))) (fun _ _ _ _ _ _=>(Eu (Ay (Ki C LB) (hr.mono (by decide)) (by rfl) C.uf C.ud.kp C.ue (Aa (Bj A7 A8 (Ag 1) (Ag 2) (fun _ _=>rfl)) (Aa (Bj A7 A8 (Ag 1) (Ag 0) (fun _ _=>rfl)) Ae))))) (fun _ _ _ _ _ _=>(Ag 0))) (Ah (Od (i:=10) (N':=["j","first"]) (ix:=[none,some 8]) (by exact Bo.nd) ⟨rfl,rfl,rfl,rfl,rfl,rfl⟩ rfl (B3 (Ag 9)) (fun _ _ _ _ _ _=>(Av (i:=0) (show cT (α:=Str) ["j","first"] by decide +kernel))) (fun _ _ _ _ _ _=>(Gh hu (Ag 1) (Ag 0) (fun _ _=>rfl)))) (Ah (Ar (i:=11) (by exact Bo.nd) (Bb (Ma rfl) Qh (by rfl) C.wC gT (Aa (Bd Bx Bw (Ct (Aa Ai Ae)) (Ge (N':=["chain"]) (ix:=[none]) ⟨rfl,rfl,rfl,rfl,rfl,rfl⟩ rfl (B3 (Ag 10)) (fun _ _ _ _ _ _=>(Av (i:=0) (show cT (α:=Str) ["chain"] by decide +kernel))) (fun _ _ _ _ _ _=>(Bb B1 Cc (by rfl) C.wA cS (Aa (Ag 0) Ae))))) Ae))) (Au (Lp hu (Ag 8) (Ag 4) (Bd Bx Bw (Cu (Aa (Ag 4) Ae)) (U9 rfl hu (by rfl) C.wD (Bd Bx Bw (He (N':=["chain","size"]) (ix:=[none,some 11]) ⟨rfl,rfl,rfl,rfl,rfl,rfl⟩ rfl (B3 (Ag 10)) (fun _ _ _ _ _ _=>(Av (i:=0) (show cT (α:=Str) ["chain","size"] by decide +kernel))) (fun _ _ _ _ _ _=>(B4 (Fo hu) Fp (Bb B1 Cc (by rfl) C.wA cS (Aa (Ag 0) Ae)) (Ag 1) (Bu _))) (fun _ _ _ _ _ _=>(Ag 0))) (Bd Dw Du (Ct (Aa (Cu Ae) Ae)) (Hb Uc Abq (by rfl) C.wy (by decide +kernel) (Aa (Ja (Fo hu) Fp (Ag 11) Ai (Bu _)) Ae))))))))))))
 refine Ah ?s8 ?t8
 case s8=>exact (Ar (i:=12) (by exact Bo.nd) (U9 rfl hu (by rfl) C.wD (Ab4 (He (N':=["k","first","length"]) (ix:=[none,some 8,some 6]) ⟨rfl,rfl,rfl,rfl,rfl,rfl⟩ rfl (Vv (Ag 8)) (fun _ _ _ _ _ _=>(Av (i:=0) (show cT (α:=Str) ["k","first","length"] by decide +kernel))) (fun _ _ _ _ _ _=>(B4 (Fo hu) Fp (Bb B1 Cc (by rfl) C.wA cS (Aa (Gh hu (Ag 1) (Ag 0) (fun _ _=>rfl)) Ae)) (Ag 2) (Bu _))) (fun _ _ _ _ _ _=>(Gh hu (Ag 1) (Ag 0) (fun _ _=>rfl)))))))
 exact (Au (Bh (Cu (Aa (Ag 6) (Aa (Ag 7) (Aa (Hb Fe Je (by rfl) C.wI (by decide +kernel) (Aa (Ge (N':=["k","points"]) (ix:=[none,some 0]) ⟨rfl,rfl,rfl,rfl,rfl,rfl⟩ rfl (B3 (Ag 12)) (fun _ _ _ _ _ _=>(Av (i:=0) (show cT (α:=Str) ["k","points"] by decide +kernel))) (fun _ _ _ _ _ _=>(Bj A7 A8 (Bj A7 A8 (Ag 1) (Ag 0) (fun _ _=>rfl)) Ai (fun _ _=>rfl)))) Ae)) Ae))))))
theorem Pw(C:Defs K mg)(LB:LamB K mg base):FnOk P w K mg base CX0 2 C.ut C.uu ["points"] (spF K 1 Gu):=by
 refine Fun.okF (N:=["points","found","waiting","chain","k"]) C.uv D8 (fun cdv A outer s H E hr=>?_)
 have hu:=hr.units
 refine Ah ?s0 ?t0
 case s0=>exact (Ar (i:=1) (by exact D8.nd) (Ct Ae))
 refine Ah ?s1 ?t1
 case s1=>exact (Od (i:=2) (N':=["k"]) (ix:=[none]) (by exact D8.nd) ⟨rfl,rfl,rfl,rfl,rfl,rfl⟩ rfl (Em (by rfl) C.wE (Aa (Bb B1 Cc (by rfl) C.wA cS (Aa (Ag 0) Ae)) Ae)) (fun _ _ _ _ _ _=>(Av (i:=0) (show cT (α:=Str) ["k"] by decide +kernel))) (fun _ _ _ _ _ _=>(Cu (Aa (Ag 0) Ae))))
 refine Ah ?s2 ?t2
 case s2=>exact (Ow 100000 eF (B4 (Li hu) Lx (Ag 2) (Ct Ae) (Bu _)) (Ah (Ar (i:=3) (by exact D8.nd) (Am3 eC jQ oP Aly Ahe (Ag 2))) (Ah (Jr (Pf eC fO fP Jo Hz (Ag 1) (Aa (Ag 3) Ae))) (Au (Hr eF rfl (Em (by rfl) C.wE (Aa (Bb B1 Cc (by rfl) C.wA cS (Aa (Ag 0) Ae)) Ae)) (Av (i:=4) (by exact D8.nd)) (Au (Ee (Eu (Ay (Ki C LB) (hr.mono (by decide)) (by rfl) C.uf C.ud.kp C.ue (Aa (Bj A7 A8 (Ag 0) (Bj A7 A8 (Ag 3) (Oj Ai) (fun _ _=>rfl)) (fun _ _=>rfl)) (Aa (Bj A7 A8 (Ag 0) (Ag 4) (fun _ _=>rfl)) Ae)))) (Au (Jr (Pf eC fO fP Jo Hz (Ag 2) (Aa (Bd Bx Bw (Ag 3) (Cu (Aa (Ag 4) Ae))) Ae)))) C6)))))))
 exact (Au (Bh (Ag 1)))
theorem S0(C:Defs K mg)(LB:LamB K mg base):FnOk P w K mg base CX0 3 C.uy C.uz ["points"] (spF K 1 Gm):=by
 refine Fun.okF (N:=["points","chains","length","longest"]) C.uA Hc (fun cdv A outer s H E hr=>?_)
 have hu:=hr.units
 refine Ah ?s0 ?t0
 case s0=>exact (Ar (i:=1) (by exact Hc.nd) (Ay (Pw C LB) (hr.mono (by decide)) (by rfl) C.ux C.uv.kp C.uw (Aa (Ag 0) Ae)))
 refine Ah ?s1 ?t1
 case s1=>exact (Ar (i:=2) (by exact Hc.nd) (Bb (Ma rfl) Qh (by rfl) C.wC gT (Aa (Ge (N':=["chain"]) (ix:=[none]) ⟨rfl,rfl,rfl,rfl,rfl,rfl⟩ rfl (B3 (Ag 1)) (fun _ _ _ _ _ _=>(Av (i:=0) (show cT (α:=Str) ["chain"] by decide +kernel))) (fun _ _ _ _ _ _=>(Bb B1 Cc (by rfl) C.wA cS (Aa (Ag 0) Ae)))) Ae)))
 refine Ah ?s2 ?t2
 case s2=>exact (Oh (i:=3) (N':=["chain","length"]) (ix:=[none,some 2]) (by exact Hc.nd) ⟨rfl,rfl,rfl,rfl,rfl,rfl⟩ rfl (B3 (Ag 1)) (fun _ _ _ _ _ _=>(Av (i:=0) (show cT (α:=Str) ["chain","length"] by decide +kernel))) (fun _ _ _ _ _ _=>(B4 (Fo hu) Fp (Bb B1 Cc (by rfl) C.wA cS (Aa (Ag 0) Ae)) (Ag 1) (Bu _))) (fun _ _ _ _ _ _=>(Ag 0)))
 exact (Au (Bh (Cu (Aa (Ag 2) (Aa (Bb B1 Cc (by rfl) C.wA cS (Aa (Ag 3) Ae)) (Aa (Hb Fe Je (by rfl) C.wI (by decide +kernel) (Aa (Ge (N':=["k","points"]) (ix:=[none,some 0]) ⟨rfl,rfl,rfl,rfl,rfl,rfl⟩ rfl (B3 (U9 rfl hu (by rfl) C.wD (Ag 3))) (fun _ _ _ _ _ _=>(Av (i:=0) (show cT (α:=Str) ["k","points"] by decide +kernel))) (fun _ _ _ _ _ _=>(Bj A7 A8 (Bj A7 A8 (Ag 1) (Ag 0) (fun _ _=>rfl)) Ai (fun _ _=>rfl)))) Ae)) Ae))))))
theorem Adw(C:Defs K mg)(LB:LamB K mg base):FnOk P w K mg base CX0 1 C.uD C.uE ["script"] (spF K 1 Np):=by
 refine Fun.okF (N:=["script","great","mixed","cell"]) C.uF Hw (fun cdv A outer s H E hr=>?_)
 have hu:=hr.units
 refine Ah ?s0 ?t0
 case s0=>exact (Ar (i:=1) (by exact Hw.nd) Ai)
 refine Ah ?s1 ?t1
 case s1=>exact (Ar (i:=2) (by exact Hw.nd) (Bd Bx Bw (Bd Dw Du Ai (Bb B1 Cc (by rfl) C.wA cS (Aa (Ag 0) Ae))) Ai))
 refine Ah ?s2 ?t2
 case s2=>exact (Hr eF rfl (B3 (Ig Rf Om (Ag 0) Hy (Fx Ai))) (Av (i:=3) (by exact Hw.nd)) (Au (Ee (B4 Aoy Alo (Bb Ra U7 (by rfl) C.wo (by decide +kernel) (Aa (Ag 3) Ae)) (Bd Sj Ob Ai Ai) (Bu _)) (Au (Ar (i:=1) (by exact Hw.nd) (Bd Bx Bw (Bd Ai5 Aew (Ag 1) Ai) (Bb Ra U7 (by rfl) C.wo (by decide +kernel) (Aa (Ag 3) Ae))))) (Au (Ar (i:=2) (by exact Hw.nd) (Bd K8 Il (Bd Bx Bw (Bd Dw Du (Ag 2) Ai) (Ag 3)) Ai))))))
 exact (Au (Bh (Ct (Aa (Ag 1) (Aa (Ag 2) (Aa Ai Ae))))))
theorem Bs(C:Defs K mg)(LB:LamB K mg base):FnOk P w K mg base CX0 1 C.uI C.uJ ["deck","most"] (spF K 2 Ax):=by
 refine Fun.okF (N:=["deck","most","found","turn","one"]) C.uK Jj (fun cdv A outer s H E hr=>?_)
 have hu:=hr.units
 refine Ah ?s0 ?t0
 case s0=>exact (Vj (Bd Bx Bw (Bj A7 A8 (Ag 0) Ai (fun _ _=>rfl)) Ai) (Aak (Ag 0) Ai))
 refine Ah ?s1 ?t1
 case s1=>exact (Ee (B4 Aoo Alq (Bj A7 A8 (Ag 0) Ai (fun _ _=>rfl)) Ai (Bu _)) (Ah (Ar (i:=2) (by exact Jj.nd) (Bd K8 Il (Bj A7 A8 (Ag 0) Ai (fun _ _=>rfl)) (Ag 1))) (Ah (Vj (Bd Ni P4 (Bj A7 A8 (Ag 0) Ai (fun _ _=>rfl)) (Ag 1)) (Aak (Ag 0) Ai)) (Au (Bh (Ag 2))))) C6)
 refine Ah ?s2 ?t2
 case s2=>exact (Ar (i:=3) (by exact Jj.nd) (Bj A7 A8 (Ag 0) Ai (fun _ _=>rfl)))
 refine Ah ?s3 ?t3
 case s3=>exact (Ar (i:=4) (by exact Jj.nd) (Bd K8 Il (Bd Bx Bw (Bd Bx Bw (Bj A7 A8 (Ag 0) Ai (fun _ _=>rfl)) (Bd Dw Du (Bd Dw Du Ai (Ag 3)) (Ag 3))) (Bd Dw Du Ai (Ag 3))) Ai))
 refine Ah ?s4 ?t4
 case s4=>exact (Ar (i:=4) (by exact Jj.nd) (Bd K8 Il (Bd Dw Du (Ag 4) (Ag 4)) Ai))
 exact (Au (Bh (Bd K8 Il (Bd Ni P4 (Bd K8 Il (Bd Bx Bw (Bd Dw Du (Ag 4) Ai) (Bd Dw Du (Ag 3) Ai)) Ai) Ai) (Ag 1))))
theorem Xz(C:Defs K mg)(LB:LamB K mg base):FnOk P w K mg base CX0 2 C.uN C.uO ["deck","many"] (spF K 2 Hu):=by
 refine Fun.okF (N:=["deck","many","letters","spare","begin","near","place","alike","k","sign"]) C.uP C9 (fun cdv A outer s H E hr=>?_)
 have hu:=hr.units
 refine Ah ?s0 ?t0
 case s0=>exact (Ar (i:=2) (by exact C9.nd) E8)
 refine Ah ?s1 ?t1
 case s1=>
  refine Ar (i:=3) (hi:=?h1_1) (hx:=?h2_1) (hf:=?h3_1) (hs:=?h4_1) ?h5_1 ?h6_1
  case h1_1=>rfl
  case h2_1=>first | exact rC rfl | exact pS rfl
  case h3_1=>first | exact .inl rfl | exact .inr rfl
  case h4_1=>rfl
  case h5_1=>exact (by exact C9.nd)
  case h6_1=>
   refine Ct ?g
   refine Aa (hs:=?q0) ?e0 ?r0
   case q0=>rfl
   case e0=>exact E8
   refine Aa (hs:=?q1) ?e1 ?r1
   case q1=>rfl
   case e1=>exact E8
   refine Aa (hs:=?q2) ?e2 ?r2
   case q2=>rfl
   case e2=>exact E8
   refine Aa (hs:=?q3) ?e3 ?r3
   case q3=>rfl
   case e3=>exact E8
   refine Aa (hs:=?q4) ?e4 ?r4
   case q4=>rfl
   case e4=>exact E8
   refine Aa (hs:=?q5) ?e5 ?r5
   case q5=>rfl
   case e5=>exact E8
   refine Aa (hs:=?q6) ?e6 ?r6
   case q6=>rfl
   case e6=>exact E8
   refine Aa (hs:=?q7) ?e7 ?r7
   case q7=>rfl
   case e7=>exact E8
   refine Aa (hs:=?q8) ?e8 ?r8
   case q8=>rfl
   case e8=>exact E8
   refine Aa (hs:=?q9) ?e9 ?r9
   case q9=>rfl
   case e9=>exact E8
   refine Aa (hs:=?q10) ?e10 ?r10
   case q10=>rfl
   case e10=>exact E8
   refine Aa (hs:=?q11) ?e11 ?r11
   case q11=>rfl
   case e11=>exact E8
   exact Ae
 refine Ah ?s2 ?t2
 case s2=>exact (Ar (i:=4) (by exact C9.nd) (Ay (Bs C LB) (hr.mono (by decide)) (by rfl) C.uM C.uK.kp C.uL (Aa (Ag 0) (Aa Ai Ae))))
 refine Ah ?s3 ?t3
 case s3=>exact (Ar (i:=5) (by exact C9.nd) (Pf PySem.F.plainAttrs_str PySem.F.slot_str_join PySem.F.type_str_join Ah2 Afj E8 (Aa (Ge (N':=["k","letters","deck"]) (ix:=[none,some 2,some 0]) ⟨rfl,rfl,rfl,rfl,rfl,rfl⟩ rfl (Em (by rfl) C.wE (Aa Ai Ae)) (fun _ _ _ _ _ _=>(Av (i:=0) (show cT (α:=Str) ["k","letters","deck"] by decide +kernel))) (fun _ _ _ _ _ _=>(Bj A7 A8 (Ag 1) (Ay (Bs C LB) (hr.mono (by decide)) (by rfl) C.uM C.uK.kp C.uL (Aa (Ag 2) (Aa Ai Ae))) (fun _ _=>rfl)))) Ae)))
 refine Ah ?s4 ?t4
 case s4=>exact (Ar (i:=6) (by exact C9.nd) (Ay (Bs C LB) (hr.mono (by decide)) (by rfl) C.uM C.uK.kp C.uL (Aa (Ag 0) (Aa Ai Ae))))
 refine Ah ?s5 ?t5
 case s5=>exact (Ar (i:=7) (by exact C9.nd) (Ay (Bs C LB) (hr.mono (by decide)) (by rfl) C.uM C.uK.kp C.uL (Aa (Ag 0) (Aa Ai Ae))))
 refine Ah ?s6 ?t6
 case s6=>exact (Ar (i:=3) (by exact C9.nd) (Ig Uv Vk (Ag 3) (Fx (Bd Dw Du Ai (Ag 7))) Hy))
 refine Ah ?s7 ?t7
 case s7=>exact (Hr eF rfl (Em (by rfl) C.wE (Aa Ai Ae)) (Av (i:=8) (by exact C9.nd)) (Ah (Ar (i:=9) (by exact C9.nd) (Bj A7 A8 (Ag 2) (Bd K8 Il (Bd Bx Bw (Ag 4) (Ag 8)) Ai) (fun _ _=>rfl))) (Au (Jr (Pf eC fO fP Jo Hz (Ag 3) (Aa (Bj A7 A8 (Ct (Aa (Bd Bx Bw (Ag 9) (Bd Dw Du (Bj A7 A8 E8 (Bd Ni P4 (Ag 8) Ai) (fun _ _=>rfl)) (Bd Bx Bw Ai (Bd K8 Il (Ag 8) Ai)))) (Aa (Bd Bx Bw (Bd Bx Bw (Bd Bx Bw (Ig Uv Vk (Ag 5) Hy (Fx (Ag 6))) (Ag 9)) (Bj A7 A8 E8 (Bd Ni P4 (Ag 8) Ai) (fun _ _=>rfl))) (Ig Uv Vk (Ag 5) (Fx (Ag 6)) Hy)) Ae))) (Ag 7) (fun _ _=>rfl)) Ae))))))
 exact (Au (Bh (Ge (N':=["k","spare","deck"]) (ix:=[none,some 3,some 0]) ⟨rfl,rfl,rfl,rfl,rfl,rfl⟩ rfl (Em (by rfl) C.wE (Aa (Ag 1) Ae)) (fun _ _ _ _ _ _=>(Av (i:=0) (show cT (α:=Str) ["k","spare","deck"] by decide +kernel))) (fun _ _ _ _ _ _=>(Pf eC jQ oP Afh Ajl (Ag 1) (Aa (Ay (Bs C LB) (hr.mono (by decide)) (by rfl) C.uM C.uK.kp C.uL (Aa (Ag 2) (Aa (Bb B1 Cc (by rfl) C.wA cS (Aa (Ag 1) Ae)) Ae))) Ae))))))
theorem Pk(C:Defs K mg)(LB:LamB K mg base):FnOk P w K mg base CX0 2 C.uS C.uT ["deck","kind"] (spF K 2 Dv):=by
 refine Fun.okF (N:=["deck","kind","far"]) C.uU Pb (fun cdv A outer s H E hr=>?_)
 have hu:=hr.units
 refine Ah ?s0 ?t0
 case s0=>exact (Ee (B4 Abz Vr (Ag 1) Ai (Bu _)) (Au (Bh (Bd Xu Va (Ay (Bs C LB) (hr.mono (by decide)) (by rfl) C.uM C.uK.kp C.uL (Aa (Ag 0) (Aa (Bj A7 A8 (Ct (Aa Ai (Aa Ai Ae))) (Ag 1) (fun _ _=>rfl)) Ae))) (Bj A7 A8 (Ct (Aa Ai (Aa Ai Ae))) (Ag 1) (fun _ _=>rfl))))) C6)
 refine Ah ?s1 ?t1
 case s1=>exact (Ar (i:=2) (by exact Pb.nd) (Bd Bx Bw (Bd Dw Du (Ay (Bs C LB) (hr.mono (by decide)) (by rfl) C.uM C.uK.kp C.uL (Aa (Ag 0) (Aa (Bd Sj Ob Ai Ai) Ae))) (Bd Sj Ob Ai Ai)) (Ay (Bs C LB) (hr.mono (by decide)) (by rfl) C.uM C.uK.kp C.uL (Aa (Ag 0) (Aa (Bd Sj Ob Ai Ai) Ae)))))
 exact (Au (Bh (Bd Dw Du (Ag 2) (Bj A7 A8 (Ct (Aa Ai (Aa (Oj Ai) Ae))) (Ay (Bs C LB) (hr.mono (by decide)) (by rfl) C.uM C.uK.kp C.uL (Aa (Ag 0) (Aa Ai Ae))) (fun _ _=>rfl)))))
theorem Wg(C:Defs K mg)(LB:LamB K mg base):FnOk P w K mg base CX0 3 C.uX C.uY ["deck","most"] (spF K 2 Kj):=by
 refine Fun.okF (N:=["deck","most","kind","way","found","name","x","y"]) C.uZ B6 (fun cdv A outer s H E hr=>?_)
 have hu:=hr.units
 refine Ah ?s0 ?t0
 case s0=>exact (Ar (i:=2) (by exact B6.nd) (Ay (Bs C LB) (hr.mono (by decide)) (by rfl) C.uM C.uK.kp C.uL (Aa (Ag 0) (Aa Ai Ae))))
 refine Ah ?s1 ?t1
 case s1=>exact (Ar (i:=3) (by exact B6.nd) (Ay (Bs C LB) (hr.mono (by decide)) (by rfl) C.uM C.uK.kp C.uL (Aa (Ag 0) (Aa Ai Ae))))
 refine Ah ?s2 ?t2
 case s2=>exact (Ar (i:=4) (by exact B6.nd) (Ct Ae))
 refine Ah ?s3 ?t3
 case s3=>exact (Hr eF rfl (B3 (Ay (Xz C LB) (hr.mono (by decide)) (by rfl) C.uR C.uP.kp C.uQ (Aa (Ag 0) (Aa (Ay (Bs C LB) (hr.mono (by decide)) (by rfl) C.uM C.uK.kp C.uL (Aa (Ag 0) (Aa (Bd Bx Bw (Ag 1) Ai) Ae))) Ae)))) (Av (i:=5) (by exact B6.nd)) (Ah (Ar (i:=6) (by exact B6.nd) (Ay (Pk C LB) (hr.mono (by decide)) (by rfl) C.uW C.uU.kp C.uV (Aa (Ag 0) (Aa (Ag 2) Ae)))) (Ah (Ar (i:=7) (by exact B6.nd) (Ay (Pk C LB) (hr.mono (by decide)) (by rfl) C.uW C.uU.kp C.uV (Aa (Ag 0) (Aa (Ag 2) Ae)))) (Ah (Ee (B4 (Fo hu) Fp (Ag 3) Ai (Bu _)) (Au (Ar (i:=7) (by exact B6.nd) (Bd Bx Bw (Ag 6) (Bd Dw Du (Ay (Bs C LB) (hr.mono (by decide)) (by rfl) C.uM C.uK.kp C.uL (Aa (Ag 0) (Aa Ai Ae))) (Hb Uc Abq (by rfl) C.wy (by decide +kernel) (Aa (Ja Abz Vr (Bb Ra U7 (by rfl) C.wo (by decide +kernel) (Aa (Ag 6) Ae)) (Bd Sj Ob Ai Ai) (Bu _)) Ae)))))) C6) (Ah (Ee (B4 (Fo hu) Fp (Ag 3) Ai (Bu _)) (Au (Ar (i:=7) (by exact B6.nd) (Bd Xu Va Ai (Ag 6)))) C6) (Ah (Ee (PWF.pt (U8 (B4 (Li hu) Lx (Ag 4) (Ct Ae) (Bu _)) (Rq (B4 (Fo hu) Fp (Ay (Bs C LB) (hr.mono (by decide)) (by rfl) C.uM C.uK.kp C.uL (Aa (Ag 0) (Aa Ai Ae))) Ai (Bu _))))) (Au (Vj (Ig Rf Om (Bj A7 A8 (Ag 4) (Ay (Bs C LB) (hr.mono (by decide)) (by rfl) C.uM C.uK.kp C.uL (Aa (Ag 0) (Aa (Bb B1 Cc (by rfl) C.wA cS (Aa (Ag 4) Ae)) Ae))) (fun _ _=>rfl)) (Fx Ai) Hy) (P8 rfl (Fs (Av (i:=6) (by exact B6.nd)) (Fs (Av (i:=7) (by exact B6.nd)) Nl))))) C6) (Ah (Ee (PWF.pt (U8 (B4 (Li hu) Lx (Ag 4) (Ct Ae) (Bu _)) (Rq (B4 (Fo hu) Fp (Ay (Bs C LB) (hr.mono (by decide)) (by rfl) C.uM C.uK.kp C.uL (Aa (Ag 0) (Aa Ai Ae))) Ai (Bu _))))) (Au (Ar (i:=6) (by exact B6.nd) (Bj A7 A8 (Bj A7 A8 (Ag 4) (Ay (Bs C LB) (hr.mono (by decide)) (by rfl) C.uM C.uK.kp C.uL (Aa (Ag 0) (Aa (Bb B1 Cc (by rfl) C.wA cS (Aa (Ag 4) Ae)) Ae))) (fun _ _=>rfl)) Ai (fun _ _=>rfl)))) C6) (Au (Jr (Pf eC fO fP Jo Hz (Ag 4) (Aa (Cu (Aa (Ag 5) (Aa (Ag 6) (Aa (Ag 7) Ae)))) Ae)))))))))))
 exact (Au (Bh (Hb Fe Je (by rfl) C.wI (by decide +kernel) (Aa (Ag 4) Ae))))
theorem Qm(C:Defs K mg)(LB:LamB K mg base):∀ k:Nat,FnOk P w K mg base CX0 (1+k) C.u6 C.u7 ["found","due"] (spF K 2 (Hx k))
 | 0=>⟨fun _ _ _ _ h=>(by obtain ⟨_,_,_,_,_,_,_,_,e,_⟩:=h;cases e),fun _ _ _ _ _ _ _ _ _ _ _ _ _ h=>(by obtain ⟨_,_,_,_,_,_,_,_,e,_⟩:=h;cases e)⟩
 | k+1=>by
  have hR:=Qm C LB k
  refine Fun.okF (N:=["found","due"]) C.u8 Ad7 (fun cdv A outer s H E hr=>?_)
  have hu:=hr.units
  refine Ah ?s0 ?t0
  case s0=>exact (Ee (B4 Aer (Aga false) (Ag 1) Ahc (Bu _)) (Au (Bh (Ja Aer (Aga false) (Ag 0) Ahc (Bu _)))) C6)
  refine Ah ?s1 ?t1
  case s1=>exact (Ee (Eu (Oy Ua (Ag 1) (by rfl) C.wz (by rfl) C.wI (by decide +kernel))) (Ah (Ee (PWF.pt (Aml (Oc (Eu (Oy Ua (Ag 0) (by rfl) C.wz (by rfl) C.wI (by decide +kernel)))) (Ajr (B4 (Li hu) Lx (Bb B1 Cc (by rfl) C.wA cS (Aa (Ag 0) Ae)) (Bb B1 Cc (by rfl) C.wA cS (Aa (Ag 1) Ae)) (Bu _))))) (Au (Bh Xk)) C6) (Au (Bh (Ja (Fo hu) Fp (He (N':=["one","other"]) (ix:=[none,none]) ⟨rfl,rfl,rfl,rfl,rfl,rfl⟩ rfl (Wh (by rfl) C.wJ (Aa (Ag 0) (Aa (Ag 1) Ae))) (fun _ _ _ _ _ _=>(P8 rfl (Fs (Av (i:=0) (show cT (α:=Str) ["one","other"] by decide +kernel)) (Fs (Av (i:=1) (show cT (α:=Str) ["one","other"] by decide +kernel)) Nl)))) (fun _ _ _ _ _ _=>(Oc (Eu (Ay hR hr (by rfl) C.ve C.u8.kp C.u9 (Aa (Ag 0) (Aa (Ag 1) Ae)))))) (fun _ _ _ _ _ _=>Ai)) (Ct Ae) (Bu _))))) C6)
  refine Ah ?s2 ?t2
  case s2=>exact (Ee (Eu (Oy Aay (Ag 1) (by rfl) C.wz (by rfl) C.wG (by decide +kernel))) (Au (Bh (Rk (Oy Aay (Ag 0) (by rfl) C.wz (by rfl) C.wG (by decide +kernel)) (Uu (Ja (Fo hu) Fp (Ag 0) (Ag 1) (Bu _)))))) C6)
  exact (Au (Bh (Rk (Oy Ajq (Ag 0) (by rfl) C.wz (by rfl) C.wy (by decide +kernel)) (Rk (Amg (Oy Ag9 (Ag 0) (by rfl) C.wz (by rfl) C.ww (by decide +kernel))) (Uu (Ja (Fo hu) Fp (Ag 0) (Ag 1) (Bu _)))))))
theorem Acv(C:Defs K mg)(LB:LamB K mg base):FnOk P w K mg base CX0 4 C.u6 C.u7 ["found","due"] (spF K 2 Nv):=Qm C LB 3
theorem Ads(C:Defs K mg)(LB:LamB K mg base):FnOk P w K mg base CX0 1 C.vf C.vg ["numbers","turns"] (spF K 2 Nk):=by
 refine Fun.okF (N:=["numbers","turns"]) C.vh Acw (fun cdv A outer s H E hr=>?_)
 have hu:=hr.units
 exact (Au (Bh (Bb (Me rfl) Qc (by rfl) C.wH iV (Aa (Ge (N':=["turn","numbers"]) (ix:=[none,some 0]) ⟨rfl,rfl,rfl,rfl,rfl,rfl⟩ rfl (B3 (Ag 1)) (fun _ _ _ _ _ _=>(Av (i:=0) (show cT (α:=Str) ["turn","numbers"] by decide +kernel))) (fun _ _ _ _ _ _=>(Bj A7 A8 (Ag 1) (Ag 0) (fun _ _=>rfl)))) Ae))))
theorem Tb(C:Defs K mg)(LB:LamB K mg base):FnOk P w K mg base CX0 1 C.vk C.vm ["one","other"] (spF K 2 Gk):=by
 refine Fun.okF (N:=["one","other"]) C.vn Tj (fun cdv A outer s H E hr=>?_)
 have hu:=hr.units
 exact (Au (Bh (Rk (Ja (Li hu) Lx (Ag 0) (Ag 1) (Bu _)) (Uu (Bb (Ade rfl) Aj4 (by rfl) C.wu PyProof.Rows.boot_all (Aa (Ge (N':=["number","above"]) (ix:=[none,none]) ⟨rfl,rfl,rfl,rfl,rfl,rfl⟩ rfl (Wh (by rfl) C.wJ (Aa (Ag 0) (Aa (Ag 1) Ae))) (fun _ _ _ _ _ _=>(P8 rfl (Fs (Av (i:=0) (show cT (α:=Str) ["number","above"] by decide +kernel)) (Fs (Av (i:=1) (show cT (α:=Str) ["number","above"] by decide +kernel)) Nl)))) (fun _ _ _ _ _ _=>(Ja Ael Yg (Ag 0) (Ag 1) (Bu _)))) Ae))))))
theorem Lu(C:Defs K mg)(LB:LamB K mg base):FnOk P w K mg base CX0 1 C.vq C.vt ["point"] (spF K 1 G1):=by
 refine Fun.okF (N:=["point"]) C.vv Wz (fun cdv A outer s H E hr=>?_)
 have hu:=hr.units
 exact (Au (Bh (Cu (Aa (Bj A7 A8 (Ag 0) Ai (fun _ _=>rfl)) (Aa (Bj A7 A8 (Ag 0) Ai (fun _ _=>rfl)) Ae)))))
theorem Kx(C:Defs K mg)(LB:LamB K mg base):FnOk P w K mg base CX0 2 C.vy C.vz ["points","point"] (spF K 2 Eb):=by
 refine Fun.okF (N:=["points","point","place"]) C.vA Kv (fun cdv A outer s H E hr=>?_)
 have hu:=hr.units
 refine Ah ?s0 ?t0
 case s0=>exact (Ar (i:=2) (by exact Kv.nd) (Ay (Lu C LB) (hr.mono (by decide)) (by rfl) C.vx C.vv.kp C.vw (Aa (Ag 1) Ae)))
 exact (Au (Bh (He (N':=["turn","other","place"]) (ix:=[none,none,some 2]) ⟨rfl,rfl,rfl,rfl,rfl,rfl⟩ rfl (Adr (by rfl) C.wx (Aa (Ag 0) Ae)) (fun _ _ _ _ _ _=>(P8 rfl (Fs (Av (i:=0) (show cT (α:=Str) ["turn","other","place"] by decide +kernel)) (Fs (Av (i:=1) (show cT (α:=Str) ["turn","other","place"] by decide +kernel)) Nl)))) (fun _ _ _ _ _ _=>(Eu (Ay (Tb C LB) (hr.mono (by decide)) (by rfl) C.vp C.vn.kp C.vo (Aa (Ag 2) (Aa (Ay (Lu C LB) (hr.mono (by decide)) (by rfl) C.vx C.vv.kp C.vw (Aa (Ag 1) Ae)) Ae))))) (fun _ _ _ _ _ _=>(Ag 0)))))
theorem N7(C:Defs K mg)(LB:LamB K mg base):FnOk P w K mg base CX0 3 C.vD C.vE ["points"] (spF K 1 Dq):=by
 refine Fun.okF (N:=["points","above","begun","told"]) C.vF C0 (fun cdv A outer s H E hr=>?_)
 have hu:=hr.units
 refine Ah ?s0 ?t0
 case s0=>exact (Od (i:=1) (N':=["point","points"]) (ix:=[none,some 0]) (by exact C0.nd) ⟨rfl,rfl,rfl,rfl,rfl,rfl⟩ rfl (B3 (Ag 0)) (fun _ _ _ _ _ _=>(Av (i:=0) (show cT (α:=Str) ["point","points"] by decide +kernel))) (fun _ _ _ _ _ _=>(Ay (Kx C LB) (hr.mono (by decide)) (by rfl) C.vC C.vA.kp C.vB (Aa (Ag 1) (Aa (Ag 0) Ae)))))
 refine Ah ?s1 ?t1
 case s1=>exact (Ar (i:=2) (by exact C0.nd) (Bd Dw Du (Ct (Aa Ai Ae)) (Bb B1 Cc (by rfl) C.wA cS (Aa (Ag 0) Ae))))
 refine Ah ?s2 ?t2
 case s2=>exact (Ar (i:=3) (by exact C0.nd) (Ct Ae))
 refine Ah ?s3 ?t3
 case s3=>exact (Ow 100000 eF (Eu (Bb (Ac0 rfl) Ail (by rfl) C.wv PyProof.Rows.boot_any (Aa (Ag 2) Ae))) (Ah (Jr (Pf eC fO fP Jo Hz (Ag 3) (Aa (Bb (Me rfl) Qc (by rfl) C.wH iV (Aa (Ag 2) Ae)) Ae))) (Au (Ar (i:=2) (by exact C0.nd) (Ge (N':=["turns","begun"]) (ix:=[none,some 2]) ⟨rfl,rfl,rfl,rfl,rfl,rfl⟩ rfl (B3 (Ag 1)) (fun _ _ _ _ _ _=>(Av (i:=0) (show cT (α:=Str) ["turns","begun"] by decide +kernel))) (fun _ _ _ _ _ _=>(Ay (Ads C LB) (hr.mono (by decide)) (by rfl) C.vj C.vh.kp C.vi (Aa (Ag 1) (Aa (Ag 0) Ae)))))))))
 exact (Au (Bh (Hb Fe Je (by rfl) C.wI (by decide +kernel) (Aa (Ag 3) Ae))))
theorem Ik(C:Defs K mg)(LB:LamB K mg base):FnOk P w K mg base CX0 3 C.vI C.vJ ["chains"] (spF K 1 Dg):=by
 refine Fun.okFL (N:=["chains"]) C.vK Nt (fun cdv A outer s H E hcd hr=>?_)
 have hu:=hr.units
 exact (Au (Bh (Ac6 (nm := "first_heaviest") (N':=["chain"]) (ix:=[none]) (pn := "chain") (fb:=B5) (k:=0) ⟨LB,by decide,(by obtain ⟨c,P,h1,h2⟩:=C.wm;exact ⟨c,P,h1,hcd.symm.trans h2⟩),rfl⟩ ⟨⟨rfl,rfl,rfl,rfl,rfl,rfl⟩,rfl,rfl,rfl,rfl,fun _ _ _ _ _ _=>rfl⟩ rfl (fun _ _ _ _ _ hr=>by have hu:=hr.units;exact (Cu (Aa (Oj (Bj A7 A8 (Ag 0) Ai (fun _ _=>rfl))) (Aa (Bj A7 A8 (Ag 0) Ai (fun _ _=>rfl)) Ae)))) (hr.mono (by decide)) rfl (by rfl) C.wD (Ag 0))))
theorem Ii(C:Defs K mg)(LB:LamB K mg base):FnOk P w K mg base CX0 5 C.vN C.vO ["points"] (spF K 1 Bt):=by
 refine Fun.okFL (N:=["points"]) C.vP Ih (fun cdv A outer s H E hcd hr=>?_)
 have hu:=hr.units
 exact (Au (Bh (Y4 (nm := "turns_from_the_highest") (N':=["turn","points"]) (ix:=[none,some 0]) (pn := "turn") (fb:=A0) (k:=1) ⟨LB,by decide,(by obtain ⟨c,P,h1,h2⟩:=C.wn;exact ⟨c,P,h1,hcd.symm.trans h2⟩),rfl⟩ ⟨⟨rfl,rfl,rfl,rfl,rfl,rfl⟩,rfl,rfl,rfl,rfl,fun _ _ _ _ _ _=>rfl⟩ rfl (fun _ _ _ _ _ hr=>by have hu:=hr.units;exact (Ay (Lu C LB) (hr.mono (by decide)) (by rfl) C.vx C.vv.kp C.vw (Aa (Bj A7 A8 (Ag 1) (Ag 0) (fun _ _=>rfl)) Ae))) (hr.mono (by decide)) rfl (by rfl) C.wF (by rfl) C.wE (Aa (Bb B1 Cc (by rfl) C.wA cS (Aa (Ag 0) Ae)) Ae))))
theorem Nr(C:Defs K mg)(LB:LamB K mg base):FnOk P w K mg base CX0 6 C.vS C.vT ["points","weights"] (spF K 2 Ew):=by
 refine Fun.okF (N:=["points","weights","begun","turn","following","rest"]) C.vU C2 (fun cdv A outer s H E hr=>?_)
 have hu:=hr.units
 refine Ah ?s0 ?t0
 case s0=>exact (Ar (i:=2) (by exact C2.nd) N5)
 refine Ah ?s1 ?t1
 case s1=>exact (Hr eF rfl (B3 (Ay (Ii C LB) (hr.mono (by decide)) (by rfl) C.vR C.vP.kp C.vQ (Aa (Ag 0) Ae))) (Av (i:=3) (by exact C2.nd)) (Ah (Od (i:=4) (N':=["other","begun"]) (ix:=[none,some 2]) (by exact C2.nd) ⟨rfl,rfl,rfl,rfl,rfl,rfl⟩ rfl (B3 (Ay (Kx C LB) (hr.mono (by decide)) (by rfl) C.vC C.vA.kp C.vB (Aa (Ag 0) (Aa (Bj A7 A8 (Ag 0) (Ag 3) (fun _ _=>rfl)) Ae)))) (fun _ _ _ _ _ _=>(Av (i:=0) (show cT (α:=Str) ["other","begun"] by decide +kernel))) (fun _ _ _ _ _ _=>(Abl hu (Ag 1) (Ag 0) (fun _ _=>rfl)))) (Ah (Ar (i:=5) (by exact C2.nd) (Ay (Ik C LB) (hr.mono (by decide)) (by rfl) C.vM C.vK.kp C.vL (Aa (Bd Bx Bw (Ct (Aa (Cu (Aa Ai (Aa (Cu Ae) Ae))) Ae)) (Ag 4)) Ae))) (Au (Lp hu (Ag 2) (Ag 3) (Cu (Aa (Bd Bx Bw (Abl hu (Ag 1) (Bj A7 A8 (Bj A7 A8 (Ag 0) (Ag 3) (fun _ _=>rfl)) Ai (fun _ _=>rfl)) (fun _ _=>rfl)) (Bj A7 A8 (Ag 5) Ai (fun _ _=>rfl))) (Aa (Bd Bx Bw (Cu (Aa (Ag 3) Ae)) (Bj A7 A8 (Ag 5) Ai (fun _ _=>rfl))) Ae))))))))
 exact (Au (Bh (Aem rfl (by rfl) C.wB (Ag 2) ⟨rfl,rfl,rfl,rfl⟩)))
theorem N1(C:Defs K mg)(LB:LamB K mg base):FnOk P w K mg base CX0 7 C.vX C.vY ["points","weights"] (spF K 2 Ez):=by
 refine Fun.okF (N:=["points","weights","heaviest"]) C.vZ Iq (fun cdv A outer s H E hr=>?_)
 have hu:=hr.units
 refine Ah ?s0 ?t0
 case s0=>exact (Ee (Oc (Eu (Ag 0))) (Au (Bh (Cu (Aa Ai (Aa (Cu Ae) Ae))))) C6)
 refine Ah ?s1 ?t1
 case s1=>exact (Ar (i:=2) (by exact Iq.nd) (Ay (Ik C LB) (hr.mono (by decide)) (by rfl) C.vM C.vK.kp C.vL (Aa (Ay (Nr C LB) (hr.mono (by decide)) (by rfl) C.vW C.vU.kp C.vV (Aa (Ag 0) (Aa (Ag 1) Ae))) Ae)))
 exact (Au (Bh (Cu (Aa (Bj A7 A8 (Ag 2) Ai (fun _ _=>rfl)) (Aa (Hb Fe Je (by rfl) C.wI (by decide +kernel) (Aa (Ge (N':=["turn","points"]) (ix:=[none,some 0]) ⟨rfl,rfl,rfl,rfl,rfl,rfl⟩ rfl (B3 (Bj A7 A8 (Ag 2) Ai (fun _ _=>rfl))) (fun _ _ _ _ _ _=>(Av (i:=0) (show cT (α:=Str) ["turn","points"] by decide +kernel))) (fun _ _ _ _ _ _=>(Bj A7 A8 (Bj A7 A8 (Ag 1) (Ag 0) (fun _ _=>rfl)) Ai (fun _ _=>rfl)))) Ae)) Ae)))))
theorem Ny(C:Defs K mg)(LB:LamB K mg base):FnOk P w K mg base CX0 8 C.v8 C.v9 ["points"] (spF K 1 Di):=by
 refine Fun.okF (N:=["points","ones","point","heaviest"]) C.wa Ek (fun cdv A outer s H E hr=>?_)
 have hu:=hr.units
 refine Ah ?s0 ?t0
 case s0=>exact (Ee (Oc (Eu (Ag 0))) (Au (Bh (Cu (Aa Ai (Aa Ai (Aa (Cu Ae) Ae)))))) C6)
 refine Ah ?s1 ?t1
 case s1=>exact (Ar (i:=1) (by exact Ek.nd) N5)
 refine Ah ?s2 ?t2
 case s2=>exact (Hr eF rfl (B3 (Ag 0)) (Av (i:=2) (by exact Ek.nd)) (Au (Lp hu (Ag 1) (Bj A7 A8 (Ag 2) Ai (fun _ _=>rfl)) Ai)))
 refine Ah ?s3 ?t3
 case s3=>exact (Ar (i:=3) (by exact Ek.nd) (Ay (N1 C LB) (hr.mono (by decide)) (by rfl) C.v7 C.vZ.kp C.v5 (Aa (Ag 0) (Aa (Ag 1) Ae))))
 exact (Au (Bh (Cu (Aa (Bj A7 A8 (Ag 3) Ai (fun _ _=>rfl)) (Aa (Bj A7 A8 (Ay (N7 C LB) (hr.mono (by decide)) (by rfl) C.vH C.vF.kp C.vG (Aa (Ag 0) Ae)) (Oj Ai) (fun _ _=>rfl)) (Aa (Bj A7 A8 (Ag 3) Ai (fun _ _=>rfl)) Ae))))))
theorem Alf(C:Defs K mg)(LB:LamB K mg base):FnOk P w K mg base CX0 9 C.we C.wf ["script"] (spF K 1 Xe):=by
 refine Fun.okF (N:=["script","deck","turn","points","due"]) C.wg Ou (fun cdv A outer s H E hr=>?_)
 have hu:=hr.units
 refine Ah ?s0 ?t0
 case s0=>exact (Ar (i:=1) (by exact Ou.nd) (Ay (Adw C LB) (hr.mono (by decide)) (by rfl) C.uH C.uF.kp C.uG (Aa (Ag 0) Ae)))
 refine Ah ?s1 ?t1
 case s1=>exact (Hr eF rfl (Em (by rfl) C.wE (Aa Ai Ae)) (Av (i:=2) (by exact Ou.nd)) (Ah (Ar (i:=3) (by exact Ou.nd) (Ay (Wg C LB) (hr.mono (by decide)) (by rfl) C.u5 C.uZ.kp C.u4 (Aa (Ag 1) (Aa (Bj A7 A8 (Ct (Aa Ai (Aa Ai (Aa Ai (Aa Ai Ae))))) (Ay (Bs C LB) (hr.mono (by decide)) (by rfl) C.uM C.uK.kp C.uL (Aa (Ag 1) (Aa Ai Ae))) (fun _ _=>rfl)) Ae)))) (Ah (Ar (i:=4) (by exact Ou.nd) (Cu (Aa Ai (Aa Ai (Aa (Cu Ae) Ae))))) (Ah (Ee (B4 (Li hu) Lx (Ag 3) (Cu Ae) (Bu _)) (Au (Ar (i:=4) (by exact Ou.nd) (Ay (Vm C LB) (hr.mono (by decide)) (by rfl) C.ur C.uo.kp C.uq (Aa (Ag 3) Ae)))) C6) (Ah (Ee (PWF.pt (U8 (Ac4 Abz Abz Vr Vr Ai (Bb B1 Cc (by rfl) C.wA cS (Aa (Ag 3) Ae)) Ai) (Rq (B4 (Li hu) Lx (Ag 4) (Ay (S0 C LB) (hr.mono (by decide)) (by rfl) C.uC C.uA.kp C.uB (Aa (Ag 3) Ae)) (Bu _))))) (Au (Bh Xk)) C6) (Au (Ee (Oc (Eu (Ay (Acv C LB) (hr.mono (by decide)) (by rfl) C.ve C.u8.kp C.u9 (Aa (Ay (Ny C LB) (hr.mono (by decide)) (by rfl) C.wd C.wa.kp C.wb (Aa (Ag 3) Ae)) (Aa (Ag 4) Ae))))) (Au (Bh Xk)) C6)))))))
 exact (Au (Bh Xk))
end
theorem Alz{l:lN}{w:eG}{K:aJ}{h:Heap}{mg:Str->Option aG}{fa:Addr}(X:K.In h)(G:h.Ns bJ mg)(hfa:mg "law" = some (.ref fa))
  {od0 an0:Option Addr} {sl0:Array (Option aG)} {oc0 kV0 dc0 pm0 cd0 ct0:aG} {f0:Addr} {od1 an1:Option Addr} {sl1:Array (Option aG)} {oc1 kV1 dc1 pm1 cd1 ct1:aG} {f1:Addr} {od2 an2:Option Addr} {sl2:Array (Option aG)} {oc2 kV2 dc2 pm2 cd2 ct2:aG} {f2:Addr} {od3 an3:Option Addr} {sl3:Array (Option aG)} {oc3 kV3 dc3 pm3 cd3 ct3:aG} {f3:Addr} {od4 an4:Option Addr} {sl4:Array (Option aG)} {oc4 kV4 dc4 pm4 cd4 ct4:aG} {f4:Addr} {od5 an5:Option Addr} {sl5:Array (Option aG)} {oc5 kV5 dc5 pm5 cd5 ct5:aG} {f5:Addr} {od6 an6:Option Addr} {sl6:Array (Option aG)} {oc6 kV6 dc6 pm6 cd6 ct6:aG} {f6:Addr} {od7 an7:Option Addr} {sl7:Array (Option aG)} {oc7 kV7 dc7 pm7 cd7 ct7:aG} {f7:Addr} {od8 an8:Option Addr} {sl8:Array (Option aG)} {oc8 kV8 dc8 pm8 cd8 ct8:aG} {f8:Addr} {od9 an9:Option Addr} {sl9:Array (Option aG)} {oc9 kV9 dc9 pm9 cd9 ct9:aG} {f9:Addr} {od10 an10:Option Addr} {sl10:Array (Option aG)} {oc10 kV10 dc10 pm10 cd10 ct10:aG} {f10:Addr} {od11 an11:Option Addr} {sl11:Array (Option aG)} {oc11 kV11 dc11 pm11 cd11 ct11:aG} {f11:Addr} {od12 an12:Option Addr} {sl12:Array (Option aG)} {oc12 kV12 dc12 pm12 cd12 ct12:aG} {f12:Addr} {od13 an13:Option Addr} {sl13:Array (Option aG)} {oc13 kV13 dc13 pm13 cd13 ct13:aG} {f13:Addr} {od14 an14:Option Addr} {sl14:Array (Option aG)} {oc14 kV14 dc14 pm14 cd14 ct14:aG} {f14:Addr} {od15 an15:Option Addr} {sl15:Array (Option aG)} {oc15 kV15 dc15 pm15 cd15 ct15:aG} {f15:Addr} {od16 an16:Option Addr} {sl16:Array (Option aG)} {oc16 kV16 dc16 pm16 cd16 ct16:aG} {f16:Addr} {od17 an17:Option Addr} {sl17:Array (Option aG)} {oc17 kV17 dc17 pm17 cd17 ct17:aG} {f17:Addr} {od18 an18:Option Addr} {sl18:Array (Option aG)} {oc18 kV18 dc18 pm18 cd18 ct18:aG} {f18:Addr} {od19 an19:Option Addr} {sl19:Array (Option aG)} {oc19 kV19 dc19 pm19 cd19 ct19:aG} {f19:Addr} {od20 an20:Option Addr} {sl20:Array (Option aG)} {oc20 kV20 dc20 pm20 cd20 ct20:aG} {f20:Addr} {od21 an21:Option Addr} {sl21:Array (Option aG)} {oc21 kV21 dc21 pm21 cd21 ct21:aG} {f21:Addr}
  (a0:bP K bJ "_law_below" = some (some (.ref f0))) (l0:K.lookup f0=some ⟨oc0,od0,.func (cE "_law_below" "_law_below" (Bq Hs) (Bm Hs) (Al Hs) .none kV0 dc0 pm0 an0 cd0 ct0),sl0⟩) (c0:cD K cd0 "_law_below" = true) (k0:bX K (.ref f0)=true)
  (a1:bP K bJ "_law_from_below" = some (some (.ref f1))) (l1:K.lookup f1=some ⟨oc1,od1,.func (cE "_law_from_below" "_law_from_below" (Bq Dm) (Bm Dm) (Al Dm) .none kV1 dc1 pm1 an1 cd1 ct1),sl1⟩) (c1:cD K cd1 "_law_from_below" = true) (k1:bX K (.ref f1)=true)
  (a2:bP K bJ "_law_by_ends" = some (some (.ref f2))) (l2:K.lookup f2=some ⟨oc2,od2,.func (cE "_law_by_ends" "_law_by_ends" (Bq Fw) (Bm Fw) (Al Fw) .none kV2 dc2 pm2 an2 cd2 ct2),sl2⟩) (c2:cD K cd2 "_law_by_ends" = true) (k2:bX K (.ref f2)=true)
  (a3:bP K bJ "_law_all_chains" = some (some (.ref f3))) (l3:K.lookup f3=some ⟨oc3,od3,.func (cE "_law_all_chains" "_law_all_chains" (Bq Dk) (Bm Dk) (Al Dk) .none kV3 dc3 pm3 an3 cd3 ct3),sl3⟩) (c3:cD K cd3 "_law_all_chains" = true) (k3:bX K (.ref f3)=true)
  (a4:bP K bJ "_law_by_trial" = some (some (.ref f4))) (l4:K.lookup f4=some ⟨oc4,od4,.func (cE "_law_by_trial" "_law_by_trial" (Bq Es) (Bm Es) (Al Es) .none kV4 dc4 pm4 an4 cd4 ct4),sl4⟩) (c4:cD K cd4 "_law_by_trial" = true) (k4:bX K (.ref f4)=true)
  (a5:bP K bJ "_law_deck" = some (some (.ref f5))) (l5:K.lookup f5=some ⟨oc5,od5,.func (cE "_law_deck" "_law_deck" (Bq Jd) (Bm Jd) (Al Jd) .none kV5 dc5 pm5 an5 cd5 ct5),sl5⟩) (c5:cD K cd5 "_law_deck" = true) (k5:bX K (.ref f5)=true)
  (a6:bP K bJ "_law_draw" = some (some (.ref f6))) (l6:K.lookup f6=some ⟨oc6,od6,.func (cE "_law_draw" "_law_draw" (Bq Jn) (Bm Jn) (Al Jn) .none kV6 dc6 pm6 an6 cd6 ct6),sl6⟩) (c6:cD K cd6 "_law_draw" = true) (k6:bX K (.ref f6)=true)
  (a7:bP K bJ "_law_names" = some (some (.ref f7))) (l7:K.lookup f7=some ⟨oc7,od7,.func (cE "_law_names" "_law_names" (Bq Ht) (Bm Ht) (Al Ht) .none kV7 dc7 pm7 an7 cd7 ct7),sl7⟩) (c7:cD K cd7 "_law_names" = true) (k7:bX K (.ref f7)=true)
  (a8:bP K bJ "_law_number" = some (some (.ref f8))) (l8:K.lookup f8=some ⟨oc8,od8,.func (cE "_law_number" "_law_number" (Bq G4) (Bm G4) (Al G4) .none kV8 dc8 pm8 an8 cd8 ct8),sl8⟩) (c8:cD K cd8 "_law_number" = true) (k8:bX K (.ref f8)=true)
  (a9:bP K bJ "_law_points" = some (some (.ref f9))) (l9:K.lookup f9=some ⟨oc9,od9,.func (cE "_law_points" "_law_points" (Bq G7) (Bm G7) (Al G7) .none kV9 dc9 pm9 an9 cd9 ct9),sl9⟩) (c9:cD K cd9 "_law_points" = true) (k9:bX K (.ref f9)=true)
  (a10:bP K bJ "_law_same" = some (some (.ref f10))) (l10:K.lookup f10=some ⟨oc10,od10,.func (cE "_law_same" "_law_same" (Bq Jm) (Bm Jm) (Al Jm) .none kV10 dc10 pm10 an10 cd10 ct10),sl10⟩) (c10:cD K cd10 "_law_same" = true) (k10:bX K (.ref f10)=true)
  (a11:bP K bJ "sum_at" = some (some (.ref f11))) (l11:K.lookup f11=some ⟨oc11,od11,.func (cE "sum_at" "sum_at" (Bq Jg) (Bm Jg) (Al Jg) .none kV11 dc11 pm11 an11 cd11 ct11),sl11⟩) (c11:cD K cd11 "sum_at" = true) (k11:bX K (.ref f11)=true)
  (a12:bP K bJ "lies_below" = some (some (.ref f12))) (l12:K.lookup f12=some ⟨oc12,od12,.func (cE "lies_below" "lies_below" (Bq E4) (Bm E4) (Al E4) .none kV12 dc12 pm12 an12 cd12 ct12),sl12⟩) (c12:cD K cd12 "lies_below" = true) (k12:bX K (.ref f12)=true)
  (a13:bP K bJ "place_of" = some (some (.ref f13))) (l13:K.lookup f13=some ⟨oc13,od13,.func (cE "place_of" "place_of" (Bq Ha) (Bm Ha) (Al Ha) .none kV13 dc13 pm13 an13 cd13 ct13),sl13⟩) (c13:cD K cd13 "place_of" = true) (k13:bX K (.ref f13)=true)
  (a14:bP K bJ "turns_above" = some (some (.ref f14))) (l14:K.lookup f14=some ⟨oc14,od14,.func (cE "turns_above" "turns_above" (Bq Ea) (Bm Ea) (Al Ea) .none kV14 dc14 pm14 an14 cd14 ct14),sl14⟩) (c14:cD K cd14 "turns_above" = true) (k14:bX K (.ref f14)=true)
  (a15:bP K bJ "chains_of_each" = some (some (.ref f15))) (l15:K.lookup f15=some ⟨oc15,od15,.func (cE "chains_of_each" "chains_of_each" (Bq Ck) (Bm Ck) (Al Ck) .none kV15 dc15 pm15 an15 cd15 ct15),sl15⟩) (c15:cD K cd15 "chains_of_each" = true) (k15:bX K (.ref f15)=true)
  (a16:bP K bJ "first_heaviest" = some (some (.ref f16))) (l16:K.lookup f16=some ⟨oc16,od16,.func (cE "first_heaviest" "first_heaviest" (Bq Cm) (Bm Cm) (Al Cm) .none kV16 dc16 pm16 an16 cd16 ct16),sl16⟩) (c16:cD K cd16 "first_heaviest" = true) (k16:bX K (.ref f16)=true)
  (a17:bP K bJ "turns_from_the_highest" = some (some (.ref f17))) (l17:K.lookup f17=some ⟨oc17,od17,.func (cE "turns_from_the_highest" "turns_from_the_highest" (Bq Bn) (Bm Bn) (Al Bn) .none kV17 dc17 pm17 an17 cd17 ct17),sl17⟩) (c17:cD K cd17 "turns_from_the_highest" = true) (k17:bX K (.ref f17)=true)
  (a18:bP K bJ "heaviest_begun" = some (some (.ref f18))) (l18:K.lookup f18=some ⟨oc18,od18,.func (cE "heaviest_begun" "heaviest_begun" (Bq Cp) (Bm Cp) (Al Cp) .none kV18 dc18 pm18 an18 cd18 ct18),sl18⟩) (c18:cD K cd18 "heaviest_begun" = true) (k18:bX K (.ref f18)=true)
  (a19:bP K bJ "heaviest_chain" = some (some (.ref f19))) (l19:K.lookup f19=some ⟨oc19,od19,.func (cE "heaviest_chain" "heaviest_chain" (Bq Co) (Bm Co) (Al Co) .none kV19 dc19 pm19 an19 cd19 ct19),sl19⟩) (c19:cD K cd19 "heaviest_chain" = true) (k19:bX K (.ref f19)=true)
  (a20:bP K bJ "longest_chains" = some (some (.ref f20))) (l20:K.lookup f20=some ⟨oc20,od20,.func (cE "longest_chains" "longest_chains" (Bq Cj) (Bm Cj) (Al Cj) .none kV20 dc20 pm20 an20 cd20 ct20),sl20⟩) (c20:cD K cd20 "longest_chains" = true) (k20:bX K (.ref f20)=true)
  (a21:bP K bJ "law" = some (some (.ref f21))) (l21:K.lookup f21=some ⟨oc21,od21,.func (cE "law" "law" (Bq Nd) (Bm Nd) (Al Nd) .none kV21 dc21 pm21 an21 cd21 ct21),sl21⟩) (c21:cD K cd21 "law" = true) (k21:bX K (.ref f21)=true)
  (tb_first_heaviest:(cZ K "first_heaviest").isSome=true)
  (tb_turns_from_the_highest:(cZ K "turns_from_the_highest").isSome=true)
  (z_abs:bP K bJ "abs" = some none)
  (z_all:bP K bJ "all" = some none)
  (z_any:bP K bJ "any" = some none)
  (z_bool:bP K bJ "bool" = some none)
  (z_enumerate:bP K bJ "enumerate" = some none)
  (z_int:bP K bJ "int" = some none)
  (z_isinstance:bP K bJ "isinstance" = some none)
  (z_len:bP K bJ "len" = some none)
  (z_list:bP K bJ "list" = some none)
  (z_max:bP K bJ "max" = some none)
  (z_min:bP K bJ "min" = some none)
  (z_range:bP K bJ "range" = some none)
  (z_sorted:bP K bJ "sorted" = some none)
  (z_str:bP K bJ "str" = some none)
  (z_sum:bP K bJ "sum" = some none)
  (z_tuple:bP K bJ "tuple" = some none)
  (z_zip:bP K bJ "zip" = some none) :
  ∃ fd:cU,(∀ (s:aR) (v:aG),pB s fd ⟨[v],[]⟩ [("script",v)])/\∀ base:Heap,K.In base->base.Ns bJ mg->LamB K mg base->FnOk l.prog w K mg base CX0 9 fa fd ["script"] (spF K 1 Xe):=by
 have e:=hfa.symm.trans (cN X G a21)
 cases e
 have F0:=Cw (st:=Hs) l0 c0 k0
 have b0:=F0.binds (ps:=["one","other"]) fun _ _ _ _ _ _=>Q6 (fun _ _=>rfl)
 have F1:=Cw (st:=Dm) l1 c1 k1
 have b1:=F1.binds (ps:=["points"]) fun _ _ _ _ _ _=>P0 (fun _=>rfl)
 have F2:=Cw (st:=Fw) l2 c2 k2
 have b2:=F2.binds (ps:=["points"]) fun _ _ _ _ _ _=>P0 (fun _=>rfl)
 have F3:=Cw (st:=Dk) l3 c3 k3
 have b3:=F3.binds (ps:=["points"]) fun _ _ _ _ _ _=>P0 (fun _=>rfl)
 have F4:=Cw (st:=Es) l4 c4 k4
 have b4:=F4.binds (ps:=["points"]) fun _ _ _ _ _ _=>P0 (fun _=>rfl)
 have F5:=Cw (st:=Jd) l5 c5 k5
 have b5:=F5.binds (ps:=["script"]) fun _ _ _ _ _ _=>P0 (fun _=>rfl)
 have F6:=Cw (st:=Jn) l6 c6 k6
 have b6:=F6.binds (ps:=["deck","most"]) fun _ _ _ _ _ _=>Q6 (fun _ _=>rfl)
 have F7:=Cw (st:=Ht) l7 c7 k7
 have b7:=F7.binds (ps:=["deck","many"]) fun _ _ _ _ _ _=>Q6 (fun _ _=>rfl)
 have F8:=Cw (st:=G4) l8 c8 k8
 have b8:=F8.binds (ps:=["deck","kind"]) fun _ _ _ _ _ _=>Q6 (fun _ _=>rfl)
 have F9:=Cw (st:=G7) l9 c9 k9
 have b9:=F9.binds (ps:=["deck","most"]) fun _ _ _ _ _ _=>Q6 (fun _ _=>rfl)
 have F10:=Cw (st:=Jm) l10 c10 k10
 have b10:=F10.binds (ps:=["found","due"]) fun _ _ _ _ _ _=>Q6 (fun _ _=>rfl)
 have F11:=Cw (st:=Jg) l11 c11 k11
 have b11:=F11.binds (ps:=["numbers","turns"]) fun _ _ _ _ _ _=>Q6 (fun _ _=>rfl)
 have F12:=Cw (st:=E4) l12 c12 k12
 have b12:=F12.binds (ps:=["one","other"]) fun _ _ _ _ _ _=>Q6 (fun _ _=>rfl)
 have F13:=Cw (st:=Ha) l13 c13 k13
 have b13:=F13.binds (ps:=["point"]) fun _ _ _ _ _ _=>P0 (fun _=>rfl)
 have F14:=Cw (st:=Ea) l14 c14 k14
 have b14:=F14.binds (ps:=["points","point"]) fun _ _ _ _ _ _=>Q6 (fun _ _=>rfl)
 have F15:=Cw (st:=Ck) l15 c15 k15
 have b15:=F15.binds (ps:=["points"]) fun _ _ _ _ _ _=>P0 (fun _=>rfl)
 have F16:=Cw (st:=Cm) l16 c16 k16
 have b16:=F16.binds (ps:=["chains"]) fun _ _ _ _ _ _=>P0 (fun _=>rfl)
 have F17:=Cw (st:=Bn) l17 c17 k17
 have b17:=F17.binds (ps:=["points"]) fun _ _ _ _ _ _=>P0 (fun _=>rfl)
 have F18:=Cw (st:=Cp) l18 c18 k18
 have b18:=F18.binds (ps:=["points","weights"]) fun _ _ _ _ _ _=>Q6 (fun _ _=>rfl)
 have F19:=Cw (st:=Co) l19 c19 k19
 have b19:=F19.binds (ps:=["points","weights"]) fun _ _ _ _ _ _=>Q6 (fun _ _=>rfl)
 have F20:=Cw (st:=Cj) l20 c20 k20
 have b20:=F20.binds (ps:=["points"]) fun _ _ _ _ _ _=>P0 (fun _=>rfl)
 have F21:=Cw (st:=Nd) l21 c21 k21
 have b21:=F21.binds (ps:=["script"]) fun _ _ _ _ _ _=>P0 (fun _=>rfl)
 let C:Defs K mg:={ ua:=_,uc:=_,ud:=F0,ue:=b0,uf:=cN X G a0,ug:=_,uh:=_,ui:=F1,uj:=b1,uk:=cN X G a1,ul:=_,um:=_,uo:=F2,uq:=b2,ur:=cN X G a2,ut:=_,uu:=_,uv:=F3,uw:=b3,ux:=cN X G a3,uy:=_,uz:=_,uA:=F4,uB:=b4,uC:=cN X G a4,uD:=_,uE:=_,uF:=F5,uG:=b5,uH:=cN X G a5,uI:=_,uJ:=_,uK:=F6,uL:=b6,uM:=cN X G a6,uN:=_,uO:=_,uP:=F7,uQ:=b7,uR:=cN X G a7,uS:=_,uT:=_,uU:=F8,uV:=b8,uW:=cN X G a8,uX:=_,uY:=_,uZ:=F9,u4:=b9,u5:=cN X G a9,u6:=_,u7:=_,u8:=F10,u9:=b10,ve:=cN X G a10,vf:=_,vg:=_,vh:=F11,vi:=b11,vj:=cN X G a11,vk:=_,vm:=_,vn:=F12,vo:=b12,vp:=cN X G a12,vq:=_,vt:=_,vv:=F13,vw:=b13,vx:=cN X G a13,vy:=_,vz:=_,vA:=F14,vB:=b14,vC:=cN X G a14,vD:=_,vE:=_,vF:=F15,vG:=b15,vH:=cN X G a15,vI:=_,vJ:=_,vK:=F16,vL:=b16,vM:=cN X G a16,vN:=_,vO:=_,vP:=F17,vQ:=b17,vR:=cN X G a17,vS:=_,vT:=_,vU:=F18,vV:=b18,vW:=cN X G a18,vX:=_,vY:=_,vZ:=F19,v5:=b19,v7:=cN X G a19,v8:=_,v9:=_,wa:=F20,wb:=b20,wd:=cN X G a20,we:=_,wf:=_,wg:=F21,wj:=b21,wl:=cN X G a21,wm:=Abn tb_first_heaviest a16 l16,wn:=Abn tb_turns_from_the_highest a17 l17,wo:=cI X G z_abs,wu:=cI X G z_all,wv:=cI X G z_any,ww:=cI X G z_bool,wx:=cI X G z_enumerate,wy:=cI X G z_int,wz:=cI X G z_isinstance,wA:=cI X G z_len,wB:=cI X G z_list,wC:=cI X G z_max,wD:=cI X G z_min,wE:=cI X G z_range,wF:=cI X G z_sorted,wG:=cI X G z_str,wH:=cI X G z_sum,wI:=cI X G z_tuple,wJ:=cI X G z_zip }
 refine ⟨cE "law" "law" (Bq Nd) (Bm Nd) (Al Nd) .none kV21 dc21 pm21 an21 cd21 ct21,fun s v=>.of_eq rfl,fun base _ _ LB=>?_⟩
 exact Alf C LB
theorem Ap2{l:lN}{q:cX}{loose:List Str}{XP:(Str->Option aG)->Heap->Prop}{YP:eG->Heap->Prop}{d:DefRec}{K:Params->aJ}(hn:l.most=some 63)(hdf:d.params.defaults=[])
  (hY:∀ (w:eG) (h:Heap),YP w h->(K w.params).In h) (hTK:∀ w:eG,PySem.W.noTabs (K w.params)=true/\Att.Oi (K w.params)=true) (hrec:∀ nm∈Gn,∃ d,(PyProof.Rows.recsOf q).find? (fun e=>e.name == nm)=some d)
  (F:∀ (w:eG) (mg:Str->Option aG) (fa:Addr) (h:Heap),(K w.params).In h->h.Ns bJ mg->mg d.name=some (.ref fa) ->
   ∃ fd:cU,(∀ (s:aR) (u:aG),pB s fd ⟨[u],[]⟩ [("script",u)])/\∀ base:Heap,(K w.params).In base->base.Ns bJ mg->LamB (K w.params) mg base->FnOk l.prog w (K w.params) mg base CX0 9 fa fd ["script"] (spF (K w.params) 1 Xe)) :
  sR q loose XP YP l.row.toRowW d [] (fun f vs=>tL f vs):=
 Att.Am8 (k:=9) (x := "script") hn hdf ⟨rfl,by decide,by decide⟩ hY hTK hrec F (fun ns hl hb=>Agn ns hl hb)
end Lw
open PySem PySem.W PyProof.Rows
set_option maxRecDepth 100000 in
set_option maxHeartbeats 0 in
theorem PySem.Challenge.cw_belowpoints_k25_longest_chains_holds : PySem.Challenge.rw_belowpoints_k25_longest_chains.Holds := by
  w_on; o_law; k_head; (case hw => w_witness2)
  k_fill
  refine Lw.Ap2 (l := PySem.Challenge.rw_belowpoints_k25_longest_chains) rfl rfl (fun w h Y => PySem.W.km_in_of Y) ?T1 ?T2 ?F
  case T1 => exact fun w => ⟨by kernel_rfl, by kernel_rfl⟩
  case T2 => exact List.forall_mem_cons.mpr ⟨⟨_, rfl⟩, List.forall_mem_cons.mpr ⟨⟨_, rfl⟩, fun _ h => nomatch h⟩⟩
  case F =>
    intro w mg fa h KX G hmg
    refine' Lw.Alz KX G hmg  ?a0 ?l0 ?c0 ?k0 ?a1 ?l1 ?c1 ?k1 ?a2 ?l2 ?c2 ?k2 ?a3 ?l3 ?c3 ?k3 ?a4 ?l4 ?c4 ?k4 ?a5 ?l5 ?c5 ?k5 ?a6 ?l6 ?c6 ?k6 ?a7 ?l7 ?c7 ?k7 ?a8 ?l8 ?c8 ?k8 ?a9 ?l9 ?c9 ?k9 ?a10 ?l10 ?c10 ?k10 ?a11 ?l11 ?c11 ?k11 ?a12 ?l12 ?c12 ?k12 ?a13 ?l13 ?c13 ?k13 ?a14 ?l14 ?c14 ?k14 ?a15 ?l15 ?c15 ?k15 ?a16 ?l16 ?c16 ?k16 ?a17 ?l17 ?c17 ?k17 ?a18 ?l18 ?c18 ?k18 ?a19 ?l19 ?c19 ?k19 ?a20 ?l20 ?c20 ?k20 ?a21 ?l21 ?c21 ?k21 ?tb_first_heaviest ?tb_turns_from_the_highest ?z_abs ?z_all ?z_any ?z_bool ?z_enumerate ?z_int ?z_isinstance ?z_len ?z_list ?z_max ?z_min ?z_range ?z_sorted ?z_str ?z_sum ?z_tuple ?z_zip
    (case a0 => k_is); (case l0 => k_is); (case c0 => k_is); (case k0 => k_is)
    (case a1 => k_is); (case l1 => k_is); (case c1 => k_is); (case k1 => k_is)
    (case a2 => k_is); (case l2 => k_is); (case c2 => k_is); (case k2 => k_is)
    (case a3 => k_is); (case l3 => k_is); (case c3 => k_is); (case k3 => k_is)
    (case a4 => k_is); (case l4 => k_is); (case c4 => k_is); (case k4 => k_is)
    (case a5 => k_is); (case l5 => k_is); (case c5 => k_is); (case k5 => k_is)
    (case a6 => k_is); (case l6 => k_is); (case c6 => k_is); (case k6 => k_is)
    (case a7 => k_is); (case l7 => k_is); (case c7 => k_is); (case k7 => k_is)
    (case a8 => k_is); (case l8 => k_is); (case c8 => k_is); (case k8 => k_is)
    (case a9 => k_is); (case l9 => k_is); (case c9 => k_is); (case k9 => k_is)
    (case a10 => k_is); (case l10 => k_is); (case c10 => k_is); (case k10 => k_is)
    (case a11 => k_is); (case l11 => k_is); (case c11 => k_is); (case k11 => k_is)
    (case a12 => k_is); (case l12 => k_is); (case c12 => k_is); (case k12 => k_is)
    (case a13 => k_is); (case l13 => k_is); (case c13 => k_is); (case k13 => k_is)
    (case a14 => k_is); (case l14 => k_is); (case c14 => k_is); (case k14 => k_is)
    (case a15 => k_is); (case l15 => k_is); (case c15 => k_is); (case k15 => k_is)
    (case a16 => k_is); (case l16 => k_is); (case c16 => k_is); (case k16 => k_is)
    (case a17 => k_is); (case l17 => k_is); (case c17 => k_is); (case k17 => k_is)
    (case a18 => k_is); (case l18 => k_is); (case c18 => k_is); (case k18 => k_is)
    (case a19 => k_is); (case l19 => k_is); (case c19 => k_is); (case k19 => k_is)
    (case a20 => k_is); (case l20 => k_is); (case c20 => k_is); (case k20 => k_is)
    (case a21 => k_is); (case l21 => k_is); (case c21 => k_is); (case k21 => k_is)
    (case tb_first_heaviest => kernel_rfl)
    (case tb_turns_from_the_highest => kernel_rfl)
    (case z_abs => k_is)
    (case z_all => k_is)
    (case z_any => k_is)
    (case z_bool => k_is)
    (case z_enumerate => k_is)
    (case z_int => k_is)
    (case z_isinstance => k_is)
    (case z_len => k_is)
    (case z_list => k_is)
    (case z_max => k_is)
    (case z_min => k_is)
    (case z_range => k_is)
    (case z_sorted => k_is)
    (case z_str => k_is)
    (case z_sum => k_is)
    (case z_tuple => k_is)
    (case z_zip => k_is)
