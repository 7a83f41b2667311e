import PyProof.Rows.All
import Wide.All
import OpenK.AllK
import Wide.FinOn
import Lean
import PyProof.EqAt
import PyProof.EqKinds
import PyProof.TupleCall
import KE.KTurnsDict
import KE.KPairComp
import KE.KDictList
import KE.KSortTup
import PyProof.TupleOfSeq
import PyProof.Rows.SetFrom
import PyProof.WalksMore
import KE.KEqDict
import PySem.Challenge.RW_belowpoints_k29_covers_looked_at
set_option Elab.async false
set_option linter.all false
set_option maxRecDepth 100000
set_option maxHeartbeats 4000000
open Option renaming bind_some->aA,bind_eq_some_iff->aB,map_some->aF,map_eq_some_iff->aH,join_some->bT,isSome_map->mT,getD_some->nM,toList_some->qB
open List renaming getElem?_eq_getElem->aC,getElem?_eq_some_iff->aG,length_map->aI,map_cons->aL,getD_eq_getElem?_getD->aO,size_toArray->aP,set_cons_succ->aR,set_cons_zero->aS,mem_cons_of_mem->aT,append_nil->aU,mem_of_getElem?->aW,mem_cons_self->aX,length_cons->aY,getElem?_cons_zero->aZ,getElem?_map->bA,length_append->bB,mem_singleton->bC,getElem?_set_ne->bD,getElem?_append_left->bG,mem_cons->bH,getElem?_set_self->bI,mem_map->bJ,mem_append_right->bM,getElem?_cons_succ->bN,mem_append->bP,replicate->bW,map_append->bZ,length_nil->cB,getElem?_append_right->cC,map_map->cE,all_eq_true->cF,length_take->cH,getElem_mem->cN,Nodup->cQ,length_drop->cS,map_nil->cU,getElem?_eq_none_iff->cV,getElem_of_mem->cY,lookup_cons->dA,range->dB,mem_append_left->dD,not_mem_nil->dE,flatten_cons->dN,append_assoc->dO,mem_of_mem_drop->dP,mem_of_mem_take->dQ,length_reverse->dU,length_pos_iff->dW,take_add_one->eA,nodup_append->eB,take_of_length_le->eF,mem_range->eI,filter_eq_self->eM,length_singleton->eN,mem_filter->eT,length_set->eV,replicate_zero->eZ,sum_cons->fD,find?_cons->fH,length_eq_zero_iff->fN,replicate_succ->fS,flatten_append->fT,mem_or_eq_of_mem_set->fV,length_filter_le->fX,pairwise_cons->fZ,pairwise_append->gH,filterMap_cons->gK,take_length->gR,take_append_drop->gZ,pairwise_iff_getElem->hU,drop_eq_getElem_cons->hV,getLast?_eq_none_iff->hZ,nodup_cons->iB,take_sublist->iE,reverse_cons->iF,toArray->iG,filter->iH,pairwise_map->iI,any_cons->iJ,mem_map_of_mem->iL,getElem?_eq_none->iU,nodup_iff_pairwise_ne->iZ,ext_getElem->jA,map_congr_left->jD,map_take->jG,map_drop->jH,foldl_cons->jK,nil_append->jL,filterMap_map->jP,length->jS,eraseIdx_cons_succ->jU,findIdx_le_length->kE,filter_eq_nil_iff->kF,eraseIdxIfInBounds_toArray->kG,eraseIdx_eq_take_drop_succ->kH,getElem_map->kP,all_cons->kR,of_mem_zip->kY,forIn_cons->lB,map_set->lQ,drop_zero->mG,getElem_range->mI,getLast?_eq_some_iff->mM,getLast?_eq_getElem?->mN,foldl_append->mV,length_erase_of_mem->nD,cons_append->nN,mem_flatten->nR,length_zip->oK,length_dropLast->oQ,reverse_reverse->oS,mem_of_getLast?->pC,mem_erase_of_ne->pD,getElem?_range->pI,zip_cons_cons->pZ,find?_eq_none->qA,length_range->qU,getLast?_map->qV,all_eq_false->qX,ext_getElem?->qY,zipIdx_cons->rH,any_eq_true->rO,flatten_nil->rP,map_reverse->rR,mem_reverse->rS,zipIdx_nil->sC,range_succ->sK,sum_append->sL,foldl->sY,forIn_nil->tB,zip_map->tQ,map_id->tU
open PySem renaming wpAny_bind->aD,Value->aJ,wpAny_pure->aM,Shared->aN,mainGlobals->bF,starEach->bS,boot_len->cG,FuncData->cM,Program->cT,wpAny_holding->cZ,sizeLine_eq->dC,wpAny_newObj_type->dM,wpAny_field->eC,World->eO,wpAny_callSpecial?_slot->eR,Around->eS,compareOp->fJ,wpAny_call_entry->fL,wpAny_mono->fO,binaryOp->fW,wpAny_Call_Name_kw->fY,bootBuiltins->gC,IsPair->gO,wpAny_seqItems->gU,wpAny_setField_rec->gW,wpAny_passesOwn->iA,codeAny_builtin->iC,mem_of_lookup->iK,wpAny_getItem_str_slice->iM,wpAny_pyIter_tuple->iO,Builtin->iP,wpAny_pyIter_list->iV,Keyword->jJ,call_meets->jQ,wpAny_truthy_bool->jX,wpAny_pyNext_list_item->jY,codeAny_mono->kA,wpAny_typeOf->kC,wpAny_pyNext_list_end->kI,wpAny_standAt->kQ,wpAny_newList->kT,wpAny_updateSeq_pair->kW,wpAny_execs_nil->kX,wpAny_loadPart'->kZ,post_val_or_str->lF,IsZip->lL,GenState->lU,IsPart->lW,tupleKind_room_in1->mD,wpAny_rule->mE,wpAny_sequenceKey->mR,slot_list_getitem->mS,evalPart_none->mY,wpAny_getItem_list_slice->mZ,wpAny_comprehension_free->nA,wpAny_onRaise->nB,plainId_quiet->nC,Scope->nF,NameKind->nG,noFill_tuple_add->nH,Env->nK,wpAny_pyIter_zip->nL,codeAny->nT,ZipApart->oR,wpAny_letGo->oT,wpAny_newTuple->oU,codeAny_call_builtin->oZ,BindsTo->pF,seq_tuple_add->pK,wpAny_attempt->pN,builtinsNs->pT,PlainAttrs->pX,concat_meets->qF,seqIndex_neg->qG,wpAny_pyIter_enum->qJ,wpAny_execs_cons->rB,PassesOwn->rC,wpAny_Slice->rT,seqIndex_of->rV,Paired->sN,wpAny_Name->sO,wpAny_load->sQ,Result->sR,wpAny_call->sS,typeIs_str->sW,typeIs_int->sX,PyData->sZ,Within->tL,call->tZ
open PySem.Heap renaming get?_push_of_some->aE,lt_size->aV,get?_push_size->bE,size_push->dY,SameBut->jW,get?_update_self->kJ,ExtBut->kU,get?_update_other->nX,IsTuple->qL,size_update->rN
open PySem.W renaming Frag->aK,nsIn->bK,keepIn->bO,codeIn->bQ,fnOf->bU,mg_of->bY,mg_none_of->cR,kia_one->dX,kitOne->fP,kas_ask->jE,findIn->jZ,OpenLaw->lR,kas_sort->mK,methodObj->mP,kitx_list->mQ,cellsFrom_some->nV,kas_rev->oD,instObj->oF,lookIn->oO,kitx_tuple->pU,specialIn->qC,kitx_dict->qD,plainGet->rD,kat_nil->sJ,WalkO->tH,isFn->tN
open Nat renaming le_refl->aQ,lt_of_lt_of_le->bL,ne_of_lt->bV,le_trans->cJ,zero_le->eD,sub_self->eG,lt_irrefl->eJ,le_succ->fM,lt_succ_self->gQ,ne_of_gt->iD,lt_of_le_of_lt->jR,le_of_lt->lM,add_sub_cancel->mH,lt_succ_of_lt->mW,min_eq_right->nI,le_of_eq->nZ,min_eq_left->oG,pow_le_pow_right->oX,lt_trans->qI,sub_zero->qN,zero_add->qT,lt_trichotomy->qW,succ_le_succ->rF,le_add_right->rL,succ_ne_zero->rQ,log2_lt->rW,two_pow_pos->sF
open Option.some renaming inj->bR
open Bool renaming false_eq_true->bX,and_eq_true->cL,false_ne_true->cP,eq_iff_iff->jN,and_false->mB,or_eq_true->oH,false_and->oN,not_false->pB,not_true->pP,true_and->pQ,false_or->tF,and_true->tJ
open PySem.F renaming plainAttrs_list->cD,slot_list_append->fF,type_list_append->fG,slot_list_insert->gD,type_list_insert->gE,slot_tuple_iterator_next->gT,slot_list_pop->iN,slot_list_extend->iT,args_tuple_add_2->jF,entry_tuple_add->jT,slot_tuple_add->kB,type_list_pop->kM,args_tuple_iterator_next_1->lC,slot_zip_next->lD,entry_tuple_iterator_next->lN,type_list_extend->nE,plain_list_iadd->nO,args_list_extend_2->oP,args_object_init_3->oW,entry_list_extend->pH,args_zip_next_1->qK,entry_list_pop->rG,entry_zip_next->rJ,typeCall_zip_2->rK,slot_int_rmul->sA,newCall_zip_2->sD,entry_zip_new->sE
open PySem.Obj renaming mapSeq->cI,data_mapFields->pY
open Prod renaming snd->cK,fst->fR
open PyProof.Rows renaming slot_tuple_getitem->cO,step_dedup->dL,callWith_type1->eP,boot_sorted->fE,listUpdate_at->jI,get?_update_seq->jO,boot_all->kL,callWith_builtin1->kN,entry_tuple_getitem->lK,args_tuple_getitem->lX,AllBare->nS,subscriptTail_builtinR->nW,call_function_entry_kw->oE,entry_list_sort->oJ,seqEpoch_at->oY,slot_list_sort->pA,IntsAre->pG,wpAny_call_entry_kw->pJ,tupleItemsOf_->pL,Subscript_->pW,SortKind->qO,listItems_at->qP,plain_sorted->qQ,entry_sorted->qR,kind_sorted->rX,IsTup->sP,tail_any->sT
open PySem.Builtin.SmallTypes renaming nextOf->cW,ownedTupleIsFree->fB,ownedTupleHandOut->jB
open Sum renaming inr->cX,inl->pE
open PySem.PassesOwn renaming never->dF
open PySem.Str renaming ofString->dG,length->sV,empty->tK
open PySem.Builtin.Int renaming intBits->dH
open PySem.Builtin.Slice renaming slicePlaces->dI,sliceAdjust->fU,sliceApplied->gS,sliceFields->mJ
open PySem.PyData renaming eqv->dJ,canLay0->fQ,list->gF,depth->gP,eqvAll->iS,canLayAll0->kD,depthAll->lJ,strOk->oB
open PySem.Builtin.Tuple renaming tupleExact->dR,tupleItemsOf->iY
open Array renaming getD_eq_getD_getElem?->dS,length_toList->eK,getElem?_toList->gY,toList_append->jC,getElem?_eq_getElem->mL,size_append->mU,toList->tM
open Int renaming toNat_natCast->dZ,emod_nonneg->gJ,emod_lt_of_pos->gX,ofNat->kO,natCast_nonneg->lZ,ofNat_le->qH,max_eq_right->rE,le_refl->rY,min_eq_left->rZ,ediv_nonneg->sG
open PySem.Value renaming none->eE,ref->eQ,type->iW,int->qZ,str->rA,bool->sM,isStrOf->tE,isInt->tR,float->tS
open Ne renaming symm->eW
open PySem.Txt renaming slice->eX,mul->jM,slice_le->lP,join->tD
open PySem.Heap.SameBut renaming update->eY
open PySem.Builtin.List renaming listTooLong->fA,listFitsIndex->mF
open PySem.SeqAt renaming shaped->fI,EqAt->tV
open PySem.Builtin.Str renaming occurrences->fK
open PySem.Around renaming under_plainId->gG,in1->tY
open False renaming elim->gI
open ForInStep renaming yield->iQ
open PySem.NameKind renaming free->iR,cell->pM
open True renaming intro->iX
open PyProof.Rows.F renaming plain_set_update_loop->jV,entry_set_update_loop->nP
open List.Perm renaming append_left->kK,trans->sH
open PySem.W.WData renaming weightAll->lH,int->nJ,layableAll->rM,weight->tO,list->tW
open PySem.Calls renaming Name_function_global->lV,callWith_builtin->nY,spliced_cons->pV,spliced_nil->qE
open PySem.Heap.IsSliceOf renaming new->lY
open Or renaming inr->mC,inl->oA
open Sum.inr renaming inj->mO
open PySem.Paired renaming length->mX,snoc->tT
open PySem.Builtin.Dict renaming updateFrom->nQ
open List.cons renaming injEq->oI
open Prod.mk renaming inj->oM
open PySem.Shared renaming heap->oV
open Int.ofNat renaming inj->pO
open PySem.SeqAt.EqAt renaming int_str->pR,str_int->pS
open PySem.Heap.IsTuple renaming push->qM
open PySem.W.Looks renaming now->qS
open PySem.Heap.DictOf renaming new->sB
open StateT renaming run_pure->sI
open Function renaming comp->tG
open Nat.succ renaming inj->tP
open PySem.W.WShape renaming has->tX
open PyProof.Rows.SortSt renaming mk'->xD
namespace L2
open PySem PySem.Spec PyProof.Rows
abbrev Key:=Sum Int Str
noncomputable def Va:Key->aJ->Bool
 | .inl k,v=>tR k v
 | .inr x,v=>tE x v
noncomputable def Aqp(w:eO):Key->Int
 | .inl k=>hashInt k
 | .inr x=>hashStr w x
theorem Dp:∀ {k:Key} {v:aJ},Va k v=true->(∃ i t,k=pE i/\v=qZ i t)\/(∃ x t,k=cX x/\v=rA x t)
 | .inl i,v,h=>by
  obtain ⟨t,e⟩:=aJ.isInt_shape (k:=i) (v:=v) h
  exact .inl ⟨i,t,rfl,e⟩
 | .inr x,v,h=>by
  obtain ⟨t,e⟩:=aJ.isStrOf_shape (x:=x) (v:=v) h
  exact .inr ⟨x,t,rfl,e⟩
theorem Ac5(i:Int)(t:Tok):Va (.inl i) (.int i t)=true:=by simp[Va,tR]
theorem Ad8(x:Str)(t:Tok):Va (.inr x) (.str x t)=true:=by simp[Va,tE]
theorem Ans(a b:Int):decide ((pE a:Key)=pE b)=(a == b):=by
 by_cases e:a=b
 ·subst e;simp
 ·have h:¬ (pE a:Key)=pE b:=fun q=>e (pE.inj q)
  rw[decide_eq_false h]
  exact (beq_eq_false_iff_ne.mpr e).symm
theorem An0(a b:Str):decide ((cX a:Key)=cX b)=decide (a=b):=by
 by_cases e:a=b
 ·subst e;simp
 ·have h:¬ (cX a:Key)=cX b:=fun q=>e (mO q)
  rw[decide_eq_false h,decide_eq_false e]
theorem Aln(a:Int)(b:Str):decide ((pE a:Key)=cX b)=false:=decide_eq_false (fun q=>nomatch q)
theorem Alr(a:Str)(b:Int):decide ((cX a:Key)=pE b)=false:=decide_eq_false (fun q=>nomatch q)
noncomputable def Bp(prog:cT)(w:eO):PySem.KeyKind prog w Key where
 is:=Va
 hash:=Aqp w
 inj:=fun v a b ha hb=>by
  rcases Dp ha with ⟨i,t,rfl,rfl⟩ | ⟨x,t,rfl,rfl⟩
  ·rcases Dp hb with ⟨j,u,rfl,e⟩ | ⟨y,u,rfl,e⟩
   ·injection e with e1 _;rw[e1]
   ·exact nomatch e
  ·rcases Dp hb with ⟨j,u,rfl,e⟩ | ⟨y,u,rfl,e⟩
   ·exact nomatch e
   ·injection e with e1 _;rw[e1]
 byValue:=fun k v h=>by
  rcases Dp h with ⟨i,t,rfl,rfl⟩ | ⟨x,t,rfl,rfl⟩ <;> rfl
 pyHash:=fun hv h=>by
  rcases Dp hv with ⟨i,t,rfl,rfl⟩ | ⟨x,t,rfl,rfl⟩
  ·exact wpAny_pyHash_int h
  ·exact wpAny_pyHash_str h
 eqBool:=fun hu hv h=>by
  rcases Dp hu with ⟨i,t,rfl,rfl⟩ | ⟨x,t,rfl,rfl⟩
  ·rcases Dp hv with ⟨j,u,rfl,rfl⟩ | ⟨y,u,rfl,rfl⟩
   ·rw[Ans] at h;exact wpAny_eqBool_int h
   ·rw[Aln] at h;exact pR i t y u _ _ _ _ h
  ·rcases Dp hv with ⟨j,u,rfl,rfl⟩ | ⟨y,u,rfl,rfl⟩
   ·rw[Alr] at h;exact pS x t j u _ _ _ _ h
   ·rw[An0] at h;exact wpAny_eqBool_str h
 «strs» := fun k x t v h=>by
  rcases Dp h with ⟨i,u,rfl,e⟩ | ⟨y,u,rfl,e⟩
  ·exact nomatch e
  ·injection e with e1 _
   subst e1
   cases v <;> rfl
theorem Wu(prog:cT)(w:eO)(i:Int)(t:Tok):(Bp prog w).is (.inl i) (.int i t)=true:=Ac5 i t
theorem Mj(prog:cT)(w:eO)(x:Str)(t:Tok):(Bp prog w).is (.inr x) (.str x t)=true:=Ad8 x t
inductive V where
 | non | bl (b:Bool) | int (i:Int) | str (x:Str) | byt (b:Array UInt8) | flt (b:UInt64) | ref (a:Addr) | ty (n:String)
 deriving DecidableEq
noncomputable def RelV:V->aJ->Prop
 | .non,u=>u=eE
 | .bl b,u=>u=sM b
 | .int i,u=>∃ t,u=qZ i t
 | .str x,u=>∃ t,u=rA x t
 | .byt b,u=>∃ t,u=aJ.bytes b t
 | .flt b,u=>∃ t,u=tS b t
 | .ref a,u=>u=eQ a
 | .ty n,u=>u=iW n
abbrev Vals:List V->List aJ->Prop:=sN RelV
variable {xs:List V}{us:List aJ}
theorem Vals.length(r:Vals xs us):xs.length=us.length:=mX r
variable {i:Nat}
theorem Vals.get{x:V}(h:Vals xs us)(e:xs[i]? = some x):∃ u,us[i]? = some u/\RelV x u:=by
 induction h generalizing i with
 | nil=>cases e
 | cons r t ih=>
  cases i with
  | zero=>cases e;exact ⟨_,rfl,r⟩
  | succ i=>exact ih (i:=i) e
variable {u:aJ}
theorem Vals.set{x:V}(r:RelV x u)(i:Nat)(h:Vals xs us):Vals (xs.set i x) (us.set i u):=by
 induction h generalizing i with
 | nil=>exact .nil
 | cons q t ih=>
  cases i with
  | zero=>exact .cons r t
  | succ i=>exact .cons q (ih i)
variable {ys:List V}
theorem Vals.append{ws:List aJ}(h:Vals xs us)(s:Vals ys ws):Vals (xs++ys) (us++ws):=by
 induction h with
 | nil=>exact s
 | cons r t ih=>exact .cons r ih
theorem Vals.take(n:Nat)(h:Vals xs us):Vals (xs.take n) (us.take n):=by
 induction h generalizing n with
 | nil=>cases n <;> exact .nil
 | cons r t ih=>
  cases n with
  | zero=>exact .nil
  | succ n=>exact .cons r (ih n)
theorem Vals.drop(n:Nat)(h:Vals xs us):Vals (xs.drop n) (us.drop n):=by
 induction h generalizing n with
 | nil=>cases n <;> exact .nil
 | cons r t ih=>
  cases n with
  | zero=>exact .cons r t
  | succ n=>exact ih n
noncomputable def RelO:Option V->Option aJ->Prop
 | some v,some u=>RelV v u
 | none,none=>True
 | _,_=>False
noncomputable def KV{κ:Type}:List (κ×V)->List (κ×aJ)->Prop:=sN fun (p:κ×V) (q:κ×aJ)=>p.1=q.1/\RelV p.2 q.2
noncomputable def kV:Key->V
 | .inl i=>.int i
 | .inr x=>.str x
inductive HO where
 | lst (xs:List V)
 | tup (xs:List V)
 | dK (kvs:List (Key×V)) | dT (kvs:List (List Key×V))
 | set (S:Int->Bool) (n:Nat)
 | ins (C dx:Addr) (fs:List (Str×V))
 | own (x:Addr)
 | xd (fs:List (Str×V))
 | met (f x:Addr)
 | rng (lo hi:Int)
 | frz (o:Obj) (u:HO)
 | tbl (ps:Array aJ)
 | ext (φ:Heap->Prop)
abbrev Hp:=Addr->Option HO
noncomputable def upd(H:Hp)(a:Addr)(o:HO):Hp:=fun b=>if b=a then some o else H b
variable {H:Hp}{a:Addr}{o:HO}
theorem upd_same:upd H a o a=some o:=by unfold upd;rw[if_pos rfl]
variable {b:Addr}
theorem Bv(h:b≠a):upd H a o b=H b:=by unfold upd;rw[if_neg h]
theorem Ae3{u:HO}(h:H a=some o)(h':H b=some u)(d:o≠u):a≠b:=by
 intro e;subst e;rw[h] at h';exact d (bR h')
theorem B6(h:H a=some o)(h':H b=none):a≠b:=by
 intro e;subst e;rw[h] at h';cases h'
noncomputable def TupN(h:Heap)(a:Addr)(its:Array aJ):Prop:=∃ o:Obj,h.get? a=some o/\(o.cls,o.dict)=(iW "tuple",(none:Option Addr))/\∃ n,o.data = .seq its n
variable {h:Heap}
theorem TupN.is{its:Array aJ}(x:TupN h a its):h.IsTuple a its:=by
 obtain ⟨o,e,c,n,d⟩:=x
 exact ⟨o,e,(oM c).1,n,d⟩
theorem TupN.new(h:Heap)(its:Array aJ):TupN (h.push { cls:=.type "tuple",data:=.seq its }) h.objs.size its:=⟨_,bE _ rfl,rfl,0,rfl⟩
theorem TupN.lt{its:Array aJ}(x:TupN h a its):a < h.objs.size:=by
 obtain ⟨o,e,_⟩:=x;exact aV e
section
variable (P:cT)(w:eO)
noncomputable def ObjOk(H:Hp)(h:Heap)(a:Addr):HO->Prop
 | .lst xs=>xs.length<=sizeLine/\∃ (its:List aJ) (n:Nat),Vals xs its/\h.get? a=some { cls:=.type "list",data:=.seq its.toArray n }
 | .tup xs=>xs.length<=sizeLine/\∃ its:List aJ,Vals xs its/\TupN h a its.toArray
 | .dK kvs=>kvs.length<=sizeLine/\(a == sysModules)=false/\∃ vs,KV kvs vs/\h.DictOf (Bp P w) a vs
 | .dT kvs=>kvs.length<=sizeLine/\(a == sysModules)=false/\∃ xs:List (List Key×Addr×aJ),
   sN (fun (p:List Key×V) (q:List Key×Addr×aJ)=>p.1=q.1/\H q.2.1=some (.tup (p.1.map kV))/\RelV p.2 q.2.2) kvs xs /\
   ∃ o es ep,h.get? a=some o/\o.ExactDict/\o.data = .dict es ep/\es.toList=xs.map (entryOfKey (tupleKind (Bp P w)))/\(xs.map (·.1)).Nodup
 | .set S n=>h.SetOf (intKind P w) a S n
 | .ins C dx fs=>H dx=some (.own a)/\fs.length<=1000/\dx≠a/\h.get? a=some (oF C dx) /\
   ∃ mA,h.Ns1 dx mA/\(∀ f,RelO (fs.lookup f) (mA f))/\tL mA (fs.map (·.1))
 | .own _=>∃ o,h.get? a=some o
 | .xd fs=>∃ mA,h.Ns1 a mA/\∀ f,RelO (fs.lookup f) (mA f)
 | .rng lo hi=>∃ t u v,h.get? a=some { cls:=.type "range",data:=.fields #[.int lo t,.int hi u,.int 1 v] }
 | .frz o u=>h.get? a=some o/\ObjOk H h a u
 | .tbl ps=>h.get? a=some { cls:=.none,data:=.fields ps }
 | .met f x=>h.get? a=some (mP (.ref f) (.ref x))
 | .ext φ=>φ h/\(∃ o,h.get? a=some o)/\∀ h1 h2:Heap,φ h1->(∀ o,h1.get? a=some o->h2.get? a=some o)->φ h2
noncomputable def HOk(H:Hp)(h:Heap):Prop:=∀ a o,H a=some o->ObjOk P w H h a o
end
variable {P:cT}{w:eO}{H':Hp}{h':Heap}
section
theorem ObjOk.lt(x:ObjOk P w H h a o):a < h.objs.size:=by
 cases o with
 | lst xs=>obtain ⟨_,_,_,_,e⟩:=x;exact aV e
 | tup xs=>obtain ⟨_,_,_,p⟩:=x;exact p.lt
 | dK kvs=>obtain ⟨_,_,_,_,o,_,_,e,_⟩:=x;exact aV e
 | dT kvs=>obtain ⟨_,_,_,_,o,_,_,e,_⟩:=x;exact aV e
 | set S n=>obtain ⟨o,_,_,_,e,_⟩:=x;exact aV e
 | ins C dx fs=>obtain ⟨_,_,_,e,_⟩:=x;exact aV e
 | own y=>obtain ⟨_,e⟩:=x;exact aV e
 | xd fs=>obtain ⟨_,⟨_,_,_,e,_⟩,_⟩:=x;exact aV e
 | rng lo hi=>obtain ⟨_,_,_,e⟩:=x;exact aV e
 | frz ob u=>obtain ⟨e,_⟩:=x;exact aV e
 | tbl ps=>exact aV (show h.get? a=some _ from x)
 | met f y=>exact aV (show h.get? a=some _ from x)
 | ext φ=>obtain ⟨_,⟨_,e⟩,_⟩:=x;exact aV e
theorem Paired.mapP{α β:Type}{F G:α->β->Prop}{l₁:List α}{l₂:List β}(h:sN F l₁ l₂)(f:∀ a b,F a b->G a b):sN G l₁ l₂:=by
 induction h with
 | nil=>exact .nil
 | cons r t ih=>exact .cons (f _ _ r) ih
theorem ObjOk.stay(x:ObjOk P w H h a o)(k:∀ b u,(b=a\/H b=some (.own a))->h.get? b=some u->h'.get? b=some u)
  (ho:∀ b,H b=some (.own a)->H' b=some (.own a)) (ht:∀ b xs,H b=some (.tup xs)->H' b=some (.tup xs)):ObjOk P w H' h' a o:=by
 induction o with
 | lst xs=>obtain ⟨z,its,n,r,e⟩:=x;exact ⟨z,its,n,r,k _ _ (.inl rfl) e⟩
 | tup xs=>obtain ⟨z,its,r,ob,e,c⟩:=x;exact ⟨z,its,r,ob,k _ _ (.inl rfl) e,c⟩
 | dK kvs=>obtain ⟨z,y,vs,r,ob,es,ep,e,c⟩:=x;exact ⟨z,y,vs,r,ob,es,ep,k _ _ (.inl rfl) e,c⟩
 | dT kvs=>
  obtain ⟨z,y,xs,r,ob,es,ep,e,c⟩:=x
  exact ⟨z,y,xs,Paired.mapP r fun p q z=>⟨z.1,ht _ _ z.2.1,z.2.2⟩,ob,es,ep,k _ _ (.inl rfl) e,c⟩
 | set S n=>obtain ⟨ob,es,ep,t,e,c⟩:=x;exact ⟨ob,es,ep,t,k _ _ (.inl rfl) e,c⟩
 | ins C dx fs=>
  obtain ⟨d,z,ne,e,mA,⟨od,es,ep,e2,c⟩,r⟩:=x
  exact ⟨ho _ d,z,ne,k _ _ (.inl rfl) e,mA,⟨od,es,ep,k _ _ (.inr d) e2,c⟩,r⟩
 | own y=>obtain ⟨ob,e⟩:=x;exact ⟨ob,k _ _ (.inl rfl) e⟩
 | xd fs=>obtain ⟨mA,⟨od,es,ep,e,c⟩,r⟩:=x;exact ⟨mA,⟨od,es,ep,k _ _ (.inl rfl) e,c⟩,r⟩
 | rng lo hi=>obtain ⟨t,u,v,e⟩:=x;exact ⟨t,u,v,k _ _ (.inl rfl) e⟩
 | frz ob u ih=>obtain ⟨e,q⟩:=x;exact ⟨k _ _ (.inl rfl) e,ih q⟩
 | tbl ps=>
  have e:h.get? a=some { cls:=.none,data:=.fields ps }:=x
  show h'.get? a=some { cls:=.none,data:=.fields ps }
  exact k a _ (.inl rfl) e
 | met f y=>
  have e:h.get? a=some (mP (.ref f) (.ref y)):=x
  show h'.get? a=some (mP (.ref f) (.ref y))
  exact k a _ (.inl rfl) e
 | ext φ=>obtain ⟨p,⟨o,e⟩,st⟩:=x;exact ⟨st _ _ p fun o q=>k _ _ (.inl rfl) q,⟨o,k _ _ (.inl rfl) e⟩,st⟩
theorem HOk.lt(x:HOk P w H h)(e:H a=some o):a < h.objs.size:=(x a o e).lt
theorem HOk.fresh(x:HOk P w H h)(e:h.objs.size<=a):H a=none:=by
 cases q:H a with
 | none=>rfl
 | some u=>exact absurd (bL (x.lt q) e) (eJ _)
theorem HOk.kept(x:HOk P w H h)(k:∀ b u,h.get? b=some u->h'.get? b=some u):HOk P w H h':=fun a o e=>
 (x a o e).stay (fun b u _ q=>k b u q) (fun _ q=>q) fun _ _ q=>q
theorem HOk.laid(x:HOk P w H h)(k:∀ b u,h.get? b=some u->h'.get? b=some u)(hp:h.objs.size<=a)(new:ObjOk P w (upd H a o) h' a o):HOk P w (upd H a o) h':=fun b u e=>by
 have hn:=x.fresh hp
 by_cases hb:b=a
 ·subst hb;rw[upd_same] at e;cases e;exact new
 ·rw[Bv hb] at e
  exact (x b u e).stay (fun c v _ q=>k c v q) (fun c q=>by rw[Bv (B6 q hn)];exact q) fun c xs q=>by rw[Bv (B6 q hn)];exact q
end
noncomputable def Rd(H:Hp)(a:Addr)(u:HO):Prop:=H a=some u\/∃ o,H a=some (.frz o u)
theorem Rd.ok{u:HO}(r:Rd H a u)(x:HOk P w H h):ObjOk P w H h a u:=by
 rcases r with r | ⟨o,r⟩
 ·exact x a u r
 ·obtain ⟨_,q⟩:=x a _ r
  exact q
noncomputable def Mut:Option HO->Prop
 | some (.lst _)=>True
 | some (.dK _)=>True
 | some (.dT _)=>True
 | some (.set _ _)=>True
 | some (.ins _ _ _)=>True
 | some (.ext _)=>True
 | _=>False
section
variable {x e:Addr}{o':HO}
theorem HOk.write(ok:HOk P w H h)(mu:Mut (H x))(he:e=x\/H e=some (.own x))(k:∀ b u,b≠e->h.get? b=some u->h'.get? b=some u)(heo:∃ u,h'.get? e=some u)
  (new:ObjOk P w (upd H x o') h' x o'):HOk P w (upd H x o') h':=fun b u q=>by
 have nown:∀ c y,H c=some (.own y)->c≠x:=fun c y r z=>by subst z;rw[r] at mu;exact mu
 have ntup:∀ c xs,H c=some (.tup xs)->c≠x:=fun c xs r z=>by subst z;rw[r] at mu;exact mu
 by_cases hb:b=x
 ·subst hb;rw[upd_same] at q;cases q;exact new
 ·rw[Bv hb] at q
  by_cases hbe:b=e
  ·have q':H b=some (.own x):=by
    rcases he with z | z
    ·exact absurd (hbe.trans z) hb
    ·rw[hbe];exact z
   rw[q] at q';cases q'
   obtain ⟨v,hv⟩:=heo
   exact ⟨v,by rw[hbe];exact hv⟩
  ·refine (ok b u q).stay (fun c v hc r=>k c v ?_ r) (fun c r=>by rw[Bv (nown c b r)];exact r) fun c xs r=>by rw[Bv (ntup c xs r)];exact r
   rcases hc with rfl | hc
   ·exact hbe
   ·rintro rfl
    rcases he with z | z
    ·exact nown c b hc z
    ·rw[hc] at z;cases z;exact hb rfl
end
structure Un(fs ex:List Addr)(H H':Hp)(h h':Heap):Prop where
 keep:∀ b o,h.get? b=some o->H b=none->b∉fs->b∉ex->h'.get? b=some o
 slot:∀ b o,h.get? b=some o->H b=none->b∈fs->b∉ex->∃ sl,h'.get? b=some { o with slots:=sl }
 free:∀ b o,h.get? b=some o->H b=none->b∉ex->H' b=none
 there:∀ b o,h.get? b=some o->b∉ex->∃ o',h'.get? b=some o'
 tups:∀ b xs,H b=some (.tup xs)->H' b=some (.tup xs)
 frzs:∀ b o u,H b=some (.frz o u)->H' b=some (.frz o u)
 tbls:∀ b ps,H b=some (.tbl ps)->∃ more,H' b=some (.tbl (ps++more))
section
variable {fs fs' ex ex':List Addr}{H1 H2:Hp}{h1 h2:Heap}{x e:Addr}
theorem Un.any(u:Un fs ex H H1 h h1){ob:Obj}(q:h.get? b=some ob)(n:H b=none)(hx:b∉ex):∃ sl,h1.get? b=some { ob with slots:=sl }:=by
 by_cases hb:b∈fs
 ·exact u.slot b ob q n hb hx
 ·exact ⟨ob.slots,u.keep b ob q n hb hx⟩
theorem Un.kept(k:∀ b u,h.get? b=some u->h'.get? b=some u):Un fs ex H H h h':=
 ⟨fun b ob q _ _ _=>k b ob q,fun b ob q _ _ _=>⟨ob.slots,k b ob q⟩,fun _ _ _ n _=>n,fun b ob q _=>⟨ob,k b ob q⟩,fun _ _ q=>q,fun _ _ _ q=>q,fun _ ps q=>⟨#[],by rw[q];simp⟩⟩
theorem Un.refl:Un fs ex H H h h:=Un.kept fun _ _ q=>q
theorem Un.laid(k:∀ b u,h.get? b=some u->h'.get? b=some u)(hp:h.objs.size<=a)(hn:H a=none):Un fs ex H (upd H a o) h h' where
 keep:=fun b u q _ _ _=>k b u q
 slot:=fun b u q _ _ _=>⟨u.slots,k b u q⟩
 free:=fun b u q n _=>by rw[Bv (bV (bL (aV q) hp))];exact n
 there:=fun b u q _=>⟨u,k b u q⟩
 tups:=fun b xs q=>by rw[Bv (B6 q hn)];exact q
 frzs:=fun b u xs q=>by rw[Bv (B6 q hn)];exact q
 tbls:=fun b ps q=>⟨#[],by rw[Bv (B6 q hn),q];simp⟩
theorem Un.write(mu:Mut (H x))(he:e=x\/H e=some (.own x))(k:∀ b u,b≠e->h.get? b=some u->h'.get? b=some u)(heo:∃ u,h'.get? e=some u):Un fs ex H (upd H x o) h h':=by
 have hx:∀ b,H b=none->b≠x:=fun b n z=>by subst z;rw[n] at mu;exact mu
 have hb:∀ b,H b=none->b≠e:=fun b n z=>by
  subst z
  rcases he with r | r
  ·exact hx b n r
  ·rw[n] at r;cases r
 have hm:∀ b u,H b=some u->¬ Mut (some u)->b≠x:=fun b u q nm z=>by subst z;rw[q] at mu;exact nm mu
 refine ⟨fun b u q n _ _=>k b u (hb b n) q,fun b u q n _ _=>⟨u.slots,k b u (hb b n) q⟩,fun b u q n _=>by rw[Bv (hx b n)];exact n,fun b u q _=>?_,
  fun b xs q=>by rw[Bv (hm b _ q fun z=>z)];exact q,fun b u xs q=>by rw[Bv (hm b _ q fun z=>z)];exact q,fun b ps q=>⟨#[],by rw[Bv (hm b _ q fun z=>z),q];simp⟩⟩
 by_cases hbe:b=e
 ·subst hbe;exact heo
 ·exact ⟨u,k b u hbe q⟩
end
noncomputable def trk(h:Heap)(H:Hp):List Addr:=(dB h.objs.size).filter fun a=>(H a).isSome
noncomputable def V7(h:Heap)(H:Hp):Heap:=PySem.W.hideAll h (trk h H)
theorem Acz(h:Heap)(H:Hp):(V7 h H).objs.size=h.objs.size:=PySem.W.hideAll_size _ _
theorem Agc{o:Obj}(e:h.get? b=some o)(n:H b=none):(V7 h H).get? b=some o:=
 PySem.W.hideAll_get _ e fun hm=>by
  have q:(H b).isSome=true:=(eT.mp hm).2
  rw[n] at q;simp at q
theorem Akd{o:Obj}(e:(V7 h H).get? b=some o):h.get? b=some o/\H b=none:=by
 have e':h.get? b=some o:=PySem.W.of_hideAll (trk h H) e
 refine ⟨e',?_⟩
 cases q:H b with
 | none=>rfl
 | some x=>
  have hm:b∈trk h H:=eT.mpr ⟨eI.mpr (aV e'),by simp[q]⟩
  have z:(V7 h H).get? b=none:=PySem.W.hideAll_none (trk h H) hm
  rw[z] at e;cases e
noncomputable def Ajk(g h:Heap)(L:Addr):List (Addr×Obj):=(dB h.objs.size).filterMap fun a=>if a=L\/(g.get? a).isSome=true then none else (h.get? a).map fun o=>(a,o)
noncomputable def rest(g h:Heap)(L d:Addr):List (Addr×Obj):=(Ajk g h L).filter fun p=>decide (p.1≠d)
structure Mod(K:aK)(mg:Str->Option aJ)(base:Heap):Prop where
 kin:K.In base
 glob:base.Ns bF mg
 blt:∃ mb,base.Ns pT mb/\∀ x:Str,x ≠ "__name__" -> mb x=gC x
 nolimit:base.NoLimit
structure Cx where
 prog:cT
 w:eO
 K:aK
 mg:Str->Option aJ
 base:Heap
 A:eS
 N:List Str
 s₀:aN
 H₀:Hp
 env:Env
 outer:List Env
 stack:List Env
 ex:List Addr
 fn:Str->Bool
 calm:Bool
 pn:List (Addr×Obj)
 xe:aJ->aN->Prop
noncomputable def frs(l:List Env):List Addr:=l.filterMap (·.frame)
noncomputable abbrev Cx.fs(X:Cx):List Addr:=frs X.outer
noncomputable def Vis(sc:nF)(x:Str):Prop:=sc.names.lookup x=some .local\/sc.names.lookup x=some .cell\/sc.names.lookup x=some .free
noncomputable def Loc(sc:nF)(x:Str):Prop:=sc.names.lookup x=some .local\/sc.names.lookup x=some .cell
noncomputable def Aqh(env:Env)(h:Heap)(m:Str->Option aJ)(x:Str)(u:aJ):Prop:=
 (env.kindOf x=some .local/\m x=some u)\/((env.kindOf x=some .cell\/env.kindOf x=some .free)/\∃ c,env.cells.lookup x=some c/\h.IsCell c (some u))
structure Cx.Ok(X:Cx):Prop where
 mod:Mod X.K X.mg X.base
 kind:X.env.scope.kind = .function
 glob:X.env.globals=bF
 blt:X.env.builtins=pT
 above:X.s₀.heap.objs.size<=X.env.locals
 inj:∀ x y c,X.env.cells.lookup x=some c->X.env.cells.lookup y=some c->x=y
 has:∀ x,(X.env.kindOf x=some .cell\/X.env.kindOf x=some .free)->∃ c,X.env.cells.lookup x=some c
 cab:∀ x c,X.fn x=true->X.env.cells.lookup x=some c->X.s₀.heap.objs.size<=c
 hd:X.calm=true->X.A.handled=none
 frames:X.A.frames=some X.stack
 stk:X.stack=X.outer\/(X.stack=X.env::X.outer/\X.env.frame=some X.env.locals)
 exf:∀ b∈X.ex,b≠X.env.locals/\∀ x c,X.env.cells.lookup x=some c->c≠b
 bs:∀ b o,X.base.get? b=some o->X.s₀.heap.get? b=some o/\X.H₀ b=none
 bsz:X.base.objs.size<=X.s₀.heap.objs.size
 noex:∀ b o,X.base.get? b=some o->b∉X.ex
 exfs:∀ b∈X.ex,b∉X.fs
 funs:X.s₀.heap.FunFrames X.base X.outer
 frf:∀ b∈X.fs,X.H₀ b=none
structure Inv(X:Cx)(pins:List (Addr×Obj))(σ:List (Option V))(H:Hp)(s:aN):Prop where
 ok:X.Ok
 os:s.os=X.s₀.os
 bare:nS s.gens
 base:Un X.fs X.ex X.H₀ H X.s₀.heap s.heap
 loc:∃ m,s.heap.Ns X.env.locals m/\∀ (i:Nat) (x:Str) (v:V),X.N[i]? = some x->σ[i]? = some (some v)->Vis X.env.scope x->∃ u,RelV v u/\Aqh X.env s.heap m x u
 cell:∀ x c,X.env.cells.lookup x=some c->∃ v,s.heap.IsCell c v
 free:H X.env.locals=none
 freeC:∀ x c,X.env.cells.lookup x=some c->H c=none
 pin:∀ p∈X.pn++pins,s.heap.get? p.1=some p.2/\H p.1=none/\p.1≠X.env.locals/\p.1∉X.fs/\∀ v,p.2.data≠.cell v
 hok:HOk X.prog X.w H s.heap
 len:σ.length=X.N.length
variable {x:Str}{X:Cx}{pins:List (Addr×Obj)}{s s':aN}{t':Nat}{ch:List Addr}{M:Model}{A:eS}{E:aJ->aN->Prop}{v:V}
section
variable {σ:List (Option V)}
theorem Cx.Ok.nofr(ok:X.Ok){o:Obj}(e:X.base.get? b=some o):b∉X.fs:=fun hb=>by
 have:=(ok.funs.mem hb).1
 rw[e] at this;cases this
theorem Inv.bs(I:Inv X pins σ H s):∀ b o,X.base.get? b=some o->s.heap.get? b=some o/\H b=none:=fun b o e=>
 ⟨I.base.keep b o (I.ok.bs b o e).1 (I.ok.bs b o e).2 (I.ok.nofr e) (I.ok.noex b o e),I.base.free b o (I.ok.bs b o e).1 (I.ok.bs b o e).2 (I.ok.noex b o e)⟩
theorem Inv.bk(I:Inv X pins σ H s):∀ b o,X.base.get? b=some o->s.heap.get? b=some o:=fun b o e=>(I.bs b o e).1
theorem Inv.mod(I:Inv X pins σ H s):Mod X.K X.mg X.base:=I.ok.mod
theorem Inv.kIn(I:Inv X pins σ H s):X.K.In s.heap:=I.ok.mod.kin.keeps I.bk
theorem Inv.fr(I:Inv X pins σ H s):∃ m,Fr X.base X.env.locals s.heap m:=
 let ⟨m,hn,_⟩:=I.loc
 ⟨m,hn,I.bk,cJ I.ok.bsz I.ok.above⟩
theorem Inv.lt(I:Inv X pins σ H s):X.env.locals < s.heap.objs.size:=let ⟨_,hn,_⟩:=I.loc;hn.lt
theorem Inv.sz(I:Inv X pins σ H s):X.s₀.heap.objs.size<=s.heap.objs.size:=cJ I.ok.above (lM I.lt)
theorem Inv.nofs(I:Inv X pins σ H s)(h:s.heap.objs.size<=a):a∉X.fs:=fun hb=>by
 obtain ⟨_,o,ho,_⟩:=I.ok.funs.mem hb
 exact absurd (bL (aV ho) (cJ I.sz h)) (eJ _)
theorem Inv.cne(I:Inv X pins σ H s):∀ x c,X.env.cells.lookup x=some c->c≠X.env.locals:=fun x c e z=>by
 obtain ⟨v,o,ho,hd⟩:=I.cell x c e
 obtain ⟨m,⟨o',es,ep,ho',hd',_⟩,_⟩:=I.loc
 rw[z,ho'] at ho;cases ho;rw[hd'] at hd;cases hd
theorem Inv.funs(I:Inv X pins σ H s):s.heap.FunFrames X.base X.outer:=by
 have all:∀ (l:List Env),(∀ b∈frs l,b∈X.fs)->X.s₀.heap.FunFrames X.base l->s.heap.FunFrames X.base l:=by
  intro l
  induction l with
  | nil=>intro _ _;trivial
  | cons env r ih=>
   intro hs hl
   obtain ⟨hk,⟨L,o,hf,hn,ho,hd⟩,hr⟩:=hl
   have hL:L∈X.fs:=hs L (by unfold frs;rw[gK,hf];exact aX)
   obtain ⟨sl,e⟩:=I.base.slot L o ho (I.ok.frf L hL) hL fun z=>I.ok.exfs L z hL
   exact ⟨hk,⟨L,_,hf,hn,e,hd⟩,ih (fun b hb=>hs b (by unfold frs;rw[gK,hf];exact aT _ hb)) hr⟩
 exact all X.outer (fun _ hb=>hb) I.ok.funs
theorem Inv.stack(I:Inv X pins σ H s):s.heap.FunFrames X.base X.stack:=by
 rcases I.ok.stk with e | ⟨e,hf⟩
 ·rw[e];exact I.funs
 ·rw[e]
  obtain ⟨m,hn,_⟩:=I.loc
  refine .cons (by rw[I.ok.kind];decide) hf hn ?_ I.funs
  exact Heap.get?_none_of_le (cJ I.ok.bsz I.ok.above)
theorem Inv.stkSub(I:Inv X pins σ H s):∀ b∈frs X.stack,b∈X.env.locals::X.fs:=fun b hb=>by
 rcases I.ok.stk with e | ⟨e,hf⟩
 ·rw[e] at hb;exact aT _ hb
 ·rw[e] at hb
  unfold frs at hb
  rw[gK,hf] at hb
  exact hb
theorem Inv.stkFree(I:Inv X pins σ H s):∀ b∈frs X.stack,H b=none:=fun b hb=>by
 rcases bH.mp (I.stkSub b hb) with e | hb
 ·rw[e];exact I.free
 ·obtain ⟨_,o,ho,_⟩:=I.ok.funs.mem hb
  exact I.base.free b o ho (I.ok.frf b hb) fun z=>I.ok.exfs b z hb
theorem Inv.step{g':Array lU}{d':Drawn}(I:Inv X pins σ H s)
  (hch:∀ b∈ch,(b∈X.ex\/X.s₀.heap.objs.size<=b)/\b≠X.env.locals/\(∀ x c,X.env.cells.lookup x=some c->c≠b)/\∀ p∈X.pn++pins,p.1≠b)
  (keep:∀ b o,b≠X.env.locals->b∉X.fs->b∉ch->s.heap.get? b=some o->H b=none->h'.get? b=some o)
  (slot:∀ b o,b≠X.env.locals->b∈X.fs->b∉ch->s.heap.get? b=some o->H b=none->∃ sl,h'.get? b=some { o with slots:=sl }) (free:∀ b o,b∉ch->s.heap.get? b=some o->H b=none->H' b=none)
  (there:∀ b o,b∉ch->s.heap.get? b=some o->∃ o',h'.get? b=some o')
  (tups:∀ b xs,H b=some (.tup xs)->H' b=some (.tup xs)) (frzs:∀ b o u,H b=some (.frz o u)->H' b=some (.frz o u)) (tbls:∀ b ps,H b=some (.tbl ps)->∃ more,H' b=some (.tbl (ps++more)))
  (ns:∀ m,s.heap.Ns X.env.locals m->h'.Ns X.env.locals m) (hok:HOk X.prog X.w H' h') (hg:nS g') :
  Inv X pins σ H' { s with heap:=h',gens:=g',drawn:=d',toks:=t' }:=by
 have neL:∀ b o,X.s₀.heap.get? b=some o->b≠X.env.locals:=fun b o e=>bV (bL (aV e) I.ok.above)
 have neC:∀ b o,X.s₀.heap.get? b=some o->b∉X.ex->b∉ch:=fun b o e hx hb=>by
  rcases (hch b hb).1 with z | z
  ·exact hx z
  ·exact absurd (bL (aV e) z) (eJ _)
 have cellK:∀ x c,X.env.cells.lookup x=some c->∀ v,s.heap.IsCell c v->h'.IsCell c v:=fun x c e v zz=>by
  obtain ⟨o,ho,hd⟩:=zz
  have nch:c∉ch:=fun z=>(hch c z).2.2.1 x c e rfl
  by_cases hc:c∈X.fs
  ·obtain ⟨sl,q⟩:=slot c o (I.cne x c e) hc nch ho (I.freeC x c e)
   exact ⟨_,q,hd⟩
  ·exact ⟨o,keep c o (I.cne x c e) hc nch ho (I.freeC x c e),hd⟩
 refine ⟨I.ok,I.os,hg,⟨fun b o e n hb hx=>?_,fun b o e n hb hx=>?_,fun b o e n hx=>?_,fun b o e hx=>?_,fun b xs e=>tups b xs (I.base.tups b xs e),fun b o xs e=>frzs b o xs (I.base.frzs b o xs e),fun b ps e=>?_⟩,?_,fun x c e=>?_,?_,fun x c e=>?_,fun p hp=>?_,hok,I.len⟩
 ·exact keep b o (neL b o e) hb (neC b o e hx) (I.base.keep b o e n hb hx) (I.base.free b o e n hx)
 ·obtain ⟨sl,e1⟩:=I.base.slot b o e n hb hx
  obtain ⟨sl',e2⟩:=slot b _ (neL b o e) hb (neC b o e hx) e1 (I.base.free b o e n hx)
  exact ⟨sl',e2⟩
 ·obtain ⟨o',e1⟩:=I.base.there b o e hx
  exact free b o' (neC b o e hx) e1 (I.base.free b o e n hx)
 ·obtain ⟨o',e1⟩:=I.base.there b o e hx
  exact there b o' (neC b o e hx) e1
 ·obtain ⟨m1,e1⟩:=I.base.tbls b ps e
  obtain ⟨m2,e2⟩:=tbls b _ e1
  exact ⟨m1++m2,by rw[e2,Array.append_assoc]⟩
 ·obtain ⟨m,hn,hl⟩:=I.loc
  refine ⟨m,ns m hn,fun i x v e1 e2 e3=>?_⟩
  obtain ⟨u,r,l⟩:=hl i x v e1 e2 e3
  refine ⟨u,r,?_⟩
  rcases l with l | ⟨k,c,e,z⟩
  ·exact .inl l
  ·exact .inr ⟨k,c,e,cellK x c e _ z⟩
 ·obtain ⟨v,z⟩:=I.cell x c e
  exact ⟨v,cellK x c e v z⟩
 ·obtain ⟨m,⟨o,_,_,ho,_⟩,_⟩:=I.loc
  exact free _ o (fun z=>(hch _ z).2.1 rfl) ho I.free
 ·obtain ⟨v,o,ho,hd⟩:=I.cell x c e
  exact free c o (fun z=>(hch c z).2.2.1 x c e rfl) ho (I.freeC x c e)
 ·obtain ⟨e,n,ne,nf,d⟩:=I.pin p hp
  have nch:p.1∉ch:=fun z=>(hch p.1 z).2.2.2 p hp rfl
  exact ⟨keep p.1 p.2 ne nf nch e n,free p.1 p.2 nch e n,ne,nf,d⟩
theorem Inv.un(I:Inv X pins σ H s)(u:Un X.fs [] H H' s.heap h')(hok:HOk X.prog X.w H' h'):Inv X pins σ H' { s with heap:=h',toks:=t' }:=by
 obtain ⟨m,⟨o,es,ep,ho,r⟩,_⟩:=id I.loc
 obtain ⟨sl,hL⟩:=u.any ho I.free (by simp)
 exact I.step (g':=s.gens) (d':=s.drawn) (ch:=[]) (fun _ z=>nomatch z) (fun b o _ hb _ e n=>u.keep b o e n hb (by simp)) (fun b o _ hb _ e n=>u.slot b o e n hb (by simp)) (fun b o _ e n=>u.free b o e n (by simp)) (fun b o _ e=>u.there b o e (by simp)) u.tups u.frzs u.tbls (fun m' hm=>by
  obtain ⟨o',es',ep',ho',r'⟩:=hm
  rw[ho] at ho';cases ho'
  exact ⟨_,es',ep',hL,r'⟩) hok I.bare
theorem Inv.call{g':Array lU}{d':Drawn}(I:Inv X pins σ H s)(u:Un (frs X.stack) ch H H' s.heap h')(hok:HOk X.prog X.w H' h')(hg:nS g')
  (hch:∀ b∈ch,(b∈X.ex\/X.s₀.heap.objs.size<=b)/\b≠X.env.locals/\(∀ x c,X.env.cells.lookup x=some c->c≠b)/\∀ p∈X.pn++pins,p.1≠b) :
  Inv X pins σ H' { s with heap:=h',gens:=g',drawn:=d',toks:=t' }:=by
 obtain ⟨m,⟨o,es,ep,ho,r⟩,_⟩:=id I.loc
 obtain ⟨sl,hL⟩:=u.any ho I.free fun z=>(hch _ z).2.1 rfl
 exact I.step (ch:=ch) hch (fun b o hL hb hc e n=>u.keep b o e n (fun z=>(bH.mp (I.stkSub b z)).elim hL hb) hc) (fun b o _ _ hc e n=>u.any e n hc) (fun b o hc e n=>u.free b o e n hc) (fun b o hc e=>u.there b o e hc) u.tups u.frzs u.tbls (fun m' hm=>by
  obtain ⟨o',es',ep',ho',r'⟩:=hm
  rw[ho] at ho';cases ho'
  exact ⟨_,es',ep',hL,r'⟩) hok hg
theorem Inv.turned{it:Addr}(I:Inv X pins σ H s)(k:∀ b o,b≠it->s.heap.get? b=some o->h'.get? b=some o)(hn:H it=none)(hL:it≠X.env.locals)
  (h1:it∈X.ex\/X.s₀.heap.objs.size<=it) (h2:∀ x c,X.env.cells.lookup x=some c->c≠it) (h3:∀ p∈X.pn++pins,p.1≠it):Inv X pins σ H { s with heap:=h',toks:=t' }:=by
 have nit:∀ b u,H b=some u->b≠it:=fun b u e z=>by rw[z,hn] at e;cases e
 refine I.step (g':=s.gens) (d':=s.drawn) (ch:=[it]) (fun b hb=>?_) (fun b o _ _ hc e _=>k b o (fun z=>hc (by simp[z])) e) (fun b o _ _ hc e _=>⟨o.slots,k b o (fun z=>hc (by simp[z])) e⟩) (fun _ _ _ _ n=>n)
  (fun b o hc e=>⟨o,k b o (fun z=>hc (by simp[z])) e⟩) (fun _ _ e=>e) (fun _ _ _ e=>e) (fun b ps e=>⟨#[],by rw[e];simp⟩) (fun m hm=>?_) (fun b u e=>?_) I.bare
 ·have e:b=it:=by simpa using hb
  subst e
  exact ⟨h1,hL,h2,h3⟩
 ·obtain ⟨o,es,ep,ho,r⟩:=hm
  exact ⟨o,es,ep,k _ o (eW hL) ho,r⟩
 ·refine (I.hok b u e).stay (fun c v hc q=>k c v ?_ q) (fun _ q=>q) fun _ _ q=>q
  rcases hc with z | z
  ·rw[z];exact nit b u e
  ·exact nit c _ z
theorem Inv.tok(I:Inv X pins σ H s)(t:Nat):Inv X pins σ H { s with toks:=t }:=I.un (h':=s.heap) (t':=t) Un.refl I.hok
theorem Inv.kept(I:Inv X pins σ H s)(k:∀ b u,s.heap.get? b=some u->h'.get? b=some u):Inv X pins σ H { s with heap:=h',toks:=t' }:=I.un (Un.kept k) (I.hok.kept k)
theorem Inv.laid(I:Inv X pins σ H s)(k:∀ b u,s.heap.get? b=some u->h'.get? b=some u)(hp:s.heap.objs.size<=a)(new:ObjOk X.prog X.w (upd H a o) h' a o) :
  Inv X pins σ (upd H a o) { s with heap:=h',toks:=t' }:=I.un (Un.laid k hp (I.hok.fresh hp)) (I.hok.laid k hp new)
theorem Inv.write{x e:Addr}(I:Inv X pins σ H s)(mu:Mut (H x))(he:e=x\/H e=some (.own x))(k:∀ b u,b≠e->s.heap.get? b=some u->h'.get? b=some u)(heo:∃ u,h'.get? e=some u)
  (new:ObjOk X.prog X.w (upd H x o) h' x o):Inv X pins σ (upd H x o) { s with heap:=h',toks:=t' }:=I.un (Un.write mu he k heo) (I.hok.write mu he k heo new)
theorem Inv.pins_of{pins':List (Addr×Obj)}(I:Inv X pins σ H s)(h:∀ p∈pins',s.heap.get? p.1=some p.2/\H p.1=none/\p.1≠X.env.locals/\p.1∉X.fs/\∀ v,p.2.data≠.cell v):Inv X pins' σ H s:=
 ⟨I.ok,I.os,I.bare,I.base,I.loc,I.cell,I.free,I.freeC,fun p hp=>(bP.mp hp).elim (fun z=>I.pin p (dD _ z)) (h p),I.hok,I.len⟩
theorem W9{N:List Str}(hN:N.Nodup){j:Nat}(a:N[i]? = some x)(b:N[j]? = some x):i=j:=by
 obtain ⟨h1,e1⟩:=aG.mp a
 obtain ⟨h2,e2⟩:=aG.mp b
 exact (List.getElem_inj hN).mp (e1.trans e2.symm)
theorem Aea{Q:Unit->aN->Prop}(I:Inv X pins σ H s)(hN:X.N.Nodup)(hi:X.N[i]? = some x)(hx:Loc X.env.scope x)(r:RelV v u)
  (h:∀ s',Inv X pins (σ.set i (some v)) H s'->(∃ a,jW a s.heap s'.heap/\(a=X.env.locals\/X.env.cells.lookup x=some a))->Q () s') (hf:X.fn x=true\/X.env.scope.names.lookup x=some .local:=by first | exact .inl rfl | exact .inr rfl | assumption):wpAny M A (storeName X.env x u) Q E s:=by
 obtain ⟨m,hn,hl⟩:=id I.loc
 have hcls:(X.env.scope.kind == .class || (X.env.scope.kind == .module&&X.env.locals != X.env.globals))=false:=by rw[I.ok.kind];rfl
 have hiσ:i < σ.length:=by rw[I.len];exact (aG.mp hi).1
 have cne:=I.cne
 have tracked:∀ {a:Addr} {h':Heap},(∃ o,s.heap.get? a=some o/\H a=none)->jW a s.heap h'->HOk X.prog X.w H h':=fun {a h'} ha hs b ob e=>by
  obtain ⟨_,_,hfree⟩:=ha
  refine (I.hok b ob e).stay (fun c w' hc q=>(hs.2 c ?_).trans q) (fun _ q=>q) fun _ _ q=>q
  rintro rfl
  rcases hc with rfl | hc
  ·rw[hfree] at e;cases e
  ·rw[hfree] at hc;cases hc
 rcases hx with hk | hk
 ·refine wpAny_storeName_local hk hn (fun h' hn' hs=>?_) hcls
  obtain ⟨oL,_,_,hoL,_⟩:=id hn
  refine h _ ⟨I.ok,I.os,I.bare,⟨fun b o e n hb hx=>?_,fun b o e n hb hx=>?_,I.base.free,fun b o e hx=>?_,I.base.tups,I.base.frzs,I.base.tbls⟩,⟨_,hn',fun j y v' e1 e2 e3=>?_⟩,fun y c e=>?_,I.free,I.freeC,fun p hp=>?_,tracked ⟨oL,hoL,I.free⟩ hs,by simpa using I.len⟩ ⟨_,hs,.inl rfl⟩
  ·exact (hs.2 b (bV (bL (aV e) I.ok.above))).trans (I.base.keep b o e n hb hx)
  ·obtain ⟨sl,e1⟩:=I.base.slot b o e n hb hx
   exact ⟨sl,(hs.2 b (bV (bL (aV e) I.ok.above))).trans e1⟩
  ·obtain ⟨o',e1⟩:=I.base.there b o e hx
   exact ⟨o',(hs.2 b (bV (bL (aV e) I.ok.above))).trans e1⟩
  ·by_cases hj:j=i
   ·subst hj
    rw[hi] at e1;cases e1
    rw[bI hiσ] at e2
    cases e2
    exact ⟨u,r,.inl ⟨hk,by simp⟩⟩
   ·rw[bD (eW hj)] at e2
    obtain ⟨u',r',q⟩:=hl j y v' e1 e2 e3
    refine ⟨u',r',?_⟩
    rcases q with ⟨k,e⟩ | ⟨k,c,e,z⟩
    ·refine .inl ⟨k,?_⟩
     have:y≠x:=fun e=>hj (W9 hN e1 (e ▸ hi))
     simp[this,e]
    ·exact .inr ⟨k,c,e,z.sameBut hs (cne y c e)⟩
  ·obtain ⟨w',z⟩:=I.cell y c e
   exact ⟨w',z.sameBut hs (cne y c e)⟩
  ·obtain ⟨e,n,ne,nf,d⟩:=I.pin p hp
   exact ⟨(hs.2 p.1 ne).trans e,n,ne,nf,d⟩
 ·have hfn:X.fn x=true:=by
   rcases hf with z | z
   ·exact z
   ·rw[z] at hk;cases hk
  obtain ⟨c,hc⟩:=I.ok.has x (.inl hk)
  obtain ⟨w',z⟩:=I.cell x c hc
  refine wpAny_storeName_cell I.ok.kind hk hc z (fun h' hc' hs=>?_)
  obtain ⟨oc,hoc,hocd⟩:=id z
  refine h { s with heap:=h' } ⟨I.ok,I.os,I.bare,⟨fun b o e n hb hx=>?_,fun b o e n hb hx=>?_,I.base.free,fun b o e hx=>?_,I.base.tups,I.base.frzs,I.base.tbls⟩,⟨m,hn.sameBut hs (eW (cne x c hc)),fun j y v' e1 e2 e3=>?_⟩,fun y c' e=>?_,I.free,I.freeC,fun p hp=>?_,tracked ⟨oc,hoc,I.freeC x c hc⟩ hs,by simpa using I.len⟩ ⟨c,hs,.inr hc⟩
  ·exact (hs.2 b (bV (bL (aV e) (I.ok.cab x c hfn hc)))).trans (I.base.keep b o e n hb hx)
  ·obtain ⟨sl,e1⟩:=I.base.slot b o e n hb hx
   exact ⟨sl,(hs.2 b (bV (bL (aV e) (I.ok.cab x c hfn hc)))).trans e1⟩
  ·obtain ⟨o',e1⟩:=I.base.there b o e hx
   exact ⟨o',(hs.2 b (bV (bL (aV e) (I.ok.cab x c hfn hc)))).trans e1⟩
  ·by_cases hj:j=i
   ·subst hj
    rw[hi] at e1;cases e1
    rw[bI hiσ] at e2
    cases e2
    exact ⟨u,r,.inr ⟨.inl hk,c,hc,hc'⟩⟩
   ·rw[bD (eW hj)] at e2
    obtain ⟨u',r',q⟩:=hl j y v' e1 e2 e3
    refine ⟨u',r',?_⟩
    rcases q with q | ⟨k,c',e,z'⟩
    ·exact .inl q
    ·refine .inr ⟨k,c',e,z'.sameBut hs ?_⟩
     rintro rfl
     exact hj (W9 hN e1 (I.ok.inj _ _ _ e hc ▸ hi))
  ·by_cases hcc:c'=c
   ·subst hcc;exact ⟨_,hc'⟩
   ·obtain ⟨w2,z2⟩:=I.cell y c' e
    exact ⟨w2,z2.sameBut hs hcc⟩
  ·obtain ⟨e,n,ne,nf,d⟩:=I.pin p hp
   refine ⟨(hs.2 p.1 ?_).trans e,n,ne,nf,d⟩
   intro q
   rw[q,hoc] at e
   have q':oc=p.2:=bR e
   exact d w' (by rw[<- q'];exact hocd)
theorem X4{Q:Unit->aN->Prop}(I:Inv X pins σ H s)(hN:X.N.Nodup)(hi:X.N[i]? = some x)(hx:Loc X.env.scope x)(r:RelV v u)
  (h:∀ s',Inv X pins (σ.set i (some v)) H s'->Q () s') (hf:X.fn x=true\/X.env.scope.names.lookup x=some .local:=by first | exact .inl rfl | exact .inr rfl | assumption):wpAny M A (storeName X.env x u) Q E s:=
 Aea I hN hi hx r (fun s' I' _=>h s' I') hf
theorem Inv.call'(I:Inv X pins σ H s)(ho:s'.os=s.os)(u:Un (frs X.stack) ch H H' s.heap s'.heap)(hok:HOk X.prog X.w H' s'.heap)(hg:nS s'.gens)
  (hch:∀ b∈ch,(b∈X.ex\/X.s₀.heap.objs.size<=b)/\b≠X.env.locals/\(∀ x c,X.env.cells.lookup x=some c->c≠b)/\∀ p∈X.pn++pins,p.1≠b):Inv X pins σ H' s':=by
 obtain ⟨h',g',d',t',o'⟩:=s'
 have e:o'=s.os:=ho
 subst e
 exact I.call (g':=g') (t':=t') (d':=d') u hok hg hch
end
abbrev XK:=aJ->Option Addr->Hp->Prop
abbrev St:=List (Option V)
abbrev VK:=V->Hp->Prop
abbrev TE:=St->Hp->VK->Prop
abbrev TT:=St->Hp->(Bool->Hp->Prop)->Prop
abbrev TA:=St->Hp->(List V->Hp->Prop)->Prop
structure Ends where
 nx:St->Hp->Prop
 rt:VK
 bk:St->Hp->Prop:=fun _ _=>False
 ct:St->Hp->Prop:=fun _ _=>False
abbrev TS:=Ends->St->Hp->Prop
inductive EP(X:Cx)(pins:List (Addr×Obj))(σ:St)(Q:VK)(u:aJ)(s':aN):Prop
 | mk (v:V) (H':Hp) (I:Inv X pins σ H' s') (r:RelV v u) (q:Q v H'):EP X pins σ Q u s'
inductive TP(X:Cx)(pins:List (Addr×Obj))(σ:St)(Q:Bool->Hp->Prop)(b:Bool)(s':aN):Prop
 | mk (H':Hp) (I:Inv X pins σ H' s') (q:Q b H'):TP X pins σ Q b s'
inductive AP(X:Cx)(pins:List (Addr×Obj))(σ:St)(Q:List V->Hp->Prop)(us:List aJ)(s':aN):Prop
 | mk (vs:List V) (H':Hp) (I:Inv X pins σ H' s') (r:Vals vs us) (q:Q vs H'):AP X pins σ Q us s'
variable {σ:St}{Q:VK}
theorem EP.elim{C:Prop}(h:EP X pins σ Q u s')(k:∀ v H',Inv X pins σ H' s'->RelV v u->Q v H'->C):C:=h.rec k
theorem AP.elim{Q:List V->Hp->Prop}{C:Prop}(h:AP X pins σ Q us s')(k:∀ vs H',Inv X pins σ H' s'->Vals vs us->Q vs H'->C):C:=h.rec k
noncomputable def SP(X:Cx)(pins:List (Addr×Obj))(D:Ends)(f:Flow)(s':aN):Prop:=
 match f with
 | .next=>∃ σ' H',Inv X pins σ' H' s'/\D.nx σ' H'
 | .brk=>∃ σ' H',Inv X pins σ' H' s'/\D.bk σ' H'
 | .cont=>∃ σ' H',Inv X pins σ' H' s'/\D.ct σ' H'
 | .ret u=>∃ v σ' H',Inv X pins σ' H' s'/\RelV v u/\D.rt v H'
noncomputable def PE(X:Cx)(e:Expr)(t:TE):Prop:=
 ∀ (pins:List (Addr×Obj)) (s:aN) (σ:St) (H:Hp) (Q:VK),Inv X pins σ H s->t σ H Q->wpAny (model X.prog X.w) X.A (eval e X.env) (EP X pins σ Q) X.xe s
noncomputable def PT(X:Cx)(e:Expr)(t:TT):Prop:=
 ∀ (pins:List (Addr×Obj)) (s:aN) (σ:St) (H:Hp) (Q:Bool->Hp->Prop),Inv X pins σ H s->t σ H Q->wpAny (model X.prog X.w) X.A (isTrue e X.env (eval e X.env)) (TP X pins σ Q) X.xe s
noncomputable def PW(X:Cx)(e:Expr)(t:TT):Prop:=
 ∀ (whole:Sem aJ) (pins:List (Addr×Obj)) (s:aN) (σ:St) (H:Hp) (Q:Bool->Hp->Prop),Inv X pins σ H s->t σ H Q->wpAny (model X.prog X.w) X.A (isTrue e X.env whole) (TP X pins σ Q) X.xe s
variable {e:Expr}
theorem PW.pt{t:TT}(h:PW X e t):PT X e t:=h _
noncomputable def PA(X:Cx)(es:List Expr)(t:TA):Prop:=
 ∀ (pos:Pos) (pins:List (Addr×Obj)) (s:aN) (σ:St) (H:Hp) (Q:List V->Hp->Prop),Inv X pins σ H s->t σ H Q->wpAny (model X.prog X.w) X.A (spliced (backTo pos (bS es X.env))) (AP X pins σ Q) X.xe s
noncomputable def PS(X:Cx)(st:Stmt)(t:TS):Prop:=
 ∀ (pins:List (Addr×Obj)) (s:aN) (σ:St) (H:Hp) (D:Ends),Inv X pins σ H s->t D σ H->wpAny (model X.prog X.w) X.A (exec st X.env) (SP X pins D) X.xe s
noncomputable def PSs(X:Cx)(st:List Stmt)(t:TS):Prop:=
 ∀ (pins:List (Addr×Obj)) (s:aN) (σ:St) (H:Hp) (D:Ends),Inv X pins σ H s->t D σ H->wpAny (model X.prog X.w) X.A (execs st X.env) (SP X pins D) X.xe s
theorem thn{α:Type}{t:Sem α}{Q Q':α->aN->Prop}(h:wpAny M A t Q E s)(hQ:∀ a s,Q a s->Q' a s):wpAny M A t Q' E s:=fO h hQ fun _ _ x=>x
variable {pos:Pos}{ta tb:TE}{c:Expr}
section
noncomputable def Apy(i:Nat):TE:=fun σ H Q=>∃ v,σ[i]? = some (some v)/\Q v H
noncomputable def tC(v:V):TE:=fun _ H Q=>Q v H
theorem Af2(hN:X.N[i]? = some x)(hv:Vis X.env.scope x)(hd:(x == ("__debug__" : Str))=false:=by decide)(hcd:(x == ("__classdict__" : Str))=false:=by decide):PE X (.Name x pos) (Apy i):=by
 intro pins s σ H Q I h
 obtain ⟨v,e,h⟩:=h
 obtain ⟨m,hn,hl⟩:=I.loc
 obtain ⟨u,r,l⟩:=hl i x v hN e hv
 have fin:EP X pins σ Q u s:=⟨v,H,I,r,h⟩
 rcases l with ⟨hk,hm⟩ | ⟨hk,c,hc,hcell⟩
 ·exact sO (wpAny_loadName_local I.ok.kind hk hn hm fin) hd
 ·rcases hk with hk | hk
  ·exact sO (wpAny_loadName_cell I.ok.kind hk hc hcell fin) hd
  ·exact sO (wpAny_loadName_free I.ok.kind hk hc hcell fin hcd) hd
theorem An1{i j pos}:PE X (.Constant (.int i) j pos) (tC (.int i)):=fun _ _ _ H _ I h=>wpAny_Constant_int ⟨.int i,H,I.tok _,⟨_,rfl⟩,h⟩
theorem Apf{b j pos}:PE X (.Constant (.bool b) j pos) (tC (.bl b)):=fun _ _ _ H _ I h=>Constant_bool ⟨.bl b,H,I,rfl,h⟩
theorem Amh{x j pos}:PE X (.Constant (.str x) j pos) (tC (.str x)):=fun _ _ _ H _ I h=>Calls.Constant_str ⟨.str x,H,I.tok _,⟨_,rfl⟩,h⟩
noncomputable def Gl(X:Cx)(x:Str):Prop:=X.env.kindOf x=some .globalImplicit
theorem Acu{Q:aJ->aN->Prop}(I:Inv X pins σ H s)(hg:Gl X x)(hm:X.mg x=some u)(h:Q u s)
  (hd:(x == ("__debug__" : Str))=false:=by decide):wpAny (model X.prog X.w) X.A (eval (.Name x pos) X.env) Q E s:=
 lV I.ok.kind hg (Calls.loadGlobal_global (by rw[I.ok.glob];exact I.mod.glob.keeps I.bk) hm h) hd
theorem Jm{Q:aJ->aN->Prop}(I:Inv X pins σ H s)(hg:Gl X x)(hm:X.mg x=none)(hv:gC x=some u)(h:Q u s)
  (hn:x ≠ "__name__" := by decide) (hd:(x == ("__debug__" : Str))=false:=by decide):wpAny (model X.prog X.w) X.A (eval (.Name x pos) X.env) Q E s:=by
 obtain ⟨mb,h1,h2⟩:=I.mod.blt
 exact lV I.ok.kind hg (Calls.loadGlobal_builtin (by rw[I.ok.glob];exact I.mod.glob.keeps I.bk) hm (by rw[I.ok.blt];exact h1.keeps I.bk) ((h2 x hn).trans hv) h) hd
theorem Ab8(hg:Gl X x)(hm:X.mg x=some u)(r:RelV v u)(hd:(x == ("__debug__" : Str))=false:=by decide):PE X (.Name x pos) (tC v):=
 fun _ _ _ H _ I h=>Acu I hg hm ⟨v,H,I,r,h⟩ hd
theorem Aiy(hg:Gl X x)(hm:X.mg x=none)(hv:gC x=some u)(r:RelV v u)(hn:x ≠ "__name__" := by decide)(hd:(x == ("__debug__" : Str))=false:=by decide):PE X (.Name x pos) (tC v):=
 fun _ _ _ H _ I h=>Jm I hg hm hv ⟨v,H,I,r,h⟩ hn hd
variable {a b:Expr}
variable {tA tB':TT}{rest:List Expr}
noncomputable def Ap8(t u:TT):TT:=fun σ H Q=>t σ H fun c H1=>if c=true then u σ H1 Q else Q false H1
noncomputable def tOr(t u:TT):TT:=fun σ H Q=>t σ H fun c H1=>if c=true then Q true H1 else u σ H1 Q
noncomputable def Aqm(t:TT):TT:=fun σ H Q=>t σ H fun c H1=>Q (!c) H1
theorem Ajd(ha:PT X a tA):PW X (.BoolOp .And [a] pos) tA:=by
 intro wh pins s σ H Q I h
 refine isTrue_and (thn (ha pins s σ H Q I h) fun c s1 e=>?_)
 cases c with
 | true=>exact isTrue_and_nil e
 | false=>exact e
theorem Amd(ha:PT X a tA):PW X (.BoolOp .Or [a] pos) tA:=by
 intro wh pins s σ H Q I h
 refine isTrue_or (thn (ha pins s σ H Q I h) fun c s1 e=>?_)
 cases c with
 | false=>exact isTrue_or_nil e
 | true=>exact e
theorem Al9(ha:PT X a tA)(hb:PW X (.BoolOp .And (b::rest) pos) tB'):PW X (.BoolOp .And (a::b::rest) pos) (Ap8 tA tB'):=by
 intro wh pins s σ H Q I h
 refine isTrue_and (thn (ha pins s σ H _ I h) fun c s1 zz=>?_)
 obtain ⟨H1,I1,q1⟩:=zz
 cases c with
 | true=>exact hb wh pins s1 σ H1 Q I1 q1
 | false=>exact ⟨H1,I1,q1⟩
theorem Aph(ha:PT X a tA)(hb:PW X (.BoolOp .Or (b::rest) pos) tB'):PW X (.BoolOp .Or (a::b::rest) pos) (tOr tA tB'):=by
 intro wh pins s σ H Q I h
 refine isTrue_or (thn (ha pins s σ H _ I h) fun c s1 zz=>?_)
 obtain ⟨H1,I1,q1⟩:=zz
 cases c with
 | true=>exact ⟨H1,I1,q1⟩
 | false=>exact hb wh pins s1 σ H1 Q I1 q1
theorem Ali(ha:PT X a tA):PT X (.UnaryOp .Not a pos) (Aqm tA):=by
 intro pins s σ H Q I h
 exact isTrue_not (thn (ha pins s σ H (fun c H1=>Q (!c) H1) I h) fun _ _ z=>z.rec fun H' I' q=>⟨H',I',q⟩)
noncomputable def Aol(ta tb:TE):TE:=fun σ H Q=>ta σ H fun x H1=>∃ c,x = .bl c/\if c=true then tb σ H1 Q else Q (.bl false) H1
theorem Alv{op}{t:TE}(h:PE X a t):PE X (.BoolOp op [a] pos) t:=fun pins s σ H Q I hw=>BoolOp_one (h pins s σ H Q I hw)
theorem Ak4(ha:PE X a ta)(hb:PE X (.BoolOp .And (b::rest) pos) tb):PE X (.BoolOp .And (a::b::rest) pos) (Aol ta tb):=by
 intro pins s σ H Q I h
 refine BoolOp_and (thn (ha pins s σ H _ I h) fun v s1 zz=>?_)
 obtain ⟨x,H1,I1,r1,q1⟩:=zz
 obtain ⟨c,rfl,q1⟩:=q1
 cases r1
 refine jX ?_
 cases c with
 | true=>exact hb pins s1 σ H1 Q I1 q1
 | false=>exact ⟨.bl false,H1,I1,rfl,q1⟩
noncomputable def tIf(t:TT)(ta tb:TE):TE:=fun σ H Q=>t σ H fun c H1=>if c=true then ta σ H1 Q else tb σ H1 Q
theorem Af7(hc:PT X c tA)(ha:PE X a ta)(hb:PE X b tb):PE X (.IfExp c a b pos) (tIf tA ta tb):=by
 intro pins s σ H Q I h
 refine wpAny_IfExp (thn (hc pins s σ H _ I h) fun d s1 zz=>?_)
 obtain ⟨H1,I1,q1⟩:=zz
 cases d with
 | true=>exact ha pins s1 σ H1 Q I1 q1
 | false=>exact hb pins s1 σ H1 Q I1 q1
end
noncomputable def SqL(K:aK)(H:Hp)(a:Addr)(xs:List V):Prop:=
 Rd H a (.lst xs) \/
  ∃ (o:Obj) (its:Array aJ) (n:Nat),K.lookup a=some o/\o.cls = .type "list" /\ o.dict=none/\o.data = .seq its n/\its.size<=sizeLine/\Vals xs its.toList
noncomputable def SqT(K:aK)(H:Hp)(a:Addr)(xs:List V):Prop:=
 Rd H a (.tup xs) \/
  ∃ (o:Obj) (its:Array aJ) (n:Nat),K.lookup a=some o/\(o.cls,o.dict)=(iW "tuple",(none:Option Addr))/\o.data = .seq its n/\its.size<=sizeLine/\Vals xs its.toList
noncomputable def Aqr:aJ->Option V
 | .none=>some .non
 | .bool b=>some (.bl b)
 | .int i _=>some (.int i)
 | .str x _=>some (.str x)
 | .bytes b _=>some (.byt b)
 | .float b _=>some (.flt b)
 | .ref a=>some (.ref a)
 | .type n=>some (.ty n)
 | _=>none
theorem RelV.abs{x:V}(r:RelV x u):Aqr u=some x:=by
 cases x with
 | non=>cases r;rfl
 | bl _=>cases r;rfl
 | int _=>obtain ⟨t,rfl⟩:=r;rfl
 | str _=>obtain ⟨t,rfl⟩:=r;rfl
 | byt _=>obtain ⟨t,rfl⟩:=r;rfl
 | flt _=>obtain ⟨t,rfl⟩:=r;rfl
 | ref _=>cases r;rfl
 | ty _=>cases r;rfl
theorem RelV.inj{x y:V}(r:RelV x u)(q:RelV y u):x=y:=bR (r.abs.symm.trans q.abs)
theorem Vals.inj(h:Vals xs us)(h':Vals ys us):xs=ys:=by
 induction h generalizing ys with
 | nil=>cases h';rfl
 | cons r t ih=>
  cases h' with
  | cons r' t'=>rw[r.inj r',ih t']
variable {K:aK}
section
theorem SqL.of(h:H a=some (.lst xs)):SqL K H a xs:=.inl (.inl h)
theorem SqT.of(h:H a=some (.tup xs)):SqT K H a xs:=.inl (.inl h)
theorem Inv.list(I:Inv X pins σ H s)(h:SqL X.K H a xs):∃ its:List aJ,Vals xs its/\PlainL s.heap a its.toArray/\xs.length<=sizeLine:=by
 rcases h with h | ⟨o,its,n,hk,hc,hd,hs,hz,r⟩
 ·obtain ⟨z,its,n,r,e⟩:=h.ok I.hok
  exact ⟨its,r,⟨_,n,e,rfl,rfl,rfl⟩,z⟩
 ·refine ⟨its.toList,r,⟨o,n,I.kIn a o hk,hc,hd,by simpa using hs⟩,?_⟩
  have e:=r.length
  simp only[eK] at e
  omega
theorem Inv.tupleN(I:Inv X pins σ H s)(h:SqT X.K H a xs):∃ its:List aJ,Vals xs its/\TupN s.heap a its.toArray/\xs.length<=sizeLine:=by
 rcases h with h | ⟨o,its,n,hk,hc,hs,hz,r⟩
 ·obtain ⟨z,its,r,p⟩:=h.ok I.hok
  exact ⟨its,r,p,z⟩
 ·refine ⟨its.toList,r,⟨o,I.kIn a o hk,hc,n,by simpa using hs⟩,?_⟩
  have e:=r.length
  simp only[eK] at e
  omega
theorem Inv.tuple(I:Inv X pins σ H s)(h:SqT X.K H a xs):∃ its:List aJ,Vals xs its/\sP s.heap a its.toArray/\xs.length<=sizeLine:=by
 obtain ⟨its,r,p,z⟩:=I.tupleN h
 exact ⟨its,r,p.is,z⟩
theorem Inv.list_inj(I:Inv X pins σ H s)(h:SqL X.K H a xs)(h':SqL X.K H a ys):xs=ys:=by
 obtain ⟨its,r,⟨o,n,e,_,_,d⟩,_⟩:=I.list h
 obtain ⟨its',r',⟨o',n',e',_,_,d'⟩,_⟩:=I.list h'
 rw[e] at e';cases e'
 rw[d] at d'
 injection d' with d1 _
 have:its=its':=by simpa using congrArg tM d1
 subst this
 exact r.inj r'
theorem Inv.tuple_inj(I:Inv X pins σ H s)(h:SqT X.K H a xs)(h':SqT X.K H a ys):xs=ys:=by
 obtain ⟨its,r,⟨o,e,_,n,d⟩,_⟩:=I.tuple h
 obtain ⟨its',r',⟨o',e',_,n',d'⟩,_⟩:=I.tuple h'
 rw[e] at e';cases e'
 rw[d] at d'
 injection d' with d1 _
 have:its=its':=by simpa using congrArg tM d1
 subst this
 exact r.inj r'
end
abbrev Cx.wish(X:Cx)(E:aJ->aN->Prop):Cx:={ X with xe:=E }
abbrev Cx.nox(X:Cx):Cx:=X.wish fun _ _=>False
theorem Cx.Ok.wish(ok:X.Ok)(E:aJ->aN->Prop):(X.wish E).Ok:=
 ⟨ok.mod,ok.kind,ok.glob,ok.blt,ok.above,ok.inj,ok.has,ok.cab,ok.hd,ok.frames,ok.stk,ok.exf,ok.bs,ok.bsz,ok.noex,ok.exfs,ok.funs,ok.frf⟩
theorem Cx.Ok.unwish(ok:(X.wish E).Ok):X.Ok:=
 ⟨ok.mod,ok.kind,ok.glob,ok.blt,ok.above,ok.inj,ok.has,ok.cab,ok.hd,ok.frames,ok.stk,ok.exf,ok.bs,ok.bsz,ok.noex,ok.exfs,ok.funs,ok.frf⟩
section
theorem Inv.wish(I:Inv X pins σ H s)(E:aJ->aN->Prop):Inv (X.wish E) pins σ H s:=⟨I.ok.wish E,I.os,I.bare,I.base,I.loc,I.cell,I.free,I.freeC,I.pin,I.hok,I.len⟩
theorem Inv.unwish(I:Inv (X.wish E) pins σ H s):Inv X pins σ H s:=⟨I.ok.unwish,I.os,I.bare,I.base,I.loc,I.cell,I.free,I.freeC,I.pin,I.hok,I.len⟩
theorem SP.unwish{D:Ends}{f:Flow}(h:SP (X.wish E) pins D f s'):SP X pins D f s':=by
 cases f with
 | next=>obtain ⟨σ',H',I,q⟩:=h;exact ⟨σ',H',I.unwish,q⟩
 | brk=>obtain ⟨σ',H',I,q⟩:=h;exact ⟨σ',H',I.unwish,q⟩
 | cont=>obtain ⟨σ',H',I,q⟩:=h;exact ⟨σ',H',I.unwish,q⟩
 | ret u=>obtain ⟨v,σ',H',I,r,q⟩:=h;exact ⟨v,σ',H',I.unwish,r,q⟩
theorem PSs.nox{st:List Stmt}{t:TS}(h:PSs X.nox st t):PSs X st t:=fun pins s σ H D I hw=>
 fO (h pins s σ H D (I.wish _) hw) (fun _ _ q=>q.unwish) fun _ _ z=>gI z
end
variable {te:TE}
section
variable {st:Stmt}{rest:List Stmt}{t u:TS}
noncomputable def Aox:TS:=fun D σ H=>D.nx σ H
noncomputable def Aqc(t u:TS):TS:=fun D σ H=>t { D with nx:=u D } σ H
theorem Aic:PSs X [] Aox:=fun _ _ σ H _ I h=>kX ⟨σ,H,I,h⟩
theorem Aew(h1:PS X st t)(h2:PSs X rest u):PSs X (st::rest) (Aqc t u):=by
 intro pins s σ H D I h
 refine rB (thn (h1 pins s σ H { D with nx:=u D } I h) fun f s1 q=>?_)
 cases f with
 | next=>
  obtain ⟨σ',H',I',q⟩:=q
  exact h2 pins s1 σ' H' D I' q
 | ret v=>exact q
 | brk=>exact q
 | cont=>exact q
theorem Aia(h1:PS X st t):PSs X [st] t:=by
 intro pins s σ H D I h
 refine rB (thn (h1 pins s σ H D I h) fun f s1 q=>?_)
 cases f with
 | next=>exact kX q
 | ret v=>exact q
 | brk=>exact q
 | cont=>exact q
theorem Inv.quiet(I:Inv X pins σ H s):interactive X.env=false:=by simp[interactive,I.ok.kind]
noncomputable def Ape(te:TE):TS:=fun D σ H=>te σ H fun _ H1=>D.nx σ H1
theorem Aja(he:PE X e te)(hs:swapsWith e none pos.line X.env=pure false:=by rfl):PS X (.Expr e pos) (Ape te):=by
 intro pins s σ H D I h
 exact wpAny_Expr_any (thn (he pins s σ H _ I h) fun v s1 zz=>by obtain ⟨x,H1,I1,r1,q1⟩:=zz;exact ⟨σ,H1,I1,q1⟩) I.quiet hs
noncomputable def Aqi(te:TE):TS:=fun D σ H=>te σ H D.rt
theorem Alk(he:PE X e te):PS X (.Return (some e) pos) (Aqi te):=by
 intro pins s σ H D I h
 exact wpAny_Return_some (thn (he pins s σ H _ I h) fun v s1 zz=>by obtain ⟨x,H1,I1,r1,q1⟩:=zz;exact ⟨x,σ,H1,I1,r1,q1⟩)
noncomputable def Aqo(c:TT)(t u:TS):TS:=fun D σ H=>c σ H fun b H1=>if b=true then t D σ H1 else u D σ H1
theorem Apz{a b:List Stmt}{tc:TT}(hc:PT X c tc)(ha:PSs X a t)(hb:PSs X b u):PS X (.If c a b pos) (Aqo tc t u):=by
 intro pins s σ H D I h
 refine wpAny_If (thn (hc pins s σ H _ I h) fun d s1 zz=>?_)
 obtain ⟨H1,I1,q1⟩:=zz
 cases d with
 | true=>exact ha pins s1 σ H1 D I1 q1
 | false=>exact hb pins s1 σ H1 D I1 q1
end
abbrev TG:=V->St->Hp->(St->Hp->Prop)->Prop
abbrev TGs:=List V->St->Hp->(St->Hp->Prop)->Prop
noncomputable def PG(X:Cx)(target:Expr)(t:TG):Prop:=
 ∀ (pins:List (Addr×Obj)) (s:aN) (σ:St) (H:Hp) (v:V) (u:aJ) (Q:St->Hp->Prop),Inv X pins σ H s->RelV v u->t v σ H Q ->
  wpAny (model X.prog X.w) X.A (assign target X.env u) (fun _ s'=>∃ σ' H',Inv X pins σ' H' s'/\Q σ' H') X.xe s
noncomputable def PGs(X:Cx)(ts:List Expr)(t:TGs):Prop:=
 ∀ (pins:List (Addr×Obj)) (s:aN) (σ:St) (H:Hp) (vs:List V) (us:List aJ) (Q:St->Hp->Prop),Inv X pins σ H s->Vals vs us->t vs σ H Q ->
  wpAny (model X.prog X.w) X.A (assignInOrder ((assignEach ts X.env).map (·.2)) us) (fun _ s'=>∃ σ' H',Inv X pins σ' H' s'/\Q σ' H') X.xe s
abbrev Am6:=V->V->V->Hp->(Hp->Prop)->Prop
noncomputable def Apo(X:Cx)(t:Am6):Prop:=
 ∀ (pins:List (Addr×Obj)) (s:aN) (σ:St) (H:Hp) (o i v:V) (ov iv u:aJ) (Q:Hp->Prop),Inv X pins σ H s->RelV o ov->RelV i iv->RelV v u->t o i v H Q ->
  wpAny (model X.prog X.w) X.A (setItem ov iv u) (fun _ s'=>∃ H',Inv X pins σ H' s'/\Q H') X.xe s
variable {es:List Expr}{k:Nat}{tg:Expr}
section
noncomputable def W3(i:Nat):TG:=fun v σ H Q=>Q (σ.set i (some v)) H
theorem Acw(hN:X.N.Nodup)(hi:X.N[i]? = some x)(hx:Loc X.env.scope x)(hf:X.fn x=true\/X.env.scope.names.lookup x=some .local:=by first | exact .inl rfl | exact .inr rfl | assumption):PG X (.Name x pos) (W3 i):=by
 intro pins s σ H v u Q I r h
 exact wpAny_assign_Name (X4 I hN hi hx r (fun s' I'=>⟨_,H,I',h⟩) hf)
noncomputable def gNil:TGs:=fun vs σ H Q=>vs=[]/\Q σ H
noncomputable def gCons(t:TG)(u:TGs):TGs:=fun vs σ H Q=>∃ v r,vs=v::r/\t v σ H fun σ' H'=>u r σ' H' Q
theorem Ajo:PGs X [] gNil:=by
 intro pins s σ H vs us Q I r h
 obtain ⟨e,h⟩:=h
 subst e
 cases r
 exact assignInOrder_nil ⟨σ,H,I,h⟩
theorem Ahn{t:TG}{u:TGs}(h1:PG X e t)(h2:PGs X es u)
  (hs:(assignEach (e::es) X.env).map (·.2)=assign e X.env::(assignEach es X.env).map (·.2):=by rfl):PGs X (e::es) (gCons t u):=by
 intro pins s σ H vs us Q I r h
 obtain ⟨v,vr,e1,h⟩:=h
 subst e1
 cases r with
 | cons r rr=>
  rw[hs]
  refine assignInOrder_cons (thn (h1 pins s σ H _ _ _ I r h) fun _ s1 zz=>?_)
  obtain ⟨σ1,H1,I1,q1⟩:=zz
  exact h2 pins s1 σ1 H1 _ _ Q I1 rr q1
noncomputable def gTup(K:aK)(n:Nat)(t:TGs):TG:=fun v σ H Q=>∃ a xs,v = .ref a/\SqT K H a xs/\xs.length=n/\t xs σ H Q
theorem Ana{t:TGs}{n:Nat}(hc:X.calm=true)(h:PGs X es t)
  (hn:(assignEach es X.env).length=n:=by rfl) (hst:(assignEach es X.env).findIdx? (·.1)=none:=by rfl):PG X (.Tuple es k pos) (gTup X.K n t):=by
 intro pins s σ H v u Q I r hw
 obtain ⟨a,xs,e1,hq,hl,hw⟩:=hw
 subst e1
 cases r
 obtain ⟨its,rv,ht,hz⟩:=I.tuple hq
 refine assign_Tuple_tuple (I.ok.hd hc) ht (by simp[hn,<- hl,rv.length]) hst fun h' hx=>?_
 have I1:Inv X pins σ H { s with heap:=h' }:=I.kept (t':=s.toks) fun b o e=>hx b o (bV (aV e)) e
 exact h pins _ σ H xs _ Q I1 (by simpa using rv) hw
noncomputable def gSub(to ti:TE)(t:Am6):TG:=fun v σ H Q=>to σ H fun o H1=>ti σ H1 fun i H2=>t o i v H2 fun H3=>Q σ H3
theorem Ak2{o i:Expr}{to ti:TE}{t:Am6}(ho:PE X o to)(hi:PE X i ti)(hs:Apo X t)
  (ha:∀ v,assign (.Subscript o i pos) X.env v=(do
   let ov <- holding [v] (eval o X.env)
   let iv <- holding [v,ov] (eval i X.env)
   standAt pos
   holding [v,ov,iv] (setItem ov iv v)
   release [v,ov,iv] []):=by intro _;rfl):PG X (.Subscript o i pos) (gSub to ti t):=by
 intro pins s σ H v u Q I r h
 rw[ha]
 refine aD (cZ (thn (ho pins s σ H _ I h) fun ov s1 zz=>?_))
 obtain ⟨x,H1,I1,r1,q1⟩:=zz
 refine aD (cZ (thn (hi pins s1 σ H1 _ I1 q1) fun iv s2 zz=>?_))
 obtain ⟨y,H2,I2,r2,q2⟩:=zz
 refine aD (kQ (aD (cZ (thn (hs pins s2 σ H2 x y v ov iv u _ I2 r1 r2 r q2) fun _ s3 zz=>?_))))
 obtain ⟨H3,I3,q3⟩:=zz
 exact wpAny_release ⟨σ,H3,I3,q3⟩
noncomputable def Aif(te:TE)(g:TG):TS:=fun D σ H=>te σ H fun x H1=>g x σ H1 D.nx
theorem Ama{g:TG}(he:PE X e te)(hg:PG X tg g)(hs:swapsWithSole [tg] e pos.line X.env=pure false:=by rfl)(hw:swappedStores [tg] e X.env=pure none:=by rfl)
  (h1:(assignEach [tg] X.env).map (·.2)=[assign tg X.env]:=by rfl):PS X (.Assign [tg] e pos) (Aif te g):=by
 intro pins s σ H D I h
 refine wpAny_Assign_stores (thn (he pins s σ H _ I h) fun v s1 zz=>zz.elim fun x H1 I1 r1 q1=>?_) hs hw
 rw[h1]
 exact thn (hg pins s1 σ H1 x v _ I1 r1 q1) fun _ s2 q=>q
theorem Anw{pos':Pos}(hN:X.N.Nodup)(hi:X.N[i]? = some x)(hx:Loc X.env.scope x)(he:PE X e te)(hs:swapsWith e (some (.Name x pos')) pos.line X.env=pure false:=by rfl)(hf:X.fn x=true\/X.env.scope.names.lookup x=some .local:=by first | exact .inl rfl | exact .inr rfl | assumption) :
  PS X (.Assign [.Name x pos'] e pos) (Aif te (W3 i)):=by
 intro pins s σ H D I h
 refine wpAny_Assign_Name (thn (he pins s σ H _ I h) fun v s1 zz=>zz.elim fun y H1 I1 r1 q1=>?_) hs
 exact X4 I1 hN hi hx r1 (fun s2 I2=>⟨_,H1,I2,q1⟩) hf
end
variable {body:List Stmt}
section
noncomputable def Alq(c:TT)(tb:TS):TS:=fun D σ H=>∃ W:Nat->St->Hp->Prop,(∃ m,W m σ H)/\∀ m σ H,W m σ H ->
 c σ H fun b H1=>if b=true then ∃ N:St->Hp->Prop,(∀ σ' H',N σ' H'->∃ m',m' < m/\W m' σ' H')/\tb { D with nx:=N,ct:=N,bk:=D.nx } σ H1 else D.nx σ H1
theorem Ag9{tc:TT}{tb:TS}(hp:rC (model X.prog X.w) X.A X.env X.xe)(hc:PT X c tc)(hb:PSs X body tb):PS X (.While c body [] pos) (Alq tc tb):=by
 intro pins s σ H D I h
 obtain ⟨W,⟨m0,w0⟩,turn⟩:=h
 refine wpAny_While (codeAny_whileLoop (fun n s'=>∃ σ' H',Inv X pins σ' H' s'/\W n σ' H') ?_ m0 ⟨σ,H,I,w0⟩)
 rintro n s1 ⟨σ1,H1,I1,w1⟩
 refine iA hp (thn (hc pins s1 σ1 H1 _ I1 (turn n σ1 H1 w1)) fun b s2 zz=>?_)
 obtain ⟨H2,I2,q2⟩:=zz
 cases b with
 | true=>
  obtain ⟨N,hN,q2⟩:=q2
  rw[if_pos rfl]
  refine iA hp (thn (hb pins s2 σ1 H2 _ I2 q2) fun f s3 q3=>?_)
  cases f with
  | next=>
   obtain ⟨σ3,H3,I3,n3⟩:=q3
   obtain ⟨m',hm,w3⟩:=hN σ3 H3 n3
   exact ⟨m',hm,σ3,H3,I3,w3⟩
  | cont=>
   obtain ⟨σ3,H3,I3,n3⟩:=q3
   obtain ⟨m',hm,w3⟩:=hN σ3 H3 n3
   exact ⟨m',hm,σ3,H3,I3,w3⟩
  | brk=>exact q3
  | ret v=>exact q3
 | false=>
  rw[if_neg cP]
  exact kX ⟨σ1,H2,I2,q2⟩
end
structure It where
 go:Nat->Hp->Prop
 yld:Nat->Hp->V->Hp->Prop
 stop:Nat->Hp->Prop
noncomputable def Kn(X:Cx)(pins:List (Addr×Obj))(H:Hp)(b:Addr):Prop:=
 H b=none/\b≠X.env.locals/\b∉X.fs/\(b∈X.ex\/X.s₀.heap.objs.size<=b)/\(∀ x c,X.env.cells.lookup x=some c->c≠b)/\∀ p∈X.pn++pins,p.1≠b
theorem Inv.fpOk(I:Inv X pins σ H s)(hb:s.heap.objs.size<=b)(hn:H' b=none):Kn X pins H' b:=by
 refine ⟨hn,iD (bL I.lt hb),I.nofs hb,.inr (cJ I.sz hb),fun x c e z=>?_,fun p hp z=>?_⟩
 ·obtain ⟨v,q⟩:=I.cell x c e
  exact absurd (bL q.lt (by rw[z];exact hb)) (eJ _)
 ·exact absurd (bL (aV (I.pin p hp).1) (by rw[z];exact hb)) (eJ _)
structure Turn(P:cT)(w:eO)(K:aK)(tg:Expr)(J:It)(fp:List Addr)(it:Addr)(tn:Nat->Heap->Prop):Prop where
 mem:it∈fp
 obj:∀ i h,tn i h->∀ b∈fp,∃ o,h.get? b=some o/\∀ v,o.data≠.cell v
 keep:∀ i h h',tn i h->(∀ b∈fp,∀ o,h.get? b=some o->h'.get? b=some o)->tn i h'
 item:∀ (X:Cx),X.prog=P->X.w=w->X.K=K->X.calm=true->∀ (i:Nat) (pins:List (Addr×Obj)) (s:aN) (σ:St) (H:Hp) (E:aJ->aN->Prop),Inv X pins σ H s->(∀ b∈fp,Kn X pins H b)->tn i s.heap->J.go i H ->
  wpAny (model P w) X.A (pyNext (.ref it)) (fun r s1=>∃ u,r=some u /\
   wpAny (model P w) X.A (letOwnedTupleGo tg (.ref it) u) (fun _ s2=>∃ x H',Inv X pins σ H' s2/\RelV x u/\J.yld i H x H'/\tn (i+1) s2.heap/\∀ b∈fp,H' b=none) E s1) E s
 done:∀ (X:Cx),X.prog=P->X.w=w->X.K=K->X.calm=true->∀ (i:Nat) (pins:List (Addr×Obj)) (s:aN) (σ:St) (H:Hp) (E:aJ->aN->Prop),Inv X pins σ H s->(∀ b∈fp,Kn X pins H b)->tn i s.heap->J.stop i H ->
  wpAny (model P w) X.A (pyNext (.ref it)) (fun r s1=>r=none/\Inv X pins σ H s1) E s
 self:∀ (A:eS) (i:Nat) (s:aN) (Q:aJ->aN->Prop) (E:aJ->aN->Prop),tn i s.heap->Q (.ref it) s->wpAny (model P w) A (pyIter (.ref it)) Q E s
abbrev TI:=St->Hp->(It->Hp->Prop)->Prop
noncomputable def PIE(X:Cx)(pins:List (Addr×Obj))(σ:St)(tg:Expr)(R:It->Hp->Prop)(itv:aJ)(s2:aN):Prop:=
 ∃ (it:Addr) (fp:List Addr) (tn:Nat->Heap->Prop) (J:It) (H':Hp),itv = .ref it/\Inv X pins σ H' s2/\Turn X.prog X.w X.K tg J fp it tn/\tn 0 s2.heap/\(∀ b∈fp,Kn X pins H' b)/\R J H'
noncomputable def PI(X:Cx)(tg iter:Expr)(wi:TI):Prop:=
 ∀ (pins:List (Addr×Obj)) (s:aN) (σ:St) (H:Hp) (R:It->Hp->Prop),Inv X pins σ H s->wi σ H R ->
  wpAny (model X.prog X.w) X.A (eval iter X.env) (fun v s1=>wpAny (model X.prog X.w) X.A (pyIter v) (PIE X pins σ tg R) X.xe s1) X.xe s
theorem Ae4{it:Addr}{o:Obj}{n:String}{vs:Array aJ}{Q:Unit->aN->Prop}(ho:s.heap.get? it=some o)(hc:o.cls = .type n)(hd:o.data = .fields vs)
  (hn:["enumerate","zip","dict_itemiterator","dict_reverseitemiterator","odict_iterator","itertools.zip_longest","itertools.pairwise"].contains n=false) (hQ:Q () s):wpAny M A (letOwnedTupleGo tg (.ref it) u) Q E s:=by
 unfold letOwnedTupleGo
 cases tg <;> first
  | exact aM hQ
  | (cases u <;> first
    | exact aM hQ
    | (refine aD (sQ ho ?_)
       rw[hc,hd]
       show wpAny M A (if (["enumerate","zip","dict_itemiterator","dict_reverseitemiterator","odict_iterator","itertools.zip_longest","itertools.pairwise"].contains n&&vs[0]? == some (rawInt _))=true then _ else _) Q E s
       rw[if_neg (by intro h;rw[hn,oN] at h;cases h)]
       exact aM hQ))
noncomputable def Itl(K:aK)(a:Addr):It:=
 ⟨fun i H=>∃ xs x,SqL K H a xs/\xs[i]? = some x,fun i H x H'=>H'=H/\∀ xs,SqL K H a xs->xs[i]? = some x,fun i H=>∃ xs,SqL K H a xs/\xs.length<=i⟩
noncomputable def Itt(K:aK)(a:Addr):It:=
 ⟨fun i H=>∃ xs x,SqT K H a xs/\xs[i]? = some x,fun i H x H'=>H'=H/\∀ xs,SqT K H a xs->xs[i]? = some x,fun i H=>∃ xs,SqT K H a xs/\xs.length<=i⟩
noncomputable def Itr(lo:Int)(n:Nat):It:=⟨fun i _=>i < n,fun i H x H'=>H'=H/\x = .int (lo+i),fun i _=>n<=i⟩
theorem Adv(a it:Addr):Turn P w K tg (Itl K a) [it] it (fun i h=>h.IsListIter it a i) where
 mem:=by simp
 obj:=fun i h st b hb=>by
  have e:b=it:=by simpa using hb
  subst e
  obtain ⟨o,e,c,d⟩:=st
  exact ⟨o,e,fun v z=>by rw[d] at z;cases z⟩
 keep:=fun i h h' st k=>st.at fun o e=>k it (by simp) o e
 item:=by
  intro X hP hw hK hc i pins s σ H E I hf st hg
  subst hP hw hK
  obtain ⟨xs,x,hq,hx⟩:=hg
  obtain ⟨its,rv,p,hz⟩:=I.list hq
  obtain ⟨u,hu,ru⟩:=rv.get hx
  obtain ⟨f0,f1,f2,f3,f4,f5⟩:=hf it (by simp)
  refine jY st p.isList (x:=u) (by simpa using hu) fun h' st' sb=>?_
  have I1:Inv X pins σ H { s with heap:=h' }:=I.turned (t':=s.toks) (fun b o hb e=>(sb.2 b hb).trans e) f0 f1 f3 f4 f5
  obtain ⟨o,e,c,d⟩:=id st'
  exact ⟨u,rfl,Ae4 (s:={ s with heap:=h' }) e c d (by decide) ⟨x,H,I1,ru,⟨rfl,fun ys hy=>by rw[I.list_inj hy hq];exact hx⟩,st',fun b hb=>(hf b hb).1⟩⟩
 done:=by
  intro X hP hw hK hc i pins s σ H E I hf st hg
  subst hP hw hK
  obtain ⟨xs,hq,hx⟩:=hg
  obtain ⟨its,rv,p,hz⟩:=I.list hq
  obtain ⟨f0,f1,f2,f3,f4,f5⟩:=hf it (by simp)
  have hl:=rv.length
  exact kI (I.ok.hd hc) st p.isList (by simp;omega) fun h' eb=>⟨rfl,I.turned (t':=s.toks) (fun b o hb e=>eb b o hb e) f0 f1 f3 f4 f5⟩
 self:=fun _ _ _ _ _ st h=>wpAny_pyIter_listiter st h
theorem Aay(a it:Addr):Turn P w K tg (Itt K a) [it] it (fun i h=>h.IsTupleIter it a i) where
 mem:=by simp
 obj:=fun i h st b hb=>by
  have e:b=it:=by simpa using hb
  subst e
  obtain ⟨o,e,c,d⟩:=st
  exact ⟨o,e,fun v z=>by rw[d] at z;cases z⟩
 keep:=fun i h h' st k=>st.at fun o e=>k it (by simp) o e
 item:=by
  intro X hP hw hK hc i pins s σ H E I hf st hg
  subst hP hw hK
  obtain ⟨xs,x,hq,hx⟩:=hg
  obtain ⟨its,rv,p,hz⟩:=I.tuple hq
  obtain ⟨u,hu,ru⟩:=rv.get hx
  obtain ⟨f0,f1,f2,f3,f4,f5⟩:=hf it (by simp)
  refine wpAny_pyNext_tuple_item st (show s.heap.IsTuple a its.toArray from p) (x:=u) (by simpa using hu) fun h' st' sb=>?_
  have I1:Inv X pins σ H { s with heap:=h' }:=I.turned (t':=s.toks) (fun b o hb e=>(sb.2 b hb).trans e) f0 f1 f3 f4 f5
  obtain ⟨o,e,c,d⟩:=id st'
  exact ⟨u,rfl,Ae4 (s:={ s with heap:=h' }) e c d (by decide) ⟨x,H,I1,ru,⟨rfl,fun ys hy=>by rw[I.tuple_inj hy hq];exact hx⟩,st',fun b hb=>(hf b hb).1⟩⟩
 done:=by
  intro X hP hw hK hc i pins s σ H E I hf st hg
  subst hP hw hK
  obtain ⟨xs,hq,hx⟩:=hg
  obtain ⟨its,rv,p,hz⟩:=I.tuple hq
  obtain ⟨f0,f1,f2,f3,f4,f5⟩:=hf it (by simp)
  have hl:=rv.length
  exact wpAny_pyNext_tuple_end (I.ok.hd hc) st (show s.heap.IsTuple a its.toArray from p) (by simp;omega) fun h' eb=>⟨rfl,I.turned (t':=s.toks) (fun b o hb e=>eb b o hb e) f0 f1 f3 f4 f5⟩
 self:=fun _ _ _ _ _ st h=>wpAny_pyIter_tupleiter st h
theorem Aag(it:Addr)(lo:Int)(n:Nat):Turn P w K tg (Itr lo n) [it] it (fun i h=>IsRangeIter h it (lo+(i:Nat) * 1) ((n:Int) - (i:Nat)) 1) where
 mem:=by simp
 obj:=fun i h st b hb=>by
  have e:b=it:=by simpa using hb
  subst e
  exact ⟨_,st,fun v z=>by
   have z':Data.fields _=Data.cell v:=z
   cases z'⟩
 keep:=fun i h h' st k=>k it (by simp) _ st
 item:=by
  intro X hP hw hK hc i pins s σ H E I hf st hg
  subst hP hw hK
  obtain ⟨f0,f1,f2,f3,f4,f5⟩:=hf it (by simp)
  have W:=Walks.range (prog:=X.prog) (w:=X.w) (I.ok.hd hc) it lo 1 n
  refine W.item i s _ _ hg st fun v h' tk hv st' kk=>?_
  obtain ⟨t,rfl⟩:=hv
  have I1:Inv X pins σ H { s with heap:=h',toks:=tk }:=I.turned (fun b o hb e=>kk b o (by simpa using hb) e) f0 f1 f3 f4 f5
  refine ⟨_,rfl,Ae4 (s:={ s with heap:=h',toks:=tk }) (n := "range_iterator") st' rfl rfl (by decide) ⟨.int (lo+i),H,I1,⟨t,?_⟩,⟨rfl,rfl⟩,st',fun b hb=>(hf b hb).1⟩⟩
  rw[Int.mul_one]
 done:=by
  intro X hP hw hK hc i pins s σ H E I hf st hg
  subst hP hw hK
  obtain ⟨f0,f1,f2,f3,f4,f5⟩:=hf it (by simp)
  exact wpAny_pyNext_range_end (I.ok.hd hc) st (by have:n<=i:=hg;omega) fun h' eb=>⟨rfl,I.turned (t':=s.toks) (fun b o hb e=>eb b o hb e) f0 f1 f3 f4 f5⟩
 self:=fun _ _ _ _ _ st h=>wpAny_pyIter_rangeiter st h
variable {p:Pos}{fp:List Addr}
section
noncomputable def Ao5(K:aK)(tl:TE):TI:=fun σ H R=>tl σ H fun x H1=>∃ a,x = .ref a/\(∃ xs,SqL K H1 a xs)/\R (Itl K a) H1
noncomputable def Aqq(K:aK)(tl:TE):TI:=fun σ H R=>tl σ H fun x H1=>∃ a,x = .ref a/\(∃ xs,SqT K H1 a xs)/\R (Itt K a) H1
theorem Ai5{l:Expr}{tl:TE}(hl:PE X l tl):PI X tg l (Ao5 X.K tl):=by
 intro pins s σ H R I h
 refine thn (hl pins s σ H _ I h) fun v s1 zz=>?_
 obtain ⟨x,H1,I1,r1,q1⟩:=zz
 obtain ⟨a,e,⟨xs,hq⟩,q⟩:=q1
 subst e
 cases r1
 obtain ⟨its,rv,p,hz⟩:=I1.list hq
 refine iV p.isList ?_
 refine ⟨s1.heap.objs.size,[s1.heap.objs.size],_,_,H1,rfl,I1.kept (t':=s1.toks) fun b o e=>aE _ e,Adv a _,⟨_,bE _ rfl,rfl,rfl⟩,fun b hb=>?_,q⟩
 have e:b=s1.heap.objs.size:=by simpa using hb
 subst e
 exact I1.fpOk (aQ _) (I1.hok.fresh (aQ _))
theorem Al1{l:Expr}{tl:TE}(hl:PE X l tl):PI X tg l (Aqq X.K tl):=by
 intro pins s σ H R I h
 refine thn (hl pins s σ H _ I h) fun v s1 zz=>?_
 obtain ⟨x,H1,I1,r1,q1⟩:=zz
 obtain ⟨a,e,⟨xs,hq⟩,q⟩:=q1
 subst e
 cases r1
 obtain ⟨its,rv,p,hz⟩:=I1.tuple hq
 refine iO (show s1.heap.IsTuple a its.toArray from p) ?_
 refine ⟨s1.heap.objs.size,[s1.heap.objs.size],_,_,H1,rfl,I1.kept (t':=s1.toks) fun b o e=>aE _ e,Aay a _,⟨_,bE _ rfl,rfl,rfl⟩,fun b hb=>?_,q⟩
 have e:b=s1.heap.objs.size:=by simpa using hb
 subst e
 exact I1.fpOk (aQ _) (I1.hok.fresh (aQ _))
theorem Aex{R:It->Hp->Prop}{lo hi:Int}{t u v:Tok}{tk:Nat}(I:Inv X pins σ H s)(h1:-(2 ^ 62)<=lo)(h2:lo < 2 ^ 62)(h3:-(2 ^ 62)<=hi)(h4:hi < 2 ^ 62)
  (q:R (Itr lo (hi - lo).toNat) H):wpAny (model X.prog X.w) X.A (pyIter (.ref s.heap.objs.size)) (PIE X pins σ tg R) E { s with heap:=s.heap.push { cls:=.type "range",data:=.fields #[.int lo t,.int hi u,.int 1 v] },toks:=tk }:=by
 refine wpAny_pyIter_range (IsRange.new ..) (small_one h1 h2 h3 h4) ?_
 have I1:Inv X pins σ H { s with heap:=s.heap.push { cls:=.type "range",data:=.fields #[.int lo t,.int hi u,.int 1 v] },toks:=tk }:=I.kept fun b o e=>aE _ e
 refine ⟨(s.heap.push { cls:=.type "range",data:=.fields #[.int lo t,.int hi u,.int 1 v] }).objs.size,[(s.heap.push { cls:=.type "range",data:=.fields #[.int lo t,.int hi u,.int 1 v] }).objs.size],_,_,H,rfl,
  I1.kept (t':=tk) fun b o e=>aE _ e,Aag _ lo (hi - lo).toNat,?_,fun b hb=>?_,q⟩
 ·have e1:lo+((0:Nat):Int) * 1=lo:=by simp
  have e2:(((hi - lo).toNat:Nat):Int) - ((0:Nat):Int)=iP.Range.rangeSize lo hi 1:=by rw[rangeSize_one];split <;> omega
  show IsRangeIter _ _ (lo+((0:Nat):Int) * 1) ((((hi - lo).toNat:Nat):Int) - ((0:Nat):Int)) 1
  rw[e1,e2]
  exact bE _ rfl
 ·have e:b=(s.heap.push { cls:=.type "range",data:=.fields #[.int lo t,.int hi u,.int 1 v] }).objs.size:=by simpa using hb
  subst e
  exact I1.fpOk (aQ _) (I1.hok.fresh (aQ _))
noncomputable def Aoh(ta:TA):TI:=fun σ H R=>ta σ H fun vs H1=>∃ j:Int,vs=[.int j]/\-(2 ^ 62)<=j/\j < 2 ^ 62/\R (Itr 0 j.toNat) H1
theorem Aep{a:Expr}{ta:TA}(hg:Gl X "range")(hm:X.mg "range" = none)(ha:PA X [a] ta)(hs:bS [a] X.env=[(false,eval a X.env)]:=by rfl):PI X tg (.Call (.Name "range" p) [a] [] pos) (Aoh ta):=by
 intro pins s σ H R I h
 refine Call_ (Jm I hg hm boot_range (eP (thn (ha pos pins s σ H _ I h) fun us s1 zz=>zz.elim fun vs H1 I1 r1 q1=>?_) hs rfl))
 obtain ⟨j,e,q1,q2,q⟩:=q1
 subst e
 cases r1 with
 | cons r rr=>
  cases rr
  obtain ⟨t,rfl⟩:=r
  exact call_range_1 (Aex I1 (by omega) (by omega) q1 q2 (by simpa using q))
noncomputable def Aqk(wi:TI)(g:TG)(tb:TS):TS:=fun D σ H=>wi σ H fun J H1=>∃ W:Nat->Nat->St->Hp->Prop,(∃ m,W 0 m σ H1)/\∀ i m σ H,W i m σ H ->
 (J.stop i H/\D.nx σ H)\/(J.go i H/\∃ N:St->Hp->Prop,(∀ σ' H',N σ' H'->∃ m',m' < m/\W (i+1) m' σ' H')/\∀ x H',J.yld i H x H'->g x σ H' fun σ2 H2=>tb { D with nx:=N,ct:=N,bk:=D.nx } σ2 H2)
noncomputable def Td(fp:List Addr)(h:Heap):List (Addr×Obj):=fp.filterMap fun b=>(h.get? b).map fun o=>(b,o)
theorem Lg{o:Obj}(hb:b∈fp)(e:h.get? b=some o):(b,o)∈Td fp h:=List.mem_filterMap.mpr ⟨b,hb,by rw[e];rfl⟩
theorem Adn{p:Addr×Obj}(hp:p∈Td fp h):p.1∈fp/\h.get? p.1=some p.2:=by
 obtain ⟨b,hb,e⟩:=List.mem_filterMap.mp hp
 cases q:h.get? b with
 | none=>rw[q] at e;cases e
 | some o=>
  rw[q] at e
  have e':(b,o)=p:=bR e
  subst e'
  exact ⟨hb,q⟩
theorem Inv.pinned(I:Inv X pins σ H s)(hf:∀ b∈fp,Kn X pins H b)(ho:∀ b∈fp,∃ o,s.heap.get? b=some o/\∀ v,o.data≠.cell v):Inv X (pins++Td fp s.heap) σ H s:=
 I.pins_of fun p hp=>(bP.mp hp).elim (fun z=>I.pin p (bM _ z)) fun z=>by
  obtain ⟨hb,e⟩:=Adn z
  obtain ⟨f0,f1,f2,_⟩:=hf p.1 hb
  obtain ⟨o,e',d⟩:=ho p.1 hb
  rw[e] at e';cases e'
  exact ⟨e,f0,f1,f2,d⟩
theorem Inv.unpinned{pl:List (Addr×Obj)}(I:Inv X (pins++pl) σ H s):Inv X pins σ H s:=I.pins_of fun p hp=>I.pin p (bM _ (dD _ hp))
theorem Aml{iter:Expr}{wi:TI}{g:TG}{tb:TS}(hp:rC (model X.prog X.w) X.A X.env X.xe)(hc:X.calm=true)(hi:PI X tg iter wi)(hg:PG X tg g)(hb:PSs X body tb)
  (hs:∀ x,foldedSetIterable iter X.env x=pure x:=by intro _;rfl):PS X (.For tg iter body [] pos) (Aqk wi g tb):=by
 intro pins s σ H D I h
 refine wpAny_For (thn (hi pins s σ H _ I h) fun v s1 h1=>thn h1 fun itv s2 h2=>?_) hs
 obtain ⟨it,fp,tn,J,H2,e,I2,T,st2,f2,W,⟨m0,w0⟩,turn⟩:=h2
 subst e
 have stat:∀ {H':Hp},(∀ b∈fp,H' b=none)->∀ b∈fp,Kn X pins H' b:=fun hn b hb=>⟨hn b hb,(f2 b hb).2⟩
 refine codeAny_forLoop_any (fun n s'=>∃ i σ' H',Inv X pins σ' H' s'/\tn i s'.heap/\(∀ b∈fp,H' b=none)/\W i n σ' H') ?_ m0 ⟨0,σ,H2,I2,st2,fun b hb=>(f2 b hb).1,w0⟩
 rintro n s3 ⟨i,σ3,H3,I3,st3,fr3,w3⟩
 rcases turn i n σ3 H3 w3 with ⟨stop,qn⟩ | ⟨go,N,hN,step⟩
 ·refine iA hp (thn (T.done X rfl rfl rfl hc i pins s3 σ3 H3 X.xe I3 (stat fr3) st3 stop) fun r s4 zz=>?_)
  obtain ⟨hr,I4⟩:=zz
  subst hr
  exact kX ⟨σ3,H3,I4,qn⟩
 ·refine iA hp (thn (T.item X rfl rfl rfl hc i pins s3 σ3 H3 X.xe I3 (stat fr3) st3 go) fun r s4 zz=>?_)
  obtain ⟨u,hr,h4⟩:=zz
  subst hr
  refine iA hp (thn h4 fun _ s5 zz=>?_)
  obtain ⟨x,H5,I5,r5,y5,st5,fr5⟩:=zz
  have I5':=I5.pinned (stat fr5) (T.obj _ _ st5)
  refine iA hp (thn (hg _ s5 σ3 H5 x u _ I5' r5 (step x H5 y5)) fun _ s6 zz=>?_)
  obtain ⟨σ6,H6,I6,q6⟩:=zz
  refine iA hp (thn (hb _ s6 σ6 H6 _ I6 q6) fun f s7 q7=>?_)
  have again:∀ {σ7:St} {H7:Hp},Inv X (pins++Td fp s5.heap) σ7 H7 s7->N σ7 H7->∃ m,m < n/\∃ i σ' H',Inv X pins σ' H' s7/\tn i s7.heap/\(∀ b∈fp,H' b=none)/\W i m σ' H':=fun {σ7 H7} I7 n7=>by
   obtain ⟨m',hm,w7⟩:=hN σ7 H7 n7
   refine ⟨m',hm,i+1,σ7,H7,I7.unpinned,T.keep _ _ _ st5 fun b hb o e=>(I7.pin (b,o) (bM _ (bM _ (Lg hb e)))).1,fun b hb=>?_,w7⟩
   obtain ⟨o,e,d⟩:=T.obj _ _ st5 b hb
   exact (I7.pin (b,o) (bM _ (bM _ (Lg hb e)))).2.1
  cases f with
  | next=>obtain ⟨σ7,H7,I7,n7⟩:=q7;exact again I7 n7
  | cont=>obtain ⟨σ7,H7,I7,n7⟩:=q7;exact again I7 n7
  | brk=>obtain ⟨σ7,H7,I7,q7⟩:=q7;exact ⟨σ7,H7,I7.unpinned,q7⟩
  | ret v=>obtain ⟨x7,σ7,H7,I7,r7,q7⟩:=q7;exact ⟨x7,σ7,H7,I7.unpinned,r7,q7⟩
end
abbrev R2:=V->V->Hp->VK->Prop
noncomputable def OpR(X:Cx)(f:aJ->aJ->Sem aJ)(r:R2):Prop:=
 ∀ (pins:List (Addr×Obj)) (s:aN) (σ:St) (H:Hp) (x y:V) (v u:aJ) (Q:VK),Inv X pins σ H s->RelV x v->RelV y u->r x y H Q ->
  wpAny (model X.prog X.w) X.A (f v u) (EP X pins σ Q) X.xe s
noncomputable def UnR(X:Cx)(f:aJ->Sem aJ)(r:V->Hp->VK->Prop):Prop:=
 ∀ (pins:List (Addr×Obj)) (s:aN) (σ:St) (H:Hp) (x:V) (v:aJ) (Q:VK),Inv X pins σ H s->RelV x v->r x H Q ->
  wpAny (model X.prog X.w) X.A (f v) (EP X pins σ Q) X.xe s
noncomputable def CallR(X:Cx)(f:aJ)(r:List V->Hp->VK->Prop):Prop:=
 ∀ (pins:List (Addr×Obj)) (s:aN) (σ:St) (H:Hp) (xs:List V) (us:List aJ) (Q:VK),Inv X pins σ H s->Vals xs us->r xs H Q ->
  wpAny (model X.prog X.w) X.A (call f us) (EP X pins σ Q) X.xe s
noncomputable def Aqn(X:Cx)(r:V->Hp->(Bool->Hp->Prop)->Prop):Prop:=
 ∀ (pins:List (Addr×Obj)) (s:aN) (σ:St) (H:Hp) (x:V) (v:aJ) (Q:Bool->Hp->Prop),Inv X pins σ H s->RelV x v->r x H Q ->
  wpAny (model X.prog X.w) X.A (truthy v) (TP X pins σ Q) X.xe s
noncomputable def tOp(r:R2)(ta tb:TE):TE:=fun σ H Q=>ta σ H fun x H1=>tb σ H1 fun y H2=>r x y H2 Q
noncomputable def tUn(r:V->Hp->VK->Prop)(ta:TE):TE:=fun σ H Q=>ta σ H fun x H1=>r x H1 Q
noncomputable def rI(C:Int->Int->Prop)(g:Int->Int->V):R2:=fun x y H Q=>∃ i j,x = .int i/\y = .int j/\C i j/\Q (g i j) H
noncomputable def rI0(g:Int->Int->V):R2:=fun x y H Q=>∃ i j,x = .int i/\y = .int j/\Q (g i j) H
noncomputable def rU(g:Int->V):V->Hp->VK->Prop:=fun x H Q=>∃ i,x = .int i/\Q (g i) H
variable {r:R2}
section
variable {a b:Expr}{tc:TE}
theorem Anp(ha:PE X a ta)(hb:PE X b tb){R:V->V->Hp->Prop}(I:Inv X pins σ H s)
  (h:ta σ H fun x H1=>tb σ H1 fun y H2=>R x y H2) {Q:aJ->aN->Prop} {f:aJ->aJ->Sem aJ}
  (hf:∀ v u s2 x y H2,Inv X pins σ H2 s2->RelV x v->RelV y u->R x y H2->wpAny (model X.prog X.w) X.A (f v u) Q X.xe s2) :
  wpAny (model X.prog X.w) X.A (eval a X.env) (fun v s₁=>wpAny (model X.prog X.w) X.A (eval b X.env) (fun u s₂=>wpAny (model X.prog X.w) X.A (f v u) Q X.xe s₂) X.xe s₁) X.xe s:=by
 refine thn (ha pins s σ H _ I h) fun v s1 zz=>?_
 obtain ⟨x,H1,I1,r1,q1⟩:=zz
 refine thn (hb pins s1 σ H1 _ I1 q1) fun u s2 zz=>?_
 obtain ⟨y,H2,I2,r2,q2⟩:=zz
 exact hf v u s2 x y H2 I2 r1 r2 q2
theorem Aoc{op:Operator}(ho:OpR X (fW op) r)(ha:PE X a ta)(hb:PE X b tb):PE X (.BinOp a op b pos) (tOp r ta tb):=by
 intro pins s σ H Q I h
 exact wpAny_BinOp (Anp ha hb I h fun v u s2 x y H2 I2 rx ry q=>ho pins s2 σ H2 x y v u Q I2 rx ry q)
theorem Apv{op:UnaryOp}{r:V->Hp->VK->Prop}(ho:UnR X (unaryOp op) r)(ha:PE X a ta):PE X (.UnaryOp op a pos) (tUn r ta):=by
 intro pins s σ H Q I h
 exact UnaryOp_ (thn (ha pins s σ H _ I h) fun v s1 zz=>by obtain ⟨x,H1,I1,r1,q1⟩:=zz;exact ho pins s1 σ H1 x v Q I1 r1 q1)
theorem opI{f:aJ->aJ->Sem aJ}{C:Int->Int->Prop}{g:Int->Int->Int}
  (rule:∀ (i j:Int) (t u:Tok) (s:aN) (Q:aJ->aN->Prop) (E:aJ->aN->Prop),C i j->Q (.int (g i j) s.toks) { s with toks:=s.toks+1 }->wpAny (model X.prog X.w) X.A (f (.int i t) (.int j u)) Q E s) :
  OpR X f (rI C fun i j=>.int (g i j)):=by
 intro pins s σ H x y v u Q I rx ry h
 obtain ⟨i,j,rfl,rfl,hc,q⟩:=h
 obtain ⟨t,rfl⟩:=rx
 obtain ⟨t',rfl⟩:=ry
 exact rule i j t t' s _ _ hc ⟨.int (g i j),H,I.tok _,⟨_,rfl⟩,q⟩
theorem Apc{f:aJ->aJ->Sem aJ}{g:Int->Int->Int}
  (rule:∀ (i j:Int) (t u:Tok) (s:aN) (Q:aJ->aN->Prop) (E:aJ->aN->Prop),Q (.int (g i j) s.toks) { s with toks:=s.toks+1 }->wpAny (model X.prog X.w) X.A (f (.int i t) (.int j u)) Q E s) :
  OpR X f (rI0 fun i j=>.int (g i j)):=by
 intro pins s σ H x y v u Q I rx ry h
 obtain ⟨i,j,rfl,rfl,q⟩:=h
 obtain ⟨t,rfl⟩:=rx
 obtain ⟨t',rfl⟩:=ry
 exact rule i j t t' s _ _ ⟨.int (g i j),H,I.tok _,⟨_,rfl⟩,q⟩
theorem Akf{f:aJ->aJ->Sem aJ}{g:Int->Int->Bool}
  (rule:∀ (i j:Int) (t u:Tok) (s:aN) (Q:aJ->aN->Prop) (E:aJ->aN->Prop),Q (.bool (g i j)) s->wpAny (model X.prog X.w) X.A (f (.int i t) (.int j u)) Q E s) :
  OpR X f (rI0 fun i j=>.bl (g i j)):=by
 intro pins s σ H x y v u Q I rx ry h
 obtain ⟨i,j,rfl,rfl,q⟩:=h
 obtain ⟨t,rfl⟩:=rx
 obtain ⟨t',rfl⟩:=ry
 exact rule i j t t' s _ _ ⟨.bl (g i j),H,I,rfl,q⟩
noncomputable def Aov(i j:Int):Prop:=0<=j/\j<=1000000/\i.natAbs < 2 ^ 64
noncomputable def CMul(i j:Int):Prop:=(-(2 ^ 64) < i/\i < 2 ^ 64)\/(-(2 ^ 64) < j/\j < 2 ^ 64)
theorem CMul.ok{i j:Int}(h:CMul i j):IntMulOk i j:=by
 rcases h with ⟨h1,h2⟩ | ⟨h1,h2⟩
 ·exact .of_left (intBits_le_64 h1 h2)
 ·exact .of_right (intBits_le_64 h1 h2)
theorem Amj:OpR X (fW .Add) (rI0 fun i j=>.int (i+j)):=Apc fun _ _ _ _ _ _ _ q=>add_int q
theorem Vt:OpR X (fW .Sub) (rI0 fun i j=>.int (i - j)):=Apc fun _ _ _ _ _ _ _ q=>sub_int q
theorem Ak6:OpR X (fW .Mult) (rI CMul fun i j=>.int (i * j)):=opI fun _ _ _ _ _ _ _ hc q=>mul_int q hc.ok
theorem Mh:OpR X (fW .Mod) (rI (fun _ j=>0 < j) fun i j=>.int (i % j)):=opI fun i j _ _ _ _ _ hc q=>by
 have h1:(0:Int) < j:=hc
 exact mod_int' (by omega) (by rw[Int.fmod_eq_emod_of_nonneg i (by omega)];exact q)
theorem Te:OpR X (fW .Pow) (rI Aov fun i j=>.int (i ^ j.toNat)):=opI fun _ _ _ _ _ _ _ hc q=>pow_int_small hc.1 hc.2.1 hc.2.2 q
theorem unI{f:aJ->Sem aJ}{g:Int->Int}
  (rule:∀ (i:Int) (t:Tok) (s:aN) (Q:aJ->aN->Prop) (E:aJ->aN->Prop),Q (.int (g i) s.toks) { s with toks:=s.toks+1 }->wpAny (model X.prog X.w) X.A (f (.int i t)) Q E s) :
  UnR X f (rU fun i=>.int (g i)):=by
 intro pins s σ H x v Q I rx h
 obtain ⟨i,rfl,q⟩:=h
 obtain ⟨t,rfl⟩:=rx
 exact rule i t s _ _ ⟨.int (g i),H,I.tok _,⟨_,rfl⟩,q⟩
theorem Alw:UnR X (unaryOp .USub) (rU fun i=>.int (-i)):=unI fun _ _ _ _ _ q=>neg_int q
end
variable {op:CmpOp}
section
variable {a b:Expr}{tc:TE}
theorem Alu{k k':Bool}(I:Inv X pins σ H s)(q:Q (.bl k) H)(e:k=k'):EP X pins σ Q (.bool k') s:=by
 subst e
 exact ⟨.bl k,H,I,rfl,q⟩
theorem Akx:OpR X (fJ .Lt) (rI0 fun i j=>.bl (decide (i < j))):=Akf fun _ _ _ _ _ _ _ q=>lt_int q
theorem Aeu:OpR X (fJ .LtE) (rI0 fun i j=>.bl (decide (i<=j))):=Akf fun _ _ _ _ _ _ _ q=>le_int q
theorem Af3:OpR X (fJ .Gt) (rI0 fun i j=>.bl (decide (j < i))):=Akf fun _ _ _ _ _ _ _ q=>gt_int q
theorem Apa:OpR X (fJ .GtE) (rI0 fun i j=>.bl (decide (j<=i))):=Akf fun _ _ _ _ _ _ _ q=>ge_int q
theorem Ac9:OpR X (fJ .In) (fun x y H Q=>∃ i j,x = .str i/\y = .str j/\Q (.bl (!(fK j i 0 j.length 1).isEmpty)) H):=by
 intro pins s σ H x y v u Q I rx ry h
 obtain ⟨i,j,rfl,rfl,q⟩:=h
 obtain ⟨t,rfl⟩:=rx
 obtain ⟨t',rfl⟩:=ry
 exact in_str (Alu I q rfl)
theorem OpR.or{f:aJ->aJ->Sem aJ}{r':R2}(h:OpR X f r)(h':OpR X f r'):OpR X f (fun x y H Q=>r x y H Q\/r' x y H Q):=by
 intro pins s σ H x y v u Q I rx ry q
 rcases q with q | q
 ·exact h pins s σ H x y v u Q I rx ry q
 ·exact h' pins s σ H x y v u Q I rx ry q
theorem Bi(b:Expr)(h:op≠.In:=by decide)(h2:op≠.NotIn:=by decide):behindInMarks op b=false:=by
 have e1:(op == CmpOp.In)=false:=by cases op <;> first | rfl | exact absurd rfl h
 have e2:(op == CmpOp.NotIn)=false:=by cases op <;> first | rfl | exact absurd rfl h2
 cases b <;> simp[behindInMarks,e1,e2]
theorem Ajq(ho:OpR X (fJ op) r)(ha:PE X a ta)(hb:PE X b tb)(hm:behindInMarks op b=false):PE X (.Compare a [op] [b] pos) (tOp r ta tb):=by
 intro pins s σ H Q I h
 exact wpAny_Compare1 (Anp ha hb I h fun v u s2 x y H2 I2 rx ry q=>ho pins s2 σ H2 x y v u Q I2 rx ry q) hm
noncomputable def Akr(t:TE):TT:=fun σ H Q=>t σ H fun x H'=>∃ k,x = .bl k/\Q k H'
theorem Air(ho:OpR X (fJ op) r)(ha:PE X a ta)(hb:PE X b tb)(hm:behindInMarks op b=false):PT X (.Compare a [op] [b] pos) (Akr (tOp r ta tb)):=by
 intro pins s σ H Q I h
 refine wpAny_isTrue_Compare1 (thn (ha pins s σ H _ I h) fun v s1 zz=>zz.elim fun x H1 I1 r1 q1=>thn (hb pins s1 σ H1 _ I1 q1) fun u s2 ⟨y,H2,I2,r2,q2⟩=>
  thn (ho pins s2 σ H2 x y v u _ I2 r1 r2 q2) fun c s3 zz=>zz.elim fun z H3 I3 r3 zq=>?_) hm
 obtain ⟨k,e,q3⟩:=zq
 subst e
 cases r3
 exact jX ⟨H3,I3,q3⟩
noncomputable def Anj(K:aK)(x:V)(H:Hp)(k:Bool):Prop:=
 match x with
 | .non=>k=false
 | .bl b=>k=b
 | .int i=>k=(i != 0)
 | .str y=>y.length<=sizeLine/\k=((y.length:Int) != 0)
 | .byt y=>y.size<=sizeLine/\k=((y.size:Int) != 0)
 | .ref p=>(∃ xs,SqL K H p xs/\k = !xs.isEmpty)\/(∃ xs,SqT K H p xs/\k = !xs.isEmpty)\/∃ kvs,H p=some (.dK kvs)/\k = !kvs.isEmpty
 | _=>False
theorem Aaw{κ:Type}{kvs:List (κ×V)}{vs:List (κ×aJ)}(r:KV kvs vs):(!vs.isEmpty) = !kvs.isEmpty:=by
 cases r <;> rfl
theorem Rn{its:List aJ}(r:Vals xs its):(!its.toArray.isEmpty) = !xs.isEmpty:=by
 cases r <;> simp
theorem P9:(sizeLine:Nat) < 2 ^ 63:=by rw[dC];decide
theorem Aly:Aqn X (fun x H Q=>∃ k,Anj X.K x H k/\Q k H):=by
 intro pins s σ H x v Q I rx h
 obtain ⟨k,e,q⟩:=h
 have hl:=P9
 have hs:sizeLine=16777216:=dC
 cases x with
 | non=>
  cases rx
  have e':k=false:=e
  subst e'
  exact truthy_none ⟨H,I,q⟩
 | bl b=>
  cases rx
  have e':k=b:=e
  subst e'
  exact jX ⟨H,I,q⟩
 | int i=>
  obtain ⟨t,rfl⟩:=rx
  have e':k=(i != 0):=e
  subst e'
  exact PySem.P.truthy_int ⟨H,I,q⟩
 | str y=>
  obtain ⟨t,rfl⟩:=rx
  obtain ⟨hy,e'⟩:y.length<=sizeLine/\k=((y.length:Int) != 0):=e
  subst e'
  exact PySem.P.truthy_str (by omega) ⟨H,I.tok _,q⟩
 | byt y=>
  obtain ⟨t,rfl⟩:=rx
  obtain ⟨hy,e'⟩:y.size<=sizeLine/\k=((y.size:Int) != 0):=e
  subst e'
  exact PySem.W.truthy_bytes (by omega) ⟨H,I.tok _,q⟩
 | ref p=>
  cases rx
  have e':(∃ xs,SqL X.K H p xs/\k = !xs.isEmpty)\/(∃ xs,SqT X.K H p xs/\k = !xs.isEmpty)\/∃ kvs,H p=some (.dK kvs)/\k = !kvs.isEmpty:=e
  rcases e' with ⟨xs,hx,e'⟩ | ⟨xs,hx,e'⟩ | ⟨kvs,hx,e'⟩
  ·subst e'
   obtain ⟨its,r,pl,hz⟩:=I.list hx
   have hlen:=r.length
   exact wpAny_truthy_list pl.isList (by simp only[aP];omega) ⟨H,I.tok _,by rw[Rn r];exact q⟩
  ·subst e'
   obtain ⟨its,r,pl,hz⟩:=I.tuple hx
   have hlen:=r.length
   exact truthy_tuple pl (by simp only[aP];omega) ⟨H,I.tok _,by rw[Rn r];exact q⟩
  ·subst e'
   obtain ⟨hz,hS,vs,r,m⟩:kvs.length<=sizeLine/\(p == sysModules)=false/\∃ vs,KV kvs vs/\s.heap.DictOf (Bp X.prog X.w) p vs:=I.hok p _ hx
   have hlen:kvs.length=vs.length:=mX r
   exact wpAny_truthy_dict hS m (by omega) ⟨H,I.tok _,by rw[Aaw r];exact q⟩
 | _=>exact (show False from e).elim
theorem Afz(ha:PE X a ta)(he:∀ whole,isTrue a X.env whole=(do let v <- whole;standAt a.pos;holding [v] (truthy v))) :
  PT X a (fun σ H Q=>ta σ H fun x H'=>∃ k,Anj X.K x H' k/\Q k H'):=by
 intro pins s σ H Q I h
 exact isTrue_plain (thn (ha pins s σ H _ I h) fun v s1 zz=>by obtain ⟨x,H1,I1,r1,q1⟩:=zz;exact Aly pins s1 σ H1 x v Q I1 r1 q1) (he _)
theorem Aab:OpR X (fW .Add) (fun x y H Q=>∃ i j,x = .str i/\y = .str j/\i.length+j.length<=sizeLine/\Q (.str (i++j)) H):=by
 intro pins s σ H x y v u Q I rx ry h
 obtain ⟨i,j,rfl,rfl,hz,q⟩:=h
 obtain ⟨t,rfl⟩:=rx
 obtain ⟨t',rfl⟩:=ry
 exact add_str (fun t' tk=>⟨.str (i++j),H,I.tok _,⟨_,rfl⟩,q⟩) hz
theorem Gx{x:V}(r:Vals [x] us):∃ u,us=[u]/\RelV x u:=by
 cases r with
 | cons r1 r2=>cases r2;exact ⟨_,rfl,r1⟩
theorem Afh{x y:V}(r:Vals [x,y] us):∃ u w',us=[u,w']/\RelV x u/\RelV y w':=by
 cases r with
 | cons r1 r2=>
  cases r2 with
  | cons r3 r4=>cases r4;exact ⟨_,_,rfl,r1,r3⟩
theorem Sd:CallR X (.builtin "abs") (fun xs H Q=>∃ i,xs=[.int i]/\Q (.int (if i < 0 then -i else i)) H):=by
 intro pins s σ H xs us Q I r h
 obtain ⟨i,rfl,q⟩:=h
 obtain ⟨u,rfl,t,rfl⟩:=Gx r
 exact call_abs_int fun u tk=>⟨.int (if i < 0 then -i else i),H,I.tok _,⟨_,rfl⟩,q⟩
theorem U9:CallR X (.type "int") (fun xs H Q=>(∃ i,xs=[.int i]/\Q (.int i) H)\/∃ k,xs=[.bl k]/\Q (.int (if k then 1 else 0)) H):=by
 intro pins s σ H xs us Q I r h
 rcases h with ⟨i,rfl,q⟩ | ⟨k,rfl,q⟩
 ·obtain ⟨u,rfl,t,rfl⟩:=Gx r
  exact call_int_int ⟨.int i,H,I,⟨_,rfl⟩,q⟩
 ·obtain ⟨u,rfl,r1⟩:=Gx r
  cases r1
  exact call_int_bool ⟨.int (if k then 1 else 0),H,I.tok _,⟨_,rfl⟩,q⟩
noncomputable def Aom(K:aK)(x:V)(H:Hp)(n:Nat):Prop:=
 match x with
 | .str y=>y.length<=sizeLine/\n=y.length
 | .byt y=>y.size<=sizeLine/\n=y.size
 | .ref p=>(∃ xs,SqL K H p xs/\n=xs.length)\/∃ xs,SqT K H p xs/\n=xs.length
 | _=>False
theorem By:CallR X (.builtin "len") (fun xs H Q=>∃ x n,xs=[x]/\Aom X.K x H n/\Q (.int n) H):=by
 intro pins s σ H xs us Q I r h
 obtain ⟨x,n,rfl,e,q⟩:=h
 obtain ⟨u,rfl,rx⟩:=Gx r
 have hl:=P9
 have hs:sizeLine=16777216:=dC
 cases x with
 | str y=>
  obtain ⟨t,rfl⟩:=rx
  obtain ⟨hy,e'⟩:y.length<=sizeLine/\n=y.length:=e
  subst e'
  exact len_str (by omega) ⟨.int _,H,I.tok _,⟨_,rfl⟩,q⟩
 | byt y=>
  obtain ⟨t,rfl⟩:=rx
  obtain ⟨hy,e'⟩:y.size<=sizeLine/\n=y.size:=e
  subst e'
  exact PySem.W.len_bytes (by omega) ⟨.int _,H,I.tok _,⟨_,rfl⟩,q⟩
 | ref p=>
  cases rx
  have e':(∃ xs,SqL X.K H p xs/\n=xs.length)\/∃ xs,SqT X.K H p xs/\n=xs.length:=e
  rcases e' with ⟨xs,hx,e'⟩ | ⟨xs,hx,e'⟩
  ·subst e'
   obtain ⟨its,r',pl,hz⟩:=I.list hx
   have hlen:=r'.length
   exact Calls.call_len_list pl.isList (by simp only[aP];omega) ⟨.int xs.length,H,I.tok _,⟨_,by simp only[aP];rw[hlen]⟩,q⟩
  ·subst e'
   obtain ⟨its,r',pl,hz⟩:=I.tuple hx
   have hlen:=r'.length
   exact len_tuple pl (by simp only[aP];omega) ⟨.int xs.length,H,I.tok _,⟨_,by simp only[aP];rw[hlen]⟩,q⟩
 | _=>exact (show False from e).elim
end
structure ObjM(h:Heap)(x dx C:Addr)(mA:Str->Option aJ):Prop where
 obj:h.get? x=some (oF C dx)
 ns:h.Ns1 dx mA
 ne:dx≠x
variable {dx:Addr}{mA:Str->Option aJ}
theorem Ad9(n:h.Ns1 dx mA):∃ od,h.get? dx=some od/\∀ name,oO name od=some (mA name):=by
 obtain ⟨o,es,ep,ho,hd,hk,_,hm⟩:=n
 refine ⟨o,ho,fun name=>?_⟩
 have e:=hm name
 unfold nsFind findBy at e
 rw[<- Array.find?_toList] at e
 unfold oO
 rw[hd]
 dsimp only
 split
 ·rename_i y q
  rw[q] at e
  exact congrArg some e
 ·rename_i q
  rw[q] at e
  have a:es.toList.any (·.refKey)=false:=by
   rw[List.any_eq_false]
   intro y hy
   obtain ⟨z,t,hkey⟩:=hk y (Array.mem_toList_iff.mp hy)
   simp[DictEntry.refKey,hkey]
  have a':¬ es.toList.any (·.refKey)=true:=by rw[a];exact cP
  rw[if_neg a']
  exact congrArg some e
variable {C:Addr}
theorem ObjM.look{x:Addr}(I:ObjM h x dx C mA):∃ od,PySem.W.InstAt h x (oF C dx) C (some od)/\∀ name,oO name od=some (mA name):=
 let ⟨od,ho,hl⟩:=Ad9 I.ns
 ⟨od,⟨I.obj,rfl,rfl,ho⟩,hl⟩
variable {f:Addr}
section
variable {prog:cT}{x:Addr}{name:Str}{v:aJ}
end
theorem RelO.some_of{o:Option aJ}(r:RelO (some v) o):∃ u,o=some u/\RelV v u:=by
 cases o with
 | none=>exact (show False from r).elim
 | some u=>exact ⟨u,rfl,r⟩
section
variable {fs fs':List (Str×V)}
theorem Ai3(hok:HOk P w H h)(e:H a=some (.ins C dx fs)):∃ mA,ObjM h a dx C mA/\(∀ f,RelO (fs.lookup f) (mA f))/\tL mA (fs.map (·.1))/\fs.length<=1000/\H dx=some (.own a):=by
 obtain ⟨d,z,ne,ob,mA,n,r,q⟩:=(show ObjOk P w H h a (.ins C dx fs) from hok a _ e)
 exact ⟨mA,⟨ob,n,ne⟩,r,q,z,d⟩
end
structure Cls(K:aK)(C:Addr):Prop where
 pg:rD K C tK=true
 hd:PySem.W.hasDictIn K C=true
 po:PySem.W.plainOver K C=true
 sa:jZ K (.ref C) "__setattr__" = some (some (.builtin "object.__setattr__"))
theorem Cls.get(c:Cls K C)(f:Str):rD K C f=true:=c.pg
structure Con(K:aK)(C:Addr)(f:Str)(v:V)(u:aJ):Prop where
 at_:jZ K (.ref C) f=some (some u)
 rel:RelV v u
 get:qC K u "__get__" = some none
 cp:PySem.W.copiedNames.contains f=false
structure Meth(K:aK)(C:Addr)(m:Str)(f:Addr):Prop where
 at_:jZ K (.ref C) m=some (some (.ref f))
 fn:tN K (.ref f)=true
 kp:bO K (.ref f)=true
section
variable {fs:List (Str×V)}{f:Str}
end
section
variable {o value:Expr}{f:Str}{pos' tpos:Pos}{tv:TE}
end
section
variable {Q:aJ->aN->Prop}{c:aJ}{b:Bool}
inductive TyOf(K:aK)(H:Hp):V->aJ->Prop where
 | non:TyOf K H .non (.type "NoneType")
 | bl (x:Bool):TyOf K H (.bl x) (.type "bool")
 | int (i:Int):TyOf K H (.int i) (.type "int")
 | str (x:Str):TyOf K H (.str x) (.type "str")
 | flt (x:UInt64):TyOf K H (.flt x) (.type "float")
 | lst {a:Addr} {xs:List V} (e:H a=some (.lst xs)):TyOf K H (.ref a) (.type "list")
 | frz {a:Addr} {o:Obj} {xs:List V} (e:H a=some (.frz o (.lst xs))):TyOf K H (.ref a) (.type "list")
 | tup {a:Addr} {xs:List V} (e:H a=some (.tup xs)):TyOf K H (.ref a) (.type "tuple")
 | dK {a:Addr} {kvs:List (Key×V)} (e:H a=some (.dK kvs)):TyOf K H (.ref a) (.type "dict")
 | dT {a:Addr} {kvs:List (List Key×V)} (e:H a=some (.dT kvs)):TyOf K H (.ref a) (.type "dict")
 | ins {a C dx:Addr} {fs:List (Str×V)} (e:H a=some (.ins C dx fs)) (cl:Cls K C) (ha:jZ K (.ref C) "__class__" = some (some (.builtin "object.__class__")))
   (hn:qC K (.builtin "object.__class__") "__get__" = some (some (.builtin "getset_descriptor.__get__"))) (htk:PySem.W.takesIn K (.builtin "object.__class__")=some true)
   (hm:PySem.W.mroIn K C (.type "object")=some true):TyOf K H (.ref a) (.ref C)
theorem Ka{x:V}{t:aJ}(I:Inv X pins σ H s)(rx:RelV x u)(ty:TyOf X.K H x t)(e:fP X.K t c=some b)(h:∀ tk,Q (.bool b) { s with toks:=tk }) :
  wpAny (model X.prog X.w) A (call (.builtin "isinstance") [u,c]) Q E s:=by
 cases ty with
 | non=>cases (show u=eE from rx);exact dX PySem.W.kitx_none I.kIn iX e (fun z=>nomatch z) h
 | bl y=>cases (show u=sM y from rx);exact dX PySem.W.kitx_bool I.kIn iX e (fun z=>nomatch z) h
 | int i=>obtain ⟨t,q⟩:=(show ∃ t,u=qZ i t from rx);cases q;exact dX PySem.W.kitx_int I.kIn iX e (fun z=>nomatch z) h
 | str y=>obtain ⟨t,q⟩:=(show ∃ t,u=rA y t from rx);cases q;exact dX PySem.W.kitx_str I.kIn iX e (fun z=>nomatch z) h
 | flt y=>obtain ⟨t,q⟩:=(show ∃ t,u=tS y t from rx);cases q;exact dX PySem.W.kitx_float I.kIn iX e (fun z=>nomatch z) h
 | @lst a xs ea=>
  cases (show u=eQ a from rx)
  obtain ⟨_,_,n,_,h1⟩:=(show ObjOk X.prog X.w H s.heap a (.lst xs) from I.hok a _ ea)
  exact dX mQ I.kIn ⟨_,h1,rfl⟩ e (fun z=>nomatch z) h
 | @frz a ob xs ea=>
  cases (show u=eQ a from rx)
  obtain ⟨_,_,_,n,_,h1⟩:=(show ObjOk X.prog X.w H s.heap a (.frz ob (.lst xs)) from I.hok a _ ea)
  exact dX mQ I.kIn ⟨_,h1,rfl⟩ e (fun z=>nomatch z) h
 | @tup a xs ea=>
  cases (show u=eQ a from rx)
  obtain ⟨_,_,_,p⟩:=(show ObjOk X.prog X.w H s.heap a (.tup xs) from I.hok a _ ea)
  obtain ⟨o,h1,h2,_⟩:=p
  exact dX pU I.kIn ⟨o,h1,(oM h2).1⟩ e (fun z=>nomatch z) h
 | @dK a kvs ea=>
  cases (show u=eQ a from rx)
  obtain ⟨_,_,vs,_,p⟩:=(show ObjOk X.prog X.w H s.heap a (.dK kvs) from I.hok a _ ea)
  obtain ⟨o,es,ep,h1,h2,_⟩:=p
  exact dX qD I.kIn ⟨o,h1,h2.1⟩ e (fun z=>nomatch z) h
 | @dT a kvs ea=>
  cases (show u=eQ a from rx)
  obtain ⟨_,_,xs,_,o,es,ep,h1,h2,_⟩:=(show ObjOk X.prog X.w H s.heap a (.dT kvs) from I.hok a _ ea)
  exact dX qD I.kIn ⟨o,h1,h2.1⟩ e (fun z=>nomatch z) h
 | @ins a C dx fs ea cl ha hn htk hm=>
  cases (show u=eQ a from rx)
  obtain ⟨mA,O,_⟩:=Ai3 I.hok ea
  obtain ⟨od,J,_⟩:=O.look
  exact dX (PySem.W.kitx_own (cl.get _) cl.hd ha hn htk hm) I.kIn J e (fun z=>nomatch z) h
end
structure Room(k:Nat)(A:eS):Prop where
 hd:A.handled=none
 dp:A.depth+3 * k+5 < recursionLimit
 un:A.units+16 * k+200 < cLine
theorem Room.mono{j:Nat}(r:Room k A)(h:j<=k):Room j A:=⟨r.hd,by have:=r.dp;omega,by have:=r.un;omega⟩
theorem Room.deeper(r:Room (k+1) A)(env:Env):Room k (A.deeper env):=
 ⟨r.hd,by have:=r.dp;show A.depth+1+3 * k+5 < _;omega,by have:=r.un;show A.units+3+16 * k+200 < _;omega⟩
theorem Room.in1(r:Room (k+1) A):Room k A.in1:=
 ⟨r.hd,by have:=r.dp;show A.depth+3 * k+5 < _;omega,by have:=r.un;show A.units+1+16 * k+200 < _;omega⟩
theorem Room.depth(r:Room k A):A.depth < recursionLimit:=by have:=r.dp;omega
theorem Room.units(r:Room k A):A.units+64 < cLine:=by have:=r.un;omega
noncomputable def Aou:TA:=fun _ H Q=>Q [] H
noncomputable def Akm(ta:TE)(tr:TA):TA:=fun σ H Q=>ta σ H fun x H1=>tr σ H1 fun xs H2=>Q (x::xs) H2
variable {t:TA}
section
theorem Agf:PA X [] Aou:=fun _ _ _ _ H Q I h=>qE ⟨[],H,I,.nil,h⟩
theorem Wa(ha:PE X e te)(hr:PA X es t)(hs:bS (e::es) X.env=(false,eval e X.env)::bS es X.env:=by rfl):PA X (e::es) (Akm te t):=by
 intro pos pins s σ H Q I h
 rw[hs]
 show wpAny _ _ (spliced ((false,eval e X.env)::backTo pos (bS es X.env))) _ _ s
 refine pV (thn (ha pins s σ H _ I h) fun u s1 zz=>?_)
 obtain ⟨x,H1,I1,r1,q1⟩:=zz
 refine thn (hr pos pins s1 σ H1 _ I1 q1) fun us s2 zz=>?_
 obtain ⟨xs,H2,I2,r2,q2⟩:=zz
 exact ⟨x::xs,H2,I2,.cons r1 r2,q2⟩
noncomputable def Aqj(t:TA):TE:=fun σ H Q=>t σ H fun xs H1=>xs.length<=sizeLine/\∀ p,H1 p=none->Q (.ref p) (upd H1 p (.tup xs))
noncomputable def Aqa(t:TA):TE:=fun σ H Q=>t σ H fun xs H1=>xs.length<=sizeLine/\∀ p,H1 p=none->Q (.ref p) (upd H1 p (.lst xs))
theorem Alf{x1}(h:PA X es t):PE X (.Tuple es x1 pos) (Aqj t):=by
 intro pins s σ H Q I hq
 refine wpAny_Tuple_spliced (thn (h pos pins s σ H _ I hq) fun us s1 zz=>zz.elim fun xs H1 I1 r zq=>⟨by rw[<- r.length];exact zq.1,?_⟩)
 obtain ⟨z,q⟩:=zq
 have hf:H1 s1.heap.objs.size=none:=I1.hok.fresh (aQ _)
 refine ⟨.ref s1.heap.objs.size,upd H1 s1.heap.objs.size (.tup xs),I1.laid (t':=s1.toks) (fun b u e=>aE _ e) (aQ _) ?_,rfl,q _ hf⟩
 exact ⟨z,us,r,⟨_,bE _ rfl,rfl,_,rfl⟩⟩
theorem Anu(h:PA X es t):PE X (.List es pos) (Aqa t):=by
 intro pins s σ H Q I hq
 refine wpAny_List_spliced (thn (h pos pins s σ H _ I hq) fun us s1 zz=>zz.elim fun xs H1 I1 r zq=>⟨by rw[<- r.length];exact zq.1,?_⟩)
 obtain ⟨z,q⟩:=zq
 have hf:H1 s1.heap.objs.size=none:=I1.hok.fresh (aQ _)
 refine ⟨.ref s1.heap.objs.size,upd H1 s1.heap.objs.size (.lst xs),I1.laid (t':=s1.toks) (fun b u e=>aE _ e) (aQ _) ?_,rfl,q _ hf⟩
 exact ⟨z,us,0,r,bE _ rfl⟩
end
abbrev Sp:=List V->Hp->VK->XK->Prop
abbrev CXT:=List Env->Hp->aN->XK->aJ->aN->Prop
structure Env0(P:cT)(w:eO)(K:aK)(mg:Str->Option aJ)(base:Heap)(A:eS)(outer:List Env)(s:aN)(H:Hp):Prop where
 frames:A.frames=some outer
 mod:Mod K mg base
 bs:∀ b o,base.get? b=some o->s.heap.get? b=some o/\H b=none
 bsz:base.objs.size<=s.heap.objs.size
 funs:s.heap.FunFrames base outer
 frf:∀ b∈frs outer,H b=none
 hok:HOk P w H s.heap
 bare:nS s.gens
inductive CE(outer:List Env)(P:cT)(w:eO)(H:Hp)(s:aN)(Q:VK)(u:aJ)(s':aN):Prop
 | mk (v:V) (H':Hp) (os:s'.os=s.os) (bare:nS s'.gens) (un:Un (frs outer) [] H H' s.heap s'.heap) (hok:HOk P w H' s'.heap) (r:RelV v u) (q:Q v H'):CE outer P w H s Q u s'
noncomputable def CR(CX:CXT)(outer:List Env)(P:cT)(w:eO)(H:Hp)(s:aN)(Q:VK)(E:XK)(r:sR)(s':aN):Prop:=
 match r with
 | .ok (.ret u)=>CE outer P w H s Q u s'
 | .ok _=>False
 | .error e=>CX outer H s E e s'
structure FnOk(P:cT)(w:eO)(K:aK)(mg:Str->Option aJ)(base:Heap)(CX:CXT)(k:Nat)(f:Addr)(fd:cM)(ps:List Str)(sp:Sp):Prop where
 len:∀ vs H Q E,sp vs H Q E->vs.length=ps.length
 run:∀ (A:eS) (outer:List Env) (s:aN) (H:Hp) (args:Args) (us:List aJ) (vs:List V) (Q:VK) (E:XK),Room k A->Env0 P w K mg base A outer s H->pF s fd args (ps.zip us)->Vals vs us->sp vs H Q E ->
  nT (model P w) A (.call (.ref f) args) (CR CX outer P w H s Q E) s
section
theorem Inv.env0(I:Inv X pins σ H s):Env0 X.prog X.w X.K X.mg X.base X.A X.stack s H:=
 ⟨I.ok.frames,I.ok.mod,I.bs,cJ I.ok.bsz I.sz,I.stack,I.stkFree,I.hok,I.bare⟩
theorem Inv.after(I:Inv X pins σ H s)(h:CE X.stack X.prog X.w H s Q u s'):EP X pins σ Q u s':=by
 obtain ⟨v,H',os,bare,un,hok,r,q⟩:=h
 obtain ⟨hh,g,d,t,os'⟩:=s'
 obtain rfl:os'=s.os:=os
 exact ⟨v,H',I.call (h':=hh) (g':=g) (d':=d) (t':=t) (ch:=[]) un hok bare (fun b z=>absurd z (by simp)),r,q⟩
end
noncomputable def Aoo(sp:Sp)(dvs:List V)(E:XK)(t:TA):TE:=fun σ H Q=>t σ H fun vs H1=>sp (vs++dvs) H1 Q E
noncomputable def Binds(K:aK)(fd:cM)(ps:List Str)(ds:List aJ):Prop:=
 ∀ (s:aN) (us:List aJ),K.In s.heap->(us++ds).length=ps.length->pF s fd ⟨us,[]⟩ (ps.zip (us++ds))
variable {fd:cM}{ps:List Str}
theorem Binds.all(h:∀ us:List aJ,us.length=ps.length->bindArgs fd ⟨us,[]⟩=pure (ps.zip us)):Binds K fd ps []:=fun s us _ hl=>by
 rw[aU] at hl ⊢
 exact .of_eq (h us hl)
noncomputable def Aao(CX:CXT)(X:Cx)(E:XK):Prop:=∀ (pins:List (Addr×Obj)) (σ:St) (H:Hp) (s:aN) (e:aJ) (s':aN),Inv X pins σ H s->CX X.stack H s E e s'->X.xe e s'
variable {CX:CXT}
section
variable {sp:Sp}{dvs:List V}{ds:List aJ}{E:XK}{m:Str}{apos:Pos}{o:Expr}
theorem An7{vs:List V}(F:FnOk X.prog X.w X.K X.mg X.base CX k f fd ps sp)(hr:Room k X.A)(hb:Binds X.K fd ps ds)(hd:Vals dvs ds)(hx:Aao CX X E)
  (I:Inv X pins σ H s) (r:Vals vs us) (h:sp (vs++dvs) H Q E):wpAny (model X.prog X.w) X.A (call (.ref f) us) (EP X pins σ Q) X.xe s:=by
 have r2:Vals (vs++dvs) (us++ds):=r.append hd
 have hl:(us++ds).length=ps.length:=by rw[<- r2.length];exact F.len _ _ _ _ h
 refine sS (kA (F.run X.A X.stack s H ⟨us,[]⟩ (us++ds) (vs++dvs) Q E hr I.env0 (hb s us I.kIn hl) r2 h) fun r s' hq=>?_)
 cases r with
 | error e=>exact hx pins σ H s e s' I hq
 | ok fl=>
  cases fl with
  | ret u=>exact I.after hq
  | next=>exact gI hq
  | brk=>exact gI hq
  | cont=>exact gI hq
theorem Aim(F:FnOk X.prog X.w X.K X.mg X.base CX k f fd ps sp)(hr:Room k X.A)(hg:Gl X x)(hm:X.mg x=some (.ref f))(hk:bO X.K (.ref f)=true)(hb:Binds X.K fd ps ds)(hd:Vals dvs ds)(hx:Aao CX X E)
  (ha:PA X (e::es) t) (hdb:(x == ("__debug__" : Str))=false:=by decide) (he:bS (e::es) X.env=(false,eval e X.env)::bS es X.env:=by rfl) (hpl:(backTo pos (bS es X.env)).any (·.1)=false:=by rfl) :
  PE X (.Call (.Name x p) (e::es) [] pos) (Aoo sp dvs E t):=by
 intro pins s σ H Q I h
 refine fY (Acu I hg hm ?_ hdb)
 refine PySem.W.callWith_K (h₀:=X.base) I.ok.mod.kin hk (thn (ha pos pins s σ H _ I h) fun us s1 zz=>zz.elim fun vs H1 I1 r q=>⟨I1.kIn,?_⟩) he hpl
 exact An7 F hr hb hd hx I1 r q
structure Mk(K:aK)(C f:Addr):Prop where
 makes:PySem.W.makesIn K C=true
 init:jZ K (.ref C) "__init__" = some (some (.ref f))
 fn:tN K (.ref f)=true
 kp:bO K (.ref C)=true
end
noncomputable def PK(X:Cx)(kws:List jJ)(t:TA):Prop:=
 ∀ (pos:Pos) (pins:List (Addr×Obj)) (s:aN) (σ:St) (H:Hp) (Q:List V->Hp->Prop),Inv X pins σ H s->t σ H Q->wpAny (model X.prog X.w) X.A (evalAll ((backToKw pos (keywordEach kws X.env)).map (·.2))) (AP X pins σ Q) X.xe s
section
variable {ks:List Str}{sp:Sp}{E:XK}{m:Str}{apos kpos:Pos}{o:Expr}{kws:List jJ}{tk:TA}{nm:Option Str}
theorem Agn:PK X [] Aou:=fun _ _ _ _ H Q I h=>wpAny_evalAll_nil ⟨[],H,I,.nil,h⟩
theorem Ab7(ha:PE X e te)(hr:PK X kws t):PK X (⟨nm,e,kpos⟩::kws) (Akm te t):=by
 intro pos pins s σ H Q I h
 show wpAny _ _ (evalAll ((do let v <- eval e X.env;standAt pos;pure v)::(backToKw pos (keywordEach kws X.env)).map (·.2))) _ _ s
 refine wpAny_evalAll_cons (aD (thn (ha pins s σ H _ I h) fun u s1 zz=>zz.elim fun x H1 I1 r1 q1=>aD (kQ (aM ?_))))
 refine thn (hr pos pins s1 σ H1 _ I1 q1) fun us s2 zz=>?_
 obtain ⟨xs,H2,I2,r2,q2⟩:=zz
 exact ⟨x::xs,H2,I2,.cons r1 r2,q2⟩
structure KBinds(K:aK)(fd:cM)(ps ks:List Str)(g:List aJ->List aJ->List aJ)(gV:List V->List V->List V):Prop where
 to:∀ (s:aN) (us ws:List aJ),K.In s.heap->(g us ws).length=ps.length->pF s fd ⟨us,ks.zip ws⟩ (ps.zip (g us ws))
 rel:∀ {vs:List V} {us:List aJ} {zs:List V} {ws:List aJ},Vals vs us->Vals zs ws->Vals (gV vs zs) (g us ws)
variable {g:List aJ->List aJ->List aJ}{gV:List V->List V->List V}
end
structure FnScope(N P:List Str)(sc:nF):Prop where
 kind:sc.kind = .function
 co:sc.isCoroutine=false
 gen:sc.isGenerator=false
 nd:N.Nodup
 pre:N.take P.length=P
 par:∀ x∈P,sc.names.lookup x=some .local\/sc.names.lookup x=some .cell
 nofree:∀ y∈sc.names,y.2≠.free
variable {kindOf:Str->Option nG}
theorem U8:∀ {binds:List (Str×aJ)} {m:Str->Option aJ},(∀ v,(x,v)∉binds)->bindL kindOf binds m x=m x
 | [],_,_=>rfl
 | (n,v)::r,m,h=>by
  unfold bindL
  rw[U8 fun w hw=>h w (aT _ hw)]
  split
  ·have:x≠n:=by rintro rfl;exact h v aX
   simp[this]
  ·rfl
theorem Vn:∀ {binds:List (Str×aJ)} {m:Str->Option aJ},(∀ v,(x,v)∉binds)->bindC kindOf binds m x=m x
 | [],_,_=>rfl
 | (n,v)::r,m,h=>by
  unfold bindC
  rw[Vn fun w hw=>h w (aT _ hw)]
  split
  ·rfl
  ·have:x≠n:=by rintro rfl;exact h v aX
   simp[this]
theorem Uv{v:aJ}:∀ {P:List Str} {vs:List aJ} {i:Nat} {m:Str->Option aJ},P.Nodup->P[i]? = some x->vs[i]? = some v->kindOf x=some .local ->
  bindL kindOf (P.zip vs) m x=some v
 | [],_,_,_,_,h,_,_=>by simp at h
 | _::_,[],_,_,_,_,h,_=>by simp at h
 | p::P,w::vs,0,m,nd,h1,h2,hk=>by
  simp at h1 h2;subst h1;subst h2
  show bindL kindOf ((p,w)::P.zip vs) m p=_
  unfold bindL
  rw[U8 fun v hv=>(iB.mp nd).1 (kY hv).1,if_pos hk]
  simp
 | p::P,w::vs,i+1,m,nd,h1,h2,hk=>by
  show bindL kindOf ((p,w)::P.zip vs) m x=_
  unfold bindL
  exact Uv (i:=i) (iB.mp nd).2 (by simpa using h1) (by simpa using h2) hk
theorem Vl{v:aJ}:∀ {P:List Str} {vs:List aJ} {i:Nat} {m:Str->Option aJ},P.Nodup->P[i]? = some x->vs[i]? = some v->kindOf x≠some .local ->
  bindC kindOf (P.zip vs) m x=some v
 | [],_,_,_,_,h,_,_=>by simp at h
 | _::_,[],_,_,_,_,h,_=>by simp at h
 | p::P,w::vs,0,m,nd,h1,h2,hk=>by
  simp at h1 h2;subst h1;subst h2
  show bindC kindOf ((p,w)::P.zip vs) m p=_
  unfold bindC
  rw[Vn fun v hv=>(iB.mp nd).1 (kY hv).1,if_neg hk]
  simp
 | p::P,w::vs,i+1,m,nd,h1,h2,hk=>by
  show bindC kindOf ((p,w)::P.zip vs) m x=_
  unfold bindC
  exact Vl (i:=i) (iB.mp nd).2 (by simpa using h1) (by simpa using h2) hk
noncomputable def start(N:List Str)(vs:List V):St:=vs.map some++bW (N.length - vs.length) none
noncomputable def Aam(CX:CXT)(P:cT)(w:eO)(K:aK)(mg:Str->Option aJ)(base:Heap)(N:List Str)(qual:Str)(scope:nF)(f:Addr)(cd:aJ)(A:eS)(outer:List Env)(s:aN)(H:Hp)(E:XK):Cx where
 prog:=P
 w:=w
 K:=K
 mg:=mg
 base:=base
 A:=A.deeper (envOfC qual scope s.heap.objs.size f cd)
 N:=N
 s₀:=s
 H₀:=H
 env:=envOfC qual scope s.heap.objs.size f cd
 outer:=outer
 stack:=envOfC qual scope s.heap.objs.size f cd::outer
 ex:=[]
 calm:=true
 fn:=fun _=>true
 pn:=[]
 xe:=fun e s'=>wpAny (model P w) (A.deeper (envOfC qual scope s.heap.objs.size f cd)) (leaving (envOfC qual scope s.heap.objs.size f cd) e) (fun _ s''=>CX outer H s E e s'') (fun e' s''=>CX outer H s E e' s'') s'
theorem Xe{sc:nF}{n:Nat}(h:sc.names.lookup x=some .cell):∃ c,(cellsFrom n sc.names []).lookup x=some c:=by
 have q:=nV sc.names n [] (.inl h)
 exact Option.isSome_iff_exists.mp q
theorem Adr{mg:Str->Option aJ}{base:Heap}{N:List Str}{qual:Str}{scope:nF}{cd:aJ}{outer:List Env}{s1:aN}{E:XK}{vs:List V}
  (S:FnScope N ps scope) (hd:A.handled=none) (e0:Env0 P w K mg base A outer s H) (hl:vs.length=ps.length) (r:Vals vs us)
  (x:InCallC s s.heap.objs.size (bindL (envOfC qual scope s.heap.objs.size f cd).kindOf (ps.zip us) fun _=>none) (cellsFrom (s.heap.objs.size+1) scope.names []) (bindC (envOfC qual scope s.heap.objs.size f cd).kindOf (ps.zip us) fun _=>none) s1) :
  Inv (Aam CX P w K mg base N qual scope f cd A outer s H E) [] (start N vs) H s1:=by
 have hpl:ps.length<=N.length:=by have:=congrArg jS S.pre;rw[cH] at this;omega
 obtain ⟨h1,tk,rfl,hk⟩:=x.done
 have noA:∀ b:Addr,b∉(Aam CX P w K mg base N qual scope f cd A outer s H E).ex:=fun b z=>absurd (show b∈([]:List Addr) from z) (by simp)
 refine ⟨⟨e0.mod,S.kind,rfl,rfl,aQ _,fun y z c h1 h2=>?_,fun y hy=>?_,fun y c _ h=>?_,fun _=>hd,eS.frames_deeper e0.frames,.inr ⟨rfl,rfl⟩,fun b z=>absurd z (noA b),e0.bs,e0.bsz,fun b _ _=>noA b,fun b z=>absurd z (noA b),e0.funs,e0.frf⟩,
  rfl,e0.bare,Un.kept hk,⟨_,x.toInCall.ns,fun i y v h1 h2 h3=>?_⟩,fun y c h=>⟨_,x.cell y c h⟩,e0.hok.fresh (aQ _),fun y c h=>?_,fun p hp=>absurd (show p∈([]:List (Addr×Obj)) from hp) (by simp),e0.hok.kept hk,?_⟩
 ·exact name_of_addr x.apart (iK h1) (iK h2)
 ·have hy:scope.names.lookup y=some .cell\/scope.names.lookup y=some .free:=hy
  rcases hy with hy | hy
  ·exact Xe hy
  ·exact absurd rfl (S.nofree _ (iK hy))
 ·exact lM (x.above y c (iK h))
 ·have hi:i < vs.length:=by
   unfold start at h2
   by_cases hi:i < vs.length
   ·exact hi
   ·rw[cC (by simpa using hi)] at h2
    rw[List.getElem?_replicate] at h2
    split at h2 <;> cases h2
  have ha:vs[i]? = some v:=by
   unfold start at h2
   rw[bG (by simpa using hi),bA] at h2
   cases e:vs[i]? with
   | none=>rw[e] at h2;cases h2
   | some a=>rw[e] at h2;cases h2;rfl
  obtain ⟨u,hu,rv⟩:=r.get ha
  have hp:ps[i]? = some y:=by
   rw[<- S.pre,List.getElem?_take_of_lt (by omega)];exact h1
  have ndP:ps.Nodup:=by rw[<- S.pre];exact S.nd.sublist (iE _ _)
  refine ⟨u,rv,?_⟩
  rcases S.par y (aW hp) with k | k
  ·exact .inl ⟨k,Uv ndP hp hu k⟩
  ·obtain ⟨c,e⟩:=Xe (n:=s.heap.objs.size+1) k
   refine .inr ⟨.inl k,c,e,?_⟩
   have q:=x.cell y c e
   rw[Vl ndP hp hu (by show scope.names.lookup y≠_;rw[k];decide)] at q
   exact q
 ·exact e0.hok.fresh (lM (x.above y c (iK h)))
 ·unfold start
  show _=N.length
  rw[bB,aI,List.length_replicate]
  omega
theorem Aod{mg:Str->Option aJ}{base:Heap}{name qual:Str}{params:Arguments}{scope:nF}{dV kV doc pm cdv ct oc:aJ}{an od:Option Addr}
  {osl:Array (Option aJ)} {N ps:List Str} {sp:Sp} (lk:K.lookup f=some ⟨oc,od,.func (bU name qual params body scope dV kV doc pm an cdv ct),osl⟩) (hcd:bQ K cdv qual=true) (S:FnScope N ps scope)
  (len:∀ vs H Q E,sp vs H Q E->vs.length=ps.length)
  (hbody:∀ (A:eS) (outer:List Env) (s:aN) (H:Hp) (vs:List V) (Q:VK) (E:XK),Room k (A.deeper (envOfC qual scope s.heap.objs.size f cdv))->sp vs H Q E ->
   ∃ t,PSs (Aam CX P w K mg base N qual scope f cdv A outer s H E) body t/\t { nx:=fun _ H'=>Q .non H',rt:=Q } (start N vs) H) :
  FnOk P w K mg base CX (k+1) f (bU name qual params body scope dV kV doc pm an cdv ct) ps sp:=by
 refine ⟨len,fun A outer s H args us vs Q E hr e0 hb r hsp=>?_⟩
 have hl:=len _ _ _ _ hsp
 have KX:K.In s.heap:=e0.mod.kin.keeps fun b o e=>(e0.bs b o e).1
 have lim:s.heap.NoLimit:=e0.mod.nolimit.keeps fun b o e=>(e0.bs b o e).1
 have hkind:∀ y∈ps.zip us,scope.names.lookup y.1=some .local\/(scope.names.lookup y.1=some .cell/\((cellsFrom (s.heap.objs.size+1) scope.names []).lookup y.1).isSome=true):=fun ⟨n,v⟩ hy=>by
  rcases S.par n (kY hy).1 with q | q
  ·exact .inl q
  ·exact .inr ⟨q,nV _ _ _ (.inl q)⟩
 refine codeAny_call_function hr.depth (KX _ _ lk) rfl S.co S.gen rfl (PySem.W.codeRec_of KX hcd) (hb _ _ _ _ ?_)
 refine wpAny_newFunctionEnv_cells S.kind hkind fun env he s1 x=>?_
 subst he
 refine ⟨lim.keeps x.toInCall.keep,codeAny_func ?_⟩
 obtain ⟨t,ht,hq⟩:=hbody A outer s H vs Q E (hr.deeper _) hsp
 have I:Inv (Aam CX P w K mg base N qual scope f cdv A outer s H E) [] (start N vs) H s1:=Adr S hr.hd e0 hl r x
 refine fO (ht [] s1 (start N vs) H _ I hq) (fun fl s' hs=>?_) fun e s' hs=>hs
 have fin:∀ {σ':St} {H':Hp} {v:V} {u:aJ},Inv (Aam CX P w K mg base N qual scope f cdv A outer s H E) [] σ' H' s'->RelV v u->Q v H'->CE outer P w H s Q u s':=
  fun {σ' H' v u} J rv q=>⟨v,H',J.os,J.bare,J.base,J.hok,rv,q⟩
 cases fl with
 | ret u=>
  obtain ⟨v,σ',H',J,rv,q⟩:=hs
  exact fin J rv q
 | next=>
  obtain ⟨σ',H',J,q⟩:=hs
  exact fin (v:=V.non) (u:=eE) J rfl q
 | brk=>
  obtain ⟨_,_,_,q⟩:=hs
  exact gI q
 | cont=>
  obtain ⟨_,_,_,q⟩:=hs
  exact gI q
section
variable {id T:String}{r:List V->Hp->VK->Prop}
noncomputable def tCB(r:List V->Hp->VK->Prop)(t:TA):TE:=fun σ H Q=>t σ H fun vs H1=>r vs H1 Q
theorem Yg(hc:CallR X (.builtin id) r)(hg:Gl X x)(hm:X.mg x=none)(hv:gC x=some (.builtin id))(ha:PA X (e::es) t)(hn:x ≠ "__name__" := by decide)(hdb:(x == ("__debug__" : Str))=false:=by decide)
  (he:bS (e::es) X.env=(false,eval e X.env)::bS es X.env:=by rfl) (hpl:(backTo pos (bS es X.env)).any (·.1)=false:=by rfl):PE X (.Call (.Name x p) (e::es) [] pos) (tCB r t):=by
 intro pins s σ H Q I h
 refine fY (Jm I hg hm hv ?_ hn hdb)
 exact kN (thn (ha pos pins s σ H _ I h) fun us s1 zz=>by obtain ⟨vs,H1,I1,r1,q1⟩:=zz;exact hc pins s1 σ H1 vs us Q I1 r1 q1) he hpl
theorem Aed(hc:CallR X (.type T) r)(hg:Gl X x)(hm:X.mg x=none)(hv:gC x=some (.type T))(ha:PA X (e::es) t)(hn:x ≠ "__name__" := by decide)(hdb:(x == ("__debug__" : Str))=false:=by decide)
  (he:bS (e::es) X.env=(false,eval e X.env)::bS es X.env:=by rfl) (hpl:(backTo pos (bS es X.env)).any (·.1)=false:=by rfl):PE X (.Call (.Name x p) (e::es) [] pos) (tCB r t):=by
 intro pins s σ H Q I h
 refine fY (Jm I hg hm hv ?_ hn hdb)
 exact eP (thn (ha pos pins s σ H _ I h) fun us s1 zz=>by obtain ⟨vs,H1,I1,r1,q1⟩:=zz;exact hc pins s1 σ H1 vs us Q I1 r1 q1) he hpl
end
end L2
namespace HT
open PySem PyProof.Rows
section
open PySem.SeqAt
open PySem.AutoSeq1 (wpAny_loadPart')
open PySem.MeetsSeq PySem.MeetsSeq2 PySem.MeetsSeq3
end
section
variable {prog:cT}{w:eO}{A:eS}{E:aJ->aN->Prop}{s:aN}
theorem Ajc{t b:Addr}{vs ws:List aJ}{Q:aJ->aN->Prop}(ht:sP s.heap t vs.toArray)(hb:sP s.heap b ws.toArray)(hv:vs≠[])
  (h1:ws=[]->Q (.ref t) s) (h2:ws≠[]->Q (.ref s.heap.objs.size) { s with heap:=s.heap.push { cls:=.type "tuple",data:=.seq (vs++ws).toArray } })
  (hsz:vs.length+ws.length<=sizeLine):wpAny (model prog w) A (fW .Add (.ref t) (.ref b)) Q E s:=by
 obtain ⟨⟨cls,dd,data,sl⟩,ho,hc,n,hd⟩:=id ht
 obtain ⟨⟨cls2,dd2,data2,sl2⟩,ho2,hc2,n2,hd2⟩:=id hb
 simp only at hc hd hc2 hd2
 subst hc hd hc2 hd2
 have e:vs.toArray++ws.toArray=(vs++ws).toArray:=by simp
 by_cases hw:ws=[]
 ·exact qF ⟨_,ho,rfl⟩ ⟨_,ho2,rfl⟩ nH pK kB jT (jF _ _)
   (tuple_addW1 t b vs.toArray ws.toArray n n2 dd dd2 sl sl2 (by simpa using hv) (by simp[hw])) ⟨ho,ho2,h1 hw⟩
 ·refine qF ⟨_,ho,rfl⟩ ⟨_,ho2,rfl⟩ nH pK kB jT (jF _ _)
   (tuple_addW2 t b vs.toArray ws.toArray n n2 dd dd2 sl sl2 (by simpa using hv) (by simpa using hw) (by rw[aP,aP];exact hsz)) ⟨ho,ho2,?_⟩
  rw[e]
  exact h2 hw
noncomputable def sIx(n d:Nat):Option Int->Nat
 | none=>d
 | some v=>if v < 0 then (v+(n:Int)).toNat else min v.toNat n
theorem R9(n d:Nat):sIx n d none=d:=rfl
theorem Q7(n d k:Nat):sIx n d (some (k:Int))=min k n:=by
 show (if (k:Int) < 0 then ((k:Int)+(n:Int)).toNat else min (k:Int).toNat n)=min k n
 rw[if_neg (by omega),dZ]
theorem Al8(n d:Nat)(hd:d<=n)(o:Option Int):sIx n d o<=n:=by
 cases o with
 | none=>exact hd
 | some v=>
  show (if v < 0 then (v+(n:Int)).toNat else min v.toNat n)<=n
  by_cases hv:v < 0
  ·rw[if_pos hv];omega
  ·rw[if_neg hv];exact Nat.min_le_right _ _
theorem Abj(v:Int)(n d:Nat):(if v < 0 then max (v+(n:Int)) 0 else min v (n:Int))=((sIx n d (some v):Nat):Int):=by
 show (if v < 0 then max (v+(n:Int)) 0 else min v (n:Int))=(((if v < 0 then (v+(n:Int)).toNat else min v.toNat n):Nat):Int)
 by_cases hv:v < 0
 ·simp only[if_pos hv];omega
 ·simp only[if_neg hv];omega
theorem Aad(lo hi:Option Int)(n:Nat):fU lo hi 1 (n:Int)=(((sIx n 0 lo:Nat):Int),((sIx n n hi:Nat):Int)):=by
 have h1:¬ ((1:Int) < 0):=by omega
 unfold fU
 simp only[h1,if_false]
 refine Prod.ext ?_ ?_
 ·cases lo with
  | none=>rfl
  | some v=>exact Abj v n 0
 ·cases hi with
  | none=>rfl
  | some v=>exact Abj v n n
theorem Aau(i j:Nat):dI (i:Int) (j:Int) 1=j - i:=by
 unfold dI
 have h1:(1:Int) > 0:=by omega
 simp only[h1,if_true,Int.ediv_one]
 split <;> omega
theorem Jn{v:aJ}{o:Option Int}{Q:Option Int->aN->Prop}(p:lW v o)(h:Q o s):wpAny (model prog w) A (iP.Slice.slicePartIndex v) Q E s:=by
 cases p with
 | none=>exact slicePart_none h
 | int i t=>exact slicePart_int h
theorem Kk{sl:Addr}{vl vu:aJ}{lo hi:Option Int}{n:Nat}{Q:Int×Int×Nat->aN->Prop}(hs:s.heap.IsSliceOf sl vl vu .none)(pl:lW vl lo)(pu:lW vu hi)
  (h:Q (((sIx n 0 lo:Nat):Int),1,sIx n n hi - sIx n 0 lo) s):wpAny (model prog w) A (gS (.ref sl) (pure (n:Int))) Q E s:=by
 obtain ⟨os,hos,hcs,hds⟩:=id hs
 unfold gS mJ
 refine aD (aD (eC hos hds (x:=vl) rfl (aD (eC hos hds (x:=vu) rfl (aD (eC hos hds (x:=.none) rfl (aM ?_)))))))
 refine aD (slicePart_none ?_)
 show wpAny _ _ (if ((1:Int) == 0)=true then _ else _) _ _ s
 rw[if_neg (by decide)]
 refine aD (Jn pl (aD (Jn pu (aD (aM ?_)))))
 show wpAny _ _ (match fU lo hi 1 (n:Int) with | (lo,hi)=>pure (lo,(1:Int),dI lo hi 1)) _ _ s
 rw[Aad lo hi n]
 show wpAny _ _ (pure (((sIx n 0 lo:Nat):Int),(1:Int),dI ((sIx n 0 lo:Nat):Int) ((sIx n n hi:Nat):Int) 1)) _ _ s
 rw[Aau]
 exact aM h
theorem Agk(xs:Array aJ)(i k:Nat):((dB k).filterMap fun (m:Nat)=>xs[((i:Int)+(m:Int) * 1).toNat]?).toArray=((xs.toList.drop i).take k).toArray:=by
 have e:(fun (m:Nat)=>xs[((i:Int)+(m:Int) * 1).toNat]?)=fun m=>xs[i+m]?:=by
  funext m
  have:((i:Int)+(m:Int) * 1).toNat=i+m:=by omega
  rw[this]
 rw[e]
 have:=pick_run xs i k
 rw[jP] at this
 have e2:((fun x=>xs[x]?)∘fun x=>i+x)=fun m=>xs[i+m]?:=rfl
 rw[e2] at this
 rw[this]
theorem Pe{t sl:Addr}{items:Array aJ}{vl vu:aJ}{lo hi:Option Int}{Q:aJ->aN->Prop}(ht:sP s.heap t items)(hs:s.heap.IsSliceOf sl vl vu .none)(pl:lW vl lo)(pu:lW vu hi)
  (hw:¬ (sIx items.size 0 lo=0/\sIx items.size items.size hi=items.size))
  (h:Q (.ref s.heap.objs.size) { s with heap:=s.heap.push { cls:=.type "tuple",data:=.seq ((items.toList.drop (sIx items.size 0 lo)).take (sIx items.size items.size hi - sIx items.size 0 lo)).toArray } })
  (hsz:items.size<=sizeLine):wpAny (model prog w) A (getItem (.ref t) (.ref sl)) Q E s:=by
 have htake:sizeOk (.seq ((items.toList.drop (sIx items.size 0 lo)).take (sIx items.size items.size hi - sIx items.size 0 lo)).toArray):=by
  show ((items.toList.drop (sIx items.size 0 lo)).take (sIx items.size items.size hi - sIx items.size 0 lo)).toArray.size<=sizeLine
  rw[aP,cH,cS,eK]
  omega
 have hj:sIx items.size items.size hi<=items.size:=Al8 _ _ (aQ _) hi
 obtain ⟨os,hos,hcs,hds⟩:=id hs
 have hTs:s.TypeIs (.ref sl) "slice" := ⟨os,hos,hcs⟩
 unfold getItem
 try with_reducible refine cZ ?_
 first | refine aD (aM ?_) | skip
 refine aD (mR ht.typeIs (by decide) ?_)
 refine aD (eR (name:=dG "__getitem__") ht.typeIs cO
  (fL cO ht.typeIs lK ?_ (lX _ _)))
 show wpAny _ _ (iY (.ref t) >>= _) _ _ s
 refine aD (pL ht ?_)
 refine aD (kC hTs ?_)
 rw[if_pos (by decide)]
 refine aD (Kk hs pl pu ?_)
 have hno:¬ ((((sIx items.size 0 lo:Nat):Int) == 0&&(1:Int) == 1&&(sIx items.size items.size hi - sIx items.size 0 lo) == items.size)=true):=by
  intro q
  rw[cL,cL] at q
  have q1:((sIx items.size 0 lo:Nat):Int)=0:=eq_of_beq q.1.1
  have q2:sIx items.size items.size hi - sIx items.size 0 lo=items.size:=eq_of_beq q.2
  exact hw ⟨by omega,by omega⟩
 show wpAny _ _ (if (((sIx items.size 0 lo:Nat):Int) == 0&&(1:Int) == 1&&(sIx items.size items.size hi - sIx items.size 0 lo) == items.size)=true then _ else _) _ _ s
 rw[if_neg hno,Agk]
 first
  | exact aD (m:=dR _) (dM (aM ⟨_,rfl,aM h⟩) htake)
  | exact aD (m:=dR _) (dM (aD (aM (aM ⟨_,rfl,aM h⟩))) htake)
  | exact aD (aD (m:=dR _) (dM (aM (aM ⟨_,rfl,aM h⟩)) htake))
  | exact aD (aD (m:=dR _) (dM (aM ⟨_,rfl,aM h⟩) htake))
end
end HT
namespace L2
open PySem PySem.Spec PyProof.Rows
abbrev TO:=St->Hp->(Option Int->Hp->Prop)->Prop
noncomputable def PO(X:Cx)(e:Option Expr)(t:TO):Prop:=
 ∀ (pins:List (Addr×Obj)) (s:aN) (σ:St) (H:Hp) (Q:Option Int->Hp->Prop),Inv X pins σ H s->t σ H Q ->
  wpAny (model X.prog X.w) X.A (evalPart e X.env) (fun u s'=>∃ o H',Inv X pins σ H' s'/\lW u o/\Q o H') X.xe s
noncomputable def Ajx:TO:=fun _ H Q=>Q none H
noncomputable def Aoq(t:TE):TO:=fun σ H Q=>t σ H fun x H1=>∃ i,x = .int i/\Q (some i) H1
theorem Th{ns:List Int}:∀ {us:List aJ},Vals (ns.map V.int) us->pG us ns:=by
 induction ns with
 | nil=>intro us r;rw[cU] at r;cases r;exact .nil
 | cons n ns ih=>
  intro us r
  rw[aL] at r
  cases r with
  | cons r1 r2=>
   obtain ⟨t,e⟩:=r1
   subst e
   exact .cons n t (ih r2)
variable {X:Cx}{xs:List V}{us:List aJ}
section
variable {e:Expr}{te:TE}{lo hi:Option Expr}{tl th:TO}{pos p2:Pos}
theorem Ait:PO X none Ajx:=by
 intro pins s σ H Q I h
 rw[mY]
 exact aM ⟨none,H,I,.none,h⟩
theorem Ajb(h:PE X e te):PO X (some e) (Aoq te):=by
 intro pins s σ H Q I hw
 rw[evalPart_some]
 refine thn (h pins s σ H _ I hw) fun u s1 zz=>?_
 obtain ⟨x,H1,I1,r1,q1⟩:=zz
 obtain ⟨i,rfl,q⟩:=q1
 obtain ⟨t,rfl⟩:=r1
 exact ⟨some i,H1,I1,.int i t,q⟩
noncomputable def SlR(X:Cx)(r:V->Option Int->Option Int->Hp->VK->Prop):Prop:=
 ∀ (pins:List (Addr×Obj)) (s:aN) (σ:St) (H:Hp) (x:V) (v vl vu:aJ) (lo hi:Option Int) (sl:Addr) (Q:VK),Inv X pins σ H s->RelV x v->s.heap.IsSliceOf sl vl vu .none->lW vl lo->lW vu hi->r x lo hi H Q ->
  ∃ T id,typeLookup (.type T) "__getitem__" = pure (some (.builtin id))/\s.TypeIs v T/\wpAny (model X.prog X.w) X.A (getItem v (.ref sl)) (EP X pins σ Q) X.xe s
theorem SlR.or{r r':V->Option Int->Option Int->Hp->VK->Prop}(h:SlR X r)(h':SlR X r'):SlR X (fun x lo hi H Q=>r x lo hi H Q\/r' x lo hi H Q):=by
 intro pins s σ H x v vl vu lo hi sl Q I rx hs pl pu q
 rcases q with q | q
 ·exact h pins s σ H x v vl vu lo hi sl Q I rx hs pl pu q
 ·exact h' pins s σ H x v vl vu lo hi sl Q I rx hs pl pu q
noncomputable def tSl(r:V->Option Int->Option Int->Hp->VK->Prop)(te:TE)(tl th:TO):TE:=fun σ H Q=>te σ H fun x H1=>tl σ H1 fun l H2=>th σ H2 fun u H3=>r x l u H3 Q
theorem Agg{r:V->Option Int->Option Int->Hp->VK->Prop}(hr:SlR X r)(he:PE X e te)(hl:PO X lo tl)(hu:PO X hi th):PE X (.Subscript e (.Slice lo hi none p2) pos) (tSl r te tl th):=by
 intro pins s σ H Q I h
 refine pW (thn (he pins s σ H _ I h) fun v s1 zz=>?_)
 obtain ⟨x,H1,I1,r1,q1⟩:=zz
 refine rT (thn (hl pins s1 σ H1 _ I1 q1) fun vl s2 ⟨l,H2,I2,pl,q2⟩=>thn (hu pins s2 σ H2 _ I2 q2) fun vu s3 zz=>?_)
 obtain ⟨u,H3,I3,pu,q3⟩:=zz
 rw[mY]
 refine aM ?_
 have I4:Inv X pins σ H3 { s3 with heap:=s3.heap.push { cls:=.type "slice",data:=.fields #[vl,vu,.none] } }:=I3.kept (t':=s3.toks) fun b ob q=>aE _ q
 obtain ⟨T,id,hT,ht,hg⟩:=hr pins { s3 with heap:=s3.heap.push { cls:=.type "slice",data:=.fields #[vl,vu,.none] } } σ H3 x v vl vu l u s3.heap.objs.size Q I4 r1 (lY ..) pl pu q3
 show wpAny (model X.prog X.w) X.A (subscriptTail e (.Slice lo hi none p2) v (.ref s3.heap.objs.size)) (EP X pins σ Q) X.xe { s3 with heap:=s3.heap.push { cls:=.type "slice",data:=.fields #[vl,vu,.none] } }
 exact sT (ops:=[.ref s3.heap.objs.size,v]) ht hT hg (by with_unfolding_all rfl)
noncomputable def Xg(xs:List V)(lo hi:Option Int):List V:=(xs.drop (HT.sIx xs.length 0 lo)).take (HT.sIx xs.length xs.length hi - HT.sIx xs.length 0 lo)
theorem Qm(xs:List V)(lo hi:Option Int):(Xg xs lo hi).length<=xs.length:=by
 unfold Xg
 rw[cH,cS]
 omega
noncomputable def Apr(K:aK):V->Option Int->Option Int->Hp->VK->Prop:=fun x lo hi H Q=>∃ a xs,x = .ref a/\SqT K H a xs /\
 ¬ (HT.sIx xs.length 0 lo=0/\HT.sIx xs.length xs.length hi=xs.length)/\∀ p,H p=none->Q (.ref p) (upd H p (.tup (Xg xs lo hi)))
theorem Alz:SlR X (Apr X.K):=by
 intro pins s σ H x v vl vu lo hi sl Q I rx hs pl pu h
 obtain ⟨a,xs,rfl,hx,hw,q⟩:=h
 cases rx
 obtain ⟨its,r,ht,hz⟩:=I.tuple hx
 have hlen:its.toArray.size=xs.length:=by rw[aP];exact r.length.symm
 refine ⟨"tuple",_,cO.lookup,ht.typeIs,?_⟩
 refine HT.Pe ht hs pl pu (by rw[hlen];exact hw) ?_ (by rw[hlen];exact hz)
 rw[hlen]
 refine ⟨.ref s.heap.objs.size,_,I.laid (t':=s.toks) (o:=.tup (Xg xs lo hi)) (fun b ob q=>aE _ q) (aQ _) ?_,rfl,q _ (I.hok.fresh (aQ _))⟩
 exact ⟨cJ (Qm xs lo hi) hz,_,(r.drop (HT.sIx xs.length 0 lo)).take (HT.sIx xs.length xs.length hi - HT.sIx xs.length 0 lo),TupN.new _ _⟩
noncomputable def Akl(K:aK):R2:=fun x y H Q=>∃ a b xs ys,x = .ref a/\y = .ref b/\SqT K H a xs/\SqT K H b ys/\xs≠[]/\xs.length+ys.length<=sizeLine /\
 (ys=[]->Q (.ref a) H)/\(ys≠[]->∀ p,H p=none->Q (.ref p) (upd H p (.tup (xs++ys))))
theorem Vals.nil_iff(r:Vals xs us):us=[]↔xs=[]:=by
 cases r with
 | nil=>simp
 | cons _ _=>simp
theorem Aip:OpR X (fW .Add) (Akl X.K):=by
 intro pins s σ H x y v u Q I rx ry h
 obtain ⟨a,b,xs,ys,rfl,rfl,ha,hb,hx,hz,q1,q2⟩:=h
 cases rx
 cases ry
 obtain ⟨its,r1,p1,_⟩:=I.tuple ha
 obtain ⟨its2,r2,p2,_⟩:=I.tuple hb
 refine HT.Ajc p1 p2 (fun z=>hx (r1.nil_iff.mp z)) (fun z=>⟨.ref a,H,I,rfl,q1 (r2.nil_iff.mp z)⟩) (fun z=>?_) (by rw[<- r1.length,<- r2.length];exact hz)
 refine ⟨.ref s.heap.objs.size,_,I.laid (t':=s.toks) (o:=.tup (xs++ys)) (fun b ob q=>aE _ q) (aQ _) ?_,rfl,q2 (fun w=>z (r2.nil_iff.mpr w)) _ (I.hok.fresh (aQ _))⟩
 exact ⟨by rw[bB];exact hz,_,r1.append r2,TupN.new _ _⟩
end
noncomputable def ixN(n:Nat)(i:Int):Option Nat:=if 0<=i then (if i < n then some i.toNat else none) else if -(n:Int)<=i then some (i+n).toNat else none
noncomputable def atI{α:Type}(xs:List α)(i:Int):Option α:=(ixN xs.length i).bind fun j=>xs[j]?
variable {n:Nat}
theorem Abt{i:Int}{j:Nat}(h:ixN n i=some j):seqIndex? i n=some j/\j < n/\-(n:Int)<=i/\i < n:=by
 unfold ixN at h
 by_cases h0:0<=i
 ·rw[if_pos h0] at h
  by_cases h1:i < n
  ·rw[if_pos h1] at h
   have e:i.toNat=j:=bR h
   exact ⟨by rw[rV h0 h1,e],by omega,by omega,h1⟩
  ·rw[if_neg h1] at h;cases h
 ·rw[if_neg h0] at h
  by_cases h1:-(n:Int)<=i
  ·rw[if_pos h1] at h
   have e:(i+n).toNat=j:=bR h
   exact ⟨by rw[qG (by omega) h1,e],by omega,h1,by omega⟩
  ·rw[if_neg h1] at h;cases h
inductive atI_get_I(α:Type)(xs:List α)(i:Int)(v:α):Prop
 | mk (j:_) (h0:seqIndex? i xs.length=some j) (h1:xs[j]? = some v) (h2:j < xs.length) (h3:-(xs.length:Int)<=i) (h4:i < xs.length):atI_get_I α xs i v
theorem Vy{α:Type}{xs:List α}{i:Int}{v:α}(h:atI xs i=some v):atI_get_I α xs i v:=by
 unfold atI at h
 cases e:ixN xs.length i with
 | none=>rw[e] at h;cases h
 | some j=>
  rw[e] at h
  obtain ⟨h1,h2,h3,h4⟩:=Abt e
  exact ⟨j,h1,h,h2,h3,h4⟩
theorem atI_last{α:Type}(xs:List α)(v:α):atI (xs++[v]) (-1)=some v:=by
 have hl:(xs++[v]).length=xs.length+1:=by simp
 have e:ixN (xs++[v]).length (-1)=some xs.length:=by
  unfold ixN
  rw[hl,if_neg (by decide),if_pos (by omega)]
  congr 1
  omega
 unfold atI
 rw[e]
 show (xs++[v])[xs.length]? = some v
 simp
noncomputable def Ab6(b:Expr):Prop:=∀ o i,subscripted b false o i=operate [o,i] (getItem o i)
noncomputable def IxR(X:Cx)(r:R2):Prop:=
 ∀ (value slice:Expr) (pins:List (Addr×Obj)) (s:aN) (σ:St) (H:Hp) (x y:V) (v u:aJ) (Q:VK),Inv X pins σ H s->RelV x v->RelV y u->r x y H Q ->
  subscripted slice false v u=operate [v,u] (getItem v u)->wpAny (model X.prog X.w) X.A (subscriptTail value slice v u) (EP X pins σ Q) X.xe s
noncomputable def MtR(X:Cx)(id:String)(r:V->List V->Hp->VK->Prop):Prop:=
 ∀ (pins:List (Addr×Obj)) (s:aN) (σ:St) (H:Hp) (x:V) (xs:List V) (v:aJ) (us:List aJ) (Q:VK),Inv X pins σ H s->RelV x v->Vals xs us->r x xs H Q ->
  wpAny (model X.prog X.w) X.A (call (.builtin id) (v::us)) (EP X pins σ Q) X.xe s
variable {v:aJ}{pins:List (Addr×Obj)}{σ:St}{H:Hp}{s:aN}{its:List aJ}{A:eS}{y x:V}
section
variable {a b:Expr}{ta tb:TE}{pos:Pos}
theorem IxR.or{r r':R2}(h:IxR X r)(h':IxR X r'):IxR X (fun x y H Q=>r x y H Q\/r' x y H Q):=by
 intro value slice pins s σ H x y v u Q I rx ry q hs
 rcases q with q | q
 ·exact h value slice pins s σ H x y v u Q I rx ry q hs
 ·exact h' value slice pins s σ H x y v u Q I rx ry q hs
theorem Ao0{r:R2}(hr:IxR X r)(ha:PE X a ta)(hb:PE X b tb)(hs:Ab6 b):PE X (.Subscript a b pos) (tOp r ta tb):=by
 intro pins s σ H Q I h
 exact pW (Anp ha hb I h fun v u s2 x y H2 I2 rx ry q=>hr a b pins s2 σ H2 x y v u Q I2 rx ry q (hs _ _))
noncomputable def Apk(K:aK):R2:=fun x y H Q=>∃ p xs i v,x = .ref p/\y = .int i/\SqL K H p xs/\atI xs i=some v/\Q v H
noncomputable def Aoe(K:aK):R2:=fun x y H Q=>∃ p xs i v,x = .ref p/\y = .int i/\SqT K H p xs/\atI xs i=some v/\Q v H
noncomputable def Aog:R2:=fun x y H Q=>∃ z i c,x = .str z/\y = .int i/\z.length<=sizeLine/\atI z.cps.toList i=some c/\Q (.str ⟨#[c]⟩) H
theorem Aiw:IxR X (Apk X.K):=by
 intro value slice pins s σ H x y v u Q I rx ry h hs
 obtain ⟨p,xs,i,z,rfl,rfl,hq,he,q⟩:=h
 cases rx
 obtain ⟨t,rfl⟩:=ry
 obtain ⟨its,r,pl,hz⟩:=I.list hq
 obtain ⟨j,h1,h2,h3,h4,h5⟩:=Vy he
 obtain ⟨w,ew,rw'⟩:=r.get h2
 have hl:=r.length
 have hn:=P9
 have fin:EP X pins σ Q w s:=⟨z,H,I,rw',q⟩
 by_cases h0:0<=i
 ·have hj:i.toNat=j:=by
   rw[rV h0 h5] at h1
   exact bR h1
  exact item_listR pl.isList h0 (by omega) (by rw[hj];simpa using ew) fin hs
 ·have hj:(i+(its.toArray.size:Int)).toNat=j:=by
   rw[qG (by omega) h4] at h1
   rw[aP,<- hl]
   exact bR h1
  exact nW (x:=w) pl.isList.typeIs mS.lookup
   (wpAny_getItem_list_neg (Q:=fun r s'=>r=w/\EP X pins σ Q r s') pl.isList (by omega) (by rw[aP] <;> omega) (by omega) (by rw[hj];simpa using ew) ⟨rfl,fin⟩) hs
theorem Amv:IxR X (Aoe X.K):=by
 intro value slice pins s σ H x y v u Q I rx ry h hs
 obtain ⟨p,xs,i,z,rfl,rfl,hq,he,q⟩:=h
 cases rx
 obtain ⟨t,rfl⟩:=ry
 obtain ⟨its,r,pl,hz⟩:=I.tuple hq
 obtain ⟨j,h1,h2,h3,h4,h5⟩:=Vy he
 obtain ⟨w,ew,rw'⟩:=r.get h2
 have hl:=r.length
 have hn:=P9
 have fin:EP X pins σ Q w s:=⟨z,H,I,rw',q⟩
 exact nW (x:=w) pl.typeIs slot_tuple_getitem.lookup
  (getItem_tuple (j:=j) (Q:=fun r s'=>r=w/\EP X pins σ Q r s') pl (by omega) (by omega) (by rw[aP,<- hl];exact h1) (by simpa using ew) ⟨rfl,fin⟩) hs
theorem Ami:IxR X Aog:=by
 intro value slice pins s σ H x y v u Q I rx ry h hs
 obtain ⟨z,i,c,rfl,rfl,hz,he,q⟩:=h
 obtain ⟨t,rfl⟩:=rx
 obtain ⟨t',rfl⟩:=ry
 obtain ⟨j,h1,h2,h3,h4,h5⟩:=Vy he
 have hl:z.cps.toList.length=z.length:=by simp[sV]
 rw[hl] at h1 h4 h5
 have hn:=P9
 exact sT (sW s z t) slot_str_getitem.lookup (getItem_str (c:=c) (by
  have e1:decide (i < -(2 ^ 63:Int))=false:=decide_eq_false (by omega)
  have e2:decide (i ≥ 2 ^ 63)=false:=decide_eq_false (by omega)
  rw[e1,e2,Bool.or_false]) (by rw[h1];simpa using h2) ⟨.str ⟨#[c]⟩,H,I.tok _,⟨_,rfl⟩,q⟩) hs
noncomputable def rIx(K:aK):R2:=fun x y H Q=>Apk K x y H Q\/Aoe K x y H Q\/Aog x y H Q
theorem A9:IxR X (rIx X.K):=Aiw.or (Amv.or Ami)
theorem Y7(its:List aJ)(n j:Nat)(u:aJ):cI (·.setIfInBounds j u) { cls:=.type "list",data:=.seq its.toArray n } = { cls:=.type "list",data:=.seq (its.set j u).toArray n }:=by
 simp[cI]
theorem Inv.lst{p:Addr}(I:Inv X pins σ H s)(h:H p=some (.lst xs)) :
  ∃ (its:List aJ) (n:Nat),Vals xs its/\s.heap.get? p=some { cls:=.type "list",data:=.seq its.toArray n }/\xs.length<=sizeLine:=by
 obtain ⟨z,its,n,r,e⟩:=I.hok p _ h
 exact ⟨its,n,r,e,z⟩
theorem Inv.lstUpd{p:Addr}{ys:List V}{its':List aJ}{n':Nat}{f:Obj->Obj}(I:Inv X pins σ H s)(h:H p=some (.lst xs))
  (ho:s.heap.get? p=some { cls:=.type "list",data:=.seq its.toArray n }) (hf:f { cls:=.type "list",data:=.seq its.toArray n } = { cls:=.type "list",data:=.seq its'.toArray n' }) (r:Vals ys its') (hz:ys.length<=sizeLine) (t:Nat) :
  Inv X pins σ (upd H p (.lst ys)) { s with heap:=s.heap.update p f,toks:=t }:=by
 have e:(s.heap.update p f).get? p=some { cls:=.type "list",data:=.seq its'.toArray n' }:=by
  rw[kJ f ho (by rw[hf] <;> rfl),hf]
 refine I.write (x:=p) (e:=p) (by rw[h];trivial) (.inl rfl) (fun b u hb q=>(nX _ _ (eW hb)).trans q) ⟨_,e⟩ ?_
 exact ⟨hz,its',n',r,e⟩
noncomputable def Aoj:V->V->V->Hp->(Hp->Prop)->Prop:=fun o i v H Q=>∃ p xs k j,o = .ref p/\i = .int k/\H p=some (.lst xs)/\ixN xs.length k=some j/\Q (upd H p (.lst (xs.set j v)))
theorem Ahf:Apo X Aoj:=by
 intro pins s σ H o i v ov iv u Q I ro ri rv h
 obtain ⟨p,xs,k,j,rfl,rfl,hp,hj,q⟩:=h
 cases ro
 obtain ⟨t,rfl⟩:=ri
 obtain ⟨its,n,r,ho,hz⟩:=I.lst hp
 obtain ⟨h1,h2,h3,h4⟩:=Abt hj
 have hl:=r.length
 have hn:=P9
 have I':Inv X pins σ (upd H p (.lst (xs.set j v))) { s with heap:=s.heap.update p (cI (·.setIfInBounds j u)) }:=
  I.lstUpd hp ho (Y7 its n j u) (r.set rv j) (by rw[eV];exact hz) s.toks
 by_cases h0:0<=k
 ·have hk:k.toNat=j:=by
   rw[rV h0 h4] at h1
   exact bR h1
  exact PySem.W.ki_setAt ho h0 (by omega) (by rw[aP,<- hl];exact h4) (by rw[hk];exact ⟨_,I',q⟩)
 ·have hk:(k+(its.toArray.size:Int)).toNat=j:=by
   rw[qG (by omega) h3] at h1
   rw[aP,<- hl]
   exact bR h1
  exact PySem.W.ki_setBack ho (by omega) (by rw[aP,<- hl];exact h3) (by omega) (by rw[hk];exact ⟨_,I',q⟩)
theorem Aco(i:Int)(n:Nat):max 0 (min (if i < 0 then i+(n:Int) else i) (n:Int))=(((if i < 0 then (i+(n:Int)).toNat else min i.toNat n):Nat):Int):=by
 by_cases h:i < 0
 ·have hm:i+(n:Int)<=n:=by omega
  rw[if_pos h,if_pos h,rZ hm,Int.ofNat_toNat,Int.max_comm]
 ·obtain ⟨k,rfl⟩:=Int.eq_ofNat_of_zero_le (Int.not_lt.mp h)
  rw[if_neg h,if_neg h,dZ]
  rcases Nat.le_total k n with hk | hk
  ·rw[oG hk,rZ (qH.mpr hk),rE (lZ k)]
  ·rw[nI hk,Int.min_eq_right (qH.mpr hk),rE (lZ n)]
theorem Wd(lo hi:Option Int)(n:Nat):(sliceBounds lo hi none n).1=((HT.sIx n 0 lo:Nat):Int)/\(sliceBounds lo hi none n).2.1=((HT.sIx n n hi:Nat):Int)/\(sliceBounds lo hi none n).2.2=1:=by
 refine ⟨?_,?_,rfl⟩
 ·cases lo with
  | none=>rfl
  | some i=>exact Aco i n
 ·cases hi with
  | none=>rfl
  | some i=>exact Aco i n
theorem Tw(its:List aJ)(lo hi:Option Int):slicePick its.toArray lo hi none=((its.drop (HT.sIx its.length 0 lo)).take (HT.sIx its.length its.length hi - HT.sIx its.length 0 lo)).toArray:=by
 obtain ⟨h1,h2,h3⟩:=Wd lo hi its.toArray.size
 unfold slicePick
 rw[h1,h2,h3]
 simp only[sliceRange_one,pick_run,aP] <;> rfl
noncomputable def Aoz(K:aK):V->Option Int->Option Int->Hp->VK->Prop:=fun x lo hi H Q=>∃ a xs,x = .ref a/\SqL K H a xs/\∀ p,H p=none->Q (.ref p) (upd H p (.lst (Xg xs lo hi)))
theorem Ah6:SlR X (Aoz X.K):=by
 intro pins s σ H x v vl vu lo hi sl Q I rx hs pl pu h
 obtain ⟨a,xs,rfl,hx,q⟩:=h
 cases rx
 obtain ⟨its,r,ht,hz⟩:=I.list hx
 have hlen:=r.length
 refine ⟨"list",_,mS.lookup,ht.isList.typeIs,?_⟩
 refine mZ ht.isList hs pl pu .none (by simp) ?_ (by rw[aP] <;> omega)
 rw[Tw,<- hlen]
 refine ⟨.ref s.heap.objs.size,_,I.laid (t':=s.toks) (o:=.lst (Xg xs lo hi)) (fun b ob q=>aE _ q) (aQ _) ?_,rfl,q _ (I.hok.fresh (aQ _))⟩
 exact ⟨cJ (Qm xs lo hi) hz,_,0,(r.drop (HT.sIx xs.length 0 lo)).take (HT.sIx xs.length xs.length hi - HT.sIx xs.length 0 lo),bE _ rfl⟩
noncomputable def N9:V->Bool
 | .non=>true
 | .bl _=>true
 | .int _=>true
 | .str _=>true
 | _=>false
noncomputable def eqV:V->V->Bool
 | .non,.non=>true
 | .bl a,.bl b=>a == b
 | .bl a,.int b=>(if a then 1 else 0) == b
 | .int a,.bl b=>a == (if b then 1 else 0)
 | .int a,.int b=>a == b
 | .str a,.str b=>a == b
 | _,_=>false
theorem Al5{u:aJ}(ry:RelV y u)(rx:RelV x v)(fy:N9 y=true)(fx:N9 x=true):tV A s u v (eqV y x):=by
 cases y with
 | non=>
  cases ry
  cases x with
  | non=>cases rx;exact tV.same _
  | bl b=>cases rx;exact tV.none_bool b
  | int b=>obtain ⟨t,rfl⟩:=rx;exact tV.none_int b t
  | str b=>obtain ⟨t,rfl⟩:=rx;exact tV.none_str b t
  | _=>exact absurd (show false=true from fx) cP
 | bl a=>
  cases ry
  cases x with
  | non=>cases rx;exact tV.bool_none a
  | bl b=>cases rx;exact tV.bool_bool a b
  | int b=>obtain ⟨t,rfl⟩:=rx;exact tV.bool_int a b t
  | str b=>obtain ⟨t,rfl⟩:=rx;exact tV.bool_str a b t
  | _=>exact absurd (show false=true from fx) cP
 | int a=>
  obtain ⟨t',rfl⟩:=ry
  cases x with
  | non=>cases rx;exact tV.int_none a t'
  | bl b=>cases rx;exact tV.int_bool a t' b
  | int b=>obtain ⟨t,rfl⟩:=rx;exact tV.int_int a t' b t
  | str b=>obtain ⟨t,rfl⟩:=rx;exact pR a t' b t
  | _=>exact absurd (show false=true from fx) cP
 | str a=>
  obtain ⟨t',rfl⟩:=ry
  cases x with
  | non=>cases rx;exact tV.str_none a t'
  | bl b=>cases rx;exact tV.str_bool a t' b
  | int b=>obtain ⟨t,rfl⟩:=rx;exact pS a t' b t
  | str b=>obtain ⟨t,rfl⟩:=rx;exact tV.str_str a t' b t
  | _=>exact absurd (show false=true from fx) cP
 | _=>exact absurd (show false=true from fy) cP
noncomputable def eqU(x:V)(u:aJ):Bool:=match u with
 | .none=>eqV .non x
 | .bool b=>eqV (.bl b) x
 | .int i _=>eqV (.int i) x
 | .str z _=>eqV (.str z) x
 | _=>false
theorem Afq{u:aJ}(r:RelV y u)(f:N9 y=true):eqU x u=eqV y x:=by
 cases y with
 | non=>cases r;rfl
 | bl b=>cases r;rfl
 | int i=>obtain ⟨t,rfl⟩:=r;rfl
 | str z=>obtain ⟨t,rfl⟩:=r;rfl
 | _=>exact absurd (show false=true from f) cP
theorem Q9(h:Vals xs us)(f:xs.all N9=true):us.any (eqU x)=xs.any fun y=>eqV y x:=by
 induction h with
 | nil=>rfl
 | cons r t ih=>
  rw[kR,cL] at f
  rw[iJ,iJ,Afq r f.1,ih f.2]
theorem Mg(rx:RelV x v)(fx:N9 x=true):∀ {xs:List V} {us:List aJ},Vals xs us->xs.all N9=true->∀ u∈us,tV A s u v (eqU x u)
 | _,_,.nil,_=>fun u hu=>by cases hu
 | y::xs,u::us,.cons r t,f=>fun u' hu=>by
  rw[kR,cL] at f
  rcases bH.mp hu with rfl | hu
  ·rw[Afq r f.1];exact Al5 r rx f.1 fx
  ·exact Mg rx fx t f.2 u' hu
noncomputable def inV(x:V)(xs:List V):Bool:=xs.any fun y=>eqV y x
noncomputable def rIn(K:aK)(neg:Bool):R2:=fun x y H Q=>∃ p xs,y = .ref p/\(SqL K H p xs\/SqT K H p xs)/\N9 x=true/\xs.all N9=true/\Q (.bl (if neg then !inV x xs else inV x xs)) H
theorem Aei:OpR X (fJ .In) (rIn X.K false):=by
 intro pins s σ H x y v u Q I rx ry h
 obtain ⟨p,xs,rfl,hq,fx,fs,q⟩:=h
 cases ry
 rcases hq with hq | hq
 ·obtain ⟨its,r,pl,hz⟩:=I.list hq
  refine SeqAt.in_listAt (eqU x) pl.isList (fun w hw=>Mg rx fx r fs w (by simpa using hw)) ⟨.bl _,H,I,rfl,?_⟩
  rw[show its.toArray.any (eqU x)=its.any (eqU x) by simp,Q9 r fs]
  exact q
 ·obtain ⟨its,r,pl,hz⟩:=I.tuple hq
  refine SeqAt.in_tupleAt (eqU x) pl (fun w hw=>Mg rx fx r fs w (by simpa using hw)) ⟨.bl _,H,I,rfl,?_⟩
  rw[show its.toArray.any (eqU x)=its.any (eqU x) by simp,Q9 r fs]
  exact q
theorem Vs:OpR X (fJ .NotIn) (rIn X.K true):=by
 intro pins s σ H x y v u Q I rx ry h
 obtain ⟨p,xs,rfl,hq,fx,fs,q⟩:=h
 cases ry
 rcases hq with hq | hq
 ·obtain ⟨its,r,pl,hz⟩:=I.list hq
  refine SeqAt.notIn_listAt (eqU x) pl.isList (fun w hw=>Mg rx fx r fs w (by simpa using hw)) ⟨.bl _,H,I,rfl,?_⟩
  rw[show its.toArray.any (eqU x)=its.any (eqU x) by simp,Q9 r fs]
  exact q
 ·obtain ⟨its,r,pl,hz⟩:=I.tuple hq
  refine SeqAt.notIn_tupleAt (eqU x) pl (fun w hw=>Mg rx fx r fs w (by simpa using hw)) ⟨.bl _,H,I,rfl,?_⟩
  rw[show its.toArray.any (eqU x)=its.any (eqU x) by simp,Q9 r fs]
  exact q
theorem Wc:OpR X (fJ .NotIn) (fun x y H Q=>∃ i j,x = .str i/\y = .str j/\Q (.bl (!(!(fK j i 0 j.length 1).isEmpty))) H):=by
 intro pins s σ H x y v u Q I rx ry h
 obtain ⟨i,j,rfl,rfl,q⟩:=h
 obtain ⟨t,rfl⟩:=rx
 obtain ⟨t',rfl⟩:=ry
 exact notIn_str ⟨.bl _,H,I,rfl,q⟩
theorem CallR.or{f:aJ}{r r':List V->Hp->VK->Prop}(h:CallR X f r)(h':CallR X f r'):CallR X f (fun xs H Q=>r xs H Q\/r' xs H Q):=by
 intro pins s σ H xs us Q I rs q
 rcases q with q | q
 ·exact h pins s σ H xs us Q I rs q
 ·exact h' pins s σ H xs us Q I rs q
theorem Pz:CallR X (.type "list") (fun xs H Q=>∃ p ys,xs=[.ref p]/\(SqL X.K H p ys\/SqT X.K H p ys)/\∀ l,H l=none->Q (.ref l) (upd H l (.lst ys))):=by
 intro pins s σ H xs us Q I r h
 obtain ⟨p,ys,rfl,hq,q⟩:=h
 obtain ⟨u,rfl,rx⟩:=Gx r
 cases rx
 have fin:∀ (its:List aJ),Vals ys its->ys.length<=sizeLine->∀ (h':Heap) (c':Nat),(∀ b o',s.heap.get? b=some o'->h'.get? b=some o') ->
   h'.get? s.heap.objs.size=some { cls:=.type "list",dict:=none,data:=.seq its.toArray c',slots:=#[] }->EP X pins σ Q (.ref s.heap.objs.size) { s with heap:=h' }:=fun its r' hz h' c' kp e=>
  ⟨.ref s.heap.objs.size,_,I.laid (t':=s.toks) kp (aQ _) (show ObjOk X.prog X.w _ h' _ (.lst ys) from ⟨hz,its,c',r',e⟩),rfl,q _ (I.hok.fresh (aQ _))⟩
 rcases hq with hq | hq
 ·obtain ⟨its,r',pl,hz⟩:=I.list hq
  have hlen:=r'.length
  obtain ⟨o,ho,hc,n,hd⟩:=pl.isList
  exact call_list_seq p (.inl rfl) ho hc hd (fun h' c' kp e=>fin its r' hz h' c' kp e) (by simp only[aP] <;> omega)
 ·obtain ⟨its,r',pl,hz⟩:=I.tuple hq
  have hlen:=r'.length
  obtain ⟨o,ho,hc,n,hd⟩:=pl
  exact call_list_seq p (.inr rfl) ho hc hd (fun h' c' kp e=>fin its r' hz h' c' kp e) (by simp only[aP] <;> omega)
theorem B7:CallR X (.type "tuple") (fun xs H Q=>∃ p ys,xs=[.ref p]/\((SqL X.K H p ys/\∀ l,H l=none->Q (.ref l) (upd H l (.tup ys)))\/(SqT X.K H p ys/\Q (.ref p) H))):=by
 intro pins s σ H xs us Q I r h
 obtain ⟨p,ys,rfl,h⟩:=h
 obtain ⟨u,rfl,rx⟩:=Gx r
 cases rx
 rcases h with ⟨hq,q⟩ | ⟨hq,q⟩
 ·obtain ⟨its,r',pl,hz⟩:=I.list hq
  have hlen:=r'.length
  refine call_tuple_list pl.isList (fun h' kp=>?_) (by simp only[aP] <;> omega)
  have I1:Inv X pins σ H { s with heap:=h' }:=I.kept (t':=s.toks) kp
  have I2:Inv X pins σ (upd H h'.objs.size (.tup ys)) { s with heap:=h'.push { cls:=.type "tuple",data:=.seq its.toArray } }:=
   I1.laid (t':=s.toks) (fun b o e=>aE _ e) (aQ _) (show ObjOk X.prog X.w _ _ _ (.tup ys) from ⟨hz,its,r',TupN.new _ _⟩)
  exact ⟨.ref h'.objs.size,_,I2,rfl,q _ (I1.hok.fresh (aQ _))⟩
 ·obtain ⟨its,r',pl,hz⟩:=I.tuple hq
  exact call_tuple_same pl ⟨.ref p,H,I,rfl,q⟩
noncomputable def tyV(K:aK)(T:String)(x:V)(H:Hp):Prop:=match x with
 | .str _=>T = "str"
 | .int _=>T = "int"
 | .ref p=>(T = "list" /\ ∃ xs,SqL K H p xs)\/(T = "tuple" /\ ∃ xs,SqT K H p xs) \/
   (T = "dict" /\ ((∃ kvs,H p=some (.dK kvs))\/∃ kvs,H p=some (.dT kvs)))\/(T = "set" /\ ∃ S n,H p=some (.set S n))
 | _=>False
theorem Afs{T:String}(I:Inv X pins σ H s)(r:RelV x v)(ty:tyV X.K T x H) :
  s.TypeIs v T/\∀ a,v = .ref a->∃ ob,s.heap.get? a=some ob/\ob.dict=none:=by
 cases x with
 | str z=>
  obtain ⟨t,rfl⟩:=r
  cases (show T = "str" from ty)
  exact ⟨sW s z t,fun _ e=>nomatch e⟩
 | int i=>
  obtain ⟨t,rfl⟩:=r
  cases (show T = "int" from ty)
  exact ⟨sX s i t,fun _ e=>nomatch e⟩
 | ref p=>
  cases r
  rcases ty with ⟨rfl,xs,hq⟩ | ⟨rfl,xs,hq⟩ | ⟨rfl,hk⟩ | ⟨rfl,S,n,hk⟩
  ·obtain ⟨its,_,pl,_⟩:=I.list hq
   refine ⟨pl.isList.typeIs,fun a e=>?_⟩
   cases e
   obtain ⟨o,n,e,c,hd,_⟩:=pl
   exact ⟨o,e,hd⟩
  ·obtain ⟨its,_,⟨o,ho,hc,_⟩,_⟩:=I.tupleN hq
   obtain ⟨h1,h2⟩:=oM hc
   refine ⟨⟨o,ho,h1⟩,fun a e=>?_⟩
   cases e
   exact ⟨o,ho,h2⟩
  ·have z:∃ o,s.heap.get? p=some o/\o.ExactDict:=by
    rcases hk with ⟨kvs,hk⟩ | ⟨kvs,hk⟩
    ·obtain ⟨_,_,_,_,o,_,_,e,ex,_⟩:=I.hok p _ hk
     exact ⟨o,e,ex⟩
    ·obtain ⟨_,_,_,_,o,_,_,e,ex,_⟩:=I.hok p _ hk
     exact ⟨o,e,ex⟩
   obtain ⟨o,e,ex⟩:=z
   refine ⟨⟨o,e,ex.1⟩,fun a e2=>?_⟩
   cases e2
   exact ⟨o,e,ex.2.1⟩
  ·obtain ⟨o,_,_,_,e,ex,_⟩:=I.hok p _ hk
   refine ⟨⟨o,e,ex.1⟩,fun a e2=>?_⟩
   cases e2
   exact ⟨o,e,ex.2.1⟩
 | _=>exact gI ty
noncomputable def Apt(K:aK)(T:String)(r:V->List V->Hp->VK->Prop)(to:TE):TE:=fun σ H Q=>to σ H fun x H1=>tyV K T x H1/\r x [] H1 Q
noncomputable def tBM(K:aK)(T:String)(r:V->List V->Hp->VK->Prop)(to:TE)(t:TA):TE:=fun σ H Q=>to σ H fun x H1=>tyV K T x H1/\t σ H1 fun xs H2=>r x xs H2 Q
variable {o e:Expr}{es:List Expr}{to:TE}{t:TA}{name:Str}{apos cpos:Pos}{T id:String}{r:V->List V->Hp->VK->Prop}
theorem Alp(pa:pX T)(slot:Slot T name id)(hty:typeOf (.builtin id)=pure (.type "method_descriptor"))(hm:MtR X id r)(ho:PE X o to)
  (hbase:attributeBase o name X.env (eval o X.env)=eval o X.env:=by rfl) (hline:(apos.endLine == cpos.line)=true:=by rfl):PE X (.Call (.Attribute o name apos) [] [] cpos) (Apt X.K T r to):=by
 intro pins s σ H Q I h
 refine wpAny_Call_method0_late hbase hline (thn (ho pins s σ H _ I h) fun v s1 zz=>?_)
 obtain ⟨x,H1,I1,r1,ty,q1⟩:=zz
 obtain ⟨h1,h2⟩:=Afs I1 r1 ty
 exact ⟨T,id,pa,slot,hty,h1,h2,nY rfl (PySem.evalArgs_none (hm pins s1 σ H1 x [] v [] Q I1 r1 .nil q1))⟩
theorem Apw(pa:pX T)(slot:Slot T name id)(hty:typeOf (.builtin id)=pure (.type "method_descriptor"))(hm:MtR X id r)(ho:PE X o to)(ha:PA X (e::es) t)
  (hbase:attributeBase o name X.env (eval o X.env)=eval o X.env:=by rfl)
  (hfew:((backTo cpos (bS (e::es) X.env)).all (fun x=>!x.1)&&(backToKw cpos (keywordEach [] X.env)).all (fun x=>x.1.isSome)
   && decide ((e::es).length+([]:List jJ).length+(if ([]:List jJ).isEmpty then 0 else 1) < 30))=true:=by rfl)
  (hline:(apos.endLine == cpos.line)=true:=by rfl) (hs:bS (e::es) X.env=(false,eval e X.env)::bS es X.env:=by rfl) (hplain:(backTo cpos (bS es X.env)).any (·.1)=false:=by rfl) :
  PE X (.Call (.Attribute o name apos) (e::es) [] cpos) (tBM X.K T r to t):=by
 intro pins s σ H Q I h
 refine wpAny_Call_method_late hbase hfew hline rfl (thn (ho pins s σ H _ I h) fun v s1 zz=>?_)
 obtain ⟨x,H1,I1,r1,ty,q1⟩:=zz
 obtain ⟨h1,h2⟩:=Afs I1 r1 ty
 refine ⟨T,id,pa,slot,hty,h1,h2,?_⟩
 have hA:=ha cpos pins s1 σ H1 _ I1 q1
 rw[hs] at hA ⊢
 refine nY (by show (false || (backTo cpos (bS es X.env)).any (·.1))=false;rw[hplain] <;> rfl) (Calls.evalArgs_plain ?_)
 exact thn hA fun us s2 zz=>by obtain ⟨vs,H2,I2,r2,q2⟩:=zz;exact hm pins s2 σ H2 x vs v us Q I2 r1 r2 q2
end
noncomputable def MtM(X:Cx)(id:String)(r:V->List V->Hp->VK->Prop):Prop:=
 ∀ (pins:List (Addr×Obj)) (s:aN) (σ:St) (H:Hp) (x:V) (xs:List V) (v:aJ) (us:List aJ) (Q:VK),Inv X pins σ H s->RelV x v->Vals xs us->r x xs H Q ->
  wpAny (model X.prog X.w) X.A (call (.builtin id) (v::us)) (EP X pins σ Q) X.xe s
theorem Vals.one(h:Vals [x] us):∃ u,us=[u]/\RelV x u:=by
 cases h with
 | cons r t=>cases t;exact ⟨_,rfl,r⟩
theorem Vals.two(h:Vals [x,y] us):∃ u v,us=[u,v]/\RelV x u/\RelV y v:=by
 cases h with
 | cons r t=>obtain ⟨v,rfl,q⟩:=Vals.one t;exact ⟨_,v,rfl,r,q⟩
theorem Vals.zero:∀ {us:List aJ},Vals [] us->us=[]
 | _,.nil=>rfl
theorem Vals.dropLast(h:Vals xs us):Vals xs.dropLast us.dropLast:=by
 induction h with
 | nil=>exact .nil
 | cons r t ih=>
  cases t with
  | nil=>exact .nil
  | cons q t'=>exact .cons r ih
theorem Vals.eraseIdx(i:Nat)(h:Vals xs us):Vals (xs.eraseIdx i) (us.eraseIdx i):=by
 induction h generalizing i with
 | nil=>exact .nil
 | cons r t ih=>
  cases i with
  | zero=>exact t
  | succ i=>exact .cons r (ih i)
theorem Vals.rep(h:Vals xs us):∀ k:Nat,Vals (bW k xs).flatten (bW k us).flatten
 | 0=>.nil
 | k+1=>by
  rw[fS,fS,dN,dN]
  exact Vals.append h (Vals.rep h k)
theorem Y6{α:Type}(l:List α):l.eraseIdx (l.length - 1)=l.dropLast:=by
 induction l with
 | nil=>rfl
 | cons a r ih=>
  cases r with
  | nil=>rfl
  | cons b r=>
   have e:(a::b::r).length - 1=((b::r).length - 1)+1:=by
    have h1:(a::b::r).length=r.length+2:=rfl
    have h2:(b::r).length=r.length+1:=rfl
    omega
   rw[e,jU,ih]
   all_goals rfl
theorem Ur{α:Type}:∀ (l:List α) (i:Nat),(l.eraseIdx i).length<=l.length
 | [],_=>aQ _
 | _::_,0=>fM _
 | _::r,i+1=>rF (Ur r i)
theorem Vb(its:List aJ):∀ (k:Nat) (acc:List aJ),
  sY (fun x1 x2=>x1++x2) acc.toArray (bW k its.toArray)=(acc++(bW k its).flatten).toArray
 | 0,acc=>by simp
 | k+1,acc=>by
  have e:acc.toArray++its.toArray=(acc++its).toArray:=by simp
  have e2:(acc++its)++(bW k its).flatten=acc++(bW (k+1) its).flatten:=by
   rw[fS,dN,dO]
  rw[<- e2,<- Vb its k (acc++its),<- e,fS,jK]
section
variable {l b:Addr}{ys zs:List V}
theorem Inv.lset{its':List aJ}{f:Array aJ->Array aJ}{t':Nat}(I:Inv X pins σ H s)(hH:H l=some (.lst xs))
  (e:s.heap.get? l=some { cls:=.type "list",data:=.seq its.toArray n }) (hf:f its.toArray=its'.toArray) (hv:Vals ys its') (hz:ys.length<=sizeLine) :
  Inv X pins σ (upd H l (.lst ys)) { s with heap:=s.heap.update l (cI f),toks:=t' }:=by
 have q:=PySem.IsL.update e f
 rw[hf] at q
 refine I.write (x:=l) (e:=l) (by rw[hH];exact trivial) (.inl rfl) (fun b' u hb hu=>(nX s.heap (cI f) (eW hb)).trans hu) ⟨_,q⟩ ?_
 exact ⟨hz,its',_,hv,q⟩
theorem Inv.lnew{t':Nat}(I:Inv X pins σ H s)(hv:Vals ys its)(hz:ys.length<=sizeLine) :
  Inv X pins σ (upd H s.heap.objs.size (.lst ys)) { s with heap:=s.heap.push { cls:=.type "list",data:=.seq its.toArray },toks:=t' }:=
 I.laid (fun _ _ q=>aE _ q) (aQ _) ⟨hz,its,0,hv,bE _ rfl⟩
theorem Inv.fresh(I:Inv X pins σ H s):H s.heap.objs.size=none:=I.hok.fresh (aQ _)
theorem Inv.lstM(I:Inv X pins σ H s)(hH:H l=some (.lst xs)):xs.length<=sizeLine/\∃ (its:List aJ) (n:Nat),Vals xs its/\xs.length=its.length/\s.heap.get? l=some { cls:=.type "list",data:=.seq its.toArray n }:=by
 obtain ⟨z,its,n,r,e⟩:=I.hok l _ hH
 exact ⟨z,its,n,r,r.length,e⟩
theorem Ta(h:n<=sizeLine):fA n=false:=by
 unfold fA
 exact decide_eq_false (by omega)
end
section
noncomputable def Ab3:V->List V->Hp->VK->Prop:=fun x vs H Q=>∃ l xs y,x = .ref l/\vs=[y]/\H l=some (.lst xs)/\xs.length < sizeLine/\Q .non (upd H l (.lst (xs++[y])))
theorem Iu:MtM X "list.append" Ab3:=by
 intro pins s σ H x vs v us Q I rx rv h
 obtain ⟨l,xs,y,rfl,rfl,hH,hz,q⟩:=h
 cases rx
 obtain ⟨u,rfl,ru⟩:=rv.one
 obtain ⟨z,its,n,r,hl,e⟩:=I.lstM hH
 refine jQ F.slot_list_append ⟨_,e,rfl⟩ F.entry_list_append (F.args_list_append_2 _ _) (PySem.list_append l its.toArray n u (by rw[aP];omega)) ⟨e,?_⟩
 refine ⟨.non,_,I.lset (its':=its++[u]) hH e (by simp) (r.append (.cons ru .nil)) ?_,rfl,q⟩
 rw[bB,eN]
 omega
noncomputable def Rk:V->List V->Hp->VK->Prop:=fun x vs H Q=>∃ l b xs zs,x = .ref l/\vs=[.ref b]/\H l=some (.lst xs)/\H b=some (.lst zs)/\xs.length+zs.length<=sizeLine/\Q .non (upd H l (.lst (xs++zs)))
theorem Adc:MtM X "list.extend" Rk:=by
 intro pins s σ H x vs v us Q I rx rv h
 obtain ⟨l,b,xs,zs,rfl,rfl,hH,hB,hz,q⟩:=h
 cases rx
 obtain ⟨u,rfl,ru⟩:=rv.one
 cases ru
 obtain ⟨z,its,n,r,hl,e⟩:=I.lstM hH
 obtain ⟨z2,its2,n2,r2,hl2,e2⟩:=I.lstM hB
 have hsz:its.toArray.size+its2.toArray.size<=sizeLine:=by rw[aP,aP];omega
 have hlong:¬ (!its.toArray.isEmpty&&fA (its.toArray.size+its2.toArray.size))=true:=by
  rw[Ta hsz,mB]
  exact cP
 refine jQ iT ⟨_,e,rfl⟩ pH (oP _ _)
  (AutoSeq1.list_extend_list_list_0 l its.toArray n b its2.toArray n2 hlong (by rw[aP];omega) (by omega)) ⟨e,e2,?_⟩
 refine ⟨.non,_,I.lset (its':=its++its2) hH e (by simp) (r.append r2) ?_,rfl,q⟩
 rw[bB]
 omega
noncomputable def Apj:V->List V->Hp->VK->Prop:=fun x vs H Q=>∃ l xs y,x = .ref l/\vs=[]/\H l=some (.lst xs)/\xs[xs.length - 1]? = some y/\Q y (upd H l (.lst xs.dropLast))
theorem Al2:MtM X "list.pop" Apj:=by
 intro pins s σ H x vs v us Q I rx rv h
 obtain ⟨l,xs,y,rfl,rfl,hH,hy,q⟩:=h
 cases rx
 have hus:=rv.zero
 subst hus
 obtain ⟨z,its,n,r,hl,e⟩:=I.lstM hH
 obtain ⟨u,hu,ru⟩:=r.get hy
 have hy':its.toArray[its.toArray.size - 1]? = some u:=by
  show its.toArray[its.length - 1]? = some u
  rw[<- gY,<- hl]
  exact hu
 refine jQ iN ⟨_,e,rfl⟩ rG (F.args_list_pop_1 _) (MeetsSeq.list_pop_last l its.toArray n u hy' (by rw[aP];omega)) ⟨e,?_⟩
 refine ⟨y,_,I.lset (its':=its.dropLast) hH e ?_ r.dropLast ?_,ru,q⟩
 ·show its.toArray.eraseIdxIfInBounds (its.toArray.size - 1)=its.dropLast.toArray
  rw[aP,kG,Y6]
 ·rw[oQ]
  omega
noncomputable def Agl:V->List V->Hp->VK->Prop:=fun x vs H Q=>∃ l xs i k y,x = .ref l/\vs=[.int i]/\H l=some (.lst xs)/\-(2 ^ 63)<=i/\i < 2 ^ 63/\seqIndex? i xs.length=some k/\xs[k]? = some y/\Q y (upd H l (.lst (xs.eraseIdx k)))
theorem Xn:MtM X "list.pop" Agl:=by
 intro pins s σ H x vs v us Q I rx rv h
 obtain ⟨l,xs,i,k,y,rfl,rfl,hH,h1,h2,hk,hy,q⟩:=h
 cases rx
 obtain ⟨u,rfl,ru⟩:=rv.one
 obtain ⟨t,rfl⟩:=ru
 obtain ⟨z,its,n,r,hl,e⟩:=I.lstM hH
 obtain ⟨w,hw,rw'⟩:=r.get hy
 refine jQ iN ⟨_,e,rfl⟩ rG (F.args_list_pop_2 _ _)
  (MeetsSeq.list_pop_at l its.toArray n i t k w (fitsIndex_both h1 h2) (by rw[aP,<- hl];exact hk) (by rw[<- gY];exact hw) (by rw[aP];omega)) ⟨e,?_⟩
 refine ⟨y,_,I.lset (its':=its.eraseIdx k) hH e ?_ (r.eraseIdx k) ?_,rw',q⟩
 ·show its.toArray.eraseIdxIfInBounds k=(its.eraseIdx k).toArray
  rw[kG]
 ·have:=Ur xs k
  omega
noncomputable def Aps:R2:=fun x y H Q=>∃ l b xs zs,x = .ref l/\y = .ref b/\H l=some (.lst xs)/\H b=some (.lst zs)/\xs.length+zs.length<=sizeLine/\∀ p,H p=none->Q (.ref p) (upd H p (.lst (xs++zs)))
theorem Amg:OpR X (fW .Add) Aps:=by
 intro pins s σ H x y v u Q I rx ry h
 obtain ⟨l,b,xs,zs,rfl,rfl,hH,hB,hz,q⟩:=h
 cases rx
 cases ry
 obtain ⟨z,its,n,r,hl,e⟩:=I.lstM hH
 obtain ⟨z2,its2,n2,r2,hl2,e2⟩:=I.lstM hB
 refine PySem.P.add_list e e2 ?_ (by rw[aP,aP];omega)
 have ea:its.toArray++its2.toArray=(its++its2).toArray:=by simp
 rw[ea]
 exact ⟨.ref _,_,I.lnew (t':=s.toks) (r.append r2) (by rw[bB];omega),rfl,q _ I.fresh⟩
noncomputable def Aor:R2:=fun x y H Q=>∃ l k xs,x = .ref l/\y = .int k/\H l=some (.lst xs)/\-(2 ^ 63)<=k/\k < 2 ^ 63/\xs.length * k.toNat<=sizeLine /\
 ∀ p,H p=none->Q (.ref p) (upd H p (.lst (bW k.toNat xs).flatten))
theorem Ai4{α:Type}(xs:List α)(k:Nat):(bW k xs).flatten.length=k * xs.length:=by
 induction k with
 | zero=>simp
 | succ k ih=>rw[fS,dN,bB,ih,Nat.succ_mul,Nat.add_comm]
theorem Alm:OpR X (fW .Mult) Aor:=by
 intro pins s σ H x y v u Q I rx ry h
 obtain ⟨l,k,xs,rfl,rfl,hH,h1,h2,hz,q⟩:=h
 cases rx
 obtain ⟨t,rfl⟩:=ry
 obtain ⟨z,its,n,r,hl,e⟩:=I.lstM hH
 have hlen:its.toArray.size * k.toNat<=sizeLine:=by rw[aP,<- hl];exact hz
 have hcap:¬ its.toArray.size * k.toNat > (2 ^ 63 - 1) / 8:=by
  have:(sizeLine:Nat)<=(2 ^ 63 - 1) / 8:=by decide
  omega
 have hfit:¬ (!Builtin.List.listFitsIndex k)=true:=by
  rw[fitsIndex_both h1 h2]
  exact cP
 have hlong:¬ fA (its.toArray.size * k.toNat)=true:=by
  rw[Ta hlen]
  exact cP
 have hnew:sY (fun x1 x2=>x1++x2) #[] (bW (if its.toArray.isEmpty=true then 0 else k.toNat) its.toArray)=(bW k.toNat its).flatten.toArray:=by
  have f0:∀ m:Nat,sY (fun x1 x2=>x1++x2) #[] (bW m its.toArray)=(bW m its).flatten.toArray:=fun m=>by
   have:=Vb its m []
   rw[jL] at this
   exact this
  rw[f0]
  cases its with
  | nil=>simp
  | cons a r'=>rw[if_neg (by simp)]
 refine wpAny_binaryOp_repeat_ref (T := "list") (U := "int") (by decide) ⟨_,e,rfl⟩ (fun s'=>sX s' k t) noFill_list_mul F.fills_int_mul sA repeat_list F.slot_int_index.lookup
  (jQ sA (sX s k t) F.entry_int_rmul (F.args_int_rmul_2 _ _) (int___rmul___int_list k t l its.toArray n)
   ⟨e,rfl,⟨_,e,rfl⟩,jQ F.slot_list_mul ⟨_,e,rfl⟩ F.entry_list_mul (F.args_list_mul_2 _ _) (AutoListH.list___mul___list_int_3 l its.toArray n k t hfit hcap hlong) ⟨e,?_⟩⟩)
 rw[hnew]
 exact ⟨.ref _,_,I.lnew (t':=s.toks) (r.rep k.toNat) (by rw[Ai4,Nat.mul_comm];exact hz),rfl,q _ I.fresh⟩
end
section
variable {prog:cT}{w:eO}{E:aJ->aN->Prop}
end
end L2
namespace Att
open PySem PySem.W PySem.Calls PyProof.Rows
theorem Q0{P:Params}{h:Heap}:∀ (ns:List Int) (vs:List aJ),WellAll P h vs (ns.map nJ)->pG vs ns:=by
 intro ns
 induction ns with
 | nil=>
  intro vs w
  rw[cU] at w
  cases w
  exact .nil
 | cons n ns ih=>
  intro vs w
  rw[aL] at w
  cases w with
  | cons a b=>
   cases a
   exact .cons _ _ (ih _ b)
theorem Aeo{l:lR}{n:Nat}(hn:l.most=some n){P:Params}{h:Heap}{args:List WData}{vals:List aJ}
  (hpre:l.row.toRowW.claim.pre args=true) (hwl:WellAll P h vals args) :
  ∃ a vs ns,vals=[eQ a]/\args=[tW (ns.map nJ)]/\h.get? a=some { cls:=.type "list",data:=.seq vs.toArray }/\pG vs ns/\ns.length<=n:=by
 have hsh:WShape.hasAll [] args [.list .int]=true:=(pre_splitW hpre).1
 have hc:l.pre.holds [] { args:=args } = true:=(pre_splitW hpre).2
 obtain ⟨d,r,rfl,h1,h2⟩:=hasAllW_cons hsh
 obtain rfl:=hasAllW_nil h2
 obtain ⟨xs,rfl,h3⟩:=hasW_list h1
 obtain ⟨ns,rfl⟩:=items_int h3
 have hlen:ns.length<=n:=by
  unfold lR.pre at hc
  have h4:(WTm.not (.lt (.lit (.int (n:Int))) (.len (.arg 0)))).holds [] { args:=[.list (ns.map .int)] } = true:=by
   have h4:=(holds_andW hc).1
   rw[hn] at h4
   exact h4
  have h5:=condW_of h4 (w_not (w_lt w_lit (w_len_list (w_arg rfl))))
  rw[aI] at h5
  refine Nat.le_of_not_lt fun q=>?_
  have q':(n:Int) < ((ns.length:Nat):Int):=by omega
  first
   | (rw[decide_eq_true q'] at h5;exact absurd h5 (by decide))
   | (simp at h5;omega)
 cases hwl with
 | cons w1 w2=>
  cases w2
  cases w1 with
  | list ho hall=>exact ⟨_,_,ns,rfl,rfl,ho,Q0 ns _ hall,hlen⟩
theorem Adz(l:lR)(args:List WData):l.row.toRowW.claim.post args (.bool true) args=true:=
 postW_of (r:=l.row.toRowW) (X:=(true == true))
  (show tX [] (.bool true) .bool=true by first | rfl | decide | simp[tX,WShape.arms,WShape.armsAll])
  (show (WTm.eq .res (.lit (.bool true))).value [] { args:=args,res:=some (.bool true),after:=args } = some (.bool (true == true)) from w_eq_bool (w_res rfl) w_lit) rfl
section
variable {prog:cT}{w:eO}{A:eS}{E:aJ->aN->Prop}{s:aN}{K:Frag}
end
end Att
namespace L2
open PySem PySem.Spec PyProof.Rows
theorem Ac3{vs:List aJ}{ns:List Int}(h:pG vs ns):Vals (ns.map V.int) vs:=by
 induction h with
 | nil=>exact .nil
 | cons n t h ih=>exact .cons ⟨t,rfl⟩ ih
noncomputable def Ang(H:Hp):Prop:=∀ b,H b=none\/∃ o xs,H b=some (.frz o (.lst xs))
variable {P:cT}{w:eO}{a:Addr}{fd:cM}{x:Str}
theorem Agi{K:aK}{mg mb:Str->Option aJ}{CX:CXT}{k:Nat}{fa:Addr}{sp:Sp}{s₁:aN}{vs:List aJ}{ns:List Int}
  (KX:K.In s₁.heap) (hns:s₁.heap.Ns bF mg) (hb:s₁.heap.Ns pT mb) (hbb:∀ x:Str,x ≠ "__name__" -> mb x=gC x) (hlim:s₁.heap.NoLimit) (hg:s₁.gens=#[])
  (ha:s₁.heap.get? a=some { cls:=.type "list",data:=.seq vs.toArray }) (hi:pG vs ns) (hl:ns.length<=sizeLine) (hr:Room k callerA)
  (F:∀ base:Heap,K.In base->base.Ns bF mg->FnOk P w K mg base CX k fa fd [x] sp) (hbind:∀ (s:aN) (u:aJ),pF s fd ⟨[u],[]⟩ [(x,u)])
  (hsp:∀ H:Hp,Ang H->SqL K H a (ns.map V.int)->sp [.ref a] H (fun v _=>v = .bl true) fun _ _ _=>False)
  (hCX:∀ H e s',CX [] H s₁ (fun _ _ _=>False) e s'->False) :
  nT (model P w) callerA (.call (.ref fa) ⟨[.ref a],[]⟩) (fun r s'=>r = .ok (.ret (.bool true))/\OldK s₁.heap s'.heap/\s'.os=s₁.os/\nS s'.gens) s₁:=by
 have rv:=Ac3 hi
 have lenV:=hi.length
 have core:∀ H:Hp,Ang H->SqL K H a (ns.map V.int)->HOk P w H s₁.heap->(∀ b,H b≠none->b=a)->(H a≠none->K.lookup a=none) ->
   nT (model P w) callerA (.call (.ref fa) ⟨[.ref a],[]⟩) (fun r s'=>r = .ok (.ret (.bool true))/\OldK s₁.heap s'.heap/\s'.os=s₁.os/\nS s'.gens) s₁:=by
  intro H hO hS hok hA hK
  have base_of:∀ {b:Addr} {o:Obj},s₁.heap.get? b=some o->H b=none->(V7 s₁.heap H).get? b=some o:=fun e n=>Agc e n
  have noA:∀ {b:Addr} {o:Obj} {es:Array DictEntry} {ep:Nat},s₁.heap.get? b=some o->o.data = .dict es ep->H b=none:=fun {b o es ep} e d=>by
   cases q:H b with
   | none=>rfl
   | some u=>
    have e':b=a:=hA b (by rw[q];simp)
    subst e'
    rw[ha] at e;cases e
    have d':Data.seq vs.toArray _=Data.dict es ep:=d
    cases d'
  have nsK:∀ {b:Addr} {m:Str->Option aJ},s₁.heap.Ns b m->(V7 s₁.heap H).Ns b m:=fun {b m} ⟨o,es,ep,e,d,r⟩=>⟨o,es,ep,base_of e (noA e d),d,r⟩
  have hKb:K.In (V7 s₁.heap H):=fun b o e=>base_of (KX b o e) (by
   cases q:H b with
   | none=>rfl
   | some u=>
    have e':b=a:=hA b (by rw[q];simp)
    subst e'
    rw[hK (by rw[q];simp)] at e;cases e)
  have hM:Mod K mg (V7 s₁.heap H):=⟨hKb,nsK hns,⟨mb,nsK hb,hbb⟩,let ⟨mc,h1,h2⟩:=hlim;⟨mc,nsK h1,h2⟩⟩
  have e0:Env0 P w K mg (V7 s₁.heap H) callerA [] s₁ H:=⟨rfl,hM,fun b o e=>Akd e,nZ (Acz _ _),trivial,fun b hb=>absurd (show b∈([]:List Addr) from hb) (by simp),hok,.of_eq hg⟩
  refine kA ((F _ hKb (nsK hns)).run callerA [] s₁ H ⟨[.ref a],[]⟩ [.ref a] [.ref a] _ _ hr e0 (hbind s₁ (.ref a)) (.cons rfl .nil) (hsp H hO hS)) fun r s' h=>?_
  cases r with
  | error e=>exact (hCX H e s' h).elim
  | ok fl=>
   cases fl with
   | next=>exact gI h
   | brk=>exact gI h
   | cont=>exact gI h
   | ret u=>
    obtain ⟨v,H',os,bare,un,hok',r',q⟩:=h
    have q':v = .bl true:=q
    subst q'
    obtain rfl:u=sM true:=r'
    refine ⟨rfl,OldK.of_keep fun b o e=>?_,os,bare⟩
    cases q:H b with
    | none=>exact un.keep b o e q (by intro z;exact absurd (show b∈([]:List Addr) from z) (by simp)) (by simp)
    | some u=>
     rcases hO b with z | ⟨ob,xs,z⟩
     ·rw[q] at z;cases z
     ·have z2:=un.frzs b ob _ z
      obtain ⟨e1,_⟩:=hok b _ z
      obtain ⟨e2,_⟩:=hok' b _ z2
      rw[e] at e1;cases e1
      exact e2
 cases hk:K.lookup a with
 | some o=>
  have e:=KX a o hk
  rw[ha] at e
  cases e
  refine core (fun _=>none) (fun _=>.inl rfl) (.inr ⟨_,vs.toArray,_,hk,rfl,rfl,rfl,by rw[aP,lenV];exact hl,by simpa using rv⟩) (fun b u z=>by have z':(none:Option HO)=some u:=z;cases z') (fun b z=>absurd rfl z) fun z=>absurd rfl z
 | none=>
  refine core (fun b=>if b=a then some (.frz { cls:=.type "list",data:=.seq vs.toArray } (.lst (ns.map V.int))) else none) (fun b=>?_) (.inl (.inr ⟨{ cls:=.type "list",data:=.seq vs.toArray },if_pos rfl⟩)) (fun b u z=>?_) (fun b z=>?_) fun _=>hk
  ·by_cases hb:b=a
   ·exact .inr ⟨_,_,if_pos hb⟩
   ·exact .inl (if_neg hb)
  ·by_cases hb:b=a
   ·have z':=(if_pos hb).symm.trans z
    cases z'
    subst hb
    exact ⟨ha,by rw[aI];exact hl,vs,_,rv,ha⟩
   ·have z':=(if_neg hb).symm.trans z
    cases z'
  ·by_cases hb:b=a
   ·exact hb
   ·exact absurd (if_neg hb) z
noncomputable def Bt(s:Stmt):Arguments:=match s with
 | .FunctionDef _ a _ _ _ _ _ _ _ _=>a
 | _=>{ posonlyargs:=[],args:=[],vararg:=none,kwonlyargs:=[],kw_defaults:=[],kwarg:=none,defaults:=[] }
noncomputable def Br(s:Stmt):List Stmt:=match s with
 | .FunctionDef _ _ b _ _ _ _ _ _ _=>b
 | _=>[]
noncomputable def An(s:Stmt):nF:=match s with
 | .FunctionDef _ _ _ _ _ _ sc _ _ _=>sc
 | _=>{ kind:=.function,names:=[],isGenerator:=false,isCoroutine:=false }
abbrev CX0:CXT:=fun _ _ _ _ _ _=>False
abbrev E0:XK:=fun _ _ _=>False
variable {X:Cx}
theorem Apd:Aao CX0 X E0:=fun _ _ _ _ _ _ _ h=>h.elim
structure Fun(K:aK)(x qual:Str)(st:Stmt)(f:Addr)(fd:cM):Prop where
 ex:∃ (oc:aJ) (od:Option Addr) (kV doc pm:aJ) (an:Option Addr) (cdv ct:aJ) (osl:Array (Option aJ)),
  fd=bU x qual (Bt st) (Br st) (An st) .none kV doc pm an cdv ct/\K.lookup f=some ⟨oc,od,.func fd,osl⟩/\bQ K cdv qual=true
 kp:bO K (.ref f)=true
variable {qual:Str}{st:Stmt}{f:Addr}
section
variable {K:aK}{mg:Str->Option aJ}{base:Heap}
theorem Fun.ok{N ps:List Str}{k:Nat}{sp:Sp}(F:Fun K x qual st f fd)(S:FnScope N ps (An st))(len:∀ vs H Q E,sp vs H Q E->vs.length=ps.length)
  (hbody:∀ (cdv:aJ) (A:eS) (outer:List Env) (s:aN) (H:Hp) (vs:List V) (Q:VK) (E:XK),Room k (A.deeper (envOfC qual (An st) s.heap.objs.size f cdv))->sp vs H Q E ->
   ∃ t,PSs (Aam CX0 P w K mg base N qual (An st) f cdv A outer s H E).nox (Br st) t/\t { nx:=fun _ H'=>Q .non H',rt:=Q } (start N vs) H):FnOk P w K mg base CX0 (k+1) f fd ps sp:=by
 obtain ⟨oc,od,kV,doc,pm,an,cdv,ct,osl,rfl,lk,hcd⟩:=F.ex
 refine Aod lk hcd S len fun A outer s H vs Q E hr hsp=>?_
 obtain ⟨t,h,q⟩:=hbody cdv A outer s H vs Q E hr hsp
 exact ⟨t,h.nox,q⟩
theorem Fun.binds{ps:List Str}(F:Fun K x qual st f fd)
  (h:∀ (kV doc pm:aJ) (an:Option Addr) (cdv ct:aJ) (us:List aJ),us.length=ps.length->bindArgs (bU x qual (Bt st) (Br st) (An st) .none kV doc pm an cdv ct) ⟨us,[]⟩=pure (ps.zip us)):Binds K fd ps []:=by
 obtain ⟨oc,od,kV,doc,pm,an,cdv,ct,osl,rfl,lk,hcd⟩:=F.ex
 exact .all (h kV doc pm an cdv ct)
theorem Cp{oc:aJ}{od an:Option Addr}{osl:Array (Option aJ)}{kV doc pm cdv ct:aJ}(l:K.lookup f=some ⟨oc,od,.func (bU x qual (Bt st) (Br st) (An st) .none kV doc pm an cdv ct),osl⟩)
  (c:bQ K cdv qual=true) (k:bO K (.ref f)=true):Fun K x qual st f (bU x qual (Bt st) (Br st) (An st) .none kV doc pm an cdv ct):=⟨⟨oc,od,kV,doc,pm,an,cdv,ct,osl,rfl,l,c⟩,k⟩
end
variable {pos:Pos}
section
theorem pv(i:Nat)(hN:X.N[i]? = some x:=by rfl)(hv:Vis X.env.scope x:=by first | exact oA rfl | exact mC (oA rfl) | exact mC (mC rfl))(hd:(x == ("__debug__" : Str))=false:=by decide)
  (hcd:(x == ("__classdict__" : Str))=false:=by decide):PE X (.Name x pos) (Apy i):=Af2 hN hv hd hcd
end
theorem Y9{A B:Prop}(h:B):if false=true then A else B:=by
 rw[if_neg cP]
 exact h
theorem Aar{A B:Prop}(h:A):if true=true then A else B:=by
 rw[if_pos rfl]
 exact h
variable {o:Option V}{u:aJ}{y:V}
section
variable {κ:Type}[DecidableEq κ]
noncomputable def Pg(kvs:List (κ×V))(k:κ):Option V:=(kvs.find? fun kv=>decide (kv.1=k)).map (·.2)
noncomputable def Mb(kvs:List (κ×V))(k:κ)(v:V):List (κ×V):=
 if (kvs.any fun kv=>decide (kv.1=k))=true then kvs.map (fun kv=>if kv.1=k then (kv.1,v) else kv) else kvs++[(k,v)]
theorem S0{p:κ×V}{r:List (κ×V)}{k:κ}(e:p.1=k):Pg (p::r) k=some p.2:=by simp[Pg,fH,e]
theorem Sk{p:κ×V}{r:List (κ×V)}{k:κ}(e:¬ p.1=k):Pg (p::r) k=Pg r k:=by simp[Pg,fH,e]
theorem R7(k:κ):∀ kvs:List (κ×V),(kvs.any fun kv=>decide (kv.1=k))=(Pg kvs k).isSome
 | []=>rfl
 | p::r=>by
  rw[iJ]
  by_cases e:p.1=k
  ·simp only[S0 e,decide_eq_true e,Bool.true_or,Option.isSome_some]
  ·rw[Sk e,decide_eq_false e,tF];exact R7 k r
theorem Nc(kvs:List (κ×V))(k:κ)(v:V):(Mb kvs k v).length<=kvs.length+1:=by
 unfold Mb
 split
 ·rw[aI];omega
 ·rw[bB,aY,cB];omega
theorem RelO.isSome_eq{u:Option aJ}(r:RelO o u):o.isSome=u.isSome:=by
 cases o with
 | none=>cases u with
  | none=>rfl
  | some _=>exact (show False from r).elim
 | some _=>cases u with
  | none=>exact (show False from r).elim
  | some _=>rfl
theorem KV.val{kvs:List (κ×V)}{vs:List (κ×aJ)}(r:KV kvs vs)(k:κ):RelO (Pg kvs k) (valueAt vs k):=by
 unfold KV at r
 induction r with
 | nil=>exact iX
 | @cons p q ps qs h t ih=>
  obtain ⟨h1,h2⟩:=h
  by_cases e:p.1=k
  ·have e':q.1=k:=h1.symm.trans e
   have b:valueAt (q::qs) k=some q.2:=by simp[valueAt,fH,e']
   rw[S0 e,b];exact h2
  ·have e':¬ q.1=k:=fun z=>e (h1.trans z)
   have b:valueAt (q::qs) k=valueAt qs k:=by simp[valueAt,fH,e']
   rw[Sk e,b];exact ih
theorem KV.any{kvs:List (κ×V)}{vs:List (κ×aJ)}(r:KV kvs vs)(k:κ):(kvs.any fun kv=>decide (kv.1=k))=vs.any fun kv=>decide (kv.1=k):=by
 unfold KV at r
 induction r with
 | nil=>rfl
 | cons h t ih=>rw[iJ,iJ,ih,h.1]
theorem KV.repl{kvs:List (κ×V)}{vs:List (κ×aJ)}(r:KV kvs vs)(k:κ)(ry:RelV y u) :
  KV (kvs.map fun kv=>if kv.1=k then (kv.1,y) else kv) (vs.map fun kv=>if kv.1=k then (kv.1,u) else kv):=by
 unfold KV at r ⊢
 induction r with
 | nil=>exact .nil
 | @cons p q ps qs h t ih=>
  rw[aL,aL]
  refine .cons ?_ ih
  obtain ⟨h1,h2⟩:=h
  by_cases e:p.1=k
  ·rw[if_pos e,if_pos (h1.symm.trans e)];exact ⟨h1,ry⟩
  ·rw[if_neg e,if_neg (fun z=>e (h1.trans z))];exact ⟨h1,h2⟩
theorem KV.put{kvs:List (κ×V)}{vs:List (κ×aJ)}(r:KV kvs vs)(k:κ)(ry:RelV y u):KV (Mb kvs k y) (stored vs k u):=by
 unfold Mb stored
 rw[r.any k]
 by_cases e:(vs.any fun kv=>decide (kv.1=k))=true
 ·rw[if_pos e,if_pos e];exact r.repl k ry
 ·rw[if_neg e,if_neg e];exact tT r ⟨rfl,ry⟩
theorem KV.length{kvs:List (κ×V)}{vs:List (κ×aJ)}(r:KV kvs vs):kvs.length=vs.length:=mX r
end
theorem Yo{k:Key}(r:RelV (kV k) u):(Bp P w).is k u=true:=by
 cases k with
 | inl i=>obtain ⟨t,e⟩:=(show ∃ t,u=qZ i t from r);subst e;exact Wu P w i t
 | inr x=>obtain ⟨t,e⟩:=(show ∃ t,u=rA x t from r);subst e;exact Mj P w x t
theorem Uu:∀ {ks:List Key} {us:List aJ},Vals (ks.map kV) us->ItemsAre (Bp P w) ks us
 | [],_,r=>by rw[cU] at r;cases r;exact .nil
 | k::ks,_,r=>by
  rw[aL] at r
  cases r with
  | cons h t=>exact .cons (Yo h) (Uu t)
abbrev KT(H:Hp):List (List Key×V)->List (List Key×Addr×aJ)->Prop:=sN fun p q=>p.1=q.1/\H q.2.1=some (.tup (p.1.map kV))/\RelV p.2 q.2.2
variable {H:Hp}{xs:List (List Key×Addr×aJ)}
theorem KT.val{kvs:List (List Key×V)}(r:KT H kvs xs)(k:List Key):RelO (Pg kvs k) ((atKey xs k).map (·.2)):=by
 induction r with
 | nil=>exact iX
 | @cons p q ps qs h t ih=>
  obtain ⟨h1,_,h2⟩:=h
  by_cases e:p.1=k
  ·have e':q.1=k:=h1.symm.trans e
   have b:atKey (q::qs) k=some q.2:=by simp[atKey,fH,e']
   rw[S0 e,b];exact h2
  ·have e':¬ q.1=k:=fun z=>e (h1.trans z)
   have b:atKey (q::qs) k=atKey qs k:=by simp[atKey,fH,e']
   rw[Sk e,b];exact ih
theorem KT.repl{kvs:List (List Key×V)}(r:KT H kvs xs)(k:List Key)(ry:RelV y u) :
  KT H (kvs.map fun kv=>if kv.1=k then (kv.1,y) else kv) (xs.map (putAt k u)):=by
 induction r with
 | nil=>exact .nil
 | @cons p q ps qs h t ih=>
  rw[aL,aL]
  refine .cons ?_ ih
  obtain ⟨h1,h2,h3⟩:=h
  unfold putAt
  by_cases e:p.1=k
  ·rw[if_pos e,if_pos (h1.symm.trans e)];exact ⟨h1,h2,ry⟩
  ·rw[if_neg e,if_neg (fun z=>e (h1.trans z))];exact ⟨h1,h2,h3⟩
theorem KT.put{kvs:List (List Key×V)}(r:KT H kvs xs)(k:List Key){b:Addr}(hb:H b=some (.tup (k.map kV)))(ry:RelV y u) :
  KT H (Mb kvs k y) (storedH xs k b u):=by
 have e:(kvs.any fun kv=>decide (kv.1=k))=(atKey xs k).isSome:=by
  rw[R7,(r.val k).isSome_eq,mT]
 unfold Mb storedH
 rw[e]
 by_cases q:(atKey xs k).isSome=true
 ·rw[if_pos q,if_pos q];exact r.repl k ry
 ·rw[if_neg q,if_neg q];exact tT r ⟨rfl,hb,ry⟩
variable {H':Hp}
theorem KT.keeps{kvs:List (List Key×V)}(r:KT H kvs xs)(ht:∀ b ys,H b=some (.tup ys)->H' b=some (.tup ys)):KT H' kvs xs:=
 Paired.mapP r fun _ _ z=>⟨z.1,ht _ _ z.2.1,z.2.2⟩
variable {kvs:List (Key×V)}
section
variable {h:Heap}
theorem Akw{u:HO}(ok:HOk P w H h)(e:Rd H a u):ObjOk P w H h a u:=e.ok ok
theorem Yp(ok:HOk P w H h)(e:Rd H a (.dK kvs)):kvs.length<=sizeLine/\(a == sysModules)=false/\∃ vs,KV kvs vs/\h.DictOf (Bp P w) a vs:=
 show ObjOk P w H h a (.dK kvs) from Akw ok e
theorem Akt(ok:HOk P w H h)(e:H a=some (.dK kvs)):kvs.length<=sizeLine/\(a == sysModules)=false/\∃ vs,KV kvs vs/\h.DictOf (Bp P w) a vs:=Yp ok (.inl e)
theorem Wi{ks:List Key}(ok:HOk P w H h)(e:H a=some (.tup (ks.map kV))):(tupleKind (Bp P w)).is h ks a:=by
 obtain ⟨_,its,r,o,h1,h2,n,h3⟩:=(show ObjOk P w H h a (.tup (ks.map kV)) from ok a _ e)
 exact ⟨o,its.toArray,n,h1,(oM h2).1,h3,by simpa using Uu r⟩
theorem Ach{kvs:List (List Key×V)}(ok:HOk P w H h)(e:Rd H a (.dT kvs)):kvs.length<=sizeLine/\(a == sysModules)=false /\
  ∃ xs,KT H kvs xs/\h.DictOfH (tupleKind (Bp P w)) a xs:=by
 obtain ⟨z,y,xs,r,o,es,ep,h1,h2,h3,h4,h5⟩:=(show ObjOk P w H h a (.dT kvs) from Akw ok e)
 refine ⟨z,y,xs,r,o,es,ep,h1,h2,h3,h4,fun x hx=>?_,h5⟩
 have all:∀ {l:List (List Key×V)} {m:List (List Key×Addr×aJ)},KT H l m->∀ x∈m,(tupleKind (Bp P w)).is h x.1 x.2.1:=by
  intro l m q
  induction q with
  | nil=>intro x hx;exact nomatch hx
  | @cons p q ps qs hq t ih=>
   intro x hx
   rcases bH.mp hx with e | hx
   ·subst e
    exact Wi ok (by rw[<- hq.1];exact hq.2.1)
   ·exact ih x hx
 exact all r x hx
theorem Aoi{kvs:List (List Key×V)}(ok:HOk P w H h)(e:H a=some (.dT kvs)):kvs.length<=sizeLine/\(a == sysModules)=false /\
  ∃ xs,KT H kvs xs/\h.DictOfH (tupleKind (Bp P w)) a xs:=Ach ok (.inl e)
end
noncomputable def DGet(H:Hp)(a:Addr)(y:V)(r:Option V):Prop:=
 (∃ kvs k,Rd H a (.dK kvs)/\y=kV k/\r=Pg kvs k)\/∃ kvs k b,Rd H a (.dT kvs)/\y = .ref b/\H b=some (.tup (k.map kV))/\r=Pg kvs k
noncomputable def DPut(H:Hp)(a:Addr)(y v:V)(H':Hp):Prop:=
 (∃ kvs k,H a=some (.dK kvs)/\y=kV k/\kvs.length < sizeLine/\H'=upd H a (.dK (Mb kvs k v))) \/
 ∃ kvs k b,H a=some (.dT kvs)/\y = .ref b/\H b=some (.tup (k.map kV))/\kvs.length < sizeLine/\H'=upd H a (.dT (Mb kvs k v))
theorem DGet.k{k:Key}(e:H a=some (.dK kvs)):DGet H a (kV k) (Pg kvs k):=.inl ⟨kvs,k,.inl e,rfl,rfl⟩
theorem DPut.k{k:Key}{v:V}(e:H a=some (.dK kvs))(hl:kvs.length < sizeLine):DPut H a (kV k) v (upd H a (.dK (Mb kvs k v))):=.inl ⟨kvs,k,e,rfl,hl,rfl⟩
variable {A:eS}{pins:List (Addr×Obj)}{σ:St}{s:aN}{E Q:aJ->aN->Prop}
section
variable {v:V}{r:aJ}
theorem Inv.big(I:Inv X pins σ H s):sysModules < s.heap.objs.size:=by
 have h:bF < s.heap.objs.size:=(I.mod.glob.keeps I.bk).lt
 exact qI (by decide) h
theorem Ads(hu:A.units+1 < cLine)(I:Inv X pins σ H s)(g:DGet H a y (some v))(ry:RelV y u)(h:∀ w' s',Inv X pins σ H s'->RelV v w'->Q w' s') :
  wpAny (model X.prog X.w) A (getItem (.ref a) u) Q E s:=by
 rcases g with ⟨kvs,k,e,ey,l⟩ | ⟨kvs,k,b,e,ey,eb,l⟩
 ·subst ey
  obtain ⟨z,hd,vs,rel,dd⟩:=Yp I.hok e
  obtain ⟨w',hw,rw'⟩:=RelO.some_of (v:=v) (o:=valueAt vs k) (by rw[l];exact rel.val k)
  exact wpAny_getItem_of (Yo ry) dd.mapOf hw (h w' _ (I.tok _) rw')
 ·subst ey
  cases (show u=eQ b from ry)
  obtain ⟨z,hd,xs,rel,dd⟩:=Ach I.hok e
  obtain ⟨w',hw,rw'⟩:=RelO.some_of (v:=v) (o:=(atKey xs k).map (·.2)) (by rw[l];exact rel.val k)
  obtain ⟨p,hp,hp2⟩:=aH.mp hw
  refine wpAny_getItem_heap (mD hu) (Wi I.hok eb) dd hp ?_
  rw[hp2]
  exact h w' _ (I.tok _) rw'
theorem Ajr(hu:A.units+1 < cLine)(I:Inv X pins σ H s)(g:DGet H a y o)(ry:RelV y u)(h:∀ s',Inv X pins σ H s'->Q (.bool (!o.isSome)) s') :
  wpAny (model X.prog X.w) A (fJ .NotIn u (.ref a)) Q E s:=by
 rcases g with ⟨kvs,k,e,ey,l⟩ | ⟨kvs,k,b,e,ey,eb,l⟩
 ·subst ey
  obtain ⟨z,hd,vs,rel,dd⟩:=Yp I.hok e
  refine wpAny_notIn_of (Yo ry) hd dd.mapOf ?_
  rw[<- (rel.val k).isSome_eq,<- l]
  exact h _ (I.tok _)
 ·subst ey
  cases (show u=eQ b from ry)
  obtain ⟨z,hd,xs,rel,dd⟩:=Ach I.hok e
  refine wpAny_notIn_heap (mD hu) (Wi I.hok eb) hd dd ?_
  have q:=(rel.val k).isSome_eq
  rw[mT] at q
  rw[<- q,<- l]
  exact h _ (I.tok _)
theorem Abh{h':Heap}{t':Nat}{ob:HO}(I:Inv X pins σ H s)(mu:Mut (H a))(hs:jW a s.heap h')(he:∃ q,h'.get? a=some q)(new:ObjOk X.prog X.w (upd H a ob) h' a ob) :
  Inv X pins σ (upd H a ob) { s with heap:=h',toks:=t' }:=
 I.write (x:=a) (e:=a) mu (.inl rfl) (fun b q hb z=>(hs.2 b hb).trans z) he new
theorem Yz{h':Heap}{vs:List (Key×aJ)}(z:kvs.length<=sizeLine)(hd:(a == sysModules)=false)(rel:KV kvs vs)(dd:h'.DictOf (Bp P w) a vs) :
  ObjOk P w H' h' a (.dK kvs):=⟨z,hd,vs,rel,dd⟩
theorem Adg{Q:Unit->aN->Prop}(hu:A.units+1 < cLine)(I:Inv X pins σ H s)(g:DPut H a y v H')(ry:RelV y u)(rv:RelV v r)(h:∀ s',Inv X pins σ H' s'->Q () s') :
  wpAny (model X.prog X.w) A (setItem (.ref a) u r) Q E s:=by
 rcases g with ⟨kvs,k,e,ey,l,eH⟩ | ⟨kvs,k,b,e,ey,eb,l,eH⟩
 ·subst ey eH
  obtain ⟨z,hd,vs,rel,dd⟩:=Akt I.hok e
  have hz:vs.length<=sizeLine:=by rw[<- rel.length];exact z
  have hl:(Mb kvs k v).length<=sizeLine:=by have:=Nc kvs k v;omega
  refine wpAny_setItem_pairs (hsz:=hz) (Yo ry) dd fun h' dd' hs=>h _ ?_
  have he:∃ q,h'.get? a=some q:=let ⟨q,_,_,hq,_⟩:=dd';⟨q,hq⟩
  exact Abh I (by rw[e];exact iX) hs he (Yz hl hd (rel.put k rv) dd')
 ·subst ey eH
  cases (show u=eQ b from ry)
  obtain ⟨z,hd,xs,rel,dd⟩:=Aoi I.hok e
  have hz:xs.length<=sizeLine:=by rw[<- mX rel];exact z
  have hl:(Mb kvs k v).length<=sizeLine:=by have:=Nc kvs k v;omega
  refine wpAny_setItem_heap (hsz:=hz) (mD hu) (Wi I.hok eb) dd fun h' dd' hs=>h _ ?_
  obtain ⟨q,es,ep,hq,h2,h3,h4,_,h5⟩:=dd'
  refine Abh I (by rw[e];exact iX) hs ⟨q,hq⟩ ⟨hl,hd,_,(rel.put k eb rv).keeps fun c ys ec=>?_,q,es,ep,hq,h2,h3,h4,h5⟩
  rw[Bv (Ae3 ec e (fun z=>nomatch z))]
  exact ec
end
section
variable {k:Key}
end
noncomputable def Amp(i:Expr):Prop:=∀ ov iv,subscripted i false ov iv=operate [ov,iv] (getItem ov iv)
theorem Aj4{prog:cT}{env:Env}{value slice:Expr}{T id:String}
  (hl:typeLookup (.type T) "__getitem__" = pure (some (.builtin id))) (hs:Amp slice)
  (h:wpAny (model prog w) A (eval value env) (fun o s₁=>wpAny (model prog w) A (eval slice env) (fun i s₂=>s₂.TypeIs o T/\wpAny (model prog w) A (getItem o i) Q E s₂) E s₁) E s) :
  wpAny (model prog w) A (eval (.Subscript value slice pos) env) Q E s:=by
 refine pW (fO h (fun o s₁ h₁=>fO h₁ (fun i s₂ h₂=>?_) fun _ _ x=>x) fun _ _ x=>x)
 obtain ⟨hT,h₂⟩:=h₂
 unfold subscriptTail
 refine aD ?_
 rw[getitemInPython_of_ne hT.not_modules]
 refine aD (wpAny_specialOf hT hl ?_)
 have fin:wpAny (model prog w) A (subscripted slice false o i) (fun r s₃=>wpAny (model prog w) A (letTemporaryGo value o r >>= fun _=>pure r) Q E s₃) E s₂:=by
  rw[hs o i]
  exact wpAny_operating (fO h₂ (fun r s₃ h₃=>aD (wpAny_letTemporaryGo (aM h₃))) fun _ _ x=>x)
 first
  | exact aM (aD fin)
  | exact aD (aM (aD fin))
  | exact aD fin
theorem Xw(I:Inv X pins σ H s)(g:DGet H a y o):s.TypeIs (.ref a) "dict" := by
 rcases g with ⟨kvs,k,e,_,_⟩ | ⟨kvs,k,b,e,_,_,_⟩
 ·obtain ⟨_,_,vs,_,dd⟩:=Yp I.hok e
  exact dd.typeIs
 ·obtain ⟨_,_,xs,_,dd⟩:=Ach I.hok e
  exact dd.typeIs
noncomputable def Aop(td ty:TE):TE:=fun σ H Q=>td σ H fun x H1=>ty σ H1 fun y H2=>∃ a v,x = .ref a/\DGet H2 a y (some v)/\Q v H2
noncomputable def Aon(td ty tv:TE):TS:=fun D σ H=>tv σ H fun v H1=>td σ H1 fun x H2=>ty σ H2 fun y H3=>∃ a H4,x = .ref a/\DPut H3 a y v H4/\D.nx σ H4
section
variable {o i e value:Expr}{pos' tpos:Pos}{td ty tv:TE}
theorem Ah2(hu:X.A.units+1 < cLine)(ho:PE X o td)(hi:PE X i ty)(hs:Amp i):PE X (.Subscript o i pos) (Aop td ty):=by
 intro pins s σ H Q I h
 refine Aj4 PySem.F.slot_dict_getitem.lookup hs (thn (ho pins s σ H _ I h) fun u s1 zz=>zz.elim fun x H1 I1 rx q1=>thn (hi pins s1 σ H1 _ I1 q1) fun iv s2 zz=>zz.elim fun y H2 I2 ry zq=>?_)
 obtain ⟨a,v,ex,g,q2⟩:=zq
 subst ex
 obtain rfl:u=eQ a:=rx
 exact ⟨Xw I2 g,Ads hu I2 g ry fun w' s3 I3 rw'=>⟨v,H2,I3,rw',q2⟩⟩
theorem Aib(hu:X.A.units+1 < cLine)(ho:PE X o td)(hi:PE X i ty)(hv:PE X value tv)(hs:swapsWith value (some (.Subscript o i pos')) pos.line X.env=pure false) :
  PS X (.Assign [.Subscript o i pos'] value pos) (Aon td ty tv):=by
 intro pins s σ H D I h
 refine wpAny_Assign_Subscript (thn (hv pins s σ H _ I h) fun r s1 zz=>zz.elim fun v H1 I1 rv q1=>thn (ho pins s1 σ H1 _ I1 q1) fun u s2 zz=>zz.elim fun x H2 I2 rx q2=>thn (hi pins s2 σ H2 _ I2 q2) fun iv s3 zz=>zz.elim fun y H3 I3 ry zq=>?_) hs
 obtain ⟨a,H4,ex,g,q3⟩:=zq
 subst ex
 obtain rfl:u=eQ a:=rx
 exact Adg hu I3 g ry rv fun s4 I4=>⟨σ,H4,I4,q3⟩
end
theorem Afy(h:Heap)(hb:sysModules < h.objs.size):ObjOk P w H (h.push { cls:=.type "dict",data:=.dict #[] }) h.objs.size (.dK []):=
 ⟨eD _,beq_eq_false_iff_ne.mpr (eW (bV hb)),[],.nil,sB h⟩
noncomputable def Am3:TE:=fun _ H Q=>∀ p,H p=none->Q (.ref p) (upd H p (.dK []))
section
theorem Aft:PE X (.Dict [] [] pos) Am3:=fun pins s σ H Q I h=>
 wpAny_Dict_empty ⟨.ref s.heap.objs.size,_,I.laid (a:=s.heap.objs.size) (o:=.dK []) (t':=s.toks) (fun _ _ q=>aE _ q) (aQ _) (Afy s.heap I.big),rfl,h _ (I.hok.fresh (aQ _))⟩
end
noncomputable def Ln(kvs more:List (Key×V)):List (Key×V):=more.foldl (fun acc kv=>Mb acc kv.1 kv.2) kvs
theorem KV.merge:∀ {more:List (Key×V)} {rs:List (Key×aJ)} {kvs:List (Key×V)} {vs:List (Key×aJ)},KV more rs->KV kvs vs->KV (Ln kvs more) (merged vs rs):=by
 intro more rs kvs vs r
 unfold KV at r
 induction r generalizing kvs vs with
 | nil=>intro q;exact q
 | @cons p q ps qs h t ih=>
  intro r0
  have e:KV (Mb kvs p.1 p.2) (stored vs q.1 q.2):=by
   have:=r0.put p.1 h.2
   rw[<- h.1];exact this
  exact ih e
theorem Ob:∀ (more kvs:List (Key×V)),(Ln kvs more).length<=kvs.length+more.length
 | [],kvs=>by show kvs.length<=kvs.length+0;omega
 | p::r,kvs=>by
  have h1:=Ob r (Mb kvs p.1 p.2)
  have h2:=Nc kvs p.1 p.2
  show (Ln (Mb kvs p.1 p.2) r).length<=_
  rw[aY];omega
structure M1(X:Cx)(o:Expr)(m:Str)(apos:Pos)(e:Expr)(cpos:Pos):Prop where
 base:attributeBase o m X.env (eval o X.env)=eval o X.env
 few:((backTo cpos (bS [e] X.env)).all (fun x=>!x.1)&&(backToKw cpos (keywordEach [] X.env)).all (fun x=>x.1.isSome)
  && decide (([e]:List Expr).length+([]:List jJ).length+(if ([]:List jJ).isEmpty then 0 else 1) < 30))=true
 line:(apos.endLine == cpos.line)=true
 trees:backTo cpos (bS [e] X.env)=[(false,eval e X.env)]
structure M2(X:Cx)(o:Expr)(m:Str)(apos:Pos)(e f:Expr)(cpos:Pos):Prop where
 base:attributeBase o m X.env (eval o X.env)=eval o X.env
 few:((backTo cpos (bS [e,f] X.env)).all (fun x=>!x.1)&&(backToKw cpos (keywordEach [] X.env)).all (fun x=>x.1.isSome)
  && decide (([e,f]:List Expr).length+([]:List jJ).length+(if ([]:List jJ).isEmpty then 0 else 1) < 30))=true
 line:(apos.endLine == cpos.line)=true
 trees:backTo cpos (bS [e,f] X.env)=[(false,eval e X.env),(false,eval f X.env)]
section
variable {d:V}{r:aJ}
end
section
variable {o e f:Expr}{apos cpos:Pos}{td ty tx:TE}
end
section
theorem Ahc(I:Inv X pins σ H s)(e:Rd H a (.dK kvs))(h:∀ p s',H p=none->Inv X pins σ (upd H p (.dK kvs)) s'->Q (.ref p) s'):wpAny (model X.prog X.w) A (call (.type "dict") [.ref a]) Q E s:=by
 obtain ⟨z,hd,vs,rel,dd⟩:=Yp I.hok e
 refine kt_call_dict hd dd (by rw[<- rel.length];exact z) fun h' dd' hs=>?_
 refine h _ _ (I.hok.fresh (aQ _)) (I.laid (a:=s.heap.objs.size) (o:=.dK kvs) (t':=s.toks) (fun b q hq=>?_) (aQ _) (Yz z (beq_eq_false_iff_ne.mpr (eW (bV I.big))) rel dd'))
 exact (hs.2 b (bV (aV hq))).trans (aE _ hq)
end
end L2
namespace MR
open PySem PySem.Spec PyProof.Rows L2
inductive U where
 | non | bl (b:Bool) | int (i:Int) | str (x:Str) | tup (l:List U) | ref (n:Nat)
inductive HU where
 | lst (xs:List U) | ro (xs:List U) | dic (kvs:List (Key×U)) | rod (kvs:List (Key×U)) | ins (C:Str) (fs:List (Str×U)) | exc (C:Str) (fr:Bool) (fs:List (Str×U))
abbrev UH:=List HU
abbrev UE:=List (Option U)
section
variable (K:aK)(H:Hp)(α:List Addr)
mutual
noncomputable def RepU:U->V->Prop
 | .non,v=>v = .non
 | .bl b,v=>v = .bl b
 | .int i,v=>v = .int i
 | .str x,v=>v = .str x
 | .tup l,v=>∃ a xs,v = .ref a/\SqT K H a xs/\RepL l xs
 | .ref n,v=>∃ a,α[n]? = some a/\v = .ref a
noncomputable def RepL:List U->List V->Prop
 | [],xs=>xs=[]
 | u::l,xs=>∃ x r,xs=x::r/\RepU u x/\RepL l r
end
end
noncomputable def Stay(H H':Hp):Prop:=(∀ b xs,H b=some (.tup xs)->H' b=some (.tup xs))/\∀ b o u,H b=some (.frz o u)->H' b=some (.frz o u)
theorem Stay.refl(H:Hp):Stay H H:=⟨fun _ _ q=>q,fun _ _ _ q=>q⟩
variable {H H1 H2:Hp}
theorem Stay.trans(a:Stay H H1)(b:Stay H1 H2):Stay H H2:=⟨fun c xs q=>b.1 c xs (a.1 c xs q),fun c o u q=>b.2 c o u (a.2 c o u q)⟩
variable {K:aK}{H':Hp}{a:Addr}{xs:List V}
theorem Stay.sqT(e:Stay H H')(h:SqT K H a xs):SqT K H' a xs:=by
 rcases h with (h | ⟨o,h⟩) | h
 ·exact .inl (.inl (e.1 _ _ h))
 ·exact .inl (.inr ⟨o,e.2 _ _ _ h⟩)
 ·exact .inr h
variable {p:Addr}
theorem Stay.new(h:H p=none)(o:HO):Stay H (upd H p o):=⟨fun b u q=>by rw[Bv (B6 q h)];exact q,fun b o u q=>by rw[Bv (B6 q h)];exact q⟩
variable {o:HO}
theorem Stay.write(h:H p=some o)(m:Mut (some o))(o':HO):Stay H (upd H p o'):=
 ⟨fun b u q=>by rw[Bv (Ae3 q h (fun z=>by subst z;exact m))];exact q,fun b w u q=>by rw[Bv (Ae3 q h (fun z=>by subst z;exact m))];exact q⟩
structure Gr(H:Hp)(α:List Addr)(H':Hp)(α':List Addr):Prop where
 pre:∃ β,α' = α ++ β
 st:Stay H H'
theorem Gr.refl(H:Hp)(α:List Addr):Gr H α H α:=⟨⟨[],by simp⟩,.refl H⟩
variable {α:List Addr}
theorem Gr.trans{α1 α2:List Addr}(a:Gr H α H1 α1)(b:Gr H1 α1 H2 α2):Gr H α H2 α2:=by
 obtain ⟨⟨β,e⟩,s⟩:=a
 obtain ⟨⟨γ,e'⟩,s'⟩:=b
 exact ⟨⟨β ++ γ,by rw[e',e,dO]⟩,s.trans s'⟩
variable {α':List Addr}{n:Nat}
theorem Gr.at(g:Gr H α H' α')(h:α[n]? = some a):α'[n]? = some a:=by
 obtain ⟨β,e⟩:=g.pre
 have hn:n < α.length:=(aG.mp h).1
 rw[e,bG hn];exact h
variable {l:List U}{i:Nat}{x:V}{u:U}
section
mutual
theorem RepU.mono(g:Gr H α H' α'):∀ (u:U) (v:V),RepU K H α u v->RepU K H' α' u v
 | .non,_,h=>h
 | .bl _,_,h=>h
 | .int _,_,h=>h
 | .str _,_,h=>h
 | .tup l,v,h=>by
  unfold RepU at h ⊢
  obtain ⟨a,xs,e,s,r⟩:=h
  exact ⟨a,xs,e,g.st.sqT s,RepL.mono g l xs r⟩
 | .ref n,v,h=>by
  unfold RepU at h ⊢
  obtain ⟨a,e,q⟩:=h
  exact ⟨a,g.at e,q⟩
theorem RepL.mono(g:Gr H α H' α'):∀ (l:List U) (xs:List V),RepL K H α l xs->RepL K H' α' l xs
 | [],xs,h=>h
 | u::l,xs,h=>by
  unfold RepL at h ⊢
  obtain ⟨x,r,e,h1,h2⟩:=h
  exact ⟨x,r,e,RepU.mono g u x h1,RepL.mono g l r h2⟩
end
theorem RepL.length:∀ {l:List U} {xs:List V},RepL K H α l xs->l.length=xs.length
 | [],xs,h=>by unfold RepL at h;subst h;rfl
 | u::l,xs,h=>by
  unfold RepL at h
  obtain ⟨x,r,e,_,h2⟩:=h
  subst e
  simp[RepL.length h2]
theorem RepL.get:∀ {l:List U} {xs:List V} {i:Nat} {u:U},RepL K H α l xs->l[i]? = some u->∃ x,xs[i]? = some x/\RepU K H α u x
 | [],xs,i,u,h,e=>by simp at e
 | w::l,xs,i,u,h,e=>by
  unfold RepL at h
  obtain ⟨x,r,e',h1,h2⟩:=h
  subst e'
  cases i with
  | zero=>simp at e;subst e;exact ⟨x,rfl,h1⟩
  | succ i=>simpa using RepL.get (i:=i) h2 (by simpa using e)
theorem RepL.get'(h:RepL K H α l xs)(e:xs[i]? = some x):∃ u,l[i]? = some u/\RepU K H α u x:=by
 have hi:i < l.length:=by rw[h.length];exact (aG.mp e).1
 obtain ⟨y,e2,r⟩:=h.get (aC hi)
 rw[e] at e2;cases e2
 exact ⟨_,aC hi,r⟩
theorem RepL.nil:RepL K H α [] []:=by unfold RepL;rfl
theorem RepL.cons(h:RepU K H α u x)(t:RepL K H α l xs):RepL K H α (u::l) (x::xs):=by
 unfold RepL;exact ⟨x,xs,rfl,h,t⟩
theorem RepL.append:∀ {l l':List U} {xs ys:List V},RepL K H α l xs->RepL K H α l' ys->RepL K H α (l++l') (xs++ys)
 | [],l',xs,ys,h,t=>by unfold RepL at h;subst h;exact t
 | u::l,l',xs,ys,h,t=>by
  unfold RepL at h
  obtain ⟨x,r,e,h1,h2⟩:=h
  subst e
  exact .cons h1 (RepL.append h2 t)
theorem RepL.take:∀ {l:List U} {xs:List V} (n:Nat),RepL K H α l xs->RepL K H α (l.take n) (xs.take n)
 | [],xs,n,h=>by unfold RepL at h;subst h;simp[RepL.nil]
 | u::l,xs,0,h=>by simp[RepL.nil]
 | u::l,xs,n+1,h=>by
  unfold RepL at h
  obtain ⟨x,r,e,h1,h2⟩:=h
  subst e
  exact .cons h1 (RepL.take n h2)
theorem RepL.drop:∀ {l:List U} {xs:List V} (n:Nat),RepL K H α l xs->RepL K H α (l.drop n) (xs.drop n)
 | [],xs,n,h=>by unfold RepL at h;subst h;simp[RepL.nil]
 | u::l,xs,0,h=>h
 | u::l,xs,n+1,h=>by
  unfold RepL at h
  obtain ⟨x,r,e,h1,h2⟩:=h
  subst e
  exact RepL.drop n h2
theorem RepL.set(q:RepU K H α u x):∀ {l:List U} {xs:List V} (n:Nat),RepL K H α l xs->RepL K H α (l.set n u) (xs.set n x)
 | [],xs,n,h=>by unfold RepL at h;subst h;exact .nil
 | w::l,xs,0,h=>by
  unfold RepL at h
  obtain ⟨y,r,e,h1,h2⟩:=h
  subst e
  exact .cons q h2
 | w::l,xs,n+1,h=>by
  unfold RepL at h
  obtain ⟨y,r,e,h1,h2⟩:=h
  subst e
  exact .cons h1 (RepL.set q n h2)
theorem RepL.erase:∀ {l:List U} {xs:List V} (n:Nat),RepL K H α l xs->RepL K H α (l.eraseIdx n) (xs.eraseIdx n)
 | [],xs,n,h=>by unfold RepL at h;subst h;exact .nil
 | w::l,xs,0,h=>by
  unfold RepL at h
  obtain ⟨y,r,e,h1,h2⟩:=h
  subst e
  exact h2
 | w::l,xs,n+1,h=>by
  unfold RepL at h
  obtain ⟨y,r,e,h1,h2⟩:=h
  subst e
  exact .cons h1 (RepL.erase n h2)
theorem RepL.ints:∀ (ns:List Int),RepL K H α (ns.map U.int) (ns.map V.int)
 | []=>.nil
 | n::r=>.cons rfl (RepL.ints r)
end
noncomputable def RO(K:aK)(H:Hp)(a:Addr)(xs:List V):Prop:=
 (∃ o,H a=some (.frz o (.lst xs)))\/∃ (o:Obj) (its:Array aJ) (n:Nat),K.lookup a=some o/\o.cls = .type "list" /\ o.dict=none/\o.data = .seq its n/\its.size<=sizeLine/\Vals xs its.toList
theorem RO.sq(h:RO K H a xs):SqL K H a xs:=by
 rcases h with ⟨o,h⟩ | h
 ·exact .inl (.inr ⟨o,h⟩)
 ·exact .inr h
theorem RO.stay(st:Stay H H')(h:RO K H a xs):RO K H' a xs:=by
 rcases h with ⟨o,h⟩ | h
 ·exact .inl ⟨o,st.2 _ _ _ h⟩
 ·exact .inr h
noncomputable def Aok(a Ca:Addr)(dd:Option Addr)(fr:Bool)(h:Heap):Prop:=∃ (o:Obj) (vs:Array aJ),h.get? a=some o/\o.cls = .ref Ca/\o.dict=dd/\o.data = .fields vs/\1 < vs.size/\o.slots=#[]/\(fr=true->vs[1]? = some .none)
noncomputable def DictIs(H:Hp)(dd:Option Addr)(vs:List (Str×V)):Prop:=match dd with
 | none=>vs=[]
 | some dx=>vs≠[]/\∃ od,H dx=some (.frz od (.xd vs))
theorem DictIs.stay{dd:Option Addr}{vs:List (Str×V)}(st:∀ b o ws,H b=some (.frz o (.xd ws))->H' b=some (.frz o (.xd ws)))(h:DictIs H dd vs):DictIs H' dd vs:=by
 cases dd with
 | none=>exact h
 | some dx=>obtain ⟨ne,od,q⟩:=h;exact ⟨ne,od,st _ _ _ q⟩
noncomputable def HRep(K:aK)(H:Hp)(α:List Addr)(a:Addr):HU->Prop
 | .lst us=>∃ xs,H a=some (.lst xs)/\RepL K H α us xs
 | .ro us=>∃ xs,RO K H a xs/\RepL K H α us xs
 | .dic kvs=>∃ vs,H a=some (.dK vs)/\kvs.map (·.1)=vs.map (·.1)/\RepL K H α (kvs.map (·.2)) (vs.map (·.2))
 | .rod kvs=>∃ o vs,H a=some (.frz o (.dK vs))/\kvs.map (·.1)=vs.map (·.1)/\RepL K H α (kvs.map (·.2)) (vs.map (·.2))
 | .ins C fs=>∃ Ca dx vs,bK K bF C=some (some (.ref Ca))/\H a=some (.ins Ca dx vs)/\fs.map (·.1)=vs.map (·.1)/\RepL K H α (fs.map (·.2)) (vs.map (·.2))
 | .exc C fr fs=>∃ Ca dd vs,bK K bF C=some (some (.ref Ca))/\H a=some (.ext (Aok a Ca dd fr))/\DictIs H dd vs/\fs.map (·.1)=vs.map (·.1)/\RepL K H α (fs.map (·.2)) (vs.map (·.2))
noncomputable def HU.isRo:HU->Bool
 | .ro _=>true
 | _=>false
structure Abs(K:aK)(H:Hp)(α:List Addr)(L:UH):Prop where
 len:α.length=L.length
 inj:∀ (i j:Nat) (a:Addr) (o o':HU),α[i]? = some a->α[j]? = some a->L[i]? = some o->L[j]? = some o'->i=j\/o.isRo=true\/o'.isRo=true
 rep:∀ (i:Nat) (a:Addr) (o:HU),α[i]? = some a->L[i]? = some o->HRep K H α a o
variable {L:UH}
theorem Abs.addr(A:Abs K H α L){o:HU}(h:L[n]? = some o):∃ a,α[n]? = some a/\HRep K H α a o:=by
 have hn:n < α.length:=by rw[A.len];exact (aG.mp h).1
 exact ⟨α[n],aC hn,A.rep n _ o (aC hn) h⟩
theorem HRep.other{o:HU}(g:Gr H α H' α')(hs:o.isRo=true\/∀ u,H a=some u->H' a=some u)(h:HRep K H α a o):HRep K H' α' a o:=by
 cases o with
 | lst us=>obtain ⟨xs,e,r⟩:=h;exact ⟨xs,(hs.resolve_left (by simp[HU.isRo])) _ e,r.mono g⟩
 | ro us=>obtain ⟨xs,e,r⟩:=h;exact ⟨xs,e.stay g.st,r.mono g⟩
 | dic kvs=>obtain ⟨vs,e,k,r⟩:=h;exact ⟨vs,(hs.resolve_left (by simp[HU.isRo])) _ e,k,r.mono g⟩
 | rod kvs=>obtain ⟨o,vs,e,k,r⟩:=h;exact ⟨o,vs,(hs.resolve_left (by simp[HU.isRo])) _ e,k,r.mono g⟩
 | ins C fs=>obtain ⟨Ca,dx,vs,n,e,k,r⟩:=h;exact ⟨Ca,dx,vs,n,(hs.resolve_left (by simp[HU.isRo])) _ e,k,r.mono g⟩
 | exc C fr fs=>obtain ⟨Ca,dd,vs,n,e,d,k,r⟩:=h;exact ⟨Ca,dd,vs,n,(hs.resolve_left (by simp[HU.isRo])) _ e,d.stay fun b o ws q=>g.st.2 b o _ q,k,r.mono g⟩
theorem HRep.some{o:HU}(h:HRep K H α a o)(n:o.isRo=false):∃ u,H a=some u:=by
 cases o with
 | lst us=>obtain ⟨xs,e,r⟩:=h;exact ⟨_,e⟩
 | ro us=>simp[HU.isRo] at n
 | dic kvs=>obtain ⟨vs,e,k,r⟩:=h;exact ⟨_,e⟩
 | rod kvs=>obtain ⟨o,vs,e,k,r⟩:=h;exact ⟨_,e⟩
 | ins C fs=>obtain ⟨Ca,dx,vs,n',e,k,r⟩:=h;exact ⟨_,e⟩
 | exc C fr fs=>obtain ⟨Ca,dd,vs,n',e,k,r⟩:=h;exact ⟨_,e⟩
theorem Abs.new{u:HU}(A:Abs K H α L)(hp:H p=none)(hr:HRep K (upd H p o) (α ++ [p]) p u) :
  Abs K (upd H p o) (α ++ [p]) (L++[u])/\Gr H α (upd H p o) (α ++ [p]):=by
 have g:Gr H α (upd H p o) (α ++ [p]):=⟨⟨[p],rfl⟩,.new hp o⟩
 have hl:=A.len
 refine ⟨⟨by simp[hl],fun i j a o1 o2 e1 e2 e3 e4=>?_,fun i a o1 e1 e2=>?_⟩,g⟩
 ·have fresh:∀ (k:Nat) (o3:HU),α[k]? = some p->L[k]? = some o3->o3.isRo=true:=fun k o3 q1 q2=>by
   cases hh:o3.isRo with
   | true=>rfl
   | false=>
    obtain ⟨u3,q⟩:=(A.rep k p o3 q1 q2).some hh
    rw[hp] at q;cases q
  by_cases hi:i < α.length
  ·rw[bG hi] at e1
   rw[bG (by omega)] at e3
   by_cases hj:j < α.length
   ·rw[bG hj] at e2
    rw[bG (by omega)] at e4
    exact A.inj i j a o1 o2 e1 e2 e3 e4
   ·rw[cC (by omega)] at e2
    have:a=p:=by
     cases hk:j - α.length with
     | zero=>rw[hk] at e2;simp at e2;exact e2.symm
     | succ k=>rw[hk] at e2;simp at e2
    subst this
    exact .inr (.inl (fresh i o1 e1 e3))
  ·rw[cC (by omega)] at e1
   have hia:a=p/\i = α.length:=by
    cases hk:i - α.length with
    | zero=>rw[hk] at e1;simp at e1;exact ⟨e1.symm,by omega⟩
    | succ k=>rw[hk] at e1;simp at e1
   obtain ⟨rfl,hi'⟩:=hia
   by_cases hj:j < α.length
   ·rw[bG hj] at e2
    rw[bG (by omega)] at e4
    exact .inr (.inr (fresh j o2 e2 e4))
   ·rw[cC (by omega)] at e2
    have:j = α.length:=by
     cases hk:j - α.length with
     | zero=>omega
     | succ k=>rw[hk] at e2;simp at e2
    exact .inl (by omega)
 ·by_cases hi:i < α.length
  ·rw[bG hi] at e1
   rw[bG (by omega)] at e2
   refine (A.rep i a o1 e1 e2).other g ?_
   exact .inr fun u3 q=>by rw[Bv (B6 q hp)];exact q
  ·rw[cC (by omega)] at e1
   rw[cC (by omega)] at e2
   have h1:i - α.length=0:=by
    cases hk:i - α.length with
    | zero=>rfl
    | succ k=>rw[hk] at e1;simp at e1
   rw[h1] at e1
   rw[show i - L.length=0 by omega] at e2
   simp at e1 e2
   subst e1;subst e2
   exact hr
theorem Abs.put{o0:HO}{u0 u:HU}(A:Abs K H α L)(hn:α[n]? = some p)(hL:L[n]? = some u0)(hro:u0.isRo=false)(hro':u.isRo=false)(hp:H p=some o0)(hm:Mut (some o0))(hr:HRep K (upd H p o) α p u) :
  Abs K (upd H p o) α (L.set n u)/\Gr H α (upd H p o) α:=by
 have g:Gr H α (upd H p o) α:=⟨⟨[],by simp⟩,.write hp hm o⟩
 have hl:=A.len
 have hlt:n < L.length:=(aG.mp hL).1
 have look:∀ (i:Nat) (o1:HU),(L.set n u)[i]? = some o1->∃ o2,L[i]? = some o2/\o2.isRo=o1.isRo/\(i≠n->o2=o1):=fun i o1 e=>by
  by_cases hi:n=i
  ·subst hi
   rw[bI hlt] at e
   cases e
   exact ⟨u0,hL,by rw[hro,hro'],fun z=>absurd rfl z⟩
  ·rw[bD hi] at e
   exact ⟨o1,e,rfl,fun _=>rfl⟩
 refine ⟨⟨by simp[hl],fun i j a o1 o2 e1 e2 e3 e4=>?_,fun i a o1 e1 e2=>?_⟩,g⟩
 ·obtain ⟨x1,q1,r1,_⟩:=look i o1 e3
  obtain ⟨x2,q2,r2,_⟩:=look j o2 e4
  rw[<- r1,<- r2]
  exact A.inj i j a x1 x2 e1 e2 q1 q2
 ·by_cases hi:n=i
  ·subst hi
   rw[bI hlt] at e2
   cases e2
   rw[hn] at e1;cases e1
   exact hr
  ·rw[bD hi] at e2
   refine (A.rep i a o1 e1 e2).other g ?_
   by_cases hap:a=p
   ·subst hap
    rcases A.inj i n a o1 u0 e1 hn e2 hL with z | z | z
    ·exact absurd z.symm hi
    ·exact .inl z
    ·rw[hro] at z;cases z
   ·exact .inr fun u3 q=>by rw[Bv hap];exact q
structure RepS(K:aK)(H:Hp)(α:List Addr)(δ:UE)(σ:L2.St):Prop where
 len:δ.length = σ.length
 at_:∀ (i:Nat) (u:U),δ[i]? = some (some u)->∃ v,σ[i]? = some (some v)/\RepU K H α u v
variable {δ:UE}{σ:L2.St}
theorem RepS.mono(g:Gr H α H' α')(h:RepS K H α δ σ):RepS K H' α' δ σ:=
 ⟨h.len,fun i u e=>let ⟨v,q,r⟩:=h.at_ i u e;⟨v,q,r.mono g⟩⟩
theorem RepS.set(h:RepS K H α δ σ)(i:Nat){v:V}(r:RepU K H α u v):RepS K H α (δ.set i (some u)) (σ.set i (some v)):=
 ⟨by simp[h.len],fun j w e=>by
  by_cases hj:i=j
  ·subst hj
   by_cases hi:i < δ.length
   ·rw[bI hi] at e
    cases e
    exact ⟨v,bI (by rw[<- h.len];exact hi),r⟩
   ·rw[iU (by simpa using hi)] at e;cases e
  ·rw[bD hj] at e
   obtain ⟨v',q,r'⟩:=h.at_ j w e
   exact ⟨v',by rw[bD hj];exact q,r'⟩⟩
variable {us:List U}
theorem RepS.start(N:List Str){vs:List V}(h:RepL K H α us vs):RepS K H α (us.map some++bW (N.length - us.length) none) (start N vs):=by
 have hl:=h.length
 refine ⟨by simp[L2.start,hl],fun i u e=>?_⟩
 by_cases hi:i < us.length
 ·rw[bG (by simpa using hi),bA] at e
  cases q:us[i]? with
  | none=>rw[q] at e;simp at e
  | some w=>
   rw[q] at e
   simp at e
   subst e
   obtain ⟨x,e2,r⟩:=h.get q
   refine ⟨x,?_,r⟩
   unfold L2.start
   rw[bG (by simp;omega),bA,e2];rfl
 ·rw[cC (by simpa using hi)] at e
  have:=aW e
  simp at this
abbrev FE:=UE->UH->Option (U×UH)
abbrev FT:=UE->UH->Option (Bool×UH)
abbrev FA:=UE->UH->Option (List U×UH)
inductive lE(K:aK)(f:FE)(σ:L2.St)(H:Hp)(Q:VK):Prop
 | mk (α:List Addr) (δ:UE) (L:UH) (A:Abs K H α L) (S:RepS K H α δ σ) (u:U) (L':UH) (e:f δ L=some (u,L')) (q:∀ v H' α',Gr H α H' α'->Abs K H' α' L'->RepU K H' α' u v->Q v H'):lE K f σ H Q
inductive lT(K:aK)(f:FT)(σ:L2.St)(H:Hp)(Q:Bool->Hp->Prop):Prop
 | mk (α:List Addr) (δ:UE) (L:UH) (A:Abs K H α L) (S:RepS K H α δ σ) (b:Bool) (L':UH) (e:f δ L=some (b,L')) (q:∀ H' α',Gr H α H' α'->Abs K H' α' L'->Q b H'):lT K f σ H Q
inductive lA(K:aK)(f:FA)(σ:L2.St)(H:Hp)(Q:List V->Hp->Prop):Prop
 | mk (α:List Addr) (δ:UE) (L:UH) (A:Abs K H α L) (S:RepS K H α δ σ) (us:List U) (L':UH) (e:f δ L=some (us,L')) (q:∀ vs H' α',Gr H α H' α'->Abs K H' α' L'->RepL K H' α' us vs->Q vs H'):lA K f σ H Q
noncomputable def PEF(X:Cx)(e:Expr)(f:FE):Prop:=PE X e (lE X.K f)
noncomputable def PTF(X:Cx)(e:Expr)(f:FT):Prop:=PT X e (lT X.K f)
noncomputable def PWF(X:Cx)(e:Expr)(f:FT):Prop:=PW X e (lT X.K f)
noncomputable def PAF(X:Cx)(es:List Expr)(f:FA):Prop:=PA X es (lA X.K f)
variable {X:Cx}{e:Expr}{es:List Expr}{t:TE}
section
theorem PE.imp{t':TE}(h:PE X e t)(hi:∀ σ H Q,t' σ H Q->t σ H Q):PE X e t':=fun pins s σ H Q I q=>h pins s σ H Q I (hi σ H Q q)
theorem PT.imp{t t':TT}(h:PT X e t)(hi:∀ σ H Q,t' σ H Q->t σ H Q):PT X e t':=fun pins s σ H Q I q=>h pins s σ H Q I (hi σ H Q q)
theorem PW.imp{t t':TT}(h:PW X e t)(hi:∀ σ H Q,t' σ H Q->t σ H Q):PW X e t':=fun wh pins s σ H Q I q=>h wh pins s σ H Q I (hi σ H Q q)
theorem PA.imp{t t':TA}(h:PA X es t)(hi:∀ σ H Q,t' σ H Q->t σ H Q):PA X es t':=fun pos pins s σ H Q I q=>h pos pins s σ H Q I (hi σ H Q q)
end
noncomputable def Aa(i:Nat):FE:=fun δ L=>(δ[i]?).join.map fun u=>(u,L)
noncomputable def fC(u:U):FE:=fun _ L=>some (u,L)
variable {b c:Expr}{pos:Pos}{r:R2}{sem:S2}{fa fb f:FE}
section
variable {a:Expr}
theorem Ag(i:Nat){x:Str}(hN:X.N[i]? = some x:=by rfl)(hv:Vis X.env.scope x:=by first | exact oA rfl | exact mC (oA rfl) | exact mC (mC rfl))
  (hd:(x == ("__debug__" : Str))=false:=by decide) (hcd:(x == ("__classdict__" : Str))=false:=by decide):PEF X (.Name x pos) (Aa i):=by
 refine PE.imp (Af2 hN hv hd hcd) ?_
 rintro σ H Q ⟨α,δ,L,A,S,u,L',e,q⟩
 unfold Aa at e
 cases h:δ[i]? with
 | none=>rw[h] at e;simp at e
 | some o=>
  cases o with
  | none=>rw[h] at e;simp at e
  | some w=>
   rw[h] at e
   simp at e
   obtain ⟨rfl,rfl⟩:=e
   obtain ⟨v,hv,r⟩:=S.at_ i w h
   exact ⟨v,hv,q v H α (.refl _ _) A r⟩
theorem Amn{v:V}(h:PE X e (tC v))(r:∀ H α,RepU X.K H α u v):PEF X e (fC u):=by
 refine PE.imp h ?_
 rintro σ H Q ⟨α,δ,L,A,S,w,L',e,q⟩
 unfold fC at e
 cases e
 exact q v H α (.refl _ _) A (r H α)
theorem Ai{i:Int}{j pos}:PEF X (.Constant (.int i) j pos) (fC (.int i)):=Amn An1 fun _ _=>rfl
theorem Pw{b:Bool}{j pos}:PEF X (.Constant (.bool b) j pos) (fC (.bl b)):=Amn Apf fun _ _=>rfl
theorem Dj{x:Str}{j pos}:PEF X (.Constant (.str x) j pos) (fC (.str x)):=Amn Amh fun _ _=>rfl
abbrev S2:=U->U->UH->Option (U×UH)
noncomputable def Ew(K:aK)(r:R2)(sem:S2):Prop:=∀ (H:Hp) (α:List Addr) (L:UH) (u w:U) (x y:V) (z:U) (L':UH) (Q:VK),Abs K H α L->RepU K H α u x->RepU K H α w y->sem u w L=some (z,L') ->
 (∀ v H' α',Gr H α H' α'->Abs K H' α' L'->RepU K H' α' z v->Q v H')->r x y H Q
noncomputable def f2(sem:S2)(fa fb:FE):FE:=fun δ L=>(fa δ L).bind fun p=>(fb δ p.2).bind fun q=>sem p.1 q.1 q.2
theorem Aba(h:Ew K r sem):∀ σ H Q,lE K (f2 sem fa fb) σ H Q->tOp r (lE K fa) (lE K fb) σ H Q:=by
 rintro σ H Q ⟨α,δ,L,A,S,z,L3,e,q⟩
 obtain ⟨⟨u,L1⟩,e1,e⟩:=aB.mp e
 obtain ⟨⟨w,L2⟩,e2,e3⟩:=aB.mp e
 refine ⟨α,δ,L,A,S,u,L1,e1,fun x H1 α1 g1 A1 r1=>⟨α1,δ,L1,A1,S.mono g1,w,L2,e2,fun y H2 α2 g2 A2 r2=>?_⟩⟩
 exact h H2 α2 L2 u w x y z L3 Q A2 (r1.mono g2) r2 e3 fun v H3 α3 g3 A3 r3=>q v H3 α3 (g1.trans (g2.trans g3)) A3 r3
theorem Bk{op:Operator}(ho:OpR X (fW op) r)(h:Ew X.K r sem)(ha:PEF X a fa)(hb:PEF X b fb):PEF X (.BinOp a op b pos) (f2 sem fa fb):=PE.imp (Aoc ho ha hb) (Aba h)
theorem Ja{op:CmpOp}(ho:OpR X (fJ op) r)(h:Ew X.K r sem)(ha:PEF X a fa)(hb:PEF X b fb)(hm:behindInMarks op b=false):PEF X (.Compare a [op] [b] pos) (f2 sem fa fb):=PE.imp (Ajq ho ha hb hm) (Aba h)
noncomputable def Ax(f:FE):FT:=fun δ L=>(f δ L).bind fun p=>match p.1 with | .bl k=>some (k,p.2) | _=>none
theorem Akg(ht:∀ σ H Q,lE K f σ H Q->t σ H Q):∀ σ H Q,lT K (Ax f) σ H Q->Akr t σ H Q:=by
 rintro σ H Q ⟨α,δ,L,A,S,b,L1,e,q⟩
 obtain ⟨⟨u,L2⟩,e1,e⟩:=aB.mp e
 refine ht σ H _ ⟨α,δ,L,A,S,u,L2,e1,fun x H1 α1 g1 A1 r1=>?_⟩
 cases u with
 | bl k=>simp at e;obtain ⟨rfl,rfl⟩:=e;exact ⟨k,r1,q H1 α1 g1 A1⟩
 | _=>simp at e
theorem Bf{op:CmpOp}(ho:OpR X (fJ op) r)(h:Ew X.K r sem)(ha:PEF X a fa)(hb:PEF X b fb)(hm:behindInMarks op b=false):PTF X (.Compare a [op] [b] pos) (Ax (f2 sem fa fb)):=PT.imp (Air ho ha hb hm) (Akg (Aba h))
end
variable {g:FA}
section
variable {a:Expr}{rest:List Expr}
noncomputable def Jp(f g:FT):FT:=fun δ L=>(f δ L).bind fun p=>if p.1=true then g δ p.2 else some (false,p.2)
noncomputable def fOr(f g:FT):FT:=fun δ L=>(f δ L).bind fun p=>if p.1=true then some (true,p.2) else g δ p.2
noncomputable def X3(f:FT):FT:=fun δ L=>(f δ L).map fun p=>(!p.1,p.2)
noncomputable def Hc(f g:FE):FE:=fun δ L=>(f δ L).bind fun p=>match p.1 with | .bl k=>if k=true then g δ p.2 else some (.bl false,p.2) | _=>none
noncomputable def Ap9(f g:FE):FE:=fun δ L=>(f δ L).bind fun p=>match p.1 with | .bl k=>if k=true then some (.bl true,p.2) else g δ p.2 | _=>none
noncomputable def Aow(f:FE):FE:=fun δ L=>(f δ L).bind fun p=>match p.1 with | .bl k=>some (.bl (!k),p.2) | _=>none
noncomputable def fIf(c:FT)(f g:FE):FE:=fun δ L=>(c δ L).bind fun p=>if p.1=true then f δ p.2 else g δ p.2
theorem Ke{f:FT}(ha:PTF X a f):PWF X (.BoolOp .And [a] pos) f:=Ajd ha
theorem Acp{f:FT}(ha:PTF X a f):PWF X (.BoolOp .Or [a] pos) f:=Amd ha
theorem K1{f g:FT}(ha:PTF X a f)(hb:PWF X (.BoolOp .And (b::rest) pos) g):PWF X (.BoolOp .And (a::b::rest) pos) (Jp f g):=by
 refine PW.imp (Al9 ha hb) ?_
 rintro σ H Q ⟨α,δ,L,A,S,z,L3,e,q⟩
 obtain ⟨⟨u,L1⟩,e1,e⟩:=aB.mp e
 refine ⟨α,δ,L,A,S,u,L1,e1,fun H1 α1 g1 A1=>?_⟩
 cases u with
 | true=>exact Aar ⟨α1,δ,L1,A1,S.mono g1,z,L3,e,fun H2 α2 g2 A2=>q H2 α2 (g1.trans g2) A2⟩
 | false=>cases e;exact Y9 (q H1 α1 g1 A1)
theorem Agh{f g:FT}(ha:PTF X a f)(hb:PWF X (.BoolOp .Or (b::rest) pos) g):PWF X (.BoolOp .Or (a::b::rest) pos) (fOr f g):=by
 refine PW.imp (Aph ha hb) ?_
 rintro σ H Q ⟨α,δ,L,A,S,z,L3,e,q⟩
 obtain ⟨⟨u,L1⟩,e1,e⟩:=aB.mp e
 refine ⟨α,δ,L,A,S,u,L1,e1,fun H1 α1 g1 A1=>?_⟩
 cases u with
 | false=>exact Y9 ⟨α1,δ,L1,A1,S.mono g1,z,L3,e,fun H2 α2 g2 A2=>q H2 α2 (g1.trans g2) A2⟩
 | true=>cases e;exact Aar (q H1 α1 g1 A1)
theorem PWF.pt{f:FT}(h:PWF X e f):PTF X e f:=PW.pt h
theorem Wn{f:FT}(ha:PTF X a f):PTF X (.UnaryOp .Not a pos) (X3 f):=by
 refine PT.imp (Ali ha) ?_
 rintro σ H Q ⟨α,δ,L,A,S,z,L3,e,q⟩
 obtain ⟨⟨u,L1⟩,e1,e⟩:=aH.mp e
 cases e
 exact ⟨α,δ,L,A,S,u,L1,e1,fun H1 α1 g1 A1=>q H1 α1 g1 A1⟩
theorem P1{op}(h:PEF X a f):PEF X (.BoolOp op [a] pos) f:=Alv h
theorem Ms{g:FE}(ha:PEF X a f)(hb:PEF X (.BoolOp .And (b::rest) pos) g):PEF X (.BoolOp .And (a::b::rest) pos) (Hc f g):=by
 refine PE.imp (Ak4 ha hb) ?_
 rintro σ H Q ⟨α,δ,L,A,S,z,L3,e,q⟩
 obtain ⟨⟨u,L1⟩,e1,e⟩:=aB.mp e
 refine ⟨α,δ,L,A,S,u,L1,e1,fun v H1 α1 g1 A1 r1=>?_⟩
 cases u with
 | bl k=>
  cases k with
  | true=>exact ⟨true,r1,Aar ⟨α1,δ,L1,A1,S.mono g1,z,L3,e,fun v H2 α2 g2 A2 r=>q v H2 α2 (g1.trans g2) A2 r⟩⟩
  | false=>cases e;exact ⟨false,r1,Y9 (q _ H1 α1 g1 A1 rfl)⟩
 | _=>simp at e
theorem Ao4{t:FT}{g:FE}(hc:PTF X c t)(ha:PEF X a f)(hb:PEF X b g):PEF X (.IfExp c a b pos) (fIf t f g):=by
 refine PE.imp (Af7 hc ha hb) ?_
 rintro σ H Q ⟨α,δ,L,A,S,z,L3,e,q⟩
 obtain ⟨⟨u,L1⟩,e1,e⟩:=aB.mp e
 refine ⟨α,δ,L,A,S,u,L1,e1,fun H1 α1 g1 A1=>?_⟩
 cases u with
 | true=>exact Aar ⟨α1,δ,L1,A1,S.mono g1,z,L3,e,fun v H2 α2 g2 A2 r=>q v H2 α2 (g1.trans g2) A2 r⟩
 | false=>exact Y9 ⟨α1,δ,L1,A1,S.mono g1,z,L3,e,fun v H2 α2 g2 A2 r=>q v H2 α2 (g1.trans g2) A2 r⟩
noncomputable def Af:FA:=fun _ L=>some ([],L)
noncomputable def Ac(f:FE)(g:FA):FA:=fun δ L=>(f δ L).bind fun p=>(g δ p.2).map fun q=>(p.1::q.1,q.2)
theorem Ae:PAF X [] Af:=by
 refine PA.imp Agf ?_
 rintro σ H Q ⟨α,δ,L,A,S,z,L3,e,q⟩
 cases e
 exact q [] H α (.refl _ _) A .nil
theorem Ad(ha:PEF X e f)(hr:PAF X es g)(hs:bS (e::es) X.env=(false,eval e X.env)::bS es X.env:=by rfl):PAF X (e::es) (Ac f g):=by
 refine PA.imp (Wa ha hr hs) ?_
 rintro σ H Q ⟨α,δ,L,A,S,z,L3,e,q⟩
 obtain ⟨⟨u,L1⟩,e1,e⟩:=aB.mp e
 obtain ⟨⟨us,L2⟩,e2,e⟩:=aH.mp e
 cases e
 exact ⟨α,δ,L,A,S,u,L1,e1,fun x H1 α1 g1 A1 r1=>⟨α1,δ,L1,A1,S.mono g1,us,L2,e2,fun xs H2 α2 g2 A2 r2=>q (x::xs) H2 α2 (g1.trans g2) A2 (.cons (r1.mono g2) r2)⟩⟩
noncomputable def Dy(n:Nat):Bool:=decide (n<=sizeLine)
noncomputable def C0(g:FA):FE:=fun δ L=>(g δ L).bind fun p=>if Dy p.1.length=true then some (.tup p.1,p.2) else none
noncomputable def Cu(g:FA):FE:=fun δ L=>(g δ L).bind fun p=>if Dy p.1.length=true then some (.ref p.2.length,p.2++[.lst p.1]) else none
theorem Fz(h:Dy n=true):n<=sizeLine:=of_decide_eq_true h
theorem Abs.tup(A:Abs K H α L)(r:RepL K H α us xs)(hp:H p=none) :
  Gr H α (upd H p (.tup xs)) α/\Abs K (upd H p (.tup xs)) α L/\RepU K (upd H p (.tup xs)) α (.tup us) (.ref p):=by
 have g:Gr H α (upd H p (.tup xs)) α:=⟨⟨[],by simp⟩,.new hp _⟩
 refine ⟨g,⟨A.len,A.inj,fun i a o e1 e2=>(A.rep i a o e1 e2).other g (.inr fun u q=>by rw[Bv (B6 q hp)];exact q)⟩,?_⟩
 unfold RepU
 exact ⟨p,xs,rfl,.of upd_same,r.mono g⟩
theorem Abs.lst(A:Abs K H α L)(r:RepL K H α us xs)(hp:H p=none) :
  Gr H α (upd H p (.lst xs)) (α ++ [p])/\Abs K (upd H p (.lst xs)) (α ++ [p]) (L++[.lst us])/\RepU K (upd H p (.lst xs)) (α ++ [p]) (.ref L.length) (.ref p):=by
 have g:Gr H α (upd H p (.lst xs)) (α ++ [p]):=⟨⟨[p],rfl⟩,.new hp _⟩
 obtain ⟨A',_⟩:=A.new (o:=.lst xs) (u:=.lst us) hp ⟨xs,upd_same,r.mono g⟩
 refine ⟨g,A',?_⟩
 unfold RepU
 exact ⟨p,by rw[<- A.len];simp,rfl⟩
theorem D0{x1}(h:PAF X es g):PEF X (.Tuple es x1 pos) (C0 g):=by
 refine PE.imp (Alf h) ?_
 rintro σ H Q ⟨α,δ,L,A,S,z,L3,e,q⟩
 obtain ⟨⟨us,L1⟩,e1,e⟩:=aB.mp e
 refine ⟨α,δ,L,A,S,us,L1,e1,fun xs H1 α1 g1 A1 r1=>?_⟩
 simp only at e
 split at e
 ·rename_i hs
  cases e
  refine ⟨by rw[<- r1.length];exact Fz hs,fun p hp=>?_⟩
  obtain ⟨g2,A2,r2⟩:=A1.tup r1 hp
  exact q _ _ α1 (g1.trans g2) A2 r2
 ·cases e
theorem C9(h:PAF X es g):PEF X (.List es pos) (Cu g):=by
 refine PE.imp (Anu h) ?_
 rintro σ H Q ⟨α,δ,L,A,S,z,L3,e,q⟩
 obtain ⟨⟨us,L1⟩,e1,e⟩:=aB.mp e
 refine ⟨α,δ,L,A,S,us,L1,e1,fun xs H1 α1 g1 A1 r1=>?_⟩
 simp only at e
 split at e
 ·rename_i hs
  cases e
  refine ⟨by rw[<- r1.length];exact Fz hs,fun p hp=>?_⟩
  obtain ⟨g2,A2,r2⟩:=A1.lst r1 hp
  exact q _ _ _ (g1.trans g2) A2 r2
 ·cases e
abbrev SC:=List U->UH->Option (U×UH)
noncomputable def Qz(K:aK)(r:List V->Hp->VK->Prop)(sem:SC):Prop:=∀ (H:Hp) (α:List Addr) (L:UH) (us:List U) (xs:List V) (z:U) (L':UH) (Q:VK),Abs K H α L->RepL K H α us xs->sem us L=some (z,L') ->
 (∀ v H' α',Gr H α H' α'->Abs K H' α' L'->RepU K H' α' z v->Q v H')->r xs H Q
noncomputable def Ap(sem:SC)(g:FA):FE:=fun δ L=>(g δ L).bind fun p=>sem p.1 p.2
theorem Aks{r:List V->Hp->VK->Prop}{sem:SC}(h:Qz K r sem):∀ σ H Q,lE K (Ap sem g) σ H Q->tCB r (lA K g) σ H Q:=by
 rintro σ H Q ⟨α,δ,L,A,S,z,L3,e,q⟩
 obtain ⟨⟨us,L1⟩,e1,e⟩:=aB.mp e
 exact ⟨α,δ,L,A,S,us,L1,e1,fun xs H1 α1 g1 A1 r1=>h H1 α1 L1 us xs z L3 Q A1 r1 e fun v H2 α2 g2 A2 r2=>q v H2 α2 (g1.trans g2) A2 r2⟩
variable {x:Str}{p:Pos}{id T:String}{r:List V->Hp->VK->Prop}{sem:SC}
theorem Bg(hc:CallR X (.builtin id) r)(h:Qz X.K r sem)(hg:Gl X x)(hm:X.mg x=none)(hv:gC x=some (.builtin id))(ha:PAF X (e::es) g)(hn:x ≠ "__name__" := by decide)(hdb:(x == ("__debug__" : Str))=false:=by decide)
  (he:bS (e::es) X.env=(false,eval e X.env)::bS es X.env:=by rfl) (hpl:(backTo pos (bS es X.env)).any (·.1)=false:=by rfl) :
  PEF X (.Call (.Name x p) (e::es) [] pos) (Ap sem g):=PE.imp (Yg hc hg hm hv ha hn hdb he hpl) (Aks h)
theorem Cr(hc:CallR X (.type T) r)(h:Qz X.K r sem)(hg:Gl X x)(hm:X.mg x=none)(hv:gC x=some (.type T))(ha:PAF X (e::es) g)(hn:x ≠ "__name__" := by decide)(hdb:(x == ("__debug__" : Str))=false:=by decide)
  (he:bS (e::es) X.env=(false,eval e X.env)::bS es X.env:=by rfl) (hpl:(backTo pos (bS es X.env)).any (·.1)=false:=by rfl) :
  PEF X (.Call (.Name x p) (e::es) [] pos) (Ap sem g):=PE.imp (Aed hc hg hm hv ha hn hdb he hpl) (Aks h)
abbrev SM:=U->List U->UH->Option (U×UH)
noncomputable def Tj(K:aK)(r:V->List V->Hp->VK->Prop)(sem:SM):Prop:=∀ (H:Hp) (α:List Addr) (L:UH) (u:U) (us:List U) (x:V) (xs:List V) (z:U) (L':UH) (Q:VK),Abs K H α L->RepU K H α u x->RepL K H α us xs->sem u us L=some (z,L') ->
 (∀ v H' α',Gr H α H' α'->Abs K H' α' L'->RepU K H' α' z v->Q v H')->r x xs H Q
noncomputable def tyU(T:String)(u:U)(L:UH):Bool:=match u with
 | .str _=>T == "str"
 | .int _=>T == "int"
 | .tup _=>T == "tuple"
 | .ref n=>match L[n]? with
  | some (.lst _)=>T == "list"
  | some (.ro _)=>T == "list"
  | some (.dic _)=>T == "dict"
  | _=>false
 | _=>false
theorem Afd{x:V}(A:Abs K H α L)(r:RepU K H α u x)(h:tyU T u L=true):tyV K T x H:=by
 cases u with
 | str y=>unfold RepU at r;subst r;simpa[tyU,tyV] using h
 | int i=>unfold RepU at r;subst r;simpa[tyU,tyV] using h
 | ref n=>
  unfold RepU at r
  obtain ⟨a,ea,rfl⟩:=r
  unfold tyU at h
  simp only at h
  cases q:L[n]? with
  | none=>rw[q] at h;simp at h
  | some o=>
   have hr:=A.rep n a o ea q
   rw[q] at h
   cases o with
   | lst us=>simp at h;obtain ⟨xs,e,_⟩:=hr;exact .inl ⟨h,xs,.of e⟩
   | ro us=>simp at h;obtain ⟨xs,e,_⟩:=hr;exact .inl ⟨h,xs,e.sq⟩
   | dic kvs=>simp at h;obtain ⟨vs,e,_⟩:=hr;exact .inr (.inr (.inl ⟨h,.inl ⟨vs,e⟩⟩))
   | rod kvs=>simp at h
   | ins C fs=>simp at h
   | exc C fr fs=>simp at h
 | non=>simp[tyU] at h
 | bl b=>simp[tyU] at h
 | tup l=>
  unfold RepU at r
  obtain ⟨a,ys,rfl,sq,_⟩:=r
  have hT:T = "tuple" := by simpa[tyU] using h
  exact .inr (.inl ⟨hT,ys,sq⟩)
noncomputable def Ck(T:String)(sem:SM)(f:FE)(g:FA):FE:=fun δ L=>(f δ L).bind fun p=>if tyU T p.1 p.2=true then (g δ p.2).bind fun q=>sem p.1 q.1 q.2 else none
theorem Ao2{r:V->List V->Hp->VK->Prop}{sem:SM}(h:Tj K r sem):∀ σ H Q,lE K (Ck T sem f g) σ H Q->tBM K T r (lE K f) (lA K g) σ H Q:=by
 rintro σ H Q ⟨α,δ,L,A,S,z,L3,e,q⟩
 obtain ⟨⟨u,L1⟩,e1,e⟩:=aB.mp e
 simp only at e
 split at e
 ·rename_i ht
  obtain ⟨⟨us,L2⟩,e2,e⟩:=aB.mp e
  refine ⟨α,δ,L,A,S,u,L1,e1,fun x H1 α1 g1 A1 r1=>⟨Afd A1 r1 ht,α1,δ,L1,A1,S.mono g1,us,L2,e2,fun xs H2 α2 g2 A2 r2=>?_⟩⟩
  exact h H2 α2 L2 u us x xs z L3 Q A2 (r1.mono g2) r2 e fun v H3 α3 g3 A3 r3=>q v H3 α3 (g1.trans (g2.trans g3)) A3 r3
 ·cases e
theorem Amb{r:V->List V->Hp->VK->Prop}{sem:SM}(h:Tj K r sem):∀ σ H Q,lE K (Ck T sem f Af) σ H Q->Apt K T r (lE K f) σ H Q:=by
 rintro σ H Q ⟨α,δ,L,A,S,z,L3,e,q⟩
 obtain ⟨⟨u,L1⟩,e1,e⟩:=aB.mp e
 simp only at e
 split at e
 ·rename_i ht
  obtain ⟨⟨us,L2⟩,e2,e⟩:=aB.mp e
  cases e2
  refine ⟨α,δ,L,A,S,u,L1,e1,fun x H1 α1 g1 A1 r1=>⟨Afd A1 r1 ht,?_⟩⟩
  exact h H1 α1 L1 u [] x [] z L3 Q A1 r1 .nil e fun v H3 α3 g3 A3 r3=>q v H3 α3 (g1.trans g3) A3 r3
 ·cases e
section
variable {o:Expr}{name:Str}{apos cpos:Pos}{T id:String}{r:V->List V->Hp->VK->Prop}{sem:SM}
theorem Am8(pa:pX T)(slot:Slot T name id)(hty:typeOf (.builtin id)=pure (.type "method_descriptor"))(hm:MtR X id r)(h:Tj X.K r sem)(ho:PEF X o f)
  (hbase:attributeBase o name X.env (eval o X.env)=eval o X.env:=by rfl) (hline:(apos.endLine == cpos.line)=true:=by rfl):PEF X (.Call (.Attribute o name apos) [] [] cpos) (Ck T sem f Af):=
 PE.imp (Alp pa slot hty hm ho hbase hline) (Amb h)
theorem Ih(pa:pX T)(slot:Slot T name id)(hty:typeOf (.builtin id)=pure (.type "method_descriptor"))(hm:MtR X id r)(h:Tj X.K r sem)(ho:PEF X o f)(ha:PAF X (e::es) g)
  (hbase:attributeBase o name X.env (eval o X.env)=eval o X.env:=by rfl)
  (hfew:((backTo cpos (bS (e::es) X.env)).all (fun x=>!x.1)&&(backToKw cpos (keywordEach [] X.env)).all (fun x=>x.1.isSome)&&decide ((e::es).length+([]:List jJ).length+(if ([]:List jJ).isEmpty then 0 else 1) < 30))=true:=by rfl)
  (hline:(apos.endLine == cpos.line)=true:=by rfl) (hst:bS (e::es) X.env=(false,eval e X.env)::bS es X.env:=by rfl) (hpl:(backTo cpos (bS es X.env)).any (·.1)=false:=by rfl) :
  PEF X (.Call (.Attribute o name apos) (e::es) [] cpos) (Ck T sem f g):=
 PE.imp (Apw pa slot hty hm ho ha hbase hfew hline hst hpl) (Ao2 h)
end
end
abbrev FN:=List U->UH->Option (U×UH)
inductive spF(K:aK)(n:Nat)(f:FN)(vs:List V)(H:Hp)(Q:VK)(E:XK):Prop
 | mk (α:List Addr) (L:UH) (us:List U) (A:Abs K H α L) (r:RepL K H α us vs) (hl:us.length=n) (u:U) (L':UH) (e:f us L=some (u,L')) (q:∀ v H' α',Gr H α H' α'->Abs K H' α' L'->RepU K H' α' u v->Q v H'):spF K n f vs H Q E
variable {k:Nat}
section
variable {a o:Expr}{p:Pos}{x:Str}{f:Addr}{fd:cM}{ps:List Str}{F:FN}{fc:FE}
noncomputable def Ay(n:Nat)(F:FN)(g:FA):FE:=fun δ L=>(g δ L).bind fun p=>if p.1.length=n then F p.1 p.2 else none
theorem Aq(hF:FnOk X.prog X.w X.K X.mg X.base CX0 k f fd ps (spF X.K n F))(hr:Room k X.A)(hg:Gl X x)(hm:X.mg x=some (.ref f))(hk:bO X.K (.ref f)=true)(hb:Binds X.K fd ps [])
  (ha:PAF X (e::es) g) (hdb:(x == ("__debug__" : Str))=false:=by decide) (he:bS (e::es) X.env=(false,eval e X.env)::bS es X.env:=by rfl) (hpl:(backTo pos (bS es X.env)).any (·.1)=false:=by rfl) :
  PEF X (.Call (.Name x p) (e::es) [] pos) (Ay n F g):=by
 refine PE.imp (Aim hF hr hg hm hk hb .nil Apd ha hdb he hpl) ?_
 rintro σ H Q ⟨α,δ,L,A,S,z,L3,e,q⟩
 obtain ⟨⟨us,L1⟩,e1,e⟩:=aB.mp e
 simp only at e
 split at e
 ·rename_i hl
  refine ⟨α,δ,L,A,S,us,L1,e1,fun xs H1 α1 g1 A1 r1=>?_⟩
  exact ⟨α1,L1,us,A1,by rw[aU];exact r1,hl,z,L3,e,fun v H2 α2 g2 A2 r2=>q v H2 α2 (g1.trans g2) A2 r2⟩
 ·cases e
theorem Bm(hr:IxR X r)(h:Ew X.K r sem)(ha:PEF X a fa)(hb:PEF X b fb)(hs:Ab6 b):PEF X (.Subscript a b pos) (f2 sem fa fb):=PE.imp (Ao0 hr ha hb hs) (Aba h)
abbrev FO:=UE->UH->Option (Option Int×UH)
inductive lO(K:aK)(f:FO)(σ:L2.St)(H:Hp)(Q:Option Int->Hp->Prop):Prop
 | mk (α:List Addr) (δ:UE) (L:UH) (A:Abs K H α L) (S:RepS K H α δ σ) (i:Option Int) (L':UH) (e:f δ L=some (i,L')) (q:∀ H' α',Gr H α H' α'->Abs K H' α' L'->Q i H'):lO K f σ H Q
noncomputable def POF(X:Cx)(e:Option Expr)(f:FO):Prop:=PO X e (lO X.K f)
noncomputable def A0:FO:=fun _ L=>some (none,L)
noncomputable def Bo(f:FE):FO:=fun δ L=>(f δ L).bind fun p=>match p.1 with | .int i=>some (some i,p.2) | _=>none
theorem PO.imp{e:Option Expr}{t t':TO}(h:PO X e t)(hi:∀ σ H Q,t' σ H Q->t σ H Q):PO X e t':=fun pins s σ H Q I q=>h pins s σ H Q I (hi σ H Q q)
theorem Ce:POF X none A0:=by
 refine PO.imp Ait ?_
 rintro σ H Q ⟨α,δ,L,A,S,z,L3,e,q⟩
 cases e
 exact q H α (.refl _ _) A
theorem B5(h:PEF X e fa):POF X (some e) (Bo fa):=by
 refine PO.imp (Ajb h) ?_
 rintro σ H Q ⟨α,δ,L,A,S,z,L3,e,q⟩
 obtain ⟨⟨u,L1⟩,e1,e⟩:=aB.mp e
 refine ⟨α,δ,L,A,S,u,L1,e1,fun x H1 α1 g1 A1 r1=>?_⟩
 cases u with
 | int i=>cases e;exact ⟨i,r1,q H1 α1 g1 A1⟩
 | _=>simp at e
abbrev SS:=U->Option Int->Option Int->UH->Option (U×UH)
noncomputable def Aby(K:aK)(r:V->Option Int->Option Int->Hp->VK->Prop)(sem:SS):Prop:=∀ (H:Hp) (α:List Addr) (L:UH) (u:U) (x:V) (lo hi:Option Int) (z:U) (L':UH) (Q:VK),Abs K H α L->RepU K H α u x->sem u lo hi L=some (z,L') ->
 (∀ v H' α',Gr H α H' α'->Abs K H' α' L'->RepU K H' α' z v->Q v H')->r x lo hi H Q
noncomputable def fSl(sem:SS)(f:FE)(l h:FO):FE:=fun δ L=>(f δ L).bind fun p=>(l δ p.2).bind fun q=>(h δ q.2).bind fun r=>sem p.1 q.1 r.1 r.2
theorem Cg{r:V->Option Int->Option Int->Hp->VK->Prop}{sem:SS}{lo hi:Option Expr}{fl fh:FO}{p2:Pos}(hr:SlR X r)(h:Aby X.K r sem)(he:PEF X e fa)(hl:POF X lo fl)(hu:POF X hi fh):PEF X (.Subscript e (.Slice lo hi none p2) pos) (fSl sem fa fl fh):=by
 refine PE.imp (Agg hr he hl hu) ?_
 rintro σ H Q ⟨α,δ,L,A,S,z,L3,e,q⟩
 obtain ⟨⟨u,L1⟩,e1,e⟩:=aB.mp e
 obtain ⟨⟨i,L2⟩,e2,e⟩:=aB.mp e
 obtain ⟨⟨j,L4⟩,e3,e⟩:=aB.mp e
 refine ⟨α,δ,L,A,S,u,L1,e1,fun x H1 α1 g1 A1 r1=>⟨α1,δ,L1,A1,S.mono g1,i,L2,e2,fun H2 α2 g2 A2=>⟨α2,δ,L2,A2,(S.mono g1).mono g2,j,L4,e3,fun H3 α3 g3 A3=>?_⟩⟩⟩
 exact h H3 α3 L4 u x i j z L3 Q A3 ((r1.mono g2).mono g3) e fun v H4 α4 g4 A4 r4=>q v H4 α4 (g1.trans (g2.trans (g3.trans g4))) A4 r4
noncomputable def J7(f:FE):FE:=fun δ L=>(f δ L).bind fun p=>match p.1 with | .int i=>some (.int (-i),p.2) | _=>none
theorem Kt(ha:PEF X a fa):PEF X (.UnaryOp .USub a pos) (J7 fa):=by
 refine PE.imp (Apv Alw ha) ?_
 rintro σ H Q ⟨α,δ,L,A,S,z,L3,e,q⟩
 obtain ⟨⟨u,L1⟩,e1,e⟩:=aB.mp e
 refine ⟨α,δ,L,A,S,u,L1,e1,fun x H1 α1 g1 A1 r1=>?_⟩
 cases u with
 | int i=>cases e;exact ⟨i,r1,q _ H1 α1 g1 A1 rfl⟩
 | _=>simp at e
noncomputable def Qj(u:U)(L:UH):Option Bool:=match u with
 | .non=>some false
 | .bl b=>some b
 | .int i=>some (i != 0)
 | .str y=>if Dy y.length=true then some ((y.length:Int) != 0) else none
 | .tup l=>some (!l.isEmpty)
 | .ref n=>match L[n]? with
  | some (.lst xs)=>some (!xs.isEmpty)
  | some (.ro xs)=>some (!xs.isEmpty)
  | some (.dic kvs)=>some (!kvs.isEmpty)
  | _=>none
theorem Jv{α β:Type}{l:List α}{m:List β}(h:l.length=m.length):l.isEmpty=m.isEmpty:=by
 cases l <;> cases m <;> simp_all
theorem Aka{x:V}{k:Bool}(A:Abs K H α L)(r:RepU K H α u x)(h:Qj u L=some k):Anj K x H k:=by
 cases u with
 | non=>unfold RepU at r;subst r;exact (bR h).symm
 | bl b=>unfold RepU at r;subst r;exact (bR h).symm
 | int i=>unfold RepU at r;subst r;exact (bR h).symm
 | str y=>
  unfold RepU at r;subst r
  unfold Qj at h
  simp only at h
  split at h
  ·rename_i hs;cases h;exact ⟨Fz hs,rfl⟩
  ·cases h
 | tup l=>
  unfold RepU at r
  obtain ⟨a,xs,rfl,s,r⟩:=r
  exact .inr (.inl ⟨xs,s,by rw[<- Jv r.length];exact (bR h).symm⟩)
 | ref n=>
  unfold RepU at r
  obtain ⟨a,ea,rfl⟩:=r
  unfold Qj at h
  simp only at h
  cases q:L[n]? with
  | none=>rw[q] at h;simp at h
  | some o=>
   have hr:=A.rep n a o ea q
   rw[q] at h
   cases o with
   | lst us=>obtain ⟨xs,e,r⟩:=hr;exact .inl ⟨xs,.of e,by rw[<- Jv r.length];exact (bR h).symm⟩
   | ro us=>obtain ⟨xs,e,r⟩:=hr;exact .inl ⟨xs,e.sq,by rw[<- Jv r.length];exact (bR h).symm⟩
   | dic kvs=>obtain ⟨vs,e,ek,_⟩:=hr;exact .inr (.inr ⟨vs,e,by rw[<- Jv (show kvs.length=vs.length by simpa using congrArg jS ek)];exact (bR h).symm⟩)
   | rod kvs=>simp at h
   | ins C fs=>simp at h
   | exc C fr fs=>simp at h
noncomputable def Ny(f:FE):FT:=fun δ L=>(f δ L).bind fun p=>(Qj p.1 p.2).map fun k=>(k,p.2)
theorem Jr(ha:PEF X a fa)(he:∀ whole,isTrue a X.env whole=(do let v <- whole;standAt a.pos;holding [v] (truthy v)):=by intro _;rfl):PTF X a (Ny fa):=by
 refine PT.imp (Afz ha he) ?_
 rintro σ H Q ⟨α,δ,L,A,S,z,L3,e,q⟩
 obtain ⟨⟨u,L1⟩,e1,e⟩:=aB.mp e
 obtain ⟨k,e2,e⟩:=aH.mp e
 cases e
 exact ⟨α,δ,L,A,S,u,_,e1,fun x H1 α1 g1 A1 r1=>⟨_,Aka A1 r1 e2,q H1 α1 g1 A1⟩⟩
end
inductive Fl where
 | nx (δ:UE) | rt (u:U) | bk (δ:UE) | ct (δ:UE)
abbrev FS:=UE->UH->Option (Fl×UH)
noncomputable def Post(K:aK)(D:Ends)(H:Hp)(α:List Addr)(fl:Fl)(L':UH):Prop:=match fl with
 | .nx δ'=>∀ σ' H' α',Gr H α H' α'->Abs K H' α' L'->RepS K H' α' δ' σ'->D.nx σ' H'
 | .bk δ'=>∀ σ' H' α',Gr H α H' α'->Abs K H' α' L'->RepS K H' α' δ' σ'->D.bk σ' H'
 | .ct δ'=>∀ σ' H' α',Gr H α H' α'->Abs K H' α' L'->RepS K H' α' δ' σ'->D.ct σ' H'
 | .rt u=>∀ v H' α',Gr H α H' α'->Abs K H' α' L'->RepU K H' α' u v->D.rt v H'
theorem Post.from{D:Ends}{α1:List Addr}{fl:Fl}{L':UH}(g:Gr H α H1 α1)(p:Post K D H α fl L'):Post K D H1 α1 fl L':=by
 cases fl with
 | nx δ=>exact fun σ' H' α' g'=>p σ' H' α' (g.trans g')
 | bk δ=>exact fun σ' H' α' g'=>p σ' H' α' (g.trans g')
 | ct δ=>exact fun σ' H' α' g'=>p σ' H' α' (g.trans g')
 | rt u=>exact fun v H' α' g'=>p v H' α' (g.trans g')
inductive lS(K:aK)(f:FS)(D:Ends)(σ:L2.St)(H:Hp):Prop
 | mk (α:List Addr) (δ:UE) (L:UH) (A:Abs K H α L) (S:RepS K H α δ σ) (fl:Fl) (L':UH) (e:f δ L=some (fl,L')) (q:Post K D H α fl L'):lS K f D σ H
noncomputable def PSF(X:Cx)(st:Stmt)(f:FS):Prop:=PS X st (lS X.K f)
noncomputable def V3(X:Cx)(st:List Stmt)(f:FS):Prop:=PSs X st (lS X.K f)
variable {fe:FE}
section
variable {st:Stmt}{rest:List Stmt}{f g:FS}
theorem PS.imp{t t':TS}(h:PS X st t)(hi:∀ D σ H,t' D σ H->t D σ H):PS X st t':=fun pins s σ H D I q=>h pins s σ H D I (hi D σ H q)
theorem PSs.imp{sts:List Stmt}{t t':TS}(h:PSs X sts t)(hi:∀ D σ H,t' D σ H->t D σ H):PSs X sts t':=fun pins s σ H D I q=>h pins s σ H D I (hi D σ H q)
noncomputable def Bl:FS:=fun δ L=>some (.nx δ,L)
noncomputable def Ar(f g:FS):FS:=fun δ L=>(f δ L).bind fun p=>match p.1 with | .nx δ'=>g δ' p.2 | fl=>some (fl,p.2)
theorem Bw:V3 X [] Bl:=by
 refine PSs.imp Aic ?_
 rintro D σ H ⟨α,δ,L,A,S,fl,L',e,q⟩
 cases e
 exact q σ H α (.refl _ _) A S
theorem Ah(h1:PSF X st f)(h2:V3 X rest g):V3 X (st::rest) (Ar f g):=by
 refine PSs.imp (Aew h1 h2) ?_
 rintro D σ H ⟨α,δ,L,A,S,fl,L',e,q⟩
 obtain ⟨⟨fl1,L1⟩,e1,e⟩:=aB.mp e
 refine ⟨α,δ,L,A,S,fl1,L1,e1,?_⟩
 cases fl1 with
 | nx δ1=>exact fun σ1 H1 α1 g1 A1 S1=>⟨α1,δ1,L1,A1,S1,fl,L',e,q.from g1⟩
 | rt u=>cases e;exact q
 | bk δ1=>cases e;exact q
 | ct δ1=>cases e;exact q
theorem Ao(h1:PSF X st f):V3 X [st] f:=Aia h1
noncomputable def Cf(f:FE):FS:=fun δ L=>(f δ L).map fun p=>(.rt p.1,p.2)
noncomputable def Di(f:FE):FS:=fun δ L=>(f δ L).map fun p=>(.nx δ,p.2)
noncomputable def Ao8:FS:=fun _ L=>some (.rt .non,L)
theorem Bh(he:PEF X e fe):PSF X (.Return (some e) pos) (Cf fe):=by
 refine PS.imp (Alk he) ?_
 rintro D σ H ⟨α,δ,L,A,S,fl,L',e,q⟩
 obtain ⟨⟨u,L1⟩,e1,e⟩:=aH.mp e
 cases e
 exact ⟨α,δ,L,A,S,u,_,e1,fun v H1 α1 g1 A1 r1=>q v H1 α1 g1 A1 r1⟩
theorem Dm(he:PEF X e fe)(hs:swapsWith e none pos.line X.env=pure false:=by rfl):PSF X (.Expr e pos) (Di fe):=by
 refine PS.imp (Aja he hs) ?_
 rintro D σ H ⟨α,δ,L,A,S,fl,L',e,q⟩
 obtain ⟨⟨u,L1⟩,e1,e⟩:=aH.mp e
 cases e
 exact ⟨α,δ,L,A,S,u,_,e1,fun v H1 α1 g1 A1 r1=>q σ H1 α1 g1 A1 (S.mono g1)⟩
noncomputable def B8(c:FT)(f g:FS):FS:=fun δ L=>(c δ L).bind fun p=>if p.1=true then f δ p.2 else g δ p.2
theorem B9{a b:List Stmt}{tc:FT}(hc:PTF X c tc)(ha:V3 X a f)(hb:V3 X b g):PSF X (.If c a b pos) (B8 tc f g):=by
 refine PS.imp (Apz hc ha hb) ?_
 rintro D σ H ⟨α,δ,L,A,S,fl,L',e,q⟩
 obtain ⟨⟨u,L1⟩,e1,e⟩:=aB.mp e
 refine ⟨α,δ,L,A,S,u,L1,e1,fun H1 α1 g1 A1=>?_⟩
 cases u with
 | true=>exact Aar ⟨α1,δ,L1,A1,S.mono g1,fl,L',e,q.from g1⟩
 | false=>exact Y9 ⟨α1,δ,L1,A1,S.mono g1,fl,L',e,q.from g1⟩
end
abbrev FG:=U->UE->UH->Option (UE×UH)
abbrev FGs:=List U->UE->UH->Option (UE×UH)
inductive lG(K:aK)(f:FG)(v:V)(σ:L2.St)(H:Hp)(Q:L2.St->Hp->Prop):Prop
 | mk (α:List Addr) (δ:UE) (L:UH) (u:U) (A:Abs K H α L) (S:RepS K H α δ σ) (r:RepU K H α u v) (δ':UE) (L':UH) (e:f u δ L=some (δ',L')) (q:∀ σ' H' α',Gr H α H' α'->Abs K H' α' L'->RepS K H' α' δ' σ'->Q σ' H'):lG K f v σ H Q
inductive lGs(K:aK)(f:FGs)(vs:List V)(σ:L2.St)(H:Hp)(Q:L2.St->Hp->Prop):Prop
 | mk (α:List Addr) (δ:UE) (L:UH) (us:List U) (A:Abs K H α L) (S:RepS K H α δ σ) (r:RepL K H α us vs) (δ':UE) (L':UH) (e:f us δ L=some (δ',L')) (q:∀ σ' H' α',Gr H α H' α'->Abs K H' α' L'->RepS K H' α' δ' σ'->Q σ' H'):lGs K f vs σ H Q
noncomputable def PGF(X:Cx)(e:Expr)(f:FG):Prop:=PG X e (lG X.K f)
noncomputable def Ag5(X:Cx)(es:List Expr)(f:FGs):Prop:=PGs X es (lGs X.K f)
variable {tg:Expr}
section
theorem PG.imp{t t':TG}(h:PG X e t)(hi:∀ v σ H Q,t' v σ H Q->t v σ H Q):PG X e t':=fun pins s σ H v u Q I r q=>h pins s σ H v u Q I r (hi v σ H Q q)
theorem PGs.imp{t t':TGs}(h:PGs X es t)(hi:∀ v σ H Q,t' v σ H Q->t v σ H Q):PGs X es t':=fun pins s σ H v u Q I r q=>h pins s σ H v u Q I r (hi v σ H Q q)
noncomputable def gN(i:Nat):FG:=fun u δ L=>some (δ.set i (some u),L)
theorem Az{x:Str}(hN:X.N.Nodup)(hi:X.N[i]? = some x:=by rfl)(hx:Loc X.env.scope x:=by first | exact oA rfl | exact mC rfl)(hf:X.fn x=true\/X.env.scope.names.lookup x=some .local:=by first | exact .inl rfl | exact .inr rfl):PGF X (.Name x pos) (gN i):=by
 refine PG.imp (Acw (i:=i) hN hi hx hf) ?_
 rintro v σ H Q ⟨α,δ,L,u,A,S,r,δ',L',e,q⟩
 cases e
 exact q _ H α (.refl _ _) A (S.set i r)
noncomputable def gNil:FGs:=fun us δ L=>match us with | []=>some (δ,L) | _=>none
noncomputable def gCons(f:FG)(g:FGs):FGs:=fun us δ L=>match us with | []=>none | u::r=>(f u δ L).bind fun p=>g r p.1 p.2
theorem Fw:Ag5 X [] MR.gNil:=by
 refine PGs.imp Ajo ?_
 rintro vs σ H Q ⟨α,δ,L,us,A,S,r,δ',L',e,q⟩
 cases us with
 | nil=>cases e;exact ⟨by unfold RepL at r;exact r,q σ H α (.refl _ _) A S⟩
 | cons u us=>cases e
theorem B3{f:FG}{g:FGs}(h1:PGF X e f)(h2:Ag5 X es g)(hs:(assignEach (e::es) X.env).map (·.2)=assign e X.env::(assignEach es X.env).map (·.2):=by rfl):Ag5 X (e::es) (MR.gCons f g):=by
 refine PGs.imp (Ahn h1 h2 hs) ?_
 rintro vs σ H Q ⟨α,δ,L,us,A,S,r,δ',L',e,q⟩
 cases us with
 | nil=>cases e
 | cons u us=>
  unfold RepL at r
  obtain ⟨x,xs,rfl,r1,r2⟩:=r
  obtain ⟨⟨δ1,L1⟩,e1,e⟩:=aB.mp e
  refine ⟨x,xs,rfl,α,δ,L,u,A,S,r1,δ1,L1,e1,fun σ1 H1 α1 g1 A1 S1=>?_⟩
  exact ⟨α1,δ1,L1,us,A1,S1,r2.mono g1,δ',L',e,fun σ2 H2 α2 g2 A2 S2=>q σ2 H2 α2 (g1.trans g2) A2 S2⟩
noncomputable def gTup(n:Nat)(g:FGs):FG:=fun u δ L=>match u with | .tup us=>if us.length=n then g us δ L else none | _=>none
theorem Hs{g:FGs}(hc:X.calm=true)(h:Ag5 X es g)(hn:(assignEach es X.env).length=n:=by rfl)(hst:(assignEach es X.env).findIdx? (·.1)=none:=by rfl):PGF X (.Tuple es k pos) (MR.gTup n g):=by
 refine PG.imp (Ana hc h hn hst) ?_
 rintro v σ H Q ⟨α,δ,L,u,A,S,r,δ',L',e,q⟩
 cases u with
 | tup us=>
  unfold RepU at r
  obtain ⟨a,xs,rfl,s,r⟩:=r
  unfold MR.gTup at e
  simp only at e
  split at e
  ·rename_i hl
   exact ⟨a,xs,rfl,s,by rw[<- r.length];exact hl,α,δ,L,us,A,S,r,δ',L',e,q⟩
  ·cases e
 | _=>simp[MR.gTup] at e
noncomputable def Av(fe:FE)(g:FG):FS:=fun δ L=>(fe δ L).bind fun p=>(g p.1 δ p.2).map fun q=>(.nx q.1,q.2)
theorem G3{g:FG}(he:PEF X e fe)(hg:PGF X tg g)(hs:swapsWithSole [tg] e pos.line X.env=pure false:=by rfl)(hw:swappedStores [tg] e X.env=pure none:=by rfl)(h1:(assignEach [tg] X.env).map (·.2)=[assign tg X.env]:=by rfl) :
  PSF X (.Assign [tg] e pos) (Av fe g):=by
 refine PS.imp (Ama he hg hs hw h1) ?_
 rintro D σ H ⟨α,δ,L,A,S,fl,L',e,q⟩
 obtain ⟨⟨u,L1⟩,e1,e⟩:=aB.mp e
 obtain ⟨⟨δ2,L2⟩,e2,e⟩:=aH.mp e
 cases e
 exact ⟨α,δ,L,A,S,u,L1,e1,fun v H1 α1 g1 A1 r1=>⟨α1,δ,L1,u,A1,S.mono g1,r1,δ2,_,e2,fun σ2 H2 α2 g2 A2 S2=>q σ2 H2 α2 (g1.trans g2) A2 S2⟩⟩
theorem Au{x:Str}{pos':Pos}(hN:X.N.Nodup)(he:PEF X e fe)(hi:X.N[i]? = some x:=by rfl)(hx:Loc X.env.scope x:=by first | exact oA rfl | exact mC rfl)
  (hs:swapsWith e (some (.Name x pos')) pos.line X.env=pure false:=by rfl) (hf:X.fn x=true\/X.env.scope.names.lookup x=some .local:=by first | exact .inl rfl | exact .inr rfl) :
  PSF X (.Assign [.Name x pos'] e pos) (Av fe (gN i)):=by
 refine PS.imp (Anw (i:=i) hN hi hx he hs hf) ?_
 rintro D σ H ⟨α,δ,L,A,S,fl,L',e,q⟩
 obtain ⟨⟨u,L1⟩,e1,e⟩:=aB.mp e
 obtain ⟨⟨δ2,L2⟩,e2,e⟩:=aH.mp e
 cases e
 cases e2
 exact ⟨α,δ,L,A,S,u,_,e1,fun v H1 α1 g1 A1 r1=>q _ H1 α1 g1 A1 ((S.mono g1).set i r1)⟩
end
noncomputable def Ef(L:UH)(n:Nat):Option (List U):=match L[n]? with
 | some (.lst us)=>some us
 | _=>none
noncomputable def A7(L:UH)(n:Nat):Option (List U):=match L[n]? with
 | some (.lst us)=>some us
 | some (.ro us)=>some us
 | _=>none
inductive IU where
 | seq (us:List U) | ref (n:Nat) | enm (n:Nat) | zip2 (n m:Nat) | zipT (us:List U) (m:Nat) | zipL (n:Nat) (ws:List U)
noncomputable def Lr:Option U->Option U->Option U
 | some x,some y=>some (.tup [x,y])
 | _,_=>none
noncomputable def IU.at(i:IU)(k:Nat)(L:UH):Option (Option U):=match i with
 | .seq us=>some us[k]?
 | .ref n=>match L[n]? with
  | some (.lst us)=>some us[k]?
  | some (.ro us)=>some us[k]?
  | _=>none
 | .enm n=>(A7 L n).map fun us=>(us[k]?).map fun u=>.tup [.int k,u]
 | .zip2 n m=>(A7 L n).bind fun us=>(A7 L m).map fun ws=>Lr us[k]? ws[k]?
 | .zipT us m=>(A7 L m).map fun ws=>Lr us[k]? ws[k]?
 | .zipL n ws=>(A7 L n).map fun us=>Lr us[k]? ws[k]?
noncomputable def IU.size(i:IU)(L:UH):Nat:=match i with
 | .seq us=>us.length
 | .ref n=>match L[n]? with
  | some (.lst us)=>us.length
  | some (.ro us)=>us.length
  | _=>0
 | .enm n=>match A7 L n with
  | some us=>us.length
  | none=>0
 | .zip2 n m=>match A7 L n,A7 L m with
  | some us,some ws=>min us.length ws.length
  | _,_=>0
 | .zipT us m=>match A7 L m with
  | some ws=>min us.length ws.length
  | none=>0
 | .zipL n ws=>match A7 L n with
  | some us=>min us.length ws.length
  | none=>0
abbrev FI:=UE->UH->Option (IU×UH)
noncomputable def Sl(K:aK)(J:It)(i:IU)(H:Hp)(α:List Addr):Prop:=∀ (H2:Hp) (α2:List Addr) (L2:UH),Gr H α H2 α2->Abs K H2 α2 L2->∀ k:Nat,
 (∀ u,i.at k L2=some (some u)->J.go k H2/\∀ x H3,J.yld k H2 x H3->Gr H2 α2 H3 α2/\Abs K H3 α2 L2/\RepU K H3 α2 u x)/\(i.at k L2=some none->J.stop k H2)
inductive lI(K:aK)(f:FI)(σ:L2.St)(H:Hp)(R:It->Hp->Prop):Prop
 | mk (α:List Addr) (δ:UE) (L:UH) (A:Abs K H α L) (S:RepS K H α δ σ) (i:IU) (L':UH) (e:f δ L=some (i,L')) (q:∀ J H' α',Gr H α H' α'->Abs K H' α' L'->Sl K J i H' α'->R J H'):lI K f σ H R
noncomputable def PIF(X:Cx)(tg iter:Expr)(f:FI):Prop:=PI X tg iter (lI X.K f)
variable {iter:Expr}{fi:FI}
section
variable {l:Expr}
theorem PI.imp{t t':TI}(h:PI X tg iter t)(hi:∀ σ H R,t' σ H R->t σ H R):PI X tg iter t':=fun pins s σ H R I q=>h pins s σ H R I (hi σ H R q)
theorem PI.or{t t':TI}(h:PI X tg iter t)(h':PI X tg iter t'):PI X tg iter (fun σ H R=>t σ H R\/t' σ H R):=fun pins s σ H R I q=>by
 rcases q with q | q
 ·exact h pins s σ H R I q
 ·exact h' pins s σ H R I q
noncomputable def W4(u:U)(L:UH):Option IU:=match u with
 | .tup us=>some (.seq us)
 | .ref n=>match L[n]? with
  | some (.lst _)=>some (.ref n)
  | some (.ro _)=>some (.ref n)
  | _=>none
 | _=>none
theorem Ab4(ea:α[n]? = some a):Sl K (Itl K a) (.ref n) H α:=by
 intro H2 α2 L2 g A2 k
 have ea2:=g.at ea
 have go:∀ (us:List U) (xs:List V),SqL K H2 a xs->RepL K H2 α2 us xs->(∀ ys,SqL K H2 a ys->True)->(∀ u,us[k]? = some u->(Itl K a).go k H2/\∀ x H3,(Itl K a).yld k H2 x H3->Gr H2 α2 H3 α2/\Abs K H3 α2 L2/\RepU K H3 α2 u x)/\(us[k]? = none->(Itl K a).stop k H2):=by
  intro us xs sq r _
  refine ⟨fun u eu=>?_,fun eu=>?_⟩
  ·obtain ⟨x,ex,rx⟩:=r.get eu
   refine ⟨⟨xs,x,sq,ex⟩,?_⟩
   rintro y H3 ⟨rfl,hy⟩
   have:=hy xs sq
   rw[ex] at this;cases this
   exact ⟨.refl _ _,A2,rx⟩
  ·exact ⟨xs,sq,by rw[<- r.length];exact cV.mp eu⟩
 unfold IU.at
 simp only
 cases q:L2[n]? with
 | none=>simp
 | some o=>
  have hr:=A2.rep n a o ea2 q
  cases o with
  | lst us=>
   obtain ⟨xs,e,r⟩:=hr
   obtain ⟨h1,h2⟩:=go us xs (.of e) r fun _ _=>trivial
   exact ⟨fun u eu=>h1 u (bR eu),fun eu=>h2 (bR eu)⟩
  | ro us=>
   obtain ⟨xs,e,r⟩:=hr
   obtain ⟨h1,h2⟩:=go us xs e.sq r fun _ _=>trivial
   exact ⟨fun u eu=>h1 u (bR eu),fun eu=>h2 (bR eu)⟩
  | dic kvs=>simp
  | rod kvs=>simp
  | ins C fs=>simp
  | exc C fr fs=>simp
theorem Aj5(sq:SqT K H a xs)(r:RepL K H α us xs):Sl K (Itt K a) (.seq us) H α:=by
 intro H2 α2 L2 g A2 k
 have sq2:=g.st.sqT (K:=K) sq
 have r2:=r.mono g
 refine ⟨fun u eu=>?_,fun eu=>?_⟩
 ·obtain ⟨x,ex,rx⟩:=r2.get (bR eu)
  refine ⟨⟨xs,x,sq2,ex⟩,?_⟩
  rintro y H3 ⟨rfl,hy⟩
  have:=hy xs sq2
  rw[ex] at this;cases this
  exact ⟨.refl _ _,A2,rx⟩
 ·exact ⟨xs,sq2,by rw[<- r2.length];exact cV.mp (bR eu)⟩
theorem Ah7(lo:Int)(n:Nat):Sl K (Itr lo n) (.seq ((dB n).map fun i=>U.int (lo+(i:Nat)))) H α:=by
 intro H2 α2 L2 g A2 k
 refine ⟨fun u eu=>?_,fun eu=>?_⟩
 ·have eu:=bR eu
  rw[bA] at eu
  by_cases hk:k < n
  ·rw[pI hk] at eu
   simp at eu
   refine ⟨hk,?_⟩
   rintro x H3 ⟨rfl,rfl⟩
   subst eu
   exact ⟨.refl _ _,A2,rfl⟩
  ·rw[iU (by simpa using hk)] at eu
   simp at eu
 ·have:=cV.mp (bR eu)
  show n<=k
  simpa using this
noncomputable def Bb(f:FE):FI:=fun δ L=>(f δ L).bind fun p=>(W4 p.1 p.2).map fun i=>(i,p.2)
theorem B1(h:PEF X l fe):PIF X tg l (Bb fe):=by
 refine PI.imp (PI.or (Ai5 h) (Al1 h)) ?_
 rintro σ H R ⟨α,δ,L,A,S,i,L3,e,q⟩
 obtain ⟨⟨u,L1⟩,e1,e⟩:=aB.mp e
 obtain ⟨j,e2,e⟩:=aH.mp e
 cases e
 cases u with
 | tup us=>
  cases e2
  refine .inr ⟨α,δ,L,A,S,_,_,e1,fun x H1 α1 g1 A1 r1=>?_⟩
  unfold RepU at r1
  obtain ⟨a,xs,rfl,sq,r⟩:=r1
  exact ⟨a,rfl,⟨xs,sq⟩,q _ H1 α1 g1 A1 (Aj5 sq r)⟩
 | ref n=>
  refine .inl ⟨α,δ,L,A,S,_,_,e1,fun x H1 α1 g1 A1 r1=>?_⟩
  unfold RepU at r1
  obtain ⟨a,ea,rfl⟩:=r1
  refine ⟨a,rfl,?_⟩
  unfold W4 at e2
  simp only at e2
  cases w:L1[n]? with
  | none=>simp only[w] at e2;cases e2
  | some o=>
   have hr:=A1.rep n a o ea w
   cases o with
   | lst us=>simp only[w] at e2;cases e2;obtain ⟨xs,e,r⟩:=hr;exact ⟨⟨xs,.of e⟩,q _ H1 α1 g1 A1 (Ab4 ea)⟩
   | ro us=>simp only[w] at e2;cases e2;obtain ⟨xs,e,r⟩:=hr;exact ⟨⟨xs,e.sq⟩,q _ H1 α1 g1 A1 (Ab4 ea)⟩
   | dic kvs=>simp only[w] at e2;cases e2
   | rod kvs=>simp only[w] at e2;cases e2
   | ins C fs=>simp only[w] at e2;cases e2
   | exc C fr fs=>simp only[w] at e2;cases e2
 | _=>cases e2
noncomputable def D8(lo:Int)(n:Nat):List U:=(dB n).map fun i=>U.int (lo+(i:Nat))
noncomputable def G9(g:FA):FI:=fun δ L=>(g δ L).bind fun p=>match p.1 with
 | [.int j]=>if -(2 ^ 62)<=j/\j < 2 ^ 62 then some (.seq (D8 0 j.toNat),p.2) else none
 | _=>none
noncomputable def Akk(g:FA):FI:=fun δ L=>(g δ L).bind fun p=>match p.1 with
 | [.int i,.int j]=>if (-(2 ^ 62)<=i/\i < 2 ^ 62)/\-(2 ^ 62)<=j/\j < 2 ^ 62 then some (.seq (D8 i (j - i).toNat),p.2) else none
 | _=>none
theorem RepL.one(h:RepL K H α [u] xs):∃ x,xs=[x]/\RepU K H α u x:=by
 unfold RepL at h
 obtain ⟨x,r,e,h1,h2⟩:=h
 unfold RepL at h2
 subst h2
 exact ⟨x,e,h1⟩
theorem RepL.two{w:U}(h:RepL K H α [u,w] xs):∃ x y,xs=[x,y]/\RepU K H α u x/\RepU K H α w y:=by
 unfold RepL at h
 obtain ⟨x,r,e,h1,h2⟩:=h
 obtain ⟨y,e2,h3⟩:=h2.one
 subst e2
 exact ⟨x,y,e,h1,h3⟩
theorem Ku{a:Expr}{p:Pos}(hg:Gl X "range")(hm:X.mg "range" = none)(ha:PAF X [a] g)(hs:bS [a] X.env=[(false,eval a X.env)]:=by rfl):PIF X tg (.Call (.Name "range" p) [a] [] pos) (G9 g):=by
 refine PI.imp (Aep hg hm ha hs) ?_
 rintro σ H R ⟨α,δ,L,A,S,i,L3,e,q⟩
 obtain ⟨⟨us,L1⟩,e1,e⟩:=aB.mp e
 refine ⟨α,δ,L,A,S,us,L1,e1,fun xs H1 α1 g1 A1 r1=>?_⟩
 simp only at e
 split at e
 ·rename_i _ j
  split at e
  ·rename_i hj
   cases e
   obtain ⟨x,rfl,rx⟩:=r1.one
   unfold RepU at rx
   subst rx
   exact ⟨j,rfl,hj.1,hj.2,q _ H1 α1 g1 A1 (Ah7 0 _)⟩
  ·cases e
 ·cases e
noncomputable def Ly(i:IU)(g:FG)(body:FS):Nat->Nat->UE->UH->Option (Fl×UH)
 | 0,_,_,_=>none
 | m+1,k,δ,L=>match i.at k L with
  | none=>none
  | some none=>some (.nx δ,L)
  | some (some u)=>(g u δ L).bind fun p=>(body p.1 p.2).bind fun q=>match q.1 with
   | .nx δ'=>Ly i g body m (k+1) δ' q.2
   | .ct δ'=>Ly i g body m (k+1) δ' q.2
   | .bk δ'=>some (.nx δ',q.2)
   | .rt w=>some (.rt w,q.2)
noncomputable def Fx(fi:FI)(g:FG)(body:FS):FS:=fun δ L=>(fi δ L).bind fun p=>Ly p.1 g body (p.1.size p.2+1) 0 δ p.2
inductive FI_(K:aK)(D:Ends)(H1:Hp)(α1:List Addr)(fl:Fl)(L':UH)(go:UE->UH->Option (Fl×UH))(σ2:_root_.L2.St)(H2:Hp):Prop
 | mk (α2:List Addr) (δ2:UE) (L2:UH) (g2:Gr H1 α1 H2 α2) (A2:Abs K H2 α2 L2) (S2:RepS K H2 α2 δ2 σ2) (e2:go δ2 L2=some (fl,L')) (q2:Post K D H2 α2 fl L'):FI_ K D H1 α1 fl L' go σ2 H2
theorem Es{body:List Stmt}{g:FG}{fb:FS}(hp:rC (model X.prog X.w) X.A X.env X.xe)(hc:X.calm=true)(hi:PIF X tg iter fi)(hg:PGF X tg g)(hb:V3 X body fb)
  (hs:∀ x,foldedSetIterable iter X.env x=pure x:=by intro _;rfl):PSF X (.For tg iter body [] pos) (Fx fi g fb):=by
 refine PS.imp (Aml hp hc hi hg hb hs) ?_
 rintro D σ H ⟨α,δ,L,A,S,fl,L',e,q⟩
 obtain ⟨⟨it,L1⟩,e1,e⟩:=aB.mp e
 refine ⟨α,δ,L,A,S,it,L1,e1,fun J H1 α1 g1 A1 hJ=>?_⟩
 refine ⟨fun k m=>FI_ X.K D H1 α1 fl L' (Ly it g fb m k),⟨_,α1,δ,L1,.refl _ _,A1,S.mono g1,e,q.from g1⟩,?_⟩
 rintro k m σ2 H2 ⟨α2,δ2,L2,g2,A2,S2,e2,q2⟩
 cases m with
 | zero=>cases e2
 | succ m=>
  obtain ⟨hgo,hstop⟩:=hJ H2 α2 L2 g2 A2 k
  unfold Ly at e2
  cases hat:it.at k L2 with
  | none=>rw[hat] at e2;cases e2
  | some o=>
   cases o with
   | none=>
    rw[hat] at e2
    cases e2
    exact .inl ⟨hstop hat,q2 σ2 H2 α2 (.refl _ _) A2 S2⟩
   | some u=>
    rw[hat] at e2
    obtain ⟨go,yld⟩:=hgo u hat
    obtain ⟨⟨δ3,L3⟩,e3,e2⟩:=aB.mp e2
    obtain ⟨⟨fl4,L4⟩,e4,e2⟩:=aB.mp e2
    refine .inr ⟨go,FI_ X.K D H1 α1 fl L' (Ly it g fb m (k+1)),fun σ5 H5 h5=>⟨m,gQ _,h5⟩,fun x H3 y3=>?_⟩
    obtain ⟨g3,A3,r3⟩:=yld x H3 y3
    refine ⟨α2,δ2,L2,u,A3,S2.mono g3,r3,δ3,L3,e3,fun σ4 H4 α4 g4 A4 S4=>⟨α4,δ3,L3,A4,S4,fl4,L4,e4,?_⟩⟩
    have gA:=g2.trans (g3.trans g4)
    have gB:=g3.trans g4
    cases fl4 with
    | nx δ5=>exact fun σ5 H5 α5 g5 A5 S5=>⟨α5,δ5,L4,gA.trans g5,A5,S5,e2,q2.from (gB.trans g5)⟩
    | ct δ5=>exact fun σ5 H5 α5 g5 A5 S5=>⟨α5,δ5,L4,gA.trans g5,A5,S5,e2,q2.from (gB.trans g5)⟩
    | bk δ5=>cases e2;exact fun σ5 H5 α5 g5 A5 S5=>q2 σ5 H5 α5 (gB.trans g5) A5 S5
    | rt w=>cases e2;exact fun v H5 α5 g5 A5 r5=>q2 v H5 α5 (gB.trans g5) A5 r5
noncomputable def H9(c:FT)(body:FS):Nat->UE->UH->Option (Fl×UH)
 | 0,_,_=>none
 | m+1,δ,L=>(c δ L).bind fun p=>if p.1=true then (body δ p.2).bind fun q=>match q.1 with
   | .nx δ'=>H9 c body m δ' q.2
   | .ct δ'=>H9 c body m δ' q.2
   | .bk δ'=>some (.nx δ',q.2)
   | .rt w=>some (.rt w,q.2)
  else some (.nx δ,p.2)
inductive WI_(K:aK)(D:Ends)(fl:Fl)(L':UH)(go:UE->UH->Option (Fl×UH))(σ2:_root_.L2.St)(H2:Hp):Prop
 | mk (α2:List Addr) (δ2:UE) (L2:UH) (A2:Abs K H2 α2 L2) (S2:RepS K H2 α2 δ2 σ2) (e2:go δ2 L2=some (fl,L')) (q2:Post K D H2 α2 fl L'):WI_ K D fl L' go σ2 H2
theorem Aec{body:List Stmt}{tc:FT}{fb:FS}(n:Nat)(hp:rC (model X.prog X.w) X.A X.env X.xe)(hc:PTF X c tc)(hb:V3 X body fb):PSF X (.While c body [] pos) (H9 tc fb n):=by
 refine PS.imp (Ag9 hp hc hb) ?_
 rintro D σ H ⟨α,δ,L,A,S,fl,L',e,q⟩
 refine ⟨fun m=>WI_ X.K D fl L' (H9 tc fb m),⟨n,α,δ,L,A,S,e,q⟩,?_⟩
 rintro m σ2 H2 ⟨α2,δ2,L2,A2,S2,e2,q2⟩
 cases m with
 | zero=>cases e2
 | succ m=>
  unfold H9 at e2
  obtain ⟨⟨b,L3⟩,e3,e2⟩:=aB.mp e2
  refine ⟨α2,δ2,L2,A2,S2,b,L3,e3,fun H3 α3 g3 A3=>?_⟩
  cases b with
  | false=>cases e2;exact Y9 (q2 σ2 H3 α3 g3 A3 (S2.mono g3))
  | true=>
   obtain ⟨⟨fl4,L4⟩,e4,e2⟩:=aB.mp e2
   refine Aar ⟨WI_ X.K D fl L' (H9 tc fb m),fun σ5 H5 h5=>⟨m,gQ _,h5⟩,?_⟩
   refine ⟨α3,δ2,L3,A3,S2.mono g3,fl4,L4,e4,?_⟩
   cases fl4 with
   | nx δ5=>exact fun σ5 H5 α5 g5 A5 S5=>⟨α5,δ5,L4,A5,S5,e2,q2.from (g3.trans g5)⟩
   | ct δ5=>exact fun σ5 H5 α5 g5 A5 S5=>⟨α5,δ5,L4,A5,S5,e2,q2.from (g3.trans g5)⟩
   | bk δ5=>cases e2;exact fun σ5 H5 α5 g5 A5 S5=>q2 σ5 H5 α5 (g3.trans g5) A5 S5
   | rt w=>cases e2;exact fun v H5 α5 g5 A5 r5=>q2 v H5 α5 (g3.trans g5) A5 r5
end
noncomputable def fnU(n m:Nat)(body:FS):FN:=fun us L=>if us.length=m then (body (us.map some++bW (n - us.length) none) L).bind fun p=>match p.1 with
 | .rt u=>some (u,p.2)
 | .nx _=>some (.non,p.2)
 | _=>none
 else none
variable {w:eO}{P:cT}
section
variable {mg:Str->Option aJ}{base:Heap}
theorem Fun.okF{x qual:Str}{st:Stmt}{f:Addr}{fd:cM}{N ps:List Str}{body:FS}(F:Fun K x qual st f fd)(S:FnScope N ps (An st))
  (hbody:∀ (cdv:aJ) (A:eS) (outer:List nK) (s:aN) (H:Hp) (E:XK),Room k (A.deeper (envOfC qual (An st) s.heap.objs.size f cdv))->V3 (Aam CX0 P w K mg base N qual (An st) f cdv A outer s H E).nox (Br st) body) :
  FnOk P w K mg base CX0 (k+1) f fd ps (spF K ps.length (fnU N.length ps.length body)):=by
 refine F.ok S (fun vs H Q E zz=>by obtain ⟨α,L,us,A,r,hl,_,_,_,_⟩:=zz;rw[<- r.length];exact hl) (fun cdv A outer s H vs Q E hr h=>?_)
 obtain ⟨α,L,us,Ab,r,hl,u,L',e,q⟩:=h
 refine ⟨_,hbody cdv A outer s H E hr,?_⟩
 unfold fnU at e
 rw[if_pos hl] at e
 obtain ⟨⟨fl,L1⟩,e1,e⟩:=aB.mp e
 refine ⟨α,_,L,Ab,RepS.start N r,fl,L1,e1,?_⟩
 cases fl with
 | rt w=>cases e;exact q
 | nx δ=>cases e;exact fun σ' H' α' g' A' S'=>q .non H' α' g' A' rfl
 | bk δ=>cases e
 | ct δ=>cases e
end
section
theorem Ts(h:Ef L n=some us):L[n]? = some (.lst us):=by
 unfold Ef at h
 split at h
 ·rename_i e;cases h;exact e
 ·cases h
inductive lstAt_ok_I(α:List Addr)(H:Hp)(K:aK)(n:Nat)(us:List U):Prop
 | mk (a:_) (xs:_) (h0:α[n]? = some a) (h1:H a=some (.lst xs)) (h2:RepL K H α us xs):lstAt_ok_I α H K n us
theorem Pp(A:Abs K H α L)(h:Ef L n=some us):lstAt_ok_I α H K n us:=by
 obtain ⟨a,ea,xs,e,r⟩:=A.addr (Ts h)
 exact ⟨a,xs,ea,e,r⟩
inductive seqAt_ok_I(α:List Addr)(H:Hp)(K:aK)(n:Nat)(us:List U):Prop
 | mk (a:_) (xs:_) (h0:α[n]? = some a) (h1:SqL K H a xs) (h2:RepL K H α us xs):seqAt_ok_I α H K n us
theorem Gv(A:Abs K H α L)(h:A7 L n=some us):seqAt_ok_I α H K n us:=by
 unfold A7 at h
 split at h
 ·rename_i e;cases h
  obtain ⟨a,ea,xs,e,r⟩:=A.addr e
  exact ⟨a,xs,ea,.of e,r⟩
 ·rename_i e;cases h
  obtain ⟨a,ea,xs,e,r⟩:=A.addr e
  exact ⟨a,xs,ea,e.sq,r⟩
 ·cases h
theorem Abs.setL{ys:List V}{ws:List U}(A:Abs K H α L)(h:Ef L n=some us)(ea:α[n]? = some a)(e:H a=some (.lst xs))(r:RepL K H α ws ys) :
  Gr H α (upd H a (.lst ys)) α/\Abs K (upd H a (.lst ys)) α (L.set n (.lst ws)):=by
 have g:Gr H α (upd H a (.lst ys)) α:=⟨⟨[],by simp⟩,.write e (by exact trivial) _⟩
 obtain ⟨A',_⟩:=A.put (o:=.lst ys) (u:=.lst ws) ea (Ts h) rfl rfl e (by exact trivial) ⟨ys,upd_same,r.mono g⟩
 exact ⟨g,A'⟩
theorem RepU.ref_of(A:Abs K H α L)(h:RepU K H α (.ref n) x):∃ a,α[n]? = some a/\x = .ref a:=by unfold RepU at h;exact h
end
noncomputable def Bc:S2:=fun u w L=>match u,w with
 | .int i,.int j=>some (.int (i+j),L)
 | .str a,.str b=>if Dy (a.length+b.length)=true then some (.str (a++b),L) else none
 | .tup a,.tup b=>if a.isEmpty=false/\Dy (a.length+b.length)=true then some (.tup (a++b),L) else none
 | .ref n,.ref m=>(Ef L n).bind fun a=>(Ef L m).bind fun b=>if Dy (a.length+b.length)=true then some (.ref L.length,L++[.lst (a++b)]) else none
 | _,_=>none
noncomputable def Agr(K:aK):R2:=fun x y H Q=>rI0 (fun i j=>.int (i+j)) x y H Q\/(∃ i j,x = .str i/\y = .str j/\i.length+j.length<=sizeLine/\Q (.str (i++j)) H)\/Akl K x y H Q\/Aps x y H Q
theorem C2:OpR X (fW .Add) (Agr X.K):=Amj.or (Aab.or (Aip.or Amg))
theorem C1:Ew K (Agr K) Bc:=by
 intro H α L u w x y z L' Q A ru rw e q
 unfold Bc at e
 split at e
 ·cases e
  unfold RepU at ru rw
  exact .inl ⟨_,_,ru,rw,q _ H α (.refl _ _) A rfl⟩
 ·split at e
  ·rename_i h
   cases e
   unfold RepU at ru rw
   exact .inr (.inl ⟨_,_,ru,rw,Fz h,q _ H α (.refl _ _) A rfl⟩)
  ·cases e
 ·rename_i a b
  split at e
  ·rename_i h
   cases e
   unfold RepU at ru rw
   obtain ⟨p,xs,rfl,s1,r1⟩:=ru
   obtain ⟨p2,ys,rfl,s2,r2⟩:=rw
   have e1:=r1.length
   have e2:=r2.length
   refine .inr (.inr (.inl ⟨p,p2,xs,ys,rfl,rfl,s1,s2,?_,by rw[<- e1,<- e2];exact Fz h.2,fun hy=>?_,fun hy l hl=>?_⟩))
   ·intro hx;subst hx
    cases a with
    | nil=>simp at h
    | cons _ _=>simp at e1
   ·subst hy
    have hb:b=[]:=by
     cases b with
     | nil=>rfl
     | cons _ _=>simp at e2
    subst hb
    refine q _ H α (.refl _ _) A ?_
    unfold RepU
    exact ⟨p,xs,rfl,s1,by rw[aU];exact r1⟩
   ·obtain ⟨g,A',r⟩:=A.tup (r1.append r2) hl
    exact q _ _ α g A' r
  ·cases e
 ·rename_i n m
  obtain ⟨a,ha,e⟩:=aB.mp e
  obtain ⟨b,hb,e⟩:=aB.mp e
  split at e
  ·rename_i h
   cases e
   obtain ⟨p,xs,e1,h1,r1⟩:=Pp A ha
   obtain ⟨p2,ys,e2,h2,r2⟩:=Pp A hb
   obtain ⟨p',e1',rfl⟩:=ru.ref_of A
   obtain ⟨p2',e2',rfl⟩:=rw.ref_of A
   rw[e1] at e1';cases e1'
   rw[e2] at e2';cases e2'
   refine .inr (.inr (.inr ⟨p,p2,xs,ys,rfl,rfl,h1,h2,by rw[<- r1.length,<- r2.length];exact Fz h,fun l hl=>?_⟩))
   obtain ⟨g,A',r⟩:=A.lst (r1.append r2) hl
   exact q _ _ _ g A' r
  ·cases e
 ·cases e
noncomputable def Ac2(C:Int->Int->Bool)(g:Int->Int->U):S2:=fun u w L=>match u,w with
 | .int i,.int j=>if C i j=true then some (g i j,L) else none
 | _,_=>none
theorem Ab0{C:Int->Int->Prop}{Cb:Int->Int->Bool}{g:Int->Int->V}{g':Int->Int->U}(hC:∀ i j,Cb i j=true->C i j)(hg:∀ i j H α,RepU K H α (g' i j) (g i j)):Ew K (rI C g) (Ac2 Cb g'):=by
 intro H α L u w x y z L' Q A ru rw e q
 unfold Ac2 at e
 split at e
 ·split at e
  ·rename_i h
   cases e
   unfold RepU at ru rw
   exact ⟨_,_,ru,rw,hC _ _ h,q _ H α (.refl _ _) A (hg _ _ _ _)⟩
  ·cases e
 ·cases e
noncomputable def Sm(g:Int->Int->U):S2:=fun u w L=>match u,w with
 | .int i,.int j=>some (g i j,L)
 | _,_=>none
theorem Rq{g:Int->Int->V}{g':Int->Int->U}(hg:∀ i j H α,RepU K H α (g' i j) (g i j)):Ew K (rI0 g) (Sm g'):=by
 intro H α L u w x y z L' Q A ru rw e q
 unfold Sm at e
 split at e
 ·cases e
  unfold RepU at ru rw
  exact ⟨_,_,ru,rw,q _ H α (.refl _ _) A (hg _ _ _ _)⟩
 ·cases e
noncomputable def Gq:S2:=Sm fun i j=>.int (i - j)
theorem Q8:Ew K (rI0 fun i j=>.int (i - j)) Gq:=Rq fun _ _ _ _=>rfl
noncomputable def Js(i j:Int):Bool:=(decide (-(2 ^ 64) < i)&&decide (i < 2 ^ 64)) || (decide (-(2 ^ 64) < j)&&decide (j < 2 ^ 64))
noncomputable def Bx:S2:=fun u w L=>match u,w with
 | .int i,.int j=>if Js i j=true then some (.int (i * j),L) else none
 | .str a,.int j=>if a.length<=1000/\-1000<=j/\j<=1000 then some (.str (jM a j),L) else none
 | .ref n,.int k=>(Ef L n).bind fun a=>if -1000000<=k/\k<=1000000/\Dy (a.length * k.toNat)=true then some (.ref L.length,L++[.lst (bW k.toNat a).flatten]) else none
 | _,_=>none
noncomputable def Akv:R2:=fun x y H Q=>rI CMul (fun i j=>.int (i * j)) x y H Q\/(∃ a j,x = .str a/\y = .int j/\MulOk a j/\Q (.str (jM a j)) H)\/Aor x y H Q
theorem Aax:OpR X (fW .Mult) (fun x y H Q=>∃ a j,x = .str a/\y = .int j/\MulOk a j/\Q (.str (jM a j)) H):=by
 intro pins s σ H x y v u Q I rx ry h
 obtain ⟨a,j,rfl,rfl,hok,q⟩:=h
 obtain ⟨t,rfl⟩:=rx
 obtain ⟨t',rfl⟩:=ry
 exact SB.mul hok fun t' k=>⟨.str (jM a j),H,I.tok _,⟨_,rfl⟩,q⟩
theorem Eu:OpR X (fW .Mult) Akv:=Ak6.or (Aax.or Alm)
theorem RepL.flat(h:RepL K H α us xs):∀ k:Nat,RepL K H α (bW k us).flatten (bW k xs).flatten
 | 0=>.nil
 | k+1=>by rw[fS,fS,dN,dN];exact h.append (RepL.flat h k)
theorem Et:Ew K Akv Bx:=by
 intro H α L u w x y z L' Q A ru rw e q
 unfold Bx at e
 split at e
 ·rename_i i j
  split at e
  ·rename_i h
   cases e
   unfold RepU at ru rw
   refine .inl ⟨_,_,ru,rw,?_,q _ H α (.refl _ _) A rfl⟩
   simp only[Js,oH,cL,decide_eq_true_eq] at h
   exact h
  ·cases e
 ·rename_i a j
  split at e
  ·rename_i h
   cases e
   unfold RepU at ru rw
   exact .inr (.inl ⟨_,_,ru,rw,mulOk_of 1000 1000 h.1 (by omega) (by omega) (by decide) (by decide),q _ H α (.refl _ _) A rfl⟩)
  ·cases e
 ·rename_i n k
  obtain ⟨a,ha,e⟩:=aB.mp e
  split at e
  ·rename_i h
   cases e
   obtain ⟨p,xs,e1,h1,r1⟩:=Pp A ha
   obtain ⟨p',e1',rfl⟩:=ru.ref_of A
   rw[e1] at e1';cases e1'
   unfold RepU at rw
   refine .inr (.inr ⟨p,k,xs,rfl,rw,h1,by omega,by omega,by rw[<- r1.length];exact Fz h.2.2,fun l hl=>?_⟩)
   obtain ⟨g,A',r⟩:=A.lst (r1.flat k.toNat) hl
   exact q _ _ _ g A' r
  ·cases e
 ·cases e
noncomputable def Afg(i j:Int):Prop:=0 < j/\j < 1152921504606846976
theorem O6:OpR X (fW .FloorDiv) (rI Afg fun i j=>.int (i / j)):=opI fun i j _ _ _ _ _ hc q=>by
 have h1:(0:Int) < j:=hc.1
 have h2:j < 1152921504606846976:=hc.2
 refine floordiv_int (by omega) (by rw[Int.fdiv_eq_ediv_of_nonneg i (by omega)];exact q) (.inl (PyProof.noPylong_of_log2 ?_))
 have h3:j.natAbs.log2 < 60:=(rW (by omega)).mpr (by omega)
 omega
noncomputable def Uw(i j:Int):Bool:=decide (0 < j)&&decide (j < 1152921504606846976)
noncomputable def Jl:S2:=Ac2 Uw fun i j=>.int (i / j)
theorem Q4:Ew K (rI Afg fun i j=>.int (i / j)) Jl:=Ab0 (fun i j h=>by simpa[Uw,Afg] using h) fun _ _ _ _=>rfl
noncomputable def Eo:S2:=Ac2 (fun _ j=>decide (0 < j)) fun i j=>.int (i % j)
theorem Jq:Ew K (rI (fun _ j=>0 < j) fun i j=>.int (i % j)) Eo:=Ab0 (fun i j h=>by simpa using h) fun _ _ _ _=>rfl
noncomputable def Vj(i j:Int):Bool:=decide (0<=j)&&decide (j<=1000000)&&decide (i.natAbs < 2 ^ 64)
noncomputable def H0:S2:=Ac2 Vj fun i j=>.int (i ^ j.toNat)
theorem Pt:Ew K (rI Aov fun i j=>.int (i ^ j.toNat)) H0:=Ab0 (fun i j h=>by simp[Vj] at h;exact ⟨h.1.1,h.1.2,h.2⟩) fun _ _ _ _=>rfl
noncomputable def Vg:S2:=Sm fun i j=>.bl (decide (i<=j))
noncomputable def Qk:S2:=Sm fun i j=>.bl (decide (j < i))
noncomputable def Ss:S2:=Sm fun i j=>.bl (decide (j<=i))
noncomputable def S6:S2:=Sm fun i j=>.bl (decide (i < j))
theorem Aaj:Ew K (rI0 fun i j=>.bl (decide (i<=j))) Vg:=Rq fun _ _ _ _=>rfl
theorem Aac:Ew K (rI0 fun i j=>.bl (decide (j < i))) Qk:=Rq fun _ _ _ _=>rfl
theorem Als:Ew K (rI0 fun i j=>.bl (decide (j<=i))) Ss:=Rq fun _ _ _ _=>rfl
theorem Ahh:Ew K (rI0 fun i j=>.bl (decide (i < j))) S6:=Rq fun _ _ _ _=>rfl
noncomputable def mapO{β γ:Type}(f:β->Option γ):List β->Option (List γ)
 | []=>some []
 | u::r=>(f u).bind fun d=>(mapO f r).map fun ds=>d::ds
noncomputable def toP(L:UH):Nat->U->Option sZ
 | 0,_=>none
 | _+1,.non=>some .none
 | _+1,.bl b=>some (.bool b)
 | _+1,.int i=>some (.int i)
 | _+1,.str x=>some (.str x)
 | n+1,.tup l=>(mapO (toP L n) l).map .tuple
 | n+1,.ref k=>(A7 L k).bind fun l=>(mapO (toP L n) l).map .list
variable {pins:List (Addr×Obj)}
section
variable {s:aN}
theorem Vr(ih:∀ (u:U) (x:V) (v:aJ) (d:sZ),RepU X.K H α u x->RelV x v->toP L n u=some d->∃ as,Reads s.heap v d as):∀ (l:List U) (xs:List V) (vs:List aJ) (ds:List sZ),RepL X.K H α l xs->Vals xs vs->mapO (toP L n) l=some ds->∃ as,ReadsAll s.heap vs ds as
 | [],xs,vs,ds,r,hv,e=>by
  unfold RepL at r;subst r;cases hv;cases e;exact ⟨_,.nil⟩
 | u::l,xs,vs,ds,r,hv,e=>by
  unfold RepL at r
  obtain ⟨x,xr,rfl,r1,r2⟩:=r
  cases hv with
  | cons h1 h2=>
   obtain ⟨d,e1,e⟩:=aB.mp e
   obtain ⟨dr,e2,e⟩:=aH.mp e
   subst e
   obtain ⟨as,q1⟩:=ih u x _ d r1 h1 e1
   obtain ⟨bs,q2⟩:=Vr ih l xr _ dr r2 h2 e2
   exact ⟨_,.cons q1 q2⟩
theorem Qf(I:Inv X pins σ H s)(A:Abs X.K H α L):∀ (n:Nat) (u:U) (x:V) (v:aJ) (d:sZ),RepU X.K H α u x->RelV x v->toP L n u=some d->∃ as,Reads s.heap v d as
 | 0,_,_,_,_,_,_,e=>by cases e
 | n+1,u,x,v,d,r,hv,e=>by
  cases u with
  | non=>unfold RepU at r;subst r;cases hv;cases e;exact ⟨_,.none⟩
  | bl b=>unfold RepU at r;subst r;cases hv;cases e;exact ⟨_,.bool b⟩
  | int i=>unfold RepU at r;subst r;obtain ⟨t,rfl⟩:=hv;cases e;exact ⟨_,.int i t⟩
  | str y=>unfold RepU at r;subst r;obtain ⟨t,rfl⟩:=hv;cases e;exact ⟨_,.str y t⟩
  | tup l=>
   unfold RepU at r
   obtain ⟨a,xs,rfl,sq,r⟩:=r
   cases hv
   unfold toP at e
   obtain ⟨ds,e1,e⟩:=aH.mp e
   subst e
   obtain ⟨its,hv,⟨o,h1,h2,m,h3⟩,_⟩:=I.tuple sq
   obtain ⟨as,q⟩:=Vr (Qf I A n) l xs its ds r hv e1
   exact ⟨_,.tuple h1 h2 h3 (by simpa using q)⟩
  | ref k=>
   unfold RepU at r
   obtain ⟨a,ea,rfl⟩:=r
   cases hv
   unfold toP at e
   obtain ⟨l,hl,e⟩:=aB.mp e
   obtain ⟨ds,e1,e⟩:=aH.mp e
   subst e
   obtain ⟨a',xs,ea',sq,r⟩:=Gv A hl
   rw[ea] at ea';cases ea'
   obtain ⟨its,hv,⟨o,m,h1,h2,_,h3⟩,_⟩:=I.list sq
   obtain ⟨as,q⟩:=Vr (Qf I A n) l xs its ds r hv e1
   exact ⟨_,.list h1 h2 h3 (by simpa using q)⟩
end
noncomputable def eqP(u w:U)(L:UH):Option Bool:=(toP L 8 u).bind fun d=>(toP L 8 w).bind fun e=>if fI d=true/\fI e=true then some (dJ d e) else none
noncomputable def Ai7(K:aK)(neg:Bool):R2:=fun x y H Q=>∃ α L u w b,Abs K H α L/\RepU K H α u x/\RepU K H α w y/\eqP u w L=some b/\Q (.bl (if neg then !b else b)) H
theorem Cm(hu:X.A.units+64 < cLine):OpR X (fJ .Eq) (Ai7 X.K false):=by
 intro pins s σ H x y v u Q I rx ry h
 obtain ⟨α,L,a,b,k,A,ra,rb,e,q⟩:=h
 obtain ⟨d,e1,e⟩:=aB.mp e
 obtain ⟨d2,e2,e⟩:=aB.mp e
 split at e
 ·rename_i hs
  cases e
  obtain ⟨as,q1⟩:=Qf I A 8 a x v d ra rx e1
  obtain ⟨bs,q2⟩:=Qf I A 8 b y u d2 rb ry e2
  exact eq_dataH q1 q2 hs.1 hs.2 hu ⟨.bl _,H,I,rfl,q⟩
 ·cases e
theorem Ia(hu:X.A.units+64 < cLine):OpR X (fJ .NotEq) (Ai7 X.K true):=by
 intro pins s σ H x y v u Q I rx ry h
 obtain ⟨α,L,a,b,k,A,ra,rb,e,q⟩:=h
 obtain ⟨d,e1,e⟩:=aB.mp e
 obtain ⟨d2,e2,e⟩:=aB.mp e
 split at e
 ·rename_i hs
  cases e
  obtain ⟨as,q1⟩:=Qf I A 8 a x v d ra rx e1
  obtain ⟨bs,q2⟩:=Qf I A 8 b y u d2 rb ry e2
  exact ne_dataH q1 q2 hs.1 hs.2 hu ⟨.bl _,H,I,rfl,q⟩
 ·cases e
noncomputable def A8:S2:=fun u w L=>(eqP u w L).map fun b=>(.bl b,L)
noncomputable def B2:S2:=fun u w L=>(eqP u w L).map fun b=>(.bl (!b),L)
theorem Co:Ew K (Ai7 K false) A8:=by
 intro H α L u w x y z L' Q A ru rw e q
 obtain ⟨b,e1,e⟩:=aH.mp e
 cases e
 exact ⟨α,_,u,w,b,A,ru,rw,e1,q _ H α (.refl _ _) A rfl⟩
theorem Ie:Ew K (Ai7 K true) B2:=by
 intro H α L u w x y z L' Q A ru rw e q
 obtain ⟨b,e1,e⟩:=aH.mp e
 cases e
 exact ⟨α,_,u,w,b,A,ru,rw,e1,q _ H α (.refl _ _) A rfl⟩
noncomputable def Ap0(neg:Bool):S2:=fun u w L=>match u,w with
 | .non,.non=>some (.bl (!neg),L)
 | .bl a,.bl b=>some (.bl (if neg then !(a == b) else a == b),L)
 | .int _,.non=>some (.bl neg,L)
 | .bl _,.non=>some (.bl neg,L)
 | .str _,.non=>some (.bl neg,L)
 | .tup _,.non=>some (.bl neg,L)
 | .ref _,.non=>some (.bl neg,L)
 | _,_=>none
noncomputable def isSome:U->Bool
 | .non=>false
 | _=>true
theorem RepL.atI{i:Int}(r:RepL K H α us xs)(h:L2.atI us i=some u):∃ x,L2.atI xs i=some x/\RepU K H α u x:=by
 unfold L2.atI at h ⊢
 obtain ⟨j,e1,e2⟩:=aB.mp h
 obtain ⟨x,e3,r3⟩:=r.get e2
 exact ⟨x,by rw[<- r.length,e1];exact e3,r3⟩
noncomputable def Ak:S2:=fun u w L=>match u,w with
 | .tup l,.int i=>(L2.atI l i).map fun z=>(z,L)
 | .ref n,.int i=>(A7 L n).bind fun l=>(L2.atI l i).map fun z=>(z,L)
 | .str x,.int i=>if Dy x.length=true then (L2.atI x.cps.toList i).map fun c=>(.str ⟨#[c]⟩,L) else none
 | _,_=>none
theorem Ba:Ew K (rIx K) Ak:=by
 intro H α L u w x y z L' Q A ru rw e q
 unfold Ak at e
 split at e
 ·obtain ⟨c,e1,e⟩:=aH.mp e
  cases e
  unfold RepU at ru rw
  obtain ⟨a,xs,rfl,sq,r⟩:=ru
  obtain ⟨v,e2,r2⟩:=r.atI e1
  exact .inr (.inl ⟨a,xs,_,v,rfl,rw,sq,e2,q _ H α (.refl _ _) A r2⟩)
 ·obtain ⟨l,hl,e⟩:=aB.mp e
  obtain ⟨c,e1,e⟩:=aH.mp e
  cases e
  obtain ⟨a,xs,ea,sq,r⟩:=Gv A hl
  obtain ⟨a',ea',rfl⟩:=ru.ref_of A
  rw[ea] at ea';cases ea'
  unfold RepU at rw
  obtain ⟨v,e2,r2⟩:=r.atI e1
  exact .inl ⟨a,xs,_,v,rfl,rw,sq,e2,q _ H α (.refl _ _) A r2⟩
 ·split at e
  ·rename_i hs
   obtain ⟨c,e1,e⟩:=aH.mp e
   cases e
   unfold RepU at ru rw
   exact .inr (.inr ⟨_,_,c,ru,rw,Fz hs,e1,q _ H α (.refl _ _) A rfl⟩)
  ·cases e
 ·cases e
noncomputable def Me(l:List U)(lo hi:Option Int):List U:=(l.drop (HT.sIx l.length 0 lo)).take (HT.sIx l.length l.length hi - HT.sIx l.length 0 lo)
theorem RepL.cut(r:RepL K H α us xs)(lo hi:Option Int):RepL K H α (Me us lo hi) (Xg xs lo hi):=by
 unfold Me Xg
 rw[r.length]
 exact (r.drop _).take _
noncomputable def Hz:SS:=fun u lo hi L=>match u with
 | .tup l=>if HT.sIx l.length 0 lo=0/\HT.sIx l.length l.length hi=l.length then none else some (.tup (Me l lo hi),L)
 | .ref n=>(A7 L n).map fun l=>(.ref L.length,L++[.lst (Me l lo hi)])
 | _=>none
noncomputable def Adm(K:aK):V->Option Int->Option Int->Hp->VK->Prop:=fun x lo hi H Q=>Apr K x lo hi H Q\/Aoz K x lo hi H Q
theorem P8:SlR X (Adm X.K):=Alz.or Ah6
theorem Mm:Aby K (Adm K) Hz:=by
 intro H α L u x lo hi z L' Q A ru e q
 unfold Hz at e
 split at e
 ·split at e
  ·cases e
  ·rename_i hn
   cases e
   unfold RepU at ru
   obtain ⟨a,xs,rfl,sq,r⟩:=ru
   refine .inl ⟨a,xs,rfl,sq,by rw[<- r.length];exact hn,fun p hp=>?_⟩
   obtain ⟨g,A',r'⟩:=A.tup (r.cut lo hi) hp
   exact q _ _ α g A' r'
 ·obtain ⟨l,hl,e⟩:=aH.mp e
  cases e
  obtain ⟨a,xs,ea,sq,r⟩:=Gv A hl
  obtain ⟨a',ea',rfl⟩:=ru.ref_of A
  rw[ea] at ea';cases ea'
  refine .inr ⟨a,xs,rfl,sq,fun p hp=>?_⟩
  obtain ⟨g,A',r'⟩:=A.lst (r.cut lo hi) hp
  exact q _ _ _ g A' r'
 ·cases e
noncomputable def toV:U->Option V
 | .non=>some .non
 | .bl b=>some (.bl b)
 | .int i=>some (.int i)
 | .str x=>some (.str x)
 | _=>none
theorem Aa7{y:V}(r:RepU K H α u x)(h:toV u=some y):x=y/\N9 y=true:=by
 cases u <;> simp only[toV] at h <;> first
  | (cases h;unfold RepU at r;exact ⟨r,rfl⟩)
  | cases h
theorem Vq:∀ {us:List U} {xs ys:List V},RepL K H α us xs->mapO toV us=some ys->xs=ys/\ys.all N9=true
 | [],xs,ys,r,h=>by unfold RepL at r;subst r;cases h;exact ⟨rfl,rfl⟩
 | u::us,xs,ys,r,h=>by
  unfold RepL at r
  obtain ⟨x,xr,rfl,r1,r2⟩:=r
  obtain ⟨y,e1,h⟩:=aB.mp h
  obtain ⟨yr,e2,h⟩:=aH.mp h
  subst h
  obtain ⟨rfl,h1⟩:=Aa7 r1 e1
  obtain ⟨rfl,h2⟩:=Vq r2 e2
  exact ⟨rfl,by simp[h1,h2]⟩
noncomputable def Mw(neg:Bool):S2:=fun u w L=>match w with
 | .tup l=>(toV u).bind fun x=>(mapO toV l).map fun xs=>(.bl (if neg then !inV x xs else inV x xs),L)
 | .ref n=>(A7 L n).bind fun l=>(toV u).bind fun x=>(mapO toV l).map fun xs=>(.bl (if neg then !inV x xs else inV x xs),L)
 | .str j=>match u with
  | .str i=>some (.bl (if neg then !(!(fK j i 0 j.length 1).isEmpty) else !(fK j i 0 j.length 1).isEmpty),L)
  | _=>none
 | _=>none
noncomputable def An3(K:aK)(neg:Bool):R2:=fun x y H Q=>rIn K neg x y H Q\/∃ i j,x = .str i/\y = .str j/\Q (.bl (if neg then !(!(fK j i 0 j.length 1).isEmpty) else !(fK j i 0 j.length 1).isEmpty)) H
theorem Ag1:OpR X (fJ .In) (An3 X.K false):=Aei.or Ac9
theorem Adk:OpR X (fJ .NotIn) (An3 X.K true):=Vs.or Wc
theorem Aaa(neg:Bool):Ew K (An3 K neg) (Mw neg):=by
 intro H α L u w x y z L' Q A ru rw e q
 unfold Mw at e
 split at e
 ·obtain ⟨x',e1,e⟩:=aB.mp e
  obtain ⟨xs,e2,e⟩:=aH.mp e
  cases e
  unfold RepU at rw
  obtain ⟨a,ys,rfl,sq,r⟩:=rw
  obtain ⟨rfl,f1⟩:=Aa7 ru e1
  obtain ⟨rfl,f2⟩:=Vq r e2
  exact .inl ⟨a,ys,rfl,.inr sq,f1,f2,q _ H α (.refl _ _) A rfl⟩
 ·obtain ⟨l,hl,e⟩:=aB.mp e
  obtain ⟨x',e1,e⟩:=aB.mp e
  obtain ⟨xs,e2,e⟩:=aH.mp e
  cases e
  obtain ⟨a,ys,ea,sq,r⟩:=Gv A hl
  obtain ⟨a',ea',rfl⟩:=rw.ref_of A
  rw[ea] at ea';cases ea'
  obtain ⟨rfl,f1⟩:=Aa7 ru e1
  obtain ⟨rfl,f2⟩:=Vq r e2
  exact .inl ⟨a,ys,rfl,.inl sq,f1,f2,q _ H α (.refl _ _) A rfl⟩
 ·split at e
  ·cases e
   unfold RepU at ru rw
   exact .inr ⟨_,_,ru,rw,q _ H α (.refl _ _) A rfl⟩
  ·cases e
 ·cases e
noncomputable def lenU(u:U)(L:UH):Option Nat:=match u with
 | .str y=>if Dy y.length=true then some y.length else none
 | .tup l=>some l.length
 | .ref n=>(A7 L n).map jS
 | _=>none
noncomputable def Aw:SC:=fun us L=>match us with
 | [u]=>(lenU u L).map fun (n:Nat)=>(U.int (n:Int),L)
 | _=>none
theorem Cj:Qz K (fun xs H Q=>∃ x n,xs=[x]/\Aom K x H n/\Q (.int n) H) Aw:=by
 intro H α L us xs z L' Q A r e q
 unfold Aw at e
 split at e
 ·rename_i u
  obtain ⟨n,e1,e⟩:=aH.mp e
  cases e
  obtain ⟨x,rfl,rx⟩:=r.one
  refine ⟨x,n,rfl,?_,q _ H α (.refl _ _) A rfl⟩
  cases u with
  | str y=>
   unfold lenU at e1
   simp only at e1
   split at e1
   ·rename_i hs;cases e1;unfold RepU at rx;subst rx;exact ⟨Fz hs,rfl⟩
   ·cases e1
  | tup l=>
   cases e1
   unfold RepU at rx
   obtain ⟨a,ys,rfl,sq,r2⟩:=rx
   exact .inr ⟨ys,sq,r2.length⟩
  | ref k=>
   obtain ⟨l,hl,e2⟩:=aH.mp e1
   subst e2
   obtain ⟨a,ys,ea,sq,r2⟩:=Gv A hl
   obtain ⟨a',ea',rfl⟩:=rx.ref_of A
   rw[ea] at ea';cases ea'
   exact .inl ⟨ys,sq,r2.length⟩
  | _=>cases e1
 ·cases e
noncomputable def toI:U->Option Int
 | .int i=>some i
 | _=>none
theorem Rb:∀ {us:List U} {xs:List V} {ns:List Int},RepL K H α us xs->mapO toI us=some ns->xs=ns.map V.int
 | [],xs,ys,r,h=>by unfold RepL at r;subst r;cases h;rfl
 | u::us,xs,ys,r,h=>by
  unfold RepL at r
  obtain ⟨x,xr,rfl,r1,r2⟩:=r
  obtain ⟨y,e1,h⟩:=aB.mp h
  obtain ⟨yr,e2,h⟩:=aH.mp h
  subst h
  cases u <;> simp only[toI] at e1 <;> first
   | (cases e1;unfold RepU at r1;subst r1;rw[Rb r2 e2];rfl)
   | cases e1
section
theorem Aem(hc:X.calm=true):CallR X (.builtin "sum") (fun xs H Q=>∃ (p:Addr) (ns:List Int),xs=[.ref p]/\SqL X.K H p (ns.map V.int)/\Q (.int ns.sum) H):=by
 intro pins s σ H xs us Q I r h
 obtain ⟨p,ns,rfl,hq,q⟩:=h
 obtain ⟨u,rfl,rx⟩:=Gx r
 cases rx
 obtain ⟨its,r',pl,hz⟩:=I.list hq
 have hi:pG its ns:=Th r'
 obtain ⟨m,F⟩:=I.fr
 obtain ⟨xs,hx⟩:=hi.allInts.items
 have hl':s.heap.IsList p (intItems xs):=hx ▸ pl.isList
 refine sum_intListG (I.ok.hd hc) hl' fun h' tk t' hk=>?_
 have e1:ns=xs.toList.map (·.1):=by
  rw[<- nums_intItems,<- hx]
  exact (show numsOf its.toArray.toList=ns from hi.numsOf).symm
 have e2:preSum (numAt xs) xs.size=ns.sum:=by
  rw[preSum_eq,eF (by simp),e1]
 rw[e2]
 exact ⟨.int ns.sum,H,I.kept hk,⟨_,rfl⟩,q⟩
theorem Adb(hc:X.calm=true):CallR X (.builtin "sum") (fun xs H Q=>∃ (p:Addr) (ns:List Int),xs=[.ref p]/\SqT X.K H p (ns.map V.int)/\Q (.int ns.sum) H):=by
 intro pins s σ H xs us Q I r h
 obtain ⟨p,ns,rfl,hq,q⟩:=h
 obtain ⟨u,rfl,rx⟩:=Gx r
 cases rx
 obtain ⟨its,r',pl,hz⟩:=I.tuple hq
 have hi:pG its ns:=Th r'
 obtain ⟨xs,hx⟩:=hi.allInts.items
 have hl':s.heap.IsTuple p (intItems xs):=hx ▸ pl
 refine PySem.W.ktm_sumG (I.ok.hd hc) hl' fun h' tk t' hk=>?_
 have e1:ns=xs.toList.map (·.1):=by
  rw[<- nums_intItems,<- hx]
  exact (show numsOf its.toArray.toList=ns from hi.numsOf).symm
 have e2:preSum (numAt xs) xs.size=ns.sum:=by
  rw[preSum_eq,eF (by simp),e1]
 rw[e2]
 exact ⟨.int ns.sum,H,I.kept hk,⟨_,rfl⟩,q⟩
theorem Adf(hc:X.calm=true):CallR X (.builtin "sum") (fun xs H Q=>(∃ (p:Addr) (ns:List Int),xs=[.ref p]/\SqL X.K H p (ns.map V.int)/\Q (.int ns.sum) H)\/∃ (p:Addr) (ns:List Int),xs=[.ref p]/\SqT X.K H p (ns.map V.int)/\Q (.int ns.sum) H):=(Aem hc).or (Adb hc)
end
noncomputable def Si:SC:=fun us L=>match us with
 | [.ref n]=>(A7 L n).bind fun l=>(mapO toI l).map fun ns=>(.int ns.sum,L)
 | [.tup l]=>(mapO toI l).map fun ns=>(.int ns.sum,L)
 | _=>none
inductive refs_at_I(K:aK)(H:Hp)(α:List Addr)(l:List U)(x:V):Prop
 | mk (a:_) (ys:_) (h0:x = .ref a) (h1:SqL K H a ys) (h2:RepL K H α l ys):refs_at_I K H α l x
theorem Hw(A:Abs K H α L)(hl:A7 L n=some l)(rx:RepU K H α (.ref n) x):refs_at_I K H α l x:=by
 obtain ⟨a,ys,ea,sq,r2⟩:=Gv A hl
 obtain ⟨a',ea',rfl⟩:=rx.ref_of A
 rw[ea] at ea';cases ea'
 exact ⟨a,ys,rfl,sq,r2⟩
theorem Ajf:Qz K (fun xs H Q=>(∃ (p:Addr) (ns:List Int),xs=[.ref p]/\SqL K H p (ns.map V.int)/\Q (.int ns.sum) H)\/∃ (p:Addr) (ns:List Int),xs=[.ref p]/\SqT K H p (ns.map V.int)/\Q (.int ns.sum) H) Si:=by
 intro H α L us xs z L' Q A r e q
 unfold Si at e
 split at e
 ·obtain ⟨l,hl,e⟩:=aB.mp e
  obtain ⟨ns,e1,e⟩:=aH.mp e
  cases e
  obtain ⟨x,rfl,rx⟩:=r.one
  obtain ⟨a,ys,rfl,sq,r2⟩:=Hw A hl rx
  rw[Rb r2 e1] at sq
  exact .inl ⟨a,ns,rfl,sq,q _ H α (.refl _ _) A rfl⟩
 ·obtain ⟨ns,e1,e⟩:=aH.mp e
  cases e
  obtain ⟨x,rfl,rx⟩:=r.one
  unfold RepU at rx
  obtain ⟨a,ys,rfl,sq,r2⟩:=rx
  rw[Rb r2 e1] at sq
  exact .inr ⟨a,ns,rfl,sq,q _ H α (.refl _ _) A rfl⟩
 ·cases e
noncomputable def K4:SC:=fun us L=>match us with
 | [.int i]=>some (.int (if i < 0 then -i else i),L)
 | _=>none
theorem V5:Qz K (fun xs H Q=>∃ i,xs=[.int i]/\Q (.int (if i < 0 then -i else i)) H) K4:=by
 intro H α L us xs z L' Q A r e q
 unfold K4 at e
 split at e
 ·cases e
  obtain ⟨x,rfl,rx⟩:=r.one
  unfold RepU at rx
  exact ⟨_,by rw[rx],q _ H α (.refl _ _) A rfl⟩
 ·cases e
noncomputable def K6:SC:=fun us L=>match us with
 | [.int i]=>some (.int i,L)
 | [.bl k]=>some (.int (if k then 1 else 0),L)
 | _=>none
theorem Aca:Qz K (fun xs H Q=>(∃ i,xs=[.int i]/\Q (.int i) H)\/∃ k,xs=[.bl k]/\Q (.int (if k then 1 else 0)) H) K6:=by
 intro H α L us xs z L' Q A r e q
 unfold K6 at e
 split at e
 ·cases e
  obtain ⟨x,rfl,rx⟩:=r.one
  unfold RepU at rx
  exact .inl ⟨_,by rw[rx],q _ H α (.refl _ _) A rfl⟩
 ·cases e
  obtain ⟨x,rfl,rx⟩:=r.one
  unfold RepU at rx
  exact .inr ⟨_,by rw[rx],q _ H α (.refl _ _) A rfl⟩
 ·cases e
noncomputable def Nv:SC:=fun us L=>match us with
 | [.ref n]=>(A7 L n).map fun l=>(.ref L.length,L++[.lst l])
 | [.tup l]=>some (.ref L.length,L++[.lst l])
 | _=>none
theorem Ws:Qz K (fun xs H Q=>∃ p ys,xs=[.ref p]/\(SqL K H p ys\/SqT K H p ys)/\∀ l,H l=none->Q (.ref l) (upd H l (.lst ys))) Nv:=by
 intro H α L us xs z L' Q A r e q
 unfold Nv at e
 split at e
 ·obtain ⟨l,hl,e⟩:=aH.mp e
  cases e
  obtain ⟨x,rfl,rx⟩:=r.one
  obtain ⟨a,ys,rfl,sq,r2⟩:=Hw A hl rx
  refine ⟨a,ys,rfl,.inl sq,fun p hp=>?_⟩
  obtain ⟨g,A',r'⟩:=A.lst r2 hp
  exact q _ _ _ g A' r'
 ·cases e
  obtain ⟨x,rfl,rx⟩:=r.one
  unfold RepU at rx
  obtain ⟨a,ys,rfl,sq,r2⟩:=rx
  refine ⟨a,ys,rfl,.inr sq,fun p hp=>?_⟩
  obtain ⟨g,A',r'⟩:=A.lst r2 hp
  exact q _ _ _ g A' r'
 ·cases e
noncomputable def Bj:SC:=fun us L=>match us with
 | [.ref n]=>(A7 L n).map fun l=>(.tup l,L)
 | [.tup l]=>some (.tup l,L)
 | _=>none
theorem Dk:Qz K (fun xs H Q=>∃ p ys,xs=[.ref p]/\((SqL K H p ys/\∀ l,H l=none->Q (.ref l) (upd H l (.tup ys)))\/(SqT K H p ys/\Q (.ref p) H))) Bj:=by
 intro H α L us xs z L' Q A r e q
 unfold Bj at e
 split at e
 ·obtain ⟨l,hl,e⟩:=aH.mp e
  cases e
  obtain ⟨x,rfl,rx⟩:=r.one
  obtain ⟨a,ys,rfl,sq,r2⟩:=Hw A hl rx
  refine ⟨a,ys,rfl,.inl ⟨sq,fun p hp=>?_⟩⟩
  obtain ⟨g,A',r'⟩:=A.tup r2 hp
  exact q _ _ _ g A' r'
 ·cases e
  obtain ⟨x,rfl,rx⟩:=r.one
  have rx':=rx
  unfold RepU at rx
  obtain ⟨a,ys,rfl,sq,r2⟩:=rx
  exact ⟨a,ys,rfl,.inr ⟨sq,q _ H α (.refl _ _) A rx'⟩⟩
 ·cases e
noncomputable def C5:SM:=fun u us L=>match u,us with
 | .ref n,[y]=>(Ef L n).bind fun l=>if decide (l.length < sizeLine)=true then some (.non,L.set n (.lst (l++[y]))) else none
 | _,_=>none
inductive ref_lst_I(K:aK)(H:Hp)(α:List Addr)(n:Nat)(l:List U)(x:V):Prop
 | mk (a:_) (ys:_) (h0:x = .ref a) (h1:α[n]? = some a) (h2:H a=some (.lst ys)) (h3:RepL K H α l ys):ref_lst_I K H α n l x
theorem Ij(A:Abs K H α L)(hl:Ef L n=some l)(rx:RepU K H α (.ref n) x):ref_lst_I K H α n l x:=by
 obtain ⟨a,ys,ea,sq,r2⟩:=Pp A hl
 obtain ⟨a',ea',rfl⟩:=rx.ref_of A
 rw[ea] at ea';cases ea'
 exact ⟨a,ys,rfl,ea,sq,r2⟩
theorem Hg:Tj K Ab3 C5:=by
 intro H α L u us x xs z L' Q A ru r e q
 unfold C5 at e
 split at e
 ·obtain ⟨l,hl,e⟩:=aB.mp e
  split at e
  ·rename_i hs
   cases e
   obtain ⟨y,rfl,ry⟩:=r.one
   obtain ⟨a,ys,rfl,ea,h,r2⟩:=Ij A hl ru
   obtain ⟨g,A'⟩:=A.setL hl ea h (r2.append (.cons ry .nil))
   exact ⟨a,ys,y,rfl,rfl,h,by rw[<- r2.length];exact of_decide_eq_true hs,q _ _ _ g A' rfl⟩
  ·cases e
 ·cases e
noncomputable def Jz:SM:=fun u us L=>match u,us with
 | .ref n,[.int i]=>(Ef L n).bind fun l=>if -(2 ^ 63)<=i/\i < 2 ^ 63 then (seqIndex? i l.length).bind fun k=>(l[k]?).map fun y=>(y,L.set n (.lst (l.eraseIdx k))) else none
 | _,_=>none
theorem Acm:Tj K Agl Jz:=by
 intro H α L u us x xs z L' Q A ru r e q
 unfold Jz at e
 split at e
 ·obtain ⟨l,hl,e⟩:=aB.mp e
  split at e
  ·rename_i hs
   obtain ⟨k,ek,e⟩:=aB.mp e
   obtain ⟨y,ey,e⟩:=aH.mp e
   cases e
   obtain ⟨v,rfl,rv⟩:=r.one
   unfold RepU at rv
   subst rv
   obtain ⟨a,ys,rfl,ea,h,r2⟩:=Ij A hl ru
   obtain ⟨w,ew,rw⟩:=r2.get ey
   obtain ⟨g,A'⟩:=A.setL hl ea h (r2.erase k)
   exact ⟨a,ys,_,k,w,rfl,rfl,h,hs.1,hs.2,by rw[<- r2.length];exact ek,ew,q _ _ _ g A' (rw.mono g)⟩
  ·cases e
 ·cases e
noncomputable def gSub(fo fi:FE):FG:=fun v δ L=>(fo δ L).bind fun p=>(fi δ p.2).bind fun q=>match p.1,q.1 with
 | .ref n,.int k=>(Ef q.2 n).bind fun l=>(ixN l.length k).map fun j=>(δ,q.2.set n (.lst (l.set j v)))
 | _,_=>none
theorem Ii{o i:Expr}{fo fi:FE}(ho:PEF X o fo)(hi:PEF X i fi)(ha:∀ v,assign (.Subscript o i pos) X.env v=(do let ov <- holding [v] (eval o X.env);let iv <- holding [v,ov] (eval i X.env);standAt pos;holding [v,ov,iv] (setItem ov iv v);release [v,ov,iv] []):=by intro _;rfl):PGF X (.Subscript o i pos) (MR.gSub fo fi):=by
 refine PG.imp (Ak2 ho hi Ahf ha) ?_
 rintro v σ H Q ⟨α,δ,L,u,A,S,r,δ',L',e,q⟩
 obtain ⟨⟨o',L1⟩,e1,e⟩:=aB.mp e
 obtain ⟨⟨i',L2⟩,e2,e⟩:=aB.mp e
 refine ⟨α,δ,L,A,S,o',L1,e1,fun x H1 α1 g1 A1 r1=>⟨α1,δ,L1,A1,S.mono g1,i',L2,e2,fun y H2 α2 g2 A2 r2=>?_⟩⟩
 simp only at e
 split at e
 ·obtain ⟨l,hl,e⟩:=aB.mp e
  obtain ⟨j,ej,e⟩:=aH.mp e
  cases e
  unfold RepU at r2
  subst r2
  obtain ⟨a,ys,rfl,ea,h,r3⟩:=Ij A2 hl (r1.mono g2)
  obtain ⟨g,A'⟩:=A2.setL hl ea h (r3.set ((r.mono g1).mono g2) j)
  exact ⟨a,ys,_,j,rfl,rfl,h,by rw[<- r3.length];exact ej,q _ _ _ (g1.trans (g2.trans g)) A' (((S.mono g1).mono g2).mono g)⟩
 ·cases e
noncomputable def Wb(u:U)(L:UH):Option String:=match u with
 | .non=>some "NoneType"
 | .bl _=>some "bool"
 | .int _=>some "int"
 | .str _=>some "str"
 | .tup _=>some "tuple"
 | .ref n=>match L[n]? with
  | some (.lst _)=>some "list"
  | some (.ro _)=>some "list"
  | some (.dic _)=>some "dict"
  | _=>none
noncomputable def isT(t c:String):Bool:=t == c || (t == "bool" && c == "int")
noncomputable def Vu:List String:=["NoneType","bool","int","str","tuple","list","dict"]
noncomputable def Kit(K:aK)(c:String):Prop:=∀ t∈Vu,fP K (.type t) (.type c)=some (isT t c)
theorem An5{c:String}(h1:fP K (.type "NoneType") (.type c)=some (isT "NoneType" c))(h2:fP K (.type "bool") (.type c)=some (isT "bool" c))(h3:fP K (.type "int") (.type c)=some (isT "int" c))
  (h4:fP K (.type "str") (.type c)=some (isT "str" c)) (h5:fP K (.type "tuple") (.type c)=some (isT "tuple" c)) (h6:fP K (.type "list") (.type c)=some (isT "list" c)) (h7:fP K (.type "dict") (.type c)=some (isT "dict" c)):Kit K c:=by
 intro t ht
 simp only[Vu,bH,dE,or_false] at ht
 rcases ht with rfl | rfl | rfl | rfl | rfl | rfl | rfl <;> assumption
theorem Ahp:Kit K "bool" := An5 (by with_unfolding_all rfl) (by with_unfolding_all rfl) (by with_unfolding_all rfl) (by with_unfolding_all rfl) (by with_unfolding_all rfl) (by with_unfolding_all rfl) (by with_unfolding_all rfl)
noncomputable def TyV(K:aK)(H:Hp)(x:V)(t:String):Prop:=match x with
 | .non=>t = "NoneType"
 | .bl _=>t = "bool"
 | .int _=>t = "int"
 | .str _=>t = "str"
 | .ref a=>(t = "list" /\ ∃ xs,SqL K H a xs)\/(t = "tuple" /\ ∃ xs,SqT K H a xs)\/(t = "dict" /\ ∃ kvs,H a=some (.dK kvs))
 | _=>False
theorem Ae7{c:String}:CallR X (.builtin "isinstance") (fun xs H Q=>∃ x t b,xs=[x,.ty c]/\TyV X.K H x t/\fP X.K (.type t) (.type c)=some b/\Q (.bl b) H):=by
 intro pins s σ H xs us Q I r h
 obtain ⟨x,t,b,rfl,ty,e,q⟩:=h
 obtain ⟨u,w',rfl,rx,ry⟩:=Afh r
 cases ry
 have fin:∀ tk,EP X pins σ Q (.bool b) { s with toks:=tk }:=fun tk=>⟨.bl b,H,I.tok _,rfl,q⟩
 cases x with
 | non=>cases ty;exact Ka I rx (.non) e fin
 | bl y=>cases ty;exact Ka I rx (.bl y) e fin
 | int y=>cases ty;exact Ka I rx (.int y) e fin
 | str y=>cases ty;exact Ka I rx (.str y) e fin
 | ref a=>
  cases (show u=eQ a from rx)
  rcases ty with ⟨rfl,ys,sq⟩ | ⟨rfl,ys,sq⟩ | ⟨rfl,kvs,ea⟩
  ·obtain ⟨its,_,⟨o,n,h1,h2,_⟩,_⟩:=I.list sq
   exact dX mQ I.kIn ⟨o,h1,h2⟩ e (fun z=>nomatch z) fin
  ·obtain ⟨its,_,⟨o,h1,h2,_⟩,_⟩:=I.tuple sq
   exact dX pU I.kIn ⟨o,h1,h2⟩ e (fun z=>nomatch z) fin
  ·exact Ka I rx (.dK ea) e fin
 | byt y=>cases ty
 | flt y=>cases ty
 | ty y=>cases ty
theorem Ado{t:String}(A:Abs K H α L)(r:RepU K H α u x)(h:Wb u L=some t):TyV K H x t/\t∈Vu:=by
 cases u with
 | non=>unfold RepU at r;subst r;cases h;exact ⟨rfl,by decide⟩
 | bl b=>unfold RepU at r;subst r;cases h;exact ⟨rfl,by decide⟩
 | int i=>unfold RepU at r;subst r;cases h;exact ⟨rfl,by decide⟩
 | str y=>unfold RepU at r;subst r;cases h;exact ⟨rfl,by decide⟩
 | tup l=>unfold RepU at r;obtain ⟨a,xs,rfl,sq,_⟩:=r;cases h;exact ⟨.inr (.inl ⟨rfl,xs,sq⟩),by decide⟩
 | ref n=>
  unfold RepU at r
  obtain ⟨a,ea,rfl⟩:=r
  unfold Wb at h
  simp only at h
  split at h
  ·rename_i e;cases h;obtain ⟨xs,h,_⟩:=A.rep n a _ ea e;exact ⟨.inl ⟨rfl,xs,.of h⟩,by decide⟩
  ·rename_i e;cases h;obtain ⟨xs,h,_⟩:=A.rep n a _ ea e;exact ⟨.inl ⟨rfl,xs,h.sq⟩,by decide⟩
  ·rename_i e;cases h;obtain ⟨xs,h,_⟩:=A.rep n a _ ea e;exact ⟨.inr (.inr ⟨rfl,xs,h⟩),by decide⟩
  ·cases h
noncomputable def Aj1(c:String)(f:FE):FE:=fun δ L=>(f δ L).bind fun p=>(Wb p.1 p.2).map fun t=>(.bl (isT t c),p.2)
theorem Anf{p p2:Pos}{cn:Str}{c:String}(hk:Kit X.K c)(he:PEF X e fe)(hg:Gl X "isinstance")(hm:X.mg "isinstance" = none)(hg2:Gl X cn)(hm2:X.mg cn=none)(hv2:gC cn=some (.type c))
  (hn:cn ≠ "__name__" := by decide) (hdb:(cn == ("__debug__" : Str))=false:=by decide)
  (hs:bS [e,.Name cn p2] X.env=(false,eval e X.env)::bS [.Name cn p2] X.env:=by rfl) (hs2:bS [.Name cn p2] X.env=(false,eval (.Name cn p2) X.env)::bS [] X.env:=by rfl)
  (hpl:(backTo pos (bS [.Name cn p2] X.env)).any (·.1)=false:=by rfl):PEF X (.Call (.Name "isinstance" p) [e,.Name cn p2] [] pos) (Aj1 c fe):=by
 refine PE.imp (Yg (Ae7 (c:=c)) hg hm (by decide +kernel) (Wa he (Wa (Aiy hg2 hm2 hv2 (v:=.ty c) rfl hn hdb) Agf hs2) hs) (by decide) (by decide) hs hpl) ?_
 rintro σ H Q ⟨α,δ,L,A,S,z,L3,e,q⟩
 obtain ⟨⟨u,L1⟩,e1,e⟩:=aB.mp e
 obtain ⟨t,e2,e⟩:=aH.mp e
 cases e
 refine ⟨α,δ,L,A,S,u,_,e1,fun x H1 α1 g1 A1 r1=>?_⟩
 obtain ⟨h1,h2⟩:=Ado A1 r1 e2
 exact ⟨x,t,_,rfl,h1,hk t h2,q _ H1 α1 g1 A1 rfl⟩
theorem Al7{F:FN}{ns:List Int}{E:XK}(ho:Ang H)(hS:SqL K H a (ns.map V.int))(h:∃ L',F [.ref 0] [.ro (ns.map U.int)]=some (.bl true,L')):spF K 1 F [.ref a] H (fun v _=>v = .bl true) E:=by
 obtain ⟨L',e⟩:=h
 have ro:RO K H a (ns.map V.int):=by
  rcases hS with (q | ⟨o,q⟩) | q
  ·rcases ho a with z | ⟨o,xs,z⟩
   ·rw[z] at q;cases q
   ·rw[z] at q;cases q
  ·exact .inl ⟨o,q⟩
  ·exact .inr q
 refine ⟨[a],[.ro (ns.map U.int)],[.ref 0],⟨rfl,fun i j b o o' e1 e2 e3 e4=>?_,fun i b o e1 e2=>?_⟩,.cons ?_ .nil,rfl,.bl true,L',e,fun v H' α' _ _ r=>r⟩
 ·cases i with
  | zero=>cases j with
   | zero=>exact .inl rfl
   | succ j=>simp at e2
  | succ i=>simp at e1
 ·cases i with
  | zero=>simp at e1 e2;subst e1;subst e2;exact ⟨_,ro,RepL.ints ns⟩
  | succ i=>simp at e1
 ·unfold RepU;exact ⟨a,rfl,rfl⟩
theorem Oq(env:nK):∀ (names:List (Str×nG)) (cs:List (Str×Addr)),(∀ y∈names,y.2 = .free->∃ c,env.cells.lookup y.1=some c)->(∀ x c,cs.lookup x=some c->env.cells.lookup x=some c) ->
  ∃ cl:List (Str×Addr),(forIn names cs fun (x:Str×nG) r=>if (x.2 == iR)=true then do let c <- cellOf env x.1;pure (iQ ((x.1,c)::r)) else pure (iQ r):Sem (List (Str×Addr)))=pure cl /\
   (∀ x c,cl.lookup x=some c->env.cells.lookup x=some c)/\(∀ y∈names,y.2 = .free->∃ c,cl.lookup y.1=some c)/\∀ x,(∃ c,cs.lookup x=some c)->∃ c,cl.lookup x=some c
 | [],cs,_,h2=>⟨cs,rfl,h2,(fun _ h=>nomatch h),fun _ h=>h⟩
 | (n,k)::r,cs,h1,h2=>by
  cases hk:k == iR with
  | true=>
   have hk':k = .free:=by simpa using hk
   obtain ⟨c,hc⟩:=h1 (n,k) (aX ..) hk'
   have look:∀ x c',List.lookup x ((n,c)::cs)=some c'->env.cells.lookup x=some c':=fun x c' e=>by
    rw[dA] at e
    cases hx:x == n with
    | true => rw [hx] at e; simp at e; subst e; have : x = n := by simpa using hx
              rw[this];exact hc
    | false=>rw[hx] at e;exact h2 x c' e
   obtain ⟨cl,e,p1,p2,p3⟩:=Oq env r ((n,c)::cs) (fun y hy=>h1 y (aT _ hy)) look
   refine ⟨cl,?_,p1,fun y hy hf=>?_,fun x hx=>?_⟩
   ·rw[lB]
    have e0:(cellOf env n:Sem Addr)=pure c:=by unfold cellOf;rw[hc]
    simp only[hk,if_true,e0]
    exact e
   ·rcases bH.mp hy with rfl | hy
    ·exact p3 n ⟨c,by simp⟩
    ·exact p2 y hy hf
   ·refine p3 x ?_
    rw[dA]
    cases hx':x == n with
    | true=>exact ⟨c,rfl⟩
    | false=>exact hx
  | false=>
   obtain ⟨cl,e,p1,p2,p3⟩:=Oq env r cs (fun y hy=>h1 y (aT _ hy)) h2
   refine ⟨cl,?_,p1,fun y hy hf=>?_,p3⟩
   ·rw[lB]
    simp only[hk,bX,if_false]
    exact e
   ·rcases bH.mp hy with rfl | hy
    ·rw[show k=iR from hf] at hk;cases hk
    ·exact p2 y hy hf
variable {scope:nF}{env:nK}
theorem T6(h:∀ y∈scope.names,y.2 = .free->∃ c,env.cells.lookup y.1=some c) :
  ∃ cl,closureFor scope env=pure cl/\(∀ x c,cl.lookup x=some c->env.cells.lookup x=some c)/\∀ y∈scope.names,y.2 = .free->∃ c,cl.lookup y.1=some c:=by
 obtain ⟨cl,e,p1,p2,_⟩:=Oq env scope.names [] h (fun x c e=>by simp at e)
 refine ⟨cl,?_,p1,p2⟩
 unfold closureFor
 show (forIn scope.names [] _ >>= fun cs=>pure cs)=pure cl
 have:(forIn scope.names ([]:List (Str×Addr)) (fun (x:Str×nG) (r:List (Str×Addr))=>if (x.2 == iR)=true then do let c <- cellOf env x.1;pure (iQ ((x.1,c)::r)) else pure (iQ r)):Sem (List (Str×Addr))) >>= (fun cs=>pure cs)=pure cl:=by rw[e];rfl
 exact this
noncomputable def blk(X:Cx)(scope:nF)(cl:List (Str×Addr))(C:Addr)(N':List Str)(s2:aN)(H2:Hp)(fp:List Addr)(pins:List (Addr×Obj)):Cx:=
 { X with env:=compEnvC scope cl C X.env,N:=N',s₀:=s2,H₀:=H2,outer:=X.stack,ex:=fp,fn:=fun _=>false,pn:=X.pn++pins,xe:=fun _ _=>False }
theorem HOk.adopt{h:Heap}(x:HOk P w H h)(hn:H a=none)(new:ObjOk P w (upd H a o) h a o):HOk P w (upd H a o) h:=fun b u e=>by
 by_cases hb:b=a
 ·subst hb;rw[upd_same] at e;cases e;exact new
 ·rw[Bv hb] at e
  exact (x b u e).stay (fun c v _ q=>q) (fun c q=>by rw[Bv (B6 q hn)];exact q) fun c xs q=>by rw[Bv (B6 q hn)];exact q
theorem Un.adopt{fs ex:List Addr}{h h1:Heap}(u:Un fs ex H H1 h h1)(hn:H1 a=none)(ha:h.get? a=none):Un fs ex H (upd H1 a o) h h1 where
 keep:=u.keep
 slot:=u.slot
 free:=fun b ob q n hx=>by
  have:b≠a:=fun z=>by rw[z,ha] at q;cases q
  rw[Bv this];exact u.free b ob q n hx
 there:=u.there
 tups:=fun b xs q=>by have q':=u.tups b xs q;rw[Bv (B6 q' hn)];exact q'
 frzs:=fun b ob xs q=>by have q':=u.frzs b ob xs q;rw[Bv (B6 q' hn)];exact q'
 tbls:=fun b ps q=>by
  obtain ⟨m,q'⟩:=u.tbls b ps q
  exact ⟨m,by rw[Bv (B6 q' hn)];exact q'⟩
structure CompSc(X:Cx)(scope:nF)(N':List Str)(ix:List (Option Nat)):Prop where
 kind:scope.kind = .function
 cell:(scope.names.all fun y=>y.2 != .cell)=true
 loc:(scope.names.all fun y=>y.2 != .local || scope.names.lookup y.1 == some .local)=true
 free:(scope.names.all fun y=>y.2 != .free || (X.env.kindOf y.1 == some .cell || X.env.kindOf y.1 == some .free))=true
 ixs:((N'.zip ix).all fun p=>match p.2 with | none=>true | some i=>(X.N[i]? == some p.1)&&(scope.names.lookup p.1 == some .free))=true
 len:N'.length=ix.length
noncomputable def inner(ix:List (Option Nat))(σ:L2.St):L2.St:=ix.map fun o=>o.bind fun i=>(σ[i]?).join
noncomputable def Afj(J:It)(g:TG)(tt:TT)(te:TE)(σ':L2.St)(H:Hp)(Fin:List V->Hp->Prop):Prop:=∃ W:Nat->Nat->List V->L2.St->Hp->Prop,(∃ m,W 0 m [] σ' H)/\∀ i m acc σ1 H1,W i m acc σ1 H1 ->
 (J.stop i H1/\Fin acc H1)\/(J.go i H1/\∀ x H3,J.yld i H1 x H3->g x σ1 H3 fun σ2 H4=>tt σ2 H4 fun b H5=>
  if b=true then te σ2 H5 fun y H6=>acc.length < sizeLine/\∃ m',m' < m/\W (i+1) m' (acc++[y]) σ2 H6 else ∃ m',m' < m/\W (i+1) m' acc σ2 H5)
variable {N':List Str}{ix:List (Option Nat)}{s2:aN}{cl:List (Str×Addr)}{fp:List Addr}
section
theorem Jk{β:Type}{x:Str}{v:β}:∀ {l:List (Str×β)},l.lookup x=some v->(x,v)∈l
 | [],h=>by simp at h
 | (n,k)::r,h=>by
  rw[dA] at h
  cases hx:x == n with
  | true => rw [hx] at h; simp at h; have : x = n := by simpa using hx
            subst this;subst h;exact aX ..
  | false=>rw[hx] at h;exact aT _ (Jk h)
theorem Jg{env:nK}{x:Str}:∀ {names:List (Str×nG)} {k:nG},(names.map fun (n,k)=>if (k == iR&&env.scope.kind == .function&&env.kindOf n == some .cell) then (n,pM) else (n,k)).lookup x=some k ->
  names.lookup x=some k\/(names.lookup x=some .free/\k = .cell)
 | [],k,h=>by simp at h
 | (n,k')::r,k,h=>by
  have ih:=@Jg env x r k
  rw[aL] at h
  cases hx:x == n with
  | true=>
   rw[dA,hx]
   simp only at h ⊢
   split at h
   ·rename_i hc
    rw[dA,hx] at h
    simp at h
    simp only[cL] at hc
    have:k' = .free:=by simpa using hc.1.1
    subst this
    exact .inr ⟨rfl,h.symm⟩
   ·rw[dA,hx] at h
    exact .inl h
  | false=>
   rw[dA,hx]
   simp only at h ⊢
   split at h
   ·rw[dA,hx] at h;exact ih h
   ·rw[dA,hx] at h;exact ih h
theorem Ig{env:nK}{x:Str}:∀ {names:List (Str×nG)},names.lookup x=some .free ->
  (names.map fun (n,k)=>if (k == iR&&env.scope.kind == .function&&env.kindOf n == some .cell) then (n,pM) else (n,k)).lookup x=some .free\/(names.map fun (n,k)=>if (k == iR&&env.scope.kind == .function&&env.kindOf n == some .cell) then (n,pM) else (n,k)).lookup x=some .cell
 | [],h=>by simp at h
 | (n,k')::r,h=>by
  have ih:=@Ig env x r
  rw[aL]
  cases hx:x == n with
  | true=>
   rw[dA,hx] at h
   simp at h
   subst h
   simp only
   split
   ·right;rw[dA,hx]
   ·left;rw[dA,hx]
  | false=>
   rw[dA,hx] at h
   have:=ih h
   simp only
   split
   ·rw[dA,hx];exact this
   ·rw[dA,hx];exact this
theorem Ael(S:CompSc X scope N' ix)(hcalm:X.calm=true)(I2:Inv X pins σ H2 s2)(hcl:∀ x c,cl.lookup x=some c->X.env.cells.lookup x=some c)(hcl2:∀ y∈scope.names,y.2 = .free->∃ c,cl.lookup y.1=some c)
  (f2:∀ b∈fp,Kn X pins H2 b) (hfp:∀ b∈fp,b < s2.heap.objs.size) {C:Addr} {h4:Heap} {m:Str->Option aJ} {t4:Nat} (hC:s2.heap.objs.size<=C) (hns:h4.Ns C m) (keep:∀ b o,s2.heap.get? b=some o->h4.get? b=some o) :
  Inv (blk X scope cl C N' s2 H2 fp pins) [] (inner ix σ) H2 { s2 with heap:=h4,toks:=t4 }:=by
 have hkindC:(relabel scope X.env).kind = .function:=S.kind
 have ok:(blk X scope cl C N' s2 H2 fp pins).Ok:=
  { mod:=I2.ok.mod
    kind:=hkindC
    glob:=I2.ok.glob
    blt:=I2.ok.blt
    above:=hC
    inj:=fun x y c e1 e2=>I2.ok.inj x y c (hcl x c e1) (hcl y c e2)
    has:=fun x h=>by
     have h':(relabel scope X.env).names.lookup x=some .cell\/(relabel scope X.env).names.lookup x=some .free:=h
     have hfree:scope.names.lookup x=some .free:=by
      rcases h' with h' | h'
      ·rcases Jg h' with q | ⟨q,_⟩
       ·have:=cF.mp S.cell _ (Jk q)
        simp at this
       ·exact q
      ·rcases Jg h' with q | ⟨q,z⟩
       ·exact q
       ·cases z
     exact hcl2 _ (Jk hfree) rfl
    cab:=fun x c h=>by cases h
    hd:=fun _=>I2.ok.hd hcalm
    frames:=I2.ok.frames
    stk:=.inl rfl
    exf:=fun b hb=>⟨bV (bL (hfp b hb) hC),fun x c e=>(f2 b hb).2.2.2.2.1 x c (hcl x c e)⟩
    bs:=fun b o e=>I2.bs b o e
    bsz:=cJ I2.ok.bsz I2.sz
    noex:=fun b o e hb=>by
     rcases (f2 b hb).2.2.2.1 with z | z
     ·exact I2.ok.noex b o e z
     ·exact absurd (bL (aV (I2.ok.bs b o e).1) z) (eJ _)
    exfs:=fun b hb z=>by
     rcases bH.mp (I2.stkSub b z) with q | q
     ·exact (f2 b hb).2.1 q
     ·exact (f2 b hb).2.2.1 q
    funs:=I2.stack
    frf:=I2.stkFree }
 obtain ⟨m0,hn0,hl0⟩:=id I2.loc
 refine ⟨ok,rfl,I2.bare,Un.kept keep,⟨m,hns,fun j x v e1 e2 e3=>?_⟩,fun x c e=>?_,I2.hok.fresh hC,fun x c e=>I2.freeC x c (hcl x c e),fun p hp=>?_,I2.hok.kept keep,?_⟩
 ·-- a name that the block Kh along
  have e1':N'[j]? = some x:=e1
  have e2':(inner ix σ)[j]? = some (some v):=e2
  unfold inner at e2'
  rw[bA] at e2'
  cases hx:ix[j]? with
  | none=>rw[hx] at e2';simp at e2'
  | some o=>
   rw[hx] at e2'
   cases o with
   | none=>simp at e2'
   | some i=>
    simp at e2'
    have hz:(x,some i)∈N'.zip ix:=aW (i:=j) (by rw[List.getElem?_zip_eq_some];exact ⟨e1',hx⟩)
    have hz':=cF.mp S.ixs _ hz
    simp only[cL,beq_iff_eq] at hz'
    obtain ⟨hXN,hfr⟩:=hz'
    have hσ:σ[i]? = some (some v):=by
     cases q:σ[i]? with
     | none=>rw[q] at e2';simp at e2'
     | some o=>rw[q] at e2';simp at e2';rw[e2']
    have hk:=cF.mp S.free _ (Jk hfr)
    simp at hk
    have hvis:Vis X.env.scope x:=by
     rcases hk with q | q
     ·exact .inr (.inl q)
     ·exact .inr (.inr q)
    obtain ⟨u,r,look⟩:=hl0 i x v hXN hσ hvis
    rcases look with ⟨q,_⟩ | ⟨_,c,ec,hc⟩
    ·rcases hk with z | z
     ·rw[z] at q;cases q
     ·rw[z] at q;cases q
    ·obtain ⟨c',ec'⟩:=hcl2 _ (Jk hfr) rfl
     have:c'=c:=by have:=hcl x c' ec';rw[ec] at this;cases this;rfl
     subst this
     refine ⟨u,r,.inr ⟨?_,c',ec',?_⟩⟩
     ·rcases Ig (env:=X.env) hfr with q | q
      ·exact .inr q
      ·exact .inl q
     ·obtain ⟨oc,ho,hd⟩:=hc
      exact ⟨oc,keep _ _ ho,hd⟩
 ·obtain ⟨v,oc,ho,hd⟩:=I2.cell x c (hcl x c e)
  exact ⟨v,oc,keep _ _ ho,hd⟩
 ·have hp':p∈X.pn++pins:=by simpa[blk] using hp
  obtain ⟨q1,q2,q3,q4,q5⟩:=I2.pin p hp'
  refine ⟨keep _ _ q1,q2,bV (bL (aV q1) hC),fun z=>?_,q5⟩
  rcases bH.mp (I2.stkSub p.1 z) with q | q
  ·exact q3 q
  ·exact q4 q
 ·show (inner ix σ).length=N'.length
  rw[S.len];simp[inner]
end
variable {X':Cx}{tt:TT}{elt:Expr}{ifs:List Expr}{te:TE}
section
noncomputable def U3(X':Cx)(ifs:List Expr)(tt:TT):Prop:=∀ (pins:List (Addr×Obj)) (s:aN) (σ:L2.St) (H:Hp) (Q:Bool->Hp->Prop) (E:aJ->aN->Prop),Inv X' pins σ H s->tt σ H Q->(∀ e s,X'.xe e s->E e s) ->
 wpAny (model X'.prog X'.w) X'.A (forIn ifs true fun c r=>if r=true then do let ok <- isTrue c X'.env (eval c X'.env);pure (iQ ok) else pure (iQ r)) (TP X' pins σ Q) E s
noncomputable def Aij:TT:=fun _ H Q=>Q true H
theorem Uz:U3 X' [] Aij:=fun pins s σ H Q E I h _=>wpAny_tests_nil ⟨H,I,h⟩
theorem Uk(h:PT X' c tt):U3 X' [c] tt:=fun pins s σ H Q E I q hE=>wpAny_tests_one (fO (h pins s σ H Q I q) (fun _ _ z=>z) hE)
noncomputable def Ed(its:List aJ)(n:Nat):Obj:={ cls:=.type "list",data:=.seq its.toArray n }
theorem Ade{it D C:Addr}{J:It}{tn:Nat->Heap->Prop}{g:TG}{Fin:List V->Hp->Prop}{R:sR->aN->Prop}
  (hX:X'.A=X.A/\X'.prog=X.prog/\X'.w=X.w/\X'.K=X.K/\X'.calm=true/\∀ e s,¬ X'.xe e s) (T:Turn X.prog X.w X.K tg J fp it tn) (hg:PG X' tg g) (ht:U3 X' ifs tt) (he:PE X' elt te)
  (hD1:s2.heap.objs.size<=D) (hDC:D≠C) (hC:s2.heap.objs.size<=C) (hfp:∀ b∈fp,Kn X' [] H2 b/\b≠D) (hDf:∀ H,H D=none->Kn X' [] H D)
  {s:aN} {σ1:L2.St} {H1:Hp} {n0:Nat} (I:Inv X' [(D,Ed [] n0)] σ1 H1 s) (st:tn 0 s.heap) (fr:∀ b∈fp,H1 b=none) (hloop:Afj J g tt te σ1 H1 Fin)
  (hR:∀ (s':aN) (σ':L2.St) (H':Hp) (acc:List V) (its:List aJ) (n:Nat),Inv X' [(D,Ed its n)] σ' H' s'->Vals acc its->acc.length<=sizeLine->Fin acc H'->R (.ok .next) s') :
  nT (model X.prog X.w) X.A (.compLoop (.ListComp elt [⟨tg,iter,ifs,0⟩] scope pos) 0 (.ref it) (.ref D) X'.env) R s:=by
 obtain ⟨W,⟨m0,w0⟩,turn⟩:=hloop
 obtain ⟨hXA,hXp,hXw,hXK,hXc,hxe⟩:=hX
 have hfpo:∀ (o:Obj) (H:Hp),(∀ b∈fp,H b=none)->∀ b∈fp,Kn X' [(D,o)] H b:=fun o H hn b hb=>by
  obtain ⟨⟨_,q1,q2,q3,q4,q5⟩,q6⟩:=hfp b hb
  refine ⟨hn b hb,q1,q2,q3,q4,fun p hp=>?_⟩
  rcases bP.mp hp with z | z
  ·exact q5 p (dD _ z)
  ·have:p=(D,o):=by simpa using z
   rw[this];exact fun z=>q6 z.symm
 refine codeAny_loop rfl (fun n s=>∃ i acc its k σ1 H1,Inv X' [(D,Ed its k)] σ1 H1 s/\Vals acc its/\acc.length<=sizeLine/\tn i s.heap/\(∀ b∈fp,H1 b=none)/\W i n acc σ1 H1) (fun n s hI=>?_) m0 ⟨0,[],[],n0,σ1,H1,I,.nil,eD _,st,fr,w0⟩
 show wpAny _ X.A ((compTurn (.ListComp elt [⟨tg,iter,ifs,0⟩] scope pos) 0 (.ref it) (.ref D) X'.env).onRaise (fun x=>do noteFrame x X'.env;theTreesLotGoes x)) _ _ s
 refine wpAny_noted ?_
 rw[compTurn_list]
 obtain ⟨i,acc,its,k,σ1,H1,I,hv,hz,st,fr,w1⟩:=hI
 refine aD (kQ (aD ?_))
 rcases turn i n acc σ1 H1 w1 with ⟨stop,fin⟩ | ⟨go,step⟩
 ·have h:=T.done X' hXp hXw hXK hXc i _ s σ1 H1 (notedBy (model X.prog X.w) X.A X'.env fun e s'=>R (.error e) s') I (hfpo _ H1 fr) st stop
  rw[hXA] at h
  refine thn h fun r s4 zz=>?_
  obtain ⟨hr,I4⟩:=zz
  subst hr
  exact aM (hR s4 σ1 H1 acc its k I4 hv hz fin)
 ·have h:=T.item X' hXp hXw hXK hXc i _ s σ1 H1 (notedBy (model X.prog X.w) X.A X'.env fun e s'=>R (.error e) s') I (hfpo _ H1 fr) st go
  rw[hXA] at h
  refine thn h fun r s4 zz=>?_
  obtain ⟨u,hr,h4⟩:=zz
  subst hr
  refine aD (thn h4 fun _ s5 zz=>?_)
  obtain ⟨x,H5,I5,r5,y5,st5,fr5⟩:=zz
  have I5':=I5.pinned (hfpo _ H5 fr5) (T.obj _ _ st5)
  have hg5:=hg _ s5 σ1 H5 x u _ I5' r5 (step x H5 y5)
  rw[hXp,hXw,hXA] at hg5
  refine aD (fO hg5 (fun _ s6 zz=>?_) fun e s z=>absurd z (hxe e s))
  obtain ⟨σ6,H6,I6,q6⟩:=zz
  have ht6:=ht _ s6 σ6 H6 _ (notedBy (model X.prog X.w) X.A X'.env fun e s'=>R (.error e) s') I6 q6 (fun e s z=>absurd z (hxe e s))
  rw[hXp,hXw,hXA] at ht6
  refine aD (thn ht6 fun b s7 zz=>?_)
  obtain ⟨H7,I7,q7⟩:=zz
  have back:∀ {σ8:L2.St} {H8:Hp} {s8:aN},Inv X' ([(D,Ed its k)]++Td fp s5.heap) σ8 H8 s8->tn (i+1) s8.heap/\(∀ b∈fp,H8 b=none)/\s8.heap.get? D=some (Ed its k)/\H8 D=none:=fun {σ8 H8 s8} I8=>by
   refine ⟨T.keep _ _ _ st5 fun b hb o e=>(I8.pin (b,o) (bM _ (bM _ (Lg hb e)))).1,fun b hb=>?_,?_,?_⟩
   ·obtain ⟨o,e,d⟩:=T.obj _ _ st5 b hb
    exact (I8.pin (b,o) (bM _ (bM _ (Lg hb e)))).2.1
   ·exact (I8.pin (D,Ed its k) (bM _ (dD _ (bC.mpr rfl)))).1
   ·exact (I8.pin (D,Ed its k) (bM _ (dD _ (bC.mpr rfl)))).2.1
  cases b with
  | false=>
   obtain ⟨m',hm,w8⟩:=(q7:if false=true then _ else _)
   obtain ⟨st8,fr8,_,_⟩:=back I7
   refine aM ⟨rfl,m',hm,i+1,acc,its,k,σ6,H7,?_,hv,hz,st8,fr8,w8⟩
   exact I7.pins_of fun p hp=>I7.pin p (bM _ (dD _ hp))
  | true=>
   have q7':te σ6 H7 fun y H6=>acc.length < sizeLine/\∃ m',m' < n/\W (i+1) m' (acc++[y]) σ6 H6:=q7
   have he7:=he _ s7 σ6 H7 _ I7 q7'
   rw[hXp,hXw,hXA] at he7
   refine aD (aD (fO he7 (fun y s8 zz=>zz.elim fun v H8 I8 r8 zq=>?_) fun e s z=>absurd z (hxe e s)))
   obtain ⟨hlt,m',hm,w8⟩:=zq
   obtain ⟨st8,fr8,hDo,hDn⟩:=back I8
   have hlen:=hv.length
   have hisl:s8.heap.IsList D its.toArray:=⟨_,hDo,rfl,k,rfl⟩
   refine aD ?_
   obtain ⟨k',hd'⟩:∃ k',cI (·.push y) (Ed its k)=Ed (its++[y]) k':=⟨_,by simp[Ed,cI];rfl⟩
   refine fL slot_list_append hisl.typeIs entry_list_append ?_ (args_list_append _ _)
   show wpAny _ _ (updateSeq D (·.push y) >>= fun _=>ret .none) _ _ s8
   refine aD (wpAny_updateSeq hDo rfl (aM ⟨.none,rfl,?_⟩))
   have hk9:∀ b o,b≠D->s8.heap.get? b=some o->(s8.heap.update D (cI (·.push y))).get? b=some o:=fun b o hb e=>(eY (h:=s8.heap) (a:=D) ..).2 b hb |>.trans e
   have hD9:(s8.heap.update D (cI (·.push y))).get? D=some (Ed (its++[y]) k'):=by
    rw[<- hd'];exact kJ _ hDo (by rw[hd'];exact Obj.isFreed_of_seq (xs:=(its++[y]).toArray) (n:=k') rfl)
   have I8':Inv X' [] σ6 H8 s8:=I8.pins_of fun p hp=>by cases hp
   obtain ⟨d0,d1,d2,d3,d4,d5⟩:=hDf H8 hDn
   have I9:Inv X' [] σ6 H8 { s8 with heap:=s8.heap.update D (cI (·.push y)) }:=I8'.turned (t':=s8.toks) hk9 hDn d1 d3 d4 d5
   have I10:=I9.pins_of (pins':=[(D,Ed (its++[y]) k')]) fun p hp=>by
    have:p=(D,Ed (its++[y]) k'):=by simpa using hp
    subst this
    exact ⟨hD9,hDn,d1,d2,fun v z=>by simp[Ed] at z⟩
   refine aM (aM ⟨rfl,m',hm,i+1,acc++[v],its++[y],k',σ6,H8,I10,Vals.append hv (.cons r8 .nil),by rw[bB];simp;omega,?_,fr8,w8⟩)
   refine T.keep _ _ _ st8 fun b hb o e=>hk9 b o (hfp b hb).2 e
end
variable {y:Str}{py spos:Pos}
section
noncomputable def Aht(ix:List (Option Nat))(wi:TI)(g:TG)(tt:TT)(te:TE):TE:=fun σ H Q=>wi σ H fun J H1=>Afj J g tt te (inner ix σ) H1 fun acc H2=>∀ p,H2 p=none->Q (.ref p) (upd H2 p (.lst acc))
theorem Us{g:TG}{it:Addr}{J:It}{tn:Nat->Heap->Prop}{E:aJ->aN->Prop}{Fin:List V->Hp->Prop}{RR:aJ->Addr->sR->aN->Prop}
  (S:CompSc X scope N' ix) (hcalm:X.calm=true) (hcl:∀ x c,cl.lookup x=some c->X.env.cells.lookup x=some c) (hcl2:∀ y∈scope.names,y.2 = .free->∃ c,cl.lookup y.1=some c)
  (hg:∀ C,PG (blk X scope cl C N' s2 H2 fp pins) tg g) (ht:∀ C,U3 (blk X scope cl C N' s2 H2 fp pins) ifs tt) (he:∀ C,PE (blk X scope cl C N' s2 H2 fp pins) elt te)
  (I2:Inv X pins σ H2 s2) (T:Turn X.prog X.w X.K tg J fp it tn) (st2:tn 0 s2.heap) (f2:∀ b∈fp,Kn X pins H2 b) (hloop:Afj J g tt te (inner ix σ) H2 Fin)
  (hRR:∀ (D C:Addr) (s':aN) (H':Hp) (acc:List V),Inv X pins σ (upd H' D (.lst acc)) s'->H' D=none->(∃ m,s'.heap.Ns C m)->(upd H' D (.lst acc)) C=none->Kn X pins (upd H' D (.lst acc)) C->Fin acc H'->RR (.ref D) C (.ok .next) s') :
  wpAny (model X.prog X.w) X.A (newList []) (fun acc s₃=>wpAny (model X.prog X.w) X.A (newFunctionEnv scope X.env.globals cl [] X.env.qual none .none (some X.env)) (fun cenv s₄=>
   nT (model X.prog X.w) X.A (.compStart (.ListComp elt [⟨tg,iter,ifs,0⟩] scope pos) 0 (.ref it) acc { cenv with scope:=relabel scope X.env }) (RR acc cenv.locals) s₄) E s₃) E s2:=by
 have hcell:∀ y∈scope.names,y.2≠.cell:=fun y hy z=>by
  have:=cF.mp S.cell y hy
  rw[z] at this;simp at this
 refine dM (wpAny_newFunctionEnv hcell (by intro y hy;simp at hy) (fun h₁ hns₁ hsb₁=>?_) S.kind)
 dsimp only at hns₁ hsb₁ ⊢
 generalize hH2:s2.heap.push { cls:=.type "list",dict:=none,data:=.seq ([]:List aJ).toArray } = HP at hns₁ hsb₁ ⊢
 have hCs:HP.objs.size=s2.heap.objs.size+1:=by rw[<- hH2,dY]
 have hDC:s2.heap.objs.size≠HP.objs.size:=by rw[hCs];exact bV (gQ _)
 have hCle:s2.heap.objs.size<=HP.objs.size:=by rw[hCs];exact fM _
 have old:∀ b o,s2.heap.get? b=some o->h₁.get? b=some o:=fun b o e=>hsb₁.extBut b o (bV (bL (aV e) hCle)) (aE _ (hH2 ▸ aE _ e))
 have hacc:h₁.get? s2.heap.objs.size=some (Ed [] 0):=hsb₁.extBut _ _ hDC (aE _ (hH2 ▸ bE _ rfl))
 have hfp:∀ b∈fp,b < s2.heap.objs.size:=fun b hb=>by
  obtain ⟨o,e,_⟩:=T.obj _ _ st2 b hb
  exact aV e
 generalize hDg:s2.heap.objs.size=D at hDC hacc
 generalize hCg:HP.objs.size=C at *
 have hDle:s2.heap.objs.size<=D:=nZ hDg
 have hD2:s2.heap.get? D=none:=by
  cases q:s2.heap.get? D with
  | none=>rfl
  | some o=>exact absurd (bL (aV q) hDle) (eJ _)
 have I4:=Ael (t4:=s2.toks+([]:List (Str×aJ)).length) S hcalm I2 hcl hcl2 f2 hfp hCle hns₁ old
 have above:∀ a,s2.heap.objs.size<=a->a∉frs X.stack/\(∀ x c,X.env.cells.lookup x=some c->c≠a)/\(∀ p∈X.pn++pins,p.1≠a)/\a≠X.env.locals:=fun a ha=>by
  refine ⟨fun z=>?_,fun x c e z=>?_,fun p hp z=>?_,?_⟩
  ·rcases bH.mp (I2.stkSub a z) with q | q
   ·exact absurd (bL I2.lt (q ▸ ha)) (eJ _)
   ·exact I2.nofs ha q
  ·obtain ⟨v,q⟩:=I2.cell x c e
   exact absurd (bL q.lt (z ▸ ha)) (eJ _)
  ·exact absurd (bL (aV (I2.pin p hp).1) (z ▸ ha)) (eJ _)
  ·intro z;exact absurd (bL I2.lt (z ▸ ha)) (eJ _)
 have hfpX:∀ b∈fp,Kn (blk X scope cl C N' s2 H2 fp pins) [] H2 b/\b≠D:=fun b hb=>by
  obtain ⟨q0,q1,q2,q3,q4,q5⟩:=f2 b hb
  have hlt:=hfp b hb
  refine ⟨⟨q0,bV (bL hlt hCle),fun z=>?_,.inl hb,fun x c e=>q4 x c (hcl x c e),fun p hp=>q5 p (by simpa[blk] using hp)⟩,bV (bL hlt hDle)⟩
  rcases bH.mp (I2.stkSub b z) with q | q
  ·exact q1 q
  ·exact q2 q
 have hDf:∀ H:Hp,H D=none->Kn (blk X scope cl C N' s2 H2 fp pins) [] H D:=fun H hn=>by
  obtain ⟨a1,a2,a3,a4⟩:=above D hDle
  exact ⟨hn,hDC,a1,.inr hDle,fun x c e=>a2 x c (hcl x c e),fun p hp=>a3 p (by simpa[blk] using hp)⟩
 have hDn2:H2 D=none:=I2.hok.fresh hDle
 have I5:Inv (blk X scope cl C N' s2 H2 fp pins) [(D,Ed [] 0)] (inner ix σ) H2 { s2 with heap:=h₁,toks:=s2.toks+([]:List (Str×aJ)).length }:=I4.pins_of fun p hp=>by
  have:p=(D,Ed [] 0):=by simpa using hp
  subst this
  obtain ⟨_,d1,d2,_⟩:=hDf H2 hDn2
  exact ⟨hacc,hDn2,d1,d2,fun v z=>by simp[Ed] at z⟩
 have st5:tn 0 h₁:=T.keep _ _ _ st2 fun b _ o e=>old b o e
 have loop:nT (model X.prog X.w) X.A (.compLoop (.ListComp elt [⟨tg,iter,ifs,0⟩] scope pos) 0 (.ref it) (.ref D) (blk X scope cl C N' s2 H2 fp pins).env) (RR (.ref D) C) { s2 with heap:=h₁,toks:=s2.toks+([]:List (Str×aJ)).length }:=by
  refine Ade (X':=blk X scope cl C N' s2 H2 fp pins) ⟨rfl,rfl,rfl,rfl,hcalm,fun _ _ z=>z⟩ T (hg C) (ht C) (he C) hDle hDC hCle hfpX hDf I5 st5 (fun b hb=>(f2 b hb).1) hloop ?_
  intro s' σ' H' acc its n I hv hz fin
  obtain ⟨hDo,hDn,_⟩:=I.pin (D,Ed its n) (bM _ (bC.mpr rfl))
  have hbase:Un (frs X.stack) fp H2 H' s2.heap s'.heap:=I.base
  have hok:HOk X.prog X.w (upd H' D (.lst acc)) s'.heap:=HOk.adopt I.hok hDn ⟨hz,its,n,hv,hDo⟩
  have IX:Inv X pins σ (upd H' D (.lst acc)) s':=I2.call' I.os (Un.adopt hbase hDn hD2) hok I.bare fun b hb=>⟨(f2 b hb).2.2.2.1,(f2 b hb).2.1,(f2 b hb).2.2.2.2.1,(f2 b hb).2.2.2.2.2⟩
  obtain ⟨m,hm,_⟩:=I.loc
  have hCn:(upd H' D (.lst acc)) C=none:=by rw[Bv (eW hDC)];exact I.free
  obtain ⟨a1,a2,a3,a4⟩:=above C hCle
  refine hRR D C s' H' acc IX hDn ⟨m,hm⟩ hCn ⟨hCn,a4,fun z=>?_,.inr (cJ I2.sz hCle),a2,a3⟩ fin
  exact I2.nofs hCle z
 have e1:({ newEnv scope C X.env.globals cl X.env.qual none .none (some X.env) pT with scope:=relabel scope X.env }:nK)=(blk X scope cl C N' s2 H2 fp pins).env:=rfl
 exact codeAny_compStart_list loop (T.self _ 0 _ _ _ st5 loop)
theorem CompSc.names(S:CompSc X scope N' ix):∀ x∈scope.names,x.2 = .local->scope.names.lookup x.1=some .local:=fun x hx hl=>by
 have:=cF.mp S.loc x hx
 rw[hl] at this
 simpa using this
theorem CompSc.clos(S:CompSc X scope N' ix)(ok:X.Ok):∃ cl,closureFor scope X.env=pure cl/\(∀ x c,cl.lookup x=some c->X.env.cells.lookup x=some c)/\∀ y∈scope.names,y.2 = .free->∃ c,cl.lookup y.1=some c:=by
 refine T6 fun y hy hf=>?_
 have:=cF.mp S.free y hy
 rw[hf] at this
 simp at this
 exact ok.has y.1 this
theorem Abz{wi:TI}{g:TG}(S:CompSc X scope N' ix)(hcalm:X.calm=true)(hi:PI X tg iter wi)
  (hg:∀ cl C s2 H2 fp pins,PG (blk X scope cl C N' s2 H2 fp pins) tg g) (ht:∀ cl C s2 H2 fp pins,U3 (blk X scope cl C N' s2 H2 fp pins) ifs tt) (he:∀ cl C s2 H2 fp pins,PE (blk X scope cl C N' s2 H2 fp pins) elt te)
  (hs:∀ x,foldedSetIterable iter X.env x=pure x:=by intro _;rfl):PE X (.ListComp elt [⟨tg,iter,ifs,0⟩] scope pos) (Aht ix wi g tt te):=by
 intro pins s σ H Q I h
 obtain ⟨cl,hclos,hcl,hcl2⟩:=S.clos I.ok
 rw[eval_ListComp]
 refine nA (use:=none) rfl hs hclos S.kind S.names (thn (hi pins s σ H _ I h) fun v s1 h1=>thn h1 fun itv s2 h2=>?_)
 obtain ⟨it,fp,tn,J,H2,e,I2,T,st2,f2,loop⟩:=h2
 subst e
 refine Us (RR:=fun acc C=>compPost (model X.prog X.w) X.A X.xe none (EP X pins σ Q) acc C) S hcalm hcl hcl2 (fun C=>hg cl C s2 H2 fp pins) (fun C=>ht cl C s2 H2 fp pins) (fun C=>he cl C s2 H2 fp pins) I2 T st2 f2 loop ?_
 intro D C s' H' acc IX hDn ⟨m,hm⟩ hCn hC fin
 refine ⟨m,hm,fun h' hsb=>?_⟩
 obtain ⟨c0,c1,c2,c3,c4,c5⟩:=hC
 exact ⟨.ref D,_,IX.turned (t':=s'.toks) (fun b o hb e=>hsb.2 b hb |>.trans e) c0 c1 c3 c4 c5,rfl,fin D hDn⟩
theorem Abp{wi:TI}{g:TG}(hN:X.N.Nodup)(hiN:X.N[i]? = some y)(hx:Loc X.env.scope y)(hf:X.fn y=true\/X.env.scope.names.lookup y=some .local)
  (S:CompSc X scope N' ix) (hcalm:X.calm=true) (hi:PI X tg iter wi)
  (hg:∀ cl C s2 H2 fp pins,PG (blk X scope cl C N' s2 H2 fp pins) tg g) (ht:∀ cl C s2 H2 fp pins,U3 (blk X scope cl C N' s2 H2 fp pins) ifs tt) (he:∀ cl C s2 H2 fp pins,PE (blk X scope cl C N' s2 H2 fp pins) elt te)
  (hsw:swapsWith (.ListComp elt [⟨tg,iter,ifs,0⟩] scope pos) (some (.Name y py)) spos.line X.env=pure true)
  (hs:∀ x,foldedSetIterable iter X.env x=pure x:=by intro _;rfl):PS X (.Assign [.Name y py] (.ListComp elt [⟨tg,iter,ifs,0⟩] scope pos) spos) (Aif (Aht ix wi g tt te) (W3 i)):=by
 intro pins s σ H Dn I h
 obtain ⟨cl,hclos,hcl,hcl2⟩:=S.clos I.ok
 rw[exec_Assign_Name_used _ _ _ _ hsw]
 refine aD (kQ (aD ?_))
 show wpAny _ X.A (do let _ <- comprehension (.ListComp elt [⟨tg,iter,ifs,0⟩] scope pos) scope X.env _ (newList []) false (eval iter X.env) (some (assign (.Name y py) X.env))) _ _ s
 refine aD (fO (nA (Q:=fun _ s'=>SP X pins Dn .next s') (use:=some (assign (.Name y py) X.env)) rfl hs hclos S.kind S.names (thn (hi pins s σ H _ I h) fun v s1 h1=>thn h1 fun itv s2 h2=>?_)) (fun _ s' hq=>aM (aM hq)) fun _ _ e=>e)
 obtain ⟨it,fp,tn,J,H2,e,I2,T,st2,f2,loop⟩:=h2
 subst e
 refine Us (RR:=fun acc C=>compPost (model X.prog X.w) X.A X.xe (some (assign (.Name y py) X.env)) (fun _ s'=>SP X pins Dn .next s') acc C) S hcalm hcl hcl2 (fun C=>hg cl C s2 H2 fp pins) (fun C=>ht cl C s2 H2 fp pins) (fun C=>he cl C s2 H2 fp pins) I2 T st2 f2 loop ?_
 intro D C s' H' acc IX hDn ⟨m,hm⟩ hCn hC fin
 obtain ⟨c0,c1,c2,c3,c4,c5⟩:=hC
 obtain ⟨oC,es,ep,hoC,hdC,hrest⟩:=id hm
 have IP:Inv X (pins++[(C,oC)]) σ (upd H' D (.lst acc)) s':=IX.pins_of fun p hp=>by
  rcases bP.mp hp with z | z
  ·exact IX.pin p (bM _ z)
  ·have:p=(C,oC):=by simpa using z
   subst this
   exact ⟨hoC,c0,c1,c2,fun v z=>by rw[hdC] at z;cases z⟩
 have hq:W3 i (.ref D) σ (upd H' D (.lst acc)) Dn.nx:=fin D hDn
 refine thn (Acw (i:=i) (pos:=py) hN hiN hx hf (pins++[(C,oC)]) s' σ _ (.ref D) (.ref D) Dn.nx IP rfl hq) fun _ s'' zz=>?_
 obtain ⟨σ'',H'',I'',q''⟩:=zz
 obtain ⟨p1,p2,p3,p4,p5⟩:=I''.pin (C,oC) (bM _ (bM _ (bC.mpr rfl)))
 refine ⟨m,⟨oC,es,ep,p1,hdC,hrest⟩,fun h' hsb=>?_⟩
 exact ⟨σ'',H'',(I''.unpinned).turned (t':=s''.toks) (fun b o hb e=>hsb.2 b hb |>.trans e) p2 p3 c3 c4 c5,q''⟩
end
noncomputable def Jw(tt:Option FT):FT:=fun δ L=>match tt with
 | none=>some (true,L)
 | some f=>f δ L
noncomputable def Tr(it:IU)(g:FG)(tt:Option FT)(fe:FE):Nat->Nat->List U->UE->UH->Option (List U×UH)
 | 0,_,_,_,_=>none
 | m+1,k,acc,δ,L=>match it.at k L with
  | none=>none
  | some none=>some (acc,L)
  | some (some u)=>(g u δ L).bind fun p=>(Jw tt p.1 p.2).bind fun q=>if q.1=true then (fe p.1 q.2).bind fun r=>if decide (acc.length < sizeLine)=true then Tr it g tt fe m (k+1) (acc++[r.1]) p.1 r.2 else none
   else Tr it g tt fe m (k+1) acc p.1 q.2
noncomputable def Mx(ix:List (Option Nat))(δ:UE):UE:=ix.map fun o=>o.bind fun i=>(δ[i]?).join
noncomputable def Bu(ix:List (Option Nat))(fi:FI)(g:FG)(tt:Option FT)(fe:FE):FE:=fun δ L=>(fi δ L).bind fun p=>(Tr p.1 g tt fe (p.1.size p.2+1) 0 [] (Mx ix δ) p.2).map fun q=>(.ref q.2.length,q.2++[.lst q.1])
theorem RepS.inner(S:RepS K H α δ σ)(ix:List (Option Nat)):RepS K H α (Mx ix δ) (MR.inner ix σ):=by
 refine ⟨by simp[Mx,MR.inner],fun j u e=>?_⟩
 unfold Mx at e
 unfold MR.inner
 rw[bA] at e ⊢
 cases hx:ix[j]? with
 | none=>rw[hx] at e;simp at e
 | some o=>
  rw[hx] at e
  cases o with
  | none=>simp at e
  | some i=>
   simp at e
   have:δ[i]? = some (some u):=by
    cases q:δ[i]? with
    | none=>rw[q] at e;simp at e
    | some o=>rw[q] at e;simp at e;rw[e]
   obtain ⟨v,hv,r⟩:=S.at_ i u this
   exact ⟨v,by simp[hv],r⟩
noncomputable def lTo(K:aK)(tt:Option FT):TT:=match tt with
 | none=>Aij
 | some f=>lT K f
inductive CI(K:aK)(it:IU)(g:FG)(tt:Option FT)(fe:FE)(H1:Hp)(α1:List Addr)(ys:List U)(L2:UH)(k m:Nat)(acc:List V)(σ2:_root_.L2.St)(H2:Hp):Prop
 | mk (α2:List Addr) (δ2:UE) (M:UH) (us:List U) (g2:Gr H1 α1 H2 α2) (A2:Abs K H2 α2 M) (S2:RepS K H2 α2 δ2 σ2) (r2:RepL K H2 α2 us acc) (e:Tr it g tt fe m k us δ2 M=some (ys,L2)):CI K it g tt fe H1 α1 ys L2 k m acc σ2 H2
theorem Rf{g:FG}{tt:Option FT}:∀ σ H Q,lE K (Bu ix fi g tt fe) σ H Q->Aht ix (lI K fi) (lG K g) (lTo K tt) (lE K fe) σ H Q:=by
 rintro σ H Q ⟨α,δ,L,A,S,z,L3,e,q⟩
 obtain ⟨⟨it,L1⟩,e1,e⟩:=aB.mp e
 obtain ⟨⟨ys,L2⟩,e2,e⟩:=aH.mp e
 cases e
 refine ⟨α,δ,L,A,S,it,L1,e1,fun J H1 α1 g1 A1 hJ=>?_⟩
 refine ⟨CI K it g tt fe H1 α1 ys L2,⟨_,α1,_,L1,[],.refl _ _,A1,(S.mono g1).inner ix,.nil,e2⟩,?_⟩
 rintro k m acc σ2 H2 ⟨α2,δ2,M,us,g2,A2,S2,r2,e3⟩
 cases m with
 | zero=>cases e3
 | succ m=>
  obtain ⟨hgo,hstop⟩:=hJ H2 α2 M g2 A2 k
  unfold Tr at e3
  cases hat:it.at k M with
  | none=>rw[hat] at e3;cases e3
  | some o=>
   cases o with
   | none=>
    rw[hat] at e3
    cases e3
    refine .inl ⟨hstop hat,fun p hp=>?_⟩
    obtain ⟨g3,A3,r3⟩:=A2.lst r2 hp
    exact q _ _ _ (g1.trans (g2.trans g3)) A3 r3
   | some u=>
    rw[hat] at e3
    obtain ⟨go,yld⟩:=hgo u hat
    obtain ⟨⟨δ3,L3⟩,e4,e3⟩:=aB.mp e3
    obtain ⟨⟨b,L4⟩,e5,e3⟩:=aB.mp e3
    refine .inr ⟨go,fun x H3 y3=>?_⟩
    obtain ⟨g3,A3,r3⟩:=yld x H3 y3
    refine ⟨α2,δ2,M,u,A3,S2.mono g3,r3,δ3,L3,e4,fun σ4 H4 α4 g4 A4 S4=>?_⟩
    have after:∀ H5 α5,Gr H4 α4 H5 α5->Abs K H5 α5 L4->(if b=true then lE K fe σ4 H5 (fun y H6=>acc.length < sizeLine/\∃ m',m' < m+1/\CI K it g tt fe H1 α1 ys L2 (k+1) m' (acc++[y]) σ4 H6) else ∃ m',m' < m+1/\CI K it g tt fe H1 α1 ys L2 (k+1) m' acc σ4 H5):=fun H5 α5 g5 A5=>by
     have gA:=g2.trans (g3.trans (g4.trans g5))
     have gB:=g3.trans (g4.trans g5)
     cases b with
     | false=>exact Y9 ⟨m,gQ _,α5,δ3,L4,us,gA,A5,S4.mono g5,r2.mono gB,e3⟩
     | true=>
      obtain ⟨⟨w,L5⟩,e6,e3⟩:=aB.mp e3
      simp only at e3
      split at e3
      ·rename_i hlt
       refine Aar ⟨α5,δ3,L4,A5,S4.mono g5,w,L5,e6,fun y H6 α6 g6 A6 r6=>?_⟩
       exact ⟨by rw[<- r2.length];exact of_decide_eq_true hlt,m,gQ _,α6,δ3,L5,us++[w],gA.trans g6,A6,(S4.mono g5).mono g6,(r2.mono (gB.trans g6)).append (.cons r6 .nil),e3⟩
      ·cases e3
    cases tt with
    | none=>
     cases e5
     exact after H4 α4 (.refl _ _) A4
    | some f=>exact ⟨α4,δ3,L3,A4,S4,b,L4,e5,fun H5 α5 g5 A5=>after H5 α5 g5 A5⟩
section
variable {g:FG}{ft:FT}
theorem Dw(S:CompSc X scope N' ix)(hcalm:X.calm=true)(hi:PIF X tg iter fi)(hg:∀ cl C s2 H2 fp pins,PGF (blk X scope cl C N' s2 H2 fp pins) tg g)(he:∀ cl C s2 H2 fp pins,PEF (blk X scope cl C N' s2 H2 fp pins) elt fe)
  (hs:∀ x,foldedSetIterable iter X.env x=pure x:=by intro _;rfl):PEF X (.ListComp elt [⟨tg,iter,[],0⟩] scope pos) (Bu ix fi g none fe):=
 PE.imp (Abz (g:=lG X.K g) (te:=lE X.K fe) (tt:=Aij) S hcalm hi hg (fun _ _ _ _ _ _=>Uz) he hs) Rf
theorem O0(S:CompSc X scope N' ix)(hcalm:X.calm=true)(hi:PIF X tg iter fi)(hg:∀ cl C s2 H2 fp pins,PGF (blk X scope cl C N' s2 H2 fp pins) tg g)(ht:∀ cl C s2 H2 fp pins,PTF (blk X scope cl C N' s2 H2 fp pins) c ft)(he:∀ cl C s2 H2 fp pins,PEF (blk X scope cl C N' s2 H2 fp pins) elt fe)
  (hs:∀ x,foldedSetIterable iter X.env x=pure x:=by intro _;rfl):PEF X (.ListComp elt [⟨tg,iter,[c],0⟩] scope pos) (Bu ix fi g (some ft) fe):=
 PE.imp (Abz (g:=lG X.K g) (te:=lE X.K fe) (tt:=lT X.K ft) S hcalm hi hg (fun _ _ _ _ _ _=>Uk (ht _ _ _ _ _ _)) he hs) (Rf (tt:=some ft))
theorem Ag7{fc:FE}(ht:∀ σ H Q,lE K fc σ H Q->t σ H Q):∀ D σ H,lS K (Av fc (gN i)) D σ H->Aif t (W3 i) D σ H:=by
 rintro D σ H ⟨α,δ,L,A,S,fl,L',e,q⟩
 obtain ⟨⟨u,L1⟩,e1,e⟩:=aB.mp e
 obtain ⟨⟨δ2,L2⟩,e2,e⟩:=aH.mp e
 cases e
 cases e2
 exact ht σ H _ ⟨α,δ,L,A,S,u,_,e1,fun v H1 α1 g1 A1 r1=>q _ H1 α1 g1 A1 ((S.mono g1).set i r1)⟩
theorem Ahy(hN:X.N.Nodup)(S:CompSc X scope N' ix)(hcalm:X.calm=true)(hi:PIF X tg iter fi)(hg:∀ cl C s2 H2 fp pins,PGF (blk X scope cl C N' s2 H2 fp pins) tg g)(he:∀ cl C s2 H2 fp pins,PEF (blk X scope cl C N' s2 H2 fp pins) elt fe)
  (hiN:X.N[i]? = some y:=by rfl) (hx:Loc X.env.scope y:=by first | exact oA rfl | exact mC rfl) (hf:X.fn y=true\/X.env.scope.names.lookup y=some .local:=by first | exact .inl rfl | exact .inr rfl)
  (hsw:swapsWith (.ListComp elt [⟨tg,iter,[],0⟩] scope pos) (some (.Name y py)) spos.line X.env=pure true:=by rfl)
  (hs:∀ x,foldedSetIterable iter X.env x=pure x:=by intro _;rfl):PSF X (.Assign [.Name y py] (.ListComp elt [⟨tg,iter,[],0⟩] scope pos) spos) (Av (Bu ix fi g none fe) (gN i)):=
 PS.imp (Abp (i:=i) (g:=lG X.K g) (te:=lE X.K fe) (tt:=Aij) hN hiN hx hf S hcalm hi hg (fun _ _ _ _ _ _=>Uz) he hsw hs) (Ag7 Rf)
theorem Ng(hN:X.N.Nodup)(S:CompSc X scope N' ix)(hcalm:X.calm=true)(hi:PIF X tg iter fi)(hg:∀ cl C s2 H2 fp pins,PGF (blk X scope cl C N' s2 H2 fp pins) tg g)(ht:∀ cl C s2 H2 fp pins,PTF (blk X scope cl C N' s2 H2 fp pins) c ft)(he:∀ cl C s2 H2 fp pins,PEF (blk X scope cl C N' s2 H2 fp pins) elt fe)
  (hiN:X.N[i]? = some y:=by rfl) (hx:Loc X.env.scope y:=by first | exact oA rfl | exact mC rfl) (hf:X.fn y=true\/X.env.scope.names.lookup y=some .local:=by first | exact .inl rfl | exact .inr rfl)
  (hsw:swapsWith (.ListComp elt [⟨tg,iter,[c],0⟩] scope pos) (some (.Name y py)) spos.line X.env=pure true:=by rfl)
  (hs:∀ x,foldedSetIterable iter X.env x=pure x:=by intro _;rfl):PSF X (.Assign [.Name y py] (.ListComp elt [⟨tg,iter,[c],0⟩] scope pos) spos) (Av (Bu ix fi g (some ft) fe) (gN i)):=
 PS.imp (Abp (i:=i) (g:=lG X.K g) (te:=lE X.K fe) (tt:=lT X.K ft) hN hiN hx hf S hcalm hi hg (fun _ _ _ _ _ _=>Uk (ht _ _ _ _ _ _)) he hsw hs) (Ag7 (Rf (tt:=some ft)))
end
section
variable {s:aN}{h':Heap}
theorem Inv.turnNew{ch:List Addr}{t':Nat}(I:L2.Inv X pins σ H s)(hch:∀ b∈ch,Kn X pins H b)(k:∀ b o,b∉ch->s.heap.get? b=some o->h'.get? b=some o)(hp:s.heap.objs.size<=p)(new:ObjOk X.prog X.w (upd H p o) h' p o) :
  L2.Inv X pins σ (upd H p o) { s with heap:=h',toks:=t' }:=by
 have hn:H p=none:=I.hok.fresh hp
 have nch:∀ b u,H b=some u->b∉ch:=fun b u e hb=>by rw[(hch b hb).1] at e;cases e
 have st:=Stay.new hn o
 refine I.step (g':=s.gens) (d':=s.drawn) (ch:=ch) (fun b hb=>?_) (fun b o _ _ hc e _=>k b o hc e) (fun b o _ _ hc e _=>⟨o.slots,k b o hc e⟩) (fun b u hc e n=>?_) (fun b u hc e=>⟨u,k b u hc e⟩) st.1 st.2 (fun b ps e=>⟨#[],?_⟩) (fun m hm=>?_) (fun b u e=>?_) I.bare
 ·obtain ⟨_,f1,_,f3,f4,f5⟩:=hch b hb
  exact ⟨f3,f1,f4,f5⟩
 ·rw[Bv (bV (bL (aV e) hp))];exact n
 ·rw[Bv (B6 e hn),e];simp
 ·obtain ⟨o1,es,ep,ho,r⟩:=hm
  exact ⟨o1,es,ep,k _ o1 (fun z=>(hch _ z).2.1 rfl) ho,r⟩
 ·by_cases hb:b=p
  ·subst hb;rw[upd_same] at e;cases e;exact new
  ·rw[Bv hb] at e
   refine (I.hok b u e).stay (fun c v hc q=>k c v ?_ q) (fun c q=>by rw[Bv (B6 q hn)];exact q) fun c xs q=>by rw[Bv (B6 q hn)];exact q
   rcases hc with z | z
   ·rw[z];exact nch b u e
   ·exact nch c _ z
end
noncomputable def Ite(K:aK)(a:Addr):It:=
 ⟨fun i H=>∃ xs x,SqL K H a xs/\xs[i]? = some x,fun i H x H'=>∃ p v,H p=none/\x = .ref p/\H'=upd H p (.tup [.int i,v])/\∀ xs,SqL K H a xs->xs[i]? = some v,fun i H=>∃ xs,SqL K H a xs/\xs.length<=i⟩
theorem Ad2{elts:List Expr}{x1}(a e it:Addr)(hne:e≠it):Turn P w K (.Tuple elts x1 pos) (Ite K a) [e,it] e (fun i h=>(∃ old,IsEnum h e it i old)/\h.IsListIter it a i) where
 mem:=by simp
 obj:=fun i h st b hb=>by
  obtain ⟨⟨old,he⟩,o,ho,hc,hd⟩:=st
  rcases bH.mp hb with rfl | hb
  ·exact ⟨_,he,fun v z=>by simp at z⟩
  ·have:b=it:=by simpa using hb
   subst this
   exact ⟨o,ho,fun v z=>by rw[hd] at z;cases z⟩
 keep:=fun i h h' st k=>by
  obtain ⟨⟨old,he⟩,o,ho,hc,hd⟩:=st
  exact ⟨⟨old,k e (by simp) _ he⟩,o,k it (by simp) _ ho,hc,hd⟩
 item:=by
  intro X hP hw hK hc i pins s σ H E I hf st hg
  subst hP hw hK
  obtain ⟨⟨old,he⟩,hit⟩:=st
  obtain ⟨xs,v,sq,hx⟩:=hg
  obtain ⟨its,hv,pl,hz⟩:=I.list sq
  obtain ⟨u,hu,r⟩:=hv.get hx
  refine wpAny_pyNext_enum_item he hit pl.isList (by simpa using hu) hne fun h' o1 o2 o3 o4 o5=>?_
  refine ⟨_,rfl,?_⟩
  have hfr:H s.heap.objs.size=none:=I.hok.fresh (aQ _)
  have I1:L2.Inv X pins σ (upd H s.heap.objs.size (.tup [.int i,v])) { s with heap:=h',toks:=s.toks+1 }:=
   Inv.turnNew (ch:=[e,it]) I hf (fun b o hb q=>o5 b o (fun z=>hb (by simp[z])) (fun z=>hb (by simp[z])) q) (aQ _)
    (show ObjOk X.prog X.w _ h' _ (.tup [.int i,v]) from ⟨by show 2<=sizeLine;decide,[.int i s.toks,u],.cons ⟨_,rfl⟩ (.cons r .nil),⟨_,o3,rfl,_,rfl⟩⟩)
  refine wpAny_letOwnedTupleGo_enum o1 fun h2 e2 sb2=>?_
  have hne2:∀ b∈[e,it],b≠s.heap.objs.size:=fun b hb z=>by
   rcases bH.mp hb with q | q
   ·have:=aV he;rw[<- q,z] at this;exact eJ _ this
   ·have q:b=it:=by simpa using q
    obtain ⟨o,ho,_⟩:=hit
    have:=aV ho;rw[<- q,z] at this;exact eJ _ this
  have hnone:∀ b∈[e,it],(upd H s.heap.objs.size (.tup [.int i,v])) b=none:=fun b hb=>by rw[Bv (hne2 b hb)];exact (hf b hb).1
  obtain ⟨f0,f1,f2,f3,f4,f5⟩:=hf e (by simp)
  have I2:=I1.turned (t':=s.toks+1) (h':=h2) (it:=e) (fun b o hb q=>sb2.2 b hb |>.trans q) (hnone e (by simp)) f1 f3 f4 f5
  obtain ⟨oi,hoi,hci,hdi⟩:=o2
  refine ⟨.ref s.heap.objs.size,_,I2,rfl,⟨_,v,hfr,rfl,rfl,fun ys sq'=>?_⟩,⟨⟨_,e2⟩,oi,(sb2.2 it (eW hne)).trans hoi,hci,hdi⟩,hnone⟩
  rw[I.list_inj sq' sq];exact hx
 done:=by
  intro X hP hw hK hc i pins s σ H E I hf st hg
  subst hP hw hK
  obtain ⟨⟨old,he⟩,hit⟩:=st
  obtain ⟨xs,sq,hx⟩:=hg
  obtain ⟨its,hv,pl,hz⟩:=I.list sq
  obtain ⟨f0,f1,f2,f3,f4,f5⟩:=hf it (by simp)
  have hlen:=hv.length
  refine wpAny_pyNext_enum_end (I.ok.hd hc) he hit pl.isList (by simp;omega) fun h' eb=>⟨rfl,I.turned (t':=s.toks) (fun b o hb q=>eb b o hb q) f0 f1 f3 f4 f5⟩
 self:=fun _ _ _ _ _ st h=>by obtain ⟨⟨old,he⟩,_⟩:=st;exact qJ he h
theorem Vf(n l1 l2:Nat)(h1:l1 < n)(h2:l2 < n):oR (n+4) (n+2) (n+3) n (n+1) l1 l2:=by
 constructor <;> (intro q;exact absurd (show (_:Nat)=_ from q) (by omega))
section
variable {elts:List Expr}{x1:Nat}{tpos:Pos}
theorem Ac6:gC "enumerate" = some (.type "enumerate"):=by decide +kernel
theorem X5:gC "zip" = some (.type "zip"):=by decide +kernel
noncomputable def Aoy(K:aK)(ta:TA):TI:=fun σ H R=>ta σ H fun vs H1=>∃ a xs,vs=[.ref a]/\SqL K H1 a xs/\R (Ite K a) H1
theorem Ais{a:Expr}{ta:TA}{p:Pos}(hg:Gl X "enumerate")(hm:X.mg "enumerate" = none)(ha:PA X [a] ta)(hs:bS [a] X.env=[(false,eval a X.env)]:=by rfl):PI X (.Tuple elts x1 tpos) (.Call (.Name "enumerate" p) [a] [] pos) (Aoy X.K ta):=by
 intro pins s σ H R I h
 refine Call_ (Jm I hg hm Ac6 (eP (thn (ha pos pins s σ H _ I h) fun us s1 ⟨vs,H1,I1,r1,q1⟩=>?_) hs rfl))
 obtain ⟨l,xs,rfl,sq,q⟩:=q1
 obtain ⟨u,rfl,ru⟩:=Gx r1
 cases ru
 obtain ⟨its,hv,pl,hz⟩:=I1.list sq
 refine call_enumerate_list pl.isList fun h' o1 o2 o3 o4=>?_
 have I2:L2.Inv X pins σ H1 { s1 with heap:=h' }:=I1.kept (t':=s1.toks) o4
 refine qJ o1 ⟨_,_,_,_,H1,rfl,I2,Ad2 l (s1.heap.objs.size+1) s1.heap.objs.size (iD (gQ _)),⟨⟨_,o1⟩,o2⟩,fun b hb=>?_,q⟩
 have hb':s1.heap.objs.size<=b:=by
  simp only[bH,dE,or_false] at hb
  rcases hb with rfl | rfl
  ·exact fM _
  ·exact aQ _
 exact L2.Inv.fpOk I1 hb' (I1.hok.fresh hb')
noncomputable def Uo(g:FA):FI:=fun δ L=>(g δ L).bind fun p=>match p.1 with
 | [.ref n]=>(A7 p.2 n).map fun _=>(.enm n,p.2)
 | _=>none
noncomputable def Aql(g:FA):FI:=fun δ L=>(g δ L).bind fun p=>match p.1 with
 | [.ref n,.ref m]=>(A7 p.2 n).bind fun _=>(A7 p.2 m).map fun _=>(.zip2 n m,p.2)
 | _=>none
theorem La(A:Abs K H α L)(ea:α[n]? = some a)(h:A7 L n=some us):∃ xs,SqL K H a xs/\RepL K H α us xs:=by
 obtain ⟨a',xs,ea',sq,r⟩:=Gv A h
 rw[ea] at ea';cases ea'
 exact ⟨xs,sq,r⟩
theorem Aix(hinj:∀ (H:Hp) xs ys,SqL K H a xs->SqL K H a ys->True)(ea:α[n]? = some a):Sl K (Ite K a) (.enm n) H α:=by
 intro H2 α2 L2 g A2 k
 have ea2:=g.at ea
 refine ⟨fun u eu=>?_,fun eu=>?_⟩
 ·obtain ⟨us,hs,eu⟩:=aH.mp eu
  obtain ⟨xs,sq,r⟩:=La A2 ea2 hs
  obtain ⟨w,hw,eu⟩:=aH.mp eu
  subst eu
  obtain ⟨x,hx,rx⟩:=r.get hw
  refine ⟨⟨xs,x,sq,hx⟩,?_⟩
  rintro y H3 ⟨p,v,hp,rfl,rfl,hy⟩
  have:=hy xs sq
  rw[hx] at this;cases this
  exact A2.tup (.cons rfl (.cons rx .nil)) hp
 ·obtain ⟨us,hs,eu⟩:=aH.mp eu
  obtain ⟨xs,sq,r⟩:=La A2 ea2 hs
  have:us[k]? = none:=by simpa using eu
  exact ⟨xs,sq,by rw[<- r.length];exact cV.mp this⟩
theorem Afb{a:Expr}{p:Pos}(hg:Gl X "enumerate")(hm:X.mg "enumerate" = none)(ha:PAF X [a] g)(hs:bS [a] X.env=[(false,eval a X.env)]:=by rfl):PIF X (.Tuple elts x1 tpos) (.Call (.Name "enumerate" p) [a] [] pos) (Uo g):=by
 refine PI.imp (Ais hg hm ha hs) ?_
 rintro σ H R ⟨α,δ,L,A,S,i,L3,e,q⟩
 obtain ⟨⟨us,L1⟩,e1,e⟩:=aB.mp e
 refine ⟨α,δ,L,A,S,us,L1,e1,fun xs H1 α1 g1 A1 r1=>?_⟩
 simp only at e
 split at e
 ·obtain ⟨l,hl,e⟩:=aH.mp e
  cases e
  obtain ⟨x,rfl,rx⟩:=r1.one
  obtain ⟨a',ys,rfl,sq,r2⟩:=Hw A1 hl rx
  obtain ⟨a2,ea,ha2⟩:=rx.ref_of A1
  cases ha2
  exact ⟨a',ys,rfl,sq,q _ H1 α1 g1 A1 (Aix (fun _ _ _ _ _=>trivial) ea)⟩
 ·cases e
end
theorem Sb{β γ:Type}{f g:β->Option γ}:∀ {l:List β},(∀ x∈l,f x=g x)->l.filterMap f=l.filterMap g
 | [],_=>rfl
 | a::l,h=>by rw[gK,gK,h a (aX ..),Sb fun x hx=>h x (aT _ hx)]
theorem Sa{β:Type}:∀ r:List β,((dB r.length).map fun (k:Nat)=>(((r.length:Int) - 1 + -1 * (k:Int)).toNat)).filterMap (r.reverse[·]?)=r
 | []=>rfl
 | a::r=>by
  have ih:=Sa r
  rw[aY,List.range_succ_eq_map,aL,gK]
  have h0:(a::r).reverse[(((r.length+1:Nat):Int) - 1 + -1 * ((0:Nat):Int)).toNat]? = some a:=by
   have:(((r.length+1:Nat):Int) - 1 + -1 * ((0:Nat):Int)).toNat=r.reverse.length:=by rw[dU];omega
   rw[this,iF,cC (aQ _)]
   simp
  rw[h0]
  simp only
  congr 1
  rw[cE,jP]
  rw[jP] at ih
  refine Eq.trans (Sb fun k hk=>?_) ih
  have hk:=eI.mp hk
  simp only[tG]
  have:(((r.length+1:Nat):Int) - 1 + -1 * ((k.succ:Nat):Int)).toNat=((r.length:Int) - 1 + -1 * (k:Int)).toNat:=by simp only[Nat.succ_eq_add_one];omega
  rw[this,iF,bG (by rw[dU];omega)]
theorem Rm(its:List aJ):slicePick its.toArray none none (some (-1))=its.reverse.toArray:=by
 unfold slicePick
 have e:sliceBounds none none (some (-1)) its.toArray.size=((its.length:Int) - 1,-1,-1):=by simp[sliceBounds]
 rw[e]
 have e2:sliceRange ((its.length:Int) - 1) (-1) (-1)=(dB its.length).map fun (k:Nat)=>(((its.length:Int) - 1 + -1 * (k:Int)).toNat):=by
  unfold sliceRange
  have:(if (-1:Int) > 0 then (if ((its.length:Int) - 1) < -1 then (-1 - ((its.length:Int) - 1) + -1 - 1) / -1 else 0) else (if ((its.length:Int) - 1) > -1 then (((its.length:Int) - 1) - -1 - -1 - 1) / (- -1) else 0)).toNat=its.length:=by
   rw[if_neg (by decide)]
   split
   ·have:(its.length:Int) - 1 - -1 - -1 - 1=its.length:=by omega
    rw[this]
    simp
   ·simp;omega
  simp only[this]
 simp only
 rw[e2]
 have:=Sa its.reverse
 rw[dU,oS] at this
 have h2:(List.filterMap (fun x=>its.toArray[x]?) (List.map (fun (k:Nat)=>(((its.length:Int) - 1 + -1 * (k:Int)).toNat)) (dB its.length)))=its.reverse:=by
  rw[<- this]
  simp
 rw[h2]
theorem Vals.rev{us:List aJ}(h:Vals xs us):Vals xs.reverse us.reverse:=by
 induction h with
 | nil=>exact .nil
 | cons h1 _ ih=>rw[iF,iF];exact ih.append (.cons h1 .nil)
theorem RepL.rev:∀ {us:List U} {xs:List V},RepL K H α us xs->RepL K H α us.reverse xs.reverse
 | [],xs,r=>by unfold RepL at r;subst r;exact .nil
 | u::us,xs,r=>by
  unfold RepL at r
  obtain ⟨x,xr,rfl,r1,r2⟩:=r
  rw[iF,iF]
  exact (RepL.rev r2).append (.cons r1 .nil)
end MR
namespace HT
open PySem PySem.Spec PyProof.Rows
section
variable {prog:cT}{w:eO}{A:eS}{E:aJ->aN->Prop}{s:aN}
theorem Pq{sl:Addr}{vs:aJ}{n:Nat}{Q:Int×Int×Nat->aN->Prop}(hs:s.heap.IsSliceOf sl .none .none vs)(pu:lW vs (some (-1)))
  (h:Q ((n:Int) - 1,-1,n) s):wpAny (model prog w) A (gS (.ref sl) (pure (n:Int))) Q E s:=by
 obtain ⟨os,hos,hcs,hds⟩:=id hs
 unfold gS mJ
 refine aD (aD (eC hos hds (x:=.none) rfl (aD (eC hos hds (x:=.none) rfl (aD (eC hos hds (x:=vs) rfl (aM ?_)))))))
 refine aD (Jn pu ?_)
 show wpAny _ _ (if ((-1:Int) == 0)=true then _ else _) _ _ s
 rw[if_neg (by decide)]
 refine aD (Jn .none (aD (Jn .none (aD (aM ?_)))))
 show wpAny _ _ (match fU none none (-1) (n:Int) with | (lo,hi)=>pure (lo,(-1:Int),dI lo hi (-1))) _ _ s
 have e1:fU none none (-1) (n:Int)=((n:Int) - 1,-1):=rfl
 rw[e1]
 show wpAny _ _ (pure ((n:Int) - 1,(-1:Int),dI ((n:Int) - 1) (-1) (-1))) _ _ s
 have e2:dI ((n:Int) - 1) (-1) (-1)=n:=by
  unfold dI
  rw[if_neg (by decide)]
  split
  ·simp
  ·simp;omega
 rw[e2]
 exact aM h
theorem Ady(xs:List aJ):((dB xs.length).filterMap fun (m:Nat)=>xs.toArray[((xs.length:Int) - 1+(m:Int) * -1).toNat]?).toArray=xs.reverse.toArray:=by
 have:=MR.Sa xs.reverse
 rw[dU,oS,jP] at this
 rw[<- this]
 congr 1
 refine MR.Sb fun k _=>?_
 simp only[tG]
 have:((xs.length:Int) - 1+(k:Int) * -1)=((xs.length:Int) - 1 + -1 * (k:Int)):=by omega
 rw[this]
 simp
theorem Ou{t sl:Addr}{its:List aJ}{vs:aJ}{Q:aJ->aN->Prop}(ht:sP s.heap t its.toArray)(hs:s.heap.IsSliceOf sl .none .none vs)(pu:lW vs (some (-1)))
  (h:Q (.ref s.heap.objs.size) { s with heap:=s.heap.push { cls:=.type "tuple",data:=.seq its.reverse.toArray } })
  (hsz:its.length<=sizeLine):wpAny (model prog w) A (getItem (.ref t) (.ref sl)) Q E s:=by
 have htake:sizeOk (.seq its.reverse.toArray):=by
  show its.reverse.toArray.size<=sizeLine
  rw[aP,dU];exact hsz
 obtain ⟨os,hos,hcs,hds⟩:=id hs
 have hTs:s.TypeIs (.ref sl) "slice" := ⟨os,hos,hcs⟩
 unfold getItem
 try with_reducible refine cZ ?_
 first | refine aD (aM ?_) | skip
 refine aD (mR ht.typeIs (by decide) ?_)
 refine aD (eR (name:=dG "__getitem__") ht.typeIs cO
  (fL cO ht.typeIs lK ?_ (lX _ _)))
 show wpAny _ _ (iY (.ref t) >>= _) _ _ s
 refine aD (pL ht ?_)
 refine aD (kC hTs ?_)
 rw[if_pos (by decide)]
 refine aD (Pq hs pu ?_)
 show wpAny _ _ (if ((((its.toArray.size:Nat):Int) - 1) == 0&&(-1:Int) == 1&&its.toArray.size == its.toArray.size)=true then _ else _) _ _ s
 have hno:¬ (((((its.toArray.size:Nat):Int) - 1) == 0&&(-1:Int) == 1&&its.toArray.size == its.toArray.size)=true):=by simp
 rw[if_neg hno]
 have e:((dB its.toArray.size).filterMap fun (m:Nat)=>its.toArray[((its.toArray.size:Int) - 1+(m:Int) * -1).toNat]?).toArray=its.reverse.toArray:=by
  have:=Ady its
  simpa using this
 first
  | (rw[e]
     first
      | exact aD (m:=dR _) (dM (aM ⟨_,rfl,aM h⟩) htake)
      | exact aD (m:=dR _) (dM (aD (aM (aM ⟨_,rfl,aM h⟩))) htake)
      | exact aD (aD (m:=dR _) (dM (aM (aM ⟨_,rfl,aM h⟩)) htake))
      | exact aD (aD (m:=dR _) (dM (aM ⟨_,rfl,aM h⟩) htake)))
end
end HT
namespace MR
open PySem PySem.Spec PyProof.Rows L2
section
variable {X:Cx}{e st:Expr}{fa fs:FE}{p2 pos:Pos}
noncomputable def W0(f:FE):FE:=fun δ L=>(f δ L).bind fun p=>match p.1 with | .ref n=>(A7 p.2 n).map fun l=>(.ref p.2.length,p.2++[.lst l.reverse]) | .tup l=>some (.tup l.reverse,p.2) | _=>none
theorem Agv(he:PEF X e fa){q1 q2:Pos}{k:Nat}:PEF X (.Subscript e (.Slice none none (some (.UnaryOp .USub (.Constant (.int 1) k q1) q2)) p2) pos) (W0 fa):=by
 rintro pins s σ H Q I ⟨α,δ,L,A,S,z,L3,ee,q⟩
 obtain ⟨⟨u,L1⟩,e1,ee⟩:=aB.mp ee
 refine pW (thn (he pins s σ H (fun x H1=>∃ α1,Gr H α H1 α1/\Abs X.K H1 α1 L1/\RepU X.K H1 α1 u x) I ⟨α,δ,L,A,S,u,L1,e1,fun x H1 α1 g1 A1 r1=>⟨α1,g1,A1,r1⟩⟩) fun v s1 zz=>?_)
 obtain ⟨x,H1,I1,r1,α1,g1,A1,ru⟩:=zz
 cases u with
 | ref n=>
  obtain ⟨l,hl,ee⟩:=aH.mp ee
  cases ee
  obtain ⟨a,xs,ea,sq,r⟩:=Gv A1 hl
  obtain ⟨a',ea',rfl⟩:=ru.ref_of A1
  rw[ea] at ea';cases ea'
  cases r1
  have ps:POF X (some (.UnaryOp .USub (.Constant (.int 1) k q1) q2)) (Bo (J7 (fC (.int 1)))):=B5 (Kt Ai)
  refine rT ?_
  rw[mY]
  refine aM (aM ?_)
  refine thn (ps pins s1 σ H1 (fun o H'=>o=some (-1)/\∃ α2,Gr H1 α1 H' α2/\Abs X.K H' α2 L1) I1 ⟨α1,δ,L1,A1,S.mono g1,some (-1),L1,rfl,fun H2 α2 g2 A2=>⟨rfl,α2,g2,A2⟩⟩) fun vs s3 zz=>?_
  obtain ⟨o,H3,I3,pu,ho,α3,g3,A3⟩:=zz
  subst ho
  have I4:L2.Inv X pins σ H3 { s3 with heap:=s3.heap.push { cls:=.type "slice",data:=.fields #[.none,.none,vs] } }:=I3.kept (t':=s3.toks) fun b ob q=>aE _ q
  obtain ⟨a3,xs3,ea3,sq3,r3⟩:=Gv A3 hl
  have:a3=a:=by
   obtain ⟨ys,hy⟩:=g3.1
   rw[hy,bG (aG.mp ea).1,ea] at ea3
   exact (bR ea3).symm
  subst this
  obtain ⟨its,rv,ht,hz⟩:=I4.list sq3
  have hlen:=rv.length
  show wpAny (model X.prog X.w) X.A (subscriptTail e (.Slice none none _ p2) (.ref _) (.ref s3.heap.objs.size)) (EP X pins σ Q) X.xe { s3 with heap:=s3.heap.push { cls:=.type "slice",data:=.fields #[.none,.none,vs] } }
  refine sT (ops:=[.ref _,.ref s3.heap.objs.size]) ht.isList.typeIs mS.lookup ?_ (by with_unfolding_all rfl)
  refine mZ ht.isList (lY ..) .none .none pu (by simp) ?_ (by rw[aP] <;> omega)
  rw[Rm]
  obtain ⟨g4,A4,r4⟩:=A3.lst r3.rev (I4.hok.fresh (aQ _))
  refine ⟨.ref _,_,I4.laid (t':=s3.toks) (o:=.lst xs3.reverse) (fun b ob q=>aE _ q) (aQ _) ?_,rfl,q _ _ _ (g1.trans (g3.trans g4)) A4 r4⟩
  exact ⟨by rw[dU];exact hz,_,0,Vals.rev rv,bE _ rfl⟩
 | tup l=>
  cases ee
  unfold RepU at ru
  obtain ⟨a,xs,rfl,sq,r⟩:=ru
  cases r1
  have ps:POF X (some (.UnaryOp .USub (.Constant (.int 1) k q1) q2)) (Bo (J7 (fC (.int 1)))):=B5 (Kt Ai)
  refine rT ?_
  rw[mY]
  refine aM (aM ?_)
  refine thn (ps pins s1 σ H1 (fun o H'=>o=some (-1)/\∃ α2,Gr H1 α1 H' α2/\Abs X.K H' α2 L1) I1 ⟨α1,δ,L1,A1,S.mono g1,some (-1),L1,rfl,fun H2 α2 g2 A2=>⟨rfl,α2,g2,A2⟩⟩) fun vs s3 zz=>?_
  obtain ⟨o,H3,I3,pu,ho,α3,g3,A3⟩:=zz
  subst ho
  have I4:L2.Inv X pins σ H3 { s3 with heap:=s3.heap.push { cls:=.type "slice",data:=.fields #[.none,.none,vs] } }:=I3.kept (t':=s3.toks) fun b ob q=>aE _ q
  have rr:RepU X.K H3 α3 (.tup l) (.ref a):=(show RepU X.K H1 α1 (.tup l) (.ref a) by unfold RepU;exact ⟨a,xs,rfl,sq,r⟩).mono g3
  unfold RepU at rr
  obtain ⟨a3,xs3,ha3,sq3,r3⟩:=rr
  cases ha3
  obtain ⟨its,rv,ht,hz⟩:=I4.tuple sq3
  have hlen:=rv.length
  show wpAny (model X.prog X.w) X.A (subscriptTail e (.Slice none none _ p2) (.ref _) (.ref s3.heap.objs.size)) (EP X pins σ Q) X.xe { s3 with heap:=s3.heap.push { cls:=.type "slice",data:=.fields #[.none,.none,vs] } }
  refine sT (ops:=[.ref _,.ref s3.heap.objs.size]) ht.typeIs cO.lookup ?_ (by with_unfolding_all rfl)
  refine HT.Ou ht (lY ..) pu ?_ (by omega)
  obtain ⟨g4,A4,r4⟩:=A3.tup r3.rev (I4.hok.fresh (aQ _))
  refine ⟨.ref _,_,I4.laid (t':=s3.toks) (o:=.tup xs3.reverse) (fun b ob q=>aE _ q) (aQ _) ?_,rfl,q _ _ _ (g1.trans (g3.trans g4)) A4 r4⟩
  exact ⟨by rw[dU];exact hz,_,Vals.rev rv,TupN.new _ _⟩
 | _=>cases ee
end
structure ClsF(K:aK)(C:Str)(Ca:Addr):Prop where
 ns:bK K bF C=some (some (.ref Ca))
 cl:Cls K Ca
section
variable {X:Cx}{o e value:Expr}{es:List Expr}{f m C x:Str}{p pos pos' apos:Pos}{Ca fa:Addr}{fd:cM}{ps:List Str}{k n:Nat}{F:FN}{fe fo fv:FE}{g:FA}
end
end MR
namespace ZT
open PySem PySem.Spec PyProof.Rows
open Sem (wp)
noncomputable def SqK(b:Bool)(h:Heap)(l:Addr)(xs:Array aJ):Prop:=match b with
 | true=>h.IsList l xs
 | false=>h.IsTuple l xs
noncomputable def ItK(b:Bool)(h:Heap)(jt l:Addr)(k:Nat):Prop:=match b with
 | true=>h.IsListIter jt l k
 | false=>h.IsTupleIter jt l k
variable {b:Bool}{h h':Heap}{l:Addr}{xs:Array aJ}
theorem SqK.keep(x:SqK b h l xs)(e:∀ o,h.get? l=some o->h'.get? l=some o):SqK b h' l xs:=by
 cases b with
 | true=>obtain ⟨o,ho,r⟩:=x;exact ⟨o,e _ ho,r⟩
 | false=>obtain ⟨o,ho,r⟩:=x;exact ⟨o,e _ ho,r⟩
variable {jt:Addr}{k:Nat}
theorem ItK.keep(x:ItK b h jt l k)(e:∀ o,h.get? jt=some o->h'.get? jt=some o):ItK b h' jt l k:=by
 cases b with
 | true=>obtain ⟨o,ho,r⟩:=x;exact ⟨o,e _ ho,r⟩
 | false=>obtain ⟨o,ho,r⟩:=x;exact ⟨o,e _ ho,r⟩
theorem ItK.lt(x:ItK b h jt l k):jt < h.objs.size:=by
 cases b with
 | true=>obtain ⟨o,ho,r⟩:=x;exact aV ho
 | false=>obtain ⟨o,ho,r⟩:=x;exact aV ho
theorem ItK.obj(x:ItK b h jt l k):∃ o,h.get? jt=some o/\o.data = .fields #[.ref l,.int k 0]:=by
 cases b with
 | true=>obtain ⟨o,ho,_,r⟩:=x;exact ⟨o,ho,r⟩
 | false=>obtain ⟨o,ho,_,r⟩:=x;exact ⟨o,ho,r⟩
variable {its:Array aJ}{Q:aJ->aN->Prop}
section
variable {prog:cT}{w:eO}{A:eS}{E:aJ->aN->Prop}{s:aN}
theorem Agt{t:Addr}{v:aJ}(hj:s.heap.IsTupleIter jt t k)(ht:s.heap.IsTuple t its)(hv:its[k]? = some v)
  (hQ:∀ h',h'.IsTupleIter jt t (k+1)->jW jt s.heap h'->Q v { s with heap:=h' }):wpAny (model prog w) A (cW (.ref jt)) Q E s:=by
 obtain ⟨ob,hob,hcl,hda⟩:=id hj
 obtain ⟨ot,hot,_,nt,hdt⟩:=ht
 unfold cW
 refine aD (eR (name:=dG "__next__") hj.typeIs gT (fL gT hj.typeIs lN ?_ (lC _)))
 show wpAny _ _ (field (.ref jt) 0 >>= _) _ _ s
 refine aD (eC hob hda (x:=.ref t) rfl ?_)
 show wpAny _ _ (if (eQ t == eE)=true then _ else _) _ _ s
 rw[if_neg (show ¬ ((eQ t == eE)=true) from (fun z=>cP z))]
 show wpAny _ _ (field (.ref jt) 1 >>= _) _ _ s
 refine aD (eC hob hda (x:=.int k 0) rfl ?_)
 show wpAny _ _ (seqItems? (.ref t) >>= fun z=>_) _ _ s
 refine aD (gU hot hdt ?_)
 simp only[dZ,hv]
 refine aD (wpAny_setField hob hda (by simp) (aM ⟨v,rfl,aM (hQ _ ?_ (eY ..))⟩))
 exact ⟨_,kJ _ hob (Obj.isFreed_of_fields (pY hda _)),(Obj.cls_mapFields ..).trans hcl,by rw[pY hda];simp[rawInt]⟩
theorem Ahe{t:Addr}(hh:A.handled=none)(hj:s.heap.IsTupleIter jt t k)(ht:s.heap.IsTuple t its)(hv:its[k]? = none)
  (hE:∀ h' e,kU jt s.heap h'->(∃ ob,h'.get? e=some ob/\ob.cls = .type "StopIteration")->E (.ref e) { s with heap:=h' }):wpAny (model prog w) A (cW (.ref jt)) Q E s:=by
 obtain ⟨ob,hob,hcl,hda⟩:=id hj
 obtain ⟨ot,hot,_,nt,hdt⟩:=ht
 unfold cW
 refine aD (eR (name:=dG "__next__") hj.typeIs gT (fL gT hj.typeIs lN ?_ (lC _)))
 show wpAny _ _ (field (.ref jt) 0 >>= _) _ _ s
 refine aD (eC hob hda (x:=.ref t) rfl ?_)
 show wpAny _ _ (if (eQ t == eE)=true then _ else _) _ _ s
 rw[if_neg (show ¬ ((eQ t == eE)=true) from (fun z=>cP z))]
 show wpAny _ _ (field (.ref jt) 1 >>= _) _ _ s
 refine aD (eC hob hda (x:=.int k 0) rfl ?_)
 show wpAny _ _ (seqItems? (.ref t) >>= fun z=>_) _ _ s
 refine aD (gU hot hdt ?_)
 simp only[dZ,hv]
 refine aD (mE (aD (wpAny_setField hob hda (by simp) ?_)))
 show wpAny _ _ (newExc (.type "StopIteration") [] >>= fun z=>_) _ _ _
 refine aD ?_
 simp only[newExc,newTuple];refine aD (dM ?_ (by size_fits))
 refine aD (m:=firstArgMember _ _) (wpAny_of_eq (a:=eE) (by first | rfl | (simp only[firstArgMember];rfl)) (dM ?_ (by size_fits)))
 simp only[raiseNew];refine aD (wpAny_handled ?_)
 first | rw[show A.in1.handled=none from hh] | (rw[hh])
 exact aD (aM (wpAny_throw (hE _ _ (((eY ..).extBut.push _).push _) ⟨_,bE _ rfl,rfl⟩)))
theorem Aan{v:aJ}(hj:ItK b s.heap jt l k)(hl:SqK b s.heap l its)(hv:its[k]? = some v)
  (hQ:∀ h',ItK b h' jt l (k+1)->jW jt s.heap h'->Q v { s with heap:=h' }):wpAny (model prog w) A (cW (.ref jt)) Q E s:=by
 cases b with
 | true=>exact wpAny_nextOf_list_item hj hl hv hQ
 | false=>exact Agt hj hl hv hQ
theorem Ae8(hh:A.handled=none)(hj:ItK b s.heap jt l k)(hl:SqK b s.heap l its)(hv:its[k]? = none)
  (hE:∀ h' e,kU jt s.heap h'->(∃ ob,h'.get? e=some ob/\ob.cls = .type "StopIteration")->E (.ref e) { s with heap:=h' }):wpAny (model prog w) A (cW (.ref jt)) Q E s:=by
 cases b with
 | true=>exact wpAny_nextOf_list_end hh hj hl hv hE
 | false=>exact Ahe hh hj hl hv hE
theorem SqK.but{c:Addr}(x:SqK b h l xs)(e:kU c h h')(hne:l≠c):SqK b h' l xs:=x.keep fun o q=>e l o hne q
theorem ItK.but{c:Addr}(x:ItK b h jt l k)(e:kU c h h')(hne:jt≠c):ItK b h' jt l k:=x.keep fun o q=>e jt o hne q
variable {b1 b2:Bool}{z TI TO j1 j2 l1 l2:Addr}{k1 k2:Nat}{ys:Array aJ}{a b:aJ}
theorem Aii{x y:aJ}(D:oR z TI TO j1 j2 l1 l2)(hz:lL s.heap z TI TO .none)(hI:gO s.heap TI (.ref j1) (.ref j2))(hO:gO s.heap TO a b)
  (h1:ItK b1 s.heap j1 l1 k1) (h2:ItK b2 s.heap j2 l2 k2) (g1:SqK b1 s.heap l1 xs) (g2:SqK b2 s.heap l2 ys) (hx:xs[k1]? = some x) (hy:ys[k2]? = some y)
  (hQ:∀ h',lL h' z TI TO (rawInt s.heap.objs.size)->gO h' TO x y->ItK b1 h' j1 l1 (k1+1)->ItK b2 h' j2 l2 (k2+1)->gO h' s.heap.objs.size x y->h'.objs.size=s.heap.objs.size+1 ->
   (∀ c o,c≠z->c≠TO->c≠j1->c≠j2->s.heap.get? c=some o->h'.get? c=some o)->Q (.ref s.heap.objs.size) { s with heap:=h' }) :
  wpAny (model prog w) A (iP.«zip.__next__» ⟨[.ref z],[]⟩) (fun fin s'=>∃ v,fin = .done (.ret v)/\Q v s') E s:=by
 show wpAny _ _ (field (.ref z) 2 >>= fun q=>_) _ _ _
 refine aD (eC hz rfl (x:=.bool false) rfl ?_);show wpAny _ _ (field (.ref z) 3 >>= _) _ _ _
 refine aD (eC hz rfl (x:=.ref TI) rfl (aD (gU hI rfl ?_)))
 show wpAny _ _ (fB (.ref z) >>= fun q=>_) _ _ _
 refine aD ?_;unfold fB
 refine aD (eC hz rfl (x:=.none) rfl (aM ?_));simp only[if_true]
 refine aD (mE (aD (eC hz rfl (x:=.ref TO) rfl (aD (gW hz (by simp) fun p1 z1 s1=>?_)))))
 replace z1:lL p1 z TI TO .ellipsis:=z1
 refine aD ?_;simp only[rH,sC,lB,tB]
 refine aD (aD (nB ?_));show wpAny _ _ (cW (.ref j1) >>= _) _ _ _
 refine aD (Aan (h1.but s1.extBut D.i1z) (g1.but s1.extBut D.l1z) hx fun p2 i2 s2=>aM ?_)
 have O2:gO p2 TO a b:=s2.extBut _ _ D.TOi1 (s1.extBut _ _ D.TOz hO)
 refine aD (gU O2 rfl (aD (kW O2 fun p3 O3 s3=>?_)))
 replace O3:gO p3 TO x b:=O3
 refine aD (oT (aM ?_));refine aD (aD (nB ?_))
 show wpAny _ _ (cW (.ref j2) >>= fun q=>_) _ _ _
 refine aD (Aan (((h2.but s1.extBut D.i2z).but s2.extBut D.i12.symm).but s3.extBut D.TOi2.symm) (((g2.but s1.extBut D.l2z).but s2.extBut D.l2i1).but s3.extBut D.l2TO) hy fun p4 i4 s4=>aM ?_)
 have O4:gO p4 TO x b:=s4.extBut _ _ D.TOi2 O3
 refine aD (gU O4 rfl (aD (kW O4 fun p5 O5 s5=>?_)))
 replace O5:gO p5 TO x y:=O5
 refine aD (oT (aM (aM ?_)));refine aD (gU O5 rfl (aD (oU ?_)))
 have hsz:p5.objs.size=s.heap.objs.size:=by rw[s5.1,s4.1,s3.1,s2.1,s1.1]
 have z5:lL p5 z TI TO .ellipsis:=s5.extBut _ _ D.TOz.symm (s4.extBut _ _ D.i2z.symm (s3.extBut _ _ D.TOz.symm (s2.extBut _ _ D.i1z.symm z1)))
 have k5:∀ c o,c≠z->c≠TO->c≠j1->c≠j2->s.heap.get? c=some o->p5.get? c=some o:=fun c o c1 c2 c3 c4 e=>s5.extBut _ _ c2 (s4.extBut _ _ c4 (s3.extBut _ _ c2 (s2.extBut _ _ c3 (s1.extBut _ _ c1 e))))
 have i15:ItK b1 p5 j1 l1 (k1+1):=((i2.but s3.extBut D.TOi1.symm).but s4.extBut D.i12).but s5.extBut D.TOi1.symm
 have i25:ItK b2 p5 j2 l2 (k2+1):=i4.but s5.extBut D.TOi2.symm
 have zlt:z < p5.objs.size:=aV z5
 show wpAny _ _ (jB (.ref z) (.ref p5.objs.size) >>= fun q=>_) _ _ _
 refine aD ?_;unfold jB
 have z6:lL (p5.push { cls:=.type "tuple",data:=.seq #[x,y] }) z TI TO .ellipsis:=aE _ z5
 refine aD (gW z6 (by simp) fun p7 z7 s7=>?_)
 replace z7:lL p7 z TI TO (rawInt p5.objs.size):=z7
 refine gW z7 (by simp) fun p8 z8 s8=>?_
 replace z8:lL p8 z TI TO (rawInt p5.objs.size):=z8
 have up:∀ c o,c≠z->p5.get? c=some o->p8.get? c=some o:=fun c o c1 e=>s8.extBut _ _ c1 (s7.extBut _ _ c1 (aE _ e))
 have t8:gO p8 p5.objs.size x y:=s8.extBut _ _ (iD zlt) (s7.extBut _ _ (iD zlt) (bE _ rfl))
 have e8:p8.objs.size=p5.objs.size+1:=by rw[s8.1,s7.1,dY]
 rw[hsz] at z8 t8 e8
 refine aM ⟨_,rfl,?_⟩
 show Q (.ref p5.objs.size) _
 rw[hsz]
 exact hQ p8 z8 (up _ _ D.TOz O5) (i15.keep fun o e=>up _ o D.i1z e) (i25.keep fun o e=>up _ o D.i2z e) t8 e8 fun c o c1 c2 c3 c4 e=>up c o c1 (k5 c o c1 c2 c3 c4 e)
theorem Ank{Q:Fin->aN->Prop}(hh:A.handled=none)(D:oR z TI TO j1 j2 l1 l2)(hz:lL s.heap z TI TO .none)(hI:gO s.heap TI (.ref j1) (.ref j2))(hO:gO s.heap TO a b)
  (h1:ItK b1 s.heap j1 l1 k1) (h2:ItK b2 s.heap j2 l2 k2) (g1:SqK b1 s.heap l1 xs) (g2:SqK b2 s.heap l2 ys) (hend:xs[k1]? = none\/ys[k2]? = none)
  (hE:∀ h' e,(∀ c o,c≠z->c≠TO->c≠j1->c≠j2->s.heap.get? c=some o->h'.get? c=some o)->(∃ ob,h'.get? e=some ob/\ob.cls = .type "StopIteration")->E (.ref e) { s with heap:=h' }) :
  wpAny (model prog w) A (iP.«zip.__next__» ⟨[.ref z],[]⟩) Q E s:=by
 show wpAny _ _ (field (.ref z) 2 >>= fun q=>_) _ _ _
 refine aD (eC hz rfl (x:=.bool false) rfl ?_);show wpAny _ _ (field (.ref z) 3 >>= _) _ _ _
 refine aD (eC hz rfl (x:=.ref TI) rfl (aD (gU hI rfl ?_)))
 show wpAny _ _ (fB (.ref z) >>= fun q=>_) _ _ _
 refine aD ?_;unfold fB
 refine aD (eC hz rfl (x:=.none) rfl (aM ?_));simp only[if_true]
 refine aD (mE (aD (eC hz rfl (x:=.ref TO) rfl (aD (gW hz (by simp) fun p1 z1 s1=>?_)))))
 replace z1:lL p1 z TI TO .ellipsis:=z1
 refine aD ?_;simp only[rH,sC,lB,tB]
 refine aD (aD (nB ?_));show wpAny _ _ (cW (.ref j1) >>= _) _ _ _
 cases hx:xs[k1]? with
 | none=>
  refine aD (Ae8 hh (h1.but s1.extBut D.i1z) (g1.but s1.extBut D.l1z) hx fun p2 e s2 he=>?_)
  obtain ⟨oe,hoe,hce⟩:=he
  have z2:lL p2 z TI TO .ellipsis:=s2 _ _ D.i1z.symm z1
  have hez:e≠z:=fun q=>by subst q;rw[z2] at hoe;cases hoe;simp at hce
  refine gW z2 (by simp) fun p3 _ s3=>hE p3 e (fun c o c1 _ c3 _ q=>s3.extBut _ _ c1 (s2 _ _ c3 (s1.extBut _ _ c1 q))) ⟨oe,s3.extBut _ _ hez hoe,hce⟩
 | some x=>
  have hy:ys[k2]? = none:=by rcases hend with h | h;(rw[hx] at h;cases h);exact h
  refine aD (Aan (h1.but s1.extBut D.i1z) (g1.but s1.extBut D.l1z) hx fun p2 i2 s2=>aM ?_)
  have O2:gO p2 TO a b:=s2.extBut _ _ D.TOi1 (s1.extBut _ _ D.TOz hO)
  refine aD (gU O2 rfl (aD (kW O2 fun p3 O3 s3=>?_)))
  refine aD (oT (aM ?_));refine aD (aD (nB ?_))
  show wpAny _ _ (cW (.ref j2) >>= fun q=>_) _ _ _
  refine aD (Ae8 hh (((h2.but s1.extBut D.i2z).but s2.extBut D.i12.symm).but s3.extBut D.TOi2.symm) (((g2.but s1.extBut D.l2z).but s2.extBut D.l2i1).but s3.extBut D.l2TO) hy fun p4 e s4 he=>?_)
  obtain ⟨oe,hoe,hce⟩:=he
  have z4:lL p4 z TI TO .ellipsis:=s4 _ _ D.i2z.symm (s3.extBut _ _ D.TOz.symm (s2.extBut _ _ D.i1z.symm z1))
  have hez:e≠z:=fun q=>by subst q;rw[z4] at hoe;cases hoe;simp at hce
  refine gW z4 (by simp) fun p5 _ s5=>hE p5 e (fun c o c1 c2 c3 c4 q=>s5.extBut _ _ c1 (s4 _ _ c4 (s3.extBut _ _ c2 (s2.extBut _ _ c3 (s1.extBut _ _ c1 q))))) ⟨oe,s5.extBut _ _ hez hoe,hce⟩
theorem Ai1{x y:aJ}{Q:Option aJ->aN->Prop}(D:oR z TI TO j1 j2 l1 l2)(hz:lL s.heap z TI TO .none)(hI:gO s.heap TI (.ref j1) (.ref j2))(hO:gO s.heap TO a b)
  (h1:ItK b1 s.heap j1 l1 k1) (h2:ItK b2 s.heap j2 l2 k2) (g1:SqK b1 s.heap l1 xs) (g2:SqK b2 s.heap l2 ys) (hx:xs[k1]? = some x) (hy:ys[k2]? = some y)
  (hQ:∀ h',lL h' z TI TO (rawInt s.heap.objs.size)->gO h' TO x y->ItK b1 h' j1 l1 (k1+1)->ItK b2 h' j2 l2 (k2+1)->gO h' s.heap.objs.size x y->h'.objs.size=s.heap.objs.size+1 ->
   (∀ c o,c≠z->c≠TO->c≠j1->c≠j2->s.heap.get? c=some o->h'.get? c=some o)->Q (some (.ref s.heap.objs.size)) { s with heap:=h' }) :
  wpAny (model prog w) A (pyNext (.ref z)) Q E s:=by
 have ty:s.TypeIs (.ref z) "zip" := ⟨_,hz,rfl⟩
 unfold pyNext
 exact aD (pN (eR (name:=dG "__next__") ty lD (fL lD ty rJ (Aii D hz hI hO h1 h2 g1 g2 hx hy fun h' q1 q2 q3 q4 q5 q6 q7=>aM (hQ h' q1 q2 q3 q4 q5 q6 q7)) (qK _))))
theorem Amx{Q:Option aJ->aN->Prop}(hh:A.handled=none)(D:oR z TI TO j1 j2 l1 l2)(hz:lL s.heap z TI TO .none)(hI:gO s.heap TI (.ref j1) (.ref j2))(hO:gO s.heap TO a b)
  (h1:ItK b1 s.heap j1 l1 k1) (h2:ItK b2 s.heap j2 l2 k2) (g1:SqK b1 s.heap l1 xs) (g2:SqK b2 s.heap l2 ys) (hend:xs[k1]? = none\/ys[k2]? = none)
  (hQ:∀ h',(∀ c o,c≠z->c≠TO->c≠j1->c≠j2->s.heap.get? c=some o->h'.get? c=some o)->Q none { s with heap:=h' }):wpAny (model prog w) A (pyNext (.ref z)) Q E s:=by
 have ty:s.TypeIs (.ref z) "zip" := ⟨_,hz,rfl⟩
 unfold pyNext
 refine aD (pN (eR (name:=dG "__next__") ty lD (fL lD ty rJ (Ank hh D hz hI hO h1 h2 g1 g2 hend fun h' e hk he=>?_) (qK _))))
 obtain ⟨ob,hob,hcl⟩:=he
 exact aD (wpAny_isInstance (T := "StopIteration") (b:=true) ⟨ob,hob,hcl⟩ isSubtype_stop (aM (hQ _ hk)))
end
abbrev zh1(c1:String)(h:Heap)(l1:Addr):Heap:=h.push { cls:=.type c1,data:=.fields #[.ref l1,.int 0 0] }
abbrev zh2(c1 c2:String)(h:Heap)(l1 l2:Addr):Heap:=(zh1 c1 h l1).push { cls:=.type c2,data:=.fields #[.ref l2,.int 0 0] }
abbrev zh3(c1 c2:String)(h:Heap)(l1 l2:Addr):Heap:=(zh2 c1 c2 h l1 l2).push { cls:=.type "tuple",data:=.seq #[.ref h.objs.size,.ref (zh1 c1 h l1).objs.size] }
abbrev zh4(c1 c2:String)(h:Heap)(l1 l2:Addr):Heap:=(zh3 c1 c2 h l1 l2).push { cls:=.type "tuple",data:=.seq #[.none,.none] }
abbrev zh5(c1 c2:String)(h:Heap)(l1 l2:Addr):Heap:=(zh4 c1 c2 h l1 l2).push { cls:=.type "zip",data:=.fields #[.none,.bool false,.bool false,.ref (zh2 c1 c2 h l1 l2).objs.size,.ref (zh3 c1 c2 h l1 l2).objs.size] }
theorem Am0 (l1 l2 : Addr) (xs ys : Array aJ) : Meets (iP.«zip.__new__» ⟨[.type "zip", .ref l1, .ref l2], []⟩) (fun _ R s => s.heap.IsTuple l1 xs /\ s.heap.IsTuple l2 ys /\
   R (.ok (.ret (.ref (zh4 "tuple_iterator" "tuple_iterator" s.heap l1 l2).objs.size))) { s with heap:=zh5 "tuple_iterator" "tuple_iterator" s.heap l1 l2 }):=
 .of_wp fun prog w A R s h=>by
  obtain ⟨hp,g,d,tk,os⟩:=s
  obtain ⟨t1,t2,h⟩:=h
  have hsub:=sub_zip
  have T1:qL (oV ⟨hp,g,d,tk,os⟩) l1 xs:=t1
  have T2:qL (oV ⟨hp.push { cls:=.type "tuple_iterator",data:=.fields #[.ref l1,.int 0 0] },g,d,tk,os⟩) l2 ys:=qM t2 _
  wp_walk using iO T1,iO T2
  exact ⟨_,rfl,h⟩
section
variable {prog:cT}{w:eO}{A:eS}{E:aJ->aN->Prop}{s:aN}
theorem Ah0{l1 l2:Addr}{ys:Array aJ}(t1:s.heap.IsTuple l1 xs)(t2:s.heap.IsTuple l2 ys)
  (h:∀ h',lL h' (s.heap.objs.size+4) (s.heap.objs.size+2) (s.heap.objs.size+3) .none->gO h' (s.heap.objs.size+2) (.ref s.heap.objs.size) (.ref (s.heap.objs.size+1)) ->
   gO h' (s.heap.objs.size+3) .none .none->ItK false h' s.heap.objs.size l1 0->ItK false h' (s.heap.objs.size+1) l2 0->(∀ c o,s.heap.get? c=some o->h'.get? c=some o)->Q (.ref (s.heap.objs.size+4)) { s with heap:=h' }) :
  wpAny (model prog w) A (call (.type "zip") [.ref l1,.ref l2]) Q E s:=by
 refine callType_new F.called_zip (by decide) (rK _ _) (sD _ _) (fun obj=>oW obj _ _) sE (Am0 l1 l2 xs ys) ⟨t1,t2,?_⟩
 have z1:(zh1 "tuple_iterator" s.heap l1).objs.size=s.heap.objs.size+1:=dY ..
 have z2:(zh2 "tuple_iterator" "tuple_iterator" s.heap l1 l2).objs.size=s.heap.objs.size+2:=by rw[dY,z1]
 have z3:(zh3 "tuple_iterator" "tuple_iterator" s.heap l1 l2).objs.size=s.heap.objs.size+3:=by rw[dY,z2]
 have z4:(zh4 "tuple_iterator" "tuple_iterator" s.heap l1 l2).objs.size=s.heap.objs.size+4:=by rw[dY,z3]
 have q5:(zh5 "tuple_iterator" "tuple_iterator" s.heap l1 l2).get? (zh4 "tuple_iterator" "tuple_iterator" s.heap l1 l2).objs.size=some _:=bE _ rfl
 have q4:(zh5 "tuple_iterator" "tuple_iterator" s.heap l1 l2).get? (zh3 "tuple_iterator" "tuple_iterator" s.heap l1 l2).objs.size=some _:=aE _ (bE _ rfl)
 have q3:(zh5 "tuple_iterator" "tuple_iterator" s.heap l1 l2).get? (zh2 "tuple_iterator" "tuple_iterator" s.heap l1 l2).objs.size=some _:=aE _ (aE _ (bE _ rfl))
 have q2:(zh5 "tuple_iterator" "tuple_iterator" s.heap l1 l2).get? (zh1 "tuple_iterator" s.heap l1).objs.size=some _:=aE _ (aE _ (aE _ (bE _ rfl)))
 have q1:(zh5 "tuple_iterator" "tuple_iterator" s.heap l1 l2).get? s.heap.objs.size=some _:=aE _ (aE _ (aE _ (aE _ (bE _ rfl))))
 show _/\_
 rw[z2,z3,z4] at q5;rw[z1,z2] at q3;rw[z3] at q4
 rw[z1] at q2;rw[z4]
 exact ⟨⟨_,q5,rfl⟩,h _ q5 q3 q4 ⟨_,q1,rfl,rfl⟩ ⟨_,q2,rfl,rfl⟩ fun c o q=>aE _ (aE _ (aE _ (aE _ (aE _ q))))⟩
end
end ZT
namespace MR
open PySem PySem.Spec PyProof.Rows L2
noncomputable def SK(bb:Bool)(K:aK)(H:Hp)(a:Addr)(xs:List V):Prop:=match bb with
 | true=>SqL K H a xs
 | false=>SqT K H a xs
inductive SK_at_I(s:aN)(bb:Bool)(a:Addr)(xs:List V):Prop
 | mk (its:List aJ) (h0:Vals xs its) (h1:ZT.SqK bb s.heap a its.toArray) (h2:xs.length<=sizeLine):SK_at_I s bb a xs
variable {X:Cx}{H:Hp}{a:Addr}{xs:List V}
theorem SK.at{pins:List (Addr×Obj)}{σ:L2.St}{s:aN}{bb:Bool}(I:L2.Inv X pins σ H s)(h:SK bb X.K H a xs):SK_at_I s bb a xs:=by
 cases bb with
 | true=>obtain ⟨its,r,p,z⟩:=I.list h;exact ⟨its,r,p.isList,z⟩
 | false=>obtain ⟨its,r,p,z⟩:=I.tuple h;exact ⟨its,r,p,z⟩
theorem SK.inj{pins:List (Addr×Obj)}{σ:L2.St}{s:aN}{bb:Bool}{ys:List V}(I:L2.Inv X pins σ H s)(h:SK bb X.K H a xs)(h':SK bb X.K H a ys):xs=ys:=by
 cases bb with
 | true=>exact I.list_inj h h'
 | false=>exact I.tuple_inj h h'
noncomputable def Agq(b1 b2:Bool)(K:aK)(a b:Addr):It:=
 ⟨fun i H=>∃ xs ys x y,SK b1 K H a xs/\SK b2 K H b ys/\xs[i]? = some x/\ys[i]? = some y,fun i H z H'=>∃ p x y,H p=none/\z = .ref p/\H'=upd H p (.tup [x,y])/\(∀ xs,SK b1 K H a xs->xs[i]? = some x)/\∀ ys,SK b2 K H b ys->ys[i]? = some y,
  fun i H=>∃ xs ys,SK b1 K H a xs/\SK b2 K H b ys/\(xs.length<=i\/ys.length<=i)⟩
theorem Ve{b1 b2:Bool}{P:cT}{w:eO}{K:aK}{elts:List Expr}{x1}{pos:Pos}(a b z TI TO i1 i2:Addr)(D:oR z TI TO i1 i2 a b):Turn P w K (.Tuple elts x1 pos) (Agq b1 b2 K a b) [z,TI,TO,i1,i2] z
  (fun i h=>lL h z TI TO .none/\gO h TI (.ref i1) (.ref i2)/\(∃ u v,gO h TO u v)/\ZT.ItK b1 h i1 a i/\ZT.ItK b2 h i2 b i) where
 mem:=by simp
 obj:=fun i h st c hb=>by
  obtain ⟨h1,h2,⟨u,v,h3⟩,h4',h5'⟩:=st
  obtain ⟨o4,h4,d4⟩:=h4'.obj
  obtain ⟨o5,h5,d5⟩:=h5'.obj
  simp only[bH,dE,or_false] at hb
  rcases hb with rfl | rfl | rfl | rfl | rfl
  ·exact ⟨_,h1,fun v z=>by simp at z⟩
  ·exact ⟨_,h2,fun v z=>by simp at z⟩
  ·exact ⟨_,h3,fun v z=>by simp at z⟩
  ·exact ⟨_,h4,fun v z=>by rw[d4] at z;cases z⟩
  ·exact ⟨_,h5,fun v z=>by rw[d5] at z;cases z⟩
 keep:=fun i h h' st k=>by
  obtain ⟨h1,h2,⟨u,v,h3⟩,h4,h5⟩:=st
  exact ⟨k z (by simp) _ h1,k TI (by simp) _ h2,⟨u,v,k TO (by simp) _ h3⟩,h4.keep (k i1 (by simp)),h5.keep (k i2 (by simp))⟩
 item:=by
  intro X hP hw hK hc i pins s σ H E I hf st hg
  subst hP hw hK
  obtain ⟨h1,h2,⟨u0,v0,h3⟩,h4,h5⟩:=st
  obtain ⟨xs,ys,x,y,sq1,sq2,hx,hy⟩:=hg
  obtain ⟨its1,hv1,pl1,hz1⟩:=SK.at I sq1
  obtain ⟨its2,hv2,pl2,hz2⟩:=SK.at I sq2
  obtain ⟨u,hu,r⟩:=hv1.get hx
  obtain ⟨u',hu',r'⟩:=hv2.get hy
  refine ZT.Ai1 D h1 h2 h3 h4 h5 pl1 pl2 (by simpa using hu) (by simpa using hu') fun h' o1 o2 o3 o4 o5 o6 o7=>?_
  refine ⟨_,rfl,?_⟩
  have hfr:H s.heap.objs.size=none:=I.hok.fresh (aQ _)
  have I1:L2.Inv X pins σ (upd H s.heap.objs.size (.tup [x,y])) { s with heap:=h',toks:=s.toks }:=
   Inv.turnNew (ch:=[z,TI,TO,i1,i2]) I hf (fun c o hb q=>o7 c o (fun z=>hb (by simp[z])) (fun z=>hb (by simp[z])) (fun z=>hb (by simp[z])) (fun z=>hb (by simp[z])) q) (aQ _)
    (show ObjOk X.prog X.w _ h' _ (.tup [x,y]) from ⟨by show 2<=sizeLine;decide,[u,u'],.cons r (.cons r' .nil),⟨_,o5,rfl,_,rfl⟩⟩)
  refine wpAny_letOwnedTupleGo_zip o1 fun h9 e2 sb2=>?_
  have hlt:∀ c∈[z,TI,TO,i1,i2],c < s.heap.objs.size:=fun c hb=>by
   simp only[bH,dE,or_false] at hb
   rcases hb with rfl | rfl | rfl | rfl | rfl
   ·exact aV h1
   ·exact aV h2
   ·exact aV h3
   ·exact h4.lt
   ·exact h5.lt
  have hnone:∀ c∈[z,TI,TO,i1,i2],(upd H s.heap.objs.size (.tup [x,y])) c=none:=fun c hb=>by rw[Bv (bV (hlt c hb))];exact (hf c hb).1
  obtain ⟨f0,f1,f2,f3,f4,f5⟩:=hf z (by simp)
  have I2:=I1.turned (t':=s.toks) (h':=h9) (it:=z) (fun c o hb q=>sb2.2 c hb |>.trans q) (hnone z (by simp)) f1 f3 f4 f5
  have hTI:gO h' TI (.ref i1) (.ref i2):=o7 TI _ D.TIz D.TITO D.TIi1 D.TIi2 h2
  refine ⟨.ref s.heap.objs.size,_,I2,rfl,⟨_,x,y,hfr,rfl,rfl,fun ys sq'=>?_,fun ys sq'=>?_⟩,⟨e2,(sb2.2 TI D.TIz).trans hTI,⟨_,_,(sb2.2 TO D.TOz).trans o2⟩,o3.keep (fun o q=>(sb2.2 i1 D.i1z).trans q),o4.keep (fun o q=>(sb2.2 i2 D.i2z).trans q)⟩,hnone⟩
  ·rw[SK.inj I sq' sq1];exact hx
  ·rw[SK.inj I sq' sq2];exact hy
 done:=by
  intro X hP hw hK hc i pins s σ H E I hf st hg
  subst hP hw hK
  obtain ⟨h1,h2,⟨u0,v0,h3⟩,h4,h5⟩:=st
  obtain ⟨xs,ys,sq1,sq2,hx⟩:=hg
  obtain ⟨its1,hv1,pl1,hz1⟩:=SK.at I sq1
  obtain ⟨its2,hv2,pl2,hz2⟩:=SK.at I sq2
  have hl1:=hv1.length
  have hl2:=hv2.length
  refine ZT.Amx (I.ok.hd hc) D h1 h2 h3 h4 h5 pl1 pl2 (by simp;omega) fun h' k=>⟨rfl,?_⟩
  have nch:∀ b u,H b=some u->b∉[z,TI,TO,i1,i2]:=fun b u e hb=>by rw[(hf b hb).1] at e;cases e
  have k':∀ b o,b∉[z,TI,TO,i1,i2]->s.heap.get? b=some o->h'.get? b=some o:=fun c o hb q=>k c o (fun z=>hb (by simp[z])) (fun z=>hb (by simp[z])) (fun z=>hb (by simp[z])) (fun z=>hb (by simp[z])) q
  refine I.step (g':=s.gens) (d':=s.drawn) (t':=s.toks) (ch:=[z,TI,TO,i1,i2]) (fun b hb=>?_) (fun b o _ _ hc e _=>k' b o hc e) (fun b o _ _ hc e _=>⟨o.slots,k' b o hc e⟩) (fun _ _ _ _ n=>n) (fun b u hc e=>⟨u,k' b u hc e⟩) (fun _ _ e=>e) (fun _ _ _ e=>e) (fun b ps e=>⟨#[],by rw[e];simp⟩) (fun m hm=>?_) (fun b u e=>?_) I.bare
  ·obtain ⟨_,f1,_,f3,f4,f5⟩:=hf b hb
   exact ⟨f3,f1,f4,f5⟩
  ·obtain ⟨o1,es,ep,ho,r⟩:=hm
   exact ⟨o1,es,ep,k' _ o1 (fun z=>(hf _ z).2.1 rfl) ho,r⟩
  ·refine (I.hok b u e).stay (fun c v hc q=>k' c v ?_ q) (fun _ q=>q) fun _ _ q=>q
   rcases hc with z | z
   ·rw[z];exact nch b u e
   ·exact nch c _ z
 self:=fun _ _ _ _ _ st h=>nL st.1 h
section
variable {elts:List Expr}{x1:Nat}{tpos:Pos}
noncomputable def Apl(K:aK)(ta:TA):TI:=fun σ H R=>ta σ H fun vs H1=>∃ a b xs ys,vs=[.ref a,.ref b]/\SqT K H1 a xs/\SqT K H1 b ys/\R (Agq false false K a b) H1
theorem Acq{a b:Expr}{ta:TA}{p pos:Pos}(hg:Gl X "zip")(hm:X.mg "zip" = none)(ha:PA X [a,b] ta)(hs:bS [a,b] X.env=(false,eval a X.env)::bS [b] X.env:=by rfl)(hpl:(backTo pos (bS [b] X.env)).any (·.1)=false:=by rfl):PI X (.Tuple elts x1 tpos) (.Call (.Name "zip" p) [a,b] [] pos) (Apl X.K ta):=by
 intro pins s σ H R I h
 refine Call_ (Jm I hg hm X5 (eP (thn (ha pos pins s σ H _ I h) fun us s1 ⟨vs,H1,I1,r1,q1⟩=>?_) hs hpl))
 obtain ⟨l1,l2,xs,ys,rfl,sq1,sq2,q⟩:=q1
 obtain ⟨u,u',rfl,ru,ru'⟩:=Afh r1
 cases ru;cases ru'
 obtain ⟨its1,hv1,pl1,hz1⟩:=I1.tuple sq1
 obtain ⟨its2,hv2,pl2,hz2⟩:=I1.tuple sq2
 have lt1:l1 < s1.heap.objs.size:=by obtain ⟨o,e,_⟩:=pl1;exact aV e
 have lt2:l2 < s1.heap.objs.size:=by obtain ⟨o,e,_⟩:=pl2;exact aV e
 refine ZT.Ah0 pl1 pl2 fun h' o1 o2 o3 o4 o5 o7=>?_
 have I2:L2.Inv X pins σ H1 { s1 with heap:=h' }:=I1.kept (t':=s1.toks) o7
 refine nL o1 ⟨_,_,_,_,H1,rfl,I2,Ve (b1:=false) (b2:=false) l1 l2 _ _ _ _ _ (Vf _ _ _ lt1 lt2),⟨o1,o2,⟨_,_,o3⟩,o4,o5⟩,fun b hb=>?_,q⟩
 have hb':s1.heap.objs.size<=b:=by
  simp only[bH,dE,or_false] at hb
  rcases hb with rfl | rfl | rfl | rfl | rfl <;> first | exact rL _ _ | exact aQ _
 exact L2.Inv.fpOk I1 hb' (I1.hok.fresh hb')
noncomputable def Er(us ws:List U):List U:=(us.zip ws).map fun p=>.tup [p.1,p.2]
theorem Om(us ws:List U)(k:Nat):(Er us ws)[k]? = Lr us[k]? ws[k]?:=by
 unfold Er
 rw[bA,List.zip,List.getElem?_zipWith]
 cases us[k]? <;> cases ws[k]? <;> rfl
theorem Xa{K:aK}{α:List Addr}{b:Addr}{us ws:List U}{ys:List V}(sa:SqT K H a xs)(sb:SqT K H b ys)(ra:RepL K H α us xs)(rb:RepL K H α ws ys):Sl K (Agq false false K a b) (.seq (Er us ws)) H α:=by
 intro H2 α2 L2 g A2 k
 have mv:∀ (c:Addr) (vs:List U) (zs:List V),SqT K H c zs->RepL K H α vs zs->∃ zs2,SqT K H2 c zs2/\RepL K H2 α2 vs zs2:=fun c vs zs s r=>by
  have m:=(show RepU K H α (.tup vs) (.ref c) by unfold RepU;exact ⟨c,zs,rfl,s,r⟩).mono g
  unfold RepU at m
  obtain ⟨c',zs2,e,s2,r2⟩:=m
  cases e
  exact ⟨zs2,s2,r2⟩
 obtain ⟨xs2,sa2,ra2⟩:=mv a us xs sa ra
 obtain ⟨ys2,sb2,rb2⟩:=mv b ws ys sb rb
 refine ⟨fun u eu=>?_,fun eu=>?_⟩
 ·have eu:(Er us ws)[k]? = some u:=by simpa[IU.at] using eu
  rw[Om] at eu
  cases h1:us[k]? with
  | none=>rw[h1] at eu;simp[Lr] at eu
  | some u1=>
   cases h2:ws[k]? with
   | none=>rw[h1,h2] at eu;simp[Lr] at eu
   | some u2=>
    rw[h1,h2] at eu
    simp[Lr] at eu
    subst eu
    obtain ⟨x,hx,rx⟩:=ra2.get h1
    obtain ⟨y,hy,ry⟩:=rb2.get h2
    refine ⟨⟨xs2,ys2,x,y,sa2,sb2,hx,hy⟩,?_⟩
    rintro z H3 ⟨p,v,v',hp,rfl,rfl,hy1,hy2⟩
    have e1:=hy1 xs2 sa2
    have e2:=hy2 ys2 sb2
    rw[hx] at e1;cases e1
    rw[hy] at e2;cases e2
    exact A2.tup (.cons rx (.cons ry .nil)) hp
 ·have eu:(Er us ws)[k]? = none:=by simpa[IU.at] using eu
  rw[Om] at eu
  refine ⟨xs2,ys2,sa2,sb2,?_⟩
  cases h1:us[k]? with
  | none=>left;rw[<- ra2.length];exact cV.mp h1
  | some u1=>
   cases h2:ws[k]? with
   | none=>right;rw[<- rb2.length];exact cV.mp h2
   | some u2=>rw[h1,h2] at eu;simp[Lr] at eu
end
end MR
namespace MR
open PySem PySem.Spec PyProof.Rows PySem.Calls L2
theorem Ajt{bs:List Bool}:∀ {us:List aJ},Vals (bs.map V.bl) us->∀ (i:Nat) (v:aJ),us[i]? = some v->∃ b,bs[i]? = some b/\v = .bool b:=by
 induction bs with
 | nil=>intro us r i v e;rw[cU] at r;cases r;simp at e
 | cons n ns ih=>
  intro us r i v e
  rw[aL] at r
  cases r with
  | cons r1 r2=>
   cases i with
   | zero=>simp at e;subst e;exact ⟨n,rfl,r1⟩
   | succ i=>simpa using ih r2 i v (by simpa using e)
theorem Aj0{bs:List Bool}:∀ {us:List aJ},Vals (bs.map V.bl) us->us.length=bs.length:=by
 induction bs with
 | nil=>intro us r;rw[cU] at r;cases r;rfl
 | cons n ns ih=>
  intro us r
  rw[aL] at r
  cases r with
  | cons r1 r2=>simp[ih r2]
theorem Ah4(bs:List Bool):((dB bs.length).all fun i=>(bs[i]?).getD true)=bs.all id:=by
 rw[jN,cF,cF]
 constructor
 ·intro h b hb
  obtain ⟨i,hi,e⟩:=cY hb
  have:=h i (eI.mpr hi)
  simp only[aC hi,nM,e] at this
  exact this
 ·intro h i hi
  have hi':=eI.mp hi
  simp only[aC hi',nM]
  exact h _ (cN hi')
section
variable {X:Cx}
theorem Ah3{s:aN}{h':Heap}{o:Obj}(hk:∀ b x,b∉[s.heap.objs.size]->(s.heap.push o).get? b=some x->h'.get? b=some x):∀ b x,s.heap.get? b=some x->h'.get? b=some x:=
 fun b x e=>hk b x (fun hm=>by rw[bC.mp hm] at e;exact eJ _ (aV e)) (aE _ e)
theorem Qb(hc:X.calm=true):CallR X (.builtin "all") (fun xs H Q=>∃ (p:Addr) (bs:List Bool),xs=[.ref p]/\SqL X.K H p (bs.map V.bl)/\Q (.bl (bs.all id)) H):=by
 intro pins s σ H xs us Q I r h
 obtain ⟨p,bs,rfl,hq,q⟩:=h
 obtain ⟨u,rfl,rx⟩:=Gx r
 cases rx
 obtain ⟨its,r',pl,hz⟩:=I.list hq
 have hl:=pl.isList
 have hlt:p < s.heap.objs.size:=by obtain ⟨_,e,_⟩:=hl;exact aV e
 refine call_all_walk (iV hl ?_)
 refine ⟨s.heap.objs.size,[s.heap.objs.size,p],[s.heap.objs.size],its.toArray.size,_,_,fun i=>(bs[i]?).getD true,rfl,Walks.list (A:=tY _) (I.ok.hd hc) _ p (bV hlt) its.toArray,
  ⟨⟨_,bE _ rfl,rfl,rfl⟩,hl.push _⟩,fun i v s' Q' E' hP hQ=>?_,fun h' tk hk=>?_⟩
 ·obtain ⟨b,e,rfl⟩:=Ajt r' i v (by simpa using hP)
  simp only[e,nM] at hQ
  exact jX hQ
 ·have e:((dB its.toArray.size).all fun i=>(bs[i]?).getD true)=bs.all id:=by
   rw[aP,Aj0 r'];exact Ah4 bs
  rw[e]
  exact ⟨.bl (bs.all id),H,I.kept (Ah3 hk),rfl,q⟩
end
noncomputable def toB:U->Option Bool
 | .bl b=>some b
 | _=>none
variable {K:aK}
theorem Abi{H:Hp}{α:List Addr}:∀ {us:List U} {xs:List V} {bs:List Bool},RepL K H α us xs->mapO toB us=some bs->xs=bs.map V.bl
 | [],xs,ys,r,h=>by unfold RepL at r;subst r;cases h;rfl
 | u::us,xs,ys,r,h=>by
  unfold RepL at r
  obtain ⟨x,xr,rfl,r1,r2⟩:=r
  obtain ⟨y,e1,h⟩:=aB.mp h
  obtain ⟨yr,e2,h⟩:=aH.mp h
  subst h
  cases u <;> simp only[toB] at e1 <;> first
   | (cases e1;unfold RepU at r1;subst r1;rw[Abi r2 e2];rfl)
   | cases e1
noncomputable def Kw:SC:=fun us L=>match us with
 | [.ref n]=>(A7 L n).bind fun l=>(mapO toB l).map fun bs=>(.bl (bs.all id),L)
 | _=>none
theorem Wr:Qz K (fun xs H Q=>∃ (p:Addr) (bs:List Bool),xs=[.ref p]/\SqL K H p (bs.map V.bl)/\Q (.bl (bs.all id)) H) Kw:=by
 intro H α L us xs z L' Q A r e q
 unfold Kw at e
 split at e
 ·obtain ⟨l,hl,e⟩:=aB.mp e
  obtain ⟨bs,e1,e⟩:=aH.mp e
  cases e
  obtain ⟨x,rfl,rx⟩:=r.one
  obtain ⟨a,ys,rfl,sq,r2⟩:=Hw A hl rx
  rw[Abi r2 e1] at sq
  exact ⟨a,bs,rfl,sq,q _ H α (.refl _ _) A rfl⟩
 ·cases e
section
variable {X:Cx}
noncomputable def Abx:V->List V->Hp->VK->Prop:=fun x vs H Q=>∃ l xs i y,x = .ref l/\vs=[.int i,y]/\H l=some (.lst xs)/\0<=i/\i < 2 ^ 63/\xs.length < sizeLine/\Q .non (upd H l (.lst (xs.take (min i.toNat xs.length)++y::xs.drop (min i.toNat xs.length))))
theorem Km:MtM X "list.insert" Abx:=by
 intro pins s σ H x vs v us Q I rx rv h
 obtain ⟨l,xs,i,y,rfl,rfl,hH,h1,h2,hz,q⟩:=h
 cases rx
 obtain ⟨u,w,rfl,ru,rw'⟩:=rv.two
 obtain ⟨t,rfl⟩:=ru
 obtain ⟨z,its,n,r,hl,e⟩:=I.lstM hH
 have hf:mF i=true:=by
  unfold mF
  simp only[cL,decide_eq_true_eq]
  omega
 refine jQ F.slot_list_insert ⟨_,e,rfl⟩ F.entry_list_insert (F.args_list_insert_3 _ _ _)
  (AutoSeq1.list_insert_list_int_val_1 l its.toArray n i t w (by simp[hf]) (by rw[aP];omega)) ⟨e,?_⟩
 refine ⟨.non,_,I.lset (its':=its.take (min i.toNat xs.length)++w::its.drop (min i.toNat xs.length)) hH e ?_ ((r.take _).append (.cons rw' (r.drop _))) ?_,rfl,q⟩
 ·show (its.toArray.extract 0 (if i < 0 then (i+(its.toArray.size:Int)).toNat else min i.toNat its.toArray.size)).push w++its.toArray.extract (if i < 0 then (i+(its.toArray.size:Int)).toNat else min i.toNat its.toArray.size)=_
  rw[if_neg (by omega),PySem.W.kl_ins_eq,aP,<- hl]
 ·rw[bB,aY,cH,cS]
  omega
end
noncomputable def C4:SM:=fun u us L=>match u,us with
 | .ref n,[.int i,y]=>(Ef L n).bind fun l=>if 0<=i/\i < 2 ^ 63/\l.length < sizeLine then some (.non,L.set n (.lst (l.take (min i.toNat l.length)++y::l.drop (min i.toNat l.length)))) else none
 | _,_=>none
theorem Jd:Tj K Abx C4:=by
 intro H α L u us x xs z L' Q A ru r e q
 unfold C4 at e
 split at e
 ·rename_i n i y0
  obtain ⟨l,hl,e⟩:=aB.mp e
  split at e
  ·rename_i hs
   cases e
   obtain ⟨v,y,rfl,rv,ry⟩:=r.two
   unfold RepU at rv
   subst rv
   obtain ⟨a,ys,rfl,ea,h,r2⟩:=Ij A hl ru
   have hlen:=r2.length
   obtain ⟨g,A'⟩:=A.setL hl ea h ((r2.take (min i.toNat l.length)).append (.cons ry (r2.drop (min i.toNat l.length))))
   have q1:=q _ _ _ g A' rfl
   rw[hlen] at q1 hs
   exact ⟨a,ys,_,y,rfl,rfl,h,hs.1,hs.2.1,hs.2.2,q1⟩
  ·cases e
 ·cases e
noncomputable def Qd:SM:=fun u us L=>match u,us with
 | .ref n,[.ref m]=>(Ef L n).bind fun l=>(Ef L m).bind fun l'=>if l.length+l'.length<=sizeLine then some (.non,L.set n (.lst (l++l'))) else none
 | _,_=>none
theorem Aah:Tj K Rk Qd:=by
 intro H α L u us x xs z L' Q A ru r e q
 unfold Qd at e
 split at e
 ·obtain ⟨l,hl,e⟩:=aB.mp e
  obtain ⟨l',hl',e⟩:=aB.mp e
  split at e
  ·rename_i hs
   cases e
   obtain ⟨v,rfl,rv⟩:=r.one
   obtain ⟨a,ys,rfl,ea,h,r2⟩:=Ij A hl ru
   obtain ⟨b,ws,rfl,eb,h',r3⟩:=Ij A hl' rv
   obtain ⟨g,A'⟩:=A.setL hl ea h (r2.append r3)
   exact ⟨a,b,ys,ws,rfl,rfl,h,h',by rw[<- r2.length,<- r3.length];exact hs,q _ _ _ g A' rfl⟩
  ·cases e
 ·cases e
end MR
namespace ZT
open PySem PySem.Spec PyProof.Rows
open Sem (wp)
section
variable {prog:cT}{w:eO}{A:eS}{E:aJ->aN->Prop}{s:aN}
end
section
variable {prog:cT}{w:eO}{A:eS}{E:aJ->aN->Prop}{s:aN}
end
end ZT
namespace MR
open PySem PySem.Spec PyProof.Rows L2
variable {X:Cx}
section
variable {elts:List Expr}{x1:Nat}{tpos:Pos}
end
structure CompScC(X:Cx)(scope:nF)(N':List Str)(ix:List (Option Nat)):Prop where
 kind:scope.kind = .function
 own:(scope.names.all fun y=>scope.names.lookup y.1 == some y.2)=true
 free:(scope.names.all fun y=>y.2 != .free || (X.env.kindOf y.1 == some .cell || X.env.kindOf y.1 == some .free))=true
 ixs:((N'.zip ix).all fun p=>match p.2 with | none=>true | some i=>(X.N[i]? == some p.1)&&(scope.names.lookup p.1 == some .free))=true
 len:N'.length=ix.length
section
variable {scope:nF}{N':List Str}{ix:List (Option Nat)}{pins:List (Addr×Obj)}{σ:L2.St}{H2:Hp}{s2:aN}{cl:List (Str×Addr)}{fp:List Addr}
end
section
variable {scope:nF}{N':List Str}{ix:List (Option Nat)}{elt tg iter c:Expr}{pos:Pos}{fi:FI}{g:FG}{ft:FT}{fe:FE}
end
section
variable {tg:Expr}
end
end MR
namespace ZT
open PySem PySem.Spec PyProof.Rows
open Sem (wp)
section
variable {prog:cT}{w:eO}{A:eS}{s:aN}{R:sR->aN->Prop}
variable {I:Addr}{fp wr:List Addr}{G:Array lU->Array lU->Prop}{n:Nat}{P:Nat->aJ->Prop}{St:Nat->aN->Prop}
end
section
variable {prog:cT}{w:eO}{A:eS}{E:aJ->aN->Prop}{s:aN}
variable {I:Addr}{fp wr:List Addr}{G:Array lU->Array lU->Prop}{n:Nat}{P:Nat->aJ->Prop}{St:Nat->aN->Prop}
end
end ZT
namespace MR
open PySem PySem.Spec PyProof.Rows PySem.Calls L2
section
variable {X:Cx}
end
end MR
namespace ZT
open PySem PySem.Spec PyProof.Rows HT
section
variable {prog:cT}{w:eO}{A:eS}{E:aJ->aN->Prop}{s:aN}
theorem N0{t sl:Addr}{items:Array aJ}{vl vu:aJ}{lo hi:Option Int}{Q:aJ->aN->Prop}(ht:sP s.heap t items)(hs:s.heap.IsSliceOf sl vl vu .none)(pl:lW vl lo)(pu:lW vu hi)
  (hw:sIx items.size 0 lo=0/\sIx items.size items.size hi=items.size) (h:Q (.ref t) s):wpAny (model prog w) A (getItem (.ref t) (.ref sl)) Q E s:=by
 obtain ⟨os,hos,hcs,hds⟩:=id hs
 have hTs:s.TypeIs (.ref sl) "slice" := ⟨os,hos,hcs⟩
 unfold getItem
 try with_reducible refine cZ ?_
 first | refine aD (aM ?_) | skip
 refine aD (mR ht.typeIs (by decide) ?_)
 refine aD (eR (name:=dG "__getitem__") ht.typeIs cO
  (fL cO ht.typeIs lK ?_ (lX _ _)))
 show wpAny _ _ (iY (.ref t) >>= _) _ _ s
 refine aD (pL ht ?_)
 refine aD (kC hTs ?_)
 rw[if_pos (by decide)]
 refine aD (Kk hs pl pu ?_)
 have hyes:((((sIx items.size 0 lo:Nat):Int) == 0&&(1:Int) == 1&&(sIx items.size items.size hi - sIx items.size 0 lo) == items.size)=true):=by
  rw[hw.1,hw.2];simp
 show wpAny _ _ (if (((sIx items.size 0 lo:Nat):Int) == 0&&(1:Int) == 1&&(sIx items.size items.size hi - sIx items.size 0 lo) == items.size)=true then _ else _) _ _ s
 rw[if_pos hyes]
 unfold iP.Tuple.tupleIsExact
 refine aD (aD (kC ht.typeIs (aM ?_)))
 rw[if_pos (by decide)]
 refine aD (mE ?_)
 first
  | exact aM ⟨_,rfl,aM h⟩
  | exact aD (aM ⟨_,rfl,aM h⟩)
  | exact aD (aM (aM ⟨_,rfl,aM h⟩))
  | trace_state
end
end ZT
namespace MR
open PySem PySem.Spec PyProof.Rows PySem.Calls L2
variable {X:Cx}
section
variable {tg:Expr}
noncomputable def Anm(K:aK):V->Option Int->Option Int->Hp->VK->Prop:=fun x lo hi H Q=>∃ a xs,x = .ref a/\SqT K H a xs/\(HT.sIx xs.length 0 lo=0/\HT.sIx xs.length xs.length hi=xs.length)/\Q (.ref a) H
theorem Afu:SlR X (Anm X.K):=by
 intro pins s σ H x v vl vu lo hi sl Q I rx hs pl pu h
 obtain ⟨a,xs,rfl,hx,hw,q⟩:=h
 cases rx
 obtain ⟨its,r,ht,hz⟩:=I.tuple hx
 have hlen:its.toArray.size=xs.length:=by rw[aP];exact r.length.symm
 refine ⟨"tuple",_,cO.lookup,ht.typeIs,?_⟩
 exact ZT.N0 ht hs pl pu (by rw[hlen];exact hw) ⟨.ref a,H,I,rfl,q⟩
noncomputable def Cs:SS:=fun u lo hi L=>match u with
 | .tup l=>if HT.sIx l.length 0 lo=0/\HT.sIx l.length l.length hi=l.length then some (.tup l,L) else some (.tup (Me l lo hi),L)
 | .ref n=>(A7 L n).map fun l=>(.ref L.length,L++[.lst (Me l lo hi)])
 | _=>none
theorem G7:SlR X (fun x lo hi H Q=>Adm X.K x lo hi H Q\/Anm X.K x lo hi H Q):=P8.or Afu
theorem G5{K:aK}:Aby K (fun x lo hi H Q=>Adm K x lo hi H Q\/Anm K x lo hi H Q) Cs:=by
 intro H α L u x lo hi z L' Q A ru e q
 cases u with
 | tup l=>
  by_cases hw:HT.sIx l.length 0 lo=0/\HT.sIx l.length l.length hi=l.length
  ·unfold Cs at e
   simp only at e
   rw[if_pos hw] at e
   cases e
   have ru':=ru
   unfold RepU at ru
   obtain ⟨a,ys,rfl,sq,r2⟩:=ru
   exact .inr ⟨a,ys,rfl,sq,by rw[<- r2.length];exact hw,q _ H α (.refl _ _) A ru'⟩
  ·refine .inl (Mm H α L (.tup l) x lo hi z L' Q A ru ?_ q)
   unfold Cs at e
   unfold Hz
   simp only at e ⊢
   rw[if_neg hw] at e ⊢
   exact e
 | ref n=>exact .inl (Mm H α L (.ref n) x lo hi z L' Q A ru e q)
 | _=>cases e
end
section
noncomputable def Aku(K:aK):R2:=fun x y H Q=>∃ a b ys,x = .ref a/\y = .ref b/\SqT K H a []/\SqT K H b ys/\Q (.ref b) H
theorem Aik:OpR X (fW .Add) (Aku X.K):=by
 intro pins s σ H x y v u Q I rx ry h
 obtain ⟨a,b,ys,rfl,rfl,ha,hb,q⟩:=h
 cases rx
 cases ry
 obtain ⟨its,r1,p1,_⟩:=I.tuple ha
 obtain ⟨its2,r2,p2,_⟩:=I.tuple hb
 have he:its=[]:=r1.nil_iff.mpr rfl
 obtain ⟨⟨cls,dd,data,sl⟩,ho,hc,n,hd⟩:=id p1
 obtain ⟨⟨cls2,dd2,data2,sl2⟩,ho2,hc2,n2,hd2⟩:=id p2
 simp only at hc hd hc2 hd2
 subst hc hd hc2 hd2
 exact qF ⟨_,ho,rfl⟩ ⟨_,ho2,rfl⟩ nH pK kB jT (jF _ _)
  (tuple_addW0 a b its.toArray its2.toArray n n2 dd dd2 sl sl2 (by simp[he])) ⟨ho,ho2,⟨.ref b,H,I,rfl,q⟩⟩
end
noncomputable def Bq:S2:=fun u w L=>match u,w with
 | .tup [],.tup b=>some (.tup b,L)
 | u,w=>Bc u w L
noncomputable def Akp(K:aK):R2:=fun x y H Q=>Agr K x y H Q\/Aku K x y H Q
theorem Ge:OpR X (fW .Add) (Akp X.K):=C2.or Aik
theorem Eg{K:aK}:Ew K (Akp K) Bq:=by
 intro H α L u w x y z L' Q A ru rw e q
 unfold Bq at e
 split at e
 ·cases e
  have rw':=rw
  unfold RepU at ru rw
  obtain ⟨a,xs,rfl,sq,r2⟩:=ru
  obtain ⟨b,ys,rfl,sq',r2'⟩:=rw
  unfold RepL at r2
  subst r2
  exact .inr ⟨a,b,ys,rfl,rfl,sq,sq',q _ H α (.refl _ _) A rw'⟩
 ·exact .inl (C1 H α L _ _ x y z L' Q A ru rw e q)
@[simp] theorem Ak1(i j:Int)(L:UH):Bq (.int i) (.int j) L=some (.int (i+j),L):=rfl
end MR
namespace MR
open PySem PyProof.Rows L2
section
variable {X:Cx}
noncomputable def Apg(i j:Int):Prop:=0<=j/\(dH i:Int)+j<=2 ^ 27
theorem Ajj:OpR X (fW .LShift) (rI Apg fun i j=>.int (i * 2 ^ j.toNat)):=opI fun _ _ _ _ _ _ _ hc q=>lshift_int hc.1 hc.2 q
noncomputable def Amk:V->Option Int->Option Int->Hp->VK->Prop:=fun x lo hi H Q=>∃ a,x = .str a/\a.length<=sizeLine/\Q (.str (eX a lo hi)) H
theorem Ak5:SlR X Amk:=by
 intro pins s σ H x v vl vu lo hi sl Q I rx hs pl pu h
 obtain ⟨a,rfl,hl,q⟩:=h
 obtain ⟨t,rfl⟩:=rx
 refine ⟨"str",_,F.slot_str_getitem.lookup,sW _ _ _,?_⟩
 have fin:∀ (t':Tok) (k:Nat),EP X pins σ Q (.str (eX a lo hi) t') { s with toks:=k }:=fun t' k=>⟨.str (eX a lo hi),H,I.tok k,⟨_,rfl⟩,q⟩
 have hz:(eX a lo hi).length<=sizeLine:=cJ (lP a _ _) hl
 cases pl with
 | none=>
  cases pu with
  | none=>exact iM (l:=none) (u:=none) (st:=none) hs rfl (lF ⟨hz,fin⟩)
  | int j tj=>exact iM (l:=none) (u:=some (j,tj)) (st:=none) hs rfl (lF ⟨hz,fin⟩)
 | int i ti=>
  cases pu with
  | none=>exact iM (l:=some (i,ti)) (u:=none) (st:=none) hs rfl (lF ⟨hz,fin⟩)
  | int j tj=>exact iM (l:=some (i,ti)) (u:=some (j,tj)) (st:=none) hs rfl (lF ⟨hz,fin⟩)
noncomputable def Ako:V->List V->Hp->VK->Prop:=fun x vs H Q=>∃ (a:Str) (l:Addr) (ys:List Str),x = .str a/\vs=[.ref l]/\H l=some (.lst (ys.map V.str))/\a.length<=16/\(ys.map (·.length)).sum+ys.length<=1048576/\Q (.str (tD a ys)) H
theorem R8:∀ {its:List aJ} {ys:List Str},Vals (ys.map V.str) its->StrsAre its ys
 | its,[],r=>by rw[cU] at r;cases r;exact .nil
 | its,y::ys,r=>by
  rw[aL] at r
  cases r with
  | cons r1 r2=>
   obtain ⟨t',rfl⟩:=r1
   exact .cons _ _ (R8 r2)
theorem Aih:MtR X "str.join" Ako:=by
 intro pins s σ H x vs v us Q I rx rv h
 obtain ⟨a,l,ys,rfl,rfl,hH,ha,hw,q⟩:=h
 obtain ⟨t,rfl⟩:=rx
 obtain ⟨u,rfl,ru⟩:=rv.one
 cases ru
 obtain ⟨z,its,n,r,hl,e⟩:=I.lstM hH
 exact join_listW ⟨_,e,rfl,_,rfl⟩ (by simpa using R8 r) ha hw fun t' k=>⟨.str (tD a ys),H,I.tok k,⟨_,rfl⟩,q⟩
end
noncomputable def Xb(i j:Int):Bool:=decide (0<=j)&&decide ((dH i:Int)+j<=2 ^ 27)
noncomputable def Pc:S2:=Ac2 Xb fun i j=>.int (i * 2 ^ j.toNat)
variable {K:aK}
theorem Ae5:Ew K (rI Apg fun i j=>.int (i * 2 ^ j.toNat)) Pc:=Ab0 (fun i j h=>by simp only[Xb,cL,decide_eq_true_eq] at h;exact h) fun _ _ _ _=>rfl
noncomputable def Dr:SS:=fun u lo hi L=>match u with
 | .str x=>if Dy x.length=true then some (.str (eX x lo hi),L) else none
 | u=>Hz u lo hi L
theorem Nf{X:Cx}:SlR X (fun x lo hi H Q=>Adm X.K x lo hi H Q\/Amk x lo hi H Q):=P8.or Ak5
theorem Nq:Aby K (fun x lo hi H Q=>Adm K x lo hi H Q\/Amk x lo hi H Q) Dr:=by
 intro H α L u x lo hi z L' Q A ru e q
 cases u with
 | str a=>
  unfold Dr at e
  simp only at e
  split at e
  ·rename_i hs
   cases e
   unfold RepU at ru
   subst ru
   exact .inr ⟨a,rfl,Fz hs,q _ H α (.refl _ _) A rfl⟩
  ·cases e
 | tup l=>exact .inl (Mm H α L (.tup l) x lo hi z L' Q A ru e q)
 | ref n=>exact .inl (Mm H α L (.ref n) x lo hi z L' Q A ru e q)
 | _=>cases e
noncomputable def toS:U->Option Str
 | .str a=>some a
 | _=>none
theorem Rg{H:Hp}{α:List Addr}:∀ {us:List U} {xs:List V} {ys:List Str},RepL K H α us xs->mapO toS us=some ys->xs=ys.map V.str
 | [],xs,ys,r,e=>by
  unfold RepL at r
  cases e
  exact r
 | u::us,xs,ys,r,e=>by
  unfold RepL at r
  obtain ⟨x,xr,rfl,rx,r⟩:=r
  unfold mapO at e
  obtain ⟨y,hy,e⟩:=aB.mp e
  obtain ⟨yr,hyr,e⟩:=aH.mp e
  cases e
  cases u with
  | str a=>
   cases hy
   unfold RepU at rx
   rw[rx,Rg r hyr];rfl
  | _=>cases hy
noncomputable def K9:SM:=fun u us L=>match u,us with
 | .str a,[.ref n]=>(Ef L n).bind fun l=>(mapO toS l).bind fun ys=>if a.length<=16/\(ys.map (·.length)).sum+ys.length<=1048576 then some (.str (tD a ys),L) else none
 | _,_=>none
theorem Afw:Tj K Ako K9:=by
 intro H α L u us x xs z L' Q A ru r e q
 unfold K9 at e
 split at e
 ·obtain ⟨l,hl,e⟩:=aB.mp e
  obtain ⟨ys,hys,e⟩:=aB.mp e
  split at e
  ·rename_i hc
   cases e
   unfold RepU at ru
   subst ru
   obtain ⟨v,rfl,rv⟩:=r.one
   obtain ⟨a',zs,rfl,ea,h,r2⟩:=Ij A hl rv
   rw[Rg r2 hys] at h
   exact ⟨_,a',ys,rfl,rfl,h,hc.1,hc.2,q _ H α (.refl _ _) A rfl⟩
  ·cases e
 ·cases e
end MR
namespace MR
open PySem PySem.W PyProof.Rows L2
theorem Rz:∀ (ns:List Int) (n:Int),n∈ns->dH n<=lH (ns.map nJ)
 | [],_,h=>by cases h
 | m::ns,n,h=>by
  have e:lH ((m::ns).map nJ)=dH m+1+lH (ns.map nJ):=by
   rw[aL,lH,tO];rfl
  rw[e]
  rcases bH.mp h with rfl | h
  ·omega
  ·have:=Rz ns n h;omega
theorem Ub{ns:List Int}(h:rM [tW (ns.map nJ)]=true):∀ n∈ns,dH n<=2 ^ 20:=by
 intro n hn
 unfold rM at h
 rw[kR,cL] at h
 have h1:=h.1
 unfold WData.layable at h1
 rw[cL] at h1
 have h2:=of_decide_eq_true h1.2
 rw[tO] at h2
 exact cJ (Rz ns n hn) h2
end MR
namespace Att
open PySem PySem.W PySem.Calls PyProof.Rows L2 MR
theorem Anh{l:lR}{k:Nat}{q:cT}{loose:List Str}{XP:(Str->Option aJ)->Heap->Prop}{YP:eO->Heap->Prop}{d:DefRec}{K:Params->aK}{m:FN}{x:Str}
  (hn:l.most=some 63) (hdf:d.params.defaults=[]) (hr:Room k callerA) (hY:∀ (w:eO) (h:Heap),YP w h->(K w.params).In h)
  (F:∀ (w:eO) (mg:Str->Option aJ) (fa:Addr) (h:Heap),(K w.params).In h->h.Ns bF mg->mg d.name=some (.ref fa) ->
   ∃ fd:cM,(∀ (s:aN) (u:aJ),pF s fd ⟨[u],[]⟩ [(x,u)])/\∀ base:Heap,(K w.params).In base->base.Ns bF mg->FnOk l.prog w (K w.params) mg base CX0 k fa fd [x] (spF (K w.params) 1 m))
  (ht:∀ ns:List Int,ns.length<=63->(∀ n∈ns,dH n<=2 ^ 20)->∃ L',m [.ref 0] [.ro (ns.map U.int)]=some (.bl true,L')) :
  tH q loose XP YP l.row.toRowW d [] (fun f vs=>tZ f vs):=by
 intro w s₀ s₁ mg mb G Y fa o pm cd doc dV kV ho hd hcd hD hmg hg args vals as hpre hlay hrd hwl hlo
 obtain rfl:dV = .none:=Dflts.none hD hdf
 obtain rfl:kV = .none:=Dflts.noKw hD
 obtain ⟨a,vs,ns,rfl,rfl,hobj,hints,hlen⟩:=Aeo hn hpre hwl
 have KX:=hY w _ Y
 obtain ⟨fd,hb,hF⟩:=F w mg fa _ KX G.T.g hmg
 have hwt:=Ub hlay
 have all:=Agi KX G.T.g G.T.b G.T.builtins G.T.nolimit hg hobj hints (cJ hlen (by decide)) hr hF hb (fun H hO hS=>Al7 hO hS (ht ns hlen hwt)) fun H e s' z=>z
 refine enter_call (kA all fun r s' hq=>?_)
 obtain ⟨rfl,h2,h3,h4⟩:=hq
 exact ⟨.inl ⟨.bool true,.bool true,[],rfl,fun _=>rfl,.bool true,Adz l _,fun _=>⟨List.Pairwise.nil,fun _ hm=>(nomatch hm)⟩⟩,h2,h3,h4⟩
end Att
namespace MR
open PySem PyProof.Rows L2
noncomputable def g0(us ws:List aJ):List aJ:=match us with | []=>ws | _=>[]
section
variable {X:Cx}{k:Nat}{f:Addr}{fd:cM}{p:Str}{ps:List Str}{x:Str}{pp pos kpos:Pos}{e:Expr}{kws:List jJ}{nm:Option Str}
end
end MR
namespace MR
open PySem PySem.Spec PyProof.Rows PySem.Calls L2
section
variable {X:Cx}
end
section
variable {X:Cx}
end
end MR
namespace MR
open PySem PyProof.Rows L2
noncomputable def O7:SM:=fun u us L=>match u,us with
 | .ref n,[]=>(Ef L n).bind fun l=>(l[l.length - 1]?).map fun y=>(y,L.set n (.lst l.dropLast))
 | _,_=>none
variable {K:aK}{H:Hp}{α:List Addr}
theorem RepL.init:∀ {us:List U} {xs:List V},RepL K H α us xs->RepL K H α us.dropLast xs.dropLast
 | [],xs,r=>by unfold RepL at r;subst r;exact .nil
 | [u],xs,r=>by
  unfold RepL at r
  obtain ⟨x,xr,rfl,rx,r⟩:=r
  unfold RepL at r
  subst r
  exact .nil
 | u::w::us,xs,r=>by
  unfold RepL at r
  obtain ⟨x,xr,rfl,rx,r⟩:=r
  have r':=r
  unfold RepL at r'
  obtain ⟨y,yr,rfl,ry,_⟩:=r'
  exact .cons rx (RepL.init r)
theorem Ahr:Tj K Apj O7:=by
 intro H α L u us x xs z L' Q A ru r e q
 unfold O7 at e
 split at e
 ·obtain ⟨l,hl,e⟩:=aB.mp e
  obtain ⟨y,ey,e⟩:=aH.mp e
  cases e
  unfold RepL at r
  subst r
  obtain ⟨a,ys,rfl,ea,h,r2⟩:=Ij A hl ru
  obtain ⟨w,ew,rw⟩:=r2.get ey
  obtain ⟨g,A'⟩:=A.setL hl ea h (RepL.init r2)
  exact ⟨a,ys,w,rfl,rfl,h,by rw[<- r2.length];exact ew,q _ _ _ g A' (rw.mono g)⟩
 ·cases e
noncomputable def toK:U->Option Key
 | .int i=>some (.inl i)
 | .str x=>some (.inr x)
 | _=>none
variable {u:U}{x:V}{k:Key}
theorem V6(r:RepU K H α u x)(h:toK u=some k):x=kV k:=by
 cases u <;> simp only[toK] at h <;> first | (cases h;unfold RepU at r;exact r) | cases h
noncomputable def Qw(kvs:List (Key×U))(k:Key):Option U:=(kvs.find? fun kv=>decide (kv.1=k)).map (·.2)
noncomputable def Uc(kvs:List (Key×U))(k:Key)(v:U):List (Key×U):=
 if (kvs.any fun kv=>decide (kv.1=k))=true then kvs.map (fun kv=>if kv.1=k then (kv.1,v) else kv) else kvs++[(k,v)]
variable {kvs:List (Key×U)}{vs:List (Key×V)}
section
noncomputable def RepKV(K:aK)(H:Hp)(α:List Addr)(kvs:List (Key×U))(vs:List (Key×V)):Prop:=kvs.map (·.1)=vs.map (·.1)/\RepL K H α (kvs.map (·.2)) (vs.map (·.2))
theorem RepKV.nil:RepKV K H α [] []:=⟨rfl,.nil⟩
theorem RepKV.cons{kv:Key×U}(h:RepKV K H α (kv::kvs) vs):∃ x vs',vs=(kv.1,x)::vs'/\RepU K H α kv.2 x/\RepKV K H α kvs vs':=by
 obtain ⟨h1,h2⟩:=h
 cases vs with
 | nil=>simp at h1
 | cons w vs'=>
  simp only[aL,oI] at h1
  rw[aL,aL] at h2
  unfold RepL at h2
  obtain ⟨x,xr,hx,rx,r⟩:=h2
  injection hx with e1 e2
  subst e1
  refine ⟨w.2,vs',by rw[h1.1],rx,h1.2,?_⟩
  rw[e2];exact r
theorem RepKV.mk(r:RepU K H α u x)(h:RepKV K H α kvs vs):RepKV K H α ((k,u)::kvs) ((k,x)::vs):=
 ⟨by simp[h.1],by rw[aL,aL];exact .cons r h.2⟩
theorem RepKV.val:∀ {kvs:List (Key×U)} {vs:List (Key×V)},RepKV K H α kvs vs->Qw kvs k=some u->∃ x,Pg vs k=some x/\RepU K H α u x
 | [],vs,_,e=>by simp[Qw] at e
 | kv::kvs,vs,r,e=>by
  obtain ⟨x,vs',rfl,rx,r'⟩:=r.cons
  unfold Qw at e
  unfold Pg
  rw[fH] at e ⊢
  by_cases h:kv.1=k
  ·simp only[h,decide_true,aF] at e ⊢
   cases e
   exact ⟨x,rfl,rx⟩
  ·simp only[h,decide_false] at e ⊢
   exact RepKV.val r' e
theorem RepKV.any:∀ {kvs:List (Key×U)} {vs:List (Key×V)},RepKV K H α kvs vs->(kvs.any fun kv=>decide (kv.1=k))=(vs.any fun kv=>decide (kv.1=k))
 | [],vs,r=>by
  obtain ⟨h1,_⟩:=r
  cases vs with
  | nil=>rfl
  | cons _ _=>simp at h1
 | kv::kvs,vs,r=>by
  obtain ⟨x,vs',rfl,rx,r'⟩:=r.cons
  rw[iJ,iJ,RepKV.any r']
theorem RepKV.len(r:RepKV K H α kvs vs):kvs.length=vs.length:=by
 have:=congrArg jS r.1
 simpa using this
theorem RepKV.upd(ru:RepU K H α u x):∀ {kvs:List (Key×U)} {vs:List (Key×V)},RepKV K H α kvs vs->RepKV K H α (kvs.map fun kv=>if kv.1=k then (kv.1,u) else kv) (vs.map fun kv=>if kv.1=k then (kv.1,x) else kv)
 | [],vs,r=>by
  obtain ⟨h1,_⟩:=r
  cases vs with
  | nil=>exact .nil
  | cons _ _=>simp at h1
 | kv::kvs,vs,r=>by
  obtain ⟨y,vs',rfl,ry,r'⟩:=r.cons
  rw[aL,aL]
  by_cases h:kv.1=k
  ·rw[if_pos h,if_pos h]
   exact .mk ru (RepKV.upd ru r')
  ·rw[if_neg h,if_neg h]
   exact .mk ry (RepKV.upd ru r')
theorem RepKV.add(ru:RepU K H α u x):∀ {kvs:List (Key×U)} {vs:List (Key×V)},RepKV K H α kvs vs->RepKV K H α (kvs++[(k,u)]) (vs++[(k,x)])
 | [],vs,r=>by
  obtain ⟨h1,_⟩:=r
  cases vs with
  | nil=>exact .mk ru .nil
  | cons _ _=>simp at h1
 | kv::kvs,vs,r=>by
  obtain ⟨y,vs',rfl,ry,r'⟩:=r.cons
  exact .mk ry (RepKV.add ru r')
theorem RepKV.put(ru:RepU K H α u x)(r:RepKV K H α kvs vs):RepKV K H α (Uc kvs k u) (Mb vs k x):=by
 unfold Uc Mb
 rw[r.any]
 split
 ·exact r.upd ru
 ·exact r.add ru
theorem RepKV.mono{H':Hp}{α':List Addr}(r:RepKV K H α kvs vs)(g:Gr H α H' α'):RepKV K H' α' kvs vs:=⟨r.1,r.2.mono g⟩
end
noncomputable def E2(L:UH)(n:Nat):Option (List (Key×U)):=match L[n]? with
 | some (.dic kvs)=>some kvs
 | _=>none
variable {L:UH}{n:Nat}
theorem Rv(h:E2 L n=some kvs):L[n]? = some (.dic kvs):=by
 unfold E2 at h
 split at h
 ·rename_i e;cases h;exact e
 ·cases h
inductive ref_dic_I(K:aK)(H:Hp)(α:List Addr)(n:Nat)(x:V)(kvs:List (Key×U)):Prop
 | mk (a:_) (vs:_) (h0:x = .ref a) (h1:α[n]? = some a) (h2:H a=some (.dK vs)) (h3:RepKV K H α kvs vs):ref_dic_I K H α n x kvs
theorem Ph(A:Abs K H α L)(h:E2 L n=some kvs)(r:RepU K H α (.ref n) x):ref_dic_I K H α n x kvs:=by
 unfold RepU at r
 obtain ⟨a,ea,rfl⟩:=r
 obtain ⟨vs,e,k1,k2⟩:=A.rep n a _ ea (Rv h)
 exact ⟨a,vs,rfl,ea,e,k1,k2⟩
theorem Abs.setD{a:Addr}{ws:List (Key×V)}{kws:List (Key×U)}(A:Abs K H α L)(h:E2 L n=some kvs)(ea:α[n]? = some a)(e:H a=some (.dK vs))(r:RepKV K H α kws ws) :
  Gr H α (upd H a (.dK ws)) α/\Abs K (upd H a (.dK ws)) α (L.set n (.dic kws)):=by
 have g:Gr H α (upd H a (.dK ws)) α:=⟨⟨[],by simp⟩,.write e (by exact trivial) _⟩
 obtain ⟨A',_⟩:=A.put (o:=.dK ws) (u:=.dic kws) ea (Rv h) rfl rfl e (by exact trivial) ⟨ws,upd_same,(r.mono g).1,(r.mono g).2⟩
 exact ⟨g,A'⟩
section
variable {X:Cx}{o i value:Expr}{pos pos':Pos}{fo fi fv:FE}
noncomputable def Abd:FE:=fun _ L=>some (.ref L.length,L++[.dic []])
theorem Ajs:PEF X (.Dict [] [] pos) Abd:=by
 refine PE.imp Aft ?_
 rintro σ H Q ⟨α,δ,L,A,S,z,L3,e,q⟩
 cases e
 intro p hp
 have g:Gr H α (upd H p (.dK [])) (α ++ [p]):=⟨⟨[p],rfl⟩,.new hp _⟩
 obtain ⟨A',_⟩:=A.new (o:=.dK []) (u:=.dic []) hp ⟨[],upd_same,rfl,.nil⟩
 refine q _ _ _ g A' ?_
 unfold RepU
 exact ⟨p,by rw[<- A.len];simp,rfl⟩
noncomputable def Iy(fo fi:FE):FE:=fun δ L=>(fo δ L).bind fun p=>(fi δ p.2).bind fun q=>match p.1 with
 | .ref n=>(toK q.1).bind fun k=>(E2 q.2 n).bind fun kvs=>(Qw kvs k).map fun u=>(u,q.2)
 | _=>none
theorem Np(hu:X.A.units+64 < cLine)(ho:PEF X o fo)(hi:PEF X i fi)(hs:Amp i):PEF X (.Subscript o i pos) (Iy fo fi):=by
 refine PE.imp (Ah2 (by omega) ho hi hs) ?_
 rintro σ H Q ⟨α,δ,L,A,S,z,L3,e,q⟩
 obtain ⟨⟨u,L1⟩,e1,e⟩:=aB.mp e
 obtain ⟨⟨w,L2⟩,e2,e⟩:=aB.mp e
 refine ⟨α,δ,L,A,S,u,L1,e1,fun x H1 α1 g1 A1 r1=>⟨α1,δ,L1,A1,S.mono g1,w,L2,e2,fun y H2 α2 g2 A2 r2=>?_⟩⟩
 simp only at e
 split at e
 ·obtain ⟨k,hk,e⟩:=aB.mp e
  obtain ⟨kvs,hd,e⟩:=aB.mp e
  obtain ⟨v,hv,e⟩:=aH.mp e
  cases e
  obtain ⟨a,vs,rfl,ea,ha,rk⟩:=Ph A2 hd (r1.mono g2)
  obtain ⟨x',hx',rx'⟩:=rk.val hv
  refine ⟨a,x',rfl,?_,q _ _ _ (g1.trans g2) A2 rx'⟩
  rw[V6 r2 hk,<- hx']
  exact DGet.k ha
 ·cases e
noncomputable def Acg(fo fi fv:FE):FS:=fun δ L=>(fv δ L).bind fun p=>(fo δ p.2).bind fun q=>(fi δ q.2).bind fun r=>match q.1 with
 | .ref n=>(toK r.1).bind fun k=>(E2 r.2 n).bind fun kvs=>if kvs.length < 1000000 then some (.nx δ,r.2.set n (.dic (Uc kvs k p.1))) else none
 | _=>none
theorem Ags(hu:X.A.units+64 < cLine)(ho:PEF X o fo)(hi:PEF X i fi)(hv:PEF X value fv)(hs:swapsWith value (some (.Subscript o i pos')) pos.line X.env=pure false:=by rfl):PSF X (.Assign [.Subscript o i pos'] value pos) (Acg fo fi fv):=by
 refine PS.imp (Aib (by omega) ho hi hv hs) ?_
 rintro D σ H ⟨α,δ,L,A,S,fl,L',e,q⟩
 obtain ⟨⟨v,L1⟩,e1,e⟩:=aB.mp e
 obtain ⟨⟨u,L2⟩,e2,e⟩:=aB.mp e
 obtain ⟨⟨w,L3⟩,e3,e⟩:=aB.mp e
 refine ⟨α,δ,L,A,S,v,L1,e1,fun xv H1 α1 g1 A1 rv=>⟨α1,δ,L1,A1,S.mono g1,u,L2,e2,fun x H2 α2 g2 A2 rx=>⟨α2,δ,L2,A2,(S.mono g1).mono g2,w,L3,e3,fun y H3 α3 g3 A3 ry=>?_⟩⟩⟩
 simp only at e
 split at e
 ·obtain ⟨k,hk,e⟩:=aB.mp e
  obtain ⟨kvs,hd,e⟩:=aB.mp e
  split at e
  ·rename_i hl
   cases e
   obtain ⟨a,vs,rfl,ea,ha,rk⟩:=Ph A3 hd (rx.mono g3)
   have rv':=rv.mono (g2.trans g3)
   obtain ⟨g4,A4⟩:=A3.setD hd ea ha (rk.put (k:=k) rv')
   refine ⟨a,_,rfl,?_,q σ _ α3 ((g1.trans (g2.trans g3)).trans g4) A4 ((((S.mono g1).mono g2).mono g3).mono g4)⟩
   rw[V6 ry hk]
   exact DPut.k ha (by rw[<- rk.len];unfold sizeLine;omega)
  ·cases e
 ·cases e
end
theorem Aqb{β:Type}{P:List β->Prop}(h:P [])(us:List β)(hl:us.length=0):P us:=by
 cases us with
 | nil=>exact h
 | cons=>cases hl
theorem Anc{β:Type}{P:List β->Prop}(h:∀ (a:β) (us:List β),us.length=n->P (a::us))(us:List β)(hl:us.length=n+1):P us:=by
 cases us with
 | nil=>cases hl
 | cons a us=>exact h a us (tP hl)
theorem Qi{β:Type}{P:List β->Prop}(h:∀ a,P [a]):∀ us:List β,us.length=1->P us:=Anc fun a=>Aqb (h a)
theorem Mi{β:Type}{P:List β->Prop}(h:∀ a b,P [a,b]):∀ us:List β,us.length=2->P us:=Anc fun a=>Qi (h a)
theorem Ane{β:Type}{P:List β->Prop}(h:∀ a b c,P [a,b,c]):∀ us:List β,us.length=3->P us:=Anc fun a=>Mi (h a)
section
variable {X:Cx}{elts:List Expr}{x1:Nat}{tpos:Pos}
noncomputable def Na(g:FA):FI:=fun δ L=>(g δ L).bind fun p=>match p.1 with
 | [.tup us,.tup ws]=>some (.seq (Er us ws),p.2)
 | _=>none
theorem Sh{a b:Expr}{g:FA}{p pos:Pos}(hg:Gl X "zip")(hm:X.mg "zip" = none)(ha:PAF X [a,b] g)(hs:bS [a,b] X.env=(false,eval a X.env)::bS [b] X.env:=by rfl)(hpl:(backTo pos (bS [b] X.env)).any (·.1)=false:=by rfl):PIF X (.Tuple elts x1 tpos) (.Call (.Name "zip" p) [a,b] [] pos) (Na g):=by
 refine PI.imp (Acq hg hm ha hs hpl) ?_
 rintro σ H R ⟨α,δ,L,A,S,i,L3,e,q⟩
 obtain ⟨⟨us,L1⟩,e1,ee⟩:=aB.mp e
 simp only at ee
 split at ee
 ·cases ee
  refine ⟨α,δ,L,A,S,_,_,e1,fun xs H1 α1 g1 A1 r1=>?_⟩
  obtain ⟨x,y,rfl,rx,ry⟩:=r1.two
  unfold RepU at rx ry
  obtain ⟨a',ys,rfl,sq,r2⟩:=rx
  obtain ⟨b',ys',rfl,sq',r2'⟩:=ry
  exact ⟨a',b',ys,ys',rfl,sq,sq',q _ H1 α1 g1 A1 (Xa sq sq' r2 r2')⟩
 ·cases ee
end
end MR
namespace MR
open PySem L2
@[simp] theorem fVar_eq(i:Nat)(δ:UE)(L:UH):Aa i δ L=(δ[i]?).join.map fun u=>(u,L):=rfl
@[simp] theorem fC_eq(u:U)(δ:UE)(L:UH):fC u δ L=some (u,L):=rfl
@[simp] theorem f2_eq(s:S2)(a b:FE)(δ:UE)(L:UH):f2 s a b δ L=(a δ L).bind fun p=>(b δ p.2).bind fun q=>s p.1 q.1 q.2:=rfl
@[simp] theorem fTest_eq(f:FE)(δ:UE)(L:UH):Ax f δ L=(f δ L).bind fun p=>match p.1 with | .bl k=>some (k,p.2) | _=>none:=rfl
@[simp] theorem fAnd_eq(f g:FT)(δ:UE)(L:UH):Jp f g δ L=(f δ L).bind fun p=>if p.1=true then g δ p.2 else some (false,p.2):=rfl
@[simp] theorem fOr_eq(f g:FT)(δ:UE)(L:UH):fOr f g δ L=(f δ L).bind fun p=>if p.1=true then some (true,p.2) else g δ p.2:=rfl
@[simp] theorem Acb(f:FT)(δ:UE)(L:UH):X3 f δ L=(f δ L).map fun p=>(!p.1,p.2):=rfl
@[simp] theorem Jo(f g:FE)(δ:UE)(L:UH):Hc f g δ L=(f δ L).bind fun p=>match p.1 with | .bl k=>if k=true then g δ p.2 else some (.bl false,p.2) | _=>none:=rfl
@[simp] theorem Ap7(f g:FE)(δ:UE)(L:UH):Ap9 f g δ L=(f δ L).bind fun p=>match p.1 with | .bl k=>if k=true then some (.bl true,p.2) else g δ p.2 | _=>none:=rfl
@[simp] theorem Ao1(f:FE)(δ:UE)(L:UH):Aow f δ L=(f δ L).bind fun p=>match p.1 with | .bl k=>some (.bl (!k),p.2) | _=>none:=rfl
@[simp] theorem Amy(c:FT)(f g:FE)(δ:UE)(L:UH):fIf c f g δ L=(c δ L).bind fun p=>if p.1=true then f δ p.2 else g δ p.2:=rfl
@[simp] theorem fNil_eq(δ:UE)(L:UH):Af δ L=some ([],L):=rfl
@[simp] theorem fCons_eq(f:FE)(g:FA)(δ:UE)(L:UH):Ac f g δ L=(f δ L).bind fun p=>(g δ p.2).map fun q=>(p.1::q.1,q.2):=rfl
@[simp] theorem Nt(g:FA)(δ:UE)(L:UH):C0 g δ L=(g δ L).bind fun p=>if Dy p.1.length=true then some (.tup p.1,p.2) else none:=rfl
@[simp] theorem fLst_eq(g:FA)(δ:UE)(L:UH):Cu g δ L=(g δ L).bind fun p=>if Dy p.1.length=true then some (.ref p.2.length,p.2++[.lst p.1]) else none:=rfl
@[simp] theorem fCall_eq(s:SC)(g:FA)(δ:UE)(L:UH):Ap s g δ L=(g δ L).bind fun p=>s p.1 p.2:=rfl
@[simp] theorem fOwn_eq(n:Nat)(F:FN)(g:FA)(δ:UE)(L:UH):Ay n F g δ L=(g δ L).bind fun p=>if p.1.length=n then F p.1 p.2 else none:=rfl
@[simp] theorem fMeth_eq(T:String)(s:SM)(f:FE)(g:FA)(δ:UE)(L:UH):Ck T s f g δ L=(f δ L).bind fun p=>if tyU T p.1 p.2=true then (g δ p.2).bind fun q=>s p.1 q.1 q.2 else none:=rfl
@[simp] theorem fPart_eq(f:FE)(δ:UE)(L:UH):Bo f δ L=(f δ L).bind fun p=>match p.1 with | .int i=>some (some i,p.2) | _=>none:=rfl
@[simp] theorem fNoPart_eq(δ:UE)(L:UH):A0 δ L=some (none,L):=rfl
@[simp] theorem fSl_eq(s:SS)(f:FE)(l h:FO)(δ:UE)(L:UH):fSl s f l h δ L=(f δ L).bind fun p=>(l δ p.2).bind fun q=>(h δ q.2).bind fun r=>s p.1 q.1 r.1 r.2:=rfl
@[simp] theorem Ap2(f:FE)(δ:UE)(L:UH):J7 f δ L=(f δ L).bind fun p=>match p.1 with | .int i=>some (.int (-i),p.2) | _=>none:=rfl
@[simp] theorem fTru_eq(f:FE)(δ:UE)(L:UH):Ny f δ L=(f δ L).bind fun p=>(Qj p.1 p.2).map fun k=>(k,p.2):=rfl
@[simp] theorem Ap3(c:String)(f:FE)(δ:UE)(L:UH):Aj1 c f δ L=(f δ L).bind fun p=>(Wb p.1 p.2).map fun t=>(.bl (isT t c),p.2):=rfl
@[simp] theorem Mp(δ:UE)(L:UH):Bl δ L=some (.nx δ,L):=rfl
@[simp] theorem fSeq_eq(f g:FS)(δ:UE)(L:UH):Ar f g δ L=(f δ L).bind fun p=>match p.1 with | .nx δ'=>g δ' p.2 | fl=>some (fl,p.2):=rfl
@[simp] theorem fRet_eq(f:FE)(δ:UE)(L:UH):Cf f δ L=(f δ L).map fun p=>(.rt p.1,p.2):=rfl
@[simp] theorem Fy(f:FE)(δ:UE)(L:UH):Di f δ L=(f δ L).map fun p=>(.nx δ,p.2):=rfl
@[simp] theorem Ao3(δ:UE)(L:UH):Ao8 δ L=some (.rt .non,L):=rfl
@[simp] theorem fIfS_eq(c:FT)(f g:FS)(δ:UE)(L:UH):B8 c f g δ L=(c δ L).bind fun p=>if p.1=true then f δ p.2 else g δ p.2:=rfl
@[simp] theorem gN_eq(i:Nat)(u:U)(δ:UE)(L:UH):gN i u δ L=some (δ.set i (some u),L):=rfl
@[simp] theorem Aid(δ:UE)(L:UH):MR.gNil [] δ L=some (δ,L):=rfl
@[simp] theorem Ag6(f:FG)(g:FGs)(u:U)(r:List U)(δ:UE)(L:UH):MR.gCons f g (u::r) δ L=(f u δ L).bind fun p=>g r p.1 p.2:=rfl
@[simp] theorem Ap5(n:Nat)(g:FGs)(us:List U)(δ:UE)(L:UH):MR.gTup n g (.tup us) δ L=if us.length=n then g us δ L else none:=rfl
@[simp] theorem gSub_eq(a b:FE)(v:U)(δ:UE)(L:UH):MR.gSub a b v δ L=(a δ L).bind fun p=>(b δ p.2).bind fun q=>match p.1,q.1 with
 | .ref n,.int k=>(Ef q.2 n).bind fun l=>(ixN l.length k).map fun j=>(δ,q.2.set n (.lst (l.set j v)))
 | _,_=>none:=rfl
@[simp] theorem fAsg_eq(f:FE)(g:FG)(δ:UE)(L:UH):Av f g δ L=(f δ L).bind fun p=>(g p.1 δ p.2).map fun q=>(.nx q.1,q.2):=rfl
@[simp] theorem Abr(fi:FI)(g:FG)(b:FS)(δ:UE)(L:UH):Fx fi g b δ L=(fi δ L).bind fun p=>Ly p.1 g b (p.1.size p.2+1) 0 δ p.2:=rfl
@[simp] theorem Dq(f:FE)(δ:UE)(L:UH):Bb f δ L=(f δ L).bind fun p=>(W4 p.1 p.2).map fun i=>(i,p.2):=rfl
@[simp] theorem Agd(g:FA)(δ:UE)(L:UH):G9 g δ L=(g δ L).bind fun p=>match p.1 with
 | [.int j]=>if -(2 ^ 62)<=j/\j < 2 ^ 62 then some (.seq (D8 0 j.toNat),p.2) else none
 | _=>none:=rfl
@[simp] theorem semAdd_int(i j:Int)(L:UH):Bc (.int i) (.int j) L=some (.int (i+j),L):=rfl
@[simp] theorem semSub_int(i j:Int)(L:UH):Gq (.int i) (.int j) L=some (.int (i - j),L):=rfl
@[simp] theorem Amw(i j:Int)(L:UH):Bx (.int i) (.int j) L=if Js i j=true then some (.int (i * j),L) else none:=rfl
@[simp] theorem Amo(i j:Int)(L:UH):Jl (.int i) (.int j) L=if Uw i j=true then some (.int (i / j),L) else none:=rfl
@[simp] theorem Amq(i j:Int)(L:UH):Eo (.int i) (.int j) L=if decide (0 < j)=true then some (.int (i % j),L) else none:=rfl
@[simp] theorem Am7(i j:Int)(L:UH):H0 (.int i) (.int j) L=if Vj i j=true then some (.int (i ^ j.toNat),L) else none:=rfl
@[simp] theorem Aob(i j:Int)(L:UH):Vg (.int i) (.int j) L=some (.bl (decide (i<=j)),L):=rfl
@[simp] theorem Aoa(i j:Int)(L:UH):S6 (.int i) (.int j) L=some (.bl (decide (i < j)),L):=rfl
@[simp] theorem An9(i j:Int)(L:UH):Qk (.int i) (.int j) L=some (.bl (decide (j < i)),L):=rfl
@[simp] theorem An8(i j:Int)(L:UH):Ss (.int i) (.int j) L=some (.bl (decide (j<=i)),L):=rfl
@[simp] theorem Gp(i j:Int)(L:UH):A8 (.int i) (.int j) L=some (.bl (i == j),L):=rfl
@[simp] theorem Aej(i j:Int)(L:UH):B2 (.int i) (.int j) L=some (.bl (!(i == j)),L):=rfl
@[simp] theorem Ao9(i j:Bool)(L:UH):A8 (.bl i) (.bl j) L=some (.bl (i == j),L):=rfl
@[simp] theorem Aez(i j:Bool)(L:UH):B2 (.bl i) (.bl j) L=some (.bl (!(i == j)),L):=rfl
@[simp] theorem Apu(i j:Bool)(L:UH):Ap0 false (.bl i) (.bl j) L=some (.bl (i == j),L):=rfl
@[simp] theorem Qa(l:List U)(i:Int)(L:UH):Ak (.tup l) (.int i) L=(L2.atI l i).map fun z=>(z,L):=rfl
@[simp] theorem semIx_ref(n:Nat)(i:Int)(L:UH):Ak (.ref n) (.int i) L=(A7 L n).bind fun l=>(L2.atI l i).map fun z=>(z,L):=rfl
@[simp] theorem Ap6(b:Bool)(L:UH):Qj (.bl b) L=some b:=rfl
variable {L:UH}{n:Nat}{us:List U}
theorem Al(h:L[n]? = some (.lst us)):A7 L n=some us:=by unfold A7;rw[h]
theorem C7(h:L[n]? = some (.lst us)):Ef L n=some us:=by unfold Ef;rw[h]
theorem small_of(h:n<=16777216):Dy n=true:=by unfold Dy sizeLine;exact decide_eq_true (by omega)
variable {i:Int}
theorem Je{β:Type}{l:List β}(h0:0<=i)(h:i < l.length):L2.atI l i=l[i.toNat]?:=by
 unfold L2.atI ixN
 rw[if_pos h0,if_pos h];rfl
theorem Anr(h0:0<=i)(h:i < n):ixN n i=some i.toNat:=by
 unfold ixN
 rw[if_pos h0,if_pos h]
variable {j:Int}
theorem Nh(h1:-1000000000000000000<=i)(h2:i<=1000000000000000000):Js i j=true:=by
 unfold Js;simp only[oH,cL,decide_eq_true_eq];left;constructor <;> omega
theorem O1(h1:-1000000000000000000<=j)(h2:j<=1000000000000000000):Js i j=true:=by
 unfold Js;simp only[oH,cL,decide_eq_true_eq];right;constructor <;> omega
theorem Ry(h1:0 < j)(h2:j < 1152921504606846976):Uw i j=true:=by
 unfold Uw;simp only[cL,decide_eq_true_eq];exact ⟨h1,h2⟩
noncomputable def Y5(g:FG)(body:FS)(u:U)(δ:UE)(L:UH)(R:UE->UH->Prop):Prop:=∃ δ1 L1,g u δ L=some (δ1,L1)/\∃ δ2 L2,(body δ1 L1=some (.nx δ2,L2)\/body δ1 L1=some (.ct δ2,L2))/\R δ2 L2
variable {it:IU}{g:FG}{body:FS}
theorem S3(P:Nat->UE->UH->Prop)(hat:∀ k δ L,k<=us.length->P k δ L->it.at k L=some us[k]?)
  (step:∀ k u δ L,us[k]? = some u->P k δ L->Y5 g body u δ L (P (k+1))) :
  ∀ (m k:Nat) (δ:UE) (L:UH),us.length < m+k->k<=us.length->P k δ L->∃ δ' L',Ly it g body m k δ L=some (.nx δ',L')/\P us.length δ' L'
 | 0,k,δ,L,h1,h2,_=>by omega
 | m+1,k,δ,L,h1,h2,hP=>by
  have hk:=hat k δ L h2 hP
  unfold Ly
  rw[hk]
  cases hu:us[k]? with
  | none=>
   have:k=us.length:=by have:=cV.mp hu;omega
   subst this
   exact ⟨δ,L,rfl,hP⟩
  | some u=>
   have hlt:k < us.length:=(aG.mp hu).1
   obtain ⟨δ1,L1,e1,δ2,L2,e2,hP2⟩:=step k u δ L hu hP
   obtain ⟨δ',L',e3,hP3⟩:=S3 P hat step m (k+1) δ2 L2 (by omega) (by omega) hP2
   refine ⟨δ',L',?_,hP3⟩
   rcases e2 with e2 | e2
   ·simp only[e1,aA,e2,e3]
   ·simp only[e1,aA,e2,e3]
variable {fi:FI}{δ:UE}{L0:UH}
theorem O9(P:Nat->UE->UH->Prop)(hi:fi δ L=some (.seq us,L0))(h0:P 0 δ L0)(step:∀ k u δ L,us[k]? = some u->P k δ L->Y5 g body u δ L (P (k+1))) :
  ∃ δ' L',Fx fi g body δ L=some (.nx δ',L')/\P us.length δ' L':=by
 obtain ⟨δ',L',e,h⟩:=S3 (it:=.seq us) (g:=g) (body:=body) (us:=us) P (fun _ _ _ _ _=>rfl) step (us.length+1) 0 δ L0 (by omega) (by omega) h0
 exact ⟨δ',L',by rw[Abr,hi];exact e,h⟩
theorem Q6(P:Nat->UE->UH->Prop)(hi:fi δ L=some (.ref n,L0))(h0:P 0 δ L0)(hl:∀ k δ L,P k δ L->A7 L n=some us)(step:∀ k u δ L,us[k]? = some u->P k δ L->Y5 g body u δ L (P (k+1))) :
  ∃ δ' L',Fx fi g body δ L=some (.nx δ',L')/\P us.length δ' L':=by
 have hat:∀ k δ L,k<=us.length->P k δ L->(IU.ref n).at k L=some us[k]?:=fun k δ L _ hp=>by
  have:=hl k δ L hp
  unfold A7 at this
  unfold IU.at
  simp only
  split at this
  ·rename_i e;cases this;first | rw[e] | rfl
  ·rename_i e;cases this;first | rw[e] | rfl
  ·cases this
 have hsz:(IU.ref n).size L0=us.length:=by
  have:=hl 0 δ L0 h0
  unfold A7 at this
  unfold IU.size
  simp only
  split at this
  ·rename_i e;cases this;first | rw[e] | rfl
  ·rename_i e;cases this;first | rw[e] | rfl
  ·cases this
 obtain ⟨δ',L',e,h⟩:=S3 (it:=.ref n) (g:=g) (body:=body) (us:=us) P hat step (us.length+1) 0 δ L0 (by omega) (by omega) h0
 exact ⟨δ',L',by rw[Abr,hi];simp only[aA,hsz];exact e,h⟩
theorem Dg(h:A7 L n=some us):W4 (.ref n) L=some (.ref n):=by
 unfold A7 at h
 unfold W4
 simp only
 split at h
 ·rename_i e;first | rw[e] | rfl
 ·rename_i e;first | rw[e] | rfl
 ·cases h
variable {k:Nat}{u:U}
theorem Lm{lo:Int}(h:(D8 lo n)[k]? = some u):k < n/\u = .int (lo+k):=by
 unfold D8 at h
 rw[bA] at h
 by_cases hk:k < n
 ·rw[pI hk] at h
  simp at h
  exact ⟨hk,h.symm⟩
 ·rw[iU (by simpa using hk)] at h
  simp at h
theorem Oo{lo:Int}:(D8 lo n).length=n:=by simp[D8]
@[simp] theorem Ao7(g:FA)(δ:UE)(L:UH):Uo g δ L=(g δ L).bind fun p=>match p.1 with
 | [.ref n]=>(A7 p.2 n).map fun _=>(.enm n,p.2)
 | _=>none:=rfl
@[simp] theorem Ap4(g:FA)(δ:UE)(L:UH):Aql g δ L=(g δ L).bind fun p=>match p.1 with
 | [.ref n,.ref m]=>(A7 p.2 n).bind fun _=>(A7 p.2 m).map fun _=>(.zip2 n m,p.2)
 | _=>none:=rfl
@[simp] theorem Ack(f:FE)(δ:UE)(L:UH):W0 f δ L=(f δ L).bind fun p=>match p.1 with | .ref n=>(A7 p.2 n).map fun l=>(.ref p.2.length,p.2++[.lst l.reverse]) | .tup l=>some (.tup l.reverse,p.2) | _=>none:=rfl
@[simp] theorem Apx(g:FA)(δ:UE)(L:UH):Akk g δ L=(g δ L).bind fun p=>match p.1 with
 | [.int i,.int j]=>if (-(2 ^ 62)<=i/\i < 2 ^ 62)/\(-(2 ^ 62)<=j/\j < 2 ^ 62) then some (.seq (D8 i (j - i).toNat),p.2) else none
 | _=>none:=by first | rfl | (unfold Akk;rfl)
variable {tt:Option FT}{fe:FE}
theorem Sy(P:Nat->List U->UE->UH->Prop)(hat:∀ k acc δ L,k<=us.length->P k acc δ L->it.at k L=some us[k]?)
  (step:∀ k u acc δ L,us[k]? = some u->P k acc δ L->∃ δ1 L1,g u δ L=some (δ1,L1)/\∃ b L2,Jw tt δ1 L1=some (b,L2)/\(b=true->∃ r L3,fe δ1 L2=some (r,L3)/\acc.length < 16777216/\P (k+1) (acc++[r]) δ1 L3)/\(b=false->P (k+1) acc δ1 L2)) :
  ∀ (m k:Nat) (acc:List U) (δ:UE) (L:UH),us.length < m+k->k<=us.length->P k acc δ L->∃ ys δ' L',Tr it g tt fe m k acc δ L=some (ys,L')/\P us.length ys δ' L'
 | 0,k,acc,δ,L,h1,h2,_=>by omega
 | m+1,k,acc,δ,L,h1,h2,hP=>by
  have hk:=hat k acc δ L h2 hP
  unfold Tr
  rw[hk]
  cases hu:us[k]? with
  | none=>
   have:k=us.length:=by have:=cV.mp hu;omega
   subst this
   exact ⟨acc,δ,L,rfl,hP⟩
  | some u=>
   have hlt:k < us.length:=(aG.mp hu).1
   obtain ⟨δ1,L1,e1,b,L2,e2,h3,h4⟩:=step k u acc δ L hu hP
   cases b with
   | true=>
    obtain ⟨r,L3,e3,hl,hP2⟩:=h3 rfl
    obtain ⟨ys,δ',L',e4,hP3⟩:=Sy P hat step m (k+1) (acc++[r]) δ1 L3 (by omega) (by omega) hP2
    refine ⟨ys,δ',L',?_,hP3⟩
    have hz:decide (acc.length < sizeLine)=true:=decide_eq_true (by unfold sizeLine;omega)
    simp only[e1,aA,e2,e3,if_true,hz,e4]
   | false=>
    obtain ⟨ys,δ',L',e4,hP3⟩:=Sy P hat step m (k+1) acc δ1 L2 (by omega) (by omega) (h4 rfl)
    refine ⟨ys,δ',L',?_,hP3⟩
    simp only[e1,aA,e2,e4,bX,if_false]
theorem Abe{ix:List (Option Nat)}(P:Nat->List U->UE->UH->Prop)(hi:fi δ L=some (it,L0))(hsz:us.length<=it.size L0)(h0:P 0 [] (Mx ix δ) L0)
  (hat:∀ k acc δ L,k<=us.length->P k acc δ L->it.at k L=some us[k]?)
  (step:∀ k u acc δ L,us[k]? = some u->P k acc δ L->∃ δ1 L1,g u δ L=some (δ1,L1)/\∃ b L2,Jw tt δ1 L1=some (b,L2)/\(b=true->∃ r L3,fe δ1 L2=some (r,L3)/\acc.length < 16777216/\P (k+1) (acc++[r]) δ1 L3)/\(b=false->P (k+1) acc δ1 L2)) :
  ∃ ys δ' L',Bu ix fi g tt fe δ L=some (.ref L'.length,L'++[.lst ys])/\P us.length ys δ' L':=by
 obtain ⟨ys,δ',L',e,h⟩:=Sy P hat step (it.size L0+1) 0 [] (Mx ix δ) L0 (by omega) (by omega) h0
 refine ⟨ys,δ',L',?_,h⟩
 unfold Bu
 simp only[hi,aA,e,aF]
theorem Lj(h:A7 L n=some us):(IU.ref n).at k L=some us[k]?:=by
 unfold A7 at h
 unfold IU.at
 simp only
 split at h
 ·rename_i e;cases h;first | rw[e] | rfl
 ·rename_i e;cases h;first | rw[e] | rfl
 ·cases h
theorem Gs(h:A7 L n=some us):(IU.ref n).size L=us.length:=by
 unfold A7 at h
 unfold IU.size
 simp only
 split at h
 ·rename_i e;cases h;first | rw[e] | rfl
 ·rename_i e;cases h;first | rw[e] | rfl
 ·cases h
noncomputable def enU(us:List U):List U:=us.mapIdx fun k u=>.tup [.int k,u]
theorem Am2(h:A7 L n=some us):(IU.enm n).at k L=some (enU us)[k]?:=by
 show (A7 L n).map _=_
 rw[h]
 simp[enU]
theorem Ahd(h:A7 L n=some us):(IU.enm n).size L=(enU us).length:=by
 show (match A7 L n with | some us=>us.length | none=>0)=_
 rw[h];simp[enU]
theorem Cq{β:Type}{ix:List (Option Nat)}(as:List β)(rep:β->U)(f:β->Bool)(e:β->U)(E:UE->Prop)(hi:fi δ L=some (it,L0))(hsz:as.length<=it.size L0)(hl:as.length < 16777216)(h0:E (Mx ix δ))
  (hat:∀ k x,it.at k (L0++x)=some (as.map rep)[k]?)
  (step:∀ (a:β) δ x,a∈as->E δ->∃ δ1,g (rep a) δ (L0++x)=some (δ1,L0++x)/\E δ1/\∃ y,Jw tt δ1 (L0++x)=some (f a,L0++x++y)/\(f a=true->∃ z,fe δ1 (L0++x++y)=some (e a,L0++x++y++z))) :
  ∃ x,Bu ix fi g tt fe δ L=some (.ref (L0++x).length,L0++x++[.lst ((as.filter f).map e)]):=by
 obtain ⟨ys,δ',L',e1,⟨h1,h2,x,rfl⟩,h3⟩:=Abe (us:=as.map rep) (ix:=ix) (tt:=tt) (g:=g) (fe:=fe) (δ:=δ) (fun k acc δ L=>(acc=((as.take k).filter f).map e/\E δ/\∃ x,L=L0++x)/\acc.length<=k) hi (by simpa using hsz) ⟨⟨rfl,h0,[],by simp⟩,by simp⟩
  (fun k acc δ L _ zz=>by obtain ⟨⟨_,_,x,hx⟩,_⟩:=zz;rw[hx];exact hat k x)
  (fun k u acc δ L hu zz=>by
   obtain ⟨⟨ha,hE,x,hx⟩,hlen⟩:=zz
   subst hx
   rw[bA] at hu
   obtain ⟨a,hk,rfl⟩:=aH.mp hu
   have hk':=(aG.mp hk).1
   obtain ⟨δ1,g1,E1,y,t1,r1⟩:=step a δ x (aW hk) hE
   have ht:as.take (k+1)=as.take k++[a]:=by
    rw[eA,hk];rfl
   refine ⟨δ1,_,g1,f a,_,t1,fun hf=>?_,fun hf=>?_⟩
   ·obtain ⟨z,q⟩:=r1 hf
    refine ⟨_,_,q,by omega,⟨?_,E1,x++y++z,by simp⟩,by simp;omega⟩
    rw[ha,ht];simp[hf]
   ·refine ⟨⟨?_,E1,x++y,by simp⟩,by omega⟩
    rw[ha,ht];simp[hf])
 refine ⟨x,?_⟩
 rw[e1,h1]
 simp
theorem Em{x:UH}(h:A7 L n=some us):A7 (L++x) n=some us:=by
 unfold A7 at h ⊢
 cases hn:L[n]? with
 | none=>rw[hn] at h;cases h
 | some o=>rw[bG (aG.mp hn).1,hn];rw[hn] at h;exact h
noncomputable def Pl:Nat->U->Prop
 | _,.non=>True
 | _,.int _=>True
 | _,.str x=>oB x=true
 | n+1,.tup l=>∀ u∈l,Pl n u
 | _,_=>False
mutual
noncomputable def pd:U->sZ
 | .non=>.none
 | .bl b=>.bool b
 | .int i=>.int i
 | .str x=>.str x
 | .tup l=>.tuple (pds l)
 | .ref _=>.none
noncomputable def pds:List U->List sZ
 | []=>[]
 | u::r=>pd u::pds r
end
theorem K0{l:List U}:Pl (n+1) (.tup l)↔∀ u∈l,Pl n u:=by rw[Pl]
variable {m:Nat}
theorem Ox(ih:∀ u,Pl n u->toP L m u=some (pd u)):∀ l:List U,(∀ u∈l,Pl n u)->mapO (toP L m) l=some (pds l)
 | [],_=>rfl
 | u::r,h=>by
  simp only[mapO,ih u (h u (aX ..)),Ox ih r (fun x hx=>h x (aT _ hx)),aA,aF,pds]
theorem Qg(L:UH):∀ (n m:Nat) (u:U),n < m->Pl n u->toP L m u=some (pd u)
 | n,0,u,h,_=>by omega
 | n,m+1,.non,_,_=>rfl
 | n,m+1,.int _,_,_=>rfl
 | n,m+1,.str _,_,_=>rfl
 | n,m+1,.bl _,_,h=>by cases n <;> exact absurd h (by simp[Pl])
 | n,m+1,.ref _,_,h=>by cases n <;> exact absurd h (by simp[Pl])
 | 0,m+1,.tup l,_,h=>absurd h (by simp[Pl])
 | n+1,m+1,.tup l,hm,h=>by
  have:=Ox (L:=L) (n:=n) (m:=m) (fun u hu=>Qg L n m u (by omega) hu) l (K0.mp h)
  show (mapO (toP L m) l).map sZ.tuple=_
  rw[this]
  rfl
theorem O8(ih:∀ u,Pl n u->fQ (pd u)=true/\gP (pd u)<=n):∀ l:List U,(∀ u∈l,Pl n u)->kD (pds l)=true/\lJ (pds l)<=n
 | [],_=>⟨rfl,eD _⟩
 | u::r,h=>by
  obtain ⟨a1,a2⟩:=ih u (h u (aX ..))
  obtain ⟨b1,b2⟩:=O8 ih r (fun x hx=>h x (aT _ hx))
  refine ⟨by simp[pds,kD,a1,b1],?_⟩
  simp only[pds,lJ]
  omega
theorem P6:∀ (n:Nat) (u:U),Pl n u->fQ (pd u)=true/\gP (pd u)<=n
 | n,.non,_=>by simp[pd,fQ,gP]
 | n,.int _,_=>by simp[pd,fQ,gP]
 | n,.str x,h=>by
  have h':oB x=true:=by cases n <;> simpa[Pl] using h
  simp[pd,fQ,gP,h']
 | n,.bl _,h=>by cases n <;> exact absurd h (by simp[Pl])
 | n,.ref _,h=>by cases n <;> exact absurd h (by simp[Pl])
 | 0,.tup l,h=>absurd h (by simp[Pl])
 | n+1,.tup l,h=>by
  obtain ⟨a,b⟩:=O8 (fun u hu=>P6 n u hu) l (K0.mp h)
  simp only[pd,fQ,gP]
  exact ⟨a,by omega⟩
theorem Ot(ih:∀ u w,Pl n u->Pl n w->(dJ (pd u) (pd w)=true↔u=w)):∀ l m:List U,(∀ u∈l,Pl n u)->(∀ u∈m,Pl n u)->(iS (pds l) (pds m)=true↔l=m)
 | [],[],_,_=>by simp[pds,iS]
 | [],_::_,_,_=>by simp[pds,iS]
 | _::_,[],_,_=>by simp[pds,iS]
 | u::l,w::m,h1,h2=>by
  simp only[pds,iS,cL,ih u w (h1 u (aX ..)) (h2 w (aX ..)),Ot ih l m (fun x hx=>h1 x (aT _ hx)) (fun x hx=>h2 x (aT _ hx)),oI]
theorem Wk:∀ (n:Nat) (u w:U),Pl n u->Pl n w->(dJ (pd u) (pd w)=true↔u=w)
 | n,.bl _,_,h,_=>by cases n <;> exact absurd h (by simp[Pl])
 | n,.ref _,_,h,_=>by cases n <;> exact absurd h (by simp[Pl])
 | n,_,.bl _,_,h=>by cases n <;> exact absurd h (by simp[Pl])
 | n,_,.ref _,_,h=>by cases n <;> exact absurd h (by simp[Pl])
 | 0,.tup _,_,h,_=>absurd h (by simp[Pl])
 | 0,_,.tup _,_,h=>absurd h (by simp[Pl])
 | n+1,.tup l,.tup m,h1,h2=>by
  simp only[pd,dJ,U.tup.injEq]
  exact Ot (fun u w=>Wk n u w) l m (K0.mp h1) (K0.mp h2)
 | n,.non,.non,_,_=>by simp[pd,dJ]
 | n,.non,.int _,_,_=>by simp[pd,dJ]
 | n,.non,.str _,_,_=>by simp[pd,dJ]
 | n+1,.non,.tup _,_,_=>by simp[pd,dJ]
 | n,.int _,.non,_,_=>by simp[pd,dJ]
 | n,.int _,.int _,_,_=>by simp[pd,dJ]
 | n,.int _,.str _,_,_=>by simp[pd,dJ]
 | n+1,.int _,.tup _,_,_=>by simp[pd,dJ]
 | n,.str _,.non,_,_=>by simp[pd,dJ]
 | n,.str _,.int _,_,_=>by simp[pd,dJ]
 | n,.str _,.str _,_,_=>by simp[pd,dJ]
 | n+1,.str _,.tup _,_,_=>by simp[pd,dJ]
 | n+1,.tup _,.non,_,_=>by simp[pd,dJ]
 | n+1,.tup _,.int _,_,_=>by simp[pd,dJ]
 | n+1,.tup _,.str _,_,_=>by simp[pd,dJ]
noncomputable def eqB(u w:U):Bool:=dJ (pd u) (pd w)
variable {w:U}
theorem Acd(h1:Pl 6 u)(h2:Pl 6 w):eqB u w=true↔u=w:=Wk 6 u w h1 h2
theorem Anq(L:UH)(h1:Pl 6 u)(h2:Pl 6 w):eqP u w L=some (eqB u w):=by
 obtain ⟨a1,a2⟩:=P6 6 u h1
 obtain ⟨b1,b2⟩:=P6 6 w h2
 have s1:fI (pd u)=true:=by unfold fI;rw[a1];simp;omega
 have s2:fI (pd w)=true:=by unfold fI;rw[b1];simp;omega
 unfold eqP
 simp only[Qg L 6 8 u (by decide) h1,Qg L 6 8 w (by decide) h2,aA,s1,s2,and_self,if_true,eqB]
theorem W2(L:UH)(h1:Pl 6 u)(h2:Pl 6 w):B2 u w L=some (.bl (!eqB u w),L):=by unfold B2;rw[Anq L h1 h2];rfl
noncomputable def Su(us ws:List U):Bool:=iS (pds us) (pds ws)
variable {ws:List U}
theorem Mn(h1:∀ u∈us,Pl 6 u)(h2:∀ u∈ws,Pl 6 u):Su us ws=true↔us=ws:=Ot (fun u w=>Wk 6 u w) us ws h1 h2
theorem Abv(e1:A7 L n=some us)(e2:A7 L m=some ws)(h1:∀ u∈us,Pl 6 u)(h2:∀ u∈ws,Pl 6 u):eqP (.ref n) (.ref m) L=some (Su us ws):=by
 obtain ⟨a1,a2⟩:=O8 (P6 6) us h1
 obtain ⟨b1,b2⟩:=O8 (P6 6) ws h2
 have s1:fI (.list (pds us))=true:=by unfold fI;simp[fQ,gP,a1];omega
 have s2:fI (.list (pds ws))=true:=by unfold fI;simp[fQ,gP,b1];omega
 have t1:toP L 8 (.ref n)=some (.list (pds us)):=by
  show (A7 L n).bind (fun l=>(mapO (toP L 7) l).map gF)=_
  rw[e1]
  simp only[aA,Ox (fun u hu=>Qg L 6 7 u (by decide) hu) us h1,aF]
 have t2:toP L 8 (.ref m)=some (.list (pds ws)):=by
  show (A7 L m).bind (fun l=>(mapO (toP L 7) l).map gF)=_
  rw[e2]
  simp only[aA,Ox (fun u hu=>Qg L 6 7 u (by decide) hu) ws h2,aF]
 unfold eqP
 simp only[t1,t2,aA,s1,s2,and_self,if_true,dJ,Su]
theorem Ad1(e1:A7 L n=some us)(e2:A7 L m=some ws)(h1:∀ u∈us,Pl 6 u)(h2:∀ u∈ws,Pl 6 u):A8 (.ref n) (.ref m) L=some (.bl (Su us ws),L):=by unfold A8;rw[Abv e1 e2 h1 h2];rfl
theorem Nm(e1:A7 L n=some us)(e2:A7 L m=some ws)(h1:∀ u∈us,Pl 6 u)(h2:∀ u∈ws,Pl 6 u):B2 (.ref n) (.ref m) L=some (.bl (!Su us ws),L):=by unfold B2;rw[Abv e1 e2 h1 h2];rfl
theorem Pl.int(n:Nat)(i:Int):Pl n (.int i):=by cases n <;> exact trivial
theorem Ajz{g:FA}{L':UH}(hg:g δ L=some ([.int j],L'))(h0:0<=j)(h1:j < 1000000):G9 g δ L=some (.seq (D8 0 j.toNat),L'):=by
 rw[Agd,hg]
 simp only[aA]
 rw[if_pos ⟨by omega,by omega⟩]
theorem Pu{g:FA}{L':UH}(hg:g δ L=some ([.int n],L'))(h1:n < 1000000):G9 g δ L=some (.seq (D8 0 n),L'):=by
 have:=Ajz hg (by omega) (by omega)
 rwa [dZ] at this
end MR
namespace Lw
open PySem L2 MR
variable {g:FG}{body:FS}{us:List U}
theorem U0{it:IU}(P:Nat->UE->UH->Prop)(R:Nat->UH->Prop)(stop:Nat->Bool)(val:Nat->U)(hat:∀ k δ L,k<=us.length->P k δ L->it.at k L=some us[k]?)
  (step:∀ k u δ L,us[k]? = some u->P k δ L->∃ δ1 L1,g u δ L=some (δ1,L1)/\(stop k=true->∃ L2,body δ1 L1=some (.rt (val k),L2)/\R k L2)/\(stop k=false->∃ δ2 L2,body δ1 L1=some (.nx δ2,L2)/\P (k+1) δ2 L2)) :
  ∀ (m k:Nat) (δ:UE) (L:UH),us.length < m+k->k<=us.length->P k δ L ->
   (∃ j,k<=j/\j < us.length/\stop j=true/\(∀ i,k<=i->i < j->stop i=false)/\∃ L',Ly it g body m k δ L=some (.rt (val j),L')/\R j L')\/((∀ i,k<=i->i < us.length->stop i=false)/\∃ δ' L',Ly it g body m k δ L=some (.nx δ',L')/\P us.length δ' L')
 | 0,k,δ,L,h,hk,_=>by omega
 | m+1,k,δ,L,h,hk,hP=>by
  have ha:=hat k δ L hk hP
  unfold Ly
  rw[ha]
  by_cases hlt:k < us.length
  ·rw[aC hlt]
   obtain ⟨δ1,L1,e1,s1,s2⟩:=step k _ δ L (aC hlt) hP
   simp only[e1,aA]
   cases hs:stop k with
   | true=>
    obtain ⟨L2,e2,r⟩:=s1 hs
    exact .inl ⟨k,aQ _,hlt,hs,fun i h1 h2=>by omega,L2,by rw[e2];rfl,r⟩
   | false=>
    obtain ⟨δ2,L2,e2,p2⟩:=s2 hs
    have ih:=U0 P R stop val hat step m (k+1) δ2 L2 (by omega) (by omega) p2
    simp only[e2,aA]
    rcases ih with ⟨j,h1,h2,h3,h4,h5⟩ | ⟨h1,h2⟩
    ·refine .inl ⟨j,by omega,h2,h3,fun i i1 i2=>?_,h5⟩
     by_cases q:i=k
     ·rw[q];exact hs
     ·exact h4 i (by omega) i2
    ·refine .inr ⟨fun i i1 i2=>?_,h2⟩
     by_cases q:i=k
     ·rw[q];exact hs
     ·exact h1 i (by omega) i2
  ·have:k=us.length:=by omega
   subst this
   rw[iU (aQ _)]
   exact .inr ⟨fun i i1 i2=>by omega,δ,L,rfl,hP⟩
variable {δ:UE}{L:UH}
theorem Ab5{fi:FI}{it:IU}{L0:UH}(P:Nat->UE->UH->Prop)(R:Nat->UH->Prop)(stop:Nat->Bool)(val:Nat->U)(hi:fi δ L=some (it,L0))(hsz:us.length<=it.size L0)(hat:∀ k δ L,k<=us.length->P k δ L->it.at k L=some us[k]?)(h0:P 0 δ L0)
  (step:∀ k u δ L,us[k]? = some u->P k δ L->∃ δ1 L1,g u δ L=some (δ1,L1)/\(stop k=true->∃ L2,body δ1 L1=some (.rt (val k),L2)/\R k L2)/\(stop k=false->∃ δ2 L2,body δ1 L1=some (.nx δ2,L2)/\P (k+1) δ2 L2)) :
   (∃ j,j < us.length/\stop j=true/\(∀ i,i < j->stop i=false)/\∃ L',Fx fi g body δ L=some (.rt (val j),L')/\R j L')\/((∀ i,i < us.length->stop i=false)/\∃ δ' L',Fx fi g body δ L=some (.nx δ',L')/\P us.length δ' L'):=by
 have:=U0 P R stop val hat step (it.size L0+1) 0 δ L0 (by omega) (by omega) h0
 unfold Fx
 rw[hi]
 simp only[aA]
 rcases this with ⟨j,h1,h2,h3,h4,h5⟩ | ⟨h1,h2⟩
 ·exact .inl ⟨j,h2,h3,fun i q=>h4 i (by omega) q,h5⟩
 ·exact .inr ⟨fun i q=>h1 i (by omega) q,h2⟩
theorem Pa{fi:FI}{L0:UH}(P:Nat->UE->UH->Prop)(R:Nat->UH->Prop)(stop:Nat->Bool)(val:Nat->U)(hi:fi δ L=some (.seq us,L0))(h0:P 0 δ L0)
  (step:∀ k u δ L,us[k]? = some u->P k δ L->∃ δ1 L1,g u δ L=some (δ1,L1)/\(stop k=true->∃ L2,body δ1 L1=some (.rt (val k),L2)/\R k L2)/\(stop k=false->∃ δ2 L2,body δ1 L1=some (.nx δ2,L2)/\P (k+1) δ2 L2)) :
   (∃ j,j < us.length/\stop j=true/\(∀ i,i < j->stop i=false)/\∃ L',Fx fi g body δ L=some (.rt (val j),L')/\R j L')\/((∀ i,i < us.length->stop i=false)/\∃ δ' L',Fx fi g body δ L=some (.nx δ',L')/\P us.length δ' L'):=
 Ab5 P R stop val hi (by simp[IU.size]) (fun k δ L _ _=>rfl) h0 step
structure Ex(d:Nat)(L L':UH):Prop where
 le:L.length<=L'.length
 at_:∀ i,i < L.length->i≠d->L'[i]? = L[i]?
theorem Ex.refl(d:Nat)(L:UH):Ex d L L:=⟨aQ _,fun _ _ _=>rfl⟩
variable {d:Nat}
theorem Ex.trans{L1 L2:UH}(a:Ex d L L1)(b:Ex d L1 L2):Ex d L L2:=
 ⟨cJ a.le b.le,fun i h1 h2=>by rw[b.at_ i (bL h1 a.le) h2,a.at_ i h1 h2]⟩
theorem Ex.new(d:Nat)(L:UH)(x:List HU):Ex d L (L++x):=⟨by simp,fun i h _=>by rw[bG h]⟩
theorem Ex.put(d:Nat)(L:UH)(o:HU):Ex d L (L.set d o):=⟨by simp,fun i _ h=>by rw[bD (eW h)]⟩
variable {L':UH}{n:Nat}
theorem Ex.set(h:Ex d L L')(hn:L.length<=n)(o:HU):Ex d L (L'.set n o):=
 ⟨by rw[eV];exact h.le,fun i h1 h2=>by rw[bD (by omega)];exact h.at_ i h1 h2⟩
variable {i:Nat}
theorem Ex.get{o:HU}(h:Ex d L L')(e:L[i]? = some o)(hi:i≠d):L'[i]? = some o:=by
 rw[h.at_ i (aG.mp e).1 hi];exact e
noncomputable def Gw(L L':UH):Prop:=∃ x,L'=L++x
theorem Gw.refl(L:UH):Gw L L:=⟨[],by simp⟩
variable {M:UH}
theorem Gw.trans{L1:UH}(a:Gw L L1)(b:Gw L1 M):Gw L M:=by obtain ⟨x,rfl⟩:=a;obtain ⟨y,rfl⟩:=b;exact ⟨x++y,by simp⟩
theorem Gw.new(L x:UH):Gw L (L++x):=⟨x,rfl⟩
theorem Gw.set(h:Gw L L')(hn:L.length<=n)(o:HU):Gw L (L'.set n o):=by
 obtain ⟨x,rfl⟩:=h
 exact ⟨x.set (n - L.length) o,by rw[List.set_append_right _ _ hn]⟩
theorem Gw.le(h:Gw L L'):L.length<=L'.length:=by obtain ⟨x,rfl⟩:=h;simp
theorem Gw.get(h:Gw L L'){o:HU}(e:L[n]? = some o):L'[n]? = some o:=by
 obtain ⟨x,rfl⟩:=h
 rw[bG (aG.mp e).1];exact e
theorem Gw.ex(h:Gw L L')(d:Nat):Ex d L L':=by obtain ⟨x,rfl⟩:=h;exact Ex.new d L x
variable {l:List U}
theorem Iw(u:U)(h:L[n]? = some (.lst l))(hl:l.length < 16777216):C5 (.ref n) [u] L=some (.non,L.set n (.lst (l++[u]))):=by
 show (Ef L n).bind _=_
 rw[C7 h]
 simp only[aA]
 rw[if_pos (decide_eq_true (by unfold sizeLine;omega))]
theorem Gg(h:L[n]? = some (.lst l)):tyU "list" (.ref n) L=true:=by simp[tyU,h]
theorem Fs(h:L[n]? = some (.lst l)):Aw [.ref n] L=some (.int l.length,L):=by simp[Aw,lenU,Al h]
theorem Aj{f g:FS}{δ':UE}(h:f δ L=some (.nx δ',L')):Ar f g δ L=g δ' L':=by rw[fSeq_eq,h];rfl
noncomputable def Lk:FS:=(B8 (Ax (f2 Ss (Ap K4 (Ac (Aa 3) Af)) (f2 H0 (fC (.int 10)) (fC (.int 18))))) (Av (f2 Bc (f2 Pc (Aa 1) (fC (.int 205))) (Ap K4 (Ac (Aa 3) Af))) (gN 1)) (Av (f2 Eo (f2 Bc (f2 Bx (Aa 2) (fC (.int 43))) (Aa 3)) (fC (.int 1999999871))) (gN 2)))
noncomputable def Yf:FS:=(Ar (Av (fC (.int 0)) (gN 1)) (Ar (Av (f2 Bc (f2 Bx (fC (.int 17)) (Ap Aw (Ac (Aa 0) Af))) (fC (.int 11))) (gN 2)) (Ar (Fx (Bb (fSl Hz (Aa 0) A0 (Bo (fC (.int 63))))) (gN 3) Lk) (Cf (Cu (Ac (Aa 1) (Ac (Aa 2) (Ac (fC (.int 0)) Af))))))))
noncomputable def Pb:FN:=fnU 4 1 Yf
noncomputable def Ru:FS:=(Ar (Av (f2 Bc (f2 Ak (Aa 0) (fC (.int 2))) (fC (.int 1))) (MR.gSub (Aa 0) (fC (.int 2)))) (Ar (B8 (Ax (f2 Qk (f2 Ak (Aa 0) (fC (.int 0))) (fC (.int 0)))) (Ar (Av (f2 Eo (f2 Ak (Aa 0) (fC (.int 0))) (Aa 1)) (gN 2)) (Ar (Av (f2 Jl (f2 Ak (Aa 0) (fC (.int 0))) (Aa 1)) (MR.gSub (Aa 0) (fC (.int 0)))) (Cf (Aa 2)))) Bl) (Ar (Av (f2 Ak (Aa 0) (fC (.int 2))) (gN 3)) (Ar (Av (f2 Eo (f2 Bc (f2 Bc (f2 Ak (Aa 0) (fC (.int 1))) (f2 Bx (f2 Bx (fC (.int 70003)) (Aa 3)) (Aa 3))) (f2 Bx (fC (.int 5003)) (Aa 3))) (fC (.int 2147483543))) (gN 4)) (Ar (Av (f2 Eo (f2 Bx (Aa 4) (Aa 4)) (fC (.int 2147483497))) (gN 4)) (Cf (f2 Eo (f2 Jl (f2 Eo (f2 Bc (f2 Bx (Aa 4) (fC (.int 38333))) (f2 Bx (Aa 3) (fC (.int 67)))) (fC (.int 2147483477))) (fC (.int 13))) (Aa 1))))))))
noncomputable def Am:FN:=fnU 5 2 Ru
noncomputable def G1:FE:=(Ck "list" Jz (Aa 1) (Ac (Ay 2 Am (Ac (Aa 2) (Ac (Ap Aw (Ac (Aa 1) Af)) Af))) Af))
noncomputable def Gm:FS:=(Ar (Av (f2 Ak (Aa 2) (f2 Eo (f2 Bc (Aa 4) (Aa 8)) (fC (.int 26)))) (gN 9)) (Di (Ck "list" C5 (Aa 3) (Ac (f2 Ak (Cu (Ac (f2 Bc (Aa 9) (f2 Bx (f2 Ak (fC (.str "qjx")) (f2 Jl (Aa 8) (fC (.int 26)))) (f2 Bc (fC (.int 1)) (f2 Eo (Aa 8) (fC (.int 7)))))) (Ac (f2 Bc (f2 Bc (f2 Bc (fSl Dr (Aa 5) A0 (Bo (Aa 6))) (Aa 9)) (f2 Ak (fC (.str "qjx")) (f2 Jl (Aa 8) (fC (.int 26))))) (fSl Dr (Aa 5) (Bo (Aa 6)) A0)) Af))) (Aa 7)) Af))))
noncomputable def Fq:FE:=(f2 Ak (Aa 1) (Ay 2 Am (Ac (Aa 2) (Ac (fC (.int 26)) Af))))
noncomputable def U1:FS:=(Ar (Av (fC (.str "abcdefghijklmnopqrstuvwxyz")) (gN 2)) (Ar (Av (Cu (Ac (fC (.str "a")) (Ac (fC (.str "b")) (Ac (fC (.str "ab")) (Ac (fC (.str "ba")) (Ac (fC (.str "aba")) (Ac (fC (.str "put")) (Ac (fC (.str "take")) (Ac (fC (.str "move")) (Ac (fC (.str "stairs")) (Ac (fC (.str "longest")) (Ac (fC (.str "crowd")) (Ac (fC (.str "northeas")) Af))))))))))))) (gN 3)) (Ar (Av (Ay 2 Am (Ac (Aa 0) (Ac (fC (.int 26)) Af))) (gN 4)) (Ar (Av (Ck "str" K9 (fC (.str "")) (Ac (Bu [none,some 2,some 0] (G9 (Ac (fC (.int 6)) Af)) (gN 0) none Fq) Af)) (gN 5)) (Ar (Av (Ay 2 Am (Ac (Aa 0) (Ac (fC (.int 7)) Af))) (gN 6)) (Ar (Av (Ay 2 Am (Ac (Aa 0) (Ac (fC (.int 2)) Af))) (gN 7)) (Ar (Av (fSl Dr (Aa 3) (Bo (f2 Bx (fC (.int 12)) (Aa 7))) A0) (gN 3)) (Ar (Fx (G9 (Ac (fC (.int 60)) Af)) (gN 8) Gm) (Cf (Bu [none,some 3,some 0] (G9 (Ac (Aa 1) Af)) (gN 0) none G1))))))))))
noncomputable def Ir:FN:=fnU 10 2 U1
noncomputable def K8:FS:=(Ar (B8 (Ax (f2 S6 (Aa 1) (fC (.int 2)))) (Cf (f2 Gq (Ay 2 Am (Ac (Aa 0) (Ac (f2 Ak (Cu (Ac (fC (.int 4)) (Ac (fC (.int 41)) Af))) (Aa 1)) Af))) (f2 Ak (Cu (Ac (fC (.int 1)) (Ac (fC (.int 20)) Af))) (Aa 1)))) Bl) (Ar (Av (f2 Bc (f2 Bx (Ay 2 Am (Ac (Aa 0) (Ac (f2 H0 (fC (.int 10)) (fC (.int 5))) Af))) (f2 H0 (fC (.int 10)) (fC (.int 5)))) (Ay 2 Am (Ac (Aa 0) (Ac (f2 H0 (fC (.int 10)) (fC (.int 5))) Af)))) (gN 2)) (Cf (f2 Bx (Aa 2) (f2 Ak (Cu (Ac (fC (.int 1)) (Ac (J7 (fC (.int 1))) Af))) (Ay 2 Am (Ac (Aa 0) (Ac (fC (.int 2)) Af))))))))
noncomputable def Ea:FN:=fnU 3 2 K8
variable {b:Nat}
theorem Aj8{x:Int}(h:dH x<=b):x.natAbs < 2 ^ b:=by
 unfold dH at h
 split at h
 ·rename_i h0
  have:x=0:=by simpa using h0
  subst this
  exact sF b
 ·rename_i h0
  have hx:x.natAbs≠0:=by simp at h0;omega
  exact (rW hx).mp (by omega)
theorem Aj3{x:Int}(h:x.natAbs < 2 ^ b):dH x<=b:=by
 unfold dH
 split
 ·exact eD _
 ·rename_i h0
  have hx:x.natAbs≠0:=by simp at h0;omega
  exact (rW hx).mpr h
structure Gdk(L:UH)(d:Nat)(B:Int):Prop where
 ex:∃ (a b c:Int),L[d]? = some (.lst [.int a,.int b,.int c])/\0<=a/\0<=b/\b < 1000000000000/\0<=c/\c<=B
variable {B:Int}
theorem Gdk.lt(h:Gdk L d B):d < L.length:=by
 obtain ⟨a,b,c,h1,_⟩:=h.ex
 exact (aG.mp h1).1
theorem Gdk.mono{B':Int}(h:Gdk L d B)(hb:B<=B'):Gdk L d B':=by
 obtain ⟨a,b,c,h1,h2,h3,h4,h5,h6⟩:=h.ex
 exact ⟨a,b,c,h1,h2,h3,h4,h5,by omega⟩
theorem Gdk.new(h:Gdk L d B)(x:List HU):Gdk (L++x) d B:=by
 obtain ⟨a,b,c,h1,h2⟩:=h.ex
 exact ⟨a,b,c,by rw[bG (aG.mp h1).1];exact h1,h2⟩
theorem Gdk.set(h:Gdk L d B)(hn:n≠d)(o:HU):Gdk (L.set n o) d B:=by
 obtain ⟨a,b,c,h1,h2⟩:=h.ex
 exact ⟨a,b,c,by rw[bD hn];exact h1,h2⟩
theorem Gdk.gw(h:Gdk L d B)(g:Gw L L'):Gdk L' d B:=by obtain ⟨x,rfl⟩:=g;exact h.new x
inductive draw_ok_I(L:UH)(d:Nat)(B:Int)(many:Int):Prop
 | mk (r:_) (L':_) (h0:Am [.ref d,.int many] L=some (.int r,L')) (h1:0<=r) (h2:r < many) (h3:Gdk L' d (B+1)) (h4:Ex d L L'):draw_ok_I L d B many
theorem B4{many:Int}(D:Gdk L d B)(hB:B<=1000000000000)(h0:0 < many)(h1:many < 1000000000000000):draw_ok_I L d B many:=by
 obtain ⟨a,b,c,hd,ha,hb0,hb1,hc0,hc1⟩:=D.ex
 have hdl:d < L.length:=(aG.mp hd).1
 have q1:=Al hd
 have q2:=C7 hd
 have md:∀ x:Int,0<=x % many/\x % many < many:=fun x=>⟨gJ _ (by omega),gX _ h0⟩
 have i0:∀ (x0 x1 x2:U),L2.atI [x0,x1,x2] 0=some x0:=fun _ _ _=>rfl
 have i1:∀ (x0 x1 x2:U),L2.atI [x0,x1,x2] 1=some x1:=fun _ _ _=>rfl
 have i2:∀ (x0 x1 x2:U),L2.atI [x0,x1,x2] 2=some x2:=fun _ _ _=>rfl
 have j0:ixN 3 0=some 0:=rfl
 have j2:ixN 3 2=some 2:=rfl
 have set1:∀ us:List U,A7 (L.set d (.lst us)) d=some us/\Ef (L.set d (.lst us)) d=some us:=fun us=>by
  have:(L.set d (.lst us))[d]? = some (.lst us):=bI hdl
  exact ⟨Al this,C7 this⟩
 have s1:=set1 [.int a,.int b,.int (c+1)]
 have keep:∀ x:Int,0<=x->Gdk (L.set d (.lst [.int x,.int b,.int (c+1)])) d (B+1)/\Ex d L (L.set d (.lst [.int x,.int b,.int (c+1)])):=fun x hx=>
  ⟨⟨x,b,c+1,bI hdl,hx,hb0,hb1,by omega,by omega⟩,Ex.put d L _⟩
 by_cases hap:0 < a
 ·refine ⟨a % many,L.set d (.lst [.int (a / many),.int b,.int (c+1)]),?_,(md a).1,(md a).2,(keep (a / many) (sG (by omega) (by omega))).1,(keep (a / many) (sG (by omega) (by omega))).2⟩
  simp[Am,fnU,Ru,q1,q2,i0,i1,i2,j0,j2,s1,hap,h0,Ry h0 (by omega),bW]
 ·generalize hA:(b+70003 * (c+1) * (c+1)+5003 * (c+1)) % 2147483543=A
  have hA0:0<=A/\A < 2147483543:=by rw[<- hA];exact ⟨gJ _ (by decide),gX _ (by decide)⟩
  generalize hC:A * A % 2147483497=Cn
  have hC0:0<=Cn/\Cn < 2147483497:=by rw[<- hC];exact ⟨gJ _ (by decide),gX _ (by decide)⟩
  generalize hE:(Cn * 38333+(c+1) * 67) % 2147483477=En
  have m1:Js 70003 (c+1)=true:=Nh (by decide) (by decide)
  have m2:∀ x:Int,Js x (c+1)=true:=fun x=>O1 (by omega) (by omega)
  have m3:Js A A=true:=Nh (by omega) (by omega)
  have m4:∀ x:Int,Js x 38333=true:=fun x=>O1 (by decide) (by decide)
  have m5:∀ x:Int,Js x 67=true:=fun x=>O1 (by decide) (by decide)
  have d13:∀ x:Int,Uw x 13=true:=fun x=>Ry (by decide) (by decide)
  refine ⟨En / 13 % many,L.set d (.lst [.int a,.int b,.int (c+1)]),?_,(md _).1,(md _).2,(keep a ha).1,(keep a ha).2⟩
  simp[Am,fnU,Ru,q1,q2,i0,i1,i2,j0,j2,s1,hap,h0,m1,m2,m3,m4,m5,d13,hA,hC,hE,bW]
variable {c:Nat}
theorem Ym{G X P:Nat}(hG:G < X)(hc:c < X)(hP:1<=P):G * P+c < 2 * (X * P):=by
 have e3:G * P<=X * P:=Nat.mul_le_mul_right _ (lM hG)
 have e4:X * 1<=X * P:=Nat.mul_le_mul_left _ hP
 rw[Nat.mul_one] at e4
 generalize X * P=Z at *
 generalize G * P=Y at *
 omega
variable {W K p:Nat}
theorem Aaz{G:Nat}(hG:G < 2 ^ (W+K))(hc:c < 2 ^ W):G * 2 ^ p+c < 2 ^ (W+(K+(p+1))):=by
 have e2:2 ^ W<=2 ^ (W+K):=oX (by omega) (by omega)
 have e1:2 ^ (W+(K+(p+1)))=2 * (2 ^ (W+K) * 2 ^ p):=by
  have:W+(K+(p+1))=1+((W+K)+p):=by omega
  rw[this,Nat.pow_add 2 1,Nat.pow_add 2 (W+K) p,Nat.pow_one]
 rw[e1]
 exact Ym hG (bL hc e2) Nat.one_le_two_pow
variable {G cell:Int}
theorem Aef(h0:0<=G):(G * 2 ^ p+(cell.natAbs:Int)).natAbs=G.natAbs * 2 ^ p+cell.natAbs:=by
 have hGn:G=(G.natAbs:Int):=by omega
 have:G * 2 ^ p+(cell.natAbs:Int)=((G.natAbs * 2 ^ p+cell.natAbs:Nat):Int):=by
  rw[Int.natCast_add,Int.natCast_mul,Int.natCast_pow,<- hGn];rfl
 rw[this,Int.natAbs_natCast]
theorem Aav(h0:0<=G)(hG:G.natAbs < 2 ^ (W+K))(hc:cell.natAbs < 2 ^ W):0<=G * 2 ^ p+(cell.natAbs:Int)/\(G * 2 ^ p+(cell.natAbs:Int)).natAbs < 2 ^ (W+(K+(p+1))):=by
 refine ⟨Int.add_nonneg (Int.mul_nonneg h0 (Int.pow_nonneg (by decide))) (by omega),?_⟩
 rw[Aef h0]
 exact Aaz hG hc
theorem Aiv(G p:Int)(L:UH):Pc (.int G) (.int p) L=if Xb G p=true then some (.int (G * 2 ^ p.toNat),L) else none:=rfl
theorem Aof:(2:Int) ^ 27=134217728:=by decide +kernel
theorem An2(hG:G.natAbs < 2 ^ b)(hb:b<=100000000)(L:UH):Pc (.int G) (.int 205) L=some (.int (G * 2 ^ 205),L):=by
 have:=Aj3 hG
 have hsz:Xb G 205=true:=by
  unfold Xb
  rw[cL]
  refine ⟨decide_eq_true (by omega),decide_eq_true ?_⟩
  rw[Aof]
  omega
 have h205:(205:Int).toNat=205:=rfl
 rw[Aiv,if_pos hsz,h205]
theorem Akn(L:UH):H0 (.int 10) (.int 18) L=some (.int 1000000000000000000,L):=by
 have p:Vj 10 18=true:=rfl
 simp[p]
theorem Aai(cell:Int)(L:UH):K4 [.int cell] L=some (.int (cell.natAbs:Int),L):=by
 show some (U.int (if cell < 0 then -cell else cell),L)=_
 have:(if cell < 0 then -cell else cell)=(cell.natAbs:Int):=by split <;> omega
 rw[this]
theorem Akj(i j:Int)(L:UH):Ss (.int i) (.int j) L=some (.bl (decide (j<=i)),L):=rfl
noncomputable def Xy(sh pw:S2)(ab:SC):FS:=(B8 (Ax (f2 Ss (Ap ab (Ac (Aa 3) Af)) (f2 pw (fC (.int 10)) (fC (.int 18))))) (Av (f2 Bc (f2 sh (Aa 1) (fC (.int 205))) (Ap ab (Ac (Aa 3) Af))) (gN 1)) (Av (f2 Eo (f2 Bc (f2 Bx (Aa 2) (fC (.int 43))) (Aa 3)) (fC (.int 1999999871))) (gN 2)))
theorem X8:Lk=Xy Pc H0 K4:=rfl
theorem Ahg{sh pw:S2}{ab:SC}{G2 b ca E:Int}(x0:Option U)(hab:ab [.int cell] L=some (.int ca,L))(hp:pw (.int 10) (.int 18) L=some (.int E,L))(hsh:sh (.int G) (.int 205) L=some (.int G2,L))(h:E<=ca):Xy sh pw ab [x0,some (.int G),some (.int b),some (.int cell)] L=some (.nx [x0,some (.int (G2+ca)),some (.int b),some (.int cell)],L):=by
 have hge:Ss (.int ca) (.int E) L=some (.bl true,L):=by
  rw[Akj,decide_eq_true h]
 unfold Xy
 simp only[fIfS_eq,fTest_eq,f2_eq,fCall_eq,fCons_eq,fNil_eq,fC_eq,fVar_eq,bN,aZ,bT,aF,aA,hab,hp,hge,if_true,fAsg_eq,hsh,semAdd_int,gN_eq,aR,aS]
theorem Ad0{sh pw:S2}{ab:SC}{b ca E:Int}(x0:Option U)(hab:ab [.int cell] L=some (.int ca,L))(hp:pw (.int 10) (.int 18) L=some (.int E,L))(h:¬ E<=ca):Xy sh pw ab [x0,some (.int G),some (.int b),some (.int cell)] L=some (.nx [x0,some (.int G),some (.int ((b * 43+cell) % 1999999871)),some (.int cell)],L):=by
 have m43:Bx (.int b) (.int 43) L=some (.int (b * 43),L):=by
  have:=O1 (i:=b) (j:=43) (by decide) (by decide)
  simp only[Bx,this,if_true]
 have hge:Ss (.int ca) (.int E) L=some (.bl false,L):=by
  rw[Akj,decide_eq_false h]
 have hmd:Eo (.int (b * 43+cell)) (.int 1999999871) L=some (.int ((b * 43+cell) % 1999999871),L):=by simp
 unfold Xy
 simp only[fIfS_eq,fTest_eq,f2_eq,fCall_eq,fCons_eq,fNil_eq,fC_eq,fVar_eq,bN,aZ,bT,aF,aA,hab,hp,hge,bX,if_false,fAsg_eq,m43,semAdd_int,hmd,gN_eq,aR,aS]
inductive deck_turn_I(L:UH)(G:Int)(b:Int)(cell:Int)(W:Nat)(K:Nat)(x0:Option U):Prop
 | mk (G' b':Int) (h0:Lk [x0,some (.int G),some (.int b),some (.int cell)] L=some (.nx [x0,some (.int G'),some (.int b'),some (.int cell)],L)) (h1:0<=G') (h2:G'.natAbs < 2 ^ (W+(K+(205+1)))) (h3:0<=b') (h4:b' < 1000000000000):deck_turn_I L G b cell W K x0
theorem Adl{b:Int}(h0:0<=G)(hG:G.natAbs < 2 ^ (W+K))(hb0:0<=b)(hb1:b < 1000000000000)(hc:cell.natAbs < 2 ^ W)(hW:W<=1048576)(hk:K<=100000)(x0:Option U):deck_turn_I L G b cell W K x0:=by
 by_cases h:(1000000000000000000:Int)<=(cell.natAbs:Int)
 ·have hnx:=Aav (p:=205) h0 hG hc
  exact ⟨_,b,by rw[X8];exact Ahg x0 (Aai cell L) (Akn L) (An2 hG (by omega) L) h,hnx.1,hnx.2,hb0,hb1⟩
 ·exact ⟨G,_,by rw[X8];exact Ad0 x0 (Aai cell L) (Akn L) h,h0,bL hG (oX (by decide) (by omega)),gJ _ (by decide),Int.lt_trans (gX _ (by decide)) (by decide)⟩
inductive gdk_start_I(L:UH)(n:Nat):Prop
 | mk (d:_) (L':_) (h0:Pb [.ref n] L=some (.ref d,L')) (h1:Gdk L' d 0) (h2:Gw L L'):gdk_start_I L n
theorem Adt(ns:List Int)(L:UH)(n:Nat)(hn:L[n]? = some (.ro (ns.map U.int)))(hl:ns.length<=63)(hW:W<=1048576)(hb:∀ c∈ns,c.natAbs < 2 ^ W):gdk_start_I L n:=by
 have hs:A7 L n=some (ns.map U.int):=by unfold A7;rw[hn]
 have hlen:Aw [.ref n] L=some (.int ns.length,L):=by simp[Aw,lenU,hs]
 have m17:Bx (.int 17) (.int (ns.length:Nat)) L=some (.int (17 * (ns.length:Int)),L):=by
  have:=Nh (i:=17) (j:=(ns.length:Int)) (by decide) (by decide)
  simp only[Bx,this,if_true]
 have s1:(Av (fC (.int 0)) (gN 1)) [some (.ref n),none,none,none] L=some (.nx [some (.ref n),some (.int 0),none,none],L):=rfl
 have s2:(Av (f2 Bc (f2 Bx (fC (.int 17)) (Ap Aw (Ac (Aa 0) Af))) (fC (.int 11))) (gN 2)) [some (.ref n),some (.int 0),none,none] L=some (.nx [some (.ref n),some (.int 0),some (.int (17 * (ns.length:Int)+11)),none],L):=by
  simp only[f2_eq,fCall_eq,fCons_eq,fNil_eq,fC_eq,fVar_eq,bN,aZ,bT,aF,aA,hlen,m17,fAsg_eq,semAdd_int,gN_eq,aR,aS]
 have hcut:Me (ns.map U.int) none (some 63)=ns.map U.int:=by
  unfold Me
  rw[HT.R9]
  have h63:(63:Int)=((63:Nat):Int):=rfl
  rw[h63,HT.Q7,mG,qN]
  exact eF (by rw[aI];omega)
 have hsl:Hz (.ref n) none (some 63) L=some (.ref L.length,L++[.lst (ns.map U.int)]):=by
  simp only[Hz,hs,aF,hcut]
 have hq:(L++[HU.lst (ns.map U.int)])[L.length]? = some (.lst (ns.map U.int)):=by simp
 have hi:(Bb (fSl Hz (Aa 0) A0 (Bo (fC (.int 63))))) [some (.ref n),some (.int 0),some (.int (17 * (ns.length:Int)+11)),none] L=some (.ref L.length,L++[.lst (ns.map U.int)]):=by
  simp only[Dq,fSl_eq,fNoPart_eq,fPart_eq,fC_eq,fVar_eq,aZ,bT,aF,aA,hsl,Dg (Al hq)]
 obtain ⟨δ',L',e,P⟩:=Q6 (us:=ns.map U.int) (body:=Lk) (g:=gN 3)
  (fun k δ' L'=>∃ (G b:Int) (y3:Option U),δ'=[some (.ref n),some (.int G),some (.int b),y3]/\L'=L++[HU.lst (ns.map U.int)]/\0<=G/\G.natAbs < 2 ^ (W+206 * k)/\0<=b/\b < 1000000000000)
  hi ⟨0,17 * (ns.length:Int)+11,none,rfl,rfl,by decide,sF _,by omega,by omega⟩
  (fun k δ M zz=>by obtain ⟨_,_,_,_,hM,_⟩:=zz;rw[hM];exact Al hq)
  (fun k u δ M hu zz=>by
   obtain ⟨G,b,y3,hδ,hM,g0,g1,b0,b1⟩:=zz
   subst hδ
   rw[bA] at hu
   obtain ⟨cell,hcell,rfl⟩:=aH.mp hu
   have hk:=(aG.mp hcell).1
   obtain ⟨G',b',e1,r1,r2,r3,r4⟩:=Adl (L:=M) g0 g1 b0 b1 (hb _ (aW hcell)) hW (by omega) (some (.ref n))
   have hk6:206 * (k+1)=206 * k+(205+1):=by omega
   rw[<- hk6] at r2
   exact ⟨[some (.ref n),some (.int G),some (.int b),some (.int cell)],M,rfl,_,M,.inl e1,G',b',_,rfl,hM,r1,r2,r3,r4⟩)
 obtain ⟨G,b,y3,hδ,hM,g0,g1,b0,b1⟩:=P
 rw[hδ] at e
 have sm3:∀ x y z:U,Dy [x,y,z].length=true:=fun _ _ _=>small_of (by show 3<=16777216;decide)
 refine ⟨L'.length,L'++[.lst [.int G,.int b,.int 0]],?_,⟨G,b,0,by simp,g0,b0,b1,by decide,by decide⟩,by rw[hM];exact (Gw.new _ _).trans (Gw.new _ _)⟩
 unfold Pb fnU Yf
 simp only[aY,cB,if_true,aL,cU,bW,nN,jL]
 rw[Aj s1,Aj s2,Aj e,fRet_eq]
 simp only[fLst_eq,fCons_eq,fC_eq,fNil_eq,fVar_eq,bN,aZ,bT,aA,aF]
 rw[if_pos (sm3 _ _ _)]
 rfl
inductive number_ok_I(L:UH)(d:Nat)(B:Int)(kind:Int):Prop
 | mk (r:_) (L':_) (h0:Ea [.ref d,.int kind] L=some (.int r,L')) (h1:Gdk L' d (B+3)) (h2:Ex d L L'):number_ok_I L d B kind
theorem Ux{kind:Int}(D:Gdk L d B)(hB:B<=100000000000)(hw:kind=0\/kind=1\/kind=2):number_ok_I L d B kind:=by
 have hdl:=D.lt
 rcases hw with rfl | rfl | rfl
 ·have q0:A7 (L++[HU.lst [.int 4,.int 41]]) L.length=some [.int 4,.int 41]:=Al (by simp)
  have i0:L2.atI [U.int 4,.int 41] 0=some (.int 4):=rfl
  have i1:L2.atI [U.int 1,.int 20] 0=some (.int 1):=rfl
  obtain ⟨r,L1,e1,a1,b1,D1,x1⟩:=B4 (many:=4) (D.new [HU.lst [.int 4,.int 41]]) (by omega) (by decide) (by decide)
  have q1:A7 (L1++[HU.lst [.int 1,.int 20]]) L1.length=some [.int 1,.int 20]:=Al (by simp)
  exact ⟨r - 1,L1++[HU.lst [.int 1,.int 20]],by simp[Ea,fnU,K8,small_of,q0,i0,e1,q1,i1,bW],(D1.new _).mono (by omega),((Ex.new d L _).trans x1).trans (Ex.new d L1 _)⟩
 ·have q0:A7 (L++[HU.lst [.int 4,.int 41]]) L.length=some [.int 4,.int 41]:=Al (by simp)
  have i0:L2.atI [U.int 4,.int 41] 1=some (.int 41):=rfl
  have i1:L2.atI [U.int 1,.int 20] 1=some (.int 20):=rfl
  obtain ⟨r,L1,e1,a1,b1,D1,x1⟩:=B4 (many:=41) (D.new [HU.lst [.int 4,.int 41]]) (by omega) (by decide) (by decide)
  have q1:A7 (L1++[HU.lst [.int 1,.int 20]]) L1.length=some [.int 1,.int 20]:=Al (by simp)
  exact ⟨r - 20,L1++[HU.lst [.int 1,.int 20]],by simp[Ea,fnU,K8,small_of,q0,i0,e1,q1,i1,bW],(D1.new _).mono (by omega),((Ex.new d L _).trans x1).trans (Ex.new d L1 _)⟩
 ·obtain ⟨r1,L1,e1,a1,b1,D1,x1⟩:=B4 (many:=100000) D (by omega) (by decide) (by decide)
  obtain ⟨r2,K2,e2,a2,b2,D2,x2⟩:=B4 (many:=100000) D1 (by omega) (by decide) (by decide)
  obtain ⟨r4,L4,e4,a4,b4,D4,x4⟩:=B4 (many:=2) (D2.new [HU.lst [.int 1,.int (-1)]]) (by omega) (by decide) (by decide)
  have q4:A7 L4 K2.length=some [.int 1,.int (-1)]:=Al (x4.get (i:=K2.length) (by simp) (by have:=D2.lt;omega))
  have hs:∃ sg:Int,L2.atI [U.int 1,.int (-1)] r4=some (.int sg)/\(sg=1\/sg = -1):=by
   have:r4=0\/r4=1:=by omega
   rcases this with rfl | rfl
   ·exact ⟨1,rfl,.inl rfl⟩
   ·exact ⟨-1,rfl,.inr rfl⟩
  obtain ⟨sg,hs,hsg⟩:=hs
  have p5:Vj 10 5=true:=rfl
  have m1:Js r1 100000=true:=O1 (by decide) (by decide)
  have m2:Js (r1 * 100000+r2) sg=true:=Nh (by omega) (by omega)
  refine ⟨(r1 * 100000+r2) * sg,L4,?_,D4.mono (by omega),x1.trans (x2.trans ((Ex.new d K2 _).trans x4))⟩
  simp[Ea,fnU,K8,p5,e1,m1,e2,small_of,e4,q4,hs,m2,bW]
theorem Af8{i:Int}(h:L[n]? = some (.lst l))(h0:0<=i)(h1:i < l.length)(hs:l.length < 1000000):Jz (.ref n) [.int i] L=some (l[i.toNat]'(by omega),L.set n (.lst (l.eraseIdx i.toNat))):=by
 have hk:seqIndex? i l.length=some i.toNat:=by unfold seqIndex?;simp;omega
 have hg:l[i.toNat]? = some (l[i.toNat]'(by omega)):=aC (by omega)
 simp only[Jz,C7 h,aA,hk,hg,aF]
 rw[if_pos ⟨by omega,by omega⟩]
theorem N5{β γ:Type}(f:β->γ)(l:List β)(i:Nat):(l.map f).eraseIdx i=(l.eraseIdx i).map f:=by
 rw[kH,kH,bZ,jG,jH]
theorem Tc{β:Type}:∀ (l:List β) (i:Nat) (h:i < l.length),(l[i]'h::l.eraseIdx i).Perm l
 | a::l,0,_=>by simp
 | a::l,i+1,h=>by
  have ih:=Tc l i (by simpa using h)
  simp only[List.getElem_cons_succ,jU]
  exact (List.Perm.swap _ _ _).trans (ih.cons a)
inductive pop_turnG_I(β:Type)(rep:β->U)(L:UH)(d:Nat)(n:Nat)(B:Int)(l:List β)(x0:Option U):Prop
 | mk (r:β) (L':UH) (l':List β) (h0:(Ck "list" Jz (Aa 1) (Ac (Ay 2 Am (Ac (Aa 2) (Ac (Ap Aw (Ac (Aa 1) Af)) Af))) Af)) [x0,some (.ref n),some (.ref d)] L=some (rep r,L')) (h1:Gdk L' d (B+1)) (h2:L'[n]? = some (.lst (l'.map rep))) (h3:l'.length+1=l.length) (h4:(∀ L0,Ex d L0 L->L0.length<=n->Ex d L0 L')) (h5:(r::l').Perm l):pop_turnG_I β rep L d n B l x0
theorem Aek{β:Type}(rep:β->U){l:List β}(D:Gdk L d B)(hB:B<=1000000000)(hd:n≠d)(h:L[n]? = some (.lst (l.map rep)))(hl:0 < l.length)(hs:l.length < 1000)(x0:Option U):pop_turnG_I β rep L d n B l x0:=by
 obtain ⟨i,L1,e1,i0,i1,D1,x1⟩:=B4 (many:=((l.map rep).length:Nat)) D (by omega) (by simp;omega) (by simp;omega)
 have h':L1[n]? = some (.lst (l.map rep)):=x1.get h hd
 have hi:i < l.length:=by simpa using i1
 have hp:=Af8 h' i0 i1 (by simp;omega)
 refine ⟨l[i.toNat]'(by omega),L1.set n (.lst ((l.map rep).eraseIdx i.toNat)),l.eraseIdx i.toNat,?_,D1.set hd _,?_,?_,fun L0 x0 hn=>(x0.trans x1).set hn _,Tc l i.toNat (by omega)⟩
 ·have ty:=Gg h
  have e1':=e1
  simp only[aI] at e1'
  simp[ty,Fs h,e1',hp]
 ·rw[bI (by have:=(aG.mp h').1;exact this)]
  rw[N5]
 ·rw[List.length_eraseIdx,if_pos (by omega)];omega
noncomputable def Low(s:Str):Prop:=∀ c∈s.cps.toList,97<=c/\c<=122
theorem Low.ok{s:Str}(h:Low s):oB s=true:=by
 unfold oB
 rw[Array.all_eq_true]
 intro i hi
 have:=h (s.cps[i]) (by simp)
 exact decide_eq_true (by omega)
theorem Low.app{a b:Str}(ha:Low a)(hb:Low b):Low (a++b):=by
 intro c hc
 rw[Str.cps_append,jC,bP] at hc
 exact hc.elim (ha c) (hb c)
variable {x:Str}
theorem Low.slice(h:Low x)(lo hi:Option Int):Low (eX x lo hi):=by
 unfold eX
 split
 ·exact h
 ·intro c hc
  simp only[List.mem_filterMap] at hc
  obtain ⟨i,_,hi⟩:=hc
  exact h c (by rw[Array.mem_toList_iff];exact Array.mem_of_getElem? hi)
theorem Low.fold(g:Str)(hg:Low g):∀ (ys:List Str) (acc:Array Nat),(∀ y∈ys,Low y)->(∀ c∈acc.toList,97<=c/\c<=122)->∀ c∈(ys.foldl (fun acc p=>acc++g.cps++p.cps) acc).toList,97<=c/\c<=122
 | [],acc,_,h=>h
 | y::ys,acc,hy,h=>by
  rw[jK]
  refine Low.fold g hg ys _ (fun z hz=>hy z (aT _ hz)) ?_
  intro c hc
  rw[jC,jC,bP,bP] at hc
  rcases hc with (hc | hc) | hc
  ·exact h c hc
  ·exact hg c hc
  ·exact hy y (aX ..) c hc
noncomputable def abc:Str := "abcdefghijklmnopqrstuvwxyz"
theorem We:abc.cps.toList.length=26:=by decide +kernel
theorem U6:Dy abc.length=true:=small_of (by show abc.cps.size<=16777216;have:=We;simp only[eK] at this;omega)
noncomputable def one(c:Nat):Str:=⟨#[c]⟩
theorem Low.one(h:97<=c/\c<=122):Low (Lw.one c):=by
 intro x hx
 have:x=c:=by simpa[Lw.one] using hx
 rw[this];exact h
theorem Low.mul(h:97<=c/\c<=122)(j:Int)(h0:1<=j)(h1:j<=7):Low (jM (Lw.one c) j):=by
 intro x hx
 have:j=1\/j=2\/j=3\/j=4\/j=5\/j=6\/j=7:=by omega
 have:x=c:=by rcases this with rfl | rfl | rfl | rfl | rfl | rfl | rfl <;> simp[Lw.one,jM,sV,tK,bW] at hx <;> omega
 rw[this];exact h
theorem one_len(c:Nat):(one c).length=1:=rfl
theorem Abf:Low abc:=by unfold Low;decide +kernel
theorem Al0{i:Int}(h0:0<=i)(h1:i < 26)(L:UH):∃ c,(97<=c/\c<=122)/\Ak (.str abc) (.int i) L=some (.str (one c),L):=by
 have hl:=We
 have hi:i.toNat < abc.cps.toList.length:=by omega
 refine ⟨abc.cps.toList[i.toNat]'hi,Abf _ (cN hi),?_⟩
 unfold Ak
 simp only
 rw[if_pos U6,Je h0 (by omega),aC hi]
 rfl
noncomputable def qjx:Str := "qjx"
theorem Abk:qjx.cps.toList.length=3:=by decide +kernel
theorem Ac4:Dy qjx.length=true:=small_of (by show qjx.cps.size<=16777216;have:=Abk;simp only[eK] at this;omega)
theorem Ajg:Low qjx:=by unfold Low;decide +kernel
theorem Kv(a b:Str)(h:a.length+b.length<=10000)(L:UH):Bc (.str a) (.str b) L=some (.str (a++b),L):=by
 unfold Bc
 simp only
 rw[if_pos (small_of (by omega))]
theorem cat_len(a b:Str):(a++b).length=a.length+b.length:=by
 show (a.cps++b.cps).size=a.cps.size+b.cps.size
 simp
theorem Yj(c:Nat)(j:Int)(h0:0<=j):((jM (one c) j).length:Int)=j:=by
 have:=PyProof.Rows.len_mul_k1 (x:=one c) (n:=j) (one_len c)
 rw[if_neg (by omega)] at this
 omega
theorem Ake(c:Nat)(j:Int)(h0:0<=j)(h1:j<=100)(L:UH):Bx (.str (one c)) (.int j) L=some (.str (jM (one c) j),L):=by
 unfold Bx
 simp only
 rw[if_pos ⟨by rw[one_len];omega,by omega,by omega⟩]
theorem Vx(a:Str)(lo hi:Option Int)(h:a.length<=1000)(L:UH):Dr (.str a) lo hi L=some (.str (eX a lo hi),L):=by
 unfold Dr
 simp only
 rw[if_pos (small_of (by omega))]
theorem Ahv:abc.cps.toList=List.range' 97 26:=by decide +kernel
noncomputable def Q1:List Nat:=[113,106,120]
theorem Aga:qjx.cps.toList=Q1:=by decide +kernel
theorem Ail{i:Int}(h0:0<=i)(h1:i < 26)(L:UH):∃ c,(97<=c/\c<=122)/\Ak (.str abc) (.int i) L=some (.str (one c),L)/\c=97+i.toNat:=by
 have hl:=We
 have hi:i.toNat < abc.cps.toList.length:=by omega
 refine ⟨abc.cps.toList[i.toNat]'hi,Abf _ (cN hi),?_,?_⟩
 ·unfold Ak
  simp only
  rw[if_pos U6,Je h0 (by omega),aC hi]
  rfl
 ·have e:(abc.cps.toList)[i.toNat]? = some (97+i.toNat):=by rw[Ahv,List.getElem?_range' (by omega)];simp
  rw[aC hi] at e
  exact bR e
theorem Ahz{i:Int}(h0:0<=i)(h1:i < 3)(L:UH):∃ c,(97<=c/\c<=122)/\Ak (.str qjx) (.int i) L=some (.str (one c),L)/\Q1[i.toNat]? = some c:=by
 have hl:=Abk
 have hi:i.toNat < qjx.cps.toList.length:=by omega
 refine ⟨qjx.cps.toList[i.toNat]'hi,Ajg _ (cN hi),?_,?_⟩
 ·unfold Ak
  simp only
  rw[if_pos Ac4,Je h0 (by omega),aC hi]
  rfl
 ·rw[<- Aga,aC hi]
noncomputable def Tag(p:Nat)(begin:Int)(k:Nat)(x:Str):Prop:=x.cps.toList[p]? = some (97+((begin+(k:Int)) % 26).toNat)/\∃ q,(Q1[k / 26]? = some q/\x.length<=300)/\x.cps.toList[p+1]? = some q
variable {begin:Int}{k:Nat}
theorem Tag.inj{k':Nat}(h:Tag p begin k x)(h':Tag p begin k' x)(hk:k < 60)(hk':k' < 60):k=k':=by
 obtain ⟨a,q,⟨b,_⟩,c⟩:=h
 obtain ⟨a',q',⟨b',_⟩,c'⟩:=h'
 rw[a] at a'
 rw[c] at c'
 have hq:q=q':=bR c'
 have ha:97+((begin+(k:Int)) % 26).toNat=97+((begin+(k':Int)) % 26).toNat:=bR a'
 subst hq
 have hd:k / 26=k' / 26:=by
  have n1:k / 26 < 3:=by omega
  have n2:k' / 26 < 3:=by omega
  generalize k / 26=u at b n1
  generalize k' / 26=v at b' n2
  rw[<- b'] at b
  match u,n1,v,n2 with
  | 0,_,0,_=>rfl
  | 0,_,1,_=>simp[Q1] at b
  | 0,_,2,_=>simp[Q1] at b
  | 1,_,0,_=>simp[Q1] at b
  | 1,_,1,_=>rfl
  | 1,_,2,_=>simp[Q1] at b
  | 2,_,0,_=>simp[Q1] at b
  | 2,_,1,_=>simp[Q1] at b
  | 2,_,2,_=>rfl
 have m1:0<=(begin+(k:Int)) % 26:=gJ _ (by decide)
 have m2:0<=(begin+(k':Int)) % 26:=gJ _ (by decide)
 omega
theorem cps_app(a b:Str):(a++b).cps.toList=a.cps.toList++b.cps.toList:=by
 show (a.cps++b.cps).toList=_
 rw[jC]
theorem cps_one(c:Nat):(one c).cps.toList=[c]:=rfl
theorem Agm(c:Nat)(j:Int)(h:1<=j/\j<=7):∃ r,(jM (one c) j).cps.toList=c::r:=by
 have:j=1\/j=2\/j=3\/j=4\/j=5\/j=6\/j=7:=by omega
 rcases this with rfl | rfl | rfl | rfl | rfl | rfl | rfl <;> simp[Lw.one,jM,sV,tK,bW]
noncomputable def Uq(al place:Int)(near:Str):Nat:=if al=0 then 0 else (eX near none (some place)).cps.toList.length
noncomputable def Yv(A B:FE)(δi:FE):FS:=(Di (Ck "list" C5 (Aa 3) (Ac (f2 Ak (Cu (Ac A (Ac B Af))) δi) Af)))
inductive names_put_I(A:FE)(B:FE)(δ:UE)(M:UH)(n2:Nat)(sp:List Str)(a:Str)(b:Str)(al:Int)(al':FE):Prop
 | mk (x:Str) (M':UH) (h0:Yv A B al' δ M=some (.nx δ,M')) (h1:Low x) (h2:((al=0->x=a)/\(al=1->x=b))) (h3:M'[n2]? = some (.lst ((sp++[x]).map U.str))) (h4:(∀ L d,Ex d L M->L.length<=n2->Ex d L M')) (h5:(∀ (d:Nat) (B:Int),n2≠d->Gdk M d B->Gdk M' d B)):names_put_I A B δ M n2 sp a b al al'
variable {n2:Nat}{sp:List Str}{al:Int}
theorem Ad5{A B:FE}{a b:Str}(hal:al=0\/al=1)(h3:Aa 3 δ M=some (.ref n2,M))(hat:M[n2]? = some (.lst (sp.map U.str)))(hs:sp.length<=1000)
  (hA:A δ M=some (.str a,M)) (hB:B δ M=some (.str b,M)) {al':FE} (h7:∀ M',al' δ M'=some (.int al,M')) (la:Low a) (lb:Low b):names_put_I A B δ M n2 sp a b al al':=by
 have sm2:∀ x y:U,Dy [x,y].length=true:=fun _ _=>small_of (by show 2<=16777216;decide)
 have hl:(Cu (Ac A (Ac B Af))) δ M=some (.ref M.length,M++[.lst [.str a,.str b]]):=by
  simp only[fLst_eq,fCons_eq,hA,hB,fNil_eq,aA,aF]
  rw[if_pos (sm2 _ _)]
 have q:A7 (M++[HU.lst [.str a,.str b]]) M.length=some [.str a,.str b]:=Al (by simp)
 have hx:∃ x,Low x/\((al=0->x=a)/\(al=1->x=b))/\L2.atI [U.str a,.str b] al=some (.str x):=by
  rcases hal with rfl | rfl
  ·exact ⟨a,la,⟨fun _=>rfl,fun h=>by omega⟩,rfl⟩
  ·exact ⟨b,lb,⟨fun h=>by omega,fun _=>rfl⟩,rfl⟩
 obtain ⟨x,lx,hax,hx⟩:=hx
 have hat':(M++[HU.lst [.str a,.str b]])[n2]? = some (.lst (sp.map U.str)):=(Gw.new M _).get hat
 have ap:=Iw (.str x) hat' (by simp;omega)
 have hm:sp.map U.str++[.str x]=(sp++[x]).map U.str:=by simp
 rw[hm] at ap
 have ty:=Gg hat
 refine ⟨x,(M++[HU.lst [.str a,.str b]]).set n2 (.lst ((sp++[x]).map U.str)),?_,lx,hax,bI (aG.mp hat').1,fun L d e hn=>(e.trans (Ex.new d M _)).set hn _,fun d B hn D=>(D.new _).set hn _⟩
 unfold Yv
 rw[Fy,fMeth_eq,h3,aA]
 simp only[ty,if_true]
 rw[fCons_eq,f2_eq,hl]
 simp only[aA,h7,semIx_ref,q,hx,aF,fNil_eq,ap]
inductive names_turn_I(M:UH)(n2:Nat)(k:Nat)(sp:List Str)(begin:Int)(place:Int)(al:Int)(near:Str)(x0:Option U)(x1:Option U)(y9:Option U):Prop
 | mk (x:Str) (z9:Option U) (M':UH) (h0:Gm [x0,x1,some (.str abc),some (.ref n2),some (.int begin),some (.str near),some (.int place),some (.int al),some (.int (k:Int)),y9] M=some (.nx [x0,x1,some (.str abc),some (.ref n2),some (.int begin),some (.str near),some (.int place),some (.int al),some (.int (k:Int)),z9],M')) (h1:Low x) (h2:Tag (Uq al place near) begin k x) (h3:M'[n2]? = some (.lst ((sp++[x]).map U.str))) (h4:(∀ L d,Ex d L M->L.length<=n2->Ex d L M')) (h5:(∀ (d:Nat) (B:Int),n2≠d->Gdk M d B->Gdk M' d B)):names_turn_I M n2 k sp begin place al near x0 x1 y9
theorem Yx{place:Int}{near:Str}(hat:M[n2]? = some (.lst (sp.map U.str)))(hs:sp.length<=1000)(hk:k < 60)(hb0:0<=begin)(hb1:begin < 26)(hal:al=0\/al=1)(hn:near.length<=100)(hlow:Low near)(x0 x1 y9:Option U):names_turn_I M n2 k sp begin place al near x0 x1 y9:=by
 obtain ⟨c,wc,hc,hcE⟩:=Ail (i:=(begin+(k:Int)) % 26) (gJ _ (by decide)) (gX _ (by decide)) M
 obtain ⟨q,wq,hq,hqE⟩:=Ahz (i:=(k:Int) / 26) (by omega) (by omega) M
 have hmd:Eo (.int (begin+(k:Int))) (.int 26) M=some (.int ((begin+(k:Int)) % 26),M):=by simp
 have hmd7:Eo (.int (k:Int)) (.int 7) M=some (.int ((k:Int) % 7),M):=by simp
 have hdv:Jl (.int (k:Int)) (.int 26) M=some (.int ((k:Int) / 26),M):=by
  have:=Ry (i:=(k:Int)) (j:=26) (by decide) (by decide)
  simp[this]
 have s1:(Av (f2 Ak (Aa 2) (f2 Eo (f2 Bc (Aa 4) (Aa 8)) (fC (.int 26)))) (gN 9)) [x0,x1,some (.str abc),some (.ref n2),some (.int begin),some (.str near),some (.int place),some (.int al),some (.int (k:Int)),y9] M=some (.nx [x0,x1,some (.str abc),some (.ref n2),some (.int begin),some (.str near),some (.int place),some (.int al),some (.int (k:Int)),some (.str (one c))],M):=by
  generalize abc=ab at hc
  simp only[fAsg_eq,f2_eq,fC_eq,fVar_eq,bN,aZ,bT,aF,aA,semAdd_int,hmd,hc,gN_eq,aR,aS]
 have m0:0<=(k:Int) % 7/\(k:Int) % 7 < 7:=⟨gJ _ (by decide),gX _ (by decide)⟩
 have hml:=Ake q (1+(k:Int) % 7) (by omega) (by omega) M
 have hll:=Yj q (1+(k:Int) % 7) (by omega)
 have hA:(f2 Bc (Aa 9) (f2 Bx (f2 Ak (fC (.str qjx)) (f2 Jl (Aa 8) (fC (.int 26)))) (f2 Bc (fC (.int 1)) (f2 Eo (Aa 8) (fC (.int 7)))))) [x0,x1,some (.str abc),some (.ref n2),some (.int begin),some (.str near),some (.int place),some (.int al),some (.int (k:Int)),some (.str (one c))] M=some (.str (one c++jM (one q) (1+(k:Int) % 7)),M):=by
  have hcat:=Kv (one c) (jM (one q) (1+(k:Int) % 7)) (by rw[one_len];omega) M
  generalize qjx=qj at hq
  generalize abc=ab
  simp only[f2_eq,fC_eq,fVar_eq,bN,aZ,bT,aF,aA,hdv,hq,hmd7,semAdd_int,hml,hcat]
 have l1:=lP near none (some place)
 have l2:=lP near (some place) none
 have hB:(f2 Bc (f2 Bc (f2 Bc (fSl Dr (Aa 5) A0 (Bo (Aa 6))) (Aa 9)) (f2 Ak (fC (.str qjx)) (f2 Jl (Aa 8) (fC (.int 26))))) (fSl Dr (Aa 5) (Bo (Aa 6)) A0)) [x0,x1,some (.str abc),some (.ref n2),some (.int begin),some (.str near),some (.int place),some (.int al),some (.int (k:Int)),some (.str (one c))] M=some (.str (eX near none (some place)++one c++one q++eX near (some place) none),M):=by
  have c1:=Kv (eX near none (some place)) (one c) (by rw[one_len];omega) M
  have c2:=Kv (eX near none (some place)++one c) (one q) (by rw[cat_len,one_len,one_len];omega) M
  have c3:=Kv (eX near none (some place)++one c++one q) (eX near (some place) none) (by rw[cat_len,cat_len,one_len,one_len];omega) M
  have k1:=Vx near none (some place) (by omega) M
  have k2:=Vx near (some place) none (by omega) M
  generalize qjx=qj at hq
  generalize abc=ab
  simp only[f2_eq,fSl_eq,fNoPart_eq,fPart_eq,fC_eq,fVar_eq,bN,aZ,bT,aF,aA,hdv,hq,k1,k2,c1,c2,c3]
 obtain ⟨x,M',e,lx,hax,r1,r2,r3⟩:=Ad5 (al':=Aa 7) (δ:=[x0,x1,some (.str abc),some (.ref n2),some (.int begin),some (.str near),some (.int place),some (.int al),some (.int (k:Int)),some (.str (one c))]) hal rfl hat hs hA hB (fun _=>rfl) ((Low.one wc).app (Low.mul wq _ (by omega) (by omega))) ((((hlow.slice _ _).app (Low.one wc)).app (Low.one wq)).app (hlow.slice _ _))
 have htag:Tag (Uq al place near) begin k x:=by
  have hq':Q1[k / 26]? = some q:=by
   have:((k:Int) / 26).toNat=k / 26:=by omega
   rw[<- this];exact hqE
  subst hcE
  rcases hal with rfl | rfl
  ·have hx:=hax.1 rfl
   subst hx
   have hm:∃ r,(jM (one q) (1+(k:Int) % 7)).cps.toList=q::r:=Agm q _ (by omega)
   obtain ⟨r,hr⟩:=hm
   have hp:Uq 0 place near=0:=rfl
   rw[hp]
   refine ⟨?_,q,⟨hq',by rw[cat_len,one_len];omega⟩,?_⟩
   ·rw[cps_app,cps_one];rfl
   ·rw[cps_app,cps_one,hr];rfl
  ·have hx:=hax.2 rfl
   subst hx
   have hp:Uq 1 place near=(eX near none (some place)).cps.toList.length:=rfl
   rw[hp]
   refine ⟨?_,q,⟨hq',by rw[cat_len,cat_len,cat_len,one_len,one_len];omega⟩,?_⟩
   ·rw[cps_app,cps_app,cps_app,cps_one,cps_one,dO,dO,cC (aQ _),eG];rfl
   ·rw[cps_app,cps_app,cps_app,cps_one,cps_one,dO,dO,cC (fM _),Nat.succ_sub (aQ _),eG];rfl
 refine ⟨x,some (.str (one c)),M',?_,lx,htag,r1,r2,r3⟩
 have hb:Gm=Ar (Av (f2 Ak (Aa 2) (f2 Eo (f2 Bc (Aa 4) (Aa 8)) (fC (.int 26)))) (gN 9)) (Yv (f2 Bc (Aa 9) (f2 Bx (f2 Ak (fC (.str qjx)) (f2 Jl (Aa 8) (fC (.int 26)))) (f2 Bc (fC (.int 1)) (f2 Eo (Aa 8) (fC (.int 7)))))) (f2 Bc (f2 Bc (f2 Bc (fSl Dr (Aa 5) A0 (Bo (Aa 6))) (Aa 9)) (f2 Ak (fC (.str qjx)) (f2 Jl (Aa 8) (fC (.int 26))))) (fSl Dr (Aa 5) (Bo (Aa 6)) A0)) (Aa 7)):=rfl
 rw[hb,Aj s1]
 exact e
inductive near_comp_I(L:UH)(d:Nat)(B:Int)(x1:Option U)(x3:Option U)(x4:Option U)(x5:Option U)(x6:Option U)(x7:Option U)(x8:Option U)(x9:Option U):Prop
 | mk (r:Nat) (ys:List Str) (L':UH) (h0:Bu [none,some 2,some 0] (G9 (Ac (fC (.int 6)) Af)) (gN 0) none Fq [some (.ref d),x1,some (.str abc),x3,x4,x5,x6,x7,x8,x9] L=some (.ref r,L')) (h1:L'[r]? = some (.lst (ys.map U.str))) (h2:(∀ y∈ys,y.length=1/\Low y)) (h3:ys.length=6) (h4:Gdk L' d (B+6)) (h5:Ex d L L'):near_comp_I L d B x1 x3 x4 x5 x6 x7 x8 x9
theorem Aeb(D:Gdk L d B)(hB:B<=100000000)(x1 x3 x4 x5 x6 x7 x8 x9:Option U):near_comp_I L d B x1 x3 x4 x5 x6 x7 x8 x9:=by
 have hi:G9 (Ac (fC (.int 6)) Af) [some (.ref d),x1,some (.str abc),x3,x4,x5,x6,x7,x8,x9] L=some (.seq (D8 0 6),L):=Pu (n:=6) rfl (by omega)
 obtain ⟨us,δ',M',e,⟨z,hδ⟩,ys,hys,hl1,hly,DM,xM⟩:=Abe (ix:=[none,some 2,some 0]) (it:=.seq (D8 0 6)) (g:=gN 0) (tt:=none) (fe:=Fq) (us:=D8 0 6) (δ:=[some (.ref d),x1,some (.str abc),x3,x4,x5,x6,x7,x8,x9]) (L:=L) (L0:=L)
   (fun k acc δ' M=>(∃ z,δ'=[z,some (.str abc),some (.ref d)])/\∃ (ys:List Str),acc=ys.map U.str/\(∀ y∈ys,y.length=1/\Low y)/\ys.length=k/\Gdk M d (B+k)/\Ex d L M)
   hi (by simp[IU.size]) ⟨⟨none,rfl⟩,[],rfl,by simp,rfl,by simpa using D,Ex.refl d L⟩
   (fun k acc δ L _ _=>rfl)
   (fun k u acc δ M hu zz=>by
    obtain ⟨⟨z,hδ⟩,ys,hys,hl1,hly,DM,xM⟩:=zz
    subst hδ
    obtain ⟨hk,rfl⟩:=Lm hu
    obtain ⟨r,M',e1,r0,r1,D',x'⟩:=B4 (many:=26) DM (by omega) (by decide) (by decide)
    obtain ⟨c,wc,hc⟩:=Al0 r0 r1 M'
    have ha:acc.length < 16777216:=by rw[hys,aI,hly];omega
    refine ⟨[some (.int (0+k)),some (.str abc),some (.ref d)],M,rfl,true,M,rfl,fun _=>⟨.str (one c),M',?_,ha,⟨_,rfl⟩,ys++[one c],by simp[hys],?_,by simp[hly],?_,xM.trans x'⟩,fun h=>by cases h⟩
    ·unfold Fq
     generalize abc=ab at hc
     simp only[f2_eq,fOwn_eq,fCons_eq,fNil_eq,fC_eq,fVar_eq,bN,aZ,bT,aF,aA,aY,cB,if_true,e1,hc]
    ·intro y hy
     rcases bP.mp hy with h | h
     ·exact hl1 y h
     ·rw[bC.mp h];exact ⟨rfl,Low.one wc⟩
    ·have:B+((k+1:Nat):Int)=B+(k:Int)+1:=by omega
     rw[this];exact D')
 rw[Oo] at hly DM
 exact ⟨_,ys,_,e,by rw[hys];simp,hl1,hly,DM.new _,xM.trans (Ex.new d _ _)⟩
theorem Tt:∀ ys:List Str,(∀ y∈ys,y.length=1)->(ys.map (·.length)).sum=ys.length
 | [],_=>rfl
 | y::ys,h=>by
  rw[aL,fD,Tt ys (fun z hz=>h z (aT _ hz)),h y (aX ..),aY];omega
theorem Pj:∀ ys:List Str,mapO toS (ys.map U.str)=some ys
 | []=>rfl
 | y::ys=>by simp only[aL,mapO,toS,Pj ys,aA,aF]
noncomputable def nul:Str := ""
theorem Ai6:Low nul:=by unfold Low;decide +kernel
theorem Acv:nul.length=0:=by decide +kernel
theorem U4(g:Str)(hg:g.length=0):∀ (ys:List Str) (acc:Array Nat),(ys.foldl (fun acc p=>acc++g.cps++p.cps) acc).size=acc.size+(ys.map (·.length)).sum
 | [],acc=>by simp
 | y::ys,acc=>by
  have hg':g.cps.size=0:=hg
  have hy:y.length=y.cps.size:=rfl
  rw[jK,U4 g hg ys,aL,fD,mU,mU,hg',hy]
  omega
theorem Ajv{r:Nat}{ys:List Str}(h:L[r]? = some (.lst (ys.map U.str)))(h1:∀ y∈ys,y.length=1/\Low y)(h2:ys.length=6):∃ near:Str,K9 (.str nul) [.ref r] L=some (.str near,L)/\near.length<=100/\Low near:=by
 have hs:=Tt ys (fun y hy=>(h1 y hy).1)
 refine ⟨tD nul ys,?_,?_,?_⟩
 ·unfold K9
  simp only[C7 h,aA,Pj]
  rw[if_pos ⟨by rw[Acv];omega,by rw[hs];omega⟩]
 ·cases ys with
  | nil=>simp at h2
  | cons y ys=>
   show (ys.foldl (fun acc p=>acc++nul.cps++p.cps) y.cps).size<=100
   have hy:y.cps.size=1:=(h1 y (aX ..)).1
   rw[U4 nul Acv ys y.cps,hy,Tt ys (fun z hz=>(h1 z (aT _ hz)).1)]
   simp only[aY] at h2
   omega
 ·cases ys with
  | nil=>simp at h2
  | cons y ys=>exact Low.fold nul Ai6 ys y.cps (fun z hz=>(h1 z (aT _ hz)).2) (h1 y (aX ..)).2
noncomputable def Dd:List Str:=["a","b","ab","ba","aba","put","take","move","stairs","longest","crowd","northeas"]
theorem Anz(a b c d e f g h i j k l:Str)(δ:UE)(L:UH):(Cu (Ac (fC (.str a)) (Ac (fC (.str b)) (Ac (fC (.str c)) (Ac (fC (.str d)) (Ac (fC (.str e)) (Ac (fC (.str f)) (Ac (fC (.str g)) (Ac (fC (.str h)) (Ac (fC (.str i)) (Ac (fC (.str j)) (Ac (fC (.str k)) (Ac (fC (.str l)) Af))))))))))))) δ L=some (.ref L.length,L++[.lst ([a,b,c,d,e,f,g,h,i,j,k,l].map U.str)]):=by
 have sm:∀ a b c d e f g h i j k l:U,Dy [a,b,c,d,e,f,g,h,i,j,k,l].length=true:=fun _ _ _ _ _ _ _ _ _ _ _ _=>small_of (by show 12<=16777216;decide)
 simp only[fLst_eq,fCons_eq,fC_eq,fNil_eq,aA,aF]
 rw[if_pos (sm _ _ _ _ _ _ _ _ _ _ _ _)]
 rfl
variable {v:U}
theorem C8{fe:FE}(e:fe δ L=some (v,L')):(Av fe (gN i)) δ L=some (.nx (δ.set i (some v)),L'):=by
 rw[fAsg_eq,e]
 simp only[aA,gN_eq,aF]
theorem Mr{f:FN}{c:Int}{u:U}(h:Aa i δ L=some (u,L))(e:f [u,.int c] L=some (v,L')):(Ay 2 f (Ac (Aa i) (Ac (fC (.int c)) Af))) δ L=some (v,L'):=by
 rw[fOwn_eq,fCons_eq,h]
 simp only[aA,fCons_eq,fC_eq,fNil_eq,aF,aY,cB,if_true,e]
theorem Nw{f:FN}{u:U}(h:Aa i δ L=some (u,L))(e:f [u] L=some (v,L')):(Ay 1 f (Ac (Aa i) Af)) δ L=some (v,L'):=by
 rw[fOwn_eq,fCons_eq,h]
 simp only[aA,fNil_eq,aF,aY,cB,if_true,e]
noncomputable def Aos(s:Str):Bool:=s.cps.toList.all fun c=>decide (97<=c)&&decide (c<=122)
theorem Nu{s:Str}(h:Aos s=true):Low s:=fun c hc=>by
 have:=cF.mp h c hc
 simpa using this
theorem Adu:∀ x∈Dd,Low x:=fun x hx=>Nu (cF.mp (show Dd.all Aos=true by decide +kernel) x hx)
theorem Aen{n1:Nat}(hal:al=0\/al=1)(h:M[n1]? = some (.lst (Dd.map U.str))):∃ sp:List Str,Dr (.ref n1) (some (12 * al)) none M=some (.ref M.length,M++[.lst (sp.map U.str)])/\sp.length<=12/\(∀ x∈sp,Low x)/\sp=(if al=0 then Dd else []):=by
 have hs:=Al h
 refine ⟨(Dd.drop (HT.sIx (Dd.map U.str).length 0 (some (12 * al)))).take (HT.sIx (Dd.map U.str).length (Dd.map U.str).length none - HT.sIx (Dd.map U.str).length 0 (some (12 * al))),?_,?_,fun x hx=>Adu x (dP (dQ hx)),?_⟩
 ·show Hz (.ref n1) (some (12 * al)) none M=_
  simp only[Hz,hs,aF]
  unfold Me
  rw[jG,jH]
 ·have:Dd.length=12:=rfl
  rw[cH,cS];omega
 ·rcases hal with rfl | rfl
  ·rfl
  ·rfl
theorem Adx(begin:Int)(k:Nat):∀ x∈Dd,¬ Tag 0 begin k x:=fun x hx h=>by
 obtain ⟨_,q,⟨hq,_⟩,h2⟩:=h
 have hw:∀ y∈Dd,∀ c∈Q1,y.cps.toList[1]?≠some c:=by decide +kernel
 exact hw x hx q (aW hq) h2
noncomputable def w8:Str := "wwwwwwww"
noncomputable def Okn(x:Str):Prop:=x.length<=300/\x≠w8
theorem Adh:∀ x∈Dd,Okn x:=fun x hx=>by
 have h:∀ y∈Dd,y.length<=300/\y≠w8:=by decide +kernel
 exact h x hx
theorem Tag.okn(h:Tag p begin k x):Okn x:=by
 obtain ⟨_,q,⟨hq,hl⟩,h2⟩:=h
 refine ⟨hl,fun e=>?_⟩
 rw[e] at h2
 have hw:∀ c∈w8.cps.toList,c∉Q1:=by decide +kernel
 exact hw q (aW h2) (aW hq)
theorem words_nodup:Dd.Nodup:=by decide +kernel
inductive names_loop_I(M:UH)(n2:Nat)(sp:List Str)(begin:Int)(place:Int)(al:Int)(near:Str)(x0:Option U)(x1:Option U)(y8:Option U)(y9:Option U):Prop
 | mk (sp':List Str) (z8 z9:Option U) (M':UH) (h0:(Fx (G9 (Ac (fC (.int 60)) Af)) (gN 8) Gm) [x0,x1,some (.str abc),some (.ref n2),some (.int begin),some (.str near),some (.int place),some (.int al),y8,y9] M=some (.nx [x0,x1,some (.str abc),some (.ref n2),some (.int begin),some (.str near),some (.int place),some (.int al),z8,z9],M')) (h1:M'[n2]? = some (.lst (sp'.map U.str))) (h2:(∃ xs:List Str,sp'=sp++xs/\xs.length=60/\∀ i x,xs[i]? = some x->Tag (Uq al place near) begin i x)) (h3:60<=sp'.length) (h4:sp'.length<=72) (h5:(∀ x∈sp',Low x)) (h6:(∀ L d,Ex d L M->L.length<=n2->Ex d L M')) (h7:(∀ (d:Nat) (B:Int),n2≠d->Gdk M d B->Gdk M' d B)):names_loop_I M n2 sp begin place al near x0 x1 y8 y9
theorem Aa6{place:Int}{near:Str}(hat:M[n2]? = some (.lst (sp.map U.str)))(hs:sp.length<=12)(hb0:0<=begin)(hb1:begin < 26)(hal:al=0\/al=1)(hn:near.length<=100)(hlow:Low near)(hsl:∀ x∈sp,Low x)(x0 x1 y8 y9:Option U):names_loop_I M n2 sp begin place al near x0 x1 y8 y9:=by
 have hi:G9 (Ac (fC (.int 60)) Af) [x0,x1,some (.str abc),some (.ref n2),some (.int begin),some (.str near),some (.int place),some (.int al),y8,y9] M=some (.seq (D8 0 60),M):=Pu (n:=60) rfl (by omega)
 obtain ⟨δ',M',e,P⟩:=O9 (us:=D8 0 60) (body:=Gm) (g:=gN 8)
  (fun k δ' M'=>∃ (sp':List Str) (z8 z9:Option U),δ'=[x0,x1,some (.str abc),some (.ref n2),some (.int begin),some (.str near),some (.int place),some (.int al),z8,z9]/\M'[n2]? = some (.lst (sp'.map U.str))/\(∃ xs:List Str,sp'=sp++xs/\xs.length=k/\∀ i x,xs[i]? = some x->Tag (Uq al place near) begin i x)/\k<=sp'.length/\sp'.length<=12+k/\(∀ x∈sp',Low x)/\(∀ L d,Ex d L M->L.length<=n2->Ex d L M')/\(∀ (d:Nat) (B:Int),n2≠d->Gdk M d B->Gdk M' d B))
  hi ⟨sp,y8,y9,rfl,hat,⟨[],by simp,rfl,fun i x h=>by simp at h⟩,by omega,by omega,hsl,fun _ _ e _=>e,fun _ _ _ D=>D⟩
  (fun k u δ N hu zz=>by
   obtain ⟨sp',z8,z9,hδ,hat',⟨xs,hxs,hxl,hxt⟩,h1,h2,hw,h3,h4⟩:=zz
   subst hδ
   obtain ⟨hk,rfl⟩:=Lm hu
   have h0:(0:Int)+(k:Int)=(k:Int):=by omega
   rw[h0]
   obtain ⟨x,w9,N',e1,lx,htag,r1,r2,r3⟩:=Yx (place:=place) hat' (by omega) hk hb0 hb1 hal hn hlow x0 x1 z9
   exact ⟨[x0,x1,some (.str abc),some (.ref n2),some (.int begin),some (.str near),some (.int place),some (.int al),some (.int (k:Int)),z9],N,rfl,_,N',.inl e1,sp'++[x],_,_,rfl,r1,⟨xs++[x],by rw[hxs,dO],by simp[hxl],fun i y hy=>by
    by_cases hi:i < xs.length
    ·rw[bG hi] at hy;exact hxt i y hy
    ·have hil:=(aG.mp hy).1
     rw[bB,eN] at hil
     have:i=k:=by omega
     subst this
     rw[cC (by omega),hxl,eG] at hy
     cases hy
     exact htag⟩,by simp;omega,by simp;omega,fun y hy=>by rcases bP.mp hy with h | h;exact hw y h;rw[bC.mp h];exact lx,fun L d e hL=>r2 L d (h3 L d e hL) hL,fun d B hd D=>r3 d B hd (h4 d B hd D)⟩)
 obtain ⟨sp',z8,z9,hδ,hat',hX,h1,h2,hw,h3,h4⟩:=P
 rw[hδ] at e
 rw[Oo] at h1 h2 hX
 exact ⟨sp',z8,z9,M',e,hat',hX,h1,h2,hw,h3,h4⟩
inductive pops_comp_I(M:UH)(d:Nat)(n2:Nat)(many:Nat)(B:Int)(sp:List Str)(x2:Option U)(x4:Option U)(x5:Option U)(x6:Option U)(x7:Option U)(x8:Option U)(x9:Option U):Prop
 | mk (r:Nat) (names:List Str) (M':UH) (h0:Bu [none,some 3,some 0] (G9 (Ac (Aa 1) Af)) (gN 0) none G1 [some (.ref d),some (.int many),x2,some (.ref n2),x4,x5,x6,x7,x8,x9] M=some (.ref r,M')) (h1:M'[r]? = some (.lst (names.map U.str))) (h2:names.length=many) (h3:(∃ rest,(names++rest).Perm sp)) (h4:Gdk M' d (B+many)) (h5:(∀ L,Ex d L M->L.length<=n2->Ex d L M'/\L.length<=r)):pops_comp_I M d n2 many B sp x2 x4 x5 x6 x7 x8 x9
theorem Aeg{many:Nat}(D:Gdk M d B)(hB:B<=100000000)(hnd:n2≠d)(hat:M[n2]? = some (.lst (sp.map U.str)))(hm:many<=sp.length)(hs:sp.length<=72)(x2 x4 x5 x6 x7 x8 x9:Option U):pops_comp_I M d n2 many B sp x2 x4 x5 x6 x7 x8 x9:=by
 have hi:G9 (Ac (Aa 1) Af) [some (.ref d),some (.int many),x2,some (.ref n2),x4,x5,x6,x7,x8,x9] M=some (.seq (D8 0 many),M):=Pu rfl (by omega)
 obtain ⟨ys,δ',M',e,⟨z,hδ⟩,vs,rest,hvs,hlv,hlr,hp,hat,DM,xM⟩:=Abe (ix:=[none,some 3,some 0]) (it:=.seq (D8 0 many)) (g:=gN 0) (tt:=none) (fe:=G1) (us:=D8 0 many) (δ:=[some (.ref d),some (.int many),x2,some (.ref n2),x4,x5,x6,x7,x8,x9]) (L:=M) (L0:=M)
   (fun k acc δ' M'=>(∃ z,δ'=[z,some (.ref n2),some (.ref d)])/\∃ (vs rest:List Str),acc=vs.map U.str/\vs.length=k/\rest.length+k=sp.length/\(vs++rest).Perm sp/\M'[n2]? = some (.lst (rest.map U.str))/\Gdk M' d (B+k)/\(∀ L,Ex d L M->L.length<=n2->Ex d L M'))
   hi (by simp[IU.size]) ⟨⟨none,rfl⟩,[],sp,rfl,rfl,rfl,by simp,hat,by simpa using D,fun _ e _=>e⟩
   (fun k acc δ L _ _=>rfl)
   (fun k u acc δ N hu zz=>by
    obtain ⟨⟨z,hδ⟩,vs,rest,hvs,hlv,hlr,hp,hat,DM,xM⟩:=zz
    subst hδ
    obtain ⟨hk,rfl⟩:=Lm hu
    obtain ⟨r,N',l',e,D',hat',hl',hx',hperm⟩:=Aek U.str DM (by omega) hnd hat (by omega) (by omega) (some (.int (0+(k:Int))))
    have ha:acc.length < 16777216:=by rw[hvs,aI,hlv];omega
    refine ⟨[some (.int (0+k)),some (.ref n2),some (.ref d)],N,rfl,true,N,rfl,fun _=>⟨.str r,N',?_,ha,⟨_,rfl⟩,vs++[r],l',by simp[hvs],by simp[hlv],by omega,?_,hat',?_,fun L eL hL=>hx' L (xM L eL hL) hL⟩,fun h=>by cases h⟩
    ·unfold G1;exact e
    ·refine sH ?_ hp
     rw[dO]
     exact kK vs hperm
    ·have:B+((k+1:Nat):Int)=B+(k:Int)+1:=by omega
     rw[this];exact D')
 rw[Oo] at hlv DM
 exact ⟨_,vs,_,e,by rw[hvs];simp,hlv,⟨rest,hp⟩,DM.new _,fun L eL hL=>⟨(xM L eL hL).trans (Ex.new d _ _),(xM L eL hL).le⟩⟩
inductive names_ok_I(L:UH)(d:Nat)(many:Nat)(B:Int):Prop
 | mk (n:Nat) (names:List Str) (L':UH) (h0:Ir [.ref d,.int many] L=some (.ref n,L')) (h1:L'[n]? = some (.lst (names.map U.str))) (h2:names.length=many) (h3:names.Nodup) (h4:(∀ x∈names,Okn x)) (h5:(∀ x∈names,Low x)) (h6:Gdk L' d (B+100)) (h7:Ex d L L') (h8:L.length<=n):names_ok_I L d many B
theorem Ahl{many:Nat}(D:Gdk L d B)(hB:B<=10000000)(hm:many<=60):names_ok_I L d many B:=by
 have s1:(Av (fC (.str "abcdefghijklmnopqrstuvwxyz")) (gN 2)) [some (.ref d),some (.int many),none,none,none,none,none,none,none,none] L=some (.nx [some (.ref d),some (.int many),some (.str abc),none,none,none,none,none,none,none],L):=rfl
 have s2:=C8 (i:=3) (Anz "a" "b" "ab" "ba" "aba" "put" "take" "move" "stairs" "longest" "crowd" "northeas" [some (.ref d),some (.int many),some (.str abc),none,none,none,none,none,none,none] L)
 have hw:(["a","b","ab","ba","aba","put","take","move","stairs","longest","crowd","northeas"]:List Str)=Dd:=rfl
 rw[hw] at s2
 simp only[aR,aS] at s2
 have hdl:=D.lt
 have k1:(L++[HU.lst (Dd.map U.str)])[L.length]? = some (.lst (Dd.map U.str)):=by simp
 obtain ⟨begin,L3,e3,b0,b1,D3,x3⟩:=B4 (many:=26) (D.new [HU.lst (Dd.map U.str)]) (by omega) (by decide) (by decide)
 have s3:=C8 (i:=4) (Mr (i:=0) (δ:=[some (.ref d),some (.int many),some (.str abc),some (.ref L.length),none,none,none,none,none,none]) rfl e3)
 simp only[aR,aS] at s3
 have k3:=x3.get k1 (by omega)
 obtain ⟨r4,ys,L4,e4,h4,hy1,hy6,D4,x4⟩:=Aeb D3 (by omega) (some (.int many)) (some (.ref L.length)) (some (.int begin)) none none none none none
 obtain ⟨near,hj,hnl,hlow⟩:=Ajv h4 hy1 hy6
 have s4:(Av (Ck "str" K9 (fC (.str "")) (Ac (Bu [none,some 2,some 0] (G9 (Ac (fC (.int 6)) Af)) (gN 0) none Fq) Af)) (gN 5)) [some (.ref d),some (.int many),some (.str abc),some (.ref L.length),some (.int begin),none,none,none,none,none] L3=some (.nx [some (.ref d),some (.int many),some (.str abc),some (.ref L.length),some (.int begin),some (.str near),none,none,none,none],L4):=by
  have ty:tyU "str" (.str nul) L3=true:=rfl
  have hn:(fC (.str ""):FE)=fC (.str nul):=rfl
  rw[hn]
  generalize nul=nl at hj ty
  rw[fAsg_eq,fMeth_eq]
  simp only[fC_eq,aA,ty,if_true]
  rw[fCons_eq,e4]
  simp only[aA,fNil_eq,aF,hj,gN_eq,aR,aS]
 have k4:=x4.get k3 (by omega)
 obtain ⟨place,L5,e5,p0,p1,D5,x5⟩:=B4 (many:=7) D4 (by omega) (by decide) (by decide)
 have s5:=C8 (i:=6) (Mr (i:=0) (δ:=[some (.ref d),some (.int many),some (.str abc),some (.ref L.length),some (.int begin),some (.str near),none,none,none,none]) rfl e5)
 simp only[aR,aS] at s5
 have k5:=x5.get k4 (by omega)
 obtain ⟨al,L6,e6,a0,a1,D6,x6⟩:=B4 (many:=2) D5 (by omega) (by decide) (by decide)
 have s6:=C8 (i:=7) (Mr (i:=0) (δ:=[some (.ref d),some (.int many),some (.str abc),some (.ref L.length),some (.int begin),some (.str near),some (.int place),none,none,none]) rfl e6)
 simp only[aR,aS] at s6
 have k6:=x6.get k5 (by omega)
 have hal:al=0\/al=1:=by omega
 obtain ⟨sp,hsl,hsp,hspl,hspE⟩:=Aen hal k6
 have s7:(Av (fSl Dr (Aa 3) (Bo (f2 Bx (fC (.int 12)) (Aa 7))) A0) (gN 3)) [some (.ref d),some (.int many),some (.str abc),some (.ref L.length),some (.int begin),some (.str near),some (.int place),some (.int al),none,none] L6=some (.nx [some (.ref d),some (.int many),some (.str abc),some (.ref L6.length),some (.int begin),some (.str near),some (.int place),some (.int al),none,none],L6++[.lst (sp.map U.str)]):=by
  have hmu:Bx (.int 12) (.int al) L6=some (.int (12 * al),L6):=by
   have:=Nh (i:=12) (j:=al) (by decide) (by decide)
   simp only[Bx,this,if_true]
  generalize abc=ab
  simp only[fAsg_eq,fSl_eq,fNoPart_eq,fPart_eq,f2_eq,fC_eq,fVar_eq,bN,aZ,bT,aF,aA,hmu,hsl,gN_eq,aR,aS]
 have k7:(L6++[HU.lst (sp.map U.str)])[L6.length]? = some (.lst (sp.map U.str)):=by simp
 have xL6:Ex d L L6:=(Ex.new d L _).trans (x3.trans (x4.trans (x5.trans x6)))
 have D7:=D6.new [HU.lst (sp.map U.str)]
 have hne:L6.length≠d:=by have:=D6.lt;omega
 obtain ⟨sp',z8,z9,L8,e8,k8,⟨xs,hxs,hxl,hxt⟩,l0,l1,hw8,h8,h8D⟩:=Aa6 (place:=place) k7 hsp b0 b1 hal hnl hlow hspl (some (.ref d)) (some (.int many)) none none
 obtain ⟨r,names,L9,e9,k9,hln,⟨rest,hperm⟩,D9,h9⟩:=Aeg (many:=many) (h8D d _ hne D7) (by omega) hne k8 (by omega) l1 (some (.str abc)) (some (.int begin)) (some (.str near)) (some (.int place)) (some (.int al)) z8 z9
 have x9:=h9 L (h8 L d (xL6.trans (Ex.new d L6 _)) xL6.le) xL6.le
 have hnd':sp'.Nodup:=by
  rw[hxs]
  have hxn:xs.Nodup:=by
   rw[iZ,hU]
   intro i j hi hj hij he
   have t1:=hxt i _ (aC hi)
   have t2:=hxt j _ (aC hj)
   rw[he] at t1
   have:=t1.inj t2 (by omega) (by omega)
   omega
  rcases hal with rfl | rfl
  ·rw[hspE,if_pos rfl]
   refine eB.mpr ⟨words_nodup,hxn,fun a ha b hb hab=>?_⟩
   subst hab
   obtain ⟨i,hi,he⟩:=cY hb
   have:=hxt i a (by rw[aC hi,he])
   exact Adx begin i a ha this
  ·rw[hspE,if_neg (by decide)]
   exact hxn
 have hok:∀ x∈sp',Okn x:=fun x hx=>by
  rw[hxs] at hx
  rcases bP.mp hx with h | h
  ·refine Adh x ?_
   rw[hspE] at h
   split at h
   ·exact h
   ·cases h
  ·obtain ⟨i,hi,he⟩:=cY h
   exact (hxt i x (by rw[aC hi,he])).okn
 have hnd:names.Nodup:=(eB.mp (hperm.nodup_iff.mpr hnd')).1
 refine ⟨r,names,L9,?_,k9,hln,hnd,fun x hx=>hok x (hperm.mem_iff.mp (dD _ hx)),fun x hx=>hw8 x (hperm.mem_iff.mp (dD _ hx)),D9.mono (by omega),x9.1,x9.2⟩
 have hb:U1=Ar (Av (fC (.str "abcdefghijklmnopqrstuvwxyz")) (gN 2)) (Ar (Av (Cu (Ac (fC (.str "a")) (Ac (fC (.str "b")) (Ac (fC (.str "ab")) (Ac (fC (.str "ba")) (Ac (fC (.str "aba")) (Ac (fC (.str "put")) (Ac (fC (.str "take")) (Ac (fC (.str "move")) (Ac (fC (.str "stairs")) (Ac (fC (.str "longest")) (Ac (fC (.str "crowd")) (Ac (fC (.str "northeas")) Af))))))))))))) (gN 3)) (Ar (Av (Ay 2 Am (Ac (Aa 0) (Ac (fC (.int 26)) Af))) (gN 4)) (Ar (Av (Ck "str" K9 (fC (.str "")) (Ac (Bu [none,some 2,some 0] (G9 (Ac (fC (.int 6)) Af)) (gN 0) none Fq) Af)) (gN 5)) (Ar (Av (Ay 2 Am (Ac (Aa 0) (Ac (fC (.int 7)) Af))) (gN 6)) (Ar (Av (Ay 2 Am (Ac (Aa 0) (Ac (fC (.int 2)) Af))) (gN 7)) (Ar (Av (fSl Dr (Aa 3) (Bo (f2 Bx (fC (.int 12)) (Aa 7))) A0) (gN 3)) (Ar (Fx (G9 (Ac (fC (.int 60)) Af)) (gN 8) Gm) (Cf (Bu [none,some 3,some 0] (G9 (Ac (Aa 1) Af)) (gN 0) none G1))))))))):=rfl
 unfold Ir fnU
 simp only[aY,cB,if_true,aL,cU,bW,nN,jL]
 rw[hb,Aj s1,Aj s2,Aj s3,Aj s4,Aj s5,Aj s6,Aj s7,Aj e8,fRet_eq,e9]
 rfl
end Lw
namespace MR
open PySem PySem.Spec PyProof.Rows L2
variable {X:Cx}{H:Hp}
section
variable {pins:List (Addr×Obj)}{σ:L2.St}{H':Hp}{s:aN}
end
variable {K:aK}{α:List Addr}
section
variable {H':Hp}
mutual
theorem RepU.via(g:∀ a xs,SqT K H a xs->SqT K H' a xs):∀ (u:U) (v:V),RepU K H α u v->RepU K H' α u v
 | .non,_,h=>h
 | .bl _,_,h=>h
 | .int _,_,h=>h
 | .str _,_,h=>h
 | .tup l,v,h=>by
  unfold RepU at h ⊢
  obtain ⟨a,xs,e,s,r⟩:=h
  exact ⟨a,xs,e,g _ _ s,RepL.via g l xs r⟩
 | .ref n,v,h=>by
  unfold RepU at h ⊢
  exact h
theorem RepL.via(g:∀ a xs,SqT K H a xs->SqT K H' a xs):∀ (l:List U) (xs:List V),RepL K H α l xs->RepL K H' α l xs
 | [],xs,h=>h
 | u::l,xs,h=>by
  unfold RepL at h ⊢
  obtain ⟨x,r,e,h1,h2⟩:=h
  exact ⟨x,r,e,RepU.via g u x h1,RepL.via g l r h2⟩
end
end
structure DObj(P:cT)(w:eO)(o:Obj)(kvs:List (Key×V))(vs:List (Key×aJ))(ep:Nat):Prop where
 rel:KV kvs vs
 at_:∀ (h:Heap) (d:Addr),h.get? d=some o->h.DictAt (Bp P w) d vs ep
section
variable {P:cT}{w:eO}{d it:Addr}{o:Obj}{kvs:List (Key×V)}{vs:List (Key×aJ)}{ep:Nat}
end
section
variable {tg o e:Expr}{apos cpos:Pos}{td:TE}
structure M0(X:Cx)(o:Expr)(m:Str)(apos cpos:Pos):Prop where
 base:attributeBase o m X.env (eval o X.env)=eval o X.env
 few:((backTo cpos (bS [] X.env)).all (fun x=>!x.1)&&(backToKw cpos (keywordEach [] X.env)).all (fun x=>x.1.isSome)
  && decide (([]:List Expr).length+([]:List jJ).length+(if ([]:List jJ).isEmpty then 0 else 1) < 30))=true
 line:(apos.endLine == cpos.line)=true
 trees:backTo cpos (bS [] X.env)=[]
theorem Aie{pins:List (Addr×Obj)}{σ:L2.St}{s:aN}{a:Addr}{kvs:List (Key×V)}(I:L2.Inv X pins σ H s)(e:H a=some (.dK kvs)) :
  (a == sysModules)=false/\∃ ob vs ep,s.heap.get? a=some ob/\DObj X.prog X.w ob kvs vs ep:=by
 obtain ⟨z,hd,vs,rel,ob,es,ep,h1,h2⟩:=Akt I.hok e
 exact ⟨hd,ob,vs,ep,h1,rel,fun h d hg=>⟨ob,es,hg,h2⟩⟩
end
section
variable {L:UH}{a:Addr}{ob:Obj}
end
section
variable {tg o:Expr}{apos cpos:Pos}{fo:FE}
noncomputable def Ab9:R2:=fun y x H Q=>∃ a r,x = .ref a/\DGet H a y r/\Q (.bl (!r.isSome)) H
theorem Ac1(hu:X.A.units+64 < cLine):OpR X (fJ .NotIn) Ab9:=by
 intro pins s σ H x y u w Q I rx ry h
 obtain ⟨a,r,rfl,g,q⟩:=h
 obtain rfl:w=eQ a:=ry
 exact Ajr (by omega) I g rx fun s' I'=>⟨.bl _,H,I',rfl,q⟩
noncomputable def Nn:S2:=fun y x L=>match x with
 | .ref n=>(toK y).bind fun k=>(E2 L n).map fun kvs=>(.bl (!(Qw kvs k).isSome),L)
 | _=>none
theorem Xz(k:Key):∀ kvs:List (Key×U),(kvs.find? fun kv=>decide (kv.1=k)).isSome=kvs.any fun kv=>decide (kv.1=k)
 | []=>rfl
 | kv::kvs=>by
  rw[fH,iJ]
  by_cases h:kv.1=k
  ·simp[h]
  ·simp only[h,decide_false,tF]
   exact Xz k kvs
theorem RepKV.some{kvs:List (Key×U)}{vs:List (Key×V)}(r:RepKV K H α kvs vs)(k:Key):(Qw kvs k).isSome=(Pg vs k).isSome:=by
 have h1:(Qw kvs k).isSome=kvs.any fun kv=>decide (kv.1=k):=by
  unfold Qw
  rw[mT]
  exact Xz k kvs
 rw[h1,r.any,R7]
theorem Aa5:Ew K Ab9 Nn:=by
 intro H α L u w x y z L' Q A ru rw' e q
 unfold Nn at e
 split at e
 ·obtain ⟨k,hk,e⟩:=aB.mp e
  obtain ⟨kvs,hd,e⟩:=aH.mp e
  cases e
  obtain ⟨a,vs,rfl,ea,ha,rk⟩:=Ph A hd rw'
  refine ⟨a,_,rfl,by rw[V6 ru hk];exact DGet.k ha,?_⟩
  rw[<- rk.some k]
  exact q _ H α (.refl _ _) A rfl
 ·cases e
end
end MR
namespace ZT
open PySem PySem.Spec PyProof.Rows PySem.W
open Sem (wp)
section
variable {prog:cT}{w:eO}{A:eS}{E:aJ->aN->Prop}{s:aN}{T:String}{r d:Addr}{n:Nat}{P:Nat->aJ->Prop}{OK:Heap->Prop}
theorem Xi{Q:List aJ->aN->Prop}(K:KdlSrc prog w T r d n P OK)(hh:A.handled=none)(hok:OK s.heap)
  (hQ:∀ (h':Heap) (tk:Nat) (acc:Array aJ),(∀ b o,s.heap.get? b=some o->h'.get? b=some o)->ItemsOf P acc n->Q acc.toList { s with heap:=h',toks:=tk }) (hn:n<=sizeLine):wpAny (model prog w) A (collect (.ref r)) Q E s:=by
 have hlt:=K.there _ hok
 unfold collect
 refine aD (wpAny_runValue (iC PySem.F.entry_proto_collect ?_))
 rw[gG PySem.F.plain_proto_collect _]
 show wpAny _ A.in1 (newList [] >>= fun l=>again (.builtin "list.__iadd__" ⟨[l,.ref r],[]⟩)) _ _ s
 refine aD (dM ?_)
 refine aM ⟨nC nO _,iC PySem.F.entry_list_iadd ?_⟩
 rw[gG nO _]
 have hS₁:(s.heap.push { cls:=.type "list",data:=.seq ([]:List aJ).toArray }).get? s.heap.objs.size=some { cls:=.type "list",data:=.seq ([]:List aJ).toArray }:=bE _ rfl
 show wpAny _ A.in1 (iP.List.listExtendWith (.ref s.heap.objs.size) (.ref r) (.ref s.heap.objs.size)) _ _ _
 refine kdl_extend (R:=wants _ E) (s:={ s with heap:=s.heap.push { cls:=.type "list",data:=.seq ([]:List aJ).toArray } }) K hh (K.keep _ _ hok fun b _ o e=>aE _ e) s.heap.objs.size (iD hlt.1) (iD hlt.2) _ _ hS₁ (fun h' tk acc' c' hk hS' hacc=>?_) hn
 show wpAny _ A (load s.heap.objs.size >>= _) _ _ _
 refine aD (sQ hS' ?_)
 exact aM (hQ h' tk acc' (fun b o e=>hk b o (bV (aV e)) (aE _ e)) hacc)
end
end ZT
namespace MR
open PySem PySem.Spec PyProof.Rows PySem.Calls L2
section
variable {X:Cx}{o:Expr}{apos cpos p pos:Pos}{td:TE}{fo:FE}
end
end MR
namespace SO
open PySem PySem.W PyProof.Rows
noncomputable def On{α:Type}(n:Nat)(lt:Nat->Nat->Bool)(P:α->Prop):KasT α->Prop
 | .ret a=>P a
 | .ask i j k=>i < n/\j < n/\On n lt P (k (lt i j))
variable {n:Nat}{lt:Nat->Nat->Bool}
theorem On.bind{α β:Type}{P:α->Prop}{Q:β->Prop}{f:α->KasT β}(hf:∀ a,P a->On n lt Q (f a)):∀ {t:KasT α},On n lt P t->On n lt Q (t.bind f)
 | .ret a,h=>hf a h
 | .ask i j k,h=>⟨h.1,h.2.1,On.bind hf h.2.2⟩
theorem On.imp{α:Type}{P Q:α->Prop}(hf:∀ a,P a->Q a):∀ {t:KasT α},On n lt P t->On n lt Q t
 | .ret a,h=>hf a h
 | .ask i j k,h=>⟨h.1,h.2.1,On.imp hf h.2.2⟩
theorem On.wp{α:Type}{P:α->Prop}{cmp:Nat->Nat->(Bool->aN->Prop)->aN->Prop}{s:aN}{Q:α->aN->Prop}(hc:∀ i j C,i < n->j < n->C (lt i j) s->cmp i j C s)(hq:∀ a,P a->Q a s):∀ {t:KasT α},On n lt P t->t.kasWp cmp Q s
 | .ret a,h=>hq a h
 | .ask i j k,h=>hc i j _ h.1 h.2.1 (On.wp hc hq h.2.2)
structure Wo(lt:Nat->Nat->Bool):Prop where
 asym:∀ i j,lt i j=true->lt j i=false
 tr:∀ i j k,lt j i=false->lt k j=false->lt k i=false
variable {i j k m nrem:Nat}{p:Array Nat}
section
noncomputable def Le(lt:Nat->Nat->Bool)(i j:Nat):Prop:=lt j i=false
noncomputable def Eqv(lt:Nat->Nat->Bool)(i j:Nat):Prop:=Le lt i j/\Le lt j i
theorem Wo.refl(W:Wo lt)(i:Nat):Le lt i i:=by
 unfold Le
 cases h:lt i i with
 | false=>rfl
 | true=>have:=W.asym i i h;rw[h] at this;cases this
theorem Wo.le(W:Wo lt)(h:lt i j=true):Le lt i j:=W.asym i j h
theorem Wo.trans(W:Wo lt)(h1:Le lt i j)(h2:Le lt j k):Le lt i k:=W.tr i j k h1 h2
noncomputable def at0(p:Array Nat)(i:Nat):Nat:=p.getD i 0
theorem Sj{q:Array Nat}(h:p[i]? = q[j]?):at0 p i=at0 q j:=by
 unfold at0
 rw[dS,dS,h]
structure Pm(n:Nat)(p:Array Nat):Prop where
 size:p.size=n
 perm:p.toList.Perm (dB n)
theorem Pm.bd(h:Pm n p)(h0:0 < n)(i:Nat):at0 p i < n:=by
 unfold at0
 rw[dS]
 cases hi:p[i]? with
 | none=>exact h0
 | some x=>
  have:x∈p.toList:=by
   rw[<- gY] at hi
   exact aW hi
  exact eI.mp (h.perm.mem_iff.mp this)
noncomputable def Up(lt:Nat->Nat->Bool)(p:Array Nat)(k:Nat):Prop:=∀ i j,i<=j->j < k->Le lt (at0 p i) (at0 p j)
noncomputable def Dn(lt:Nat->Nat->Bool)(p:Array Nat)(k:Nat):Prop:=∀ i j,i<=j->j < k->Le lt (at0 p j) (at0 p i)
theorem Up.one(W:Wo lt)(p:Array Nat):Up lt p 1:=fun i j h1 h2=>by
 have:i=j:=by omega
 subst this;exact W.refl _
theorem Up.snoc(W:Wo lt)(h:Up lt p m)(hm:1<=m)(hl:Le lt (at0 p (m - 1)) (at0 p m)):Up lt p (m+1):=fun i j h1 h2=>by
 by_cases hj:j < m
 ·exact h i j h1 hj
 ·have hj:j=m:=by omega
  subst hj
  by_cases hi:i=j
  ·subst hi;exact W.refl _
  ·exact W.trans (h i (j - 1) (by omega) (by omega)) hl
theorem Dn.snoc(W:Wo lt)(h:Dn lt p m)(hm:1<=m)(hl:Le lt (at0 p m) (at0 p (m - 1))):Dn lt p (m+1):=fun i j h1 h2=>by
 by_cases hj:j < m
 ·exact h i j h1 hj
 ·have hj:j=m:=by omega
  subst hj
  by_cases hi:i=j
  ·subst hi;exact W.refl _
  ·exact W.trans hl (h i (j - 1) (by omega) (by omega))
theorem My(hj:j<=p.size)(k:Nat):at0 (oD p i j) k=if i<=k/\k < j then at0 p (i+j - 1 - k) else at0 p k:=by
 have h:=getElem?_mirror_all (xs:=p) (i:=i) hj k
 unfold oD
 split
 ·rename_i hc;rw[if_pos hc] at h;exact Sj h
 ·rename_i hc;rw[if_neg hc] at h;exact Sj h
theorem Pm.rev(h:Pm n p)(i j:Nat):Pm n (oD p i j):=⟨by unfold oD;rw[mirror_size];exact h.size,(mirror_perm p i j _).toList.trans h.perm⟩
theorem Pm.bub(h:Pm n p)(i j:Nat):Pm n (bubble p i j):=⟨by rw[bubble_size];exact h.size,(bubble_perm p i j).toList.trans h.perm⟩
theorem Ae2{l:Nat}(hk:k < p.size)(hl:l<=k)(i:Nat):at0 (bubble p k (k - l)) i=if i=l then at0 p k else if l < i/\i<=k then at0 p (i - 1) else at0 p i:=by
 have h:=getElem?_bubble (xs:=p) hk (k - l) (by omega) i
 have e:k - (k - l)=l:=by omega
 rw[e] at h
 split
 ·rename_i hc;rw[if_pos hc] at h;exact Sj h
 ·rename_i hc
  rw[if_neg hc] at h
  split
  ·rename_i hd;rw[if_pos hd] at h;exact Sj h
  ·rename_i hd;rw[if_neg hd] at h;exact Sj h
theorem Aap(W:Wo lt)(h0:0 < n)(hp:Pm n p):∀ (f m:Nat),1<=m->m+f=nrem->Up lt p m->On n lt (fun m'=>m<=m'/\m'<=nrem/\Up lt p m'/\(m'=nrem\/lt (at0 p m') (at0 p (m' - 1))=true)) (kas_asc p f m)
 | 0,m,h1,hf,hu=>⟨aQ _,by omega,hu,.inl (by omega)⟩
 | f+1,m,h1,hf,hu=>by
  refine ⟨hp.bd h0 _,hp.bd h0 _,?_⟩
  show On n lt _ (if lt (at0 p m) (at0 p (m - 1))=true then KasT.ret m else kas_asc p f (m+1))
  cases hl:lt (at0 p m) (at0 p (m - 1)) with
  | true=>exact ⟨aQ _,by omega,hu,.inr hl⟩
  | false=>
   exact (Aap W h0 hp f (m+1) (by omega) (by omega) (hu.snoc W h1 hl)).imp fun m' zz=>by obtain ⟨a,b,c⟩:=zz;exact ⟨by omega,b,c⟩
noncomputable def Tl(lt:Nat->Nat->Bool)(p:Array Nat)(m q:Nat):Prop:=∀ i,m - (q+1)<=i->i < m->Eqv lt (at0 p i) (at0 p (m - 1))
theorem Tl.rev(W:Wo lt){q:Nat}(h:Tl lt p m q)(hq:q < m)(hm:m<=p.size)(k:Nat):Eqv lt (at0 (oD p (m - (q+1)) m) k) (at0 p k):=by
 rw[My hm]
 split
 ·rename_i hc
  have a:=h (m - (q+1)+m - 1 - k) (by omega) (by omega)
  have b:=h k hc.1 hc.2
  exact ⟨W.trans a.1 b.2,W.trans b.1 a.2⟩
 ·exact ⟨W.refl _,W.refl _⟩
theorem Dn.eqv(W:Wo lt){p':Array Nat}(h:Dn lt p m)(he:∀ k,Eqv lt (at0 p' k) (at0 p k)):Dn lt p' m:=fun i j h1 h2=>W.trans (he j).1 (W.trans (h i j h1 h2) (he i).2)
theorem Ri(W:Wo lt)(h0:0 < n)(hz:nrem<=n):∀ (f:Nat) (p:Array Nat) (m q:Nat),Pm n p->1<=m->m+f=nrem->Dn lt p m->q < m->Tl lt p m q ->
  On n lt (fun r=>Pm n r.1/\1<=r.2.1/\r.2.1<=nrem/\Dn lt r.1 r.2.1/\r.2.2 < r.2.1/\Tl lt r.1 r.2.1 r.2.2) (kas_desc f p m q)
 | 0,p,m,q,hp,h1,hf,hd,hq,ht=>⟨hp,h1,(by show m<=nrem;omega),hd,hq,ht⟩
 | f+1,p,m,q,hp,h1,hf,hd,hq,ht=>by
  refine ⟨hp.bd h0 _,hp.bd h0 _,?_⟩
  show On n lt _ (if lt (at0 p m) (at0 p (m - 1))=true then _ else _)
  have tl0:∀ p':Array Nat,Tl lt p' (m+1) 0:=fun p' i i1 i2=>by
   have:i=m:=by omega
   subst this
   rw[mH];exact ⟨W.refl _,W.refl _⟩
  cases hl:lt (at0 p m) (at0 p (m - 1)) with
  | true=>
   have hms:m<=p.size:=by rw[hp.size];omega
   rw[if_pos rfl]
   by_cases hq0:q > 0
   ·rw[if_pos hq0]
    have he:=ht.rev W hq hms
    have hm':at0 (oD p (m - (q+1)) m) m=at0 p m:=by rw[My hms,if_neg (by omega)]
    have hd':=(hd.eqv W he).snoc W h1 (by rw[hm'];exact W.trans (W.le hl) (he (m - 1)).2)
    exact Ri W h0 hz f _ (m+1) 0 (hp.rev _ _) (by omega) (by omega) hd' (by omega) (tl0 _)
   ·rw[if_neg hq0]
    exact Ri W h0 hz f p (m+1) 0 hp (by omega) (by omega) (hd.snoc W h1 (W.le hl)) (by omega) (tl0 _)
  | false=>
   rw[if_neg (by simp)]
   refine ⟨hp.bd h0 _,hp.bd h0 _,?_⟩
   show On n lt _ (if lt (at0 p (m - 1)) (at0 p m)=true then _ else _)
   cases hl2:lt (at0 p (m - 1)) (at0 p m) with
   | true=>rw[if_pos rfl];exact ⟨hp,h1,(by show m<=nrem;omega),hd,hq,ht⟩
   | false=>
    rw[if_neg (by simp)]
    refine Ri W h0 hz f p (m+1) (q+1) hp (by omega) (by omega) (hd.snoc W h1 hl2) (by omega) fun i i1 i2=>?_
    rw[mH]
    by_cases hi:i=m
    ·subst hi;exact ⟨W.refl _,W.refl _⟩
    ·have a:=ht i (by omega) (by omega)
     exact ⟨W.trans a.1 hl,W.trans hl2 a.2⟩
theorem Aci(W:Wo lt)(h0:0 < n)(hz:nrem<=n)(hp:Pm n p)(h1:1<=m)(hm:m<=nrem)(hd:Dn lt p m):On n lt (fun r=>Pm n r.2/\1<=r.1/\r.1<=nrem/\Up lt r.2 r.1) (kas_tail3 m nrem p):=by
 have hms:m<=p.size:=by rw[hp.size];omega
 have hu:Up lt (oD p 0 m) m:=fun i j i1 i2=>by
  rw[My hms,My hms,if_pos (by omega),if_pos (by omega)]
  exact hd _ _ (by omega) (by omega)
 unfold kas_tail3
 exact On.bind (fun a zz=>by obtain ⟨a1,a2,a3,_⟩:=zz;exact ⟨hp.rev _ _,by omega,a2,a3⟩) (Aap (nrem:=nrem) W h0 (hp.rev 0 m) (nrem - m) m h1 (by omega) hu)
theorem Qu(W:Wo lt)(h0:0 < n)(hz:nrem<=n)(hp:Pm n p)(hm:m+1<=nrem)(hd:Dn lt p (m+1)):On n lt (fun r=>Pm n r.2/\1<=r.1/\r.1<=nrem/\Up lt r.2 r.1) (kas_descPart m nrem p):=by
 unfold kas_descPart
 have tl0:Tl lt p (m+1) 0:=fun i i1 i2=>by
  have:i=m:=by omega
  subst this
  rw[mH];exact ⟨W.refl _,W.refl _⟩
 refine On.bind (fun r ⟨a1,a2,a3,a4,a5,a6⟩=>?_) (Ri W h0 hz (nrem - (m+1)) p (m+1) 0 hp (by omega) (by omega) hd (by omega) tl0)
 have hms:r.2.1<=r.1.size:=by rw[a1.size];omega
 split
 ·exact Aci W h0 hz (a1.rev _ _) a2 a3 (a4.eqv W (a6.rev W a5 hms))
 ·exact Aci W h0 hz a1 a2 a3 a4
theorem Aho(W:Wo lt)(h0:0 < n)(hz:nrem<=n)(h1:1<=nrem)(hp:Pm n p):On n lt (fun r=>Pm n r.2/\1<=r.1/\r.1<=nrem/\Up lt r.2 r.1) (kas_count nrem p):=by
 unfold kas_count
 refine On.bind (fun m ⟨a1,a2,a3,a4⟩=>?_) (Aap (nrem:=nrem) W h0 hp (nrem - 1) 1 (aQ _) (by omega) (Up.one W p))
 by_cases hm:(m == nrem)=true
 ·rw[if_pos hm];exact ⟨hp,by omega,a2,a3⟩
 ·rw[if_neg hm]
  have hne:m≠nrem:=by simpa using hm
  have hlt:lt (at0 p m) (at0 p (m - 1))=true:=a4.resolve_left hne
  by_cases hm1:m > 1
  ·rw[if_pos hm1]
   refine ⟨hp.bd h0 _,hp.bd h0 _,?_⟩
   show On n lt _ (if lt (at0 p 0) (at0 p (m - 1))=true then _ else _)
   cases hl:lt (at0 p 0) (at0 p (m - 1)) with
   | true=>rw[if_pos rfl];exact ⟨hp,by omega,a2,a3⟩
   | false=>
    rw[if_neg (by simp)]
    have hms:m<=p.size:=by rw[hp.size];omega
    have hall:∀ i j,i < m->j < m->Le lt (at0 p i) (at0 p j):=fun i j i1 j1=>W.trans (a3 i (m - 1) (by omega) (by omega)) (W.trans hl (a3 0 j (by omega) j1))
    refine Qu W h0 hz (hp.rev 0 m) (by omega) ?_
    have hd:Dn lt (oD p 0 m) m:=fun i j i1 i2=>by
     rw[My hms,My hms,if_pos (by omega),if_pos (by omega)]
     exact hall _ _ (by omega) (by omega)
    refine hd.snoc W (by omega) ?_
    rw[My hms,My hms,if_neg (by omega),if_pos (by omega)]
    exact W.trans (W.le hlt) (hall _ _ (by omega) (by omega))
  ·rw[if_neg hm1]
   have:m=1:=by omega
   subst this
   refine Qu W h0 hz hp (by omega) ?_
   have hd:Dn lt p 1:=fun i j h1 h2=>by
    have:i=j:=by omega
    subst this;exact W.refl _
   exact hd.snoc W (aQ _) (W.le hlt)
theorem Sx(W:Wo lt)(h0:0 < n)(hp:Pm n p)(hu:Up lt p k):∀ (f l r:Nat),l<=r->r<=k->r - l<=f->(∀ i,i < l->Le lt (at0 p i) (at0 p k))->(∀ i,r<=i->i < k->Le lt (at0 p k) (at0 p i)) ->
  On n lt (fun l'=>l'<=k/\(∀ i,i < l'->Le lt (at0 p i) (at0 p k))/\∀ i,l'<=i->i < k->Le lt (at0 p k) (at0 p i)) (kas_place p k f l r)
 | 0,l,r,h1,h2,h3,h4,h5=>⟨by omega,h4,fun i i1 i2=>h5 i (by omega) i2⟩
 | f+1,l,r,h1,h2,h3,h4,h5=>by
  unfold kas_place
  by_cases hlr:l ≥ r
  ·rw[if_pos hlr];exact ⟨by omega,h4,fun i i1 i2=>h5 i (by omega) i2⟩
  ·rw[if_neg hlr]
   refine ⟨hp.bd h0 _,hp.bd h0 _,?_⟩
   show On n lt _ (if lt (at0 p k) (at0 p ((l+r) / 2))=true then _ else _)
   cases hl:lt (at0 p k) (at0 p ((l+r) / 2)) with
   | true=>
    rw[if_pos rfl]
    exact Sx W h0 hp hu f l ((l+r) / 2) (by omega) (by omega) (by omega) h4 fun i i1 i2=>W.trans (W.le hl) (hu _ _ i1 i2)
   | false=>
    rw[if_neg (by simp)]
    exact Sx W h0 hp hu f ((l+r) / 2+1) r (by omega) h2 (by omega) (fun i i1=>W.trans (hu i ((l+r) / 2) (by omega) (by omega)) hl) h5
theorem Aha(W:Wo lt)(h0:0 < n):∀ (f:Nat) (p:Array Nat) (k:Nat),Pm n p->Up lt p k->k+f=n->On n lt (fun p'=>Pm n p'/\Up lt p' n) (kas_bin f p k)
 | 0,p,k,hp,hu,hk=>⟨hp,(show k=n by omega) ▸ hu⟩
 | f+1,p,k,hp,hu,hk=>by
  unfold kas_bin
  refine On.bind (fun l ⟨a1,a2,a3⟩=>?_) (Sx W h0 hp hu k 0 k (by omega) (aQ _) (by omega) (fun i h=>by omega) fun i h1 h2=>by omega)
  have hks:k < p.size:=by rw[hp.size];omega
  refine Aha W h0 f _ (k+1) (hp.bub _ _) (fun i j i1 i2=>?_) (by omega)
  rw[Ae2 hks a1,Ae2 hks a1]
  by_cases hi:i=l
  ·rw[if_pos hi]
   by_cases hj:j=l
   ·rw[if_pos hj];exact W.refl _
   ·rw[if_neg hj,if_pos (by omega)];exact a3 _ (by omega) (by omega)
  ·rw[if_neg hi]
   by_cases hi2:l < i/\i<=k
   ·rw[if_pos hi2,if_neg (by omega),if_pos (by omega)]
    exact hu _ _ (by omega) (by omega)
   ·rw[if_neg hi2]
    by_cases hj:j=l
    ·rw[if_pos hj];exact a2 _ (by omega)
    ·rw[if_neg hj]
     by_cases hj2:l < j/\j<=k
     ·rw[if_pos hj2];exact hu _ _ (by omega) (by omega)
     ·rw[if_neg hj2];exact hu _ _ i1 (by omega)
theorem Q3(W:Wo lt)(h0:0 < n):On n lt (fun p=>Pm n p/\Up lt p n) (mK n):=by
 unfold mK
 have hp:Pm n (iG (dB n)):=⟨by simp,by simp⟩
 refine On.bind (fun r ⟨a1,a2,a3,a4⟩=>?_) (Aho W h0 (aQ n) h0 hp)
 by_cases hr:r.1 < n
 ·rw[if_pos hr]
  have hm:max r.1 1=r.1:=by omega
  rw[hm]
  exact Aha W h0 _ _ _ a1 a4 (by omega)
 ·rw[if_neg hr]
  have:r.1=n:=by omega
  exact ⟨a1,by rw[<- this];exact a4⟩
end
end SO
namespace SO
open PySem PySem.W PySem.Calls PyProof.Rows
section
variable {P:cT}{w:eO}{A:eS}{E:aJ->aN->Prop}{s:aN}{vs:List aJ}{lt:Nat->Nat->Bool}{κ:qO}
noncomputable def Kb(a:Addr)(h h':Heap):Prop:=∀ b o,b≠a->h.get? b=some o->h'.get? b=some o
theorem Kb.trans{a:Addr}{h h1 h2:Heap}(x:Kb a h h1)(y:Kb a h1 h2):Kb a h h2:=fun b o hb e=>y b o hb (x b o hb e)
theorem V4(h:Heap)(a:Addr)(f:Obj->Obj):Kb a h (h.update a f):=fun b o hb e=>((eY h a f).2 b hb).trans e
theorem Acs(a:Addr)(h:Heap)(o:Obj):Kb a h (h.push o):=fun _ _ _ e=>aE _ e
noncomputable def Ic(vs:List aJ)(p:Array Nat):List aJ:=p.toList.map fun i=>vs.getD i eE
theorem So(vs:List aJ):Ic vs (iG (dB vs.length))=vs:=by
 unfold Ic
 apply jA
 ·simp
 ·intro i h1 h2
  simp[h2]
theorem Ahm{a:Addr}{c0:Nat}{F:PySem.Fin->aN->Prop}(W:Wo lt)(ho:s.heap.get? a=some (seqObj "list" vs.toArray c0))(h64:vs.length < 64)
  (hkind:2<=vs.length->∀ (h':Heap) (Q:qO->aN->Prop),Kb a s.heap h'->Q κ { s with heap:=h' }->wpAny (model P w) A (keyKind' vs.toArray) Q E { s with heap:=h' })
  (hask:∀ (h':Heap) (i j:Nat) (C:Bool->aN->Prop),Kb a s.heap h'->i < vs.length->j < vs.length->C (lt i j) { s with heap:=h' }->jE P w A κ vs i j C { s with heap:=h' })
  (hq:∀ (p:Array Nat) (h':Heap) (c:Nat),Pm vs.length p->Up lt p vs.length->Kb a s.heap h'->h'.get? a=some (seqObj "list" (Ic vs p).toArray c)->F (.done (.ret .none)) { s with heap:=h' }) :
  wpAny (model P w) A (iP.«list.sort» ⟨[.ref a],[]⟩) F E s:=by
 obtain ⟨c1,h1⟩:∃ c1,(s.heap.update a (cI fun _=>(#[]:Array aJ))).get? a=some (seqObj "list" #[] c1):=⟨_,jO ho fun _=>#[]⟩
 have k1:Kb a s.heap (((s.heap.update a (cI fun _=>(#[]:Array aJ))).push (seqObj "tuple" vs.toArray 0)).push (seqObj "list" #[] 0)):=((V4 _ _ _).trans (Acs _ _ _)).trans (Acs _ _ _)
 have h3:(((s.heap.update a (cI fun _=>(#[]:Array aJ))).push (seqObj "tuple" vs.toArray 0)).push (seqObj "list" #[] 0)).get? a=some (seqObj "list" #[] c1):=aE _ (aE _ h1)
 rw[list_sort_plain]
 refine aD (qP ho rfl (aD (jI ho rfl (aD (oY h1 rfl (aD (oU (aD (kT (cZ ?_) (eD _))) ?z2)))) ?z1 (eD _))))
 case z1=>rw[aP,dC];omega
 case z2=>show vs.length<=_;rw[dC];omega
 show wpAny (model P w) A _ F E ({ s with heap:=((s.heap.update a (cI fun _=>(#[]:Array aJ))).push (seqObj "tuple" vs.toArray 0)).push (seqObj "list" #[] 0) }:aN)
 generalize ((s.heap.update a (cI fun _=>(#[]:Array aJ))).push (seqObj "tuple" vs.toArray 0)).push (seqObj "list" #[] 0)=hp at k1 h3
 dsimp only
 have fin:∀ (p:Array Nat) (st:SortSt),Pm vs.length p->Up lt p vs.length->(arrOf st).map (·.2)=(Ic vs p).toArray->failedOf st=none->wpAny (model P w) A (do
   let touched:=(<- seqEpoch a) != c1
   iP.List.listUpdate (.ref a) fun _=>(arrOf st).map (·.2)
   if let some e:=failedOf st then rule "list.sort.comparison-raised";throw e
   if touched then rule "list.sort.modified";raiseError "ValueError" "list modified during sort"
   ret .none) F E { s with heap:=hp }:=by
  intro p st hpm hup hout hfail
  have hlen:(Ic vs p).length=vs.length:=by unfold Ic;rw[aI,eK,hpm.size]
  obtain ⟨c2,h4⟩:∃ c2,(hp.update a (cI fun _=>(Ic vs p).toArray)).get? a=some (seqObj "list" (Ic vs p).toArray c2):=⟨_,jO h3 fun _=>(Ic vs p).toArray⟩
  rw[hout,hfail]
  refine aD (oY h3 rfl (aD (jI h3 rfl ?_ (eD _) ?z3)))
  case z3=>rw[aP,hlen,dC];omega
  simp only[bne_self_eq_false,bX,if_false]
  exact aM (hq p _ c2 hpm hup (k1.trans (V4 _ _ _)) h4)
 by_cases hsmall:vs.toArray.size < 2
 ·rw[if_pos hsmall,if_pos hsmall]
  have hs2:vs.length < 2:=by simpa using hsmall
  refine aD (aM ?_)
  rw[sI]
  refine aD (aM (fin (iG (dB vs.length)) (xD general' (vs.toArray.zip vs.toArray) #[] 7 none) ⟨by simp,by simp⟩ ?_ ?_ rfl))
  ·intro i j hij hj
   have:i=j:=by omega
   subst this;exact W.refl _
  ·rw[So]
   show (vs.toArray.zip vs.toArray).map (·.2)=vs.toArray
   apply Array.ext
   ·simp
   ·intro i i1 i2;simp
 ·rw[if_neg hsmall,if_neg hsmall]
  have hs2:2<=vs.length:=by simp at hsmall;omega
  refine aD (hkind hs2 hp _ k1 ?_)
  have on:=(Q3 (n:=vs.length) W (by omega)).wp (cmp:=jE P w A κ vs) (s:={ s with heap:=hp }) (Q:=fun p s'=>(Pm vs.length p/\Up lt p vs.length)/\s' = { s with heap:=hp }) (fun i j C hi hj hC=>hask hp i j C k1 hi hj hC) fun p h=>⟨h,rfl⟩
  refine aD (fO (kat_run (Q:=fun st s'=>∃ p:Array Nat,arrOf st=p.map (kas_item (vs.toArray.zip vs.toArray))/\failedOf st=none/\(Pm vs.length p/\Up lt p vs.length)/\s' = { s with heap:=hp }) rfl hs2 h64 (fun p st s' _ q1 q2 q3=>⟨p,q1,q2,q3⟩) on) ?_ fun _ _ e=>e)
  rintro ⟨⟨⟩,st⟩ s' ⟨p,q1,q2,⟨q3,q4⟩,rfl⟩
  exact fin p st q3 q4 (kat_snds rfl q1) q2
end
end SO
namespace MR
open PySem PySem.Spec PyProof.Rows PySem.Calls L2 SO
noncomputable def ltT:List Int->List Int->Bool
 | _,[]=>false
 | [],_::_=>true
 | a::x,b::y=>if a == b then ltT x y else decide (a < b)
theorem Px:∀ x y:List Int,ltT x y=true->ltT y x=false
 | x,[],h=>by unfold ltT at h;cases h
 | [],b::y,_=>by simp[ltT]
 | a::x,b::y,h=>by
  unfold ltT at h ⊢
  by_cases e:a=b
  ·subst e
   simp only[beq_self_eq_true,if_true] at h ⊢
   exact Px x y h
  ·have h1:(a == b)=false:=by simpa using e
   have h2:(b == a)=false:=by simpa using fun q=>e q.symm
   simp only[h1,h2,bX,if_false,decide_eq_true_eq] at h ⊢
   simp only[decide_eq_false_iff_not];omega
theorem Vp:∀ x y z:List Int,ltT y x=false->ltT z y=false->ltT z x=false
 | [],_,z,_,_=>by unfold ltT;rfl
 | a::x,[],z,h,_=>by simp[ltT] at h
 | a::x,b::y,[],_,h=>by simp[ltT] at h
 | a::x,b::y,c::z,h1,h2=>by
  unfold ltT at h1 h2 ⊢
  by_cases e1:b=a
  ·subst e1
   simp only[beq_self_eq_true,if_true] at h1
   by_cases e2:c=b
   ·subst e2
    simp only[beq_self_eq_true,if_true] at h2 ⊢
    exact Vp x y z h1 h2
   ·have q:(c == b)=false:=by simpa using e2
    simp only[q,bX,if_false] at h2 ⊢
    exact h2
  ·have q1:(b == a)=false:=by simpa using e1
   simp only[q1,bX,if_false,decide_eq_false_iff_not] at h1
   by_cases e2:c=b
   ·subst e2
    simp only[q1,bX,if_false,decide_eq_false_iff_not];exact h1
   ·have q2:(c == b)=false:=by simpa using e2
    simp only[q2,bX,if_false,decide_eq_false_iff_not] at h2
    have e3:c≠a:=by omega
    have q3:(c == a)=false:=by simpa using e3
    simp only[q3,bX,if_false,decide_eq_false_iff_not];omega
theorem Wz:∀ x y:List Int,ltT x y=false->ltT y x=false->x=y
 | [],[],_,_=>rfl
 | a::x,[],_,h=>by simp[ltT] at h
 | [],b::y,h,_=>by simp[ltT] at h
 | a::x,b::y,h1,h2=>by
  unfold ltT at h1 h2
  by_cases e:a=b
  ·subst e
   simp only[beq_self_eq_true,if_true] at h1 h2
   rw[Wz x y h1 h2]
  ·have q1:(a == b)=false:=by simpa using e
   have q2:(b == a)=false:=by simpa using fun q=>e q.symm
   simp only[q1,q2,bX,if_false,decide_eq_false_iff_not] at h1 h2
   omega
noncomputable def leT(x y:List Int):Prop:=ltT y x=false
theorem Uy:∀ {a b:List (List Int)},a.Perm b->a.Pairwise leT->b.Pairwise leT->a=b
 | [],b,p,_,_=>p.nil_eq
 | x::r,[],p,_,_=>absurd p.length_eq (by simp)
 | x::r,y::t,p,ha,hb=>by
  have hx:x∈y::t:=p.mem_iff.mp (aX ..)
  have hy:y∈x::r:=p.mem_iff.mpr (aX ..)
  have e:x=y:=by
   rcases bH.mp hx with h | h
   ·exact h
   ·rcases bH.mp hy with h' | h'
    ·exact h'.symm
    ·exact Wz x y ((fZ.mp hb).1 x h) ((fZ.mp ha).1 y h')
  subst e
  rw[Uy p.cons_inv (fZ.mp ha).2 (fZ.mp hb).2]
noncomputable def Ada(x:List Int):List (List Int)->List (List Int)
 | []=>[x]
 | y::r=>if ltT y x=true then y::Ada x r else x::y::r
theorem Qh(x:List Int):∀ l,(Ada x l).Perm (x::l)
 | []=>.refl _
 | y::r=>by
  unfold Ada
  split
  ·exact ((Qh x r).cons y).trans (.swap ..)
  ·exact .refl _
theorem Qo(x:List Int):∀ l,l.Pairwise leT->(Ada x l).Pairwise leT
 | [],_=>List.pairwise_singleton ..
 | y::r,h=>by
  obtain ⟨h1,h2⟩:=fZ.mp h
  unfold Ada
  split
  ·rename_i hl
   refine fZ.mpr ⟨fun z hz=>?_,Qo x r h2⟩
   rcases bH.mp ((Qh x r).mem_iff.mp hz) with e | e
   ·subst e;exact Px _ _ hl
   ·exact h1 z e
  ·rename_i hl
   have hl:leT x y:=by unfold leT;simpa using hl
   refine fZ.mpr ⟨fun z hz=>?_,h⟩
   rcases bH.mp hz with e | e
   ·subst e;exact hl
   ·exact Vp x y z hl (h1 z e)
noncomputable def Yc:List (List Int)->List (List Int)
 | []=>[]
 | x::r=>Ada x (Yc r)
theorem Og:∀ l,(Yc l).Perm l
 | []=>.refl _
 | x::r=>(Qh x _).trans ((Og r).cons x)
theorem Po:∀ l,(Yc l).Pairwise leT
 | []=>.nil
 | x::r=>Qo x _ (Po r)
inductive Tups(K:aK)(H:Hp):List (List Int)->List V->Prop
 | nil:Tups K H [] []
 | cons {a:Addr} {n:Int} {t:List Int} {ts:List (List Int)} {ys:List V} (h:SqT K H a ((n::t).map V.int)) (r:Tups K H ts ys):Tups K H ((n::t)::ts) (.ref a::ys)
theorem Aer{P:cT}{w:eO}{A:eS}{b fin:Bool}{s:aN}{Q:Bool->aN->Prop}:∀ (ns ms:List Int) (xs ys:List aJ) (i:Nat),Vals (ns.map V.int) xs->Vals (ms.map V.int) ys->fin=decide (ns.length < ms.length)->Q (ltT ns ms) s->PySem.W.KatLex P w A b fin Q (xs.zip ys) i s
 | [],ms,xs,ys,i,rx,ry,hf,q=>by
  rw[cU] at rx;cases rx
  rw[List.zip_nil_left]
  refine sJ ?_
  rw[hf]
  cases ms with
  | nil=>exact q
  | cons m ms=>simpa[ltT] using q
 | n::ns,[],xs,ys,i,rx,ry,hf,q=>by
  rw[cU] at ry;cases ry
  rw[List.zip_nil_right]
  refine sJ ?_
  rw[hf]
  simpa[ltT] using q
 | n::ns,m::ms,xs,ys,i,rx,ry,hf,q=>by
  rw[aL] at rx ry
  cases rx with
  | cons r1 r2=>
   cases ry with
   | cons s1 s2=>
    obtain ⟨t,rfl⟩:=r1
    obtain ⟨u,rfl⟩:=s1
    rw[pZ]
    refine PySem.W.kat_cons (PySem.wpAny_eqBool_int ?_)
    unfold ltT at q
    cases e:(n == m) with
    | true=>
     rw[e,if_pos rfl] at q
     exact PySem.W.kat_yes (Aer ns ms _ _ (i+1) r2 s2 (by rw[hf];simp) q)
    | false=>
     rw[e,if_neg (by simp)] at q
     refine PySem.W.kat_no ?_
     cases (b&&i == 0) with
     | true=>exact oneLt_int q
     | false=>exact PySem.W.kat_one _ _ (lt_int q)
section
variable {X:Cx}
end
noncomputable def Agy:U->Option (List Int)
 | .tup l=>mapO toI l
 | _=>none
noncomputable def Wm(l:List Int):U:=.tup (l.map U.int)
theorem Abq:∀ {us:List U} {ts:List (List Int)},mapO Agy us=some ts->us=ts.map Wm
 | [],ts,e=>by simp only[mapO] at e;cases e;rfl
 | u::us,ts,e=>by
  simp only[mapO] at e
  obtain ⟨t,e1,e⟩:=aB.mp e
  obtain ⟨tr,e2,e⟩:=aH.mp e
  subst e
  rw[aL,Abq e2]
  congr 1
  cases u with
  | tup l=>
   have:∀ (l:List U) (t:List Int),mapO toI l=some t->l=t.map U.int:=by
    intro l
    induction l with
    | nil=>intro t e;simp only[mapO] at e;cases e;rfl
    | cons a l ih=>
     intro t e
     simp only[mapO] at e
     obtain ⟨x,x1,e⟩:=aB.mp e
     obtain ⟨y,y1,e⟩:=aH.mp e
     subst e
     rw[aL,<- ih y y1]
     cases a <;> first | (cases x1;rfl) | cases x1
   unfold Wm
   rw[this l t e1]
  | _=>cases e1
noncomputable def P0(s:Str):List Int:=s.cps.toList.map kO
noncomputable def Tb(l:List Int):Str:=⟨(l.map Int.toNat).toArray⟩
theorem Ae0(s:Str):Tb (P0 s)=s:=by
 unfold Tb P0
 rw[cE]
 have:(Int.toNat∘kO)=id:=by funext x;rfl
 rw[this,tU]
theorem Abl:∀ a b:List Nat,ltT (a.map kO) (b.map kO)=decide (a < b)
 | a,[]=>by cases a <;> simp[ltT]
 | [],b::bs=>by simp[ltT]
 | a::as,b::bs=>by
  have ih:=Abl as bs
  rw[aL,aL]
  unfold ltT
  by_cases e:a=b
  ·subst e
   rw[if_pos (by simp),ih]
   simp
  ·have h1:(kO a == kO b)=false:=by rw[beq_eq_false_iff_ne];exact fun h=>e (pO h)
   rw[h1,if_neg (by simp)]
   have:(kO a < kO b)↔a < b:=by simp
   rw[decide_eq_decide,this,List.cons_lt_cons_iff]
   constructor
   ·exact .inl
   ·rintro (h | ⟨h,_⟩)
    ·exact h
    ·exact absurd h e
noncomputable def Bs(ts:List Str):List Str:=(Yc (ts.map P0)).map Tb
theorem Ec(ts:List Str):(Bs ts).Perm ts:=by
 have:=(Og (ts.map P0)).map Tb
 rw[cE] at this
 have e:ts.map (Tb∘P0)=ts:=by
  rw[show (Tb∘P0)=id from funext Ae0,tU]
 rw[e] at this
 exact this
section
variable {X:Cx}
end
end MR
namespace SO
open PySem PySem.W PySem.Calls PyProof.Rows
section
variable {P:cT}{w:eO}{A:eS}{E:aJ->aN->Prop}{s:aN}{vs:List aJ}{lt:Nat->Nat->Bool}{κ:qO}
end
end SO
namespace MR
open PySem PySem.Spec PyProof.Rows PySem.Calls L2 SO
section
variable {X:Cx}
end
end MR
namespace QS
open PySem PySem.Spec PyProof.Rows
abbrev Ky:=L2.Key
theorem Af1(a b:Ky):(a == b)=decide (a=b):=by
 cases a with
 | inl i=>cases b with
  | inl j=>show (i == j)=_;rw[jN];simp
  | inr y=>rfl
 | inr x=>cases b with
  | inl j=>rfl
  | inr y=>show (x == y)=_;rw[jN];simp
instance:LawfulBEq L2.Key where
 eq_of_beq {a b} h:=by rw[Af1] at h;simpa using h
 rfl {a}:=by rw[Af1];simp
noncomputable def met(val:Nat->Ky)(i:Nat):List Ky:=((dB i).map val).foldl dL []
theorem Sz(val:Nat->Ky)(i:Nat):met val (i+1)=dL (met val i) (val i):=by
 unfold met;rw[sK,bZ,mV];rfl
theorem Aal(val:Nat->Ky):∀ i,(met val i).length<=i
 | 0=>aQ _
 | i+1=>by
  have ih:=Aal val i
  rw[Sz];unfold dL
  split
  ·omega
  ·rw[bB,eN];omega
theorem Ajn(σ:List Ky)(v k:Ky):(dL σ v).any (· == k)=(σ.any (· == k) || decide (k=v)):=by
 unfold dL
 by_cases h:σ.any (· == v)=true
 ·rw[if_pos h]
  by_cases e:k=v
  ·subst e;rw[h];simp
  ·simp[e]
 ·rw[if_neg h,List.any_append]
  by_cases e:k=v
  ·subst e;simp
  ·have hb:(v == k)=false:=by simpa[beq_iff_eq] using (fun h':v=k=>e h'.symm)
   simp[hb,e]
theorem Aig(σ:List Ky)(v:Ky):(dL σ v).length=if σ.any (· == v) then σ.length else σ.length+1:=by
 unfold dL;split <;> simp
section
variable {prog:cT}{w:eO}{A:eS}{R:sR->aN->Prop}{I:Addr}{fp wr:List Addr}{G:Array lU->Array lU->Prop}{n:Nat}{P:Nat->aJ->Prop}{St:Nat->aN->Prop}
theorem Af6(W:WalksS prog w A.in1 I fp wr G n P St)(S:Addr)(hSf:S∉fp)(val:Nat->Ky)(hval:∀ i v,P i v->(L2.Bp prog w).is (val i) v=true/\v.scannable=true)(hb:n+1 < scanBound) :
  ∀ (k i:Nat) (s:aN),n - i=k->i<=n->St i s->s.heap.SetOf (L2.Bp prog w) S (fun k'=>(met val i).any (· == k')) (met val i).length ->
   (∀ s',Moved (S::wr) G s s'->s'.heap.SetOf (L2.Bp prog w) S (fun k'=>(met val n).any (· == k')) (met val n).length->R (.ok (.ret .none)) s') ->
   nT (model prog w) A (.builtin "set.update.loop" ⟨[.ref S,.ref I],[]⟩) R s:=by
 have hSw:S∉wr:=fun h=>hSf (W.sub _ h)
 have hsub:∀ b∈wr,b∈S::wr:=fun b hb=>aT _ hb
 have keep:∀ {s s':aN} {T:Ky->Bool} {m:Nat},Moved wr G s s'->s.heap.SetOf (L2.Bp prog w) S T m->s'.heap.SetOf (L2.Bp prog w) S T m:=fun hm zz=>by obtain ⟨o,es,ep,tb,ho,rest⟩:=zz;exact ⟨o,es,ep,tb,hm.heap S _ hSw ho,rest⟩
 intro k
 induction k with
 | zero=>
  intro i s hk hi hst hS hR
  obtain rfl:i=n:=by omega
  refine iC nP ?_
  rw[gG jV _]
  show wpAny _ A.in1 (pyNext (.ref I) >>= _) _ _ s
  refine aD (W.done s _ _ hst fun s' hm=>?_)
  show wpAny _ A.in1 (ret eE) _ _ s'
  exact aM (hR s' (hm.mono hsub) (keep hm hS))
 | succ k ih=>
  intro i s hk hi hst hS hR
  have hlt:i < n:=by omega
  refine iC nP ?_
  rw[gG jV _]
  show wpAny _ A.in1 (pyNext (.ref I) >>= _) _ _ s
  refine aD (W.item i s _ _ hlt hst fun v s' hP hst' hm=>?_)
  obtain ⟨hv,hsc⟩:=hval i v hP
  have hS':=keep hm hS
  show wpAny _ A.in1 (holding [v] (setAdd S v) >>= _) _ _ s'
  refine aD (cZ ?_)
  unfold setAdd
  refine cZ ?_
  refine aD ((L2.Bp prog w).pyHash (k:=val i) hv ?_)
  have hroom:(met val i).length+1 < scanBound:=by have:=Aal val i;omega
  refine wpAny_setAddHashed_of (knd:=L2.Bp prog w) (s:={ s' with toks:=s'.toks+1 }) hv hsc hS' hroom fun h' hsb hS2=>?_
  have hSi:h'.SetOf (L2.Bp prog w) S (fun k'=>(met val (i+1)).any (· == k')) (met val (i+1)).length:=
   SetOf_congr hS2 (fun k'=>by rw[Sz,Ajn]) (by rw[Sz,Aig])
  refine aM ⟨nC jV _,ih (i+1) _ (by omega) hlt (W.frame _ s' _ _ hst' (fM _) fun b hb o e=>?_) hSi fun s'' hm'' hS''=>?_⟩
  ·rw[hsb.2 b (fun h:b=S=>hSf (by rw[<- h];exact hb))];exact e
  ·refine hR s'' (Moved.trans W.gtrans ((hm.mono hsub).then_heap (fM _) fun b o hb e=>?_) hm'') hS''
   rw[hsb.2 b (fun h:b=S=>hb (by rw[h];exact aX))];exact e
end
section
variable {prog:cT}{w:eO}{A:eS}{E:aJ->aN->Prop}{s:aN}
theorem V8{t:Addr}{items:Array aJ}{val:Nat->Ky}{Q:aJ->aN->Prop}(hh:A.handled=none)(ht:s.heap.IsTuple t items)(hi:∀ (i:Nat) (v:aJ),items[i]? = some v->(L2.Bp prog w).is (val i) v=true/\v.scannable=true)(hb:items.size+1 < scanBound)
  (h:∀ (h':Heap) (tk:Nat),h'.SetOf (L2.Bp prog w) s.heap.objs.size (fun k'=>(met val items.size).any (· == k')) (met val items.size).length->(∀ b o,s.heap.get? b=some o->h'.get? b=some o)->Q (.ref s.heap.objs.size) { s with heap:=h',toks:=tk }) :
  wpAny (model prog w) A (call (.type "set") [.ref t]) Q E s:=by
 obtain ⟨c,tl,hmro⟩:=PySem.F.called_set.mro
 have hmade:=PySem.F.called_set.made
 have hsub:=PySem.F.called_set.sub
 refine sS (codeAny_of_tree ?_)
 show wpAny _ _ (callAny (.type "set") _) _ _ _
 refine aM ⟨Code.quiet_builtin _ (by decide +kernel),iC PySem.F.entry_type_call ?_⟩
 rw[eS.under_plain (weight_type_call_type "set" [.ref t] []) rfl]
 have h1:=PySem.F.called_set.notType
 have h2:=PySem.F.called_set.canCreate
 have hct:=PySem.F.typeCall_set_1 (.ref t)
 repeat (any_goals (first | assumption | wp_step))
 refine kA (code_set_new_1 (.ref t) (E:=E) (Q₁:=fun obj s₁=>∃ led:Bool,obj = .ref s.heap.objs.size/\s₁ = { s with heap:=s.heap.push { cls:=.type "set",dict:=none,data:=.set #[] 0 (.fresh 0 0 led) } }) fun led=>⟨led,rfl,rfl⟩) fun r s₁ hr=>?_
 cases r with
 | error e=>exact hr
 | ok fl=>
  cases fl with
  | ret obj=>
   obtain ⟨led,rfl,rfl⟩:=hr
   have hS:(s.heap.push { cls:=.type "set",dict:=none,data:=.set #[] 0 (.fresh 0 0 led) }).get? s.heap.objs.size=some { cls:=.type "set",dict:=none,data:=.set #[] 0 (.fresh 0 0 led) }:=bE _ rfl
   have hT:aN.TypeIs { s with heap:=s.heap.push { cls:=.type "set",dict:=none,data:=.set #[] 0 (.fresh 0 0 led) } } (.ref s.heap.objs.size) "set" := ⟨_,hS,rfl⟩
   have hli:=PySem.F.called_set.init.lookup
   have hbi:=PySem.F.called_set.init.bind (.ref s.heap.objs.size)
   repeat (any_goals (first | assumption | wp_step))
   refine kA (oZ (R:=wants (fun r s₂=>r = .none/\∃ h' tk,s₂ = { s with heap:=h',toks:=tk }/\h'.SetOf (L2.Bp prog w) s.heap.objs.size (fun k'=>(met val items.size).any (· == k')) (met val items.size).length/\(∀ b o,s.heap.get? b=some o->h'.get? b=some o)) E) PySem.F.called_set.init.plain PySem.F.entry_set_init (check_set_init_1 hT ?_)) fun r₂ s₂ hr₂=>?_
   ·obtain ⟨ol,hol,hcl,nl,hdl⟩:=ht
    obtain ⟨ocls,odict,odata,oslots⟩:=ol
    simp only at hcl hdl
    subst hcl;subst hdl
    have hol':(s.heap.push { cls:=.type "set",dict:=none,data:=.set #[] 0 (.fresh 0 0 led) }).get? t=some { cls:=.type "tuple",dict:=odict,data:=.seq items nl,slots:=oslots }:=aE _ hol
    have hsls:=PySem.F.sub_tuple_set
    have hslf:=PySem.F.sub_tuple_frozenset
    have hne:(iW "tuple" == iW "dict")=false:=by decide
    have hl1:(s.heap.push { cls:=.type "set",dict:=none,data:=.set #[] 0 (.fresh 0 0 led) }).IsTuple t items:=⟨_,hol',rfl,nl,rfl⟩
    unfold iP.«set.__init__» noKeywords iP.Frozenset.updateFrom
    generalize hPI:pyIter=PI
    wp_walk
    subst hPI
    refine iO hl1 ?_
    refine aD (wpAny_runValue ?_)
    have hlS:t < s.heap.objs.size:=aV hol
    have hh3:A.in1.in1.in1.handled=none:=by simp[hh]
    have hneI:t≠(s.heap.push { cls:=.type "set",dict:=none,data:=.set #[] 0 (.fresh 0 0 led) }).objs.size:=by
     rw[dY];exact bV (mW hlS)
    have hSf:s.heap.objs.size∉[(s.heap.push { cls:=.type "set",dict:=none,data:=.set #[] 0 (.fresh 0 0 led) }).objs.size,t]:=by
     rw[dY];simp only[bH,bC,dE,or_false,not_or]
     exact ⟨bV (gQ _),iD hlS⟩
    refine Af6 ((Walks.tuple hh3 _ t hneI items).toS) s.heap.objs.size hSf val hi hb (items.size - 0) 0 _ (by omega) (eD _) ⟨⟨_,bE _ rfl,rfl,rfl⟩,(hl1.push _)⟩ ?hS0 ?hR
    case hS0=>
     have hget:((s.heap.push { cls:=.type "set",dict:=none,data:=.set #[] 0 (.fresh 0 0 led) }).push { cls:=.type "tuple_iterator",data:=.fields #[.ref t,.int 0 0] }).get? s.heap.objs.size
       = some { cls:=.type "set",dict:=none,data:=.set #[] 0 (.fresh 0 0 led) }:=aE _ hS
     exact SetOf_congr ((setObjOf_fresh (knd:=L2.Bp prog w) led).setOf hget (by unfold scanBound;omega)) (fun _=>rfl) rfl
    case hR=>
     intro s' hm hS'
     obtain ⟨h',g',d',tk',os'⟩:=s'
     have eg:g'=s.gens:=hm.gens
     have ed:d'=s.drawn:=hm.drawn
     have eo:os'=s.os:=hm.os
     subst eg;subst ed;subst eo
     show wpAny _ _ _ _ _ _
     refine aM ?_
     show wpAny _ _ (ret eE) _ _ _
     refine aM ⟨rfl,h',tk',rfl,hS',fun b o e=>?_⟩
     have hb:=aV e
     have hb1:b≠s.heap.objs.size:=bV hb
     have hb2:b≠(s.heap.push { cls:=.type "set",dict:=none,data:=.set #[] 0 (.fresh 0 0 led) }).objs.size:=by
      rw[dY];exact bV (mW hb)
     exact hm.heap b o (by simp only[bH,bC,dE,or_false,not_or];exact ⟨hb1,hb2⟩) (aE _ (aE _ e))
   ·cases r₂ with
    | error e=>exact hr₂
    | ok fl₂=>
     cases fl₂ with
     | ret r=>
      obtain ⟨rfl,h',tk,rfl,hS',hk'⟩:=hr₂
      repeat (any_goals (first | assumption | wp_step))
      exact h _ _ hS' hk'
     | _=>exact hr₂.elim
  | _=>exact hr.elim
end
end QS
namespace MR
open PySem PySem.Spec PyProof.Rows PySem.Calls L2
noncomputable def manyS(ts:List Str):Nat:=(QS.met (fun i=>.inr (ts.getD i "")) ts.length).length
section
variable {X:Cx}
noncomputable def Ah9(K:aK)(ta:TA):TE:=fun σ H Q=>ta σ H fun vs H1=>∃ (a:Addr) (ts:List Str),vs=[.ref a]/\SqT K H1 a (ts.map V.str)/\ts.length<=4000/\Q (.int (manyS ts)) H1
theorem Aeh{a:Expr}{ta:TA}{p p' pos pos':Pos}(hc:X.calm=true)(hgL:Gl X "len")(hmL:X.mg "len" = none)(hg:Gl X "set")(hm:X.mg "set" = none)(ha:PA X [a] ta)(hs:bS [a] X.env=[(false,eval a X.env)]:=by rfl)
  (hs2:bS [.Call (.Name "set" p') [a] [] pos'] X.env=[(false,eval (.Call (.Name "set" p') [a] [] pos') X.env)]:=by rfl):PE X (.Call (.Name "len" p) [.Call (.Name "set" p') [a] [] pos'] [] pos) (Ah9 X.K ta):=by
 intro pins s σ H Q I h
 refine fY (Jm I hgL hmL cG ?_)
 refine kN ?_ hs2 rfl
 rw[hs2]
 refine pV ?_
 refine fY (Jm I hg hm boot_set (eP (thn (ha pos' pins s σ H _ I h) fun us s1 ⟨vs,H1,I1,r1,q1⟩=>?_) hs rfl))
 obtain ⟨t,ts,rfl,hq,hl,q⟩:=q1
 obtain ⟨u,rfl,ru⟩:=Gx r1
 cases ru
 obtain ⟨its,rv,tp,hz⟩:=I1.tuple hq
 have hlen:=rv.length
 rw[aI] at hlen
 have hsz:its.toArray.size=ts.length:=by simp[hlen]
 refine QS.V8 (val:=fun i=>.inr (ts.getD i "")) (I1.ok.hd hc) tp (fun i v hv=>?_) (by rw[hsz];unfold scanBound;omega) fun h' tk hS hk=>?_
 ·have hv':its[i]? = some v:=by simpa using hv
  have hi:i < ts.length:=by have:=(aG.mp hv').1;omega
  obtain ⟨v',e3,rr⟩:=rv.get (i:=i) (x:=V.str (ts[i]'hi)) (by rw[bA,aC hi];rfl)
  rw[hv'] at e3
  cases e3
  obtain ⟨tk,rfl⟩:=rr
  have e:ts.getD i "" = ts[i]'hi:=by rw[aO,aC hi];rfl
  exact ⟨by rw[e];exact Mj _ _ _ _,rfl⟩
 ·refine qE ?_
  rw[hsz] at hS
  have hbd:=QS.Aal (fun i=>.inr (ts.getD i "")) ts.length
  obtain ⟨o,es,ep,tb,ho,hex,hd,_,_,_,hf,hn⟩:=hS
  have I2:L2.Inv X pins σ H1 { s1 with heap:=h',toks:=tk }:=I1.kept hk
  have hm:es.size=manyS ts:=hn
  refine call_len_set (s:={ s1 with heap:=h',toks:=tk }) ho hex hd hf (by rw[hn];omega) ?_
  exact ⟨.int (manyS ts),H1,I2.tok (tk+1+1),⟨tk+1,by rw[hm]⟩,q⟩
end
noncomputable def Nr(g:FA):FE:=fun δ L=>(g δ L).bind fun p=>match p.1 with
 | [.tup us]=>(mapO toS us).bind fun ts=>if ts.length<=4000 then some (.int (manyS ts),p.2) else none
 | _=>none
theorem Adj{X:Cx}{a:Expr}{g:FA}{p p' pos pos':Pos}(hc:X.calm=true)(hgL:Gl X "len")(hmL:X.mg "len" = none)(hg:Gl X "set")(hm:X.mg "set" = none)(ha:PAF X [a] g)(hs:bS [a] X.env=[(false,eval a X.env)]:=by rfl)
  (hs2:bS [.Call (.Name "set" p') [a] [] pos'] X.env=[(false,eval (.Call (.Name "set" p') [a] [] pos') X.env)]:=by rfl):PEF X (.Call (.Name "len" p) [.Call (.Name "set" p') [a] [] pos'] [] pos) (Nr g):=by
 refine PE.imp (Aeh hc hgL hmL hg hm ha hs hs2) ?_
 rintro σ H Q ⟨α,δ,L,A,S,z,L3,e,q⟩
 obtain ⟨⟨us,L1⟩,e1,e⟩:=aB.mp e
 refine ⟨α,δ,L,A,S,us,L1,e1,fun xs H1 α1 g1 A1 r1=>?_⟩
 simp only at e
 split at e
 ·obtain ⟨ts,hts,e⟩:=aB.mp e
  split at e
  ·rename_i hl
   cases e
   obtain ⟨x,rfl,rx⟩:=r1.one
   unfold RepU at rx
   obtain ⟨b,xs,rfl,sq,r2⟩:=rx
   rw[Rg r2 hts] at sq
   exact ⟨b,ts,rfl,sq,hl,q _ H1 α1 g1 A1 (by unfold RepU;rfl)⟩
  ·cases e
 ·cases e
end MR
namespace SO
open PySem PySem.W PySem.Calls PyProof.Rows
section
variable {P:cT}{w:eO}{A:eS}{E:aJ->aN->Prop}{s:aN}{lt:Nat->Nat->Bool}{κ:qO}
theorem Y3{l:Addr}{Q:aJ->aN->Prop}{OK:List aJ->Prop}(W:Wo lt)(hcol:∀ (A':eS) (E':aJ->aN->Prop) (Q':List aJ->aN->Prop),A'.handled=A.handled->(∀ h1 tk vs,(∀ b o,s.heap.get? b=some o->h1.get? b=some o)->OK vs->Q' vs { s with heap:=h1,toks:=tk })->wpAny (model P w) A' (collect (.ref l)) Q' E' s)(h64:∀ vs,OK vs->vs.length < 64)
  (hkind:∀ vs,OK vs->2<=vs.length->∀ (h':Heap) (tk:Nat) (Q:qO->aN->Prop) (E:aJ->aN->Prop),Q κ { s with heap:=h',toks:=tk }->wpAny (model P w) A.in1.in1 (keyKind' vs.toArray) Q E { s with heap:=h',toks:=tk })
  (hask:∀ vs,OK vs->∀ (h':Heap) (tk:Nat) (i j:Nat) (C:Bool->aN->Prop),i < vs.length->j < vs.length->C (lt i j) { s with heap:=h',toks:=tk }->jE P w A.in1.in1 κ vs i j C { s with heap:=h',toks:=tk })
  (hq:∀ vs,OK vs->∀ (h1:Heap) (tk:Nat),(∀ b o,s.heap.get? b=some o->h1.get? b=some o)->∀ (p:Array Nat) (h':Heap) (c:Nat),Pm vs.length p->Up lt p vs.length->(∀ b o,h1.get? b=some o->h'.get? b=some o)->h'.get? h1.objs.size=some (seqObj "list" (Ic vs p).toArray c)->Q (.ref h1.objs.size) { s with heap:=h',toks:=tk }) :
  wpAny (model P w) A (call (.builtin "sorted") [.ref l]) Q E s:=by
 refine call_function_entry rX qQ qR (args_sorted1 _) ?_
 unfold iP.«sorted»
 refine aD (m:=checkCount "sorted" 1 1 _) (aM (aD (hcol _ _ _ rfl fun h1 tk vs kp ok=>aD (kT ?_ ?y2))))
 case y2=>have:=h64 vs ok;rw[dC];omega
 have e2:(h1.push (seqObj "list" vs.toArray 0)).get? h1.objs.size=some (seqObj "list" vs.toArray 0):=bE _ rfl
 have e3:∀ b o,h1.get? b=some o->(h1.push (seqObj "list" vs.toArray 0)).get? b=some o:=fun b o q=>aE _ q
 have e4:∀ (h':Heap),Kb h1.objs.size (h1.push (seqObj "list" vs.toArray 0)) h'->∀ b o,h1.get? b=some o->h'.get? b=some o:=fun h' k b o q=>
  k b o (bV (aV q)) (e3 b o q)
 show wpAny _ _ _ _ _ ({ s with heap:=h1.push (seqObj "list" vs.toArray 0),toks:=tk }:aN)
 generalize h1.push (seqObj "list" vs.toArray 0)=hp at e2 e3 e4
 refine aD (cZ (fL pA ⟨_,e2,rfl⟩ oJ (Ahm (s:={ s with heap:=hp,toks:=tk }) W e2 (h64 vs ok) (fun h2 h' Q' k q=>hkind vs ok h2 h' tk Q' _ q) (fun h' i j C k=>hask vs ok h' tk i j C) fun p h' c a1 a2 a3 a4=>⟨_,rfl,?_⟩) (args_list_sort _)))
 exact aM ⟨_,rfl,hq vs ok h1 tk kp p h' c a1 a2 (e4 h' a3) a4⟩
end
end SO
namespace MR
open PySem PySem.Spec PyProof.Rows PySem.Calls L2 SO
noncomputable def Akb:Key->Option Str
 | .inr x=>some x
 | _=>none
theorem Acj:∀ {kvs:List (Key×V)} {vs:List (Key×aJ)},KV kvs vs->vs.map (·.1)=kvs.map (·.1)
 | _,_,.nil=>rfl
 | _,_,.cons r t=>by rw[aL,aL,Acj t,r.1]
theorem Ai8{prog:cT}{w:eO}{x:Str}{v:aJ}(h:(Bp prog w).is (.inr x) v=true):∃ t,v = .str x t:=by
 rw[(Bp prog w).strs (.inr x) x 0 v (Mj prog w x 0)] at h
 cases v <;> simp[aJ.isStr] at h
 subst h
 exact ⟨_,rfl⟩
theorem Wy{K:aK}{H:Hp}{α:List Addr}(ws:List Str):RepL K H α (ws.map U.str) (ws.map V.str):=by
 induction ws with
 | nil=>exact .nil
 | cons w ws ih=>exact .cons (by unfold RepU;rfl) ih
section
variable {X:Cx}
abbrev Abg:List V->Hp->VK->Prop:=fun xs H Q=>∃ (a:Addr) (kvs:List (Key×V)) (ts:List Str),xs=[.ref a]/\H a=some (.dK kvs)/\kvs.map (·.1)=ts.map cX/\ts.length < 64/\∀ (p:Addr),H p=none->Q (.ref p) (upd H p (.lst ((Bs ts).map V.str)))
theorem Tq{pins:List (Addr×Obj)}{s:aN}{σ:L2.St}{H:Hp}{Q:VK}{a:Addr}{ts:List Str}(I:L2.Inv X pins σ H s)(h64:ts.length < 64)(q:∀ (p:Addr),H p=none->Q (.ref p) (upd H p (.lst ((Bs ts).map V.str))))
  (hcol:∀ (A':eS) (E':aJ->aN->Prop) (Q':List aJ->aN->Prop),A'.handled=X.A.handled->(∀ h1 tk vs,(∀ b o,s.heap.get? b=some o->h1.get? b=some o)->(vs.length=ts.length/\∀ i,i < vs.length->∃ t,vs[i]? = some (.str (ts.getD i "") t))->Q' vs { s with heap:=h1,toks:=tk })->wpAny (model X.prog X.w) A' (collect (.ref a)) Q' E' s) :
  wpAny (model X.prog X.w) X.A (call (.builtin "sorted") [.ref a]) (EP X pins σ Q) X.xe s:=by
 have W:Wo fun i j=>ltT (P0 (ts.getD i "")) (P0 (ts.getD j "")):=⟨fun i j h=>Px _ _ h,fun i j k h1 h2=>Vp _ _ _ h1 h2⟩
 refine Y3 (κ:=oneType') (OK:=fun its=>its.length=ts.length/\∀ i,i < its.length->∃ t,its[i]? = some (.str (ts.getD i "") t)) W hcol (fun its ok=>by omega) ?kd ?ak ?en
 case kd=>
  intro its ok h2 h' tk Q' E' q'
  refine PySem.W.kas_kind (T:=.type "str") h2 (fun v hv=>?_) rfl rfl q'
  obtain ⟨i,hi,rfl⟩:=cY hv
  obtain ⟨t,e⟩:=ok.2 i hi
  rw[aC hi] at e
  rw[bR e]
  exact qS
 case ak=>
  intro its ok h' tk i j C hi hj hC
  obtain ⟨t,e1⟩:=ok.2 i hi
  obtain ⟨u,f1⟩:=ok.2 j hj
  have g1:its.getD i eE = .str (ts.getD i "") t:=by rw[aO,e1];rfl
  have g2:its.getD j eE = .str (ts.getD j "") u:=by rw[aO,f1];rfl
  unfold jE
  rw[g1,g2]
  refine PySem.W.kas_lt_str ?_
  rw[<- Abl]
  exact hC
 case en=>
  intro its ok h1 tk kp1 p h' c hp hu kp hl2
  have hlen:ts.length=its.length:=ok.1.symm
  have hat:=ok.2
  have J0:L2.Inv X pins σ H { s with heap:=h1,toks:=tk }:=I.kept (t':=tk) kp1
  have hks2:(p.toList.map fun i=>P0 (ts.getD i ""))=Yc (ts.map P0):=by
   refine Uy ?_ ?_ (Po _)
   ·have e:(dB its.length).map (fun i=>P0 (ts.getD i ""))=ts.map P0:=by
     apply jA
     ·simp;omega
     ·intro i h1 h2
      have:i < ts.length:=by simpa using h2
      simp[this]
    exact ((hp.perm.map _).trans (by rw[e])).trans (Og _).symm
   ·rw[iI,hU]
    intro i j hi hj hij
    have hz:p.toList.length=its.length:=by rw[eK];exact hp.size
    have:=hu i j (lM hij) (by omega)
    have ai:at0 p i=p.toList[i]:=by unfold at0;rw[dS,<- gY,aC hi];rfl
    have aj:at0 p j=p.toList[j]:=by unfold at0;rw[dS,<- gY,aC hj];rfl
    rw[ai,aj] at this
    exact this
  have hlt:∀ k∈p.toList,k < its.length:=fun k hk=>eI.mp (hp.perm.mem_iff.mp hk)
  have hout:(p.toList.map fun i=>V.str (ts.getD i ""))=(Bs ts).map V.str:=by
   unfold Bs
   rw[<- hks2,cE,cE]
   exact jD fun i _=>by show _=V.str (Tb (P0 _));rw[Ae0]
  have hrel:Vals ((Bs ts).map V.str) (Ic its p):=by
   rw[<- hout]
   unfold Ic
   have:∀ ks:List Nat,(∀ k∈ks,k < its.length)->Vals (ks.map fun i=>V.str (ts.getD i "")) (ks.map fun i=>its.getD i eE):=by
    intro ks
    induction ks with
    | nil=>intro _;exact .nil
    | cons k ks ih=>
     intro hk
     obtain ⟨t,e⟩:=hat k (hk k (aX ..))
     refine .cons ?_ (ih fun x hx=>hk x (aT _ hx))
     show L2.RelV (V.str (ts.getD k "")) (its.getD k eE)
     rw[aO (l:=its),e]
     exact ⟨t,rfl⟩
   exact this _ hlt
  have hsz:((Bs ts).map V.str).length<=sizeLine:=by
   rw[aI,(Ec ts).length_eq,dC];omega
  have I1:Inv X pins σ (upd H h1.objs.size (.lst ((Bs ts).map V.str))) { s with heap:=h',toks:=tk }:=J0.laid (t':=tk) kp (aQ _) ⟨hsz,Ic its p,c,hrel,hl2⟩
  exact ⟨.ref h1.objs.size,_,I1,rfl,q _ (J0.hok.fresh (aQ _))⟩
abbrev Aa9(K:aK):List V->Hp->VK->Prop:=fun xs H Q=>∃ (l:Addr) (ts:List Str),xs=[.ref l]/\SqL K H l (ts.map V.str)/\ts.length < 64/\∀ (p:Addr),H p=none->Q (.ref p) (upd H p (.lst ((Bs ts).map V.str)))
theorem Ju(hc:X.calm=true):CallR X (.builtin "sorted") (fun xs H Q=>Aa9 X.K xs H Q\/Abg xs H Q):=by
 intro pins s σ H xs us Q I r h
 rcases h with ⟨l,ts,rfl,hq,h64,q⟩ | ⟨a,kvs,ts,rfl,ea,hk,h64,q⟩
 ·obtain ⟨u,rfl,rx⟩:=Gx r
  cases rx
  obtain ⟨its,rv,pl,hz⟩:=I.list hq
  have hlen:=rv.length
  rw[aI] at hlen
  refine Tq I h64 q fun A' E' Q' hA hQ=>collect_list pl.isList (hQ _ s.toks its (fun b o e=>V4 _ _ _ b o (bV (aV e)) (aE _ e)) ⟨by omega,fun i hi=>?_⟩) (by rw[dC];omega)
  have hi':i < ts.length:=by omega
  obtain ⟨v,e3,rr⟩:=rv.get (i:=i) (x:=V.str (ts[i]'hi')) (by rw[bA,aC hi'];rfl)
  obtain ⟨t,rfl⟩:=rr
  exact ⟨t,by rw[e3,aO,aC hi'];rfl⟩
 ·obtain ⟨u,rfl,rx⟩:=Gx r
  cases rx
  obtain ⟨hd,ob,vs,ep,ho,D⟩:=Aie I ea
  have da:=D.at_ _ _ ho
  have hl:=KV.length D.rel
  have hkl:kvs.length=ts.length:=by have:=congrArg jS hk;simpa using this
  have hks:vs.map (·.1)=ts.map cX:=by
   rw[<- hk];exact Acj D.rel
  refine Tq I h64 q fun A' E' Q' hA hQ=>ZT.Xi (PySem.W.kdl_dict (knd:=Bp X.prog X.w) (kvs:=vs) (ep:=ep) hd) (by rw[hA];exact I.ok.hd hc) da (fun h' tk acc hkp hacc=>hQ h' tk acc.toList hkp ⟨by rw[eK,hacc.1];omega,fun i hi=>?_⟩) (by rw[dC];omega)
  have hi2:i < acc.size:=by simpa using hi
  obtain ⟨k,x,e1,e2⟩:=hacc.2 i acc[i] (by simp[hi2])
  have hi3:i < ts.length:=by have:=hacc.1;omega
  have:(vs.map (·.1))[i]? = some k:=by rw[bA,e1];rfl
  rw[hks,bA,aC hi3] at this
  cases this
  obtain ⟨t,et⟩:=Ai8 e2
  refine ⟨t,?_⟩
  rw[aC hi,aO,aC hi3,Array.getElem_toList,et]
  rfl
end
noncomputable def Cd:SC:=fun us L=>match us with
 | [.ref n]=>match E2 L n with
  | some kvs=>(mapO Akb (kvs.map (·.1))).bind fun ts=>if ts.length < 64 then some (.ref L.length,L++[.lst ((Bs ts).map U.str)]) else none
  | none=>(A7 L n).bind fun l=>(mapO toS l).bind fun ts=>if ts.length < 64 then some (.ref L.length,L++[.lst ((Bs ts).map U.str)]) else none
 | _=>none
theorem Ak0:∀ {ks:List Key} {ts:List Str},mapO Akb ks=some ts->ks=ts.map cX
 | [],ts,e=>by simp only[mapO] at e;cases e;rfl
 | k::ks,ts,e=>by
  simp only[mapO] at e
  obtain ⟨x,hx,e⟩:=aB.mp e
  obtain ⟨y,hy,e⟩:=aH.mp e
  subst e
  cases k with
  | inl i=>cases hx
  | inr z=>cases hx;rw[aL,Ak0 hy]
theorem K7{K:aK}:Qz K (fun xs H Q=>Aa9 K xs H Q\/Abg xs H Q) Cd:=by
 intro H α L us xs z L' Q A r e q
 unfold Cd at e
 split at e
 ·rename_i n
  split at e
  ·rename_i kvs hd
   obtain ⟨ts,hts,e⟩:=aB.mp e
   split at e
   ·rename_i hl
    cases e
    obtain ⟨x,rfl,rx⟩:=r.one
    obtain ⟨a,vs,rfl,ea,ha,rk⟩:=Ph A hd rx
    have hk:=Ak0 hts
    refine .inr ⟨a,vs,ts,rfl,ha,?_,hl,fun p hp=>?_⟩
    ·rw[<- hk];exact rk.1.symm
    ·obtain ⟨g',A',r'⟩:=A.lst (Wy (K:=K) (H:=H) (α:=α) (Bs ts)) hp
     exact q _ _ _ g' A' r'
   ·cases e
  ·obtain ⟨l,hl0,e⟩:=aB.mp e
   obtain ⟨ts,hts,e⟩:=aB.mp e
   split at e
   ·rename_i hl
    cases e
    obtain ⟨x,rfl,rx⟩:=r.one
    obtain ⟨a,ys,rfl,sq,r2⟩:=Hw A hl0 rx
    rw[Rg r2 hts] at sq
    refine .inl ⟨a,ts,rfl,sq,hl,fun p hp=>?_⟩
    obtain ⟨g',A',r'⟩:=A.lst (Wy (K:=K) (H:=H) (α:=α) (Bs ts)) hp
    exact q _ _ _ g' A' r'
   ·cases e
 ·cases e
end MR
namespace MR
open PySem PySem.Spec PyProof.Rows PySem.Calls L2
end MR
namespace HT
open PySem PyProof.Rows
section
open PySem.SeqAt
open PySem.AutoSeq1
theorem Aa3(l:Addr)(items:Array aJ)(n:Nat)(b:Addr)(items2:Array aJ)(n2:Nat)(dd:Option Addr)(sl:Array (Option aJ))(hs0:¬(!items.isEmpty&&fA (items.size+items2.size))=true)(hs1:items.size<=sizeLine)(hs2:items.size+items2.size<=sizeLine+1) :
  Meets (iP.«list.extend» ⟨[.ref l,.ref b],[]⟩) (fun _ R s=>s.heap.get? l=some { cls:=.type "list",dict:=none,data:=.seq items n,slots:=#[] }/\s.heap.get? b=some { cls:=.type "tuple",dict:=dd,data:=.seq items2 n2,slots:=sl }/\R (.ok (.ret eE)) { s with heap:=s.heap.update l (cI fun x=>x++items2),toks:=s.toks }):=
 .of_wp fun prog w A R s h=>by
  obtain ⟨hp,g,d,tk,os⟩:=s
  obtain ⟨hl,hb,h⟩:=h
  have f1:=idx_int
  have f2:=AutoSeq1.sub_tuple_tuple
  have f3:=AutoSeq1.sub_list_list
  have f4:=AutoSeq1.sub_tuple_list
  have f5:=AutoSeq1.sub_list_tuple
  have hz':(items++items2).size<=sizeLine+1:=by rw[mU];exact hs2
  wp_walk using (wpAny_updateSeq hl rfl (hz:=hs1) (_hz':=hz')),kZ hl,kZ hb
  exact ⟨_,rfl,h⟩
end
end HT
namespace MR
open PySem PySem.Spec PyProof.Rows PySem.Calls L2
noncomputable def Afi(K:aK):V->List V->Hp->VK->Prop:=fun x vs H Q=>∃ l b xs zs,x = .ref l/\vs=[.ref b]/\H l=some (.lst xs)/\SqT K H b zs/\xs.length+zs.length<=sizeLine/\Q .non (upd H l (.lst (xs++zs)))
theorem Aio{X:Cx}:MtM X "list.extend" (Afi X.K):=by
 intro pins s σ H x vs v us Q I rx rv h
 obtain ⟨l,b,xs,zs,rfl,rfl,hH,hB,hz,q⟩:=h
 cases rx
 obtain ⟨u,rfl,ru⟩:=rv.one
 cases ru
 obtain ⟨z,its,n,r,hl,e⟩:=I.lstM hH
 obtain ⟨its2,r2,tp,_⟩:=I.tuple hB
 have hl2:=r2.length
 obtain ⟨⟨cls,dd,data,sl⟩,ho,hc,n2,hd⟩:=tp
 simp only at hc hd
 subst hc hd
 have hsz:its.toArray.size+its2.toArray.size<=sizeLine:=by rw[aP,aP];omega
 have hlong:¬ (!its.toArray.isEmpty&&fA (its.toArray.size+its2.toArray.size))=true:=by
  rw[Ta hsz,mB]
  exact cP
 refine jQ iT ⟨_,e,rfl⟩ pH (oP _ _)
  (HT.Aa3 l its.toArray n b its2.toArray n2 dd sl hlong (by rw[aP];omega) (by omega)) ⟨e,ho,?_⟩
 refine ⟨.non,_,I.lset (its':=its++its2) hH e (by simp) (r.append r2) ?_,rfl,q⟩
 rw[bB]
 omega
theorem Acx{X:Cx}:MtM X "list.extend" (fun x vs H Q=>Rk x vs H Q\/Afi X.K x vs H Q):=fun pins s σ H x vs v us Q I rx rv h=>
 h.elim (fun h=>Adc pins s σ H x vs v us Q I rx rv h) (fun h=>Aio pins s σ H x vs v us Q I rx rv h)
noncomputable def Oy:SM:=fun u us L=>match u,us with
 | .ref n,[.tup l']=>(Ef L n).bind fun l=>if l.length+l'.length<=sizeLine then some (.non,L.set n (.lst (l++l'))) else none
 | u,us=>Qd u us L
theorem Wv{K:aK}:Tj K (fun x vs H Q=>Rk x vs H Q\/Afi K x vs H Q) Oy:=by
 intro H α L u us x xs z L' Q A ru r e q
 unfold Oy at e
 split at e
 ·obtain ⟨l,hl,e⟩:=aB.mp e
  split at e
  ·rename_i hs
   cases e
   obtain ⟨v,rfl,rv⟩:=r.one
   obtain ⟨a,ys,rfl,ea,h,r2⟩:=Ij A hl ru
   unfold RepU at rv
   obtain ⟨b,ws,rfl,sq,r3⟩:=rv
   obtain ⟨g,A'⟩:=A.setL hl ea h (r2.append r3)
   exact .inr ⟨a,b,ys,ws,rfl,rfl,h,sq,by rw[<- r2.length,<- r3.length];exact hs,q _ _ _ g A' rfl⟩
  ·cases e
 ·exact .inl (Aah H α L u us x xs z L' Q A ru r e q)
end MR
namespace SO
open PySem PySem.W PyProof.Rows
noncomputable def Aa8{α:Type}(lt:Nat->Nat->Bool):KasT α->α
 | .ret a=>a
 | .ask i j k=>Aa8 lt (k (lt i j))
variable {n:Nat}{lt:Nat->Nat->Bool}
theorem On.run{α:Type}{P:α->Prop}:∀ {t:KasT α},On n lt P t->On n lt (fun a=>a=Aa8 lt t) t
 | .ret a,h=>rfl
 | .ask i j k,h=>⟨h.1,h.2.1,On.run h.2.2⟩
theorem On.holds{α:Type}{P:α->Prop}:∀ {t:KasT α},On n lt P t->P (Aa8 lt t)
 | .ret a,h=>h
 | .ask i j k,h=>by
  show P (Aa8 lt (k (lt i j)))
  exact On.holds h.2.2
noncomputable def Ee(lt:Nat->Nat->Bool)(n:Nat):List Nat:=if n < 2 then dB n else (Aa8 lt (mK n)).toList
theorem Ji(W:Wo lt):(Ee lt n).Perm (dB n):=by
 unfold Ee
 split
 ·exact .refl _
 ·exact (Q3 (n:=n) W (by omega)).holds.1.perm
end SO
namespace MR
open PySem PySem.Spec PyProof.Rows PySem.Calls L2 SO
variable {X:Cx}{pins:List (Addr×Obj)}{σ:L2.St}{H:Hp}{s:aN}{k:Nat}{f:Addr}{fd:cM}{p:Str}{m:FN}
section
variable {h':Heap}
theorem Inv.adopt{a:Addr}{o:HO}{t':Nat}(I:L2.Inv X pins σ H s)(hf:Kn X pins H a)(k:∀ b o,b≠a->s.heap.get? b=some o->h'.get? b=some o)(new:ObjOk X.prog X.w (upd H a o) h' a o) :
  L2.Inv X pins σ (upd H a o) { s with heap:=h',toks:=t' }:=by
 have hn:H a=none:=hf.1
 have na:∀ b u,H b=some u->b≠a:=fun b u e z=>by rw[z,hn] at e;cases e
 have st:=Stay.new hn o
 refine I.step (g':=s.gens) (d':=s.drawn) (ch:=[a]) (fun b hb=>?_) (fun b o _ _ hc e _=>k b o (fun z=>hc (by simp[z])) e) (fun b o _ _ hc e _=>⟨o.slots,k b o (fun z=>hc (by simp[z])) e⟩) (fun b u hc e n=>?_) (fun b u hc e=>⟨u,k b u (fun z=>hc (by simp[z])) e⟩) st.1 st.2 (fun b ps e=>⟨#[],?_⟩) (fun m hm=>?_) (fun b u e=>?_) I.bare
 ·have e:b=a:=by simpa using hb
  subst e
  obtain ⟨_,f1,_,f3,f4,f5⟩:=hf
  exact ⟨f3,f1,f4,f5⟩
 ·rw[Bv (fun z=>hc (by simp[z]))];exact n
 ·rw[Bv (na b _ e),e];simp
 ·obtain ⟨o1,es,ep,ho,r⟩:=hm
  exact ⟨o1,es,ep,k _ o1 (eW hf.2.1) ho,r⟩
 ·by_cases hb:b=a
  ·subst hb;rw[upd_same] at e;cases e;exact new
  ·rw[Bv hb] at e
   refine (I.hok b u e).stay (fun c v hc q=>k c v ?_ q) (fun c q=>by rw[Bv (na c _ q)];exact q) fun c xs q=>by rw[Bv (na c _ q)];exact q
   rcases hc with z | z
   ·rw[z];exact hb
   ·exact na c _ z
theorem Ai0{A:eS}(F:FnOk X.prog X.w X.K X.mg X.base CX0 k f fd [p] (spF X.K 1 m))(hr:Room k A)(hA:A.frames=X.A.frames)(hb:Binds X.K fd [p] [])
  (I:L2.Inv X pins σ H s) {α:List Addr} {L:UH} {u z:U} {y:V} {x:aJ} (Ab:Abs X.K H α L) (ru:RepU X.K H α u y) (rx:L2.RelV y x) (hm:m [u] L=some (z,L)) :
  wpAny (model X.prog X.w) A (call (.ref f) [x]) (EP X pins σ (fun v H'=>∃ α',Gr H α H' α'/\Abs X.K H' α' L/\RepU X.K H' α' z v)) (fun _ _=>False) s:=by
 have e0:=I.env0
 have e1:Env0 X.prog X.w X.K X.mg X.base A X.stack s H:=⟨hA.trans e0.frames,e0.mod,e0.bs,e0.bsz,e0.funs,e0.frf,e0.hok,e0.bare⟩
 have hsp:spF X.K 1 m [y] H (fun v H'=>∃ α',Gr H α H' α'/\Abs X.K H' α' L/\RepU X.K H' α' z v) E0:=⟨α,L,[u],Ab,.cons ru .nil,rfl,z,L,hm,fun v H' α' g A' r'=>⟨α',g,A',r'⟩⟩
 have hbt:=hb s [x] I.kIn (by simp)
 refine sS (kA (F.run A X.stack s H ⟨[x],[]⟩ [x] [y] _ E0 hr e1 (by simpa using hbt) (.cons rx .nil) hsp) fun r s' hq=>?_)
 cases r with
 | error e=>exact hq
 | ok fl=>
  cases fl with
  | ret u=>exact I.after hq
  | next=>exact gI hq
  | brk=>exact gI hq
  | cont=>exact gI hq
end
variable {ys:List V}{us:List U}{ks:List (List Int)}{α:List Addr}{L:UH}
section
theorem Ace:∀ l:List Int,mapO toI (l.map U.int)=some l
 | []=>rfl
 | a::r=>by simp only[aL,mapO,toI,Ace r,aA,aF]
noncomputable def ltK(ks:List (List Int))(i j:Nat):Bool:=ltT (ks.getD i []) (ks.getD j [])
theorem Ol(ks:List (List Int)):Wo (ltK ks):=⟨fun i j h=>Px _ _ h,fun i j k h1 h2=>Vp _ _ _ h1 h2⟩
theorem Afl{a:Addr}{c0:Nat}{vs:List aJ}
  (F:FnOk X.prog X.w X.K X.mg X.base CX0 k f fd [p] (spF X.K 1 m)) (hr:Room k X.A.in1.in1) (hb:Binds X.K fd [p] []) (I:L2.Inv X pins σ H s) (fa:Kn X pins H a)
  (ho:s.heap.get? a=some (seqObj "list" vs.toArray c0)) (rv:Vals ys vs) (ru:RepL X.K H α us ys) (Ab:Abs X.K H α L) (hl:ks.length=vs.length) (hk1:∀ t∈ks,t≠[])
  (hk:∀ (i:Nat) (u:U) (t:List Int),us[i]? = some u->ks[i]? = some t->m [u] L=some (Wm t,L)) (h64:vs.length < 64) :
  wpAny (model X.prog X.w) X.A.in1.in1 (ksk_tree a (.ref f) false) (fun fin s'=>fin = .done (.ret .none)/\∃ H' α',L2.Inv X pins σ (upd H' a (.lst ((Ee (ltK ks) vs.length).map fun i=>ys.getD i .non))) s'/\H' a=none/\Gr H α H' α'/\Abs X.K H' α' L) X.xe s:=by
 have hyl:=rv.length
 have hul:=ru.length
 have z1:vs.toArray.size<=sizeLine:=by rw[aP,dC];omega
 obtain ⟨e1,h1⟩:∃ e1,(s.heap.update a (cI fun _=>(#[]:Array aJ))).get? a=some (seqObj "list" #[] e1):=⟨_,jO ho fun _=>#[]⟩
 have hlt:a < s.heap.objs.size:=aV ho
 have sb:=eY s.heap a (cI fun _=>(#[]:Array aJ))
 have I1:L2.Inv X pins σ H { s with heap:=s.heap.update a (cI fun _=>(#[]:Array aJ)) }:=I.turned (t':=s.toks) (fun b o hb e=>(sb.2 b hb).trans e) fa.1 fa.2.1 fa.2.2.2.1 fa.2.2.2.2.1 fa.2.2.2.2.2
 have hs1:(s.heap.update a (cI fun _=>(#[]:Array aJ))).objs.size=s.heap.objs.size:=rN ..
 generalize hA:s.heap.update a (cI fun _=>(#[]:Array aJ))=hp1 at h1 I1 hs1
 have I2:L2.Inv X pins σ H { s with heap:=hp1.push { cls:=.type "tuple",data:=.seq vs.toArray } }:=I1.kept (t':=s.toks) fun b o e=>aE _ e
 have h2:(hp1.push { cls:=.type "tuple",data:=.seq vs.toArray }).get? a=some (seqObj "list" #[] e1):=aE _ h1
 have hs2:(hp1.push { cls:=.type "tuple",data:=.seq vs.toArray }).objs.size=s.heap.objs.size+1:=by rw[dY,hs1]
 generalize hB:hp1.push { cls:=.type "tuple",data:=.seq vs.toArray } = hp2 at I2 h2 hs2
 have I3:L2.Inv X pins σ H { s with heap:=hp2.push { cls:=.type "list",data:=.seq (iG []) } }:=I2.kept (t':=s.toks) fun b o e=>aE _ e
 have h3:(hp2.push { cls:=.type "list",data:=.seq (iG []) }).get? a=some (seqObj "list" #[] e1):=aE _ h2
 have hkS:(hp2.push { cls:=.type "list",data:=.seq (iG []) }).get? hp2.objs.size=some (seqObj "list" #[] 0):=bE _ rfl
 have fk:Kn X pins H hp2.objs.size:=I2.fpOk (s:={ s with heap:=hp2 }) (aQ _) (I2.hok.fresh (aQ _))
 have hne:hp2.objs.size≠a:=by rw[hs2];exact iD (mW hlt)
 generalize hC:hp2.push { cls:=.type "list",data:=.seq (iG []) } = hp3 at I3 h3 hkS
 generalize hS:hp2.objs.size=kS at hkS fk hne
 unfold ksk_tree
 refine aD (qP ho rfl (aD (jI ho rfl ?_ z1 (eD _))))
 rw[hA]
 refine aD (oY (s:={ s with heap:=hp1 }) h1 rfl (aD (oU ?_ (by show vs.length<=_;rw[dC];omega))))
 show wpAny _ _ _ _ _ ({ s with heap:=hp1.push { cls:=.type "tuple",data:=.seq vs.toArray } }:aN)
 rw[hB]
 refine aD (kT ?_ (eD _))
 show wpAny _ _ _ _ _ ({ s with heap:=hp2.push { cls:=.type "list",data:=.seq (iG []) } }:aN)
 rw[hC]
 show wpAny _ _ (holding _ (ksk_rest a (.ref f) false vs.toArray e1 (.ref hp2.objs.size))) _ _ _
 rw[hS]
 refine cZ ?_
 unfold ksk_rest
 refine aD (mE ?_)
 rw[<- Array.forIn_toList]
 have pin2:∀ (kv:List aJ) (e:Nat) (H':Hp) (s':aN),L2.Inv X pins σ H' s'->H' kS=none->H' a=none->s'.heap.get? kS=some (seqObj "list" kv.toArray e)->s'.heap.get? a=some (seqObj "list" #[] e1)->L2.Inv X ((kS,seqObj "list" kv.toArray e)::(a,seqObj "list" #[] e1)::pins) σ H' s':=by
  intro kv e H' s' J n1 n2 g1 g2
  refine J.pins_of fun q hq=>?_
  rcases bH.mp hq with rfl | hq
  ·exact ⟨g1,n1,fk.2.1,fk.2.2.1,fun v z=>by cases z⟩
  ·rcases bH.mp hq with rfl | hq
   ·exact ⟨g2,n2,fa.2.1,fa.2.2.1,fun v z=>by cases z⟩
   ·exact J.pin q (bM _ hq)
 refine aD (ksk_fold (fun j s'=>∃ (H':Hp) (α':List Addr) (kv:List aJ) (kx:List V) (e:Nat),L2.Inv X ((kS,seqObj "list" kv.toArray e)::(a,seqObj "list" #[] e1)::pins) σ H' s'/\Gr H α H' α'/\Abs X.K H' α' L/\Vals kx kv/\RepL X.K H' α' ((ks.take j).map Wm) kx) vs 0 _
  ⟨H,α,[],[],0,pin2 [] 0 H _ I3 fk.1 fa.1 hkS h3,.refl _ _,Ab,.nil,.nil⟩ ?step ?done)
 case step=>
  rintro j x s' hx ⟨H',α',kv,kx,e,J,g,A',rk,rr⟩
  simp only[qT] at rr ⊢
  have hj:j < vs.length:=(aG.mp hx).1
  obtain ⟨t,ht⟩:∃ t,ks[j]? = some t:=⟨ks[j],aC (by omega)⟩
  obtain ⟨y,hy⟩:∃ y,ys[j]? = some y:=⟨ys[j],aC (by omega)⟩
  obtain ⟨x',hx',rx⟩:=rv.get hy
  rw[hx] at hx';cases hx'
  obtain ⟨u,hu,ry⟩:=ru.get' hy
  have hkl:=rr.length
  have hkl2:=rk.length
  rw[aI,cH] at hkl
  refine aD (pN (fO (Ai0 (A:=X.A.in1.in1) F hr rfl hb J A' (ry.mono g) rx (hk j u t hu ht)) (fun v s'' hv=>?_) fun _ _ hF=>hF.elim))
  obtain ⟨v',H2,J2,rv',α2,g2,A2,r2⟩:=hv
  dsimp only
  have p1:=J2.pin (kS,seqObj "list" kv.toArray e) (bM _ (aX ..))
  have p2:=J2.pin (a,seqObj "list" #[] e1) (bM _ (aT _ (aX ..)))
  have J3:L2.Inv X pins σ H2 s'':=J2.pins_of fun q hq=>J2.pin q (bM _ (aT _ (aT _ hq)))
  have sb2:=eY s''.heap kS (cI (·.push v))
  obtain ⟨e2,he2⟩:∃ e2,(s''.heap.update kS (cI (·.push v))).get? kS=some (seqObj "list" (kv.toArray.push v) e2):=⟨_,jO p1.1 (·.push v)⟩
  have J4:L2.Inv X pins σ H2 { s'' with heap:=s''.heap.update kS (cI (·.push v)) }:=J3.turned (t':=s''.toks) (fun b o hb e=>(sb2.2 b hb).trans e) p1.2.1 fk.2.1 fk.2.2.2.1 fk.2.2.2.2.1 fk.2.2.2.2.2
  refine aD (jI p1.1 rfl ?_ (by rw[aP,dC];omega) (by rw[Array.size_push,aP,dC];omega))
  have hpush:kv.toArray.push v=(kv++[v]).toArray:=by simp
  rw[hpush] at he2
  refine aM ⟨rfl,H2,α2,kv++[v],kx++[v'],e2,pin2 (kv++[v]) e2 H2 _ J4 p1.2.1 p2.2.1 he2 ((sb2.2 a (eW hne)).trans p2.1),g.trans g2,A2,rk.append (.cons rv' .nil),?_⟩
  have htk:ks.take (j+1)=ks.take j++[t]:=by rw[eA,ht];rfl
  rw[htk,bZ]
  exact (rr.mono g2).append (.cons r2 .nil)
 case done=>
  rintro s' ⟨H',α',kv,kx,e,J,g,A',rk,rr⟩
  have htk:ks.take (0+vs.length)=ks:=eF (by omega)
  rw[htk] at rr
  have hkl:=rr.length
  have hkl2:=rk.length
  rw[aI] at hkl
  have hkv:kv.length=vs.length:=by omega
  have p1:=J.pin (kS,seqObj "list" kv.toArray e) (bM _ (aX ..))
  have p2:=J.pin (a,seqObj "list" #[] e1) (bM _ (aT _ (aX ..)))
  have J3:L2.Inv X pins σ H' s':=J.pins_of fun q hq=>J.pin q (bM _ (aT _ (aT _ hq)))
  refine aD (qP p1.1 rfl ?_)
  have hat:∀ i,i < kv.length->∃ (b:Addr) (n:Int) (t:List Int) (ws:List aJ),kv[i]? = some (.ref b)/\ks.getD i []=n::t/\Vals ((n::t).map V.int) ws/\sP s'.heap b ws.toArray:=by
   intro i hi
   obtain ⟨t,ht⟩:∃ t,ks[i]? = some t:=⟨ks[i],aC (by omega)⟩
   obtain ⟨y,hy,ry⟩:=rr.get (i:=i) (u:=Wm t) (by rw[bA,ht];rfl)
   obtain ⟨v,hv,rx⟩:=rk.get hy
   unfold Wm RepU at ry
   obtain ⟨b,xs,rfl,sq,rl⟩:=ry
   cases rx
   have hxs:=Rb rl (Ace t)
   rw[hxs] at sq
   obtain ⟨ws,r2,it,_⟩:=J3.tuple sq
   cases t with
   | nil=>exact absurd rfl (hk1 [] (aW ht))
   | cons n t=>exact ⟨b,n,t,ws,hv,by rw[aO,ht];rfl,r2,it⟩
  have fin:∀ (q:Array Nat) (st:SortSt),q.toList=Ee (ltK ks) vs.length->(arrOf st).map (·.2)=(Ic vs q).toArray->failedOf st=none->wpAny (model X.prog X.w) X.A.in1.in1 (ksk_tail a false e1 (.ref kS) st)
    (fun fin s'=>fin = .done (.ret .none)/\∃ H' α',L2.Inv X pins σ (upd H' a (.lst ((Ee (ltK ks) vs.length).map fun i=>ys.getD i .non))) s'/\H' a=none/\Gr H α H' α'/\Abs X.K H' α' L) X.xe s':=by
   intro q st hq hout hfail
   have hperm:=Ji (n:=vs.length) (Ol ks)
   have hlen:(Ic vs q).length=vs.length:=by unfold Ic;rw[hq,aI,hperm.length_eq,qU]
   have sb1:=eY s'.heap kS (cI fun _=>(#[]:Array aJ))
   have J4:L2.Inv X pins σ H' { s' with heap:=s'.heap.update kS (cI fun _=>(#[]:Array aJ)) }:=J3.turned (t':=s'.toks) (fun b o hb e=>(sb1.2 b hb).trans e) p1.2.1 fk.2.1 fk.2.2.2.1 fk.2.2.2.2.1 fk.2.2.2.2.2
   have ga:(s'.heap.update kS (cI fun _=>(#[]:Array aJ))).get? a=some (seqObj "list" #[] e1):=(sb1.2 a (eW hne)).trans p2.1
   generalize hG:s'.heap.update kS (cI fun _=>(#[]:Array aJ))=g1 at J4 ga
   have sb3:=eY g1 a (cI fun _=>(Ic vs q).toArray)
   obtain ⟨c2,hc2⟩:∃ c2,(g1.update a (cI fun _=>(Ic vs q).toArray)).get? a=some (seqObj "list" (Ic vs q).toArray c2):=⟨_,jO ga fun _=>(Ic vs q).toArray⟩
   have hlt':∀ k∈Ee (ltK ks) vs.length,k < ys.length:=fun k hk=>by
    have:=eI.mp (hperm.mem_iff.mp hk)
    omega
   have hrel:Vals ((Ee (ltK ks) vs.length).map fun i=>ys.getD i .non) (Ic vs q):=by
    unfold Ic
    rw[hq]
    have:∀ js:List Nat,(∀ k∈js,k < ys.length)->Vals (js.map fun i=>ys.getD i .non) (js.map fun i=>vs.getD i eE):=by
     intro js
     induction js with
     | nil=>intro _;exact .nil
     | cons k js ih=>
      intro hk
      have hk0:=hk k (aX ..)
      obtain ⟨v,e3,rr⟩:=rv.get (aC hk0)
      refine .cons ?_ (ih fun x hx=>hk x (aT _ hx))
      show L2.RelV (ys.getD k .non) (vs.getD k eE)
      rw[aO,aO,aC hk0,e3]
      exact rr
    exact this _ hlt'
   have hsz:((Ee (ltK ks) vs.length).map fun i=>ys.getD i .non).length<=sizeLine:=by
    rw[aI,hperm.length_eq,qU,dC];omega
   have J5:L2.Inv X pins σ (upd H' a (.lst ((Ee (ltK ks) vs.length).map fun i=>ys.getD i .non))) { s' with heap:=g1.update a (cI fun _=>(Ic vs q).toArray) }:=
    Inv.adopt (s:={ s' with heap:=g1 }) (t':=s'.toks) J4 ⟨p2.2.1,fa.2⟩ (fun b o hb e=>(sb3.2 b hb).trans e) ⟨hsz,Ic vs q,c2,hrel,hc2⟩
   unfold ksk_tail
   refine aD (jI p1.1 rfl ?_ (by rw[aP,dC];omega) (eD _))
   rw[hG]
   refine aD (oT (aD (oY (s:={ s' with heap:=g1 }) ga rfl ?_)))
   have hout':(if false=true then ((arrOf st).map (·.2)).reverse else (arrOf st).map (·.2))=(Ic vs q).toArray:=by rw[if_neg (by simp)];exact hout
   rw[hout',hfail]
   refine aD (jI (s:={ s' with heap:=g1 }) ga rfl ?_ (eD _) (by rw[aP,hlen,dC];omega))
   simp only[bne_self_eq_false,bX,if_false]
   exact aM ⟨rfl,H',α',J5,p2.2.1,g,A'⟩
  unfold ksk_end
  simp only[bX,if_false]
  by_cases hsmall:vs.toArray.size < 2
  ·rw[if_pos hsmall,if_pos hsmall]
   have hs2:vs.length < 2:=by simpa using hsmall
   refine aD (aM ?_)
   rw[sI]
   refine aD (aM (fin (iG (dB vs.length)) (xD general' (kv.toArray.zip vs.toArray) #[] 7 none) ?_ ?_ rfl))
   ·unfold Ee;rw[if_pos hs2]
   ·rw[So]
    show (kv.toArray.zip vs.toArray).map (·.2)=vs.toArray
    apply Array.ext
    ·simp;omega
    ·intro i i1 i2;simp
  ·rw[if_neg hsmall,if_neg hsmall]
   have hs2:2<=vs.length:=by simp at hsmall;omega
   have mk:∀ (m:Nat),m<=kv.length->∃ fs:List aJ,PySem.W.KatTups s'.heap (kv.drop (kv.length - m)) fs/\fs.length=m/\∀ v∈fs,PySem.W.Looks (model X.prog X.w) s'.heap (typeOf v) (.type "int"):=by
    intro m
    induction m with
    | zero=>intro _;exact ⟨[],by rw[qN,List.drop_length];exact PySem.W.KatTups.nil,rfl,by simp⟩
    | succ m ih=>
     intro hm
     obtain ⟨fs,k1,k2,k3⟩:=ih (by omega)
     obtain ⟨b,n,t,ws,q1,_,r2,it⟩:=hat (kv.length - (m+1)) (by omega)
     obtain ⟨o,ho',hcls,nn,hd⟩:=it
     rw[aL] at r2
     cases r2 with
     | @cons _ v0 _ vr rr rs=>
      obtain ⟨tk,rfl⟩:=rr
      have hdrop:kv.drop (kv.length - (m+1)) = .ref b::kv.drop (kv.length - m):=by
       have hlt2:kv.length - (m+1) < kv.length:=by omega
       rw[hV hlt2]
       have:kv[kv.length - (m+1)] = .ref b:=by
        rw[aC hlt2] at q1;exact bR q1
       rw[this]
       congr 2;omega
      refine ⟨.int n tk::fs,?_,by simp[k2],fun v hv=>?_⟩
      ·rw[hdrop]
       exact PySem.W.KatTups.cons ho' hcls hd rfl k1
      ·rcases bH.mp hv with e | e
       ·subst e
        exact qS
       ·exact k3 v e
   obtain ⟨fs,k1,k2,k3⟩:=mk kv.length (aQ _)
   rw[eG,mG] at k1
   refine aD (PySem.W.kat_kind k1 (by omega) k3 rfl ?_)
   have ask:∀ (i j:Nat) (C:Bool->aN->Prop),i < vs.length->j < vs.length->C (ltK ks i j) s'->jE X.prog X.w X.A.in1.in1 (tuples' (iW "int" != iW "tuple")) kv i j C s':=by
    intro i j C hi hj hC
    obtain ⟨b,n,t,ws,q1,q2,r2,it⟩:=hat i (by omega)
    obtain ⟨b',n',t',ws',q1',q2',r2',it'⟩:=hat j (by omega)
    obtain ⟨o,ho1,_,c1,hd⟩:=it
    obtain ⟨o',ho2,_,c2,hd'⟩:=it'
    have g1:kv.getD i eE = .ref b:=by rw[aO,q1];rfl
    have g2:kv.getD j eE = .ref b':=by rw[aO,q1'];rfl
    unfold jE
    rw[g1,g2]
    refine PySem.W.kat_lt ho1 hd ho2 hd' ?_
    have hl1:=r2.length
    have hl2:=r2'.length
    rw[aI] at hl1 hl2
    refine Aer (n::t) (n'::t') ws ws' 0 r2 r2' ?_ ?_
    ·rw[aP,aP,<- hl1,<- hl2]
    ·rw[<- q2,<- q2'];exact hC
   have on:=(Q3 (n:=vs.length) (Ol ks) (by omega)).run.wp (cmp:=jE X.prog X.w X.A.in1.in1 (tuples' (iW "int" != iW "tuple")) kv) (s:=s') (Q:=fun q s2=>q=Aa8 (ltK ks) (mK vs.length)/\s2=s') (fun i j C hi hj hC=>ask i j C hi hj hC) fun q h=>⟨h,rfl⟩
   refine aD (fO (PySem.W.kat_run (ks:=kv) (vs:=vs) (Q:=fun st s2=>∃ q:Array Nat,arrOf st=q.map (PySem.W.kas_item (kv.toArray.zip vs.toArray))/\failedOf st=none/\q=Aa8 (ltK ks) (mK vs.length)/\s2=s') hkv hs2 h64 (fun q st s2 _ q1 q2 q3=>⟨q,q1,q2,q3⟩) on) ?_ fun _ _ e=>e)
   rintro ⟨⟨⟩,st⟩ s2 ⟨q,q1,q2,q3,rfl⟩
   refine fin q st ?_ (PySem.W.kat_snds hkv q1) q2
   unfold Ee
   rw[if_neg (by omega),q3]
theorem Ai2{l:Addr}{Q:VK}
  (F:FnOk X.prog X.w X.K X.mg X.base CX0 k f fd [p] (spF X.K 1 m)) (hr:Room (k+2) X.A) (hb:Binds X.K fd [p] []) (I:L2.Inv X pins σ H s) (hq:SqL X.K H l ys) (ru:RepL X.K H α us ys) (Ab:Abs X.K H α L) (hl:ks.length=ys.length) (hk1:∀ t∈ks,t≠[])
  (hk:∀ (i:Nat) (u:U) (t:List Int),us[i]? = some u->ks[i]? = some t->m [u] L=some (Wm t,L)) (h64:ys.length < 64)
  (q:∀ (b:Addr) (H':Hp) (α':List Addr),H' b=none->Gr H α H' α'->Abs X.K H' α' L->Q (.ref b) (upd H' b (.lst ((Ee (ltK ks) ys.length).map fun i=>ys.getD i .non)))) :
  wpAny (model X.prog X.w) X.A (call (.builtin "sorted") [.ref l] [(dG "key",.ref f)]) (EP X pins σ Q) X.xe s:=by
 obtain ⟨its,rv,pl,hz⟩:=I.list hq
 have hlen:=rv.length
 have hil:=pl.isList
 have e1:((s.heap.push (seqObj "list" #[] 0)).update s.heap.objs.size (cI (· ++ its.toArray))).objs.size=s.heap.objs.size+1:=by rw[rN,size_push']
 have e2:(((s.heap.push (seqObj "list" #[] 0)).update s.heap.objs.size (cI (· ++ its.toArray))).push (seqObj "list" its.toArray 0)).get? (s.heap.objs.size+1)=some (seqObj "list" its.toArray 0):=by rw[<- e1];exact bE _ rfl
 have e0:∀ b o,s.heap.get? b=some o->((s.heap.push (seqObj "list" #[] 0)).update s.heap.objs.size (cI (· ++ its.toArray))).get? b=some o:=fun b o q=>V4 _ _ _ b o (bV (aV q)) (aE _ q)
 have J0:L2.Inv X pins σ H { s with heap:=(s.heap.push (seqObj "list" #[] 0)).update s.heap.objs.size (cI (· ++ its.toArray)) }:=I.kept (t':=s.toks) e0
 have J1:L2.Inv X pins σ H { s with heap:=((s.heap.push (seqObj "list" #[] 0)).update s.heap.objs.size (cI (· ++ its.toArray))).push (seqObj "list" its.toArray 0) }:=J0.kept (t':=s.toks) fun b o e=>aE _ e
 have fp:Kn X pins H (s.heap.objs.size+1):=by
  rw[<- e1]
  exact J0.fpOk (aQ _) (J0.hok.fresh (aQ _))
 refine oE rX qQ qR (ksk_s1 _ _) ?_
 unfold iP.«sorted»
 refine aD (m:=checkCount "sorted" 1 1 _) (aM (aD (collect_list hil (aD (kT ?_ ?y2)) ?y1)))
 case y1=>rw[dC];omega
 case y2=>rw[dC];omega
 show wpAny _ _ _ _ _ ({ s with heap:=((s.heap.push (seqObj "list" #[] 0)).update s.heap.objs.size (cI (· ++ its.toArray))).push (seqObj "list" its.toArray 0) }:aN)
 rw[e1]
 refine aD (cZ (pJ pA ⟨_,e2,rfl⟩ oJ ?body (ksk_l1 _ _)))
 case body=>
  show wpAny (model X.prog X.w) X.A.in1.in1 (iP.«list.sort» ⟨[.ref (s.heap.objs.size+1)],[(dG "key",.ref f)]⟩) _ _ _
  rw[ksk_t1]
  refine fO (Afl F (hr.in1.in1) hb J1 fp e2 rv ru Ab (by omega) hk1 hk (by omega)) (fun fin s' ⟨hf,H',α',J,hn,g,A'⟩=>?_) fun _ _ e=>e
  subst hf
  refine ⟨_,rfl,aM ⟨_,rfl,.ref (s.heap.objs.size+1),_,J,rfl,?_⟩⟩
  have:=q (s.heap.objs.size+1) H' α' hn g A'
  rw[hlen] at this
  exact this
end
open Classical in
noncomputable def Od(m:FN)(L:UH)(u:U):Option (List Int):=(m [u] L).bind fun r=>if r.2=L then Agy r.1 else none
noncomputable def S7(m:FN)(f:FE):FE:=fun δ L=>(f δ L).bind fun q=>match q.1 with
 | .ref n=>(A7 q.2 n).bind fun us=>(mapO (Od m q.2) us).bind fun ks=>if us.length < 64/\(ks.all fun t=>!t.isEmpty)=true then some (.ref q.2.length,q.2++[.lst ((Ee (ltK ks) us.length).map fun i=>us.getD i .non)]) else none
 | _=>none
theorem X7{u:U}{t:List Int}(h:Od m L u=some t):m [u] L=some (Wm t,L):=by
 unfold Od at h
 obtain ⟨⟨z,L'⟩,e,h⟩:=aB.mp h
 simp only at h
 split at h
 ·rename_i hL
  subst hL
  have h1:mapO Agy [z]=some [t]:=by
   have h0:Agy z=some t:=by assumption
   simp only[mapO,h0,aA,aF]
  have h2:=Abq h1
  simp only[aL,cU,oI,and_true] at h2
  rw[e,h2]
 ·cases h
theorem Sv{β γ:Type}{f:β->Option γ}:∀ {l:List β} {r:List γ},mapO f l=some r->l.length=r.length
 | [],r,h=>by simp only[mapO] at h;cases h;rfl
 | a::l,r,h=>by
  simp only[mapO] at h
  obtain ⟨x,_,h⟩:=aB.mp h
  obtain ⟨y,hy,h⟩:=aH.mp h
  subst h
  simp[Sv hy]
theorem Tp{β γ:Type}{f:β->Option γ}:∀ {l:List β} {r:List γ} {i:Nat} {a:β} {b:γ},mapO f l=some r->l[i]? = some a->r[i]? = some b->f a=some b
 | [],r,i,a,b,h,h1,h2=>by simp at h1
 | c::l,r,i,a,b,h,h1,h2=>by
  simp only[mapO] at h
  obtain ⟨x,hx,h⟩:=aB.mp h
  obtain ⟨y,hy,h⟩:=aH.mp h
  subst h
  cases i with
  | zero=>simp at h1 h2;subst h1;subst h2;exact hx
  | succ i=>exact Tp hy (by simpa using h1) (by simpa using h2)
theorem Ahs{pn kf:Str}{e:Expr}{fe:FE}{p kp kpos pos:Pos}(F:FnOk X.prog X.w X.K X.mg X.base CX0 k f fd [pn] (spF X.K 1 m))(hr:Room (k+2) X.A)(hb:Binds X.K fd [pn] [])
  (hg:Gl X "sorted") (hm:X.mg "sorted" = none) (hgk:Gl X kf) (hmk:X.mg kf=some (.ref f)) (he:PEF X e fe) (hd:(kf == ("__debug__" : Str))=false:=by decide)
  (hs:bS [e] X.env=[(false,eval e X.env)]:=by rfl):PEF X (.Call (.Name "sorted" p) [e] [⟨some (dG "key"),.Name kf kp,kpos⟩] pos) (S7 m fe):=by
 intro pins s σ H Q I h
 obtain ⟨α,δ,L,A,S,z,L3,ez,q⟩:=h
 unfold S7 at ez
 obtain ⟨⟨u,L1⟩,e1,ez⟩:=aB.mp ez
 simp only at ez
 split at ez
 ·rename_i n
  obtain ⟨us,hus,ez⟩:=aB.mp ez
  obtain ⟨ks,hks,ez⟩:=aB.mp ez
  split at ez
  ·rename_i hc
   cases ez
   refine fY (Jm I hg hm fE ?_)
   refine callWith_kw ?_ (by rw[hs];rfl) (by rw[hs];rfl) (by rfl)
   have hpa:PAF X [e] (Ac fe Af):=Ad he Ae (hs:=by rw[hs];rfl)
   have hA:(Ac fe Af) δ L=some ([.ref n],L1):=by
    show (fe δ L).bind _=_
    rw[e1];rfl
   refine thn (hpa pos pins s σ H (fun vs H1=>∃ α1,Gr H α H1 α1/\Abs X.K H1 α1 L1/\RepL X.K H1 α1 [.ref n] vs) I ⟨α,δ,L,A,S,_,L1,hA,fun vs H1 α1 g1 A1 r1=>⟨α1,g1,A1,r1⟩⟩) fun vs s1 zz=>?_
   obtain ⟨xs,H1,I1,rx,α1,g1,A1,r1⟩:=zz
   refine thn (Ab7 (nm:=some (dG "key")) (kpos:=kpos) (Ab8 (v:=.ref f) hgk hmk rfl hd) Agn pos pins s1 σ H1 (fun zs H2=>zs=[.ref f]/\H2=H1) I1 ⟨rfl,rfl⟩) fun ws s2 zz=>?_
   obtain ⟨zs,H2,I2,rz,hz,hH⟩:=zz
   subst hH
   subst hz
   obtain ⟨y,rfl,ry⟩:=r1.one
   obtain ⟨b,ys,rfl,sq,r2⟩:=Hw A1 hus ry
   obtain ⟨v,rfl,rv⟩:=Gx rx
   cases rv
   obtain ⟨v2,rfl,rv2⟩:=Gx rz
   cases rv2
   have hlu:=r2.length
   have hlk:=Sv hks
   refine Ai2 F hr hb I2 sq r2 A1 (by omega) (fun t ht=>?_) (fun i u t hu ht=>X7 (Tp hks hu ht)) (by omega) fun c H' α' hn g' A'=>?_
   ·have:=cF.mp hc.2 t ht
    intro z;rw[z] at this;simp at this
   ·have hperm:=Ji (n:=us.length) (Ol ks)
    have rl:RepL X.K H' α' ((Ee (ltK ks) us.length).map fun i=>us.getD i .non) ((Ee (ltK ks) ys.length).map fun i=>ys.getD i .non):=by
     rw[<- hlu]
     have:∀ js:List Nat,(∀ j∈js,j < us.length)->RepL X.K H' α' (js.map fun i=>us.getD i .non) (js.map fun i=>ys.getD i .non):=by
      intro js
      induction js with
      | nil=>intro _;exact .nil
      | cons j js ih=>
       intro hj
       have hj0:=hj j (aX ..)
       obtain ⟨x,hx,rx'⟩:=r2.get (aC hj0)
       refine .cons ?_ (ih fun x hx=>hj x (aT _ hx))
       show RepU X.K H' α' (us.getD j .non) (ys.getD j .non)
       rw[aO,aO,aC hj0,hx]
       exact rx'.mono g'
     exact this _ fun j hj=>eI.mp (hperm.mem_iff.mp hj)
    obtain ⟨g2,A2,r3⟩:=A'.lst rl hn
    exact q _ _ _ (g1.trans (g'.trans g2)) A2 r3
  ·cases ez
 ·cases ez
section
variable {h':Heap}
theorem Ag8{l:Addr}{Q:VK}
  (F:FnOk X.prog X.w X.K X.mg X.base CX0 k f fd [p] (spF X.K 1 m)) (hr:Room (k+2) X.A) (hb:Binds X.K fd [p] []) (I:L2.Inv X pins σ H s) (hq:SqT X.K H l ys) (ru:RepL X.K H α us ys) (Ab:Abs X.K H α L) (hl:ks.length=ys.length) (hk1:∀ t∈ks,t≠[])
  (hk:∀ (i:Nat) (u:U) (t:List Int),us[i]? = some u->ks[i]? = some t->m [u] L=some (Wm t,L)) (h64:ys.length < 64)
  (q:∀ (b:Addr) (H':Hp) (α':List Addr),H' b=none->Gr H α H' α'->Abs X.K H' α' L->Q (.ref b) (upd H' b (.lst ((Ee (ltK ks) ys.length).map fun i=>ys.getD i .non)))) :
  wpAny (model X.prog X.w) X.A (call (.builtin "sorted") [.ref l] [(dG "key",.ref f)]) (EP X pins σ Q) X.xe s:=by
 obtain ⟨its,rv,it,hz⟩:=I.tuple hq
 have hlen:=rv.length
 obtain ⟨o,ho,hc,cn,hd⟩:=it
 refine oE rX qQ qR (ksk_s1 _ _) ?_
 unfold iP.«sorted»
 refine aD (m:=checkCount "sorted" 1 1 _) (aM (aD (wpAny_collect_seq l (.inr rfl) ho hc hd (fun h1 kp=>?_) (by rw[dC,aP];omega))))
 rw[show its.toArray.toList=its from by simp]
 refine aD (kT ?_ (by rw[dC];omega))
 have J0:L2.Inv X pins σ H { s with heap:=h1 }:=I.kept (t':=s.toks) kp
 have J1:L2.Inv X pins σ H { s with heap:=h1.push (seqObj "list" its.toArray 0) }:=J0.kept (t':=s.toks) fun b o e=>aE _ e
 have e2:(h1.push (seqObj "list" its.toArray 0)).get? h1.objs.size=some (seqObj "list" its.toArray 0):=bE _ rfl
 have fp:Kn X pins H h1.objs.size:=J0.fpOk (aQ _) (J0.hok.fresh (aQ _))
 show wpAny _ _ _ _ _ ({ s with heap:=h1.push (seqObj "list" its.toArray 0) }:aN)
 refine aD (cZ (pJ pA ⟨_,e2,rfl⟩ oJ ?body (ksk_l1 _ _)))
 case body=>
  show wpAny (model X.prog X.w) X.A.in1.in1 (iP.«list.sort» ⟨[.ref h1.objs.size],[(dG "key",.ref f)]⟩) _ _ _
  rw[ksk_t1]
  refine fO (Afl F (hr.in1.in1) hb J1 fp e2 rv ru Ab (by omega) hk1 hk (by omega)) (fun fin s' ⟨hf,H',α',J,hn,g,A'⟩=>?_) fun _ _ e=>e
  subst hf
  refine ⟨_,rfl,aM ⟨_,rfl,.ref h1.objs.size,_,J,rfl,?_⟩⟩
  have:=q h1.objs.size H' α' hn g A'
  rw[hlen] at this
  exact this
end
noncomputable def Ni(m:FN)(f:FE):FE:=fun δ L=>(f δ L).bind fun q=>match q.1 with
 | .tup us=>(mapO (Od m q.2) us).bind fun ks=>if us.length < 64/\(ks.all fun t=>!t.isEmpty)=true then some (.ref q.2.length,q.2++[.lst ((Ee (ltK ks) us.length).map fun i=>us.getD i .non)]) else none
 | _=>none
theorem Adw{pn kf:Str}{e:Expr}{fe:FE}{p kp kpos pos:Pos}(F:FnOk X.prog X.w X.K X.mg X.base CX0 k f fd [pn] (spF X.K 1 m))(hr:Room (k+2) X.A)(hb:Binds X.K fd [pn] [])
  (hg:Gl X "sorted") (hm:X.mg "sorted" = none) (hgk:Gl X kf) (hmk:X.mg kf=some (.ref f)) (he:PEF X e fe) (hd:(kf == ("__debug__" : Str))=false:=by decide)
  (hs:bS [e] X.env=[(false,eval e X.env)]:=by rfl):PEF X (.Call (.Name "sorted" p) [e] [⟨some (dG "key"),.Name kf kp,kpos⟩] pos) (Ni m fe):=by
 intro pins s σ H Q I h
 obtain ⟨α,δ,L,A,S,z,L3,ez,q⟩:=h
 unfold Ni at ez
 obtain ⟨⟨u,L1⟩,e1,ez⟩:=aB.mp ez
 simp only at ez
 split at ez
 ·rename_i us
  obtain ⟨ks,hks,ez⟩:=aB.mp ez
  split at ez
  ·rename_i hc
   cases ez
   refine fY (Jm I hg hm fE ?_)
   refine callWith_kw ?_ (by rw[hs];rfl) (by rw[hs];rfl) (by rfl)
   have hpa:PAF X [e] (Ac fe Af):=Ad he Ae (hs:=by rw[hs];rfl)
   have hA:(Ac fe Af) δ L=some ([.tup us],L1):=by
    show (fe δ L).bind _=_
    rw[e1];rfl
   refine thn (hpa pos pins s σ H (fun vs H1=>∃ α1,Gr H α H1 α1/\Abs X.K H1 α1 L1/\RepL X.K H1 α1 [.tup us] vs) I ⟨α,δ,L,A,S,_,L1,hA,fun vs H1 α1 g1 A1 r1=>⟨α1,g1,A1,r1⟩⟩) fun vs s1 zz=>?_
   obtain ⟨xs,H1,I1,rx,α1,g1,A1,r1⟩:=zz
   refine thn (Ab7 (nm:=some (dG "key")) (kpos:=kpos) (Ab8 (v:=.ref f) hgk hmk rfl hd) Agn pos pins s1 σ H1 (fun zs H2=>zs=[.ref f]/\H2=H1) I1 ⟨rfl,rfl⟩) fun ws s2 zz=>?_
   obtain ⟨zs,H2,I2,rz,hz,hH⟩:=zz
   subst hH
   subst hz
   obtain ⟨y,rfl,ry⟩:=r1.one
   unfold RepU at ry
   obtain ⟨b,ys,rfl,sq,r2⟩:=ry
   obtain ⟨v,rfl,rv⟩:=Gx rx
   cases rv
   obtain ⟨v2,rfl,rv2⟩:=Gx rz
   cases rv2
   have hlu:=r2.length
   have hlk:=Sv hks
   refine Ag8 F hr hb I2 sq r2 A1 (by omega) (fun t ht=>?_) (fun i u t hu ht=>X7 (Tp hks hu ht)) (by omega) fun c H' α' hn g' A'=>?_
   ·have:=cF.mp hc.2 t ht
    intro z;rw[z] at this;simp at this
   ·have hperm:=Ji (n:=us.length) (Ol ks)
    have rl:RepL X.K H' α' ((Ee (ltK ks) us.length).map fun i=>us.getD i .non) ((Ee (ltK ks) ys.length).map fun i=>ys.getD i .non):=by
     rw[<- hlu]
     have:∀ js:List Nat,(∀ j∈js,j < us.length)->RepL X.K H' α' (js.map fun i=>us.getD i .non) (js.map fun i=>ys.getD i .non):=by
      intro js
      induction js with
      | nil=>intro _;exact .nil
      | cons j js ih=>
       intro hj
       have hj0:=hj j (aX ..)
       obtain ⟨x,hx,rx'⟩:=r2.get (aC hj0)
       refine .cons ?_ (ih fun x hx=>hj x (aT _ hx))
       show RepU X.K H' α' (us.getD j .non) (ys.getD j .non)
       rw[aO,aO,aC hj0,hx]
       exact rx'.mono g'
     exact this _ fun j hj=>eI.mp (hperm.mem_iff.mp hj)
    obtain ⟨g2,A2,r3⟩:=A'.lst rl hn
    exact q _ _ _ (g1.trans (g'.trans g2)) A2 r3
  ·cases ez
 ·cases ez
end MR
namespace HT
open PySem PyProof.Rows
section
open PySem.SeqAt
open PySem.AutoSeq1 (wpAny_loadPart')
open PySem.MeetsSeq PySem.MeetsSeq2 PySem.MeetsSeq3
end
section
variable {prog:cT}{w:eO}{A:eS}{E:aJ->aN->Prop}{s:aN}
end
end HT
namespace MR
open PySem PyProof.Rows L2
end MR
namespace DP
open PySem PySem.Spec PyProof.Rows
theorem Aj9:typeLookup (.type "list") (dG "keys")=pure none:=am_miss_of_fast (by kernel_rfl)
theorem Aiz:typeLookup (.type "list") "__getattr__" = pure none:=am_miss_of_fast (by kernel_rfl)
variable {prog:cT}{w:eO}{A:eS}{E:aJ->aN->Prop}{s:aN}{n:Nat}{sl:Array (Option aJ)}
theorem Ajp{P:PySem.Fin->aN->Prop}{a:Addr}{vs:Array aJ}{u:Tok}(hA:A.handled=none)(hx:s.heap.get? a=some { cls:=.type "list",dict:=none,data:=.seq vs n,slots:=sl })
  (h:∀ h' tk e,Heap.NewAttrErr s.heap h' e (.ref a) (dG "keys")->E (.ref e) { s with heap:=h',toks:=tk }):wpAny (model prog w) A (iP.«object.__getattribute__» ⟨[.ref a,.str (dG "keys") u],[]⟩) P E s:=by
 obtain ⟨hp,g,d,tk,os⟩:=s
 have hT:(⟨hp,g,d,tk,os⟩:aN).TypeIs (.ref a) "list" := ⟨_,hx,rfl⟩
 have f1:=Aj9
 unfold iP.«object.__getattribute__»
 (repeat (any_goals (first | assumption | wp_step)));exact wpAny_raiseAttrError hA h (attrMsg_fits (by decide +kernel) (by decide +kernel))
theorem Ac0{Q:Option aJ->aN->Prop}{a:Addr}{vs:Array aJ}(hA:A.handled=none)(hx:s.heap.get? a=some { cls:=.type "list",dict:=none,data:=.seq vs n,slots:=sl })
  (h:∀ h' tk,(∀ b ob,s.heap.get? b=some ob->h'.get? b=some ob)->Q none { s with heap:=h',toks:=tk }):wpAny (model prog w) A (getAttr? (.ref a) (dG "keys")) Q E s:=by
 obtain ⟨hp,g,d,tk,os⟩:=s
 have hT:(⟨hp,g,d,tk,os⟩:aN).TypeIs (.ref a) "list" := ⟨_,hx,rfl⟩
 have f1:=sub_AttributeError
 have f3:=F.slot_list_getattribute.lookup
 have f4:=F.slot_list_getattribute.bind (.ref a)
 have f5:=Aiz
 unfold getAttr? getAttrBy? getAttrBy
 (repeat (any_goals (first | assumption | wp_step)));refine oZ F.slot_list_getattribute.plain F.entry_list_ga (F.slot_list_getattribute.check _ _ _ _ _ _ _ _ hT (F.args_list_getattribute_2 _ _) (Ajp (A:=tY A) hA hx fun h' tk' e hn=>?_))
 obtain ⟨t',u',he⟩:=hn.there
 show wpAny _ _ (getattributeRaised _ _ _ _ _ _ _) _ _ _
 unfold getattributeRaised
 (repeat (any_goals (first | assumption | wp_step)));exact h _ _ hn.keeps
theorem Abm:entryFor table "dict.update.loop" = some iP.«dict.update.loop» := entryFor_of_fast (by kernel_rfl)
theorem Q5:plainId "dict.update.loop" = true:=by decide +kernel
structure PairAt(P:cT)(w:eO)(h:Heap)(v:aJ)(k:L2.Key)(x:aJ):Prop where
 ex:∃ (T:Addr) (key:aJ),v = .ref T/\h.IsTuple T #[key,x]/\(L2.Bp P w).is k key=true
theorem Tv:∀ (ps:List (L2.Key×aJ)),(merged ([]:List (L2.Key×aJ)) ps).length<=ps.length:=by
 have aux:∀ (ps vs:List (L2.Key×aJ)),(merged vs ps).length<=vs.length+ps.length:=by
  intro ps
  induction ps with
  | nil=>intro vs;exact aQ _
  | cons p ps ih=>
   intro vs
   have h1:=ih (stored vs p.1 p.2)
   have h2:(stored vs p.1 p.2).length<=vs.length+1:=by unfold stored;split <;> simp
   show (merged (stored vs p.1 p.2) ps).length<=_
   rw[aY];omega
 exact fun ps=>by have:=aux ps [];simpa using this
theorem Y4{R:sR->aN->Prop}{d it l:Addr}{its:List aJ}{ps:List (L2.Key×aJ)}{h1:Heap}(hA:A.handled=none)(res:aJ)(hdi:d≠it)(hdl:d≠l)(hli:l≠it)(hlen:its.length=ps.length)(hsz:ps.length<=1000000)
  (hp:∀ (h:Heap) (j:Nat) (v:aJ) (p:L2.Key×aJ),(∀ b o,b≠d->b≠it->h1.get? b=some o->h.get? b=some o)->its[j]? = some v->ps[j]? = some p->PairAt prog w h v p.1 p.2)
  (hR:∀ h' tk,(∀ b o,b≠d->b≠it->h1.get? b=some o->h'.get? b=some o)->h'.DictOf (L2.Bp prog w) d (merged [] ps)->R (.ok (.ret res)) { s with heap:=h',toks:=tk }) :
  ∀ (k i:Nat) (h:Heap) (tk:Nat),ps.length - i=k->i<=ps.length->(∀ b o,b≠d->b≠it->h1.get? b=some o->h.get? b=some o)->h.IsListIter it l i->h.IsList l its.toArray->h.DictOf (L2.Bp prog w) d (merged [] (ps.take i)) ->
   nT (model prog w) A (.builtin "dict.update.loop" ⟨[.ref d,.ref it,rawInt i,res],[]⟩) R { s with heap:=h,toks:=tk }:=by
 intro k
 induction k with
 | zero=>
  intro i h tk hk hi hkeep hit hl hD
  have hin:i=ps.length:=by omega
  subst hin
  rw[gR] at hD
  refine iC Abm ?_
  rw[gG Q5 _]
  show wpAny _ A.in1 (pyNext (.ref it) >>= _) _ _ _
  refine aD (kI (s:={ s with heap:=h,toks:=tk }) (A:=A.in1) hA hit hl (by simp;omega) fun h' he=>?_)
  exact aD (aM (aM (hR h' tk (fun b o x1 x2 e=>he b o x2 (hkeep b o x1 x2 e)) (hD.extBut he hdi))))
 | succ k ih=>
  intro i h tk hk hi hkeep hit hl hD
  have hlt:i < ps.length:=by omega
  have hlt2:i < its.length:=by omega
  obtain ⟨T,key,e1,e2,e3⟩:=(hp h i its[i] ps[i] hkeep (aC hlt2) (aC hlt)).ex
  refine iC Abm ?_
  rw[gG Q5 _]
  show wpAny _ A.in1 (pyNext (.ref it) >>= _) _ _ _
  refine aD (jY (s:={ s with heap:=h,toks:=tk }) (A:=A.in1) hit hl (x:=.ref T) (by simp[hlt2,<- e1]) fun h' hit' hs'=>?_)
  have hTi:T≠it:=fun q=>by
   obtain ⟨o,ho,hc,_⟩:=e2
   obtain ⟨o',ho',hc',_⟩:=hit
   rw[q,ho'] at ho;cases ho
   rw[hc'] at hc;simp at hc
  have hTd:T≠d:=fun q=>by
   obtain ⟨o,ho,hc,_⟩:=e2
   obtain ⟨o',ho',hc'⟩:(⟨h,s.gens,s.drawn,tk,s.os⟩:aN).TypeIs (.ref d) "dict" := Heap.DictOf.typeIs (s:=⟨h,s.gens,s.drawn,tk,s.os⟩) hD
   rw[q,ho'] at ho;cases ho
   rw[hc'] at hc;simp at hc
  have e2':h'.IsTuple T #[key,ps[i].2]:=e2.at fun o e=>(hs'.2 T hTi).trans e
  have hD':h'.DictOf (L2.Bp prog w) d (merged [] (ps.take i)):=hD.extBut hs'.extBut hdi
  refine aD (cZ (aD (wpAny_tryCatch ?_)))
  obtain ⟨o,ho,hc,n,hd⟩:=id e2'
  unfold iP.Dict.pairItems
  refine aD (kC (T := "tuple") ⟨o,ho,hc⟩ ?_)
  rw[if_pos (by rfl)]
  refine aD (show wpAny _ _ (seqItems? (eQ T)) _ _ _ from ?_)
  unfold seqItems?
  refine aD (sQ ho ?_)
  rw[hd]
  refine aM (aM (cZ (wpAny_dictSet_pairs (s:={ s with heap:=h',toks:=tk }) e3 hD' (fun h2 hD2 hs2=>?_) ?zz)))
  case zz=>have:=Tv (ps.take i);rw[dC];simp at this;omega
  have htk:merged [] (ps.take (i+1))=stored (merged [] (ps.take i)) ps[i].1 ps[i].2:=by
   rw[eA,aC hlt]
   unfold merged
   rw[mV];rfl
  refine aM ⟨nC Q5 _,?_⟩
  have hcast:((i:Int)+1)=((i+1:Nat):Int):=by omega
  rw[hcast]
  refine ih (i+1) h2 _ (by omega) hlt (fun b o x1 x2 e=>(hs2.2 b x1).trans ((hs'.2 b x2).trans (hkeep b o x1 x2 e))) (hit'.at fun o e=>(hs2.2 it (eW hdi)).trans e) ((hl.at fun o e=>(hs'.2 l hli).trans e).at fun o e=>(hs2.2 l (eW hdl)).trans e) ?_
  rw[htk];exact hD2
theorem Yw{Q:aJ->aN->Prop}{l:Addr}{its:List aJ}{ps:List (L2.Key×aJ)}(hA:A.handled=none)(hx:s.heap.get? l=some { cls:=.type "list",dict:=none,data:=.seq its.toArray n,slots:=sl })(hlen:its.length=ps.length)(hsz:ps.length<=1000000)
  (hp:∀ (h:Heap) (j:Nat) (v:aJ) (p:L2.Key×aJ),(∀ b o,s.heap.get? b=some o->h.get? b=some o)->its[j]? = some v->ps[j]? = some p->PairAt prog w h v p.1 p.2)
  (hQ:∀ h' tk,(∀ b o,s.heap.get? b=some o->h'.get? b=some o)->h'.DictOf (L2.Bp prog w) s.heap.objs.size (merged [] ps)->Q (.ref s.heap.objs.size) { s with heap:=h',toks:=tk }) :
  wpAny (model prog w) A (call (.type "dict") [.ref l]) Q E s:=by
 refine callType_codes (Q₁:=fun obj s₁=>obj = .ref s.heap.objs.size/\s₁ = { s with heap:=s.heap.push { cls:=.type "dict",data:=.dict #[] } }) F.kt_called_dict (F.kt_typeCall_dict_1 _) F.entry_dict_init (kt_code_dict_new _ ⟨rfl,rfl⟩) ?_
 rintro _ _ ⟨rfl,rfl⟩
 have new:(s.heap.push { cls:=.type "dict",data:=.dict #[] }).DictOf (L2.Bp prog w) s.heap.objs.size []:=sB s.heap
 have kp:∀ b o,s.heap.get? b=some o->(s.heap.push { cls:=.type "dict",data:=.dict #[] }).get? b=some o:=fun b o e=>aE _ e
 have hlt:=aV hx
 have hx1:=kp _ _ hx
 refine ⟨new.typeIs,F.args_dict_init_2 _ _,?_⟩
 unfold iP.«dict.__init__» iP.Dict.selfAndRest
 refine aD (aD (wpAny_notOrdered_dict new.typeIs (show wpAny _ _ (pure (s.heap.objs.size,[eQ l])) _ _ _ from aM ?_)))
 show wpAny _ _ (nQ "dict.__init__" s.heap.objs.size (.ref l) [] .none) _ _ _
 unfold nQ
 refine aD (kC (T := "list") ⟨_,hx1,rfl⟩ ?_)
 rw[if_pos (by decide)]
 refine aD (Ac0 hA hx1 fun h2 tk2 kp2=>?_)
 rw[if_pos (show (none:Option aJ).isNone=true from rfl)]
 have hx2:=kp2 _ _ hx1
 have hl2:h2.IsList l its.toArray:=⟨_,hx2,rfl,n,rfl⟩
 have new2:h2.DictOf (L2.Bp prog w) s.heap.objs.size []:=by
  obtain ⟨o,es,ep,ho,r⟩:=new
  exact ⟨o,es,ep,kp2 _ _ ho,r⟩
 have hd2:s.heap.objs.size < h2.objs.size:=by
  obtain ⟨o,es,ep,ho,r⟩:=new2
  exact aV ho
 have kp3:∀ b o,s.heap.get? b=some o->(h2.push { cls:=.type "list_iterator",data:=.fields #[.ref l,.int 0 0] }).get? b=some o:=fun b o e=>aE _ (kp2 _ _ (kp _ _ e))
 have far:∀ b o,s.heap.get? b=some o->b≠s.heap.objs.size/\b≠h2.objs.size:=fun b o e=>by
  have:=aV e
  exact ⟨bV this,bV (qI this hd2)⟩
 refine aD (mE (aD (iV hl2 (aM ⟨nC Q5 _,?_⟩))))
 refine Y4 (A:=A.in1) (s:=s) (l:=l) (its:=its) (ps:=ps) (h1:=h2.push { cls:=.type "list_iterator",data:=.fields #[.ref l,.int 0 0] }) hA .none (bV hd2) (iD hlt) (bV (qI hlt hd2)) hlen hsz (fun h j v p hk e1 e2=>hp h j v p (fun b o e=>hk b o (far b o e).1 (far b o e).2 (kp3 b o e)) e1 e2) (fun h' tk hk hD=>?_) ps.length 0 _ _ rfl (eD _) (fun b o _ _ e=>e) ⟨_,bE _ rfl,rfl,rfl⟩ (hl2.push _) (new2.push _)
 exact ⟨rfl,hQ h' tk (fun b o e=>hk b o (far b o e).1 (far b o e).2 (kp3 b o e)) hD⟩
end DP
namespace MR
open PySem PySem.Spec PyProof.Rows PySem.Calls L2 DP
inductive PairsV(K:aK)(H:Hp):List (Key×V)->List V->Prop
 | nil:PairsV K H [] []
 | cons {a:Addr} {k:Key} {v:V} {kvs:List (Key×V)} {ys:List V} (h:SqT K H a [kV k,v]) (r:PairsV K H kvs ys):PairsV K H ((k,v)::kvs) (.ref a::ys)
variable {K:aK}{H:Hp}
theorem PairsV.len{kvs:List (Key×V)}{ys:List V}(r:PairsV K H kvs ys):kvs.length=ys.length:=by
 induction r with
 | nil=>rfl
 | cons h r ih=>simp[ih]
section
variable {X:Cx}
theorem Agb{pins:List (Addr×Obj)}{σ:L2.St}{s:aN}(I:L2.Inv X pins σ H s){kvs:List (Key×V)}{ys:List V}(r:PairsV X.K H kvs ys):∀ {its:List aJ},Vals ys its ->
  ∃ ps:List (Key×aJ),KV kvs ps/\∀ (j:Nat) (v:aJ) (p:Key×aJ),its[j]? = some v->ps[j]? = some p->∃ (T:Addr) (key:aJ),v = .ref T/\sP s.heap T #[key,p.2]/\(Bp X.prog X.w).is p.1 key=true:=by
 induction r with
 | nil=>intro its rv;cases rv;exact ⟨[],.nil,fun j v p e=>by simp at e⟩
 | @cons a k v kvs ys h r ih=>
  intro its rv
  cases rv with
  | @cons _ u _ us r1 r2=>
   cases r1
   obtain ⟨ps,kv,hp⟩:=ih r2
   obtain ⟨ts,rt,it,_⟩:=I.tuple h
   cases rt with
   | @cons _ key _ ts' k1 k2=>
    cases k2 with
    | @cons _ x _ ts'' x1 x2=>
     cases x2
     refine ⟨(k,x)::ps,.cons ⟨rfl,x1⟩ kv,fun j v p e1 e2=>?_⟩
     cases j with
     | zero=>
      simp at e1 e2
      subst e1 e2
      exact ⟨a,key,rfl,it,Yo k1⟩
     | succ j=>exact hp j v p (by simpa using e1) (by simpa using e2)
theorem Aaq(hc:X.calm=true):CallR X (.type "dict") (fun xs H Q=>∃ (l:Addr) (ys:List V) (kvs:List (Key×V)),xs=[.ref l]/\SqL X.K H l ys/\PairsV X.K H kvs ys/\kvs.length<=1000000/\∀ p,H p=none->Q (.ref p) (upd H p (.dK (Ln [] kvs)))):=by
 intro pins s σ H xs us Q I r h
 obtain ⟨l,ys,kvs,rfl,hq,pv,hsz,q⟩:=h
 obtain ⟨u,rfl,rx⟩:=Gx r
 cases rx
 obtain ⟨its,rv,pl,hz⟩:=I.list hq
 obtain ⟨ps,kv,hp⟩:=Agb I pv rv
 have hl1:=rv.length
 have hl2:=pv.len
 have hl3:=kv.length
 obtain ⟨⟨cls,dd,data,sl⟩,n,ho,h1,h2,h3⟩:=pl
 simp only at h1 h2 h3
 subst h1 h2 h3
 refine Yw (ps:=ps) (I.ok.hd hc) ho (by omega) (by omega) (fun h j v p kp e1 e2=>?_) fun h' tk kp hD=>?_
 ·obtain ⟨T,key,rfl,it,hk⟩:=hp j v p e1 e2
  obtain ⟨o,ho,hcls,n',hd'⟩:=it
  exact ⟨T,key,rfl,⟨o,kp _ _ ho,hcls,n',hd'⟩,hk⟩
 ·have hz2:(Ln [] kvs).length<=sizeLine:=by have:=Ob kvs [];rw[dC];simp at this;omega
  have I1:L2.Inv X pins σ (upd H s.heap.objs.size (.dK (Ln [] kvs))) { s with heap:=h',toks:=tk }:=I.laid (t':=tk) kp (aQ _) (Yz hz2 (beq_eq_false_iff_ne.mpr (eW (bV I.big))) (kv.merge .nil) hD)
  exact ⟨.ref s.heap.objs.size,_,I1,rfl,q _ (I.hok.fresh (aQ _))⟩
theorem Y8:CallR X (.type "dict") (fun xs H Q=>∃ (a:Addr) (kvs:List (Key×V)),xs=[.ref a]/\H a=some (.dK kvs)/\∀ p,H p=none->Q (.ref p) (upd H p (.dK kvs))):=by
 intro pins s σ H xs us Q I r h
 obtain ⟨a,kvs,rfl,ha,q⟩:=h
 obtain ⟨u,rfl,rx⟩:=Gx r
 cases rx
 exact Ahc I (.inl ha) fun p s' hp I'=>⟨.ref p,_,I',rfl,q p hp⟩
noncomputable def Aki(K:aK):List V->Hp->VK->Prop:=fun xs H Q=>(∃ (l:Addr) (ys:List V) (kvs:List (Key×V)),xs=[.ref l]/\SqL K H l ys/\PairsV K H kvs ys/\kvs.length<=1000000/\∀ p,H p=none->Q (.ref p) (upd H p (.dK (Ln [] kvs)))) \/
 ∃ (a:Addr) (kvs:List (Key×V)),xs=[.ref a]/\H a=some (.dK kvs)/\∀ p,H p=none->Q (.ref p) (upd H p (.dK kvs))
theorem Adi(hc:X.calm=true):CallR X (.type "dict") (Aki X.K):=(Aaq hc).or Y8
end
noncomputable def Rx:U->Option (Key×U)
 | .tup [k,v]=>(toK k).map fun x=>(x,v)
 | _=>none
noncomputable def Aas(kvs:List (Key×U)):List (Key×U):=kvs.foldl (fun acc kv=>Uc acc kv.1 kv.2) []
noncomputable def Oz:SC:=fun us L=>match us with
 | [.ref n]=>match E2 L n with
  | some kvs=>some (.ref L.length,L++[.dic kvs])
  | none=>(A7 L n).bind fun l=>(mapO Rx l).bind fun kvs=>if kvs.length<=1000000 then some (.ref L.length,L++[.dic (Aas kvs)]) else none
 | _=>none
variable {α:List Addr}
theorem Xf:∀ {us:List U} {ys:List V} {kvs:List (Key×U)},RepL K H α us ys->mapO Rx us=some kvs->∃ vs,PairsV K H vs ys/\RepKV K H α kvs vs
 | [],ys,kvs,r,e=>by
  unfold RepL at r;subst r
  simp only[mapO] at e;cases e
  exact ⟨[],.nil,.nil⟩
 | u::us,ys,kvs,r,e=>by
  unfold RepL at r
  obtain ⟨x,xr,rfl,r1,r2⟩:=r
  simp only[mapO] at e
  obtain ⟨kv,e1,e⟩:=aB.mp e
  obtain ⟨kvr,e2,e⟩:=aH.mp e
  subst e
  obtain ⟨vs,pv,rk⟩:=Xf r2 e2
  unfold Rx at e1
  split at e1
  ·rename_i k v
   obtain ⟨kk,hk,e1⟩:=aH.mp e1
   subst e1
   unfold RepU at r1
   obtain ⟨a,xs,rfl,sq,rl⟩:=r1
   unfold RepL at rl
   obtain ⟨x1,xr1,rfl,rx1,rl⟩:=rl
   unfold RepL at rl
   obtain ⟨x2,xr2,rfl,rx2,rl⟩:=rl
   unfold RepL at rl
   subst rl
   rw[V6 rx1 hk] at sq
   exact ⟨(kk,x2)::vs,.cons sq pv,.mk rx2 rk⟩
  ·cases e1
theorem U7:∀ {more:List (Key×U)} {ms:List (Key×V)} {kvs:List (Key×U)} {vs:List (Key×V)},RepKV K H α more ms->RepKV K H α kvs vs->RepKV K H α (more.foldl (fun acc kv=>Uc acc kv.1 kv.2) kvs) (Ln vs ms)
 | [],ms,kvs,vs,r,r0=>by
  obtain ⟨h1,_⟩:=r
  cases ms with
  | nil=>exact r0
  | cons _ _=>simp at h1
 | kv::more,ms,kvs,vs,r,r0=>by
  obtain ⟨x,ms',rfl,rx,r'⟩:=r.cons
  show RepKV K H α (more.foldl (fun acc kv=>Uc acc kv.1 kv.2) (Uc kvs kv.1 kv.2)) (Ln (Mb vs kv.1 x) ms')
  exact U7 r' (r0.put rx)
theorem Abs.dict{L:UH}{p:Addr}{kvs:List (Key×U)}{vs:List (Key×V)}(A:Abs K H α L)(r:RepKV K H α kvs vs)(hp:H p=none) :
  Gr H α (upd H p (.dK vs)) (α ++ [p])/\Abs K (upd H p (.dK vs)) (α ++ [p]) (L++[.dic kvs])/\RepU K (upd H p (.dK vs)) (α ++ [p]) (.ref L.length) (.ref p):=by
 have g:Gr H α (upd H p (.dK vs)) (α ++ [p]):=⟨⟨[p],rfl⟩,.new hp _⟩
 obtain ⟨A',_⟩:=A.new (o:=.dK vs) (u:=.dic kvs) hp ⟨vs,upd_same,(r.mono g).1,(r.mono g).2⟩
 refine ⟨g,A',?_⟩
 unfold RepU
 exact ⟨p,by rw[<- A.len];simp,rfl⟩
theorem Ahw:Qz K (Aki K) Oz:=by
 intro H α L us xs z L' Q A r e q
 unfold Oz at e
 split at e
 ·obtain ⟨x,rfl,rx⟩:=r.one
  split at e
  ·rename_i kvs hd
   cases e
   obtain ⟨a,vs,rfl,ea,ha,rk⟩:=Ph A hd rx
   refine .inr ⟨a,vs,rfl,ha,fun p hp=>?_⟩
   obtain ⟨g2,A2,r3⟩:=A.dict rk hp
   exact q _ _ _ g2 A2 r3
  ·obtain ⟨l,hl,e⟩:=aB.mp e
   obtain ⟨kvs,hk,e⟩:=aB.mp e
   split at e
   ·rename_i hlen
    cases e
    obtain ⟨a,ys,rfl,sq,r2⟩:=Hw A hl rx
    obtain ⟨vs,pv,rk⟩:=Xf r2 hk
    refine .inl ⟨a,ys,vs,rfl,sq,pv,by rw[<- rk.len];exact hlen,fun p hp=>?_⟩
    obtain ⟨g2,A2,r3⟩:=A.dict (U7 rk .nil) hp
    exact q _ _ _ g2 A2 r3
   ·cases e
 ·cases e
end MR
namespace UL
open PySem PySem.Spec PyProof.Rows
variable {items:Array aJ}
section
variable {prog:cT}{w:eO}{A:eS}{E:aJ->aN->Prop}{s:aN}
theorem Vm{it l:Addr}(hne:l≠it):∀ (n i:Nat) (s:aN) (Q:List aJ->aN->Prop),s.heap.IsListIter it l i->s.heap.IsList l items->i+n<=items.size ->
  (∀ h',h'.IsListIter it l (i+n)->jW it s.heap h'->Q ((items.toList.drop i).take n) { s with heap:=h' })->wpAny (model prog w) A (draw (.ref it) n) Q E s
 | 0,i,s,Q,hit,_,_,hQ=>by
  show wpAny _ _ (pure []) Q E s
  exact aM (by simpa using hQ s.heap hit (jW.refl ..))
 | n+1,i,s,Q,hit,ht,hle,hQ=>by
  have hlt:i < items.size:=by omega
  show wpAny _ _ (pyNext (.ref it) >>= _) Q E s
  refine aD (jY hit ht (x:=items[i]) (by simp[hlt]) fun h₁ hit₁ hs₁=>?_)
  refine aD (cZ (Vm hne n (i+1) _ _ hit₁ (ht.extBut hs₁.extBut hne) (by omega) fun h₂ hit₂ hs₂=>aM ?_))
  have hd:items.toList.drop i=items[i]::items.toList.drop (i+1):=by simp[hV,hlt]
  have:=hQ h₂ (by rw[show i+(n+1)=i+1+n by omega];exact hit₂) (hs₁.trans hs₂)
  rw[hd,List.take_succ_cons] at this
  exact this
theorem Qe{t:Addr}{Q:List aJ->aN->Prop}(hh:A.handled=none)(ht:s.heap.IsList t items)
  (hQ:∀ h',kU s.heap.objs.size s.heap h'->Q items.toList { s with heap:=h' }):wpAny (model prog w) A (unpackItems (.ref t) items.size none) Q E s:=by
 have hlt:t≠s.heap.objs.size:=by obtain ⟨o,ho,_⟩:=ht;exact bV (aV ho)
 have ty:s.TypeIs (.ref t) "list" := by obtain ⟨o,ho,hc,_⟩:=ht;exact ⟨o,ho,hc⟩
 unfold unpackItems
 refine aD ?_
 ·unfold notIterableAtAll
  refine aD (wpAny_specialOf ty F.slot_list_iter.lookup ?_)
  refine aM ?_
  simp only[bX,if_false]
  refine aD (cZ (iV ht ?_))
  refine aD (cZ (Vm hlt items.size 0 _ _ ⟨_,bE _ rfl,rfl,rfl⟩ (ht.push _) (by omega) fun h₁ hit₁ hs₁=>?_))
  have hall:List.take items.size (List.drop 0 items.toList)=items.toList:=by
   rw[mG];exact eF (by simp)
  rw[hall]
  rw[if_neg (by simp)]
  have ht₁:h₁.IsList t items:=(ht.push _).extBut hs₁.extBut hlt
  refine aD (cZ (kI hh hit₁ ht₁ (by simp) fun h₂ he₂=>?_))
  simp only[Option.isSome_none,bX,if_false]
  refine aM (hQ h₂ fun b o hb e=>he₂ b o hb (hs₁.extBut b o hb (aE _ e)))
theorem assign_Tuple_list{env:Env}{elts:List Expr}{x1}{pos:Pos}{t:Addr}{Q:Unit->aN->Prop}(hh:A.handled=none)(ht:s.heap.IsList t items)
  (hn:(assignEach elts env).length=items.size) (hstar:(assignEach elts env).findIdx? (·.1)=none)
  (h:∀ h',kU s.heap.objs.size s.heap h'->wpAny (model prog w) A (assignInOrder ((assignEach elts env).map (·.2)) items.toList) Q E { s with heap:=h' }) :
  wpAny (model prog w) A (assign (.Tuple elts x1 pos) env (.ref t)) Q E s:=by
 rw[assign_Tuple]
 refine aD (kQ ?_)
 unfold unpack
 rw[hn,hstar]
 exact aD (cZ (Qe hh ht h))
end
end UL
namespace MR
open PySem PySem.Spec PyProof.Rows PySem.Calls L2
section
variable {X:Cx}{es:List Expr}{pos:Pos}
noncomputable def Api(K:aK)(n:Nat)(t:TGs):TG:=fun v σ H Q=>∃ a xs,v = .ref a/\SqL K H a xs/\xs.length=n/\t xs σ H Q
theorem Aji{k:Nat}{t:TGs}{n:Nat}(hc:X.calm=true)(h:PGs X es t)
  (hn:(assignEach es X.env).length=n:=by rfl) (hst:(assignEach es X.env).findIdx? (·.1)=none:=by rfl):PG X (.Tuple es k pos) (Api X.K n t):=by
 intro pins s σ H v u Q I r hw
 obtain ⟨a,xs,e1,hq,hl,hw⟩:=hw
 subst e1
 cases r
 obtain ⟨its,rv,ht,hz⟩:=I.list hq
 refine UL.assign_Tuple_list (I.ok.hd hc) ht.isList (by simp[hn,<- hl,rv.length]) hst fun h' hx=>?_
 have I1:L2.Inv X pins σ H { s with heap:=h' }:=I.kept (t':=s.toks) fun b o e=>hx b o (bV (aV e)) e
 exact h pins _ σ H xs _ Q I1 (by simpa using rv) hw
noncomputable def Um(n:Nat)(g:FGs):FG:=fun u δ L=>match u with
 | .ref m=>(A7 L m).bind fun us=>if us.length=n then g us δ L else none
 | u=>MR.gTup n g u δ L
theorem Agp{k:Nat}{g:FGs}{n:Nat}(hc:X.calm=true)(h:Ag5 X es g)(hn:(assignEach es X.env).length=n:=by rfl)(hst:(assignEach es X.env).findIdx? (·.1)=none:=by rfl):PGF X (.Tuple es k pos) (Um n g):=by
 intro pins s σ H v u Q I r hw
 obtain ⟨α,δ,L,w,A,S,rw,δ',L',e,q⟩:=hw
 cases w with
 | ref m=>
  unfold Um at e
  simp only at e
  obtain ⟨us,hus,e⟩:=aB.mp e
  split at e
  ·rename_i hl
   obtain ⟨a,ys,rfl,sq,r2⟩:=Hw A hus rw
   exact Aji hc h hn hst pins s σ H _ u Q I r ⟨a,ys,rfl,sq,by rw[<- r2.length];exact hl,α,δ,L,us,A,S,r2,δ',L',e,q⟩
  ·cases e
 | tup us=>exact Hs (k:=k) (pos:=pos) hc h hn hst pins s σ H v u Q I r ⟨α,δ,L,.tup us,A,S,rw,δ',L',e,q⟩
 | _=>simp[Um,MR.gTup] at e
end
end MR
namespace ZT
open PySem PySem.Spec PyProof.Rows
open Sem (wp)
theorem Amf (l1 l2 : Addr) (xs ys : Array aJ) : Meets (iP.«zip.__new__» ⟨[.type "zip", .ref l1, .ref l2], []⟩) (fun _ R s => s.heap.IsList l1 xs /\ s.heap.IsTuple l2 ys /\
   R (.ok (.ret (.ref (zh4 "list_iterator" "tuple_iterator" s.heap l1 l2).objs.size))) { s with heap:=zh5 "list_iterator" "tuple_iterator" s.heap l1 l2 }):=
 .of_wp fun prog w A R s h=>by
  obtain ⟨hp,g,d,tk,os⟩:=s
  obtain ⟨t1,t2,h⟩:=h
  have hsub:=sub_zip
  have T1:Heap.IsList (oV ⟨hp,g,d,tk,os⟩) l1 xs:=t1
  have T2:qL (oV ⟨hp.push { cls:=.type "list_iterator",data:=.fields #[.ref l1,.int 0 0] },g,d,tk,os⟩) l2 ys:=qM t2 _
  wp_walk using iV T1,iO T2
  exact ⟨_,rfl,h⟩
section
variable {prog:cT}{w:eO}{A:eS}{E:aJ->aN->Prop}{s:aN}
theorem Aj2{l1 l2:Addr}{xs ys:Array aJ}{Q:aJ->aN->Prop}(t1:s.heap.IsList l1 xs)(t2:s.heap.IsTuple l2 ys)
  (h:∀ h',lL h' (s.heap.objs.size+4) (s.heap.objs.size+2) (s.heap.objs.size+3) .none->gO h' (s.heap.objs.size+2) (.ref s.heap.objs.size) (.ref (s.heap.objs.size+1)) ->
   gO h' (s.heap.objs.size+3) .none .none->ItK true h' s.heap.objs.size l1 0->ItK false h' (s.heap.objs.size+1) l2 0->(∀ c o,s.heap.get? c=some o->h'.get? c=some o)->Q (.ref (s.heap.objs.size+4)) { s with heap:=h' }) :
  wpAny (model prog w) A (call (.type "zip") [.ref l1,.ref l2]) Q E s:=by
 refine callType_new F.called_zip (by decide) (rK _ _) (sD _ _) (fun obj=>oW obj _ _) sE (Amf l1 l2 xs ys) ⟨t1,t2,?_⟩
 have z1:(zh1 "list_iterator" s.heap l1).objs.size=s.heap.objs.size+1:=dY ..
 have z2:(zh2 "list_iterator" "tuple_iterator" s.heap l1 l2).objs.size=s.heap.objs.size+2:=by rw[dY,z1]
 have z3:(zh3 "list_iterator" "tuple_iterator" s.heap l1 l2).objs.size=s.heap.objs.size+3:=by rw[dY,z2]
 have z4:(zh4 "list_iterator" "tuple_iterator" s.heap l1 l2).objs.size=s.heap.objs.size+4:=by rw[dY,z3]
 have q5:(zh5 "list_iterator" "tuple_iterator" s.heap l1 l2).get? (zh4 "list_iterator" "tuple_iterator" s.heap l1 l2).objs.size=some _:=bE _ rfl
 have q4:(zh5 "list_iterator" "tuple_iterator" s.heap l1 l2).get? (zh3 "list_iterator" "tuple_iterator" s.heap l1 l2).objs.size=some _:=aE _ (bE _ rfl)
 have q3:(zh5 "list_iterator" "tuple_iterator" s.heap l1 l2).get? (zh2 "list_iterator" "tuple_iterator" s.heap l1 l2).objs.size=some _:=aE _ (aE _ (bE _ rfl))
 have q2:(zh5 "list_iterator" "tuple_iterator" s.heap l1 l2).get? (zh1 "list_iterator" s.heap l1).objs.size=some _:=aE _ (aE _ (aE _ (bE _ rfl)))
 have q1:(zh5 "list_iterator" "tuple_iterator" s.heap l1 l2).get? s.heap.objs.size=some _:=aE _ (aE _ (aE _ (aE _ (bE _ rfl))))
 show _/\_
 rw[z2,z3,z4] at q5;rw[z1,z2] at q3;rw[z3] at q4
 rw[z1] at q2;rw[z4]
 exact ⟨⟨_,q5,rfl⟩,h _ q5 q3 q4 ⟨_,q1,rfl,rfl⟩ ⟨_,q2,rfl,rfl⟩ fun c o q=>aE _ (aE _ (aE _ (aE _ (aE _ q))))⟩
end
end ZT
namespace MR
open PySem PySem.Spec PyProof.Rows L2
section
variable {X:Cx}{elts:List Expr}{x1:Nat}{tpos:Pos}
noncomputable def Apm(K:aK)(ta:TA):TI:=fun σ H R=>ta σ H fun vs H1=>∃ a b xs ys,vs=[.ref a,.ref b]/\SqL K H1 a xs/\SqT K H1 b ys/\R (Agq true false K a b) H1
theorem Akc{a b:Expr}{ta:TA}{p pos:Pos}(hg:Gl X "zip")(hm:X.mg "zip" = none)(ha:PA X [a,b] ta)(hs:bS [a,b] X.env=(false,eval a X.env)::bS [b] X.env:=by rfl)(hpl:(backTo pos (bS [b] X.env)).any (·.1)=false:=by rfl):PI X (.Tuple elts x1 tpos) (.Call (.Name "zip" p) [a,b] [] pos) (Apm X.K ta):=by
 intro pins s σ H R I h
 refine Call_ (Jm I hg hm X5 (eP (thn (ha pos pins s σ H _ I h) fun us s1 ⟨vs,H1,I1,r1,q1⟩=>?_) hs hpl))
 obtain ⟨l1,l2,xs,ys,rfl,sq1,sq2,q⟩:=q1
 obtain ⟨u,u',rfl,ru,ru'⟩:=Afh r1
 cases ru;cases ru'
 obtain ⟨its1,hv1,pl1,hz1⟩:=I1.list sq1
 obtain ⟨its2,hv2,pl2,hz2⟩:=I1.tuple sq2
 have lt1:l1 < s1.heap.objs.size:=by obtain ⟨o,_,e,_⟩:=pl1;exact aV e
 have lt2:l2 < s1.heap.objs.size:=by obtain ⟨o,e,_⟩:=pl2;exact aV e
 refine ZT.Aj2 pl1.isList pl2 fun h' o1 o2 o3 o4 o5 o7=>?_
 have I2:L2.Inv X pins σ H1 { s1 with heap:=h' }:=I1.kept (t':=s1.toks) o7
 refine nL o1 ⟨_,_,_,_,H1,rfl,I2,Ve (b1:=true) (b2:=false) l1 l2 _ _ _ _ _ (Vf _ _ _ lt1 lt2),⟨o1,o2,⟨_,_,o3⟩,o4,o5⟩,fun b hb=>?_,q⟩
 have hb':s1.heap.objs.size<=b:=by
  simp only[bH,dE,or_false] at hb
  rcases hb with rfl | rfl | rfl | rfl | rfl <;> first | exact rL _ _ | exact aQ _
 exact L2.Inv.fpOk I1 hb' (I1.hok.fresh hb')
theorem Afn{K:aK}{H:Hp}{α:List Addr}{n:Nat}{a b:Addr}{ws:List U}{ys:List V}(ea:α[n]? = some a)(sb:SqT K H b ys)(rb:RepL K H α ws ys):Sl K (Agq true false K a b) (.zipL n ws) H α:=by
 intro H2 α2 L2 g A2 k
 have ea2:=g.at ea
 have mv:∃ zs2,SqT K H2 b zs2/\RepL K H2 α2 ws zs2:=by
  have m:=(show RepU K H α (.tup ws) (.ref b) by unfold RepU;exact ⟨b,ys,rfl,sb,rb⟩).mono g
  unfold RepU at m
  obtain ⟨c',zs2,e,s2,r2⟩:=m
  cases e
  exact ⟨zs2,s2,r2⟩
 obtain ⟨ys2,sb2,rb2⟩:=mv
 refine ⟨fun u eu=>?_,fun eu=>?_⟩
 ·obtain ⟨us,hw,eu⟩:=aH.mp eu
  obtain ⟨xs2,sa2,ra2⟩:=La A2 ea2 hw
  cases h1:us[k]? with
  | none=>rw[h1] at eu;simp[Lr] at eu
  | some u1=>
   cases h2:ws[k]? with
   | none=>rw[h1,h2] at eu;simp[Lr] at eu
   | some u2=>
    rw[h1,h2] at eu
    simp[Lr] at eu
    subst eu
    obtain ⟨x,hx,rx⟩:=ra2.get h1
    obtain ⟨y,hy,ry⟩:=rb2.get h2
    refine ⟨⟨xs2,ys2,x,y,sa2,sb2,hx,hy⟩,?_⟩
    rintro z H3 ⟨p,v,v',hp,rfl,rfl,hy1,hy2⟩
    have e1:=hy1 xs2 sa2
    have e2:=hy2 ys2 sb2
    rw[hx] at e1;cases e1
    rw[hy] at e2;cases e2
    exact A2.tup (.cons rx (.cons ry .nil)) hp
 ·obtain ⟨us,hw,eu⟩:=aH.mp eu
  obtain ⟨xs2,sa2,ra2⟩:=La A2 ea2 hw
  refine ⟨xs2,ys2,sa2,sb2,?_⟩
  cases h1:us[k]? with
  | none=>left;rw[<- ra2.length];exact cV.mp h1
  | some u1=>
   cases h2:ws[k]? with
   | none=>right;rw[<- rb2.length];exact cV.mp h2
   | some u2=>rw[h1,h2] at eu;simp[Lr] at eu
noncomputable def Qr(g:FA):FI:=fun δ L=>(g δ L).bind fun p=>match p.1 with
 | [.tup us,.tup ws]=>some (.seq (Er us ws),p.2)
 | [.ref n,.tup ws]=>(A7 p.2 n).map fun _=>(.zipL n ws,p.2)
 | _=>none
theorem Xr{a b:Expr}{g:FA}{p pos:Pos}(hg:Gl X "zip")(hm:X.mg "zip" = none)(ha:PAF X [a,b] g)(hs:bS [a,b] X.env=(false,eval a X.env)::bS [b] X.env:=by rfl)(hpl:(backTo pos (bS [b] X.env)).any (·.1)=false:=by rfl):PIF X (.Tuple elts x1 tpos) (.Call (.Name "zip" p) [a,b] [] pos) (Qr g):=by
 refine PI.imp (PI.or (Acq hg hm ha hs hpl) (Akc hg hm ha hs hpl)) ?_
 rintro σ H R ⟨α,δ,L,A,S,i,L3,e,q⟩
 obtain ⟨⟨us,L1⟩,e1,ee⟩:=aB.mp e
 simp only at ee
 split at ee
 ·cases ee
  refine .inl ⟨α,δ,L,A,S,_,_,e1,fun xs H1 α1 g1 A1 r1=>?_⟩
  obtain ⟨x,y,rfl,rx,ry⟩:=r1.two
  unfold RepU at rx ry
  obtain ⟨a',ys,rfl,sq,r2⟩:=rx
  obtain ⟨b',ys',rfl,sq',r2'⟩:=ry
  exact ⟨a',b',ys,ys',rfl,sq,sq',q _ H1 α1 g1 A1 (Xa sq sq' r2 r2')⟩
 ·obtain ⟨l,hl,e3⟩:=aH.mp ee
  cases e3
  refine .inr ⟨α,δ,L,A,S,_,_,e1,fun xs H1 α1 g1 A1 r1=>?_⟩
  obtain ⟨x,y,rfl,rx,ry⟩:=r1.two
  unfold RepU at ry
  obtain ⟨b',ys',rfl,sq',r2'⟩:=ry
  obtain ⟨a',ys,rfl,sq,r2⟩:=Hw A1 hl rx
  obtain ⟨a2,ea,ha2⟩:=rx.ref_of A1
  cases ha2
  exact ⟨a',b',ys,ys',rfl,sq,sq',q _ H1 α1 g1 A1 (Afn ea sq' r2')⟩
 ·cases ee
end
end MR
namespace Lw
open PySem L2 MR
noncomputable def Vi:FS:=(Ar (B8 (Ax (f2 A8 (fSl Hz (Aa 0) (Bo (fC (.int 1))) A0) (fSl Hz (Aa 1) (Bo (fC (.int 1))) A0))) (Cf (fC (.bl false))) Bl) (Cf (Hc (f2 Vg (f2 Ak (Aa 0) (fC (.int 1))) (f2 Ak (Aa 1) (fC (.int 1)))) (f2 Vg (f2 Ak (Aa 0) (fC (.int 2))) (f2 Ak (Aa 1) (fC (.int 2)))))))
noncomputable def Gj:FN:=fnU 2 2 Vi
noncomputable def Lv:FE:=(C0 (Ac (f2 Ak (Aa 0) (fC (.int 0))) (Ac (Aa 0) Af)))
noncomputable def Wq:FS:=(Cf (Ap Oz (Ac (Bu [none] (Bb (Aa 0)) (gN 0) none Lv) Af)))
noncomputable def Fj:FN:=fnU 1 1 Wq
noncomputable def I0:FS:=(B8 (X3 (Ny (Ay 2 Gj (Ac (Iy (Aa 2) (Aa 5)) (Ac (Iy (Aa 2) (Aa 6)) Af))))) (Cf (fC (.bl false))) Bl)
noncomputable def E5:FS:=(Fx (Na (Ac (Aa 4) (Ac (fSl Cs (Aa 4) (Bo (fC (.int 1))) A0) Af))) (MR.gTup 2 (MR.gCons (gN 5) (MR.gCons (gN 6) MR.gNil))) I0)
noncomputable def Gu:FS:=(Di (Ck "list" Oy (Aa 3) (Ac (Aa 4) Af)))
noncomputable def Lh:FS:=(Ar (Av (Ay 1 Fj (Ac (Aa 0) Af)) (gN 2)) (Ar (Av (Cu Af) (gN 3)) (Ar (Fx (Bb (Aa 1)) (gN 4) Gu) (Ar (B8 (Ax (f2 B2 (Ap Cd (Ac (Aa 3) Af)) (Ap Cd (Ac (Aa 2) Af)))) (Cf (fC (.bl false))) Bl) (Ar (Fx (Bb (Aa 1)) (gN 4) E5) (Cf (fC (.bl true))))))))
noncomputable def G6:FN:=fnU 7 2 Lh
noncomputable def Jb:FS:=(B8 (Ny (Ay 2 Gj (Ac (Iy (Aa 2) (Aa 3)) (Ac (Iy (Aa 2) (Aa 4)) Af)))) (Cf (fC (.bl false))) Bl)
noncomputable def E7:FS:=(Fx (Bb (Aa 1)) (gN 4) Jb)
noncomputable def Gd:FE:=(Aa 0)
noncomputable def Gb:FT:=(Ax (f2 Nn (Aa 0) (Aa 1)))
noncomputable def Lc:FS:=(Ar (Av (Ay 1 Fj (Ac (Aa 0) Af)) (gN 2)) (Ar (B8 (fOr (Ax (f2 B2 (Nr (Ac (Aa 1) Af)) (Ap Aw (Ac (Aa 1) Af)))) (Ax (f2 B2 (Bu [none,some 2] (Bb (Aa 1)) (gN 0) (some Gb) Gd) (Cu Af)))) (Cf (fC (.bl false))) Bl) (Ar (Fx (Bb (Aa 1)) (gN 3) E7) (Cf (fC (.bl true))))))
noncomputable def Gz:FN:=fnU 5 2 Lc
noncomputable def Ei:FE:=(f2 Vg (Aa 0) (Aa 1))
noncomputable def Hb:FS:=(Cf (Hc (f2 B2 (Aa 0) (Aa 1)) (Ap Kw (Ac (Bu [none,none] (Na (Ac (Aa 0) (Ac (Aa 1) Af))) (MR.gTup 2 (MR.gCons (gN 0) (MR.gCons (gN 1) MR.gNil))) none Ei) Af))))
noncomputable def Ci:FN:=fnU 2 2 Hb
noncomputable def Oi:FS:=(Cf (C0 (Ac (f2 Ak (Aa 0) (fC (.int 1))) (Ac (f2 Ak (Aa 0) (fC (.int 2))) Af))))
noncomputable def Bn:FN:=fnU 1 1 Oi
noncomputable def Dl:FS:=(B8 (Ny (Ay 2 Ci (Ac (Ay 1 Bn (Ac (f2 Ak (f2 Ak (Aa 3) (J7 (fC (.int 1)))) (fC (.int 0))) Af)) (Ac (Ay 1 Bn (Ac (Aa 1) Af)) Af)))) (Cf (Aa 2)) Bl)
noncomputable def Gh:FS:=(Ar (Fx (Uo (Ac (Aa 0) Af)) (MR.gTup 2 (MR.gCons (gN 2) (MR.gCons (gN 3) MR.gNil))) Dl) (Cf (Ap Aw (Ac (Aa 0) Af))))
noncomputable def Eb:FN:=fnU 4 2 Gh
noncomputable def Eh:FS:=(Ar (Av (Ay 2 Eb (Ac (Aa 1) (Ac (Aa 2) Af))) (gN 3)) (Ar (Av (fIf (Ax (f2 Qk (Aa 3) (fC (.int 0)))) (f2 Ak (f2 Ak (f2 Ak (Aa 1) (f2 Gq (Aa 3) (fC (.int 1)))) (J7 (fC (.int 1)))) (fC (.int 1))) (C0 Af)) (gN 4)) (Ar (B8 (Ax (f2 A8 (Aa 3) (Ap Aw (Ac (Aa 1) Af)))) (Di (Ck "list" C5 (Aa 1) (Ac (Cu Af) Af))) Bl) (Di (Ck "list" C5 (f2 Ak (Aa 1) (Aa 3)) (Ac (C0 (Ac (Aa 2) (Ac (f2 Bq (Aa 4) (C0 (Ac (f2 Ak (Aa 2) (fC (.int 0))) Af))) Af))) Af))))))
noncomputable def Oa:FS:=(Ar (Av (Cu Af) (gN 1)) (Ar (Fx (Bb (Ni Bn (Aa 0))) (gN 2) Eh) (Cf (Aa 1))))
noncomputable def Ga:FN:=fnU 5 1 Oa
noncomputable def Kd:FE:=(f2 Ak (Aa 0) (fC (.int 0)))
noncomputable def Tz:FS:=(Cf (Ap Bj (Ac (Bu [none,none] (Bb (Aa 0)) (MR.gTup 2 (MR.gCons (gN 0) (MR.gCons (gN 1) MR.gNil))) none Kd) Af)))
noncomputable def Jy:FN:=fnU 1 1 Tz
noncomputable def Oc:FE:=(Ay 1 Jy (Ac (Aa 0) Af))
noncomputable def Aaf:FS:=(Cf (Ap Bj (Ac (Bu [none] (Bb (Ay 1 Ga (Ac (Aa 0) Af))) (gN 0) none Oc) Af)))
noncomputable def Kz:FN:=fnU 1 1 Aaf
noncomputable def N2:FE:=(f2 Ak (Aa 0) (fC (.int 0)))
noncomputable def N8:FT:=(Ax (f2 (Mw false) (f2 Ak (Aa 0) (fC (.int 0))) (Aa 1)))
noncomputable def Lo:FS:=(Ar (Av (Ay 1 Ga (Ac (Aa 0) Af)) (gN 1)) (Ar (B8 (X3 (Ny (Aa 1))) (Cf (C0 Af)) Bl) (Ar (Av (f2 Ak (f2 Ak (f2 Ak (Aa 1) (J7 (fC (.int 1)))) (J7 (fC (.int 1)))) (fC (.int 1))) (gN 2)) (Cf (Ap Bj (Ac (Bu [none,some 2] (Bb (Aa 0)) (gN 0) (some N8) N2) Af))))))
noncomputable def Jh:FN:=fnU 3 1 Lo
noncomputable def Ls:FE:=(Aa 0)
noncomputable def Lp:FT:=(Ny (Ay 2 Ci (Ac (Aa 1) (Ac (Aa 0) Af))))
noncomputable def V9:FS:=(Cf (Ap Aw (Ac (Bu [none,some 1] (Bb (Aa 0)) (gN 0) (some Lp) Ls) Af)))
noncomputable def Lf:FN:=fnU 2 2 V9
noncomputable def Lz:FE:=(Ay 2 Lf (Ac (Aa 1) (Ac (Aa 0) Af)))
noncomputable def Lu:FE:=(Ay 1 Bn (Ac (Aa 0) Af))
noncomputable def Wl:FS:=(Ar (Av (Bu [none] (Bb (Aa 0)) (gN 0) none Lu) (gN 1)) (Cf (Ap Bj (Ac (Bu [none,some 1] (Bb (Aa 1)) (gN 0) none Lz) Af))))
noncomputable def Kx:FN:=fnU 2 1 Wl
noncomputable def M8:FE:=(Aa 0)
noncomputable def Nb:FT:=(Ax (f2 Qk (Aa 1) (fC (.int 0))))
noncomputable def Md:FE:=(f2 Ak (Aa 0) (fC (.int 0)))
noncomputable def Jf:FE:=(Aa 0)
noncomputable def Jc:FT:=(Ax (f2 A8 (Aa 1) (fC (.int 0))))
noncomputable def E8:FT:=(Ny (Aa 2))
noncomputable def Hr:FS:=(Ar (Av (Ay 1 Kx (Ac (Aa 2) Af)) (gN 3)) (Ar (Av (Bu [none,none] (Qr (Ac (Aa 2) (Ac (Aa 3) Af))) (MR.gTup 2 (MR.gCons (gN 0) (MR.gCons (gN 1) MR.gNil))) (some Jc) Jf) (gN 4)) (Ar (Di (Ck "list" C5 (Aa 1) (Ac (Ap Bj (Ac (Bu [none] (Bb (S7 Bn (Aa 4))) (gN 0) none Md) Af)) Af))) (Av (Bu [none,none] (Qr (Ac (Aa 2) (Ac (Aa 3) Af))) (MR.gTup 2 (MR.gCons (gN 0) (MR.gCons (gN 1) MR.gNil))) (some Nb) M8) (gN 2)))))
noncomputable def Mf:FS:=(Ar (Av (Cu Af) (gN 1)) (Ar (Av (Aa 0) (gN 2)) (Ar (H9 E8 Hr 100000) (Cf (Ap Bj (Ac (Aa 1) Af))))))
noncomputable def E4:FN:=fnU 5 1 Mf
noncomputable def Jx:FE:=(C0 (Ac (f2 Ak (Aa 0) (fC (.int 0))) Af))
noncomputable def Rt:FS:=(Ar (Av (Ay 1 Kz (Ac (Aa 1) Af)) (gN 2)) (Ar (Av (Ay 1 Jh (Ac (Aa 1) Af)) (gN 3)) (Ar (Av (Ay 2 Am (Ac (Aa 0) (Ac (fC (.int 6)) Af))) (gN 4)) (Ar (B8 (Ax (f2 A8 (Aa 4) (fC (.int 0)))) (Av (Ap Bj (Ac (Bu [none] (Bb (Aa 1)) (gN 0) none Jx) Af)) (gN 2)) Bl) (Ar (B8 (Jp (Ax (f2 A8 (Aa 4) (fC (.int 1)))) (Ax (f2 B2 (Aa 1) (C0 Af)))) (Ar (Av (Ay 1 E4 (Ac (Aa 1) Af)) (gN 5)) (Av (f2 Ak (Aa 5) (Ay 2 Am (Ac (Aa 0) (Ac (Ap Aw (Ac (Aa 5) Af)) Af)))) (gN 3))) Bl) (Cf (Cu (Ac (Aa 2) (Ac (Aa 3) Af)))))))))
noncomputable def Mv:FN:=fnU 6 2 Rt
noncomputable def Ha:FS:=(Ar (Av (Ay 2 Ea (Ac (Aa 0) (Ac (Aa 2) Af))) (gN 6)) (Ar (Av (Ay 2 Ea (Ac (Aa 0) (Ac (Aa 2) Af))) (gN 7)) (Ar (B8 (Ax (f2 A8 (Aa 3) (fC (.int 1)))) (Av (f2 Bc (Aa 6) (f2 Bx (Ay 2 Am (Ac (Aa 0) (Ac (fC (.int 3)) Af))) (Ap K6 (Ac (f2 S6 (Ap K4 (Ac (Aa 6) Af)) (f2 H0 (fC (.int 10)) (fC (.int 9)))) Af)))) (gN 7)) Bl) (Ar (B8 (Ax (f2 A8 (Aa 3) (fC (.int 2)))) (Av (f2 Gq (fC (.int 0)) (Aa 6)) (gN 7)) Bl) (Ar (B8 (Jp (Ax (f2 B2 (Aa 4) (Cu Af))) (Ax (f2 A8 (Ay 2 Am (Ac (Aa 0) (Ac (fC (.int 5)) Af))) (fC (.int 0))))) (Av (fSl Hz (f2 Ak (Aa 4) (Ay 2 Am (Ac (Aa 0) (Ac (Ap Aw (Ac (Aa 4) Af)) Af)))) (Bo (fC (.int 1))) A0) (MR.gTup 2 (MR.gCons (gN 6) (MR.gCons (gN 7) MR.gNil)))) Bl) (Ar (B8 (Jp (Ax (f2 B2 (Aa 4) (Cu Af))) (Ax (f2 A8 (Ay 2 Am (Ac (Aa 0) (Ac (fC (.int 5)) Af))) (fC (.int 0))))) (Av (f2 Ak (f2 Ak (Aa 4) (Ay 2 Am (Ac (Aa 0) (Ac (Ap Aw (Ac (Aa 4) Af)) Af)))) (fC (.int 1))) (gN 6)) Bl) (Di (Ck "list" C5 (Aa 4) (Ac (C0 (Ac (Aa 5) (Ac (Aa 6) (Ac (Aa 7) Af)))) Af)))))))))
noncomputable def S9:FS:=(Ar (Av (Ay 2 Am (Ac (Aa 0) (Ac (fC (.int 3)) Af))) (gN 2)) (Ar (Av (Ay 2 Am (Ac (Aa 0) (Ac (fC (.int 4)) Af))) (gN 3)) (Ar (Av (Cu Af) (gN 4)) (Ar (Fx (Bb (Ay 2 Ir (Ac (Aa 0) (Ac (Ay 2 Am (Ac (Aa 0) (Ac (f2 Bc (Aa 1) (fC (.int 1))) Af))) Af)))) (gN 5) Ha) (Cf (Ap Bj (Ac (Aa 4) Af)))))))
noncomputable def Ll:FN:=fnU 8 2 S9
noncomputable def Mo:FE:=(Aa 0)
noncomputable def Mz:FT:=(Ax (f2 (Mw true) (Aa 0) (Aa 1)))
noncomputable def Mq:FE:=(f2 Ak (Aa 0) (fC (.int 0)))
noncomputable def Ml:FS:=(Ar (Av (Bu [none] (Bb (Aa 1)) (gN 0) none Mq) (gN 2)) (Ar (Av (f2 Ak (f2 Bc (Aa 2) (Cu (Ac (fC (.str "node")) Af))) (Ay 2 Am (Ac (Aa 0) (Ac (f2 Bc (Ap Aw (Ac (Aa 2) Af)) (fC (.int 1))) Af)))) (gN 3)) (Ar (Av (Cu (Ac (f2 Bc (fSl Dr (Aa 3) A0 (Bo (J7 (fC (.int 1))))) (fC (.str "w"))) (Ac (fSl Dr (f2 Bc (Aa 3) (fC (.str "a"))) A0 (Bo (fC (.int 8)))) (Ac (f2 Bc (fSl Dr (Aa 3) (Bo (fC (.int 1))) A0) (fC (.str "z"))) (Ac (fC (.str "w")) (Ac (fC (.str "wwwwwwww")) Af)))))) (gN 4)) (Ar (Av (Bu [none,some 2] (Bb (Aa 4)) (gN 0) (some Mz) Mo) (gN 5)) (Cf (f2 Ak (Aa 5) (Ay 2 Am (Ac (Aa 0) (Ac (Ap Aw (Ac (Aa 5) Af)) Af)))))))))
noncomputable def Cc:FN:=fnU 6 2 Ml
noncomputable def Cy:FE:=(Ap Bj (Ac (Aa 0) Af))
noncomputable def Dv:FE:=(Ap Nv (Ac (Aa 0) Af))
noncomputable def Fo:FS:=(Ar (Av (Bu [none] (Bb (Aa 2)) (gN 0) none Dv) (gN 3)) (Ar (Av (Ay 2 Am (Ac (Aa 0) (Ac (fC (.int 9)) Af))) (gN 4)) (Ar (B8 (Ax (f2 A8 (Aa 3) (Cu Af))) (Cf (f2 Ak (Cu (Ac (C0 Af) (Ac (C0 (Ac (C0 Af) Af)) (Ac (C0 (Ac (C0 (Ac (Ay 2 Cc (Ac (Aa 0) (Ac (Aa 1) Af))) Af)) Af)) Af)))) (Ay 2 Am (Ac (Aa 0) (Ac (fC (.int 3)) Af))))) Bl) (Ar (Av (Ay 2 Am (Ac (Aa 0) (Ac (Ap Aw (Ac (Aa 3) Af)) Af))) (gN 5)) (Ar (Av (Ay 2 Am (Ac (Aa 0) (Ac (Ap Aw (Ac (Aa 3) Af)) Af))) (gN 6)) (Ar (Av (Ay 2 Am (Ac (Aa 0) (Ac (f2 Bq (Ap Aw (Ac (f2 Ak (Aa 3) (Aa 5)) Af)) (fC (.int 1))) Af))) (gN 7)) (Ar (B8 (Ax (f2 A8 (Aa 4) (fC (.int 0)))) (Av (f2 Bq (fSl Cs (f2 Ak (Aa 3) (Aa 5)) A0 (Bo (Aa 7))) (fSl Cs (f2 Ak (Aa 3) (Aa 5)) (Bo (f2 Bq (Aa 7) (fC (.int 1)))) A0)) (MR.gSub (Aa 3) (Aa 5))) Bl) (Ar (B8 (Ax (f2 A8 (Aa 4) (fC (.int 1)))) (Di (Ck "list" C4 (f2 Ak (Aa 3) (Aa 6)) (Ac (Ay 2 Am (Ac (Aa 0) (Ac (f2 Bq (Ap Aw (Ac (f2 Ak (Aa 3) (Aa 6)) Af)) (fC (.int 1))) Af))) (Ac (f2 Ak (f2 Ak (Aa 3) (Aa 5)) (fC (.int 0))) Af)))) Bl) (Ar (B8 (Ax (f2 A8 (Aa 4) (fC (.int 2)))) (Av (Ay 2 Cc (Ac (Aa 0) (Ac (Aa 1) Af))) (MR.gSub (f2 Ak (Aa 3) (Aa 5)) (J7 (fC (.int 1))))) Bl) (Ar (B8 (Ax (f2 A8 (Aa 4) (fC (.int 3)))) (Di (Ck "list" C4 (f2 Ak (Aa 3) (Aa 5)) (Ac (Aa 7) (Ac (Ay 2 Cc (Ac (Aa 0) (Ac (Aa 1) Af))) Af)))) Bl) (Ar (B8 (Ax (f2 A8 (Aa 4) (fC (.int 4)))) (Av (f2 Bq (f2 Ak (Aa 3) (Aa 6)) (Cu (Ac (Ck "list" O7 (f2 Ak (Aa 3) (Aa 5)) Af) Af))) (MR.gSub (Aa 3) (Aa 6))) Bl) (Ar (B8 (Ax (f2 A8 (Aa 4) (fC (.int 5)))) (Ar (Di (Ck "list" C5 (Aa 3) (Ac (fSl Cs (f2 Ak (Aa 3) (Aa 5)) (Bo (Aa 7)) A0) Af))) (Av (fSl Cs (f2 Ak (Aa 3) (Aa 5)) A0 (Bo (Aa 7))) (MR.gSub (Aa 3) (Aa 5)))) Bl) (Ar (B8 (Ax (f2 A8 (Aa 4) (fC (.int 6)))) (Av (W0 (f2 Ak (Aa 3) (Aa 5))) (MR.gSub (Aa 3) (Aa 5))) Bl) (Ar (B8 (Ax (f2 A8 (Aa 4) (fC (.int 7)))) (Di (Ck "list" C4 (Aa 3) (Ac (Aa 5) (Ac (Cu Af) Af)))) Bl) (Ar (B8 (Jp (Ax (f2 A8 (Aa 4) (fC (.int 8)))) (Ax (f2 B2 (Aa 5) (Aa 6)))) (Ar (Av (f2 Bq (f2 Ak (Aa 3) (Aa 5)) (f2 Ak (Aa 3) (Aa 6))) (MR.gSub (Aa 3) (Aa 5))) (Di (Ck "list" Jz (Aa 3) (Ac (Aa 6) Af)))) Bl) (Cf (Ap Bj (Ac (Bu [none] (Bb (Aa 3)) (gN 0) none Cy) Af))))))))))))))))))
noncomputable def Fb:FN:=fnU 8 3 Fo
noncomputable def Hf:FS:=(Ar (Av (Ap Nv (Ac (Aa 2) Af)) (gN 3)) (Ar (Av (Ay 2 Am (Ac (Aa 0) (Ac (fC (.int 6)) Af))) (gN 4)) (Ar (Av (Ay 2 Am (Ac (Aa 0) (Ac (f2 Bq (Ap Aw (Ac (Aa 3) Af)) (fC (.int 1))) Af))) (gN 5)) (Ar (B8 (Jp (Ax (f2 A8 (Aa 4) (fC (.int 0)))) (Ax (f2 B2 (Aa 1) (C0 Af)))) (Di (Ck "list" C4 (Aa 3) (Ac (Aa 5) (Ac (f2 Ak (f2 Ak (Aa 1) (Ay 2 Am (Ac (Aa 0) (Ac (Ap Aw (Ac (Aa 1) Af)) Af)))) (fC (.int 0))) Af)))) Bl) (Ar (B8 (Ax (f2 A8 (Aa 4) (fC (.int 1)))) (Av (f2 Bq (fSl Cs (Aa 3) A0 (Bo (Aa 5))) (fSl Cs (Aa 3) (Bo (f2 Bq (Aa 5) (fC (.int 1)))) A0)) (gN 3)) Bl) (Ar (B8 (Ax (f2 A8 (Aa 4) (fC (.int 2)))) (Di (Ck "list" C4 (Aa 3) (Ac (Aa 5) (Ac (Ay 2 Cc (Ac (Aa 0) (Ac (Aa 1) Af))) Af)))) Bl) (Ar (B8 (Jp (Ax (f2 A8 (Aa 4) (fC (.int 3)))) (Jp (Ax (f2 B2 (Aa 1) (C0 Af))) (Ax (f2 B2 (Aa 3) (Cu Af))))) (Av (f2 Ak (f2 Ak (Aa 1) (Ay 2 Am (Ac (Aa 0) (Ac (Ap Aw (Ac (Aa 1) Af)) Af)))) (fC (.int 0))) (MR.gSub (Aa 3) (f2 Gq (Aa 5) (fC (.int 1))))) Bl) (Ar (B8 (Ax (f2 A8 (Aa 4) (fC (.int 4)))) (Av (f2 Bq (fSl Cs (Aa 3) (Bo (Aa 5)) A0) (fSl Cs (Aa 3) A0 (Bo (Aa 5)))) (gN 3)) Bl) (Ar (B8 (Ax (f2 A8 (Aa 4) (fC (.int 5)))) (Av (f2 Bq (W0 (Aa 3)) (f2 Bx (fSl Cs (Aa 3) A0 (Bo (fC (.int 1)))) (Ap K6 (Ac (f2 A8 (Aa 5) (fC (.int 0))) Af)))) (gN 3)) Bl) (Cf (Ap Bj (Ac (Aa 3) Af))))))))))))
noncomputable def Fd:FN:=fnU 6 3 Hf
noncomputable def N1:FE:=(Ay 2 Ci (Ac (Iy (Aa 2) (Aa 0)) (Ac (Iy (Aa 2) (Aa 1)) Af)))
noncomputable def Aa2:FS:=(Cf (Ap Kw (Ac (Bu [none,none,some 0] (Na (Ac (Aa 1) (Ac (fSl Cs (Aa 1) (Bo (fC (.int 1))) A0) Af))) (MR.gTup 2 (MR.gCons (gN 0) (MR.gCons (gN 1) MR.gNil))) none N1) Af)))
noncomputable def Oj:FN:=fnU 2 2 Aa2
noncomputable def Hq:FE:=(Ay 2 Oj (Ac (Aa 1) (Ac (Aa 0) Af)))
noncomputable def Im:FS:=(Di (Ck "list" Oy (Aa 4) (Ac (Aa 5) Af)))
noncomputable def K5:FS:=(Acg (Aa 2) (f2 Ak (Aa 3) (fC (.int 0))) (Ay 1 Bn (Ac (Aa 3) Af)))
noncomputable def Oh:FS:=(Ar (Av Abd (gN 2)) (Ar (Fx (Bb (Aa 0)) (gN 3) K5) (Ar (Av (Cu Af) (gN 4)) (Ar (Fx (Bb (Aa 1)) (gN 5) Im) (Cf (Hc (f2 A8 (Ap Cd (Ac (Aa 4) Af)) (Ap Cd (Ac (Aa 2) Af))) (Ap Kw (Ac (Bu [none,some 2] (Bb (Aa 1)) (gN 0) none Hq) Af))))))))
noncomputable def Gi:FN:=fnU 6 2 Oh
noncomputable def Ma:FE:=(Aa 0)
noncomputable def Gf:FT:=(Ny (Ay 2 Ci (Ac (Aa 0) (Ac (Aa 1) Af))))
noncomputable def Wg:FS:=(Cf (Ap Aw (Ac (Bu [none,some 1] (Bb (Aa 0)) (gN 0) (some Gf) Ma) Af)))
noncomputable def Ks:FN:=fnU 2 2 Wg
noncomputable def Lx:FE:=(Ay 2 Ks (Ac (Aa 1) (Ac (Aa 0) Af)))
noncomputable def Lq:FE:=(Ay 1 Bn (Ac (Aa 0) Af))
noncomputable def Py:FS:=(Ar (Av (Bu [none] (Bb (Aa 0)) (gN 0) none Lq) (gN 1)) (Cf (Ap Bj (Ac (Bu [none,some 1] (Bb (Aa 1)) (gN 0) none Lx) Af))))
noncomputable def Ko:FN:=fnU 2 1 Py
noncomputable def Sw:FS:=(Cf (Ap Si (Ac (Ay 1 Ko (Ac (Aa 0) Af)) Af)))
noncomputable def Ez:FN:=fnU 1 1 Sw
noncomputable def N6:FE:=(Aa 0)
noncomputable def N4:FT:=(Ax (f2 (Mw false) (f2 Ak (Aa 0) (fC (.int 0))) (Aa 1)))
noncomputable def Kr:FS:=(Ar (Av (Bu [none,some 1] (Bb (Aa 0)) (gN 0) (some N4) N6) (gN 2)) (Cf (Hc (f2 A8 (Ap Aw (Ac (Aa 2) Af)) (Ap Aw (Ac (Aa 1) Af))) (f2 A8 (Ay 1 Ez (Ac (Aa 2) Af)) (fC (.int 0))))))
noncomputable def Ey:FN:=fnU 3 2 Kr
noncomputable def T9:FS:=(Cf (Hc (f2 A8 (Ap Aw (Ac (Aa 1) Af)) (Ap Aw (Ac (Aa 2) Af))) (Hc (Ay 2 Gi (Ac (Aa 0) (Ac (Aa 1) Af))) (Ay 2 Ey (Ac (Aa 0) (Ac (Aa 2) Af))))))
noncomputable def Hv:FN:=fnU 3 3 T9
noncomputable def Rh:FS:=(Ar (Av (Hc (Ay 2 G6 (Ac (Aa 3) (Ac (Aa 8) Af))) (Hc (Ay 2 Gz (Ac (Aa 3) (Ac (Aa 9) Af))) (f2 A8 (Ap Aw (Ac (Aa 8) Af)) (Ap Aw (Ac (Aa 9) Af))))) (gN 10)) (Ar (Av (Ay 3 Hv (Ac (Aa 3) (Ac (Aa 8) (Ac (Aa 9) Af)))) (gN 11)) (B8 (fOr (X3 (Ny (Aj1 "bool" (Aa 11)))) (Ax (f2 B2 (Aa 11) (Aa 10)))) (Cf (fC (.bl false))) Bl)))
noncomputable def Rj:FS:=(Ar (Av (Ay 2 Ll (Ac (Aa 1) (Ac (f2 Ak (Cu (Ac (fC (.int 9)) (Ac (fC (.int 9)) (Ac (fC (.int 9)) (Ac (fC (.int 30)) (Ac (fC (.int 60)) Af)))))) (Ay 2 Am (Ac (Aa 1) (Ac (fC (.int 5)) Af)))) Af))) (gN 3)) (Ar (Av (Ay 2 Mv (Ac (Aa 1) (Ac (Aa 3) Af))) (Um 2 (MR.gCons (gN 4) (MR.gCons (gN 5) MR.gNil)))) (Ar (Av (Ay 3 Fb (Ac (Aa 1) (Ac (Aa 3) (Ac (Aa 4) Af)))) (gN 6)) (Ar (Av (Ay 3 Fd (Ac (Aa 1) (Ac (Aa 3) (Ac (Aa 5) Af)))) (gN 7)) (Fx (Bb (Cu (Ac (C0 (Ac (Aa 4) (Ac (Aa 5) Af))) (Ac (C0 (Ac (Aa 6) (Ac (Aa 5) Af))) (Ac (C0 (Ac (Aa 4) (Ac (Aa 7) Af))) (Ac (C0 (Ac (Aa 6) (Ac (Aa 7) Af))) Af)))))) (MR.gTup 2 (MR.gCons (gN 8) (MR.gCons (gN 9) MR.gNil))) Rh)))))
noncomputable def Af0:FS:=(Ar (Av (Ay 1 Pb (Ac (Aa 0) Af)) (gN 1)) (Ar (Fx (G9 (Ac (fC (.int 5)) Af)) (gN 2) Rj) (Cf (fC (.bl true)))))
noncomputable def Acl:FN:=fnU 12 1 Af0
abbrev P3:=Str×Int×Int
noncomputable def p3U(p:P3):U:=.tup [.str p.1,.int p.2.1,.int p.2.2]
variable {p:P3}
theorem Ao6(h:Low p.1):Pl 6 (p3U p):=by
 unfold p3U
 rw[K0]
 intro u hu
 simp only[bH,dE,or_false] at hu
 rcases hu with rfl | rfl | rfl
 ·show Pl 5 (.str p.1)
  simpa[Pl] using h.ok
 ·exact Pl.int _ _
 ·exact Pl.int _ _
variable {M:UH}{f:Nat}{ps:List P3}
theorem Adp(h:M[f]? = some (.lst (ps.map p3U)))(hw:∀ p∈ps,Low p.1):B2 (.ref f) (.ref M.length) (M++[.lst []])=some (.bl (!ps.isEmpty),M++[.lst []]):=by
 have q1:A7 (M++[HU.lst []]) f=some (ps.map p3U):=Al ((Gw.new M _).get h)
 have q2:A7 (M++[HU.lst []]) M.length=some []:=Al (by simp)
 have hp:∀ u∈ps.map p3U,Pl 6 u:=fun u hu=>by obtain ⟨a,ha,rfl⟩:=bJ.mp hu;exact Ao6 (hw a ha)
 have hp0:∀ u∈([]:List U),Pl 6 u:=fun u hu=>by cases hu
 rw[Nm q1 q2 hp hp0]
 cases ps with
 | nil=>rfl
 | cons p ps=>
  have:Su ((p::ps).map p3U) []=false:=by
   have:=(Mn (us:=(p::ps).map p3U) (ws:=[]) hp hp0)
   cases hq:Su ((p::ps).map p3U) [] with
   | false=>rfl
   | true=>exact absurd (this.mp hq) (by simp)
  rw[this];rfl
inductive pick_ok_I(L:UH)(d:Nat)(B:Int)(δ:UE):Prop
 | mk (p:P3) (L':UH) (h0:(f2 Ak (Aa 4) (Ay 2 Am (Ac (Aa 0) (Ac (Ap Aw (Ac (Aa 4) Af)) Af)))) δ L=some (p3U p,L')) (h1:Gdk L' d (B+1)) (h2:Ex d L L'):pick_ok_I L d B δ
variable {L:UH}{d:Nat}{B:Int}{δ:UE}
theorem Acf(D:Gdk L d B)(hB:B<=100000000)(hf:L[f]? = some (.lst (ps.map p3U)))(hfd:f≠d)(hp:ps≠[])(hs:ps.length<=1000)(h0:∀ M,Aa 0 δ M=some (.ref d,M))(h4:∀ M,Aa 4 δ M=some (.ref f,M)):pick_ok_I L d B δ:=by
 have hpos:0 < ps.length:=dW.mpr hp
 obtain ⟨i,L1,e1,i0,i1,D1,x1⟩:=B4 (many:=((ps.map p3U).length:Nat)) D (by omega) (by simp;omega) (by simp;omega)
 have hf1:=x1.get hf hfd
 have hlen:=Fs hf
 rw[aI] at i1
 have hix:L2.atI (ps.map p3U) i=some (p3U (ps[i.toNat]'(by omega))):=by
  rw[Je i0 (by rw[aI];omega),bA,aC (by omega)];rfl
 refine ⟨ps[i.toNat]'(by omega),L1,?_,D1,x1⟩
 rw[f2_eq,h4,aA,fOwn_eq,fCons_eq,h0]
 simp only[aA,fCons_eq,fCall_eq,h4,fNil_eq,aF,hlen,aY,cB,if_true,e1,semIx_ref,Al hf1,hix]
inductive luck_ok_I(M:UH)(d:Nat)(B:Int)(c:Int)(ps:List P3)(δ:UE):Prop
 | mk (b:Bool) (M':UH) (h0:(Jp (Ax (f2 B2 (Aa 4) (Cu Af))) (Ax (f2 A8 (Ay 2 Am (Ac (Aa 0) (Ac (fC (.int c)) Af))) (fC (.int 0))))) δ M=some (b,M')) (h1:(b=true->ps≠[])) (h2:Gdk M' d (B+1)) (h3:Ex d M M'):luck_ok_I M d B c ps δ
variable {c:Int}
theorem Abb(D:Gdk M d B)(hB:B<=100000000)(hf:M[f]? = some (.lst (ps.map p3U)))(hw:∀ p∈ps,Low p.1)(h0:0 < c)(h1:c < 1000)(v0:∀ M,Aa 0 δ M=some (.ref d,M))(v4:∀ M,Aa 4 δ M=some (.ref f,M)):luck_ok_I M d B c ps δ:=by
 have sm0:Dy ([]:List U).length=true:=small_of (by show 0<=16777216;decide)
 have hl:∀ M,(Cu Af) δ M=some (.ref M.length,M++[.lst []]):=fun M=>by rw[fLst_eq,fNil_eq,aA,if_pos sm0]
 have hne:=Adp hf hw
 have t1:(f2 B2 (Aa 4) (Cu Af)) δ M=some (.bl (!ps.isEmpty),M++[.lst []]):=by
  rw[f2_eq,v4,aA,hl,aA,hne]
 cases hps:ps.isEmpty with
 | true=>
  rw[hps] at t1
  refine ⟨false,M++[.lst []],?_,(fun h=>by cases h),(D.new _).mono (by omega),Ex.new d M _⟩
  simp only[fAnd_eq,fTest_eq,t1,aA,pP,bX,if_false]
 | false=>
  rw[hps] at t1
  obtain ⟨i,M2,e1,i0,i1,D1,x1⟩:=B4 (many:=c) (D.new [HU.lst []]) (by omega) h0 (by omega)
  refine ⟨i == 0,M2,?_,(fun _=>by intro h;rw[h] at hps;cases hps),D1,(Ex.new d M _).trans x1⟩
  have t2:(f2 A8 (Ay 2 Am (Ac (Aa 0) (Ac (fC (.int c)) Af))) (fC (.int 0))) δ (M++[.lst []])=some (.bl (i == 0),M2):=by
   rw[f2_eq,Mr (i:=0) (v0 _) e1]
   simp only[aA,fC_eq,Gp]
  simp only[fAnd_eq,fTest_eq,t1,aA,pB,if_true,t2]
theorem Ala(k:Bool)(L:UH):K6 [.bl k] L=some (.int (if k then 1 else 0),L):=rfl
noncomputable def pt3:FS:=(B8 (Ax (f2 A8 (Aa 3) (fC (.int 1)))) (Av (f2 Bc (Aa 6) (f2 Bx (Ay 2 Am (Ac (Aa 0) (Ac (fC (.int 3)) Af))) (Ap K6 (Ac (f2 S6 (Ap K4 (Ac (Aa 6) Af)) (f2 H0 (fC (.int 10)) (fC (.int 9)))) Af)))) (gN 7)) Bl)
noncomputable def Amt(pw:S2)(ab:SC):FE:=(f2 Bc (Aa 6) (f2 Bx (Ay 2 Am (Ac (Aa 0) (Ac (fC (.int 3)) Af))) (Ap K6 (Ac (f2 S6 (Ap ab (Ac (Aa 6) Af)) (f2 pw (fC (.int 10)) (fC (.int 9)))) Af))))
variable {M1:UH}{x:Int}
theorem Aj7{pw:S2}{ab:SC}{i E ca:Int}(x1 x2 x3 x4 x5 x7:Option U)(e1:Am [.ref d,.int 3] M=some (.int i,M1))(h0:0<=i)(h1:i < 3)(hp:pw (.int 10) (.int 9) M1=some (.int E,M1))(hab:ab [.int x] M1=some (.int ca,M1)) :
  ∃ y:Int,Amt pw ab [some (.ref d),x1,x2,x3,x4,x5,some (.int x),x7] M=some (.int y,M1):=by
 have a1:=Mr (i:=0) (δ:=[some (.ref d),x1,x2,x3,x4,x5,some (.int x),x7]) rfl e1
 have hlt:S6 (.int ca) (.int E) M1=some (.bl (decide (ca < E)),M1):=rfl
 have hmu:∀ z:Int,Bx (.int i) (.int z) M1=some (.int (i * z),M1):=fun z=>by
  have:=Nh (i:=i) (j:=z) (by omega) (by omega)
  simp only[Bx,this,if_true]
 refine ⟨x+i * (if decide (ca < E) then 1 else 0),?_⟩
 have v6:∀ M,Aa 6 [some (.ref d),x1,x2,x3,x4,x5,some (.int x),x7] M=some (.int x,M):=fun _=>rfl
 unfold Amt
 rw[f2_eq,v6,aA,f2_eq,a1]
 simp only[aA,fCall_eq,fCons_eq,fNil_eq,f2_eq,v6,fC_eq,aF,hab,hp,hlt,Ala,hmu,semAdd_int]
theorem Aqf(L:UH):H0 (.int 10) (.int 9) L=some (.int 1000000000,L):=by
 have p:Vj 10 9=true:=rfl
 simp[p]
variable {way:Int}
theorem Am9{y:Int}(D:Gdk M d B)(hB:B<=10000000)(x1 x2 x4 x5:Option U) :
  ∃ (y':Int) (M':UH),pt3 [some (.ref d),x1,x2,some (.int way),x4,x5,some (.int x),some (.int y)] M=some (.nx [some (.ref d),x1,x2,some (.int way),x4,x5,some (.int x),some (.int y')],M')/\Gdk M' d (B+1)/\Ex d M M':=by
 have t:(f2 A8 (Aa 3) (fC (.int 1))) [some (.ref d),x1,x2,some (.int way),x4,x5,some (.int x),some (.int y)] M=some (.bl (way == 1),M):=by
  simp only[f2_eq,fVar_eq,fC_eq,bN,aZ,bT,aF,aA,Gp]
 have hb:pt3=B8 (Ax (f2 A8 (Aa 3) (fC (.int 1)))) (Av (Amt H0 K4) (gN 7)) Bl:=rfl
 cases hw:(way == (1:Int)) with
 | true=>
  rw[hw] at t
  obtain ⟨i,M1,e1,i0,i1,D1,x1'⟩:=B4 (many:=3) D (by omega) (by decide) (by decide)
  obtain ⟨y',e⟩:=Aj7 (x:=x) x1 x2 (some (.int way)) x4 x5 (some (.int y)) e1 i0 i1 (Aqf M1) (Aai x M1)
  have s:=C8 (i:=7) e
  simp only[aR,aS] at s
  refine ⟨y',M1,?_,D1,x1'⟩
  rw[hb,fIfS_eq,fTest_eq,t]
  simp only[aA,if_true]
  exact s
 | false=>
  rw[hw] at t
  refine ⟨y,M,?_,D.mono (by omega),Ex.refl d M⟩
  rw[hb,fIfS_eq,fTest_eq,t]
  simp only[aA,bX,if_false,Mp]
noncomputable def pt4:FS:=(B8 (Ax (f2 A8 (Aa 3) (fC (.int 2)))) (Av (f2 Gq (fC (.int 0)) (Aa 6)) (gN 7)) Bl)
theorem Anb{y:Int}(x0 x1 x2 x4 x5:Option U) :
  ∃ (y':Int),pt4 [x0,x1,x2,some (.int way),x4,x5,some (.int x),some (.int y)] M=some (.nx [x0,x1,x2,some (.int way),x4,x5,some (.int x),some (.int y')],M):=by
 have t:(f2 A8 (Aa 3) (fC (.int 2))) [x0,x1,x2,some (.int way),x4,x5,some (.int x),some (.int y)] M=some (.bl (way == 2),M):=by
  simp only[f2_eq,fVar_eq,fC_eq,bN,aZ,bT,aF,aA,Gp]
 cases hw:(way == (2:Int)) with
 | true=>
  rw[hw] at t
  refine ⟨0 - x,?_⟩
  unfold pt4
  rw[fIfS_eq,fTest_eq,t]
  simp only[aA,if_true,fAsg_eq,f2_eq,fC_eq,fVar_eq,bN,aZ,bT,aF,semSub_int,gN_eq,aR,aS]
 | false=>
  rw[hw] at t
  refine ⟨y,?_⟩
  unfold pt4
  rw[fIfS_eq,fTest_eq,t]
  simp only[aA,bX,if_false,Mp]
noncomputable def Xq:FE:=(f2 Ak (Aa 4) (Ay 2 Am (Ac (Aa 0) (Ac (Ap Aw (Ac (Aa 4) Af)) Af))))
noncomputable def pt5:FS:=(B8 (Jp (Ax (f2 B2 (Aa 4) (Cu Af))) (Ax (f2 A8 (Ay 2 Am (Ac (Aa 0) (Ac (fC (.int 5)) Af))) (fC (.int 0))))) (Av (fSl Hz Xq (Bo (fC (.int 1))) A0) (MR.gTup 2 (MR.gCons (gN 6) (MR.gCons (gN 7) MR.gNil)))) Bl)
theorem An6{y:Int}(D:Gdk M d B)(hB:B<=10000000)(hf:M[f]? = some (.lst (ps.map p3U)))(hfd:f≠d)(hs:ps.length<=100)(hw:∀ p∈ps,Low p.1)(x1 x2 x3 x5:Option U) :
  ∃ (x' y':Int) (M':UH),pt5 [some (.ref d),x1,x2,x3,some (.ref f),x5,some (.int x),some (.int y)] M=some (.nx [some (.ref d),x1,x2,x3,some (.ref f),x5,some (.int x'),some (.int y')],M')/\Gdk M' d (B+2)/\Ex d M M':=by
 obtain ⟨b,M1,e1,hb,D1,x1'⟩:=Abb (c:=5) D (by omega) hf hw (by decide) (by decide) (δ:=[some (.ref d),x1,x2,x3,some (.ref f),x5,some (.int x),some (.int y)]) (fun _=>rfl) (fun _=>rfl)
 cases b with
 | false=>
  refine ⟨x,y,M1,?_,D1.mono (by omega),x1'⟩
  unfold pt5
  rw[fIfS_eq,e1]
  simp only[aA,bX,if_false,Mp]
 | true=>
  obtain ⟨p,M2,e2,D2,x2'⟩:=Acf D1 (by omega) (x1'.get hf hfd) hfd (hb rfl) (by omega) (δ:=[some (.ref d),x1,x2,x3,some (.ref f),x5,some (.int x),some (.int y)]) (fun _=>rfl) (fun _=>rfl)
  have e2':Xq [some (.ref d),x1,x2,x3,some (.ref f),x5,some (.int x),some (.int y)] M1=some (p3U p,M2):=e2
  have hc:Hz (p3U p) (some 1) none M2=some (.tup [.int p.2.1,.int p.2.2],M2):=rfl
  have hg:(MR.gTup 2 (MR.gCons (gN 6) (MR.gCons (gN 7) MR.gNil))) (.tup [.int p.2.1,.int p.2.2]) [some (.ref d),x1,x2,x3,some (.ref f),x5,some (.int x),some (.int y)] M2=some ([some (.ref d),x1,x2,x3,some (.ref f),x5,some (.int p.2.1),some (.int p.2.2)],M2):=rfl
  refine ⟨p.2.1,p.2.2,M2,?_,D2.mono (by omega),x1'.trans x2'⟩
  unfold pt5
  rw[fIfS_eq,e1]
  simp only[aA,if_true]
  rw[fAsg_eq,fSl_eq,e2']
  simp only[aA,fPart_eq,fC_eq,fNoPart_eq,aF,hc,hg]
noncomputable def pt6:FS:=(B8 (Jp (Ax (f2 B2 (Aa 4) (Cu Af))) (Ax (f2 A8 (Ay 2 Am (Ac (Aa 0) (Ac (fC (.int 5)) Af))) (fC (.int 0))))) (Av (f2 Ak Xq (fC (.int 1))) (gN 6)) Bl)
theorem Ak8(D:Gdk M d B)(hB:B<=10000000)(hf:M[f]? = some (.lst (ps.map p3U)))(hfd:f≠d)(hs:ps.length<=100)(hw:∀ p∈ps,Low p.1)(x1 x2 x3 x5 x7:Option U) :
  ∃ (x':Int) (M':UH),pt6 [some (.ref d),x1,x2,x3,some (.ref f),x5,some (.int x),x7] M=some (.nx [some (.ref d),x1,x2,x3,some (.ref f),x5,some (.int x'),x7],M')/\Gdk M' d (B+2)/\Ex d M M':=by
 obtain ⟨b,M1,e1,hb,D1,x1'⟩:=Abb (c:=5) D (by omega) hf hw (by decide) (by decide) (δ:=[some (.ref d),x1,x2,x3,some (.ref f),x5,some (.int x),x7]) (fun _=>rfl) (fun _=>rfl)
 cases b with
 | false=>
  refine ⟨x,M1,?_,D1.mono (by omega),x1'⟩
  unfold pt6
  rw[fIfS_eq,e1]
  simp only[aA,bX,if_false,Mp]
 | true=>
  obtain ⟨p,M2,e2,D2,x2'⟩:=Acf D1 (by omega) (x1'.get hf hfd) hfd (hb rfl) (by omega) (δ:=[some (.ref d),x1,x2,x3,some (.ref f),x5,some (.int x),x7]) (fun _=>rfl) (fun _=>rfl)
  have e2':Xq [some (.ref d),x1,x2,x3,some (.ref f),x5,some (.int x),x7] M1=some (p3U p,M2):=e2
  have hc:Ak (p3U p) (.int 1) M2=some (.int p.2.1,M2):=rfl
  refine ⟨p.2.1,M2,?_,D2.mono (by omega),x1'.trans x2'⟩
  have h1:(f2 Ak Xq (fC (.int 1))) [some (.ref d),x1,x2,x3,some (.ref f),x5,some (.int x),x7] M1=some (.int p.2.1,M2):=by
   rw[f2_eq,e2']
   simp only[aA,fC_eq,hc]
  have s:=C8 (i:=6) h1
  simp only[aR,aS] at s
  unfold pt6
  rw[fIfS_eq,e1]
  simp only[aA,if_true]
  exact s
noncomputable def pt7:FS:=(Di (Ck "list" C5 (Aa 4) (Ac (C0 (Ac (Aa 5) (Ac (Aa 6) (Ac (Aa 7) Af)))) Af)))
theorem Ale(hf:M[f]? = some (.lst (ps.map p3U)))(hs:ps.length<=100)(name:Str)(x y:Int)(x0 x1 x2 x3:Option U) :
  pt7 [x0,x1,x2,x3,some (.ref f),some (.str name),some (.int x),some (.int y)] M=some (.nx [x0,x1,x2,x3,some (.ref f),some (.str name),some (.int x),some (.int y)],M.set f (.lst ((ps++[(name,x,y)]).map p3U))):=by
 have sm3:∀ x y z:U,Dy [x,y,z].length=true:=fun _ _ _=>small_of (by show 3<=16777216;decide)
 have t1:(C0 (Ac (Aa 5) (Ac (Aa 6) (Ac (Aa 7) Af)))) [x0,x1,x2,x3,some (.ref f),some (.str name),some (.int x),some (.int y)] M=some (p3U (name,x,y),M):=by
  simp only[Nt,fCons_eq,fVar_eq,fNil_eq,bN,aZ,bT,aF,aA]
  rw[if_pos (sm3 _ _ _)]
  rfl
 have ap:=Iw (p3U (name,x,y)) hf (by simp;omega)
 have hm:ps.map p3U++[p3U (name,x,y)]=(ps++[(name,x,y)]).map p3U:=by simp
 rw[hm] at ap
 have ty:=Gg hf
 unfold pt7
 rw[Fy,fMeth_eq]
 simp only[fVar_eq,bN,aZ,bT,aF,aA,ty,if_true]
 rw[fCons_eq,t1]
 simp only[aA,fNil_eq,aF,ap]
variable {i j:Nat}{u w v:U}{L':UH}
theorem Mu{f:FN}(h:Aa i δ L=some (u,L))(h2:Aa j δ L=some (w,L))(e:f [u,w] L=some (v,L')):(Ay 2 f (Ac (Aa i) (Ac (Aa j) Af))) δ L=some (v,L'):=by
 rw[fOwn_eq,fCons_eq,h]
 simp only[aA,fCons_eq,h2,fNil_eq,aF,aY,cB,if_true,e]
inductive points_turn_I(M:UH)(d:Nat)(f:Nat)(B:Int)(kind:Int)(way:Int)(ps:List P3)(name:Str)(x1:Option U)(x6:Option U)(x7:Option U):Prop
 | mk (y6 y7:Option U) (x y:Int) (M':UH) (h0:Ha [some (.ref d),x1,some (.int kind),some (.int way),some (.ref f),some (.str name),x6,x7] M=some (.nx [some (.ref d),x1,some (.int kind),some (.int way),some (.ref f),some (.str name),y6,y7],M')) (h1:Gdk M' d (B+11)) (h2:M'[f]? = some (.lst ((ps++[(name,x,y)]).map p3U))) (h3:(∀ L,Ex d L M->L.length<=f->Ex d L M')) (h4:(∀ n o,n≠d->n≠f->M[n]? = some o->M'[n]? = some o)):points_turn_I M d f B kind way ps name x1 x6 x7
theorem Xm{kind:Int}(D:Gdk M d B)(hB:B<=1000000)(hf:M[f]? = some (.lst (ps.map p3U)))(hfd:f≠d)(hs:ps.length<=99)(hw:∀ p∈ps,Low p.1)(hk:kind=0\/kind=1\/kind=2)(name:Str)(x1 x6 x7:Option U):points_turn_I M d f B kind way ps name x1 x6 x7:=by
 obtain ⟨x,M1,e1,D1,z1⟩:=Ux D (by omega) hk
 have s1:=C8 (i:=6) (Mu (i:=0) (j:=2) (δ:=[some (.ref d),x1,some (.int kind),some (.int way),some (.ref f),some (.str name),x6,x7]) rfl rfl e1)
 obtain ⟨y,M2,e2,D2,z2⟩:=Ux D1 (by omega) hk
 have s2:=C8 (i:=7) (Mu (i:=0) (j:=2) (δ:=[some (.ref d),x1,some (.int kind),some (.int way),some (.ref f),some (.str name),some (.int x),x7]) rfl rfl e2)
 simp only[aR,aS] at s1 s2
 obtain ⟨y3,M3,s3,D3,z3⟩:=Am9 (way:=way) (x:=x) (y:=y) D2 (by omega) x1 (some (.int kind)) (some (.ref f)) (some (.str name))
 obtain ⟨y4,s4⟩:=Anb (M:=M3) (way:=way) (x:=x) (y:=y3) (some (.ref d)) x1 (some (.int kind)) (some (.ref f)) (some (.str name))
 have hf3:=z3.get (z2.get (z1.get hf hfd) hfd) hfd
 obtain ⟨x5,y5,M5,s5,D5,z5⟩:=An6 (x:=x) (y:=y4) D3 (by omega) hf3 hfd (by omega) hw x1 (some (.int kind)) (some (.int way)) (some (.str name))
 have hf5:=z5.get hf3 hfd
 obtain ⟨x6',M6,s6,D6,z6⟩:=Ak8 (x:=x5) D5 (by omega) hf5 hfd (by omega) hw x1 (some (.int kind)) (some (.int way)) (some (.str name)) (some (.int y5))
 have hf6:=z6.get hf5 hfd
 have s7:=Ale hf6 (by omega) name x6' y5 (some (.ref d)) x1 (some (.int kind)) (some (.int way))
 have zz:=z1.trans (z2.trans (z3.trans (z5.trans z6)))
 refine ⟨some (.int x6'),some (.int y5),x6',y5,M6.set f (.lst ((ps++[(name,x6',y5)]).map p3U)),?_,(D6.set hfd _).mono (by omega),bI (aG.mp hf6).1,fun L e hL=>(e.trans zz).set hL _,fun n o hn1 hn2 ho=>by rw[bD (eW hn2)];exact zz.get ho hn1⟩
 have hb:Ha=Ar (Av (Ay 2 Ea (Ac (Aa 0) (Ac (Aa 2) Af))) (gN 6)) (Ar (Av (Ay 2 Ea (Ac (Aa 0) (Ac (Aa 2) Af))) (gN 7)) (Ar pt3 (Ar pt4 (Ar pt5 (Ar pt6 pt7))))):=rfl
 rw[hb,Aj s1,Aj s2,Aj s3,Aj s4,Aj s5,Aj s6]
 exact s7
inductive points_ok_I(L:UH)(d:Nat)(most:Nat)(B:Int):Prop
 | mk (ps:List P3) (L':UH) (h0:Ll [.ref d,.int most] L=some (.tup (ps.map p3U),L')) (h1:ps.length<=most) (h2:(ps.map (·.1)).Nodup) (h3:(∀ p∈ps,Okn p.1)) (h4:(∀ p∈ps,Low p.1)) (h5:Gdk L' d (B+1000)) (h6:Ex d L L'):points_ok_I L d most B
theorem Ad4{most:Nat}(D:Gdk L d B)(hB:B<=100000)(hm:most<=60):points_ok_I L d most B:=by
 have sm0:Dy ([]:List U).length=true:=small_of (by show 0<=16777216;decide)
 obtain ⟨kind,L1,e1,k0,k1,D1,x1⟩:=B4 (many:=3) D (by omega) (by decide) (by decide)
 have s1:=C8 (i:=2) (Mr (i:=0) (δ:=[some (.ref d),some (.int most),none,none,none,none,none,none]) rfl e1)
 obtain ⟨way,L2',e2,w0,w1,D2,x2⟩:=B4 (many:=4) D1 (by omega) (by decide) (by decide)
 have s2:=C8 (i:=3) (Mr (i:=0) (δ:=[some (.ref d),some (.int most),some (.int kind),none,none,none,none,none]) rfl e2)
 have s3:(Av (Cu Af) (gN 4)) [some (.ref d),some (.int most),some (.int kind),some (.int way),none,none,none,none] L2'=some (.nx [some (.ref d),some (.int most),some (.int kind),some (.int way),some (.ref L2'.length),none,none,none],L2'++[.lst []]):=by
  rw[fAsg_eq,fLst_eq,fNil_eq,aA,if_pos sm0];rfl
 simp only[aR,aS] at s1 s2
 have D3:=D2.new [HU.lst []]
 have hl2:=D2.lt
 obtain ⟨m,L4,e4,m0,m1,D4,x4⟩:=B4 (many:=(most:Int)+1) D3 (by omega) (by omega) (by omega)
 obtain ⟨n,names,L5,e5,h5,hln,hnod,hokn,hlow,D5,x5,hn5⟩:=Ahl (many:=m.toNat) D4 (by omega) (by omega)
 have hmn:((m.toNat:Nat):Int)=m:=by omega
 rw[hmn] at e5
 have hle4:=x4.le
 have hi:(Bb (Ay 2 Ir (Ac (Aa 0) (Ac (Ay 2 Am (Ac (Aa 0) (Ac (f2 Bc (Aa 1) (fC (.int 1))) Af))) Af)))) [some (.ref d),some (.int most),some (.int kind),some (.int way),some (.ref L2'.length),none,none,none] (L2'++[.lst []])=some (.ref n,L5):=by
  have v0:Aa 0 [some (.ref d),some (.int most),some (.int kind),some (.int way),some (.ref L2'.length),none,none,none] (L2'++[.lst []])=some (.ref d,L2'++[.lst []]):=rfl
  have hd:(Ay 2 Am (Ac (Aa 0) (Ac (f2 Bc (Aa 1) (fC (.int 1))) Af))) [some (.ref d),some (.int most),some (.int kind),some (.int way),some (.ref L2'.length),none,none,none] (L2'++[.lst []])=some (.int m,L4):=by
   rw[fOwn_eq,fCons_eq,v0]
   simp only[aA,fCons_eq,f2_eq,fC_eq,fVar_eq,fNil_eq,bN,aZ,bT,aF,semAdd_int,aY,cB,if_true,e4]
  rw[Dq,fOwn_eq,fCons_eq,v0,aA,fCons_eq,hd]
  simp only[aA,fNil_eq,aF,aY,cB,if_true,e5,Dg (Al h5)]
 have hk3:kind=0\/kind=1\/kind=2:=by omega
 have hf5:L5[L2'.length]? = some (.lst []):=x5.get (x4.get (by simp) (by omega)) (by omega)
 have hnd:n≠d:=by have:=D4.lt;omega
 have hnf:L2'.length≠n:=by simp at hle4;omega
 obtain ⟨δ',L6,e6,P⟩:=Q6 (us:=names.map U.str) (body:=Ha) (g:=gN 5)
  (fun k δ' M=>∃ (y5 y6 y7:Option U) (ps:List P3),δ'=[some (.ref d),some (.int most),some (.int kind),some (.int way),some (.ref L2'.length),y5,y6,y7]/\M[L2'.length]? = some (.lst (ps.map p3U))/\ps.length=k/\ps.map (·.1)=names.take k/\k<=names.length/\(∀ p∈ps,Low p.1)/\Gdk M d (B+104+14 * k)/\M[n]? = some (.lst (names.map U.str))/\Ex d L2' M)
  hi ⟨none,none,none,[],rfl,by simpa using hf5,rfl,rfl,by omega,by simp,D5.mono (by omega),h5,(Ex.new d L2' _).trans (x4.trans x5)⟩
  (fun k δ M zz=>by obtain ⟨_,_,_,_,_,_,_,_,_,_,_,h,_⟩:=zz;exact Al h)
  (fun k u δ M hu zz=>by
   obtain ⟨y5,y6,y7,ps,hδ,hat,hlk,hpn,hkn,hw,DM,hnm,xM⟩:=zz
   subst hδ
   rw[bA] at hu
   obtain ⟨name,hname,rfl⟩:=aH.mp hu
   have hk:=(aG.mp hname).1
   have hln60:names.length<=60:=by omega
   have hnlow:=hlow _ (aW hname)
   obtain ⟨z6,z7,x,y,M',e,D',hat',hx,hkeep⟩:=Xm (way:=way) DM (by omega) hat (by omega) (by omega) hw hk3 name (some (.int most)) y6 y7
   exact ⟨[some (.ref d),some (.int most),some (.int kind),some (.int way),some (.ref L2'.length),some (.str name),y6,y7],M,rfl,_,M',.inl e,_,_,_,ps++[(name,x,y)],rfl,hat',by simp[hlk],by rw[bZ,hpn,eA,hname];rfl,by omega,fun p hp=>by rcases bP.mp hp with h | h;exact hw p h;rw[bC.mp h];exact hnlow,D'.mono (by omega),hkeep n _ hnd (eW hnf) hnm,hx L2' xM (aQ _)⟩)
 obtain ⟨y5,y6,y7,ps,hδ,hat,hlk,hpn,hkn,hw,DM,hnm,xM⟩:=P
 rw[aI] at hlk hkn DM hpn
 rw[gR] at hpn
 rw[hδ] at e6
 refine ⟨ps,L6,?_,by omega,by rw[hpn];exact hnod,fun p hp=>hokn _ (by rw[<- hpn];exact iL hp),hw,DM.mono (by omega),x1.trans (x2.trans xM)⟩
 have t2:Bj [.ref L2'.length] L6=some (.tup (ps.map p3U),L6):=by simp only[Bj,Al hat,aF]
 have hb:S9=Ar (Av (Ay 2 Am (Ac (Aa 0) (Ac (fC (.int 3)) Af))) (gN 2)) (Ar (Av (Ay 2 Am (Ac (Aa 0) (Ac (fC (.int 4)) Af))) (gN 3)) (Ar (Av (Cu Af) (gN 4)) (Ar (Fx (Bb (Ay 2 Ir (Ac (Aa 0) (Ac (Ay 2 Am (Ac (Aa 0) (Ac (f2 Bc (Aa 1) (fC (.int 1))) Af))) Af)))) (gN 5) Ha) (Cf (Ap Bj (Ac (Aa 4) Af)))))):=rfl
 unfold Ll fnU
 simp only[aY,cB,if_true,aL,cU,bW,nN,jL]
 rw[hb,Aj s1,Aj s2,Aj s3,Aj e6,fRet_eq,fCall_eq,fCons_eq]
 simp only[fVar_eq,fNil_eq,bN,aZ,bT,aF,aA,t2]
noncomputable def pr(p:Int×Int):U:=.tup [.int p.1,.int p.2]
noncomputable def B0(p q:Int×Int):Bool:=decide (p.1<=q.1)&&(decide (p.2<=q.2) && !(p.1 == q.1&&(p.2 == q.2&&true)))
theorem Akz(p q:Int×Int)(L:UH):B2 (pr p) (pr q) L=some (.bl (!(p.1 == q.1&&(p.2 == q.2&&true))),L):=rfl
theorem Ahk{β:Type}(as:List β)(f:β->Bool):mapO toB (as.map fun a=>U.bl (f a))=some (as.map f):=by
 induction as with
 | nil=>rfl
 | cons a as ih=>simp[mapO,toB,ih]
variable {n:Nat}
theorem Ra{β:Type}(as:List β)(f:β->Bool)(h:A7 L n=some (as.map fun a=>U.bl (f a))):Kw [.ref n] L=some (.bl (as.all f),L):=by
 simp[Kw,h,Ahk]
theorem lies_ok(p q:Int×Int)(L:UH):∃ x,Ci [pr p,pr q] L=some (.bl (B0 p q),L++x):=by
 have hz:(Na (Ac (Aa 0) (Ac (Aa 1) Af))) [some (pr p),some (pr q)] L=some (.seq ([(p.1,q.1),(p.2,q.2)].map fun a=>.tup [.int a.1,.int a.2]),L):=rfl
 obtain ⟨x,e⟩:=Cq (ix:=[none,none]) (fi:=Na (Ac (Aa 0) (Ac (Aa 1) Af))) (it:=.seq ([(p.1,q.1),(p.2,q.2)].map fun a=>.tup [.int a.1,.int a.2])) (g:=(MR.gTup 2 (MR.gCons (gN 0) (MR.gCons (gN 1) MR.gNil)))) (tt:=none) (fe:=Ei) (δ:=[some (pr p),some (pr q)]) (L:=L) (L0:=L)
  [(p.1,q.1),(p.2,q.2)] (fun a=>.tup [.int a.1,.int a.2]) (fun _=>true) (fun a=>.bl (decide (a.1<=a.2))) (fun δ=>∃ a b,δ = [a,b]) hz (by simp[IU.size]) (by simp) ⟨none,none,rfl⟩
  (fun k x=>rfl)
  (fun a δ x _ zz=>by
   obtain ⟨y,z,hδ⟩:=zz
   subst hδ
   refine ⟨_,rfl,⟨_,_,rfl⟩,[],by simp[Jw],fun _=>⟨[],?_⟩⟩
   simp[Ei])
 have hf:iH (fun _:Int×Int=>true) [(p.1,q.1),(p.2,q.2)]=[(p.1,q.1),(p.2,q.2)]:=by simp
 rw[hf] at e
 have q1:A7 (L++x++[HU.lst ([(p.1,q.1),(p.2,q.2)].map fun a=>.bl (decide (a.1<=a.2)))]) (L++x).length=some ([(p.1,q.1),(p.2,q.2)].map fun a=>U.bl (decide (a.1<=a.2))):=Al (by simp)
 have ha:=Ra _ _ q1
 by_cases h:(!(p.1 == q.1&&(p.2 == q.2&&true)))=true
 ·refine ⟨x++[HU.lst ([(p.1,q.1),(p.2,q.2)].map fun a=>.bl (decide (a.1<=a.2)))],?_⟩
  have hb:B0 p q=List.all [(p.1,q.1),(p.2,q.2)] fun a=>decide (a.1<=a.2):=by
   simp only[B0,h,kR,List.all_nil]
  have hn:=Akz p q L
  rw[h] at hn
  unfold Ci fnU Hb
  simp only[aY,cB,if_true,aL,cU,eG,eZ,aU,fRet_eq,Jo,f2_eq,fVar_eq,aZ,bN,bT,aF,aA,hn,fCall_eq,fCons_eq,fNil_eq]
  simp only[aL,cU] at e ha
  rw[hb,<- dO]
  simp only[e,ha,aF,aA]
 ·have h':(!(p.1 == q.1&&(p.2 == q.2&&true)))=false:=by simpa using h
  refine ⟨[],?_⟩
  have hb:B0 p q=false:=by simp only[B0,h',mB]
  have hn:=Akz p q L
  rw[h'] at hn
  unfold Ci fnU Hb
  simp only[aY,cB,if_true,aL,cU,eG,eZ,aU,fRet_eq,Jo,f2_eq,fVar_eq,aZ,bN,bT,aF,aA,hn,hb]
  simp
theorem Hy(p:P3)(L:UH):Bn [p3U p] L=some (pr p.2,L):=by
 have sm2:Dy (0+1+1)=true:=small_of (by decide)
 have i1:∀ p:P3,Ak (p3U p) (.int 1) L=some (.int p.2.1,L):=fun _=>rfl
 have i2:∀ p:P3,Ak (p3U p) (.int 2) L=some (.int p.2.2,L):=fun _=>rfl
 unfold Bn fnU Oi
 simp only[aY,cB,if_true,aL,cU,eG,eZ,aU,fRet_eq,Nt,fCons_eq,fNil_eq,f2_eq,fVar_eq,fC_eq,aZ,bT,aF,aA,i1,i2]
 rw[if_pos sm2]
 rfl
theorem Apq(p q:Int×Int)(L:UH):A8 (pr p) (pr q) L=some (.bl (p.1 == q.1&&(p.2 == q.2&&true)),L):=rfl
theorem Rp(p q:P3)(L:UH):Gj [p3U p,p3U q] L=some (.bl (B0 p.2 q.2),L):=by
 have c1:(fSl Hz (Aa 0) (Bo (fC (.int 1))) A0) [some (p3U p),some (p3U q)] L=some (pr p.2,L):=rfl
 have c2:(fSl Hz (Aa 1) (Bo (fC (.int 1))) A0) [some (p3U p),some (p3U q)] L=some (pr q.2,L):=rfl
 have i1:∀ p:P3,Ak (p3U p) (.int 1) L=some (.int p.2.1,L):=fun _=>rfl
 have i2:∀ p:P3,Ak (p3U p) (.int 2) L=some (.int p.2.2,L):=fun _=>rfl
 have le:∀ i j:Int,Vg (.int i) (.int j) L=some (.bl (decide (i<=j)),L):=fun _ _=>rfl
 unfold Gj fnU Vi B0
 simp only[aY,cB,if_true,aL,cU,eG,eZ,aU]
 rw[fSeq_eq,fIfS_eq,fTest_eq,f2_eq,c1]
 simp only[aA,c2,Apq]
 cases (p.2.1 == q.2.1&&(p.2.2 == q.2.2&&true)) with
 | true=>simp only[if_true,fRet_eq,fC_eq,aF,aA,pP,mB]
 | false=>
  simp only[bX,if_false,Mp,aA,fRet_eq,Jo,f2_eq,fVar_eq,fC_eq,bN,aZ,bT,aF,i1,i2,le,pB,tJ]
  cases decide (p.2.1<=q.2.1) <;> rfl
noncomputable def Rl(q:Int×Int):List Int:=[q.1,q.2]
noncomputable def Ah5(qs:List P3):List Nat:=SO.Ee (ltK (qs.map fun p=>Rl p.2)) qs.length
theorem Nl(qs:List P3):(Ah5 qs).Perm (dB qs.length):=SO.Ji (Ol _)
noncomputable def Ad3:P3:=("",0,0)
noncomputable def srt(qs:List P3):List P3:=(Ah5 qs).map fun i=>qs.getD i Ad3
theorem Gy(qs:List P3):(srt qs).Perm qs:=by
 have e:(dB qs.length).map (fun i=>qs.getD i Ad3)=qs:=by
  apply jA
  ·simp
  ·intro i h1 h2
   have hi:i < qs.length:=by simpa using h2
   rw[kP,mI,aO,aC hi];rfl
 have:=(Nl qs).map fun i=>qs.getD i Ad3
 rw[e] at this
 exact this
noncomputable def LeK(a b:P3):Prop:=a.2.1 < b.2.1\/a.2.1=b.2.1/\a.2.2<=b.2.2
variable {a b:P3}
theorem Al4(h:ltT (Rl b.2) (Rl a.2)=false):LeK a b:=by
 unfold Rl at h
 simp only[ltT,beq_iff_eq] at h
 unfold LeK
 split at h
 ·split at h
  ·omega
  ·have:=of_decide_eq_false h;omega
 ·have:=of_decide_eq_false h;omega
theorem Agj{lt:Nat->Nat->Bool}(W:SO.Wo lt)(n:Nat):(SO.Ee lt n).Pairwise (SO.Le lt):=by
 unfold SO.Ee
 split
 ·rename_i h
  match n,h with
  | 0,_=>exact .nil
  | 1,_=>simp[sK]
 ·rename_i h
  obtain ⟨hp,hu⟩:=(SO.Q3 (n:=n) W (by omega)).holds
  refine hU.mpr fun i j hi hj hij=>?_
  have h:=hu i j (by omega) (by rw[<- hp.size];simpa using hj)
  unfold SO.at0 at h
  rw[dS,dS] at h
  simp only[eK] at hi hj
  rw[mL hi,mL hj] at h
  simpa using h
theorem Vv(qs:List P3):(srt qs).Pairwise LeK:=by
 have hst:(Ah5 qs).Pairwise (SO.Le (ltK (qs.map fun p=>Rl p.2))):=Agj (Ol _) _
 refine iI.mpr (List.Pairwise.imp_of_mem (fun {i j} hi hj h=>?_) hst)
 have hi:i < qs.length:=eI.mp ((Nl qs).mem_iff.mp hi)
 have hj:j < qs.length:=eI.mp ((Nl qs).mem_iff.mp hj)
 have h1:=h
 unfold SO.Le ltK at h1
 have e:∀ i (h:i < qs.length),(qs.map fun p=>Rl p.2).getD i []=Rl (qs.getD i Ad3).2:=fun i h=>by
  rw[aO,aO,bA,aC h];rfl
 rw[e i hi,e j hj] at h1
 exact Al4 h1
abbrev En:=P3×List P3
noncomputable def Kh(p:P3)(ch:List En):Bool:=match ch.getLast? with
 | some e=>B0 e.1.2 p.2
 | none=>false
noncomputable def turnOf(cs:List (List En))(p:P3):Nat:=cs.findIdx (Kh p)
noncomputable def De(cs:List (List En)):Nat->List P3
 | 0=>[]
 | t+1=>((cs.getD t []).getLast?.map (·.2)).getD []
noncomputable def lay(cs:List (List En))(p:P3):List (List En):=
 if turnOf cs p=cs.length then cs++[[(p,De cs (turnOf cs p)++[p])]] else cs.set (turnOf cs p) (cs.getD (turnOf cs p) []++[(p,De cs (turnOf cs p)++[p])])
noncomputable def Rr(a b:P3):Prop:=LeK a b/\(b.2.2 < a.2.2\/a.2=b.2)
theorem Ut(a b:Int×Int):B0 a b=true↔a.1<=b.1/\a.2<=b.2/\a≠b:=by
 unfold B0
 obtain ⟨a1,a2⟩:=a
 obtain ⟨b1,b2⟩:=b
 simp only[cL,decide_eq_true_eq,Bool.not_eq_true',tJ,Bool.and_eq_false_iff,beq_eq_false_iff_ne,ne_eq,Prod.mk.injEq]
 constructor
 ·rintro ⟨h1,h2,h3⟩
  exact ⟨h1,h2,fun e=>h3.elim (fun q=>q e.1) (fun q=>q e.2)⟩
 ·rintro ⟨h1,h2,h3⟩
  refine ⟨h1,h2,?_⟩
  by_cases e:a1=b1
  ·exact .inr fun q=>h3 ⟨e,q⟩
  ·exact .inl e
theorem Afo{a b c:Int×Int}(h:B0 a b=true)(h2:B0 b c=true):B0 a c=true:=by
 rw[Ut] at *
 refine ⟨by omega,by omega,fun e=>?_⟩
 subst e
 exact h.2.2 (Prod.ext (by omega) (by omega))
theorem Aee(h:LeK a b)(hb:B0 a.2 b.2=false):Rr a b:=by
 refine ⟨h,?_⟩
 by_cases e:a.2=b.2
 ·exact .inr e
 ·left
  have:¬ (a.2.1<=b.2.1/\a.2.2<=b.2.2/\a.2≠b.2):=fun q=>by rw[(Ut _ _).mpr q] at hb;cases hb
  unfold LeK at h
  have:¬ (a.2.2<=b.2.2):=fun q=>this ⟨by omega,q,e⟩
  omega
theorem Rr.tr{c:P3}(h:Rr a b)(h2:Rr b c)(hl:LeK a c):Rr a c:=by
 refine ⟨hl,?_⟩
 rcases h.2 with x | x
 ·rcases h2.2 with y | y
  ·left;omega
  ·left;rw[<- y];exact x
 ·rcases h2.2 with y | y
  ·left;rw[x];exact y
  ·right;rw[x,y]
structure Laid(cs:List (List En))(dn:List P3):Prop where
 ne:∀ ch∈cs,ch≠[]
 perm:(cs.flatten.map (·.1)).Perm dn
 chn:∀ ch∈cs,ch.Pairwise fun a b=>B0 a.1.2 b.1.2=true
 cr:∀ (t:Nat) (ch:List En),cs[t]? = some ch->∀ e∈ch,e.2.length=t+1/\e.2.getLast? = some e.1/\e.2.Pairwise Rr/\(∀ c∈e.2,c∈dn)/\e.2.Nodup
theorem Laid.start:Laid [] [] where
 ne ch h:=by cases h
 perm:=.nil
 chn ch h:=by cases h
 cr t ch h:=by simp at h
variable {cs:List (List En)}{dn:List P3}
theorem Qt(A:Laid cs dn)(hle:∀ c∈dn,LeK c p)(hp:p∉dn){t:Nat}(ht:t=turnOf cs p) :
  (De cs t++[p]).length=t+1/\(De cs t++[p]).Pairwise Rr/\(∀ c∈De cs t,c∈dn)/\(De cs t++[p]).Nodup:=by
 cases t with
 | zero=>simp[De]
 | succ t=>
  have htl:t < cs.length:=by
   have:=kE (p:=Kh p) (xs:=cs)
   unfold turnOf at ht;omega
  have hno:Kh p cs[t]=false:=by
   have:=List.not_of_lt_findIdx (p:=Kh p) (xs:=cs) (i:=t) (by unfold turnOf at ht;omega)
   simpa using this
  have hmem:cs[t]∈cs:=cN htl
  obtain ⟨e,he⟩:∃ e,cs[t].getLast? = some e:=by
   cases hg:cs[t].getLast? with
   | none=>exact absurd (hZ.mp hg) (A.ne _ hmem)
   | some e=>exact ⟨e,rfl⟩
  have hem:e∈cs[t]:=pC he
  obtain ⟨c1,c2,c3,c4,c5⟩:=A.cr t _ (aC htl) e hem
  have hcr:De cs (t+1)=e.2:=by
   show ((cs.getD t []).getLast?.map (·.2)).getD []=e.2
   rw[aO,aC htl]
   simp[he]
  have hbl:B0 e.1.2 p.2=false:=by unfold Kh at hno;rw[he] at hno;exact hno
  have hep:e.1∈e.2:=pC c2
  have hR:Rr e.1 p:=Aee (hle _ (c4 _ hep)) hbl
  rw[hcr]
  refine ⟨by rw[bB,c1];rfl,gH.mpr ⟨c3,by simp,fun c hc q hq=>?_⟩,c4,eB.mpr ⟨c5,by simp,fun c hc q hq=>?_⟩⟩
  ·rw[bC.mp hq]
   by_cases hce:c=e.1
   ·rw[hce];exact hR
   ·have hce':Rr c e.1:=by
     obtain ⟨ini,hini⟩:=mM.mp c2
     rw[hini] at c3 hc
     rcases bP.mp hc with h | h
     ·exact (gH.mp c3).2.2 c h e.1 (by simp)
     ·exact absurd (bC.mp h) hce
    exact hce'.tr hR (hle _ (c4 _ hc))
  ·rw[bC.mp hq]
   intro h
   rw[h] at hc
   exact hp (c4 _ hc)
theorem Laid.step(A:Laid cs dn)(hle:∀ c∈dn,LeK c p)(hp:p∉dn):Laid (lay cs p) (dn++[p]):=by
 obtain ⟨f1,f2,f3,f4⟩:=Qt A hle hp (t:=turnOf cs p) rfl
 have hnew:∀ e:En,e=(p,De cs (turnOf cs p)++[p])->e.2.length=turnOf cs p+1/\e.2.getLast? = some e.1/\e.2.Pairwise Rr/\(∀ c∈e.2,c∈dn++[p])/\e.2.Nodup:=fun e he=>by
  subst he
  refine ⟨f1,by simp,f2,fun c hc=>?_,f4⟩
  rcases bP.mp hc with h | h
  ·exact dD _ (f3 c h)
  ·exact bM _ h
 have hold:∀ (t:Nat) (ch:List En),cs[t]? = some ch->∀ e∈ch,e.2.length=t+1/\e.2.getLast? = some e.1/\e.2.Pairwise Rr/\(∀ c∈e.2,c∈dn++[p])/\e.2.Nodup:=fun t ch h e he=>by
  obtain ⟨a,b,c,d,f⟩:=A.cr t ch h e he
  exact ⟨a,b,c,fun x hx=>dD _ (d x hx),f⟩
 have htl:turnOf cs p<=cs.length:=kE
 unfold lay
 by_cases h:turnOf cs p=cs.length
 ·rw[if_pos h]
  refine ⟨fun ch hc=>?_,?_,fun ch hc=>?_,fun t ch hc e he=>?_⟩
  ·rcases bP.mp hc with q | q
   ·exact A.ne ch q
   ·rw[bC.mp q];simp
  ·rw[fT,bZ]
   simpa using A.perm.append_right [p]
  ·rcases bP.mp hc with q | q
   ·exact A.chn ch q
   ·rw[bC.mp q];simp
  ·by_cases ht:t < cs.length
   ·rw[bG ht] at hc
    exact hold t ch hc e he
   ·have hl:=(aG.mp hc).1
    rw[bB,eN] at hl
    have:t=cs.length:=by omega
    subst this
    rw[cC (aQ _),eG] at hc
    cases hc
    have:=hnew e (bC.mp he)
    rw[h] at this
    exact this
 ·rw[if_neg h]
  have hlt:turnOf cs p < cs.length:=by omega
  have hg:cs.getD (turnOf cs p) []=cs[turnOf cs p]:=by rw[aO,aC hlt];rfl
  rw[hg]
  have htk:Kh p cs[turnOf cs p]=true:=List.findIdx_getElem (w:=hlt)
  have hmem:cs[turnOf cs p]∈cs:=cN hlt
  refine ⟨fun ch hc=>?_,?_,fun ch hc=>?_,fun t ch hc e he=>?_⟩
  ·rcases fV hc with q | q
   ·exact A.ne ch q
   ·rw[q];simp
  ·have hsplit:cs=cs.take (turnOf cs p)++cs[turnOf cs p]::cs.drop (turnOf cs p+1):=by
    rw[<- hV hlt,gZ]
   have hset:cs.set (turnOf cs p) (cs[turnOf cs p]++[(p,De cs (turnOf cs p)++[p])])=cs.take (turnOf cs p)++(cs[turnOf cs p]++[(p,De cs (turnOf cs p)++[p])])::cs.drop (turnOf cs p+1):=List.set_eq_take_append_cons_drop.trans (if_pos hlt)
   rw[hset]
   have hper:=A.perm
   rw[hsplit] at hper
   simp only[fT,dN,bZ,aL,cU] at hper ⊢
   refine sH ?_ (hper.append_right [p])
   simp only[dO]
   refine kK _ (kK _ ?_)
   exact List.perm_append_comm
  ·rcases fV hc with q | q
   ·exact A.chn ch q
   ·rw[q]
    refine gH.mpr ⟨A.chn _ hmem,by simp,fun a ha b hb=>?_⟩
    rw[bC.mp hb]
    show B0 a.1.2 p.2=true
    cases hgl:cs[turnOf cs p].getLast? with
    | none=>unfold Kh at htk;rw[hgl] at htk;cases htk
    | some e=>
     have hbe:B0 e.1.2 p.2=true:=by unfold Kh at htk;rw[hgl] at htk;exact htk
     by_cases hae:a=e
     ·rw[hae];exact hbe
     ·obtain ⟨ini,hini⟩:=mM.mp hgl
      have hch:=A.chn _ hmem
      rw[hini] at hch ha
      rcases bP.mp ha with q2 | q2
      ·exact Afo ((gH.mp hch).2.2 a q2 e (by simp)) hbe
      ·exact absurd (bC.mp q2) hae
  ·by_cases ht:t=turnOf cs p
   ·rw[ht,bI hlt] at hc
    cases hc
    rcases bP.mp he with q | q
    ·rw[ht];exact hold _ _ (aC hlt) e q
    ·rw[ht];exact hnew e (bC.mp q)
   ·rw[bD (eW ht)] at hc
    exact hold t ch hc e he
noncomputable def Dz(qs:List P3):List (List En):=qs.foldl lay []
theorem Xv:∀ (qs:List P3) (cs:List (List En)) (dn:List P3),Laid cs dn->(dn++qs).Pairwise LeK->(dn++qs).Nodup->Laid (qs.foldl lay cs) (dn++qs)
 | [],cs,dn,A,_,_=>by rw[aU];exact A
 | p::qs,cs,dn,A,h,hn=>by
  have e:dn++p::qs=(dn++[p])++qs:=by simp
  obtain ⟨_,_,h3⟩:=gH.mp h
  obtain ⟨_,_,n3⟩:=eB.mp hn
  have A':=A.step (p:=p) (fun c hc=>h3 c hc p (by simp)) fun hp=>n3 p hp p (by simp) rfl
  rw[e] at h hn ⊢
  exact Xv qs _ _ A' h hn
theorem Jt(qs:List P3)(h:qs.Pairwise LeK)(hn:qs.Nodup):Laid (Dz qs) qs:=Xv qs [] [] Laid.start h hn
theorem Ki{c:FT}{f:FS}(h:c δ L=some (false,L')):B8 c f Bl δ L=some (.nx δ,L'):=by
 rw[fIfS_eq,h];rfl
variable {L1:UH}
theorem Ahu{c d:FT}{L2:UH}(h:c δ L=some (false,L1))(h2:d δ L1=some (false,L2)):fOr c d δ L=some (false,L2):=by
 rw[fOr_eq,h]
 exact h2
theorem Dc{f:FE}{b:Bool}(h:f δ L=some (.bl b,L')):Ax f δ L=some (b,L'):=by
 rw[fTest_eq,h];rfl
variable {fa fb:FE}
theorem Bd{s:S2}{L2 L3:UH}(h1:fa δ L=some (u,L1))(h2:fb δ L1=some (v,L2))(h:s u v L2=some (w,L3)):f2 s fa fb δ L=some (w,L3):=by
 rw[f2_eq,h1];simp only[aA,h2,h]
variable {k:Nat}{us:List U}
theorem fnN{b:FS}(hn:us.length=k)(h:b (us.map some++bW (n - k) none) L=some (.rt v,L')):fnU n k b us L=some (v,L'):=by
 subst hn
 unfold fnU
 rw[if_pos rfl,h]
 rfl
variable {fe:FE}
theorem Du(e:fe δ L=some (v,L')):Cf fe δ L=some (.rt v,L'):=by rw[fRet_eq,e];rfl
theorem Cv{s:SC}{L2:UH}(h:fa δ L=some (u,L1))(e:s [u] L1=some (v,L2)):(Ap s (Ac fa Af)) δ L=some (v,L2):=by
 rw[fCall_eq,fCons_eq,h];exact e
theorem Kp{f:FN}{L2:UH}(h:fa δ L=some (u,L1))(h2:fb δ L1=some (w,L2))(e:f [u,w] L2=some (v,L')):(Ay 2 f (Ac fa (Ac fb Af))) δ L=some (v,L'):=by
 rw[fOwn_eq,fCons_eq,h]
 simp only[aA,fCons_eq,h2,fNil_eq,aF,aY,cB,if_true,e]
variable {fc:FE}
theorem Ak3{f:FN}{x:U}{L2 L3:UH}(h:fa δ L=some (u,L1))(h2:fb δ L1=some (w,L2))(h3:fc δ L2=some (x,L3))(e:f [u,w,x] L3=some (v,L')):(Ay 3 f (Ac fa (Ac fb (Ac fc Af)))) δ L=some (v,L'):=by
 rw[fOwn_eq,fCons_eq,h]
 simp only[aA,fCons_eq,h2,h3,fNil_eq,aF,aY,cB,if_true,e]
variable {l:List U}
theorem Aak(h:l[k]? = some u):L2.atI l (k:Int)=some u:=by
 have:=(aG.mp h).1
 rw[Je (by omega) (by omega),dZ,h]
theorem R0{i:Int}(h:L[n]? = some (.lst l))(hu:L2.atI l i=some u):Ak (.ref n) (.int i) L=some (u,L):=by
 rw[semIx_ref,Al h]
 simp only[aA,hu,aF]
theorem Ahi(h:fa δ L=some (u,L')):(C0 (Ac fa Af)) δ L=some (.tup [u],L'):=by
 rw[Nt,fCons_eq,h]
 simp only[aA,fNil_eq,aF]
 rw[if_pos (small_of (by show 1<=16777216;decide))]
theorem Ame{L2:UH}(h:fa δ L=some (u,L1))(h2:fb δ L1=some (v,L2)):(C0 (Ac fa (Ac fb Af))) δ L=some (.tup [u,v],L2):=by
 rw[Nt,fCons_eq,h,aA,fCons_eq,h2]
 simp only[aA,fNil_eq,aF]
 rw[if_pos (small_of (by show 2<=16777216;decide))]
theorem Yq(l:List Int):mapO toI (l.map U.int)=some l:=by
 induction l with
 | nil=>rfl
 | cons a r ih=>simp only[aL,mapO,toI,ih,aA,aF]
theorem Wt(δ:UE)(L:UH):(Cu Af) δ L=some (.ref L.length,L++[.lst []]):=by
 rw[fLst_eq,fNil_eq];rfl
theorem atI_last{β:Type}{l:List β}{a:β}(h:l.getLast? = some a):L2.atI l (-1)=some a:=by
 have hl:l≠[]:=by rintro rfl;cases h
 have hn:0 < l.length:=dW.mpr hl
 unfold L2.atI L2.ixN
 rw[if_neg (by decide)]
 have e:-(l.length:Int)<=-1:=by omega
 rw[if_pos e]
 have e2:((-1:Int)+(l.length:Int)).toNat=l.length - 1:=by omega
 rw[mN] at h
 simp[e2,h]
theorem Afm(a b:List U)(h:a.length+b.length<=1000)(L:UH):Bq (.tup a) (.tup b) L=some (.tup (a++b),L):=by
 cases a with
 | nil=>rfl
 | cons x a=>
  show Bc (.tup (x::a)) (.tup b) L=_
  unfold Bc
  simp only
  rw[if_pos ⟨rfl,small_of (by omega)⟩]
noncomputable def nmU(q:P3):U:=.str q.1
noncomputable def eU(e:En):U:=.tup [p3U e.1,.tup (e.2.map nmU)]
structure CH(M:UH)(lo c:Nat)(rs:List Nat)(cs:List (List En)):Prop where
 at_:M[c]? = some (.lst (rs.map U.ref))
 len:rs.length=cs.length
 ch:∀ (i r:Nat) (l:List En),rs[i]? = some r->cs[i]? = some l->M[r]? = some (.lst (l.map eU))
 nd:rs.Nodup
 nc:c∉rs
 lo:lo<=c/\∀ r∈rs,lo<=r
variable {M':UH}{lo:Nat}{rs:List Nat}
theorem CH.gw{c:Nat}(A:CH M lo c rs cs)(g:Gw M M'):CH M' lo c rs cs:=⟨g.get A.at_,A.len,fun i r l h1 h2=>g.get (A.ch i r l h1 h2),A.nd,A.nc,A.lo⟩
theorem CH.get{c:Nat}(A:CH M lo c rs cs){l:List En}(h:cs[i]? = some l):∃ r,rs[i]? = some r/\M[r]? = some (.lst (l.map eU)):=by
 have hi:=(aG.mp h).1
 have hr:i < rs.length:=by rw[A.len];exact hi
 exact ⟨rs[i],aC hr,A.ch i _ l (aC hr) h⟩
variable {r:Nat}
theorem Vw{l:List En}{e:En}(h:M[r]? = some (.lst (l.map eU)))(he:l.getLast? = some e):Ak (.ref r) (.int (-1)) M=some (eU e,M):=R0 h (atI_last (by rw[qV,he];rfl))
theorem Afp(δ:UE)(L:UH):(J7 (fC (.int 1))) δ L=some (.int (-1),L):=rfl
theorem Afr{l:List En}{e:En}(h:M[r]? = some (.lst (l.map eU)))(he:l.getLast? = some e)(p:P3)(x0 x2:Option U):∃ x,(Ny (Ay 2 Ci (Ac (Ay 1 Bn (Ac (f2 Ak (f2 Ak (Aa 3) (J7 (fC (.int 1)))) (fC (.int 0))) Af)) (Ac (Ay 1 Bn (Ac (Aa 1) Af)) Af)))) [x0,some (p3U p),x2,some (.ref r)] M=some (Kh p l,M++x):=by
 obtain ⟨x,ex⟩:=lies_ok e.1.2 p.2 M
 refine ⟨x,?_⟩
 have t:Kh p l=B0 e.1.2 p.2:=by unfold Kh;rw[he]
 have a1:(f2 Ak (f2 Ak (Aa 3) (J7 (fC (.int 1)))) (fC (.int 0))) [x0,some (p3U p),x2,some (.ref r)] M=some (p3U e.1,M):=Bd (Bd rfl (Afp _ M) (Vw h he)) rfl rfl
 have a2:(Ay 1 Bn (Ac (f2 Ak (f2 Ak (Aa 3) (J7 (fC (.int 1)))) (fC (.int 0))) Af)) [x0,some (p3U p),x2,some (.ref r)] M=some (pr e.1.2,M):=by
  rw[fOwn_eq,fCons_eq,a1]
  simp only[aA,fNil_eq,aF,aY,cB,if_true,Hy]
 have a3:(Ay 1 Bn (Ac (Aa 1) Af)) [x0,some (p3U p),x2,some (.ref r)] M=some (pr p.2,M):=Nw rfl (Hy p M)
 rw[t,fTru_eq,Kp a2 a3 ex]
 rfl
theorem Agz{c:Nat}(A:CH M lo c rs cs)(hne:∀ ch∈cs,ch≠[])(p:P3):∃ M',Eb [.ref c,p3U p] M=some (.int (turnOf cs p:Nat),M')/\Gw M M':=by
 have hsq:=Al A.at_
 have hen:(enU (rs.map U.ref)).length=cs.length:=by simp[enU,A.len]
 have hi:(Uo (Ac (Aa 0) Af)) [some (.ref c),some (p3U p),none,none] M=some (.enm c,M):=by
  unfold Uo
  have v:Aa 0 [some (.ref c),some (p3U p),none,none] M=some (.ref c,M):=rfl
  simp only[fCons_eq,v,aA,fNil_eq,aF,hsq]
 have key:=Ab5 (us:=enU (rs.map U.ref)) (it:=.enm c) (body:=Dl) (g:=(MR.gTup 2 (MR.gCons (gN 2) (MR.gCons (gN 3) MR.gNil))))
  (fun k δ L=>(∃ y2 y3,δ = [some (.ref c),some (p3U p),y2,y3])/\Gw M L) (fun k L=>Gw M L) (fun k=>Kh p (cs.getD k [])) (fun k=>.int (k:Int)) hi (by rw[Ahd hsq];exact aQ _)
  (fun k δ L _ zz=>by obtain ⟨_,g⟩:=zz;exact Am2 (Al (g.get A.at_))) ⟨⟨_,_,rfl⟩,Gw.refl _⟩
  (fun k u δ L hu zz=>by
   obtain ⟨⟨y2,y3,hδ⟩,g⟩:=zz
   subst hδ
   have hk:=(aG.mp hu).1
   rw[hen] at hk
   have:(enU (rs.map U.ref))[k]? = ((rs.map U.ref)[k]?).map fun u=>U.tup [.int (k:Int),u]:=by simp[enU]
   rw[this,bA] at hu
   obtain ⟨w,hw,rfl⟩:=aH.mp hu
   obtain ⟨r,hr,rfl⟩:=aH.mp hw
   have hc:cs[k]? = some cs[k]:=aC hk
   have hg:cs.getD k []=cs[k]:=by rw[aO,hc];rfl
   have hm:=g.get (A.ch k r _ hr hc)
   obtain ⟨e,he⟩:∃ e,cs[k].getLast? = some e:=by
    cases hg:cs[k].getLast? with
    | none=>exact absurd (hZ.mp hg) (hne _ (cN hk))
    | some e=>exact ⟨e,rfl⟩
   obtain ⟨x,ex⟩:=Afr hm he p (some (.ref c)) (some (.int (k:Int)))
   refine ⟨[some (.ref c),some (p3U p),some (.int (k:Int)),some (.ref r)],L,rfl,fun hs=>⟨L++x,?_,g.trans (Gw.new _ _)⟩,fun hs=>⟨[some (.ref c),some (p3U p),some (.int (k:Int)),some (.ref r)],L++x,?_,⟨_,_,rfl⟩,g.trans (Gw.new _ _)⟩⟩
   ·rw[hg] at hs
    rw[hs] at ex
    unfold Dl
    rw[fIfS_eq,ex]
    rfl
   ·rw[hg] at hs
    rw[hs] at ex
    exact Ki ex)
 have hb:∀ v M',(Fx (Uo (Ac (Aa 0) Af)) (MR.gTup 2 (MR.gCons (gN 2) (MR.gCons (gN 3) MR.gNil))) Dl) [some (.ref c),some (p3U p),none,none] M=some (.rt v,M')->Eb [.ref c,p3U p] M=some (v,M'):=fun v M' h=>by
  refine fnN rfl ?_
  unfold Gh
  show Ar _ _ [some (.ref c),some (p3U p),none,none] M=_
  rw[fSeq_eq,h];rfl
 rw[hen] at key
 rcases key with ⟨j,hj,hs,hall,L',e,g⟩ | ⟨hall,δ',L',e,⟨y2,y3,hδ⟩,g⟩
 ·refine ⟨L',?_,g⟩
  have ht:turnOf cs p=j:=by
   unfold turnOf
   rw[List.findIdx_eq hj]
   refine ⟨by rw[aO,aC hj] at hs;exact hs,fun i hi=>?_⟩
   have:=hall i hi
   rw[aO,aC (by omega)] at this
   exact this
  rw[ht]
  exact hb _ _ e
 ·refine ⟨L',?_,g⟩
  have ht:turnOf cs p=cs.length:=by
   unfold turnOf
   rw[List.findIdx_eq_length]
   intro ch hc
   obtain ⟨i,hi,rfl⟩:=cY hc
   have:=hall i hi
   rw[aO,aC hi] at this
   exact this
  rw[ht,<- A.len]
  rw[hδ] at e
  refine fnN rfl ?_
  unfold Gh
  show Ar _ _ [some (.ref c),some (p3U p),none,none] M=_
  rw[Aj e]
  have:=Fs (g.get A.at_)
  rw[aI] at this
  exact Du (Cv rfl this)
theorem Aa0{c:Nat}(A:CH M lo c rs cs)(hne:∀ ch∈cs,ch≠[]){t:Nat}(ht:t<=cs.length)(x0 x2 x4:Option U) :
  (fIf (Ax (f2 Qk (Aa 3) (fC (.int 0)))) (f2 Ak (f2 Ak (f2 Ak (Aa 1) (f2 Gq (Aa 3) (fC (.int 1)))) (J7 (fC (.int 1)))) (fC (.int 1))) (C0 Af)) [x0,some (.ref c),x2,some (.int (t:Nat)),x4] M=some (.tup ((De cs t).map nmU),M):=by
 rw[Amy]
 cases t with
 | zero=>
  have c1:(Ax (f2 Qk (Aa 3) (fC (.int 0)))) [x0,some (.ref c),x2,some (.int ((0:Nat):Int)),x4] M=some (false,M):=rfl
  rw[c1]
  rfl
 | succ t=>
  have c1:(Ax (f2 Qk (Aa 3) (fC (.int 0)))) [x0,some (.ref c),x2,some (.int ((t+1:Nat):Int)),x4] M=some (decide ((0:Int) < ((t+1:Nat):Int)),M):=rfl
  have d1:decide ((0:Int) < ((t+1:Nat):Int))=true:=by simp
  rw[c1,d1]
  simp only[aA,if_true]
  have hc:cs[t]? = some cs[t]:=aC (by omega)
  obtain ⟨r,hr,hm⟩:=A.get hc
  obtain ⟨e,he⟩:∃ e,cs[t].getLast? = some e:=by
   cases hg:cs[t].getLast? with
   | none=>exact absurd (hZ.mp hg) (hne _ (cN (by omega)))
   | some e=>exact ⟨e,rfl⟩
  have hcr:De cs (t+1)=e.2:=by
   show ((cs.getD t []).getLast?.map (·.2)).getD []=e.2
   rw[aO,hc]
   simp[he]
  rw[hcr]
  have s:(f2 Gq (Aa 3) (fC (.int 1))) [x0,some (.ref c),x2,some (.int ((t+1:Nat):Int)),x4] M=some (.int (t:Int),M):=by
   refine Bd rfl rfl ?_
   show some (U.int (((t+1:Nat):Int) - 1),M)=_
   congr 2
   rw[U.int.injEq]
   omega
  exact Bd (Bd (Bd rfl s (R0 A.at_ (Aak (by rw[bA,hr];rfl)))) (Afp _ M) (Vw hm he)) rfl rfl
inductive laid_turn_I(M:UH)(lo:Nat)(c:Nat)(rs:List Nat)(cs:List (List En))(p:P3)(x0:Option U)(x3:Option U)(x4:Option U):Prop
 | mk (y3 y4:Option U) (rs':List Nat) (M':UH) (h0:Eh [x0,some (.ref c),some (p3U p),x3,x4] M=some (.nx [x0,some (.ref c),some (p3U p),y3,y4],M')) (h1:CH M' lo c rs' (lay cs p)) (h2:(∀ L,L.length<=lo->Gw L M->Gw L M')) (h3:(∀ b o,b≠c->b∉rs->M[b]? = some o->M'[b]? = some o/\b∉rs')):laid_turn_I M lo c rs cs p x0 x3 x4
theorem Aeq{c:Nat}(A:CH M lo c rs cs)(hlo:lo<=M.length)(hne:∀ ch∈cs,ch≠[])(hl:cs.length<=60)(hll:∀ ch∈cs,ch.length<=60)(p:P3)(hcr:(De cs (turnOf cs p)).length<=60)(x0 x3 x4:Option U):laid_turn_I M lo c rs cs p x0 x3 x4:=by
 obtain ⟨M1,e1,g1⟩:=Agz A hne p
 have ht:turnOf cs p<=cs.length:=kE
 have s1:=C8 (i:=3) (Kp (fa:=Aa 1) (fb:=Aa 2) (δ:=[x0,some (.ref c),some (p3U p),x3,x4]) rfl rfl e1)
 simp only[aR,aS] at s1
 have A1:=A.gw g1
 have s2:=C8 (i:=4) (Aa0 A1 hne ht x0 (some (p3U p)) x4)
 simp only[aR,aS] at s2
 have hln:=Fs A1.at_
 rw[aI,A1.len] at hln
 have c3:(Ax (f2 A8 (Aa 3) (Ap Aw (Ac (Aa 1) Af)))) [x0,some (.ref c),some (p3U p),some (.int (turnOf cs p:Nat)),some (.tup ((De cs (turnOf cs p)).map nmU))] M1=some (((turnOf cs p:Nat):Int) == (cs.length:Int),M1):=Dc (Bd rfl (Cv rfl hln) rfl)
 have hcs:=(aG.mp A1.at_).1
 generalize hcw:De cs (turnOf cs p)=cw at s2 c3 hcr
 have ent:∀ M2:UH,(C0 (Ac (Aa 2) (Ac (f2 Bq (Aa 4) (C0 (Ac (f2 Ak (Aa 2) (fC (.int 0))) Af))) Af))) [x0,some (.ref c),some (p3U p),some (.int (turnOf cs p:Nat)),some (.tup (cw.map nmU))] M2=some (eU (p,cw++[p]),M2):=fun M2=>by
  have a1:=Bd (s:=Bq) (fa:=Aa 4) (fb:=C0 (Ac (f2 Ak (Aa 2) (fC (.int 0))) Af)) (δ:=[x0,some (.ref c),some (p3U p),some (.int (turnOf cs p:Nat)),some (.tup (cw.map nmU))]) (L:=M2) rfl (Ahi (Bd rfl rfl rfl)) (Afm (cw.map nmU) [nmU p] (by rw[aI];simp;omega) M2)
  have a2:=Ame (fa:=Aa 2) (δ:=[x0,some (.ref c),some (p3U p),some (.int (turnOf cs p:Nat)),some (.tup (cw.map nmU))]) (L:=M2) rfl a1
  rw[a2]
  unfold eU
  rw[bZ]
  rfl
 have lays:lay cs p=if turnOf cs p=cs.length then cs++[[(p,cw++[p])]] else cs.set (turnOf cs p) (cs.getD (turnOf cs p) []++[(p,cw++[p])]):=by unfold lay;rw[hcw]
 by_cases h:turnOf cs p=cs.length
 ·have hb:(((turnOf cs p:Nat):Int) == (cs.length:Int))=true:=by rw[h];simp
  rw[hb] at c3
  have ap:=Iw (.ref M1.length) ((Gw.new M1 [HU.lst []]).get A1.at_) (by rw[aI,A1.len];omega)
  have ty:=Gg A1.at_
  have s3:(B8 (Ax (f2 A8 (Aa 3) (Ap Aw (Ac (Aa 1) Af)))) (Di (Ck "list" C5 (Aa 1) (Ac (Cu Af) Af))) Bl) [x0,some (.ref c),some (p3U p),some (.int (turnOf cs p:Nat)),some (.tup (cw.map nmU))] M1=some (.nx [x0,some (.ref c),some (p3U p),some (.int (turnOf cs p:Nat)),some (.tup (cw.map nmU))],(M1++[HU.lst []]).set c (.lst (rs.map U.ref++[.ref M1.length]))):=by
   rw[fIfS_eq,c3]
   simp only[aA,if_true]
   have v:Aa 1 [x0,some (.ref c),some (p3U p),some (.int (turnOf cs p:Nat)),some (.tup (cw.map nmU))] M1=some (.ref c,M1):=rfl
   rw[Fy,fMeth_eq,v]
   simp only[aA,ty,if_true]
   rw[fCons_eq,Wt]
   simp only[aA,fNil_eq,aF,ap]
  have hcn:c≠M1.length:=by omega
  have q1:((M1++[HU.lst []]).set c (.lst (rs.map U.ref++[.ref M1.length])))[c]? = some (.lst ((rs++[M1.length]).map U.ref)):=by
   rw[bI (by simp;omega),bZ];rfl
  have q2:((M1++[HU.lst []]).set c (.lst (rs.map U.ref++[.ref M1.length])))[M1.length]? = some (.lst []):=by
   rw[bD hcn];simp
  have q3:∀ b o,b≠c->M1[b]? = some o->((M1++[HU.lst []]).set c (.lst (rs.map U.ref++[.ref M1.length])))[b]? = some o:=fun b o hb ho=>by
   rw[bD (eW hb)];exact (Gw.new M1 _).get ho
  have qg:∀ L,L.length<=lo->Gw L M1->Gw L ((M1++[HU.lst []]).set c (.lst (rs.map U.ref++[.ref M1.length]))):=fun L hL g=>(g.trans (Gw.new _ _)).set (by have:=A.lo.1;omega) _
  have ql:M1.length < ((M1++[HU.lst []]).set c (.lst (rs.map U.ref++[.ref M1.length]))).length:=by simp
  generalize (M1++[HU.lst []]).set c (.lst (rs.map U.ref++[.ref M1.length]))=M2 at s3 q1 q2 q3 qg ql
  have hix:Ak (.ref c) (.int (turnOf cs p:Nat)) M2=some (.ref M1.length,M2):=R0 q1 (Aak (by rw[h,<- A1.len];simp))
  have ap2:=Iw (eU (p,cw++[p])) q2 (by simp)
  have ty2:=Gg q2
  have hrsn:M1.length∉rs:=fun hm=>by
   obtain ⟨i,hi,he⟩:=cY hm
   have hci:i < cs.length:=by rw[<- A1.len];exact hi
   have:=(aG.mp (A1.ch i rs[i] _ (aC hi) (aC hci))).1
   omega
  refine ⟨some (.int (turnOf cs p:Nat)),some (.tup (cw.map nmU)),rs++[M1.length],M2.set M1.length (.lst ([]++[eU (p,cw++[p])])),?_,?_,fun L hL g=>(qg L hL (g.trans g1)).set (by have:=(g.trans g1).le;omega) _,fun b o hb hbr ho=>?_⟩
  ·unfold Eh
   rw[Aj s1,Aj s2,Aj s3]
   have v:(f2 Ak (Aa 1) (Aa 3)) [x0,some (.ref c),some (p3U p),some (.int (turnOf cs p:Nat)),some (.tup (cw.map nmU))] M2=some (.ref M1.length,M2):=Bd rfl rfl hix
   rw[Fy,fMeth_eq,v]
   simp only[aA,ty2,if_true]
   rw[fCons_eq,ent M2]
   simp only[aA,fNil_eq,aF,ap2]
  ·rw[lays,if_pos h]
   refine ⟨?_,by simp[A1.len],fun i r l h1 h2=>?_,?_,?_,A.lo.1,fun r hr=>?_⟩
   ·rw[bD (eW hcn)];exact q1
   ·by_cases hi:i < cs.length
    ·rw[bG (by rw[A1.len];exact hi)] at h1
     rw[bG hi] at h2
     have hrm:r∈rs:=aW h1
     have hx:M1.length≠r:=fun e=>hrsn (by rw[e];exact hrm)
     rw[bD hx]
     exact q3 r _ (fun e:r=c=>A1.nc (by rw[<- e];exact hrm)) (A1.ch i r l h1 h2)
    ·have hl2:=(aG.mp h2).1
     rw[bB,eN] at hl2
     have:i=cs.length:=by omega
     subst this
     rw[cC (aQ _),eG] at h2
     cases h2
     rw[<- A1.len,cC (aQ _),eG] at h1
     cases h1
     rw[bI ql]
     rfl
   ·exact eB.mpr ⟨A1.nd,by simp,fun a ha b hb e=>hrsn (by rw[bC.mp hb] at e;exact e ▸ ha)⟩
   ·intro hm
    rcases bP.mp hm with q | q
    ·exact A1.nc q
    ·exact hcn (bC.mp q)
   ·rcases bP.mp hr with q | q
    ·exact A1.lo.2 r q
    ·rw[bC.mp q];have:=g1.le;omega
  ·have hbl:=(aG.mp ho).1
   have:=g1.le
   have hx:M1.length≠b:=by omega
   refine ⟨?_,fun hm=>?_⟩
   ·rw[bD hx];exact q3 b o hb (g1.get ho)
   ·rcases bP.mp hm with q | q
    ·exact hbr q
    ·exact hx (bC.mp q).symm
 ·have hb:(((turnOf cs p:Nat):Int) == (cs.length:Int))=false:=by simp;omega
  rw[hb] at c3
  have hlt:turnOf cs p < cs.length:=by omega
  have hc:cs[turnOf cs p]? = some cs[turnOf cs p]:=aC hlt
  obtain ⟨r,hr,hm⟩:=A1.get hc
  have hrm:r∈rs:=aW hr
  have hrl:=(aG.mp hm).1
  have hix:Ak (.ref c) (.int (turnOf cs p:Nat)) M1=some (.ref r,M1):=R0 A1.at_ (Aak (by rw[bA,hr];rfl))
  have ap:=Iw (eU (p,cw++[p])) hm (by rw[aI];have:=hll _ (cN hlt);omega)
  have ty:=Gg hm
  refine ⟨some (.int (turnOf cs p:Nat)),some (.tup (cw.map nmU)),rs,M1.set r (.lst (cs[turnOf cs p].map eU++[eU (p,cw++[p])])),?_,?_,fun L hL g=>(g.trans g1).set (by have:=A1.lo.2 r hrm;omega) _,fun b o hb hbr ho=>⟨?_,hbr⟩⟩
  ·unfold Eh
   rw[Aj s1,Aj s2,Aj (Ki c3)]
   have v:(f2 Ak (Aa 1) (Aa 3)) [x0,some (.ref c),some (p3U p),some (.int (turnOf cs p:Nat)),some (.tup (cw.map nmU))] M1=some (.ref r,M1):=Bd rfl rfl hix
   rw[Fy,fMeth_eq,v]
   simp only[aA,ty,if_true]
   rw[fCons_eq,ent M1]
   simp only[aA,fNil_eq,aF,ap]
  ·rw[lays,if_neg h]
   have hg:cs.getD (turnOf cs p) []=cs[turnOf cs p]:=by rw[aO,hc];rfl
   rw[hg]
   refine ⟨?_,by simp[A1.len],fun i r' l h1 h2=>?_,A1.nd,A1.nc,A1.lo⟩
   ·have hx:r≠c:=fun e=>A1.nc (by rw[<- e];exact hrm)
    rw[bD hx];exact A1.at_
   ·by_cases hi:i=turnOf cs p
    ·rw[hi,hr] at h1
     cases h1
     rw[hi,bI hlt] at h2
     cases h2
     rw[bI hrl,bZ]
     rfl
    ·rw[bD (eW hi)] at h2
     have hne2:r≠r':=fun e=>by
      subst e
      obtain ⟨i1,e1⟩:=aG.mp h1
      obtain ⟨i2,e2⟩:=aG.mp hr
      have hpw:=hU.mp (iZ.mp A1.nd)
      rcases qW i (turnOf cs p) with q | q | q
      ·exact hpw i _ i1 i2 q (e1.trans e2.symm)
      ·exact hi q
      ·exact hpw _ i i2 i1 q (e2.trans e1.symm)
     rw[bD hne2]
     exact A1.ch i r' l h1 h2
  ·have hx:r≠b:=fun e=>hbr (by rw[<- e];exact hrm)
   rw[bD hx];exact g1.get ho
theorem key_of_ok(p:P3)(L:UH):Od Bn L (p3U p)=some (Rl p.2):=by
 unfold Od
 rw[Hy p L]
 simp only[aA,if_true]
 rfl
theorem Ab1(L:UH):∀ ps:List P3,mapO (Od Bn L) (ps.map p3U)=some (ps.map fun p=>Rl p.2)
 | []=>rfl
 | p::ps=>by
  rw[aL,aL]
  simp only[mapO,key_of_ok,Ab1 L ps,aA,aF]
theorem Afk(hl:ps.length<=60)(h:Aa 0 δ L=some (.tup (ps.map p3U),L)):Ni Bn (Aa 0) δ L=some (.ref L.length,L++[.lst ((srt ps).map p3U)]):=by
 have hall:((ps.map fun p=>Rl p.2).all fun t=>!t.isEmpty)=true:=by
  rw[cF]
  intro t ht
  obtain ⟨p,_,rfl⟩:=bJ.mp ht
  rfl
 unfold Ni
 rw[h]
 simp only[aA,Ab1]
 rw[if_pos ⟨by rw[aI];omega,hall⟩]
 have:(srt ps).map p3U=(SO.Ee (ltK (ps.map fun p=>Rl p.2)) (ps.map p3U).length).map fun i=>(ps.map p3U).getD i .non:=by
  unfold srt Ah5
  rw[cE,aI]
  refine jD fun i hi=>?_
  have hi:i < ps.length:=eI.mp ((Nl ps).mem_iff.mp hi)
  show p3U (ps.getD i Ad3)=(ps.map p3U).getD i .non
  rw[aO,aO,bA,aC hi]
  rfl
 rw[this]
theorem Ae9(cs:List (List En))(h:∀ ch∈cs,ch≠[]):cs.length<=cs.flatten.length/\∀ ch∈cs,ch.length<=cs.flatten.length:=by
 induction cs with
 | nil=>simp
 | cons c cs ih=>
  obtain ⟨i1,i2⟩:=ih fun ch hc=>h ch (aT _ hc)
  have:0 < c.length:=dW.mpr (h c (aX ..))
  rw[dN,bB,aY]
  refine ⟨by omega,fun ch hc=>?_⟩
  rcases bH.mp hc with e | e
  ·rw[e];omega
  ·have:=i2 ch e;omega
theorem Laid.lens(A:Laid cs dn):cs.length<=dn.length/\∀ ch∈cs,ch.length<=dn.length:=by
 have h:=Ae9 cs A.ne
 have e:=A.perm.length_eq
 rw[aI] at e
 rw[e] at h
 exact h
theorem Qc{β:Type}[DecidableEq β]{a b:List β}(h:a.Nodup)(hs:∀ x∈a,x∈b):a.length<=b.length:=by
 induction a generalizing b with
 | nil=>exact eD _
 | cons x a ih=>
  obtain ⟨h1,h2⟩:=iB.mp h
  have hx:=hs x (aX ..)
  have:=ih (b:=b.erase x) h2 fun y hy=>(pD (fun e:y=x=>h1 (by rw[<- e];exact hy))).mpr (hs y (aT _ hy))
  rw[nD hx] at this
  have:0 < b.length:=List.length_pos_of_mem hx
  rw[aY];omega
theorem Abw(hl:ps.length<=60)(hn:ps.Nodup)(L:UH):∃ (rs:List Nat) (L':UH),Ga [.tup (ps.map p3U)] L=some (.ref L.length,L')/\CH L' L.length L.length rs (Dz (srt ps))/\Gw L L':=by
 have hup:=Vv ps
 have hnd:(srt ps).Nodup:=(Gy ps).nodup_iff.mpr hn
 have hlen:(srt ps).length<=60:=by rw[(Gy ps).length_eq];exact hl
 have s1:=C8 (i:=1) (Wt [some (.tup (ps.map p3U)),none,none,none,none] L)
 simp only[aR,aS] at s1
 have e2:=Afk (ps:=ps) hl (δ:=[some (.tup (ps.map p3U)),some (.ref L.length),none,none,none]) (L:=L++[.lst []]) rfl
 generalize hqs:srt ps=qs at hup hnd hlen e2
 have hs:(L++[HU.lst []]++[HU.lst (qs.map p3U)])[(L++[HU.lst []]).length]? = some (.lst (qs.map p3U)):=by simp
 have hi:Bb (Ni Bn (Aa 0)) [some (.tup (ps.map p3U)),some (.ref L.length),none,none,none] (L++[.lst []])=some (.ref (L++[HU.lst []]).length,L++[HU.lst []]++[HU.lst (qs.map p3U)]):=by
  rw[Dq,e2]
  simp only[aA,Dg (Al hs),aF]
 have hsl:L.length≠(L++[HU.lst []]).length:=by simp
 generalize hsr:(L++[HU.lst []]).length=sr at hs hi hsl
 have hc0:(L++[HU.lst []]++[HU.lst (qs.map p3U)])[L.length]? = some (.lst []):=by simp
 have g0:Gw L (L++[HU.lst []]++[HU.lst (qs.map p3U)]):=(Gw.new _ _).trans (Gw.new _ _)
 generalize L++[HU.lst []]++[HU.lst (qs.map p3U)]=L2 at hs hi hc0 g0
 obtain ⟨δ',L',e,y2,y3,y4,rs,hδ,A,hsr',hsn,gL⟩:=Q6 (us:=qs.map p3U) (n:=sr) (body:=Eh) (g:=gN 2)
  (fun k δ' M=>∃ (y2 y3 y4:Option U) (rs:List Nat),δ'=[some (.tup (ps.map p3U)),some (.ref L.length),y2,y3,y4]/\CH M L.length L.length rs (Dz (qs.take k))/\M[sr]? = some (.lst (qs.map p3U))/\sr∉rs/\Gw L M)
  hi ⟨none,none,none,[],rfl,⟨hc0,rfl,fun i r l h=>by simp at h,.nil,by simp,aQ _,by simp⟩,hs,by simp,g0⟩
  (fun k δ M zz=>by obtain ⟨_,_,_,_,_,_,h,_⟩:=zz;exact Al h)
  (fun k u δ M hu zz=>by
   obtain ⟨y2,y3,y4,rs,hδ,A,hsr',hsn,gL⟩:=zz
   subst hδ
   rw[bA] at hu
   obtain ⟨p,hp,rfl⟩:=aH.mp hu
   have hk:=(aG.mp hp).1
   have hpk:qs.take (k+1)=qs.take k++[p]:=by rw[eA,hp];rfl
   have hu1:(qs.take (k+1)).Pairwise LeK:=hup.sublist (iE _ _)
   have hn1:(qs.take (k+1)).Nodup:=hnd.sublist (iE _ _)
   have B:=Jt (qs.take k) (hup.sublist (iE _ _)) (hnd.sublist (iE _ _))
   rw[hpk] at hu1 hn1
   obtain ⟨_,_,h3⟩:=gH.mp hu1
   obtain ⟨_,_,n3⟩:=eB.mp hn1
   obtain ⟨f1,f2,f3,f4⟩:=Qt B (p:=p) (fun c hc=>h3 c hc p (by simp)) (fun hp=>n3 p hp p (by simp) rfl) (t:=turnOf (Dz (qs.take k)) p) rfl
   have ln:=B.lens
   have htk:(qs.take k).length<=60:=by rw[cH];omega
   have hcl:(De (Dz (qs.take k)) (turnOf (Dz (qs.take k)) p)).length<=60:=cJ (Qc (eB.mp f4).1 f3) htk
   obtain ⟨z3,z4,rs',M',e,A',gk,kp⟩:=Aeq A gL.le B.ne (by omega) (fun ch hc=>cJ (ln.2 ch hc) htk) p hcl (some (.tup (ps.map p3U))) y3 y4
   obtain ⟨k1,k2⟩:=kp sr _ (eW hsl) hsn hsr'
   refine ⟨[some (.tup (ps.map p3U)),some (.ref L.length),some (p3U p),y3,y4],M,rfl,_,M',.inl e,some (p3U p),z3,z4,rs',rfl,?_,k1,k2,gk L (aQ _) gL⟩
   rw[hpk]
   unfold Dz
   rw[mV]
   exact A')
 rw[aI,gR] at A
 rw[hδ] at e
 refine ⟨rs,L',fnN rfl ?_,A,gL⟩
 unfold Oa
 show Ar _ _ [some (.tup (ps.map p3U)),none,none,none,none] L=_
 rw[Aj s1,Aj e]
 rfl
noncomputable def chU(ch:List En):U:=.tup (ch.map fun e=>nmU e.1)
theorem R6{l:List En}(h:M[r]? = some (.lst (l.map eU)))(hl:l.length<=1000):∃ M',Jy [.ref r] M=some (chU l,M')/\Gw M M':=by
 have hsq:=Al h
 obtain ⟨x,e⟩:=Cq (ix:=[none,none]) (fi:=Bb (Aa 0)) (it:=.ref r) (g:=(MR.gTup 2 (MR.gCons (gN 0) (MR.gCons (gN 1) MR.gNil)))) (tt:=none) (fe:=Kd) (δ:=[some (.ref r)]) (L:=M) (L0:=M)
  l eU (fun _=>true) (fun e=>nmU e.1) (fun δ=>∃ a b,δ = [a,b]) (by simp only[Dq,fVar_eq,aZ,bT,aF,aA,Dg hsq]) (by rw[Gs hsq];simp) (by omega) ⟨none,none,rfl⟩
  (fun k x=>Lj (Em hsq))
  (fun e δ x _ zz=>by
   obtain ⟨a,b,hδ⟩:=zz
   subst hδ
   refine ⟨[some (p3U e.1),some (.tup (e.2.map nmU))],rfl,⟨_,_,rfl⟩,[],by simp[Jw],fun _=>⟨[],?_⟩⟩
   rw[aU,aU]
   rfl)
 have hff:iH (fun _=>true) l=l:=eM.mpr (fun _ _=>rfl)
 rw[hff] at e
 have q2:A7 (M++x++[HU.lst (l.map fun e=>nmU e.1)]) (M++x).length=some (l.map fun e=>nmU e.1):=Al (by simp)
 refine ⟨M++x++[HU.lst (l.map fun e=>nmU e.1)],fnN rfl (Du (Cv e ?_)),(Gw.new _ _).trans (Gw.new _ _)⟩
 simp only[Bj,q2,aF]
 rfl
noncomputable def Ann(cs:List (List En)):U:=.tup (cs.map chU)
theorem Ag0(hl:ps.length<=60)(hn:ps.Nodup)(L:UH):∃ L',Kz [.tup (ps.map p3U)] L=some (Ann (Dz (srt ps)),L')/\Gw L L':=by
 obtain ⟨rs,L1,e1,A,g1⟩:=Abw hl hn L
 have B:=Jt (srt ps) (Vv ps) ((Gy ps).nodup_iff.mpr hn)
 have ln:=B.lens
 have hl2:=(Gy ps).length_eq
 generalize Dz (srt ps)=cs at A B ln
 have hsq:=Al A.at_
 have hmap:(rs.zip cs).map (fun q=>U.ref q.1)=rs.map U.ref:=by
  have:(rs.zip cs).map (fun q=>U.ref q.1)=((rs.zip cs).map fR).map U.ref:=by rw[cE];rfl
  rw[this,List.map_fst_zip (nZ A.len)]
 have hmap2:(rs.zip cs).map (fun q=>chU q.2)=cs.map chU:=by
  have:(rs.zip cs).map (fun q=>chU q.2)=((rs.zip cs).map cK).map chU:=by rw[cE];rfl
  rw[this,List.map_snd_zip (nZ A.len.symm)]
 have hzl:(rs.zip cs).length=cs.length:=by rw[oK,A.len,Nat.min_self]
 obtain ⟨x,e⟩:=Cq (ix:=[none]) (fi:=Bb (Ay 1 Ga (Ac (Aa 0) Af))) (it:=.ref L.length) (g:=gN 0) (tt:=none) (fe:=Oc) (δ:=[some (.tup (ps.map p3U))]) (L:=L) (L0:=L1)
  (rs.zip cs) (fun q=>U.ref q.1) (fun _=>true) (fun q=>chU q.2) (fun δ=>∃ a,δ = [a]) (by rw[Dq,Nw rfl e1];simp only[aA,Dg hsq,aF]) (by rw[Gs hsq,hzl,aI,A.len];exact aQ _) (by rw[hzl];omega) ⟨none,rfl⟩
  (fun k x=>by rw[hmap];exact Lj (Em hsq))
  (fun q δ x hq zz=>by
   obtain ⟨a,hδ⟩:=zz
   subst hδ
   obtain ⟨i,hi⟩:=List.mem_iff_getElem?.mp hq
   obtain ⟨h1,h2⟩:=List.getElem?_zip_eq_some.mp hi
   have hm:=(Gw.new L1 x).get (A.ch i q.1 q.2 h1 h2)
   obtain ⟨M',e,y,hy⟩:=R6 hm (by have:=ln.2 q.2 (aW h2);omega)
   refine ⟨[some (.ref q.1)],rfl,⟨_,rfl⟩,[],by simp[Jw],fun _=>⟨y,?_⟩⟩
   rw[aU,<- hy]
   exact Nw rfl e)
 have hff:iH (fun _=>true) (rs.zip cs)=rs.zip cs:=eM.mpr (fun _ _=>rfl)
 rw[hff,hmap2] at e
 have q2:A7 (L1++x++[HU.lst (cs.map chU)]) (L1++x).length=some (cs.map chU):=Al (by simp)
 refine ⟨L1++x++[HU.lst (cs.map chU)],fnN rfl (Du (Cv e ?_)),(g1.trans (Gw.new _ _)).trans (Gw.new _ _)⟩
 simp only[Bj,q2,aF]
 rfl
noncomputable def topC(cs:List (List En)):List P3:=De cs cs.length
theorem Wj(s:Str)(l:List Str):inV (.str s) (l.map L2.V.str)=decide (s∈l):=by
 induction l with
 | nil=>rfl
 | cons a r ih=>
  have h1:inV (.str s) (List.map L2.V.str (a::r))=(eqV (.str a) (.str s) || inV (.str s) (r.map L2.V.str)):=rfl
  have h2:eqV (.str a) (.str s)=(a == s):=rfl
  rw[h1,ih,h2]
  by_cases h:a=s
  ·simp[h]
  ·have h':¬ s=a:=fun z=>h z.symm
   simp[h,h']
theorem toV_strs(ts:List Str):mapO toV (ts.map U.str)=some (ts.map L2.V.str):=by
 induction ts with
 | nil=>rfl
 | cons t ts ih=>simp only[aL,mapO,toV,ih,aA,aF]
theorem Aev(ws:List P3):ws.map nmU=(ws.map (·.1)).map U.str:=by rw[cE];rfl
theorem Afa(a:Str)(ws:List P3)(L:UH):Mw false (.str a) (.tup (ws.map nmU)) L=some (.bl ((ws.map (·.1)).contains a),L):=by
 unfold Mw
 simp only[Aev,toV,aA,toV_strs,aF,Wj]
 simp
noncomputable def inC(w:List P3)(p:P3):Bool:=(w.map (·.1)).contains p.1
noncomputable def Aae(ps:List P3):U:=.tup (ps.map nmU)
theorem Af4(hl:ps.length<=60)(hn:ps.Nodup)(L:UH):∃ L',Jh [.tup (ps.map p3U)] L=some (Aae (ps.filter (inC (topC (Dz (srt ps))))),L')/\Gw L L':=by
 obtain ⟨rs,L1,e1,A,g1⟩:=Abw hl hn L
 have B:=Jt (srt ps) (Vv ps) ((Gy ps).nodup_iff.mpr hn)
 have hpe:=(Gy ps).length_eq
 generalize hcs:Dz (srt ps)=cs at A B
 have s1:=C8 (i:=1) (Nw (i:=0) (δ:=[some (.tup (ps.map p3U)),none,none]) rfl e1)
 simp only[aR,aS] at s1
 have tr:Qj (.ref L.length) L1=some (!(rs.map U.ref).isEmpty):=by
  unfold Qj;simp only[A.at_]
 have c2:(X3 (Ny (Aa 1))) [some (.tup (ps.map p3U)),some (.ref L.length),none] L1=some (!!(rs.map U.ref).isEmpty,L1):=by
  have v:Aa 1 [some (.tup (ps.map p3U)),some (.ref L.length),none] L1=some (.ref L.length,L1):=rfl
  rw[Acb,fTru_eq,v]
  simp only[aA,tr,aF]
 have hb:∀ v M',Lo [some (.tup (ps.map p3U)),none,none] L=some (.rt v,M')->Jh [.tup (ps.map p3U)] L=some (v,M'):=fun v M' h=>fnN rfl h
 by_cases hc:cs=[]
 ·subst hc
  have hr:rs=[]:=fN.mp A.len
  subst hr
  refine ⟨L1,hb _ _ ?_,g1⟩
  have hps:ps.filter (inC (topC []))=[]:=kF.mpr fun p _=>by simp[inC,topC,De]
  rw[hps]
  unfold Lo
  rw[Aj s1,fSeq_eq,fIfS_eq,c2]
  rfl
 ·obtain ⟨t,ht⟩:∃ t,cs.length=t+1:=⟨cs.length - 1,by have:=dW.mpr hc;omega⟩
  have hne:(rs.map U.ref).isEmpty=false:=by
   cases rs with
   | nil=>have:=A.len;simp at this;exact absurd this.symm (by omega)
   | cons=>rfl
  rw[hne] at c2
  have hct:cs[t]? = some cs[t]:=aC (by omega)
  obtain ⟨r,hr,hm⟩:=A.get hct
  obtain ⟨e,he⟩:∃ e,cs[t].getLast? = some e:=by
   cases hg:cs[t].getLast? with
   | none=>exact absurd (hZ.mp hg) (B.ne _ (cN (by omega)))
   | some e=>exact ⟨e,rfl⟩
  have htop:topC cs=e.2:=by
   unfold topC
   rw[ht]
   show ((cs.getD t []).getLast?.map (·.2)).getD []=e.2
   rw[aO,hct]
   simp[he]
  have hlast:rs.getLast? = some r:=by
   rw[mN,A.len,ht]
   exact hr
  have s3:=C8 (i:=2) (δ:=[some (.tup (ps.map p3U)),some (.ref L.length),none]) (Bd (s:=Ak) (fb:=fC (.int 1)) (Bd (s:=Ak) (Bd (s:=Ak) (fa:=Aa 1) rfl (Afp _ L1) (R0 A.at_ (atI_last (by rw[qV,hlast];rfl)))) (Afp _ L1) (Vw hm he)) rfl (w:=.tup (e.2.map nmU)) (L3:=L1) rfl)
  simp only[aR,aS] at s3
  rw[htop]
  obtain ⟨x,e4⟩:=Cq (ix:=[none,some 2]) (fi:=Bb (Aa 0)) (it:=.seq (ps.map p3U)) (g:=gN 0) (tt:=some N8) (fe:=N2) (δ:=[some (.tup (ps.map p3U)),some (.ref L.length),some (.tup (e.2.map nmU))]) (L:=L1) (L0:=L1)
   ps p3U (inC e.2) nmU (fun δ=>∃ a,δ = [a,some (.tup (e.2.map nmU))]) rfl (by simp[IU.size]) (by omega) ⟨none,rfl⟩
   (fun k x=>rfl)
   (fun p δ x _ zz=>by
    obtain ⟨y,hδ⟩:=zz
    subst hδ
    refine ⟨[some (p3U p),some (.tup (e.2.map nmU))],rfl,⟨_,rfl⟩,[],?_,fun _=>⟨[],?_⟩⟩
    ·rw[aU]
     exact Dc (Bd (Bd rfl rfl rfl) rfl (Afa p.1 e.2 _))
    ·rw[aU,aU];rfl)
  have q2:A7 (L1++x++[HU.lst ((ps.filter (inC e.2)).map nmU)]) (L1++x).length=some ((ps.filter (inC e.2)).map nmU):=Al (by simp)
  refine ⟨L1++x++[HU.lst ((ps.filter (inC e.2)).map nmU)],hb _ _ ?_,(g1.trans (Gw.new _ _)).trans (Gw.new _ _)⟩
  unfold Lo
  rw[Aj s1,Aj (Ki c2),Aj s3]
  refine Du (Cv e4 ?_)
  simp only[Bj,q2,aF]
  rfl
noncomputable def Ct(ps:List P3)(s:Str):P3:=(ps.find? fun p=>decide (p.1=s)).getD Ad3
variable {s:Str}
theorem Tg(h:s∈ps.map (·.1)):Ct ps s∈ps/\(Ct ps s).1=s:=by
 unfold Ct
 cases hf:ps.find? fun p=>decide (p.1=s) with
 | none=>
  obtain ⟨p,hp,rfl⟩:=bJ.mp h
  have:=qA.mp hf p hp
  simp at this
 | some p=>
  have h1:=List.mem_of_find?_eq_some hf
  have h2:=List.find?_some hf
  exact ⟨h1,by simpa using h2⟩
theorem Agu(hn:(ps.map (·.1)).Nodup){q:P3}(hp:p∈ps)(hq:q∈ps)(h:p.1=q.1):p=q:=by
 induction ps with
 | nil=>cases hp
 | cons a ps ih=>
  rw[aL] at hn
  obtain ⟨n1,n2⟩:=iB.mp hn
  rcases bH.mp hp with e | e
  ·rcases bH.mp hq with f | f
   ·rw[e,f]
   ·subst e
    exact absurd (bJ.mpr ⟨q,f,h.symm⟩) n1
  ·rcases bH.mp hq with f | f
   ·subst f
    exact absurd (bJ.mpr ⟨p,e,h⟩) n1
   ·exact ih n2 e f
theorem U5(hn:(ps.map (·.1)).Nodup)(hp:p∈ps):Ct ps p.1=p:=by
 obtain ⟨h1,h2⟩:=Tg (bJ.mpr ⟨p,hp,rfl⟩)
 exact Agu hn h1 hp h2
theorem Yl(f:P3->U)(ps:List P3)(s:Str):Qw (ps.map fun p=>((cX p.1:L2.Key),f p)) (.inr s)=(ps.find? fun p=>decide (p.1=s)).map f:=by
 unfold Qw
 induction ps with
 | nil=>rfl
 | cons p ps ih=>
  rw[aL,fH,fH]
  by_cases h:p.1=s
  ·simp[h]
  ·have h2:¬ ((cX p.1:L2.Key)=cX s):=fun e=>h (mO e)
   simp only[h,h2,decide_false]
   exact ih
theorem Ag4(f:P3->U)(h:s∈ps.map (·.1)):Qw (ps.map fun p=>((cX p.1:L2.Key),f p)) (.inr s)=some (f (Ct ps s)):=by
 rw[Yl]
 unfold Ct
 cases hf:ps.find? fun p=>decide (p.1=s) with
 | none=>
  obtain ⟨p,hp,rfl⟩:=bJ.mp h
  have:=qA.mp hf p hp
  simp at this
 | some p=>rfl
theorem Ant(f:P3->U)(h:s∉ps.map (·.1)):Qw (ps.map fun p=>((cX p.1:L2.Key),f p)) (.inr s)=none:=by
 rw[Yl,qA.mpr fun p hp=>by simpa using fun e:p.1=s=>h (bJ.mpr ⟨p,hp,e⟩)]
 rfl
theorem Xj{kvs:List (L2.Key×U)}{k:L2.Key}(h:k∉kvs.map (·.1)):Uc kvs k v=kvs++[(k,v)]:=by
 unfold Uc
 rw[if_neg]
 intro q
 obtain ⟨kv,h1,h2⟩:=rO.mp q
 exact h (bJ.mpr ⟨kv,h1,by simpa using h2⟩)
theorem U2:∀ (more acc:List (L2.Key×U)),((acc++more).map (·.1)).Nodup->more.foldl (fun acc kv=>Uc acc kv.1 kv.2) acc=acc++more
 | [],acc,_=>by simp
 | kv::more,acc,h=>by
  have hk:kv.1∉acc.map (·.1):=fun q=>by
   rw[bZ,aL] at h
   exact (eB.mp h).2.2 kv.1 q kv.1 (by simp) rfl
  rw[jK,Xj hk,U2 more (acc++[(kv.1,kv.2)]) (by simpa using h)]
  simp
theorem Aat(f:P3->U)(hn:(ps.map (·.1)).Nodup):((ps.map fun p=>((cX p.1:L2.Key),f p)).map (·.1)).Nodup:=by
 rw[cE]
 have:(ps.map (fR∘fun p:P3=>((cX p.1:L2.Key),f p)))=(ps.map (·.1)).map cX:=by rw[cE];rfl
 rw[this]
 exact iI.mpr (hn.imp fun h hab=>h (mO hab))
theorem Ain(ps:List P3):mapO Rx (ps.map fun p=>U.tup [.str p.1,p3U p])=some (ps.map fun p=>((cX p.1:L2.Key),p3U p)):=by
 induction ps with
 | nil=>rfl
 | cons p ps ih=>simp only[aL,mapO,Rx,toK,aF,ih,aA]
inductive by_names_ok_I(ps:List P3)(L:UH):Prop
 | mk (d:Nat) (L':UH) (h0:Fj [.tup (ps.map p3U)] L=some (.ref d,L')) (h1:L'[d]? = some (.dic (ps.map fun p=>((cX p.1:L2.Key),p3U p)))) (h2:L.length<=d) (h3:Gw L L'):by_names_ok_I ps L
theorem Ql(hl:ps.length<=60)(hn:(ps.map (·.1)).Nodup)(L:UH):by_names_ok_I ps L:=by
 obtain ⟨x,e⟩:=Cq (ix:=[none]) (fi:=Bb (Aa 0)) (it:=.seq (ps.map p3U)) (g:=gN 0) (tt:=none) (fe:=Lv) (δ:=[some (.tup (ps.map p3U))]) (L:=L) (L0:=L)
  ps p3U (fun _=>true) (fun p=>U.tup [.str p.1,p3U p]) (fun δ=>∃ a,δ = [a]) rfl (by simp[IU.size]) (by omega) ⟨none,rfl⟩
  (fun k x=>rfl)
  (fun p δ x _ zz=>by
   obtain ⟨y,hδ⟩:=zz
   subst hδ
   refine ⟨[some (p3U p)],rfl,⟨_,rfl⟩,[],by simp[Jw],fun _=>⟨[],?_⟩⟩
   rw[aU,aU]
   exact Ame (Bd rfl rfl rfl) rfl)
 have hff:iH (fun _=>true) ps=ps:=eM.mpr (fun _ _=>rfl)
 rw[hff] at e
 have q1:(L++x++[HU.lst (ps.map fun p=>U.tup [.str p.1,p3U p])])[(L++x).length]? = some (.lst (ps.map fun p=>U.tup [.str p.1,p3U p])):=by simp
 have g1:Gw L (L++x++[HU.lst (ps.map fun p=>U.tup [.str p.1,p3U p])]):=(Gw.new _ _).trans (Gw.new _ _)
 generalize (L++x).length=a at e q1
 generalize L++x++[HU.lst (ps.map fun p=>U.tup [.str p.1,p3U p])]=M at e q1 g1
 have hd:E2 M a=none:=by unfold E2;rw[q1]
 have hm:Aas (ps.map fun p=>((cX p.1:L2.Key),p3U p))=ps.map fun p=>((cX p.1:L2.Key),p3U p):=by
  unfold Aas
  rw[U2 _ [] (by simpa using Aat p3U hn)]
  rfl
 have hs:Oz [.ref a] M=some (.ref M.length,M++[.dic (ps.map fun p=>((cX p.1:L2.Key),p3U p))]):=by
  unfold Oz
  simp only[hd,Al q1,aA,Ain]
  rw[if_pos (by rw[aI];omega),hm]
 exact ⟨M.length,_,fnN rfl (Du (Cv e hs)),by simp,g1.le,g1.trans (Gw.new _ _)⟩
theorem X0{ts:List Str}(h:L[n]? = some (.lst (ts.map U.str)))(hl:ts.length < 64):Cd [.ref n] L=some (.ref L.length,L++[.lst ((Bs ts).map U.str)]):=by
 have hd:E2 L n=none:=by unfold E2;rw[h]
 unfold Cd
 simp only[hd,Al h,aA,Pj]
 rw[if_pos hl]
theorem txt_keys(ps:List P3)(f:P3->U):mapO Akb ((ps.map fun p=>((cX p.1:L2.Key),f p)).map (·.1))=some (ps.map (·.1)):=by
 induction ps with
 | nil=>rfl
 | cons p ps ih=>simp only[aL,mapO,Akb,ih,aA,aF]
theorem Yd{f:P3->U}(h:L[n]? = some (.dic (ps.map fun p=>((cX p.1:L2.Key),f p))))(hl:ps.length < 64):Cd [.ref n] L=some (.ref L.length,L++[.lst ((Bs (ps.map (·.1))).map U.str)]):=by
 have hd:E2 L n=some (ps.map fun p=>((cX p.1:L2.Key),f p)):=by unfold E2;rw[h]
 unfold Cd
 simp only[hd,txt_keys,aA]
 rw[if_pos (by rw[aI];exact hl)]
theorem Li{x:Str}(h:Low x)(n:Nat):Pl n (.str x):=by
 cases n <;> simpa[Pl] using h.ok
noncomputable def rowU(r:List Str):U:=.tup (r.map U.str)
noncomputable def Ep(ps:List P3)(r:List Str):Bool:=(r.zip (r.drop 1)).all fun q=>B0 (Ct ps q.1).2 (Ct ps q.2).2
noncomputable def Fv(ps:List P3)(rows:List (List Str)):Bool:=decide (Bs rows.flatten=Bs (ps.map (·.1)))&&rows.all (Ep ps)
theorem Ac7(l:List U)(L:UH):Cs (.tup l) (some 1) none L=some (.tup (l.drop 1),L):=by
 unfold Cs
 simp only
 have e1:HT.sIx l.length 0 (some (1:Int))=min 1 l.length:=HT.Q7 l.length 0 1
 have e2:HT.sIx l.length l.length none=l.length:=rfl
 cases l with
 | nil=>rfl
 | cons a l=>
  rw[if_neg (by rw[e1];simp)]
  unfold Me
  rw[e1,e2]
  have:min 1 (a::l).length=1:=by simp
  rw[this]
  simp
variable {fi:FE}
theorem Kj{f:P3->U}{fo:FE}(hd:M[d]? = some (.dic (ps.map fun p=>((cX p.1:L2.Key),f p))))(hs:s∈ps.map (·.1))(ho:fo δ M=some (.ref d,M))(hi:fi δ M=some (.str s,M)):Iy fo fi δ M=some (f (Ct ps s),M):=by
 have hdd:E2 M d=some (ps.map fun p=>((cX p.1:L2.Key),f p)):=by unfold E2;rw[hd]
 unfold Iy
 simp only[ho,hi,aA,toK,hdd,Ag4 f hs,aF]
theorem Aa1(r:List Str):Er (r.map U.str) ((r.map U.str).drop 1)=(r.zip (r.drop 1)).map fun q=>U.tup [.str q.1,.str q.2]:=by
 unfold Er
 rw[<- jH,tQ,cE]
 rfl
variable {fv:FE}
theorem W7{r:List Str}(h:fv δ L=some (rowU r,L)):(Na (Ac fv (Ac (fSl Cs fv (Bo (fC (.int 1))) A0) Af))) δ L=some (.seq ((r.zip (r.drop 1)).map fun q=>U.tup [.str q.1,.str q.2]),L):=by
 have s:(fSl Cs fv (Bo (fC (.int 1))) A0) δ L=some (.tup ((r.map U.str).drop 1),L):=by
  rw[fSl_eq,h]
  simp only[aA,fPart_eq,fC_eq,fNoPart_eq,aF]
  exact Ac7 _ L
 unfold Na
 rw[fCons_eq,h]
 simp only[aA,fCons_eq,s,fNil_eq,aF]
 show some (IU.seq (Er (r.map U.str) ((r.map U.str).drop 1)),L)=_
 rw[Aa1]
theorem Acr{r:List Str}{q:Str×Str}(h:q∈r.zip (r.drop 1)):q.1∈r/\q.2∈r:=by
 have:=kY h
 exact ⟨this.1,dP this.2⟩
theorem Y2{r:List Str}(hd:M[d]? = some (.dic (ps.map fun p=>((cX p.1:L2.Key),p3U p))))(hr:∀ s∈r,s∈ps.map (·.1))(x0 x1 x3 x5 x6:Option U) :
  (Ep ps r=true->∃ y5 y6,E5 [x0,x1,some (.ref d),x3,some (rowU r),x5,x6] M=some (.nx [x0,x1,some (.ref d),x3,some (rowU r),y5,y6],M))/\(Ep ps r=false->E5 [x0,x1,some (.ref d),x3,some (rowU r),x5,x6] M=some (.rt (.bl false),M)):=by
 have hi:=W7 (r:=r) (fv:=Aa 4) (δ:=[x0,x1,some (.ref d),x3,some (rowU r),x5,x6]) (L:=M) rfl
 have key:=Pa (us:=(r.zip (r.drop 1)).map fun q=>U.tup [.str q.1,.str q.2]) (body:=I0) (g:=(MR.gTup 2 (MR.gCons (gN 5) (MR.gCons (gN 6) MR.gNil))))
  (fun k δ L=>(∃ y5 y6,δ = [x0,x1,some (.ref d),x3,some (rowU r),y5,y6])/\L=M) (fun k L=>L=M) (fun k=>!(((r.zip (r.drop 1))[k]?).map fun q=>B0 (Ct ps q.1).2 (Ct ps q.2).2).getD true) (fun k=>.bl false) hi ⟨⟨_,_,rfl⟩,rfl⟩
  (fun k u δ L hu zz=>by
   obtain ⟨⟨y5,y6,hδ⟩,hL⟩:=zz
   subst hδ
   subst hL
   rw[bA] at hu
   obtain ⟨q,hq,rfl⟩:=aH.mp hu
   obtain ⟨m1,m2⟩:=Acr (aW hq)
   have e1:(Ay 2 Gj (Ac (Iy (Aa 2) (Aa 5)) (Ac (Iy (Aa 2) (Aa 6)) Af))) [x0,x1,some (.ref d),x3,some (rowU r),some (.str q.1),some (.str q.2)] L=some (.bl (B0 (Ct ps q.1).2 (Ct ps q.2).2),L):=Kp (Kj hd (hr _ m1) rfl rfl) (Kj hd (hr _ m2) rfl rfl) (Rp _ _ L)
   have e2:(X3 (Ny (Ay 2 Gj (Ac (Iy (Aa 2) (Aa 5)) (Ac (Iy (Aa 2) (Aa 6)) Af))))) [x0,x1,some (.ref d),x3,some (rowU r),some (.str q.1),some (.str q.2)] L=some (!B0 (Ct ps q.1).2 (Ct ps q.2).2,L):=by
    rw[Acb,fTru_eq,e1];rfl
   have hg:((((r.zip (r.drop 1))[k]?).map fun q=>B0 (Ct ps q.1).2 (Ct ps q.2).2).getD true)=B0 (Ct ps q.1).2 (Ct ps q.2).2:=by rw[hq];rfl
   refine ⟨[x0,x1,some (.ref d),x3,some (rowU r),some (.str q.1),some (.str q.2)],L,rfl,fun hs=>⟨L,?_,rfl⟩,fun hs=>⟨[x0,x1,some (.ref d),x3,some (rowU r),some (.str q.1),some (.str q.2)],L,?_,⟨_,_,rfl⟩,rfl⟩⟩
   ·simp only[hg] at hs
    rw[hs] at e2
    unfold I0
    rw[fIfS_eq,e2];rfl
   ·simp only[hg] at hs
    rw[hs] at e2
    exact Ki e2)
 rw[aI] at key
 have hall:Ep ps r=true↔∀ i,i < (r.zip (r.drop 1)).length->(!(((r.zip (r.drop 1))[i]?).map fun q=>B0 (Ct ps q.1).2 (Ct ps q.2).2).getD true)=false:=by
  unfold Ep
  rw[cF]
  constructor
  ·intro h i hi
   rw[aC hi]
   show (!(B0 _ _))=false
   rw[h _ (cN hi)]
   rfl
  ·intro h q hq
   obtain ⟨i,hi,rfl⟩:=cY hq
   have:=h i hi
   rw[aC hi] at this
   simpa using this
 rcases key with ⟨j,hj,hs,_,L',e,rfl⟩ | ⟨ha,δ',L',e,⟨y5,y6,hδ⟩,rfl⟩
 ·refine ⟨fun h=>?_,fun _=>e⟩
  have:=hall.mp h j hj
  rw[this] at hs;cases hs
 ·refine ⟨fun _=>⟨y5,y6,by rw[hδ] at e;exact e⟩,fun h=>?_⟩
  rw[hall.mpr ha] at h;cases h
theorem Afc{l:List Str}(r:List Str)(h:L[n]? = some (.lst (l.map U.str)))(hl:l.length+r.length<=1000):Oy (.ref n) [rowU r] L=some (.non,L.set n (.lst ((l++r).map U.str))):=by
 show (Ef L n).bind _=_
 rw[C7 h,aA,if_pos (by rw[aI,aI];unfold sizeLine;omega),bZ]
theorem V2:∀ {a b:List Str},a.map U.str=b.map U.str->a=b
 | [],[],_=>rfl
 | [],_::_,h=>by simp at h
 | _::_,[],h=>by simp at h
 | x::a,y::b,h=>by
  rw[aL,aL] at h
  injection h with h1 h2
  injection h1 with h1
  rw[h1,V2 h2]
theorem T8(hl:ps.length<=60)(hn:(ps.map (·.1)).Nodup)(hlow:∀ p∈ps,Low p.1){rows:List (List Str)}(hr:rows.flatten.length < 64)(hrl:∀ s∈rows.flatten,Low s)(L:UH) :
  ∃ L',G6 [.tup (ps.map p3U),.tup (rows.map rowU)] L=some (.bl (Fv ps rows),L')/\Gw L L':=by
 generalize hP:U.tup (ps.map p3U)=P
 generalize hR:U.tup (rows.map rowU)=R
 obtain ⟨d,L1,e1,hd,hdl,g1⟩:=Ql hl hn L
 rw[hP] at e1
 have s1:=C8 (i:=2) (Nw (i:=0) (δ:=[some P,some R,none,none,none,none,none]) rfl e1)
 simp only[aR,aS] at s1
 have s2:=C8 (i:=3) (Wt [some P,some R,some (.ref d),none,none,none,none] L1)
 simp only[aR,aS] at s2
 have hdlt:=(aG.mp hd).1
 have hi:∀ (x2 x3 x4 x5 x6:Option U) (M:UH),Bb (Aa 1) [some P,some R,x2,x3,x4,x5,x6] M=some (.seq (rows.map rowU),M):=fun _ _ _ _ _ M=>by subst hR;rfl
 obtain ⟨δ3,L3,e3,y4,hδ3,h3,hd3,g3⟩:=O9 (us:=rows.map rowU) (body:=Gu) (g:=gN 4)
  (fun k δ M=>∃ y4,δ = [some P,some R,some (.ref d),some (.ref L1.length),y4,none,none]/\M[L1.length]? = some (.lst ((rows.take k).flatten.map U.str))/\M[d]? = some (.dic (ps.map fun p=>((cX p.1:L2.Key),p3U p)))/\Gw L1 M)
  (hi (some (.ref d)) (some (.ref L1.length)) none none none (L1++[.lst []])) ⟨none,rfl,by simp,(Gw.new _ _).get hd,Gw.new _ _⟩
  (fun k u δ M hu zz=>by
   obtain ⟨y4,hδ,h,hdM,g⟩:=zz
   subst hδ
   rw[bA] at hu
   obtain ⟨r,hk,rfl⟩:=aH.mp hu
   have hsub:(rows.take k).flatten.length+r.length<=rows.flatten.length:=by
    have e:=congrArg (fun l=>l.flatten.length) (gZ (k+1) rows)
    simp only[fT,bB] at e
    rw[eA,hk] at e
    simp only[qB,fT,bB,dN,rP,aU] at e
    omega
   have ex:=Afc r h (by omega)
   have ty:=Gg h
   have hlt:=(aG.mp h).1
   have hdn:L1.length≠d:=by omega
   refine ⟨[some P,some R,some (.ref d),some (.ref L1.length),some (rowU r),none,none],M,rfl,[some P,some R,some (.ref d),some (.ref L1.length),some (rowU r),none,none],M.set L1.length (.lst (((rows.take k).flatten++r).map U.str)),.inl ?_,some (rowU r),rfl,?_,?_,g.set (aQ _) _⟩
   ·have v:Aa 3 [some P,some R,some (.ref d),some (.ref L1.length),some (rowU r),none,none] M=some (.ref L1.length,M):=rfl
    have v4:Aa 4 [some P,some R,some (.ref d),some (.ref L1.length),some (rowU r),none,none] M=some (rowU r,M):=rfl
    unfold Gu
    rw[Fy,fMeth_eq,v]
    simp only[aA,ty,if_true]
    rw[fCons_eq,v4]
    simp only[aA,fNil_eq,aF,ex]
   ·rw[bI hlt,eA,hk]
    simp
   ·rw[bD hdn];exact hdM)
 rw[aI,gR] at h3
 rw[hδ3] at e3
 have t1:(Ap Cd (Ac (Aa 3) Af)) [some P,some R,some (.ref d),some (.ref L1.length),y4,none,none] L3=some (.ref L3.length,L3++[.lst ((Bs rows.flatten).map U.str)]):=Cv rfl (X0 h3 hr)
 have t2:(Ap Cd (Ac (Aa 2) Af)) [some P,some R,some (.ref d),some (.ref L1.length),y4,none,none] (L3++[.lst ((Bs rows.flatten).map U.str)])=some (.ref (L3++[HU.lst ((Bs rows.flatten).map U.str)]).length,L3++[.lst ((Bs rows.flatten).map U.str)]++[.lst ((Bs (ps.map (·.1))).map U.str)]):=Cv rfl (Yd ((Gw.new _ _).get hd3) (by omega))
 have q1:A7 (L3++[HU.lst ((Bs rows.flatten).map U.str)]++[HU.lst ((Bs (ps.map (·.1))).map U.str)]) L3.length=some ((Bs rows.flatten).map U.str):=Al (by simp)
 have q2:A7 (L3++[HU.lst ((Bs rows.flatten).map U.str)]++[HU.lst ((Bs (ps.map (·.1))).map U.str)]) (L3++[HU.lst ((Bs rows.flatten).map U.str)]).length=some ((Bs (ps.map (·.1))).map U.str):=Al (by simp)
 have g4:Gw L3 (L3++[HU.lst ((Bs rows.flatten).map U.str)]++[HU.lst ((Bs (ps.map (·.1))).map U.str)]):=(Gw.new _ _).trans (Gw.new _ _)
 generalize (L3++[HU.lst ((Bs rows.flatten).map U.str)]).length=b2 at t2 q2
 generalize L3++[HU.lst ((Bs rows.flatten).map U.str)]++[HU.lst ((Bs (ps.map (·.1))).map U.str)]=L4 at t2 q1 q2 g4
 have pl1:∀ u∈(Bs rows.flatten).map U.str,Pl 6 u:=fun u hu=>by
  obtain ⟨s,hs,rfl⟩:=bJ.mp hu
  exact Li (hrl s ((Ec _).mem_iff.mp hs)) _
 have pl2:∀ u∈(Bs (ps.map (·.1))).map U.str,Pl 6 u:=fun u hu=>by
  obtain ⟨s,hs,rfl⟩:=bJ.mp hu
  obtain ⟨p,hp,rfl⟩:=bJ.mp ((Ec _).mem_iff.mp hs)
  exact Li (hlow p hp) _
 obtain ⟨z,hz,hzb⟩:∃ z,B2 (.ref L3.length) (.ref b2) L4=some (.bl (!z),L4)/\(z=true↔Bs rows.flatten=Bs (ps.map (·.1))):=by
  refine ⟨_,Nm q1 q2 pl1 pl2,(Mn pl1 pl2).trans ⟨fun h=>V2 h,fun h=>by rw[h]⟩⟩
 have t3:=Dc (Bd (s:=B2) t1 t2 hz)
 have hdL4:=g4.get hd3
 have gg:Gw L L4:=(g1.trans g3).trans g4
 have hb:Lh=Ar (Av (Ay 1 Fj (Ac (Aa 0) Af)) (gN 2)) (Ar (Av (Cu Af) (gN 3)) (Ar (Fx (Bb (Aa 1)) (gN 4) Gu) (Ar (B8 (Ax (f2 B2 (Ap Cd (Ac (Aa 3) Af)) (Ap Cd (Ac (Aa 2) Af)))) (Cf (fC (.bl false))) Bl) (Ar (Fx (Bb (Aa 1)) (gN 4) E5) (Cf (fC (.bl true))))))):=rfl
 have fin:∀ v M',Lh [some P,some R,none,none,none,none,none] L=some (.rt v,M')->G6 [P,R] L=some (v,M'):=fun v M' h=>fnN rfl h
 cases z with
 | false=>
  have hc:Fv ps rows=false:=by
   unfold Fv
   have:¬ (Bs rows.flatten=Bs (ps.map (·.1))):=fun q=>by have:=hzb.mpr q;cases this
   simp[this]
  rw[hc]
  refine ⟨L4,fin _ _ ?_,gg⟩
  rw[hb,Aj s1,Aj s2,Aj e3,fSeq_eq,fIfS_eq,t3]
  rfl
 | true=>
  have hse:=hzb.mp rfl
  have hmem:∀ r∈rows,∀ s∈r,s∈ps.map (·.1):=fun r hr s hs=>by
   have h1:s∈rows.flatten:=nR.mpr ⟨r,hr,hs⟩
   have h2:=(Ec rows.flatten).mem_iff.mpr h1
   rw[hse] at h2
   exact (Ec _).mem_iff.mp h2
  have key:=Pa (us:=rows.map rowU) (body:=E5) (g:=gN 4)
   (fun k δ M=>(∃ y4 y5 y6,δ = [some P,some R,some (.ref d),some (.ref L1.length),y4,y5,y6])/\M=L4) (fun k M=>M=L4) (fun k=>!((rows[k]?).map (Ep ps)).getD true) (fun k=>.bl false)
   (hi (some (.ref d)) (some (.ref L1.length)) y4 none none L4) ⟨⟨_,_,_,rfl⟩,rfl⟩
   (fun k u δ M hu zz=>by
    obtain ⟨⟨y4,y5,y6,hδ⟩,hM⟩:=zz
    subst hδ
    subst hM
    rw[bA] at hu
    obtain ⟨r,hk,rfl⟩:=aH.mp hu
    have hg:(((rows[k]?).map (Ep ps)).getD true)=Ep ps r:=by rw[hk];rfl
    obtain ⟨c1,c2⟩:=Y2 hdL4 (hmem r (aW hk)) (some P) (some R) (some (.ref L1.length)) y5 y6
    refine ⟨[some P,some R,some (.ref d),some (.ref L1.length),some (rowU r),y5,y6],M,rfl,fun hs=>⟨M,c2 ?_,rfl⟩,fun hs=>?_⟩
    ·rw[hg] at hs;simpa using hs
    ·rw[hg] at hs
     obtain ⟨z5,z6,e⟩:=c1 (by simpa using hs)
     exact ⟨_,M,e,⟨_,_,_,rfl⟩,rfl⟩)
  rw[aI] at key
  have hcb:Fv ps rows=rows.all (Ep ps):=by unfold Fv;simp[hse]
  rcases key with ⟨j,hj,hs,_,L',e,rfl⟩ | ⟨ha,δ',L',e,⟨y4,y5,y6,hδ⟩,rfl⟩
  ·refine ⟨L',?_,gg⟩
   have:rows.all (Ep ps)=false:=by
    rw[qX]
    refine ⟨rows[j],cN hj,?_⟩
    rw[aC hj] at hs
    simpa using hs
   rw[hcb,this]
   refine fin _ _ ?_
   rw[hb,Aj s1,Aj s2,Aj e3,Aj (Ki t3),fSeq_eq,e]
   rfl
  ·refine ⟨L',?_,gg⟩
   have:rows.all (Ep ps)=true:=by
    rw[cF]
    intro r hr
    obtain ⟨j,hj,rfl⟩:=cY hr
    have:=ha j hj
    rw[aC hj] at this
    simpa using this
   rw[hcb,this]
   refine fin _ _ ?_
   rw[hb,Aj s1,Aj s2,Aj e3,Aj (Ki t3),Aj e]
   rfl
theorem P7:∀ (l acc:List L2.Key),acc.Nodup->(l.foldl dL acc).length<=acc.length+l.length/\((l.foldl dL acc).length=acc.length+l.length↔l.Nodup/\∀ x∈l,x∉acc)
 | [],acc,_=>by simp
 | x::l,acc,h=>by
  rw[jK,aY]
  by_cases hx:x∈acc
  ·have e:dL acc x=acc:=by
    unfold dL
    rw[if_pos (rO.mpr ⟨x,hx,by simp⟩)]
   rw[e]
   obtain ⟨i1,_⟩:=P7 l acc h
   refine ⟨by omega,⟨fun q=>by omega,fun q=>absurd hx (q.2 x (aX ..))⟩⟩
  ·have e:dL acc x=acc++[x]:=by
    unfold dL
    rw[if_neg]
    intro q
    obtain ⟨y,h1,h2⟩:=rO.mp q
    have:y=x:=by simpa using h2
    exact hx (this ▸ h1)
   rw[e]
   have hn:(acc++[x]).Nodup:=eB.mpr ⟨h,by simp,fun a ha b hb hab=>hx (by rw[bC.mp hb] at hab;exact hab ▸ ha)⟩
   obtain ⟨i1,i2⟩:=P7 l (acc++[x]) hn
   rw[bB,eN] at i1 i2
   refine ⟨by omega,?_⟩
   have:acc.length+(l.length+1)=acc.length+1+l.length:=by omega
   rw[this,i2,iB]
   constructor
   ·rintro ⟨a,b⟩
    refine ⟨⟨fun q=>b x q (by simp),a⟩,fun y hy=>?_⟩
    rcases bH.mp hy with q | q
    ·rw[q];exact hx
    ·exact fun r=>b y q (dD _ r)
   ·rintro ⟨⟨a,b⟩,c⟩
    refine ⟨b,fun y hy r=>?_⟩
    rcases bP.mp r with q | q
    ·exact c y (aT _ hy) q
    ·rw[bC.mp q] at hy;exact a hy
theorem Vo(W:List Str):manyS W=W.length↔W.Nodup:=by
 have e:(dB W.length).map (fun i=>(cX (W.getD i ""):L2.Key))=W.map cX:=by
  apply jA
  ·simp
  ·intro i h1 h2
   have hi:i < W.length:=by simpa using h2
   rw[kP,mI,kP,aO,aC hi];rfl
 unfold manyS QS.met
 rw[e]
 have:=(P7 (W.map cX) [] .nil).2
 simp only[cB,qT,aI,dE,not_false_eq_true,implies_true,and_true] at this
 rw[this]
 constructor
 ·intro h
  exact (iI.mp h).imp fun q r=>q (by rw[r])
 ·intro h
  exact iI.mpr (h.imp fun q r=>q (mO r))
noncomputable def G0(ps:List P3)(W:List Str):Bool:=decide (W.Nodup/\∀ s∈W,s∈ps.map (·.1))&&W.all fun a=>W.all fun b=>!B0 (Ct ps a).2 (Ct ps b).2
variable {W:List Str}
theorem Wx(hd:M[d]? = some (.dic (ps.map fun p=>((cX p.1:L2.Key),p3U p))))(hW:∀ s∈W,s∈ps.map (·.1)){a:Str}(ha:a∈W)(x0 x4:Option U) :
  ((W.all fun b=>!B0 (Ct ps a).2 (Ct ps b).2)=true->∃ y4,E7 [x0,some (rowU W),some (.ref d),some (.str a),x4] M=some (.nx [x0,some (rowU W),some (.ref d),some (.str a),y4],M))/\((W.all fun b=>!B0 (Ct ps a).2 (Ct ps b).2)=false->E7 [x0,some (rowU W),some (.ref d),some (.str a),x4] M=some (.rt (.bl false),M)):=by
 have hi:Bb (Aa 1) [x0,some (rowU W),some (.ref d),some (.str a),x4] M=some (.seq (W.map U.str),M):=rfl
 have key:=Pa (us:=W.map U.str) (body:=Jb) (g:=gN 4)
  (fun k δ L=>(∃ y4,δ = [x0,some (rowU W),some (.ref d),some (.str a),y4])/\L=M) (fun k L=>L=M) (fun k=>((W[k]?).map fun b=>B0 (Ct ps a).2 (Ct ps b).2).getD false) (fun k=>.bl false) hi ⟨⟨_,rfl⟩,rfl⟩
  (fun k u δ L hu zz=>by
   obtain ⟨⟨y4,hδ⟩,hL⟩:=zz
   subst hδ
   subst hL
   rw[bA] at hu
   obtain ⟨b,hb,rfl⟩:=aH.mp hu
   have e2:(Ny (Ay 2 Gj (Ac (Iy (Aa 2) (Aa 3)) (Ac (Iy (Aa 2) (Aa 4)) Af)))) [x0,some (rowU W),some (.ref d),some (.str a),some (.str b)] L=some (B0 (Ct ps a).2 (Ct ps b).2,L):=by
    rw[fTru_eq,Kp (Kj hd (hW _ ha) rfl rfl) (Kj hd (hW _ (aW hb)) rfl rfl) (Rp _ _ L)];rfl
   have hg:(((W[k]?).map fun b=>B0 (Ct ps a).2 (Ct ps b).2).getD false)=B0 (Ct ps a).2 (Ct ps b).2:=by rw[hb];rfl
   refine ⟨[x0,some (rowU W),some (.ref d),some (.str a),some (.str b)],L,rfl,fun hs=>⟨L,?_,rfl⟩,fun hs=>⟨[x0,some (rowU W),some (.ref d),some (.str a),some (.str b)],L,?_,⟨_,rfl⟩,rfl⟩⟩
   ·simp only[hg] at hs
    rw[hs] at e2
    unfold Jb
    rw[fIfS_eq,e2];rfl
   ·simp only[hg] at hs
    rw[hs] at e2
    exact Ki e2)
 rw[aI] at key
 rcases key with ⟨j,hj,hs,_,L',e,rfl⟩ | ⟨hall,δ',L',e,⟨y4,hδ⟩,rfl⟩
 ·refine ⟨fun h=>?_,fun _=>e⟩
  have:=cF.mp h _ (cN hj)
  rw[aC hj] at hs
  have hs':B0 (Ct ps a).2 (Ct ps W[j]).2=true:=hs
  rw[hs'] at this;cases this
 ·refine ⟨fun _=>⟨y4,by rw[hδ] at e;exact e⟩,fun h=>?_⟩
  have:(W.all fun b=>!B0 (Ct ps a).2 (Ct ps b).2)=true:=by
   rw[cF]
   intro b hb
   obtain ⟨j,hj,rfl⟩:=cY hb
   have:=hall j hj
   rw[aC hj] at this
   have hs':B0 (Ct ps a).2 (Ct ps W[j]).2=false:=this
   rw[hs'];rfl
  rw[this] at h;cases h
theorem Tx(hl:ps.length<=60)(hn:(ps.map (·.1)).Nodup)(hw:W.length<=100)(hwl:∀ s∈W,Low s)(L:UH) :
  ∃ L',Gz [.tup (ps.map p3U),rowU W] L=some (.bl (G0 ps W),L')/\Gw L L':=by
 generalize hP:U.tup (ps.map p3U)=P
 obtain ⟨d,L1,e1,hd,hdl,g1⟩:=Ql hl hn L
 rw[hP] at e1
 have s1:=C8 (i:=2) (Nw (i:=0) (δ:=[some P,some (rowU W),none,none,none]) rfl e1)
 simp only[aR,aS] at s1
 have hb:Lc=Ar (Av (Ay 1 Fj (Ac (Aa 0) Af)) (gN 2)) (Ar (B8 (fOr (Ax (f2 B2 (Nr (Ac (Aa 1) Af)) (Ap Aw (Ac (Aa 1) Af)))) (Ax (f2 B2 (Bu [none,some 2] (Bb (Aa 1)) (gN 0) (some Gb) Gd) (Cu Af)))) (Cf (fC (.bl false))) Bl) (Ar (Fx (Bb (Aa 1)) (gN 3) E7) (Cf (fC (.bl true))))):=rfl
 have fin:∀ v M',Lc [some P,some (rowU W),none,none,none] L=some (.rt v,M')->Gz [P,rowU W] L=some (v,M'):=fun v M' h=>fnN rfl h
 have a1:(Nr (Ac (Aa 1) Af)) [some P,some (rowU W),some (.ref d),none,none] L1=some (.int (manyS W:Nat),L1):=by
  have v:(Ac (Aa 1) Af) [some P,some (rowU W),some (.ref d),none,none] L1=some ([rowU W],L1):=rfl
  unfold Nr
  rw[v]
  simp only[aA,rowU,Pj]
  rw[if_pos (by omega)]
 have a2:(Ap Aw (Ac (Aa 1) Af)) [some P,some (rowU W),some (.ref d),none,none] L1=some (.int (W.length:Nat),L1):=Cv rfl (by unfold rowU;simp[Aw,lenU])
 have t1:(Ax (f2 B2 (Nr (Ac (Aa 1) Af)) (Ap Aw (Ac (Aa 1) Af)))) [some P,some (rowU W),some (.ref d),none,none] L1=some (!(((manyS W:Nat):Int) == ((W.length:Nat):Int)),L1):=Dc (Bd a1 a2 rfl)
 have hdd:E2 L1 d=some (ps.map fun p=>((cX p.1:L2.Key),p3U p)):=by unfold E2;rw[hd]
 obtain ⟨x,e2⟩:=Cq (ix:=[none,some 2]) (fi:=Bb (Aa 1)) (it:=.seq (W.map U.str)) (g:=gN 0) (tt:=some Gb) (fe:=Gd) (δ:=[some P,some (rowU W),some (.ref d),none,none]) (L:=L1) (L0:=L1)
  W U.str (fun s=>decide (s∉ps.map (·.1))) U.str (fun δ=>∃ a,δ = [a,some (.ref d)]) rfl (by simp[IU.size]) (by omega) ⟨none,rfl⟩
  (fun k x=>rfl)
  (fun s δ x _ zz=>by
   obtain ⟨y,hδ⟩:=zz
   subst hδ
   refine ⟨[some (.str s),some (.ref d)],rfl,⟨_,rfl⟩,[],?_,fun _=>⟨[],?_⟩⟩
   ·rw[aU]
    have hdx:E2 (L1++x) d=some (ps.map fun p=>((cX p.1:L2.Key),p3U p)):=by unfold E2;rw[(Gw.new L1 x).get hd]
    refine Dc (Bd rfl rfl ?_)
    unfold Nn
    simp only[toK,aA,hdx,aF]
    by_cases hs:s∈ps.map (·.1)
    ·rw[Ag4 p3U hs];simp[hs]
    ·rw[Ant p3U hs];simp[hs]
   ·rw[aU,aU];rfl)
 generalize hodd:W.filter (fun s=>decide (s∉ps.map (·.1)))=odd at e2
 have g2:Gw L1 (L1++x++[HU.lst (odd.map U.str)]):=(Gw.new _ _).trans (Gw.new _ _)
 have q1:(L1++x++[HU.lst (odd.map U.str)])[(L1++x).length]? = some (.lst (odd.map U.str)):=by simp
 generalize (L1++x).length=b1 at e2 q1
 generalize L1++x++[HU.lst (odd.map U.str)]=L2 at e2 q1 g2
 have e3:=Wt [some P,some (rowU W),some (.ref d),none,none] L2
 have pl1:∀ u∈odd.map U.str,Pl 6 u:=fun u hu=>by
  obtain ⟨s,hs,rfl⟩:=bJ.mp hu
  rw[<- hodd] at hs
  exact Li (hwl s (eT.mp hs).1) _
 have hne:=Nm (Al ((Gw.new L2 [HU.lst []]).get q1)) (Al (L:=L2++[HU.lst []]) (n:=L2.length) (us:=[]) (by simp)) pl1 (fun u hu=>by cases hu)
 have t2:(Ax (f2 B2 (Bu [none,some 2] (Bb (Aa 1)) (gN 0) (some Gb) Gd) (Cu Af))) [some P,some (rowU W),some (.ref d),none,none] L1=some (!Su (odd.map U.str) [],L2++[HU.lst []]):=Dc (Bd e2 e3 hne)
 have hodd0:Su (odd.map U.str) []=true↔∀ s∈W,s∈ps.map (·.1):=by
  rw[Mn pl1 (fun u hu=>by cases hu),List.map_eq_nil_iff,<- hodd,kF]
  simp
 have g3:Gw L1 (L2++[HU.lst []]):=g2.trans (Gw.new _ _)
 generalize L2++[HU.lst []]=L3 at t2 g3
 by_cases hnod:W.Nodup
 ·have m1:(!(((manyS W:Nat):Int) == ((W.length:Nat):Int)))=false:=by rw[(Vo W).mpr hnod];simp
  rw[m1] at t1
  cases hz:Su (odd.map U.str) [] with
  | false=>
   rw[hz] at t2
   have hc:G0 ps W=false:=by
    unfold G0
    have:¬ (∀ s∈W,s∈ps.map (·.1)):=fun q=>by rw[hodd0.mpr q] at hz;cases hz
    rw[decide_eq_false (fun q=>this q.2)];rfl
   rw[hc]
   refine ⟨L3,fin _ _ ?_,g1.trans g3⟩
   rw[hb,Aj s1,fSeq_eq,fIfS_eq,fOr_eq,t1]
   simp only[aA,bX,if_false,t2]
   rfl
  | true=>
   rw[hz] at t2
   have hin:=hodd0.mp hz
   have hd3:=g3.get hd
   have hcb:G0 ps W=W.all fun a=>W.all fun b=>!B0 (Ct ps a).2 (Ct ps b).2:=by
    unfold G0
    rw[decide_eq_true ⟨hnod,hin⟩];rfl
   have hi:Bb (Aa 1) [some P,some (rowU W),some (.ref d),none,none] L3=some (.seq (W.map U.str),L3):=rfl
   have key:=Pa (us:=W.map U.str) (body:=E7) (g:=gN 3)
    (fun k δ M=>(∃ y3 y4,δ = [some P,some (rowU W),some (.ref d),y3,y4])/\M=L3) (fun k M=>M=L3) (fun k=>!((W[k]?).map fun a=>W.all fun b=>!B0 (Ct ps a).2 (Ct ps b).2).getD true) (fun k=>.bl false) hi ⟨⟨_,_,rfl⟩,rfl⟩
    (fun k u δ M hu zz=>by
     obtain ⟨⟨y3,y4,hδ⟩,hM⟩:=zz
     subst hδ
     subst hM
     rw[bA] at hu
     obtain ⟨a,hk,rfl⟩:=aH.mp hu
     have hg:(((W[k]?).map fun a=>W.all fun b=>!B0 (Ct ps a).2 (Ct ps b).2).getD true)=W.all fun b=>!B0 (Ct ps a).2 (Ct ps b).2:=by rw[hk];rfl
     obtain ⟨c1,c2⟩:=Wx hd3 hin (aW hk) (some P) y4
     refine ⟨[some P,some (rowU W),some (.ref d),some (.str a),y4],M,rfl,fun hs=>⟨M,c2 ?_,rfl⟩,fun hs=>?_⟩
     ·rw[hg] at hs;simpa using hs
     ·rw[hg] at hs
      obtain ⟨z4,e⟩:=c1 (by simpa using hs)
      exact ⟨_,M,e,⟨_,_,rfl⟩,rfl⟩)
   rw[aI] at key
   rcases key with ⟨j,hj,hs,_,L',e,rfl⟩ | ⟨ha,δ',L',e,⟨y3,y4,hδ⟩,rfl⟩
   ·refine ⟨L',?_,g1.trans g3⟩
    have:(W.all fun a=>W.all fun b=>!B0 (Ct ps a).2 (Ct ps b).2)=false:=by
     rw[qX]
     refine ⟨W[j],cN hj,?_⟩
     rw[aC hj] at hs
     simpa using hs
    rw[hcb,this]
    refine fin _ _ ?_
    rw[hb,Aj s1,Aj (Ki (Ahu t1 t2)),fSeq_eq,e]
    rfl
   ·refine ⟨L',?_,g1.trans g3⟩
    have:(W.all fun a=>W.all fun b=>!B0 (Ct ps a).2 (Ct ps b).2)=true:=by
     rw[cF]
     intro a hr
     obtain ⟨j,hj,rfl⟩:=cY hr
     have:=ha j hj
     rw[aC hj] at this
     simpa using this
    rw[hcb,this]
    refine fin _ _ ?_
    rw[hb,Aj s1,Aj (Ki (Ahu t1 t2)),Aj e]
    rfl
 ·have m1:(!(((manyS W:Nat):Int) == ((W.length:Nat):Int)))=true:=by
   have:manyS W≠W.length:=fun q=>hnod ((Vo W).mp q)
   simp;omega
  rw[m1] at t1
  have hc:G0 ps W=false:=by
   unfold G0
   rw[decide_eq_false (fun q=>hnod q.1)];rfl
  rw[hc]
  refine ⟨L1,fin _ _ ?_,g1⟩
  rw[hb,Aj s1,fSeq_eq,fIfS_eq,fOr_eq,t1]
  rfl
theorem Il{f g:FE}{a:Bool}(h:f δ L=some (.bl a,L1)):(a=false->Hc f g δ L=some (.bl false,L1))/\(a=true->Hc f g δ L=g δ L1):=by
 constructor
 ·intro ha
  subst ha
  rw[Jo,h];rfl
 ·intro ha
  subst ha
  rw[Jo,h];rfl
theorem Yb{r:List Str}(hd:M[d]? = some (.dic (ps.map fun p=>((cX p.1:L2.Key),pr p.2))))(hr:∀ s∈r,s∈ps.map (·.1))(hl:r.length<=1000):∃ M',Oj [.ref d,rowU r] M=some (.bl (Ep ps r),M')/\Gw M M':=by
 have hi:=W7 (r:=r) (fv:=Aa 1) (δ:=[some (.ref d),some (rowU r)]) (L:=M) rfl
 have hzl:(r.zip (r.drop 1)).length<=1000:=by rw[oK];omega
 obtain ⟨x,e⟩:=Cq (ix:=[none,none,some 0]) (fi:=(Na (Ac (Aa 1) (Ac (fSl Cs (Aa 1) (Bo (fC (.int 1))) A0) Af)))) (it:=.seq ((r.zip (r.drop 1)).map fun q=>U.tup [.str q.1,.str q.2])) (g:=(MR.gTup 2 (MR.gCons (gN 0) (MR.gCons (gN 1) MR.gNil)))) (tt:=none) (fe:=N1) (δ:=[some (.ref d),some (rowU r)]) (L:=M) (L0:=M)
  (r.zip (r.drop 1)) (fun q=>U.tup [.str q.1,.str q.2]) (fun _=>true) (fun q=>.bl (B0 (Ct ps q.1).2 (Ct ps q.2).2)) (fun δ=>∃ a b,δ = [a,b,some (.ref d)]) hi (by simp[IU.size]) (by omega) ⟨none,none,rfl⟩
  (fun k x=>rfl)
  (fun q δ x hq zz=>by
   obtain ⟨a,b,hδ⟩:=zz
   subst hδ
   obtain ⟨m1,m2⟩:=Acr hq
   have hdx:=(Gw.new M x).get hd
   obtain ⟨y,ey⟩:=lies_ok (Ct ps q.1).2 (Ct ps q.2).2 (M++x)
   refine ⟨[some (.str q.1),some (.str q.2),some (.ref d)],rfl,⟨_,_,rfl⟩,[],by simp[Jw],fun _=>⟨y,?_⟩⟩
   rw[aU]
   exact Kp (Kj (f:=fun p=>pr p.2) hdx (hr _ m1) rfl rfl) (Kj (f:=fun p=>pr p.2) hdx (hr _ m2) rfl rfl) ey)
 have hff:iH (fun _=>true) (r.zip (r.drop 1))=r.zip (r.drop 1):=eM.mpr (fun _ _=>rfl)
 rw[hff] at e
 have q1:A7 (M++x++[HU.lst ((r.zip (r.drop 1)).map fun q=>.bl (B0 (Ct ps q.1).2 (Ct ps q.2).2))]) (M++x).length=some ((r.zip (r.drop 1)).map fun q=>U.bl (B0 (Ct ps q.1).2 (Ct ps q.2).2)):=Al (by simp)
 exact ⟨_,fnN rfl (Du (Cv e (Ra _ _ q1))),(Gw.new _ _).trans (Gw.new _ _)⟩
theorem Ago{kvs:List (L2.Key×U)}{fo:FE}(hd:M[d]? = some (.dic kvs))(hl:kvs.length < 1000000)(hk:(cX s:L2.Key)∉kvs.map (·.1))(hv:fv δ M=some (v,M))(ho:fo δ M=some (.ref d,M))(hi:fi δ M=some (.str s,M)):Acg fo fi fv δ M=some (.nx δ,M.set d (.dic (kvs++[(cX s,v)]))):=by
 have hdd:E2 M d=some kvs:=by unfold E2;rw[hd]
 unfold Acg
 simp only[hv,ho,hi,aA,toK,hdd]
 rw[if_pos hl,Xj hk]
theorem Xp(hl:ps.length<=60)(hn:(ps.map (·.1)).Nodup)(hlow:∀ p∈ps,Low p.1){rows:List (List Str)}(hr:rows.flatten.length < 64)(hrn:rows.length<=1000)(hrl:∀ s∈rows.flatten,Low s)(L:UH) :
  ∃ L',Gi [.tup (ps.map p3U),.tup (rows.map rowU)] L=some (.bl (Fv ps rows),L')/\Gw L L':=by
 generalize hP:U.tup (ps.map p3U)=P
 generalize hR:U.tup (rows.map rowU)=R
 have s1:(Av Abd (gN 2)) [some P,some R,none,none,none,none] L=some (.nx [some P,some R,some (.ref L.length),none,none,none],L++[.dic []]):=rfl
 have hi0:Bb (Aa 0) [some P,some R,some (.ref L.length),none,none,none] (L++[.dic []])=some (.seq (ps.map p3U),L++[.dic []]):=by subst hP;rfl
 obtain ⟨δ2,Lb,e2,y3,hδ2,hd2,g2⟩:=O9 (us:=ps.map p3U) (body:=K5) (g:=gN 3)
  (fun k δ M=>∃ y3,δ = [some P,some R,some (.ref L.length),y3,none,none]/\M[L.length]? = some (.dic ((ps.take k).map fun p=>((cX p.1:L2.Key),pr p.2)))/\Gw L M) hi0 ⟨none,rfl,by simp,Gw.new _ _⟩
  (fun k u δ M hu zz=>by
   obtain ⟨y3,hδ,hd,g⟩:=zz
   subst hδ
   rw[bA] at hu
   obtain ⟨p,hk,rfl⟩:=aH.mp hu
   have hlt:=(aG.mp hd).1
   have htk:ps.take (k+1)=ps.take k++[p]:=by rw[eA,hk];rfl
   have hnk:((ps.take (k+1)).map (·.1)).Nodup:=by rw[jG];exact hn.sublist (iE _ _)
   rw[htk,bZ] at hnk
   have hno:(cX p.1:L2.Key)∉((ps.take k).map fun p=>((cX p.1:L2.Key),pr p.2)).map (·.1):=fun q=>by
    obtain ⟨kv,h1,h2⟩:=bJ.mp q
    obtain ⟨o,h3,rfl⟩:=bJ.mp h1
    exact (eB.mp hnk).2.2 o.1 (bJ.mpr ⟨o,h3,rfl⟩) p.1 (by simp) (mO h2)
   refine ⟨[some P,some R,some (.ref L.length),some (p3U p),none,none],M,rfl,[some P,some R,some (.ref L.length),some (p3U p),none,none],M.set L.length (.dic ((ps.take k).map (fun p=>((cX p.1:L2.Key),pr p.2))++[(cX p.1,pr p.2)])),.inl ?_,some (p3U p),rfl,?_,g.set (aQ _) _⟩
   ·exact Ago (fo:=Aa 2) (fi:=f2 Ak (Aa 3) (fC (.int 0))) (fv:=Ay 1 Bn (Ac (Aa 3) Af)) hd (by rw[aI,cH];omega) hno (Nw rfl (Hy p M)) rfl (Bd rfl rfl rfl)
   ·rw[bI hlt,htk,bZ];rfl)
 rw[aI,gR] at hd2
 rw[hδ2] at e2
 have s3:=C8 (i:=4) (Wt [some P,some R,some (.ref L.length),y3,none,none] Lb)
 simp only[aR,aS] at s3
 have hdlt:=(aG.mp hd2).1
 have hi1:Bb (Aa 1) [some P,some R,some (.ref L.length),y3,some (.ref Lb.length),none] (Lb++[.lst []])=some (.seq (rows.map rowU),Lb++[.lst []]):=by subst hR;rfl
 obtain ⟨δ4,L4,e4,y5,hδ4,h4,hd4,g4⟩:=O9 (us:=rows.map rowU) (body:=Im) (g:=gN 5)
  (fun k δ M=>∃ y5,δ = [some P,some R,some (.ref L.length),y3,some (.ref Lb.length),y5]/\M[Lb.length]? = some (.lst ((rows.take k).flatten.map U.str))/\M[L.length]? = some (.dic (ps.map fun p=>((cX p.1:L2.Key),pr p.2)))/\Gw Lb M)
  hi1 ⟨none,rfl,by simp,(Gw.new _ _).get hd2,Gw.new _ _⟩
  (fun k u δ M hu zz=>by
   obtain ⟨y5,hδ,h,hdM,g⟩:=zz
   subst hδ
   rw[bA] at hu
   obtain ⟨r,hk,rfl⟩:=aH.mp hu
   have hsub:(rows.take k).flatten.length+r.length<=rows.flatten.length:=by
    have e:=congrArg (fun l=>l.flatten.length) (gZ (k+1) rows)
    simp only[fT,bB] at e
    rw[eA,hk] at e
    simp only[qB,fT,bB,dN,rP,aU] at e
    omega
   have ex:=Afc r h (by omega)
   have ty:=Gg h
   have hlt:=(aG.mp h).1
   have hdn:Lb.length≠L.length:=by omega
   refine ⟨[some P,some R,some (.ref L.length),y3,some (.ref Lb.length),some (rowU r)],M,rfl,[some P,some R,some (.ref L.length),y3,some (.ref Lb.length),some (rowU r)],M.set Lb.length (.lst (((rows.take k).flatten++r).map U.str)),.inl ?_,some (rowU r),rfl,?_,?_,g.set (aQ _) _⟩
   ·have v:Aa 4 [some P,some R,some (.ref L.length),y3,some (.ref Lb.length),some (rowU r)] M=some (.ref Lb.length,M):=rfl
    have v4:Aa 5 [some P,some R,some (.ref L.length),y3,some (.ref Lb.length),some (rowU r)] M=some (rowU r,M):=rfl
    unfold Im
    rw[Fy,fMeth_eq,v]
    simp only[aA,ty,if_true]
    rw[fCons_eq,v4]
    simp only[aA,fNil_eq,aF,ex]
   ·rw[bI hlt,eA,hk]
    simp
   ·rw[bD hdn];exact hdM)
 rw[aI,gR] at h4
 rw[hδ4] at e4
 have t1:(Ap Cd (Ac (Aa 4) Af)) [some P,some R,some (.ref L.length),y3,some (.ref Lb.length),y5] L4=some (.ref L4.length,L4++[.lst ((Bs rows.flatten).map U.str)]):=Cv rfl (X0 h4 hr)
 have t2:(Ap Cd (Ac (Aa 2) Af)) [some P,some R,some (.ref L.length),y3,some (.ref Lb.length),y5] (L4++[.lst ((Bs rows.flatten).map U.str)])=some (.ref (L4++[HU.lst ((Bs rows.flatten).map U.str)]).length,L4++[.lst ((Bs rows.flatten).map U.str)]++[.lst ((Bs (ps.map (·.1))).map U.str)]):=Cv rfl (Yd (f:=fun p=>pr p.2) ((Gw.new _ _).get hd4) (by omega))
 have q1:A7 (L4++[HU.lst ((Bs rows.flatten).map U.str)]++[HU.lst ((Bs (ps.map (·.1))).map U.str)]) L4.length=some ((Bs rows.flatten).map U.str):=Al (by simp)
 have q2:A7 (L4++[HU.lst ((Bs rows.flatten).map U.str)]++[HU.lst ((Bs (ps.map (·.1))).map U.str)]) (L4++[HU.lst ((Bs rows.flatten).map U.str)]).length=some ((Bs (ps.map (·.1))).map U.str):=Al (by simp)
 have g5:Gw L4 (L4++[HU.lst ((Bs rows.flatten).map U.str)]++[HU.lst ((Bs (ps.map (·.1))).map U.str)]):=(Gw.new _ _).trans (Gw.new _ _)
 generalize (L4++[HU.lst ((Bs rows.flatten).map U.str)]).length=b2 at t2 q2
 generalize L4++[HU.lst ((Bs rows.flatten).map U.str)]++[HU.lst ((Bs (ps.map (·.1))).map U.str)]=L5 at t2 q1 q2 g5
 have pl1:∀ u∈(Bs rows.flatten).map U.str,Pl 6 u:=fun u hu=>by
  obtain ⟨s,hs,rfl⟩:=bJ.mp hu
  exact Li (hrl s ((Ec _).mem_iff.mp hs)) _
 have pl2:∀ u∈(Bs (ps.map (·.1))).map U.str,Pl 6 u:=fun u hu=>by
  obtain ⟨s,hs,rfl⟩:=bJ.mp hu
  obtain ⟨p,hp,rfl⟩:=bJ.mp ((Ec _).mem_iff.mp hs)
  exact Li (hlow p hp) _
 obtain ⟨z,hz,hzb⟩:∃ z,A8 (.ref L4.length) (.ref b2) L5=some (.bl z,L5)/\(z=true↔Bs rows.flatten=Bs (ps.map (·.1))):=⟨_,Ad1 q1 q2 pl1 pl2,(Mn pl1 pl2).trans ⟨fun h=>V2 h,fun h=>by rw[h]⟩⟩
 have t3:=Bd (s:=A8) t1 t2 hz
 have av:=Il (g:=Ap Kw (Ac (Bu [none,some 2] (Bb (Aa 1)) (gN 0) none Hq) Af)) t3
 have gg:Gw L L5:=(g2.trans g4).trans g5
 have hb:Oh=Ar (Av Abd (gN 2)) (Ar (Fx (Bb (Aa 0)) (gN 3) K5) (Ar (Av (Cu Af) (gN 4)) (Ar (Fx (Bb (Aa 1)) (gN 5) Im) (Cf (Hc (f2 A8 (Ap Cd (Ac (Aa 4) Af)) (Ap Cd (Ac (Aa 2) Af))) (Ap Kw (Ac (Bu [none,some 2] (Bb (Aa 1)) (gN 0) none Hq) Af))))))):=rfl
 have fin:∀ v M',Oh [some P,some R,none,none,none,none] L=some (.rt v,M')->Gi [P,R] L=some (v,M'):=fun v M' h=>fnN rfl h
 cases z with
 | false=>
  have hc:Fv ps rows=false:=by
   unfold Fv
   have:¬ (Bs rows.flatten=Bs (ps.map (·.1))):=fun q=>by have:=hzb.mpr q;cases this
   simp[this]
  rw[hc]
  refine ⟨L5,fin _ _ ?_,gg⟩
  rw[hb,Aj s1,Aj e2,Aj s3,Aj e4]
  exact Du (av.1 rfl)
 | true=>
  have hse:=hzb.mp rfl
  have hmem:∀ r∈rows,∀ s∈r,s∈ps.map (·.1):=fun r hr s hs=>by
   have h1:s∈rows.flatten:=nR.mpr ⟨r,hr,hs⟩
   have h2:=(Ec rows.flatten).mem_iff.mpr h1
   rw[hse] at h2
   exact (Ec _).mem_iff.mp h2
  have hlenr:∀ r∈rows,r.length<=1000:=fun r hr2=>by
   obtain ⟨i,hi,rfl⟩:=cY hr2
   have e:=congrArg (fun l=>l.flatten.length) (gZ i rows)
   simp only[fT,bB] at e
   rw[hV hi] at e
   simp only[dN,bB] at e
   omega
  have hd5:=g5.get hd4
  have hi2:Bb (Aa 1) [some P,some R,some (.ref L.length),y3,some (.ref Lb.length),y5] L5=some (.seq (rows.map rowU),L5):=by subst hR;rfl
  obtain ⟨x,e6⟩:=Cq (ix:=[none,some 2]) (fi:=Bb (Aa 1)) (it:=.seq (rows.map rowU)) (g:=gN 0) (tt:=none) (fe:=Hq) (δ:=[some P,some R,some (.ref L.length),y3,some (.ref Lb.length),y5]) (L:=L5) (L0:=L5)
   rows rowU (fun _=>true) (fun r=>.bl (Ep ps r)) (fun δ=>∃ a,δ = [a,some (.ref L.length)]) hi2 (by simp[IU.size]) (by omega) ⟨none,rfl⟩
   (fun k x=>rfl)
   (fun r δ x hr3 zz=>by
    obtain ⟨a,hδ⟩:=zz
    subst hδ
    obtain ⟨M',e,y,hy⟩:=Yb ((Gw.new L5 x).get hd5) (hmem r hr3) (hlenr r hr3)
    refine ⟨[some (rowU r),some (.ref L.length)],rfl,⟨_,rfl⟩,[],by simp[Jw],fun _=>⟨y,?_⟩⟩
    rw[aU,<- hy]
    exact Kp rfl rfl e)
  have hff:iH (fun _=>true) rows=rows:=eM.mpr (fun _ _=>rfl)
  rw[hff] at e6
  have q6:A7 (L5++x++[HU.lst (rows.map fun r=>.bl (Ep ps r))]) (L5++x).length=some (rows.map fun r=>U.bl (Ep ps r)):=Al (by simp)
  have hcb:Fv ps rows=rows.all (Ep ps):=by unfold Fv;simp[hse]
  rw[hcb]
  refine ⟨_,fin _ _ ?_,gg.trans ((Gw.new L5 x).trans (Gw.new _ [HU.lst (rows.map fun r=>.bl (Ep ps r))]))⟩
  rw[hb,Aj s1,Aj e2,Aj s3,Aj e4]
  refine Du ?_
  rw[av.2 rfl]
  exact Cv e6 (Ra rows (Ep ps) q6)
theorem Wh(W:List Str)(L:UH):Aw [rowU W] L=some (.int ((W.length:Nat):Int),L):=by unfold rowU;simp[Aw,lenU]
theorem Xk(rows:List (List Str))(L:UH):Aw [.tup (rows.map rowU)] L=some (.int ((rows.length:Nat):Int),L):=by simp[Aw,lenU]
theorem Ajm(a:Str)(W:List Str)(L:UH):Mw false (.str a) (rowU W) L=some (.bl (W.contains a),L):=by
 unfold Mw rowU
 simp only[toV,aA,toV_strs,aF,Wj]
 simp
noncomputable def cntO(pl:List (Int×Int))(q:Int×Int):Nat:=(pl.filter fun o=>B0 o q).length
theorem T7{pl:List (Int×Int)}(h:M[r]? = some (.lst (pl.map pr)))(hl:pl.length<=1000)(q:Int×Int):∃ M',Ks [.ref r,pr q] M=some (.int (cntO pl q:Nat),M')/\Gw M M':=by
 have hsq:=Al h
 obtain ⟨x,e⟩:=Cq (ix:=[none,some 1]) (fi:=Bb (Aa 0)) (it:=.ref r) (g:=gN 0) (tt:=some Gf) (fe:=Ma) (δ:=[some (.ref r),some (pr q)]) (L:=M) (L0:=M)
  pl pr (fun o=>B0 o q) pr (fun δ=>∃ a,δ = [a,some (pr q)]) (by simp only[Dq,fVar_eq,aZ,bT,aF,aA,Dg hsq]) (by rw[Gs hsq];simp) (by omega) ⟨none,rfl⟩
  (fun k x=>Lj (Em hsq))
  (fun o δ x _ zz=>by
   obtain ⟨a,hδ⟩:=zz
   subst hδ
   obtain ⟨y,ey⟩:=lies_ok o q (M++x)
   refine ⟨[some (pr o),some (pr q)],rfl,⟨_,rfl⟩,y,?_,fun _=>⟨[],?_⟩⟩
   ·show Gf _ _=_
    unfold Gf
    rw[fTru_eq,Kp rfl rfl ey]
    rfl
   ·rw[aU];rfl)
 have hlen:=Fs (L:=M++x++[HU.lst ((pl.filter fun o=>B0 o q).map pr)]) (n:=(M++x).length) (l:=(pl.filter fun o=>B0 o q).map pr) (by simp)
 rw[aI] at hlen
 exact ⟨_,fnN rfl (Du (Cv e hlen)),(Gw.new _ _).trans (Gw.new _ _)⟩
theorem Afe{qs:List P3}(h:M[r]? = some (.lst (qs.map p3U)))(hl:qs.length<=1000):∃ M',Ez [.ref r] M=some (.int ((qs.map fun q=>((cntO (qs.map (·.2)) q.2:Nat):Int)).sum),M')/\Gw M M':=by
 have hsq:=Al h
 obtain ⟨x,e⟩:=Cq (ix:=[none]) (fi:=Bb (Aa 0)) (it:=.ref r) (g:=gN 0) (tt:=none) (fe:=Lq) (δ:=[some (.ref r),none]) (L:=M) (L0:=M)
  qs p3U (fun _=>true) (fun q=>pr q.2) (fun δ=>∃ a,δ = [a]) (by simp only[Dq,fVar_eq,aZ,bT,aF,aA,Dg hsq]) (by rw[Gs hsq];simp) (by omega) ⟨none,rfl⟩
  (fun k x=>Lj (Em hsq))
  (fun o δ x _ zz=>by
   obtain ⟨a,hδ⟩:=zz
   subst hδ
   refine ⟨[some (p3U o)],rfl,⟨_,rfl⟩,[],by simp[Jw],fun _=>⟨[],?_⟩⟩
   rw[aU,aU]
   exact Nw rfl (Hy o _))
 have hff:iH (fun _=>true) qs=qs:=eM.mpr (fun _ _=>rfl)
 have hmm:(qs.map fun q=>pr q.2)=(qs.map (·.2)).map pr:=by rw[cE];rfl
 rw[hff,hmm] at e
 have s1:=C8 (i:=1) e
 simp only[aR,aS] at s1
 have q1:(M++x++[HU.lst ((qs.map (·.2)).map pr)])[(M++x).length]? = some (.lst ((qs.map (·.2)).map pr)):=by simp
 have g1:Gw M (M++x++[HU.lst ((qs.map (·.2)).map pr)]):=(Gw.new _ _).trans (Gw.new _ _)
 generalize (M++x).length=a at s1 q1
 generalize M++x++[HU.lst ((qs.map (·.2)).map pr)]=M1 at s1 q1 g1
 have hpl:(qs.map (·.2)).length<=1000:=by rw[aI];exact hl
 have hval:(qs.map fun q=>((cntO (qs.map (·.2)) q.2:Nat):Int))=(qs.map (·.2)).map fun q=>((cntO (qs.map (·.2)) q:Nat):Int):=by rw[cE];rfl
 rw[hval]
 generalize qs.map (·.2)=pl at q1 hpl s1
 have hsq1:=Al q1
 obtain ⟨y,e2⟩:=Cq (ix:=[none,some 1]) (fi:=Bb (Aa 1)) (it:=.ref a) (g:=gN 0) (tt:=none) (fe:=Lx) (δ:=[some (.ref r),some (.ref a)]) (L:=M1) (L0:=M1)
  pl pr (fun _=>true) (fun q=>.int ((cntO pl q:Nat):Int)) (fun δ=>∃ b,δ = [b,some (.ref a)]) (by simp only[Dq,fVar_eq,bN,aZ,bT,aF,aA,Dg hsq1]) (by rw[Gs hsq1];simp) (by omega) ⟨none,rfl⟩
  (fun k x=>Lj (Em hsq1))
  (fun q δ x _ zz=>by
   obtain ⟨b,hδ⟩:=zz
   subst hδ
   obtain ⟨M',e,z,hz⟩:=T7 ((Gw.new M1 x).get q1) hpl q
   refine ⟨[some (pr q),some (.ref a)],rfl,⟨_,rfl⟩,[],by simp[Jw],fun _=>⟨z,?_⟩⟩
   rw[aU,<- hz]
   exact Kp rfl rfl e)
 have hff2:iH (fun _=>true) pl=pl:=eM.mpr (fun _ _=>rfl)
 have hmm2:(pl.map fun q=>U.int ((cntO pl q:Nat):Int))=(pl.map fun q=>((cntO pl q:Nat):Int)).map U.int:=by rw[cE];rfl
 rw[hff2,hmm2] at e2
 have q2:A7 (M1++y++[HU.lst ((pl.map fun q=>((cntO pl q:Nat):Int)).map U.int)]) (M1++y).length=some ((pl.map fun q=>((cntO pl q:Nat):Int)).map U.int):=Al (by simp)
 have e3:Ko [.ref r] M=some (.tup ((pl.map fun q=>((cntO pl q:Nat):Int)).map U.int),M1++y++[HU.lst ((pl.map fun q=>((cntO pl q:Nat):Int)).map U.int)]):=by
  refine fnN rfl ?_
  unfold Py
  show Ar _ _ [some (.ref r),none] M=_
  rw[Aj s1]
  refine Du (Cv e2 ?_)
  simp only[Bj,q2,aF]
 have e4:Si [.tup ((pl.map fun q=>((cntO pl q:Nat):Int)).map U.int)] (M1++y++[HU.lst ((pl.map fun q=>((cntO pl q:Nat):Int)).map U.int)])=some (.int ((pl.map fun q=>((cntO pl q:Nat):Int)).sum),M1++y++[HU.lst ((pl.map fun q=>((cntO pl q:Nat):Int)).map U.int)]):=by
  unfold Si
  simp only[Yq,aF]
 exact ⟨M1++y++[HU.lst ((pl.map fun q=>((cntO pl q:Nat):Int)).map U.int)],fnN rfl (Du (Cv (Nw rfl e3) e4)),(g1.trans (Gw.new _ _)).trans (Gw.new _ _)⟩
noncomputable def fnd(ps:List P3)(W:List Str):List P3:=ps.filter fun p=>W.contains p.1
noncomputable def Sr(ps:List P3)(W:List Str):Bool:=((((fnd ps W).length:Nat):Int) == ((W.length:Nat):Int))&&((((fnd ps W).map fun q=>((cntO ((fnd ps W).map (·.2)) q.2:Nat):Int)).sum) == 0)
theorem Yn(hl:ps.length<=60)(W:List Str)(L:UH):∃ L',Ey [.tup (ps.map p3U),rowU W] L=some (.bl (Sr ps W),L')/\Gw L L':=by
 obtain ⟨x,e⟩:=Cq (ix:=[none,some 1]) (fi:=Bb (Aa 0)) (it:=.seq (ps.map p3U)) (g:=gN 0) (tt:=some N4) (fe:=N6) (δ:=[some (.tup (ps.map p3U)),some (rowU W),none]) (L:=L) (L0:=L)
  ps p3U (fun p=>W.contains p.1) p3U (fun δ=>∃ a,δ = [a,some (rowU W)]) rfl (by simp[IU.size]) (by omega) ⟨none,rfl⟩
  (fun k x=>rfl)
  (fun p δ x _ zz=>by
   obtain ⟨a,hδ⟩:=zz
   subst hδ
   refine ⟨[some (p3U p),some (rowU W)],rfl,⟨_,rfl⟩,[],?_,fun _=>⟨[],?_⟩⟩
   ·rw[aU]
    exact Dc (Bd (Bd rfl rfl rfl) rfl (Ajm p.1 W _))
   ·rw[aU,aU];rfl)
 have hfl:(fnd ps W).length<=60:=cJ (fX _ _) hl
 have hf:ps.filter (fun p=>W.contains p.1)=fnd ps W:=rfl
 rw[hf] at e
 have s1:=C8 (i:=2) e
 simp only[aR,aS] at s1
 have q1:(L++x++[HU.lst ((fnd ps W).map p3U)])[(L++x).length]? = some (.lst ((fnd ps W).map p3U)):=by simp
 have g1:Gw L (L++x++[HU.lst ((fnd ps W).map p3U)]):=(Gw.new _ _).trans (Gw.new _ _)
 generalize (L++x).length=a at s1 q1
 generalize L++x++[HU.lst ((fnd ps W).map p3U)]=M1 at s1 q1 g1
 have hlen:=Fs q1
 rw[aI] at hlen
 have t1:(f2 A8 (Ap Aw (Ac (Aa 2) Af)) (Ap Aw (Ac (Aa 1) Af))) [some (.tup (ps.map p3U)),some (rowU W),some (.ref a)] M1=some (.bl ((((fnd ps W).length:Nat):Int) == ((W.length:Nat):Int)),M1):=Bd (Cv rfl hlen) (Cv rfl (Wh W _)) rfl
 obtain ⟨M2,e2,g2⟩:=Afe q1 (by omega)
 have t2:(f2 A8 (Ay 1 Ez (Ac (Aa 2) Af)) (fC (.int 0))) [some (.tup (ps.map p3U)),some (rowU W),some (.ref a)] M1=some (.bl ((((fnd ps W).map fun q=>((cntO ((fnd ps W).map (·.2)) q.2:Nat):Int)).sum) == 0),M2):=Bd (Nw rfl e2) rfl rfl
 have av:=Il (g:=(f2 A8 (Ay 1 Ez (Ac (Aa 2) Af)) (fC (.int 0)))) t1
 have fin:∀ v M',Kr [some (.tup (ps.map p3U)),some (rowU W),none] L=some (.rt v,M')->Ey [.tup (ps.map p3U),rowU W] L=some (v,M'):=fun v M' h=>fnN rfl h
 cases hz:((((fnd ps W).length:Nat):Int) == ((W.length:Nat):Int)) with
 | false=>
  refine ⟨M1,fin _ _ ?_,g1⟩
  unfold Sr
  rw[hz]
  unfold Kr
  rw[Aj s1]
  exact Du (av.1 hz)
 | true=>
  refine ⟨M2,fin _ _ ?_,g1.trans g2⟩
  unfold Sr
  rw[hz]
  unfold Kr
  rw[Aj s1]
  refine Du ?_
  rw[av.2 hz,t2,pQ]
theorem Qq{β:Type}[DecidableEq β]:∀ {a b:List β},a.Nodup->(∀ x∈a,x∈b)->b.length<=a.length->a.Perm b
 | [],b,_,_,hl=>by
  have:b=[]:=fN.mp (Nat.le_zero.mp hl)
  rw[this]
 | x::a,b,h,hs,hl=>by
  obtain ⟨h1,h2⟩:=iB.mp h
  have hx:=hs x (aX ..)
  have hb:=nD hx
  have:=Qq (b:=b.erase x) h2 (fun y hy=>(pD (fun e:y=x=>h1 (by rw[<- e];exact hy))).mpr (hs y (aT _ hy))) (by rw[hb,<- Nat.add_le_add_iff_right (n:=1)];rw[aY] at hl;omega)
  exact (this.cons x).trans (List.perm_cons_erase hx).symm
theorem Yr:∀ (l:List Nat),((l.map fun n:Nat=>(n:Int)).sum=0↔∀ n∈l,n=0)
 | []=>by simp
 | n::l=>by
  have ih:=Yr l
  have hnn:0<=(l.map fun n:Nat=>(n:Int)).sum:=by
   clear ih
   induction l with
   | nil=>simp
   | cons m l ih=>rw[aL,fD];omega
  rw[aL,fD]
  constructor
  ·intro h m hm
   rcases bH.mp hm with e | e
   ·omega
   ·exact ih.mp (by omega) m e
  ·intro h
   have h0:=h n (aX ..)
   have:=ih.mpr fun m hm=>h m (aT _ hm)
   omega
theorem Aa4(hn:(ps.map (·.1)).Nodup)(W:List Str):Sr ps W=G0 ps W:=by
 have hfn:((fnd ps W).map (·.1)).Nodup:=hn.sublist (List.filter_sublist.map _)
 have hfs:∀ s∈(fnd ps W).map (·.1),s∈W:=fun s hs=>by
  obtain ⟨p,hp,rfl⟩:=bJ.mp hs
  simpa using (eT.mp hp).2
 have hmem:∀ p,p∈fnd ps W↔p∈ps/\p.1∈W:=fun p=>by unfold fnd;rw[eT];simp
 have hA:(fnd ps W).length=W.length↔W.Nodup/\∀ s∈W,s∈ps.map (·.1):=by
  constructor
  ·intro h
   have hp:=Qq hfn hfs (by rw[aI];omega)
   refine ⟨hp.nodup_iff.mp hfn,fun s hs=>?_⟩
   obtain ⟨p,hp2,rfl⟩:=bJ.mp (hp.mem_iff.mpr hs)
   exact bJ.mpr ⟨p,((hmem p).mp hp2).1,rfl⟩
  ·rintro ⟨h1,h2⟩
   have l1:=Qc hfn hfs
   have l2:=Qc (b:=(fnd ps W).map (·.1)) h1 fun s hs=>by
    obtain ⟨p,hp,rfl⟩:=bJ.mp (h2 s hs)
    exact bJ.mpr ⟨p,(hmem p).mpr ⟨hp,hs⟩,rfl⟩
   rw[aI] at l1 l2
   omega
 have hS:(((fnd ps W).map fun q=>((cntO ((fnd ps W).map (·.2)) q.2:Nat):Int)).sum=0)↔∀ p∈fnd ps W,∀ q∈fnd ps W,B0 p.2 q.2=false:=by
  have e:((fnd ps W).map fun q=>((cntO ((fnd ps W).map (·.2)) q.2:Nat):Int))=((fnd ps W).map fun q=>cntO ((fnd ps W).map (·.2)) q.2).map fun n:Nat=>(n:Int):=by rw[cE];rfl
  rw[e,Yr]
  constructor
  ·intro h p hp q hq
   have:=h _ (bJ.mpr ⟨q,hq,rfl⟩)
   unfold cntO at this
   have hnil:=fN.mp this
   have:=kF.mp hnil p.2 (bJ.mpr ⟨p,hp,rfl⟩)
   simpa using this
  ·intro h n hn2
   obtain ⟨q,hq,rfl⟩:=bJ.mp hn2
   unfold cntO
   rw[fN,kF]
   intro o ho
   obtain ⟨p,hp,rfl⟩:=bJ.mp ho
   rw[h p hp q hq];simp
 unfold Sr G0
 rw[jN]
 simp only[cL,beq_iff_eq,decide_eq_true_eq,hS]
 have hc:(((fnd ps W).length:Nat):Int)=((W.length:Nat):Int)↔(fnd ps W).length=W.length:=by omega
 rw[hc,hA]
 constructor
 ·rintro ⟨⟨h1,h2⟩,h3⟩
  refine ⟨⟨h1,h2⟩,?_⟩
  rw[cF]
  intro a ha
  rw[cF]
  intro b hb
  have pa:=Tg (h2 a ha)
  have pb:=Tg (h2 b hb)
  rw[h3 _ ((hmem _).mpr ⟨pa.1,by rw[pa.2];exact ha⟩) _ ((hmem _).mpr ⟨pb.1,by rw[pb.2];exact hb⟩)]
  rfl
 ·rintro ⟨⟨h1,h2⟩,h3⟩
  refine ⟨⟨h1,h2⟩,fun p hp q hq=>?_⟩
  obtain ⟨p1,p2⟩:=(hmem p).mp hp
  obtain ⟨q1,q2⟩:=(hmem q).mp hq
  have:=cF.mp (cF.mp h3 p.1 p2) q.1 q2
  rw[U5 hn p1,U5 hn q1] at this
  simpa using this
theorem S8(hl:ps.length<=60)(hn:(ps.map (·.1)).Nodup)(hlow:∀ p∈ps,Low p.1){rows:List (List Str)}(hr:rows.flatten.length < 64)(hrn:rows.length<=1000)(hrl:∀ s∈rows.flatten,Low s)(W:List Str)(L:UH) :
  ∃ L',Hv [.tup (ps.map p3U),.tup (rows.map rowU),rowU W] L=some (.bl ((((rows.length:Nat):Int) == ((W.length:Nat):Int))&&(Fv ps rows&&G0 ps W)),L')/\Gw L L':=by
 have t1:(f2 A8 (Ap Aw (Ac (Aa 1) Af)) (Ap Aw (Ac (Aa 2) Af))) [some (.tup (ps.map p3U)),some (.tup (rows.map rowU)),some (rowU W)] L=some (.bl (((rows.length:Nat):Int) == ((W.length:Nat):Int)),L):=Bd (Cv rfl (Xk rows _)) (Cv rfl (Wh W _)) rfl
 obtain ⟨L1,e1,g1⟩:=Xp hl hn hlow hr hrn hrl L
 obtain ⟨L2,e2,g2⟩:=Yn hl W L1
 rw[Aa4 hn] at e2
 have t2:(Ay 2 Gi (Ac (Aa 0) (Ac (Aa 1) Af))) [some (.tup (ps.map p3U)),some (.tup (rows.map rowU)),some (rowU W)] L=some (.bl (Fv ps rows),L1):=Kp rfl rfl e1
 have t3:(Ay 2 Ey (Ac (Aa 0) (Ac (Aa 2) Af))) [some (.tup (ps.map p3U)),some (.tup (rows.map rowU)),some (rowU W)] L1=some (.bl (G0 ps W),L2):=Kp rfl rfl e2
 have a1:=Il (g:=Hc (Ay 2 Gi (Ac (Aa 0) (Ac (Aa 1) Af))) (Ay 2 Ey (Ac (Aa 0) (Ac (Aa 2) Af)))) t1
 have a2:=Il (g:=Ay 2 Ey (Ac (Aa 0) (Ac (Aa 2) Af))) t2
 have fin:∀ v M',(Hc (f2 A8 (Ap Aw (Ac (Aa 1) Af)) (Ap Aw (Ac (Aa 2) Af))) (Hc (Ay 2 Gi (Ac (Aa 0) (Ac (Aa 1) Af))) (Ay 2 Ey (Ac (Aa 0) (Ac (Aa 2) Af))))) [some (.tup (ps.map p3U)),some (.tup (rows.map rowU)),some (rowU W)] L=some (v,M')->Hv [.tup (ps.map p3U),.tup (rows.map rowU),rowU W] L=some (v,M'):=fun v M' h=>fnN rfl (Du h)
 cases hz:(((rows.length:Nat):Int) == ((W.length:Nat):Int)) with
 | false=>exact ⟨L,fin _ _ (by rw[oN];exact a1.1 hz),Gw.refl _⟩
 | true=>
  cases hc:Fv ps rows with
  | false=>exact ⟨L1,fin _ _ (by rw[a1.2 hz];exact a2.1 hc),g1⟩
  | true=>exact ⟨L2,fin _ _ (by rw[a1.2 hz,a2.2 hc,t3];rfl),g1.trans g2⟩
variable {L0:UH}{lf:List PN}
namespace SN
abbrev PN:=Str×List Int
noncomputable def tI(a:List Int):U:=.tup (a.map U.int)
noncomputable def nU(p:PN):U:=.tup (.str p.1::p.2.map U.int)
noncomputable def und(a b:List Int):Bool:=!decide (a=b)&&(a.zip b).all fun p=>decide (p.1<=p.2)
theorem Rc(l:List Int):Pl 6 (.tup (l.map U.int)):=by
 rw[K0];intro u hu
 obtain ⟨i,_,rfl⟩:=bJ.mp hu
 exact Pl.int _ _
theorem Xc{a b:List Int}:a.map U.int=b.map U.int↔a=b:=
 ⟨fun h=>(List.map_inj_right (fun x y e=>by cases e;rfl)).mp h,fun h=>by rw[h]⟩
theorem Ahx(a b:List Int):eqB (.tup (a.map U.int)) (.tup (b.map U.int))=decide (a=b):=by
 rw[jN,Acd (Rc a) (Rc b),decide_eq_true_iff,U.tup.injEq]
 exact Xc
theorem Ah1(a b:List Int)(L:UH):B2 (.tup (a.map U.int)) (.tup (b.map U.int)) L=some (.bl (!decide (a=b)),L):=by
 rw[W2 L (Rc a) (Rc b),Ahx]
theorem Yt(a b:List Int):Er (a.map U.int) (b.map U.int)=(a.zip b).map fun p=>.tup [.int p.1,.int p.2]:=by
 unfold Er
 rw[tQ,cE]
 rfl
theorem lies_ok(a b:List Int)(hl:a.length<=1000)(L:UH):∃ x,Ci [tI a,tI b] L=some (.bl (und a b),L++x):=by
 have hn:B2 (tI a) (tI b) L=some (.bl (!decide (a=b)),L):=Ah1 a b L
 unfold und
 cases hq:decide (a=b) with
 | true=>
  rw[hq] at hn
  refine ⟨[],?_⟩
  unfold Ci fnU Hb
  simp only[aY,cB,if_true,aL,cU,eG,eZ,aU,fRet_eq,Jo,f2_eq,fVar_eq,aZ,bN,bT,aF,aA,hn,pP,oN]
  rfl
 | false=>
  rw[hq] at hn
  have hz:(Na (Ac (Aa 0) (Ac (Aa 1) Af))) [some (tI a),some (tI b)] L=some (.seq ((a.zip b).map fun p=>.tup [.int p.1,.int p.2]),L):=by
   rw[<- Yt];rfl
  obtain ⟨x,e⟩:=Cq (ix:=[none,none]) (fi:=Na (Ac (Aa 0) (Ac (Aa 1) Af))) (it:=.seq ((a.zip b).map fun p=>.tup [.int p.1,.int p.2])) (g:=(MR.gTup 2 (MR.gCons (gN 0) (MR.gCons (gN 1) MR.gNil)))) (tt:=none) (fe:=Ei) (δ:=[some (tI a),some (tI b)]) (L:=L) (L0:=L)
   (a.zip b) (fun a=>.tup [.int a.1,.int a.2]) (fun _=>true) (fun a=>.bl (decide (a.1<=a.2))) (fun δ=>∃ a b,δ = [a,b]) hz (by simp[IU.size]) (by rw[oK];omega) ⟨none,none,rfl⟩
   (fun k x=>rfl)
   (fun a δ x _ zz=>by
    obtain ⟨y,z,hδ⟩:=zz
    subst hδ
    refine ⟨_,rfl,⟨_,_,rfl⟩,[],by simp[Jw],fun _=>⟨[],?_⟩⟩
    simp[Ei])
  have hf:iH (fun _:Int×Int=>true) (a.zip b)=a.zip b:=eM.mpr (fun _ _=>rfl)
  rw[hf] at e
  have q1:A7 (L++x++[HU.lst ((a.zip b).map fun a=>.bl (decide (a.1<=a.2)))]) (L++x).length=some ((a.zip b).map fun a=>U.bl (decide (a.1<=a.2))):=Al (by simp)
  have ha:=Ra _ _ q1
  refine ⟨x++[HU.lst ((a.zip b).map fun a=>.bl (decide (a.1<=a.2)))],?_⟩
  unfold Ci fnU Hb
  simp only[aY,cB,if_true,aL,cU,eG,eZ,aU,fRet_eq,Jo,f2_eq,fVar_eq,aZ,bN,bT,aF,aA,hn,pB,if_true,fCall_eq,fCons_eq,fNil_eq]
  rw[pQ,<- dO]
  simp only[e,ha,aF,aA]
theorem Ahb{tt:FT}{as:List (List Int)}(a:List Int)(f:List Int->Bool)(hr:L[r]? = some (.lst (as.map tI)))(hl:as.length<=1000)(ht:∀ q∈as,∀ M:UH,∃ z,tt [some (tI q),some (tI a)] M=some (f q,M++z))(hfe:∀ q M,fe [some (tI q),some (tI a)] M=some (tI q,M)) :
  ∃ L',(Ap Aw (Ac (Bu [none,some 1] (Bb (Aa 0)) (gN 0) (some tt) fe) Af)) [some (.ref r),some (tI a)] L=some (.int ((as.filter f).length:Nat),L')/\Gw L L':=by
 have hs:=Al hr
 obtain ⟨x,e⟩:=Cq (ix:=[none,some 1]) (fi:=Bb (Aa 0)) (it:=.ref r) (g:=gN 0) (tt:=some tt) (fe:=fe) (δ:=[some (.ref r),some (tI a)]) (L:=L) (L0:=L)
  as tI f tI (fun δ=>∃ z,δ = [z,some (tI a)]) (by simp[Dg hs]) (by rw[Gs hs];simp) (by omega) ⟨none,rfl⟩
  (fun k x=>Lj (Em hs))
  (fun q δ x hq zz=>by
   obtain ⟨y,hδ⟩:=zz
   subst hδ
   obtain ⟨z,e1⟩:=ht q hq (L++x)
   exact ⟨[some (tI q),some (tI a)],rfl,⟨_,rfl⟩,z,e1,fun _=>⟨[],by rw[aU];exact hfe q _⟩⟩)
 have q1:(L++x++[HU.lst ((as.filter f).map tI)])[(L++x).length]? = some (.lst ((as.filter f).map tI)):=by simp
 have hlen:=Fs q1
 rw[aI] at hlen
 refine ⟨_,?_,⟨x++[HU.lst ((as.filter f).map tI)],(dO ..)⟩⟩
 rw[fCall_eq,fCons_eq,e]
 simp only[aA,fNil_eq,aF,hlen]
theorem fn2{b:FE}(h:b [some u,some w] L=some (v,L')):fnU 2 2 (Cf b) [u,w] L=some (v,L'):=by
 unfold fnU
 simp only[aY,cB,if_true,aL,cU,eG,eZ,aU,fRet_eq,h,aF]
 rfl
noncomputable def cA(as:List (List Int))(a:List Int):Nat:=(as.filter fun q=>und a q).length
theorem Alc{b:Bool}(h:fe δ L=some (.bl b,L')):Ny fe δ L=some (b,L'):=by
 rw[fTru_eq,h];rfl
theorem Y1{as:List (List Int)}(a:List Int)(hr:L[r]? = some (.lst (as.map tI)))(hl:as.length<=1000)(ha:a.length<=1000):∃ L',Lf [.ref r,tI a] L=some (.int (cA as a:Nat),L')/\Gw L L':=by
 obtain ⟨L',e,g⟩:=Ahb (tt:=Lp) (fe:=Ls) a (fun q=>und a q) hr hl (fun q hq M=>by
  obtain ⟨x,e⟩:=lies_ok a q ha M
  exact ⟨x,Alc (Mu rfl rfl e)⟩) (fun _ _=>rfl)
 exact ⟨L',fn2 e,g⟩
noncomputable def SeqU(u:U)(us:List U)(L:UH):Prop:=u = .tup us\/∃ n,u = .ref n/\L[n]? = some (.lst us)
theorem SeqU.gw(h:SeqU u us L)(g:Gw L L'):SeqU u us L':=by
 rcases h with h | ⟨n,h,h2⟩
 ·exact .inl h
 ·exact .inr ⟨n,h,g.get h2⟩
theorem SeqU.it(h:SeqU u us L)(hv:fe δ M=some (u,L)):∃ it,Bb fe δ M=some (it,L)/\us.length<=it.size L/\∀ k x,it.at k (L++x)=some us[k]?:=by
 rcases h with rfl | ⟨n,rfl,h2⟩
 ·exact ⟨.seq us,by rw[Dq,hv];rfl,by simp[IU.size],fun k x=>rfl⟩
 ·have hs:=Al h2
  exact ⟨.ref n,by rw[Dq,hv,aA,Dg hs];rfl,by rw[Gs hs];exact aQ _,fun k x=>Lj (Em hs)⟩
theorem SeqU.tru(h:SeqU u us L):Qj u L=some (!us.isEmpty):=by
 rcases h with rfl | ⟨n,rfl,h2⟩
 ·rfl
 ·unfold Qj
  simp only
  rw[h2]
theorem tuple_of(h:L[n]? = some (.lst us)):Bj [.ref n] L=some (.tup us,L):=by simp only[Bj,Al h,aF]
theorem comp_all{β:Type}{ix:List (Option Nat)}{fi:FI}{it:IU}(as:List β)(rep:β->U)(e:β->U)(tl:UE)(hx:Mx ix δ = none::tl)(hi:fi δ L=some (it,L0))(hsz:(as.map rep).length<=it.size L0)(hl:as.length < 16777216)(hat:∀ k x,it.at k (L0++x)=some (as.map rep)[k]?)
  (step:∀ (a:β) x,a∈as->∃ z,fe (some (rep a)::tl) (L0++x)=some (e a,L0++x++z)) :
  ∃ L',Bu ix fi (gN 0) none fe δ L=some (.ref L'.length,L'++[.lst (as.map e)])/\Gw L0 L':=by
 obtain ⟨x,e1⟩:=Cq (ix:=ix) (fi:=fi) (it:=it) (g:=gN 0) (tt:=none) (fe:=fe) (δ:=δ) (L:=L) (L0:=L0) as rep (fun _=>true) e (fun δ=>∃ z,δ = z::tl) hi (by simpa using hsz) hl ⟨none,hx⟩ hat
  (fun a δ x ha zz=>by
   obtain ⟨y,hδ⟩:=zz
   subst hδ
   obtain ⟨z,e2⟩:=step a x ha
   exact ⟨some (rep a)::tl,rfl,⟨_,rfl⟩,[],by simp[Jw],fun _=>⟨z,by rw[aU];exact e2⟩⟩)
 have hff:iH (fun _=>true) as=as:=eM.mpr (fun _ _=>rfl)
 rw[hff] at e1
 exact ⟨L0++x,e1,⟨x,rfl⟩⟩
noncomputable def Agw(fe1 fe2:FE):FS:=(Ar (Av (Bu [none] (Bb (Aa 0)) (gN 0) none fe2) (gN 1)) (Cf (Ap Bj (Ac (Bu [none,some 1] (Bb (Aa 1)) (gN 0) none fe1) Af))))
theorem Ac8{ps:List PN}(hu:SeqU u (ps.map nU) L)(hl:ps.length<=1000)(h2:∀ p∈ps,∀ M,fe [some (nU p)] M=some (tI p.2,M))(x1:Option U) :
  ∃ (r:Nat) (M:UH),(Av (Bu [none] (Bb (Aa 0)) (gN 0) none fe) (gN 1)) [some u,x1] L=some (.nx [some u,some (.ref r)],M)/\M[r]? = some (.lst ((ps.map cK).map tI))/\Gw L M:=by
 obtain ⟨it,hi,hsz,hat⟩:=hu.it (fe:=Aa 0) (δ:=[some u,x1]) (M:=L) rfl
 obtain ⟨L',e,g⟩:=comp_all (ix:=[none]) (fe:=fe) ps nU (fun p=>tI p.2) [] rfl hi hsz (by omega) hat (fun p x hp=>⟨[],by rw[aU];exact h2 p hp _⟩)
 have s1:=C8 (i:=1) e
 have hm:ps.map (fun p=>tI p.2)=(ps.map cK).map tI:=by rw[cE];rfl
 rw[hm] at s1
 exact ⟨_,_,s1,by simp,g.trans (Gw.new _ _)⟩
theorem Ajh{fe1 fe2:FE}{ps:List PN}(c:List Int->Int)(hu:SeqU u (ps.map nU) L)(hl:ps.length<=1000)(h2:∀ p∈ps,∀ M,fe2 [some (nU p)] M=some (tI p.2,M))
  (h1:∀ (M:UH) (r:Nat) (a:List Int),a∈ps.map cK->M[r]? = some (.lst ((ps.map cK).map tI))->∃ M',fe1 [some (tI a),some (.ref r)] M=some (.int (c a),M')/\Gw M M') :
  ∃ L',fnU 2 1 (Agw fe1 fe2) [u] L=some (.tup (((ps.map cK).map c).map U.int),L')/\Gw L L':=by
 obtain ⟨r,M,s1,hr,gM⟩:=Ac8 hu hl h2 none
 have hla:(ps.map cK).length < 16777216:=by rw[aI];omega
 generalize ps.map cK=as at hr h1 hla ⊢
 obtain ⟨it,hi,hsz,hat⟩:=SeqU.it (u:=.ref r) (us:=as.map tI) (L:=M) (.inr ⟨r,rfl,hr⟩) (fe:=Aa 1) (δ:=[some u,some (.ref r)]) (M:=M) rfl
 obtain ⟨L',e,g⟩:=comp_all (ix:=[none,some 1]) (fe:=fe1) as tI (fun a=>.int (c a)) [some (.ref r)] rfl hi hsz hla hat (fun a x ha=>by
  obtain ⟨M',e,z,hz⟩:=h1 (M++x) r a ha ((Gw.new M x).get hr)
  exact ⟨z,by rw[e,hz]⟩)
 have hm:as.map (fun a=>U.int (c a))=(as.map c).map U.int:=by rw[cE];rfl
 rw[hm] at e
 refine ⟨_,fnN rfl ?_,gM.trans (g.trans (Gw.new L' [HU.lst ((as.map c).map U.int)]))⟩
 show Agw fe1 fe2 [some u,none] L=_
 unfold Agw
 rw[Aj s1]
 exact Du (Cv e (tuple_of (by simp)))
theorem Af5{p:PN}(h:p.2.length=2)(L:UH):Bn [nU p] L=some (tI p.2,L):=by
 obtain ⟨n,a⟩:=p
 match a,h with
 | [x,y],_=>
  have sm2:Dy (0+1+1)=true:=small_of (by decide)
  have i1:Ak (nU (n,[x,y])) (.int 1) L=some (.int x,L):=rfl
  have i2:Ak (nU (n,[x,y])) (.int 2) L=some (.int y,L):=rfl
  unfold Bn fnU Oi
  simp only[aY,cB,if_true,aL,cU,eG,eZ,aU,fRet_eq,Nt,fCons_eq,fNil_eq,f2_eq,fVar_eq,fC_eq,aZ,bT,aF,aA,i1,i2]
  rw[if_pos sm2]
  rfl
noncomputable def cAs(as:List (List Int)):List Int:=as.map fun a=>(cA as a:Int)
noncomputable def Dim(k:Nat)(ps:List PN):Prop:=∀ p∈ps,p.2.length=k
theorem Dim.len{ps:List PN}(h:Dim k ps)(hk:k<=1000):∀ a∈ps.map cK,a.length<=1000:=fun a ha=>by
 obtain ⟨p,hp,rfl⟩:=bJ.mp ha
 rw[h p hp];exact hk
theorem T4{ps:List PN}(hu:SeqU u (ps.map nU) L)(hl:ps.length<=1000)(hd:Dim 2 ps):∃ L',Kx [u] L=some (.tup ((cAs (ps.map cK)).map U.int),L')/\Gw L L':=
 Ajh (fe1:=Lz) (fe2:=Lu) (fun a=>(cA (ps.map cK) a:Int)) hu hl (fun p hp M=>Nw rfl (Af5 (hd p hp) M)) (fun M r a ha hr=>by
  obtain ⟨M',e,g⟩:=Y1 a hr (by rw[aI];exact hl) (hd.len (by decide) a ha)
  exact ⟨M',Mu rfl rfl e,g⟩)
noncomputable def sU(l:List Str):U:=.tup (l.map U.str)
theorem Aiq(p:PN)(L:UH):Ak (nU p) (.int 0) L=some (.str p.1,L):=by
 unfold nU
 rw[Qa,Je (by decide) (by rw[aY];omega)];rfl
noncomputable def Ani(qs:List PN):List Nat:=SO.Ee (ltK (qs.map cK)) qs.length
theorem Vc(qs:List PN):(Ani qs).Perm (dB qs.length):=SO.Ji (Ol _)
noncomputable def Aj6:PN:=("",[])
noncomputable def J8(qs:List PN):List PN:=(Ani qs).map fun i=>qs.getD i Aj6
theorem Vh(qs:List PN):(J8 qs).Perm qs:=by
 have e:(dB qs.length).map (fun i=>qs.getD i Aj6)=qs:=by
  apply jA
  ·simp
  ·intro i h1 h2
   have hi:i < qs.length:=by simpa using h2
   rw[kP,mI,aO,aC hi];rfl
 have:=(Vc qs).map fun i=>qs.getD i Aj6
 rw[e] at this
 exact this
theorem Ajl(a:List Int):Agy (tI a)=some a:=Yq a
theorem Aqd{p:PN}(h:p.2.length=2)(L:UH):Od Bn L (nU p)=some p.2:=by
 unfold Od
 rw[Af5 h L]
 simp only[aA,if_true]
 exact Ajl p.2
theorem Akh(L:UH):∀ ps:List PN,Dim 2 ps->mapO (Od Bn L) (ps.map nU)=some (ps.map cK)
 | [],_=>rfl
 | p::ps,h=>by
  rw[aL,aL]
  simp only[mapO,Aqd (h p (aX ..)),Akh L ps (fun q hq=>h q (aT _ hq)),aA,aF]
theorem Ae6{ps:List PN}(hl:ps.length<=60)(hd:Dim 2 ps)(hn:L[n]? = some (.lst (ps.map nU)))(h:Aa i δ L=some (.ref n,L)):S7 Bn (Aa i) δ L=some (.ref L.length,L++[.lst ((J8 ps).map nU)]):=by
 have hall:((ps.map cK).all fun t=>!t.isEmpty)=true:=by
  rw[cF]
  intro t ht
  obtain ⟨p,hp,rfl⟩:=bJ.mp ht
  have:=hd p hp
  cases hq:p.2 with
  | nil=>rw[hq] at this;cases this
  | cons _ _=>rfl
 unfold S7
 rw[h]
 simp only[aA,Al hn,Akh L ps hd]
 rw[if_pos ⟨by rw[aI];omega,hall⟩]
 have:(J8 ps).map nU=(SO.Ee (ltK (ps.map cK)) (ps.map nU).length).map fun i=>(ps.map nU).getD i .non:=by
  unfold J8 Ani
  rw[cE,aI]
  refine jD fun i hi=>?_
  have hi:i < ps.length:=eI.mp ((Vc ps).mem_iff.mp hi)
  show nU (ps.getD i Aj6)=(ps.map nU).getD i .non
  rw[aO,aO,bA,aC hi]
  rfl
 rw[this]
theorem Ah8{ws:List U}(h:SeqU u us L)(hi:Aa i δ L=some (u,L))(hj:Aa j δ L=some (.tup ws,L)):∃ it,Qr (Ac (Aa i) (Ac (Aa j) Af)) δ L=some (it,L)/\(Er us ws).length<=it.size L/\∀ k x,it.at k (L++x)=some (Er us ws)[k]?:=by
 have hc:(Ac (Aa i) (Ac (Aa j) Af)) δ L=some ([u,.tup ws],L):=by
  rw[fCons_eq,hi,aA,fCons_eq,hj];rfl
 rcases h with rfl | ⟨n,rfl,h2⟩
 ·exact ⟨.seq (Er us ws),by unfold Qr;rw[hc];rfl,by simp[IU.size],fun k x=>rfl⟩
 ·have hs:=Al h2
  refine ⟨.zipL n ws,by unfold Qr;rw[hc];simp only[aA,hs,aF],?_,fun k x=>?_⟩
  ·show _<=(match A7 L n with | some us=>min us.length ws.length | none=>0)
   rw[hs];simp[Er]
  ·show (A7 (L++x) n).map _=_
   rw[Em hs,aF,Om]
noncomputable def zU(as:List (List Int))(p:PN):U:=.tup [nU p,.int (cA as p.2:Int)]
theorem Aju(lf:List PN):Er (lf.map nU) ((cAs (lf.map cK)).map U.int)=lf.map (zU (lf.map cK)):=by
 unfold cAs
 rw[cE,cE]
 generalize lf.map cK=as
 unfold Er
 rw[List.zip_map',cE]
 rfl
noncomputable def Jj(lf:List PN):List PN:=lf.filter fun p=>decide (cA (lf.map cK) p.2=0)
noncomputable def X1(lf:List PN):List PN:=lf.filter fun p=>decide (0 < cA (lf.map cK) p.2)
theorem Ag3{tt:FT}(f:PN->Bool)(hu:SeqU u (lf.map nU) L)(hl:lf.length<=1000)(hi:Aa i δ L=some (u,L))(hj:Aa j δ L=some (.tup ((cAs (lf.map cK)).map U.int),L))
  (ht:∀ p M,tt [some (nU p),some (.int (cA (lf.map cK) p.2:Int))] M=some (f p,M)) (hfe:∀ p y M,fe [some (nU p),y] M=some (nU p,M)) :
  ∃ L',Bu [none,none] (Qr (Ac (Aa i) (Ac (Aa j) Af))) (MR.gTup 2 (MR.gCons (gN 0) (MR.gCons (gN 1) MR.gNil))) (some tt) fe δ L=some (.ref L'.length,L'++[.lst ((lf.filter f).map nU)])/\Gw L L':=by
 obtain ⟨it,e1,hsz,hat⟩:=Ah8 hu hi hj
 rw[Aju] at hsz hat
 obtain ⟨x,e⟩:=Cq (ix:=[none,none]) (it:=it) (g:=(MR.gTup 2 (MR.gCons (gN 0) (MR.gCons (gN 1) MR.gNil)))) (tt:=some tt) (fe:=fe) (δ:=δ) (L:=L) (L0:=L)
  lf (zU (lf.map cK)) f nU (fun δ=>∃ a b,δ = [a,b]) e1 (by simpa using hsz) (by omega) ⟨none,none,rfl⟩ hat
  (fun p δ x _ zz=>by
   obtain ⟨y,z,hδ⟩:=zz
   subst hδ
   exact ⟨[some (nU p),some (.int (cA (lf.map cK) p.2:Int))],rfl,⟨_,_,rfl⟩,[],by rw[aU];exact ht p _,fun _=>⟨[],by rw[aU,aU];exact hfe p _ _⟩⟩)
 exact ⟨L++x,e,⟨x,rfl⟩⟩
theorem push_ok{l1:List U}(h:Aa i δ L=some (.ref n,L))(h0:L[n]? = some (.lst l))(e:fe δ L=some (v,L1))(h1:L1[n]? = some (.lst l1))(hl:l1.length<=1000):(Di (Ck "list" C5 (Aa i) (Ac fe Af))) δ L=some (.nx δ,L1.set n (.lst (l1++[v]))):=by
 rw[Fy,fMeth_eq,h,aA,if_pos (Gg h0),fCons_eq,e]
 simp only[aA,fNil_eq,aF,Iw v h1 (by omega)]
inductive stairs_turn_I(L0:UH)(M:UH)(s:Nat)(u:U)(lf:List PN)(sts:List U)(x0:Option U)(x3:Option U)(x4:Option U):Prop
 | mk (r:Nat) (y3 y4:Option U) (M':UH) (h0:Hr [x0,some (.ref s),some u,x3,x4] M=some (.nx [x0,some (.ref s),some (.ref r),y3,y4],M')) (h1:M'[s]? = some (.lst (sts++[sU ((J8 (Jj lf)).map fR)]))) (h2:M'[r]? = some (.lst ((X1 lf).map nU))) (h3:r≠s) (h4:Gw L0 M'):stairs_turn_I L0 M s u lf sts x0 x3 x4
theorem X6{s:Nat}{sts:List U}(hg:Gw L0 M)(hs0:L0.length<=s)(hs:M[s]? = some (.lst sts))(hu:SeqU u (lf.map nU) M)(hne:∀ n,u = .ref n->n≠s)(hl:lf.length<=60)(hd:Dim 2 lf)(hst:sts.length<=1000)(x0 x3 x4:Option U):stairs_turn_I L0 M s u lf sts x0 x3 x4:=by
 have sl:s < M.length:=(aG.mp hs).1
 obtain ⟨M1,e1,g1⟩:=T4 hu (by omega) hd
 have s1:=C8 (i:=3) (Nw (i:=2) (δ:=[x0,some (.ref s),some u,x3,x4]) rfl e1)
 simp only[aR,aS] at s1
 obtain ⟨M2,e2,g2⟩:=Ag3 (tt:=Jc) (fe:=Jf) (δ:=[x0,some (.ref s),some u,some (.tup ((cAs (lf.map cK)).map U.int)),x4]) (i:=2) (j:=3) (fun p=>decide (cA (lf.map cK) p.2=0)) (hu.gw g1) (by omega) rfl rfl (fun p M=>by
  have hb:(((cA (lf.map cK) p.2:Nat):Int) == 0)=decide (cA (lf.map cK) p.2=0):=by
   cases h:cA (lf.map cK) p.2 with
   | zero=>rfl
   | succ n=>rfl
  rw[<- hb];rfl) (fun _ _ _=>rfl)
 have s2:=C8 (i:=4) e2
 simp only[aR,aS] at s2
 have g3:Gw M (M2++[HU.lst ((Jj lf).map nU)]):=g1.trans (g2.trans (Gw.new _ _))
 have k3:(M2++[HU.lst ((Jj lf).map nU)])[M2.length]? = some (.lst ((Jj lf).map nU)):=by simp
 have hs3:=g3.get hs
 generalize hM3:M2++[HU.lst ((Jj lf).map nU)]=M3 at g3 k3 hs3
 have s2':(Av (Bu [none,none] (Qr (Ac (Aa 2) (Ac (Aa 3) Af))) (MR.gTup 2 (MR.gCons (gN 0) (MR.gCons (gN 1) MR.gNil))) (some Jc) Jf) (gN 4)) [x0,some (.ref s),some u,some (.tup ((cAs (lf.map cK)).map U.int)),x4] M1=some (.nx [x0,some (.ref s),some u,some (.tup ((cAs (lf.map cK)).map U.int)),some (.ref M2.length)],M3):=by rw[<- hM3];exact s2
 have hdt:Dim 2 (Jj lf):=fun p hp=>hd p (eT.mp hp).1
 have hlt:(Jj lf).length<=60:=cJ (fX _ _) hl
 have so:=Ae6 (i:=4) (δ:=[x0,some (.ref s),some u,some (.tup ((cAs (lf.map cK)).map U.int)),some (.ref M2.length)]) hlt hdt k3 rfl
 have hso:SeqU (.ref M3.length) ((J8 (Jj lf)).map nU) (M3++[HU.lst ((J8 (Jj lf)).map nU)]):=.inr ⟨_,rfl,by simp⟩
 obtain ⟨it,hi,hsz,hat⟩:=hso.it so
 obtain ⟨M4,e4,g4⟩:=comp_all (ix:=[none]) (fe:=Md) (J8 (Jj lf)) nU (fun p=>U.str p.1) [] rfl hi hsz (by rw[(Vh _).length_eq];omega) hat (fun p x hp=>⟨[],by rw[aU];exact Bd rfl rfl (Aiq p _)⟩)
 have hm:(J8 (Jj lf)).map (fun p=>U.str p.1)=((J8 (Jj lf)).map fR).map U.str:=by rw[cE];rfl
 rw[hm] at e4
 have g5:Gw M3 (M4++[HU.lst (((J8 (Jj lf)).map fR).map U.str)]):=(Gw.new _ _).trans (g4.trans (Gw.new _ _))
 have e5:=Cv e4 (tuple_of (us:=((J8 (Jj lf)).map fR).map U.str) (by simp))
 have hs5:=g5.get hs3
 generalize M4++[HU.lst (((J8 (Jj lf)).map fR).map U.str)]=M5 at g5 e5 hs5
 have s3:=push_ok (i:=1) (δ:=[x0,some (.ref s),some u,some (.tup ((cAs (lf.map cK)).map U.int)),some (.ref M2.length)]) rfl hs3 e5 hs5 hst
 have g6:Gw M M5:=g3.trans g5
 have hu6:SeqU u (lf.map nU) (M5.set s (.lst (sts++[.tup (((J8 (Jj lf)).map fR).map U.str)]))):=by
  rcases hu with h | ⟨n,h,h2⟩
  ·exact .inl h
  ·exact .inr ⟨n,h,by rw[bD (eW (hne n h))];exact g6.get h2⟩
 have hs6:(M5.set s (.lst (sts++[.tup (((J8 (Jj lf)).map fR).map U.str)])))[s]? = some (.lst (sts++[.tup (((J8 (Jj lf)).map fR).map U.str)])):=bI (bL sl g6.le)
 have g7:Gw L0 (M5.set s (.lst (sts++[.tup (((J8 (Jj lf)).map fR).map U.str)]))):=(hg.trans g6).set hs0 _
 have ln:M5.length=(M5.set s (.lst (sts++[.tup (((J8 (Jj lf)).map fR).map U.str)]))).length:=by rw[eV]
 generalize M5.set s (.lst (sts++[.tup (((J8 (Jj lf)).map fR).map U.str)]))=M6 at s3 hu6 hs6 g7 ln
 obtain ⟨M7,e7,g8⟩:=Ag3 (tt:=Nb) (fe:=M8) (δ:=[x0,some (.ref s),some u,some (.tup ((cAs (lf.map cK)).map U.int)),some (.ref M2.length)]) (i:=2) (j:=3) (fun p=>decide (0 < cA (lf.map cK) p.2)) hu6 (by omega) rfl rfl (fun p M=>by
  have hb:decide ((0:Int) < ((cA (lf.map cK) p.2:Nat):Int))=decide (0 < cA (lf.map cK) p.2):=by
   cases h:cA (lf.map cK) p.2 with
   | zero=>rfl
   | succ n=>simp
  rw[<- hb];rfl) (fun _ _ _=>rfl)
 have s4:=C8 (i:=2) e7
 simp only[aR,aS] at s4
 refine ⟨M7.length,some (.tup ((cAs (lf.map cK)).map U.int)),some (.ref M2.length),M7++[.lst ((X1 lf).map nU)],?_,(Gw.new _ _).get (g8.get hs6),by simp,?_,g7.trans (g8.trans (Gw.new _ _))⟩
 ·unfold Hr
  rw[Aj s1,Aj s2',Aj s3]
  exact s4
 ·have:=g6.le
  have:=g8.le
  omega
noncomputable def stairsF:Nat->List PN->List (List Str)
 | 0,_=>[]
 | n+1,lf=>if lf.isEmpty then [] else ((J8 (Jj lf)).map fR)::stairsF n (X1 lf)
theorem Xu{s:Nat}(hs0:L0.length<=s)(x0:Option U)(hdec:∀ lf:List PN,lf≠[]->Dim 2 lf->(X1 lf).length < lf.length):∀ (n k:Nat) (lf:List PN) (M:UH) (u:U) (sts:List U) (x3 x4:Option U),lf.length<=n->lf.length<=60->Dim 2 lf->sts.length+n<=1000->Gw L0 M->M[s]? = some (.lst sts)->SeqU u (lf.map nU) M->(∀ n,u = .ref n->n≠s) ->
  ∃ (δ':UE) (M':UH),H9 E8 Hr (n+(k+1)) [x0,some (.ref s),some u,x3,x4] M=some (.nx δ',M')/\Aa 1 δ' M'=some (.ref s,M')/\M'[s]? = some (.lst (sts++(stairsF n lf).map sU))/\Gw L0 M':=by
 intro n
 induction n with
 | zero=>
  intro k lf M u sts x3 x4 hn hl hd hst hg hs hu hne
  have h0:lf=[]:=fN.mp (by omega)
  subst h0
  have ht:E8 [x0,some (.ref s),some u,x3,x4] M=some (false,M):=by
   show ((Qj u M).map fun k=>(k,M))=_
   rw[hu.tru];rfl
  refine ⟨[x0,some (.ref s),some u,x3,x4],M,?_,rfl,by rw[hs];simp[stairsF],hg⟩
  show H9 _ _ (0+(k+1)) _ _=_
  rw[qT]
  unfold H9
  rw[ht];rfl
 | succ n ih=>
  intro k lf M u sts x3 x4 hn hl hd hst hg hs hu hne
  have e1:n+1+(k+1)=(n+(k+1))+1:=by omega
  rw[e1]
  by_cases h0:lf=[]
  ·subst h0
   have ht:E8 [x0,some (.ref s),some u,x3,x4] M=some (false,M):=by
    show ((Qj u M).map fun k=>(k,M))=_
    rw[hu.tru];rfl
   refine ⟨[x0,some (.ref s),some u,x3,x4],M,?_,rfl,by rw[hs];simp[stairsF],hg⟩
   unfold H9
   rw[ht];rfl
  ·have hem:lf.isEmpty=false:=by cases lf with | nil=>exact absurd rfl h0 | cons _ _=>rfl
   have ht:E8 [x0,some (.ref s),some u,x3,x4] M=some (true,M):=by
    show ((Qj u M).map fun k=>(k,M))=_
    rw[hu.tru]
    cases lf with
    | nil=>exact absurd rfl h0
    | cons _ _=>rfl
   obtain ⟨r,y3,y4,M',e,hs',hr',hrs,hg'⟩:=X6 hg hs0 hs hu hne hl hd (by omega) x0 x3 x4
   have hlt:=hdec lf h0 hd
   obtain ⟨δ',M2,e2,hv,hs2,hg2⟩:=ih k (X1 lf) M' (.ref r) _ y3 y4 (by omega) (by omega) (fun p hp=>hd p (eT.mp hp).1) (by rw[bB,eN];omega) hg' hs' (.inr ⟨r,rfl,hr'⟩) (fun m hm=>by cases hm;exact hrs)
   refine ⟨δ',M2,?_,hv,?_,hg2⟩
   ·unfold H9
    rw[ht]
    simp only[aA,if_true,e,e2]
   ·rw[hs2,stairsF,hem]
    simp
theorem Aey:∀ (a b:List Int),a.length=b.length->((a.zip b).all fun p=>decide (p.1<=p.2))=true->a.sum<=b.sum/\(a.sum=b.sum->a=b)
 | [],[],_,_=>⟨rY _,fun _=>rfl⟩
 | [],_::_,h,_=>by cases h
 | _::_,[],h,_=>by cases h
 | x::a,y::b,h,hl=>by
  rw[pZ,kR,cL] at hl
  have h1:=of_decide_eq_true hl.1
  obtain ⟨h2,h3⟩:=Aey a b (by simpa using h) hl.2
  simp only[fD]
  refine ⟨by omega,fun he=>?_⟩
  have:x=y:=by simp only at h1;omega
  rw[this,h3 (by simp only at h1;omega)]
theorem Amu{a b:List Int}(hl:a.length=b.length)(h:und a b=true):a.sum < b.sum:=by
 unfold und at h
 rw[cL] at h
 obtain ⟨h1,h2⟩:=Aey a b hl h.2
 have hn:a≠b:=by simpa using h.1
 have:a.sum≠b.sum:=fun e=>hn (h2 e)
 omega
theorem Acn:∀ (l:List PN),l≠[]->∃ p∈l,∀ q∈l,q.2.sum<=p.2.sum
 | [],h=>absurd rfl h
 | [a],_=>⟨a,bC.mpr rfl,fun q hq=>by rw[bC.mp hq];exact rY _⟩
 | a::b::l,_=>by
  obtain ⟨p,hp,h⟩:=Acn (b::l) (by simp)
  by_cases hc:p.2.sum<=a.2.sum
  ·refine ⟨a,aX ..,fun q hq=>?_⟩
   rcases bH.mp hq with rfl | hq
   ·exact rY _
   ·exact Int.le_trans (h q hq) hc
  ·refine ⟨p,aT _ hp,fun q hq=>?_⟩
   rcases bH.mp hq with rfl | hq
   ·omega
   ·exact h q hq
theorem Anv(h0:lf≠[])(hd:Dim k lf):(X1 lf).length < lf.length:=by
 obtain ⟨p,hp,hm⟩:=Acn lf h0
 unfold X1
 rw[List.length_filter_lt_length_iff_exists]
 refine ⟨p,hp,?_⟩
 have:cA (lf.map cK) p.2=0:=by
  unfold cA
  rw[fN,kF]
  intro a ha
  obtain ⟨q,hq,rfl⟩:=bJ.mp ha
  intro hu
  have:=Amu (by rw[hd p hp,hd q hq]) hu
  have:=hm q hq
  omega
 rw[this];simp
theorem stairs_ok(hl:lf.length<=60)(hd:Dim 2 lf)(L:UH):∃ L',E4 [.tup (lf.map nU)] L=some (.tup ((stairsF lf.length lf).map sU),L')/\Gw L L':=by
 have sm0:Dy ([]:List U).length=true:=small_of (by show 0<=16777216;decide)
 have s1:(Av (Cu Af) (gN 1)) [some (.tup (lf.map nU)),none,none,none,none] L=some (.nx [some (.tup (lf.map nU)),some (.ref L.length),none,none,none],L++[.lst []]):=by
  rw[fAsg_eq,fLst_eq,fNil_eq,aA,if_pos sm0];rfl
 have s2:(Av (Aa 0) (gN 2)) [some (.tup (lf.map nU)),some (.ref L.length),none,none,none] (L++[.lst []])=some (.nx [some (.tup (lf.map nU)),some (.ref L.length),some (.tup (lf.map nU)),none,none],L++[.lst []]):=rfl
 obtain ⟨δ',M',e,hv,hs,g⟩:=Xu (L0:=L) (s:=L.length) (aQ _) (some (.tup (lf.map nU))) (fun lf h0 hd=>Anv h0 hd) lf.length (100000 - lf.length - 1) lf (L++[.lst []]) (.tup (lf.map nU)) [] none none (aQ _) hl hd (by show 0+lf.length<=1000;omega) (Gw.new _ _) (by simp) (.inl rfl) (fun n h=>by cases h)
 have hk:lf.length+(100000 - lf.length - 1+1)=100000:=by omega
 rw[hk] at e
 rw[jL] at hs
 refine ⟨M',fnN rfl ?_,g⟩
 show Mf [some (.tup (lf.map nU)),none,none,none,none] L=_
 unfold Mf
 rw[Aj s1,Aj s2,Aj e]
 exact Du (Cv hv (tuple_of hs))
theorem stairsF_in:∀ (n:Nat) (lf:List PN),∀ r∈stairsF n lf,r.length<=lf.length/\∀ s∈r,s∈lf.map fR
 | 0,lf,r,h=>by cases h
 | n+1,lf,r,h=>by
  unfold stairsF at h
  split at h
  ·cases h
  ·rcases bH.mp h with rfl | h
   ·have hp:=Vh (Jj lf)
    refine ⟨by rw[aI,hp.length_eq];exact fX _ _,fun s hs=>?_⟩
    obtain ⟨p,hp',rfl⟩:=bJ.mp hs
    exact iL (eT.mp (hp.mem_iff.mp hp')).1
   ·obtain ⟨h1,h2⟩:=stairsF_in n (X1 lf) r h
    refine ⟨cJ h1 (fX _ _),fun s hs=>?_⟩
    obtain ⟨p,hp,rfl⟩:=bJ.mp (h2 s hs)
    exact iL (eT.mp hp).1
end SN
noncomputable def toQ(p:P3):SN.PN:=(p.1,[p.2.1,p.2.2])
inductive stairs3_I(ps:List P3)(L:UH):Prop
 | mk (sts:List (List Str)) (L':UH) (h0:E4 [.tup (ps.map p3U)] L=some (.tup (sts.map rowU),L')) (h1:Gw L L') (h2:sts.length<=1000) (h3:(ps≠[]->sts≠[])) (h4:∀ r∈sts,r.length<=60/\∀ s∈r,s∈ps.map (·.1)):stairs3_I ps L
theorem Ai9(hl:ps.length<=60)(L:UH):stairs3_I ps L:=by
 have hm:ps.map p3U=(ps.map toQ).map SN.nU:=by rw[cE];rfl
 have hd:SN.Dim 2 (ps.map toQ):=fun p hp=>by obtain ⟨q,_,rfl⟩:=bJ.mp hp;rfl
 obtain ⟨L',e,g⟩:=SN.stairs_ok (lf:=ps.map toQ) (by rw[aI];exact hl) hd L
 rw[<- hm] at e
 have hlen:∀ (n:Nat) (lf:List SN.PN),(SN.stairsF n lf).length<=n:=by
  intro n
  induction n with
  | zero=>intro lf;exact aQ _
  | succ n ih=>
   intro lf
   unfold SN.stairsF
   split
   ·exact eD _
   ·rw[aY];exact rF (ih _)
 refine ⟨_,L',e,g,cJ (hlen _ _) (by rw[aI];omega),fun h0 hs=>?_,fun r hr=>?_⟩
 ·cases ps with
  | nil=>exact h0 rfl
  | cons a ps=>simp[SN.stairsF] at hs
 ·obtain ⟨h1,h2⟩:=SN.stairsF_in _ _ r hr
  rw[aI] at h1
  refine ⟨by omega,fun s hs=>?_⟩
  have:=h2 s hs
  rw[cE] at this
  exact this
noncomputable def cw:Str := "w"
noncomputable def ca:Str := "a"
noncomputable def cz:Str := "z"
noncomputable def cnode:Str := "node"
theorem Afv:Low cw/\cw.length=1:=⟨Nu (by decide +kernel),by decide +kernel⟩
theorem Ahq:Low ca/\ca.length=1:=⟨Nu (by decide +kernel),by decide +kernel⟩
theorem Akq:Low cz/\cz.length=1:=⟨Nu (by decide +kernel),by decide +kernel⟩
theorem Ys:Low cnode/\cnode.length=4:=⟨Nu (by decide +kernel),by decide +kernel⟩
theorem Alb:Low w8:=Nu (by decide +kernel)
theorem Apn(h:fa δ L=some (u,L')):(Cu (Ac fa Af)) δ L=some (.ref L'.length,L'++[.lst [u]]):=by
 rw[fLst_eq,fCons_eq,h,aA,fNil_eq,aF,aA,if_pos (small_of (by show 1<=16777216;decide))]
theorem Aot{fd:FE}{a b c d e:U}(h1:fa δ L=some (a,L))(h2:fb δ L=some (b,L))(h3:fc δ L=some (c,L))(h4:fd δ L=some (d,L))(h5:fe δ L=some (e,L)):(Cu (Ac fa (Ac fb (Ac fc (Ac fd (Ac fe Af)))))) δ L=some (.ref L.length,L++[.lst [a,b,c,d,e]]):=by
 rw[fLst_eq,fCons_eq,h1,aA,fCons_eq,h2,aA,fCons_eq,h3,aA,fCons_eq,h4,aA,fCons_eq,h5]
 simp only[aA,fNil_eq,aF]
 rw[if_pos (small_of (by show 5<=16777216;decide))]
theorem Ahj{a:Str}{lo hi:FO}{l h:Option Int}(hv:fv δ L=some (.str a,L))(hlo:lo δ L=some (l,L))(hhi:hi δ L=some (h,L))(ha:a.length<=1000):fSl Dr fv lo hi δ L=some (.str (eX a l h),L):=by
 rw[fSl_eq,hv,aA,hlo,aA,hhi,aA]
 exact Vx a l h ha L
theorem Ak9(neg:Bool)(a:Str){l:List Str}(h:L[n]? = some (.lst (l.map U.str))):Mw neg (.str a) (.ref n) L=some (.bl (if neg then !decide (a∈l) else decide (a∈l)),L):=by
 unfold Mw
 simp only[Al h,toV,aA,toV_strs,aF,Wj]
theorem Abu{m:Nat}{a b:List U}(h1:L[n]? = some (.lst a))(h2:L[m]? = some (.lst b))(hl:a.length+b.length<=10000):Bc (.ref n) (.ref m) L=some (.ref L.length,L++[.lst (a++b)]):=by
 unfold Bc
 simp only[C7 h1,C7 h2,aA]
 rw[if_pos (small_of (by omega))]
inductive draw_ix_I(fe:FE)(L:UH)(L1:UH)(d:Nat)(i:Nat)(B:Int)(l:List U)(δ:UE)(g:FE):Prop
 | mk (u:U) (L':UH) (h0:(f2 Ak fe (Ay 2 Am (Ac (Aa i) (Ac g Af)))) δ L=some (u,L')) (h1:u∈l) (h2:Gdk L' d (B+1)) (h3:Ex d L1 L'):draw_ix_I fe L L1 d i B l δ g
theorem V0(he:fe δ L=some (.ref n,L1))(hn:L1[n]? = some (.lst l))(hnd:n≠d)(D:Gdk L1 d B)(hB:B<=1000000)(h0:0 < l.length)(hl:l.length<=10000){g:FE}(hg:g δ L1=some (.int (l.length:Nat),L1))(hi:Aa i δ L1=some (.ref d,L1)):draw_ix_I fe L L1 d i B l δ g:=by
 obtain ⟨j,L2,e2,j0,j1,D2,x2⟩:=B4 (many:=(l.length:Nat)) D (by omega) (by omega) (by omega)
 have hj:j.toNat < l.length:=by omega
 refine ⟨l[j.toNat],L2,?_,cN hj,D2,x2⟩
 refine Bd he (Kp hi hg e2) ?_
 rw[semIx_ref,Al (x2.get hn hnd),aA,Je j0 (by omega),aC hj]
 rfl
theorem Ad7(hl:ps.length<=60)(hfe:∀ p M,fe [some (p3U p)] M=some (.str p.1,M))(hv:Aa i δ L=some (.tup (ps.map p3U),L)) :
  ∃ (L':UH),Bu [none] (Bb (Aa i)) (gN 0) none fe δ L=some (.ref L'.length,L'++[.lst ((ps.map (·.1)).map U.str)])/\Gw L L':=by
 obtain ⟨L',e,g⟩:=SN.comp_all (ix:=[none]) (fi:=Bb (Aa i)) (it:=.seq (ps.map p3U)) (fe:=fe) (δ:=δ) (L:=L) (L0:=L) ps p3U (fun p=>U.str p.1) [] rfl (by rw[Dq,hv];rfl) (by simp[IU.size]) (by omega) (fun k x=>rfl) (fun p x _=>⟨[],by rw[aU];exact hfe p _⟩)
 have hm:ps.map (fun p=>U.str p.1)=(ps.map (·.1)).map U.str:=by rw[cE];rfl
 rw[hm] at e
 exact ⟨L',e,g⟩
theorem Kq(hl:ps.length<=60)(hok:∀ p∈ps,Okn p.1)(hlow:∀ p∈ps,Low p.1)(D:Gdk L d B)(hB:B<=100000) :
  ∃ (s:Str) (L':UH),Cc [.ref d,.tup (ps.map p3U)] L=some (.str s,L')/\Low s/\Gdk L' d (B+2)/\Ex d L L':=by
 generalize hP:U.tup (ps.map p3U)=P
 obtain ⟨L1,e1,g1⟩:=Ad7 hl (fe:=Mq) (fun p M=>rfl) (δ:=[some (.ref d),some P,none,none,none,none]) (L:=L) (i:=1) (by rw[hP];rfl)
 have s1:=C8 (i:=2) e1
 simp only[aR,aS] at s1
 have hN:∀ x∈ps.map (·.1),Low x/\x.length<=300:=fun x hx=>by
  obtain ⟨p,hp,rfl⟩:=bJ.mp hx
  exact ⟨hlow p hp,(hok p hp).1⟩
 have hw8:w8∉ps.map (·.1):=fun h=>by
  obtain ⟨p,hp,e⟩:=bJ.mp h
  exact (hok p hp).2 e
 have hlN:(ps.map (·.1)).length<=60:=by rw[aI];exact hl
 generalize ps.map (·.1)=N at s1 hN hw8 hlN
 have D1:Gdk L1 d B:=D.gw g1
 have hdl:=D1.lt
 have k2:(L1++[HU.lst (N.map U.str)])[L1.length]? = some (.lst (N.map U.str)):=by simp
 have D2:=D1.new [HU.lst (N.map U.str)]
 have gx2:Gw L (L1++[HU.lst (N.map U.str)]):=g1.trans (Gw.new _ _)
 generalize hL2:L1++[HU.lst (N.map U.str)]=L2 at s1 k2 D2 gx2
 have hr2:L1.length < L2.length:=(aG.mp k2).1
 have hrd:L1.length≠d:=by omega
 generalize L1.length=r at s1 k2 hr2 hrd
 have el:=Apn (fa:=fC (.str "node")) (u:=.str cnode) (δ:=[some (.ref d),some P,some (.ref r),none,none,none]) (L:=L2) rfl
 have k3:(L2++[HU.lst [.str cnode]])[r]? = some (.lst (N.map U.str)):=(Gw.new _ _).get k2
 have k4:(L2++[HU.lst [.str cnode]])[L2.length]? = some (.lst [.str cnode]):=by simp
 have ea:=Bd (s:=Bc) (fa:=Aa 2) rfl el (Abu k3 k4 (by simp;omega))
 have k5:(L2++[HU.lst [.str cnode]]++[HU.lst (N.map U.str++[.str cnode])])[(L2++[HU.lst [.str cnode]]).length]? = some (.lst (N.map U.str++[.str cnode])):=by simp
 have k6:(L2++[HU.lst [.str cnode]]++[HU.lst (N.map U.str++[.str cnode])])[r]? = some (.lst (N.map U.str)):=(Gw.new _ _).get k3
 have D3:=(D2.new [HU.lst [.str cnode]]).new [HU.lst (N.map U.str++[.str cnode])]
 have gx3:Gw L (L2++[HU.lst [.str cnode]]++[HU.lst (N.map U.str++[.str cnode])]):=gx2.trans ((Gw.new _ _).trans (Gw.new _ _))
 have hd2:=D2.lt
 have hnd:(L2++[HU.lst [.str cnode]]).length≠d:=by simp;omega
 obtain ⟨u,L4,e4,hu,D4,x4⟩:=V0 (i:=0) (g:=f2 Bc (Ap Aw (Ac (Aa 2) Af)) (fC (.int 1))) ea k5 hnd D3 (by omega) (by simp) (by simp;omega) (by
  have hlen:=Cv (s:=Aw) (fa:=Aa 2) (δ:=[some (.ref d),some P,some (.ref r),none,none,none]) rfl (Fs k6)
  refine Bd hlen rfl ?_
  show some (U.int (((N.map U.str).length:Nat)+1),_)=_
  simp) rfl
 have s2:=C8 (i:=3) e4
 simp only[aR,aS] at s2
 obtain ⟨near,rfl,hnl,hnn⟩:∃ near:Str,u = .str near/\Low near/\near.length<=300:=by
  rcases bP.mp hu with h | h
  ·obtain ⟨x,hx,rfl⟩:=bJ.mp h
   exact ⟨x,rfl,(hN x hx).1,(hN x hx).2⟩
  ·rw[bC.mp h]
   exact ⟨cnode,rfl,Ys.1,by rw[Ys.2];decide⟩
 have kr:L4[r]? = some (.lst (N.map U.str)):=x4.get k6 hrd
 have xx4:Ex d L L4:=(gx3.ex d).trans x4
 obtain ⟨S,hS,hSl,hSw⟩:∃ S:List Str,(Cu (Ac (f2 Bc (fSl Dr (Aa 3) A0 (Bo (J7 (fC (.int 1))))) (fC (.str "w"))) (Ac (fSl Dr (f2 Bc (Aa 3) (fC (.str "a"))) A0 (Bo (fC (.int 8)))) (Ac (f2 Bc (fSl Dr (Aa 3) (Bo (fC (.int 1))) A0) (fC (.str "z"))) (Ac (fC (.str "w")) (Ac (fC (.str "wwwwwwww")) Af)))))) [some (.ref d),some P,some (.ref r),some (.str near),none,none] L4=some (.ref L4.length,L4++[.lst (S.map U.str)])/\(∀ x∈S,Low x)/\(w8∈S/\S.length=5):=by
  have v3:Aa 3 [some (.ref d),some P,some (.ref r),some (.str near),none,none] L4=some (.str near,L4):=rfl
  have l1:=lP near none (some (-1))
  have l2:=lP near (some 1) none
  have a1:=Bd (s:=Bc) (fb:=fC (.str "w")) (Ahj v3 (lo:=A0) (hi:=Bo (J7 (fC (.int 1)))) (l:=none) (h:=some (-1)) rfl rfl (by omega)) (v:=.str cw) rfl (Kv _ cw (by rw[Afv.2];omega) L4)
  have a2:=Ahj (lo:=A0) (hi:=Bo (fC (.int 8))) (l:=none) (h:=some 8) (Bd (s:=Bc) (fb:=fC (.str "a")) v3 (v:=.str ca) rfl (Kv near ca (by rw[Ahq.2];omega) L4)) rfl rfl (by rw[cat_len,Ahq.2];omega)
  have a3:=Bd (s:=Bc) (fb:=fC (.str "z")) (Ahj v3 (lo:=Bo (fC (.int 1))) (hi:=A0) (l:=some 1) (h:=none) rfl rfl (by omega)) (v:=.str cz) rfl (Kv _ cz (by rw[Akq.2];omega) L4)
  refine ⟨[eX near none (some (-1))++cw,eX (near++ca) none (some 8),eX near (some 1) none++cz,cw,w8],Aot a1 a2 a3 rfl rfl,fun x hx=>?_,by simp,rfl⟩
  simp only[bH,dE,or_false] at hx
  rcases hx with rfl | rfl | rfl | rfl | rfl
  ·exact (hnl.slice _ _).app Afv.1
  ·exact (hnl.app Ahq.1).slice _ _
  ·exact (hnl.slice _ _).app Akq.1
  ·exact Afv.1
  ·exact Alb
 have s3:=C8 (i:=4) hS
 simp only[aR,aS] at s3
 have k7:(L4++[HU.lst (S.map U.str)])[L4.length]? = some (.lst (S.map U.str)):=by simp
 have k8:(L4++[HU.lst (S.map U.str)])[r]? = some (.lst (N.map U.str)):=(Gw.new _ _).get kr
 have D5:=D4.new [HU.lst (S.map U.str)]
 have xx5:Ex d L (L4++[HU.lst (S.map U.str)]):=xx4.trans (Ex.new d L4 _)
 generalize hL5:L4++[HU.lst (S.map U.str)]=L5 at s3 k7 k8 D5 xx5
 generalize L4.length=q at s3 k7
 have hs7:=Al k7
 obtain ⟨x,e6⟩:=Cq (ix:=[none,some 2]) (fi:=Bb (Aa 4)) (it:=.ref q) (g:=gN 0) (tt:=some Mz) (fe:=Mo) (δ:=[some (.ref d),some P,some (.ref r),some (.str near),some (.ref q),none]) (L:=L5) (L0:=L5)
  S U.str (fun s=>!decide (s∈N)) U.str (fun δ=>∃ z,δ = [z,some (.ref r)]) (by simp[Dg hs7]) (by rw[Gs hs7];simp) (by omega) ⟨none,rfl⟩
  (fun k x=>Lj (Em hs7))
  (fun s δ x _ zz=>by
   obtain ⟨y,hδ⟩:=zz
   subst hδ
   refine ⟨[some (.str s),some (.ref r)],rfl,⟨_,rfl⟩,[],?_,fun _=>⟨[],by rw[aU,aU];rfl⟩⟩
   rw[aU]
   exact Dc (Bd rfl rfl (Ak9 true s ((Gw.new L5 x).get k8))))
 have s4:=C8 (i:=5) e6
 simp only[aR,aS] at s4
 have k9:(L5++x++[HU.lst ((S.filter fun s=>!decide (s∈N)).map U.str)])[(L5++x).length]? = some (.lst ((S.filter fun s=>!decide (s∈N)).map U.str)):=by simp
 have D6:=(D5.new x).new [HU.lst ((S.filter fun s=>!decide (s∈N)).map U.str)]
 have hd5:=D5.lt
 have hne:(L5++x).length≠d:=by simp;omega
 have hpos:0 < ((S.filter fun s=>!decide (s∈N)).map U.str).length:=by
  rw[aI,dW]
  intro h
  have:w8∈S.filter fun s=>!decide (s∈N):=eT.mpr ⟨hSw.1,by simpa using hw8⟩
  rw[h] at this;cases this
 have hfl:=fX (fun s=>!decide (s∈N)) S
 obtain ⟨v,L7,e7,hv,D7,x7⟩:=V0 (fe:=Aa 5) (i:=0) (g:=Ap Aw (Ac (Aa 5) Af)) (δ:=[some (.ref d),some P,some (.ref r),some (.str near),some (.ref q),some (.ref (L5++x).length)]) rfl k9 hne D6 (by omega) hpos (by rw[aI];omega) (Cv rfl (Fs k9)) rfl
 obtain ⟨s,hs,rfl⟩:=bJ.mp hv
 refine ⟨s,L7,fnN rfl ?_,hSl s (eT.mp hs).1,D7.mono (by omega),xx5.trans ((Ex.new d L5 _).trans ((Ex.new d _ _).trans x7))⟩
 show Ml [some (.ref d),some P,none,none,none,none] L=_
 unfold Ml
 rw[Aj s1,Aj s2,Aj s3,Aj s4]
 exact Du e7
theorem skip{w:Int}{f:FS}(h:Aa i δ L=some (.int w,L))(hn:w≠c):(B8 (Ax (f2 A8 (Aa i) (fC (.int c)))) f Bl) δ L=some (.nx δ,L):=by
 have hb:(w == c)=false:=by simpa using hn
 exact Ki (Dc (Bd h rfl (by rw[Gp,hb])))
theorem Abn{w:Int}{t:FT}{f:FS}(h:Aa i δ L=some (.int w,L))(hn:w≠c):(B8 (Jp (Ax (f2 A8 (Aa i) (fC (.int c)))) t) f Bl) δ L=some (.nx δ,L):=by
 have hb:(w == c)=false:=by simpa using hn
 have ht:=Dc (Bd (s:=A8) (fb:=fC (.int c)) h rfl (by rw[Gp,hb]))
 exact Ki (by rw[fAnd_eq,ht];rfl)
noncomputable def Ae1(last:FS):List FS->FS
 | []=>last
 | c::r=>Ar c (Ae1 last r)
theorem Apb{last:FS}{cs:List FS}(sk:∀ c∈cs,c δ M=some (.nx δ,M)):Ae1 last cs δ M=last δ M:=by
 induction cs with
 | nil=>rfl
 | cons x r ih=>exact (Aj (sk x (aX ..))).trans (ih fun c h=>sk c (aT _ h))
theorem Aky{last c:FS}{δ':UE}{cs:List FS}{w:Nat}(sk:∀ j x,j≠w->cs[j]? = some x->x δ M=some (.nx δ,M)/\x δ' M'=some (.nx δ',M'))(h:cs[w]? = some c)(e:c δ M=some (.nx δ',M')):Ae1 last cs δ M=last δ' M':=by
 induction cs generalizing w with
 | nil=>cases h
 | cons x r ih=>
  cases w with
  | zero=>
   cases h
   refine (Aj e).trans (Apb fun y hy=>?_)
   obtain ⟨j,hj,rfl⟩:=cY hy
   exact (sk (j+1) _ (rQ j) (aC hj)).2
  | succ w=>exact (Aj (sk 0 x (rQ w).symm rfl).1).trans (ih (fun j y hj hy=>sk (j+1) y (fun z=>hj (tP z)) hy) h)
theorem P2{f:FS}(h:Aa i δ L=some (.int c,L)):(B8 (Ax (f2 A8 (Aa i) (fC (.int c)))) f Bl) δ L=f δ L:=by
 have ht:=Dc (Bd (s:=A8) (fb:=fC (.int c)) h rfl (by rw[Gp,beq_self_eq_true]))
 rw[fIfS_eq,ht];rfl
theorem Ww{t:FT}{b:Bool}{f:FS}(h:Aa i δ L=some (.int c,L))(h2:t δ L=some (b,L')):(B8 (Jp (Ax (f2 A8 (Aa i) (fC (.int c)))) t) f Bl) δ L=if b=true then f δ L' else some (.nx δ,L'):=by
 have ht:=Dc (Bd (s:=A8) (fb:=fC (.int c)) h rfl (by rw[Gp,beq_self_eq_true]))
 rw[fIfS_eq,fAnd_eq,ht,aA,if_pos rfl,h2,aA]
 rfl
theorem Aes(l:List U)(p:Nat):Me l none (some (p:Int))=l.take p:=by
 unfold Me
 rw[HT.R9,HT.Q7,mG,qN]
 by_cases h:p<=l.length
 ·rw[oG h]
 ·rw[nI (by omega),eF (aQ _),eF (by omega)]
theorem Ag2(l:List U)(p:Nat):Me l (some (p:Int)) none=l.drop p:=by
 unfold Me
 rw[HT.R9,HT.Q7]
 by_cases h:p<=l.length
 ·rw[oG h,eF (by rw[cS];exact aQ _)]
 ·rw[nI (by omega),eG,List.take_zero,List.drop_eq_nil_of_le (by omega)]
structure Rw(d:Nat)(L0 M:UH)(n:Nat)(W:List Str)(B:Int):Prop where
 D:Gdk M d B
 x:Ex d L0 M
 at_:M[n]? = some (.lst (W.map U.str))
 lo:L0.length<=n
 nd:n≠d
 low:∀ s∈W,Low s
theorem Rw.grow(R:Rw d L0 M n W B)(y:UH):Rw d L0 (M++y) n W B:=⟨R.D.new y,R.x.trans (Ex.new d M y),(Gw.new M y).get R.at_,R.lo,R.nd,R.low⟩
variable {B':Int}
theorem Rw.ex(R:Rw d L0 M n W B)(x:Ex d M M')(D:Gdk M' d B'):Rw d L0 M' n W B':=⟨D,R.x.trans x,x.get R.at_ R.nd,R.lo,R.nd,R.low⟩
theorem Rw.put{W':List Str}(R:Rw d L0 M n W B)(h:∀ s∈W',Low s):Rw d L0 (M.set n (.lst (W'.map U.str))) n W' B:=
 ⟨R.D.set R.nd _,R.x.set R.lo _,bI (aG.mp R.at_).1,R.lo,R.nd,h⟩
theorem Rw.new{W':List Str}(R:Rw d L0 M n W B)(h:∀ s∈W',Low s):Rw d L0 (M++[.lst (W'.map U.str)]) M.length W' B:=
 ⟨R.D.new _,R.x.trans (Ex.new d M _),by simp,R.x.le,fun h=>by have:=R.D.lt;omega,h⟩
theorem Rw.mono(R:Rw d L0 M n W B)(h:B<=B'):Rw d L0 M n W B':=⟨R.D.mono h,R.x,R.at_,R.lo,R.nd,R.low⟩
theorem Amc{y:U}(h:M[n]? = some (.lst l))(hi:i<=100000)(hl:l.length<=100000):C4 (.ref n) [.int (i:Nat),y] M=some (.non,M.set n (.lst (l.take (min i l.length)++y::l.drop (min i l.length)))):=by
 have h63:((i:Nat):Int) < 2 ^ 63:=Int.lt_of_le_of_lt (qH.mpr hi) (by decide)
 have hsz:l.length < sizeLine:=by unfold sizeLine;omega
 show (Ef M n).bind _=_
 rw[C7 h,aA,if_pos ⟨lZ i,h63,hsz⟩,dZ]
theorem Mc{fy:FE}{M2:UH}{l2:List U}{y:U}(hv:fv δ M=some (.ref n,M))(h:M[n]? = some (.lst l))(hi:fi δ M=some (.int (i:Nat),M1))(hy:fy δ M1=some (y,M2))(h2:M2[n]? = some (.lst l2))(hib:i<=100000)(hl:l2.length<=100000) :
  (Di (Ck "list" C4 fv (Ac fi (Ac fy Af)))) δ M=some (.nx δ,M2.set n (.lst (l2.take (min i l2.length)++y::l2.drop (min i l2.length)))):=by
 rw[Fy,fMeth_eq,hv,aA,if_pos (Gg h),fCons_eq,hi,aA,fCons_eq,hy]
 simp only[aA,fNil_eq,aF,Amc h2 hib hl]
theorem Pk(W:List Str)(i:Nat)(s:Str):(W.map U.str).take i++U.str s::(W.map U.str).drop i=(W.take i++s::W.drop i).map U.str:=by
 rw[bZ,aL,jG,jH]
theorem K3{lo hi:FO}{M2 M3:UH}{a b:Option Int}(hv:fv δ M=some (.ref r,M1))(hlo:lo δ M1=some (a,M2))(hhi:hi δ M2=some (b,M3))(hr:M3[r]? = some (.lst l)):fSl Cs fv lo hi δ M=some (.ref M3.length,M3++[.lst (Me l a b)]):=by
 rw[fSl_eq,hv,aA,hlo,aA,hhi,aA]
 unfold Cs
 simp only[Al hr,aF]
theorem G8{i:Int}(h:fe δ L=some (.int i,L)):Bo fe δ L=some (some i,L):=by
 rw[fPart_eq,h];rfl
theorem J9{a b:Nat}{x y:List U}(h1:M[a]? = some (.lst x))(h2:M[b]? = some (.lst y))(hl:x.length+y.length<=10000):Bq (.ref a) (.ref b) M=some (.ref M.length,M++[.lst (x++y)]):=by
 show Bc (.ref a) (.ref b) M=_
 exact Abu h1 h2 hl
theorem pl5(h:Low p.1):Pl 5 (p3U p):=by
 unfold p3U
 rw[K0]
 intro u hu
 simp only[bH,dE,or_false] at hu
 rcases hu with rfl | rfl | rfl
 ·exact Li h _
 ·exact Pl.int _ _
 ·exact Pl.int _ _
theorem Age(δ:UE)(L:UH):(C0 Af) δ L=some (.tup [],L):=by
 rw[Nt,fNil_eq,aA,if_pos (small_of (by show 0<=16777216;decide))]
theorem Ro(h:∀ p∈ps,Low p.1)(L:UH):B2 (.tup (ps.map p3U)) (.tup []) L=some (.bl (!ps.isEmpty),L):=by
 have hp:∀ u∈ps.map p3U,Pl 5 u:=fun u hu=>by obtain ⟨p,hp,rfl⟩:=bJ.mp hu;exact pl5 (h p hp)
 have hp2:Pl 6 (.tup (ps.map p3U)):=K0.mpr hp
 have hp0:Pl 6 (.tup []):=K0.mpr (fun u hu=>by cases hu)
 rw[W2 L hp2 hp0]
 have hi:=Acd hp2 hp0
 cases ps with
 | nil=>rw[hi.mpr rfl];rfl
 | cons a ps=>
  cases hq:eqB (.tup ((a::ps).map p3U)) (.tup []) with
  | false=>rfl
  | true=>exact absurd (hi.mp hq) (by simp)
inductive pick_name_I(M:UH)(d:Nat)(B:Int)(δ:UE):Prop
 | mk (s:Str) (M':UH) (h0:(f2 Ak (f2 Ak (Aa 1) (Ay 2 Am (Ac (Aa 0) (Ac (Ap Aw (Ac (Aa 1) Af)) Af)))) (fC (.int 0))) δ M=some (.str s,M')) (h1:Low s) (h2:Gdk M' d (B+1)) (h3:Ex d M M'):pick_name_I M d B δ
theorem Vk(hl:ps.length<=60)(hlow:∀ p∈ps,Low p.1)(h0:ps≠[])(D:Gdk M d B)(hB:B<=1000000)(v0:∀ M,Aa 0 δ M=some (.ref d,M))(v1:∀ M,Aa 1 δ M=some (.tup (ps.map p3U),M)):pick_name_I M d B δ:=by
 have hp:0 < ps.length:=dW.mpr h0
 obtain ⟨j,M1,e1,j0,j1,D1,x1⟩:=B4 (many:=(ps.length:Nat)) D (by omega) (by omega) (by omega)
 have hj:j.toNat < ps.length:=by omega
 have hlen:Aw [.tup (ps.map p3U)] M=some (.int (ps.length:Nat),M):=by
  show some (U.int ((ps.map p3U).length:Nat),M)=_
  rw[aI]
 refine ⟨(ps[j.toNat]).1,M1,Bd (Bd (v1 M) (Kp (v0 M) (Cv (v1 M) hlen) e1) (v:=.int j) (w:=p3U (ps[j.toNat])) ?_) rfl rfl,hlow _ (cN hj),D1,x1⟩
 rw[Qa,Je j0 (by rw[aI];omega),bA,aC hj]
 rfl
theorem Al6(h:M[n]? = some (.lst (W.map U.str)))(hlow:∀ s∈W,Low s):B2 (.ref n) (.ref M.length) (M++[.lst []])=some (.bl (!W.isEmpty),M++[.lst []]):=by
 have q1:A7 (M++[HU.lst []]) n=some (W.map U.str):=Al ((Gw.new M _).get h)
 have q2:A7 (M++[HU.lst []]) M.length=some []:=Al (by simp)
 have hp:∀ u∈W.map U.str,Pl 6 u:=fun u hu=>by obtain ⟨x,hx,rfl⟩:=bJ.mp hu;exact Li (hlow x hx) _
 have hp0:∀ u∈([]:List U),Pl 6 u:=fun u hu=>by cases hu
 rw[Nm q1 q2 hp hp0]
 have hi:=Mn hp hp0
 cases W with
 | nil=>rw[hi.mpr rfl];rfl
 | cons a W=>
  cases hq:Su ((a::W).map U.str) [] with
  | false=>rfl
  | true=>exact absurd (hi.mp hq) (by simp)
noncomputable def cr0:FS:=(B8 (Jp (Ax (f2 A8 (Aa 4) (fC (.int 0)))) (Ax (f2 B2 (Aa 1) (C0 Af)))) (Di (Ck "list" C4 (Aa 3) (Ac (Aa 5) (Ac (f2 Ak (f2 Ak (Aa 1) (Ay 2 Am (Ac (Aa 0) (Ac (Ap Aw (Ac (Aa 1) Af)) Af)))) (fC (.int 0))) Af)))) Bl)
noncomputable def cr1:FS:=(B8 (Ax (f2 A8 (Aa 4) (fC (.int 1)))) (Av (f2 Bq (fSl Cs (Aa 3) A0 (Bo (Aa 5))) (fSl Cs (Aa 3) (Bo (f2 Bq (Aa 5) (fC (.int 1)))) A0)) (gN 3)) Bl)
noncomputable def cr2:FS:=(B8 (Ax (f2 A8 (Aa 4) (fC (.int 2)))) (Di (Ck "list" C4 (Aa 3) (Ac (Aa 5) (Ac (Ay 2 Cc (Ac (Aa 0) (Ac (Aa 1) Af))) Af)))) Bl)
noncomputable def cr3:FS:=(B8 (Jp (Ax (f2 A8 (Aa 4) (fC (.int 3)))) (Jp (Ax (f2 B2 (Aa 1) (C0 Af))) (Ax (f2 B2 (Aa 3) (Cu Af))))) (Av (f2 Ak (f2 Ak (Aa 1) (Ay 2 Am (Ac (Aa 0) (Ac (Ap Aw (Ac (Aa 1) Af)) Af)))) (fC (.int 0))) (MR.gSub (Aa 3) (f2 Gq (Aa 5) (fC (.int 1))))) Bl)
noncomputable def cr4:FS:=(B8 (Ax (f2 A8 (Aa 4) (fC (.int 4)))) (Av (f2 Bq (fSl Cs (Aa 3) (Bo (Aa 5)) A0) (fSl Cs (Aa 3) A0 (Bo (Aa 5)))) (gN 3)) Bl)
noncomputable def cr5:FS:=(B8 (Ax (f2 A8 (Aa 4) (fC (.int 5)))) (Av (f2 Bq (W0 (Aa 3)) (f2 Bx (fSl Cs (Aa 3) A0 (Bo (fC (.int 1)))) (Ap K6 (Ac (f2 A8 (Aa 5) (fC (.int 0))) Af)))) (gN 3)) Bl)
section
variable {a:Nat}
abbrev crδ(d n a:Nat)(way:Int)(P x2:U):UE:=[some (.ref d),some P,some x2,some (.ref n),some (.int way),some (.int (a:Nat))]
abbrev Sf(f:FS)(way:Int)(P x2:U)(d n a:Nat)(L0 M:UH)(W:List Str)(B:Int):Prop:=∃ (n':Nat) (W':List Str) (M':UH),f (crδ d n a way P x2) M=some (.nx (crδ d n' a way P x2),M')/\Rw d L0 M' n' W' (B+3)/\W'.length<=W.length+1
theorem Ab2{f:FS}{P x2:U}(R:Rw d L0 M n W B)(h:f (crδ d n a way P x2) M=some (.nx (crδ d n a way P x2),M)):Sf f way P x2 d n a L0 M W B:=⟨n,W,M,h,R.mono (by omega),fM _⟩
theorem Am4(hl:ps.length<=60)(hlow:∀ p∈ps,Low p.1)(R:Rw d L0 M n W B)(hB:B<=100000)(ha:a<=1000)(hw:W.length<=1000)(x2:U):Sf cr0 0 (.tup (ps.map p3U)) x2 d n a L0 M W B:=by
 have v0:∀ M,Aa 0 (crδ d n a 0 (.tup (ps.map p3U)) x2) M=some (.ref d,M):=fun _=>rfl
 have v1:∀ M,Aa 1 (crδ d n a 0 (.tup (ps.map p3U)) x2) M=some (.tup (ps.map p3U),M):=fun _=>rfl
 have t:=Dc (Bd (v1 M) (Age _ M) (Ro hlow M))
 have hd:=Ww (i:=4) (c:=0) (δ:=crδ d n a 0 (.tup (ps.map p3U)) x2) (L:=M) (f:=(Di (Ck "list" C4 (Aa 3) (Ac (Aa 5) (Ac (f2 Ak (f2 Ak (Aa 1) (Ay 2 Am (Ac (Aa 0) (Ac (Ap Aw (Ac (Aa 1) Af)) Af)))) (fC (.int 0))) Af))))) rfl t
 by_cases h0:ps=[]
 ·rw[if_neg (by rw[h0];decide)] at hd
  exact Ab2 R hd
 ·rw[if_pos (by cases ps with | nil=>exact absurd rfl h0 | cons _ _=>rfl)] at hd
  obtain ⟨s,M1,e1,ls,D1,x1⟩:=Vk hl hlow h0 R.D (by omega) v0 v1
  have R1:=R.ex x1 D1
  have e:=Mc (fv:=Aa 3) (fi:=Aa 5) (δ:=crδ d n a 0 (.tup (ps.map p3U)) x2) (M:=M) rfl R.at_ rfl e1 R1.at_ (by omega) (by rw[aI];omega)
  rw[Pk] at e
  refine ⟨n,_,_,hd.trans e,(R1.put (fun x hx=>?_)).mono (by omega),?_⟩
  ·rcases bP.mp hx with h | h
   ·exact R.low x (dQ h)
   ·rcases bH.mp h with rfl | h
    ·exact ls
    ·exact R.low x (dP h)
  ·simp only[bB,aY,cH,cS];omega
theorem Kg(W:List Str)(p:Nat):Me (W.map U.str) none (some (p:Int))=(W.take p).map U.str:=by rw[Aes,jG]
theorem Nj(W:List Str)(p:Nat):Me (W.map U.str) (some (p:Int)) none=(W.drop p).map U.str:=by rw[Ag2,jH]
theorem Anl(R:Rw d L0 M n W B)(hw:W.length<=1000)(P x2:U):Sf cr1 1 P x2 d n a L0 M W B:=by
 have e1:=K3 (fv:=Aa 3) (δ:=crδ d n a 1 P x2) (M:=M) (lo:=A0) (hi:=Bo (Aa 5)) rfl rfl (G8 (i:=(a:Nat)) rfl) R.at_
 rw[Kg] at e1
 have R1:=R.grow [HU.lst ((W.take a).map U.str)]
 have ep:(Bo (f2 Bq (Aa 5) (fC (.int 1)))) (crδ d n a 1 P x2) (M++[HU.lst ((W.take a).map U.str)])=some (some ((a+1:Nat):Int),M++[HU.lst ((W.take a).map U.str)]):=G8 rfl
 have e2:=K3 (fv:=Aa 3) (δ:=crδ d n a 1 P x2) (M:=M++[HU.lst ((W.take a).map U.str)]) (lo:=Bo (f2 Bq (Aa 5) (fC (.int 1)))) (hi:=A0) rfl ep rfl R1.at_
 rw[Nj] at e2
 have R2:=R1.grow [HU.lst ((W.drop (a+1)).map U.str)]
 have k1:(M++[HU.lst ((W.take a).map U.str)]++[HU.lst ((W.drop (a+1)).map U.str)])[M.length]? = some (.lst ((W.take a).map U.str)):=by simp
 have k2:(M++[HU.lst ((W.take a).map U.str)]++[HU.lst ((W.drop (a+1)).map U.str)])[(M++[HU.lst ((W.take a).map U.str)]).length]? = some (.lst ((W.drop (a+1)).map U.str)):=by simp
 have e3:=Bd e1 e2 (J9 k1 k2 (by simp only[aI,cH,cS];omega))
 rw[<- bZ] at e3
 have s:=C8 (i:=3) e3
 refine ⟨_,W.take a++W.drop (a+1),_,(P2 (i:=4) rfl).trans s,(R2.new fun x hx=>?_).mono (by omega),by simp only[bB,cH,cS];omega⟩
 rcases bP.mp hx with h | h
 ·exact R.low x (dQ h)
 ·exact R.low x (dP h)
theorem Alx(hl:ps.length<=60)(hok:∀ p∈ps,Okn p.1)(hlow:∀ p∈ps,Low p.1)(R:Rw d L0 M n W B)(hB:B<=100000)(ha:a<=1000)(hw:W.length<=1000)(x2:U):Sf cr2 2 (.tup (ps.map p3U)) x2 d n a L0 M W B:=by
 obtain ⟨s,M1,e1,ls,D1,x1⟩:=Kq hl hok hlow R.D hB
 have R1:=R.ex x1 D1
 have e:=Mc (fv:=Aa 3) (fi:=Aa 5) (δ:=crδ d n a 2 (.tup (ps.map p3U)) x2) (M:=M) rfl R.at_ rfl (Mu (i:=0) (j:=1) rfl rfl e1) R1.at_ (by omega) (by rw[aI];omega)
 rw[Pk] at e
 refine ⟨n,_,_,(P2 (i:=4) rfl).trans e,(R1.put (fun x hx=>?_)).mono (by omega),?_⟩
 ·rcases bP.mp hx with h | h
  ·exact R.low x (dQ h)
  ·rcases bH.mp h with rfl | h
   ·exact ls
   ·exact R.low x (dP h)
 ·simp only[bB,aY,cH,cS];omega
theorem Am1(hl:ps.length<=60)(hlow:∀ p∈ps,Low p.1)(R:Rw d L0 M n W B)(hB:B<=100000)(ha:a<=W.length)(x2:U):Sf cr3 3 (.tup (ps.map p3U)) x2 d n a L0 M W B:=by
 generalize hδ:crδ d n a 3 (.tup (ps.map p3U)) x2 = δ
 have v0:∀ M,Aa 0 δ M=some (.ref d,M):=fun _=>by rw[<- hδ];rfl
 have v1:∀ M,Aa 1 δ M=some (.tup (ps.map p3U),M):=fun _=>by rw[<- hδ];rfl
 have v3:∀ M,Aa 3 δ M=some (.ref n,M):=fun _=>by rw[<- hδ];rfl
 have v4:Aa 4 δ M=some (.int 3,M):=by rw[<- hδ];rfl
 have v5:∀ M,Aa 5 δ M=some (.int (a:Nat),M):=fun _=>by rw[<- hδ];rfl
 have t1:=Dc (Bd (v1 M) (Age _ M) (Ro hlow M))
 by_cases h0:ps=[]
 ·have t:(Jp (Ax (f2 B2 (Aa 1) (C0 Af))) (Ax (f2 B2 (Aa 3) (Cu Af)))) δ M=some (false,M):=by
   rw[fAnd_eq,t1,h0];rfl
  have hd:=Ww (i:=4) (c:=3) (f:=(Av (f2 Ak (f2 Ak (Aa 1) (Ay 2 Am (Ac (Aa 0) (Ac (Ap Aw (Ac (Aa 1) Af)) Af)))) (fC (.int 0))) (MR.gSub (Aa 3) (f2 Gq (Aa 5) (fC (.int 1)))))) v4 t
  exact Ab2 R (by rw[hδ];exact hd)
 ·have hb:(!ps.isEmpty)=true:=by cases ps with | nil=>exact absurd rfl h0 | cons _ _=>rfl
  rw[hb] at t1
  have t2:=Dc (Bd (v3 M) (Wt δ M) (Al6 R.at_ R.low))
  have t:(Jp (Ax (f2 B2 (Aa 1) (C0 Af))) (Ax (f2 B2 (Aa 3) (Cu Af)))) δ M=some (!W.isEmpty,M++[.lst []]):=by
   rw[fAnd_eq,t1,aA,if_pos rfl,t2]
  have hd:=Ww (i:=4) (c:=3) (f:=(Av (f2 Ak (f2 Ak (Aa 1) (Ay 2 Am (Ac (Aa 0) (Ac (Ap Aw (Ac (Aa 1) Af)) Af)))) (fC (.int 0))) (MR.gSub (Aa 3) (f2 Gq (Aa 5) (fC (.int 1)))))) v4 t
  have R1:=R.grow [HU.lst []]
  by_cases hW:W=[]
  ·rw[if_neg (by rw[hW];decide)] at hd
   exact ⟨n,W,_,by rw[hδ];exact hd,R1.mono (by omega),fM _⟩
  ·rw[if_pos (by cases W with | nil=>exact absurd rfl hW | cons _ _=>rfl)] at hd
   have hWp:0 < W.length:=dW.mpr hW
   obtain ⟨s,M1,e1,ls,D1,x1⟩:=Vk hl hlow h0 R1.D (by omega) v0 v1
   have R2:=R1.ex x1 D1
   obtain ⟨j,hj⟩:∃ j,ixN (W.map U.str).length ((a:Int) - 1)=some j:=by
    unfold ixN
    rw[aI]
    by_cases h:(0:Int)<=(a:Int) - 1
    ·rw[if_pos h,if_pos (by omega)];exact ⟨_,rfl⟩
    ·rw[if_neg h,if_pos (by omega)];exact ⟨_,rfl⟩
   have hs:(Av (f2 Ak (f2 Ak (Aa 1) (Ay 2 Am (Ac (Aa 0) (Ac (Ap Aw (Ac (Aa 1) Af)) Af)))) (fC (.int 0))) (MR.gSub (Aa 3) (f2 Gq (Aa 5) (fC (.int 1))))) δ (M++[.lst []])=some (.nx δ,M1.set n (.lst ((W.set j s).map U.str))):=by
    have vi:(f2 Gq (Aa 5) (fC (.int 1))) δ M1=some (.int ((a:Int) - 1),M1):=Bd (v5 M1) rfl rfl
    rw[fAsg_eq,e1,aA,gSub_eq,v3,aA,vi]
    simp only[aA,C7 R2.at_,hj,aF]
    rw[lQ]
   refine ⟨n,W.set j s,_,by rw[hδ];exact hd.trans hs,(R2.put (fun x hx=>?_)).mono (by omega),by rw[eV];exact fM _⟩
   rcases fV hx with h | h
   ·exact R.low x h
   ·rw[h];exact ls
theorem Anx(R:Rw d L0 M n W B)(hw:W.length<=1000)(P x2:U):Sf cr4 4 P x2 d n a L0 M W B:=by
 have e1:=K3 (fv:=Aa 3) (δ:=crδ d n a 4 P x2) (M:=M) (lo:=Bo (Aa 5)) (hi:=A0) rfl (G8 (i:=(a:Nat)) rfl) rfl R.at_
 rw[Nj] at e1
 have R1:=R.grow [HU.lst ((W.drop a).map U.str)]
 have e2:=K3 (fv:=Aa 3) (δ:=crδ d n a 4 P x2) (M:=M++[HU.lst ((W.drop a).map U.str)]) (lo:=A0) (hi:=Bo (Aa 5)) rfl rfl (G8 (i:=(a:Nat)) rfl) R1.at_
 rw[Kg] at e2
 have R2:=R1.grow [HU.lst ((W.take a).map U.str)]
 have k1:(M++[HU.lst ((W.drop a).map U.str)]++[HU.lst ((W.take a).map U.str)])[M.length]? = some (.lst ((W.drop a).map U.str)):=by simp
 have k2:(M++[HU.lst ((W.drop a).map U.str)]++[HU.lst ((W.take a).map U.str)])[(M++[HU.lst ((W.drop a).map U.str)]).length]? = some (.lst ((W.take a).map U.str)):=by simp
 have e3:=Bd e1 e2 (J9 k1 k2 (by simp only[aI,cH,cS];omega))
 rw[<- bZ] at e3
 have s:=C8 (i:=3) e3
 refine ⟨_,W.drop a++W.take a,_,(P2 (i:=4) rfl).trans s,(R2.new fun x hx=>?_).mono (by omega),by simp only[bB,cH,cS];omega⟩
 rcases bP.mp hx with h | h
 ·exact R.low x (dP h)
 ·exact R.low x (dQ h)
theorem Amz(R:Rw d L0 M n W B)(hw:W.length<=1000)(P x2:U):Sf cr5 5 P x2 d n a L0 M W B:=by
 have hs:=Al R.at_
 have e1:(W0 (Aa 3)) (crδ d n a 5 P x2) M=some (.ref M.length,M++[.lst (W.reverse.map U.str)]):=by
  have v3:Aa 3 (crδ d n a 5 P x2) M=some (.ref n,M):=rfl
  rw[Ack,v3]
  simp only[aA,hs,aF,rR]
 have R1:=R.grow [HU.lst (W.reverse.map U.str)]
 have e2:=K3 (fv:=Aa 3) (δ:=crδ d n a 5 P x2) (M:=M++[HU.lst (W.reverse.map U.str)]) (lo:=A0) (hi:=Bo (fC (.int 1))) rfl rfl (G8 (i:=((1:Nat):Int)) rfl) R1.at_
 rw[Kg] at e2
 have R2:=R1.grow [HU.lst ((W.take 1).map U.str)]
 have k2:(M++[HU.lst (W.reverse.map U.str)]++[HU.lst ((W.take 1).map U.str)])[(M++[HU.lst (W.reverse.map U.str)]).length]? = some (.lst ((W.take 1).map U.str)):=by simp
 have k1:(M++[HU.lst (W.reverse.map U.str)]++[HU.lst ((W.take 1).map U.str)])[M.length]? = some (.lst (W.reverse.map U.str)):=by simp
 generalize hM2:M++[HU.lst (W.reverse.map U.str)]++[HU.lst ((W.take 1).map U.str)]=M2 at e2 R2 k1 k2
 obtain ⟨c,hc,hcle⟩:∃ c:Nat,(Ap K6 (Ac (f2 A8 (Aa 5) (fC (.int 0))) Af)) (crδ d n a 5 P x2) M2=some (.int (c:Nat),M2)/\c<=1:=by
  have h1:=Bd (s:=A8) (fa:=Aa 5) (fb:=fC (.int 0)) (δ:=crδ d n a 5 P x2) (L:=M2) rfl rfl (Gp _ _ M2)
  cases hb:(((a:Nat):Int) == 0) with
  | true=>rw[hb] at h1;exact ⟨1,Cv h1 rfl,aQ _⟩
  | false=>rw[hb] at h1;exact ⟨0,Cv h1 rfl,eD _⟩
 obtain ⟨T,hT,hTl,hTm⟩:∃ T:List Str,Bx (.ref (M++[HU.lst (W.reverse.map U.str)]).length) (.int (c:Nat)) M2=some (.ref M2.length,M2++[.lst (T.map U.str)])/\T.length<=1/\∀ x∈T,x∈W:=by
  unfold Bx
  simp only[C7 k2,aA,dZ]
  have hcc:c=0\/c=1:=by omega
  have ht:(W.take 1).length<=1:=by rw[cH];omega
  rcases hcc with rfl | rfl
  ·rw[if_pos ⟨by decide,by decide,small_of (by omega)⟩]
   exact ⟨[],rfl,eD _,fun x hx=>by cases hx⟩
  ·rw[if_pos ⟨by decide,by decide,small_of (by rw[aI];omega)⟩]
   exact ⟨W.take 1,by simp[bW],ht,fun x hx=>dQ hx⟩
 have e3:=Bd e2 hc hT
 have R3:=R2.grow [HU.lst (T.map U.str)]
 have k3:(M2++[HU.lst (T.map U.str)])[M.length]? = some (.lst (W.reverse.map U.str)):=(Gw.new _ _).get k1
 have k4:(M2++[HU.lst (T.map U.str)])[M2.length]? = some (.lst (T.map U.str)):=by simp
 have e4:=Bd e1 e3 (J9 k3 k4 (by simp only[aI,dU];omega))
 rw[<- bZ] at e4
 have s:=C8 (i:=3) e4
 refine ⟨_,W.reverse++T,_,(P2 (i:=4) rfl).trans s,(R3.new fun x hx=>?_).mono (by omega),by simp only[bB,dU];omega⟩
 rcases bP.mp hx with h | h
 ·exact R.low x (rS.mp h)
 ·exact R.low x (hTm x h)
theorem Af9:Hf=Ar (Av (Ap Nv (Ac (Aa 2) Af)) (gN 3)) (Ar (Av (Ay 2 Am (Ac (Aa 0) (Ac (fC (.int 6)) Af))) (gN 4)) (Ar (Av (Ay 2 Am (Ac (Aa 0) (Ac (f2 Bq (Ap Aw (Ac (Aa 3) Af)) (fC (.int 1))) Af))) (gN 5)) (Ar cr0 (Ar cr1 (Ar cr2 (Ar cr3 (Ar cr4 (Ar cr5 (Cf (Ap Bj (Ac (Aa 3) Af))))))))))):=rfl
inductive spoilt_crowd_ok_I(B:Int)(W:List Str)(d:Nat)(ps:List P3)(L:UH):Prop
 | mk (W':List Str) (L':UH) (h0:Fd [.ref d,.tup (ps.map p3U),rowU W] L=some (rowU W',L')) (h1:W'.length<=61) (h2:(∀ s∈W',Low s)) (h3:Gdk L' d (B+5)) (h4:Ex d L L'):spoilt_crowd_ok_I B W d ps L
theorem Q2(hl:ps.length<=60)(hok:∀ p∈ps,Okn p.1)(hlow:∀ p∈ps,Low p.1)(hw:W.length<=60)(hwl:∀ s∈W,Low s)(D:Gdk L d B)(hB:B<=90000):spoilt_crowd_ok_I B W d ps L:=by
 have hdl:=D.lt
 have s1:(Av (Ap Nv (Ac (Aa 2) Af)) (gN 3)) [some (.ref d),some (.tup (ps.map p3U)),some (rowU W),none,none,none] L=some (.nx [some (.ref d),some (.tup (ps.map p3U)),some (rowU W),some (.ref L.length),none,none],L++[.lst (W.map U.str)]):=rfl
 have R:Rw d L (L++[.lst (W.map U.str)]) L.length W B:=⟨D.new _,Ex.new d L _,by simp,aQ _,by omega,hwl⟩
 obtain ⟨way,M1,e1,w0,w1,D1,x1⟩:=B4 (many:=6) R.D (by omega) (by decide) (by decide)
 have s2:=C8 (i:=4) (Mr (i:=0) (δ:=[some (.ref d),some (.tup (ps.map p3U)),some (rowU W),some (.ref L.length),none,none]) rfl e1)
 have R1:=R.ex x1 D1
 obtain ⟨at',M2,e2,a0,a1,D2,x2⟩:=B4 (many:=(W.length:Int)+1) R1.D (by omega) (by omega) (by omega)
 have hlen:=Cv (s:=Aw) (fa:=Aa 3) (δ:=[some (.ref d),some (.tup (ps.map p3U)),some (rowU W),some (.ref L.length),some (.int way),none]) rfl (Fs R1.at_)
 rw[aI] at hlen
 have s3:=C8 (i:=5) (Kp (fa:=Aa 0) rfl (Bd (s:=Bq) (fb:=fC (.int 1)) hlen rfl rfl) e2)
 simp only[aR,aS] at s2 s3
 obtain ⟨a,rfl⟩:∃ a:Nat,at'=(a:Int):=⟨at'.toNat,by omega⟩
 have ha:a<=W.length:=by omega
 have R2:=R1.ex x2 D2
 have out:∀ (n':Nat) (W':List Str) (M':UH),Rw d L M' n' W' (B+1+1+3)->W'.length<=W.length+1->(Cf (Ap Bj (Ac (Aa 3) Af))) (crδ d n' a way (.tup (ps.map p3U)) (rowU W)) M'=some (.rt (rowU W'),M')/\W'.length<=61/\(∀ s∈W',Low s)/\Gdk M' d (B+5)/\Ex d L M':=fun n' W' M' R' hl'=>
  ⟨Du (Cv rfl (SN.tuple_of R'.at_)),by omega,R'.low,R'.D.mono (by omega),R'.x⟩
 obtain ⟨way,rfl⟩:∃ w:Nat,way=(w:Int):=⟨way.toNat,by omega⟩
 have hway:way=0\/way=1\/way=2\/way=3\/way=4\/way=5:=by omega
 have sk:∀ (n' j:Nat) (x:FS),j≠way->[cr0,cr1,cr2,cr3,cr4,cr5][j]? = some x->∀ N,x (crδ d n' a (way:Nat) (.tup (ps.map p3U)) (rowU W)) N=some (.nx (crδ d n' a (way:Nat) (.tup (ps.map p3U)) (rowU W)),N):=by
  intro n' j x hj hx N
  have hn:((way:Nat):Int)≠(j:Nat):=fun z=>hj (pO z).symm
  rcases j with _ | _ | _ | _ | _ | _ | j
  ·cases hx;exact Abn (i:=4) rfl hn
  ·cases hx;exact skip (i:=4) rfl hn
  ·cases hx;exact skip (i:=4) rfl hn
  ·cases hx;exact Abn (i:=4) rfl hn
  ·cases hx;exact skip (i:=4) rfl hn
  ·cases hx;exact skip (i:=4) rfl hn
  ·cases hx
 obtain ⟨n',W',M',c,hc,e,R',hl'⟩:∃ (n':Nat) (W':List Str) (M':UH) (c:FS),[cr0,cr1,cr2,cr3,cr4,cr5][way]? = some c/\c (crδ d L.length a (way:Nat) (.tup (ps.map p3U)) (rowU W)) M2=some (.nx (crδ d n' a (way:Nat) (.tup (ps.map p3U)) (rowU W)),M')/\Rw d L M' n' W' (B+1+1+3)/\W'.length<=W.length+1:=by
  rcases hway with rfl | rfl | rfl | rfl | rfl | rfl
  ·obtain ⟨n',W',M',e,R',hl'⟩:=Am4 (a:=a) hl hlow R2 (by omega) (by omega) (by omega) (rowU W)
   exact ⟨n',W',M',_,rfl,e,R',hl'⟩
  ·obtain ⟨n',W',M',e,R',hl'⟩:=Anl (a:=a) R2 (by omega) (.tup (ps.map p3U)) (rowU W)
   exact ⟨n',W',M',_,rfl,e,R',hl'⟩
  ·obtain ⟨n',W',M',e,R',hl'⟩:=Alx (a:=a) hl hok hlow R2 (by omega) (by omega) (by omega) (rowU W)
   exact ⟨n',W',M',_,rfl,e,R',hl'⟩
  ·obtain ⟨n',W',M',e,R',hl'⟩:=Am1 (a:=a) hl hlow R2 (by omega) ha (rowU W)
   exact ⟨n',W',M',_,rfl,e,R',hl'⟩
  ·obtain ⟨n',W',M',e,R',hl'⟩:=Anx (a:=a) R2 (by omega) (.tup (ps.map p3U)) (rowU W)
   exact ⟨n',W',M',_,rfl,e,R',hl'⟩
  ·obtain ⟨n',W',M',e,R',hl'⟩:=Amz (a:=a) R2 (by omega) (.tup (ps.map p3U)) (rowU W)
   exact ⟨n',W',M',_,rfl,e,R',hl'⟩
 have e:Ae1 (Cf (Ap Bj (Ac (Aa 3) Af))) [cr0,cr1,cr2,cr3,cr4,cr5] (crδ d L.length a (way:Nat) (.tup (ps.map p3U)) (rowU W)) M2=(Cf (Ap Bj (Ac (Aa 3) Af))) (crδ d n' a (way:Nat) (.tup (ps.map p3U)) (rowU W)) M':=Aky (fun j x hj hx=>⟨sk _ j x hj hx _,sk _ j x hj hx _⟩) hc e
 obtain ⟨o1,o2,o3,o4,o5⟩:=out n' W' M' R' hl'
 refine ⟨W',M',fnN rfl ?_,o2,o3,o4,o5⟩
 show Hf [some (.ref d),some (.tup (ps.map p3U)),some (rowU W),none,none,none] L=_
 rw[Af9,Aj s1,Aj s2,Aj s3]
 exact e.trans o1
end
abbrev Rr2:=Nat×List Str
noncomputable def rU(x:Rr2):U:=.ref x.1
noncomputable def tot(rr:List Rr2):Nat:=(rr.map fun y=>y.2.length).sum
structure FA(d:Nat)(L0 M:UH)(n:Nat)(rr:List Rr2)(B:Int):Prop where
 D:Gdk M d B
 x:Ex d L0 M
 at_:M[n]? = some (.lst (rr.map rU))
 row:∀ y∈rr,M[y.1]? = some (.lst (y.2.map U.str))
 ne:∀ y∈rr,y.1≠n/\y.1≠d
 lo:L0.length<=n
 dn:n≠d
 low:∀ y∈rr,∀ s∈y.2,Low s
structure RA(d:Nat)(L0 M:UH)(n:Nat)(rr:List Rr2)(B:Int):Prop extends FA d L0 M n rr B where
 nd:(rr.map fR).Nodup
 far:∀ y∈rr,L0.length<=y.1
variable {y:Rr2}{rr:List Rr2}{R:List Str}
section
theorem FA.ex(R:FA d L0 M n rr B)(x:Ex d M M')(D:Gdk M' d B'):FA d L0 M' n rr B':=⟨D,R.x.trans x,x.get R.at_ R.dn,fun y hy=>x.get (R.row y hy) (R.ne y hy).2,R.ne,R.lo,R.dn,R.low⟩
theorem FA.mono(R:FA d L0 M n rr B)(h:B<=B'):FA d L0 M n rr B':=⟨R.D.mono h,R.x,R.at_,R.row,R.ne,R.lo,R.dn,R.low⟩
theorem RA.ex(R:RA d L0 M n rr B)(x:Ex d M M')(D:Gdk M' d B'):RA d L0 M' n rr B':=⟨R.toFA.ex x D,R.nd,R.far⟩
theorem RA.grow(R:RA d L0 M n rr B)(y:UH):RA d L0 (M++y) n rr B:=R.ex (Ex.new d M y) (R.D.new y)
theorem Ld(hn:(rr.map fR).Nodup){a z:Rr2}(hy:rr[i]? = some y)(h:z∈rr.set i a):z=a\/(z∈rr/\z.1≠y.1):=by
 obtain ⟨j,hj,rfl⟩:=cY h
 rw[List.getElem_set]
 split
 ·exact .inl rfl
 ·rename_i hij
  rw[eV] at hj
  obtain ⟨hi,rfl⟩:=aG.mp hy
  refine .inr ⟨cN hj,fun e=>hij ?_⟩
  have hpw:=hU.mp (iI.mp (iZ.mp hn))
  rcases qW i j with h | h | h
  ·exact absurd e.symm (hpw i j hi hj h)
  ·exact h
  ·exact absurd e (hpw j i hj hi h)
theorem Nk:∀ {rr:List Rr2} {i:Nat} {y a:Rr2},rr[i]? = some y->tot (rr.set i a)+y.2.length=tot rr+a.2.length
 | [],i,y,a,h=>by simp at h
 | z::rr,0,y,a,h=>by
  simp at h;subst h
  simp only[aS,tot,aL,fD];omega
 | z::rr,i+1,y,a,h=>by
  have ih:=Nk (rr:=rr) (i:=i) (a:=a) (by simpa using h)
  simp only[aR,tot,aL,fD] at ih ⊢;omega
theorem RA.put(R:RA d L0 M n rr B)(hy:rr[i]? = some y)(X:List Str)(hX:∀ s∈X,Low s):RA d L0 (M.set y.1 (.lst (X.map U.str))) n (rr.set i (y.1,X)) B:=by
 have hm:=aW hy
 have hlt:=(aG.mp (R.row y hm)).1
 have hmap:(rr.set i (y.1,X)).map rU=rr.map rU:=by
  rw[lQ]
  refine qY fun j=>?_
  by_cases hj:i=j
  ·subst hj
   rw[bI (by rw[aI];exact (aG.mp hy).1),bA,hy];rfl
  ·rw[bD hj]
 have hfst:(rr.set i (y.1,X)).map fR=rr.map fR:=by
  rw[lQ]
  refine qY fun j=>?_
  by_cases hj:i=j
  ·subst hj
   rw[bI (by rw[aI];exact (aG.mp hy).1),bA,hy];rfl
  ·rw[bD hj]
 refine ⟨⟨R.D.set (R.ne y hm).2 _,R.x.set (R.far y hm) _,?_,fun z hz=>?_,fun z hz=>?_,R.lo,R.dn,fun z hz=>?_⟩,by rw[hfst];exact R.nd,fun z hz=>?_⟩
 ·rw[bD (R.ne y hm).1,hmap];exact R.at_
 ·rcases Ld R.nd hy hz with rfl | ⟨h,h2⟩
  ·exact bI hlt
  ·rw[bD (eW h2)];exact R.row z h
 ·rcases Ld R.nd hy hz with rfl | ⟨h,h2⟩
  ·exact R.ne y hm
  ·exact R.ne z h
 ·rcases Ld R.nd hy hz with rfl | ⟨h,h2⟩
  ·exact hX
  ·exact R.low z h
 ·rcases Ld R.nd hy hz with rfl | ⟨h,h2⟩
  ·exact R.far y hm
  ·exact R.far z h
theorem FA.rows(R:FA d L0 M n rr B)(rr':List Rr2)(hr:∀ y∈rr',y∈rr\/(M[y.1]? = some (.lst (y.2.map U.str))/\y.1≠n/\y.1≠d/\∀ s∈y.2,Low s)):FA d L0 (M.set n (.lst (rr'.map rU))) n rr' B:=by
 have hlt:=(aG.mp R.at_).1
 refine ⟨R.D.set R.dn _,R.x.set R.lo _,bI hlt,fun y hy=>?_,fun y hy=>?_,R.lo,R.dn,fun y hy=>?_⟩
 ·rcases hr y hy with h | ⟨h1,h2,h3,h4⟩
  ·rw[bD (eW (R.ne y h).1)];exact R.row y h
  ·rw[bD (eW h2)];exact h1
 ·rcases hr y hy with h | ⟨h1,h2,h3,h4⟩
  ·exact R.ne y h
  ·exact ⟨h2,h3⟩
 ·rcases hr y hy with h | ⟨h1,h2,h3,h4⟩
  ·exact R.low y h
  ·exact h4
theorem FA.ix(R:FA d L0 M n rr B)(hy:rr[i]? = some y):Ak (.ref n) (.int (i:Nat)) M=some (.ref y.1,M):=by
 have hi:=(aG.mp hy).1
 rw[semIx_ref,Al R.at_,aA,Je (by omega) (by rw[aI];omega),dZ,bA,hy]
 rfl
theorem Pf{M0:UH}{q:Nat}{X:List Str}(R:FA d L0 M n rr B)(he:fe δ M0=some (.ref q,M))(v3:Aa 3 δ M=some (.ref n,M))(vj:Aa j δ M=some (.int (i:Nat),M))(hy:rr[i]? = some y)(hq:M[q]? = some (.lst (X.map U.str)))(hqn:q≠n)(hqd:q≠d)(hX:∀ s∈X,Low s) :
  (Av fe (MR.gSub (Aa 3) (Aa j))) δ M0=some (.nx δ,M.set n (.lst ((rr.set i (q,X)).map rU)))/\FA d L0 (M.set n (.lst ((rr.set i (q,X)).map rU))) n (rr.set i (q,X)) B/\tot (rr.set i (q,X))+y.2.length=tot rr+X.length/\(rr.set i (q,X)).length=rr.length:=by
 have hi:=(aG.mp hy).1
 refine ⟨?_,R.rows _ (fun z hz=>?_),Nk hy,eV ..⟩
 ·rw[fAsg_eq,he,aA,gSub_eq,v3,aA,vj]
  simp only[aA,C7 R.at_,aI,Anr (by omega:(0:Int)<=(i:Int)) (by omega:(i:Int) < (rr.length:Nat)),aF,dZ]
  rw[lQ];rfl
 ·rcases fV hz with h | h
  ·exact .inl h
  ·rw[h];exact .inr ⟨hq,hqn,hqd,hX⟩
theorem X9(h:∀ s∈R,Low s)(p:Nat):∀ s∈R.take p,Low s:=fun s hs=>h s (dQ hs)
theorem Xl(h:∀ s∈R,Low s)(p:Nat):∀ s∈R.drop p,Low s:=fun s hs=>h s (dP hs)
theorem Vz{S:List Str}(h:∀ s∈R,Low s)(h2:∀ s∈S,Low s):∀ s∈R++S,Low s:=fun s hs=>(bP.mp hs).elim (h s) (h2 s)
end
noncomputable def cv0:FS:=(B8 (Ax (f2 A8 (Aa 4) (fC (.int 0)))) (Av (f2 Bq (fSl Cs (f2 Ak (Aa 3) (Aa 5)) A0 (Bo (Aa 7))) (fSl Cs (f2 Ak (Aa 3) (Aa 5)) (Bo (f2 Bq (Aa 7) (fC (.int 1)))) A0)) (MR.gSub (Aa 3) (Aa 5))) Bl)
noncomputable def cv1:FS:=(B8 (Ax (f2 A8 (Aa 4) (fC (.int 1)))) (Di (Ck "list" C4 (f2 Ak (Aa 3) (Aa 6)) (Ac (Ay 2 Am (Ac (Aa 0) (Ac (f2 Bq (Ap Aw (Ac (f2 Ak (Aa 3) (Aa 6)) Af)) (fC (.int 1))) Af))) (Ac (f2 Ak (f2 Ak (Aa 3) (Aa 5)) (fC (.int 0))) Af)))) Bl)
noncomputable def cv2:FS:=(B8 (Ax (f2 A8 (Aa 4) (fC (.int 2)))) (Av (Ay 2 Cc (Ac (Aa 0) (Ac (Aa 1) Af))) (MR.gSub (f2 Ak (Aa 3) (Aa 5)) (J7 (fC (.int 1))))) Bl)
noncomputable def cv3:FS:=(B8 (Ax (f2 A8 (Aa 4) (fC (.int 3)))) (Di (Ck "list" C4 (f2 Ak (Aa 3) (Aa 5)) (Ac (Aa 7) (Ac (Ay 2 Cc (Ac (Aa 0) (Ac (Aa 1) Af))) Af)))) Bl)
noncomputable def cv4:FS:=(B8 (Ax (f2 A8 (Aa 4) (fC (.int 4)))) (Av (f2 Bq (f2 Ak (Aa 3) (Aa 6)) (Cu (Ac (Ck "list" O7 (f2 Ak (Aa 3) (Aa 5)) Af) Af))) (MR.gSub (Aa 3) (Aa 6))) Bl)
noncomputable def cv5:FS:=(B8 (Ax (f2 A8 (Aa 4) (fC (.int 5)))) (Ar (Di (Ck "list" C5 (Aa 3) (Ac (fSl Cs (f2 Ak (Aa 3) (Aa 5)) (Bo (Aa 7)) A0) Af))) (Av (fSl Cs (f2 Ak (Aa 3) (Aa 5)) A0 (Bo (Aa 7))) (MR.gSub (Aa 3) (Aa 5)))) Bl)
noncomputable def cv6:FS:=(B8 (Ax (f2 A8 (Aa 4) (fC (.int 6)))) (Av (W0 (f2 Ak (Aa 3) (Aa 5))) (MR.gSub (Aa 3) (Aa 5))) Bl)
noncomputable def cv7:FS:=(B8 (Ax (f2 A8 (Aa 4) (fC (.int 7)))) (Di (Ck "list" C4 (Aa 3) (Ac (Aa 5) (Ac (Cu Af) Af)))) Bl)
noncomputable def cv8:FS:=(B8 (Jp (Ax (f2 A8 (Aa 4) (fC (.int 8)))) (Ax (f2 B2 (Aa 5) (Aa 6)))) (Ar (Av (f2 Bq (f2 Ak (Aa 3) (Aa 5)) (f2 Ak (Aa 3) (Aa 6))) (MR.gSub (Aa 3) (Aa 5))) (Di (Ck "list" Jz (Aa 3) (Ac (Aa 6) Af)))) Bl)
section
variable {a b p:Nat}{ya yb:Rr2}
abbrev cvδ(d n a b p:Nat)(way:Int)(P x2:U):UE:=[some (.ref d),some P,some x2,some (.ref n),some (.int way),some (.int (a:Nat)),some (.int (b:Nat)),some (.int (p:Nat))]
abbrev Pd(f:FS)(way:Int)(P x2:U)(d n a b p:Nat)(L0 M:UH)(rr:List Rr2)(B:Int):Prop:=∃ (rr':List Rr2) (M':UH),f (cvδ d n a b p way P x2) M=some (.nx (cvδ d n a b p way P x2),M')/\FA d L0 M' n rr' (B+3)/\tot rr'<=tot rr+1/\rr'.length<=rr.length+1
theorem Mt:∀ {rr:List Rr2},y∈rr->y.2.length<=tot rr
 | z::rr,h=>by
  simp only[tot,aL,fD]
  rcases bH.mp h with rfl | h
  ·omega
  ·have:=Mt h
   unfold tot at this;omega
theorem Ams(R:RA d L0 M n rr B)(ha:rr[a]? = some ya)(ht:tot rr<=100)(P x2:U):Pd cv0 0 P x2 d n a b p L0 M rr B:=by
 have hm:=aW ha
 have hln:=Mt hm
 have i1:(f2 Ak (Aa 3) (Aa 5)) (cvδ d n a b p 0 P x2) M=some (.ref ya.1,M):=Bd rfl rfl (R.ix ha)
 have e1:=K3 (lo:=A0) (hi:=Bo (Aa 7)) i1 rfl (G8 (i:=(p:Nat)) rfl) (R.row ya hm)
 rw[Kg] at e1
 have R1:=R.grow [HU.lst ((ya.2.take p).map U.str)]
 have i2:(f2 Ak (Aa 3) (Aa 5)) (cvδ d n a b p 0 P x2) (M++[HU.lst ((ya.2.take p).map U.str)])=some (.ref ya.1,M++[HU.lst ((ya.2.take p).map U.str)]):=Bd rfl rfl (R1.ix ha)
 have ep:(Bo (f2 Bq (Aa 7) (fC (.int 1)))) (cvδ d n a b p 0 P x2) (M++[HU.lst ((ya.2.take p).map U.str)])=some (some ((p+1:Nat):Int),M++[HU.lst ((ya.2.take p).map U.str)]):=G8 rfl
 have e2:=K3 (lo:=Bo (f2 Bq (Aa 7) (fC (.int 1)))) (hi:=A0) i2 ep rfl (R1.row ya hm)
 rw[Nj] at e2
 have R2:=R1.grow [HU.lst ((ya.2.drop (p+1)).map U.str)]
 have k1:(M++[HU.lst ((ya.2.take p).map U.str)]++[HU.lst ((ya.2.drop (p+1)).map U.str)])[M.length]? = some (.lst ((ya.2.take p).map U.str)):=by simp
 have k2:(M++[HU.lst ((ya.2.take p).map U.str)]++[HU.lst ((ya.2.drop (p+1)).map U.str)])[(M++[HU.lst ((ya.2.take p).map U.str)]).length]? = some (.lst ((ya.2.drop (p+1)).map U.str)):=by simp
 have e3:=Bd e1 e2 (J9 k1 k2 (by simp only[aI,cH,cS];omega))
 rw[<- bZ] at e3
 generalize hM2:M++[HU.lst ((ya.2.take p).map U.str)]++[HU.lst ((ya.2.drop (p+1)).map U.str)]=M2 at e3 R2
 have R3:=R2.grow [HU.lst ((ya.2.take p++ya.2.drop (p+1)).map U.str)]
 have hdl:=R2.D.lt
 have hnl:=(aG.mp R2.at_).1
 obtain ⟨s,F,ht',hl'⟩:=Pf (j:=5) (δ:=cvδ d n a b p 0 P x2) R3.toFA e3 rfl rfl ha (X:=ya.2.take p++ya.2.drop (p+1)) (by simp) (by omega) (by omega) (Vz (X9 (R.low ya hm) _) (Xl (R.low ya hm) _))
 refine ⟨_,_,(P2 (i:=4) rfl).trans s,F.mono (by omega),?_,by omega⟩
 simp only[bB,cH,cS] at ht';omega
theorem Am5(R:RA d L0 M n rr B)(hB:B<=100000)(ha:rr[a]? = some ya)(hb:rr[b]? = some yb)(hne:ya.2≠[])(ht:tot rr<=100)(P x2:U):Pd cv1 1 P x2 d n a b p L0 M rr B:=by
 have hma:=aW ha
 have hmb:=aW hb
 have hlb:=Mt hmb
 have i1:∀ {M':UH} {B':Int},RA d L0 M' n rr B'->(f2 Ak (Aa 3) (Aa 6)) (cvδ d n a b p 1 P x2) M'=some (.ref yb.1,M'):=fun R=>Bd rfl rfl (R.ix hb)
 have hlen:=Cv (s:=Aw) (i1 R) (Fs (R.row yb hmb))
 rw[aI] at hlen
 obtain ⟨j,M1,e1,j0,j1,D1,x1⟩:=B4 (many:=(yb.2.length:Int)+1) R.D (by omega) (by omega) (by omega)
 obtain ⟨k,rfl⟩:∃ k:Nat,j=(k:Int):=⟨j.toNat,by omega⟩
 have R1:=R.ex x1 D1
 have ed:=Kp (fa:=Aa 0) (δ:=cvδ d n a b p 1 P x2) rfl (Bd (s:=Bq) (fb:=fC (.int 1)) hlen rfl rfl) e1
 obtain ⟨s,S,hyS⟩:∃ s S,ya.2=s::S:=by cases h:ya.2 with | nil=>exact absurd h hne | cons s S=>exact ⟨s,S,rfl⟩
 have e0:(f2 Ak (f2 Ak (Aa 3) (Aa 5)) (fC (.int 0))) (cvδ d n a b p 1 P x2) M1=some (.str s,M1):=by
  refine Bd (Bd rfl rfl (R1.ix ha)) rfl ?_
  rw[semIx_ref,Al (R1.row ya hma),aA,hyS,Je (by decide) (by rw[aI,aY];omega)];rfl
 have e:=Mc (i1 R) (R.row yb hmb) ed e0 (R1.row yb hmb) (by omega) (by rw[aI];omega)
 rw[Pk] at e
 have F:=(R1.put hb (yb.2.take (min k (yb.2.map U.str).length)++s::yb.2.drop (min k (yb.2.map U.str).length)) (fun x hx=>by
  rcases bP.mp hx with h | h
  ·exact R.low yb hmb x (dQ h)
  ·rcases bH.mp h with rfl | h
   ·exact R.low ya hma x (by rw[hyS];exact aX ..)
   ·exact R.low yb hmb x (dP h))).toFA
 have ht':=Nk (a:=(yb.1,yb.2.take (min k (yb.2.map U.str).length)++s::yb.2.drop (min k (yb.2.map U.str).length))) hb
 refine ⟨_,_,(P2 (i:=4) rfl).trans e,F.mono (by omega),?_,by rw[eV];exact fM _⟩
 simp only[bB,cH,cS,aY,aI] at ht' ⊢;omega
theorem Amr(hl:ps.length<=60)(hok:∀ p∈ps,Okn p.1)(hlow:∀ p∈ps,Low p.1)(R:RA d L0 M n rr B)(hB:B<=100000)(ha:rr[a]? = some ya)(hne:ya.2≠[])(x2:U):Pd cv2 2 (.tup (ps.map p3U)) x2 d n a b p L0 M rr B:=by
 have hma:=aW ha
 obtain ⟨s,M1,e1,ls,D1,x1⟩:=Kq hl hok hlow R.D hB
 have R1:=R.ex x1 D1
 have hpos:0 < ya.2.length:=dW.mpr hne
 have hix:ixN (ya.2.map U.str).length (-1)=some (ya.2.length - 1):=by
  unfold ixN
  rw[aI,if_neg (by decide),if_pos (by omega)]
  congr 1;omega
 have hs:(Av (Ay 2 Cc (Ac (Aa 0) (Ac (Aa 1) Af))) (MR.gSub (f2 Ak (Aa 3) (Aa 5)) (J7 (fC (.int 1))))) (cvδ d n a b p 2 (.tup (ps.map p3U)) x2) M=some (.nx (cvδ d n a b p 2 (.tup (ps.map p3U)) x2),M1.set ya.1 (.lst ((ya.2.set (ya.2.length - 1) s).map U.str))):=by
  have i1:(f2 Ak (Aa 3) (Aa 5)) (cvδ d n a b p 2 (.tup (ps.map p3U)) x2) M1=some (.ref ya.1,M1):=Bd rfl rfl (R1.ix ha)
  have e0:=Mu (f:=Cc) (i:=0) (j:=1) (δ:=cvδ d n a b p 2 (.tup (ps.map p3U)) x2) (L:=M) rfl rfl e1
  have ng:=Afp (cvδ d n a b p 2 (.tup (ps.map p3U)) x2) M1
  rw[fAsg_eq,e0,aA,gSub_eq,i1,aA,ng]
  simp only[aA,C7 (R1.row ya hma),hix,aF]
  rw[lQ]
 have F:=(R1.put ha (ya.2.set (ya.2.length - 1) s) (fun x hx=>by
  rcases fV hx with h | h
  ·exact R.low ya hma x h
  ·rw[h];exact ls)).toFA
 have ht':=Nk (a:=(ya.1,ya.2.set (ya.2.length - 1) s)) ha
 refine ⟨_,_,(P2 (i:=4) rfl).trans hs,F.mono (by omega),?_,by rw[eV];exact fM _⟩
 simp only[eV] at ht' ⊢;omega
theorem Ano(hl:ps.length<=60)(hok:∀ p∈ps,Okn p.1)(hlow:∀ p∈ps,Low p.1)(R:RA d L0 M n rr B)(hB:B<=100000)(ha:rr[a]? = some ya)(hp:p<=1000)(ht:tot rr<=100)(x2:U):Pd cv3 3 (.tup (ps.map p3U)) x2 d n a b p L0 M rr B:=by
 have hma:=aW ha
 have hla:=Mt hma
 obtain ⟨s,M1,e1,ls,D1,x1⟩:=Kq hl hok hlow R.D hB
 have R1:=R.ex x1 D1
 have i1:(f2 Ak (Aa 3) (Aa 5)) (cvδ d n a b p 3 (.tup (ps.map p3U)) x2) M=some (.ref ya.1,M):=Bd rfl rfl (R.ix ha)
 have e:=Mc i1 (R.row ya hma) (fi:=Aa 7) rfl (Mu (i:=0) (j:=1) rfl rfl e1) (R1.row ya hma) (by omega) (by rw[aI];omega)
 rw[Pk] at e
 have F:=(R1.put ha (ya.2.take (min p (ya.2.map U.str).length)++s::ya.2.drop (min p (ya.2.map U.str).length)) (fun x hx=>by
  rcases bP.mp hx with h | h
  ·exact R.low ya hma x (dQ h)
  ·rcases bH.mp h with rfl | h
   ·exact ls
   ·exact R.low ya hma x (dP h))).toFA
 have ht':=Nk (a:=(ya.1,ya.2.take (min p (ya.2.map U.str).length)++s::ya.2.drop (min p (ya.2.map U.str).length))) ha
 refine ⟨_,_,(P2 (i:=4) rfl).trans e,F.mono (by omega),?_,by rw[eV];exact fM _⟩
 simp only[bB,cH,cS,aY,aI] at ht' ⊢;omega
theorem Ald(R:RA d L0 M n rr B)(ha:rr[a]? = some ya)(hb:rr[b]? = some yb)(hne:ya.2≠[])(ht:tot rr<=100)(P x2:U):Pd cv4 4 P x2 d n a b p L0 M rr B:=by
 have hma:=aW ha
 have hpos:0 < ya.2.length:=dW.mpr hne
 have i6:(f2 Ak (Aa 3) (Aa 6)) (cvδ d n a b p 4 P x2) M=some (.ref yb.1,M):=Bd rfl rfl (R.ix hb)
 have i5:(f2 Ak (Aa 3) (Aa 5)) (cvδ d n a b p 4 P x2) M=some (.ref ya.1,M):=Bd rfl rfl (R.ix ha)
 have hlast:(ya.2.map U.str)[(ya.2.map U.str).length - 1]? = some (.str (ya.2[ya.2.length - 1]'(by omega))):=by
  rw[aI,bA,aC (by omega)];rfl
 have hls:Low (ya.2[ya.2.length - 1]'(by omega)):=R.low ya hma _ (cN _)
 generalize ya.2[ya.2.length - 1]'(by omega)=s at hlast hls
 have hpop:(Ck "list" O7 (f2 Ak (Aa 3) (Aa 5)) Af) (cvδ d n a b p 4 P x2) M=some (.str s,M.set ya.1 (.lst (ya.2.dropLast.map U.str))):=by
  rw[fMeth_eq,i5,aA,if_pos (Gg (R.row ya hma)),fNil_eq,aA]
  show (Ef M ya.1).bind _=_
  rw[C7 (R.row ya hma),aA,hlast,aF,List.map_dropLast]
 have R1:=R.put ha ya.2.dropLast (fun x hx=>R.low ya hma x ((List.dropLast_sublist ya.2).subset hx))
 have e1:=Apn hpop
 obtain ⟨yc,hc,hc1⟩:∃ yc:Rr2,(rr.set a (ya.1,ya.2.dropLast))[b]? = some yc/\yc.1=yb.1:=by
  by_cases hab:a=b
  ·subst hab
   rw[ha] at hb;cases hb
   exact ⟨(ya.1,ya.2.dropLast),bI (aG.mp ha).1,rfl⟩
  ·exact ⟨yb,by rw[bD hab];exact hb,rfl⟩
 have ht1:=Nk (a:=(ya.1,ya.2.dropLast)) ha
 simp only[oQ] at ht1
 generalize hM1:M.set ya.1 (.lst (ya.2.dropLast.map U.str))=M1 at R1 e1
 have hl1:(rr.set a (ya.1,ya.2.dropLast)).length=rr.length:=eV ..
 generalize rr.set a (ya.1,ya.2.dropLast)=rr1 at R1 hc ht1 hl1
 have hmc:=aW hc
 have hlc:=Mt hmc
 have R2:=R1.grow [HU.lst [.str s]]
 have k1:(M1++[HU.lst [.str s]])[yb.1]? = some (.lst (yc.2.map U.str)):=by rw[<- hc1];exact R2.row yc hmc
 have k2:(M1++[HU.lst [.str s]])[M1.length]? = some (.lst ([s].map U.str)):=by simp
 have e2:=Bd i6 e1 (J9 k1 k2 (by simp only[aI,eN];omega))
 rw[<- bZ] at e2
 have R3:=R2.grow [HU.lst ((yc.2++[s]).map U.str)]
 have hdl:=R2.D.lt
 have hnl:=(aG.mp R2.at_).1
 obtain ⟨st,F,ht',hl'⟩:=Pf (j:=6) (δ:=cvδ d n a b p 4 P x2) R3.toFA e2 rfl rfl hc (X:=yc.2++[s]) (by simp) (by omega) (by omega) (Vz (R1.low yc hmc) (fun x hx=>by rw[bC.mp hx];exact hls))
 refine ⟨_,_,(P2 (i:=4) rfl).trans st,F.mono (by omega),?_,by omega⟩
 rw[show (yc.2++[s]).length=yc.2.length+1 from by simp] at ht';omega
theorem Amm(R:RA d L0 M n rr B)(ha:rr[a]? = some ya)(hr:rr.length<=100)(P x2:U):Pd cv5 5 P x2 d n a b p L0 M rr B:=by
 have hma:=aW ha
 have hal:=(aG.mp ha).1
 have i1:(f2 Ak (Aa 3) (Aa 5)) (cvδ d n a b p 5 P x2) M=some (.ref ya.1,M):=Bd rfl rfl (R.ix ha)
 have e1:=K3 (lo:=Bo (Aa 7)) (hi:=A0) i1 (G8 (i:=(p:Nat)) rfl) rfl (R.row ya hma)
 rw[Nj] at e1
 have R1:=R.grow [HU.lst ((ya.2.drop p).map U.str)]
 have hdl:=R.D.lt
 have hnl:=(aG.mp R.at_).1
 have s1:=SN.push_ok (i:=3) (δ:=cvδ d n a b p 5 P x2) rfl R.at_ e1 R1.at_ (by rw[aI];omega)
 have hap:rr.map rU++[U.ref M.length]=(rr++[(M.length,ya.2.drop p)]).map rU:=by rw[bZ];rfl
 rw[hap] at s1
 have F1:=R1.toFA.rows (rr++[(M.length,ya.2.drop p)]) (fun z hz=>by
  rcases bP.mp hz with h | h
  ·exact .inl h
  ·rw[bC.mp h]
   exact .inr ⟨by simp,by show M.length≠n;omega,by show M.length≠d;omega,Xl (R.low ya hma) _⟩)
 have ha1:(rr++[(M.length,ya.2.drop p)])[a]? = some ya:=by rw[bG hal];exact ha
 have ht1:tot (rr++[(M.length,ya.2.drop p)])=tot rr+(ya.2.length - p):=by
  simp only[tot,bZ,sL,aL,cU,fD,List.sum_nil,cS];omega
 have hl1:(rr++[(M.length,ya.2.drop p)]).length=rr.length+1:=by simp
 generalize rr++[(M.length,ya.2.drop p)]=rr1 at s1 F1 ha1 ht1 hl1
 generalize (M++[HU.lst ((ya.2.drop p).map U.str)]).set n (.lst (rr1.map rU))=M2 at s1 F1
 have hm1:=aW ha1
 have i2:(f2 Ak (Aa 3) (Aa 5)) (cvδ d n a b p 5 P x2) M2=some (.ref ya.1,M2):=Bd rfl rfl (F1.ix ha1)
 have e2:=K3 (lo:=A0) (hi:=Bo (Aa 7)) i2 rfl (G8 (i:=(p:Nat)) rfl) (F1.row ya hm1)
 rw[Kg] at e2
 have F2:=F1.ex (Ex.new d M2 [HU.lst ((ya.2.take p).map U.str)]) (F1.D.new _)
 have hdl2:=F1.D.lt
 have hnl2:=(aG.mp F1.at_).1
 obtain ⟨st,F,ht',hl'⟩:=Pf (j:=5) (δ:=cvδ d n a b p 5 P x2) F2 e2 rfl rfl ha1 (X:=ya.2.take p) (by simp) (by omega) (by omega) (X9 (R.low ya hma) _)
 refine ⟨_,_,(P2 (i:=4) rfl).trans ?_,F.mono (by omega),?_,by omega⟩
 ·rw[Aj s1];exact st
 ·simp only[cH] at ht';omega
theorem Alj(R:RA d L0 M n rr B)(ha:rr[a]? = some ya)(P x2:U):Pd cv6 6 P x2 d n a b p L0 M rr B:=by
 have hma:=aW ha
 have i1:(f2 Ak (Aa 3) (Aa 5)) (cvδ d n a b p 6 P x2) M=some (.ref ya.1,M):=Bd rfl rfl (R.ix ha)
 have e1:(W0 (f2 Ak (Aa 3) (Aa 5))) (cvδ d n a b p 6 P x2) M=some (.ref M.length,M++[.lst (ya.2.reverse.map U.str)]):=by
  rw[Ack,i1]
  simp only[aA,Al (R.row ya hma),aF,rR]
 have R1:=R.grow [HU.lst (ya.2.reverse.map U.str)]
 have hdl:=R.D.lt
 have hnl:=(aG.mp R.at_).1
 obtain ⟨st,F,ht',hl'⟩:=Pf (j:=5) (δ:=cvδ d n a b p 6 P x2) R1.toFA e1 rfl rfl ha (X:=ya.2.reverse) (by simp) (by omega) (by omega) (fun s hs=>R.low ya hma s (rS.mp hs))
 refine ⟨_,_,(P2 (i:=4) rfl).trans st,F.mono (by omega),?_,by omega⟩
 rw[dU] at ht';omega
theorem An4(R:RA d L0 M n rr B)(ha:a<=1000)(hr:rr.length<=100)(P x2:U):Pd cv7 7 P x2 d n a b p L0 M rr B:=by
 have R1:=R.grow [HU.lst []]
 have hdl:=R.D.lt
 have hnl:=(aG.mp R.at_).1
 have e:=Mc (fv:=Aa 3) (fi:=Aa 5) (δ:=cvδ d n a b p 7 P x2) rfl R.at_ rfl (Wt _ M) R1.at_ (by omega) (by rw[aI];omega)
 have hap:(rr.map rU).take (min a (rr.map rU).length)++U.ref M.length::(rr.map rU).drop (min a (rr.map rU).length)=(rr.take (min a (rr.map rU).length)++(M.length,[])::rr.drop (min a (rr.map rU).length)).map rU:=by
  rw[bZ,aL,jG,jH];rfl
 rw[hap] at e
 generalize min a (rr.map rU).length=k at e
 have F:=R1.toFA.rows (rr.take k++(M.length,[])::rr.drop k) (fun z hz=>by
  rcases bP.mp hz with h | h
  ·exact .inl (dQ h)
  ·rcases bH.mp h with rfl | h
   ·exact .inr ⟨by simp,by show M.length≠n;omega,by show M.length≠d;omega,fun s hs=>by cases hs⟩
   ·exact .inl (dP h))
 have ht':tot (rr.take k++(M.length,[])::rr.drop k)=tot rr:=by
  have h1:tot rr=tot (rr.take k++rr.drop k):=by rw[gZ]
  rw[h1]
  simp only[tot,bZ,sL,aL,fD,cB];omega
 refine ⟨_,_,(P2 (i:=4) rfl).trans e,F.mono (by omega),by omega,?_⟩
 simp only[bB,aY,cH,cS];omega
theorem Vd:∀ {rr:List Rr2} {i:Nat} {y:Rr2},rr[i]? = some y->tot (rr.eraseIdx i)+y.2.length=tot rr
 | [],i,y,h=>by simp at h
 | z::rr,0,y,h=>by
  simp at h;subst h
  simp only[List.eraseIdx_cons_zero,tot,aL,fD];omega
 | z::rr,i+1,y,h=>by
  have ih:=Vd (rr:=rr) (i:=i) (by simpa using h)
  simp only[jU,tot,aL,fD] at ih ⊢;omega
theorem Alh(R:RA d L0 M n rr B)(ha:rr[a]? = some ya)(hb:rr[b]? = some yb)(ht:tot rr<=100)(hr:rr.length<=100)(P x2:U):Pd cv8 8 P x2 d n a b p L0 M rr B:=by
 have hma:=aW ha
 have hmb:=aW hb
 have hla:=Mt hma
 have hlb:=Mt hmb
 have hbl:=(aG.mp hb).1
 have tt:Ax (f2 B2 (Aa 5) (Aa 6)) (cvδ d n a b p 8 P x2) M=some (!(((a:Nat):Int) == ((b:Nat):Int)),M):=Dc (Bd rfl rfl (Aej _ _ M))
 have hd:=Ww (i:=4) (c:=8) (δ:=cvδ d n a b p 8 P x2) (L:=M) (f:=(Ar (Av (f2 Bq (f2 Ak (Aa 3) (Aa 5)) (f2 Ak (Aa 3) (Aa 6))) (MR.gSub (Aa 3) (Aa 5))) (Di (Ck "list" Jz (Aa 3) (Ac (Aa 6) Af))))) rfl tt
 by_cases hab:a=b
 ·rw[if_neg (by rw[hab];simp)] at hd
  exact ⟨rr,M,hd,R.toFA.mono (by omega),fM _,fM _⟩
 ·rw[if_pos (by
   have:(((a:Nat):Int) == ((b:Nat):Int))=false:=by rw[beq_eq_false_iff_ne];omega
   rw[this];rfl)] at hd
  have i1:(f2 Ak (Aa 3) (Aa 5)) (cvδ d n a b p 8 P x2) M=some (.ref ya.1,M):=Bd rfl rfl (R.ix ha)
  have i2:(f2 Ak (Aa 3) (Aa 6)) (cvδ d n a b p 8 P x2) M=some (.ref yb.1,M):=Bd rfl rfl (R.ix hb)
  have e1:=Bd i1 i2 (J9 (R.row ya hma) (R.row yb hmb) (by rw[aI,aI];omega))
  rw[<- bZ] at e1
  have R1:=R.grow [HU.lst ((ya.2++yb.2).map U.str)]
  have hdl:=R.D.lt
  have hnl:=(aG.mp R.at_).1
  obtain ⟨st,F,ht',hl'⟩:=Pf (j:=5) (δ:=cvδ d n a b p 8 P x2) R1.toFA e1 rfl rfl ha (X:=ya.2++yb.2) (by simp) (by omega) (by omega) (Vz (R.low ya hma) (R.low yb hmb))
  have hb1:(rr.set a (M.length,ya.2++yb.2))[b]? = some yb:=by rw[bD hab];exact hb
  generalize rr.set a (M.length,ya.2++yb.2)=rr1 at st F ht' hl' hb1
  generalize (M++[HU.lst ((ya.2++yb.2).map U.str)]).set n (.lst (rr1.map rU))=M1 at st F
  have hpop:=Af8 (i:=(b:Nat)) F.at_ (by omega) (by rw[aI];omega) (by rw[aI];omega)
  have hbn:((b:Nat):Int).toNat=b:=dZ b
  generalize hz:(rr1.map rU)[((b:Nat):Int).toNat]'(by rw[aI];omega)=z at hpop
  rw[hbn] at hpop
  have sp:(Di (Ck "list" Jz (Aa 3) (Ac (Aa 6) Af))) (cvδ d n a b p 8 P x2) M1=some (.nx (cvδ d n a b p 8 P x2),M1.set n (.lst ((rr1.eraseIdx b).map rU))):=by
   have v3:Aa 3 (cvδ d n a b p 8 P x2) M1=some (.ref n,M1):=rfl
   have v6:Aa 6 (cvδ d n a b p 8 P x2) M1=some (.int (b:Nat),M1):=rfl
   rw[Fy,fMeth_eq,v3,aA,if_pos (Gg F.at_),fCons_eq,v6]
   simp only[aA,fNil_eq,aF,hpop]
   rw[N5]
  have F2:=F.rows (rr1.eraseIdx b) (fun z hz=>.inl (List.mem_of_mem_eraseIdx hz))
  have ht2:=Vd hb1
  refine ⟨_,_,hd.trans ((Aj st).trans sp),F2.mono (by omega),?_,?_⟩
  ·rw[bB] at ht';omega
  ·have:=List.length_eraseIdx_le rr1 b;omega
end
theorem Yi:∀ (rr:List Rr2),(∀ y∈rr,∀ s∈y.2,Low s)->kD (rr.map fun y=>gF (pds (y.2.map U.str)))=true/\lJ (rr.map fun y=>gF (pds (y.2.map U.str)))<=8
 | [],_=>⟨rfl,eD _⟩
 | y::rr,h=>by
  obtain ⟨b1,b2⟩:=Yi rr fun z hz=>h z (aT _ hz)
  obtain ⟨a1,a2⟩:=O8 (P6 6) (y.2.map U.str) (fun u hu=>by obtain ⟨x,hx,rfl⟩:=bJ.mp hu;exact Li (h y (aX ..) x hx) _)
  refine ⟨by simp[kD,fQ,a1,b1],?_⟩
  simp only[aL,lJ,gP]
  omega
theorem Yh:∀ (rr:List Rr2),(∀ y∈rr,∀ s∈y.2,Low s)->(∀ y∈rr,L[y.1]? = some (.lst (y.2.map U.str)))->mapO (toP L 7) (rr.map rU)=some (rr.map fun y=>gF (pds (y.2.map U.str)))
 | [],_,_=>rfl
 | y::rr,h,hr=>by
  have ih:=Yh rr (fun z hz=>h z (aT _ hz)) (fun z hz=>hr z (aT _ hz))
  have h1:toP L 7 (rU y)=some (gF (pds (y.2.map U.str))):=by
   show (A7 L y.1).bind (fun l=>(mapO (toP L 6) l).map gF)=_
   rw[Al (hr y (aX ..)),aA,Ox (fun u hu=>Qg L 5 6 u (by decide) hu) (y.2.map U.str) (fun u hu=>by obtain ⟨x,hx,rfl⟩:=bJ.mp hu;exact Li (h y (aX ..) x hx) _)]
   rfl
  simp only[aL,mapO,h1,ih,aA,aF]
theorem Aiu(R:RA d L0 M n rr B):A8 (.ref n) (.ref M.length) (M++[.lst []])=some (.bl rr.isEmpty,M++[.lst []]):=by
 have R1:=R.grow [HU.lst []]
 have q2:A7 (M++[HU.lst []]) M.length=some []:=Al (by simp)
 have t1:toP (M++[HU.lst []]) 8 (.ref n)=some (.list (rr.map fun y=>gF (pds (y.2.map U.str)))):=by
  show (A7 (M++[HU.lst []]) n).bind (fun l=>(mapO (toP (M++[HU.lst []]) 7) l).map gF)=_
  rw[Al R1.at_,aA,Yh rr R1.low R1.row];rfl
 have t2:toP (M++[HU.lst []]) 8 (.ref M.length)=some (.list []):=by
  show (A7 (M++[HU.lst []]) M.length).bind (fun l=>(mapO (toP (M++[HU.lst []]) 7) l).map gF)=_
  rw[q2];rfl
 obtain ⟨a1,a2⟩:=Yi rr R.low
 have s1:fI (.list (rr.map fun y=>gF (pds (y.2.map U.str))))=true:=by unfold fI;simp only[fQ,gP,a1,pQ];exact decide_eq_true (by omega)
 have s2:fI (.list [])=true:=rfl
 have he:dJ (.list (rr.map fun y=>gF (pds (y.2.map U.str)))) (.list [])=rr.isEmpty:=by
  cases rr with
  | nil=>rfl
  | cons y rr=>simp[dJ,iS]
 unfold A8 eqP
 simp only[t1,t2,aA,s1,s2,and_self,if_true,he,aF]
theorem Ajy{rows:List (List Str)}(D:Gdk L d B)(hl:rows.length<=1000)(hlow:∀ r∈rows,∀ s∈r,Low s)(hv:Aa 2 δ L=some (.tup (rows.map rowU),L)) :
  ∃ (n:Nat) (rr:List Rr2) (M:UH),Bu [none] (Bb (Aa 2)) (gN 0) none Dv δ L=some (.ref n,M)/\RA d L M n rr B/\rr.map cK=rows:=by
 obtain ⟨us,δ',M',e,rr,hus,hsnd,hrow,hnd,hlo,gM,_⟩:=Abe (ix:=[none]) (fi:=Bb (Aa 2)) (it:=.seq (rows.map rowU)) (g:=gN 0) (tt:=none) (fe:=Dv) (us:=rows.map rowU) (δ:=δ) (L:=L) (L0:=L)
  (fun k acc δ' M=>∃ rr:List Rr2,acc=rr.map rU/\rr.map cK=rows.take k/\(∀ y∈rr,M[y.1]? = some (.lst (y.2.map U.str)))/\(rr.map fR).Nodup/\(∀ y∈rr,L.length<=y.1/\y.1 < M.length)/\Gw L M/\δ'.length=1)
  (by rw[Dq,hv];rfl) (by simp[IU.size]) ⟨[],rfl,rfl,by simp,.nil,by simp,Gw.refl L,rfl⟩
  (fun k acc δ L _ _=>rfl)
  (fun k u acc δ M hu zz=>by
   obtain ⟨rr,hacc,hsnd,hrow,hnd,hlo,gM,hδ⟩:=zz
   rw[bA] at hu
   obtain ⟨r,hr,rfl⟩:=aH.mp hu
   have hk:=(aG.mp hr).1
   obtain ⟨z,rfl⟩:∃ z,δ = [z]:=by match δ,hδ with | [z],_=>exact ⟨z,rfl⟩
   have hlen:acc.length < 16777216:=by
    have:=congrArg jS hsnd
    rw[aI,cH] at this
    rw[hacc,aI];omega
   refine ⟨[some (rowU r)],M,rfl,true,M,rfl,fun _=>⟨.ref M.length,M++[.lst (r.map U.str)],rfl,hlen,rr++[(M.length,r)],by rw[hacc,bZ];rfl,by rw[bZ,hsnd,eA,hr];rfl,fun y hy=>?_,?_,fun y hy=>?_,gM.trans (Gw.new _ _),rfl⟩,fun h=>by cases h⟩
   ·rcases bP.mp hy with h | h
    ·exact (Gw.new _ _).get (hrow y h)
    ·rw[bC.mp h];simp
   ·rw[bZ]
    refine eB.mpr ⟨hnd,by simp,fun a ha b hb hab=>?_⟩
    obtain ⟨y,hy,rfl⟩:=bJ.mp ha
    have hbv:b=M.length:=by simpa using hb
    have:=(hlo y hy).2
    omega
   ·rw[bB]
    rcases bP.mp hy with h | h
    ·have:=hlo y h;exact ⟨this.1,by omega⟩
    ·rw[bC.mp h];exact ⟨gM.le,by show M.length < M.length+1;omega⟩)
 rw[aI,gR] at hsnd
 have hd:=D.lt
 have hle:=gM.le
 refine ⟨M'.length,rr,M'++[.lst us],e,⟨⟨(D.gw gM).new _,(gM.trans (Gw.new _ _)).ex d,by rw[hus];simp,fun y hy=>(Gw.new _ _).get (hrow y hy),fun y hy=>?_,hle,by omega,fun y hy=>hlow y.2 (by rw[<- hsnd];exact iL hy)⟩,hnd,fun y hy=>(hlo y hy).1⟩,hsnd⟩
 have:=hlo y hy
 exact ⟨by omega,by omega⟩
theorem Afx(R:FA d L0 M n rr B)(hl:rr.length<=1000)(hv:Aa 3 δ M=some (.ref n,M)) :
  ∃ M',(Cf (Ap Bj (Ac (Bu [none] (Bb (Aa 3)) (gN 0) none Cy) Af))) δ M=some (.rt (.tup ((rr.map cK).map rowU)),M')/\Gw M M':=by
 have hs:=Al R.at_
 obtain ⟨L',e,g⟩:=SN.comp_all (ix:=[none]) (fi:=Bb (Aa 3)) (it:=.ref n) (fe:=Cy) (δ:=δ) (L:=M) (L0:=M) rr rU (fun y=>rowU y.2) [] rfl (by rw[Dq,hv,aA,Dg hs];rfl) (by rw[Gs hs];simp) (by omega) (fun k x=>Lj (Em hs)) (fun y x hy=>⟨[],by rw[aU];exact Cv rfl (SN.tuple_of ((Gw.new M x).get (R.row y hy)))⟩)
 have hm:rr.map (fun y=>rowU y.2)=(rr.map cK).map rowU:=by rw[cE];rfl
 rw[hm] at e
 exact ⟨_,Du (Cv e (SN.tuple_of (by simp))),g.trans (Gw.new _ [HU.lst ((rr.map cK).map rowU)])⟩
theorem Xd(rr:List Rr2):tot rr=(rr.map cK).flatten.length:=by
 unfold tot
 rw[List.length_flatten,cE];rfl
theorem W8:Fo=Ar (Av (Bu [none] (Bb (Aa 2)) (gN 0) none Dv) (gN 3)) (Ar (Av (Ay 2 Am (Ac (Aa 0) (Ac (fC (.int 9)) Af))) (gN 4)) (Ar (B8 (Ax (f2 A8 (Aa 3) (Cu Af))) (Cf (f2 Ak (Cu (Ac (C0 Af) (Ac (C0 (Ac (C0 Af) Af)) (Ac (C0 (Ac (C0 (Ac (Ay 2 Cc (Ac (Aa 0) (Ac (Aa 1) Af))) Af)) Af)) Af)))) (Ay 2 Am (Ac (Aa 0) (Ac (fC (.int 3)) Af))))) Bl) (Ar (Av (Ay 2 Am (Ac (Aa 0) (Ac (Ap Aw (Ac (Aa 3) Af)) Af))) (gN 5)) (Ar (Av (Ay 2 Am (Ac (Aa 0) (Ac (Ap Aw (Ac (Aa 3) Af)) Af))) (gN 6)) (Ar (Av (Ay 2 Am (Ac (Aa 0) (Ac (f2 Bq (Ap Aw (Ac (f2 Ak (Aa 3) (Aa 5)) Af)) (fC (.int 1))) Af))) (gN 7)) (Ar cv0 (Ar cv1 (Ar cv2 (Ar cv3 (Ar cv4 (Ar cv5 (Ar cv6 (Ar cv7 (Ar cv8 (Cf (Ap Bj (Ac (Bu [none] (Bb (Aa 3)) (gN 0) none Cy) Af))))))))))))))))):=rfl
theorem Aqg{a b c:U}(h1:fa δ L=some (a,L))(h2:fb δ L=some (b,L))(h3:fc δ L=some (c,L1)):(Cu (Ac fa (Ac fb (Ac fc Af)))) δ L=some (.ref L1.length,L1++[.lst [a,b,c]]):=by
 rw[fLst_eq,fCons_eq,h1,aA,fCons_eq,h2,aA,fCons_eq,h3]
 simp only[aA,fNil_eq,aF]
 rw[if_pos (small_of (by show 3<=16777216;decide))]
section
variable {rows:List (List Str)}
inductive spoilt_cover_ok_I(rows:List (List Str))(B:Int)(L:UH)(d:Nat)(ps:List P3):Prop
 | mk (rows':List (List Str)) (L':UH) (h0:Fb [.ref d,.tup (ps.map p3U),.tup (rows.map rowU)] L=some (.tup (rows'.map rowU),L')) (h1:rows'.flatten.length<=61) (h2:rows'.length<=61) (h3:(∀ r∈rows',∀ s∈r,Low s)) (h4:Gdk L' d (B+10)) (h5:Ex d L L'):spoilt_cover_ok_I rows B L d ps
theorem Qx(hl:ps.length<=60)(hok:∀ p∈ps,Okn p.1)(hlow:∀ p∈ps,Low p.1)(hne:∀ r∈rows,r≠[])(hrl:∀ r∈rows,∀ s∈r,Low s)(hf:rows.flatten.length<=60)(hr:rows.length<=60)(D:Gdk L d B)(hB:B<=90000):spoilt_cover_ok_I rows B L d ps:=by
 obtain ⟨n,rr,M,e0,R,hsnd⟩:=Ajy D (by omega) hrl (δ:=[some (.ref d),some (.tup (ps.map p3U)),some (.tup (rows.map rowU)),none,none,none,none,none]) rfl
 have s1:=C8 (i:=3) e0
 simp only[aR,aS] at s1
 have htot:tot rr<=60:=by rw[Xd,hsnd];exact hf
 have hrr:rr.length<=60:=by
  have:=congrArg jS hsnd
  rw[aI] at this;omega
 have hrne:∀ y∈rr,y.2≠[]:=fun y hy=>hne y.2 (by rw[<- hsnd];exact iL hy)
 obtain ⟨way,M1,e1,w0,w1,D1,x1⟩:=B4 (many:=9) R.D (by omega) (by decide) (by decide)
 have s2:=C8 (i:=4) (Mr (i:=0) (δ:=[some (.ref d),some (.tup (ps.map p3U)),some (.tup (rows.map rowU)),some (.ref n),none,none,none,none]) rfl e1)
 simp only[aR,aS] at s2
 have R1:=R.ex x1 D1
 have t:=Dc (Bd (fa:=Aa 3) (δ:=[some (.ref d),some (.tup (ps.map p3U)),some (.tup (rows.map rowU)),some (.ref n),some (.int way),none,none,none]) rfl (Wt _ M1) (Aiu R1))
 have R2:=R1.grow [HU.lst []]
 by_cases h0:rr=[]
 ·have hb:rr.isEmpty=true:=by rw[h0];rfl
  rw[hb] at t
  obtain ⟨s,M2,e2,ls,D2,x2⟩:=Kq hl hok hlow R2.D (by omega)
  have v0:∀ N,Aa 0 [some (.ref d),some (.tup (ps.map p3U)),some (.tup (rows.map rowU)),some (.ref n),some (.int way),none,none,none] N=some (.ref d,N):=fun N=>rfl
  have el:=Aqg (Age _ (M1++[HU.lst []])) (Ahi (Age _ (M1++[HU.lst []]))) (Ahi (Ahi (Mu (f:=Cc) (i:=0) (j:=1) (δ:=[some (.ref d),some (.tup (ps.map p3U)),some (.tup (rows.map rowU)),some (.ref n),some (.int way),none,none,none]) rfl rfl e2)))
  have hd2:=D2.lt
  have kl:(M2++[HU.lst [.tup [],.tup [.tup []],.tup [.tup [.str s]]]])[M2.length]? = some (.lst [.tup [],.tup [.tup []],.tup [.tup [.str s]]]):=by simp
  obtain ⟨u,M3,e3,hu,D3,x3⟩:=V0 (i:=0) (g:=fC (.int 3)) el kl (by omega) (D2.new _) (by omega) (by show 0 < 3;decide) (by show 3<=10000;decide) rfl (v0 _)
  obtain ⟨rows',hu',hf',hl',hlw⟩:∃ rows':List (List Str),u = .tup (rows'.map rowU)/\rows'.flatten.length<=61/\rows'.length<=61/\∀ r∈rows',∀ s∈r,Low s:=by
   simp only[bH,dE,or_false] at hu
   rcases hu with rfl | rfl | rfl
   ·exact ⟨[],rfl,by simp,by simp,by simp⟩
   ·exact ⟨[[]],rfl,by simp,by simp,by simp⟩
   ·exact ⟨[[s]],rfl,by simp,by simp,fun r hr x hx=>by
     rw[bC.mp hr] at hx
     rw[bC.mp hx];exact ls⟩
  subst hu'
  refine ⟨rows',M3,fnN rfl ?_,hf',hl',hlw,D3.mono (by omega),R2.x.trans (x2.trans ((Ex.new d M2 _).trans x3))⟩
  show Fo [some (.ref d),some (.tup (ps.map p3U)),some (.tup (rows.map rowU)),none,none,none,none,none] L=_
  rw[W8,Aj s1,Aj s2,fSeq_eq,fIfS_eq,t]
  simp only[aA,if_true,Du e3]
 ·have hb:rr.isEmpty=false:=by cases rr with | nil=>exact absurd rfl h0 | cons _ _=>rfl
  rw[hb] at t
  have s3:=Ki (f:=(Cf (f2 Ak (Cu (Ac (C0 Af) (Ac (C0 (Ac (C0 Af) Af)) (Ac (C0 (Ac (C0 (Ac (Ay 2 Cc (Ac (Aa 0) (Ac (Aa 1) Af))) Af)) Af)) Af)))) (Ay 2 Am (Ac (Aa 0) (Ac (fC (.int 3)) Af)))))) t
  have hpos:0 < rr.length:=dW.mpr h0
  have hlen:∀ {N:UH} {B':Int},RA d L N n rr B'->Aw [.ref n] N=some (.int (rr.length:Nat),N):=fun R=>by have:=Fs R.at_;rw[aI] at this;exact this
  obtain ⟨ai,M2,e2,a0,a1,D2,x2⟩:=B4 (many:=(rr.length:Nat)) R2.D (by omega) (by omega) (by omega)
  have s4:=C8 (i:=5) (Kp (fa:=Aa 0) (δ:=[some (.ref d),some (.tup (ps.map p3U)),some (.tup (rows.map rowU)),some (.ref n),some (.int way),none,none,none]) rfl (Cv (fa:=Aa 3) rfl (hlen R2)) e2)
  have R3:=R2.ex x2 D2
  obtain ⟨bi,M3,e3,b0,b1,D3,x3⟩:=B4 (many:=(rr.length:Nat)) R3.D (by omega) (by omega) (by omega)
  have s5:=C8 (i:=6) (Kp (fa:=Aa 0) (δ:=[some (.ref d),some (.tup (ps.map p3U)),some (.tup (rows.map rowU)),some (.ref n),some (.int way),some (.int ai),none,none]) rfl (Cv (fa:=Aa 3) rfl (hlen R3)) e3)
  have R4:=R3.ex x3 D3
  obtain ⟨a,rfl⟩:∃ a:Nat,ai=(a:Int):=⟨ai.toNat,by omega⟩
  obtain ⟨b,rfl⟩:∃ b:Nat,bi=(b:Int):=⟨bi.toNat,by omega⟩
  have ha:rr[a]? = some (rr[a]'(by omega)):=aC (by omega)
  have hbb:rr[b]? = some (rr[b]'(by omega)):=aC (by omega)
  generalize rr[a]'(by omega)=ya at ha
  generalize rr[b]'(by omega)=yb at hbb
  have hma:=aW ha
  have hla:=Mt hma
  obtain ⟨pi,M4,e4,p0,p1,D4,x4⟩:=B4 (many:=(ya.2.length:Int)+1) R4.D (by omega) (by omega) (by omega)
  have i5:=Bd (s:=Ak) (fa:=Aa 3) (fb:=Aa 5) (δ:=[some (.ref d),some (.tup (ps.map p3U)),some (.tup (rows.map rowU)),some (.ref n),some (.int way),some (.int (a:Nat)),some (.int (b:Nat)),none]) rfl rfl (R4.ix ha)
  have hl5:=Cv (s:=Aw) i5 (Fs (R4.row ya hma))
  rw[aI] at hl5
  have s6:=C8 (i:=7) (Kp (fa:=Aa 0) rfl (Bd (s:=Bq) (fb:=fC (.int 1)) hl5 rfl rfl) e4)
  simp only[aR,aS] at s4 s5 s6
  obtain ⟨p,rfl⟩:∃ p:Nat,pi=(p:Int):=⟨pi.toNat,by omega⟩
  have R5:=R4.ex x4 D4
  obtain ⟨way,rfl⟩:∃ w:Nat,way=(w:Int):=⟨way.toNat,by omega⟩
  have hway:way=0\/way=1\/way=2\/way=3\/way=4\/way=5\/way=6\/way=7\/way=8:=by omega
  have sk:∀ (j:Nat) (x:FS),j≠way->[cv0,cv1,cv2,cv3,cv4,cv5,cv6,cv7,cv8][j]? = some x->∀ N,x (cvδ d n a b p (way:Nat) (.tup (ps.map p3U)) (.tup (rows.map rowU))) N=some (.nx (cvδ d n a b p (way:Nat) (.tup (ps.map p3U)) (.tup (rows.map rowU))),N):=by
   intro j x hj hx N
   have hn:((way:Nat):Int)≠(j:Nat):=fun z=>hj (pO z).symm
   rcases j with _ | _ | _ | _ | _ | _ | _ | _ | _ | j
   ·cases hx;exact skip (i:=4) rfl hn
   ·cases hx;exact skip (i:=4) rfl hn
   ·cases hx;exact skip (i:=4) rfl hn
   ·cases hx;exact skip (i:=4) rfl hn
   ·cases hx;exact skip (i:=4) rfl hn
   ·cases hx;exact skip (i:=4) rfl hn
   ·cases hx;exact skip (i:=4) rfl hn
   ·cases hx;exact skip (i:=4) rfl hn
   ·cases hx;exact Abn (i:=4) rfl hn
   ·cases hx
  obtain ⟨rr',M',c,hc,e,F,ht,hll⟩:∃ (rr':List Rr2) (M':UH) (c:FS),[cv0,cv1,cv2,cv3,cv4,cv5,cv6,cv7,cv8][way]? = some c/\c (cvδ d n a b p (way:Nat) (.tup (ps.map p3U)) (.tup (rows.map rowU))) M4=some (.nx (cvδ d n a b p (way:Nat) (.tup (ps.map p3U)) (.tup (rows.map rowU))),M')/\FA d L M' n rr' (B+1+1+1+1+3)/\tot rr'<=tot rr+1/\rr'.length<=rr.length+1:=by
   rcases hway with rfl | rfl | rfl | rfl | rfl | rfl | rfl | rfl | rfl
   ·obtain ⟨rr',M',e,F,ht,hll⟩:=Ams (a:=a) (b:=b) (p:=p) R5 ha (by omega) (.tup (ps.map p3U)) (.tup (rows.map rowU))
    exact ⟨rr',M',_,rfl,e,F,ht,hll⟩
   ·obtain ⟨rr',M',e,F,ht,hll⟩:=Am5 (a:=a) (b:=b) (p:=p) R5 (by omega) ha hbb (hrne _ hma) (by omega) (.tup (ps.map p3U)) (.tup (rows.map rowU))
    exact ⟨rr',M',_,rfl,e,F,ht,hll⟩
   ·obtain ⟨rr',M',e,F,ht,hll⟩:=Amr (a:=a) (b:=b) (p:=p) hl hok hlow R5 (by omega) ha (hrne _ hma) (.tup (rows.map rowU))
    exact ⟨rr',M',_,rfl,e,F,ht,hll⟩
   ·obtain ⟨rr',M',e,F,ht,hll⟩:=Ano (a:=a) (b:=b) (p:=p) hl hok hlow R5 (by omega) ha (by omega) (by omega) (.tup (rows.map rowU))
    exact ⟨rr',M',_,rfl,e,F,ht,hll⟩
   ·obtain ⟨rr',M',e,F,ht,hll⟩:=Ald (a:=a) (b:=b) (p:=p) R5 ha hbb (hrne _ hma) (by omega) (.tup (ps.map p3U)) (.tup (rows.map rowU))
    exact ⟨rr',M',_,rfl,e,F,ht,hll⟩
   ·obtain ⟨rr',M',e,F,ht,hll⟩:=Amm (a:=a) (b:=b) (p:=p) R5 ha (by omega) (.tup (ps.map p3U)) (.tup (rows.map rowU))
    exact ⟨rr',M',_,rfl,e,F,ht,hll⟩
   ·obtain ⟨rr',M',e,F,ht,hll⟩:=Alj (a:=a) (b:=b) (p:=p) R5 ha (.tup (ps.map p3U)) (.tup (rows.map rowU))
    exact ⟨rr',M',_,rfl,e,F,ht,hll⟩
   ·obtain ⟨rr',M',e,F,ht,hll⟩:=An4 (a:=a) (b:=b) (p:=p) R5 (by omega) (by omega) (.tup (ps.map p3U)) (.tup (rows.map rowU))
    exact ⟨rr',M',_,rfl,e,F,ht,hll⟩
   ·obtain ⟨rr',M',e,F,ht,hll⟩:=Alh (a:=a) (b:=b) (p:=p) R5 ha hbb (by omega) (by omega) (.tup (ps.map p3U)) (.tup (rows.map rowU))
    exact ⟨rr',M',_,rfl,e,F,ht,hll⟩
  have e:Ae1 (Cf (Ap Bj (Ac (Bu [none] (Bb (Aa 3)) (gN 0) none Cy) Af))) [cv0,cv1,cv2,cv3,cv4,cv5,cv6,cv7,cv8] (cvδ d n a b p (way:Nat) (.tup (ps.map p3U)) (.tup (rows.map rowU))) M4=(Cf (Ap Bj (Ac (Bu [none] (Bb (Aa 3)) (gN 0) none Cy) Af))) (cvδ d n a b p (way:Nat) (.tup (ps.map p3U)) (.tup (rows.map rowU))) M':=Aky (fun j x hj hx=>⟨sk j x hj hx _,sk j x hj hx _⟩) hc e
  obtain ⟨M6,e6,g6⟩:=Afx F (by omega) (δ:=cvδ d n a b p (way:Nat) (.tup (ps.map p3U)) (.tup (rows.map rowU))) rfl
  refine ⟨rr'.map cK,M6,fnN rfl ?_,by rw[<- Xd];omega,by rw[aI];omega,fun r hr=>by obtain ⟨y,hy,rfl⟩:=bJ.mp hr;exact F.low y hy,(F.D.gw g6).mono (by omega),F.x.trans (g6.ex d)⟩
  show Fo [some (.ref d),some (.tup (ps.map p3U)),some (.tup (rows.map rowU)),none,none,none,none,none] L=_
  rw[W8,Aj s1,Aj s2,Aj s3,Aj s4,Aj s5,Aj s6]
  exact e.trans e6
end
noncomputable def Iz(cs:List (List En)):List (List Str):=cs.map fun ch=>ch.map fun e=>e.1.1
theorem Adq(cs:List (List En)):Ann cs = .tup ((Iz cs).map rowU):=by
 unfold Ann Iz
 rw[cE]
 congr 1
 refine jD fun ch _=>?_
 unfold chU rowU
 show U.tup _=U.tup ((ch.map fun e=>e.1.1).map U.str)
 rw[cE]
 rfl
theorem Ul(cs:List (List En)):(Iz cs).flatten=(cs.flatten.map (·.1)).map (·.1):=by
 unfold Iz
 rw[<- List.map_flatten,cE]
 rfl
theorem Yy(ps:List P3):Aae ps=rowU (ps.map (·.1)):=by
 unfold Aae rowU;rw[Aev]
structure Pr(ps:List P3)(rows:List (List Str))(W:List Str):Prop where
 ne:∀ r∈rows,r≠[]
 low:∀ r∈rows,∀ s∈r,Low s
 fl:rows.flatten.length<=60
 len:rows.length<=60
 wl:W.length<=60
 wlow:∀ s∈W,Low s
theorem Ajw:Rt=Ar (Av (Ay 1 Kz (Ac (Aa 1) Af)) (gN 2)) (Ar (Av (Ay 1 Jh (Ac (Aa 1) Af)) (gN 3)) (Ar (Av (Ay 2 Am (Ac (Aa 0) (Ac (fC (.int 6)) Af))) (gN 4)) (Ar (B8 (Ax (f2 A8 (Aa 4) (fC (.int 0)))) (Av (Ap Bj (Ac (Bu [none] (Bb (Aa 1)) (gN 0) none Jx) Af)) (gN 2)) Bl) (Ar (B8 (Jp (Ax (f2 A8 (Aa 4) (fC (.int 1)))) (Ax (f2 B2 (Aa 1) (C0 Af)))) (Ar (Av (Ay 1 E4 (Ac (Aa 1) Af)) (gN 5)) (Av (f2 Ak (Aa 5) (Ay 2 Am (Ac (Aa 0) (Ac (Ap Aw (Ac (Aa 5) Af)) Af)))) (gN 3))) Bl) (Cf (Cu (Ac (Aa 2) (Ac (Aa 3) Af)))))))):=rfl
section
theorem Aje(hl:ps.length<=60)(hn:(ps.map (·.1)).Nodup)(hlow:∀ p∈ps,Low p.1)(D:Gdk L d B)(hB:B<=90000) :
  ∃ (r:Nat) (rows:List (List Str)) (W:List Str) (L':UH),Mv [.ref d,.tup (ps.map p3U)] L=some (.ref r,L')/\L'[r]? = some (.lst [.tup (rows.map rowU),rowU W])/\Pr ps rows W/\Gdk L' d (B+2)/\Ex d L L':=by
 have hnp:ps.Nodup:=iZ.mpr ((iI.mp (iZ.mp hn)).imp fun h e=>h (by rw[e]))
 obtain ⟨L1,e1,g1⟩:=Ag0 hl hnp L
 obtain ⟨L2,e2,g2⟩:=Af4 hl hnp L1
 have A:=Jt (srt ps) (Vv ps) ((Gy ps).nodup_iff.mpr hnp)
 have hperm:=A.perm.trans (Gy ps)
 have hne:∀ r∈Iz (Dz (srt ps)),r≠[]:=fun r hr=>by
  obtain ⟨ch,hch,rfl⟩:=bJ.mp hr
  intro h
  exact A.ne ch hch (List.map_eq_nil_iff.mp h)
 have hfl:(Iz (Dz (srt ps))).flatten.length<=60:=by
  rw[Ul,aI,hperm.length_eq];exact hl
 have hrl:∀ r∈Iz (Dz (srt ps)),∀ s∈r,Low s:=fun r hr s hs=>by
  have:s∈(Iz (Dz (srt ps))).flatten:=nR.mpr ⟨r,hr,hs⟩
  rw[Ul] at this
  obtain ⟨q,hq,rfl⟩:=bJ.mp this
  exact hlow q (hperm.mem_iff.mp hq)
 have hlen:(Iz (Dz (srt ps))).length<=60:=by
  have:=A.lens.1
  rw[(Gy ps).length_eq] at this
  unfold Iz;rw[aI];omega
 have hwl:((ps.filter (inC (topC (Dz (srt ps))))).map (·.1)).length<=60:=by
  rw[aI];exact cJ (fX _ _) hl
 have hwlow:∀ s∈(ps.filter (inC (topC (Dz (srt ps))))).map (·.1),Low s:=fun s hs=>by
  obtain ⟨p,hp,rfl⟩:=bJ.mp hs
  exact hlow p (eT.mp hp).1
 rw[Adq] at e1
 rw[Yy] at e2
 generalize Iz (Dz (srt ps))=rows at e1 hne hfl hrl hlen
 generalize (ps.filter (inC (topC (Dz (srt ps))))).map (·.1)=W at e2 hwl hwlow
 generalize hP:U.tup (ps.map p3U)=P at e1 e2
 have s1:=C8 (i:=2) (Nw (i:=1) (δ:=[some (.ref d),some P,none,none,none,none]) rfl e1)
 have s2:=C8 (i:=3) (Nw (i:=1) (δ:=[some (.ref d),some P,some (.tup (rows.map rowU)),none,none,none]) rfl e2)
 have D2:=(D.gw g1).gw g2
 obtain ⟨way,L3,e3,w0,w1,D3,x3⟩:=B4 (many:=6) D2 (by omega) (by decide) (by decide)
 have s3:=C8 (i:=4) (Mr (i:=0) (δ:=[some (.ref d),some P,some (.tup (rows.map rowU)),some (rowU W),none,none]) rfl e3)
 simp only[aR,aS] at s1 s2 s3
 have x3':Ex d L L3:=((g1.trans g2).ex d).trans x3
 obtain ⟨rows4,L4,s4,P4,g4⟩:∃ (rows4:List (List Str)) (L4:UH),(B8 (Ax (f2 A8 (Aa 4) (fC (.int 0)))) (Av (Ap Bj (Ac (Bu [none] (Bb (Aa 1)) (gN 0) none Jx) Af)) (gN 2)) Bl) [some (.ref d),some P,some (.tup (rows.map rowU)),some (rowU W),some (.int way),none] L3=some (.nx [some (.ref d),some P,some (.tup (rows4.map rowU)),some (rowU W),some (.int way),none],L4)/\Pr ps rows4 W/\Gw L3 L4:=by
  by_cases hw:way=0
  ·subst hw
   obtain ⟨L',e,g⟩:=SN.comp_all (ix:=[none]) (fi:=Bb (Aa 1)) (it:=.seq (ps.map p3U)) (fe:=Jx) (δ:=[some (.ref d),some P,some (.tup (rows.map rowU)),some (rowU W),some (.int 0),none]) (L:=L3) (L0:=L3) ps p3U (fun p=>rowU [p.1]) [] rfl (by rw[<- hP];rfl) (by simp[IU.size]) (by omega) (fun k x=>rfl) (fun p x _=>⟨[],by rw[aU];exact Ahi rfl⟩)
   have hm:ps.map (fun p=>rowU [p.1])=(ps.map fun p=>[p.1]).map rowU:=by rw[cE];rfl
   rw[hm] at e
   have s:=C8 (i:=2) (Cv e (SN.tuple_of (us:=(ps.map fun p=>[p.1]).map rowU) (by simp)))
   refine ⟨ps.map (fun p:P3=>[p.1]),_,(P2 (i:=4) rfl).trans s,⟨fun r hr=>?_,fun r hr s hs=>?_,?_,by rw[aI];exact hl,hwl,hwlow⟩,g.trans (Gw.new _ _)⟩
   ·obtain ⟨p,_,rfl⟩:=bJ.mp hr;simp
   ·obtain ⟨p,hp,rfl⟩:=bJ.mp hr
    rw[bC.mp hs];exact hlow p hp
   ·have:∀ l:List P3,(l.map fun p=>[p.1]).flatten.length=l.length:=fun l=>by
     induction l with
     | nil=>rfl
     | cons a l ih=>simp only[aL,dN,bB,ih,aY,cB];omega
    rw[this];exact hl
  ·exact ⟨rows,L3,skip (i:=4) rfl hw,⟨hne,hrl,hfl,hlen,hwl,hwlow⟩,Gw.refl _⟩
 have D4:=D3.gw g4
 have x4':=x3'.trans (g4.ex d)
 obtain ⟨W5,y5,L5,s5,P5,D5,x5⟩:∃ (W5:List Str) (y5:Option U) (L5:UH),(B8 (Jp (Ax (f2 A8 (Aa 4) (fC (.int 1)))) (Ax (f2 B2 (Aa 1) (C0 Af)))) (Ar (Av (Ay 1 E4 (Ac (Aa 1) Af)) (gN 5)) (Av (f2 Ak (Aa 5) (Ay 2 Am (Ac (Aa 0) (Ac (Ap Aw (Ac (Aa 5) Af)) Af)))) (gN 3))) Bl) [some (.ref d),some P,some (.tup (rows4.map rowU)),some (rowU W),some (.int way),none] L4=some (.nx [some (.ref d),some P,some (.tup (rows4.map rowU)),some (rowU W5),some (.int way),y5],L5)/\Pr ps rows4 W5/\Gdk L5 d (B+2)/\Ex d L L5:=by
  by_cases hw:way=1
  ·subst hw
   have tt:Ax (f2 B2 (Aa 1) (C0 Af)) [some (.ref d),some P,some (.tup (rows4.map rowU)),some (rowU W),some (.int 1),none] L4=some (!ps.isEmpty,L4):=Dc (Bd (by rw[<- hP];rfl) (Age _ L4) (Ro hlow L4))
   have hd:=Ww (i:=4) (c:=1) (δ:=[some (.ref d),some P,some (.tup (rows4.map rowU)),some (rowU W),some (.int 1),none]) (f:=(Ar (Av (Ay 1 E4 (Ac (Aa 1) Af)) (gN 5)) (Av (f2 Ak (Aa 5) (Ay 2 Am (Ac (Aa 0) (Ac (Ap Aw (Ac (Aa 5) Af)) Af)))) (gN 3)))) rfl tt
   by_cases h0:ps=[]
   ·rw[if_neg (by rw[h0];decide)] at hd
    exact ⟨W,none,L4,hd,P4,D4.mono (by omega),x4'⟩
   ·rw[if_pos (by cases ps with | nil=>exact absurd rfl h0 | cons _ _=>rfl)] at hd
    obtain ⟨sts,L6,e6,g6,hsl,hs0,hsm⟩:=Ai9 hl L4
    rw[hP] at e6
    have s6:=C8 (i:=5) (Nw (i:=1) (δ:=[some (.ref d),some P,some (.tup (rows4.map rowU)),some (rowU W),some (.int 1),none]) rfl e6)
    simp only[aR,aS] at s6
    have hpos:0 < sts.length:=dW.mpr (hs0 h0)
    obtain ⟨j,L7,e7,j0,j1,D7,x7⟩:=B4 (many:=(sts.length:Nat)) (D4.gw g6) (by omega) (by omega) (by omega)
    have hj:j.toNat < sts.length:=by omega
    have hlen7:Aw [.tup (sts.map rowU)] L6=some (.int (sts.length:Nat),L6):=by
     show some (U.int ((sts.map rowU).length:Nat),L6)=_
     rw[aI]
    have hix:Ak (.tup (sts.map rowU)) (.int j) L7=some (rowU (sts[j.toNat]),L7):=by
     rw[Qa,Je j0 (by rw[aI];omega),bA,aC hj];rfl
    have s7:=C8 (i:=3) (Bd (fa:=Aa 5) (δ:=[some (.ref d),some P,some (.tup (rows4.map rowU)),some (rowU W),some (.int 1),some (.tup (sts.map rowU))]) rfl (Kp (fa:=Aa 0) rfl (Cv (fa:=Aa 5) rfl hlen7) e7) hix)
    obtain ⟨h1,h2⟩:=hsm _ (cN hj)
    refine ⟨sts[j.toNat],_,L7,hd.trans ((Aj s6).trans s7),⟨P4.ne,P4.low,P4.fl,P4.len,h1,fun s hs=>?_⟩,D7.mono (by omega),x4'.trans ((g6.ex d).trans x7)⟩
    obtain ⟨p,hp,rfl⟩:=bJ.mp (h2 s hs)
    exact hlow p hp
  ·exact ⟨W,none,L4,Abn (i:=4) rfl hw,P4,D4.mono (by omega),x4'⟩
 have el:(Cu (Ac (Aa 2) (Ac (Aa 3) Af))) [some (.ref d),some P,some (.tup (rows4.map rowU)),some (rowU W5),some (.int way),y5] L5=some (.ref L5.length,L5++[.lst [.tup (rows4.map rowU),rowU W5]]):=by
  have v2:Aa 2 [some (.ref d),some P,some (.tup (rows4.map rowU)),some (rowU W5),some (.int way),y5] L5=some (.tup (rows4.map rowU),L5):=rfl
  have v3:Aa 3 [some (.ref d),some P,some (.tup (rows4.map rowU)),some (rowU W5),some (.int way),y5] L5=some (rowU W5,L5):=rfl
  rw[fLst_eq,fCons_eq,v2,aA,fCons_eq,v3]
  simp only[aA,fNil_eq,aF]
  rw[if_pos (small_of (by show 2<=16777216;decide))]
 refine ⟨L5.length,rows4,W5,L5++[.lst [.tup (rows4.map rowU),rowU W5]],fnN rfl ?_,by simp,P5,D5.new _,x5.trans (Ex.new d L5 _)⟩
 show Rt [some (.ref d),some P,none,none,none,none] L=_
 rw[Ajw,Aj s1,Aj s2,Aj s3,Aj s4,Aj s5]
 exact Du el
theorem Aet{rows:List (List Str)}(hl:ps.length<=60)(hn:(ps.map (·.1)).Nodup)(hlow:∀ p∈ps,Low p.1)(hr:rows.flatten.length < 64)(hrn:rows.length<=1000)(hrl:∀ r∈rows,∀ s∈r,Low s)(hw:W.length<=100)(hwl:∀ s∈W,Low s)(x0 x1 x2 x4 x5 x6 x7 x10 x11:Option U)(L:UH) :
  ∃ (y10 y11:Option U) (L':UH),Rh [x0,x1,x2,some (.tup (ps.map p3U)),x4,x5,x6,x7,some (.tup (rows.map rowU)),some (rowU W),x10,x11] L=some (.nx [x0,x1,x2,some (.tup (ps.map p3U)),x4,x5,x6,x7,some (.tup (rows.map rowU)),some (rowU W),y10,y11],L')/\Gw L L':=by
 have hrf:∀ s∈rows.flatten,Low s:=fun s hs=>by
  obtain ⟨r,hr,h⟩:=nR.mp hs
  exact hrl r hr s h
 obtain ⟨L1,e1,g1⟩:=T8 hl hn hlow hr hrf L
 obtain ⟨L2,e2,g2⟩:=Tx hl hn hw hwl L1
 generalize hP:U.tup (ps.map p3U)=P at e1 e2
 generalize hδ:([x0,x1,x2,some P,x4,x5,x6,x7,some (.tup (rows.map rowU)),some (rowU W),x10,x11]:UE) = δ
 have v3:∀ M,Aa 3 δ M=some (P,M):=fun M=>by rw[<- hδ];rfl
 have v8:∀ M,Aa 8 δ M=some (.tup (rows.map rowU),M):=fun M=>by rw[<- hδ];rfl
 have v9:∀ M,Aa 9 δ M=some (rowU W,M):=fun M=>by rw[<- hδ];rfl
 have c1:=Mu (v3 _) (v8 _) e1
 have c2:=Mu (v3 _) (v9 _) e2
 have c3:∀ M,(f2 A8 (Ap Aw (Ac (Aa 8) Af)) (Ap Aw (Ac (Aa 9) Af))) δ M=some (.bl (((rows.length:Nat):Int) == ((W.length:Nat):Int)),M):=fun M=>Bd (Cv (v8 M) (Xk rows _)) (Cv (v9 M) (Wh W _)) rfl
 obtain ⟨L3,hdue,g3⟩:∃ L3,(Hc (Ay 2 G6 (Ac (Aa 3) (Ac (Aa 8) Af))) (Hc (Ay 2 Gz (Ac (Aa 3) (Ac (Aa 9) Af))) (f2 A8 (Ap Aw (Ac (Aa 8) Af)) (Ap Aw (Ac (Aa 9) Af))))) δ L=some (.bl ((((rows.length:Nat):Int) == ((W.length:Nat):Int))&&(Fv ps rows&&G0 ps W)),L3)/\Gw L L3:=by
  cases hc:Fv ps rows with
  | false=>
   rw[hc] at c1
   exact ⟨L1,by rw[(Il c1).1 rfl];simp,g1⟩
  | true=>
   rw[hc] at c1
   cases hd:G0 ps W with
   | false=>
    rw[hd] at c2
    exact ⟨L2,by rw[(Il c1).2 rfl,(Il c2).1 rfl];simp,g1.trans g2⟩
   | true=>
    rw[hd] at c2
    exact ⟨L2,by rw[(Il c1).2 rfl,(Il c2).2 rfl,c3];simp,g1.trans g2⟩
 obtain ⟨L4,e4,g4⟩:=S8 hl hn hlow hr hrn hrf W L3
 rw[hP] at e4
 generalize ((((rows.length:Nat):Int) == ((W.length:Nat):Int))&&(Fv ps rows&&G0 ps W))=bb at hdue e4
 have s1:=C8 (i:=10) hdue
 have hδ2:δ.set 10 (some (.bl bb))=[x0,x1,x2,some P,x4,x5,x6,x7,some (.tup (rows.map rowU)),some (rowU W),some (.bl bb),x11]:=by rw[<- hδ];rfl
 rw[hδ2] at s1
 have s2:=C8 (i:=11) (Ak3 (fa:=Aa 3) (fb:=Aa 8) (fc:=Aa 9) (δ:=[x0,x1,x2,some P,x4,x5,x6,x7,some (.tup (rows.map rowU)),some (rowU W),some (.bl bb),x11]) rfl rfl rfl e4)
 simp only[aR,aS] at s2
 have t1:(X3 (Ny (Aj1 "bool" (Aa 11)))) [x0,x1,x2,some P,x4,x5,x6,x7,some (.tup (rows.map rowU)),some (rowU W),some (.bl bb),some (.bl bb)] L4=some (false,L4):=rfl
 have t2:(Ax (f2 B2 (Aa 11) (Aa 10))) [x0,x1,x2,some P,x4,x5,x6,x7,some (.tup (rows.map rowU)),some (rowU W),some (.bl bb),some (.bl bb)] L4=some (false,L4):=Dc (Bd rfl rfl (by rw[Aez];simp))
 refine ⟨some (.bl bb),some (.bl bb),L4,?_,g3.trans g4⟩
 unfold Rh
 rw[Aj s1,Aj s2]
 exact Ki (Ahu t1 t2)
theorem Ap1{j:Int}(h0:0<=j)(h1:j < 5):∃ m:Nat,L2.atI [U.int 9,.int 9,.int 9,.int 30,.int 60] j=some (.int (m:Int))/\m<=60:=by
 have:j=0\/j=1\/j=2\/j=3\/j=4:=by omega
 rcases this with rfl | rfl | rfl | rfl | rfl
 ·exact ⟨9,rfl,by decide⟩
 ·exact ⟨9,rfl,by decide⟩
 ·exact ⟨9,rfl,by decide⟩
 ·exact ⟨30,rfl,by decide⟩
 ·exact ⟨60,rfl,by decide⟩
theorem Abo(h:Aa i δ L=some (u,L))(h2:Aa j δ L=some (v,L)):(C0 (Ac (Aa i) (Ac (Aa j) Af))) δ L=some (.tup [u,v],L):=Ame h h2
inductive turn29_I(B:Int)(L:UH)(d:Nat)(x0:Option U)(x2:Option U)(x3:Option U)(x4:Option U)(x5:Option U)(x6:Option U)(x7:Option U)(x8:Option U)(x9:Option U)(x10:Option U)(x11:Option U):Prop
 | mk (y3 y4 y5 y6 y7 y8 y9 y10 y11:Option U) (L':UH) (h0:Rj [x0,some (.ref d),x2,x3,x4,x5,x6,x7,x8,x9,x10,x11] L=some (.nx [x0,some (.ref d),x2,y3,y4,y5,y6,y7,y8,y9,y10,y11],L')) (h1:Gdk L' d (B+1100)):turn29_I B L d x0 x2 x3 x4 x5 x6 x7 x8 x9 x10 x11
theorem Ak7(D:Gdk L d B)(hB:B<=50000)(x0 x2 x3 x4 x5 x6 x7 x8 x9 x10 x11:Option U):turn29_I B L d x0 x2 x3 x4 x5 x6 x7 x8 x9 x10 x11:=by
 have hdl:=D.lt
 obtain ⟨j,L1,e1,j0,j1,D1,x1⟩:=B4 (many:=5) (D.new [HU.lst [.int 9,.int 9,.int 9,.int 30,.int 60]]) (by omega) (by decide) (by decide)
 obtain ⟨m,hm,hm60⟩:=Ap1 j0 j1
 have q1:A7 L1 L.length=some [.int 9,.int 9,.int 9,.int 30,.int 60]:=Al (x1.get (by simp) (by omega))
 have hix:=Bd (s:=Ak) (Aot (fa:=fC (.int 9)) (fb:=fC (.int 9)) (fc:=fC (.int 9)) (fd:=fC (.int 30)) (fe:=fC (.int 60)) (δ:=[x0,some (.ref d),x2,x3,x4,x5,x6,x7,x8,x9,x10,x11]) (L:=L) rfl rfl rfl rfl rfl) (Mr (f:=Am) (i:=1) rfl e1) (w:=.int (m:Int)) (L3:=L1) (by rw[semIx_ref,q1,aA,hm];rfl)
 obtain ⟨ps,L2,e2,hlm,hn,hok,hlow,D2,x2'⟩:=Ad4 D1 (by omega) hm60
 have hl:ps.length<=60:=by omega
 have s1:=C8 (i:=3) (Kp (fa:=Aa 1) rfl hix e2)
 obtain ⟨r,rows,W,L3,e3,hr,P3',D3,x3'⟩:=Aje hl hn hlow D2 (by omega)
 obtain ⟨rows',L4,e4,f4,l4,w4,D4,x4'⟩:=Qx hl hok hlow P3'.ne P3'.low P3'.fl P3'.len D3 (by omega)
 obtain ⟨W',L5,e5,l5,w5,D5,x5'⟩:=Q2 hl hok hlow P3'.wl P3'.wlow D4 (by omega)
 have s2:(Av (Ay 2 Mv (Ac (Aa 1) (Ac (Aa 3) Af))) (Um 2 (MR.gCons (gN 4) (MR.gCons (gN 5) MR.gNil)))) [x0,some (.ref d),x2,some (.tup (ps.map p3U)),x4,x5,x6,x7,x8,x9,x10,x11] L2=some (.nx [x0,some (.ref d),x2,some (.tup (ps.map p3U)),some (.tup (rows.map rowU)),some (rowU W),x6,x7,x8,x9,x10,x11],L3):=by
  have ho:=Mu (f:=Mv) (i:=1) (j:=3) (δ:=[x0,some (.ref d),x2,some (.tup (ps.map p3U)),x4,x5,x6,x7,x8,x9,x10,x11]) rfl rfl e3
  rw[fAsg_eq,ho,aA]
  unfold Um
  simp only[Al hr,aA,aY,cB,if_true,Ag6,gN_eq,Aid,aF,aR,aS]
 have s3:=C8 (i:=6) (Ak3 (f:=Fb) (fa:=Aa 1) (fb:=Aa 3) (fc:=Aa 4) (δ:=[x0,some (.ref d),x2,some (.tup (ps.map p3U)),some (.tup (rows.map rowU)),some (rowU W),x6,x7,x8,x9,x10,x11]) rfl rfl rfl e4)
 have s4:=C8 (i:=7) (Ak3 (f:=Fd) (fa:=Aa 1) (fb:=Aa 3) (fc:=Aa 5) (δ:=[x0,some (.ref d),x2,some (.tup (ps.map p3U)),some (.tup (rows.map rowU)),some (rowU W),some (.tup (rows'.map rowU)),x7,x8,x9,x10,x11]) rfl rfl rfl e5)
 simp only[aR,aS] at s1 s3 s4
 have hsm4:∀ a b c e:U,Dy [a,b,c,e].length=true:=fun _ _ _ _=>small_of (by show 4<=16777216;decide)
 obtain ⟨prs,hprs⟩:∃ prs:List (List (List Str)×List Str),prs=[(rows,W),(rows',W),(rows,W'),(rows',W')]:=⟨_,rfl⟩
 have hpr:∀ q∈prs,q.1.flatten.length < 64/\q.1.length<=1000/\(∀ r∈q.1,∀ s∈r,Low s)/\q.2.length<=100/\∀ s∈q.2,Low s:=fun q hq=>by
  have h1:=P3'.fl
  have h2:=P3'.len
  have h3:=P3'.wl
  rw[hprs] at hq
  simp only[bH,dE,or_false] at hq
  rcases hq with rfl | rfl | rfl | rfl
  ·exact ⟨jR h1 (by decide),cJ h2 (by decide),P3'.low,cJ h3 (by decide),P3'.wlow⟩
  ·exact ⟨jR f4 (by decide),cJ l4 (by decide),w4,cJ h3 (by decide),P3'.wlow⟩
  ·exact ⟨jR h1 (by decide),cJ h2 (by decide),P3'.low,cJ l5 (by decide),w5⟩
  ·exact ⟨jR f4 (by decide),cJ l4 (by decide),w4,cJ l5 (by decide),w5⟩
 have el:(Cu (Ac (C0 (Ac (Aa 4) (Ac (Aa 5) Af))) (Ac (C0 (Ac (Aa 6) (Ac (Aa 5) Af))) (Ac (C0 (Ac (Aa 4) (Ac (Aa 7) Af))) (Ac (C0 (Ac (Aa 6) (Ac (Aa 7) Af))) Af))))) [x0,some (.ref d),x2,some (.tup (ps.map p3U)),some (.tup (rows.map rowU)),some (rowU W),some (.tup (rows'.map rowU)),some (rowU W'),x8,x9,x10,x11] L5=some (.ref L5.length,L5++[.lst (prs.map fun q=>U.tup [.tup (q.1.map rowU),rowU q.2])]):=by
  generalize hδ:([x0,some (.ref d),x2,some (.tup (ps.map p3U)),some (.tup (rows.map rowU)),some (rowU W),some (.tup (rows'.map rowU)),some (rowU W'),x8,x9,x10,x11]:UE) = δ
  have v4:Aa 4 δ L5=some (.tup (rows.map rowU),L5):=by rw[<- hδ];rfl
  have v5:Aa 5 δ L5=some (rowU W,L5):=by rw[<- hδ];rfl
  have v6:Aa 6 δ L5=some (.tup (rows'.map rowU),L5):=by rw[<- hδ];rfl
  have v7:Aa 7 δ L5=some (rowU W',L5):=by rw[<- hδ];rfl
  rw[fLst_eq,fCons_eq,Abo v4 v5,aA,fCons_eq,Abo v6 v5,aA,fCons_eq,Abo v4 v7,aA,fCons_eq,Abo v6 v7]
  simp only[aA,fNil_eq,aF]
  rw[if_pos (hsm4 _ _ _ _),hprs];rfl
 have k6:(L5++[HU.lst (prs.map fun q=>U.tup [.tup (q.1.map rowU),rowU q.2])])[L5.length]? = some (.lst (prs.map fun q=>U.tup [.tup (q.1.map rowU),rowU q.2])):=by simp
 have D6:=D5.new [HU.lst (prs.map fun q=>U.tup [.tup (q.1.map rowU),rowU q.2])]
 generalize hL6:L5++[HU.lst (prs.map fun q=>U.tup [.tup (q.1.map rowU),rowU q.2])]=L6 at el k6 D6
 have hi:Bb (Cu (Ac (C0 (Ac (Aa 4) (Ac (Aa 5) Af))) (Ac (C0 (Ac (Aa 6) (Ac (Aa 5) Af))) (Ac (C0 (Ac (Aa 4) (Ac (Aa 7) Af))) (Ac (C0 (Ac (Aa 6) (Ac (Aa 7) Af))) Af))))) [x0,some (.ref d),x2,some (.tup (ps.map p3U)),some (.tup (rows.map rowU)),some (rowU W),some (.tup (rows'.map rowU)),some (rowU W'),x8,x9,x10,x11] L5=some (.ref L5.length,L6):=by
  rw[Dq,el,aA,Dg (Al k6)];rfl
 obtain ⟨δ',L7,e7,y8,y9,y10,y11,hδ',g7⟩:=Q6 (us:=prs.map fun q=>U.tup [.tup (q.1.map rowU),rowU q.2]) (body:=Rh) (g:=(MR.gTup 2 (MR.gCons (gN 8) (MR.gCons (gN 9) MR.gNil))))
  (fun k δ' M=>∃ y8 y9 y10 y11:Option U,δ'=[x0,some (.ref d),x2,some (.tup (ps.map p3U)),some (.tup (rows.map rowU)),some (rowU W),some (.tup (rows'.map rowU)),some (rowU W'),y8,y9,y10,y11]/\Gw L6 M)
  hi ⟨_,_,_,_,rfl,Gw.refl _⟩
  (fun k δ M zz=>by obtain ⟨_,_,_,_,_,g⟩:=zz;exact Al (g.get k6))
  (fun k u δ M hu zz=>by
   obtain ⟨y8,y9,y10,y11,hδ,g⟩:=zz
   subst hδ
   rw[bA] at hu
   obtain ⟨q,hq,rfl⟩:=aH.mp hu
   obtain ⟨h1,h2,h3,h4,h5⟩:=hpr q (aW hq)
   obtain ⟨z10,z11,M',e,g'⟩:=Aet hl hn hlow h1 h2 h3 h4 h5 x0 (some (.ref d)) x2 (some (.tup (rows.map rowU))) (some (rowU W)) (some (.tup (rows'.map rowU))) (some (rowU W')) y10 y11 M
   exact ⟨_,M,rfl,_,M',.inl e,_,_,_,_,rfl,g.trans g'⟩)
 subst hδ'
 refine ⟨some (.tup (ps.map p3U)),some (.tup (rows.map rowU)),some (rowU W),some (.tup (rows'.map rowU)),some (rowU W'),y8,y9,y10,y11,L7,?_,(D6.gw g7).mono (by omega)⟩
 unfold Rj
 rw[Aj s1,Aj s2,Aj s3,Aj s4]
 exact e7
end
theorem Agx(ns:List Int)(hl:ns.length<=63)(hb:∀ n∈ns,dH n<=2 ^ 20):∃ L',Acl [.ref 0] [.ro (ns.map U.int)]=some (.bl true,L'):=by
 have h20:(2:Nat) ^ 20<=1048576:=by decide
 obtain ⟨d,L1,e1,D1,_⟩:=Adt ns [.ro (ns.map U.int)] 0 rfl hl h20 (fun c hc=>Aj8 (hb c hc))
 have s1:=C8 (i:=1) (Nw (i:=0) (δ:=[some (.ref 0),none,none,none,none,none,none,none,none,none,none,none]) rfl e1)
 simp only[aR,aS] at s1
 obtain ⟨δ2,K2,e2,y2,y3,y4,y5,y6,y7,y8,y9,y10,y11,hδ,_⟩:=O9 (us:=D8 0 5) (L0:=L1) (L:=L1) (δ:=[some (.ref 0),some (.ref d),none,none,none,none,none,none,none,none,none,none]) (body:=Rj) (g:=gN 2) (fi:=G9 (Ac (fC (.int 5)) Af))
  (fun k δ' L'=>∃ y2 y3 y4 y5 y6 y7 y8 y9 y10 y11,δ'=[some (.ref 0),some (.ref d),y2,y3,y4,y5,y6,y7,y8,y9,y10,y11]/\Gdk L' d (1100 * k)/\k<=5)
  (Pu (n:=5) rfl (by omega)) ⟨_,_,_,_,_,_,_,_,_,_,rfl,by simpa using D1,by omega⟩
  (fun k u δ M hu zz=>by
   obtain ⟨y2,y3,y4,y5,y6,y7,y8,y9,y10,y11,hδ,D,_⟩:=zz
   subst hδ
   obtain ⟨hk,rfl⟩:=Lm hu
   obtain ⟨z3,z4,z5,z6,z7,z8,z9,z10,z11,M',e,D'⟩:=Ak7 D (by omega) (some (.ref 0)) (some (.int (0+(k:Int)))) y3 y4 y5 y6 y7 y8 y9 y10 y11
   refine ⟨[some (.ref 0),some (.ref d),some (.int (0+(k:Int))),y3,y4,y5,y6,y7,y8,y9,y10,y11],M,rfl,_,M',.inl e,_,_,_,_,_,_,_,_,_,_,rfl,?_,by omega⟩
   have:(1100:Int) * ((k+1:Nat):Int)=1100 * (k:Int)+1100:=by omega
   rw[this];exact D')
 refine ⟨K2,fnN rfl ?_⟩
 show Af0 [some (.ref 0),none,none,none,none,none,none,none,none,none,none,none] _=_
 unfold Af0
 rw[Aj s1,Aj e2]
 rfl
noncomputable def top(i:Nat):Stmt:=PySem.Challenge.pw_belowpoints_k29_covers_looked_at.main.body.getD i (.Pass ⟨0,0,0,0⟩)
noncomputable abbrev J6:Stmt:=top 22
theorem Iv:FnScope ["script","great","mixed","cell"] ["script"] (An J6):=⟨rfl,rfl,rfl,by decide +kernel,rfl,by decide +kernel,by decide +kernel⟩
noncomputable abbrev Kf:Stmt:=top 23
theorem Kc:FnScope ["deck","most","found","turn","one"] ["deck","most"] (An Kf):=⟨rfl,rfl,rfl,by decide +kernel,rfl,by decide +kernel,by decide +kernel⟩
noncomputable abbrev Ip:Stmt:=top 27
theorem Yu:FnScope ["one","other"] ["one","other"] (An Ip):=⟨rfl,rfl,rfl,by decide +kernel,rfl,by decide +kernel,by decide +kernel⟩
noncomputable abbrev Ft:Stmt:=top 28
theorem Ud:FnScope ["points"] ["points"] (An Ft):=⟨rfl,rfl,rfl,by decide +kernel,rfl,by decide +kernel,by decide +kernel⟩
noncomputable abbrev Fg:Stmt:=top 29
theorem Dt:FnScope ["points","cover","known","names","chain","one","other"] ["points","cover"] (An Fg):=⟨rfl,rfl,rfl,by decide +kernel,rfl,by decide +kernel,by decide +kernel⟩
noncomputable abbrev Fh:Stmt:=top 30
theorem Hu:FnScope ["points","crowd","known","one","other"] ["points","crowd"] (An Fh):=⟨rfl,rfl,rfl,by decide +kernel,rfl,by decide +kernel,by decide +kernel⟩
noncomputable abbrev Fp:Stmt:=top 1
theorem Uh:FnScope ["one","other"] ["one","other"] (An Fp):=⟨rfl,rfl,rfl,by decide +kernel,rfl,by decide +kernel,by decide +kernel⟩
noncomputable abbrev Hn:Stmt:=top 2
theorem X2:FnScope ["point"] ["point"] (An Hn):=⟨rfl,rfl,rfl,by decide +kernel,rfl,by decide +kernel,by decide +kernel⟩
noncomputable abbrev C3:Stmt:=top 15
theorem Fu:FnScope ["chains","point","turn","chain"] ["chains","point"] (An C3):=⟨rfl,rfl,rfl,by decide +kernel,rfl,by decide +kernel,by decide +kernel⟩
noncomputable abbrev El:Stmt:=top 13
theorem E3:FnScope ["points","chains","point","turn","crowd"] ["points"] (An El):=⟨rfl,rfl,rfl,by decide +kernel,rfl,by decide +kernel,by decide +kernel⟩
noncomputable abbrev Ej:Stmt:=top 14
theorem Tf:FnScope ["chain"] ["chain"] (An Ej):=⟨rfl,rfl,rfl,by decide +kernel,rfl,by decide +kernel,by decide +kernel⟩
noncomputable abbrev Hk:Stmt:=top 10
theorem Xx:FnScope ["points"] ["points"] (An Hk):=⟨rfl,rfl,rfl,by decide +kernel,rfl,by decide +kernel,by decide +kernel⟩
noncomputable abbrev Hm:Stmt:=top 11
theorem Nd:FnScope ["points","chains","crowd"] ["points"] (An Hm):=⟨rfl,rfl,rfl,by decide +kernel,rfl,by decide +kernel,by decide +kernel⟩
noncomputable abbrev Ff:Stmt:=top 8
theorem Ui:FnScope ["places","place"] ["places","place"] (An Ff):=⟨rfl,rfl,rfl,by decide +kernel,rfl,by decide +kernel,by decide +kernel⟩
noncomputable abbrev E9:Stmt:=top 5
theorem Oe:FnScope ["points","places"] ["points"] (An E9):=⟨rfl,rfl,rfl,by decide +kernel,rfl,by decide +kernel,by decide +kernel⟩
noncomputable abbrev Gn:Stmt:=top 20
theorem Fi:FnScope ["points","stairs","left","above","best"] ["points"] (An Gn):=⟨rfl,rfl,rfl,by decide +kernel,rfl,by decide +kernel,by decide +kernel⟩
noncomputable abbrev Kl:Stmt:=top 34
theorem Hj:FnScope ["deck","points","cover","crowd","way","stairs"] ["deck","points"] (An Kl):=⟨rfl,rfl,rfl,by decide +kernel,rfl,by decide +kernel,by decide +kernel⟩
noncomputable abbrev Iq:Stmt:=top 24
theorem Ds:FnScope ["deck","many","letters","spare","begin","near","place","alike","k","sign"] ["deck","many"] (An Iq):=⟨rfl,rfl,rfl,by decide +kernel,rfl,by decide +kernel,by decide +kernel⟩
noncomputable abbrev Hh:Stmt:=top 25
theorem Qn:FnScope ["deck","kind","far"] ["deck","kind"] (An Hh):=⟨rfl,rfl,rfl,by decide +kernel,rfl,by decide +kernel,by decide +kernel⟩
noncomputable abbrev Hl:Stmt:=top 26
theorem Cz:FnScope ["deck","most","kind","way","found","name","x","y"] ["deck","most"] (An Hl):=⟨rfl,rfl,rfl,by decide +kernel,rfl,by decide +kernel,by decide +kernel⟩
noncomputable abbrev Gk:Stmt:=top 31
theorem G4:FnScope ["deck","points","names","near","some","left"] ["deck","points"] (An Gk):=⟨rfl,rfl,rfl,by decide +kernel,rfl,by decide +kernel,by decide +kernel⟩
noncomputable abbrev Df:Stmt:=top 32
theorem C6:FnScope ["deck","points","cover","rows","way","at","other","place"] ["deck","points","cover"] (An Df):=⟨rfl,rfl,rfl,by decide +kernel,rfl,by decide +kernel,by decide +kernel⟩
noncomputable abbrev Dh:Stmt:=top 33
theorem Cw:FnScope ["deck","points","crowd","some","way","at"] ["deck","points","crowd"] (An Dh):=⟨rfl,rfl,rfl,by decide +kernel,rfl,by decide +kernel,by decide +kernel⟩
noncomputable abbrev Ho:Stmt:=top 17
theorem Xt:FnScope ["places","names"] ["places","names"] (An Ho):=⟨rfl,rfl,rfl,by decide +kernel,rfl,by decide +kernel,by decide +kernel⟩
noncomputable abbrev He:Stmt:=top 16
theorem Hx:FnScope ["points","cover","places","point","covered","chain"] ["points","cover"] (An He):=⟨rfl,rfl,rfl,by decide +kernel,rfl,by decide +kernel,by decide +kernel⟩
noncomputable abbrev Fm:Stmt:=top 7
theorem T3:FnScope ["places","place"] ["places","place"] (An Fm):=⟨rfl,rfl,rfl,by decide +kernel,rfl,by decide +kernel,by decide +kernel⟩
noncomputable abbrev Fe:Stmt:=top 4
theorem N3:FnScope ["points","places"] ["points"] (An Fe):=⟨rfl,rfl,rfl,by decide +kernel,rfl,by decide +kernel,by decide +kernel⟩
noncomputable abbrev Dx:Stmt:=top 6
theorem Qv:FnScope ["points"] ["points"] (An Dx):=⟨rfl,rfl,rfl,by decide +kernel,rfl,by decide +kernel,by decide +kernel⟩
noncomputable abbrev Hi:Stmt:=top 18
theorem Qp:FnScope ["points","crowd","found"] ["points","crowd"] (An Hi):=⟨rfl,rfl,rfl,by decide +kernel,rfl,by decide +kernel,by decide +kernel⟩
noncomputable abbrev Ek:Stmt:=top 12
theorem Tn:FnScope ["points","cover","crowd"] ["points","cover","crowd"] (An Ek):=⟨rfl,rfl,rfl,by decide +kernel,rfl,by decide +kernel,by decide +kernel⟩
noncomputable abbrev Ow:Stmt:=top 35
theorem Ib:FnScope ["script","deck","turn","points","cover","crowd","spoilt","other","rows","names","due","found"] ["script"] (An Ow):=⟨rfl,rfl,rfl,by decide +kernel,rfl,by decide +kernel,by decide +kernel⟩
set_option genInjectivity false
set_option genSizeOf false
set_option genSizeOfSpec false
structure Defs(K:aK)(mg:Str->Option aJ) where
 ua:Addr
 ub:cM
 uc:Fun K "_law_deck" "_law_deck" J6 ua ub
 ud:Binds K ub ["script"] []
 ue:mg "_law_deck" = some (.ref ua)
 uf:Addr
 ug:cM
 uh:Fun K "_law_draw" "_law_draw" Kf uf ug
 ui:Binds K ug ["deck","most"] []
 uj:mg "_law_draw" = some (.ref uf)
 uk:Addr
 ul:cM
 um:Fun K "_law_below" "_law_below" Ip uk ul
 uo:Binds K ul ["one","other"] []
 uq:mg "_law_below" = some (.ref uk)
 ur:Addr
 ut:cM
 uu:Fun K "_law_by_names" "_law_by_names" Ft ur ut
 uv:Binds K ut ["points"] []
 uw:mg "_law_by_names" = some (.ref ur)
 ux:Addr
 uy:cM
 uz:Fun K "_law_is_cover" "_law_is_cover" Fg ux uy
 uA:Binds K uy ["points","cover"] []
 uB:mg "_law_is_cover" = some (.ref ux)
 uC:Addr
 uD:cM
 uE:Fun K "_law_is_crowd" "_law_is_crowd" Fh uC uD
 uF:Binds K uD ["points","crowd"] []
 uG:mg "_law_is_crowd" = some (.ref uC)
 uH:Addr
 uI:cM
 uJ:Fun K "lies_below" "lies_below" Fp uH uI
 uK:Binds K uI ["one","other"] []
 uL:mg "lies_below" = some (.ref uH)
 uM:Addr
 uN:cM
 uO:Fun K "place_of" "place_of" Hn uM uN
 uP:Binds K uN ["point"] []
 uQ:mg "place_of" = some (.ref uM)
 uR:Addr
 uS:cM
 uT:Fun K "first_that_takes" "first_that_takes" C3 uR uS
 uU:Binds K uS ["chains","point"] []
 uV:mg "first_that_takes" = some (.ref uR)
 uW:Addr
 uX:cM
 uY:Fun K "chains_laid" "chains_laid" El uW uX
 uZ:Binds K uX ["points"] []
 u4:mg "chains_laid" = some (.ref uW)
 u5:Addr
 u6:cM
 u7:Fun K "names_along" "names_along" Ej u5 u6
 u8:Binds K u6 ["chain"] []
 u9:mg "names_along" = some (.ref u5)
 va:Addr
 vb:cM
 vc:Fun K "cover_of" "cover_of" Hk va vb
 vd:Binds K vb ["points"] []
 ve:mg "cover_of" = some (.ref va)
 vf:Addr
 vg:cM
 vh:Fun K "crowd_of" "crowd_of" Hm vf vg
 vk:Binds K vg ["points"] []
 vm:mg "crowd_of" = some (.ref vf)
 vn:Addr
 vo:cM
 vp:Fun K "many_above" "many_above" Ff vn vo
 vq:Binds K vo ["places","place"] []
 vt:mg "many_above" = some (.ref vn)
 vv:Addr
 vw:cM
 vx:Fun K "above_each" "above_each" E9 vv vw
 vy:Binds K vw ["points"] []
 vz:mg "above_each" = some (.ref vv)
 vA:Addr
 vB:cM
 vC:Fun K "stairs_of" "stairs_of" Gn vA vB
 vD:Binds K vB ["points"] []
 vE:mg "stairs_of" = some (.ref vA)
 vF:Addr
 vG:cM
 vH:Fun K "_law_pair" "_law_pair" Kl vF vG
 vI:Binds K vG ["deck","points"] []
 vJ:mg "_law_pair" = some (.ref vF)
 vK:Addr
 vL:cM
 vM:Fun K "_law_names" "_law_names" Iq vK vL
 vN:Binds K vL ["deck","many"] []
 vO:mg "_law_names" = some (.ref vK)
 vP:Addr
 vQ:cM
 vR:Fun K "_law_number" "_law_number" Hh vP vQ
 vS:Binds K vQ ["deck","kind"] []
 vT:mg "_law_number" = some (.ref vP)
 vU:Addr
 vV:cM
 vW:Fun K "_law_points" "_law_points" Hl vU vV
 vX:Binds K vV ["deck","most"] []
 vY:mg "_law_points" = some (.ref vU)
 vZ:Addr
 wa:cM
 wb:Fun K "_law_strange" "_law_strange" Gk vZ wa
 wd:Binds K wa ["deck","points"] []
 we:mg "_law_strange" = some (.ref vZ)
 wf:Addr
 wg:cM
 wj:Fun K "_law_spoilt_cover" "_law_spoilt_cover" Df wf wg
 wk:Binds K wg ["deck","points","cover"] []
 wm:mg "_law_spoilt_cover" = some (.ref wf)
 wn:Addr
 wo:cM
 wt:Fun K "_law_spoilt_crowd" "_law_spoilt_crowd" Dh wn wo
 wu:Binds K wo ["deck","points","crowd"] []
 wv:mg "_law_spoilt_crowd" = some (.ref wn)
 ww:Addr
 wx:cM
 wy:Fun K "is_chain" "is_chain" Ho ww wx
 wz:Binds K wx ["places","names"] []
 wA:mg "is_chain" = some (.ref ww)
 wB:Addr
 wC:cM
 wD:Fun K "is_cover" "is_cover" He wB wC
 wE:Binds K wC ["points","cover"] []
 wF:mg "is_cover" = some (.ref wB)
 wG:Addr
 wH:cM
 wI:Fun K "many_below" "many_below" Fm wG wH
 wJ:Binds K wH ["places","place"] []
 wK:mg "many_below" = some (.ref wG)
 wL:Addr
 wM:cM
 wN:Fun K "below_each" "below_each" Fe wL wM
 wO:Binds K wM ["points"] []
 wP:mg "below_each" = some (.ref wL)
 wQ:Addr
 wR:cM
 wS:Fun K "pairs_in_all" "pairs_in_all" Dx wQ wR
 wT:Binds K wR ["points"] []
 wU:mg "pairs_in_all" = some (.ref wQ)
 wV:Addr
 wW:cM
 wX:Fun K "is_crowd" "is_crowd" Hi wV wW
 wY:Binds K wW ["points","crowd"] []
 wZ:mg "is_crowd" = some (.ref wV)
 w6:Addr
 xa:cM
 xb:Fun K "cover_shown" "cover_shown" Ek w6 xa
 xc:Binds K xa ["points","cover","crowd"] []
 xf:mg "cover_shown" = some (.ref w6)
 xg:Addr
 xh:cM
 xi:Fun K "law" "law" Ow xg xh
 xj:Binds K xh ["script"] []
 xk:mg "law" = some (.ref xg)
 xl:mg "abs" = none
 xm:mg "all" = none
 xn:mg "bool" = none
 xo:mg "dict" = none
 xp:mg "enumerate" = none
 xq:mg "int" = none
 xt:mg "isinstance" = none
 xu:mg "len" = none
 xw:mg "list" = none
 xx:mg "range" = none
 xy:mg "set" = none
 xz:mg "sorted" = none
 xA:mg "sum" = none
 xB:mg "tuple" = none
 xC:mg "zip" = none
section
variable {P:cT}{w:eO}{K:aK}{mg:Str->Option aJ}{base:Heap}
theorem Ad6(C:Defs K mg):FnOk P w K mg base CX0 1 C.ua C.ub ["script"] (spF K 1 Pb):=by
 refine Fun.okF (N:=["script","great","mixed","cell"]) C.uc Iv (fun cdv A outer s H E hr=>?_)
 have hu:=hr.units
 refine Ah ?s0 ?t0
 case s0=>exact (Au (i:=1) (by exact Iv.nd) Ai)
 refine Ah ?s1 ?t1
 case s1=>exact (Au (i:=2) (by exact Iv.nd) (Bk C2 C1 (Bk Eu Et Ai (Bg By Cj (by rfl) C.xu cG (Ad (Ag 0) Ae))) Ai))
 refine Ah ?s2 ?t2
 case s2=>exact (Es dF rfl (B1 (Cg P8 Mm (Ag 0) Ce (B5 Ai))) (Az (i:=3) (by exact Iv.nd)) (Ao (B9 (Bf Apa Als (Bg Sd V5 (by rfl) C.xl (by decide +kernel) (Ad (Ag 3) Ae)) (Bk Te Pt Ai Ai) (Bi _)) (Ao (Au (i:=1) (by exact Iv.nd) (Bk C2 C1 (Bk Ajj Ae5 (Ag 1) Ai) (Bg Sd V5 (by rfl) C.xl (by decide +kernel) (Ad (Ag 3) Ae))))) (Ao (Au (i:=2) (by exact Iv.nd) (Bk Mh Jq (Bk C2 C1 (Bk Eu Et (Ag 2) Ai) (Ag 3)) Ai))))))
 exact (Ao (Bh (C9 (Ad (Ag 1) (Ad (Ag 2) (Ad Ai Ae))))))
theorem Be(C:Defs K mg):FnOk P w K mg base CX0 1 C.uf C.ug ["deck","most"] (spF K 2 Am):=by
 refine Fun.okF (N:=["deck","most","found","turn","one"]) C.uh Kc (fun cdv A outer s H E hr=>?_)
 have hu:=hr.units
 refine Ah ?s0 ?t0
 case s0=>exact (G3 (Bk C2 C1 (Bm A9 Ba (Ag 0) Ai (fun _ _=>rfl)) Ai) (Ii (Ag 0) Ai))
 refine Ah ?s1 ?t1
 case s1=>exact (B9 (Bf Af3 Aac (Bm A9 Ba (Ag 0) Ai (fun _ _=>rfl)) Ai (Bi _)) (Ah (Au (i:=2) (by exact Kc.nd) (Bk Mh Jq (Bm A9 Ba (Ag 0) Ai (fun _ _=>rfl)) (Ag 1))) (Ah (G3 (Bk O6 Q4 (Bm A9 Ba (Ag 0) Ai (fun _ _=>rfl)) (Ag 1)) (Ii (Ag 0) Ai)) (Ao (Bh (Ag 2))))) Bw)
 refine Ah ?s2 ?t2
 case s2=>exact (Au (i:=3) (by exact Kc.nd) (Bm A9 Ba (Ag 0) Ai (fun _ _=>rfl)))
 refine Ah ?s3 ?t3
 case s3=>exact (Au (i:=4) (by exact Kc.nd) (Bk Mh Jq (Bk C2 C1 (Bk C2 C1 (Bm A9 Ba (Ag 0) Ai (fun _ _=>rfl)) (Bk Eu Et (Bk Eu Et Ai (Ag 3)) (Ag 3))) (Bk Eu Et Ai (Ag 3))) Ai))
 refine Ah ?s4 ?t4
 case s4=>exact (Au (i:=4) (by exact Kc.nd) (Bk Mh Jq (Bk Eu Et (Ag 4) (Ag 4)) Ai))
 exact (Ao (Bh (Bk Mh Jq (Bk O6 Q4 (Bk Mh Jq (Bk C2 C1 (Bk Eu Et (Ag 4) Ai) (Bk Eu Et (Ag 3) Ai)) Ai) Ai) (Ag 1))))
theorem Ti(C:Defs K mg):FnOk P w K mg base CX0 1 C.uk C.ul ["one","other"] (spF K 2 Gj):=by
 refine Fun.okF (N:=["one","other"]) C.um Yu (fun cdv A outer s H E hr=>?_)
 have hu:=hr.units
 refine Ah ?s0 ?t0
 case s0=>exact (B9 (Bf (Cm hu) Co (Cg P8 Mm (Ag 0) (B5 Ai) Ce) (Cg P8 Mm (Ag 1) (B5 Ai) Ce) (Bi _)) (Ao (Bh Pw)) Bw)
 exact (Ao (Bh (Ms (Ja Aeu Aaj (Bm A9 Ba (Ag 0) Ai (fun _ _=>rfl)) (Bm A9 Ba (Ag 1) Ai (fun _ _=>rfl)) (Bi _)) (P1 (Ja Aeu Aaj (Bm A9 Ba (Ag 0) Ai (fun _ _=>rfl)) (Bm A9 Ba (Ag 1) Ai (fun _ _=>rfl)) (Bi _))))))
theorem N7(C:Defs K mg):FnOk P w K mg base CX0 1 C.ur C.ut ["points"] (spF K 1 Fj):=by
 refine Fun.okF (N:=["points"]) C.uu Ud (fun cdv A outer s H E hr=>?_)
 have hu:=hr.units
 exact (Ao (Bh (Cr (Adi rfl) Ahw (by rfl) C.xo (by decide +kernel) (Ad (Dw (N':=["point"]) (ix:=[none]) ⟨rfl,rfl,rfl,rfl,rfl,rfl⟩ rfl (B1 (Ag 0)) (fun _ _ _ _ _ _=>(Az (i:=0) (show cQ (α:=Str) ["point"] by decide +kernel))) (fun _ _ _ _ _ _=>(D0 (Ad (Bm A9 Ba (Ag 0) Ai (fun _ _=>rfl)) (Ad (Ag 0) Ae))))) Ae))))
theorem Tu(C:Defs K mg):FnOk P w K mg base CX0 2 C.ux C.uy ["points","cover"] (spF K 2 G6):=by
 refine Fun.okF (N:=["points","cover","known","names","chain","one","other"]) C.uz Dt (fun cdv A outer s H E hr=>?_)
 have hu:=hr.units
 refine Ah ?s0 ?t0
 case s0=>exact (Au (i:=2) (by exact Dt.nd) (Aq (N7 C) (hr.mono (by decide)) (by rfl) C.uw C.uu.kp C.uv (Ad (Ag 0) Ae)))
 refine Ah ?s1 ?t1
 case s1=>exact (Au (i:=3) (by exact Dt.nd) (C9 Ae))
 refine Ah ?s2 ?t2
 case s2=>exact (Es dF rfl (B1 (Ag 1)) (Az (i:=4) (by exact Dt.nd)) (Ao (Dm (Ih cD iT nE Acx Wv (Ag 3) (Ad (Ag 4) Ae)))))
 refine Ah ?s3 ?t3
 case s3=>exact (B9 (Bf (Ia hu) Ie (Bg (Ju rfl) K7 (by rfl) C.xz fE (Ad (Ag 3) Ae)) (Bg (Ju rfl) K7 (by rfl) C.xz fE (Ad (Ag 2) Ae)) (Bi _)) (Ao (Bh Pw)) Bw)
 refine Ah ?s4 ?t4
 case s4=>exact (Es dF rfl (B1 (Ag 1)) (Az (i:=4) (by exact Dt.nd)) (Ao (Es dF rfl (Sh (by rfl) C.xC (Ad (Ag 4) (Ad (Cg G7 G5 (Ag 4) (B5 Ai) Ce) Ae))) (Hs rfl (B3 (Az (i:=5) (by exact Dt.nd)) (B3 (Az (i:=6) (by exact Dt.nd)) Fw))) (Ao (B9 (Wn (Jr (Aq (Ti C) (hr.mono (by decide)) (by rfl) C.uq C.um.kp C.uo (Ad (Np hu (Ag 2) (Ag 5) (fun _ _=>rfl)) (Ad (Np hu (Ag 2) (Ag 6) (fun _ _=>rfl)) Ae))))) (Ao (Bh Pw)) Bw)))))
 exact (Ao (Bh Pw))
theorem Ug(C:Defs K mg):FnOk P w K mg base CX0 2 C.uC C.uD ["points","crowd"] (spF K 2 Gz):=by
 refine Fun.okF (N:=["points","crowd","known","one","other"]) C.uE Hu (fun cdv A outer s H E hr=>?_)
 have hu:=hr.units
 refine Ah ?s0 ?t0
 case s0=>exact (Au (i:=2) (by exact Hu.nd) (Aq (N7 C) (hr.mono (by decide)) (by rfl) C.uw C.uu.kp C.uv (Ad (Ag 0) Ae)))
 refine Ah ?s1 ?t1
 case s1=>exact (B9 (PWF.pt (Agh (Bf (Ia hu) Ie (Adj rfl (by rfl) C.xu (by rfl) C.xy (Ad (Ag 1) Ae)) (Bg By Cj (by rfl) C.xu cG (Ad (Ag 1) Ae)) (Bi _)) (Acp (Bf (Ia hu) Ie (O0 (N':=["name","known"]) (ix:=[none,some 2]) ⟨rfl,rfl,rfl,rfl,rfl,rfl⟩ rfl (B1 (Ag 1)) (fun _ _ _ _ _ _=>(Az (i:=0) (show cQ (α:=Str) ["name","known"] by decide +kernel))) (fun _ _ _ _ _ _=>(Bf (Ac1 hu) Aa5 (Ag 0) (Ag 1) (by with_unfolding_all rfl))) (fun _ _ _ _ _ _=>(Ag 0))) (C9 Ae) (Bi _))))) (Ao (Bh Pw)) Bw)
 refine Ah ?s2 ?t2
 case s2=>exact (Es dF rfl (B1 (Ag 1)) (Az (i:=3) (by exact Hu.nd)) (Ao (Es dF rfl (B1 (Ag 1)) (Az (i:=4) (by exact Hu.nd)) (Ao (B9 (Jr (Aq (Ti C) (hr.mono (by decide)) (by rfl) C.uq C.um.kp C.uo (Ad (Np hu (Ag 2) (Ag 3) (fun _ _=>rfl)) (Ad (Np hu (Ag 2) (Ag 4) (fun _ _=>rfl)) Ae)))) (Ao (Bh Pw)) Bw)))))
 exact (Ao (Bh Pw))
theorem Ht(C:Defs K mg):FnOk P w K mg base CX0 1 C.uH C.uI ["one","other"] (spF K 2 Ci):=by
 refine Fun.okF (N:=["one","other"]) C.uJ Uh (fun cdv A outer s H E hr=>?_)
 have hu:=hr.units
 exact (Ao (Bh (Ms (Ja (Ia hu) Ie (Ag 0) (Ag 1) (Bi _)) (P1 (Bg (Qb rfl) Wr (by rfl) C.xm kL (Ad (Dw (N':=["number","above"]) (ix:=[none,none]) ⟨rfl,rfl,rfl,rfl,rfl,rfl⟩ rfl (Sh (by rfl) C.xC (Ad (Ag 0) (Ad (Ag 1) Ae))) (fun _ _ _ _ _ _=>(Hs rfl (B3 (Az (i:=0) (show cQ (α:=Str) ["number","above"] by decide +kernel)) (B3 (Az (i:=1) (show cQ (α:=Str) ["number","above"] by decide +kernel)) Fw)))) (fun _ _ _ _ _ _=>(Ja Aeu Aaj (Ag 0) (Ag 1) (Bi _)))) Ae))))))
theorem E6(C:Defs K mg):FnOk P w K mg base CX0 1 C.uM C.uN ["point"] (spF K 1 Bn):=by
 refine Fun.okF (N:=["point"]) C.uO X2 (fun cdv A outer s H E hr=>?_)
 have hu:=hr.units
 exact (Ao (Bh (D0 (Ad (Bm A9 Ba (Ag 0) Ai (fun _ _=>rfl)) (Ad (Bm A9 Ba (Ag 0) Ai (fun _ _=>rfl)) Ae)))))
theorem Nx(C:Defs K mg):FnOk P w K mg base CX0 2 C.uR C.uS ["chains","point"] (spF K 2 Eb):=by
 refine Fun.okF (N:=["chains","point","turn","chain"]) C.uT Fu (fun cdv A outer s H E hr=>?_)
 have hu:=hr.units
 refine Ah ?s0 ?t0
 case s0=>exact (Es dF rfl (Afb (by rfl) C.xp (Ad (Ag 0) Ae)) (Hs rfl (B3 (Az (i:=2) (by exact Fu.nd)) (B3 (Az (i:=3) (by exact Fu.nd)) Fw))) (Ao (B9 (Jr (Aq (Ht C) (hr.mono (by decide)) (by rfl) C.uL C.uJ.kp C.uK (Ad (Aq (E6 C) (hr.mono (by decide)) (by rfl) C.uQ C.uO.kp C.uP (Ad (Bm A9 Ba (Bm A9 Ba (Ag 3) (Kt Ai) (fun _ _=>rfl)) Ai (fun _ _=>rfl)) Ae)) (Ad (Aq (E6 C) (hr.mono (by decide)) (by rfl) C.uQ C.uO.kp C.uP (Ad (Ag 1) Ae)) Ae)))) (Ao (Bh (Ag 2))) Bw)))
 exact (Ao (Bh (Bg By Cj (by rfl) C.xu cG (Ad (Ag 0) Ae))))
theorem M9(C:Defs K mg):FnOk P w K mg base CX0 4 C.uW C.uX ["points"] (spF K 1 Ga):=by
 refine Fun.okF (N:=["points","chains","point","turn","crowd"]) C.uY E3 (fun cdv A outer s H E hr=>?_)
 have hu:=hr.units
 refine Ah ?s0 ?t0
 case s0=>exact (Au (i:=1) (by exact E3.nd) (C9 Ae))
 refine Ah ?s1 ?t1
 case s1=>exact (Es dF rfl (B1 (Adw (E6 C) (hr.mono (by decide)) C.uP (by rfl) C.xz (by rfl) C.uQ (Ag 0))) (Az (i:=2) (by exact E3.nd)) (Ah (Au (i:=3) (by exact E3.nd) (Aq (Nx C) (hr.mono (by decide)) (by rfl) C.uV C.uT.kp C.uU (Ad (Ag 1) (Ad (Ag 2) Ae)))) (Ah (Au (i:=4) (by exact E3.nd) (Ao4 (Bf Af3 Aac (Ag 3) Ai (Bi _)) (Bm A9 Ba (Bm A9 Ba (Bm A9 Ba (Ag 1) (Bk Vt Q8 (Ag 3) Ai) (fun _ _=>rfl)) (Kt Ai) (fun _ _=>rfl)) Ai (fun _ _=>rfl)) (D0 Ae))) (Ah (B9 (Bf (Cm hu) Co (Ag 3) (Bg By Cj (by rfl) C.xu cG (Ad (Ag 1) Ae)) (Bi _)) (Ao (Dm (Ih cD fF fG Iu Hg (Ag 1) (Ad (C9 Ae) Ae)))) Bw) (Ao (Dm (Ih cD fF fG Iu Hg (Bm A9 Ba (Ag 1) (Ag 3) (fun _ _=>rfl)) (Ad (D0 (Ad (Ag 2) (Ad (Bk Ge Eg (Ag 4) (D0 (Ad (Bm A9 Ba (Ag 2) Ai (fun _ _=>rfl)) Ae))) Ae))) Ae))))))))
 exact (Ao (Bh (Ag 1)))
theorem Sn(C:Defs K mg):FnOk P w K mg base CX0 1 C.u5 C.u6 ["chain"] (spF K 1 Jy):=by
 refine Fun.okF (N:=["chain"]) C.u7 Tf (fun cdv A outer s H E hr=>?_)
 have hu:=hr.units
 exact (Ao (Bh (Cr B7 Dk (by rfl) C.xB (by decide +kernel) (Ad (Dw (N':=["point","crowd"]) (ix:=[none,none]) ⟨rfl,rfl,rfl,rfl,rfl,rfl⟩ rfl (B1 (Ag 0)) (fun _ _ _ _ _ _=>(Hs rfl (B3 (Az (i:=0) (show cQ (α:=Str) ["point","crowd"] by decide +kernel)) (B3 (Az (i:=1) (show cQ (α:=Str) ["point","crowd"] by decide +kernel)) Fw)))) (fun _ _ _ _ _ _=>(Bm A9 Ba (Ag 0) Ai (fun _ _=>rfl)))) Ae))))
theorem W6(C:Defs K mg):FnOk P w K mg base CX0 5 C.va C.vb ["points"] (spF K 1 Kz):=by
 refine Fun.okF (N:=["points"]) C.vc Xx (fun cdv A outer s H E hr=>?_)
 have hu:=hr.units
 exact (Ao (Bh (Cr B7 Dk (by rfl) C.xB (by decide +kernel) (Ad (Dw (N':=["chain"]) (ix:=[none]) ⟨rfl,rfl,rfl,rfl,rfl,rfl⟩ rfl (B1 (Aq (M9 C) (hr.mono (by decide)) (by rfl) C.u4 C.uY.kp C.uZ (Ad (Ag 0) Ae))) (fun _ _ _ _ _ _=>(Az (i:=0) (show cQ (α:=Str) ["chain"] by decide +kernel))) (fun _ _ _ _ _ _=>(Aq (Sn C) (hr.mono (by decide)) (by rfl) C.u9 C.u7.kp C.u8 (Ad (Ag 0) Ae)))) Ae))))
theorem Xh(C:Defs K mg):FnOk P w K mg base CX0 5 C.vf C.vg ["points"] (spF K 1 Jh):=by
 refine Fun.okF (N:=["points","chains","crowd"]) C.vh Nd (fun cdv A outer s H E hr=>?_)
 have hu:=hr.units
 refine Ah ?s0 ?t0
 case s0=>exact (Au (i:=1) (by exact Nd.nd) (Aq (M9 C) (hr.mono (by decide)) (by rfl) C.u4 C.uY.kp C.uZ (Ad (Ag 0) Ae)))
 refine Ah ?s1 ?t1
 case s1=>exact (B9 (Wn (Jr (Ag 1))) (Ao (Bh (D0 Ae))) Bw)
 refine Ah ?s2 ?t2
 case s2=>exact (Au (i:=2) (by exact Nd.nd) (Bm A9 Ba (Bm A9 Ba (Bm A9 Ba (Ag 1) (Kt Ai) (fun _ _=>rfl)) (Kt Ai) (fun _ _=>rfl)) Ai (fun _ _=>rfl)))
 exact (Ao (Bh (Cr B7 Dk (by rfl) C.xB (by decide +kernel) (Ad (O0 (N':=["point","crowd"]) (ix:=[none,some 2]) ⟨rfl,rfl,rfl,rfl,rfl,rfl⟩ rfl (B1 (Ag 0)) (fun _ _ _ _ _ _=>(Az (i:=0) (show cQ (α:=Str) ["point","crowd"] by decide +kernel))) (fun _ _ _ _ _ _=>(Bf Ag1 (Aaa false) (Bm A9 Ba (Ag 0) Ai (fun _ _=>rfl)) (Ag 1) (by with_unfolding_all rfl))) (fun _ _ _ _ _ _=>(Bm A9 Ba (Ag 0) Ai (fun _ _=>rfl)))) Ae))))
theorem Ua(C:Defs K mg):FnOk P w K mg base CX0 2 C.vn C.vo ["places","place"] (spF K 2 Lf):=by
 refine Fun.okF (N:=["places","place"]) C.vp Ui (fun cdv A outer s H E hr=>?_)
 have hu:=hr.units
 exact (Ao (Bh (Bg By Cj (by rfl) C.xu cG (Ad (O0 (N':=["other","place"]) (ix:=[none,some 1]) ⟨rfl,rfl,rfl,rfl,rfl,rfl⟩ rfl (B1 (Ag 0)) (fun _ _ _ _ _ _=>(Az (i:=0) (show cQ (α:=Str) ["other","place"] by decide +kernel))) (fun _ _ _ _ _ _=>(Jr (Aq (Ht C) (hr.mono (by decide)) (by rfl) C.uL C.uJ.kp C.uK (Ad (Ag 1) (Ad (Ag 0) Ae))))) (fun _ _ _ _ _ _=>(Ag 0))) Ae))))
theorem T5(C:Defs K mg):FnOk P w K mg base CX0 3 C.vv C.vw ["points"] (spF K 1 Kx):=by
 refine Fun.okF (N:=["points","places"]) C.vx Oe (fun cdv A outer s H E hr=>?_)
 have hu:=hr.units
 refine Ah ?s0 ?t0
 case s0=>exact (Au (i:=1) (by exact Oe.nd) (Dw (N':=["point"]) (ix:=[none]) ⟨rfl,rfl,rfl,rfl,rfl,rfl⟩ rfl (B1 (Ag 0)) (fun _ _ _ _ _ _=>(Az (i:=0) (show cQ (α:=Str) ["point"] by decide +kernel))) (fun _ _ _ _ _ _=>(Aq (E6 C) (hr.mono (by decide)) (by rfl) C.uQ C.uO.kp C.uP (Ad (Ag 0) Ae)))))
 exact (Ao (Bh (Cr B7 Dk (by rfl) C.xB (by decide +kernel) (Ad (Dw (N':=["place","places"]) (ix:=[none,some 1]) ⟨rfl,rfl,rfl,rfl,rfl,rfl⟩ rfl (B1 (Ag 1)) (fun _ _ _ _ _ _=>(Az (i:=0) (show cQ (α:=Str) ["place","places"] by decide +kernel))) (fun _ _ _ _ _ _=>(Aq (Ua C) (hr.mono (by decide)) (by rfl) C.vt C.vp.kp C.vq (Ad (Ag 1) (Ad (Ag 0) Ae))))) Ae))))
theorem V1(C:Defs K mg):FnOk P w K mg base CX0 4 C.vA C.vB ["points"] (spF K 1 E4):=by
 refine Fun.okF (N:=["points","stairs","left","above","best"]) C.vC Fi (fun cdv A outer s H E hr=>?_)
 have hu:=hr.units
 refine Ah ?s0 ?t0
 case s0=>exact (Au (i:=1) (by exact Fi.nd) (C9 Ae))
 refine Ah ?s1 ?t1
 case s1=>exact (Au (i:=2) (by exact Fi.nd) (Ag 0))
 refine Ah ?s2 ?t2
 case s2=>exact (Aec 100000 dF (Jr (Ag 2)) (Ah (Au (i:=3) (by exact Fi.nd) (Aq (T5 C) (hr.mono (by decide)) (by rfl) C.vz C.vx.kp C.vy (Ad (Ag 2) Ae))) (Ah (Ng (i:=4) (N':=["point","many"]) (ix:=[none,none]) (by exact Fi.nd) ⟨rfl,rfl,rfl,rfl,rfl,rfl⟩ rfl (Xr (by rfl) C.xC (Ad (Ag 2) (Ad (Ag 3) Ae))) (fun _ _ _ _ _ _=>(Hs rfl (B3 (Az (i:=0) (show cQ (α:=Str) ["point","many"] by decide +kernel)) (B3 (Az (i:=1) (show cQ (α:=Str) ["point","many"] by decide +kernel)) Fw)))) (fun _ _ _ _ _ _=>(Bf (Cm hu) Co (Ag 1) Ai (Bi _))) (fun _ _ _ _ _ _=>(Ag 0))) (Ah (Dm (Ih cD fF fG Iu Hg (Ag 1) (Ad (Cr B7 Dk (by rfl) C.xB (by decide +kernel) (Ad (Dw (N':=["point"]) (ix:=[none]) ⟨rfl,rfl,rfl,rfl,rfl,rfl⟩ rfl (B1 (Ahs (E6 C) (hr.mono (by decide)) C.uP (by rfl) C.xz (by rfl) C.uQ (Ag 4))) (fun _ _ _ _ _ _=>(Az (i:=0) (show cQ (α:=Str) ["point"] by decide +kernel))) (fun _ _ _ _ _ _=>(Bm A9 Ba (Ag 0) Ai (fun _ _=>rfl)))) Ae)) Ae))) (Ao (Ng (i:=2) (N':=["point","many"]) (ix:=[none,none]) (by exact Fi.nd) ⟨rfl,rfl,rfl,rfl,rfl,rfl⟩ rfl (Xr (by rfl) C.xC (Ad (Ag 2) (Ad (Ag 3) Ae))) (fun _ _ _ _ _ _=>(Hs rfl (B3 (Az (i:=0) (show cQ (α:=Str) ["point","many"] by decide +kernel)) (B3 (Az (i:=1) (show cQ (α:=Str) ["point","many"] by decide +kernel)) Fw)))) (fun _ _ _ _ _ _=>(Bf Af3 Aac (Ag 1) Ai (Bi _))) (fun _ _ _ _ _ _=>(Ag 0))))))))
 exact (Ao (Bh (Cr B7 Dk (by rfl) C.xB (by decide +kernel) (Ad (Ag 1) Ae))))
theorem Acy(C:Defs K mg):FnOk P w K mg base CX0 6 C.vF C.vG ["deck","points"] (spF K 2 Mv):=by
 refine Fun.okF (N:=["deck","points","cover","crowd","way","stairs"]) C.vH Hj (fun cdv A outer s H E hr=>?_)
 have hu:=hr.units
 refine Ah ?s0 ?t0
 case s0=>exact (Au (i:=2) (by exact Hj.nd) (Aq (W6 C) (hr.mono (by decide)) (by rfl) C.ve C.vc.kp C.vd (Ad (Ag 1) Ae)))
 refine Ah ?s1 ?t1
 case s1=>exact (Au (i:=3) (by exact Hj.nd) (Aq (Xh C) (hr.mono (by decide)) (by rfl) C.vm C.vh.kp C.vk (Ad (Ag 1) Ae)))
 refine Ah ?s2 ?t2
 case s2=>exact (Au (i:=4) (by exact Hj.nd) (Aq (Be C) (hr.mono (by decide)) (by rfl) C.uj C.uh.kp C.ui (Ad (Ag 0) (Ad Ai Ae))))
 refine Ah ?s3 ?t3
 case s3=>exact (B9 (Bf (Cm hu) Co (Ag 4) Ai (Bi _)) (Ao (Au (i:=2) (by exact Hj.nd) (Cr B7 Dk (by rfl) C.xB (by decide +kernel) (Ad (Dw (N':=["point"]) (ix:=[none]) ⟨rfl,rfl,rfl,rfl,rfl,rfl⟩ rfl (B1 (Ag 1)) (fun _ _ _ _ _ _=>(Az (i:=0) (show cQ (α:=Str) ["point"] by decide +kernel))) (fun _ _ _ _ _ _=>(D0 (Ad (Bm A9 Ba (Ag 0) Ai (fun _ _=>rfl)) Ae)))) Ae)))) Bw)
 refine Ah ?s4 ?t4
 case s4=>exact (B9 (PWF.pt (K1 (Bf (Cm hu) Co (Ag 4) Ai (Bi _)) (Ke (Bf (Ia hu) Ie (Ag 1) (D0 Ae) (Bi _))))) (Ah (Au (i:=5) (by exact Hj.nd) (Aq (V1 C) (hr.mono (by decide)) (by rfl) C.vE C.vC.kp C.vD (Ad (Ag 1) Ae))) (Ao (Au (i:=3) (by exact Hj.nd) (Bm A9 Ba (Ag 5) (Aq (Be C) (hr.mono (by decide)) (by rfl) C.uj C.uh.kp C.ui (Ad (Ag 0) (Ad (Bg By Cj (by rfl) C.xu cG (Ad (Ag 5) Ae)) Ae))) (fun _ _=>rfl))))) Bw)
 exact (Ao (Bh (C9 (Ad (Ag 2) (Ad (Ag 3) Ae)))))
theorem Y0(C:Defs K mg):FnOk P w K mg base CX0 2 C.vK C.vL ["deck","many"] (spF K 2 Ir):=by
 refine Fun.okF (N:=["deck","many","letters","spare","begin","near","place","alike","k","sign"]) C.vM Ds (fun cdv A outer s H E hr=>?_)
 have hu:=hr.units
 refine Ah ?s0 ?t0
 case s0=>exact (Au (i:=2) (by exact Ds.nd) Dj)
 refine Ah ?s1 ?t1
 case s1=>
  refine Au (i:=3) (hi:=?h1_1) (hx:=?h2_1) (hf:=?h3_1) (hs:=?h4_1) ?h5_1 ?h6_1
  case h1_1=>rfl
  case h2_1=>first | exact oA rfl | exact mC rfl
  case h3_1=>first | exact .inl rfl | exact .inr rfl
  case h4_1=>rfl
  case h5_1=>exact (by exact Ds.nd)
  case h6_1=>
   refine C9 ?g
   refine Ad (hs:=?q0) ?e0 ?r0
   case q0=>rfl
   case e0=>exact Dj
   refine Ad (hs:=?q1) ?e1 ?r1
   case q1=>rfl
   case e1=>exact Dj
   refine Ad (hs:=?q2) ?e2 ?r2
   case q2=>rfl
   case e2=>exact Dj
   refine Ad (hs:=?q3) ?e3 ?r3
   case q3=>rfl
   case e3=>exact Dj
   refine Ad (hs:=?q4) ?e4 ?r4
   case q4=>rfl
   case e4=>exact Dj
   refine Ad (hs:=?q5) ?e5 ?r5
   case q5=>rfl
   case e5=>exact Dj
   refine Ad (hs:=?q6) ?e6 ?r6
   case q6=>rfl
   case e6=>exact Dj
   refine Ad (hs:=?q7) ?e7 ?r7
   case q7=>rfl
   case e7=>exact Dj
   refine Ad (hs:=?q8) ?e8 ?r8
   case q8=>rfl
   case e8=>exact Dj
   refine Ad (hs:=?q9) ?e9 ?r9
   case q9=>rfl
   case e9=>exact Dj
   refine Ad (hs:=?q10) ?e10 ?r10
   case q10=>rfl
   case e10=>exact Dj
   refine Ad (hs:=?q11) ?e11 ?r11
   case q11=>rfl
   case e11=>exact Dj
   exact Ae
 refine Ah ?s2 ?t2
 case s2=>exact (Au (i:=4) (by exact Ds.nd) (Aq (Be C) (hr.mono (by decide)) (by rfl) C.uj C.uh.kp C.ui (Ad (Ag 0) (Ad Ai Ae))))
 refine Ah ?s3 ?t3
 case s3=>exact (Au (i:=5) (by exact Ds.nd) (Ih PySem.F.plainAttrs_str PySem.F.slot_str_join PySem.F.type_str_join Aih Afw Dj (Ad (Dw (N':=["k","letters","deck"]) (ix:=[none,some 2,some 0]) ⟨rfl,rfl,rfl,rfl,rfl,rfl⟩ rfl (Ku (by rfl) C.xx (Ad Ai Ae)) (fun _ _ _ _ _ _=>(Az (i:=0) (show cQ (α:=Str) ["k","letters","deck"] by decide +kernel))) (fun _ _ _ _ _ _=>(Bm A9 Ba (Ag 1) (Aq (Be C) (hr.mono (by decide)) (by rfl) C.uj C.uh.kp C.ui (Ad (Ag 2) (Ad Ai Ae))) (fun _ _=>rfl)))) Ae)))
 refine Ah ?s4 ?t4
 case s4=>exact (Au (i:=6) (by exact Ds.nd) (Aq (Be C) (hr.mono (by decide)) (by rfl) C.uj C.uh.kp C.ui (Ad (Ag 0) (Ad Ai Ae))))
 refine Ah ?s5 ?t5
 case s5=>exact (Au (i:=7) (by exact Ds.nd) (Aq (Be C) (hr.mono (by decide)) (by rfl) C.uj C.uh.kp C.ui (Ad (Ag 0) (Ad Ai Ae))))
 refine Ah ?s6 ?t6
 case s6=>exact (Au (i:=3) (by exact Ds.nd) (Cg Nf Nq (Ag 3) (B5 (Bk Eu Et Ai (Ag 7))) Ce))
 refine Ah ?s7 ?t7
 case s7=>exact (Es dF rfl (Ku (by rfl) C.xx (Ad Ai Ae)) (Az (i:=8) (by exact Ds.nd)) (Ah (Au (i:=9) (by exact Ds.nd) (Bm A9 Ba (Ag 2) (Bk Mh Jq (Bk C2 C1 (Ag 4) (Ag 8)) Ai) (fun _ _=>rfl))) (Ao (Dm (Ih cD fF fG Iu Hg (Ag 3) (Ad (Bm A9 Ba (C9 (Ad (Bk C2 C1 (Ag 9) (Bk Eu Et (Bm A9 Ba Dj (Bk O6 Q4 (Ag 8) Ai) (fun _ _=>rfl)) (Bk C2 C1 Ai (Bk Mh Jq (Ag 8) Ai)))) (Ad (Bk C2 C1 (Bk C2 C1 (Bk C2 C1 (Cg Nf Nq (Ag 5) Ce (B5 (Ag 6))) (Ag 9)) (Bm A9 Ba Dj (Bk O6 Q4 (Ag 8) Ai) (fun _ _=>rfl))) (Cg Nf Nq (Ag 5) (B5 (Ag 6)) Ce)) Ae))) (Ag 7) (fun _ _=>rfl)) Ae))))))
 exact (Ao (Bh (Dw (N':=["k","spare","deck"]) (ix:=[none,some 3,some 0]) ⟨rfl,rfl,rfl,rfl,rfl,rfl⟩ rfl (Ku (by rfl) C.xx (Ad (Ag 1) Ae)) (fun _ _ _ _ _ _=>(Az (i:=0) (show cQ (α:=Str) ["k","spare","deck"] by decide +kernel))) (fun _ _ _ _ _ _=>(Ih cD iN kM Xn Acm (Ag 1) (Ad (Aq (Be C) (hr.mono (by decide)) (by rfl) C.uj C.uh.kp C.ui (Ad (Ag 2) (Ad (Bg By Cj (by rfl) C.xu cG (Ad (Ag 1) Ae)) Ae))) Ae))))))
theorem Qs(C:Defs K mg):FnOk P w K mg base CX0 2 C.vP C.vQ ["deck","kind"] (spF K 2 Ea):=by
 refine Fun.okF (N:=["deck","kind","far"]) C.vR Qn (fun cdv A outer s H E hr=>?_)
 have hu:=hr.units
 refine Ah ?s0 ?t0
 case s0=>exact (B9 (Bf Akx Ahh (Ag 1) Ai (Bi _)) (Ao (Bh (Bk Vt Q8 (Aq (Be C) (hr.mono (by decide)) (by rfl) C.uj C.uh.kp C.ui (Ad (Ag 0) (Ad (Bm A9 Ba (C9 (Ad Ai (Ad Ai Ae))) (Ag 1) (fun _ _=>rfl)) Ae))) (Bm A9 Ba (C9 (Ad Ai (Ad Ai Ae))) (Ag 1) (fun _ _=>rfl))))) Bw)
 refine Ah ?s1 ?t1
 case s1=>exact (Au (i:=2) (by exact Qn.nd) (Bk C2 C1 (Bk Eu Et (Aq (Be C) (hr.mono (by decide)) (by rfl) C.uj C.uh.kp C.ui (Ad (Ag 0) (Ad (Bk Te Pt Ai Ai) Ae))) (Bk Te Pt Ai Ai)) (Aq (Be C) (hr.mono (by decide)) (by rfl) C.uj C.uh.kp C.ui (Ad (Ag 0) (Ad (Bk Te Pt Ai Ai) Ae)))))
 exact (Ao (Bh (Bk Eu Et (Ag 2) (Bm A9 Ba (C9 (Ad Ai (Ad (Kt Ai) Ae))) (Aq (Be C) (hr.mono (by decide)) (by rfl) C.uj C.uh.kp C.ui (Ad (Ag 0) (Ad Ai Ae))) (fun _ _=>rfl)))))
theorem Xo(C:Defs K mg):FnOk P w K mg base CX0 3 C.vU C.vV ["deck","most"] (spF K 2 Ll):=by
 refine Fun.okF (N:=["deck","most","kind","way","found","name","x","y"]) C.vW Cz (fun cdv A outer s H E hr=>?_)
 have hu:=hr.units
 refine Ah ?s0 ?t0
 case s0=>exact (Au (i:=2) (by exact Cz.nd) (Aq (Be C) (hr.mono (by decide)) (by rfl) C.uj C.uh.kp C.ui (Ad (Ag 0) (Ad Ai Ae))))
 refine Ah ?s1 ?t1
 case s1=>exact (Au (i:=3) (by exact Cz.nd) (Aq (Be C) (hr.mono (by decide)) (by rfl) C.uj C.uh.kp C.ui (Ad (Ag 0) (Ad Ai Ae))))
 refine Ah ?s2 ?t2
 case s2=>exact (Au (i:=4) (by exact Cz.nd) (C9 Ae))
 refine Ah ?s3 ?t3
 case s3=>exact (Es dF rfl (B1 (Aq (Y0 C) (hr.mono (by decide)) (by rfl) C.vO C.vM.kp C.vN (Ad (Ag 0) (Ad (Aq (Be C) (hr.mono (by decide)) (by rfl) C.uj C.uh.kp C.ui (Ad (Ag 0) (Ad (Bk C2 C1 (Ag 1) Ai) Ae))) Ae)))) (Az (i:=5) (by exact Cz.nd)) (Ah (Au (i:=6) (by exact Cz.nd) (Aq (Qs C) (hr.mono (by decide)) (by rfl) C.vT C.vR.kp C.vS (Ad (Ag 0) (Ad (Ag 2) Ae)))) (Ah (Au (i:=7) (by exact Cz.nd) (Aq (Qs C) (hr.mono (by decide)) (by rfl) C.vT C.vR.kp C.vS (Ad (Ag 0) (Ad (Ag 2) Ae)))) (Ah (B9 (Bf (Cm hu) Co (Ag 3) Ai (Bi _)) (Ao (Au (i:=7) (by exact Cz.nd) (Bk C2 C1 (Ag 6) (Bk Eu Et (Aq (Be C) (hr.mono (by decide)) (by rfl) C.uj C.uh.kp C.ui (Ad (Ag 0) (Ad Ai Ae))) (Cr U9 Aca (by rfl) C.xq (by decide +kernel) (Ad (Ja Akx Ahh (Bg Sd V5 (by rfl) C.xl (by decide +kernel) (Ad (Ag 6) Ae)) (Bk Te Pt Ai Ai) (Bi _)) Ae)))))) Bw) (Ah (B9 (Bf (Cm hu) Co (Ag 3) Ai (Bi _)) (Ao (Au (i:=7) (by exact Cz.nd) (Bk Vt Q8 Ai (Ag 6)))) Bw) (Ah (B9 (PWF.pt (K1 (Bf (Ia hu) Ie (Ag 4) (C9 Ae) (Bi _)) (Ke (Bf (Cm hu) Co (Aq (Be C) (hr.mono (by decide)) (by rfl) C.uj C.uh.kp C.ui (Ad (Ag 0) (Ad Ai Ae))) Ai (Bi _))))) (Ao (G3 (Cg P8 Mm (Bm A9 Ba (Ag 4) (Aq (Be C) (hr.mono (by decide)) (by rfl) C.uj C.uh.kp C.ui (Ad (Ag 0) (Ad (Bg By Cj (by rfl) C.xu cG (Ad (Ag 4) Ae)) Ae))) (fun _ _=>rfl)) (B5 Ai) Ce) (Hs rfl (B3 (Az (i:=6) (by exact Cz.nd)) (B3 (Az (i:=7) (by exact Cz.nd)) Fw))))) Bw) (Ah (B9 (PWF.pt (K1 (Bf (Ia hu) Ie (Ag 4) (C9 Ae) (Bi _)) (Ke (Bf (Cm hu) Co (Aq (Be C) (hr.mono (by decide)) (by rfl) C.uj C.uh.kp C.ui (Ad (Ag 0) (Ad Ai Ae))) Ai (Bi _))))) (Ao (Au (i:=6) (by exact Cz.nd) (Bm A9 Ba (Bm A9 Ba (Ag 4) (Aq (Be C) (hr.mono (by decide)) (by rfl) C.uj C.uh.kp C.ui (Ad (Ag 0) (Ad (Bg By Cj (by rfl) C.xu cG (Ad (Ag 4) Ae)) Ae))) (fun _ _=>rfl)) Ai (fun _ _=>rfl)))) Bw) (Ao (Dm (Ih cD fF fG Iu Hg (Ag 4) (Ad (D0 (Ad (Ag 5) (Ad (Ag 6) (Ad (Ag 7) Ae)))) Ae)))))))))))
 exact (Ao (Bh (Cr B7 Dk (by rfl) C.xB (by decide +kernel) (Ad (Ag 4) Ae))))
theorem Ik(C:Defs K mg):FnOk P w K mg base CX0 2 C.vZ C.wa ["deck","points"] (spF K 2 Cc):=by
 refine Fun.okF (N:=["deck","points","names","near","some","left"]) C.wb G4 (fun cdv A outer s H E hr=>?_)
 have hu:=hr.units
 refine Ah ?s0 ?t0
 case s0=>exact (Au (i:=2) (by exact G4.nd) (Dw (N':=["point"]) (ix:=[none]) ⟨rfl,rfl,rfl,rfl,rfl,rfl⟩ rfl (B1 (Ag 1)) (fun _ _ _ _ _ _=>(Az (i:=0) (show cQ (α:=Str) ["point"] by decide +kernel))) (fun _ _ _ _ _ _=>(Bm A9 Ba (Ag 0) Ai (fun _ _=>rfl)))))
 refine Ah ?s1 ?t1
 case s1=>exact (Au (i:=3) (by exact G4.nd) (Bm A9 Ba (Bk C2 C1 (Ag 2) (C9 (Ad Dj Ae))) (Aq (Be C) (hr.mono (by decide)) (by rfl) C.uj C.uh.kp C.ui (Ad (Ag 0) (Ad (Bk C2 C1 (Bg By Cj (by rfl) C.xu cG (Ad (Ag 2) Ae)) Ai) Ae))) (fun _ _=>rfl)))
 refine Ah ?s2 ?t2
 case s2=>
  refine Au (i:=4) (hi:=?h1_2) (hx:=?h2_2) (hf:=?h3_2) (hs:=?h4_2) ?h5_2 ?h6_2
  case h1_2=>rfl
  case h2_2=>first | exact oA rfl | exact mC rfl
  case h3_2=>first | exact .inl rfl | exact .inr rfl
  case h4_2=>rfl
  case h5_2=>exact (by exact G4.nd)
  case h6_2=>
   refine C9 ?g
   refine Ad (hs:=?q0) ?e0 ?r0
   case q0=>rfl
   case e0=>exact (Bk C2 C1 (Cg Nf Nq (Ag 3) Ce (B5 (Kt Ai))) Dj)
   refine Ad (hs:=?q1) ?e1 ?r1
   case q1=>rfl
   case e1=>exact (Cg Nf Nq (Bk C2 C1 (Ag 3) Dj) Ce (B5 Ai))
   refine Ad (hs:=?q2) ?e2 ?r2
   case q2=>rfl
   case e2=>exact (Bk C2 C1 (Cg Nf Nq (Ag 3) (B5 Ai) Ce) Dj)
   refine Ad (hs:=?q3) ?e3 ?r3
   case q3=>rfl
   case e3=>exact Dj
   refine Ad (hs:=?q4) ?e4 ?r4
   case q4=>rfl
   case e4=>exact Dj
   exact Ae
 refine Ah ?s3 ?t3
 case s3=>exact (Ng (i:=5) (N':=["name","names"]) (ix:=[none,some 2]) (by exact G4.nd) ⟨rfl,rfl,rfl,rfl,rfl,rfl⟩ rfl (B1 (Ag 4)) (fun _ _ _ _ _ _=>(Az (i:=0) (show cQ (α:=Str) ["name","names"] by decide +kernel))) (fun _ _ _ _ _ _=>(Bf Adk (Aaa true) (Ag 0) (Ag 1) (by with_unfolding_all rfl))) (fun _ _ _ _ _ _=>(Ag 0)))
 exact (Ao (Bh (Bm A9 Ba (Ag 5) (Aq (Be C) (hr.mono (by decide)) (by rfl) C.uj C.uh.kp C.ui (Ad (Ag 0) (Ad (Bg By Cj (by rfl) C.xu cG (Ad (Ag 5) Ae)) Ae))) (fun _ _=>rfl))))
theorem Ov(C:Defs K mg):FnOk P w K mg base CX0 3 C.wf C.wg ["deck","points","cover"] (spF K 3 Fb):=by
 refine Fun.okF (N:=["deck","points","cover","rows","way","at","other","place"]) C.wj C6 (fun cdv A outer s H E hr=>?_)
 have hu:=hr.units
 refine Ah ?s0 ?t0
 case s0=>exact (Ahy (i:=3) (N':=["chain"]) (ix:=[none]) (by exact C6.nd) ⟨rfl,rfl,rfl,rfl,rfl,rfl⟩ rfl (B1 (Ag 2)) (fun _ _ _ _ _ _=>(Az (i:=0) (show cQ (α:=Str) ["chain"] by decide +kernel))) (fun _ _ _ _ _ _=>(Cr Pz Ws (by rfl) C.xw (by decide +kernel) (Ad (Ag 0) Ae))))
 refine Ah ?s1 ?t1
 case s1=>exact (Au (i:=4) (by exact C6.nd) (Aq (Be C) (hr.mono (by decide)) (by rfl) C.uj C.uh.kp C.ui (Ad (Ag 0) (Ad Ai Ae))))
 refine Ah ?s2 ?t2
 case s2=>exact (B9 (Bf (Cm hu) Co (Ag 3) (C9 Ae) (Bi _)) (Ao (Bh (Bm A9 Ba (C9 (Ad (D0 Ae) (Ad (D0 (Ad (D0 Ae) Ae)) (Ad (D0 (Ad (D0 (Ad (Aq (Ik C) (hr.mono (by decide)) (by rfl) C.we C.wb.kp C.wd (Ad (Ag 0) (Ad (Ag 1) Ae))) Ae)) Ae)) Ae)))) (Aq (Be C) (hr.mono (by decide)) (by rfl) C.uj C.uh.kp C.ui (Ad (Ag 0) (Ad Ai Ae))) (fun _ _=>rfl)))) Bw)
 refine Ah ?s3 ?t3
 case s3=>exact (Au (i:=5) (by exact C6.nd) (Aq (Be C) (hr.mono (by decide)) (by rfl) C.uj C.uh.kp C.ui (Ad (Ag 0) (Ad (Bg By Cj (by rfl) C.xu cG (Ad (Ag 3) Ae)) Ae))))
 refine Ah ?s4 ?t4
 case s4=>exact (Au (i:=6) (by exact C6.nd) (Aq (Be C) (hr.mono (by decide)) (by rfl) C.uj C.uh.kp C.ui (Ad (Ag 0) (Ad (Bg By Cj (by rfl) C.xu cG (Ad (Ag 3) Ae)) Ae))))
 refine Ah ?s5 ?t5
 case s5=>exact (Au (i:=7) (by exact C6.nd) (Aq (Be C) (hr.mono (by decide)) (by rfl) C.uj C.uh.kp C.ui (Ad (Ag 0) (Ad (Bk Ge Eg (Bg By Cj (by rfl) C.xu cG (Ad (Bm A9 Ba (Ag 3) (Ag 5) (fun _ _=>rfl)) Ae)) Ai) Ae))))
 refine Ah ?s6 ?t6
 case s6=>exact (B9 (Bf (Cm hu) Co (Ag 4) Ai (Bi _)) (Ao (G3 (Bk Ge Eg (Cg G7 G5 (Bm A9 Ba (Ag 3) (Ag 5) (fun _ _=>rfl)) Ce (B5 (Ag 7))) (Cg G7 G5 (Bm A9 Ba (Ag 3) (Ag 5) (fun _ _=>rfl)) (B5 (Bk Ge Eg (Ag 7) Ai)) Ce)) (Ii (Ag 3) (Ag 5)))) Bw)
 refine Ah ?s7 ?t7
 case s7=>exact (B9 (Bf (Cm hu) Co (Ag 4) Ai (Bi _)) (Ao (Dm (Ih cD gD gE Km Jd (Bm A9 Ba (Ag 3) (Ag 6) (fun _ _=>rfl)) (Ad (Aq (Be C) (hr.mono (by decide)) (by rfl) C.uj C.uh.kp C.ui (Ad (Ag 0) (Ad (Bk Ge Eg (Bg By Cj (by rfl) C.xu cG (Ad (Bm A9 Ba (Ag 3) (Ag 6) (fun _ _=>rfl)) Ae)) Ai) Ae))) (Ad (Bm A9 Ba (Bm A9 Ba (Ag 3) (Ag 5) (fun _ _=>rfl)) Ai (fun _ _=>rfl)) Ae))))) Bw)
 refine Ah ?s8 ?t8
 case s8=>exact (B9 (Bf (Cm hu) Co (Ag 4) Ai (Bi _)) (Ao (G3 (Aq (Ik C) (hr.mono (by decide)) (by rfl) C.we C.wb.kp C.wd (Ad (Ag 0) (Ad (Ag 1) Ae))) (Ii (Bm A9 Ba (Ag 3) (Ag 5) (fun _ _=>rfl)) (Kt Ai)))) Bw)
 refine Ah ?s9 ?t9
 case s9=>exact (B9 (Bf (Cm hu) Co (Ag 4) Ai (Bi _)) (Ao (Dm (Ih cD gD gE Km Jd (Bm A9 Ba (Ag 3) (Ag 5) (fun _ _=>rfl)) (Ad (Ag 7) (Ad (Aq (Ik C) (hr.mono (by decide)) (by rfl) C.we C.wb.kp C.wd (Ad (Ag 0) (Ad (Ag 1) Ae))) Ae))))) Bw)
 refine Ah ?s10 ?t10
 case s10=>exact (B9 (Bf (Cm hu) Co (Ag 4) Ai (Bi _)) (Ao (G3 (Bk Ge Eg (Bm A9 Ba (Ag 3) (Ag 6) (fun _ _=>rfl)) (C9 (Ad (Am8 cD iN kM Al2 Ahr (Bm A9 Ba (Ag 3) (Ag 5) (fun _ _=>rfl))) Ae))) (Ii (Ag 3) (Ag 6)))) Bw)
 refine Ah ?s11 ?t11
 case s11=>exact (B9 (Bf (Cm hu) Co (Ag 4) Ai (Bi _)) (Ah (Dm (Ih cD fF fG Iu Hg (Ag 3) (Ad (Cg G7 G5 (Bm A9 Ba (Ag 3) (Ag 5) (fun _ _=>rfl)) (B5 (Ag 7)) Ce) Ae))) (Ao (G3 (Cg G7 G5 (Bm A9 Ba (Ag 3) (Ag 5) (fun _ _=>rfl)) Ce (B5 (Ag 7))) (Ii (Ag 3) (Ag 5))))) Bw)
 refine Ah ?s12 ?t12
 case s12=>exact (B9 (Bf (Cm hu) Co (Ag 4) Ai (Bi _)) (Ao (G3 (Agv (Bm A9 Ba (Ag 3) (Ag 5) (fun _ _=>rfl))) (Ii (Ag 3) (Ag 5)))) Bw)
 refine Ah ?s13 ?t13
 case s13=>exact (B9 (Bf (Cm hu) Co (Ag 4) Ai (Bi _)) (Ao (Dm (Ih cD gD gE Km Jd (Ag 3) (Ad (Ag 5) (Ad (C9 Ae) Ae))))) Bw)
 refine Ah ?s14 ?t14
 case s14=>exact (B9 (PWF.pt (K1 (Bf (Cm hu) Co (Ag 4) Ai (Bi _)) (Ke (Bf (Ia hu) Ie (Ag 5) (Ag 6) (Bi _))))) (Ah (G3 (Bk Ge Eg (Bm A9 Ba (Ag 3) (Ag 5) (fun _ _=>rfl)) (Bm A9 Ba (Ag 3) (Ag 6) (fun _ _=>rfl))) (Ii (Ag 3) (Ag 5))) (Ao (Dm (Ih cD iN kM Xn Acm (Ag 3) (Ad (Ag 6) Ae))))) Bw)
 exact (Ao (Bh (Cr B7 Dk (by rfl) C.xB (by decide +kernel) (Ad (Dw (N':=["chain"]) (ix:=[none]) ⟨rfl,rfl,rfl,rfl,rfl,rfl⟩ rfl (B1 (Ag 3)) (fun _ _ _ _ _ _=>(Az (i:=0) (show cQ (α:=Str) ["chain"] by decide +kernel))) (fun _ _ _ _ _ _=>(Cr B7 Dk (by rfl) C.xB (by decide +kernel) (Ad (Ag 0) Ae)))) Ae))))
theorem Pn(C:Defs K mg):FnOk P w K mg base CX0 3 C.wn C.wo ["deck","points","crowd"] (spF K 3 Fd):=by
 refine Fun.okF (N:=["deck","points","crowd","some","way","at"]) C.wt Cw (fun cdv A outer s H E hr=>?_)
 have hu:=hr.units
 refine Ah ?s0 ?t0
 case s0=>exact (Au (i:=3) (by exact Cw.nd) (Cr Pz Ws (by rfl) C.xw (by decide +kernel) (Ad (Ag 2) Ae)))
 refine Ah ?s1 ?t1
 case s1=>exact (Au (i:=4) (by exact Cw.nd) (Aq (Be C) (hr.mono (by decide)) (by rfl) C.uj C.uh.kp C.ui (Ad (Ag 0) (Ad Ai Ae))))
 refine Ah ?s2 ?t2
 case s2=>exact (Au (i:=5) (by exact Cw.nd) (Aq (Be C) (hr.mono (by decide)) (by rfl) C.uj C.uh.kp C.ui (Ad (Ag 0) (Ad (Bk Ge Eg (Bg By Cj (by rfl) C.xu cG (Ad (Ag 3) Ae)) Ai) Ae))))
 refine Ah ?s3 ?t3
 case s3=>exact (B9 (PWF.pt (K1 (Bf (Cm hu) Co (Ag 4) Ai (Bi _)) (Ke (Bf (Ia hu) Ie (Ag 1) (D0 Ae) (Bi _))))) (Ao (Dm (Ih cD gD gE Km Jd (Ag 3) (Ad (Ag 5) (Ad (Bm A9 Ba (Bm A9 Ba (Ag 1) (Aq (Be C) (hr.mono (by decide)) (by rfl) C.uj C.uh.kp C.ui (Ad (Ag 0) (Ad (Bg By Cj (by rfl) C.xu cG (Ad (Ag 1) Ae)) Ae))) (fun _ _=>rfl)) Ai (fun _ _=>rfl)) Ae))))) Bw)
 refine Ah ?s4 ?t4
 case s4=>exact (B9 (Bf (Cm hu) Co (Ag 4) Ai (Bi _)) (Ao (Au (i:=3) (by exact Cw.nd) (Bk Ge Eg (Cg G7 G5 (Ag 3) Ce (B5 (Ag 5))) (Cg G7 G5 (Ag 3) (B5 (Bk Ge Eg (Ag 5) Ai)) Ce)))) Bw)
 refine Ah ?s5 ?t5
 case s5=>exact (B9 (Bf (Cm hu) Co (Ag 4) Ai (Bi _)) (Ao (Dm (Ih cD gD gE Km Jd (Ag 3) (Ad (Ag 5) (Ad (Aq (Ik C) (hr.mono (by decide)) (by rfl) C.we C.wb.kp C.wd (Ad (Ag 0) (Ad (Ag 1) Ae))) Ae))))) Bw)
 refine Ah ?s6 ?t6
 case s6=>exact (B9 (PWF.pt (K1 (Bf (Cm hu) Co (Ag 4) Ai (Bi _)) (K1 (Bf (Ia hu) Ie (Ag 1) (D0 Ae) (Bi _)) (Ke (Bf (Ia hu) Ie (Ag 3) (C9 Ae) (Bi _)))))) (Ao (G3 (Bm A9 Ba (Bm A9 Ba (Ag 1) (Aq (Be C) (hr.mono (by decide)) (by rfl) C.uj C.uh.kp C.ui (Ad (Ag 0) (Ad (Bg By Cj (by rfl) C.xu cG (Ad (Ag 1) Ae)) Ae))) (fun _ _=>rfl)) Ai (fun _ _=>rfl)) (Ii (Ag 3) (Bk Vt Q8 (Ag 5) Ai)))) Bw)
 refine Ah ?s7 ?t7
 case s7=>exact (B9 (Bf (Cm hu) Co (Ag 4) Ai (Bi _)) (Ao (Au (i:=3) (by exact Cw.nd) (Bk Ge Eg (Cg G7 G5 (Ag 3) (B5 (Ag 5)) Ce) (Cg G7 G5 (Ag 3) Ce (B5 (Ag 5)))))) Bw)
 refine Ah ?s8 ?t8
 case s8=>exact (B9 (Bf (Cm hu) Co (Ag 4) Ai (Bi _)) (Ao (Au (i:=3) (by exact Cw.nd) (Bk Ge Eg (Agv (Ag 3)) (Bk Eu Et (Cg G7 G5 (Ag 3) Ce (B5 Ai)) (Cr U9 Aca (by rfl) C.xq (by decide +kernel) (Ad (Ja (Cm hu) Co (Ag 5) Ai (Bi _)) Ae)))))) Bw)
 exact (Ao (Bh (Cr B7 Dk (by rfl) C.xB (by decide +kernel) (Ad (Ag 3) Ae))))
theorem Ya(C:Defs K mg):FnOk P w K mg base CX0 2 C.ww C.wx ["places","names"] (spF K 2 Oj):=by
 refine Fun.okF (N:=["places","names"]) C.wy Xt (fun cdv A outer s H E hr=>?_)
 have hu:=hr.units
 exact (Ao (Bh (Bg (Qb rfl) Wr (by rfl) C.xm kL (Ad (Dw (N':=["one","other","places"]) (ix:=[none,none,some 0]) ⟨rfl,rfl,rfl,rfl,rfl,rfl⟩ rfl (Sh (by rfl) C.xC (Ad (Ag 1) (Ad (Cg G7 G5 (Ag 1) (B5 Ai) Ce) Ae))) (fun _ _ _ _ _ _=>(Hs rfl (B3 (Az (i:=0) (show cQ (α:=Str) ["one","other","places"] by decide +kernel)) (B3 (Az (i:=1) (show cQ (α:=Str) ["one","other","places"] by decide +kernel)) Fw)))) (fun _ _ _ _ _ _=>(Aq (Ht C) (hr.mono (by decide)) (by rfl) C.uL C.uJ.kp C.uK (Ad (Np hu (Ag 2) (Ag 0) (fun _ _=>rfl)) (Ad (Np hu (Ag 2) (Ag 1) (fun _ _=>rfl)) Ae))))) Ae))))
theorem Ye(C:Defs K mg):FnOk P w K mg base CX0 3 C.wB C.wC ["points","cover"] (spF K 2 Gi):=by
 refine Fun.okF (N:=["points","cover","places","point","covered","chain"]) C.wD Hx (fun cdv A outer s H E hr=>?_)
 have hu:=hr.units
 refine Ah ?s0 ?t0
 case s0=>exact (Au (i:=2) (by exact Hx.nd) Ajs)
 refine Ah ?s1 ?t1
 case s1=>exact (Es dF rfl (B1 (Ag 0)) (Az (i:=3) (by exact Hx.nd)) (Ao (Ags hu (Ag 2) (Bm A9 Ba (Ag 3) Ai (fun _ _=>rfl)) (Aq (E6 C) (hr.mono (by decide)) (by rfl) C.uQ C.uO.kp C.uP (Ad (Ag 3) Ae)))))
 refine Ah ?s2 ?t2
 case s2=>exact (Au (i:=4) (by exact Hx.nd) (C9 Ae))
 refine Ah ?s3 ?t3
 case s3=>exact (Es dF rfl (B1 (Ag 1)) (Az (i:=5) (by exact Hx.nd)) (Ao (Dm (Ih cD iT nE Acx Wv (Ag 4) (Ad (Ag 5) Ae)))))
 exact (Ao (Bh (Ms (Ja (Cm hu) Co (Bg (Ju rfl) K7 (by rfl) C.xz fE (Ad (Ag 4) Ae)) (Bg (Ju rfl) K7 (by rfl) C.xz fE (Ad (Ag 2) Ae)) (Bi _)) (P1 (Bg (Qb rfl) Wr (by rfl) C.xm kL (Ad (Dw (N':=["chain","places"]) (ix:=[none,some 2]) ⟨rfl,rfl,rfl,rfl,rfl,rfl⟩ rfl (B1 (Ag 1)) (fun _ _ _ _ _ _=>(Az (i:=0) (show cQ (α:=Str) ["chain","places"] by decide +kernel))) (fun _ _ _ _ _ _=>(Aq (Ya C) (hr.mono (by decide)) (by rfl) C.wA C.wy.kp C.wz (Ad (Ag 1) (Ad (Ag 0) Ae))))) Ae))))))
theorem Ue(C:Defs K mg):FnOk P w K mg base CX0 2 C.wG C.wH ["places","place"] (spF K 2 Ks):=by
 refine Fun.okF (N:=["places","place"]) C.wI T3 (fun cdv A outer s H E hr=>?_)
 have hu:=hr.units
 exact (Ao (Bh (Bg By Cj (by rfl) C.xu cG (Ad (O0 (N':=["other","place"]) (ix:=[none,some 1]) ⟨rfl,rfl,rfl,rfl,rfl,rfl⟩ rfl (B1 (Ag 0)) (fun _ _ _ _ _ _=>(Az (i:=0) (show cQ (α:=Str) ["other","place"] by decide +kernel))) (fun _ _ _ _ _ _=>(Jr (Aq (Ht C) (hr.mono (by decide)) (by rfl) C.uL C.uJ.kp C.uK (Ad (Ag 0) (Ad (Ag 1) Ae))))) (fun _ _ _ _ _ _=>(Ag 0))) Ae))))
theorem Uj(C:Defs K mg):FnOk P w K mg base CX0 3 C.wL C.wM ["points"] (spF K 1 Ko):=by
 refine Fun.okF (N:=["points","places"]) C.wN N3 (fun cdv A outer s H E hr=>?_)
 have hu:=hr.units
 refine Ah ?s0 ?t0
 case s0=>exact (Au (i:=1) (by exact N3.nd) (Dw (N':=["point"]) (ix:=[none]) ⟨rfl,rfl,rfl,rfl,rfl,rfl⟩ rfl (B1 (Ag 0)) (fun _ _ _ _ _ _=>(Az (i:=0) (show cQ (α:=Str) ["point"] by decide +kernel))) (fun _ _ _ _ _ _=>(Aq (E6 C) (hr.mono (by decide)) (by rfl) C.uQ C.uO.kp C.uP (Ad (Ag 0) Ae)))))
 exact (Ao (Bh (Cr B7 Dk (by rfl) C.xB (by decide +kernel) (Ad (Dw (N':=["place","places"]) (ix:=[none,some 1]) ⟨rfl,rfl,rfl,rfl,rfl,rfl⟩ rfl (B1 (Ag 1)) (fun _ _ _ _ _ _=>(Az (i:=0) (show cQ (α:=Str) ["place","places"] by decide +kernel))) (fun _ _ _ _ _ _=>(Aq (Ue C) (hr.mono (by decide)) (by rfl) C.wK C.wI.kp C.wJ (Ad (Ag 1) (Ad (Ag 0) Ae))))) Ae))))
theorem Qy(C:Defs K mg):FnOk P w K mg base CX0 4 C.wQ C.wR ["points"] (spF K 1 Ez):=by
 refine Fun.okF (N:=["points"]) C.wS Qv (fun cdv A outer s H E hr=>?_)
 have hu:=hr.units
 exact (Ao (Bh (Bg (Adf rfl) Ajf (by rfl) C.xA PyProof.Rows.boot_sum (Ad (Aq (Uj C) (hr.mono (by decide)) (by rfl) C.wP C.wN.kp C.wO (Ad (Ag 0) Ae)) Ae))))
theorem Yk(C:Defs K mg):FnOk P w K mg base CX0 5 C.wV C.wW ["points","crowd"] (spF K 2 Ey):=by
 refine Fun.okF (N:=["points","crowd","found"]) C.wX Qp (fun cdv A outer s H E hr=>?_)
 have hu:=hr.units
 refine Ah ?s0 ?t0
 case s0=>exact (Ng (i:=2) (N':=["point","crowd"]) (ix:=[none,some 1]) (by exact Qp.nd) ⟨rfl,rfl,rfl,rfl,rfl,rfl⟩ rfl (B1 (Ag 0)) (fun _ _ _ _ _ _=>(Az (i:=0) (show cQ (α:=Str) ["point","crowd"] by decide +kernel))) (fun _ _ _ _ _ _=>(Bf Ag1 (Aaa false) (Bm A9 Ba (Ag 0) Ai (fun _ _=>rfl)) (Ag 1) (by with_unfolding_all rfl))) (fun _ _ _ _ _ _=>(Ag 0)))
 exact (Ao (Bh (Ms (Ja (Cm hu) Co (Bg By Cj (by rfl) C.xu cG (Ad (Ag 2) Ae)) (Bg By Cj (by rfl) C.xu cG (Ad (Ag 1) Ae)) (Bi _)) (P1 (Ja (Cm hu) Co (Aq (Qy C) (hr.mono (by decide)) (by rfl) C.wU C.wS.kp C.wT (Ad (Ag 2) Ae)) Ai (Bi _))))))
theorem Se(C:Defs K mg):FnOk P w K mg base CX0 6 C.w6 C.xa ["points","cover","crowd"] (spF K 3 Hv):=by
 refine Fun.okF (N:=["points","cover","crowd"]) C.xb Tn (fun cdv A outer s H E hr=>?_)
 have hu:=hr.units
 exact (Ao (Bh (Ms (Ja (Cm hu) Co (Bg By Cj (by rfl) C.xu cG (Ad (Ag 1) Ae)) (Bg By Cj (by rfl) C.xu cG (Ad (Ag 2) Ae)) (Bi _)) (Ms (Aq (Ye C) (hr.mono (by decide)) (by rfl) C.wF C.wD.kp C.wE (Ad (Ag 0) (Ad (Ag 1) Ae))) (P1 (Aq (Yk C) (hr.mono (by decide)) (by rfl) C.wZ C.wX.kp C.wY (Ad (Ag 0) (Ad (Ag 2) Ae))))))))
theorem Alo(C:Defs K mg):FnOk P w K mg base CX0 7 C.xg C.xh ["script"] (spF K 1 Acl):=by
 refine Fun.okF (N:=["script","deck","turn","points","cover","crowd","spoilt","other","rows","names","due","found"]) C.xi Ib (fun cdv A outer s H E hr=>?_)
 have hu:=hr.units
 refine Ah ?s0 ?t0
 case s0=>exact (Au (i:=1) (by exact Ib.nd) (Aq (Ad6 C) (hr.mono (by decide)) (by rfl) C.ue C.uc.kp C.ud (Ad (Ag 0) Ae)))
 refine Ah ?s1 ?t1
 case s1=>exact (Es dF rfl (Ku (by rfl) C.xx (Ad Ai Ae)) (Az (i:=2) (by exact Ib.nd)) (Ah (Au (i:=3) (by exact Ib.nd) (Aq (Xo C) (hr.mono (by decide)) (by rfl) C.vY C.vW.kp C.vX (Ad (Ag 1) (Ad (Bm A9 Ba (C9 (by refine Ad Ai ?_;refine Ad Ai ?_;refine Ad Ai ?_;refine Ad Ai ?_;refine Ad Ai ?_;exact Ae)) (Aq (Be C) (hr.mono (by decide)) (by rfl) C.uj C.uh.kp C.ui (Ad (Ag 1) (Ad Ai Ae))) (fun _ _=>rfl)) Ae)))) (Ah (G3 (Aq (Acy C) (hr.mono (by decide)) (by rfl) C.vJ C.vH.kp C.vI (Ad (Ag 1) (Ad (Ag 3) Ae))) (Agp rfl (B3 (Az (i:=4) (by exact Ib.nd)) (B3 (Az (i:=5) (by exact Ib.nd)) Fw)))) (Ah (Au (i:=6) (by exact Ib.nd) (Aq (Ov C) (hr.mono (by decide)) (by rfl) C.wm C.wj.kp C.wk (Ad (Ag 1) (Ad (Ag 3) (Ad (Ag 4) Ae))))) (Ah (Au (i:=7) (by exact Ib.nd) (Aq (Pn C) (hr.mono (by decide)) (by rfl) C.wv C.wt.kp C.wu (Ad (Ag 1) (Ad (Ag 3) (Ad (Ag 5) Ae))))) (Ao (Es dF rfl (B1 (C9 (Ad (D0 (Ad (Ag 4) (Ad (Ag 5) Ae))) (Ad (D0 (Ad (Ag 6) (Ad (Ag 5) Ae))) (Ad (D0 (Ad (Ag 4) (Ad (Ag 7) Ae))) (Ad (D0 (Ad (Ag 6) (Ad (Ag 7) Ae))) Ae)))))) (Hs rfl (B3 (Az (i:=8) (by exact Ib.nd)) (B3 (Az (i:=9) (by exact Ib.nd)) Fw))) (Ah (Au (i:=10) (by exact Ib.nd) (Ms (Aq (Tu C) (hr.mono (by decide)) (by rfl) C.uB C.uz.kp C.uA (Ad (Ag 3) (Ad (Ag 8) Ae))) (Ms (Aq (Ug C) (hr.mono (by decide)) (by rfl) C.uG C.uE.kp C.uF (Ad (Ag 3) (Ad (Ag 9) Ae))) (P1 (Ja (Cm hu) Co (Bg By Cj (by rfl) C.xu cG (Ad (Ag 8) Ae)) (Bg By Cj (by rfl) C.xu cG (Ad (Ag 9) Ae)) (Bi _)))))) (Ah (Au (i:=11) (by exact Ib.nd) (Aq (Se C) (hr.mono (by decide)) (by rfl) C.xf C.xb.kp C.xc (Ad (Ag 3) (Ad (Ag 8) (Ad (Ag 9) Ae))))) (Ao (B9 (PWF.pt (Agh (Wn (Jr (Anf Ahp (Ag 11) (by rfl) C.xt (by rfl) C.xn (by decide +kernel)))) (Acp (Bf (Ia hu) Ie (Ag 11) (Ag 10) (Bi _))))) (Ao (Bh Pw)) Bw)))))))))))
 exact (Ao (Bh Pw))
end
theorem Al3{l:lR}{w:eO}{K:aK}{h:Heap}{mg:Str->Option aJ}{fa:Addr}(X:K.In h)(G:h.Ns bF mg)(hfa:mg "law" = some (.ref fa))
  {od0 an0:Option Addr} {sl0:Array (Option aJ)} {oc0 kV0 dc0 pm0 cd0 ct0:aJ} {f0:Addr} {od1 an1:Option Addr} {sl1:Array (Option aJ)} {oc1 kV1 dc1 pm1 cd1 ct1:aJ} {f1:Addr} {od2 an2:Option Addr} {sl2:Array (Option aJ)} {oc2 kV2 dc2 pm2 cd2 ct2:aJ} {f2:Addr} {od3 an3:Option Addr} {sl3:Array (Option aJ)} {oc3 kV3 dc3 pm3 cd3 ct3:aJ} {f3:Addr} {od4 an4:Option Addr} {sl4:Array (Option aJ)} {oc4 kV4 dc4 pm4 cd4 ct4:aJ} {f4:Addr} {od5 an5:Option Addr} {sl5:Array (Option aJ)} {oc5 kV5 dc5 pm5 cd5 ct5:aJ} {f5:Addr} {od6 an6:Option Addr} {sl6:Array (Option aJ)} {oc6 kV6 dc6 pm6 cd6 ct6:aJ} {f6:Addr} {od7 an7:Option Addr} {sl7:Array (Option aJ)} {oc7 kV7 dc7 pm7 cd7 ct7:aJ} {f7:Addr} {od8 an8:Option Addr} {sl8:Array (Option aJ)} {oc8 kV8 dc8 pm8 cd8 ct8:aJ} {f8:Addr} {od9 an9:Option Addr} {sl9:Array (Option aJ)} {oc9 kV9 dc9 pm9 cd9 ct9:aJ} {f9:Addr} {od10 an10:Option Addr} {sl10:Array (Option aJ)} {oc10 kV10 dc10 pm10 cd10 ct10:aJ} {f10:Addr} {od11 an11:Option Addr} {sl11:Array (Option aJ)} {oc11 kV11 dc11 pm11 cd11 ct11:aJ} {f11:Addr} {od12 an12:Option Addr} {sl12:Array (Option aJ)} {oc12 kV12 dc12 pm12 cd12 ct12:aJ} {f12:Addr} {od13 an13:Option Addr} {sl13:Array (Option aJ)} {oc13 kV13 dc13 pm13 cd13 ct13:aJ} {f13:Addr} {od14 an14:Option Addr} {sl14:Array (Option aJ)} {oc14 kV14 dc14 pm14 cd14 ct14:aJ} {f14:Addr} {od15 an15:Option Addr} {sl15:Array (Option aJ)} {oc15 kV15 dc15 pm15 cd15 ct15:aJ} {f15:Addr} {od16 an16:Option Addr} {sl16:Array (Option aJ)} {oc16 kV16 dc16 pm16 cd16 ct16:aJ} {f16:Addr} {od17 an17:Option Addr} {sl17:Array (Option aJ)} {oc17 kV17 dc17 pm17 cd17 ct17:aJ} {f17:Addr} {od18 an18:Option Addr} {sl18:Array (Option aJ)} {oc18 kV18 dc18 pm18 cd18 ct18:aJ} {f18:Addr} {od19 an19:Option Addr} {sl19:Array (Option aJ)} {oc19 kV19 dc19 pm19 cd19 ct19:aJ} {f19:Addr} {od20 an20:Option Addr} {sl20:Array (Option aJ)} {oc20 kV20 dc20 pm20 cd20 ct20:aJ} {f20:Addr} {od21 an21:Option Addr} {sl21:Array (Option aJ)} {oc21 kV21 dc21 pm21 cd21 ct21:aJ} {f21:Addr} {od22 an22:Option Addr} {sl22:Array (Option aJ)} {oc22 kV22 dc22 pm22 cd22 ct22:aJ} {f22:Addr} {od23 an23:Option Addr} {sl23:Array (Option aJ)} {oc23 kV23 dc23 pm23 cd23 ct23:aJ} {f23:Addr} {od24 an24:Option Addr} {sl24:Array (Option aJ)} {oc24 kV24 dc24 pm24 cd24 ct24:aJ} {f24:Addr} {od25 an25:Option Addr} {sl25:Array (Option aJ)} {oc25 kV25 dc25 pm25 cd25 ct25:aJ} {f25:Addr} {od26 an26:Option Addr} {sl26:Array (Option aJ)} {oc26 kV26 dc26 pm26 cd26 ct26:aJ} {f26:Addr} {od27 an27:Option Addr} {sl27:Array (Option aJ)} {oc27 kV27 dc27 pm27 cd27 ct27:aJ} {f27:Addr} {od28 an28:Option Addr} {sl28:Array (Option aJ)} {oc28 kV28 dc28 pm28 cd28 ct28:aJ} {f28:Addr} {od29 an29:Option Addr} {sl29:Array (Option aJ)} {oc29 kV29 dc29 pm29 cd29 ct29:aJ} {f29:Addr} {od30 an30:Option Addr} {sl30:Array (Option aJ)} {oc30 kV30 dc30 pm30 cd30 ct30:aJ} {f30:Addr}
  (a0:bK K bF "_law_deck" = some (some (.ref f0))) (l0:K.lookup f0=some ⟨oc0,od0,.func (bU "_law_deck" "_law_deck" (Bt J6) (Br J6) (An J6) .none kV0 dc0 pm0 an0 cd0 ct0),sl0⟩) (c0:bQ K cd0 "_law_deck" = true) (k0:bO K (.ref f0)=true)
  (a1:bK K bF "_law_draw" = some (some (.ref f1))) (l1:K.lookup f1=some ⟨oc1,od1,.func (bU "_law_draw" "_law_draw" (Bt Kf) (Br Kf) (An Kf) .none kV1 dc1 pm1 an1 cd1 ct1),sl1⟩) (c1:bQ K cd1 "_law_draw" = true) (k1:bO K (.ref f1)=true)
  (a2:bK K bF "_law_below" = some (some (.ref f2))) (l2:K.lookup f2=some ⟨oc2,od2,.func (bU "_law_below" "_law_below" (Bt Ip) (Br Ip) (An Ip) .none kV2 dc2 pm2 an2 cd2 ct2),sl2⟩) (c2:bQ K cd2 "_law_below" = true) (k2:bO K (.ref f2)=true)
  (a3:bK K bF "_law_by_names" = some (some (.ref f3))) (l3:K.lookup f3=some ⟨oc3,od3,.func (bU "_law_by_names" "_law_by_names" (Bt Ft) (Br Ft) (An Ft) .none kV3 dc3 pm3 an3 cd3 ct3),sl3⟩) (c3:bQ K cd3 "_law_by_names" = true) (k3:bO K (.ref f3)=true)
  (a4:bK K bF "_law_is_cover" = some (some (.ref f4))) (l4:K.lookup f4=some ⟨oc4,od4,.func (bU "_law_is_cover" "_law_is_cover" (Bt Fg) (Br Fg) (An Fg) .none kV4 dc4 pm4 an4 cd4 ct4),sl4⟩) (c4:bQ K cd4 "_law_is_cover" = true) (k4:bO K (.ref f4)=true)
  (a5:bK K bF "_law_is_crowd" = some (some (.ref f5))) (l5:K.lookup f5=some ⟨oc5,od5,.func (bU "_law_is_crowd" "_law_is_crowd" (Bt Fh) (Br Fh) (An Fh) .none kV5 dc5 pm5 an5 cd5 ct5),sl5⟩) (c5:bQ K cd5 "_law_is_crowd" = true) (k5:bO K (.ref f5)=true)
  (a6:bK K bF "lies_below" = some (some (.ref f6))) (l6:K.lookup f6=some ⟨oc6,od6,.func (bU "lies_below" "lies_below" (Bt Fp) (Br Fp) (An Fp) .none kV6 dc6 pm6 an6 cd6 ct6),sl6⟩) (c6:bQ K cd6 "lies_below" = true) (k6:bO K (.ref f6)=true)
  (a7:bK K bF "place_of" = some (some (.ref f7))) (l7:K.lookup f7=some ⟨oc7,od7,.func (bU "place_of" "place_of" (Bt Hn) (Br Hn) (An Hn) .none kV7 dc7 pm7 an7 cd7 ct7),sl7⟩) (c7:bQ K cd7 "place_of" = true) (k7:bO K (.ref f7)=true)
  (a8:bK K bF "first_that_takes" = some (some (.ref f8))) (l8:K.lookup f8=some ⟨oc8,od8,.func (bU "first_that_takes" "first_that_takes" (Bt C3) (Br C3) (An C3) .none kV8 dc8 pm8 an8 cd8 ct8),sl8⟩) (c8:bQ K cd8 "first_that_takes" = true) (k8:bO K (.ref f8)=true)
  (a9:bK K bF "chains_laid" = some (some (.ref f9))) (l9:K.lookup f9=some ⟨oc9,od9,.func (bU "chains_laid" "chains_laid" (Bt El) (Br El) (An El) .none kV9 dc9 pm9 an9 cd9 ct9),sl9⟩) (c9:bQ K cd9 "chains_laid" = true) (k9:bO K (.ref f9)=true)
  (a10:bK K bF "names_along" = some (some (.ref f10))) (l10:K.lookup f10=some ⟨oc10,od10,.func (bU "names_along" "names_along" (Bt Ej) (Br Ej) (An Ej) .none kV10 dc10 pm10 an10 cd10 ct10),sl10⟩) (c10:bQ K cd10 "names_along" = true) (k10:bO K (.ref f10)=true)
  (a11:bK K bF "cover_of" = some (some (.ref f11))) (l11:K.lookup f11=some ⟨oc11,od11,.func (bU "cover_of" "cover_of" (Bt Hk) (Br Hk) (An Hk) .none kV11 dc11 pm11 an11 cd11 ct11),sl11⟩) (c11:bQ K cd11 "cover_of" = true) (k11:bO K (.ref f11)=true)
  (a12:bK K bF "crowd_of" = some (some (.ref f12))) (l12:K.lookup f12=some ⟨oc12,od12,.func (bU "crowd_of" "crowd_of" (Bt Hm) (Br Hm) (An Hm) .none kV12 dc12 pm12 an12 cd12 ct12),sl12⟩) (c12:bQ K cd12 "crowd_of" = true) (k12:bO K (.ref f12)=true)
  (a13:bK K bF "many_above" = some (some (.ref f13))) (l13:K.lookup f13=some ⟨oc13,od13,.func (bU "many_above" "many_above" (Bt Ff) (Br Ff) (An Ff) .none kV13 dc13 pm13 an13 cd13 ct13),sl13⟩) (c13:bQ K cd13 "many_above" = true) (k13:bO K (.ref f13)=true)
  (a14:bK K bF "above_each" = some (some (.ref f14))) (l14:K.lookup f14=some ⟨oc14,od14,.func (bU "above_each" "above_each" (Bt E9) (Br E9) (An E9) .none kV14 dc14 pm14 an14 cd14 ct14),sl14⟩) (c14:bQ K cd14 "above_each" = true) (k14:bO K (.ref f14)=true)
  (a15:bK K bF "stairs_of" = some (some (.ref f15))) (l15:K.lookup f15=some ⟨oc15,od15,.func (bU "stairs_of" "stairs_of" (Bt Gn) (Br Gn) (An Gn) .none kV15 dc15 pm15 an15 cd15 ct15),sl15⟩) (c15:bQ K cd15 "stairs_of" = true) (k15:bO K (.ref f15)=true)
  (a16:bK K bF "_law_pair" = some (some (.ref f16))) (l16:K.lookup f16=some ⟨oc16,od16,.func (bU "_law_pair" "_law_pair" (Bt Kl) (Br Kl) (An Kl) .none kV16 dc16 pm16 an16 cd16 ct16),sl16⟩) (c16:bQ K cd16 "_law_pair" = true) (k16:bO K (.ref f16)=true)
  (a17:bK K bF "_law_names" = some (some (.ref f17))) (l17:K.lookup f17=some ⟨oc17,od17,.func (bU "_law_names" "_law_names" (Bt Iq) (Br Iq) (An Iq) .none kV17 dc17 pm17 an17 cd17 ct17),sl17⟩) (c17:bQ K cd17 "_law_names" = true) (k17:bO K (.ref f17)=true)
  (a18:bK K bF "_law_number" = some (some (.ref f18))) (l18:K.lookup f18=some ⟨oc18,od18,.func (bU "_law_number" "_law_number" (Bt Hh) (Br Hh) (An Hh) .none kV18 dc18 pm18 an18 cd18 ct18),sl18⟩) (c18:bQ K cd18 "_law_number" = true) (k18:bO K (.ref f18)=true)
  (a19:bK K bF "_law_points" = some (some (.ref f19))) (l19:K.lookup f19=some ⟨oc19,od19,.func (bU "_law_points" "_law_points" (Bt Hl) (Br Hl) (An Hl) .none kV19 dc19 pm19 an19 cd19 ct19),sl19⟩) (c19:bQ K cd19 "_law_points" = true) (k19:bO K (.ref f19)=true)
  (a20:bK K bF "_law_strange" = some (some (.ref f20))) (l20:K.lookup f20=some ⟨oc20,od20,.func (bU "_law_strange" "_law_strange" (Bt Gk) (Br Gk) (An Gk) .none kV20 dc20 pm20 an20 cd20 ct20),sl20⟩) (c20:bQ K cd20 "_law_strange" = true) (k20:bO K (.ref f20)=true)
  (a21:bK K bF "_law_spoilt_cover" = some (some (.ref f21))) (l21:K.lookup f21=some ⟨oc21,od21,.func (bU "_law_spoilt_cover" "_law_spoilt_cover" (Bt Df) (Br Df) (An Df) .none kV21 dc21 pm21 an21 cd21 ct21),sl21⟩) (c21:bQ K cd21 "_law_spoilt_cover" = true) (k21:bO K (.ref f21)=true)
  (a22:bK K bF "_law_spoilt_crowd" = some (some (.ref f22))) (l22:K.lookup f22=some ⟨oc22,od22,.func (bU "_law_spoilt_crowd" "_law_spoilt_crowd" (Bt Dh) (Br Dh) (An Dh) .none kV22 dc22 pm22 an22 cd22 ct22),sl22⟩) (c22:bQ K cd22 "_law_spoilt_crowd" = true) (k22:bO K (.ref f22)=true)
  (a23:bK K bF "is_chain" = some (some (.ref f23))) (l23:K.lookup f23=some ⟨oc23,od23,.func (bU "is_chain" "is_chain" (Bt Ho) (Br Ho) (An Ho) .none kV23 dc23 pm23 an23 cd23 ct23),sl23⟩) (c23:bQ K cd23 "is_chain" = true) (k23:bO K (.ref f23)=true)
  (a24:bK K bF "is_cover" = some (some (.ref f24))) (l24:K.lookup f24=some ⟨oc24,od24,.func (bU "is_cover" "is_cover" (Bt He) (Br He) (An He) .none kV24 dc24 pm24 an24 cd24 ct24),sl24⟩) (c24:bQ K cd24 "is_cover" = true) (k24:bO K (.ref f24)=true)
  (a25:bK K bF "many_below" = some (some (.ref f25))) (l25:K.lookup f25=some ⟨oc25,od25,.func (bU "many_below" "many_below" (Bt Fm) (Br Fm) (An Fm) .none kV25 dc25 pm25 an25 cd25 ct25),sl25⟩) (c25:bQ K cd25 "many_below" = true) (k25:bO K (.ref f25)=true)
  (a26:bK K bF "below_each" = some (some (.ref f26))) (l26:K.lookup f26=some ⟨oc26,od26,.func (bU "below_each" "below_each" (Bt Fe) (Br Fe) (An Fe) .none kV26 dc26 pm26 an26 cd26 ct26),sl26⟩) (c26:bQ K cd26 "below_each" = true) (k26:bO K (.ref f26)=true)
  (a27:bK K bF "pairs_in_all" = some (some (.ref f27))) (l27:K.lookup f27=some ⟨oc27,od27,.func (bU "pairs_in_all" "pairs_in_all" (Bt Dx) (Br Dx) (An Dx) .none kV27 dc27 pm27 an27 cd27 ct27),sl27⟩) (c27:bQ K cd27 "pairs_in_all" = true) (k27:bO K (.ref f27)=true)
  (a28:bK K bF "is_crowd" = some (some (.ref f28))) (l28:K.lookup f28=some ⟨oc28,od28,.func (bU "is_crowd" "is_crowd" (Bt Hi) (Br Hi) (An Hi) .none kV28 dc28 pm28 an28 cd28 ct28),sl28⟩) (c28:bQ K cd28 "is_crowd" = true) (k28:bO K (.ref f28)=true)
  (a29:bK K bF "cover_shown" = some (some (.ref f29))) (l29:K.lookup f29=some ⟨oc29,od29,.func (bU "cover_shown" "cover_shown" (Bt Ek) (Br Ek) (An Ek) .none kV29 dc29 pm29 an29 cd29 ct29),sl29⟩) (c29:bQ K cd29 "cover_shown" = true) (k29:bO K (.ref f29)=true)
  (a30:bK K bF "law" = some (some (.ref f30))) (l30:K.lookup f30=some ⟨oc30,od30,.func (bU "law" "law" (Bt Ow) (Br Ow) (An Ow) .none kV30 dc30 pm30 an30 cd30 ct30),sl30⟩) (c30:bQ K cd30 "law" = true) (k30:bO K (.ref f30)=true)
  (z_abs:bK K bF "abs" = some none)
  (z_all:bK K bF "all" = some none)
  (z_bool:bK K bF "bool" = some none)
  (z_dict:bK K bF "dict" = some none)
  (z_enumerate:bK K bF "enumerate" = some none)
  (z_int:bK K bF "int" = some none)
  (z_isinstance:bK K bF "isinstance" = some none)
  (z_len:bK K bF "len" = some none)
  (z_list:bK K bF "list" = some none)
  (z_range:bK K bF "range" = some none)
  (z_set:bK K bF "set" = some none)
  (z_sorted:bK K bF "sorted" = some none)
  (z_sum:bK K bF "sum" = some none)
  (z_tuple:bK K bF "tuple" = some none)
  (z_zip:bK K bF "zip" = some none) :
  ∃ fd:cM,(∀ (s:aN) (v:aJ),pF s fd ⟨[v],[]⟩ [("script",v)])/\∀ base:Heap,K.In base->base.Ns bF mg->FnOk l.prog w K mg base CX0 7 fa fd ["script"] (spF K 1 Acl):=by
 have e:=hfa.symm.trans (bY X G a30)
 cases e
 have F0:=Cp (st:=J6) l0 c0 k0
 have b0:=F0.binds (ps:=["script"]) fun _ _ _ _ _ _=>Qi (fun _=>rfl)
 have F1:=Cp (st:=Kf) l1 c1 k1
 have b1:=F1.binds (ps:=["deck","most"]) fun _ _ _ _ _ _=>Mi (fun _ _=>rfl)
 have F2:=Cp (st:=Ip) l2 c2 k2
 have b2:=F2.binds (ps:=["one","other"]) fun _ _ _ _ _ _=>Mi (fun _ _=>rfl)
 have F3:=Cp (st:=Ft) l3 c3 k3
 have b3:=F3.binds (ps:=["points"]) fun _ _ _ _ _ _=>Qi (fun _=>rfl)
 have F4:=Cp (st:=Fg) l4 c4 k4
 have b4:=F4.binds (ps:=["points","cover"]) fun _ _ _ _ _ _=>Mi (fun _ _=>rfl)
 have F5:=Cp (st:=Fh) l5 c5 k5
 have b5:=F5.binds (ps:=["points","crowd"]) fun _ _ _ _ _ _=>Mi (fun _ _=>rfl)
 have F6:=Cp (st:=Fp) l6 c6 k6
 have b6:=F6.binds (ps:=["one","other"]) fun _ _ _ _ _ _=>Mi (fun _ _=>rfl)
 have F7:=Cp (st:=Hn) l7 c7 k7
 have b7:=F7.binds (ps:=["point"]) fun _ _ _ _ _ _=>Qi (fun _=>rfl)
 have F8:=Cp (st:=C3) l8 c8 k8
 have b8:=F8.binds (ps:=["chains","point"]) fun _ _ _ _ _ _=>Mi (fun _ _=>rfl)
 have F9:=Cp (st:=El) l9 c9 k9
 have b9:=F9.binds (ps:=["points"]) fun _ _ _ _ _ _=>Qi (fun _=>rfl)
 have F10:=Cp (st:=Ej) l10 c10 k10
 have b10:=F10.binds (ps:=["chain"]) fun _ _ _ _ _ _=>Qi (fun _=>rfl)
 have F11:=Cp (st:=Hk) l11 c11 k11
 have b11:=F11.binds (ps:=["points"]) fun _ _ _ _ _ _=>Qi (fun _=>rfl)
 have F12:=Cp (st:=Hm) l12 c12 k12
 have b12:=F12.binds (ps:=["points"]) fun _ _ _ _ _ _=>Qi (fun _=>rfl)
 have F13:=Cp (st:=Ff) l13 c13 k13
 have b13:=F13.binds (ps:=["places","place"]) fun _ _ _ _ _ _=>Mi (fun _ _=>rfl)
 have F14:=Cp (st:=E9) l14 c14 k14
 have b14:=F14.binds (ps:=["points"]) fun _ _ _ _ _ _=>Qi (fun _=>rfl)
 have F15:=Cp (st:=Gn) l15 c15 k15
 have b15:=F15.binds (ps:=["points"]) fun _ _ _ _ _ _=>Qi (fun _=>rfl)
 have F16:=Cp (st:=Kl) l16 c16 k16
 have b16:=F16.binds (ps:=["deck","points"]) fun _ _ _ _ _ _=>Mi (fun _ _=>rfl)
 have F17:=Cp (st:=Iq) l17 c17 k17
 have b17:=F17.binds (ps:=["deck","many"]) fun _ _ _ _ _ _=>Mi (fun _ _=>rfl)
 have F18:=Cp (st:=Hh) l18 c18 k18
 have b18:=F18.binds (ps:=["deck","kind"]) fun _ _ _ _ _ _=>Mi (fun _ _=>rfl)
 have F19:=Cp (st:=Hl) l19 c19 k19
 have b19:=F19.binds (ps:=["deck","most"]) fun _ _ _ _ _ _=>Mi (fun _ _=>rfl)
 have F20:=Cp (st:=Gk) l20 c20 k20
 have b20:=F20.binds (ps:=["deck","points"]) fun _ _ _ _ _ _=>Mi (fun _ _=>rfl)
 have F21:=Cp (st:=Df) l21 c21 k21
 have b21:=F21.binds (ps:=["deck","points","cover"]) fun _ _ _ _ _ _=>Ane (fun _ _ _=>rfl)
 have F22:=Cp (st:=Dh) l22 c22 k22
 have b22:=F22.binds (ps:=["deck","points","crowd"]) fun _ _ _ _ _ _=>Ane (fun _ _ _=>rfl)
 have F23:=Cp (st:=Ho) l23 c23 k23
 have b23:=F23.binds (ps:=["places","names"]) fun _ _ _ _ _ _=>Mi (fun _ _=>rfl)
 have F24:=Cp (st:=He) l24 c24 k24
 have b24:=F24.binds (ps:=["points","cover"]) fun _ _ _ _ _ _=>Mi (fun _ _=>rfl)
 have F25:=Cp (st:=Fm) l25 c25 k25
 have b25:=F25.binds (ps:=["places","place"]) fun _ _ _ _ _ _=>Mi (fun _ _=>rfl)
 have F26:=Cp (st:=Fe) l26 c26 k26
 have b26:=F26.binds (ps:=["points"]) fun _ _ _ _ _ _=>Qi (fun _=>rfl)
 have F27:=Cp (st:=Dx) l27 c27 k27
 have b27:=F27.binds (ps:=["points"]) fun _ _ _ _ _ _=>Qi (fun _=>rfl)
 have F28:=Cp (st:=Hi) l28 c28 k28
 have b28:=F28.binds (ps:=["points","crowd"]) fun _ _ _ _ _ _=>Mi (fun _ _=>rfl)
 have F29:=Cp (st:=Ek) l29 c29 k29
 have b29:=F29.binds (ps:=["points","cover","crowd"]) fun _ _ _ _ _ _=>Ane (fun _ _ _=>rfl)
 have F30:=Cp (st:=Ow) l30 c30 k30
 have b30:=F30.binds (ps:=["script"]) fun _ _ _ _ _ _=>Qi (fun _=>rfl)
 let C:Defs K mg:={ ua:=_,ub:=_,uc:=F0,ud:=b0,ue:=bY X G a0,uf:=_,ug:=_,uh:=F1,ui:=b1,uj:=bY X G a1,uk:=_,ul:=_,um:=F2,uo:=b2,uq:=bY X G a2,ur:=_,ut:=_,uu:=F3,uv:=b3,uw:=bY X G a3,ux:=_,uy:=_,uz:=F4,uA:=b4,uB:=bY X G a4,uC:=_,uD:=_,uE:=F5,uF:=b5,uG:=bY X G a5,uH:=_,uI:=_,uJ:=F6,uK:=b6,uL:=bY X G a6,uM:=_,uN:=_,uO:=F7,uP:=b7,uQ:=bY X G a7,uR:=_,uS:=_,uT:=F8,uU:=b8,uV:=bY X G a8,uW:=_,uX:=_,uY:=F9,uZ:=b9,u4:=bY X G a9,u5:=_,u6:=_,u7:=F10,u8:=b10,u9:=bY X G a10,va:=_,vb:=_,vc:=F11,vd:=b11,ve:=bY X G a11,vf:=_,vg:=_,vh:=F12,vk:=b12,vm:=bY X G a12,vn:=_,vo:=_,vp:=F13,vq:=b13,vt:=bY X G a13,vv:=_,vw:=_,vx:=F14,vy:=b14,vz:=bY X G a14,vA:=_,vB:=_,vC:=F15,vD:=b15,vE:=bY X G a15,vF:=_,vG:=_,vH:=F16,vI:=b16,vJ:=bY X G a16,vK:=_,vL:=_,vM:=F17,vN:=b17,vO:=bY X G a17,vP:=_,vQ:=_,vR:=F18,vS:=b18,vT:=bY X G a18,vU:=_,vV:=_,vW:=F19,vX:=b19,vY:=bY X G a19,vZ:=_,wa:=_,wb:=F20,wd:=b20,we:=bY X G a20,wf:=_,wg:=_,wj:=F21,wk:=b21,wm:=bY X G a21,wn:=_,wo:=_,wt:=F22,wu:=b22,wv:=bY X G a22,ww:=_,wx:=_,wy:=F23,wz:=b23,wA:=bY X G a23,wB:=_,wC:=_,wD:=F24,wE:=b24,wF:=bY X G a24,wG:=_,wH:=_,wI:=F25,wJ:=b25,wK:=bY X G a25,wL:=_,wM:=_,wN:=F26,wO:=b26,wP:=bY X G a26,wQ:=_,wR:=_,wS:=F27,wT:=b27,wU:=bY X G a27,wV:=_,wW:=_,wX:=F28,wY:=b28,wZ:=bY X G a28,w6:=_,xa:=_,xb:=F29,xc:=b29,xf:=bY X G a29,xg:=_,xh:=_,xi:=F30,xj:=b30,xk:=bY X G a30,xl:=cR X G z_abs,xm:=cR X G z_all,xn:=cR X G z_bool,xo:=cR X G z_dict,xp:=cR X G z_enumerate,xq:=cR X G z_int,xt:=cR X G z_isinstance,xu:=cR X G z_len,xw:=cR X G z_list,xx:=cR X G z_range,xy:=cR X G z_set,xz:=cR X G z_sorted,xA:=cR X G z_sum,xB:=cR X G z_tuple,xC:=cR X G z_zip }
 refine ⟨bU "law" "law" (Bt Ow) (Br Ow) (An Ow) .none kV30 dc30 pm30 an30 cd30 ct30,fun s v=>.of_eq rfl,fun base _ _=>?_⟩
 exact Alo C
theorem Aqe{l:lR}{q:cT}{loose:List Str}{XP:(Str->Option aJ)->Heap->Prop}{YP:eO->Heap->Prop}{d:DefRec}{K:Params->aK}(hn:l.most=some 63)(hdf:d.params.defaults=[])
  (hY:∀ (w:eO) (h:Heap),YP w h->(K w.params).In h)
  (F:∀ (w:eO) (mg:Str->Option aJ) (fa:Addr) (h:Heap),(K w.params).In h->h.Ns bF mg->mg d.name=some (.ref fa) ->
   ∃ fd:cM,(∀ (s:aN) (u:aJ),pF s fd ⟨[u],[]⟩ [("script",u)])/\∀ base:Heap,(K w.params).In base->base.Ns bF mg->FnOk l.prog w (K w.params) mg base CX0 7 fa fd ["script"] (spF (K w.params) 1 Acl)) :
  tH q loose XP YP l.row.toRowW d [] (fun f vs=>tZ f vs):=
 Att.Anh (k:=7) (x := "script") hn hdf ⟨rfl,by decide,by decide⟩ hY F (fun ns hl hb=>Agx ns hl hb)
end Lw
open PySem PySem.W PyProof.Rows
set_option maxRecDepth 100000 in
set_option maxHeartbeats 0 in
theorem PySem.Challenge.cw_belowpoints_k29_covers_looked_at_holds : PySem.Challenge.rw_belowpoints_k29_covers_looked_at.Holds := by
  w_on; o_law; k_head; (case hw => w_witness2)
  k_fill
  refine Lw.Aqe (l := PySem.Challenge.rw_belowpoints_k29_covers_looked_at) rfl rfl (fun w h Y => PySem.W.kIn_of Y) ?F
  case F =>
    intro w mg fa h KX G hmg
    refine' Lw.Al3 KX G hmg  ?a0 ?l0 ?c0 ?k0 ?a1 ?l1 ?c1 ?k1 ?a2 ?l2 ?c2 ?k2 ?a3 ?l3 ?c3 ?k3 ?a4 ?l4 ?c4 ?k4 ?a5 ?l5 ?c5 ?k5 ?a6 ?l6 ?c6 ?k6 ?a7 ?l7 ?c7 ?k7 ?a8 ?l8 ?c8 ?k8 ?a9 ?l9 ?c9 ?k9 ?a10 ?l10 ?c10 ?k10 ?a11 ?l11 ?c11 ?k11 ?a12 ?l12 ?c12 ?k12 ?a13 ?l13 ?c13 ?k13 ?a14 ?l14 ?c14 ?k14 ?a15 ?l15 ?c15 ?k15 ?a16 ?l16 ?c16 ?k16 ?a17 ?l17 ?c17 ?k17 ?a18 ?l18 ?c18 ?k18 ?a19 ?l19 ?c19 ?k19 ?a20 ?l20 ?c20 ?k20 ?a21 ?l21 ?c21 ?k21 ?a22 ?l22 ?c22 ?k22 ?a23 ?l23 ?c23 ?k23 ?a24 ?l24 ?c24 ?k24 ?a25 ?l25 ?c25 ?k25 ?a26 ?l26 ?c26 ?k26 ?a27 ?l27 ?c27 ?k27 ?a28 ?l28 ?c28 ?k28 ?a29 ?l29 ?c29 ?k29 ?a30 ?l30 ?c30 ?k30 ?z_abs ?z_all ?z_bool ?z_dict ?z_enumerate ?z_int ?z_isinstance ?z_len ?z_list ?z_range ?z_set ?z_sorted ?z_sum ?z_tuple ?z_zip
    (case a0 => k_is); (case l0 => k_is); (case c0 => k_is); (case k0 => k_is)
    (case a1 => k_is); (case l1 => k_is); (case c1 => k_is); (case k1 => k_is)
    (case a2 => k_is); (case l2 => k_is); (case c2 => k_is); (case k2 => k_is)
    (case a3 => k_is); (case l3 => k_is); (case c3 => k_is); (case k3 => k_is)
    (case a4 => k_is); (case l4 => k_is); (case c4 => k_is); (case k4 => k_is)
    (case a5 => k_is); (case l5 => k_is); (case c5 => k_is); (case k5 => k_is)
    (case a6 => k_is); (case l6 => k_is); (case c6 => k_is); (case k6 => k_is)
    (case a7 => k_is); (case l7 => k_is); (case c7 => k_is); (case k7 => k_is)
    (case a8 => k_is); (case l8 => k_is); (case c8 => k_is); (case k8 => k_is)
    (case a9 => k_is); (case l9 => k_is); (case c9 => k_is); (case k9 => k_is)
    (case a10 => k_is); (case l10 => k_is); (case c10 => k_is); (case k10 => k_is)
    (case a11 => k_is); (case l11 => k_is); (case c11 => k_is); (case k11 => k_is)
    (case a12 => k_is); (case l12 => k_is); (case c12 => k_is); (case k12 => k_is)
    (case a13 => k_is); (case l13 => k_is); (case c13 => k_is); (case k13 => k_is)
    (case a14 => k_is); (case l14 => k_is); (case c14 => k_is); (case k14 => k_is)
    (case a15 => k_is); (case l15 => k_is); (case c15 => k_is); (case k15 => k_is)
    (case a16 => k_is); (case l16 => k_is); (case c16 => k_is); (case k16 => k_is)
    (case a17 => k_is); (case l17 => k_is); (case c17 => k_is); (case k17 => k_is)
    (case a18 => k_is); (case l18 => k_is); (case c18 => k_is); (case k18 => k_is)
    (case a19 => k_is); (case l19 => k_is); (case c19 => k_is); (case k19 => k_is)
    (case a20 => k_is); (case l20 => k_is); (case c20 => k_is); (case k20 => k_is)
    (case a21 => k_is); (case l21 => k_is); (case c21 => k_is); (case k21 => k_is)
    (case a22 => k_is); (case l22 => k_is); (case c22 => k_is); (case k22 => k_is)
    (case a23 => k_is); (case l23 => k_is); (case c23 => k_is); (case k23 => k_is)
    (case a24 => k_is); (case l24 => k_is); (case c24 => k_is); (case k24 => k_is)
    (case a25 => k_is); (case l25 => k_is); (case c25 => k_is); (case k25 => k_is)
    (case a26 => k_is); (case l26 => k_is); (case c26 => k_is); (case k26 => k_is)
    (case a27 => k_is); (case l27 => k_is); (case c27 => k_is); (case k27 => k_is)
    (case a28 => k_is); (case l28 => k_is); (case c28 => k_is); (case k28 => k_is)
    (case a29 => k_is); (case l29 => k_is); (case c29 => k_is); (case k29 => k_is)
    (case a30 => k_is); (case l30 => k_is); (case c30 => k_is); (case k30 => k_is)
    (case z_abs => k_is)
    (case z_all => k_is)
    (case z_bool => k_is)
    (case z_dict => k_is)
    (case z_enumerate => k_is)
    (case z_int => k_is)
    (case z_isinstance => k_is)
    (case z_len => k_is)
    (case z_list => k_is)
    (case z_range => k_is)
    (case z_set => k_is)
    (case z_sorted => k_is)
    (case z_sum => k_is)
    (case z_tuple => k_is)
    (case z_zip => k_is)
