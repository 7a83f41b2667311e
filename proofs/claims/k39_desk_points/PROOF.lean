import PyProof.Rows.All
import Wide.All
import OpenK.AllK
import Wide.FinOn
import Lean
import PyProof.EqAt
import PyProof.EqKinds
import PyProof.TupleCall
import KE.KTurnsDict
import KE.KPairComp
import KE.KTryMore
import PyProof.ExcInit
import KE.KIsNot
import KE.KIntText
import PyProof.ReprStr
import PyProof.StrLawsRepr
import KE.KDictList
import KE.KEqDict
import KE.KSortTup
import PySem.Challenge.RW_belowpoints_k39_desk_points
set_option Elab.async false
set_option linter.all false
set_option maxRecDepth 100000
set_option maxHeartbeats 4000000
open Option renaming bind_eq_some_iff->aA,bind_some->aC,map_some->aG,map_eq_some_iff->aH,join_some->bD,isSome_map->iQ,map->iX,getD_some->kH,isSome_iff_exists->mM,none->tI
open PySem.Heap renaming get?_push_of_some->aB,get?_push_size->aM,lt_size->aP,size_push->cO,get?_update_self->dQ,get?_update_other->eV,SameBut->gK,ExtBut->kN,IsTuple->lH,IsList->tN
open PySem renaming wpAny_bind->aD,Value->aF,Shared->aJ,wpAny_pure->aO,starEach->aT,mainGlobals->bQ,boot_len->bR,Program->bT,treeTable->bV,wpAny_field->bZ,World->cC,wpAny_seqItems->cW,compareOp->cX,wpAny_setField_rec->dB,wpAny_callSpecial?_slot->dC,wpAny_holding->dP,FuncData->dW,bootBuiltins->eA,wpAny_call_entry->eB,Around->eD,wpAny_newObj_type->eG,wpAny_truthy_bool->eS,OsState->fJ,IsPair->fV,IsZip->fY,wpAny_mono->gC,wpAny_pyIter_tuple->gD,binaryOp->gE,wpAny_onRaise->gS,mem_of_lookup->gY,wpAny_getItem_str_slice->iA,wpAny_Call_Name_kw->iC,wpAny_updateSeq->iI,wpAny_pyIter_list->iL,Keyword->iP,Env->iZ,wpAny_getItem_list_slice->jG,wpAny_attempt->jI,wpAny_passesOwn->jL,codeAny_builtin->jN,call_meets->jQ,wpAny_letGo->jS,codeAny->jV,wpAny_Call_method->jX,wpAny_pyIter_zip->kF,wpAny_updateSeq_pair->kO,post_val_or_str->kT,evalArgs_none->kW,BindsTo->kZ,Builtin->lF,NameKind->lP,typeIs_str->lU,tupleKind_room_in1->lV,wpAny_rule->lW,intText?->lY,Scope->mF,slot_list_getitem->mH,wpAny_standAt->mL,Params->mO,nums_intItems->mP,wpAny_comprehension_free->mQ,plainId_quiet->mS,GenState->mW,wpAny_isInstance->nC,wpAny_pyNext_list_item->nJ,codeAny_mono->nK,call_meetsIn->nO,wpAny_execs_nil->nU,wpAny_specialOf->oF,wpAny_pyNext_list_end->oI,builtinLookup_eq_fast->oN,sizeLine_eq->oU,ZipApart->oV,wpAny_newTuple->oW,isSubtype_stop->oX,DictEntry->pD,evalPart_none->pL,builtinsNs->pU,IsPart->pX,PlainAttrs->qA,Within->qI,wpAny_typeOf->qP,seqIndex_neg->qQ,callType_new->qR,meets_dict_values->qU,wpAny_execs_cons->qZ,noFill_tuple_add->rB,seqIndex_of->rM,Paired->rZ,wpAny_Name->sA,Result->sB,typeIs_int->sD,call->sF,PyData->sG,numAt_eq->sH
open PySem.W renaming Frag->aE,findIn->cL,piecesOf->cS,piece_app->cT,segRun_of->cU,segRunT->cZ,nsIn->dF,kia_one->dJ,kitOne->dN,BT->dR,keepIn->dU,emptyDict->eF,boot_heap->eZ,fnOf->fF,instObj->fL,hasDictIn->iM,specialIn->iN,makesIn->jM,codeIn->jW,plainGet->kC,topFrame->kK,OpenLaw->kM,plainGet_of->kU,isFn->kY,lookIn->lM,boot_drawn->mB,topRun->mC,methodObj->mE,kitx_list->mG,boot_toks->mJ,mg_of->mU,cellsFrom_some->nL,takerIn->nV,takesIn->nW,methodCall_KW->oJ,exmOne->oZ,callWith_K0->pE,mroIn->pK,kitx_tuple->pV,callWith_K->pW,plainOver->qJ,kitx_dict->qL,handedIn->rA,boot_o_0->rJ,findCls->rR,topStub->rW,blockOf->rX,kas_rev->rY,segRun->sN,restOf->sO,WalkO->sR,subIn->sT,recOk->sU,xlAt->tE
open List renaming map_cons->aI,getElem?_eq_some_iff->aK,length_cons->aL,getElem?_cons_zero->aN,mem_cons_of_mem->aQ,length_nil->aR,length_map->aU,append_nil->aV,getElem?_eq_getElem->aX,getElem?_append_left->bA,getElem?_cons_succ->bB,size_toArray->bC,mem_cons_self->bE,map_nil->bG,append_assoc->bH,getElem?_map->bJ,replicate_zero->bK,mem_cons->bL,replicate->bM,mem_append_right->bP,all_eq_true->bS,getElem?_set_self->bU,getElem?_set_ne->bW,lookup_cons->bX,getElem_mem->bY,mem_singleton->cF,Nodup->cG,getElem?_eq_none_iff->cH,range->cK,length_append->cM,not_mem_nil->cN,filter_eq_self->cP,getElem?_append_right->cR,mem_append->cV,map_map->cY,mem_map->dI,reverse_cons->dS,mem_of_getElem?->dX,nodup_cons->dZ,take_of_length_le->eC,mem_append_left->eK,lookup->eM,filter_cons->eO,any_cons->eQ,mem_range->eR,getD_eq_getElem?_getD->eX,filterMap_cons->fA,replicate_succ->fB,length_filter_le->fD,find?_cons->fO,forIn_cons->fP,map_append->fR,flatten_cons->gL,filter->gQ,sum_cons->gU,eraseIdx_eq_take_drop_succ->gW,map_congr_left->gZ,length_take->hU,set_cons_zero->iF,mem_filter->iG,getElem?_eq_none->iK,length->iU,forIn_nil->iV,cons_append->jA,length_reverse->jD,filterMap_map->jP,zipIdx_cons->kE,take_length->kJ,nil_append->kP,zipIdx_nil->kS,getElem_inj->mX,length_drop->mZ,map->nB,range_succ_eq_map->nP,getElem_cons_succ->nS,drop_of_length_le->nT,of_mem_zip->nX,length_set->nY,foldl_cons->oA,filter_map->oG,getElem?_of_mem->pA,take_succ->pB,getElem?_range->pF,take_succ_cons->pH,all_cons->pM,map_take->pP,set_cons_succ->qF,zip_cons_cons->qH,nodup_append->qX,length_range->qY,nodup_range->rG,getElem_map->rH,foldl->sE,filterMap->sI,drop_zero->sL,sum_nil->sZ,map_id->tM
open PySem.W.Fast renaming te14364793385576792824->aS,te10110043849684766642->aY,te5923862056798008813->jR
open Nat renaming lt_of_lt_of_le->aW,le_refl->aZ,ne_of_lt->cA,le_trans->cB,sub_self->cQ,lt_irrefl->dY,ne_of_gt->fE,lt_succ_self->hG,zero_le->iT,le_of_lt->iY,min_eq_right->nA,toDigits_of_lt_base->nG,toDigits->nR,min_eq_left->nZ,le_of_eq->qK,le_add_right->rF,le_succ->rL,strongRecOn->rS,toList_repr->rT,not_lt->sJ,mul_comm->sX
open PySem.Builtin.SmallTypes renaming nextOf->bF,ownedTupleIsFree->bI,ownedTupleHandOut->eE
open Option.some renaming inj->bN
open PySem.Value renaming ref->bO,none->fZ,type->jO,str->kB,int->mV,bool->pS,float->rK,isStrOf->sP,isInt->tF,bytes->tG
open Bool renaming false_eq_true->cD,and_eq_true->cJ,false_ne_true->dA,or_eq_true->kQ,eq_iff_iff->oE,not_true->pO,not_false->sM,or_false->sQ,false_or->sS
open PySem.Builtin.Str renaming occurrences->cI,strSliceIndices->fX,strKind->jE
open Array renaming length_toList->dD,getD_eq_getD_getElem?->iS,getElem?_toList->kA,all_toList->nF,toList_append->pI,append_assoc->pT,forIn_toList->qD,size_append->qW,toList->sV
open PySem.Obj renaming mapSeq->dG,data_mapFields->qC
open PyProof.Rows renaming callWith_type1->dH,slot_tuple_getitem->jZ,AllBare->kX,IntsAre->lC,subscriptTail_builtinR->nN,boot_all->oO,boot_max->oR,Subscript_->sC
open PySem.PyData renaming eqv->dL,strOk->fG,canLay0->gH,depth->iD,eqvAll->jJ,canLayAll0->qT,depthAll->rQ,keyHash->sK,list->tL
open PySem.F renaming plainAttrs_list->dM,slot_zip_next->dO,plainAttrs_str->eY,slot_list_append->fH,type_list_append->fI,slot_tuple_iterator_next->gG,args_zip_next_1->gO,slot_dict_values->gT,plainAttrs_dict->hV,entry_zip_next->hW,slot_str_split->iE,plain_extend_loop->jF,args_str_split_2->jK,entry_str_split->jU,args_tuple_iterator_next_1->kR,entry_tuple_iterator_next->lD,slot_str_startswith->lJ,type_str_startswith->lK,args_dict_values_1->lX,entry_dict_values->mD,args_tuple_add_2->mN,type_dict_values->mR,entry_tuple_add->mY,plain_list_iadd->nD,plain_tuple_new->nE,slot_list_clear->nH,type_list_clear->nI,slot_tuple_add->nM,entry_zip_new->oB,slot_dict_pop->oK,slot_dict_get->oM,slot_str_join->oP,type_str_join->oQ,args_object_init_3->oY,entry_extend_loop->pG,called_zip->qS,typeCall_zip_2->rE,slot_int_rmul->rO,newCall_zip_2->rP
open PySem.Builtin.Tuple renaming tupleExact->eI
open PySem.Str renaming cps->eJ,ofString->eU,join->gR,empty->kD,length->pY
open PySem.Txt renaming split->eP,lstripChars->fQ,join->iW,startswith->jY,slice->kI,mul->sY
open False renaming elim->eT
open PySem.Calls renaming callWith_builtin->eW,spliced_cons->iB,spliced_nil->iO,evalArgs_plain->kL,Name_function_global->lL
open Int renaming toNat_natCast->fK,emod_lt_of_pos->lZ,emod_nonneg->oH,natCast_nonneg->pZ,max_eq_right->rC,min_eq_left->rN,ediv_nonneg->rV,ofNat_le->sW,zero_add->tD
open PySem.PassesOwn renaming never->fS
open Sum renaming inr->fT,inl->pC
open PySem.SeqAt renaming shaped->fU,EqAt->tO
open PySem.Builtin.List renaming listExtendWith->fW,listTooLong->jH,listSameRef->mT,listItems->nQ
open True renaming intro->gF
open PySem.Builtin.Slice renaming slicePlaces->gI,sliceAdjust->jB,sliceApplied->lQ
open List.cons renaming injEq->gJ
open PySem.Around renaming under_plainId->gP,under->qM
open Ne renaming symm->gX
open ForInStep renaming yield->iH
open PySem.NameKind renaming free->iJ,cell->pN
open PySem.Heap.IsTuple renaming push->iR
open PySem.Heap.SameBut renaming update->jC
open PySem.Shared renaming heap->jT
open PySem.Heap.IsSliceOf renaming new->lR
open List.Pairwise renaming map->mI
open PySem.Paired renaming length->mK,snoc->tK
open Prod.mk renaming inj->oS
open PySem.W.SharedT renaming abs->pJ
open PySem.SeqAt.EqAt renaming int_str->pQ,str_int->pR
open Or renaming inr->qB,inl->rD
open Char renaming toNat->qG
open PySem.Code renaming isFrame->qN,frames->tH
open Prod renaming ext->qO
open PySem.StrLaws renaming found_one->qV
open PySem.W.WShape renaming has->tP
namespace L2
open PySem PySem.Spec PyProof.Rows
abbrev Key:=Sum Int Str
def X5:Key->aF->Bool
 | .inl k,v=>tF k v
 | .inr x,v=>sP x v
def A34(w:cC):Key->Int
 | .inl k=>hashInt k
 | .inr x=>hashStr w x
theorem Dy:∀ {k:Key} {v:aF},X5 k v=true->(∃ i t,k=pC i/\v=mV i t)\/(∃ x t,k=fT x/\v=kB x t)
 | .inl i,v,h=>by
  obtain ⟨t,e⟩:=aF.isInt_shape (k:=i) (v:=v) h
  exact .inl ⟨i,t,rfl,e⟩
 | .inr x,v,h=>by
  obtain ⟨t,e⟩:=aF.isStrOf_shape (x:=x) (v:=v) h
  exact .inr ⟨x,t,rfl,e⟩
theorem Ah3(i:Int)(t:Tok):X5 (.inl i) (.int i t)=true:=by simp[X5,tF]
theorem Ajf(x:Str)(t:Tok):X5 (.inr x) (.str x t)=true:=by simp[X5,sP]
theorem Av9(a b:Int):decide ((pC a:Key)=pC b)=(a == b):=by
 by_cases e:a=b
 ·subst e;simp
 ·have h:¬ (pC a:Key)=pC b:=fun q=>e (pC.inj q)
  rw[decide_eq_false h]
  exact (beq_eq_false_iff_ne.mpr e).symm
theorem Awc(a b:Str):decide ((fT a:Key)=fT b)=decide (a=b):=by
 by_cases e:a=b
 ·subst e;simp
 ·have h:¬ (fT a:Key)=fT b:=fun q=>e (fT.inj q)
  rw[decide_eq_false h,decide_eq_false e]
theorem Aug(a:Int)(b:Str):decide ((pC a:Key)=fT b)=false:=decide_eq_false (fun q=>nomatch q)
theorem Auk(a:Str)(b:Int):decide ((fT a:Key)=pC b)=false:=decide_eq_false (fun q=>nomatch q)
def Cu(prog:bT)(w:cC):PySem.KeyKind prog w Key where
 is:=X5
 hash:=A34 w
 inj:=fun v a b ha hb=>by
  rcases Dy ha with ⟨i,t,rfl,rfl⟩ | ⟨x,t,rfl,rfl⟩
  ·rcases Dy hb with ⟨j,u,rfl,e⟩ | ⟨y,u,rfl,e⟩
   ·injection e with e1 _;rw[e1]
   ·exact nomatch e
  ·rcases Dy hb with ⟨j,u,rfl,e⟩ | ⟨y,u,rfl,e⟩
   ·exact nomatch e
   ·injection e with e1 _;rw[e1]
 byValue:=fun k v h=>by
  rcases Dy h with ⟨i,t,rfl,rfl⟩ | ⟨x,t,rfl,rfl⟩ <;> rfl
 pyHash:=fun hv h=>by
  rcases Dy hv with ⟨i,t,rfl,rfl⟩ | ⟨x,t,rfl,rfl⟩
  ·exact wpAny_pyHash_int h
  ·exact wpAny_pyHash_str h
 eqBool:=fun hu hv h=>by
  rcases Dy hu with ⟨i,t,rfl,rfl⟩ | ⟨x,t,rfl,rfl⟩
  ·rcases Dy hv with ⟨j,u,rfl,rfl⟩ | ⟨y,u,rfl,rfl⟩
   ·rw[Av9] at h;exact wpAny_eqBool_int h
   ·rw[Aug] at h;exact pQ i t y u _ _ _ _ h
  ·rcases Dy hv with ⟨j,u,rfl,rfl⟩ | ⟨y,u,rfl,rfl⟩
   ·rw[Auk] at h;exact pR x t j u _ _ _ _ h
   ·rw[Awc] at h;exact wpAny_eqBool_str h
 «strs» := fun k x t v h=>by
  rcases Dy h with ⟨i,u,rfl,e⟩ | ⟨y,u,rfl,e⟩
  ·exact nomatch e
  ·injection e with e1 _
   subst e1
   cases v <;> rfl
theorem Aa8(prog:bT)(w:cC)(i:Int)(t:Tok):(Cu prog w).is (.inl i) (.int i t)=true:=Ah3 i t
theorem Mq(prog:bT)(w:cC)(x:Str)(t:Tok):(Cu prog w).is (.inr x) (.str x t)=true:=Ajf x t
inductive V where
 | non | bl (b:Bool) | int (i:Int) | str (x:Str) | byt (b:Array UInt8) | flt (b:UInt64) | ref (a:Addr) | ty (n:String)
 deriving DecidableEq
def RelV:V->aF->Prop
 | .non,u=>u=fZ
 | .bl b,u=>u=pS b
 | .int i,u=>∃ t,u=mV i t
 | .str x,u=>∃ t,u=kB x t
 | .byt b,u=>∃ t,u=tG b t
 | .flt b,u=>∃ t,u=rK b t
 | .ref a,u=>u=bO a
 | .ty n,u=>u=jO n
abbrev Vals:List V->List aF->Prop:=rZ RelV
variable {xs:List V}{us:List aF}
theorem Vals.length(r:Vals xs us):xs.length=us.length:=mK r
variable {i:Nat}
theorem Vals.get{x:V}(h:Vals xs us)(e:xs[i]? = some x):∃ u,us[i]? = some u/\RelV x u:=by
 induction h generalizing i with
 | nil=>cases e
 | cons r t ih=>
  cases i with
  | zero=>cases e;exact ⟨_,rfl,r⟩
  | succ i=>exact ih (i:=i) e
variable {u:aF}
theorem Vals.set{x:V}(r:RelV x u)(i:Nat)(h:Vals xs us):Vals (xs.set i x) (us.set i u):=by
 induction h generalizing i with
 | nil=>exact .nil
 | cons q t ih=>
  cases i with
  | zero=>exact .cons r t
  | succ i=>exact .cons q (ih i)
variable {ys:List V}
theorem Vals.append{ws:List aF}(h:Vals xs us)(s:Vals ys ws):Vals (xs++ys) (us++ws):=by
 induction h with
 | nil=>exact s
 | cons r t ih=>exact .cons r ih
theorem Vals.take(n:Nat)(h:Vals xs us):Vals (xs.take n) (us.take n):=by
 induction h generalizing n with
 | nil=>cases n <;> exact .nil
 | cons r t ih=>
  cases n with
  | zero=>exact .nil
  | succ n=>exact .cons r (ih n)
theorem Vals.drop(n:Nat)(h:Vals xs us):Vals (xs.drop n) (us.drop n):=by
 induction h generalizing n with
 | nil=>cases n <;> exact .nil
 | cons r t ih=>
  cases n with
  | zero=>exact .cons r t
  | succ n=>exact ih n
theorem Vals.none_of:∀ {xs:List V} {us:List aF} {i:Nat},Vals xs us->xs[i]? = none->us[i]? = none:=fun {xs us i} r e=>by
 have h1:=r.length
 have h2:xs.length<=i:=cH.mp e
 exact cH.mpr (by omega)
def RelO:Option V->Option aF->Prop
 | some v,some u=>RelV v u
 | none,none=>True
 | _,_=>False
def KV{κ:Type}:List (κ×V)->List (κ×aF)->Prop:=rZ fun (p:κ×V) (q:κ×aF)=>p.1=q.1/\RelV p.2 q.2
def kV:Key->V
 | .inl i=>.int i
 | .inr x=>.str x
inductive HO where
 | lst (xs:List V)
 | tup (xs:List V)
 | dK (kvs:List (Key×V)) | dT (kvs:List (List Key×V))
 | set (S:Int->Bool) (n:Nat)
 | ins (C dx:Addr) (fs:List (Str×V))
 | own (x:Addr)
 | xd (fs:List (Str×V))
 | met (f x:Addr)
 | rng (lo hi:Int)
 | frz (o:Obj) (u:HO)
 | tbl (ps:Array aF)
 | ext (φ:Heap->Prop)
abbrev Hp:=Addr->Option HO
def upd(H:Hp)(a:Addr)(o:HO):Hp:=fun b=>if b=a then some o else H b
variable {H:Hp}{a:Addr}{o:HO}
theorem upd_same:upd H a o a=some o:=by unfold upd;rw[if_pos rfl]
variable {b:Addr}
theorem Bj(h:b≠a):upd H a o b=H b:=by unfold upd;rw[if_neg h]
theorem Ako{u:HO}(h:H a=some o)(h':H b=some u)(d:o≠u):a≠b:=by
 intro e;subst e;rw[h] at h';exact d (bN h')
theorem B4(h:H a=some o)(h':H b=none):a≠b:=by
 intro e;subst e;rw[h] at h';cases h'
def TupN(h:Heap)(a:Addr)(its:Array aF):Prop:=∃ o:Obj,h.get? a=some o/\(o.cls,o.dict)=(jO "tuple",(none:Option Addr))/\∃ n,o.data = .seq its n
variable {h:Heap}
theorem TupN.is{its:Array aF}(x:TupN h a its):h.IsTuple a its:=by
 obtain ⟨o,e,c,n,d⟩:=x
 exact ⟨o,e,(oS c).1,n,d⟩
theorem TupN.new(h:Heap)(its:Array aF):TupN (h.push { cls:=.type "tuple",data:=.seq its }) h.objs.size its:=⟨_,aM _ rfl,rfl,0,rfl⟩
theorem TupN.lt{its:Array aF}(x:TupN h a its):a < h.objs.size:=by
 obtain ⟨o,e,_⟩:=x;exact aP e
section
variable (P:bT)(w:cC)
def ObjOk(H:Hp)(h:Heap)(a:Addr):HO->Prop
 | .lst xs=>xs.length<=sizeLine/\∃ (its:List aF) (n:Nat),Vals xs its/\h.get? a=some { cls:=.type "list",data:=.seq its.toArray n }
 | .tup xs=>xs.length<=sizeLine/\∃ its:List aF,Vals xs its/\TupN h a its.toArray
 | .dK kvs=>kvs.length<=sizeLine/\(a == sysModules)=false/\∃ vs,KV kvs vs/\h.DictOf (Cu P w) a vs
 | .dT kvs=>kvs.length<=sizeLine/\(a == sysModules)=false/\∃ xs:List (List Key×Addr×aF),
   rZ (fun (p:List Key×V) (q:List Key×Addr×aF)=>p.1=q.1/\H q.2.1=some (.tup (p.1.map kV))/\RelV p.2 q.2.2) kvs xs /\
   ∃ o es ep,h.get? a=some o/\o.ExactDict/\o.data = .dict es ep/\es.toList=xs.map (entryOfKey (tupleKind (Cu P w)))/\(xs.map (·.1)).Nodup
 | .set S n=>h.SetOf (intKind P w) a S n
 | .ins C dx fs=>H dx=some (.own a)/\fs.length<=1000/\dx≠a/\h.get? a=some (fL C dx) /\
   ∃ mA,h.Ns1 dx mA/\(∀ f,RelO (fs.lookup f) (mA f))/\qI mA (fs.map (·.1))
 | .own _=>∃ o,h.get? a=some o
 | .xd fs=>∃ mA,h.Ns1 a mA/\∀ f,RelO (fs.lookup f) (mA f)
 | .rng lo hi=>∃ t u v,h.get? a=some { cls:=.type "range",data:=.fields #[.int lo t,.int hi u,.int 1 v] }
 | .frz o u=>h.get? a=some o/\ObjOk H h a u
 | .tbl ps=>h.get? a=some { cls:=.none,data:=.fields ps }
 | .met f x=>h.get? a=some (mE (.ref f) (.ref x))
 | .ext φ=>φ h/\(∃ o,h.get? a=some o)/\∀ h1 h2:Heap,φ h1->(∀ o,h1.get? a=some o->h2.get? a=some o)->φ h2
def HOk(H:Hp)(h:Heap):Prop:=∀ a o,H a=some o->ObjOk P w H h a o
end
variable {P:bT}{w:cC}{H':Hp}{h':Heap}
section
theorem ObjOk.lt(x:ObjOk P w H h a o):a < h.objs.size:=by
 cases o with
 | lst xs=>obtain ⟨_,_,_,_,e⟩:=x;exact aP e
 | tup xs=>obtain ⟨_,_,_,p⟩:=x;exact p.lt
 | dK kvs=>obtain ⟨_,_,_,_,o,_,_,e,_⟩:=x;exact aP e
 | dT kvs=>obtain ⟨_,_,_,_,o,_,_,e,_⟩:=x;exact aP e
 | set S n=>obtain ⟨o,_,_,_,e,_⟩:=x;exact aP e
 | ins C dx fs=>obtain ⟨_,_,_,e,_⟩:=x;exact aP e
 | own y=>obtain ⟨_,e⟩:=x;exact aP e
 | xd fs=>obtain ⟨_,⟨_,_,_,e,_⟩,_⟩:=x;exact aP e
 | rng lo hi=>obtain ⟨_,_,_,e⟩:=x;exact aP e
 | frz ob u=>obtain ⟨e,_⟩:=x;exact aP e
 | tbl ps=>exact aP (show h.get? a=some _ from x)
 | met f y=>exact aP (show h.get? a=some _ from x)
 | ext φ=>obtain ⟨_,⟨_,e⟩,_⟩:=x;exact aP e
theorem Paired.mapP{α β:Type}{F G:α->β->Prop}{l₁:List α}{l₂:List β}(h:rZ F l₁ l₂)(f:∀ a b,F a b->G a b):rZ G l₁ l₂:=by
 induction h with
 | nil=>exact .nil
 | cons r t ih=>exact .cons (f _ _ r) ih
theorem ObjOk.stay(x:ObjOk P w H h a o)(k:∀ b u,(b=a\/H b=some (.own a))->h.get? b=some u->h'.get? b=some u)
  (ho:∀ b,H b=some (.own a)->H' b=some (.own a)) (ht:∀ b xs,H b=some (.tup xs)->H' b=some (.tup xs)):ObjOk P w H' h' a o:=by
 induction o with
 | lst xs=>obtain ⟨z,its,n,r,e⟩:=x;exact ⟨z,its,n,r,k _ _ (.inl rfl) e⟩
 | tup xs=>obtain ⟨z,its,r,ob,e,c⟩:=x;exact ⟨z,its,r,ob,k _ _ (.inl rfl) e,c⟩
 | dK kvs=>obtain ⟨z,y,vs,r,ob,es,ep,e,c⟩:=x;exact ⟨z,y,vs,r,ob,es,ep,k _ _ (.inl rfl) e,c⟩
 | dT kvs=>
  obtain ⟨z,y,xs,r,ob,es,ep,e,c⟩:=x
  exact ⟨z,y,xs,Paired.mapP r fun p q z=>⟨z.1,ht _ _ z.2.1,z.2.2⟩,ob,es,ep,k _ _ (.inl rfl) e,c⟩
 | set S n=>obtain ⟨ob,es,ep,t,e,c⟩:=x;exact ⟨ob,es,ep,t,k _ _ (.inl rfl) e,c⟩
 | ins C dx fs=>
  obtain ⟨d,z,ne,e,mA,⟨od,es,ep,e2,c⟩,r⟩:=x
  exact ⟨ho _ d,z,ne,k _ _ (.inl rfl) e,mA,⟨od,es,ep,k _ _ (.inr d) e2,c⟩,r⟩
 | own y=>obtain ⟨ob,e⟩:=x;exact ⟨ob,k _ _ (.inl rfl) e⟩
 | xd fs=>obtain ⟨mA,⟨od,es,ep,e,c⟩,r⟩:=x;exact ⟨mA,⟨od,es,ep,k _ _ (.inl rfl) e,c⟩,r⟩
 | rng lo hi=>obtain ⟨t,u,v,e⟩:=x;exact ⟨t,u,v,k _ _ (.inl rfl) e⟩
 | frz ob u ih=>obtain ⟨e,q⟩:=x;exact ⟨k _ _ (.inl rfl) e,ih q⟩
 | tbl ps=>
  have e:h.get? a=some { cls:=.none,data:=.fields ps }:=x
  show h'.get? a=some { cls:=.none,data:=.fields ps }
  exact k a _ (.inl rfl) e
 | met f y=>
  have e:h.get? a=some (mE (.ref f) (.ref y)):=x
  show h'.get? a=some (mE (.ref f) (.ref y))
  exact k a _ (.inl rfl) e
 | ext φ=>obtain ⟨p,⟨o,e⟩,st⟩:=x;exact ⟨st _ _ p fun o q=>k _ _ (.inl rfl) q,⟨o,k _ _ (.inl rfl) e⟩,st⟩
theorem HOk.lt(x:HOk P w H h)(e:H a=some o):a < h.objs.size:=(x a o e).lt
theorem HOk.fresh(x:HOk P w H h)(e:h.objs.size<=a):H a=none:=by
 cases q:H a with
 | none=>rfl
 | some u=>exact absurd (aW (x.lt q) e) (dY _)
theorem HOk.kept(x:HOk P w H h)(k:∀ b u,h.get? b=some u->h'.get? b=some u):HOk P w H h':=fun a o e=>
 (x a o e).stay (fun b u _ q=>k b u q) (fun _ q=>q) fun _ _ q=>q
theorem HOk.laid(x:HOk P w H h)(k:∀ b u,h.get? b=some u->h'.get? b=some u)(hp:h.objs.size<=a)(new:ObjOk P w (upd H a o) h' a o):HOk P w (upd H a o) h':=fun b u e=>by
 have hn:=x.fresh hp
 by_cases hb:b=a
 ·subst hb;rw[upd_same] at e;cases e;exact new
 ·rw[Bj hb] at e
  exact (x b u e).stay (fun c v _ q=>k c v q) (fun c q=>by rw[Bj (B4 q hn)];exact q) fun c xs q=>by rw[Bj (B4 q hn)];exact q
end
def Rd(H:Hp)(a:Addr)(u:HO):Prop:=H a=some u\/∃ o,H a=some (.frz o u)
theorem Rd.of{u:HO}(h:H a=some u):Rd H a u:=.inl h
theorem Rd.ok{u:HO}(r:Rd H a u)(x:HOk P w H h):ObjOk P w H h a u:=by
 rcases r with r | ⟨o,r⟩
 ·exact x a u r
 ·obtain ⟨_,q⟩:=x a _ r
  exact q
def Mut:Option HO->Prop
 | some (.lst _)=>True
 | some (.dK _)=>True
 | some (.dT _)=>True
 | some (.set _ _)=>True
 | some (.ins _ _ _)=>True
 | some (.ext _)=>True
 | _=>False
section
variable {x e:Addr}{o':HO}
theorem HOk.write(ok:HOk P w H h)(mu:Mut (H x))(he:e=x\/H e=some (.own x))(k:∀ b u,b≠e->h.get? b=some u->h'.get? b=some u)(heo:∃ u,h'.get? e=some u)
  (new:ObjOk P w (upd H x o') h' x o'):HOk P w (upd H x o') h':=fun b u q=>by
 have nown:∀ c y,H c=some (.own y)->c≠x:=fun c y r z=>by subst z;rw[r] at mu;exact mu
 have ntup:∀ c xs,H c=some (.tup xs)->c≠x:=fun c xs r z=>by subst z;rw[r] at mu;exact mu
 by_cases hb:b=x
 ·subst hb;rw[upd_same] at q;cases q;exact new
 ·rw[Bj hb] at q
  by_cases hbe:b=e
  ·have q':H b=some (.own x):=by
    rcases he with z | z
    ·exact absurd (hbe.trans z) hb
    ·rw[hbe];exact z
   rw[q] at q';cases q'
   obtain ⟨v,hv⟩:=heo
   exact ⟨v,by rw[hbe];exact hv⟩
  ·refine (ok b u q).stay (fun c v hc r=>k c v ?_ r) (fun c r=>by rw[Bj (nown c b r)];exact r) fun c xs r=>by rw[Bj (ntup c xs r)];exact r
   rcases hc with rfl | hc
   ·exact hbe
   ·rintro rfl
    rcases he with z | z
    ·exact nown c b hc z
    ·rw[hc] at z;cases z;exact hb rfl
end
structure Un(fs ex:List Addr)(H H':Hp)(h h':Heap):Prop where
 keep:∀ b o,h.get? b=some o->H b=none->b∉fs->b∉ex->h'.get? b=some o
 slot:∀ b o,h.get? b=some o->H b=none->b∈fs->b∉ex->∃ sl,h'.get? b=some { o with slots:=sl }
 free:∀ b o,h.get? b=some o->H b=none->b∉ex->H' b=none
 there:∀ b o,h.get? b=some o->b∉ex->∃ o',h'.get? b=some o'
 tups:∀ b xs,H b=some (.tup xs)->H' b=some (.tup xs)
 frzs:∀ b o u,H b=some (.frz o u)->H' b=some (.frz o u)
 tbls:∀ b ps,H b=some (.tbl ps)->∃ more,H' b=some (.tbl (ps++more))
section
variable {fs fs' ex ex':List Addr}{H1 H2:Hp}{h1 h2:Heap}{x e:Addr}
theorem Un.any(u:Un fs ex H H1 h h1){ob:Obj}(q:h.get? b=some ob)(n:H b=none)(hx:b∉ex):∃ sl,h1.get? b=some { ob with slots:=sl }:=by
 by_cases hb:b∈fs
 ·exact u.slot b ob q n hb hx
 ·exact ⟨ob.slots,u.keep b ob q n hb hx⟩
theorem Un.trans(a:Un fs ex H H1 h h1)(b:Un fs ex H1 H2 h1 h2):Un fs ex H H2 h h2 where
 keep:=fun c ob q n hc hx=>b.keep c ob (a.keep c ob q n hc hx) (a.free c ob q n hx) hc hx
 slot:=fun c ob q n hc hx=>by
  obtain ⟨sl,e1⟩:=a.slot c ob q n hc hx
  obtain ⟨sl',e2⟩:=b.slot c _ e1 (a.free c ob q n hx) hc hx
  exact ⟨sl',e2⟩
 free:=fun c ob q n hx=>by
  obtain ⟨o',e1⟩:=a.there c ob q hx
  exact b.free c o' e1 (a.free c ob q n hx) hx
 there:=fun c ob q hx=>by
  obtain ⟨o',e1⟩:=a.there c ob q hx
  exact b.there c o' e1 hx
 tups:=fun c xs q=>b.tups c xs (a.tups c xs q)
 frzs:=fun c ob xs q=>b.frzs c ob xs (a.frzs c ob xs q)
 tbls:=fun c ps q=>by
  obtain ⟨m1,e1⟩:=a.tbls c ps q
  obtain ⟨m2,e2⟩:=b.tbls c _ e1
  exact ⟨m1++m2,by rw[e2,pT]⟩
theorem Un.kept(k:∀ b u,h.get? b=some u->h'.get? b=some u):Un fs ex H H h h':=
 ⟨fun b ob q _ _ _=>k b ob q,fun b ob q _ _ _=>⟨ob.slots,k b ob q⟩,fun _ _ _ n _=>n,fun b ob q _=>⟨ob,k b ob q⟩,fun _ _ q=>q,fun _ _ _ q=>q,fun _ ps q=>⟨#[],by rw[q];simp⟩⟩
theorem Un.refl:Un fs ex H H h h:=Un.kept fun _ _ q=>q
theorem Un.laid(k:∀ b u,h.get? b=some u->h'.get? b=some u)(hp:h.objs.size<=a)(hn:H a=none):Un fs ex H (upd H a o) h h' where
 keep:=fun b u q _ _ _=>k b u q
 slot:=fun b u q _ _ _=>⟨u.slots,k b u q⟩
 free:=fun b u q n _=>by rw[Bj (cA (aW (aP q) hp))];exact n
 there:=fun b u q _=>⟨u,k b u q⟩
 tups:=fun b xs q=>by rw[Bj (B4 q hn)];exact q
 frzs:=fun b u xs q=>by rw[Bj (B4 q hn)];exact q
 tbls:=fun b ps q=>⟨#[],by rw[Bj (B4 q hn),q];simp⟩
theorem Un.write(mu:Mut (H x))(he:e=x\/H e=some (.own x))(k:∀ b u,b≠e->h.get? b=some u->h'.get? b=some u)(heo:∃ u,h'.get? e=some u):Un fs ex H (upd H x o) h h':=by
 have hx:∀ b,H b=none->b≠x:=fun b n z=>by subst z;rw[n] at mu;exact mu
 have hb:∀ b,H b=none->b≠e:=fun b n z=>by
  subst z
  rcases he with r | r
  ·exact hx b n r
  ·rw[n] at r;cases r
 have hm:∀ b u,H b=some u->¬ Mut (some u)->b≠x:=fun b u q nm z=>by subst z;rw[q] at mu;exact nm mu
 refine ⟨fun b u q n _ _=>k b u (hb b n) q,fun b u q n _ _=>⟨u.slots,k b u (hb b n) q⟩,fun b u q n _=>by rw[Bj (hx b n)];exact n,fun b u q _=>?_,
  fun b xs q=>by rw[Bj (hm b _ q fun z=>z)];exact q,fun b u xs q=>by rw[Bj (hm b _ q fun z=>z)];exact q,fun b ps q=>⟨#[],by rw[Bj (hm b _ q fun z=>z),q];simp⟩⟩
 by_cases hbe:b=e
 ·subst hbe;exact heo
 ·exact ⟨u,k b u hbe q⟩
theorem Un.mono(u:Un fs ex H H1 h h1)(hs:∀ b∈fs,b∈fs')(hx:∀ b∈ex,b∈ex'):Un fs' ex' H H1 h h1:=
 ⟨fun b ob q n hb he=>u.keep b ob q n (fun z=>hb (hs b z)) fun z=>he (hx b z),fun _ _ q n _ he=>u.any q n fun z=>he (hx _ z),fun b ob q n he=>u.free b ob q n fun z=>he (hx b z),fun b ob q he=>u.there b ob q fun z=>he (hx b z),u.tups,u.frzs,u.tbls⟩
end
def trk(h:Heap)(H:Hp):List Addr:=(cK h.objs.size).filter fun a=>(H a).isSome
def Aad(h:Heap)(H:Hp):Heap:=PySem.W.hideAll h (trk h H)
theorem Ahr(h:Heap)(H:Hp):(Aad h H).objs.size=h.objs.size:=PySem.W.hideAll_size _ _
theorem Amk{o:Obj}(e:h.get? b=some o)(n:H b=none):(Aad h H).get? b=some o:=
 PySem.W.hideAll_get _ e fun hm=>by
  have q:(H b).isSome=true:=(iG.mp hm).2
  rw[n] at q;simp at q
theorem Arf{o:Obj}(e:(Aad h H).get? b=some o):h.get? b=some o/\H b=none:=by
 have e':h.get? b=some o:=PySem.W.of_hideAll (trk h H) e
 refine ⟨e',?_⟩
 cases q:H b with
 | none=>rfl
 | some x=>
  have hm:b∈trk h H:=iG.mpr ⟨eR.mpr (aP e'),by simp[q]⟩
  have z:(Aad h H).get? b=none:=PySem.W.hideAll_none (trk h H) hm
  rw[z] at e;cases e
def Ap0(g h:Heap)(L:Addr):List (Addr×Obj):=(cK h.objs.size).filterMap fun a=>if a=L\/(g.get? a).isSome=true then none else (h.get? a).map fun o=>(a,o)
def rest(g h:Heap)(L d:Addr):List (Addr×Obj):=(Ap0 g h L).filter fun p=>decide (p.1≠d)
structure Mod(K:aE)(mg:Str->Option aF)(base:Heap):Prop where
 kin:K.In base
 glob:base.Ns bQ mg
 blt:∃ mb,base.Ns pU mb/\∀ x:Str,x ≠ "__name__" -> mb x=eA x
 nolimit:base.NoLimit
structure Cx where
 prog:bT
 w:cC
 K:aE
 mg:Str->Option aF
 base:Heap
 A:eD
 N:List Str
 s₀:aJ
 H₀:Hp
 env:Env
 outer:List Env
 stack:List Env
 ex:List Addr
 fn:Str->Bool
 calm:Bool
 pn:List (Addr×Obj)
 xe:aF->aJ->Prop
def frs(l:List Env):List Addr:=l.filterMap (·.frame)
abbrev Cx.fs(X:Cx):List Addr:=frs X.outer
def Vis(sc:mF)(x:Str):Prop:=sc.names.lookup x=some .local\/sc.names.lookup x=some .cell\/sc.names.lookup x=some .free
def Loc(sc:mF)(x:Str):Prop:=sc.names.lookup x=some .local\/sc.names.lookup x=some .cell
def A26(env:Env)(h:Heap)(m:Str->Option aF)(x:Str)(u:aF):Prop:=
 (env.kindOf x=some .local/\m x=some u)\/((env.kindOf x=some .cell\/env.kindOf x=some .free)/\∃ c,env.cells.lookup x=some c/\h.IsCell c (some u))
structure Cx.Ok(X:Cx):Prop where
 mod:Mod X.K X.mg X.base
 kind:X.env.scope.kind = .function
 glob:X.env.globals=bQ
 blt:X.env.builtins=pU
 above:X.s₀.heap.objs.size<=X.env.locals
 inj:∀ x y c,X.env.cells.lookup x=some c->X.env.cells.lookup y=some c->x=y
 has:∀ x,(X.env.kindOf x=some .cell\/X.env.kindOf x=some .free)->∃ c,X.env.cells.lookup x=some c
 cab:∀ x c,X.fn x=true->X.env.cells.lookup x=some c->X.s₀.heap.objs.size<=c
 hd:X.calm=true->X.A.handled=none
 frames:X.A.frames=some X.stack
 stk:X.stack=X.outer\/(X.stack=X.env::X.outer/\X.env.frame=some X.env.locals)
 exf:∀ b∈X.ex,b≠X.env.locals/\∀ x c,X.env.cells.lookup x=some c->c≠b
 bs:∀ b o,X.base.get? b=some o->X.s₀.heap.get? b=some o/\X.H₀ b=none
 bsz:X.base.objs.size<=X.s₀.heap.objs.size
 noex:∀ b o,X.base.get? b=some o->b∉X.ex
 exfs:∀ b∈X.ex,b∉X.fs
 funs:X.s₀.heap.FunFrames X.base X.outer
 frf:∀ b∈X.fs,X.H₀ b=none
structure Inv(X:Cx)(pins:List (Addr×Obj))(σ:List (Option V))(H:Hp)(s:aJ):Prop where
 ok:X.Ok
 os:s.os=X.s₀.os
 bare:kX s.gens
 base:Un X.fs X.ex X.H₀ H X.s₀.heap s.heap
 loc:∃ m,s.heap.Ns X.env.locals m/\∀ (i:Nat) (x:Str) (v:V),X.N[i]? = some x->σ[i]? = some (some v)->Vis X.env.scope x->∃ u,RelV v u/\A26 X.env s.heap m x u
 cell:∀ x c,X.env.cells.lookup x=some c->∃ v,s.heap.IsCell c v
 free:H X.env.locals=none
 freeC:∀ x c,X.env.cells.lookup x=some c->H c=none
 pin:∀ p∈X.pn++pins,s.heap.get? p.1=some p.2/\H p.1=none/\p.1≠X.env.locals/\p.1∉X.fs/\∀ v,p.2.data≠.cell v
 hok:HOk X.prog X.w H s.heap
 len:σ.length=X.N.length
variable {x:Str}{X:Cx}{pins:List (Addr×Obj)}{s s':aJ}{t' j:Nat}{ch:List Addr}{M:Model}{A:eD}{E:aF->aJ->Prop}{v:V}
section
variable {σ:List (Option V)}
theorem Cx.Ok.nofr(ok:X.Ok){o:Obj}(e:X.base.get? b=some o):b∉X.fs:=fun hb=>by
 have:=(ok.funs.mem hb).1
 rw[e] at this;cases this
theorem Inv.bs(I:Inv X pins σ H s):∀ b o,X.base.get? b=some o->s.heap.get? b=some o/\H b=none:=fun b o e=>
 ⟨I.base.keep b o (I.ok.bs b o e).1 (I.ok.bs b o e).2 (I.ok.nofr e) (I.ok.noex b o e),I.base.free b o (I.ok.bs b o e).1 (I.ok.bs b o e).2 (I.ok.noex b o e)⟩
theorem Inv.bk(I:Inv X pins σ H s):∀ b o,X.base.get? b=some o->s.heap.get? b=some o:=fun b o e=>(I.bs b o e).1
theorem Inv.mod(I:Inv X pins σ H s):Mod X.K X.mg X.base:=I.ok.mod
theorem Inv.kIn(I:Inv X pins σ H s):X.K.In s.heap:=I.ok.mod.kin.keeps I.bk
theorem Inv.nolimit(I:Inv X pins σ H s):s.heap.NoLimit:=I.ok.mod.nolimit.keeps I.bk
theorem Inv.fr(I:Inv X pins σ H s):∃ m,Fr X.base X.env.locals s.heap m:=
 let ⟨m,hn,_⟩:=I.loc
 ⟨m,hn,I.bk,cB I.ok.bsz I.ok.above⟩
theorem Inv.lt(I:Inv X pins σ H s):X.env.locals < s.heap.objs.size:=let ⟨_,hn,_⟩:=I.loc;hn.lt
theorem Inv.sz(I:Inv X pins σ H s):X.s₀.heap.objs.size<=s.heap.objs.size:=cB I.ok.above (iY I.lt)
theorem Inv.nofs(I:Inv X pins σ H s)(h:s.heap.objs.size<=a):a∉X.fs:=fun hb=>by
 obtain ⟨_,o,ho,_⟩:=I.ok.funs.mem hb
 exact absurd (aW (aP ho) (cB I.sz h)) (dY _)
theorem Inv.cne(I:Inv X pins σ H s):∀ x c,X.env.cells.lookup x=some c->c≠X.env.locals:=fun x c e z=>by
 obtain ⟨v,o,ho,hd⟩:=I.cell x c e
 obtain ⟨m,⟨o',es,ep,ho',hd',_⟩,_⟩:=I.loc
 rw[z,ho'] at ho;cases ho;rw[hd'] at hd;cases hd
theorem Inv.funs(I:Inv X pins σ H s):s.heap.FunFrames X.base X.outer:=by
 have all:∀ (l:List Env),(∀ b∈frs l,b∈X.fs)->X.s₀.heap.FunFrames X.base l->s.heap.FunFrames X.base l:=by
  intro l
  induction l with
  | nil=>intro _ _;trivial
  | cons env r ih=>
   intro hs hl
   obtain ⟨hk,⟨L,o,hf,hn,ho,hd⟩,hr⟩:=hl
   have hL:L∈X.fs:=hs L (by unfold frs;rw[fA,hf];exact bE)
   obtain ⟨sl,e⟩:=I.base.slot L o ho (I.ok.frf L hL) hL fun z=>I.ok.exfs L z hL
   exact ⟨hk,⟨L,_,hf,hn,e,hd⟩,ih (fun b hb=>hs b (by unfold frs;rw[fA,hf];exact aQ _ hb)) hr⟩
 exact all X.outer (fun _ hb=>hb) I.ok.funs
theorem Inv.stack(I:Inv X pins σ H s):s.heap.FunFrames X.base X.stack:=by
 rcases I.ok.stk with e | ⟨e,hf⟩
 ·rw[e];exact I.funs
 ·rw[e]
  obtain ⟨m,hn,_⟩:=I.loc
  refine .cons (by rw[I.ok.kind];decide) hf hn ?_ I.funs
  exact Heap.get?_none_of_le (cB I.ok.bsz I.ok.above)
theorem Inv.stkSub(I:Inv X pins σ H s):∀ b∈frs X.stack,b∈X.env.locals::X.fs:=fun b hb=>by
 rcases I.ok.stk with e | ⟨e,hf⟩
 ·rw[e] at hb;exact aQ _ hb
 ·rw[e] at hb
  unfold frs at hb
  rw[fA,hf] at hb
  exact hb
theorem Inv.stkFree(I:Inv X pins σ H s):∀ b∈frs X.stack,H b=none:=fun b hb=>by
 rcases bL.mp (I.stkSub b hb) with e | hb
 ·rw[e];exact I.free
 ·obtain ⟨_,o,ho,_⟩:=I.ok.funs.mem hb
  exact I.base.free b o ho (I.ok.frf b hb) fun z=>I.ok.exfs b z hb
theorem Inv.step{g':Array mW}{d':Drawn}(I:Inv X pins σ H s)
  (hch:∀ b∈ch,(b∈X.ex\/X.s₀.heap.objs.size<=b)/\b≠X.env.locals/\(∀ x c,X.env.cells.lookup x=some c->c≠b)/\∀ p∈X.pn++pins,p.1≠b)
  (keep:∀ b o,b≠X.env.locals->b∉X.fs->b∉ch->s.heap.get? b=some o->H b=none->h'.get? b=some o)
  (slot:∀ b o,b≠X.env.locals->b∈X.fs->b∉ch->s.heap.get? b=some o->H b=none->∃ sl,h'.get? b=some { o with slots:=sl }) (free:∀ b o,b∉ch->s.heap.get? b=some o->H b=none->H' b=none)
  (there:∀ b o,b∉ch->s.heap.get? b=some o->∃ o',h'.get? b=some o')
  (tups:∀ b xs,H b=some (.tup xs)->H' b=some (.tup xs)) (frzs:∀ b o u,H b=some (.frz o u)->H' b=some (.frz o u)) (tbls:∀ b ps,H b=some (.tbl ps)->∃ more,H' b=some (.tbl (ps++more)))
  (ns:∀ m,s.heap.Ns X.env.locals m->h'.Ns X.env.locals m) (hok:HOk X.prog X.w H' h') (hg:kX g') :
  Inv X pins σ H' { s with heap:=h',gens:=g',drawn:=d',toks:=t' }:=by
 have neL:∀ b o,X.s₀.heap.get? b=some o->b≠X.env.locals:=fun b o e=>cA (aW (aP e) I.ok.above)
 have neC:∀ b o,X.s₀.heap.get? b=some o->b∉X.ex->b∉ch:=fun b o e hx hb=>by
  rcases (hch b hb).1 with z | z
  ·exact hx z
  ·exact absurd (aW (aP e) z) (dY _)
 have cellK:∀ x c,X.env.cells.lookup x=some c->∀ v,s.heap.IsCell c v->h'.IsCell c v:=fun x c e v zz=>by
  obtain ⟨o,ho,hd⟩:=zz
  have nch:c∉ch:=fun z=>(hch c z).2.2.1 x c e rfl
  by_cases hc:c∈X.fs
  ·obtain ⟨sl,q⟩:=slot c o (I.cne x c e) hc nch ho (I.freeC x c e)
   exact ⟨_,q,hd⟩
  ·exact ⟨o,keep c o (I.cne x c e) hc nch ho (I.freeC x c e),hd⟩
 refine ⟨I.ok,I.os,hg,⟨fun b o e n hb hx=>?_,fun b o e n hb hx=>?_,fun b o e n hx=>?_,fun b o e hx=>?_,fun b xs e=>tups b xs (I.base.tups b xs e),fun b o xs e=>frzs b o xs (I.base.frzs b o xs e),fun b ps e=>?_⟩,?_,fun x c e=>?_,?_,fun x c e=>?_,fun p hp=>?_,hok,I.len⟩
 ·exact keep b o (neL b o e) hb (neC b o e hx) (I.base.keep b o e n hb hx) (I.base.free b o e n hx)
 ·obtain ⟨sl,e1⟩:=I.base.slot b o e n hb hx
  obtain ⟨sl',e2⟩:=slot b _ (neL b o e) hb (neC b o e hx) e1 (I.base.free b o e n hx)
  exact ⟨sl',e2⟩
 ·obtain ⟨o',e1⟩:=I.base.there b o e hx
  exact free b o' (neC b o e hx) e1 (I.base.free b o e n hx)
 ·obtain ⟨o',e1⟩:=I.base.there b o e hx
  exact there b o' (neC b o e hx) e1
 ·obtain ⟨m1,e1⟩:=I.base.tbls b ps e
  obtain ⟨m2,e2⟩:=tbls b _ e1
  exact ⟨m1++m2,by rw[e2,pT]⟩
 ·obtain ⟨m,hn,hl⟩:=I.loc
  refine ⟨m,ns m hn,fun i x v e1 e2 e3=>?_⟩
  obtain ⟨u,r,l⟩:=hl i x v e1 e2 e3
  refine ⟨u,r,?_⟩
  rcases l with l | ⟨k,c,e,z⟩
  ·exact .inl l
  ·exact .inr ⟨k,c,e,cellK x c e _ z⟩
 ·obtain ⟨v,z⟩:=I.cell x c e
  exact ⟨v,cellK x c e v z⟩
 ·obtain ⟨m,⟨o,_,_,ho,_⟩,_⟩:=I.loc
  exact free _ o (fun z=>(hch _ z).2.1 rfl) ho I.free
 ·obtain ⟨v,o,ho,hd⟩:=I.cell x c e
  exact free c o (fun z=>(hch c z).2.2.1 x c e rfl) ho (I.freeC x c e)
 ·obtain ⟨e,n,ne,nf,d⟩:=I.pin p hp
  have nch:p.1∉ch:=fun z=>(hch p.1 z).2.2.2 p hp rfl
  exact ⟨keep p.1 p.2 ne nf nch e n,free p.1 p.2 nch e n,ne,nf,d⟩
theorem Inv.un(I:Inv X pins σ H s)(u:Un X.fs [] H H' s.heap h')(hok:HOk X.prog X.w H' h'):Inv X pins σ H' { s with heap:=h',toks:=t' }:=by
 obtain ⟨m,⟨o,es,ep,ho,r⟩,_⟩:=id I.loc
 obtain ⟨sl,hL⟩:=u.any ho I.free (by simp)
 exact I.step (g':=s.gens) (d':=s.drawn) (ch:=[]) (fun _ z=>nomatch z) (fun b o _ hb _ e n=>u.keep b o e n hb (by simp)) (fun b o _ hb _ e n=>u.slot b o e n hb (by simp)) (fun b o _ e n=>u.free b o e n (by simp)) (fun b o _ e=>u.there b o e (by simp)) u.tups u.frzs u.tbls (fun m' hm=>by
  obtain ⟨o',es',ep',ho',r'⟩:=hm
  rw[ho] at ho';cases ho'
  exact ⟨_,es',ep',hL,r'⟩) hok I.bare
theorem Inv.call{g':Array mW}{d':Drawn}(I:Inv X pins σ H s)(u:Un (frs X.stack) ch H H' s.heap h')(hok:HOk X.prog X.w H' h')(hg:kX g')
  (hch:∀ b∈ch,(b∈X.ex\/X.s₀.heap.objs.size<=b)/\b≠X.env.locals/\(∀ x c,X.env.cells.lookup x=some c->c≠b)/\∀ p∈X.pn++pins,p.1≠b) :
  Inv X pins σ H' { s with heap:=h',gens:=g',drawn:=d',toks:=t' }:=by
 obtain ⟨m,⟨o,es,ep,ho,r⟩,_⟩:=id I.loc
 obtain ⟨sl,hL⟩:=u.any ho I.free fun z=>(hch _ z).2.1 rfl
 exact I.step (ch:=ch) hch (fun b o hL hb hc e n=>u.keep b o e n (fun z=>(bL.mp (I.stkSub b z)).elim hL hb) hc) (fun b o _ _ hc e n=>u.any e n hc) (fun b o hc e n=>u.free b o e n hc) (fun b o hc e=>u.there b o e hc) u.tups u.frzs u.tbls (fun m' hm=>by
  obtain ⟨o',es',ep',ho',r'⟩:=hm
  rw[ho] at ho';cases ho'
  exact ⟨_,es',ep',hL,r'⟩) hok hg
theorem Inv.turned{it:Addr}(I:Inv X pins σ H s)(k:∀ b o,b≠it->s.heap.get? b=some o->h'.get? b=some o)(hn:H it=none)(hL:it≠X.env.locals)
  (h1:it∈X.ex\/X.s₀.heap.objs.size<=it) (h2:∀ x c,X.env.cells.lookup x=some c->c≠it) (h3:∀ p∈X.pn++pins,p.1≠it):Inv X pins σ H { s with heap:=h',toks:=t' }:=by
 have nit:∀ b u,H b=some u->b≠it:=fun b u e z=>by rw[z,hn] at e;cases e
 refine I.step (g':=s.gens) (d':=s.drawn) (ch:=[it]) (fun b hb=>?_) (fun b o _ _ hc e _=>k b o (fun z=>hc (by simp[z])) e) (fun b o _ _ hc e _=>⟨o.slots,k b o (fun z=>hc (by simp[z])) e⟩) (fun _ _ _ _ n=>n)
  (fun b o hc e=>⟨o,k b o (fun z=>hc (by simp[z])) e⟩) (fun _ _ e=>e) (fun _ _ _ e=>e) (fun b ps e=>⟨#[],by rw[e];simp⟩) (fun m hm=>?_) (fun b u e=>?_) I.bare
 ·have e:b=it:=by simpa using hb
  subst e
  exact ⟨h1,hL,h2,h3⟩
 ·obtain ⟨o,es,ep,ho,r⟩:=hm
  exact ⟨o,es,ep,k _ o (gX hL) ho,r⟩
 ·refine (I.hok b u e).stay (fun c v hc q=>k c v ?_ q) (fun _ q=>q) fun _ _ q=>q
  rcases hc with z | z
  ·rw[z];exact nit b u e
  ·exact nit c _ z
theorem Inv.tok(I:Inv X pins σ H s)(t:Nat):Inv X pins σ H { s with toks:=t }:=I.un (h':=s.heap) (t':=t) Un.refl I.hok
theorem Inv.kept(I:Inv X pins σ H s)(k:∀ b u,s.heap.get? b=some u->h'.get? b=some u):Inv X pins σ H { s with heap:=h',toks:=t' }:=I.un (Un.kept k) (I.hok.kept k)
theorem Inv.laid(I:Inv X pins σ H s)(k:∀ b u,s.heap.get? b=some u->h'.get? b=some u)(hp:s.heap.objs.size<=a)(new:ObjOk X.prog X.w (upd H a o) h' a o) :
  Inv X pins σ (upd H a o) { s with heap:=h',toks:=t' }:=I.un (Un.laid k hp (I.hok.fresh hp)) (I.hok.laid k hp new)
theorem Inv.write{x e:Addr}(I:Inv X pins σ H s)(mu:Mut (H x))(he:e=x\/H e=some (.own x))(k:∀ b u,b≠e->s.heap.get? b=some u->h'.get? b=some u)(heo:∃ u,h'.get? e=some u)
  (new:ObjOk X.prog X.w (upd H x o) h' x o):Inv X pins σ (upd H x o) { s with heap:=h',toks:=t' }:=I.un (Un.write mu he k heo) (I.hok.write mu he k heo new)
theorem Inv.pins_of{pins':List (Addr×Obj)}(I:Inv X pins σ H s)(h:∀ p∈pins',s.heap.get? p.1=some p.2/\H p.1=none/\p.1≠X.env.locals/\p.1∉X.fs/\∀ v,p.2.data≠.cell v):Inv X pins' σ H s:=
 ⟨I.ok,I.os,I.bare,I.base,I.loc,I.cell,I.free,I.freeC,fun p hp=>(cV.mp hp).elim (fun z=>I.pin p (eK _ z)) (h p),I.hok,I.len⟩
theorem Abl{N:List Str}(hN:N.Nodup)(a:N[i]? = some x)(b:N[j]? = some x):i=j:=by
 obtain ⟨h1,e1⟩:=aK.mp a
 obtain ⟨h2,e2⟩:=aK.mp b
 exact (mX hN).mp (e1.trans e2.symm)
theorem Ajj{Q:Unit->aJ->Prop}(I:Inv X pins σ H s)(hN:X.N.Nodup)(hi:X.N[i]? = some x)(hx:Loc X.env.scope x)(r:RelV v u)
  (h:∀ s',Inv X pins (σ.set i (some v)) H s'->(∃ a,gK a s.heap s'.heap/\(a=X.env.locals\/X.env.cells.lookup x=some a))->Q () s') (hf:X.fn x=true\/X.env.scope.names.lookup x=some .local:=by first | exact .inl rfl | exact .inr rfl | assumption):wpAny M A (storeName X.env x u) Q E s:=by
 obtain ⟨m,hn,hl⟩:=id I.loc
 have hcls:(X.env.scope.kind == .class || (X.env.scope.kind == .module&&X.env.locals != X.env.globals))=false:=by rw[I.ok.kind];rfl
 have hiσ:i < σ.length:=by rw[I.len];exact (aK.mp hi).1
 have cne:=I.cne
 have tracked:∀ {a:Addr} {h':Heap},(∃ o,s.heap.get? a=some o/\H a=none)->gK a s.heap h'->HOk X.prog X.w H h':=fun {a h'} ha hs b ob e=>by
  obtain ⟨_,_,hfree⟩:=ha
  refine (I.hok b ob e).stay (fun c w' hc q=>(hs.2 c ?_).trans q) (fun _ q=>q) fun _ _ q=>q
  rintro rfl
  rcases hc with rfl | hc
  ·rw[hfree] at e;cases e
  ·rw[hfree] at hc;cases hc
 rcases hx with hk | hk
 ·refine wpAny_storeName_local hk hn (fun h' hn' hs=>?_) hcls
  obtain ⟨oL,_,_,hoL,_⟩:=id hn
  refine h _ ⟨I.ok,I.os,I.bare,⟨fun b o e n hb hx=>?_,fun b o e n hb hx=>?_,I.base.free,fun b o e hx=>?_,I.base.tups,I.base.frzs,I.base.tbls⟩,⟨_,hn',fun j y v' e1 e2 e3=>?_⟩,fun y c e=>?_,I.free,I.freeC,fun p hp=>?_,tracked ⟨oL,hoL,I.free⟩ hs,by simpa using I.len⟩ ⟨_,hs,.inl rfl⟩
  ·exact (hs.2 b (cA (aW (aP e) I.ok.above))).trans (I.base.keep b o e n hb hx)
  ·obtain ⟨sl,e1⟩:=I.base.slot b o e n hb hx
   exact ⟨sl,(hs.2 b (cA (aW (aP e) I.ok.above))).trans e1⟩
  ·obtain ⟨o',e1⟩:=I.base.there b o e hx
   exact ⟨o',(hs.2 b (cA (aW (aP e) I.ok.above))).trans e1⟩
  ·by_cases hj:j=i
   ·subst hj
    rw[hi] at e1;cases e1
    rw[bU hiσ] at e2
    cases e2
    exact ⟨u,r,.inl ⟨hk,by simp⟩⟩
   ·rw[bW (gX hj)] at e2
    obtain ⟨u',r',q⟩:=hl j y v' e1 e2 e3
    refine ⟨u',r',?_⟩
    rcases q with ⟨k,e⟩ | ⟨k,c,e,z⟩
    ·refine .inl ⟨k,?_⟩
     have:y≠x:=fun e=>hj (Abl hN e1 (e ▸ hi))
     simp[this,e]
    ·exact .inr ⟨k,c,e,z.sameBut hs (cne y c e)⟩
  ·obtain ⟨w',z⟩:=I.cell y c e
   exact ⟨w',z.sameBut hs (cne y c e)⟩
  ·obtain ⟨e,n,ne,nf,d⟩:=I.pin p hp
   exact ⟨(hs.2 p.1 ne).trans e,n,ne,nf,d⟩
 ·have hfn:X.fn x=true:=by
   rcases hf with z | z
   ·exact z
   ·rw[z] at hk;cases hk
  obtain ⟨c,hc⟩:=I.ok.has x (.inl hk)
  obtain ⟨w',z⟩:=I.cell x c hc
  refine wpAny_storeName_cell I.ok.kind hk hc z (fun h' hc' hs=>?_)
  obtain ⟨oc,hoc,hocd⟩:=id z
  refine h { s with heap:=h' } ⟨I.ok,I.os,I.bare,⟨fun b o e n hb hx=>?_,fun b o e n hb hx=>?_,I.base.free,fun b o e hx=>?_,I.base.tups,I.base.frzs,I.base.tbls⟩,⟨m,hn.sameBut hs (gX (cne x c hc)),fun j y v' e1 e2 e3=>?_⟩,fun y c' e=>?_,I.free,I.freeC,fun p hp=>?_,tracked ⟨oc,hoc,I.freeC x c hc⟩ hs,by simpa using I.len⟩ ⟨c,hs,.inr hc⟩
  ·exact (hs.2 b (cA (aW (aP e) (I.ok.cab x c hfn hc)))).trans (I.base.keep b o e n hb hx)
  ·obtain ⟨sl,e1⟩:=I.base.slot b o e n hb hx
   exact ⟨sl,(hs.2 b (cA (aW (aP e) (I.ok.cab x c hfn hc)))).trans e1⟩
  ·obtain ⟨o',e1⟩:=I.base.there b o e hx
   exact ⟨o',(hs.2 b (cA (aW (aP e) (I.ok.cab x c hfn hc)))).trans e1⟩
  ·by_cases hj:j=i
   ·subst hj
    rw[hi] at e1;cases e1
    rw[bU hiσ] at e2
    cases e2
    exact ⟨u,r,.inr ⟨.inl hk,c,hc,hc'⟩⟩
   ·rw[bW (gX hj)] at e2
    obtain ⟨u',r',q⟩:=hl j y v' e1 e2 e3
    refine ⟨u',r',?_⟩
    rcases q with q | ⟨k,c',e,z'⟩
    ·exact .inl q
    ·refine .inr ⟨k,c',e,z'.sameBut hs ?_⟩
     rintro rfl
     exact hj (Abl hN e1 (I.ok.inj _ _ _ e hc ▸ hi))
  ·by_cases hcc:c'=c
   ·subst hcc;exact ⟨_,hc'⟩
   ·obtain ⟨w2,z2⟩:=I.cell y c' e
    exact ⟨w2,z2.sameBut hs hcc⟩
  ·obtain ⟨e,n,ne,nf,d⟩:=I.pin p hp
   refine ⟨(hs.2 p.1 ?_).trans e,n,ne,nf,d⟩
   intro q
   rw[q,hoc] at e
   have q':oc=p.2:=bN e
   exact d w' (by rw[<- q'];exact hocd)
theorem Acz{Q:Unit->aJ->Prop}(I:Inv X pins σ H s)(hN:X.N.Nodup)(hi:X.N[i]? = some x)(hx:Loc X.env.scope x)(r:RelV v u)
  (h:∀ s',Inv X pins (σ.set i (some v)) H s'->Q () s') (hf:X.fn x=true\/X.env.scope.names.lookup x=some .local:=by first | exact .inl rfl | exact .inr rfl | assumption):wpAny M A (storeName X.env x u) Q E s:=
 Ajj I hN hi hx r (fun s' I' _=>h s' I') hf
theorem Inv.call'(I:Inv X pins σ H s)(ho:s'.os=s.os)(u:Un (frs X.stack) ch H H' s.heap s'.heap)(hok:HOk X.prog X.w H' s'.heap)(hg:kX s'.gens)
  (hch:∀ b∈ch,(b∈X.ex\/X.s₀.heap.objs.size<=b)/\b≠X.env.locals/\(∀ x c,X.env.cells.lookup x=some c->c≠b)/\∀ p∈X.pn++pins,p.1≠b):Inv X pins σ H' s':=by
 obtain ⟨h',g',d',t',o'⟩:=s'
 have e:o'=s.os:=ho
 subst e
 exact I.call (g':=g') (t':=t') (d':=d') u hok hg hch
end
abbrev XK:=aF->Option Addr->Hp->Prop
abbrev St:=List (Option V)
abbrev VK:=V->Hp->Prop
abbrev TE:=St->Hp->VK->Prop
abbrev TT:=St->Hp->(Bool->Hp->Prop)->Prop
abbrev TA:=St->Hp->(List V->Hp->Prop)->Prop
structure Ends where
 nx:St->Hp->Prop
 rt:VK
 bk:St->Hp->Prop:=fun _ _=>False
 ct:St->Hp->Prop:=fun _ _=>False
abbrev TS:=Ends->St->Hp->Prop
inductive EP(X:Cx)(pins:List (Addr×Obj))(σ:St)(Q:VK)(u:aF)(s':aJ):Prop
 | mk (v:V) (H':Hp) (I:Inv X pins σ H' s') (r:RelV v u) (q:Q v H'):EP X pins σ Q u s'
inductive TP(X:Cx)(pins:List (Addr×Obj))(σ:St)(Q:Bool->Hp->Prop)(b:Bool)(s':aJ):Prop
 | mk (H':Hp) (I:Inv X pins σ H' s') (q:Q b H'):TP X pins σ Q b s'
inductive AP(X:Cx)(pins:List (Addr×Obj))(σ:St)(Q:List V->Hp->Prop)(us:List aF)(s':aJ):Prop
 | mk (vs:List V) (H':Hp) (I:Inv X pins σ H' s') (r:Vals vs us) (q:Q vs H'):AP X pins σ Q us s'
variable {σ:St}
theorem EP.elim{Q:VK}{C:Prop}(h:EP X pins σ Q u s')(k:∀ v H',Inv X pins σ H' s'->RelV v u->Q v H'->C):C:=h.rec k
theorem AP.elim{Q:List V->Hp->Prop}{C:Prop}(h:AP X pins σ Q us s')(k:∀ vs H',Inv X pins σ H' s'->Vals vs us->Q vs H'->C):C:=h.rec k
def SP(X:Cx)(pins:List (Addr×Obj))(D:Ends)(f:Flow)(s':aJ):Prop:=
 match f with
 | .next=>∃ σ' H',Inv X pins σ' H' s'/\D.nx σ' H'
 | .brk=>∃ σ' H',Inv X pins σ' H' s'/\D.bk σ' H'
 | .cont=>∃ σ' H',Inv X pins σ' H' s'/\D.ct σ' H'
 | .ret u=>∃ v σ' H',Inv X pins σ' H' s'/\RelV v u/\D.rt v H'
def PE(X:Cx)(e:Expr)(t:TE):Prop:=
 ∀ (pins:List (Addr×Obj)) (s:aJ) (σ:St) (H:Hp) (Q:VK),Inv X pins σ H s->t σ H Q->wpAny (model X.prog X.w) X.A (eval e X.env) (EP X pins σ Q) X.xe s
def PT(X:Cx)(e:Expr)(t:TT):Prop:=
 ∀ (pins:List (Addr×Obj)) (s:aJ) (σ:St) (H:Hp) (Q:Bool->Hp->Prop),Inv X pins σ H s->t σ H Q->wpAny (model X.prog X.w) X.A (isTrue e X.env (eval e X.env)) (TP X pins σ Q) X.xe s
def PW(X:Cx)(e:Expr)(t:TT):Prop:=
 ∀ (whole:Sem aF) (pins:List (Addr×Obj)) (s:aJ) (σ:St) (H:Hp) (Q:Bool->Hp->Prop),Inv X pins σ H s->t σ H Q->wpAny (model X.prog X.w) X.A (isTrue e X.env whole) (TP X pins σ Q) X.xe s
variable {e:Expr}
theorem PW.pt{t:TT}(h:PW X e t):PT X e t:=h _
def PA(X:Cx)(es:List Expr)(t:TA):Prop:=
 ∀ (pos:Pos) (pins:List (Addr×Obj)) (s:aJ) (σ:St) (H:Hp) (Q:List V->Hp->Prop),Inv X pins σ H s->t σ H Q->wpAny (model X.prog X.w) X.A (spliced (backTo pos (aT es X.env))) (AP X pins σ Q) X.xe s
def PS(X:Cx)(st:Stmt)(t:TS):Prop:=
 ∀ (pins:List (Addr×Obj)) (s:aJ) (σ:St) (H:Hp) (D:Ends),Inv X pins σ H s->t D σ H->wpAny (model X.prog X.w) X.A (exec st X.env) (SP X pins D) X.xe s
def PSs(X:Cx)(st:List Stmt)(t:TS):Prop:=
 ∀ (pins:List (Addr×Obj)) (s:aJ) (σ:St) (H:Hp) (D:Ends),Inv X pins σ H s->t D σ H->wpAny (model X.prog X.w) X.A (execs st X.env) (SP X pins D) X.xe s
theorem thn{α:Type}{t:Sem α}{Q Q':α->aJ->Prop}(h:wpAny M A t Q E s)(hQ:∀ a s,Q a s->Q' a s):wpAny M A t Q' E s:=gC h hQ fun _ _ x=>x
variable {Q:aF->aJ->Prop}{pos:Pos}{ta tb:TE}{c:Expr}
section
def A3y(i:Nat):TE:=fun σ H Q=>∃ v,σ[i]? = some (some v)/\Q v H
def tC(v:V):TE:=fun _ H Q=>Q v H
theorem Aut(hN:X.N[i]? = some x)(hv:Vis X.env.scope x)(hd:(x == ("__debug__" : Str))=false:=by decide)(hcd:(x == ("__classdict__" : Str))=false:=by decide):PE X (.Name x pos) (A3y i):=by
 intro pins s σ H Q I h
 obtain ⟨v,e,h⟩:=h
 obtain ⟨m,hn,hl⟩:=I.loc
 obtain ⟨u,r,l⟩:=hl i x v hN e hv
 have fin:EP X pins σ Q u s:=⟨v,H,I,r,h⟩
 rcases l with ⟨hk,hm⟩ | ⟨hk,c,hc,hcell⟩
 ·exact sA (wpAny_loadName_local I.ok.kind hk hn hm fin) hd
 ·rcases hk with hk | hk
  ·exact sA (wpAny_loadName_cell I.ok.kind hk hc hcell fin) hd
  ·exact sA (wpAny_loadName_free I.ok.kind hk hc hcell fin hcd) hd
theorem Awd{i j pos}:PE X (.Constant (.int i) j pos) (tC (.int i)):=fun _ _ _ H _ I h=>wpAny_Constant_int ⟨.int i,H,I.tok _,⟨_,rfl⟩,h⟩
theorem Azw{b j pos}:PE X (.Constant (.bool b) j pos) (tC (.bl b)):=fun _ _ _ H _ I h=>Constant_bool ⟨.bl b,H,I,rfl,h⟩
theorem Avr{j pos}:PE X (.Constant .none j pos) (tC .non):=fun _ _ _ H _ I h=>Constant_none ⟨.non,H,I,rfl,h⟩
theorem Au9{x j pos}:PE X (.Constant (.str x) j pos) (tC (.str x)):=fun _ _ _ H _ I h=>Calls.Constant_str ⟨.str x,H,I.tok _,⟨_,rfl⟩,h⟩
def Gl(X:Cx)(x:Str):Prop:=X.env.kindOf x=some .globalImplicit
theorem Tp(I:Inv X pins σ H s)(hg:Gl X x)(hm:X.mg x=some u)(h:Q u s)
  (hd:(x == ("__debug__" : Str))=false:=by decide):wpAny (model X.prog X.w) X.A (eval (.Name x pos) X.env) Q E s:=
 lL I.ok.kind hg (Calls.loadGlobal_global (by rw[I.ok.glob];exact I.mod.glob.keeps I.bk) hm h) hd
theorem Lm(I:Inv X pins σ H s)(hg:Gl X x)(hm:X.mg x=none)(hv:eA x=some u)(h:Q u s)
  (hn:x ≠ "__name__" := by decide) (hd:(x == ("__debug__" : Str))=false:=by decide):wpAny (model X.prog X.w) X.A (eval (.Name x pos) X.env) Q E s:=by
 obtain ⟨mb,h1,h2⟩:=I.mod.blt
 exact lL I.ok.kind hg (Calls.loadGlobal_builtin (by rw[I.ok.glob];exact I.mod.glob.keeps I.bk) hm (by rw[I.ok.blt];exact h1.keeps I.bk) ((h2 x hn).trans hv) h) hd
theorem Aao(hg:Gl X x)(hm:X.mg x=some u)(r:RelV v u)(hd:(x == ("__debug__" : Str))=false:=by decide):PE X (.Name x pos) (tC v):=
 fun _ _ _ H _ I h=>Tp I hg hm ⟨v,H,I,r,h⟩ hd
theorem Apa(hg:Gl X x)(hm:X.mg x=none)(hv:eA x=some u)(r:RelV v u)(hn:x ≠ "__name__" := by decide)(hd:(x == ("__debug__" : Str))=false:=by decide):PE X (.Name x pos) (tC v):=
 fun _ _ _ H _ I h=>Lm I hg hm hv ⟨v,H,I,r,h⟩ hn hd
variable {a b:Expr}
variable {tA tB':TT}{rest:List Expr}
def A13(t u:TT):TT:=fun σ H Q=>t σ H fun c H1=>if c=true then u σ H1 Q else Q false H1
def tOr(t u:TT):TT:=fun σ H Q=>t σ H fun c H1=>if c=true then Q true H1 else u σ H1 Q
def A3z(t:TT):TT:=fun σ H Q=>t σ H fun c H1=>Q (!c) H1
theorem Aps(ha:PT X a tA):PW X (.BoolOp .And [a] pos) tA:=by
 intro wh pins s σ H Q I h
 refine isTrue_and (thn (ha pins s σ H Q I h) fun c s1 e=>?_)
 cases c with
 | true=>exact isTrue_and_nil e
 | false=>exact e
theorem Au6(ha:PT X a tA):PW X (.BoolOp .Or [a] pos) tA:=by
 intro wh pins s σ H Q I h
 refine isTrue_or (thn (ha pins s σ H Q I h) fun c s1 e=>?_)
 cases c with
 | false=>exact isTrue_or_nil e
 | true=>exact e
theorem Au0(ha:PT X a tA)(hb:PW X (.BoolOp .And (b::rest) pos) tB'):PW X (.BoolOp .And (a::b::rest) pos) (A13 tA tB'):=by
 intro wh pins s σ H Q I h
 refine isTrue_and (thn (ha pins s σ H _ I h) fun c s1 zz=>?_)
 obtain ⟨H1,I1,q1⟩:=zz
 cases c with
 | true=>exact hb wh pins s1 σ H1 Q I1 q1
 | false=>exact ⟨H1,I1,q1⟩
theorem Az0(ha:PT X a tA)(hb:PW X (.BoolOp .Or (b::rest) pos) tB'):PW X (.BoolOp .Or (a::b::rest) pos) (tOr tA tB'):=by
 intro wh pins s σ H Q I h
 refine isTrue_or (thn (ha pins s σ H _ I h) fun c s1 zz=>?_)
 obtain ⟨H1,I1,q1⟩:=zz
 cases c with
 | true=>exact ⟨H1,I1,q1⟩
 | false=>exact hb wh pins s1 σ H1 Q I1 q1
theorem Aub(ha:PT X a tA):PT X (.UnaryOp .Not a pos) (A3z tA):=by
 intro pins s σ H Q I h
 exact isTrue_not (thn (ha pins s σ H (fun c H1=>Q (!c) H1) I h) fun _ _ z=>z.rec fun H' I' q=>⟨H',I',q⟩)
def Axu(ta tb:TE):TE:=fun σ H Q=>ta σ H fun x H1=>∃ c,x = .bl c/\if c=true then tb σ H1 Q else Q (.bl false) H1
def A3j(ta tb:TE):TE:=fun σ H Q=>ta σ H fun x H1=>∃ c,x = .bl c/\if c=true then Q (.bl true) H1 else tb σ H1 Q
theorem Aum{op}{t:TE}(h:PE X a t):PE X (.BoolOp op [a] pos) t:=fun pins s σ H Q I hw=>BoolOp_one (h pins s σ H Q I hw)
theorem Ats(ha:PE X a ta)(hb:PE X (.BoolOp .And (b::rest) pos) tb):PE X (.BoolOp .And (a::b::rest) pos) (Axu ta tb):=by
 intro pins s σ H Q I h
 refine BoolOp_and (thn (ha pins s σ H _ I h) fun v s1 zz=>?_)
 obtain ⟨x,H1,I1,r1,q1⟩:=zz
 obtain ⟨c,rfl,q1⟩:=q1
 cases r1
 refine eS ?_
 cases c with
 | true=>exact hb pins s1 σ H1 Q I1 q1
 | false=>exact ⟨.bl false,H1,I1,rfl,q1⟩
theorem Az7(ha:PE X a ta)(hb:PE X (.BoolOp .Or (b::rest) pos) tb):PE X (.BoolOp .Or (a::b::rest) pos) (A3j ta tb):=by
 intro pins s σ H Q I h
 refine BoolOp_or (thn (ha pins s σ H _ I h) fun v s1 zz=>?_)
 obtain ⟨x,H1,I1,r1,q1⟩:=zz
 obtain ⟨c,rfl,q1⟩:=q1
 cases r1
 refine eS ?_
 cases c with
 | false=>exact hb pins s1 σ H1 Q I1 q1
 | true=>exact ⟨.bl true,H1,I1,rfl,q1⟩
def tIf(t:TT)(ta tb:TE):TE:=fun σ H Q=>t σ H fun c H1=>if c=true then ta σ H1 Q else tb σ H1 Q
theorem Ame(hc:PT X c tA)(ha:PE X a ta)(hb:PE X b tb):PE X (.IfExp c a b pos) (tIf tA ta tb):=by
 intro pins s σ H Q I h
 refine wpAny_IfExp (thn (hc pins s σ H _ I h) fun d s1 zz=>?_)
 obtain ⟨H1,I1,q1⟩:=zz
 cases d with
 | true=>exact ha pins s1 σ H1 Q I1 q1
 | false=>exact hb pins s1 σ H1 Q I1 q1
end
def SqL(K:aE)(H:Hp)(a:Addr)(xs:List V):Prop:=
 Rd H a (.lst xs) \/
  ∃ (o:Obj) (its:Array aF) (n:Nat),K.lookup a=some o/\o.cls = .type "list" /\ o.dict=none/\o.data = .seq its n/\its.size<=sizeLine/\Vals xs its.toList
def SqT(K:aE)(H:Hp)(a:Addr)(xs:List V):Prop:=
 Rd H a (.tup xs) \/
  ∃ (o:Obj) (its:Array aF) (n:Nat),K.lookup a=some o/\(o.cls,o.dict)=(jO "tuple",(none:Option Addr))/\o.data = .seq its n/\its.size<=sizeLine/\Vals xs its.toList
def A37:aF->Option V
 | .none=>some .non
 | .bool b=>some (.bl b)
 | .int i _=>some (.int i)
 | .str x _=>some (.str x)
 | .bytes b _=>some (.byt b)
 | .float b _=>some (.flt b)
 | .ref a=>some (.ref a)
 | .type n=>some (.ty n)
 | _=>none
theorem RelV.abs{x:V}(r:RelV x u):A37 u=some x:=by
 cases x with
 | non=>cases r;rfl
 | bl _=>cases r;rfl
 | int _=>obtain ⟨t,rfl⟩:=r;rfl
 | str _=>obtain ⟨t,rfl⟩:=r;rfl
 | byt _=>obtain ⟨t,rfl⟩:=r;rfl
 | flt _=>obtain ⟨t,rfl⟩:=r;rfl
 | ref _=>cases r;rfl
 | ty _=>cases r;rfl
variable {y:V}
theorem RelV.inj{x:V}(r:RelV x u)(q:RelV y u):x=y:=bN (r.abs.symm.trans q.abs)
theorem Vals.inj(h:Vals xs us)(h':Vals ys us):xs=ys:=by
 induction h generalizing ys with
 | nil=>cases h';rfl
 | cons r t ih=>
  cases h' with
  | cons r' t'=>rw[r.inj r',ih t']
variable {K:aE}
section
theorem SqL.of(h:H a=some (.lst xs)):SqL K H a xs:=.inl (.inl h)
theorem SqT.of(h:H a=some (.tup xs)):SqT K H a xs:=.inl (.inl h)
theorem Inv.list(I:Inv X pins σ H s)(h:SqL X.K H a xs):∃ its:List aF,Vals xs its/\PlainL s.heap a its.toArray/\xs.length<=sizeLine:=by
 rcases h with h | ⟨o,its,n,hk,hc,hd,hs,hz,r⟩
 ·obtain ⟨z,its,n,r,e⟩:=h.ok I.hok
  exact ⟨its,r,⟨_,n,e,rfl,rfl,rfl⟩,z⟩
 ·refine ⟨its.toList,r,⟨o,n,I.kIn a o hk,hc,hd,by simpa using hs⟩,?_⟩
  have e:=r.length
  simp only[dD] at e
  omega
theorem Inv.tupleN(I:Inv X pins σ H s)(h:SqT X.K H a xs):∃ its:List aF,Vals xs its/\TupN s.heap a its.toArray/\xs.length<=sizeLine:=by
 rcases h with h | ⟨o,its,n,hk,hc,hs,hz,r⟩
 ·obtain ⟨z,its,r,p⟩:=h.ok I.hok
  exact ⟨its,r,p,z⟩
 ·refine ⟨its.toList,r,⟨o,I.kIn a o hk,hc,n,by simpa using hs⟩,?_⟩
  have e:=r.length
  simp only[dD] at e
  omega
theorem Inv.tuple(I:Inv X pins σ H s)(h:SqT X.K H a xs):∃ its:List aF,Vals xs its/\IsTup s.heap a its.toArray/\xs.length<=sizeLine:=by
 obtain ⟨its,r,p,z⟩:=I.tupleN h
 exact ⟨its,r,p.is,z⟩
theorem Inv.list_inj(I:Inv X pins σ H s)(h:SqL X.K H a xs)(h':SqL X.K H a ys):xs=ys:=by
 obtain ⟨its,r,⟨o,n,e,_,_,d⟩,_⟩:=I.list h
 obtain ⟨its',r',⟨o',n',e',_,_,d'⟩,_⟩:=I.list h'
 rw[e] at e';cases e'
 rw[d] at d'
 injection d' with d1 _
 have:its=its':=by simpa using congrArg sV d1
 subst this
 exact r.inj r'
theorem Inv.tuple_inj(I:Inv X pins σ H s)(h:SqT X.K H a xs)(h':SqT X.K H a ys):xs=ys:=by
 obtain ⟨its,r,⟨o,e,_,n,d⟩,_⟩:=I.tuple h
 obtain ⟨its',r',⟨o',e',_,n',d'⟩,_⟩:=I.tuple h'
 rw[e] at e';cases e'
 rw[d] at d'
 injection d' with d1 _
 have:its=its':=by simpa using congrArg sV d1
 subst this
 exact r.inj r'
end
abbrev Cx.wish(X:Cx)(E:aF->aJ->Prop):Cx:={ X with xe:=E }
abbrev Cx.nox(X:Cx):Cx:=X.wish fun _ _=>False
theorem Cx.Ok.wish(ok:X.Ok)(E:aF->aJ->Prop):(X.wish E).Ok:=
 ⟨ok.mod,ok.kind,ok.glob,ok.blt,ok.above,ok.inj,ok.has,ok.cab,ok.hd,ok.frames,ok.stk,ok.exf,ok.bs,ok.bsz,ok.noex,ok.exfs,ok.funs,ok.frf⟩
theorem Cx.Ok.unwish(ok:(X.wish E).Ok):X.Ok:=
 ⟨ok.mod,ok.kind,ok.glob,ok.blt,ok.above,ok.inj,ok.has,ok.cab,ok.hd,ok.frames,ok.stk,ok.exf,ok.bs,ok.bsz,ok.noex,ok.exfs,ok.funs,ok.frf⟩
section
theorem Inv.wish(I:Inv X pins σ H s)(E:aF->aJ->Prop):Inv (X.wish E) pins σ H s:=⟨I.ok.wish E,I.os,I.bare,I.base,I.loc,I.cell,I.free,I.freeC,I.pin,I.hok,I.len⟩
theorem Inv.unwish(I:Inv (X.wish E) pins σ H s):Inv X pins σ H s:=⟨I.ok.unwish,I.os,I.bare,I.base,I.loc,I.cell,I.free,I.freeC,I.pin,I.hok,I.len⟩
theorem SP.unwish{D:Ends}{f:Flow}(h:SP (X.wish E) pins D f s'):SP X pins D f s':=by
 cases f with
 | next=>obtain ⟨σ',H',I,q⟩:=h;exact ⟨σ',H',I.unwish,q⟩
 | brk=>obtain ⟨σ',H',I,q⟩:=h;exact ⟨σ',H',I.unwish,q⟩
 | cont=>obtain ⟨σ',H',I,q⟩:=h;exact ⟨σ',H',I.unwish,q⟩
 | ret u=>obtain ⟨v,σ',H',I,r,q⟩:=h;exact ⟨v,σ',H',I.unwish,r,q⟩
theorem PE.nox{t:TE}(h:PE X.nox e t):PE X e t:=fun pins s σ H Q I hw=>
 gC (h pins s σ H Q (I.wish _) hw) (fun _ _ zz=>by obtain ⟨v,H',I',r,q⟩:=zz;exact ⟨v,H',I'.unwish,r,q⟩) fun _ _ z=>eT z
theorem PT.nox{t:TT}(h:PT X.nox e t):PT X e t:=fun pins s σ H Q I hw=>
 gC (h pins s σ H Q (I.wish _) hw) (fun _ _ zz=>by obtain ⟨H',I',q⟩:=zz;exact ⟨H',I'.unwish,q⟩) fun _ _ z=>eT z
theorem PSs.nox{st:List Stmt}{t:TS}(h:PSs X.nox st t):PSs X st t:=fun pins s σ H D I hw=>
 gC (h pins s σ H D (I.wish _) hw) (fun _ _ q=>q.unwish) fun _ _ z=>eT z
end
variable {te:TE}
section
variable {st:Stmt}{rest:List Stmt}{t u:TS}
def Ayu:TS:=fun D σ H=>D.nx σ H
def A2q(t u:TS):TS:=fun D σ H=>t { D with nx:=u D } σ H
theorem Aol:PSs X [] Ayu:=fun _ _ σ H _ I h=>nU ⟨σ,H,I,h⟩
theorem Akc(h1:PS X st t)(h2:PSs X rest u):PSs X (st::rest) (A2q t u):=by
 intro pins s σ H D I h
 refine qZ (thn (h1 pins s σ H { D with nx:=u D } I h) fun f s1 q=>?_)
 cases f with
 | next=>
  obtain ⟨σ',H',I',q⟩:=q
  exact h2 pins s1 σ' H' D I' q
 | ret v=>exact q
 | brk=>exact q
 | cont=>exact q
theorem Aoi(h1:PS X st t):PSs X [st] t:=by
 intro pins s σ H D I h
 refine qZ (thn (h1 pins s σ H D I h) fun f s1 q=>?_)
 cases f with
 | next=>exact nU q
 | ret v=>exact q
 | brk=>exact q
 | cont=>exact q
theorem Inv.quiet(I:Inv X pins σ H s):interactive X.env=false:=by simp[interactive,I.ok.kind]
def Azr(te:TE):TS:=fun D σ H=>te σ H fun _ H1=>D.nx σ H1
theorem Apn(he:PE X e te)(hs:swapsWith e none pos.line X.env=pure false:=by rfl):PS X (.Expr e pos) (Azr te):=by
 intro pins s σ H D I h
 exact wpAny_Expr_any (thn (he pins s σ H _ I h) fun v s1 zz=>by obtain ⟨x,H1,I1,r1,q1⟩:=zz;exact ⟨σ,H1,I1,q1⟩) I.quiet hs
def A27(te:TE):TS:=fun D σ H=>te σ H D.rt
theorem Aue(he:PE X e te):PS X (.Return (some e) pos) (A27 te):=by
 intro pins s σ H D I h
 exact wpAny_Return_some (thn (he pins s σ H _ I h) fun v s1 zz=>by obtain ⟨x,H1,I1,r1,q1⟩:=zz;exact ⟨x,σ,H1,I1,r1,q1⟩)
def A32(c:TT)(t u:TS):TS:=fun D σ H=>c σ H fun b H1=>if b=true then t D σ H1 else u D σ H1
theorem A1h{a b:List Stmt}{tc:TT}(hc:PT X c tc)(ha:PSs X a t)(hb:PSs X b u):PS X (.If c a b pos) (A32 tc t u):=by
 intro pins s σ H D I h
 refine wpAny_If (thn (hc pins s σ H _ I h) fun d s1 zz=>?_)
 obtain ⟨H1,I1,q1⟩:=zz
 cases d with
 | true=>exact ha pins s1 σ H1 D I1 q1
 | false=>exact hb pins s1 σ H1 D I1 q1
def At0:TS:=fun _ _ _=>False
theorem Akq:PS X st At0:=fun _ _ _ _ _ _ h=>h.elim
end
abbrev TG:=V->St->Hp->(St->Hp->Prop)->Prop
abbrev TGs:=List V->St->Hp->(St->Hp->Prop)->Prop
def PG(X:Cx)(target:Expr)(t:TG):Prop:=
 ∀ (pins:List (Addr×Obj)) (s:aJ) (σ:St) (H:Hp) (v:V) (u:aF) (Q:St->Hp->Prop),Inv X pins σ H s->RelV v u->t v σ H Q ->
  wpAny (model X.prog X.w) X.A (assign target X.env u) (fun _ s'=>∃ σ' H',Inv X pins σ' H' s'/\Q σ' H') X.xe s
def PGs(X:Cx)(ts:List Expr)(t:TGs):Prop:=
 ∀ (pins:List (Addr×Obj)) (s:aJ) (σ:St) (H:Hp) (vs:List V) (us:List aF) (Q:St->Hp->Prop),Inv X pins σ H s->Vals vs us->t vs σ H Q ->
  wpAny (model X.prog X.w) X.A (assignInOrder ((assignEach ts X.env).map (·.2)) us) (fun _ s'=>∃ σ' H',Inv X pins σ' H' s'/\Q σ' H') X.xe s
abbrev Avv:=V->V->V->Hp->(Hp->Prop)->Prop
def A0i(X:Cx)(t:Avv):Prop:=
 ∀ (pins:List (Addr×Obj)) (s:aJ) (σ:St) (H:Hp) (o i v:V) (ov iv u:aF) (Q:Hp->Prop),Inv X pins σ H s->RelV o ov->RelV i iv->RelV v u->t o i v H Q ->
  wpAny (model X.prog X.w) X.A (setItem ov iv u) (fun _ s'=>∃ H',Inv X pins σ H' s'/\Q H') X.xe s
variable {es:List Expr}{k:Nat}{tg:Expr}
section
def Abh(i:Nat):TG:=fun v σ H Q=>Q (σ.set i (some v)) H
theorem Aho(hN:X.N.Nodup)(hi:X.N[i]? = some x)(hx:Loc X.env.scope x)(hf:X.fn x=true\/X.env.scope.names.lookup x=some .local:=by first | exact .inl rfl | exact .inr rfl | assumption):PG X (.Name x pos) (Abh i):=by
 intro pins s σ H v u Q I r h
 exact wpAny_assign_Name (Acz I hN hi hx r (fun s' I'=>⟨_,H,I',h⟩) hf)
def gNil:TGs:=fun vs σ H Q=>vs=[]/\Q σ H
def gCons(t:TG)(u:TGs):TGs:=fun vs σ H Q=>∃ v r,vs=v::r/\t v σ H fun σ' H'=>u r σ' H' Q
theorem Ap6:PGs X [] gNil:=by
 intro pins s σ H vs us Q I r h
 obtain ⟨e,h⟩:=h
 subst e
 cases r
 exact assignInOrder_nil ⟨σ,H,I,h⟩
theorem Ant{t:TG}{u:TGs}(h1:PG X e t)(h2:PGs X es u)
  (hs:(assignEach (e::es) X.env).map (·.2)=assign e X.env::(assignEach es X.env).map (·.2):=by rfl):PGs X (e::es) (gCons t u):=by
 intro pins s σ H vs us Q I r h
 obtain ⟨v,vr,e1,h⟩:=h
 subst e1
 cases r with
 | cons r rr=>
  rw[hs]
  refine assignInOrder_cons (thn (h1 pins s σ H _ _ _ I r h) fun _ s1 zz=>?_)
  obtain ⟨σ1,H1,I1,q1⟩:=zz
  exact h2 pins s1 σ1 H1 _ _ Q I1 rr q1
def gTup(K:aE)(n:Nat)(t:TGs):TG:=fun v σ H Q=>∃ a xs,v = .ref a/\SqT K H a xs/\xs.length=n/\t xs σ H Q
theorem Avw{t:TGs}{n:Nat}(hc:X.calm=true)(h:PGs X es t)
  (hn:(assignEach es X.env).length=n:=by rfl) (hst:(assignEach es X.env).findIdx? (·.1)=none:=by rfl):PG X (.Tuple es k pos) (gTup X.K n t):=by
 intro pins s σ H v u Q I r hw
 obtain ⟨a,xs,e1,hq,hl,hw⟩:=hw
 subst e1
 cases r
 obtain ⟨its,rv,ht,hz⟩:=I.tuple hq
 refine assign_Tuple_tuple (I.ok.hd hc) ht (by simp[hn,<- hl,rv.length]) hst fun h' hx=>?_
 have I1:Inv X pins σ H { s with heap:=h' }:=I.kept (t':=s.toks) fun b o e=>hx b o (cA (aP e)) e
 exact h pins _ σ H xs _ Q I1 (by simpa using rv) hw
def gSub(to ti:TE)(t:Avv):TG:=fun v σ H Q=>to σ H fun o H1=>ti σ H1 fun i H2=>t o i v H2 fun H3=>Q σ H3
theorem Atq{o i:Expr}{to ti:TE}{t:Avv}(ho:PE X o to)(hi:PE X i ti)(hs:A0i X t)
  (ha:∀ v,assign (.Subscript o i pos) X.env v=(do
   let ov <- holding [v] (eval o X.env)
   let iv <- holding [v,ov] (eval i X.env)
   standAt pos
   holding [v,ov,iv] (setItem ov iv v)
   release [v,ov,iv] []):=by intro _;rfl):PG X (.Subscript o i pos) (gSub to ti t):=by
 intro pins s σ H v u Q I r h
 rw[ha]
 refine aD (dP (thn (ho pins s σ H _ I h) fun ov s1 zz=>?_))
 obtain ⟨x,H1,I1,r1,q1⟩:=zz
 refine aD (dP (thn (hi pins s1 σ H1 _ I1 q1) fun iv s2 zz=>?_))
 obtain ⟨y,H2,I2,r2,q2⟩:=zz
 refine aD (mL (aD (dP (thn (hs pins s2 σ H2 x y v ov iv u _ I2 r1 r2 r q2) fun _ s3 zz=>?_))))
 obtain ⟨H3,I3,q3⟩:=zz
 exact wpAny_release ⟨σ,H3,I3,q3⟩
def Aoo(te:TE)(g:TG):TS:=fun D σ H=>te σ H fun x H1=>g x σ H1 D.nx
theorem Au1{g:TG}(he:PE X e te)(hg:PG X tg g)(hs:swapsWithSole [tg] e pos.line X.env=pure false:=by rfl)(hw:swappedStores [tg] e X.env=pure none:=by rfl)
  (h1:(assignEach [tg] X.env).map (·.2)=[assign tg X.env]:=by rfl):PS X (.Assign [tg] e pos) (Aoo te g):=by
 intro pins s σ H D I h
 refine wpAny_Assign_stores (thn (he pins s σ H _ I h) fun v s1 zz=>zz.elim fun x H1 I1 r1 q1=>?_) hs hw
 rw[h1]
 exact thn (hg pins s1 σ H1 x v _ I1 r1 q1) fun _ s2 q=>q
theorem Awb{pos':Pos}(hN:X.N.Nodup)(hi:X.N[i]? = some x)(hx:Loc X.env.scope x)(he:PE X e te)(hs:swapsWith e (some (.Name x pos')) pos.line X.env=pure false:=by rfl)(hf:X.fn x=true\/X.env.scope.names.lookup x=some .local:=by first | exact .inl rfl | exact .inr rfl | assumption) :
  PS X (.Assign [.Name x pos'] e pos) (Aoo te (Abh i)):=by
 intro pins s σ H D I h
 refine wpAny_Assign_Name (thn (he pins s σ H _ I h) fun v s1 zz=>zz.elim fun y H1 I1 r1 q1=>?_) hs
 exact Acz I1 hN hi hx r1 (fun s2 I2=>⟨_,H1,I2,q1⟩) hf
end
structure It where
 go:Nat->Hp->Prop
 yld:Nat->Hp->V->Hp->Prop
 stop:Nat->Hp->Prop
def Lr(X:Cx)(pins:List (Addr×Obj))(H:Hp)(b:Addr):Prop:=
 H b=none/\b≠X.env.locals/\b∉X.fs/\(b∈X.ex\/X.s₀.heap.objs.size<=b)/\(∀ x c,X.env.cells.lookup x=some c->c≠b)/\∀ p∈X.pn++pins,p.1≠b
theorem Inv.fpOk(I:Inv X pins σ H s)(hb:s.heap.objs.size<=b)(hn:H' b=none):Lr X pins H' b:=by
 refine ⟨hn,fE (aW I.lt hb),I.nofs hb,.inr (cB I.sz hb),fun x c e z=>?_,fun p hp z=>?_⟩
 ·obtain ⟨v,q⟩:=I.cell x c e
  exact absurd (aW q.lt (by rw[z];exact hb)) (dY _)
 ·exact absurd (aW (aP (I.pin p hp).1) (by rw[z];exact hb)) (dY _)
structure Turn(P:bT)(w:cC)(K:aE)(tg:Expr)(J:It)(fp:List Addr)(it:Addr)(tn:Nat->Heap->Prop):Prop where
 mem:it∈fp
 obj:∀ i h,tn i h->∀ b∈fp,∃ o,h.get? b=some o/\∀ v,o.data≠.cell v
 keep:∀ i h h',tn i h->(∀ b∈fp,∀ o,h.get? b=some o->h'.get? b=some o)->tn i h'
 item:∀ (X:Cx),X.prog=P->X.w=w->X.K=K->X.calm=true->∀ (i:Nat) (pins:List (Addr×Obj)) (s:aJ) (σ:St) (H:Hp) (E:aF->aJ->Prop),Inv X pins σ H s->(∀ b∈fp,Lr X pins H b)->tn i s.heap->J.go i H ->
  wpAny (model P w) X.A (pyNext (.ref it)) (fun r s1=>∃ u,r=some u /\
   wpAny (model P w) X.A (letOwnedTupleGo tg (.ref it) u) (fun _ s2=>∃ x H',Inv X pins σ H' s2/\RelV x u/\J.yld i H x H'/\tn (i+1) s2.heap/\∀ b∈fp,H' b=none) E s1) E s
 done:∀ (X:Cx),X.prog=P->X.w=w->X.K=K->X.calm=true->∀ (i:Nat) (pins:List (Addr×Obj)) (s:aJ) (σ:St) (H:Hp) (E:aF->aJ->Prop),Inv X pins σ H s->(∀ b∈fp,Lr X pins H b)->tn i s.heap->J.stop i H ->
  wpAny (model P w) X.A (pyNext (.ref it)) (fun r s1=>r=none/\Inv X pins σ H s1) E s
 self:∀ (A:eD) (i:Nat) (s:aJ) (Q:aF->aJ->Prop) (E:aF->aJ->Prop),tn i s.heap->Q (.ref it) s->wpAny (model P w) A (pyIter (.ref it)) Q E s
abbrev TI:=St->Hp->(It->Hp->Prop)->Prop
inductive PIE(X:Cx)(pins:List (Addr×Obj))(σ:St)(tg:Expr)(R:It->Hp->Prop)(itv:aF)(s2:aJ):Prop
 | mk (it:Addr) (fp:List Addr) (tn:Nat->Heap->Prop) (J:It) (H':Hp) (h0:itv = .ref it) (h1:Inv X pins σ H' s2) (h2:Turn X.prog X.w X.K tg J fp it tn) (h3:tn 0 s2.heap) (h4:(∀ b∈fp,Lr X pins H' b)) (h5:R J H'):PIE X pins σ tg R itv s2
def PI(X:Cx)(tg iter:Expr)(wi:TI):Prop:=
 ∀ (pins:List (Addr×Obj)) (s:aJ) (σ:St) (H:Hp) (R:It->Hp->Prop),Inv X pins σ H s->wi σ H R ->
  wpAny (model X.prog X.w) X.A (eval iter X.env) (fun v s1=>wpAny (model X.prog X.w) X.A (pyIter v) (PIE X pins σ tg R) X.xe s1) X.xe s
theorem Afo{it:Addr}{o:Obj}{n:String}{vs:Array aF}{Q:Unit->aJ->Prop}(ho:s.heap.get? it=some o)(hc:o.cls = .type n)(hd:o.data = .fields vs)
  (hn:["enumerate","zip","dict_itemiterator","dict_reverseitemiterator","odict_iterator","itertools.zip_longest","itertools.pairwise"].contains n=false) (hQ:Q () s):wpAny M A (letOwnedTupleGo tg (.ref it) u) Q E s:=by
 unfold letOwnedTupleGo
 cases tg <;> first
  | exact aO hQ
  | (cases u <;> first
    | exact aO hQ
    | (refine aD (wpAny_load ho ?_)
       rw[hc,hd]
       show wpAny M A (if (["enumerate","zip","dict_itemiterator","dict_reverseitemiterator","odict_iterator","itertools.zip_longest","itertools.pairwise"].contains n&&vs[0]? == some (rawInt _))=true then _ else _) Q E s
       rw[if_neg (by intro h;rw[hn,Bool.false_and] at h;cases h)]
       exact aO hQ))
def Itl(K:aE)(a:Addr):It:=
 ⟨fun i H=>∃ xs x,SqL K H a xs/\xs[i]? = some x,fun i H x H'=>H'=H/\∀ xs,SqL K H a xs->xs[i]? = some x,fun i H=>∃ xs,SqL K H a xs/\xs.length<=i⟩
def Itt(K:aE)(a:Addr):It:=
 ⟨fun i H=>∃ xs x,SqT K H a xs/\xs[i]? = some x,fun i H x H'=>H'=H/\∀ xs,SqT K H a xs->xs[i]? = some x,fun i H=>∃ xs,SqT K H a xs/\xs.length<=i⟩
def Itr(lo:Int)(n:Nat):It:=⟨fun i _=>i < n,fun i H x H'=>H'=H/\x = .int (lo+i),fun i _=>n<=i⟩
theorem Ai5(a it:Addr):Turn P w K tg (Itl K a) [it] it (fun i h=>h.IsListIter it a i) where
 mem:=by simp
 obj:=fun i h st b hb=>by
  have e:b=it:=by simpa using hb
  subst e
  obtain ⟨o,e,c,d⟩:=st
  exact ⟨o,e,fun v z=>by rw[d] at z;cases z⟩
 keep:=fun i h h' st k=>st.at fun o e=>k it (by simp) o e
 item:=by
  intro X hP hw hK hc i pins s σ H E I hf st hg
  subst hP hw hK
  obtain ⟨xs,x,hq,hx⟩:=hg
  obtain ⟨its,rv,p,hz⟩:=I.list hq
  obtain ⟨u,hu,ru⟩:=rv.get hx
  obtain ⟨f0,f1,f2,f3,f4,f5⟩:=hf it (by simp)
  refine nJ st p.isList (x:=u) (by simpa using hu) fun h' st' sb=>?_
  have I1:Inv X pins σ H { s with heap:=h' }:=I.turned (t':=s.toks) (fun b o hb e=>(sb.2 b hb).trans e) f0 f1 f3 f4 f5
  obtain ⟨o,e,c,d⟩:=id st'
  exact ⟨u,rfl,Afo (s:={ s with heap:=h' }) e c d (by decide) ⟨x,H,I1,ru,⟨rfl,fun ys hy=>by rw[I.list_inj hy hq];exact hx⟩,st',fun b hb=>(hf b hb).1⟩⟩
 done:=by
  intro X hP hw hK hc i pins s σ H E I hf st hg
  subst hP hw hK
  obtain ⟨xs,hq,hx⟩:=hg
  obtain ⟨its,rv,p,hz⟩:=I.list hq
  obtain ⟨f0,f1,f2,f3,f4,f5⟩:=hf it (by simp)
  have hl:=rv.length
  exact oI (I.ok.hd hc) st p.isList (by simp;omega) fun h' eb=>⟨rfl,I.turned (t':=s.toks) (fun b o hb e=>eb b o hb e) f0 f1 f3 f4 f5⟩
 self:=fun _ _ _ _ _ st h=>wpAny_pyIter_listiter st h
theorem Ae1(a it:Addr):Turn P w K tg (Itt K a) [it] it (fun i h=>h.IsTupleIter it a i) where
 mem:=by simp
 obj:=fun i h st b hb=>by
  have e:b=it:=by simpa using hb
  subst e
  obtain ⟨o,e,c,d⟩:=st
  exact ⟨o,e,fun v z=>by rw[d] at z;cases z⟩
 keep:=fun i h h' st k=>st.at fun o e=>k it (by simp) o e
 item:=by
  intro X hP hw hK hc i pins s σ H E I hf st hg
  subst hP hw hK
  obtain ⟨xs,x,hq,hx⟩:=hg
  obtain ⟨its,rv,p,hz⟩:=I.tuple hq
  obtain ⟨u,hu,ru⟩:=rv.get hx
  obtain ⟨f0,f1,f2,f3,f4,f5⟩:=hf it (by simp)
  refine wpAny_pyNext_tuple_item st (show s.heap.IsTuple a its.toArray from p) (x:=u) (by simpa using hu) fun h' st' sb=>?_
  have I1:Inv X pins σ H { s with heap:=h' }:=I.turned (t':=s.toks) (fun b o hb e=>(sb.2 b hb).trans e) f0 f1 f3 f4 f5
  obtain ⟨o,e,c,d⟩:=id st'
  exact ⟨u,rfl,Afo (s:={ s with heap:=h' }) e c d (by decide) ⟨x,H,I1,ru,⟨rfl,fun ys hy=>by rw[I.tuple_inj hy hq];exact hx⟩,st',fun b hb=>(hf b hb).1⟩⟩
 done:=by
  intro X hP hw hK hc i pins s σ H E I hf st hg
  subst hP hw hK
  obtain ⟨xs,hq,hx⟩:=hg
  obtain ⟨its,rv,p,hz⟩:=I.tuple hq
  obtain ⟨f0,f1,f2,f3,f4,f5⟩:=hf it (by simp)
  have hl:=rv.length
  exact wpAny_pyNext_tuple_end (I.ok.hd hc) st (show s.heap.IsTuple a its.toArray from p) (by simp;omega) fun h' eb=>⟨rfl,I.turned (t':=s.toks) (fun b o hb e=>eb b o hb e) f0 f1 f3 f4 f5⟩
 self:=fun _ _ _ _ _ st h=>wpAny_pyIter_tupleiter st h
theorem Ad8(it:Addr)(lo:Int)(n:Nat):Turn P w K tg (Itr lo n) [it] it (fun i h=>IsRangeIter h it (lo+(i:Nat) * 1) ((n:Int) - (i:Nat)) 1) where
 mem:=by simp
 obj:=fun i h st b hb=>by
  have e:b=it:=by simpa using hb
  subst e
  exact ⟨_,st,fun v z=>by
   have z':Data.fields _=Data.cell v:=z
   cases z'⟩
 keep:=fun i h h' st k=>k it (by simp) _ st
 item:=by
  intro X hP hw hK hc i pins s σ H E I hf st hg
  subst hP hw hK
  obtain ⟨f0,f1,f2,f3,f4,f5⟩:=hf it (by simp)
  have W:=Walks.range (prog:=X.prog) (w:=X.w) (I.ok.hd hc) it lo 1 n
  refine W.item i s _ _ hg st fun v h' tk hv st' kk=>?_
  obtain ⟨t,rfl⟩:=hv
  have I1:Inv X pins σ H { s with heap:=h',toks:=tk }:=I.turned (fun b o hb e=>kk b o (by simpa using hb) e) f0 f1 f3 f4 f5
  refine ⟨_,rfl,Afo (s:={ s with heap:=h',toks:=tk }) (n := "range_iterator") st' rfl rfl (by decide) ⟨.int (lo+i),H,I1,⟨t,?_⟩,⟨rfl,rfl⟩,st',fun b hb=>(hf b hb).1⟩⟩
  rw[Int.mul_one]
 done:=by
  intro X hP hw hK hc i pins s σ H E I hf st hg
  subst hP hw hK
  obtain ⟨f0,f1,f2,f3,f4,f5⟩:=hf it (by simp)
  exact wpAny_pyNext_range_end (I.ok.hd hc) st (by have:n<=i:=hg;omega) fun h' eb=>⟨rfl,I.turned (t':=s.toks) (fun b o hb e=>eb b o hb e) f0 f1 f3 f4 f5⟩
 self:=fun _ _ _ _ _ st h=>wpAny_pyIter_rangeiter st h
variable {p:Pos}{fp:List Addr}
section
def Azf(K:aE)(tl:TE):TI:=fun σ H R=>tl σ H fun x H1=>∃ a,x = .ref a/\(∃ xs,SqL K H1 a xs)/\R (Itl K a) H1
def A35(K:aE)(tl:TE):TI:=fun σ H R=>tl σ H fun x H1=>∃ a,x = .ref a/\(∃ xs,SqT K H1 a xs)/\R (Itt K a) H1
theorem Apg{l:Expr}{tl:TE}(hl:PE X l tl):PI X tg l (Azf X.K tl):=by
 intro pins s σ H R I h
 refine thn (hl pins s σ H _ I h) fun v s1 zz=>?_
 obtain ⟨x,H1,I1,r1,q1⟩:=zz
 obtain ⟨a,e,⟨xs,hq⟩,q⟩:=q1
 subst e
 cases r1
 obtain ⟨its,rv,p,hz⟩:=I1.list hq
 refine iL p.isList ?_
 refine ⟨s1.heap.objs.size,[s1.heap.objs.size],_,_,H1,rfl,I1.kept (t':=s1.toks) fun b o e=>aB _ e,Ai5 a _,⟨_,aM _ rfl,rfl,rfl⟩,fun b hb=>?_,q⟩
 have e:b=s1.heap.objs.size:=by simpa using hb
 subst e
 exact I1.fpOk (aZ _) (I1.hok.fresh (aZ _))
theorem Aus{l:Expr}{tl:TE}(hl:PE X l tl):PI X tg l (A35 X.K tl):=by
 intro pins s σ H R I h
 refine thn (hl pins s σ H _ I h) fun v s1 zz=>?_
 obtain ⟨x,H1,I1,r1,q1⟩:=zz
 obtain ⟨a,e,⟨xs,hq⟩,q⟩:=q1
 subst e
 cases r1
 obtain ⟨its,rv,p,hz⟩:=I1.tuple hq
 refine gD (show s1.heap.IsTuple a its.toArray from p) ?_
 refine ⟨s1.heap.objs.size,[s1.heap.objs.size],_,_,H1,rfl,I1.kept (t':=s1.toks) fun b o e=>aB _ e,Ae1 a _,⟨_,aM _ rfl,rfl,rfl⟩,fun b hb=>?_,q⟩
 have e:b=s1.heap.objs.size:=by simpa using hb
 subst e
 exact I1.fpOk (aZ _) (I1.hok.fresh (aZ _))
theorem Akd{R:It->Hp->Prop}{lo hi:Int}{t u v:Tok}{tk:Nat}(I:Inv X pins σ H s)(h1:-(2 ^ 62)<=lo)(h2:lo < 2 ^ 62)(h3:-(2 ^ 62)<=hi)(h4:hi < 2 ^ 62)
  (q:R (Itr lo (hi - lo).toNat) H):wpAny (model X.prog X.w) X.A (pyIter (.ref s.heap.objs.size)) (PIE X pins σ tg R) E { s with heap:=s.heap.push { cls:=.type "range",data:=.fields #[.int lo t,.int hi u,.int 1 v] },toks:=tk }:=by
 refine wpAny_pyIter_range (IsRange.new ..) (small_one h1 h2 h3 h4) ?_
 have I1:Inv X pins σ H { s with heap:=s.heap.push { cls:=.type "range",data:=.fields #[.int lo t,.int hi u,.int 1 v] },toks:=tk }:=I.kept fun b o e=>aB _ e
 refine ⟨(s.heap.push { cls:=.type "range",data:=.fields #[.int lo t,.int hi u,.int 1 v] }).objs.size,[(s.heap.push { cls:=.type "range",data:=.fields #[.int lo t,.int hi u,.int 1 v] }).objs.size],_,_,H,rfl,
  I1.kept (t':=tk) fun b o e=>aB _ e,Ad8 _ lo (hi - lo).toNat,?_,fun b hb=>?_,q⟩
 ·have e1:lo+((0:Nat):Int) * 1=lo:=by simp
  have e2:(((hi - lo).toNat:Nat):Int) - ((0:Nat):Int)=lF.Range.rangeSize lo hi 1:=by rw[rangeSize_one];split <;> omega
  show IsRangeIter _ _ (lo+((0:Nat):Int) * 1) ((((hi - lo).toNat:Nat):Int) - ((0:Nat):Int)) 1
  rw[e1,e2]
  exact aM _ rfl
 ·have e:b=(s.heap.push { cls:=.type "range",data:=.fields #[.int lo t,.int hi u,.int 1 v] }).objs.size:=by simpa using hb
  subst e
  exact I1.fpOk (aZ _) (I1.hok.fresh (aZ _))
def Aw8(ta:TA):TI:=fun σ H R=>ta σ H fun vs H1=>∃ j:Int,vs=[.int j]/\-(2 ^ 62)<=j/\j < 2 ^ 62/\R (Itr 0 j.toNat) H1
theorem Aj1{a:Expr}{ta:TA}(hg:Gl X "range")(hm:X.mg "range" = none)(ha:PA X [a] ta)(hs:aT [a] X.env=[(false,eval a X.env)]:=by rfl):PI X tg (.Call (.Name "range" p) [a] [] pos) (Aw8 ta):=by
 intro pins s σ H R I h
 refine Call_ (Lm I hg hm boot_range (dH (thn (ha pos pins s σ H _ I h) fun us s1 zz=>zz.elim fun vs H1 I1 r1 q1=>?_) hs rfl))
 obtain ⟨j,e,q1,q2,q⟩:=q1
 subst e
 cases r1 with
 | cons r rr=>
  cases rr
  obtain ⟨t,rfl⟩:=r
  exact call_range_1 (Akd I1 (by omega) (by omega) q1 q2 (by simpa using q))
def A3r(wi:TI)(g:TG)(tb:TS):TS:=fun D σ H=>wi σ H fun J H1=>∃ W:Nat->Nat->St->Hp->Prop,(∃ m,W 0 m σ H1)/\∀ i m σ H,W i m σ H ->
 (J.stop i H/\D.nx σ H)\/(J.go i H/\∃ N:St->Hp->Prop,(∀ σ' H',N σ' H'->∃ m',m' < m/\W (i+1) m' σ' H')/\∀ x H',J.yld i H x H'->g x σ H' fun σ2 H2=>tb { D with nx:=N,ct:=N,bk:=D.nx } σ2 H2)
def V1(fp:List Addr)(h:Heap):List (Addr×Obj):=fp.filterMap fun b=>(h.get? b).map fun o=>(b,o)
theorem Lk{o:Obj}(hb:b∈fp)(e:h.get? b=some o):(b,o)∈V1 fp h:=List.mem_filterMap.mpr ⟨b,hb,by rw[e];rfl⟩
theorem Ait{p:Addr×Obj}(hp:p∈V1 fp h):p.1∈fp/\h.get? p.1=some p.2:=by
 obtain ⟨b,hb,e⟩:=List.mem_filterMap.mp hp
 cases q:h.get? b with
 | none=>rw[q] at e;cases e
 | some o=>
  rw[q] at e
  have e':(b,o)=p:=bN e
  subst e'
  exact ⟨hb,q⟩
theorem Inv.pinned(I:Inv X pins σ H s)(hf:∀ b∈fp,Lr X pins H b)(ho:∀ b∈fp,∃ o,s.heap.get? b=some o/\∀ v,o.data≠.cell v):Inv X (pins++V1 fp s.heap) σ H s:=
 I.pins_of fun p hp=>(cV.mp hp).elim (fun z=>I.pin p (bP _ z)) fun z=>by
  obtain ⟨hb,e⟩:=Ait z
  obtain ⟨f0,f1,f2,_⟩:=hf p.1 hb
  obtain ⟨o,e',d⟩:=ho p.1 hb
  rw[e] at e';cases e'
  exact ⟨e,f0,f1,f2,d⟩
theorem Inv.unpinned{pl:List (Addr×Obj)}(I:Inv X (pins++pl) σ H s):Inv X pins σ H s:=I.pins_of fun p hp=>I.pin p (bP _ (eK _ hp))
theorem Avd{iter:Expr}{body:List Stmt}{wi:TI}{g:TG}{tb:TS}(hp:PassesOwn (model X.prog X.w) X.A X.env X.xe)(hc:X.calm=true)(hi:PI X tg iter wi)(hg:PG X tg g)(hb:PSs X body tb)
  (hs:∀ x,foldedSetIterable iter X.env x=pure x:=by intro _;rfl):PS X (.For tg iter body [] pos) (A3r wi g tb):=by
 intro pins s σ H D I h
 refine wpAny_For (thn (hi pins s σ H _ I h) fun v s1 h1=>thn h1 fun itv s2 h2=>?_) hs
 obtain ⟨it,fp,tn,J,H2,e,I2,T,st2,f2,W,⟨m0,w0⟩,turn⟩:=h2
 subst e
 have stat:∀ {H':Hp},(∀ b∈fp,H' b=none)->∀ b∈fp,Lr X pins H' b:=fun hn b hb=>⟨hn b hb,(f2 b hb).2⟩
 refine codeAny_forLoop_any (fun n s'=>∃ i σ' H',Inv X pins σ' H' s'/\tn i s'.heap/\(∀ b∈fp,H' b=none)/\W i n σ' H') ?_ m0 ⟨0,σ,H2,I2,st2,fun b hb=>(f2 b hb).1,w0⟩
 rintro n s3 ⟨i,σ3,H3,I3,st3,fr3,w3⟩
 rcases turn i n σ3 H3 w3 with ⟨stop,qn⟩ | ⟨go,N,hN,step⟩
 ·refine jL hp (thn (T.done X rfl rfl rfl hc i pins s3 σ3 H3 X.xe I3 (stat fr3) st3 stop) fun r s4 zz=>?_)
  obtain ⟨hr,I4⟩:=zz
  subst hr
  exact nU ⟨σ3,H3,I4,qn⟩
 ·refine jL hp (thn (T.item X rfl rfl rfl hc i pins s3 σ3 H3 X.xe I3 (stat fr3) st3 go) fun r s4 zz=>?_)
  obtain ⟨u,hr,h4⟩:=zz
  subst hr
  refine jL hp (thn h4 fun _ s5 zz=>?_)
  obtain ⟨x,H5,I5,r5,y5,st5,fr5⟩:=zz
  have I5':=I5.pinned (stat fr5) (T.obj _ _ st5)
  refine jL hp (thn (hg _ s5 σ3 H5 x u _ I5' r5 (step x H5 y5)) fun _ s6 zz=>?_)
  obtain ⟨σ6,H6,I6,q6⟩:=zz
  refine jL hp (thn (hb _ s6 σ6 H6 _ I6 q6) fun f s7 q7=>?_)
  have again:∀ {σ7:St} {H7:Hp},Inv X (pins++V1 fp s5.heap) σ7 H7 s7->N σ7 H7->∃ m,m < n/\∃ i σ' H',Inv X pins σ' H' s7/\tn i s7.heap/\(∀ b∈fp,H' b=none)/\W i m σ' H':=fun {σ7 H7} I7 n7=>by
   obtain ⟨m',hm,w7⟩:=hN σ7 H7 n7
   refine ⟨m',hm,i+1,σ7,H7,I7.unpinned,T.keep _ _ _ st5 fun b hb o e=>(I7.pin (b,o) (bP _ (bP _ (Lk hb e)))).1,fun b hb=>?_,w7⟩
   obtain ⟨o,e,d⟩:=T.obj _ _ st5 b hb
   exact (I7.pin (b,o) (bP _ (bP _ (Lk hb e)))).2.1
  cases f with
  | next=>obtain ⟨σ7,H7,I7,n7⟩:=q7;exact again I7 n7
  | cont=>obtain ⟨σ7,H7,I7,n7⟩:=q7;exact again I7 n7
  | brk=>obtain ⟨σ7,H7,I7,q7⟩:=q7;exact ⟨σ7,H7,I7.unpinned,q7⟩
  | ret v=>obtain ⟨x7,σ7,H7,I7,r7,q7⟩:=q7;exact ⟨x7,σ7,H7,I7.unpinned,r7,q7⟩
end
abbrev R2:=V->V->Hp->VK->Prop
def OpR(X:Cx)(f:aF->aF->Sem aF)(r:R2):Prop:=
 ∀ (pins:List (Addr×Obj)) (s:aJ) (σ:St) (H:Hp) (x y:V) (v u:aF) (Q:VK),Inv X pins σ H s->RelV x v->RelV y u->r x y H Q ->
  wpAny (model X.prog X.w) X.A (f v u) (EP X pins σ Q) X.xe s
def UnR(X:Cx)(f:aF->Sem aF)(r:V->Hp->VK->Prop):Prop:=
 ∀ (pins:List (Addr×Obj)) (s:aJ) (σ:St) (H:Hp) (x:V) (v:aF) (Q:VK),Inv X pins σ H s->RelV x v->r x H Q ->
  wpAny (model X.prog X.w) X.A (f v) (EP X pins σ Q) X.xe s
def CallR(X:Cx)(f:aF)(r:List V->Hp->VK->Prop):Prop:=
 ∀ (pins:List (Addr×Obj)) (s:aJ) (σ:St) (H:Hp) (xs:List V) (us:List aF) (Q:VK),Inv X pins σ H s->Vals xs us->r xs H Q ->
  wpAny (model X.prog X.w) X.A (call f us) (EP X pins σ Q) X.xe s
def A31(X:Cx)(r:V->Hp->(Bool->Hp->Prop)->Prop):Prop:=
 ∀ (pins:List (Addr×Obj)) (s:aJ) (σ:St) (H:Hp) (x:V) (v:aF) (Q:Bool->Hp->Prop),Inv X pins σ H s->RelV x v->r x H Q ->
  wpAny (model X.prog X.w) X.A (truthy v) (TP X pins σ Q) X.xe s
def tOp(r:R2)(ta tb:TE):TE:=fun σ H Q=>ta σ H fun x H1=>tb σ H1 fun y H2=>r x y H2 Q
def tUn(r:V->Hp->VK->Prop)(ta:TE):TE:=fun σ H Q=>ta σ H fun x H1=>r x H1 Q
def rI(C:Int->Int->Prop)(g:Int->Int->V):R2:=fun x y H Q=>∃ i j,x = .int i/\y = .int j/\C i j/\Q (g i j) H
def rI0(g:Int->Int->V):R2:=fun x y H Q=>∃ i j,x = .int i/\y = .int j/\Q (g i j) H
def rU(g:Int->V):V->Hp->VK->Prop:=fun x H Q=>∃ i,x = .int i/\Q (g i) H
variable {r:R2}
section
variable {a b:Expr}{tc:TE}
theorem Av7(ha:PE X a ta)(hb:PE X b tb){R:V->V->Hp->Prop}(I:Inv X pins σ H s)
  (h:ta σ H fun x H1=>tb σ H1 fun y H2=>R x y H2) {Q:aF->aJ->Prop} {f:aF->aF->Sem aF}
  (hf:∀ v u s2 x y H2,Inv X pins σ H2 s2->RelV x v->RelV y u->R x y H2->wpAny (model X.prog X.w) X.A (f v u) Q X.xe s2) :
  wpAny (model X.prog X.w) X.A (eval a X.env) (fun v s₁=>wpAny (model X.prog X.w) X.A (eval b X.env) (fun u s₂=>wpAny (model X.prog X.w) X.A (f v u) Q X.xe s₂) X.xe s₁) X.xe s:=by
 refine thn (ha pins s σ H _ I h) fun v s1 zz=>?_
 obtain ⟨x,H1,I1,r1,q1⟩:=zz
 refine thn (hb pins s1 σ H1 _ I1 q1) fun u s2 zz=>?_
 obtain ⟨y,H2,I2,r2,q2⟩:=zz
 exact hf v u s2 x y H2 I2 r1 r2 q2
theorem Awo{op:Operator}(ho:OpR X (gE op) r)(ha:PE X a ta)(hb:PE X b tb):PE X (.BinOp a op b pos) (tOp r ta tb):=by
 intro pins s σ H Q I h
 exact wpAny_BinOp (Av7 ha hb I h fun v u s2 x y H2 I2 rx ry q=>ho pins s2 σ H2 x y v u Q I2 rx ry q)
theorem A0v{op:UnaryOp}{r:V->Hp->VK->Prop}(ho:UnR X (unaryOp op) r)(ha:PE X a ta):PE X (.UnaryOp op a pos) (tUn r ta):=by
 intro pins s σ H Q I h
 exact UnaryOp_ (thn (ha pins s σ H _ I h) fun v s1 zz=>by obtain ⟨x,H1,I1,r1,q1⟩:=zz;exact ho pins s1 σ H1 x v Q I1 r1 q1)
theorem opI{f:aF->aF->Sem aF}{C:Int->Int->Prop}{g:Int->Int->Int}
  (rule:∀ (i j:Int) (t u:Tok) (s:aJ) (Q:aF->aJ->Prop) (E:aF->aJ->Prop),C i j->Q (.int (g i j) s.toks) { s with toks:=s.toks+1 }->wpAny (model X.prog X.w) X.A (f (.int i t) (.int j u)) Q E s) :
  OpR X f (rI C fun i j=>.int (g i j)):=by
 intro pins s σ H x y v u Q I rx ry h
 obtain ⟨i,j,rfl,rfl,hc,q⟩:=h
 obtain ⟨t,rfl⟩:=rx
 obtain ⟨t',rfl⟩:=ry
 exact rule i j t t' s _ _ hc ⟨.int (g i j),H,I.tok _,⟨_,rfl⟩,q⟩
theorem Azp{f:aF->aF->Sem aF}{g:Int->Int->Int}
  (rule:∀ (i j:Int) (t u:Tok) (s:aJ) (Q:aF->aJ->Prop) (E:aF->aJ->Prop),Q (.int (g i j) s.toks) { s with toks:=s.toks+1 }->wpAny (model X.prog X.w) X.A (f (.int i t) (.int j u)) Q E s) :
  OpR X f (rI0 fun i j=>.int (g i j)):=by
 intro pins s σ H x y v u Q I rx ry h
 obtain ⟨i,j,rfl,rfl,q⟩:=h
 obtain ⟨t,rfl⟩:=rx
 obtain ⟨t',rfl⟩:=ry
 exact rule i j t t' s _ _ ⟨.int (g i j),H,I.tok _,⟨_,rfl⟩,q⟩
theorem Ari{f:aF->aF->Sem aF}{g:Int->Int->Bool}
  (rule:∀ (i j:Int) (t u:Tok) (s:aJ) (Q:aF->aJ->Prop) (E:aF->aJ->Prop),Q (.bool (g i j)) s->wpAny (model X.prog X.w) X.A (f (.int i t) (.int j u)) Q E s) :
  OpR X f (rI0 fun i j=>.bl (g i j)):=by
 intro pins s σ H x y v u Q I rx ry h
 obtain ⟨i,j,rfl,rfl,q⟩:=h
 obtain ⟨t,rfl⟩:=rx
 obtain ⟨t',rfl⟩:=ry
 exact rule i j t t' s _ _ ⟨.bl (g i j),H,I,rfl,q⟩
def Ayp(i j:Int):Prop:=0<=j/\j<=1000000/\i.natAbs < 2 ^ 64
def CMul(i j:Int):Prop:=(-(2 ^ 64) < i/\i < 2 ^ 64)\/(-(2 ^ 64) < j/\j < 2 ^ 64)
theorem CMul.ok{i j:Int}(h:CMul i j):IntMulOk i j:=by
 rcases h with ⟨h1,h2⟩ | ⟨h1,h2⟩
 ·exact .of_left (intBits_le_64 h1 h2)
 ·exact .of_right (intBits_le_64 h1 h2)
theorem Avb:OpR X (gE .Add) (rI0 fun i j=>.int (i+j)):=Azp fun _ _ _ _ _ _ _ q=>add_int q
theorem Tw:OpR X (gE .Sub) (rI0 fun i j=>.int (i - j)):=Azp fun _ _ _ _ _ _ _ q=>sub_int q
theorem Atw:OpR X (gE .Mult) (rI CMul fun i j=>.int (i * j)):=opI fun _ _ _ _ _ _ _ hc q=>mul_int q hc.ok
theorem Pb:OpR X (gE .Mod) (rI (fun _ j=>0 < j) fun i j=>.int (i % j)):=opI fun i j _ _ _ _ _ hc q=>by
 have h1:(0:Int) < j:=hc
 exact mod_int' (by omega) (by rw[Int.fmod_eq_emod_of_nonneg i (by omega)];exact q)
theorem V2:OpR X (gE .Pow) (rI Ayp fun i j=>.int (i ^ j.toNat)):=opI fun _ _ _ _ _ _ _ hc q=>pow_int_small hc.1 hc.2.1 hc.2.2 q
theorem unI{f:aF->Sem aF}{g:Int->Int}
  (rule:∀ (i:Int) (t:Tok) (s:aJ) (Q:aF->aJ->Prop) (E:aF->aJ->Prop),Q (.int (g i) s.toks) { s with toks:=s.toks+1 }->wpAny (model X.prog X.w) X.A (f (.int i t)) Q E s) :
  UnR X f (rU fun i=>.int (g i)):=by
 intro pins s σ H x v Q I rx h
 obtain ⟨i,rfl,q⟩:=h
 obtain ⟨t,rfl⟩:=rx
 exact rule i t s _ _ ⟨.int (g i),H,I.tok _,⟨_,rfl⟩,q⟩
theorem Auo:UnR X (unaryOp .USub) (rU fun i=>.int (-i)):=unI fun _ _ _ _ _ q=>neg_int q
end
variable {op:CmpOp}{r':R2}
section
variable {a b:Expr}{tc:TE}
theorem Alq{Q:VK}{k k':Bool}(I:Inv X pins σ H s)(q:Q (.bl k) H)(e:k=k'):EP X pins σ Q (.bool k') s:=by
 subst e
 exact ⟨.bl k,H,I,rfl,q⟩
theorem Atf:OpR X (cX .Lt) (rI0 fun i j=>.bl (decide (i < j))):=Ari fun _ _ _ _ _ _ _ q=>lt_int q
theorem Kf:OpR X (cX .LtE) (rI0 fun i j=>.bl (decide (i<=j))):=Ari fun _ _ _ _ _ _ _ q=>le_int q
theorem Asd:OpR X (cX .Gt) (rI0 fun i j=>.bl (decide (j < i))):=Ari fun _ _ _ _ _ _ _ q=>gt_int q
theorem Ass:OpR X (cX .GtE) (rI0 fun i j=>.bl (decide (j<=i))):=Ari fun _ _ _ _ _ _ _ q=>ge_int q
theorem Aia:OpR X (cX .In) (fun x y H Q=>∃ i j,x = .str i/\y = .str j/\Q (.bl (!(cI j i 0 j.length 1).isEmpty)) H):=by
 intro pins s σ H x y v u Q I rx ry h
 obtain ⟨i,j,rfl,rfl,q⟩:=h
 obtain ⟨t,rfl⟩:=rx
 obtain ⟨t',rfl⟩:=ry
 exact in_str (Alq I q rfl)
theorem Atr:OpR X (cX .Is) (fun x y H Q=>y = .non/\Q (.bl (decide (x = .non))) H):=by
 intro pins s σ H x y v u Q I rx ry h
 obtain ⟨rfl,q⟩:=h
 cases ry
 refine is_none_gen (Alq I q ?_)
 cases x <;> first
  | (cases rx;rfl)
  | (obtain ⟨t,rfl⟩:=rx;rfl)
theorem OpR.or{f:aF->aF->Sem aF}(h:OpR X f r)(h':OpR X f r'):OpR X f (fun x y H Q=>r x y H Q\/r' x y H Q):=by
 intro pins s σ H x y v u Q I rx ry q
 rcases q with q | q
 ·exact h pins s σ H x y v u Q I rx ry q
 ·exact h' pins s σ H x y v u Q I rx ry q
theorem Bl(b:Expr)(h:op≠.In:=by decide)(h2:op≠.NotIn:=by decide):behindInMarks op b=false:=by
 have e1:(op == CmpOp.In)=false:=by cases op <;> first | rfl | exact absurd rfl h
 have e2:(op == CmpOp.NotIn)=false:=by cases op <;> first | rfl | exact absurd rfl h2
 cases b <;> simp[behindInMarks,e1,e2]
theorem Aqb(ho:OpR X (cX op) r)(ha:PE X a ta)(hb:PE X b tb)(hm:behindInMarks op b=false):PE X (.Compare a [op] [b] pos) (tOp r ta tb):=by
 intro pins s σ H Q I h
 exact wpAny_Compare1 (Av7 ha hb I h fun v u s2 x y H2 I2 rx ry q=>ho pins s2 σ H2 x y v u Q I2 rx ry q) hm
def Amh(t:TE):TT:=fun σ H Q=>t σ H fun x H'=>∃ k,x = .bl k/\Q k H'
theorem Ao4(ho:OpR X (cX op) r)(ha:PE X a ta)(hb:PE X b tb)(hm:behindInMarks op b=false):PT X (.Compare a [op] [b] pos) (Amh (tOp r ta tb)):=by
 intro pins s σ H Q I h
 refine wpAny_isTrue_Compare1 (thn (ha pins s σ H _ I h) fun v s1 zz=>zz.elim fun x H1 I1 r1 q1=>thn (hb pins s1 σ H1 _ I1 q1) fun u s2 ⟨y,H2,I2,r2,q2⟩=>
  thn (ho pins s2 σ H2 x y v u _ I2 r1 r2 q2) fun c s3 zz=>zz.elim fun z H3 I3 r3 zq=>?_) hm
 obtain ⟨k,e,q3⟩:=zq
 subst e
 cases r3
 exact eS ⟨H3,I3,q3⟩
def Adw(r r':R2)(ta tb tc:TE):TE:=fun σ H Q=>ta σ H fun x H1=>tb σ H1 fun y H2=>r x y H2 fun z H3=>∃ k,z = .bl k /\
 (if k=true then tc σ H3 fun w' H4=>r' y w' H4 Q else Q (.bl false) H3)
theorem Amx{op':CmpOp}(ho:OpR X (cX op) r)(ho':OpR X (cX op') r')(ha:PE X a ta)(hb:PE X b tb)(hc:PE X c tc)
  (hm:lastMarks [op,op'] [b,c]=false:=by with_unfolding_all rfl):PE X (.Compare a [op,op'] [b,c] pos) (Adw r r' ta tb tc):=by
 intro pins s σ H Q I h
 refine Compare_chain (thn (ha pins s σ H _ I h) fun v s1 zz=>zz.elim fun x H1 I1 r1 q1=>chain_link (thn (hb pins s1 σ H1 _ I1 q1) fun u s2 ⟨y,H2,I2,r2,q2⟩=>
  thn (ho pins s2 σ H2 x y v u _ I2 r1 r2 q2) fun d s3 zz=>zz.elim fun z H3 I3 r3 zq=>?_)) hm
 obtain ⟨k,e,q3⟩:=zq
 subst e
 cases r3
 refine eS ?_
 cases k with
 | false=>exact ite_ff ⟨.bl false,H3,I3,rfl,q3⟩
 | true=>exact ite_tt (chain_last (thn (hc pins s3 σ H3 _ I3 q3) fun w' s4 zz=>by obtain ⟨z',H4,I4,r4,q4⟩:=zz;exact ho' pins s4 σ H4 y z' u w' Q I4 r2 r4 q4))
theorem Am4{op':CmpOp}(ho:OpR X (cX op) r)(ho':OpR X (cX op') r')(ha:PE X a ta)(hb:PE X b tb)(hc:PE X c tc)
  (hm:lastMarks [op,op'] [b,c]=false:=by with_unfolding_all rfl):PT X (.Compare a [op,op'] [b,c] pos) (Amh (Adw r r' ta tb tc)):=by
 intro pins s σ H Q I h
 refine isTrue_chain (thn (ha pins s σ H _ I h) fun v s1 zz=>zz.elim fun x H1 I1 r1 q1=>test_link (thn (hb pins s1 σ H1 _ I1 q1) fun u s2 ⟨y,H2,I2,r2,q2⟩=>
  thn (ho pins s2 σ H2 x y v u _ I2 r1 r2 q2) fun d s3 zz=>zz.elim fun z H3 I3 r3 zq=>?_)) hm
 obtain ⟨k,e,q3⟩:=zq
 subst e
 cases r3
 refine eS ?_
 cases k with
 | false=>
  obtain ⟨k',e',q'⟩:=q3
  cases e'
  exact ite_ff ⟨H3,I3,q'⟩
 | true=>
  refine ite_tt (test_last (thn (hc pins s3 σ H3 _ I3 q3) fun w' s4 zz=>zz.elim fun z' H4 I4 r4 q4=>thn (ho' pins s4 σ H4 y z' u w' _ I4 r2 r4 q4) fun d' s5 zz=>?_))
  obtain ⟨z2,H5,I5,r5,k2,e2,q5⟩:=zz
  subst e2
  cases r5
  exact eS ⟨H5,I5,q5⟩
def Av3(K:aE)(x:V)(H:Hp)(k:Bool):Prop:=
 match x with
 | .non=>k=false
 | .bl b=>k=b
 | .int i=>k=(i != 0)
 | .str y=>y.length<=sizeLine/\k=((y.length:Int) != 0)
 | .byt y=>y.size<=sizeLine/\k=((y.size:Int) != 0)
 | .ref p=>(∃ xs,SqL K H p xs/\k = !xs.isEmpty)\/(∃ xs,SqT K H p xs/\k = !xs.isEmpty)\/∃ kvs,H p=some (.dK kvs)/\k = !kvs.isEmpty
 | _=>False
theorem Aex{κ:Type}{kvs:List (κ×V)}{vs:List (κ×aF)}(r:KV kvs vs):(!vs.isEmpty) = !kvs.isEmpty:=by
 cases r <;> rfl
theorem Tr{its:List aF}(r:Vals xs its):(!its.toArray.isEmpty) = !xs.isEmpty:=by
 cases r <;> simp
theorem Rf:(sizeLine:Nat) < 2 ^ 63:=by rw[oU];decide
theorem tru_ok:A31 X (fun x H Q=>∃ k,Av3 X.K x H k/\Q k H):=by
 intro pins s σ H x v Q I rx h
 obtain ⟨k,e,q⟩:=h
 have hl:=Rf
 have hs:sizeLine=16777216:=oU
 cases x with
 | non=>
  cases rx
  have e':k=false:=e
  subst e'
  exact truthy_none ⟨H,I,q⟩
 | bl b=>
  cases rx
  have e':k=b:=e
  subst e'
  exact eS ⟨H,I,q⟩
 | int i=>
  obtain ⟨t,rfl⟩:=rx
  have e':k=(i != 0):=e
  subst e'
  exact PySem.P.truthy_int ⟨H,I,q⟩
 | str y=>
  obtain ⟨t,rfl⟩:=rx
  obtain ⟨hy,e'⟩:y.length<=sizeLine/\k=((y.length:Int) != 0):=e
  subst e'
  exact PySem.P.truthy_str (by omega) ⟨H,I.tok _,q⟩
 | byt y=>
  obtain ⟨t,rfl⟩:=rx
  obtain ⟨hy,e'⟩:y.size<=sizeLine/\k=((y.size:Int) != 0):=e
  subst e'
  exact PySem.W.truthy_bytes (by omega) ⟨H,I.tok _,q⟩
 | ref p=>
  cases rx
  have e':(∃ xs,SqL X.K H p xs/\k = !xs.isEmpty)\/(∃ xs,SqT X.K H p xs/\k = !xs.isEmpty)\/∃ kvs,H p=some (.dK kvs)/\k = !kvs.isEmpty:=e
  rcases e' with ⟨xs,hx,e'⟩ | ⟨xs,hx,e'⟩ | ⟨kvs,hx,e'⟩
  ·subst e'
   obtain ⟨its,r,pl,hz⟩:=I.list hx
   have hlen:=r.length
   exact wpAny_truthy_list pl.isList (by simp only[bC];omega) ⟨H,I.tok _,by rw[Tr r];exact q⟩
  ·subst e'
   obtain ⟨its,r,pl,hz⟩:=I.tuple hx
   have hlen:=r.length
   exact truthy_tuple pl (by simp only[bC];omega) ⟨H,I.tok _,by rw[Tr r];exact q⟩
  ·subst e'
   obtain ⟨hz,hS,vs,r,m⟩:kvs.length<=sizeLine/\(p == sysModules)=false/\∃ vs,KV kvs vs/\s.heap.DictOf (Cu X.prog X.w) p vs:=I.hok p _ hx
   have hlen:kvs.length=vs.length:=mK r
   exact wpAny_truthy_dict hS m (by omega) ⟨H,I.tok _,by rw[Aex r];exact q⟩
 | _=>exact (show False from e).elim
theorem Al2(ha:PE X a ta)(he:∀ whole,isTrue a X.env whole=(do let v <- whole;standAt a.pos;holding [v] (truthy v))) :
  PT X a (fun σ H Q=>ta σ H fun x H'=>∃ k,Av3 X.K x H' k/\Q k H'):=by
 intro pins s σ H Q I h
 exact isTrue_plain (thn (ha pins s σ H _ I h) fun v s1 zz=>by obtain ⟨x,H1,I1,r1,q1⟩:=zz;exact tru_ok pins s1 σ H1 x v Q I1 r1 q1) (he _)
theorem Ad1:OpR X (gE .Add) (fun x y H Q=>∃ i j,x = .str i/\y = .str j/\i.length+j.length<=sizeLine/\Q (.str (i++j)) H):=by
 intro pins s σ H x y v u Q I rx ry h
 obtain ⟨i,j,rfl,rfl,hz,q⟩:=h
 obtain ⟨t,rfl⟩:=rx
 obtain ⟨t',rfl⟩:=ry
 exact add_str (fun t' tk=>⟨.str (i++j),H,I.tok _,⟨_,rfl⟩,q⟩) hz
theorem Qf{x:V}(r:Vals [x] us):∃ u,us=[u]/\RelV x u:=by
 cases r with
 | cons r1 r2=>cases r2;exact ⟨_,rfl,r1⟩
theorem Xc{x:V}(r:Vals [x,y] us):∃ u w',us=[u,w']/\RelV x u/\RelV y w':=by
 cases r with
 | cons r1 r2=>
  cases r2 with
  | cons r3 r4=>cases r4;exact ⟨_,_,rfl,r1,r3⟩
theorem Ai7(hc:X.calm=true):CallR X (.builtin "max") (fun xs H Q=>∃ i j,xs=[.int i,.int j]/\Q (.int (if j > i then j else i)) H):=by
 intro pins s σ H xs us Q I r h
 obtain ⟨i,j,rfl,q⟩:=h
 obtain ⟨u,w',rfl,⟨t,rfl⟩,⟨t',rfl⟩⟩:=Xc r
 refine max_two_ints (I.ok.hd hc) fun h' tk k=>⟨_,H,I.kept k,?_,q⟩
 by_cases hj:j > i
 ·rw[if_pos hj,if_pos hj];exact ⟨_,rfl⟩
 ·rw[if_neg hj,if_neg hj];exact ⟨_,rfl⟩
theorem Ahz(hc:X.calm=true):CallR X (.builtin "min") (fun xs H Q=>∃ i j,xs=[.int i,.int j]/\Q (.int (if j < i then j else i)) H):=by
 intro pins s σ H xs us Q I r h
 obtain ⟨i,j,rfl,q⟩:=h
 obtain ⟨u,w',rfl,⟨t,rfl⟩,⟨t',rfl⟩⟩:=Xc r
 refine min_two_ints (I.ok.hd hc) fun h' tk k=>⟨_,H,I.kept k,?_,q⟩
 by_cases hj:j < i
 ·rw[if_pos hj,if_pos hj];exact ⟨_,rfl⟩
 ·rw[if_neg hj,if_neg hj];exact ⟨_,rfl⟩
theorem Aja:CallR X (.type "int") (fun xs H Q=>(∃ i,xs=[.int i]/\Q (.int i) H)\/∃ k,xs=[.bl k]/\Q (.int (if k then 1 else 0)) H):=by
 intro pins s σ H xs us Q I r h
 rcases h with ⟨i,rfl,q⟩ | ⟨k,rfl,q⟩
 ·obtain ⟨u,rfl,t,rfl⟩:=Qf r
  exact call_int_int ⟨.int i,H,I,⟨_,rfl⟩,q⟩
 ·obtain ⟨u,rfl,r1⟩:=Qf r
  cases r1
  exact call_int_bool ⟨.int (if k then 1 else 0),H,I.tok _,⟨_,rfl⟩,q⟩
def Ax2(K:aE)(x:V)(H:Hp)(n:Nat):Prop:=
 match x with
 | .str y=>y.length<=sizeLine/\n=y.length
 | .byt y=>y.size<=sizeLine/\n=y.size
 | .ref p=>(∃ xs,SqL K H p xs/\n=xs.length)\/∃ xs,SqT K H p xs/\n=xs.length
 | _=>False
theorem B0:CallR X (.builtin "len") (fun xs H Q=>∃ x n,xs=[x]/\Ax2 X.K x H n/\Q (.int n) H):=by
 intro pins s σ H xs us Q I r h
 obtain ⟨x,n,rfl,e,q⟩:=h
 obtain ⟨u,rfl,rx⟩:=Qf r
 have hl:=Rf
 have hs:sizeLine=16777216:=oU
 cases x with
 | str y=>
  obtain ⟨t,rfl⟩:=rx
  obtain ⟨hy,e'⟩:y.length<=sizeLine/\n=y.length:=e
  subst e'
  exact len_str (by omega) ⟨.int _,H,I.tok _,⟨_,rfl⟩,q⟩
 | byt y=>
  obtain ⟨t,rfl⟩:=rx
  obtain ⟨hy,e'⟩:y.size<=sizeLine/\n=y.size:=e
  subst e'
  exact PySem.W.len_bytes (by omega) ⟨.int _,H,I.tok _,⟨_,rfl⟩,q⟩
 | ref p=>
  cases rx
  have e':(∃ xs,SqL X.K H p xs/\n=xs.length)\/∃ xs,SqT X.K H p xs/\n=xs.length:=e
  rcases e' with ⟨xs,hx,e'⟩ | ⟨xs,hx,e'⟩
  ·subst e'
   obtain ⟨its,r',pl,hz⟩:=I.list hx
   have hlen:=r'.length
   exact Calls.call_len_list pl.isList (by simp only[bC];omega) ⟨.int xs.length,H,I.tok _,⟨_,by simp only[bC];rw[hlen]⟩,q⟩
  ·subst e'
   obtain ⟨its,r',pl,hz⟩:=I.tuple hx
   have hlen:=r'.length
   exact len_tuple pl (by simp only[bC];omega) ⟨.int xs.length,H,I.tok _,⟨_,by simp only[bC];rw[hlen]⟩,q⟩
 | _=>exact (show False from e).elim
end
structure ObjM(h:Heap)(x dx C:Addr)(mA:Str->Option aF):Prop where
 obj:h.get? x=some (fL C dx)
 ns:h.Ns1 dx mA
 ne:dx≠x
variable {dx:Addr}{mA:Str->Option aF}
theorem Ajh(n:h.Ns1 dx mA):∃ od,h.get? dx=some od/\∀ name,lM name od=some (mA name):=by
 obtain ⟨o,es,ep,ho,hd,hk,_,hm⟩:=n
 refine ⟨o,ho,fun name=>?_⟩
 have e:=hm name
 unfold nsFind findBy at e
 rw[<- Array.find?_toList] at e
 unfold lM
 rw[hd]
 dsimp only
 split
 ·rename_i y q
  rw[q] at e
  exact congrArg some e
 ·rename_i q
  rw[q] at e
  have a:es.toList.any (·.refKey)=false:=by
   rw[List.any_eq_false]
   intro y hy
   obtain ⟨z,t,hkey⟩:=hk y (Array.mem_toList_iff.mp hy)
   simp[pD.refKey,hkey]
  have a':¬ es.toList.any (·.refKey)=true:=by rw[a];exact dA
  rw[if_neg a']
  exact congrArg some e
variable {C:Addr}
theorem ObjM.look{x:Addr}(I:ObjM h x dx C mA):∃ od,PySem.W.InstAt h x (fL C dx) C (some od)/\∀ name,lM name od=some (mA name):=
 let ⟨od,ho,hl⟩:=Ajh I.ns
 ⟨od,⟨I.obj,rfl,rfl,ho⟩,hl⟩
variable {f:Addr}{pl:Sem Bool}{kw:List (Str×aF)}
section
variable {prog:bT}{x:Addr}{name:Str}{v:aF}
theorem Aon{expr:Bool}(X:K.In s.heap)(I:ObjM s.heap x dx C mA)(hg:kC K C name=true)(hh:iM K C=true)
  (ha:cL K (.ref C) name=some none) (hv:mA name=some v) (hv':rA v=true) (h:Q v { s with toks:=s.toks+1 }) :
  wpAny (model prog w) A (getAttr (.ref x) name expr) Q E s:=by
 obtain ⟨od,J,hl⟩:=I.look
 exact PySem.W.get_value X J (kU hg).1 (PySem.W.findObj_own hh ha rfl (by rw[hl,hv])) hv' h
theorem Al0{Q:aF×List aF->aJ->Prop}(X:K.In s.heap)(I:ObjM s.heap x dx C mA)(hg:kC K C name=true)
  (hf:cL K (.ref C) name=some (some (.ref f))) (ht:kY K (.ref f)=true) (hv:mA name=none) (h:Q (.ref f,[.ref x]) s) :
  wpAny (model prog w) A (getMethod (.ref x) name pl) Q E s:=by
 obtain ⟨od,J,hl⟩:=I.look
 exact PySem.W.method_fn X J (kU hg).1 (kU hg).2 hf (beq_iff_eq.mp ht) (by show (lM name od).map (·.isSome)=some false;rw[hl,hv];rfl) h
theorem Apq{ns:List Str}{Q:Unit->aJ->Prop}(X:K.In s.heap)(I:ObjM s.heap x dx C mA)
  (hs:cL K (.ref C) "__setattr__" = some (some (.builtin "object.__setattr__"))) (hp:qJ K C=true) (ht:nV K C name=some none) (hh:iM K C=true)
  (hw:qI mA ns) (hsz:ns.length<=sizeLine)
  (h:∀ h',ObjM h' x dx C (fun y=>if y=name then some v else mA y)->gK dx s.heap h'->Q () { s with heap:=h',toks:=s.toks+2 }) :
  wpAny (model prog w) A (setAttr (.ref x) name v) Q E s:=by
 obtain ⟨od,J,hl⟩:=I.look
 refine PySem.W.set_plain X J hs (PySem.W.osa_open (s:={ s with toks:=s.toks+1 }) (r:=none) X J hp ht fun b=>?_)
 obtain ⟨cd,hc,hd'⟩:=PySem.W.any_some hh
 have hx:s.heap.get? x=some ⟨.ref C,some dx,.plain,#[]⟩:=I.obj
 refine aD (aO (aD (aD (wpAny_loadPart hx (aD (PySem.W.Looks.here (s:={ s with toks:=s.toks+1 }) (PySem.W.looks_clsIn X hc) ?_))))))
 rw[hd']
 refine aO (a:=some dx) (aD (aO (aD ?_)))
 refine wpAny_nsSet1 (s:={ s with toks:=s.toks+1 }) I.ns fun h' hn2 hs2=>?_
 obtain ⟨oD,esD,epD,hoD,hdD,hcD⟩:=hn2.count (qI.cons name v hw)
 refine aD (wpAny_lookBehind hoD (by rw[hdD];exact pastItsLine_dict (cB hcD (by rw[aL];omega))) ?_)
 exact aO (h _ ⟨(hs2.2 _ (gX I.ne)).trans I.obj,hn2,I.ne⟩ hs2)
theorem Ani{R:sB->aJ->Prop}{vs:List aF}{kw:List (Str×aF)}(X:K.In s.heap)(hm:jM K C=true)
  (hi:cL K (.ref C) "__init__" = some (some (.ref f))) (hf:PySem.W.typeIn K (.ref f)=some (.type "function"))
  (h:jV (model prog w) (A.under (.builtin "type.__call__" ⟨.ref C::vs,kw⟩)) (.call (.ref f) ⟨.ref (s.heap.objs.size+1)::vs,kw⟩) (PySem.W.InitBack (s.heap.objs.size+1) R)
   { s with heap:=(s.heap.push eF).push (fL C s.heap.objs.size) }) :
  jV (model prog w) A (.call (.ref C) ⟨vs,kw⟩) R s:=by
 obtain ⟨hh,g,d,t,os⟩:=s
 exact PySem.W.make_core (PySem.W.makes_of X hm) (PySem.W.looks_findIn X hi) (fun self=>PySem.W.bind_fn X self hf) (.inl rfl) h
end
def J8(f:Str)(v:V):List (Str×V)->List (Str×V)
 | []=>[(f,v)]
 | (g,x)::r=>if g=f then (g,v)::r else (g,x)::J8 f v r
theorem R0(f g:Str)(v:V):∀ fs:List (Str×V),(J8 f v fs).lookup g=if g=f then some v else fs.lookup g
 | []=>by
  show eM g [(f,v)]=_
  by_cases h:g=f
  ·have hb:(g == f)=true:=beq_iff_eq.mpr h
   simp only[eM,hb,if_pos h]
  ·have hb:(g == f)=false:=beq_eq_false_iff_ne.mpr h
   simp only[eM,hb,if_neg h]
 | (k,x)::r=>by
  have ih:=R0 f g v r
  rw[show J8 f v ((k,x)::r)=(if k=f then (k,v)::r else (k,x)::J8 f v r) from rfl]
  by_cases hk:k=f
  ·rw[if_pos hk]
   by_cases h:g=k
   ·have hb:(g == k)=true:=beq_iff_eq.mpr h
    simp only[eM,hb,if_pos (h.trans hk)]
   ·have hb:(g == k)=false:=beq_eq_false_iff_ne.mpr h
    simp only[eM,hb,if_neg (fun e:g=f=>h (e.trans hk.symm))]
  ·rw[if_neg hk]
   by_cases h:g=k
   ·have hb:(g == k)=true:=beq_iff_eq.mpr h
    simp only[eM,hb,if_neg (fun e:g=f=>hk (h.symm.trans e))]
   ·have hb:(g == k)=false:=beq_eq_false_iff_ne.mpr h
    simp only[eM,hb]
    exact ih
theorem Q7(f:Str)(v:V):∀ fs:List (Str×V),f∈(J8 f v fs).map (·.1)/\∀ g,g∈fs.map (·.1)->g∈(J8 f v fs).map (·.1)
 | []=>⟨by simp[J8],fun g h=>by simp at h⟩
 | (k,x)::r=>by
  obtain ⟨i1,i2⟩:=Q7 f v r
  rw[show J8 f v ((k,x)::r)=(if k=f then (k,v)::r else (k,x)::J8 f v r) from rfl]
  by_cases hk:k=f
  ·rw[if_pos hk]
   subst hk
   exact ⟨by simp,fun g h=>by simpa using h⟩
  ·rw[if_neg hk]
   refine ⟨?_,fun g h=>?_⟩
   ·rw[aI]
    exact aQ _ i1
   ·rw[aI] at h ⊢
    rcases bL.mp h with e | e
    ·exact bL.mpr (.inl e)
    ·exact aQ _ (i2 g e)
theorem Sb(f:Str)(v:V):∀ fs:List (Str×V),(J8 f v fs).length<=fs.length+1
 | []=>by simp[J8]
 | (k,x)::r=>by
  have ih:=Sb f v r
  rw[show J8 f v ((k,x)::r)=(if k=f then (k,v)::r else (k,x)::J8 f v r) from rfl]
  by_cases hk:k=f
  ·rw[if_pos hk,aL,aL];omega
  ·rw[if_neg hk,aL,aL];omega
theorem RelO.some_of{o:Option aF}(r:RelO (some v) o):∃ u,o=some u/\RelV v u:=by
 cases o with
 | none=>exact (show False from r).elim
 | some u=>exact ⟨u,rfl,r⟩
theorem RelO.none_of{o:Option aF}(r:RelO none o):o=none:=by
 cases o with
 | none=>rfl
 | some u=>exact (show False from r).elim
theorem Ajz(r:RelV v u):rA u=true:=by
 cases v with
 | non=>cases (show u=fZ from r);rfl
 | bl b=>cases (show u=pS b from r);rfl
 | int i=>obtain ⟨t,e⟩:=(show ∃ t,u=mV i t from r);cases e;rfl
 | str x=>obtain ⟨t,e⟩:=(show ∃ t,u=kB x t from r);cases e;rfl
 | byt b=>obtain ⟨t,e⟩:=(show ∃ t,u=tG b t from r);cases e;rfl
 | flt b=>obtain ⟨t,e⟩:=(show ∃ t,u=rK b t from r);cases e;rfl
 | ref a=>cases (show u=bO a from r);rfl
 | ty n=>cases (show u=jO n from r);rfl
section
variable {fs fs':List (Str×V)}
theorem Td(hok:HOk P w H h)(e:H a=some (.ins C dx fs)):∃ mA,ObjM h a dx C mA/\(∀ f,RelO (fs.lookup f) (mA f))/\qI mA (fs.map (·.1))/\fs.length<=1000/\H dx=some (.own a):=by
 obtain ⟨d,z,ne,ob,mA,n,r,q⟩:=(show ObjOk P w H h a (.ins C dx fs) from hok a _ e)
 exact ⟨mA,⟨ob,n,ne⟩,r,q,z,d⟩
end
structure Cls(K:aE)(C:Addr):Prop where
 pg:kC K C kD=true
 hd:iM K C=true
 po:qJ K C=true
 sa:cL K (.ref C) "__setattr__" = some (some (.builtin "object.__setattr__"))
theorem Cls.get(c:Cls K C)(f:Str):kC K C f=true:=c.pg
def NoAttr(K:aE)(C:Addr)(f:Str):Prop:=cL K (.ref C) f=some none
theorem NoAttr.taker{f:Str}(n:NoAttr K C f):nV K C f=some none:=by
 unfold nV
 rw[show cL K (.ref C) f=some none from n]
 rfl
structure Con(K:aE)(C:Addr)(f:Str)(v:V)(u:aF):Prop where
 at_:cL K (.ref C) f=some (some u)
 rel:RelV v u
 get:iN K u "__get__" = some none
 cp:PySem.W.copiedNames.contains f=false
structure Meth(K:aE)(C:Addr)(m:Str)(f:Addr):Prop where
 at_:cL K (.ref C) m=some (some (.ref f))
 fn:kY K (.ref f)=true
 kp:dU K (.ref f)=true
variable {m:Str}
section
variable {fs:List (Str×V)}{f:Str}
theorem Ae0{b:Bool}(I:Inv X pins σ H s)(e:H a=some (.ins C dx fs))(c:Cls X.K C)(n:NoAttr X.K C f)(l:fs.lookup f=some v)
  (h:∀ u s',Inv X pins σ H s'->RelV v u->Q u s'):wpAny (model X.prog X.w) A (getAttr (.ref a) f b) Q E s:=by
 obtain ⟨mA,O,r,_,_,_⟩:=Td I.hok e
 obtain ⟨u,hu,ru⟩:=RelO.some_of (v:=v) (o:=mA f) (by rw[<- l];exact r f)
 exact Aon I.kIn O (c.get f) c.hd n hu (Ajz ru) (h u _ (I.tok _) ru)
theorem Ui{g:Addr}{Q:aF×List aF->aJ->Prop}(I:Inv X pins σ H s)(e:H a=some (.ins C dx fs))(c:Cls X.K C)(k:Meth X.K C m g)(l:fs.lookup m=none)
  (h:Q (.ref g,[.ref a]) s):wpAny (model X.prog X.w) A (getMethod (.ref a) m pl) Q E s:=by
 obtain ⟨mA,O,r,_,_,_⟩:=Td I.hok e
 have hn:mA m=none:=RelO.none_of (by rw[<- l];exact r m)
 exact Al0 I.kIn O (c.get m) k.at_ k.fn hn h
theorem Aet{Q:Unit->aJ->Prop}(I:Inv X pins σ H s)(e:H a=some (.ins C dx fs))(c:Cls X.K C)(n:NoAttr X.K C f)(hl:fs.length < 1000)(ry:RelV y u)
  (h:∀ s',Inv X pins σ (upd H a (.ins C dx (J8 f y fs))) s'->Q () s'):wpAny (model X.prog X.w) A (setAttr (.ref a) f u) Q E s:=by
 obtain ⟨mA,O,r,wi,_,ho⟩:=Td I.hok e
 have hz:(fs.map (·.1)).length<=sizeLine:=by rw[aU,oU];omega
 refine Apq I.kIn O c.sa c.po n.taker c.hd wi hz fun h' O' sb=>h _ ?_
 have hd:∃ o,h'.get? dx=some o:=let ⟨o,_,_,e',_⟩:=O'.ns;⟨o,e'⟩
 refine I.write (x:=a) (e:=dx) (by rw[e];exact gF) (.inr ho) (fun b q hb z=>(sb.2 b hb).trans z) hd ?_
 refine ⟨by rw[Bj O.ne];exact ho,?_,O.ne,O'.obj,_,O'.ns,fun g=>?_,fun g hg=>?_⟩
 ·have:=Sb f y fs;omega
 ·show RelO ((J8 f y fs).lookup g) (if g=f then some u else mA g)
  rw[R0]
  by_cases q:g=f
  ·rw[if_pos q,if_pos q];exact ry
  ·rw[if_neg q,if_neg q];exact r g
 ·by_cases q:g=f
  ·rw[q];exact (Q7 f y fs).1
  ·refine (Q7 f y fs).2 g (wi g fun z=>hg ?_)
   show (if g=f then some u else mA g)=none
   rw[if_neg q];exact z
theorem Inv.made(I:Inv X pins σ H s):Inv X pins σ (upd (upd H s.heap.objs.size (.own (s.heap.objs.size+1))) (s.heap.objs.size+1) (.ins C s.heap.objs.size []))
  { s with heap:=(s.heap.push eF).push (fL C s.heap.objs.size) }:=by
 have e1:(s.heap.push eF).get? s.heap.objs.size=some eF:=aM s.heap rfl
 have e2:((s.heap.push eF).push (fL C s.heap.objs.size)).get? (s.heap.objs.size+1)=some (fL C s.heap.objs.size):=by
  have:=aM (s.heap.push eF) (o:=fL C s.heap.objs.size) rfl
  rwa [cO] at this
 have e3:(s.heap.push eF).Ns s.heap.objs.size (fun _=>none):=⟨eF,#[],_,e1,rfl,(fun e he=>absurd he (by simp)),fun _=>rfl⟩
 have I1:=I.laid (a:=s.heap.objs.size) (o:=.own (s.heap.objs.size+1)) (h':=s.heap.push eF) (t':=s.toks) (fun b u q=>aB _ q) (aZ _) ⟨_,e1⟩
 refine I1.laid (a:=s.heap.objs.size+1) (o:=.ins C s.heap.objs.size []) (t':=s.toks) (fun b u q=>aB _ q) (qK (cO _ _)) ?_
 have ne:s.heap.objs.size≠s.heap.objs.size+1:=cA (hG _)
 refine ⟨by rw[Bj ne,upd_same],iT _,ne,e2,fun _=>none,(Heap.Ns1.of_empty e3).at fun o q=>aB _ q,fun _=>gF,fun y hy=>absurd rfl hy⟩
theorem Aqp{prog:bT}{env:Env}{f:Str}(hb:attributeBase e f env (eval e env)=eval e env)
  (h:wpAny (model prog w) A (eval e env) (fun o s₁=>wpAny (model prog w) A (getAttr o f true) Q E s₁) E s):wpAny (model prog w) A (eval (.Attribute e f pos) env) Q E s:=
 Attribute_any_ h (by rw[arm_eval_Attribute,hb])
end
inductive FldR(K:aE)(f:Str)(Q:VK)(x:V)(H1:Hp):Prop
 | mk (a:_) (C:_) (dx:_) (fs:_) (v:_) (h0:x = .ref a) (h1:H1 a=some (.ins C dx fs)) (h2:Cls K C) (h3:NoAttr K C f) (h4:fs.lookup f=some v) (h5:Q v H1):FldR K f Q x H1
def A2c(K:aE)(ta:TE)(f:Str):TE:=fun σ H Q=>ta σ H (FldR K f Q)
def A2k(K:aE)(ta tv:TE)(f:Str):TS:=fun D σ H=>tv σ H fun y H1=>ta σ H1 fun x H2=>∃ a C dx fs,x = .ref a/\H2 a=some (.ins C dx fs)/\Cls K C/\NoAttr K C f/\fs.length < 1000 /\
 D.nx σ (upd H2 a (.ins C dx (J8 f y fs)))
section
variable {o value:Expr}{f:Str}{pos' tpos:Pos}{tv:TE}
theorem Avn(he:PE X e ta)(hb:attributeBase e f X.env (eval e X.env)=eval e X.env):PE X (.Attribute e f pos) (A2c X.K ta f):=by
 intro pins s σ H Q I h
 refine Aqp hb (thn (he pins s σ H _ I h) fun u s1 zz=>?_)
 obtain ⟨x,H1,I1,rx,a,C,dx,fs,v,ex,ea,c,n,l,q⟩:=zz
 subst ex
 obtain rfl:u=bO a:=rx
 exact Ae0 I1 ea c n l fun u' s2 I2 ru=>⟨v,H1,I2,ru,q⟩
theorem At4(ha:PE X o ta)(hv:PE X value tv)(hs:swapsWith value (some (.Attribute o f pos')) pos.line X.env=pure false):PS X (.Assign [.Attribute o f pos'] value pos) (A2k X.K ta tv f):=by
 intro pins s σ H D I h
 refine plainObj_wpAny_Assign_Attribute (thn (hv pins s σ H _ I h) fun u s1 zz=>zz.elim fun y H1 I1 ry q=>thn (ha pins s1 σ H1 _ I1 q) fun ov s2 zz=>zz.elim fun x H2 I2 rx zq=>?_) hs
 obtain ⟨a,C,dx,fs,ex,ea,c,n,l,q2⟩:=zq
 subst ex
 obtain rfl:ov=bO a:=rx
 exact Aet I2 ea c n l ry fun s3 I3=>⟨σ,_,I3,q2⟩
end
section
variable {c:aF}{b:Bool}
inductive TyOf(K:aE)(H:Hp):V->aF->Prop where
 | non:TyOf K H .non (.type "NoneType")
 | bl (x:Bool):TyOf K H (.bl x) (.type "bool")
 | int (i:Int):TyOf K H (.int i) (.type "int")
 | str (x:Str):TyOf K H (.str x) (.type "str")
 | flt (x:UInt64):TyOf K H (.flt x) (.type "float")
 | lst {a:Addr} {xs:List V} (e:H a=some (.lst xs)):TyOf K H (.ref a) (.type "list")
 | frz {a:Addr} {o:Obj} {xs:List V} (e:H a=some (.frz o (.lst xs))):TyOf K H (.ref a) (.type "list")
 | tup {a:Addr} {xs:List V} (e:H a=some (.tup xs)):TyOf K H (.ref a) (.type "tuple")
 | dK {a:Addr} {kvs:List (Key×V)} (e:H a=some (.dK kvs)):TyOf K H (.ref a) (.type "dict")
 | dT {a:Addr} {kvs:List (List Key×V)} (e:H a=some (.dT kvs)):TyOf K H (.ref a) (.type "dict")
 | ins {a C dx:Addr} {fs:List (Str×V)} (e:H a=some (.ins C dx fs)) (cl:Cls K C) (ha:cL K (.ref C) "__class__" = some (some (.builtin "object.__class__")))
   (hn:iN K (.builtin "object.__class__") "__get__" = some (some (.builtin "getset_descriptor.__get__"))) (htk:nW K (.builtin "object.__class__")=some true)
   (hm:pK K C (.type "object")=some true):TyOf K H (.ref a) (.ref C)
theorem Ko{x:V}{t:aF}(I:Inv X pins σ H s)(rx:RelV x u)(ty:TyOf X.K H x t)(e:dN X.K t c=some b)(h:∀ tk,Q (.bool b) { s with toks:=tk }) :
  wpAny (model X.prog X.w) A (call (.builtin "isinstance") [u,c]) Q E s:=by
 cases ty with
 | non=>cases (show u=fZ from rx);exact dJ PySem.W.kitx_none I.kIn gF e (fun z=>nomatch z) h
 | bl y=>cases (show u=pS y from rx);exact dJ PySem.W.kitx_bool I.kIn gF e (fun z=>nomatch z) h
 | int i=>obtain ⟨t,q⟩:=(show ∃ t,u=mV i t from rx);cases q;exact dJ PySem.W.kitx_int I.kIn gF e (fun z=>nomatch z) h
 | str y=>obtain ⟨t,q⟩:=(show ∃ t,u=kB y t from rx);cases q;exact dJ PySem.W.kitx_str I.kIn gF e (fun z=>nomatch z) h
 | flt y=>obtain ⟨t,q⟩:=(show ∃ t,u=rK y t from rx);cases q;exact dJ PySem.W.kitx_float I.kIn gF e (fun z=>nomatch z) h
 | @lst a xs ea=>
  cases (show u=bO a from rx)
  obtain ⟨_,_,n,_,h1⟩:=(show ObjOk X.prog X.w H s.heap a (.lst xs) from I.hok a _ ea)
  exact dJ mG I.kIn ⟨_,h1,rfl⟩ e (fun z=>nomatch z) h
 | @frz a ob xs ea=>
  cases (show u=bO a from rx)
  obtain ⟨_,_,_,n,_,h1⟩:=(show ObjOk X.prog X.w H s.heap a (.frz ob (.lst xs)) from I.hok a _ ea)
  exact dJ mG I.kIn ⟨_,h1,rfl⟩ e (fun z=>nomatch z) h
 | @tup a xs ea=>
  cases (show u=bO a from rx)
  obtain ⟨_,_,_,p⟩:=(show ObjOk X.prog X.w H s.heap a (.tup xs) from I.hok a _ ea)
  obtain ⟨o,h1,h2,_⟩:=p
  exact dJ pV I.kIn ⟨o,h1,(oS h2).1⟩ e (fun z=>nomatch z) h
 | @dK a kvs ea=>
  cases (show u=bO a from rx)
  obtain ⟨_,_,vs,_,p⟩:=(show ObjOk X.prog X.w H s.heap a (.dK kvs) from I.hok a _ ea)
  obtain ⟨o,es,ep,h1,h2,_⟩:=p
  exact dJ qL I.kIn ⟨o,h1,h2.1⟩ e (fun z=>nomatch z) h
 | @dT a kvs ea=>
  cases (show u=bO a from rx)
  obtain ⟨_,_,xs,_,o,es,ep,h1,h2,_⟩:=(show ObjOk X.prog X.w H s.heap a (.dT kvs) from I.hok a _ ea)
  exact dJ qL I.kIn ⟨o,h1,h2.1⟩ e (fun z=>nomatch z) h
 | @ins a C dx fs ea cl ha hn htk hm=>
  cases (show u=bO a from rx)
  obtain ⟨mA,O,_⟩:=Td I.hok ea
  obtain ⟨od,J,_⟩:=O.look
  exact dJ (PySem.W.kitx_own (cl.get _) cl.hd ha hn htk hm) I.kIn J e (fun z=>nomatch z) h
end
structure Room(k:Nat)(A:eD):Prop where
 hd:A.handled=none
 dp:A.depth+3 * k+5 < recursionLimit
 un:A.units+16 * k+200 < cLine
theorem Room.mono(r:Room k A)(h:j<=k):Room j A:=⟨r.hd,by have:=r.dp;omega,by have:=r.un;omega⟩
theorem Room.deeper(r:Room (k+1) A)(env:Env):Room k (A.deeper env):=
 ⟨r.hd,by have:=r.dp;show A.depth+1+3 * k+5 < _;omega,by have:=r.un;show A.units+3+16 * k+200 < _;omega⟩
theorem Room.in1(r:Room (k+1) A):Room k A.in1:=
 ⟨r.hd,by have:=r.dp;show A.depth+3 * k+5 < _;omega,by have:=r.un;show A.units+1+16 * k+200 < _;omega⟩
theorem Afb:(A.under (.builtin "type.__call__" ⟨.ref C::us,kw⟩)).depth=A.depth+1:=by
 first | rfl | simp[qM,Code.weight,Code.isCreation,Code.isGuard,Code.isCaller,tH,qN,guardIds]
theorem Ae4:(A.under (.builtin "type.__call__" ⟨.ref C::us,kw⟩)).units=A.units+1:=by
 first | rfl | simp[qM,Code.cUnits,tH,qN]
theorem Room.make(r:Room (k+1) A)(C:Addr)(us:List aF)(kw:List (Str×aF)):Room k (A.under (.builtin "type.__call__" ⟨.ref C::us,kw⟩)):=
 ⟨r.hd,by have:=r.dp;rw[Afb];omega,by have:=r.un;rw[Ae4];omega⟩
theorem Room.depth(r:Room k A):A.depth < recursionLimit:=by have:=r.dp;omega
theorem Room.units(r:Room k A):A.units+64 < cLine:=by have:=r.un;omega
def Aun:TA:=fun _ H Q=>Q [] H
def Ayf(ta:TE)(tr:TA):TA:=fun σ H Q=>ta σ H fun x H1=>tr σ H1 fun xs H2=>Q (x::xs) H2
variable {t:TA}
section
theorem Aee:PA X [] Aun:=fun _ _ _ _ H Q I h=>iO ⟨[],H,I,.nil,h⟩
theorem Te(ha:PE X e te)(hr:PA X es t)(hs:aT (e::es) X.env=(false,eval e X.env)::aT es X.env:=by rfl):PA X (e::es) (Ayf te t):=by
 intro pos pins s σ H Q I h
 rw[hs]
 show wpAny _ _ (spliced ((false,eval e X.env)::backTo pos (aT es X.env))) _ _ s
 refine iB (thn (ha pins s σ H _ I h) fun u s1 zz=>?_)
 obtain ⟨x,H1,I1,r1,q1⟩:=zz
 refine thn (hr pos pins s1 σ H1 _ I1 q1) fun us s2 zz=>?_
 obtain ⟨xs,H2,I2,r2,q2⟩:=zz
 exact ⟨x::xs,H2,I2,.cons r1 r2,q2⟩
def A28(t:TA):TE:=fun σ H Q=>t σ H fun xs H1=>xs.length<=sizeLine/\∀ p,H1 p=none->Q (.ref p) (upd H1 p (.tup xs))
def A2f(t:TA):TE:=fun σ H Q=>t σ H fun xs H1=>xs.length<=sizeLine/\∀ p,H1 p=none->Q (.ref p) (upd H1 p (.lst xs))
theorem At9{x1}(h:PA X es t):PE X (.Tuple es x1 pos) (A28 t):=by
 intro pins s σ H Q I hq
 refine wpAny_Tuple_spliced (thn (h pos pins s σ H _ I hq) fun us s1 zz=>zz.elim fun xs H1 I1 r zq=>⟨by rw[<- r.length];exact zq.1,?_⟩)
 obtain ⟨z,q⟩:=zq
 have hf:H1 s1.heap.objs.size=none:=I1.hok.fresh (aZ _)
 refine ⟨.ref s1.heap.objs.size,upd H1 s1.heap.objs.size (.tup xs),I1.laid (t':=s1.toks) (fun b u e=>aB _ e) (aZ _) ?_,rfl,q _ hf⟩
 exact ⟨z,us,r,⟨_,aM _ rfl,rfl,_,rfl⟩⟩
theorem Awa(h:PA X es t):PE X (.List es pos) (A2f t):=by
 intro pins s σ H Q I hq
 refine wpAny_List_spliced (thn (h pos pins s σ H _ I hq) fun us s1 zz=>zz.elim fun xs H1 I1 r zq=>⟨by rw[<- r.length];exact zq.1,?_⟩)
 obtain ⟨z,q⟩:=zq
 have hf:H1 s1.heap.objs.size=none:=I1.hok.fresh (aZ _)
 refine ⟨.ref s1.heap.objs.size,upd H1 s1.heap.objs.size (.lst xs),I1.laid (t':=s1.toks) (fun b u e=>aB _ e) (aZ _) ?_,rfl,q _ hf⟩
 exact ⟨z,us,0,r,aM _ rfl⟩
end
abbrev Sp:=List V->Hp->VK->XK->Prop
abbrev CXT:=List Env->Hp->aJ->XK->aF->aJ->Prop
structure Env0(P:bT)(w:cC)(K:aE)(mg:Str->Option aF)(base:Heap)(A:eD)(outer:List Env)(s:aJ)(H:Hp):Prop where
 frames:A.frames=some outer
 mod:Mod K mg base
 bs:∀ b o,base.get? b=some o->s.heap.get? b=some o/\H b=none
 bsz:base.objs.size<=s.heap.objs.size
 funs:s.heap.FunFrames base outer
 frf:∀ b∈frs outer,H b=none
 hok:HOk P w H s.heap
 bare:kX s.gens
inductive CE(outer:List Env)(P:bT)(w:cC)(H:Hp)(s:aJ)(Q:VK)(u:aF)(s':aJ):Prop
 | mk (v:V) (H':Hp) (os:s'.os=s.os) (bare:kX s'.gens) (un:Un (frs outer) [] H H' s.heap s'.heap) (hok:HOk P w H' s'.heap) (r:RelV v u) (q:Q v H'):CE outer P w H s Q u s'
def CR(CX:CXT)(outer:List Env)(P:bT)(w:cC)(H:Hp)(s:aJ)(Q:VK)(E:XK)(r:sB)(s':aJ):Prop:=
 match r with
 | .ok (.ret u)=>CE outer P w H s Q u s'
 | .ok _=>False
 | .error e=>CX outer H s E e s'
structure FnOk(P:bT)(w:cC)(K:aE)(mg:Str->Option aF)(base:Heap)(CX:CXT)(k:Nat)(f:Addr)(fd:dW)(ps:List Str)(sp:Sp):Prop where
 len:∀ vs H Q E,sp vs H Q E->vs.length=ps.length
 run:∀ (A:eD) (outer:List Env) (s:aJ) (H:Hp) (args:Args) (us:List aF) (vs:List V) (Q:VK) (E:XK),Room k A->Env0 P w K mg base A outer s H->kZ s fd args (ps.zip us)->Vals vs us->sp vs H Q E ->
  jV (model P w) A (.call (.ref f) args) (CR CX outer P w H s Q E) s
variable {mg:Str->Option aF}{base:Heap}{CX:CXT}{fd:dW}{ps:List Str}{sp:Sp}
theorem FnOk.mono(F:FnOk P w K mg base CX j f fd ps sp)(h:j<=k) :
  FnOk P w K mg base CX k f fd ps sp:=⟨F.len,fun A outer s H args us vs Q E hr=>F.run A outer s H args us vs Q E (hr.mono h)⟩
theorem FnOk.imp{sp':Sp}(F:FnOk P w K mg base CX k f fd ps sp)
  (h:∀ vs H Q E,sp' vs H Q E->sp vs H Q E):FnOk P w K mg base CX k f fd ps sp':=
 ⟨fun vs H Q E q=>F.len vs H Q E (h _ _ _ _ q),fun A outer s H args us vs Q E hr he hb hv hs=>F.run A outer s H args us vs Q E hr he hb hv (h _ _ _ _ hs)⟩
variable {outer:List Env}
theorem Env0.make(e:Env0 P w K mg base A outer s H)(C:Addr)(us:List aF)(kw:List (Str×aF)) :
  Env0 P w K mg base (A.under (.builtin "type.__call__" ⟨.ref C::us,kw⟩)) outer s H:=⟨by first | exact e.frames | (simpa[qM,Code.envs,qN,pushEnvs] using e.frames),e.mod,e.bs,e.bsz,e.funs,e.frf,e.hok,e.bare⟩
theorem Env0.in1(e:Env0 P w K mg base A outer s H) :
  Env0 P w K mg base A.in1 outer s H:=⟨e.frames,e.mod,e.bs,e.bsz,e.funs,e.frf,e.hok,e.bare⟩
section
theorem Inv.env0(I:Inv X pins σ H s):Env0 X.prog X.w X.K X.mg X.base X.A X.stack s H:=
 ⟨I.ok.frames,I.ok.mod,I.bs,cB I.ok.bsz I.sz,I.stack,I.stkFree,I.hok,I.bare⟩
theorem Inv.after{Q:VK}(I:Inv X pins σ H s)(h:CE X.stack X.prog X.w H s Q u s'):EP X pins σ Q u s':=by
 obtain ⟨v,H',os,bare,un,hok,r,q⟩:=h
 obtain ⟨hh,g,d,t,os'⟩:=s'
 obtain rfl:os'=s.os:=os
 exact ⟨v,H',I.call (h':=hh) (g':=g) (d':=d) (t':=t) (ch:=[]) un hok bare (fun b z=>absurd z (by simp)),r,q⟩
end
def Ax7(sp:Sp)(dvs:List V)(E:XK)(t:TA):TE:=fun σ H Q=>t σ H fun vs H1=>sp (vs++dvs) H1 Q E
def Alz(C:Addr)(m:Str)(sp:Sp)(dvs:List V)(E:XK)(ta:TE)(t:TA):TE:=fun σ H Q=>ta σ H fun x H1=>∃ a dx fs,x = .ref a/\H1 a=some (.ins C dx fs)/\fs.lookup m=none /\
 t σ H1 fun vs H2=>sp (x::(vs++dvs)) H2 Q E
def As0(C:Addr)(sp:Sp)(dvs:List V)(E:XK)(t:TA):TE:=fun σ H Q=>t σ H fun vs H1=>∀ x dx,H1 x=none->H1 dx=none->dx≠x ->
 sp (.ref x::(vs++dvs)) (upd (upd H1 dx (.own x)) x (.ins C dx [])) (fun v H2=>v = .non/\Q (.ref x) H2) E
def Binds(K:aE)(fd:dW)(ps:List Str)(ds:List aF):Prop:=
 ∀ (s:aJ) (us:List aF),K.In s.heap->(us++ds).length=ps.length->kZ s fd ⟨us,[]⟩ (ps.zip (us++ds))
theorem Binds.all(h:∀ us:List aF,us.length=ps.length->bindArgs fd ⟨us,[]⟩=pure (ps.zip us)):Binds K fd ps []:=fun s us _ hl=>by
 rw[aV] at hl ⊢
 exact .of_eq (h us hl)
def Pk(CX:CXT)(X:Cx)(E:XK):Prop:=∀ (pins:List (Addr×Obj)) (σ:St) (H:Hp) (s:aJ) (e:aF) (s':aJ),Inv X pins σ H s->CX X.stack H s E e s'->X.xe e s'
variable {vs:List V}
section
variable {dvs:List V}{ds:List aF}{E:XK}{apos:Pos}{o:Expr}
theorem Afe{pins:List (Addr×Obj)}{σ:St}{H:Hp}{s:aJ}{Q:VK}{us:List aF}{vs:List V}(F:FnOk X.prog X.w X.K X.mg X.base CX k f fd ps sp)(hr:Room k X.A)(hb:Binds X.K fd ps ds)(hd:Vals dvs ds)(hx:Pk CX X E)
  (I:Inv X pins σ H s) (r:Vals vs us) (h:sp (vs++dvs) H Q E):wpAny (model X.prog X.w) X.A (call (.ref f) us) (EP X pins σ Q) X.xe s:=by
 have r2:Vals (vs++dvs) (us++ds):=r.append hd
 have hl:(us++ds).length=ps.length:=by rw[<- r2.length];exact F.len _ _ _ _ h
 refine wpAny_call (nK (F.run X.A X.stack s H ⟨us,[]⟩ (us++ds) (vs++dvs) Q E hr I.env0 (hb s us I.kIn hl) r2 h) fun r s' hq=>?_)
 cases r with
 | error e=>exact hx pins σ H s e s' I hq
 | ok fl=>
  cases fl with
  | ret u=>exact I.after hq
  | next=>exact eT hq
  | brk=>exact eT hq
  | cont=>exact eT hq
theorem Aow(F:FnOk X.prog X.w X.K X.mg X.base CX k f fd ps sp)(hr:Room k X.A)(hg:Gl X x)(hm:X.mg x=some (.ref f))(hk:dU X.K (.ref f)=true)(hb:Binds X.K fd ps ds)(hd:Vals dvs ds)(hx:Pk CX X E)
  (ha:PA X (e::es) t) (hdb:(x == ("__debug__" : Str))=false:=by decide) (he:aT (e::es) X.env=(false,eval e X.env)::aT es X.env:=by rfl) (hpl:(backTo pos (aT es X.env)).any (·.1)=false:=by rfl) :
  PE X (.Call (.Name x p) (e::es) [] pos) (Ax7 sp dvs E t):=by
 intro pins s σ H Q I h
 refine iC (Tp I hg hm ?_ hdb)
 refine pW (h₀:=X.base) I.ok.mod.kin hk (thn (ha pos pins s σ H _ I h) fun us s1 zz=>zz.elim fun vs H1 I1 r q=>⟨I1.kIn,?_⟩) he hpl
 exact Afe F hr hb hd hx I1 r q
theorem Aov{pl:Sem Bool}(he:PE X o ta)(c:Cls X.K C)(hm:Meth X.K C m f)(F:FnOk X.prog X.w X.K X.mg X.base CX k f fd ps sp)(hr:Room k X.A)(hb:Binds X.K fd ps ds)(hd:Vals dvs ds)(hx:Pk CX X E)(ha:PA X (e::es) t)
  (hst:aT (e::es) X.env=(false,eval e X.env)::aT es X.env:=by rfl) (hpl:(backTo pos (aT es X.env)).any (·.1)=false:=by rfl)
  (ht:eval (.Call (.Attribute o m apos) (e::es) [] pos) X.env=(do
   let ov <- eval o X.env
   standAt apos.atName
   let (f,first) <- holding [ov] (getMethod ov m pl)
   callWith pos f first (backTo pos (aT (e::es) X.env)) (backToKw pos (keywordEach [] X.env))):=by rfl) :
  PE X (.Call (.Attribute o m apos) (e::es) [] pos) (Alz C m sp dvs E ta t):=by
 intro pins s σ H Q I h
 refine oJ (pl:=pl) (thn (he pins s σ H _ I h) fun u s1 zz=>zz.elim fun x H1 I1 rx zq=>?_) ht
 obtain ⟨a,dx,fs,ex,ea,l,q⟩:=zq
 subst ex
 obtain rfl:u=bO a:=rx
 refine Ui I1 ea c hm l ?_
 refine pW (first:=[.ref a]) (h₀:=X.base) I.ok.mod.kin hm.kp (thn (ha pos pins s1 σ H1 _ I1 q) fun us s2 zz=>zz.elim fun vs H2 I2 r q2=>⟨I2.kIn,?_⟩) hst hpl
 exact Afe (us:=.ref a::us) (vs:=.ref a::vs) F hr hb hd hx I2 (.cons rfl r) q2
theorem Ak2{pl:Sem Bool}(he:PE X o ta)(c:Cls X.K C)(hm:Meth X.K C m f)(F:FnOk X.prog X.w X.K X.mg X.base CX k f fd ps sp)(hr:Room k X.A)(hb:Binds X.K fd ps ds)(hd:Vals dvs ds)(hx:Pk CX X E)
  (ht:eval (.Call (.Attribute o m apos) [] [] pos) X.env=(do
   let ov <- eval o X.env
   standAt apos.atName
   let (f,first) <- holding [ov] (getMethod ov m pl)
   callWith pos f first (backTo pos (aT [] X.env)) (backToKw pos (keywordEach [] X.env))):=by rfl) :
  PE X (.Call (.Attribute o m apos) [] [] pos) (Alz C m sp dvs E ta Aun):=by
 intro pins s σ H Q I h
 refine oJ (pl:=pl) (thn (he pins s σ H _ I h) fun u s1 zz=>zz.elim fun x H1 I1 rx zq=>?_) ht
 obtain ⟨a,dx,fs,ex,ea,l,q⟩:=zq
 subst ex
 obtain rfl:u=bO a:=rx
 refine Ui I1 ea c hm l ?_
 exact pE (first:=[.ref a]) I1.kIn hm.kp (Afe (us:=[.ref a]) (vs:=[.ref a]) F hr hb hd hx I1 (.cons rfl .nil) q)
structure Mk(K:aE)(C f:Addr):Prop where
 makes:jM K C=true
 init:cL K (.ref C) "__init__" = some (some (.ref f))
 fn:kY K (.ref f)=true
 kp:dU K (.ref C)=true
theorem Akn{pins:List (Addr×Obj)}{σ:St}{H:Hp}{s:aJ}{Q:VK}{us:List aF}{vs:List V}(M:Mk X.K C f)(F:FnOk X.prog X.w X.K X.mg X.base CX k f fd ps sp)(hr:Room (k+1) X.A)(hb:Binds X.K fd ps ds)(hd:Vals dvs ds)
  (hx:Pk CX X E) (I:Inv X pins σ H s) (r:Vals vs us)
  (h:∀ x dx,H x=none->H dx=none->dx≠x->sp (.ref x::(vs++dvs)) (upd (upd H dx (.own x)) x (.ins C dx [])) (fun v H2=>v = .non/\Q (.ref x) H2) E) :
  wpAny (model X.prog X.w) X.A (call (.ref C) us) (EP X pins σ Q) X.xe s:=by
 have hq:=h (s.heap.objs.size+1) s.heap.objs.size (I.hok.fresh (rL _)) (I.hok.fresh (aZ _)) (cA (hG _))
 have I2:=Inv.made (C:=C) I
 have r2:Vals (V.ref (s.heap.objs.size+1)::(vs++dvs)) (bO (s.heap.objs.size+1)::(us++ds)):=.cons rfl (r.append hd)
 have hl:(bO (s.heap.objs.size+1)::us++ds).length=ps.length:=by
  have e:=r2.length
  rw[F.len _ _ _ _ hq] at e
  exact e.symm
 refine wpAny_call (Ani (f:=f) I.kIn M.makes M.init (beq_iff_eq.mp M.fn) (nK (F.run _ X.stack _ _ ⟨bO (s.heap.objs.size+1)::us,[]⟩ (bO (s.heap.objs.size+1)::(us++ds)) _ _ E (hr.make C us [])
  (I2.env0.make C us []) (hb _ (bO (s.heap.objs.size+1)::us) I2.kIn hl) r2 hq) fun r s' hq'=>?_))
 cases r with
 | error e=>exact hx pins σ _ _ e s' I2 hq'
 | ok fl=>
  cases fl with
  | ret u=>
   obtain ⟨v,H',I3,rv,ev,q3⟩:=I2.after hq'
   subst ev
   exact ⟨rv,⟨V.ref (s.heap.objs.size+1),H',I3,rfl,q3⟩⟩
  | next=>exact eT hq'
  | brk=>exact eT hq'
  | cont=>exact eT hq'
theorem Amn(M:Mk X.K C f)(F:FnOk X.prog X.w X.K X.mg X.base CX k f fd ps sp)(hr:Room (k+1) X.A)(hg:Gl X x)(hm:X.mg x=some (.ref C))(hb:Binds X.K fd ps ds)(hd:Vals dvs ds)(hx:Pk CX X E)
  (hdb:(x == ("__debug__" : Str))=false:=by decide):PE X (.Call (.Name x p) [] [] pos) (As0 C sp dvs E Aun):=by
 intro pins s σ H Q I h
 refine iC (Tp I hg hm ?_ hdb)
 exact pE I.kIn M.kp (Akn (us:=[]) M F hr hb hd hx I .nil h)
end
def PK(X:Cx)(kws:List iP)(t:TA):Prop:=
 ∀ (pos:Pos) (pins:List (Addr×Obj)) (s:aJ) (σ:St) (H:Hp) (Q:List V->Hp->Prop),Inv X pins σ H s->t σ H Q->wpAny (model X.prog X.w) X.A (evalAll ((backToKw pos (keywordEach kws X.env)).map (·.2))) (AP X pins σ Q) X.xe s
section
variable {ks:List Str}{E:XK}{apos kpos:Pos}{o:Expr}{kws:List iP}{tk:TA}{nm:Option Str}
structure KBinds(K:aE)(fd:dW)(ps ks:List Str)(g:List aF->List aF->List aF)(gV:List V->List V->List V):Prop where
 to:∀ (s:aJ) (us ws:List aF),K.In s.heap->(g us ws).length=ps.length->kZ s fd ⟨us,ks.zip ws⟩ (ps.zip (g us ws))
 rel:∀ {vs:List V} {us:List aF} {zs:List V} {ws:List aF},Vals vs us->Vals zs ws->Vals (gV vs zs) (g us ws)
variable {g:List aF->List aF->List aF}{gV:List V->List V->List V}
end
structure FnScope(N P:List Str)(sc:mF):Prop where
 kind:sc.kind = .function
 co:sc.isCoroutine=false
 gen:sc.isGenerator=false
 nd:N.Nodup
 pre:N.take P.length=P
 par:∀ x∈P,sc.names.lookup x=some .local\/sc.names.lookup x=some .cell
 nofree:∀ y∈sc.names,y.2≠.free
variable {kindOf:Str->Option lP}
theorem X4:∀ {binds:List (Str×aF)} {m:Str->Option aF},(∀ v,(x,v)∉binds)->bindL kindOf binds m x=m x
 | [],_,_=>rfl
 | (n,v)::r,m,h=>by
  unfold bindL
  rw[X4 fun w hw=>h w (aQ _ hw)]
  split
  ·have:x≠n:=by rintro rfl;exact h v bE
   simp[this]
  ·rfl
theorem Yn:∀ {binds:List (Str×aF)} {m:Str->Option aF},(∀ v,(x,v)∉binds)->bindC kindOf binds m x=m x
 | [],_,_=>rfl
 | (n,v)::r,m,h=>by
  unfold bindC
  rw[Yn fun w hw=>h w (aQ _ hw)]
  split
  ·rfl
  ·have:x≠n:=by rintro rfl;exact h v bE
   simp[this]
theorem Xi{v:aF}:∀ {P:List Str} {vs:List aF} {i:Nat} {m:Str->Option aF},P.Nodup->P[i]? = some x->vs[i]? = some v->kindOf x=some .local ->
  bindL kindOf (P.zip vs) m x=some v
 | [],_,_,_,_,h,_,_=>by simp at h
 | _::_,[],_,_,_,_,h,_=>by simp at h
 | p::P,w::vs,0,m,nd,h1,h2,hk=>by
  simp at h1 h2;subst h1;subst h2
  show bindL kindOf ((p,w)::P.zip vs) m p=_
  unfold bindL
  rw[X4 fun v hv=>(dZ.mp nd).1 (nX hv).1,if_pos hk]
  simp
 | p::P,w::vs,i+1,m,nd,h1,h2,hk=>by
  show bindL kindOf ((p,w)::P.zip vs) m x=_
  unfold bindL
  exact Xi (i:=i) (dZ.mp nd).2 (by simpa using h1) (by simpa using h2) hk
theorem Yl{v:aF}:∀ {P:List Str} {vs:List aF} {i:Nat} {m:Str->Option aF},P.Nodup->P[i]? = some x->vs[i]? = some v->kindOf x≠some .local ->
  bindC kindOf (P.zip vs) m x=some v
 | [],_,_,_,_,h,_,_=>by simp at h
 | _::_,[],_,_,_,_,h,_=>by simp at h
 | p::P,w::vs,0,m,nd,h1,h2,hk=>by
  simp at h1 h2;subst h1;subst h2
  show bindC kindOf ((p,w)::P.zip vs) m p=_
  unfold bindC
  rw[Yn fun v hv=>(dZ.mp nd).1 (nX hv).1,if_neg hk]
  simp
 | p::P,w::vs,i+1,m,nd,h1,h2,hk=>by
  show bindC kindOf ((p,w)::P.zip vs) m x=_
  unfold bindC
  exact Yl (i:=i) (dZ.mp nd).2 (by simpa using h1) (by simpa using h2) hk
def start(N:List Str)(vs:List V):St:=vs.map some++bM (N.length - vs.length) none
def Aec(CX:CXT)(P:bT)(w:cC)(K:aE)(mg:Str->Option aF)(base:Heap)(N:List Str)(qual:Str)(scope:mF)(f:Addr)(cd:aF)(A:eD)(outer:List Env)(s:aJ)(H:Hp)(E:XK):Cx where
 prog:=P
 w:=w
 K:=K
 mg:=mg
 base:=base
 A:=A.deeper (envOfC qual scope s.heap.objs.size f cd)
 N:=N
 s₀:=s
 H₀:=H
 env:=envOfC qual scope s.heap.objs.size f cd
 outer:=outer
 stack:=envOfC qual scope s.heap.objs.size f cd::outer
 ex:=[]
 calm:=true
 fn:=fun _=>true
 pn:=[]
 xe:=fun e s'=>wpAny (model P w) (A.deeper (envOfC qual scope s.heap.objs.size f cd)) (leaving (envOfC qual scope s.heap.objs.size f cd) e) (fun _ s''=>CX outer H s E e s'') (fun e' s''=>CX outer H s E e' s'') s'
theorem Abw{sc:mF}{n:Nat}(h:sc.names.lookup x=some .cell):∃ c,(cellsFrom n sc.names []).lookup x=some c:=by
 have q:=nL sc.names n [] (.inl h)
 exact mM.mp q
theorem Aix{N:List Str}{qual:Str}{scope:mF}{cd:aF}{s1:aJ}{E:XK}
  (S:FnScope N ps scope) (hd:A.handled=none) (e0:Env0 P w K mg base A outer s H) (hl:vs.length=ps.length) (r:Vals vs us)
  (x:InCallC s s.heap.objs.size (bindL (envOfC qual scope s.heap.objs.size f cd).kindOf (ps.zip us) fun _=>none) (cellsFrom (s.heap.objs.size+1) scope.names []) (bindC (envOfC qual scope s.heap.objs.size f cd).kindOf (ps.zip us) fun _=>none) s1) :
  Inv (Aec CX P w K mg base N qual scope f cd A outer s H E) [] (start N vs) H s1:=by
 have hpl:ps.length<=N.length:=by have:=congrArg iU S.pre;rw[hU] at this;omega
 obtain ⟨h1,tk,rfl,hk⟩:=x.done
 have noA:∀ b:Addr,b∉(Aec CX P w K mg base N qual scope f cd A outer s H E).ex:=fun b z=>absurd (show b∈([]:List Addr) from z) (by simp)
 refine ⟨⟨e0.mod,S.kind,rfl,rfl,aZ _,fun y z c h1 h2=>?_,fun y hy=>?_,fun y c _ h=>?_,fun _=>hd,eD.frames_deeper e0.frames,.inr ⟨rfl,rfl⟩,fun b z=>absurd z (noA b),e0.bs,e0.bsz,fun b _ _=>noA b,fun b z=>absurd z (noA b),e0.funs,e0.frf⟩,
  rfl,e0.bare,Un.kept hk,⟨_,x.toInCall.ns,fun i y v h1 h2 h3=>?_⟩,fun y c h=>⟨_,x.cell y c h⟩,e0.hok.fresh (aZ _),fun y c h=>?_,fun p hp=>absurd (show p∈([]:List (Addr×Obj)) from hp) (by simp),e0.hok.kept hk,?_⟩
 ·exact name_of_addr x.apart (gY h1) (gY h2)
 ·have hy:scope.names.lookup y=some .cell\/scope.names.lookup y=some .free:=hy
  rcases hy with hy | hy
  ·exact Abw hy
  ·exact absurd rfl (S.nofree _ (gY hy))
 ·exact iY (x.above y c (gY h))
 ·have hi:i < vs.length:=by
   unfold start at h2
   by_cases hi:i < vs.length
   ·exact hi
   ·rw[cR (by simpa using hi)] at h2
    rw[List.getElem?_replicate] at h2
    split at h2 <;> cases h2
  have ha:vs[i]? = some v:=by
   unfold start at h2
   rw[bA (by simpa using hi),bJ] at h2
   cases e:vs[i]? with
   | none=>rw[e] at h2;cases h2
   | some a=>rw[e] at h2;cases h2;rfl
  obtain ⟨u,hu,rv⟩:=r.get ha
  have hp:ps[i]? = some y:=by
   rw[<- S.pre,List.getElem?_take_of_lt (by omega)];exact h1
  have ndP:ps.Nodup:=by rw[<- S.pre];exact S.nd.sublist (List.take_sublist _ _)
  refine ⟨u,rv,?_⟩
  rcases S.par y (dX hp) with k | k
  ·exact .inl ⟨k,Xi ndP hp hu k⟩
  ·obtain ⟨c,e⟩:=Abw (n:=s.heap.objs.size+1) k
   refine .inr ⟨.inl k,c,e,?_⟩
   have q:=x.cell y c e
   rw[Yl ndP hp hu (by show scope.names.lookup y≠_;rw[k];decide)] at q
   exact q
 ·exact e0.hok.fresh (iY (x.above y c (gY h)))
 ·unfold start
  show _=N.length
  rw[cM,aU,List.length_replicate]
  omega
theorem Aww{name qual:Str}{params:Arguments}{body:List Stmt}{scope:mF}{dV kV doc pm cdv ct oc:aF}{an od:Option Addr}
  {osl:Array (Option aF)} {N ps:List Str} {sp:Sp} (lk:K.lookup f=some ⟨oc,od,.func (fF name qual params body scope dV kV doc pm an cdv ct),osl⟩) (hcd:jW K cdv qual=true) (S:FnScope N ps scope)
  (len:∀ vs H Q E,sp vs H Q E->vs.length=ps.length)
  (hbody:∀ (A:eD) (outer:List Env) (s:aJ) (H:Hp) (vs:List V) (Q:VK) (E:XK),Room k (A.deeper (envOfC qual scope s.heap.objs.size f cdv))->sp vs H Q E ->
   ∃ t,PSs (Aec CX P w K mg base N qual scope f cdv A outer s H E) body t/\t { nx:=fun _ H'=>Q .non H',rt:=Q } (start N vs) H) :
  FnOk P w K mg base CX (k+1) f (fF name qual params body scope dV kV doc pm an cdv ct) ps sp:=by
 refine ⟨len,fun A outer s H args us vs Q E hr e0 hb r hsp=>?_⟩
 have hl:=len _ _ _ _ hsp
 have KX:K.In s.heap:=e0.mod.kin.keeps fun b o e=>(e0.bs b o e).1
 have lim:s.heap.NoLimit:=e0.mod.nolimit.keeps fun b o e=>(e0.bs b o e).1
 have hkind:∀ y∈ps.zip us,scope.names.lookup y.1=some .local\/(scope.names.lookup y.1=some .cell/\((cellsFrom (s.heap.objs.size+1) scope.names []).lookup y.1).isSome=true):=fun ⟨n,v⟩ hy=>by
  rcases S.par n (nX hy).1 with q | q
  ·exact .inl q
  ·exact .inr ⟨q,nL _ _ _ (.inl q)⟩
 refine codeAny_call_function hr.depth (KX _ _ lk) rfl S.co S.gen rfl (PySem.W.codeRec_of KX hcd) (hb _ _ _ _ ?_)
 refine wpAny_newFunctionEnv_cells S.kind hkind fun env he s1 x=>?_
 subst he
 refine ⟨lim.keeps x.toInCall.keep,codeAny_func ?_⟩
 obtain ⟨t,ht,hq⟩:=hbody A outer s H vs Q E (hr.deeper _) hsp
 have I:Inv (Aec CX P w K mg base N qual scope f cdv A outer s H E) [] (start N vs) H s1:=Aix S hr.hd e0 hl r x
 refine gC (ht [] s1 (start N vs) H _ I hq) (fun fl s' hs=>?_) fun e s' hs=>hs
 have fin:∀ {σ':St} {H':Hp} {v:V} {u:aF},Inv (Aec CX P w K mg base N qual scope f cdv A outer s H E) [] σ' H' s'->RelV v u->Q v H'->CE outer P w H s Q u s':=
  fun {σ' H' v u} J rv q=>⟨v,H',J.os,J.bare,J.base,J.hok,rv,q⟩
 cases fl with
 | ret u=>
  obtain ⟨v,σ',H',J,rv,q⟩:=hs
  exact fin J rv q
 | next=>
  obtain ⟨σ',H',J,q⟩:=hs
  exact fin (v:=V.non) (u:=fZ) J rfl q
 | brk=>
  obtain ⟨_,_,_,q⟩:=hs
  exact eT q
 | cont=>
  obtain ⟨_,_,_,q⟩:=hs
  exact eT q
section
variable {id T:String}{r:List V->Hp->VK->Prop}
def tCB(r:List V->Hp->VK->Prop)(t:TA):TE:=fun σ H Q=>t σ H fun vs H1=>r vs H1 Q
theorem Adc(hc:CallR X (.builtin id) r)(hg:Gl X x)(hm:X.mg x=none)(hv:eA x=some (.builtin id))(ha:PA X (e::es) t)(hn:x ≠ "__name__" := by decide)(hdb:(x == ("__debug__" : Str))=false:=by decide)
  (he:aT (e::es) X.env=(false,eval e X.env)::aT es X.env:=by rfl) (hpl:(backTo pos (aT es X.env)).any (·.1)=false:=by rfl):PE X (.Call (.Name x p) (e::es) [] pos) (tCB r t):=by
 intro pins s σ H Q I h
 refine iC (Lm I hg hm hv ?_ hn hdb)
 exact PyProof.Rows.callWith_builtin1 (thn (ha pos pins s σ H _ I h) fun us s1 zz=>by obtain ⟨vs,H1,I1,r1,q1⟩:=zz;exact hc pins s1 σ H1 vs us Q I1 r1 q1) he hpl
theorem Ajl(hc:CallR X (.type T) r)(hg:Gl X x)(hm:X.mg x=none)(hv:eA x=some (.type T))(ha:PA X (e::es) t)(hn:x ≠ "__name__" := by decide)(hdb:(x == ("__debug__" : Str))=false:=by decide)
  (he:aT (e::es) X.env=(false,eval e X.env)::aT es X.env:=by rfl) (hpl:(backTo pos (aT es X.env)).any (·.1)=false:=by rfl):PE X (.Call (.Name x p) (e::es) [] pos) (tCB r t):=by
 intro pins s σ H Q I h
 refine iC (Lm I hg hm hv ?_ hn hdb)
 exact dH (thn (ha pos pins s σ H _ I h) fun us s1 zz=>by obtain ⟨vs,H1,I1,r1,q1⟩:=zz;exact hc pins s1 σ H1 vs us Q I1 r1 q1) he hpl
end
end L2
namespace HT
open PySem PyProof.Rows
section
open PySem.SeqAt
open PySem.AutoSeq1 (wpAny_loadPart')
open PySem.MeetsSeq PySem.MeetsSeq2 PySem.MeetsSeq3
end
section
variable {prog:bT}{w:cC}{A:eD}{E:aF->aJ->Prop}{s:aJ}
theorem Apr{t b:Addr}{vs ws:List aF}{Q:aF->aJ->Prop}(ht:IsTup s.heap t vs.toArray)(hb:IsTup s.heap b ws.toArray)(hv:vs≠[])
  (h1:ws=[]->Q (.ref t) s) (h2:ws≠[]->Q (.ref s.heap.objs.size) { s with heap:=s.heap.push { cls:=.type "tuple",data:=.seq (vs++ws).toArray } })
  (hsz:vs.length+ws.length<=sizeLine):wpAny (model prog w) A (gE .Add (.ref t) (.ref b)) Q E s:=by
 obtain ⟨⟨cls,dd,data,sl⟩,ho,hc,n,hd⟩:=id ht
 obtain ⟨⟨cls2,dd2,data2,sl2⟩,ho2,hc2,n2,hd2⟩:=id hb
 simp only at hc hd hc2 hd2
 subst hc hd hc2 hd2
 have e:vs.toArray++ws.toArray=(vs++ws).toArray:=by simp
 by_cases hw:ws=[]
 ·exact concat_meets ⟨_,ho,rfl⟩ ⟨_,ho2,rfl⟩ rB seq_tuple_add nM mY (mN _ _)
   (tuple_addW1 t b vs.toArray ws.toArray n n2 dd dd2 sl sl2 (by simpa using hv) (by simp[hw])) ⟨ho,ho2,h1 hw⟩
 ·refine concat_meets ⟨_,ho,rfl⟩ ⟨_,ho2,rfl⟩ rB seq_tuple_add nM mY (mN _ _)
   (tuple_addW2 t b vs.toArray ws.toArray n n2 dd dd2 sl sl2 (by simpa using hv) (by simpa using hw) (by rw[bC,bC];exact hsz)) ⟨ho,ho2,?_⟩
  rw[e]
  exact h2 hw
def sIx(n d:Nat):Option Int->Nat
 | none=>d
 | some v=>if v < 0 then (v+(n:Int)).toNat else min v.toNat n
theorem Ab6(n d:Nat):sIx n d none=d:=rfl
theorem Agb(n d k:Nat):sIx n d (some (k:Int))=min k n:=by
 show (if (k:Int) < 0 then ((k:Int)+(n:Int)).toNat else min (k:Int).toNat n)=min k n
 rw[if_neg (by omega),fK]
theorem Auz(n d:Nat)(hd:d<=n)(o:Option Int):sIx n d o<=n:=by
 cases o with
 | none=>exact hd
 | some v=>
  show (if v < 0 then (v+(n:Int)).toNat else min v.toNat n)<=n
  by_cases hv:v < 0
  ·rw[if_pos hv];omega
  ·rw[if_neg hv];exact Nat.min_le_right _ _
theorem Afr(v:Int)(n d:Nat):(if v < 0 then max (v+(n:Int)) 0 else min v (n:Int))=((sIx n d (some v):Nat):Int):=by
 show (if v < 0 then max (v+(n:Int)) 0 else min v (n:Int))=(((if v < 0 then (v+(n:Int)).toNat else min v.toNat n):Nat):Int)
 by_cases hv:v < 0
 ·simp only[if_pos hv];omega
 ·simp only[if_neg hv];omega
theorem Ad3(lo hi:Option Int)(n:Nat):jB lo hi 1 (n:Int)=(((sIx n 0 lo:Nat):Int),((sIx n n hi:Nat):Int)):=by
 have h1:¬ ((1:Int) < 0):=by omega
 unfold jB
 simp only[h1,if_false]
 refine qO ?_ ?_
 ·cases lo with
  | none=>rfl
  | some v=>exact Afr v n 0
 ·cases hi with
  | none=>rfl
  | some v=>exact Afr v n n
theorem Aer(i j:Nat):gI (i:Int) (j:Int) 1=j - i:=by
 unfold gI
 have h1:(1:Int) > 0:=by omega
 simp only[h1,if_true,Int.ediv_one]
 split <;> omega
theorem V8{v:aF}{o:Option Int}{Q:Option Int->aJ->Prop}(p:pX v o)(h:Q o s):wpAny (model prog w) A (lF.Slice.slicePartIndex v) Q E s:=by
 cases p with
 | none=>exact slicePart_none h
 | int i t=>exact slicePart_int h
theorem Rq{sl:Addr}{vl vu:aF}{lo hi:Option Int}{n:Nat}{Q:Int×Int×Nat->aJ->Prop}(hs:s.heap.IsSliceOf sl vl vu .none)(pl:pX vl lo)(pu:pX vu hi)
  (h:Q (((sIx n 0 lo:Nat):Int),1,sIx n n hi - sIx n 0 lo) s):wpAny (model prog w) A (lQ (.ref sl) (pure (n:Int))) Q E s:=by
 obtain ⟨os,hos,hcs,hds⟩:=id hs
 unfold lQ lF.Slice.sliceFields
 refine aD (aD (bZ hos hds (x:=vl) rfl (aD (bZ hos hds (x:=vu) rfl (aD (bZ hos hds (x:=.none) rfl (aO ?_)))))))
 refine aD (slicePart_none ?_)
 show wpAny _ _ (if ((1:Int) == 0)=true then _ else _) _ _ s
 rw[if_neg (by decide)]
 refine aD (V8 pl (aD (V8 pu (aD (aO ?_)))))
 show wpAny _ _ (match jB lo hi 1 (n:Int) with | (lo,hi)=>pure (lo,(1:Int),gI lo hi 1)) _ _ s
 rw[Ad3 lo hi n]
 show wpAny _ _ (pure (((sIx n 0 lo:Nat):Int),(1:Int),gI ((sIx n 0 lo:Nat):Int) ((sIx n n hi:Nat):Int) 1)) _ _ s
 rw[Aer]
 exact aO h
theorem Amv(xs:Array aF)(i k:Nat):((cK k).filterMap fun (m:Nat)=>xs[((i:Int)+(m:Int) * 1).toNat]?).toArray=((xs.toList.drop i).take k).toArray:=by
 have e:(fun (m:Nat)=>xs[((i:Int)+(m:Int) * 1).toNat]?)=fun m=>xs[i+m]?:=by
  funext m
  have:((i:Int)+(m:Int) * 1).toNat=i+m:=by omega
  rw[this]
 rw[e]
 have:=pick_run xs i k
 rw[jP] at this
 have e2:((fun x=>xs[x]?)∘fun x=>i+x)=fun m=>xs[i+m]?:=rfl
 rw[e2] at this
 rw[this]
theorem Qh{t sl:Addr}{items:Array aF}{vl vu:aF}{lo hi:Option Int}{Q:aF->aJ->Prop}(ht:IsTup s.heap t items)(hs:s.heap.IsSliceOf sl vl vu .none)(pl:pX vl lo)(pu:pX vu hi)
  (hw:¬ (sIx items.size 0 lo=0/\sIx items.size items.size hi=items.size))
  (h:Q (.ref s.heap.objs.size) { s with heap:=s.heap.push { cls:=.type "tuple",data:=.seq ((items.toList.drop (sIx items.size 0 lo)).take (sIx items.size items.size hi - sIx items.size 0 lo)).toArray } })
  (hsz:items.size<=sizeLine):wpAny (model prog w) A (getItem (.ref t) (.ref sl)) Q E s:=by
 have htake:sizeOk (.seq ((items.toList.drop (sIx items.size 0 lo)).take (sIx items.size items.size hi - sIx items.size 0 lo)).toArray):=by
  show ((items.toList.drop (sIx items.size 0 lo)).take (sIx items.size items.size hi - sIx items.size 0 lo)).toArray.size<=sizeLine
  rw[bC,hU,mZ,dD]
  omega
 have hj:sIx items.size items.size hi<=items.size:=Auz _ _ (aZ _) hi
 obtain ⟨os,hos,hcs,hds⟩:=id hs
 have hTs:s.TypeIs (.ref sl) "slice" := ⟨os,hos,hcs⟩
 unfold getItem
 try with_reducible refine dP ?_
 first | refine aD (aO ?_) | skip
 refine aD (wpAny_sequenceKey ht.typeIs (by decide) ?_)
 refine aD (dC (name:=eU "__getitem__") ht.typeIs jZ
  (eB jZ ht.typeIs entry_tuple_getitem ?_ (args_tuple_getitem _ _)))
 show wpAny _ _ (lF.Tuple.tupleItemsOf (.ref t) >>= _) _ _ s
 refine aD (tupleItemsOf_ ht ?_)
 refine aD (qP hTs ?_)
 rw[if_pos (by decide)]
 refine aD (Rq hs pl pu ?_)
 have hno:¬ ((((sIx items.size 0 lo:Nat):Int) == 0&&(1:Int) == 1&&(sIx items.size items.size hi - sIx items.size 0 lo) == items.size)=true):=by
  intro q
  rw[cJ,cJ] at q
  have q1:((sIx items.size 0 lo:Nat):Int)=0:=eq_of_beq q.1.1
  have q2:sIx items.size items.size hi - sIx items.size 0 lo=items.size:=eq_of_beq q.2
  exact hw ⟨by omega,by omega⟩
 show wpAny _ _ (if (((sIx items.size 0 lo:Nat):Int) == 0&&(1:Int) == 1&&(sIx items.size items.size hi - sIx items.size 0 lo) == items.size)=true then _ else _) _ _ s
 rw[if_neg hno,Amv]
 first
  | exact aD (m:=eI _) (eG (aO ⟨_,rfl,aO h⟩) htake)
  | exact aD (m:=eI _) (eG (aD (aO (aO ⟨_,rfl,aO h⟩))) htake)
  | exact aD (aD (m:=eI _) (eG (aO (aO ⟨_,rfl,aO h⟩)) htake))
  | exact aD (aD (m:=eI _) (eG (aO ⟨_,rfl,aO h⟩) htake))
end
end HT
namespace L2
open PySem PySem.Spec PyProof.Rows
abbrev TO:=St->Hp->(Option Int->Hp->Prop)->Prop
def PO(X:Cx)(e:Option Expr)(t:TO):Prop:=
 ∀ (pins:List (Addr×Obj)) (s:aJ) (σ:St) (H:Hp) (Q:Option Int->Hp->Prop),Inv X pins σ H s->t σ H Q ->
  wpAny (model X.prog X.w) X.A (evalPart e X.env) (fun u s'=>∃ o H',Inv X pins σ H' s'/\pX u o/\Q o H') X.xe s
def Aqm:TO:=fun _ H Q=>Q none H
def Ayb(t:TE):TO:=fun σ H Q=>t σ H fun x H1=>∃ i,x = .int i/\Q (some i) H1
theorem Ln{ns:List Int}:∀ {us:List aF},Vals (ns.map V.int) us->lC us ns:=by
 induction ns with
 | nil=>intro us r;rw[bG] at r;cases r;exact .nil
 | cons n ns ih=>
  intro us r
  rw[aI] at r
  cases r with
  | cons r1 r2=>
   obtain ⟨t,e⟩:=r1
   subst e
   exact .cons n t (ih r2)
variable {X:Cx}{xs:List V}{us:List aF}
section
variable {e:Expr}{te:TE}{lo hi:Option Expr}{tl th:TO}{pos p2:Pos}
theorem Ao7:PO X none Aqm:=by
 intro pins s σ H Q I h
 rw[pL]
 exact aO ⟨none,H,I,.none,h⟩
theorem Apo(h:PE X e te):PO X (some e) (Ayb te):=by
 intro pins s σ H Q I hw
 rw[evalPart_some]
 refine thn (h pins s σ H _ I hw) fun u s1 zz=>?_
 obtain ⟨x,H1,I1,r1,q1⟩:=zz
 obtain ⟨i,rfl,q⟩:=q1
 obtain ⟨t,rfl⟩:=r1
 exact ⟨some i,H1,I1,.int i t,q⟩
def SlR(X:Cx)(r:V->Option Int->Option Int->Hp->VK->Prop):Prop:=
 ∀ (pins:List (Addr×Obj)) (s:aJ) (σ:St) (H:Hp) (x:V) (v vl vu:aF) (lo hi:Option Int) (sl:Addr) (Q:VK),Inv X pins σ H s->RelV x v->s.heap.IsSliceOf sl vl vu .none->pX vl lo->pX vu hi->r x lo hi H Q ->
  ∃ T id,typeLookup (.type T) "__getitem__" = pure (some (.builtin id))/\s.TypeIs v T/\wpAny (model X.prog X.w) X.A (getItem v (.ref sl)) (EP X pins σ Q) X.xe s
theorem SlR.or{r r':V->Option Int->Option Int->Hp->VK->Prop}(h:SlR X r)(h':SlR X r'):SlR X (fun x lo hi H Q=>r x lo hi H Q\/r' x lo hi H Q):=by
 intro pins s σ H x v vl vu lo hi sl Q I rx hs pl pu q
 rcases q with q | q
 ·exact h pins s σ H x v vl vu lo hi sl Q I rx hs pl pu q
 ·exact h' pins s σ H x v vl vu lo hi sl Q I rx hs pl pu q
def tSl(r:V->Option Int->Option Int->Hp->VK->Prop)(te:TE)(tl th:TO):TE:=fun σ H Q=>te σ H fun x H1=>tl σ H1 fun l H2=>th σ H2 fun u H3=>r x l u H3 Q
theorem Amo{r:V->Option Int->Option Int->Hp->VK->Prop}(hr:SlR X r)(he:PE X e te)(hl:PO X lo tl)(hu:PO X hi th):PE X (.Subscript e (.Slice lo hi none p2) pos) (tSl r te tl th):=by
 intro pins s σ H Q I h
 refine sC (thn (he pins s σ H _ I h) fun v s1 zz=>?_)
 obtain ⟨x,H1,I1,r1,q1⟩:=zz
 refine wpAny_Slice (thn (hl pins s1 σ H1 _ I1 q1) fun vl s2 ⟨l,H2,I2,pl,q2⟩=>thn (hu pins s2 σ H2 _ I2 q2) fun vu s3 zz=>?_)
 obtain ⟨u,H3,I3,pu,q3⟩:=zz
 rw[pL]
 refine aO ?_
 have I4:Inv X pins σ H3 { s3 with heap:=s3.heap.push { cls:=.type "slice",data:=.fields #[vl,vu,.none] } }:=I3.kept (t':=s3.toks) fun b ob q=>aB _ q
 obtain ⟨T,id,hT,ht,hg⟩:=hr pins { s3 with heap:=s3.heap.push { cls:=.type "slice",data:=.fields #[vl,vu,.none] } } σ H3 x v vl vu l u s3.heap.objs.size Q I4 r1 (lR ..) pl pu q3
 show wpAny (model X.prog X.w) X.A (subscriptTail e (.Slice lo hi none p2) v (.ref s3.heap.objs.size)) (EP X pins σ Q) X.xe { s3 with heap:=s3.heap.push { cls:=.type "slice",data:=.fields #[vl,vu,.none] } }
 exact tail_any (ops:=[.ref s3.heap.objs.size,v]) ht hT hg (by with_unfolding_all rfl)
def Abx(xs:List V)(lo hi:Option Int):List V:=(xs.drop (HT.sIx xs.length 0 lo)).take (HT.sIx xs.length xs.length hi - HT.sIx xs.length 0 lo)
theorem R4(xs:List V)(lo hi:Option Int):(Abx xs lo hi).length<=xs.length:=by
 unfold Abx
 rw[hU,mZ]
 omega
def A0m(K:aE):V->Option Int->Option Int->Hp->VK->Prop:=fun x lo hi H Q=>∃ a xs,x = .ref a/\SqT K H a xs /\
 ¬ (HT.sIx xs.length 0 lo=0/\HT.sIx xs.length xs.length hi=xs.length)/\∀ p,H p=none->Q (.ref p) (upd H p (.tup (Abx xs lo hi)))
theorem Aup:SlR X (A0m X.K):=by
 intro pins s σ H x v vl vu lo hi sl Q I rx hs pl pu h
 obtain ⟨a,xs,rfl,hx,hw,q⟩:=h
 cases rx
 obtain ⟨its,r,ht,hz⟩:=I.tuple hx
 have hlen:its.toArray.size=xs.length:=by rw[bC];exact r.length.symm
 refine ⟨"tuple",_,jZ.lookup,ht.typeIs,?_⟩
 refine HT.Qh ht hs pl pu (by rw[hlen];exact hw) ?_ (by rw[hlen];exact hz)
 rw[hlen]
 refine ⟨.ref s.heap.objs.size,_,I.laid (t':=s.toks) (o:=.tup (Abx xs lo hi)) (fun b ob q=>aB _ q) (aZ _) ?_,rfl,q _ (I.hok.fresh (aZ _))⟩
 exact ⟨cB (R4 xs lo hi) hz,_,(r.drop (HT.sIx xs.length 0 lo)).take (HT.sIx xs.length xs.length hi - HT.sIx xs.length 0 lo),TupN.new _ _⟩
inductive rCatT(K:aE)(x y:V)(H:Hp)(Q:VK):Prop
 | mk (a:_) (b:_) (xs:_) (ys:_) (h0:x = .ref a) (h1:y = .ref b) (h2:SqT K H a xs) (h3:SqT K H b ys) (h4:xs≠[]) (h5:xs.length+ys.length<=sizeLine) (h6:(ys=[]->Q (.ref a) H)) (h7:(ys≠[]->∀ p,H p=none->Q (.ref p) (upd H p (.tup (xs++ys))))):rCatT K x y H Q
theorem Vals.nil_iff(r:Vals xs us):us=[]↔xs=[]:=by
 cases r with
 | nil=>simp
 | cons _ _=>simp
theorem Ao1:OpR X (gE .Add) (rCatT X.K):=by
 intro pins s σ H x y v u Q I rx ry h
 obtain ⟨a,b,xs,ys,rfl,rfl,ha,hb,hx,hz,q1,q2⟩:=h
 cases rx
 cases ry
 obtain ⟨its,r1,p1,_⟩:=I.tuple ha
 obtain ⟨its2,r2,p2,_⟩:=I.tuple hb
 refine HT.Apr p1 p2 (fun z=>hx (r1.nil_iff.mp z)) (fun z=>⟨.ref a,H,I,rfl,q1 (r2.nil_iff.mp z)⟩) (fun z=>?_) (by rw[<- r1.length,<- r2.length];exact hz)
 refine ⟨.ref s.heap.objs.size,_,I.laid (t':=s.toks) (o:=.tup (xs++ys)) (fun b ob q=>aB _ q) (aZ _) ?_,rfl,q2 (fun w=>z (r2.nil_iff.mpr w)) _ (I.hok.fresh (aZ _))⟩
 exact ⟨by rw[cM];exact hz,_,r1.append r2,TupN.new _ _⟩
end
def ixN(n:Nat)(i:Int):Option Nat:=if 0<=i then (if i < n then some i.toNat else none) else if -(n:Int)<=i then some (i+n).toNat else none
def atI{α:Type}(xs:List α)(i:Int):Option α:=(ixN xs.length i).bind fun j=>xs[j]?
variable {n:Nat}
theorem Af2{i:Int}{j:Nat}(h:ixN n i=some j):seqIndex? i n=some j/\j < n/\-(n:Int)<=i/\i < n:=by
 unfold ixN at h
 by_cases h0:0<=i
 ·rw[if_pos h0] at h
  by_cases h1:i < n
  ·rw[if_pos h1] at h
   have e:i.toNat=j:=bN h
   exact ⟨by rw[rM h0 h1,e],by omega,by omega,h1⟩
  ·rw[if_neg h1] at h;cases h
 ·rw[if_neg h0] at h
  by_cases h1:-(n:Int)<=i
  ·rw[if_pos h1] at h
   have e:(i+n).toNat=j:=bN h
   exact ⟨by rw[qQ (by omega) h1,e],by omega,h1,by omega⟩
  ·rw[if_neg h1] at h;cases h
theorem Y3{α:Type}{xs:List α}{i:Int}{v:α}(h:atI xs i=some v):∃ j,seqIndex? i xs.length=some j/\xs[j]? = some v/\j < xs.length/\-(xs.length:Int)<=i/\i < xs.length:=by
 unfold atI at h
 cases e:ixN xs.length i with
 | none=>rw[e] at h;cases h
 | some j=>
  rw[e] at h
  obtain ⟨h1,h2,h3,h4⟩:=Af2 e
  exact ⟨j,h1,h,h2,h3,h4⟩
def Agq(b:Expr):Prop:=∀ o i,subscripted b false o i=operate [o,i] (getItem o i)
def IxR(X:Cx)(r:R2):Prop:=
 ∀ (value slice:Expr) (pins:List (Addr×Obj)) (s:aJ) (σ:St) (H:Hp) (x y:V) (v u:aF) (Q:VK),Inv X pins σ H s->RelV x v->RelV y u->r x y H Q ->
  subscripted slice false v u=operate [v,u] (getItem v u)->wpAny (model X.prog X.w) X.A (subscriptTail value slice v u) (EP X pins σ Q) X.xe s
def MtR(X:Cx)(id:String)(r:V->List V->Hp->VK->Prop):Prop:=
 ∀ (pins:List (Addr×Obj)) (s:aJ) (σ:St) (H:Hp) (x:V) (xs:List V) (v:aF) (us:List aF) (Q:VK),Inv X pins σ H s->RelV x v->Vals xs us->r x xs H Q ->
  wpAny (model X.prog X.w) X.A (call (.builtin id) (v::us)) (EP X pins σ Q) X.xe s
variable {v:aF}{pins:List (Addr×Obj)}{σ:St}{H:Hp}{s:aJ}{its:List aF}{A:eD}{y x:V}
section
variable {a b:Expr}{ta tb:TE}{pos:Pos}
theorem IxR.or{r r':R2}(h:IxR X r)(h':IxR X r'):IxR X (fun x y H Q=>r x y H Q\/r' x y H Q):=by
 intro value slice pins s σ H x y v u Q I rx ry q hs
 rcases q with q | q
 ·exact h value slice pins s σ H x y v u Q I rx ry q hs
 ·exact h' value slice pins s σ H x y v u Q I rx ry q hs
theorem MtR.or{id:String}{r r':V->List V->Hp->VK->Prop}(h:MtR X id r)(h':MtR X id r'):MtR X id (fun x xs H Q=>r x xs H Q\/r' x xs H Q):=by
 intro pins s σ H x xs v us Q I rx rs q
 rcases q with q | q
 ·exact h pins s σ H x xs v us Q I rx rs q
 ·exact h' pins s σ H x xs v us Q I rx rs q
theorem Ay2{r:R2}(hr:IxR X r)(ha:PE X a ta)(hb:PE X b tb)(hs:Agq b):PE X (.Subscript a b pos) (tOp r ta tb):=by
 intro pins s σ H Q I h
 exact sC (Av7 ha hb I h fun v u s2 x y H2 I2 rx ry q=>hr a b pins s2 σ H2 x y v u Q I2 rx ry q (hs _ _))
inductive rIxL(K:aE)(x y:V)(H:Hp)(Q:VK):Prop
 | mk (p:_) (xs:_) (i:_) (v:_) (h0:x = .ref p) (h1:y = .int i) (h2:SqL K H p xs) (h3:atI xs i=some v) (h4:Q v H):rIxL K x y H Q
inductive rIxT(K:aE)(x y:V)(H:Hp)(Q:VK):Prop
 | mk (p:_) (xs:_) (i:_) (v:_) (h0:x = .ref p) (h1:y = .int i) (h2:SqT K H p xs) (h3:atI xs i=some v) (h4:Q v H):rIxT K x y H Q
def Aw5:R2:=fun x y H Q=>∃ z i c,x = .str z/\y = .int i/\z.length<=sizeLine/\atI z.cps.toList i=some c/\Q (.str ⟨#[c]⟩) H
theorem Ao8:IxR X (rIxL X.K):=by
 intro value slice pins s σ H x y v u Q I rx ry h hs
 obtain ⟨p,xs,i,z,rfl,rfl,hq,he,q⟩:=h
 cases rx
 obtain ⟨t,rfl⟩:=ry
 obtain ⟨its,r,pl,hz⟩:=I.list hq
 obtain ⟨j,h1,h2,h3,h4,h5⟩:=Y3 he
 obtain ⟨w,ew,rw'⟩:=r.get h2
 have hl:=r.length
 have hn:=Rf
 have fin:EP X pins σ Q w s:=⟨z,H,I,rw',q⟩
 by_cases h0:0<=i
 ·have hj:i.toNat=j:=by
   rw[rM h0 h5] at h1
   exact bN h1
  exact item_listR pl.isList h0 (by omega) (by rw[hj];simpa using ew) fin hs
 ·have hj:(i+(its.toArray.size:Int)).toNat=j:=by
   rw[qQ (by omega) h4] at h1
   rw[bC,<- hl]
   exact bN h1
  exact nN (x:=w) pl.isList.typeIs mH.lookup
   (wpAny_getItem_list_neg (Q:=fun r s'=>r=w/\EP X pins σ Q r s') pl.isList (by omega) (by rw[bC] <;> omega) (by omega) (by rw[hj];simpa using ew) ⟨rfl,fin⟩) hs
theorem Avi:IxR X (rIxT X.K):=by
 intro value slice pins s σ H x y v u Q I rx ry h hs
 obtain ⟨p,xs,i,z,rfl,rfl,hq,he,q⟩:=h
 cases rx
 obtain ⟨t,rfl⟩:=ry
 obtain ⟨its,r,pl,hz⟩:=I.tuple hq
 obtain ⟨j,h1,h2,h3,h4,h5⟩:=Y3 he
 obtain ⟨w,ew,rw'⟩:=r.get h2
 have hl:=r.length
 have hn:=Rf
 have fin:EP X pins σ Q w s:=⟨z,H,I,rw',q⟩
 exact nN (x:=w) pl.typeIs slot_tuple_getitem.lookup
  (getItem_tuple (j:=j) (Q:=fun r s'=>r=w/\EP X pins σ Q r s') pl (by omega) (by omega) (by rw[bC,<- hl];exact h1) (by simpa using ew) ⟨rfl,fin⟩) hs
theorem Ava:IxR X Aw5:=by
 intro value slice pins s σ H x y v u Q I rx ry h hs
 obtain ⟨z,i,c,rfl,rfl,hz,he,q⟩:=h
 obtain ⟨t,rfl⟩:=rx
 obtain ⟨t',rfl⟩:=ry
 obtain ⟨j,h1,h2,h3,h4,h5⟩:=Y3 he
 have hl:z.cps.toList.length=z.length:=by simp[pY]
 rw[hl] at h1 h4 h5
 have hn:=Rf
 exact tail_any (lU s z t) slot_str_getitem.lookup (getItem_str (c:=c) (by
  have e1:decide (i < -(2 ^ 63:Int))=false:=decide_eq_false (by omega)
  have e2:decide (i ≥ 2 ^ 63)=false:=decide_eq_false (by omega)
  rw[e1,e2,sQ]) (by rw[h1];simpa using h2) ⟨.str ⟨#[c]⟩,H,I.tok _,⟨_,rfl⟩,q⟩) hs
def rIx(K:aE):R2:=fun x y H Q=>rIxL K x y H Q\/rIxT K x y H Q\/Aw5 x y H Q
theorem Au:IxR X (rIx X.K):=Ao8.or (Avi.or Ava)
theorem Ady(its:List aF)(n j:Nat)(u:aF):dG (·.setIfInBounds j u) { cls:=.type "list",data:=.seq its.toArray n } = { cls:=.type "list",data:=.seq (its.set j u).toArray n }:=by
 simp[dG]
theorem Inv.lst{p:Addr}(I:Inv X pins σ H s)(h:H p=some (.lst xs)) :
  ∃ (its:List aF) (n:Nat),Vals xs its/\s.heap.get? p=some { cls:=.type "list",data:=.seq its.toArray n }/\xs.length<=sizeLine:=by
 obtain ⟨z,its,n,r,e⟩:=I.hok p _ h
 exact ⟨its,n,r,e,z⟩
theorem Inv.lstUpd{p:Addr}{ys:List V}{its':List aF}{n':Nat}{f:Obj->Obj}(I:Inv X pins σ H s)(h:H p=some (.lst xs))
  (ho:s.heap.get? p=some { cls:=.type "list",data:=.seq its.toArray n }) (hf:f { cls:=.type "list",data:=.seq its.toArray n } = { cls:=.type "list",data:=.seq its'.toArray n' }) (r:Vals ys its') (hz:ys.length<=sizeLine) (t:Nat) :
  Inv X pins σ (upd H p (.lst ys)) { s with heap:=s.heap.update p f,toks:=t }:=by
 have e:(s.heap.update p f).get? p=some { cls:=.type "list",data:=.seq its'.toArray n' }:=by
  rw[dQ f ho (by rw[hf] <;> rfl),hf]
 refine I.write (x:=p) (e:=p) (by rw[h];trivial) (.inl rfl) (fun b u hb q=>(eV _ _ (gX hb)).trans q) ⟨_,e⟩ ?_
 exact ⟨hz,its',n',r,e⟩
def Axg:V->V->V->Hp->(Hp->Prop)->Prop:=fun o i v H Q=>∃ p xs k j,o = .ref p/\i = .int k/\H p=some (.lst xs)/\ixN xs.length k=some j/\Q (upd H p (.lst (xs.set j v)))
theorem Ann:A0i X Axg:=by
 intro pins s σ H o i v ov iv u Q I ro ri rv h
 obtain ⟨p,xs,k,j,rfl,rfl,hp,hj,q⟩:=h
 cases ro
 obtain ⟨t,rfl⟩:=ri
 obtain ⟨its,n,r,ho,hz⟩:=I.lst hp
 obtain ⟨h1,h2,h3,h4⟩:=Af2 hj
 have hl:=r.length
 have hn:=Rf
 have I':Inv X pins σ (upd H p (.lst (xs.set j v))) { s with heap:=s.heap.update p (dG (·.setIfInBounds j u)) }:=
  I.lstUpd hp ho (Ady its n j u) (r.set rv j) (by rw[nY];exact hz) s.toks
 by_cases h0:0<=k
 ·have hk:k.toNat=j:=by
   rw[rM h0 h4] at h1
   exact bN h1
  exact PySem.W.ki_setAt ho h0 (by omega) (by rw[bC,<- hl];exact h4) (by rw[hk];exact ⟨_,I',q⟩)
 ·have hk:(k+(its.toArray.size:Int)).toNat=j:=by
   rw[qQ (by omega) h3] at h1
   rw[bC,<- hl]
   exact bN h1
  exact PySem.W.ki_setBack ho (by omega) (by rw[bC,<- hl];exact h3) (by omega) (by rw[hk];exact ⟨_,I',q⟩)
theorem Ahd(i:Int)(n:Nat):max 0 (min (if i < 0 then i+(n:Int) else i) (n:Int))=(((if i < 0 then (i+(n:Int)).toNat else min i.toNat n):Nat):Int):=by
 by_cases h:i < 0
 ·have hm:i+(n:Int)<=n:=by omega
  rw[if_pos h,if_pos h,rN hm,Int.ofNat_toNat,Int.max_comm]
 ·obtain ⟨k,rfl⟩:=Int.eq_ofNat_of_zero_le (Int.not_lt.mp h)
  rw[if_neg h,if_neg h,fK]
  rcases Nat.le_total k n with hk | hk
  ·rw[nZ hk,rN (sW.mpr hk),rC (pZ k)]
  ·rw[nA hk,Int.min_eq_right (sW.mpr hk),rC (pZ n)]
theorem Aan(lo hi:Option Int)(n:Nat):(sliceBounds lo hi none n).1=((HT.sIx n 0 lo:Nat):Int)/\(sliceBounds lo hi none n).2.1=((HT.sIx n n hi:Nat):Int)/\(sliceBounds lo hi none n).2.2=1:=by
 refine ⟨?_,?_,rfl⟩
 ·cases lo with
  | none=>rfl
  | some i=>exact Ahd i n
 ·cases hi with
  | none=>rfl
  | some i=>exact Ahd i n
theorem Wj(its:List aF)(lo hi:Option Int):slicePick its.toArray lo hi none=((its.drop (HT.sIx its.length 0 lo)).take (HT.sIx its.length its.length hi - HT.sIx its.length 0 lo)).toArray:=by
 obtain ⟨h1,h2,h3⟩:=Aan lo hi its.toArray.size
 unfold slicePick
 rw[h1,h2,h3]
 simp only[sliceRange_one,pick_run,bC] <;> rfl
def Ayz(K:aE):V->Option Int->Option Int->Hp->VK->Prop:=fun x lo hi H Q=>∃ a xs,x = .ref a/\SqL K H a xs/\∀ p,H p=none->Q (.ref p) (upd H p (.lst (Abx xs lo hi)))
theorem Aoe:SlR X (Ayz X.K):=by
 intro pins s σ H x v vl vu lo hi sl Q I rx hs pl pu h
 obtain ⟨a,xs,rfl,hx,q⟩:=h
 cases rx
 obtain ⟨its,r,ht,hz⟩:=I.list hx
 have hlen:=r.length
 refine ⟨"list",_,mH.lookup,ht.isList.typeIs,?_⟩
 refine jG ht.isList hs pl pu .none (by simp) ?_ (by rw[bC] <;> omega)
 rw[Wj,<- hlen]
 refine ⟨.ref s.heap.objs.size,_,I.laid (t':=s.toks) (o:=.lst (Abx xs lo hi)) (fun b ob q=>aB _ q) (aZ _) ?_,rfl,q _ (I.hok.fresh (aZ _))⟩
 exact ⟨cB (R4 xs lo hi) hz,_,0,(r.drop (HT.sIx xs.length 0 lo)).take (HT.sIx xs.length xs.length hi - HT.sIx xs.length 0 lo),aM _ rfl⟩
def Ov:V->Bool
 | .non=>true
 | .bl _=>true
 | .int _=>true
 | .str _=>true
 | _=>false
def eqV:V->V->Bool
 | .non,.non=>true
 | .bl a,.bl b=>a == b
 | .bl a,.int b=>(if a then 1 else 0) == b
 | .int a,.bl b=>a == (if b then 1 else 0)
 | .int a,.int b=>a == b
 | .str a,.str b=>a == b
 | _,_=>false
theorem Aux{u:aF}(ry:RelV y u)(rx:RelV x v)(fy:Ov y=true)(fx:Ov x=true):tO A s u v (eqV y x):=by
 cases y with
 | non=>
  cases ry
  cases x with
  | non=>cases rx;exact tO.same _
  | bl b=>cases rx;exact tO.none_bool b
  | int b=>obtain ⟨t,rfl⟩:=rx;exact tO.none_int b t
  | str b=>obtain ⟨t,rfl⟩:=rx;exact tO.none_str b t
  | _=>exact absurd (show false=true from fx) dA
 | bl a=>
  cases ry
  cases x with
  | non=>cases rx;exact tO.bool_none a
  | bl b=>cases rx;exact tO.bool_bool a b
  | int b=>obtain ⟨t,rfl⟩:=rx;exact tO.bool_int a b t
  | str b=>obtain ⟨t,rfl⟩:=rx;exact tO.bool_str a b t
  | _=>exact absurd (show false=true from fx) dA
 | int a=>
  obtain ⟨t',rfl⟩:=ry
  cases x with
  | non=>cases rx;exact tO.int_none a t'
  | bl b=>cases rx;exact tO.int_bool a t' b
  | int b=>obtain ⟨t,rfl⟩:=rx;exact tO.int_int a t' b t
  | str b=>obtain ⟨t,rfl⟩:=rx;exact pQ a t' b t
  | _=>exact absurd (show false=true from fx) dA
 | str a=>
  obtain ⟨t',rfl⟩:=ry
  cases x with
  | non=>cases rx;exact tO.str_none a t'
  | bl b=>cases rx;exact tO.str_bool a t' b
  | int b=>obtain ⟨t,rfl⟩:=rx;exact pR a t' b t
  | str b=>obtain ⟨t,rfl⟩:=rx;exact tO.str_str a t' b t
  | _=>exact absurd (show false=true from fx) dA
 | _=>exact absurd (show false=true from fy) dA
def eqU(x:V)(u:aF):Bool:=match u with
 | .none=>eqV .non x
 | .bool b=>eqV (.bl b) x
 | .int i _=>eqV (.int i) x
 | .str z _=>eqV (.str z) x
 | _=>false
theorem Alh{u:aF}(r:RelV y u)(f:Ov y=true):eqU x u=eqV y x:=by
 cases y with
 | non=>cases r;rfl
 | bl b=>cases r;rfl
 | int i=>obtain ⟨t,rfl⟩:=r;rfl
 | str z=>obtain ⟨t,rfl⟩:=r;rfl
 | _=>exact absurd (show false=true from f) dA
theorem Tb(h:Vals xs us)(f:xs.all Ov=true):us.any (eqU x)=xs.any fun y=>eqV y x:=by
 induction h with
 | nil=>rfl
 | cons r t ih=>
  rw[pM,cJ] at f
  rw[eQ,eQ,Alh r f.1,ih f.2]
theorem Mo(rx:RelV x v)(fx:Ov x=true):∀ {xs:List V} {us:List aF},Vals xs us->xs.all Ov=true->∀ u∈us,tO A s u v (eqU x u)
 | _,_,.nil,_=>fun u hu=>by cases hu
 | y::xs,u::us,.cons r t,f=>fun u' hu=>by
  rw[pM,cJ] at f
  rcases bL.mp hu with rfl | hu
  ·rw[Alh r f.1];exact Aux r rx f.1 fx
  ·exact Mo rx fx t f.2 u' hu
def inV(x:V)(xs:List V):Bool:=xs.any fun y=>eqV y x
def rIn(K:aE)(neg:Bool):R2:=fun x y H Q=>∃ p xs,y = .ref p/\(SqL K H p xs\/SqT K H p xs)/\Ov x=true/\xs.all Ov=true/\Q (.bl (if neg then !inV x xs else inV x xs)) H
theorem Ajp:OpR X (cX .In) (rIn X.K false):=by
 intro pins s σ H x y v u Q I rx ry h
 obtain ⟨p,xs,rfl,hq,fx,fs,q⟩:=h
 cases ry
 rcases hq with hq | hq
 ·obtain ⟨its,r,pl,hz⟩:=I.list hq
  refine SeqAt.in_listAt (eqU x) pl.isList (fun w hw=>Mo rx fx r fs w (by simpa using hw)) ⟨.bl _,H,I,rfl,?_⟩
  rw[show its.toArray.any (eqU x)=its.any (eqU x) by simp,Tb r fs]
  exact q
 ·obtain ⟨its,r,pl,hz⟩:=I.tuple hq
  refine SeqAt.in_tupleAt (eqU x) pl (fun w hw=>Mo rx fx r fs w (by simpa using hw)) ⟨.bl _,H,I,rfl,?_⟩
  rw[show its.toArray.any (eqU x)=its.any (eqU x) by simp,Tb r fs]
  exact q
theorem Yv:OpR X (cX .NotIn) (rIn X.K true):=by
 intro pins s σ H x y v u Q I rx ry h
 obtain ⟨p,xs,rfl,hq,fx,fs,q⟩:=h
 cases ry
 rcases hq with hq | hq
 ·obtain ⟨its,r,pl,hz⟩:=I.list hq
  refine SeqAt.notIn_listAt (eqU x) pl.isList (fun w hw=>Mo rx fx r fs w (by simpa using hw)) ⟨.bl _,H,I,rfl,?_⟩
  rw[show its.toArray.any (eqU x)=its.any (eqU x) by simp,Tb r fs]
  exact q
 ·obtain ⟨its,r,pl,hz⟩:=I.tuple hq
  refine SeqAt.notIn_tupleAt (eqU x) pl (fun w hw=>Mo rx fx r fs w (by simpa using hw)) ⟨.bl _,H,I,rfl,?_⟩
  rw[show its.toArray.any (eqU x)=its.any (eqU x) by simp,Tb r fs]
  exact q
theorem Aam:OpR X (cX .NotIn) (fun x y H Q=>∃ i j,x = .str i/\y = .str j/\Q (.bl (!(!(cI j i 0 j.length 1).isEmpty))) H):=by
 intro pins s σ H x y v u Q I rx ry h
 obtain ⟨i,j,rfl,rfl,q⟩:=h
 obtain ⟨t,rfl⟩:=rx
 obtain ⟨t',rfl⟩:=ry
 exact notIn_str ⟨.bl _,H,I,rfl,q⟩
theorem CallR.or{f:aF}{r r':List V->Hp->VK->Prop}(h:CallR X f r)(h':CallR X f r'):CallR X f (fun xs H Q=>r xs H Q\/r' xs H Q):=by
 intro pins s σ H xs us Q I rs q
 rcases q with q | q
 ·exact h pins s σ H xs us Q I rs q
 ·exact h' pins s σ H xs us Q I rs q
theorem Hj:CallR X (.type "tuple") (fun xs H Q=>∃ p ys,xs=[.ref p]/\((SqL X.K H p ys/\∀ l,H l=none->Q (.ref l) (upd H l (.tup ys)))\/(SqT X.K H p ys/\Q (.ref p) H))):=by
 intro pins s σ H xs us Q I r h
 obtain ⟨p,ys,rfl,h⟩:=h
 obtain ⟨u,rfl,rx⟩:=Qf r
 cases rx
 rcases h with ⟨hq,q⟩ | ⟨hq,q⟩
 ·obtain ⟨its,r',pl,hz⟩:=I.list hq
  have hlen:=r'.length
  refine call_tuple_list pl.isList (fun h' kp=>?_) (by simp only[bC] <;> omega)
  have I1:Inv X pins σ H { s with heap:=h' }:=I.kept (t':=s.toks) kp
  have I2:Inv X pins σ (upd H h'.objs.size (.tup ys)) { s with heap:=h'.push { cls:=.type "tuple",data:=.seq its.toArray } }:=
   I1.laid (t':=s.toks) (fun b o e=>aB _ e) (aZ _) (show ObjOk X.prog X.w _ _ _ (.tup ys) from ⟨hz,its,r',TupN.new _ _⟩)
  exact ⟨.ref h'.objs.size,_,I2,rfl,q _ (I1.hok.fresh (aZ _))⟩
 ·obtain ⟨its,r',pl,hz⟩:=I.tuple hq
  exact call_tuple_same pl ⟨.ref p,H,I,rfl,q⟩
def tyV(K:aE)(T:String)(x:V)(H:Hp):Prop:=match x with
 | .str _=>T = "str"
 | .int _=>T = "int"
 | .ref p=>(T = "list" /\ ∃ xs,SqL K H p xs)\/(T = "tuple" /\ ∃ xs,SqT K H p xs) \/
   (T = "dict" /\ ((∃ kvs,H p=some (.dK kvs))\/∃ kvs,H p=some (.dT kvs)))\/(T = "set" /\ ∃ S n,H p=some (.set S n))
 | _=>False
theorem Alo{T:String}(I:Inv X pins σ H s)(r:RelV x v)(ty:tyV X.K T x H) :
  s.TypeIs v T/\∀ a,v = .ref a->∃ ob,s.heap.get? a=some ob/\ob.dict=none:=by
 cases x with
 | str z=>
  obtain ⟨t,rfl⟩:=r
  cases (show T = "str" from ty)
  exact ⟨lU s z t,fun _ e=>nomatch e⟩
 | int i=>
  obtain ⟨t,rfl⟩:=r
  cases (show T = "int" from ty)
  exact ⟨sD s i t,fun _ e=>nomatch e⟩
 | ref p=>
  cases r
  rcases ty with ⟨rfl,xs,hq⟩ | ⟨rfl,xs,hq⟩ | ⟨rfl,hk⟩ | ⟨rfl,S,n,hk⟩
  ·obtain ⟨its,_,pl,_⟩:=I.list hq
   refine ⟨pl.isList.typeIs,fun a e=>?_⟩
   cases e
   obtain ⟨o,n,e,c,hd,_⟩:=pl
   exact ⟨o,e,hd⟩
  ·obtain ⟨its,_,⟨o,ho,hc,_⟩,_⟩:=I.tupleN hq
   obtain ⟨h1,h2⟩:=oS hc
   refine ⟨⟨o,ho,h1⟩,fun a e=>?_⟩
   cases e
   exact ⟨o,ho,h2⟩
  ·have z:∃ o,s.heap.get? p=some o/\o.ExactDict:=by
    rcases hk with ⟨kvs,hk⟩ | ⟨kvs,hk⟩
    ·obtain ⟨_,_,_,_,o,_,_,e,ex,_⟩:=I.hok p _ hk
     exact ⟨o,e,ex⟩
    ·obtain ⟨_,_,_,_,o,_,_,e,ex,_⟩:=I.hok p _ hk
     exact ⟨o,e,ex⟩
   obtain ⟨o,e,ex⟩:=z
   refine ⟨⟨o,e,ex.1⟩,fun a e2=>?_⟩
   cases e2
   exact ⟨o,e,ex.2.1⟩
  ·obtain ⟨o,_,_,_,e,ex,_⟩:=I.hok p _ hk
   refine ⟨⟨o,e,ex.1⟩,fun a e2=>?_⟩
   cases e2
   exact ⟨o,e,ex.2.1⟩
 | _=>exact eT ty
def A0o(K:aE)(T:String)(r:V->List V->Hp->VK->Prop)(to:TE):TE:=fun σ H Q=>to σ H fun x H1=>tyV K T x H1/\r x [] H1 Q
def tBM(K:aE)(T:String)(r:V->List V->Hp->VK->Prop)(to:TE)(t:TA):TE:=fun σ H Q=>to σ H fun x H1=>tyV K T x H1/\t σ H1 fun xs H2=>r x xs H2 Q
variable {o e:Expr}{es:List Expr}{to:TE}{t:TA}{name:Str}{apos cpos:Pos}{T id:String}{r:V->List V->Hp->VK->Prop}
theorem Aui(pa:qA T)(slot:Slot T name id)(hty:typeOf (.builtin id)=pure (.type "method_descriptor"))(hm:MtR X id r)(ho:PE X o to)
  (hbase:attributeBase o name X.env (eval o X.env)=eval o X.env:=by rfl) (hline:(apos.endLine == cpos.line)=true:=by rfl):PE X (.Call (.Attribute o name apos) [] [] cpos) (A0o X.K T r to):=by
 intro pins s σ H Q I h
 refine wpAny_Call_method0_late hbase hline (thn (ho pins s σ H _ I h) fun v s1 zz=>?_)
 obtain ⟨x,H1,I1,r1,ty,q1⟩:=zz
 obtain ⟨h1,h2⟩:=Alo I1 r1 ty
 exact ⟨T,id,pa,slot,hty,h1,h2,eW rfl (kW (hm pins s1 σ H1 x [] v [] Q I1 r1 .nil q1))⟩
theorem A0x(pa:qA T)(slot:Slot T name id)(hty:typeOf (.builtin id)=pure (.type "method_descriptor"))(hm:MtR X id r)(ho:PE X o to)(ha:PA X (e::es) t)
  (hbase:attributeBase o name X.env (eval o X.env)=eval o X.env:=by rfl)
  (hfew:((backTo cpos (aT (e::es) X.env)).all (fun x=>!x.1)&&(backToKw cpos (keywordEach [] X.env)).all (fun x=>x.1.isSome)
   && decide ((e::es).length+([]:List iP).length+(if ([]:List iP).isEmpty then 0 else 1) < 30))=true:=by rfl)
  (hline:(apos.endLine == cpos.line)=true:=by rfl) (hs:aT (e::es) X.env=(false,eval e X.env)::aT es X.env:=by rfl) (hplain:(backTo cpos (aT es X.env)).any (·.1)=false:=by rfl) :
  PE X (.Call (.Attribute o name apos) (e::es) [] cpos) (tBM X.K T r to t):=by
 intro pins s σ H Q I h
 refine wpAny_Call_method_late hbase hfew hline rfl (thn (ho pins s σ H _ I h) fun v s1 zz=>?_)
 obtain ⟨x,H1,I1,r1,ty,q1⟩:=zz
 obtain ⟨h1,h2⟩:=Alo I1 r1 ty
 refine ⟨T,id,pa,slot,hty,h1,h2,?_⟩
 have hA:=ha cpos pins s1 σ H1 _ I1 q1
 rw[hs] at hA ⊢
 refine eW (by show (false || (backTo cpos (aT es X.env)).any (·.1))=false;rw[hplain] <;> rfl) (kL ?_)
 exact thn hA fun us s2 zz=>by obtain ⟨vs,H2,I2,r2,q2⟩:=zz;exact hm pins s2 σ H2 x vs v us Q I2 r1 r2 q2
end
def MtM(X:Cx)(id:String)(r:V->List V->Hp->VK->Prop):Prop:=
 ∀ (pins:List (Addr×Obj)) (s:aJ) (σ:St) (H:Hp) (x:V) (xs:List V) (v:aF) (us:List aF) (Q:VK),Inv X pins σ H s->RelV x v->Vals xs us->r x xs H Q ->
  wpAny (model X.prog X.w) X.A (call (.builtin id) (v::us)) (EP X pins σ Q) X.xe s
theorem Vals.one(h:Vals [x] us):∃ u,us=[u]/\RelV x u:=by
 cases h with
 | cons r t=>cases t;exact ⟨_,rfl,r⟩
theorem Vals.two(h:Vals [x,y] us):∃ u v,us=[u,v]/\RelV x u/\RelV y v:=by
 cases h with
 | cons r t=>obtain ⟨v,rfl,q⟩:=Vals.one t;exact ⟨_,v,rfl,r,q⟩
theorem Vals.zero:∀ {us:List aF},Vals [] us->us=[]
 | _,.nil=>rfl
theorem Vals.dropLast(h:Vals xs us):Vals xs.dropLast us.dropLast:=by
 induction h with
 | nil=>exact .nil
 | cons r t ih=>
  cases t with
  | nil=>exact .nil
  | cons q t'=>exact .cons r ih
theorem Vals.eraseIdx(i:Nat)(h:Vals xs us):Vals (xs.eraseIdx i) (us.eraseIdx i):=by
 induction h generalizing i with
 | nil=>exact .nil
 | cons r t ih=>
  cases i with
  | zero=>exact t
  | succ i=>exact .cons r (ih i)
theorem Vals.reverse(h:Vals xs us):Vals xs.reverse us.reverse:=by
 induction h with
 | nil=>exact .nil
 | cons r t ih=>rw[dS,dS];exact Vals.append ih (.cons r .nil)
theorem Vals.rep(h:Vals xs us):∀ k:Nat,Vals (bM k xs).flatten (bM k us).flatten
 | 0=>.nil
 | k+1=>by
  rw[fB,fB,gL,gL]
  exact Vals.append h (Vals.rep h k)
theorem Xa{α:Type}:∀ (l:List α) (i:Nat),(l.eraseIdx i).length<=l.length
 | [],_=>aZ _
 | _::_,0=>rL _
 | _::r,i+1=>Nat.succ_le_succ (Xa r i)
theorem X6(its:List aF):∀ (k:Nat) (acc:List aF),
  sE (fun x1 x2=>x1++x2) acc.toArray (bM k its.toArray)=(acc++(bM k its).flatten).toArray
 | 0,acc=>by simp
 | k+1,acc=>by
  have e:acc.toArray++its.toArray=(acc++its).toArray:=by simp
  have e2:(acc++its)++(bM k its).flatten=acc++(bM (k+1) its).flatten:=by
   rw[fB,gL,bH]
  rw[<- e2,<- X6 its k (acc++its),<- e,fB,oA]
section
variable {l b:Addr}{ys zs:List V}
theorem Inv.lset{its':List aF}{f:Array aF->Array aF}{t':Nat}(I:Inv X pins σ H s)(hH:H l=some (.lst xs))
  (e:s.heap.get? l=some { cls:=.type "list",data:=.seq its.toArray n }) (hf:f its.toArray=its'.toArray) (hv:Vals ys its') (hz:ys.length<=sizeLine) :
  Inv X pins σ (upd H l (.lst ys)) { s with heap:=s.heap.update l (dG f),toks:=t' }:=by
 have q:=PySem.IsL.update e f
 rw[hf] at q
 refine I.write (x:=l) (e:=l) (by rw[hH];exact trivial) (.inl rfl) (fun b' u hb hu=>(eV s.heap (dG f) (gX hb)).trans hu) ⟨_,q⟩ ?_
 exact ⟨hz,its',_,hv,q⟩
theorem Inv.lnew{t':Nat}(I:Inv X pins σ H s)(hv:Vals ys its)(hz:ys.length<=sizeLine) :
  Inv X pins σ (upd H s.heap.objs.size (.lst ys)) { s with heap:=s.heap.push { cls:=.type "list",data:=.seq its.toArray },toks:=t' }:=
 I.laid (fun _ _ q=>aB _ q) (aZ _) ⟨hz,its,0,hv,aM _ rfl⟩
theorem Inv.fresh(I:Inv X pins σ H s):H s.heap.objs.size=none:=I.hok.fresh (aZ _)
theorem Inv.lstM(I:Inv X pins σ H s)(hH:H l=some (.lst xs)):xs.length<=sizeLine/\∃ (its:List aF) (n:Nat),Vals xs its/\xs.length=its.length/\s.heap.get? l=some { cls:=.type "list",data:=.seq its.toArray n }:=by
 obtain ⟨z,its,n,r,e⟩:=I.hok l _ hH
 exact ⟨z,its,n,r,r.length,e⟩
theorem Am9(h:n<=sizeLine):jH n=false:=by
 unfold jH
 exact decide_eq_false (by omega)
end
section
def Ago:V->List V->Hp->VK->Prop:=fun x vs H Q=>∃ l xs y,x = .ref l/\vs=[y]/\H l=some (.lst xs)/\xs.length < sizeLine/\Q .non (upd H l (.lst (xs++[y])))
theorem Kt:MtM X "list.append" Ago:=by
 intro pins s σ H x vs v us Q I rx rv h
 obtain ⟨l,xs,y,rfl,rfl,hH,hz,q⟩:=h
 cases rx
 obtain ⟨u,rfl,ru⟩:=rv.one
 obtain ⟨z,its,n,r,hl,e⟩:=I.lstM hH
 refine jQ F.slot_list_append ⟨_,e,rfl⟩ F.entry_list_append (F.args_list_append_2 _ _) (PySem.list_append l its.toArray n u (by rw[bC];omega)) ⟨e,?_⟩
 refine ⟨.non,_,I.lset (its':=its++[u]) hH e (by simp) (r.append (.cons ru .nil)) ?_,rfl,q⟩
 rw[cM,List.length_singleton]
 omega
inductive rPop  (x:V) (vs:List V) (H:Hp) (Q:VK):Prop
 | mk (l:_) (xs:_) (y:_) (h0:x = .ref l) (h1:vs=[]) (h2:H l=some (.lst xs)) (h3:xs[xs.length - 1]? = some y) (h4:Q y (upd H l (.lst xs.dropLast))):rPop  x vs H Q
inductive rPopAt  (x:V) (vs:List V) (H:Hp) (Q:VK):Prop
 | mk (l:_) (xs:_) (i:_) (k:_) (y:_) (h0:x = .ref l) (h1:vs=[.int i]) (h2:H l=some (.lst xs)) (h3:-(2 ^ 63)<=i) (h4:i < 2 ^ 63) (h5:seqIndex? i xs.length=some k) (h6:xs[k]? = some y) (h7:Q y (upd H l (.lst (xs.eraseIdx k)))):rPopAt  x vs H Q
theorem Alr:MtM X "list.pop" rPopAt:=by
 intro pins s σ H x vs v us Q I rx rv h
 obtain ⟨l,xs,i,k,y,rfl,rfl,hH,h1,h2,hk,hy,q⟩:=h
 cases rx
 obtain ⟨u,rfl,ru⟩:=rv.one
 obtain ⟨t,rfl⟩:=ru
 obtain ⟨z,its,n,r,hl,e⟩:=I.lstM hH
 obtain ⟨w,hw,rw'⟩:=r.get hy
 refine jQ F.slot_list_pop ⟨_,e,rfl⟩ F.entry_list_pop (F.args_list_pop_2 _ _)
  (MeetsSeq.list_pop_at l its.toArray n i t k w (fitsIndex_both h1 h2) (by rw[bC,<- hl];exact hk) (by rw[<- kA];exact hw) (by rw[bC];omega)) ⟨e,?_⟩
 refine ⟨y,_,I.lset (its':=its.eraseIdx k) hH e ?_ (r.eraseIdx k) ?_,rw',q⟩
 ·show its.toArray.eraseIdxIfInBounds k=(its.eraseIdx k).toArray
  rw[List.eraseIdxIfInBounds_toArray]
 ·have:=Xa xs k
  omega
def rClear:V->List V->Hp->VK->Prop:=fun x vs H Q=>∃ l xs,x = .ref l/\vs=[]/\H l=some (.lst xs)/\Q .non (upd H l (.lst []))
inductive rCat  (x y:V) (H:Hp) (Q:VK):Prop
 | mk (l:_) (b:_) (xs:_) (zs:_) (h0:x = .ref l) (h1:y = .ref b) (h2:H l=some (.lst xs)) (h3:H b=some (.lst zs)) (h4:xs.length+zs.length<=sizeLine) (h5:∀ p,H p=none->Q (.ref p) (upd H p (.lst (xs++zs)))):rCat  x y H Q
theorem Au8:OpR X (gE .Add) rCat:=by
 intro pins s σ H x y v u Q I rx ry h
 obtain ⟨l,b,xs,zs,rfl,rfl,hH,hB,hz,q⟩:=h
 cases rx
 cases ry
 obtain ⟨z,its,n,r,hl,e⟩:=I.lstM hH
 obtain ⟨z2,its2,n2,r2,hl2,e2⟩:=I.lstM hB
 refine PySem.P.add_list e e2 ?_ (by rw[bC,bC];omega)
 have ea:its.toArray++its2.toArray=(its++its2).toArray:=by simp
 rw[ea]
 exact ⟨.ref _,_,I.lnew (t':=s.toks) (r.append r2) (by rw[cM];omega),rfl,q _ I.fresh⟩
inductive rRep  (x y:V) (H:Hp) (Q:VK):Prop
 | mk (l:_) (k:_) (xs:_) (h0:x = .ref l) (h1:y = .int k) (h2:H l=some (.lst xs)) (h3:-(2 ^ 63)<=k) (h4:k < 2 ^ 63) (h5:xs.length * k.toNat<=sizeLine) (h6:∀ p,H p=none->Q (.ref p) (upd H p (.lst (bM k.toNat xs).flatten))):rRep  x y H Q
theorem Apf{α:Type}(xs:List α)(k:Nat):(bM k xs).flatten.length=k * xs.length:=by
 induction k with
 | zero=>simp
 | succ k ih=>rw[fB,gL,cM,ih,Nat.succ_mul,Nat.add_comm]
theorem Auf:OpR X (gE .Mult) rRep:=by
 intro pins s σ H x y v u Q I rx ry h
 obtain ⟨l,k,xs,rfl,rfl,hH,h1,h2,hz,q⟩:=h
 cases rx
 obtain ⟨t,rfl⟩:=ry
 obtain ⟨z,its,n,r,hl,e⟩:=I.lstM hH
 have hlen:its.toArray.size * k.toNat<=sizeLine:=by rw[bC,<- hl];exact hz
 have hcap:¬ its.toArray.size * k.toNat > (2 ^ 63 - 1) / 8:=by
  have:(sizeLine:Nat)<=(2 ^ 63 - 1) / 8:=by decide
  omega
 have hfit:¬ (!Builtin.List.listFitsIndex k)=true:=by
  rw[fitsIndex_both h1 h2]
  exact dA
 have hlong:¬ jH (its.toArray.size * k.toNat)=true:=by
  rw[Am9 hlen]
  exact dA
 have hnew:sE (fun x1 x2=>x1++x2) #[] (bM (if its.toArray.isEmpty=true then 0 else k.toNat) its.toArray)=(bM k.toNat its).flatten.toArray:=by
  have f0:∀ m:Nat,sE (fun x1 x2=>x1++x2) #[] (bM m its.toArray)=(bM m its).flatten.toArray:=fun m=>by
   have:=X6 its m []
   rw[kP] at this
   exact this
  rw[f0]
  cases its with
  | nil=>simp
  | cons a r'=>rw[if_neg (by simp)]
 refine wpAny_binaryOp_repeat_ref (T := "list") (U := "int") (by decide) ⟨_,e,rfl⟩ (fun s'=>sD s' k t) noFill_list_mul F.fills_int_mul rO repeat_list F.slot_int_index.lookup
  (jQ rO (sD s k t) F.entry_int_rmul (F.args_int_rmul_2 _ _) (int___rmul___int_list k t l its.toArray n)
   ⟨e,rfl,⟨_,e,rfl⟩,jQ F.slot_list_mul ⟨_,e,rfl⟩ F.entry_list_mul (F.args_list_mul_2 _ _) (AutoListH.list___mul___list_int_3 l its.toArray n k t hfit hcap hlong) ⟨e,?_⟩⟩)
 rw[hnew]
 exact ⟨.ref _,_,I.lnew (t':=s.toks) (r.rep k.toNat) (by rw[Apf,sX];exact hz),rfl,q _ I.fresh⟩
end
section
variable {prog:bT}{w:cC}{E:aF->aJ->Prop}
end
end L2
namespace Att
open PySem PySem.W PySem.Calls PyProof.Rows
theorem Su{P:mO}{h:Heap}:∀ (ns:List Int) (vs:List aF),WellAll P h vs (ns.map WData.int)->lC vs ns:=by
 intro ns
 induction ns with
 | nil=>
  intro vs w
  rw[bG] at w
  cases w
  exact .nil
 | cons n ns ih=>
  intro vs w
  rw[aI] at w
  cases w with
  | cons a b=>
   cases a
   exact .cons _ _ (ih _ b)
theorem Aj0{l:kM}{n:Nat}(hn:l.most=some n){P:mO}{h:Heap}{args:List WData}{vals:List aF}
  (hpre:l.row.toRowW.claim.pre args=true) (hwl:WellAll P h vals args) :
  ∃ a vs ns,vals=[bO a]/\args=[WData.list (ns.map WData.int)]/\h.get? a=some { cls:=.type "list",data:=.seq vs.toArray }/\lC vs ns/\ns.length<=n:=by
 have hsh:WShape.hasAll [] args [.list .int]=true:=(pre_splitW hpre).1
 have hc:l.pre.holds [] { args:=args } = true:=(pre_splitW hpre).2
 obtain ⟨d,r,rfl,h1,h2⟩:=hasAllW_cons hsh
 obtain rfl:=hasAllW_nil h2
 obtain ⟨xs,rfl,h3⟩:=hasW_list h1
 obtain ⟨ns,rfl⟩:=items_int h3
 have hlen:ns.length<=n:=by
  unfold kM.pre at hc
  have h4:(WTm.not (.lt (.lit (.int (n:Int))) (.len (.arg 0)))).holds [] { args:=[.list (ns.map .int)] } = true:=by
   have h4:=(holds_andW hc).1
   rw[hn] at h4
   exact h4
  have h5:=condW_of h4 (w_not (w_lt w_lit (w_len_list (w_arg rfl))))
  rw[aU] at h5
  refine Nat.le_of_not_lt fun q=>?_
  have q':(n:Int) < ((ns.length:Nat):Int):=by omega
  first
   | (rw[decide_eq_true q'] at h5;exact absurd h5 (by decide))
   | (simp at h5;omega)
 cases hwl with
 | cons w1 w2=>
  cases w2
  cases w1 with
  | list ho hall=>exact ⟨_,_,ns,rfl,rfl,ho,Su ns _ hall,hlen⟩
theorem Ai8(l:kM)(args:List WData):l.row.toRowW.claim.post args (.bool true) args=true:=
 postW_of (r:=l.row.toRowW) (X:=(true == true))
  (show tP [] (.bool true) .bool=true by first | rfl | decide | simp[tP,WShape.arms,WShape.armsAll])
  (show (WTm.eq .res (.lit (.bool true))).value [] { args:=args,res:=some (.bool true),after:=args } = some (.bool (true == true)) from w_eq_bool (w_res rfl) w_lit) rfl
theorem Acd{l:kM}{n:Nat}{q:bT}{loose:List Str}{XP:(Str->Option aF)->Heap->Prop}{YP:cC->Heap->Prop}{d:DefRec}
  (hn:l.most=some n) (hdf:d.params.defaults=[])
  (call:∀ (w:cC) (s₀ s₁:aJ) (mg mb:Str->Option aF) (fa:Addr) (o:Obj) (pm cd doc:aF) (a:Addr) (vs:List aF) (ns:List Int),
   Ground q loose [] XP w s₀ mg mb s₁.heap->YP w s₁.heap ->
   s₁.heap.get? fa=some o->o.data = .func (docDef d.name d.params d.body d.scope pm cd doc)->s₁.heap.CodeRec cd d.name->mg d.name=some (.ref fa) ->
   s₁.heap.get? a=some { cls:=.type "list",data:=.seq vs.toArray }->lC vs ns->ns.length<=n->s₁.gens=#[] ->
   jV (model l.prog w) callerA (.call (.ref fa) ⟨[.ref a],[]⟩) (fun r s'=>r = .ok (.ret (.bool true))/\OldK s₁.heap s'.heap/\s'.os=s₁.os/\kX s'.gens) s₁) :
  WalkO q loose XP YP l.row.toRowW d [] (fun f vs=>sF f vs):=by
 intro w s₀ s₁ mg mb G Y fa o pm cd doc dV kV ho hd hcd hD hmg hg args vals as hpre hlay hrd hwl hlo
 obtain rfl:dV = .none:=Dflts.none hD hdf
 obtain rfl:kV = .none:=Dflts.noKw hD
 obtain ⟨a,vs,ns,rfl,rfl,hobj,hints,hlen⟩:=Aj0 hn hpre hwl
 refine enter_call (nK (call w s₀ s₁ mg mb fa o pm cd doc a vs ns G Y ho (fd_plain hd) hcd hmg hobj hints hlen hg) fun r s' hq=>?_)
 obtain ⟨rfl,h2,h3,h4⟩:=hq
 exact ⟨.inl ⟨.bool true,.bool true,[],rfl,fun _=>rfl,.bool true,Ai8 l _,fun _=>⟨List.Pairwise.nil,fun _ hm=>(nomatch hm)⟩⟩,h2,h3,h4⟩
section
variable {prog:bT}{w:cC}{A:eD}{E:aF->aJ->Prop}{s:aJ}{K:Frag}
end
end Att
namespace L2
open PySem PySem.Spec PyProof.Rows
theorem Ahw{vs:List aF}{ns:List Int}(h:lC vs ns):Vals (ns.map V.int) vs:=by
 induction h with
 | nil=>exact .nil
 | cons n t h ih=>exact .cons ⟨t,rfl⟩ ih
def Aqf(H:Hp):Prop:=∀ b,H b=none\/∃ o xs,H b=some (.frz o (.lst xs))
variable {P:bT}{w:cC}{K:aE}{a:Addr}{fd:dW}{x:Str}
theorem Ams{mg mb:Str->Option aF}{CX:CXT}{k:Nat}{fa:Addr}{sp:Sp}{s₁:aJ}{vs:List aF}{ns:List Int}
  (KX:K.In s₁.heap) (hns:s₁.heap.Ns bQ mg) (hb:s₁.heap.Ns pU mb) (hbb:∀ x:Str,x ≠ "__name__" -> mb x=eA x) (hlim:s₁.heap.NoLimit) (hg:s₁.gens=#[])
  (ha:s₁.heap.get? a=some { cls:=.type "list",data:=.seq vs.toArray }) (hi:lC vs ns) (hl:ns.length<=sizeLine) (hr:Room k callerA)
  (F:∀ base:Heap,K.In base->base.Ns bQ mg->FnOk P w K mg base CX k fa fd [x] sp) (hbind:∀ (s:aJ) (u:aF),kZ s fd ⟨[u],[]⟩ [(x,u)])
  (hsp:∀ H:Hp,Aqf H->SqL K H a (ns.map V.int)->sp [.ref a] H (fun v _=>v = .bl true) fun _ _ _=>False)
  (hCX:∀ H e s',CX [] H s₁ (fun _ _ _=>False) e s'->False) :
  jV (model P w) callerA (.call (.ref fa) ⟨[.ref a],[]⟩) (fun r s'=>r = .ok (.ret (.bool true))/\OldK s₁.heap s'.heap/\s'.os=s₁.os/\kX s'.gens) s₁:=by
 have rv:=Ahw hi
 have lenV:=hi.length
 have core:∀ H:Hp,Aqf H->SqL K H a (ns.map V.int)->HOk P w H s₁.heap->(∀ b,H b≠none->b=a)->(H a≠none->K.lookup a=none) ->
   jV (model P w) callerA (.call (.ref fa) ⟨[.ref a],[]⟩) (fun r s'=>r = .ok (.ret (.bool true))/\OldK s₁.heap s'.heap/\s'.os=s₁.os/\kX s'.gens) s₁:=by
  intro H hO hS hok hA hK
  have base_of:∀ {b:Addr} {o:Obj},s₁.heap.get? b=some o->H b=none->(Aad s₁.heap H).get? b=some o:=fun e n=>Amk e n
  have noA:∀ {b:Addr} {o:Obj} {es:Array pD} {ep:Nat},s₁.heap.get? b=some o->o.data = .dict es ep->H b=none:=fun {b o es ep} e d=>by
   cases q:H b with
   | none=>rfl
   | some u=>
    have e':b=a:=hA b (by rw[q];simp)
    subst e'
    rw[ha] at e;cases e
    have d':Data.seq vs.toArray _=Data.dict es ep:=d
    cases d'
  have nsK:∀ {b:Addr} {m:Str->Option aF},s₁.heap.Ns b m->(Aad s₁.heap H).Ns b m:=fun {b m} ⟨o,es,ep,e,d,r⟩=>⟨o,es,ep,base_of e (noA e d),d,r⟩
  have hKb:K.In (Aad s₁.heap H):=fun b o e=>base_of (KX b o e) (by
   cases q:H b with
   | none=>rfl
   | some u=>
    have e':b=a:=hA b (by rw[q];simp)
    subst e'
    rw[hK (by rw[q];simp)] at e;cases e)
  have hM:Mod K mg (Aad s₁.heap H):=⟨hKb,nsK hns,⟨mb,nsK hb,hbb⟩,let ⟨mc,h1,h2⟩:=hlim;⟨mc,nsK h1,h2⟩⟩
  have e0:Env0 P w K mg (Aad s₁.heap H) callerA [] s₁ H:=⟨rfl,hM,fun b o e=>Arf e,qK (Ahr _ _),trivial,fun b hb=>absurd (show b∈([]:List Addr) from hb) (by simp),hok,.of_eq hg⟩
  refine nK ((F _ hKb (nsK hns)).run callerA [] s₁ H ⟨[.ref a],[]⟩ [.ref a] [.ref a] _ _ hr e0 (hbind s₁ (.ref a)) (.cons rfl .nil) (hsp H hO hS)) fun r s' h=>?_
  cases r with
  | error e=>exact (hCX H e s' h).elim
  | ok fl=>
   cases fl with
   | next=>exact eT h
   | brk=>exact eT h
   | cont=>exact eT h
   | ret u=>
    obtain ⟨v,H',os,bare,un,hok',r',q⟩:=h
    have q':v = .bl true:=q
    subst q'
    obtain rfl:u=pS true:=r'
    refine ⟨rfl,OldK.of_keep fun b o e=>?_,os,bare⟩
    cases q:H b with
    | none=>exact un.keep b o e q (by intro z;exact absurd (show b∈([]:List Addr) from z) (by simp)) (by simp)
    | some u=>
     rcases hO b with z | ⟨ob,xs,z⟩
     ·rw[q] at z;cases z
     ·have z2:=un.frzs b ob _ z
      obtain ⟨e1,_⟩:=hok b _ z
      obtain ⟨e2,_⟩:=hok' b _ z2
      rw[e] at e1;cases e1
      exact e2
 cases hk:K.lookup a with
 | some o=>
  have e:=KX a o hk
  rw[ha] at e
  cases e
  refine core (fun _=>none) (fun _=>.inl rfl) (.inr ⟨_,vs.toArray,_,hk,rfl,rfl,rfl,by rw[bC,lenV];exact hl,by simpa using rv⟩) (fun b u z=>by have z':(none:Option HO)=some u:=z;cases z') (fun b z=>absurd rfl z) fun z=>absurd rfl z
 | none=>
  refine core (fun b=>if b=a then some (.frz { cls:=.type "list",data:=.seq vs.toArray } (.lst (ns.map V.int))) else none) (fun b=>?_) (.inl (.inr ⟨{ cls:=.type "list",data:=.seq vs.toArray },if_pos rfl⟩)) (fun b u z=>?_) (fun b z=>?_) fun _=>hk
  ·by_cases hb:b=a
   ·exact .inr ⟨_,_,if_pos hb⟩
   ·exact .inl (if_neg hb)
  ·by_cases hb:b=a
   ·have z':=(if_pos hb).symm.trans z
    cases z'
    subst hb
    exact ⟨ha,by rw[aU];exact hl,vs,_,rv,ha⟩
   ·have z':=(if_neg hb).symm.trans z
    cases z'
  ·by_cases hb:b=a
   ·exact hb
   ·exact absurd (if_neg hb) z
theorem Aq0{l:kM}{n k:Nat}{q:bT}{loose:List Str}{XP:(Str->Option aF)->Heap->Prop}{YP:cC->Heap->Prop}{d:DefRec}{K:mO->aE}{CX:cC->CXT}{sp:cC->Sp}{x:Str}
  (hn:l.most=some n) (hn2:n<=sizeLine) (hdf:d.params.defaults=[]) (hr:Room k callerA)
  (hY:∀ (w:cC) (h:Heap),YP w h->(K w.params).In h)
  (F:∀ (w:cC) (mg:Str->Option aF) (fa:Addr) (h:Heap),(K w.params).In h->h.Ns bQ mg->mg d.name=some (.ref fa) ->
   ∃ fd:dW,(∀ (s:aJ) (u:aF),kZ s fd ⟨[u],[]⟩ [(x,u)]) /\
    ∀ base:Heap,(K w.params).In base->base.Ns bQ mg->FnOk l.prog w (K w.params) mg base (CX w) k fa fd [x] (sp w))
  (hsp:∀ (w:cC) (H:Hp) (a:Addr) (ns:List Int),ns.length<=n->Aqf H->SqL (K w.params) H a (ns.map V.int)->sp w [.ref a] H (fun v _=>v = .bl true) fun _ _ _=>False)
  (hCX:∀ (w:cC) (H:Hp) (s:aJ) (e:aF) (s':aJ),CX w [] H s (fun _ _ _=>False) e s'->False) :
  sR q loose XP YP l.row.toRowW d [] (fun f vs=>sF f vs):=by
 refine Att.Acd hn hdf fun w s₀ s₁ mg mb fa o pm cd doc a vs ns G Y ho hd hcd hmg hobj hints hlen hg=>?_
 have KX:=hY w _ Y
 obtain ⟨fd,hb,hF⟩:=F w mg fa _ KX G.T.g hmg
 exact Ams KX G.T.g G.T.b G.T.builtins G.T.nolimit hg hobj hints (cB hlen hn2) hr hF hb (fun H hO hS=>hsp w H a ns hlen hO hS) fun H e s'=>hCX w H s₁ e s'
def Ay(s:Stmt)(j:Nat):Stmt:=match s with
 | .ClassDef _ _ _ body _ _ _ _ _ _ _=>body.getD j (.Pass ⟨0,0,0,0⟩)
 | _=>.Pass ⟨0,0,0,0⟩
def Hh(s:Stmt):Arguments:=match s with
 | .FunctionDef _ a _ _ _ _ _ _ _ _=>a
 | _=>{ posonlyargs:=[],args:=[],vararg:=none,kwonlyargs:=[],kw_defaults:=[],kwarg:=none,defaults:=[] }
def Ff(s:Stmt):List Stmt:=match s with
 | .FunctionDef _ _ b _ _ _ _ _ _ _=>b
 | _=>[]
def Am(s:Stmt):mF:=match s with
 | .FunctionDef _ _ _ _ _ _ sc _ _ _=>sc
 | _=>{ kind:=.function,names:=[],isGenerator:=false,isCoroutine:=false }
abbrev CX0:CXT:=fun _ _ _ _ _ _=>False
abbrev E0:XK:=fun _ _ _=>False
variable {X:Cx}
theorem Agn:Pk CX0 X E0:=fun _ _ _ _ _ _ _ h=>h.elim
inductive FunE(K:aE)(x qual:Str)(st:Stmt)(f:Addr)(fd:dW):Prop
 | mk (oc:aF) (od:Option Addr) (kV doc pm:aF) (an:Option Addr) (cdv ct:aF) (osl:Array (Option aF)) (h0:fd=fF x qual (Hh st) (Ff st) (Am st) .none kV doc pm an cdv ct) (h1:K.lookup f=some ⟨oc,od,.func fd,osl⟩) (h2:jW K cdv qual=true):FunE K x qual st f fd
structure Fun(K:aE)(x qual:Str)(st:Stmt)(f:Addr)(fd:dW):Prop where
 ex:FunE K x qual st f fd
 kp:dU K (.ref f)=true
variable {qual:Str}{st:Stmt}{f:Addr}
section
variable {mg:Str->Option aF}{base:Heap}
theorem Fun.ok{N ps:List Str}{k:Nat}{sp:Sp}(F:Fun K x qual st f fd)(S:FnScope N ps (Am st))(len:∀ vs H Q E,sp vs H Q E->vs.length=ps.length)
  (hbody:∀ (cdv:aF) (A:eD) (outer:List Env) (s:aJ) (H:Hp) (vs:List V) (Q:VK) (E:XK),Room k (A.deeper (envOfC qual (Am st) s.heap.objs.size f cdv))->sp vs H Q E ->
   ∃ t,PSs (Aec CX0 P w K mg base N qual (Am st) f cdv A outer s H E).nox (Ff st) t/\t { nx:=fun _ H'=>Q .non H',rt:=Q } (start N vs) H):FnOk P w K mg base CX0 (k+1) f fd ps sp:=by
 obtain ⟨oc,od,kV,doc,pm,an,cdv,ct,osl,rfl,lk,hcd⟩:=F.ex
 refine Aww lk hcd S len fun A outer s H vs Q E hr hsp=>?_
 obtain ⟨t,h,q⟩:=hbody cdv A outer s H vs Q E hr hsp
 exact ⟨t,h.nox,q⟩
theorem Fun.binds{ps:List Str}(F:Fun K x qual st f fd)
  (h:∀ (kV doc pm:aF) (an:Option Addr) (cdv ct:aF) (us:List aF),us.length=ps.length->bindArgs (fF x qual (Hh st) (Ff st) (Am st) .none kV doc pm an cdv ct) ⟨us,[]⟩=pure (ps.zip us)):Binds K fd ps []:=by
 obtain ⟨oc,od,kV,doc,pm,an,cdv,ct,osl,rfl,lk,hcd⟩:=F.ex
 exact .all (h kV doc pm an cdv ct)
theorem Aau{oc:aF}{od an:Option Addr}{osl:Array (Option aF)}{kV doc pm cdv ct:aF}(l:K.lookup f=some ⟨oc,od,.func (fF x qual (Hh st) (Ff st) (Am st) .none kV doc pm an cdv ct),osl⟩)
  (c:jW K cdv qual=true) (k:dU K (.ref f)=true):Fun K x qual st f (fF x qual (Hh st) (Ff st) (Am st) .none kV doc pm an cdv ct):=⟨⟨oc,od,kV,doc,pm,an,cdv,ct,osl,rfl,l,c⟩,k⟩
end
theorem Ab4{A B:Prop}(h:B):if false=true then A else B:=by
 rw[if_neg dA]
 exact h
theorem Acu{A B:Prop}(h:A):if true=true then A else B:=by
 rw[if_pos rfl]
 exact h
def Same(H H':Hp):Prop:=∀ b o,H b=some o->H' b=some o
theorem Same.refl(H:Hp):Same H H:=fun _ _ h=>h
variable {H:Hp}
theorem Same.trans{H1 H2:Hp}(a:Same H H1)(b:Same H1 H2):Same H H2:=fun c o h=>b c o (a c o h)
variable {H':Hp}
theorem Same.free(e:Same H H'){l:Addr}(h:H' l=tI):H l=tI:=by
 cases q:H l with
 | none=>rfl
 | some o=>
  rw[e l o q] at h
  cases h
theorem Same.seq{xs:List V}(e:Same H H')(h:SqL K H a xs):SqL K H' a xs:=by
 rcases h with (h | ⟨o,h⟩) | h
 ·exact .inl (.inl (e _ _ h))
 ·exact .inl (.inr ⟨o,e _ _ h⟩)
 ·exact .inr h
variable {o:Option V}{u:aF}{y:V}
section
variable {κ:Type}[DecidableEq κ]
def Mu(kvs:List (κ×V))(k:κ):Option V:=(kvs.find? fun kv=>decide (kv.1=k)).map (·.2)
def Qt(kvs:List (κ×V))(k:κ)(v:V):List (κ×V):=
 if (kvs.any fun kv=>decide (kv.1=k))=true then kvs.map (fun kv=>if kv.1=k then (kv.1,v) else kv) else kvs++[(k,v)]
def Tt(kvs:List (κ×V))(k:κ):List (κ×V):=kvs.filter fun kv=>decide (kv.1≠k)
theorem Vu{p:κ×V}{r:List (κ×V)}{k:κ}(e:p.1=k):Mu (p::r) k=some p.2:=by simp[Mu,fO,e]
theorem U8{p:κ×V}{r:List (κ×V)}{k:κ}(e:¬ p.1=k):Mu (p::r) k=Mu r k:=by simp[Mu,fO,e]
theorem Us(k:κ):∀ kvs:List (κ×V),(kvs.any fun kv=>decide (kv.1=k))=(Mu kvs k).isSome
 | []=>rfl
 | p::r=>by
  rw[eQ]
  by_cases e:p.1=k
  ·simp only[Vu e,decide_eq_true e,Bool.true_or,Option.isSome_some]
  ·rw[U8 e,decide_eq_false e,sS];exact Us k r
theorem Sf(kvs:List (κ×V))(k:κ)(v:V):(Qt kvs k v).length<=kvs.length+1:=by
 unfold Qt
 split
 ·rw[aU];omega
 ·rw[cM,aL,aR];omega
theorem RelO.isSome_eq{u:Option aF}(r:RelO o u):o.isSome=u.isSome:=by
 cases o with
 | none=>cases u with
  | none=>rfl
  | some _=>exact (show False from r).elim
 | some _=>cases u with
  | none=>exact (show False from r).elim
  | some _=>rfl
theorem RelO.getD{u:Option aF}{d:V}{d':aF}(r:RelO o u)(rd:RelV d d'):RelV (o.getD d) (u.getD d'):=by
 cases o with
 | none=>cases u with
  | none=>exact rd
  | some _=>exact (show False from r).elim
 | some _=>cases u with
  | none=>exact (show False from r).elim
  | some _=>exact r
theorem KV.val{kvs:List (κ×V)}{vs:List (κ×aF)}(r:KV kvs vs)(k:κ):RelO (Mu kvs k) (valueAt vs k):=by
 unfold KV at r
 induction r with
 | nil=>exact gF
 | @cons p q ps qs h t ih=>
  obtain ⟨h1,h2⟩:=h
  by_cases e:p.1=k
  ·have e':q.1=k:=h1.symm.trans e
   have b:valueAt (q::qs) k=some q.2:=by simp[valueAt,fO,e']
   rw[Vu e,b];exact h2
  ·have e':¬ q.1=k:=fun z=>e (h1.trans z)
   have b:valueAt (q::qs) k=valueAt qs k:=by simp[valueAt,fO,e']
   rw[U8 e,b];exact ih
theorem KV.any{kvs:List (κ×V)}{vs:List (κ×aF)}(r:KV kvs vs)(k:κ):(kvs.any fun kv=>decide (kv.1=k))=vs.any fun kv=>decide (kv.1=k):=by
 unfold KV at r
 induction r with
 | nil=>rfl
 | cons h t ih=>rw[eQ,eQ,ih,h.1]
theorem KV.repl{kvs:List (κ×V)}{vs:List (κ×aF)}(r:KV kvs vs)(k:κ)(ry:RelV y u) :
  KV (kvs.map fun kv=>if kv.1=k then (kv.1,y) else kv) (vs.map fun kv=>if kv.1=k then (kv.1,u) else kv):=by
 unfold KV at r ⊢
 induction r with
 | nil=>exact .nil
 | @cons p q ps qs h t ih=>
  rw[aI,aI]
  refine .cons ?_ ih
  obtain ⟨h1,h2⟩:=h
  by_cases e:p.1=k
  ·rw[if_pos e,if_pos (h1.symm.trans e)];exact ⟨h1,ry⟩
  ·rw[if_neg e,if_neg (fun z=>e (h1.trans z))];exact ⟨h1,h2⟩
theorem KV.put{kvs:List (κ×V)}{vs:List (κ×aF)}(r:KV kvs vs)(k:κ)(ry:RelV y u):KV (Qt kvs k y) (stored vs k u):=by
 unfold Qt stored
 rw[r.any k]
 by_cases e:(vs.any fun kv=>decide (kv.1=k))=true
 ·rw[if_pos e,if_pos e];exact r.repl k ry
 ·rw[if_neg e,if_neg e];exact tK r ⟨rfl,ry⟩
theorem KV.drop{kvs:List (κ×V)}{vs:List (κ×aF)}(r:KV kvs vs)(k:κ):KV (Tt kvs k) (without vs k):=by
 unfold KV at r ⊢
 unfold Tt without
 induction r with
 | nil=>exact .nil
 | @cons p q ps qs h t ih=>
  obtain ⟨h1,h2⟩:=h
  rw[eO,eO]
  by_cases e:p.1=k
  ·have a:¬ decide (p.1≠k)=true:=by simp[e]
   have b:¬ decide (q.1≠k)=true:=by simp[h1.symm.trans e]
   rw[if_neg a,if_neg b];exact ih
  ·have e':¬ q.1=k:=fun z=>e (h1.trans z)
   have a:decide (p.1≠k)=true:=by simp[e]
   have b:decide (q.1≠k)=true:=by simp[e']
   rw[if_pos a,if_pos b];exact .cons ⟨h1,h2⟩ ih
theorem KV.keys{kvs:List (κ×V)}{vs:List (κ×aF)}(r:KV kvs vs):kvs.map (·.1)=vs.map (·.1):=by
 unfold KV at r
 induction r with
 | nil=>rfl
 | cons h t ih=>rw[aI,aI,ih,h.1]
theorem KV.length{kvs:List (κ×V)}{vs:List (κ×aF)}(r:KV kvs vs):kvs.length=vs.length:=mK r
theorem Am5(kvs:List (κ×V))(k:κ):(Tt kvs k).length<=kvs.length:=fD _ _
end
theorem Yo{k:Key}(r:RelV (kV k) u):(Cu P w).is k u=true:=by
 cases k with
 | inl i=>obtain ⟨t,e⟩:=(show ∃ t,u=mV i t from r);subst e;exact Aa8 P w i t
 | inr x=>obtain ⟨t,e⟩:=(show ∃ t,u=kB x t from r);subst e;exact Mq P w x t
theorem Xf:∀ {ks:List Key} {us:List aF},Vals (ks.map kV) us->ItemsAre (Cu P w) ks us
 | [],_,r=>by rw[bG] at r;cases r;exact .nil
 | k::ks,_,r=>by
  rw[aI] at r
  cases r with
  | cons h t=>exact .cons (Yo h) (Xf t)
abbrev KT(H:Hp):List (List Key×V)->List (List Key×Addr×aF)->Prop:=rZ fun p q=>p.1=q.1/\H q.2.1=some (.tup (p.1.map kV))/\RelV p.2 q.2.2
variable {xs:List (List Key×Addr×aF)}{kvs:List (List Key×V)}
theorem KT.val(r:KT H kvs xs)(k:List Key):RelO (Mu kvs k) ((atKey xs k).map (·.2)):=by
 induction r with
 | nil=>exact gF
 | @cons p q ps qs h t ih=>
  obtain ⟨h1,_,h2⟩:=h
  by_cases e:p.1=k
  ·have e':q.1=k:=h1.symm.trans e
   have b:atKey (q::qs) k=some q.2:=by simp[atKey,fO,e']
   rw[Vu e,b];exact h2
  ·have e':¬ q.1=k:=fun z=>e (h1.trans z)
   have b:atKey (q::qs) k=atKey qs k:=by simp[atKey,fO,e']
   rw[U8 e,b];exact ih
theorem KT.repl(r:KT H kvs xs)(k:List Key)(ry:RelV y u) :
  KT H (kvs.map fun kv=>if kv.1=k then (kv.1,y) else kv) (xs.map (putAt k u)):=by
 induction r with
 | nil=>exact .nil
 | @cons p q ps qs h t ih=>
  rw[aI,aI]
  refine .cons ?_ ih
  obtain ⟨h1,h2,h3⟩:=h
  unfold putAt
  by_cases e:p.1=k
  ·rw[if_pos e,if_pos (h1.symm.trans e)];exact ⟨h1,h2,ry⟩
  ·rw[if_neg e,if_neg (fun z=>e (h1.trans z))];exact ⟨h1,h2,h3⟩
variable {b:Addr}
theorem KT.put(r:KT H kvs xs)(k:List Key)(hb:H b=some (.tup (k.map kV)))(ry:RelV y u) :
  KT H (Qt kvs k y) (storedH xs k b u):=by
 have e:(kvs.any fun kv=>decide (kv.1=k))=(atKey xs k).isSome:=by
  rw[Us,(r.val k).isSome_eq,iQ]
 unfold Qt storedH
 rw[e]
 by_cases q:(atKey xs k).isSome=true
 ·rw[if_pos q,if_pos q];exact r.repl k ry
 ·rw[if_neg q,if_neg q];exact tK r ⟨rfl,hb,ry⟩
theorem KT.keeps(r:KT H kvs xs)(ht:∀ b ys,H b=some (.tup ys)->H' b=some (.tup ys)):KT H' kvs xs:=
 Paired.mapP r fun _ _ z=>⟨z.1,ht _ _ z.2.1,z.2.2⟩
section
variable {h:Heap}
theorem As6{u:HO}(ok:HOk P w H h)(e:Rd H a u):ObjOk P w H h a u:=e.ok ok
theorem Ahm{kvs:List (Key×V)}(ok:HOk P w H h)(e:Rd H a (.dK kvs)):kvs.length<=sizeLine/\(a == sysModules)=false/\∃ vs,KV kvs vs/\h.DictOf (Cu P w) a vs:=
 show ObjOk P w H h a (.dK kvs) from As6 ok e
theorem Agv{kvs:List (Key×V)}(ok:HOk P w H h)(e:H a=some (.dK kvs)):kvs.length<=sizeLine/\(a == sysModules)=false/\∃ vs,KV kvs vs/\h.DictOf (Cu P w) a vs:=Ahm ok (.inl e)
theorem Aar{ks:List Key}(ok:HOk P w H h)(e:H a=some (.tup (ks.map kV))):(tupleKind (Cu P w)).is h ks a:=by
 obtain ⟨_,its,r,o,h1,h2,n,h3⟩:=(show ObjOk P w H h a (.tup (ks.map kV)) from ok a _ e)
 exact ⟨o,its.toArray,n,h1,(oS h2).1,h3,by simpa using Xf r⟩
theorem Ag9(ok:HOk P w H h)(e:Rd H a (.dT kvs)):kvs.length<=sizeLine/\(a == sysModules)=false /\
  ∃ xs,KT H kvs xs/\h.DictOfH (tupleKind (Cu P w)) a xs:=by
 obtain ⟨z,y,xs,r,o,es,ep,h1,h2,h3,h4,h5⟩:=(show ObjOk P w H h a (.dT kvs) from As6 ok e)
 refine ⟨z,y,xs,r,o,es,ep,h1,h2,h3,h4,fun x hx=>?_,h5⟩
 have all:∀ {l:List (List Key×V)} {m:List (List Key×Addr×aF)},KT H l m->∀ x∈m,(tupleKind (Cu P w)).is h x.1 x.2.1:=by
  intro l m q
  induction q with
  | nil=>intro x hx;exact nomatch hx
  | @cons p q ps qs hq t ih=>
   intro x hx
   rcases bL.mp hx with e | hx
   ·subst e
    exact Aar ok (by rw[<- hq.1];exact hq.2.1)
   ·exact ih x hx
 exact all r x hx
theorem Axb(ok:HOk P w H h)(e:H a=some (.dT kvs)):kvs.length<=sizeLine/\(a == sysModules)=false /\
  ∃ xs,KT H kvs xs/\h.DictOfH (tupleKind (Cu P w)) a xs:=Ag9 ok (.inl e)
end
def DGet(H:Hp)(a:Addr)(y:V)(r:Option V):Prop:=
 (∃ kvs k,Rd H a (.dK kvs)/\y=kV k/\r=Mu kvs k)\/∃ kvs k b,Rd H a (.dT kvs)/\y = .ref b/\H b=some (.tup (k.map kV))/\r=Mu kvs k
def DPut(H:Hp)(a:Addr)(y v:V)(H':Hp):Prop:=
 (∃ kvs k,H a=some (.dK kvs)/\y=kV k/\kvs.length < sizeLine/\H'=upd H a (.dK (Qt kvs k v))) \/
 ∃ kvs k b,H a=some (.dT kvs)/\y = .ref b/\H b=some (.tup (k.map kV))/\kvs.length < sizeLine/\H'=upd H a (.dT (Qt kvs k v))
theorem DGet.k{kvs:List (Key×V)}{k:Key}(e:H a=some (.dK kvs)):DGet H a (kV k) (Mu kvs k):=.inl ⟨kvs,k,.inl e,rfl,rfl⟩
theorem DGet.t{k:List Key}(e:H a=some (.dT kvs))(eb:H b=some (.tup (k.map kV))):DGet H a (.ref b) (Mu kvs k):=.inr ⟨kvs,k,b,.inl e,rfl,eb,rfl⟩
variable {v:V}
theorem DPut.k{kvs:List (Key×V)}{k:Key}(e:H a=some (.dK kvs))(hl:kvs.length < sizeLine):DPut H a (kV k) v (upd H a (.dK (Qt kvs k v))):=.inl ⟨kvs,k,e,rfl,hl,rfl⟩
theorem DPut.t{k:List Key}(e:H a=some (.dT kvs))(eb:H b=some (.tup (k.map kV)))(hl:kvs.length < sizeLine) :
  DPut H a (.ref b) v (upd H a (.dT (Qt kvs k v))):=.inr ⟨kvs,k,b,e,rfl,eb,hl,rfl⟩
variable {A:eD}{pins:List (Addr×Obj)}{σ:St}{s:aJ}{E Q:aF->aJ->Prop}
section
variable {r:aF}
theorem Inv.big(I:Inv X pins σ H s):sysModules < s.heap.objs.size:=by
 have h:bQ < s.heap.objs.size:=(I.mod.glob.keeps I.bk).lt
 exact Nat.lt_trans (by decide) h
theorem A33(hu:A.units+1 < cLine)(I:Inv X pins σ H s)(g:DGet H a y o)(ry:RelV y u)(h:∀ s',Inv X pins σ H s'->Q (.bool o.isSome) s') :
  wpAny (model X.prog X.w) A (cX .In u (.ref a)) Q E s:=by
 rcases g with ⟨kvs,k,e,ey,l⟩ | ⟨kvs,k,b,e,ey,eb,l⟩
 ·subst ey
  obtain ⟨z,hd,vs,rel,dd⟩:=Ahm I.hok e
  refine wpAny_in_of (Yo ry) hd dd.mapOf ?_
  rw[<- (rel.val k).isSome_eq,<- l]
  exact h _ (I.tok _)
 ·subst ey
  cases (show u=bO b from ry)
  obtain ⟨z,hd,xs,rel,dd⟩:=Ag9 I.hok e
  refine wpAny_in_heap (lV hu) (Aar I.hok eb) hd dd ?_
  have q:=(rel.val k).isSome_eq
  rw[iQ] at q
  rw[<- q,<- l]
  exact h _ (I.tok _)
theorem Aqc(hu:A.units+1 < cLine)(I:Inv X pins σ H s)(g:DGet H a y o)(ry:RelV y u)(h:∀ s',Inv X pins σ H s'->Q (.bool (!o.isSome)) s') :
  wpAny (model X.prog X.w) A (cX .NotIn u (.ref a)) Q E s:=by
 rcases g with ⟨kvs,k,e,ey,l⟩ | ⟨kvs,k,b,e,ey,eb,l⟩
 ·subst ey
  obtain ⟨z,hd,vs,rel,dd⟩:=Ahm I.hok e
  refine wpAny_notIn_of (Yo ry) hd dd.mapOf ?_
  rw[<- (rel.val k).isSome_eq,<- l]
  exact h _ (I.tok _)
 ·subst ey
  cases (show u=bO b from ry)
  obtain ⟨z,hd,xs,rel,dd⟩:=Ag9 I.hok e
  refine wpAny_notIn_heap (lV hu) (Aar I.hok eb) hd dd ?_
  have q:=(rel.val k).isSome_eq
  rw[iQ] at q
  rw[<- q,<- l]
  exact h _ (I.tok _)
theorem Yz{h':Heap}{t':Nat}{ob:HO}(I:Inv X pins σ H s)(mu:Mut (H a))(hs:gK a s.heap h')(he:∃ q,h'.get? a=some q)(new:ObjOk X.prog X.w (upd H a ob) h' a ob) :
  Inv X pins σ (upd H a ob) { s with heap:=h',toks:=t' }:=
 I.write (x:=a) (e:=a) mu (.inl rfl) (fun b q hb z=>(hs.2 b hb).trans z) he new
theorem Aks{h':Heap}{kvs:List (Key×V)}{vs:List (Key×aF)}(z:kvs.length<=sizeLine)(hd:(a == sysModules)=false)(rel:KV kvs vs)(dd:h'.DictOf (Cu P w) a vs) :
  ObjOk P w H' h' a (.dK kvs):=⟨z,hd,vs,rel,dd⟩
theorem Ain{Q:Unit->aJ->Prop}(hu:A.units+1 < cLine)(I:Inv X pins σ H s)(g:DPut H a y v H')(ry:RelV y u)(rv:RelV v r)(h:∀ s',Inv X pins σ H' s'->Q () s') :
  wpAny (model X.prog X.w) A (setItem (.ref a) u r) Q E s:=by
 rcases g with ⟨kvs,k,e,ey,l,eH⟩ | ⟨kvs,k,b,e,ey,eb,l,eH⟩
 ·subst ey eH
  obtain ⟨z,hd,vs,rel,dd⟩:=Agv I.hok e
  have hz:vs.length<=sizeLine:=by rw[<- rel.length];exact z
  have hl:(Qt kvs k v).length<=sizeLine:=by have:=Sf kvs k v;omega
  refine wpAny_setItem_pairs (hsz:=hz) (Yo ry) dd fun h' dd' hs=>h _ ?_
  have he:∃ q,h'.get? a=some q:=let ⟨q,_,_,hq,_⟩:=dd';⟨q,hq⟩
  exact Yz I (by rw[e];exact gF) hs he (Aks hl hd (rel.put k rv) dd')
 ·subst ey eH
  cases (show u=bO b from ry)
  obtain ⟨z,hd,xs,rel,dd⟩:=Axb I.hok e
  have hz:xs.length<=sizeLine:=by rw[<- mK rel];exact z
  have hl:(Qt kvs k v).length<=sizeLine:=by have:=Sf kvs k v;omega
  refine wpAny_setItem_heap (hsz:=hz) (lV hu) (Aar I.hok eb) dd fun h' dd' hs=>h _ ?_
  obtain ⟨q,es,ep,hq,h2,h3,h4,_,h5⟩:=dd'
  refine Yz I (by rw[e];exact gF) hs ⟨q,hq⟩ ⟨hl,hd,_,(rel.put k eb rv).keeps fun c ys ec=>?_,q,es,ep,hq,h2,h3,h4,h5⟩
  rw[Bj (Ako ec e (fun z=>nomatch z))]
  exact ec
end
section
variable {kvs:List (Key×V)}{k:Key}
theorem Aw6{more:List aF}(I:Inv X pins σ H s)(e:H a=some (.dK kvs))(ry:RelV (kV k) u)(l:Mu kvs k=some v)(hm:more=[]\/∃ x,more=[x])
  (h:∀ w' s',Inv X pins σ (upd H a (.dK (Tt kvs k))) s'->RelV v w'->Q w' s'):wpAny (model X.prog X.w) A (call (.builtin "dict.pop") (.ref a::u::more)) Q E s:=by
 obtain ⟨z,hd,vs,rel,dd⟩:=Agv I.hok e
 obtain ⟨w',hw,rw'⟩:=RelO.some_of (v:=v) (o:=valueAt vs k) (by rw[<- l];exact rel.val k)
 have hp:(keyPart u).isSome=true:=by
  cases k with
  | inl i=>obtain ⟨t,q⟩:=(show ∃ t,u=mV i t from ry);subst q;rfl
  | inr x=>obtain ⟨t,q⟩:=(show ∃ t,u=kB x t from ry);subst q;rfl
 have ha:argsOk "dict.pop" ⟨.ref a::u::more,[]⟩:=by
  rcases hm with q | ⟨x,q⟩
  ·subst q;exact PySem.F.args_dict_pop_2 _ _
  ·subst q;exact PySem.F.args_dict_pop_3 _ _ _
 refine nO oK dd.typeIs PySem.F.entry_dict_pop ha (meets_dict_pop_there (Cu X.prog X.w) a (Yo ry) more hm hp)
  ⟨vs,w',dd,by rw[<- rel.length];exact z,hw,fun h' dd' hs=>h w' _ ?_ rw'⟩
 have he:∃ q,h'.get? a=some q:=let ⟨q,_,_,hq,_⟩:=dd';⟨q,hq⟩
 exact Yz I (by rw[e];exact gF) hs he (Aks (cB (Am5 kvs k) z) hd (rel.drop k) dd')
end
def Ax3(td ty tv:TE):TS:=fun D σ H=>tv σ H fun v H1=>td σ H1 fun x H2=>ty σ H2 fun y H3=>∃ a H4,x = .ref a/\DPut H3 a y v H4/\D.nx σ H4
section
variable {o i e value:Expr}{pos pos' tpos:Pos}{td ty tv:TE}
theorem Aoj(hu:X.A.units+1 < cLine)(ho:PE X o td)(hi:PE X i ty)(hv:PE X value tv)(hs:swapsWith value (some (.Subscript o i pos')) pos.line X.env=pure false) :
  PS X (.Assign [.Subscript o i pos'] value pos) (Ax3 td ty tv):=by
 intro pins s σ H D I h
 refine wpAny_Assign_Subscript (thn (hv pins s σ H _ I h) fun r s1 zz=>zz.elim fun v H1 I1 rv q1=>thn (ho pins s1 σ H1 _ I1 q1) fun u s2 zz=>zz.elim fun x H2 I2 rx q2=>thn (hi pins s2 σ H2 _ I2 q2) fun iv s3 zz=>zz.elim fun y H3 I3 ry zq=>?_) hs
 obtain ⟨a,H4,ex,g,q3⟩:=zq
 subst ex
 obtain rfl:u=bO a:=rx
 exact Ain hu I3 g ry rv fun s4 I4=>⟨σ,H4,I4,q3⟩
end
theorem Aly(h:Heap)(hb:sysModules < h.objs.size):ObjOk P w H (h.push { cls:=.type "dict",data:=.dict #[] }) h.objs.size (.dK []):=
 ⟨iT _,beq_eq_false_iff_ne.mpr (gX (cA hb)),[],.nil,Heap.DictOf.new h⟩
def Avu:TE:=fun _ H Q=>∀ p,H p=none->Q (.ref p) (upd H p (.dK []))
section
variable {pos:Pos}
theorem Alp:PE X (.Dict [] [] pos) Avu:=fun pins s σ H Q I h=>
 wpAny_Dict_empty ⟨.ref s.heap.objs.size,_,I.laid (a:=s.heap.objs.size) (o:=.dK []) (t':=s.toks) (fun _ _ q=>aB _ q) (aZ _) (Aly s.heap I.big),rfl,h _ (I.hok.fresh (aZ _))⟩
end
structure M1(X:Cx)(o:Expr)(m:Str)(apos:Pos)(e:Expr)(cpos:Pos):Prop where
 base:attributeBase o m X.env (eval o X.env)=eval o X.env
 few:((backTo cpos (aT [e] X.env)).all (fun x=>!x.1)&&(backToKw cpos (keywordEach [] X.env)).all (fun x=>x.1.isSome)
  && decide (([e]:List Expr).length+([]:List iP).length+(if ([]:List iP).isEmpty then 0 else 1) < 30))=true
 line:(apos.endLine == cpos.line)=true
 trees:backTo cpos (aT [e] X.env)=[(false,eval e X.env)]
structure M2(X:Cx)(o:Expr)(m:Str)(apos:Pos)(e f:Expr)(cpos:Pos):Prop where
 base:attributeBase o m X.env (eval o X.env)=eval o X.env
 few:((backTo cpos (aT [e,f] X.env)).all (fun x=>!x.1)&&(backToKw cpos (keywordEach [] X.env)).all (fun x=>x.1.isSome)
  && decide (([e,f]:List Expr).length+([]:List iP).length+(if ([]:List iP).isEmpty then 0 else 1) < 30))=true
 line:(apos.endLine == cpos.line)=true
 trees:backTo cpos (aT [e,f] X.env)=[(false,eval e X.env),(false,eval f X.env)]
def IsD(H:Hp)(a:Addr):Prop:=(∃ kvs,Rd H a (.dK kvs))\/∃ kvs,Rd H a (.dT kvs)
theorem Aen(I:Inv X pins σ H s)(d:IsD H a) :
  s.TypeIs (.ref a) "dict" /\ (∀ b,bO a = .ref b->∃ ob,s.heap.get? b=some ob/\ob.dict=none)/\(a == sysModules)=false:=by
 rcases d with ⟨kvs,e⟩ | ⟨kvs,e⟩
 ·obtain ⟨_,hd,vs,_,dd⟩:=Ahm I.hok e
  refine ⟨dd.typeIs,fun b q=>?_,hd⟩
  cases q
  obtain ⟨ob,_,_,h1,h2,_⟩:=dd
  exact ⟨ob,h1,h2.2.1⟩
 ·obtain ⟨_,hd,xs,_,dd⟩:=Ag9 I.hok e
  refine ⟨dd.typeIs,fun b q=>?_,hd⟩
  cases q
  obtain ⟨ob,_,_,h1,h2,_⟩:=dd
  exact ⟨ob,h1,h2.2.1⟩
section
variable {d:V}{r:aF}
end
def Av0(td ty:TE):TE:=fun σ H Q=>td σ H fun x H1=>∃ a,x = .ref a/\IsD H1 a/\ty σ H1 fun y H2=>∃ kvs k v,H2 a=some (.dK kvs)/\y=kV k/\Mu kvs k=some v/\Q v (upd H2 a (.dK (Tt kvs k)))
section
variable {o e f:Expr}{apos cpos:Pos}{td ty tx:TE}
theorem Aki(ho:PE X o td)(he:PE X e ty)(m:M1 X o "pop" apos e cpos):PE X (.Call (.Attribute o "pop" apos) [e] [] cpos) (Av0 td ty):=by
 intro pins s σ H Q I h
 refine jX m.base m.few m.line hV oK PySem.F.type_dict_pop (thn (ho pins s σ H _ I h) fun u s1 zz=>zz.elim fun x H1 I1 rx zq=>?_)
 obtain ⟨a,ex,d,q1⟩:=zq
 subst ex
 obtain rfl:u=bO a:=rx
 obtain ⟨t1,t2,_⟩:=Aen I1 d
 refine ⟨t1,t2,?_⟩
 rw[m.trees]
 refine eW rfl (kL (iB (thn (he pins s1 σ H1 _ I1 q1) fun iv s2 zz=>zz.elim fun y H2 I2 ry zq=>iO ?_)))
 obtain ⟨kvs,k,v,ea,ey,l,q2⟩:=zq
 subst ey
 exact Aw6 I2 ea ry l (.inl rfl) fun w' s3 I3 rw'=>⟨v,_,I3,rw',q2⟩
end
section
variable {kvs:List (Key×V)}
end
end L2
namespace MR
open PySem PySem.Spec PyProof.Rows L2
inductive U where
 | non | bl (b:Bool) | int (i:Int) | str (x:Str) | tup (l:List U) | ref (n:Nat)
inductive HU where
 | lst (xs:List U) | ro (xs:List U) | dic (kvs:List (Key×U)) | rod (kvs:List (Key×U)) | ins (C:Str) (fs:List (Str×U)) | exc (C:Str) (fr:Bool) (fs:List (Str×U))
abbrev UH:=List HU
abbrev UE:=List (Option U)
section
variable (K:aE)(H:Hp)(α:List Addr)
mutual
def RepU:U->V->Prop
 | .non,v=>v = .non
 | .bl b,v=>v = .bl b
 | .int i,v=>v = .int i
 | .str x,v=>v = .str x
 | .tup l,v=>∃ a xs,v = .ref a/\SqT K H a xs/\RepL l xs
 | .ref n,v=>∃ a,α[n]? = some a/\v = .ref a
def RepL:List U->List V->Prop
 | [],xs=>xs=[]
 | u::l,xs=>∃ x r,xs=x::r/\RepU u x/\RepL l r
end
end
def Stay(H H':Hp):Prop:=(∀ b xs,H b=some (.tup xs)->H' b=some (.tup xs))/\∀ b o u,H b=some (.frz o u)->H' b=some (.frz o u)
theorem Stay.refl(H:Hp):Stay H H:=⟨fun _ _ q=>q,fun _ _ _ q=>q⟩
variable {H H1 H2:Hp}
theorem Stay.trans(a:Stay H H1)(b:Stay H1 H2):Stay H H2:=⟨fun c xs q=>b.1 c xs (a.1 c xs q),fun c o u q=>b.2 c o u (a.2 c o u q)⟩
variable {K:aE}{H':Hp}{a:Addr}{xs:List V}
theorem Stay.sqT(e:Stay H H')(h:SqT K H a xs):SqT K H' a xs:=by
 rcases h with (h | ⟨o,h⟩) | h
 ·exact .inl (.inl (e.1 _ _ h))
 ·exact .inl (.inr ⟨o,e.2 _ _ _ h⟩)
 ·exact .inr h
variable {p:Addr}
theorem Stay.new(h:H p=none)(o:HO):Stay H (upd H p o):=⟨fun b u q=>by rw[Bj (B4 q h)];exact q,fun b o u q=>by rw[Bj (B4 q h)];exact q⟩
variable {o:HO}
theorem Stay.write(h:H p=some o)(m:Mut (some o))(o':HO):Stay H (upd H p o'):=
 ⟨fun b u q=>by rw[Bj (Ako q h (fun z=>by subst z;exact m))];exact q,fun b w u q=>by rw[Bj (Ako q h (fun z=>by subst z;exact m))];exact q⟩
structure Gr(H:Hp)(α:List Addr)(H':Hp)(α':List Addr):Prop where
 pre:∃ β,α' = α ++ β
 st:Stay H H'
theorem Gr.refl(H:Hp)(α:List Addr):Gr H α H α:=⟨⟨[],by simp⟩,.refl H⟩
variable {α:List Addr}
theorem Gr.trans{α1 α2:List Addr}(a:Gr H α H1 α1)(b:Gr H1 α1 H2 α2):Gr H α H2 α2:=by
 obtain ⟨⟨β,e⟩,s⟩:=a
 obtain ⟨⟨γ,e'⟩,s'⟩:=b
 exact ⟨⟨β ++ γ,by rw[e',e,bH]⟩,s.trans s'⟩
variable {α':List Addr}{n:Nat}
theorem Gr.at(g:Gr H α H' α')(h:α[n]? = some a):α'[n]? = some a:=by
 obtain ⟨β,e⟩:=g.pre
 have hn:n < α.length:=(aK.mp h).1
 rw[e,bA hn];exact h
variable {u:U}{l:List U}
section
mutual
theorem RepU.mono(g:Gr H α H' α'):∀ (u:U) (v:V),RepU K H α u v->RepU K H' α' u v
 | .non,_,h=>h
 | .bl _,_,h=>h
 | .int _,_,h=>h
 | .str _,_,h=>h
 | .tup l,v,h=>by
  unfold RepU at h ⊢
  obtain ⟨a,xs,e,s,r⟩:=h
  exact ⟨a,xs,e,g.st.sqT s,RepL.mono g l xs r⟩
 | .ref n,v,h=>by
  unfold RepU at h ⊢
  obtain ⟨a,e,q⟩:=h
  exact ⟨a,g.at e,q⟩
theorem RepL.mono(g:Gr H α H' α'):∀ (l:List U) (xs:List V),RepL K H α l xs->RepL K H' α' l xs
 | [],xs,h=>h
 | u::l,xs,h=>by
  unfold RepL at h ⊢
  obtain ⟨x,r,e,h1,h2⟩:=h
  exact ⟨x,r,e,RepU.mono g u x h1,RepL.mono g l r h2⟩
end
theorem RepL.length:∀ {l:List U} {xs:List V},RepL K H α l xs->l.length=xs.length
 | [],xs,h=>by unfold RepL at h;subst h;rfl
 | u::l,xs,h=>by
  unfold RepL at h
  obtain ⟨x,r,e,_,h2⟩:=h
  subst e
  simp[RepL.length h2]
theorem RepL.get:∀ {l:List U} {xs:List V} {i:Nat} {u:U},RepL K H α l xs->l[i]? = some u->∃ x,xs[i]? = some x/\RepU K H α u x
 | [],xs,i,u,h,e=>by simp at e
 | w::l,xs,i,u,h,e=>by
  unfold RepL at h
  obtain ⟨x,r,e',h1,h2⟩:=h
  subst e'
  cases i with
  | zero=>simp at e;subst e;exact ⟨x,rfl,h1⟩
  | succ i=>simpa using RepL.get (i:=i) h2 (by simpa using e)
theorem RepL.nil:RepL K H α [] []:=by unfold RepL;rfl
theorem RepL.cons{x:V}(h:RepU K H α u x)(t:RepL K H α l xs):RepL K H α (u::l) (x::xs):=by
 unfold RepL;exact ⟨x,xs,rfl,h,t⟩
theorem RepL.append:∀ {l l':List U} {xs ys:List V},RepL K H α l xs->RepL K H α l' ys->RepL K H α (l++l') (xs++ys)
 | [],l',xs,ys,h,t=>by unfold RepL at h;subst h;exact t
 | u::l,l',xs,ys,h,t=>by
  unfold RepL at h
  obtain ⟨x,r,e,h1,h2⟩:=h
  subst e
  exact .cons h1 (RepL.append h2 t)
theorem RepL.take:∀ {l:List U} {xs:List V} (n:Nat),RepL K H α l xs->RepL K H α (l.take n) (xs.take n)
 | [],xs,n,h=>by unfold RepL at h;subst h;simp[RepL.nil]
 | u::l,xs,0,h=>by simp[RepL.nil]
 | u::l,xs,n+1,h=>by
  unfold RepL at h
  obtain ⟨x,r,e,h1,h2⟩:=h
  subst e
  exact .cons h1 (RepL.take n h2)
theorem RepL.drop:∀ {l:List U} {xs:List V} (n:Nat),RepL K H α l xs->RepL K H α (l.drop n) (xs.drop n)
 | [],xs,n,h=>by unfold RepL at h;subst h;simp[RepL.nil]
 | u::l,xs,0,h=>h
 | u::l,xs,n+1,h=>by
  unfold RepL at h
  obtain ⟨x,r,e,h1,h2⟩:=h
  subst e
  exact RepL.drop n h2
theorem RepL.set{x:V}(q:RepU K H α u x):∀ {l:List U} {xs:List V} (n:Nat),RepL K H α l xs->RepL K H α (l.set n u) (xs.set n x)
 | [],xs,n,h=>by unfold RepL at h;subst h;exact .nil
 | w::l,xs,0,h=>by
  unfold RepL at h
  obtain ⟨y,r,e,h1,h2⟩:=h
  subst e
  exact .cons q h2
 | w::l,xs,n+1,h=>by
  unfold RepL at h
  obtain ⟨y,r,e,h1,h2⟩:=h
  subst e
  exact .cons h1 (RepL.set q n h2)
theorem RepL.erase:∀ {l:List U} {xs:List V} (n:Nat),RepL K H α l xs->RepL K H α (l.eraseIdx n) (xs.eraseIdx n)
 | [],xs,n,h=>by unfold RepL at h;subst h;exact .nil
 | w::l,xs,0,h=>by
  unfold RepL at h
  obtain ⟨y,r,e,h1,h2⟩:=h
  subst e
  exact h2
 | w::l,xs,n+1,h=>by
  unfold RepL at h
  obtain ⟨y,r,e,h1,h2⟩:=h
  subst e
  exact .cons h1 (RepL.erase n h2)
theorem RepL.reverse:∀ {l:List U} {xs:List V},RepL K H α l xs->RepL K H α l.reverse xs.reverse
 | [],xs,h=>by unfold RepL at h;subst h;exact .nil
 | w::l,xs,h=>by
  unfold RepL at h
  obtain ⟨y,r,e,h1,h2⟩:=h
  subst e
  rw[dS,dS]
  exact (RepL.reverse h2).append (.cons h1 .nil)
theorem RepL.ints:∀ (ns:List Int),RepL K H α (ns.map U.int) (ns.map V.int)
 | []=>.nil
 | n::r=>.cons rfl (RepL.ints r)
end
def RO(K:aE)(H:Hp)(a:Addr)(xs:List V):Prop:=
 (∃ o,H a=some (.frz o (.lst xs)))\/∃ (o:Obj) (its:Array aF) (n:Nat),K.lookup a=some o/\o.cls = .type "list" /\ o.dict=none/\o.data = .seq its n/\its.size<=sizeLine/\Vals xs its.toList
theorem RO.sq(h:RO K H a xs):SqL K H a xs:=by
 rcases h with ⟨o,h⟩ | h
 ·exact .inl (.inr ⟨o,h⟩)
 ·exact .inr h
theorem RO.stay(st:Stay H H')(h:RO K H a xs):RO K H' a xs:=by
 rcases h with ⟨o,h⟩ | h
 ·exact .inl ⟨o,st.2 _ _ _ h⟩
 ·exact .inr h
inductive ExcIs(a Ca:Addr)(dd:Option Addr)(fr:Bool)(h:Heap):Prop
 | mk (o:Obj) (vs:Array aF) (h0:h.get? a=some o) (h1:o.cls = .ref Ca) (h2:o.dict=dd) (h3:o.data = .fields vs) (h4:1 < vs.size) (h5:o.slots=#[]) (h6:(fr=true->vs[1]? = some .none)):ExcIs a Ca dd fr h
def DictIs(H:Hp)(dd:Option Addr)(vs:List (Str×V)):Prop:=match dd with
 | none=>vs=[]
 | some dx=>vs≠[]/\∃ od,H dx=some (.frz od (.xd vs))
theorem DictIs.stay{dd:Option Addr}{vs:List (Str×V)}(st:∀ b o ws,H b=some (.frz o (.xd ws))->H' b=some (.frz o (.xd ws)))(h:DictIs H dd vs):DictIs H' dd vs:=by
 cases dd with
 | none=>exact h
 | some dx=>obtain ⟨ne,od,q⟩:=h;exact ⟨ne,od,st _ _ _ q⟩
inductive InsRep(K:aE)(H:Hp)(α:List Addr)(a:Addr)(C:Str)(fs:List (Str×U)):Prop
 | mk (Ca:_) (dx:_) (vs:_) (h0:dF K bQ C=some (some (.ref Ca))) (h1:H a=some (.ins Ca dx vs)) (h2:fs.map (·.1)=vs.map (·.1)) (h3:RepL K H α (fs.map (·.2)) (vs.map (·.2))):InsRep K H α a C fs
inductive ExcRep(K:aE)(H:Hp)(α:List Addr)(a:Addr)(C:Str)(fr:Bool)(fs:List (Str×U)):Prop
 | mk (Ca:_) (dd:_) (vs:_) (h0:dF K bQ C=some (some (.ref Ca))) (h1:H a=some (.ext (ExcIs a Ca dd fr))) (h2:DictIs H dd vs) (h3:fs.map (·.1)=vs.map (·.1)) (h4:RepL K H α (fs.map (·.2)) (vs.map (·.2))):ExcRep K H α a C fr fs
def HRep(K:aE)(H:Hp)(α:List Addr)(a:Addr):HU->Prop
 | .lst us=>∃ xs,H a=some (.lst xs)/\RepL K H α us xs
 | .ro us=>∃ xs,RO K H a xs/\RepL K H α us xs
 | .dic kvs=>∃ vs,H a=some (.dK vs)/\kvs.map (·.1)=vs.map (·.1)/\RepL K H α (kvs.map (·.2)) (vs.map (·.2))
 | .rod kvs=>∃ o vs,H a=some (.frz o (.dK vs))/\kvs.map (·.1)=vs.map (·.1)/\RepL K H α (kvs.map (·.2)) (vs.map (·.2))
 | .ins C fs=>InsRep K H α a C fs
 | .exc C fr fs=>ExcRep K H α a C fr fs
def HU.isRo:HU->Bool
 | .ro _=>true
 | _=>false
structure Abs(K:aE)(H:Hp)(α:List Addr)(L:UH):Prop where
 len:α.length=L.length
 inj:∀ (i j:Nat) (a:Addr) (o o':HU),α[i]? = some a->α[j]? = some a->L[i]? = some o->L[j]? = some o'->i=j\/o.isRo=true\/o'.isRo=true
 rep:∀ (i:Nat) (a:Addr) (o:HU),α[i]? = some a->L[i]? = some o->HRep K H α a o
variable {L:UH}
theorem Abs.addr(A:Abs K H α L){o:HU}(h:L[n]? = some o):∃ a,α[n]? = some a/\HRep K H α a o:=by
 have hn:n < α.length:=by rw[A.len];exact (aK.mp h).1
 exact ⟨α[n],aX hn,A.rep n _ o (aX hn) h⟩
theorem HRep.other{o:HU}(g:Gr H α H' α')(hs:o.isRo=true\/∀ u,H a=some u->H' a=some u)(h:HRep K H α a o):HRep K H' α' a o:=by
 cases o with
 | lst us=>obtain ⟨xs,e,r⟩:=h;exact ⟨xs,(hs.resolve_left (by simp[HU.isRo])) _ e,r.mono g⟩
 | ro us=>obtain ⟨xs,e,r⟩:=h;exact ⟨xs,e.stay g.st,r.mono g⟩
 | dic kvs=>obtain ⟨vs,e,k,r⟩:=h;exact ⟨vs,(hs.resolve_left (by simp[HU.isRo])) _ e,k,r.mono g⟩
 | rod kvs=>obtain ⟨o,vs,e,k,r⟩:=h;exact ⟨o,vs,(hs.resolve_left (by simp[HU.isRo])) _ e,k,r.mono g⟩
 | ins C fs=>obtain ⟨Ca,dx,vs,n,e,k,r⟩:=h;exact ⟨Ca,dx,vs,n,(hs.resolve_left (by simp[HU.isRo])) _ e,k,r.mono g⟩
 | exc C fr fs=>obtain ⟨Ca,dd,vs,n,e,d,k,r⟩:=h;exact ⟨Ca,dd,vs,n,(hs.resolve_left (by simp[HU.isRo])) _ e,d.stay fun b o ws q=>g.st.2 b o _ q,k,r.mono g⟩
theorem HRep.some{o:HU}(h:HRep K H α a o)(n:o.isRo=false):∃ u,H a=some u:=by
 cases o with
 | lst us=>obtain ⟨xs,e,r⟩:=h;exact ⟨_,e⟩
 | ro us=>simp[HU.isRo] at n
 | dic kvs=>obtain ⟨vs,e,k,r⟩:=h;exact ⟨_,e⟩
 | rod kvs=>obtain ⟨o,vs,e,k,r⟩:=h;exact ⟨_,e⟩
 | ins C fs=>obtain ⟨Ca,dx,vs,n',e,k,r⟩:=h;exact ⟨_,e⟩
 | exc C fr fs=>obtain ⟨Ca,dd,vs,n',e,k,r⟩:=h;exact ⟨_,e⟩
theorem Abs.new{u:HU}(A:Abs K H α L)(hp:H p=none)(hr:HRep K (upd H p o) (α ++ [p]) p u) :
  Abs K (upd H p o) (α ++ [p]) (L++[u])/\Gr H α (upd H p o) (α ++ [p]):=by
 have g:Gr H α (upd H p o) (α ++ [p]):=⟨⟨[p],rfl⟩,.new hp o⟩
 have hl:=A.len
 refine ⟨⟨by simp[hl],fun i j a o1 o2 e1 e2 e3 e4=>?_,fun i a o1 e1 e2=>?_⟩,g⟩
 ·have fresh:∀ (k:Nat) (o3:HU),α[k]? = some p->L[k]? = some o3->o3.isRo=true:=fun k o3 q1 q2=>by
   cases hh:o3.isRo with
   | true=>rfl
   | false=>
    obtain ⟨u3,q⟩:=(A.rep k p o3 q1 q2).some hh
    rw[hp] at q;cases q
  by_cases hi:i < α.length
  ·rw[bA hi] at e1
   rw[bA (by omega)] at e3
   by_cases hj:j < α.length
   ·rw[bA hj] at e2
    rw[bA (by omega)] at e4
    exact A.inj i j a o1 o2 e1 e2 e3 e4
   ·rw[cR (by omega)] at e2
    have:a=p:=by
     cases hk:j - α.length with
     | zero=>rw[hk] at e2;simp at e2;exact e2.symm
     | succ k=>rw[hk] at e2;simp at e2
    subst this
    exact .inr (.inl (fresh i o1 e1 e3))
  ·rw[cR (by omega)] at e1
   have hia:a=p/\i = α.length:=by
    cases hk:i - α.length with
    | zero=>rw[hk] at e1;simp at e1;exact ⟨e1.symm,by omega⟩
    | succ k=>rw[hk] at e1;simp at e1
   obtain ⟨rfl,hi'⟩:=hia
   by_cases hj:j < α.length
   ·rw[bA hj] at e2
    rw[bA (by omega)] at e4
    exact .inr (.inr (fresh j o2 e2 e4))
   ·rw[cR (by omega)] at e2
    have:j = α.length:=by
     cases hk:j - α.length with
     | zero=>omega
     | succ k=>rw[hk] at e2;simp at e2
    exact .inl (by omega)
 ·by_cases hi:i < α.length
  ·rw[bA hi] at e1
   rw[bA (by omega)] at e2
   refine (A.rep i a o1 e1 e2).other g ?_
   exact .inr fun u3 q=>by rw[Bj (B4 q hp)];exact q
  ·rw[cR (by omega)] at e1
   rw[cR (by omega)] at e2
   have h1:i - α.length=0:=by
    cases hk:i - α.length with
    | zero=>rfl
    | succ k=>rw[hk] at e1;simp at e1
   rw[h1] at e1
   rw[show i - L.length=0 by omega] at e2
   simp at e1 e2
   subst e1;subst e2
   exact hr
theorem Abs.put{o0:HO}{u0 u:HU}(A:Abs K H α L)(hn:α[n]? = some p)(hL:L[n]? = some u0)(hro:u0.isRo=false)(hro':u.isRo=false)(hp:H p=some o0)(hm:Mut (some o0))(hr:HRep K (upd H p o) α p u) :
  Abs K (upd H p o) α (L.set n u)/\Gr H α (upd H p o) α:=by
 have g:Gr H α (upd H p o) α:=⟨⟨[],by simp⟩,.write hp hm o⟩
 have hl:=A.len
 have hlt:n < L.length:=(aK.mp hL).1
 have look:∀ (i:Nat) (o1:HU),(L.set n u)[i]? = some o1->∃ o2,L[i]? = some o2/\o2.isRo=o1.isRo/\(i≠n->o2=o1):=fun i o1 e=>by
  by_cases hi:n=i
  ·subst hi
   rw[bU hlt] at e
   cases e
   exact ⟨u0,hL,by rw[hro,hro'],fun z=>absurd rfl z⟩
  ·rw[bW hi] at e
   exact ⟨o1,e,rfl,fun _=>rfl⟩
 refine ⟨⟨by simp[hl],fun i j a o1 o2 e1 e2 e3 e4=>?_,fun i a o1 e1 e2=>?_⟩,g⟩
 ·obtain ⟨x1,q1,r1,_⟩:=look i o1 e3
  obtain ⟨x2,q2,r2,_⟩:=look j o2 e4
  rw[<- r1,<- r2]
  exact A.inj i j a x1 x2 e1 e2 q1 q2
 ·by_cases hi:n=i
  ·subst hi
   rw[bU hlt] at e2
   cases e2
   rw[hn] at e1;cases e1
   exact hr
  ·rw[bW hi] at e2
   refine (A.rep i a o1 e1 e2).other g ?_
   by_cases hap:a=p
   ·subst hap
    rcases A.inj i n a o1 u0 e1 hn e2 hL with z | z | z
    ·exact absurd z.symm hi
    ·exact .inl z
    ·rw[hro] at z;cases z
   ·exact .inr fun u3 q=>by rw[Bj hap];exact q
structure RepS(K:aE)(H:Hp)(α:List Addr)(δ:UE)(σ:L2.St):Prop where
 len:δ.length = σ.length
 at_:∀ (i:Nat) (u:U),δ[i]? = some (some u)->∃ v,σ[i]? = some (some v)/\RepU K H α u v
variable {δ:UE}{σ:L2.St}
theorem RepS.mono(g:Gr H α H' α')(h:RepS K H α δ σ):RepS K H' α' δ σ:=
 ⟨h.len,fun i u e=>let ⟨v,q,r⟩:=h.at_ i u e;⟨v,q,r.mono g⟩⟩
theorem RepS.set(h:RepS K H α δ σ)(i:Nat){v:V}(r:RepU K H α u v):RepS K H α (δ.set i (some u)) (σ.set i (some v)):=
 ⟨by simp[h.len],fun j w e=>by
  by_cases hj:i=j
  ·subst hj
   by_cases hi:i < δ.length
   ·rw[bU hi] at e
    cases e
    exact ⟨v,bU (by rw[<- h.len];exact hi),r⟩
   ·rw[iK (by simpa using hi)] at e;cases e
  ·rw[bW hj] at e
   obtain ⟨v',q,r'⟩:=h.at_ j w e
   exact ⟨v',by rw[bW hj];exact q,r'⟩⟩
variable {us:List U}
theorem RepS.start(N:List Str){vs:List V}(h:RepL K H α us vs):RepS K H α (us.map some++bM (N.length - us.length) none) (start N vs):=by
 have hl:=h.length
 refine ⟨by simp[L2.start,hl],fun i u e=>?_⟩
 by_cases hi:i < us.length
 ·rw[bA (by simpa using hi),bJ] at e
  cases q:us[i]? with
  | none=>rw[q] at e;simp at e
  | some w=>
   rw[q] at e
   simp at e
   subst e
   obtain ⟨x,e2,r⟩:=h.get q
   refine ⟨x,?_,r⟩
   unfold L2.start
   rw[bA (by simp;omega),bJ,e2];rfl
 ·rw[cR (by simpa using hi)] at e
  have:=dX e
  simp at this
abbrev FE:=UE->UH->Option (U×UH)
abbrev FT:=UE->UH->Option (Bool×UH)
abbrev FA:=UE->UH->Option (List U×UH)
inductive lE(K:aE)(f:FE)(σ:L2.St)(H:Hp)(Q:VK):Prop
 | mk (α:List Addr) (δ:UE) (L:UH) (A:Abs K H α L) (S:RepS K H α δ σ) (u:U) (L':UH) (e:f δ L=some (u,L')) (q:∀ v H' α',Gr H α H' α'->Abs K H' α' L'->RepU K H' α' u v->Q v H'):lE K f σ H Q
inductive lT(K:aE)(f:FT)(σ:L2.St)(H:Hp)(Q:Bool->Hp->Prop):Prop
 | mk (α:List Addr) (δ:UE) (L:UH) (A:Abs K H α L) (S:RepS K H α δ σ) (b:Bool) (L':UH) (e:f δ L=some (b,L')) (q:∀ H' α',Gr H α H' α'->Abs K H' α' L'->Q b H'):lT K f σ H Q
inductive lA(K:aE)(f:FA)(σ:L2.St)(H:Hp)(Q:List V->Hp->Prop):Prop
 | mk (α:List Addr) (δ:UE) (L:UH) (A:Abs K H α L) (S:RepS K H α δ σ) (us:List U) (L':UH) (e:f δ L=some (us,L')) (q:∀ vs H' α',Gr H α H' α'->Abs K H' α' L'->RepL K H' α' us vs->Q vs H'):lA K f σ H Q
def PEF(X:Cx)(e:Expr)(f:FE):Prop:=PE X e (lE X.K f)
def PTF(X:Cx)(e:Expr)(f:FT):Prop:=PT X e (lT X.K f)
def PWF(X:Cx)(e:Expr)(f:FT):Prop:=PW X e (lT X.K f)
def PAF(X:Cx)(es:List Expr)(f:FA):Prop:=PA X es (lA X.K f)
variable {X:Cx}{e:Expr}{es:List Expr}{t:TE}
section
theorem PE.imp{t':TE}(h:PE X e t)(hi:∀ σ H Q,t' σ H Q->t σ H Q):PE X e t':=fun pins s σ H Q I q=>h pins s σ H Q I (hi σ H Q q)
theorem PT.imp{t t':TT}(h:PT X e t)(hi:∀ σ H Q,t' σ H Q->t σ H Q):PT X e t':=fun pins s σ H Q I q=>h pins s σ H Q I (hi σ H Q q)
theorem PW.imp{t t':TT}(h:PW X e t)(hi:∀ σ H Q,t' σ H Q->t σ H Q):PW X e t':=fun wh pins s σ H Q I q=>h wh pins s σ H Q I (hi σ H Q q)
theorem PA.imp{t t':TA}(h:PA X es t)(hi:∀ σ H Q,t' σ H Q->t σ H Q):PA X es t':=fun pos pins s σ H Q I q=>h pos pins s σ H Q I (hi σ H Q q)
end
def Ae(i:Nat):FE:=fun δ L=>(δ[i]?).join.map fun u=>(u,L)
def fC(u:U):FE:=fun _ L=>some (u,L)
variable {x:Str}{b c:Expr}{pos:Pos}{r:R2}{sem:S2}{fa fb f:FE}{op:CmpOp}
section
variable {a:Expr}
theorem Ah(i:Nat)(hN:X.N[i]? = some x:=by rfl)(hv:Vis X.env.scope x:=by first | exact rD rfl | exact qB (rD rfl) | exact qB (qB rfl))
  (hd:(x == ("__debug__" : Str))=false:=by decide) (hcd:(x == ("__classdict__" : Str))=false:=by decide):PEF X (.Name x pos) (Ae i):=by
 refine PE.imp (Aut hN hv hd hcd) ?_
 rintro σ H Q ⟨α,δ,L,A,S,u,L',e,q⟩
 unfold Ae at e
 cases h:δ[i]? with
 | none=>rw[h] at e;simp at e
 | some o=>
  cases o with
  | none=>rw[h] at e;simp at e
  | some w=>
   rw[h] at e
   simp at e
   obtain ⟨rfl,rfl⟩:=e
   obtain ⟨v,hv,r⟩:=S.at_ i w h
   exact ⟨v,hv,q v H α (.refl _ _) A r⟩
theorem Ai3{v:V}(h:PE X e (tC v))(r:∀ H α,RepU X.K H α u v):PEF X e (fC u):=by
 refine PE.imp h ?_
 rintro σ H Q ⟨α,δ,L,A,S,w,L',e,q⟩
 unfold fC at e
 cases e
 exact q v H α (.refl _ _) A (r H α)
theorem Aj{i:Int}{j pos}:PEF X (.Constant (.int i) j pos) (fC (.int i)):=Ai3 Awd fun _ _=>rfl
theorem Sh{b:Bool}{j pos}:PEF X (.Constant (.bool b) j pos) (fC (.bl b)):=Ai3 Azw fun _ _=>rfl
theorem Awi{j pos}:PEF X (.Constant .none j pos) (fC .non):=Ai3 Avr fun _ _=>rfl
theorem A7{j pos}:PEF X (.Constant (.str x) j pos) (fC (.str x)):=Ai3 Au9 fun _ _=>rfl
abbrev S2:=U->U->UH->Option (U×UH)
def Dr(K:aE)(r:R2)(sem:S2):Prop:=∀ (H:Hp) (α:List Addr) (L:UH) (u w:U) (x y:V) (z:U) (L':UH) (Q:VK),Abs K H α L->RepU K H α u x->RepU K H α w y->sem u w L=some (z,L') ->
 (∀ v H' α',Gr H α H' α'->Abs K H' α' L'->RepU K H' α' z v->Q v H')->r x y H Q
def f2(sem:S2)(fa fb:FE):FE:=fun δ L=>(fa δ L).bind fun p=>(fb δ p.2).bind fun q=>sem p.1 q.1 q.2
theorem Afi(h:Dr K r sem):∀ σ H Q,lE K (f2 sem fa fb) σ H Q->tOp r (lE K fa) (lE K fb) σ H Q:=by
 rintro σ H Q ⟨α,δ,L,A,S,z,L3,e,q⟩
 obtain ⟨⟨u,L1⟩,e1,e⟩:=aA.mp e
 obtain ⟨⟨w,L2⟩,e2,e3⟩:=aA.mp e
 refine ⟨α,δ,L,A,S,u,L1,e1,fun x H1 α1 g1 A1 r1=>⟨α1,δ,L1,A1,S.mono g1,w,L2,e2,fun y H2 α2 g2 A2 r2=>?_⟩⟩
 exact h H2 α2 L2 u w x y z L3 Q A2 (r1.mono g2) r2 e3 fun v H3 α3 g3 A3 r3=>q v H3 α3 (g1.trans (g2.trans g3)) A3 r3
theorem B2{op:Operator}(ho:OpR X (gE op) r)(h:Dr X.K r sem)(ha:PEF X a fa)(hb:PEF X b fb):PEF X (.BinOp a op b pos) (f2 sem fa fb):=PE.imp (Awo ho ha hb) (Afi h)
theorem Hv(ho:OpR X (cX op) r)(h:Dr X.K r sem)(ha:PEF X a fa)(hb:PEF X b fb)(hm:behindInMarks op b=false):PEF X (.Compare a [op] [b] pos) (f2 sem fa fb):=PE.imp (Aqb ho ha hb hm) (Afi h)
def A0(f:FE):FT:=fun δ L=>(f δ L).bind fun p=>match p.1 with | .bl k=>some (k,p.2) | _=>none
theorem Ahp(ht:∀ σ H Q,lE K f σ H Q->t σ H Q):∀ σ H Q,lT K (A0 f) σ H Q->Amh t σ H Q:=by
 rintro σ H Q ⟨α,δ,L,A,S,b,L1,e,q⟩
 obtain ⟨⟨u,L2⟩,e1,e⟩:=aA.mp e
 refine ht σ H _ ⟨α,δ,L,A,S,u,L2,e1,fun x H1 α1 g1 A1 r1=>?_⟩
 cases u with
 | bl k=>simp at e;obtain ⟨rfl,rfl⟩:=e;exact ⟨k,r1,q H1 α1 g1 A1⟩
 | _=>simp at e
theorem Bf(ho:OpR X (cX op) r)(h:Dr X.K r sem)(ha:PEF X a fa)(hb:PEF X b fb)(hm:behindInMarks op b=false):PTF X (.Compare a [op] [b] pos) (A0 (f2 sem fa fb)):=PT.imp (Ao4 ho ha hb hm) (Ahp (Afi h))
end
variable {g:FA}
section
variable {a:Expr}{rest:List Expr}
def Mg(f g:FT):FT:=fun δ L=>(f δ L).bind fun p=>if p.1=true then g δ p.2 else some (false,p.2)
def fOr(f g:FT):FT:=fun δ L=>(f δ L).bind fun p=>if p.1=true then some (true,p.2) else g δ p.2
def Rl(f:FT):FT:=fun δ L=>(f δ L).map fun p=>(!p.1,p.2)
def Se(f g:FE):FE:=fun δ L=>(f δ L).bind fun p=>match p.1 with | .bl k=>if k=true then g δ p.2 else some (.bl false,p.2) | _=>none
def An4(f g:FE):FE:=fun δ L=>(f δ L).bind fun p=>match p.1 with | .bl k=>if k=true then some (.bl true,p.2) else g δ p.2 | _=>none
def Ayt(f:FE):FE:=fun δ L=>(f δ L).bind fun p=>match p.1 with | .bl k=>some (.bl (!k),p.2) | _=>none
def fIf(c:FT)(f g:FE):FE:=fun δ L=>(c δ L).bind fun p=>if p.1=true then f δ p.2 else g δ p.2
theorem Gh{f:FT}(ha:PTF X a f):PWF X (.BoolOp .And [a] pos) f:=Aps ha
theorem Qz{f:FT}(ha:PTF X a f):PWF X (.BoolOp .Or [a] pos) f:=Au6 ha
theorem Iu{f g:FT}(ha:PTF X a f)(hb:PWF X (.BoolOp .And (b::rest) pos) g):PWF X (.BoolOp .And (a::b::rest) pos) (Mg f g):=by
 refine PW.imp (Au0 ha hb) ?_
 rintro σ H Q ⟨α,δ,L,A,S,z,L3,e,q⟩
 obtain ⟨⟨u,L1⟩,e1,e⟩:=aA.mp e
 refine ⟨α,δ,L,A,S,u,L1,e1,fun H1 α1 g1 A1=>?_⟩
 cases u with
 | true=>exact Acu ⟨α1,δ,L1,A1,S.mono g1,z,L3,e,fun H2 α2 g2 A2=>q H2 α2 (g1.trans g2) A2⟩
 | false=>cases e;exact Ab4 (q H1 α1 g1 A1)
theorem Vf{f g:FT}(ha:PTF X a f)(hb:PWF X (.BoolOp .Or (b::rest) pos) g):PWF X (.BoolOp .Or (a::b::rest) pos) (fOr f g):=by
 refine PW.imp (Az0 ha hb) ?_
 rintro σ H Q ⟨α,δ,L,A,S,z,L3,e,q⟩
 obtain ⟨⟨u,L1⟩,e1,e⟩:=aA.mp e
 refine ⟨α,δ,L,A,S,u,L1,e1,fun H1 α1 g1 A1=>?_⟩
 cases u with
 | false=>exact Ab4 ⟨α1,δ,L1,A1,S.mono g1,z,L3,e,fun H2 α2 g2 A2=>q H2 α2 (g1.trans g2) A2⟩
 | true=>cases e;exact Acu (q H1 α1 g1 A1)
theorem PWF.pt{f:FT}(h:PWF X e f):PTF X e f:=PW.pt h
theorem Oa{f:FT}(ha:PTF X a f):PTF X (.UnaryOp .Not a pos) (Rl f):=by
 refine PT.imp (Aub ha) ?_
 rintro σ H Q ⟨α,δ,L,A,S,z,L3,e,q⟩
 obtain ⟨⟨u,L1⟩,e1,e⟩:=aH.mp e
 cases e
 exact ⟨α,δ,L,A,S,u,L1,e1,fun H1 α1 g1 A1=>q H1 α1 g1 A1⟩
theorem Q3{op}(h:PEF X a f):PEF X (.BoolOp op [a] pos) f:=Aum h
theorem Rg{g:FE}(ha:PEF X a f)(hb:PEF X (.BoolOp .And (b::rest) pos) g):PEF X (.BoolOp .And (a::b::rest) pos) (Se f g):=by
 refine PE.imp (Ats ha hb) ?_
 rintro σ H Q ⟨α,δ,L,A,S,z,L3,e,q⟩
 obtain ⟨⟨u,L1⟩,e1,e⟩:=aA.mp e
 refine ⟨α,δ,L,A,S,u,L1,e1,fun v H1 α1 g1 A1 r1=>?_⟩
 cases u with
 | bl k=>
  cases k with
  | true=>exact ⟨true,r1,Acu ⟨α1,δ,L1,A1,S.mono g1,z,L3,e,fun v H2 α2 g2 A2 r=>q v H2 α2 (g1.trans g2) A2 r⟩⟩
  | false=>cases e;exact ⟨false,r1,Ab4 (q _ H1 α1 g1 A1 rfl)⟩
 | _=>simp at e
theorem Awv{g:FE}(ha:PEF X a f)(hb:PEF X (.BoolOp .Or (b::rest) pos) g):PEF X (.BoolOp .Or (a::b::rest) pos) (An4 f g):=by
 refine PE.imp (Az7 ha hb) ?_
 rintro σ H Q ⟨α,δ,L,A,S,z,L3,e,q⟩
 obtain ⟨⟨u,L1⟩,e1,e⟩:=aA.mp e
 refine ⟨α,δ,L,A,S,u,L1,e1,fun v H1 α1 g1 A1 r1=>?_⟩
 cases u with
 | bl k=>
  cases k with
  | false=>exact ⟨false,r1,Ab4 ⟨α1,δ,L1,A1,S.mono g1,z,L3,e,fun v H2 α2 g2 A2 r=>q v H2 α2 (g1.trans g2) A2 r⟩⟩
  | true=>cases e;exact ⟨true,r1,Acu (q _ H1 α1 g1 A1 rfl)⟩
 | _=>simp at e
theorem Aze{t:FT}{g:FE}(hc:PTF X c t)(ha:PEF X a f)(hb:PEF X b g):PEF X (.IfExp c a b pos) (fIf t f g):=by
 refine PE.imp (Ame hc ha hb) ?_
 rintro σ H Q ⟨α,δ,L,A,S,z,L3,e,q⟩
 obtain ⟨⟨u,L1⟩,e1,e⟩:=aA.mp e
 refine ⟨α,δ,L,A,S,u,L1,e1,fun H1 α1 g1 A1=>?_⟩
 cases u with
 | true=>exact Acu ⟨α1,δ,L1,A1,S.mono g1,z,L3,e,fun v H2 α2 g2 A2 r=>q v H2 α2 (g1.trans g2) A2 r⟩
 | false=>exact Ab4 ⟨α1,δ,L1,A1,S.mono g1,z,L3,e,fun v H2 α2 g2 A2 r=>q v H2 α2 (g1.trans g2) A2 r⟩
def Ag:FA:=fun _ L=>some ([],L)
def Ad(f:FE)(g:FA):FA:=fun δ L=>(f δ L).bind fun p=>(g δ p.2).map fun q=>(p.1::q.1,q.2)
theorem Af:PAF X [] Ag:=by
 refine PA.imp Aee ?_
 rintro σ H Q ⟨α,δ,L,A,S,z,L3,e,q⟩
 cases e
 exact q [] H α (.refl _ _) A .nil
theorem Ac(ha:PEF X e f)(hr:PAF X es g)(hs:aT (e::es) X.env=(false,eval e X.env)::aT es X.env:=by rfl):PAF X (e::es) (Ad f g):=by
 refine PA.imp (Te ha hr hs) ?_
 rintro σ H Q ⟨α,δ,L,A,S,z,L3,e,q⟩
 obtain ⟨⟨u,L1⟩,e1,e⟩:=aA.mp e
 obtain ⟨⟨us,L2⟩,e2,e⟩:=aH.mp e
 cases e
 exact ⟨α,δ,L,A,S,u,L1,e1,fun x H1 α1 g1 A1 r1=>⟨α1,δ,L1,A1,S.mono g1,us,L2,e2,fun xs H2 α2 g2 A2 r2=>q (x::xs) H2 α2 (g1.trans g2) A2 (.cons (r1.mono g2) r2)⟩⟩
def F0(n:Nat):Bool:=decide (n<=sizeLine)
def Di(g:FA):FE:=fun δ L=>(g δ L).bind fun p=>if F0 p.1.length=true then some (.tup p.1,p.2) else none
def B1(g:FA):FE:=fun δ L=>(g δ L).bind fun p=>if F0 p.1.length=true then some (.ref p.2.length,p.2++[.lst p.1]) else none
theorem Ed(h:F0 n=true):n<=sizeLine:=of_decide_eq_true h
theorem Abs.tup(A:Abs K H α L)(r:RepL K H α us xs)(hp:H p=none) :
  Gr H α (upd H p (.tup xs)) α/\Abs K (upd H p (.tup xs)) α L/\RepU K (upd H p (.tup xs)) α (.tup us) (.ref p):=by
 have g:Gr H α (upd H p (.tup xs)) α:=⟨⟨[],by simp⟩,.new hp _⟩
 refine ⟨g,⟨A.len,A.inj,fun i a o e1 e2=>(A.rep i a o e1 e2).other g (.inr fun u q=>by rw[Bj (B4 q hp)];exact q)⟩,?_⟩
 unfold RepU
 exact ⟨p,xs,rfl,.of upd_same,r.mono g⟩
theorem Abs.lst(A:Abs K H α L)(r:RepL K H α us xs)(hp:H p=none) :
  Gr H α (upd H p (.lst xs)) (α ++ [p])/\Abs K (upd H p (.lst xs)) (α ++ [p]) (L++[.lst us])/\RepU K (upd H p (.lst xs)) (α ++ [p]) (.ref L.length) (.ref p):=by
 have g:Gr H α (upd H p (.lst xs)) (α ++ [p]):=⟨⟨[p],rfl⟩,.new hp _⟩
 obtain ⟨A',_⟩:=A.new (o:=.lst xs) (u:=.lst us) hp ⟨xs,upd_same,r.mono g⟩
 refine ⟨g,A',?_⟩
 unfold RepU
 exact ⟨p,by rw[<- A.len];simp,rfl⟩
theorem Dp{x1}(h:PAF X es g):PEF X (.Tuple es x1 pos) (Di g):=by
 refine PE.imp (At9 h) ?_
 rintro σ H Q ⟨α,δ,L,A,S,z,L3,e,q⟩
 obtain ⟨⟨us,L1⟩,e1,e⟩:=aA.mp e
 refine ⟨α,δ,L,A,S,us,L1,e1,fun xs H1 α1 g1 A1 r1=>?_⟩
 simp only at e
 split at e
 ·rename_i hs
  cases e
  refine ⟨by rw[<- r1.length];exact Ed hs,fun p hp=>?_⟩
  obtain ⟨g2,A2,r2⟩:=A1.tup r1 hp
  exact q _ _ α1 (g1.trans g2) A2 r2
 ·cases e
theorem Cc(h:PAF X es g):PEF X (.List es pos) (B1 g):=by
 refine PE.imp (Awa h) ?_
 rintro σ H Q ⟨α,δ,L,A,S,z,L3,e,q⟩
 obtain ⟨⟨us,L1⟩,e1,e⟩:=aA.mp e
 refine ⟨α,δ,L,A,S,us,L1,e1,fun xs H1 α1 g1 A1 r1=>?_⟩
 simp only at e
 split at e
 ·rename_i hs
  cases e
  refine ⟨by rw[<- r1.length];exact Ed hs,fun p hp=>?_⟩
  obtain ⟨g2,A2,r2⟩:=A1.lst r1 hp
  exact q _ _ _ (g1.trans g2) A2 r2
 ·cases e
abbrev SC:=List U->UH->Option (U×UH)
def Ro(K:aE)(r:List V->Hp->VK->Prop)(sem:SC):Prop:=∀ (H:Hp) (α:List Addr) (L:UH) (us:List U) (xs:List V) (z:U) (L':UH) (Q:VK),Abs K H α L->RepL K H α us xs->sem us L=some (z,L') ->
 (∀ v H' α',Gr H α H' α'->Abs K H' α' L'->RepU K H' α' z v->Q v H')->r xs H Q
def Be(sem:SC)(g:FA):FE:=fun δ L=>(g δ L).bind fun p=>sem p.1 p.2
theorem Asr{r:List V->Hp->VK->Prop}{sem:SC}(h:Ro K r sem):∀ σ H Q,lE K (Be sem g) σ H Q->tCB r (lA K g) σ H Q:=by
 rintro σ H Q ⟨α,δ,L,A,S,z,L3,e,q⟩
 obtain ⟨⟨us,L1⟩,e1,e⟩:=aA.mp e
 exact ⟨α,δ,L,A,S,us,L1,e1,fun xs H1 α1 g1 A1 r1=>h H1 α1 L1 us xs z L3 Q A1 r1 e fun v H2 α2 g2 A2 r2=>q v H2 α2 (g1.trans g2) A2 r2⟩
variable {p:Pos}{id T:String}{r:List V->Hp->VK->Prop}{sem:SC}
theorem Bn(hc:CallR X (.builtin id) r)(h:Ro X.K r sem)(hg:Gl X x)(hm:X.mg x=none)(hv:eA x=some (.builtin id))(ha:PAF X (e::es) g)(hn:x ≠ "__name__" := by decide)(hdb:(x == ("__debug__" : Str))=false:=by decide)
  (he:aT (e::es) X.env=(false,eval e X.env)::aT es X.env:=by rfl) (hpl:(backTo pos (aT es X.env)).any (·.1)=false:=by rfl) :
  PEF X (.Call (.Name x p) (e::es) [] pos) (Be sem g):=PE.imp (Adc hc hg hm hv ha hn hdb he hpl) (Asr h)
theorem Hg(hc:CallR X (.type T) r)(h:Ro X.K r sem)(hg:Gl X x)(hm:X.mg x=none)(hv:eA x=some (.type T))(ha:PAF X (e::es) g)(hn:x ≠ "__name__" := by decide)(hdb:(x == ("__debug__" : Str))=false:=by decide)
  (he:aT (e::es) X.env=(false,eval e X.env)::aT es X.env:=by rfl) (hpl:(backTo pos (aT es X.env)).any (·.1)=false:=by rfl) :
  PEF X (.Call (.Name x p) (e::es) [] pos) (Be sem g):=PE.imp (Ajl hc hg hm hv ha hn hdb he hpl) (Asr h)
abbrev SM:=U->List U->UH->Option (U×UH)
def Wa(K:aE)(r:V->List V->Hp->VK->Prop)(sem:SM):Prop:=∀ (H:Hp) (α:List Addr) (L:UH) (u:U) (us:List U) (x:V) (xs:List V) (z:U) (L':UH) (Q:VK),Abs K H α L->RepU K H α u x->RepL K H α us xs->sem u us L=some (z,L') ->
 (∀ v H' α',Gr H α H' α'->Abs K H' α' L'->RepU K H' α' z v->Q v H')->r x xs H Q
def tyU(T:String)(u:U)(L:UH):Bool:=match u with
 | .str _=>T == "str"
 | .int _=>T == "int"
 | .tup _=>T == "tuple"
 | .ref n=>match L[n]? with
  | some (.lst _)=>T == "list"
  | some (.ro _)=>T == "list"
  | some (.dic _)=>T == "dict"
  | _=>false
 | _=>false
theorem Aky{x:V}(A:Abs K H α L)(r:RepU K H α u x)(h:tyU T u L=true):tyV K T x H:=by
 cases u with
 | str y=>unfold RepU at r;subst r;simpa[tyU,tyV] using h
 | int i=>unfold RepU at r;subst r;simpa[tyU,tyV] using h
 | ref n=>
  unfold RepU at r
  obtain ⟨a,ea,rfl⟩:=r
  unfold tyU at h
  simp only at h
  cases q:L[n]? with
  | none=>rw[q] at h;simp at h
  | some o=>
   have hr:=A.rep n a o ea q
   rw[q] at h
   cases o with
   | lst us=>simp at h;obtain ⟨xs,e,_⟩:=hr;exact .inl ⟨h,xs,.of e⟩
   | ro us=>simp at h;obtain ⟨xs,e,_⟩:=hr;exact .inl ⟨h,xs,e.sq⟩
   | dic kvs=>simp at h;obtain ⟨vs,e,_⟩:=hr;exact .inr (.inr (.inl ⟨h,.inl ⟨vs,e⟩⟩))
   | rod kvs=>simp at h
   | ins C fs=>simp at h
   | exc C fr fs=>simp at h
 | non=>simp[tyU] at h
 | bl b=>simp[tyU] at h
 | tup l=>
  unfold RepU at r
  obtain ⟨a,ys,rfl,sq,_⟩:=r
  have hT:T = "tuple" := by simpa[tyU] using h
  exact .inr (.inl ⟨hT,ys,sq⟩)
def C2(T:String)(sem:SM)(f:FE)(g:FA):FE:=fun δ L=>(f δ L).bind fun p=>if tyU T p.1 p.2=true then (g δ p.2).bind fun q=>sem p.1 q.1 q.2 else none
theorem Ay8{r:V->List V->Hp->VK->Prop}{sem:SM}(h:Wa K r sem):∀ σ H Q,lE K (C2 T sem f g) σ H Q->tBM K T r (lE K f) (lA K g) σ H Q:=by
 rintro σ H Q ⟨α,δ,L,A,S,z,L3,e,q⟩
 obtain ⟨⟨u,L1⟩,e1,e⟩:=aA.mp e
 simp only at e
 split at e
 ·rename_i ht
  obtain ⟨⟨us,L2⟩,e2,e⟩:=aA.mp e
  refine ⟨α,δ,L,A,S,u,L1,e1,fun x H1 α1 g1 A1 r1=>⟨Aky A1 r1 ht,α1,δ,L1,A1,S.mono g1,us,L2,e2,fun xs H2 α2 g2 A2 r2=>?_⟩⟩
  exact h H2 α2 L2 u us x xs z L3 Q A2 (r1.mono g2) r2 e fun v H3 α3 g3 A3 r3=>q v H3 α3 (g1.trans (g2.trans g3)) A3 r3
 ·cases e
theorem Au2{r:V->List V->Hp->VK->Prop}{sem:SM}(h:Wa K r sem):∀ σ H Q,lE K (C2 T sem f Ag) σ H Q->A0o K T r (lE K f) σ H Q:=by
 rintro σ H Q ⟨α,δ,L,A,S,z,L3,e,q⟩
 obtain ⟨⟨u,L1⟩,e1,e⟩:=aA.mp e
 simp only at e
 split at e
 ·rename_i ht
  obtain ⟨⟨us,L2⟩,e2,e⟩:=aA.mp e
  cases e2
  refine ⟨α,δ,L,A,S,u,L1,e1,fun x H1 α1 g1 A1 r1=>⟨Aky A1 r1 ht,?_⟩⟩
  exact h H1 α1 L1 u [] x [] z L3 Q A1 r1 .nil e fun v H3 α3 g3 A3 r3=>q v H3 α3 (g1.trans g3) A3 r3
 ·cases e
section
variable {o:Expr}{name:Str}{apos cpos:Pos}{T id:String}{r:V->List V->Hp->VK->Prop}{sem:SM}
theorem Am6(pa:qA T)(slot:Slot T name id)(hty:typeOf (.builtin id)=pure (.type "method_descriptor"))(hm:MtR X id r)(h:Wa X.K r sem)(ho:PEF X o f)
  (hbase:attributeBase o name X.env (eval o X.env)=eval o X.env:=by rfl) (hline:(apos.endLine == cpos.line)=true:=by rfl):PEF X (.Call (.Attribute o name apos) [] [] cpos) (C2 T sem f Ag):=
 PE.imp (Aui pa slot hty hm ho hbase hline) (Au2 h)
theorem Md(pa:qA T)(slot:Slot T name id)(hty:typeOf (.builtin id)=pure (.type "method_descriptor"))(hm:MtR X id r)(h:Wa X.K r sem)(ho:PEF X o f)(ha:PAF X (e::es) g)
  (hbase:attributeBase o name X.env (eval o X.env)=eval o X.env:=by rfl)
  (hfew:((backTo cpos (aT (e::es) X.env)).all (fun x=>!x.1)&&(backToKw cpos (keywordEach [] X.env)).all (fun x=>x.1.isSome)&&decide ((e::es).length+([]:List iP).length+(if ([]:List iP).isEmpty then 0 else 1) < 30))=true:=by rfl)
  (hline:(apos.endLine == cpos.line)=true:=by rfl) (hst:aT (e::es) X.env=(false,eval e X.env)::aT es X.env:=by rfl) (hpl:(backTo cpos (aT es X.env)).any (·.1)=false:=by rfl) :
  PEF X (.Call (.Attribute o name apos) (e::es) [] cpos) (C2 T sem f g):=
 PE.imp (A0x pa slot hty hm ho ha hbase hfew hline hst hpl) (Ay8 h)
end
end
abbrev FN:=List U->UH->Option (U×UH)
inductive spF(K:aE)(n:Nat)(f:FN)(vs:List V)(H:Hp)(Q:VK)(E:XK):Prop
 | mk (α:List Addr) (L:UH) (us:List U) (A:Abs K H α L) (r:RepL K H α us vs) (hl:us.length=n) (u:U) (L':UH) (e:f us L=some (u,L')) (q:∀ v H' α',Gr H α H' α'->Abs K H' α' L'->RepU K H' α' u v->Q v H'):spF K n f vs H Q E
variable {k:Nat}{r':R2}{s1 s2:S2}
section
variable {a o:Expr}{p:Pos}{f:Addr}{fd:dW}{ps:List Str}{F:FN}{fc:FE}
def Ar(n:Nat)(F:FN)(g:FA):FE:=fun δ L=>(g δ L).bind fun p=>if p.1.length=n then F p.1 p.2 else none
theorem Ao6(hF:FnOk X.prog X.w X.K X.mg X.base CX0 k f fd ps (spF X.K n F))(hr:Room k X.A)(hg:Gl X x)(hm:X.mg x=some (.ref f))(hk:dU X.K (.ref f)=true)(hb:Binds X.K fd ps [])
  (ha:PAF X (e::es) g) (hdb:(x == ("__debug__" : Str))=false:=by decide) (he:aT (e::es) X.env=(false,eval e X.env)::aT es X.env:=by rfl) (hpl:(backTo pos (aT es X.env)).any (·.1)=false:=by rfl) :
  PEF X (.Call (.Name x p) (e::es) [] pos) (Ar n F g):=by
 refine PE.imp (Aow hF hr hg hm hk hb .nil Agn ha hdb he hpl) ?_
 rintro σ H Q ⟨α,δ,L,A,S,z,L3,e,q⟩
 obtain ⟨⟨us,L1⟩,e1,e⟩:=aA.mp e
 simp only at e
 split at e
 ·rename_i hl
  refine ⟨α,δ,L,A,S,us,L1,e1,fun xs H1 α1 g1 A1 r1=>?_⟩
  exact ⟨α1,L1,us,A1,by rw[aV];exact r1,hl,z,L3,e,fun v H2 α2 g2 A2 r2=>q v H2 α2 (g1.trans g2) A2 r2⟩
 ·cases e
theorem Bi(hr:IxR X r)(h:Dr X.K r sem)(ha:PEF X a fa)(hb:PEF X b fb)(hs:Agq b):PEF X (.Subscript a b pos) (f2 sem fa fb):=PE.imp (Ay2 hr ha hb hs) (Afi h)
abbrev FO:=UE->UH->Option (Option Int×UH)
inductive lO(K:aE)(f:FO)(σ:L2.St)(H:Hp)(Q:Option Int->Hp->Prop):Prop
 | mk (α:List Addr) (δ:UE) (L:UH) (A:Abs K H α L) (S:RepS K H α δ σ) (i:Option Int) (L':UH) (e:f δ L=some (i,L')) (q:∀ H' α',Gr H α H' α'->Abs K H' α' L'->Q i H'):lO K f σ H Q
def POF(X:Cx)(e:Option Expr)(f:FO):Prop:=PO X e (lO X.K f)
def Bq:FO:=fun _ L=>some (none,L)
def Cw(f:FE):FO:=fun δ L=>(f δ L).bind fun p=>match p.1 with | .int i=>some (some i,p.2) | _=>none
theorem PO.imp{e:Option Expr}{t t':TO}(h:PO X e t)(hi:∀ σ H Q,t' σ H Q->t σ H Q):PO X e t':=fun pins s σ H Q I q=>h pins s σ H Q I (hi σ H Q q)
theorem Dv:POF X none Bq:=by
 refine PO.imp Ao7 ?_
 rintro σ H Q ⟨α,δ,L,A,S,z,L3,e,q⟩
 cases e
 exact q H α (.refl _ _) A
theorem Dl(h:PEF X e fa):POF X (some e) (Cw fa):=by
 refine PO.imp (Apo h) ?_
 rintro σ H Q ⟨α,δ,L,A,S,z,L3,e,q⟩
 obtain ⟨⟨u,L1⟩,e1,e⟩:=aA.mp e
 refine ⟨α,δ,L,A,S,u,L1,e1,fun x H1 α1 g1 A1 r1=>?_⟩
 cases u with
 | int i=>cases e;exact ⟨i,r1,q H1 α1 g1 A1⟩
 | _=>simp at e
abbrev SS:=U->Option Int->Option Int->UH->Option (U×UH)
def Amd(K:aE)(r:V->Option Int->Option Int->Hp->VK->Prop)(sem:SS):Prop:=∀ (H:Hp) (α:List Addr) (L:UH) (u:U) (x:V) (lo hi:Option Int) (z:U) (L':UH) (Q:VK),Abs K H α L->RepU K H α u x->sem u lo hi L=some (z,L') ->
 (∀ v H' α',Gr H α H' α'->Abs K H' α' L'->RepU K H' α' z v->Q v H')->r x lo hi H Q
def fSl(sem:SS)(f:FE)(l h:FO):FE:=fun δ L=>(f δ L).bind fun p=>(l δ p.2).bind fun q=>(h δ q.2).bind fun r=>sem p.1 q.1 r.1 r.2
theorem Dz{r:V->Option Int->Option Int->Hp->VK->Prop}{sem:SS}{lo hi:Option Expr}{fl fh:FO}{p2:Pos}(hr:SlR X r)(h:Amd X.K r sem)(he:PEF X e fa)(hl:POF X lo fl)(hu:POF X hi fh):PEF X (.Subscript e (.Slice lo hi none p2) pos) (fSl sem fa fl fh):=by
 refine PE.imp (Amo hr he hl hu) ?_
 rintro σ H Q ⟨α,δ,L,A,S,z,L3,e,q⟩
 obtain ⟨⟨u,L1⟩,e1,e⟩:=aA.mp e
 obtain ⟨⟨i,L2⟩,e2,e⟩:=aA.mp e
 obtain ⟨⟨j,L4⟩,e3,e⟩:=aA.mp e
 refine ⟨α,δ,L,A,S,u,L1,e1,fun x H1 α1 g1 A1 r1=>⟨α1,δ,L1,A1,S.mono g1,i,L2,e2,fun H2 α2 g2 A2=>⟨α2,δ,L2,A2,(S.mono g1).mono g2,j,L4,e3,fun H3 α3 g3 A3=>?_⟩⟩⟩
 exact h H3 α3 L4 u x i j z L3 Q A3 ((r1.mono g2).mono g3) e fun v H4 α4 g4 A4 r4=>q v H4 α4 (g1.trans (g2.trans (g3.trans g4))) A4 r4
def Ug(f:FE):FE:=fun δ L=>(f δ L).bind fun p=>match p.1 with | .int i=>some (.int (-i),p.2) | _=>none
theorem Adu(ha:PEF X a fa):PEF X (.UnaryOp .USub a pos) (Ug fa):=by
 refine PE.imp (A0v Auo ha) ?_
 rintro σ H Q ⟨α,δ,L,A,S,z,L3,e,q⟩
 obtain ⟨⟨u,L1⟩,e1,e⟩:=aA.mp e
 refine ⟨α,δ,L,A,S,u,L1,e1,fun x H1 α1 g1 A1 r1=>?_⟩
 cases u with
 | int i=>cases e;exact ⟨i,r1,q _ H1 α1 g1 A1 rfl⟩
 | _=>simp at e
def Hf(s1 s2:S2)(fa fb fc:FE):FE:=fun δ L=>(fa δ L).bind fun p=>(fb δ p.2).bind fun q=>(s1 p.1 q.1 q.2).bind fun r=>match r.1 with
 | .bl k=>if k=true then (fc δ r.2).bind fun t=>s2 q.1 t.1 t.2 else some (.bl false,r.2)
 | _=>none
theorem Abz(h1:Dr K r s1)(h2:Dr K r' s2):∀ σ H Q,lE K (Hf s1 s2 fa fb fc) σ H Q->Adw r r' (lE K fa) (lE K fb) (lE K fc) σ H Q:=by
 rintro σ H Q ⟨α,δ,L,A,S,z,L3,e,q⟩
 obtain ⟨⟨u,L1⟩,e1,e⟩:=aA.mp e
 obtain ⟨⟨w,L2⟩,e2,e⟩:=aA.mp e
 obtain ⟨⟨t,L4⟩,e3,e⟩:=aA.mp e
 refine ⟨α,δ,L,A,S,u,L1,e1,fun x H1 α1 g1 A1 r1=>⟨α1,δ,L1,A1,S.mono g1,w,L2,e2,fun y H2 α2 g2 A2 r2=>?_⟩⟩
 refine h1 H2 α2 L2 u w x y t L4 _ A2 (r1.mono g2) r2 e3 fun v H3 α3 g3 A3 r3=>?_
 cases t with
 | bl k=>
  refine ⟨k,r3,?_⟩
  cases k with
  | true=>
   obtain ⟨⟨s,L5⟩,e4,e⟩:=aA.mp e
   refine Acu ⟨α3,δ,L4,A3,((S.mono g1).mono g2).mono g3,s,L5,e4,fun y' H4 α4 g4 A4 r4=>?_⟩
   exact h2 H4 α4 L5 w s y y' z L3 Q A4 ((r2.mono g3).mono g4) r4 e fun v H5 α5 g5 A5 r5=>q v H5 α5 (g1.trans (g2.trans (g3.trans (g4.trans g5)))) A5 r5
  | false=>cases e;exact Ab4 (q _ H3 α3 (g1.trans (g2.trans g3)) A3 rfl)
 | _=>simp at e
theorem Vm{op':CmpOp}(ho:OpR X (cX op) r)(ho':OpR X (cX op') r')(h1:Dr X.K r s1)(h2:Dr X.K r' s2)(ha:PEF X a fa)(hb:PEF X b fb)(hc:PEF X c fc)(hm:lastMarks [op,op'] [b,c]=false:=by with_unfolding_all rfl) :
  PEF X (.Compare a [op,op'] [b,c] pos) (Hf s1 s2 fa fb fc):=PE.imp (Amx ho ho' ha hb hc hm) (Abz h1 h2)
theorem Xp{op':CmpOp}(ho:OpR X (cX op) r)(ho':OpR X (cX op') r')(h1:Dr X.K r s1)(h2:Dr X.K r' s2)(ha:PEF X a fa)(hb:PEF X b fb)(hc:PEF X c fc)(hm:lastMarks [op,op'] [b,c]=false:=by with_unfolding_all rfl) :
  PTF X (.Compare a [op,op'] [b,c] pos) (A0 (Hf s1 s2 fa fb fc)):=PT.imp (Am4 ho ho' ha hb hc hm) (Ahp (Abz h1 h2))
def Afd(u:U)(L:UH):Option Bool:=match u with
 | .non=>some false
 | .bl b=>some b
 | .int i=>some (i != 0)
 | .str y=>if F0 y.length=true then some ((y.length:Int) != 0) else none
 | .tup l=>some (!l.isEmpty)
 | .ref n=>match L[n]? with
  | some (.lst xs)=>some (!xs.isEmpty)
  | some (.ro xs)=>some (!xs.isEmpty)
  | some (.dic kvs)=>some (!kvs.isEmpty)
  | _=>none
theorem J0{α β:Type}{l:List α}{m:List β}(h:l.length=m.length):l.isEmpty=m.isEmpty:=by
 cases l <;> cases m <;> simp_all
theorem Arc{x:V}{k:Bool}(A:Abs K H α L)(r:RepU K H α u x)(h:Afd u L=some k):Av3 K x H k:=by
 cases u with
 | non=>unfold RepU at r;subst r;exact (bN h).symm
 | bl b=>unfold RepU at r;subst r;exact (bN h).symm
 | int i=>unfold RepU at r;subst r;exact (bN h).symm
 | str y=>
  unfold RepU at r;subst r
  unfold Afd at h
  simp only at h
  split at h
  ·rename_i hs;cases h;exact ⟨Ed hs,rfl⟩
  ·cases h
 | tup l=>
  unfold RepU at r
  obtain ⟨a,xs,rfl,s,r⟩:=r
  exact .inr (.inl ⟨xs,s,by rw[<- J0 r.length];exact (bN h).symm⟩)
 | ref n=>
  unfold RepU at r
  obtain ⟨a,ea,rfl⟩:=r
  unfold Afd at h
  simp only at h
  cases q:L[n]? with
  | none=>rw[q] at h;simp at h
  | some o=>
   have hr:=A.rep n a o ea q
   rw[q] at h
   cases o with
   | lst us=>obtain ⟨xs,e,r⟩:=hr;exact .inl ⟨xs,.of e,by rw[<- J0 r.length];exact (bN h).symm⟩
   | ro us=>obtain ⟨xs,e,r⟩:=hr;exact .inl ⟨xs,e.sq,by rw[<- J0 r.length];exact (bN h).symm⟩
   | dic kvs=>obtain ⟨vs,e,ek,_⟩:=hr;exact .inr (.inr ⟨vs,e,by rw[<- J0 (show kvs.length=vs.length by simpa using congrArg iU ek)];exact (bN h).symm⟩)
   | rod kvs=>simp at h
   | ins C fs=>simp at h
   | exc C fr fs=>simp at h
def F8(f:FE):FT:=fun δ L=>(f δ L).bind fun p=>(Afd p.1 p.2).map fun k=>(k,p.2)
theorem Dq(ha:PEF X a fa)(he:∀ whole,isTrue a X.env whole=(do let v <- whole;standAt a.pos;holding [v] (truthy v)):=by intro _;rfl):PTF X a (F8 fa):=by
 refine PT.imp (Al2 ha he) ?_
 rintro σ H Q ⟨α,δ,L,A,S,z,L3,e,q⟩
 obtain ⟨⟨u,L1⟩,e1,e⟩:=aA.mp e
 obtain ⟨k,e2,e⟩:=aH.mp e
 cases e
 exact ⟨α,δ,L,A,S,u,_,e1,fun x H1 α1 g1 A1 r1=>⟨_,Arc A1 r1 e2,q H1 α1 g1 A1⟩⟩
end
inductive Fl where
 | nx (δ:UE) | rt (u:U) | bk (δ:UE) | ct (δ:UE)
abbrev FS:=UE->UH->Option (Fl×UH)
def Post(K:aE)(D:Ends)(H:Hp)(α:List Addr)(fl:Fl)(L':UH):Prop:=match fl with
 | .nx δ'=>∀ σ' H' α',Gr H α H' α'->Abs K H' α' L'->RepS K H' α' δ' σ'->D.nx σ' H'
 | .bk δ'=>∀ σ' H' α',Gr H α H' α'->Abs K H' α' L'->RepS K H' α' δ' σ'->D.bk σ' H'
 | .ct δ'=>∀ σ' H' α',Gr H α H' α'->Abs K H' α' L'->RepS K H' α' δ' σ'->D.ct σ' H'
 | .rt u=>∀ v H' α',Gr H α H' α'->Abs K H' α' L'->RepU K H' α' u v->D.rt v H'
theorem Post.from{D:Ends}{α1:List Addr}{fl:Fl}{L':UH}(g:Gr H α H1 α1)(p:Post K D H α fl L'):Post K D H1 α1 fl L':=by
 cases fl with
 | nx δ=>exact fun σ' H' α' g'=>p σ' H' α' (g.trans g')
 | bk δ=>exact fun σ' H' α' g'=>p σ' H' α' (g.trans g')
 | ct δ=>exact fun σ' H' α' g'=>p σ' H' α' (g.trans g')
 | rt u=>exact fun v H' α' g'=>p v H' α' (g.trans g')
inductive lS(K:aE)(f:FS)(D:Ends)(σ:L2.St)(H:Hp):Prop
 | mk (α:List Addr) (δ:UE) (L:UH) (A:Abs K H α L) (S:RepS K H α δ σ) (fl:Fl) (L':UH) (e:f δ L=some (fl,L')) (q:Post K D H α fl L'):lS K f D σ H
def PSF(X:Cx)(st:Stmt)(f:FS):Prop:=PS X st (lS X.K f)
def Ab8(X:Cx)(st:List Stmt)(f:FS):Prop:=PSs X st (lS X.K f)
variable {fe:FE}
section
variable {st:Stmt}{rest:List Stmt}{f g:FS}
theorem PS.imp{t t':TS}(h:PS X st t)(hi:∀ D σ H,t' D σ H->t D σ H):PS X st t':=fun pins s σ H D I q=>h pins s σ H D I (hi D σ H q)
theorem PSs.imp{sts:List Stmt}{t t':TS}(h:PSs X sts t)(hi:∀ D σ H,t' D σ H->t D σ H):PSs X sts t':=fun pins s σ H D I q=>h pins s σ H D I (hi D σ H q)
def B9:FS:=fun δ L=>some (.nx δ,L)
def Bc(f g:FS):FS:=fun δ L=>(f δ L).bind fun p=>match p.1 with | .nx δ'=>g δ' p.2 | fl=>some (fl,p.2)
theorem Br:Ab8 X [] B9:=by
 refine PSs.imp Aol ?_
 rintro D σ H ⟨α,δ,L,A,S,fl,L',e,q⟩
 cases e
 exact q σ H α (.refl _ _) A S
theorem Ai(h1:PSF X st f)(h2:Ab8 X rest g):Ab8 X (st::rest) (Bc f g):=by
 refine PSs.imp (Akc h1 h2) ?_
 rintro D σ H ⟨α,δ,L,A,S,fl,L',e,q⟩
 obtain ⟨⟨fl1,L1⟩,e1,e⟩:=aA.mp e
 refine ⟨α,δ,L,A,S,fl1,L1,e1,?_⟩
 cases fl1 with
 | nx δ1=>exact fun σ1 H1 α1 g1 A1 S1=>⟨α1,δ1,L1,A1,S1,fl,L',e,q.from g1⟩
 | rt u=>cases e;exact q
 | bk δ1=>cases e;exact q
 | ct δ1=>cases e;exact q
theorem Ak(h1:PSF X st f):Ab8 X [st] f:=Aoi h1
def B7(f:FE):FS:=fun δ L=>(f δ L).map fun p=>(.rt p.1,p.2)
def C3(f:FE):FS:=fun δ L=>(f δ L).map fun p=>(.nx δ,p.2)
def Azk:FS:=fun _ L=>some (.rt .non,L)
theorem Aq(he:PEF X e fe):PSF X (.Return (some e) pos) (B7 fe):=by
 refine PS.imp (Aue he) ?_
 rintro D σ H ⟨α,δ,L,A,S,fl,L',e,q⟩
 obtain ⟨⟨u,L1⟩,e1,e⟩:=aH.mp e
 cases e
 exact ⟨α,δ,L,A,S,u,_,e1,fun v H1 α1 g1 A1 r1=>q v H1 α1 g1 A1 r1⟩
theorem C9(he:PEF X e fe)(hs:swapsWith e none pos.line X.env=pure false:=by rfl):PSF X (.Expr e pos) (C3 fe):=by
 refine PS.imp (Apn he hs) ?_
 rintro D σ H ⟨α,δ,L,A,S,fl,L',e,q⟩
 obtain ⟨⟨u,L1⟩,e1,e⟩:=aH.mp e
 cases e
 exact ⟨α,δ,L,A,S,u,_,e1,fun v H1 α1 g1 A1 r1=>q σ H1 α1 g1 A1 (S.mono g1)⟩
def C5(c:FT)(f g:FS):FS:=fun δ L=>(c δ L).bind fun p=>if p.1=true then f δ p.2 else g δ p.2
theorem By{a b:List Stmt}{tc:FT}(hc:PTF X c tc)(ha:Ab8 X a f)(hb:Ab8 X b g):PSF X (.If c a b pos) (C5 tc f g):=by
 refine PS.imp (A1h hc ha hb) ?_
 rintro D σ H ⟨α,δ,L,A,S,fl,L',e,q⟩
 obtain ⟨⟨u,L1⟩,e1,e⟩:=aA.mp e
 refine ⟨α,δ,L,A,S,u,L1,e1,fun H1 α1 g1 A1=>?_⟩
 cases u with
 | true=>exact Acu ⟨α1,δ,L1,A1,S.mono g1,fl,L',e,q.from g1⟩
 | false=>exact Ab4 ⟨α1,δ,L1,A1,S.mono g1,fl,L',e,q.from g1⟩
def Fp:FS:=fun _ _=>none
theorem Df:PSF X st Fp:=by
 refine PS.imp Akq ?_
 rintro D σ H ⟨α,δ,L,A,S,fl,L',e,q⟩
 cases e
end
abbrev FG:=U->UE->UH->Option (UE×UH)
abbrev FGs:=List U->UE->UH->Option (UE×UH)
inductive lG(K:aE)(f:FG)(v:V)(σ:L2.St)(H:Hp)(Q:L2.St->Hp->Prop):Prop
 | mk (α:List Addr) (δ:UE) (L:UH) (u:U) (A:Abs K H α L) (S:RepS K H α δ σ) (r:RepU K H α u v) (δ':UE) (L':UH) (e:f u δ L=some (δ',L')) (q:∀ σ' H' α',Gr H α H' α'->Abs K H' α' L'->RepS K H' α' δ' σ'->Q σ' H'):lG K f v σ H Q
inductive lGs(K:aE)(f:FGs)(vs:List V)(σ:L2.St)(H:Hp)(Q:L2.St->Hp->Prop):Prop
 | mk (α:List Addr) (δ:UE) (L:UH) (us:List U) (A:Abs K H α L) (S:RepS K H α δ σ) (r:RepL K H α us vs) (δ':UE) (L':UH) (e:f us δ L=some (δ',L')) (q:∀ σ' H' α',Gr H α H' α'->Abs K H' α' L'->RepS K H' α' δ' σ'->Q σ' H'):lGs K f vs σ H Q
def PGF(X:Cx)(e:Expr)(f:FG):Prop:=PG X e (lG X.K f)
def Anc(X:Cx)(es:List Expr)(f:FGs):Prop:=PGs X es (lGs X.K f)
variable {i:Nat}{tg:Expr}
section
theorem PG.imp{t t':TG}(h:PG X e t)(hi:∀ v σ H Q,t' v σ H Q->t v σ H Q):PG X e t':=fun pins s σ H v u Q I r q=>h pins s σ H v u Q I r (hi v σ H Q q)
theorem PGs.imp{t t':TGs}(h:PGs X es t)(hi:∀ v σ H Q,t' v σ H Q->t v σ H Q):PGs X es t':=fun pins s σ H v u Q I r q=>h pins s σ H v u Q I r (hi v σ H Q q)
def gN(i:Nat):FG:=fun u δ L=>some (δ.set i (some u),L)
theorem Ap(hN:X.N.Nodup)(hi:X.N[i]? = some x:=by rfl)(hx:Loc X.env.scope x:=by first | exact rD rfl | exact qB rfl)(hf:X.fn x=true\/X.env.scope.names.lookup x=some .local:=by first | exact .inl rfl | exact .inr rfl):PGF X (.Name x pos) (gN i):=by
 refine PG.imp (Aho (i:=i) hN hi hx hf) ?_
 rintro v σ H Q ⟨α,δ,L,u,A,S,r,δ',L',e,q⟩
 cases e
 exact q _ H α (.refl _ _) A (S.set i r)
def gNil:FGs:=fun us δ L=>match us with | []=>some (δ,L) | _=>none
def gCons(f:FG)(g:FGs):FGs:=fun us δ L=>match us with | []=>none | u::r=>(f u δ L).bind fun p=>g r p.1 p.2
theorem E7:Anc X [] MR.gNil:=by
 refine PGs.imp Ap6 ?_
 rintro vs σ H Q ⟨α,δ,L,us,A,S,r,δ',L',e,q⟩
 cases us with
 | nil=>cases e;exact ⟨by unfold RepL at r;exact r,q σ H α (.refl _ _) A S⟩
 | cons u us=>cases e
theorem Bw{f:FG}{g:FGs}(h1:PGF X e f)(h2:Anc X es g)(hs:(assignEach (e::es) X.env).map (·.2)=assign e X.env::(assignEach es X.env).map (·.2):=by rfl):Anc X (e::es) (MR.gCons f g):=by
 refine PGs.imp (Ant h1 h2 hs) ?_
 rintro vs σ H Q ⟨α,δ,L,us,A,S,r,δ',L',e,q⟩
 cases us with
 | nil=>cases e
 | cons u us=>
  unfold RepL at r
  obtain ⟨x,xs,rfl,r1,r2⟩:=r
  obtain ⟨⟨δ1,L1⟩,e1,e⟩:=aA.mp e
  refine ⟨x,xs,rfl,α,δ,L,u,A,S,r1,δ1,L1,e1,fun σ1 H1 α1 g1 A1 S1=>?_⟩
  exact ⟨α1,δ1,L1,us,A1,S1,r2.mono g1,δ',L',e,fun σ2 H2 α2 g2 A2 S2=>q σ2 H2 α2 (g1.trans g2) A2 S2⟩
def gTup(n:Nat)(g:FGs):FG:=fun u δ L=>match u with | .tup us=>if us.length=n then g us δ L else none | _=>none
theorem Jw{g:FGs}(hc:X.calm=true)(h:Anc X es g)(hn:(assignEach es X.env).length=n:=by rfl)(hst:(assignEach es X.env).findIdx? (·.1)=none:=by rfl):PGF X (.Tuple es k pos) (MR.gTup n g):=by
 refine PG.imp (Avw hc h hn hst) ?_
 rintro v σ H Q ⟨α,δ,L,u,A,S,r,δ',L',e,q⟩
 cases u with
 | tup us=>
  unfold RepU at r
  obtain ⟨a,xs,rfl,s,r⟩:=r
  unfold MR.gTup at e
  simp only at e
  split at e
  ·rename_i hl
   exact ⟨a,xs,rfl,s,by rw[<- r.length];exact hl,α,δ,L,us,A,S,r,δ',L',e,q⟩
  ·cases e
 | _=>simp[MR.gTup] at e
def Bo(fe:FE)(g:FG):FS:=fun δ L=>(fe δ L).bind fun p=>(g p.1 δ p.2).map fun q=>(.nx q.1,q.2)
theorem Nu{g:FG}(he:PEF X e fe)(hg:PGF X tg g)(hs:swapsWithSole [tg] e pos.line X.env=pure false:=by rfl)(hw:swappedStores [tg] e X.env=pure none:=by rfl)(h1:(assignEach [tg] X.env).map (·.2)=[assign tg X.env]:=by rfl) :
  PSF X (.Assign [tg] e pos) (Bo fe g):=by
 refine PS.imp (Au1 he hg hs hw h1) ?_
 rintro D σ H ⟨α,δ,L,A,S,fl,L',e,q⟩
 obtain ⟨⟨u,L1⟩,e1,e⟩:=aA.mp e
 obtain ⟨⟨δ2,L2⟩,e2,e⟩:=aH.mp e
 cases e
 exact ⟨α,δ,L,A,S,u,L1,e1,fun v H1 α1 g1 A1 r1=>⟨α1,δ,L1,u,A1,S.mono g1,r1,δ2,_,e2,fun σ2 H2 α2 g2 A2 S2=>q σ2 H2 α2 (g1.trans g2) A2 S2⟩⟩
theorem Ba{i:Nat}{x:Str}{fe:FE}{pos':Pos}(hN:X.N.Nodup)(he:PEF X e fe)(hi:X.N[i]? = some x:=by rfl)(hx:Loc X.env.scope x:=by first | exact rD rfl | exact qB rfl)
  (hs:swapsWith e (some (.Name x pos')) pos.line X.env=pure false:=by rfl) (hf:X.fn x=true\/X.env.scope.names.lookup x=some .local:=by first | exact .inl rfl | exact .inr rfl) :
  PSF X (.Assign [.Name x pos'] e pos) (Bo fe (gN i)):=by
 refine PS.imp (Awb (i:=i) hN hi hx he hs hf) ?_
 rintro D σ H ⟨α,δ,L,A,S,fl,L',e,q⟩
 obtain ⟨⟨u,L1⟩,e1,e⟩:=aA.mp e
 obtain ⟨⟨δ2,L2⟩,e2,e⟩:=aH.mp e
 cases e
 cases e2
 exact ⟨α,δ,L,A,S,u,_,e1,fun v H1 α1 g1 A1 r1=>q _ H1 α1 g1 A1 ((S.mono g1).set i r1)⟩
end
def E8(L:UH)(n:Nat):Option (List U):=match L[n]? with
 | some (.lst us)=>some us
 | _=>none
def Aw(L:UH)(n:Nat):Option (List U):=match L[n]? with
 | some (.lst us)=>some us
 | some (.ro us)=>some us
 | _=>none
inductive IU where
 | seq (us:List U) | ref (n:Nat) | enm (n:Nat) | zip2 (n m:Nat) | zipT (us:List U) (m:Nat) | zipL (n:Nat) (ws:List U)
def Lz:Option U->Option U->Option U
 | some x,some y=>some (.tup [x,y])
 | _,_=>none
def IU.at(i:IU)(k:Nat)(L:UH):Option (Option U):=match i with
 | .seq us=>some us[k]?
 | .ref n=>match L[n]? with
  | some (.lst us)=>some us[k]?
  | some (.ro us)=>some us[k]?
  | _=>none
 | .enm n=>(Aw L n).map fun us=>(us[k]?).map fun u=>.tup [.int k,u]
 | .zip2 n m=>(Aw L n).bind fun us=>(Aw L m).map fun ws=>Lz us[k]? ws[k]?
 | .zipT us m=>(Aw L m).map fun ws=>Lz us[k]? ws[k]?
 | .zipL n ws=>(Aw L n).map fun us=>Lz us[k]? ws[k]?
def IU.size(i:IU)(L:UH):Nat:=match i with
 | .seq us=>us.length
 | .ref n=>match L[n]? with
  | some (.lst us)=>us.length
  | some (.ro us)=>us.length
  | _=>0
 | .enm n=>match Aw L n with
  | some us=>us.length
  | none=>0
 | .zip2 n m=>match Aw L n,Aw L m with
  | some us,some ws=>min us.length ws.length
  | _,_=>0
 | .zipT us m=>match Aw L m with
  | some ws=>min us.length ws.length
  | none=>0
 | .zipL n ws=>match Aw L n with
  | some us=>min us.length ws.length
  | none=>0
abbrev FI:=UE->UH->Option (IU×UH)
def Qi(K:aE)(J:It)(i:IU)(H:Hp)(α:List Addr):Prop:=∀ (H2:Hp) (α2:List Addr) (L2:UH),Gr H α H2 α2->Abs K H2 α2 L2->∀ k:Nat,
 (∀ u,i.at k L2=some (some u)->J.go k H2/\∀ x H3,J.yld k H2 x H3->Gr H2 α2 H3 α2/\Abs K H3 α2 L2/\RepU K H3 α2 u x)/\(i.at k L2=some none->J.stop k H2)
inductive lI(K:aE)(f:FI)(σ:L2.St)(H:Hp)(R:It->Hp->Prop):Prop
 | mk (α:List Addr) (δ:UE) (L:UH) (A:Abs K H α L) (S:RepS K H α δ σ) (i:IU) (L':UH) (e:f δ L=some (i,L')) (q:∀ J H' α',Gr H α H' α'->Abs K H' α' L'->Qi K J i H' α'->R J H'):lI K f σ H R
def PIF(X:Cx)(tg iter:Expr)(f:FI):Prop:=PI X tg iter (lI X.K f)
variable {iter:Expr}{fi:FI}
section
variable {l:Expr}
theorem PI.imp{t t':TI}(h:PI X tg iter t)(hi:∀ σ H R,t' σ H R->t σ H R):PI X tg iter t':=fun pins s σ H R I q=>h pins s σ H R I (hi σ H R q)
theorem PI.or{t t':TI}(h:PI X tg iter t)(h':PI X tg iter t'):PI X tg iter (fun σ H R=>t σ H R\/t' σ H R):=fun pins s σ H R I q=>by
 rcases q with q | q
 ·exact h pins s σ H R I q
 ·exact h' pins s σ H R I q
def Ih(u:U)(L:UH):Option IU:=match u with
 | .tup us=>some (.seq us)
 | .ref n=>match L[n]? with
  | some (.lst _)=>some (.ref n)
  | some (.ro _)=>some (.ref n)
  | _=>none
 | _=>none
theorem Agp(ea:α[n]? = some a):Qi K (Itl K a) (.ref n) H α:=by
 intro H2 α2 L2 g A2 k
 have ea2:=g.at ea
 have go:∀ (us:List U) (xs:List V),SqL K H2 a xs->RepL K H2 α2 us xs->(∀ ys,SqL K H2 a ys->True)->(∀ u,us[k]? = some u->(Itl K a).go k H2/\∀ x H3,(Itl K a).yld k H2 x H3->Gr H2 α2 H3 α2/\Abs K H3 α2 L2/\RepU K H3 α2 u x)/\(us[k]? = none->(Itl K a).stop k H2):=by
  intro us xs sq r _
  refine ⟨fun u eu=>?_,fun eu=>?_⟩
  ·obtain ⟨x,ex,rx⟩:=r.get eu
   refine ⟨⟨xs,x,sq,ex⟩,?_⟩
   rintro y H3 ⟨rfl,hy⟩
   have:=hy xs sq
   rw[ex] at this;cases this
   exact ⟨.refl _ _,A2,rx⟩
  ·exact ⟨xs,sq,by rw[<- r.length];exact cH.mp eu⟩
 unfold IU.at
 simp only
 cases q:L2[n]? with
 | none=>simp
 | some o=>
  have hr:=A2.rep n a o ea2 q
  cases o with
  | lst us=>
   obtain ⟨xs,e,r⟩:=hr
   obtain ⟨h1,h2⟩:=go us xs (.of e) r fun _ _=>trivial
   exact ⟨fun u eu=>h1 u (bN eu),fun eu=>h2 (bN eu)⟩
  | ro us=>
   obtain ⟨xs,e,r⟩:=hr
   obtain ⟨h1,h2⟩:=go us xs e.sq r fun _ _=>trivial
   exact ⟨fun u eu=>h1 u (bN eu),fun eu=>h2 (bN eu)⟩
  | dic kvs=>simp
  | rod kvs=>simp
  | ins C fs=>simp
  | exc C fr fs=>simp
theorem Aq7(sq:SqT K H a xs)(r:RepL K H α us xs):Qi K (Itt K a) (.seq us) H α:=by
 intro H2 α2 L2 g A2 k
 have sq2:=g.st.sqT (K:=K) sq
 have r2:=r.mono g
 refine ⟨fun u eu=>?_,fun eu=>?_⟩
 ·obtain ⟨x,ex,rx⟩:=r2.get (bN eu)
  refine ⟨⟨xs,x,sq2,ex⟩,?_⟩
  rintro y H3 ⟨rfl,hy⟩
  have:=hy xs sq2
  rw[ex] at this;cases this
  exact ⟨.refl _ _,A2,rx⟩
 ·exact ⟨xs,sq2,by rw[<- r2.length];exact cH.mp (bN eu)⟩
theorem Aoh(lo:Int)(n:Nat):Qi K (Itr lo n) (.seq ((cK n).map fun i=>U.int (lo+(i:Nat)))) H α:=by
 intro H2 α2 L2 g A2 k
 refine ⟨fun u eu=>?_,fun eu=>?_⟩
 ·have eu:=bN eu
  rw[bJ] at eu
  by_cases hk:k < n
  ·rw[pF hk] at eu
   simp at eu
   refine ⟨hk,?_⟩
   rintro x H3 ⟨rfl,rfl⟩
   subst eu
   exact ⟨.refl _ _,A2,rfl⟩
  ·rw[iK (by simpa using hk)] at eu
   simp at eu
 ·have:=cH.mp (bN eu)
  show n<=k
  simpa using this
def Bu(f:FE):FI:=fun δ L=>(f δ L).bind fun p=>(Ih p.1 p.2).map fun i=>(i,p.2)
theorem Cj(h:PEF X l fe):PIF X tg l (Bu fe):=by
 refine PI.imp (PI.or (Apg h) (Aus h)) ?_
 rintro σ H R ⟨α,δ,L,A,S,i,L3,e,q⟩
 obtain ⟨⟨u,L1⟩,e1,e⟩:=aA.mp e
 obtain ⟨j,e2,e⟩:=aH.mp e
 cases e
 cases u with
 | tup us=>
  cases e2
  refine .inr ⟨α,δ,L,A,S,_,_,e1,fun x H1 α1 g1 A1 r1=>?_⟩
  unfold RepU at r1
  obtain ⟨a,xs,rfl,sq,r⟩:=r1
  exact ⟨a,rfl,⟨xs,sq⟩,q _ H1 α1 g1 A1 (Aq7 sq r)⟩
 | ref n=>
  refine .inl ⟨α,δ,L,A,S,_,_,e1,fun x H1 α1 g1 A1 r1=>?_⟩
  unfold RepU at r1
  obtain ⟨a,ea,rfl⟩:=r1
  refine ⟨a,rfl,?_⟩
  unfold Ih at e2
  simp only at e2
  cases w:L1[n]? with
  | none=>simp only[w] at e2;cases e2
  | some o=>
   have hr:=A1.rep n a o ea w
   cases o with
   | lst us=>simp only[w] at e2;cases e2;obtain ⟨xs,e,r⟩:=hr;exact ⟨⟨xs,.of e⟩,q _ H1 α1 g1 A1 (Agp ea)⟩
   | ro us=>simp only[w] at e2;cases e2;obtain ⟨xs,e,r⟩:=hr;exact ⟨⟨xs,e.sq⟩,q _ H1 α1 g1 A1 (Agp ea)⟩
   | dic kvs=>simp only[w] at e2;cases e2
   | rod kvs=>simp only[w] at e2;cases e2
   | ins C fs=>simp only[w] at e2;cases e2
   | exc C fr fs=>simp only[w] at e2;cases e2
 | _=>cases e2
def C4(lo:Int)(n:Nat):List U:=(cK n).map fun i=>U.int (lo+(i:Nat))
def Er(g:FA):FI:=fun δ L=>(g δ L).bind fun p=>match p.1 with
 | [.int j]=>if -(2 ^ 62)<=j/\j < 2 ^ 62 then some (.seq (C4 0 j.toNat),p.2) else none
 | _=>none
def Ar4(g:FA):FI:=fun δ L=>(g δ L).bind fun p=>match p.1 with
 | [.int i,.int j]=>if (-(2 ^ 62)<=i/\i < 2 ^ 62)/\-(2 ^ 62)<=j/\j < 2 ^ 62 then some (.seq (C4 i (j - i).toNat),p.2) else none
 | _=>none
theorem RepL.one(h:RepL K H α [u] xs):∃ x,xs=[x]/\RepU K H α u x:=by
 unfold RepL at h
 obtain ⟨x,r,e,h1,h2⟩:=h
 unfold RepL at h2
 subst h2
 exact ⟨x,e,h1⟩
theorem RepL.two{w:U}(h:RepL K H α [u,w] xs):∃ x y,xs=[x,y]/\RepU K H α u x/\RepU K H α w y:=by
 unfold RepL at h
 obtain ⟨x,r,e,h1,h2⟩:=h
 obtain ⟨y,e2,h3⟩:=h2.one
 subst e2
 exact ⟨x,y,e,h1,h3⟩
theorem G5{a:Expr}{p:Pos}(hg:Gl X "range")(hm:X.mg "range" = none)(ha:PAF X [a] g)(hs:aT [a] X.env=[(false,eval a X.env)]:=by rfl):PIF X tg (.Call (.Name "range" p) [a] [] pos) (Er g):=by
 refine PI.imp (Aj1 hg hm ha hs) ?_
 rintro σ H R ⟨α,δ,L,A,S,i,L3,e,q⟩
 obtain ⟨⟨us,L1⟩,e1,e⟩:=aA.mp e
 refine ⟨α,δ,L,A,S,us,L1,e1,fun xs H1 α1 g1 A1 r1=>?_⟩
 simp only at e
 split at e
 ·rename_i _ j
  split at e
  ·rename_i hj
   cases e
   obtain ⟨x,rfl,rx⟩:=r1.one
   unfold RepU at rx
   subst rx
   exact ⟨j,rfl,hj.1,hj.2,q _ H1 α1 g1 A1 (Aoh 0 _)⟩
  ·cases e
 ·cases e
def Qn(i:IU)(g:FG)(body:FS):Nat->Nat->UE->UH->Option (Fl×UH)
 | 0,_,_,_=>none
 | m+1,k,δ,L=>match i.at k L with
  | none=>none
  | some none=>some (.nx δ,L)
  | some (some u)=>(g u δ L).bind fun p=>(body p.1 p.2).bind fun q=>match q.1 with
   | .nx δ'=>Qn i g body m (k+1) δ' q.2
   | .ct δ'=>Qn i g body m (k+1) δ' q.2
   | .bk δ'=>some (.nx δ',q.2)
   | .rt w=>some (.rt w,q.2)
def Pg(fi:FI)(g:FG)(body:FS):FS:=fun δ L=>(fi δ L).bind fun p=>Qn p.1 g body (p.1.size p.2+1) 0 δ p.2
inductive FI_(K:aE)(D:Ends)(H1:Hp)(α1:List Addr)(fl:Fl)(L':UH)(go:UE->UH->Option (Fl×UH))(σ2:_root_.L2.St)(H2:Hp):Prop
 | mk (α2:List Addr) (δ2:UE) (L2:UH) (g2:Gr H1 α1 H2 α2) (A2:Abs K H2 α2 L2) (S2:RepS K H2 α2 δ2 σ2) (e2:go δ2 L2=some (fl,L')) (q2:Post K D H2 α2 fl L'):FI_ K D H1 α1 fl L' go σ2 H2
theorem Jv{body:List Stmt}{g:FG}{fb:FS}(hp:PassesOwn (model X.prog X.w) X.A X.env X.xe)(hc:X.calm=true)(hi:PIF X tg iter fi)(hg:PGF X tg g)(hb:Ab8 X body fb)
  (hs:∀ x,foldedSetIterable iter X.env x=pure x:=by intro _;rfl):PSF X (.For tg iter body [] pos) (Pg fi g fb):=by
 refine PS.imp (Avd hp hc hi hg hb hs) ?_
 rintro D σ H ⟨α,δ,L,A,S,fl,L',e,q⟩
 obtain ⟨⟨it,L1⟩,e1,e⟩:=aA.mp e
 refine ⟨α,δ,L,A,S,it,L1,e1,fun J H1 α1 g1 A1 hJ=>?_⟩
 refine ⟨fun k m=>FI_ X.K D H1 α1 fl L' (Qn it g fb m k),⟨_,α1,δ,L1,.refl _ _,A1,S.mono g1,e,q.from g1⟩,?_⟩
 rintro k m σ2 H2 ⟨α2,δ2,L2,g2,A2,S2,e2,q2⟩
 cases m with
 | zero=>cases e2
 | succ m=>
  obtain ⟨hgo,hstop⟩:=hJ H2 α2 L2 g2 A2 k
  unfold Qn at e2
  cases hat:it.at k L2 with
  | none=>rw[hat] at e2;cases e2
  | some o=>
   cases o with
   | none=>
    rw[hat] at e2
    cases e2
    exact .inl ⟨hstop hat,q2 σ2 H2 α2 (.refl _ _) A2 S2⟩
   | some u=>
    rw[hat] at e2
    obtain ⟨go,yld⟩:=hgo u hat
    obtain ⟨⟨δ3,L3⟩,e3,e2⟩:=aA.mp e2
    obtain ⟨⟨fl4,L4⟩,e4,e2⟩:=aA.mp e2
    refine .inr ⟨go,FI_ X.K D H1 α1 fl L' (Qn it g fb m (k+1)),fun σ5 H5 h5=>⟨m,hG _,h5⟩,fun x H3 y3=>?_⟩
    obtain ⟨g3,A3,r3⟩:=yld x H3 y3
    refine ⟨α2,δ2,L2,u,A3,S2.mono g3,r3,δ3,L3,e3,fun σ4 H4 α4 g4 A4 S4=>⟨α4,δ3,L3,A4,S4,fl4,L4,e4,?_⟩⟩
    have gA:=g2.trans (g3.trans g4)
    have gB:=g3.trans g4
    cases fl4 with
    | nx δ5=>exact fun σ5 H5 α5 g5 A5 S5=>⟨α5,δ5,L4,gA.trans g5,A5,S5,e2,q2.from (gB.trans g5)⟩
    | ct δ5=>exact fun σ5 H5 α5 g5 A5 S5=>⟨α5,δ5,L4,gA.trans g5,A5,S5,e2,q2.from (gB.trans g5)⟩
    | bk δ5=>cases e2;exact fun σ5 H5 α5 g5 A5 S5=>q2 σ5 H5 α5 (gB.trans g5) A5 S5
    | rt w=>cases e2;exact fun v H5 α5 g5 A5 r5=>q2 v H5 α5 (gB.trans g5) A5 r5
inductive WI_(K:aE)(D:Ends)(fl:Fl)(L':UH)(go:UE->UH->Option (Fl×UH))(σ2:_root_.L2.St)(H2:Hp):Prop
 | mk (α2:List Addr) (δ2:UE) (L2:UH) (A2:Abs K H2 α2 L2) (S2:RepS K H2 α2 δ2 σ2) (e2:go δ2 L2=some (fl,L')) (q2:Post K D H2 α2 fl L'):WI_ K D fl L' go σ2 H2
end
def fnU(n m:Nat)(body:FS):FN:=fun us L=>if us.length=m then (body (us.map some++bM (n - us.length) none) L).bind fun p=>match p.1 with
 | .rt u=>some (u,p.2)
 | .nx _=>some (.non,p.2)
 | _=>none
 else none
section
variable {P:bT}{w:cC}{mg:Str->Option aF}{base:Heap}
theorem Fun.okF{qual:Str}{st:Stmt}{f:Addr}{fd:dW}{N ps:List Str}{body:FS}(F:Fun K x qual st f fd)(S:FnScope N ps (Am st))
  (hbody:∀ (cdv:aF) (A:eD) (outer:List iZ) (s:aJ) (H:Hp) (E:XK),Room k (A.deeper (envOfC qual (Am st) s.heap.objs.size f cdv))->Ab8 (Aec CX0 P w K mg base N qual (Am st) f cdv A outer s H E).nox (Ff st) body) :
  FnOk P w K mg base CX0 (k+1) f fd ps (spF K ps.length (fnU N.length ps.length body)):=by
 refine F.ok S (fun vs H Q E ⟨α,L,us,A,r,hl,_,_,_,_⟩=>by rw[<- r.length];exact hl) (fun cdv A outer s H vs Q E hr h=>?_)
 obtain ⟨α,L,us,Ab,r,hl,u,L',e,q⟩:=h
 refine ⟨_,hbody cdv A outer s H E hr,?_⟩
 unfold fnU at e
 rw[if_pos hl] at e
 obtain ⟨⟨fl,L1⟩,e1,e⟩:=aA.mp e
 refine ⟨α,_,L,Ab,RepS.start N r,fl,L1,e1,?_⟩
 cases fl with
 | rt w=>cases e;exact q
 | nx δ=>cases e;exact fun σ' H' α' g' A' S'=>q .non H' α' g' A' rfl
 | bk δ=>cases e
 | ct δ=>cases e
end
section
variable {x:V}
theorem Wd(h:E8 L n=some us):L[n]? = some (.lst us):=by
 unfold E8 at h
 split at h
 ·rename_i e;cases h;exact e
 ·cases h
theorem Qs(A:Abs K H α L)(h:E8 L n=some us):∃ a xs,α[n]? = some a/\H a=some (.lst xs)/\RepL K H α us xs:=by
 obtain ⟨a,ea,xs,e,r⟩:=A.addr (Wd h)
 exact ⟨a,xs,ea,e,r⟩
theorem Hq(A:Abs K H α L)(h:Aw L n=some us):∃ a xs,α[n]? = some a/\SqL K H a xs/\RepL K H α us xs:=by
 unfold Aw at h
 split at h
 ·rename_i e;cases h
  obtain ⟨a,ea,xs,e,r⟩:=A.addr e
  exact ⟨a,xs,ea,.of e,r⟩
 ·rename_i e;cases h
  obtain ⟨a,ea,xs,e,r⟩:=A.addr e
  exact ⟨a,xs,ea,e.sq,r⟩
 ·cases h
theorem Abs.setL{ys:List V}{ws:List U}(A:Abs K H α L)(h:E8 L n=some us)(ea:α[n]? = some a)(e:H a=some (.lst xs))(r:RepL K H α ws ys) :
  Gr H α (upd H a (.lst ys)) α/\Abs K (upd H a (.lst ys)) α (L.set n (.lst ws)):=by
 have g:Gr H α (upd H a (.lst ys)) α:=⟨⟨[],by simp⟩,.write e (by exact trivial) _⟩
 obtain ⟨A',_⟩:=A.put (o:=.lst ys) (u:=.lst ws) ea (Wd h) rfl rfl e (by exact trivial) ⟨ys,upd_same,r.mono g⟩
 exact ⟨g,A'⟩
theorem RepU.ref_of(A:Abs K H α L)(h:RepU K H α (.ref n) x):∃ a,α[n]? = some a/\x = .ref a:=by unfold RepU at h;exact h
end
def A9:S2:=fun u w L=>match u,w with
 | .int i,.int j=>some (.int (i+j),L)
 | .str a,.str b=>if F0 (a.length+b.length)=true then some (.str (a++b),L) else none
 | .tup a,.tup b=>if a.isEmpty=false/\F0 (a.length+b.length)=true then some (.tup (a++b),L) else none
 | .ref n,.ref m=>(E8 L n).bind fun a=>(E8 L m).bind fun b=>if F0 (a.length+b.length)=true then some (.ref L.length,L++[.lst (a++b)]) else none
 | _,_=>none
def Asw(K:aE):R2:=fun x y H Q=>rI0 (fun i j=>.int (i+j)) x y H Q\/(∃ i j,x = .str i/\y = .str j/\i.length+j.length<=sizeLine/\Q (.str (i++j)) H)\/rCatT K x y H Q\/rCat x y H Q
theorem Cq:OpR X (gE .Add) (Asw X.K):=Avb.or (Ad1.or (Ao1.or Au8))
theorem Cp:Dr K (Asw K) A9:=by
 intro H α L u w x y z L' Q A ru rw e q
 unfold A9 at e
 split at e
 ·cases e
  unfold RepU at ru rw
  exact .inl ⟨_,_,ru,rw,q _ H α (.refl _ _) A rfl⟩
 ·split at e
  ·rename_i h
   cases e
   unfold RepU at ru rw
   exact .inr (.inl ⟨_,_,ru,rw,Ed h,q _ H α (.refl _ _) A rfl⟩)
  ·cases e
 ·rename_i a b
  split at e
  ·rename_i h
   cases e
   unfold RepU at ru rw
   obtain ⟨p,xs,rfl,s1,r1⟩:=ru
   obtain ⟨p2,ys,rfl,s2,r2⟩:=rw
   have e1:=r1.length
   have e2:=r2.length
   refine .inr (.inr (.inl ⟨p,p2,xs,ys,rfl,rfl,s1,s2,?_,by rw[<- e1,<- e2];exact Ed h.2,fun hy=>?_,fun hy l hl=>?_⟩))
   ·intro hx;subst hx
    cases a with
    | nil=>simp at h
    | cons _ _=>simp at e1
   ·subst hy
    have hb:b=[]:=by
     cases b with
     | nil=>rfl
     | cons _ _=>simp at e2
    subst hb
    refine q _ H α (.refl _ _) A ?_
    unfold RepU
    exact ⟨p,xs,rfl,s1,by rw[aV];exact r1⟩
   ·obtain ⟨g,A',r⟩:=A.tup (r1.append r2) hl
    exact q _ _ α g A' r
  ·cases e
 ·rename_i n m
  obtain ⟨a,ha,e⟩:=aA.mp e
  obtain ⟨b,hb,e⟩:=aA.mp e
  split at e
  ·rename_i h
   cases e
   obtain ⟨p,xs,e1,h1,r1⟩:=Qs A ha
   obtain ⟨p2,ys,e2,h2,r2⟩:=Qs A hb
   obtain ⟨p',e1',rfl⟩:=ru.ref_of A
   obtain ⟨p2',e2',rfl⟩:=rw.ref_of A
   rw[e1] at e1';cases e1'
   rw[e2] at e2';cases e2'
   refine .inr (.inr (.inr ⟨p,p2,xs,ys,rfl,rfl,h1,h2,by rw[<- r1.length,<- r2.length];exact Ed h,fun l hl=>?_⟩))
   obtain ⟨g,A',r⟩:=A.lst (r1.append r2) hl
   exact q _ _ _ g A' r
  ·cases e
 ·cases e
def Aj7(C:Int->Int->Bool)(g:Int->Int->U):S2:=fun u w L=>match u,w with
 | .int i,.int j=>if C i j=true then some (g i j,L) else none
 | _,_=>none
theorem Amm{C:Int->Int->Prop}{Cb:Int->Int->Bool}{g:Int->Int->V}{g':Int->Int->U}(hC:∀ i j,Cb i j=true->C i j)(hg:∀ i j H α,RepU K H α (g' i j) (g i j)):Dr K (rI C g) (Aj7 Cb g'):=by
 intro H α L u w x y z L' Q A ru rw e q
 unfold Aj7 at e
 split at e
 ·split at e
  ·rename_i h
   cases e
   unfold RepU at ru rw
   exact ⟨_,_,ru,rw,hC _ _ h,q _ H α (.refl _ _) A (hg _ _ _ _)⟩
  ·cases e
 ·cases e
def U9(g:Int->Int->U):S2:=fun u w L=>match u,w with
 | .int i,.int j=>some (g i j,L)
 | _,_=>none
theorem Tv{g:Int->Int->V}{g':Int->Int->U}(hg:∀ i j H α,RepU K H α (g' i j) (g i j)):Dr K (rI0 g) (U9 g'):=by
 intro H α L u w x y z L' Q A ru rw e q
 unfold U9 at e
 split at e
 ·cases e
  unfold RepU at ru rw
  exact ⟨_,_,ru,rw,q _ H α (.refl _ _) A (hg _ _ _ _)⟩
 ·cases e
def Ht:S2:=U9 fun i j=>.int (i - j)
theorem Qg:Dr K (rI0 fun i j=>.int (i - j)) Ht:=Tv fun _ _ _ _=>rfl
def Kn(i j:Int):Bool:=(decide (-(2 ^ 64) < i)&&decide (i < 2 ^ 64)) || (decide (-(2 ^ 64) < j)&&decide (j < 2 ^ 64))
def Lg:S2:=fun u w L=>match u,w with
 | .int i,.int j=>if Kn i j=true then some (.int (i * j),L) else none
 | .str a,.int j=>if a.length<=1000/\-1000<=j/\j<=1000 then some (.str (sY a j),L) else none
 | .ref n,.int k=>(E8 L n).bind fun a=>if -1000000<=k/\k<=1000000/\F0 (a.length * k.toNat)=true then some (.ref L.length,L++[.lst (bM k.toNat a).flatten]) else none
 | _,_=>none
def Asx:R2:=fun x y H Q=>rI CMul (fun i j=>.int (i * j)) x y H Q\/(∃ a j,x = .str a/\y = .int j/\MulOk a j/\Q (.str (sY a j)) H)\/rRep x y H Q
theorem Aey:OpR X (gE .Mult) (fun x y H Q=>∃ a j,x = .str a/\y = .int j/\MulOk a j/\Q (.str (sY a j)) H):=by
 intro pins s σ H x y v u Q I rx ry h
 obtain ⟨a,j,rfl,rfl,hok,q⟩:=h
 obtain ⟨t,rfl⟩:=rx
 obtain ⟨t',rfl⟩:=ry
 exact SB.mul hok fun t' k=>⟨.str (sY a j),H,I.tok _,⟨_,rfl⟩,q⟩
theorem Nt:OpR X (gE .Mult) Asx:=Atw.or (Aey.or Auf)
theorem RepL.flat(h:RepL K H α us xs):∀ k:Nat,RepL K H α (bM k us).flatten (bM k xs).flatten
 | 0=>.nil
 | k+1=>by rw[fB,fB,gL,gL];exact h.append (RepL.flat h k)
theorem Nl:Dr K Asx Lg:=by
 intro H α L u w x y z L' Q A ru rw e q
 unfold Lg at e
 split at e
 ·rename_i i j
  split at e
  ·rename_i h
   cases e
   unfold RepU at ru rw
   refine .inl ⟨_,_,ru,rw,?_,q _ H α (.refl _ _) A rfl⟩
   simp only[Kn,kQ,cJ,decide_eq_true_eq] at h
   exact h
  ·cases e
 ·rename_i a j
  split at e
  ·rename_i h
   cases e
   unfold RepU at ru rw
   exact .inr (.inl ⟨_,_,ru,rw,mulOk_of 1000 1000 h.1 (by omega) (by omega) (by decide) (by decide),q _ H α (.refl _ _) A rfl⟩)
  ·cases e
 ·rename_i n k
  obtain ⟨a,ha,e⟩:=aA.mp e
  split at e
  ·rename_i h
   cases e
   obtain ⟨p,xs,e1,h1,r1⟩:=Qs A ha
   obtain ⟨p',e1',rfl⟩:=ru.ref_of A
   rw[e1] at e1';cases e1'
   unfold RepU at rw
   refine .inr (.inr ⟨p,k,xs,rfl,rw,h1,by omega,by omega,by rw[<- r1.length];exact Ed h.2.2,fun l hl=>?_⟩)
   obtain ⟨g,A',r⟩:=A.lst (r1.flat k.toNat) hl
   exact q _ _ _ g A' r
  ·cases e
 ·cases e
def Ak4(i j:Int):Prop:=0 < j/\j < 1152921504606846976
theorem T7:OpR X (gE .FloorDiv) (rI Ak4 fun i j=>.int (i / j)):=opI fun i j _ _ _ _ _ hc q=>by
 have h1:(0:Int) < j:=hc.1
 have h2:j < 1152921504606846976:=hc.2
 refine floordiv_int (by omega) (by rw[Int.fdiv_eq_ediv_of_nonneg i (by omega)];exact q) (.inl (PyProof.noPylong_of_log2 ?_))
 have h3:j.natAbs.log2 < 60:=(Nat.log2_lt (by omega)).mpr (by omega)
 omega
def Xj(i j:Int):Bool:=decide (0 < j)&&decide (j < 1152921504606846976)
def Rt:S2:=Aj7 Xj fun i j=>.int (i / j)
theorem Y2:Dr K (rI Ak4 fun i j=>.int (i / j)) Rt:=Amm (fun i j h=>by simpa[Xj,Ak4] using h) fun _ _ _ _=>rfl
def J3:S2:=Aj7 (fun _ j=>decide (0 < j)) fun i j=>.int (i % j)
theorem K4:Dr K (rI (fun _ j=>0 < j) fun i j=>.int (i % j)) J3:=Amm (fun i j h=>by simpa using h) fun _ _ _ _=>rfl
def Yk(i j:Int):Bool:=decide (0<=j)&&decide (j<=1000000)&&decide (i.natAbs < 2 ^ 64)
def J5:S2:=Aj7 Yk fun i j=>.int (i ^ j.toNat)
theorem Qv:Dr K (rI Ayp fun i j=>.int (i ^ j.toNat)) J5:=Amm (fun i j h=>by simp[Yk] at h;exact ⟨h.1.1,h.1.2,h.2⟩) fun _ _ _ _=>rfl
def Em:S2:=U9 fun i j=>.bl (decide (i<=j))
def Abj:S2:=U9 fun i j=>.bl (decide (j < i))
def Acq:S2:=U9 fun i j=>.bl (decide (j<=i))
def Agz:S2:=U9 fun i j=>.bl (decide (i < j))
theorem G9:Dr K (rI0 fun i j=>.bl (decide (i<=j))) Em:=Tv fun _ _ _ _=>rfl
theorem Alx:Dr K (rI0 fun i j=>.bl (decide (j < i))) Abj:=Tv fun _ _ _ _=>rfl
theorem Aln:Dr K (rI0 fun i j=>.bl (decide (j<=i))) Acq:=Tv fun _ _ _ _=>rfl
theorem Ano:Dr K (rI0 fun i j=>.bl (decide (i < j))) Agz:=Tv fun _ _ _ _=>rfl
def mapO{β γ:Type}(f:β->Option γ):List β->Option (List γ)
 | []=>some []
 | u::r=>(f u).bind fun d=>(mapO f r).map fun ds=>d::ds
def toP(L:UH):Nat->U->Option sG
 | 0,_=>none
 | _+1,.non=>some .none
 | _+1,.bl b=>some (.bool b)
 | _+1,.int i=>some (.int i)
 | _+1,.str x=>some (.str x)
 | n+1,.tup l=>(mapO (toP L n) l).map .tuple
 | n+1,.ref k=>(Aw L k).bind fun l=>(mapO (toP L n) l).map .list
variable {pins:List (Addr×Obj)}
section
variable {s:aJ}
theorem Yt(ih:∀ (u:U) (x:V) (v:aF) (d:sG),RepU X.K H α u x->RelV x v->toP L n u=some d->∃ as,Reads s.heap v d as):∀ (l:List U) (xs:List V) (vs:List aF) (ds:List sG),RepL X.K H α l xs->Vals xs vs->mapO (toP L n) l=some ds->∃ as,ReadsAll s.heap vs ds as
 | [],xs,vs,ds,r,hv,e=>by
  unfold RepL at r;subst r;cases hv;cases e;exact ⟨_,.nil⟩
 | u::l,xs,vs,ds,r,hv,e=>by
  unfold RepL at r
  obtain ⟨x,xr,rfl,r1,r2⟩:=r
  cases hv with
  | cons h1 h2=>
   obtain ⟨d,e1,e⟩:=aA.mp e
   obtain ⟨dr,e2,e⟩:=aH.mp e
   subst e
   obtain ⟨as,q1⟩:=ih u x _ d r1 h1 e1
   obtain ⟨bs,q2⟩:=Yt ih l xr _ dr r2 h2 e2
   exact ⟨_,.cons q1 q2⟩
theorem Rk(I:Inv X pins σ H s)(A:Abs X.K H α L):∀ (n:Nat) (u:U) (x:V) (v:aF) (d:sG),RepU X.K H α u x->RelV x v->toP L n u=some d->∃ as,Reads s.heap v d as
 | 0,_,_,_,_,_,_,e=>by cases e
 | n+1,u,x,v,d,r,hv,e=>by
  cases u with
  | non=>unfold RepU at r;subst r;cases hv;cases e;exact ⟨_,.none⟩
  | bl b=>unfold RepU at r;subst r;cases hv;cases e;exact ⟨_,.bool b⟩
  | int i=>unfold RepU at r;subst r;obtain ⟨t,rfl⟩:=hv;cases e;exact ⟨_,.int i t⟩
  | str y=>unfold RepU at r;subst r;obtain ⟨t,rfl⟩:=hv;cases e;exact ⟨_,.str y t⟩
  | tup l=>
   unfold RepU at r
   obtain ⟨a,xs,rfl,sq,r⟩:=r
   cases hv
   unfold toP at e
   obtain ⟨ds,e1,e⟩:=aH.mp e
   subst e
   obtain ⟨its,hv,⟨o,h1,h2,m,h3⟩,_⟩:=I.tuple sq
   obtain ⟨as,q⟩:=Yt (Rk I A n) l xs its ds r hv e1
   exact ⟨_,.tuple h1 h2 h3 (by simpa using q)⟩
  | ref k=>
   unfold RepU at r
   obtain ⟨a,ea,rfl⟩:=r
   cases hv
   unfold toP at e
   obtain ⟨l,hl,e⟩:=aA.mp e
   obtain ⟨ds,e1,e⟩:=aH.mp e
   subst e
   obtain ⟨a',xs,ea',sq,r⟩:=Hq A hl
   rw[ea] at ea';cases ea'
   obtain ⟨its,hv,⟨o,m,h1,h2,_,h3⟩,_⟩:=I.list sq
   obtain ⟨as,q⟩:=Yt (Rk I A n) l xs its ds r hv e1
   exact ⟨_,.list h1 h2 h3 (by simpa using q)⟩
end
def eqP(u w:U)(L:UH):Option Bool:=(toP L 8 u).bind fun d=>(toP L 8 w).bind fun e=>if fU d=true/\fU e=true then some (dL d e) else none
inductive rEqU(K:aE)(neg:Bool)(x y:V)(H:Hp)(Q:VK):Prop
 | mk (α:_) (L:_) (u:_) (w:_) (b:_) (h0:Abs K H α L) (h1:RepU K H α u x) (h2:RepU K H α w y) (h3:eqP u w L=some b) (h4:Q (.bl (if neg then !b else b)) H):rEqU K neg x y H Q
theorem C6(hu:X.A.units+64 < cLine):OpR X (cX .Eq) (rEqU X.K false):=by
 intro pins s σ H x y v u Q I rx ry h
 obtain ⟨α,L,a,b,k,A,ra,rb,e,q⟩:=h
 obtain ⟨d,e1,e⟩:=aA.mp e
 obtain ⟨d2,e2,e⟩:=aA.mp e
 split at e
 ·rename_i hs
  cases e
  obtain ⟨as,q1⟩:=Rk I A 8 a x v d ra rx e1
  obtain ⟨bs,q2⟩:=Rk I A 8 b y u d2 rb ry e2
  exact eq_dataH q1 q2 hs.1 hs.2 hu ⟨.bl _,H,I,rfl,q⟩
 ·cases e
theorem Fq(hu:X.A.units+64 < cLine):OpR X (cX .NotEq) (rEqU X.K true):=by
 intro pins s σ H x y v u Q I rx ry h
 obtain ⟨α,L,a,b,k,A,ra,rb,e,q⟩:=h
 obtain ⟨d,e1,e⟩:=aA.mp e
 obtain ⟨d2,e2,e⟩:=aA.mp e
 split at e
 ·rename_i hs
  cases e
  obtain ⟨as,q1⟩:=Rk I A 8 a x v d ra rx e1
  obtain ⟨bs,q2⟩:=Rk I A 8 b y u d2 rb ry e2
  exact ne_dataH q1 q2 hs.1 hs.2 hu ⟨.bl _,H,I,rfl,q⟩
 ·cases e
def B3:S2:=fun u w L=>(eqP u w L).map fun b=>(.bl b,L)
def Cr:S2:=fun u w L=>(eqP u w L).map fun b=>(.bl (!b),L)
theorem C7:Dr K (rEqU K false) B3:=by
 intro H α L u w x y z L' Q A ru rw e q
 obtain ⟨b,e1,e⟩:=aH.mp e
 cases e
 exact ⟨α,_,u,w,b,A,ru,rw,e1,q _ H α (.refl _ _) A rfl⟩
theorem Ft:Dr K (rEqU K true) Cr:=by
 intro H α L u w x y z L' Q A ru rw e q
 obtain ⟨b,e1,e⟩:=aH.mp e
 cases e
 exact ⟨α,_,u,w,b,A,ru,rw,e1,q _ H α (.refl _ _) A rfl⟩
def A1t(neg:Bool):S2:=fun u w L=>match u,w with
 | .non,.non=>some (.bl (!neg),L)
 | .bl a,.bl b=>some (.bl (if neg then !(a == b) else a == b),L)
 | .int _,.non=>some (.bl neg,L)
 | .bl _,.non=>some (.bl neg,L)
 | .str _,.non=>some (.bl neg,L)
 | .tup _,.non=>some (.bl neg,L)
 | .ref _,.non=>some (.bl neg,L)
 | _,_=>none
def isSome:U->Bool
 | .non=>false
 | _=>true
theorem RepL.atI{i:Int}(r:RepL K H α us xs)(h:L2.atI us i=some u):∃ x,L2.atI xs i=some x/\RepU K H α u x:=by
 unfold L2.atI at h ⊢
 obtain ⟨j,e1,e2⟩:=aA.mp h
 obtain ⟨x,e3,r3⟩:=r.get e2
 exact ⟨x,by rw[<- r.length,e1];exact e3,r3⟩
def Al:S2:=fun u w L=>match u,w with
 | .tup l,.int i=>(L2.atI l i).map fun z=>(z,L)
 | .ref n,.int i=>(Aw L n).bind fun l=>(L2.atI l i).map fun z=>(z,L)
 | .str x,.int i=>if F0 x.length=true then (L2.atI x.cps.toList i).map fun c=>(.str ⟨#[c]⟩,L) else none
 | _,_=>none
theorem Av:Dr K (rIx K) Al:=by
 intro H α L u w x y z L' Q A ru rw e q
 unfold Al at e
 split at e
 ·obtain ⟨c,e1,e⟩:=aH.mp e
  cases e
  unfold RepU at ru rw
  obtain ⟨a,xs,rfl,sq,r⟩:=ru
  obtain ⟨v,e2,r2⟩:=r.atI e1
  exact .inr (.inl ⟨a,xs,_,v,rfl,rw,sq,e2,q _ H α (.refl _ _) A r2⟩)
 ·obtain ⟨l,hl,e⟩:=aA.mp e
  obtain ⟨c,e1,e⟩:=aH.mp e
  cases e
  obtain ⟨a,xs,ea,sq,r⟩:=Hq A hl
  obtain ⟨a',ea',rfl⟩:=ru.ref_of A
  rw[ea] at ea';cases ea'
  unfold RepU at rw
  obtain ⟨v,e2,r2⟩:=r.atI e1
  exact .inl ⟨a,xs,_,v,rfl,rw,sq,e2,q _ H α (.refl _ _) A r2⟩
 ·split at e
  ·rename_i hs
   obtain ⟨c,e1,e⟩:=aH.mp e
   cases e
   unfold RepU at ru rw
   exact .inr (.inr ⟨_,_,c,ru,rw,Ed hs,e1,q _ H α (.refl _ _) A rfl⟩)
  ·cases e
 ·cases e
def Wi(l:List U)(lo hi:Option Int):List U:=(l.drop (HT.sIx l.length 0 lo)).take (HT.sIx l.length l.length hi - HT.sIx l.length 0 lo)
theorem RepL.cut(r:RepL K H α us xs)(lo hi:Option Int):RepL K H α (Wi us lo hi) (Abx xs lo hi):=by
 unfold Wi Abx
 rw[r.length]
 exact (r.drop _).take _
def Cz:SS:=fun u lo hi L=>match u with
 | .tup l=>if HT.sIx l.length 0 lo=0/\HT.sIx l.length l.length hi=l.length then none else some (.tup (Wi l lo hi),L)
 | .ref n=>(Aw L n).map fun l=>(.ref L.length,L++[.lst (Wi l lo hi)])
 | _=>none
def Apb(K:aE):V->Option Int->Option Int->Hp->VK->Prop:=fun x lo hi H Q=>A0m K x lo hi H Q\/Ayz K x lo hi H Q
theorem Gg:SlR X (Apb X.K):=Aup.or Aoe
theorem Fi:Amd K (Apb K) Cz:=by
 intro H α L u x lo hi z L' Q A ru e q
 unfold Cz at e
 split at e
 ·split at e
  ·cases e
  ·rename_i hn
   cases e
   unfold RepU at ru
   obtain ⟨a,xs,rfl,sq,r⟩:=ru
   refine .inl ⟨a,xs,rfl,sq,by rw[<- r.length];exact hn,fun p hp=>?_⟩
   obtain ⟨g,A',r'⟩:=A.tup (r.cut lo hi) hp
   exact q _ _ α g A' r'
 ·obtain ⟨l,hl,e⟩:=aH.mp e
  cases e
  obtain ⟨a,xs,ea,sq,r⟩:=Hq A hl
  obtain ⟨a',ea',rfl⟩:=ru.ref_of A
  rw[ea] at ea';cases ea'
  refine .inr ⟨a,xs,rfl,sq,fun p hp=>?_⟩
  obtain ⟨g,A',r'⟩:=A.lst (r.cut lo hi) hp
  exact q _ _ _ g A' r'
 ·cases e
def toV:U->Option V
 | .non=>some .non
 | .bl b=>some (.bl b)
 | .int i=>some (.int i)
 | .str x=>some (.str x)
 | _=>none
theorem Afg{x y:V}(r:RepU K H α u x)(h:toV u=some y):x=y/\Ov y=true:=by
 cases u <;> simp only[toV] at h <;> first
  | (cases h;unfold RepU at r;exact ⟨r,rfl⟩)
  | cases h
theorem Yr:∀ {us:List U} {xs ys:List V},RepL K H α us xs->mapO toV us=some ys->xs=ys/\ys.all Ov=true
 | [],xs,ys,r,h=>by unfold RepL at r;subst r;cases h;exact ⟨rfl,rfl⟩
 | u::us,xs,ys,r,h=>by
  unfold RepL at r
  obtain ⟨x,xr,rfl,r1,r2⟩:=r
  obtain ⟨y,e1,h⟩:=aA.mp h
  obtain ⟨yr,e2,h⟩:=aH.mp h
  subst h
  obtain ⟨rfl,h1⟩:=Afg r1 e1
  obtain ⟨rfl,h2⟩:=Yr r2 e2
  exact ⟨rfl,by simp[h1,h2]⟩
def Gz(neg:Bool):S2:=fun u w L=>match w with
 | .tup l=>(toV u).bind fun x=>(mapO toV l).map fun xs=>(.bl (if neg then !inV x xs else inV x xs),L)
 | .ref n=>(Aw L n).bind fun l=>(toV u).bind fun x=>(mapO toV l).map fun xs=>(.bl (if neg then !inV x xs else inV x xs),L)
 | .str j=>match u with
  | .str i=>some (.bl (if neg then !(!(cI j i 0 j.length 1).isEmpty) else !(cI j i 0 j.length 1).isEmpty),L)
  | _=>none
 | _=>none
def Awf(K:aE)(neg:Bool):R2:=fun x y H Q=>rIn K neg x y H Q\/∃ i j,x = .str i/\y = .str j/\Q (.bl (if neg then !(!(cI j i 0 j.length 1).isEmpty) else !(cI j i 0 j.length 1).isEmpty)) H
theorem Anb:OpR X (cX .In) (Awf X.K false):=Ajp.or Aia
theorem Rc:OpR X (cX .NotIn) (Awf X.K true):=Yv.or Aam
theorem Uv(neg:Bool):Dr K (Awf K neg) (Gz neg):=by
 intro H α L u w x y z L' Q A ru rw e q
 unfold Gz at e
 split at e
 ·obtain ⟨x',e1,e⟩:=aA.mp e
  obtain ⟨xs,e2,e⟩:=aH.mp e
  cases e
  unfold RepU at rw
  obtain ⟨a,ys,rfl,sq,r⟩:=rw
  obtain ⟨rfl,f1⟩:=Afg ru e1
  obtain ⟨rfl,f2⟩:=Yr r e2
  exact .inl ⟨a,ys,rfl,.inr sq,f1,f2,q _ H α (.refl _ _) A rfl⟩
 ·obtain ⟨l,hl,e⟩:=aA.mp e
  obtain ⟨x',e1,e⟩:=aA.mp e
  obtain ⟨xs,e2,e⟩:=aH.mp e
  cases e
  obtain ⟨a,ys,ea,sq,r⟩:=Hq A hl
  obtain ⟨a',ea',rfl⟩:=rw.ref_of A
  rw[ea] at ea';cases ea'
  obtain ⟨rfl,f1⟩:=Afg ru e1
  obtain ⟨rfl,f2⟩:=Yr r e2
  exact .inl ⟨a,ys,rfl,.inl sq,f1,f2,q _ H α (.refl _ _) A rfl⟩
 ·split at e
  ·cases e
   unfold RepU at ru rw
   exact .inr ⟨_,_,ru,rw,q _ H α (.refl _ _) A rfl⟩
  ·cases e
 ·cases e
def lenU(u:U)(L:UH):Option Nat:=match u with
 | .str y=>if F0 y.length=true then some y.length else none
 | .tup l=>some l.length
 | .ref n=>(Aw L n).map iU
 | _=>none
def Az:SC:=fun us L=>match us with
 | [u]=>(lenU u L).map fun (n:Nat)=>(U.int (n:Int),L)
 | _=>none
theorem Ck:Ro K (fun xs H Q=>∃ x n,xs=[x]/\Ax2 K x H n/\Q (.int n) H) Az:=by
 intro H α L us xs z L' Q A r e q
 unfold Az at e
 split at e
 ·rename_i u
  obtain ⟨n,e1,e⟩:=aH.mp e
  cases e
  obtain ⟨x,rfl,rx⟩:=r.one
  refine ⟨x,n,rfl,?_,q _ H α (.refl _ _) A rfl⟩
  cases u with
  | str y=>
   unfold lenU at e1
   simp only at e1
   split at e1
   ·rename_i hs;cases e1;unfold RepU at rx;subst rx;exact ⟨Ed hs,rfl⟩
   ·cases e1
  | tup l=>
   cases e1
   unfold RepU at rx
   obtain ⟨a,ys,rfl,sq,r2⟩:=rx
   exact .inr ⟨ys,sq,r2.length⟩
  | ref k=>
   obtain ⟨l,hl,e2⟩:=aH.mp e1
   subst e2
   obtain ⟨a,ys,ea,sq,r2⟩:=Hq A hl
   obtain ⟨a',ea',rfl⟩:=rx.ref_of A
   rw[ea] at ea';cases ea'
   exact .inl ⟨ys,sq,r2.length⟩
  | _=>cases e1
 ·cases e
def toI:U->Option Int
 | .int i=>some i
 | _=>none
theorem Tf:∀ {us:List U} {xs:List V} {ns:List Int},RepL K H α us xs->mapO toI us=some ns->xs=ns.map V.int
 | [],xs,ys,r,h=>by unfold RepL at r;subst r;cases h;rfl
 | u::us,xs,ys,r,h=>by
  unfold RepL at r
  obtain ⟨x,xr,rfl,r1,r2⟩:=r
  obtain ⟨y,e1,h⟩:=aA.mp h
  obtain ⟨yr,e2,h⟩:=aH.mp h
  subst h
  cases u <;> simp only[toI] at e1 <;> first
   | (cases e1;unfold RepU at r1;subst r1;rw[Tf r2 e2];rfl)
   | cases e1
def Y0:List Int->Int
 | []=>0
 | [a]=>a
 | a::r=>max a (Y0 r)
def Yx:List Int->Int
 | []=>0
 | [a]=>a
 | a::r=>min a (Yx r)
theorem Afh:∀ (ns:List Int) (M:Int),M∈ns->(∀ a,a∈ns->a<=M)->Y0 ns=M
 | [],M,h,_=>by cases h
 | [a],M,h,_=>by simp at h;exact h.symm
 | a::b::r,M,h,hm=>by
  show max a (Y0 (b::r))=M
  by_cases hb:M∈b::r
  ·rw[Afh (b::r) M hb fun c hc=>hm c (aQ _ hc)]
   have:=hm a (bE ..)
   omega
  ·rcases bL.mp h with rfl | h
   ·have hle:∀ (l:List Int),l≠[]->(∀ c,c∈l->c<=M)->Y0 l<=M:=by
     intro l
     induction l with
     | nil=>intro h;exact absurd rfl h
     | cons c t ih=>
      intro _ hc
      cases t with
      | nil=>exact hc c (bE ..)
      | cons d t=>
       have h1:=hc c (bE ..)
       have h2:=ih (by simp) fun e he=>hc e (aQ _ he)
       show max c (Y0 (d::t))<=M
       omega
    have:=hle (b::r) (by simp) fun c hc=>hm c (aQ _ hc)
    omega
   ·exact absurd h hb
theorem Agc:∀ (ns:List Int) (M:Int),M∈ns->(∀ a,a∈ns->M<=a)->Yx ns=M
 | [],M,h,_=>by cases h
 | [a],M,h,_=>by simp at h;exact h.symm
 | a::b::r,M,h,hm=>by
  show min a (Yx (b::r))=M
  by_cases hb:M∈b::r
  ·rw[Agc (b::r) M hb fun c hc=>hm c (aQ _ hc)]
   have:=hm a (bE ..)
   omega
  ·rcases bL.mp h with rfl | h
   ·have hle:∀ (l:List Int),l≠[]->(∀ c,c∈l->M<=c)->M<=Yx l:=by
     intro l
     induction l with
     | nil=>intro h;exact absurd rfl h
     | cons c t ih=>
      intro _ hc
      cases t with
      | nil=>exact hc c (bE ..)
      | cons d t=>
       have h1:=hc c (bE ..)
       have h2:=ih (by simp) fun e he=>hc e (aQ _ he)
       show M<=min c (Yx (d::t))
       omega
    have:=hle (b::r) (by simp) fun c hc=>hm c (aQ _ hc)
    omega
   ·exact absurd h hb
section
theorem Ajv(hc:X.calm=true):CallR X (.builtin "sum") (fun xs H Q=>∃ (p:Addr) (ns:List Int),xs=[.ref p]/\SqL X.K H p (ns.map V.int)/\Q (.int ns.sum) H):=by
 intro pins s σ H xs us Q I r h
 obtain ⟨p,ns,rfl,hq,q⟩:=h
 obtain ⟨u,rfl,rx⟩:=Qf r
 cases rx
 obtain ⟨its,r',pl,hz⟩:=I.list hq
 have hi:lC its ns:=Ln r'
 obtain ⟨m,F⟩:=I.fr
 obtain ⟨xs,hx⟩:=hi.allInts.items
 have hl':s.heap.IsList p (intItems xs):=hx ▸ pl.isList
 refine sum_intListG (I.ok.hd hc) hl' fun h' tk t' hk=>?_
 have e1:ns=xs.toList.map (·.1):=by
  rw[<- mP,<- hx]
  exact (show numsOf its.toArray.toList=ns from hi.numsOf).symm
 have e2:preSum (numAt xs) xs.size=ns.sum:=by
  rw[preSum_eq,eC (by simp),e1]
 rw[e2]
 exact ⟨.int ns.sum,H,I.kept hk,⟨_,rfl⟩,q⟩
theorem Aih(hc:X.calm=true):CallR X (.builtin "sum") (fun xs H Q=>∃ (p:Addr) (ns:List Int),xs=[.ref p]/\SqT X.K H p (ns.map V.int)/\Q (.int ns.sum) H):=by
 intro pins s σ H xs us Q I r h
 obtain ⟨p,ns,rfl,hq,q⟩:=h
 obtain ⟨u,rfl,rx⟩:=Qf r
 cases rx
 obtain ⟨its,r',pl,hz⟩:=I.tuple hq
 have hi:lC its ns:=Ln r'
 obtain ⟨xs,hx⟩:=hi.allInts.items
 have hl':s.heap.IsTuple p (intItems xs):=hx ▸ pl
 refine PySem.W.ktm_sumG (I.ok.hd hc) hl' fun h' tk t' hk=>?_
 have e1:ns=xs.toList.map (·.1):=by
  rw[<- mP,<- hx]
  exact (show numsOf its.toArray.toList=ns from hi.numsOf).symm
 have e2:preSum (numAt xs) xs.size=ns.sum:=by
  rw[preSum_eq,eC (by simp),e1]
 rw[e2]
 exact ⟨.int ns.sum,H,I.kept hk,⟨_,rfl⟩,q⟩
theorem Aim(hc:X.calm=true):CallR X (.builtin "sum") (fun xs H Q=>(∃ (p:Addr) (ns:List Int),xs=[.ref p]/\SqL X.K H p (ns.map V.int)/\Q (.int ns.sum) H)\/∃ (p:Addr) (ns:List Int),xs=[.ref p]/\SqT X.K H p (ns.map V.int)/\Q (.int ns.sum) H):=(Ajv hc).or (Aih hc)
theorem Ajy(hc:X.calm=true):CallR X (.builtin "max") (fun xs H Q=>∃ (p:Addr) (ns:List Int),xs=[.ref p]/\SqL X.K H p (ns.map V.int)/\0 < ns.length/\Q (.int (Y0 ns)) H):=by
 intro pins s σ H xs us Q I r h
 obtain ⟨p,ns,rfl,hq,hne,q⟩:=h
 obtain ⟨u,rfl,rx⟩:=Qf r
 cases rx
 obtain ⟨its,r',pl,hz⟩:=I.list hq
 have hi:lC its ns:=Ln r'
 obtain ⟨xs,e⟩:=hi.allInts.items
 have hns:ns=xs.toList.map (·.1):=by rw[<- hi.numsOf,<- mP,<- e]
 have hsz:0 < xs.size:=by
  have h3:=hne;rw[hns,aU,dD] at h3;exact h3
 have hl':s.heap.IsList p (intItems xs):=e ▸ pl.isList
 refine max_intList (I.ok.hd hc) hl' hsz fun v h' tk hv hk=>?_
 obtain ⟨t,rfl⟩:=intItems_at hv
 obtain ⟨h1,h2⟩:=argBest_gt (numAt xs) (xs.size - 1)
 have hM:=Afh ns (numAt xs (argBest (fun i j=>decide (numAt xs i > numAt xs j)) (xs.size - 1))) (by rw[hns,sH];exact getD_mem (by rw[aU,dD];omega)) (fun a ha=>by
  rw[hns] at ha
  obtain ⟨j,hj,rfl⟩:=mem_getD ha
  rw[aU,dD] at hj
  rw[<- sH];exact h2 j (by omega))
 rw[hM] at q
 exact ⟨.int _,H,I.kept hk,⟨_,rfl⟩,q⟩
theorem Ah6(hc:X.calm=true):CallR X (.builtin "min") (fun xs H Q=>∃ (p:Addr) (ns:List Int),xs=[.ref p]/\SqL X.K H p (ns.map V.int)/\0 < ns.length/\Q (.int (Yx ns)) H):=by
 intro pins s σ H xs us Q I r h
 obtain ⟨p,ns,rfl,hq,hne,q⟩:=h
 obtain ⟨u,rfl,rx⟩:=Qf r
 cases rx
 obtain ⟨its,r',pl,hz⟩:=I.list hq
 have hi:lC its ns:=Ln r'
 obtain ⟨xs,e⟩:=hi.allInts.items
 have hns:ns=xs.toList.map (·.1):=by rw[<- hi.numsOf,<- mP,<- e]
 have hsz:0 < xs.size:=by
  have h3:=hne;rw[hns,aU,dD] at h3;exact h3
 have hl':s.heap.IsList p (intItems xs):=e ▸ pl.isList
 refine min_intList (I.ok.hd hc) hl' hsz fun v h' tk hv hk=>?_
 obtain ⟨t,rfl⟩:=intItems_at hv
 obtain ⟨h1,h2⟩:=argBest_lt (numAt xs) (xs.size - 1)
 have hM:=Agc ns (numAt xs (argBest (fun i j=>decide (numAt xs i < numAt xs j)) (xs.size - 1))) (by rw[hns,sH];exact getD_mem (by rw[aU,dD];omega)) (fun a ha=>by
  rw[hns] at ha
  obtain ⟨j,hj,rfl⟩:=mem_getD ha
  rw[aU,dD] at hj
  rw[<- sH];exact h2 j (by omega))
 rw[hM] at q
 exact ⟨.int _,H,I.kept hk,⟨_,rfl⟩,q⟩
end
def U0:SC:=fun us L=>match us with
 | [.ref n]=>(Aw L n).bind fun l=>(mapO toI l).map fun ns=>(.int ns.sum,L)
 | [.tup l]=>(mapO toI l).map fun ns=>(.int ns.sum,L)
 | _=>none
theorem Lp{x:V}(A:Abs K H α L)(hl:Aw L n=some l)(rx:RepU K H α (.ref n) x):∃ a ys,x = .ref a/\SqL K H a ys/\RepL K H α l ys:=by
 obtain ⟨a,ys,ea,sq,r2⟩:=Hq A hl
 obtain ⟨a',ea',rfl⟩:=rx.ref_of A
 rw[ea] at ea';cases ea'
 exact ⟨a,ys,rfl,sq,r2⟩
theorem Apv:Ro K (fun xs H Q=>(∃ (p:Addr) (ns:List Int),xs=[.ref p]/\SqL K H p (ns.map V.int)/\Q (.int ns.sum) H)\/∃ (p:Addr) (ns:List Int),xs=[.ref p]/\SqT K H p (ns.map V.int)/\Q (.int ns.sum) H) U0:=by
 intro H α L us xs z L' Q A r e q
 unfold U0 at e
 split at e
 ·obtain ⟨l,hl,e⟩:=aA.mp e
  obtain ⟨ns,e1,e⟩:=aH.mp e
  cases e
  obtain ⟨x,rfl,rx⟩:=r.one
  obtain ⟨a,ys,rfl,sq,r2⟩:=Lp A hl rx
  rw[Tf r2 e1] at sq
  exact .inl ⟨a,ns,rfl,sq,q _ H α (.refl _ _) A rfl⟩
 ·obtain ⟨ns,e1,e⟩:=aH.mp e
  cases e
  obtain ⟨x,rfl,rx⟩:=r.one
  unfold RepU at rx
  obtain ⟨a,ys,rfl,sq,r2⟩:=rx
  rw[Tf r2 e1] at sq
  exact .inr ⟨a,ns,rfl,sq,q _ H α (.refl _ _) A rfl⟩
 ·cases e
def Ag2(g2:Int->Int->Int)(gl:List Int->Int):SC:=fun us L=>match us with
 | [.int i,.int j]=>some (.int (g2 i j),L)
 | [.ref n]=>(Aw L n).bind fun l=>(mapO toI l).bind fun ns=>if ns.isEmpty=true then none else some (.int (gl ns),L)
 | _=>none
def Pu:SC:=Ag2 (fun i j=>if j > i then j else i) Y0
def K1:SC:=Ag2 (fun i j=>if j < i then j else i) Yx
theorem Anv{g2:Int->Int->Int}{gl:List Int->Int}:Ro K (fun xs H Q=>(∃ i j,xs=[.int i,.int j]/\Q (.int (g2 i j)) H)\/∃ (p:Addr) (ns:List Int),xs=[.ref p]/\SqL K H p (ns.map V.int)/\0 < ns.length/\Q (.int (gl ns)) H) (Ag2 g2 gl):=by
 intro H α L us xs z L' Q A r e q
 unfold Ag2 at e
 split at e
 ·cases e
  obtain ⟨x,y,rfl,rx,ry⟩:=r.two
  unfold RepU at rx ry
  exact .inl ⟨_,_,by rw[rx,ry],q _ H α (.refl _ _) A rfl⟩
 ·obtain ⟨l,hl,e⟩:=aA.mp e
  obtain ⟨ns,e1,e⟩:=aA.mp e
  split at e
  ·cases e
  ·rename_i hne
   cases e
   obtain ⟨x,rfl,rx⟩:=r.one
   obtain ⟨a,ys,rfl,sq,r2⟩:=Lp A hl rx
   rw[Tf r2 e1] at sq
   exact .inr ⟨a,ns,rfl,sq,by cases ns <;> simp_all,q _ H α (.refl _ _) A rfl⟩
 ·cases e
theorem Wz(hc:X.calm=true):CallR X (.builtin "max") (fun xs H Q=>(∃ i j,xs=[.int i,.int j]/\Q (.int (if j > i then j else i)) H)\/∃ (p:Addr) (ns:List Int),xs=[.ref p]/\SqL X.K H p (ns.map V.int)/\0 < ns.length/\Q (.int (Y0 ns)) H):=(Ai7 hc).or (Ajy hc)
theorem Aiq(hc:X.calm=true):CallR X (.builtin "min") (fun xs H Q=>(∃ i j,xs=[.int i,.int j]/\Q (.int (if j < i then j else i)) H)\/∃ (p:Addr) (ns:List Int),xs=[.ref p]/\SqL X.K H p (ns.map V.int)/\0 < ns.length/\Q (.int (Yx ns)) H):=(Ahz hc).or (Ah6 hc)
theorem Ahg:Ro K (fun xs H Q=>(∃ i j,xs=[.int i,.int j]/\Q (.int (if j > i then j else i)) H)\/∃ (p:Addr) (ns:List Int),xs=[.ref p]/\SqL K H p (ns.map V.int)/\0 < ns.length/\Q (.int (Y0 ns)) H) Pu:=Anv
theorem Aoc:Ro K (fun xs H Q=>(∃ i j,xs=[.int i,.int j]/\Q (.int (if j < i then j else i)) H)\/∃ (p:Addr) (ns:List Int),xs=[.ref p]/\SqL K H p (ns.map V.int)/\0 < ns.length/\Q (.int (Yx ns)) H) K1:=Anv
def Aab:SC:=fun us L=>match us with
 | [.int i]=>some (.int i,L)
 | [.bl k]=>some (.int (if k then 1 else 0),L)
 | _=>none
theorem Ap7:Ro K (fun xs H Q=>(∃ i,xs=[.int i]/\Q (.int i) H)\/∃ k,xs=[.bl k]/\Q (.int (if k then 1 else 0)) H) Aab:=by
 intro H α L us xs z L' Q A r e q
 unfold Aab at e
 split at e
 ·cases e
  obtain ⟨x,rfl,rx⟩:=r.one
  unfold RepU at rx
  exact .inl ⟨_,by rw[rx],q _ H α (.refl _ _) A rfl⟩
 ·cases e
  obtain ⟨x,rfl,rx⟩:=r.one
  unfold RepU at rx
  exact .inr ⟨_,by rw[rx],q _ H α (.refl _ _) A rfl⟩
 ·cases e
def semTuple:SC:=fun us L=>match us with
 | [.ref n]=>(Aw L n).map fun l=>(.tup l,L)
 | [.tup l]=>some (.tup l,L)
 | _=>none
theorem Nk:Ro K (fun xs H Q=>∃ p ys,xs=[.ref p]/\((SqL K H p ys/\∀ l,H l=none->Q (.ref l) (upd H l (.tup ys)))\/(SqT K H p ys/\Q (.ref p) H))) semTuple:=by
 intro H α L us xs z L' Q A r e q
 unfold semTuple at e
 split at e
 ·obtain ⟨l,hl,e⟩:=aH.mp e
  cases e
  obtain ⟨x,rfl,rx⟩:=r.one
  obtain ⟨a,ys,rfl,sq,r2⟩:=Lp A hl rx
  refine ⟨a,ys,rfl,.inl ⟨sq,fun p hp=>?_⟩⟩
  obtain ⟨g,A',r'⟩:=A.tup r2 hp
  exact q _ _ _ g A' r'
 ·cases e
  obtain ⟨x,rfl,rx⟩:=r.one
  have rx':=rx
  unfold RepU at rx
  obtain ⟨a,ys,rfl,sq,r2⟩:=rx
  exact ⟨a,ys,rfl,.inr ⟨sq,q _ H α (.refl _ _) A rx'⟩⟩
 ·cases e
def De:SM:=fun u us L=>match u,us with
 | .ref n,[y]=>(E8 L n).bind fun l=>if decide (l.length < sizeLine)=true then some (.non,L.set n (.lst (l++[y]))) else none
 | _,_=>none
theorem P9{x:V}(A:Abs K H α L)(hl:E8 L n=some l)(rx:RepU K H α (.ref n) x):∃ a ys,x = .ref a/\α[n]? = some a/\H a=some (.lst ys)/\RepL K H α l ys:=by
 obtain ⟨a,ys,ea,sq,r2⟩:=Qs A hl
 obtain ⟨a',ea',rfl⟩:=rx.ref_of A
 rw[ea] at ea';cases ea'
 exact ⟨a,ys,rfl,ea,sq,r2⟩
theorem Jf:Wa K Ago De:=by
 intro H α L u us x xs z L' Q A ru r e q
 unfold De at e
 split at e
 ·obtain ⟨l,hl,e⟩:=aA.mp e
  split at e
  ·rename_i hs
   cases e
   obtain ⟨y,rfl,ry⟩:=r.one
   obtain ⟨a,ys,rfl,ea,h,r2⟩:=P9 A hl ru
   obtain ⟨g,A'⟩:=A.setL hl ea h (r2.append (.cons ry .nil))
   exact ⟨a,ys,y,rfl,rfl,h,by rw[<- r2.length];exact of_decide_eq_true hs,q _ _ _ g A' rfl⟩
  ·cases e
 ·cases e
def Rx:SM:=fun u us L=>match u,us with
 | .ref n,[.int i]=>(E8 L n).bind fun l=>if -(2 ^ 63)<=i/\i < 2 ^ 63 then (seqIndex? i l.length).bind fun k=>(l[k]?).map fun y=>(y,L.set n (.lst (l.eraseIdx k))) else none
 | _,_=>none
theorem Aqv:Wa K rPopAt Rx:=by
 intro H α L u us x xs z L' Q A ru r e q
 unfold Rx at e
 split at e
 ·obtain ⟨l,hl,e⟩:=aA.mp e
  split at e
  ·rename_i hs
   obtain ⟨k,ek,e⟩:=aA.mp e
   obtain ⟨y,ey,e⟩:=aH.mp e
   cases e
   obtain ⟨v,rfl,rv⟩:=r.one
   unfold RepU at rv
   subst rv
   obtain ⟨a,ys,rfl,ea,h,r2⟩:=P9 A hl ru
   obtain ⟨w,ew,rw⟩:=r2.get ey
   obtain ⟨g,A'⟩:=A.setL hl ea h (r2.erase k)
   exact ⟨a,ys,_,k,w,rfl,rfl,h,hs.1,hs.2,by rw[<- r2.length];exact ek,ew,q _ _ _ g A' (rw.mono g)⟩
  ·cases e
 ·cases e
def gSub(fo fi:FE):FG:=fun v δ L=>(fo δ L).bind fun p=>(fi δ p.2).bind fun q=>match p.1,q.1 with
 | .ref n,.int k=>(E8 q.2 n).bind fun l=>(ixN l.length k).map fun j=>(δ,q.2.set n (.lst (l.set j v)))
 | _,_=>none
theorem Afn{o i:Expr}{fo fi:FE}(ho:PEF X o fo)(hi:PEF X i fi)(ha:∀ v,assign (.Subscript o i pos) X.env v=(do let ov <- holding [v] (eval o X.env);let iv <- holding [v,ov] (eval i X.env);standAt pos;holding [v,ov,iv] (setItem ov iv v);release [v,ov,iv] []):=by intro _;rfl):PGF X (.Subscript o i pos) (MR.gSub fo fi):=by
 refine PG.imp (Atq ho hi Ann ha) ?_
 rintro v σ H Q ⟨α,δ,L,u,A,S,r,δ',L',e,q⟩
 obtain ⟨⟨o',L1⟩,e1,e⟩:=aA.mp e
 obtain ⟨⟨i',L2⟩,e2,e⟩:=aA.mp e
 refine ⟨α,δ,L,A,S,o',L1,e1,fun x H1 α1 g1 A1 r1=>⟨α1,δ,L1,A1,S.mono g1,i',L2,e2,fun y H2 α2 g2 A2 r2=>?_⟩⟩
 simp only at e
 split at e
 ·obtain ⟨l,hl,e⟩:=aA.mp e
  obtain ⟨j,ej,e⟩:=aH.mp e
  cases e
  unfold RepU at r2
  subst r2
  obtain ⟨a,ys,rfl,ea,h,r3⟩:=P9 A2 hl (r1.mono g2)
  obtain ⟨g,A'⟩:=A2.setL hl ea h (r3.set ((r.mono g1).mono g2) j)
  exact ⟨a,ys,_,j,rfl,rfl,h,by rw[<- r3.length];exact ej,q _ _ _ (g1.trans (g2.trans g)) A' (((S.mono g1).mono g2).mono g)⟩
 ·cases e
def tyName(u:U)(L:UH):Option String:=match u with
 | .non=>some "NoneType"
 | .bl _=>some "bool"
 | .int _=>some "int"
 | .str _=>some "str"
 | .tup _=>some "tuple"
 | .ref n=>match L[n]? with
  | some (.lst _)=>some "list"
  | some (.ro _)=>some "list"
  | some (.dic _)=>some "dict"
  | _=>none
def isT(t c:String):Bool:=t == c || (t == "bool" && c == "int")
def Yy:List String:=["NoneType","bool","int","str","tuple","list","dict"]
def Kit(K:aE)(c:String):Prop:=∀ t∈Yy,dN K (.type t) (.type c)=some (isT t c)
theorem Awk{c:String}(h1:dN K (.type "NoneType") (.type c)=some (isT "NoneType" c))(h2:dN K (.type "bool") (.type c)=some (isT "bool" c))(h3:dN K (.type "int") (.type c)=some (isT "int" c))
  (h4:dN K (.type "str") (.type c)=some (isT "str" c)) (h5:dN K (.type "tuple") (.type c)=some (isT "tuple" c)) (h6:dN K (.type "list") (.type c)=some (isT "list" c)) (h7:dN K (.type "dict") (.type c)=some (isT "dict" c)):Kit K c:=by
 intro t ht
 simp only[Yy,bL,cN,or_false] at ht
 rcases ht with rfl | rfl | rfl | rfl | rfl | rfl | rfl <;> assumption
theorem Akf:Kit K "list" := Awk (by with_unfolding_all rfl) (by with_unfolding_all rfl) (by with_unfolding_all rfl) (by with_unfolding_all rfl) (by with_unfolding_all rfl) (by with_unfolding_all rfl) (by with_unfolding_all rfl)
def TyV(K:aE)(H:Hp)(x:V)(t:String):Prop:=match x with
 | .non=>t = "NoneType"
 | .bl _=>t = "bool"
 | .int _=>t = "int"
 | .str _=>t = "str"
 | .ref a=>(t = "list" /\ ∃ xs,SqL K H a xs)\/(t = "tuple" /\ ∃ xs,SqT K H a xs)\/(t = "dict" /\ ∃ kvs,H a=some (.dK kvs))
 | _=>False
theorem Aku{c:String}:CallR X (.builtin "isinstance") (fun xs H Q=>∃ x t b,xs=[x,.ty c]/\TyV X.K H x t/\dN X.K (.type t) (.type c)=some b/\Q (.bl b) H):=by
 intro pins s σ H xs us Q I r h
 obtain ⟨x,t,b,rfl,ty,e,q⟩:=h
 obtain ⟨u,w',rfl,rx,ry⟩:=Xc r
 cases ry
 have fin:∀ tk,EP X pins σ Q (.bool b) { s with toks:=tk }:=fun tk=>⟨.bl b,H,I.tok _,rfl,q⟩
 cases x with
 | non=>cases ty;exact Ko I rx (.non) e fin
 | bl y=>cases ty;exact Ko I rx (.bl y) e fin
 | int y=>cases ty;exact Ko I rx (.int y) e fin
 | str y=>cases ty;exact Ko I rx (.str y) e fin
 | ref a=>
  cases (show u=bO a from rx)
  rcases ty with ⟨rfl,ys,sq⟩ | ⟨rfl,ys,sq⟩ | ⟨rfl,kvs,ea⟩
  ·obtain ⟨its,_,⟨o,n,h1,h2,_⟩,_⟩:=I.list sq
   exact dJ mG I.kIn ⟨o,h1,h2⟩ e (fun z=>nomatch z) fin
  ·obtain ⟨its,_,⟨o,h1,h2,_⟩,_⟩:=I.tuple sq
   exact dJ pV I.kIn ⟨o,h1,h2⟩ e (fun z=>nomatch z) fin
  ·exact Ko I rx (.dK ea) e fin
 | byt y=>cases ty
 | flt y=>cases ty
 | ty y=>cases ty
theorem Aiw{x:V}{t:String}(A:Abs K H α L)(r:RepU K H α u x)(h:tyName u L=some t):TyV K H x t/\t∈Yy:=by
 cases u with
 | non=>unfold RepU at r;subst r;cases h;exact ⟨rfl,by decide⟩
 | bl b=>unfold RepU at r;subst r;cases h;exact ⟨rfl,by decide⟩
 | int i=>unfold RepU at r;subst r;cases h;exact ⟨rfl,by decide⟩
 | str y=>unfold RepU at r;subst r;cases h;exact ⟨rfl,by decide⟩
 | tup l=>unfold RepU at r;obtain ⟨a,xs,rfl,sq,_⟩:=r;cases h;exact ⟨.inr (.inl ⟨rfl,xs,sq⟩),by decide⟩
 | ref n=>
  unfold RepU at r
  obtain ⟨a,ea,rfl⟩:=r
  unfold tyName at h
  simp only at h
  split at h
  ·rename_i e;cases h;obtain ⟨xs,h,_⟩:=A.rep n a _ ea e;exact ⟨.inl ⟨rfl,xs,.of h⟩,by decide⟩
  ·rename_i e;cases h;obtain ⟨xs,h,_⟩:=A.rep n a _ ea e;exact ⟨.inl ⟨rfl,xs,h.sq⟩,by decide⟩
  ·rename_i e;cases h;obtain ⟨xs,h,_⟩:=A.rep n a _ ea e;exact ⟨.inr (.inr ⟨rfl,xs,h⟩),by decide⟩
  ·cases h
def Ajt(c:String)(f:FE):FE:=fun δ L=>(f δ L).bind fun p=>(tyName p.1 p.2).map fun t=>(.bl (isT t c),p.2)
theorem Av1{p p2:Pos}{cn:Str}{c:String}(hk:Kit X.K c)(he:PEF X e fe)(hg:Gl X "isinstance")(hm:X.mg "isinstance" = none)(hg2:Gl X cn)(hm2:X.mg cn=none)(hv2:eA cn=some (.type c))
  (hn:cn ≠ "__name__" := by decide) (hdb:(cn == ("__debug__" : Str))=false:=by decide)
  (hs:aT [e,.Name cn p2] X.env=(false,eval e X.env)::aT [.Name cn p2] X.env:=by rfl) (hs2:aT [.Name cn p2] X.env=(false,eval (.Name cn p2) X.env)::aT [] X.env:=by rfl)
  (hpl:(backTo pos (aT [.Name cn p2] X.env)).any (·.1)=false:=by rfl):PEF X (.Call (.Name "isinstance" p) [e,.Name cn p2] [] pos) (Ajt c fe):=by
 refine PE.imp (Adc (Aku (c:=c)) hg hm (by decide +kernel) (Te he (Te (Apa hg2 hm2 hv2 (v:=.ty c) rfl hn hdb) Aee hs2) hs) (by decide) (by decide) hs hpl) ?_
 rintro σ H Q ⟨α,δ,L,A,S,z,L3,e,q⟩
 obtain ⟨⟨u,L1⟩,e1,e⟩:=aA.mp e
 obtain ⟨t,e2,e⟩:=aH.mp e
 cases e
 refine ⟨α,δ,L,A,S,u,_,e1,fun x H1 α1 g1 A1 r1=>?_⟩
 obtain ⟨h1,h2⟩:=Aiw A1 r1 e2
 exact ⟨x,t,_,rfl,h1,hk t h2,q _ H1 α1 g1 A1 rfl⟩
theorem Auy{F:FN}{ns:List Int}{E:XK}(ho:Aqf H)(hS:SqL K H a (ns.map V.int))(h:∃ L',F [.ref 0] [.ro (ns.map U.int)]=some (.bl true,L')):spF K 1 F [.ref a] H (fun v _=>v = .bl true) E:=by
 obtain ⟨L',e⟩:=h
 have ro:RO K H a (ns.map V.int):=by
  rcases hS with (q | ⟨o,q⟩) | q
  ·rcases ho a with z | ⟨o,xs,z⟩
   ·rw[z] at q;cases q
   ·rw[z] at q;cases q
  ·exact .inl ⟨o,q⟩
  ·exact .inr q
 refine ⟨[a],[.ro (ns.map U.int)],[.ref 0],⟨rfl,fun i j b o o' e1 e2 e3 e4=>?_,fun i b o e1 e2=>?_⟩,.cons ?_ .nil,rfl,.bl true,L',e,fun v H' α' _ _ r=>r⟩
 ·cases i with
  | zero=>cases j with
   | zero=>exact .inl rfl
   | succ j=>simp at e2
  | succ i=>simp at e1
 ·cases i with
  | zero=>simp at e1 e2;subst e1;subst e2;exact ⟨_,ro,RepL.ints ns⟩
  | succ i=>simp at e1
 ·unfold RepU;exact ⟨a,rfl,rfl⟩
theorem Pp(env:iZ):∀ (names:List (Str×lP)) (cs:List (Str×Addr)),(∀ y∈names,y.2 = .free->∃ c,env.cells.lookup y.1=some c)->(∀ x c,cs.lookup x=some c->env.cells.lookup x=some c) ->
  ∃ cl:List (Str×Addr),(forIn names cs fun (x:Str×lP) r=>if (x.2 == iJ)=true then do let c <- cellOf env x.1;pure (iH ((x.1,c)::r)) else pure (iH r):Sem (List (Str×Addr)))=pure cl /\
   (∀ x c,cl.lookup x=some c->env.cells.lookup x=some c)/\(∀ y∈names,y.2 = .free->∃ c,cl.lookup y.1=some c)/\∀ x,(∃ c,cs.lookup x=some c)->∃ c,cl.lookup x=some c
 | [],cs,_,h2=>⟨cs,rfl,h2,(fun _ h=>nomatch h),fun _ h=>h⟩
 | (n,k)::r,cs,h1,h2=>by
  cases hk:k == iJ with
  | true=>
   have hk':k = .free:=by simpa using hk
   obtain ⟨c,hc⟩:=h1 (n,k) (bE ..) hk'
   have look:∀ x c',eM x ((n,c)::cs)=some c'->env.cells.lookup x=some c':=fun x c' e=>by
    rw[bX] at e
    cases hx:x == n with
    | true => rw [hx] at e; simp at e; subst e; have : x = n := by simpa using hx
              rw[this];exact hc
    | false=>rw[hx] at e;exact h2 x c' e
   obtain ⟨cl,e,p1,p2,p3⟩:=Pp env r ((n,c)::cs) (fun y hy=>h1 y (aQ _ hy)) look
   refine ⟨cl,?_,p1,fun y hy hf=>?_,fun x hx=>?_⟩
   ·rw[fP]
    have e0:(cellOf env n:Sem Addr)=pure c:=by unfold cellOf;rw[hc]
    simp only[hk,if_true,e0]
    exact e
   ·rcases bL.mp hy with rfl | hy
    ·exact p3 n ⟨c,by simp⟩
    ·exact p2 y hy hf
   ·refine p3 x ?_
    rw[bX]
    cases hx':x == n with
    | true=>exact ⟨c,rfl⟩
    | false=>exact hx
  | false=>
   obtain ⟨cl,e,p1,p2,p3⟩:=Pp env r cs (fun y hy=>h1 y (aQ _ hy)) h2
   refine ⟨cl,?_,p1,fun y hy hf=>?_,p3⟩
   ·rw[fP]
    simp only[hk,cD,if_false]
    exact e
   ·rcases bL.mp hy with rfl | hy
    ·rw[show k=iJ from hf] at hk;cases hk
    ·exact p2 y hy hf
variable {scope:mF}{env:iZ}
theorem Oj(h:∀ y∈scope.names,y.2 = .free->∃ c,env.cells.lookup y.1=some c) :
  ∃ cl,closureFor scope env=pure cl/\(∀ x c,cl.lookup x=some c->env.cells.lookup x=some c)/\∀ y∈scope.names,y.2 = .free->∃ c,cl.lookup y.1=some c:=by
 obtain ⟨cl,e,p1,p2,_⟩:=Pp env scope.names [] h (fun x c e=>by simp at e)
 refine ⟨cl,?_,p1,p2⟩
 unfold closureFor
 show (forIn scope.names [] _ >>= fun cs=>pure cs)=pure cl
 have:(forIn scope.names ([]:List (Str×Addr)) (fun (x:Str×lP) (r:List (Str×Addr))=>if (x.2 == iJ)=true then do let c <- cellOf env x.1;pure (iH ((x.1,c)::r)) else pure (iH r)):Sem (List (Str×Addr))) >>= (fun cs=>pure cs)=pure cl:=by rw[e];rfl
 exact this
def blk(X:Cx)(scope:mF)(cl:List (Str×Addr))(C:Addr)(N':List Str)(s2:aJ)(H2:Hp)(fp:List Addr)(pins:List (Addr×Obj)):Cx:=
 { X with env:=compEnvC scope cl C X.env,N:=N',s₀:=s2,H₀:=H2,outer:=X.stack,ex:=fp,fn:=fun _=>false,pn:=X.pn++pins,xe:=fun _ _=>False }
theorem HOk.adopt{P:bT}{w:cC}{h:Heap}(x:HOk P w H h)(hn:H a=none)(new:ObjOk P w (upd H a o) h a o):HOk P w (upd H a o) h:=fun b u e=>by
 by_cases hb:b=a
 ·subst hb;rw[upd_same] at e;cases e;exact new
 ·rw[Bj hb] at e
  exact (x b u e).stay (fun c v _ q=>q) (fun c q=>by rw[Bj (B4 q hn)];exact q) fun c xs q=>by rw[Bj (B4 q hn)];exact q
theorem Un.adopt{fs ex:List Addr}{h h1:Heap}(u:Un fs ex H H1 h h1)(hn:H1 a=none)(ha:h.get? a=none):Un fs ex H (upd H1 a o) h h1 where
 keep:=u.keep
 slot:=u.slot
 free:=fun b ob q n hx=>by
  have:b≠a:=fun z=>by rw[z,ha] at q;cases q
  rw[Bj this];exact u.free b ob q n hx
 there:=u.there
 tups:=fun b xs q=>by have q':=u.tups b xs q;rw[Bj (B4 q' hn)];exact q'
 frzs:=fun b ob xs q=>by have q':=u.frzs b ob xs q;rw[Bj (B4 q' hn)];exact q'
 tbls:=fun b ps q=>by
  obtain ⟨m,q'⟩:=u.tbls b ps q
  exact ⟨m,by rw[Bj (B4 q' hn)];exact q'⟩
structure CompSc(X:Cx)(scope:mF)(N':List Str)(ix:List (Option Nat)):Prop where
 kind:scope.kind = .function
 cell:(scope.names.all fun y=>y.2 != .cell)=true
 loc:(scope.names.all fun y=>y.2 != .local || scope.names.lookup y.1 == some .local)=true
 free:(scope.names.all fun y=>y.2 != .free || (X.env.kindOf y.1 == some .cell || X.env.kindOf y.1 == some .free))=true
 ixs:((N'.zip ix).all fun p=>match p.2 with | none=>true | some i=>(X.N[i]? == some p.1)&&(scope.names.lookup p.1 == some .free))=true
 len:N'.length=ix.length
def inner(ix:List (Option Nat))(σ:L2.St):L2.St:=ix.map fun o=>o.bind fun i=>(σ[i]?).join
def Ak7(J:It)(g:TG)(tt:TT)(te:TE)(σ':L2.St)(H:Hp)(Fin:List V->Hp->Prop):Prop:=∃ W:Nat->Nat->List V->L2.St->Hp->Prop,(∃ m,W 0 m [] σ' H)/\∀ i m acc σ1 H1,W i m acc σ1 H1 ->
 (J.stop i H1/\Fin acc H1)\/(J.go i H1/\∀ x H3,J.yld i H1 x H3->g x σ1 H3 fun σ2 H4=>tt σ2 H4 fun b H5=>
  if b=true then te σ2 H5 fun y H6=>acc.length < sizeLine/\∃ m',m' < m/\W (i+1) m' (acc++[y]) σ2 H6 else ∃ m',m' < m/\W (i+1) m' acc σ2 H5)
variable {N':List Str}{ix:List (Option Nat)}{cl:List (Str×Addr)}{fp:List Addr}
section
variable {s2:aJ}
theorem Jp{β:Type}{v:β}:∀ {l:List (Str×β)},l.lookup x=some v->(x,v)∈l
 | [],h=>by simp at h
 | (n,k)::r,h=>by
  rw[bX] at h
  cases hx:x == n with
  | true => rw [hx] at h; simp at h; have : x = n := by simpa using hx
            subst this;subst h;exact bE ..
  | false=>rw[hx] at h;exact aQ _ (Jp h)
theorem Jk{env:iZ}{x:Str}:∀ {names:List (Str×lP)} {k:lP},(names.map fun (n,k)=>if (k == iJ&&env.scope.kind == .function&&env.kindOf n == some .cell) then (n,pN) else (n,k)).lookup x=some k ->
  names.lookup x=some k\/(names.lookup x=some .free/\k = .cell)
 | [],k,h=>by simp at h
 | (n,k')::r,k,h=>by
  have ih:=@Jk env x r k
  rw[aI] at h
  cases hx:x == n with
  | true=>
   rw[bX,hx]
   simp only at h ⊢
   split at h
   ·rename_i hc
    rw[bX,hx] at h
    simp at h
    simp only[cJ] at hc
    have:k' = .free:=by simpa using hc.1.1
    subst this
    exact .inr ⟨rfl,h.symm⟩
   ·rw[bX,hx] at h
    exact .inl h
  | false=>
   rw[bX,hx]
   simp only at h ⊢
   split at h
   ·rw[bX,hx] at h;exact ih h
   ·rw[bX,hx] at h;exact ih h
theorem Il{env:iZ}{x:Str}:∀ {names:List (Str×lP)},names.lookup x=some .free ->
  (names.map fun (n,k)=>if (k == iJ&&env.scope.kind == .function&&env.kindOf n == some .cell) then (n,pN) else (n,k)).lookup x=some .free\/(names.map fun (n,k)=>if (k == iJ&&env.scope.kind == .function&&env.kindOf n == some .cell) then (n,pN) else (n,k)).lookup x=some .cell
 | [],h=>by simp at h
 | (n,k')::r,h=>by
  have ih:=@Il env x r
  rw[aI]
  cases hx:x == n with
  | true=>
   rw[bX,hx] at h
   simp at h
   subst h
   simp only
   split
   ·right;rw[bX,hx]
   ·left;rw[bX,hx]
  | false=>
   rw[bX,hx] at h
   have:=ih h
   simp only
   split
   ·rw[bX,hx];exact this
   ·rw[bX,hx];exact this
theorem Ajs(S:CompSc X scope N' ix)(hcalm:X.calm=true)(I2:Inv X pins σ H2 s2)(hcl:∀ x c,cl.lookup x=some c->X.env.cells.lookup x=some c)(hcl2:∀ y∈scope.names,y.2 = .free->∃ c,cl.lookup y.1=some c)
  (f2:∀ b∈fp,Lr X pins H2 b) (hfp:∀ b∈fp,b < s2.heap.objs.size) {C:Addr} {h4:Heap} {m:Str->Option aF} {t4:Nat} (hC:s2.heap.objs.size<=C) (hns:h4.Ns C m) (keep:∀ b o,s2.heap.get? b=some o->h4.get? b=some o) :
  Inv (blk X scope cl C N' s2 H2 fp pins) [] (inner ix σ) H2 { s2 with heap:=h4,toks:=t4 }:=by
 have hkindC:(relabel scope X.env).kind = .function:=S.kind
 have ok:(blk X scope cl C N' s2 H2 fp pins).Ok:=
  { mod:=I2.ok.mod
    kind:=hkindC
    glob:=I2.ok.glob
    blt:=I2.ok.blt
    above:=hC
    inj:=fun x y c e1 e2=>I2.ok.inj x y c (hcl x c e1) (hcl y c e2)
    has:=fun x h=>by
     have h':(relabel scope X.env).names.lookup x=some .cell\/(relabel scope X.env).names.lookup x=some .free:=h
     have hfree:scope.names.lookup x=some .free:=by
      rcases h' with h' | h'
      ·rcases Jk h' with q | ⟨q,_⟩
       ·have:=bS.mp S.cell _ (Jp q)
        simp at this
       ·exact q
      ·rcases Jk h' with q | ⟨q,z⟩
       ·exact q
       ·cases z
     exact hcl2 _ (Jp hfree) rfl
    cab:=fun x c h=>by cases h
    hd:=fun _=>I2.ok.hd hcalm
    frames:=I2.ok.frames
    stk:=.inl rfl
    exf:=fun b hb=>⟨cA (aW (hfp b hb) hC),fun x c e=>(f2 b hb).2.2.2.2.1 x c (hcl x c e)⟩
    bs:=fun b o e=>I2.bs b o e
    bsz:=cB I2.ok.bsz I2.sz
    noex:=fun b o e hb=>by
     rcases (f2 b hb).2.2.2.1 with z | z
     ·exact I2.ok.noex b o e z
     ·exact absurd (aW (aP (I2.ok.bs b o e).1) z) (dY _)
    exfs:=fun b hb z=>by
     rcases bL.mp (I2.stkSub b z) with q | q
     ·exact (f2 b hb).2.1 q
     ·exact (f2 b hb).2.2.1 q
    funs:=I2.stack
    frf:=I2.stkFree }
 obtain ⟨m0,hn0,hl0⟩:=id I2.loc
 refine ⟨ok,rfl,I2.bare,Un.kept keep,⟨m,hns,fun j x v e1 e2 e3=>?_⟩,fun x c e=>?_,I2.hok.fresh hC,fun x c e=>I2.freeC x c (hcl x c e),fun p hp=>?_,I2.hok.kept keep,?_⟩
 ·-- a name that the block takes along
  have e1':N'[j]? = some x:=e1
  have e2':(inner ix σ)[j]? = some (some v):=e2
  unfold inner at e2'
  rw[bJ] at e2'
  cases hx:ix[j]? with
  | none=>rw[hx] at e2';simp at e2'
  | some o=>
   rw[hx] at e2'
   cases o with
   | none=>simp at e2'
   | some i=>
    simp at e2'
    have hz:(x,some i)∈N'.zip ix:=dX (i:=j) (by rw[List.getElem?_zip_eq_some];exact ⟨e1',hx⟩)
    have hz':=bS.mp S.ixs _ hz
    simp only[cJ,beq_iff_eq] at hz'
    obtain ⟨hXN,hfr⟩:=hz'
    have hσ:σ[i]? = some (some v):=by
     cases q:σ[i]? with
     | none=>rw[q] at e2';simp at e2'
     | some o=>rw[q] at e2';simp at e2';rw[e2']
    have hk:=bS.mp S.free _ (Jp hfr)
    simp at hk
    have hvis:Vis X.env.scope x:=by
     rcases hk with q | q
     ·exact .inr (.inl q)
     ·exact .inr (.inr q)
    obtain ⟨u,r,look⟩:=hl0 i x v hXN hσ hvis
    rcases look with ⟨q,_⟩ | ⟨_,c,ec,hc⟩
    ·rcases hk with z | z
     ·rw[z] at q;cases q
     ·rw[z] at q;cases q
    ·obtain ⟨c',ec'⟩:=hcl2 _ (Jp hfr) rfl
     have:c'=c:=by have:=hcl x c' ec';rw[ec] at this;cases this;rfl
     subst this
     refine ⟨u,r,.inr ⟨?_,c',ec',?_⟩⟩
     ·rcases Il (env:=X.env) hfr with q | q
      ·exact .inr q
      ·exact .inl q
     ·obtain ⟨oc,ho,hd⟩:=hc
      exact ⟨oc,keep _ _ ho,hd⟩
 ·obtain ⟨v,oc,ho,hd⟩:=I2.cell x c (hcl x c e)
  exact ⟨v,oc,keep _ _ ho,hd⟩
 ·have hp':p∈X.pn++pins:=by simpa[blk] using hp
  obtain ⟨q1,q2,q3,q4,q5⟩:=I2.pin p hp'
  refine ⟨keep _ _ q1,q2,cA (aW (aP q1) hC),fun z=>?_,q5⟩
  rcases bL.mp (I2.stkSub p.1 z) with q | q
  ·exact q3 q
  ·exact q4 q
 ·show (inner ix σ).length=N'.length
  rw[S.len];simp[inner]
end
variable {X':Cx}{tt:TT}{elt:Expr}{ifs:List Expr}{te:TE}
section
variable {s2:aJ}
def Xw(X':Cx)(ifs:List Expr)(tt:TT):Prop:=∀ (pins:List (Addr×Obj)) (s:aJ) (σ:L2.St) (H:Hp) (Q:Bool->Hp->Prop) (E:aF->aJ->Prop),Inv X' pins σ H s->tt σ H Q->(∀ e s,X'.xe e s->E e s) ->
 wpAny (model X'.prog X'.w) X'.A (forIn ifs true fun c r=>if r=true then do let ok <- isTrue c X'.env (eval c X'.env);pure (iH ok) else pure (iH r)) (TP X' pins σ Q) E s
def Aos:TT:=fun _ H Q=>Q true H
theorem Xl:Xw X' [] Aos:=fun pins s σ H Q E I h _=>wpAny_tests_nil ⟨H,I,h⟩
theorem W2(h:PT X' c tt):Xw X' [c] tt:=fun pins s σ H Q E I q hE=>wpAny_tests_one (gC (h pins s σ H Q I q) (fun _ _ z=>z) hE)
def Ei(its:List aF)(n:Nat):Obj:={ cls:=.type "list",data:=.seq its.toArray n }
theorem Aik{elt tg iter:Expr}{ifs:List Expr}{pos:Pos}{it D C:Addr}{J:It}{tn:Nat->Heap->Prop}{g:TG}{tt:TT}{te:TE}{Fin:List V->Hp->Prop}{R:sB->aJ->Prop}{X':Cx}
  (hX:X'.A=X.A/\X'.prog=X.prog/\X'.w=X.w/\X'.K=X.K/\X'.calm=true/\∀ e s,¬ X'.xe e s) (T:Turn X.prog X.w X.K tg J fp it tn) (hg:PG X' tg g) (ht:Xw X' ifs tt) (he:PE X' elt te)
  (hD1:s2.heap.objs.size<=D) (hDC:D≠C) (hC:s2.heap.objs.size<=C) (hfp:∀ b∈fp,Lr X' [] H2 b/\b≠D) (hDf:∀ H,H D=none->Lr X' [] H D)
  {s:aJ} {σ1:L2.St} {H1:Hp} {n0:Nat} (I:Inv X' [(D,Ei [] n0)] σ1 H1 s) (st:tn 0 s.heap) (fr:∀ b∈fp,H1 b=none) (hloop:Ak7 J g tt te σ1 H1 Fin)
  (hR:∀ (s':aJ) (σ':L2.St) (H':Hp) (acc:List V) (its:List aF) (n:Nat),Inv X' [(D,Ei its n)] σ' H' s'->Vals acc its->acc.length<=sizeLine->Fin acc H'->R (.ok .next) s') :
  jV (model X.prog X.w) X.A (.compLoop (.ListComp elt [⟨tg,iter,ifs,0⟩] scope pos) 0 (.ref it) (.ref D) X'.env) R s:=by
 obtain ⟨W,⟨m0,w0⟩,turn⟩:=hloop
 obtain ⟨hXA,hXp,hXw,hXK,hXc,hxe⟩:=hX
 have hfpo:∀ (o:Obj) (H:Hp),(∀ b∈fp,H b=none)->∀ b∈fp,Lr X' [(D,o)] H b:=fun o H hn b hb=>by
  obtain ⟨⟨_,q1,q2,q3,q4,q5⟩,q6⟩:=hfp b hb
  refine ⟨hn b hb,q1,q2,q3,q4,fun p hp=>?_⟩
  rcases cV.mp hp with z | z
  ·exact q5 p (eK _ z)
  ·have:p=(D,o):=by simpa using z
   rw[this];exact fun z=>q6 z.symm
 refine codeAny_loop rfl (fun n s=>∃ i acc its k σ1 H1,Inv X' [(D,Ei its k)] σ1 H1 s/\Vals acc its/\acc.length<=sizeLine/\tn i s.heap/\(∀ b∈fp,H1 b=none)/\W i n acc σ1 H1) (fun n s hI=>?_) m0 ⟨0,[],[],n0,σ1,H1,I,.nil,iT _,st,fr,w0⟩
 show wpAny _ X.A ((compTurn (.ListComp elt [⟨tg,iter,ifs,0⟩] scope pos) 0 (.ref it) (.ref D) X'.env).onRaise (fun x=>do noteFrame x X'.env;theTreesLotGoes x)) _ _ s
 refine wpAny_noted ?_
 rw[compTurn_list]
 obtain ⟨i,acc,its,k,σ1,H1,I,hv,hz,st,fr,w1⟩:=hI
 refine aD (mL (aD ?_))
 rcases turn i n acc σ1 H1 w1 with ⟨stop,fin⟩ | ⟨go,step⟩
 ·have h:=T.done X' hXp hXw hXK hXc i _ s σ1 H1 (notedBy (model X.prog X.w) X.A X'.env fun e s'=>R (.error e) s') I (hfpo _ H1 fr) st stop
  rw[hXA] at h
  refine thn h fun r s4 zz=>?_
  obtain ⟨hr,I4⟩:=zz
  subst hr
  exact aO (hR s4 σ1 H1 acc its k I4 hv hz fin)
 ·have h:=T.item X' hXp hXw hXK hXc i _ s σ1 H1 (notedBy (model X.prog X.w) X.A X'.env fun e s'=>R (.error e) s') I (hfpo _ H1 fr) st go
  rw[hXA] at h
  refine thn h fun r s4 zz=>?_
  obtain ⟨u,hr,h4⟩:=zz
  subst hr
  refine aD (thn h4 fun _ s5 zz=>?_)
  obtain ⟨x,H5,I5,r5,y5,st5,fr5⟩:=zz
  have I5':=I5.pinned (hfpo _ H5 fr5) (T.obj _ _ st5)
  have hg5:=hg _ s5 σ1 H5 x u _ I5' r5 (step x H5 y5)
  rw[hXp,hXw,hXA] at hg5
  refine aD (gC hg5 (fun _ s6 zz=>?_) fun e s z=>absurd z (hxe e s))
  obtain ⟨σ6,H6,I6,q6⟩:=zz
  have ht6:=ht _ s6 σ6 H6 _ (notedBy (model X.prog X.w) X.A X'.env fun e s'=>R (.error e) s') I6 q6 (fun e s z=>absurd z (hxe e s))
  rw[hXp,hXw,hXA] at ht6
  refine aD (thn ht6 fun b s7 zz=>?_)
  obtain ⟨H7,I7,q7⟩:=zz
  have back:∀ {σ8:L2.St} {H8:Hp} {s8:aJ},Inv X' ([(D,Ei its k)]++V1 fp s5.heap) σ8 H8 s8->tn (i+1) s8.heap/\(∀ b∈fp,H8 b=none)/\s8.heap.get? D=some (Ei its k)/\H8 D=none:=fun {σ8 H8 s8} I8=>by
   refine ⟨T.keep _ _ _ st5 fun b hb o e=>(I8.pin (b,o) (bP _ (bP _ (Lk hb e)))).1,fun b hb=>?_,?_,?_⟩
   ·obtain ⟨o,e,d⟩:=T.obj _ _ st5 b hb
    exact (I8.pin (b,o) (bP _ (bP _ (Lk hb e)))).2.1
   ·exact (I8.pin (D,Ei its k) (bP _ (eK _ (cF.mpr rfl)))).1
   ·exact (I8.pin (D,Ei its k) (bP _ (eK _ (cF.mpr rfl)))).2.1
  cases b with
  | false=>
   obtain ⟨m',hm,w8⟩:=(q7:if false=true then _ else _)
   obtain ⟨st8,fr8,_,_⟩:=back I7
   refine aO ⟨rfl,m',hm,i+1,acc,its,k,σ6,H7,?_,hv,hz,st8,fr8,w8⟩
   exact I7.pins_of fun p hp=>I7.pin p (bP _ (eK _ hp))
  | true=>
   have q7':te σ6 H7 fun y H6=>acc.length < sizeLine/\∃ m',m' < n/\W (i+1) m' (acc++[y]) σ6 H6:=q7
   have he7:=he _ s7 σ6 H7 _ I7 q7'
   rw[hXp,hXw,hXA] at he7
   refine aD (aD (gC he7 (fun y s8 zz=>zz.elim fun v H8 I8 r8 zq=>?_) fun e s z=>absurd z (hxe e s)))
   obtain ⟨hlt,m',hm,w8⟩:=zq
   obtain ⟨st8,fr8,hDo,hDn⟩:=back I8
   have hlen:=hv.length
   have hisl:s8.heap.IsList D its.toArray:=⟨_,hDo,rfl,k,rfl⟩
   refine aD ?_
   obtain ⟨k',hd'⟩:∃ k',dG (·.push y) (Ei its k)=Ei (its++[y]) k':=⟨_,by simp[Ei,dG];rfl⟩
   refine eB slot_list_append hisl.typeIs entry_list_append ?_ (args_list_append _ _)
   show wpAny _ _ (updateSeq D (·.push y) >>= fun _=>ret .none) _ _ s8
   refine aD (iI hDo rfl (aO ⟨.none,rfl,?_⟩))
   have hk9:∀ b o,b≠D->s8.heap.get? b=some o->(s8.heap.update D (dG (·.push y))).get? b=some o:=fun b o hb e=>(jC (h:=s8.heap) (a:=D) ..).2 b hb |>.trans e
   have hD9:(s8.heap.update D (dG (·.push y))).get? D=some (Ei (its++[y]) k'):=by
    rw[<- hd'];exact dQ _ hDo (by rw[hd'];exact Obj.isFreed_of_seq (xs:=(its++[y]).toArray) (n:=k') rfl)
   have I8':Inv X' [] σ6 H8 s8:=I8.pins_of fun p hp=>by cases hp
   obtain ⟨d0,d1,d2,d3,d4,d5⟩:=hDf H8 hDn
   have I9:Inv X' [] σ6 H8 { s8 with heap:=s8.heap.update D (dG (·.push y)) }:=I8'.turned (t':=s8.toks) hk9 hDn d1 d3 d4 d5
   have I10:=I9.pins_of (pins':=[(D,Ei (its++[y]) k')]) fun p hp=>by
    have:p=(D,Ei (its++[y]) k'):=by simpa using hp
    subst this
    exact ⟨hD9,hDn,d1,d2,fun v z=>by simp[Ei] at z⟩
   refine aO (aO ⟨rfl,m',hm,i+1,acc++[v],its++[y],k',σ6,H8,I10,Vals.append hv (.cons r8 .nil),by rw[cM];simp;omega,?_,fr8,w8⟩)
   refine T.keep _ _ _ st8 fun b hb o e=>hk9 b o (hfp b hb).2 e
end
variable {y:Str}{py spos:Pos}
section
def Anu(ix:List (Option Nat))(wi:TI)(g:TG)(tt:TT)(te:TE):TE:=fun σ H Q=>wi σ H fun J H1=>Ak7 J g tt te (inner ix σ) H1 fun acc H2=>∀ p,H2 p=none->Q (.ref p) (upd H2 p (.lst acc))
theorem Xb{elt tg iter:Expr}{ifs:List Expr}{pos:Pos}{g:TG}{tt:TT}{te:TE}{pins:List (Addr×Obj)}{σ:L2.St}{H2:Hp}{s2:aJ}{cl:List (Str×Addr)}{fp:List Addr}{it:Addr}{J:It}{tn:Nat->Heap->Prop}{E:aF->aJ->Prop}{Fin:List V->Hp->Prop}{RR:aF->Addr->sB->aJ->Prop}
  (S:CompSc X scope N' ix) (hcalm:X.calm=true) (hcl:∀ x c,cl.lookup x=some c->X.env.cells.lookup x=some c) (hcl2:∀ y∈scope.names,y.2 = .free->∃ c,cl.lookup y.1=some c)
  (hg:∀ C,PG (blk X scope cl C N' s2 H2 fp pins) tg g) (ht:∀ C,Xw (blk X scope cl C N' s2 H2 fp pins) ifs tt) (he:∀ C,PE (blk X scope cl C N' s2 H2 fp pins) elt te)
  (I2:Inv X pins σ H2 s2) (T:Turn X.prog X.w X.K tg J fp it tn) (st2:tn 0 s2.heap) (f2:∀ b∈fp,Lr X pins H2 b) (hloop:Ak7 J g tt te (inner ix σ) H2 Fin)
  (hRR:∀ (D C:Addr) (s':aJ) (H':Hp) (acc:List V),Inv X pins σ (upd H' D (.lst acc)) s'->H' D=none->(∃ m,s'.heap.Ns C m)->(upd H' D (.lst acc)) C=none->Lr X pins (upd H' D (.lst acc)) C->Fin acc H'->RR (.ref D) C (.ok .next) s') :
  wpAny (model X.prog X.w) X.A (newList []) (fun acc s₃=>wpAny (model X.prog X.w) X.A (newFunctionEnv scope X.env.globals cl [] X.env.qual none .none (some X.env)) (fun cenv s₄=>
   jV (model X.prog X.w) X.A (.compStart (.ListComp elt [⟨tg,iter,ifs,0⟩] scope pos) 0 (.ref it) acc { cenv with scope:=relabel scope X.env }) (RR acc cenv.locals) s₄) E s₃) E s2:=by
 have hcell:∀ y∈scope.names,y.2≠.cell:=fun y hy z=>by
  have:=bS.mp S.cell y hy
  rw[z] at this;simp at this
 refine eG (wpAny_newFunctionEnv hcell (by intro y hy;simp at hy) (fun h₁ hns₁ hsb₁=>?_) S.kind)
 dsimp only at hns₁ hsb₁ ⊢
 generalize hH2:s2.heap.push { cls:=.type "list",dict:=none,data:=.seq ([]:List aF).toArray } = HP at hns₁ hsb₁ ⊢
 have hCs:HP.objs.size=s2.heap.objs.size+1:=by rw[<- hH2,cO]
 have hDC:s2.heap.objs.size≠HP.objs.size:=by rw[hCs];exact cA (hG _)
 have hCle:s2.heap.objs.size<=HP.objs.size:=by rw[hCs];exact rL _
 have old:∀ b o,s2.heap.get? b=some o->h₁.get? b=some o:=fun b o e=>hsb₁.extBut b o (cA (aW (aP e) hCle)) (aB _ (hH2 ▸ aB _ e))
 have hacc:h₁.get? s2.heap.objs.size=some (Ei [] 0):=hsb₁.extBut _ _ hDC (aB _ (hH2 ▸ aM _ rfl))
 have hfp:∀ b∈fp,b < s2.heap.objs.size:=fun b hb=>by
  obtain ⟨o,e,_⟩:=T.obj _ _ st2 b hb
  exact aP e
 generalize hDg:s2.heap.objs.size=D at hDC hacc
 generalize hCg:HP.objs.size=C at *
 have hDle:s2.heap.objs.size<=D:=qK hDg
 have hD2:s2.heap.get? D=none:=by
  cases q:s2.heap.get? D with
  | none=>rfl
  | some o=>exact absurd (aW (aP q) hDle) (dY _)
 have I4:=Ajs (t4:=s2.toks+([]:List (Str×aF)).length) S hcalm I2 hcl hcl2 f2 hfp hCle hns₁ old
 have above:∀ a,s2.heap.objs.size<=a->a∉frs X.stack/\(∀ x c,X.env.cells.lookup x=some c->c≠a)/\(∀ p∈X.pn++pins,p.1≠a)/\a≠X.env.locals:=fun a ha=>by
  refine ⟨fun z=>?_,fun x c e z=>?_,fun p hp z=>?_,?_⟩
  ·rcases bL.mp (I2.stkSub a z) with q | q
   ·exact absurd (aW I2.lt (q ▸ ha)) (dY _)
   ·exact I2.nofs ha q
  ·obtain ⟨v,q⟩:=I2.cell x c e
   exact absurd (aW q.lt (z ▸ ha)) (dY _)
  ·exact absurd (aW (aP (I2.pin p hp).1) (z ▸ ha)) (dY _)
  ·intro z;exact absurd (aW I2.lt (z ▸ ha)) (dY _)
 have hfpX:∀ b∈fp,Lr (blk X scope cl C N' s2 H2 fp pins) [] H2 b/\b≠D:=fun b hb=>by
  obtain ⟨q0,q1,q2,q3,q4,q5⟩:=f2 b hb
  have hlt:=hfp b hb
  refine ⟨⟨q0,cA (aW hlt hCle),fun z=>?_,.inl hb,fun x c e=>q4 x c (hcl x c e),fun p hp=>q5 p (by simpa[blk] using hp)⟩,cA (aW hlt hDle)⟩
  rcases bL.mp (I2.stkSub b z) with q | q
  ·exact q1 q
  ·exact q2 q
 have hDf:∀ H:Hp,H D=none->Lr (blk X scope cl C N' s2 H2 fp pins) [] H D:=fun H hn=>by
  obtain ⟨a1,a2,a3,a4⟩:=above D hDle
  exact ⟨hn,hDC,a1,.inr hDle,fun x c e=>a2 x c (hcl x c e),fun p hp=>a3 p (by simpa[blk] using hp)⟩
 have hDn2:H2 D=none:=I2.hok.fresh hDle
 have I5:Inv (blk X scope cl C N' s2 H2 fp pins) [(D,Ei [] 0)] (inner ix σ) H2 { s2 with heap:=h₁,toks:=s2.toks+([]:List (Str×aF)).length }:=I4.pins_of fun p hp=>by
  have:p=(D,Ei [] 0):=by simpa using hp
  subst this
  obtain ⟨_,d1,d2,_⟩:=hDf H2 hDn2
  exact ⟨hacc,hDn2,d1,d2,fun v z=>by simp[Ei] at z⟩
 have st5:tn 0 h₁:=T.keep _ _ _ st2 fun b _ o e=>old b o e
 have loop:jV (model X.prog X.w) X.A (.compLoop (.ListComp elt [⟨tg,iter,ifs,0⟩] scope pos) 0 (.ref it) (.ref D) (blk X scope cl C N' s2 H2 fp pins).env) (RR (.ref D) C) { s2 with heap:=h₁,toks:=s2.toks+([]:List (Str×aF)).length }:=by
  refine Aik (X':=blk X scope cl C N' s2 H2 fp pins) ⟨rfl,rfl,rfl,rfl,hcalm,fun _ _ z=>z⟩ T (hg C) (ht C) (he C) hDle hDC hCle hfpX hDf I5 st5 (fun b hb=>(f2 b hb).1) hloop ?_
  intro s' σ' H' acc its n I hv hz fin
  obtain ⟨hDo,hDn,_⟩:=I.pin (D,Ei its n) (bP _ (cF.mpr rfl))
  have hbase:Un (frs X.stack) fp H2 H' s2.heap s'.heap:=I.base
  have hok:HOk X.prog X.w (upd H' D (.lst acc)) s'.heap:=HOk.adopt I.hok hDn ⟨hz,its,n,hv,hDo⟩
  have IX:Inv X pins σ (upd H' D (.lst acc)) s':=I2.call' I.os (Un.adopt hbase hDn hD2) hok I.bare fun b hb=>⟨(f2 b hb).2.2.2.1,(f2 b hb).2.1,(f2 b hb).2.2.2.2.1,(f2 b hb).2.2.2.2.2⟩
  obtain ⟨m,hm,_⟩:=I.loc
  have hCn:(upd H' D (.lst acc)) C=none:=by rw[Bj (gX hDC)];exact I.free
  obtain ⟨a1,a2,a3,a4⟩:=above C hCle
  refine hRR D C s' H' acc IX hDn ⟨m,hm⟩ hCn ⟨hCn,a4,fun z=>?_,.inr (cB I2.sz hCle),a2,a3⟩ fin
  exact I2.nofs hCle z
 have e1:({ newEnv scope C X.env.globals cl X.env.qual none .none (some X.env) pU with scope:=relabel scope X.env }:iZ)=(blk X scope cl C N' s2 H2 fp pins).env:=rfl
 exact codeAny_compStart_list loop (T.self _ 0 _ _ _ st5 loop)
theorem CompSc.names(S:CompSc X scope N' ix):∀ x∈scope.names,x.2 = .local->scope.names.lookup x.1=some .local:=fun x hx hl=>by
 have:=bS.mp S.loc x hx
 rw[hl] at this
 simpa using this
theorem CompSc.clos(S:CompSc X scope N' ix)(ok:X.Ok):∃ cl,closureFor scope X.env=pure cl/\(∀ x c,cl.lookup x=some c->X.env.cells.lookup x=some c)/\∀ y∈scope.names,y.2 = .free->∃ c,cl.lookup y.1=some c:=by
 refine Oj fun y hy hf=>?_
 have:=bS.mp S.free y hy
 rw[hf] at this
 simp at this
 exact ok.has y.1 this
theorem Agg{elt tg iter:Expr}{ifs:List Expr}{pos:Pos}{wi:TI}{g:TG}{tt:TT}{te:TE}(S:CompSc X scope N' ix)(hcalm:X.calm=true)(hi:PI X tg iter wi)
  (hg:∀ cl C s2 H2 fp pins,PG (blk X scope cl C N' s2 H2 fp pins) tg g) (ht:∀ cl C s2 H2 fp pins,Xw (blk X scope cl C N' s2 H2 fp pins) ifs tt) (he:∀ cl C s2 H2 fp pins,PE (blk X scope cl C N' s2 H2 fp pins) elt te)
  (hs:∀ x,foldedSetIterable iter X.env x=pure x:=by intro _;rfl):PE X (.ListComp elt [⟨tg,iter,ifs,0⟩] scope pos) (Anu ix wi g tt te):=by
 intro pins s σ H Q I h
 obtain ⟨cl,hclos,hcl,hcl2⟩:=S.clos I.ok
 rw[eval_ListComp]
 refine mQ (use:=none) rfl hs hclos S.kind S.names (thn (hi pins s σ H _ I h) fun v s1 h1=>thn h1 fun itv s2 h2=>?_)
 obtain ⟨it,fp,tn,J,H2,e,I2,T,st2,f2,loop⟩:=h2
 subst e
 refine Xb (RR:=fun acc C=>compPost (model X.prog X.w) X.A X.xe none (EP X pins σ Q) acc C) S hcalm hcl hcl2 (fun C=>hg cl C s2 H2 fp pins) (fun C=>ht cl C s2 H2 fp pins) (fun C=>he cl C s2 H2 fp pins) I2 T st2 f2 loop ?_
 intro D C s' H' acc IX hDn ⟨m,hm⟩ hCn hC fin
 refine ⟨m,hm,fun h' hsb=>?_⟩
 obtain ⟨c0,c1,c2,c3,c4,c5⟩:=hC
 exact ⟨.ref D,_,IX.turned (t':=s'.toks) (fun b o hb e=>hsb.2 b hb |>.trans e) c0 c1 c3 c4 c5,rfl,fin D hDn⟩
theorem Afz{i:Nat}{y:Str}{py spos:Pos}{elt tg iter:Expr}{ifs:List Expr}{pos:Pos}{wi:TI}{g:TG}{tt:TT}{te:TE}(hN:X.N.Nodup)(hiN:X.N[i]? = some y)(hx:Loc X.env.scope y)(hf:X.fn y=true\/X.env.scope.names.lookup y=some .local)
  (S:CompSc X scope N' ix) (hcalm:X.calm=true) (hi:PI X tg iter wi)
  (hg:∀ cl C s2 H2 fp pins,PG (blk X scope cl C N' s2 H2 fp pins) tg g) (ht:∀ cl C s2 H2 fp pins,Xw (blk X scope cl C N' s2 H2 fp pins) ifs tt) (he:∀ cl C s2 H2 fp pins,PE (blk X scope cl C N' s2 H2 fp pins) elt te)
  (hsw:swapsWith (.ListComp elt [⟨tg,iter,ifs,0⟩] scope pos) (some (.Name y py)) spos.line X.env=pure true)
  (hs:∀ x,foldedSetIterable iter X.env x=pure x:=by intro _;rfl):PS X (.Assign [.Name y py] (.ListComp elt [⟨tg,iter,ifs,0⟩] scope pos) spos) (Aoo (Anu ix wi g tt te) (Abh i)):=by
 intro pins s σ H Dn I h
 obtain ⟨cl,hclos,hcl,hcl2⟩:=S.clos I.ok
 rw[exec_Assign_Name_used _ _ _ _ hsw]
 refine aD (mL (aD ?_))
 show wpAny _ X.A (do let _ <- comprehension (.ListComp elt [⟨tg,iter,ifs,0⟩] scope pos) scope X.env _ (newList []) false (eval iter X.env) (some (assign (.Name y py) X.env))) _ _ s
 refine aD (gC (mQ (Q:=fun _ s'=>SP X pins Dn .next s') (use:=some (assign (.Name y py) X.env)) rfl hs hclos S.kind S.names (thn (hi pins s σ H _ I h) fun v s1 h1=>thn h1 fun itv s2 h2=>?_)) (fun _ s' hq=>aO (aO hq)) fun _ _ e=>e)
 obtain ⟨it,fp,tn,J,H2,e,I2,T,st2,f2,loop⟩:=h2
 subst e
 refine Xb (RR:=fun acc C=>compPost (model X.prog X.w) X.A X.xe (some (assign (.Name y py) X.env)) (fun _ s'=>SP X pins Dn .next s') acc C) S hcalm hcl hcl2 (fun C=>hg cl C s2 H2 fp pins) (fun C=>ht cl C s2 H2 fp pins) (fun C=>he cl C s2 H2 fp pins) I2 T st2 f2 loop ?_
 intro D C s' H' acc IX hDn ⟨m,hm⟩ hCn hC fin
 obtain ⟨c0,c1,c2,c3,c4,c5⟩:=hC
 obtain ⟨oC,es,ep,hoC,hdC,hrest⟩:=id hm
 have IP:Inv X (pins++[(C,oC)]) σ (upd H' D (.lst acc)) s':=IX.pins_of fun p hp=>by
  rcases cV.mp hp with z | z
  ·exact IX.pin p (bP _ z)
  ·have:p=(C,oC):=by simpa using z
   subst this
   exact ⟨hoC,c0,c1,c2,fun v z=>by rw[hdC] at z;cases z⟩
 have hq:Abh i (.ref D) σ (upd H' D (.lst acc)) Dn.nx:=fin D hDn
 refine thn (Aho (i:=i) (pos:=py) hN hiN hx hf (pins++[(C,oC)]) s' σ _ (.ref D) (.ref D) Dn.nx IP rfl hq) fun _ s'' zz=>?_
 obtain ⟨σ'',H'',I'',q''⟩:=zz
 obtain ⟨p1,p2,p3,p4,p5⟩:=I''.pin (C,oC) (bP _ (bP _ (cF.mpr rfl)))
 refine ⟨m,⟨oC,es,ep,p1,hdC,hrest⟩,fun h' hsb=>?_⟩
 exact ⟨σ'',H'',(I''.unpinned).turned (t':=s''.toks) (fun b o hb e=>hsb.2 b hb |>.trans e) p2 p3 c3 c4 c5,q''⟩
end
def E4(tt:Option FT):FT:=fun δ L=>match tt with
 | none=>some (true,L)
 | some f=>f δ L
def Wc(it:IU)(g:FG)(tt:Option FT)(fe:FE):Nat->Nat->List U->UE->UH->Option (List U×UH)
 | 0,_,_,_,_=>none
 | m+1,k,acc,δ,L=>match it.at k L with
  | none=>none
  | some none=>some (acc,L)
  | some (some u)=>(g u δ L).bind fun p=>(E4 tt p.1 p.2).bind fun q=>if q.1=true then (fe p.1 q.2).bind fun r=>if decide (acc.length < sizeLine)=true then Wc it g tt fe m (k+1) (acc++[r.1]) p.1 r.2 else none
   else Wc it g tt fe m (k+1) acc p.1 q.2
def Jm(ix:List (Option Nat))(δ:UE):UE:=ix.map fun o=>o.bind fun i=>(δ[i]?).join
def B5(ix:List (Option Nat))(fi:FI)(g:FG)(tt:Option FT)(fe:FE):FE:=fun δ L=>(fi δ L).bind fun p=>(Wc p.1 g tt fe (p.1.size p.2+1) 0 [] (Jm ix δ) p.2).map fun q=>(.ref q.2.length,q.2++[.lst q.1])
theorem RepS.inner(S:RepS K H α δ σ)(ix:List (Option Nat)):RepS K H α (Jm ix δ) (MR.inner ix σ):=by
 refine ⟨by simp[Jm,MR.inner],fun j u e=>?_⟩
 unfold Jm at e
 unfold MR.inner
 rw[bJ] at e ⊢
 cases hx:ix[j]? with
 | none=>rw[hx] at e;simp at e
 | some o=>
  rw[hx] at e
  cases o with
  | none=>simp at e
  | some i=>
   simp at e
   have:δ[i]? = some (some u):=by
    cases q:δ[i]? with
    | none=>rw[q] at e;simp at e
    | some o=>rw[q] at e;simp at e;rw[e]
   obtain ⟨v,hv,r⟩:=S.at_ i u this
   exact ⟨v,by simp[hv],r⟩
def lTo(K:aE)(tt:Option FT):TT:=match tt with
 | none=>Aos
 | some f=>lT K f
inductive CI(K:aE)(it:IU)(g:FG)(tt:Option FT)(fe:FE)(H1:Hp)(α1:List Addr)(ys:List U)(L2:UH)(k m:Nat)(acc:List V)(σ2:_root_.L2.St)(H2:Hp):Prop
 | mk (α2:List Addr) (δ2:UE) (M:UH) (us:List U) (g2:Gr H1 α1 H2 α2) (A2:Abs K H2 α2 M) (S2:RepS K H2 α2 δ2 σ2) (r2:RepL K H2 α2 us acc) (e:Wc it g tt fe m k us δ2 M=some (ys,L2)):CI K it g tt fe H1 α1 ys L2 k m acc σ2 H2
theorem Th{g:FG}{tt:Option FT}:∀ σ H Q,lE K (B5 ix fi g tt fe) σ H Q->Anu ix (lI K fi) (lG K g) (lTo K tt) (lE K fe) σ H Q:=by
 rintro σ H Q ⟨α,δ,L,A,S,z,L3,e,q⟩
 obtain ⟨⟨it,L1⟩,e1,e⟩:=aA.mp e
 obtain ⟨⟨ys,L2⟩,e2,e⟩:=aH.mp e
 cases e
 refine ⟨α,δ,L,A,S,it,L1,e1,fun J H1 α1 g1 A1 hJ=>?_⟩
 refine ⟨CI K it g tt fe H1 α1 ys L2,⟨_,α1,_,L1,[],.refl _ _,A1,(S.mono g1).inner ix,.nil,e2⟩,?_⟩
 rintro k m acc σ2 H2 ⟨α2,δ2,M,us,g2,A2,S2,r2,e3⟩
 cases m with
 | zero=>cases e3
 | succ m=>
  obtain ⟨hgo,hstop⟩:=hJ H2 α2 M g2 A2 k
  unfold Wc at e3
  cases hat:it.at k M with
  | none=>rw[hat] at e3;cases e3
  | some o=>
   cases o with
   | none=>
    rw[hat] at e3
    cases e3
    refine .inl ⟨hstop hat,fun p hp=>?_⟩
    obtain ⟨g3,A3,r3⟩:=A2.lst r2 hp
    exact q _ _ _ (g1.trans (g2.trans g3)) A3 r3
   | some u=>
    rw[hat] at e3
    obtain ⟨go,yld⟩:=hgo u hat
    obtain ⟨⟨δ3,L3⟩,e4,e3⟩:=aA.mp e3
    obtain ⟨⟨b,L4⟩,e5,e3⟩:=aA.mp e3
    refine .inr ⟨go,fun x H3 y3=>?_⟩
    obtain ⟨g3,A3,r3⟩:=yld x H3 y3
    refine ⟨α2,δ2,M,u,A3,S2.mono g3,r3,δ3,L3,e4,fun σ4 H4 α4 g4 A4 S4=>?_⟩
    have after:∀ H5 α5,Gr H4 α4 H5 α5->Abs K H5 α5 L4->(if b=true then lE K fe σ4 H5 (fun y H6=>acc.length < sizeLine/\∃ m',m' < m+1/\CI K it g tt fe H1 α1 ys L2 (k+1) m' (acc++[y]) σ4 H6) else ∃ m',m' < m+1/\CI K it g tt fe H1 α1 ys L2 (k+1) m' acc σ4 H5):=fun H5 α5 g5 A5=>by
     have gA:=g2.trans (g3.trans (g4.trans g5))
     have gB:=g3.trans (g4.trans g5)
     cases b with
     | false=>exact Ab4 ⟨m,hG _,α5,δ3,L4,us,gA,A5,S4.mono g5,r2.mono gB,e3⟩
     | true=>
      obtain ⟨⟨w,L5⟩,e6,e3⟩:=aA.mp e3
      simp only at e3
      split at e3
      ·rename_i hlt
       refine Acu ⟨α5,δ3,L4,A5,S4.mono g5,w,L5,e6,fun y H6 α6 g6 A6 r6=>?_⟩
       exact ⟨by rw[<- r2.length];exact of_decide_eq_true hlt,m,hG _,α6,δ3,L5,us++[w],gA.trans g6,A6,(S4.mono g5).mono g6,(r2.mono (gB.trans g6)).append (.cons r6 .nil),e3⟩
      ·cases e3
    cases tt with
    | none=>
     cases e5
     exact after H4 α4 (.refl _ _) A4
    | some f=>exact ⟨α4,δ3,L3,A4,S4,b,L4,e5,fun H5 α5 g5 A5=>after H5 α5 g5 A5⟩
section
variable {g:FG}{ft:FT}
theorem Ep(S:CompSc X scope N' ix)(hcalm:X.calm=true)(hi:PIF X tg iter fi)(hg:∀ cl C s2 H2 fp pins,PGF (blk X scope cl C N' s2 H2 fp pins) tg g)(he:∀ cl C s2 H2 fp pins,PEF (blk X scope cl C N' s2 H2 fp pins) elt fe)
  (hs:∀ x,foldedSetIterable iter X.env x=pure x:=by intro _;rfl):PEF X (.ListComp elt [⟨tg,iter,[],0⟩] scope pos) (B5 ix fi g none fe):=
 PE.imp (Agg (g:=lG X.K g) (te:=lE X.K fe) (tt:=Aos) S hcalm hi hg (fun _ _ _ _ _ _=>Xl) he hs) Th
theorem Ey(S:CompSc X scope N' ix)(hcalm:X.calm=true)(hi:PIF X tg iter fi)(hg:∀ cl C s2 H2 fp pins,PGF (blk X scope cl C N' s2 H2 fp pins) tg g)(ht:∀ cl C s2 H2 fp pins,PTF (blk X scope cl C N' s2 H2 fp pins) c ft)(he:∀ cl C s2 H2 fp pins,PEF (blk X scope cl C N' s2 H2 fp pins) elt fe)
  (hs:∀ x,foldedSetIterable iter X.env x=pure x:=by intro _;rfl):PEF X (.ListComp elt [⟨tg,iter,[c],0⟩] scope pos) (B5 ix fi g (some ft) fe):=
 PE.imp (Agg (g:=lG X.K g) (te:=lE X.K fe) (tt:=lT X.K ft) S hcalm hi hg (fun _ _ _ _ _ _=>W2 (ht _ _ _ _ _ _)) he hs) (Th (tt:=some ft))
theorem Anf{fc:FE}(ht:∀ σ H Q,lE K fc σ H Q->t σ H Q):∀ D σ H,lS K (Bo fc (gN i)) D σ H->Aoo t (Abh i) D σ H:=by
 rintro D σ H ⟨α,δ,L,A,S,fl,L',e,q⟩
 obtain ⟨⟨u,L1⟩,e1,e⟩:=aA.mp e
 obtain ⟨⟨δ2,L2⟩,e2,e⟩:=aH.mp e
 cases e
 cases e2
 exact ht σ H _ ⟨α,δ,L,A,S,u,_,e1,fun v H1 α1 g1 A1 r1=>q _ H1 α1 g1 A1 ((S.mono g1).set i r1)⟩
theorem An0{i:Nat}{y:Str}{py spos:Pos}(hN:X.N.Nodup)(S:CompSc X scope N' ix)(hcalm:X.calm=true)(hi:PIF X tg iter fi)(hg:∀ cl C s2 H2 fp pins,PGF (blk X scope cl C N' s2 H2 fp pins) tg g)(he:∀ cl C s2 H2 fp pins,PEF (blk X scope cl C N' s2 H2 fp pins) elt fe)
  (hiN:X.N[i]? = some y:=by rfl) (hx:Loc X.env.scope y:=by first | exact rD rfl | exact qB rfl) (hf:X.fn y=true\/X.env.scope.names.lookup y=some .local:=by first | exact .inl rfl | exact .inr rfl)
  (hsw:swapsWith (.ListComp elt [⟨tg,iter,[],0⟩] scope pos) (some (.Name y py)) spos.line X.env=pure true:=by rfl)
  (hs:∀ x,foldedSetIterable iter X.env x=pure x:=by intro _;rfl):PSF X (.Assign [.Name y py] (.ListComp elt [⟨tg,iter,[],0⟩] scope pos) spos) (Bo (B5 ix fi g none fe) (gN i)):=
 PS.imp (Afz (i:=i) (g:=lG X.K g) (te:=lE X.K fe) (tt:=Aos) hN hiN hx hf S hcalm hi hg (fun _ _ _ _ _ _=>Xl) he hsw hs) (Anf Th)
theorem Ah0{i:Nat}{y:Str}{py spos:Pos}(hN:X.N.Nodup)(S:CompSc X scope N' ix)(hcalm:X.calm=true)(hi:PIF X tg iter fi)(hg:∀ cl C s2 H2 fp pins,PGF (blk X scope cl C N' s2 H2 fp pins) tg g)(ht:∀ cl C s2 H2 fp pins,PTF (blk X scope cl C N' s2 H2 fp pins) c ft)(he:∀ cl C s2 H2 fp pins,PEF (blk X scope cl C N' s2 H2 fp pins) elt fe)
  (hiN:X.N[i]? = some y:=by rfl) (hx:Loc X.env.scope y:=by first | exact rD rfl | exact qB rfl) (hf:X.fn y=true\/X.env.scope.names.lookup y=some .local:=by first | exact .inl rfl | exact .inr rfl)
  (hsw:swapsWith (.ListComp elt [⟨tg,iter,[c],0⟩] scope pos) (some (.Name y py)) spos.line X.env=pure true:=by rfl)
  (hs:∀ x,foldedSetIterable iter X.env x=pure x:=by intro _;rfl):PSF X (.Assign [.Name y py] (.ListComp elt [⟨tg,iter,[c],0⟩] scope pos) spos) (Bo (B5 ix fi g (some ft) fe) (gN i)):=
 PS.imp (Afz (i:=i) (g:=lG X.K g) (te:=lE X.K fe) (tt:=lT X.K ft) hN hiN hx hf S hcalm hi hg (fun _ _ _ _ _ _=>W2 (ht _ _ _ _ _ _)) he hsw hs) (Anf (Th (tt:=some ft)))
end
section
variable {s:aJ}{h':Heap}
theorem Inv.turnNew{ch:List Addr}{t':Nat}(I:L2.Inv X pins σ H s)(hch:∀ b∈ch,Lr X pins H b)(k:∀ b o,b∉ch->s.heap.get? b=some o->h'.get? b=some o)(hp:s.heap.objs.size<=p)(new:ObjOk X.prog X.w (upd H p o) h' p o) :
  L2.Inv X pins σ (upd H p o) { s with heap:=h',toks:=t' }:=by
 have hn:H p=none:=I.hok.fresh hp
 have nch:∀ b u,H b=some u->b∉ch:=fun b u e hb=>by rw[(hch b hb).1] at e;cases e
 have st:=Stay.new hn o
 refine I.step (g':=s.gens) (d':=s.drawn) (ch:=ch) (fun b hb=>?_) (fun b o _ _ hc e _=>k b o hc e) (fun b o _ _ hc e _=>⟨o.slots,k b o hc e⟩) (fun b u hc e n=>?_) (fun b u hc e=>⟨u,k b u hc e⟩) st.1 st.2 (fun b ps e=>⟨#[],?_⟩) (fun m hm=>?_) (fun b u e=>?_) I.bare
 ·obtain ⟨_,f1,_,f3,f4,f5⟩:=hch b hb
  exact ⟨f3,f1,f4,f5⟩
 ·rw[Bj (cA (aW (aP e) hp))];exact n
 ·rw[Bj (B4 e hn),e];simp
 ·obtain ⟨o1,es,ep,ho,r⟩:=hm
  exact ⟨o1,es,ep,k _ o1 (fun z=>(hch _ z).2.1 rfl) ho,r⟩
 ·by_cases hb:b=p
  ·subst hb;rw[upd_same] at e;cases e;exact new
  ·rw[Bj hb] at e
   refine (I.hok b u e).stay (fun c v hc q=>k c v ?_ q) (fun c q=>by rw[Bj (B4 q hn)];exact q) fun c xs q=>by rw[Bj (B4 q hn)];exact q
   rcases hc with z | z
   ·rw[z];exact nch b u e
   ·exact nch c _ z
end
theorem Yb(n l1 l2:Nat)(h1:l1 < n)(h2:l2 < n):oV (n+4) (n+2) (n+3) n (n+1) l1 l2:=by
 constructor <;> (intro q;exact absurd (show (_:Nat)=_ from q) (by omega))
section
variable {elts:List Expr}{x1:Nat}{tpos:Pos}
theorem Vw:eA "zip" = some (.type "zip"):=by decide +kernel
def Aw4(g:FA):FI:=fun δ L=>(g δ L).bind fun p=>match p.1 with
 | [.ref n]=>(Aw p.2 n).map fun _=>(.enm n,p.2)
 | _=>none
def A3u(g:FA):FI:=fun δ L=>(g δ L).bind fun p=>match p.1 with
 | [.ref n,.ref m]=>(Aw p.2 n).bind fun _=>(Aw p.2 m).map fun _=>(.zip2 n m,p.2)
 | _=>none
theorem Vh(A:Abs K H α L)(ea:α[n]? = some a)(h:Aw L n=some us):∃ xs,SqL K H a xs/\RepL K H α us xs:=by
 obtain ⟨a',xs,ea',sq,r⟩:=Hq A h
 rw[ea] at ea';cases ea'
 exact ⟨xs,sq,r⟩
end
theorem Uw{β γ:Type}{f g:β->Option γ}:∀ {l:List β},(∀ x∈l,f x=g x)->l.filterMap f=l.filterMap g
 | [],_=>rfl
 | a::l,h=>by rw[fA,fA,h a (bE ..),Uw fun x hx=>h x (aQ _ hx)]
theorem Ab7{β:Type}:∀ r:List β,((cK r.length).map fun (k:Nat)=>(((r.length:Int) - 1 + -1 * (k:Int)).toNat)).filterMap (r.reverse[·]?)=r
 | []=>rfl
 | a::r=>by
  have ih:=Ab7 r
  rw[aL,nP,aI,fA]
  have h0:(a::r).reverse[(((r.length+1:Nat):Int) - 1 + -1 * ((0:Nat):Int)).toNat]? = some a:=by
   have:(((r.length+1:Nat):Int) - 1 + -1 * ((0:Nat):Int)).toNat=r.reverse.length:=by rw[jD];omega
   rw[this,dS,cR (aZ _)]
   simp
  rw[h0]
  simp only
  congr 1
  rw[cY,jP]
  rw[jP] at ih
  refine Eq.trans (Uw fun k hk=>?_) ih
  have hk:=eR.mp hk
  simp only[Function.comp]
  have:(((r.length+1:Nat):Int) - 1 + -1 * ((k.succ:Nat):Int)).toNat=((r.length:Int) - 1 + -1 * (k:Int)).toNat:=by simp only[Nat.succ_eq_add_one];omega
  rw[this,dS,bA (by rw[jD];omega)]
theorem Tq(its:List aF):slicePick its.toArray none none (some (-1))=its.reverse.toArray:=by
 unfold slicePick
 have e:sliceBounds none none (some (-1)) its.toArray.size=((its.length:Int) - 1,-1,-1):=by simp[sliceBounds]
 rw[e]
 have e2:sliceRange ((its.length:Int) - 1) (-1) (-1)=(cK its.length).map fun (k:Nat)=>(((its.length:Int) - 1 + -1 * (k:Int)).toNat):=by
  unfold sliceRange
  have:(if (-1:Int) > 0 then (if ((its.length:Int) - 1) < -1 then (-1 - ((its.length:Int) - 1) + -1 - 1) / -1 else 0) else (if ((its.length:Int) - 1) > -1 then (((its.length:Int) - 1) - -1 - -1 - 1) / (- -1) else 0)).toNat=its.length:=by
   rw[if_neg (by decide)]
   split
   ·have:(its.length:Int) - 1 - -1 - -1 - 1=its.length:=by omega
    rw[this]
    simp
   ·simp;omega
  simp only[this]
 simp only
 rw[e2]
 have:=Ab7 its.reverse
 rw[jD,List.reverse_reverse] at this
 have h2:(sI (fun x=>its.toArray[x]?) (nB (fun (k:Nat)=>(((its.length:Int) - 1 + -1 * (k:Int)).toNat)) (cK its.length)))=its.reverse:=by
  rw[<- this]
  simp
 rw[h2]
theorem Vals.rev{us:List aF}(h:Vals xs us):Vals xs.reverse us.reverse:=by
 induction h with
 | nil=>exact .nil
 | cons h1 _ ih=>rw[dS,dS];exact ih.append (.cons h1 .nil)
theorem RepL.rev:∀ {us:List U} {xs:List V},RepL K H α us xs->RepL K H α us.reverse xs.reverse
 | [],xs,r=>by unfold RepL at r;subst r;exact .nil
 | u::us,xs,r=>by
  unfold RepL at r
  obtain ⟨x,xr,rfl,r1,r2⟩:=r
  rw[dS,dS]
  exact (RepL.rev r2).append (.cons r1 .nil)
end MR
namespace HT
open PySem PySem.Spec PyProof.Rows
section
variable {prog:bT}{w:cC}{A:eD}{E:aF->aJ->Prop}{s:aJ}
end
end HT
namespace MR
open PySem PySem.Spec PyProof.Rows L2
section
variable {X:Cx}{e st:Expr}{fa fs:FE}{p2 pos:Pos}
def A2e(f:FE):FE:=fun δ L=>(f δ L).bind fun p=>match p.1 with | .ref n=>(Aw p.2 n).map fun l=>(.ref p.2.length,p.2++[.lst l.reverse]) | .tup l=>some (.tup l.reverse,p.2) | _=>none
end
structure ClsF(K:aE)(C:Str)(Ca:Addr):Prop where
 ns:dF K bQ C=some (some (.ref Ca))
 cl:Cls K Ca
variable {K:aE}{C:Str}
theorem ClsF.eq{Ca Cb:Addr}(T:ClsF K C Ca)(h:dF K bQ C=some (some (.ref Cb))):Cb=Ca:=by
 have:=T.ns.symm.trans h
 simpa using this.symm
def V6(C:Str)(u:U)(L:UH):Option (Nat×List (Str×U)):=match u with
 | .ref n=>match L[n]? with
  | some (.ins C' fs)=>if C'=C then some (n,fs) else none
  | _=>none
 | _=>none
theorem T8{u:U}{L:UH}{n:Nat}{fs:List (Str×U)}(h:V6 C u L=some (n,fs)):u = .ref n/\L[n]? = some (.ins C fs):=by
 unfold V6 at h
 split at h
 ·split at h
  ·rename_i e
   split at h
   ·rename_i hc
    cases h
    exact ⟨rfl,by rw[e,hc]⟩
   ·cases h
  ·cases h
 ·cases h
variable {f:Str}
theorem Pf{H:Hp}{α:List Addr}:∀ {fs:List (Str×U)} {vs:List (Str×V)},fs.map (·.1)=vs.map (·.1)->RepL K H α (fs.map (·.2)) (vs.map (·.2))->(∀ u,fs.lookup f=some u->∃ v,vs.lookup f=some v/\RepU K H α u v)/\(fs.lookup f=none->vs.lookup f=none)
 | [],[],_,_=>⟨fun u h=>by simp at h,fun _=>rfl⟩
 | [],_::_,h,_=>by simp at h
 | _::_,[],h,_=>by simp at h
 | (g,u)::fs,(g',v)::vs,h,r=>by
  simp only[aI,gJ] at h
  obtain ⟨h1,h2⟩:=h
  subst h1
  simp only[aI] at r
  unfold RepL at r
  obtain ⟨x,xr,e,r1,r2⟩:=r
  cases e
  obtain ⟨i1,i2⟩:=Pf h2 r2
  rw[bX,bX]
  cases hq:f == g with
  | true=>exact ⟨fun w hw=>by cases hw;exact ⟨v,rfl,r1⟩,fun hw=>by cases hw⟩
  | false=>exact ⟨i1,i2⟩
def Adh(f:Str)(v:U):List (Str×U)->List (Str×U)
 | []=>[(f,v)]
 | (g,x)::r=>if g=f then (g,v)::r else (g,x)::Adh f v r
theorem Af0{H:Hp}{α:List Addr}{u:U}{v:V}(ru:RepU K H α u v):∀ {fs:List (Str×U)} {vs:List (Str×V)},fs.map (·.1)=vs.map (·.1)->RepL K H α (fs.map (·.2)) (vs.map (·.2))->(Adh f u fs).map (·.1)=(J8 f v vs).map (·.1)/\RepL K H α ((Adh f u fs).map (·.2)) ((J8 f v vs).map (·.2))
 | [],[],_,_=>⟨rfl,.cons ru .nil⟩
 | [],_::_,h,_=>by simp at h
 | _::_,[],h,_=>by simp at h
 | (g,x)::fs,(g',y)::vs,h,r=>by
  simp only[aI,gJ] at h
  obtain ⟨h1,h2⟩:=h
  subst h1
  simp only[aI] at r
  unfold RepL at r
  obtain ⟨z,zr,e,r1,r2⟩:=r
  cases e
  obtain ⟨i1,i2⟩:=Af0 ru h2 r2
  unfold Adh J8
  by_cases hq:g=f
  ·simp only[hq,if_true,aI]
   exact ⟨by rw[h2],.cons ru r2⟩
  ·simp only[hq,if_false,aI]
   exact ⟨by rw[i1],.cons r1 i2⟩
section
variable {X:Cx}{o e value:Expr}{es:List Expr}{m x:Str}{p pos pos' apos:Pos}{Ca fa:Addr}{fd:dW}{ps:List Str}{k n:Nat}{F:FN}{fe fo fv:FE}{g:FA}
def Gx(C f:Str)(fe:FE):FE:=fun δ L=>(fe δ L).bind fun p=>(V6 C p.1 p.2).bind fun q=>(q.2.lookup f).map fun v=>(v,p.2)
theorem Fo(T:ClsF X.K C Ca)(hn:NoAttr X.K Ca f)(he:PEF X e fe)(hb:attributeBase e f X.env (eval e X.env)=eval e X.env:=by rfl):PEF X (.Attribute e f pos) (Gx C f fe):=by
 refine PE.imp (Avn he hb) ?_
 rintro σ H Q ⟨α,δ,L,A,S,z,L3,ee,q⟩
 obtain ⟨⟨u,L1⟩,e1,ee⟩:=aA.mp ee
 obtain ⟨⟨n,fs⟩,e2,ee⟩:=aA.mp ee
 obtain ⟨w,e3,ee⟩:=aH.mp ee
 cases ee
 obtain ⟨rfl,hL⟩:=T8 e2
 refine ⟨α,δ,L,A,S,_,L1,e1,fun x H1 α1 g1 A1 r1=>?_⟩
 obtain ⟨a,ea,Cb,dx,vs,hns,ha,hk,rr⟩:=A1.addr hL
 obtain ⟨a',ea',rfl⟩:=r1.ref_of A1
 rw[ea] at ea';cases ea'
 have:=T.eq hns
 subst this
 obtain ⟨v,hv,rv⟩:=(Pf hk rr).1 _ e3
 exact ⟨a,Cb,dx,vs,v,rfl,ha,T.cl,hn,hv,q v H1 α1 g1 A1 rv⟩
def Adk(C f:Str)(fo fv:FE):FS:=fun δ L=>(fv δ L).bind fun p=>(fo δ p.2).bind fun q=>(V6 C q.1 q.2).bind fun r=>if r.2.length < 1000 then some (.nx δ,q.2.set r.1 (.ins C (Adh f p.1 r.2))) else none
theorem Ag4(T:ClsF X.K C Ca)(hn:NoAttr X.K Ca f)(ho:PEF X o fo)(hv:PEF X value fv)(hs:swapsWith value (some (.Attribute o f pos')) pos.line X.env=pure false:=by rfl):PSF X (.Assign [.Attribute o f pos'] value pos) (Adk C f fo fv):=by
 refine PS.imp (At4 ho hv hs) ?_
 rintro D σ H ⟨α,δ,L,A,S,fl,L',ee,q⟩
 obtain ⟨⟨u,L1⟩,e1,ee⟩:=aA.mp ee
 obtain ⟨⟨w,L2⟩,e2,ee⟩:=aA.mp ee
 obtain ⟨⟨n,fs⟩,e3,ee⟩:=aA.mp ee
 simp only at ee
 split at ee
 ·rename_i hlen
  cases ee
  obtain ⟨rfl,hL⟩:=T8 e3
  refine ⟨α,δ,L,A,S,u,L1,e1,fun y H1 α1 g1 A1 r1=>⟨α1,δ,L1,A1,S.mono g1,_,L2,e2,fun x H2 α2 g2 A2 r2=>?_⟩⟩
  obtain ⟨a,ea,Cb,dx,vs,hns,ha,hk,rr⟩:=A2.addr hL
  obtain ⟨a',ea',rfl⟩:=r2.ref_of A2
  rw[ea] at ea';cases ea'
  have:=T.eq hns
  subst this
  have hl:vs.length < 1000:=by
   have:=congrArg iU hk
   rw[aU,aU] at this
   omega
  have g3:Gr H2 α2 (upd H2 a (.ins Cb dx (J8 f y vs))) α2:=⟨⟨[],by simp⟩,.write ha (by exact trivial) _⟩
  obtain ⟨k1,k2⟩:=Af0 (f:=f) ((r1.mono g2)) hk rr
  obtain ⟨A3,_⟩:=A2.put (o:=.ins Cb dx (J8 f y vs)) (u:=.ins C (Adh f u fs)) ea hL rfl rfl ha (by exact trivial) ⟨Cb,dx,_,hns,upd_same,k1,k2.mono g3⟩
  exact ⟨a,Cb,dx,vs,rfl,ha,T.cl,hn,hl,q _ _ α2 ((g1.trans g2).trans g3) A3 (((S.mono g1).mono g2).mono g3)⟩
 ·cases ee
def Bh(C m:Str)(k:Nat)(F:FN)(fo:FE)(g:FA):FE:=fun δ L=>(fo δ L).bind fun p=>(V6 C p.1 p.2).bind fun r=>if r.2.lookup m=none then (g δ p.2).bind fun q=>if q.1.length+1=k then F (.ref r.1::q.1) q.2 else none else none
theorem Aco{E:XK}(T:ClsF K C Ca):∀ σ H Q,lE K (Bh C m n F fo g) σ H Q->Alz Ca m (spF K n F) [] E (lE K fo) (lA K g) σ H Q:=by
 rintro σ H Q ⟨α,δ,L,A,S,z,L3,ee,q⟩
 obtain ⟨⟨u,L1⟩,e1,ee⟩:=aA.mp ee
 obtain ⟨⟨j,fs⟩,e2,ee⟩:=aA.mp ee
 simp only at ee
 split at ee
 ·rename_i hno
  obtain ⟨⟨us,L2⟩,e3,ff⟩:=aA.mp ee
  simp only at ff
  split at ff
  ·rename_i hlen
   obtain ⟨rfl,hL⟩:=T8 e2
   refine ⟨α,δ,L,A,S,_,L1,e1,fun x H1 α1 g1 A1 r1=>?_⟩
   obtain ⟨a,ea,Cb,dx,vs,hns,ha,hk,rr⟩:=A1.addr hL
   obtain ⟨a',ea',hx⟩:=r1.ref_of A1
   rw[ea] at ea';cases ea'
   have:=T.eq hns
   subst this
   refine ⟨a,dx,vs,hx,ha,(Pf hk rr).2 hno,α1,δ,L1,A1,S.mono g1,us,L2,e3,fun xs H2 α2 g2 A2 r2=>?_⟩
   refine ⟨α2,L2,.ref j::us,A2,?_,by simpa using hlen,z,L3,ff,fun v H3 α3 g3 A3 r3=>q v H3 α3 (g1.trans (g2.trans g3)) A3 r3⟩
   rw[aV]
   exact .cons (r1.mono g2) r2
  ·cases ff
 ·cases ee
theorem Apc{pl:Sem Bool}(T:ClsF X.K C Ca)(hm:Meth X.K Ca m fa)(hF:FnOk X.prog X.w X.K X.mg X.base CX0 k fa fd ps (spF X.K n F))(hr:Room k X.A)(hb:Binds X.K fd ps [])(ho:PEF X o fo)(ha:PAF X (e::es) g)
  (hst:aT (e::es) X.env=(false,eval e X.env)::aT es X.env:=by rfl) (hpl:(backTo pos (aT es X.env)).any (·.1)=false:=by rfl)
  (ht:eval (.Call (.Attribute o m apos) (e::es) [] pos) X.env=(do
   let ov <- eval o X.env
   standAt apos.atName
   let (f,first) <- holding [ov] (getMethod ov m pl)
   callWith pos f first (backTo pos (aT (e::es) X.env)) (backToKw pos (keywordEach [] X.env))):=by rfl) :
  PEF X (.Call (.Attribute o m apos) (e::es) [] pos) (Bh C m n F fo g):=
 PE.imp (Aov (pl:=pl) ho T.cl hm hF hr hb .nil Agn ha hst hpl ht) (Aco T)
theorem Aj9{pl:Sem Bool}(T:ClsF X.K C Ca)(hm:Meth X.K Ca m fa)(hF:FnOk X.prog X.w X.K X.mg X.base CX0 k fa fd ps (spF X.K n F))(hr:Room k X.A)(hb:Binds X.K fd ps [])(ho:PEF X o fo)
  (ht:eval (.Call (.Attribute o m apos) [] [] pos) X.env=(do
   let ov <- eval o X.env
   standAt apos.atName
   let (f,first) <- holding [ov] (getMethod ov m pl)
   callWith pos f first (backTo pos (aT [] X.env)) (backToKw pos (keywordEach [] X.env))):=by rfl) :
  PEF X (.Call (.Attribute o m apos) [] [] pos) (Bh C m n F fo Ag):=
 PE.imp (Ak2 (pl:=pl) ho T.cl hm hF hr hb .nil Agn ht) (fun σ H Q h=>by
  have h:=Aco (E:=E0) T σ H Q h
  obtain ⟨α,δ,L,A,S,u,L1,e1,h⟩:=h
  refine ⟨α,δ,L,A,S,u,L1,e1,fun x H1 α1 g1 A1 r1=>?_⟩
  obtain ⟨a,dx,vs,hx,ha,hl,α2,δ2,L2,A2,S2,us,L3,e3,h3⟩:=h x H1 α1 g1 A1 r1
  cases e3
  exact ⟨a,dx,vs,hx,ha,hl,h3 [] H1 α2 (.refl _ _) A2 .nil⟩)
def Si(C:Str)(k:Nat)(F:FN)(g:FA):FE:=fun δ L=>(g δ L).bind fun p=>if p.1.length+1=k then (F (.ref p.2.length::p.1) (p.2++[.ins C []])).bind fun q=>match q.1 with | .non=>some (.ref p.2.length,q.2) | _=>none else none
theorem Ang{E:XK}(hns:dF K bQ C=some (some (.ref Ca))):∀ σ H Q,lE K (Si C n F g) σ H Q->As0 Ca (spF K n F) [] E (lA K g) σ H Q:=by
 rintro σ H Q ⟨α,δ,L,A,S,z,L3,ee,q⟩
 obtain ⟨⟨us,L1⟩,e1,ee⟩:=aA.mp ee
 simp only at ee
 split at ee
 ·rename_i hlen
  obtain ⟨⟨w,L2⟩,e2,ee⟩:=aA.mp ee
  cases w with
  | non=>
   cases ee
   refine ⟨α,δ,L,A,S,us,L1,e1,fun xs H1 α1 g1 A1 r1 x dx nx ndx nex=>?_⟩
   have ga:Gr H1 α1 (upd H1 dx (.own x)) α1:=⟨⟨[],by simp⟩,.new ndx _⟩
   have Aa:Abs K (upd H1 dx (.own x)) α1 L1:=⟨A1.len,A1.inj,fun i a o e1 e2=>(A1.rep i a o e1 e2).other ga (.inr fun u q=>by rw[Bj (B4 q ndx)];exact q)⟩
   have nx':(upd H1 dx (.own x)) x=none:=by rw[Bj (gX nex)];exact nx
   obtain ⟨Ab,gb⟩:=Aa.new (o:=.ins Ca dx []) (u:=.ins C []) nx' ⟨Ca,dx,[],hns,upd_same,rfl,.nil⟩
   have rx:RepU K (upd (upd H1 dx (.own x)) x (.ins Ca dx [])) (α1++[x]) (.ref L1.length) (.ref x):=by
    unfold RepU
    exact ⟨x,by rw[<- A1.len];simp,rfl⟩
   refine ⟨α1++[x],L1++[.ins C []],.ref L1.length::us,Ab,?_,by simpa using hlen,.non,L2,e2,fun v H3 α3 g3 A3 r3=>?_⟩
   ·rw[aV]
    exact .cons rx ((r1.mono ga).mono gb)
   ·have hv:v = .non:=by unfold RepU at r3;exact r3
    exact ⟨hv,q _ H3 α3 (g1.trans (ga.trans (gb.trans g3))) A3 (rx.mono g3)⟩
  | _=>cases ee
 ·cases ee
theorem Ac3(hns:dF X.K bQ C=some (some (.ref Ca)))(M:Mk X.K Ca fa)(hF:FnOk X.prog X.w X.K X.mg X.base CX0 k fa fd ps (spF X.K n F))(hr:Room (k+1) X.A)(hg:Gl X C)(hm:X.mg C=some (.ref Ca))(hb:Binds X.K fd ps [])
  (hdb:(C == ("__debug__" : Str))=false:=by decide):PEF X (.Call (.Name C p) [] [] pos) (Si C n F Ag):=
 PE.imp (Amn M hF hr hg hm hb .nil Agn hdb) (fun σ H Q h=>by
  obtain ⟨α,δ,L,A,S,us,L1,e1,h⟩:=Ang (E:=E0) hns σ H Q h
  cases e1
  exact h [] H α (.refl _ _) A .nil)
end
end MR
namespace ZT
open PySem PySem.Spec PyProof.Rows
open Sem (wp)
def SqK(b:Bool)(h:Heap)(l:Addr)(xs:Array aF):Prop:=match b with
 | true=>h.IsList l xs
 | false=>h.IsTuple l xs
def ItK(b:Bool)(h:Heap)(jt l:Addr)(k:Nat):Prop:=match b with
 | true=>h.IsListIter jt l k
 | false=>h.IsTupleIter jt l k
variable {b:Bool}{h h':Heap}{l:Addr}{xs:Array aF}
theorem SqK.keep(x:SqK b h l xs)(e:∀ o,h.get? l=some o->h'.get? l=some o):SqK b h' l xs:=by
 cases b with
 | true=>obtain ⟨o,ho,r⟩:=x;exact ⟨o,e _ ho,r⟩
 | false=>obtain ⟨o,ho,r⟩:=x;exact ⟨o,e _ ho,r⟩
variable {jt:Addr}{k:Nat}
theorem ItK.keep(x:ItK b h jt l k)(e:∀ o,h.get? jt=some o->h'.get? jt=some o):ItK b h' jt l k:=by
 cases b with
 | true=>obtain ⟨o,ho,r⟩:=x;exact ⟨o,e _ ho,r⟩
 | false=>obtain ⟨o,ho,r⟩:=x;exact ⟨o,e _ ho,r⟩
theorem ItK.lt(x:ItK b h jt l k):jt < h.objs.size:=by
 cases b with
 | true=>obtain ⟨o,ho,r⟩:=x;exact aP ho
 | false=>obtain ⟨o,ho,r⟩:=x;exact aP ho
theorem ItK.obj(x:ItK b h jt l k):∃ o,h.get? jt=some o/\o.data = .fields #[.ref l,.int k 0]:=by
 cases b with
 | true=>obtain ⟨o,ho,_,r⟩:=x;exact ⟨o,ho,r⟩
 | false=>obtain ⟨o,ho,_,r⟩:=x;exact ⟨o,ho,r⟩
variable {its:Array aF}{Q:aF->aJ->Prop}
section
variable {prog:bT}{w:cC}{A:eD}{E:aF->aJ->Prop}{s:aJ}
theorem Am1{t:Addr}{v:aF}(hj:s.heap.IsTupleIter jt t k)(ht:s.heap.IsTuple t its)(hv:its[k]? = some v)
  (hQ:∀ h',h'.IsTupleIter jt t (k+1)->gK jt s.heap h'->Q v { s with heap:=h' }):wpAny (model prog w) A (bF (.ref jt)) Q E s:=by
 obtain ⟨ob,hob,hcl,hda⟩:=id hj
 obtain ⟨ot,hot,_,nt,hdt⟩:=ht
 unfold bF
 refine aD (dC (name:=eU "__next__") hj.typeIs gG (eB gG hj.typeIs lD ?_ (kR _)))
 show wpAny _ _ (field (.ref jt) 0 >>= _) _ _ s
 refine aD (bZ hob hda (x:=.ref t) rfl ?_)
 show wpAny _ _ (if (bO t == fZ)=true then _ else _) _ _ s
 rw[if_neg (show ¬ ((bO t == fZ)=true) from (fun z=>dA z))]
 show wpAny _ _ (field (.ref jt) 1 >>= _) _ _ s
 refine aD (bZ hob hda (x:=.int k 0) rfl ?_)
 show wpAny _ _ (seqItems? (.ref t) >>= fun z=>_) _ _ s
 refine aD (cW hot hdt ?_)
 simp only[fK,hv]
 refine aD (wpAny_setField hob hda (by simp) (aO ⟨v,rfl,aO (hQ _ ?_ (jC ..))⟩))
 exact ⟨_,dQ _ hob (Obj.isFreed_of_fields (qC hda _)),(Obj.cls_mapFields ..).trans hcl,by rw[qC hda];simp[rawInt]⟩
theorem Anl{t:Addr}(hh:A.handled=none)(hj:s.heap.IsTupleIter jt t k)(ht:s.heap.IsTuple t its)(hv:its[k]? = none)
  (hE:∀ h' e,kN jt s.heap h'->(∃ ob,h'.get? e=some ob/\ob.cls = .type "StopIteration")->E (.ref e) { s with heap:=h' }):wpAny (model prog w) A (bF (.ref jt)) Q E s:=by
 obtain ⟨ob,hob,hcl,hda⟩:=id hj
 obtain ⟨ot,hot,_,nt,hdt⟩:=ht
 unfold bF
 refine aD (dC (name:=eU "__next__") hj.typeIs gG (eB gG hj.typeIs lD ?_ (kR _)))
 show wpAny _ _ (field (.ref jt) 0 >>= _) _ _ s
 refine aD (bZ hob hda (x:=.ref t) rfl ?_)
 show wpAny _ _ (if (bO t == fZ)=true then _ else _) _ _ s
 rw[if_neg (show ¬ ((bO t == fZ)=true) from (fun z=>dA z))]
 show wpAny _ _ (field (.ref jt) 1 >>= _) _ _ s
 refine aD (bZ hob hda (x:=.int k 0) rfl ?_)
 show wpAny _ _ (seqItems? (.ref t) >>= fun z=>_) _ _ s
 refine aD (cW hot hdt ?_)
 simp only[fK,hv]
 refine aD (lW (aD (wpAny_setField hob hda (by simp) ?_)))
 show wpAny _ _ (newExc (.type "StopIteration") [] >>= fun z=>_) _ _ _
 refine aD ?_
 simp only[newExc,newTuple];refine aD (eG ?_ (by size_fits))
 refine aD (m:=firstArgMember _ _) (wpAny_of_eq (a:=fZ) (by first | rfl | (simp only[firstArgMember];rfl)) (eG ?_ (by size_fits)))
 simp only[raiseNew];refine aD (wpAny_handled ?_)
 first | rw[show A.in1.handled=none from hh] | (rw[hh])
 exact aD (aO (wpAny_throw (hE _ _ (((jC ..).extBut.push _).push _) ⟨_,aM _ rfl,rfl⟩)))
theorem Lb{v:aF}(hj:ItK b s.heap jt l k)(hl:SqK b s.heap l its)(hv:its[k]? = some v)
  (hQ:∀ h',ItK b h' jt l (k+1)->gK jt s.heap h'->Q v { s with heap:=h' }):wpAny (model prog w) A (bF (.ref jt)) Q E s:=by
 cases b with
 | true=>exact wpAny_nextOf_list_item hj hl hv hQ
 | false=>exact Am1 hj hl hv hQ
theorem Y1(hh:A.handled=none)(hj:ItK b s.heap jt l k)(hl:SqK b s.heap l its)(hv:its[k]? = none)
  (hE:∀ h' e,kN jt s.heap h'->(∃ ob,h'.get? e=some ob/\ob.cls = .type "StopIteration")->E (.ref e) { s with heap:=h' }):wpAny (model prog w) A (bF (.ref jt)) Q E s:=by
 cases b with
 | true=>exact wpAny_nextOf_list_end hh hj hl hv hE
 | false=>exact Anl hh hj hl hv hE
theorem SqK.but{c:Addr}(x:SqK b h l xs)(e:kN c h h')(hne:l≠c):SqK b h' l xs:=x.keep fun o q=>e l o hne q
theorem ItK.but{c:Addr}(x:ItK b h jt l k)(e:kN c h h')(hne:jt≠c):ItK b h' jt l k:=x.keep fun o q=>e jt o hne q
variable {b1 b2:Bool}{z TI TO j1 j2 l1 l2:Addr}{k1 k2:Nat}{ys:Array aF}{a b:aF}
theorem Aoq{x y:aF}(D:oV z TI TO j1 j2 l1 l2)(hz:fY s.heap z TI TO .none)(hI:fV s.heap TI (.ref j1) (.ref j2))(hO:fV s.heap TO a b)
  (h1:ItK b1 s.heap j1 l1 k1) (h2:ItK b2 s.heap j2 l2 k2) (g1:SqK b1 s.heap l1 xs) (g2:SqK b2 s.heap l2 ys) (hx:xs[k1]? = some x) (hy:ys[k2]? = some y)
  (hQ:∀ h',fY h' z TI TO (rawInt s.heap.objs.size)->fV h' TO x y->ItK b1 h' j1 l1 (k1+1)->ItK b2 h' j2 l2 (k2+1)->fV h' s.heap.objs.size x y->h'.objs.size=s.heap.objs.size+1 ->
   (∀ c o,c≠z->c≠TO->c≠j1->c≠j2->s.heap.get? c=some o->h'.get? c=some o)->Q (.ref s.heap.objs.size) { s with heap:=h' }) :
  wpAny (model prog w) A (lF.«zip.__next__» ⟨[.ref z],[]⟩) (fun fin s'=>∃ v,fin = .done (.ret v)/\Q v s') E s:=by
 show wpAny _ _ (field (.ref z) 2 >>= fun q=>_) _ _ _
 refine aD (bZ hz rfl (x:=.bool false) rfl ?_);show wpAny _ _ (field (.ref z) 3 >>= _) _ _ _
 refine aD (bZ hz rfl (x:=.ref TI) rfl (aD (cW hI rfl ?_)))
 show wpAny _ _ (bI (.ref z) >>= fun q=>_) _ _ _
 refine aD ?_;unfold bI
 refine aD (bZ hz rfl (x:=.none) rfl (aO ?_));simp only[if_true]
 refine aD (lW (aD (bZ hz rfl (x:=.ref TO) rfl (aD (dB hz (by simp) fun p1 z1 s1=>?_)))))
 replace z1:fY p1 z TI TO .ellipsis:=z1
 refine aD ?_;simp only[kE,kS,fP,iV]
 refine aD (aD (gS ?_));show wpAny _ _ (bF (.ref j1) >>= _) _ _ _
 refine aD (Lb (h1.but s1.extBut D.i1z) (g1.but s1.extBut D.l1z) hx fun p2 i2 s2=>aO ?_)
 have O2:fV p2 TO a b:=s2.extBut _ _ D.TOi1 (s1.extBut _ _ D.TOz hO)
 refine aD (cW O2 rfl (aD (kO O2 fun p3 O3 s3=>?_)))
 replace O3:fV p3 TO x b:=O3
 refine aD (jS (aO ?_));refine aD (aD (gS ?_))
 show wpAny _ _ (bF (.ref j2) >>= fun q=>_) _ _ _
 refine aD (Lb (((h2.but s1.extBut D.i2z).but s2.extBut D.i12.symm).but s3.extBut D.TOi2.symm) (((g2.but s1.extBut D.l2z).but s2.extBut D.l2i1).but s3.extBut D.l2TO) hy fun p4 i4 s4=>aO ?_)
 have O4:fV p4 TO x b:=s4.extBut _ _ D.TOi2 O3
 refine aD (cW O4 rfl (aD (kO O4 fun p5 O5 s5=>?_)))
 replace O5:fV p5 TO x y:=O5
 refine aD (jS (aO (aO ?_)));refine aD (cW O5 rfl (aD (oW ?_)))
 have hsz:p5.objs.size=s.heap.objs.size:=by rw[s5.1,s4.1,s3.1,s2.1,s1.1]
 have z5:fY p5 z TI TO .ellipsis:=s5.extBut _ _ D.TOz.symm (s4.extBut _ _ D.i2z.symm (s3.extBut _ _ D.TOz.symm (s2.extBut _ _ D.i1z.symm z1)))
 have k5:∀ c o,c≠z->c≠TO->c≠j1->c≠j2->s.heap.get? c=some o->p5.get? c=some o:=fun c o c1 c2 c3 c4 e=>s5.extBut _ _ c2 (s4.extBut _ _ c4 (s3.extBut _ _ c2 (s2.extBut _ _ c3 (s1.extBut _ _ c1 e))))
 have i15:ItK b1 p5 j1 l1 (k1+1):=((i2.but s3.extBut D.TOi1.symm).but s4.extBut D.i12).but s5.extBut D.TOi1.symm
 have i25:ItK b2 p5 j2 l2 (k2+1):=i4.but s5.extBut D.TOi2.symm
 have zlt:z < p5.objs.size:=aP z5
 show wpAny _ _ (eE (.ref z) (.ref p5.objs.size) >>= fun q=>_) _ _ _
 refine aD ?_;unfold eE
 have z6:fY (p5.push { cls:=.type "tuple",data:=.seq #[x,y] }) z TI TO .ellipsis:=aB _ z5
 refine aD (dB z6 (by simp) fun p7 z7 s7=>?_)
 replace z7:fY p7 z TI TO (rawInt p5.objs.size):=z7
 refine dB z7 (by simp) fun p8 z8 s8=>?_
 replace z8:fY p8 z TI TO (rawInt p5.objs.size):=z8
 have up:∀ c o,c≠z->p5.get? c=some o->p8.get? c=some o:=fun c o c1 e=>s8.extBut _ _ c1 (s7.extBut _ _ c1 (aB _ e))
 have t8:fV p8 p5.objs.size x y:=s8.extBut _ _ (fE zlt) (s7.extBut _ _ (fE zlt) (aM _ rfl))
 have e8:p8.objs.size=p5.objs.size+1:=by rw[s8.1,s7.1,cO]
 rw[hsz] at z8 t8 e8
 refine aO ⟨_,rfl,?_⟩
 show Q (.ref p5.objs.size) _
 rw[hsz]
 exact hQ p8 z8 (up _ _ D.TOz O5) (i15.keep fun o e=>up _ o D.i1z e) (i25.keep fun o e=>up _ o D.i2z e) t8 e8 fun c o c1 c2 c3 c4 e=>up c o c1 (k5 c o c1 c2 c3 c4 e)
theorem Av4{Q:Fin->aJ->Prop}(hh:A.handled=none)(D:oV z TI TO j1 j2 l1 l2)(hz:fY s.heap z TI TO .none)(hI:fV s.heap TI (.ref j1) (.ref j2))(hO:fV s.heap TO a b)
  (h1:ItK b1 s.heap j1 l1 k1) (h2:ItK b2 s.heap j2 l2 k2) (g1:SqK b1 s.heap l1 xs) (g2:SqK b2 s.heap l2 ys) (hend:xs[k1]? = none\/ys[k2]? = none)
  (hE:∀ h' e,(∀ c o,c≠z->c≠TO->c≠j1->c≠j2->s.heap.get? c=some o->h'.get? c=some o)->(∃ ob,h'.get? e=some ob/\ob.cls = .type "StopIteration")->E (.ref e) { s with heap:=h' }) :
  wpAny (model prog w) A (lF.«zip.__next__» ⟨[.ref z],[]⟩) Q E s:=by
 show wpAny _ _ (field (.ref z) 2 >>= fun q=>_) _ _ _
 refine aD (bZ hz rfl (x:=.bool false) rfl ?_);show wpAny _ _ (field (.ref z) 3 >>= _) _ _ _
 refine aD (bZ hz rfl (x:=.ref TI) rfl (aD (cW hI rfl ?_)))
 show wpAny _ _ (bI (.ref z) >>= fun q=>_) _ _ _
 refine aD ?_;unfold bI
 refine aD (bZ hz rfl (x:=.none) rfl (aO ?_));simp only[if_true]
 refine aD (lW (aD (bZ hz rfl (x:=.ref TO) rfl (aD (dB hz (by simp) fun p1 z1 s1=>?_)))))
 replace z1:fY p1 z TI TO .ellipsis:=z1
 refine aD ?_;simp only[kE,kS,fP,iV]
 refine aD (aD (gS ?_));show wpAny _ _ (bF (.ref j1) >>= _) _ _ _
 cases hx:xs[k1]? with
 | none=>
  refine aD (Y1 hh (h1.but s1.extBut D.i1z) (g1.but s1.extBut D.l1z) hx fun p2 e s2 he=>?_)
  obtain ⟨oe,hoe,hce⟩:=he
  have z2:fY p2 z TI TO .ellipsis:=s2 _ _ D.i1z.symm z1
  have hez:e≠z:=fun q=>by subst q;rw[z2] at hoe;cases hoe;simp at hce
  refine dB z2 (by simp) fun p3 _ s3=>hE p3 e (fun c o c1 _ c3 _ q=>s3.extBut _ _ c1 (s2 _ _ c3 (s1.extBut _ _ c1 q))) ⟨oe,s3.extBut _ _ hez hoe,hce⟩
 | some x=>
  have hy:ys[k2]? = none:=by rcases hend with h | h;(rw[hx] at h;cases h);exact h
  refine aD (Lb (h1.but s1.extBut D.i1z) (g1.but s1.extBut D.l1z) hx fun p2 i2 s2=>aO ?_)
  have O2:fV p2 TO a b:=s2.extBut _ _ D.TOi1 (s1.extBut _ _ D.TOz hO)
  refine aD (cW O2 rfl (aD (kO O2 fun p3 O3 s3=>?_)))
  refine aD (jS (aO ?_));refine aD (aD (gS ?_))
  show wpAny _ _ (bF (.ref j2) >>= fun q=>_) _ _ _
  refine aD (Y1 hh (((h2.but s1.extBut D.i2z).but s2.extBut D.i12.symm).but s3.extBut D.TOi2.symm) (((g2.but s1.extBut D.l2z).but s2.extBut D.l2i1).but s3.extBut D.l2TO) hy fun p4 e s4 he=>?_)
  obtain ⟨oe,hoe,hce⟩:=he
  have z4:fY p4 z TI TO .ellipsis:=s4 _ _ D.i2z.symm (s3.extBut _ _ D.TOz.symm (s2.extBut _ _ D.i1z.symm z1))
  have hez:e≠z:=fun q=>by subst q;rw[z4] at hoe;cases hoe;simp at hce
  refine dB z4 (by simp) fun p5 _ s5=>hE p5 e (fun c o c1 c2 c3 c4 q=>s5.extBut _ _ c1 (s4 _ _ c4 (s3.extBut _ _ c2 (s2.extBut _ _ c3 (s1.extBut _ _ c1 q))))) ⟨oe,s5.extBut _ _ hez hoe,hce⟩
theorem Apd{x y:aF}{Q:Option aF->aJ->Prop}(D:oV z TI TO j1 j2 l1 l2)(hz:fY s.heap z TI TO .none)(hI:fV s.heap TI (.ref j1) (.ref j2))(hO:fV s.heap TO a b)
  (h1:ItK b1 s.heap j1 l1 k1) (h2:ItK b2 s.heap j2 l2 k2) (g1:SqK b1 s.heap l1 xs) (g2:SqK b2 s.heap l2 ys) (hx:xs[k1]? = some x) (hy:ys[k2]? = some y)
  (hQ:∀ h',fY h' z TI TO (rawInt s.heap.objs.size)->fV h' TO x y->ItK b1 h' j1 l1 (k1+1)->ItK b2 h' j2 l2 (k2+1)->fV h' s.heap.objs.size x y->h'.objs.size=s.heap.objs.size+1 ->
   (∀ c o,c≠z->c≠TO->c≠j1->c≠j2->s.heap.get? c=some o->h'.get? c=some o)->Q (some (.ref s.heap.objs.size)) { s with heap:=h' }) :
  wpAny (model prog w) A (pyNext (.ref z)) Q E s:=by
 have ty:s.TypeIs (.ref z) "zip" := ⟨_,hz,rfl⟩
 unfold pyNext
 exact aD (jI (dC (name:=eU "__next__") ty dO (eB dO ty hW (Aoq D hz hI hO h1 h2 g1 g2 hx hy fun h' q1 q2 q3 q4 q5 q6 q7=>aO (hQ h' q1 q2 q3 q4 q5 q6 q7)) (gO _))))
theorem Avm{Q:Option aF->aJ->Prop}(hh:A.handled=none)(D:oV z TI TO j1 j2 l1 l2)(hz:fY s.heap z TI TO .none)(hI:fV s.heap TI (.ref j1) (.ref j2))(hO:fV s.heap TO a b)
  (h1:ItK b1 s.heap j1 l1 k1) (h2:ItK b2 s.heap j2 l2 k2) (g1:SqK b1 s.heap l1 xs) (g2:SqK b2 s.heap l2 ys) (hend:xs[k1]? = none\/ys[k2]? = none)
  (hQ:∀ h',(∀ c o,c≠z->c≠TO->c≠j1->c≠j2->s.heap.get? c=some o->h'.get? c=some o)->Q none { s with heap:=h' }):wpAny (model prog w) A (pyNext (.ref z)) Q E s:=by
 have ty:s.TypeIs (.ref z) "zip" := ⟨_,hz,rfl⟩
 unfold pyNext
 refine aD (jI (dC (name:=eU "__next__") ty dO (eB dO ty hW (Av4 hh D hz hI hO h1 h2 g1 g2 hend fun h' e hk he=>?_) (gO _))))
 obtain ⟨ob,hob,hcl⟩:=he
 exact aD (nC (T := "StopIteration") (b:=true) ⟨ob,hob,hcl⟩ oX (aO (hQ _ hk)))
end
abbrev zh1(c1:String)(h:Heap)(l1:Addr):Heap:=h.push { cls:=.type c1,data:=.fields #[.ref l1,.int 0 0] }
abbrev zh2(c1 c2:String)(h:Heap)(l1 l2:Addr):Heap:=(zh1 c1 h l1).push { cls:=.type c2,data:=.fields #[.ref l2,.int 0 0] }
abbrev zh3(c1 c2:String)(h:Heap)(l1 l2:Addr):Heap:=(zh2 c1 c2 h l1 l2).push { cls:=.type "tuple",data:=.seq #[.ref h.objs.size,.ref (zh1 c1 h l1).objs.size] }
abbrev zh4(c1 c2:String)(h:Heap)(l1 l2:Addr):Heap:=(zh3 c1 c2 h l1 l2).push { cls:=.type "tuple",data:=.seq #[.none,.none] }
abbrev zh5(c1 c2:String)(h:Heap)(l1 l2:Addr):Heap:=(zh4 c1 c2 h l1 l2).push { cls:=.type "zip",data:=.fields #[.none,.bool false,.bool false,.ref (zh2 c1 c2 h l1 l2).objs.size,.ref (zh3 c1 c2 h l1 l2).objs.size] }
theorem Avs (l1 l2 : Addr) (xs ys : Array aF) : Meets (lF.«zip.__new__» ⟨[.type "zip", .ref l1, .ref l2], []⟩) (fun _ R s => s.heap.IsTuple l1 xs /\ s.heap.IsTuple l2 ys /\
   R (.ok (.ret (.ref (zh4 "tuple_iterator" "tuple_iterator" s.heap l1 l2).objs.size))) { s with heap:=zh5 "tuple_iterator" "tuple_iterator" s.heap l1 l2 }):=
 .of_wp fun prog w A R s h=>by
  obtain ⟨hp,g,d,tk,os⟩:=s
  obtain ⟨t1,t2,h⟩:=h
  have hsub:=sub_zip
  have T1:lH (jT ⟨hp,g,d,tk,os⟩) l1 xs:=t1
  have T2:lH (jT ⟨hp.push { cls:=.type "tuple_iterator",data:=.fields #[.ref l1,.int 0 0] },g,d,tk,os⟩) l2 ys:=iR t2 _
  wp_walk using gD T1,gD T2
  exact ⟨_,rfl,h⟩
section
variable {prog:bT}{w:cC}{A:eD}{E:aF->aJ->Prop}{s:aJ}
theorem An2{l1 l2:Addr}{ys:Array aF}(t1:s.heap.IsTuple l1 xs)(t2:s.heap.IsTuple l2 ys)
  (h:∀ h',fY h' (s.heap.objs.size+4) (s.heap.objs.size+2) (s.heap.objs.size+3) .none->fV h' (s.heap.objs.size+2) (.ref s.heap.objs.size) (.ref (s.heap.objs.size+1)) ->
   fV h' (s.heap.objs.size+3) .none .none->ItK false h' s.heap.objs.size l1 0->ItK false h' (s.heap.objs.size+1) l2 0->(∀ c o,s.heap.get? c=some o->h'.get? c=some o)->Q (.ref (s.heap.objs.size+4)) { s with heap:=h' }) :
  wpAny (model prog w) A (call (.type "zip") [.ref l1,.ref l2]) Q E s:=by
 refine qR qS (by decide) (rE _ _) (rP _ _) (fun obj=>oY obj _ _) oB (Avs l1 l2 xs ys) ⟨t1,t2,?_⟩
 have z1:(zh1 "tuple_iterator" s.heap l1).objs.size=s.heap.objs.size+1:=cO ..
 have z2:(zh2 "tuple_iterator" "tuple_iterator" s.heap l1 l2).objs.size=s.heap.objs.size+2:=by rw[cO,z1]
 have z3:(zh3 "tuple_iterator" "tuple_iterator" s.heap l1 l2).objs.size=s.heap.objs.size+3:=by rw[cO,z2]
 have z4:(zh4 "tuple_iterator" "tuple_iterator" s.heap l1 l2).objs.size=s.heap.objs.size+4:=by rw[cO,z3]
 have q5:(zh5 "tuple_iterator" "tuple_iterator" s.heap l1 l2).get? (zh4 "tuple_iterator" "tuple_iterator" s.heap l1 l2).objs.size=some _:=aM _ rfl
 have q4:(zh5 "tuple_iterator" "tuple_iterator" s.heap l1 l2).get? (zh3 "tuple_iterator" "tuple_iterator" s.heap l1 l2).objs.size=some _:=aB _ (aM _ rfl)
 have q3:(zh5 "tuple_iterator" "tuple_iterator" s.heap l1 l2).get? (zh2 "tuple_iterator" "tuple_iterator" s.heap l1 l2).objs.size=some _:=aB _ (aB _ (aM _ rfl))
 have q2:(zh5 "tuple_iterator" "tuple_iterator" s.heap l1 l2).get? (zh1 "tuple_iterator" s.heap l1).objs.size=some _:=aB _ (aB _ (aB _ (aM _ rfl)))
 have q1:(zh5 "tuple_iterator" "tuple_iterator" s.heap l1 l2).get? s.heap.objs.size=some _:=aB _ (aB _ (aB _ (aB _ (aM _ rfl))))
 show _/\_
 rw[z2,z3,z4] at q5;rw[z1,z2] at q3;rw[z3] at q4
 rw[z1] at q2;rw[z4]
 exact ⟨⟨_,q5,rfl⟩,h _ q5 q3 q4 ⟨_,q1,rfl,rfl⟩ ⟨_,q2,rfl,rfl⟩ fun c o q=>aB _ (aB _ (aB _ (aB _ (aB _ q))))⟩
end
end ZT
namespace MR
open PySem PySem.Spec PyProof.Rows L2
def SK(bb:Bool)(K:aE)(H:Hp)(a:Addr)(xs:List V):Prop:=match bb with
 | true=>SqL K H a xs
 | false=>SqT K H a xs
variable {X:Cx}{H:Hp}{a:Addr}{xs:List V}
theorem SK.at{pins:List (Addr×Obj)}{σ:L2.St}{s:aJ}{bb:Bool}(I:L2.Inv X pins σ H s)(h:SK bb X.K H a xs):∃ its:List aF,Vals xs its/\ZT.SqK bb s.heap a its.toArray/\xs.length<=sizeLine:=by
 cases bb with
 | true=>obtain ⟨its,r,p,z⟩:=I.list h;exact ⟨its,r,p.isList,z⟩
 | false=>obtain ⟨its,r,p,z⟩:=I.tuple h;exact ⟨its,r,p,z⟩
theorem SK.inj{pins:List (Addr×Obj)}{σ:L2.St}{s:aJ}{bb:Bool}{ys:List V}(I:L2.Inv X pins σ H s)(h:SK bb X.K H a xs)(h':SK bb X.K H a ys):xs=ys:=by
 cases bb with
 | true=>exact I.list_inj h h'
 | false=>exact I.tuple_inj h h'
def Amz(b1 b2:Bool)(K:aE)(a b:Addr):It:=
 ⟨fun i H=>∃ xs ys x y,SK b1 K H a xs/\SK b2 K H b ys/\xs[i]? = some x/\ys[i]? = some y,fun i H z H'=>∃ p x y,H p=none/\z = .ref p/\H'=upd H p (.tup [x,y])/\(∀ xs,SK b1 K H a xs->xs[i]? = some x)/\∀ ys,SK b2 K H b ys->ys[i]? = some y,
  fun i H=>∃ xs ys,SK b1 K H a xs/\SK b2 K H b ys/\(xs.length<=i\/ys.length<=i)⟩
theorem X8{b1 b2:Bool}{P:bT}{w:cC}{K:aE}{elts:List Expr}{x1}{pos:Pos}(a b z TI TO i1 i2:Addr)(D:oV z TI TO i1 i2 a b):Turn P w K (.Tuple elts x1 pos) (Amz b1 b2 K a b) [z,TI,TO,i1,i2] z
  (fun i h=>fY h z TI TO .none/\fV h TI (.ref i1) (.ref i2)/\(∃ u v,fV h TO u v)/\ZT.ItK b1 h i1 a i/\ZT.ItK b2 h i2 b i) where
 mem:=by simp
 obj:=fun i h st c hb=>by
  obtain ⟨h1,h2,⟨u,v,h3⟩,h4',h5'⟩:=st
  obtain ⟨o4,h4,d4⟩:=h4'.obj
  obtain ⟨o5,h5,d5⟩:=h5'.obj
  simp only[bL,cN,or_false] at hb
  rcases hb with rfl | rfl | rfl | rfl | rfl
  ·exact ⟨_,h1,fun v z=>by simp at z⟩
  ·exact ⟨_,h2,fun v z=>by simp at z⟩
  ·exact ⟨_,h3,fun v z=>by simp at z⟩
  ·exact ⟨_,h4,fun v z=>by rw[d4] at z;cases z⟩
  ·exact ⟨_,h5,fun v z=>by rw[d5] at z;cases z⟩
 keep:=fun i h h' st k=>by
  obtain ⟨h1,h2,⟨u,v,h3⟩,h4,h5⟩:=st
  exact ⟨k z (by simp) _ h1,k TI (by simp) _ h2,⟨u,v,k TO (by simp) _ h3⟩,h4.keep (k i1 (by simp)),h5.keep (k i2 (by simp))⟩
 item:=by
  intro X hP hw hK hc i pins s σ H E I hf st hg
  subst hP hw hK
  obtain ⟨h1,h2,⟨u0,v0,h3⟩,h4,h5⟩:=st
  obtain ⟨xs,ys,x,y,sq1,sq2,hx,hy⟩:=hg
  obtain ⟨its1,hv1,pl1,hz1⟩:=SK.at I sq1
  obtain ⟨its2,hv2,pl2,hz2⟩:=SK.at I sq2
  obtain ⟨u,hu,r⟩:=hv1.get hx
  obtain ⟨u',hu',r'⟩:=hv2.get hy
  refine ZT.Apd D h1 h2 h3 h4 h5 pl1 pl2 (by simpa using hu) (by simpa using hu') fun h' o1 o2 o3 o4 o5 o6 o7=>?_
  refine ⟨_,rfl,?_⟩
  have hfr:H s.heap.objs.size=none:=I.hok.fresh (aZ _)
  have I1:L2.Inv X pins σ (upd H s.heap.objs.size (.tup [x,y])) { s with heap:=h',toks:=s.toks }:=
   Inv.turnNew (ch:=[z,TI,TO,i1,i2]) I hf (fun c o hb q=>o7 c o (fun z=>hb (by simp[z])) (fun z=>hb (by simp[z])) (fun z=>hb (by simp[z])) (fun z=>hb (by simp[z])) q) (aZ _)
    (show ObjOk X.prog X.w _ h' _ (.tup [x,y]) from ⟨by show 2<=sizeLine;decide,[u,u'],.cons r (.cons r' .nil),⟨_,o5,rfl,_,rfl⟩⟩)
  refine wpAny_letOwnedTupleGo_zip o1 fun h9 e2 sb2=>?_
  have hlt:∀ c∈[z,TI,TO,i1,i2],c < s.heap.objs.size:=fun c hb=>by
   simp only[bL,cN,or_false] at hb
   rcases hb with rfl | rfl | rfl | rfl | rfl
   ·exact aP h1
   ·exact aP h2
   ·exact aP h3
   ·exact h4.lt
   ·exact h5.lt
  have hnone:∀ c∈[z,TI,TO,i1,i2],(upd H s.heap.objs.size (.tup [x,y])) c=none:=fun c hb=>by rw[Bj (cA (hlt c hb))];exact (hf c hb).1
  obtain ⟨f0,f1,f2,f3,f4,f5⟩:=hf z (by simp)
  have I2:=I1.turned (t':=s.toks) (h':=h9) (it:=z) (fun c o hb q=>sb2.2 c hb |>.trans q) (hnone z (by simp)) f1 f3 f4 f5
  have hTI:fV h' TI (.ref i1) (.ref i2):=o7 TI _ D.TIz D.TITO D.TIi1 D.TIi2 h2
  refine ⟨.ref s.heap.objs.size,_,I2,rfl,⟨_,x,y,hfr,rfl,rfl,fun ys sq'=>?_,fun ys sq'=>?_⟩,⟨e2,(sb2.2 TI D.TIz).trans hTI,⟨_,_,(sb2.2 TO D.TOz).trans o2⟩,o3.keep (fun o q=>(sb2.2 i1 D.i1z).trans q),o4.keep (fun o q=>(sb2.2 i2 D.i2z).trans q)⟩,hnone⟩
  ·rw[SK.inj I sq' sq1];exact hx
  ·rw[SK.inj I sq' sq2];exact hy
 done:=by
  intro X hP hw hK hc i pins s σ H E I hf st hg
  subst hP hw hK
  obtain ⟨h1,h2,⟨u0,v0,h3⟩,h4,h5⟩:=st
  obtain ⟨xs,ys,sq1,sq2,hx⟩:=hg
  obtain ⟨its1,hv1,pl1,hz1⟩:=SK.at I sq1
  obtain ⟨its2,hv2,pl2,hz2⟩:=SK.at I sq2
  have hl1:=hv1.length
  have hl2:=hv2.length
  refine ZT.Avm (I.ok.hd hc) D h1 h2 h3 h4 h5 pl1 pl2 (by simp;omega) fun h' k=>⟨rfl,?_⟩
  have nch:∀ b u,H b=some u->b∉[z,TI,TO,i1,i2]:=fun b u e hb=>by rw[(hf b hb).1] at e;cases e
  have k':∀ b o,b∉[z,TI,TO,i1,i2]->s.heap.get? b=some o->h'.get? b=some o:=fun c o hb q=>k c o (fun z=>hb (by simp[z])) (fun z=>hb (by simp[z])) (fun z=>hb (by simp[z])) (fun z=>hb (by simp[z])) q
  refine I.step (g':=s.gens) (d':=s.drawn) (t':=s.toks) (ch:=[z,TI,TO,i1,i2]) (fun b hb=>?_) (fun b o _ _ hc e _=>k' b o hc e) (fun b o _ _ hc e _=>⟨o.slots,k' b o hc e⟩) (fun _ _ _ _ n=>n) (fun b u hc e=>⟨u,k' b u hc e⟩) (fun _ _ e=>e) (fun _ _ _ e=>e) (fun b ps e=>⟨#[],by rw[e];simp⟩) (fun m hm=>?_) (fun b u e=>?_) I.bare
  ·obtain ⟨_,f1,_,f3,f4,f5⟩:=hf b hb
   exact ⟨f3,f1,f4,f5⟩
  ·obtain ⟨o1,es,ep,ho,r⟩:=hm
   exact ⟨o1,es,ep,k' _ o1 (fun z=>(hf _ z).2.1 rfl) ho,r⟩
  ·refine (I.hok b u e).stay (fun c v hc q=>k' c v ?_ q) (fun _ q=>q) fun _ _ q=>q
   rcases hc with z | z
   ·rw[z];exact nch b u e
   ·exact nch c _ z
 self:=fun _ _ _ _ _ st h=>kF st.1 h
section
variable {elts:List Expr}{x1:Nat}{tpos:Pos}
def A0d(K:aE)(ta:TA):TI:=fun σ H R=>ta σ H fun vs H1=>∃ a b xs ys,vs=[.ref a,.ref b]/\SqT K H1 a xs/\SqT K H1 b ys/\R (Amz false false K a b) H1
theorem Ahh{a b:Expr}{ta:TA}{p pos:Pos}(hg:Gl X "zip")(hm:X.mg "zip" = none)(ha:PA X [a,b] ta)(hs:aT [a,b] X.env=(false,eval a X.env)::aT [b] X.env:=by rfl)(hpl:(backTo pos (aT [b] X.env)).any (·.1)=false:=by rfl):PI X (.Tuple elts x1 tpos) (.Call (.Name "zip" p) [a,b] [] pos) (A0d X.K ta):=by
 intro pins s σ H R I h
 refine Call_ (Lm I hg hm Vw (dH (thn (ha pos pins s σ H _ I h) fun us s1 ⟨vs,H1,I1,r1,q1⟩=>?_) hs hpl))
 obtain ⟨l1,l2,xs,ys,rfl,sq1,sq2,q⟩:=q1
 obtain ⟨u,u',rfl,ru,ru'⟩:=Xc r1
 cases ru;cases ru'
 obtain ⟨its1,hv1,pl1,hz1⟩:=I1.tuple sq1
 obtain ⟨its2,hv2,pl2,hz2⟩:=I1.tuple sq2
 have lt1:l1 < s1.heap.objs.size:=by obtain ⟨o,e,_⟩:=pl1;exact aP e
 have lt2:l2 < s1.heap.objs.size:=by obtain ⟨o,e,_⟩:=pl2;exact aP e
 refine ZT.An2 pl1 pl2 fun h' o1 o2 o3 o4 o5 o7=>?_
 have I2:L2.Inv X pins σ H1 { s1 with heap:=h' }:=I1.kept (t':=s1.toks) o7
 refine kF o1 ⟨_,_,_,_,H1,rfl,I2,X8 (b1:=false) (b2:=false) l1 l2 _ _ _ _ _ (Yb _ _ _ lt1 lt2),⟨o1,o2,⟨_,_,o3⟩,o4,o5⟩,fun b hb=>?_,q⟩
 have hb':s1.heap.objs.size<=b:=by
  simp only[bL,cN,or_false] at hb
  rcases hb with rfl | rfl | rfl | rfl | rfl <;> first | exact rF _ _ | exact aZ _
 exact L2.Inv.fpOk I1 hb' (I1.hok.fresh hb')
def Lc(us ws:List U):List U:=(us.zip ws).map fun p=>.tup [p.1,p.2]
theorem Pe(us ws:List U)(k:Nat):(Lc us ws)[k]? = Lz us[k]? ws[k]?:=by
 unfold Lc
 rw[bJ,List.zip,List.getElem?_zipWith]
 cases us[k]? <;> cases ws[k]? <;> rfl
theorem Abm{K:aE}{α:List Addr}{b:Addr}{us ws:List U}{ys:List V}(sa:SqT K H a xs)(sb:SqT K H b ys)(ra:RepL K H α us xs)(rb:RepL K H α ws ys):Qi K (Amz false false K a b) (.seq (Lc us ws)) H α:=by
 intro H2 α2 L2 g A2 k
 have mv:∀ (c:Addr) (vs:List U) (zs:List V),SqT K H c zs->RepL K H α vs zs->∃ zs2,SqT K H2 c zs2/\RepL K H2 α2 vs zs2:=fun c vs zs s r=>by
  have m:=(show RepU K H α (.tup vs) (.ref c) by unfold RepU;exact ⟨c,zs,rfl,s,r⟩).mono g
  unfold RepU at m
  obtain ⟨c',zs2,e,s2,r2⟩:=m
  cases e
  exact ⟨zs2,s2,r2⟩
 obtain ⟨xs2,sa2,ra2⟩:=mv a us xs sa ra
 obtain ⟨ys2,sb2,rb2⟩:=mv b ws ys sb rb
 refine ⟨fun u eu=>?_,fun eu=>?_⟩
 ·have eu:(Lc us ws)[k]? = some u:=by simpa[IU.at] using eu
  rw[Pe] at eu
  cases h1:us[k]? with
  | none=>rw[h1] at eu;simp[Lz] at eu
  | some u1=>
   cases h2:ws[k]? with
   | none=>rw[h1,h2] at eu;simp[Lz] at eu
   | some u2=>
    rw[h1,h2] at eu
    simp[Lz] at eu
    subst eu
    obtain ⟨x,hx,rx⟩:=ra2.get h1
    obtain ⟨y,hy,ry⟩:=rb2.get h2
    refine ⟨⟨xs2,ys2,x,y,sa2,sb2,hx,hy⟩,?_⟩
    rintro z H3 ⟨p,v,v',hp,rfl,rfl,hy1,hy2⟩
    have e1:=hy1 xs2 sa2
    have e2:=hy2 ys2 sb2
    rw[hx] at e1;cases e1
    rw[hy] at e2;cases e2
    exact A2.tup (.cons rx (.cons ry .nil)) hp
 ·have eu:(Lc us ws)[k]? = none:=by simpa[IU.at] using eu
  rw[Pe] at eu
  refine ⟨xs2,ys2,sa2,sb2,?_⟩
  cases h1:us[k]? with
  | none=>left;rw[<- ra2.length];exact cH.mp h1
  | some u1=>
   cases h2:ws[k]? with
   | none=>right;rw[<- rb2.length];exact cH.mp h2
   | some u2=>rw[h1,h2] at eu;simp[Lz] at eu
end
end MR
namespace MR
open PySem PySem.Spec PyProof.Rows PySem.Calls L2
theorem Aqe{bs:List Bool}:∀ {us:List aF},Vals (bs.map V.bl) us->∀ (i:Nat) (v:aF),us[i]? = some v->∃ b,bs[i]? = some b/\v = .bool b:=by
 induction bs with
 | nil=>intro us r i v e;rw[bG] at r;cases r;simp at e
 | cons n ns ih=>
  intro us r i v e
  rw[aI] at r
  cases r with
  | cons r1 r2=>
   cases i with
   | zero=>simp at e;subst e;exact ⟨n,rfl,r1⟩
   | succ i=>simpa using ih r2 i v (by simpa using e)
theorem Aqt{bs:List Bool}:∀ {us:List aF},Vals (bs.map V.bl) us->us.length=bs.length:=by
 induction bs with
 | nil=>intro us r;rw[bG] at r;cases r;rfl
 | cons n ns ih=>
  intro us r
  rw[aI] at r
  cases r with
  | cons r1 r2=>simp[ih r2]
theorem Aoa(bs:List Bool):((cK bs.length).all fun i=>(bs[i]?).getD true)=bs.all id:=by
 rw[oE,bS,bS]
 constructor
 ·intro h b hb
  obtain ⟨i,hi,e⟩:=List.getElem_of_mem hb
  have:=h i (eR.mpr hi)
  simp only[aX hi,kH,e] at this
  exact this
 ·intro h i hi
  have hi':=eR.mp hi
  simp only[aX hi',kH]
  exact h _ (bY hi')
section
variable {X:Cx}
theorem An9{s:aJ}{h':Heap}{o:Obj}(hk:∀ b x,b∉[s.heap.objs.size]->(s.heap.push o).get? b=some x->h'.get? b=some x):∀ b x,s.heap.get? b=some x->h'.get? b=some x:=
 fun b x e=>hk b x (fun hm=>by rw[cF.mp hm] at e;exact dY _ (aP e)) (aB _ e)
theorem Xx(hc:X.calm=true):CallR X (.builtin "all") (fun xs H Q=>∃ (p:Addr) (bs:List Bool),xs=[.ref p]/\SqL X.K H p (bs.map V.bl)/\Q (.bl (bs.all id)) H):=by
 intro pins s σ H xs us Q I r h
 obtain ⟨p,bs,rfl,hq,q⟩:=h
 obtain ⟨u,rfl,rx⟩:=Qf r
 cases rx
 obtain ⟨its,r',pl,hz⟩:=I.list hq
 have hl:=pl.isList
 have hlt:p < s.heap.objs.size:=by obtain ⟨_,e,_⟩:=hl;exact aP e
 refine call_all_walk (iL hl ?_)
 refine ⟨s.heap.objs.size,[s.heap.objs.size,p],[s.heap.objs.size],its.toArray.size,_,_,fun i=>(bs[i]?).getD true,rfl,Walks.list (A:=eD.in1 _) (I.ok.hd hc) _ p (cA hlt) its.toArray,
  ⟨⟨_,aM _ rfl,rfl,rfl⟩,hl.push _⟩,fun i v s' Q' E' hP hQ=>?_,fun h' tk hk=>?_⟩
 ·obtain ⟨b,e,rfl⟩:=Aqe r' i v (by simpa using hP)
  simp only[e,kH] at hQ
  exact eS hQ
 ·have e:((cK its.toArray.size).all fun i=>(bs[i]?).getD true)=bs.all id:=by
   rw[bC,Aqt r'];exact Aoa bs
  rw[e]
  exact ⟨.bl (bs.all id),H,I.kept (An9 hk),rfl,q⟩
end
def toB:U->Option Bool
 | .bl b=>some b
 | _=>none
theorem Afp{K:aE}{H:Hp}{α:List Addr}:∀ {us:List U} {xs:List V} {bs:List Bool},RepL K H α us xs->mapO toB us=some bs->xs=bs.map V.bl
 | [],xs,ys,r,h=>by unfold RepL at r;subst r;cases h;rfl
 | u::us,xs,ys,r,h=>by
  unfold RepL at r
  obtain ⟨x,xr,rfl,r1,r2⟩:=r
  obtain ⟨y,e1,h⟩:=aA.mp h
  obtain ⟨yr,e2,h⟩:=aH.mp h
  subst h
  cases u <;> simp only[toB] at e1 <;> first
   | (cases e1;unfold RepU at r1;subst r1;rw[Afp r2 e2];rfl)
   | cases e1
def Q9:SC:=fun us L=>match us with
 | [.ref n]=>(Aw L n).bind fun l=>(mapO toB l).map fun bs=>(.bl (bs.all id),L)
 | _=>none
theorem Ahn{K:aE}:Ro K (fun xs H Q=>∃ (p:Addr) (bs:List Bool),xs=[.ref p]/\SqL K H p (bs.map V.bl)/\Q (.bl (bs.all id)) H) Q9:=by
 intro H α L us xs z L' Q A r e q
 unfold Q9 at e
 split at e
 ·obtain ⟨l,hl,e⟩:=aA.mp e
  obtain ⟨bs,e1,e⟩:=aH.mp e
  cases e
  obtain ⟨x,rfl,rx⟩:=r.one
  obtain ⟨a,ys,rfl,sq,r2⟩:=Lp A hl rx
  rw[Afp r2 e1] at sq
  exact ⟨a,bs,rfl,sq,q _ H α (.refl _ _) A rfl⟩
 ·cases e
section
variable {X:Cx}
end
end MR
namespace ZT
open PySem PySem.Spec PyProof.Rows
open Sem (wp)
section
variable {prog:bT}{w:cC}{A:eD}{E:aF->aJ->Prop}{s:aJ}
end
section
variable {prog:bT}{w:cC}{A:eD}{E:aF->aJ->Prop}{s:aJ}
end
end ZT
namespace MR
open PySem PySem.Spec PyProof.Rows L2
variable {X:Cx}
section
variable {elts:List Expr}{x1:Nat}{tpos:Pos}
end
structure CompScC(X:Cx)(scope:mF)(N':List Str)(ix:List (Option Nat)):Prop where
 kind:scope.kind = .function
 own:(scope.names.all fun y=>scope.names.lookup y.1 == some y.2)=true
 free:(scope.names.all fun y=>y.2 != .free || (X.env.kindOf y.1 == some .cell || X.env.kindOf y.1 == some .free))=true
 ixs:((N'.zip ix).all fun p=>match p.2 with | none=>true | some i=>(X.N[i]? == some p.1)&&(scope.names.lookup p.1 == some .free))=true
 len:N'.length=ix.length
section
variable {scope:mF}{N':List Str}{ix:List (Option Nat)}{pins:List (Addr×Obj)}{σ:L2.St}{H2:Hp}{s2:aJ}{cl:List (Str×Addr)}{fp:List Addr}
theorem CompScC.lk(S:CompScC X scope N' ix){x:Str}{k:lP}(h:(x,k)∈scope.names):scope.names.lookup x=some k:=by
 have:=bS.mp S.own _ h
 simpa using this
theorem CompScC.names(S:CompScC X scope N' ix):∀ x∈scope.names,x.2 = .local->scope.names.lookup x.1=some .local:=fun x hx hl=>by
 have:=S.lk (x:=x.1) (k:=x.2) hx
 rw[hl] at this
 exact this
theorem CompScC.clos(S:CompScC X scope N' ix)(ok:X.Ok):∃ cl,closureFor scope X.env=pure cl/\(∀ x c,cl.lookup x=some c->X.env.cells.lookup x=some c)/\∀ y∈scope.names,y.2 = .free->∃ c,cl.lookup y.1=some c:=by
 refine Oj fun y hy hf=>?_
 have:=bS.mp S.free y hy
 rw[hf] at this
 simp at this
 exact ok.has y.1 this
end
variable {tg:Expr}
section
variable {scope:mF}{N':List Str}{ix:List (Option Nat)}{elt iter c:Expr}{pos:Pos}{fi:FI}{g:FG}{ft:FT}{fe:FE}
end
def Its(x:Str):It:=⟨fun i _=>i < x.cps.size,fun i H v H'=>H'=H/\∃ c,x.cps[i]? = some c/\v = .str ⟨#[c]⟩,fun i _=>x.cps.size<=i⟩
theorem Akt{P:bT}{w:cC}{K:aE}(x:Str)(t:Tok)(it:Addr):Turn P w K tg (Its x) [it] it (fun i h=>h.IsStrIter it "str_ascii_iterator" x t i) where
 mem:=by simp
 obj:=fun i h st b hb=>by
  have e:b=it:=by simpa using hb
  subst e
  obtain ⟨o,e,c,d⟩:=st
  exact ⟨o,e,fun v z=>by rw[d] at z;cases z⟩
 keep:=fun i h h' st k=>by
  obtain ⟨o,e,r⟩:=st
  exact ⟨o,k it (by simp) o e,r⟩
 item:=by
  intro X hP hw hK hc i pins s σ H E I hf st hg
  subst hP hw hK
  obtain ⟨f0,f1,f2,f3,f4,f5⟩:=hf it (by simp)
  have hg:i < x.cps.size:=hg
  have hx:x.cps[i]? = some (x.cps[i]'hg):=Array.getElem?_eq_getElem hg
  refine wpAny_pyNext_ascii_item st hx fun h' st' sb=>?_
  have I1:Inv X pins σ H { s with heap:=h',toks:=s.toks+1 }:=I.turned (t':=s.toks+1) (fun b o hb e=>(sb.2 b hb).trans e) f0 f1 f3 f4 f5
  obtain ⟨o,e,c,d⟩:=id st'
  exact ⟨_,rfl,Afo (s:={ s with heap:=h',toks:=s.toks+1 }) e c d (by decide) ⟨.str ⟨#[x.cps[i]'hg]⟩,H,I1,⟨_,rfl⟩,⟨rfl,_,hx,rfl⟩,st',fun b hb=>(hf b hb).1⟩⟩
 done:=by
  intro X hP hw hK hc i pins s σ H E I hf st hg
  subst hP hw hK
  obtain ⟨f0,f1,f2,f3,f4,f5⟩:=hf it (by simp)
  have hx:x.cps[i]? = none:=Array.getElem?_eq_none hg
  exact wpAny_pyNext_ascii_end (I.ok.hd hc) st hx fun h' eb=>⟨rfl,I.turned (t':=s.toks) (fun b o hb e=>eb b o hb e) f0 f1 f3 f4 f5⟩
 self:=fun _ _ _ _ _ st h=>wpAny_pyIter_striter_ascii st h
def A3p(tl:TE):TI:=fun σ H R=>tl σ H fun v H1=>∃ x:Str,v = .str x/\x.cps.all (· < 128)=true/\R (Its x) H1
section
theorem Av5{l:Expr}{tl:TE}(hl:PE X l tl):PI X tg l (A3p tl):=by
 intro pins s σ H R I h
 refine thn (hl pins s σ H _ I h) fun v s1 ⟨x,H1,I1,r1,q1⟩=>?_
 obtain ⟨x,rfl,ha,q⟩:=q1
 obtain ⟨t,rfl⟩:=r1
 refine wpAny_pyIter_ascii ha ?_
 refine ⟨s1.heap.objs.size,[s1.heap.objs.size],_,_,H1,rfl,I1.kept (t':=s1.toks) fun b o e=>aB _ e,Akt x t _,⟨_,aM _ rfl,rfl,rfl⟩,fun b hb=>?_,q⟩
 have e:b=s1.heap.objs.size:=by simpa using hb
 subst e
 exact I1.fpOk (aZ _) (I1.hok.fresh (aZ _))
def Aji(x:Str):List U:=x.cps.toList.map fun c=>.str ⟨#[c]⟩
def Acv(f:FE):FI:=fun δ L=>(f δ L).bind fun p=>match p.1 with
 | .str x=>if x.cps.all (· < 128)=true then some (.seq (Aji x),p.2) else none
 | _=>none
theorem Aor{K:aE}{H:Hp}{α:List Addr}(x:Str):Qi K (Its x) (.seq (Aji x)) H α:=by
 intro H2 α2 L2 g A2 k
 refine ⟨fun u eu=>?_,fun eu=>?_⟩
 ·have eu:(Aji x)[k]? = some u:=by simpa[IU.at] using eu
  unfold Aji at eu
  rw[bJ] at eu
  obtain ⟨c,hc,eu⟩:=aH.mp eu
  subst eu
  have hc':x.cps[k]? = some c:=by simpa using hc
  have hk:k < x.cps.size:=by
   have:=(aK.mp hc).1
   simpa using this
  refine ⟨hk,?_⟩
  rintro y H3 ⟨rfl,c',hc2,rfl⟩
  rw[hc'] at hc2;cases hc2
  exact ⟨.refl _ _,A2,rfl⟩
 ·have eu:(Aji x)[k]? = none:=by simpa[IU.at] using eu
  unfold Aji at eu
  have:x.cps.toList.length<=k:=by simpa using eu
  show x.cps.size<=k
  simpa using this
theorem Aq1{l:Expr}{f:FE}(hl:PEF X l f):PIF X tg l (Acv f):=by
 refine PI.imp (Av5 hl) ?_
 rintro σ H R ⟨α,δ,L,A,S,i,L3,e,q⟩
 obtain ⟨⟨u,L1⟩,e1,e⟩:=aA.mp e
 simp only at e
 split at e
 ·split at e
  ·rename_i ha
   cases e
   refine ⟨α,δ,L,A,S,_,_,e1,fun x H1 α1 g1 A1 r1=>?_⟩
   unfold RepU at r1
   subst r1
   exact ⟨_,rfl,ha,q _ H1 α1 g1 A1 (Aor _)⟩
  ·cases e
 ·cases e
end
end MR
namespace ZT
open PySem PySem.Spec PyProof.Rows
open Sem (wp)
section
variable {prog:bT}{w:cC}{A:eD}{s:aJ}{R:sB->aJ->Prop}
variable {I:Addr}{fp wr:List Addr}{G:Array mW->Array mW->Prop}{n:Nat}{P:Nat->aF->Prop}{St:Nat->aJ->Prop}
end
section
variable {prog:bT}{w:cC}{A:eD}{E:aF->aJ->Prop}{s:aJ}
variable {I:Addr}{fp wr:List Addr}{G:Array mW->Array mW->Prop}{n:Nat}{P:Nat->aF->Prop}{St:Nat->aJ->Prop}
end
end ZT
namespace MR
open PySem PySem.Spec PyProof.Rows PySem.Calls L2
section
variable {X:Cx}
theorem Ad0:eA "list" = some (.type "list"):=by decide +kernel
theorem Abv:eA "tuple" = some (.type "tuple"):=by decide +kernel
end
end MR
namespace ZT
open PySem PySem.Spec PyProof.Rows HT
section
variable {prog:bT}{w:cC}{A:eD}{E:aF->aJ->Prop}{s:aJ}
end
end ZT
namespace MR
open PySem PySem.Spec PyProof.Rows PySem.Calls L2
section
variable {X:Cx}{tg:Expr}
end
section
variable {X:Cx}
end
def Apl:S2:=fun u w L=>match u,w with
 | .tup [],.tup b=>some (.tup b,L)
 | u,w=>A9 u w L
@[simp] theorem Atl(i j:Int)(L:UH):Apl (.int i) (.int j) L=some (.int (i+j),L):=rfl
end MR
namespace MR
open PySem PyProof.Rows L2
section
variable {X:Cx}
def Avc:V->Option Int->Option Int->Hp->VK->Prop:=fun x lo hi H Q=>∃ a,x = .str a/\a.length<=sizeLine/\Q (.str (kI a lo hi)) H
theorem Atu:SlR X Avc:=by
 intro pins s σ H x v vl vu lo hi sl Q I rx hs pl pu h
 obtain ⟨a,rfl,hl,q⟩:=h
 obtain ⟨t,rfl⟩:=rx
 refine ⟨"str",_,F.slot_str_getitem.lookup,lU _ _ _,?_⟩
 have fin:∀ (t':Tok) (k:Nat),EP X pins σ Q (.str (kI a lo hi) t') { s with toks:=k }:=fun t' k=>⟨.str (kI a lo hi),H,I.tok k,⟨_,rfl⟩,q⟩
 have hz:(kI a lo hi).length<=sizeLine:=cB (Txt.slice_le a _ _) hl
 cases pl with
 | none=>
  cases pu with
  | none=>exact iA (l:=none) (u:=none) (st:=none) hs rfl (kT ⟨hz,fin⟩)
  | int j tj=>exact iA (l:=none) (u:=some (j,tj)) (st:=none) hs rfl (kT ⟨hz,fin⟩)
 | int i ti=>
  cases pu with
  | none=>exact iA (l:=some (i,ti)) (u:=none) (st:=none) hs rfl (kT ⟨hz,fin⟩)
  | int j tj=>exact iA (l:=some (i,ti)) (u:=some (j,tj)) (st:=none) hs rfl (kT ⟨hz,fin⟩)
def Asa:V->List V->Hp->VK->Prop:=fun x vs H Q=>∃ (a:Str) (l:Addr) (ys:List Str),x = .str a/\vs=[.ref l]/\H l=some (.lst (ys.map V.str))/\a.length<=16/\(ys.map (·.length)).sum+ys.length<=1048576/\Q (.str (iW a ys)) H
theorem Uu:∀ {its:List aF} {ys:List Str},Vals (ys.map V.str) its->StrsAre its ys
 | its,[],r=>by rw[bG] at r;cases r;exact .nil
 | its,y::ys,r=>by
  rw[aI] at r
  cases r with
  | cons r1 r2=>
   obtain ⟨t',rfl⟩:=r1
   exact .cons _ _ (Uu r2)
theorem Afy:MtR X "str.join" Asa:=by
 intro pins s σ H x vs v us Q I rx rv h
 obtain ⟨a,l,ys,rfl,rfl,hH,ha,hw,q⟩:=h
 obtain ⟨t,rfl⟩:=rx
 obtain ⟨u,rfl,ru⟩:=rv.one
 cases ru
 obtain ⟨z,its,n,r,hl,e⟩:=I.lstM hH
 exact join_listW ⟨_,e,rfl,_,rfl⟩ (by simpa using Uu r) ha hw fun t' k=>⟨.str (iW a ys),H,I.tok k,⟨_,rfl⟩,q⟩
end
def U4:SS:=fun u lo hi L=>match u with
 | .str x=>if F0 x.length=true then some (.str (kI x lo hi),L) else none
 | u=>Cz u lo hi L
theorem An8{X:Cx}:SlR X (fun x lo hi H Q=>Apb X.K x lo hi H Q\/Avc x lo hi H Q):=Gg.or Atu
variable {K:aE}
theorem Ap4:Amd K (fun x lo hi H Q=>Apb K x lo hi H Q\/Avc x lo hi H Q) U4:=by
 intro H α L u x lo hi z L' Q A ru e q
 cases u with
 | str a=>
  unfold U4 at e
  simp only at e
  split at e
  ·rename_i hs
   cases e
   unfold RepU at ru
   subst ru
   exact .inr ⟨a,rfl,Ed hs,q _ H α (.refl _ _) A rfl⟩
  ·cases e
 | tup l=>exact .inl (Fi H α L (.tup l) x lo hi z L' Q A ru e q)
 | ref n=>exact .inl (Fi H α L (.ref n) x lo hi z L' Q A ru e q)
 | _=>cases e
def toS:U->Option Str
 | .str a=>some a
 | _=>none
theorem Ag3{H:Hp}{α:List Addr}:∀ {us:List U} {xs:List V} {ys:List Str},RepL K H α us xs->mapO toS us=some ys->xs=ys.map V.str
 | [],xs,ys,r,e=>by
  unfold RepL at r
  cases e
  exact r
 | u::us,xs,ys,r,e=>by
  unfold RepL at r
  obtain ⟨x,xr,rfl,rx,r⟩:=r
  unfold mapO at e
  obtain ⟨y,hy,e⟩:=aA.mp e
  obtain ⟨yr,hyr,e⟩:=aH.mp e
  cases e
  cases u with
  | str a=>
   cases hy
   unfold RepU at rx
   rw[rx,Ag3 r hyr];rfl
  | _=>cases hy
def Hi:SM:=fun u us L=>match u,us with
 | .str a,[.ref n]=>(E8 L n).bind fun l=>(mapO toS l).bind fun ys=>if a.length<=16/\(ys.map (·.length)).sum+ys.length<=1048576 then some (.str (iW a ys),L) else none
 | _,_=>none
theorem Acb:Wa K Asa Hi:=by
 intro H α L u us x xs z L' Q A ru r e q
 unfold Hi at e
 split at e
 ·obtain ⟨l,hl,e⟩:=aA.mp e
  obtain ⟨ys,hys,e⟩:=aA.mp e
  split at e
  ·rename_i hc
   cases e
   unfold RepU at ru
   subst ru
   obtain ⟨v,rfl,rv⟩:=r.one
   obtain ⟨a',zs,rfl,ea,h,r2⟩:=P9 A hl rv
   rw[Ag3 r2 hys] at h
   exact ⟨_,a',ys,rfl,rfl,h,hc.1,hc.2,q _ H α (.refl _ _) A rfl⟩
  ·cases e
 ·cases e
end MR
namespace MR
open PySem PySem.W PyProof.Rows L2
end MR
namespace Att
open PySem PySem.W PySem.Calls PyProof.Rows L2 MR
end Att
namespace MR
open PySem PyProof.Rows L2
def g0(us ws:List aF):List aF:=match us with | []=>ws | _=>[]
section
variable {X:Cx}{k:Nat}{f:Addr}{fd:dW}{p:Str}{ps:List Str}{x:Str}{pp pos kpos:Pos}{e:Expr}{kws:List iP}{nm:Option Str}
theorem PK.imp{t t':TA}(h:PK X kws t)(hi:∀ σ H Q,t' σ H Q->t σ H Q):PK X kws t':=fun pos pins s σ H Q I q=>h pos pins s σ H Q I (hi σ H Q q)
end
end MR
namespace MR
open PySem PySem.Spec PyProof.Rows PySem.Calls L2
section
variable {X:Cx}
end
section
variable {X:Cx}
end
end MR
namespace MR
open PySem PyProof.Rows L2
variable {K:aE}{H:Hp}{α:List Addr}
theorem RepL.init:∀ {us:List U} {xs:List V},RepL K H α us xs->RepL K H α us.dropLast xs.dropLast
 | [],xs,r=>by unfold RepL at r;subst r;exact .nil
 | [u],xs,r=>by
  unfold RepL at r
  obtain ⟨x,xr,rfl,rx,r⟩:=r
  unfold RepL at r
  subst r
  exact .nil
 | u::w::us,xs,r=>by
  unfold RepL at r
  obtain ⟨x,xr,rfl,rx,r⟩:=r
  have r':=r
  unfold RepL at r'
  obtain ⟨y,yr,rfl,ry,_⟩:=r'
  exact .cons rx (RepL.init r)
def toK:U->Option Key
 | .int i=>some (.inl i)
 | .str x=>some (.inr x)
 | _=>none
variable {u:U}{x:V}{k:Key}
theorem Aac(r:RepU K H α u x)(h:toK u=some k):x=kV k:=by
 cases u <;> simp only[toK] at h <;> first | (cases h;unfold RepU at r;exact r) | cases h
def T4(kvs:List (Key×U))(k:Key):Option U:=(kvs.find? fun kv=>decide (kv.1=k)).map (·.2)
def Am3(kvs:List (Key×U))(k:Key)(v:U):List (Key×U):=
 if (kvs.any fun kv=>decide (kv.1=k))=true then kvs.map (fun kv=>if kv.1=k then (kv.1,v) else kv) else kvs++[(k,v)]
variable {kvs:List (Key×U)}{vs:List (Key×V)}
section
def RepKV(K:aE)(H:Hp)(α:List Addr)(kvs:List (Key×U))(vs:List (Key×V)):Prop:=kvs.map (·.1)=vs.map (·.1)/\RepL K H α (kvs.map (·.2)) (vs.map (·.2))
theorem RepKV.nil:RepKV K H α [] []:=⟨rfl,.nil⟩
theorem RepKV.cons{kv:Key×U}(h:RepKV K H α (kv::kvs) vs):∃ x vs',vs=(kv.1,x)::vs'/\RepU K H α kv.2 x/\RepKV K H α kvs vs':=by
 obtain ⟨h1,h2⟩:=h
 cases vs with
 | nil=>simp at h1
 | cons w vs'=>
  simp only[aI,gJ] at h1
  rw[aI,aI] at h2
  unfold RepL at h2
  obtain ⟨x,xr,hx,rx,r⟩:=h2
  injection hx with e1 e2
  subst e1
  refine ⟨w.2,vs',by rw[h1.1],rx,h1.2,?_⟩
  rw[e2];exact r
theorem RepKV.mk(r:RepU K H α u x)(h:RepKV K H α kvs vs):RepKV K H α ((k,u)::kvs) ((k,x)::vs):=
 ⟨by simp[h.1],by rw[aI,aI];exact .cons r h.2⟩
theorem RepKV.val:∀ {kvs:List (Key×U)} {vs:List (Key×V)},RepKV K H α kvs vs->T4 kvs k=some u->∃ x,Mu vs k=some x/\RepU K H α u x
 | [],vs,_,e=>by simp[T4] at e
 | kv::kvs,vs,r,e=>by
  obtain ⟨x,vs',rfl,rx,r'⟩:=r.cons
  unfold T4 at e
  unfold Mu
  rw[fO] at e ⊢
  by_cases h:kv.1=k
  ·simp only[h,decide_true,aG] at e ⊢
   cases e
   exact ⟨x,rfl,rx⟩
  ·simp only[h,decide_false] at e ⊢
   exact RepKV.val r' e
theorem RepKV.any:∀ {kvs:List (Key×U)} {vs:List (Key×V)},RepKV K H α kvs vs->(kvs.any fun kv=>decide (kv.1=k))=(vs.any fun kv=>decide (kv.1=k))
 | [],vs,r=>by
  obtain ⟨h1,_⟩:=r
  cases vs with
  | nil=>rfl
  | cons _ _=>simp at h1
 | kv::kvs,vs,r=>by
  obtain ⟨x,vs',rfl,rx,r'⟩:=r.cons
  rw[eQ,eQ,RepKV.any r']
theorem RepKV.len(r:RepKV K H α kvs vs):kvs.length=vs.length:=by
 have:=congrArg iU r.1
 simpa using this
theorem RepKV.upd(ru:RepU K H α u x):∀ {kvs:List (Key×U)} {vs:List (Key×V)},RepKV K H α kvs vs->RepKV K H α (kvs.map fun kv=>if kv.1=k then (kv.1,u) else kv) (vs.map fun kv=>if kv.1=k then (kv.1,x) else kv)
 | [],vs,r=>by
  obtain ⟨h1,_⟩:=r
  cases vs with
  | nil=>exact .nil
  | cons _ _=>simp at h1
 | kv::kvs,vs,r=>by
  obtain ⟨y,vs',rfl,ry,r'⟩:=r.cons
  rw[aI,aI]
  by_cases h:kv.1=k
  ·rw[if_pos h,if_pos h]
   exact .mk ru (RepKV.upd ru r')
  ·rw[if_neg h,if_neg h]
   exact .mk ry (RepKV.upd ru r')
theorem RepKV.add(ru:RepU K H α u x):∀ {kvs:List (Key×U)} {vs:List (Key×V)},RepKV K H α kvs vs->RepKV K H α (kvs++[(k,u)]) (vs++[(k,x)])
 | [],vs,r=>by
  obtain ⟨h1,_⟩:=r
  cases vs with
  | nil=>exact .mk ru .nil
  | cons _ _=>simp at h1
 | kv::kvs,vs,r=>by
  obtain ⟨y,vs',rfl,ry,r'⟩:=r.cons
  exact .mk ry (RepKV.add ru r')
theorem RepKV.put(ru:RepU K H α u x)(r:RepKV K H α kvs vs):RepKV K H α (Am3 kvs k u) (Qt vs k x):=by
 unfold Am3 Qt
 rw[r.any]
 split
 ·exact r.upd ru
 ·exact r.add ru
theorem RepKV.mono{H':Hp}{α':List Addr}(r:RepKV K H α kvs vs)(g:Gr H α H' α'):RepKV K H' α' kvs vs:=⟨r.1,r.2.mono g⟩
end
def Ik(L:UH)(n:Nat):Option (List (Key×U)):=match L[n]? with
 | some (.dic kvs)=>some kvs
 | _=>none
variable {L:UH}{n:Nat}
theorem Pa(h:Ik L n=some kvs):L[n]? = some (.dic kvs):=by
 unfold Ik at h
 split at h
 ·rename_i e;cases h;exact e
 ·cases h
theorem Lj(A:Abs K H α L)(h:Ik L n=some kvs)(r:RepU K H α (.ref n) x):∃ a vs,x = .ref a/\α[n]? = some a/\H a=some (.dK vs)/\RepKV K H α kvs vs:=by
 unfold RepU at r
 obtain ⟨a,ea,rfl⟩:=r
 obtain ⟨vs,e,k1,k2⟩:=A.rep n a _ ea (Pa h)
 exact ⟨a,vs,rfl,ea,e,k1,k2⟩
theorem Abs.setD{a:Addr}{ws:List (Key×V)}{kws:List (Key×U)}(A:Abs K H α L)(h:Ik L n=some kvs)(ea:α[n]? = some a)(e:H a=some (.dK vs))(r:RepKV K H α kws ws) :
  Gr H α (upd H a (.dK ws)) α/\Abs K (upd H a (.dK ws)) α (L.set n (.dic kws)):=by
 have g:Gr H α (upd H a (.dK ws)) α:=⟨⟨[],by simp⟩,.write e (by exact trivial) _⟩
 obtain ⟨A',_⟩:=A.put (o:=.dK ws) (u:=.dic kws) ea (Pa h) rfl rfl e (by exact trivial) ⟨ws,upd_same,(r.mono g).1,(r.mono g).2⟩
 exact ⟨g,A'⟩
section
variable {X:Cx}{o i value:Expr}{pos pos':Pos}{fo fi fv:FE}
def Ake:FE:=fun _ L=>some (.ref L.length,L++[.dic []])
theorem Aqd:PEF X (.Dict [] [] pos) Ake:=by
 refine PE.imp Alp ?_
 rintro σ H Q ⟨α,δ,L,A,S,z,L3,e,q⟩
 cases e
 intro p hp
 have g:Gr H α (upd H p (.dK [])) (α ++ [p]):=⟨⟨[p],rfl⟩,.new hp _⟩
 obtain ⟨A',_⟩:=A.new (o:=.dK []) (u:=.dic []) hp ⟨[],upd_same,rfl,.nil⟩
 refine q _ _ _ g A' ?_
 unfold RepU
 exact ⟨p,by rw[<- A.len];simp,rfl⟩
def Ac8(fo fi fv:FE):FS:=fun δ L=>(fv δ L).bind fun p=>(fo δ p.2).bind fun q=>(fi δ q.2).bind fun r=>match q.1 with
 | .ref n=>(toK r.1).bind fun k=>(Ik r.2 n).bind fun kvs=>if kvs.length < 1000000 then some (.nx δ,r.2.set n (.dic (Am3 kvs k p.1))) else none
 | _=>none
theorem Acy(hu:X.A.units+64 < cLine)(ho:PEF X o fo)(hi:PEF X i fi)(hv:PEF X value fv)(hs:swapsWith value (some (.Subscript o i pos')) pos.line X.env=pure false:=by rfl):PSF X (.Assign [.Subscript o i pos'] value pos) (Ac8 fo fi fv):=by
 refine PS.imp (Aoj (by omega) ho hi hv hs) ?_
 rintro D σ H ⟨α,δ,L,A,S,fl,L',e,q⟩
 obtain ⟨⟨v,L1⟩,e1,e⟩:=aA.mp e
 obtain ⟨⟨u,L2⟩,e2,e⟩:=aA.mp e
 obtain ⟨⟨w,L3⟩,e3,e⟩:=aA.mp e
 refine ⟨α,δ,L,A,S,v,L1,e1,fun xv H1 α1 g1 A1 rv=>⟨α1,δ,L1,A1,S.mono g1,u,L2,e2,fun x H2 α2 g2 A2 rx=>⟨α2,δ,L2,A2,(S.mono g1).mono g2,w,L3,e3,fun y H3 α3 g3 A3 ry=>?_⟩⟩⟩
 simp only at e
 split at e
 ·obtain ⟨k,hk,e⟩:=aA.mp e
  obtain ⟨kvs,hd,e⟩:=aA.mp e
  split at e
  ·rename_i hl
   cases e
   obtain ⟨a,vs,rfl,ea,ha,rk⟩:=Lj A3 hd (rx.mono g3)
   have rv':=rv.mono (g2.trans g3)
   obtain ⟨g4,A4⟩:=A3.setD hd ea ha (rk.put (k:=k) rv')
   refine ⟨a,_,rfl,?_,q σ _ α3 ((g1.trans (g2.trans g3)).trans g4) A4 ((((S.mono g1).mono g2).mono g3).mono g4)⟩
   rw[Aac ry hk]
   exact DPut.k ha (by rw[<- rk.len];unfold sizeLine;omega)
  ·cases e
 ·cases e
end
theorem A2l{β:Type}{P:List β->Prop}(h:P [])(us:List β)(hl:us.length=0):P us:=by
 cases us with
 | nil=>exact h
 | cons=>cases hl
theorem Ap9{β:Type}{P:List β->Prop}(h:∀ (a:β) (us:List β),us.length=n->P (a::us))(us:List β)(hl:us.length=n+1):P us:=by
 cases us with
 | nil=>cases hl
 | cons a us=>exact h a us (Nat.succ.inj hl)
theorem Awj{β:Type}{P:List β->Prop}(h:∀ a,P [a]):∀ us:List β,us.length=1->P us:=Ap9 fun a=>A2l (h a)
theorem Auj{β:Type}{P:List β->Prop}(h:∀ a b,P [a,b]):∀ us:List β,us.length=2->P us:=Ap9 fun a=>Awj (h a)
theorem Avz{β:Type}{P:List β->Prop}(h:∀ a b c,P [a,b,c]):∀ us:List β,us.length=3->P us:=Ap9 fun a=>Auj (h a)
theorem Axi{β:Type}{P:List β->Prop}(h:∀ a b c d,P [a,b,c,d]):∀ us:List β,us.length=4->P us:=Ap9 fun a=>Avz (h a)
section
variable {X:Cx}{elts:List Expr}{x1:Nat}{tpos:Pos}
def Ag1(g:FA):FI:=fun δ L=>(g δ L).bind fun p=>match p.1 with
 | [.tup us,.tup ws]=>some (.seq (Lc us ws),p.2)
 | _=>none
theorem Alu{a b:Expr}{g:FA}{p pos:Pos}(hg:Gl X "zip")(hm:X.mg "zip" = none)(ha:PAF X [a,b] g)(hs:aT [a,b] X.env=(false,eval a X.env)::aT [b] X.env:=by rfl)(hpl:(backTo pos (aT [b] X.env)).any (·.1)=false:=by rfl):PIF X (.Tuple elts x1 tpos) (.Call (.Name "zip" p) [a,b] [] pos) (Ag1 g):=by
 refine PI.imp (Ahh hg hm ha hs hpl) ?_
 rintro σ H R ⟨α,δ,L,A,S,i,L3,e,q⟩
 obtain ⟨⟨us,L1⟩,e1,ee⟩:=aA.mp e
 simp only at ee
 split at ee
 ·cases ee
  refine ⟨α,δ,L,A,S,_,_,e1,fun xs H1 α1 g1 A1 r1=>?_⟩
  obtain ⟨x,y,rfl,rx,ry⟩:=r1.two
  unfold RepU at rx ry
  obtain ⟨a',ys,rfl,sq,r2⟩:=rx
  obtain ⟨b',ys',rfl,sq',r2'⟩:=ry
  exact ⟨a',b',ys,ys',rfl,sq,sq',q _ H1 α1 g1 A1 (Abm sq sq' r2 r2')⟩
 ·cases ee
end
end MR
namespace MR
open PySem L2
@[simp] theorem fVar_eq(i:Nat)(δ:UE)(L:UH):Ae i δ L=(δ[i]?).join.map fun u=>(u,L):=rfl
@[simp] theorem fC_eq(u:U)(δ:UE)(L:UH):fC u δ L=some (u,L):=rfl
@[simp] theorem f2_eq(s:S2)(a b:FE)(δ:UE)(L:UH):f2 s a b δ L=(a δ L).bind fun p=>(b δ p.2).bind fun q=>s p.1 q.1 q.2:=rfl
@[simp] theorem fTest_eq(f:FE)(δ:UE)(L:UH):A0 f δ L=(f δ L).bind fun p=>match p.1 with | .bl k=>some (k,p.2) | _=>none:=rfl
@[simp] theorem Tj(f g:FT)(δ:UE)(L:UH):Mg f g δ L=(f δ L).bind fun p=>if p.1=true then g δ p.2 else some (false,p.2):=rfl
@[simp] theorem fOr_eq(f g:FT)(δ:UE)(L:UH):fOr f g δ L=(f δ L).bind fun p=>if p.1=true then some (true,p.2) else g δ p.2:=rfl
@[simp] theorem Ag5(f:FT)(δ:UE)(L:UH):Rl f δ L=(f δ L).map fun p=>(!p.1,p.2):=rfl
@[simp] theorem Js(f g:FE)(δ:UE)(L:UH):Se f g δ L=(f δ L).bind fun p=>match p.1 with | .bl k=>if k=true then g δ p.2 else some (.bl false,p.2) | _=>none:=rfl
@[simp] theorem Aq2(f g:FE)(δ:UE)(L:UH):An4 f g δ L=(f δ L).bind fun p=>match p.1 with | .bl k=>if k=true then some (.bl true,p.2) else g δ p.2 | _=>none:=rfl
@[simp] theorem Ay5(f:FE)(δ:UE)(L:UH):Ayt f δ L=(f δ L).bind fun p=>match p.1 with | .bl k=>some (.bl (!k),p.2) | _=>none:=rfl
@[simp] theorem Avp(c:FT)(f g:FE)(δ:UE)(L:UH):fIf c f g δ L=(c δ L).bind fun p=>if p.1=true then f δ p.2 else g δ p.2:=rfl
@[simp] theorem fNil_eq(δ:UE)(L:UH):Ag δ L=some ([],L):=rfl
@[simp] theorem fCons_eq(f:FE)(g:FA)(δ:UE)(L:UH):Ad f g δ L=(f δ L).bind fun p=>(g δ p.2).map fun q=>(p.1::q.1,q.2):=rfl
@[simp] theorem Ny(g:FA)(δ:UE)(L:UH):Di g δ L=(g δ L).bind fun p=>if F0 p.1.length=true then some (.tup p.1,p.2) else none:=rfl
@[simp] theorem Ls(g:FA)(δ:UE)(L:UH):B1 g δ L=(g δ L).bind fun p=>if F0 p.1.length=true then some (.ref p.2.length,p.2++[.lst p.1]) else none:=rfl
@[simp] theorem fCall_eq(s:SC)(g:FA)(δ:UE)(L:UH):Be s g δ L=(g δ L).bind fun p=>s p.1 p.2:=rfl
@[simp] theorem fOwn_eq(n:Nat)(F:FN)(g:FA)(δ:UE)(L:UH):Ar n F g δ L=(g δ L).bind fun p=>if p.1.length=n then F p.1 p.2 else none:=rfl
@[simp] theorem fMeth_eq(T:String)(s:SM)(f:FE)(g:FA)(δ:UE)(L:UH):C2 T s f g δ L=(f δ L).bind fun p=>if tyU T p.1 p.2=true then (g δ p.2).bind fun q=>s p.1 q.1 q.2 else none:=rfl
@[simp] theorem fPart_eq(f:FE)(δ:UE)(L:UH):Cw f δ L=(f δ L).bind fun p=>match p.1 with | .int i=>some (some i,p.2) | _=>none:=rfl
@[simp] theorem fNoPart_eq(δ:UE)(L:UH):Bq δ L=some (none,L):=rfl
@[simp] theorem Rp(s:SS)(f:FE)(l h:FO)(δ:UE)(L:UH):fSl s f l h δ L=(f δ L).bind fun p=>(l δ p.2).bind fun q=>(h δ q.2).bind fun r=>s p.1 q.1 r.1 r.2:=rfl
@[simp] theorem A1y(f:FE)(δ:UE)(L:UH):Ug f δ L=(f δ L).bind fun p=>match p.1 with | .int i=>some (.int (-i),p.2) | _=>none:=rfl
@[simp] theorem fTru_eq(f:FE)(δ:UE)(L:UH):F8 f δ L=(f δ L).bind fun p=>(Afd p.1 p.2).map fun k=>(k,p.2):=rfl
@[simp] theorem Api(c:String)(f:FE)(δ:UE)(L:UH):Ajt c f δ L=(f δ L).bind fun p=>(tyName p.1 p.2).map fun t=>(.bl (isT t c),p.2):=rfl
@[simp] theorem U5(δ:UE)(L:UH):B9 δ L=some (.nx δ,L):=rfl
@[simp] theorem fSeq_eq(f g:FS)(δ:UE)(L:UH):Bc f g δ L=(f δ L).bind fun p=>match p.1 with | .nx δ'=>g δ' p.2 | fl=>some (fl,p.2):=rfl
@[simp] theorem fRet_eq(f:FE)(δ:UE)(L:UH):B7 f δ L=(f δ L).map fun p=>(.rt p.1,p.2):=rfl
@[simp] theorem Vc(f:FE)(δ:UE)(L:UH):C3 f δ L=(f δ L).map fun p=>(.nx δ,p.2):=rfl
@[simp] theorem Azb(δ:UE)(L:UH):Azk δ L=some (.rt .non,L):=rfl
@[simp] theorem Nx(c:FT)(f g:FS)(δ:UE)(L:UH):C5 c f g δ L=(c δ L).bind fun p=>if p.1=true then f δ p.2 else g δ p.2:=rfl
@[simp] theorem gN_eq(i:Nat)(u:U)(δ:UE)(L:UH):gN i u δ L=some (δ.set i (some u),L):=rfl
@[simp] theorem A1x(δ:UE)(L:UH):MR.gNil [] δ L=some (δ,L):=rfl
@[simp] theorem A01(f:FG)(g:FGs)(u:U)(r:List U)(δ:UE)(L:UH):MR.gCons f g (u::r) δ L=(f u δ L).bind fun p=>g r p.1 p.2:=rfl
@[simp] theorem A10(n:Nat)(g:FGs)(us:List U)(δ:UE)(L:UH):MR.gTup n g (.tup us) δ L=if us.length=n then g us δ L else none:=rfl
@[simp] theorem A1w(a b:FE)(v:U)(δ:UE)(L:UH):MR.gSub a b v δ L=(a δ L).bind fun p=>(b δ p.2).bind fun q=>match p.1,q.1 with
 | .ref n,.int k=>(E8 q.2 n).bind fun l=>(ixN l.length k).map fun j=>(δ,q.2.set n (.lst (l.set j v)))
 | _,_=>none:=rfl
@[simp] theorem Ni(f:FE)(g:FG)(δ:UE)(L:UH):Bo f g δ L=(f δ L).bind fun p=>(g p.1 δ p.2).map fun q=>(.nx q.1,q.2):=rfl
@[simp] theorem Af1(fi:FI)(g:FG)(b:FS)(δ:UE)(L:UH):Pg fi g b δ L=(fi δ L).bind fun p=>Qn p.1 g b (p.1.size p.2+1) 0 δ p.2:=rfl
@[simp] theorem En(f:FE)(δ:UE)(L:UH):Bu f δ L=(f δ L).bind fun p=>(Ih p.1 p.2).map fun i=>(i,p.2):=rfl
@[simp] theorem Aml(g:FA)(δ:UE)(L:UH):Er g δ L=(g δ L).bind fun p=>match p.1 with
 | [.int j]=>if -(2 ^ 62)<=j/\j < 2 ^ 62 then some (.seq (C4 0 j.toNat),p.2) else none
 | _=>none:=rfl
@[simp] theorem G6(i j:Int)(L:UH):A9 (.int i) (.int j) L=some (.int (i+j),L):=rfl
@[simp] theorem Tu(i j:Int)(L:UH):Ht (.int i) (.int j) L=some (.int (i - j),L):=rfl
@[simp] theorem Avj(i j:Int)(L:UH):Lg (.int i) (.int j) L=if Kn i j=true then some (.int (i * j),L) else none:=rfl
@[simp] theorem Aeg(i j:Int)(L:UH):Rt (.int i) (.int j) L=if Xj i j=true then some (.int (i / j),L) else none:=rfl
@[simp] theorem Aei(i j:Int)(L:UH):J3 (.int i) (.int j) L=if decide (0 < j)=true then some (.int (i % j),L) else none:=rfl
@[simp] theorem Aes(i j:Int)(L:UH):J5 (.int i) (.int j) L=if Yk i j=true then some (.int (i ^ j.toNat),L) else none:=rfl
@[simp] theorem Ajw(i j:Int)(L:UH):Em (.int i) (.int j) L=some (.bl (decide (i<=j)),L):=rfl
@[simp] theorem X7(i j:Int)(L:UH):Agz (.int i) (.int j) L=some (.bl (decide (i < j)),L):=rfl
@[simp] theorem Ajd(i j:Int)(L:UH):Abj (.int i) (.int j) L=some (.bl (decide (j < i)),L):=rfl
@[simp] theorem Aie(i j:Int)(L:UH):Acq (.int i) (.int j) L=some (.bl (decide (j<=i)),L):=rfl
@[simp] theorem Ky(i j:Int)(L:UH):B3 (.int i) (.int j) L=some (.bl (i == j),L):=rfl
@[simp] theorem Ajq(i j:Int)(L:UH):Cr (.int i) (.int j) L=some (.bl (!(i == j)),L):=rfl
@[simp] theorem Azm(i j:Bool)(L:UH):B3 (.bl i) (.bl j) L=some (.bl (i == j),L):=rfl
@[simp] theorem Aw3(i j:Bool)(L:UH):Cr (.bl i) (.bl j) L=some (.bl (!(i == j)),L):=rfl
@[simp] theorem A0s(i j:Bool)(L:UH):A1t false (.bl i) (.bl j) L=some (.bl (i == j),L):=rfl
@[simp] theorem Xu(l:List U)(i:Int)(L:UH):Al (.tup l) (.int i) L=(L2.atI l i).map fun z=>(z,L):=rfl
@[simp] theorem Ah9(n:Nat)(i:Int)(L:UH):Al (.ref n) (.int i) L=(Aw L n).bind fun l=>(L2.atI l i).map fun z=>(z,L):=rfl
@[simp] theorem truU_bl(b:Bool)(L:UH):Afd (.bl b) L=some b:=rfl
variable {L:UH}{n:Nat}{us:List U}
theorem Ao(h:L[n]? = some (.lst us)):Aw L n=some us:=by unfold Aw;rw[h]
theorem F7(h:L[n]? = some (.lst us)):E8 L n=some us:=by unfold E8;rw[h]
theorem small_of(h:n<=16777216):F0 n=true:=by unfold F0 sizeLine;exact decide_eq_true (by omega)
variable {i:Int}
theorem Va{β:Type}{l:List β}(h0:0<=i)(h:i < l.length):L2.atI l i=l[i.toNat]?:=by
 unfold L2.atI ixN
 rw[if_pos h0,if_pos h];rfl
variable {j:Int}
theorem Afv(h1:-1000000000000000000<=i)(h2:i<=1000000000000000000):Kn i j=true:=by
 unfold Kn;simp only[kQ,cJ,decide_eq_true_eq];left;constructor <;> omega
theorem Sx(h1:-1000000000000000000<=j)(h2:j<=1000000000000000000):Kn i j=true:=by
 unfold Kn;simp only[kQ,cJ,decide_eq_true_eq];right;constructor <;> omega
theorem Ua(h1:0 < j)(h2:j < 1152921504606846976):Xj i j=true:=by
 unfold Xj;simp only[cJ,decide_eq_true_eq];exact ⟨h1,h2⟩
def Adv(g:FG)(body:FS)(u:U)(δ:UE)(L:UH)(R:UE->UH->Prop):Prop:=∃ δ1 L1,g u δ L=some (δ1,L1)/\∃ δ2 L2,(body δ1 L1=some (.nx δ2,L2)\/body δ1 L1=some (.ct δ2,L2))/\R δ2 L2
variable {it:IU}{g:FG}{body:FS}
theorem Vv{it:IU}{g:FG}{body:FS}{us:List U}(P:Nat->UE->UH->Prop)(hat:∀ k δ L,k<=us.length->P k δ L->it.at k L=some us[k]?)
  (step:∀ k u δ L,us[k]? = some u->P k δ L->Adv g body u δ L (P (k+1))) :
  ∀ (m k:Nat) (δ:UE) (L:UH),us.length < m+k->k<=us.length->P k δ L->∃ δ' L',Qn it g body m k δ L=some (.nx δ',L')/\P us.length δ' L'
 | 0,k,δ,L,h1,h2,_=>by omega
 | m+1,k,δ,L,h1,h2,hP=>by
  have hk:=hat k δ L h2 hP
  unfold Qn
  rw[hk]
  cases hu:us[k]? with
  | none=>
   have:k=us.length:=by have:=cH.mp hu;omega
   subst this
   exact ⟨δ,L,rfl,hP⟩
  | some u=>
   have hlt:k < us.length:=(aK.mp hu).1
   obtain ⟨δ1,L1,e1,δ2,L2,e2,hP2⟩:=step k u δ L hu hP
   obtain ⟨δ',L',e3,hP3⟩:=Vv P hat step m (k+1) δ2 L2 (by omega) (by omega) hP2
   refine ⟨δ',L',?_,hP3⟩
   rcases e2 with e2 | e2
   ·simp only[e1,aC,e2,e3]
   ·simp only[e1,aC,e2,e3]
variable {fi:FI}{δ:UE}{L0:UH}
theorem Y6(P:Nat->UE->UH->Prop)(hi:fi δ L=some (.seq us,L0))(h0:P 0 δ L0)(step:∀ k u δ L,us[k]? = some u->P k δ L->Adv g body u δ L (P (k+1))) :
  ∃ δ' L',Pg fi g body δ L=some (.nx δ',L')/\P us.length δ' L':=by
 obtain ⟨δ',L',e,h⟩:=Vv (it:=.seq us) (g:=g) (body:=body) (us:=us) P (fun _ _ _ _ _=>rfl) step (us.length+1) 0 δ L0 (by omega) (by omega) h0
 exact ⟨δ',L',by rw[Af1,hi];exact e,h⟩
theorem P6(P:Nat->UE->UH->Prop)(hi:fi δ L=some (.ref n,L0))(h0:P 0 δ L0)(hl:∀ k δ L,P k δ L->Aw L n=some us)(step:∀ k u δ L,us[k]? = some u->P k δ L->Adv g body u δ L (P (k+1))) :
  ∃ δ' L',Pg fi g body δ L=some (.nx δ',L')/\P us.length δ' L':=by
 have hat:∀ k δ L,k<=us.length->P k δ L->(IU.ref n).at k L=some us[k]?:=fun k δ L _ hp=>by
  have:=hl k δ L hp
  unfold Aw at this
  unfold IU.at
  simp only
  split at this
  ·rename_i e;cases this;first | rw[e] | rfl
  ·rename_i e;cases this;first | rw[e] | rfl
  ·cases this
 have hsz:(IU.ref n).size L0=us.length:=by
  have:=hl 0 δ L0 h0
  unfold Aw at this
  unfold IU.size
  simp only
  split at this
  ·rename_i e;cases this;first | rw[e] | rfl
  ·rename_i e;cases this;first | rw[e] | rfl
  ·cases this
 obtain ⟨δ',L',e,h⟩:=Vv (it:=.ref n) (g:=g) (body:=body) (us:=us) P hat step (us.length+1) 0 δ L0 (by omega) (by omega) h0
 exact ⟨δ',L',by rw[Af1,hi];simp only[aC,hsz];exact e,h⟩
theorem C1(h:Aw L n=some us):Ih (.ref n) L=some (.ref n):=by
 unfold Aw at h
 unfold Ih
 simp only
 split at h
 ·rename_i e;first | rw[e] | rfl
 ·rename_i e;first | rw[e] | rfl
 ·cases h
variable {u:U}
theorem Jt{lo:Int}{k:Nat}(h:(C4 lo n)[k]? = some u):k < n/\u = .int (lo+k):=by
 unfold C4 at h
 rw[bJ] at h
 by_cases hk:k < n
 ·rw[pF hk] at h
  simp at h
  exact ⟨hk,h.symm⟩
 ·rw[iK (by simpa using hk)] at h
  simp at h
theorem Jj{lo:Int}:(C4 lo n).length=n:=by simp[C4]
@[simp] theorem Azh(g:FA)(δ:UE)(L:UH):Aw4 g δ L=(g δ L).bind fun p=>match p.1 with
 | [.ref n]=>(Aw p.2 n).map fun _=>(.enm n,p.2)
 | _=>none:=rfl
@[simp] theorem A1z(g:FA)(δ:UE)(L:UH):A3u g δ L=(g δ L).bind fun p=>match p.1 with
 | [.ref n,.ref m]=>(Aw p.2 n).bind fun _=>(Aw p.2 m).map fun _=>(.zip2 n m,p.2)
 | _=>none:=rfl
@[simp] theorem A11(f:FE)(δ:UE)(L:UH):A2e f δ L=(f δ L).bind fun p=>match p.1 with | .ref n=>(Aw p.2 n).map fun l=>(.ref p.2.length,p.2++[.lst l.reverse]) | .tup l=>some (.tup l.reverse,p.2) | _=>none:=rfl
@[simp] theorem A0z(g:FA)(δ:UE)(L:UH):Ar4 g δ L=(g δ L).bind fun p=>match p.1 with
 | [.int i,.int j]=>if (-(2 ^ 62)<=i/\i < 2 ^ 62)/\(-(2 ^ 62)<=j/\j < 2 ^ 62) then some (.seq (C4 i (j - i).toNat),p.2) else none
 | _=>none:=by first | rfl | (unfold Ar4;rfl)
variable {tt:Option FT}{fe:FE}
theorem Vp(P:Nat->List U->UE->UH->Prop)(hat:∀ k acc δ L,k<=us.length->P k acc δ L->it.at k L=some us[k]?)
  (step:∀ k u acc δ L,us[k]? = some u->P k acc δ L->∃ δ1 L1,g u δ L=some (δ1,L1)/\∃ b L2,E4 tt δ1 L1=some (b,L2)/\(b=true->∃ r L3,fe δ1 L2=some (r,L3)/\acc.length < 16777216/\P (k+1) (acc++[r]) δ1 L3)/\(b=false->P (k+1) acc δ1 L2)) :
  ∀ (m k:Nat) (acc:List U) (δ:UE) (L:UH),us.length < m+k->k<=us.length->P k acc δ L->∃ ys δ' L',Wc it g tt fe m k acc δ L=some (ys,L')/\P us.length ys δ' L'
 | 0,k,acc,δ,L,h1,h2,_=>by omega
 | m+1,k,acc,δ,L,h1,h2,hP=>by
  have hk:=hat k acc δ L h2 hP
  unfold Wc
  rw[hk]
  cases hu:us[k]? with
  | none=>
   have:k=us.length:=by have:=cH.mp hu;omega
   subst this
   exact ⟨acc,δ,L,rfl,hP⟩
  | some u=>
   have hlt:k < us.length:=(aK.mp hu).1
   obtain ⟨δ1,L1,e1,b,L2,e2,h3,h4⟩:=step k u acc δ L hu hP
   cases b with
   | true=>
    obtain ⟨r,L3,e3,hl,hP2⟩:=h3 rfl
    obtain ⟨ys,δ',L',e4,hP3⟩:=Vp P hat step m (k+1) (acc++[r]) δ1 L3 (by omega) (by omega) hP2
    refine ⟨ys,δ',L',?_,hP3⟩
    have hz:decide (acc.length < sizeLine)=true:=decide_eq_true (by unfold sizeLine;omega)
    simp only[e1,aC,e2,e3,if_true,hz,e4]
   | false=>
    obtain ⟨ys,δ',L',e4,hP3⟩:=Vp P hat step m (k+1) acc δ1 L2 (by omega) (by omega) (h4 rfl)
    refine ⟨ys,δ',L',?_,hP3⟩
    simp only[e1,aC,e2,e4,cD,if_false]
theorem Akg{ix:List (Option Nat)}{fi:FI}{it:IU}{g:FG}{tt:Option FT}{fe:FE}{us:List U}{δ:UE}{L L0:UH}(P:Nat->List U->UE->UH->Prop)(hi:fi δ L=some (it,L0))(hsz:us.length<=it.size L0)(h0:P 0 [] (Jm ix δ) L0)
  (hat:∀ k acc δ L,k<=us.length->P k acc δ L->it.at k L=some us[k]?)
  (step:∀ k u acc δ L,us[k]? = some u->P k acc δ L->∃ δ1 L1,g u δ L=some (δ1,L1)/\∃ b L2,E4 tt δ1 L1=some (b,L2)/\(b=true->∃ r L3,fe δ1 L2=some (r,L3)/\acc.length < 16777216/\P (k+1) (acc++[r]) δ1 L3)/\(b=false->P (k+1) acc δ1 L2)) :
  ∃ ys δ' L',B5 ix fi g tt fe δ L=some (.ref L'.length,L'++[.lst ys])/\P us.length ys δ' L':=by
 obtain ⟨ys,δ',L',e,h⟩:=Vp P hat step (it.size L0+1) 0 [] (Jm ix δ) L0 (by omega) (by omega) h0
 refine ⟨ys,δ',L',?_,h⟩
 unfold B5
 simp only[hi,aC,e,aG]
theorem Ll{k:Nat}(h:Aw L n=some us):(IU.ref n).at k L=some us[k]?:=by
 unfold Aw at h
 unfold IU.at
 simp only
 split at h
 ·rename_i e;cases h;first | rw[e] | rfl
 ·rename_i e;cases h;first | rw[e] | rfl
 ·cases h
theorem F9(h:Aw L n=some us):(IU.ref n).size L=us.length:=by
 unfold Aw at h
 unfold IU.size
 simp only
 split at h
 ·rename_i e;cases h;first | rw[e] | rfl
 ·rename_i e;cases h;first | rw[e] | rfl
 ·cases h
theorem B6{β:Type}{ix:List (Option Nat)}{fi:FI}{it:IU}{g:FG}{tt:Option FT}{fe:FE}{δ:UE}{L L0:UH}(as:List β)(rep:β->U)(f:β->Bool)(e:β->U)(E:UE->Prop)(hi:fi δ L=some (it,L0))(hsz:as.length<=it.size L0)(hl:as.length < 16777216)(h0:E (Jm ix δ))
  (hat:∀ k x,it.at k (L0++x)=some (as.map rep)[k]?)
  (step:∀ (a:β) δ x,a∈as->E δ->∃ δ1,g (rep a) δ (L0++x)=some (δ1,L0++x)/\E δ1/\∃ y,E4 tt δ1 (L0++x)=some (f a,L0++x++y)/\(f a=true->∃ z,fe δ1 (L0++x++y)=some (e a,L0++x++y++z))) :
  ∃ x,B5 ix fi g tt fe δ L=some (.ref (L0++x).length,L0++x++[.lst ((as.filter f).map e)]):=by
 obtain ⟨ys,δ',L',e1,⟨h1,h2,x,rfl⟩,h3⟩:=Akg (us:=as.map rep) (ix:=ix) (tt:=tt) (g:=g) (fe:=fe) (δ:=δ) (fun k acc δ L=>(acc=((as.take k).filter f).map e/\E δ/\∃ x,L=L0++x)/\acc.length<=k) hi (by simpa using hsz) ⟨⟨rfl,h0,[],by simp⟩,by simp⟩
  (fun k acc δ L _ zz=>by obtain ⟨⟨_,_,x,hx⟩,_⟩:=zz;rw[hx];exact hat k x)
  (fun k u acc δ L hu zz=>by
   obtain ⟨⟨ha,hE,x,hx⟩,hlen⟩:=zz
   subst hx
   rw[bJ] at hu
   obtain ⟨a,hk,rfl⟩:=aH.mp hu
   have hk':=(aK.mp hk).1
   obtain ⟨δ1,g1,E1,y,t1,r1⟩:=step a δ x (dX hk) hE
   have ht:as.take (k+1)=as.take k++[a]:=by
    rw[List.take_add_one,hk];rfl
   refine ⟨δ1,_,g1,f a,_,t1,fun hf=>?_,fun hf=>?_⟩
   ·obtain ⟨z,q⟩:=r1 hf
    refine ⟨_,_,q,by omega,⟨?_,E1,x++y++z,by simp⟩,by simp;omega⟩
    rw[ha,ht];simp[hf]
   ·refine ⟨⟨?_,E1,x++y,by simp⟩,by omega⟩
    rw[ha,ht];simp[hf])
 refine ⟨x,?_⟩
 rw[e1,h1]
 simp
theorem Dg{x:UH}(h:Aw L n=some us):Aw (L++x) n=some us:=by
 unfold Aw at h ⊢
 cases hn:L[n]? with
 | none=>rw[hn] at h;cases h
 | some o=>rw[bA (aK.mp hn).1,hn];rw[hn] at h;exact h
def Pl:Nat->U->Prop
 | _,.non=>True
 | _,.int _=>True
 | _,.str x=>fG x=true
 | n+1,.tup l=>∀ u∈l,Pl n u
 | _,_=>False
mutual
def pd:U->sG
 | .non=>.none
 | .bl b=>.bool b
 | .int i=>.int i
 | .str x=>.str x
 | .tup l=>.tuple (pds l)
 | .ref _=>.none
def pds:List U->List sG
 | []=>[]
 | u::r=>pd u::pds r
end
theorem Rb{l:List U}:Pl (n+1) (.tup l)↔∀ u∈l,Pl n u:=by rw[Pl]
variable {m:Nat}
theorem Sv(ih:∀ u,Pl n u->toP L m u=some (pd u)):∀ l:List U,(∀ u∈l,Pl n u)->mapO (toP L m) l=some (pds l)
 | [],_=>rfl
 | u::r,h=>by
  simp only[mapO,ih u (h u (bE ..)),Sv ih r (fun x hx=>h x (aQ _ hx)),aC,aG,pds]
theorem V0(L:UH):∀ (n m:Nat) (u:U),n < m->Pl n u->toP L m u=some (pd u)
 | n,0,u,h,_=>by omega
 | n,m+1,.non,_,_=>rfl
 | n,m+1,.int _,_,_=>rfl
 | n,m+1,.str _,_,_=>rfl
 | n,m+1,.bl _,_,h=>by cases n <;> exact absurd h (by simp[Pl])
 | n,m+1,.ref _,_,h=>by cases n <;> exact absurd h (by simp[Pl])
 | 0,m+1,.tup l,_,h=>absurd h (by simp[Pl])
 | n+1,m+1,.tup l,hm,h=>by
  have:=Sv (L:=L) (n:=n) (m:=m) (fun u hu=>V0 L n m u (by omega) hu) l (Rb.mp h)
  show (mapO (toP L m) l).map sG.tuple=_
  rw[this]
  rfl
theorem Sz(ih:∀ u,Pl n u->gH (pd u)=true/\iD (pd u)<=n):∀ l:List U,(∀ u∈l,Pl n u)->qT (pds l)=true/\rQ (pds l)<=n
 | [],_=>⟨rfl,iT _⟩
 | u::r,h=>by
  obtain ⟨a1,a2⟩:=ih u (h u (bE ..))
  obtain ⟨b1,b2⟩:=Sz ih r (fun x hx=>h x (aQ _ hx))
  refine ⟨by simp[pds,qT,a1,b1],?_⟩
  simp only[pds,rQ]
  omega
theorem Um:∀ (n:Nat) (u:U),Pl n u->gH (pd u)=true/\iD (pd u)<=n
 | n,.non,_=>by simp[pd,gH,iD]
 | n,.int _,_=>by simp[pd,gH,iD]
 | n,.str x,h=>by
  have h':fG x=true:=by cases n <;> simpa[Pl] using h
  simp[pd,gH,iD,h']
 | n,.bl _,h=>by cases n <;> exact absurd h (by simp[Pl])
 | n,.ref _,h=>by cases n <;> exact absurd h (by simp[Pl])
 | 0,.tup l,h=>absurd h (by simp[Pl])
 | n+1,.tup l,h=>by
  obtain ⟨a,b⟩:=Sz (fun u hu=>Um n u hu) l (Rb.mp h)
  simp only[pd,gH,iD]
  exact ⟨a,by omega⟩
theorem Pw(ih:∀ u w,Pl n u->Pl n w->(dL (pd u) (pd w)=true↔u=w)):∀ l m:List U,(∀ u∈l,Pl n u)->(∀ u∈m,Pl n u)->(jJ (pds l) (pds m)=true↔l=m)
 | [],[],_,_=>by simp[pds,jJ]
 | [],_::_,_,_=>by simp[pds,jJ]
 | _::_,[],_,_=>by simp[pds,jJ]
 | u::l,w::m,h1,h2=>by
  simp only[pds,jJ,cJ,ih u w (h1 u (bE ..)) (h2 w (bE ..)),Pw ih l m (fun x hx=>h1 x (aQ _ hx)) (fun x hx=>h2 x (aQ _ hx)),gJ]
theorem Aax:∀ (n:Nat) (u w:U),Pl n u->Pl n w->(dL (pd u) (pd w)=true↔u=w)
 | n,.bl _,_,h,_=>by cases n <;> exact absurd h (by simp[Pl])
 | n,.ref _,_,h,_=>by cases n <;> exact absurd h (by simp[Pl])
 | n,_,.bl _,_,h=>by cases n <;> exact absurd h (by simp[Pl])
 | n,_,.ref _,_,h=>by cases n <;> exact absurd h (by simp[Pl])
 | 0,.tup _,_,h,_=>absurd h (by simp[Pl])
 | 0,_,.tup _,_,h=>absurd h (by simp[Pl])
 | n+1,.tup l,.tup m,h1,h2=>by
  simp only[pd,dL,U.tup.injEq]
  exact Pw (fun u w=>Aax n u w) l m (Rb.mp h1) (Rb.mp h2)
 | n,.non,.non,_,_=>by simp[pd,dL]
 | n,.non,.int _,_,_=>by simp[pd,dL]
 | n,.non,.str _,_,_=>by simp[pd,dL]
 | n+1,.non,.tup _,_,_=>by simp[pd,dL]
 | n,.int _,.non,_,_=>by simp[pd,dL]
 | n,.int _,.int _,_,_=>by simp[pd,dL]
 | n,.int _,.str _,_,_=>by simp[pd,dL]
 | n+1,.int _,.tup _,_,_=>by simp[pd,dL]
 | n,.str _,.non,_,_=>by simp[pd,dL]
 | n,.str _,.int _,_,_=>by simp[pd,dL]
 | n,.str _,.str _,_,_=>by simp[pd,dL]
 | n+1,.str _,.tup _,_,_=>by simp[pd,dL]
 | n+1,.tup _,.non,_,_=>by simp[pd,dL]
 | n+1,.tup _,.int _,_,_=>by simp[pd,dL]
 | n+1,.tup _,.str _,_,_=>by simp[pd,dL]
def eqB(u w:U):Bool:=dL (pd u) (pd w)
variable {w:U}
theorem Aav(h1:Pl 6 u)(h2:Pl 6 w):eqB u w=true↔u=w:=Aax 6 u w h1 h2
theorem Ana(h1:Pl 6 u):eqB u u=true:=(Aav h1 h1).mpr rfl
theorem Anh(L:UH)(h1:Pl 6 u)(h2:Pl 6 w):eqP u w L=some (eqB u w):=by
 obtain ⟨a1,a2⟩:=Um 6 u h1
 obtain ⟨b1,b2⟩:=Um 6 w h2
 have s1:fU (pd u)=true:=by unfold fU;rw[a1];simp;omega
 have s2:fU (pd w)=true:=by unfold fU;rw[b1];simp;omega
 unfold eqP
 simp only[V0 L 6 8 u (by decide) h1,V0 L 6 8 w (by decide) h2,aC,s1,s2,and_self,if_true,eqB]
theorem Als(L:UH)(h1:Pl 6 u)(h2:Pl 6 w):B3 u w L=some (.bl (eqB u w),L):=by unfold B3;rw[Anh L h1 h2];rfl
theorem Abg(L:UH)(h1:Pl 6 u)(h2:Pl 6 w):Cr u w L=some (.bl (!eqB u w),L):=by unfold Cr;rw[Anh L h1 h2];rfl
def Aem(us ws:List U):Bool:=jJ (pds us) (pds ws)
variable {ws:List U}
theorem Uy(h1:∀ u∈us,Pl 6 u)(h2:∀ u∈ws,Pl 6 u):Aem us ws=true↔us=ws:=Pw (fun u w=>Aax 6 u w) us ws h1 h2
theorem Af5(e1:Aw L n=some us)(e2:Aw L m=some ws)(h1:∀ u∈us,Pl 6 u)(h2:∀ u∈ws,Pl 6 u):eqP (.ref n) (.ref m) L=some (Aem us ws):=by
 obtain ⟨a1,a2⟩:=Sz (Um 6) us h1
 obtain ⟨b1,b2⟩:=Sz (Um 6) ws h2
 have s1:fU (.list (pds us))=true:=by unfold fU;simp[gH,iD,a1];omega
 have s2:fU (.list (pds ws))=true:=by unfold fU;simp[gH,iD,b1];omega
 have t1:toP L 8 (.ref n)=some (.list (pds us)):=by
  show (Aw L n).bind (fun l=>(mapO (toP L 7) l).map tL)=_
  rw[e1]
  simp only[aC,Sv (fun u hu=>V0 L 6 7 u (by decide) hu) us h1,aG]
 have t2:toP L 8 (.ref m)=some (.list (pds ws)):=by
  show (Aw L m).bind (fun l=>(mapO (toP L 7) l).map tL)=_
  rw[e2]
  simp only[aC,Sv (fun u hu=>V0 L 6 7 u (by decide) hu) ws h2,aG]
 unfold eqP
 simp only[t1,t2,aC,s1,s2,and_self,if_true,dL,Aem]
theorem Ajc(e1:Aw L n=some us)(e2:Aw L m=some ws)(h1:∀ u∈us,Pl 6 u)(h2:∀ u∈ws,Pl 6 u):B3 (.ref n) (.ref m) L=some (.bl (Aem us ws),L):=by unfold B3;rw[Af5 e1 e2 h1 h2];rfl
theorem Xv(e1:Aw L n=some us)(e2:Aw L m=some ws)(h1:∀ u∈us,Pl 6 u)(h2:∀ u∈ws,Pl 6 u):Cr (.ref n) (.ref m) L=some (.bl (!Aem us ws),L):=by unfold Cr;rw[Af5 e1 e2 h1 h2];rfl
theorem Pl.int(n:Nat)(i:Int):Pl n (.int i):=by cases n <;> exact trivial
theorem Aay{g:FA}{L':UH}(hg:g δ L=some ([.int j],L'))(h0:0<=j)(h1:j < 1000000):Er g δ L=some (.seq (C4 0 j.toNat),L'):=by
 rw[Aml,hg]
 simp only[aC]
 rw[if_pos ⟨by omega,by omega⟩]
theorem Qx{g:FA}{L':UH}(hg:g δ L=some ([.int n],L'))(h1:n < 1000000):Er g δ L=some (.seq (C4 0 n),L'):=by
 have:=Aay hg (by omega) (by omega)
 rwa [fK] at this
end MR
namespace Lw
open PySem L2 MR
end Lw
namespace MR
open PySem PySem.Spec PyProof.Rows L2
variable {X:Cx}{pins:List (Addr×Obj)}{σ:L2.St}{H H':Hp}{s:aJ}{a:Addr}{kvs:List (Key×V)}{e:Expr}
section
theorem Inv.freeze{o:Obj}(I:L2.Inv X pins σ H s)(e:H a=some (.dK kvs))(ho:s.heap.get? a=some o):L2.Inv X pins σ (upd H a (.frz o (.dK kvs))) s:=by
 have tp:∀ b u,H b=some u->(∀ ks,u≠.dK ks)->upd H a (.frz o (.dK kvs)) b=some u:=fun b u q n=>by
  rw[Bj (fun z=>by subst z;rw[e] at q;cases q;exact n _ rfl)];exact q
 refine I.un (t':=s.toks) (h':=s.heap) ⟨fun b ob q n _ _=>q,fun b ob q n _ _=>⟨ob.slots,q⟩,fun b ob q n _=>?_,fun b ob q _=>⟨ob,q⟩,fun b xs q=>tp b _ q fun ks z=>(nomatch z),fun b ob u q=>tp b _ q fun ks z=>(nomatch z),fun b ps q=>⟨#[],by rw[tp b _ q fun ks z=>(nomatch z)];simp⟩⟩ fun b u q=>?_
 ·rw[Bj (fun z=>by subst z;rw[e] at n;cases n)];exact n
 ·have own:∀ c,H c=some (.own b)->upd H a (.frz o (.dK kvs)) c=some (.own b):=fun c z=>tp c _ z fun ks z=>(nomatch z)
  have tups:∀ c xs,H c=some (.tup xs)->upd H a (.frz o (.dK kvs)) c=some (.tup xs):=fun c xs z=>tp c _ z fun ks z=>(nomatch z)
  by_cases hb:b=a
  ·subst hb
   rw[upd_same] at q
   cases q
   exact ⟨ho,(I.hok b _ e).stay (fun _ _ _ z=>z) own tups⟩
  ·rw[Bj hb] at q
   exact (I.hok b u q).stay (fun _ _ _ z=>z) own tups
def Thaw(H H' H2:Hp):Prop:=∀ b,H2 b=H' b\/∃ o vs,H' b=some (.frz o (.dK vs))/\H2 b=some (.dK vs)/\∀ o u,H b≠some (.frz o u)
theorem Thaw.stay{H2:Hp}(t:Thaw H H' H2){b:Addr}{u:Option HO}(e:H' b=u)(n:∀ o ks,u≠some (.frz o (.dK ks))):H2 b=u:=by
 rcases t b with z | ⟨o,vs,z,_⟩
 ·rw[z];exact e
 ·rw[e] at z;exact absurd z (n _ _)
theorem Inv.thaw{pins0:List (Addr×Obj)}{σ0:L2.St}{s0:aJ}{H2:Hp}(I0:L2.Inv X pins0 σ0 H s0)(I:L2.Inv X pins σ H' s)(t:Thaw H H' H2):L2.Inv X pins σ H2 s:=by
 have nn:∀ b,H' b=none->H2 b=none:=fun b e=>t.stay e fun _ _ z=>(nomatch z)
 refine ⟨I.ok,I.os,I.bare,⟨I.base.keep,I.base.slot,fun b o e n hx=>nn b (I.base.free b o e n hx),I.base.there,fun b xs e=>t.stay (I.base.tups b xs e) fun _ _ z=>(nomatch z),fun b o u e=>?_,fun b ps e=>?_⟩,I.loc,I.cell,nn _ I.free,fun x c e=>nn _ (I.freeC x c e),fun p hp=>?_,fun a o e=>?_,I.len⟩
 ·have h0:=I0.base.frzs b o u e
  rcases t b with z | ⟨o',vs,_,_,z⟩
  ·rw[z];exact I.base.frzs b o u e
  ·exact absurd h0 (z _ _)
 ·obtain ⟨more,q⟩:=I.base.tbls b ps e
  exact ⟨more,t.stay q fun _ _ z=>(nomatch z)⟩
 ·obtain ⟨h1,h2,h3⟩:=I.pin p hp
  exact ⟨h1,nn _ h2,h3⟩
 ·have own:∀ c,H' c=some (.own a)->H2 c=some (.own a):=fun c z=>t.stay z fun _ _ z=>(nomatch z)
  have tups:∀ c xs,H' c=some (.tup xs)->H2 c=some (.tup xs):=fun c xs z=>t.stay z fun _ _ z=>(nomatch z)
  rcases t a with z | ⟨o',vs,z1,z2,_⟩
  ·rw[z] at e
   exact (I.hok a o e).stay (fun _ _ _ z=>z) own tups
  ·rw[z2] at e
   cases e
   exact (show ObjOk X.prog X.w H' s.heap a (.dK vs) from (I.hok a _ z1).2).stay (fun _ _ _ z=>z) own tups
theorem Aou{t:TE}(h:PE X e t):PE X e (fun σ H Q=>t σ H fun x H'=>∃ H2,Thaw H H' H2/\Q x H2):=fun pins s σ H Q I q=>
 thn (h pins s σ H _ I q) fun v s1 zz=>by obtain ⟨x,H1,I1,r,H2,th,q⟩:=zz;exact ⟨x,H2,Inv.thaw I I1 th,r,q⟩
end
variable {K:aE}{α:List Addr}
section
mutual
theorem RepU.via(g:∀ a xs,SqT K H a xs->SqT K H' a xs):∀ (u:U) (v:V),RepU K H α u v->RepU K H' α u v
 | .non,_,h=>h
 | .bl _,_,h=>h
 | .int _,_,h=>h
 | .str _,_,h=>h
 | .tup l,v,h=>by
  unfold RepU at h ⊢
  obtain ⟨a,xs,e,s,r⟩:=h
  exact ⟨a,xs,e,g _ _ s,RepL.via g l xs r⟩
 | .ref n,v,h=>by
  unfold RepU at h ⊢
  exact h
theorem RepL.via(g:∀ a xs,SqT K H a xs->SqT K H' a xs):∀ (l:List U) (xs:List V),RepL K H α l xs->RepL K H' α l xs
 | [],xs,h=>h
 | u::l,xs,h=>by
  unfold RepL at h ⊢
  obtain ⟨x,r,e,h1,h2⟩:=h
  exact ⟨x,r,e,RepU.via g u x h1,RepL.via g l r h2⟩
end
end
def My:Option HU->Option HU->Option HU
 | some (.dic _),some (.rod kvs)=>some (.dic kvs)
 | _,x=>x
def Ew:UH->UH->UH
 | [],L'=>L'
 | _::_,[]=>[]
 | .dic _::L,.rod kvs::L'=>.dic kvs::Ew L L'
 | _::L,x::L'=>x::Ew L L'
theorem P2:∀ (L L':UH),(Ew L L').length=L'.length
 | [],L'=>by unfold Ew;rfl
 | a::L,[]=>by unfold Ew;rfl
 | a::L,x::L'=>by
  cases a <;> cases x <;> simp[Ew,P2 L L']
theorem Uq:∀ (L L':UH) (n:Nat),(Ew L L')[n]? = My L[n]? L'[n]?
 | [],L',n=>by
  unfold Ew
  cases h:L'[n]? <;> simp[My]
 | a::L,[],n=>by
  unfold Ew
  cases h:(a::L)[n]? with
  | none=>simp[My]
  | some w=>cases w <;> simp[My]
 | a::L,x::L',0=>by
  cases a <;> cases x <;> simp[Ew,My]
 | a::L,x::L',n+1=>by
  have:=Uq L L' n
  cases a <;> cases x <;> simpa[Ew] using this
theorem V9{a:Option HU}{x y:HU}(h:My a (some x)=some y):y.isRo=x.isRo/\(x.isRo=true->y=x):=by
 unfold My at h
 split at h
 ·rename_i h1 h2
  cases h2;cases h
  exact ⟨rfl,fun z=>(nomatch z)⟩
 ·cases h;exact ⟨rfl,fun _=>rfl⟩
theorem Alw{α':List Addr}{L L':UH}(A:Abs K H α L)(g:Gr H α H' α')(A':Abs K H' α' L') :
  ∃ H2,Thaw H H' H2/\Gr H α H2 α'/\Abs K H2 α' (Ew L L')/\(∀ u v,RepU K H' α' u v->RepU K H2 α' u v):=by
 classical
 let T:Addr->Prop:=fun b=>∃ (n:Nat) (kvs kws:List (Key×U)),α'[n]? = some b/\L[n]? = some (HU.dic kvs)/\L'[n]? = some (HU.rod kws)
 let H2:Hp:=fun b=>if T b then (match H' b with | some (.frz o (.dK vs))=>some (.dK vs) | x=>x) else H' b
 have Tfrz:∀ b,T b->∃ o vs,H' b=some (.frz o (.dK vs)):=by
  rintro b ⟨n,kvs,kws,e1,e2,e3⟩
  obtain ⟨o,vs,q,_⟩:=A'.rep n b _ e1 e3
  exact ⟨o,vs,q⟩
 have Told:∀ b,T b->∃ vs,H b=some (.dK vs):=by
  rintro b ⟨n,kvs,kws,e1,e2,e3⟩
  obtain ⟨a,ea,vs,q,_⟩:=A.addr e2
  have:=g.at ea
  rw[e1] at this;cases this
  exact ⟨vs,q⟩
 have on:∀ b o vs,T b->H' b=some (.frz o (.dK vs))->H2 b=some (.dK vs):=fun b o vs t e=>by
  show (if T b then _ else _)=_
  rw[if_pos t,e]
 have off:∀ b,¬ T b->H2 b=H' b:=fun b t=>by
  show (if T b then _ else _)=_
  rw[if_neg t]
 have th:Thaw H H' H2:=fun b=>by
  by_cases t:T b
  ·obtain ⟨o,vs,e⟩:=Tfrz b t
   obtain ⟨ws,e0⟩:=Told b t
   exact .inr ⟨o,vs,e,on b o vs t e,fun o u z=>by rw[e0] at z;cases z⟩
  ·exact .inl (off b t)
 have sq:∀ a xs,SqT K H' a xs->SqT K H2 a xs:=fun a xs h=>by
  rcases h with (h | ⟨o,h⟩) | h
  ·exact .inl (.inl (th.stay h fun _ _ z=>(nomatch z)))
  ·exact .inl (.inr ⟨o,th.stay h fun _ _ z=>(nomatch z)⟩)
  ·exact .inr h
 have gr:Gr H α H2 α':=⟨g.pre,fun b xs q=>th.stay (g.st.1 b xs q) fun _ _ z=>(nomatch z),fun b o u q=>by
  rcases th b with z | ⟨_,_,_,_,z⟩
  ·rw[z];exact g.st.2 b o u q
  ·exact absurd q (z _ _)⟩
 refine ⟨H2,th,gr,⟨?_,fun i j a o o' e1 e2 e3 e4=>?_,fun i a o e1 e2=>?_⟩,fun u v r=>RepU.via sq u v r⟩
 ·rw[P2];exact A'.len
 ·rw[Uq] at e3 e4
  cases q1:L'[i]? with
  | none=>rw[q1] at e3;unfold My at e3;split at e3 <;> cases e3;rename_i z;cases z
  | some x1=>
   cases q2:L'[j]? with
   | none=>rw[q2] at e4;unfold My at e4;split at e4 <;> cases e4;rename_i z;cases z
   | some x2=>
    rw[q1] at e3
    rw[q2] at e4
    rw[(V9 e3).1,(V9 e4).1]
    exact A'.inj i j a x1 x2 e1 e2 q1 q2
 ·rw[Uq] at e2
  cases q1:L'[i]? with
  | none=>rw[q1] at e2;unfold My at e2;split at e2 <;> cases e2;rename_i z;cases z
  | some x1=>
   rw[q1] at e2
   have hr:=A'.rep i a x1 e1 q1
   by_cases t:T a
   ·obtain ⟨o',vs,ef⟩:=Tfrz a t
    obtain ⟨n,kvs,kws,n1,n2,n3⟩:=id t
    rcases A'.inj i n a x1 _ e1 n1 q1 n3 with z | z | z
    ·subst z
     rw[q1] at n3;cases n3
     rw[n2] at e2
     cases e2
     obtain ⟨o2,ws,f1,f2,f3⟩:=hr
     exact ⟨ws,on a o2 ws t f1,f2,RepL.via sq _ _ f3⟩
    ·have:=(V9 e2).2 z
     subst this
     cases o with
     | ro us=>
      obtain ⟨xs,f1,f2⟩:=hr
      refine ⟨xs,?_,RepL.via sq _ _ f2⟩
      rcases f1 with ⟨o2,f1⟩ | f1
      ·rw[ef] at f1;cases f1
      ·exact .inr f1
     | _=>cases z
    ·cases z
   ·have same:o=x1:=by
     unfold My at e2
     split at e2
     ·rename_i h1 h2
      cases h2
      exact absurd ⟨i,_,_,e1,h1,q1⟩ t
     ·cases e2;rfl
    subst same
    have ea:=off a t
    cases o with
    | lst us=>obtain ⟨xs,f1,f2⟩:=hr;exact ⟨xs,by rw[ea];exact f1,RepL.via sq _ _ f2⟩
    | ro us=>
     obtain ⟨xs,f1,f2⟩:=hr
     refine ⟨xs,?_,RepL.via sq _ _ f2⟩
     rcases f1 with ⟨o2,f1⟩ | f1
     ·exact .inl ⟨o2,by rw[ea];exact f1⟩
     ·exact .inr f1
    | dic kvs=>obtain ⟨vs,f1,f2,f3⟩:=hr;exact ⟨vs,by rw[ea];exact f1,f2,RepL.via sq _ _ f3⟩
    | rod kvs=>obtain ⟨o2,vs,f1,f2,f3⟩:=hr;exact ⟨o2,vs,by rw[ea];exact f1,f2,RepL.via sq _ _ f3⟩
    | ins C fs=>obtain ⟨Ca,dx,vs,n,f1,f2,f3⟩:=hr;exact ⟨Ca,dx,vs,n,by rw[ea];exact f1,f2,RepL.via sq _ _ f3⟩
    | exc C fr fs=>obtain ⟨Ca,dd,vs,n,f1,f0,f2,f3⟩:=hr;exact ⟨Ca,dd,vs,n,by rw[ea];exact f1,f0.stay fun b o ws q=>th.stay q fun _ _ z=>(nomatch z),f2,RepL.via sq _ _ f3⟩
def Ag8(f:FE):FE:=fun δ L=>(f δ L).map fun p=>(p.1,Ew L p.2)
theorem Aqs{f:FE}(h:PEF X e f):PEF X e (Ag8 f):=by
 refine PE.imp (Aou h) ?_
 rintro σ H Q ⟨α,δ,L,A,S,z,L3,e,q⟩
 obtain ⟨⟨z',L1⟩,e1,e⟩:=aH.mp e
 cases e
 refine ⟨α,δ,L,A,S,z',L1,e1,fun v H1 α1 g1 A1 r1=>?_⟩
 obtain ⟨H2,th,g2,A2,r2⟩:=Alw A g1 A1
 exact ⟨H2,th,q v H2 α1 g2 A2 (r2 _ _ r1)⟩
structure DObj(P:bT)(w:cC)(o:Obj)(kvs:List (Key×V))(vs:List (Key×aF))(ep:Nat):Prop where
 rel:KV kvs vs
 at_:∀ (h:Heap) (d:Addr),h.get? d=some o->h.DictAt (Cu P w) d vs ep
def Itv(d:Addr)(o:Obj)(xs:List V):It:=⟨fun i H=>(∃ u,H d=some (.frz o u))/\i < xs.length,fun i H x H'=>H'=H/\xs[i]? = some x,fun i H=>(∃ u,H d=some (.frz o u))/\xs.length<=i⟩
theorem KV.at_:∀ {kvs:List (Key×V)} {vs:List (Key×aF)} {i:Nat} {p:Key×aF},KV kvs vs->vs[i]? = some p->∃ q,kvs[i]? = some q/\q.1=p.1/\RelV q.2 p.2
 | _,_,i,p,.nil,e=>by simp at e
 | _,_,0,p,.cons r t,e=>by simp at e;subst e;exact ⟨_,rfl,r⟩
 | _,_,i+1,p,.cons r t,e=>by simpa using KV.at_ (i:=i) t (by simpa using e)
variable {tg:Expr}
section
variable {P:bT}{w:cC}{d it:Addr}{o:Obj}{vs:List (Key×aF)}{ep:Nat}
theorem Ajg(D:DObj P w o kvs vs ep):Turn P w K tg (Itv d o (kvs.map fun kv=>kv.2)) [it] it (fun i h=>h.IsValIter it d i vs.length ep) where
 mem:=by simp
 obj:=fun i h st b hb=>by
  have e:b=it:=by simpa using hb
  subst e
  obtain ⟨o,e,c,d⟩:=st
  exact ⟨o,e,fun v z=>by rw[d] at z;cases z⟩
 keep:=fun i h h' st k=>st.at fun o e=>k it (by simp) o e
 item:=by
  intro X hP hw hK hc i pins s σ H E I hf st hg
  subst hP hw hK
  obtain ⟨⟨u,hd⟩,hi⟩:=hg
  have da:=D.at_ s.heap d (I.hok d _ hd).1
  have hl:=KV.length D.rel
  have hi':i < vs.length:=by rw[<- hl];simpa using hi
  obtain ⟨⟨k,x⟩,hx⟩:∃ p,vs[i]? = some p:=⟨vs[i],by simp[hi']⟩
  obtain ⟨q,hq,q1,q2⟩:=KV.at_ D.rel hx
  obtain ⟨f0,f1,f2,f3,f4,f5⟩:=hf it (by simp)
  refine wpAny_pyNext_values_item st da hx fun h' st' sb=>?_
  have I1:L2.Inv X pins σ H { s with heap:=h' }:=I.turned (t':=s.toks) (fun b o hb e=>(sb.2 b hb).trans e) f0 f1 f3 f4 f5
  refine ⟨x,rfl,letGo_valiter (s':={ s with heap:=h' }) st' ⟨q.2,H,I1,q2,⟨rfl,?_⟩,st',fun b hb=>(hf b hb).1⟩⟩
  rw[bJ,hq]
  rfl
 done:=by
  intro X hP hw hK hc i pins s σ H E I hf st hg
  subst hP hw hK
  obtain ⟨⟨u,hd⟩,hi⟩:=hg
  have da:=D.at_ s.heap d (I.hok d _ hd).1
  have hl:=KV.length D.rel
  obtain ⟨f0,f1,f2,f3,f4,f5⟩:=hf it (by simp)
  exact wpAny_pyNext_values_end (I.ok.hd hc) st da (iK (by rw[<- hl];simpa using hi)) fun h' eb=>⟨rfl,I.turned (t':=s.toks) (fun b o hb e=>eb b o hb e) f0 f1 f3 f4 f5⟩
 self:=fun _ _ _ _ _ st h=>wpAny_pyIter_valiter st h
end
variable {o:Expr}{apos cpos:Pos}
section
variable {td:TE}
structure M0(X:Cx)(o:Expr)(m:Str)(apos cpos:Pos):Prop where
 base:attributeBase o m X.env (eval o X.env)=eval o X.env
 few:((backTo cpos (aT [] X.env)).all (fun x=>!x.1)&&(backToKw cpos (keywordEach [] X.env)).all (fun x=>x.1.isSome)
  && decide (([]:List Expr).length+([]:List iP).length+(if ([]:List iP).isEmpty then 0 else 1) < 30))=true
 line:(apos.endLine == cpos.line)=true
 trees:backTo cpos (aT [] X.env)=[]
theorem Y5(I:L2.Inv X pins σ H s)(e:H a=some (.dK kvs)) :
  (a == sysModules)=false/\∃ ob vs ep,s.heap.get? a=some ob/\DObj X.prog X.w ob kvs vs ep:=by
 obtain ⟨z,hd,vs,rel,ob,es,ep,h1,h2⟩:=Agv I.hok e
 exact ⟨hd,ob,vs,ep,h1,rel,fun h d hg=>⟨ob,es,hg,h2⟩⟩
def A0r(td:TE):TI:=fun σ H R=>td σ H fun x H1=>∃ a kvs,x = .ref a/\H1 a=some (.dK kvs)/\∀ ob,R (Itv a ob (kvs.map fun kv=>kv.2)) (upd H1 a (.frz ob (.dK kvs)))
theorem Apz{ob:Obj}(I:L2.Inv X pins σ H s)(e:H a=some (.dK kvs)) :
  ∀ b∈[s.heap.objs.size],Lr X pins (upd H a (.frz ob (.dK kvs))) b:=fun b hb=>by
 have q:b=s.heap.objs.size:=by simpa using hb
 subst q
 have hn:=I.hok.fresh (aZ _)
 exact L2.Inv.fpOk I (aZ _) (by rw[Bj (fun z=>by rw[z,e] at hn;cases hn)];exact hn)
theorem Aqi(hl:PE X o td)(m:M0 X o "values" apos cpos):PI X tg (.Call (.Attribute o "values" apos) [] [] cpos) (A0r td):=by
 intro pins s σ H R I h
 refine jX m.base m.few m.line hV gT mR (thn (hl pins s σ H _ I h) fun u s1 zz=>zz.elim fun x H1 I1 rx zq=>?_)
 obtain ⟨a,kvs,ex,ea,q⟩:=zq
 subst ex
 obtain rfl:u=bO a:=rx
 obtain ⟨t1,t2,_⟩:=Aen I1 (.inl ⟨kvs,.inl ea⟩)
 refine ⟨t1,t2,?_⟩
 rw[m.trees]
 obtain ⟨hd,ob,vs,ep,ho,D⟩:=Y5 I1 ea
 have da:=D.at_ _ _ ho
 refine eW rfl (kW ?_)
 refine nO gT t1 mD (lX _) (qU (Cu X.prog X.w) a hd) ⟨⟨vs,da.dictOf⟩,?_⟩
 have I2:L2.Inv X pins σ H1 { s1 with heap:=s1.heap.push { cls:=.type "dict_values",data:=.fields #[.ref a] } }:=I1.kept (t':=s1.toks) fun b o e=>aB _ e
 obtain ⟨hd,ob,vs,ep,ho,D⟩:=Y5 I2 ea
 have da:=D.at_ _ _ ho
 refine wpAny_pyIter_values ⟨_,aM _ rfl,rfl,rfl⟩ da ?_
 have I3:=I2.kept (t':=s1.toks) (h':=(s1.heap.push { cls:=.type "dict_values",data:=.fields #[.ref a] }).push { cls:=.type "dict_valueiterator",data:=.fields #[.ref a,.int 0 0,.int vs.length 0,.int ep 0] }) fun b o e=>aB _ e
 exact ⟨_,[_],_,_,_,rfl,Inv.freeze I3 ea (aB _ ho),Ajg D,⟨_,aM _ rfl,rfl,rfl⟩,Apz I2 ea,q ob⟩
end
def Xr(kvs:List (Key×U)):List U:=kvs.map fun kv=>kv.2
def Xo(v:List (Key×U)->List U)(f:FE):FI:=fun δ L=>(f δ L).bind fun p=>match p.1 with
 | .ref n=>(Ik p.2 n).map fun kvs=>(.seq (v kvs),p.2.set n (.rod kvs))
 | _=>none
section
variable {L:UH}{ob:Obj}
theorem Aqy{u:HO}{us:List U}{xs:List V}(e:H a=some (.frz ob u))(r:RepL K H α us xs):Qi K (Itv a ob xs) (.seq us) H α:=by
 intro H2 α2 L2 g A2 k
 have e2:=g.st.2 _ _ _ e
 have r2:=r.mono g
 refine ⟨fun w eu=>?_,fun eu=>?_⟩
 ·have eu:us[k]? = some w:=by simpa[IU.at] using eu
  obtain ⟨x,hx,rx⟩:=r2.get eu
  refine ⟨⟨⟨u,e2⟩,(aK.mp hx).1⟩,?_⟩
  rintro y H3 ⟨rfl,hy⟩
  rw[hx] at hy;cases hy
  exact ⟨.refl _ _,A2,rx⟩
 ·have eu:us[k]? = none:=by simpa[IU.at] using eu
  exact ⟨⟨u,e2⟩,by rw[<- r2.length];exact cH.mp eu⟩
theorem Ae7{n:Nat}{kvs:List (Key×U)}{vs:List (Key×V)}(A:Abs K H α L)(h:Ik L n=some kvs)(ea:α[n]? = some a)(e:H a=some (.dK vs))(r:RepKV K H α kvs vs)(ob:Obj) :
  Gr H α (upd H a (.frz ob (.dK vs))) α/\Abs K (upd H a (.frz ob (.dK vs))) α (L.set n (.rod kvs)):=by
 have g:Gr H α (upd H a (.frz ob (.dK vs))) α:=⟨⟨[],by simp⟩,.write e (by exact trivial) _⟩
 obtain ⟨A',_⟩:=A.put (o:=.frz ob (.dK vs)) (u:=.rod kvs) ea (Pa h) rfl rfl e (by exact trivial) ⟨ob,vs,upd_same,(r.mono g).1,(r.mono g).2⟩
 exact ⟨g,A'⟩
end
section
variable {fo:FE}
theorem Ah2{v:List (Key×U)->List U}{J:Addr->Obj->List (Key×V)->It}(hJ:∀ (H:Hp) (α:List Addr) (a:Addr) (ob:Obj) (u:HO) (kvs:List (Key×U)) (vs:List (Key×V)),H a=some (.frz ob u)->RepKV X.K H α kvs vs->Qi X.K (J a ob vs) (.seq (v kvs)) H α)
  {σ:L2.St} {H:Hp} {R:It->Hp->Prop} (h:lI X.K (Xo v fo) σ H R):lE X.K fo σ H fun x H1=>∃ a kvs,x = .ref a/\H1 a=some (.dK kvs)/\∀ ob,R (J a ob kvs) (upd H1 a (.frz ob (.dK kvs))):=by
 obtain ⟨α,δ,L,A,S,i,L3,e,q⟩:=h
 obtain ⟨⟨u,L1⟩,e1,e⟩:=aA.mp e
 simp only at e
 split at e
 ·obtain ⟨kvs,hd,e⟩:=aH.mp e
  cases e
  refine ⟨α,δ,L,A,S,_,_,e1,fun x H1 α1 g1 A1 r1=>?_⟩
  obtain ⟨a,vs,rfl,ea,ha,rk⟩:=Lj A1 hd r1
  refine ⟨a,vs,rfl,ha,fun ob=>?_⟩
  obtain ⟨g2,A2⟩:=Ae7 A1 hd ea ha rk ob
  exact q _ _ _ (g1.trans g2) A2 (hJ _ _ _ _ _ _ _ upd_same (rk.mono g2))
 ·cases e
def Awy(a:Addr)(ob:Obj)(vs:List (Key×V)):It:=Itv a ob (vs.map fun kv=>kv.2)
theorem Ali(ho:PEF X o fo)(m:M0 X o "values" apos cpos):PIF X tg (.Call (.Attribute o "values" apos) [] [] cpos) (Xo Xr fo):=
 PI.imp (Aqi ho m) fun _ _ _ h=>Ah2 (J:=Awy) (fun _ _ _ _ _ _ _ e r=>Aqy e r.2) h
def Ayj:R2:=fun y x H Q=>∃ a r,x = .ref a/\DGet H a y r/\Q (.bl r.isSome) H
def Agy:R2:=fun y x H Q=>∃ a r,x = .ref a/\DGet H a y r/\Q (.bl (!r.isSome)) H
theorem Awl(hu:X.A.units+64 < cLine):OpR X (cX .In) Ayj:=by
 intro pins s σ H x y u w Q I rx ry h
 obtain ⟨a,r,rfl,g,q⟩:=h
 obtain rfl:w=bO a:=ry
 exact A33 (by omega) I g rx fun s' I'=>⟨.bl _,H,I',rfl,q⟩
theorem Ahu(hu:X.A.units+64 < cLine):OpR X (cX .NotIn) Agy:=by
 intro pins s σ H x y u w Q I rx ry h
 obtain ⟨a,r,rfl,g,q⟩:=h
 obtain rfl:w=bO a:=ry
 exact Aqc (by omega) I g rx fun s' I'=>⟨.bl _,H,I',rfl,q⟩
def Ri:S2:=fun y x L=>match x with
 | .ref n=>(toK y).bind fun k=>(Ik L n).map fun kvs=>(.bl (T4 kvs k).isSome,L)
 | _=>none
def Ks:S2:=fun y x L=>match x with
 | .ref n=>(toK y).bind fun k=>(Ik L n).map fun kvs=>(.bl (!(T4 kvs k).isSome),L)
 | _=>none
theorem find_any(k:Key):∀ kvs:List (Key×U),(kvs.find? fun kv=>decide (kv.1=k)).isSome=kvs.any fun kv=>decide (kv.1=k)
 | []=>rfl
 | kv::kvs=>by
  rw[fO,eQ]
  by_cases h:kv.1=k
  ·simp[h]
  ·simp only[h,decide_false,sS]
   exact find_any k kvs
theorem RepKV.some{kvs:List (Key×U)}{vs:List (Key×V)}(r:RepKV K H α kvs vs)(k:Key):(T4 kvs k).isSome=(Mu vs k).isSome:=by
 have h1:(T4 kvs k).isSome=kvs.any fun kv=>decide (kv.1=k):=by
  unfold T4
  rw[iQ]
  exact find_any k kvs
 rw[h1,r.any,Us]
theorem Aof:Dr K Ayj Ri:=by
 intro H α L u w x y z L' Q A ru rw' e q
 unfold Ri at e
 split at e
 ·obtain ⟨k,hk,e⟩:=aA.mp e
  obtain ⟨kvs,hd,e⟩:=aH.mp e
  cases e
  obtain ⟨a,vs,rfl,ea,ha,rk⟩:=Lj A hd rw'
  refine ⟨a,_,rfl,by rw[Aac ru hk];exact DGet.k ha,?_⟩
  rw[<- rk.some k]
  exact q _ H α (.refl _ _) A rfl
 ·cases e
theorem Afa:Dr K Agy Ks:=by
 intro H α L u w x y z L' Q A ru rw' e q
 unfold Ks at e
 split at e
 ·obtain ⟨k,hk,e⟩:=aA.mp e
  obtain ⟨kvs,hd,e⟩:=aH.mp e
  cases e
  obtain ⟨a,vs,rfl,ea,ha,rk⟩:=Lj A hd rw'
  refine ⟨a,_,rfl,by rw[Aac ru hk];exact DGet.k ha,?_⟩
  rw[<- rk.some k]
  exact q _ H α (.refl _ _) A rfl
 ·cases e
end
def Adf(kvs:List (Key×U))(k:Key):List (Key×U):=kvs.filter fun kv=>decide (kv.1≠k)
theorem RepKV.drop(k:Key):∀ {kvs:List (Key×U)} {vs:List (Key×V)},RepKV K H α kvs vs->RepKV K H α (Adf kvs k) (Tt vs k)
 | [],vs,r=>by
  have:=r.1
  cases vs with
  | nil=>exact .nil
  | cons _ _=>simp at this
 | kv::kvs,vs,r=>by
  obtain ⟨x,vs',rfl,rx,r'⟩:=r.cons
  unfold Adf Tt
  rw[eO,eO]
  by_cases h:kv.1=k
  ·simp only[h,ne_eq,not_true_eq_false,decide_false,cD,if_false]
   exact RepKV.drop k r'
  ·simp only[h,ne_eq,not_false_eq_true,decide_true,if_true]
   exact .mk rx (RepKV.drop k r')
def Agj(fo fe:FE):FE:=fun δ L=>(fo δ L).bind fun p=>match p.1 with
 | .ref n=>(Ik p.2 n).bind fun _=>(fe δ p.2).bind fun q=>(toK q.1).bind fun k=>(Ik q.2 n).bind fun kvs=>(T4 kvs k).map fun u=>(u,q.2.set n (.dic (Adf kvs k)))
 | _=>none
theorem Aq4{fo fe:FE}(ho:PEF X o fo)(he:PEF X e fe)(m:M1 X o "pop" apos e cpos):PEF X (.Call (.Attribute o "pop" apos) [e] [] cpos) (Agj fo fe):=by
 refine PE.imp (Aki ho he m) ?_
 rintro σ H Q ⟨α,δ,L,A,S,z,L3,e,q⟩
 obtain ⟨⟨u,L1⟩,e1,e⟩:=aA.mp e
 simp only at e
 split at e
 ·obtain ⟨kvs0,hd0,e⟩:=aA.mp e
  obtain ⟨⟨w,L2⟩,e2,e⟩:=aA.mp e
  obtain ⟨k,hk,e⟩:=aA.mp e
  obtain ⟨kvs,hd,e⟩:=aA.mp e
  obtain ⟨v,hv,e⟩:=aH.mp e
  cases e
  refine ⟨α,δ,L,A,S,_,L1,e1,fun x H1 α1 g1 A1 r1=>?_⟩
  obtain ⟨a,vs0,rfl,ea0,ha0,rk0⟩:=Lj A1 hd0 r1
  refine ⟨a,rfl,.inl ⟨vs0,.inl ha0⟩,α1,δ,L1,A1,S.mono g1,w,L2,e2,fun y H2 α2 g2 A2 r2=>?_⟩
  obtain ⟨a',vs,e',ea,ha,rk⟩:=Lj A2 hd (r1.mono g2)
  cases e'
  obtain ⟨x',hx',rx'⟩:=rk.val hv
  obtain ⟨g3,A3⟩:=A2.setD hd ea ha (rk.drop k)
  exact ⟨vs,k,x',ha,Aac r2 hk,hx',q _ _ _ (g1.trans (g2.trans g3)) A3 (rx'.mono g3)⟩
 ·cases e
end MR
namespace MR
open PySem PyProof.Rows L2
theorem Ul:∀ L:UH,Ew L L=L
 | []=>by unfold Ew;rfl
 | x::L=>by cases x <;> simp[Ew,Ul L]
theorem W8:∀ (L L' x:UH),L.length=L'.length->Ew L (L'++x)=Ew L L'++x
 | [],[],x,_=>by simp[Ew]
 | [],y::L',x,h=>by simp at h
 | a::L,[],x,h=>by simp at h
 | a::L,y::L',x,h=>by
  have:=W8 L L' x (by simpa using h)
  cases a <;> cases y <;> simp[Ew,this]
theorem Yg:∀ (L:UH) (n:Nat) (kvs:List (Key×U)),L[n]? = some (.dic kvs)->Ew L (L.set n (.rod kvs))=L
 | [],n,kvs,h=>by simp at h
 | x::L,0,kvs,h=>by
  simp at h;subst h
  simp[Ew,Ul]
 | x::L,n+1,kvs,h=>by
  have:=Yg L n kvs (by simpa using h)
  cases x <;> simp[Ew,this]
theorem Apj{v:List (Key×U)->List U}{fo:FE}{δ:UE}{L:UH}{n:Nat}{kvs:List (Key×U)}(hf:fo δ L=some (.ref n,L))(hn:L[n]? = some (.dic kvs)):Xo v fo δ L=some (.seq (v kvs),L.set n (.rod kvs)):=by
 have hd:Ik L n=some kvs:=by unfold Ik;rw[hn]
 unfold Xo
 rw[hf]
 simp only[aC,hd,aG]
theorem Air{β:Type}{ix:List (Option Nat)}{v:List (Key×U)->List U}{fo:FE}{g:FG}{tt:Option FT}{fe:FE}{δ:UE}{L:UH}{n:Nat}{kvs:List (Key×U)}(as:List β)(rep:β->U)(f:β->Bool)(e:β->U)(E:UE->Prop)(hf:fo δ L=some (.ref n,L))(hn:L[n]? = some (.dic kvs))(hv:v kvs=as.map rep)(hl:as.length < 16777216)(h0:E (Jm ix δ))
  (step:∀ (a:β) δ (M:UH),a∈as->E δ->∃ δ1,g (rep a) δ M=some (δ1,M)/\E δ1/\∃ y,E4 tt δ1 M=some (f a,M++y)/\(f a=true->∃ z,fe δ1 (M++y)=some (e a,M++y++z))) :
  ∃ x,Ag8 (B5 ix (Xo v fo) g tt fe) δ L=some (.ref (L++x).length,L++x++[.lst ((as.filter f).map e)]):=by
 have hi:=Apj (v:=v) hf hn
 rw[hv] at hi
 obtain ⟨x,q⟩:=B6 (ix:=ix) (g:=g) (tt:=tt) (fe:=fe) as rep f e E hi (by simp[IU.size]) hl h0 (fun k x=>rfl) (fun a δ x ha hE=>step a δ _ ha hE)
 refine ⟨x,?_⟩
 unfold Ag8
 rw[q]
 have ln:(L.set n (.rod kvs)).length=L.length:=by simp
 simp only[aG]
 rw[bH,W8 _ _ _ ln.symm,Yg L n kvs hn,<- bH]
 simp
end MR
namespace MR
open PySem PySem.Spec PyProof.Rows L2
inductive XObj(e Ca:Addr)(dd:Option Addr)(h:Heap)(vs:Array aF):Prop
 | mk (o:Obj) (h0:h.get? e=some o) (h1:o.cls = .ref Ca) (h2:o.dict=dd) (h3:o.data = .fields vs) (h4:1 < vs.size) (h5:o.slots=#[]):XObj e Ca dd h vs
inductive Tra(N:Nat)(e Ca:Addr)(dd:Option Addr)(fl:aF)(h:Heap):Prop
 | mk (vs:_) (T:_) (oT:_) (ts:_) (h0:XObj e Ca dd h vs) (h1:vs[1]? = some (.ref T)) (h2:N<=T) (h3:T≠e) (h4:h.get? T=some oT) (h5:oT.data = .fields ts) (h6:ts[3]? = some fl):Tra N e Ca dd fl h
def Raw(e Ca:Addr)(dd:Option Addr)(h:Heap):Prop:=∃ vs,XObj e Ca dd h vs/\vs[1]? = some .none
def Fly(N:Nat)(e Ca:Addr)(dd:Option Addr)(h:Heap):Prop:=N<=h.objs.size/\(Raw e Ca dd h\/∃ fl,Tra N e Ca dd fl h)
variable {e Ca:Addr}{dd:Option Addr}{h:Heap}
theorem XObj.excIs{vs:Array aF}(x:XObj e Ca dd h vs):ExcIs e Ca dd false h:=by
 obtain ⟨o,h1,h2,h3,h4,h5,h6⟩:=x
 exact ⟨o,vs,h1,h2,h3,h4,h5,h6,fun z=>nomatch z⟩
variable {N:Nat}
theorem Fly.excIs(x:Fly N e Ca dd h):ExcIs e Ca dd false h:=by
 rcases x.2 with ⟨vs,q,_⟩ | ⟨_,vs,_,_,_,q,_⟩
 ·exact q.excIs
 ·exact q.excIs
theorem Tra.excIs{fl:aF}(x:Tra N e Ca dd fl h):ExcIs e Ca dd false h:=by
 obtain ⟨vs,_,_,_,q,_⟩:=x
 exact q.excIs
structure Stp(N:Nat)(fs:List Addr)(e:Addr)(h h':Heap):Prop where
 keep:∀ b o,b < N->b∉fs->b≠e->h.get? b=some o->h'.get? b=some o
 slot:∀ b o,b∈fs->h.get? b=some o->∃ sl,h'.get? b=some { o with slots:=sl }
 all:∀ b o,h.get? b=some o->∃ o',h'.get? b=some o'
 sz:h.objs.size<=h'.objs.size
variable {fs:List Addr}
theorem Stp.refl:Stp N fs e h h:=⟨fun _ _ _ _ _ q=>q,fun b o _ q=>⟨o.slots,q⟩,fun _ o q=>⟨o,q⟩,aZ _⟩
theorem Stp.trans{h1 h2:Heap}(x:Stp N fs e h h1)(y:Stp N fs e h1 h2):Stp N fs e h h2:=
 ⟨fun b o l n z q=>y.keep b o l n z (x.keep b o l n z q),fun b o m q=>let ⟨_,q1⟩:=x.slot b o m q;let ⟨sl,q2⟩:=y.slot b _ m q1;⟨sl,q2⟩,fun b o q=>let ⟨o1,q1⟩:=x.all b o q;y.all b o1 q1,cB x.sz y.sz⟩
variable {A:eD}{E:aF->aJ->Prop}{s:aJ}
section
variable {M:Model}{base:Heap}{env:iZ}{outer:List iZ}{L:Addr}
end
variable {w:cC}{H:Hp}
theorem Apw{P:bT}{h':Heap}(ok:HOk P w H h)(hf:∀ b∈fs,H b=none)(tr:∀ b o,H b=some o->b < N)(S:Stp N fs e h h')
  (me:H e=some (.ext (ExcIs e Ca dd false))) (x:ExcIs e Ca dd false h'):HOk P w H h':=fun a o q=>by
 by_cases ha:a=e
 ·subst ha
  rw[me] at q
  cases q
  obtain ⟨o,vs,h1,_,_,_,_,_,_⟩:=id x
  refine ⟨x,⟨o,h1⟩,fun h1 h2 z k=>?_⟩
  obtain ⟨o1,ws,q1,r1,r2,r3,r4,r5,r6⟩:=z
  exact ⟨o1,ws,k _ q1,r1,r2,r3,r4,r5,r6⟩
 ·refine (ok a o q).stay (fun b u hb z=>?_) (fun _ z=>z) fun _ _ z=>z
  have hbt:∃ ob,H b=some ob:=by
   rcases hb with hb | hb
   ·exact ⟨o,by rw[hb];exact q⟩
   ·exact ⟨_,hb⟩
  obtain ⟨ob,hob⟩:=hbt
  refine S.keep b u (tr b ob hob) (fun m=>by rw[hf b m] at hob;cases hob) ?_ z
  rintro rfl
  rcases hb with hb | hb
  ·exact ha hb.symm
  ·rw[me] at hb;cases hb
structure Bd(X:Cx)(pins:List (Addr×Obj))(N:Nat):Prop where
 s0:X.s₀.heap.objs.size<=N
 lo:X.env.locals < N
 ce:∀ x c,X.env.cells.lookup x=some c->c < N
 pi:∀ p∈X.pn++pins,p.1 < N
variable {X:Cx}{pins:List (Addr×Obj)}{σ:L2.St}
theorem Bd.of(I:L2.Inv X pins σ H s)(h:s.heap.objs.size<=N):Bd X pins N:=
 ⟨cB I.sz h,aW I.lt h,fun x c q=>by
  obtain ⟨v,o,ho,_⟩:=I.cell x c q
  exact aW (aP ho) h,fun p hp=>aW (aP (I.pin p hp).1) h⟩
structure FlX(X:Cx)(pins:List (Addr×Obj))(σ:L2.St)(H:Hp)(e Ca:Addr)(dd:Option Addr)(N:Nat)(s:aJ):Prop where
 inv:L2.Inv X pins σ H s
 bd:Bd X pins N
 fly:Fly N e Ca dd s.heap
 tr:∀ b o,H b=some o->b < N
 me:H e=some (.ext (ExcIs e Ca dd false))
section
variable {h':Heap}
theorem FlX.stk(F:FlX X pins σ H e Ca dd N s):∀ b∈frs X.stack,H b=none:=F.inv.stkFree
theorem Inv.stepX{t':Nat}(I:L2.Inv X pins σ H s)(bd:Bd X pins N)(tr:∀ b o,H b=some o->b < N)(me:H e=some (.ext (ExcIs e Ca dd false)))(S:Stp N (frs X.stack) e s.heap h')(fl:ExcIs e Ca dd false h'):L2.Inv X pins σ H { s with heap:=h',toks:=t' }:=by
 refine I.call (g':=s.gens) (d':=s.drawn) (t':=t') (h':=h') (ch:=(cK s.heap.objs.size).filter (N<=·)) ⟨fun b o q n hb hx=>?_,fun b o q n hb hx=>S.slot b o hb q,fun _ _ _ n _=>n,fun b o q _=>S.all b o q,fun _ _ z=>z,fun _ _ _ z=>z,fun b ps z=>⟨#[],by rw[z];simp⟩⟩ (Apw I.hok I.stkFree tr S me fl) I.bare (fun b hb=>?_)
 ·refine S.keep b o ?_ hb (fun z=>by rw[z,me] at n;cases n) q
  by_cases hl:b < N
  ·exact hl
  ·exact absurd (iG.mpr ⟨eR.mpr (aP q),by simpa using hl⟩) hx
 ·have hb:N<=b:=by simpa using (iG.mp hb).2
  refine ⟨.inr (cB bd.s0 hb),fun z=>absurd bd.lo (by rw[<- z];exact sJ.mpr hb),fun x c q z=>absurd (bd.ce x c q) (by rw[z];exact sJ.mpr hb),fun p hp z=>absurd (bd.pi p hp) (by rw[z];exact sJ.mpr hb)⟩
theorem FlX.step(F:FlX X pins σ H e Ca dd N s)(S:Stp N (frs X.stack) e s.heap h')(fl:Fly N e Ca dd h'):FlX X pins σ H e Ca dd N { s with heap:=h' }:=
 ⟨Inv.stepX (t':=s.toks) F.inv F.bd F.tr F.me S fl.excIs,F.bd,fl,F.tr,F.me⟩
end
inductive CFl(P:bT)(w:cC)(K:aE)(outer:List iZ)(H:Hp)(α:List Addr)(s:aJ)(n:Nat)(L':UH)(e:aF)(s':aJ):Prop
 | mk (ea:_) (Ca:_) (dd:_) (N:_) (H':_) (α':_) (h0:e = .ref ea) (h1:s'.os=s.os) (h2:kX s'.gens) (h3:Un (frs outer) [] H H' s.heap s'.heap) (h4:HOk P w H' s'.heap) (h5:s.heap.objs.size<=N) (h6:Fly N ea Ca dd s'.heap) (h7:(∀ b o,H' b=some o->b < N)) (h8:H' ea=some (.ext (ExcIs ea Ca dd false))) (h9:Gr H α H' α') (h10:Abs K H' α' L') (h11:α'[n]? = some ea):CFl P w K outer H α s n L' e s'
abbrev XN:=List U->UH->Option (Nat×UH)
structure FnX(P:bT)(w:cC)(K:aE)(mg:Str->Option aF)(base:Heap)(k:Nat)(f:Addr)(fd:dW)(ps:List Str)(x:XN):Prop where
 run:∀ (A:eD) (outer:List iZ) (s:aJ) (H:Hp) (args:Args) (us:List aF) (vs:List V) (α:List Addr) (L:UH) (ws:List U) (n:Nat) (L':UH),Room k A->Env0 P w K mg base A outer s H->kZ s fd args (ps.zip us)->Vals vs us ->
  Abs K H α L->RepL K H α ws vs->ws.length=ps.length->x ws L=some (n,L')->jV (model P w) A (.call (.ref f) args) (fun r s'=>∃ e,r = .error e/\CFl P w K outer H α s n L' e s') s
abbrev XS:=UE->UH->Option (Nat×UE×UH)
abbrev XE:=UE->UH->Option (Nat×UH)
inductive FXP(X:Cx)(pins:List (Addr×Obj))(H:Hp)(α:List Addr)(n:Nat)(δ':UE)(L':UH)(e:aF)(s':aJ):Prop
 | mk (ea:_) (Ca:_) (dd:_) (N:_) (σ':_) (H':_) (α':_) (h0:e = .ref ea) (h1:FlX X pins σ' H' ea Ca dd N s') (h2:Gr H α H' α') (h3:Abs X.K H' α' L') (h4:RepS X.K H' α' δ' σ') (h5:α'[n]? = some ea):FXP X pins H α n δ' L' e s'
variable {n:Nat}
theorem FXP.from{H1:Hp}{α α1:List Addr}{δ':UE}{L':UH}{e:aF}{s':aJ}(g:Gr H α H1 α1)(h:FXP X pins H1 α1 n δ' L' e s'):FXP X pins H α n δ' L' e s':=by
 obtain ⟨ea,Ca,dd,N,σ',H',α',h1,h2,h3,r1,r2,r3⟩:=h
 exact ⟨ea,Ca,dd,N,σ',H',α',h1,h2,g.trans h3,r1,r2,r3⟩
variable {es:List Expr}{pos:Pos}
section
variable {e:Expr}{st:Stmt}{α:List Addr}{δ:UE}{L L':UH}
theorem PEF.go{f:FE}{u:U}{Q:aF->aJ->Prop}(h:PEF X e f)(hx:∀ e s,X.xe e s->False)(I:L2.Inv X pins σ H s)(A:Abs X.K H α L)(S:RepS X.K H α δ σ)(hf:f δ L=some (u,L'))
  (q:∀ x v H' α' s',L2.Inv X pins σ H' s'->Gr H α H' α'->Abs X.K H' α' L'->RepU X.K H' α' u v->RelV v x->Q x s'):wpAny (model X.prog X.w) X.A (eval e X.env) Q E s:=
 gC (h pins s σ H (fun v H'=>∃ α',Gr H α H' α'/\Abs X.K H' α' L'/\RepU X.K H' α' u v) I ⟨α,δ,L,A,S,u,L',hf,fun v H' α' g A' r=>⟨α',g,A',r⟩⟩) (fun x s' ⟨v,H',I',rv,α',g,A',r⟩=>q x v H' α' s' I' g A' r rv) fun _ _ z=>(hx _ _ z).elim
theorem PTF.go{f:FT}{b:Bool}{Q:Bool->aJ->Prop}(h:PTF X e f)(hx:∀ e s,X.xe e s->False)(I:L2.Inv X pins σ H s)(A:Abs X.K H α L)(S:RepS X.K H α δ σ)(hf:f δ L=some (b,L'))
  (q:∀ H' α' s',L2.Inv X pins σ H' s'->Gr H α H' α'->Abs X.K H' α' L'->Q b s'):wpAny (model X.prog X.w) X.A (isTrue e X.env (eval e X.env)) Q E s:=
 gC (h pins s σ H (fun b' H'=>b'=b/\∃ α',Gr H α H' α'/\Abs X.K H' α' L') I ⟨α,δ,L,A,S,b,L',hf,fun H' α' g A'=>⟨rfl,α',g,A'⟩⟩) (fun x s' ⟨H',I',hb,α',g,A'⟩=>by subst hb;exact q H' α' s' I' g A') fun _ _ z=>(hx _ _ z).elim
theorem PAF.go{f:FA}{us:List U}{Q:List aF->aJ->Prop}(h:PAF X es f)(hx:∀ e s,X.xe e s->False)(I:L2.Inv X pins σ H s)(A:Abs X.K H α L)(S:RepS X.K H α δ σ)(hf:f δ L=some (us,L'))
  (q:∀ xs vs H' α' s',L2.Inv X pins σ H' s'->Gr H α H' α'->Abs X.K H' α' L'->RepL X.K H' α' us vs->Vals vs xs->Q xs s'):wpAny (model X.prog X.w) X.A (spliced (backTo pos (aT es X.env))) Q E s:=
 gC (h pos pins s σ H (fun vs H'=>∃ α',Gr H α H' α'/\Abs X.K H' α' L'/\RepL X.K H' α' us vs) I ⟨α,δ,L,A,S,us,L',hf,fun vs H' α' g A' r=>⟨α',g,A',r⟩⟩) (fun x s' ⟨vs,H',I',rv,α',g,A',r⟩=>q x vs H' α' s' I' g A' r rv) fun _ _ z=>(hx _ _ z).elim
end
section
variable {e:Expr}{st:Stmt}{rest:List Stmt}
end
variable {f:Addr}{p apos:Pos}{x C:Str}
section
variable {e o:Expr}{m:Str}{k:Nat}{fa:Addr}{fd:dW}{ps:List Str}{F:XN}{g:FA}{fo:FE}
end
variable {K:aE}
section
variable {P:bT}{mg:Str->Option aF}{base:Heap}
end
def bmV:List aF:=[.type "ValueError",.type "Exception",.type "BaseException",.type "object"]
def A15(d:Data):Option ClassData:=match d with
 | .cls cd=>some cd
 | _=>none
def Aoz(K:aE)(C:Addr):Bool:=match K.lookup C with
 | some o=>(o.cls == .type "type" && (match A15 o.data with | some cd=>!cd.hasDel&&(cd.mro.head? == some (.ref C)&&PySem.W.tailIn K bmV cd.mro.tail) | none=>false))&&(o.slots.toList.length == 6&&o.slots.toList[4]? == some (some (.builtin "ValueError.__new__")))
 | none=>false
inductive six_I(α:Type)(l:List α)(k:α):Prop
 | mk (k0:_) (k1:_) (k2:_) (k3:_) (k5:_) (h0:l=[k0,k1,k2,k3,k,k5]):six_I α l k
inductive exc_obj_I(h:Heap)(C:Addr):Prop
 | mk (nm:_) (qn:_) (N:_) (bs:_) (bm:_) (hdct:_) (sn:_) (sub:_) (ab:_) (col:_) (dd:_) (k0:_) (k1:_) (k2:_) (k3:_) (k5:_) (h0:h.get? C=some (excClassObj nm qn C N bs bm hdct sn sub ab col dd k0 k1 k2 k3 k5 "ValueError.__new__")) (h1:OwnTail h bmV bm):exc_obj_I h C
section
variable {prog:bT}{C:Addr}{rest:List aF}
end
structure MkX(K:aE)(C f:Addr):Prop where
 ex:Aoz K C=true
 init:cL K (.ref C) "__init__" = some (some (.ref f))
 fn:kY K (.ref f)=true
 kp:dU K (.ref C)=true
section
variable {k:Nat}{fd:dW}{ps:List Str}{sp:Sp}{e:Expr}{t:TA}
end
def Asu(K:aE)(B:Addr):Bool:=match rR K (.ref B) (.type "type") "__init__" with
 | some (.val (.builtin id))=>id == "ValueError.__init__"
 | _=>false
structure BInit(K:aE)(B:Addr):Prop where
 sp:iN K (.ref B) "__getattribute__" = some (some (.builtin "type.__getattribute__"))
 rd:PySem.W.readsIn K B (.type "type")=true
 fd:Asu K B=true
theorem BInit.found{B:Addr}(b:BInit K B):rR K (.ref B) (.type "type") "__init__" = some (.val (.builtin "ValueError.__init__")):=by
 have h:=b.fd
 unfold Asu at h
 split at h
 ·rename_i id q
  rw[q,beq_iff_eq.mp h]
 ·cases h
section
variable {B:Addr}{a b:Expr}{t:TA}
def AllX(K:aE)(Cs:List Str):Prop:=∀ C∈Cs,∀ Ca,dF K bQ C=some (some (.ref Ca))->Aoz K Ca=true
end
variable {Cs:List Str}
section
variable {e:Expr}{fe:FE}
end
def AllM(K:aE)(Cs:List Str)(D:Addr):Prop:=∀ C∈Cs,∀ Ca,dF K bQ C=some (some (.ref Ca))->oZ K (.ref Ca) (.ref D)=some true
section
variable {body suite:List Stmt}{b0:Stmt}{n:Str}{np hpos:Pos}{D:Addr}{fb fs:FS}{xb:XS}{i:Nat}
end
def Avg(K:aE)(C:Addr):Bool:=Aoz K C&&cL K (.ref C) "__getattribute__" == some (some (.builtin "BaseException.__getattribute__"))&&cL K (.ref C) "__getattr__" == some none &&
 sT K (.ref C) (.type "BaseException") == some true&&cL K (.ref C) "__class__" == some (some (.builtin "object.__class__"))&&pK K C (.type "object") == some true&&iM K C &&
 iN K (.builtin "object.__class__") "__get__" == some (some (.builtin "getset_descriptor.__get__"))&&nW K (.builtin "object.__class__") == some true
structure ExcA(K:aE)(C:Addr):Prop where
 ex:Aoz K C=true
 ga:cL K (.ref C) "__getattribute__" = some (some (.builtin "BaseException.__getattribute__"))
 gk:cL K (.ref C) "__getattr__" = some none
 sb:sT K (.ref C) (.type "BaseException")=some true
 cl:cL K (.ref C) "__class__" = some (some (.builtin "object.__class__"))
 mo:pK K C (.type "object")=some true
 hd:iM K C=true
 sg:iN K (.builtin "object.__class__") "__get__" = some (some (.builtin "getset_descriptor.__get__"))
 tk:nW K (.builtin "object.__class__")=some true
theorem Apu{C:Addr}(h:Avg K C=true):ExcA K C:=by
 unfold Avg at h
 simp only[cJ,beq_iff_eq] at h
 obtain ⟨⟨⟨⟨⟨⟨⟨⟨a,b⟩,c⟩,d⟩,e⟩,f⟩,g⟩,i⟩,j⟩:=h
 exact ⟨a,b,c,d,e,f,g,i,j⟩
def isX(C D:Str):Bool:=C == D || D == "BelowError" || D == "ValueError"
def Apy(K:aE)(D:Str):Option aF:=match dF K bQ D with
 | some (some (.ref a))=>some (.ref a)
 | some none=>if D == "ValueError" then some (.type "ValueError") else none
 | _=>none
def Aog(K:aE)(Cs Ds:List Str):Bool:=Cs.all fun C=>match dF K bQ C with
 | some (some (.ref a))=>Avg K a&&Ds.all fun D=>match Apy K D with
  | some v=>dN K (.ref a) v == some (isX C D)&&(!isX C D || oZ K (.ref a) v == some true)
  | none=>false
 | _=>false
variable {D:Str}{Da:Addr}
section
variable {Ds:List Str}
theorem Yw(T:Aog K Cs Ds=true)(hC:C∈Cs)(hn:dF K bQ C=some (some (.ref Ca))):ExcA K Ca/\∀ D∈Ds,∃ v,Apy K D=some v/\dN K (.ref Ca) v=some (isX C D)/\(isX C D=true->oZ K (.ref Ca) v=some true):=by
 have h:=bS.mp T C hC
 rw[hn] at h
 simp only[cJ] at h
 refine ⟨Apu h.1,fun D hD=>?_⟩
 have h2:=bS.mp h.2 D hD
 split at h2
 ·rename_i v hv
  simp only[cJ,beq_iff_eq,kQ,Bool.not_eq_true'] at h2
  exact ⟨v,hv,h2.1,fun z=>h2.2.resolve_left (by rw[z];exact Bool.noConfusion)⟩
 ·cases h2
theorem AllX.of(T:Aog K Cs Ds=true):AllX K Cs:=fun C hC Ca hn=>(Yw T hC hn).1.ex
theorem Abk(h:dF K bQ D=some (some (.ref Da))):Apy K D=some (.ref Da):=by unfold Apy;rw[h]
theorem AllM.of(T:Aog K Cs Ds=true)(hD:D∈Ds)(hn:dF K bQ D=some (some (.ref Da)))(ha:Cs.all (fun C=>isX C D)=true):AllM K Cs Da:=fun C hC Ca hc=>by
 obtain ⟨v,hv,_,h2⟩:=(Yw T hC hc).2 D hD
 rw[Abk hn] at hv
 cases hv
 exact h2 (bS.mp ha C hC)
theorem AllM.sub{Es:List Str}(T:Aog K Cs Ds=true)(hs:∀ C∈Es,C∈Cs)(hD:D∈Ds)(hn:dF K bQ D=some (some (.ref Da)))(ha:Es.all (fun C=>isX C D)=true):AllM K Es Da:=fun C hC Ca hc=>by
 obtain ⟨v,hv,_,h2⟩:=(Yw T (hs C hC) hc).2 D hD
 rw[Abk hn] at hv
 cases hv
 exact h2 (bS.mp ha C hC)
end
section
variable {prog:bT}{x C:Addr}{ox:Obj}{od:Option Obj}{name:Str}
end
section
variable {Ds:List Str}
def vOf:aF->Option V
 | .ref a=>some (.ref a)
 | .type T=>some (.ty T)
 | _=>none
inductive IsxR(K:aE)(xs:List V)(H:Hp)(Q:VK):Prop
 | mk (a:_) (Ca:_) (dd:_) (fr:_) (vs:_) (c:_) (v:_) (b:_) (h0:xs=[.ref a,v]) (h1:vOf c=some v) (h2:H a=some (.ext (ExcIs a Ca dd fr))) (h3:DictIs H dd vs) (h4:ExcA K Ca) (h5:dN K (.ref Ca) c=some b) (h6:Q (.bl b) H):IsxR K xs H Q
inductive IsxtR(K:aE)(xs:List V)(H:Hp)(Q:VK):Prop
 | mk (a Ca:Addr) (dd:Option Addr) (fr:Bool) (vs:List (Str×V)) (tp:Addr) (ds:List Addr) (b:Bool) (h0:xs=[.ref a,.ref tp]) (h1:H tp=some (.tup (ds.map V.ref))) (h2:H a=some (.ext (ExcIs a Ca dd fr))) (h3:DictIs H dd vs) (h4:ExcA K Ca) (h5:PySem.W.kitAny K (.ref Ca) (ds.map bO)=some b) (h6:Q (.bl b) H):IsxtR K xs H Q
inductive Names(X:Cx):List Str->List Addr->List Expr->Prop where
 | nil:Names X [] [] []
 | cons {D:Str} {Da:Addr} {Dn:List Str} {ds:List Addr} {es:List Expr} {p2:Pos} (hns:dF X.K bQ D=some (some (.ref Da))) (hg2:Gl X D) (hm2:X.mg D=some (.ref Da)) (t:Names X Dn ds es)
   (hdb:(D == ("__debug__" : Str))=false:=by decide) (hs:aT (.Name D p2::es) X.env=(false,eval (.Name D p2) X.env)::aT es X.env:=by rfl):Names X (D::Dn) (Da::ds) (.Name D p2::es)
theorem Names.pa{Dn:List Str}{ds:List Addr}(h:Names X Dn ds es):PA X es (fun _ H Q=>Q (ds.map V.ref) H):=by
 induction h with
 | nil=>exact Aee
 | cons hns hg2 hm2 t hdb hs ih=>exact Te (Aao hg2 hm2 (v:=.ref _) rfl hdb) ih hs
theorem Names.len{Dn:List Str}{ds:List Addr}(h:Names X Dn ds es):ds.length=Dn.length:=by
 induction h with
 | nil=>rfl
 | cons _ _ _ _ _ _ ih=>simp[ih]
end
section
variable {e:Expr}{pos':Pos}{xe:XE}
end
end MR
namespace MR
open PySem PySem.Spec PyProof.Rows PySem.Calls L2
theorem Ye(x y:Str):(eP x y).length<=x.length+2:=by
 unfold eP
 split
 ·simp
 ·split
  ·simp
  ·have e1:=StrLaws.occ_length_le x y 0 x.length (x.length+1)
   rw[length_partsBetween];omega
variable {x:Str}
theorem Ahq{P:bT}{w:cC}{A:eD}{E:aF->aJ->Prop}{s:aJ}{Q:aF->aJ->Prop}{y:Str}{t u:Tok}(hy:(y.length == 0)=false)(hsz:x.length+2<=sizeLine)
  (h:∀ (l:List (Str×Tok)) (k:Nat),l.map (·.1)=eP x y->Q (.ref s.heap.objs.size) { s with heap:=s.heap.push { cls:=.type "list",data:=.seq (strValues l).toArray },toks:=k }) :
  wpAny (model P w) A (call (.builtin "str.split") [.str x t,.str y u]) Q E s:=by
 have hn:=Ye x y
 by_cases c1:(decide (x.length < y.length) || decide (jE x < jE y))=true
 ·have e:eP x y=[x]:=by unfold eP;rw[if_pos c1]
  exact jQ iE (lU _ _ _) jU (jK _ _) (meets_str_split_cannot_occur x y t u c1) (h [(x,t)] s.toks (by rw[e];rfl))
 have c1':(decide (x.length < y.length) || decide (jE x < jE y))=false:=by simpa using c1
 by_cases c2:(cI x y 0 x.length (x.length+1)).isEmpty=true
 ·have e:eP x y=[x]:=by unfold eP;rw[if_neg c1,if_pos c2]
  exact jQ iE (lU _ _ _) jU (jK _ _) (meets_str_split_not_found x y t u c1' hy c2) (h [(x,t)] s.toks (by rw[e];rfl))
 have c2':(cI x y 0 x.length (x.length+1)).isEmpty=false:=by simpa using c2
 have e:eP x y=lF.Str.partsBetween x (cI x y 0 x.length (x.length+1)) y.length:=by unfold eP;rw[if_neg c1,if_neg c2]
 rw[e] at hn
 refine jQ iE (lU _ _ _) jU (jK _ _) (meets_str_split_sep x y t u c1' hy c2' (by omega) (by omega)) ?_
 show wants Q E _ _
 rw[strsFrom_eq]
 exact h (numbered s.toks _) _ ((numbered_texts _ _).trans e.symm)
theorem R3:∀ (l:List (Str×Tok)),Vals ((l.map (·.1)).map V.str) (strValues l)
 | []=>.nil
 | p::r=>.cons ⟨p.2,rfl⟩ (R3 r)
variable {X:Cx}
section
def Am8:V->List V->Hp->VK->Prop:=fun x vs H Q=>∃ a b,x = .str a/\vs=[.str b]/\(b.length == 0)=false/\a.length+2<=sizeLine/\∀ l,H l=none->Q (.ref l) (upd H l (.lst ((eP a b).map V.str)))
theorem Anj:MtR X "str.split" Am8:=by
 intro pins s σ H x vs v us Q I rx rv h
 obtain ⟨a,b,rfl,rfl,hb,hz,q⟩:=h
 obtain ⟨t,rfl⟩:=rx
 obtain ⟨u,rfl,ru⟩:=rv.one
 obtain ⟨t',rfl⟩:=ru
 refine Ahq hb hz fun l k e=>?_
 have hlen:=Ye a b
 refine ⟨.ref s.heap.objs.size,_,I.laid (t':=k) (o:=.lst ((eP a b).map V.str)) (fun b o e=>aB _ e) (aZ _) ⟨by rw[aU];omega,strValues l,0,by rw[<- e];exact R3 l,aM _ rfl⟩,rfl,q _ (I.hok.fresh (aZ _))⟩
def Aft:V->List V->Hp->VK->Prop:=fun x vs H Q=>∃ a b,x = .str a/\vs=[.str b]/\Q (.bl (jY a b)) H
theorem W5:MtR X "str.startswith" Aft:=by
 intro pins s σ H x vs v us Q I rx rv h
 obtain ⟨a,b,rfl,rfl,q⟩:=h
 obtain ⟨t,rfl⟩:=rx
 obtain ⟨u,rfl,ru⟩:=rv.one
 obtain ⟨t',rfl⟩:=ru
 exact SC.startswith ⟨.bl (jY a b),H,I,rfl,q⟩
theorem Ahs:CallR X (.type "int") (fun xs H Q=>∃ a n,xs=[.str a]/\lY a=some n/\a.length<=640/\Q (.int n) H):=by
 intro pins s σ H xs us Q I r h
 obtain ⟨a,n,rfl,hn,hl,q⟩:=h
 obtain ⟨u,rfl,ru⟩:=r.one
 obtain ⟨t,rfl⟩:=ru
 exact PySem.W.KIN.call_text hn hl ⟨.int n,H,I.tok _,⟨_,rfl⟩,q⟩
end
def Jn:SM:=fun u us L=>match u,us with
 | .str a,[.str b]=>if (b.length == 0)=false/\a.length<=1000000 then some (.ref L.length,L++[.lst ((eP a b).map U.str)]) else none
 | _,_=>none
variable {K:aE}
theorem Tx{H:Hp}{α:List Addr}:∀ l:List Str,RepL K H α (l.map U.str) (l.map V.str)
 | []=>.nil
 | a::l=>.cons (by unfold RepU;rfl) (Tx l)
theorem Aj3:Wa K Am8 Jn:=by
 intro H α L u us x xs z L' Q A ru r e q
 unfold Jn at e
 split at e
 ·rename_i a b
  split at e
  ·rename_i hc
   cases e
   unfold RepU at ru
   subst ru
   obtain ⟨v,rfl,rv⟩:=r.one
   unfold RepU at rv
   subst rv
   refine ⟨a,b,rfl,rfl,hc.1,by unfold sizeLine;omega,fun l hl=>?_⟩
   obtain ⟨g2,A2,r2⟩:=A.lst (Tx (K:=K) (H:=H) (α:=α) (eP a b)) hl
   exact q _ _ _ g2 A2 r2
  ·cases e
 ·cases e
def semStarts:SM:=fun u us L=>match u,us with
 | .str a,[.str b]=>some (.bl (jY a b),L)
 | _,_=>none
theorem Vk:Wa K Aft semStarts:=by
 intro H α L u us x xs z L' Q A ru r e q
 unfold semStarts at e
 split at e
 ·cases e
  unfold RepU at ru
  subst ru
  obtain ⟨v,rfl,rv⟩:=r.one
  unfold RepU at rv
  subst rv
  exact ⟨_,_,rfl,rfl,q _ H α (.refl _ _) A rfl⟩
 ·cases e
def P7:SC:=fun us L=>match us with
 | [.str a]=>if a.length<=640 then (lY a).map fun n=>(.int n,L) else none
 | _=>none
theorem Amp:Ro K (fun xs H Q=>∃ a n,xs=[.str a]/\lY a=some n/\a.length<=640/\Q (.int n) H) P7:=by
 intro H α L us xs z L' Q A r e q
 unfold P7 at e
 split at e
 ·split at e
  ·rename_i hc
   obtain ⟨n,hn,e⟩:=aH.mp e
   cases e
   obtain ⟨x,rfl,rx⟩:=r.one
   unfold RepU at rx
   subst rx
   exact ⟨_,n,rfl,hn,hc,q _ H α (.refl _ _) A rfl⟩
  ·cases e
 ·cases e
variable {pos:Pos}
theorem Abf{a:Str}(hg:Gl X x)(hm:∃ t,X.mg x=some (.str a t))(hd:(x == ("__debug__" : Str))=false:=by decide):PEF X (.Name x pos) (fC (.str a)):=
 let ⟨t,h⟩:=hm
 Ai3 (Aao (v:=.str a) hg h ⟨t,rfl⟩ hd) fun _ _=>by unfold RepU;rfl
theorem Ts{i:Int}(hg:Gl X x)(hm:∃ t,X.mg x=some (.int i t))(hd:(x == ("__debug__" : Str))=false:=by decide):PEF X (.Name x pos) (fC (.int i)):=
 let ⟨t,h⟩:=hm
 Ai3 (Aao (v:=.int i) hg h ⟨t,rfl⟩ hd) fun _ _=>by unfold RepU;rfl
def Mn(n:Int):Bool:=decide (-100000000000000000000<=n)&&decide (n<=100000000000000000000)
theorem Af9{n:Int}(h:Mn n=true):n.natAbs.log2 < 1920:=by
 unfold Mn at h
 simp only[cJ,decide_eq_true_eq] at h
 have h1:n.natAbs<=100000000000000000000:=by omega
 by_cases h0:n.natAbs=0
 ·rw[h0];decide
 ·rw[Nat.log2_lt h0]
  refine Nat.lt_of_le_of_lt h1 ?_
  have:(100000000000000000000:Nat) < 2 ^ 100:=by decide
  exact aW this (Nat.pow_le_pow_right (by decide) (by decide))
def V4(n:Int):Str:=eU (toString n)
def A3c(t:TE):TE:=fun σ H Q=>t σ H fun v H1=>(∃ x,v = .str x/\x.length<=sizeLine/\Q (.str x) H1)\/∃ n,v = .int n/\Mn n=true/\Q (.str (V4 n)) H1
variable {es:List Expr}
section
theorem Avy{e:Expr}{t:TE}(h:PE X e t):PE X (.FormattedValue e (-1) none pos) (A3c t):=by
 intro pins s σ H Q I q
 refine FormattedValue_plain (thn (h pins s σ H _ I q) fun v s1 zz=>?_)
 obtain ⟨x,H1,I1,r1,q1⟩:=zz
 rcases q1 with ⟨a,rfl,hl,q⟩ | ⟨n,rfl,hn,q⟩
 ·obtain ⟨t',rfl⟩:=r1
  exact formatField_str (fun t'' tk=>⟨.str a,H1,I1.tok tk,⟨_,rfl⟩,q⟩) hl
 ·obtain ⟨t',rfl⟩:=r1
  exact formatField_int_small (Af9 hn) ⟨.str (V4 n),H1,I1.tok _,⟨_,rfl⟩,q⟩
def tJ:Str->List TE->L2.St->Hp->VK->Prop
 | out,[],_,H,Q=>out.length<=sizeLine/\Q (.str out) H
 | out,t::r,σ,H,Q=>t σ H fun v H1=>∃ x,v = .str x/\(out++x).length<=sizeLine/\tJ (out++x) r σ H1 Q
inductive PEs(X:Cx):List Expr->List TE->Prop
 | nil:PEs X [] []
 | cons {e:Expr} {t:TE} {es:List Expr} {ts:List TE} (h:PE X e t) (r:PEs X es ts):PEs X (e::es) (t::ts)
theorem Aij{ts:List TE}(h:PEs X es ts):∀ (pins:List (Addr×Obj)) (s:aJ) (σ:L2.St) (H:Hp) (Q:VK) (out:Str),Inv X pins σ H s ->
  tJ out ts σ H Q->wpAny (model X.prog X.w) X.A (joinParts out (evalEach es X.env)) (EP X pins σ Q) X.xe s:=by
 induction h with
 | nil=>
  intro pins s σ H Q out I q
  obtain ⟨hl,q⟩:=q
  exact joinParts_nil ⟨.str out,H,I.tok _,⟨_,rfl⟩,q⟩ hl
 | @cons e t es ts h r ih=>
  intro pins s σ H Q out I q
  show wpAny _ _ (joinParts out (eval e X.env::evalEach es X.env)) _ _ _
  refine joinParts_cons (thn (h pins s σ H _ I q) fun v s1 zz=>?_)
  obtain ⟨x,H1,I1,r1,y,ey,hl,q1⟩:=zz
  subst ey
  obtain ⟨t',rfl⟩:=r1
  exact ⟨hl,ih pins s1 σ H1 Q (out++y) I1 q1⟩
theorem Ajn{v1 v2:Expr}{ts:List TE}(h:PEs X (v1::v2::es) ts):PE X (.JoinedStr (v1::v2::es) pos) (tJ kD ts):=fun pins s σ H Q I q=>
 JoinedStr_many (Aij h pins s σ H Q kD I q)
end
def Ea(f:FE):FE:=fun δ L=>(f δ L).bind fun p=>match p.1 with
 | .str x=>if F0 x.length=true then some (.str x,p.2) else none
 | .int n=>if Mn n=true then some (.str (V4 n),p.2) else none
 | _=>none
theorem Fj{e:Expr}{f:FE}(h:PEF X e f):PEF X (.FormattedValue e (-1) none pos) (Ea f):=by
 refine PE.imp (Avy h) ?_
 rintro σ H Q ⟨α,δ,L,A,S,z,L3,e,q⟩
 obtain ⟨⟨u,L1⟩,e1,e⟩:=aA.mp e
 refine ⟨α,δ,L,A,S,u,L1,e1,fun x H1 α1 g1 A1 r1=>?_⟩
 simp only at e
 split at e
 ·split at e
  ·rename_i hc
   cases e
   unfold RepU at r1
   subst r1
   exact .inl ⟨_,rfl,Ed hc,q _ _ _ g1 A1 (by unfold RepU;rfl)⟩
  ·cases e
 ·split at e
  ·rename_i hc
   cases e
   unfold RepU at r1
   subst r1
   exact .inr ⟨_,rfl,hc,q _ _ _ g1 A1 (by unfold RepU;rfl)⟩
  ·cases e
 ·cases e
def goJ:Str->List FE->UE->UH->Option (U×UH)
 | out,[],_,L=>some (.str out,L)
 | out,f::r,δ,L=>(f δ L).bind fun p=>match p.1 with
  | .str x=>if F0 (out++x).length=true then goJ (out++x) r δ p.2 else none
  | _=>none
def Eb(fs:List FE):FE:=fun δ L=>goJ kD fs δ L
inductive PFs(X:Cx):List Expr->List FE->Prop
 | nil:PFs X [] []
 | cons {e:Expr} {f:FE} {es:List Expr} {fs:List FE} (h:PEF X e f) (r:PFs X es fs):PFs X (e::es) (f::fs)
theorem PFs.pes{fs:List FE}(h:PFs X es fs):PEs X es (fs.map (lE X.K)):=by
 induction h with
 | nil=>exact .nil
 | cons h r ih=>exact .cons h ih
theorem Aj8:∀ (fs:List FE) (out:Str) (σ:L2.St) (H:Hp) (Q:VK) (α:List Addr) (δ:UE) (L:UH) (z:U) (L3:UH),Abs K H α L->RepS K H α δ σ->goJ out fs δ L=some (z,L3)->out.length<=sizeLine ->
  (∀ v H' α',Gr H α H' α'->Abs K H' α' L3->RepU K H' α' z v->Q v H')->tJ out (fs.map (lE K)) σ H Q
 | [],out,σ,H,Q,α,δ,L,z,L3,A,S,e,hl,q=>by
  cases e
  exact ⟨hl,q _ H α (.refl _ _) A (by unfold RepU;rfl)⟩
 | f::r,out,σ,H,Q,α,δ,L,z,L3,A,S,e,hl,q=>by
  unfold goJ at e
  obtain ⟨⟨u,L1⟩,e1,e⟩:=aA.mp e
  refine ⟨α,δ,L,A,S,u,L1,e1,fun x H1 α1 g1 A1 r1=>?_⟩
  simp only at e
  split at e
  ·split at e
   ·rename_i x' hc
    unfold RepU at r1
    subst r1
    exact ⟨x',rfl,Ed hc,Aj8 r (out++x') σ H1 Q α1 δ L1 z L3 A1 (S.mono g1) e (Ed hc) fun v H' α' g A' r'=>q v H' α' (g1.trans g) A' r'⟩
   ·cases e
  ·cases e
theorem Kv{v1 v2:Expr}{fs:List FE}(h:PFs X (v1::v2::es) fs):PEF X (.JoinedStr (v1::v2::es) pos) (Eb fs):=by
 refine PE.imp (Ajn h.pes) ?_
 rintro σ H Q ⟨α,δ,L,A,S,z,L3,e,q⟩
 exact Aj8 fs kD σ H Q α δ L z L3 A S e (iT _) q
end MR
namespace MR
open PySem PySem.Spec PyProof.Rows L2
variable {X:Cx}
section
variable {prog:bT}{w:cC}{A:eD}{E:aF->aJ->Prop}{s:aJ}{K:aE}{x C:Addr}{name:Str}{v:aF}{vs:Array aF}
end
section
variable {o e value:Expr}{f:Str}{p pos pos':Pos}{to tv:TE}
end
section
variable {o e value:Expr}{f:Str}{p pos pos':Pos}{fo fv fe:FE}{Cs Ds:List Str}
inductive FldXR(K:aE)(f:Str)(Q:VK)(x:V)(H1:Hp):Prop
 | mk (a:_) (Ca:_) (dx:_) (fr:_) (vs:_) (od:_) (v:_) (h0:x = .ref a) (h1:H1 a=some (.ext (ExcIs a Ca (some dx) fr))) (h2:H1 dx=some (.frz od (.xd vs))) (h3:ExcA K Ca) (h4:cL K (.ref Ca) f=some none) (h5:vs.lookup f=some v) (h6:Q v H1):FldXR K f Q x H1
end
end MR
namespace MR
open PySem PySem.Spec PyProof.Rows PySem.Calls L2
variable {X:Cx}
section
def Afk:V->List V->Hp->VK->Prop:=fun x vs H Q=>∃ a b,x = .str a/\vs=[.str b]/\a.length<=sizeLine/\Q (.str (fQ a b)) H
theorem Ai4:MtR X "str.lstrip" Afk:=by
 intro pins s σ H x vs v us Q I rx rv h
 obtain ⟨a,b,rfl,rfl,hl,q⟩:=h
 obtain ⟨t,rfl⟩:=rx
 obtain ⟨u,rfl,ru⟩:=rv.one
 obtain ⟨t',rfl⟩:=ru
 exact SC.lstripChars (fun t' k=>⟨.str (fQ a b),H,I.tok k,⟨_,rfl⟩,q⟩) hl
end
def Iw:SM:=fun u us L=>match u,us with
 | .str a,[.str b]=>if a.length<=1000000 then some (.str (fQ a b),L) else none
 | _,_=>none
theorem Aeo{K:aE}:Wa K Afk Iw:=by
 intro H α L u us x xs z L' Q A ru r e q
 unfold Iw at e
 split at e
 ·split at e
  ·rename_i hc
   cases e
   unfold RepU at ru
   subst ru
   obtain ⟨v,rfl,rv⟩:=r.one
   unfold RepU at rv
   subst rv
   exact ⟨_,_,rfl,rfl,by unfold sizeLine;omega,q _ H α (.refl _ _) A (by unfold RepU;rfl)⟩
  ·cases e
 ·cases e
section
def rClear:V->List V->Hp->VK->Prop:=fun x vs H Q=>∃ (l:Addr) (xs:List V),x = .ref l/\vs=[]/\H l=some (.lst xs)/\Q .non (upd H l (.lst []))
theorem Xg:MtM X "list.clear" rClear:=by
 intro pins s σ H x vs v us Q I rx rv h
 obtain ⟨l,xs,rfl,rfl,hH,q⟩:=h
 cases rx
 have hus:=rv.zero
 subst hus
 obtain ⟨z,its,n,r,hl,e⟩:=I.lstM hH
 refine jQ F.slot_list_clear ⟨_,e,rfl⟩ F.entry_list_clear (F.args_list_clear_1 _) (AutoSeq1.list_clear_list_0 l its.toArray n (by rw[bC];omega)) ⟨e,?_⟩
 exact ⟨.non,_,I.lset (its':=[]) hH e rfl .nil (by simp),rfl,q⟩
theorem Pt{v:Expr}{f:FE}{pos:Pos}(h:PEF X v f):PEF X (.JoinedStr [v] pos) f:=h
end
def Mp:SM:=fun u us L=>match u,us with
 | .ref n,[]=>(E8 L n).map fun _=>(.non,L.set n (.lst []))
 | _,_=>none
theorem Yp{K:aE}:Wa K rClear Mp:=by
 intro H α L u us x xs z L' Q A ru r e q
 unfold Mp at e
 split at e
 ·obtain ⟨l,hl,e⟩:=aH.mp e
  cases e
  unfold RepL at r
  subst r
  obtain ⟨a,ys,rfl,ea,h,r2⟩:=P9 A hl ru
  obtain ⟨g,A'⟩:=A.setL hl ea h (ws:=[]) (ys:=[]) .nil
  exact ⟨a,ys,rfl,rfl,h,q _ _ _ g A' (by unfold RepU;rfl)⟩
 ·cases e
end MR
namespace MR
open PySem PySem.Spec PyProof.Rows L2
theorem Aa7{β:Type}:∀ l:List β,(cK l.length).filterMap (l[·]?)=l
 | []=>rfl
 | a::l=>by
  rw[aL,nP,fA]
  simp only[aN,jP]
  congr 1
  refine Eq.trans (Uw fun k _=>?_) (Aa7 l)
  simp
theorem Aom{β:Type}(l:List β):((cK l.length).map fun (k:Nat)=>((0:Int)+1 * (k:Int)).toNat).filterMap (l[·]?)=l:=by
 have:((cK l.length).map fun (k:Nat)=>((0:Int)+1 * (k:Int)).toNat)=cK l.length:=by
  conv=>rhs;rw[<- tM (cK l.length)]
  refine gZ fun k _=>?_
  simp
 rw[this,Aa7]
theorem Ww(its:List aF):slicePick its.toArray none none (some 1)=its.toArray:=by
 unfold slicePick
 have e:sliceBounds none none (some 1) its.toArray.size=(0,(its.length:Int),1):=by simp[sliceBounds]
 rw[e]
 have e2:sliceRange 0 (its.length:Int) 1=(cK its.length).map fun (k:Nat)=>((0:Int)+1 * (k:Int)).toNat:=by
  unfold sliceRange
  have:(if (1:Int) > 0 then (if (0:Int) < its.length then ((its.length:Int) - 0+1 - 1) / 1 else 0) else (if (0:Int) > its.length then (0 - (its.length:Int) - 1 - 1) / (-1) else 0)).toNat=its.length:=by
   rw[if_pos (by decide)]
   split
   ·simp
   ·simp;omega
  simp only[this]
 simp only
 rw[e2]
 have:=Aom its
 have h2:(sI (fun x=>its.toArray[x]?) (nB (fun (k:Nat)=>((0:Int)+1 * (k:Int)).toNat) (cK its.length)))=its:=by
  conv=>rhs;rw[<- this]
  simp
 rw[h2]
section
variable {X:Cx}{e st:Expr}{fa fs:FE}{p2 pos:Pos}
def Acg(fo fs:FE):FE:=fun δ L=>(fo δ L).bind fun p=>match p.1 with
 | .ref n=>(fs δ p.2).bind fun q=>match q.1 with
  | .int i=>(Aw q.2 n).bind fun l=>if i=1 then some (.ref q.2.length,q.2++[.lst l]) else if i = -1 then some (.ref q.2.length,q.2++[.lst l.reverse]) else none
  | _=>none
 | _=>none
theorem Apk(he:PEF X e fa)(hst:PEF X st fs):PEF X (.Subscript e (.Slice none none (some st) p2) pos) (Acg fa fs):=by
 rintro pins s σ H Q I ⟨α,δ,L,A,S,z,L3,ee,q⟩
 obtain ⟨⟨u,L1⟩,e1,ee⟩:=aA.mp ee
 refine sC (thn (he pins s σ H (fun x H1=>∃ α1,Gr H α H1 α1/\Abs X.K H1 α1 L1/\RepU X.K H1 α1 u x) I ⟨α,δ,L,A,S,u,L1,e1,fun x H1 α1 g1 A1 r1=>⟨α1,g1,A1,r1⟩⟩) fun v s1 ⟨x,H1,I1,r1,α1,g1,A1,ru⟩=>?_)
 cases u with
 | ref n=>
  obtain ⟨⟨w,M2⟩,e2,ee⟩:=aA.mp ee
  simp only at ee
  cases w with
  | int i=>
   obtain ⟨l,hl,ef⟩:=aA.mp ee
   clear ee
   obtain ⟨a',ea',rfl⟩:=ru.ref_of A1
   cases r1
   have ps:POF X (some st) (Cw fs):=Dl hst
   refine wpAny_Slice ?_
   rw[pL]
   refine aO (aO ?_)
   refine thn (ps pins s1 σ H1 (fun o H'=>o=some i/\∃ α2,Gr H1 α1 H' α2/\Abs X.K H' α2 M2) I1 ⟨α1,δ,L1,A1,S.mono g1,some i,M2,by rw[fPart_eq,e2];rfl,fun H2 α2 g2 A2=>⟨rfl,α2,g2,A2⟩⟩) fun vs s3 ⟨o,H3,I3,pu,ho,α3,g3,A3⟩=>?_
   subst ho
   have I4:L2.Inv X pins σ H3 { s3 with heap:=s3.heap.push { cls:=.type "slice",data:=.fields #[.none,.none,vs] } }:=I3.kept (t':=s3.toks) fun b ob q=>aB _ q
   obtain ⟨a3,xs3,ea3,sq3,r3⟩:=Hq A3 hl
   have:a3=a':=by
    obtain ⟨ys,hy⟩:=g3.1
    rw[hy,bA (aK.mp ea').1,ea'] at ea3
    exact (bN ea3).symm
   subst this
   obtain ⟨its,rv,ht,hz⟩:=I4.list sq3
   have hlen:=rv.length
   show wpAny (model X.prog X.w) X.A (subscriptTail e (.Slice none none _ p2) (.ref _) (.ref s3.heap.objs.size)) (EP X pins σ Q) X.xe { s3 with heap:=s3.heap.push { cls:=.type "slice",data:=.fields #[.none,.none,vs] } }
   refine tail_any (ops:=[.ref _,.ref s3.heap.objs.size]) ht.isList.typeIs mH.lookup ?_ (by with_unfolding_all rfl)
   split at ef
   ·rename_i hi
    subst hi
    cases ef
    refine jG ht.isList (lR ..) .none .none pu (by simp) ?_ (by rw[bC] <;> omega)
    rw[Ww]
    obtain ⟨g4,A4,r4⟩:=A3.lst r3 (I4.hok.fresh (aZ _))
    refine ⟨.ref _,_,I4.laid (t':=s3.toks) (o:=.lst xs3) (fun b ob q=>aB _ q) (aZ _) ?_,rfl,q _ _ _ (g1.trans (g3.trans g4)) A4 r4⟩
    exact ⟨hz,_,0,rv,aM _ rfl⟩
   ·split at ef
    ·rename_i hi
     subst hi
     cases ef
     refine jG ht.isList (lR ..) .none .none pu (by simp) ?_ (by rw[bC] <;> omega)
     rw[Tq]
     obtain ⟨g4,A4,r4⟩:=A3.lst r3.rev (I4.hok.fresh (aZ _))
     refine ⟨.ref _,_,I4.laid (t':=s3.toks) (o:=.lst xs3.reverse) (fun b ob q=>aB _ q) (aZ _) ?_,rfl,q _ _ _ (g1.trans (g3.trans g4)) A4 r4⟩
     exact ⟨by rw[jD];exact hz,_,0,Vals.rev rv,aM _ rfl⟩
    ·cases ef
  | _=>cases ee
 | _=>cases ee
end
end MR
namespace MR
open PySem PySem.Spec PyProof.Rows PySem.Calls L2
section
variable {X:Cx}
def Ar7:List V->Hp->VK->Prop:=fun xs H Q=>(∃ n,xs=[.int n]/\Mn n=true/\Q (.str (V4 n)) H)\/∃ x,xs=[.str x]/\Q (.str x) H
theorem Ahx:CallR X (.type "str") Ar7:=by
 intro pins s σ H xs us Q I r h
 rcases h with ⟨n,rfl,hn,q⟩ | ⟨x,rfl,q⟩
 ·obtain ⟨u,rfl,ru⟩:=r.one
  obtain ⟨t,rfl⟩:=ru
  exact P.str_of_int (Af9 hn) ⟨.str (V4 n),H,I.tok _,⟨_,rfl⟩,q⟩
 ·obtain ⟨u,rfl,ru⟩:=r.one
  obtain ⟨t,rfl⟩:=ru
  exact P.str_of_str ⟨.str x,H,I,⟨_,rfl⟩,q⟩
end
def Sy:SC:=fun us L=>match us with
 | [.int n]=>if Mn n=true then some (.str (V4 n),L) else none
 | [.str x]=>some (.str x,L)
 | _=>none
theorem Akb{K:aE}:Ro K Ar7 Sy:=by
 intro H α L us xs z L' Q A r e q
 unfold Sy at e
 split at e
 ·split at e
  ·rename_i hc
   cases e
   obtain ⟨x,rfl,rx⟩:=r.one
   unfold RepU at rx
   subst rx
   exact .inl ⟨_,rfl,hc,q _ H α (.refl _ _) A (by unfold RepU;rfl)⟩
  ·cases e
 ·cases e
  obtain ⟨x,rfl,rx⟩:=r.one
  unfold RepU at rx
  subst rx
  exact .inr ⟨_,rfl,q _ H α (.refl _ _) A (by unfold RepU;rfl)⟩
 ·cases e
end MR
namespace ZT
open PySem PySem.Spec PyProof.Rows PySem.W
open Sem (wp)
section
variable {prog:bT}{w:cC}{A:eD}{E:aF->aJ->Prop}{s:aJ}{T:String}{r d:Addr}{n:Nat}{P:Nat->aF->Prop}{OK:Heap->Prop}
theorem Ab3{Q:List aF->aJ->Prop}(K:KdlSrc prog w T r d n P OK)(hh:A.handled=none)(hok:OK s.heap)
  (hQ:∀ (h':Heap) (tk:Nat) (acc:Array aF),(∀ b o,s.heap.get? b=some o->h'.get? b=some o)->ItemsOf P acc n->Q acc.toList { s with heap:=h',toks:=tk }) (hn:n<=sizeLine):wpAny (model prog w) A (collect (.ref r)) Q E s:=by
 have hlt:=K.there _ hok
 unfold collect
 refine aD (wpAny_runValue (jN PySem.F.entry_proto_collect ?_))
 rw[gP PySem.F.plain_proto_collect _]
 show wpAny _ A.in1 (newList [] >>= fun l=>again (.builtin "list.__iadd__" ⟨[l,.ref r],[]⟩)) _ _ s
 refine aD (eG ?_)
 refine aO ⟨mS nD _,jN PySem.F.entry_list_iadd ?_⟩
 rw[gP nD _]
 have hS₁:(s.heap.push { cls:=.type "list",data:=.seq ([]:List aF).toArray }).get? s.heap.objs.size=some { cls:=.type "list",data:=.seq ([]:List aF).toArray }:=aM _ rfl
 show wpAny _ A.in1 (fW (.ref s.heap.objs.size) (.ref r) (.ref s.heap.objs.size)) _ _ _
 refine kdl_extend (R:=wants _ E) (s:={ s with heap:=s.heap.push { cls:=.type "list",data:=.seq ([]:List aF).toArray } }) K hh (K.keep _ _ hok fun b _ o e=>aB _ e) s.heap.objs.size (fE hlt.1) (fE hlt.2) _ _ hS₁ (fun h' tk acc' c' hk hS' hacc=>?_) hn
 show wpAny _ A (load s.heap.objs.size >>= _) _ _ _
 refine aD (wpAny_load hS' ?_)
 exact aO (hQ h' tk acc' (fun b o e=>hk b o (cA (aP e)) (aB _ e)) hacc)
theorem V7{Q₁:aF->aJ->Prop}(K:KdlSrc prog w T r d n P OK)(hh:A.handled=none)(hok:OK s.heap)
  (h:∀ (h':Heap) (tk:Nat) (acc:Array aF),(∀ b o,s.heap.get? b=some o->h'.get? b=some o)->ItemsOf P acc n->Q₁ (.ref h'.objs.size) { s with heap:=h'.push { cls:=.type "tuple",data:=.seq acc },toks:=tk }) (hsz:n<=sizeLine) :
  jV (model prog w) A (.call (.builtin "tuple.__new__") ⟨[.type "tuple",.ref r],[]⟩) (wants Q₁ E) s:=by
 refine codeAny_of_tree ?_
 show wpAny _ A.in1 (do checkBuiltinCall "tuple.__new__" ⟨[.type "tuple",.ref r],[]⟩;again (.builtin "tuple.__new__" ⟨[.type "tuple",.ref r],[]⟩)) _ _ s
 refine aD (wpAny_of_eq (PySem.F.newCall_tuple_1 _) (aO ⟨mS nE _,jN PySem.F.entry_tuple_new ?_⟩))
 rw[gP nE _]
 have hsub:=sub_tuple_self
 have hinit:=init_tuple_lookup
 have hmh:=madeHere_tuple
 have hTI:=K.type s hok
 have hnt:=K.notTuple
 wp_walk using qP hTI,Ab3 (A:=A.in1) (hn:=hsz) K hh hok
 intro h' tk acc hm hacc
 show wpAny _ _ (eI acc.toList.toArray >>= fun v=>ret v) _ _ _
 unfold eI
 refine aD (eG ?_ (by show acc.toList.toArray.size<=sizeLine;simp only[Array.toArray_toList];rw[hacc.1];exact hsz))
 refine aO ?_
 have e:acc.toList.toArray=acc:=by simp
 rw[e]
 exact h h' tk acc hm hacc
theorem Ue{Q:aF->aJ->Prop}(K:KdlSrc prog w T r d n P OK)(hh:A.handled=none)(hok:OK s.heap)
  (hQ:∀ (h':Heap) (tk:Nat) (acc:Array aF),(∀ b o,s.heap.get? b=some o->h'.get? b=some o)->ItemsOf P acc n->Q (.ref h'.objs.size) { s with heap:=h'.push { cls:=.type "tuple",data:=.seq acc },toks:=tk }) (hsz:n<=sizeLine) :
  wpAny (model prog w) A (call (.type "tuple") [.ref r]) Q E s:=by
 refine callType_codes (Q₁:=fun obj s₁=>s₁.TypeIs obj "tuple" /\ Q obj s₁) PySem.F.called_tuple (PySem.F.typeCall_tuple_1 _) PySem.F.entry_object_init
  (V7 (hsz:=hsz) K hh hok fun h' tk acc hm hacc=>⟨⟨_,aM _ rfl,rfl⟩,hQ h' tk acc hm hacc⟩) fun obj s₁ h₁=>?_
 exact ⟨h₁.1,PySem.F.args_object_init_2 obj _,object_init_meets PySem.F.called_tuple.init.lookup PySem.F.called_tuple.made (by decide) prog w A.in1 _ s₁ ⟨h₁.1,rfl,h₁.2⟩⟩
end
end ZT
namespace MR
open PySem PySem.Spec PyProof.Rows PySem.Calls L2
theorem Ahj:∀ {kvs:List (Key×V)} {vs:List (Key×aF)},KV kvs vs->Vals (kvs.map (·.2)) (vs.map (·.2))
 | _,_,.nil=>.nil
 | _,_,.cons r t=>.cons r.2 (Ahj t)
theorem Ad4{vs:List (Key×aF)}{acc:Array aF}(h:ItemsOf (fun i v=>∃ k,vs[i]? = some (k,v)) acc vs.length):acc.toList=vs.map (·.2):=
 PySem.W.kdl_vals_eq acc.toList (by rw[dD];exact h.1) fun j v e=>h.2 j v (by rw[<- kA];exact e)
section
variable {X:Cx}{o:Expr}{apos cpos p pos:Pos}{td:TE}{fo:FE}
def Av2(td:TE):TE:=fun σ H Q=>td σ H fun x H1=>∃ a kvs,x = .ref a/\H1 a=some (.dK kvs)/\∀ l,H1 l=none->Q (.ref l) (upd H1 l (.tup (kvs.map (·.2))))
theorem Anz(hc:X.calm=true)(hgL:Gl X "tuple")(hmL:X.mg "tuple" = none)(hl:PE X o td)(m:M0 X o "values" apos cpos)
  (hs2:aT [.Call (.Attribute o "values" apos) [] [] cpos] X.env=[(false,eval (.Call (.Attribute o "values" apos) [] [] cpos) X.env)]:=by rfl):PE X (.Call (.Name "tuple" p) [.Call (.Attribute o "values" apos) [] [] cpos] [] pos) (Av2 td):=by
 intro pins s σ H Q I h
 refine iC (Lm I hgL hmL Abv ?_)
 refine dH ?_ hs2 rfl
 rw[hs2]
 refine iB ?_
 refine jX m.base m.few m.line hV gT mR (thn (hl pins s σ H _ I h) fun u s1 zz=>zz.elim fun x H1 I1 rx zq=>?_)
 obtain ⟨a,kvs,ex,ea,q⟩:=zq
 subst ex
 obtain rfl:u=bO a:=rx
 obtain ⟨t1,t2,_⟩:=Aen I1 (.inl ⟨kvs,.inl ea⟩)
 refine ⟨t1,t2,?_⟩
 rw[m.trees]
 obtain ⟨hd,ob,vs,ep,ho,D⟩:=Y5 I1 ea
 have da:=D.at_ _ _ ho
 refine eW rfl (kW ?_)
 refine nO gT t1 mD (lX _) (qU (Cu X.prog X.w) a hd) ⟨⟨vs,da.dictOf⟩,?_⟩
 refine iO ?_
 have I2:L2.Inv X pins σ H1 { s1 with heap:=s1.heap.push { cls:=.type "dict_values",data:=.fields #[.ref a] } }:=I1.kept (t':=s1.toks) fun b o e=>aB _ e
 have hz:kvs.length<=sizeLine:=(Agv I1.hok ea).1
 have hl:=KV.length D.rel
 refine ZT.Ue (PySem.W.kdl_values (knd:=Cu X.prog X.w) (kvs:=vs) (ep:=ep)) (I2.ok.hd hc) ⟨⟨_,aM _ rfl,rfl,rfl⟩,da.push _⟩ (fun h' tk acc hk hacc=>?_) (by rw[<- hl];exact hz)
 have hacc':=Ad4 hacc
 have hacc2:acc=(vs.map (·.2)).toArray:=by rw[<- hacc']
 have I3:L2.Inv X pins σ H1 { s1 with heap:=h',toks:=tk }:=I2.kept (t':=tk) hk
 have I4:L2.Inv X pins σ (upd H1 h'.objs.size (.tup (kvs.map (·.2)))) { s1 with heap:=h'.push { cls:=.type "tuple",data:=.seq acc },toks:=tk }:=
  I3.laid (t':=tk) (fun b o e=>aB _ e) (aZ _) (show ObjOk X.prog X.w _ _ _ (.tup (kvs.map (·.2))) from ⟨by rw[aU];exact hz,vs.map (·.2),Ahj D.rel,by rw[hacc2];exact TupN.new _ _⟩)
 exact ⟨.ref h'.objs.size,_,I4,rfl,q _ (I3.hok.fresh (aZ _))⟩
def Adr(f:FE):FE:=fun δ L=>(f δ L).bind fun p=>match p.1 with
 | .ref n=>(Ik p.2 n).map fun kvs=>(.tup (Xr kvs),p.2)
 | _=>none
theorem Amw(hc:X.calm=true)(hgL:Gl X "tuple")(hmL:X.mg "tuple" = none)(hl:PEF X o fo)(m:M0 X o "values" apos cpos)
  (hs2:aT [.Call (.Attribute o "values" apos) [] [] cpos] X.env=[(false,eval (.Call (.Attribute o "values" apos) [] [] cpos) X.env)]:=by rfl):PEF X (.Call (.Name "tuple" p) [.Call (.Attribute o "values" apos) [] [] cpos] [] pos) (Adr fo):=by
 refine PE.imp (Anz hc hgL hmL hl m hs2) ?_
 rintro σ H Q ⟨α,δ,L,A,S,u,L3,e,q⟩
 obtain ⟨⟨u,L1⟩,e1,e⟩:=aA.mp e
 simp only at e
 split at e
 ·obtain ⟨kvs,hd,e⟩:=aH.mp e
  cases e
  refine ⟨α,δ,L,A,S,_,_,e1,fun x H1 α1 g1 A1 r1=>?_⟩
  obtain ⟨a,vs,rfl,ea,ha,rk⟩:=Lj A1 hd r1
  refine ⟨a,vs,rfl,ha,fun l hl=>?_⟩
  obtain ⟨g',A',r'⟩:=A1.tup rk.2 hl
  exact q _ _ _ (g1.trans g') A' r'
 ·cases e
end
end MR
namespace MR
open PySem PySem.Spec PyProof.Rows L2
section
variable {X:Cx}{o i e f:Expr}{pos apos cpos:Pos}{fo fi fe fx:FE}
end
end MR
namespace MR
open PySem PySem.Spec PyProof.Rows PySem.Calls L2
variable {X:Cx}
def Au4(P:mO)(e:Str×Nat×Addr):pD:=⟨sK P e.1,.str e.1 e.2.1,.ref e.2.2⟩
def Aua(P:mO)(l:List (Str×Nat×Addr))(ep:Nat):Obj:=⟨.type "dict",none,.dict (l.map (Au4 P)).toArray ep,#[]⟩
def Auu(ws:List (Str×Nat)):Obj:=⟨.type "tuple",none,.seq (ws.map fun w=>kB w.1 w.2).toArray 0,#[]⟩
inductive Fm(K:aE):List (Str×Nat×Addr)->List (Str×List Str)->Prop
 | nil:Fm K [] []
 | cons {x:Str} {n:Nat} {r:Addr} {ws:List (Str×Nat)} {l:List (Str×Nat×Addr)} {t:List (Str×List Str)} (h:K.lookup r=some (Auu ws)) (hl:ws.length<=1000) (k:Fm K l t):Fm K ((x,n,r)::l) ((x,ws.map (·.1))::t)
inductive FormsAt(K:aE)(w:cC)(mg:Str->Option aF)(x:Str)(tbl:List (Str×List Str)):Prop
 | mk (a:Addr) (l:List (Str×Nat×Addr)) (ep:Nat) (hm:mg x=some (.ref a)) (hK:K.lookup a=some (Aua w.params l ep)) (hs:(a == sysModules)=false) (hn:(tbl.map (·.1)).Nodup) (hf:Fm K l tbl):FormsAt K w mg x tbl
variable {l:List (Str×Nat×Addr)}
theorem Fm.keys{K:aE}{t:List (Str×List Str)}(h:Fm K l t):l.map (·.1)=t.map (·.1):=by
 induction h with
 | nil=>rfl
 | cons _ _ _ ih=>simp[ih]
theorem Fm.find{K:aE}{t:List (Str×List Str)}(h:Fm K l t)(s:Str) :
  (t.lookup s=none/\valueAt (l.map fun e=>((fT e.1:Key),bO e.2.2)) (.inr s)=none) \/
  ∃ (r:Addr) (ws:List (Str×Nat)),t.lookup s=some (ws.map (·.1))/\valueAt (l.map fun e=>((fT e.1:Key),bO e.2.2)) (.inr s)=some (.ref r)/\K.lookup r=some (Auu ws)/\ws.length<=1000:=by
 induction h with
 | nil=>exact .inl ⟨rfl,rfl⟩
 | @cons x n r ws l t h hl _ ih=>
  by_cases e:x=s
  ·subst e
   refine .inr ⟨r,ws,by simp[eM],?_,h,hl⟩
   simp[valueAt]
  ·have e1:(s == x)=false:=beq_false_of_ne (gX e)
   have e2:¬ ((fT x:Key) = .inr s):=fun q=>e (by injection q)
   have hv:valueAt (((x,n,r)::l).map fun e=>((fT e.1:Key),bO e.2.2)) (.inr s)=valueAt (l.map fun e=>((fT e.1:Key),bO e.2.2)) (.inr s):=by
    simp[valueAt,e2]
   rw[hv]
   simp only[eM,e1]
   exact ih
theorem Ahf{P:bT}{w:cC}{h:Heap}{a:Addr}{ep:Nat}(ho:h.get? a=some (Aua w.params l ep))(hn:(l.map (·.1)).Nodup):h.DictOf (Cu P w) a (l.map fun e=>((fT e.1:Key),bO e.2.2)):=by
 refine ⟨_,_,ep,ho,⟨rfl,rfl,rfl⟩,rfl,?_,?_,?_⟩
 ·intro e he
  have:e∈l.map (Au4 w.params):=by simpa using he
  obtain ⟨q,_,rfl⟩:=dI.mp this
  exact ⟨.inr q.1,Mq P w q.1 q.2.1,rfl⟩
 ·show Pairs (Cu P w) (l.map (Au4 w.params)) _
  clear ho hn
  induction l with
  | nil=>exact .nil
  | cons q l ih=>exact .cons (Mq P w q.1 q.2.1) rfl ih
 ·rw[cY]
  have:(l.map (·.1)).map (fT:Str->Key)=l.map ((fun x=>x.fst)∘fun e=>((fT e.1:Key),bO e.2.2)):=by rw[cY];rfl
  rw[<- this]
  exact mI _ (fun a b h q=>h (by injection q)) hn
section
variable {e:Expr}{x:Str}{p apos cpos:Pos}{ty:TE}{tbl:List (Str×List Str)}
def Av8(K:aE)(tbl:List (Str×List Str))(ty:TE):TE:=fun σ H Q=>ty σ H fun y H2=>∃ s,y = .str s/\(tbl.lookup s=none->Q .non H2)/\∀ (r:Addr) (ws:List (Str×Nat)),tbl.lookup s=some (ws.map (·.1))->K.lookup r=some (Auu ws)->ws.length<=1000->Q (.ref r) H2
theorem Akw(F:FormsAt X.K X.w X.mg x tbl)(hg:Gl X x)(he:PE X e ty)(m:M1 X (.Name x p) "get" apos e cpos)(hd:(x == ("__debug__" : Str))=false:=by decide):PE X (.Call (.Attribute (.Name x p) "get" apos) [e] [] cpos) (Av8 X.K tbl ty):=by
 intro pins s σ H Q I h
 obtain ⟨a,l,ep,hm,hK,hs,hn,hf⟩:=F
 rw[<- hf.keys] at hn
 have hat:∀ {s1:aJ} {H1:Hp},Inv X pins σ H1 s1->s1.heap.get? a=some (Aua X.w.params l ep):=fun I1=>I1.kIn _ _ hK
 refine jX m.base m.few m.line hV oM PySem.F.type_dict_get (Tp I hg hm ?_ hd)
 have dd:=Ahf (P:=X.prog) (hat I) hn
 refine ⟨dd.typeIs,fun b q=>?_,?_⟩
 ·cases q
  exact ⟨_,hat I,rfl⟩
 rw[m.trees]
 refine eW rfl (kL (iB (thn (he pins s σ H _ I h) fun iv s2 zz=>zz.elim fun y H2 I2 ry zq=>iO ?_)))
 obtain ⟨sx,rfl,q1,q2⟩:=zq
 have d2:=Ahf (P:=X.prog) (hat I2) hn
 refine nO oM d2.typeIs PySem.F.entry_dict_get (PySem.F.args_dict_get_2 _ _) (meets_dict_get (Cu X.prog X.w) a (Yo (k:=.inr sx) ry) hs) ⟨_,d2.mapOf,?_⟩
 rcases hf.find sx with ⟨f1,f2⟩ | ⟨r,ws,f1,f2,f3,f4⟩
 ·exact ⟨.non,H2,I2.tok _,by rw[f2];rfl,q1 f1⟩
 ·exact ⟨.ref r,H2,I2.tok _,by rw[f2];rfl,q2 r ws f1 f3 f4⟩
end
def Aak(tbl:List (Str×List Str))(fe:FE):FE:=fun δ L=>(fe δ L).bind fun q=>match q.1 with
 | .str s=>some (match tbl.lookup s with | some ws=>.tup (ws.map U.str) | none=>.non,q.2)
 | _=>none
theorem W3:∀ ws:List (Str×Nat),Vals ((ws.map (·.1)).map V.str) (ws.map fun w=>kB w.1 w.2)
 | []=>.nil
 | w::ws=>.cons ⟨_,rfl⟩ (W3 ws)
theorem Am0{e:Expr}{x:Str}{p apos cpos:Pos}{fe:FE}{tbl:List (Str×List Str)}(F:FormsAt X.K X.w X.mg x tbl)(hg:Gl X x)(he:PEF X e fe)(m:M1 X (.Name x p) "get" apos e cpos)(hd:(x == ("__debug__" : Str))=false:=by decide):PEF X (.Call (.Attribute (.Name x p) "get" apos) [e] [] cpos) (Aak tbl fe):=by
 refine PE.imp (Akw F hg he m hd) ?_
 rintro σ H Q ⟨α,δ,L,A,S,z,L3,ee,q⟩
 obtain ⟨⟨u,L1⟩,e1,ee⟩:=aA.mp ee
 refine ⟨α,δ,L,A,S,u,L1,e1,fun y H1 α1 g1 A1 r1=>?_⟩
 simp only at ee
 split at ee
 ·rename_i s
  cases ee
  unfold RepU at r1
  subst r1
  refine ⟨s,rfl,fun h0=>?_,fun r ws h1 h2 h3=>?_⟩
  ·exact q _ _ _ g1 A1 (by rw[h0];unfold RepU;rfl)
  ·refine q _ _ _ g1 A1 ?_
   rw[h1]
   unfold RepU
   exact ⟨r,(ws.map (·.1)).map V.str,rfl,.inr ⟨_,_,0,h2,rfl,rfl,by simp;unfold sizeLine;omega,by simpa using W3 ws⟩,Tx _⟩
 ·cases ee
end MR
namespace ZT
open PySem PySem.Spec PyProof.Rows
open Sem (wp)
theorem Au7 (l1 l2 : Addr) (xs ys : Array aF) : Meets (lF.«zip.__new__» ⟨[.type "zip", .ref l1, .ref l2], []⟩) (fun _ R s => s.heap.IsList l1 xs /\ s.heap.IsTuple l2 ys /\
   R (.ok (.ret (.ref (zh4 "list_iterator" "tuple_iterator" s.heap l1 l2).objs.size))) { s with heap:=zh5 "list_iterator" "tuple_iterator" s.heap l1 l2 }):=
 .of_wp fun prog w A R s h=>by
  obtain ⟨hp,g,d,tk,os⟩:=s
  obtain ⟨t1,t2,h⟩:=h
  have hsub:=sub_zip
  have T1:tN (jT ⟨hp,g,d,tk,os⟩) l1 xs:=t1
  have T2:lH (jT ⟨hp.push { cls:=.type "list_iterator",data:=.fields #[.ref l1,.int 0 0] },g,d,tk,os⟩) l2 ys:=iR t2 _
  wp_walk using iL T1,gD T2
  exact ⟨_,rfl,h⟩
section
variable {prog:bT}{w:cC}{A:eD}{E:aF->aJ->Prop}{s:aJ}
theorem Aqw{l1 l2:Addr}{xs ys:Array aF}{Q:aF->aJ->Prop}(t1:s.heap.IsList l1 xs)(t2:s.heap.IsTuple l2 ys)
  (h:∀ h',fY h' (s.heap.objs.size+4) (s.heap.objs.size+2) (s.heap.objs.size+3) .none->fV h' (s.heap.objs.size+2) (.ref s.heap.objs.size) (.ref (s.heap.objs.size+1)) ->
   fV h' (s.heap.objs.size+3) .none .none->ItK true h' s.heap.objs.size l1 0->ItK false h' (s.heap.objs.size+1) l2 0->(∀ c o,s.heap.get? c=some o->h'.get? c=some o)->Q (.ref (s.heap.objs.size+4)) { s with heap:=h' }) :
  wpAny (model prog w) A (call (.type "zip") [.ref l1,.ref l2]) Q E s:=by
 refine qR qS (by decide) (rE _ _) (rP _ _) (fun obj=>oY obj _ _) oB (Au7 l1 l2 xs ys) ⟨t1,t2,?_⟩
 have z1:(zh1 "list_iterator" s.heap l1).objs.size=s.heap.objs.size+1:=cO ..
 have z2:(zh2 "list_iterator" "tuple_iterator" s.heap l1 l2).objs.size=s.heap.objs.size+2:=by rw[cO,z1]
 have z3:(zh3 "list_iterator" "tuple_iterator" s.heap l1 l2).objs.size=s.heap.objs.size+3:=by rw[cO,z2]
 have z4:(zh4 "list_iterator" "tuple_iterator" s.heap l1 l2).objs.size=s.heap.objs.size+4:=by rw[cO,z3]
 have q5:(zh5 "list_iterator" "tuple_iterator" s.heap l1 l2).get? (zh4 "list_iterator" "tuple_iterator" s.heap l1 l2).objs.size=some _:=aM _ rfl
 have q4:(zh5 "list_iterator" "tuple_iterator" s.heap l1 l2).get? (zh3 "list_iterator" "tuple_iterator" s.heap l1 l2).objs.size=some _:=aB _ (aM _ rfl)
 have q3:(zh5 "list_iterator" "tuple_iterator" s.heap l1 l2).get? (zh2 "list_iterator" "tuple_iterator" s.heap l1 l2).objs.size=some _:=aB _ (aB _ (aM _ rfl))
 have q2:(zh5 "list_iterator" "tuple_iterator" s.heap l1 l2).get? (zh1 "list_iterator" s.heap l1).objs.size=some _:=aB _ (aB _ (aB _ (aM _ rfl)))
 have q1:(zh5 "list_iterator" "tuple_iterator" s.heap l1 l2).get? s.heap.objs.size=some _:=aB _ (aB _ (aB _ (aB _ (aM _ rfl))))
 show _/\_
 rw[z2,z3,z4] at q5;rw[z1,z2] at q3;rw[z3] at q4
 rw[z1] at q2;rw[z4]
 exact ⟨⟨_,q5,rfl⟩,h _ q5 q3 q4 ⟨_,q1,rfl,rfl⟩ ⟨_,q2,rfl,rfl⟩ fun c o q=>aB _ (aB _ (aB _ (aB _ (aB _ q))))⟩
end
end ZT
namespace MR
open PySem PySem.Spec PyProof.Rows L2
section
variable {X:Cx}{elts:List Expr}{x1:Nat}{tpos:Pos}
def A0e(K:aE)(ta:TA):TI:=fun σ H R=>ta σ H fun vs H1=>∃ a b xs ys,vs=[.ref a,.ref b]/\SqL K H1 a xs/\SqT K H1 b ys/\R (Amz true false K a b) H1
theorem Are{a b:Expr}{ta:TA}{p pos:Pos}(hg:Gl X "zip")(hm:X.mg "zip" = none)(ha:PA X [a,b] ta)(hs:aT [a,b] X.env=(false,eval a X.env)::aT [b] X.env:=by rfl)(hpl:(backTo pos (aT [b] X.env)).any (·.1)=false:=by rfl):PI X (.Tuple elts x1 tpos) (.Call (.Name "zip" p) [a,b] [] pos) (A0e X.K ta):=by
 intro pins s σ H R I h
 refine Call_ (Lm I hg hm Vw (dH (thn (ha pos pins s σ H _ I h) fun us s1 ⟨vs,H1,I1,r1,q1⟩=>?_) hs hpl))
 obtain ⟨l1,l2,xs,ys,rfl,sq1,sq2,q⟩:=q1
 obtain ⟨u,u',rfl,ru,ru'⟩:=Xc r1
 cases ru;cases ru'
 obtain ⟨its1,hv1,pl1,hz1⟩:=I1.list sq1
 obtain ⟨its2,hv2,pl2,hz2⟩:=I1.tuple sq2
 have lt1:l1 < s1.heap.objs.size:=by obtain ⟨o,_,e,_⟩:=pl1;exact aP e
 have lt2:l2 < s1.heap.objs.size:=by obtain ⟨o,e,_⟩:=pl2;exact aP e
 refine ZT.Aqw pl1.isList pl2 fun h' o1 o2 o3 o4 o5 o7=>?_
 have I2:L2.Inv X pins σ H1 { s1 with heap:=h' }:=I1.kept (t':=s1.toks) o7
 refine kF o1 ⟨_,_,_,_,H1,rfl,I2,X8 (b1:=true) (b2:=false) l1 l2 _ _ _ _ _ (Yb _ _ _ lt1 lt2),⟨o1,o2,⟨_,_,o3⟩,o4,o5⟩,fun b hb=>?_,q⟩
 have hb':s1.heap.objs.size<=b:=by
  simp only[bL,cN,or_false] at hb
  rcases hb with rfl | rfl | rfl | rfl | rfl <;> first | exact rF _ _ | exact aZ _
 exact L2.Inv.fpOk I1 hb' (I1.hok.fresh hb')
theorem Ale{K:aE}{H:Hp}{α:List Addr}{n:Nat}{a b:Addr}{ws:List U}{ys:List V}(ea:α[n]? = some a)(sb:SqT K H b ys)(rb:RepL K H α ws ys):Qi K (Amz true false K a b) (.zipL n ws) H α:=by
 intro H2 α2 L2 g A2 k
 have ea2:=g.at ea
 have mv:∃ zs2,SqT K H2 b zs2/\RepL K H2 α2 ws zs2:=by
  have m:=(show RepU K H α (.tup ws) (.ref b) by unfold RepU;exact ⟨b,ys,rfl,sb,rb⟩).mono g
  unfold RepU at m
  obtain ⟨c',zs2,e,s2,r2⟩:=m
  cases e
  exact ⟨zs2,s2,r2⟩
 obtain ⟨ys2,sb2,rb2⟩:=mv
 refine ⟨fun u eu=>?_,fun eu=>?_⟩
 ·obtain ⟨us,hw,eu⟩:=aH.mp eu
  obtain ⟨xs2,sa2,ra2⟩:=Vh A2 ea2 hw
  cases h1:us[k]? with
  | none=>rw[h1] at eu;simp[Lz] at eu
  | some u1=>
   cases h2:ws[k]? with
   | none=>rw[h1,h2] at eu;simp[Lz] at eu
   | some u2=>
    rw[h1,h2] at eu
    simp[Lz] at eu
    subst eu
    obtain ⟨x,hx,rx⟩:=ra2.get h1
    obtain ⟨y,hy,ry⟩:=rb2.get h2
    refine ⟨⟨xs2,ys2,x,y,sa2,sb2,hx,hy⟩,?_⟩
    rintro z H3 ⟨p,v,v',hp,rfl,rfl,hy1,hy2⟩
    have e1:=hy1 xs2 sa2
    have e2:=hy2 ys2 sb2
    rw[hx] at e1;cases e1
    rw[hy] at e2;cases e2
    exact A2.tup (.cons rx (.cons ry .nil)) hp
 ·obtain ⟨us,hw,eu⟩:=aH.mp eu
  obtain ⟨xs2,sa2,ra2⟩:=Vh A2 ea2 hw
  refine ⟨xs2,ys2,sa2,sb2,?_⟩
  cases h1:us[k]? with
  | none=>left;rw[<- ra2.length];exact cH.mp h1
  | some u1=>
   cases h2:ws[k]? with
   | none=>right;rw[<- rb2.length];exact cH.mp h2
   | some u2=>rw[h1,h2] at eu;simp[Lz] at eu
def Ag6(g:FA):FI:=fun δ L=>(g δ L).bind fun p=>match p.1 with
 | [.tup us,.tup ws]=>some (.seq (Lc us ws),p.2)
 | [.ref n,.tup ws]=>(Aw p.2 n).map fun _=>(.zipL n ws,p.2)
 | _=>none
theorem Al4{a b:Expr}{g:FA}{p pos:Pos}(hg:Gl X "zip")(hm:X.mg "zip" = none)(ha:PAF X [a,b] g)(hs:aT [a,b] X.env=(false,eval a X.env)::aT [b] X.env:=by rfl)(hpl:(backTo pos (aT [b] X.env)).any (·.1)=false:=by rfl):PIF X (.Tuple elts x1 tpos) (.Call (.Name "zip" p) [a,b] [] pos) (Ag6 g):=by
 refine PI.imp (PI.or (Ahh hg hm ha hs hpl) (Are hg hm ha hs hpl)) ?_
 rintro σ H R ⟨α,δ,L,A,S,i,L3,e,q⟩
 obtain ⟨⟨us,L1⟩,e1,ee⟩:=aA.mp e
 simp only at ee
 split at ee
 ·cases ee
  refine .inl ⟨α,δ,L,A,S,_,_,e1,fun xs H1 α1 g1 A1 r1=>?_⟩
  obtain ⟨x,y,rfl,rx,ry⟩:=r1.two
  unfold RepU at rx ry
  obtain ⟨a',ys,rfl,sq,r2⟩:=rx
  obtain ⟨b',ys',rfl,sq',r2'⟩:=ry
  exact ⟨a',b',ys,ys',rfl,sq,sq',q _ H1 α1 g1 A1 (Abm sq sq' r2 r2')⟩
 ·obtain ⟨l,hl,e3⟩:=aH.mp ee
  cases e3
  refine .inr ⟨α,δ,L,A,S,_,_,e1,fun xs H1 α1 g1 A1 r1=>?_⟩
  obtain ⟨x,y,rfl,rx,ry⟩:=r1.two
  unfold RepU at ry
  obtain ⟨b',ys',rfl,sq',r2'⟩:=ry
  obtain ⟨a',ys,rfl,sq,r2⟩:=Lp A1 hl rx
  obtain ⟨a2,ea,ha2⟩:=rx.ref_of A1
  cases ha2
  exact ⟨a',b',ys,ys',rfl,sq,sq',q _ H1 α1 g1 A1 (Ale ea sq' r2')⟩
 ·cases ee
end
end MR
namespace MR
open PySem PyProof.Rows L2
section
variable {X:Cx}{k n q:Nat}{π:List Nat}{f:Addr}{fd:dW}{p:Str}{ps ks:List Str}{x:Str}{pp pos apos kpos:Pos}{kws:List iP}{F:FN}{g:FA}
end
section
variable {X:Cx}{k n q:Nat}{π:List Nat}{f Ca:Addr}{fd:dW}{p:Str}{ps ks:List Str}{C:Str}{pp pos:Pos}{kws:List iP}{F:FN}{g:FA}
end
end MR
namespace MR
open PySem PySem.Spec PyProof.Rows PySem.Calls L2
section
variable {X:Cx}
end
def Ae5:S2:=fun u w L=>match w with
 | .non=>some (.bl (!isSome u),L)
 | _=>none
theorem Ape{K:aE}:Dr K (fun x y H Q=>y = .non/\Q (.bl (decide (x = .non))) H) Ae5:=by
 intro H α L u w x y z L' Q A ru rw e q
 cases w with
 | non=>
  cases e
  unfold RepU at rw
  refine ⟨rw,?_⟩
  have:(decide (x=V.non)) = !isSome u:=by
   cases u with
   | non=>unfold RepU at ru;simp[ru,isSome]
   | bl b=>unfold RepU at ru;simp[ru,isSome]
   | int b=>unfold RepU at ru;simp[ru,isSome]
   | str b=>unfold RepU at ru;simp[ru,isSome]
   | tup b=>unfold RepU at ru;obtain ⟨_,_,rfl,_⟩:=ru;simp[isSome]
   | ref b=>unfold RepU at ru;obtain ⟨_,_,rfl⟩:=ru;simp[isSome]
  rw[this]
  exact q _ H α (.refl _ _) A (by unfold RepU;rfl)
 | _=>cases e
end MR
namespace ZT
open PySem PySem.Spec PyProof.Rows
open Sem (wp)
abbrev Dc(h:Heap)(T:Addr)(a b c:aF):Prop:=h.get? T=some { cls:=.type "tuple",data:=.seq #[a,b,c] }
structure Ap3(z TI TO j1 j2 j3 l1 l2 l3:Addr):Prop where
 TIz:TI≠z
 TOz:TO≠z
 j1z:j1≠z
 j2z:j2≠z
 j3z:j3≠z
 TITO:TI≠TO
 TIj1:TI≠j1
 TIj2:TI≠j2
 TIj3:TI≠j3
 TOj1:TO≠j1
 TOj2:TO≠j2
 TOj3:TO≠j3
 j12:j1≠j2
 j13:j1≠j3
 j23:j2≠j3
 l1z:l1≠z
 l2z:l2≠z
 l3z:l3≠z
 l2j1:l2≠j1
 l3j1:l3≠j1
 l3j2:l3≠j2
 l2TO:l2≠TO
 l3TO:l3≠TO
theorem ap3{n l1 l2 l3:Nat}(h1:l1 < n)(h2:l2 < n)(h3:l3 < n):Ap3 (n+5) (n+3) (n+4) n (n+1) (n+2) l1 l2 l3:=by
 constructor <;> (intro q;have q:_=(_:Nat):=q;omega)
section
variable {prog:bT}{w:cC}{A:eD}{E:aF->aJ->Prop}{s:aJ}
theorem Yu{T:Addr}{a b c x:aF}{k:Nat}{Q:Unit->aJ->Prop}(hT:Dc s.heap T a b c)
  (h:∀ h',h'.get? T=some { cls:=.type "tuple",data:=.seq ((#[a,b,c]:Array aF).setIfInBounds k x) }->gK T s.heap h'->Q () { s with heap:=h' }):wpAny (model prog w) A (updateSeq T (·.setIfInBounds k x)) Q E s:=by
 refine iI hT rfl (h _ ?_ (jC ..))
 rw[dQ _ hT rfl]
 simp[dG]
variable {z TI TO j1 j2 j3 l1 l2 l3:Addr}{k1 k2 k3:Nat}{xs ys vs:Array aF}{a b c:aF}
end
theorem Vr(a b c:aF):checkTypeCall "zip" ⟨[a,b,c],[]⟩=pure ():=by kernel_rfl
theorem Wr(a b c:aF):checkBuiltinCall "zip.__new__" ⟨[.type "zip",a,b,c],[]⟩=pure ():=by kernel_rfl
theorem O9(a b c d:aF):argsOk "object.__init__" ⟨[a,b,c,d],[]⟩:=by
 unfold argsOk;rw[signature?_of (id := "object.__init__") (n:=['_','_','t','i','n','i','_','_']) (o:=['t','c','e','j','b','o']) (by kernel_rfl) PySem.F.owner_object];kernel_rfl
section
variable {prog:bT}{w:cC}{A:eD}{E:aF->aJ->Prop}{s:aJ}
end
end ZT
namespace MR
open PySem PySem.Spec PyProof.Rows L2
section
variable {X:Cx}{elts:List Expr}{x1:Nat}{tpos:Pos}
theorem Az8{x y z:V}{us:List aF}(r:Vals [x,y,z] us):∃ u v w,us=[u,v,w]/\RelV x u/\RelV y v/\RelV z w:=by
 cases r with
 | cons r1 r2=>
  obtain ⟨v,w,rfl,a,b⟩:=Xc r2
  exact ⟨_,v,w,rfl,r1,a,b⟩
theorem RepL.three{K:aE}{H:Hp}{α:List Addr}{u w t:U}{xs:List V}(h:RepL K H α [u,w,t] xs):∃ x y z,xs=[x,y,z]/\RepU K H α u x/\RepU K H α w y/\RepU K H α t z:=by
 unfold RepL at h
 obtain ⟨x,r,e,h1,h2⟩:=h
 obtain ⟨y,z,e2,h3,h4⟩:=h2.two
 subst e2
 exact ⟨x,y,z,e,h1,h3,h4⟩
def Ahi(us ws ts:List U):List U:=(us.zip (ws.zip ts)).map fun p=>.tup [p.1,p.2.1,p.2.2]
end
end MR
namespace ZT
open PySem PySem.Spec PyProof.Rows
open Sem (wp)
abbrev Ka(h:Heap)(z TI TO T:Addr)(f:Bool):Prop:=
 h.get? z=some { cls:=.type "zip",dict:=none,data:=.fields #[rawInt T,.bool f,.bool false,.ref TI,.ref TO],slots:=#[] }
section
variable {prog:bT}{w:cC}{A:eD}{E:aF->aJ->Prop}{s:aJ}
theorem Acp{a:Addr}{o:Obj}{Q:Option Obj->aJ->Prop}(ho:s.heap.get? a=some o)(h:Q (some o) s):wpAny (model prog w) A (loadIfAlive a) Q E s:=fun Γ p _=>by
 unfold loadIfAlive
 rw[Sem.wp_loadIfAlive,ho]
 exact h
theorem Aga{z TI TO T:Addr}{f:Bool}{o:Obj}{Q:Bool->aJ->Prop}(hz:Ka s.heap z TI TO T f)(hT:s.heap.get? T=some o)
  (h:∀ h',Ka h' z TI TO T true->gK z s.heap h'->Q false { s with heap:=h' }):wpAny (model prog w) A (bI (.ref z)) Q E s:=by
 unfold bI
 refine aD (bZ hz rfl (x:=rawInt T) rfl ?_)
 show wpAny _ _ (loadIfAlive (Int.toNat (T:Int)) >>= _) _ _ _
 rw[fK]
 refine aD (Acp hT ?_)
 simp only[Option.isNone_some,cD,if_false]
 refine aD (bZ hz rfl (x:=.bool f) rfl ?_)
 cases f with
 | true=>
  exact aO (h _ hz ⟨rfl,fun _ _=>rfl⟩)
 | false=>
  exact aD (dB hz (by simp) fun h' z' s'=>aO (h h' z' s'))
variable {b1 b2:Bool}{z TI TO T j1 j2 l1 l2:Addr}{k1 k2:Nat}{xs ys:Array aF}{a b:aF}{f:Bool}{oT:Obj}
end
end ZT
namespace SO
open PySem PySem.W PyProof.Rows
def On{α:Type}(n:Nat)(lt:Nat->Nat->Bool)(P:α->Prop):KasT α->Prop
 | .ret a=>P a
 | .ask i j k=>i < n/\j < n/\On n lt P (k (lt i j))
variable {n:Nat}{lt:Nat->Nat->Bool}
theorem On.bind{α β:Type}{P:α->Prop}{Q:β->Prop}{f:α->KasT β}(hf:∀ a,P a->On n lt Q (f a)):∀ {t:KasT α},On n lt P t->On n lt Q (t.bind f)
 | .ret a,h=>hf a h
 | .ask i j k,h=>⟨h.1,h.2.1,On.bind hf h.2.2⟩
theorem On.imp{α:Type}{P Q:α->Prop}(hf:∀ a,P a->Q a):∀ {t:KasT α},On n lt P t->On n lt Q t
 | .ret a,h=>hf a h
 | .ask i j k,h=>⟨h.1,h.2.1,On.imp hf h.2.2⟩
theorem On.wp{α:Type}{P:α->Prop}{cmp:Nat->Nat->(Bool->aJ->Prop)->aJ->Prop}{s:aJ}{Q:α->aJ->Prop}(hc:∀ i j C,i < n->j < n->C (lt i j) s->cmp i j C s)(hq:∀ a,P a->Q a s):∀ {t:KasT α},On n lt P t->t.kasWp cmp Q s
 | .ret a,h=>hq a h
 | .ask i j k,h=>hc i j _ h.1 h.2.1 (On.wp hc hq h.2.2)
structure Wo(lt:Nat->Nat->Bool):Prop where
 asym:∀ i j,lt i j=true->lt j i=false
 tr:∀ i j k,lt j i=false->lt k j=false->lt k i=false
variable {i j m:Nat}{p:Array Nat}
section
def Le(lt:Nat->Nat->Bool)(i j:Nat):Prop:=lt j i=false
def Eqv(lt:Nat->Nat->Bool)(i j:Nat):Prop:=Le lt i j/\Le lt j i
theorem Wo.refl(W:Wo lt)(i:Nat):Le lt i i:=by
 unfold Le
 cases h:lt i i with
 | false=>rfl
 | true=>have:=W.asym i i h;rw[h] at this;cases this
theorem Wo.le(W:Wo lt)(h:lt i j=true):Le lt i j:=W.asym i j h
theorem Wo.trans(W:Wo lt){k:Nat}(h1:Le lt i j)(h2:Le lt j k):Le lt i k:=W.tr i j k h1 h2
def at0(p:Array Nat)(i:Nat):Nat:=p.getD i 0
theorem Al9{q:Array Nat}(h:p[i]? = q[j]?):at0 p i=at0 q j:=by
 unfold at0
 rw[iS,iS,h]
structure Pm(n:Nat)(p:Array Nat):Prop where
 size:p.size=n
 perm:p.toList.Perm (cK n)
theorem Pm.bd(h:Pm n p)(h0:0 < n)(i:Nat):at0 p i < n:=by
 unfold at0
 rw[iS]
 cases hi:p[i]? with
 | none=>exact h0
 | some x=>
  have:x∈p.toList:=by
   rw[<- kA] at hi
   exact dX hi
  exact eR.mp (h.perm.mem_iff.mp this)
def Up(lt:Nat->Nat->Bool)(p:Array Nat)(k:Nat):Prop:=∀ i j,i<=j->j < k->Le lt (at0 p i) (at0 p j)
def Dn(lt:Nat->Nat->Bool)(p:Array Nat)(k:Nat):Prop:=∀ i j,i<=j->j < k->Le lt (at0 p j) (at0 p i)
theorem Up.one(W:Wo lt)(p:Array Nat):Up lt p 1:=fun i j h1 h2=>by
 have:i=j:=by omega
 subst this;exact W.refl _
theorem Up.snoc(W:Wo lt)(h:Up lt p m)(hm:1<=m)(hl:Le lt (at0 p (m - 1)) (at0 p m)):Up lt p (m+1):=fun i j h1 h2=>by
 by_cases hj:j < m
 ·exact h i j h1 hj
 ·have hj:j=m:=by omega
  subst hj
  by_cases hi:i=j
  ·subst hi;exact W.refl _
  ·exact W.trans (h i (j - 1) (by omega) (by omega)) hl
theorem Dn.snoc(W:Wo lt)(h:Dn lt p m)(hm:1<=m)(hl:Le lt (at0 p m) (at0 p (m - 1))):Dn lt p (m+1):=fun i j h1 h2=>by
 by_cases hj:j < m
 ·exact h i j h1 hj
 ·have hj:j=m:=by omega
  subst hj
  by_cases hi:i=j
  ·subst hi;exact W.refl _
  ·exact W.trans hl (h i (j - 1) (by omega) (by omega))
theorem Avl(hj:j<=p.size)(k:Nat):at0 (rY p i j) k=if i<=k/\k < j then at0 p (i+j - 1 - k) else at0 p k:=by
 have h:=getElem?_mirror_all (xs:=p) (i:=i) hj k
 unfold rY
 split
 ·rename_i hc;rw[if_pos hc] at h;exact Al9 h
 ·rename_i hc;rw[if_neg hc] at h;exact Al9 h
theorem Pm.rev(h:Pm n p)(i j:Nat):Pm n (rY p i j):=⟨by unfold rY;rw[mirror_size];exact h.size,(mirror_perm p i j _).toList.trans h.perm⟩
def Tl(lt:Nat->Nat->Bool)(p:Array Nat)(m q:Nat):Prop:=∀ i,m - (q+1)<=i->i < m->Eqv lt (at0 p i) (at0 p (m - 1))
theorem Tl.rev(W:Wo lt){q:Nat}(h:Tl lt p m q)(hq:q < m)(hm:m<=p.size)(k:Nat):Eqv lt (at0 (rY p (m - (q+1)) m) k) (at0 p k):=by
 rw[Avl hm]
 split
 ·rename_i hc
  have a:=h (m - (q+1)+m - 1 - k) (by omega) (by omega)
  have b:=h k hc.1 hc.2
  exact ⟨W.trans a.1 b.2,W.trans b.1 a.2⟩
 ·exact ⟨W.refl _,W.refl _⟩
theorem Dn.eqv(W:Wo lt){p':Array Nat}(h:Dn lt p m)(he:∀ k,Eqv lt (at0 p' k) (at0 p k)):Dn lt p' m:=fun i j h1 h2=>W.trans (he j).1 (W.trans (h i j h1 h2) (he i).2)
end
end SO
namespace SO
open PySem PySem.W PySem.Calls PyProof.Rows
section
variable {P:bT}{w:cC}{A:eD}{E:aF->aJ->Prop}{s:aJ}{vs:List aF}{lt:Nat->Nat->Bool}{κ:SortKind}
def Kb(a:Addr)(h h':Heap):Prop:=∀ b o,b≠a->h.get? b=some o->h'.get? b=some o
theorem Kb.trans{a:Addr}{h h1 h2:Heap}(x:Kb a h h1)(y:Kb a h1 h2):Kb a h h2:=fun b o hb e=>y b o hb (x b o hb e)
end
end SO
namespace MR
open PySem PySem.Spec PyProof.Rows PySem.Calls L2 SO
inductive Tups(K:aE)(H:Hp):List (List Int)->List V->Prop
 | nil:Tups K H [] []
 | cons {a:Addr} {n:Int} {t:List Int} {ts:List (List Int)} {ys:List V} (h:SqT K H a ((n::t).map V.int)) (r:Tups K H ts ys):Tups K H ((n::t)::ts) (.ref a::ys)
theorem Tups.len{K:aE}{H:Hp}{ts:List (List Int)}{ys:List V}(r:Tups K H ts ys):ts.length=ys.length:=by
 induction r with
 | nil=>rfl
 | cons h r ih=>simp[ih]
theorem Tups.at_{K:aE}{H:Hp}{ts:List (List Int)}{ys:List V}(r:Tups K H ts ys):∀ i,i < ts.length->∃ (a:Addr) (n:Int) (t:List Int),ts[i]? = some (n::t)/\ys[i]? = some (.ref a)/\SqT K H a ((n::t).map V.int):=by
 induction r with
 | nil=>intro i h;simp at h
 | @cons a n t ts ys h r ih=>
  intro i hi
  cases i with
  | zero=>exact ⟨a,n,t,rfl,rfl,h⟩
  | succ i=>simpa using ih i (by simpa using hi)
section
variable {X:Cx}
end
end MR
namespace SO
open PySem PySem.W PyProof.Rows
def Arh{α:Type}(lt:Nat->Nat->Bool):KasT α->α
 | .ret a=>a
 | .ask i j k=>Arh lt (k (lt i j))
theorem On.run{α:Type}{n:Nat}{lt:Nat->Nat->Bool}{P:α->Prop}:∀ {t:KasT α},On n lt P t->On n lt (fun a=>a=Arh lt t) t
 | .ret a,h=>rfl
 | .ask i j k,h=>⟨h.1,h.2.1,On.run h.2.2⟩
theorem On.holds{α:Type}{n:Nat}{lt:Nat->Nat->Bool}{P:α->Prop}:∀ {t:KasT α},On n lt P t->P (Arh lt t)
 | .ret a,h=>h
 | .ask i j k,h=>by
  show P (Arh lt (k (lt i j)))
  exact On.holds h.2.2
end SO
namespace MR
open PySem PySem.Spec PyProof.Rows PySem.Calls L2 SO
section
variable {X:Cx}{pins:List (Addr×Obj)}{σ:L2.St}{H:Hp}{s:aJ}{h':Heap}
theorem Inv.adopt{a:Addr}{o:HO}{t':Nat}(I:L2.Inv X pins σ H s)(hf:Lr X pins H a)(k:∀ b o,b≠a->s.heap.get? b=some o->h'.get? b=some o)(new:ObjOk X.prog X.w (upd H a o) h' a o) :
  L2.Inv X pins σ (upd H a o) { s with heap:=h',toks:=t' }:=by
 have hn:H a=none:=hf.1
 have na:∀ b u,H b=some u->b≠a:=fun b u e z=>by rw[z,hn] at e;cases e
 have st:=Stay.new hn o
 refine I.step (g':=s.gens) (d':=s.drawn) (ch:=[a]) (fun b hb=>?_) (fun b o _ _ hc e _=>k b o (fun z=>hc (by simp[z])) e) (fun b o _ _ hc e _=>⟨o.slots,k b o (fun z=>hc (by simp[z])) e⟩) (fun b u hc e n=>?_) (fun b u hc e=>⟨u,k b u (fun z=>hc (by simp[z])) e⟩) st.1 st.2 (fun b ps e=>⟨#[],?_⟩) (fun m hm=>?_) (fun b u e=>?_) I.bare
 ·have e:b=a:=by simpa using hb
  subst e
  obtain ⟨_,f1,_,f3,f4,f5⟩:=hf
  exact ⟨f3,f1,f4,f5⟩
 ·rw[Bj (fun z=>hc (by simp[z]))];exact n
 ·rw[Bj (na b _ e),e];simp
 ·obtain ⟨o1,es,ep,ho,r⟩:=hm
  exact ⟨o1,es,ep,k _ o1 (gX hf.2.1) ho,r⟩
 ·by_cases hb:b=a
  ·subst hb;rw[upd_same] at e;cases e;exact new
  ·rw[Bj hb] at e
   refine (I.hok b u e).stay (fun c v hc q=>k c v ?_ q) (fun c q=>by rw[Bj (na c _ q)];exact q) fun c xs q=>by rw[Bj (na c _ q)];exact q
   rcases hc with z | z
   ·rw[z];exact hb
   ·exact na c _ z
end
section
variable {X:Cx}{pins:List (Addr×Obj)}{σ:L2.St}{H:Hp}{s:aJ}
theorem toI_map:∀ l:List Int,mapO toI (l.map U.int)=some l
 | []=>rfl
 | a::r=>by simp only[aI,mapO,toI,toI_map r,aC,aG]
end
end MR
namespace ZT
open PySem PySem.Spec PyProof.Rows
open Sem (wp)
variable {prog:bT}{w:cC}{A:eD}{E:aF->aJ->Prop}{s:aJ}{l1 l2 l3:Addr}{xs ys vs:Array aF}{x y v:aF}{Q:Option aF->aJ->Prop}
section
variable {b1 b2 b3:Bool}{z TI TO j1 j2 j3:Addr}{k1 k2 k3:Nat}{a b c:aF}
theorem Akm{Q:aF->aJ->Prop}(D:Ap3 z TI TO j1 j2 j3 l1 l2 l3)(hz:fY s.heap z TI TO .none)(hI:Dc s.heap TI (.ref j1) (.ref j2) (.ref j3))(hO:Dc s.heap TO a b c)
  (h1:ItK b1 s.heap j1 l1 k1) (h2:ItK b2 s.heap j2 l2 k2) (h3:ItK b3 s.heap j3 l3 k3) (g1:SqK b1 s.heap l1 xs) (g2:SqK b2 s.heap l2 ys) (g3:SqK b3 s.heap l3 vs) (hx:xs[k1]? = some x) (hy:ys[k2]? = some y) (hv:vs[k3]? = some v)
  (hQ:∀ h',fY h' z TI TO (rawInt s.heap.objs.size)->Dc h' TO x y v->ItK b1 h' j1 l1 (k1+1)->ItK b2 h' j2 l2 (k2+1)->ItK b3 h' j3 l3 (k3+1)->Dc h' s.heap.objs.size x y v->h'.objs.size=s.heap.objs.size+1 ->
   (∀ c o,c≠z->c≠TO->c≠j1->c≠j2->c≠j3->s.heap.get? c=some o->h'.get? c=some o)->Q (.ref s.heap.objs.size) { s with heap:=h' }) :
  wpAny (model prog w) A (lF.«zip.__next__» ⟨[.ref z],[]⟩) (fun fin s'=>∃ v,fin = .done (.ret v)/\Q v s') E s:=by
 show wpAny _ _ (field (.ref z) 2 >>= fun q=>_) _ _ _
 refine aD (bZ hz rfl (x:=.bool false) rfl ?_);show wpAny _ _ (field (.ref z) 3 >>= _) _ _ _
 refine aD (bZ hz rfl (x:=.ref TI) rfl (aD (cW hI rfl ?_)))
 show wpAny _ _ (bI (.ref z) >>= fun q=>_) _ _ _
 refine aD ?_;unfold bI
 refine aD (bZ hz rfl (x:=.none) rfl (aO ?_));simp only[if_true]
 refine aD (lW (aD (bZ hz rfl (x:=.ref TO) rfl (aD (dB hz (by simp) fun p1 z1 s1=>?_)))))
 replace z1:fY p1 z TI TO .ellipsis:=z1
 refine aD ?_;simp only[kE,kS,fP,iV]
 refine aD (aD (gS ?_));show wpAny _ _ (bF (.ref j1) >>= _) _ _ _
 refine aD (Lb (h1.but s1.extBut D.j1z) (g1.but s1.extBut D.l1z) hx fun p2 i2 s2=>aO ?_)
 have O2:Dc p2 TO a b c:=s2.extBut _ _ D.TOj1 (s1.extBut _ _ D.TOz hO)
 refine aD (cW O2 rfl (aD (Yu O2 fun p3 O3 s3=>?_)))
 replace O3:Dc p3 TO x b c:=O3
 refine aD (jS (aO ?_));refine aD (aD (gS ?_))
 show wpAny _ _ (bF (.ref j2) >>= fun q=>_) _ _ _
 refine aD (Lb (((h2.but s1.extBut D.j2z).but s2.extBut D.j12.symm).but s3.extBut D.TOj2.symm) (((g2.but s1.extBut D.l2z).but s2.extBut D.l2j1).but s3.extBut D.l2TO) hy fun p4 i4 s4=>aO ?_)
 have O4:Dc p4 TO x b c:=s4.extBut _ _ D.TOj2 O3
 refine aD (cW O4 rfl (aD (Yu O4 fun p5 O5 s5=>?_)))
 replace O5:Dc p5 TO x y c:=O5
 refine aD (jS (aO ?_));refine aD (aD (gS ?_))
 show wpAny _ _ (bF (.ref j3) >>= fun q=>_) _ _ _
 refine aD (Lb (((((h3.but s1.extBut D.j3z).but s2.extBut D.j13.symm).but s3.extBut D.TOj3.symm).but s4.extBut D.j23.symm).but s5.extBut D.TOj3.symm) (((((g3.but s1.extBut D.l3z).but s2.extBut D.l3j1).but s3.extBut D.l3TO).but s4.extBut D.l3j2).but s5.extBut D.l3TO) hv fun p6 i6 s6=>aO ?_)
 have O6:Dc p6 TO x y c:=s6.extBut _ _ D.TOj3 O5
 refine aD (cW O6 rfl (aD (Yu O6 fun p7 O7 s7=>?_)))
 replace O7:Dc p7 TO x y v:=O7
 refine aD (jS (aO (aO ?_)));refine aD (cW O7 rfl (aD (oW ?_)))
 have hsz:p7.objs.size=s.heap.objs.size:=by rw[s7.1,s6.1,s5.1,s4.1,s3.1,s2.1,s1.1]
 have z7:fY p7 z TI TO .ellipsis:=s7.extBut _ _ D.TOz.symm (s6.extBut _ _ D.j3z.symm (s5.extBut _ _ D.TOz.symm (s4.extBut _ _ D.j2z.symm (s3.extBut _ _ D.TOz.symm (s2.extBut _ _ D.j1z.symm z1)))))
 have k7:∀ c o,c≠z->c≠TO->c≠j1->c≠j2->c≠j3->s.heap.get? c=some o->p7.get? c=some o:=fun c o c1 c2 c3 c4 c5 e=>s7.extBut _ _ c2 (s6.extBut _ _ c5 (s5.extBut _ _ c2 (s4.extBut _ _ c4 (s3.extBut _ _ c2 (s2.extBut _ _ c3 (s1.extBut _ _ c1 e))))))
 have i17:ItK b1 p7 j1 l1 (k1+1):=((((i2.but s3.extBut D.TOj1.symm).but s4.extBut D.j12).but s5.extBut D.TOj1.symm).but s6.extBut D.j13).but s7.extBut D.TOj1.symm
 have i27:ItK b2 p7 j2 l2 (k2+1):=((i4.but s5.extBut D.TOj2.symm).but s6.extBut D.j23).but s7.extBut D.TOj2.symm
 have i37:ItK b3 p7 j3 l3 (k3+1):=i6.but s7.extBut D.TOj3.symm
 have zlt:z < p7.objs.size:=aP z7
 show wpAny _ _ (eE (.ref z) (.ref p7.objs.size) >>= fun q=>_) _ _ _
 refine aD ?_;unfold eE
 have z8:fY (p7.push { cls:=.type "tuple",data:=.seq #[x,y,v] }) z TI TO .ellipsis:=aB _ z7
 refine aD (dB z8 (by simp) fun p9 z9 s9=>?_)
 replace z9:fY p9 z TI TO (rawInt p7.objs.size):=z9
 refine dB z9 (by simp) fun p10 z10 s10=>?_
 replace z10:fY p10 z TI TO (rawInt p7.objs.size):=z10
 have up:∀ c o,c≠z->p7.get? c=some o->p10.get? c=some o:=fun c o c1 e=>s10.extBut _ _ c1 (s9.extBut _ _ c1 (aB _ e))
 have t10:Dc p10 p7.objs.size x y v:=s10.extBut _ _ (fE zlt) (s9.extBut _ _ (fE zlt) (aM _ rfl))
 have e10:p10.objs.size=p7.objs.size+1:=by rw[s10.1,s9.1,cO]
 rw[hsz] at z10 t10 e10
 refine aO ⟨_,rfl,?_⟩
 show Q (.ref p7.objs.size) _
 rw[hsz]
 exact hQ p10 z10 (up _ _ D.TOz O7) (i17.keep fun o e=>up _ o D.j1z e) (i27.keep fun o e=>up _ o D.j2z e) (i37.keep fun o e=>up _ o D.j3z e) t10 e10 fun c o c1 c2 c3 c4 c5 e=>up c o c1 (k7 c o c1 c2 c3 c4 c5 e)
theorem Ap5{Q:Fin->aJ->Prop}(hh:A.handled=none)(D:Ap3 z TI TO j1 j2 j3 l1 l2 l3)(hz:fY s.heap z TI TO .none)(hI:Dc s.heap TI (.ref j1) (.ref j2) (.ref j3))(h1:ItK b1 s.heap j1 l1 k1)(g1:SqK b1 s.heap l1 xs)(hx:xs[k1]? = none)
  (hE:∀ h' e,(∀ c o,c≠z->c≠TO->c≠j1->c≠j2->c≠j3->s.heap.get? c=some o->h'.get? c=some o)->(∃ ob,h'.get? e=some ob/\ob.cls = .type "StopIteration")->E (.ref e) { s with heap:=h' }) :
  wpAny (model prog w) A (lF.«zip.__next__» ⟨[.ref z],[]⟩) Q E s:=by
 show wpAny _ _ (field (.ref z) 2 >>= fun q=>_) _ _ _
 refine aD (bZ hz rfl (x:=.bool false) rfl ?_);show wpAny _ _ (field (.ref z) 3 >>= _) _ _ _
 refine aD (bZ hz rfl (x:=.ref TI) rfl (aD (cW hI rfl ?_)))
 show wpAny _ _ (bI (.ref z) >>= fun q=>_) _ _ _
 refine aD ?_;unfold bI
 refine aD (bZ hz rfl (x:=.none) rfl (aO ?_));simp only[if_true]
 refine aD (lW (aD (bZ hz rfl (x:=.ref TO) rfl (aD (dB hz (by simp) fun p1 z1 s1=>?_)))))
 replace z1:fY p1 z TI TO .ellipsis:=z1
 refine aD ?_;simp only[kE,kS,fP,iV]
 refine aD (aD (gS ?_));show wpAny _ _ (bF (.ref j1) >>= _) _ _ _
 refine aD (Y1 hh (h1.but s1.extBut D.j1z) (g1.but s1.extBut D.l1z) hx fun p2 e s2 he=>?_)
 obtain ⟨oe,hoe,hce⟩:=he
 have z2:fY p2 z TI TO .ellipsis:=s2 _ _ D.j1z.symm z1
 have hez:e≠z:=fun q=>by subst q;rw[z2] at hoe;cases hoe;simp at hce
 refine dB z2 (by simp) fun p3 _ s3=>hE p3 e (fun c o c1 _ c3 _ _ q=>s3.extBut _ _ c1 (s2 _ _ c3 (s1.extBut _ _ c1 q))) ⟨oe,s3.extBut _ _ hez hoe,hce⟩
theorem Anw(D:Ap3 z TI TO j1 j2 j3 l1 l2 l3)(hz:fY s.heap z TI TO .none)(hI:Dc s.heap TI (.ref j1) (.ref j2) (.ref j3))(hO:Dc s.heap TO a b c)
  (h1:ItK b1 s.heap j1 l1 k1) (h2:ItK b2 s.heap j2 l2 k2) (h3:ItK b3 s.heap j3 l3 k3) (g1:SqK b1 s.heap l1 xs) (g2:SqK b2 s.heap l2 ys) (g3:SqK b3 s.heap l3 vs) (hx:xs[k1]? = some x) (hy:ys[k2]? = some y) (hv:vs[k3]? = some v)
  (hQ:∀ h',fY h' z TI TO (rawInt s.heap.objs.size)->Dc h' TO x y v->ItK b1 h' j1 l1 (k1+1)->ItK b2 h' j2 l2 (k2+1)->ItK b3 h' j3 l3 (k3+1)->Dc h' s.heap.objs.size x y v->h'.objs.size=s.heap.objs.size+1 ->
   (∀ c o,c≠z->c≠TO->c≠j1->c≠j2->c≠j3->s.heap.get? c=some o->h'.get? c=some o)->Q (some (.ref s.heap.objs.size)) { s with heap:=h' }) :
  wpAny (model prog w) A (pyNext (.ref z)) Q E s:=by
 have ty:s.TypeIs (.ref z) "zip" := ⟨_,hz,rfl⟩
 unfold pyNext
 exact aD (jI (dC (name:=eU "__next__") ty dO (eB dO ty hW (Akm D hz hI hO h1 h2 h3 g1 g2 g3 hx hy hv fun h' q1 q2 q3 q4 q5 q6 q7 q8=>aO (hQ h' q1 q2 q3 q4 q5 q6 q7 q8)) (gO _))))
theorem Aqr(hh:A.handled=none)(D:Ap3 z TI TO j1 j2 j3 l1 l2 l3)(hz:fY s.heap z TI TO .none)(hI:Dc s.heap TI (.ref j1) (.ref j2) (.ref j3))(h1:ItK b1 s.heap j1 l1 k1)(g1:SqK b1 s.heap l1 xs)(hx:xs[k1]? = none)
  (hQ:∀ h',(∀ c o,c≠z->c≠TO->c≠j1->c≠j2->c≠j3->s.heap.get? c=some o->h'.get? c=some o)->Q none { s with heap:=h' }):wpAny (model prog w) A (pyNext (.ref z)) Q E s:=by
 have ty:s.TypeIs (.ref z) "zip" := ⟨_,hz,rfl⟩
 unfold pyNext
 refine aD (jI (dC (name:=eU "__next__") ty dO (eB dO ty hW (Ap5 hh D hz hI h1 g1 hx fun h' e hk he=>?_) (gO _))))
 obtain ⟨ob,hob,hcl⟩:=he
 exact aD (nC (T := "StopIteration") (b:=true) ⟨ob,hob,hcl⟩ oX (aO (hQ _ hk)))
end
abbrev lh1(h:Heap)(l1:Addr):Heap:=h.push { cls:=.type "list_iterator",data:=.fields #[.ref l1,.int 0 0] }
abbrev lh2(h:Heap)(l1 l2:Addr):Heap:=(lh1 h l1).push { cls:=.type "tuple_iterator",data:=.fields #[.ref l2,.int 0 0] }
abbrev lh3(h:Heap)(l1 l2 l3:Addr):Heap:=(lh2 h l1 l2).push { cls:=.type "tuple_iterator",data:=.fields #[.ref l3,.int 0 0] }
abbrev lh4(h:Heap)(l1 l2 l3:Addr):Heap:=(lh3 h l1 l2 l3).push { cls:=.type "tuple",data:=.seq #[.ref h.objs.size,.ref (lh1 h l1).objs.size,.ref (lh2 h l1 l2).objs.size] }
abbrev lh5(h:Heap)(l1 l2 l3:Addr):Heap:=(lh4 h l1 l2 l3).push { cls:=.type "tuple",data:=.seq #[.none,.none,.none] }
abbrev lh6(h:Heap)(l1 l2 l3:Addr):Heap:=(lh5 h l1 l2 l3).push { cls:=.type "zip",data:=.fields #[.none,.bool false,.bool false,.ref (lh3 h l1 l2 l3).objs.size,.ref (lh4 h l1 l2 l3).objs.size] }
theorem Aok (l1 l2 l3 : Addr) (xs ys vs : Array aF) : Meets (lF.«zip.__new__» ⟨[.type "zip", .ref l1, .ref l2, .ref l3], []⟩) (fun _ R s => s.heap.IsList l1 xs /\ s.heap.IsTuple l2 ys /\ s.heap.IsTuple l3 vs /\
   R (.ok (.ret (.ref (lh5 s.heap l1 l2 l3).objs.size))) { s with heap:=lh6 s.heap l1 l2 l3 }):=
 .of_wp fun prog w A R s h=>by
  obtain ⟨hp,g,d,tk,os⟩:=s
  obtain ⟨t1,t2,t3,h⟩:=h
  have hsub:=sub_zip
  have T1:tN (jT ⟨hp,g,d,tk,os⟩) l1 xs:=t1
  have T2:lH (jT ⟨hp.push { cls:=.type "list_iterator",data:=.fields #[.ref l1,.int 0 0] },g,d,tk,os⟩) l2 ys:=iR t2 _
  have T3:lH (jT ⟨(hp.push { cls:=.type "list_iterator",data:=.fields #[.ref l1,.int 0 0] }).push { cls:=.type "tuple_iterator",data:=.fields #[.ref l2,.int 0 0] },g,d,tk,os⟩) l3 vs:=iR (iR t3 _) _
  wp_walk using iL T1,gD T2,gD T3
  exact ⟨_,rfl,h⟩
section
theorem Amt{Q:aF->aJ->Prop}(t1:s.heap.IsList l1 xs)(t2:s.heap.IsTuple l2 ys)(t3:s.heap.IsTuple l3 vs)
  (h:∀ h',fY h' (s.heap.objs.size+5) (s.heap.objs.size+3) (s.heap.objs.size+4) .none->Dc h' (s.heap.objs.size+3) (.ref s.heap.objs.size) (.ref (s.heap.objs.size+1)) (.ref (s.heap.objs.size+2)) ->
   Dc h' (s.heap.objs.size+4) .none .none .none->ItK true h' s.heap.objs.size l1 0->ItK false h' (s.heap.objs.size+1) l2 0->ItK false h' (s.heap.objs.size+2) l3 0->(∀ c o,s.heap.get? c=some o->h'.get? c=some o)->Q (.ref (s.heap.objs.size+5)) { s with heap:=h' }) :
  wpAny (model prog w) A (call (.type "zip") [.ref l1,.ref l2,.ref l3]) Q E s:=by
 refine qR qS (by decide) (Vr _ _ _) (Wr _ _ _) (fun obj=>O9 obj _ _ _) oB (Aok l1 l2 l3 xs ys vs) ⟨t1,t2,t3,?_⟩
 have z1:(lh1 s.heap l1).objs.size=s.heap.objs.size+1:=cO ..
 have z2:(lh2 s.heap l1 l2).objs.size=s.heap.objs.size+2:=by rw[cO,z1]
 have z3:(lh3 s.heap l1 l2 l3).objs.size=s.heap.objs.size+3:=by rw[cO,z2]
 have z4:(lh4 s.heap l1 l2 l3).objs.size=s.heap.objs.size+4:=by rw[cO,z3]
 have z5:(lh5 s.heap l1 l2 l3).objs.size=s.heap.objs.size+5:=by rw[cO,z4]
 have q6:(lh6 s.heap l1 l2 l3).get? (lh5 s.heap l1 l2 l3).objs.size=some _:=aM _ rfl
 have q5:(lh6 s.heap l1 l2 l3).get? (lh4 s.heap l1 l2 l3).objs.size=some _:=aB _ (aM _ rfl)
 have q4:(lh6 s.heap l1 l2 l3).get? (lh3 s.heap l1 l2 l3).objs.size=some _:=aB _ (aB _ (aM _ rfl))
 have q3:(lh6 s.heap l1 l2 l3).get? (lh2 s.heap l1 l2).objs.size=some _:=aB _ (aB _ (aB _ (aM _ rfl)))
 have q2:(lh6 s.heap l1 l2 l3).get? (lh1 s.heap l1).objs.size=some _:=aB _ (aB _ (aB _ (aB _ (aM _ rfl))))
 have q1:(lh6 s.heap l1 l2 l3).get? s.heap.objs.size=some _:=aB _ (aB _ (aB _ (aB _ (aB _ (aM _ rfl)))))
 show _/\_
 rw[z3,z4,z5] at q6;rw[z1,z2,z3] at q4;rw[z4] at q5
 rw[z2] at q3;rw[z1] at q2;rw[z5]
 exact ⟨⟨_,q6,rfl⟩,h _ q6 q4 q5 ⟨_,q1,rfl,rfl⟩ ⟨_,q2,rfl,rfl⟩ ⟨_,q3,rfl,rfl⟩ fun c o q=>aB _ (aB _ (aB _ (aB _ (aB _ (aB _ q)))))⟩
end
section
variable {b1 b2 b3:Bool}{z TI TO T j1 j2 j3:Addr}{k1 k2 k3:Nat}{f:Bool}{oT:Obj}
theorem Al1{Q:aF->aJ->Prop}(D:Ap3 z TI TO j1 j2 j3 l1 l2 l3)(hz:Ka s.heap z TI TO T f)(hI:Dc s.heap TI (.ref j1) (.ref j2) (.ref j3))(hT:s.heap.get? T=some oT)
  (h1:ItK b1 s.heap j1 l1 k1) (h2:ItK b2 s.heap j2 l2 k2) (h3:ItK b3 s.heap j3 l3 k3) (g1:SqK b1 s.heap l1 xs) (g2:SqK b2 s.heap l2 ys) (g3:SqK b3 s.heap l3 vs) (hx:xs[k1]? = some x) (hy:ys[k2]? = some y) (hv:vs[k3]? = some v)
  (hQ:∀ h',Ka h' z TI TO T true->ItK b1 h' j1 l1 (k1+1)->ItK b2 h' j2 l2 (k2+1)->ItK b3 h' j3 l3 (k3+1)->Dc h' s.heap.objs.size x y v->h'.objs.size=s.heap.objs.size+1 ->
   (∀ c o,c≠z->c≠j1->c≠j2->c≠j3->s.heap.get? c=some o->h'.get? c=some o)->Q (.ref s.heap.objs.size) { s with heap:=h' }) :
  wpAny (model prog w) A (lF.«zip.__next__» ⟨[.ref z],[]⟩) (fun fin s'=>∃ v,fin = .done (.ret v)/\Q v s') E s:=by
 show wpAny _ _ (field (.ref z) 2 >>= fun q=>_) _ _ _
 refine aD (bZ hz rfl (x:=.bool false) rfl ?_);show wpAny _ _ (field (.ref z) 3 >>= _) _ _ _
 refine aD (bZ hz rfl (x:=.ref TI) rfl (aD (cW hI rfl ?_)))
 show wpAny _ _ (bI (.ref z) >>= fun q=>_) _ _ _
 refine aD (Aga hz hT fun p1 z1 s1=>?_)
 simp only[cD,if_false]
 refine aD ?_
 simp only[<- qD,fP,iV]
 refine aD (aD (dP ?_));show wpAny _ _ (bF (.ref j1) >>= _) _ _ _
 refine aD (Lb (h1.but s1.extBut D.j1z) (g1.but s1.extBut D.l1z) hx fun p2 i2 s2=>aO (aO ?_))
 refine aD (aD (dP ?_));show wpAny _ _ (bF (.ref j2) >>= fun q=>_) _ _ _
 refine aD (Lb ((h2.but s1.extBut D.j2z).but s2.extBut D.j12.symm) ((g2.but s1.extBut D.l2z).but s2.extBut D.l2j1) hy fun p4 i4 s4=>aO (aO ?_))
 refine aD (aD (dP ?_));show wpAny _ _ (bF (.ref j3) >>= fun q=>_) _ _ _
 refine aD (Lb (((h3.but s1.extBut D.j3z).but s2.extBut D.j13.symm).but s4.extBut D.j23.symm) (((g3.but s1.extBut D.l3z).but s2.extBut D.l3j1).but s4.extBut D.l3j2) hv fun p6 i6 s6=>aO (aO (aO ?_)))
 refine aD (oW (hsz:=by show 3<=sizeLine;decide) ?_)
 have hsz:p6.objs.size=s.heap.objs.size:=by rw[s6.1,s4.1,s2.1,s1.1]
 have z6:Ka p6 z TI TO T true:=s6.extBut _ _ D.j3z.symm (s4.extBut _ _ D.j2z.symm (s2.extBut _ _ D.j1z.symm z1))
 refine aO ⟨_,rfl,?_⟩
 show Q (.ref p6.objs.size) _
 rw[hsz]
 refine hQ _ (aB _ z6) (((i2.but s4.extBut D.j12).but s6.extBut D.j13).keep fun o e=>aB _ e) ((i4.but s6.extBut D.j23).keep fun o e=>aB _ e) (i6.keep fun o e=>aB _ e) (by rw[<- hsz];exact aM _ rfl) (by rw[cO,hsz]) fun c o c1 c3 c4 c5 e=>aB _ (s6.extBut _ _ c5 (s4.extBut _ _ c4 (s2.extBut _ _ c3 (s1.extBut _ _ c1 e))))
theorem An3{Q:Fin->aJ->Prop}(hh:A.handled=none)(D:Ap3 z TI TO j1 j2 j3 l1 l2 l3)(hz:Ka s.heap z TI TO T f)(hI:Dc s.heap TI (.ref j1) (.ref j2) (.ref j3))(hT:s.heap.get? T=some oT)
  (h1:ItK b1 s.heap j1 l1 k1) (g1:SqK b1 s.heap l1 xs) (hend:xs[k1]? = none)
  (hE:∀ h' e,(∀ c o,c≠z->c≠j1->s.heap.get? c=some o->h'.get? c=some o)->(∃ ob,h'.get? e=some ob/\ob.cls = .type "StopIteration")->E (.ref e) { s with heap:=h' }) :
  wpAny (model prog w) A (lF.«zip.__next__» ⟨[.ref z],[]⟩) Q E s:=by
 show wpAny _ _ (field (.ref z) 2 >>= fun q=>_) _ _ _
 refine aD (bZ hz rfl (x:=.bool false) rfl ?_);show wpAny _ _ (field (.ref z) 3 >>= _) _ _ _
 refine aD (bZ hz rfl (x:=.ref TI) rfl (aD (cW hI rfl ?_)))
 show wpAny _ _ (bI (.ref z) >>= fun q=>_) _ _ _
 refine aD (Aga hz hT fun p1 z1 s1=>?_)
 simp only[cD,if_false]
 refine aD ?_
 simp only[<- qD,fP,iV]
 refine aD (aD (dP ?_));show wpAny _ _ (bF (.ref j1) >>= _) _ _ _
 exact aD (Y1 hh (h1.but s1.extBut D.j1z) (g1.but s1.extBut D.l1z) hend fun p2 e s2 he=>hE p2 e (fun c o c1 c3 q=>s2 _ _ c3 (s1.extBut _ _ c1 q)) he)
theorem Al8(D:Ap3 z TI TO j1 j2 j3 l1 l2 l3)(hz:Ka s.heap z TI TO T f)(hI:Dc s.heap TI (.ref j1) (.ref j2) (.ref j3))(hT:s.heap.get? T=some oT)
  (h1:ItK b1 s.heap j1 l1 k1) (h2:ItK b2 s.heap j2 l2 k2) (h3:ItK b3 s.heap j3 l3 k3) (g1:SqK b1 s.heap l1 xs) (g2:SqK b2 s.heap l2 ys) (g3:SqK b3 s.heap l3 vs) (hx:xs[k1]? = some x) (hy:ys[k2]? = some y) (hv:vs[k3]? = some v)
  (hQ:∀ h',Ka h' z TI TO T true->ItK b1 h' j1 l1 (k1+1)->ItK b2 h' j2 l2 (k2+1)->ItK b3 h' j3 l3 (k3+1)->Dc h' s.heap.objs.size x y v->h'.objs.size=s.heap.objs.size+1 ->
   (∀ c o,c≠z->c≠j1->c≠j2->c≠j3->s.heap.get? c=some o->h'.get? c=some o)->Q (some (.ref s.heap.objs.size)) { s with heap:=h' }) :
  wpAny (model prog w) A (pyNext (.ref z)) Q E s:=by
 have ty:s.TypeIs (.ref z) "zip" := ⟨_,hz,rfl⟩
 unfold pyNext
 exact aD (jI (dC (name:=eU "__next__") ty dO (eB dO ty hW (Al1 D hz hI hT h1 h2 h3 g1 g2 g3 hx hy hv fun h' q1 q3 q4 q5 q6 q7 q8=>aO (hQ h' q1 q3 q4 q5 q6 q7 q8)) (gO _))))
theorem Ao0(hh:A.handled=none)(D:Ap3 z TI TO j1 j2 j3 l1 l2 l3)(hz:Ka s.heap z TI TO T f)(hI:Dc s.heap TI (.ref j1) (.ref j2) (.ref j3))(hT:s.heap.get? T=some oT)
  (h1:ItK b1 s.heap j1 l1 k1) (g1:SqK b1 s.heap l1 xs) (hend:xs[k1]? = none)
  (hQ:∀ h',(∀ c o,c≠z->c≠j1->s.heap.get? c=some o->h'.get? c=some o)->Q none { s with heap:=h' }):wpAny (model prog w) A (pyNext (.ref z)) Q E s:=by
 have ty:s.TypeIs (.ref z) "zip" := ⟨_,hz,rfl⟩
 unfold pyNext
 refine aD (jI (dC (name:=eU "__next__") ty dO (eB dO ty hW (An3 hh D hz hI hT h1 g1 hend fun h' e hk he=>?_) (gO _))))
 obtain ⟨ob,hob,hcl⟩:=he
 exact aD (nC (T := "StopIteration") (b:=true) ⟨ob,hob,hcl⟩ oX (aO (hQ _ hk)))
end
inductive Zs3(h:Heap)(n N:Nat):Prop where
 | new (z:fY h (n+5) (n+3) (n+4) .none) (t:∃ a b c,Dc h (n+4) a b c)
 | out (T:Addr) (f:Bool) (o:Obj) (z:Ka h (n+5) (n+3) (n+4) T f) (t:h.get? T=some o) (g:N < T)
def Trs(h:Heap)(N:Nat)(xs ys vs:List aF)(ts:List Addr):Prop:=∀ (j:Nat) (T:Addr),ts[j]? = some T->N < T/\∃ x y v,xs[j]? = some x/\ys[j]? = some y/\vs[j]? = some v/\Dc h T x y v
structure Zl(h:Heap)(n N i:Nat)(l1 l2 l3:Addr)(xs ys vs:List aF)(ts:List Addr):Prop where
 zs:Zs3 h n N
 ti:Dc h (n+3) (.ref n) (.ref (n+1)) (.ref (n+2))
 i1:ItK true h n l1 i
 i2:ItK false h (n+1) l2 i
 i3:ItK false h (n+2) l3 i
 g1:SqK true h l1 xs.toArray
 g2:SqK false h l2 ys.toArray
 g3:SqK false h l3 vs.toArray
 len:ts.length=i
 lst:∃ c,h.get? N=some { cls:=.type "list",dict:=none,data:=.seq (ts.map bO).toArray c,slots:=#[] }
 tr:Trs h N xs ys vs ts
 nd:ts.Nodup
section
variable {R:sB->aJ->Prop}
variable {n N i:Nat}{xs ys vs:List aF}{ts:List Addr}
theorem far{a b:Nat}(h:a < b):(a:Addr)≠b:=cA h
theorem fra{a b:Nat}(h:b < a):(a:Addr)≠b:=fE h
theorem Aqq{x y v:aF}{Q:Option aF->aJ->Prop}(u1:l1 < n)(u2:l2 < n)(u3:l3 < n)(hN:n+5 < N)(Z:Zl s.heap n N i l1 l2 l3 xs ys vs ts)(hx:xs[i]? = some x)(hy:ys[i]? = some y)(hv:vs[i]? = some v)
  (hQ:∀ h',Zs3 h' n N->ItK true h' n l1 (i+1)->ItK false h' (n+1) l2 (i+1)->ItK false h' (n+2) l3 (i+1)->Dc h' s.heap.objs.size x y v ->
   (∀ c o,c≠n+5->c≠n+4->c≠n->c≠n+1->c≠n+2->s.heap.get? c=some o->h'.get? c=some o)->Q (some (.ref s.heap.objs.size)) { s with heap:=h' }) :
  wpAny (model prog w) A (pyNext (.ref (n+5))) Q E s:=by
 have D:=ap3 u1 u2 u3
 have lN:N < s.heap.objs.size:=(let ⟨_,q⟩:=Z.lst;aP q)
 have q1:xs.toArray[i]? = some x:=by simpa using hx
 have q2:ys.toArray[i]? = some y:=by simpa using hy
 have q3:vs.toArray[i]? = some v:=by simpa using hv
 cases Z.zs with
 | new z t=>
  obtain ⟨a,b,d,t⟩:=t
  exact Anw D z Z.ti t Z.i1 Z.i2 Z.i3 Z.g1 Z.g2 Z.g3 q1 q2 q3 fun h' o1 o2 o3 o4 o5 o6 o7 o8=>hQ h' (.out _ false _ o1 o6 lN) o3 o4 o5 o6 o8
 | out T f o z t g=>
  exact Al8 D z Z.ti t Z.i1 Z.i2 Z.i3 Z.g1 Z.g2 Z.g3 q1 q2 q3 fun h' o1 o3 o4 o5 o6 o7 o8=>hQ h' (.out T true o o1 (o8 T o (fra (by omega)) (fra (by omega)) (fra (by omega)) (fra (by omega)) t) g) o3 o4 o5 o6 fun c o c1 _ c3 c4 c5 e=>o8 c o c1 c3 c4 c5 e
theorem Atz(hh:A.handled=none)(u1:l1 < n)(u2:l2 < n)(u3:l3 < n)(hN:n+5 < N)(Z:Zl s.heap n N i l1 l2 l3 xs ys vs ts)(hx:xs[i]? = none)
  (hQ:∀ h',(∀ c o,c≠n+5->c≠n+4->c≠n->c≠n+1->c≠n+2->s.heap.get? c=some o->h'.get? c=some o)->Q none { s with heap:=h' }):wpAny (model prog w) A (pyNext (.ref (n+5))) Q E s:=by
 have D:=ap3 u1 u2 u3
 have q1:xs.toArray[i]? = none:=by simpa using hx
 cases Z.zs with
 | new z t=>exact Aqr hh D z Z.ti Z.i1 Z.g1 q1 hQ
 | out T f o z t g=>exact Ao0 hh D z Z.ti t Z.i1 Z.g1 q1 fun h' k=>hQ h' fun c o c1 _ c3 _ _ e=>k c o c1 c3 e
structure ZlDone(h0 h:Heap)(n N:Nat)(xs ys vs:List aF)(ts:List Addr):Prop where
 kp:∀ b o,b < n->h0.get? b=some o->h.get? b=some o
 len:ts.length=xs.length
 lst:∃ c,h.get? N=some { cls:=.type "list",dict:=none,data:=.seq (ts.map bO).toArray c,slots:=#[] }
 tr:Trs h N xs ys vs ts
 nd:ts.Nodup
theorem Aqo{h0:Heap}(hh:A.handled=none)(u1:l1 < n)(u2:l2 < n)(u3:l3 < n)(hN:n+5 < N)(e2:ys.length=xs.length)(e3:vs.length=xs.length)(hsz:xs.length<=sizeLine)(res:aF)
  (hR:∀ h' ts,ZlDone h0 h' n N xs ys vs ts->R (.ok (.ret res)) { s with heap:=h' }) :
  ∀ (k i:Nat) (h:Heap) (ts:List Addr),xs.length - i=k->i<=xs.length->(∀ b o,b < n->h0.get? b=some o->h.get? b=some o)->Zl h n N i l1 l2 l3 xs ys vs ts ->
   jV (model prog w) A (.builtin "list.extend.loop" ⟨[.ref N,.ref (n+5),res],[]⟩) R { s with heap:=h }:=by
 intro k
 induction k with
 | zero=>
  intro i h ts hk hi kp Z
  obtain ⟨c,hl⟩:=Z.lst
  have hin:i=xs.length:=by omega
  subst hin
  refine jN pG ?_
  rw[gP jF _]
  show wpAny _ A.in1 (pyNext (.ref (n+5)) >>= _) _ _ _
  refine aD (Atz (s:={ s with heap:=h }) (A:=A.in1) hh u1 u2 u3 hN Z (by simp) fun h' k'=>?_)
  refine aO (hR h' ts ⟨fun b o hb e=>k' b o (far (by omega)) (far (by omega)) (far (by omega)) (far (by omega)) (far (by omega)) (kp b o hb e),Z.len,⟨c,k' N _ (fra (by omega)) (fra (by omega)) (fra (by omega)) (fra (by omega)) (fra (by omega)) hl⟩,fun j T e=>?_,Z.nd⟩)
  obtain ⟨g,x,y,v,p1,p2,p3,p4⟩:=Z.tr j T e
  exact ⟨g,x,y,v,p1,p2,p3,k' T _ (fra (by omega)) (fra (by omega)) (fra (by omega)) (fra (by omega)) (fra (by omega)) p4⟩
 | succ k ih=>
  intro i h ts hk hi kp Z
  have hlt:i < xs.length:=by omega
  have hlt2:i < ys.length:=by omega
  have hlt3:i < vs.length:=by omega
  refine jN pG ?_
  rw[gP jF _]
  show wpAny _ A.in1 (pyNext (.ref (n+5)) >>= _) _ _ _
  refine aD (Aqq (s:={ s with heap:=h }) (A:=A.in1) u1 u2 u3 hN Z (aX hlt) (aX hlt2) (aX hlt3) fun h' zs i1 i2 i3 t k'=>?_)
  have lN:N < h.objs.size:=(let ⟨_,q⟩:=Z.lst;aP q)
  obtain ⟨c,hl⟩:=Z.lst
  have hS':=k' N _ (fra (by omega)) (fra (by omega)) (fra (by omega)) (fra (by omega)) (fra (by omega)) hl
  show wpAny _ A.in1 (updateSeq N (·.push (.ref h.objs.size)) >>= _) _ _ _
  refine aD ?_
  have oth:∀ b o,b≠N->h'.get? b=some o->(h'.update N (dG (·.push (bO h.objs.size)))).get? b=some o:=fun b o hb e=>(eV _ _ (gX hb)).trans e
  refine iI hS' rfl (aO ⟨mS jF _,ih (i+1) _ (ts++[h.objs.size]) (by omega) hlt (fun b o hb e=>?_) ?_⟩) (by simp[Z.len];omega) (by simp[Z.len];omega)
  ·exact oth b o (far (by omega)) (k' b o (far (by omega)) (far (by omega)) (far (by omega)) (far (by omega)) (far (by omega)) (kp b o hb e))
  ·have up:∀ b o,b < n->h.get? b=some o->(h'.update N (dG (·.push (bO h.objs.size)))).get? b=some o:=fun b o hb e=>oth b o (far (by omega)) (k' b o (far (by omega)) (far (by omega)) (far (by omega)) (far (by omega)) (far (by omega)) e)
   have nw:=dQ (dG (·.push (bO h.objs.size))) hS' rfl
   refine ⟨?_,oth _ _ (far (by omega)) (k' _ _ (far (by omega)) (far (by omega)) (fra (by omega)) (fra (by omega)) (fra (by omega)) Z.ti),i1.keep fun o e=>oth _ o (far (by omega)) e,i2.keep fun o e=>oth _ o (far (by omega)) e,i3.keep fun o e=>oth _ o (far (by omega)) e,Z.g1.keep fun o e=>up _ o u1 e,Z.g2.keep fun o e=>up _ o u2 e,Z.g3.keep fun o e=>up _ o u3 e,by simp[Z.len],?_,fun j T e=>?_,?_⟩
   ·cases zs with
    | new z t=>
     obtain ⟨a,b,d,t⟩:=t
     exact .new (oth _ _ (far (by omega)) z) ⟨a,b,d,oth _ _ (far (by omega)) t⟩
    | out T f o z t g=>exact .out T f o (oth _ _ (far (by omega)) z) (oth _ _ (fra g) t) g
   ·exact ⟨_,by simpa[dG] using nw⟩
   ·rw[List.getElem?_append] at e
    split at e
    ·obtain ⟨g,x,y,v,p1,p2,p3,p4⟩:=Z.tr j T e
     exact ⟨g,x,y,v,p1,p2,p3,oth _ _ (fra g) (k' T _ (fra (by omega)) (fra (by omega)) (fra (by omega)) (fra (by omega)) (fra (by omega)) p4)⟩
    ·rename_i hj
     have hj0:j - ts.length=0:=by
      have:=(aK.mp e).1
      simp at this;omega
     rw[hj0] at e
     simp at e
     subst e
     have ji:j=i:=by have:=Z.len;omega
     subst ji
     exact ⟨lN,_,_,_,aX hlt,aX hlt2,aX hlt3,oth _ _ (fra lN) t⟩
   ·refine qX.mpr ⟨Z.nd,by simp,fun a ha b hb=>?_⟩
    simp at hb
    subst hb
    obtain ⟨j,hj⟩:=pA ha
    obtain ⟨g,x,y,v,p1,p2,p3,p4⟩:=Z.tr j a hj
    exact cA (aP p4)
end
theorem Aiz:typeLookup (.type "zip") "__len__" = pure none:=by rw[typeLookup_type,oN];kernel_rfl
theorem Aej:typeLookup (.type "zip") "__length_hint__" = pure none:=by rw[typeLookup_type,oN];kernel_rfl
section
variable {n:Nat}{xs ys vs:List aF}
theorem Uk{Q:aF->aJ->Prop}(hh:A.handled=none)(u1:l1 < n)(u2:l2 < n)(u3:l3 < n)(e2:ys.length=xs.length)(e3:vs.length=xs.length)(hsz:xs.length<=sizeLine)
  (z:fY s.heap (n+5) (n+3) (n+4) .none) (ti:Dc s.heap (n+3) (.ref n) (.ref (n+1)) (.ref (n+2))) (to:Dc s.heap (n+4) .none .none .none) (i1:ItK true s.heap n l1 0) (i2:ItK false s.heap (n+1) l2 0) (i3:ItK false s.heap (n+2) l3 0)
  (g1:SqK true s.heap l1 xs.toArray) (g2:SqK false s.heap l2 ys.toArray) (g3:SqK false s.heap l3 vs.toArray)
  (hQ:∀ h' ts,ZlDone s.heap h' n s.heap.objs.size xs ys vs ts->Q (.ref s.heap.objs.size) { s with heap:=h' }) :
  wpAny (model prog w) A (call (.type "list") [.ref (n+5)]) Q E s:=by
 have hN:n+5 < s.heap.objs.size:=aP z
 refine callType_codes (Q₁:=fun obj s₁=>obj = .ref s.heap.objs.size/\s₁ = { s with heap:=s.heap.push { cls:=.type "list",data:=.seq #[] } }) F.called_list (F.typeCall_list_1 _) F.entry_list_init
  (code_list_new _ ⟨rfl,rfl⟩) fun obj s₁ h₁=>?_
 obtain ⟨rfl,rfl⟩:=h₁
 have hS:(s.heap.push { cls:=.type "list",data:=.seq #[] }).get? s.heap.objs.size=some { cls:=.type "list",data:=.seq #[] }:=aM _ rfl
 refine ⟨⟨_,hS,rfl⟩,F.args_list_init_2 _ _,?_⟩
 show wpAny _ _ (do let old <- nQ (.ref s.heap.objs.size);lF.List.listUpdate (.ref s.heap.objs.size) (fun _=>#[]);letGo old.toList.reverse;fW (.ref s.heap.objs.size) (.ref (n+5)) .none) _ _ _
 refine aD ?_
 unfold nQ
 refine aD (cW hS rfl (aO ?_))
 show wpAny _ _ (updateSeq s.heap.objs.size (fun _=>#[]) >>= fun _=>letGo (#[]:Array aF).toList.reverse >>= fun _=>fW (.ref s.heap.objs.size) (.ref (n+5)) .none) _ _ _
 refine aD (iI hS rfl ?_)
 have hS2:=dQ (dG (fun _=>(#[]:Array aF))) hS rfl
 have oth:∀ b o,s.heap.get? b=some o->((s.heap.push { cls:=.type "list",data:=.seq #[] }).update s.heap.objs.size (dG (fun _=>(#[]:Array aF)))).get? b=some o:=
  fun b o e=>(eV _ _ (fE (aP e))).trans (aB _ e)
 refine aD (jS ?_)
 unfold fW
 have zz:=oth _ _ z
 refine aD (qP (T := "zip") ⟨_,zz,rfl⟩ ?_)
 have h1:mT (.ref s.heap.objs.size) (.ref (n+5))=false:=by simp[mT];exact fra hN
 have h2:(jO "zip" == jO "list")=false:=by decide
 have h3:(jO "zip" == jO "tuple")=false:=by decide
 simp only[h1,h2,h3,sQ,cD,if_false]
 refine aD (kF zz ?_)
 refine aD (dP ?_)
 unfold lF.List.listLengthHint
 refine aD (oF (T := "zip") ⟨_,zz,rfl⟩ Aiz ?_)
 show wpAny _ _ (specialOf (bO (n+5)) (eU "__length_hint__") >>= _) _ _ _
 refine aD (oF (T := "zip") ⟨_,zz,rfl⟩ Aej ?_)
 refine aO ?_
 show wpAny _ _ (rule "list.extend.makes-room" >>= fun _=>lF.List.listTouch (.ref s.heap.objs.size) >>= fun _=>
  again (.builtin "list.extend.loop" ⟨[.ref s.heap.objs.size,.ref (n+5),.none],[]⟩)) _ _ _
 refine aD (lW ?_)
 refine aD ?_
 show wpAny _ _ (updateSeq s.heap.objs.size (·.push .none) >>= fun _=>updateSeq s.heap.objs.size (·.pop)) _ _ _
 refine aD (iI hS2 rfl ?_)
 have hS3:=dQ (dG (·.push fZ)) hS2 rfl
 refine iI (hz:=by seq_fits) hS3 rfl ?_
 have hS4:=dQ (dG (·.pop)) hS3 rfl
 have oth2:∀ b o,s.heap.get? b=some o->((((s.heap.push { cls:=.type "list",data:=.seq #[] }).update s.heap.objs.size (dG (fun _=>(#[]:Array aF)))).update s.heap.objs.size (dG (·.push fZ))).update s.heap.objs.size (dG (·.pop))).get? b=some o:=
  fun b o e=>(eV _ _ (fE (aP e))).trans ((eV _ _ (fE (aP e))).trans (oth b o e))
 refine aO ⟨mS jF _,?_⟩
 refine Aqo (s:=s) (h0:=s.heap) (A:=A.in1) (R:=wants (fun r s₂=>r=fZ/\Q (bO s.heap.objs.size) s₂) E) hh u1 u2 u3 hN e2 e3 hsz .none (fun h' ts dn=>⟨rfl,hQ h' ts dn⟩) xs.length 0 _ [] rfl (iT _) (fun b o _ e=>oth2 b o e) ?_
 exact ⟨.new (oth2 _ _ z) ⟨_,_,_,oth2 _ _ to⟩,oth2 _ _ ti,i1.keep fun o e=>oth2 _ o e,i2.keep fun o e=>oth2 _ o e,i3.keep fun o e=>oth2 _ o e,g1.keep fun o e=>oth2 _ o e,g2.keep fun o e=>oth2 _ o e,g3.keep fun o e=>oth2 _ o e,rfl,⟨_,hS4⟩,fun j T e=>by simp at e,List.nodup_nil⟩
end
end ZT
namespace MR
open PySem PySem.Spec PyProof.Rows PySem.Calls L2
def Wh:Hp->List Addr->List (List V)->Hp
 | H,t::ts,x::xs=>Wh (upd H t (.tup x)) ts xs
 | H,_,_=>H
def Ws:List V->List V->List V->List (List V)
 | x::xs,y::ys,z::zs=>[x,y,z]::Ws xs ys zs
 | _,_,_=>[]
theorem Aaa{p:Addr}:∀ {ts:List Addr} {ps:List (List V)} {H:Hp},p∉ts->Wh H ts ps p=H p
 | [],ps,H,_=>by cases ps <;> rfl
 | t::ts,[],H,_=>rfl
 | t::ts,x::ps,H,h=>by
  simp only[bL,not_or] at h
  show Wh (upd H t (.tup x)) ts ps p=H p
  rw[Aaa h.2,Bj h.1]
section
variable {X:Cx}{pins:List (Addr×Obj)}{σ:L2.St}
theorem Ao5{s:aJ}:∀ (ts:List Addr) {H:Hp} {xs ys ws:List V} {us vs zs:List aF},L2.Inv X pins σ H s->(∀ t∈ts,∀ H':Hp,H' t=none->Lr X pins H' t)->(∀ t∈ts,H t=none)->ts.Nodup->Vals xs us->Vals ys vs->Vals ws zs ->
  (∀ (j:Nat) (t:Addr),ts[j]? = some t->∃ a b c,us[j]? = some a/\vs[j]? = some b/\zs[j]? = some c/\ZT.Dc s.heap t a b c)->L2.Inv X pins σ (Wh H ts (Ws xs ys ws)) s:=by
 intro ts
 induction ts with
 | nil=>intro H xs ys ws us vs zs I _ _ _ _ _ _ _;cases h:Ws xs ys ws <;> exact I
 | cons t ts ih=>
  intro H xs ys ws us vs zs I hf hn nd r1 r2 r3 ht
  cases r1 with
  | nil=>exact I
  | cons a1 r1=>
   cases r2 with
   | nil=>exact I
   | cons a2 r2=>
    cases r3 with
    | nil=>exact I
    | cons a3 r3=>
     obtain ⟨a,b,c,e1,e2,e3,tr⟩:=ht 0 t rfl
     simp only[aN,Option.some.injEq] at e1 e2 e3
     subst e1 e2 e3
     have nd2:=dZ.mp nd
     have I1:L2.Inv X pins σ (upd H t (.tup _)) { s with heap:=s.heap,toks:=s.toks }:=Inv.adopt I (hf t (by simp) H (hn t (by simp))) (fun b o _ e=>e)
      (show ObjOk X.prog X.w _ s.heap _ (.tup [_,_,_]) from ⟨by show 3<=sizeLine;decide,[_,_,_],.cons a1 (.cons a2 (.cons a3 .nil)),⟨_,tr,rfl,_,rfl⟩⟩)
     refine ih I1 (fun t' h'=>hf t' (aQ _ h')) (fun t' h'=>?_) nd2.2 r1 r2 r3 fun j t' e=>?_
     ·rw[Bj (show t'≠t from fun z=>nd2.1 (by rw[<- z];exact h'))];exact hn t' (aQ _ h')
     ·have:=ht (j+1) t' (by simpa using e)
      simpa using this
theorem Aq6{K:aE}{α:List Addr}{L:UH}:∀ (ts:List Addr) {H:Hp} {us ws zs:List U} {xs ys vs:List V},Abs K H α L->RepL K H α us xs->RepL K H α ws ys->RepL K H α zs vs->(∀ t∈ts,H t=none)->ts.Nodup->ts.length=us.length->ts.length=ws.length->ts.length=zs.length ->
  Gr H α (Wh H ts (Ws xs ys vs)) α/\Abs K (Wh H ts (Ws xs ys vs)) α L/\RepL K (Wh H ts (Ws xs ys vs)) α (Ahi us ws zs) (ts.map .ref):=by
 intro ts
 induction ts with
 | nil=>
  intro H us ws zs xs ys vs A _ _ _ _ _ e1 _ _
  have:us=[]:=List.length_eq_zero_iff.mp e1.symm
  subst this
  have h0:Wh H [] (Ws xs ys vs)=H:=by cases Ws xs ys vs <;> rfl
  rw[h0]
  exact ⟨.refl _ _,A,.nil⟩
 | cons t ts ih=>
  intro H us ws zs xs ys vs A r1 r2 r3 hn nd e1 e2 e3
  match us,ws,zs,e1,e2,e3 with
  | u::us,w::ws,z::zs,e1,e2,e3=>
   unfold RepL at r1 r2 r3
   obtain ⟨x,xr,rfl,a1,r1⟩:=r1
   obtain ⟨y,yr,rfl,a2,r2⟩:=r2
   obtain ⟨v,vr,rfl,a3,r3⟩:=r3
   have nd2:=dZ.mp nd
   obtain ⟨g,A2,rt⟩:=A.tup (.cons a1 (.cons a2 (.cons a3 .nil))) (hn t (by simp))
   obtain ⟨g2,A3,rl⟩:=ih A2 (r1.mono g) (r2.mono g) (r3.mono g) (fun t' h'=>by rw[Bj (show t'≠t from fun z=>nd2.1 (by rw[<- z];exact h'))];exact hn t' (aQ _ h')) nd2.2 (by simpa using e1) (by simpa using e2) (by simpa using e3)
   exact ⟨g.trans g2,A3,.cons (rt.mono g2) rl⟩
def Aul(K:aE)(ta:TA):TE:=fun σ H Q=>ta σ H fun vs H1=>∃ (l1 l2 l3:Addr) (xs ys ws:List V),vs=[.ref l1,.ref l2,.ref l3]/\SqL K H1 l1 xs/\SqT K H1 l2 ys/\SqT K H1 l3 ws/\ys.length=xs.length/\ws.length=xs.length /\
 ∀ (ts:List Addr) (p:Addr),ts.length=xs.length->ts.Nodup->(∀ t∈ts,H1 t=none)->p∉ts->H1 p=none->Q (.ref p) (upd (Wh H1 ts (Ws xs ys ws)) p (.lst (ts.map .ref)))
theorem X9:∀ (ts:List Addr),Vals (ts.map V.ref) (ts.map bO)
 | []=>.nil
 | t::ts=>.cons rfl (X9 ts)
theorem Ank{a b d:Expr}{ta:TA}{p1 p2 pos1 pos2:Pos}(hcalm:X.calm=true)(hgd:Gl X "list")(hmd:X.mg "list" = none)(hbl:eA "list" = some (.type "list"))(hg:Gl X "zip")(hm:X.mg "zip" = none)(ha:PA X [a,b,d] ta)(hs:aT [a,b,d] X.env=(false,eval a X.env)::aT [b,d] X.env:=by rfl)(hpl:(backTo pos2 (aT [b,d] X.env)).any (·.1)=false:=by rfl)
  (hs1:aT [.Call (.Name "zip" p2) [a,b,d] [] pos2] X.env=(false,eval (.Call (.Name "zip" p2) [a,b,d] [] pos2) X.env)::aT [] X.env:=by rfl) (hpl1:(backTo pos1 (aT [] X.env)).any (·.1)=false:=by rfl) :
  PE X (.Call (.Name "list" p1) [.Call (.Name "zip" p2) [a,b,d] [] pos2] [] pos1) (Aul X.K ta):=by
 intro pins s σ H Q I h
 refine Call_ (Lm I hgd hmd hbl (dH ?_ hs1 hpl1))
 rw[hs1]
 show wpAny _ _ (spliced ((false,eval (.Call (.Name "zip" p2) [a,b,d] [] pos2) X.env)::backTo pos1 (aT [] X.env))) _ _ s
 refine iB ?_
 refine Call_ (Lm I hg hm Vw (dH (thn (ha pos2 pins s σ H _ I h) fun us s1 ⟨vs,H1,I1,r1,q1⟩=>?_) hs hpl))
 obtain ⟨l1,l2,l3,xs,ys,ws,rfl,sq1,sq2,sq3,e2,e3,q⟩:=q1
 obtain ⟨u,u',u'',rfl,ru,ru',ru''⟩:=Az8 r1
 cases ru;cases ru';cases ru''
 obtain ⟨its1,hv1,pl1,hz1⟩:=I1.list sq1
 obtain ⟨its2,hv2,pl2,hz2⟩:=I1.tuple sq2
 obtain ⟨its3,hv3,pl3,hz3⟩:=I1.tuple sq3
 have lt1:l1 < s1.heap.objs.size:=by obtain ⟨o,_,e,_⟩:=pl1;exact aP e
 have lt2:l2 < s1.heap.objs.size:=by obtain ⟨o,e,_⟩:=pl2;exact aP e
 have lt3:l3 < s1.heap.objs.size:=by obtain ⟨o,e,_⟩:=pl3;exact aP e
 have hA:=I1.ok.hd hcalm
 have m1:=hv1.length
 have m2:=hv2.length
 have m3:=hv3.length
 refine ZT.Amt pl1.isList pl2 pl3 fun h' o1 o2 o3 o4 o5 o6 o7=>iO ?_
 have g1:ZT.SqK true h' l1 its1.toArray:=(show ZT.SqK true s1.heap l1 its1.toArray from pl1.isList).keep fun o q=>o7 _ _ q
 have g2:ZT.SqK false h' l2 its2.toArray:=(show ZT.SqK false s1.heap l2 its2.toArray from pl2).keep fun o q=>o7 _ _ q
 have g3:ZT.SqK false h' l3 its3.toArray:=(show ZT.SqK false s1.heap l3 its3.toArray from pl3).keep fun o q=>o7 _ _ q
 refine ZT.Uk (s:={ s1 with heap:=h' }) (n:=s1.heap.objs.size) hA lt1 lt2 lt3 (by omega) (by omega) (by omega) o1 o2 o3 o4 o5 o6 g1 g2 g3 fun h2 ts dn=>?_
 have big:s1.heap.objs.size+5 < h'.objs.size:=aP o1
 have kq:∀ b o,s1.heap.get? b=some o->h2.get? b=some o:=fun b o e=>dn.kp b o (aP e) (o7 b o e)
 have I2:L2.Inv X pins σ H1 { s1 with heap:=h2,toks:=s1.toks }:=I1.kept (t':=s1.toks) kq
 have hge:∀ t∈ts,h'.objs.size < t:=fun t ht=>by
  obtain ⟨j,hj⟩:=pA ht
  exact (dn.tr j t hj).1
 have hno:∀ t∈ts,H1 t=none:=fun t ht=>I1.hok.fresh (by have:=hge t ht;have:=big;exact iY (by omega))
 have hfp:∀ t,s1.heap.objs.size<=t->∀ H':Hp,H' t=none->Lr X pins H' t:=fun t ht H' hn=>L2.Inv.fpOk I1 ht hn
 have I3:=Ao5 ts I2 (fun t ht=>hfp t (by have:=hge t ht;exact iY (by omega))) hno dn.nd hv1 hv2 hv3 fun j t e=>by
  obtain ⟨_,x,y,v,p1,p2,p3,p4⟩:=dn.tr j t e
  exact ⟨x,y,v,p1,p2,p3,p4⟩
 have hp:h'.objs.size∉ts:=fun ht=>dY _ (hge _ ht)
 have hpn:H1 h'.objs.size=none:=I1.hok.fresh (iY (by omega))
 obtain ⟨c,hl⟩:=dn.lst
 have I4:L2.Inv X pins σ (upd (Wh H1 ts (Ws xs ys ws)) h'.objs.size (.lst (ts.map V.ref))) { s1 with heap:=h2,toks:=s1.toks }:=Inv.adopt (s:={ s1 with heap:=h2,toks:=s1.toks }) (t':=s1.toks) I3 (hfp _ (iY (by omega)) _ (by rw[Aaa hp];exact hpn)) (fun b o _ e=>e)
  (show ObjOk X.prog X.w _ h2 _ (.lst (ts.map V.ref)) from ⟨by have:=dn.len;simp;omega,_,c,X9 ts,hl⟩)
 exact ⟨.ref h'.objs.size,_,I4,rfl,q ts _ (by have:=dn.len;omega) dn.nd hno hp hpn⟩
def Aai(g:FA):FE:=fun δ L=>(g δ L).bind fun p=>match p.1 with
 | [.ref n,.tup ws,.tup ts]=>(Aw p.2 n).bind fun us=>if us.length=ws.length/\us.length=ts.length then some (.ref p.2.length,p.2++[.lst (Ahi us ws ts)]) else none
 | _=>none
theorem Akx{a b d:Expr}{g:FA}{p1 p2 pos1 pos2:Pos}(hcalm:X.calm=true)(hgd:Gl X "list")(hmd:X.mg "list" = none)(hbl:eA "list" = some (.type "list"))(hg:Gl X "zip")(hm:X.mg "zip" = none)(ha:PAF X [a,b,d] g)(hs:aT [a,b,d] X.env=(false,eval a X.env)::aT [b,d] X.env:=by rfl)(hpl:(backTo pos2 (aT [b,d] X.env)).any (·.1)=false:=by rfl)
  (hs1:aT [.Call (.Name "zip" p2) [a,b,d] [] pos2] X.env=(false,eval (.Call (.Name "zip" p2) [a,b,d] [] pos2) X.env)::aT [] X.env:=by rfl) (hpl1:(backTo pos1 (aT [] X.env)).any (·.1)=false:=by rfl) :
  PEF X (.Call (.Name "list" p1) [.Call (.Name "zip" p2) [a,b,d] [] pos2] [] pos1) (Aai g):=by
 refine PE.imp (Ank hcalm hgd hmd hbl hg hm ha hs hpl hs1 hpl1) ?_
 rintro σ H Q ⟨α,δ,L,A,S,z,L3,e,q⟩
 obtain ⟨⟨us,L1⟩,e1,ee⟩:=aA.mp e
 simp only at ee
 split at ee
 ·obtain ⟨l,hl,ee⟩:=aA.mp ee
  split at ee
  ·rename_i hc
   cases ee
   refine ⟨α,δ,L,A,S,_,_,e1,fun xs H1 α1 g1 A1 r1=>?_⟩
   obtain ⟨x,y,z,rfl,rx,ry,rz⟩:=r1.three
   obtain ⟨a',ys,rfl,sq,r2⟩:=Lp A1 hl rx
   unfold RepU at ry rz
   obtain ⟨b',ys',rfl,sq',r2'⟩:=ry
   obtain ⟨d',ys'',rfl,sq'',r2''⟩:=rz
   have m1:=r2.length
   have m2:=r2'.length
   have m3:=r2''.length
   refine ⟨a',b',d',ys,ys',ys'',rfl,sq,sq',sq'',by omega,by omega,fun ts p ht nd hn hp hpn=>?_⟩
   obtain ⟨g2,A2,rl⟩:=Aq6 ts A1 r2 r2' r2'' hn nd (by omega) (by omega) (by omega)
   obtain ⟨g3,A3,r3⟩:=A2.lst rl (by rw[Aaa hp];exact hpn)
   exact q _ _ _ (g1.trans (g2.trans g3)) A3 r3
  ·cases ee
 ·cases ee
end
end MR
namespace UL
open PySem PySem.Spec PyProof.Rows
variable {items:Array aF}
section
variable {prog:bT}{w:cC}{A:eD}{E:aF->aJ->Prop}{s:aJ}
theorem Ym{it l:Addr}(hne:l≠it):∀ (n i:Nat) (s:aJ) (Q:List aF->aJ->Prop),s.heap.IsListIter it l i->s.heap.IsList l items->i+n<=items.size ->
  (∀ h',h'.IsListIter it l (i+n)->gK it s.heap h'->Q ((items.toList.drop i).take n) { s with heap:=h' })->wpAny (model prog w) A (draw (.ref it) n) Q E s
 | 0,i,s,Q,hit,_,_,hQ=>by
  show wpAny _ _ (pure []) Q E s
  exact aO (by simpa using hQ s.heap hit (gK.refl ..))
 | n+1,i,s,Q,hit,ht,hle,hQ=>by
  have hlt:i < items.size:=by omega
  show wpAny _ _ (pyNext (.ref it) >>= _) Q E s
  refine aD (nJ hit ht (x:=items[i]) (by simp[hlt]) fun h₁ hit₁ hs₁=>?_)
  refine aD (dP (Ym hne n (i+1) _ _ hit₁ (ht.extBut hs₁.extBut hne) (by omega) fun h₂ hit₂ hs₂=>aO ?_))
  have hd:items.toList.drop i=items[i]::items.toList.drop (i+1):=by simp[List.drop_eq_getElem_cons,hlt]
  have:=hQ h₂ (by rw[show i+(n+1)=i+1+n by omega];exact hit₂) (hs₁.trans hs₂)
  rw[hd,pH] at this
  exact this
theorem Rj{t:Addr}{Q:List aF->aJ->Prop}(hh:A.handled=none)(ht:s.heap.IsList t items)
  (hQ:∀ h',kN s.heap.objs.size s.heap h'->Q items.toList { s with heap:=h' }):wpAny (model prog w) A (unpackItems (.ref t) items.size none) Q E s:=by
 have hlt:t≠s.heap.objs.size:=by obtain ⟨o,ho,_⟩:=ht;exact cA (aP ho)
 have ty:s.TypeIs (.ref t) "list" := by obtain ⟨o,ho,hc,_⟩:=ht;exact ⟨o,ho,hc⟩
 unfold unpackItems
 refine aD ?_
 ·unfold notIterableAtAll
  refine aD (oF ty F.slot_list_iter.lookup ?_)
  refine aO ?_
  simp only[cD,if_false]
  refine aD (dP (iL ht ?_))
  refine aD (dP (Ym hlt items.size 0 _ _ ⟨_,aM _ rfl,rfl,rfl⟩ (ht.push _) (by omega) fun h₁ hit₁ hs₁=>?_))
  have hall:List.take items.size (List.drop 0 items.toList)=items.toList:=by
   rw[sL];exact eC (by simp)
  rw[hall]
  rw[if_neg (by simp)]
  have ht₁:h₁.IsList t items:=(ht.push _).extBut hs₁.extBut hlt
  refine aD (dP (oI hh hit₁ ht₁ (by simp) fun h₂ he₂=>?_))
  simp only[Option.isSome_none,cD,if_false]
  refine aO (hQ h₂ fun b o hb e=>he₂ b o hb (hs₁.extBut b o hb (aB _ e)))
theorem assign_Tuple_list{env:Env}{elts:List Expr}{x1}{pos:Pos}{t:Addr}{Q:Unit->aJ->Prop}(hh:A.handled=none)(ht:s.heap.IsList t items)
  (hn:(assignEach elts env).length=items.size) (hstar:(assignEach elts env).findIdx? (·.1)=none)
  (h:∀ h',kN s.heap.objs.size s.heap h'->wpAny (model prog w) A (assignInOrder ((assignEach elts env).map (·.2)) items.toList) Q E { s with heap:=h' }) :
  wpAny (model prog w) A (assign (.Tuple elts x1 pos) env (.ref t)) Q E s:=by
 rw[assign_Tuple]
 refine aD (mL ?_)
 unfold unpack
 rw[hn,hstar]
 exact aD (dP (Rj hh ht h))
end
end UL
namespace MR
open PySem PySem.Spec PyProof.Rows PySem.Calls L2
variable {k n:Nat}
section
variable {X:Cx}{es:List Expr}{pos:Pos}
def Az2(K:aE)(n:Nat)(t:TGs):TG:=fun v σ H Q=>∃ a xs,v = .ref a/\SqL K H a xs/\xs.length=n/\t xs σ H Q
theorem Apx{t:TGs}(hc:X.calm=true)(h:PGs X es t)
  (hn:(assignEach es X.env).length=n:=by rfl) (hst:(assignEach es X.env).findIdx? (·.1)=none:=by rfl):PG X (.Tuple es k pos) (Az2 X.K n t):=by
 intro pins s σ H v u Q I r hw
 obtain ⟨a,xs,e1,hq,hl,hw⟩:=hw
 subst e1
 cases r
 obtain ⟨its,rv,ht,hz⟩:=I.list hq
 refine UL.assign_Tuple_list (I.ok.hd hc) ht.isList (by simp[hn,<- hl,rv.length]) hst fun h' hx=>?_
 have I1:L2.Inv X pins σ H { s with heap:=h' }:=I.kept (t':=s.toks) fun b o e=>hx b o (cA (aP e)) e
 exact h pins _ σ H xs _ Q I1 (by simpa using rv) hw
def Od(n:Nat)(g:FGs):FG:=fun u δ L=>match u with
 | .ref m=>(Aw L m).bind fun us=>if us.length=n then g us δ L else none
 | u=>MR.gTup n g u δ L
theorem Vn{g:FGs}(hc:X.calm=true)(h:Anc X es g)(hn:(assignEach es X.env).length=n:=by rfl)(hst:(assignEach es X.env).findIdx? (·.1)=none:=by rfl):PGF X (.Tuple es k pos) (Od n g):=by
 intro pins s σ H v u Q I r hw
 obtain ⟨α,δ,L,w,A,S,rw,δ',L',e,q⟩:=hw
 cases w with
 | ref m=>
  unfold Od at e
  simp only at e
  obtain ⟨us,hus,e⟩:=aA.mp e
  split at e
  ·rename_i hl
   obtain ⟨a,ys,rfl,sq,r2⟩:=Lp A hus rw
   exact Apx hc h hn hst pins s σ H _ u Q I r ⟨a,ys,rfl,sq,by rw[<- r2.length];exact hl,α,δ,L,us,A,S,r2,δ',L',e,q⟩
  ·cases e
 | tup us=>exact Jw (k:=k) (pos:=pos) hc h hn hst pins s σ H v u Q I r ⟨α,δ,L,.tup us,A,S,rw,δ',L',e,q⟩
 | _=>simp[Od,MR.gTup] at e
end
structure FnG(K:aE)(mg:Str->Option aF)(x:Str)(st:Stmt)(ps:List Str) where
 f:Addr
 d:dW
 F:Fun K x x st f d
 b:Binds K d ps []
 g:mg x=some (.ref f)
structure FnM(K:aE)(C:Addr)(x q:Str)(st:Stmt)(ps:List Str) where
 f:Addr
 d:dW
 F:Fun K x q st f d
 b:Binds K d ps []
 me:Meth K C x f
abbrev As3(x q:Str)(st:Stmt)(ps:List Str):Prop:=∀ (kV doc pm:aF) (an:Option Addr) (cdv ct:aF) (us:List aF),us.length=ps.length->bindArgs (fF x q (Hh st) (Ff st) (Am st) .none kV doc pm an cdv ct) ⟨us,[]⟩=pure (ps.zip us)
theorem scm{N P:List Str}{sc:mF}(h1:sc.kind = .function:=by rfl)(h2:sc.isCoroutine=false:=by rfl)(h3:sc.isGenerator=false:=by rfl)(h4:N.Nodup:=by decide +kernel)(h5:N.take P.length=P:=by rfl)
  (h6:∀ x∈P,sc.names.lookup x=some .local\/sc.names.lookup x=some .cell:=by decide +kernel) (h7:∀ y∈sc.names,y.2≠.free:=by decide +kernel):FnScope N P sc:=⟨h1,h2,h3,h4,h5,h6,h7⟩
section
variable {K:aE}{h:Heap}{mg:Str->Option aF}{x q:Str}{st:Stmt}{ps:List Str}{f C:Addr}{od an:Option Addr}{sl:Array (Option aF)}{oc kV dc pm cd ct:aF}
def mkG(X:K.In h)(G:h.Ns bQ mg)(a:dF K bQ x=some (some (.ref f)))(l:K.lookup f=some ⟨oc,od,.func (fF x x (Hh st) (Ff st) (Am st) .none kV dc pm an cd ct),sl⟩)(c:jW K cd x=true)(k:dU K (.ref f)=true)(hb:As3 x x st ps):FnG K mg x st ps:=
 ⟨f,_,Aau l c k,(Aau l c k).binds hb,mU X G a⟩
def mkM(a:cL K (.ref C) x=some (some (.ref f)))(i:kY K (.ref f)=true)(l:K.lookup f=some ⟨oc,od,.func (fF x q (Hh st) (Ff st) (Am st) .none kV dc pm an cd ct),sl⟩)(c:jW K cd q=true)(k:dU K (.ref f)=true)(hb:As3 x q st ps):FnM K C x q st ps:=
 ⟨f,_,Aau l c k,(Aau l c k).binds hb,⟨a,i,k⟩⟩
theorem A3w{i:Int}{t:Tok}(X:K.In h)(G:h.Ns bQ mg)(a:dF K bQ x=some (some (.int i t))):∃ t,mg x=some (.int i t):=⟨t,mU X G a⟩
theorem A2w{z:Str}{t:Tok}(X:K.In h)(G:h.Ns bQ mg)(a:dF K bQ x=some (some (.str z t))):∃ t,mg x=some (.str z t):=⟨t,mU X G a⟩
theorem A0b(M:FnM K C "__init__" q st ps)(h:jM K C=true/\dU K (.ref C)=true):Mk K C M.f:=⟨h.1,M.me.at_,M.me.fn,h.2⟩
theorem FnG.law(c:FnG K mg "law" st ["script"]){Q:Addr->dW->Prop}{fa:Addr}(hfa:mg "law" = some (.ref fa))(hl:∀ (kV doc pm:aF) (an:Option Addr) (cdv ct:aF) (s:aJ) (v:aF),kZ s (fF "law" "law" (Hh st) (Ff st) (Am st) .none kV doc pm an cdv ct) ⟨[v],[]⟩ [("script",v)])(hQ:Q c.f c.d) :
  ∃ fd:dW,(∀ (s:aJ) (v:aF),kZ s fd ⟨[v],[]⟩ [("script",v)])/\Q fa fd:=by
 have e:=hfa.symm.trans c.g
 cases e
 obtain ⟨oc,od,kV,doc,pm,an,cdv,ct,osl,e,lk,hcd⟩:=c.F.ex
 refine ⟨c.d,fun s v=>?_,hQ⟩
 rw[e]
 exact hl kV doc pm an cdv ct s v
end
section
variable {X:Cx}{x m q C:Str}{Ca:Addr}{st:Stmt}{ps:List Str}{j:Nat}{F:FN}{e o:Expr}{es:List Expr}{g:FA}{fo:FE}{p pos apos:Pos}
theorem A8(c:FnG X.K X.mg x st ps)(hF:FnOk X.prog X.w X.K X.mg X.base CX0 k c.f c.d ps (spF X.K n F))(hr:Room j X.A)(ha:PAF X (e::es) g)(hg:Gl X x:=by rfl)(hk:k<=j:=by decide)
  (hdb:(x == ("__debug__" : Str))=false:=by decide) (he:aT (e::es) X.env=(false,eval e X.env)::aT es X.env:=by rfl) (hpl:(backTo pos (aT es X.env)).any (·.1)=false:=by rfl) :
  PEF X (.Call (.Name x p) (e::es) [] pos) (Ar n F g):=Ao6 hF (hr.mono hk) hg c.g c.F.kp c.b ha hdb he hpl
theorem Fx{pl:Sem Bool}(T:ClsF X.K C Ca)(c:FnM X.K Ca m q st ps)(hF:FnOk X.prog X.w X.K X.mg X.base CX0 k c.f c.d ps (spF X.K n F))(hr:Room j X.A)(ho:PEF X o fo)(ha:PAF X (e::es) g)(hk:k<=j:=by decide)
  (hst:aT (e::es) X.env=(false,eval e X.env)::aT es X.env:=by rfl) (hpl:(backTo pos (aT es X.env)).any (·.1)=false:=by rfl)
  (ht:eval (.Call (.Attribute o m apos) (e::es) [] pos) X.env=(do
   let ov <- eval o X.env
   standAt apos.atName
   let (f,first) <- holding [ov] (getMethod ov m pl)
   callWith pos f first (backTo pos (aT (e::es) X.env)) (backToKw pos (keywordEach [] X.env))):=by rfl) :
  PEF X (.Call (.Attribute o m apos) (e::es) [] pos) (Bh C m n F fo g):=Apc (pl:=pl) T c.me hF (hr.mono hk) c.b ho ha hst hpl ht
theorem Rz{pl:Sem Bool}(T:ClsF X.K C Ca)(c:FnM X.K Ca m q st ps)(hF:FnOk X.prog X.w X.K X.mg X.base CX0 k c.f c.d ps (spF X.K n F))(hr:Room j X.A)(ho:PEF X o fo)(hk:k<=j:=by decide)
  (ht:eval (.Call (.Attribute o m apos) [] [] pos) X.env=(do
   let ov <- eval o X.env
   standAt apos.atName
   let (f,first) <- holding [ov] (getMethod ov m pl)
   callWith pos f first (backTo pos (aT [] X.env)) (backToKw pos (keywordEach [] X.env))):=by rfl) :
  PEF X (.Call (.Attribute o m apos) [] [] pos) (Bh C m n F fo Ag):=Aj9 (pl:=pl) T c.me hF (hr.mono hk) c.b ho ht
end
end MR
namespace Lw
open PySem L2 MR
def C8:List (Str×List Str):=[("put",["name","number","number"]),("take",["name"]),("move",["name","number","number"]),("points",[]),("counts",[]),("pairs",[]),("halves",[]),("below",["number","number"]),("above",["number","number"]),("box",["number","number","number","number"]),("nth",["place","number","number","number","number"]),("stairs",[]),("longest",[]),("crowd",[])]
def Fw:FS:=(B7 (Adr (Gx "KeptPoints" "points" (Ae 0))))
def Bk:FN:=fnU 1 1 Fw
def Hb:FS:=(C5 (A0 (f2 Acq (Be Az (Ad (Bh "KeptPoints" "points_now" 1 Bk (Gx "Desk" "kept" (Ae 0)) Ag) Ag)) (fC (.int 60)))) Fp B9)
def Ee:FN:=fnU 1 1 Hb
def Gf:FS:=(C5 (A0 (f2 Ks (Ae 1) (Gx "KeptPoints" "points" (Ae 0)))) Fp B9)
def Cd:FN:=fnU 2 2 Gf
def F4:FS:=(Bc (C3 (Bh "KeptPoints" "need_name" 2 Cd (Ae 0) (Ad (Ae 1) Ag))) (Ac8 (Gx "KeptPoints" "points" (Ae 0)) (Ae 1) (Di (Ad (Ae 1) (Ad (Ae 2) (Ad (Ae 3) Ag))))))
def Co:FN:=fnU 4 4 F4
def Gi:FS:=(Bc (C5 (A0 (f2 Ri (Ae 1) (Gx "KeptPoints" "points" (Ae 0)))) Fp B9) (Ac8 (Gx "KeptPoints" "points" (Ae 0)) (Ae 1) (Di (Ad (Ae 1) (Ad (Ae 2) (Ad (Ae 3) Ag))))))
def Ct:FN:=fnU 4 4 Gi
def F6:FS:=(Bc (C3 (Bh "KeptPoints" "need_name" 2 Cd (Ae 0) (Ad (Ae 1) Ag))) (C3 (Agj (Gx "KeptPoints" "points" (Ae 0)) (Ae 1))))
def Cm:FN:=fnU 2 2 F6
def B8:FS:=(C5 (A0 (f2 B3 (Ae 1) (fC (.str "put")))) (Bc (C3 (Bh "Desk" "need_room" 1 Ee (Ae 0) Ag)) (C3 (Bh "KeptPoints" "put_point" 4 Ct (Gx "Desk" "kept" (Ae 0)) (Ad (f2 Al (Ae 2) (fC (.int 0))) (Ad (f2 Al (Ae 2) (fC (.int 1))) (Ad (f2 Al (Ae 2) (fC (.int 2))) Ag)))))) (C5 (A0 (f2 B3 (Ae 1) (fC (.str "take")))) (C3 (Bh "KeptPoints" "take_point" 2 Cm (Gx "Desk" "kept" (Ae 0)) (Ad (f2 Al (Ae 2) (fC (.int 0))) Ag))) (C3 (Bh "KeptPoints" "move_point" 4 Co (Gx "Desk" "kept" (Ae 0)) (Ad (f2 Al (Ae 2) (fC (.int 0))) (Ad (f2 Al (Ae 2) (fC (.int 1))) (Ad (f2 Al (Ae 2) (fC (.int 2))) Ag)))))))
def Bm:FN:=fnU 3 3 B8
def Uo:FS:=(B7 (Di (Ad (f2 Al (Ae 0) (fC (.int 1))) (Ad (f2 Al (Ae 0) (fC (.int 2))) Ag))))
def G2:FN:=fnU 1 1 Uo
def Dm:FE:=(Ar 1 G2 (Ad (Ae 0) Ag))
def Fy:FS:=(B7 (Ag8 (B5 [none] (Xo Xr (Gx "KeptPoints" "points" (Ae 0))) (gN 0) none Dm)))
def Bx:FN:=fnU 1 1 Fy
def Ic:FE:=(f2 Em (Ae 0) (Ae 1))
def Lu:FS:=(B7 (Se (f2 Cr (Ae 0) (Ae 1)) (Be Q9 (Ad (B5 [none,none] (Ag1 (Ad (Ae 0) (Ad (Ae 1) Ag))) (MR.gTup 2 (MR.gCons (gN 0) (MR.gCons (gN 1) MR.gNil))) none Ic) Ag))))
def E6:FN:=fnU 2 2 Lu
def Hx:FE:=(Ae 0)
def b_many_above_1t:FT:=(F8 (Ar 2 E6 (Ad (Ae 1) (Ad (Ae 0) Ag))))
def Qj:FS:=(B7 (Be Az (Ad (B5 [none,some 1] (Bu (Ae 0)) (gN 0) (some b_many_above_1t) Hx) Ag)))
def Gm:FN:=fnU 2 2 Qj
def Lq:FS:=(B7 (Ar 2 Gm (Ad (Bh "KeptPoints" "places_now" 1 Bx (Ae 0) Ag) (Ad (Di (Ad (Ae 1) (Ad (Ae 2) Ag))) Ag))))
def Eh:FN:=fnU 3 3 Lq
def Ib:FE:=(Ae 0)
def b_many_below_1t:FT:=(F8 (Ar 2 E6 (Ad (Ae 0) (Ad (Ae 1) Ag))))
def Qm:FS:=(B7 (Be Az (Ad (B5 [none,some 1] (Bu (Ae 0)) (gN 0) (some b_many_below_1t) Ib) Ag)))
def Ga:FN:=fnU 2 2 Qm
def Ld:FS:=(B7 (Ar 2 Ga (Ad (Bh "KeptPoints" "places_now" 1 Bx (Ae 0) Ag) (Ad (Di (Ad (Ae 1) (Ad (Ae 2) Ag))) Ag))))
def Eg:FN:=fnU 3 3 Ld
def Yc:FS:=(B7 (Se (Hf Em Em (f2 Al (Ae 1) (fC (.int 0))) (f2 Al (Ae 0) (fC (.int 1))) (f2 Al (Ae 1) (fC (.int 2)))) (Hf Em Em (f2 Al (Ae 1) (fC (.int 1))) (f2 Al (Ae 0) (fC (.int 2))) (f2 Al (Ae 1) (fC (.int 3))))))
def Nr:FN:=fnU 2 2 Yc
def Ms:FE:=(Ae 0)
def Je:FT:=(F8 (Ar 2 Nr (Ad (Ae 0) (Ad (Ae 1) Ag))))
def Sk:FS:=(B7 (B5 [none,some 1] (Bu (Ae 0)) (gN 0) (some Je) Ms))
def Ju:FN:=fnU 2 2 Sk
def Ke:FE:=(Be Az (Ad (Ar 2 Ju (Ad (Ae 1) (Ad (Ae 0) Ag))) Ag))
def T9:FS:=(B7 (Be semTuple (Ad (B5 [none,some 0] (Bu (Ae 1)) (gN 0) none Ke) Ag)))
def K5:FN:=fnU 2 2 T9
def Hn:FS:=(B7 (f2 Al (Ar 2 K5 (Ad (Bh "KeptPoints" "points_now" 1 Bk (Ae 0) Ag) (Ad (Di (Ad (Ae 1) Ag)) Ag))) (fC (.int 0))))
def Du:FN:=fnU 2 2 Hn
def Dj:FS:=(Bc (C5 (A0 (f2 B3 (Ae 1) (fC (.str "below")))) (B7 (Di (Ad (Bh "KeptPoints" "below_now" 3 Eg (Gx "Desk" "kept" (Ae 0)) (Ad (f2 Al (Ae 2) (fC (.int 0))) (Ad (f2 Al (Ae 2) (fC (.int 1))) Ag))) Ag))) B9) (Bc (C5 (A0 (f2 B3 (Ae 1) (fC (.str "above")))) (B7 (Di (Ad (Bh "KeptPoints" "above_now" 3 Eh (Gx "Desk" "kept" (Ae 0)) (Ad (f2 Al (Ae 2) (fC (.int 0))) (Ad (f2 Al (Ae 2) (fC (.int 1))) Ag))) Ag))) B9) (Bc (C5 (A0 (f2 B3 (Ae 1) (fC (.str "box")))) (B7 (Di (Ad (Bh "KeptPoints" "box_now" 2 Du (Gx "Desk" "kept" (Ae 0)) (Ad (Ae 2) Ag)) Ag))) B9) Fp)))
def Dh:FN:=fnU 3 3 Dj
def Mb:FE:=(f2 (Gz false) (Ae 0) (Ae 1))
def Pz:FS:=(B7 (Be Q9 (Ad (B5 [none,some 1] (Acv (Ae 0)) (gN 0) none Mb) Ag)))
def Ej:FN:=fnU 2 2 Pz
def Aiy:FS:=(B7 (Se (Hf Em Em (fC (.int 1)) (Be Az (Ad (Ae 0) Ag)) (fC (.int 8))) (Ar 2 Ej (Ad (Ae 0) (Ad (fC (.str "abcdefghijklmnopqrstuvwxyz")) Ag)))))
def Rn:FN:=fnU 1 1 Aiy
def Sa:FS:=(Bc (Bo (fIf (F8 (C2 "str" semStarts (Ae 0) (Ad (fC (.str "-")) Ag))) (fSl U4 (Ae 0) (Cw (fC (.int 1))) Bq) (Ae 0)) (gN 1)) (Bc (C5 (fOr (A0 (f2 B3 (Ae 1) (fC (.str "")))) (Rl (F8 (Ar 2 Ej (Ad (Ae 1) (Ad (fC (.str "0123456789")) Ag)))))) (B7 (fC (.bl false))) B9) (B7 (An4 (f2 Cr (f2 Al (Ae 1) (fC (.int 0))) (fC (.str "0"))) (f2 B3 (Ae 0) (fC (.str "0")))))))
def Mw:FN:=fnU 2 1 Sa
def Jr:FS:=(Bc (C5 (A0 (f2 B3 (Ae 1) (fC (.str "name")))) (Bc (C5 (Rl (F8 (Ar 1 Rn (Ad (Ae 0) Ag)))) Fp B9) (B7 (Ae 0))) B9) (Bc (C5 (fOr (Rl (F8 (Ar 1 Mw (Ad (Ae 0) Ag)))) (A0 (f2 Abj (Be Az (Ad (C2 "str" Iw (Ae 0) (Ad (fC (.str "-")) Ag)) Ag)) (fC (.int 10))))) Fp B9) (Bc (C5 (Mg (A0 (f2 B3 (Ae 1) (fC (.str "place")))) (F8 (C2 "str" semStarts (Ae 0) (Ad (fC (.str "-")) Ag)))) Fp B9) (B7 (Be P7 (Ad (Ae 0) Ag))))))
def Fu:FN:=fnU 2 2 Jr
def Jy:FE:=(Ar 2 Fu (Ad (Ae 0) (Ad (Ae 1) Ag)))
def Jo:FS:=(Bc (Bo (Aak C8 (f2 Al (Ae 0) (fC (.int 0)))) (gN 1)) (Bc (C5 (fOr (A0 (f2 Ae5 (Ae 1) (fC .non))) (A0 (f2 Cr (Be Az (Ad (Ae 1) Ag)) (f2 Ht (Be Az (Ad (Ae 0) Ag)) (fC (.int 1)))))) Fp B9) (B7 (Be semTuple (Ad (B5 [none,none] (Ag6 (Ad (fSl Cz (Ae 0) (Cw (fC (.int 1))) Bq) (Ad (Ae 1) Ag))) (MR.gTup 2 (MR.gCons (gN 0) (MR.gCons (gN 1) MR.gNil))) none Jy) Ag)))))
def Gp:FN:=fnU 2 1 Jo
def Ia:FE:=(Ar 2 Gm (Ad (Ae 1) (Ad (Ae 0) Ag)))
def Hy:FE:=(Ar 1 G2 (Ad (Ae 0) Ag))
def Qr:FS:=(Bc (Bo (B5 [none] (Bu (Ae 0)) (gN 0) none Hy) (gN 1)) (B7 (Be semTuple (Ad (B5 [none,some 1] (Bu (Ae 1)) (gN 0) none Ia) Ag))))
def Ge:FN:=fnU 2 1 Qr
def Hz:FE:=(Ar 2 Ga (Ad (Ae 1) (Ad (Ae 0) Ag)))
def Hu:FE:=(Ar 1 G2 (Ad (Ae 0) Ag))
def Q0:FS:=(Bc (Bo (B5 [none] (Bu (Ae 0)) (gN 0) none Hu) (gN 1)) (B7 (Be semTuple (Ad (B5 [none,some 1] (Bu (Ae 1)) (gN 0) none Hz) Ag))))
def E5:FN:=fnU 2 1 Q0
def Na:FS:=(B7 (Be U0 (Ad (Ar 1 E5 (Ad (Ae 0) Ag)) Ag)))
def E2:FN:=fnU 1 1 Na
def K3:FE:=(f2 Al (Ae 0) (fC (.int 0)))
def He:FS:=(Bc (C5 (A0 (f2 B3 (Ae 0) (fC (.str "points")))) (B7 (Ae 1)) B9) (Bc (C5 (A0 (f2 B3 (Ae 0) (fC (.str "counts")))) (Bc (Bo (B5 [none] (Bu (Ae 1)) (gN 0) none K3) (gN 2)) (B7 (Aai (Ad (Ae 2) (Ad (Ar 1 E5 (Ad (Ae 1) Ag)) (Ad (Ar 1 Ge (Ad (Ae 1) Ag)) Ag)))))) B9) (Bc (C5 (A0 (f2 B3 (Ae 0) (fC (.str "pairs")))) (B7 (B1 (Ad (Di (Ad (Ar 1 E2 (Ad (Ae 1) Ag)) Ag)) Ag))) B9) (Bc (C5 (A0 (f2 B3 (Ae 0) (fC (.str "halves")))) Fp B9) (Bc (C5 (A0 (f2 B3 (Ae 0) (fC (.str "stairs")))) Fp B9) (Bc (C5 (A0 (f2 B3 (Ae 0) (fC (.str "longest")))) (Bc Fp Fp) B9) Fp))))))
def Iy:FN:=fnU 3 2 He
def E3:FE:=(Be Sy (Ad (Ae 0) Ag))
def Nb:FS:=(B7 (C2 "str" Hi (fC (.str " ")) (Ad (B5 [none] (Bu (Ae 0)) (gN 0) none E3) Ag)))
def Nd:FN:=fnU 1 1 Nb
def Ma:FE:=(Ar 1 Nd (Ad (Ae 0) Ag))
def b_rows_shown_1t:FT:=(F8 (Ae 0))
def Lh:FS:=(B7 (B5 [none] (Bu (Ae 0)) (gN 0) (some b_rows_shown_1t) Ma))
def Ci:FN:=fnU 1 1 Lh
def Fh:FS:=(Bc (Bo (C2 "str" Jn (Ae 1) (Ad (fC (.str " ")) Ag)) (gN 2)) (Bc (Bo (Ar 1 Gp (Ad (Ae 2) Ag)) (gN 3)) (Bc (C5 (A0 (f2 (Gz false) (f2 Al (Ae 2) (fC (.int 0))) (Di (Ad (fC (.str "put")) (Ad (fC (.str "take")) (Ad (fC (.str "move")) Ag)))))) (Bc (C3 (Bh "Desk" "change_points" 3 Bm (Ae 0) (Ad (f2 Al (Ae 2) (fC (.int 0))) (Ad (Ae 3) Ag)))) (B7 (B1 Ag))) B9) (Bc (C5 (F8 (Ae 3)) (B7 (Ar 1 Ci (Ad (B1 (Ad (Bh "Desk" "told_at" 3 Dh (Ae 0) (Ad (f2 Al (Ae 2) (fC (.int 0))) (Ad (Ae 3) Ag))) Ag)) Ag))) B9) (B7 (Ar 1 Ci (Ad (Ar 2 Iy (Ad (f2 Al (Ae 2) (fC (.int 0))) (Ad (Bh "KeptPoints" "points_now" 1 Bk (Gx "Desk" "kept" (Ae 0)) Ag) Ag))) Ag)))))))
def Ax:FN:=fnU 4 2 Fh
def Py:FS:=(Bc (Bo (f2 A9 (f2 Al (Ae 0) (fC (.int 2))) (fC (.int 1))) (MR.gSub (Ae 0) (fC (.int 2)))) (Bc (C5 (Mg (A0 (f2 B3 (f2 Al (Ae 0) (fC (.int 1))) (fC (.int 1)))) (A0 (f2 Abj (f2 Al (Ae 0) (fC (.int 0))) (fC (.int 0))))) (Bc (Bo (f2 J3 (f2 Al (Ae 0) (fC (.int 0))) (Ae 1)) (gN 2)) (Bc (Bo (f2 Rt (f2 Al (Ae 0) (fC (.int 0))) (Ae 1)) (MR.gSub (Ae 0) (fC (.int 0)))) (B7 (Ae 2)))) B9) (Bc (Bo (f2 J3 (f2 Lg (f2 A9 (f2 A9 (f2 Al (Ae 0) (fC (.int 3))) (f2 Lg (fC (.int 7547)) (f2 Al (Ae 0) (fC (.int 2))))) (fC (.int 47))) (fC (.int 48271))) (fC (.int 2147483647))) (gN 3)) (Bc (Bo (f2 J3 (f2 Lg (f2 J3 (f2 Lg (Ae 3) (Ae 3)) (fC (.int 2147483629))) (fC (.int 40692))) (fC (.int 2147483399))) (gN 3)) (B7 (f2 J3 (f2 Rt (Ae 3) (fC (.int 7))) (Ae 1)))))))
def An:FN:=fnU 4 2 Py
def U7:FS:=(Bc (C5 (A0 (f2 Agz (Ae 1) (fC (.int 8)))) (B7 (f2 Al (Ae 0) (Ae 1))) B9) (B7 (f2 A9 (f2 A9 (fC (.str "zy")) (f2 Al (fC (.str "abcdefgh")) (f2 Rt (Ae 1) (fC (.int 8))))) (f2 Al (fC (.str "qrstuvwx")) (f2 J3 (Ae 1) (fC (.int 8)))))))
def Gj:FN:=fnU 2 2 U7
def Nn:FS:=(Bc (C5 (A0 (f2 Agz (Ae 1) (fC (.int 2)))) (B7 (f2 Ht (Ar 2 An (Ad (Ae 0) (Ad (f2 Al (B1 (Ad (fC (.int 3)) (Ad (fC (.int 12)) Ag))) (Ae 1)) Ag))) (fC (.int 1)))) B9) (B7 (f2 Lg (f2 A9 (f2 Lg (Ar 2 An (Ad (Ae 0) (Ad (f2 J5 (fC (.int 10)) (fC (.int 5))) Ag))) (f2 J5 (fC (.int 10)) (fC (.int 5)))) (Ar 2 An (Ad (Ae 0) (Ad (f2 J5 (fC (.int 10)) (fC (.int 5))) Ag)))) (f2 Al (B1 (Ad (fC (.int 1)) (Ad (Ug (fC (.int 1))) Ag))) (Ar 2 An (Ad (Ae 0) (Ad (fC (.int 2)) Ag)))))))
def Ec:FN:=fnU 2 2 Nn
def J2:FE:=(C2 "list" Rx (Ae 1) (Ad (Ar 2 An (Ad (Ae 2) (Ad (Be Az (Ad (Ae 1) Ag)) Ag))) Ag))
def Hk:FE:=(f2 Al (Ae 1) (Ar 2 An (Ad (Ae 2) (Ad (fC (.int 26)) Ag))))
def Lo:FS:=(Bc (Bo (C2 "str" Hi (fC (.str "")) (Ad (B5 [none,some 2,some 0] (Er (Ad (f2 A9 (fC (.int 1)) (Ar 2 An (Ad (Ae 0) (Ad (fC (.int 8)) Ag)))) Ag)) (gN 0) none Hk) Ag)) (gN 4)) (C5 (Mg (A0 (f2 (Gz true) (Ae 4) (Ae 1))) (A0 (f2 (Gz true) (f2 Al (Ae 4) (fC (.int 0))) (fC (.str "yz"))))) (C3 (C2 "list" De (Ae 1) (Ad (Ae 4) Ag))) B9))
def Tz:FS:=(Bc (Bo (B1 (Ad (fC (.str "a")) (Ad (fC (.str "ba")) (Ad (fC (.str "ab")) (Ad (fC (.str "aa")) (Ad (fC (.str "put")) (Ad (fC (.str "nodes")) (Ad (fC (.str "node")) (Ad (fC (.str "pairs")) (Ad (fC (.str "bab")) (Ad (fC (.str "nth")) (Ad (fC (.str "longname")) (Ad (fC (.str "longnamf")) Ag))))))))))))) (gN 1)) (Bc (Bo (fC (.str "abcdefghijklmnopqrstuvwxyz")) (gN 2)) (Bc (Pg (Er (Ad (fC (.int 4)) Ag)) (gN 3) Lo) (B7 (B5 [none,some 1,some 0] (Er (Ad (fC (.int 8)) Ag)) (gN 0) none J2)))))
def Vo:FN:=fnU 5 1 Tz
def J1:FS:=(Bc (Bo (Ar 2 Ec (Ad (Ae 0) (Ad (Ae 3) Ag))) (gN 6)) (Bc (Bo (Ar 2 Ec (Ad (Ae 0) (Ad (Ae 3) Ag))) (gN 7)) (Bc (C5 (Mg (A0 (f2 Cr (Ae 4) (B1 Ag))) (A0 (f2 B3 (Ar 2 An (Ad (Ae 0) (Ad (fC (.int 6)) Ag))) (fC (.int 0))))) (Bc (Bo (f2 Al (f2 Al (Ae 4) (Ar 2 An (Ad (Ae 0) (Ad (Be Az (Ad (Ae 4) Ag)) Ag)))) (fC (.int 1))) (gN 6)) (Bo (f2 Al (f2 Al (Ae 4) (Ar 2 An (Ad (Ae 0) (Ad (Be Az (Ad (Ae 4) Ag)) Ag)))) (fC (.int 2))) (gN 7))) B9) (C3 (C2 "list" De (Ae 4) (Ad (Di (Ad (Ar 2 Gj (Ad (Ae 2) (Ad (Ae 5) Ag))) (Ad (Ae 6) (Ad (Ae 7) Ag)))) Ag))))))
def Q5:FS:=(Bc (Bo (Ar 1 Vo (Ad (Ae 0) Ag)) (gN 2)) (Bc (Bo (Ar 2 An (Ad (Ae 0) (Ad (fC (.int 3)) Ag))) (gN 3)) (Bc (Bo (B1 Ag) (gN 4)) (Bc (Pg (Er (Ad (Ar 2 An (Ad (Ae 0) (Ad (f2 A9 (Ae 1) (fC (.int 1))) Ag))) Ag)) (gN 5) J1) (B7 (B1 (Ad (Ae 2) (Ad (Ae 3) (Ad (Ae 4) Ag)))))))))
def Ru:FN:=fnU 8 2 Q5
def Ai6:FS:=(B7 (f2 A9 (fSl Cz (Ae 0) Bq (Cw (Ae 1))) (B1 (Ad (Be Az (Ad (Ae 0) Ag)) Ag))))
def Kj:FN:=fnU 2 2 Ai6
def Rv:FS:=(B7 (Se (f2 Cr (Ae 0) (Ae 1)) (Se (f2 Em (f2 Al (Ae 0) (fC (.int 0))) (f2 Al (Ae 1) (fC (.int 0)))) (f2 Em (f2 Al (Ae 0) (fC (.int 1))) (f2 Al (Ae 1) (fC (.int 1)))))))
def G8:FN:=fnU 2 2 Rv
def Ow:FE:=(fC (.int 1))
def Oz:FT:=(F8 (Ar 2 G8 (Ad (Di (Ad (Ae 1) (Ad (Ae 2) Ag))) (Ad (fSl Cz (Ae 0) (Cw (fC (.int 1))) Bq) Ag))))
def Ou:FE:=(fC (.int 1))
def Oc:FT:=(F8 (Ar 2 G8 (Ad (fSl Cz (Ae 0) (Cw (fC (.int 1))) Bq) (Ad (Di (Ad (Ae 1) (Ad (Ae 2) Ag))) Ag))))
def Li:FS:=(Bc (Bo (Be Az (Ad (B5 [none,some 3,some 4] (Bu (Ae 0)) (gN 0) (some Oc) Ou) Ag)) (gN 5)) (Bc (Bo (Be Az (Ad (B5 [none,some 3,some 4] (Bu (Ae 0)) (gN 0) (some Oz) Ow) Ag)) (gN 6)) (C3 (C2 "list" De (Ae 1) (Ad (f2 A9 (Ae 2) (Eb [(fC (.str " ")),(Ea (Ae 5)),(fC (.str " ")),(Ea (Ae 6))])) Ag)))))
def Ph:FS:=(Bc (Bo (B1 Ag) (gN 1)) (Bc (Pg (Bu (Ae 0)) (MR.gTup 3 (MR.gCons (gN 2) (MR.gCons (gN 3) (MR.gCons (gN 4) MR.gNil)))) Li) (B7 (Ae 1))))
def Hc:FN:=fnU 7 1 Ph
def Mx:FE:=(f2 A9 (Ae 0) (Eb [(fC (.str " ")),(Ea (Ae 1)),(fC (.str " ")),(Ea (Ae 2))]))
def U2:FS:=(B7 (B5 [none,none,none] (Bu (Ae 0)) (MR.gTup 3 (MR.gCons (gN 0) (MR.gCons (gN 1) (MR.gCons (gN 2) MR.gNil)))) none Mx))
def Dx:FN:=fnU 1 1 U2
def Hl:FE:=(Ar 2 Gj (Ad (Ae 1) (Ad (Ae 0) Ag)))
def Hm:FT:=(A0 (f2 (Gz true) (Ar 2 Gj (Ad (Ae 1) (Ad (Ae 0) Ag))) (Ae 2)))
def R8:FE:=(f2 Al (Ae 0) (fC (.int 0)))
def Ud:FS:=(Bc (Bo (B5 [none] (Bu (Ae 3)) (gN 0) none R8) (gN 4)) (Bc (Bo (Ar 2 An (Ad (Ae 0) (Ad (fC (.int 4)) Ag))) (gN 5)) (Bc (Bo (Ar 2 Ec (Ad (Ae 0) (Ad (Ae 2) Ag))) (gN 6)) (Bc (Bo (Ar 2 Ec (Ad (Ae 0) (Ad (Ae 2) Ag))) (gN 7)) (Bc (C5 (Mg (A0 (f2 Cr (Ae 3) (B1 Ag))) (A0 (f2 B3 (Ar 2 An (Ad (Ae 0) (Ad (fC (.int 4)) Ag))) (fC (.int 0))))) (Bc (Bo (f2 Al (f2 Al (Ae 3) (fC (.int 0))) (fC (.int 1))) (gN 6)) (Bo (f2 Al (f2 Al (Ae 3) (Ug (fC (.int 1)))) (fC (.int 2))) (gN 7))) B9) (Bc (C5 (Mg (A0 (f2 Cr (Ae 3) (B1 Ag))) (fOr (A0 (f2 B3 (Ae 5) (fC (.int 0)))) (A0 (f2 B3 (Be Az (Ad (Ae 3) Ag)) (fC (.int 60)))))) (Bc (Bo (Ar 2 An (Ad (Ae 0) (Ad (Be Az (Ad (Ae 3) Ag)) Ag))) (gN 8)) (B7 (B1 (Ad (f2 A9 (fC (.str "take ")) (f2 Al (Ae 4) (Ae 8))) (Ad (f2 A9 (fSl Cz (Ae 3) Bq (Cw (Ae 8))) (fSl Cz (Ae 3) (Cw (f2 A9 (Ae 8) (fC (.int 1)))) Bq)) Ag))))) B9) (Bc (C5 (Mg (A0 (f2 Cr (Ae 3) (B1 Ag))) (A0 (f2 B3 (Ae 5) (fC (.int 1))))) (Bc (Bo (Ar 2 An (Ad (Ae 0) (Ad (Be Az (Ad (Ae 3) Ag)) Ag))) (gN 8)) (Bc (Bo (Di (Ad (f2 Al (Ae 4) (Ae 8)) (Ad (Ae 6) (Ad (Ae 7) Ag)))) (gN 9)) (B7 (B1 (Ad (f2 A9 (fC (.str "move ")) (f2 Al (Ar 1 Dx (Ad (B1 (Ad (Ae 9) Ag)) Ag)) (fC (.int 0)))) (Ad (f2 A9 (f2 A9 (fSl Cz (Ae 3) Bq (Cw (Ae 8))) (B1 (Ad (Ae 9) Ag))) (fSl Cz (Ae 3) (Cw (f2 A9 (Ae 8) (fC (.int 1)))) Bq)) Ag)))))) B9) (Bc (Bo (B5 [none,some 1,some 4] (Er (Ad (Be K1 (Ad (fC (.int 60)) (Ad (f2 A9 (Be Az (Ad (Ae 3) Ag)) (fC (.int 9))) Ag))) Ag)) (gN 0) (some Hm) Hl) (gN 10)) (Bc (Bo (Di (Ad (f2 Al (Ae 10) (Ar 2 An (Ad (Ae 0) (Ad (Be Az (Ad (Ae 10) Ag)) Ag)))) (Ad (Ae 6) (Ad (Ae 7) Ag)))) (gN 11)) (B7 (B1 (Ad (f2 A9 (fC (.str "put ")) (f2 Al (Ar 1 Dx (Ad (B1 (Ad (Ae 11) Ag)) Ag)) (fC (.int 0)))) (Ad (f2 A9 (Ae 3) (B1 (Ad (Ae 11) Ag))) Ag)))))))))))))
def Ub:FN:=fnU 12 4 Ud
def G1:FS:=(Adk "KeptPoints" "points" (Ae 0) Ake)
def Cy:FN:=fnU 1 1 G1
def Ly:FS:=(Adk "Desk" "kept" (Ae 0) (Si "KeptPoints" 1 Cy Ag))
def El:FN:=fnU 1 1 Ly
def Ux:FS:=(C3 (Bh "Desk" "ask" 2 Ax (Ae 1) (Ad (f2 A9 (fC (.str "put ")) (Ae 2)) Ag)))
def Vg:FS:=(Bc (Bo (Si "Desk" 1 El Ag) (gN 1)) (Bc (Pg (Bu (Ar 1 Dx (Ad (Ae 0) Ag))) (gN 2) Ux) (B7 (Ae 1))))
def Uz:FN:=fnU 3 1 Vg
def Gq:FS:=(Bc (Bo (Di (Ad (Ar 2 Ec (Ad (Ae 0) (Ad (Ae 1) Ag))) (Ad (Ar 2 Ec (Ad (Ae 0) (Ad (Ae 1) Ag))) Ag))) (gN 3)) (Bc (C5 (Mg (A0 (f2 Cr (Ae 2) (B1 Ag))) (A0 (f2 B3 (Ar 2 An (Ad (Ae 0) (Ad (fC (.int 2)) Ag))) (fC (.int 0))))) (Bc (Bo (Ar 2 An (Ad (Ae 0) (Ad (Be Az (Ad (Ae 2) Ag)) Ag))) (gN 4)) (Bo (Di (Ad (f2 Ht (f2 Al (f2 Al (Ae 2) (Ae 4)) (fC (.int 1))) (Ar 2 An (Ad (Ae 0) (Ad (fC (.int 2)) Ag)))) (Ad (f2 Al (f2 Al (Ae 2) (Ar 2 An (Ad (Ae 0) (Ad (Be Az (Ad (Ae 2) Ag)) Ag)))) (fC (.int 2))) Ag))) (gN 3))) B9) (B7 (Di (Ad (Be Pu (Ad (f2 Al (Ae 3) (fC (.int 0))) (Ad (f2 Ht (fC (.int 1)) (f2 J5 (fC (.int 10)) (fC (.int 10)))) Ag))) (Ad (f2 Al (Ae 3) (fC (.int 1))) Ag))))))
def Gb:FN:=fnU 5 3 Gq
def Im:FE:=(fC (.int 1))
def Ip:FT:=(Mg (A0 (Hf Em Em (Ae 1) (f2 Al (Ae 0) (fC (.int 1))) (Ae 2))) (A0 (Hf Em Em (Ae 3) (f2 Al (Ae 0) (fC (.int 2))) (Ae 4))))
def Fs:FS:=(C5 (A0 (f2 Cr (Bh "Desk" "ask" 2 Ax (Ae 2) (Ad (Ae 9) Ag)) (B1 (Ad (Ea (Ae 10)) Ag)))) (B7 (fC (.bl false))) B9)
def Iq:FE:=(fC (.int 1))
def Ii:FT:=(F8 (Ar 2 G8 (Ad (Di (Ad (Ae 1) (Ad (Ae 2) Ag))) (Ad (fSl Cz (Ae 0) (Cw (fC (.int 1))) Bq) Ag))))
def Ie:FE:=(fC (.int 1))
def Ig:FT:=(F8 (Ar 2 G8 (Ad (fSl Cz (Ae 0) (Cw (fC (.int 1))) Bq) (Ad (Di (Ad (Ae 1) (Ad (Ae 2) Ag))) Ag))))
def G7:FS:=(Bc (Bo (Ar 3 Gb (Ad (Ae 0) (Ad (Ae 1) (Ad (Ae 3) Ag)))) (MR.gTup 2 (MR.gCons (gN 4) (MR.gCons (gN 5) MR.gNil)))) (Bc (Bo (Be Az (Ad (B5 [none,some 4,some 5] (Bu (Ae 3)) (gN 0) (some Ig) Ie) Ag)) (gN 6)) (Bc (Bo (Be Az (Ad (B5 [none,some 4,some 5] (Bu (Ae 3)) (gN 0) (some Ii) Iq) Ag)) (gN 7)) (Bc (Bo (Acg (B1 (Ad (B1 (Ad (Eb [(fC (.str "below ")),(Ea (Ae 4)),(fC (.str " ")),(Ea (Ae 5))]) (Ad (Ae 6) Ag))) (Ad (B1 (Ad (Eb [(fC (.str "above ")),(Ea (Ae 4)),(fC (.str " ")),(Ea (Ae 5))]) (Ad (Ae 7) Ag))) Ag))) (f2 Al (B1 (Ad (fC (.int 1)) (Ad (Ug (fC (.int 1))) Ag))) (Ar 2 An (Ad (Ae 0) (Ad (fC (.int 2)) Ag))))) (gN 8)) (Bc (Pg (Bu (fSl Cz (Ae 8) Bq (Cw (f2 A9 (fC (.int 1)) (Ar 2 An (Ad (Ae 0) (Ad (fC (.int 2)) Ag))))))) (Od 2 (MR.gCons (gN 9) (MR.gCons (gN 10) MR.gNil))) Fs) (Bc (Bo (Ar 3 Gb (Ad (Ae 0) (Ad (Ae 1) (Ad (Ae 3) Ag)))) (MR.gTup 2 (MR.gCons (gN 11) (MR.gCons (gN 12) MR.gNil)))) (Bc (Bo (Be Az (Ad (B5 [none,some 4,some 11,some 5,some 12] (Bu (Ae 3)) (gN 0) (some Ip) Im) Ag)) (gN 13)) (B7 (f2 B3 (Bh "Desk" "ask" 2 Ax (Ae 2) (Ad (Eb [(fC (.str "box ")),(Ea (Ae 4)),(fC (.str " ")),(Ea (Ae 5)),(fC (.str " ")),(Ea (Ae 11)),(fC (.str " ")),(Ea (Ae 12))]) Ag)) (B1 (Ad (Ea (Ae 13)) Ag)))))))))))
def G3:FN:=fnU 14 4 G7
def Mr:FS:=(C5 (Rl (F8 (Ar 4 G3 (Ad (Ae 0) (Ad (Ae 1) (Ad (Ae 2) (Ad (Ae 3) Ag))))))) (B7 (fC (.bl false))) B9)
def Qw:FE:=(fC (.int 1))
def Qu:FT:=(F8 (Ar 2 G8 (Ad (fSl Cz (Ae 1) (Cw (fC (.int 1))) Bq) (Ad (fSl Cz (Ae 0) (Cw (fC (.int 1))) Bq) Ag))))
def Mv:FS:=(Bo (f2 A9 (Ae 5) (Be Az (Ad (B5 [none,some 6] (Bu (Ae 3)) (gN 0) (some Qu) Qw) Ag))) (gN 5))
def Rr:FS:=(Bc (Bo (Bh "Desk" "ask" 2 Ax (Ae 2) (Ad (fC (.str "points")) Ag)) (gN 4)) (Bc (C5 (fOr (Rl (F8 (Ajt "list" (Ae 4)))) (A0 (f2 Cr (Ae 4) (Ar 1 Dx (Ad (Ae 3) Ag))))) (B7 (fC (.bl false))) B9) (Bc (C3 (C2 "list" Mp (Ae 4) Ag)) (Bc (Bo (Bh "Desk" "ask" 2 Ax (Ae 2) (Ad (fC (.str "counts")) Ag)) (gN 4)) (Bc (C5 (A0 (f2 Cr (Ae 4) (Ar 1 Hc (Ad (Ae 3) Ag)))) (B7 (fC (.bl false))) B9) (Bc (C3 (C2 "list" Mp (Ae 4) Ag)) (Bc (Bo (fC (.int 0)) (gN 5)) (Bc (Pg (Bu (Ae 3)) (gN 6) Mv) (Bc (C5 (A0 (f2 Cr (Bh "Desk" "ask" 2 Ax (Ae 2) (Ad (fC (.str "pairs")) Ag)) (B1 (Ad (Ea (Ae 5)) Ag)))) (B7 (fC (.bl false))) B9) (Bc (Pg (Er (Ad (fC (.int 2)) Ag)) (gN 7) Mr) (B7 (f2 B3 (Bh "Desk" "ask" 2 Ax (Ae 2) (Ad (fC (.str "points")) Ag)) (Ar 1 Dx (Ad (Ae 3) Ag))))))))))))))
def Km:FN:=fnU 8 4 Rr
def Abu:FS:=(Bc (Bo (Be Pu (Ad (Ae 0) (Ad (f2 Ht (fC (.int 0)) (Ae 0)) Ag))) (gN 1)) (B7 (B1 (Ad (Ae 1) (Ad (Be Aab (Ad (f2 Acq (Ae 1) (f2 J5 (fC (.int 10)) (fC (.int 18)))) Ag)) (Ad (fC (.int 0)) (Ad (f2 J3 (Ae 0) (fC (.int 1999999891))) Ag)))))))
def Mm:FN:=fnU 2 1 Abu
def Vi:FE:=(fC (.int 1))
def Uc:FT:=(A0 (f2 Cr (Ae 0) (Ae 1)))
def Tn:FS:=(Bc (Bo (Ar 1 Mm (Ad (Ae 7) Ag)) (gN 1)) (Bc (C5 (Rl (F8 (Ar 4 Km (Ad (Ae 1) (Ad (Ae 3) (Ad (Ae 5) (Ad (Ae 4) Ag))))))) (B7 (fC (.bl false))) B9) (Bc (C3 (C2 "list" De (Ae 6) (Ad (Di (Ad (Bh "Desk" "ask" 2 Ax (Ae 5) (Ad (fC (.str "points")) Ag)) (Ad (Ar 1 Dx (Ad (Ae 4) Ag)) Ag))) Ag))) (Bc (C3 (C2 "list" De (Ae 6) (Ad (Di (Ad (Bh "Desk" "ask" 2 Ax (Ae 5) (Ad (fC (.str "counts")) Ag)) (Ad (Ar 1 Hc (Ad (Ae 4) Ag)) Ag))) Ag))) (Bc (Bo (Ar 4 Ub (Ad (Ae 1) (Ad (Ae 2) (Ad (Ae 3) (Ad (Ae 4) Ag))))) (Od 2 (MR.gCons (gN 8) (MR.gCons (gN 4) MR.gNil)))) (C5 (A0 (f2 Cr (Bh "Desk" "ask" 2 Ax (Ae 5) (Ad (Ae 8) Ag)) (B1 Ag))) (B7 (fC (.bl false))) B9))))))
def Al6:FS:=(Bc (Bo (Ar 1 Mm (Ad (f2 Al (Ar 2 Kj (Ad (Ae 0) (Ad (fC (.int 1)) Ag))) (fC (.int 0))) Ag)) (gN 1)) (Bc (Bo (Ar 2 Ru (Ad (Ae 1) (Ad (f2 Al (B1 (Ad (fC (.int 8)) (Ad (fC (.int 60)) Ag))) (Ar 2 An (Ad (Ae 1) (Ad (fC (.int 2)) Ag)))) Ag))) (Od 3 (MR.gCons (gN 2) (MR.gCons (gN 3) (MR.gCons (gN 4) MR.gNil))))) (Bc (Bo (Ar 1 Uz (Ad (Ae 4) Ag)) (gN 5)) (Bc (Bo (B1 Ag) (gN 6)) (Bc (Pg (Bu (Ar 2 Kj (Ad (Ae 0) (Ad (fC (.int 8)) Ag)))) (gN 7) Tn) (B7 (Se (Ar 4 Km (Ad (Ae 1) (Ad (Ae 3) (Ad (Ae 5) (Ad (Ae 4) Ag))))) (f2 B3 (B5 [none,none] (Bu (Ae 6)) (MR.gTup 2 (MR.gCons (gN 0) (MR.gCons (gN 1) MR.gNil))) (some Uc) Vi) (B1 Ag)))))))))
def Yj:FN:=fnU 9 1 Al6
structure Ex(d:Nat)(L L':UH):Prop where
 le:L.length<=L'.length
 at_:∀ i,i < L.length->i≠d->L'[i]? = L[i]?
theorem Ex.refl(d:Nat)(L:UH):Ex d L L:=⟨aZ _,fun _ _ _=>rfl⟩
variable {d:Nat}{L L1:UH}
theorem Ex.trans{L2:UH}(a:Ex d L L1)(b:Ex d L1 L2):Ex d L L2:=
 ⟨cB a.le b.le,fun i h1 h2=>by rw[b.at_ i (aW h1 a.le) h2,a.at_ i h1 h2]⟩
theorem Ex.new(d:Nat)(L:UH)(x:List HU):Ex d L (L++x):=⟨by simp,fun i h _=>by rw[bA h]⟩
theorem Ex.put(d:Nat)(L:UH)(o:HU):Ex d L (L.set d o):=⟨by simp,fun i _ h=>by rw[bW (gX h)]⟩
variable {L':UH}{n:Nat}
theorem Ex.set(h:Ex d L L')(hn:L.length<=n)(o:HU):Ex d L (L'.set n o):=
 ⟨by rw[nY];exact h.le,fun i h1 h2=>by rw[bW (by omega)];exact h.at_ i h1 h2⟩
variable {i:Nat}{o:HU}
theorem Ex.get(h:Ex d L L')(e:L[i]? = some o)(hi:i≠d):L'[i]? = some o:=by
 rw[h.at_ i (aK.mp e).1 hi];exact e
def Gw(L L':UH):Prop:=∃ x,L'=L++x
theorem Gw.refl(L:UH):Gw L L:=⟨[],by simp⟩
variable {M:UH}
theorem Gw.trans(a:Gw L L1)(b:Gw L1 M):Gw L M:=by obtain ⟨x,rfl⟩:=a;obtain ⟨y,rfl⟩:=b;exact ⟨x++y,by simp⟩
theorem Gw.new(L x:UH):Gw L (L++x):=⟨x,rfl⟩
theorem Gw.set(h:Gw L L')(hn:L.length<=n)(o:HU):Gw L (L'.set n o):=by
 obtain ⟨x,rfl⟩:=h
 exact ⟨x.set (n - L.length) o,by rw[List.set_append_right _ _ hn]⟩
theorem Gw.le(h:Gw L L'):L.length<=L'.length:=by obtain ⟨x,rfl⟩:=h;simp
theorem Gw.get(h:Gw L L')(e:L[n]? = some o):L'[n]? = some o:=by
 obtain ⟨x,rfl⟩:=h
 rw[bA (aK.mp e).1];exact e
variable {us:List U}
theorem Gw.seq(h:Gw L L')(e:Aw L n=some us):Aw L' n=some us:=by
 obtain ⟨x,rfl⟩:=h;exact Dg e
theorem Gw.ex(h:Gw L L')(d:Nat):Ex d L L':=by obtain ⟨x,rfl⟩:=h;exact Ex.new d L x
variable {l:List U}
theorem Aj2(u:U)(h:L[n]? = some (.lst l))(hl:l.length < 16777216):De (.ref n) [u] L=some (.non,L.set n (.lst (l++[u]))):=by
 show (E8 L n).bind _=_
 rw[F7 h]
 simp only[aC]
 rw[if_pos (decide_eq_true (by unfold sizeLine;omega))]
theorem Nv(h:L[n]? = some (.lst l)):tyU "list" (.ref n) L=true:=by simp[tyU,h]
theorem Fg(h:L[n]? = some (.lst l)):Az [.ref n] L=some (.int l.length,L):=by simp[Az,lenU,Ao h]
variable {f g:FS}{δ:UE}
theorem Bp{δ':UE}(h:f δ L=some (.nx δ',L')):Bc f g δ L=g δ' L':=by rw[fSeq_eq,h];rfl
theorem Ex.seq(h:Ex d L L')(hn:n≠d)(e:Aw L n=some us):Aw L' n=some us:=by
 unfold Aw at e ⊢
 cases hq:L[n]? with
 | none=>rw[hq] at e;cases e
 | some o=>rw[h.get hq hn];rw[hq] at e;exact e
def ptU(p:Str×(Int×Int)):U:=.tup [.str p.1,.int p.2.1,.int p.2.2]
theorem Ax1{p:Str×(Int×Int)}(h:fG p.1=true):Pl 6 (ptU p):=by
 unfold ptU
 rw[Rb]
 intro u hu
 simp only[bL,cN,or_false] at hu
 rcases hu with rfl | rfl | rfl
 ·show Pl 5 (.str p.1)
  simpa[Pl] using h
 ·exact Pl.int _ _
 ·exact Pl.int _ _
def prU(p:Int×Int):U:=.tup [.int p.1,.int p.2]
def bxU(b:Int×Int×Int×Int):U:=.tup [.int b.1,.int b.2.1,.int b.2.2.1,.int b.2.2.2]
def Cf(p q:Int×Int):Bool:=decide (p.1<=q.1)&&(decide (p.2<=q.2) && !(p.1 == q.1&&(p.2 == q.2&&true)))
theorem Atg(p q:Int×Int)(L:UH):Cr (prU p) (prU q) L=some (.bl (!(p.1 == q.1&&(p.2 == q.2&&true))),L):=rfl
theorem Anr{β:Type}(as:List β)(f:β->Bool):mapO toB (as.map fun a=>U.bl (f a))=some (as.map f):=by
 induction as with
 | nil=>rfl
 | cons a as ih=>simp[mapO,toB,ih]
theorem Agt{β:Type}(as:List β)(f:β->Bool)(h:Aw L n=some (as.map fun a=>U.bl (f a))):Q9 [.ref n] L=some (.bl (as.all f),L):=by
 simp[Q9,h,Anr]
theorem Agk(p q:Int×Int)(L:UH):∃ x,E6 [prU p,prU q] L=some (.bl (Cf p q),L++x):=by
 have hz:(Ag1 (Ad (Ae 0) (Ad (Ae 1) Ag))) [some (prU p),some (prU q)] L=some (.seq ([(p.1,q.1),(p.2,q.2)].map fun a=>.tup [.int a.1,.int a.2]),L):=rfl
 obtain ⟨x,e⟩:=B6 (ix:=[none,none]) (fi:=Ag1 (Ad (Ae 0) (Ad (Ae 1) Ag))) (it:=.seq ([(p.1,q.1),(p.2,q.2)].map fun a=>.tup [.int a.1,.int a.2])) (g:=(MR.gTup 2 (MR.gCons (gN 0) (MR.gCons (gN 1) MR.gNil)))) (tt:=none) (fe:=Ic) (δ:=[some (prU p),some (prU q)]) (L:=L) (L0:=L)
  [(p.1,q.1),(p.2,q.2)] (fun a=>.tup [.int a.1,.int a.2]) (fun _=>true) (fun a=>.bl (decide (a.1<=a.2))) (fun δ=>∃ a b,δ = [a,b]) hz (by simp[IU.size]) (by simp) ⟨none,none,rfl⟩
  (fun k x=>rfl)
  (fun a δ x _ ⟨y,z,hδ⟩=>by
   subst hδ
   refine ⟨_,rfl,⟨_,_,rfl⟩,[],by simp[E4],fun _=>⟨[],?_⟩⟩
   simp[Ic])
 have hf:gQ (fun _:Int×Int=>true) [(p.1,q.1),(p.2,q.2)]=[(p.1,q.1),(p.2,q.2)]:=by simp
 rw[hf] at e
 have q1:Aw (L++x++[HU.lst ([(p.1,q.1),(p.2,q.2)].map fun a=>.bl (decide (a.1<=a.2)))]) (L++x).length=some ([(p.1,q.1),(p.2,q.2)].map fun a=>U.bl (decide (a.1<=a.2))):=Ao (by simp)
 have ha:=Agt _ _ q1
 by_cases h:(!(p.1 == q.1&&(p.2 == q.2&&true)))=true
 ·refine ⟨x++[HU.lst ([(p.1,q.1),(p.2,q.2)].map fun a=>.bl (decide (a.1<=a.2)))],?_⟩
  have hb:Cf p q=List.all [(p.1,q.1),(p.2,q.2)] fun a=>decide (a.1<=a.2):=by
   simp only[Cf,h,pM,List.all_nil]
  have hn:=Atg p q L
  rw[h] at hn
  unfold E6 fnU Lu
  simp only[aL,aR,if_true,aI,bG,cQ,bK,aV,fRet_eq,Js,f2_eq,fVar_eq,aN,bB,bD,aG,aC,hn,fCall_eq,fCons_eq,fNil_eq]
  simp only[aI,bG] at e ha
  rw[hb,<- bH]
  simp only[e,ha,aG,aC]
 ·have h':(!(p.1 == q.1&&(p.2 == q.2&&true)))=false:=by simpa using h
  refine ⟨[],?_⟩
  have hb:Cf p q=false:=by simp only[Cf,h',Bool.and_false]
  have hn:=Atg p q L
  rw[h'] at hn
  unfold E6 fnU Lu
  simp only[aL,aR,if_true,aI,bG,cQ,bK,aV,fRet_eq,Js,f2_eq,fVar_eq,aN,bB,bD,aG,aC,hn,hb]
  simp
abbrev NP:=Str×(Int×Int)
def kG(g:NP->U)(m:List NP):List (Key×U):=m.map fun p=>(.inr p.1,g p)
def Ji(m:List NP)(nm:Str):Bool:=m.any fun p=>decide (p.1=nm)
def K8(m:List NP)(nm:Str)(q:Int×Int):List NP:=if Ji m nm=true then m.map (fun p=>if p.1=nm then (nm,q) else p) else m++[(nm,q)]
def Ob(m:List NP)(nm:Str):List NP:=m.filter fun p=>decide (p.1≠nm)
theorem Aa0(a b:Str):((fT a:Key) = .inr b)↔a=b:=⟨fun h=>by injection h,fun h=>by rw[h]⟩
theorem Ae8(g:NP->U)(nm:Str):∀ m:List NP,((kG g m).any fun kv=>decide (kv.1 = .inr nm))=Ji m nm
 | []=>rfl
 | p::m=>by
  have ih:=Ae8 g nm m
  unfold kG Ji at ih ⊢
  rw[aI,eQ,eQ,ih]
  simp only[Aa0]
theorem Aa4(g:NP->U)(m:List NP)(nm:Str):(T4 (kG g m) (.inr nm)).isSome=Ji m nm:=by
 unfold T4
 rw[iQ,find_any,Ae8]
theorem At5(g:NP->U)(m:List NP)(nm:Str)(q:Int×Int):Am3 (kG g m) (.inr nm) (g (nm,q))=kG g (K8 m nm q):=by
 unfold Am3 K8
 rw[Ae8]
 split
 ·unfold kG
  rw[cY,cY]
  apply gZ
  intro p _
  show (if (fT p.1:Key) = .inr nm then (fT p.1,g (nm,q)) else (fT p.1,g p))=_
  by_cases h:p.1=nm
  ·rw[if_pos ((Aa0 _ _).mpr h)]
   show _=(fT (if p.1=nm then (nm,q) else p).1,g (if p.1=nm then (nm,q) else p))
   rw[if_pos h,h]
  ·rw[if_neg (fun z=>h ((Aa0 _ _).mp z))]
   simp only[Function.comp_apply,if_neg h]
 ·unfold kG
  rw[fR]
  rfl
theorem Af7(g:NP->U)(nm:Str):∀ m:List NP,Adf (kG g m) (.inr nm)=kG g (Ob m nm)
 | []=>rfl
 | p::m=>by
  have ih:=Af7 g nm m
  unfold Adf kG Ob at ih ⊢
  rw[aI,eO,eO,ih]
  by_cases h:p.1=nm
  ·simp[h]
  ·simp[h]
def OkM(m:List NP):Prop:=∀ p∈m,fG p.1=true
variable {m:List NP}{nm:Str}
theorem OkM.put{q:Int×Int}(h:OkM m)(hn:fG nm=true):OkM (K8 m nm q):=by
 intro p hp
 unfold K8 at hp
 split at hp
 ·obtain ⟨p',hp',e⟩:=dI.mp hp
  split at e
  ·subst e;exact hn
  ·subst e;exact h _ hp'
 ·rcases cV.mp hp with z | z
  ·exact h _ z
  ·have:=cF.mp z
   subst this;exact hn
theorem OkM.drop(h:OkM m):OkM (Ob m nm):=fun p hp=>h p (iG.mp hp).1
variable {t:Nat}
theorem Gu{C:Str}{fs:List (Str×U)}(h:L[t]? = some (.ins C fs)):V6 C (.ref t) L=some (t,fs):=by
 unfold V6
 simp only[h,if_true]
def kfl(p:Nat):List (Str×U):=[("points",.ref p)]
theorem kf_pts(p:Nat):eM ("points" : Str) (kfl p)=some (.ref p):=rfl
theorem Afj{s:Str}(p:Nat)(h:(s == "points")=false):eM s (kfl p)=none:=by
 unfold kfl
 rw[bX,h]
 rfl
structure Kept(L:UH)(k p:Nat)(m:List NP):Prop where
 ob:L[k]? = some (.ins "KeptPoints" (kfl p))
 pt:L[p]? = some (.dic (kG ptU m))
variable {p k:Nat}
theorem Kept.ne(T:Kept L k p m):k≠p:=fun h=>by
 have a:=T.ob
 rw[h,T.pt] at a
 cases a
theorem Kept.gw(T:Kept L k p m)(g:Gw L L'):Kept L' k p m:=⟨g.get T.ob,g.get T.pt⟩
variable {m':List NP}
theorem Kept.set(T:Kept L k p m):Kept (L.set p (.dic (kG ptU m'))) k p m':=
 ⟨by rw[bW (gX T.ne)];exact T.ob,bU (aK.mp T.pt).1⟩
variable {fe:FE}
theorem Kept.fld(T:Kept L k p m)(h:fe δ L=some (.ref k,L)):Gx "KeptPoints" "points" fe δ L=some (.ref p,L):=by
 unfold Gx
 rw[h]
 simp only[aC,Gu T.ob,kf_pts,aG]
theorem V3{kvs:List (Key×U)}(h:L[n]? = some (.dic kvs)):Ik L n=some kvs:=by unfold Ik;rw[h]
theorem Auc{g:NP->U}(h:L[n]? = some (.dic (kG g m)))(nm:Str):Ri (.str nm) (.ref n) L=some (.bl (Ji m nm),L):=by
 unfold Ri
 simp only[toK,aC,V3 h,aG,Aa4]
theorem Aj4{g:NP->U}(h:L[n]? = some (.dic (kG g m)))(nm:Str):Ks (.str nm) (.ref n) L=some (.bl (!Ji m nm),L):=by
 unfold Ks
 simp only[toK,aC,V3 h,aG,Aa4]
theorem Aox(T:Kept L k p m)(h:Ji m nm=true):Cd [.ref k,.str nm] L=some (.non,L):=by
 have f1:=T.fld (δ:=[some (.ref k),some (.str nm)]) (fe:=Ae 0) rfl
 unfold Cd fnU Gf
 simp only[aL,aR,if_true,aI,bG,cQ,bK,aV]
 rw[Nx,fTest_eq,f2_eq]
 simp only[fVar_eq,aN,bB,bD,aG,aC,f1,Aj4 T.pt,h,pO,cD,if_false,U5]
theorem Xy(T:Kept L k p m)(h:Ji m nm=true)(h0:Ae 0 δ L=some (.ref k,L))(h1:Ae 1 δ L=some (.str nm,L)):(C3 (Bh "KeptPoints" "need_name" 2 Cd (Ae 0) (Ad (Ae 1) Ag))) δ L=some (.nx δ,L):=by
 have no:=Afj (s := "need_name") p (by decide +kernel)
 have e:=Aox T h
 unfold C3 Bh
 rw[h0]
 simp only[aC,Gu T.ob,no,if_true,fCons_eq,h1,fNil_eq,aG,aL,aR,e]
variable {x y:Int}
theorem Agf(T:Kept L k p m)(hl:m.length < 1000) :
  (Ac8 (Gx "KeptPoints" "points" (Ae 0)) (Ae 1) (Di (Ad (Ae 1) (Ad (Ae 2) (Ad (Ae 3) Ag))))) [some (.ref k),some (.str nm),some (.int x),some (.int y)] L=some (.nx [some (.ref k),some (.str nm),some (.int x),some (.int y)],L.set p (.dic (kG ptU (K8 m nm (x,y))))):=by
 have f1:=T.fld (δ:=[some (.ref k),some (.str nm),some (.int x),some (.int y)]) (fe:=Ae 0) rfl
 have ht:(Di (Ad (Ae 1) (Ad (Ae 2) (Ad (Ae 3) Ag)))) [some (.ref k),some (.str nm),some (.int x),some (.int y)] L=some (ptU (nm,(x,y)),L):=by
  simp only[Ny,fCons_eq,fNil_eq,fVar_eq,aN,bB,bD,aG,aC]
  rw[if_pos (small_of (by show 3<=16777216;decide))]
  rfl
 have hk:(kG ptU m).length < 1000000:=by unfold kG;rw[aU];omega
 unfold Ac8
 rw[ht]
 simp only[aC,f1,fVar_eq,aN,bB,bD,aG,toK,V3 T.pt]
 rw[if_pos hk,At5]
theorem Aqg{L:UH}{k p:Nat}{m:List NP}{nm:Str}{x y:Int}(T:Kept L k p m)(h:Ji m nm=false)(hl:m.length < 1000) :
  Ct [.ref k,.str nm,.int x,.int y] L=some (.non,L.set p (.dic (kG ptU (K8 m nm (x,y))))):=by
 have f1:=T.fld (δ:=[some (.ref k),some (.str nm),some (.int x),some (.int y)]) (fe:=Ae 0) rfl
 have s1:(C5 (A0 (f2 Ri (Ae 1) (Gx "KeptPoints" "points" (Ae 0)))) Fp B9) [some (.ref k),some (.str nm),some (.int x),some (.int y)] L=some (.nx [some (.ref k),some (.str nm),some (.int x),some (.int y)],L):=by
  rw[Nx,fTest_eq,f2_eq]
  simp only[fVar_eq,aN,bB,bD,aG,aC,f1,Auc T.pt,h,cD,if_false,U5]
 unfold Ct fnU Gi
 simp only[aL,aR,if_true,aI,bG,cQ,bK,aV]
 rw[Bp s1,Agf T hl]
 rfl
theorem Aj6{L:UH}{k p:Nat}{m:List NP}{nm:Str}{x y:Int}(T:Kept L k p m)(h:Ji m nm=true)(hl:m.length < 1000) :
  Co [.ref k,.str nm,.int x,.int y] L=some (.non,L.set p (.dic (kG ptU (K8 m nm (x,y))))):=by
 unfold Co fnU F4
 simp only[aL,aR,if_true,aI,bG,cQ,bK,aV]
 rw[Bp (Xy T h rfl rfl),Agf T hl]
 rfl
variable {fo:FE}
theorem Aq9{g:NP->U}(hn:L[n]? = some (.dic (kG g m)))(h:Ji m nm=true)(h0:fo δ L=some (.ref n,L))(h1:fe δ L=some (.str nm,L)):(C3 (Agj fo fe)) δ L=some (.nx δ,L.set n (.dic (kG g (Ob m nm)))):=by
 have hs:=Aa4 g m nm
 rw[h] at hs
 obtain ⟨v,hv⟩:=mM.mp hs
 unfold C3 Agj
 rw[h0]
 simp only[aC,V3 hn,h1,toK,hv,aG,Af7]
theorem Akr(T:Kept L k p m)(h:Ji m nm=true) :
  Cm [.ref k,.str nm] L=some (.non,L.set p (.dic (kG ptU (Ob m nm)))):=by
 have f1:=T.fld (δ:=[some (.ref k),some (.str nm)]) (fe:=Ae 0) rfl
 unfold Cm fnU F6
 simp only[aL,aR,if_true,aI,bG,cQ,bK,aV]
 rw[Bp (Xy T h rfl rfl),Aq9 T.pt h f1 rfl]
 rfl
theorem Ak0(L:UH):(Si "KeptPoints" 1 Cy Ag)=fun δ L=>some (.ref L.length,L++[.ins "KeptPoints" (kfl (L.length+1))]++[.dic (kG ptU [])]):=by
 funext δ L
 have e:Cy [.ref L.length] (L++[.ins "KeptPoints" []])=some (.non,L++[.ins "KeptPoints" (kfl (L.length+1))]++[.dic (kG ptU [])]):=by
  have ha:(L++[HU.ins "KeptPoints" []]++[HU.dic []])[L.length]? = some (.ins "KeptPoints" []):=by simp
  have hp:Adh "points" (.ref (L++[HU.ins "KeptPoints" []]).length) []=kfl (L.length+1):=by
   rw[cM];rfl
  unfold Cy fnU G1 Adk Ake
  simp only[aL,aR,if_true,aI,bG,cQ,bK,aV,aC,fVar_eq,aN,bD,aG,Gu ha]
  rw[if_pos (by decide),hp]
  simp[kG]
 unfold Si
 rw[fNil_eq,aC]
 simp only[aR,if_true,e,aC]
theorem Nh(p:NP)(L:UH):G2 [ptU p] L=some (prU p.2,L):=by
 have h1:L2.atI [U.str p.1,.int p.2.1,.int p.2.2] 1=some (.int p.2.1):=rfl
 have h2:L2.atI [U.str p.1,.int p.2.1,.int p.2.2] 2=some (.int p.2.2):=rfl
 simp[G2,fnU,Uo,ptU,h1,h2,small_of,prU]
theorem Aha(g:NP->U)(m:List NP):Xr (kG g m)=m.map g:=by
 unfold Xr kG
 rw[cY]
 rfl
def cnt(qs:List (Int×Int))(q:Int×Int):Int:=((qs.filter fun o=>Cf o q).length:Nat)
variable {r:Nat}
theorem Om{qs:List (Int×Int)}(q:Int×Int)(hr:Aw L r=some (qs.map prU))(hl:qs.length < 1000000):∃ L',Ga [.ref r,prU q] L=some (.int (cnt qs q),L')/\Gw L L':=by
 obtain ⟨x,e⟩:=B6 (ix:=[none,some 1]) (fi:=Bu (Ae 0)) (it:=.ref r) (g:=gN 0) (tt:=some b_many_below_1t) (fe:=Ib) (δ:=[some (.ref r),some (prU q)]) (L:=L) (L0:=L)
  qs prU (fun o=>Cf o q) prU (fun δ=>∃ a,δ = [a,some (prU q)]) (by simp[C1 hr]) (by rw[F9 hr];simp) (by omega) ⟨none,rfl⟩
  (fun k x=>Ll (Dg hr))
  (fun a δ x _ ⟨y,hδ⟩=>by
   subst hδ
   obtain ⟨xl,hx⟩:=Agk a q (L++x)
   refine ⟨_,rfl,⟨_,rfl⟩,xl,?_,fun _=>⟨[],?_⟩⟩
   ·simp[E4,b_many_below_1t,hx]
   ·simp[Ib])
 have q1:(L++x++[HU.lst ((qs.filter fun o=>Cf o q).map prU)])[(L++x).length]? = some (.lst ((qs.filter fun o=>Cf o q).map prU)):=by simp
 have hlen:=Fg q1
 rw[aU] at hlen
 refine ⟨L++x++[HU.lst ((qs.filter fun o=>Cf o q).map prU)],?_,⟨x++[HU.lst ((qs.filter fun o=>Cf o q).map prU)],by rw[bH]⟩⟩
 unfold Ga fnU Qm
 simp only[aL,aR,if_true,aI,bG,cQ,bK,aV,fRet_eq,fCall_eq,fCons_eq,fNil_eq,aG,aC,e,hlen,cnt]
theorem Oq(ps:List (Str×(Int×Int)))(L:UH)(hl:ps.length < 1000000):∃ L',E5 [.tup (ps.map ptU)] L=some (.tup (ps.map fun p=>.int (cnt (ps.map (·.2)) p.2)),L')/\Gw L L':=by
 obtain ⟨x,e⟩:=B6 (ix:=[none]) (fi:=Bu (Ae 0)) (it:=.seq (ps.map ptU)) (g:=gN 0) (tt:=none) (fe:=Hu) (δ:=[some (.tup (ps.map ptU)),none]) (L:=L) (L0:=L)
  ps ptU (fun _=>true) (fun p=>prU p.2) (fun δ=>∃ a,δ = [a]) (by simp[Ih]) (by simp[IU.size]) (by omega) ⟨none,rfl⟩
  (fun k x=>rfl)
  (fun a δ x _ ⟨y,hδ⟩=>by
   subst hδ
   refine ⟨_,rfl,⟨_,rfl⟩,[],by simp[E4],fun _=>⟨[],?_⟩⟩
   simp[Hu,Nh])
 have hf:∀ (l:List (Str×(Int×Int))),gQ (fun _=>true) l=l:=fun l=>cP.mpr (fun _ _=>rfl)
 rw[hf] at e
 have hm:(ps.map fun p=>prU p.2)=(ps.map (·.2)).map prU:=by rw[cY];rfl
 rw[hm] at e
 generalize hM:L++x++[HU.lst ((ps.map (·.2)).map prU)]=M at e
 have hr:Aw M (L++x).length=some ((ps.map (·.2)).map prU):=by rw[<- hM];exact Ao (by simp)
 have gM:Gw L M:=⟨x++[HU.lst ((ps.map (·.2)).map prU)],by rw[<- hM,bH]⟩
 obtain ⟨y,e2⟩:=B6 (ix:=[none,some 1]) (fi:=Bu (Ae 1)) (it:=.ref (L++x).length) (g:=gN 0) (tt:=none) (fe:=Hz) (δ:=[some (.tup (ps.map ptU)),some (.ref (L++x).length)]) (L:=M) (L0:=M)
  (ps.map (·.2)) prU (fun _=>true) (fun q=>.int (cnt (ps.map (·.2)) q)) (fun δ=>∃ a,δ = [a,some (.ref (L++x).length)]) (by simp only[En,fVar_eq,bB,aN,bD,aG,aC,C1 hr]) (by rw[F9 hr];simp) (by simp;omega) ⟨none,rfl⟩
  (fun k x=>Ll (Dg hr))
  (fun a δ z _ ⟨y,hδ⟩=>by
   subst hδ
   obtain ⟨L',e3,w,hw⟩:=Om (L:=M++z) a (Dg hr) (by simp;omega)
   refine ⟨_,rfl,⟨_,rfl⟩,[],by simp[E4],fun _=>⟨w,?_⟩⟩
   rw[aV,<- hw]
   unfold Hz
   simp only[fOwn_eq,fCons_eq,fNil_eq,fVar_eq,iF,bB,aN,bD,aG,aC,aL,aR,if_true,e3])
 have hf2:∀ (l:List (Int×Int)),gQ (fun _=>true) l=l:=fun l=>cP.mpr (fun _ _=>rfl)
 rw[hf2] at e2
 generalize hR:((ps.map (·.2)).map fun q=>U.int (cnt (ps.map (·.2)) q))=R at e2
 have q2:Aw (M++y++[HU.lst R]) (M++y).length=some R:=Ao (by simp)
 have ht:semTuple [.ref (M++y).length] (M++y++[HU.lst R])=some (.tup R,M++y++[HU.lst R]):=by simp only[semTuple,q2,aG]
 refine ⟨M++y++[HU.lst R],?_,gM.trans ⟨y++[HU.lst R],by rw[bH]⟩⟩
 have hR':(ps.map fun p=>U.int (cnt (ps.map (·.2)) p.2))=R:=by rw[<- hR,cY];rfl
 rw[hR']
 unfold E5 fnU Q0
 simp only[aL,aR,if_true,aI,bG,bM,jA,kP,fSeq_eq,Ni,e,gN_eq,aG,aC,qF,iF,fRet_eq,fCall_eq,fCons_eq,fNil_eq,e2,ht]
def tupU(ps:List (Str×(Int×Int))):U:=.tup (ps.map ptU)
theorem toI_map{β:Type}(f:β->Int):∀ l:List β,mapO toI (l.map fun a=>U.int (f a))=some (l.map f)
 | []=>rfl
 | a::l=>by simp only[aI,mapO,toI,toI_map f l,aC,aG]
def pairs(qs:List (Int×Int)):Int:=(qs.map (cnt qs)).sum
theorem Ak1(ps:List (Str×(Int×Int)))(L:UH)(hl:ps.length < 1000000):∃ L',E2 [tupU ps] L=some (.int (pairs (ps.map (·.2))),L')/\Gw L L':=by
 obtain ⟨L',e,g⟩:=Oq ps L hl
 refine ⟨L',?_,g⟩
 have hs:U0 [.tup (ps.map fun p=>.int (cnt (ps.map (·.2)) p.2))] L'=some (.int (pairs (ps.map (·.2))),L'):=by
  simp only[U0,toI_map,aG,pairs,cY];rfl
 simp[E2,fnU,Na,tupU,e,hs]
theorem Og(T:Kept L k p m):Bk [.ref k] L=some (.tup (m.map ptU),L):=by
 have f1:=T.fld (δ:=[some (.ref k)]) (fe:=Ae 0) rfl
 unfold Bk fnU Fw
 simp only[aL,aR,if_true,aI,bG,cQ,bK,aV]
 rw[fRet_eq]
 unfold Adr
 rw[f1]
 simp only[aC,V3 T.pt,aG,Aha]
def Aap(qs:List (Int×Int))(q:Int×Int):Int:=((qs.filter fun o=>Cf q o).length:Nat)
theorem Oe{qs:List (Int×Int)}(q:Int×Int)(hr:Aw L r=some (qs.map prU))(hl:qs.length < 1000000):∃ L',Gm [.ref r,prU q] L=some (.int (Aap qs q),L')/\Gw L L':=by
 obtain ⟨x,e⟩:=B6 (ix:=[none,some 1]) (fi:=Bu (Ae 0)) (it:=.ref r) (g:=gN 0) (tt:=some b_many_above_1t) (fe:=Hx) (δ:=[some (.ref r),some (prU q)]) (L:=L) (L0:=L)
  qs prU (fun o=>Cf q o) prU (fun δ=>∃ a,δ = [a,some (prU q)]) (by simp[C1 hr]) (by rw[F9 hr];simp) (by omega) ⟨none,rfl⟩
  (fun k x=>Ll (Dg hr))
  (fun a δ x _ ⟨y,hδ⟩=>by
   subst hδ
   obtain ⟨xl,hx⟩:=Agk q a (L++x)
   refine ⟨_,rfl,⟨_,rfl⟩,xl,?_,fun _=>⟨[],?_⟩⟩
   ·simp[E4,b_many_above_1t,hx]
   ·simp[Hx])
 have q1:(L++x++[HU.lst ((qs.filter fun o=>Cf q o).map prU)])[(L++x).length]? = some (.lst ((qs.filter fun o=>Cf q o).map prU)):=by simp
 have hlen:=Fg q1
 rw[aU] at hlen
 refine ⟨L++x++[HU.lst ((qs.filter fun o=>Cf q o).map prU)],?_,⟨x++[HU.lst ((qs.filter fun o=>Cf q o).map prU)],by rw[bH]⟩⟩
 unfold Gm fnU Qj
 simp only[aL,aR,if_true,aI,bG,cQ,bK,aV,fRet_eq,fCall_eq,fCons_eq,fNil_eq,aG,aC,e,hlen,Aap]
theorem Wl(ps:List (Str×(Int×Int)))(L:UH)(hl:ps.length < 1000000):∃ L',Ge [.tup (ps.map ptU)] L=some (.tup (ps.map fun p=>.int (Aap (ps.map (·.2)) p.2)),L')/\Gw L L':=by
 obtain ⟨x,e⟩:=B6 (ix:=[none]) (fi:=Bu (Ae 0)) (it:=.seq (ps.map ptU)) (g:=gN 0) (tt:=none) (fe:=Hy) (δ:=[some (.tup (ps.map ptU)),none]) (L:=L) (L0:=L)
  ps ptU (fun _=>true) (fun p=>prU p.2) (fun δ=>∃ a,δ = [a]) (by simp[Ih]) (by simp[IU.size]) (by omega) ⟨none,rfl⟩
  (fun k x=>rfl)
  (fun a δ x _ ⟨y,hδ⟩=>by
   subst hδ
   refine ⟨_,rfl,⟨_,rfl⟩,[],by simp[E4],fun _=>⟨[],?_⟩⟩
   simp[Hy,Nh])
 have hf:∀ (l:List (Str×(Int×Int))),gQ (fun _=>true) l=l:=fun l=>cP.mpr (fun _ _=>rfl)
 rw[hf] at e
 have hm:(ps.map fun p=>prU p.2)=(ps.map (·.2)).map prU:=by rw[cY];rfl
 rw[hm] at e
 generalize hM:L++x++[HU.lst ((ps.map (·.2)).map prU)]=M at e
 have hr:Aw M (L++x).length=some ((ps.map (·.2)).map prU):=by rw[<- hM];exact Ao (by simp)
 have gM:Gw L M:=⟨x++[HU.lst ((ps.map (·.2)).map prU)],by rw[<- hM,bH]⟩
 obtain ⟨y,e2⟩:=B6 (ix:=[none,some 1]) (fi:=Bu (Ae 1)) (it:=.ref (L++x).length) (g:=gN 0) (tt:=none) (fe:=Ia) (δ:=[some (.tup (ps.map ptU)),some (.ref (L++x).length)]) (L:=M) (L0:=M)
  (ps.map (·.2)) prU (fun _=>true) (fun q=>.int (Aap (ps.map (·.2)) q)) (fun δ=>∃ a,δ = [a,some (.ref (L++x).length)]) (by simp only[En,fVar_eq,bB,aN,bD,aG,aC,C1 hr]) (by rw[F9 hr];simp) (by simp;omega) ⟨none,rfl⟩
  (fun k x=>Ll (Dg hr))
  (fun a δ z _ ⟨y,hδ⟩=>by
   subst hδ
   obtain ⟨L',e3,w,hw⟩:=Oe (L:=M++z) a (Dg hr) (by simp;omega)
   refine ⟨_,rfl,⟨_,rfl⟩,[],by simp[E4],fun _=>⟨w,?_⟩⟩
   rw[aV,<- hw]
   unfold Ia
   simp only[fOwn_eq,fCons_eq,fNil_eq,fVar_eq,iF,bB,aN,bD,aG,aC,aL,aR,if_true,e3])
 have hf2:∀ (l:List (Int×Int)),gQ (fun _=>true) l=l:=fun l=>cP.mpr (fun _ _=>rfl)
 rw[hf2] at e2
 generalize hR:((ps.map (·.2)).map fun q=>U.int (Aap (ps.map (·.2)) q))=R at e2
 have q2:Aw (M++y++[HU.lst R]) (M++y).length=some R:=Ao (by simp)
 have ht:semTuple [.ref (M++y).length] (M++y++[HU.lst R])=some (.tup R,M++y++[HU.lst R]):=by simp only[semTuple,q2,aG]
 refine ⟨M++y++[HU.lst R],?_,gM.trans ⟨y++[HU.lst R],by rw[bH]⟩⟩
 have hR':(ps.map fun p=>U.int (Aap (ps.map (·.2)) p.2))=R:=by rw[<- hR,cY];rfl
 rw[hR']
 unfold Ge fnU Qr
 simp only[aL,aR,if_true,aI,bG,bM,jA,kP,fSeq_eq,Ni,e,gN_eq,aG,aC,qF,iF,fRet_eq,fCall_eq,fCons_eq,fNil_eq,e2,ht]
theorem Ah8(T:Kept L k p m)(hl:m.length < 1000) :
  ∃ (r:Nat) (L':UH),Bx [.ref k] L=some (.ref r,L')/\L'[r]? = some (.lst (m.map fun p=>prU p.2))/\Gw L L':=by
 obtain ⟨x,e⟩:=Air (ix:=[none]) (v:=Xr) (fo:=Gx "KeptPoints" "points" (Ae 0)) (g:=gN 0) (tt:=none) (fe:=Dm) (δ:=[some (.ref k)]) (L:=L)
  m ptU (fun _=>true) (fun p=>prU p.2) (fun δ=>∃ a,δ = [a]) (T.fld rfl) T.pt (Aha ptU m) (by omega) ⟨none,rfl⟩
  (fun p δ M _ ⟨a,hδ⟩=>by
   subst hδ
   refine ⟨_,rfl,⟨_,rfl⟩,[],by simp[E4],fun _=>⟨[],?_⟩⟩
   have:=Nh p M
   simp only[Dm,fOwn_eq,fCons_eq,fNil_eq,fVar_eq,iF,aN,bD,aG,aC,aL,aR,if_true,this,aV])
 have hf:gQ (fun _=>true) m=m:=cP.mpr (fun _ _=>rfl)
 rw[hf] at e
 refine ⟨(L++x).length,L++x++[.lst (m.map fun p=>prU p.2)],?_,by simp,⟨x++[.lst (m.map fun p=>prU p.2)],by rw[bH]⟩⟩
 unfold Bx fnU Fy
 simp only[aL,aR,if_true,aI,bG,cQ,bK,aV]
 rw[fRet_eq,e]
 rfl
theorem Ag7{fN fM:FN}{rel:Int×Int->Bool}{x y:Int}(hN:fN=fnU 3 3 (B7 (Ar 2 fM (Ad (Bh "KeptPoints" "places_now" 1 Bx (Ae 0) Ag) (Ad (Di (Ad (Ae 1) (Ad (Ae 2) Ag))) Ag)))))
  (hM:∀ (L:UH) (r:Nat) (as:List (Int×Int)),L[r]? = some (.lst (as.map prU))->as.length < 1000->∃ L',fM [.ref r,prU (x,y)] L=some (.int ((as.filter rel).length:Nat),L')/\Gw L L')
  {L:UH} {k p:Nat} {m:List NP} (T:Kept L k p m) (hl:m.length < 1000) :
  ∃ L',fN [.ref k,.int x,.int y] L=some (.int ((m.filter fun p=>rel p.2).length:Nat),L')/\Gw L L':=by
 obtain ⟨r,L1,e1,h1,g1⟩:=Ah8 T hl
 obtain ⟨L2,e2,g2⟩:=hM L1 r (m.map (·.2)) (by rw[h1,cY];rfl) (by simpa using hl)
 refine ⟨L2,?_,g1.trans g2⟩
 have no:=Afj (s := "places_now") p (by decide +kernel)
 have hme:(Bh "KeptPoints" "places_now" 1 Bx (Ae 0) Ag) [some (.ref k),some (.int x),some (.int y)] L=some (.ref r,L1):=by
  unfold Bh
  simp only[fVar_eq,aN,bD,aG,aC,Gu T.ob,no,if_true,fNil_eq,aR,e1]
 have ht:(Di (Ad (Ae 1) (Ad (Ae 2) Ag))) [some (.ref k),some (.int x),some (.int y)] L1=some (prU (x,y),L1):=by
  simp only[Ny,fCons_eq,fNil_eq,fVar_eq,aN,bB,bD,aG,aC]
  rw[if_pos (small_of (by show 2<=16777216;decide))]
  rfl
 have hc:((m.map (·.2)).filter rel).length=(m.filter fun p=>rel p.2).length:=by
  rw[oG,aU];rfl
 rw[hc] at e2
 subst hN
 unfold fnU
 simp only[aL,aR,if_true,aI,bG,cQ,bK,aV]
 rw[fRet_eq,fOwn_eq,fCons_eq,hme,aC,fCons_eq,ht]
 simp only[aC,fNil_eq,aG,aL,aR,if_true,e2]
theorem Aal{L:UH}{k p:Nat}{m:List NP}{x y:Int}(T:Kept L k p m)(hl:m.length < 1000) :
  ∃ L',Eg [.ref k,.int x,.int y] L=some (.int ((m.filter fun p=>Cf p.2 (x,y)).length:Nat),L')/\Gw L L':=
 Ag7 (rel:=fun a=>Cf a (x,y)) rfl (fun L r as h1 h2=>Om (x,y) (Ao h1) (by omega)) T hl
theorem Aa1{L:UH}{k p:Nat}{m:List NP}{x y:Int}(T:Kept L k p m)(hl:m.length < 1000) :
  ∃ L',Eh [.ref k,.int x,.int y] L=some (.int ((m.filter fun p=>Cf (x,y) p.2).length:Nat),L')/\Gw L L':=
 Ag7 (rel:=fun a=>Cf (x,y) a) rfl (fun L r as h1 h2=>Oe (x,y) (Ao h1) (by omega)) T hl
def inB(b:Int×Int×Int×Int)(p:Str×(Int×Int)):Bool:=decide (b.1<=p.2.1)&&(decide (p.2.1<=b.2.2.1)&&(decide (b.2.1<=p.2.2)&&decide (p.2.2<=b.2.2.2)))
def cntB(ps:List (Str×(Int×Int)))(b:Int×Int×Int×Int):Nat:=(ps.filter (inB b)).length
theorem pt1(p:Str×(Int×Int)):L2.atI [U.str p.1,.int p.2.1,.int p.2.2] 1=some (.int p.2.1):=rfl
theorem pt2(p:Str×(Int×Int)):L2.atI [U.str p.1,.int p.2.1,.int p.2.2] 2=some (.int p.2.2):=rfl
theorem ix1(p:Str×(Int×Int))(L:UH):Al (ptU p) (.int 1) L=some (.int p.2.1,L):=by unfold ptU;rw[Xu,pt1];rfl
theorem ix2(p:Str×(Int×Int))(L:UH):Al (ptU p) (.int 2) L=some (.int p.2.2,L):=by unfold ptU;rw[Xu,pt2];rfl
theorem bx0(b:Int×Int×Int×Int)(L:UH):Al (bxU b) (.int 0) L=some (.int b.1,L):=rfl
theorem bx1(b:Int×Int×Int×Int)(L:UH):Al (bxU b) (.int 1) L=some (.int b.2.1,L):=rfl
theorem bx2(b:Int×Int×Int×Int)(L:UH):Al (bxU b) (.int 2) L=some (.int b.2.2.1,L):=rfl
theorem bx3(b:Int×Int×Int×Int)(L:UH):Al (bxU b) (.int 3) L=some (.int b.2.2.2,L):=rfl
variable {fa fb fc:FE}
theorem Mz{a b c:Int}(ha:fa δ L=some (.int a,L))(hb:fb δ L=some (.int b,L))(hc:fc δ L=some (.int c,L)):Hf Em Em fa fb fc δ L=some (.bl (decide (a<=b)&&decide (b<=c)),L):=by
 unfold Hf
 simp only[ha,hb,hc,aC,Ajw]
 cases decide (a<=b) <;> rfl
theorem Aeh(p:Str×(Int×Int))(b:Int×Int×Int×Int)(L:UH):Nr [ptU p,bxU b] L=some (.bl (inB b p),L):=by
 have c1:Hf Em Em (f2 Al (Ae 1) (fC (.int 0))) (f2 Al (Ae 0) (fC (.int 1))) (f2 Al (Ae 1) (fC (.int 2))) [some (ptU p),some (bxU b)] L=some (.bl (decide (b.1<=p.2.1)&&decide (p.2.1<=b.2.2.1)),L):=Mz (by simp only[f2_eq,fVar_eq,fC_eq,bB,aN,bD,aG,aC,bx0]) (by simp only[f2_eq,fVar_eq,fC_eq,bB,aN,bD,aG,aC,ix1]) (by simp only[f2_eq,fVar_eq,fC_eq,bB,aN,bD,aG,aC,bx2])
 have c2:Hf Em Em (f2 Al (Ae 1) (fC (.int 1))) (f2 Al (Ae 0) (fC (.int 2))) (f2 Al (Ae 1) (fC (.int 3))) [some (ptU p),some (bxU b)] L=some (.bl (decide (b.2.1<=p.2.2)&&decide (p.2.2<=b.2.2.2)),L):=Mz (by simp only[f2_eq,fVar_eq,fC_eq,bB,aN,bD,aG,aC,bx1]) (by simp only[f2_eq,fVar_eq,fC_eq,bB,aN,bD,aG,aC,ix2]) (by simp only[f2_eq,fVar_eq,fC_eq,bB,aN,bD,aG,aC,bx3])
 unfold Nr fnU Yc inB
 simp only[aL,aR,if_true,aI,bG,cQ,bK,aV,fRet_eq,Js,c1,c2,aG,aC]
 cases decide (b.1<=p.2.1) <;> cases decide (p.2.1<=b.2.2.1) <;> cases decide (b.2.1<=p.2.2) <;> cases decide (p.2.2<=b.2.2.2) <;> rfl
theorem Aa3{ps:List (Str×(Int×Int))}(hl:ps.length<=1000)(b:Int×Int×Int×Int)(L:UH):∃ (r:Nat) (L':UH),Ju [.tup (ps.map ptU),bxU b] L=some (.ref r,L')/\L'[r]? = some (.lst ((ps.filter (inB b)).map ptU))/\Gw L L':=by
 obtain ⟨x,e⟩:=B6 (ix:=[none,some 1]) (fi:=Bu (Ae 0)) (it:=.seq (ps.map ptU)) (g:=gN 0) (tt:=some Je) (fe:=Ms) (δ:=[some (.tup (ps.map ptU)),some (bxU b)]) (L:=L) (L0:=L)
  ps ptU (inB b) ptU (fun δ=>∃ a,δ = [a,some (bxU b)]) (by simp[Ih]) (by simp[IU.size]) (by omega) ⟨none,rfl⟩
  (fun k x=>rfl)
  (fun p δ x _ ⟨y,hδ⟩=>by
   subst hδ
   refine ⟨[some (ptU p),some (bxU b)],rfl,⟨_,rfl⟩,[],?_,fun _=>⟨[],?_⟩⟩
   ·unfold E4 Je
    simp only[fTru_eq,fOwn_eq,fCons_eq,fNil_eq,fVar_eq,bB,aN,bD,aG,aC,aL,aR,if_true,Aeh,truU_bl,aV]
   ·rw[aV,aV];rfl)
 refine ⟨(L++x).length,L++x++[HU.lst ((ps.filter (inB b)).map ptU)],?_,by simp,⟨x++[HU.lst ((ps.filter (inB b)).map ptU)],by rw[bH]⟩⟩
 unfold Ju fnU Sk
 simp only[aL,aR,if_true,aI,bG,cQ,bK,aV,fRet_eq,e,aG,aC]
theorem Acs{ps:List (Str×(Int×Int))}(hl:ps.length<=1000)(bs:List (Int×Int×Int×Int))(hb:bs.length<=1000)(L:UH):∃ L',K5 [.tup (ps.map ptU),.tup (bs.map bxU)] L=some (.tup ((bs.map fun b=>((cntB ps b:Nat):Int)).map U.int),L')/\Gw L L':=by
 obtain ⟨x,e⟩:=B6 (ix:=[none,some 0]) (fi:=Bu (Ae 1)) (it:=.seq (bs.map bxU)) (g:=gN 0) (tt:=none) (fe:=Ke) (δ:=[some (.tup (ps.map ptU)),some (.tup (bs.map bxU))]) (L:=L) (L0:=L)
  bs bxU (fun _=>true) (fun b=>.int ((cntB ps b:Nat):Int)) (fun δ=>∃ a,δ = [a,some (.tup (ps.map ptU))]) (by simp[Ih]) (by simp[IU.size]) (by omega) ⟨none,rfl⟩
  (fun k x=>rfl)
  (fun b δ x _ ⟨y,hδ⟩=>by
   subst hδ
   obtain ⟨r,L',e1,hr,w,hw⟩:=Aa3 hl b (L++x)
   refine ⟨[some (bxU b),some (.tup (ps.map ptU))],rfl,⟨_,rfl⟩,[],by simp[E4],fun _=>⟨w,?_⟩⟩
   have hlen:=Fg hr
   rw[aU] at hlen
   unfold Ke
   rw[aV,<- hw]
   simp only[fCall_eq,fOwn_eq,fCons_eq,fNil_eq,fVar_eq,bB,aN,bD,aG,aC,aL,aR,if_true,e1,hlen,cntB])
 have hff:gQ (fun _=>true) bs=bs:=cP.mpr (fun _ _=>rfl)
 have hm:bs.map (fun b=>U.int ((cntB ps b:Nat):Int))=(bs.map fun b=>((cntB ps b:Nat):Int)).map U.int:=by simp
 rw[hff,hm] at e
 generalize (bs.map fun b=>((cntB ps b:Nat):Int))=cs at e
 have q2:Aw (L++x++[HU.lst (cs.map U.int)]) (L++x).length=some (cs.map U.int):=Ao (by simp)
 refine ⟨L++x++[HU.lst (cs.map U.int)],?_,⟨x++[HU.lst (cs.map U.int)],by rw[bH]⟩⟩
 unfold K5 fnU T9
 simp only[aL,aR,if_true,aI,bG,cQ,bK,aV]
 rw[fRet_eq,fCall_eq,fCons_eq,e]
 simp only[aC,fNil_eq,aG,semTuple,q2]
theorem Ab9(T:Kept L k p m)(h:Ae i δ L=some (.ref k,L)):(Bh "KeptPoints" "points_now" 1 Bk (Ae i) Ag) δ L=some (.tup (m.map ptU),L):=by
 have no:=Afj (s := "points_now") p (by decide +kernel)
 have e:=Og T
 unfold Bh
 rw[h]
 simp only[aC,Gu T.ob,no,if_true,fNil_eq,aR,e]
theorem Ae9(T:Kept L k p m)(hl:m.length < 1000)(b:Int×Int×Int×Int):∃ L',Du [.ref k,bxU b] L=some (.int (cntB m b:Nat),L')/\Gw L L':=by
 obtain ⟨L1,e1,g1⟩:=Acs (ps:=m) (by omega) [b] (by simp) L
 refine ⟨L1,?_,g1⟩
 have ht:(Di (Ad (Ae 1) Ag)) [some (.ref k),some (bxU b)] L=some (.tup ([b].map bxU),L):=rfl
 unfold Du fnU Hn
 simp only[aL,aR,if_true,aI,bG,cQ,bK,aV]
 rw[fRet_eq,f2_eq,fOwn_eq,fCons_eq,Ab9 T rfl,aC,fCons_eq,ht]
 simp only[aC,fNil_eq,aG,aL,aR,if_true,e1]
 rfl
structure Fr(P:Nat->Prop)(L L':UH):Prop where
 le:L.length<=L'.length
 at_:∀ i,i < L.length->¬ P i->L'[i]? = L[i]?
theorem Fr.refl(P:Nat->Prop)(L:UH):Fr P L L:=⟨aZ _,fun _ _ _=>rfl⟩
variable {P:Nat->Prop}
theorem Fr.trans{N:UH}(a:Fr P L M)(b:Fr P M N):Fr P L N:=⟨cB a.le b.le,fun i h1 h2=>by rw[b.at_ i (aW h1 a.le) h2,a.at_ i h1 h2]⟩
theorem Ex.fr(x:Ex d L L')(h:P d):Fr P L L':=⟨x.le,fun i h1 h2=>x.at_ i h1 (fun q=>h2 (by rw[q];exact h))⟩
theorem Gw.fr(g:Gw L L')(P:Nat->Prop):Fr P L L':=by
 obtain ⟨x,rfl⟩:=g
 exact ⟨by simp,fun i h1 _=>by rw[bA h1]⟩
theorem Fr.put(L:UH)(h:P k)(o:HU):Fr P L (L.set k o):=⟨by simp,fun i _ h2=>by rw[bW (fun q=>h2 (by rw[<- q];exact h))]⟩
theorem Fr.get(f:Fr P L L')(e:L[i]? = some o)(h:¬ P i):L'[i]? = some o:=by rw[f.at_ i (aK.mp e).1 h];exact e
theorem Gw.of(h:L.length<=L'.length)(e:∀ i,i < L.length->L'[i]? = L[i]?):Gw L L':=by
 refine ⟨L'.drop L.length,?_⟩
 apply List.ext_getElem?
 intro i
 by_cases hi:i < L.length
 ·rw[bA hi];exact e i hi
 ·rw[cR (by omega),List.getElem?_drop]
  congr 1
  omega
variable {a b:Str}
theorem Fd(h:a.cps.toList=b.cps.toList):a=b:=by
 cases a;cases b
 simp only[Str.mk.injEq]
 exact Array.toList_inj.mp h
theorem app_cps(a b:Str):(a++b).cps.toList=a.cps.toList++b.cps.toList:=by
 show (a.cps++b.cps).toList=_
 simp
theorem Ja(c:Nat)(a b:Str)(r:List Str):(gR ⟨#[c]⟩ (a::b::r)).cps.toList=a.cps.toList++c::(gR ⟨#[c]⟩ (b::r)).cps.toList:=by
 show (a++⟨#[c]⟩++gR ⟨#[c]⟩ (b::r)).cps.toList=_
 rw[app_cps,app_cps]
 simp
variable {c:Nat}
theorem Amu:∀ {a a' r r':List Nat},c∉a->c∉a'->a++c::r=a'++c::r'->a=a'/\r=r'
 | [],[],r,r',_,_,h=>by simp at h;exact ⟨rfl,h⟩
 | [],x::a',r,r',_,h2,h=>by
  simp at h
  exact absurd (by rw[<- h.1];exact bE ..) h2
 | x::a,[],r,r',h1,_,h=>by
  simp at h
  exact absurd (by rw[h.1];exact bE ..) h1
 | x::a,y::a',r,r',h1,h2,h=>by
  simp only[jA,gJ] at h
  obtain ⟨e1,e2⟩:=Amu (fun q=>h1 (aQ _ q)) (fun q=>h2 (aQ _ q)) h.2
  exact ⟨by rw[h.1,e1],e2⟩
theorem Abr(c:Nat):∀ (l l':List Str),l≠[]->l'≠[]->(∀ p∈l,c∉p.cps.toList)->(∀ p∈l',c∉p.cps.toList)->(gR ⟨#[c]⟩ l).cps.toList=(gR ⟨#[c]⟩ l').cps.toList->l=l'
 | [],_,h,_,_,_,_=>absurd rfl h
 | _,[],_,h,_,_,_=>absurd rfl h
 | [a],[b],_,_,_,_,h=>by
  have:a=b:=Fd h
  rw[this]
 | [a],b::b'::r,_,_,h1,_,h=>by
  rw[Ja] at h
  have h':a.cps.toList=b.cps.toList++c::(gR ⟨#[c]⟩ (b'::r)).cps.toList:=h
  exact absurd (by rw[h'];simp) (h1 a (bE ..))
 | a::a'::r,[b],_,_,_,h2,h=>by
  rw[Ja] at h
  have h':a.cps.toList++c::(gR ⟨#[c]⟩ (a'::r)).cps.toList=b.cps.toList:=h
  exact absurd (by rw[<- h'];simp) (h2 b (bE ..))
 | a::a'::r,b::b'::r',_,_,h1,h2,h=>by
  rw[Ja,Ja] at h
  obtain ⟨e1,e2⟩:=Amu (h1 a (bE ..)) (h2 b (bE ..)) h
  have ih:=Abr c (a'::r) (b'::r') (by simp) (by simp) (fun p hp=>h1 p (aQ _ hp)) (fun p hp=>h2 p (aQ _ hp)) e2
  rw[Fd e1,ih]
theorem Akl(x y:Str):eP x y≠[]:=by
 unfold eP
 split
 ·simp
 ·split
  ·simp
  ·rw[StrLaws.partsBetween_eq]
   obtain ⟨p,r,e⟩:=StrLaws.partsFrom_ne x y.length 0 (cI x y 0 x.length (x.length+1))
   rw[e];simp
theorem Adx{l:List Str}(hne:l≠[])(hf:∀ p∈l,c∉p.cps.toList):eP (gR ⟨#[c]⟩ l) ⟨#[c]⟩=l:=
 Abr c _ l (Akl _ _) hne (fun p hp=>StrLaws.split_free _ c p hp) hf (by rw[StrLaws.join_split])
def dig(n:Nat):List Nat:=if h:n < 10 then [48+n] else dig (n / 10)++[48+n % 10]
termination_by n
decreasing_by omega
theorem Wb(h:n < 10):dig n=[48+n]:=by rw[dig,dif_pos h]
theorem Adp(h:¬ n < 10):dig n=dig (n / 10)++[48+n % 10]:=by rw[dig,dif_neg h]
theorem Jb:∀ n:Nat,NumText.AllDigits (dig n)/\dig n≠[]/\NumText.digitsVal (dig n)=n/\(n≠0->∃ c r,dig n=c::r/\c≠48):=by
 intro n
 induction n using rS with
 | _ n ih=>
  by_cases h:n < 10
  ·rw[Wb h]
   refine ⟨fun c hc=>?_,by simp,?_,fun h0=>⟨48+n,[],rfl,by omega⟩⟩
   ·have:c=48+n:=by simpa using hc
    omega
   ·show 0 * 10+(48+n - 48)=n
    omega
  ·obtain ⟨h1,h2,h3,h4⟩:=ih (n / 10) (by omega)
   rw[Adp h]
   refine ⟨fun c hc=>?_,by simp,?_,fun _=>?_⟩
   ·rcases cV.mp hc with q | q
    ·exact h1 c q
    ·have:c=48+n % 10:=by simpa using q
     omega
   ·rw[NumText.digitsVal_snoc,h3];omega
   ·obtain ⟨c,r,e,hc⟩:=h4 (by omega)
    exact ⟨c,r++[48+n % 10],by rw[e];rfl,hc⟩
theorem Aa2:∀ (k n:Nat),n < 10 ^ (k+1)->(dig n).length<=k+1
 | 0,n,h=>by rw[Wb (by simpa using h)];simp
 | k+1,n,h=>by
  by_cases hn:n < 10
  ·rw[Wb hn];simp
  ·rw[Adp hn,cM]
   have:=Aa2 k (n / 10) (by
    rw[Nat.pow_succ] at h
    exact Nat.div_lt_of_lt_mul (by rw[sX];exact h))
   simp;omega
def fig(n:Int):Str:=⟨((if n < 0 then [45] else [])++dig n.natAbs).toArray⟩
theorem fig_cps(n:Int):(fig n).cps.toList=(if n < 0 then [45] else [])++dig n.natAbs:=by unfold fig;simp
theorem Dw{n:Int}(h:-9999999999<=n/\n<=9999999999):(fig n).length<=11:=by
 have e:(fig n).length=(fig n).cps.toList.length:=by simp[pY]
 rw[e,fig_cps,cM]
 have:=Aa2 9 n.natAbs (by omega)
 split <;> simp <;> omega
theorem Apm{n:Int}(h:-9999999999<=n/\n<=9999999999):lY (fig n)=some n:=by
 have hl:=Dw h
 have en:n < 0->-((n.natAbs:Nat):Int)=n:=fun q=>by omega
 have ep:¬ n < 0->((n.natAbs:Nat):Int)=n:=fun q=>by omega
 obtain ⟨h1,h2,h3,_⟩:=Jb n.natAbs
 by_cases h0:n < 0
 ·have hx:(fig n).cps.toList=45::dig n.natAbs:=by rw[fig_cps,if_pos h0];rfl
  rw[PySem.intText_neg hx h1 h2 (by omega),h3,en h0]
 ·have hx:(fig n).cps.toList=dig n.natAbs:=by rw[fig_cps,if_neg h0];rfl
  rw[PySem.intText_digits (by rw[hx];exact h1) (by rw[hx];exact h2) (by omega),hx,h3,ep h0]
theorem Amy{n:Int}(hc:c < 45):c∉(fig n).cps.toList:=fun h=>by
 rw[fig_cps] at h
 rcases cV.mp h with q | q
 ·split at q
  ·have:c=45:=by simpa using q
   omega
  ·simp at q
 ·have:=(Jb n.natAbs).1 c q
  omega
def Low(s:Str):Prop:=∀ c∈s.cps.toList,97<=c/\c<=122
def Nm(s:Str):Prop:=1<=s.length/\s.length<=8/\Low s
theorem Q6(x:Str)(i:Int)(L:UH):Al (.str x) (.int i) L=if F0 x.length=true then (L2.atI x.cps.toList i).map fun c=>(.str ⟨#[c]⟩,L) else none:=rfl
variable {v:U}
theorem Ek(e:fe δ L=some (v,L')):(Bo fe (gN i)) δ L=some (.nx (δ.set i (some v)),L'):=by
 rw[Ni,e]
 simp only[aC,gN_eq,aG]
variable {u:U}
theorem Pc{f:FN}(h:Ae i δ L=some (u,L))(e:f [u] L=some (v,L')):(Ar 1 f (Ad (Ae i) Ag)) δ L=some (v,L'):=by
 rw[fOwn_eq,fCons_eq,h]
 simp only[aC,fNil_eq,aG,aL,aR,if_true,e]
theorem Af6{f:FN}(h:fe δ L=some (u,L1))(e:f [u] L1=some (v,L')):(Ar 1 f (Ad fe Ag)) δ L=some (v,L'):=by
 rw[fOwn_eq,fCons_eq,h]
 simp only[aC,fNil_eq,aG,aL,aR,if_true,e]
theorem Eu{f:FN}{w:U}{L2:UH}(h:fa δ L=some (u,L1))(h2:fb δ L1=some (w,L2))(e:f [u,w] L2=some (v,L')):(Ar 2 f (Ad fa (Ad fb Ag))) δ L=some (v,L'):=by
 rw[fOwn_eq,fCons_eq,h,aC,fCons_eq,h2]
 simp only[aC,fNil_eq,aG,aL,aR,if_true,e]
theorem fn1{b:FS}(h:b (some u::bM n none) L=some (.rt v,L')):fnU (n+1) 1 b [u] L=some (v,L'):=by
 unfold fnU
 simp only[aL,aR,if_true,aI,bG,jA,kP,Nat.add_sub_cancel,h]
 rfl
theorem Ce(e:fe δ L=some (v,L')):B7 fe δ L=some (.rt v,L'):=by
 rw[fRet_eq,e];rfl
def asc(w:Str):Prop:=w.cps.all (· < 128)=true
theorem len_cps(w:Str):w.length=w.cps.toList.length:=by simp[pY]
theorem Ac6(w signs:Str)(ha:asc w)(hl:w.length<=1000)(L:UH):∃ L',Ej [.str w,.str signs] L=some (.bl (w.cps.toList.all fun c=>decide (c∈signs.cps.toList)),L')/\Gw L L':=by
 have hlc:=len_cps w
 have hi:Acv (Ae 0) [some (.str w),some (.str signs)] L=some (.seq (w.cps.toList.map fun c=>.str ⟨#[c]⟩),L):=by
  unfold Acv
  simp only[fVar_eq,aN,bD,aG,aC]
  rw[if_pos (show (w.cps.all (· < 128))=true from ha)];rfl
 obtain ⟨x,e⟩:=B6 (ix:=[none,some 1]) (fi:=Acv (Ae 0)) (it:=.seq (w.cps.toList.map fun c=>U.str ⟨#[c]⟩)) (g:=gN 0) (tt:=none) (fe:=Mb) (δ:=[some (.str w),some (.str signs)]) (L:=L) (L0:=L)
  w.cps.toList (fun c=>U.str ⟨#[c]⟩) (fun _=>true) (fun c=>.bl (decide (c∈signs.cps.toList))) (fun δ=>∃ a,δ = [a,some (.str signs)]) hi (by simp[IU.size]) (by omega) ⟨none,rfl⟩
  (fun k x=>rfl)
  (fun c δ x _ ⟨y,hδ⟩=>by
   subst hδ
   refine ⟨[some (.str ⟨#[c]⟩),some (.str signs)],rfl,⟨_,rfl⟩,[],by simp[E4],fun _=>⟨[],?_⟩⟩
   have hfo:=qV signs c
   show some (U.bl (!(cI signs ⟨#[c]⟩ 0 signs.length 1).isEmpty),L++x++[])=_
   rw[hfo];simp)
 have hff:gQ (fun _=>true) w.cps.toList=w.cps.toList:=cP.mpr (fun _ _=>rfl)
 rw[hff] at e
 have q1:Aw (L++x++[HU.lst (w.cps.toList.map fun c=>.bl (decide (c∈signs.cps.toList)))]) (L++x).length=some (w.cps.toList.map fun c=>U.bl (decide (c∈signs.cps.toList))):=Ao (by simp)
 have ha:=Agt _ _ q1
 refine ⟨L++x++[HU.lst (w.cps.toList.map fun c=>.bl (decide (c∈signs.cps.toList)))],?_,⟨x++[HU.lst (w.cps.toList.map fun c=>.bl (decide (c∈signs.cps.toList)))],by rw[bH]⟩⟩
 unfold Ej fnU Pz
 simp only[aL,aR,if_true,aI,bG,cQ,bK,aV,fRet_eq,fCall_eq,fCons_eq,fNil_eq,aG,aC,e,ha]
theorem Ard:(eJ "abcdefghijklmnopqrstuvwxyz").toList=(cK 26).map (97 + ·):=by decide +kernel
theorem Ah4:(eJ "0123456789").toList=(cK 10).map (48 + ·):=by decide +kernel
theorem Aq5(h:97<=c/\c<=122):c∈(eJ "abcdefghijklmnopqrstuvwxyz").toList:=by
 rw[Ard]
 exact dI.mpr ⟨c - 97,eR.mpr (by omega),by omega⟩
theorem Anx(h:48<=c/\c<=57):c∈(eJ "0123456789").toList:=by
 rw[Ah4]
 exact dI.mpr ⟨c - 48,eR.mpr (by omega),by omega⟩
variable {w:Str}
theorem Ry(h:∀ c∈w.cps.toList,c < 128):asc w:=by
 unfold asc
 rw[<- nF,bS]
 intro c hc
 exact decide_eq_true (h c hc)
theorem Amg(h:w.length<=1000)(L:UH):Az [.str w] L=some (.int w.length,L):=by
 unfold Az lenU
 simp only[small_of (show w.length<=16777216 by omega),if_true,aG]
theorem Adz(h:Nm w)(L:UH):∃ L',Rn [.str w] L=some (.bl true,L')/\Gw L L':=by
 obtain ⟨h1,h2,h3⟩:=h
 obtain ⟨L',e,g⟩:=Ac6 w "abcdefghijklmnopqrstuvwxyz" (Ry fun c hc=>by have:=h3 c hc;omega) (by omega) L
 have ht:(w.cps.toList.all fun c=>decide (c∈(eJ "abcdefghijklmnopqrstuvwxyz").toList))=true:=bS.mpr fun c hc=>decide_eq_true (Aq5 (h3 c hc))
 rw[ht] at e
 refine ⟨L',fn1 (n:=0) ?_,g⟩
 have c1:Hf Em Em (fC (.int 1)) (Be Az (Ad (Ae 0) Ag)) (fC (.int 8)) [some (.str w)] L=some (.bl true,L):=by
  have hb:(Be Az (Ad (Ae 0) Ag)) [some (.str w)] L=some (.int w.length,L):=by
   simp only[fCall_eq,fCons_eq,fNil_eq,fVar_eq,aN,bD,aG,aC,Amg (show w.length<=1000 by omega)]
  rw[Mz (a:=1) (b:=w.length) (c:=8) rfl hb rfl,decide_eq_true (show (1:Int)<=w.length by omega),decide_eq_true (show (w.length:Int)<=8 by omega)]
  rfl
 show B7 _ [some (.str w)] L=_
 refine Ce ?_
 rw[Js,c1]
 simp only[aC,if_true]
 exact Eu (u:=.str w) rfl rfl e
theorem zero_cps:(eJ "0").toList=[48]:=by decide +kernel
theorem minus_cps:(eJ "-").toList=[45]:=by decide +kernel
theorem Ahy:(eJ "").toList=[]:=by decide +kernel
theorem At8(h:a.cps.toList≠b.cps.toList):a≠b:=fun q=>h (by rw[q])
theorem Pj(h:asc w):Pl 6 (.str w):=by
 show fG w=true
 unfold fG
 unfold asc at h
 rw[<- nF,bS] at h ⊢
 intro c hc
 have:=of_decide_eq_true (h c hc)
 exact decide_eq_true (by omega)
theorem Ags(ha:asc a)(hb:asc b):eqB (.str a) (.str b)=decide (a=b):=by
 rw[oE,Aav (Pj ha) (Pj hb),decide_eq_true_eq]
 exact ⟨fun q=>by injection q,fun q=>by rw[q]⟩
theorem Rh(ha:asc a)(hb:asc b)(L:UH):B3 (.str a) (.str b) L=some (.bl (decide (a=b)),L):=by
 rw[Als L (Pj ha) (Pj hb),Ags ha hb]
theorem Aic(ha:asc a)(hb:asc b)(L:UH):Cr (.str a) (.str b) L=some (.bl (!decide (a=b)),L):=by
 rw[Abg L (Pj ha) (Pj hb),Ags ha hb]
theorem Acf:asc "0" := by unfold asc;decide +kernel
theorem Ajk:asc "" := by unfold asc;decide +kernel
theorem Arb(h:c < 128):asc ⟨#[c]⟩:=Ry fun x hx=>by
 have:x=c:=by simpa using hx
 omega
theorem Nw(n:Int):asc (fig n):=Ry fun c hc=>by
 rw[fig_cps] at hc
 rcases cV.mp hc with q | q
 ·split at q
  ·have:c=45:=by simpa using q
   omega
  ·simp at q
 ·have:=(Jb n.natAbs).1 c q
  omega
def La(n:Int):Str:=⟨(dig n.natAbs).toArray⟩
theorem figA_cps(n:Int):(La n).cps.toList=dig n.natAbs:=by unfold La;simp
theorem Aba(n:Nat):∃ c r,dig n=c::r/\48<=c/\c<=57:=by
 obtain ⟨h1,h2,_,_⟩:=Jb n
 cases e:dig n with
 | nil=>exact absurd e h2
 | cons c r=>exact ⟨c,r,rfl,h1 c (by rw[e];exact bE ..)⟩
theorem Aas(n:Int):jY (fig n) "-" = decide (n < 0):=by
 unfold jY
 rw[StrLaws.subAt_eq,minus_cps,fig_cps]
 have hm:pY "-" = 1:=by rw[len_cps,minus_cps];rfl
 have hl:(fig n).length=(fig n).cps.toList.length:=len_cps _
 rw[hm,hl,fig_cps]
 obtain ⟨c,r,e,h1,h2⟩:=Aba n.natAbs
 rw[e]
 by_cases h:n < 0
 ·rw[if_pos h,decide_eq_true h]
  simp
 ·rw[if_neg h,decide_eq_false h]
  have:(c == 45)=false:=by simp;omega
  simp[this]
theorem Akp(a len:Nat):fX (some (a:Int)) none 1 len=fX (some (a:Int)) (some (len:Int)) 1 len:=by
 unfold fX
 have h2:¬ ((len:Int) < 0):=by omega
 have e2:max (0:Int) (min (len:Int) (len:Int))=len:=by omega
 simp only[h2,if_false,e2,show ((1:Int) > 0)=True from by simp,if_true]
theorem Ail{x:Str}(h:1<=x.length):(kI x (some 1) none).cps.toList=x.cps.toList.drop 1:=by
 have e:=Akp 1 x.length
 have p:=StrLaws.strSliceIndices_plain (a:=1) (b:=x.length) (len:=x.length) h (aZ _)
 have q:=StrLaws.sliced_plain x (a:=1) (b:=x.length) h (aZ _)
 have i1:((1:Nat):Int)=1:=rfl
 rw[i1] at e p q
 unfold kI
 rw[e]
 have hl:(fX (some 1) (some (x.length:Int)) 1 x.length).length=x.length - 1:=by rw[p];simp
 rw[if_neg (by rw[hl];simp;omega),q]
 have:x.length=x.cps.toList.length:=len_cps x
 simp only[eC (by rw[mZ];omega:(x.cps.toList.drop 1).length<=x.length - 1)]
theorem Ack(n:Int):asc (La n):=Ry fun c hc=>by
 rw[figA_cps] at hc
 have:=(Jb n.natAbs).1 c hc
 omega
theorem Aah{n:Int}(h:-9999999999<=n/\n<=9999999999)(L:UH):∃ L',Mw [.str (fig n)] L=some (.bl true,L')/\Gw L L':=by
 have hlf:=Dw h
 have hst:=Aas n
 have hlA:(La n).length<=11:=by
  rw[len_cps,figA_cps]
  have h1:(fig n).length=(fig n).cps.toList.length:=len_cps _
  rw[fig_cps,cM] at h1
  omega
 obtain ⟨L',e,g⟩:=Ac6 (La n) "0123456789" (Ack n) (by omega) L
 have hd:=Jb n.natAbs
 have ht:((La n).cps.toList.all fun c=>decide (c∈(eJ "0123456789").toList))=true:=bS.mpr fun c hc=>decide_eq_true (Anx (hd.1 c (by rw[figA_cps] at hc;exact hc)))
 rw[ht] at e
 have ty:∀ L,tyU "str" (.str (fig n)) L=true:=fun _=>rfl
 have c0:(F8 (C2 "str" semStarts (Ae 0) (Ad (fC (.str "-")) Ag))) [some (.str (fig n)),none] L=some (decide (n < 0),L):=by
  rw[fTru_eq,fMeth_eq]
  simp only[fVar_eq,fCons_eq,fC_eq,fNil_eq,aN,bD,aG,aC,ty,if_true,semStarts,hst,truU_bl]
 have s1:(Bo (fIf (F8 (C2 "str" semStarts (Ae 0) (Ad (fC (.str "-")) Ag))) (fSl U4 (Ae 0) (Cw (fC (.int 1))) Bq) (Ae 0)) (gN 1)) [some (.str (fig n)),none] L=some (.nx [some (.str (fig n)),some (.str (La n))],L):=by
  refine Ek ?_
  rw[Avp,c0,aC]
  by_cases h0:n < 0
  ·have hx:(fig n).cps.toList=45::dig n.natAbs:=by rw[fig_cps,if_pos h0];rfl
   have hs:kI (fig n) (some 1) none=La n:=by
    apply Fd
    rw[Ail (by rw[len_cps,hx];simp),hx,figA_cps]
    rfl
   simp only[decide_eq_true h0,if_true,Rp,fVar_eq,fPart_eq,fNoPart_eq,fC_eq,aN,bD,aG,aC,U4]
   rw[if_pos (small_of (by omega)),hs]
  ·have hx:fig n=La n:=Fd (by rw[fig_cps,if_neg h0,figA_cps];rfl)
   simp only[decide_eq_false h0,cD,if_false,fVar_eq,aN,bD,aG]
   rw[<- hx]
 have hne:(decide (La n = ""))=false:=decide_eq_false (At8 (by rw[figA_cps,Ahy];exact hd.2.1))
 have s2:(C5 (fOr (A0 (f2 B3 (Ae 1) (fC (.str "")))) (Rl (F8 (Ar 2 Ej (Ad (Ae 1) (Ad (fC (.str "0123456789")) Ag)))))) (B7 (fC (.bl false))) B9) [some (.str (fig n)),some (.str (La n))] L=some (.nx [some (.str (fig n)),some (.str (La n))],L'):=by
  have t1:(A0 (f2 B3 (Ae 1) (fC (.str "")))) [some (.str (fig n)),some (.str (La n))] L=some (false,L):=by
   rw[fTest_eq,f2_eq]
   simp only[fVar_eq,fC_eq,aN,bB,bD,aG,aC,Rh (Ack n) Ajk,hne]
  have t2:(Ar 2 Ej (Ad (Ae 1) (Ad (fC (.str "0123456789")) Ag))) [some (.str (fig n)),some (.str (La n))] L=some (.bl true,L'):=Eu (u:=.str (La n)) rfl rfl e
  rw[Nx,fOr_eq,t1]
  simp only[aC,cD,if_false,Ag5,fTru_eq,t2,truU_bl,aG,pO,U5]
 refine ⟨L',fn1 (n:=1) ?_,g⟩
 obtain ⟨c,r,ec,h1,h2⟩:=Aba n.natAbs
 have hix:∀ L,Al (.str (La n)) (.int 0) L=some (.str ⟨#[c]⟩,L):=fun L=>by
  rw[Q6,if_pos (small_of (by omega)),figA_cps,ec,Va (by omega) (by simp)]
  rfl
 have hc0:(decide ((⟨#[c]⟩:Str) = "0"))=decide (c=48):=by
  rw[oE,decide_eq_true_eq,decide_eq_true_eq]
  constructor
  ·intro q
   have:([c]:List Nat)=(eJ "0").toList:=by rw[<- q]
   rw[zero_cps] at this
   simpa using this
  ·intro q
   apply Fd
   rw[zero_cps,q]
 have s3:(An4 (f2 Cr (f2 Al (Ae 1) (fC (.int 0))) (fC (.str "0"))) (f2 B3 (Ae 0) (fC (.str "0")))) [some (.str (fig n)),some (.str (La n))] L'=some (.bl true,L'):=by
  have t1:(f2 Cr (f2 Al (Ae 1) (fC (.int 0))) (fC (.str "0"))) [some (.str (fig n)),some (.str (La n))] L'=some (.bl (!decide (c=48)),L'):=by
   rw[f2_eq,f2_eq]
   simp only[fVar_eq,fC_eq,aN,bB,bD,aG,aC,hix,Aic (Arb (show c < 128 by omega)) Acf,hc0]
  rw[Aq2,t1]
  by_cases q:c=48
  ·have hz:n.natAbs=0:=by
    by_cases z:n.natAbs=0
    ·exact z
    ·obtain ⟨c',r',e',hc'⟩:=hd.2.2.2 z
     rw[ec] at e'
     injection e' with a b
     exact absurd (a.symm.trans q) hc'
   have hn0:n=0:=by omega
   have hf0:fig n = "0" := by
    apply Fd
    rw[fig_cps,zero_cps,hn0,if_neg (by decide)]
    show []++dig 0=[48]
    rw[Wb (by decide)];rfl
   have t2:(f2 B3 (Ae 0) (fC (.str "0"))) [some (.str (fig n)),some (.str (La n))] L'=some (.bl true,L'):=by
    rw[f2_eq]
    simp only[fVar_eq,fC_eq,aN,bD,aG,aC,Rh (Nw n) Acf,decide_eq_true hf0]
   rw[decide_eq_true q]
   simp only[aC,pO,cD,if_false,t2]
  ·rw[decide_eq_false q]
   simp only[aC,sM,if_true]
 unfold Sa
 show Bc _ _ [some (.str (fig n)),none] L=_
 rw[Bp s1,Bp s2]
 exact Ce s3
theorem C0{c:FT}(h:c δ L=some (false,L')):C5 c f B9 δ L=some (.nx δ,L'):=by
 rw[Nx,h];rfl
theorem Cg{f:FE}{b:Bool}(h:f δ L=some (.bl b,L')):A0 f δ L=some (b,L'):=by
 rw[fTest_eq,h];rfl
variable {L3:UH}
theorem Bg{s:S2}{L2:UH}{w:U}(h1:fa δ L=some (u,L1))(h2:fb δ L1=some (v,L2))(h:s u v L2=some (w,L3)):f2 s fa fb δ L=some (w,L3):=by
 rw[f2_eq,h1];simp only[aC,h2,h]
theorem fnN{b:FS}(hn:us.length=k)(h:b (us.map some++bM (n - k) none) L=some (.rt v,L')):fnU n k b us L=some (v,L'):=by
 subst hn
 unfold fnU
 rw[if_pos rfl,h]
 rfl
theorem Jh{s:SC}{L2:UH}(h:fa δ L=some (u,L1))(e:s [u] L1=some (v,L2)):(Be s (Ad fa Ag)) δ L=some (v,L2):=by
 rw[fCall_eq,fCons_eq,h];exact e
theorem Awn{f:FN}{w x:U}{L2:UH}(h:fa δ L=some (u,L1))(h2:fb δ L1=some (w,L2))(h3:fc δ L2=some (x,L3))(e:f [u,w,x] L3=some (v,L')):(Ar 3 f (Ad fa (Ad fb (Ad fc Ag)))) δ L=some (v,L'):=by
 rw[fOwn_eq,fCons_eq,h]
 simp only[aC,fCons_eq,h2,h3,fNil_eq,aG,aL,aR,if_true,e]
theorem Qy(h:fe δ L=some (.bl true,L')):(Rl (F8 fe)) δ L=some (false,L'):=by
 rw[Ag5,fTru_eq,h];rfl
theorem K9(h:l[k]? = some u):L2.atI l (k:Int)=some u:=by
 have:=(aK.mp h).1
 rw[Va (by omega) (by omega),fK,h]
theorem G4{i:Int}(h:L[n]? = some (.lst l))(hu:L2.atI l i=some u):Al (.ref n) (.int i) L=some (u,L):=by
 rw[Ah9,Ao h]
 simp only[aC,hu,aG]
theorem Aq3(h:fa δ L=some (u,L')):(Di (Ad fa Ag)) δ L=some (.tup [u],L'):=by
 rw[Ny,fCons_eq,h]
 simp only[aC,fNil_eq,aG]
 rw[if_pos (small_of (by show 1<=16777216;decide))]
theorem Aci{L2:UH}(h:fa δ L=some (u,L1))(h2:fb δ L1=some (v,L2)):(Di (Ad fa (Ad fb Ag))) δ L=some (.tup [u,v],L2):=by
 rw[Ny,fCons_eq,h,aC,fCons_eq,h2]
 simp only[aC,fNil_eq,aG]
 rw[if_pos (small_of (by show 2<=16777216;decide))]
theorem Alb{w:U}(h:fa δ L=some (u,L))(h2:fb δ L=some (v,L))(h3:fc δ L=some (w,L)):(Di (Ad fa (Ad fb (Ad fc Ag)))) δ L=some (.tup [u,v,w],L):=by
 rw[Ny,fCons_eq,h,aC,fCons_eq,h2,aC,fCons_eq,h3]
 simp only[aC,fNil_eq,aG]
 rw[if_pos (small_of (by show 3<=16777216;decide))]
theorem Bv{g:FA}{L2:UH}(h1:fe δ L=some (u,L1))(h2:g δ L1=some (us,L2)):Ad fe g δ L=some (u::us,L2):=by
 rw[fCons_eq,h1,aC,h2];rfl
theorem Eo{c:FT}(h:c δ L=some (true,L')):C5 c f g δ L=f δ L':=by
 rw[Nx,h];rfl
theorem neI{u:Int}{L2:UH}(h1:fa δ L=some (.int u,L1))(h2:fb δ L1=some (.int u,L2)):(A0 (f2 Cr fa fb)) δ L=some (false,L2):=by
 rw[fTest_eq,f2_eq,h1,aC,h2,aC,Ajq]
 simp
theorem orF{a b:FT}{L2:UH}(h1:a δ L=some (false,L1))(h2:b δ L1=some (false,L2)):fOr a b δ L=some (false,L2):=by
 rw[fOr_eq,h1,aC]
 exact h2
theorem Amb:(eJ " ").toList=[32]:=by decide +kernel
theorem Asm:(" " : Str)=⟨#[32]⟩:=Fd (by rw[Amb])
theorem Ayh:∀ d:Nat,d < 10->(Nat.digitChar d).toNat=48+d:=by decide
theorem Awh(m:Nat):dig m=(nR 10 m).map qG:=by
 induction m using rS with
 | _ m ih=>
  by_cases h:m < 10
  ·rw[nG h,Wb h,aI,bG,Ayh m h]
  ·have hm:m % 10 < 10:=Nat.mod_lt m (by decide)
   have t:nR 10 (m / 10)++nR 10 (m % 10)=nR 10 (10 * (m / 10)+m % 10):=Nat.toDigits_append_toDigits (by decide) (by omega) hm
   rw[Nat.div_add_mod] at t
   rw[<- t,fR,nG hm,Adp h,ih (m / 10) (by omega),aI,bG,Ayh _ hm]
theorem Auw(s:String):(eU s).cps.toList=s.toList.map qG:=by rw[Str.ofString_eq_toList,List.toList_toArray]
theorem Afx(n:Int):V4 n=fig n:=by
 apply Fd
 unfold V4
 rw[Auw,fig_cps,Awh]
 cases n with
 | ofNat m=>
  rw[if_neg (by show ¬ ((m:Nat):Int) < 0;omega)]
  show (Nat.repr m).toList.map qG=[]++_
  rw[rT];rfl
 | negSucc m=>
  rw[if_pos (by show Int.negSucc m < 0;omega)]
  show ("-" ++ Nat.repr (m+1)).toList.map qG=_
  rw[String.toList_append,fR,rT]
  rfl
theorem Agi{n:Int}(h:-9999999999<=n/\n<=9999999999):Mn n=true:=by
 unfold Mn
 simp only[cJ,decide_eq_true_eq]
 omega
theorem lapp(a b:Str):(a++b).length=a.length+b.length:=by rw[len_cps,app_cps,cM,<- len_cps,<- len_cps]
theorem H9(h:f δ L=some (.rt v,L')):Bc f g δ L=some (.rt v,L'):=by rw[fSeq_eq,h];rfl
theorem Bb{δ':UE}{r:Option (Fl×UH)}(h:f δ L=some (.nx δ',L'))(k:g δ' L'=r):Bc f g δ L=r:=by rw[Bp h,k]
theorem eqS(ha:asc a)(hb:asc b)(hv:fe δ L=some (.str a,L1)):(A0 (f2 B3 fe (fC (.str b)))) δ L=some (decide (a=b),L1):=
 Cg (Bg hv rfl (Rh ha hb L1))
theorem Ae3:asc "name" := by unfold asc;decide +kernel
theorem Ace:asc "number" := by unfold asc;decide +kernel
theorem Aqh:asc "place" := by unfold asc;decide +kernel
theorem Aeb(h:Nm w)(L:UH):∃ L',Fu [.str w,.str "name"] L=some (.str w,L')/\Gw L L':=by
 obtain ⟨L1,e,g⟩:=Adz h L
 refine ⟨L1,fnN (n:=2) rfl ?_,g⟩
 show Jr [some (.str w),some (.str "name")] L=_
 unfold Jr
 refine H9 ?_
 rw[Eo (by rw[eqS Ae3 Ae3 rfl,decide_eq_true rfl])]
 refine Bb (C0 (Qy (Pc rfl e))) ?_
 exact Ce rfl
theorem Alm(a b:Str):(fQ a b).length<=a.length:=by
 obtain ⟨i,hi,e⟩:=PyProof.Rows.lstripChars_is_suffix a b
 rw[e]
 exact PySem.le_strSub _ _ _
abbrev Wv:=Str×Str×U
variable {w0:Str}{as:List Wv}
theorem Ak5(hr:L[r]? = some (.lst ((w0::as.map (·.1)).map U.str)))(hf:C8.lookup w0=some (as.map (·.2.1)))(hl:as.length<=10)
  (hv:∀ a∈as,∀ M:UH,∃ M',Fu [.str a.1,.str a.2.1] M=some (a.2.2,M')/\Gw M M') :
  ∃ L',Gp [.ref r] L=some (.tup (as.map (·.2.2)),L')/\Gw L L':=by
 have i0:(f2 Al (Ae 0) (fC (.int 0))) [some (.ref r),none] L=some (.str w0,L):=Bg rfl rfl (G4 hr (by exact K9 (k:=0) rfl))
 have s1:(Bo (Aak C8 (f2 Al (Ae 0) (fC (.int 0)))) (gN 1)) [some (.ref r),none] L=some (.nx [some (.ref r),some (.tup ((as.map (·.2.1)).map U.str))],L):=by
  refine Ek (i:=1) (δ:=[some (.ref r),none]) ?_
  unfold Aak
  rw[i0]
  simp only[aC,hf]
 have c1:(A0 (f2 Ae5 (Ae 1) (fC .non))) [some (.ref r),some (.tup ((as.map (·.2.1)).map U.str))] L=some (false,L):=rfl
 have c2:(A0 (f2 Cr (Be Az (Ad (Ae 1) Ag)) (f2 Ht (Be Az (Ad (Ae 0) Ag)) (fC (.int 1))))) [some (.ref r),some (.tup ((as.map (·.2.1)).map U.str))] L=some (false,L):=by
  have h1:Az [.tup ((as.map (·.2.1)).map U.str)] L=some (.int (as.length:Nat),L):=by simp[Az,lenU]
  refine neI (Jh rfl h1) (Bg (Jh rfl (Fg hr)) rfl ?_)
  rw[Tu]
  simp
 generalize hL1:L++[HU.lst ((as.map (·.1)).map U.str)]=L1
 have hs:(fSl Cz (Ae 0) (Cw (fC (.int 1))) Bq) [some (.ref r),some (.tup ((as.map (·.2.1)).map U.str))] L=some (.ref L.length,L1):=by
  subst hL1
  have:Cz (.ref r) (some 1) none L=some (.ref L.length,L++[HU.lst ((as.map (·.1)).map U.str)]):=by
   show iX (fun l=>(U.ref (iU L),L++[HU.lst (Wi l (some 1) none)])) (Aw L r)=_
   rw[Ao hr]
   simp[Wi,HT.sIx]
   exact eC (by simp)
  exact this
 have hr1:L1[L.length]? = some (.lst ((as.map (·.1)).map U.str)):=by subst hL1;simp
 have hsq:=Ao hr1
 have hz:Ag6 (Ad (fSl Cz (Ae 0) (Cw (fC (.int 1))) Bq) (Ad (Ae 1) Ag)) [some (.ref r),some (.tup ((as.map (·.2.1)).map U.str))] L=some (.zipL L.length ((as.map (·.2.1)).map U.str),L1):=by
  unfold Ag6
  rw[fCons_eq,hs]
  simp only[aC,fCons_eq,fNil_eq,aG]
  show ((Aw L1 L.length).map _)=_
  rw[hsq];rfl
 have hp:Lc ((as.map (·.1)).map U.str) ((as.map (·.2.1)).map U.str)=as.map fun a=>U.tup [.str a.1,.str a.2.1]:=by
  clear hr hf hl hv i0 s1 c1 c2 hs hL1 hr1 hsq hz
  induction as with
  | nil=>rfl
  | cons a as ih=>simp only[aI];unfold Lc at ih ⊢;simp only[qH,aI,ih]
 obtain ⟨x,ec⟩:=B6 (ix:=[none,none]) (g:=MR.gTup 2 (MR.gCons (gN 0) (MR.gCons (gN 1) MR.gNil))) (tt:=none) (fe:=Jy) as (fun a=>U.tup [.str a.1,.str a.2.1]) (fun _=>true) (·.2.2) (fun δ=>δ.length=2) hz
  (by show _<=(match Aw L1 L.length with | some us=>min us.length _ | none=>0);rw[hsq];simp) (by omega) rfl
  (fun k x=>by show (Aw (L1++x) L.length).map _=_;rw[Dg hsq,aG,<- hp,Pe])
  (fun a δ x ha hδ=>by
   match δ,hδ with
   | [u0,u1],_=>
    refine ⟨[some (.str a.1),some (.str a.2.1)],rfl,rfl,[],?_,fun _=>?_⟩
    ·simp[E4]
    ·obtain ⟨M',em,z,hz2⟩:=hv a ha (L1++x++[])
     subst hz2
     exact ⟨z,Eu rfl rfl em⟩)
 have hfl:as.filter (fun _=>true)=as:=by simp
 rw[hfl] at ec
 refine ⟨L1++x++[.lst (as.map (·.2.2))],?_,by subst hL1;exact ⟨_,by rw[bH,bH]⟩⟩
 refine fn1 (n:=1) ?_
 show Jo [some (.ref r),none] L=_
 unfold Jo
 refine Bb s1 (Bb (C0 (orF c1 c2)) (Ce (Jh ec ?_)))
 have:Aw (L1++x++[HU.lst (as.map (·.2.2))]) (L1++x).length=some (as.map (·.2.2)):=Ao (by simp)
 simp only[semTuple,this]
 rfl
theorem Aaq(h:fe δ L=some (v,L1)):B1 (Ad fe Ag) δ L=some (.ref L1.length,L1++[.lst [v]]):=by
 rw[Ls,Bv h rfl];rfl
theorem Ac1{L2:UH}(h:fa δ L=some (u,L1))(h2:fb δ L1=some (v,L2)):B1 (Ad fa (Ad fb Ag)) δ L=some (.ref L2.length,L2++[.lst [u,v]]):=by
 rw[Ls,Bv h (Bv h2 rfl)];rfl
theorem A23{w:U}{L2:UH}(h:fa δ L=some (u,L1))(h2:fb δ L1=some (v,L2))(h3:fc δ L2=some (w,L3)):B1 (Ad fa (Ad fb (Ad fc Ag))) δ L=some (.ref L3.length,L3++[.lst [u,v,w]]):=by
 rw[Ls,Bv h (Bv h2 (Bv h3 rfl))];rfl
structure Dk(L:UH)(d k p:Nat)(m:List NP):Prop where
 ob:L[d]? = some (.ins "Desk" [("kept",.ref k)])
 kp:Kept L k p m
theorem Dk.gw(T:Dk L d k p m)(g:Gw L L'):Dk L' d k p m:=⟨g.get T.ob,T.kp.gw g⟩
theorem Dk.ne(T:Dk L d k p m):d≠p:=fun h=>by
 have h1:=T.ob
 rw[h,T.kp.pt] at h1
 cases h1
theorem Dk.set(T:Dk L d k p m):Dk (L.set p (.dic (kG ptU m'))) d k p m':=
 ⟨by rw[bW (gX T.ne)];exact T.ob,T.kp.set⟩
theorem dk_lk(k:Nat):eM ("kept" : Str) [(("kept" : Str),U.ref k)]=some (.ref k):=rfl
theorem Azn{s:Str}(k:Nat)(h:(s == "kept")=false):eM s [(("kept" : Str),U.ref k)]=none:=by rw[bX,h];rfl
theorem Dk.fld(T:Dk L d k p m)(h:fe δ L=some (.ref d,L)):Gx "Desk" "kept" fe δ L=some (.ref k,L):=by
 unfold Gx
 rw[h]
 simp only[aC,Gu T.ob,dk_lk,aG]
variable {F:FN}
theorem Sd{L2:UH}{s:Str}{g:FA}(T:Dk L d k p m)(hno:(s == "kept")=false)(ho:fo δ L=some (.ref d,L))(hg:g δ L=some (us,L1))(hk:us.length+1=n)(e:F (.ref d::us) L1=some (v,L2)):(Bh "Desk" s n F fo g) δ L=some (v,L2):=by
 unfold Bh
 simp only[ho,aC,Gu T.ob,Azn (s:=s) k hno,if_true,hg,hk,e]
theorem Ur{L2:UH}{s:Str}{g:FA}(T:Kept L k p m)(hno:(s == "points")=false)(ho:fo δ L=some (.ref k,L))(hg:g δ L=some (us,L1))(hk:us.length+1=n)(e:F (.ref k::us) L1=some (v,L2)):(Bh "KeptPoints" s n F fo g) δ L=some (v,L2):=by
 unfold Bh
 simp only[ho,aC,Gu T.ob,Afj (s:=s) p hno,if_true,hg,hk,e]
theorem Nq(e:fe δ L=some (v,L')):C3 fe δ L=some (.nx δ,L'):=by
 rw[Vc,e];rfl
theorem n1:(("put_point" : Str) == "points")=false:=by decide +kernel
theorem n7:(("points_now" : Str) == "points")=false:=by decide +kernel
theorem d1:(("need_room" : Str) == "kept")=false:=by decide +kernel
theorem d2:(("change_points" : Str) == "kept")=false:=by decide +kernel
theorem d3:(("ask" : Str) == "kept")=false:=by decide +kernel
theorem d4:(("told_at" : Str) == "kept")=false:=by decide +kernel
theorem n4:(("below_now" : Str) == "points")=false:=by decide +kernel
theorem n5:(("above_now" : Str) == "points")=false:=by decide +kernel
theorem n6:(("box_now" : Str) == "points")=false:=by decide +kernel
theorem n2:(("take_point" : Str) == "points")=false:=by decide +kernel
theorem n3:(("move_point" : Str) == "points")=false:=by decide +kernel
theorem Qa:asc "points" := by unfold asc;decide +kernel
theorem Ql:asc "counts" := by unfold asc;decide +kernel
theorem Sw:asc "pairs" := by unfold asc;decide +kernel
theorem Tc:asc "below" := by unfold asc;decide +kernel
theorem Tg:asc "above" := by unfold asc;decide +kernel
theorem Ahk:asc "box" := by unfold asc;decide +kernel
theorem Aag:asc "take" := by unfold asc;decide +kernel
theorem Akv:asc "move" := by unfold asc;decide +kernel
theorem Af8:asc "put" := by unfold asc;decide +kernel
theorem Yq(T:Dk L d k p m)(hi:Ae i δ L=some (.ref d,L)):(Bh "KeptPoints" "points_now" 1 Bk (Gx "Desk" "kept" (Ae i)) Ag) δ L=some (.tup (m.map ptU),L):=
 Ur T.kp n7 (T.fld hi) (us:=[]) rfl rfl (Og T.kp)
theorem Apt(T:Dk L d k p m)(hl:m.length < 60):Ee [.ref d] L=some (.non,L):=by
 have h1:Az [.tup (m.map ptU)] L=some (.int (m.length:Nat),L):=by simp[Az,lenU]
 have h2:(A0 (f2 Acq (Be Az (Ad (Bh "KeptPoints" "points_now" 1 Bk (Gx "Desk" "kept" (Ae 0)) Ag) Ag)) (fC (.int 60)))) [some (.ref d)] L=some (false,L):=by
  refine Cg (Bg (Jh (Yq T rfl) h1) rfl ?_)
  rw[Aie]
  have:¬ ((m.length:Int) ≥ 60):=by omega
  simp[this]
 have h3:Hb [some (.ref d)] L=some (.nx [some (.ref d)],L):=by
  unfold Hb
  exact C0 h2
 unfold Ee fnU
 simp only[aL,aR,if_true,aI,bG,cQ,bK,aV]
 rw[h3];rfl
theorem Aaj{c:FT}(h:c δ L=some (false,L')):C5 c f g δ L=g δ L':=by
 rw[Nx,h];rfl
theorem Ajb(T:Dk L d k p m)(hl:m.length < 60)(h:Ji m nm=false) :
  Bm [.ref d,.str "put",.tup [.str nm,.int x,.int y]] L=some (.non,L.set p (.dic (kG ptU (K8 m nm (x,y))))):=by
 have e:=Aqg (nm:=nm) (x:=x) (y:=y) T.kp h (by omega)
 have s1:(C3 (Bh "Desk" "need_room" 1 Ee (Ae 0) Ag)) [some (.ref d),some (.str "put"),some (.tup [.str nm,.int x,.int y])] L=some (.nx [some (.ref d),some (.str "put"),some (.tup [.str nm,.int x,.int y])],L):=
  Nq (Sd T d1 rfl (us:=[]) rfl rfl (Apt T hl))
 have s2:(C3 (Bh "KeptPoints" "put_point" 4 Ct (Gx "Desk" "kept" (Ae 0)) (Ad (f2 Al (Ae 2) (fC (.int 0))) (Ad (f2 Al (Ae 2) (fC (.int 1))) (Ad (f2 Al (Ae 2) (fC (.int 2))) Ag))))) [some (.ref d),some (.str "put"),some (.tup [.str nm,.int x,.int y])] L=some (.nx [some (.ref d),some (.str "put"),some (.tup [.str nm,.int x,.int y])],L.set p (.dic (kG ptU (K8 m nm (x,y))))):=
  Nq (Ur T.kp n1 (T.fld rfl) (us:=[.str nm,.int x,.int y]) rfl rfl e)
 have s3:B8 [some (.ref d),some (.str "put"),some (.tup [.str nm,.int x,.int y])] L=some (.nx [some (.ref d),some (.str "put"),some (.tup [.str nm,.int x,.int y])],L.set p (.dic (kG ptU (K8 m nm (x,y))))):=by
  unfold B8
  rw[Eo (by rw[eqS Af8 Af8 rfl,decide_eq_true rfl]),Bp s1,s2]
 unfold Bm fnU
 simp only[aL,aR,if_true,aI,bG,cQ,bK,aV]
 rw[s3];rfl
theorem Ada(T:Dk L d k p m)(h:Ji m nm=true) :
  Bm [.ref d,.str "take",.tup [.str nm]] L=some (.non,L.set p (.dic (kG ptU (Ob m nm)))):=by
 have e:=Akr (nm:=nm) T.kp h
 have s2:(C3 (Bh "KeptPoints" "take_point" 2 Cm (Gx "Desk" "kept" (Ae 0)) (Ad (f2 Al (Ae 2) (fC (.int 0))) Ag))) [some (.ref d),some (.str "take"),some (.tup [.str nm])] L=some (.nx [some (.ref d),some (.str "take"),some (.tup [.str nm])],L.set p (.dic (kG ptU (Ob m nm)))):=
  Nq (Ur T.kp n2 (T.fld rfl) (us:=[.str nm]) rfl rfl e)
 have s3:B8 [some (.ref d),some (.str "take"),some (.tup [.str nm])] L=some (.nx [some (.ref d),some (.str "take"),some (.tup [.str nm])],L.set p (.dic (kG ptU (Ob m nm)))):=by
  unfold B8
  rw[Aaj (by rw[eqS Aag Af8 rfl,decide_eq_false (by decide)]),Eo (by rw[eqS Aag Aag rfl,decide_eq_true rfl]),s2]
 unfold Bm fnU
 simp only[aL,aR,if_true,aI,bG,cQ,bK,aV]
 rw[s3];rfl
theorem Acn(T:Dk L d k p m)(h:Ji m nm=true)(hl:m.length < 1000) :
  Bm [.ref d,.str "move",.tup [.str nm,.int x,.int y]] L=some (.non,L.set p (.dic (kG ptU (K8 m nm (x,y))))):=by
 have e:=Aj6 (nm:=nm) (x:=x) (y:=y) T.kp h hl
 have s2:(C3 (Bh "KeptPoints" "move_point" 4 Co (Gx "Desk" "kept" (Ae 0)) (Ad (f2 Al (Ae 2) (fC (.int 0))) (Ad (f2 Al (Ae 2) (fC (.int 1))) (Ad (f2 Al (Ae 2) (fC (.int 2))) Ag))))) [some (.ref d),some (.str "move"),some (.tup [.str nm,.int x,.int y])] L=some (.nx [some (.ref d),some (.str "move"),some (.tup [.str nm,.int x,.int y])],L.set p (.dic (kG ptU (K8 m nm (x,y))))):=
  Nq (Ur T.kp n3 (T.fld rfl) (us:=[.str nm,.int x,.int y]) rfl rfl e)
 have s3:B8 [some (.ref d),some (.str "move"),some (.tup [.str nm,.int x,.int y])] L=some (.nx [some (.ref d),some (.str "move"),some (.tup [.str nm,.int x,.int y])],L.set p (.dic (kG ptU (K8 m nm (x,y))))):=by
  unfold B8
  rw[Aaj (by rw[eqS Akv Af8 rfl,decide_eq_false (by decide)]),Aaj (by rw[eqS Akv Aag rfl,decide_eq_false (by decide)]),s2]
 unfold Bm fnU
 simp only[aL,aR,if_true,aI,bG,cQ,bK,aV]
 rw[s3];rfl
variable {line:Str}
theorem Anm{d:U}{line:Str}{ws:List Str}{L:UH}(hw:eP line " " = ws)(hl:line.length<=1000) :
  (Bo (C2 "str" Jn (Ae 1) (Ad (fC (.str " ")) Ag)) (gN 2)) [some d,some (.str line),none,none] L=some (.nx [some d,some (.str line),some (.ref L.length),none],L++[.lst (ws.map U.str)]):=by
 refine Ek (i:=2) (δ:=[some d,some (.str line),none,none]) ?_
 rw[fMeth_eq]
 have h1:((" " : Str).length == 0)=false:=by decide +kernel
 have h2:Jn (.str line) [.str " "] L=some (.ref L.length,L++[.lst (ws.map U.str)]):=by
  unfold Jn
  simp only
  rw[if_pos ⟨h1,by omega⟩,hw]
 exact h2
theorem Ama:C8.lookup ("put" : Str)=some (["name","number","number"]:List Str):=by decide +kernel
theorem Ai9:C8.lookup ("take" : Str)=some (["name"]:List Str):=by decide +kernel
theorem Ai1:C8.lookup ("move" : Str)=some (["name","number","number"]:List Str):=by decide +kernel
theorem Acx:C8.lookup ("points" : Str)=some []:=by decide +kernel
theorem Abb:C8.lookup ("counts" : Str)=some []:=by decide +kernel
theorem Aew:C8.lookup ("pairs" : Str)=some []:=by decide +kernel
theorem Aeu:C8.lookup ("below" : Str)=some (["number","number"]:List Str):=by decide +kernel
theorem Ae6:C8.lookup ("above" : Str)=some (["number","number"]:List Str):=by decide +kernel
theorem Amr:C8.lookup ("box" : Str)=some (["number","number","number","number"]:List Str):=by decide +kernel
abbrev inD(w:Str)(b:Bool):Prop:=∀ L:UH,Gz false (.str w) (.tup [.str "put",.str "take",.str "move"]) L=some (.bl b,L)
theorem At6:inD "put" true:=fun L=>by kernel_rfl
theorem Aq8:inD "take" true:=fun L=>by kernel_rfl
theorem Ap2:inD "move" true:=fun L=>by kernel_rfl
theorem Ajm:inD "points" false:=fun L=>by kernel_rfl
theorem Aiu:inD "counts" false:=fun L=>by kernel_rfl
theorem Al7:inD "pairs" false:=fun L=>by kernel_rfl
theorem An1:inD "below" false:=fun L=>by kernel_rfl
theorem Al5:inD "above" false:=fun L=>by kernel_rfl
theorem Aty:inD "box" false:=fun L=>by kernel_rfl
structure Asks(line w0:Str)(as:List Wv):Prop where
 ws:eP line " " = w0::as.map (·.1)
 le:line.length<=1000
 lk:C8.lookup w0=some (as.map (·.2.1))
 sz:as.length<=10
 vl:∀ a∈as,∀ M:UH,∃ M',Fu [.str a.1,.str a.2.1] M=some (a.2.2,M')/\Gw M M'
structure Asked(L L2:UH)(d k p:Nat)(m:List NP)(line w0:Str)(as:List Wv):Prop where
 s1:(Bo (C2 "str" Jn (Ae 1) (Ad (fC (.str " ")) Ag)) (gN 2)) [some (.ref d),some (.str line),none,none] L=some (.nx [some (.ref d),some (.str line),some (.ref L.length),none],L++[.lst ((w0::as.map (·.1)).map U.str)])
 s2:(Bo (Ar 1 Gp (Ad (Ae 2) Ag)) (gN 3)) [some (.ref d),some (.str line),some (.ref L.length),none] (L++[.lst ((w0::as.map (·.1)).map U.str)])=some (.nx [some (.ref d),some (.str line),some (.ref L.length),some (.tup (as.map (·.2.2)))],L2)
 i0:(f2 Al (Ae 2) (fC (.int 0))) [some (.ref d),some (.str line),some (.ref L.length),some (.tup (as.map (·.2.2)))] L2=some (.str w0,L2)
 dk:Dk L2 d k p m
 gw:Gw L L2
theorem asked(T:Dk L d k p m)(W:Asks line w0 as):∃ L2,Asked L L2 d k p m line w0 as:=by
 have s1:=Anm (d:=.ref d) (L:=L) W.ws W.le
 have g1:=Gw.new L [.lst ((w0::as.map (·.1)).map U.str)]
 have hr:(L++[HU.lst ((w0::as.map (·.1)).map U.str)])[L.length]? = some (.lst ((w0::as.map (·.1)).map U.str)):=by simp
 obtain ⟨L2,e2,g2⟩:=Ak5 hr W.lk W.sz W.vl
 have hr2:=g2.get hr
 exact ⟨L2,s1,Ek (i:=3) (δ:=[some (.ref d),some (.str line),some (.ref L.length),none]) (Pc (i:=2) rfl e2),Bg rfl rfl (G4 hr2 (by exact K9 (k:=0) rfl)),(T.gw g1).gw g2,g1.trans g2⟩
inductive Ans(v:Option (U×UH))(L:UH)(out:List Str):Prop
 | mk (r:Nat) (L':UH) (e:v=some (.ref r,L')) (h:L'[r]? = some (.lst (out.map U.str))) (g:Gw L L') (l:L.length<=r)
inductive Chg(v:Option (U×UH))(L:UH)(d k p:Nat)(m:List NP):Prop
 | mk (r:Nat) (L':UH) (e:v=some (.ref r,L')) (h:L'[r]? = some (.lst [])) (T:Dk L' d k p m) (x:Ex p L L') (l:L.length<=r)
theorem Po(T:Dk L d k p m)(W:Asks line w0 as)(hin:inD w0 true)
  (hc:∀ L:UH,Dk L d k p m->Bm [.ref d,.str w0,.tup (as.map (·.2.2))] L=some (.non,L.set p (.dic (kG ptU m')))) :
  Chg (Ax [.ref d,.str line] L) L d k p m':=by
 obtain ⟨L2,q1,q2,q3,q4,q5⟩:=asked T W
 generalize L++[HU.lst ((w0::nB (·.1) as).map U.str)]=L1 at q1 q2
 generalize as.map (·.2.2)=us at q2 q3 hc
 have c3:(A0 (f2 (Gz false) (f2 Al (Ae 2) (fC (.int 0))) (Di (Ad (fC (.str "put")) (Ad (fC (.str "take")) (Ad (fC (.str "move")) Ag)))))) [some (.ref d),some (.str line),some (.ref L.length),some (.tup us)] L2=some (true,L2):=
  Cg (Bg q3 (Alb rfl rfl rfl) (hin L2))
 have e3:=hc L2 q4
 have T3:=q4.set (m':=m')
 have x3:=(q5.ex p).trans (Ex.put p L2 (.dic (kG ptU m')))
 generalize L2.set p (.dic (kG ptU m'))=L3 at e3 T3 x3
 have s3:(C3 (Bh "Desk" "change_points" 3 Bm (Ae 0) (Ad (f2 Al (Ae 2) (fC (.int 0))) (Ad (Ae 3) Ag)))) [some (.ref d),some (.str line),some (.ref L.length),some (.tup us)] L2=some (.nx [some (.ref d),some (.str line),some (.ref L.length),some (.tup us)],L3):=
  Nq (Sd q4 d2 rfl (us:=[.str w0,.tup us]) (Bv q3 rfl) rfl e3)
 refine ⟨L3.length,L3++[.lst []],?_,by simp,T3.gw (Gw.new L3 _),x3.trans (Ex.new p L3 _),x3.le⟩
 refine fnN (n:=4) rfl ?_
 show Fh [some (.ref d),some (.str line),none,none] L=_
 unfold Fh
 refine Bb q1 (Bb q2 (H9 ?_))
 show (C5 _ _ B9) [some (.ref d),some (.str line),some (.ref L.length),some (.tup us)] L2=_
 rw[Eo c3,Bp s3]
 refine Ce ?_
 rw[Ls];rfl
variable {out:List Str}
theorem Ut(T:Dk L d k p m)(W:Asks line w0 [])(hin:inD w0 false)
  (hc:∀ L:UH,∃ v L1,Iy [.str w0,.tup (m.map ptU)] L=some (v,L1)/\Gw L L1/\Ans (Ci [v] L1) L1 out) :
  Ans (Ax [.ref d,.str line] L) L out:=by
 obtain ⟨L2,q1,q2,q3,q4,q5⟩:=asked T W
 generalize L++[HU.lst ((w0::nB (·.1) ([]:List Wv)).map U.str)]=L1 at q1 q2
 have c3:(A0 (f2 (Gz false) (f2 Al (Ae 2) (fC (.int 0))) (Di (Ad (fC (.str "put")) (Ad (fC (.str "take")) (Ad (fC (.str "move")) Ag)))))) [some (.ref d),some (.str line),some (.ref L.length),some (.tup (([]:List Wv).map (·.2.2)))] L2=some (false,L2):=
  Cg (Bg q3 (Alb rfl rfl rfl) (hin L2))
 have c4:(F8 (Ae 3)) [some (.ref d),some (.str line),some (.ref L.length),some (.tup (([]:List Wv).map (·.2.2)))] L2=some (false,L2):=rfl
 obtain ⟨v,L3,e3,g3,r,L4,e4,h4,g4,l4⟩:=hc L2
 have gg:=q5.trans g3
 refine ⟨r,L4,fnN (n:=4) rfl ?_,h4,gg.trans g4,cB gg.le l4⟩
 show Fh [some (.ref d),some (.str line),none,none] L=_
 unfold Fh
 refine Bb q1 (Bb q2 (Bb (C0 c3) (Bb (C0 c4) (Ce (Af6 (Eu q3 (Yq (i:=0) q4 rfl) e3) e4)))))
theorem V5{a:Wv}(T:Dk L d k p m)(W:Asks line w0 (a::as))(hin:inD w0 false)
  (hc:∀ L:UH,Dk L d k p m->∃ v L1,Dh [.ref d,.str w0,.tup ((a::as).map (·.2.2))] L=some (v,L1)/\Gw L L1/\Ans (Ci [.ref L1.length] (L1++[.lst [v]])) (L1++[.lst [v]]) out) :
  Ans (Ax [.ref d,.str line] L) L out:=by
 obtain ⟨L2,q1,q2,q3,q4,q5⟩:=asked T W
 generalize L++[HU.lst ((w0::nB (·.1) (a::as)).map U.str)]=L1 at q1 q2
 obtain ⟨v,L3,e3,g3,r,L4,e4,h4,g4,l4⟩:=hc L2 q4
 have hc4:∃ u us,(a::as).map (·.2.2)=u::us:=⟨_,_,rfl⟩
 obtain ⟨u,us,hus⟩:=hc4
 rw[hus] at q2 q3 e3
 have c3:(A0 (f2 (Gz false) (f2 Al (Ae 2) (fC (.int 0))) (Di (Ad (fC (.str "put")) (Ad (fC (.str "take")) (Ad (fC (.str "move")) Ag)))))) [some (.ref d),some (.str line),some (.ref L.length),some (.tup (u::us))] L2=some (false,L2):=
  Cg (Bg q3 (Alb rfl rfl rfl) (hin L2))
 have c4:(F8 (Ae 3)) [some (.ref d),some (.str line),some (.ref L.length),some (.tup (u::us))] L2=some (true,L2):=rfl
 have gg:=q5.trans (g3.trans (Gw.new L3 [.lst [v]]))
 have e5:(B1 (Ad (Bh "Desk" "told_at" 3 Dh (Ae 0) (Ad (f2 Al (Ae 2) (fC (.int 0))) (Ad (Ae 3) Ag))) Ag)) [some (.ref d),some (.str line),some (.ref L.length),some (.tup (u::us))] L2=some (.ref L3.length,L3++[.lst [v]]):=by
  exact Aaq (Sd q4 d4 rfl (us:=[.str w0,.tup (u::us)]) (Bv q3 rfl) rfl e3)
 refine ⟨r,L4,fnN (n:=4) rfl ?_,h4,gg.trans g4,cB gg.le l4⟩
 show Fh [some (.ref d),some (.str line),none,none] L=_
 unfold Fh
 refine Bb q1 (Bb q2 (Bb (C0 c3) (H9 ?_)))
 rw[Eo c4]
 exact Ce (Af6 e5 e4)
abbrev Abo:=U×Str
def Q4(p:Abo):Prop:=∀ L:UH,Sy [p.1] L=some (.str p.2,L)
theorem Ald(x:Str):Q4 (.str x,x):=fun _=>rfl
theorem Ak3{n:Int}(h:Mn n=true):Q4 (.int n,V4 n):=fun L=>by
 show (if Mn n=true then some (U.str (V4 n),L) else none)=_
 rw[if_pos h]
theorem Vy:∀ ws:List Str,mapO toS (ws.map U.str)=some ws
 | []=>rfl
 | w::ws=>by
  rw[aI]
  show (some w).bind (fun a=>(mapO toS (ws.map U.str)).map (a :: ·))=_
  rw[Vy ws];rfl
theorem Avq{ps:List Abo}(hp:∀ p∈ps,Q4 p)(hl:ps.length<=1000)(hs:((ps.map (·.2)).map (·.length)).sum+(ps.map (·.2)).length<=1048576)(L:UH) :
  ∃ L',Nd [.tup (ps.map (·.1))] L=some (.str (iW " " (ps.map (·.2))),L')/\Gw L L':=by
 obtain ⟨x,ec⟩:=B6 (ix:=[none]) (fi:=Bu (Ae 0)) (g:=gN 0) (tt:=none) (fe:=E3) (δ:=[some (.tup (ps.map (·.1)))]) (L:=L) (L0:=L) (it:=.seq (ps.map (·.1))) ps (·.1) (fun _=>true) (fun p=>U.str p.2) (fun δ=>δ.length=1) rfl
  (by simp[IU.size]) (by omega) rfl (fun k x=>by simp[IU.at])
  (fun a δ x ha hδ=>by
   match δ,hδ with
   | [u0],_=>
    refine ⟨[some a.1],rfl,rfl,[],by simp[E4],fun _=>⟨[],?_⟩⟩
    unfold E3
    refine Jh rfl ?_
    rw[hp a ha];simp)
 rw[cP.mpr (fun _ _=>rfl)] at ec
 have em:ps.map (fun p=>U.str p.2)=(ps.map (·.2)).map U.str:=by rw[cY];rfl
 rw[em] at ec
 generalize hws:ps.map (·.2)=ws at ec hs
 refine ⟨_,fnN (n:=1) rfl ?_,⟨x++[.lst (ws.map U.str)],by rw[<- bH]⟩⟩
 show Nb [some (.tup (ps.map (·.1)))] L=_
 unfold Nb
 refine Ce ?_
 have h2:Hi (.str " ") [.ref (L++x).length] (L++x++[.lst (ws.map U.str)])=some (.str (iW " " ws),L++x++[.lst (ws.map U.str)]):=by
  have h1:E8 (L++x++[HU.lst (ws.map U.str)]) (L++x).length=some (ws.map U.str):=by
   have:(L++x++[HU.lst (ws.map U.str)])[(L++x).length]? = some (.lst (ws.map U.str)):=by simp
   unfold E8;rw[this]
  have h4:(" " : Str).length<=16/\(ws.map (·.length)).sum+ws.length<=1048576:=⟨by decide +kernel,hs⟩
  unfold Hi
  simp only[h1,aC,Vy]
  rw[if_pos h4]
 have ha:(Ad (B5 [none] (Bu (Ae 0)) (gN 0) none E3) Ag) [some (.tup (ps.map (·.1)))] L=some ([.ref (L++x).length],L++x++[.lst (ws.map U.str)]):=Bv ec rfl
 rw[fMeth_eq,fC_eq,aC]
 show (if true=true then ((Ad (B5 [none] (Bu (Ae 0)) (gN 0) none E3) Ag) [some (.tup (ps.map (·.1)))] L).bind _ else none)=_
 rw[if_pos rfl,ha]
 exact h2
structure RowsOk(rows:List (List Abo)):Prop where
 n:rows.length<=1000
 ok:∀ ps∈rows,ps≠[]/\(∀ p∈ps,Q4 p)/\ps.length<=1000/\((ps.map (·.2)).map (·.length)).sum+(ps.map (·.2)).length<=1048576
def Hw(rows:List (List Abo)):List Str:=rows.map fun ps=>iW " " (ps.map (·.2))
variable {rows:List (List Abo)}
theorem Xd{it:IU}(hi:(Bu (Ae 0)) [some v] L=some (it,L))(hsz:rows.length<=it.size L)(hat:∀ k x,it.at k (L++x)=some (rows.map fun ps=>U.tup (ps.map (·.1)))[k]?)(R:RowsOk rows) :
  Ans (Ci [v] L) L (Hw rows):=by
 obtain ⟨x,ec⟩:=B6 (ix:=[none]) (fi:=Bu (Ae 0)) (g:=gN 0) (tt:=some b_rows_shown_1t) (fe:=Ma) (δ:=[some v]) (L:=L) (L0:=L) (it:=it) rows (fun ps=>U.tup (ps.map (·.1))) (fun _=>true) (fun ps=>U.str (iW " " (ps.map (·.2)))) (fun δ=>δ.length=1)
  hi (by simpa using hsz) (by have:=R.n;omega) rfl hat
  (fun a δ x ha hδ=>by
   match δ,hδ with
   | [u0],_=>
    obtain ⟨h1,h2,h3,h4⟩:=R.ok a ha
    have ht:E4 (some b_rows_shown_1t) [some (.tup (a.map (·.1)))] (L++x)=some (true,L++x++[]):=by
     cases a with
     | nil=>exact absurd rfl h1
     | cons p ps=>simp[E4,b_rows_shown_1t,Afd]
    refine ⟨[some (.tup (a.map (·.1)))],rfl,rfl,[],ht,fun _=>?_⟩
    obtain ⟨M',em,z,hz⟩:=Avq h2 h3 h4 (L++x++[])
    subst hz
    exact ⟨z,Pc rfl em⟩)
 rw[cP.mpr (fun _ _=>rfl)] at ec
 have em:rows.map (fun ps=>U.str (iW " " (ps.map (·.2))))=(Hw rows).map U.str:=by unfold Hw;rw[cY];rfl
 rw[em] at ec
 generalize Hw rows=out at ec
 refine ⟨(L++x).length,L++x++[.lst (out.map U.str)],fnN (n:=1) rfl ?_,by simp,⟨x++[.lst (out.map U.str)],by rw[<- bH]⟩,by simp⟩
 show Lh [some v] L=_
 unfold Lh
 exact Ce ec
theorem Abp(hr:L[r]? = some (.lst (rows.map fun ps=>U.tup (ps.map (·.1)))))(R:RowsOk rows):Ans (Ci [.ref r] L) L (Hw rows):=by
 have hsq:=Ao hr
 exact Xd (it:=.ref r) (by rw[En];show (Ih (.ref r) L).map _=_;rw[C1 hsq];rfl) (by rw[F9 hsq];simp) (fun k x=>Ll (Dg hsq)) R
theorem Ahv(R:RowsOk rows):Ans (Ci [.tup (rows.map fun ps=>U.tup (ps.map (·.1)))] L) L (Hw rows):=
 Xd (it:=.seq (rows.map fun ps=>U.tup (ps.map (·.1)))) rfl (by simp[IU.size]) (fun k x=>by simp[IU.at]) R
theorem Aqn{n:Int}(h:-9999999999<=n/\n<=9999999999):(fQ (fig n) "-").length<=10:=by
 have hd:=Aa2 9 n.natAbs (by omega)
 by_cases h0:n < 0
 ·have hx:(fig n).cps.toList=45::dig n.natAbs:=by rw[fig_cps,if_pos h0];rfl
  have hm:(eJ "-").contains 45=true:=by decide +kernel
  have hlo:1<=stripLo (eJ "-").contains true (fig n):=by
   unfold stripLo
   rw[if_pos rfl,hx,List.takeWhile_cons,if_pos hm]
   simp
  have hsame:stripSame (eJ "-").contains true false (fig n)=false:=by
   unfold stripSame
   have:(stripLo (eJ "-").contains true (fig n) == 0)=false:=by simp;omega
   rw[this];rfl
  have hl:(fig n).length=(dig n.natAbs).length+1:=by rw[len_cps,hx];rfl
  unfold fQ Txt.stripBy
  rw[hsame]
  simp only[cD,if_false]
  unfold stripped stripHi
  simp only[cD,if_false]
  rw[len_cps,StrLaws.strSub_toList,hU]
  omega
 ·have hx:(fig n).cps.toList=dig n.natAbs:=by rw[fig_cps,if_neg h0];rfl
  have hl:(fig n).length=(dig n.natAbs).length:=by rw[len_cps,hx]
  have:=Alm (fig n) "-"
  omega
theorem Aju{n:Int}(h:-9999999999<=n/\n<=9999999999)(L:UH):∃ L',Fu [.str (fig n),.str "number"] L=some (.int n,L')/\Gw L L':=by
 obtain ⟨L1,e,g⟩:=Aah (n:=n) h L
 have hl:=Dw h
 have hs:=Aqn h
 have n1:¬ (("number" : Str) = "name"):=by decide +kernel
 have n2:¬ (("number" : Str) = "place"):=by decide +kernel
 refine ⟨L1,fnN (n:=2) rfl ?_,g⟩
 show Jr [some (.str (fig n)),some (.str "number")] L=_
 unfold Jr
 refine Bb (C0 (by rw[eqS Ace Ae3 rfl,decide_eq_false n1])) ?_
 have hg:(A0 (f2 Abj (Be Az (Ad (C2 "str" Iw (Ae 0) (Ad (fC (.str "-")) Ag)) Ag)) (fC (.int 10)))) [some (.str (fig n)),some (.str "number")] L1=some (false,L1):=by
  have e0:(C2 "str" Iw (Ae 0) (Ad (fC (.str "-")) Ag)) [some (.str (fig n)),some (.str "number")] L1=some (.str (fQ (fig n) "-"),L1):=by
   rw[fMeth_eq]
   simp[tyU,Iw];omega
  refine Cg (Bg (Jh e0 (Amg (by omega) L1)) rfl ?_)
  rw[Ajd]
  have:¬ (((fQ (fig n) "-").length:Int) > 10):=by omega
  simp[this]
 refine Bb (C0 (orF (Qy (Pc rfl e)) hg)) ?_
 refine Bb (L':=L1) (C0 ?_) ?_
 ·rw[Tj,eqS Ace Aqh rfl,decide_eq_false n2];rfl
 refine Ce ?_
 have hi:P7 [.str (fig n)] L1=some (.int n,L1):=by
  unfold P7
  simp only[Apm h,aG]
  rw[if_pos (by omega)]
 exact Jh rfl hi
abbrev Ten(n:Int):Prop:=-9999999999<=n/\n<=9999999999
inductive GoodW:Wv->Prop
 | name {w:Str} (h:Nm w):GoodW (w,"name",.str w)
 | num {n:Int} (h:Ten n):GoodW (fig n,"number",.int n)
theorem Ao3(h:Nm w):32∉w.cps.toList:=fun hc=>by have:=h.2.2 _ hc;omega
theorem GoodW.free{a:Wv}(h:GoodW a):32∉a.1.cps.toList:=by
 cases h with
 | name h=>exact Ao3 h
 | num h=>exact Amy (by omega)
theorem GoodW.len{a:Wv}(h:GoodW a):a.1.length<=11:=by
 cases h with
 | name h=>have:=h.2.1;simp only;omega
 | num h=>exact Dw h
theorem GoodW.val{a:Wv}(h:GoodW a)(M:UH):∃ M',Fu [.str a.1,.str a.2.1] M=some (a.2.2,M')/\Gw M M':=by
 cases h with
 | name h=>exact Aeb h M
 | num h=>exact Aju h M
theorem Ahc:∀ l:List Str,(∀ w∈l,w.length<=11)->(gR ⟨#[32]⟩ l).length<=12 * l.length
 | [],_=>by rw[len_cps];exact iT _
 | [x],h=>by
  have:=h x (by simp)
  show x.length<=_
  simp only[aL,aR];omega
 | a::b::r,h=>by
  have h1:=h a (by simp)
  have h2:=Ahc (b::r) (fun w hw=>h w (aQ _ hw))
  rw[len_cps] at h1 h2 ⊢
  rw[Ja,cM,aL]
  simp only[aL] at h2 ⊢
  omega
theorem Iv(hw:line=gR ⟨#[32]⟩ (w0::as.map (·.1)))(h0:32∉w0.cps.toList)(hl:w0.length<=11)(lk:C8.lookup w0=some (as.map (·.2.1)))(sz:as.length<=10)(vl:∀ a∈as,GoodW a):Asks line w0 as:=by
 have hf:∀ w∈w0::as.map (·.1),32∉w.cps.toList/\w.length<=11:=fun w hw=>by
  rcases bL.mp hw with rfl | hw
  ·exact ⟨h0,hl⟩
  ·obtain ⟨a,ha,rfl⟩:=dI.mp hw
   exact ⟨(vl a ha).free,(vl a ha).len⟩
 refine ⟨?_,?_,lk,sz,fun a ha M=>(vl a ha).val M⟩
 ·rw[hw,Asm]
  exact Adx (by simp) fun w hw=>(hf w hw).1
 ·have:=Ahc (w0::as.map (·.1)) (fun w hw=>(hf w hw).2)
  rw[hw]
  simp only[aL,aU] at this
  omega
theorem Arp(l:List Str):iW " " l=gR ⟨#[32]⟩ l:=by rw[Asm];exact StrLaws.glued_eq_join _ _
theorem Ab0(a:Str):gR ⟨#[32]⟩ [a]=a:=rfl
theorem join2(a b:Str)(r:List Str):gR ⟨#[32]⟩ (a::b::r)=a ++ " " ++ gR ⟨#[32]⟩ (b::r):=by
 apply Fd
 rw[Ja,app_cps,app_cps,Amb]
 simp
theorem Nj(a b c:Str):a++b++c=a++(b++c):=by
 apply Fd
 rw[app_cps,app_cps,app_cps,app_cps,bH]
theorem e_app(a:Str):kD++a=a:=by
 apply Fd
 rw[app_cps]
 rfl
theorem Axh:("put " : Str) = "put" ++ " " := by decide +kernel
theorem Atx:("take " : Str) = "take" ++ " " := by decide +kernel
theorem Atv:("move " : Str) = "move" ++ " " := by decide +kernel
theorem An6:("below " : Str) = "below" ++ " " := by decide +kernel
theorem Aot:("above " : Str) = "above" ++ " " := by decide +kernel
theorem Ayx:("box " : Str) = "box" ++ " " := by decide +kernel
theorem Asg:("put " : Str).length=4:=by decide +kernel
theorem Avf:("take " : Str).length=5:=by decide +kernel
theorem Ave:("move " : Str).length=5:=by decide +kernel
theorem As2:32∉(eJ "put").toList/\("put" : Str).length<=11:=by decide +kernel
theorem Alk:32∉(eJ "take").toList/\("take" : Str).length<=11:=by decide +kernel
theorem Aka:32∉(eJ "move").toList/\("move" : Str).length<=11:=by decide +kernel
theorem Ahb:32∉(eJ "below").toList/\("below" : Str).length<=11:=by decide +kernel
theorem Agl:32∉(eJ "above").toList/\("above" : Str).length<=11:=by decide +kernel
theorem Ar3:32∉(eJ "box").toList/\("box" : Str).length<=11:=by decide +kernel
theorem Aca:32∉(eJ "points").toList/\("points" : Str).length<=11:=by decide +kernel
theorem Ac9:32∉(eJ "counts").toList/\("counts" : Str).length<=11:=by decide +kernel
theorem Agw:32∉(eJ "pairs").toList/\("pairs" : Str).length<=11:=by decide +kernel
def Ho(a:Str)(x y:Int):Str:=gR ⟨#[32]⟩ [a,fig x,fig y]
theorem Aat(a:Str)(x y:Int):Ho a x y=a++(" " ++ fig x ++ " " ++ fig y):=by
 unfold Ho
 rw[join2,join2,Ab0]
 simp only[Nj]
theorem Anp(hn:Nm nm)(hx:Ten x)(hy:Ten y):Asks ("put " ++ Ho nm x y) "put" [(nm,"name",.str nm),(fig x,"number",.int x),(fig y,"number",.int y)]:=
 Iv (by rw[Axh,aI,join2];rfl) As2.1 As2.2 Ama (by simp) (fun a ha=>by
  simp only[bL,cN,or_false] at ha
  rcases ha with rfl | rfl | rfl
  ·exact .name hn
  ·exact .num hx
  ·exact .num hy)
theorem Ah7(hn:Nm nm)(hx:Ten x)(hy:Ten y):Asks ("move " ++ Ho nm x y) "move" [(nm,"name",.str nm),(fig x,"number",.int x),(fig y,"number",.int y)]:=
 Iv (by rw[Atv,aI,join2];rfl) Aka.1 Aka.2 Ai1 (by simp) (fun a ha=>by
  simp only[bL,cN,or_false] at ha
  rcases ha with rfl | rfl | rfl
  ·exact .name hn
  ·exact .num hx
  ·exact .num hy)
theorem Aiv(hn:Nm nm):Asks ("take " ++ nm) "take" [(nm,"name",.str nm)]:=
 Iv (by rw[Atx,aI,join2];rfl) Alk.1 Alk.2 Ai9 (by simp) (fun a ha=>by
  simp only[bL,cN,or_false] at ha
  subst ha
  exact .name hn)
theorem Aev(hx:Ten x)(hy:Ten y):Asks ("below " ++ fig x ++ " " ++ fig y) "below" [(fig x,"number",.int x),(fig y,"number",.int y)]:=
 Iv (by rw[An6];simp only[aI,bG,join2,Ab0,Nj]) Ahb.1 Ahb.2 Aeu (by simp) (fun a ha=>by
  simp only[bL,cN,or_false] at ha
  rcases ha with rfl | rfl
  ·exact .num hx
  ·exact .num hy)
theorem Ad7(hx:Ten x)(hy:Ten y):Asks ("above " ++ fig x ++ " " ++ fig y) "above" [(fig x,"number",.int x),(fig y,"number",.int y)]:=
 Iv (by rw[Aot];simp only[aI,bG,join2,Ab0,Nj]) Agl.1 Agl.2 Ae6 (by simp) (fun a ha=>by
  simp only[bL,cN,or_false] at ha
  rcases ha with rfl | rfl
  ·exact .num hx
  ·exact .num hy)
theorem Amq{u v:Int}(hx:Ten x)(hy:Ten y)(hu:Ten u)(hv:Ten v):Asks ("box " ++ fig x ++ " " ++ fig y ++ " " ++ fig u ++ " " ++ fig v) "box" [(fig x,"number",.int x),(fig y,"number",.int y),(fig u,"number",.int u),(fig v,"number",.int v)]:=
 Iv (by rw[Ayx];simp only[aI,bG,join2,Ab0,Nj]) Ar3.1 Ar3.2 Amr (by simp) (fun a ha=>by
  simp only[bL,cN,or_false] at ha
  rcases ha with rfl | rfl | rfl | rfl
  ·exact .num hx
  ·exact .num hy
  ·exact .num hu
  ·exact .num hv)
theorem Abe:Asks "points" "points" []:=Iv rfl Aca.1 Aca.2 Acx (by simp) (fun _ h=>by cases h)
theorem Abd:Asks "counts" "counts" []:=Iv rfl Ac9.1 Ac9.2 Abb (by simp) (fun _ h=>by cases h)
theorem Adn:Asks "pairs" "pairs" []:=Iv rfl Agw.1 Agw.2 Aew (by simp) (fun _ h=>by cases h)
def OkP(m:List NP):Prop:=∀ p∈m,Nm p.1/\Ten p.2.1/\Ten p.2.2
theorem Vj{n:Int}(h:Ten n):Q4 (.int n,fig n):=by have:=Ak3 (Agi h);rw[Afx] at this;exact this
def trP(a:Str)(x y:Int):List Abo:=[(.str a,a),(.int x,fig x),(.int y,fig y)]
theorem Alc(ha:Nm a)(hx:Ten x)(hy:Ten y):trP a x y≠[]/\(∀ p∈trP a x y,Q4 p)/\(trP a x y).length<=1000/\(((trP a x y).map (·.2)).map (·.length)).sum+((trP a x y).map (·.2)).length<=1048576:=by
 refine ⟨by simp[trP],fun p hp=>?_,by simp[trP],?_⟩
 ·simp only[trP,bL,cN,or_false] at hp
  rcases hp with rfl | rfl | rfl
  ·exact Ald a
  ·exact Vj hx
  ·exact Vj hy
 ·have h1:=ha.2.1
  have h2:=Dw hx
  have h3:=Dw hy
  simp only[trP,aI,bG,gU,sZ,aL,aR]
  omega
theorem Ahe(a:Str)(x y:Int):iW " " ((trP a x y).map (·.2))=Ho a x y:=Arp _
def Jx(m:List NP):List Str:=m.map fun p=>Ho p.1 p.2.1 p.2.2
theorem Uh(ok:OkP m)(hl:m.length<=1000)(L:UH):∃ v L1,Iy [.str "points",.tup (m.map ptU)] L=some (v,L1)/\Gw L L1/\Ans (Ci [v] L1) L1 (Jx m):=by
 refine ⟨.tup (m.map ptU),L,fnN (n:=3) rfl ?_,Gw.refl L,?_⟩
 ·show He [some (.str "points"),some (.tup (m.map ptU)),none] L=_
  unfold He
  refine H9 ?_
  rw[Eo (by rw[eqS Qa Qa rfl,decide_eq_true rfl])]
  exact Ce rfl
 ·have h:=Ahv (L:=L) (rows:=m.map fun p=>trP p.1 p.2.1 p.2.2) ⟨by simpa using hl,fun ps hps=>by
   obtain ⟨p,hp,rfl⟩:=dI.mp hps
   exact Alc (ok p hp).1 (ok p hp).2.1 (ok p hp).2.2⟩
  have e1:(m.map fun p=>trP p.1 p.2.1 p.2.2).map (fun ps=>U.tup (ps.map (·.1)))=m.map ptU:=by rw[cY];rfl
  have e2:Hw (m.map fun p=>trP p.1 p.2.1 p.2.2)=Jx m:=by
   unfold Hw Jx
   rw[cY]
   exact gZ fun p _=>Ahe _ _ _
  rw[e1,e2] at h
  exact h
theorem Pd(T:Dk L d k p m)(ok:OkP m)(hl:m.length<=1000):Ans (Ax [.ref d,.str "points"] L) L (Jx m):=
 Ut T Abe Ajm (Uh ok hl)
abbrev bel(m:List NP)(q:Int×Int):Int:=cnt (m.map (·.2)) q
abbrev abv(m:List NP)(q:Int×Int):Int:=Aap (m.map (·.2)) q
theorem Afs(hl:m.length<=1000)(q:Int×Int):Ten (bel m q):=by
 have h:=fD (fun o=>Cf o q) (m.map (·.2))
 rw[aU] at h
 unfold bel cnt
 constructor <;> omega
theorem Age(hl:m.length<=1000)(q:Int×Int):Ten (abv m q):=by
 have h:=fD (fun o=>Cf q o) (m.map (·.2))
 rw[aU] at h
 unfold abv Aap
 constructor <;> omega
def Et(m:List NP):List Str:=m.map fun p=>Ho p.1 (bel m p.2) (abv m p.2)
theorem Ade{β:Type}(f g h:β->U):∀ l:List β,Ahi (l.map f) (l.map g) (l.map h)=l.map fun a=>U.tup [f a,g a,h a]
 | []=>rfl
 | a::l=>by
  have:=Ade f g h l
  unfold Ahi at this ⊢
  simp only[aI,qH,this]
theorem Aed(hl:m.length<=1000){w y:Option U}(L:UH):∃ L',(B5 [none] (Bu (Ae 1)) (gN 0) none K3) [w,some (.tup (m.map ptU)),y] L=some (.ref (L'.length - 1),L')/\L'[L'.length - 1]? = some (.lst (m.map fun p=>.str p.1))/\Gw L L':=by
 obtain ⟨x,ec⟩:=B6 (ix:=[none]) (fi:=Bu (Ae 1)) (g:=gN 0) (tt:=none) (fe:=K3) (δ:=[w,some (.tup (m.map ptU)),y]) (L:=L) (L0:=L) (it:=.seq (m.map ptU)) m ptU (fun _=>true) (fun p=>U.str p.1) (fun δ=>δ.length=1) rfl
  (by simp[IU.size]) (by omega) rfl (fun k x=>by simp[IU.at])
  (fun a δ x ha hδ=>by
   match δ,hδ with
   | [u0],_=>exact ⟨[some (ptU a)],rfl,rfl,[],by simp[E4],fun _=>⟨[],by rw[aV,aV];rfl⟩⟩)
 rw[cP.mpr (fun _ _=>rfl)] at ec
 exact ⟨L++x++[.lst (m.map fun p=>.str p.1)],by rw[ec];simp,by simp,⟨x++[.lst (m.map fun p=>.str p.1)],by rw[bH]⟩⟩
theorem U1(ok:OkP m)(hl:m.length<=1000)(L:UH):∃ v L1,Iy [.str "counts",.tup (m.map ptU)] L=some (v,L1)/\Gw L L1/\Ans (Ci [v] L1) L1 (Et m):=by
 obtain ⟨L1,e1,h1,g1⟩:=Aed hl (w:=some (.str "counts")) (y:=none) L
 generalize L1.length - 1=r at e1 h1
 obtain ⟨L2,e2,g2⟩:=Oq m L1 (by omega)
 obtain ⟨L3,e3,g3⟩:=Wl m L2 (by omega)
 have h3:=g3.get (g2.get h1)
 have n1:¬ (("counts" : Str) = "points"):=by decide +kernel
 have et:=Ade (fun p:NP=>U.str p.1) (fun p=>U.int (bel m p.2)) (fun p=>U.int (abv m p.2)) m
 have ez:(Aai (Ad (Ae 2) (Ad (Ar 1 E5 (Ad (Ae 1) Ag)) (Ad (Ar 1 Ge (Ad (Ae 1) Ag)) Ag)))) [some (.str "counts"),some (.tup (m.map ptU)),some (.ref r)] L1=some (.ref L3.length,L3++[.lst (m.map fun p=>U.tup [.str p.1,.int (bel m p.2),.int (abv m p.2)])]):=by
  unfold Aai
  rw[Bv (u:=.ref r) (L1:=L1) rfl (Bv (Pc (i:=1) rfl e2) (Bv (Pc (i:=1) rfl e3) rfl))]
  simp only[aC,Ao h3]
  rw[if_pos (by simp)]
  rw[et]
 refine ⟨.ref L3.length,L3++[.lst (m.map fun p=>U.tup [.str p.1,.int (bel m p.2),.int (abv m p.2)])],fnN (n:=3) rfl ?_,((g1.trans g2).trans g3).trans (Gw.new L3 _),?_⟩
 ·show He [some (.str "counts"),some (.tup (m.map ptU)),none] L=_
  unfold He
  refine Bb (C0 (by rw[eqS Ql Qa rfl,decide_eq_false n1])) (H9 ?_)
  rw[Eo (by rw[eqS Ql Ql rfl,decide_eq_true rfl])]
  exact Bb (Ek (i:=2) e1) (Ce ez)
 ·have h:=Abp (L:=L3++[.lst (m.map fun p=>U.tup [.str p.1,.int (bel m p.2),.int (abv m p.2)])]) (r:=L3.length) (rows:=m.map fun p=>trP p.1 (bel m p.2) (abv m p.2)) (by
   rw[cY]
   simp[trP]) ⟨by simpa using hl,fun ps hps=>by
   obtain ⟨p,hp,rfl⟩:=dI.mp hps
   exact Alc (ok p hp).1 (Afs hl _) (Age hl _)⟩
  have e2:Hw (m.map fun p=>trP p.1 (bel m p.2) (abv m p.2))=Et m:=by
   unfold Hw Et
   rw[cY]
   exact gZ fun p _=>Ahe _ _ _
  rw[e2] at h
  exact h
theorem Uj(T:Dk L d k p m)(ok:OkP m)(hl:m.length<=1000):Ans (Ax [.ref d,.str "counts"] L) L (Et m):=
 Ut T Abd Aiu (U1 ok hl)
theorem Ak9{c:Int}(h:Ten c):RowsOk [[(.int c,fig c)]]:=⟨by simp,fun ps hp=>by
 simp only[bL,cN,or_false] at hp
 subst hp
 have:=Dw h
 exact ⟨by simp,fun p hp=>by simp only[bL,cN,or_false] at hp;subst hp;exact Vj h,by simp,by simp;omega⟩⟩
theorem Ajx(c:Int):Hw [[(.int c,fig c)]]=[fig c]:=by
 unfold Hw
 simp only[aI,bG]
 rw[Arp,Ab0]
theorem S0{c:Int}(h:Ten c)(L:UH):Ans (Ci [.ref L.length] (L++[.lst [.tup [.int c]]])) (L++[.lst [.tup [.int c]]]) [fig c]:=by
 have:=Abp (L:=L++[.lst [.tup [.int c]]]) (r:=L.length) (rows:=[[(.int c,fig c)]]) (by simp) (Ak9 h)
 rw[Ajx] at this
 exact this
theorem Av6(qs:List (Int×Int))(q:Int×Int):0<=cnt qs q/\cnt qs q<=qs.length:=by
 have h:=fD (fun o=>Cf o q) qs
 unfold cnt
 constructor <;> omega
theorem Amc{β:Type}(f:β->Int)(B:Int):∀ l:List β,(∀ a∈l,0<=f a/\f a<=B)->0<=(l.map f).sum/\(l.map f).sum<=B * l.length
 | [],_=>by simp
 | a::l,h=>by
  have h1:=h a (by simp)
  have h2:=Amc f B l (fun x hx=>h x (aQ _ hx))
  have h3:B * ((l.length:Int)+1)=B * l.length+B:=by rw[Int.mul_add,Int.mul_one]
  simp only[aI,gU,aL]
  push_cast
  omega
theorem W0(hl:m.length<=1000):Ten (pairs (m.map (·.2))):=by
 have h:=Amc (cnt (m.map (·.2))) 1000 (m.map (·.2)) (fun a _=>by
  have:=Av6 (m.map (·.2)) a
  rw[aU] at this
  omega)
 rw[aU] at h
 unfold pairs
 constructor <;> omega
theorem Wq(hl:m.length<=1000)(L:UH):∃ v L1,Iy [.str "pairs",.tup (m.map ptU)] L=some (v,L1)/\Gw L L1/\Ans (Ci [v] L1) L1 [fig (pairs (m.map (·.2)))]:=by
 obtain ⟨L1,e1,g1⟩:=Ak1 m L (by omega)
 have ht:=W0 hl
 generalize pairs (m.map (·.2))=c at e1 ht ⊢
 have e2:E2 [.tup (m.map ptU)] L=some (.int c,L1):=e1
 generalize U.tup (m.map ptU)=tm at e2 ⊢
 refine ⟨.ref L1.length,L1++[.lst [.tup [.int c]]],fnN (n:=3) rfl ?_,g1.trans (Gw.new L1 _),S0 ht L1⟩
 show He [some (.str "pairs"),some tm,none] L=_
 have n1:¬ (("pairs" : Str) = "points"):=by decide +kernel
 have n2:¬ (("pairs" : Str) = "counts"):=by decide +kernel
 unfold He
 refine Bb (C0 (by rw[eqS Sw Qa rfl,decide_eq_false n1])) (Bb (C0 (by rw[eqS Sw Ql rfl,decide_eq_false n2])) (H9 ?_))
 rw[Eo (by rw[eqS Sw Sw rfl,decide_eq_true rfl])]
 exact Ce (Aaq (Aq3 (Pc (i:=1) rfl e2)))
theorem Aj5(T:Dk L d k p m)(hl:m.length<=1000):Ans (Ax [.ref d,.str "pairs"] L) L [fig (pairs (m.map (·.2)))]:=
 Ut T Adn Al7 (Wq hl)
theorem Adl(T:Dk L d k p m)(hl:m.length < 1000):∃ L1,Dh [.ref d,.str "below",.tup [.int x,.int y]] L=some (.tup [.int ((m.filter fun p=>Cf p.2 (x,y)).length:Nat)],L1)/\Gw L L1:=by
 obtain ⟨L1,e,g⟩:=Aal (x:=x) (y:=y) T.kp hl
 refine ⟨L1,fnN (n:=3) rfl ?_,g⟩
 show Dj [some (.ref d),some (.str "below"),some (.tup [.int x,.int y])] L=_
 unfold Dj
 refine H9 ?_
 rw[Eo (by rw[eqS Tc Tc rfl,decide_eq_true rfl])]
 exact Ce (Aq3 (Ur T.kp n4 (T.fld rfl) (us:=[.int x,.int y]) rfl rfl e))
theorem Adq(T:Dk L d k p m)(hl:m.length < 1000):∃ L1,Dh [.ref d,.str "above",.tup [.int x,.int y]] L=some (.tup [.int ((m.filter fun p=>Cf (x,y) p.2).length:Nat)],L1)/\Gw L L1:=by
 obtain ⟨L1,e,g⟩:=Aa1 (x:=x) (y:=y) T.kp hl
 refine ⟨L1,fnN (n:=3) rfl ?_,g⟩
 show Dj [some (.ref d),some (.str "above"),some (.tup [.int x,.int y])] L=_
 have m1:¬ (("above" : Str) = "below"):=by decide +kernel
 unfold Dj
 refine Bb (C0 (by rw[eqS Tg Tc rfl,decide_eq_false m1])) (H9 ?_)
 rw[Eo (by rw[eqS Tg Tg rfl,decide_eq_true rfl])]
 exact Ce (Aq3 (Ur T.kp n5 (T.fld rfl) (us:=[.int x,.int y]) rfl rfl e))
theorem Anq{u v:Int}(T:Dk L d k p m)(hl:m.length < 1000):∃ L1,Dh [.ref d,.str "box",.tup [.int x,.int y,.int u,.int v]] L=some (.tup [.int (cntB m (x,y,u,v):Nat)],L1)/\Gw L L1:=by
 obtain ⟨L1,e,g⟩:=Ae9 T.kp hl (x,y,u,v)
 refine ⟨L1,fnN (n:=3) rfl ?_,g⟩
 show Dj [some (.ref d),some (.str "box"),some (.tup [.int x,.int y,.int u,.int v])] L=_
 have m1:¬ (("box" : Str) = "below"):=by decide +kernel
 have m2:¬ (("box" : Str) = "above"):=by decide +kernel
 unfold Dj
 refine Bb (C0 (by rw[eqS Ahk Tc rfl,decide_eq_false m1])) (Bb (C0 (by rw[eqS Ahk Tg rfl,decide_eq_false m2])) (H9 ?_))
 rw[Eo (by rw[eqS Ahk Ahk rfl,decide_eq_true rfl])]
 exact Ce (Aq3 (Ur T.kp n6 (T.fld rfl) (us:=[bxU (x,y,u,v)]) rfl rfl e))
theorem Lf(hl:m.length < 1000)(f:NP->Bool):Ten ((m.filter f).length:Nat):=by
 have:=fD f m
 constructor <;> omega
theorem Aif(T:Dk L d k p m)(hl:m.length < 1000)(hx:Ten x)(hy:Ten y):Ans (Ax [.ref d,.str ("below " ++ fig x ++ " " ++ fig y)] L) L [fig ((m.filter fun p=>Cf p.2 (x,y)).length:Nat)]:=
 V5 T (Aev hx hy) An1 fun L T=>by
  obtain ⟨L1,e,g⟩:=Adl (x:=x) (y:=y) T hl
  exact ⟨_,L1,e,g,S0 (Lf hl _) L1⟩
theorem Aje(T:Dk L d k p m)(hl:m.length < 1000)(hx:Ten x)(hy:Ten y):Ans (Ax [.ref d,.str ("above " ++ fig x ++ " " ++ fig y)] L) L [fig ((m.filter fun p=>Cf (x,y) p.2).length:Nat)]:=
 V5 T (Ad7 hx hy) Al5 fun L T=>by
  obtain ⟨L1,e,g⟩:=Adq (x:=x) (y:=y) T hl
  exact ⟨_,L1,e,g,S0 (Lf hl _) L1⟩
theorem Aqu{u v:Int}(T:Dk L d k p m)(hl:m.length < 1000)(hx:Ten x)(hy:Ten y)(hu:Ten u)(hv:Ten v):Ans (Ax [.ref d,.str ("box " ++ fig x ++ " " ++ fig y ++ " " ++ fig u ++ " " ++ fig v)] L) L [fig (cntB m (x,y,u,v):Nat)]:=
 V5 T (Amq hx hy hu hv) Aty fun L T=>by
  obtain ⟨L1,e,g⟩:=Anq (x:=x) (y:=y) (u:=u) (v:=v) T hl
  exact ⟨_,L1,e,g,S0 (Lf hl _) L1⟩
theorem Afq(T:Dk L d k p m)(hl:m.length < 60)(h:Ji m nm=false)(hn:Nm nm)(hx:Ten x)(hy:Ten y):Chg (Ax [.ref d,.str ("put " ++ Ho nm x y)] L) L d k p (K8 m nm (x,y)):=
 Po T (Anp hn hx hy) At6 fun L T=>Ajb T hl h
theorem Alj(T:Dk L d k p m)(h:Ji m nm=true)(hn:Nm nm):Chg (Ax [.ref d,.str ("take " ++ nm)] L) L d k p (Ob m nm):=
 Po T (Aiv hn) Aq8 fun L T=>Ada T h
theorem Am2(T:Dk L d k p m)(hl:m.length < 1000)(h:Ji m nm=true)(hn:Nm nm)(hx:Ten x)(hy:Ten y):Chg (Ax [.ref d,.str ("move " ++ Ho nm x y)] L) L d k p (K8 m nm (x,y)):=
 Po T (Ah7 hn hx hy) Ap2 fun L T=>Acn T h hl
structure Seed(L:UH)(d:Nat)(B:Int):Prop where
 ex:∃ (a b c e:Int),L[d]? = some (.lst [.int a,.int b,.int c,.int e])/\0<=a/\0<=c/\c<=B/\0<=e/\e < 1999999891
variable {B:Int}
theorem Seed.lt(h:Seed L d B):d < L.length:=by
 obtain ⟨a,b,c,e,h1,_⟩:=h.ex
 exact (aK.mp h1).1
variable {B':Int}
theorem Seed.mono(h:Seed L d B)(hb:B<=B'):Seed L d B':=by
 obtain ⟨a,b,c,e,h1,h2,h3,h4,h5⟩:=h.ex
 exact ⟨a,b,c,e,h1,h2,h3,by omega,h5⟩
theorem Seed.new(h:Seed L d B)(x:List HU):Seed (L++x) d B:=by
 obtain ⟨a,b,c,e,h1,h2⟩:=h.ex
 exact ⟨a,b,c,e,by rw[bA (aK.mp h1).1];exact h1,h2⟩
theorem Seed.set(h:Seed L d B)(hn:n≠d)(o:HU):Seed (L.set n o) d B:=by
 obtain ⟨a,b,c,e,h1,h2⟩:=h.ex
 exact ⟨a,b,c,e,by rw[bW hn];exact h1,h2⟩
theorem Seed.gw(h:Seed L d B)(g:Gw L L'):Seed L' d B:=by obtain ⟨x,rfl⟩:=g;exact h.new x
theorem Cv{many:Int}(D:Seed L d B)(hB:B<=1000000000000)(h0:0 < many)(h1:many < 1000000000000000) :
  ∃ r L',An [.ref d,.int many] L=some (.int r,L')/\0<=r/\r < many/\Seed L' d (B+1)/\Ex d L L':=by
 obtain ⟨a,b,c,e,hd,ha,hc0,hc1,he0,he1⟩:=D.ex
 have hdl:d < L.length:=(aK.mp hd).1
 have q1:=Ao hd
 have q2:=F7 hd
 have md:∀ x:Int,0<=x % many/\x % many < many:=fun x=>⟨oH _ (by omega),lZ _ h0⟩
 have i0:∀ (x0 x1 x2 x3:U),L2.atI [x0,x1,x2,x3] 0=some x0:=fun _ _ _ _=>rfl
 have i1:∀ (x0 x1 x2 x3:U),L2.atI [x0,x1,x2,x3] 1=some x1:=fun _ _ _ _=>rfl
 have i2:∀ (x0 x1 x2 x3:U),L2.atI [x0,x1,x2,x3] 2=some x2:=fun _ _ _ _=>rfl
 have i3:∀ (x0 x1 x2 x3:U),L2.atI [x0,x1,x2,x3] 3=some x3:=fun _ _ _ _=>rfl
 have j0:ixN 4 0=some 0:=rfl
 have j2:ixN 4 2=some 2:=rfl
 have set1:∀ us:List U,Aw (L.set d (.lst us)) d=some us/\E8 (L.set d (.lst us)) d=some us:=fun us=>by
  have:(L.set d (.lst us))[d]? = some (.lst us):=bU hdl
  exact ⟨Ao this,F7 this⟩
 have s1:=set1 [.int a,.int b,.int (c+1),.int e]
 have keep:∀ x:Int,0<=x->Seed (L.set d (.lst [.int x,.int b,.int (c+1),.int e])) d (B+1)/\Ex d L (L.set d (.lst [.int x,.int b,.int (c+1),.int e])):=fun x hx=>
  ⟨⟨x,b,c+1,e,bU hdl,hx,by omega,by omega,he0,he1⟩,Ex.put d L _⟩
 by_cases hb:b=1/\0 < a
 ·obtain ⟨rfl,hap⟩:=hb
  refine ⟨a % many,L.set d (.lst [.int (a / many),.int 1,.int (c+1),.int e]),?_,(md a).1,(md a).2,(keep (a / many) (rV (by omega) (by omega))).1,(keep (a / many) (rV (by omega) (by omega))).2⟩
  simp[An,fnU,Py,q1,q2,i0,i1,i2,i3,j0,j2,s1,hap,h0,Ua h0 (by omega),bM]
 ·generalize hA:(e+7547 * (c+1)+47) * 48271 % 2147483647=A
  have hA0:0<=A/\A < 2147483647:=by rw[<- hA];exact ⟨oH _ (by decide),lZ _ (by decide)⟩
  generalize hC:A * A % 2147483629 * 40692 % 2147483399=Cn
  have m1:Kn 7547 (c+1)=true:=Afv (by decide) (by decide)
  have m2:∀ x:Int,Kn x 48271=true:=fun x=>Sx (by decide) (by decide)
  have m3:Kn A A=true:=Afv (by omega) (by omega)
  have m4:∀ x:Int,Kn x 40692=true:=fun x=>Sx (by decide) (by decide)
  have d7:∀ x:Int,Xj x 7=true:=fun x=>Ua (by decide) (by decide)
  refine ⟨Cn / 7 % many,L.set d (.lst [.int a,.int b,.int (c+1),.int e]),?_,(md _).1,(md _).2,(keep a ha).1,(keep a ha).2⟩
  by_cases hb1:b=1
  ·have hna:¬ 0 < a:=fun z=>hb ⟨hb1,z⟩
   simp[An,fnU,Py,q1,q2,i0,i1,i2,i3,j0,j2,s1,hb1,hna,h0,m1,m2,m3,m4,d7,hA,hC,bM]
   subst hb1
   simp[q1,q2,i0,i1,i2,i3,j2,s1,hna,h0,m1,m2,m3,m4,d7,hA,hC]
  ·simp[An,fnU,Py,q1,q2,i0,i1,i2,i3,j0,j2,s1,hb1,h0,m1,m2,m3,m4,d7,hA,hC,bM]
theorem Afm(cell:Int)(L:UH):∃ L',Mm [.int cell] L=some (.ref L.length,L')/\Seed L' L.length 0/\Gw L L':=by
 have hmax:Pu [.int cell,.int (0 - cell)] L=some (.int (if 0 - cell > cell then 0 - cell else cell),L):=rfl
 generalize hn:(if 0 - cell > cell then 0 - cell else cell)=n at hmax
 have hn0:0<=n:=by rw[<- hn];split <;> omega
 have p18:Yk 10 18=true:=rfl
 have hint:∀ k:Bool,Aab [.bl k] L=some (.int (if k then 1 else 0),L):=fun _=>rfl
 refine ⟨L++[.lst [.int n,.int (if decide (1000000000000000000<=n)=true then 1 else 0),.int 0,.int (cell % 1999999891)]],?_,⟨n,(if decide (1000000000000000000<=n)=true then 1 else 0),0,cell % 1999999891,by simp,hn0,by omega,by omega,oH _ (by decide),lZ _ (by decide)⟩,Gw.new _ _⟩
 simp only[Int.zero_sub] at hmax
 simp[Mm,fnU,Abu,hmax,p18,hint,small_of,bM]
theorem Au3{i:Int}(h:L[n]? = some (.lst l))(h0:0<=i)(h1:i < l.length)(hs:l.length < 1000000):Rx (.ref n) [.int i] L=some (l[i.toNat]'(by omega),L.set n (.lst (l.eraseIdx i.toNat))):=by
 have hk:seqIndex? i l.length=some i.toNat:=by unfold seqIndex?;simp;omega
 have hg:l[i.toNat]? = some (l[i.toNat]'(by omega)):=aX (by omega)
 simp only[Rx,F7 h,aC,hk,hg,aG]
 rw[if_pos ⟨by omega,by omega⟩]
theorem Wm{β γ:Type}(f:β->γ)(l:List β)(i:Nat):(l.map f).eraseIdx i=(l.eraseIdx i).map f:=by
 rw[gW,gW,fR,pP,List.map_drop]
theorem Vz{β:Type}:∀ (l:List β) (i:Nat) (h:i < l.length),(l[i]'h::l.eraseIdx i).Perm l
 | a::l,0,_=>by simp
 | a::l,i+1,h=>by
  have ih:=Vz l i (by simpa using h)
  simp only[nS,List.eraseIdx_cons_succ]
  exact (List.Perm.swap _ _ _).trans (ih.cons a)
theorem Low.ok{s:Str}(h:Low s):fG s=true:=by
 unfold fG
 rw[Array.all_eq_true]
 intro i hi
 have:=h (s.cps[i]) (by simp)
 exact decide_eq_true (by omega)
theorem Low.fold(g:Str)(hg:Low g):∀ (ys:List Str) (acc:Array Nat),(∀ y∈ys,Low y)->(∀ c∈acc.toList,97<=c/\c<=122)->∀ c∈(ys.foldl (fun acc p=>acc++g.cps++p.cps) acc).toList,97<=c/\c<=122
 | [],acc,_,h=>h
 | y::ys,acc,hy,h=>by
  rw[oA]
  refine Low.fold g hg ys _ (fun z hz=>hy z (aQ _ hz)) ?_
  intro c hc
  rw[pI,pI,cV,cV] at hc
  rcases hc with (hc | hc) | hc
  ·exact h c hc
  ·exact hg c hc
  ·exact hy y (bE ..) c hc
def abc:Str := "abcdefghijklmnopqrstuvwxyz"
theorem Agu:abc.cps.toList.length=26:=by decide +kernel
theorem Ai2:F0 abc.length=true:=small_of (by show abc.cps.size<=16777216;have:=Agu;simp only[dD] at this;omega)
def one(c:Nat):Str:=⟨#[c]⟩
theorem Low.one(h:97<=c/\c<=122):Low (Lw.one c):=by
 intro x hx
 have:x=c:=by simpa[Lw.one] using hx
 rw[this];exact h
theorem An5:Low abc:=by unfold Low;decide +kernel
theorem Auq{i:Int}(h0:0<=i)(h1:i < 26)(L:UH):∃ c,(97<=c/\c<=122)/\Al (.str abc) (.int i) L=some (.str (one c),L):=by
 have hl:=Agu
 have hi:i.toNat < abc.cps.toList.length:=by omega
 refine ⟨abc.cps.toList[i.toNat]'hi,An5 _ (bY hi),?_⟩
 unfold Al
 simp only
 rw[if_pos Ai2,Va h0 (by omega),aX hi]
 rfl
theorem K6(a b:Str)(h:a.length+b.length<=10000)(L:UH):A9 (.str a) (.str b) L=some (.str (a++b),L):=by
 unfold A9
 simp only
 rw[if_pos (small_of (by omega))]
theorem We:∀ ys:List Str,(∀ y∈ys,y.length=1)->(ys.map (·.length)).sum=ys.length
 | [],_=>rfl
 | y::ys,h=>by
  rw[aI,gU,We ys (fun z hz=>h z (aQ _ hz)),h y (bE ..),aL];omega
def nul:Str := ""
theorem Aph:Low nul:=by unfold Low;decide +kernel
theorem Ahl:nul.length=0:=by decide +kernel
theorem Xz(g:Str)(hg:g.length=0):∀ (ys:List Str) (acc:Array Nat),(ys.foldl (fun acc p=>acc++g.cps++p.cps) acc).size=acc.size+(ys.map (·.length)).sum
 | [],acc=>by simp
 | y::ys,acc=>by
  have hg':g.cps.size=0:=hg
  have hy:y.length=y.cps.size:=rfl
  rw[oA,Xz g hg ys,aI,gU,qW,qW,hg',hy]
  omega
variable {kd:Int}
theorem Jc(D:Seed L d B)(hB:B<=100000000000)(hw:kd=0\/kd=1\/kd=2) :
  ∃ r L',Ec [.ref d,.int kd] L=some (.int r,L')/\Ten r/\Seed L' d (B+3)/\Ex d L L':=by
 have q:Aw (L++[HU.lst [.int 3,.int 12]]) L.length=some [.int 3,.int 12]:=Ao (by simp)
 rcases hw with rfl | rfl | rfl
 ·obtain ⟨r,L1,e1,a1,b1,D1,x1⟩:=Cv (many:=3) (D.new [HU.lst [.int 3,.int 12]]) (by omega) (by decide) (by decide)
  have i0:L2.atI [U.int 3,.int 12] 0=some (.int 3):=rfl
  exact ⟨r - 1,L1,by simp[Ec,fnU,Nn,small_of,q,i0,e1,bM],⟨by omega,by omega⟩,D1.mono (by omega),(Ex.new d L _).trans x1⟩
 ·obtain ⟨r,L1,e1,a1,b1,D1,x1⟩:=Cv (many:=12) (D.new [HU.lst [.int 3,.int 12]]) (by omega) (by decide) (by decide)
  have i0:L2.atI [U.int 3,.int 12] 1=some (.int 12):=rfl
  exact ⟨r - 1,L1,by simp[Ec,fnU,Nn,small_of,q,i0,e1,bM],⟨by omega,by omega⟩,D1.mono (by omega),(Ex.new d L _).trans x1⟩
 ·obtain ⟨r1,L1,e1,a1,b1,D1,x1⟩:=Cv (many:=100000) D (by omega) (by decide) (by decide)
  obtain ⟨r2,K2,e2,a2,b2,D2,x2⟩:=Cv (many:=100000) D1 (by omega) (by decide) (by decide)
  obtain ⟨r4,L4,e4,a4,b4,D4,x4⟩:=Cv (many:=2) (D2.new [HU.lst [.int 1,.int (-1)]]) (by omega) (by decide) (by decide)
  have q4:Aw L4 K2.length=some [.int 1,.int (-1)]:=Ao (x4.get (i:=K2.length) (by simp) (by have:=D2.lt;omega))
  have hs:∃ sg:Int,L2.atI [U.int 1,.int (-1)] r4=some (.int sg)/\(sg=1\/sg = -1):=by
   have:r4=0\/r4=1:=by omega
   rcases this with rfl | rfl
   ·exact ⟨1,rfl,.inl rfl⟩
   ·exact ⟨-1,rfl,.inr rfl⟩
  obtain ⟨sg,hs,hsg⟩:=hs
  have p5:Yk 10 5=true:=rfl
  have m1:Kn r1 100000=true:=Sx (by decide) (by decide)
  have m2:Kn (r1 * 100000+r2) sg=true:=Sx (by omega) (by omega)
  refine ⟨(r1 * 100000+r2) * sg,L4,?_,by rcases hsg with rfl | rfl <;> constructor <;> omega,D4.mono (by omega),x1.trans (x2.trans ((Ex.new d K2 _).trans x4))⟩
  simp[Ec,fnU,Nn,p5,e1,m1,e2,small_of,e4,q4,hs,m2,bM]
theorem toV_strs(l:List Str):mapO toV (l.map U.str)=some (l.map L2.V.str):=by
 induction l with
 | nil=>rfl
 | cons a r ih=>simp[mapO,toV,ih]
theorem inV_str(s:Str)(l:List Str):inV (.str s) (l.map L2.V.str)=decide (s∈l):=by
 induction l with
 | nil=>rfl
 | cons a r ih=>
  have h1:inV (.str s) (nB L2.V.str (a::r))=(eqV (.str a) (.str s) || inV (.str s) (r.map L2.V.str)):=rfl
  have h2:eqV (.str a) (.str s)=(a == s):=rfl
  rw[h1,ih,h2]
  by_cases h:a=s
  ·simp[h]
  ·have h':¬ s=a:=fun z=>h z.symm
   simp[h,h']
theorem cutU_take(l:List U)(k:Nat):Wi l none (some (k:Int))=l.take k:=by
 unfold Wi
 rw[HT.Ab6,HT.Agb,sL,Nat.sub_zero]
 by_cases hk:k<=l.length
 ·rw[nZ hk]
 ·rw[nA (by omega),kJ,eC (by omega)]
theorem Ajr{β:Type}(rep:β->U){l:List β}(D:Seed L d B)(hB:B<=1000000000)(hd:n≠d)(h:L[n]? = some (.lst (l.map rep)))(hl:0 < l.length)(hs:l.length < 1000)(x0:Option U) :
  ∃ (r:β) (L':UH) (l':List β),(C2 "list" Rx (Ae 1) (Ad (Ar 2 An (Ad (Ae 2) (Ad (Be Az (Ad (Ae 1) Ag)) Ag))) Ag)) [x0,some (.ref n),some (.ref d)] L=some (rep r,L')/\Seed L' d (B+1)/\L'[n]? = some (.lst (l'.map rep))/\l'.length+1=l.length/\(∀ L0,Ex d L0 L->L0.length<=n->Ex d L0 L')/\(r::l').Perm l:=by
 obtain ⟨i,L1,e1,i0,i1,D1,x1⟩:=Cv (many:=((l.map rep).length:Nat)) D (by omega) (by simp;omega) (by simp;omega)
 have h':L1[n]? = some (.lst (l.map rep)):=x1.get h hd
 have hi:i < l.length:=by simpa using i1
 have hp:=Au3 h' i0 i1 (by simp;omega)
 refine ⟨l[i.toNat]'(by omega),L1.set n (.lst ((l.map rep).eraseIdx i.toNat)),l.eraseIdx i.toNat,?_,D1.set hd _,?_,?_,fun L0 x0 hn=>(x0.trans x1).set hn _,Vz l i.toNat (by omega)⟩
 ·have ty:=Nv h
  have e1':=e1
  simp only[aU] at e1'
  simp[ty,Fg h,e1',hp]
 ·rw[bU (by have:=(aK.mp h').1;exact this)]
  rw[Wm]
 ·rw[List.length_eraseIdx,if_pos (by omega)];omega
variable {sp:List Str}
theorem Ajo{n2 many:Nat}(D:Seed M d B)(hB:B<=100000000)(hnd:n2≠d)(hat:M[n2]? = some (.lst (sp.map U.str)))(hm:many<=sp.length)(hs:sp.length<=72)(x2 x3 x4:Option U) :
  ∃ (r:Nat) (names:List Str) (M':UH),B5 [none,some 1,some 0] (Er (Ad (fC (.int many)) Ag)) (gN 0) none J2 [some (.ref d),some (.ref n2),x2,x3,x4] M=some (.ref r,M')/\M'[r]? = some (.lst (names.map U.str))/\names.length=many/\(∃ rest,(names++rest).Perm sp)/\Seed M' d (B+many)/\(∀ L,Ex d L M->L.length<=n2->Ex d L M'/\L.length<=r):=by
 have hi:Er (Ad (fC (.int many)) Ag) [some (.ref d),some (.ref n2),x2,x3,x4] M=some (.seq (C4 0 many),M):=Qx rfl (by omega)
 obtain ⟨ys,δ',M',e,⟨z,hδ⟩,vs,rest,hvs,hlv,hlr,hp,hat,DM,xM⟩:=Akg (ix:=[none,some 1,some 0]) (it:=.seq (C4 0 many)) (g:=gN 0) (tt:=none) (fe:=J2) (us:=C4 0 many) (δ:=[some (.ref d),some (.ref n2),x2,x3,x4]) (L:=M) (L0:=M)
   (fun k acc δ' M'=>(∃ z,δ'=[z,some (.ref n2),some (.ref d)])/\∃ (vs rest:List Str),acc=vs.map U.str/\vs.length=k/\rest.length+k=sp.length/\(vs++rest).Perm sp/\M'[n2]? = some (.lst (rest.map U.str))/\Seed M' d (B+k)/\(∀ L,Ex d L M->L.length<=n2->Ex d L M'))
   hi (by simp[IU.size]) ⟨⟨none,rfl⟩,[],sp,rfl,rfl,rfl,by simp,hat,by simpa using D,fun _ e _=>e⟩
   (fun k acc δ L _ _=>rfl)
   (fun k u acc δ N hu ⟨⟨z,hδ⟩,vs,rest,hvs,hlv,hlr,hp,hat,DM,xM⟩=>by
    subst hδ
    obtain ⟨hk,rfl⟩:=Jt hu
    obtain ⟨r,N',l',e,D',hat',hl',hx',hperm⟩:=Ajr U.str DM (by omega) hnd hat (by omega) (by omega) (some (.int (0+(k:Int))))
    have ha:acc.length < 16777216:=by rw[hvs,aU,hlv];omega
    refine ⟨[some (.int (0+k)),some (.ref n2),some (.ref d)],N,rfl,true,N,rfl,fun _=>⟨.str r,N',?_,ha,⟨_,rfl⟩,vs++[r],l',by simp[hvs],by simp[hlv],by omega,?_,hat',?_,fun L eL hL=>hx' L (xM L eL hL) hL⟩,fun h=>by cases h⟩
    ·unfold J2;exact e
    ·refine List.Perm.trans ?_ hp
     rw[bH]
     exact List.Perm.append_left vs hperm
    ·have:B+((k+1:Nat):Int)=B+(k:Int)+1:=by omega
     rw[this];exact D')
 rw[Jj] at hlv DM
 exact ⟨_,vs,_,e,by rw[hvs];simp,hlv,⟨rest,hp⟩,DM.new _,fun L eL hL=>⟨(xM L eL hL).trans (Ex.new d _ _),(xM L eL hL).le⟩⟩
def hdB(s:Str):Bool:=match s.cps.toList with | c::_=>decide (c < 121) | []=>false
def Pn(s:Str):Prop:=Nm s/\hdB s=true
def A0h(s:Str):Bool:=s.cps.toList.all fun c=>decide (97<=c/\c<=122)
def pnB(s:Str):Bool:=decide (1<=s.length)&&(decide (s.length<=8)&&(A0h s&&hdB s))
theorem Azj{s:Str}(h:pnB s=true):Pn s:=by
 unfold pnB A0h at h
 simp only[cJ,decide_eq_true_eq,bS] at h
 exact ⟨⟨h.1,h.2.1,h.2.2.1⟩,h.2.2.2⟩
def Gd:List Str:=["a","ba","ab","aa","put","nodes","node","pairs","bab","nth","longname","longnamf"]
theorem Ad6:∀ x∈Gd,Pn x:=fun x hx=>Azj (bS.mp (show (Gd.all pnB)=true by decide +kernel) x hx)
theorem Ado:Gd.Nodup:=by decide +kernel
theorem Akk{ys:List Str}(h1:∀ y∈ys,y.length=1/\Low y)(h2:1<=ys.length/\ys.length<=8)(h:L[r]? = some (.lst (ys.map U.str))):∃ w:Str,Hi (.str nul) [.ref r] L=some (.str w,L)/\Nm w:=by
 have hs:=We ys (fun y hy=>(h1 y hy).1)
 refine ⟨iW nul ys,?_,?_⟩
 ·unfold Hi
  simp only[F7 h,aC,Vy]
  rw[if_pos ⟨by rw[Ahl];omega,by rw[hs];omega⟩]
 ·cases ys with
  | nil=>simp at h2
  | cons y ys=>
   have hy:y.cps.size=1:=(h1 y (bE ..)).1
   have hl:(iW nul (y::ys)).length=1+ys.length:=by
    show (ys.foldl (fun acc p=>acc++nul.cps++p.cps) y.cps).size=_
    rw[Xz nul Ahl ys y.cps,hy,We ys (fun z hz=>(h1 z (aQ _ hz)).1)]
   simp only[aL] at h2
   exact ⟨by omega,by omega,Low.fold nul Aph ys y.cps (fun z hz=>(h1 z (aQ _ hz)).2) (h1 y (bE ..)).2⟩
inductive WordR(v:Option (U×UH))(L:UH)(d:Nat)(B:Int):Prop
 | mk (w:Str) (L':UH) (e:v=some (.str w,L')) (n:Nm w) (D:Seed L' d B) (x:Ex d L L')
theorem Ao9(D:Seed L d B)(hB:B<=100000000)(x1 x3 x4:Option U) :
  WordR ((C2 "str" Hi (fC (.str nul)) (Ad (B5 [none,some 2,some 0] (Er (Ad (f2 A9 (fC (.int 1)) (Ar 2 An (Ad (Ae 0) (Ad (fC (.int 8)) Ag)))) Ag)) (gN 0) none Hk) Ag)) [some (.ref d),x1,some (.str abc),x3,x4] L) L d (B+9):=by
 obtain ⟨i,L1,e1,i0,i1,D1,z1⟩:=Cv (many:=8) D (by omega) (by decide) (by decide)
 have hi:Er (Ad (f2 A9 (fC (.int 1)) (Ar 2 An (Ad (Ae 0) (Ad (fC (.int 8)) Ag)))) Ag) [some (.ref d),x1,some (.str abc),x3,x4] L=some (.seq (C4 0 (1+i).toNat),L1):=by
  refine Aay (j:=1+i) (Bv (Bg (u:=.int 1) (v:=.int i) (L1:=L) (L2:=L1) rfl (Eu rfl rfl e1) (G6 _ _ _)) rfl) (by omega) (by omega)
 generalize hn:(1+i).toNat=n at hi
 have hn1:1<=n/\n<=8:=by omega
 obtain ⟨us,δ',M',e,⟨z,hδ⟩,ys,hys,hl1,hly,DM,xM⟩:=Akg (ix:=[none,some 2,some 0]) (it:=.seq (C4 0 n)) (g:=gN 0) (tt:=none) (fe:=Hk) (us:=C4 0 n) (δ:=[some (.ref d),x1,some (.str abc),x3,x4]) (L:=L) (L0:=L1)
   (fun k acc δ' M=>(∃ z,δ'=[z,some (.str abc),some (.ref d)])/\∃ (ys:List Str),acc=ys.map U.str/\(∀ y∈ys,y.length=1/\Low y)/\ys.length=k/\Seed M d (B+1+k)/\Ex d L M)
   hi (by simp[IU.size]) ⟨⟨none,rfl⟩,[],rfl,by simp,rfl,by simpa using D1,z1⟩
   (fun k acc δ L _ _=>rfl)
   (fun k u acc δ M hu hP=>by
    obtain ⟨⟨z,rfl⟩,ys,hys,hl1,hly,DM,xM⟩:=hP
    obtain ⟨hk,rfl⟩:=Jt hu
    obtain ⟨r,M',e1,r0,r1,D',x'⟩:=Cv (many:=26) DM (by omega) (by decide) (by decide)
    obtain ⟨c,wc,hc⟩:=Auq r0 r1 M'
    have ha:acc.length < 16777216:=by rw[hys,aU,hly];omega
    refine ⟨[some (.int (0+k)),some (.str abc),some (.ref d)],M,rfl,true,M,rfl,fun _=>⟨.str (one c),M',?_,ha,⟨_,rfl⟩,ys++[one c],by simp[hys],?_,by simp[hly],?_,xM.trans x'⟩,fun h=>by cases h⟩
    ·unfold Hk
     generalize abc=ab at hc
     simp only[f2_eq,fOwn_eq,fCons_eq,fNil_eq,fC_eq,fVar_eq,bB,aN,bD,aG,aC,aL,aR,if_true,e1,hc]
    ·intro y hy
     rcases cV.mp hy with h | h
     ·exact hl1 y h
     ·rw[cF.mp h];exact ⟨rfl,Low.one wc⟩
    ·have:B+1+((k+1:Nat):Int)=B+1+(k:Int)+1:=by omega
     rw[this];exact D')
 rw[Jj] at hly DM
 have hat:(M'++[HU.lst us])[M'.length]? = some (.lst (ys.map U.str)):=by rw[hys];simp
 obtain ⟨w,ew,nw⟩:=Akk hl1 (by omega) hat
 refine ⟨w,M'++[.lst us],?_,nw,(DM.mono (by omega)).new _,xM.trans (Ex.new d _ _)⟩
 generalize nul=nu at ew
 rw[fMeth_eq,fC_eq,aC]
 show (if true=true then _ else none)=_
 rw[if_pos rfl,Bv e rfl]
 exact ew
theorem Agx(w:Str)(h:L[n]? = some (.lst (sp.map U.str))):Gz true (.str w) (.ref n) L=some (.bl (!decide (w∈sp)),L):=by
 unfold Gz
 simp only[Ao h,toV,aC,toV_strs,aG,inV_str,if_true]
theorem Aud:(eJ "yz").toList=[121,122]:=by decide +kernel
theorem A1k(c:Nat)(L:UH):Gz true (.str ⟨#[c]⟩) (.str "yz") L=some (.bl (!decide (c=121\/c=122)),L):=by
 have h:=qV "yz" c
 show some (U.bl (!(!(cI "yz" ⟨#[c]⟩ 0 ("yz" : Str).length 1).isEmpty)),L)=_
 rw[h,Aud]
 simp
theorem Aoy(h:Nm w):∃ c r,w.cps.toList=c::r/\97<=c/\c<=122:=by
 have h1:=h.1
 rw[len_cps] at h1
 cases hw:w.cps.toList with
 | nil=>rw[hw] at h1;simp at h1
 | cons c r=>exact ⟨c,r,rfl,h.2.2 c (by rw[hw];simp)⟩
theorem Aql{r:List Nat}(h:Nm w)(hw:w.cps.toList=c::r)(L:UH):Al (.str w) (.int 0) L=some (.str ⟨#[c]⟩,L):=by
 rw[Q6,if_pos (small_of (by have:=h.2.1;omega)),hw,Va (by decide) (by simp only[aL];omega)]
 rfl
inductive PoolT(v:Option (Fl×UH))(L:UH)(d n:Nat)(B:Int)(k:Nat)(sp:List Str)(ab:Str):Prop
 | mk (y:Option U) (L':UH) (sp':List Str) (e:v=some (.nx [some (.ref d),some (.ref n),some (.str ab),some (.int k),y],L')) (D:Seed L' d (B+9)) (h:L'[n]? = some (.lst (sp'.map U.str))) (nd:sp'.Nodup) (ok:∀ x∈sp',Pn x) (l1:sp.length<=sp'.length) (l2:sp'.length<=sp.length+1) (x:∀ L0,Ex d L0 L->L0.length<=n->Ex d L0 L')
theorem L8{f g:FT}{b:Bool}{L2:UH}(h:f δ L=some (true,L1))(h2:g δ L1=some (b,L2)):Mg f g δ L=some (b,L2):=by
 rw[Tj,h];simp only[aC,if_true,h2]
theorem W4{f g:FT}(h:f δ L=some (false,L1)):Mg f g δ L=some (false,L1):=by
 rw[Tj,h];rfl
theorem Qo(hi:Ae i δ L=some (.ref n,L))(hf:fe δ L=some (u,L1))(h0:tyU "list" (.ref n) L=true)(h:L1[n]? = some (.lst l))(hl:l.length < 16777216):(C3 (C2 "list" De (Ae i) (Ad fe Ag))) δ L=some (.nx δ,L1.set n (.lst (l++[u]))):=by
 rw[Vc,fMeth_eq,hi,aC]
 simp only[h0,if_true]
 rw[Bv hf rfl]
 simp only[aC,Aj2 u h hl,aG]
theorem Aid{L:UH}{d n k:Nat}{B:Int}{sp:List Str}(D:Seed L d B)(hB:B<=100000000)(hnd:n≠d)(h:L[n]? = some (.lst (sp.map U.str)))(nd:sp.Nodup)(ok:∀ x∈sp,Pn x)(hl:sp.length<=1000)(x4:Option U) :
  PoolT (Lo [some (.ref d),some (.ref n),some (.str abc),some (.int k),x4] L) L d n B k sp abc:=by
 obtain ⟨w,L1,e1,nw,D1,x1⟩:=Ao9 D hB (some (.ref n)) (some (.int k)) x4
 have h1:=x1.get h hnd
 obtain ⟨c,r,hc,c0,c1⟩:=Aoy nw
 have s1:=Ek (i:=4) (δ:=[some (.ref d),some (.ref n),some (.str abc),some (.int k),x4]) e1
 have b1:Lo=Bc (Bo (C2 "str" Hi (fC (.str nul)) (Ad (B5 [none,some 2,some 0] (Er (Ad (f2 A9 (fC (.int 1)) (Ar 2 An (Ad (Ae 0) (Ad (fC (.int 8)) Ag)))) Ag)) (gN 0) none Hk) Ag)) (gN 4)) (C5 (Mg (A0 (f2 (Gz true) (Ae 4) (Ae 1))) (A0 (f2 (Gz true) (f2 Al (Ae 4) (fC (.int 0))) (fC (.str "yz"))))) (C3 (C2 "list" De (Ae 1) (Ad (Ae 4) Ag))) B9):=rfl
 rw[b1,Bp s1]
 generalize abc=ab
 show PoolT (C5 _ _ B9 [some (.ref d),some (.ref n),some (.str ab),some (.int k),some (.str w)] L1) L d n B k sp ab
 have t1:(A0 (f2 (Gz true) (Ae 4) (Ae 1))) [some (.ref d),some (.ref n),some (.str ab),some (.int k),some (.str w)] L1=some (!decide (w∈sp),L1):=Cg (Bg rfl rfl (Agx w h1))
 have t2:(A0 (f2 (Gz true) (f2 Al (Ae 4) (fC (.int 0))) (fC (.str "yz")))) [some (.ref d),some (.ref n),some (.str ab),some (.int k),some (.str w)] L1=some (!decide (c=121\/c=122),L1):=Cg (Bg (Bg rfl rfl (Aql nw hc L1)) rfl (A1k c L1))
 by_cases hw:w∈sp
 ·rw[decide_eq_true hw] at t1
  rw[C0 (W4 t1)]
  exact ⟨some (.str w),L1,sp,rfl,D1,h1,nd,ok,aZ _,by omega,fun L0 x0 _=>x0.trans x1⟩
 rw[decide_eq_false hw] at t1
 by_cases hy:c=121\/c=122
 ·rw[decide_eq_true hy] at t2
  rw[C0 (L8 t1 t2)]
  exact ⟨some (.str w),L1,sp,rfl,D1,h1,nd,ok,aZ _,by omega,fun L0 x0 _=>x0.trans x1⟩
 rw[decide_eq_false hy] at t2
 rw[Eo (L8 t1 t2),Qo (i:=1) (n:=n) (l:=sp.map U.str) (u:=.str w) (fe:=Ae 4) rfl rfl (Nv h1) h1 (by simp;omega)]
 have hm:sp.map U.str++[.str w]=(sp++[w]).map U.str:=by simp
 rw[hm]
 refine ⟨some (.str w),_,sp++[w],rfl,D1.set hnd _,bU (aK.mp h1).1,?_,fun x hx=>?_,by simp,by simp,fun L0 x0 hn=>(x0.trans x1).set hn _⟩
 ·rw[qX]
  exact ⟨nd,by simp,fun a ha b hb=>by rw[cF.mp hb];intro q;exact hw (q ▸ ha)⟩
 ·rcases cV.mp hx with hx | hx
  ·exact ok x hx
  ·rw[cF.mp hx]
   refine ⟨nw,?_⟩
   unfold hdB
   rw[hc]
   exact decide_eq_true (by omega)
inductive PoolR(v:Option (U×UH))(L:UH)(d:Nat)(B:Int):Prop
 | mk (r:Nat) (L':UH) (pl:List Str) (e:v=some (.ref r,L')) (h:L'[r]? = some (.lst (pl.map U.str))) (l:pl.length=8) (nd:pl.Nodup) (ok:∀ x∈pl,Pn x) (D:Seed L' d B) (x:Ex d L L') (lr:L.length<=r)
theorem Aod(D:Seed L d B)(hB:B<=10000000):PoolR (Vo [.ref d] L) L d (B+44):=by
 have h0:(L++[HU.lst (Gd.map U.str)])[L.length]? = some (.lst (Gd.map U.str)):=by simp
 have D0:=D.new [HU.lst (Gd.map U.str)]
 have x0:=Ex.new d L [HU.lst (Gd.map U.str)]
 have hnd:L.length≠d:=by have:=D.lt;omega
 have s1:(Bo (B1 (Ad (fC (.str "a")) (Ad (fC (.str "ba")) (Ad (fC (.str "ab")) (Ad (fC (.str "aa")) (Ad (fC (.str "put")) (Ad (fC (.str "nodes")) (Ad (fC (.str "node")) (Ad (fC (.str "pairs")) (Ad (fC (.str "bab")) (Ad (fC (.str "nth")) (Ad (fC (.str "longname")) (Ad (fC (.str "longnamf")) Ag))))))))))))) (gN 1)) [some (.ref d),none,none,none,none] L=some (.nx [some (.ref d),some (.ref L.length),none,none,none],L++[.lst (Gd.map U.str)]):=rfl
 generalize L++[HU.lst (Gd.map U.str)]=L0 at h0 D0 x0 s1
 generalize hn:L.length=n at h0 hnd s1
 have hlt:Gd.length=12:=rfl
 have ok0:=Ad6
 have nd0:=Ado
 generalize Gd=s12 at h0 hlt ok0 nd0
 have s2:(Bo (fC (.str "abcdefghijklmnopqrstuvwxyz")) (gN 2)) [some (.ref d),some (.ref n),none,none,none] L0=some (.nx [some (.ref d),some (.ref n),some (.str abc),none,none],L0):=rfl
 have hi:Er (Ad (fC (.int 4)) Ag) [some (.ref d),some (.ref n),some (.str abc),none,none] L0=some (.seq (C4 0 4),L0):=Qx (n:=4) rfl (by omega)
 obtain ⟨δ',L1,e1,P⟩:=Y6 (us:=C4 0 4) (body:=Lo) (g:=gN 3) (fun k δ' M=>(∃ y3 y4,δ'=[some (.ref d),some (.ref n),some (.str abc),y3,y4])/\Seed M d (B+9 * k)/\Ex d L M/\∃ sp:List Str,M[n]? = some (.lst (sp.map U.str))/\sp.Nodup/\(∀ x∈sp,Pn x)/\12<=sp.length/\sp.length<=12+k) hi
  ⟨⟨_,_,rfl⟩,D0.mono (by omega),x0,s12,h0,nd0,ok0,by omega,by omega⟩
  (fun k u δ M hu hP=>by
   obtain ⟨⟨y3,y4,rfl⟩,DM,xM,sp,hs,nd,ok,l1,l2⟩:=hP
   obtain ⟨hk,rfl⟩:=Jt hu
   obtain ⟨y,M',sp',e,D',h',nd',ok',m1,m2,x'⟩:=Aid (k:=k) DM (by omega) hnd hs nd ok (by omega) y4
   refine ⟨[some (.ref d),some (.ref n),some (.str abc),some (.int k),y4],M,by rw[tD];rfl,_,M',.inl e,⟨_,_,rfl⟩,D'.mono (by push_cast;omega),x' L xM (by omega),sp',h',nd',ok',by omega,by omega⟩)
 obtain ⟨⟨y3,y4,rfl⟩,DM,xM,sp,hs,nd,ok,l1,l2⟩:=P
 rw[Jj] at DM l2
 obtain ⟨r,names,M',e2,h2,hl2,⟨rest,hp⟩,D2,x2⟩:=Ajo (many:=8) DM (by omega) hnd hs (by omega) (by omega) (some (.str abc)) y3 y4
 have hnd2:(names++rest).Nodup:=hp.nodup_iff.mpr nd
 refine ⟨r,M',names,fn1 (n:=4) ?_,h2,hl2,(qX.mp hnd2).1,fun x hx=>ok x (hp.mem_iff.mp (eK _ hx)),D2.mono (by omega),(x2 L xM (by omega)).1,by have:=(x2 L xM (by omega)).2;omega⟩
 show Tz [some (.ref d),none,none,none,none] L=_
 unfold Tz
 exact Bb s1 (Bb s2 (Bb e1 (Ce e2)))
def ah:Str := "abcdefgh"
def qx:Str := "qrstuvwx"
theorem Avx:ah.cps.toList=[97,98,99,100,101,102,103,104]:=by decide +kernel
theorem Avk:qx.cps.toList=[113,114,115,116,117,118,119,120]:=by decide +kernel
theorem Adt:(eJ "zy").toList=[122,121]:=by decide +kernel
theorem Akz{s:Str}{a:Nat}{cs:List Nat}(hs:s.cps.toList=cs)(hc:cs=(cK 8).map (a + ·))(h:i < 8)(L:UH):Al (.str s) (.int (i:Int)) L=some (.str ⟨#[a+i]⟩,L):=by
 have hl:s.length=8:=by rw[len_cps,hs,hc];simp
 rw[Q6,if_pos (small_of (by omega)),hs,hc,Va (by omega) (by simp;omega)]
 simp[h]
def E9(pl:List Str)(k:Nat):Str:=if k < 8 then pl.getD k "" else ⟨#[122,121,97+k / 8,113+k % 8]⟩
variable {pl:List Str}
theorem Afu(h:L[r]? = some (.lst (pl.map U.str)))(hl:pl.length=8)(hk:k < 64):Gj [.ref r,.int k] L=some (.str (E9 pl k),L):=by
 refine fnN (n:=2) rfl ?_
 show U7 [some (.ref r),some (.int k)] L=_
 unfold U7
 by_cases h8:k < 8
 ·refine H9 ?_
  rw[Eo (Cg (Bg rfl rfl (by rw[X7,decide_eq_true (by omega)])))]
  refine Ce (Bg rfl rfl (G4 h (K9 ?_)))
  unfold E9
  rw[if_pos h8,bJ,eX,aX (by omega)]
  rfl
 ·refine Bb (C0 (Cg (Bg rfl rfl (by rw[X7,decide_eq_false (by omega)])))) (Ce ?_)
  have hd:Rt (.int (k:Int)) (.int 8) L=some (.int ((k / 8:Nat):Int),L):=by
   rw[Aeg,if_pos (Ua (by decide) (by decide))]
   simp
  have hm:J3 (.int (k:Int)) (.int 8) L=some (.int ((k % 8:Nat):Int),L):=by
   rw[Aei,if_pos (by decide)]
   simp
  have a1:Al (.str "abcdefgh") (.int ((k / 8:Nat):Int)) L=some (.str ⟨#[97+k / 8]⟩,L):=Akz Avx (by decide) (by omega) L
  have a2:Al (.str "qrstuvwx") (.int ((k % 8:Nat):Int)) L=some (.str ⟨#[113+k % 8]⟩,L):=Akz Avk (by decide) (by omega) L
  have c1:=K6 "zy" ⟨#[97+k / 8]⟩ (by rw[len_cps,len_cps,Adt];simp) L
  have c2:=K6 ("zy" ++ ⟨#[97+k / 8]⟩) ⟨#[113+k % 8]⟩ (by rw[len_cps,app_cps,len_cps,Adt];simp) L
  have hn:("zy" ++ ⟨#[97+k / 8]⟩++⟨#[113+k % 8]⟩:Str)=E9 pl k:=by
   unfold E9
   rw[if_neg h8]
   apply Fd
   rw[app_cps,app_cps,Adt]
   rfl
  rw[hn] at c2
  exact Bg (Bg rfl (Bg rfl (Bg rfl rfl hd) a1) c1) (Bg rfl (Bg rfl rfl hm) a2) c2
theorem Agr(hl:pl.length=8)(ok:∀ x∈pl,Pn x)(hk:k < 64):Nm (E9 pl k):=by
 unfold E9
 by_cases h8:k < 8
 ·rw[if_pos h8,eX,aX (by omega)]
  exact (ok _ (bY _)).1
 ·rw[if_neg h8]
  refine ⟨by rw[len_cps];simp,by rw[len_cps];simp,fun c hc=>?_⟩
  simp only[bL,cN,or_false] at hc
  omega
variable {j:Nat}
theorem Ac5(hl:pl.length=8)(ok:∀ x∈pl,Pn x)(nd:pl.Nodup)(h:E9 pl i=E9 pl j):i=j:=by
 have key:∀ a b:Nat,a < 8->¬ b < 8->E9 pl a≠E9 pl b:=fun a b ha hb q=>by
  unfold E9 at q
  rw[if_pos ha,if_neg hb,eX,aX (by omega)] at q
  have:=(ok _ (bY (show a < pl.length by omega))).2
  simp only[kH] at q
  rw[q] at this
  unfold hdB at this
  simp at this
 by_cases hi:i < 8
 ·by_cases hj:j < 8
  ·unfold E9 at h
   rw[if_pos hi,if_pos hj,eX,aX (by omega),eX,aX (by omega)] at h
   exact (mX nd).mp h
  ·exact absurd h (key i j hi hj)
 ·by_cases hj:j < 8
  ·exact absurd h.symm (key j i hj hi)
  ·unfold E9 at h
   rw[if_neg hi,if_neg hj] at h
   injection h with h
   have h1:=congrArg (fun a=>a.toList) h
   simp only[gJ,and_true,true_and] at h1
   omega
theorem Ays(h:Nm w):fG w=true:=h.2.2.ok
variable {ps:List NP}
theorem OkP.ok(h:OkP ps):∀ p∈ps,fG p.1=true:=fun p hp=>Ays (h p hp).1
theorem Rw(hi:∀ M,Ae i δ M=some (.ref n,M))(h:L[n]? = some (.lst (ps.map ptU)))(ok:OkP ps):(A0 (f2 Cr (Ae i) (B1 Ag))) δ L=some (!ps.isEmpty,L++[.lst []]):=by
 have hl:(B1 Ag) δ L=some (.ref L.length,L++[.lst []]):=by rw[Ls];rfl
 refine Cg (Bg (hi L) hl ?_)
 have hpl:∀ u∈ps.map ptU,Pl 6 u:=fun u hu=>by
  obtain ⟨p,hp,rfl⟩:=dI.mp hu
  exact Ax1 (ok.ok p hp)
 rw[Xv (Ao ((Gw.new L _).get h)) (Ao (us:=[]) (by simp)) hpl (fun u hu=>by cases hu)]
 cases ps with
 | nil=>rfl
 | cons p ps=>
  have:Aem ((p::ps).map ptU) []=false:=by
   cases hb:Aem ((p::ps).map ptU) [] with
   | false=>rfl
   | true=>
    have:=(Uy hpl (fun u hu=>by cases hu)).mp hb
    cases this
  rw[this];rfl
inductive PickP(v:Option (U×UH))(L:UH)(d:Nat)(B:Int)(ps:List NP):Prop
 | mk (p:NP) (L':UH) (e:v=some (ptU p,L')) (m:p∈ps) (D:Seed L' d B) (x:Ex d L L')
theorem Aaw(D:Seed L d B)(hB:B<=1000000000)(hi:∀ M,Ae i δ M=some (.ref d,M))(hj:∀ M,Ae j δ M=some (.ref n,M))(hnd:n≠d)(h:L[n]? = some (.lst (ps.map ptU)))(h0:0 < ps.length)(hl:ps.length<=1000) :
  PickP ((f2 Al (Ae j) (Ar 2 An (Ad (Ae i) (Ad (Be Az (Ad (Ae j) Ag)) Ag)))) δ L) L d (B+1) ps:=by
 have hlen:=Fg h
 rw[aU] at hlen
 obtain ⟨a,L1,e1,a0,a1,D1,x1⟩:=Cv (many:=(ps.length:Nat)) D (by omega) (by omega) (by omega)
 have h1:=x1.get h hnd
 obtain ⟨b,rfl⟩:∃ b:Nat,a=(b:Int):=⟨a.toNat,by omega⟩
 have hb:b < ps.length:=by omega
 refine ⟨ps[b]'hb,L1,?_,bY _,D1,x1⟩
 refine Bg (hj L) (Eu (hi L) (Jh (hj L) hlen) e1) (G4 h1 (K9 ?_))
 rw[bJ,aX (by omega)]
 rfl
inductive BegT(v:Option (Fl×UH))(L:UH)(d rp n:Nat)(B:Int)(k:Nat)(kd:Int)(x1:Option U)(pl:List Str)(ps:List NP):Prop
 | mk (y6 y7:Option U) (L':UH) (q:Int×Int) (e:v=some (.nx [some (.ref d),x1,some (.ref rp),some (.int kd),some (.ref n),some (.int k),y6,y7],L')) (D:Seed L' d (B+9)) (h:L'[n]? = some (.lst ((ps++[(E9 pl k,q)]).map ptU))) (t1:Ten q.1) (t2:Ten q.2) (hp:L'[rp]? = some (.lst (pl.map U.str))) (x:∀ L0,Ex d L0 L->L0.length<=n->Ex d L0 L')
variable {rp:Nat}
theorem Aqa{L:UH}{d rp n k:Nat}{B kd x y:Int}{x1:Option U}{pl:List Str}{ps:List NP}(D:Seed L d (B+9))(hp:L[rp]? = some (.lst (pl.map U.str)))(lp:pl.length=8)(h:L[n]? = some (.lst (ps.map ptU)))(hl:ps.length<=100)(hk:k < 64)(hnd:n≠d)(hnp:n≠rp)(tx:Ten x)(ty:Ten y) :
  BegT ((C3 (C2 "list" De (Ae 4) (Ad (Di (Ad (Ar 2 Gj (Ad (Ae 2) (Ad (Ae 5) Ag))) (Ad (Ae 6) (Ad (Ae 7) Ag)))) Ag))) [some (.ref d),x1,some (.ref rp),some (.int kd),some (.ref n),some (.int k),some (.int x),some (.int y)] L) L d rp n B k kd x1 pl ps:=by
 have en:=Afu hp lp hk
 have et:(Di (Ad (Ar 2 Gj (Ad (Ae 2) (Ad (Ae 5) Ag))) (Ad (Ae 6) (Ad (Ae 7) Ag)))) [some (.ref d),x1,some (.ref rp),some (.int kd),some (.ref n),some (.int k),some (.int x),some (.int y)] L=some (ptU (E9 pl k,(x,y)),L):=Alb (Eu rfl rfl en) rfl rfl
 rw[Qo (i:=4) (n:=n) (u:=ptU (E9 pl k,(x,y))) rfl et (Nv h) h (by simp;omega)]
 have hm:ps.map ptU++[ptU (E9 pl k,(x,y))]=(ps++[(E9 pl k,(x,y))]).map ptU:=by simp
 rw[hm]
 exact ⟨_,_,_,(x,y),rfl,D.set hnd _,bU (aK.mp h).1,tx,ty,by rw[bW hnp];exact hp,fun L0 x0 hn=>x0.set hn _⟩
theorem Ami{L:UH}{d rp n k:Nat}{B kd:Int}{x1 y6 y7:Option U}{pl:List Str}{ps:List NP}(D:Seed L d B)(hB:B<=1000000)(hp:L[rp]? = some (.lst (pl.map U.str)))(lp:pl.length=8)(h:L[n]? = some (.lst (ps.map ptU)))(ok:OkP ps)(hl:ps.length<=100)(hk:k < 64)(hnd:n≠d)(hpd:rp≠d)(hnp:n≠rp)(kk:kd=0\/kd=1\/kd=2) :
  BegT (J1 [some (.ref d),x1,some (.ref rp),some (.int kd),some (.ref n),some (.int k),y6,y7] L) L d rp n B k kd x1 pl ps:=by
 obtain ⟨x,L1,e1,tx,D1,z1⟩:=Jc D (by omega) kk
 obtain ⟨y,L2,e2,ty,D2,z2⟩:=Jc D1 (by omega) kk
 have z12:=z1.trans z2
 have s1:=Ek (i:=6) (δ:=[some (.ref d),x1,some (.ref rp),some (.int kd),some (.ref n),some (.int k),y6,y7]) (Eu (fa:=Ae 0) (fb:=Ae 3) rfl rfl e1)
 have s2:=Ek (i:=7) (δ:=[some (.ref d),x1,some (.ref rp),some (.int kd),some (.ref n),some (.int k),some (.int x),y7]) (Eu (fa:=Ae 0) (fb:=Ae 3) rfl rfl e2)
 unfold J1
 rw[Bp s1]
 show BegT (Bc _ _ [some (.ref d),x1,some (.ref rp),some (.int kd),some (.ref n),some (.int k),some (.int x),y7] L1) _ _ _ _ _ _ _ _ _ _
 rw[Bp s2]
 show BegT (Bc _ _ [some (.ref d),x1,some (.ref rp),some (.int kd),some (.ref n),some (.int k),some (.int x),some (.int y)] L2) _ _ _ _ _ _ _ _ _ _
 have t1:=Rw (i:=4) (δ:=[some (.ref d),x1,some (.ref rp),some (.int kd),some (.ref n),some (.int k),some (.int x),some (.int y)]) (fun _=>rfl) (z12.get h hnd) ok
 have D3:=D2.new [HU.lst []]
 have z3:=z12.trans (Ex.new d L2 [HU.lst []])
 generalize L2++[HU.lst []]=L3 at t1 D3 z3
 have fin:∀ (x y:Int) (M:UH),Ten x->Ten y->Seed M d (B+9)->Ex d L M->BegT ((C3 (C2 "list" De (Ae 4) (Ad (Di (Ad (Ar 2 Gj (Ad (Ae 2) (Ad (Ae 5) Ag))) (Ad (Ae 6) (Ad (Ae 7) Ag)))) Ag))) [some (.ref d),x1,some (.ref rp),some (.int kd),some (.ref n),some (.int k),some (.int x),some (.int y)] M) L d rp n B k kd x1 pl ps:=fun x y M tx ty DM xM=>by
  obtain ⟨a6,a7,L',q,e,D',h',q1,q2,hp',x'⟩:=Aqa (x1:=x1) (kd:=kd) DM (xM.get hp hpd) lp (xM.get h hnd) hl hk hnd hnp tx ty
  exact ⟨a6,a7,L',q,e,D',h',q1,q2,hp',fun L0 x0 hn=>x' L0 (x0.trans xM) hn⟩
 cases ps with
 | nil=>
  rw[Bp (C0 (W4 t1))]
  exact fin x y L3 tx ty (D3.mono (by omega)) z3
 | cons p0 ps0=>
  generalize hps:p0::ps0=ps at *
  have hpos:0 < ps.length:=by rw[<- hps];simp
  have hne:(!ps.isEmpty)=true:=by rw[<- hps];rfl
  rw[hne] at t1
  obtain ⟨a,L4,e4,a0,a1,D4,z4⟩:=Cv (many:=6) D3 (by omega) (by decide) (by decide)
  have t2:(A0 (f2 B3 (Ar 2 An (Ad (Ae 0) (Ad (fC (.int 6)) Ag))) (fC (.int 0)))) [some (.ref d),x1,some (.ref rp),some (.int kd),some (.ref n),some (.int k),some (.int x),some (.int y)] L3=some (a == 0,L4):=Cg (Bg (Eu rfl rfl e4) rfl (Ky _ _ _))
  have z34:=z3.trans z4
  by_cases ha:a=0
  ·have hb:(a == 0)=true:=by simp[ha]
   rw[hb] at t2
   obtain ⟨p,L5,e5,m5,D5,z5⟩:=Aaw (i:=0) (j:=4) (δ:=[some (.ref d),x1,some (.ref rp),some (.int kd),some (.ref n),some (.int k),some (.int x),some (.int y)]) D4 (by omega) (fun _=>rfl) (fun _=>rfl) hnd (z34.get h hnd) hpos (by omega)
   have z35:=z34.trans z5
   have s5:=Ek (i:=6) (Bg (fb:=fC (.int 1)) e5 rfl (ix1 p L5))
   obtain ⟨p',L6,e6,m6,D6,z6⟩:=Aaw (i:=0) (j:=4) (δ:=[some (.ref d),x1,some (.ref rp),some (.int kd),some (.ref n),some (.int k),some (.int p.2.1),some (.int y)]) D5 (by omega) (fun _=>rfl) (fun _=>rfl) hnd (z35.get h hnd) hpos (by omega)
   have s6:=Ek (i:=7) (Bg (fb:=fC (.int 2)) e6 rfl (ix2 p' L6))
   have s7:(C5 (Mg (A0 (f2 Cr (Ae 4) (B1 Ag))) (A0 (f2 B3 (Ar 2 An (Ad (Ae 0) (Ad (fC (.int 6)) Ag))) (fC (.int 0))))) (Bc (Bo (f2 Al (f2 Al (Ae 4) (Ar 2 An (Ad (Ae 0) (Ad (Be Az (Ad (Ae 4) Ag)) Ag)))) (fC (.int 1))) (gN 6)) (Bo (f2 Al (f2 Al (Ae 4) (Ar 2 An (Ad (Ae 0) (Ad (Be Az (Ad (Ae 4) Ag)) Ag)))) (fC (.int 2))) (gN 7))) B9) [some (.ref d),x1,some (.ref rp),some (.int kd),some (.ref n),some (.int k),some (.int x),some (.int y)] L2=some (.nx [some (.ref d),x1,some (.ref rp),some (.int kd),some (.ref n),some (.int k),some (.int p.2.1),some (.int p'.2.2)],L6):=by
    rw[Eo (L8 t1 t2),Bp s5]
    exact s6
   rw[Bp s7]
   exact fin _ _ L6 (ok p m5).2.1 (ok p' m6).2.2 (D6.mono (by omega)) (z35.trans z6)
  ·have hb:(a == 0)=false:=by simp[ha]
   rw[hb] at t2
   rw[Bp (C0 (L8 t1 t2))]
   exact fin x y L4 tx ty (D4.mono (by omega)) z34
inductive BegR(v:Option (U×UH))(L:UH)(d:Nat)(B:Int):Prop
 | mk (r rp n:Nat) (kd:Int) (L':UH) (pl:List Str) (ps:List NP) (e:v=some (.ref r,L')) (hr:L'[r]? = some (.lst [.ref rp,.int kd,.ref n])) (hp:L'[rp]? = some (.lst (pl.map U.str))) (hn:L'[n]? = some (.lst (ps.map ptU))) (lp:pl.length=8) (nd:pl.Nodup) (ok:∀ x∈pl,Pn x) (kk:kd=0\/kd=1\/kd=2) (okp:OkP ps) (ndp:(ps.map (·.1)).Nodup) (l:ps.length<=60) (D:Seed L' d B) (x:Ex d L L') (l1:L.length<=rp) (l2:L.length<=n)
theorem Ala{most:Int}(D:Seed L d B)(hB:B<=100000)(hm:most=8\/most=60):BegR (Ru [.ref d,.int most] L) L d (B+1000):=by
 obtain ⟨rp,L1,pl,e1,h1,lp,nd,ok,D1,x1,l1⟩:=Aod D (by omega)
 have hpd:rp≠d:=by have:=D.lt;omega
 obtain ⟨kd,L2,e2,k0,k1,D2,x2⟩:=Cv (many:=3) D1 (by omega) (by decide) (by decide)
 have kk:kd=0\/kd=1\/kd=2:=by omega
 have h2:=x2.get h1 hpd
 have x12:=x1.trans x2
 have s1:=Ek (i:=2) (δ:=[some (.ref d),some (.int most),none,none,none,none,none,none]) (Pc (i:=0) rfl e1)
 have s2:=Ek (i:=3) (δ:=[some (.ref d),some (.int most),some (.ref rp),none,none,none,none,none]) (Eu (fa:=Ae 0) (fb:=fC (.int 3)) rfl rfl e2)
 have s3:(Bo (B1 Ag) (gN 4)) [some (.ref d),some (.int most),some (.ref rp),some (.int kd),none,none,none,none] L2=some (.nx [some (.ref d),some (.int most),some (.ref rp),some (.int kd),some (.ref L2.length),none,none,none],L2++[.lst []]):=rfl
 have h3:(L2++[HU.lst []])[rp]? = some (.lst (pl.map U.str)):=(Gw.new L2 _).get h2
 have hn3:(L2++[HU.lst []])[L2.length]? = some (.lst (([]:List NP).map ptU)):=by simp
 have D3:=D2.new [HU.lst []]
 have x3:=x12.trans (Ex.new d L2 [HU.lst []])
 have hlt:L.length<=L2.length:=x12.le
 have hnp:L2.length≠rp:=by have:=(aK.mp h2).1;omega
 have hnd:L2.length≠d:=by have:=D2.lt;omega
 generalize hnn:L2.length=n at s3 hn3 hlt hnp hnd
 generalize L2++[HU.lst []]=L3 at s3 h3 hn3 D3 x3
 obtain ⟨mn,L4,e4,m0,m1,D4,x4⟩:=Cv (many:=most+1) D3 (by omega) (by omega) (by omega)
 have hi:Er (Ad (Ar 2 An (Ad (Ae 0) (Ad (f2 A9 (Ae 1) (fC (.int 1))) Ag))) Ag) [some (.ref d),some (.int most),some (.ref rp),some (.int kd),some (.ref n),none,none,none] L3=some (.seq (C4 0 mn.toNat),L4):=
  Aay (Bv (Eu rfl (Bg rfl rfl (G6 _ _ _)) e4) rfl) m0 (by omega)
 obtain ⟨δ',L5,e5,P⟩:=Y6 (us:=C4 0 mn.toNat) (body:=J1) (g:=gN 5) (fun k δ' M=>(∃ y5 y6 y7,δ'=[some (.ref d),some (.int most),some (.ref rp),some (.int kd),some (.ref n),y5,y6,y7])/\Seed M d (B+46+9 * k)/\Ex d L M/\M[rp]? = some (.lst (pl.map U.str))/\∃ ps:List NP,M[n]? = some (.lst (ps.map ptU))/\OkP ps/\ps.map (·.1)=(cK k).map (E9 pl)) hi
  ⟨⟨_,_,_,rfl⟩,D4.mono (by omega),x3.trans x4,x4.get h3 hpd,[],x4.get hn3 hnd,(fun p hp=>by cases hp),rfl⟩
  (fun k u δ M hu hP=>by
   obtain ⟨⟨y5,y6,y7,rfl⟩,DM,xM,hpM,ps,hps,okp,hnm⟩:=hP
   obtain ⟨hk,rfl⟩:=Jt hu
   have hlen:ps.length=k:=by have:=congrArg iU hnm;simpa using this
   obtain ⟨a6,a7,M',q,e,D',h',q1,q2,hp',x'⟩:=Ami (k:=k) (x1:=some (.int most)) (y6:=y6) (y7:=y7) DM (by omega) hpM lp hps okp (by omega) (by omega) hnd hpd hnp kk
   refine ⟨[some (.ref d),some (.int most),some (.ref rp),some (.int kd),some (.ref n),some (.int k),y6,y7],M,by rw[tD];rfl,_,M',.inl e,⟨_,_,_,rfl⟩,D'.mono (by push_cast;omega),x' L xM (by omega),hp',_,h',fun p hp=>?_,?_⟩
   ·rcases cV.mp hp with hp | hp
    ·exact okp p hp
    ·rw[cF.mp hp]
     exact ⟨Agr lp ok (by omega),q1,q2⟩
   ·rw[fR,hnm,List.range_succ,fR];rfl)
 obtain ⟨⟨y5,y6,y7,rfl⟩,DM,xM,hpM,ps,hps,okp,hnm⟩:=P
 rw[Jj] at DM hnm
 have hlen:ps.length=mn.toNat:=by have:=congrArg iU hnm;simpa using this
 refine ⟨L5.length,rp,n,kd,L5++[.lst [.ref rp,.int kd,.ref n]],pl,ps,fnN (n:=8) rfl ?_,by simp,(Gw.new L5 _).get hpM,(Gw.new L5 _).get hps,lp,nd,ok,kk,okp,?_,by omega,(DM.new _).mono (by omega),xM.trans (Ex.new d L5 _),l1,by omega⟩
 ·show Q5 [some (.ref d),some (.int most),none,none,none,none,none,none] L=_
  unfold Q5
  exact Bb s1 (Bb s2 (Bb s3 (Bb e5 (Ce (A23 rfl rfl rfl)))))
 ·rw[hnm]
  exact mI (E9 pl) (fun i j hne h=>hne (Ac5 lp ok nd h)) rG
theorem Amj(h:asc w):∀ c∈w.cps.toList,c < 128:=by
 unfold asc at h
 rw[<- nF,bS] at h
 intro c hc
 exact of_decide_eq_true (h c hc)
theorem Ta(ha:asc a)(hb:asc b):asc (a++b):=Ry fun c hc=>by
 rw[app_cps] at hc
 rcases cV.mp hc with h | h
 ·exact Amj ha c h
 ·exact Amj hb c h
theorem Awm(h:Nm w):asc w:=Ry fun c hc=>by have:=h.2.2 c hc;omega
theorem Azv:asc " " := by unfold asc;decide +kernel
theorem Ab1(ha:Nm a):asc (Ho a x y):=by
 rw[Aat]
 exact Ta (Awm ha) (Ta (Ta (Ta Azv (Nw x)) Azv) (Nw y))
theorem U6(ha:Nm a)(hx:Ten x)(hy:Ten y):(Ho a x y).length<=100:=by
 have h1:=ha.2.1
 have h2:=Dw hx
 have h3:=Dw hy
 have h4:(" " : Str).length=1:=by decide +kernel
 rw[Aat,lapp,lapp,lapp,lapp]
 omega
theorem Q1(ok:OkP m):∀ w∈Jx m,asc w:=fun w hw=>by
 obtain ⟨p,hp,rfl⟩:=dI.mp hw
 exact Ab1 (ok p hp).1
theorem Sj(ok:OkP m):∀ w∈Et m,asc w:=fun w hw=>by
 obtain ⟨p,hp,rfl⟩:=dI.mp hw
 exact Ab1 (ok p hp).1
theorem Jz(h:∀ w∈out,asc w):∀ u∈out.map U.str,Pl 6 u:=fun u hu=>by
 obtain ⟨w,hw,rfl⟩:=dI.mp hu
 exact Pj (h w hw)
theorem N0{a b:Nat}(ha:L[a]? = some (.lst (out.map U.str)))(hb:L[b]? = some (.lst (out.map U.str)))(h:∀ w∈out,asc w):Cr (.ref a) (.ref b) L=some (.bl false,L):=by
 rw[Xv (Ao ha) (Ao hb) (Jz h) (Jz h),(Uy (Jz h) (Jz h)).mpr rfl];rfl
theorem Y4{a b:Nat}(ha:L[a]? = some (.lst (out.map U.str)))(hb:L[b]? = some (.lst (out.map U.str)))(h:∀ w∈out,asc w):B3 (.ref a) (.ref b) L=some (.bl true,L):=by
 rw[Ajc (Ao ha) (Ao hb) (Jz h) (Jz h),(Uy (Jz h) (Jz h)).mpr rfl]
theorem H0{out x:Str}{f:FE}{r:List FE}(h:f δ L=some (.str x,L))(hs:(out++x).length<=1000):goJ out (f::r) δ L=goJ (out++x) r δ L:=by
 show ((f δ L).bind _)=_
 rw[h]
 show (if F0 (out++x).length=true then goJ (out++x) r δ L else none)=_
 rw[if_pos (small_of (by omega))]
theorem Ir{n:Int}(h:Ten n)(hv:Ae i δ L=some (.int n,L)):Ea (Ae i) δ L=some (.str (fig n),L):=by
 unfold Ea
 rw[hv]
 show (if Mn n=true then some (U.str (V4 n),L) else none)=_
 rw[if_pos (Agi h),Afx]
theorem Ad5:(" " : Str).length=1:=by decide +kernel
theorem Pq(hw:w.length<=100)(hx:Ten x)(hy:Ten y)(hi:Ae i δ L=some (.int x,L))(hj:Ae j δ L=some (.int y,L)) :
  (Eb [(fC (.str w)),(Ea (Ae i)),(fC (.str " ")),(Ea (Ae j))]) δ L=some (.str (w++fig x ++ " " ++ fig y),L):=by
 have h2:=Dw hx
 have h3:=Dw hy
 have h4:=Ad5
 show goJ kD _ δ L=_
 rw[H0 (x:=w) rfl (by rw[e_app];omega),e_app,H0 (Ir hx hi) (by rw[lapp];omega),H0 (x := " ") rfl (by rw[lapp,lapp];omega),H0 (Ir hy hj) (by rw[lapp,lapp,lapp];omega)]
 rfl
theorem Ac2{l:Nat}{u v:Int}(hw:w.length<=100)(hx:Ten x)(hy:Ten y)(hu:Ten u)(hv:Ten v)(hi:Ae i δ L=some (.int x,L))(hj:Ae j δ L=some (.int y,L))(hk:Ae k δ L=some (.int u,L))(hl:Ae l δ L=some (.int v,L)) :
  (Eb [(fC (.str w)),(Ea (Ae i)),(fC (.str " ")),(Ea (Ae j)),(fC (.str " ")),(Ea (Ae k)),(fC (.str " ")),(Ea (Ae l))]) δ L=some (.str (w++fig x ++ " " ++ fig y ++ " " ++ fig u ++ " " ++ fig v),L):=by
 have h2:=Dw hx
 have h3:=Dw hy
 have h5:=Dw hu
 have h6:=Dw hv
 have h4:=Ad5
 show goJ kD _ δ L=_
 rw[H0 (x:=w) rfl (by rw[e_app];omega),e_app,H0 (Ir hx hi) (by rw[lapp];omega),H0 (x := " ") rfl (by rw[lapp,lapp];omega),H0 (Ir hy hj) (by rw[lapp,lapp,lapp];omega),H0 (x := " ") rfl (by simp only[lapp];omega),H0 (Ir hu hk) (by simp only[lapp];omega),H0 (x := " ") rfl (by simp only[lapp];omega),H0 (Ir hv hl) (by simp only[lapp];omega)]
 rfl
theorem Aby{ia:Nat}(ha:Nm a)(hx:Ten x)(hy:Ten y)(h0:Ae ia δ L=some (.str a,L))(hi:Ae i δ L=some (.int x,L))(hj:Ae j δ L=some (.int y,L)) :
  (f2 A9 (Ae ia) (Eb [(fC (.str " ")),(Ea (Ae i)),(fC (.str " ")),(Ea (Ae j))])) δ L=some (.str (Ho a x y),L):=by
 have h1:=ha.2.1
 have h2:=Dw hx
 have h3:=Dw hy
 have h4:=Ad5
 refine Bg h0 (Pq (by omega) hx hy hi hj) ?_
 rw[Aat]
 exact K6 a _ (by rw[lapp,lapp,lapp];omega) L
theorem Kr(h:L[n]? = some (.lst (m.map ptU)))(ok:OkP m)(hl:m.length<=1000):Ans (Dx [.ref n] L) L (Jx m):=by
 have hsq:=Ao h
 obtain ⟨x,ec⟩:=B6 (ix:=[none,none,none]) (fi:=Bu (Ae 0)) (g:=(MR.gTup 3 (MR.gCons (gN 0) (MR.gCons (gN 1) (MR.gCons (gN 2) MR.gNil))))) (tt:=none) (fe:=Mx) (δ:=[some (.ref n)]) (L:=L) (L0:=L) (it:=.ref n) m ptU (fun _=>true) (fun p=>U.str (Ho p.1 p.2.1 p.2.2)) (fun δ=>δ.length=3)
  (by rw[En];show (Ih (.ref n) L).map _=_;rw[C1 hsq];rfl) (by rw[F9 hsq];simp) (by omega) rfl (fun k x=>Ll (Dg hsq))
  (fun p δ x hp hδ=>by
   match δ,hδ with
   | [u0,u1,u2],_=>
    refine ⟨[some (.str p.1),some (.int p.2.1),some (.int p.2.2)],rfl,rfl,[],by simp[E4],fun _=>⟨[],?_⟩⟩
    unfold Mx
    rw[Aby (ok p hp).1 (ok p hp).2.1 (ok p hp).2.2 rfl rfl rfl];simp)
 rw[cP.mpr (fun _ _=>rfl)] at ec
 have em:m.map (fun p=>U.str (Ho p.1 p.2.1 p.2.2))=(Jx m).map U.str:=by unfold Jx;rw[cY];rfl
 rw[em] at ec
 generalize Jx m=out at ec
 refine ⟨(L++x).length,L++x++[.lst (out.map U.str)],fnN (n:=1) rfl ?_,by simp,⟨x++[.lst (out.map U.str)],by rw[<- bH]⟩,by simp⟩
 show U2 [some (.ref n)] L=_
 unfold U2
 exact Ce ec
variable {M':UH}
theorem A1e(g:Gw L M)(x:Ex p M M')(h:L.length<=p):Gw L M':=
 Gw.of (cB g.le x.le) fun i hi=>by
  have h1:=g.le
  rw[x.at_ i (by omega) (by omega)]
  obtain ⟨y,rfl⟩:=g
  rw[bA hi]
theorem Agm(m:List NP)(nm:Str):Ji m nm=decide (nm∈m.map (·.1)):=by
 unfold Ji
 induction m with
 | nil=>rfl
 | cons p m ih=>
  rw[eQ,ih]
  by_cases h:p.1=nm
  ·simp[h]
  ·have h':¬ nm=p.1:=fun q=>h q.symm
   simp[h,h']
theorem Y7{p:NP}(h:p∈m):Ji m p.1=true:=by rw[Agm];exact decide_eq_true (dI.mpr ⟨p,h,rfl⟩)
theorem Ti(h:nm∉m.map (·.1)):Ji m nm=false:=by rw[Agm];exact decide_eq_false h
theorem Abn{q:Int×Int}(h:Ji m nm=false):K8 m nm q=m++[(nm,q)]:=by
 unfold K8
 rw[h];rfl
theorem Akj(δ:UE)(L:UH):(Si "Desk" 1 El Ag) δ L=some (.ref L.length,L++[.ins "Desk" [("kept",.ref (L.length+1))]]++[.ins "KeptPoints" (kfl (L.length+2))]++[.dic (kG ptU [])]):=by
 have e:El [.ref L.length] (L++[.ins "Desk" []])=some (.non,L++[.ins "Desk" [("kept",.ref (L.length+1))]]++[.ins "KeptPoints" (kfl (L.length+2))]++[.dic (kG ptU [])]):=by
  have hk:=congrFun (congrFun (Ak0 L) [some (.ref L.length)]) (L++[.ins "Desk" []])
  have hl:(L++[HU.ins "Desk" []]).length=L.length+1:=by simp
  rw[hl] at hk
  have ha:(L++[HU.ins "Desk" []]++[HU.ins "KeptPoints" (kfl (L.length+1+1))]++[HU.dic (kG ptU [])])[L.length]? = some (.ins "Desk" []):=by simp
  have hp:Adh "kept" (.ref (L.length+1)) []=[(("kept" : Str),U.ref (L.length+1))]:=rfl
  unfold El fnU Ly Adk
  simp only[aL,aR,if_true,aI,bG,cQ,bK,aV,hk,aC,fVar_eq,aN,bD,aG,Gu ha]
  rw[if_pos (by decide),hp]
  simp
 unfold Si
 rw[fNil_eq,aC]
 simp only[aR,if_true,e,aC]
inductive LaidR(v:Option (U×UH))(L:UH)(m:List NP):Prop
 | mk (d k p:Nat) (L':UH) (e:v=some (.ref d,L')) (T:Dk L' d k p m) (g:Gw L L') (l1:L.length<=d) (l2:L.length<=k) (l3:L.length<=p)
theorem Ao2(h:L[n]? = some (.lst (m.map ptU)))(ok:OkP m)(nd:(m.map (·.1)).Nodup)(hl:m.length<=60):LaidR (Uz [.ref n] L) L m:=by
 have s1:=Ek (i:=1) (δ:=[some (.ref n),none,none]) (Akj [some (.ref n),none,none] L)
 have g1:Gw L (L++[.ins "Desk" [("kept",.ref (L.length+1))]]++[.ins "KeptPoints" (kfl (L.length+2))]++[.dic (kG ptU [])]):=((Gw.new _ _).trans (Gw.new _ _)).trans (Gw.new _ _)
 have T1:Dk (L++[.ins "Desk" [("kept",.ref (L.length+1))]]++[.ins "KeptPoints" (kfl (L.length+2))]++[.dic (kG ptU [])]) L.length (L.length+1) (L.length+2) []:=⟨by simp,⟨by simp,by simp⟩⟩
 generalize hL1:L++[.ins "Desk" [("kept",.ref (L.length+1))]]++[.ins "KeptPoints" (kfl (L.length+2))]++[.dic (kG ptU [])]=L1 at s1 g1 T1
 generalize hd:L.length=d at s1 T1
 obtain ⟨r,L2,e2,h2,g2,l2⟩:=Kr (g1.get h) ok (by omega)
 have hi:(Bu (Ar 1 Dx (Ad (Ae 0) Ag))) [some (.ref n),some (.ref d),none] L1=some (.ref r,L2):=by
  rw[En,Pc (i:=0) rfl e2]
  show (Ih (.ref r) L2).map _=_
  rw[C1 (Ao h2)];rfl
 obtain ⟨δ',L3,e3,P⟩:=P6 (us:=(Jx m).map U.str) (n:=r) (body:=Ux) (g:=gN 2) (fun j δ' M=>(∃ y,δ'=[some (.ref n),some (.ref d),y])/\Dk M d (d+1) (d+2) (m.take j)/\Gw L M/\M[r]? = some (.lst ((Jx m).map U.str))) hi
  ⟨⟨_,rfl⟩,T1.gw g2,g1.trans g2,h2⟩ (fun k δ M hP=>Ao hP.2.2.2)
  (fun j u δ M hu hP=>by
   obtain ⟨⟨y,rfl⟩,T,g,hr⟩:=hP
   rw[bJ] at hu
   obtain ⟨w,hw,rfl⟩:=aH.mp hu
   unfold Jx at hw
   rw[bJ] at hw
   obtain ⟨p,hp,rfl⟩:=aH.mp hw
   have hpm:=dX hp
   obtain ⟨hj,hpe⟩:=aK.mp hp
   obtain ⟨o1,o2,o3⟩:=ok p hpm
   have hno:p.1∉(m.take j).map (·.1):=fun hin=>by
    rw[pP] at hin
    obtain ⟨i,hi,hie⟩:=List.mem_iff_getElem.mp hin
    rw[hU,aU] at hi
    rw[List.getElem_take] at hie
    have h1:(m.map (·.1))[j]'(by simpa using hj)=p.1:=by rw[rH,hpe]
    rw[<- h1] at hie
    have:=(mX nd).mp hie
    omega
   obtain ⟨r1,M',e,_,T',x',_⟩:=Afq (x:=p.2.1) (y:=p.2.2) T (by rw[hU];omega) (Ti hno) o1 o2 o3
   have ec:=K6 "put " (Ho p.1 p.2.1 p.2.2) (by have:=U6 o1 o2 o3;have h4:=Asg;omega) M
   have hrp:r≠d+2:=fun q=>by rw[q,T.kp.pt] at hr;cases hr
   refine ⟨[some (.ref n),some (.ref d),some (.str (Ho p.1 p.2.1 p.2.2))],M,rfl,_,M',.inl (Nq (Sd T d3 rfl (us:=[.str ("put " ++ Ho p.1 p.2.1 p.2.2)]) (Bv (Bg rfl rfl ec) rfl) rfl e)),⟨_,rfl⟩,?_,A1e g x' (by omega),x'.get hr hrp⟩
   rw[Abn (Ti hno)] at T'
   rw[pB,hp]
   exact T')
 obtain ⟨⟨y,rfl⟩,T,g,hr⟩:=P
 have hlen:((Jx m).map U.str).length=m.length:=by unfold Jx;simp
 rw[hlen,kJ] at T
 refine ⟨d,d+1,d+2,L3,fn1 (n:=2) ?_,T,g,by omega,by omega,by omega⟩
 show Vg [some (.ref n),none,none] L=_
 unfold Vg
 exact Bb s1 (Bb e3 (Ce rfl))
inductive Deed(ps:List NP):Str->List NP->Prop
 | take (i:Nat) (h:i < ps.length):Deed ps ("take " ++ (ps[i]'h).1) (ps.take i++ps.drop (i+1))
 | move (i:Nat) (h:i < ps.length) (x y:Int) (tx:Ten x) (ty:Ten y):Deed ps ("move " ++ Ho (ps[i]'h).1 x y) (ps.take i++[((ps[i]'h).1,(x,y))]++ps.drop (i+1))
 | put (nm:Str) (x y:Int) (hn:Nm nm) (hno:nm∉ps.map (·.1)) (hl:ps.length < 60) (tx:Ten x) (ty:Ten y):Deed ps ("put " ++ Ho nm x y) (ps++[(nm,(x,y))])
theorem Agh:∀ (ps:List NP),(ps.map (·.1)).Nodup->∀ (i:Nat) (h:i < ps.length),Ob ps (ps[i]'h).1=ps.take i++ps.drop (i+1)
 | p::ps,nd,0,_=>by
  rw[aI,dZ] at nd
  show gQ _ (p::ps)=ps
  rw[eO,if_neg (by simp)]
  refine cP.mpr fun q hq=>decide_eq_true fun e=>nd.1 (dI.mpr ⟨q,hq,e⟩)
 | p::ps,nd,i+1,h=>by
  rw[aI,dZ] at nd
  have hi:i < ps.length:=by simpa using h
  have ih:=Agh ps nd.2 i hi
  have hne:p.1≠(ps[i]'hi).1:=fun e=>nd.1 (dI.mpr ⟨_,bY hi,e.symm⟩)
  show gQ (fun r=>decide (r.1≠(ps[i]'hi).1)) (p::ps)=p::(ps.take i++ps.drop (i+1))
  rw[eO,if_pos (decide_eq_true hne),<- ih]
  rfl
theorem Afl:∀ (ps:List NP),(ps.map (·.1)).Nodup->∀ (i:Nat) (h:i < ps.length) (q:Int×Int),ps.map (fun p=>if p.1=(ps[i]'h).1 then ((ps[i]'h).1,q) else p)=ps.take i++[((ps[i]'h).1,q)]++ps.drop (i+1)
 | p::ps,nd,0,_,q=>by
  rw[aI,dZ] at nd
  show nB _ (p::ps)=(p.1,q)::ps
  rw[aI]
  have:ps.map (fun r=>if r.1=p.1 then (p.1,q) else r)=ps:=by
   conv=>rhs;rw[<- tM ps]
   refine gZ fun r hr=>?_
   rw[if_neg (fun e=>nd.1 (dI.mpr ⟨r,hr,e⟩))];rfl
  simp only[List.getElem_cons_zero,if_true,this]
 | p::ps,nd,i+1,h,q=>by
  rw[aI,dZ] at nd
  have hi:i < ps.length:=by simpa using h
  have ih:=Afl ps nd.2 i hi q
  have hne:p.1≠(ps[i]'hi).1:=fun e=>nd.1 (dI.mpr ⟨_,bY hi,e.symm⟩)
  simp only[nS,aI,if_neg hne,ih,pH,List.drop_succ_cons,jA]
theorem Avo(nd:(ps.map (·.1)).Nodup)(h:i < ps.length)(q:Int×Int):K8 ps (ps[i]'h).1 q=ps.take i++[((ps[i]'h).1,q)]++ps.drop (i+1):=by
 unfold K8
 rw[Y7 (bY h),if_pos rfl]
 exact Afl ps nd i h q
theorem Deed.asked{ps':List NP}(D:Deed ps line ps')(T:Dk L d k p ps)(ok:OkP ps)(nd:(ps.map (·.1)).Nodup)(hl:ps.length<=60):Chg (Ax [.ref d,.str line] L) L d k p ps':=by
 cases D with
 | take i h=>
  rw[<- Agh ps nd i h]
  exact Alj T (Y7 (bY h)) (ok _ (bY h)).1
 | move i h x y tx ty=>
  rw[<- Avo nd h]
  exact Am2 T (by omega) (Y7 (bY h)) (ok _ (bY h)).1 tx ty
 | put nm x y hn hno hl tx ty=>
  rw[<- Abn (Ti hno)]
  exact Afq T hl (Ti hno) hn tx ty
theorem Deed.ok{ps':List NP}(D:Deed ps line ps')(ok:OkP ps)(nd:(ps.map (·.1)).Nodup)(hl:ps.length<=60):OkP ps'/\(ps'.map (·.1)).Nodup/\ps'.length<=60:=by
 cases D with
 | take i h=>
  rw[<- gW]
  have hs:=List.eraseIdx_sublist ps i
  exact ⟨fun p hp=>ok p (hs.subset hp),nd.sublist (hs.map _),cB hs.length_le hl⟩
 | move i h x y tx ty=>
  have he:ps.take i++[((ps[i]'h).1,(x,y))]++ps.drop (i+1)=ps.set i ((ps[i]'h).1,(x,y)):=by rw[List.set_eq_take_append_cons_drop,if_pos h,bH];rfl
  rw[he]
  refine ⟨fun p hp=>?_,?_,by rw[nY];exact hl⟩
  ·rcases List.mem_or_eq_of_mem_set hp with hp | hp
   ·exact ok p hp
   ·rw[hp]
    exact ⟨(ok _ (bY h)).1,tx,ty⟩
  ·rw[List.map_set]
   have:(ps.map (·.1)).set i (ps[i]'h).1=ps.map (·.1):=by
    have h2:(ps.map (·.1))[i]'(by simpa using h)=(ps[i]'h).1:=rH ..
    rw[<- h2,List.set_getElem_self]
   rw[this]
   exact nd
 | put nm x y hn hno hl tx ty=>
  refine ⟨fun p hp=>?_,?_,by simp;omega⟩
  ·rcases cV.mp hp with hp | hp
   ·exact ok p hp
   ·rw[cF.mp hp];exact ⟨hn,tx,ty⟩
  ·rw[fR,qX]
   refine ⟨nd,by simp,fun a ha b hb=>?_⟩
   simp only[aI,bG,cF] at hb
   intro q
   exact hno (by rw[<- hb,<- q];exact ha)
theorem X1{β:Type}[DecidableEq β]:∀ (l m:List β),l.Nodup->(∀ x∈l,x∈m)->l.length<=m.length
 | [],m,_,_=>iT _
 | a::l,m,nd,h=>by
  rw[dZ] at nd
  have ham:=h a (by simp)
  have:=X1 l (m.erase a) nd.2 (fun x hx=>(List.mem_erase_of_ne (fun (e:x=a)=>nd.1 (by rw[<- e];exact hx))).mpr (h x (aQ _ hx)))
  rw[List.length_erase_of_mem ham] at this
  have:0 < m.length:=List.length_pos_of_mem ham
  simp only[aL]
  omega
theorem Aht(lp:pl.length=8)(ok:∀ x∈pl,Pn x)(nd:pl.Nodup){N:Nat}(h:ps.length < N):0 < ((cK N).filter fun k=>!decide (E9 pl k∈ps.map (·.1))).length:=by
 rcases Nat.eq_zero_or_pos ((cK N).filter fun k=>!decide (E9 pl k∈ps.map (·.1))).length with h0 | h0
 ·rw[List.length_eq_zero_iff,List.filter_eq_nil_iff] at h0
  have hn:((cK N).map (E9 pl)).Nodup:=mI (E9 pl) (fun i j hne h=>hne (Ac5 lp ok nd h)) rG
  have:=X1 _ (ps.map (·.1)) hn (fun x hx=>by
   obtain ⟨k,hk,rfl⟩:=dI.mp hx
   have:=h0 k hk
   simpa using this)
  simp only[aU,qY] at this
  omega
 ·exact h0
theorem Ai0(l:List U)(k:Nat):Wi l (some (k:Int)) none=l.drop k:=by
 unfold Wi
 rw[HT.Ab6,HT.Agb]
 by_cases h:k<=l.length
 ·rw[nZ h]
  exact eC (by simp)
 ·rw[nA (by omega),nT (by omega),nT (by omega)]
  simp
theorem Aop(hi:Ae i δ L=some (.ref n,L))(hj:Ae j δ L=some (.int (k:Int),L))(h:L[n]? = some (.lst l)):(fSl Cz (Ae i) Bq (Cw (Ae j))) δ L=some (.ref L.length,L++[.lst (l.take k)]):=by
 rw[Rp,hi]
 simp only[aC,fNoPart_eq,fPart_eq,hj]
 show iX _ (Aw L n)=_
 rw[Ao h,aG,cutU_take]
theorem Aqk(hi:Ae i δ L=some (.ref n,L))(hj:fe δ L=some (.int (k:Int),L))(h:L[n]? = some (.lst l)):(fSl Cz (Ae i) (Cw fe) Bq) δ L=some (.ref L.length,L++[.lst (l.drop k)]):=by
 rw[Rp,hi]
 simp only[aC,fNoPart_eq,fPart_eq,hj]
 show iX _ (Aw L n)=_
 rw[Ao h,aG,Ai0]
theorem Y9{a b:Nat}{xs ys:List U}(h1:L[a]? = some (.lst xs))(h2:L[b]? = some (.lst ys))(hs:xs.length+ys.length<=1000):A9 (.ref a) (.ref b) L=some (.ref L.length,L++[.lst (xs++ys)]):=by
 unfold A9
 simp only[F7 h1,F7 h2,aC]
 rw[if_pos (small_of (by omega))]
inductive NewL(v:Option (U×UH))(L:UH)(us:List U):Prop
 | mk (r:Nat) (L':UH) (e:v=some (.ref r,L')) (h:L'[r]? = some (.lst us)) (g:Gw L L') (l:L.length<=r)
theorem NewL.add{ws:List U}(ha:NewL (fa δ L) L us)(hb:∀ M,Gw L M->NewL (fb δ M) M ws)(hs:us.length+ws.length<=1000):NewL ((f2 A9 fa fb) δ L) L (us++ws):=by
 obtain ⟨r,L1,e1,h1,g1,l1⟩:=ha
 obtain ⟨r2,L2,e2,h2,g2,l2⟩:=hb L1 g1
 exact ⟨L2.length,L2++[.lst (us++ws)],Bg e1 e2 (Y9 (g2.get h1) h2 hs),by simp,(g1.trans g2).trans (Gw.new _ _),(g1.trans g2).le⟩
theorem NewL.one(h:fe δ L=some (v,L1))(g:Gw L L1):NewL (B1 (Ad fe Ag) δ L) L [v]:=
 ⟨L1.length,L1++[.lst [v]],Aaq h,by simp,g.trans (Gw.new _ _),g.le⟩
theorem NewL.tk(hi:Ae i δ L=some (.ref n,L))(hj:Ae j δ L=some (.int (k:Int),L))(h:L[n]? = some (.lst l)):NewL ((fSl Cz (Ae i) Bq (Cw (Ae j))) δ L) L (l.take k):=
 ⟨L.length,_,Aop hi hj h,by simp,Gw.new _ _,aZ _⟩
theorem NewL.dr(hi:Ae i δ L=some (.ref n,L))(hj:fe δ L=some (.int (k:Int),L))(h:L[n]? = some (.lst l)):NewL ((fSl Cz (Ae i) (Cw fe) Bq) δ L) L (l.drop k):=
 ⟨L.length,_,Aqk hi hj h,by simp,Gw.new _ _,aZ _⟩
abbrev dE(d rp n t:Nat)(kd wy x y:Int)(e8 e9 e10 e11:Option U):UE:=[some (.ref d),some (.ref rp),some (.int kd),some (.ref n),some (.ref t),some (.int wy),some (.int x),some (.int y),e8,e9,e10,e11]
structure DS(M:UH)(d rp n t:Nat)(B:Int)(pl:List Str)(ps:List NP):Prop where
 D:Seed M d B
 hp:M[rp]? = some (.lst (pl.map U.str))
 hn:M[n]? = some (.lst (ps.map ptU))
 ht:M[t]? = some (.lst ((ps.map (·.1)).map U.str))
 rd:rp≠d
 nd:n≠d
 td:t≠d
theorem DS.ex(S:DS M d rp n t B pl ps)(D':Seed M' d B')(x:Ex d M M'):DS M' d rp n t B' pl ps:=⟨D',x.get S.hp S.rd,x.get S.hn S.nd,x.get S.ht S.td,S.rd,S.nd,S.td⟩
theorem DS.gw(S:DS M d rp n t B pl ps)(g:Gw M M'):DS M' d rp n t B pl ps:=S.ex (S.D.gw g) (g.ex d)
inductive DeedF(v:Option (Fl×UH))(L:UH)(d:Nat)(B:Int)(ps:List NP):Prop
 | mk (r n':Nat) (line:Str) (ps':List NP) (L':UH) (e:v=some (.rt (.ref r),L')) (hr:L'[r]? = some (.lst [.str line,.ref n'])) (hn:L'[n']? = some (.lst (ps'.map ptU))) (dd:Deed ps line ps') (D:Seed L' d B) (x:Ex d L L') (l:L.length<=n')
theorem DeedF.from{v:Option (Fl×UH)}(h:DeedF v M d B ps)(x:Ex d L M)(hb:B<=B'):DeedF v L d B' ps:=by
 obtain ⟨r,n',line,ps',L',e,hr,hn,dd,D,x',l⟩:=h
 exact ⟨r,n',line,ps',L',e,hr,hn,dd,D.mono hb,x.trans x',cB x.le l⟩
inductive AtR(v:Option (Fl×UH))(L:UH)(d rp n t:Nat)(B:Int)(pl:List Str)(ps:List NP)(f:Nat->UE):Prop
 | mk (b:Nat) (L':UH) (e:v=some (.nx (f b),L')) (hb:b < ps.length) (S:DS L' d rp n t B pl ps) (x:Ex d L L')
variable {wy:Int}{e8 e9 e10 e11:Option U}
theorem Agd{M:UH}{d rp n t:Nat}{B kd wy x y:Int}{pl:List Str}{ps:List NP}{e8 e9 e10 e11:Option U}(S:DS M d rp n t B pl ps)(hB:B<=1000000000)(h0:0 < ps.length)(hl:ps.length<=1000) :
  AtR ((Bo (Ar 2 An (Ad (Ae 0) (Ad (Be Az (Ad (Ae 3) Ag)) Ag))) (gN 8)) (dE d rp n t kd wy x y e8 e9 e10 e11) M) M d rp n t (B+1) pl ps (fun b=>dE d rp n t kd wy x y (some (.int b)) e9 e10 e11):=by
 have hlen:=Fg S.hn
 rw[aU] at hlen
 obtain ⟨a,L1,e1,a0,a1,D1,x1⟩:=Cv (many:=(ps.length:Nat)) S.D (by omega) (by omega) (by omega)
 obtain ⟨b,rfl⟩:∃ b:Nat,a=(b:Int):=⟨a.toNat,by omega⟩
 exact ⟨b,L1,Ek (i:=8) (δ:=dE d rp n t kd wy x y e8 e9 e10 e11) (Eu (fa:=Ae 0) rfl (Jh (fa:=Ae 3) rfl hlen) e1),by omega,S.ex D1 x1,x1⟩
theorem Aa5{b:Nat}(ht:M[t]? = some (.lst ((ps.map (·.1)).map U.str)))(hb:b < ps.length)(hi:Ae i δ M=some (.ref t,M))(hj:Ae j δ M=some (.int (b:Int),M)):(f2 Al (Ae i) (Ae j)) δ M=some (.str (ps[b]'hb).1,M):=by
 refine Bg hi hj (G4 ht (K9 ?_))
 rw[bJ,bJ,aX hb]
 rfl
theorem Atj{b:Nat}(hj:Ae j δ M=some (.int (b:Int),M)):(f2 A9 (Ae j) (fC (.int 1))) δ M=some (.int ((b+1:Nat):Int),M):=by
 refine Bg hj rfl ?_
 rw[G6]
 push_cast
 rfl
theorem At3(h:Nm w):w.length<=8:=h.2.1
theorem Aig{M:UH}{d rp n t:Nat}{B kd wy x y:Int}{pl:List Str}{ps:List NP}{e8 e9 e10 e11:Option U}(S:DS M d rp n t B pl ps)(hB:B<=1000000000)(ok:OkP ps)(h0:0 < ps.length)(hl:ps.length<=60) :
  DeedF ((Bc (Bo (Ar 2 An (Ad (Ae 0) (Ad (Be Az (Ad (Ae 3) Ag)) Ag))) (gN 8)) (B7 (B1 (Ad (f2 A9 (fC (.str "take ")) (f2 Al (Ae 4) (Ae 8))) (Ad (f2 A9 (fSl Cz (Ae 3) Bq (Cw (Ae 8))) (fSl Cz (Ae 3) (Cw (f2 A9 (Ae 8) (fC (.int 1)))) Bq)) Ag))))) (dE d rp n t kd wy x y e8 e9 e10 e11) M) M d (B+1) ps:=by
 obtain ⟨b,M1,e1,hb,S1,x1⟩:=Agd (kd:=kd) (wy:=wy) (x:=x) (y:=y) (e8:=e8) (e9:=e9) (e10:=e10) (e11:=e11) S hB h0 (by omega)
 have hnm:=ok _ (bY hb)
 have ec:=K6 "take " (ps[b]'hb).1 (by have:=At3 hnm.1;have h4:=Avf;omega) M1
 have et:=Aa5 (i:=4) (j:=8) (δ:=dE d rp n t kd wy x y (some (.int b)) e9 e10 e11) S1.ht hb rfl rfl
 obtain ⟨r,M2,e2,h2,g2,l2⟩:=NewL.add (fa:=fSl Cz (Ae 3) Bq (Cw (Ae 8))) (fb:=fSl Cz (Ae 3) (Cw (f2 A9 (Ae 8) (fC (.int 1)))) Bq) (δ:=dE d rp n t kd wy x y (some (.int b)) e9 e10 e11) (NewL.tk rfl rfl S1.hn) (fun M g=>NewL.dr rfl (Atj rfl) (g.get S1.hn)) (by simp;omega)
 have hm:(ps.map ptU).take b++(ps.map ptU).drop (b+1)=(ps.take b++ps.drop (b+1)).map ptU:=by simp
 rw[hm] at h2
 refine ⟨M2.length,r,_,_,M2++[.lst [.str ("take " ++ (ps[b]'hb).1),.ref r]],?_,by simp,(Gw.new M2 _).get h2,.take b hb,(S1.D.gw g2).new _,(x1.trans (g2.ex d)).trans (Ex.new d _ _),cB x1.le l2⟩
 rw[Bp e1]
 exact Ce (Ac1 (Bg rfl et ec) e2)
inductive RowO(v:Option (U×UH))(L:UH)(w:Str):Prop
 | mk (L':UH) (e:v=some (.str w,L')) (g:Gw L L')
theorem Af4{p:NP}(hi:Ae i δ M=some (ptU p,M))(ok:Nm p.1/\Ten p.2.1/\Ten p.2.2):RowO ((f2 Al (Ar 1 Dx (Ad (B1 (Ad (Ae i) Ag)) Ag)) (fC (.int 0))) δ M) M (Ho p.1 p.2.1 p.2.2):=by
 have h1:(M++[HU.lst [ptU p]])[M.length]? = some (.lst ([p].map ptU)):=by simp
 obtain ⟨r,L',e,h,g,l⟩:=Kr h1 (fun q hq=>by rw[cF.mp hq];exact ok) (by simp)
 exact ⟨L',Bg (Af6 (Aaq hi) e) rfl (G4 h (by exact K9 (k:=0) rfl)),(Gw.new _ _).trans g⟩
theorem Aio{M:UH}{d rp n t:Nat}{B kd wy x y:Int}{pl:List Str}{ps:List NP}{e8 e9 e10 e11:Option U}(S:DS M d rp n t B pl ps)(hB:B<=1000000000)(ok:OkP ps)(h0:0 < ps.length)(hl:ps.length<=60)(tx:Ten x)(ty:Ten y) :
  DeedF ((Bc (Bo (Ar 2 An (Ad (Ae 0) (Ad (Be Az (Ad (Ae 3) Ag)) Ag))) (gN 8)) (Bc (Bo (Di (Ad (f2 Al (Ae 4) (Ae 8)) (Ad (Ae 6) (Ad (Ae 7) Ag)))) (gN 9)) (B7 (B1 (Ad (f2 A9 (fC (.str "move ")) (f2 Al (Ar 1 Dx (Ad (B1 (Ad (Ae 9) Ag)) Ag)) (fC (.int 0)))) (Ad (f2 A9 (f2 A9 (fSl Cz (Ae 3) Bq (Cw (Ae 8))) (B1 (Ad (Ae 9) Ag))) (fSl Cz (Ae 3) (Cw (f2 A9 (Ae 8) (fC (.int 1)))) Bq)) Ag)))))) (dE d rp n t kd wy x y e8 e9 e10 e11) M) M d (B+1) ps:=by
 obtain ⟨b,M1,e1,hb,S1,x1⟩:=Agd (kd:=kd) (wy:=wy) (x:=x) (y:=y) (e8:=e8) (e9:=e9) (e10:=e10) (e11:=e11) S hB h0 (by omega)
 have hnm:=ok _ (bY hb)
 have et:=Aa5 (i:=4) (j:=8) (δ:=dE d rp n t kd wy x y (some (.int b)) e9 e10 e11) S1.ht hb rfl rfl
 have s2:=Ek (i:=9) (δ:=dE d rp n t kd wy x y (some (.int b)) e9 e10 e11) (Alb (fb:=Ae 6) (fc:=Ae 7) et rfl rfl)
 have s2':(Bo (Di (Ad (f2 Al (Ae 4) (Ae 8)) (Ad (Ae 6) (Ad (Ae 7) Ag)))) (gN 9)) (dE d rp n t kd wy x y (some (.int b)) e9 e10 e11) M1=some (.nx (dE d rp n t kd wy x y (some (.int b)) (some (ptU ((ps[b]'hb).1,(x,y)))) e10 e11),M1):=s2
 obtain ⟨M2,e2,g2⟩:=Af4 (M:=M1) (i:=9) (δ:=dE d rp n t kd wy x y (some (.int b)) (some (ptU ((ps[b]'hb).1,(x,y)))) e10 e11) (p:=((ps[b]'hb).1,(x,y))) rfl ⟨hnm.1,tx,ty⟩
 have ec:=K6 "move " (Ho (ps[b]'hb).1 x y) (by have:=U6 hnm.1 tx ty;have h4:=Ave;omega) M2
 have S2:=S1.gw g2
 obtain ⟨r,M3,e3,h3,g3,l3⟩:=NewL.add (fa:=f2 A9 (fSl Cz (Ae 3) Bq (Cw (Ae 8))) (B1 (Ad (Ae 9) Ag))) (fb:=fSl Cz (Ae 3) (Cw (f2 A9 (Ae 8) (fC (.int 1)))) Bq) (δ:=dE d rp n t kd wy x y (some (.int b)) (some (ptU ((ps[b]'hb).1,(x,y)))) e10 e11) (NewL.add (us:=(ps.map ptU).take b) (ws:=[ptU ((ps[b]'hb).1,(x,y))]) (NewL.tk rfl rfl S2.hn) (fun M g=>NewL.one rfl (Gw.refl M)) (by simp;omega)) (fun M g=>NewL.dr (k:=b+1) rfl (Atj rfl) (g.get S2.hn)) (by simp;omega)
 have hm:(ps.map ptU).take b++[ptU ((ps[b]'hb).1,(x,y))]++(ps.map ptU).drop (b+1)=(ps.take b++[((ps[b]'hb).1,(x,y))]++ps.drop (b+1)).map ptU:=by simp
 rw[hm] at h3
 have g23:=g2.trans g3
 refine ⟨M3.length,r,_,_,M3++[.lst [.str ("move " ++ Ho (ps[b]'hb).1 x y),.ref r]],?_,by simp,(Gw.new M3 _).get h3,.move b hb x y tx ty,(S1.D.gw g23).new _,(x1.trans (g23.ex d)).trans (Ex.new d _ _),cB (x1.trans (g2.ex d)).le l3⟩
 rw[Bp e1,Bp s2']
 exact Ce (Ac1 (Bg rfl e2 ec) e3)
inductive SpR(v:Option (U×UH))(L:UH)(pl:List Str)(ps:List NP):Prop
 | mk (r:Nat) (L':UH) (ks:List Nat) (e:v=some (.ref r,L')) (h:L'[r]? = some (.lst (ks.map fun k=>U.str (E9 pl k)))) (hk:∀ k∈ks,k < 64/\E9 pl k∉ps.map (·.1)) (hp:0 < ks.length) (hl:ks.length<=60) (g:Gw L L')
theorem Aeq{M:UH}{d rp n t:Nat}{B kd wy x y:Int}{pl:List Str}{ps:List NP}{e8 e9 e10 e11:Option U}(S:DS M d rp n t B pl ps)(lp:pl.length=8)(okl:∀ x∈pl,Pn x)(ndl:pl.Nodup)(hl:ps.length < 60) :
  SpR ((B5 [none,some 1,some 4] (Er (Ad (Be K1 (Ad (fC (.int 60)) (Ad (f2 A9 (Be Az (Ad (Ae 3) Ag)) (fC (.int 9))) Ag))) Ag)) (gN 0) (some Hm) Hl) (dE d rp n t kd wy x y e8 e9 e10 e11) M) M pl ps:=by
 have hlen:=Fg S.hn
 rw[aU] at hlen
 have hmin:∃ N:Nat,K1 [.int 60,.int ((ps.length:Int)+9)] M=some (.int (N:Int),M)/\ps.length < N/\N<=60:=by
  have e:K1 [.int 60,.int ((ps.length:Int)+9)] M=some (.int (if (ps.length:Int)+9 < 60 then (ps.length:Int)+9 else 60),M):=rfl
  by_cases h:(ps.length:Int)+9 < 60
  ·rw[if_pos h] at e
   exact ⟨ps.length+9,by rw[e];push_cast;rfl,by omega,by omega⟩
  ·rw[if_neg h] at e
   exact ⟨60,e,by omega,by omega⟩
 obtain ⟨N,eN,N1,N2⟩:=hmin
 have ea:(Ad (fC (.int 60)) (Ad (f2 A9 (Be Az (Ad (Ae 3) Ag)) (fC (.int 9))) Ag)) (dE d rp n t kd wy x y e8 e9 e10 e11) M=some ([.int 60,.int ((ps.length:Int)+9)],M):=Bv rfl (Bv (Bg (Jh (fa:=Ae 3) rfl hlen) rfl (G6 _ _ _)) rfl)
 have hi:Er (Ad (Be K1 (Ad (fC (.int 60)) (Ad (f2 A9 (Be Az (Ad (Ae 3) Ag)) (fC (.int 9))) Ag))) Ag) (dE d rp n t kd wy x y e8 e9 e10 e11) M=some (.seq (C4 0 N),M):=by
  refine Qx (Bv ?_ rfl) (by omega)
  rw[fCall_eq,ea]
  exact eN
 have hr0:C4 0 N=(cK N).map fun (k:Nat)=>U.int (k:Int):=by unfold C4;simp
 rw[hr0] at hi
 have hnm:∀ (k:Nat) (M':UH),k < N->M'[rp]? = some (.lst (pl.map U.str))->(Ar 2 Gj (Ad (Ae 1) (Ad (Ae 0) Ag))) [some (.int (k:Int)),some (.ref rp),some (.ref t)] M'=some (.str (E9 pl k),M'):=fun k M' hk h=>Eu rfl rfl (Afu h lp (by omega))
 obtain ⟨z,ec⟩:=B6 (ix:=[none,some 1,some 4]) (fi:=Er (Ad (Be K1 (Ad (fC (.int 60)) (Ad (f2 A9 (Be Az (Ad (Ae 3) Ag)) (fC (.int 9))) Ag))) Ag)) (g:=gN 0) (tt:=some Hm) (fe:=Hl) (δ:=dE d rp n t kd wy x y e8 e9 e10 e11) (L:=M) (L0:=M) (it:=.seq ((cK N).map fun (k:Nat)=>U.int (k:Int))) (cK N) (fun (k:Nat)=>U.int (k:Int)) (fun k=>!decide (E9 pl k∈ps.map (·.1))) (fun k=>U.str (E9 pl k)) (fun δ=>∃ z,δ = [z,some (.ref rp),some (.ref t)]) hi (by simp[IU.size]) (by simp;omega) ⟨none,rfl⟩
  (fun k x=>rfl)
  (fun k δ x hk hδ=>by
   obtain ⟨z,rfl⟩:=hδ
   have hk':=eR.mp hk
   have h1:=hnm k (M++x) hk' ((Gw.new M x).get S.hp)
   refine ⟨[some (.int (k:Int)),some (.ref rp),some (.ref t)],rfl,⟨_,rfl⟩,[],?_,fun _=>⟨[],?_⟩⟩
   ·rw[aV]
    exact Cg (Bg h1 rfl (Agx _ ((Gw.new M x).get S.ht)))
   ·rw[aV,aV]
    exact h1)
 have hpos:=Aht (ps:=ps) lp okl ndl N1
 refine ⟨(M++z).length,_,(cK N).filter fun k=>!decide (E9 pl k∈ps.map (·.1)),ec,by simp,fun k hk=>?_,hpos,?_,⟨z++[_],by rw[bH]⟩⟩
 ·obtain ⟨h1,h2⟩:=iG.mp hk
  have:=eR.mp h1
  refine ⟨by omega,?_⟩
  simpa using h2
 ·have:=fD (fun k=>!decide (E9 pl k∈ps.map (·.1))) (cK N)
  rw[qY] at this
  omega
theorem Adg(S:DS M d rp n t B pl ps)(hB:B<=1000000000)(lp:pl.length=8)(okl:∀ x∈pl,Pn x)(ndl:pl.Nodup)(hl:ps.length < 60)(tx:Ten x)(ty:Ten y) :
  DeedF ((Bc (Bo (B5 [none,some 1,some 4] (Er (Ad (Be K1 (Ad (fC (.int 60)) (Ad (f2 A9 (Be Az (Ad (Ae 3) Ag)) (fC (.int 9))) Ag))) Ag)) (gN 0) (some Hm) Hl) (gN 10)) (Bc (Bo (Di (Ad (f2 Al (Ae 10) (Ar 2 An (Ad (Ae 0) (Ad (Be Az (Ad (Ae 10) Ag)) Ag)))) (Ad (Ae 6) (Ad (Ae 7) Ag)))) (gN 11)) (B7 (B1 (Ad (f2 A9 (fC (.str "put ")) (f2 Al (Ar 1 Dx (Ad (B1 (Ad (Ae 11) Ag)) Ag)) (fC (.int 0)))) (Ad (f2 A9 (Ae 3) (B1 (Ad (Ae 11) Ag))) Ag)))))) (dE d rp n t kd wy x y e8 e9 e10 e11) M) M d (B+1) ps:=by
 obtain ⟨r,M1,ks,e1,h1,hk,hp,hkl,g1⟩:=Aeq (kd:=kd) (wy:=wy) (x:=x) (y:=y) (e8:=e8) (e9:=e9) (e10:=e10) (e11:=e11) S lp okl ndl hl
 have S1:=S.gw g1
 have s1:(Bo (B5 [none,some 1,some 4] (Er (Ad (Be K1 (Ad (fC (.int 60)) (Ad (f2 A9 (Be Az (Ad (Ae 3) Ag)) (fC (.int 9))) Ag))) Ag)) (gN 0) (some Hm) Hl) (gN 10)) (dE d rp n t kd wy x y e8 e9 e10 e11) M=some (.nx (dE d rp n t kd wy x y e8 e9 (some (.ref r)) e11),M1):=Ek (i:=10) (δ:=dE d rp n t kd wy x y e8 e9 e10 e11) e1
 have hrd:r≠d:=fun q=>by
  obtain ⟨a,b,c,e,hd,_⟩:=S1.D.ex
  rw[q,hd] at h1
  cases ks with
  | nil=>simp at hp
  | cons k ks=>cases h1
 have hlen:=Fg h1
 rw[aU] at hlen
 obtain ⟨a,M2,e2,a0,a1,D2,x2⟩:=Cv (many:=(ks.length:Nat)) S1.D (by omega) (by omega) (by omega)
 obtain ⟨b,rfl⟩:∃ b:Nat,a=(b:Int):=⟨a.toNat,by omega⟩
 have hb:b < ks.length:=by omega
 have S2:=S1.ex D2 x2
 have h2:=x2.get h1 hrd
 obtain ⟨k64,hno⟩:=hk _ (bY hb)
 have hnm:=Agr lp okl k64
 generalize hnn:E9 pl (ks[b]'hb)=nm at hno hnm
 have en:(f2 Al (Ae 10) (Ar 2 An (Ad (Ae 0) (Ad (Be Az (Ad (Ae 10) Ag)) Ag)))) (dE d rp n t kd wy x y e8 e9 (some (.ref r)) e11) M1=some (.str nm,M2):=by
  refine Bg (u:=.ref r) (L1:=M1) rfl (Eu (fa:=Ae 0) rfl (Jh (fa:=Ae 10) rfl hlen) e2) (G4 h2 (K9 ?_))
  rw[bJ,aX hb]
  rw[<- hnn];rfl
 have s2:(Bo (Di (Ad (f2 Al (Ae 10) (Ar 2 An (Ad (Ae 0) (Ad (Be Az (Ad (Ae 10) Ag)) Ag)))) (Ad (Ae 6) (Ad (Ae 7) Ag)))) (gN 11)) (dE d rp n t kd wy x y e8 e9 (some (.ref r)) e11) M1=some (.nx (dE d rp n t kd wy x y e8 e9 (some (.ref r)) (some (ptU (nm,(x,y))))),M2):=by
  refine Ek (i:=11) (δ:=dE d rp n t kd wy x y e8 e9 (some (.ref r)) e11) (v:=ptU (nm,(x,y))) ?_
  rw[Ny,Bv en (Bv (fe:=Ae 6) (u:=.int x) (L1:=M2) rfl (Bv (fe:=Ae 7) (u:=.int y) (L1:=M2) rfl rfl))]
  rfl
 obtain ⟨M3,e3,g3⟩:=Af4 (M:=M2) (i:=11) (δ:=dE d rp n t kd wy x y e8 e9 (some (.ref r)) (some (ptU (nm,(x,y))))) (p:=(nm,(x,y))) rfl ⟨hnm,tx,ty⟩
 have ec:=K6 "put " (Ho nm x y) (by have:=U6 hnm tx ty;have h4:=Asg;omega) M3
 have S3:=S2.gw g3
 have h4:(M3++[HU.lst [ptU (nm,(x,y))]])[n]? = some (.lst (ps.map ptU)):=(Gw.new M3 _).get S3.hn
 have ea:=Y9 h4 (b:=M3.length) (ys:=[ptU (nm,(x,y))]) (by simp) (by simp;omega)
 have hm:ps.map ptU++[ptU (nm,(x,y))]=(ps++[(nm,(x,y))]).map ptU:=by simp
 rw[hm] at ea
 have e4:=Bg (fa:=Ae 3) (δ:=dE d rp n t kd wy x y e8 e9 (some (.ref r)) (some (ptU (nm,(x,y))))) (L:=M3) (L1:=M3) rfl (Aaq (fe:=Ae 11) rfl) ea
 have g34:Gw M2 (M3++[.lst [ptU (nm,(x,y))]]++[.lst ((ps++[(nm,(x,y))]).map ptU)]):=(g3.trans (Gw.new _ _)).trans (Gw.new _ _)
 have hM5:(M3++[.lst [ptU (nm,(x,y))]]++[.lst ((ps++[(nm,(x,y))]).map ptU)])[(M3++[HU.lst [ptU (nm,(x,y))]]).length]? = some (.lst ((ps++[(nm,(x,y))]).map ptU)):=by simp
 have l5:M.length<=(M3++[HU.lst [ptU (nm,(x,y))]]).length:=by
  have q1:=g1.le
  have q2:=x2.le
  have q3:=g3.le
  simp only[cM,aL,aR]
  omega
 generalize M3++[.lst [ptU (nm,(x,y))]]++[.lst ((ps++[(nm,(x,y))]).map ptU)]=M5 at e4 g34 hM5
 generalize (M3++[HU.lst [ptU (nm,(x,y))]]).length=r5 at e4 hM5 l5
 refine ⟨M5.length,r5,_,_,M5++[.lst [.str ("put " ++ Ho nm x y),.ref r5]],?_,by simp,(Gw.new M5 _).get hM5,.put nm x y hnm hno hl tx ty,(D2.gw g34).new _,(((g1.ex d).trans x2).trans (g34.ex d)).trans (Ex.new d _ _),l5⟩
 rw[Bp s1,Bp s2]
 exact Ce (Ac1 (Bg rfl e3 ec) e4)
inductive DeedR(v:Option (U×UH))(L:UH)(d:Nat)(B:Int)(ps:List NP):Prop
 | mk (r n':Nat) (line:Str) (ps':List NP) (L':UH) (e:v=some (.ref r,L')) (hr:L'[r]? = some (.lst [.str line,.ref n'])) (hn:L'[n']? = some (.lst (ps'.map ptU))) (dd:Deed ps line ps') (D:Seed L' d B) (x:Ex d L L') (l:L.length<=n')
theorem Ap8{β:Type}{l:List β}(h:0 < l.length):L2.atI l (-1)=l[l.length - 1]?:=by
 unfold L2.atI ixN
 rw[if_neg (by decide),if_pos (by omega)]
 simp only[aC]
 congr 1
 omega
theorem Ad2(hi:Ae i δ L=some (.ref n,L))(hin:Jm [none] δ = [none])(h:L[n]? = some (.lst (ps.map ptU)))(hl:ps.length<=1000)(hfe:fe=f2 Al (Ae 0) (fC (.int 0))):NewL ((B5 [none] (Bu (Ae i)) (gN 0) none fe) δ L) L ((ps.map (·.1)).map U.str):=by
 subst hfe
 have hsq:=Ao h
 obtain ⟨x,ec⟩:=B6 (ix:=[none]) (fi:=Bu (Ae i)) (g:=gN 0) (tt:=none) (fe:=f2 Al (Ae 0) (fC (.int 0))) (δ:=δ) (L:=L) (L0:=L) (it:=.ref n) ps ptU (fun _=>true) (fun p=>U.str p.1) (fun δ=>∃ a,δ = [a])
  (by rw[En,hi];simp only[aC,C1 hsq,aG]) (by rw[F9 hsq];simp) (by omega) ⟨none,hin⟩ (fun k x=>Ll (Dg hsq))
  (fun p δ x hp hδ=>by
   obtain ⟨a,rfl⟩:=hδ
   exact ⟨[some (ptU p)],rfl,⟨_,rfl⟩,[],by simp[E4],fun _=>⟨[],by rw[aV,aV];rfl⟩⟩)
 rw[cP.mpr (fun _ _=>rfl)] at ec
 exact ⟨(L++x).length,_,ec,by simp,⟨x++[_],by rw[bH]⟩,by simp⟩
inductive XyR(v:Option (Fl×UH))(M:UH)(d rp n t:Nat)(B kd wy:Int)(pl:List Str)(ps:List NP):Prop
 | mk (x y:Int) (M':UH) (e:v=some (.nx (dE d rp n t kd wy x y none none none none),M')) (tx:Ten x) (ty:Ten y) (S:DS M' d rp n t B pl ps) (z:Ex d M M')
theorem An7{M:UH}{d rp n t:Nat}{B kd wy x y:Int}{pl:List Str}{ps:List NP}(S:DS M d rp n t B pl ps)(hB:B<=1000000000)(ok:OkP ps)(tx:Ten x)(ty:Ten y) :
  XyR ((C5 (Mg (A0 (f2 Cr (Ae 3) (B1 Ag))) (A0 (f2 B3 (Ar 2 An (Ad (Ae 0) (Ad (fC (.int 4)) Ag))) (fC (.int 0))))) (Bc (Bo (f2 Al (f2 Al (Ae 3) (fC (.int 0))) (fC (.int 1))) (gN 6)) (Bo (f2 Al (f2 Al (Ae 3) (Ug (fC (.int 1)))) (fC (.int 2))) (gN 7))) B9) (dE d rp n t kd wy x y none none none none) M) M d rp n t (B+1) kd wy pl ps:=by
 have t1:=Rw (i:=3) (δ:=dE d rp n t kd wy x y none none none none) (fun _=>rfl) S.hn ok
 have S1:=S.gw (Gw.new M [HU.lst []])
 have z1:=Ex.new d M [HU.lst []]
 generalize M++[HU.lst []]=M1 at t1 S1 z1
 cases hps:ps with
 | nil=>
  rw[hps] at t1
  rw[C0 (W4 t1)]
  exact ⟨x,y,M1,rfl,tx,ty,by rw[<- hps];exact S1.ex (S1.D.mono (by omega)) (Ex.refl d M1),z1⟩
 | cons p0 ps0=>
  rw[<- hps]
  have hpos:0 < ps.length:=by rw[hps];simp
  have hne:(!ps.isEmpty)=true:=by rw[hps];rfl
  rw[hne] at t1
  obtain ⟨a,M2,e2,a0,a1,D2,z2⟩:=Cv (many:=4) S1.D (by omega) (by decide) (by decide)
  have t2:(A0 (f2 B3 (Ar 2 An (Ad (Ae 0) (Ad (fC (.int 4)) Ag))) (fC (.int 0)))) (dE d rp n t kd wy x y none none none none) M1=some (a == 0,M2):=Cg (Bg (Eu (fa:=Ae 0) rfl rfl e2) rfl (Ky _ _ _))
  have S2:=S1.ex D2 z2
  by_cases ha:a=0
  ·have hb:(a == 0)=true:=by simp[ha]
   rw[hb] at t2
   have i0:L2.atI (ps.map ptU) ((0:Nat):Int)=some (ptU (ps[0]'hpos)):=K9 (by rw[bJ,aX hpos];rfl)
   have hlt:ps.length - 1 < ps.length:=by omega
   have i1:L2.atI (ps.map ptU) (-1)=some (ptU (ps[ps.length - 1]'hlt)):=by
    rw[Ap8 (by simpa using hpos),aU,bJ,aX hlt];rfl
   have s1:=Ek (i:=6) (Bg (fb:=fC (.int 1)) (Bg (fa:=Ae 3) (fb:=fC (.int 0)) (δ:=dE d rp n t kd wy x y none none none none) (L1:=M2) rfl rfl (G4 S2.hn i0)) rfl (ix1 _ M2))
   have s2:=Ek (i:=7) (Bg (fb:=fC (.int 2)) (Bg (fa:=Ae 3) (fb:=Ug (fC (.int 1))) (δ:=dE d rp n t kd wy (ps[0]'hpos).2.1 y none none none none) (L1:=M2) rfl rfl (G4 S2.hn i1)) rfl (ix2 _ M2))
   rw[Eo (L8 t1 t2),Bp s1]
   exact ⟨_,_,M2,s2,(ok _ (bY hpos)).2.1,(ok _ (bY hlt)).2.2,S2,z1.trans z2⟩
  ·have hb:(a == 0)=false:=by simp[ha]
   rw[hb] at t2
   rw[C0 (L8 t1 t2)]
   exact ⟨x,y,M2,rfl,tx,ty,S2,z1.trans z2⟩
theorem Aqj(D:Seed L d B)(hB:B<=100000)(hp:L[rp]? = some (.lst (pl.map U.str)))(hn:L[n]? = some (.lst (ps.map ptU)))(rd:rp≠d)(nd:n≠d)(lp:pl.length=8)(okl:∀ x∈pl,Pn x)(ndl:pl.Nodup)(ok:OkP ps)(hl:ps.length<=60)(kk:kd=0\/kd=1\/kd=2) :
  DeedR (Ub [.ref d,.ref rp,.int kd,.ref n] L) L d (B+20) ps:=by
 suffices h:DeedF (Ud [some (.ref d),some (.ref rp),some (.int kd),some (.ref n),none,none,none,none,none,none,none,none] L) L d (B+20) ps from by
  obtain ⟨r,n',line,ps',L',e,hr,hn,dd,D,x',l⟩:=h
  exact ⟨r,n',line,ps',L',fnN (n:=12) rfl e,hr,hn,dd,D,x',l⟩
 obtain ⟨t,L1,e1,h1,g1,l1⟩:=Ad2 (i:=3) (δ:=[some (.ref d),some (.ref rp),some (.int kd),some (.ref n),none,none,none,none,none,none,none,none]) rfl rfl hn (by omega) (fe:=R8) rfl
 have S1:DS L1 d rp n t B pl ps:=⟨D.gw g1,g1.get hp,g1.get hn,h1,rd,nd,by have:=D.lt;omega⟩
 obtain ⟨wy,L2,e2,w0,w1,D2,x2⟩:=Cv (many:=4) S1.D (by omega) (by decide) (by decide)
 have S2:=S1.ex D2 x2
 obtain ⟨x,L3,e3,tx,D3,x3⟩:=Jc S2.D (by omega) kk
 have S3:=S2.ex D3 x3
 obtain ⟨y,L4,e4,ty,D4,x4⟩:=Jc S3.D (by omega) kk
 have S4:=S3.ex D4 x4
 have xx:=(((g1.ex d).trans x2).trans x3).trans x4
 have s1:=Ek (i:=4) (δ:=[some (.ref d),some (.ref rp),some (.int kd),some (.ref n),none,none,none,none,none,none,none,none]) e1
 have s2:=Ek (i:=5) (δ:=[some (.ref d),some (.ref rp),some (.int kd),some (.ref n),some (.ref t),none,none,none,none,none,none,none]) (Eu (fa:=Ae 0) (fb:=fC (.int 4)) rfl rfl e2)
 have s3:=Ek (i:=6) (δ:=[some (.ref d),some (.ref rp),some (.int kd),some (.ref n),some (.ref t),some (.int wy),none,none,none,none,none,none]) (Eu (fa:=Ae 0) (fb:=Ae 2) rfl rfl e3)
 have s4:=Ek (i:=7) (δ:=[some (.ref d),some (.ref rp),some (.int kd),some (.ref n),some (.ref t),some (.int wy),some (.int x),none,none,none,none,none]) (Eu (fa:=Ae 0) (fb:=Ae 2) rfl rfl e4)
 obtain ⟨x',y',L5,e5,tx',ty',S5,x5⟩:=An7 (kd:=kd) (wy:=wy) S4 (by omega) ok tx ty
 have xa:=xx.trans x5
 unfold Ud
 rw[Bp s1]
 show DeedF (Bc _ _ [some (.ref d),some (.ref rp),some (.int kd),some (.ref n),some (.ref t),none,none,none,none,none,none,none] L1) _ _ _ _
 rw[Bp s2]
 show DeedF (Bc _ _ [some (.ref d),some (.ref rp),some (.int kd),some (.ref n),some (.ref t),some (.int wy),none,none,none,none,none,none] L2) _ _ _ _
 rw[Bp s3]
 show DeedF (Bc _ _ [some (.ref d),some (.ref rp),some (.int kd),some (.ref n),some (.ref t),some (.int wy),some (.int x),none,none,none,none,none] L3) _ _ _ _
 rw[Bp s4]
 show DeedF (Bc _ _ (dE d rp n t kd wy x y none none none none) L4) _ _ _ _
 rw[Bp e5]
 have t1:=Rw (i:=3) (δ:=dE d rp n t kd wy x' y' none none none none) (fun _=>rfl) S5.hn ok
 have S6:=S5.gw (Gw.new L5 [HU.lst []])
 have x6:=xa.trans (Ex.new d L5 [HU.lst []])
 generalize L5++[HU.lst []]=L6 at t1 S6 x6
 have tw:∀ (c:Int) (M:UH),(A0 (f2 B3 (Ae 5) (fC (.int c)))) (dE d rp n t kd wy x' y' none none none none) M=some (wy == c,M):=fun c M=>Cg (Bg (fa:=Ae 5) rfl rfl (Ky _ _ _))
 have hlen:=Fg S6.hn
 rw[aU] at hlen
 have tl:(A0 (f2 B3 (Be Az (Ad (Ae 3) Ag)) (fC (.int 60)))) (dE d rp n t kd wy x' y' none none none none) L6=some ((ps.length:Int) == 60,L6):=Cg (Bg (Jh (fa:=Ae 3) rfl hlen) rfl (Ky _ _ _))
 have tor:(fOr (A0 (f2 B3 (Ae 5) (fC (.int 0)))) (A0 (f2 B3 (Be Az (Ad (Ae 3) Ag)) (fC (.int 60))))) (dE d rp n t kd wy x' y' none none none none) L6=some (wy == 0 || (ps.length:Int) == 60,L6):=by
  rw[fOr_eq,tw 0 L6,aC]
  cases wy == 0 with
  | true=>rfl
  | false=>exact tl
 cases hps:ps with
 | nil=>
  rw[hps] at t1
  rw[Bp (C0 (W4 t1))]
  have t2:=Rw (i:=3) (δ:=dE d rp n t kd wy x' y' none none none none) (fun _=>rfl) S6.hn ok
  have S7:=S6.gw (Gw.new L6 [HU.lst []])
  have x7:=x6.trans (Ex.new d L6 [HU.lst []])
  generalize L6++[HU.lst []]=L7 at t2 S7 x7
  rw[hps] at t2
  rw[Bp (C0 (W4 t2)),<- hps]
  exact (Adg S7 (by omega) lp okl ndl (by rw[hps];simp) tx' ty').from x7 (by omega)
 | cons p0 ps0=>
  rw[<- hps]
  have hpos:0 < ps.length:=by rw[hps];simp
  have hne:(!ps.isEmpty)=true:=by rw[hps];rfl
  rw[hne] at t1
  cases hor:(wy == 0 || (ps.length:Int) == 60) with
  | true=>
   rw[hor] at tor
   have h:=(Aig (kd:=kd) (wy:=wy) (x:=x') (y:=y') (e8:=none) (e9:=none) (e10:=none) (e11:=none) S6 (by omega) ok hpos hl).from x6 (B':=B+20) (by omega)
   obtain ⟨r,n',line,ps',L',e,hr,hn,dd,D,z,l⟩:=h
   refine ⟨r,n',line,ps',L',H9 ?_,hr,hn,dd,D,z,l⟩
   rw[Eo (L8 t1 tor)]
   exact e
  | false=>
   rw[hor] at tor
   rw[Bp (C0 (L8 t1 tor))]
   have hl60:ps.length < 60:=by
    rw[Bool.or_eq_false_iff] at hor
    have:=hor.2
    simp at this
    omega
   have t2:=Rw (i:=3) (δ:=dE d rp n t kd wy x' y' none none none none) (fun _=>rfl) S6.hn ok
   have S7:=S6.gw (Gw.new L6 [HU.lst []])
   have x7:=x6.trans (Ex.new d L6 [HU.lst []])
   generalize L6++[HU.lst []]=L7 at t2 S7 x7
   rw[hne] at t2
   cases hw:wy == 1 with
   | true=>
    have h:=(Aio (kd:=kd) (wy:=wy) (e8:=none) (e9:=none) (e10:=none) (e11:=none) S7 (by omega) ok hpos hl tx' ty').from x7 (B':=B+20) (by omega)
    obtain ⟨r,n',line,ps',L',e,hr,hn,dd,D,z,l⟩:=h
    refine ⟨r,n',line,ps',L',H9 ?_,hr,hn,dd,D,z,l⟩
    rw[Eo (L8 t2 (by rw[tw 1 L7,hw]))]
    exact e
   | false=>
    rw[Bp (C0 (L8 t2 (by rw[tw 1 L7,hw])))]
    exact (Adg S7 (by omega) lp okl ndl hl60 tx' ty').from x7 (by omega)
def ind(b:Bool):Int:=if b then 1 else 0
theorem Ag0{β:Type}(f:β->Bool):∀ l:List β,((l.filter f).length:Int)=(l.map fun x=>ind (f x)).sum
 | []=>rfl
 | x::l=>by
  have ih:=Ag0 f l
  rw[eO,aI,gU,<- ih]
  cases h:f x <;> simp[ind] <;> omega
theorem Ac4{β:Type}(f g:β->Int):∀ l:List β,(l.map fun a=>f a+g a).sum=(l.map f).sum+(l.map g).sum
 | []=>rfl
 | a::l=>by simp only[aI,gU,Ac4 f g l];omega
theorem W9{β:Type}:∀ l:List β,(l.map fun _=>(0:Int)).sum=0
 | []=>rfl
 | a::l=>by simp only[aI,gU,W9 l];omega
theorem Yd{β γ:Type}(f:β->γ->Int)(m:List γ):∀ l:List β,(l.map fun i=>(m.map fun j=>f i j).sum).sum=(m.map fun j=>(l.map fun i=>f i j).sum).sum
 | []=>by simp only[bG,sZ,W9]
 | i::l=>by
  rw[aI,gU,Yd f m l,<- Ac4]
  rfl
theorem Aep(qs:List (Int×Int)):(qs.map fun q=>((qs.filter fun o=>Cf q o).length:Int)).sum=pairs qs:=by
 unfold pairs cnt
 simp only[Ag0]
 exact Yd (fun q o=>ind (Cf q o)) qs qs
theorem Adj(q:Int×Int):Pl 6 (prU q):=by
 unfold prU
 rw[Rb]
 intro u hu
 simp only[bL,cN,or_false] at hu
 rcases hu with rfl | rfl <;> exact Pl.int _ _
theorem Jd(a b:Int×Int)(L:UH):G8 [prU a,prU b] L=some (.bl (Cf a b),L):=by
 refine fnN (n:=2) rfl ?_
 show Rv [some (prU a),some (prU b)] L=_
 unfold Rv
 refine Ce ?_
 have h1:(f2 Cr (Ae 0) (Ae 1)) [some (prU a),some (prU b)] L=some (.bl (!eqB (prU a) (prU b)),L):=Bg rfl rfl (Abg L (Adj a) (Adj b))
 have h2:(f2 Em (f2 Al (Ae 0) (fC (.int 0))) (f2 Al (Ae 1) (fC (.int 0)))) [some (prU a),some (prU b)] L=some (.bl (decide (a.1<=b.1)),L):=rfl
 have h3:(f2 Em (f2 Al (Ae 0) (fC (.int 1))) (f2 Al (Ae 1) (fC (.int 1)))) [some (prU a),some (prU b)] L=some (.bl (decide (a.2<=b.2)),L):=rfl
 have he:eqB (prU a) (prU b)=(a.1 == b.1&&(a.2 == b.2&&true)):=by
  by_cases h:a=b
  ·subst h
   rw[Ana (Adj a)]
   simp
  ·have h4:eqB (prU a) (prU b)=false:=by
    cases hb:eqB (prU a) (prU b) with
    | false=>rfl
    | true=>
     have h5:=(Aav (Adj a) (Adj b)).mp hb
     unfold prU at h5
     simp only[U.tup.injEq,gJ,U.int.injEq,and_true] at h5
     exact absurd (qO h5.1 h5.2) h
   rw[h4]
   symm
   rw[Bool.eq_false_iff]
   intro h5
   simp only[cJ,beq_iff_eq,and_true] at h5
   exact h (qO h5.1 h5.2)
 rw[Js,h1]
 unfold Cf
 rw[he]
 generalize (a.1 == b.1&&(a.2 == b.2&&true))=e
 cases e with
 | true=>simp
 | false=>
  simp only[aC,sM,if_true]
  rw[Js,h2]
  by_cases h:a.1<=b.1
  ·simp only[aC,decide_eq_true h,if_true,h3,Bool.true_and,Bool.and_true]
  ·simp[h]
theorem Kz{ix:List (Option Nat)}{rest:UE}{tt:FT}{rel:NP->Bool}(hi:Ae i δ L=some (.ref n,L))(hin:Jm ix δ = none::rest)(h:L[n]? = some (.lst (m.map ptU)))(hl:m.length<=1000)(htt:∀ p M,tt (some (ptU p)::rest) M=some (rel p,M))(hfe:∀ δ M,fe δ M=some (.int 1,M)) :
  ∃ L',(Be Az (Ad (B5 ix (Bu (Ae i)) (gN 0) (some tt) fe) Ag)) δ L=some (.int ((m.filter rel).length:Nat),L')/\Gw L L':=by
 have hsq:=Ao h
 obtain ⟨x,ec⟩:=B6 (ix:=ix) (fi:=Bu (Ae i)) (g:=gN 0) (tt:=some tt) (fe:=fe) (δ:=δ) (L:=L) (L0:=L) (it:=.ref n) m ptU rel (fun _=>.int 1) (fun δ=>∃ z,δ = z::rest)
  (by rw[En,hi];simp only[aC,C1 hsq,aG]) (by rw[F9 hsq];simp) (by omega) ⟨none,hin⟩ (fun k x=>Ll (Dg hsq))
  (fun p δ x hp hδ=>by
   obtain ⟨a,rfl⟩:=hδ
   exact ⟨some (ptU p)::rest,rfl,⟨_,rfl⟩,[],by rw[aV];exact htt p _,fun _=>⟨[],by rw[hfe];simp⟩⟩)
 have hlen:=Fg (L:=L++x++[.lst ((m.filter rel).map fun _=>.int 1)]) (n:=(L++x).length) (l:=(m.filter rel).map fun _=>.int 1) (by simp)
 rw[aU] at hlen
 exact ⟨_,Jh ec hlen,⟨x++[_],by rw[bH]⟩⟩
theorem Aur(p:NP)(M:UH):Cz (ptU p) (some 1) none M=some (prU p.2,M):=rfl
theorem Xe{p:NP}(hi:Ae i δ M=some (ptU p,M)):(fSl Cz (Ae i) (Cw (fC (.int 1))) Bq) δ M=some (prU p.2,M):=by
 rw[Rp,hi]
 exact Aur p M
theorem tru_ok{b:Bool}(h:fe δ M=some (.bl b,M')):F8 fe δ M=some (b,M'):=by
 rw[fTru_eq,h];rfl
theorem Avh(m:List NP)(q:Int×Int):((m.filter fun p=>Cf p.2 q).length:Int)=bel m q:=by
 unfold bel cnt
 rw[oG,aU];rfl
theorem Amf(m:List NP)(q:Int×Int):((m.filter fun p=>Cf q p.2).length:Int)=abv m q:=by
 unfold abv Aap
 rw[oG,aU];rfl
theorem R9(h:L[n]? = some (.lst (m.map ptU)))(ok:OkP m)(hl:m.length<=1000):Ans (Hc [.ref n] L) L (Et m):=by
 have s1:(Bo (B1 Ag) (gN 1)) [some (.ref n),none,none,none,none,none,none] L=some (.nx [some (.ref n),some (.ref L.length),none,none,none,none,none],L++[.lst []]):=rfl
 have g0:=Gw.new L [HU.lst []]
 have hf0:(L++[HU.lst []])[L.length]? = some (.lst (((Et m).take 0).map U.str)):=by simp
 generalize L++[HU.lst []]=L0 at s1 g0 hf0
 have hn0:=g0.get h
 have hfn:L.length≠n:=by have:=(aK.mp h).1;omega
 generalize hff:L.length=f at s1 hf0 hfn
 have hi:(Bu (Ae 0)) [some (.ref n),some (.ref f),none,none,none,none,none] L0=some (.ref n,L0):=by
  rw[En]
  show (Ih (.ref n) L0).map _=_
  rw[C1 (Ao hn0)];rfl
 have hcl:(Et m).length=m.length:=by unfold Et;simp
 obtain ⟨δ',L1,e1,P⟩:=P6 (us:=m.map ptU) (n:=n) (body:=Li) (g:=(MR.gTup 3 (MR.gCons (gN 2) (MR.gCons (gN 3) (MR.gCons (gN 4) MR.gNil))))) (fun j δ' M=>(∃ y2 y3 y4 y5 y6,δ'=[some (.ref n),some (.ref f),y2,y3,y4,y5,y6])/\Gw L M/\M[n]? = some (.lst (m.map ptU))/\M[f]? = some (.lst (((Et m).take j).map U.str))) hi
  ⟨⟨_,_,_,_,_,rfl⟩,g0,hn0,hf0⟩ (fun k δ M hP=>Ao hP.2.2.1)
  (fun j u δ M hu hP=>by
   obtain ⟨⟨y2,y3,y4,y5,y6,rfl⟩,g,hn,hf⟩:=hP
   rw[bJ] at hu
   obtain ⟨p,hp,rfl⟩:=aH.mp hu
   obtain ⟨o1,o2,o3⟩:=ok p (dX hp)
   obtain ⟨M1,e1,g1⟩:=Kz (i:=0) (ix:=[none,some 3,some 4]) (δ:=[some (.ref n),some (.ref f),some (.str p.1),some (.int p.2.1),some (.int p.2.2),y5,y6]) (rest:=[some (.int p.2.1),some (.int p.2.2)]) (tt:=Oc) (fe:=Ou) (rel:=fun o=>Cf o.2 p.2) rfl rfl hn hl (fun o M=>tru_ok (Eu (Xe rfl) (Aci (u:=.int p.2.1) (v:=.int p.2.2) rfl rfl) (Jd o.2 p.2 M))) (fun _ _=>rfl)
   rw[Avh] at e1
   obtain ⟨M2,e2,g2⟩:=Kz (i:=0) (ix:=[none,some 3,some 4]) (δ:=[some (.ref n),some (.ref f),some (.str p.1),some (.int p.2.1),some (.int p.2.2),some (.int (bel m p.2)),y6]) (rest:=[some (.int p.2.1),some (.int p.2.2)]) (tt:=Oz) (fe:=Ow) (rel:=fun o=>Cf p.2 o.2) rfl rfl (g1.get hn) hl (fun o M=>tru_ok (Eu (Aci (u:=.int p.2.1) (v:=.int p.2.2) rfl rfl) (Xe rfl) (Jd p.2 o.2 M))) (fun _ _=>rfl)
   rw[Amf] at e2
   have s1:=Ek (i:=5) e1
   have s2:=Ek (i:=6) e2
   have g12:=g1.trans g2
   have hf2:=g12.get hf
   have s3:=Qo (i:=1) (n:=f) (δ:=[some (.ref n),some (.ref f),some (.str p.1),some (.int p.2.1),some (.int p.2.2),some (.int (bel m p.2)),some (.int (abv m p.2))]) (fe:=(f2 A9 (Ae 2) (Eb [(fC (.str " ")),(Ea (Ae 5)),(fC (.str " ")),(Ea (Ae 6))]))) (L:=M2) rfl (Aby o1 (Afs hl p.2) (Age hl p.2) rfl rfl rfl) (Nv hf2) hf2 (by simp;omega)
   have hc:(Et m)[j]? = some (Ho p.1 (bel m p.2) (abv m p.2)):=by unfold Et;rw[bJ,hp];rfl
   have hm:((Et m).take j).map U.str++[U.str (Ho p.1 (bel m p.2) (abv m p.2))]=((Et m).take (j+1)).map U.str:=by rw[pB,hc];simp
   rw[hm] at s3
   refine ⟨[some (.ref n),some (.ref f),some (.str p.1),some (.int p.2.1),some (.int p.2.2),y5,y6],M,rfl,[some (.ref n),some (.ref f),some (.str p.1),some (.int p.2.1),some (.int p.2.2),some (.int (bel m p.2)),some (.int (abv m p.2))],_,.inl ?_,⟨_,_,_,_,_,rfl⟩,(g.trans g12).set (by omega) _,by rw[bW hfn];exact g12.get hn,bU (aK.mp hf2).1⟩
   unfold Li
   rw[Bp s1]
   show Bc _ _ [some (.ref n),some (.ref f),some (.str p.1),some (.int p.2.1),some (.int p.2.2),some (.int (bel m p.2)),y6] M1=_
   rw[Bp s2]
   exact s3)
 obtain ⟨⟨y2,y3,y4,y5,y6,rfl⟩,g,hn,hf⟩:=P
 rw[aU,<- hcl,kJ] at hf
 refine ⟨f,L1,fn1 (n:=6) ?_,hf,g,by omega⟩
 show Ph [some (.ref n),none,none,none,none,none,none] L=_
 unfold Ph
 exact Bb s1 (Bb e1 (Ce rfl))
structure RS(M:UH)(s d k p n:Nat)(B:Int)(m:List NP):Prop where
 D:Seed M s B
 T:Dk M d k p m
 hn:M[n]? = some (.lst (m.map ptU))
 ds:d≠s
 ks:k≠s
 ps:p≠s
 ns:n≠s
variable {s:Nat}
theorem RS.ex(S:RS M s d k p n B m)(D':Seed M' s B')(x:Ex s M M'):RS M' s d k p n B' m:=
 ⟨D',⟨x.get S.T.ob S.ds,⟨x.get S.T.kp.ob S.ks,x.get S.T.kp.pt S.ps⟩⟩,x.get S.hn S.ns,S.ds,S.ks,S.ps,S.ns⟩
theorem RS.gw(S:RS M s d k p n B m)(g:Gw M M'):RS M' s d k p n B m:=S.ex (S.D.gw g) (g.ex s)
inductive SomeP(v:Option (U×UH))(L:UH)(s:Nat)(B:Int):Prop
 | mk (x y:Int) (L':UH) (e:v=some (prU (x,y),L')) (tx:Ten x) (ty:Ten y) (D:Seed L' s B) (z:Ex s L L')
variable {e4:Option U}
theorem Ak8{e0 e1 e2:Option U}(hx:-10000000000<=x/\x<=9999999999):∃ x':Int,Ten x'/\(B7 (Di (Ad (Be Pu (Ad (f2 Al (Ae 3) (fC (.int 0))) (Ad (f2 Ht (fC (.int 1)) (f2 J5 (fC (.int 10)) (fC (.int 10)))) Ag))) (Ad (f2 Al (Ae 3) (fC (.int 1))) Ag)))) [e0,e1,e2,some (prU (x,y)),e4] M=some (.rt (prU (x',y)),M):=by
 have p10:Yk 10 10=true:=rfl
 have h1:(f2 Ht (fC (.int 1)) (f2 J5 (fC (.int 10)) (fC (.int 10)))) [e0,e1,e2,some (prU (x,y)),e4] M=some (.int (-9999999999),M):=by
  refine Bg rfl (Bg rfl rfl (w:=.int 10000000000) (L3:=M) ?_) rfl
  rw[Aes,if_pos p10];rfl
 have h2:Pu [.int x,.int (-9999999999)] M=some (.int (if (-9999999999:Int) > x then -9999999999 else x),M):=rfl
 refine ⟨if (-9999999999:Int) > x then -9999999999 else x,by constructor <;> split <;> omega,?_⟩
 refine Ce (Aci ?_ (Bg (fa:=Ae 3) (fb:=fC (.int 1)) rfl rfl (w:=.int y) (L3:=M) rfl))
 rw[fCall_eq,Bv (Bg (fa:=Ae 3) (fb:=fC (.int 0)) rfl rfl (w:=.int x) (L3:=M) rfl) (Bv h1 rfl)]
 exact h2
theorem O0(D:Seed L s B)(hB:B<=1000000)(hn:L[n]? = some (.lst (m.map ptU)))(ns:n≠s)(ok:OkP m)(hl:m.length<=1000)(kk:kd=0\/kd=1\/kd=2):SomeP (Gb [.ref s,.int kd,.ref n] L) L s (B+20):=by
 suffices h:SomeP ((Gq [some (.ref s),some (.int kd),some (.ref n),none,none] L).bind fun q=>match q.1 with | .rt v=>some (v,q.2) | _=>none) L s (B+20) from by
  obtain ⟨x,y,L',e,tx,ty,D,z⟩:=h
  refine ⟨x,y,L',fnN (n:=5) rfl ?_,tx,ty,D,z⟩
  show Gq [some (.ref s),some (.int kd),some (.ref n),none,none] L=_
  obtain ⟨⟨fl,M⟩,h1,h2⟩:=aA.mp e
  rw[h1]
  cases fl <;> simp_all
 obtain ⟨x,L1,e1,tx,D1,x1⟩:=Jc D (by omega) kk
 obtain ⟨y,N2,e2,ty,D2,x2⟩:=Jc D1 (by omega) kk
 have x12:=x1.trans x2
 have s1:=Ek (i:=3) (δ:=[some (.ref s),some (.int kd),some (.ref n),none,none]) (Aci (Eu (fa:=Ae 0) (fb:=Ae 1) rfl rfl e1) (Eu (fa:=Ae 0) (fb:=Ae 1) rfl rfl e2))
 have t1:=Rw (i:=2) (δ:=[some (.ref s),some (.int kd),some (.ref n),some (prU (x,y)),none]) (fun _=>rfl) (x12.get hn ns) ok
 have D3:=D2.new [HU.lst []]
 have x3:=x12.trans (Ex.new s N2 [HU.lst []])
 generalize N2++[HU.lst []]=L3 at t1 D3 x3
 have fin:∀ (x y:Int) (e4:Option U) (M:UH),-10000000000<=x/\x<=9999999999->Ten y->Seed M s (B+20)->Ex s L M->SomeP (((B7 (Di (Ad (Be Pu (Ad (f2 Al (Ae 3) (fC (.int 0))) (Ad (f2 Ht (fC (.int 1)) (f2 J5 (fC (.int 10)) (fC (.int 10)))) Ag))) (Ad (f2 Al (Ae 3) (fC (.int 1))) Ag)))) [some (.ref s),some (.int kd),some (.ref n),some (prU (x,y)),e4] M).bind fun q=>match q.1 with | .rt v=>some (v,q.2) | _=>none) L s (B+20):=fun x y e4 M hx hy DM xM=>by
  obtain ⟨x',tx',e⟩:=Ak8 (y:=y) (M:=M) (e0:=some (.ref s)) (e1:=some (.int kd)) (e2:=some (.ref n)) (e4:=e4) hx
  rw[e]
  exact ⟨x',y,M,rfl,tx',hy,DM,xM⟩
 unfold Gq
 rw[Bp s1]
 show SomeP ((Bc _ _ [some (.ref s),some (.int kd),some (.ref n),some (prU (x,y)),none] N2).bind _) _ _ _
 cases hm:m with
 | nil=>
  rw[hm] at t1
  rw[Bp (C0 (W4 t1))]
  exact fin x y none L3 ⟨by omega,by omega⟩ ty (D3.mono (by omega)) x3
 | cons p0 ps0=>
  have hpos:0 < m.length:=by rw[hm];simp
  have hne:(!m.isEmpty)=true:=by rw[hm];rfl
  rw[hne] at t1
  obtain ⟨a,L4,e4,a0,a1,D4,x4⟩:=Cv (many:=2) D3 (by omega) (by decide) (by decide)
  have t2:(A0 (f2 B3 (Ar 2 An (Ad (Ae 0) (Ad (fC (.int 2)) Ag))) (fC (.int 0)))) [some (.ref s),some (.int kd),some (.ref n),some (prU (x,y)),none] L3=some (a == 0,L4):=Cg (Bg (Eu rfl rfl e4) rfl (Ky _ _ _))
  have x34:=x3.trans x4
  by_cases ha:a=0
  ·have hb:(a == 0)=true:=by simp[ha]
   rw[hb] at t2
   have hlen:=Fg (x34.get hn ns)
   rw[aU] at hlen
   obtain ⟨c,L5,e5,c0,c1,D5,x5⟩:=Cv (many:=(m.length:Nat)) D4 (by omega) (by omega) (by omega)
   obtain ⟨b,rfl⟩:∃ b:Nat,c=(b:Int):=⟨c.toNat,by omega⟩
   have hb:b < m.length:=by omega
   have x35:=x34.trans x5
   have h5:=x35.get hn ns
   have s5:=Ek (i:=4) (δ:=[some (.ref s),some (.int kd),some (.ref n),some (prU (x,y)),none]) (Eu (fa:=Ae 0) rfl (Jh (fa:=Ae 2) rfl hlen) e5)
   have ib:L2.atI (m.map ptU) (b:Int)=some (ptU (m[b]'hb)):=K9 (by rw[bJ,aX hb];rfl)
   have tb:=(ok _ (bY hb)).2.1
   generalize m[b]'hb=pb at ib tb
   obtain ⟨w,L6,e6,w0,w1,D6,x6⟩:=Cv (many:=2) D5 (by omega) (by decide) (by decide)
   have x36:=x35.trans x6
   obtain ⟨p',L7,e7,m7,D7,x7⟩:=Aaw (i:=0) (j:=2) (δ:=[some (.ref s),some (.int kd),some (.ref n),some (prU (x,y)),some (.int (b:Int))]) D6 (by omega) (fun _=>rfl) (fun _=>rfl) ns (x36.get hn ns) hpos hl
   have e8:=Bg (fa:=f2 Al (f2 Al (Ae 2) (Ae 4)) (fC (.int 1))) (δ:=[some (.ref s),some (.int kd),some (.ref n),some (prU (x,y)),some (.int (b:Int))]) (Bg (Bg (fa:=Ae 2) (fb:=Ae 4) (L:=L5) (L1:=L5) rfl rfl (G4 h5 ib)) rfl (ix1 pb L5)) (Eu (fa:=Ae 0) (fb:=fC (.int 2)) rfl rfl e6) (Tu _ _ _)
   have s8:=Ek (i:=3) (Aci e8 (Bg (fb:=fC (.int 2)) e7 rfl (ix2 p' L7)))
   have s9:(C5 (Mg (A0 (f2 Cr (Ae 2) (B1 Ag))) (A0 (f2 B3 (Ar 2 An (Ad (Ae 0) (Ad (fC (.int 2)) Ag))) (fC (.int 0))))) (Bc (Bo (Ar 2 An (Ad (Ae 0) (Ad (Be Az (Ad (Ae 2) Ag)) Ag))) (gN 4)) (Bo (Di (Ad (f2 Ht (f2 Al (f2 Al (Ae 2) (Ae 4)) (fC (.int 1))) (Ar 2 An (Ad (Ae 0) (Ad (fC (.int 2)) Ag)))) (Ad (f2 Al (f2 Al (Ae 2) (Ar 2 An (Ad (Ae 0) (Ad (Be Az (Ad (Ae 2) Ag)) Ag)))) (fC (.int 2))) Ag))) (gN 3))) B9) [some (.ref s),some (.int kd),some (.ref n),some (prU (x,y)),none] N2=some (.nx [some (.ref s),some (.int kd),some (.ref n),some (prU (pb.2.1 - w,p'.2.2)),some (.int (b:Int))],L7):=by
    rw[Eo (L8 t1 t2),Bp s5]
    exact s8
   rw[Bp s9]
   exact fin _ _ _ L7 ⟨by omega,by omega⟩ (ok p' m7).2.2 (D7.mono (by omega)) (x36.trans x7)
  ·have hb:(a == 0)=false:=by simp[ha]
   rw[hb] at t2
   rw[Bp (C0 (L8 t1 t2))]
   exact fin x y none L4 ⟨by omega,by omega⟩ ty (D4.mono (by omega)) x34
theorem Ane{c:Int}{l:Nat}(S:RS M s d k p n B m)(tc:Ten c)(ha:Ans (Ax [.ref d,.str line] M) M [fig c])(hi:Ae i δ M=some (.ref d,M))(hj:Ae j δ M=some (.str line,M))(hl:∀ M,Ae l δ M=some (.int c,M)) :
  ∃ M',(A0 (f2 Cr (Bh "Desk" "ask" 2 Ax (Ae i) (Ad (Ae j) Ag)) (B1 (Ad (Ea (Ae l)) Ag)))) δ M=some (false,M')/\Gw M M':=by
 obtain ⟨r,M1,e1,h1,g1,l1⟩:=ha
 have g2:=Gw.new M1 [HU.lst [U.str (fig c)]]
 have hm:[U.str (fig c)]=[fig c].map U.str:=rfl
 refine ⟨M1++[.lst [.str (fig c)]],Cg (Bg (Sd S.T d3 hi (us:=[.str line]) (Bv hj rfl) rfl e1) (Aaq (Ir tc (hl M1))) ?_),g1.trans g2⟩
 exact N0 (g2.get h1) (by rw[<- hm];simp) (fun w hw=>by rw[cF.mp hw];exact Nw c)
abbrev qE(s d n:Nat)(kd x y bl ab:Int)(e8 e9 e10 e11 e12 e13:Option U):UE:=[some (.ref s),some (.int kd),some (.ref d),some (.ref n),some (.int x),some (.int y),some (.int bl),some (.int ab),e8,e9,e10,e11,e12,e13]
def lB(x y:Int):Str := "below " ++ fig x ++ " " ++ fig y
def lA(x y:Int):Str := "above " ++ fig x ++ " " ++ fig y
inductive TwoQ(v:Option (Fl×UH))(M:UH)(s d k p n:Nat)(B kd x y bl ab:Int)(m:List NP):Prop
 | mk (r:Nat) (us:List U) (M':UH) (e:v=some (.nx (qE s d n kd x y bl ab (some (.ref r)) none none none none none),M')) (h:M'[r]? = some (.lst us)) (hu:∀ u∈us,∃ (a:Nat) (line:Str) (c:Int),u = .ref a/\a≠s/\M'[a]? = some (.lst [.str line,.int c])/\((line=lB x y/\c=bl)\/(line=lA x y/\c=ab))) (S:RS M' s d k p n B m) (z:Ex s M M') (rs:r≠s) (lu:us.length<=2)
theorem Avt{M:UH}{s d k p n:Nat}{B kd x y bl ab:Int}{m:List NP}(S:RS M s d k p n B m)(hB:B<=1000000)(tx:Ten x)(ty:Ten y) :
  TwoQ ((Bo (Acg (B1 (Ad (B1 (Ad (Eb [(fC (.str "below ")),(Ea (Ae 4)),(fC (.str " ")),(Ea (Ae 5))]) (Ad (Ae 6) Ag))) (Ad (B1 (Ad (Eb [(fC (.str "above ")),(Ea (Ae 4)),(fC (.str " ")),(Ea (Ae 5))]) (Ad (Ae 7) Ag))) Ag))) (f2 Al (B1 (Ad (fC (.int 1)) (Ad (Ug (fC (.int 1))) Ag))) (Ar 2 An (Ad (Ae 0) (Ad (fC (.int 2)) Ag))))) (gN 8)) (qE s d n kd x y bl ab none none none none none none) M) M s d k p n (B+1) kd x y bl ab m:=by
 have w1:("below " : Str).length<=100:=by decide +kernel
 have w2:("above " : Str).length<=100:=by decide +kernel
 have e1:=Ac1 (Pq (w := "below ") (i:=4) (j:=5) (δ:=qE s d n kd x y bl ab none none none none none none) (L:=M) w1 tx ty rfl rfl) (fb:=Ae 6) (v:=.int bl) (L2:=M) rfl
 have g1:=Gw.new M [HU.lst [.str (lB x y),.int bl]]
 have a1:(M++[HU.lst [.str (lB x y),.int bl]])[M.length]? = some (.lst [.str (lB x y),.int bl]):=by simp
 have e1':(B1 (Ad (Eb [(fC (.str "below ")),(Ea (Ae 4)),(fC (.str " ")),(Ea (Ae 5))]) (Ad (Ae 6) Ag))) (qE s d n kd x y bl ab none none none none none none) M=some (.ref M.length,M++[HU.lst [.str (lB x y),.int bl]]):=e1
 clear e1
 have hs0:M.length≠s:=by have:=S.D.lt;omega
 generalize hA:M.length=a at a1 e1' hs0
 generalize M++[HU.lst [.str (lB x y),.int bl]]=M1 at g1 a1 e1'
 have S1:=S.gw g1
 have e2:(B1 (Ad (Eb [(fC (.str "above ")),(Ea (Ae 4)),(fC (.str " ")),(Ea (Ae 5))]) (Ad (Ae 7) Ag))) (qE s d n kd x y bl ab none none none none none none) M1=some (.ref M1.length,M1++[HU.lst [.str (lA x y),.int ab]]):=Ac1 (Pq (w := "above ") (i:=4) (j:=5) w2 tx ty rfl rfl) (fb:=Ae 7) (v:=.int ab) (L2:=M1) rfl
 have g2:=Gw.new M1 [HU.lst [.str (lA x y),.int ab]]
 have a2:(M1++[HU.lst [.str (lA x y),.int ab]])[M1.length]? = some (.lst [.str (lA x y),.int ab]):=by simp
 have hs1:M1.length≠s:=by have:=S1.D.lt;omega
 generalize M1.length=b at a2 e2 hs1
 generalize M1++[HU.lst [.str (lA x y),.int ab]]=M2 at g2 a2 e2
 have S2:=S1.gw g2
 have e3:=Ac1 e1' e2
 have g3:=Gw.new M2 [HU.lst [.ref a,.ref b]]
 have a3:(M2++[HU.lst [.ref a,.ref b]])[M2.length]? = some (.lst [.ref a,.ref b]):=by simp
 have hs2:M2.length≠s:=by have:=S2.D.lt;omega
 generalize M2.length=c at a3 e3 hs2
 generalize M2++[HU.lst [.ref a,.ref b]]=M3 at g3 a3 e3
 have S3:=S2.gw g3
 have e4:(B1 (Ad (fC (.int 1)) (Ad (Ug (fC (.int 1))) Ag))) (qE s d n kd x y bl ab none none none none none none) M3=some (.ref M3.length,M3++[.lst [.int 1,.int (-1)]]):=Ac1 rfl rfl
 have g4:=Gw.new M3 [HU.lst [.int 1,.int (-1)]]
 have a4:(M3++[HU.lst [.int 1,.int (-1)]])[M3.length]? = some (.lst [.int 1,.int (-1)]):=by simp
 have hs3:M3.length≠s:=by have:=S3.D.lt;omega
 generalize M3.length=f at a4 e4 hs3
 generalize M3++[HU.lst [.int 1,.int (-1)]]=M4 at g4 a4 e4
 have S4:=S3.gw g4
 obtain ⟨w,M5,e5,w0,w1',D5,z5⟩:=Cv (many:=2) S4.D (by omega) (by decide) (by decide)
 have S5:=S4.ex D5 z5
 have a5:=z5.get a4 hs3
 have hsg:∃ sg:Int,L2.atI [U.int 1,.int (-1)] w=some (.int sg)/\(sg=1\/sg = -1):=by
  have:w=0\/w=1:=by omega
  rcases this with rfl | rfl
  ·exact ⟨1,rfl,.inl rfl⟩
  ·exact ⟨-1,rfl,.inr rfl⟩
 obtain ⟨sg,hw,hsg⟩:=hsg
 have e6:(f2 Al (B1 (Ad (fC (.int 1)) (Ad (Ug (fC (.int 1))) Ag))) (Ar 2 An (Ad (Ae 0) (Ad (fC (.int 2)) Ag)))) (qE s d n kd x y bl ab none none none none none none) M3=some (.int sg,M5):=Bg e4 (Eu (fa:=Ae 0) rfl rfl e5) (G4 a5 hw)
 have z35:=(g4.ex s).trans z5
 have c5:=z35.get a3 hs2
 have zz:=(((g1.trans g2).trans g3).ex s).trans z35
 have x1:=(z35.get (g3.get (g2.get a1)) hs0)
 have x2:=(z35.get (g3.get a2) hs1)
 have hfs:∃ us:List U,(us=[.ref a,.ref b]\/us=[.ref b,.ref a])/\(Acg (B1 (Ad (B1 (Ad (Eb [(fC (.str "below ")),(Ea (Ae 4)),(fC (.str " ")),(Ea (Ae 5))]) (Ad (Ae 6) Ag))) (Ad (B1 (Ad (Eb [(fC (.str "above ")),(Ea (Ae 4)),(fC (.str " ")),(Ea (Ae 5))]) (Ad (Ae 7) Ag))) Ag))) (f2 Al (B1 (Ad (fC (.int 1)) (Ad (Ug (fC (.int 1))) Ag))) (Ar 2 An (Ad (Ae 0) (Ad (fC (.int 2)) Ag))))) (qE s d n kd x y bl ab none none none none none none) M=some (.ref M5.length,M5++[.lst us]):=by
  unfold Acg
  rw[e3]
  simp only[aC,e6,Ao c5]
  rcases hsg with rfl | rfl
  ·exact ⟨_,.inl rfl,by rw[if_pos rfl]⟩
  ·exact ⟨_,.inr rfl,by rw[if_neg (by decide),if_pos rfl];rfl⟩
 obtain ⟨us,hus,e7⟩:=hfs
 have g7:=Gw.new M5 [HU.lst us]
 refine ⟨M5.length,us,M5++[.lst us],Ek (i:=8) (δ:=qE s d n kd x y bl ab none none none none none none) e7,by simp,fun u hu=>?_,S5.gw g7,zz.trans (g7.ex s),by have:=S5.D.lt;omega,by rcases hus with rfl | rfl <;> simp⟩
 have hu':u = .ref a\/u = .ref b:=by rcases hus with rfl | rfl <;> simp at hu <;> rcases hu with rfl | rfl <;> simp
 rcases hu' with rfl | rfl
 ·exact ⟨a,lB x y,bl,rfl,hs0,g7.get x1,.inl ⟨rfl,rfl⟩⟩
 ·exact ⟨b,lA x y,ab,rfl,hs1,g7.get x2,.inr ⟨rfl,rfl⟩⟩
inductive LoopR(v:Option (Fl×UH))(M:UH)(s d k p n:Nat)(B kd x y bl ab:Int)(m:List NP):Prop
 | mk (e8 y9 y10:Option U) (M':UH) (e:v=some (.nx (qE s d n kd x y bl ab e8 y9 y10 none none none),M')) (S:RS M' s d k p n B m) (z:Ex s M M')
theorem Abi{M:UH}{s d k p n r:Nat}{B kd x y bl ab:Int}{m:List NP}{us:List U}(S:RS M s d k p n B m)(hB:B<=1000000)(hl:m.length < 1000)(tx:Ten x)(ty:Ten y)(hbl:bl=((m.filter fun p=>Cf p.2 (x,y)).length:Nat))(hab:ab=((m.filter fun p=>Cf (x,y) p.2).length:Nat))
  (hr:M[r]? = some (.lst us)) (rs:r≠s) (lu:us.length<=2) (hu:∀ u∈us,∃ (a:Nat) (line:Str) (c:Int),u = .ref a/\a≠s/\M[a]? = some (.lst [.str line,.int c])/\((line=lB x y/\c=bl)\/(line=lA x y/\c=ab))) :
  LoopR ((Pg (Bu (fSl Cz (Ae 8) Bq (Cw (f2 A9 (fC (.int 1)) (Ar 2 An (Ad (Ae 0) (Ad (fC (.int 2)) Ag))))))) (Od 2 (MR.gCons (gN 9) (MR.gCons (gN 10) MR.gNil))) Fs) (qE s d n kd x y bl ab (some (.ref r)) none none none none none) M) M s d k p n (B+1) kd x y bl ab m:=by
 obtain ⟨w,M1,e1,w0,w1,D1,z1⟩:=Cv (many:=2) S.D (by omega) (by decide) (by decide)
 obtain ⟨b,rfl⟩:∃ b:Nat,w=(b:Int):=⟨w.toNat,by omega⟩
 have S1:=S.ex D1 z1
 have h1:=z1.get hr rs
 have e2:(fSl Cz (Ae 8) Bq (Cw (f2 A9 (fC (.int 1)) (Ar 2 An (Ad (Ae 0) (Ad (fC (.int 2)) Ag)))))) (qE s d n kd x y bl ab (some (.ref r)) none none none none none) M=some (.ref M1.length,M1++[.lst (us.take (1+b))]):=by
  have ep:(f2 A9 (fC (.int 1)) (Ar 2 An (Ad (Ae 0) (Ad (fC (.int 2)) Ag)))) (qE s d n kd x y bl ab (some (.ref r)) none none none none none) M=some (.int ((1+b:Nat):Int),M1):=by
   refine Bg rfl (Eu (fa:=Ae 0) rfl rfl e1) ?_
   rw[G6];push_cast;rfl
  rw[Rp]
  show (((Bq (qE s d n kd x y bl ab (some (.ref r)) none none none none none) M).bind fun q=>_):Option (U×UH))=_
  simp only[fNoPart_eq,aC,fPart_eq,ep]
  show iX _ (Aw M1 r)=_
  rw[Ao h1,aG,cutU_take]
 have g2:=Gw.new M1 [HU.lst (us.take (1+b))]
 have a2:(M1++[HU.lst (us.take (1+b))])[M1.length]? = some (.lst (us.take (1+b))):=by simp
 have hu2:∀ u∈us.take (1+b),∃ (a:Nat) (line:Str) (c:Int),u = .ref a/\(M1++[HU.lst (us.take (1+b))])[a]? = some (.lst [.str line,.int c])/\((line=lB x y/\c=bl)\/(line=lA x y/\c=ab)):=fun u h=>by
  obtain ⟨a,line,c,h1,h2,h3,h4⟩:=hu u (List.mem_of_mem_take h)
  exact ⟨a,line,c,h1,g2.get (z1.get h3 h2),h4⟩
 generalize us.take (1+b)=ws at e2 a2 hu2 g2
 have z2:=z1.trans (g2.ex s)
 generalize M1.length=r2 at e2 a2
 have S2:=S1.gw g2
 generalize M1++[HU.lst ws]=M2 at e2 a2 hu2 S2 z2
 have hi:(Bu (fSl Cz (Ae 8) Bq (Cw (f2 A9 (fC (.int 1)) (Ar 2 An (Ad (Ae 0) (Ad (fC (.int 2)) Ag))))))) (qE s d n kd x y bl ab (some (.ref r)) none none none none none) M=some (.ref r2,M2):=by
  rw[En,e2]
  show (Ih (.ref r2) M2).map _=_
  rw[C1 (Ao a2)];rfl
 obtain ⟨δ',M3,e3,P⟩:=P6 (us:=ws) (n:=r2) (body:=Fs) (g:=Od 2 (MR.gCons (gN 9) (MR.gCons (gN 10) MR.gNil))) (fun j δ' N=>(∃ y9 y10,δ'=qE s d n kd x y bl ab (some (.ref r)) y9 y10 none none none)/\RS N s d k p n (B+1) m/\Gw M2 N) hi
  ⟨⟨_,_,rfl⟩,S2,Gw.refl M2⟩ (fun j δ N hP=>Ao (hP.2.2.get a2))
  (fun j u δ N hu hP=>by
   obtain ⟨⟨y9,y10,rfl⟩,SN,gN'⟩:=hP
   obtain ⟨a,line,c,rfl,ha,hc⟩:=hu2 u (dX hu)
   have haN:=gN'.get ha
   have hans:Ten c/\Ans (Ax [.ref d,.str line] N) N [fig c]:=by
    rcases hc with ⟨rfl,rfl⟩ | ⟨rfl,rfl⟩
    ·rw[hbl]
     exact ⟨Lf hl _,Aif SN.T hl tx ty⟩
    ·rw[hab]
     exact ⟨Lf hl _,Aje SN.T hl tx ty⟩
   obtain ⟨N',et,gt⟩:=Ane (δ:=qE s d n kd x y bl ab (some (.ref r)) (some (.str line)) (some (.int c)) none none none) (i:=2) (j:=9) (l:=10) SN hans.1 hans.2 rfl rfl (fun _=>rfl)
   refine ⟨qE s d n kd x y bl ab (some (.ref r)) (some (.str line)) (some (.int c)) none none none,N,?_,_,N',.inl (C0 et),⟨_,_,rfl⟩,SN.gw gt,gN'.trans gt⟩
   show (Aw N a).bind _=_
   rw[Ao haN]
   rfl)
 obtain ⟨⟨y9,y10,rfl⟩,S3,g3⟩:=P
 exact ⟨some (.ref r),y9,y10,M3,e3,S3,z2.trans (g3.ex s)⟩
theorem Au5(x y u v:Int)(p:NP):((decide (x<=p.2.1)&&decide (p.2.1<=u))&&(decide (y<=p.2.2)&&decide (p.2.2<=v)))=inB (x,y,u,v) p:=by
 unfold inB
 rw[Bool.and_assoc]
theorem Alf{f g:FT}{a b:Bool}(h:f δ L=some (a,L))(h2:g δ L=some (b,L)):Mg f g δ L=some (a&&b,L):=by
 rw[Tj,h]
 cases a with
 | true=>simp[h2]
 | false=>rfl
inductive PlR(v:Option (U×UH))(M:UH)(s d k p n:Nat)(B:Int)(m:List NP):Prop
 | mk (M':UH) (e:v=some (.bl true,M')) (S:RS M' s d k p n B m) (z:Ex s M M')
theorem Azz(e:fe δ L=some (.tup [u,v],L')):(Bo fe (MR.gTup 2 (MR.gCons (gN i) (MR.gCons (gN j) MR.gNil)))) δ L=some (.nx ((δ.set i (some u)).set j (some v)),L'):=by
 rw[Ni,e];rfl
theorem Ss(S:RS M s d k p n B m)(hB:B<=100000)(ok:OkP m)(hl:m.length < 1000)(kk:kd=0\/kd=1\/kd=2):PlR (G3 [.ref s,.int kd,.ref d,.ref n] M) M s d k p n (B+50) m:=by
 obtain ⟨x,y,M1,e1,tx,ty,D1,z1⟩:=O0 S.D (by omega) S.hn S.ns ok (by omega) kk
 have S1:=S.ex D1 z1
 have s1:=Azz (i:=4) (j:=5) (δ:=[some (.ref s),some (.int kd),some (.ref d),some (.ref n),none,none,none,none,none,none,none,none,none,none]) (Awn (fa:=Ae 0) (fb:=Ae 1) (fc:=Ae 3) rfl rfl rfl e1)
 obtain ⟨M2,e2,g2⟩:=Kz (i:=3) (ix:=[none,some 4,some 5]) (δ:=[some (.ref s),some (.int kd),some (.ref d),some (.ref n),some (.int x),some (.int y),none,none,none,none,none,none,none,none]) (rest:=[some (.int x),some (.int y)]) (tt:=Ig) (fe:=Ie) (rel:=fun o=>Cf o.2 (x,y)) rfl rfl S1.hn (by omega) (fun o M=>tru_ok (Eu (Xe rfl) (Aci (u:=.int x) (v:=.int y) rfl rfl) (Jd o.2 (x,y) M))) (fun _ _=>rfl)
 have S2:=S1.gw g2
 generalize hbl:(((m.filter fun o=>Cf o.2 (x,y)).length:Nat):Int)=bl at e2
 have s2:=Ek (i:=6) e2
 obtain ⟨M3,e3,g3⟩:=Kz (i:=3) (ix:=[none,some 4,some 5]) (δ:=[some (.ref s),some (.int kd),some (.ref d),some (.ref n),some (.int x),some (.int y),some (.int bl),none,none,none,none,none,none,none]) (rest:=[some (.int x),some (.int y)]) (tt:=Ii) (fe:=Iq) (rel:=fun o=>Cf (x,y) o.2) rfl rfl S2.hn (by omega) (fun o M=>tru_ok (Eu (Aci (u:=.int x) (v:=.int y) rfl rfl) (Xe rfl) (Jd (x,y) o.2 M))) (fun _ _=>rfl)
 have S3:=S2.gw g3
 generalize hab:(((m.filter fun o=>Cf (x,y) o.2).length:Nat):Int)=ab at e3
 have s3:=Ek (i:=7) e3
 obtain ⟨r,us,M4,e4,h4,hu4,S4,z4,rs,lu⟩:=Avt (kd:=kd) (bl:=bl) (ab:=ab) S3 (by omega) tx ty
 obtain ⟨f8,y9,y10,M5,e5,S5,z5⟩:=Abi (kd:=kd) S4 (by omega) hl tx ty hbl.symm hab.symm h4 rs lu hu4
 obtain ⟨u,v,M6,e6,tu,tv,D6,z6⟩:=O0 S5.D (by omega) S5.hn S5.ns ok (by omega) kk
 have S6:=S5.ex D6 z6
 have s6:=Azz (i:=11) (j:=12) (δ:=qE s d n kd x y bl ab f8 y9 y10 none none none) (Awn (fa:=Ae 0) (fb:=Ae 1) (fc:=Ae 3) rfl rfl rfl e6)
 obtain ⟨M7,e7,g7⟩:=Kz (i:=3) (ix:=[none,some 4,some 11,some 5,some 12]) (δ:=qE s d n kd x y bl ab f8 y9 y10 (some (.int u)) (some (.int v)) none) (rest:=[some (.int x),some (.int u),some (.int y),some (.int v)]) (tt:=Ip) (fe:=Im) (rel:=fun o=>inB (x,y,u,v) o) rfl rfl S6.hn (by omega) (fun o M=>by
  rw[<- Au5]
  exact Alf (Cg (Mz rfl (Bg rfl rfl (ix1 o M)) rfl)) (Cg (Mz rfl (Bg rfl rfl (ix2 o M)) rfl))) (fun _ _=>rfl)
 have S7:=S6.gw g7
 have tc:=Lf hl (inB (x,y,u,v))
 obtain ⟨rb,M8,e8,h8,g8,l8⟩:=Aqu S7.T hl tx ty tu tv
 have hcb:(cntB m (x,y,u,v):Nat)=(m.filter fun o=>inB (x,y,u,v) o).length:=rfl
 rw[hcb] at h8
 generalize hheld:(((m.filter fun o=>inB (x,y,u,v) o).length:Nat):Int)=held at e7 h8 tc
 have tc':Ten held:=by rw[<- hheld];exact Lf hl _
 have s7:=Ek (i:=13) e7
 have g9:=Gw.new M8 [HU.lst [U.str (fig held)]]
 have hm:[U.str (fig held)]=[fig held].map U.str:=rfl
 refine ⟨M8++[.lst [.str (fig held)]],fnN (n:=14) rfl ?_,((S7.gw g8).gw g9).ex ((S7.D.gw g8).gw g9 |>.mono (by omega)) (Ex.refl s _),(((((((z1.trans (g2.ex s)).trans (g3.ex s)).trans z4).trans z5).trans z6).trans (g7.ex s)).trans (g8.ex s)).trans (g9.ex s)⟩
 show G7 [some (.ref s),some (.int kd),some (.ref d),some (.ref n),none,none,none,none,none,none,none,none,none,none] M=_
 have w1:("box " : Str).length<=100:=by decide +kernel
 unfold G7
 refine Bb s1 (Bb s2 (Bb s3 (Bb e4 (Bb e5 (Bb s6 (Bb s7 (Ce ?_)))))))
 refine Bg (Sd S7.T d3 rfl (us:=[.str ("box " ++ fig x ++ " " ++ fig y ++ " " ++ fig u ++ " " ++ fig v)]) (Bv (Ac2 (i:=4) (j:=5) (k:=11) (l:=12) w1 tx ty tu tv rfl rfl rfl rfl) rfl) rfl e8) (Aaq (Ir (i:=13) tc' rfl)) ?_
 exact Y4 (g9.get h8) (by rw[<- hm];simp) (fun w hw=>by rw[cF.mp hw];exact Nw _)
theorem Aqz{f:FN}{fd:FE}{a b c e:U}(h:fa δ L=some (a,L))(h2:fb δ L=some (b,L))(h3:fc δ L=some (c,L))(h4:fd δ L=some (e,L))(hf:f [a,b,c,e] L=some (v,L')):(Ar 4 f (Ad fa (Ad fb (Ad fc (Ad fd Ag))))) δ L=some (v,L'):=by
 rw[fOwn_eq,Bv h (Bv h2 (Bv h3 (Bv h4 rfl)))]
 simp only[aC,aL,aR,if_true,hf]
theorem Acj(hi:Ae i δ M=some (.ref r,M))(h:M[r]? = some (.lst us)):(C3 (C2 "list" Mp (Ae i) Ag)) δ M=some (.nx δ,M.set r (.lst [])):=by
 rw[Vc,fMeth_eq,hi,aC]
 simp only[Nv h,if_true,fNil_eq,aC]
 show iX _ (iX _ (E8 M r))=_
 rw[F7 h];rfl
theorem RS.lt(S:RS M s d k p n B m):s < M.length:=S.D.lt
inductive TellR(M M0:UH)(s d k p n:Nat)(B:Int)(m:List NP):Prop
 | mk (S:RS M s d k p n B m) (z:Ex s M0 M)
theorem P1(T:Dk M d k p m)(hi:Ae i δ M=some (.ref d,M))(e:Ax [.ref d,.str line] M=some (.ref r,L')):(Bh "Desk" "ask" 2 Ax (Ae i) (Ad (fC (.str line)) Ag)) δ M=some (.ref r,L'):=
 Sd T d3 hi (us:=[.str line]) (Bv rfl rfl) rfl e
theorem At7(hi:Ae i δ M=some (.ref r,M))(h:M[r]? = some (.lst us)):(Rl (F8 (Ajt "list" (Ae i)))) δ M=some (false,M):=by
 have h1:Ajt "list" (Ae i) δ M=some (.bl true,M):=by
  rw[Api,hi]
  simp only[aC,tyName,h,aG]
  rfl
 exact Qy h1
theorem Ap1(m:List NP):(m.map fun p=>abv m p.2).sum=pairs (m.map (·.2)):=by
 rw[<- Aep,cY]
 rfl
inductive TotR(v:Option (Fl×UH))(M:UH)(s d n:Nat)(kd t:Int)(e4:Option U):Prop
 | mk (y6:Option U) (M':UH) (e:v=some (.nx [some (.ref s),some (.int kd),some (.ref d),some (.ref n),e4,some (.int t),y6,none],M')) (g:Gw M M')
theorem Ak6{M:UH}{s d n:Nat}{kd:Int}{m:List NP}{e4:Option U}(hn:M[n]? = some (.lst (m.map ptU)))(hl:m.length<=1000) :
  TotR ((Pg (Bu (Ae 3)) (gN 6) Mv) [some (.ref s),some (.int kd),some (.ref d),some (.ref n),e4,some (.int 0),none,none] M) M s d n kd (pairs (m.map (·.2))) e4:=by
 have hi:(Bu (Ae 3)) [some (.ref s),some (.int kd),some (.ref d),some (.ref n),e4,some (.int 0),none,none] M=some (.ref n,M):=by
  rw[En]
  show (Ih (.ref n) M).map _=_
  rw[C1 (Ao hn)];rfl
 obtain ⟨δ',M1,e1,P⟩:=P6 (us:=m.map ptU) (n:=n) (body:=Mv) (g:=gN 6) (fun j δ' N=>(∃ y6,δ'=[some (.ref s),some (.int kd),some (.ref d),some (.ref n),e4,some (.int ((m.take j).map fun p=>abv m p.2).sum),y6,none])/\Gw M N) hi
  ⟨⟨_,rfl⟩,Gw.refl M⟩ (fun j δ N hP=>Ao (hP.2.get hn))
  (fun j u δ N hu hP=>by
   obtain ⟨⟨y6,rfl⟩,g⟩:=hP
   rw[bJ] at hu
   obtain ⟨p,hp,rfl⟩:=aH.mp hu
   generalize hsum:((m.take j).map fun p=>abv m p.2).sum=S
   obtain ⟨N',e,g'⟩:=Kz (i:=3) (ix:=[none,some 6]) (δ:=[some (.ref s),some (.int kd),some (.ref d),some (.ref n),e4,some (.int S),some (ptU p),none]) (rest:=[some (ptU p)]) (tt:=Qu) (fe:=Qw) (rel:=fun o=>Cf p.2 o.2) rfl rfl (g.get hn) hl (fun o M=>tru_ok (Eu (Xe rfl) (Xe rfl) (Jd p.2 o.2 M))) (fun _ _=>rfl)
   rw[Amf] at e
   refine ⟨[some (.ref s),some (.int kd),some (.ref d),some (.ref n),e4,some (.int S),some (ptU p),none],N,rfl,[some (.ref s),some (.int kd),some (.ref d),some (.ref n),e4,some (.int (S+abv m p.2)),some (ptU p),none],N',.inl (Ek (i:=5) (Bg (fa:=Ae 5) rfl e (G6 _ _ _))),⟨some (ptU p),?_⟩,g.trans g'⟩
   rw[pB,hp,fR,List.sum_append,hsum]
   simp)
 obtain ⟨⟨y6,rfl⟩,g⟩:=P
 rw[aU,kJ,Ap1] at e1
 exact ⟨y6,M1,e1,g⟩
theorem Al3{M:UH}{s d k p n:Nat}{B kd:Int}{m:List NP}{e4 e5 e6:Option U}(S:RS M s d k p n B m)(hB:B<=10000)(ok:OkP m)(hl:m.length < 1000)(kk:kd=0\/kd=1\/kd=2) :
  ∃ y7 M',(Pg (Er (Ad (fC (.int 2)) Ag)) (gN 7) Mr) [some (.ref s),some (.int kd),some (.ref d),some (.ref n),e4,e5,e6,none] M=some (.nx [some (.ref s),some (.int kd),some (.ref d),some (.ref n),e4,e5,e6,y7],M')/\RS M' s d k p n (B+100) m/\Ex s M M':=by
 have hi:Er (Ad (fC (.int 2)) Ag) [some (.ref s),some (.int kd),some (.ref d),some (.ref n),e4,e5,e6,none] M=some (.seq (C4 0 2),M):=Qx (n:=2) rfl (by omega)
 obtain ⟨δ',M1,e1,P⟩:=Y6 (us:=C4 0 2) (body:=Mr) (g:=gN 7) (fun j δ' N=>(∃ y7,δ'=[some (.ref s),some (.int kd),some (.ref d),some (.ref n),e4,e5,e6,y7])/\RS N s d k p n (B+50 * j) m/\Ex s M N) hi
  ⟨⟨_,rfl⟩,S.ex (S.D.mono (by omega)) (Ex.refl s M),Ex.refl s M⟩
  (fun j u δ N hu hP=>by
   obtain ⟨⟨y7,rfl⟩,SN,z⟩:=hP
   obtain ⟨hj,rfl⟩:=Jt hu
   obtain ⟨N',e,S',z'⟩:=Ss SN (by omega) ok hl kk
   exact ⟨_,N,rfl,_,N',.inl (C0 (Qy (Aqz rfl rfl rfl rfl e))),⟨_,rfl⟩,S'.ex (S'.D.mono (by push_cast;omega)) (Ex.refl s N'),z.trans z'⟩)
 obtain ⟨⟨y7,rfl⟩,SN,z⟩:=P
 rw[Jj] at SN
 exact ⟨y7,M1,e1,SN.ex (SN.D.mono (by omega)) (Ex.refl s M1),z⟩
theorem Adi(S:RS M s d k p n B m)(hB:B<=5000)(ok:OkP m)(hl:m.length < 1000)(kk:kd=0\/kd=1\/kd=2):PlR (Km [.ref s,.int kd,.ref d,.ref n] M) M s d k p n (B+100) m:=by
 have hsl:=S.lt
 obtain ⟨r1,M1,e1,h1,g1,l1⟩:=Pd S.T ok (by omega)
 have S1:=S.gw g1
 obtain ⟨q1,M2,e2,h2,g2,_⟩:=Kr S1.hn ok (by omega)
 have S2:=S1.gw g2
 have s1:=Ek (i:=4) (δ:=[some (.ref s),some (.int kd),some (.ref d),some (.ref n),none,none,none,none]) (P1 (i:=2) S.T rfl e1)
 have c1:(fOr (Rl (F8 (Ajt "list" (Ae 4)))) (A0 (f2 Cr (Ae 4) (Ar 1 Dx (Ad (Ae 3) Ag))))) [some (.ref s),some (.int kd),some (.ref d),some (.ref n),some (.ref r1),none,none,none] M1=some (false,M2):=
  orF (At7 rfl h1) (Cg (Bg (fa:=Ae 4) rfl (Pc rfl e2) (N0 (g2.get h1) h2 (Q1 ok))))
 have s2:=Acj (i:=4) (δ:=[some (.ref s),some (.int kd),some (.ref d),some (.ref n),some (.ref r1),none,none,none]) rfl (g2.get h1)
 have z2:Ex s M (M2.set r1 (.lst [])):=((g1.trans g2).ex s).set l1 _
 have S3:RS (M2.set r1 (.lst [])) s d k p n B m:=S.ex (S2.D.set (by omega) _) z2
 generalize M2.set r1 (.lst [])=M3 at s2 z2 S3
 obtain ⟨r2,M4,e4,h4,g4,l4⟩:=Uj S3.T ok (by omega)
 have S4:=S3.gw g4
 obtain ⟨q2,M5,e5,h5,g5,_⟩:=R9 S4.hn ok (by omega)
 have S5:=S4.gw g5
 have s4:=Ek (i:=4) (δ:=[some (.ref s),some (.int kd),some (.ref d),some (.ref n),some (.ref r1),none,none,none]) (P1 (i:=2) S3.T rfl e4)
 have c4:(A0 (f2 Cr (Ae 4) (Ar 1 Hc (Ad (Ae 3) Ag)))) [some (.ref s),some (.int kd),some (.ref d),some (.ref n),some (.ref r2),none,none,none] M4=some (false,M5):=
  Cg (Bg (fa:=Ae 4) rfl (Pc rfl e5) (N0 (g5.get h4) h5 (Sj ok)))
 have s5:=Acj (i:=4) (δ:=[some (.ref s),some (.int kd),some (.ref d),some (.ref n),some (.ref r2),none,none,none]) rfl (g5.get h4)
 have hl4:=z2.le
 have z5:Ex s M (M5.set r2 (.lst [])):=(z2.trans ((g4.trans g5).ex s)).set (by omega) _
 have S6:RS (M5.set r2 (.lst [])) s d k p n B m:=S.ex (S5.D.set (by have:=S3.lt;omega) _) z5
 generalize M5.set r2 (.lst [])=M6 at s5 z5 S6
 have s6:(Bo (fC (.int 0)) (gN 5)) [some (.ref s),some (.int kd),some (.ref d),some (.ref n),some (.ref r2),none,none,none] M6=some (.nx [some (.ref s),some (.int kd),some (.ref d),some (.ref n),some (.ref r2),some (.int 0),none,none],M6):=rfl
 obtain ⟨y6,M7,e7,g7⟩:=Ak6 (s:=s) (d:=d) (kd:=kd) (e4:=some (.ref r2)) S6.hn (by omega)
 have S7:=S6.gw g7
 obtain ⟨r3,M8,e8,h8,g8,l8⟩:=Aj5 S7.T (by omega)
 have tp:=W0 (m:=m) (by omega)
 generalize pairs (m.map (·.2))=t at e7 h8 tp
 have S8:=S7.gw g8
 have g9:=Gw.new M8 [HU.lst [U.str (fig t)]]
 have hm:[U.str (fig t)]=[fig t].map U.str:=rfl
 have c8:(A0 (f2 Cr (Bh "Desk" "ask" 2 Ax (Ae 2) (Ad (fC (.str "pairs")) Ag)) (B1 (Ad (Ea (Ae 5)) Ag)))) [some (.ref s),some (.int kd),some (.ref d),some (.ref n),some (.ref r2),some (.int t),y6,none] M7=some (false,M8++[.lst [.str (fig t)]]):=
  Cg (Bg (P1 S7.T rfl e8) (Aaq (Ir (i:=5) tp rfl)) (N0 (g9.get h8) (by rw[<- hm];simp) (fun w hw=>by rw[cF.mp hw];exact Nw _)))
 have S9:=S8.gw g9
 have z9:=z5.trans (((g7.trans g8).trans g9).ex s)
 generalize M8++[.lst [.str (fig t)]]=M9 at c8 S9 z9
 obtain ⟨y7,M10,e10,S10,z10⟩:=Al3 (e4:=some (.ref r2)) (e5:=some (.int t)) (e6:=y6) S9 (by omega) ok hl kk
 obtain ⟨r4,M11,e11,h11,g11,_⟩:=Pd S10.T ok (by omega)
 have S11:=S10.gw g11
 obtain ⟨q3,M12,e12,h12,g12,_⟩:=Kr S11.hn ok (by omega)
 refine ⟨M12,fnN (n:=8) rfl ?_,S11.gw g12,(z9.trans z10).trans ((g11.trans g12).ex s)⟩
 show Rr [some (.ref s),some (.int kd),some (.ref d),some (.ref n),none,none,none,none] M=_
 unfold Rr
 refine Bb s1 (Bb (C0 c1) (Bb s2 (Bb s4 (Bb (C0 c4) (Bb s5 (Bb s6 (Bb e7 (Bb (C0 c8) (Bb e10 (Ce ?_))))))))))
 exact Bg (P1 S10.T rfl e11) (Pc rfl e12) (Y4 (g12.get h11) h12 (Q1 ok))
theorem Aa9{many:Nat}{ns:List Int}(h:L[i]? = some (.ro (ns.map U.int)))(hl:ns.length<=63):NewL (Kj [.ref i,.int many] L) L ((ns.take many++[(ns.length:Int)]).map U.int):=by
 have hsq:Aw L i=some (ns.map U.int):=by unfold Aw;rw[h]
 have e1:(fSl Cz (Ae 0) Bq (Cw (Ae 1))) [some (.ref i),some (.int many)] L=some (.ref L.length,L++[.lst ((ns.take many).map U.int)]):=by
  rw[Rp]
  show iX _ (Aw L i)=_
  rw[hsq,aG,cutU_take,pP]
 have g1:=Gw.new L [HU.lst ((ns.take many).map U.int)]
 have a1:(L++[HU.lst ((ns.take many).map U.int)])[L.length]? = some (.lst ((ns.take many).map U.int)):=by simp
 have hlen:Az [.ref i] (L++[HU.lst ((ns.take many).map U.int)])=some (.int (ns.length:Nat),L++[HU.lst ((ns.take many).map U.int)]):=by
  have:=g1.seq hsq
  generalize L++[HU.lst ((ns.take many).map U.int)]=L1 at this
  simp[Az,lenU,this]
 generalize L++[HU.lst ((ns.take many).map U.int)]=L1 at e1 g1 a1 hlen
 have e2:(B1 (Ad (Be Az (Ad (Ae 0) Ag)) Ag)) [some (.ref i),some (.int many)] L1=some (.ref L1.length,L1++[.lst [.int (ns.length:Nat)]]):=Aaq (Jh (fa:=Ae 0) rfl hlen)
 have g2:=Gw.new L1 [HU.lst [.int (ns.length:Nat)]]
 have ea:=Y9 (g2.get a1) (b:=L1.length) (ys:=[.int (ns.length:Nat)]) (by simp) (by simp;omega)
 have hm:(ns.take many).map U.int++[U.int (ns.length:Nat)]=(ns.take many++[(ns.length:Int)]).map U.int:=by simp
 rw[hm] at ea
 refine ⟨_,_,fnN (n:=2) rfl (Ce (Bg e1 e2 ea)),by simp,(g1.trans g2).trans (Gw.new _ _),?_⟩
 have:=g1.le
 simp only[cM]
 omega
def Held(M:UH)(h:Nat)(u:U):Prop:=∃ (a b:Nat) (out:List Str),u = .tup [.ref a,.ref b]/\a≠h/\b≠h/\M[a]? = some (.lst (out.map U.str))/\M[b]? = some (.lst (out.map U.str))/\∀ w∈out,asc w
structure LS(M:UH)(rp n d k p h r:Nat)(pl:List Str)(m:List NP)(hs:List U)(cs:List Int):Prop where
 T:Dk M d k p m
 hp:M[rp]? = some (.lst (pl.map U.str))
 hn:M[n]? = some (.lst (m.map ptU))
 hh:M[h]? = some (.lst hs)
 hr:M[r]? = some (.lst (cs.map U.int))
 ok:OkP m
 nd:(m.map (·.1)).Nodup
 l:m.length<=60
 hd:∀ u∈hs,Held M h u
 nh:n≠h
 ph:rp≠h
 rh:r≠h
variable {h:Nat}
theorem Held.mono(H:Held M h u)(k:∀ (a:Nat) (out:List Str),a≠h->M[a]? = some (.lst (out.map U.str))->M'[a]? = some (.lst (out.map U.str))):Held M' h u:=by
 obtain ⟨a,b,out,e,h1,h2,h3,h4,h5⟩:=H
 exact ⟨a,b,out,e,h1,h2,k a out h1 h3,k b out h2 h4,h5⟩
variable {cs:List Int}{hs:List U}
theorem LS.gw(S:LS M rp n d k p h r pl m hs cs)(g:Gw M M'):LS M' rp n d k p h r pl m hs cs:=
 ⟨S.T.gw g,g.get S.hp,g.get S.hn,g.get S.hh,g.get S.hr,S.ok,S.nd,S.l,fun u hu=>(S.hd u hu).mono fun _ _ _ e=>g.get e,S.nh,S.ph,S.rh⟩
theorem Wg{a:Nat}(D:Seed M s B)(h:M[a]? = some (.lst (out.map U.str))):a≠s:=fun q=>by
 obtain ⟨x,b,c,e,hd,_⟩:=D.ex
 rw[q,hd] at h
 cases out with
 | nil=>cases h
 | cons w out=>cases h
theorem Vt{a:Nat}(D:Seed M s B)(h:M[a]? = some (.lst (m.map ptU))):a≠s:=fun q=>by
 obtain ⟨x,b,c,e,hd,_⟩:=D.ex
 rw[q,hd] at h
 cases m with
 | nil=>cases h
 | cons w m=>cases h
theorem Qd{a:Nat}{C:Str}{fs:List (Str×U)}(D:Seed M s B)(h:M[a]? = some (.ins C fs)):a≠s:=fun q=>by
 obtain ⟨x,b,c,e,hd,_⟩:=D.ex
 rw[q,hd] at h
 cases h
theorem U3{a:Nat}{kvs:List (Key×U)}(D:Seed M s B)(h:M[a]? = some (.dic kvs)):a≠s:=fun q=>by
 obtain ⟨x,b,c,e,hd,_⟩:=D.ex
 rw[q,hd] at h
 cases h
theorem LS.hs_ne(S:LS M rp n d k p h r pl m hs cs)(D:Seed M s B):h≠s:=fun q=>by
 obtain ⟨x,b,c,e,hd,_⟩:=D.ex
 have h1:=S.hh
 rw[q,hd] at h1
 cases hs with
 | nil=>cases h1
 | cons u hs=>
  obtain ⟨a,b',out,e',_⟩:=S.hd u (by simp)
  rw[e'] at h1
  cases h1
theorem LS.ex(S:LS M rp n d k p h r pl m hs cs)(D:Seed M s B)(rs:r≠s)(x:Ex s M M'):LS M' rp n d k p h r pl m hs cs:=
 ⟨⟨x.get S.T.ob (Qd D S.T.ob),⟨x.get S.T.kp.ob (Qd D S.T.kp.ob),x.get S.T.kp.pt (U3 D S.T.kp.pt)⟩⟩,x.get S.hp (Wg D S.hp),x.get S.hn (Vt D S.hn),x.get S.hh (S.hs_ne D),x.get S.hr rs,S.ok,S.nd,S.l,fun u hu=>(S.hd u hu).mono fun _ _ _ e=>x.get e (Wg D e),S.nh,S.ph,S.rh⟩
theorem LS.rs(S:LS M rp n d k p h r pl m hs cs)(D:Seed M s B):RS M s d k p n B m:=
 ⟨D,S.T,S.hn,Qd D S.T.ob,Qd D S.T.kp.ob,U3 D S.T.kp.pt,Vt D S.hn⟩
theorem LS.put(S:LS M rp n d k p h r pl m hs cs)(H:Held M h u):LS (M.set h (.lst (hs++[u]))) rp n d k p h r pl m (hs++[u]) cs:=by
 have ne:∀ {i:Nat} {o:HU},i≠h->M[i]? = some o->(M.set h (.lst (hs++[u])))[i]? = some o:=fun hi e=>by rw[bW (gX hi)];exact e
 have dh:d≠h:=fun q=>by have h1:=S.T.ob;rw[q,S.hh] at h1;cases h1
 have kh:k≠h:=fun q=>by have h1:=S.T.kp.ob;rw[q,S.hh] at h1;cases h1
 have ph:p≠h:=fun q=>by have h1:=S.T.kp.pt;rw[q,S.hh] at h1;cases h1
 refine ⟨⟨ne dh S.T.ob,⟨ne kh S.T.kp.ob,ne ph S.T.kp.pt⟩⟩,ne S.ph S.hp,ne S.nh S.hn,bU (aK.mp S.hh).1,ne S.rh S.hr,S.ok,S.nd,S.l,fun v hv=>?_,S.nh,S.ph,S.rh⟩
 rcases cV.mp hv with hv | hv
 ·exact (S.hd v hv).mono fun _ _ h1 e=>ne h1 e
 ·rw[cF.mp hv]
  exact H.mono fun _ _ h1 e=>ne h1 e
theorem LS.chg{n':Nat}(S:LS M rp n d k p h r pl m hs cs)(x:Ex p M M')(T':Dk M' d k p m')(hn:M[n']? = some (.lst (m'.map ptU)))(ok:OkP m')(nd:(m'.map (·.1)).Nodup)(l:m'.length<=60)(nh:n'≠h):LS M' rp n' d k p h r pl m' hs cs:=by
 have ne:∀ {i:Nat} {us:List U},M[i]? = some (.lst us)->M'[i]? = some (.lst us):=fun e=>x.get e (fun q=>by have h1:=S.T.kp.pt;rw[<- q,e] at h1;cases h1)
 exact ⟨T',ne S.hp,ne hn,ne S.hh,ne S.hr,ok,nd,l,fun u hu=>(S.hd u hu).mono fun _ _ _ e=>ne e,nh,S.ph,S.rh⟩
abbrev wE(s rp n d h:Nat)(kd:Int)(e7 e8:Option U):UE:=[some (.ref 0),some (.ref s),some (.ref rp),some (.int kd),some (.ref n),some (.ref d),some (.ref h),e7,e8]
inductive HoldR(v:Option (Fl×UH))(δ:UE)(M:UH)(rp n d k p h r s:Nat)(B:Int)(pl:List Str)(m:List NP)(cs:List Int):Prop
 | mk (M':UH) (hs:List U) (e:v=some (.nx δ,M')) (S:LS M' rp n d k p h r pl m hs cs) (D:Seed M' s B) (l:hs.length<=100)
theorem Afw(S:LS M rp n d k p h r pl m hs cs)(D:Seed M s B)(lh:hs.length < 100)(v5:∀ M,Ae 5 δ M=some (.ref d,M))(v4:∀ M,Ae 4 δ M=some (.ref n,M))(v6:∀ M,Ae 6 δ M=some (.ref h,M))(ha:Ans (Ax [.ref d,.str line] M) M out)(hF:∀ M,M[n]? = some (.lst (m.map ptU))->Ans (F [.ref n] M) M out)(asc:∀ w∈out,asc w) :
  ∃ M' u,(C3 (C2 "list" De (Ae 6) (Ad (Di (Ad (Bh "Desk" "ask" 2 Ax (Ae 5) (Ad (fC (.str line)) Ag)) (Ad (Ar 1 F (Ad (Ae 4) Ag)) Ag))) Ag))) δ M=some (.nx δ,M')/\LS M' rp n d k p h r pl m (hs++[u]) cs/\Seed M' s B:=by
 obtain ⟨a,M1,e1,h1,g1,l1⟩:=ha
 obtain ⟨b,M2,e2,h2,g2,l2⟩:=hF M1 (g1.get S.hn)
 have hlt:=(aK.mp S.hh).1
 have S2:=S.gw (g1.trans g2)
 have gl:=g1.le
 have et:=Aci (P1 S.T (v5 M) e1) (Pc (i:=4) (v4 M1) e2)
 refine ⟨M2.set h (.lst (hs++[.tup [.ref a,.ref b]])),.tup [.ref a,.ref b],Qo (v6 M) et (Nv S.hh) S2.hh (by omega),S2.put ⟨a,b,out,rfl,by omega,by omega,g2.get h1,h2,asc⟩,(D.gw (g1.trans g2)).set (S2.hs_ne (D.gw (g1.trans g2))) _⟩
inductive TurnR(v:Option (Fl×UH))(rp d k p h r:Nat)(kd:Int)(pl:List Str)(cs:List Int)(c:Nat):Prop
 | mk (s n:Nat) (y7 y8:Option U) (M':UH) (m:List NP) (hs:List U) (e:v=some (.nx (wE s rp n d h kd y7 y8),M')) (S:LS M' rp n d k p h r pl m hs cs) (D:Seed M' s 3000) (l:hs.length<=c) (rs:r≠s)
theorem Alv{a b:Nat}(ha:L[a]? = some (.lst []))(hb:L[b]? = some (.lst [])):Cr (.ref a) (.ref b) L=some (.bl false,L):=
 N0 (out:=[]) ha hb (fun w hw=>by cases hw)
theorem Aw1(e:fe δ L=some (.ref r,L'))(h:L'[r]? = some (.lst [u,v])):(Bo fe (Od 2 (MR.gCons (gN i) (MR.gCons (gN j) MR.gNil)))) δ L=some (.nx ((δ.set i (some u)).set j (some v)),L'):=by
 rw[Ni,e,aC]
 show iX _ ((Aw L' r).bind _)=_
 rw[Ao h];rfl
theorem A1c{w:U}(e:fe δ L=some (.ref r,L'))(h:L'[r]? = some (.lst [u,v,w])):(Bo fe (Od 3 (MR.gCons (gN i) (MR.gCons (gN j) (MR.gCons (gN k) MR.gNil))))) δ L=some (.nx (((δ.set i (some u)).set j (some v)).set k (some w)),L'):=by
 rw[Ni,e,aC]
 show iX _ ((Aw L' r).bind _)=_
 rw[Ao h];rfl
theorem Aqx{M:UH}{rp n d k p h r s0:Nat}{kd cell:Int}{pl:List Str}{m:List NP}{hs:List U}{cs:List Int}{c:Nat}{y8:Option U}(S:LS M rp n d k p h r pl m hs cs)(lp:pl.length=8)(okl:∀ x∈pl,Pn x)(ndl:pl.Nodup)(kk:kd=0\/kd=1\/kd=2)(lc:hs.length<=c)(hc:c<=90) :
  TurnR (Tn (wE s0 rp n d h kd (some (.int cell)) y8) M) rp d k p h r kd pl cs (c+2):=by
 obtain ⟨M1,e1,D1,g1⟩:=Afm cell M
 have hrs:r≠M.length:=by have:=(aK.mp S.hr).1;omega
 have s1:=Ek (i:=1) (δ:=wE s0 rp n d h kd (some (.int cell)) y8) (Pc (i:=7) rfl e1)
 generalize hsl:M.length=s at e1 D1 hrs s1
 have S1:=S.gw g1
 obtain ⟨M2,e2,R2,z2⟩:=Adi (S1.rs D1) (by omega) S.ok (by have:=S.l;omega) kk
 have S2:=S1.ex D1 hrs z2
 have D2:=R2.D
 have c2:(Rl (F8 (Ar 4 Km (Ad (Ae 1) (Ad (Ae 3) (Ad (Ae 5) (Ad (Ae 4) Ag))))))) (wE s rp n d h kd (some (.int cell)) y8) M1=some (false,M2):=Qy (Aqz rfl rfl rfl rfl e2)
 obtain ⟨M3,u3,e3,S3,D3⟩:=Afw (δ:=wE s rp n d h kd (some (.int cell)) y8) (line := "points") (F:=Dx) S2 D2 (by omega) (fun _=>rfl) (fun _=>rfl) (fun _=>rfl) (Pd S2.T S2.ok (by have:=S2.l;omega)) (fun N hN=>Kr hN S2.ok (by have:=S2.l;omega)) (Q1 S2.ok)
 obtain ⟨M4,u4,e4,S4,D4⟩:=Afw (δ:=wE s rp n d h kd (some (.int cell)) y8) (line := "counts") (F:=Hc) S3 D3 (by simp;omega) (fun _=>rfl) (fun _=>rfl) (fun _=>rfl) (Uj S3.T S3.ok (by have:=S3.l;omega)) (fun N hN=>R9 hN S3.ok (by have:=S3.l;omega)) (Sj S3.ok)
 obtain ⟨r5,n5,line,m5,M5,e5,h5,hn5,dd,D5,z5,l5⟩:=Aqj D4 (by omega) S4.hp S4.hn (Wg D4 S4.hp) (Vt D4 S4.hn) lp okl ndl S4.ok S4.l kk
 have S5:=S4.ex D4 hrs z5
 have s5:=Aw1 (i:=8) (j:=4) (δ:=wE s rp n d h kd (some (.int cell)) y8) (Aqz (fa:=Ae 1) (fb:=Ae 2) (fc:=Ae 3) (fd:=Ae 4) rfl rfl rfl rfl e5) h5
 obtain ⟨r6,M6,e6,h6,T6,x6,l6⟩:=dd.asked S5.T S5.ok S5.nd S5.l
 obtain ⟨o1,o2,o3⟩:=dd.ok S5.ok S5.nd S5.l
 have nh5:n5≠h:=by have:=(aK.mp S4.hh).1;omega
 have S6:=S5.chg x6 T6 hn5 o1 o2 o3 nh5
 have D6:Seed M6 s 3000:=by
  obtain ⟨a,b,c,e,hd,hrest⟩:=(D5.mono (B':=3000) (by omega)).ex
  exact ⟨a,b,c,e,x6.get hd (fun q=>(U3 D5 S5.T.kp.pt) q.symm),hrest⟩
 have g7:=Gw.new M6 [HU.lst []]
 have c6:(A0 (f2 Cr (Bh "Desk" "ask" 2 Ax (Ae 5) (Ad (Ae 8) Ag)) (B1 Ag))) (wE s rp n5 d h kd (some (.int cell)) (some (.str line))) M5=some (false,M6++[.lst []]):=
  Cg (Bg (Sd S5.T d3 rfl (us:=[.str line]) (Bv rfl rfl) rfl e6) (v:=.ref M6.length) (L2:=M6++[.lst []]) (by rw[Ls];rfl) (Alv (g7.get h6) (by simp)))
 refine ⟨s,n5,some (.int cell),some (.str line),M6++[.lst []],m5,hs++[u3]++[u4],?_,S6.gw g7,D6.gw g7,by simp;omega,hrs⟩
 unfold Tn
 exact Bb s1 (Bb (C0 c2) (Bb e3 (Bb e4 (Bb s5 (C0 c6)))))
theorem Akh(hi:Ae 6 δ M=some (.ref h,M))(hin:Jm [none,none] δ = [none,none])(hh:M[h]? = some (.lst hs))(hd:∀ u∈hs,Held M h u)(hl:hs.length<=1000) :
  ∃ M',(f2 B3 (B5 [none,none] (Bu (Ae 6)) (MR.gTup 2 (MR.gCons (gN 0) (MR.gCons (gN 1) MR.gNil))) (some Uc) Vi) (B1 Ag)) δ M=some (.bl true,M'):=by
 have hsq:=Ao hh
 obtain ⟨x,ec⟩:=B6 (ix:=[none,none]) (fi:=Bu (Ae 6)) (g:=(MR.gTup 2 (MR.gCons (gN 0) (MR.gCons (gN 1) MR.gNil)))) (tt:=some Uc) (fe:=Vi) (δ:=δ) (L:=M) (L0:=M) (it:=.ref h) hs (fun u=>u) (fun _=>false) (fun _=>.int 1) (fun δ=>δ.length=2)
  (by rw[En,hi];simp only[aC,C1 hsq,aG]) (by rw[F9 hsq];simp) (by omega) (by rw[hin];rfl) (fun k x=>by rw[List.map_id'];exact Ll (Dg hsq))
  (fun u δ x hu hδ=>by
   match δ,hδ with
   | [w0,w1],_=>
    obtain ⟨a,b,out,rfl,h1,h2,h3,h4,h5⟩:=hd u hu
    refine ⟨[some (.ref a),some (.ref b)],rfl,rfl,[],?_,fun hf=>by cases hf⟩
    rw[aV]
    exact Cg (Bg rfl rfl (N0 ((Gw.new M x).get h3) ((Gw.new M x).get h4) h5)))
 have hf:(hs.filter fun _=>false)=[]:=by simp
 rw[hf] at ec
 generalize hr:(M++x).length=r at ec
 have a1:(M++x++[HU.lst (([]:List U).map fun _=>U.int 1)])[r]? = some (.lst []):=by rw[<- hr];simp
 generalize M++x++[HU.lst (([]:List U).map fun _=>U.int 1)]=M1 at ec a1
 have g2:=Gw.new M1 [HU.lst []]
 exact ⟨M1++[.lst []],Bg ec (v:=.ref M1.length) (L2:=M1++[.lst []]) (by rw[Ls];rfl) (Y4 (out:=[]) (g2.get a1) (by simp) (fun w hw=>by cases hw))⟩
theorem Aea(ns:List Int)(l:Int):∃ c:Int,L2.atI ((ns.take 1++[l]).map U.int) 0=some (.int c):=by
 cases ns with
 | nil=>exact ⟨l,rfl⟩
 | cons a ns=>exact ⟨a,rfl⟩
theorem Am7(ns:List Int)(hl:ns.length<=63):∃ L',Yj [.ref 0] [.ro (ns.map U.int)]=some (.bl true,L'):=by
 have h0:([HU.ro (ns.map U.int)]:UH)[0]? = some (.ro (ns.map U.int)):=rfl
 generalize [HU.ro (ns.map U.int)]=L0 at h0
 obtain ⟨q1,L1,e1,h1,g1,_⟩:=Aa9 (many:=1) h0 hl
 obtain ⟨c0,hc0⟩:=Aea ns (ns.length:Int)
 obtain ⟨N2,e2,D2,g2⟩:=Afm c0 L1
 generalize hs:L1.length=s at e2 D2
 have s1:=Ek (i:=1) (δ:=[some (.ref 0),none,none,none,none,none,none,none,none]) (Af6 (Bg (Eu (fa:=Ae 0) (fb:=fC (.int 1)) rfl rfl e1) (fb:=fC (.int 0)) rfl (G4 h1 hc0)) e2)
 have e3:(B1 (Ad (fC (.int 8)) (Ad (fC (.int 60)) Ag))) [some (.ref 0),some (.ref s),none,none,none,none,none,none,none] N2=some (.ref N2.length,N2++[.lst [.int 8,.int 60]]):=Ac1 rfl rfl
 have g3:=Gw.new N2 [HU.lst [.int 8,.int 60]]
 have a3:(N2++[HU.lst [.int 8,.int 60]])[N2.length]? = some (.lst [.int 8,.int 60]):=by simp
 have hs3:N2.length≠s:=by have:=D2.lt;omega
 generalize N2.length=q3 at e3 a3 hs3
 generalize N2++[HU.lst [.int 8,.int 60]]=N3 at e3 g3 a3
 obtain ⟨w,N4,e4,w0,w1,D4,z4⟩:=Cv (many:=2) (D2.gw g3) (by omega) (by decide) (by decide)
 have hm:∃ most:Int,L2.atI [U.int 8,.int 60] w=some (.int most)/\(most=8\/most=60):=by
  have:w=0\/w=1:=by omega
  rcases this with rfl | rfl
  ·exact ⟨8,rfl,.inl rfl⟩
  ·exact ⟨60,rfl,.inr rfl⟩
 obtain ⟨most,hm,hmm⟩:=hm
 obtain ⟨rb,rp,n,kd,N5,pl,m,e5,hb5,hp5,hn5,lp,ndl,okl,kk,okm,ndm,lm,D5,z5,l5a,l5b⟩:=Ala D4 (by omega) hmm
 have s5:=A1c (i:=2) (j:=3) (k:=4) (δ:=[some (.ref 0),some (.ref s),none,none,none,none,none,none,none]) (Eu (fa:=Ae 1) rfl (Bg e3 (Eu (fa:=Ae 1) (fb:=fC (.int 2)) rfl rfl e4) (G4 (z4.get a3 hs3) hm)) e5) hb5
 have h05:N5[0]? = some (.ro (ns.map U.int)):=by
  have h02:=g3.get (g2.get (g1.get h0))
  have hs0:(0:Nat)≠s:=fun q=>by
   obtain ⟨x,b,c,e,hd,_⟩:=(D2.gw g3).ex
   rw[<- q,h02] at hd
   cases hd
  exact z5.get (z4.get h02 hs0) hs0
 obtain ⟨d,k,p,N6,e6,T6,g6,_,_,_⟩:=Ao2 hn5 okm ndm lm
 have s6:=Ek (i:=5) (δ:=[some (.ref 0),some (.ref s),some (.ref rp),some (.int kd),some (.ref n),none,none,none,none]) (Pc (i:=4) rfl e6)
 have s7:(Bo (B1 Ag) (gN 6)) [some (.ref 0),some (.ref s),some (.ref rp),some (.int kd),some (.ref n),some (.ref d),none,none,none] N6=some (.nx [some (.ref 0),some (.ref s),some (.ref rp),some (.int kd),some (.ref n),some (.ref d),some (.ref N6.length),none,none],N6++[.lst []]):=rfl
 have g7:=Gw.new N6 [HU.lst []]
 have a7:(N6++[HU.lst []])[N6.length]? = some (.lst []):=by simp
 have hn7:n≠N6.length:=by have:=(aK.mp (g6.get hn5)).1;omega
 have hp7:rp≠N6.length:=by have:=(aK.mp (g6.get hp5)).1;omega
 have hl7:N6.length < (N6++[HU.lst []]).length:=by simp
 generalize N6.length=h at s7 a7 hn7 hp7 hl7
 have D7:Seed (N6++[HU.lst []]) s 3000:=((D5.gw g6).gw g7).mono (by omega)
 generalize N6++[HU.lst []]=N7 at s7 g7 a7 hl7 D7
 have g67:=g6.trans g7
 obtain ⟨r,N8,e8,h8,g8,l8⟩:=Aa9 (many:=8) (g67.get h05) hl
 have hi:(Bu (Ar 2 Kj (Ad (Ae 0) (Ad (fC (.int 8)) Ag)))) (wE s rp n d h kd none none) N7=some (.ref r,N8):=by
  rw[En,Eu (fa:=Ae 0) (fb:=fC (.int 8)) rfl rfl e8]
  show (Ih (.ref r) N8).map _=_
  rw[C1 (Ao h8)];rfl
 have hcl:(ns.take 8++[(ns.length:Int)]).length<=9:=by simp;omega
 generalize ns.take 8++[(ns.length:Int)]=cs at h8 hcl
 have S8:LS N8 rp n d k p h r pl m [] cs:=⟨(T6.gw g7).gw g8,g8.get (g67.get hp5),g8.get (g67.get hn5),g8.get a7,h8,okm,ndm,lm,(fun u hu=>by cases hu),hn7,hp7,by omega⟩
 have rs8:r≠s:=by have:=D7.lt;omega
 obtain ⟨δ',N9,e9,P⟩:=P6 (us:=cs.map U.int) (n:=r) (body:=Tn) (g:=gN 7) (fun j δ' N=>∃ (s n:Nat) (y7 y8:Option U) (m:List NP) (hs:List U),δ'=wE s rp n d h kd y7 y8/\LS N rp n d k p h r pl m hs cs/\Seed N s 3000/\hs.length<=2 * j/\j<=9/\r≠s) hi
  ⟨s,n,none,none,m,[],rfl,S8,D7.gw g8,by simp,by omega,rs8⟩
  (fun j δ N hP=>by obtain ⟨_,_,_,_,_,_,_,SN,_⟩:=hP;exact Ao SN.hr)
  (fun j u δ N hu hP=>by
   obtain ⟨s,n,y7,y8,m,hs,rfl,SN,DN,lN,hj,rsN⟩:=hP
   rw[bJ] at hu
   obtain ⟨cell,hcell,rfl⟩:=aH.mp hu
   have hj9:j < cs.length:=(aK.mp hcell).1
   obtain ⟨s',n',y7',y8',N',m',hs',e,S',D',l',rs'⟩:=Aqx (s0:=s) (cell:=cell) (y8:=y8) SN lp okl ndl kk lN (by omega)
   exact ⟨wE s rp n d h kd (some (.int cell)) y8,N,rfl,_,N',.inl e,s',n',y7',y8',m',hs',rfl,S',D',by omega,by omega,rs'⟩)
 obtain ⟨s',n',y7,y8,m',hs',rfl,S9,D9,l9,_,_⟩:=P
 rw[aU] at l9
 obtain ⟨N10,e10,R10,z10⟩:=Adi (S9.rs D9) (by omega) S9.ok (by have:=S9.l;omega) kk
 have S10:=S9.ex D9 (by assumption) z10
 obtain ⟨N11,e11⟩:=Akh (δ:=wE s' rp n' d h kd y7 y8) rfl rfl S10.hh S10.hd (by omega)
 refine ⟨N11,fn1 (n:=8) ?_⟩
 show Al6 [some (.ref 0),none,none,none,none,none,none,none,none] L0=_
 unfold Al6
 refine Bb s1 (Bb s5 (Bb s6 (Bb s7 (Bb e9 (Ce ?_)))))
 rw[Js,Aqz (fa:=Ae 1) (fb:=Ae 3) (fc:=Ae 5) (fd:=Ae 4) rfl rfl rfl rfl e10]
 simp only[aC,if_true]
 exact e11
def top(i:Nat):Stmt:=PySem.Challenge.pw_belowpoints_k39_desk_points.main.body.getD i (.Pass ⟨0,0,0,0⟩)
abbrev F1:Stmt:=Ay (top 46) 4
theorem J6:FnScope ["self"] ["self"] (Am F1):=scm
abbrev Kg:Stmt:=Ay (top 51) 3
theorem P8:FnScope ["self"] ["self"] (Am Kg):=scm
abbrev Gv:Stmt:=Ay (top 46) 10
theorem Kw:FnScope ["self","name"] ["self","name"] (Am Gv):=scm
abbrev F2:Stmt:=Ay (top 46) 3
theorem J4:FnScope ["self","name","x","y"] ["self","name","x","y"] (Am F2):=scm
abbrev Gn:Stmt:=Ay (top 46) 1
theorem Kh:FnScope ["self","name","x","y"] ["self","name","x","y"] (Am Gn):=scm
abbrev F3:Stmt:=Ay (top 46) 2
theorem J7:FnScope ["self","name"] ["self","name"] (Am F3):=scm
abbrev Hr:Stmt:=Ay (top 51) 2
theorem Mi:FnScope ["self","word","given"] ["self","word","given"] (Am Hr):=scm
abbrev Vx:Stmt:=top 11
theorem Acw:FnScope ["point"] ["point"] (Am Vx):=scm
abbrev Fz:Stmt:=Ay (top 46) 9
theorem Kd:FnScope ["self"] ["self"] (Am Fz):=scm
abbrev Qp:Stmt:=top 10
theorem Wu:FnScope ["one","other"] ["one","other"] (Am Qp):=scm
abbrev P5:Stmt:=top 20
theorem Wx:FnScope ["places","place"] ["places","place"] (Am P5):=scm
abbrev Gk:Stmt:=Ay (top 46) 6
theorem Kl:FnScope ["self","x","y"] ["self","x","y"] (Am Gk):=scm
abbrev Qk:Stmt:=top 19
theorem Wk:FnScope ["places","place"] ["places","place"] (Am Qk):=scm
abbrev Gs:Stmt:=Ay (top 46) 5
theorem Kx:FnScope ["self","x","y"] ["self","x","y"] (Am Gs):=scm
abbrev X0:Stmt:=top 43
theorem Ad9:FnScope ["point","box"] ["point","box"] (Am X0):=scm
abbrev R5:Stmt:=top 42
theorem Aaz:FnScope ["points","box"] ["points","box"] (Am R5):=scm
abbrev T5:Stmt:=top 40
theorem Aa6:FnScope ["points","boxes"] ["points","boxes"] (Am T5):=scm
abbrev Hs:Stmt:=Ay (top 46) 8
theorem Mh:FnScope ["self","box"] ["self","box"] (Am Hs):=scm
abbrev Nc:Stmt:=Ay (top 51) 4
theorem So:FnScope ["self","word","given"] ["self","word","given"] (Am Nc):=scm
abbrev Qe:Stmt:=top 14
theorem Wy:FnScope ["word","signs"] ["word","signs"] (Am Qe):=scm
abbrev Xk:Stmt:=top 12
theorem Ae2:FnScope ["word"] ["word"] (Am Xk):=scm
abbrev R6:Stmt:=top 13
theorem Qb:FnScope ["word","figures"] ["word"] (Am R6):=scm
abbrev Vd:Stmt:=top 53
theorem Ab2:FnScope ["word","kind"] ["word","kind"] (Am Vd):=scm
abbrev Mj:Stmt:=top 52
theorem Lx:FnScope ["words","form"] ["words"] (Am Mj):=scm
abbrev Px:Stmt:=top 17
theorem O8:FnScope ["points","places"] ["points"] (Am Px):=scm
abbrev P4:Stmt:=top 16
theorem Oi:FnScope ["points","places"] ["points"] (Am P4):=scm
abbrev Ml:Stmt:=top 18
theorem Sl:FnScope ["points"] ["points"] (Am Ml):=scm
abbrev Xn:Stmt:=top 54
theorem Vq:FnScope ["word","points","names"] ["word","points"] (Am Xn):=scm
abbrev R7:Stmt:=top 56
theorem Aae:FnScope ["row"] ["row"] (Am R7):=scm
abbrev P0:Stmt:=top 55
theorem Wt:FnScope ["rows"] ["rows"] (Am P0):=scm
abbrev Vl:Stmt:=Ay (top 51) 1
theorem Nf:FnScope ["self","line","words","given"] ["self","line"] (Am Vl):=scm
abbrev Acl:Stmt:=top 59
theorem Np:FnScope ["seed","most","found","number"] ["seed","most"] (Am Acl):=scm
abbrev Adb:Stmt:=top 63
theorem Ah1:FnScope ["pool","number"] ["pool","number"] (Am Adb):=scm
abbrev X2:Stmt:=top 61
theorem Afc:FnScope ["seed","kind"] ["seed","kind"] (Am X2):=scm
abbrev Ac0:Stmt:=top 62
theorem Kk:FnScope ["seed","spare","letters","k","word"] ["seed"] (Am Ac0):=scm
abbrev X3:Stmt:=top 64
theorem Ef:FnScope ["seed","most","pool","kind","points","k","x","y"] ["seed","most"] (Am X3):=scm
abbrev Xq:Stmt:=top 60
theorem Aef:FnScope ["script","many"] ["script","many"] (Am Xq):=scm
abbrev Xh:Stmt:=top 65
theorem Adm:FnScope ["one","other"] ["one","other"] (Am Xh):=scm
abbrev Vb:Stmt:=top 69
theorem Ez:FnScope ["points","found","name","x","y","below","above"] ["points"] (Am Vb):=scm
abbrev Acr:Stmt:=top 66
theorem Aib:FnScope ["points"] ["points"] (Am Acr):=scm
abbrev Acm:Stmt:=top 68
theorem Dt:FnScope ["seed","pool","kind","points","there","way","x","y","at","moved","spare","made"] ["seed","pool","kind","points"] (Am Acm):=scm
abbrev Gy:Stmt:=Ay (top 46) 0
theorem Lv:FnScope ["self"] ["self"] (Am Gy):=scm
abbrev L9:Stmt:=Ay (top 51) 0
theorem Rm:FnScope ["self"] ["self"] (Am L9):=scm
abbrev Ach:Stmt:=top 67
theorem Q2:FnScope ["points","desk","row"] ["points"] (Am Ach):=scm
abbrev Mt:Stmt:=top 70
theorem Fe:FnScope ["seed","kind","points","place","at"] ["seed","kind","points"] (Am Mt):=scm
abbrev Ku:Stmt:=top 71
theorem Bs:FnScope ["seed","kind","desk","points","x","y","below","above","asked","line","many","end","top","held"] ["seed","kind","desk","points"] (Am Ku):=scm
abbrev Xm:Stmt:=top 72
theorem Fv:FnScope ["seed","kind","desk","points","told","total","one","turn"] ["seed","kind","desk","points"] (Am Xm):=scm
abbrev Abt:Stmt:=top 58
theorem Yh:FnScope ["cell","number"] ["cell"] (Am Abt):=scm
abbrev Ark:Stmt:=top 73
theorem Jl:FnScope ["script","seed","pool","kind","points","desk","held","cell","line"] ["script"] (Am Ark):=scm
set_option genInjectivity false
set_option genSizeOf false
set_option genSizeOfSpec false
structure Defs(K:aE)(mg:Str->Option aF)(w:cC) where
 ua:Addr
 ub:ClsF K "KeptPoints" ua
 uc:Addr
 ud:ClsF K "Desk" uc
 ue:FnM K ua "points_now" "KeptPoints.points_now" F1 ["self"]
 uf:FnM K uc "need_room" "Desk.need_room" Kg ["self"]
 ug:FnM K ua "need_name" "KeptPoints.need_name" Gv ["self","name"]
 uh:FnM K ua "move_point" "KeptPoints.move_point" F2 ["self","name","x","y"]
 ui:FnM K ua "put_point" "KeptPoints.put_point" Gn ["self","name","x","y"]
 uj:FnM K ua "take_point" "KeptPoints.take_point" F3 ["self","name"]
 uk:FnM K uc "change_points" "Desk.change_points" Hr ["self","word","given"]
 ul:FnG K mg "place_of" Vx ["point"]
 um:FnM K ua "places_now" "KeptPoints.places_now" Fz ["self"]
 uo:FnG K mg "lies_below" Qp ["one","other"]
 uq:FnG K mg "many_above" P5 ["places","place"]
 ur:FnM K ua "above_now" "KeptPoints.above_now" Gk ["self","x","y"]
 ut:FnG K mg "many_below" Qk ["places","place"]
 uu:FnM K ua "below_now" "KeptPoints.below_now" Gs ["self","x","y"]
 uv:FnG K mg "is_held" X0 ["point","box"]
 uw:FnG K mg "points_in" R5 ["points","box"]
 ux:FnG K mg "in_boxes" T5 ["points","boxes"]
 uy:FnM K ua "box_now" "KeptPoints.box_now" Hs ["self","box"]
 uz:FnM K uc "told_at" "Desk.told_at" Nc ["self","word","given"]
 uA:FnG K mg "holds_only" Qe ["word","signs"]
 uB:FnG K mg "is_name" Xk ["word"]
 uC:FnG K mg "is_number" R6 ["word"]
 uD:FnG K mg "value_of" Vd ["word","kind"]
 uE:FnG K mg "given_behind" Mj ["words"]
 uF:FnG K mg "above_each" Px ["points"]
 uG:FnG K mg "below_each" P4 ["points"]
 uH:FnG K mg "pairs_in_all" Ml ["points"]
 uI:FnG K mg "rows_of" Xn ["word","points"]
 uJ:FnG K mg "row_shown" R7 ["row"]
 uK:FnG K mg "rows_shown" P0 ["rows"]
 uL:FnM K uc "ask" "Desk.ask" Vl ["self","line"]
 uM:FnG K mg "_law_draw" Acl ["seed","most"]
 uN:FnG K mg "_law_name" Adb ["pool","number"]
 uO:FnG K mg "_law_place" X2 ["seed","kind"]
 uP:FnG K mg "_law_pool" Ac0 ["seed"]
 uQ:FnG K mg "_law_begun" X3 ["seed","most"]
 uR:FnG K mg "_law_cells" Xq ["script","many"]
 uS:FnG K mg "_law_below" Xh ["one","other"]
 uT:FnG K mg "_law_counts" Vb ["points"]
 uU:FnG K mg "_law_rows" Acr ["points"]
 uV:FnG K mg "_law_deed" Acm ["seed","pool","kind","points"]
 uW:FnM K ua "__init__" "KeptPoints.__init__" Gy ["self"]
 uX:FnM K uc "__init__" "Desk.__init__" L9 ["self"]
 uY:FnG K mg "_law_laid" Ach ["points"]
 uZ:FnG K mg "_law_some_place" Mt ["seed","kind","points"]
 u5:FnG K mg "_law_places_right" Ku ["seed","kind","desk","points"]
 u6:FnG K mg "_law_right" Xm ["seed","kind","desk","points"]
 u7:FnG K mg "_law_seed" Abt ["cell"]
 u8:FnG K mg "law" Ark ["script"]
 u9:jM K uc=true/\dU K (.ref uc)=true
 va:mg "Desk" = some (.ref uc)
 vb:jM K ua=true/\dU K (.ref ua)=true
 vc:mg "KeptPoints" = some (.ref ua)
 vd:NoAttr K uc "kept"
 ve:NoAttr K ua "points"
 vf:FormsAt K w mg "FORMS" C8
 vg:∃ t,mg "FIGURES" = some (.str "0123456789" t)
 vh:∃ t,mg "LETTERS" = some (.str "abcdefghijklmnopqrstuvwxyz" t)
 vi:∃ t,mg "LONGEST_NAME" = some (.int 8 t)
 vj:∃ t,mg "MOST_FIGURES" = some (.int 10 t)
 vk:∃ t,mg "MOST_POINTS" = some (.int 60 t)
 vm:mg "all" = none
 vn:mg "int" = none
 vo:mg "isinstance" = none
 vp:mg "len" = none
 vq:mg "list" = none
 vt:mg "max" = none
 vv:mg "min" = none
 vw:mg "range" = none
 vx:mg "str" = none
 vy:mg "sum" = none
 vz:mg "tuple" = none
 vA:mg "zip" = none
variable {mg:Str->Option aF}
section
variable {P:bT}{w:cC}{K:aE}{base:Heap}
theorem D8(C:Defs K mg w):FnOk P w K mg base CX0 1 C.ue.f C.ue.d ["self"] (spF K 1 Bk):=by
 refine Fun.okF C.ue.F J6 (fun cdv A outer s H E hr=>?_)
 have hu:=hr.units
 exact (Ak (Aq (Amw rfl (by rfl) C.vz (Fo C.ub C.ve (Ah 0)) ⟨rfl,rfl,rfl,rfl⟩)))
theorem Qc(C:Defs K mg w):FnOk P w K mg base CX0 2 C.uf.f C.uf.d ["self"] (spF K 1 Ee):=by
 refine Fun.okF C.uf.F P8 (fun cdv A outer s H E hr=>?_)
 have hu:=hr.units
 exact (Ak (By (Bf Ass Aln (Bn B0 Ck (by rfl) C.vp bR (Ac (Rz C.ub C.ue (D8 C) hr (Fo C.ud C.vd (Ah 0))) Af)) (Ts (by rfl) C.vk) (Bl _)) (Ak Df) Br))
theorem F5(C:Defs K mg w):FnOk P w K mg base CX0 1 C.ug.f C.ug.d ["self","name"] (spF K 2 Cd):=by
 refine Fun.okF C.ug.F Kw (fun cdv A outer s H E hr=>?_)
 have hu:=hr.units
 exact (Ak (By (Bf (Ahu hu) Afa (Ah 1) (Fo C.ub C.ve (Ah 0)) (by with_unfolding_all rfl)) (Ak Df) Br))
theorem Kc(C:Defs K mg w):FnOk P w K mg base CX0 2 C.uh.f C.uh.d ["self","name","x","y"] (spF K 4 Co):=by
 refine Fun.okF C.uh.F J4 (fun cdv A outer s H E hr=>?_)
 have hu:=hr.units
 refine Ai ?s0 ?t0
 case s0=>exact (C9 (Fx C.ub C.ug (F5 C) hr (Ah 0) (Ac (Ah 1) Af)))
 exact (Ak (Acy hu (Fo C.ub C.ve (Ah 0)) (Ah 1) (Dp (Ac (Ah 1) (Ac (Ah 2) (Ac (Ah 3) Af))))))
theorem Ki(C:Defs K mg w):FnOk P w K mg base CX0 1 C.ui.f C.ui.d ["self","name","x","y"] (spF K 4 Ct):=by
 refine Fun.okF C.ui.F Kh (fun cdv A outer s H E hr=>?_)
 have hu:=hr.units
 refine Ai ?s0 ?t0
 case s0=>exact (By (Bf (Awl hu) Aof (Ah 1) (Fo C.ub C.ve (Ah 0)) (by with_unfolding_all rfl)) (Ak Df) Br)
 exact (Ak (Acy hu (Fo C.ub C.ve (Ah 0)) (Ah 1) (Dp (Ac (Ah 1) (Ac (Ah 2) (Ac (Ah 3) Af))))))
theorem J9(C:Defs K mg w):FnOk P w K mg base CX0 2 C.uj.f C.uj.d ["self","name"] (spF K 2 Cm):=by
 refine Fun.okF C.uj.F J7 (fun cdv A outer s H E hr=>?_)
 have hu:=hr.units
 refine Ai ?s0 ?t0
 case s0=>exact (C9 (Fx C.ub C.ug (F5 C) hr (Ah 0) (Ac (Ah 1) Af)))
 exact (Ak (C9 (Aq4 (Fo C.ub C.ve (Ah 0)) (Ah 1) ⟨rfl,rfl,rfl,rfl⟩)))
theorem Mf(C:Defs K mg w):FnOk P w K mg base CX0 3 C.uk.f C.uk.d ["self","word","given"] (spF K 3 Bm):=by
 refine Fun.okF C.uk.F Mi (fun cdv A outer s H E hr=>?_)
 have hu:=hr.units
 exact (Ak (By (Bf (C6 hu) C7 (Ah 1) A7 (Bl _)) (Ai (C9 (Rz C.ud C.uf (Qc C) hr (Ah 0))) (Ak (C9 (Fx C.ub C.ui (Ki C) hr (Fo C.ud C.vd (Ah 0)) (Ac (Bi Au Av (Ah 2) Aj (fun _ _=>rfl)) (Ac (Bi Au Av (Ah 2) Aj (fun _ _=>rfl)) (Ac (Bi Au Av (Ah 2) Aj (fun _ _=>rfl)) Af))))))) (Ak (By (Bf (C6 hu) C7 (Ah 1) A7 (Bl _)) (Ak (C9 (Fx C.ub C.uj (J9 C) hr (Fo C.ud C.vd (Ah 0)) (Ac (Bi Au Av (Ah 2) Aj (fun _ _=>rfl)) Af)))) (Ak (C9 (Fx C.ub C.uh (Kc C) hr (Fo C.ud C.vd (Ah 0)) (Ac (Bi Au Av (Ah 2) Aj (fun _ _=>rfl)) (Ac (Bi Au Av (Ah 2) Aj (fun _ _=>rfl)) (Ac (Bi Au Av (Ah 2) Aj (fun _ _=>rfl)) Af))))))))))
theorem Ng(C:Defs K mg w):FnOk P w K mg base CX0 1 C.ul.f C.ul.d ["point"] (spF K 1 G2):=by
 refine Fun.okF C.ul.F Acw (fun cdv A outer s H E hr=>?_)
 have hu:=hr.units
 exact (Ak (Aq (Dp (Ac (Bi Au Av (Ah 0) Aj (fun _ _=>rfl)) (Ac (Bi Au Av (Ah 0) Aj (fun _ _=>rfl)) Af)))))
theorem Fb(C:Defs K mg w):FnOk P w K mg base CX0 2 C.um.f C.um.d ["self"] (spF K 1 Bx):=by
 refine Fun.okF C.um.F Kd (fun cdv A outer s H E hr=>?_)
 have hu:=hr.units
 exact (Ak (Aq (Aqs (Ep (N':=["point"]) (ix:=[none]) ⟨rfl,rfl,rfl,rfl,rfl,rfl⟩ rfl (Ali (Fo C.ub C.ve (Ah 0)) ⟨rfl,rfl,rfl,rfl⟩) (fun _ _ _ _ _ _=>(Ap (i:=0) (show cG (α:=Str) ["point"] by decide +kernel))) (fun _ _ _ _ _ _=>(A8 C.ul (Ng C) hr (Ac (Ah 0) Af)))))))
theorem Oo(C:Defs K mg w):FnOk P w K mg base CX0 1 C.uo.f C.uo.d ["one","other"] (spF K 2 E6):=by
 refine Fun.okF C.uo.F Wu (fun cdv A outer s H E hr=>?_)
 have hu:=hr.units
 exact (Ak (Aq (Rg (Hv (Fq hu) Ft (Ah 0) (Ah 1) (Bl _)) (Q3 (Bn (Xx rfl) Ahn (by rfl) C.vm oO (Ac (Ep (N':=["number","above"]) (ix:=[none,none]) ⟨rfl,rfl,rfl,rfl,rfl,rfl⟩ rfl (Alu (by rfl) C.vA (Ac (Ah 0) (Ac (Ah 1) Af))) (fun _ _ _ _ _ _=>(Jw rfl (Bw (Ap (i:=0) (show cG (α:=Str) ["number","above"] by decide +kernel)) (Bw (Ap (i:=1) (show cG (α:=Str) ["number","above"] by decide +kernel)) E7)))) (fun _ _ _ _ _ _=>(Hv Kf G9 (Ah 0) (Ah 1) (Bl _)))) Af))))))
theorem Ot(C:Defs K mg w):FnOk P w K mg base CX0 2 C.uq.f C.uq.d ["places","place"] (spF K 2 Gm):=by
 refine Fun.okF C.uq.F Wx (fun cdv A outer s H E hr=>?_)
 have hu:=hr.units
 exact (Ak (Aq (Bn B0 Ck (by rfl) C.vp bR (Ac (Ey (N':=["other","place"]) (ix:=[none,some 1]) ⟨rfl,rfl,rfl,rfl,rfl,rfl⟩ rfl (Cj (Ah 0)) (fun _ _ _ _ _ _=>(Ap (i:=0) (show cG (α:=Str) ["other","place"] by decide +kernel))) (fun _ _ _ _ _ _=>(Dq (A8 C.uo (Oo C) hr (Ac (Ah 1) (Ac (Ah 0) Af))))) (fun _ _ _ _ _ _=>(Ah 0))) Af))))
theorem Kq(C:Defs K mg w):FnOk P w K mg base CX0 3 C.ur.f C.ur.d ["self","x","y"] (spF K 3 Eh):=by
 refine Fun.okF C.ur.F Kl (fun cdv A outer s H E hr=>?_)
 have hu:=hr.units
 exact (Ak (Aq (A8 C.uq (Ot C) hr (Ac (Rz C.ub C.um (Fb C) hr (Ah 0)) (Ac (Dp (Ac (Ah 1) (Ac (Ah 2) Af))) Af)))))
theorem Ox(C:Defs K mg w):FnOk P w K mg base CX0 2 C.ut.f C.ut.d ["places","place"] (spF K 2 Ga):=by
 refine Fun.okF C.ut.F Wk (fun cdv A outer s H E hr=>?_)
 have hu:=hr.units
 exact (Ak (Aq (Bn B0 Ck (by rfl) C.vp bR (Ac (Ey (N':=["other","place"]) (ix:=[none,some 1]) ⟨rfl,rfl,rfl,rfl,rfl,rfl⟩ rfl (Cj (Ah 0)) (fun _ _ _ _ _ _=>(Ap (i:=0) (show cG (α:=Str) ["other","place"] by decide +kernel))) (fun _ _ _ _ _ _=>(Dq (A8 C.uo (Oo C) hr (Ac (Ah 0) (Ac (Ah 1) Af))))) (fun _ _ _ _ _ _=>(Ah 0))) Af))))
theorem Kp(C:Defs K mg w):FnOk P w K mg base CX0 3 C.uu.f C.uu.d ["self","x","y"] (spF K 3 Eg):=by
 refine Fun.okF C.uu.F Kx (fun cdv A outer s H E hr=>?_)
 have hu:=hr.units
 exact (Ak (Aq (A8 C.ut (Ox C) hr (Ac (Rz C.ub C.um (Fb C) hr (Ah 0)) (Ac (Dp (Ac (Ah 1) (Ac (Ah 2) Af))) Af)))))
theorem Ael(C:Defs K mg w):FnOk P w K mg base CX0 1 C.uv.f C.uv.d ["point","box"] (spF K 2 Nr):=by
 refine Fun.okF C.uv.F Ad9 (fun cdv A outer s H E hr=>?_)
 have hu:=hr.units
 exact (Ak (Aq (Rg (Vm Kf Kf G9 G9 (Bi Au Av (Ah 1) Aj (fun _ _=>rfl)) (Bi Au Av (Ah 0) Aj (fun _ _=>rfl)) (Bi Au Av (Ah 1) Aj (fun _ _=>rfl))) (Q3 (Vm Kf Kf G9 G9 (Bi Au Av (Ah 1) Aj (fun _ _=>rfl)) (Bi Au Av (Ah 0) Aj (fun _ _=>rfl)) (Bi Au Av (Ah 1) Aj (fun _ _=>rfl)))))))
theorem Ys(C:Defs K mg w):FnOk P w K mg base CX0 2 C.uw.f C.uw.d ["points","box"] (spF K 2 Ju):=by
 refine Fun.okF C.uw.F Aaz (fun cdv A outer s H E hr=>?_)
 have hu:=hr.units
 exact (Ak (Aq (Ey (N':=["point","box"]) (ix:=[none,some 1]) ⟨rfl,rfl,rfl,rfl,rfl,rfl⟩ rfl (Cj (Ah 0)) (fun _ _ _ _ _ _=>(Ap (i:=0) (show cG (α:=Str) ["point","box"] by decide +kernel))) (fun _ _ _ _ _ _=>(Dq (A8 C.uv (Ael C) hr (Ac (Ah 0) (Ac (Ah 1) Af))))) (fun _ _ _ _ _ _=>(Ah 0)))))
theorem Abq(C:Defs K mg w):FnOk P w K mg base CX0 3 C.ux.f C.ux.d ["points","boxes"] (spF K 2 K5):=by
 refine Fun.okF C.ux.F Aa6 (fun cdv A outer s H E hr=>?_)
 have hu:=hr.units
 exact (Ak (Aq (Hg Hj Nk (by rfl) C.vz (by decide +kernel) (Ac (Ep (N':=["box","points"]) (ix:=[none,some 0]) ⟨rfl,rfl,rfl,rfl,rfl,rfl⟩ rfl (Cj (Ah 1)) (fun _ _ _ _ _ _=>(Ap (i:=0) (show cG (α:=Str) ["box","points"] by decide +kernel))) (fun _ _ _ _ _ _=>(Bn B0 Ck (by rfl) C.vp bR (Ac (A8 C.uw (Ys C) hr (Ac (Ah 1) (Ac (Ah 0) Af))) Af)))) Af))))
theorem Me(C:Defs K mg w):FnOk P w K mg base CX0 4 C.uy.f C.uy.d ["self","box"] (spF K 2 Du):=by
 refine Fun.okF C.uy.F Mh (fun cdv A outer s H E hr=>?_)
 have hu:=hr.units
 exact (Ak (Aq (Bi Au Av (A8 C.ux (Abq C) hr (Ac (Rz C.ub C.ue (D8 C) hr (Ah 0)) (Ac (Dp (Ac (Ah 1) Af)) Af))) Aj (fun _ _=>rfl))))
theorem Sm(C:Defs K mg w):FnOk P w K mg base CX0 5 C.uz.f C.uz.d ["self","word","given"] (spF K 3 Dh):=by
 refine Fun.okF C.uz.F So (fun cdv A outer s H E hr=>?_)
 have hu:=hr.units
 refine Ai ?s0 ?t0
 case s0=>exact (By (Bf (C6 hu) C7 (Ah 1) A7 (Bl _)) (Ak (Aq (Dp (Ac (Fx C.ub C.uu (Kp C) hr (Fo C.ud C.vd (Ah 0)) (Ac (Bi Au Av (Ah 2) Aj (fun _ _=>rfl)) (Ac (Bi Au Av (Ah 2) Aj (fun _ _=>rfl)) Af))) Af)))) Br)
 refine Ai ?s1 ?t1
 case s1=>exact (By (Bf (C6 hu) C7 (Ah 1) A7 (Bl _)) (Ak (Aq (Dp (Ac (Fx C.ub C.ur (Kq C) hr (Fo C.ud C.vd (Ah 0)) (Ac (Bi Au Av (Ah 2) Aj (fun _ _=>rfl)) (Ac (Bi Au Av (Ah 2) Aj (fun _ _=>rfl)) Af))) Af)))) Br)
 refine Ai ?s2 ?t2
 case s2=>exact (By (Bf (C6 hu) C7 (Ah 1) A7 (Bl _)) (Ak (Aq (Dp (Ac (Fx C.ub C.uy (Me C) hr (Fo C.ud C.vd (Ah 0)) (Ac (Ah 2) Af)) Af)))) Br)
 exact (Ak Df)
theorem Oy(C:Defs K mg w):FnOk P w K mg base CX0 1 C.uA.f C.uA.d ["word","signs"] (spF K 2 Ej):=by
 refine Fun.okF C.uA.F Wy (fun cdv A outer s H E hr=>?_)
 have hu:=hr.units
 exact (Ak (Aq (Bn (Xx rfl) Ahn (by rfl) C.vm oO (Ac (Ep (N':=["sign","signs"]) (ix:=[none,some 1]) ⟨rfl,rfl,rfl,rfl,rfl,rfl⟩ rfl (Aq1 (Ah 0)) (fun _ _ _ _ _ _=>(Ap (i:=0) (show cG (α:=Str) ["sign","signs"] by decide +kernel))) (fun _ _ _ _ _ _=>(Hv Anb (Uv false) (Ah 0) (Ah 1) (by with_unfolding_all rfl)))) Af))))
theorem Ads(C:Defs K mg w):FnOk P w K mg base CX0 2 C.uB.f C.uB.d ["word"] (spF K 1 Rn):=by
 refine Fun.okF C.uB.F Ae2 (fun cdv A outer s H E hr=>?_)
 have hu:=hr.units
 exact (Ak (Aq (Rg (Vm Kf Kf G9 G9 Aj (Bn B0 Ck (by rfl) C.vp bR (Ac (Ah 0) Af)) (Ts (by rfl) C.vi)) (Q3 (A8 C.uA (Oy C) hr (Ac (Ah 0) (Ac (Abf (by rfl) C.vh) Af)))))))
theorem Aaf(C:Defs K mg w):FnOk P w K mg base CX0 2 C.uC.f C.uC.d ["word"] (spF K 1 Mw):=by
 refine Fun.okF C.uC.F Qb (fun cdv A outer s H E hr=>?_)
 have hu:=hr.units
 refine Ai ?s0 ?t0
 case s0=>exact (Ba (i:=1) (by exact Qb.nd) (Aze (Dq (Md eY lJ lK W5 Vk (Ah 0) (Ac A7 Af))) (Dz An8 Ap4 (Ah 0) (Dl Aj) Dv) (Ah 0)))
 refine Ai ?s1 ?t1
 case s1=>exact (By (PWF.pt (Vf (Bf (C6 hu) C7 (Ah 1) A7 (Bl _)) (Qz (Oa (Dq (A8 C.uA (Oy C) hr (Ac (Ah 1) (Ac (Abf (by rfl) C.vg) Af)))))))) (Ak (Aq Sh)) Br)
 exact (Ak (Aq (Awv (Hv (Fq hu) Ft (Bi Au Av (Ah 1) Aj (fun _ _=>rfl)) A7 (Bl _)) (Q3 (Hv (C6 hu) C7 (Ah 0) A7 (Bl _))))))
theorem Ac7(C:Defs K mg w):FnOk P w K mg base CX0 3 C.uD.f C.uD.d ["word","kind"] (spF K 2 Fu):=by
 refine Fun.okF C.uD.F Ab2 (fun cdv A outer s H E hr=>?_)
 have hu:=hr.units
 refine Ai ?s0 ?t0
 case s0=>exact (By (Bf (C6 hu) C7 (Ah 1) A7 (Bl _)) (Ai (By (Oa (Dq (A8 C.uB (Ads C) hr (Ac (Ah 0) Af)))) (Ak Df) Br) (Ak (Aq (Ah 0)))) Br)
 refine Ai ?s1 ?t1
 case s1=>exact (By (PWF.pt (Vf (Oa (Dq (A8 C.uC (Aaf C) hr (Ac (Ah 0) Af)))) (Qz (Bf Asd Alx (Bn B0 Ck (by rfl) C.vp bR (Ac (Md eY PySem.F.slot_str_lstrip PySem.F.type_str_lstrip Ai4 Aeo (Ah 0) (Ac A7 Af)) Af)) (Ts (by rfl) C.vj) (Bl _))))) (Ak Df) Br)
 refine Ai ?s2 ?t2
 case s2=>exact (By (PWF.pt (Iu (Bf (C6 hu) C7 (Ah 1) A7 (Bl _)) (Gh (Dq (Md eY lJ lK W5 Vk (Ah 0) (Ac A7 Af)))))) (Ak Df) Br)
 exact (Ak (Aq (Hg Ahs Amp (by rfl) C.vn (by decide +kernel) (Ac (Ah 0) Af))))
theorem Sn(C:Defs K mg w):FnOk P w K mg base CX0 4 C.uE.f C.uE.d ["words"] (spF K 1 Gp):=by
 refine Fun.okF C.uE.F Lx (fun cdv A outer s H E hr=>?_)
 have hu:=hr.units
 refine Ai ?s0 ?t0
 case s0=>exact (Ba (i:=1) (by exact Lx.nd) (Am0 C.vf (by rfl) (Bi Au Av (Ah 0) Aj (fun _ _=>rfl)) ⟨rfl,rfl,rfl,rfl⟩))
 refine Ai ?s1 ?t1
 case s1=>exact (By (PWF.pt (Vf (Bf Atr Ape (Ah 1) Awi (Bl _)) (Qz (Bf (Fq hu) Ft (Bn B0 Ck (by rfl) C.vp bR (Ac (Ah 1) Af)) (B2 Tw Qg (Bn B0 Ck (by rfl) C.vp bR (Ac (Ah 0) Af)) Aj) (Bl _))))) (Ak Df) Br)
 exact (Ak (Aq (Hg Hj Nk (by rfl) C.vz (by decide +kernel) (Ac (Ep (N':=["word","kind"]) (ix:=[none,none]) ⟨rfl,rfl,rfl,rfl,rfl,rfl⟩ rfl (Al4 (by rfl) C.vA (Ac (Dz Gg Fi (Ah 0) (Dl Aj) Dv) (Ac (Ah 1) Af))) (fun _ _ _ _ _ _=>(Jw rfl (Bw (Ap (i:=0) (show cG (α:=Str) ["word","kind"] by decide +kernel)) (Bw (Ap (i:=1) (show cG (α:=Str) ["word","kind"] by decide +kernel)) E7)))) (fun _ _ _ _ _ _=>(A8 C.uD (Ac7 C) hr (Ac (Ah 0) (Ac (Ah 1) Af))))) Af))))
theorem Wn(C:Defs K mg w):FnOk P w K mg base CX0 3 C.uF.f C.uF.d ["points"] (spF K 1 Ge):=by
 refine Fun.okF C.uF.F O8 (fun cdv A outer s H E hr=>?_)
 have hu:=hr.units
 refine Ai ?s0 ?t0
 case s0=>exact (Ba (i:=1) (by exact O8.nd) (Ep (N':=["point"]) (ix:=[none]) ⟨rfl,rfl,rfl,rfl,rfl,rfl⟩ rfl (Cj (Ah 0)) (fun _ _ _ _ _ _=>(Ap (i:=0) (show cG (α:=Str) ["point"] by decide +kernel))) (fun _ _ _ _ _ _=>(A8 C.ul (Ng C) hr (Ac (Ah 0) Af)))))
 exact (Ak (Aq (Hg Hj Nk (by rfl) C.vz (by decide +kernel) (Ac (Ep (N':=["place","places"]) (ix:=[none,some 1]) ⟨rfl,rfl,rfl,rfl,rfl,rfl⟩ rfl (Cj (Ah 1)) (fun _ _ _ _ _ _=>(Ap (i:=0) (show cG (α:=Str) ["place","places"] by decide +kernel))) (fun _ _ _ _ _ _=>(A8 C.uq (Ot C) hr (Ac (Ah 1) (Ac (Ah 0) Af))))) Af))))
theorem O1(C:Defs K mg w):FnOk P w K mg base CX0 3 C.uG.f C.uG.d ["points"] (spF K 1 E5):=by
 refine Fun.okF C.uG.F Oi (fun cdv A outer s H E hr=>?_)
 have hu:=hr.units
 refine Ai ?s0 ?t0
 case s0=>exact (Ba (i:=1) (by exact Oi.nd) (Ep (N':=["point"]) (ix:=[none]) ⟨rfl,rfl,rfl,rfl,rfl,rfl⟩ rfl (Cj (Ah 0)) (fun _ _ _ _ _ _=>(Ap (i:=0) (show cG (α:=Str) ["point"] by decide +kernel))) (fun _ _ _ _ _ _=>(A8 C.ul (Ng C) hr (Ac (Ah 0) Af)))))
 exact (Ak (Aq (Hg Hj Nk (by rfl) C.vz (by decide +kernel) (Ac (Ep (N':=["place","places"]) (ix:=[none,some 1]) ⟨rfl,rfl,rfl,rfl,rfl,rfl⟩ rfl (Cj (Ah 1)) (fun _ _ _ _ _ _=>(Ap (i:=0) (show cG (α:=Str) ["place","places"] by decide +kernel))) (fun _ _ _ _ _ _=>(A8 C.ut (Ox C) hr (Ac (Ah 1) (Ac (Ah 0) Af))))) Af))))
theorem Sr(C:Defs K mg w):FnOk P w K mg base CX0 4 C.uH.f C.uH.d ["points"] (spF K 1 E2):=by
 refine Fun.okF C.uH.F Sl (fun cdv A outer s H E hr=>?_)
 have hu:=hr.units
 exact (Ak (Aq (Bn (Aim rfl) Apv (by rfl) C.vy PyProof.Rows.boot_sum (Ac (A8 C.uG (O1 C) hr (Ac (Ah 0) Af)) Af))))
theorem Aez(C:Defs K mg w):FnOk P w K mg base CX0 5 C.uI.f C.uI.d ["word","points"] (spF K 2 Iy):=by
 refine Fun.okF C.uI.F Vq (fun cdv A outer s H E hr=>?_)
 have hu:=hr.units
 refine Ai ?s0 ?t0
 case s0=>exact (By (Bf (C6 hu) C7 (Ah 0) A7 (Bl _)) (Ak (Aq (Ah 1))) Br)
 refine Ai ?s1 ?t1
 case s1=>exact (By (Bf (C6 hu) C7 (Ah 0) A7 (Bl _)) (Ai (An0 (i:=2) (N':=["point"]) (ix:=[none]) (by exact Vq.nd) ⟨rfl,rfl,rfl,rfl,rfl,rfl⟩ rfl (Cj (Ah 1)) (fun _ _ _ _ _ _=>(Ap (i:=0) (show cG (α:=Str) ["point"] by decide +kernel))) (fun _ _ _ _ _ _=>(Bi Au Av (Ah 0) Aj (fun _ _=>rfl)))) (Ak (Aq (Akx rfl (by rfl) C.vq Ad0 (by rfl) C.vA (Ac (Ah 2) (Ac (A8 C.uG (O1 C) hr (Ac (Ah 1) Af)) (Ac (A8 C.uF (Wn C) hr (Ac (Ah 1) Af)) Af))))))) Br)
 refine Ai ?s2 ?t2
 case s2=>exact (By (Bf (C6 hu) C7 (Ah 0) A7 (Bl _)) (Ak (Aq (Cc (Ac (Dp (Ac (A8 C.uH (Sr C) hr (Ac (Ah 1) Af)) Af)) Af)))) Br)
 refine Ai ?s3 ?t3
 case s3=>exact (By (Bf (C6 hu) C7 (Ah 0) A7 (Bl _)) (Ak Df) Br)
 refine Ai ?s4 ?t4
 case s4=>exact (By (Bf (C6 hu) C7 (Ah 0) A7 (Bl _)) (Ak Df) Br)
 refine Ai ?s5 ?t5
 case s5=>exact (By (Bf (C6 hu) C7 (Ah 0) A7 (Bl _)) (Ai Df (Ak Df)) Br)
 exact (Ak Df)
theorem Y8(C:Defs K mg w):FnOk P w K mg base CX0 1 C.uJ.f C.uJ.d ["row"] (spF K 1 Nd):=by
 refine Fun.okF C.uJ.F Aae (fun cdv A outer s H E hr=>?_)
 have hu:=hr.units
 exact (Ak (Aq (Md eY oP oQ Afy Acb A7 (Ac (Ep (N':=["part"]) (ix:=[none]) ⟨rfl,rfl,rfl,rfl,rfl,rfl⟩ rfl (Cj (Ah 0)) (fun _ _ _ _ _ _=>(Ap (i:=0) (show cG (α:=Str) ["part"] by decide +kernel))) (fun _ _ _ _ _ _=>(Hg Ahx Akb (by rfl) C.vx (by decide +kernel) (Ac (Ah 0) Af)))) Af))))
theorem Ol(C:Defs K mg w):FnOk P w K mg base CX0 2 C.uK.f C.uK.d ["rows"] (spF K 1 Ci):=by
 refine Fun.okF C.uK.F Wt (fun cdv A outer s H E hr=>?_)
 have hu:=hr.units
 exact (Ak (Aq (Ey (N':=["row"]) (ix:=[none]) ⟨rfl,rfl,rfl,rfl,rfl,rfl⟩ rfl (Cj (Ah 0)) (fun _ _ _ _ _ _=>(Ap (i:=0) (show cG (α:=Str) ["row"] by decide +kernel))) (fun _ _ _ _ _ _=>(Dq (Ah 0))) (fun _ _ _ _ _ _=>(A8 C.uJ (Y8 C) hr (Ac (Ah 0) Af))))))
theorem Dd(C:Defs K mg w):FnOk P w K mg base CX0 6 C.uL.f C.uL.d ["self","line"] (spF K 2 Ax):=by
 refine Fun.okF C.uL.F Nf (fun cdv A outer s H E hr=>?_)
 have hu:=hr.units
 refine Ai ?s0 ?t0
 case s0=>exact (Ba (i:=2) (by exact Nf.nd) (Md eY iE PySem.F.type_str_split Anj Aj3 (Ah 1) (Ac A7 Af)))
 refine Ai ?s1 ?t1
 case s1=>exact (Ba (i:=3) (by exact Nf.nd) (A8 C.uE (Sn C) hr (Ac (Ah 2) Af)))
 refine Ai ?s2 ?t2
 case s2=>exact (By (Bf Anb (Uv false) (Bi Au Av (Ah 2) Aj (fun _ _=>rfl)) (Dp (Ac A7 (Ac A7 (Ac A7 Af)))) (by with_unfolding_all rfl)) (Ai (C9 (Fx C.ud C.uk (Mf C) hr (Ah 0) (Ac (Bi Au Av (Ah 2) Aj (fun _ _=>rfl)) (Ac (Ah 3) Af)))) (Ak (Aq (Cc Af)))) Br)
 refine Ai ?s3 ?t3
 case s3=>exact (By (Dq (Ah 3)) (Ak (Aq (A8 C.uK (Ol C) hr (Ac (Cc (Ac (Fx C.ud C.uz (Sm C) hr (Ah 0) (Ac (Bi Au Av (Ah 2) Aj (fun _ _=>rfl)) (Ac (Ah 3) Af))) Af)) Af)))) Br)
 exact (Ak (Aq (A8 C.uK (Ol C) hr (Ac (A8 C.uI (Aez C) hr (Ac (Bi Au Av (Ah 2) Aj (fun _ _=>rfl)) (Ac (Rz C.ub C.ue (D8 C) hr (Fo C.ud C.vd (Ah 0))) Af))) Af))))
theorem Bt(C:Defs K mg w):FnOk P w K mg base CX0 1 C.uM.f C.uM.d ["seed","most"] (spF K 2 An):=by
 refine Fun.okF C.uM.F Np (fun cdv A outer s H E hr=>?_)
 have hu:=hr.units
 refine Ai ?s0 ?t0
 case s0=>exact (Nu (B2 Cq Cp (Bi Au Av (Ah 0) Aj (fun _ _=>rfl)) Aj) (Afn (Ah 0) Aj))
 refine Ai ?s1 ?t1
 case s1=>exact (By (PWF.pt (Iu (Bf (C6 hu) C7 (Bi Au Av (Ah 0) Aj (fun _ _=>rfl)) Aj (Bl _)) (Gh (Bf Asd Alx (Bi Au Av (Ah 0) Aj (fun _ _=>rfl)) Aj (Bl _))))) (Ai (Ba (i:=2) (by exact Np.nd) (B2 Pb K4 (Bi Au Av (Ah 0) Aj (fun _ _=>rfl)) (Ah 1))) (Ai (Nu (B2 T7 Y2 (Bi Au Av (Ah 0) Aj (fun _ _=>rfl)) (Ah 1)) (Afn (Ah 0) Aj)) (Ak (Aq (Ah 2))))) Br)
 refine Ai ?s2 ?t2
 case s2=>exact (Ba (i:=3) (by exact Np.nd) (B2 Pb K4 (B2 Nt Nl (B2 Cq Cp (B2 Cq Cp (Bi Au Av (Ah 0) Aj (fun _ _=>rfl)) (B2 Nt Nl Aj (Bi Au Av (Ah 0) Aj (fun _ _=>rfl)))) Aj) Aj) Aj))
 refine Ai ?s3 ?t3
 case s3=>exact (Ba (i:=3) (by exact Np.nd) (B2 Pb K4 (B2 Nt Nl (B2 Pb K4 (B2 Nt Nl (Ah 3) (Ah 3)) Aj) Aj) Aj))
 exact (Ak (Aq (B2 Pb K4 (B2 T7 Y2 (Ah 3) Aj) (Ah 1))))
theorem Ra(C:Defs K mg w):FnOk P w K mg base CX0 1 C.uN.f C.uN.d ["pool","number"] (spF K 2 Gj):=by
 refine Fun.okF C.uN.F Ah1 (fun cdv A outer s H E hr=>?_)
 have hu:=hr.units
 refine Ai ?s0 ?t0
 case s0=>exact (By (Bf Atf Ano (Ah 1) Aj (Bl _)) (Ak (Aq (Bi Au Av (Ah 0) (Ah 1) (fun _ _=>rfl)))) Br)
 exact (Ak (Aq (B2 Cq Cp (B2 Cq Cp A7 (Bi Au Av A7 (B2 T7 Y2 (Ah 1) Aj) (fun _ _=>rfl))) (Bi Au Av A7 (B2 Pb K4 (Ah 1) Aj) (fun _ _=>rfl)))))
theorem Ha(C:Defs K mg w):FnOk P w K mg base CX0 2 C.uO.f C.uO.d ["seed","kind"] (spF K 2 Ec):=by
 refine Fun.okF C.uO.F Afc (fun cdv A outer s H E hr=>?_)
 have hu:=hr.units
 refine Ai ?s0 ?t0
 case s0=>exact (By (Bf Atf Ano (Ah 1) Aj (Bl _)) (Ak (Aq (B2 Tw Qg (A8 C.uM (Bt C) hr (Ac (Ah 0) (Ac (Bi Au Av (Cc (Ac Aj (Ac Aj Af))) (Ah 1) (fun _ _=>rfl)) Af))) Aj))) Br)
 exact (Ak (Aq (B2 Nt Nl (B2 Cq Cp (B2 Nt Nl (A8 C.uM (Bt C) hr (Ac (Ah 0) (Ac (B2 V2 Qv Aj Aj) Af))) (B2 V2 Qv Aj Aj)) (A8 C.uM (Bt C) hr (Ac (Ah 0) (Ac (B2 V2 Qv Aj Aj) Af)))) (Bi Au Av (Cc (Ac Aj (Ac (Adu Aj) Af))) (A8 C.uM (Bt C) hr (Ac (Ah 0) (Ac Aj Af))) (fun _ _=>rfl)))))
theorem Aii(C:Defs K mg w):FnOk P w K mg base CX0 2 C.uP.f C.uP.d ["seed"] (spF K 1 Vo):=by
 refine Fun.okF C.uP.F Kk (fun cdv A outer s H E hr=>?_)
 have hu:=hr.units
 refine Ai ?s0 ?t0
 case s0=>
  refine Ba (i:=1) (hi:=?h1_0) (hx:=?h2_0) (hf:=?h3_0) (hs:=?h4_0) ?h5_0 ?h6_0
  case h1_0=>rfl
  case h2_0=>first | exact rD rfl | exact qB rfl
  case h3_0=>first | exact .inl rfl | exact .inr rfl
  case h4_0=>rfl
  case h5_0=>exact (by exact Kk.nd)
  case h6_0=>
   refine Cc ?g
   refine Ac (hs:=?q0) ?e0 ?r0
   case q0=>rfl
   case e0=>exact A7
   refine Ac (hs:=?q1) ?e1 ?r1
   case q1=>rfl
   case e1=>exact A7
   refine Ac (hs:=?q2) ?e2 ?r2
   case q2=>rfl
   case e2=>exact A7
   refine Ac (hs:=?q3) ?e3 ?r3
   case q3=>rfl
   case e3=>exact A7
   refine Ac (hs:=?q4) ?e4 ?r4
   case q4=>rfl
   case e4=>exact A7
   refine Ac (hs:=?q5) ?e5 ?r5
   case q5=>rfl
   case e5=>exact A7
   refine Ac (hs:=?q6) ?e6 ?r6
   case q6=>rfl
   case e6=>exact A7
   refine Ac (hs:=?q7) ?e7 ?r7
   case q7=>rfl
   case e7=>exact A7
   refine Ac (hs:=?q8) ?e8 ?r8
   case q8=>rfl
   case e8=>exact A7
   refine Ac (hs:=?q9) ?e9 ?r9
   case q9=>rfl
   case e9=>exact A7
   refine Ac (hs:=?q10) ?e10 ?r10
   case q10=>rfl
   case e10=>exact A7
   refine Ac (hs:=?q11) ?e11 ?r11
   case q11=>rfl
   case e11=>exact A7
   exact Af
 refine Ai ?s1 ?t1
 case s1=>exact (Ba (i:=2) (by exact Kk.nd) A7)
 refine Ai ?s2 ?t2
 case s2=>exact (Jv fS rfl (G5 (by rfl) C.vw (Ac Aj Af)) (Ap (i:=3) (by exact Kk.nd)) (Ai (Ba (i:=4) (by exact Kk.nd) (Md eY oP oQ Afy Acb A7 (Ac (Ep (N':=["turn","letters","seed"]) (ix:=[none,some 2,some 0]) ⟨rfl,rfl,rfl,rfl,rfl,rfl⟩ rfl (G5 (by rfl) C.vw (Ac (B2 Cq Cp Aj (A8 C.uM (Bt C) hr (Ac (Ah 0) (Ac Aj Af)))) Af)) (fun _ _ _ _ _ _=>(Ap (i:=0) (show cG (α:=Str) ["turn","letters","seed"] by decide +kernel))) (fun _ _ _ _ _ _=>(Bi Au Av (Ah 1) (A8 C.uM (Bt C) hr (Ac (Ah 2) (Ac Aj Af))) (fun _ _=>rfl)))) Af))) (Ak (By (PWF.pt (Iu (Bf Rc (Uv true) (Ah 4) (Ah 1) (by with_unfolding_all rfl)) (Gh (Bf Rc (Uv true) (Bi Au Av (Ah 4) Aj (fun _ _=>rfl)) A7 (by with_unfolding_all rfl))))) (Ak (C9 (Md dM fH fI Kt Jf (Ah 1) (Ac (Ah 4) Af)))) Br))))
 exact (Ak (Aq (Ep (N':=["k","spare","seed"]) (ix:=[none,some 1,some 0]) ⟨rfl,rfl,rfl,rfl,rfl,rfl⟩ rfl (G5 (by rfl) C.vw (Ac Aj Af)) (fun _ _ _ _ _ _=>(Ap (i:=0) (show cG (α:=Str) ["k","spare","seed"] by decide +kernel))) (fun _ _ _ _ _ _=>(Md dM PySem.F.slot_list_pop PySem.F.type_list_pop Alr Aqv (Ah 1) (Ac (A8 C.uM (Bt C) hr (Ac (Ah 2) (Ac (Bn B0 Ck (by rfl) C.vp bR (Ac (Ah 1) Af)) Af))) Af))))))
theorem Aek(C:Defs K mg w):FnOk P w K mg base CX0 3 C.uQ.f C.uQ.d ["seed","most"] (spF K 2 Ru):=by
 refine Fun.okF C.uQ.F Ef (fun cdv A outer s H E hr=>?_)
 have hu:=hr.units
 refine Ai ?s0 ?t0
 case s0=>exact (Ba (i:=2) (by exact Ef.nd) (A8 C.uP (Aii C) hr (Ac (Ah 0) Af)))
 refine Ai ?s1 ?t1
 case s1=>exact (Ba (i:=3) (by exact Ef.nd) (A8 C.uM (Bt C) hr (Ac (Ah 0) (Ac Aj Af))))
 refine Ai ?s2 ?t2
 case s2=>exact (Ba (i:=4) (by exact Ef.nd) (Cc Af))
 refine Ai ?s3 ?t3
 case s3=>exact (Jv fS rfl (G5 (by rfl) C.vw (Ac (A8 C.uM (Bt C) hr (Ac (Ah 0) (Ac (B2 Cq Cp (Ah 1) Aj) Af))) Af)) (Ap (i:=5) (by exact Ef.nd)) (Ai (Ba (i:=6) (by exact Ef.nd) (A8 C.uO (Ha C) hr (Ac (Ah 0) (Ac (Ah 3) Af)))) (Ai (Ba (i:=7) (by exact Ef.nd) (A8 C.uO (Ha C) hr (Ac (Ah 0) (Ac (Ah 3) Af)))) (Ai (By (PWF.pt (Iu (Bf (Fq hu) Ft (Ah 4) (Cc Af) (Bl _)) (Gh (Bf (C6 hu) C7 (A8 C.uM (Bt C) hr (Ac (Ah 0) (Ac Aj Af))) Aj (Bl _))))) (Ai (Ba (i:=6) (by exact Ef.nd) (Bi Au Av (Bi Au Av (Ah 4) (A8 C.uM (Bt C) hr (Ac (Ah 0) (Ac (Bn B0 Ck (by rfl) C.vp bR (Ac (Ah 4) Af)) Af))) (fun _ _=>rfl)) Aj (fun _ _=>rfl))) (Ak (Ba (i:=7) (by exact Ef.nd) (Bi Au Av (Bi Au Av (Ah 4) (A8 C.uM (Bt C) hr (Ac (Ah 0) (Ac (Bn B0 Ck (by rfl) C.vp bR (Ac (Ah 4) Af)) Af))) (fun _ _=>rfl)) Aj (fun _ _=>rfl))))) Br) (Ak (C9 (Md dM fH fI Kt Jf (Ah 4) (Ac (Dp (Ac (A8 C.uN (Ra C) hr (Ac (Ah 2) (Ac (Ah 5) Af))) (Ac (Ah 6) (Ac (Ah 7) Af)))) Af))))))))
 exact (Ak (Aq (Cc (Ac (Ah 2) (Ac (Ah 3) (Ac (Ah 4) Af))))))
theorem Ve(C:Defs K mg w):FnOk P w K mg base CX0 1 C.uR.f C.uR.d ["script","many"] (spF K 2 Kj):=by
 refine Fun.okF C.uR.F Aef (fun cdv A outer s H E hr=>?_)
 have hu:=hr.units
 exact (Ak (Aq (B2 Cq Cp (Dz Gg Fi (Ah 0) Dv (Dl (Ah 1))) (Cc (Ac (Bn B0 Ck (by rfl) C.vp bR (Ac (Ah 0) Af)) Af)))))
theorem Jq(C:Defs K mg w):FnOk P w K mg base CX0 1 C.uS.f C.uS.d ["one","other"] (spF K 2 G8):=by
 refine Fun.okF C.uS.F Adm (fun cdv A outer s H E hr=>?_)
 have hu:=hr.units
 exact (Ak (Aq (Rg (Hv (Fq hu) Ft (Ah 0) (Ah 1) (Bl _)) (Rg (Hv Kf G9 (Bi Au Av (Ah 0) Aj (fun _ _=>rfl)) (Bi Au Av (Ah 1) Aj (fun _ _=>rfl)) (Bl _)) (Q3 (Hv Kf G9 (Bi Au Av (Ah 0) Aj (fun _ _=>rfl)) (Bi Au Av (Ah 1) Aj (fun _ _=>rfl)) (Bl _)))))))
theorem R1(C:Defs K mg w):FnOk P w K mg base CX0 2 C.uT.f C.uT.d ["points"] (spF K 1 Hc):=by
 refine Fun.okF C.uT.F Ez (fun cdv A outer s H E hr=>?_)
 have hu:=hr.units
 refine Ai ?s0 ?t0
 case s0=>exact (Ba (i:=1) (by exact Ez.nd) (Cc Af))
 refine Ai ?s1 ?t1
 case s1=>exact (Jv fS rfl (Cj (Ah 0)) (Jw rfl (Bw (Ap (i:=2) (by exact Ez.nd)) (Bw (Ap (i:=3) (by exact Ez.nd)) (Bw (Ap (i:=4) (by exact Ez.nd)) E7)))) (Ai (Ba (i:=5) (by exact Ez.nd) (Bn B0 Ck (by rfl) C.vp bR (Ac (Ey (N':=["other","x","y"]) (ix:=[none,some 3,some 4]) ⟨rfl,rfl,rfl,rfl,rfl,rfl⟩ rfl (Cj (Ah 0)) (fun _ _ _ _ _ _=>(Ap (i:=0) (show cG (α:=Str) ["other","x","y"] by decide +kernel))) (fun _ _ _ _ _ _=>(Dq (A8 C.uS (Jq C) hr (Ac (Dz Gg Fi (Ah 0) (Dl Aj) Dv) (Ac (Dp (Ac (Ah 1) (Ac (Ah 2) Af))) Af))))) (fun _ _ _ _ _ _=>Aj)) Af))) (Ai (Ba (i:=6) (by exact Ez.nd) (Bn B0 Ck (by rfl) C.vp bR (Ac (Ey (N':=["other","x","y"]) (ix:=[none,some 3,some 4]) ⟨rfl,rfl,rfl,rfl,rfl,rfl⟩ rfl (Cj (Ah 0)) (fun _ _ _ _ _ _=>(Ap (i:=0) (show cG (α:=Str) ["other","x","y"] by decide +kernel))) (fun _ _ _ _ _ _=>(Dq (A8 C.uS (Jq C) hr (Ac (Dp (Ac (Ah 1) (Ac (Ah 2) Af))) (Ac (Dz Gg Fi (Ah 0) (Dl Aj) Dv) Af))))) (fun _ _ _ _ _ _=>Aj)) Af))) (Ak (C9 (Md dM fH fI Kt Jf (Ah 1) (Ac (B2 Cq Cp (Ah 2) (Kv (.cons A7 (.cons (Fj (Ah 5)) (.cons A7 (.cons (Fj (Ah 6)) .nil)))))) Af)))))))
 exact (Ak (Aq (Ah 1)))
theorem Iz(C:Defs K mg w):FnOk P w K mg base CX0 1 C.uU.f C.uU.d ["points"] (spF K 1 Dx):=by
 refine Fun.okF C.uU.F Aib (fun cdv A outer s H E hr=>?_)
 have hu:=hr.units
 exact (Ak (Aq (Ep (N':=["name","x","y"]) (ix:=[none,none,none]) ⟨rfl,rfl,rfl,rfl,rfl,rfl⟩ rfl (Cj (Ah 0)) (fun _ _ _ _ _ _=>(Jw rfl (Bw (Ap (i:=0) (show cG (α:=Str) ["name","x","y"] by decide +kernel)) (Bw (Ap (i:=1) (show cG (α:=Str) ["name","x","y"] by decide +kernel)) (Bw (Ap (i:=2) (show cG (α:=Str) ["name","x","y"] by decide +kernel)) E7))))) (fun _ _ _ _ _ _=>(B2 Cq Cp (Ah 0) (Kv (.cons A7 (.cons (Fj (Ah 1)) (.cons A7 (.cons (Fj (Ah 2)) .nil))))))))))
theorem Aip(C:Defs K mg w):FnOk P w K mg base CX0 3 C.uV.f C.uV.d ["seed","pool","kind","points"] (spF K 4 Ub):=by
 refine Fun.okF C.uV.F Dt (fun cdv A outer s H E hr=>?_)
 have hu:=hr.units
 refine Ai ?s0 ?t0
 case s0=>exact (Ba (i:=4) (by exact Dt.nd) (Ep (N':=["point"]) (ix:=[none]) ⟨rfl,rfl,rfl,rfl,rfl,rfl⟩ rfl (Cj (Ah 3)) (fun _ _ _ _ _ _=>(Ap (i:=0) (show cG (α:=Str) ["point"] by decide +kernel))) (fun _ _ _ _ _ _=>(Bi Au Av (Ah 0) Aj (fun _ _=>rfl)))))
 refine Ai ?s1 ?t1
 case s1=>exact (Ba (i:=5) (by exact Dt.nd) (A8 C.uM (Bt C) hr (Ac (Ah 0) (Ac Aj Af))))
 refine Ai ?s2 ?t2
 case s2=>exact (Ba (i:=6) (by exact Dt.nd) (A8 C.uO (Ha C) hr (Ac (Ah 0) (Ac (Ah 2) Af))))
 refine Ai ?s3 ?t3
 case s3=>exact (Ba (i:=7) (by exact Dt.nd) (A8 C.uO (Ha C) hr (Ac (Ah 0) (Ac (Ah 2) Af))))
 refine Ai ?s4 ?t4
 case s4=>exact (By (PWF.pt (Iu (Bf (Fq hu) Ft (Ah 3) (Cc Af) (Bl _)) (Gh (Bf (C6 hu) C7 (A8 C.uM (Bt C) hr (Ac (Ah 0) (Ac Aj Af))) Aj (Bl _))))) (Ai (Ba (i:=6) (by exact Dt.nd) (Bi Au Av (Bi Au Av (Ah 3) Aj (fun _ _=>rfl)) Aj (fun _ _=>rfl))) (Ak (Ba (i:=7) (by exact Dt.nd) (Bi Au Av (Bi Au Av (Ah 3) (Adu Aj) (fun _ _=>rfl)) Aj (fun _ _=>rfl))))) Br)
 refine Ai ?s5 ?t5
 case s5=>exact (By (PWF.pt (Iu (Bf (Fq hu) Ft (Ah 3) (Cc Af) (Bl _)) (Gh (PWF.pt (Vf (Bf (C6 hu) C7 (Ah 5) Aj (Bl _)) (Qz (Bf (C6 hu) C7 (Bn B0 Ck (by rfl) C.vp bR (Ac (Ah 3) Af)) Aj (Bl _)))))))) (Ai (Ba (i:=8) (by exact Dt.nd) (A8 C.uM (Bt C) hr (Ac (Ah 0) (Ac (Bn B0 Ck (by rfl) C.vp bR (Ac (Ah 3) Af)) Af)))) (Ak (Aq (Cc (Ac (B2 Cq Cp A7 (Bi Au Av (Ah 4) (Ah 8) (fun _ _=>rfl))) (Ac (B2 Cq Cp (Dz Gg Fi (Ah 3) Dv (Dl (Ah 8))) (Dz Gg Fi (Ah 3) (Dl (B2 Cq Cp (Ah 8) Aj)) Dv)) Af)))))) Br)
 refine Ai ?s6 ?t6
 case s6=>exact (By (PWF.pt (Iu (Bf (Fq hu) Ft (Ah 3) (Cc Af) (Bl _)) (Gh (Bf (C6 hu) C7 (Ah 5) Aj (Bl _))))) (Ai (Ba (i:=8) (by exact Dt.nd) (A8 C.uM (Bt C) hr (Ac (Ah 0) (Ac (Bn B0 Ck (by rfl) C.vp bR (Ac (Ah 3) Af)) Af)))) (Ai (Ba (i:=9) (by exact Dt.nd) (Dp (Ac (Bi Au Av (Ah 4) (Ah 8) (fun _ _=>rfl)) (Ac (Ah 6) (Ac (Ah 7) Af))))) (Ak (Aq (Cc (Ac (B2 Cq Cp A7 (Bi Au Av (A8 C.uU (Iz C) hr (Ac (Cc (Ac (Ah 9) Af)) Af)) Aj (fun _ _=>rfl))) (Ac (B2 Cq Cp (B2 Cq Cp (Dz Gg Fi (Ah 3) Dv (Dl (Ah 8))) (Cc (Ac (Ah 9) Af))) (Dz Gg Fi (Ah 3) (Dl (B2 Cq Cp (Ah 8) Aj)) Dv)) Af))))))) Br)
 refine Ai ?s7 ?t7
 case s7=>exact (Ah0 (i:=10) (N':=["k","pool","there"]) (ix:=[none,some 1,some 4]) (by exact Dt.nd) ⟨rfl,rfl,rfl,rfl,rfl,rfl⟩ rfl (G5 (by rfl) C.vw (Ac (Bn (Aiq rfl) Aoc (by rfl) C.vv PyProof.Rows.boot_min (Ac Aj (Ac (B2 Cq Cp (Bn B0 Ck (by rfl) C.vp bR (Ac (Ah 3) Af)) Aj) Af))) Af)) (fun _ _ _ _ _ _=>(Ap (i:=0) (show cG (α:=Str) ["k","pool","there"] by decide +kernel))) (fun _ _ _ _ _ _=>(Bf Rc (Uv true) (A8 C.uN (Ra C) hr (Ac (Ah 1) (Ac (Ah 0) Af))) (Ah 2) (by with_unfolding_all rfl))) (fun _ _ _ _ _ _=>(A8 C.uN (Ra C) hr (Ac (Ah 1) (Ac (Ah 0) Af)))))
 refine Ai ?s8 ?t8
 case s8=>exact (Ba (i:=11) (by exact Dt.nd) (Dp (Ac (Bi Au Av (Ah 10) (A8 C.uM (Bt C) hr (Ac (Ah 0) (Ac (Bn B0 Ck (by rfl) C.vp bR (Ac (Ah 10) Af)) Af))) (fun _ _=>rfl)) (Ac (Ah 6) (Ac (Ah 7) Af)))))
 exact (Ak (Aq (Cc (Ac (B2 Cq Cp A7 (Bi Au Av (A8 C.uU (Iz C) hr (Ac (Cc (Ac (Ah 11) Af)) Af)) Aj (fun _ _=>rfl))) (Ac (B2 Cq Cp (Ah 3) (Cc (Ac (Ah 11) Af))) Af)))))
theorem K7(C:Defs K mg w):FnOk P w K mg base CX0 1 C.uW.f C.uW.d ["self"] (spF K 1 Cy):=by
 refine Fun.okF C.uW.F Lv (fun cdv A outer s H E hr=>?_)
 have hu:=hr.units
 exact (Ak (Ag4 C.ub C.ve (Ah 0) Aqd))
theorem Q8(C:Defs K mg w):FnOk P w K mg base CX0 3 C.uX.f C.uX.d ["self"] (spF K 1 El):=by
 refine Fun.okF C.uX.F Rm (fun cdv A outer s H E hr=>?_)
 have hu:=hr.units
 exact (Ak (Ag4 C.ud C.vd (Ah 0) (Ac3 C.ub.ns (A0b C.uW C.vb) (K7 C) (hr.mono (by decide)) (by rfl) C.vc C.uW.b)))
theorem Ais(C:Defs K mg w):FnOk P w K mg base CX0 7 C.uY.f C.uY.d ["points"] (spF K 1 Uz):=by
 refine Fun.okF C.uY.F Q2 (fun cdv A outer s H E hr=>?_)
 have hu:=hr.units
 refine Ai ?s0 ?t0
 case s0=>exact (Ba (i:=1) (by exact Q2.nd) (Ac3 C.ud.ns (A0b C.uX C.u9) (Q8 C) (hr.mono (by decide)) (by rfl) C.va C.uX.b))
 refine Ai ?s1 ?t1
 case s1=>exact (Jv fS rfl (Cj (A8 C.uU (Iz C) hr (Ac (Ah 0) Af))) (Ap (i:=2) (by exact Q2.nd)) (Ak (C9 (Fx C.ud C.uL (Dd C) hr (Ah 1) (Ac (B2 Cq Cp A7 (Ah 2)) Af)))))
 exact (Ak (Aq (Ah 1)))
theorem Mc(C:Defs K mg w):FnOk P w K mg base CX0 3 C.uZ.f C.uZ.d ["seed","kind","points"] (spF K 3 Gb):=by
 refine Fun.okF C.uZ.F Fe (fun cdv A outer s H E hr=>?_)
 have hu:=hr.units
 refine Ai ?s0 ?t0
 case s0=>exact (Ba (i:=3) (by exact Fe.nd) (Dp (Ac (A8 C.uO (Ha C) hr (Ac (Ah 0) (Ac (Ah 1) Af))) (Ac (A8 C.uO (Ha C) hr (Ac (Ah 0) (Ac (Ah 1) Af))) Af))))
 refine Ai ?s1 ?t1
 case s1=>exact (By (PWF.pt (Iu (Bf (Fq hu) Ft (Ah 2) (Cc Af) (Bl _)) (Gh (Bf (C6 hu) C7 (A8 C.uM (Bt C) hr (Ac (Ah 0) (Ac Aj Af))) Aj (Bl _))))) (Ai (Ba (i:=4) (by exact Fe.nd) (A8 C.uM (Bt C) hr (Ac (Ah 0) (Ac (Bn B0 Ck (by rfl) C.vp bR (Ac (Ah 2) Af)) Af)))) (Ak (Ba (i:=3) (by exact Fe.nd) (Dp (Ac (B2 Tw Qg (Bi Au Av (Bi Au Av (Ah 2) (Ah 4) (fun _ _=>rfl)) Aj (fun _ _=>rfl)) (A8 C.uM (Bt C) hr (Ac (Ah 0) (Ac Aj Af)))) (Ac (Bi Au Av (Bi Au Av (Ah 2) (A8 C.uM (Bt C) hr (Ac (Ah 0) (Ac (Bn B0 Ck (by rfl) C.vp bR (Ac (Ah 2) Af)) Af))) (fun _ _=>rfl)) Aj (fun _ _=>rfl)) Af)))))) Br)
 exact (Ak (Aq (Dp (Ac (Bn (Wz rfl) Ahg (by rfl) C.vt oR (Ac (Bi Au Av (Ah 3) Aj (fun _ _=>rfl)) (Ac (B2 Tw Qg Aj (B2 V2 Qv Aj Aj)) Af))) (Ac (Bi Au Av (Ah 3) Aj (fun _ _=>rfl)) Af)))))
theorem Qq(C:Defs K mg w):FnOk P w K mg base CX0 7 C.u5.f C.u5.d ["seed","kind","desk","points"] (spF K 4 G3):=by
 refine Fun.okF C.u5.F Bs (fun cdv A outer s H E hr=>?_)
 have hu:=hr.units
 refine Ai ?s0 ?t0
 case s0=>exact (Nu (A8 C.uZ (Mc C) hr (Ac (Ah 0) (Ac (Ah 1) (Ac (Ah 3) Af)))) (Jw rfl (Bw (Ap (i:=4) (by exact Bs.nd)) (Bw (Ap (i:=5) (by exact Bs.nd)) E7))))
 refine Ai ?s1 ?t1
 case s1=>exact (Ba (i:=6) (by exact Bs.nd) (Bn B0 Ck (by rfl) C.vp bR (Ac (Ey (N':=["point","x","y"]) (ix:=[none,some 4,some 5]) ⟨rfl,rfl,rfl,rfl,rfl,rfl⟩ rfl (Cj (Ah 3)) (fun _ _ _ _ _ _=>(Ap (i:=0) (show cG (α:=Str) ["point","x","y"] by decide +kernel))) (fun _ _ _ _ _ _=>(Dq (A8 C.uS (Jq C) hr (Ac (Dz Gg Fi (Ah 0) (Dl Aj) Dv) (Ac (Dp (Ac (Ah 1) (Ac (Ah 2) Af))) Af))))) (fun _ _ _ _ _ _=>Aj)) Af)))
 refine Ai ?s2 ?t2
 case s2=>exact (Ba (i:=7) (by exact Bs.nd) (Bn B0 Ck (by rfl) C.vp bR (Ac (Ey (N':=["point","x","y"]) (ix:=[none,some 4,some 5]) ⟨rfl,rfl,rfl,rfl,rfl,rfl⟩ rfl (Cj (Ah 3)) (fun _ _ _ _ _ _=>(Ap (i:=0) (show cG (α:=Str) ["point","x","y"] by decide +kernel))) (fun _ _ _ _ _ _=>(Dq (A8 C.uS (Jq C) hr (Ac (Dp (Ac (Ah 1) (Ac (Ah 2) Af))) (Ac (Dz Gg Fi (Ah 0) (Dl Aj) Dv) Af))))) (fun _ _ _ _ _ _=>Aj)) Af)))
 refine Ai ?s3 ?t3
 case s3=>exact (Ba (i:=8) (by exact Bs.nd) (Apk (Cc (Ac (Cc (Ac (Kv (.cons A7 (.cons (Fj (Ah 4)) (.cons A7 (.cons (Fj (Ah 5)) .nil))))) (Ac (Ah 6) Af))) (Ac (Cc (Ac (Kv (.cons A7 (.cons (Fj (Ah 4)) (.cons A7 (.cons (Fj (Ah 5)) .nil))))) (Ac (Ah 7) Af))) Af))) (Bi Au Av (Cc (Ac Aj (Ac (Adu Aj) Af))) (A8 C.uM (Bt C) hr (Ac (Ah 0) (Ac Aj Af))) (fun _ _=>rfl))))
 refine Ai ?s4 ?t4
 case s4=>exact (Jv fS rfl (Cj (Dz Gg Fi (Ah 8) Dv (Dl (B2 Cq Cp Aj (A8 C.uM (Bt C) hr (Ac (Ah 0) (Ac Aj Af))))))) (Vn rfl (Bw (Ap (i:=9) (by exact Bs.nd)) (Bw (Ap (i:=10) (by exact Bs.nd)) E7))) (Ak (By (Bf (Fq hu) Ft (Fx C.ud C.uL (Dd C) hr (Ah 2) (Ac (Ah 9) Af)) (Cc (Ac (Pt (Fj (Ah 10))) Af)) (Bl _)) (Ak (Aq Sh)) Br)))
 refine Ai ?s5 ?t5
 case s5=>exact (Nu (A8 C.uZ (Mc C) hr (Ac (Ah 0) (Ac (Ah 1) (Ac (Ah 3) Af)))) (Jw rfl (Bw (Ap (i:=11) (by exact Bs.nd)) (Bw (Ap (i:=12) (by exact Bs.nd)) E7))))
 refine Ai ?s6 ?t6
 case s6=>exact (Ba (i:=13) (by exact Bs.nd) (Bn B0 Ck (by rfl) C.vp bR (Ac (Ey (N':=["point","x","end","y","top"]) (ix:=[none,some 4,some 11,some 5,some 12]) ⟨rfl,rfl,rfl,rfl,rfl,rfl⟩ rfl (Cj (Ah 3)) (fun _ _ _ _ _ _=>(Ap (i:=0) (show cG (α:=Str) ["point","x","end","y","top"] by decide +kernel))) (fun _ _ _ _ _ _=>(PWF.pt (Iu (Xp Kf Kf G9 G9 (Ah 1) (Bi Au Av (Ah 0) Aj (fun _ _=>rfl)) (Ah 2)) (Gh (Xp Kf Kf G9 G9 (Ah 3) (Bi Au Av (Ah 0) Aj (fun _ _=>rfl)) (Ah 4)))))) (fun _ _ _ _ _ _=>Aj)) Af)))
 exact (Ak (Aq (Hv (C6 hu) C7 (Fx C.ud C.uL (Dd C) hr (Ah 2) (Ac (Kv (.cons A7 (.cons (Fj (Ah 4)) (.cons A7 (.cons (Fj (Ah 5)) (.cons A7 (.cons (Fj (Ah 11)) (.cons A7 (.cons (Fj (Ah 12)) .nil))))))))) Af)) (Cc (Ac (Pt (Fj (Ah 13))) Af)) (Bl _))))
theorem Vs(C:Defs K mg w):FnOk P w K mg base CX0 8 C.u6.f C.u6.d ["seed","kind","desk","points"] (spF K 4 Km):=by
 refine Fun.okF C.u6.F Fv (fun cdv A outer s H E hr=>?_)
 have hu:=hr.units
 refine Ai ?s0 ?t0
 case s0=>exact (Ba (i:=4) (by exact Fv.nd) (Fx C.ud C.uL (Dd C) hr (Ah 2) (Ac A7 Af)))
 refine Ai ?s1 ?t1
 case s1=>exact (By (PWF.pt (Vf (Oa (Dq (Av1 Akf (Ah 4) (by rfl) C.vo (by rfl) C.vq (by decide +kernel)))) (Qz (Bf (Fq hu) Ft (Ah 4) (A8 C.uU (Iz C) hr (Ac (Ah 3) Af)) (Bl _))))) (Ak (Aq Sh)) Br)
 refine Ai ?s2 ?t2
 case s2=>exact (C9 (Am6 dM nH nI Xg Yp (Ah 4)))
 refine Ai ?s3 ?t3
 case s3=>exact (Ba (i:=4) (by exact Fv.nd) (Fx C.ud C.uL (Dd C) hr (Ah 2) (Ac A7 Af)))
 refine Ai ?s4 ?t4
 case s4=>exact (By (Bf (Fq hu) Ft (Ah 4) (A8 C.uT (R1 C) hr (Ac (Ah 3) Af)) (Bl _)) (Ak (Aq Sh)) Br)
 refine Ai ?s5 ?t5
 case s5=>exact (C9 (Am6 dM nH nI Xg Yp (Ah 4)))
 refine Ai ?s6 ?t6
 case s6=>exact (Ba (i:=5) (by exact Fv.nd) Aj)
 refine Ai ?s7 ?t7
 case s7=>exact (Jv fS rfl (Cj (Ah 3)) (Ap (i:=6) (by exact Fv.nd)) (Ak (Ba (i:=5) (by exact Fv.nd) (B2 Cq Cp (Ah 5) (Bn B0 Ck (by rfl) C.vp bR (Ac (Ey (N':=["other","one"]) (ix:=[none,some 6]) ⟨rfl,rfl,rfl,rfl,rfl,rfl⟩ rfl (Cj (Ah 3)) (fun _ _ _ _ _ _=>(Ap (i:=0) (show cG (α:=Str) ["other","one"] by decide +kernel))) (fun _ _ _ _ _ _=>(Dq (A8 C.uS (Jq C) hr (Ac (Dz Gg Fi (Ah 1) (Dl Aj) Dv) (Ac (Dz Gg Fi (Ah 0) (Dl Aj) Dv) Af))))) (fun _ _ _ _ _ _=>Aj)) Af))))))
 refine Ai ?s8 ?t8
 case s8=>exact (By (Bf (Fq hu) Ft (Fx C.ud C.uL (Dd C) hr (Ah 2) (Ac A7 Af)) (Cc (Ac (Pt (Fj (Ah 5))) Af)) (Bl _)) (Ak (Aq Sh)) Br)
 refine Ai ?s9 ?t9
 case s9=>exact (Jv fS rfl (G5 (by rfl) C.vw (Ac Aj Af)) (Ap (i:=7) (by exact Fv.nd)) (Ak (By (Oa (Dq (A8 C.u5 (Qq C) hr (Ac (Ah 0) (Ac (Ah 1) (Ac (Ah 2) (Ac (Ah 3) Af))))))) (Ak (Aq Sh)) Br)))
 exact (Ak (Aq (Hv (C6 hu) C7 (Fx C.ud C.uL (Dd C) hr (Ah 2) (Ac A7 Af)) (A8 C.uU (Iz C) hr (Ac (Ah 3) Af)) (Bl _))))
theorem Yi(C:Defs K mg w):FnOk P w K mg base CX0 1 C.u7.f C.u7.d ["cell"] (spF K 1 Mm):=by
 refine Fun.okF C.u7.F Yh (fun cdv A outer s H E hr=>?_)
 have hu:=hr.units
 refine Ai ?s0 ?t0
 case s0=>exact (Ba (i:=1) (by exact Yh.nd) (Bn (Wz rfl) Ahg (by rfl) C.vt oR (Ac (Ah 0) (Ac (B2 Tw Qg Aj (Ah 0)) Af))))
 exact (Ak (Aq (Cc (Ac (Ah 1) (Ac (Hg Aja Ap7 (by rfl) C.vn (by decide +kernel) (Ac (Hv Ass Aln (Ah 1) (B2 V2 Qv Aj Aj) (Bl _)) Af)) (Ac Aj (Ac (B2 Pb K4 (Ah 0) Aj) Af)))))))
theorem Auh(C:Defs K mg w):FnOk P w K mg base CX0 9 C.u8.f C.u8.d ["script"] (spF K 1 Yj):=by
 refine Fun.okF C.u8.F Jl (fun cdv A outer s H E hr=>?_)
 have hu:=hr.units
 refine Ai ?s0 ?t0
 case s0=>exact (Ba (i:=1) (by exact Jl.nd) (A8 C.u7 (Yi C) hr (Ac (Bi Au Av (A8 C.uR (Ve C) hr (Ac (Ah 0) (Ac Aj Af))) Aj (fun _ _=>rfl)) Af)))
 refine Ai ?s1 ?t1
 case s1=>exact (Nu (A8 C.uQ (Aek C) hr (Ac (Ah 1) (Ac (Bi Au Av (Cc (Ac Aj (Ac Aj Af))) (A8 C.uM (Bt C) hr (Ac (Ah 1) (Ac Aj Af))) (fun _ _=>rfl)) Af))) (Vn rfl (Bw (Ap (i:=2) (by exact Jl.nd)) (Bw (Ap (i:=3) (by exact Jl.nd)) (Bw (Ap (i:=4) (by exact Jl.nd)) E7)))))
 refine Ai ?s2 ?t2
 case s2=>exact (Ba (i:=5) (by exact Jl.nd) (A8 C.uY (Ais C) hr (Ac (Ah 4) Af)))
 refine Ai ?s3 ?t3
 case s3=>exact (Ba (i:=6) (by exact Jl.nd) (Cc Af))
 refine Ai ?s4 ?t4
 case s4=>exact (Jv fS rfl (Cj (A8 C.uR (Ve C) hr (Ac (Ah 0) (Ac Aj Af)))) (Ap (i:=7) (by exact Jl.nd)) (Ai (Ba (i:=1) (by exact Jl.nd) (A8 C.u7 (Yi C) hr (Ac (Ah 7) Af))) (Ai (By (Oa (Dq (A8 C.u6 (Vs C) hr (Ac (Ah 1) (Ac (Ah 3) (Ac (Ah 5) (Ac (Ah 4) Af))))))) (Ak (Aq Sh)) Br) (Ai (C9 (Md dM fH fI Kt Jf (Ah 6) (Ac (Dp (Ac (Fx C.ud C.uL (Dd C) hr (Ah 5) (Ac A7 Af)) (Ac (A8 C.uU (Iz C) hr (Ac (Ah 4) Af)) Af))) Af))) (Ai (C9 (Md dM fH fI Kt Jf (Ah 6) (Ac (Dp (Ac (Fx C.ud C.uL (Dd C) hr (Ah 5) (Ac A7 Af)) (Ac (A8 C.uT (R1 C) hr (Ac (Ah 4) Af)) Af))) Af))) (Ai (Nu (A8 C.uV (Aip C) hr (Ac (Ah 1) (Ac (Ah 2) (Ac (Ah 3) (Ac (Ah 4) Af))))) (Vn rfl (Bw (Ap (i:=8) (by exact Jl.nd)) (Bw (Ap (i:=4) (by exact Jl.nd)) E7)))) (Ak (By (Bf (Fq hu) Ft (Fx C.ud C.uL (Dd C) hr (Ah 5) (Ac (Ah 8) Af)) (Cc Af) (Bl _)) (Ak (Aq Sh)) Br))))))))
 exact (Ak (Aq (Rg (A8 C.u6 (Vs C) hr (Ac (Ah 1) (Ac (Ah 3) (Ac (Ah 5) (Ac (Ah 4) Af))))) (Q3 (Hv (C6 hu) C7 (Ey (N':=["told","due"]) (ix:=[none,none]) ⟨rfl,rfl,rfl,rfl,rfl,rfl⟩ rfl (Cj (Ah 6)) (fun _ _ _ _ _ _=>(Jw rfl (Bw (Ap (i:=0) (show cG (α:=Str) ["told","due"] by decide +kernel)) (Bw (Ap (i:=1) (show cG (α:=Str) ["told","due"] by decide +kernel)) E7)))) (fun _ _ _ _ _ _=>(Bf (Fq hu) Ft (Ah 0) (Ah 1) (Bl _))) (fun _ _ _ _ _ _=>Aj)) (Cc Af) (Bl _))))))
end
theorem Auv{l:kM}{w:cC}{K:aE}{fa:Addr}(C:Defs K mg w)(hfa:mg "law" = some (.ref fa)) :
  ∃ fd:dW,(∀ (s:aJ) (v:aF),kZ s fd ⟨[v],[]⟩ [("script",v)])/\∀ base:Heap,K.In base->base.Ns bQ mg->FnOk l.prog w K mg base CX0 9 fa fd ["script"] (spF K 1 Yj):=
 C.u8.law (Q:=fun fa fd=>∀ base:Heap,K.In base->base.Ns bQ mg->FnOk l.prog w K mg base CX0 9 fa fd ["script"] (spF K 1 Yj)) hfa (fun _ _ _ _ _ _ s v=>.of_eq rfl) fun base _ _=>Auh C
noncomputable section
variable (P:mO)
abbrev fn(a b:Str)(s:Stmt)(dV kV d p:aF)(n:Option Addr)(c t:aF):dW:=fF a b (Hh s) (Ff s) (Am s) dV kV d p n c t
abbrev zf(a b:Str)(s:Stmt)(p c:aF):Obj:=⟨.type "function",none,.func (fn a b s .none .none .none p none c .none),#[]⟩
abbrev zx(a b:Str)(s:Stmt):Obj:=⟨.none,none,.func ⟨a,b,Hh s,.stmts (Ff s),Am s,0,[],.none,.none,.none,.none,none,.none,.none,0⟩,#[]⟩
abbrev zi(n:Int):aF:=.int n 0
abbrev zr(a:Addr):aF:=.ref a
abbrev zs(a:Str)(n:Nat):aF:=.str a n
abbrev zc(l:List aF):Obj:=⟨.type "code",none,.fields l.toArray,#[]⟩
abbrev zt(l:List aF):Obj:=⟨.type "tuple",none,.seq l.toArray 0,#[]⟩
abbrev zl(l:List aF):Obj:=⟨.none,none,.fields l.toArray,#[]⟩
abbrev zd(l:List pD)(n:Nat):Obj:=⟨.type "dict",none,.dict l.toArray n,#[]⟩
abbrev zn(o:Obj)(l r:dR):dR:=.node o l r
abbrev zg(o:Obj):dR:=.node o .nil .nil
abbrev de(s:Str)(n:Nat)(v:aF):pD:=⟨sK P s,.str s n,v⟩
abbrev zA(a b:Str)(n:Nat)(l c:Int)(r:Nat)(m e:Int):Obj:=zc [zs a n,zs b (n+1),zs "/claim/cut.py" (n+2),zi l,zi c,zi 0,zi 0,zi 3,zr r,.bool true,zi m,zr (r+1),.none,zr (r+2),zr (r+3),zr (r+4),zi e,zi l,zs "/claim/cut.py" (e.toNat+1)]
abbrev zB(a b:Str)(n:Nat)(l c:Int)(r:Nat)(m e:Int):Obj:=zc [zs a n,zs b (n+1),zs "/claim/cut.py" (n+2),zi l,zi c,zi 0,zi 0,zi 3,zr r,.bool true,zi m,zr (r+1),.none,.none,.none,zr (r+2),zi e,zi l,zs "/claim/cut.py" (e.toNat+1)]
def sp2(l:List Obj):List Obj×List Obj:=l.foldr (fun a p=>(a::p.2,p.1)) ([],[])
def mkT:Nat->List Obj->dR
 | 0,_=>.nil
 | _+1,[]=>.nil
 | k+1,o::l=>.node o (mkT k (sp2 l).1) (mkT k (sp2 l).2)
abbrev G0:aF:=zs "belowpoints.errors" 194
abbrev W6:aF:=zs "belowpoints.heaps.texts" 287
abbrev Af3:aF:=zs "belowpoints.chains.covers" 362
abbrev Ab5:aF:=zs "belowpoints.counts.pairs" 329
abbrev Oh:aF:=zs "belowpoints.chains.stairs" 391
abbrev W7:aF:=zs "belowpoints.heaps.boxes" 480
abbrev Ij:aF:=zs "belowpoints.kept" 519
abbrev Jg:aF:=zs "belowpoints.whole" 631
def zo1:Obj:=zd [de P "builtins" 162 (zr 4),de P "__main__" 163 (zr 5)] 2
def zo2:Obj:=⟨.none,none,(.dict #[] 0),#[]⟩
def zo4:Obj:=⟨(.type "module"),(some 0),.plain,#[]⟩
def zo5:Obj:=⟨(.type "module"),(some 3),.plain,#[]⟩
def zo6:Obj:=zd [] 0
def zo7:Obj:=zt []
def zo8:Obj:=zl []
def zo9:Obj:=zc [(zs "<module>" 176),(zs "<module>" 177),(zs "/claim/cut.py" 178),(zi 1),(zi 0),(zi 0),(zi 0),(zi 0),(zr 7),(.bool false),(zi 175),(zr 8),.none,.none,.none,.none,(zi 179),(zi 1),(zs "/claim/cut.py" 180)]
def zo10:Obj:=⟨(.type "frame"),none,.plain,#[(some (zr 9)),(some (zr 3)),(some (zr 3)),none,(some (zs "__main__" 164)),none,(some (zr 0))]⟩
def A2d:Obj:=zc [(zs "<module>" 182),(zs "<module>" 183),(zs "/claim/cut.py" 184),(zi 1),(zi 0),(zi 0),(zi 0),(zi 0),(zr 11),(.bool false),(zi 181),(zr 12),.none,.none,.none,.none,(zi 185),(zi 1),(zs "/claim/cut.py" 186)]
def A2h:Obj:=⟨(.type "frame"),none,.plain,#[(some (zr 13)),(some (zr 3)),(some (zr 3)),none,(some (zs "__main__" 164)),none,(some (zr 0))]⟩
def gz:List pD:=[de P "__doc__" 166 .none,de P "__package__" 167 .none,de P "__loader__" 168 (.builtin "__main__.__loader__#opaque"),de P "__spec__" 169 .none,de P "__annotations__" 170 (zr 6),de P "__builtins__" 171 (zr 4),de P "__file__" 173 (zs "/claim/cut.py" 172),de P "__cached__" 174 .none,de P "_wall" 193 (zr 21),de P "BelowError" 213 (zr 31),de P "NoPlace" 237 (zr 51),de P "NoAsk" 261 (zr 70),de P "NoName" 286 (zr 89),de P "LETTERS" 290 (zs "abcdefghijklmnopqrstuvwxyz" 289),de P "FIGURES" 292 (zs "0123456789" 291),de P "LONGEST_NAME" 294 (.int 8 293),de P "lies_below" 300 (zr 96),de P "place_of" 307 (zr 103),de P "is_name" 314 (zr 110),de P "is_number" 322 (zr 117),de P "holds_only" 328 (zr 122),de P "below_each" 336 (zr 127),de P "above_each" 342 (zr 132),de P "pairs_in_all" 349 (zr 139),de P "many_below" 355 (zr 144),de P "many_above" 361 (zr 149),de P "crowd_of" 369 (zr 154),de P "chains_laid" 380 (zr 161),de P "first_that_takes" 390 (zr 168),de P "stairs_of" 398 (zr 173),de P "longest_chains" 408 (zr 180),de P "heaviest_chain" 414 (zr 185),de P "chains_of_each" 420 (zr 190),de P "heaviest_begun" 426 (zr 195),de P "first_heaviest" 433 (zr 202),de P "turns_from_the_highest" 441 (zr 209),de P "turns_above" 447 (zr 214),de P "sum_at" 453 (zr 219),de P "halves_of" 461 (zr 224),de P "halves_between" 473 (zr 231),de P "crossings_of" 479 (zr 236),de P "in_boxes" 487 (zr 241),de P "nth_by_x" 496 (zr 248),de P "points_in" 502 (zr 253),de P "is_held" 510 (zr 260),de P "name_at" 518 (zr 267),de P "KeptPoints" 630 (zr 352),de P "MOST_POINTS" 634 (.int 60 633),de P "MOST_FIGURES" 636 (.int 10 635),de P "FORMS" 685 (zr 357),de P "Desk" 748 (zr 416),de P "given_behind" 754 (zr 425),de P "value_of" 762 (zr 432),de P "rows_of" 768 (zr 437),de P "rows_shown" 774 (zr 442),de P "row_shown" 780 (zr 447),de P "_law_seed" 790 (zr 454),de P "_law_draw" 800 (zr 461),de P "_law_cells" 808 (zr 468),de P "_law_place" 816 (zr 475),de P "_law_pool" 822 (zr 480),de P "_law_name" 830 (zr 487),de P "_law_begun" 844 (zr 494),de P "_law_below" 852 (zr 501),de P "_law_rows" 858 (zr 506),de P "_law_laid" 867 (zr 513),de P "_law_deed" 873 (zr 518),de P "_law_counts" 879 (zr 523),de P "_law_some_place" 890 (zr 530),de P "_law_places_right" 896 (zr 535),de P "_law_right" 902 (zr 540),de P "law" 908 (zr 545)]
def A2b:Obj:=zd (de P "__name__" 165 G0::((gz P).take 10)) 11
def cz:List aF:=[(zi 1),(zi 0),(zr 20),(zi 5),(zi 0),(zr 27),(zi 7),(zi 0),(zr 40),(zi 11),(zi 0),(zr 59),(zi 15),(zi 0),(zr 78),(zi 24),(zi 0),(zr 95),(zi 26),(zi 0),(zr 102),(zi 28),(zi 0),(zr 109),(zi 30),(zi 0),(zr 116),(zi 35),(zi 0),(zr 121),(zi 38),(zi 0),(zr 126),(zi 41),(zi 0),(zr 131),(zi 44),(zi 0),(zr 138),(zi 46),(zi 0),(zr 143),(zi 48),(zi 0),(zr 148),(zi 51),(zi 0),(zr 153),(zi 57),(zi 0),(zr 160),(zi 66),(zi 0),(zr 167),(zi 72),(zi 0),(zr 172),(zi 81),(zi 0),(zr 179),(zi 89),(zi 0),(zr 184),(zi 94),(zi 0),(zr 189),(zi 102),(zi 0),(zr 194),(zi 109),(zi 0),(zr 201),(zi 111),(zi 0),(zr 208),(zi 113),(zi 0),(zr 213),(zi 116),(zi 0),(zr 218),(zi 119),(zi 0),(zr 223),(zi 122),(zi 0),(zr 230),(zi 129),(zi 0),(zr 235),(zi 132),(zi 0),(zr 240),(zi 134),(zi 0),(zr 247),(zi 136),(zi 0),(zr 252),(zi 138),(zi 0),(zr 259),(zi 140),(zi 0),(zr 266),(zi 145),(zi 0),(zr 273),(zi 188),(zi 0),(zr 377),(zi 224),(zi 0),(zr 424),(zi 229),(zi 0),(zr 431),(zi 239),(zi 0),(zr 436),(zi 255),(zi 0),(zr 441),(zi 257),(zi 0),(zr 446),(zi 260),(zi 0),(zr 453),(zi 263),(zi 0),(zr 460),(zi 272),(zi 0),(zr 467),(zi 274),(zi 0),(zr 474),(zi 278),(zi 0),(zr 479),(zi 286),(zi 0),(zr 486),(zi 290),(zi 0),(zr 493),(zi 302),(zi 0),(zr 500),(zi 304),(zi 0),(zr 505),(zi 306),(zi 0),(zr 512),(zi 311),(zi 0),(zr 517),(zi 329),(zi 0),(zr 522),(zi 336),(zi 0),(zr 529),(zi 342),(zi 0),(zr 534),(zi 353),(zi 0),(zr 539),(zi 371),(zi 0),(zr 544)]
def A22:Obj:=zl (cz.take 6)
def A18:Obj:=zt [(zs "k" 190)]
def A3g:Obj:=zx "_wall" "_wall" (top 0)
def zo17:Obj:=zA "_wall" "_wall" 187 1 1 15 181 191
def A2u:Obj:=zf "_wall" "_wall" (top 0) (zs "__main__" 164) (zr 20)
def zo19:Obj:=zt [(.type "ValueError")]
def zo20:Obj:=⟨(.type "builtin_function_or_method"),none,(.fields #[(.builtin "type.__prepare__"),(.type "type")]),#[]⟩
def Azg:Obj:=zd [de P "__module__" 203 G0,de P "__qualname__" 205 (zs "BelowError" 204),de P "__firstlineno__" 207 (.int 5 206),de P "__static_attributes__" 208 (zr 29)] 4
def zo22:Obj:=zc [(zs "BelowError" 198),(zs "BelowError" 199),(zs "/claim/cut.py" 200),(zi 5),(zi 0),(zi 0),(zi 0),(zi 0),(zr 25),(.bool false),(zi 181),(zr 26),.none,.none,.none,.none,(zi 201),(zi 5),(zs "/claim/cut.py" 202)]
def A14:Obj:=⟨(.type "frame"),none,.plain,#[(some (zr 27)),(some (zr 3)),(some (zr 24)),none,(some G0),none,(some (zr 0))]⟩
def Awz:Obj:=zd [de P "__module__" 203 G0,de P "__firstlineno__" 207 (.int 5 206),de P "__static_attributes__" 208 (zr 29),de P "__weakref__" 210 (zr 32),de P "__doc__" 211 .none] 3
def zo25:Obj:=⟨(.type "type"),none,(.cls ⟨"BelowError",[(.type "ValueError")],[(zr 31),(.type "ValueError"),(.type "Exception"),(.type "BaseException"),(.type "object")],30,"BelowError",true,[],[],false,none,false⟩),#[(some (zr 22)),none,(some (zs "BelowError" 196)),(some (zs "BelowError" 204)),(some (.builtin "ValueError.__new__")),(some (.bool true))]⟩
def A17:Obj:=⟨(.type "getset_descriptor"),none,(.fields #[(zs "__weakref__" 209),(zr 31),(.builtin "ExceptionGroup.__weakref__"),.none]),#[]⟩
def zo27:Obj:=⟨(.type "super"),none,(.fields #[(zr 31),(zr 31),(zr 31)]),#[]⟩
def A2o:Obj:=⟨(.type "builtin_function_or_method"),none,(.fields #[(.builtin "object.__init_subclass__"),(zr 31)]),#[]⟩
def A3d:Obj:=zd (de P "__name__" 165 G0::((gz P).take 11)) 12
def A2x:Obj:=zl (cz.take 9)
def A25:Obj:=⟨(.type "type"),none,(.cls ⟨"BelowError",[(.type "ValueError")],[(zr 31),(.type "ValueError"),(.type "Exception"),(.type "BaseException"),(.type "object")],30,"BelowError",true,[],[(zr 51)],false,none,false⟩),#[(some (zr 22)),none,(some (zs "BelowError" 196)),(some (zs "BelowError" 204)),(some (.builtin "ValueError.__new__")),(some (.bool true))]⟩
def At2:Obj:=zt [(zr 31)]
def A0q:Obj:=zd [de P "__module__" 221 G0,de P "__qualname__" 223 (zs "NoPlace" 222),de P "__firstlineno__" 225 (.int 7 224),de P "__init__" 233 (zr 48),de P "__static_attributes__" 234 (zr 49)] 5
def A3s:Obj:=zl [(zi 9),(zi 4),(zr 47)]
def zo35:Obj:=zc [(zs "NoPlace" 216),(zs "NoPlace" 217),(zs "/claim/cut.py" 218),(zi 7),(zi 0),(zi 0),(zi 0),(zi 0),(zr 38),(.bool false),(zi 181),(zr 39),.none,.none,.none,.none,(zi 219),(zi 7),(zs "/claim/cut.py" 220)]
def A2n:Obj:=⟨(.type "frame"),none,.plain,#[(some (zr 40)),(some (zr 3)),(some (zr 37)),none,(some G0),none,(some (zr 0))]⟩
def zo37:Obj:=zt [(zs "self" 229),(zs "text" 230)]
def zo38:Obj:=zx "__init__" "NoPlace.__init__" (Ay (top 3) 0)
def A2m:Obj:=zA "__init__" "NoPlace.__init__" 226 9 2 42 181 231
def zo40:Obj:=zf "__init__" "NoPlace.__init__" (Ay (top 3) 0) G0 (zr 47)
def Axr:Obj:=zd [de P "__module__" 221 G0,de P "__firstlineno__" 225 (.int 7 224),de P "__init__" 233 (zr 48),de P "__static_attributes__" 234 (zr 49),de P "__doc__" 235 .none] 2
def zo42:Obj:=⟨(.type "type"),none,(.cls ⟨"NoPlace",[(zr 31)],[(zr 51),(zr 31),(.type "ValueError"),(.type "Exception"),(.type "BaseException"),(.type "object")],50,"NoPlace",true,[],[],false,none,false⟩),#[(some (zr 35)),none,(some (zs "NoPlace" 214)),(some (zs "NoPlace" 222)),(some (.builtin "ValueError.__new__")),(some (.bool true))]⟩
def A2y:Obj:=⟨(.type "super"),none,(.fields #[(zr 51),(zr 51),(zr 51)]),#[]⟩
def A21:Obj:=⟨(.type "builtin_function_or_method"),none,(.fields #[(.builtin "object.__init_subclass__"),(zr 51)]),#[]⟩
def A3f:Obj:=zd (de P "__name__" 165 G0::((gz P).take 12)) 13
def A2i:Obj:=zl (cz.take 12)
def A24:Obj:=⟨(.type "type"),none,(.cls ⟨"BelowError",[(.type "ValueError")],[(zr 31),(.type "ValueError"),(.type "Exception"),(.type "BaseException"),(.type "object")],30,"BelowError",true,[],[(zr 51),(zr 70)],false,none,false⟩),#[(some (zr 22)),none,(some (zs "BelowError" 196)),(some (zs "BelowError" 204)),(some (.builtin "ValueError.__new__")),(some (.bool true))]⟩
def Ay0:Obj:=zd [de P "__module__" 245 G0,de P "__qualname__" 247 (zs "NoAsk" 246),de P "__firstlineno__" 249 (.int 11 248),de P "__init__" 257 (zr 67),de P "__static_attributes__" 258 (zr 68)] 5
def A2g:Obj:=zl [(zi 13),(zi 4),(zr 66)]
def zo50:Obj:=zc [(zs "NoAsk" 240),(zs "NoAsk" 241),(zs "/claim/cut.py" 242),(zi 11),(zi 0),(zi 0),(zi 0),(zi 0),(zr 57),(.bool false),(zi 181),(zr 58),.none,.none,.none,.none,(zi 243),(zi 11),(zs "/claim/cut.py" 244)]
def A3b:Obj:=⟨(.type "frame"),none,.plain,#[(some (zr 59)),(some (zr 3)),(some (zr 56)),none,(some G0),none,(some (zr 0))]⟩
def zo52:Obj:=zt [(zs "self" 253),(zs "text" 254)]
def zo53:Obj:=zx "__init__" "NoAsk.__init__" (Ay (top 4) 0)
def A12:Obj:=zA "__init__" "NoAsk.__init__" 250 13 2 61 181 255
def zo55:Obj:=zf "__init__" "NoAsk.__init__" (Ay (top 4) 0) G0 (zr 66)
def Axd:Obj:=zd [de P "__module__" 245 G0,de P "__firstlineno__" 249 (.int 11 248),de P "__init__" 257 (zr 67),de P "__static_attributes__" 258 (zr 68),de P "__doc__" 259 .none] 2
def zo57:Obj:=⟨(.type "type"),none,(.cls ⟨"NoAsk",[(zr 31)],[(zr 70),(zr 31),(.type "ValueError"),(.type "Exception"),(.type "BaseException"),(.type "object")],69,"NoAsk",true,[],[],false,none,false⟩),#[(some (zr 54)),none,(some (zs "NoAsk" 238)),(some (zs "NoAsk" 246)),(some (.builtin "ValueError.__new__")),(some (.bool true))]⟩
def A3e:Obj:=⟨(.type "super"),none,(.fields #[(zr 70),(zr 70),(zr 70)]),#[]⟩
def A2v:Obj:=⟨(.type "builtin_function_or_method"),none,(.fields #[(.builtin "object.__init_subclass__"),(zr 70)]),#[]⟩
def A3i:Obj:=zd (de P "__name__" 165 W6::((gz P).take 16)) 17
def A3k:Obj:=zl (cz.take 15)
def A0l:Obj:=⟨(.type "type"),none,(.cls ⟨"BelowError",[(.type "ValueError")],[(zr 31),(.type "ValueError"),(.type "Exception"),(.type "BaseException"),(.type "object")],30,"BelowError",true,[],[(zr 51),(zr 70),(zr 89)],false,none,false⟩),#[(some (zr 22)),none,(some (zs "BelowError" 196)),(some (zs "BelowError" 204)),(some (.builtin "ValueError.__new__")),(some (.bool true))]⟩
def Aye:Obj:=zd [de P "__module__" 269 G0,de P "__qualname__" 271 (zs "NoName" 270),de P "__firstlineno__" 273 (.int 15 272),de P "__init__" 281 (zr 86),de P "__static_attributes__" 283 (zr 87)] 5
def A2t:Obj:=zl [(zi 17),(zi 4),(zr 85)]
def zo65:Obj:=zc [(zs "NoName" 264),(zs "NoName" 265),(zs "/claim/cut.py" 266),(zi 15),(zi 0),(zi 0),(zi 0),(zi 0),(zr 76),(.bool false),(zi 181),(zr 77),.none,.none,.none,.none,(zi 267),(zi 15),(zs "/claim/cut.py" 268)]
def A2s:Obj:=⟨(.type "frame"),none,.plain,#[(some (zr 78)),(some (zr 3)),(some (zr 75)),none,(some G0),none,(some (zr 0))]⟩
def zo67:Obj:=zt [(zs "self" 277),(zs "word" 278)]
def zo68:Obj:=zx "__init__" "NoName.__init__" (Ay (top 5) 0)
def A2p:Obj:=zA "__init__" "NoName.__init__" 274 17 2 80 181 279
def zo70:Obj:=zf "__init__" "NoName.__init__" (Ay (top 5) 0) G0 (zr 85)
def A20:Obj:=zt [(zs "word" 282)]
def A1f:Obj:=zd [de P "__module__" 269 G0,de P "__firstlineno__" 273 (.int 15 272),de P "__init__" 281 (zr 86),de P "__static_attributes__" 283 (zr 87),de P "__doc__" 284 .none] 2
def zo73:Obj:=⟨(.type "type"),none,(.cls ⟨"NoName",[(zr 31)],[(zr 89),(zr 31),(.type "ValueError"),(.type "Exception"),(.type "BaseException"),(.type "object")],88,"NoName",true,[],[],false,none,false⟩),#[(some (zr 73)),none,(some (zs "NoName" 262)),(some (zs "NoName" 270)),(some (.builtin "ValueError.__new__")),(some (.bool true))]⟩
def A3o:Obj:=⟨(.type "super"),none,(.fields #[(zr 89),(zr 89),(zr 89)]),#[]⟩
def A3n:Obj:=⟨(.type "builtin_function_or_method"),none,(.fields #[(.builtin "object.__init_subclass__"),(zr 89)]),#[]⟩
def A3t:Obj:=zd (de P "__name__" 165 Af3::((gz P).take 26)) 27
def A36:Obj:=zl (cz.take 45)
def A2r:Obj:=zx "lies_below" "lies_below" (top 10)
def zo79:Obj:=zB "lies_below" "lies_below" 295 24 2 92 181 298
def Azu:Obj:=zf "lies_below" "lies_below" (top 10) W6 (zr 95)
def zo81:Obj:=zt [(zs "point" 304)]
def zo82:Obj:=zx "place_of" "place_of" (top 11)
def A03:Obj:=zA "place_of" "place_of" 301 26 1 97 181 305
def zo84:Obj:=zf "place_of" "place_of" (top 11) W6 (zr 102)
def A3x:Obj:=zt [(zs "word" 311)]
def A2a:Obj:=zx "is_name" "is_name" (top 12)
def zo87:Obj:=zA "is_name" "is_name" 308 28 1 104 181 312
def Awq:Obj:=zf "is_name" "is_name" (top 12) W6 (zr 109)
def zo89:Obj:=zt [(zs "word" 318),(zs "figures" 319)]
def zo90:Obj:=zx "is_number" "is_number" (top 13)
def Awt:Obj:=zA "is_number" "is_number" 315 30 1 111 181 320
def zo92:Obj:=zf "is_number" "is_number" (top 13) W6 (zr 116)
def A3q:Obj:=zx "holds_only" "holds_only" (top 14)
def zo94:Obj:=zB "holds_only" "holds_only" 323 35 2 118 181 326
def Az1:Obj:=zf "holds_only" "holds_only" (top 14) W6 (zr 121)
def zo96:Obj:=zx "below_each" "below_each" (top 16)
def Awu:Obj:=zB "below_each" "below_each" 331 38 1 123 181 334
def zo98:Obj:=zf "below_each" "below_each" (top 16) Ab5 (zr 126)
def A3h:Obj:=zx "above_each" "above_each" (top 17)
def zo100:Obj:=zB "above_each" "above_each" 337 41 1 128 181 340
def Asb:Obj:=zf "above_each" "above_each" (top 17) Ab5 (zr 131)
def zo102:Obj:=zt [(zs "points" 346)]
def zo103:Obj:=zx "pairs_in_all" "pairs_in_all" (top 18)
def Aso:Obj:=zA "pairs_in_all" "pairs_in_all" 343 44 1 133 181 347
def zo105:Obj:=zf "pairs_in_all" "pairs_in_all" (top 18) Ab5 (zr 138)
def Axa:Obj:=zx "many_below" "many_below" (top 19)
def zo107:Obj:=zB "many_below" "many_below" 350 46 2 140 181 353
def Arm:Obj:=zf "many_below" "many_below" (top 19) Ab5 (zr 143)
def zo109:Obj:=zx "many_above" "many_above" (top 20)
def Arj:Obj:=zB "many_above" "many_above" 356 48 2 145 181 359
def Atn:Obj:=zf "many_above" "many_above" (top 20) Ab5 (zr 148)
def A05:Obj:=zd (de P "__name__" 165 Oh::((gz P).take 36)) 37
def Ay1:Obj:=zl (cz.take 75)
def Axe:Obj:=zx "crowd_of" "crowd_of" (top 22)
def zo115:Obj:=zB "crowd_of" "crowd_of" 364 51 1 150 181 367
def Ayv:Obj:=zf "crowd_of" "crowd_of" (top 22) Af3 (zr 153)
def zo117:Obj:=zt [(zs "points" 373),(zs "chains" 374),(zs "point" 375),(zs "turn" 376),(zs "crowd" 377)]
def zo118:Obj:=zx "chains_laid" "chains_laid" (top 23)
def Azo:Obj:=zA "chains_laid" "chains_laid" 370 57 1 155 181 378
def zo120:Obj:=zf "chains_laid" "chains_laid" (top 23) Af3 (zr 160)
def Axy:Obj:=zt [(zs "chains" 384),(zs "point" 385),(zs "turn" 386),(zs "chain" 387)]
def A1m:Obj:=zx "first_that_takes" "first_that_takes" (top 24)
def zo123:Obj:=zA "first_that_takes" "first_that_takes" 381 66 2 162 181 388
def Ax5:Obj:=zf "first_that_takes" "first_that_takes" (top 24) Af3 (zr 167)
def zo125:Obj:=zx "stairs_of" "stairs_of" (top 26)
def Axs:Obj:=zB "stairs_of" "stairs_of" 393 72 1 169 181 396
def zo127:Obj:=zf "stairs_of" "stairs_of" (top 26) Oh (zr 172)
def Ay7:Obj:=zt [(zs "points" 402),(zs "ones" 403),(zs "point" 404),(zs "heaviest" 405)]
def A1v:Obj:=zx "longest_chains" "longest_chains" (top 27)
def zo130:Obj:=zA "longest_chains" "longest_chains" 399 81 1 174 181 406
def Azy:Obj:=zf "longest_chains" "longest_chains" (top 27) Oh (zr 179)
def zo132:Obj:=zx "heaviest_chain" "heaviest_chain" (top 28)
def Az3:Obj:=zB "heaviest_chain" "heaviest_chain" 409 89 2 181 181 412
def zo134:Obj:=zf "heaviest_chain" "heaviest_chain" (top 28) Oh (zr 184)
def Azx:Obj:=zx "chains_of_each" "chains_of_each" (top 29)
def zo136:Obj:=zB "chains_of_each" "chains_of_each" 415 94 1 186 181 418
def Azd:Obj:=zf "chains_of_each" "chains_of_each" (top 29) Oh (zr 189)
def zo138:Obj:=zx "heaviest_begun" "heaviest_begun" (top 30)
def Ayg:Obj:=zB "heaviest_begun" "heaviest_begun" 421 102 2 191 181 424
def zo140:Obj:=zf "heaviest_begun" "heaviest_begun" (top 30) Oh (zr 194)
def Aw9:Obj:=zt [(zs "chains" 430)]
def Azs:Obj:=zx "first_heaviest" "first_heaviest" (top 31)
def zo143:Obj:=zA "first_heaviest" "first_heaviest" 427 109 1 196 181 431
def Ayi:Obj:=zf "first_heaviest" "first_heaviest" (top 31) Oh (zr 201)
def zo145:Obj:=zt [(zs "points" 437)]
def Ayo:Obj:=zt [(zs "points" 438)]
def zo147:Obj:=zx "turns_from_the_highest" "turns_from_the_highest" (top 32)
def Axk:Obj:=zA "turns_from_the_highest" "turns_from_the_highest" 434 111 1 203 181 439
def Ay4:Obj:=zf "turns_from_the_highest" "turns_from_the_highest" (top 32) Oh (zr 208)
def Awp:Obj:=zd (de P "__name__" 165 W7::((gz P).take 46)) 47
def A0c:Obj:=zl (cz.take 105)
def A1b:Obj:=zx "turns_above" "turns_above" (top 33)
def zo153:Obj:=zB "turns_above" "turns_above" 442 113 2 210 181 445
def Az6:Obj:=zf "turns_above" "turns_above" (top 33) Oh (zr 213)
def zo155:Obj:=zx "sum_at" "sum_at" (top 34)
def Axx:Obj:=zB "sum_at" "sum_at" 448 116 2 215 181 451
def zo157:Obj:=zf "sum_at" "sum_at" (top 34) Oh (zr 218)
def Axz:Obj:=zx "halves_of" "halves_of" (top 36)
def zo159:Obj:=zB "halves_of" "halves_of" 456 119 1 220 181 459
def A1i:Obj:=zf "halves_of" "halves_of" (top 36) (zs "belowpoints.counts.halves" 454) (zr 223)
def zo161:Obj:=zt [(zs "places" 465),(zs "first" 466),(zs "behind" 467),(zs "many" 468),(zs "middle" 469),(zs "whole" 470)]
def zo162:Obj:=zx "halves_between" "halves_between" (top 37)
def Aym:Obj:=zA "halves_between" "halves_between" 462 122 3 225 181 471
def zo164:Obj:=zf "halves_between" "halves_between" (top 37) (zs "belowpoints.counts.halves" 454) (zr 230)
def Axl:Obj:=zx "crossings_of" "crossings_of" (top 38)
def zo166:Obj:=zB "crossings_of" "crossings_of" 474 129 2 232 181 477
def A1l:Obj:=zf "crossings_of" "crossings_of" (top 38) (zs "belowpoints.counts.halves" 454) (zr 235)
def zo168:Obj:=zx "in_boxes" "in_boxes" (top 40)
def Ath:Obj:=zB "in_boxes" "in_boxes" 482 132 2 237 181 485
def zo170:Obj:=zf "in_boxes" "in_boxes" (top 40) W7 (zr 240)
def A02:Obj:=zt [(zs "points" 491),(zs "box" 492),(zs "place" 493)]
def Axq:Obj:=zx "nth_by_x" "nth_by_x" (top 41)
def zo173:Obj:=zA "nth_by_x" "nth_by_x" 488 134 3 242 181 494
def A1r:Obj:=zf "nth_by_x" "nth_by_x" (top 41) W7 (zr 247)
def zo175:Obj:=zx "points_in" "points_in" (top 42)
def As8:Obj:=zB "points_in" "points_in" 497 136 2 249 181 500
def zo177:Obj:=zf "points_in" "points_in" (top 42) W7 (zr 252)
def Axf:Obj:=zt [(zs "point" 506),(zs "box" 507)]
def Ax0:Obj:=zx "is_held" "is_held" (top 43)
def zo180:Obj:=zA "is_held" "is_held" 503 138 2 254 181 508
def Arx:Obj:=zf "is_held" "is_held" (top 43) W7 (zr 259)
def zo182:Obj:=zt [(zs "points" 514),(zs "place" 515)]
def zo183:Obj:=zx "name_at" "name_at" (top 44)
def A1s:Obj:=zA "name_at" "name_at" 511 140 2 261 181 516
def A0k:Obj:=zf "name_at" "name_at" (top 44) W7 (zr 266)
def Az9:Obj:=zd (de P "__name__" 165 Ij::((gz P).take 46)) 47
def Ayn:Obj:=zd (de P "__name__" 165 Ij::((gz P).take 47)) 48
def Ax4:Obj:=zl (cz.take 108)
def Asy:Obj:=zd [de P "__module__" 528 Ij,de P "__qualname__" 530 (zs "KeptPoints" 529),de P "__firstlineno__" 532 (.int 145 531),de P "__init__" 539 (zr 281),de P "put_point" 549 (zr 288),de P "take_point" 557 (zr 295),de P "move_point" 567 (zr 302),de P "points_now" 574 (zr 309),de P "below_now" 583 (zr 316),de P "above_now" 592 (zr 323),de P "pairs_now" 599 (zr 330),de P "box_now" 607 (zr 337),de P "places_now" 613 (zr 342),de P "need_name" 621 (zr 349),de P "__static_attributes__" 623 (zr 350)] 15
def Azt:Obj:=zl [(zi 147),(zi 4),(zr 280),(zi 150),(zi 4),(zr 287),(zi 155),(zi 4),(zr 294),(zi 159),(zi 4),(zr 301),(zi 163),(zi 4),(zr 308),(zi 166),(zi 4),(zr 315),(zi 169),(zi 4),(zr 322),(zi 172),(zi 4),(zr 329),(zi 175),(zi 4),(zr 336),(zi 178),(zi 4),(zr 341),(zi 181),(zi 4),(zr 348)]
def zo191:Obj:=zc [(zs "KeptPoints" 523),(zs "KeptPoints" 524),(zs "/claim/cut.py" 525),(zi 145),(zi 0),(zi 0),(zi 0),(zi 0),(zr 271),(.bool false),(zi 181),(zr 272),.none,.none,.none,.none,(zi 526),(zi 145),(zs "/claim/cut.py" 527)]
def A0w:Obj:=⟨(.type "frame"),none,.plain,#[(some (zr 273)),(some (zr 3)),(some (zr 270)),none,(some Ij),none,(some (zr 0))]⟩
def zo193:Obj:=zt [(zs "self" 536)]
def zo194:Obj:=zx "__init__" "KeptPoints.__init__" (Ay (top 46) 0)
def Atd:Obj:=zA "__init__" "KeptPoints.__init__" 533 147 1 275 181 537
def zo196:Obj:=zf "__init__" "KeptPoints.__init__" (Ay (top 46) 0) Ij (zr 280)
def A1o:Obj:=zt [(zs "self" 543),(zs "name" 544),(zs "x" 545),(zs "y" 546)]
def A0n:Obj:=zx "put_point" "KeptPoints.put_point" (Ay (top 46) 1)
def zo199:Obj:=zA "put_point" "KeptPoints.put_point" 540 150 4 282 181 547
def Arv:Obj:=zf "put_point" "KeptPoints.put_point" (Ay (top 46) 1) Ij (zr 287)
def zo201:Obj:=zt [(zs "self" 553),(zs "name" 554)]
def zo202:Obj:=zx "take_point" "KeptPoints.take_point" (Ay (top 46) 2)
def As1:Obj:=zA "take_point" "KeptPoints.take_point" 550 155 2 289 181 555
def zo204:Obj:=zf "take_point" "KeptPoints.take_point" (Ay (top 46) 2) Ij (zr 294)
def A08:Obj:=zt [(zs "self" 561),(zs "name" 562),(zs "x" 563),(zs "y" 564)]
def A06:Obj:=zx "move_point" "KeptPoints.move_point" (Ay (top 46) 3)
def zo207:Obj:=zA "move_point" "KeptPoints.move_point" 558 159 4 296 181 565
def Ast:Obj:=zf "move_point" "KeptPoints.move_point" (Ay (top 46) 3) Ij (zr 301)
def zo209:Obj:=zt [(zs "self" 571)]
def zo210:Obj:=zx "points_now" "KeptPoints.points_now" (Ay (top 46) 4)
def Atp:Obj:=zA "points_now" "KeptPoints.points_now" 568 163 1 303 181 572
def zo212:Obj:=zf "points_now" "KeptPoints.points_now" (Ay (top 46) 4) Ij (zr 308)
def Azl:Obj:=zt [(zs "self" 578),(zs "x" 579),(zs "y" 580)]
def Axn:Obj:=zx "below_now" "KeptPoints.below_now" (Ay (top 46) 5)
def zo215:Obj:=zA "below_now" "KeptPoints.below_now" 575 166 3 310 181 581
def Ar1:Obj:=zf "below_now" "KeptPoints.below_now" (Ay (top 46) 5) Ij (zr 315)
def zo217:Obj:=zt [(zs "self" 587),(zs "x" 588),(zs "y" 589)]
def zo218:Obj:=zx "above_now" "KeptPoints.above_now" (Ay (top 46) 6)
def Asj:Obj:=zA "above_now" "KeptPoints.above_now" 584 169 3 317 181 590
def zo220:Obj:=zf "above_now" "KeptPoints.above_now" (Ay (top 46) 6) Ij (zr 322)
def A0p:Obj:=zt [(zs "self" 596)]
def A0y:Obj:=zx "pairs_now" "KeptPoints.pairs_now" (Ay (top 46) 7)
def zo223:Obj:=zA "pairs_now" "KeptPoints.pairs_now" 593 172 1 324 181 597
def Ax8:Obj:=zf "pairs_now" "KeptPoints.pairs_now" (Ay (top 46) 7) Ij (zr 329)
def zo225:Obj:=zt [(zs "self" 603),(zs "box" 604)]
def zo226:Obj:=zx "box_now" "KeptPoints.box_now" (Ay (top 46) 8)
def Ar8:Obj:=zA "box_now" "KeptPoints.box_now" 600 175 2 331 181 605
def zo228:Obj:=zf "box_now" "KeptPoints.box_now" (Ay (top 46) 8) Ij (zr 336)
def Azi:Obj:=zx "places_now" "KeptPoints.places_now" (Ay (top 46) 9)
def zo230:Obj:=zB "places_now" "KeptPoints.places_now" 608 178 1 338 181 611
def Ar2:Obj:=zf "places_now" "KeptPoints.places_now" (Ay (top 46) 9) Ij (zr 341)
def zo232:Obj:=zt [(zs "self" 617),(zs "name" 618)]
def zo233:Obj:=zx "need_name" "KeptPoints.need_name" (Ay (top 46) 10)
def Atm:Obj:=zA "need_name" "KeptPoints.need_name" 614 181 2 343 181 619
def zo235:Obj:=zf "need_name" "KeptPoints.need_name" (Ay (top 46) 10) Ij (zr 348)
def Aw2:Obj:=zt [(zs "points" 622)]
def Arw:Obj:=zd [de P "__module__" 528 Ij,de P "__firstlineno__" 532 (.int 145 531),de P "__init__" 539 (zr 281),de P "put_point" 549 (zr 288),de P "take_point" 557 (zr 295),de P "move_point" 567 (zr 302),de P "points_now" 574 (zr 309),de P "below_now" 583 (zr 316),de P "above_now" 592 (zr 323),de P "pairs_now" 599 (zr 330),de P "box_now" 607 (zr 337),de P "places_now" 613 (zr 342),de P "need_name" 621 (zr 349),de P "__static_attributes__" 623 (zr 350),de P "__dict__" 625 (zr 353),de P "__weakref__" 627 (zr 354),de P "__doc__" 628 .none] 4
def zo238:Obj:=⟨(.type "type"),none,(.cls ⟨"KeptPoints",[(.type "object")],[(zr 352),(.type "object")],351,"KeptPoints",true,[],[],false,none,false⟩),#[none,none,(some (zs "KeptPoints" 521)),(some (zs "KeptPoints" 529)),(some (.builtin "object.__new__")),(some (.bool true))]⟩
def A1j:Obj:=⟨(.type "getset_descriptor"),none,(.fields #[(zs "__dict__" 624),(zr 352),(.builtin "function.__dict__"),(.builtin "function.__dict__#set")]),#[]⟩
def zo240:Obj:=⟨(.type "getset_descriptor"),none,(.fields #[(zs "__weakref__" 626),(zr 352),(.builtin "ExceptionGroup.__weakref__"),.none]),#[]⟩
def Ay9:Obj:=⟨(.type "super"),none,(.fields #[(zr 352),(zr 352),(zr 352)]),#[]⟩
def A1q:Obj:=⟨(.type "builtin_function_or_method"),none,(.fields #[(.builtin "object.__init_subclass__"),(zr 352)]),#[]⟩
def Ayq:Obj:=zd (de P "__name__" 165 Jg::((gz P).take 50)) 51
def Arq:Obj:=zd [de P "put" 637 (zr 358),de P "take" 641 (zr 359),de P "move" 643 (zr 360),de P "points" 647 (zr 361),de P "counts" 648 (zr 362),de P "pairs" 649 (zr 363),de P "halves" 650 (zr 364),de P "below" 651 (zr 365),de P "above" 654 (zr 366),de P "box" 657 (zr 367),de P "nth" 662 (zr 368),de P "stairs" 668 (zr 369),de P "longest" 669 (zr 370),de P "crowd" 670 (zr 371)] 14
def zo245:Obj:=zt [(zs "name" 638),(zs "number" 639),(zs "number" 640)]
def Ar0:Obj:=zt [(zs "name" 642)]
def zo247:Obj:=zt [(zs "name" 644),(zs "number" 645),(zs "number" 646)]
def Ase:Obj:=zt [(zs "number" 652),(zs "number" 653)]
def zo249:Obj:=zt [(zs "number" 655),(zs "number" 656)]
def Asq:Obj:=zt [(zs "number" 658),(zs "number" 659),(zs "number" 660),(zs "number" 661)]
def zo251:Obj:=zt [(zs "place" 663),(zs "number" 664),(zs "number" 665),(zs "number" 666),(zs "number" 667)]
def Azc:Obj:=zd (de P "__name__" 165 Jg::((gz P).take 51)) 52
def Az5:Obj:=zl (cz.take 111)
def Arz:Obj:=zd [de P "__module__" 693 Jg,de P "__qualname__" 695 (zs "Desk" 694),de P "__firstlineno__" 697 (.int 188 696),de P "__init__" 704 (zr 385),de P "ask" 714 (zr 392),de P "change_points" 723 (zr 399),de P "need_room" 730 (zr 406),de P "told_at" 739 (zr 413),de P "__static_attributes__" 741 (zr 414)] 9
def Axt:Obj:=zl [(zi 190),(zi 4),(zr 384),(zi 193),(zi 4),(zr 391),(zi 203),(zi 4),(zr 398),(zi 212),(zi 4),(zr 405),(zi 216),(zi 4),(zr 412)]
def zo256:Obj:=zc [(zs "Desk" 688),(zs "Desk" 689),(zs "/claim/cut.py" 690),(zi 188),(zi 0),(zi 0),(zi 0),(zi 0),(zr 375),(.bool false),(zi 181),(zr 376),.none,.none,.none,.none,(zi 691),(zi 188),(zs "/claim/cut.py" 692)]
def Ayr:Obj:=⟨(.type "frame"),none,.plain,#[(some (zr 377)),(some (zr 3)),(some (zr 374)),none,(some Jg),none,(some (zr 0))]⟩
def zo258:Obj:=zt [(zs "self" 701)]
def zo259:Obj:=zx "__init__" "Desk.__init__" (Ay (top 51) 0)
def Aru:Obj:=zA "__init__" "Desk.__init__" 698 190 1 379 181 702
def zo261:Obj:=zf "__init__" "Desk.__init__" (Ay (top 51) 0) Jg (zr 384)
def Ayy:Obj:=zt [(zs "self" 708),(zs "line" 709),(zs "words" 710),(zs "given" 711)]
def A0a:Obj:=zx "ask" "Desk.ask" (Ay (top 51) 1)
def zo264:Obj:=zA "ask" "Desk.ask" 705 193 2 386 181 712
def Atb:Obj:=zf "ask" "Desk.ask" (Ay (top 51) 1) Jg (zr 391)
def zo266:Obj:=zt [(zs "self" 718),(zs "word" 719),(zs "given" 720)]
def zo267:Obj:=zx "change_points" "Desk.change_points" (Ay (top 51) 2)
def Ars:Obj:=zA "change_points" "Desk.change_points" 715 203 3 393 181 721
def zo269:Obj:=zf "change_points" "Desk.change_points" (Ay (top 51) 2) Jg (zr 398)
def A0g:Obj:=zt [(zs "self" 727)]
def Axv:Obj:=zx "need_room" "Desk.need_room" (Ay (top 51) 3)
def zo272:Obj:=zA "need_room" "Desk.need_room" 724 212 1 400 181 728
def Ar9:Obj:=zf "need_room" "Desk.need_room" (Ay (top 51) 3) Jg (zr 405)
def zo274:Obj:=zt [(zs "self" 734),(zs "word" 735),(zs "given" 736)]
def zo275:Obj:=zx "told_at" "Desk.told_at" (Ay (top 51) 4)
def Art:Obj:=zA "told_at" "Desk.told_at" 731 216 3 407 181 737
def zo277:Obj:=zf "told_at" "Desk.told_at" (Ay (top 51) 4) Jg (zr 412)
def Awr:Obj:=zt [(zs "kept" 740)]
def Aro:Obj:=zd [de P "__module__" 693 Jg,de P "__firstlineno__" 697 (.int 188 696),de P "__init__" 704 (zr 385),de P "ask" 714 (zr 392),de P "change_points" 723 (zr 399),de P "need_room" 730 (zr 406),de P "told_at" 739 (zr 413),de P "__static_attributes__" 741 (zr 414),de P "__dict__" 743 (zr 417),de P "__weakref__" 745 (zr 418),de P "__doc__" 746 .none] 4
def zo280:Obj:=⟨(.type "type"),none,(.cls ⟨"Desk",[(.type "object")],[(zr 416),(.type "object")],415,"Desk",true,[],[],false,none,false⟩),#[none,none,(some (zs "Desk" 686)),(some (zs "Desk" 694)),(some (.builtin "object.__new__")),(some (.bool true))]⟩
def Ayc:Obj:=⟨(.type "getset_descriptor"),none,(.fields #[(zs "__dict__" 742),(zr 416),(.builtin "function.__dict__"),(.builtin "function.__dict__#set")]),#[]⟩
def zo282:Obj:=⟨(.type "getset_descriptor"),none,(.fields #[(zs "__weakref__" 744),(zr 416),(.builtin "ExceptionGroup.__weakref__"),.none]),#[]⟩
def Ax6:Obj:=⟨(.type "super"),none,(.fields #[(zr 416),(zr 416),(zr 416)]),#[]⟩
def Ayl:Obj:=⟨(.type "builtin_function_or_method"),none,(.fields #[(.builtin "object.__init_subclass__"),(zr 416)]),#[]⟩
def Axc:Obj:=zd (de P "__name__" 165 (zs "law_belowpoints_k39_desk_points" 781)::((gz P).take 61)) 62
def Ay6:Obj:=zl (cz.take 141)
def A1p:Obj:=zx "given_behind" "given_behind" (top 52)
def zo288:Obj:=zB "given_behind" "given_behind" 749 224 1 421 181 752
def As9:Obj:=zf "given_behind" "given_behind" (top 52) Jg (zr 424)
def zo290:Obj:=zt [(zs "word" 758),(zs "kind" 759)]
def zo291:Obj:=zx "value_of" "value_of" (top 53)
def Ar5:Obj:=zA "value_of" "value_of" 755 229 2 426 181 760
def zo293:Obj:=zf "value_of" "value_of" (top 53) Jg (zr 431)
def Awx:Obj:=zx "rows_of" "rows_of" (top 54)
def zo295:Obj:=zB "rows_of" "rows_of" 763 239 2 433 181 766
def Ati:Obj:=zf "rows_of" "rows_of" (top 54) Jg (zr 436)
def zo297:Obj:=zx "rows_shown" "rows_shown" (top 55)
def Ar6:Obj:=zB "rows_shown" "rows_shown" 769 255 1 438 181 772
def zo299:Obj:=zf "rows_shown" "rows_shown" (top 55) Jg (zr 441)
def A1d:Obj:=zx "row_shown" "row_shown" (top 56)
def zo301:Obj:=zB "row_shown" "row_shown" 775 257 1 443 181 778
def Asi:Obj:=zf "row_shown" "row_shown" (top 56) Jg (zr 446)
def zo303:Obj:=zt [(zs "cell" 786),(zs "number" 787)]
def zo304:Obj:=zx "_law_seed" "_law_seed" (top 58)
def Ash:Obj:=zA "_law_seed" "_law_seed" 783 260 1 448 181 788
def zo306:Obj:=zf "_law_seed" "_law_seed" (top 58) (zs "law_belowpoints_k39_desk_points" 781) (zr 453)
def A0u:Obj:=zt [(zs "seed" 794),(zs "most" 795),(zs "found" 796),(zs "number" 797)]
def Aws:Obj:=zx "_law_draw" "_law_draw" (top 59)
def zo309:Obj:=zA "_law_draw" "_law_draw" 791 263 2 455 181 798
def As7:Obj:=zf "_law_draw" "_law_draw" (top 59) (zs "law_belowpoints_k39_desk_points" 781) (zr 460)
def zo311:Obj:=zt [(zs "script" 804),(zs "many" 805)]
def zo312:Obj:=zx "_law_cells" "_law_cells" (top 60)
def Arn:Obj:=zA "_law_cells" "_law_cells" 801 272 2 462 181 806
def zo314:Obj:=zf "_law_cells" "_law_cells" (top 60) (zs "law_belowpoints_k39_desk_points" 781) (zr 467)
def A1g:Obj:=zt [(zs "seed" 812),(zs "kind" 813)]
def A0j:Obj:=zx "_law_place" "_law_place" (top 61)
def zo317:Obj:=zA "_law_place" "_law_place" 809 274 2 469 181 814
def Arl:Obj:=zf "_law_place" "_law_place" (top 61) (zs "law_belowpoints_k39_desk_points" 781) (zr 474)
def zo319:Obj:=zx "_law_pool" "_law_pool" (top 62)
def Atc:Obj:=zB "_law_pool" "_law_pool" 817 278 1 476 181 820
def Ata:Obj:=zf "_law_pool" "_law_pool" (top 62) (zs "law_belowpoints_k39_desk_points" 781) (zr 479)
def Ayw:Obj:=zd (de P "__name__" 165 (zs "law_belowpoints_k39_desk_points" 781)::((gz P).take 71)) 72
def A1n:Obj:=zl (cz.take 171)
def Axm:Obj:=zt [(zs "pool" 826),(zs "number" 827)]
def A04:Obj:=zx "_law_name" "_law_name" (top 63)
def zo326:Obj:=zA "_law_name" "_law_name" 823 286 2 481 181 828
def Asf:Obj:=zf "_law_name" "_law_name" (top 63) (zs "law_belowpoints_k39_desk_points" 781) (zr 486)
def zo328:Obj:=zt [(zs "seed" 834),(zs "most" 835),(zs "pool" 836),(zs "kind" 837),(zs "points" 838),(zs "k" 839),(zs "x" 840),(zs "y" 841)]
def zo329:Obj:=zx "_law_begun" "_law_begun" (top 64)
def As5:Obj:=zA "_law_begun" "_law_begun" 831 290 2 488 181 842
def zo331:Obj:=zf "_law_begun" "_law_begun" (top 64) (zs "law_belowpoints_k39_desk_points" 781) (zr 493)
def Azq:Obj:=zt [(zs "one" 848),(zs "other" 849)]
def A00:Obj:=zx "_law_below" "_law_below" (top 65)
def zo334:Obj:=zA "_law_below" "_law_below" 845 302 2 495 181 850
def Asl:Obj:=zf "_law_below" "_law_below" (top 65) (zs "law_belowpoints_k39_desk_points" 781) (zr 500)
def zo336:Obj:=zx "_law_rows" "_law_rows" (top 66)
def Ary:Obj:=zB "_law_rows" "_law_rows" 853 304 1 502 181 856
def zo338:Obj:=zf "_law_rows" "_law_rows" (top 66) (zs "law_belowpoints_k39_desk_points" 781) (zr 505)
def Ay3:Obj:=zt [(zs "points" 862),(zs "desk" 863),(zs "row" 864)]
def Aw7:Obj:=zx "_law_laid" "_law_laid" (top 67)
def zo341:Obj:=zA "_law_laid" "_law_laid" 859 306 1 507 181 865
def Asp:Obj:=zf "_law_laid" "_law_laid" (top 67) (zs "law_belowpoints_k39_desk_points" 781) (zr 512)
def zo343:Obj:=zx "_law_deed" "_law_deed" (top 68)
def Ate:Obj:=zB "_law_deed" "_law_deed" 868 311 4 514 181 871
def zo345:Obj:=zf "_law_deed" "_law_deed" (top 68) (zs "law_belowpoints_k39_desk_points" 781) (zr 517)
def Aza:Obj:=zx "_law_counts" "_law_counts" (top 69)
def zo347:Obj:=zB "_law_counts" "_law_counts" 874 329 1 519 181 877
def Atk:Obj:=zf "_law_counts" "_law_counts" (top 69) (zs "law_belowpoints_k39_desk_points" 781) (zr 522)
def zo349:Obj:=zt [(zs "seed" 883),(zs "kind" 884),(zs "points" 885),(zs "place" 886),(zs "at" 887)]
def zo350:Obj:=zx "_law_some_place" "_law_some_place" (top 70)
def Asz:Obj:=zA "_law_some_place" "_law_some_place" 880 336 3 524 181 888
def zo352:Obj:=zf "_law_some_place" "_law_some_place" (top 70) (zs "law_belowpoints_k39_desk_points" 781) (zr 529)
def Aw0:Obj:=zx "_law_places_right" "_law_places_right" (top 71)
def zo354:Obj:=zB "_law_places_right" "_law_places_right" 891 342 4 531 181 894
def Asn:Obj:=zf "_law_places_right" "_law_places_right" (top 71) (zs "law_belowpoints_k39_desk_points" 781) (zr 534)
def zo356:Obj:=zx "_law_right" "_law_right" (top 72)
def As4:Obj:=zB "_law_right" "_law_right" 897 353 4 536 181 900
def Asc:Obj:=zf "_law_right" "_law_right" (top 72) (zs "law_belowpoints_k39_desk_points" 781) (zr 539)
def Ato:Obj:=zd (de P "__name__" 165 (zs "law_belowpoints_k39_desk_points" 781)::(gz P)) 73
def A09:Obj:=zl cz
def Ax9:Obj:=zx "law" "law" (top 73)
def zo362:Obj:=zB "law" "law" 903 371 1 541 181 906
def Asv:Obj:=zf "law" "law" (top 73) (zs "law_belowpoints_k39_desk_points" 781) (zr 544)
def l_0:List Obj:=[(rJ P),(zo1 P),zo2,(PySem.W.boot_o_3 P),zo4,zo5,zo6,zo7,zo8,zo9,zo10,zo7,zo8,A2d,A2h]
def l_1:List Obj:=(l_0 P)
def t_0:dR:=mkT 11 (l_1 P)
def l_2:List Obj:=(((l_1 P).set 3 (A2b P)).set 12 A22)++[zo7,zo8,A18,zo7,A3g,zo17,A2u,zo19,zo20,(Azg P),zo7,zo8,zo22,A14,zo7,(Awz P),zo25,A17,zo27,A2o]
def t_1:dR:=mkT 11 (l_2 P)
def l_3:List Obj:=((((l_2 P).set 3 (A3d P)).set 12 A2x).set 31 A25)++[At2,zo20,(A0q P),zo7,A3s,zo35,A2n,zo7,zo8,zo37,zo7,zo38,A2m,zo40,zo7,(Axr P),zo42,A2y,A21]
def t_2:dR:=mkT 11 (l_3 P)
def l_4:List Obj:=((((l_3 P).set 3 (A3f P)).set 12 A2i).set 31 A24)++[At2,zo20,(Ay0 P),zo7,A2g,zo50,A3b,zo7,zo8,zo52,zo7,zo53,A12,zo55,zo7,(Axd P),zo57,A3e,A2v]
def t_3:dR:=mkT 11 (l_4 P)
def l_5:List Obj:=((((l_4 P).set 3 (A3i P)).set 12 A3k).set 31 A0l)++[At2,zo20,(Aye P),zo7,A2t,zo65,A2s,zo7,zo8,zo67,zo7,zo68,A2p,zo70,A20,(A1f P),zo73,A3o,A3n]
def t_4:dR:=mkT 11 (l_5 P)
def l_6:List Obj:=(((l_5 P).set 3 (A3t P)).set 12 A36)++[zo7,zo8,A2r,zo79,Azu,zo7,zo8,zo81,zo7,zo82,A03,zo84,zo7,zo8,A3x,zo7,A2a,zo87,Awq,zo7,zo8,zo89,zo7,zo90,Awt,zo92,zo7,zo8,A3q,zo94,Az1,zo7,zo8,zo96,Awu,zo98,zo7,zo8,A3h,zo100,Asb,zo7,zo8,zo102,zo7,zo103,Aso,zo105,zo7,zo8,Axa,zo107,Arm,zo7,zo8,zo109,Arj,Atn]
def t_5:dR:=mkT 11 (l_6 P)
def l_7:List Obj:=(((l_6 P).set 3 (A05 P)).set 12 Ay1)++[zo7,zo8,Axe,zo115,Ayv,zo7,zo8,zo117,zo7,zo118,Azo,zo120,zo7,zo8,Axy,zo7,A1m,zo123,Ax5,zo7,zo8,zo125,Axs,zo127,zo7,zo8,Ay7,zo7,A1v,zo130,Azy,zo7,zo8,zo132,Az3,zo134,zo7,zo8,Azx,zo136,Azd,zo7,zo8,zo138,Ayg,zo140,zo7,zo8,Aw9,zo7,Azs,zo143,Ayi,zo7,zo8,zo145,Ayo,zo147,Axk,Ay4]
def t_6:dR:=mkT 11 (l_7 P)
def l_8:List Obj:=(((l_7 P).set 3 (Awp P)).set 12 A0c)++[zo7,zo8,A1b,zo153,Az6,zo7,zo8,zo155,Axx,zo157,zo7,zo8,Axz,zo159,A1i,zo7,zo8,zo161,zo7,zo162,Aym,zo164,zo7,zo8,Axl,zo166,A1l,zo7,zo8,zo168,Ath,zo170,zo7,zo8,A02,zo7,Axq,zo173,A1r,zo7,zo8,zo175,As8,zo177,zo7,zo8,Axf,zo7,Ax0,zo180,Arx,zo7,zo8,zo182,zo7,zo183,A1s,A0k]
def t_7:dR:=mkT 11 (l_8 P)
def l_9:List Obj:=((l_8 P).set 3 (Az9 P))
def t_8:dR:=mkT 11 (l_9 P)
def Axo:List Obj:=(((l_9 P).set 3 (Ayn P)).set 12 Ax4)++[zo7,zo20,(Asy P),zo7,Azt,zo191,A0w,zo7,zo8,zo193,zo7,zo194,Atd,zo196,zo7,zo8,A1o,zo7,A0n,zo199,Arv,zo7,zo8,zo201,zo7,zo202,As1,zo204,zo7,zo8,A08,zo7,A06,zo207,Ast,zo7,zo8,zo209,zo7,zo210,Atp,zo212,zo7,zo8,Azl,zo7,Axn,zo215,Ar1,zo7,zo8,zo217,zo7,zo218,Asj,zo220,zo7,zo8,A0p,zo7,A0y,zo223,Ax8,zo7,zo8,zo225,zo7,zo226,Ar8,zo228,zo7,zo8,Azi,zo230,Ar2,zo7,zo8,zo232,zo7,zo233,Atm,zo235,Aw2,(Arw P),zo238,A1j,zo240,Ay9,A1q]
def t_9:dR:=mkT 11 (Axo P)
def Axp:List Obj:=((Axo P).set 3 (Ayq P))++[(Arq P),zo245,Ar0,zo247,zo7,zo7,zo7,zo7,Ase,zo249,Asq,zo251,zo7,zo7,zo7]
def At1:dR:=mkT 11 (Axp P)
def Ayk:List Obj:=(((Axp P).set 3 (Azc P)).set 12 Az5)++[zo7,zo20,(Arz P),zo7,Axt,zo256,Ayr,zo7,zo8,zo258,zo7,zo259,Aru,zo261,zo7,zo8,Ayy,zo7,A0a,zo264,Atb,zo7,zo8,zo266,zo7,zo267,Ars,zo269,zo7,zo8,A0g,zo7,Axv,zo272,Ar9,zo7,zo8,zo274,zo7,zo275,Art,zo277,Awr,(Aro P),zo280,Ayc,zo282,Ax6,Ayl]
def A1a:dR:=mkT 11 (Ayk P)
def A1u:List Obj:=(((Ayk P).set 3 (Axc P)).set 12 Ay6)++[zo7,zo8,A1p,zo288,As9,zo7,zo8,zo290,zo7,zo291,Ar5,zo293,zo7,zo8,Awx,zo295,Ati,zo7,zo8,zo297,Ar6,zo299,zo7,zo8,A1d,zo301,Asi,zo7,zo8,zo303,zo7,zo304,Ash,zo306,zo7,zo8,A0u,zo7,Aws,zo309,As7,zo7,zo8,zo311,zo7,zo312,Arn,zo314,zo7,zo8,A1g,zo7,A0j,zo317,Arl,zo7,zo8,zo319,Atc,Ata]
def Az4:dR:=mkT 11 (A1u P)
def Aya:List Obj:=(((A1u P).set 3 (Ayw P)).set 12 A1n)++[zo7,zo8,Axm,zo7,A04,zo326,Asf,zo7,zo8,zo328,zo7,zo329,As5,zo331,zo7,zo8,Azq,zo7,A00,zo334,Asl,zo7,zo8,zo336,Ary,zo338,zo7,zo8,Ay3,zo7,Aw7,zo341,Asp,zo7,zo8,zo343,Ate,zo345,zo7,zo8,Aza,zo347,Atk,zo7,zo8,zo349,zo7,zo350,Asz,zo352,zo7,zo8,Aw0,zo354,Asn,zo7,zo8,zo356,As4,Asc]
def A07:dR:=mkT 11 (Aya P)
def A0f:List Obj:=(((Aya P).set 3 (Ato P)).set 12 A09)++[zo7,zo8,Ax9,zo362,Asv]
def A0t:dR:=mkT 11 (A0f P)
def A3v:List Obj:=(A0f P)
def hA:Heap:=⟨⟨l_0 P⟩,{}⟩
def hZ:Heap:=⟨⟨A3v P⟩,{}⟩
abbrev pp:bT:=PySem.Challenge.pw_belowpoints_k39_desk_points
def q0:bT:={ pp with main:={ pp.main with body:=[0,2,3,4,5,7,8,9,10,11,12,13,14,16,17,18,19,20,22,23,24,26,27,28,29,30,31,32,33,34,36,37,38,40,41,42,43,44,46,48,49,50,51,52,53,54,55,56,58,59,60,61,62,63,64,65,66,67,68,69,70,71,72,73].map top } }
def ev:Env:={ scope:=pp.main.scope,locals:=mainNs,globals:=mainNs,cells:=[],code:=(.ref 13),frame:=some 14 }
abbrev bd:List Stmt:=PySem.W.behindTheImports pp
abbrev cE:Code:=.body bd ev
abbrev tB:List Frame:=[kK ⟨0,0,0,0⟩]
def sl(i j:Nat):List Stmt:=(bd.drop i).take j
theorem Ayd(w:cC)(os:fJ):PySem.W.topGo bV pp w 11 (some (.ref 6)) 12 ⟨eZ w.params,⟨[]⟩,mB,mJ,os⟩ (rW pp)=some (⟨hA w.params,⟨[]⟩,{},187,os⟩,⟨denote bV cE,cE,⟨0,0,0,0⟩,tB⟩):=by
 rw[PySem.W.Fast.te15667345088766844465,aS,PySem.W.Fast.te11892475500146522536];kernel_rfl
theorem Aob(w:cC)(os:fJ):sN bV pp w 11 (some (.ref 6)) 1 1 ⟨hA w.params,⟨[]⟩,{},187,os⟩ (rX bd ev cE ⟨0,0,0,0⟩ tB)=some (.next,pJ ⟨t_0 w.params,15,{},⟨[]⟩,{},187,os⟩,cE,⟨0,0,0,0⟩):=by
 rw[PySem.W.Fast.te14374325043358763698,aS];kernel_rfl
theorem r_0(w:cC)(os:fJ):cZ bV pp w 11 (some (.ref 6)) 1 225 ⟨t_0 w.params,15,{},⟨[]⟩,{},187,os⟩ (cS (sl 0 3) ev cE ⟨0,0,0,0⟩ tB)=some (.next,⟨t_1 w.params,35,{},⟨[]⟩,{},214,os⟩,cE,⟨5,0,6,8⟩):=by
 rw[aY,aS];kernel_rfl
theorem r_1(w:cC)(os:fJ):cZ bV pp w 11 (some (.ref 6)) 1 245 ⟨t_1 w.params,35,{},⟨[]⟩,{},214,os⟩ (cS (sl 3 1) ev cE ⟨5,0,6,8⟩ tB)=some (.next,⟨t_2 w.params,54,{},⟨[]⟩,{},238,os⟩,cE,⟨7,0,10,39⟩):=by
 rw[aY,aS];kernel_rfl
theorem r_2(w:cC)(os:fJ):cZ bV pp w 11 (some (.ref 6)) 1 245 ⟨t_2 w.params,54,{},⟨[]⟩,{},238,os⟩ (cS (sl 4 1) ev cE ⟨7,0,10,39⟩ tB)=some (.next,⟨t_3 w.params,73,{},⟨[]⟩,{},262,os⟩,cE,⟨11,0,14,39⟩):=by
 rw[aY,aS];kernel_rfl
theorem r_3(w:cC)(os:fJ):cZ bV pp w 11 (some (.ref 6)) 1 282 ⟨t_3 w.params,73,{},⟨[]⟩,{},262,os⟩ (cS (sl 5 5) ev cE ⟨11,0,14,39⟩ tB)=some (.next,⟨t_4 w.params,92,{},⟨[]⟩,{},295,os⟩,cE,⟨23,0,23,12⟩):=by
 rw[aY,aS];kernel_rfl
theorem r_4(w:cC)(os:fJ):cZ bV pp w 11 (some (.ref 6)) 1 292 ⟨t_4 w.params,92,{},⟨[]⟩,{},295,os⟩ (cS (sl 10 12) ev cE ⟨23,0,23,12⟩ tB)=some (.next,⟨t_5 w.params,150,{},⟨[]⟩,{},364,os⟩,cE,⟨50,0,50,8⟩):=by
 rw[aY,aS];kernel_rfl
theorem r_5(w:cC)(os:fJ):cZ bV pp w 11 (some (.ref 6)) 1 296 ⟨t_5 w.params,150,{},⟨[]⟩,{},364,os⟩ (cS (sl 22 11) ev cE ⟨50,0,50,8⟩ tB)=some (.next,⟨t_6 w.params,210,{},⟨[]⟩,{},442,os⟩,cE,⟨111,0,112,92⟩):=by
 rw[aY,aS];kernel_rfl
theorem r_6(w:cC)(os:fJ):cZ bV pp w 11 (some (.ref 6)) 1 300 ⟨t_6 w.params,210,{},⟨[]⟩,{},442,os⟩ (cS (sl 33 12) ev cE ⟨111,0,112,92⟩ tB)=some (.next,⟨t_7 w.params,268,{},⟨[]⟩,{},519,os⟩,cE,⟨140,0,143,27⟩):=by
 rw[aY,aS];kernel_rfl
theorem r_7(w:cC)(os:fJ):cZ bV pp w 11 (some (.ref 6)) 1 10 ⟨t_7 w.params,268,{},⟨[]⟩,{},519,os⟩ (cS (sl 45 1) ev cE ⟨140,0,143,27⟩ tB)=some (.next,⟨t_8 w.params,268,{},⟨[]⟩,{},521,os⟩,cE,⟨144,0,144,8⟩):=by
 rw[aY,aS];kernel_rfl
theorem r_8(w:cC)(os:fJ):cZ bV pp w 11 (some (.ref 6)) 1 542 ⟨t_8 w.params,268,{},⟨[]⟩,{},521,os⟩ (cS (sl 46 1) ev cE ⟨144,0,144,8⟩ tB)=some (.next,⟨t_9 w.params,357,{},⟨[]⟩,{},631,os⟩,cE,⟨145,0,183,30⟩):=by
 rw[aY,aS];kernel_rfl
theorem r_9(w:cC)(os:fJ):cZ bV pp w 11 (some (.ref 6)) 1 282 ⟨t_9 w.params,357,{},⟨[]⟩,{},631,os⟩ (cS (sl 47 4) ev cE ⟨145,0,183,30⟩ tB)=some (.next,⟨At1 w.params,372,{},⟨[]⟩,{},686,os⟩,cE,⟨187,0,187,5⟩):=
 PySem.W.byRow2 "special-get-raises" (P:=fun w=>∀ os:fJ,cZ bV pp w 11 (some (.ref 6)) 1 282 ⟨t_9 w.params,357,{},⟨[]⟩,{},631,os⟩ (cS (sl 47 4) ev cE ⟨145,0,183,30⟩ tB)=some (.next,⟨At1 w.params,372,{},⟨[]⟩,{},686,os⟩,cE,⟨187,0,187,5⟩)) (fun w os=>by rw[aY,aS];kernel_rfl) (fun w os=>by rw[aY,aS];kernel_rfl) w os
theorem A16(w:cC)(os:fJ):cZ bV pp w 11 (some (.ref 6)) 1 353 ⟨At1 w.params,372,{},⟨[]⟩,{},686,os⟩ (cS (sl 51 1) ev cE ⟨187,0,187,5⟩ tB)=some (.next,⟨A1a w.params,421,{},⟨[]⟩,{},749,os⟩,cE,⟨188,0,223,71⟩):=by
 rw[aY,aS];kernel_rfl
theorem A2j(w:cC)(os:fJ):cZ bV pp w 11 (some (.ref 6)) 1 292 ⟨A1a w.params,421,{},⟨[]⟩,{},749,os⟩ (cS (sl 52 11) ev cE ⟨188,0,223,71⟩ tB)=some (.next,⟨Az4 w.params,481,{},⟨[]⟩,{},823,os⟩,cE,⟨278,0,285,69⟩):=by
 rw[aY,aS];kernel_rfl
theorem A30(w:cC)(os:fJ):cZ bV pp w 11 (some (.ref 6)) 1 291 ⟨Az4 w.params,481,{},⟨[]⟩,{},823,os⟩ (cS (sl 63 10) ev cE ⟨278,0,285,69⟩ tB)=some (.next,⟨A07 w.params,541,{},⟨[]⟩,{},903,os⟩,cE,⟨353,0,370,50⟩):=by
 rw[aY,aS];kernel_rfl
theorem A19(w:cC)(os:fJ):cZ bV pp w 11 (some (.ref 6)) 1 27 ⟨A07 w.params,541,{},⟨[]⟩,{},903,os⟩ (cS (sl 73 1) ev cE ⟨353,0,370,50⟩ tB)=some (.next,⟨A0t w.params,546,{},⟨[]⟩,{},909,os⟩,cE,⟨371,0,385,98⟩):=by
 rw[aY,aS];kernel_rfl
theorem Axw(w:cC)(os:fJ):mC bV pp w 11 (some (.ref 6)) 2 (pJ ⟨A0t w.params,546,{},⟨[]⟩,{},909,os⟩) (sO [] ev cE ⟨371,0,385,98⟩ tB)=some ⟨hZ w.params,⟨[]⟩,{},909,os⟩:=by
 rw[PySem.W.Fast.te14082659384304107361,aS];kernel_rfl
theorem bdE:bd=(sl 0 3++(sl 3 1++(sl 4 1++(sl 5 5++(sl 10 12++(sl 22 11++(sl 33 12++(sl 45 1++(sl 46 1++(sl 47 4++(sl 51 1++(sl 52 11++(sl 63 10++(sl 73 1++[])))))))))))))):=by kernel_rfl
theorem Ara{tb:String->Option lF}{p:bT}{w:cC}{n₀:Nat}{ann:Option aF}{env:Env}{q:Pos}{N:Nat}{s s1 r:aJ}{b b1:List Stmt}{c:Code}{pos p1:Pos}(hb:b=b1)(h:sN tb p w n₀ ann 1 n s (rX b env c pos [kK q])=some (.next,s1,c,p1))(k:mC tb p w n₀ ann N s1 (sO b1 env c p1 [kK q])=some r):mC tb p w n₀ ann (n+N) s ⟨denote tb (.body b env),c,pos,[kK q]⟩=some r:=by
 subst hb;exact PySem.W.piece_block h k
theorem Axj(w:cC)(os:fJ):mC bV pp w 11 (some (.ref 6)) (12+(1+(225+(245+(245+(282+(292+(296+(300+(10+(542+(282+(353+(292+(291+(27+2)))))))))))))))) ⟨eZ w.params,⟨[]⟩,mB,mJ,os⟩ (rW pp)=some ⟨hZ w.params,⟨[]⟩,{},909,os⟩:=
 PySem.W.go_top (Ayd w os) (Ara bdE (Aob w os) (cT (cU (r_0 w os)) (cT (cU (r_1 w os)) (cT (cU (r_2 w os)) (cT (cU (r_3 w os)) (cT (cU (r_4 w os)) (cT (cU (r_5 w os)) (cT (cU (r_6 w os)) (cT (cU (r_7 w os)) (cT (cU (r_8 w os)) (cT (cU (r_9 w os)) (cT (cU (A16 w os)) (cT (cU (A2j w os)) (cT (cU (A30 w os)) (cT (cU (A19 w os)) (Axw w os))))))))))))))))
theorem Awe:∀ w:cC,(PySem.W.fencedOpening bV pp w 7462).map (fun s=>(s.heap,s.gens,s.drawn,s.toks))=some (eZ w.params,Array.mk [],mB,mJ):=
 PySem.W.boot_open (by kernel_rfl) (by decide) (fun s=>by kernel_rfl)
theorem Awg(w:cC):((eZ w.params).isNs bQ&&(Array.mk []:Array mW).size == 0,(eZ w.params).objs.size,(eZ w.params).nsMap bQ "__annotations__")=(true,11,(some (.ref 6))):=by
 rw[PySem.W.Fast.te8920871248978507458];kernel_rfl
def K0(P:mO):aE:=(nat_lit 96,Azu)::(nat_lit 103,zo84)::(nat_lit 110,Awq)::(nat_lit 117,zo92)::(nat_lit 122,Az1)::(nat_lit 127,zo98)::(nat_lit 132,Asb)::(nat_lit 139,zo105)::(nat_lit 144,Arm)::(nat_lit 149,Atn)::(nat_lit 241,zo170)::(nat_lit 253,zo177)::(nat_lit 260,Arx)::(nat_lit 281,zo196)::(nat_lit 288,Arv)::(nat_lit 295,zo204)::(nat_lit 302,Ast)::(nat_lit 309,zo212)::(nat_lit 316,Ar1)::(nat_lit 323,zo220)::(nat_lit 337,zo228)::(nat_lit 342,Ar2)::(nat_lit 349,zo235)::(nat_lit 385,zo261)::(nat_lit 392,Atb)::(nat_lit 399,zo269)::(nat_lit 406,Ar9)::(nat_lit 413,zo277)::(nat_lit 425,As9)::(nat_lit 432,zo293)::(nat_lit 437,Ati)::(nat_lit 442,zo299)::(nat_lit 447,Asi)::(nat_lit 454,zo306)::(nat_lit 461,As7)::(nat_lit 468,zo314)::(nat_lit 475,Arl)::(nat_lit 480,Ata)::(nat_lit 487,Asf)::(nat_lit 494,zo331)::(nat_lit 501,Asl)::(nat_lit 506,zo338)::(nat_lit 513,Asp)::(nat_lit 518,zo345)::(nat_lit 523,Atk)::(nat_lit 530,zo352)::(nat_lit 535,Asn)::(nat_lit 540,Asc)::(nat_lit 545,Asv)::(nat_lit 0,(rJ P))::(nat_lit 1,(zo1 P))::(nat_lit 2,zo2)::(nat_lit 3,(Ato P))::(nat_lit 6,zo6)::(nat_lit 24,(Azg P))::(nat_lit 30,(Awz P))::(nat_lit 31,A0l)::(nat_lit 37,(A0q P))::(nat_lit 50,(Axr P))::(nat_lit 51,zo42)::(nat_lit 56,(Ay0 P))::(nat_lit 69,(Axd P))::(nat_lit 70,zo57)::(nat_lit 75,(Aye P))::(nat_lit 88,(A1f P))::(nat_lit 89,zo73)::(nat_lit 95,zo79)::(nat_lit 102,A03)::(nat_lit 109,zo87)::(nat_lit 116,Awt)::(nat_lit 121,zo94)::(nat_lit 126,Awu)::(nat_lit 131,zo100)::(nat_lit 138,Aso)::(nat_lit 143,zo107)::(nat_lit 148,Arj)::(nat_lit 240,Ath)::(nat_lit 252,As8)::(nat_lit 259,zo180)::(nat_lit 270,(Asy P))::(nat_lit 280,Atd)::(nat_lit 287,zo199)::(nat_lit 294,As1)::(nat_lit 301,zo207)::(nat_lit 308,Atp)::(nat_lit 315,zo215)::(nat_lit 322,Asj)::(nat_lit 336,Ar8)::(nat_lit 341,zo230)::(nat_lit 348,Atm)::(nat_lit 351,(Arw P))::(nat_lit 352,zo238)::(nat_lit 357,(Arq P))::(nat_lit 374,(Arz P))::(nat_lit 384,Aru)::(nat_lit 391,zo264)::(nat_lit 398,Ars)::(nat_lit 405,zo272)::(nat_lit 412,Art)::(nat_lit 415,(Aro P))::(nat_lit 416,zo280)::(nat_lit 424,zo288)::(nat_lit 431,Ar5)::(nat_lit 436,zo295)::(nat_lit 441,Ar6)::(nat_lit 446,zo301)::(nat_lit 453,Ash)::(nat_lit 460,zo309)::(nat_lit 467,Arn)::(nat_lit 474,zo317)::(nat_lit 479,Atc)::(nat_lit 486,zo326)::(nat_lit 493,As5)::(nat_lit 500,zo334)::(nat_lit 505,Ary)::(nat_lit 512,zo341)::(nat_lit 517,Ate)::(nat_lit 522,zo347)::(nat_lit 529,Asz)::(nat_lit 534,zo354)::(nat_lit 539,As4)::(nat_lit 544,zo362)::(nat_lit 358,zo245)::(nat_lit 359,Ar0)::(nat_lit 360,zo247)::(nat_lit 361,zo7)::(nat_lit 362,zo7)::(nat_lit 363,zo7)::(nat_lit 364,zo7)::(nat_lit 365,Ase)::(nat_lit 366,zo249)::(nat_lit 367,Asq)::(nat_lit 368,zo251)::(nat_lit 369,zo7)::(nat_lit 370,zo7)::(nat_lit 371,zo7)::[]
abbrev hK:PySem.W.Hook:=PySem.W.kHook K0 [nat_lit 96,nat_lit 103,nat_lit 110,nat_lit 117,nat_lit 122,nat_lit 127,nat_lit 132,nat_lit 139,nat_lit 144,nat_lit 149,nat_lit 241,nat_lit 253,nat_lit 260,nat_lit 281,nat_lit 288,nat_lit 295,nat_lit 302,nat_lit 309,nat_lit 316,nat_lit 323,nat_lit 337,nat_lit 342,nat_lit 349,nat_lit 385,nat_lit 392,nat_lit 399,nat_lit 406,nat_lit 413,nat_lit 425,nat_lit 432,nat_lit 437,nat_lit 442,nat_lit 447,nat_lit 454,nat_lit 461,nat_lit 468,nat_lit 475,nat_lit 480,nat_lit 487,nat_lit 494,nat_lit 501,nat_lit 506,nat_lit 513,nat_lit 518,nat_lit 523,nat_lit 530,nat_lit 535,nat_lit 540,nat_lit 545,nat_lit 0,nat_lit 1,nat_lit 2,nat_lit 3,nat_lit 6,nat_lit 24,nat_lit 30,nat_lit 31,nat_lit 37,nat_lit 50,nat_lit 51,nat_lit 56,nat_lit 69,nat_lit 70,nat_lit 75,nat_lit 88,nat_lit 89,nat_lit 95,nat_lit 102,nat_lit 109,nat_lit 116,nat_lit 121,nat_lit 126,nat_lit 131,nat_lit 138,nat_lit 143,nat_lit 148,nat_lit 240,nat_lit 252,nat_lit 259,nat_lit 270,nat_lit 280,nat_lit 287,nat_lit 294,nat_lit 301,nat_lit 308,nat_lit 315,nat_lit 322,nat_lit 336,nat_lit 341,nat_lit 348,nat_lit 351,nat_lit 352,nat_lit 357,nat_lit 374,nat_lit 384,nat_lit 391,nat_lit 398,nat_lit 405,nat_lit 412,nat_lit 415,nat_lit 416,nat_lit 424,nat_lit 431,nat_lit 436,nat_lit 441,nat_lit 446,nat_lit 453,nat_lit 460,nat_lit 467,nat_lit 474,nat_lit 479,nat_lit 486,nat_lit 493,nat_lit 500,nat_lit 505,nat_lit 512,nat_lit 517,nat_lit 522,nat_lit 529,nat_lit 534,nat_lit 539,nat_lit 544,nat_lit 358,nat_lit 359,nat_lit 360,nat_lit 361,nat_lit 362,nat_lit 363,nat_lit 364,nat_lit 365,nat_lit 366,nat_lit 367,nat_lit 368,nat_lit 369,nat_lit 370,nat_lit 371] (fun _=>by kernel_rfl)
abbrev lz:List Str:=["FORMS"]
theorem Ah5(w:cC){h:Heap}(X:(K0 w.params).In h)(G:h.Ns bQ mg):FormsAt (K0 w.params) w mg "FORMS" C8:=
 ⟨357,[("put",637,358),("take",641,359),("move",643,360),("points",647,361),("counts",648,362),("pairs",649,363),("halves",650,364),("below",651,365),("above",654,366),("box",657,367),("nth",662,368),("stairs",668,369),("longest",669,370),("crowd",670,371)],14,mU X G (by kernel_rfl),by kernel_rfl,by kernel_rfl,by decide +kernel,.cons (ws:=[("name",638),("number",639),("number",640)]) (by kernel_rfl) (by decide) (.cons (ws:=[("name",642)]) (by kernel_rfl) (by decide) (.cons (ws:=[("name",644),("number",645),("number",646)]) (by kernel_rfl) (by decide) (.cons (ws:=[]) (by kernel_rfl) (by decide) (.cons (ws:=[]) (by kernel_rfl) (by decide) (.cons (ws:=[]) (by kernel_rfl) (by decide) (.cons (ws:=[]) (by kernel_rfl) (by decide) (.cons (ws:=[("number",652),("number",653)]) (by kernel_rfl) (by decide) (.cons (ws:=[("number",655),("number",656)]) (by kernel_rfl) (by decide) (.cons (ws:=[("number",658),("number",659),("number",660),("number",661)]) (by kernel_rfl) (by decide) (.cons (ws:=[("place",663),("number",664),("number",665),("number",666),("number",667)]) (by kernel_rfl) (by decide) (.cons (ws:=[]) (by kernel_rfl) (by decide) (.cons (ws:=[]) (by kernel_rfl) (by decide) (.cons (ws:=[]) (by kernel_rfl) (by decide) (.nil))))))))))))))⟩
theorem A3a(w:cC)(os:fJ):(PySem.W.staticsOk (importedModules pp.main.body) (eZ w.params) (hZ w.params)&&PySem.W.namesBound pp (hZ w.params)&&PySem.W.gensDone ⟨hZ w.params,⟨[]⟩,{},909,os⟩&&PySem.W.laidKept (eZ w.params) (hZ w.params))=true:=by
 rw[jR];kernel_rfl
theorem A29(w:cC)(os:fJ):PySem.W.openSeen q0 lz (importedModules pp.main.body) (fun s=>tE q0 [] s&&sU [] s) true ⟨hZ w.params,⟨[]⟩,{},909,os⟩=PySem.W.openGood q0 lz:=by
 rw[jR,PySem.W.Fast.te4187177175401517315];kernel_rfl
theorem A3l(w:cC)(os:fJ):hK.obs ⟨hZ w.params,⟨[]⟩,{},909,os⟩=hK.val w:=by kernel_rfl
theorem A3m:PySem.W.LeftO pp q0 lz (fun s=>tE q0 [] s&&sU [] s) hK.obs hK.val 7462:=
 PySem.W.LeftO.of_pieces Awe Awg Axj (by decide) fun w=>funext fun os=>qO (A3a w os) (qO (A29 w os) (A3l w os))
end
theorem A2z{l:kM}{q:bT}{loose:List Str}{XP:(Str->Option aF)->Heap->Prop}{YP:cC->Heap->Prop}{d:DefRec}{K:mO->aE}(hn:l.most=some 63)(hdf:d.params.defaults=[])
  (hY:∀ (w:cC) (h:Heap),YP w h->(K w.params).In h)
  (F:∀ (w:cC) (mg:Str->Option aF) (fa:Addr) (h:Heap),(K w.params).In h->h.Ns bQ mg->mg d.name=some (.ref fa) ->
   ∃ fd:dW,(∀ (s:aJ) (u:aF),kZ s fd ⟨[u],[]⟩ [("script",u)])/\∀ base:Heap,(K w.params).In base->base.Ns bQ mg->FnOk l.prog w (K w.params) mg base CX0 9 fa fd ["script"] (spF (K w.params) 1 Yj)) :
  sR q loose XP YP l.row.toRowW d [] (fun f vs=>sF f vs):=
 L2.Aq0 (n:=63) (k:=9) (x := "script") (CX:=fun _=>CX0) (sp:=fun w=>spF (K w.params) 1 Yj) hn (by decide) hdf ⟨rfl,by decide,by decide⟩ hY F (fun w H a ns hl ho hS=>Auy ho hS (Am7 ns hl)) fun _ _ _ _ _ z=>z
end Lw
open PySem PySem.W PyProof.Rows
set_option maxRecDepth 100000 in
set_option maxHeartbeats 0 in
theorem PySem.Challenge.cw_belowpoints_k39_desk_points_holds : PySem.Challenge.rw_belowpoints_k39_desk_points.Holds := by
  w_on; o_law
  refine holds_open (q := Lw.q0) (loose := Lw.lz) (Xt := fun s => xlAt Lw.q0 [] s && recOk [] s) (XP := XL Lw.q0 []) (Yf := Lw.hK.obs) (Ya := Lw.hK.val) (YP := InK Lw.K0) Lw.A3m Lw.hK.of Lw.hK.keeps (fun s e => xl_of s (Bool.and_eq_true_iff.mp e).1) XL.keeps (by rfl) (by rfl) (by rfl) (fun s e => recFacts_of (Bool.and_eq_true_iff.mp e).2) (by rfl) (by first | assumption | decide +kernel) (by decide +kernel) ⟨rfl, rfl, rfl, rfl, rfl, by decide +kernel⟩ ?hw ?hc
  case hw => w_witness2
  k_fill
  refine Lw.A2z (l := PySem.Challenge.rw_belowpoints_k39_desk_points) rfl rfl (K := Lw.K0) (fun w h Y => Y) ?F
  case F =>
    intro w mg fa h KX G hmg
    refine Lw.Auv ?C hmg
    case C =>
      apply Lw.Defs.mk
      all_goals first | exact Lw.Ah5 w KX G | (refine' MR.mkG KX G ?a ?l ?c ?k ?h; (case a => k_is); (case l => k_is); (case c => k_is); (case k => k_is); case h => first | exact fun _ _ _ _ _ _ => MR.Awj (fun _ => rfl) | exact fun _ _ _ _ _ _ => MR.Auj (fun _ _ => rfl) | exact fun _ _ _ _ _ _ => MR.Avz (fun _ _ _ => rfl) | exact fun _ _ _ _ _ _ => MR.Axi (fun _ _ _ _ => rfl)) | (refine' MR.mkM ?a ?i ?l ?c ?k ?h; (case a => k_is); (case i => k_is); (case l => k_is); (case c => k_is); (case k => k_is); case h => first | exact fun _ _ _ _ _ _ => MR.Awj (fun _ => rfl) | exact fun _ _ _ _ _ _ => MR.Auj (fun _ _ => rfl) | exact fun _ _ _ _ _ _ => MR.Avz (fun _ _ _ => rfl) | exact fun _ _ _ _ _ _ => MR.Axi (fun _ _ _ _ => rfl)) | (refine' ⟨?_, ⟨?_, ?_, ?_, ?_⟩⟩ <;> k_is) | (refine' ⟨?_, ?_⟩ <;> first | k_is | kernel_rfl) | (refine' ⟨?_, ?_, ?_⟩ <;> first | k_is | kernel_rfl) | (refine' MR.A3w KX G ?a; (case a => k_is)) | (refine' MR.A2w KX G ?a; (case a => k_is)) | (unfold L2.NoAttr; k_is) | (refine' PySem.W.mg_of KX G ?_; k_is) | (refine' PySem.W.mg_none_of KX G ?_; k_is) | k_is | kernel_rfl
