import PyProof.Rows.All
import Wide.All
import OpenK.AllK
import Wide.FinOn
import Lean
import PyProof.EqAt
import PyProof.EqKinds
import PyProof.TupleCall
import KE.KTurnsDict
import KE.KPairComp
import KE.KTryMore
import PyProof.ExcInit
import KE.KIsNot
import KE.KIntText
import PyProof.ReprStr
import PyProof.StrLawsRepr
import PySem.Challenge.RW_belowpoints_k02_no_points
set_option Elab.async false
set_option linter.all false
set_option maxRecDepth 100000
set_option maxHeartbeats 4000000
theorem wS:PySem.Challenge.rw_belowpoints_k02_no_points.wellSaid=true:=by kernel_rfl
inductive Bs{α β:Type}(x:Option α)(f:α→Option β)(b:β):Prop
  | mk (a:α) (h0:x=some a) (h1:f a=some b):Bs x f b
theorem bnd{α β:Type}{x:Option α}{f:α→Option β}{b:β}(h:x.bind f=some b):Bs x f b:=by
  cases x with
  | none=>cases h
  | some a=>exact ⟨a,rfl,h⟩
inductive Bs2{α γ β:Type}(x:Option (α×γ))(f:α×γ→Option β)(b:β):Prop
  | mk (a:α) (c:γ) (h0:x=some (a,c)) (h1:f (a,c)=some b):Bs2 x f b
theorem B9{α γ β:Type}{x:Option (α×γ)}{f:α×γ→Option β}{b:β}(h:x.bind f=some b):Bs2 x f b:=by
  cases x with
  | none=>cases h
  | some a=>exact ⟨a.1,a.2,rfl,h⟩
inductive Ms{α β:Type}(x:Option α)(f:α→β)(b:β):Prop
  | mk (a:α) (h0:x=some a) (h1:f a=b):Ms x f b
theorem mpd{α β:Type}{x:Option α}{f:α→β}{b:β}(h:x.map f=some b):Ms x f b:=by
  cases x with
  | none=>cases h
  | some a=>exact ⟨a,rfl,Option.some.inj h⟩
inductive Ms2{α γ β:Type}(x:Option (α×γ))(f:α×γ→β)(b:β):Prop
  | mk (a:α) (c:γ) (h0:x=some (a,c)) (h1:f (a,c)=b):Ms2 x f b
theorem X7{α γ β:Type}{x:Option (α×γ)}{f:α×γ→β}{b:β}(h:x.map f=some b):Ms2 x f b:=by
  cases x with
  | none=>cases h
  | some a=>exact ⟨a.1,a.2,rfl,Option.some.inj h⟩
open Option renaming bind_some->aA,map_some->aC,join_some->aP,map_eq_some_iff->kB,isSome_map->mZ,getD_some->nN,none->sU
open PySem.W renaming Frag->aB,findIn->bR,nsIn->bV,keepIn->cN,kia_one->cW,kitOne->dD,piece_app->eA,segRun_of->eB,piecesOf->eQ,emptyDict->eT,boot_heap->eV,segRunT->eZ,BT->fF,fnOf->fH,instObj->fX,InstAt->gQ,specialIn->iN,cellsFrom_some->jW,codeIn->jX,any_some->kO,topFrame->kR,looks_findIn->lB,findObj->lQ,OpenLaw->lZ,callWith_K->mF,boot_drawn->mO,topRun->mP,methodObj->mT,hasDictIn->mW,kitx_list->mX,boot_toks->nC,isFn->nP,takesIn->nY,lookIn->oH,exmOne->oN,notCls->oO,kitAny->oP,mroIn->pC,Looks->pI,mg_of->pK,kitx_tuple->pS,codeRec_of->pT,check_slot->pY,kitx_dict->qF,handed_on->qO,plainGet->qR,boot_o_0->rC,findCls->rK,topStub->rM,blockOf->rN,typeIn->rX,segRun->rZ,restOf->sA,WalkX->sD,subIn->sE,clsIn->sF,recOk->sH,xlAt->sP
open List renaming getElem?_eq_some_iff->aD,getElem?_append_left->aK,getElem?_cons_zero->aL,length_map->aM,getElem?_eq_getElem->aQ,mem_cons_of_mem->aR,map_cons->aS,size_toArray->aT,mem_append_right->aU,mem_cons->aV,mem_cons_self->aW,length_append->aY,getElem?_cons_succ->bA,getElem?_append_right->bD,getElem?_set_ne->bE,replicate->bF,length_cons->bH,getElem?_set_self->bK,mem_append->bM,getElem_mem->bN,getElem?_map->bO,all_eq_true->bW,append_assoc->bY,lookup_cons->cB,length_nil->cK,getElem?_eq_none_iff->cO,append_nil->cR,mem_append_left->cY,take_of_length_le->cZ,mem_or_eq_of_mem_set->dG,mem_singleton->dH,mem_map->dI,mem_of_getElem?->dP,Nodup->dS,range->dX,getElem?_eq_none->eC,find?_cons->eI,map_append->eJ,not_mem_nil->eP,map_nil->eU,replicate_succ->eX,filter_eq_self->eY,mem_of_mem_take->fJ,any_cons->fO,mem_range->fQ,flatten_cons->gD,mem_of_mem_drop->gG,mem_of_mem_eraseIdx->gK,replicate_zero->gO,length_take->gS,eraseIdx_cons_succ->gW,cons_append->gX,of_mem_zip->iG,length_set->iH,take_add_one->iO,filter->iU,length_drop->iV,filterMap_cons->iZ,getElem?_range->jA,mem_filter->jK,reverse_cons->jZ,map_map->kE,eraseIdx_eq_take_drop_succ->kG,filter_cons->kN,map_take->kU,getElem?_mapIdx->kZ,getElem?_append->lD,nodup_cons->lH,nil_append->lJ,length_pos_iff->lU,getElem?_zip_eq_some->mQ,length->mY,append_eq_nil_iff->nX,take_append_drop->oF,drop_zero->oS,all_cons->pD,map_drop->pL,zip_cons_cons->pZ,mem_flatten->rB,forIn_cons->rH,foldl->rR,sum_cons->sG,lookup->sW
open PySem renaming Value->aE,wpAny_bind->aF,Shared->aH,starEach->aN,wpAny_pure->aX,mainGlobals->bB,boot_len->bT,wpAny_mono->cA,Program->cD,treeTable->cS,World->cV,compareOp->dC,FuncData->dN,wpAny_field->dQ,wpAny_passesOwn->dU,wpAny_newObj_type->dY,Around->fA,bootBuiltins->fG,Keyword->fK,binaryOp->fM,Env->fP,wpAny_Call_Name_kw->fR,wpAny_truthy_bool->fY,OsState->gF,wpAny_holding->gH,mem_of_lookup->gL,wpAny_execs_cons->gP,wpAny_callSpecial?_slot->gT,wpAny_getItem_str_slice->gU,NoneBooked->gZ,wpAny_pyIter_tuple->hU,wpAny_loadPart_at->iP,typeIs_str->iQ,wpAny_setField->iR,wpAny_call_entry->iX,call_meets->jO,NameKind->jV,wpAny_pyIter_enum->kA,wpAny_call->kM,wpAny_standAt->kS,BindsTo->kT,sizeLine_eq->kX,codeAny_call_builtin->lC,wpAny_execs_nil->lF,post_val_or_str->lN,codeAny_mono->lV,GenState->mC,wpAny_newFunctionEnv_cells->mG,wpAny_letOwnedTupleGo_enum->mJ,intText?->mN,Scope->mU,Builtin->nA,wpAny_comprehension_free->nG,codeAny->nQ,wpAny_Call_method_late->nU,codeAny_call_function->oB,Params->oJ,codeAny_forLoop_any->oY,wpAny_isSubtype_exc->pA,nums_intItems->pF,wpAny_attempt->pH,builtinsNs->pR,IsPart->pU,tupleKind_room_in1->pW,wpAny_Assign_Name->qB,wpAny_pyIter_list->qC,seqIndex_neg->qJ,slot_list_getitem->qK,PassesOwn->qQ,noFill_tuple_add->qS,DictEntry->qW,wpAny_pyIter_zip->qX,refuseLoop->qZ,seqIndex_of->rE,Paired->rO,wpAny_Name->rP,typeIs_int->rQ,PyData->rS,wpAny_rule->rT,Within->sI,call->tE
open Nat renaming lt_of_lt_of_le->aG,le_refl->aJ,le_trans->bJ,ne_of_lt->cC,le_add_right->cI,succ_pos->cL,ne_of_gt->cP,lt_irrefl->dA,lt_succ_self->dW,sub_self->eK,zero_le->eO,le_succ->gE,le_of_lt->hG,not_lt->mL,lt_succ_iff_lt_or_eq->nJ,min_le_right->nL,min_eq_left->nZ,pow_le_pow_right->oQ,mul_le_mul_right->oR,div_lt_of_lt_mul->oU,lt_of_le_of_lt->pV,le_of_eq->qD,mul_comm->qM,min_eq_right->qV,mod_eq_of_lt->rA,sub_zero->sN,pow_succ->sO,repr->sX
open PySem.Heap renaming get?_push_of_some->aI,lt_size->aO,get?_push_size->bI,get?_update_other->cQ,get?_update_self->dM,size_push->gR,size_after_update->iD,SameBut->nO,ExtBut->oK
open PySem.Builtin.Str renaming occurrences->aZ,strSliceIndices->cH,partsBetween->dB,glued->dZ,strSub->fU,strKind->jC,tooLong->jD,strUnchanged->nI
open PySem.W.Fast renaming te14364793385576792824->bC,te10110043849684766642->bU,te8920871248978507458->jP,te5923862056798008813->jQ
open Bool renaming and_eq_true->bG,false_ne_true->cT,false_eq_true->cU,eq_iff_iff->cX,and_eq_true_iff->fI,or_eq_true->jL,true_and->kW,false_or->pE,not_true->pM,and_false->rY,or_false->sC
open Option.some renaming inj->bL
open PySem.Value renaming ref->bP,none->dO,str->lY,type->mB,int->oX,builtin->pJ,bool->pP,float->rD,isStrOf->sB,isInt->sQ,bytes->sR
open PySem.Txt renaming split->bQ,slice->dF,mul->iB,replace->iT,startswith->kC,find->qP,join->rW,slice_le->sK
open PySem.F renaming plainAttrs_str->bS,plainAttrs_list->bX,slot_str_split->cM,type_str_split->dJ,slot_list_append->eE,type_list_append->eF,slot_tuple_iterator_next->fS,slot_str_replace->gJ,slot_list_pop->iL,type_list_pop->iM,args_str_split_2->jG,slot_list_insert->jH,type_list_insert->jI,entry_str_split->jS,slot_str_join->kJ,type_str_join->kK,args_tuple_iterator_next_1->lL,entry_tuple_iterator_next->lW,excBase_ValueError->mM,entry_str_replace->mS,args_tuple_add_2->nE,type_str_replace->nH,entry_tuple_add->nK,slot_tuple_add->nR,slot_enumerate_next->oE,slot_int_rmul->rG
open PySem.NumText renaming digitsVal->bZ,digitsVal_snoc->kD
open Int renaming toNat_natCast->cF,emod_lt_of_pos->iE,emod_nonneg->jM,natCast_nonneg->mI,ediv_nonneg->oA,max_eq_right->qU,min_eq_left->rF,ofNat_le->sJ,lt_trans->sM
open PySem.Str renaming length_append->cG,join->cJ,length->eN,cps->iF,ofString->iW,empty->kL
open PySem.PyData renaming eqv->dE,canLay0->fT,depth->iC,eqvAll->jF,strOk->lX,list->oM,canLayAll0->qN,depthAll->rJ
open PySem.PassesOwn renaming never->dL
open PySem.Obj renaming data_mapFields->dR,isFreed_of_fields->eD,mapFields->eS,mapSeq->iA
open Ne renaming symm->eG
open False renaming elim->eL
open PyProof.Rows renaming callWith_type1->eR,slot_tuple_getitem->kF,AllBare->mV,IntsAre->nS,subscriptTail_builtinR->nT,boot_max->oG,slot_str_getitem->qT
open Array renaming length_toList->eW,getElem?_eq_some_iff->iS,all_toList->kQ,getElem?_eq_getElem->mR,append_assoc->pQ
open True renaming intro->fB
open PySem.W.Looks renaming here->fD
open PySem.StrLaws renaming join_split->fE,partsFrom->fL,strSliceIndices_plain->gY,glued_eq_join->iK,partsBetween_eq->jT,occ_length_le->kH,strSub_toList->kI,found_one->nB,join_length_le->nW,sliced_plain->oV,split_free->qA,ChainTo->rL
open PySem.SeqAt renaming shaped->fN,EqAt->sY
open PySem.Builtin.Slice renaming slicePlaces->fV,sliceAdjust->iY,sliceApplied->mH
open PySem.Builtin.SmallTypes renaming nextOf->fW
open PySem.Builtin.Tuple renaming tupleExact->gI
open ForInStep renaming yield->iI
open PySem.NameKind renaming free->iJ,cell->pG
open PySem.Builtin.Int renaming intBits->jB
open PySem.Builtin.List renaming listTooLong->jE,listFitsIndex->mK
open Sum renaming inr->jJ,inl->oW
open PySem.Calls renaming Constant_str->jN,callWith_builtin->jY,evalArgs_plain->kY,Name_function_global->mD,spliced_cons->mE,spliced_nil->qI
open Prod.mk renaming inj->jR
open PySem.Builtin.ObjectAttr renaming storeInOwnDict->jU,storeInDict->kP
open List.cons renaming injEq->lK
open PySem.W.WData renaming weightAll->lP,int->nM,layableAll->qY,weight->sL,list->sZ
open PySem.Heap.SameBut renaming update->lR
open PySem.Paired renaming length->nD,snoc->sV
open Or renaming inr->nF,inl->nV
open PySem.Around renaming frames_deeper->oI,under->qG,in1->rV
open PySem.EntryCells renaming newEntry->oZ
open PySem.W.SharedT renaming abs->pB
open PySem.SeqAt.EqAt renaming int_str->pN,str_int->pO
open PySem.Code renaming quiet_builtin->pX,isFrame->qH,frames->sS
open PySem.Heap.Ns1 renaming of_empty->qE
open Prod renaming ext->sT
open PySem.W.WShape renaming has->tD
namespace L2
open PySem PySem.Spec PyProof.Rows
abbrev Key:=Sum Int Str
def Ux:Key->aE->Bool
 | .inl k,v=>sQ k v
 | .inr x,v=>sB x v
def Avw(w:cV):Key->Int
 | .inl k=>hashInt k
 | .inr x=>hashStr w x
theorem Dm:∀ {k:Key} {v:aE},Ux k v=true->(∃ i t,k=oW i/\v=oX i t)\/(∃ x t,k=jJ x/\v=lY x t)
 | .inl i,v,h=>by
  obtain ⟨t,e⟩:=aE.isInt_shape (k:=i) (v:=v) h
  exact .inl ⟨i,t,rfl,e⟩
 | .inr x,v,h=>by
  obtain ⟨t,e⟩:=aE.isStrOf_shape (x:=x) (v:=v) h
  exact .inr ⟨x,t,rfl,e⟩
theorem Adi(i:Int)(t:Tok):Ux (.inl i) (.int i t)=true:=by simp[Ux,sQ]
theorem Ael(x:Str)(t:Tok):Ux (.inr x) (.str x t)=true:=by simp[Ux,sB]
theorem Apg(a b:Int):decide ((oW a:Key)=oW b)=(a == b):=by
 by_cases e:a=b
 ·subst e;simp
 ·have h:¬ (oW a:Key)=oW b:=fun q=>e (oW.inj q)
  rw[decide_eq_false h]
  exact (beq_eq_false_iff_ne.mpr e).symm
theorem Apk(a b:Str):decide ((jJ a:Key)=jJ b)=decide (a=b):=by
 by_cases e:a=b
 ·subst e;simp
 ·have h:¬ (jJ a:Key)=jJ b:=fun q=>e (jJ.inj q)
  rw[decide_eq_false h,decide_eq_false e]
theorem Anz(a:Int)(b:Str):decide ((oW a:Key)=jJ b)=false:=decide_eq_false (fun q=>nomatch q)
theorem An4(a:Str)(b:Int):decide ((jJ a:Key)=oW b)=false:=decide_eq_false (fun q=>nomatch q)
def Eh(prog:cD)(w:cV):PySem.KeyKind prog w Key where
 is:=Ux
 hash:=Avw w
 inj:=fun v a b ha hb=>by
  rcases Dm ha with ⟨i,t,rfl,rfl⟩ | ⟨x,t,rfl,rfl⟩
  ·rcases Dm hb with ⟨j,u,rfl,e⟩ | ⟨y,u,rfl,e⟩
   ·injection e with e1 _;rw[e1]
   ·exact nomatch e
  ·rcases Dm hb with ⟨j,u,rfl,e⟩ | ⟨y,u,rfl,e⟩
   ·exact nomatch e
   ·injection e with e1 _;rw[e1]
 byValue:=fun k v h=>by
  rcases Dm h with ⟨i,t,rfl,rfl⟩ | ⟨x,t,rfl,rfl⟩ <;> rfl
 pyHash:=fun hv h=>by
  rcases Dm hv with ⟨i,t,rfl,rfl⟩ | ⟨x,t,rfl,rfl⟩
  ·exact wpAny_pyHash_int h
  ·exact wpAny_pyHash_str h
 eqBool:=fun hu hv h=>by
  rcases Dm hu with ⟨i,t,rfl,rfl⟩ | ⟨x,t,rfl,rfl⟩
  ·rcases Dm hv with ⟨j,u,rfl,rfl⟩ | ⟨y,u,rfl,rfl⟩
   ·rw[Apg] at h;exact wpAny_eqBool_int h
   ·rw[Anz] at h;exact pN i t y u _ _ _ _ h
  ·rcases Dm hv with ⟨j,u,rfl,rfl⟩ | ⟨y,u,rfl,rfl⟩
   ·rw[An4] at h;exact pO x t j u _ _ _ _ h
   ·rw[Apk] at h;exact wpAny_eqBool_str h
 «strs» := fun k x t v h=>by
  rcases Dm h with ⟨i,u,rfl,e⟩ | ⟨y,u,rfl,e⟩
  ·exact nomatch e
  ·injection e with e1 _
   subst e1
   cases v <;> rfl
theorem Wg(prog:cD)(w:cV)(i:Int)(t:Tok):(Eh prog w).is (.inl i) (.int i t)=true:=Adi i t
theorem Xd(prog:cD)(w:cV)(x:Str)(t:Tok):(Eh prog w).is (.inr x) (.str x t)=true:=Ael x t
inductive V where
 | non | bl (b:Bool) | int (i:Int) | str (x:Str) | tz (x:Str) | byt (b:Array UInt8) | flt (b:UInt64) | ref (a:Addr) | ty (n:String)
 deriving DecidableEq
def Cm:V->aE->Prop
 | .non,u=>u=dO
 | .bl b,u=>u=pP b
 | .int i,u=>∃ t,u=oX i t
 | .str x,u=>∃ t,u=lY x t
 | .tz x,u=>∃ t,u=lY x t/\0 < t
 | .byt b,u=>∃ t,u=sR b t
 | .flt b,u=>∃ t,u=rD b t
 | .ref a,u=>u=bP a
 | .ty n,u=>u=mB n
abbrev Vals:List V->List aE->Prop:=rO Cm
variable {xs:List V}{us:List aE}
theorem Vals.length(r:Vals xs us):xs.length=us.length:=nD r
variable {i:Nat}
theorem Vals.get{x:V}(h:Vals xs us)(e:xs[i]? = some x):∃ u,us[i]? = some u/\Cm x u:=by
 induction h generalizing i with
 | nil=>cases e
 | cons r t ih=>
  cases i with
  | zero=>cases e;exact ⟨_,rfl,r⟩
  | succ i=>exact ih (i:=i) e
variable {u:aE}
theorem Vals.set{x:V}(r:Cm x u)(i:Nat)(h:Vals xs us):Vals (xs.set i x) (us.set i u):=by
 induction h generalizing i with
 | nil=>exact .nil
 | cons q t ih=>
  cases i with
  | zero=>exact .cons r t
  | succ i=>exact .cons q (ih i)
variable {ys:List V}
theorem Vals.append{ws:List aE}(h:Vals xs us)(s:Vals ys ws):Vals (xs++ys) (us++ws):=by
 induction h with
 | nil=>exact s
 | cons r t ih=>exact .cons r ih
theorem Vals.take(n:Nat)(h:Vals xs us):Vals (xs.take n) (us.take n):=by
 induction h generalizing n with
 | nil=>cases n <;> exact .nil
 | cons r t ih=>
  cases n with
  | zero=>exact .nil
  | succ n=>exact .cons r (ih n)
theorem Vals.drop(n:Nat)(h:Vals xs us):Vals (xs.drop n) (us.drop n):=by
 induction h generalizing n with
 | nil=>cases n <;> exact .nil
 | cons r t ih=>
  cases n with
  | zero=>exact .cons r t
  | succ n=>exact ih n
def RelO:Option V->Option aE->Prop
 | some v,some u=>Cm v u
 | none,none=>True
 | _,_=>False
def KV{κ:Type}:List (κ×V)->List (κ×aE)->Prop:=rO fun (p:κ×V) (q:κ×aE)=>p.1=q.1/\Cm p.2 q.2
def kV:Key->V
 | .inl i=>.int i
 | .inr x=>.str x
inductive HO where
 | lst (xs:List V)
 | tup (xs:List V)
 | dK (kvs:List (Key×V)) | dT (kvs:List (List Key×V))
 | set (S:Int->Bool) (n:Nat)
 | ins (C dx:Addr) (fs:List (Str×V))
 | own (x:Addr)
 | xd (fs:List (Str×V))
 | met (f x:Addr)
 | rng (lo hi:Int)
 | frz (o:Obj) (u:HO)
 | tbl (ps:Array aE)
 | ext (φ:Heap->Prop)
abbrev Hp:=Addr->Option HO
def upd(H:Hp)(a:Addr)(o:HO):Hp:=fun b=>if b=a then some o else H b
variable {H:Hp}{a:Addr}{o:HO}
theorem upd_same:upd H a o a=some o:=by unfold upd;rw[if_pos rfl]
variable {b:Addr}
theorem Bv(h:b≠a):upd H a o b=H b:=by unfold upd;rw[if_neg h]
theorem Afl{u:HO}(h:H a=some o)(h':H b=some u)(d:o≠u):a≠b:=by
 intro e;subst e;rw[h] at h';exact d (bL h')
theorem By(h:H a=some o)(h':H b=none):a≠b:=by
 intro e;subst e;rw[h] at h';cases h'
def TupN(h:Heap)(a:Addr)(its:Array aE):Prop:=∃ o:Obj,h.get? a=some o/\(o.cls,o.dict)=(mB "tuple",(none:Option Addr))/\∃ n,o.data = .seq its n
variable {h:Heap}
theorem TupN.is{its:Array aE}(x:TupN h a its):h.IsTuple a its:=by
 obtain ⟨o,e,c,n,d⟩:=x
 exact ⟨o,e,(jR c).1,n,d⟩
theorem TupN.new(h:Heap)(its:Array aE):TupN (h.push { cls:=.type "tuple",data:=.seq its }) h.objs.size its:=⟨_,bI _ rfl,rfl,0,rfl⟩
theorem TupN.lt{its:Array aE}(x:TupN h a its):a < h.objs.size:=by
 obtain ⟨o,e,_⟩:=x;exact aO e
section
variable (P:cD)(w:cV)
def ObjOk(H:Hp)(h:Heap)(a:Addr):HO->Prop
 | .lst xs=>xs.length<=sizeLine/\∃ (its:List aE) (n:Nat),Vals xs its/\h.get? a=some { cls:=.type "list",data:=.seq its.toArray n }
 | .tup xs=>xs.length<=sizeLine/\∃ its:List aE,Vals xs its/\TupN h a its.toArray
 | .dK kvs=>kvs.length<=sizeLine/\(a == sysModules)=false/\∃ vs,KV kvs vs/\h.DictOf (Eh P w) a vs
 | .dT kvs=>kvs.length<=sizeLine/\(a == sysModules)=false/\∃ xs:List (List Key×Addr×aE),
   rO (fun (p:List Key×V) (q:List Key×Addr×aE)=>p.1=q.1/\H q.2.1=some (.tup (p.1.map kV))/\Cm p.2 q.2.2) kvs xs /\
   ∃ o es ep,h.get? a=some o/\o.ExactDict/\o.data = .dict es ep/\es.toList=xs.map (entryOfKey (tupleKind (Eh P w)))/\(xs.map (·.1)).Nodup
 | .set S n=>h.SetOf (intKind P w) a S n
 | .ins C dx fs=>H dx=some (.own a)/\fs.length<=1000/\dx≠a/\h.get? a=some (fX C dx) /\
   ∃ mA,h.Ns1 dx mA/\(∀ f,RelO (fs.lookup f) (mA f))/\sI mA (fs.map (·.1))
 | .own _=>∃ o,h.get? a=some o
 | .xd fs=>∃ mA,h.Ns1 a mA/\∀ f,RelO (fs.lookup f) (mA f)
 | .rng lo hi=>∃ t u v,h.get? a=some { cls:=.type "range",data:=.fields #[.int lo t,.int hi u,.int 1 v] }
 | .frz o u=>h.get? a=some o/\ObjOk H h a u
 | .tbl ps=>h.get? a=some { cls:=.none,data:=.fields ps }
 | .met f x=>h.get? a=some (mT (.ref f) (.ref x))
 | .ext φ=>φ h/\(∃ o,h.get? a=some o)/\∀ h1 h2:Heap,φ h1->(∀ o,h1.get? a=some o->h2.get? a=some o)->φ h2
def HOk(H:Hp)(h:Heap):Prop:=∀ a o,H a=some o->ObjOk P w H h a o
end
variable {P:cD}{w:cV}{H':Hp}{h':Heap}
section
theorem ObjOk.lt(x:ObjOk P w H h a o):a < h.objs.size:=by
 cases o with
 | lst xs=>obtain ⟨_,_,_,_,e⟩:=x;exact aO e
 | tup xs=>obtain ⟨_,_,_,p⟩:=x;exact p.lt
 | dK kvs=>obtain ⟨_,_,_,_,o,_,_,e,_⟩:=x;exact aO e
 | dT kvs=>obtain ⟨_,_,_,_,o,_,_,e,_⟩:=x;exact aO e
 | set S n=>obtain ⟨o,_,_,_,e,_⟩:=x;exact aO e
 | ins C dx fs=>obtain ⟨_,_,_,e,_⟩:=x;exact aO e
 | own y=>obtain ⟨_,e⟩:=x;exact aO e
 | xd fs=>obtain ⟨_,⟨_,_,_,e,_⟩,_⟩:=x;exact aO e
 | rng lo hi=>obtain ⟨_,_,_,e⟩:=x;exact aO e
 | frz ob u=>obtain ⟨e,_⟩:=x;exact aO e
 | tbl ps=>exact aO (show h.get? a=some _ from x)
 | met f y=>exact aO (show h.get? a=some _ from x)
 | ext φ=>obtain ⟨_,⟨_,e⟩,_⟩:=x;exact aO e
theorem Paired.mapP{α β:Type}{F G:α->β->Prop}{l₁:List α}{l₂:List β}(h:rO F l₁ l₂)(f:∀ a b,F a b->G a b):rO G l₁ l₂:=by
 induction h with
 | nil=>exact .nil
 | cons r t ih=>exact .cons (f _ _ r) ih
theorem ObjOk.stay(x:ObjOk P w H h a o)(k:∀ b u,(b=a\/H b=some (.own a))->h.get? b=some u->h'.get? b=some u)
  (ho:∀ b,H b=some (.own a)->H' b=some (.own a)) (ht:∀ b xs,H b=some (.tup xs)->H' b=some (.tup xs)):ObjOk P w H' h' a o:=by
 induction o with
 | lst xs=>obtain ⟨z,its,n,r,e⟩:=x;exact ⟨z,its,n,r,k _ _ (.inl rfl) e⟩
 | tup xs=>obtain ⟨z,its,r,ob,e,c⟩:=x;exact ⟨z,its,r,ob,k _ _ (.inl rfl) e,c⟩
 | dK kvs=>obtain ⟨z,y,vs,r,ob,es,ep,e,c⟩:=x;exact ⟨z,y,vs,r,ob,es,ep,k _ _ (.inl rfl) e,c⟩
 | dT kvs=>
  obtain ⟨z,y,xs,r,ob,es,ep,e,c⟩:=x
  exact ⟨z,y,xs,Paired.mapP r fun p q z=>⟨z.1,ht _ _ z.2.1,z.2.2⟩,ob,es,ep,k _ _ (.inl rfl) e,c⟩
 | set S n=>obtain ⟨ob,es,ep,t,e,c⟩:=x;exact ⟨ob,es,ep,t,k _ _ (.inl rfl) e,c⟩
 | ins C dx fs=>
  obtain ⟨d,z,ne,e,mA,⟨od,es,ep,e2,c⟩,r⟩:=x
  exact ⟨ho _ d,z,ne,k _ _ (.inl rfl) e,mA,⟨od,es,ep,k _ _ (.inr d) e2,c⟩,r⟩
 | own y=>obtain ⟨ob,e⟩:=x;exact ⟨ob,k _ _ (.inl rfl) e⟩
 | xd fs=>obtain ⟨mA,⟨od,es,ep,e,c⟩,r⟩:=x;exact ⟨mA,⟨od,es,ep,k _ _ (.inl rfl) e,c⟩,r⟩
 | rng lo hi=>obtain ⟨t,u,v,e⟩:=x;exact ⟨t,u,v,k _ _ (.inl rfl) e⟩
 | frz ob u ih=>obtain ⟨e,q⟩:=x;exact ⟨k _ _ (.inl rfl) e,ih q⟩
 | tbl ps=>
  have e:h.get? a=some { cls:=.none,data:=.fields ps }:=x
  show h'.get? a=some { cls:=.none,data:=.fields ps }
  exact k a _ (.inl rfl) e
 | met f y=>
  have e:h.get? a=some (mT (.ref f) (.ref y)):=x
  show h'.get? a=some (mT (.ref f) (.ref y))
  exact k a _ (.inl rfl) e
 | ext φ=>obtain ⟨p,⟨o,e⟩,st⟩:=x;exact ⟨st _ _ p fun o q=>k _ _ (.inl rfl) q,⟨o,k _ _ (.inl rfl) e⟩,st⟩
theorem HOk.lt(x:HOk P w H h)(e:H a=some o):a < h.objs.size:=(x a o e).lt
theorem HOk.fresh(x:HOk P w H h)(e:h.objs.size<=a):H a=none:=by
 cases q:H a with
 | none=>rfl
 | some u=>exact absurd (aG (x.lt q) e) (dA _)
theorem HOk.kept(x:HOk P w H h)(k:∀ b u,h.get? b=some u->h'.get? b=some u):HOk P w H h':=fun a o e=>
 (x a o e).stay (fun b u _ q=>k b u q) (fun _ q=>q) fun _ _ q=>q
theorem HOk.laid(x:HOk P w H h)(k:∀ b u,h.get? b=some u->h'.get? b=some u)(hp:h.objs.size<=a)(new:ObjOk P w (upd H a o) h' a o):HOk P w (upd H a o) h':=fun b u e=>by
 have hn:=x.fresh hp
 by_cases hb:b=a
 ·subst hb;rw[upd_same] at e;cases e;exact new
 ·rw[Bv hb] at e
  exact (x b u e).stay (fun c v _ q=>k c v q) (fun c q=>by rw[Bv (By q hn)];exact q) fun c xs q=>by rw[Bv (By q hn)];exact q
end
def Rd(H:Hp)(a:Addr)(u:HO):Prop:=H a=some u\/∃ o,H a=some (.frz o u)
theorem Rd.of{u:HO}(h:H a=some u):Rd H a u:=.inl h
theorem Rd.ok{u:HO}(r:Rd H a u)(x:HOk P w H h):ObjOk P w H h a u:=by
 rcases r with r | ⟨o,r⟩
 ·exact x a u r
 ·obtain ⟨_,q⟩:=x a _ r
  exact q
def Mut:Option HO->Prop
 | some (.lst _)=>True
 | some (.dK _)=>True
 | some (.dT _)=>True
 | some (.set _ _)=>True
 | some (.ins _ _ _)=>True
 | some (.ext _)=>True
 | _=>False
section
variable {x e:Addr}{o':HO}
theorem HOk.write(ok:HOk P w H h)(mu:Mut (H x))(he:e=x\/H e=some (.own x))(k:∀ b u,b≠e->h.get? b=some u->h'.get? b=some u)(heo:∃ u,h'.get? e=some u)
  (new:ObjOk P w (upd H x o') h' x o'):HOk P w (upd H x o') h':=fun b u q=>by
 have nown:∀ c y,H c=some (.own y)->c≠x:=fun c y r z=>by subst z;rw[r] at mu;exact mu
 have ntup:∀ c xs,H c=some (.tup xs)->c≠x:=fun c xs r z=>by subst z;rw[r] at mu;exact mu
 by_cases hb:b=x
 ·subst hb;rw[upd_same] at q;cases q;exact new
 ·rw[Bv hb] at q
  by_cases hbe:b=e
  ·have q':H b=some (.own x):=by
    rcases he with z | z
    ·exact absurd (hbe.trans z) hb
    ·rw[hbe];exact z
   rw[q] at q';cases q'
   obtain ⟨v,hv⟩:=heo
   exact ⟨v,by rw[hbe];exact hv⟩
  ·refine (ok b u q).stay (fun c v hc r=>k c v ?_ r) (fun c r=>by rw[Bv (nown c b r)];exact r) fun c xs r=>by rw[Bv (ntup c xs r)];exact r
   rcases hc with rfl | hc
   ·exact hbe
   ·rintro rfl
    rcases he with z | z
    ·exact nown c b hc z
    ·rw[hc] at z;cases z;exact hb rfl
end
structure Un(fs ex:List Addr)(H H':Hp)(h h':Heap):Prop where
 keep:∀ b o,h.get? b=some o->H b=none->b∉fs->b∉ex->h'.get? b=some o
 slot:∀ b o,h.get? b=some o->H b=none->b∈fs->b∉ex->∃ sl,h'.get? b=some { o with slots:=sl }
 free:∀ b o,h.get? b=some o->H b=none->b∉ex->H' b=none
 there:∀ b o,h.get? b=some o->b∉ex->∃ o',h'.get? b=some o'
 tups:∀ b xs,H b=some (.tup xs)->H' b=some (.tup xs)
 frzs:∀ b o u,H b=some (.frz o u)->H' b=some (.frz o u)
 tbls:∀ b ps,H b=some (.tbl ps)->∃ more,H' b=some (.tbl (ps++more))
section
variable {fs fs' ex ex':List Addr}{H1 H2:Hp}{h1 h2:Heap}{x e:Addr}
theorem Un.any(u:Un fs ex H H1 h h1){ob:Obj}(q:h.get? b=some ob)(n:H b=none)(hx:b∉ex):∃ sl,h1.get? b=some { ob with slots:=sl }:=by
 by_cases hb:b∈fs
 ·exact u.slot b ob q n hb hx
 ·exact ⟨ob.slots,u.keep b ob q n hb hx⟩
theorem Un.trans(a:Un fs ex H H1 h h1)(b:Un fs ex H1 H2 h1 h2):Un fs ex H H2 h h2 where
 keep:=fun c ob q n hc hx=>b.keep c ob (a.keep c ob q n hc hx) (a.free c ob q n hx) hc hx
 slot:=fun c ob q n hc hx=>by
  obtain ⟨sl,e1⟩:=a.slot c ob q n hc hx
  obtain ⟨sl',e2⟩:=b.slot c _ e1 (a.free c ob q n hx) hc hx
  exact ⟨sl',e2⟩
 free:=fun c ob q n hx=>by
  obtain ⟨o',e1⟩:=a.there c ob q hx
  exact b.free c o' e1 (a.free c ob q n hx) hx
 there:=fun c ob q hx=>by
  obtain ⟨o',e1⟩:=a.there c ob q hx
  exact b.there c o' e1 hx
 tups:=fun c xs q=>b.tups c xs (a.tups c xs q)
 frzs:=fun c ob xs q=>b.frzs c ob xs (a.frzs c ob xs q)
 tbls:=fun c ps q=>by
  obtain ⟨m1,e1⟩:=a.tbls c ps q
  obtain ⟨m2,e2⟩:=b.tbls c _ e1
  exact ⟨m1++m2,by rw[e2,pQ]⟩
theorem Un.kept(k:∀ b u,h.get? b=some u->h'.get? b=some u):Un fs ex H H h h':=
 ⟨fun b ob q _ _ _=>k b ob q,fun b ob q _ _ _=>⟨ob.slots,k b ob q⟩,fun _ _ _ n _=>n,fun b ob q _=>⟨ob,k b ob q⟩,fun _ _ q=>q,fun _ _ _ q=>q,fun _ ps q=>⟨#[],by rw[q];simp⟩⟩
theorem Un.refl:Un fs ex H H h h:=Un.kept fun _ _ q=>q
theorem Un.laid(k:∀ b u,h.get? b=some u->h'.get? b=some u)(hp:h.objs.size<=a)(hn:H a=none):Un fs ex H (upd H a o) h h' where
 keep:=fun b u q _ _ _=>k b u q
 slot:=fun b u q _ _ _=>⟨u.slots,k b u q⟩
 free:=fun b u q n _=>by rw[Bv (cC (aG (aO q) hp))];exact n
 there:=fun b u q _=>⟨u,k b u q⟩
 tups:=fun b xs q=>by rw[Bv (By q hn)];exact q
 frzs:=fun b u xs q=>by rw[Bv (By q hn)];exact q
 tbls:=fun b ps q=>⟨#[],by rw[Bv (By q hn),q];simp⟩
theorem Un.write(mu:Mut (H x))(he:e=x\/H e=some (.own x))(k:∀ b u,b≠e->h.get? b=some u->h'.get? b=some u)(heo:∃ u,h'.get? e=some u):Un fs ex H (upd H x o) h h':=by
 have hx:∀ b,H b=none->b≠x:=fun b n z=>by subst z;rw[n] at mu;exact mu
 have hb:∀ b,H b=none->b≠e:=fun b n z=>by
  subst z
  rcases he with r | r
  ·exact hx b n r
  ·rw[n] at r;cases r
 have hm:∀ b u,H b=some u->¬ Mut (some u)->b≠x:=fun b u q nm z=>by subst z;rw[q] at mu;exact nm mu
 refine ⟨fun b u q n _ _=>k b u (hb b n) q,fun b u q n _ _=>⟨u.slots,k b u (hb b n) q⟩,fun b u q n _=>by rw[Bv (hx b n)];exact n,fun b u q _=>?_,
  fun b xs q=>by rw[Bv (hm b _ q fun z=>z)];exact q,fun b u xs q=>by rw[Bv (hm b _ q fun z=>z)];exact q,fun b ps q=>⟨#[],by rw[Bv (hm b _ q fun z=>z),q];simp⟩⟩
 by_cases hbe:b=e
 ·subst hbe;exact heo
 ·exact ⟨u,k b u hbe q⟩
theorem Un.mono(u:Un fs ex H H1 h h1)(hs:∀ b∈fs,b∈fs')(hx:∀ b∈ex,b∈ex'):Un fs' ex' H H1 h h1:=
 ⟨fun b ob q n hb he=>u.keep b ob q n (fun z=>hb (hs b z)) fun z=>he (hx b z),fun _ _ q n _ he=>u.any q n fun z=>he (hx _ z),fun b ob q n he=>u.free b ob q n fun z=>he (hx b z),fun b ob q he=>u.there b ob q fun z=>he (hx b z),u.tups,u.frzs,u.tbls⟩
end
def trk(h:Heap)(H:Hp):List Addr:=(dX h.objs.size).filter fun a=>(H a).isSome
def Vt(h:Heap)(H:Hp):Heap:=PySem.W.hideAll h (trk h H)
theorem Adb(h:Heap)(H:Hp):(Vt h H).objs.size=h.objs.size:=PySem.W.hideAll_size _ _
theorem Ags{o:Obj}(e:h.get? b=some o)(n:H b=none):(Vt h H).get? b=some o:=
 PySem.W.hideAll_get _ e fun hm=>by
  have q:(H b).isSome=true:=(jK.mp hm).2
  rw[n] at q;simp at q
theorem Ali{o:Obj}(e:(Vt h H).get? b=some o):h.get? b=some o/\H b=none:=by
 have e':h.get? b=some o:=PySem.W.of_hideAll (trk h H) e
 refine ⟨e',?_⟩
 cases q:H b with
 | none=>rfl
 | some x=>
  have hm:b∈trk h H:=jK.mpr ⟨fQ.mpr (aO e'),by simp[q]⟩
  have z:(Vt h H).get? b=none:=PySem.W.hideAll_none (trk h H) hm
  rw[z] at e;cases e
def Akf(g h:Heap)(L:Addr):List (Addr×Obj):=(dX h.objs.size).filterMap fun a=>if a=L\/(g.get? a).isSome=true then none else (h.get? a).map fun o=>(a,o)
def rest(g h:Heap)(L d:Addr):List (Addr×Obj):=(Akf g h L).filter fun p=>decide (p.1≠d)
structure Mod(K:aB)(mg:Str->Option aE)(base:Heap):Prop where
 kin:K.In base
 glob:base.Ns bB mg
 blt:∃ mb,base.Ns pR mb/\∀ x:Str,x ≠ "__name__" -> mb x=fG x
 nolimit:base.NoLimit
 booked:gZ base
structure Cx where
 prog:cD
 w:cV
 K:aB
 mg:Str->Option aE
 base:Heap
 A:fA
 N:List Str
 s₀:aH
 H₀:Hp
 env:Env
 outer:List Env
 stack:List Env
 ex:List Addr
 fn:Str->Bool
 calm:Bool
 pn:List (Addr×Obj)
 xe:aE->aH->Prop
def frs(l:List Env):List Addr:=l.filterMap (·.frame)
abbrev Cx.fs(X:Cx):List Addr:=frs X.outer
def Vis(sc:mU)(x:Str):Prop:=sc.names.lookup x=some .local\/sc.names.lookup x=some .cell\/sc.names.lookup x=some .free
def Loc(sc:mU)(x:Str):Prop:=sc.names.lookup x=some .local\/sc.names.lookup x=some .cell
def Aux(env:Env)(h:Heap)(m:Str->Option aE)(x:Str)(u:aE):Prop:=
 (env.kindOf x=some .local/\m x=some u)\/((env.kindOf x=some .cell\/env.kindOf x=some .free)/\∃ c,env.cells.lookup x=some c/\h.IsCell c (some u))
structure Cx.Ok(X:Cx):Prop where
 mod:Mod X.K X.mg X.base
 kind:X.env.scope.kind = .function
 glob:X.env.globals=bB
 blt:X.env.builtins=pR
 above:X.s₀.heap.objs.size<=X.env.locals
 inj:∀ x y c,X.env.cells.lookup x=some c->X.env.cells.lookup y=some c->x=y
 has:∀ x,(X.env.kindOf x=some .cell\/X.env.kindOf x=some .free)->∃ c,X.env.cells.lookup x=some c
 cab:∀ x c,X.fn x=true->X.env.cells.lookup x=some c->X.s₀.heap.objs.size<=c
 hd:X.calm=true->X.A.handled=none
 frames:X.A.frames=some X.stack
 stk:X.stack=X.outer\/(X.stack=X.env::X.outer/\X.env.frame=some X.env.locals)
 exf:∀ b∈X.ex,b≠X.env.locals/\∀ x c,X.env.cells.lookup x=some c->c≠b
 bs:∀ b o,X.base.get? b=some o->X.s₀.heap.get? b=some o/\X.H₀ b=none
 bsz:X.base.objs.size<=X.s₀.heap.objs.size
 noex:∀ b o,X.base.get? b=some o->b∉X.ex
 exfs:∀ b∈X.ex,b∉X.fs
 funs:X.s₀.heap.FunFrames X.base X.outer
 frf:∀ b∈X.fs,X.H₀ b=none
structure Inv(X:Cx)(pins:List (Addr×Obj))(σ:List (Option V))(H:Hp)(s:aH):Prop where
 ok:X.Ok
 os:s.os=X.s₀.os
 bare:mV s.gens
 base:Un X.fs X.ex X.H₀ H X.s₀.heap s.heap
 loc:∃ m,s.heap.Ns X.env.locals m/\∀ (i:Nat) (x:Str) (v:V),X.N[i]? = some x->σ[i]? = some (some v)->Vis X.env.scope x->∃ u,Cm v u/\Aux X.env s.heap m x u
 cell:∀ x c,X.env.cells.lookup x=some c->∃ v,s.heap.IsCell c v
 free:H X.env.locals=none
 freeC:∀ x c,X.env.cells.lookup x=some c->H c=none
 pin:∀ p∈X.pn++pins,s.heap.get? p.1=some p.2/\H p.1=none/\p.1≠X.env.locals/\p.1∉X.fs/\∀ v,p.2.data≠.cell v
 hok:HOk X.prog X.w H s.heap
 len:σ.length=X.N.length
 tk:0 < s.toks
variable {x:Str}{X:Cx}{pins:List (Addr×Obj)}{s s':aH}{t' j:Nat}{ch:List Addr}{M:Model}{A:fA}{E:aE->aH->Prop}{v:V}
section
variable {σ:List (Option V)}
theorem Cx.Ok.nofr(ok:X.Ok){o:Obj}(e:X.base.get? b=some o):b∉X.fs:=fun hb=>by
 have:=(ok.funs.mem hb).1
 rw[e] at this;cases this
theorem Inv.bs(I:Inv X pins σ H s):∀ b o,X.base.get? b=some o->s.heap.get? b=some o/\H b=none:=fun b o e=>
 ⟨I.base.keep b o (I.ok.bs b o e).1 (I.ok.bs b o e).2 (I.ok.nofr e) (I.ok.noex b o e),I.base.free b o (I.ok.bs b o e).1 (I.ok.bs b o e).2 (I.ok.noex b o e)⟩
theorem Inv.bk(I:Inv X pins σ H s):∀ b o,X.base.get? b=some o->s.heap.get? b=some o:=fun b o e=>(I.bs b o e).1
theorem Inv.mod(I:Inv X pins σ H s):Mod X.K X.mg X.base:=I.ok.mod
theorem Inv.kIn(I:Inv X pins σ H s):X.K.In s.heap:=I.ok.mod.kin.keeps I.bk
theorem Inv.booked(I:Inv X pins σ H s):gZ s.heap:=let ⟨mc,h1,h2⟩:=I.ok.mod.booked;⟨mc,h1.keeps I.bk,h2⟩
theorem Inv.nolimit(I:Inv X pins σ H s):s.heap.NoLimit:=I.ok.mod.nolimit.keeps I.bk
theorem Inv.fr(I:Inv X pins σ H s):∃ m,Fr X.base X.env.locals s.heap m:=
 let ⟨m,hn,_⟩:=I.loc
 ⟨m,hn,I.bk,bJ I.ok.bsz I.ok.above⟩
theorem Inv.lt(I:Inv X pins σ H s):X.env.locals < s.heap.objs.size:=let ⟨_,hn,_⟩:=I.loc;hn.lt
theorem Inv.sz(I:Inv X pins σ H s):X.s₀.heap.objs.size<=s.heap.objs.size:=bJ I.ok.above (hG I.lt)
theorem Inv.nofs(I:Inv X pins σ H s)(h:s.heap.objs.size<=a):a∉X.fs:=fun hb=>by
 obtain ⟨_,o,ho,_⟩:=I.ok.funs.mem hb
 exact absurd (aG (aO ho) (bJ I.sz h)) (dA _)
theorem Inv.cne(I:Inv X pins σ H s):∀ x c,X.env.cells.lookup x=some c->c≠X.env.locals:=fun x c e z=>by
 obtain ⟨v,o,ho,hd⟩:=I.cell x c e
 obtain ⟨m,⟨o',es,ep,ho',hd',_⟩,_⟩:=I.loc
 rw[z,ho'] at ho;cases ho;rw[hd'] at hd;cases hd
theorem Inv.funs(I:Inv X pins σ H s):s.heap.FunFrames X.base X.outer:=by
 have all:∀ (l:List Env),(∀ b∈frs l,b∈X.fs)->X.s₀.heap.FunFrames X.base l->s.heap.FunFrames X.base l:=by
  intro l
  induction l with
  | nil=>intro _ _;trivial
  | cons env r ih=>
   intro hs hl
   obtain ⟨hk,⟨L,o,hf,hn,ho,hd⟩,hr⟩:=hl
   have hL:L∈X.fs:=hs L (by unfold frs;rw[iZ,hf];exact aW)
   obtain ⟨sl,e⟩:=I.base.slot L o ho (I.ok.frf L hL) hL fun z=>I.ok.exfs L z hL
   exact ⟨hk,⟨L,_,hf,hn,e,hd⟩,ih (fun b hb=>hs b (by unfold frs;rw[iZ,hf];exact aR _ hb)) hr⟩
 exact all X.outer (fun _ hb=>hb) I.ok.funs
theorem Inv.stack(I:Inv X pins σ H s):s.heap.FunFrames X.base X.stack:=by
 rcases I.ok.stk with e | ⟨e,hf⟩
 ·rw[e];exact I.funs
 ·rw[e]
  obtain ⟨m,hn,_⟩:=I.loc
  refine .cons (by rw[I.ok.kind];decide) hf hn ?_ I.funs
  exact Heap.get?_none_of_le (bJ I.ok.bsz I.ok.above)
theorem Inv.stkSub(I:Inv X pins σ H s):∀ b∈frs X.stack,b∈X.env.locals::X.fs:=fun b hb=>by
 rcases I.ok.stk with e | ⟨e,hf⟩
 ·rw[e] at hb;exact aR _ hb
 ·rw[e] at hb
  unfold frs at hb
  rw[iZ,hf] at hb
  exact hb
theorem Inv.stkFree(I:Inv X pins σ H s):∀ b∈frs X.stack,H b=none:=fun b hb=>by
 rcases aV.mp (I.stkSub b hb) with e | hb
 ·rw[e];exact I.free
 ·obtain ⟨_,o,ho,_⟩:=I.ok.funs.mem hb
  exact I.base.free b o ho (I.ok.frf b hb) fun z=>I.ok.exfs b z hb
theorem Inv.step{g':Array mC}{d':Drawn}(I:Inv X pins σ H s)
  (hch:∀ b∈ch,(b∈X.ex\/X.s₀.heap.objs.size<=b)/\b≠X.env.locals/\(∀ x c,X.env.cells.lookup x=some c->c≠b)/\∀ p∈X.pn++pins,p.1≠b)
  (keep:∀ b o,b≠X.env.locals->b∉X.fs->b∉ch->s.heap.get? b=some o->H b=none->h'.get? b=some o)
  (slot:∀ b o,b≠X.env.locals->b∈X.fs->b∉ch->s.heap.get? b=some o->H b=none->∃ sl,h'.get? b=some { o with slots:=sl }) (free:∀ b o,b∉ch->s.heap.get? b=some o->H b=none->H' b=none)
  (there:∀ b o,b∉ch->s.heap.get? b=some o->∃ o',h'.get? b=some o')
  (tups:∀ b xs,H b=some (.tup xs)->H' b=some (.tup xs)) (frzs:∀ b o u,H b=some (.frz o u)->H' b=some (.frz o u)) (tbls:∀ b ps,H b=some (.tbl ps)->∃ more,H' b=some (.tbl (ps++more)))
  (ns:∀ m,s.heap.Ns X.env.locals m->h'.Ns X.env.locals m) (hok:HOk X.prog X.w H' h') (hg:mV g') (ht:0 < t':=by first | exact cL _ | exact L2.Inv.tk (by assumption) | exact aG (L2.Inv.tk (by assumption)) (cI _ _) | assumption | omega) :
  Inv X pins σ H' { s with heap:=h',gens:=g',drawn:=d',toks:=t' }:=by
 have neL:∀ b o,X.s₀.heap.get? b=some o->b≠X.env.locals:=fun b o e=>cC (aG (aO e) I.ok.above)
 have neC:∀ b o,X.s₀.heap.get? b=some o->b∉X.ex->b∉ch:=fun b o e hx hb=>by
  rcases (hch b hb).1 with z | z
  ·exact hx z
  ·exact absurd (aG (aO e) z) (dA _)
 have cellK:∀ x c,X.env.cells.lookup x=some c->∀ v,s.heap.IsCell c v->h'.IsCell c v:=fun x c e v zz=>by
  obtain ⟨o,ho,hd⟩:=zz
  have nch:c∉ch:=fun z=>(hch c z).2.2.1 x c e rfl
  by_cases hc:c∈X.fs
  ·obtain ⟨sl,q⟩:=slot c o (I.cne x c e) hc nch ho (I.freeC x c e)
   exact ⟨_,q,hd⟩
  ·exact ⟨o,keep c o (I.cne x c e) hc nch ho (I.freeC x c e),hd⟩
 refine ⟨I.ok,I.os,hg,⟨fun b o e n hb hx=>?_,fun b o e n hb hx=>?_,fun b o e n hx=>?_,fun b o e hx=>?_,fun b xs e=>tups b xs (I.base.tups b xs e),fun b o xs e=>frzs b o xs (I.base.frzs b o xs e),fun b ps e=>?_⟩,?_,fun x c e=>?_,?_,fun x c e=>?_,fun p hp=>?_,hok,I.len,ht⟩
 ·exact keep b o (neL b o e) hb (neC b o e hx) (I.base.keep b o e n hb hx) (I.base.free b o e n hx)
 ·obtain ⟨sl,e1⟩:=I.base.slot b o e n hb hx
  obtain ⟨sl',e2⟩:=slot b _ (neL b o e) hb (neC b o e hx) e1 (I.base.free b o e n hx)
  exact ⟨sl',e2⟩
 ·obtain ⟨o',e1⟩:=I.base.there b o e hx
  exact free b o' (neC b o e hx) e1 (I.base.free b o e n hx)
 ·obtain ⟨o',e1⟩:=I.base.there b o e hx
  exact there b o' (neC b o e hx) e1
 ·obtain ⟨m1,e1⟩:=I.base.tbls b ps e
  obtain ⟨m2,e2⟩:=tbls b _ e1
  exact ⟨m1++m2,by rw[e2,pQ]⟩
 ·obtain ⟨m,hn,hl⟩:=I.loc
  refine ⟨m,ns m hn,fun i x v e1 e2 e3=>?_⟩
  obtain ⟨u,r,l⟩:=hl i x v e1 e2 e3
  refine ⟨u,r,?_⟩
  rcases l with l | ⟨k,c,e,z⟩
  ·exact .inl l
  ·exact .inr ⟨k,c,e,cellK x c e _ z⟩
 ·obtain ⟨v,z⟩:=I.cell x c e
  exact ⟨v,cellK x c e v z⟩
 ·obtain ⟨m,⟨o,_,_,ho,_⟩,_⟩:=I.loc
  exact free _ o (fun z=>(hch _ z).2.1 rfl) ho I.free
 ·obtain ⟨v,o,ho,hd⟩:=I.cell x c e
  exact free c o (fun z=>(hch c z).2.2.1 x c e rfl) ho (I.freeC x c e)
 ·obtain ⟨e,n,ne,nf,d⟩:=I.pin p hp
  have nch:p.1∉ch:=fun z=>(hch p.1 z).2.2.2 p hp rfl
  exact ⟨keep p.1 p.2 ne nf nch e n,free p.1 p.2 nch e n,ne,nf,d⟩
theorem Inv.un(I:Inv X pins σ H s)(u:Un X.fs [] H H' s.heap h')(hok:HOk X.prog X.w H' h')(ht:0 < t':=by first | exact cL _ | exact L2.Inv.tk (by assumption) | exact aG (L2.Inv.tk (by assumption)) (cI _ _) | assumption | omega):Inv X pins σ H' { s with heap:=h',toks:=t' }:=by
 obtain ⟨m,⟨o,es,ep,ho,r⟩,_⟩:=id I.loc
 obtain ⟨sl,hL⟩:=u.any ho I.free (by simp)
 exact I.step (g':=s.gens) (d':=s.drawn) (ch:=[]) (fun _ z=>nomatch z) (fun b o _ hb _ e n=>u.keep b o e n hb (by simp)) (fun b o _ hb _ e n=>u.slot b o e n hb (by simp)) (fun b o _ e n=>u.free b o e n (by simp)) (fun b o _ e=>u.there b o e (by simp)) u.tups u.frzs u.tbls (fun m' hm=>by
  obtain ⟨o',es',ep',ho',r'⟩:=hm
  rw[ho] at ho';cases ho'
  exact ⟨_,es',ep',hL,r'⟩) hok I.bare ht
theorem Inv.call{g':Array mC}{d':Drawn}(I:Inv X pins σ H s)(u:Un (frs X.stack) ch H H' s.heap h')(hok:HOk X.prog X.w H' h')(hg:mV g')
  (hch:∀ b∈ch,(b∈X.ex\/X.s₀.heap.objs.size<=b)/\b≠X.env.locals/\(∀ x c,X.env.cells.lookup x=some c->c≠b)/\∀ p∈X.pn++pins,p.1≠b) (ht:0 < t':=by first | exact cL _ | exact L2.Inv.tk (by assumption) | exact aG (L2.Inv.tk (by assumption)) (cI _ _) | assumption | omega) :
  Inv X pins σ H' { s with heap:=h',gens:=g',drawn:=d',toks:=t' }:=by
 obtain ⟨m,⟨o,es,ep,ho,r⟩,_⟩:=id I.loc
 obtain ⟨sl,hL⟩:=u.any ho I.free fun z=>(hch _ z).2.1 rfl
 exact I.step (ch:=ch) hch (fun b o hL hb hc e n=>u.keep b o e n (fun z=>(aV.mp (I.stkSub b z)).elim hL hb) hc) (fun b o _ _ hc e n=>u.any e n hc) (fun b o hc e n=>u.free b o e n hc) (fun b o hc e=>u.there b o e hc) u.tups u.frzs u.tbls (fun m' hm=>by
  obtain ⟨o',es',ep',ho',r'⟩:=hm
  rw[ho] at ho';cases ho'
  exact ⟨_,es',ep',hL,r'⟩) hok hg ht
theorem Inv.turned{it:Addr}(I:Inv X pins σ H s)(k:∀ b o,b≠it->s.heap.get? b=some o->h'.get? b=some o)(hn:H it=none)(hL:it≠X.env.locals)
  (h1:it∈X.ex\/X.s₀.heap.objs.size<=it) (h2:∀ x c,X.env.cells.lookup x=some c->c≠it) (h3:∀ p∈X.pn++pins,p.1≠it) (ht:0 < t':=by first | exact cL _ | exact L2.Inv.tk (by assumption) | exact aG (L2.Inv.tk (by assumption)) (cI _ _) | assumption | omega):Inv X pins σ H { s with heap:=h',toks:=t' }:=by
 have nit:∀ b u,H b=some u->b≠it:=fun b u e z=>by rw[z,hn] at e;cases e
 refine I.step (g':=s.gens) (d':=s.drawn) (ch:=[it]) (fun b hb=>?_) (fun b o _ _ hc e _=>k b o (fun z=>hc (by simp[z])) e) (fun b o _ _ hc e _=>⟨o.slots,k b o (fun z=>hc (by simp[z])) e⟩) (fun _ _ _ _ n=>n)
  (fun b o hc e=>⟨o,k b o (fun z=>hc (by simp[z])) e⟩) (fun _ _ e=>e) (fun _ _ _ e=>e) (fun b ps e=>⟨#[],by rw[e];simp⟩) (fun m hm=>?_) (fun b u e=>?_) I.bare ht
 ·have e:b=it:=by simpa using hb
  subst e
  exact ⟨h1,hL,h2,h3⟩
 ·obtain ⟨o,es,ep,ho,r⟩:=hm
  exact ⟨o,es,ep,k _ o (eG hL) ho,r⟩
 ·refine (I.hok b u e).stay (fun c v hc q=>k c v ?_ q) (fun _ q=>q) fun _ _ q=>q
  rcases hc with z | z
  ·rw[z];exact nit b u e
  ·exact nit c _ z
theorem Inv.tok(I:Inv X pins σ H s)(t':Nat)(ht:0 < t':=by first | exact cL _ | exact L2.Inv.tk (by assumption) | exact aG (L2.Inv.tk (by assumption)) (cI _ _) | assumption | omega):Inv X pins σ H { s with toks:=t' }:=I.un (h':=s.heap) (t':=t') Un.refl I.hok ht
theorem Inv.kept(I:Inv X pins σ H s)(k:∀ b u,s.heap.get? b=some u->h'.get? b=some u)(ht:0 < t':=by first | exact cL _ | exact L2.Inv.tk (by assumption) | exact aG (L2.Inv.tk (by assumption)) (cI _ _) | assumption | omega):Inv X pins σ H { s with heap:=h',toks:=t' }:=I.un (Un.kept k) (I.hok.kept k) ht
theorem Inv.laid(I:Inv X pins σ H s)(k:∀ b u,s.heap.get? b=some u->h'.get? b=some u)(hp:s.heap.objs.size<=a)(new:ObjOk X.prog X.w (upd H a o) h' a o)(ht:0 < t':=by first | exact cL _ | exact L2.Inv.tk (by assumption) | exact aG (L2.Inv.tk (by assumption)) (cI _ _) | assumption | omega) :
  Inv X pins σ (upd H a o) { s with heap:=h',toks:=t' }:=I.un (Un.laid k hp (I.hok.fresh hp)) (I.hok.laid k hp new) ht
theorem Inv.write{x e:Addr}(I:Inv X pins σ H s)(mu:Mut (H x))(he:e=x\/H e=some (.own x))(k:∀ b u,b≠e->s.heap.get? b=some u->h'.get? b=some u)(heo:∃ u,h'.get? e=some u)
  (new:ObjOk X.prog X.w (upd H x o) h' x o) (ht:0 < t':=by first | exact cL _ | exact L2.Inv.tk (by assumption) | exact aG (L2.Inv.tk (by assumption)) (cI _ _) | assumption | omega):Inv X pins σ (upd H x o) { s with heap:=h',toks:=t' }:=I.un (Un.write mu he k heo) (I.hok.write mu he k heo new) ht
theorem Inv.pins_of{pins':List (Addr×Obj)}(I:Inv X pins σ H s)(h:∀ p∈pins',s.heap.get? p.1=some p.2/\H p.1=none/\p.1≠X.env.locals/\p.1∉X.fs/\∀ v,p.2.data≠.cell v):Inv X pins' σ H s:=
 ⟨I.ok,I.os,I.bare,I.base,I.loc,I.cell,I.free,I.freeC,fun p hp=>(bM.mp hp).elim (fun z=>I.pin p (cY _ z)) (h p),I.hok,I.len,I.tk⟩
theorem Rj{N:List Str}(hN:N.Nodup)(a:N[i]? = some x)(b:N[j]? = some x):i=j:=by
 obtain ⟨h1,e1⟩:=aD.mp a
 obtain ⟨h2,e2⟩:=aD.mp b
 exact (List.getElem_inj hN).mp (e1.trans e2.symm)
theorem Aem{Q:Unit->aH->Prop}(I:Inv X pins σ H s)(hN:X.N.Nodup)(hi:X.N[i]? = some x)(hx:Loc X.env.scope x)(r:Cm v u)
  (h:∀ s',Inv X pins (σ.set i (some v)) H s'->(∃ a,nO a s.heap s'.heap/\(a=X.env.locals\/X.env.cells.lookup x=some a))->Q () s') (hf:X.fn x=true\/X.env.scope.names.lookup x=some .local:=by first | exact .inl rfl | exact .inr rfl | assumption):wpAny M A (storeName X.env x u) Q E s:=by
 obtain ⟨m,hn,hl⟩:=id I.loc
 have hcls:(X.env.scope.kind == .class || (X.env.scope.kind == .module&&X.env.locals != X.env.globals))=false:=by rw[I.ok.kind];rfl
 have hiσ:i < σ.length:=by rw[I.len];exact (aD.mp hi).1
 have cne:=I.cne
 have tracked:∀ {a:Addr} {h':Heap},(∃ o,s.heap.get? a=some o/\H a=none)->nO a s.heap h'->HOk X.prog X.w H h':=fun {a h'} ha hs b ob e=>by
  obtain ⟨_,_,hfree⟩:=ha
  refine (I.hok b ob e).stay (fun c w' hc q=>(hs.2 c ?_).trans q) (fun _ q=>q) fun _ _ q=>q
  rintro rfl
  rcases hc with rfl | hc
  ·rw[hfree] at e;cases e
  ·rw[hfree] at hc;cases hc
 rcases hx with hk | hk
 ·refine wpAny_storeName_local hk hn (fun h' hn' hs=>?_) hcls
  obtain ⟨oL,_,_,hoL,_⟩:=id hn
  refine h _ ⟨I.ok,I.os,I.bare,⟨fun b o e n hb hx=>?_,fun b o e n hb hx=>?_,I.base.free,fun b o e hx=>?_,I.base.tups,I.base.frzs,I.base.tbls⟩,⟨_,hn',fun j y v' e1 e2 e3=>?_⟩,fun y c e=>?_,I.free,I.freeC,fun p hp=>?_,tracked ⟨oL,hoL,I.free⟩ hs,by simpa using I.len,cL _⟩ ⟨_,hs,.inl rfl⟩
  ·exact (hs.2 b (cC (aG (aO e) I.ok.above))).trans (I.base.keep b o e n hb hx)
  ·obtain ⟨sl,e1⟩:=I.base.slot b o e n hb hx
   exact ⟨sl,(hs.2 b (cC (aG (aO e) I.ok.above))).trans e1⟩
  ·obtain ⟨o',e1⟩:=I.base.there b o e hx
   exact ⟨o',(hs.2 b (cC (aG (aO e) I.ok.above))).trans e1⟩
  ·by_cases hj:j=i
   ·subst hj
    rw[hi] at e1;cases e1
    rw[bK hiσ] at e2
    cases e2
    exact ⟨u,r,.inl ⟨hk,by simp⟩⟩
   ·rw[bE (eG hj)] at e2
    obtain ⟨u',r',q⟩:=hl j y v' e1 e2 e3
    refine ⟨u',r',?_⟩
    rcases q with ⟨k,e⟩ | ⟨k,c,e,z⟩
    ·refine .inl ⟨k,?_⟩
     have:y≠x:=fun e=>hj (Rj hN e1 (e ▸ hi))
     simp[this,e]
    ·exact .inr ⟨k,c,e,z.sameBut hs (cne y c e)⟩
  ·obtain ⟨w',z⟩:=I.cell y c e
   exact ⟨w',z.sameBut hs (cne y c e)⟩
  ·obtain ⟨e,n,ne,nf,d⟩:=I.pin p hp
   exact ⟨(hs.2 p.1 ne).trans e,n,ne,nf,d⟩
 ·have hfn:X.fn x=true:=by
   rcases hf with z | z
   ·exact z
   ·rw[z] at hk;cases hk
  obtain ⟨c,hc⟩:=I.ok.has x (.inl hk)
  obtain ⟨w',z⟩:=I.cell x c hc
  refine wpAny_storeName_cell I.ok.kind hk hc z (fun h' hc' hs=>?_)
  obtain ⟨oc,hoc,hocd⟩:=id z
  refine h { s with heap:=h' } ⟨I.ok,I.os,I.bare,⟨fun b o e n hb hx=>?_,fun b o e n hb hx=>?_,I.base.free,fun b o e hx=>?_,I.base.tups,I.base.frzs,I.base.tbls⟩,⟨m,hn.sameBut hs (eG (cne x c hc)),fun j y v' e1 e2 e3=>?_⟩,fun y c' e=>?_,I.free,I.freeC,fun p hp=>?_,tracked ⟨oc,hoc,I.freeC x c hc⟩ hs,by simpa using I.len,I.tk⟩ ⟨c,hs,.inr hc⟩
  ·exact (hs.2 b (cC (aG (aO e) (I.ok.cab x c hfn hc)))).trans (I.base.keep b o e n hb hx)
  ·obtain ⟨sl,e1⟩:=I.base.slot b o e n hb hx
   exact ⟨sl,(hs.2 b (cC (aG (aO e) (I.ok.cab x c hfn hc)))).trans e1⟩
  ·obtain ⟨o',e1⟩:=I.base.there b o e hx
   exact ⟨o',(hs.2 b (cC (aG (aO e) (I.ok.cab x c hfn hc)))).trans e1⟩
  ·by_cases hj:j=i
   ·subst hj
    rw[hi] at e1;cases e1
    rw[bK hiσ] at e2
    cases e2
    exact ⟨u,r,.inr ⟨.inl hk,c,hc,hc'⟩⟩
   ·rw[bE (eG hj)] at e2
    obtain ⟨u',r',q⟩:=hl j y v' e1 e2 e3
    refine ⟨u',r',?_⟩
    rcases q with q | ⟨k,c',e,z'⟩
    ·exact .inl q
    ·refine .inr ⟨k,c',e,z'.sameBut hs ?_⟩
     rintro rfl
     exact hj (Rj hN e1 (I.ok.inj _ _ _ e hc ▸ hi))
  ·by_cases hcc:c'=c
   ·subst hcc;exact ⟨_,hc'⟩
   ·obtain ⟨w2,z2⟩:=I.cell y c' e
    exact ⟨w2,z2.sameBut hs hcc⟩
  ·obtain ⟨e,n,ne,nf,d⟩:=I.pin p hp
   refine ⟨(hs.2 p.1 ?_).trans e,n,ne,nf,d⟩
   intro q
   rw[q,hoc] at e
   have q':oc=p.2:=bL e
   exact d w' (by rw[<- q'];exact hocd)
theorem Sh{Q:Unit->aH->Prop}(I:Inv X pins σ H s)(hN:X.N.Nodup)(hi:X.N[i]? = some x)(hx:Loc X.env.scope x)(r:Cm v u)
  (h:∀ s',Inv X pins (σ.set i (some v)) H s'->Q () s') (hf:X.fn x=true\/X.env.scope.names.lookup x=some .local:=by first | exact .inl rfl | exact .inr rfl | assumption):wpAny M A (storeName X.env x u) Q E s:=
 Aem I hN hi hx r (fun s' I' _=>h s' I') hf
theorem Inv.call'(I:Inv X pins σ H s)(ho:s'.os=s.os)(u:Un (frs X.stack) ch H H' s.heap s'.heap)(hok:HOk X.prog X.w H' s'.heap)(hg:mV s'.gens)
  (hch:∀ b∈ch,(b∈X.ex\/X.s₀.heap.objs.size<=b)/\b≠X.env.locals/\(∀ x c,X.env.cells.lookup x=some c->c≠b)/\∀ p∈X.pn++pins,p.1≠b) (ht:0 < s'.toks:=by first | exact L2.Inv.tk (by assumption) | assumption):Inv X pins σ H' s':=by
 obtain ⟨h',g',d',t',o'⟩:=s'
 have e:o'=s.os:=ho
 subst e
 exact I.call (g':=g') (t':=t') (d':=d') u hok hg hch ht
end
abbrev XK:=aE->Option Addr->Hp->Prop
abbrev St:=List (Option V)
abbrev VK:=V->Hp->Prop
abbrev TE:=St->Hp->VK->Prop
abbrev TT:=St->Hp->(Bool->Hp->Prop)->Prop
abbrev TA:=St->Hp->(List V->Hp->Prop)->Prop
structure Ends where
 nx:St->Hp->Prop
 rt:VK
 bk:St->Hp->Prop:=fun _ _=>False
 ct:St->Hp->Prop:=fun _ _=>False
abbrev TS:=Ends->St->Hp->Prop
inductive EP(X:Cx)(pins:List (Addr×Obj))(σ:St)(Q:VK)(u:aE)(s':aH):Prop
 | mk (v:V) (H':Hp) (I:Inv X pins σ H' s') (r:Cm v u) (q:Q v H'):EP X pins σ Q u s'
inductive TP(X:Cx)(pins:List (Addr×Obj))(σ:St)(Q:Bool->Hp->Prop)(b:Bool)(s':aH):Prop
 | mk (H':Hp) (I:Inv X pins σ H' s') (q:Q b H'):TP X pins σ Q b s'
inductive AP(X:Cx)(pins:List (Addr×Obj))(σ:St)(Q:List V->Hp->Prop)(us:List aE)(s':aH):Prop
 | mk (vs:List V) (H':Hp) (I:Inv X pins σ H' s') (r:Vals vs us) (q:Q vs H'):AP X pins σ Q us s'
variable {σ:St}{Q:VK}
theorem EP.elim{C:Prop}(h:EP X pins σ Q u s')(k:∀ v H',Inv X pins σ H' s'->Cm v u->Q v H'->C):C:=h.rec k
theorem AP.elim{Q:List V->Hp->Prop}{C:Prop}(h:AP X pins σ Q us s')(k:∀ vs H',Inv X pins σ H' s'->Vals vs us->Q vs H'->C):C:=h.rec k
def SP(X:Cx)(pins:List (Addr×Obj))(D:Ends)(f:Flow)(s':aH):Prop:=
 match f with
 | .next=>∃ σ' H',Inv X pins σ' H' s'/\D.nx σ' H'
 | .brk=>∃ σ' H',Inv X pins σ' H' s'/\D.bk σ' H'
 | .cont=>∃ σ' H',Inv X pins σ' H' s'/\D.ct σ' H'
 | .ret u=>∃ v σ' H',Inv X pins σ' H' s'/\Cm v u/\D.rt v H'
def PE(X:Cx)(e:Expr)(t:TE):Prop:=
 ∀ (pins:List (Addr×Obj)) (s:aH) (σ:St) (H:Hp) (Q:VK),Inv X pins σ H s->t σ H Q->wpAny (model X.prog X.w) X.A (eval e X.env) (EP X pins σ Q) X.xe s
def PT(X:Cx)(e:Expr)(t:TT):Prop:=
 ∀ (pins:List (Addr×Obj)) (s:aH) (σ:St) (H:Hp) (Q:Bool->Hp->Prop),Inv X pins σ H s->t σ H Q->wpAny (model X.prog X.w) X.A (isTrue e X.env (eval e X.env)) (TP X pins σ Q) X.xe s
def PW(X:Cx)(e:Expr)(t:TT):Prop:=
 ∀ (whole:Sem aE) (pins:List (Addr×Obj)) (s:aH) (σ:St) (H:Hp) (Q:Bool->Hp->Prop),Inv X pins σ H s->t σ H Q->wpAny (model X.prog X.w) X.A (isTrue e X.env whole) (TP X pins σ Q) X.xe s
variable {e:Expr}
theorem PW.pt{t:TT}(h:PW X e t):PT X e t:=h _
def PA(X:Cx)(es:List Expr)(t:TA):Prop:=
 ∀ (pos:Pos) (pins:List (Addr×Obj)) (s:aH) (σ:St) (H:Hp) (Q:List V->Hp->Prop),Inv X pins σ H s->t σ H Q->wpAny (model X.prog X.w) X.A (spliced (backTo pos (aN es X.env))) (AP X pins σ Q) X.xe s
def PS(X:Cx)(st:Stmt)(t:TS):Prop:=
 ∀ (pins:List (Addr×Obj)) (s:aH) (σ:St) (H:Hp) (D:Ends),Inv X pins σ H s->t D σ H->wpAny (model X.prog X.w) X.A (exec st X.env) (SP X pins D) X.xe s
def PSs(X:Cx)(st:List Stmt)(t:TS):Prop:=
 ∀ (pins:List (Addr×Obj)) (s:aH) (σ:St) (H:Hp) (D:Ends),Inv X pins σ H s->t D σ H->wpAny (model X.prog X.w) X.A (execs st X.env) (SP X pins D) X.xe s
theorem wtk{α:Type}{t:Sem α}{Q:α->aH->Prop}(h:0 < s.toks)(q:wpAny M A t (fun a s'=>0 < s'.toks->Q a s') (fun e s'=>0 < s'.toks->E e s') s):wpAny M A t Q E s:=wpAny_with_toks (n:=1) h q
theorem thn{α:Type}{t:Sem α}{Q Q':α->aH->Prop}(h:wpAny M A t Q E s)(hQ:∀ a s,Q a s->Q' a s):wpAny M A t Q' E s:=cA h hQ fun _ _ x=>x
variable {pos:Pos}{ta tb:TE}{c:Expr}
section
def Avp(i:Nat):TE:=fun σ H Q=>∃ v,σ[i]? = some (some v)/\Q v H
def tC(v:V):TE:=fun _ H Q=>Q v H
theorem Aoe(hN:X.N[i]? = some x)(hv:Vis X.env.scope x)(hd:(x == ("__debug__" : Str))=false:=by decide)(hcd:(x == ("__classdict__" : Str))=false:=by decide):PE X (.Name x pos) (Avp i):=by
 intro pins s σ H Q I h
 obtain ⟨v,e,h⟩:=h
 obtain ⟨m,hn,hl⟩:=I.loc
 obtain ⟨u,r,l⟩:=hl i x v hN e hv
 have fin:EP X pins σ Q u s:=⟨v,H,I,r,h⟩
 rcases l with ⟨hk,hm⟩ | ⟨hk,c,hc,hcell⟩
 ·exact rP (wpAny_loadName_local I.ok.kind hk hn hm fin) hd
 ·rcases hk with hk | hk
  ·exact rP (wpAny_loadName_cell I.ok.kind hk hc hcell fin) hd
  ·exact rP (wpAny_loadName_free I.ok.kind hk hc hcell fin hcd) hd
theorem Apl{i j pos}:PE X (.Constant (.int i) j pos) (tC (.int i)):=fun _ _ _ H _ I h=>wpAny_Constant_int ⟨.int i,H,I.tok _,⟨_,rfl⟩,h⟩
theorem Asd{b j pos}:PE X (.Constant (.bool b) j pos) (tC (.bl b)):=fun _ _ _ H _ I h=>Constant_bool ⟨.bl b,H,I,rfl,h⟩
theorem Ao4{j pos}:PE X (.Constant .none j pos) (tC .non):=fun _ _ _ H _ I h=>Constant_none ⟨.non,H,I,rfl,h⟩
theorem Aoo{x j pos}:PE X (.Constant (.str x) j pos) (tC (.str x)):=fun _ _ _ H _ I h=>jN ⟨.str x,H,I.tok _,⟨_,rfl⟩,h⟩
def Gl(X:Cx)(x:Str):Prop:=X.env.kindOf x=some .globalImplicit
theorem Kr{Q:aE->aH->Prop}(I:Inv X pins σ H s)(hg:Gl X x)(hm:X.mg x=some u)(h:Q u s)
  (hd:(x == ("__debug__" : Str))=false:=by decide):wpAny (model X.prog X.w) X.A (eval (.Name x pos) X.env) Q E s:=
 mD I.ok.kind hg (Calls.loadGlobal_global (by rw[I.ok.glob];exact I.mod.glob.keeps I.bk) hm h) hd
theorem Nv{Q:aE->aH->Prop}(I:Inv X pins σ H s)(hg:Gl X x)(hm:X.mg x=none)(hv:fG x=some u)(h:Q u s)
  (hn:x ≠ "__name__" := by decide) (hd:(x == ("__debug__" : Str))=false:=by decide):wpAny (model X.prog X.w) X.A (eval (.Name x pos) X.env) Q E s:=by
 obtain ⟨mb,h1,h2⟩:=I.mod.blt
 exact mD I.ok.kind hg (Calls.loadGlobal_builtin (by rw[I.ok.glob];exact I.mod.glob.keeps I.bk) hm (by rw[I.ok.blt];exact h1.keeps I.bk) ((h2 x hn).trans hv) h) hd
theorem Qz(hg:Gl X x)(hm:X.mg x=some u)(r:Cm v u)(hd:(x == ("__debug__" : Str))=false:=by decide):PE X (.Name x pos) (tC v):=
 fun _ _ _ H _ I h=>Kr I hg hm ⟨v,H,I,r,h⟩ hd
theorem Ab8(hg:Gl X x)(hm:X.mg x=none)(hv:fG x=some u)(r:Cm v u)(hn:x ≠ "__name__" := by decide)(hd:(x == ("__debug__" : Str))=false:=by decide):PE X (.Name x pos) (tC v):=
 fun _ _ _ H _ I h=>Nv I hg hm hv ⟨v,H,I,r,h⟩ hn hd
variable {a b:Expr}
variable {tA tB':TT}{rest:List Expr}
def Atr(t u:TT):TT:=fun σ H Q=>t σ H fun c H1=>if c=true then u σ H1 Q else Q false H1
def tOr(t u:TT):TT:=fun σ H Q=>t σ H fun c H1=>if c=true then Q true H1 else u σ H1 Q
def Avq(t:TT):TT:=fun σ H Q=>t σ H fun c H1=>Q (!c) H1
theorem Aj8(ha:PT X a tA):PW X (.BoolOp .And [a] pos) tA:=by
 intro wh pins s σ H Q I h
 refine isTrue_and (thn (ha pins s σ H Q I h) fun c s1 e=>?_)
 cases c with
 | true=>exact isTrue_and_nil e
 | false=>exact e
theorem Aol(ha:PT X a tA):PW X (.BoolOp .Or [a] pos) tA:=by
 intro wh pins s σ H Q I h
 refine isTrue_or (thn (ha pins s σ H Q I h) fun c s1 e=>?_)
 cases c with
 | false=>exact isTrue_or_nil e
 | true=>exact e
theorem Aoi(ha:PT X a tA)(hb:PW X (.BoolOp .And (b::rest) pos) tB'):PW X (.BoolOp .And (a::b::rest) pos) (Atr tA tB'):=by
 intro wh pins s σ H Q I h
 refine isTrue_and (thn (ha pins s σ H _ I h) fun c s1 zz=>?_)
 obtain ⟨H1,I1,q1⟩:=zz
 cases c with
 | true=>exact hb wh pins s1 σ H1 Q I1 q1
 | false=>exact ⟨H1,I1,q1⟩
theorem Asf(ha:PT X a tA)(hb:PW X (.BoolOp .Or (b::rest) pos) tB'):PW X (.BoolOp .Or (a::b::rest) pos) (tOr tA tB'):=by
 intro wh pins s σ H Q I h
 refine isTrue_or (thn (ha pins s σ H _ I h) fun c s1 zz=>?_)
 obtain ⟨H1,I1,q1⟩:=zz
 cases c with
 | true=>exact ⟨H1,I1,q1⟩
 | false=>exact hb wh pins s1 σ H1 Q I1 q1
theorem Anu(ha:PT X a tA):PT X (.UnaryOp .Not a pos) (Avq tA):=by
 intro pins s σ H Q I h
 exact isTrue_not (thn (ha pins s σ H (fun c H1=>Q (!c) H1) I h) fun _ _ z=>z.rec fun H' I' q=>⟨H',I',q⟩)
def Aqv(ta tb:TE):TE:=fun σ H Q=>ta σ H fun x H1=>∃ c,x = .bl c/\if c=true then tb σ H1 Q else Q (.bl false) H1
def Avc(ta tb:TE):TE:=fun σ H Q=>ta σ H fun x H1=>∃ c,x = .bl c/\if c=true then Q (.bl true) H1 else tb σ H1 Q
theorem An7{op}{t:TE}(h:PE X a t):PE X (.BoolOp op [a] pos) t:=fun pins s σ H Q I hw=>BoolOp_one (h pins s σ H Q I hw)
theorem Am9(ha:PE X a ta)(hb:PE X (.BoolOp .And (b::rest) pos) tb):PE X (.BoolOp .And (a::b::rest) pos) (Aqv ta tb):=by
 intro pins s σ H Q I h
 refine BoolOp_and (thn (ha pins s σ H _ I h) fun v s1 zz=>?_)
 obtain ⟨x,H1,I1,r1,q1⟩:=zz
 obtain ⟨c,rfl,q1⟩:=q1
 cases r1
 refine fY ?_
 cases c with
 | true=>exact hb pins s1 σ H1 Q I1 q1
 | false=>exact ⟨.bl false,H1,I1,rfl,q1⟩
theorem Asj(ha:PE X a ta)(hb:PE X (.BoolOp .Or (b::rest) pos) tb):PE X (.BoolOp .Or (a::b::rest) pos) (Avc ta tb):=by
 intro pins s σ H Q I h
 refine BoolOp_or (thn (ha pins s σ H _ I h) fun v s1 zz=>?_)
 obtain ⟨x,H1,I1,r1,q1⟩:=zz
 obtain ⟨c,rfl,q1⟩:=q1
 cases r1
 refine fY ?_
 cases c with
 | false=>exact hb pins s1 σ H1 Q I1 q1
 | true=>exact ⟨.bl true,H1,I1,rfl,q1⟩
def tIf(t:TT)(ta tb:TE):TE:=fun σ H Q=>t σ H fun c H1=>if c=true then ta σ H1 Q else tb σ H1 Q
theorem Ago(hc:PT X c tA)(ha:PE X a ta)(hb:PE X b tb):PE X (.IfExp c a b pos) (tIf tA ta tb):=by
 intro pins s σ H Q I h
 refine wpAny_IfExp (thn (hc pins s σ H _ I h) fun d s1 zz=>?_)
 obtain ⟨H1,I1,q1⟩:=zz
 cases d with
 | true=>exact ha pins s1 σ H1 Q I1 q1
 | false=>exact hb pins s1 σ H1 Q I1 q1
end
def Avz:aE->Option V
 | .none=>some .non
 | .bool b=>some (.bl b)
 | .int i _=>some (.int i)
 | .str x _=>some (.str x)
 | .bytes b _=>some (.byt b)
 | .float b _=>some (.flt b)
 | .ref a=>some (.ref a)
 | .type n=>some (.ty n)
 | _=>none
def ValN(xs:List V)(us:List aE):Prop:=Vals xs us/\us.map Avz=xs.map some
theorem ValN.inj(h:ValN xs us)(h':ValN ys us):xs=ys:=by
 have e:xs.map some=ys.map some:=h.2.symm.trans h'.2
 exact (List.map_inj_right (fun _ _ z=>bL z)).mp e
theorem ValN.ints:∀ {ns:List Int} {us:List aE},Vals (ns.map V.int) us->ValN (ns.map V.int) us:=by
 intro ns us h
 refine ⟨h,?_⟩
 induction ns generalizing us with
 | nil=>cases h;rfl
 | cons n r ih=>
  cases h with
  | cons q t=>
   obtain ⟨k,rfl⟩:=q
   rw[aS,aS,aS,ih t];rfl
def SqL(K:aB)(H:Hp)(a:Addr)(xs:List V):Prop:=
 Rd H a (.lst xs) \/
  ∃ (o:Obj) (its:Array aE) (n:Nat),K.lookup a=some o/\o.cls = .type "list" /\ o.dict=none/\o.data = .seq its n/\its.size<=sizeLine/\ValN xs its.toList
def SqT(K:aB)(H:Hp)(a:Addr)(xs:List V):Prop:=
 Rd H a (.tup xs) \/
  ∃ (o:Obj) (its:Array aE) (n:Nat),K.lookup a=some o/\(o.cls,o.dict)=(mB "tuple",(none:Option Addr))/\o.data = .seq its n/\its.size<=sizeLine/\ValN xs its.toList
variable {K:aB}
section
theorem SqL.of(h:H a=some (.lst xs)):SqL K H a xs:=.inl (.inl h)
theorem SqT.of(h:H a=some (.tup xs)):SqT K H a xs:=.inl (.inl h)
theorem Inv.list(I:Inv X pins σ H s)(h:SqL X.K H a xs):∃ its:List aE,Vals xs its/\PlainL s.heap a its.toArray/\xs.length<=sizeLine:=by
 rcases h with h | ⟨o,its,n,hk,hc,hd,hs,hz,r⟩
 ·obtain ⟨z,its,n,r,e⟩:=h.ok I.hok
  exact ⟨its,r,⟨_,n,e,rfl,rfl,rfl⟩,z⟩
 ·refine ⟨its.toList,r.1,⟨o,n,I.kIn a o hk,hc,hd,by simpa using hs⟩,?_⟩
  have e:=r.1.length
  simp only[eW] at e
  omega
theorem Inv.tupleN(I:Inv X pins σ H s)(h:SqT X.K H a xs):∃ its:List aE,Vals xs its/\TupN s.heap a its.toArray/\xs.length<=sizeLine:=by
 rcases h with h | ⟨o,its,n,hk,hc,hs,hz,r⟩
 ·obtain ⟨z,its,r,p⟩:=h.ok I.hok
  exact ⟨its,r,p,z⟩
 ·refine ⟨its.toList,r.1,⟨o,I.kIn a o hk,hc,n,by simpa using hs⟩,?_⟩
  have e:=r.1.length
  simp only[eW] at e
  omega
theorem Inv.tuple(I:Inv X pins σ H s)(h:SqT X.K H a xs):∃ its:List aE,Vals xs its/\IsTup s.heap a its.toArray/\xs.length<=sizeLine:=by
 obtain ⟨its,r,p,z⟩:=I.tupleN h
 exact ⟨its,r,p.is,z⟩
theorem Rd.uni{K:aB}{H:Hp}{a:Addr}{u u':HO}(hu:∀ o v,u≠.frz o v)(hu':∀ o v,u'≠.frz o v)(h:Rd H a u)(h':Rd H a u'):u=u':=by
 rcases h with h | ⟨o,h⟩ <;> rcases h' with h' | ⟨o',h'⟩ <;> rw[h] at h' <;> cases h'
 ·rfl
 ·exact absurd rfl (hu _ _)
 ·exact absurd rfl (hu' _ _)
 ·rfl
theorem Inv.noK(I:Inv X pins σ H s){u:HO}{o:Obj}(h:Rd H a u)(hk:X.K.lookup a=some o):False:=by
 have e:=(I.bs a o (I.mod.kin a o hk)).2
 rcases h with h | ⟨o,h⟩ <;> rw[h] at e <;> cases e
theorem Inv.list_inj(I:Inv X pins σ H s)(h:SqL X.K H a xs)(h':SqL X.K H a ys):xs=ys:=by
 rcases h with h | ⟨o,its,n,hk,hc,hd,hs,hz,r⟩ <;> rcases h' with h' | ⟨o',its',n',hk',hc',hd',hs',hz',r'⟩
 ·have:=Rd.uni (K:=X.K) (u:=.lst xs) (u':=.lst ys) (fun _ _ z=>nomatch z) (fun _ _ z=>nomatch z) h h'
  cases this;rfl
 ·exact (I.noK h hk').elim
 ·exact (I.noK h' hk).elim
 ·rw[hk] at hk';cases hk'
  rw[hs] at hs';cases hs'
  exact r.inj r'
theorem Inv.tuple_inj(I:Inv X pins σ H s)(h:SqT X.K H a xs)(h':SqT X.K H a ys):xs=ys:=by
 rcases h with h | ⟨o,its,n,hk,hc,hs,hz,r⟩ <;> rcases h' with h' | ⟨o',its',n',hk',hc',hs',hz',r'⟩
 ·have:=Rd.uni (K:=X.K) (u:=.tup xs) (u':=.tup ys) (fun _ _ z=>nomatch z) (fun _ _ z=>nomatch z) h h'
  cases this;rfl
 ·exact (I.noK h hk').elim
 ·exact (I.noK h' hk).elim
 ·rw[hk] at hk';cases hk'
  rw[hs] at hs';cases hs'
  exact r.inj r'
end
abbrev Cx.wish(X:Cx)(E:aE->aH->Prop):Cx:={ X with xe:=E }
abbrev Cx.nox(X:Cx):Cx:=X.wish fun _ _=>False
theorem Cx.Ok.wish(ok:X.Ok)(E:aE->aH->Prop):(X.wish E).Ok:=
 ⟨ok.mod,ok.kind,ok.glob,ok.blt,ok.above,ok.inj,ok.has,ok.cab,ok.hd,ok.frames,ok.stk,ok.exf,ok.bs,ok.bsz,ok.noex,ok.exfs,ok.funs,ok.frf⟩
theorem Cx.Ok.unwish(ok:(X.wish E).Ok):X.Ok:=
 ⟨ok.mod,ok.kind,ok.glob,ok.blt,ok.above,ok.inj,ok.has,ok.cab,ok.hd,ok.frames,ok.stk,ok.exf,ok.bs,ok.bsz,ok.noex,ok.exfs,ok.funs,ok.frf⟩
section
theorem Inv.wish(I:Inv X pins σ H s)(E:aE->aH->Prop):Inv (X.wish E) pins σ H s:=⟨I.ok.wish E,I.os,I.bare,I.base,I.loc,I.cell,I.free,I.freeC,I.pin,I.hok,I.len,I.tk⟩
theorem Inv.unwish(I:Inv (X.wish E) pins σ H s):Inv X pins σ H s:=⟨I.ok.unwish,I.os,I.bare,I.base,I.loc,I.cell,I.free,I.freeC,I.pin,I.hok,I.len,I.tk⟩
theorem SP.unwish{D:Ends}{f:Flow}(h:SP (X.wish E) pins D f s'):SP X pins D f s':=by
 cases f with
 | next=>obtain ⟨σ',H',I,q⟩:=h;exact ⟨σ',H',I.unwish,q⟩
 | brk=>obtain ⟨σ',H',I,q⟩:=h;exact ⟨σ',H',I.unwish,q⟩
 | cont=>obtain ⟨σ',H',I,q⟩:=h;exact ⟨σ',H',I.unwish,q⟩
 | ret u=>obtain ⟨v,σ',H',I,r,q⟩:=h;exact ⟨v,σ',H',I.unwish,r,q⟩
theorem PE.nox{t:TE}(h:PE X.nox e t):PE X e t:=fun pins s σ H Q I hw=>
 cA (h pins s σ H Q (I.wish _) hw) (fun _ _ zz=>by obtain ⟨v,H',I',r,q⟩:=zz;exact ⟨v,H',I'.unwish,r,q⟩) fun _ _ z=>eL z
theorem PT.nox{t:TT}(h:PT X.nox e t):PT X e t:=fun pins s σ H Q I hw=>
 cA (h pins s σ H Q (I.wish _) hw) (fun _ _ zz=>by obtain ⟨H',I',q⟩:=zz;exact ⟨H',I'.unwish,q⟩) fun _ _ z=>eL z
theorem PSs.nox{st:List Stmt}{t:TS}(h:PSs X.nox st t):PSs X st t:=fun pins s σ H D I hw=>
 cA (h pins s σ H D (I.wish _) hw) (fun _ _ q=>q.unwish) fun _ _ z=>eL z
end
variable {te:TE}
section
variable {st:Stmt}{rest:List Stmt}{t u:TS}
def Arh:TS:=fun D σ H=>D.nx σ H
def Auh(t u:TS):TS:=fun D σ H=>t { D with nx:=u D } σ H
theorem Ai2:PSs X [] Arh:=fun _ _ σ H _ I h=>lF ⟨σ,H,I,h⟩
theorem Wh(h1:PS X st t)(h2:PSs X rest u):PSs X (st::rest) (Auh t u):=by
 intro pins s σ H D I h
 refine gP (thn (h1 pins s σ H { D with nx:=u D } I h) fun f s1 q=>?_)
 cases f with
 | next=>
  obtain ⟨σ',H',I',q⟩:=q
  exact h2 pins s1 σ' H' D I' q
 | ret v=>exact q
 | brk=>exact q
 | cont=>exact q
theorem Abq(h1:PS X st t):PSs X [st] t:=by
 intro pins s σ H D I h
 refine gP (thn (h1 pins s σ H D I h) fun f s1 q=>?_)
 cases f with
 | next=>exact lF q
 | ret v=>exact q
 | brk=>exact q
 | cont=>exact q
theorem Inv.quiet(I:Inv X pins σ H s):interactive X.env=false:=by simp[interactive,I.ok.kind]
def Ar9(te:TE):TS:=fun D σ H=>te σ H fun _ H1=>D.nx σ H1
theorem Aj5(he:PE X e te)(hs:swapsWith e none pos.line X.env=pure false:=by rfl):PS X (.Expr e pos) (Ar9 te):=by
 intro pins s σ H D I h
 exact wpAny_Expr_any (thn (he pins s σ H _ I h) fun v s1 zz=>by obtain ⟨x,H1,I1,r1,q1⟩:=zz;exact ⟨σ,H1,I1,q1⟩) I.quiet hs
def Auy(te:TE):TS:=fun D σ H=>te σ H D.rt
theorem Anv(he:PE X e te):PS X (.Return (some e) pos) (Auy te):=by
 intro pins s σ H D I h
 exact wpAny_Return_some (thn (he pins s σ H _ I h) fun v s1 zz=>by obtain ⟨x,H1,I1,r1,q1⟩:=zz;exact ⟨x,σ,H1,I1,r1,q1⟩)
def Avt(c:TT)(t u:TS):TS:=fun D σ H=>c σ H fun b H1=>if b=true then t D σ H1 else u D σ H1
theorem As6{a b:List Stmt}{tc:TT}(hc:PT X c tc)(ha:PSs X a t)(hb:PSs X b u):PS X (.If c a b pos) (Avt tc t u):=by
 intro pins s σ H D I h
 refine wpAny_If (thn (hc pins s σ H _ I h) fun d s1 zz=>?_)
 obtain ⟨H1,I1,q1⟩:=zz
 cases d with
 | true=>exact ha pins s1 σ H1 D I1 q1
 | false=>exact hb pins s1 σ H1 D I1 q1
def Anj:TS:=fun _ _ _=>False
theorem Afn:PS X st Anj:=fun _ _ _ _ _ _ h=>h.elim
end
abbrev TG:=V->St->Hp->(St->Hp->Prop)->Prop
abbrev TGs:=List V->St->Hp->(St->Hp->Prop)->Prop
def PG(X:Cx)(target:Expr)(t:TG):Prop:=
 ∀ (pins:List (Addr×Obj)) (s:aH) (σ:St) (H:Hp) (v:V) (u:aE) (Q:St->Hp->Prop),Inv X pins σ H s->Cm v u->t v σ H Q ->
  wpAny (model X.prog X.w) X.A (assign target X.env u) (fun _ s'=>∃ σ' H',Inv X pins σ' H' s'/\Q σ' H') X.xe s
def PGs(X:Cx)(ts:List Expr)(t:TGs):Prop:=
 ∀ (pins:List (Addr×Obj)) (s:aH) (σ:St) (H:Hp) (vs:List V) (us:List aE) (Q:St->Hp->Prop),Inv X pins σ H s->Vals vs us->t vs σ H Q ->
  wpAny (model X.prog X.w) X.A (assignInOrder ((assignEach ts X.env).map (·.2)) us) (fun _ s'=>∃ σ' H',Inv X pins σ' H' s'/\Q σ' H') X.xe s
abbrev Ao6:=V->V->V->Hp->(Hp->Prop)->Prop
def Asp(X:Cx)(t:Ao6):Prop:=
 ∀ (pins:List (Addr×Obj)) (s:aH) (σ:St) (H:Hp) (o i v:V) (ov iv u:aE) (Q:Hp->Prop),Inv X pins σ H s->Cm o ov->Cm i iv->Cm v u->t o i v H Q ->
  wpAny (model X.prog X.w) X.A (setItem ov iv u) (fun _ s'=>∃ H',Inv X pins σ H' s'/\Q H') X.xe s
variable {es:List Expr}{k:Nat}{tg:Expr}
section
def Wr(i:Nat):TG:=fun v σ H Q=>Q (σ.set i (some v)) H
theorem Ac8(hN:X.N.Nodup)(hi:X.N[i]? = some x)(hx:Loc X.env.scope x)(hf:X.fn x=true\/X.env.scope.names.lookup x=some .local:=by first | exact .inl rfl | exact .inr rfl | assumption):PG X (.Name x pos) (Wr i):=by
 intro pins s σ H v u Q I r h
 exact wpAny_assign_Name (Sh I hN hi hx r (fun s' I'=>⟨_,H,I',h⟩) hf)
def gNil:TGs:=fun vs σ H Q=>vs=[]/\Q σ H
def gCons(t:TG)(u:TGs):TGs:=fun vs σ H Q=>∃ v r,vs=v::r/\t v σ H fun σ' H'=>u r σ' H' Q
theorem Akh:PGs X [] gNil:=by
 intro pins s σ H vs us Q I r h
 obtain ⟨e,h⟩:=h
 subst e
 cases r
 exact assignInOrder_nil ⟨σ,H,I,h⟩
theorem Aia{t:TG}{u:TGs}(h1:PG X e t)(h2:PGs X es u)
  (hs:(assignEach (e::es) X.env).map (·.2)=assign e X.env::(assignEach es X.env).map (·.2):=by rfl):PGs X (e::es) (gCons t u):=by
 intro pins s σ H vs us Q I r h
 obtain ⟨v,vr,e1,h⟩:=h
 subst e1
 cases r with
 | cons r rr=>
  rw[hs]
  refine assignInOrder_cons (thn (h1 pins s σ H _ _ _ I r h) fun _ s1 zz=>?_)
  obtain ⟨σ1,H1,I1,q1⟩:=zz
  exact h2 pins s1 σ1 H1 _ _ Q I1 rr q1
def gTup(K:aB)(n:Nat)(t:TGs):TG:=fun v σ H Q=>∃ a xs,v = .ref a/\SqT K H a xs/\xs.length=n/\t xs σ H Q
theorem Ao8{t:TGs}{n:Nat}(hc:X.calm=true)(h:PGs X es t)
  (hn:(assignEach es X.env).length=n:=by rfl) (hst:(assignEach es X.env).findIdx? (·.1)=none:=by rfl):PG X (.Tuple es k pos) (gTup X.K n t):=by
 intro pins s σ H v u Q I r hw
 obtain ⟨a,xs,e1,hq,hl,hw⟩:=hw
 subst e1
 cases r
 obtain ⟨its,rv,ht,hz⟩:=I.tuple hq
 refine assign_Tuple_tuple (I.ok.hd hc) ht (by simp[hn,<- hl,rv.length]) hst fun h' hx=>?_
 have I1:Inv X pins σ H { s with heap:=h' }:=I.kept (t':=s.toks) fun b o e=>hx b o (cC (aO e)) e
 exact h pins _ σ H xs _ Q I1 (by simpa using rv) hw
def gSub(to ti:TE)(t:Ao6):TG:=fun v σ H Q=>to σ H fun o H1=>ti σ H1 fun i H2=>t o i v H2 fun H3=>Q σ H3
theorem Am6{o i:Expr}{to ti:TE}{t:Ao6}(ho:PE X o to)(hi:PE X i ti)(hs:Asp X t)
  (ha:∀ v,assign (.Subscript o i pos) X.env v=(do
   let ov <- holding [v] (eval o X.env)
   let iv <- holding [v,ov] (eval i X.env)
   standAt pos
   holding [v,ov,iv] (setItem ov iv v)
   release [v,ov,iv] []):=by intro _;rfl):PG X (.Subscript o i pos) (gSub to ti t):=by
 intro pins s σ H v u Q I r h
 rw[ha]
 refine aF (gH (thn (ho pins s σ H _ I h) fun ov s1 zz=>?_))
 obtain ⟨x,H1,I1,r1,q1⟩:=zz
 refine aF (gH (thn (hi pins s1 σ H1 _ I1 q1) fun iv s2 zz=>?_))
 obtain ⟨y,H2,I2,r2,q2⟩:=zz
 refine aF (kS (aF (gH (thn (hs pins s2 σ H2 x y v ov iv u _ I2 r1 r2 r q2) fun _ s3 zz=>?_))))
 obtain ⟨H3,I3,q3⟩:=zz
 exact wpAny_release ⟨σ,H3,I3,q3⟩
def Ai3(te:TE)(g:TG):TS:=fun D σ H=>te σ H fun x H1=>g x σ H1 D.nx
theorem Aok{g:TG}(he:PE X e te)(hg:PG X tg g)(hs:swapsWithSole [tg] e pos.line X.env=pure false:=by rfl)(hw:swappedStores [tg] e X.env=pure none:=by rfl)
  (h1:(assignEach [tg] X.env).map (·.2)=[assign tg X.env]:=by rfl):PS X (.Assign [tg] e pos) (Ai3 te g):=by
 intro pins s σ H D I h
 refine wpAny_Assign_stores (thn (he pins s σ H _ I h) fun v s1 zz=>zz.elim fun x H1 I1 r1 q1=>?_) hs hw
 rw[h1]
 exact thn (hg pins s1 σ H1 x v _ I1 r1 q1) fun _ s2 q=>q
theorem Ah1{pos':Pos}(hN:X.N.Nodup)(hi:X.N[i]? = some x)(hx:Loc X.env.scope x)(he:PE X e te)(hs:swapsWith e (some (.Name x pos')) pos.line X.env=pure false:=by rfl)(hf:X.fn x=true\/X.env.scope.names.lookup x=some .local:=by first | exact .inl rfl | exact .inr rfl | assumption) :
  PS X (.Assign [.Name x pos'] e pos) (Ai3 te (Wr i)):=by
 intro pins s σ H D I h
 refine qB (thn (he pins s σ H _ I h) fun v s1 zz=>zz.elim fun y H1 I1 r1 q1=>?_) hs
 exact Sh I1 hN hi hx r1 (fun s2 I2=>⟨_,H1,I2,q1⟩) hf
end
structure It where
 go:Nat->Hp->Prop
 yld:Nat->Hp->V->Hp->Prop
 stop:Nat->Hp->Prop
def Kq(X:Cx)(pins:List (Addr×Obj))(H:Hp)(b:Addr):Prop:=
 H b=none/\b≠X.env.locals/\b∉X.fs/\(b∈X.ex\/X.s₀.heap.objs.size<=b)/\(∀ x c,X.env.cells.lookup x=some c->c≠b)/\∀ p∈X.pn++pins,p.1≠b
theorem Inv.fpOk(I:Inv X pins σ H s)(hb:s.heap.objs.size<=b)(hn:H' b=none):Kq X pins H' b:=by
 refine ⟨hn,cP (aG I.lt hb),I.nofs hb,.inr (bJ I.sz hb),fun x c e z=>?_,fun p hp z=>?_⟩
 ·obtain ⟨v,q⟩:=I.cell x c e
  exact absurd (aG q.lt (by rw[z];exact hb)) (dA _)
 ·exact absurd (aG (aO (I.pin p hp).1) (by rw[z];exact hb)) (dA _)
structure Turn(P:cD)(w:cV)(K:aB)(tg:Expr)(J:It)(fp:List Addr)(it:Addr)(tn:Nat->Heap->Prop):Prop where
 mem:it∈fp
 obj:∀ i h,tn i h->∀ b∈fp,∃ o,h.get? b=some o/\∀ v,o.data≠.cell v
 keep:∀ i h h',tn i h->(∀ b∈fp,∀ o,h.get? b=some o->h'.get? b=some o)->tn i h'
 item:∀ (X:Cx),X.prog=P->X.w=w->X.K=K->X.calm=true->∀ (i:Nat) (pins:List (Addr×Obj)) (s:aH) (σ:St) (H:Hp) (E:aE->aH->Prop),Inv X pins σ H s->(∀ b∈fp,Kq X pins H b)->tn i s.heap->J.go i H ->
  wpAny (model P w) X.A (pyNext (.ref it)) (fun r s1=>∃ u,r=some u /\
   wpAny (model P w) X.A (letOwnedTupleGo tg (.ref it) u) (fun _ s2=>∃ x H',Inv X pins σ H' s2/\Cm x u/\J.yld i H x H'/\tn (i+1) s2.heap/\∀ b∈fp,H' b=none) E s1) E s
 done:∀ (X:Cx),X.prog=P->X.w=w->X.K=K->X.calm=true->∀ (i:Nat) (pins:List (Addr×Obj)) (s:aH) (σ:St) (H:Hp) (E:aE->aH->Prop),Inv X pins σ H s->(∀ b∈fp,Kq X pins H b)->tn i s.heap->J.stop i H ->
  wpAny (model P w) X.A (pyNext (.ref it)) (fun r s1=>r=none/\Inv X pins σ H s1) E s
 self:∀ (A:fA) (i:Nat) (s:aH) (Q:aE->aH->Prop) (E:aE->aH->Prop),tn i s.heap->Q (.ref it) s->wpAny (model P w) A (pyIter (.ref it)) Q E s
abbrev TI:=St->Hp->(It->Hp->Prop)->Prop
def PIE(X:Cx)(pins:List (Addr×Obj))(σ:St)(tg:Expr)(R:It->Hp->Prop)(itv:aE)(s2:aH):Prop:=
 ∃ (it:Addr) (fp:List Addr) (tn:Nat->Heap->Prop) (J:It) (H':Hp),itv = .ref it/\Inv X pins σ H' s2/\Turn X.prog X.w X.K tg J fp it tn/\tn 0 s2.heap/\(∀ b∈fp,Kq X pins H' b)/\R J H'
def PI(X:Cx)(tg iter:Expr)(wi:TI):Prop:=
 ∀ (pins:List (Addr×Obj)) (s:aH) (σ:St) (H:Hp) (R:It->Hp->Prop),Inv X pins σ H s->wi σ H R ->
  wpAny (model X.prog X.w) X.A (eval iter X.env) (fun v s1=>wpAny (model X.prog X.w) X.A (pyIter v) (PIE X pins σ tg R) X.xe s1) X.xe s
theorem Abg{it:Addr}{o:Obj}{n:String}{vs:Array aE}{Q:Unit->aH->Prop}(ho:s.heap.get? it=some o)(hc:o.cls = .type n)(hd:o.data = .fields vs)
  (hn:["enumerate","zip","dict_itemiterator","dict_reverseitemiterator","odict_iterator","itertools.zip_longest","itertools.pairwise"].contains n=false) (hQ:Q () s):wpAny M A (letOwnedTupleGo tg (.ref it) u) Q E s:=by
 unfold letOwnedTupleGo
 cases tg <;> first
  | exact aX hQ
  | (cases u <;> first
    | exact aX hQ
    | (refine aF (wpAny_load ho ?_)
       rw[hc,hd]
       show wpAny M A (if (["enumerate","zip","dict_itemiterator","dict_reverseitemiterator","odict_iterator","itertools.zip_longest","itertools.pairwise"].contains n&&vs[0]? == some (rawInt _))=true then _ else _) Q E s
       rw[if_neg (by intro h;rw[hn,Bool.false_and] at h;cases h)]
       exact aX hQ))
def Itl(K:aB)(a:Addr):It:=
 ⟨fun i H=>∃ xs x,SqL K H a xs/\xs[i]? = some x,fun i H x H'=>H'=H/\∀ xs,SqL K H a xs->xs[i]? = some x,fun i H=>∃ xs,SqL K H a xs/\xs.length<=i⟩
def Itt(K:aB)(a:Addr):It:=
 ⟨fun i H=>∃ xs x,SqT K H a xs/\xs[i]? = some x,fun i H x H'=>H'=H/\∀ xs,SqT K H a xs->xs[i]? = some x,fun i H=>∃ xs,SqT K H a xs/\xs.length<=i⟩
def Itr(lo:Int)(n:Nat):It:=⟨fun i _=>i < n,fun i H x H'=>H'=H/\x = .int (lo+i),fun i _=>n<=i⟩
theorem Ad8(a it:Addr):Turn P w K tg (Itl K a) [it] it (fun i h=>h.IsListIter it a i) where
 mem:=by simp
 obj:=fun i h st b hb=>by
  have e:b=it:=by simpa using hb
  subst e
  obtain ⟨o,e,c,d⟩:=st
  exact ⟨o,e,fun v z=>by rw[d] at z;cases z⟩
 keep:=fun i h h' st k=>st.at fun o e=>k it (by simp) o e
 item:=by
  intro X hP hw hK hc i pins s σ H E I hf st hg
  subst hP hw hK
  obtain ⟨xs,x,hq,hx⟩:=hg
  obtain ⟨its,rv,p,hz⟩:=I.list hq
  obtain ⟨u,hu,ru⟩:=rv.get hx
  obtain ⟨f0,f1,f2,f3,f4,f5⟩:=hf it (by simp)
  refine wpAny_pyNext_list_item st p.isList (x:=u) (by simpa using hu) fun h' st' sb=>?_
  have I1:Inv X pins σ H { s with heap:=h' }:=I.turned (t':=s.toks) (fun b o hb e=>(sb.2 b hb).trans e) f0 f1 f3 f4 f5
  obtain ⟨o,e,c,d⟩:=id st'
  exact ⟨u,rfl,Abg (s:={ s with heap:=h' }) e c d (by decide) ⟨x,H,I1,ru,⟨rfl,fun ys hy=>by rw[I.list_inj hy hq];exact hx⟩,st',fun b hb=>(hf b hb).1⟩⟩
 done:=by
  intro X hP hw hK hc i pins s σ H E I hf st hg
  subst hP hw hK
  obtain ⟨xs,hq,hx⟩:=hg
  obtain ⟨its,rv,p,hz⟩:=I.list hq
  obtain ⟨f0,f1,f2,f3,f4,f5⟩:=hf it (by simp)
  have hl:=rv.length
  exact wpAny_pyNext_list_end (I.ok.hd hc) st p.isList (by simp;omega) fun h' eb=>⟨rfl,I.turned (t':=s.toks) (fun b o hb e=>eb b o hb e) f0 f1 f3 f4 f5⟩
 self:=fun _ _ _ _ _ st h=>wpAny_pyIter_listiter st h
theorem Aaw(a it:Addr):Turn P w K tg (Itt K a) [it] it (fun i h=>h.IsTupleIter it a i) where
 mem:=by simp
 obj:=fun i h st b hb=>by
  have e:b=it:=by simpa using hb
  subst e
  obtain ⟨o,e,c,d⟩:=st
  exact ⟨o,e,fun v z=>by rw[d] at z;cases z⟩
 keep:=fun i h h' st k=>st.at fun o e=>k it (by simp) o e
 item:=by
  intro X hP hw hK hc i pins s σ H E I hf st hg
  subst hP hw hK
  obtain ⟨xs,x,hq,hx⟩:=hg
  obtain ⟨its,rv,p,hz⟩:=I.tuple hq
  obtain ⟨u,hu,ru⟩:=rv.get hx
  obtain ⟨f0,f1,f2,f3,f4,f5⟩:=hf it (by simp)
  refine wpAny_pyNext_tuple_item st (show s.heap.IsTuple a its.toArray from p) (x:=u) (by simpa using hu) fun h' st' sb=>?_
  have I1:Inv X pins σ H { s with heap:=h' }:=I.turned (t':=s.toks) (fun b o hb e=>(sb.2 b hb).trans e) f0 f1 f3 f4 f5
  obtain ⟨o,e,c,d⟩:=id st'
  exact ⟨u,rfl,Abg (s:={ s with heap:=h' }) e c d (by decide) ⟨x,H,I1,ru,⟨rfl,fun ys hy=>by rw[I.tuple_inj hy hq];exact hx⟩,st',fun b hb=>(hf b hb).1⟩⟩
 done:=by
  intro X hP hw hK hc i pins s σ H E I hf st hg
  subst hP hw hK
  obtain ⟨xs,hq,hx⟩:=hg
  obtain ⟨its,rv,p,hz⟩:=I.tuple hq
  obtain ⟨f0,f1,f2,f3,f4,f5⟩:=hf it (by simp)
  have hl:=rv.length
  exact wpAny_pyNext_tuple_end (I.ok.hd hc) st (show s.heap.IsTuple a its.toArray from p) (by simp;omega) fun h' eb=>⟨rfl,I.turned (t':=s.toks) (fun b o hb e=>eb b o hb e) f0 f1 f3 f4 f5⟩
 self:=fun _ _ _ _ _ st h=>wpAny_pyIter_tupleiter st h
theorem Y8(it:Addr)(lo:Int)(n:Nat):Turn P w K tg (Itr lo n) [it] it (fun i h=>IsRangeIter h it (lo+(i:Nat) * 1) ((n:Int) - (i:Nat)) 1) where
 mem:=by simp
 obj:=fun i h st b hb=>by
  have e:b=it:=by simpa using hb
  subst e
  exact ⟨_,st,fun v z=>by
   have z':Data.fields _=Data.cell v:=z
   cases z'⟩
 keep:=fun i h h' st k=>k it (by simp) _ st
 item:=by
  intro X hP hw hK hc i pins s σ H E I hf st hg
  subst hP hw hK
  obtain ⟨f0,f1,f2,f3,f4,f5⟩:=hf it (by simp)
  have W:=Walks.range (prog:=X.prog) (w:=X.w) (I.ok.hd hc) it lo 1 n
  refine wtk I.tk (W.item i s _ _ hg st fun v h' tk hv st' kk ht=>?_)
  obtain ⟨t,rfl⟩:=hv
  have I1:Inv X pins σ H { s with heap:=h',toks:=tk }:=I.turned (fun b o hb e=>kk b o (by simpa using hb) e) f0 f1 f3 f4 f5
  refine ⟨_,rfl,Abg (s:={ s with heap:=h',toks:=tk }) (n := "range_iterator") st' rfl rfl (by decide) ⟨.int (lo+i),H,I1,⟨t,?_⟩,⟨rfl,rfl⟩,st',fun b hb=>(hf b hb).1⟩⟩
  rw[Int.mul_one]
 done:=by
  intro X hP hw hK hc i pins s σ H E I hf st hg
  subst hP hw hK
  obtain ⟨f0,f1,f2,f3,f4,f5⟩:=hf it (by simp)
  exact wpAny_pyNext_range_end (I.ok.hd hc) st (by have:n<=i:=hg;omega) fun h' eb=>⟨rfl,I.turned (t':=s.toks) (fun b o hb e=>eb b o hb e) f0 f1 f3 f4 f5⟩
 self:=fun _ _ _ _ _ st h=>wpAny_pyIter_rangeiter st h
variable {p:Pos}{fp:List Addr}
section
def Ar0(K:aB)(tl:TE):TI:=fun σ H R=>tl σ H fun x H1=>∃ a,x = .ref a/\(∃ xs,SqL K H1 a xs)/\R (Itl K a) H1
def Avy(K:aB)(tl:TE):TI:=fun σ H R=>tl σ H fun x H1=>∃ a,x = .ref a/\(∃ xs,SqT K H1 a xs)/\R (Itt K a) H1
theorem Ajx{l:Expr}{tl:TE}(hl:PE X l tl):PI X tg l (Ar0 X.K tl):=by
 intro pins s σ H R I h
 refine thn (hl pins s σ H _ I h) fun v s1 zz=>?_
 obtain ⟨x,H1,I1,r1,q1⟩:=zz
 obtain ⟨a,e,⟨xs,hq⟩,q⟩:=q1
 subst e
 cases r1
 obtain ⟨its,rv,p,hz⟩:=I1.list hq
 refine qC p.isList ?_
 refine ⟨s1.heap.objs.size,[s1.heap.objs.size],_,_,H1,rfl,I1.kept (t':=s1.toks) fun b o e=>aI _ e,Ad8 a _,⟨_,bI _ rfl,rfl,rfl⟩,fun b hb=>?_,q⟩
 have e:b=s1.heap.objs.size:=by simpa using hb
 subst e
 exact I1.fpOk (aJ _) (I1.hok.fresh (aJ _))
theorem Aod{l:Expr}{tl:TE}(hl:PE X l tl):PI X tg l (Avy X.K tl):=by
 intro pins s σ H R I h
 refine thn (hl pins s σ H _ I h) fun v s1 zz=>?_
 obtain ⟨x,H1,I1,r1,q1⟩:=zz
 obtain ⟨a,e,⟨xs,hq⟩,q⟩:=q1
 subst e
 cases r1
 obtain ⟨its,rv,p,hz⟩:=I1.tuple hq
 refine hU (show s1.heap.IsTuple a its.toArray from p) ?_
 refine ⟨s1.heap.objs.size,[s1.heap.objs.size],_,_,H1,rfl,I1.kept (t':=s1.toks) fun b o e=>aI _ e,Aaw a _,⟨_,bI _ rfl,rfl,rfl⟩,fun b hb=>?_,q⟩
 have e:b=s1.heap.objs.size:=by simpa using hb
 subst e
 exact I1.fpOk (aJ _) (I1.hok.fresh (aJ _))
theorem Afi{R:It->Hp->Prop}{lo hi:Int}{t u v:Tok}{tk:Nat}(I:Inv X pins σ H s)(h1:-(2 ^ 62)<=lo)(h2:lo < 2 ^ 62)(h3:-(2 ^ 62)<=hi)(h4:hi < 2 ^ 62)
  (q:R (Itr lo (hi - lo).toNat) H) (ht:0 < tk:=by first | exact cL _ | exact L2.Inv.tk (by assumption) | omega):wpAny (model X.prog X.w) X.A (pyIter (.ref s.heap.objs.size)) (PIE X pins σ tg R) E { s with heap:=s.heap.push { cls:=.type "range",data:=.fields #[.int lo t,.int hi u,.int 1 v] },toks:=tk }:=by
 refine wpAny_pyIter_range (IsRange.new ..) (small_one h1 h2 h3 h4) ?_
 have I1:Inv X pins σ H { s with heap:=s.heap.push { cls:=.type "range",data:=.fields #[.int lo t,.int hi u,.int 1 v] },toks:=tk }:=I.kept fun b o e=>aI _ e
 refine ⟨(s.heap.push { cls:=.type "range",data:=.fields #[.int lo t,.int hi u,.int 1 v] }).objs.size,[(s.heap.push { cls:=.type "range",data:=.fields #[.int lo t,.int hi u,.int 1 v] }).objs.size],_,_,H,rfl,
  I1.kept (t':=tk) fun b o e=>aI _ e,Y8 _ lo (hi - lo).toNat,?_,fun b hb=>?_,q⟩
 ·have e1:lo+((0:Nat):Int) * 1=lo:=by simp
  have e2:(((hi - lo).toNat:Nat):Int) - ((0:Nat):Int)=nA.Range.rangeSize lo hi 1:=by rw[rangeSize_one];split <;> omega
  show IsRangeIter _ _ (lo+((0:Nat):Int) * 1) ((((hi - lo).toNat:Nat):Int) - ((0:Nat):Int)) 1
  rw[e1,e2]
  exact bI _ rfl
 ·have e:b=(s.heap.push { cls:=.type "range",data:=.fields #[.int lo t,.int hi u,.int 1 v] }).objs.size:=by simpa using hb
  subst e
  exact I1.fpOk (aJ _) (I1.hok.fresh (aJ _))
def Aqd(ta:TA):TI:=fun σ H R=>ta σ H fun vs H1=>∃ j:Int,vs=[.int j]/\-(2 ^ 62)<=j/\j < 2 ^ 62/\R (Itr 0 j.toNat) H1
theorem Ae4{a:Expr}{ta:TA}(hg:Gl X "range")(hm:X.mg "range" = none)(ha:PA X [a] ta)(hs:aN [a] X.env=[(false,eval a X.env)]:=by rfl):PI X tg (.Call (.Name "range" p) [a] [] pos) (Aqd ta):=by
 intro pins s σ H R I h
 refine Call_ (Nv I hg hm boot_range (eR (thn (ha pos pins s σ H _ I h) fun us s1 zz=>zz.elim fun vs H1 I1 r1 q1=>?_) hs rfl))
 obtain ⟨j,e,q1,q2,q⟩:=q1
 subst e
 cases r1 with
 | cons r rr=>
  cases rr
  obtain ⟨t,rfl⟩:=r
  exact call_range_1 (Afi I1 (by omega) (by omega) q1 q2 (by simpa using q))
def Avj(wi:TI)(g:TG)(tb:TS):TS:=fun D σ H=>wi σ H fun J H1=>∃ W:Nat->Nat->St->Hp->Prop,(∃ m,W 0 m σ H1)/\∀ i m σ H,W i m σ H ->
 (J.stop i H/\D.nx σ H)\/(J.go i H/\∃ N:St->Hp->Prop,(∀ σ' H',N σ' H'->∃ m',m' < m/\W (i+1) m' σ' H')/\∀ x H',J.yld i H x H'->g x σ H' fun σ2 H2=>tb { D with nx:=N,ct:=N,bk:=D.nx } σ2 H2)
def Py(fp:List Addr)(h:Heap):List (Addr×Obj):=fp.filterMap fun b=>(h.get? b).map fun o=>(b,o)
theorem Gs{o:Obj}(hb:b∈fp)(e:h.get? b=some o):(b,o)∈Py fp h:=List.mem_filterMap.mpr ⟨b,hb,by rw[e];rfl⟩
theorem Ad0{p:Addr×Obj}(hp:p∈Py fp h):p.1∈fp/\h.get? p.1=some p.2:=by
 obtain ⟨b,hb,e⟩:=List.mem_filterMap.mp hp
 cases q:h.get? b with
 | none=>rw[q] at e;cases e
 | some o=>
  rw[q] at e
  have e':(b,o)=p:=bL e
  subst e'
  exact ⟨hb,q⟩
theorem Inv.pinned(I:Inv X pins σ H s)(hf:∀ b∈fp,Kq X pins H b)(ho:∀ b∈fp,∃ o,s.heap.get? b=some o/\∀ v,o.data≠.cell v):Inv X (pins++Py fp s.heap) σ H s:=
 I.pins_of fun p hp=>(bM.mp hp).elim (fun z=>I.pin p (aU _ z)) fun z=>by
  obtain ⟨hb,e⟩:=Ad0 z
  obtain ⟨f0,f1,f2,_⟩:=hf p.1 hb
  obtain ⟨o,e',d⟩:=ho p.1 hb
  rw[e] at e';cases e'
  exact ⟨e,f0,f1,f2,d⟩
theorem Inv.unpinned{pl:List (Addr×Obj)}(I:Inv X (pins++pl) σ H s):Inv X pins σ H s:=I.pins_of fun p hp=>I.pin p (aU _ (cY _ hp))
theorem Agy{iter:Expr}{body:List Stmt}{wi:TI}{g:TG}{tb:TS}(hp:qQ (model X.prog X.w) X.A X.env X.xe)(hc:X.calm=true)(hi:PI X tg iter wi)(hg:PG X tg g)(hb:PSs X body tb)
  (hs:∀ x,foldedSetIterable iter X.env x=pure x:=by intro _;rfl):PS X (.For tg iter body [] pos) (Avj wi g tb):=by
 intro pins s σ H D I h
 refine wpAny_For (thn (hi pins s σ H _ I h) fun v s1 h1=>thn h1 fun itv s2 h2=>?_) hs
 obtain ⟨it,fp,tn,J,H2,e,I2,T,st2,f2,W,⟨m0,w0⟩,turn⟩:=h2
 subst e
 have stat:∀ {H':Hp},(∀ b∈fp,H' b=none)->∀ b∈fp,Kq X pins H' b:=fun hn b hb=>⟨hn b hb,(f2 b hb).2⟩
 refine oY (fun n s'=>∃ i σ' H',Inv X pins σ' H' s'/\tn i s'.heap/\(∀ b∈fp,H' b=none)/\W i n σ' H') ?_ m0 ⟨0,σ,H2,I2,st2,fun b hb=>(f2 b hb).1,w0⟩
 rintro n s3 ⟨i,σ3,H3,I3,st3,fr3,w3⟩
 rcases turn i n σ3 H3 w3 with ⟨stop,qn⟩ | ⟨go,N,hN,step⟩
 ·refine dU hp (thn (T.done X rfl rfl rfl hc i pins s3 σ3 H3 X.xe I3 (stat fr3) st3 stop) fun r s4 zz=>?_)
  obtain ⟨hr,I4⟩:=zz
  subst hr
  exact lF ⟨σ3,H3,I4,qn⟩
 ·refine dU hp (thn (T.item X rfl rfl rfl hc i pins s3 σ3 H3 X.xe I3 (stat fr3) st3 go) fun r s4 zz=>?_)
  obtain ⟨u,hr,h4⟩:=zz
  subst hr
  refine dU hp (thn h4 fun _ s5 zz=>?_)
  obtain ⟨x,H5,I5,r5,y5,st5,fr5⟩:=zz
  have I5':=I5.pinned (stat fr5) (T.obj _ _ st5)
  refine dU hp (thn (hg _ s5 σ3 H5 x u _ I5' r5 (step x H5 y5)) fun _ s6 zz=>?_)
  obtain ⟨σ6,H6,I6,q6⟩:=zz
  refine dU hp (thn (hb _ s6 σ6 H6 _ I6 q6) fun f s7 q7=>?_)
  have again:∀ {σ7:St} {H7:Hp},Inv X (pins++Py fp s5.heap) σ7 H7 s7->N σ7 H7->∃ m,m < n/\∃ i σ' H',Inv X pins σ' H' s7/\tn i s7.heap/\(∀ b∈fp,H' b=none)/\W i m σ' H':=fun {σ7 H7} I7 n7=>by
   obtain ⟨m',hm,w7⟩:=hN σ7 H7 n7
   refine ⟨m',hm,i+1,σ7,H7,I7.unpinned,T.keep _ _ _ st5 fun b hb o e=>(I7.pin (b,o) (aU _ (aU _ (Gs hb e)))).1,fun b hb=>?_,w7⟩
   obtain ⟨o,e,d⟩:=T.obj _ _ st5 b hb
   exact (I7.pin (b,o) (aU _ (aU _ (Gs hb e)))).2.1
  cases f with
  | next=>obtain ⟨σ7,H7,I7,n7⟩:=q7;exact again I7 n7
  | cont=>obtain ⟨σ7,H7,I7,n7⟩:=q7;exact again I7 n7
  | brk=>obtain ⟨σ7,H7,I7,q7⟩:=q7;exact ⟨σ7,H7,I7.unpinned,q7⟩
  | ret v=>obtain ⟨x7,σ7,H7,I7,r7,q7⟩:=q7;exact ⟨x7,σ7,H7,I7.unpinned,r7,q7⟩
end
abbrev R2:=V->V->Hp->VK->Prop
def OpR(X:Cx)(f:aE->aE->Sem aE)(r:R2):Prop:=
 ∀ (pins:List (Addr×Obj)) (s:aH) (σ:St) (H:Hp) (x y:V) (v u:aE) (Q:VK),Inv X pins σ H s->Cm x v->Cm y u->r x y H Q ->
  wpAny (model X.prog X.w) X.A (f v u) (EP X pins σ Q) X.xe s
def UnR(X:Cx)(f:aE->Sem aE)(r:V->Hp->VK->Prop):Prop:=
 ∀ (pins:List (Addr×Obj)) (s:aH) (σ:St) (H:Hp) (x:V) (v:aE) (Q:VK),Inv X pins σ H s->Cm x v->r x H Q ->
  wpAny (model X.prog X.w) X.A (f v) (EP X pins σ Q) X.xe s
def CallR(X:Cx)(f:aE)(r:List V->Hp->VK->Prop):Prop:=
 ∀ (pins:List (Addr×Obj)) (s:aH) (σ:St) (H:Hp) (xs:List V) (us:List aE) (Q:VK),Inv X pins σ H s->Vals xs us->r xs H Q ->
  wpAny (model X.prog X.w) X.A (call f us) (EP X pins σ Q) X.xe s
def Avs(X:Cx)(r:V->Hp->(Bool->Hp->Prop)->Prop):Prop:=
 ∀ (pins:List (Addr×Obj)) (s:aH) (σ:St) (H:Hp) (x:V) (v:aE) (Q:Bool->Hp->Prop),Inv X pins σ H s->Cm x v->r x H Q ->
  wpAny (model X.prog X.w) X.A (truthy v) (TP X pins σ Q) X.xe s
def tOp(r:R2)(ta tb:TE):TE:=fun σ H Q=>ta σ H fun x H1=>tb σ H1 fun y H2=>r x y H2 Q
def tUn(r:V->Hp->VK->Prop)(ta:TE):TE:=fun σ H Q=>ta σ H fun x H1=>r x H1 Q
def rI(C:Int->Int->Prop)(g:Int->Int->V):R2:=fun x y H Q=>∃ i j,x = .int i/\y = .int j/\C i j/\Q (g i j) H
def rI0(g:Int->Int->V):R2:=fun x y H Q=>∃ i j,x = .int i/\y = .int j/\Q (g i j) H
def rU(g:Int->V):V->Hp->VK->Prop:=fun x H Q=>∃ i,x = .int i/\Q (g i) H
variable {r:R2}
section
variable {a b:Expr}{tc:TE}
theorem Apf(ha:PE X a ta)(hb:PE X b tb){R:V->V->Hp->Prop}(I:Inv X pins σ H s)
  (h:ta σ H fun x H1=>tb σ H1 fun y H2=>R x y H2) {Q:aE->aH->Prop} {f:aE->aE->Sem aE}
  (hf:∀ v u s2 x y H2,Inv X pins σ H2 s2->Cm x v->Cm y u->R x y H2->wpAny (model X.prog X.w) X.A (f v u) Q X.xe s2) :
  wpAny (model X.prog X.w) X.A (eval a X.env) (fun v s₁=>wpAny (model X.prog X.w) X.A (eval b X.env) (fun u s₂=>wpAny (model X.prog X.w) X.A (f v u) Q X.xe s₂) X.xe s₁) X.xe s:=by
 refine thn (ha pins s σ H _ I h) fun v s1 zz=>?_
 obtain ⟨x,H1,I1,r1,q1⟩:=zz
 refine thn (hb pins s1 σ H1 _ I1 q1) fun u s2 zz=>?_
 obtain ⟨y,H2,I2,r2,q2⟩:=zz
 exact hf v u s2 x y H2 I2 r1 r2 q2
theorem Alm{op:Operator}(ho:OpR X (fM op) r)(ha:PE X a ta)(hb:PE X b tb):PE X (.BinOp a op b pos) (tOp r ta tb):=by
 intro pins s σ H Q I h
 exact wpAny_BinOp (Apf ha hb I h fun v u s2 x y H2 I2 rx ry q=>ho pins s2 σ H2 x y v u Q I2 rx ry q)
theorem Asy{op:UnaryOp}{r:V->Hp->VK->Prop}(ho:UnR X (unaryOp op) r)(ha:PE X a ta):PE X (.UnaryOp op a pos) (tUn r ta):=by
 intro pins s σ H Q I h
 exact UnaryOp_ (thn (ha pins s σ H _ I h) fun v s1 zz=>by obtain ⟨x,H1,I1,r1,q1⟩:=zz;exact ho pins s1 σ H1 x v Q I1 r1 q1)
theorem opI{f:aE->aE->Sem aE}{C:Int->Int->Prop}{g:Int->Int->Int}
  (rule:∀ (i j:Int) (t u:Tok) (s:aH) (Q:aE->aH->Prop) (E:aE->aH->Prop),C i j->Q (.int (g i j) s.toks) { s with toks:=s.toks+1 }->wpAny (model X.prog X.w) X.A (f (.int i t) (.int j u)) Q E s) :
  OpR X f (rI C fun i j=>.int (g i j)):=by
 intro pins s σ H x y v u Q I rx ry h
 obtain ⟨i,j,rfl,rfl,hc,q⟩:=h
 obtain ⟨t,rfl⟩:=rx
 obtain ⟨t',rfl⟩:=ry
 exact rule i j t t' s _ _ hc ⟨.int (g i j),H,I.tok _,⟨_,rfl⟩,q⟩
theorem Ar6{f:aE->aE->Sem aE}{g:Int->Int->Int}
  (rule:∀ (i j:Int) (t u:Tok) (s:aH) (Q:aE->aH->Prop) (E:aE->aH->Prop),Q (.int (g i j) s.toks) { s with toks:=s.toks+1 }->wpAny (model X.prog X.w) X.A (f (.int i t) (.int j u)) Q E s) :
  OpR X f (rI0 fun i j=>.int (g i j)):=by
 intro pins s σ H x y v u Q I rx ry h
 obtain ⟨i,j,rfl,rfl,q⟩:=h
 obtain ⟨t,rfl⟩:=rx
 obtain ⟨t',rfl⟩:=ry
 exact rule i j t t' s _ _ ⟨.int (g i j),H,I.tok _,⟨_,rfl⟩,q⟩
theorem Alj{f:aE->aE->Sem aE}{g:Int->Int->Bool}
  (rule:∀ (i j:Int) (t u:Tok) (s:aH) (Q:aE->aH->Prop) (E:aE->aH->Prop),Q (.bool (g i j)) s->wpAny (model X.prog X.w) X.A (f (.int i t) (.int j u)) Q E s) :
  OpR X f (rI0 fun i j=>.bl (g i j)):=by
 intro pins s σ H x y v u Q I rx ry h
 obtain ⟨i,j,rfl,rfl,q⟩:=h
 obtain ⟨t,rfl⟩:=rx
 obtain ⟨t',rfl⟩:=ry
 exact rule i j t t' s _ _ ⟨.bl (g i j),H,I,rfl,q⟩
def Ard(i j:Int):Prop:=0<=j/\j<=1000000/\i.natAbs < 2 ^ 64
def CMul(i j:Int):Prop:=(-(2 ^ 64) < i/\i < 2 ^ 64)\/(-(2 ^ 64) < j/\j < 2 ^ 64)
theorem CMul.ok{i j:Int}(h:CMul i j):IntMulOk i j:=by
 rcases h with ⟨h1,h2⟩ | ⟨h1,h2⟩
 ·exact .of_left (intBits_le_64 h1 h2)
 ·exact .of_right (intBits_le_64 h1 h2)
theorem Aop:OpR X (fM .Add) (rI0 fun i j=>.int (i+j)):=Ar6 fun _ _ _ _ _ _ _ q=>add_int q
theorem K1:OpR X (fM .Sub) (rI0 fun i j=>.int (i - j)):=Ar6 fun _ _ _ _ _ _ _ q=>sub_int q
theorem Anc:OpR X (fM .Mult) (rI CMul fun i j=>.int (i * j)):=opI fun _ _ _ _ _ _ _ hc q=>mul_int q hc.ok
theorem E2:OpR X (fM .Mod) (rI (fun _ j=>0 < j) fun i j=>.int (i % j)):=opI fun i j _ _ _ _ _ hc q=>by
 have h1:(0:Int) < j:=hc
 exact mod_int' (by omega) (by rw[Int.fmod_eq_emod_of_nonneg i (by omega)];exact q)
theorem Kk:OpR X (fM .Pow) (rI Ard fun i j=>.int (i ^ j.toNat)):=opI fun _ _ _ _ _ _ _ hc q=>pow_int_small hc.1 hc.2.1 hc.2.2 q
theorem unI{f:aE->Sem aE}{g:Int->Int}
  (rule:∀ (i:Int) (t:Tok) (s:aH) (Q:aE->aH->Prop) (E:aE->aH->Prop),Q (.int (g i) s.toks) { s with toks:=s.toks+1 }->wpAny (model X.prog X.w) X.A (f (.int i t)) Q E s) :
  UnR X f (rU fun i=>.int (g i)):=by
 intro pins s σ H x v Q I rx h
 obtain ⟨i,rfl,q⟩:=h
 obtain ⟨t,rfl⟩:=rx
 exact rule i t s _ _ ⟨.int (g i),H,I.tok _,⟨_,rfl⟩,q⟩
theorem An9:UnR X (unaryOp .USub) (rU fun i=>.int (-i)):=unI fun _ _ _ _ _ q=>neg_int q
end
variable {op:CmpOp}
section
variable {a b:Expr}{tc:TE}
theorem Agd{k k':Bool}(I:Inv X pins σ H s)(q:Q (.bl k) H)(e:k=k'):EP X pins σ Q (.bool k') s:=by
 subst e
 exact ⟨.bl k,H,I,rfl,q⟩
theorem U3:OpR X (dC .Lt) (rI0 fun i j=>.bl (decide (i < j))):=Alj fun _ _ _ _ _ _ _ q=>lt_int q
theorem Alo:OpR X (dC .LtE) (rI0 fun i j=>.bl (decide (i<=j))):=Alj fun _ _ _ _ _ _ _ q=>le_int q
theorem Agm:OpR X (dC .Gt) (rI0 fun i j=>.bl (decide (j < i))):=Alj fun _ _ _ _ _ _ _ q=>gt_int q
theorem Ar5:OpR X (dC .GtE) (rI0 fun i j=>.bl (decide (j<=i))):=Alj fun _ _ _ _ _ _ _ q=>ge_int q
theorem Adn:OpR X (dC .In) (fun x y H Q=>∃ i j,x = .str i/\y = .str j/\Q (.bl (!(aZ j i 0 j.length 1).isEmpty)) H):=by
 intro pins s σ H x y v u Q I rx ry h
 obtain ⟨i,j,rfl,rfl,q⟩:=h
 obtain ⟨t,rfl⟩:=rx
 obtain ⟨t',rfl⟩:=ry
 exact in_str (Agd I q rfl)
theorem Am7:OpR X (dC .Is) (fun x y H Q=>y = .non/\Q (.bl (decide (x = .non))) H):=by
 intro pins s σ H x y v u Q I rx ry h
 obtain ⟨rfl,q⟩:=h
 cases ry
 refine is_none_gen (Agd I q ?_)
 cases x <;> first
  | (cases rx;rfl)
  | (obtain ⟨t,rfl⟩:=rx;rfl)
  | (obtain ⟨t,rfl,_⟩:=rx;rfl)
theorem OpR.or{f:aE->aE->Sem aE}{r':R2}(h:OpR X f r)(h':OpR X f r'):OpR X f (fun x y H Q=>r x y H Q\/r' x y H Q):=by
 intro pins s σ H x y v u Q I rx ry q
 rcases q with q | q
 ·exact h pins s σ H x y v u Q I rx ry q
 ·exact h' pins s σ H x y v u Q I rx ry q
theorem Bg(b:Expr)(h:op≠.In:=by decide)(h2:op≠.NotIn:=by decide):behindInMarks op b=false:=by
 have e1:(op == CmpOp.In)=false:=by cases op <;> first | rfl | exact absurd rfl h
 have e2:(op == CmpOp.NotIn)=false:=by cases op <;> first | rfl | exact absurd rfl h2
 cases b <;> simp[behindInMarks,e1,e2]
theorem Akn(ho:OpR X (dC op) r)(ha:PE X a ta)(hb:PE X b tb)(hm:behindInMarks op b=false):PE X (.Compare a [op] [b] pos) (tOp r ta tb):=by
 intro pins s σ H Q I h
 exact wpAny_Compare1 (Apf ha hb I h fun v u s2 x y H2 I2 rx ry q=>ho pins s2 σ H2 x y v u Q I2 rx ry q) hm
def Amd(t:TE):TT:=fun σ H Q=>t σ H fun x H'=>∃ k,x = .bl k/\Q k H'
theorem Aji(ho:OpR X (dC op) r)(ha:PE X a ta)(hb:PE X b tb)(hm:behindInMarks op b=false):PT X (.Compare a [op] [b] pos) (Amd (tOp r ta tb)):=by
 intro pins s σ H Q I h
 refine wpAny_isTrue_Compare1 (thn (ha pins s σ H _ I h) fun v s1 zz=>zz.elim fun x H1 I1 r1 q1=>thn (hb pins s1 σ H1 _ I1 q1) fun u s2 ⟨y,H2,I2,r2,q2⟩=>
  thn (ho pins s2 σ H2 x y v u _ I2 r1 r2 q2) fun c s3 zz=>zz.elim fun z H3 I3 r3 zq=>?_) hm
 obtain ⟨k,e,q3⟩:=zq
 subst e
 cases r3
 exact fY ⟨H3,I3,q3⟩
def Af2(r r':R2)(ta tb tc:TE):TE:=fun σ H Q=>ta σ H fun x H1=>tb σ H1 fun y H2=>r x y H2 fun z H3=>∃ k,z = .bl k /\
 (if k=true then tc σ H3 fun w' H4=>r' y w' H4 Q else Q (.bl false) H3)
theorem Ahb{op':CmpOp}{r':R2}(ho:OpR X (dC op) r)(ho':OpR X (dC op') r')(ha:PE X a ta)(hb:PE X b tb)(hc:PE X c tc)
  (hm:lastMarks [op,op'] [b,c]=false:=by with_unfolding_all rfl):PE X (.Compare a [op,op'] [b,c] pos) (Af2 r r' ta tb tc):=by
 intro pins s σ H Q I h
 refine Compare_chain (thn (ha pins s σ H _ I h) fun v s1 zz=>zz.elim fun x H1 I1 r1 q1=>chain_link (thn (hb pins s1 σ H1 _ I1 q1) fun u s2 ⟨y,H2,I2,r2,q2⟩=>
  thn (ho pins s2 σ H2 x y v u _ I2 r1 r2 q2) fun d s3 zz=>zz.elim fun z H3 I3 r3 zq=>?_)) hm
 obtain ⟨k,e,q3⟩:=zq
 subst e
 cases r3
 refine fY ?_
 cases k with
 | false=>exact ite_ff ⟨.bl false,H3,I3,rfl,q3⟩
 | true=>exact ite_tt (chain_last (thn (hc pins s3 σ H3 _ I3 q3) fun w' s4 zz=>by obtain ⟨z',H4,I4,r4,q4⟩:=zz;exact ho' pins s4 σ H4 y z' u w' Q I4 r2 r4 q4))
def Apd(K:aB)(x:V)(H:Hp)(k:Bool):Prop:=
 match x with
 | .non=>k=false
 | .bl b=>k=b
 | .int i=>k=(i != 0)
 | .str y=>y.length<=sizeLine/\k=((y.length:Int) != 0)
 | .byt y=>y.size<=sizeLine/\k=((y.size:Int) != 0)
 | .ref p=>(∃ xs,SqL K H p xs/\k = !xs.isEmpty)\/(∃ xs,SqT K H p xs/\k = !xs.isEmpty)\/∃ kvs,H p=some (.dK kvs)/\k = !kvs.isEmpty
 | _=>False
theorem Aas{κ:Type}{kvs:List (κ×V)}{vs:List (κ×aE)}(r:KV kvs vs):(!vs.isEmpty) = !kvs.isEmpty:=by
 cases r <;> rfl
theorem Ra{its:List aE}(r:Vals xs its):(!its.toArray.isEmpty) = !xs.isEmpty:=by
 cases r <;> simp
theorem Nb:(sizeLine:Nat) < 2 ^ 63:=by rw[kX];decide
theorem Aob:Avs X (fun x H Q=>∃ k,Apd X.K x H k/\Q k H):=by
 intro pins s σ H x v Q I rx h
 obtain ⟨k,e,q⟩:=h
 have hl:=Nb
 have hs:sizeLine=16777216:=kX
 cases x with
 | non=>
  cases rx
  have e':k=false:=e
  subst e'
  exact truthy_none ⟨H,I,q⟩
 | bl b=>
  cases rx
  have e':k=b:=e
  subst e'
  exact fY ⟨H,I,q⟩
 | int i=>
  obtain ⟨t,rfl⟩:=rx
  have e':k=(i != 0):=e
  subst e'
  exact PySem.P.truthy_int ⟨H,I,q⟩
 | str y=>
  obtain ⟨t,rfl⟩:=rx
  obtain ⟨hy,e'⟩:y.length<=sizeLine/\k=((y.length:Int) != 0):=e
  subst e'
  exact PySem.P.truthy_str (by omega) ⟨H,I.tok _,q⟩
 | byt y=>
  obtain ⟨t,rfl⟩:=rx
  obtain ⟨hy,e'⟩:y.size<=sizeLine/\k=((y.size:Int) != 0):=e
  subst e'
  exact PySem.W.truthy_bytes (by omega) ⟨H,I.tok _,q⟩
 | ref p=>
  cases rx
  have e':(∃ xs,SqL X.K H p xs/\k = !xs.isEmpty)\/(∃ xs,SqT X.K H p xs/\k = !xs.isEmpty)\/∃ kvs,H p=some (.dK kvs)/\k = !kvs.isEmpty:=e
  rcases e' with ⟨xs,hx,e'⟩ | ⟨xs,hx,e'⟩ | ⟨kvs,hx,e'⟩
  ·subst e'
   obtain ⟨its,r,pl,hz⟩:=I.list hx
   have hlen:=r.length
   exact wpAny_truthy_list pl.isList (by simp only[aT];omega) ⟨H,I.tok _,by rw[Ra r];exact q⟩
  ·subst e'
   obtain ⟨its,r,pl,hz⟩:=I.tuple hx
   have hlen:=r.length
   exact truthy_tuple pl (by simp only[aT];omega) ⟨H,I.tok _,by rw[Ra r];exact q⟩
  ·subst e'
   obtain ⟨hz,hS,vs,r,m⟩:kvs.length<=sizeLine/\(p == sysModules)=false/\∃ vs,KV kvs vs/\s.heap.DictOf (Eh X.prog X.w) p vs:=I.hok p _ hx
   have hlen:kvs.length=vs.length:=nD r
   exact wpAny_truthy_dict hS m (by omega) ⟨H,I.tok _,by rw[Aas r];exact q⟩
 | _=>exact (show False from e).elim
theorem Agl(ha:PE X a ta)(he:∀ whole,isTrue a X.env whole=(do let v <- whole;standAt a.pos;holding [v] (truthy v))) :
  PT X a (fun σ H Q=>ta σ H fun x H'=>∃ k,Apd X.K x H' k/\Q k H'):=by
 intro pins s σ H Q I h
 exact isTrue_plain (thn (ha pins s σ H _ I h) fun v s1 zz=>by obtain ⟨x,H1,I1,r1,q1⟩:=zz;exact Aob pins s1 σ H1 x v Q I1 r1 q1) (he _)
theorem Y3:OpR X (fM .Add) (fun x y H Q=>∃ i j,x = .str i/\y = .str j/\i.length+j.length<=sizeLine/\Q (.str (i++j)) H):=by
 intro pins s σ H x y v u Q I rx ry h
 obtain ⟨i,j,rfl,rfl,hz,q⟩:=h
 obtain ⟨t,rfl⟩:=rx
 obtain ⟨t',rfl⟩:=ry
 exact wtk I.tk (add_str (fun t' tk ht=>⟨.str (i++j),H,I.tok _ ht,⟨_,rfl⟩,q⟩) hz)
theorem Ku{x:V}(r:Vals [x] us):∃ u,us=[u]/\Cm x u:=by
 cases r with
 | cons r1 r2=>cases r2;exact ⟨_,rfl,r1⟩
theorem Abp{x y:V}(r:Vals [x,y] us):∃ u w',us=[u,w']/\Cm x u/\Cm y w':=by
 cases r with
 | cons r1 r2=>
  cases r2 with
  | cons r3 r4=>cases r4;exact ⟨_,_,rfl,r1,r3⟩
theorem Xe:CallR X (.builtin "abs") (fun xs H Q=>∃ i,xs=[.int i]/\Q (.int (if i < 0 then -i else i)) H):=by
 intro pins s σ H xs us Q I r h
 obtain ⟨i,rfl,q⟩:=h
 obtain ⟨u,rfl,t,rfl⟩:=Ku r
 exact wtk I.tk (call_abs_int fun u tk ht=>⟨.int (if i < 0 then -i else i),H,I.tok _ ht,⟨_,rfl⟩,q⟩)
theorem Ad9(hc:X.calm=true):CallR X (.builtin "max") (fun xs H Q=>∃ i j,xs=[.int i,.int j]/\Q (.int (if j > i then j else i)) H):=by
 intro pins s σ H xs us Q I r h
 obtain ⟨i,j,rfl,q⟩:=h
 obtain ⟨u,w',rfl,⟨t,rfl⟩,⟨t',rfl⟩⟩:=Abp r
 refine wtk I.tk (max_two_ints (I.ok.hd hc) fun h' tk k ht=>⟨_,H,I.kept k ht,?_,q⟩)
 by_cases hj:j > i
 ·rw[if_pos hj,if_pos hj];exact ⟨_,rfl⟩
 ·rw[if_neg hj,if_neg hj];exact ⟨_,rfl⟩
theorem Mf:CallR X (.type "int") (fun xs H Q=>(∃ i,xs=[.int i]/\Q (.int i) H)\/∃ k,xs=[.bl k]/\Q (.int (if k then 1 else 0)) H):=by
 intro pins s σ H xs us Q I r h
 rcases h with ⟨i,rfl,q⟩ | ⟨k,rfl,q⟩
 ·obtain ⟨u,rfl,t,rfl⟩:=Ku r
  exact call_int_int ⟨.int i,H,I,⟨_,rfl⟩,q⟩
 ·obtain ⟨u,rfl,r1⟩:=Ku r
  cases r1
  exact call_int_bool ⟨.int (if k then 1 else 0),H,I.tok _,⟨_,rfl⟩,q⟩
def Aq1(K:aB)(x:V)(H:Hp)(n:Nat):Prop:=
 match x with
 | .str y=>y.length<=sizeLine/\n=y.length
 | .byt y=>y.size<=sizeLine/\n=y.size
 | .ref p=>(∃ xs,SqL K H p xs/\n=xs.length)\/∃ xs,SqT K H p xs/\n=xs.length
 | _=>False
theorem B3:CallR X (.builtin "len") (fun xs H Q=>∃ x n,xs=[x]/\Aq1 X.K x H n/\Q (.int n) H):=by
 intro pins s σ H xs us Q I r h
 obtain ⟨x,n,rfl,e,q⟩:=h
 obtain ⟨u,rfl,rx⟩:=Ku r
 have hl:=Nb
 have hs:sizeLine=16777216:=kX
 cases x with
 | str y=>
  obtain ⟨t,rfl⟩:=rx
  obtain ⟨hy,e'⟩:y.length<=sizeLine/\n=y.length:=e
  subst e'
  exact len_str (by omega) ⟨.int _,H,I.tok _,⟨_,rfl⟩,q⟩
 | byt y=>
  obtain ⟨t,rfl⟩:=rx
  obtain ⟨hy,e'⟩:y.size<=sizeLine/\n=y.size:=e
  subst e'
  exact PySem.W.len_bytes (by omega) ⟨.int _,H,I.tok _,⟨_,rfl⟩,q⟩
 | ref p=>
  cases rx
  have e':(∃ xs,SqL X.K H p xs/\n=xs.length)\/∃ xs,SqT X.K H p xs/\n=xs.length:=e
  rcases e' with ⟨xs,hx,e'⟩ | ⟨xs,hx,e'⟩
  ·subst e'
   obtain ⟨its,r',pl,hz⟩:=I.list hx
   have hlen:=r'.length
   exact Calls.call_len_list pl.isList (by simp only[aT];omega) ⟨.int xs.length,H,I.tok _,⟨_,by simp only[aT];rw[hlen]⟩,q⟩
  ·subst e'
   obtain ⟨its,r',pl,hz⟩:=I.tuple hx
   have hlen:=r'.length
   exact len_tuple pl (by simp only[aT];omega) ⟨.int xs.length,H,I.tok _,⟨_,by simp only[aT];rw[hlen]⟩,q⟩
 | _=>exact (show False from e).elim
end
structure ObjM(h:Heap)(x dx C:Addr)(mA:Str->Option aE):Prop where
 obj:h.get? x=some (fX C dx)
 ns:h.Ns1 dx mA
 ne:dx≠x
variable {dx:Addr}{mA:Str->Option aE}
theorem U0(n:h.Ns1 dx mA):∃ od,h.get? dx=some od/\∀ name,oH name od=some (mA name):=by
 obtain ⟨o,es,ep,ho,hd,hk,_,hm⟩:=n
 refine ⟨o,ho,fun name=>?_⟩
 have e:=hm name
 unfold nsFind findBy at e
 rw[<- Array.find?_toList] at e
 unfold oH
 rw[hd]
 dsimp only
 split
 ·rename_i y q
  rw[q] at e
  exact congrArg some e
 ·rename_i q
  rw[q] at e
  have a:es.toList.any (·.refKey)=false:=by
   rw[List.any_eq_false]
   intro y hy
   obtain ⟨z,t,hkey⟩:=hk y (Array.mem_toList_iff.mp hy)
   simp[qW.refKey,hkey]
  have a':¬ es.toList.any (·.refKey)=true:=by rw[a];exact cT
  rw[if_neg a']
  exact congrArg some e
variable {C:Addr}
theorem ObjM.look{x:Addr}(I:ObjM h x dx C mA):∃ od,gQ h x (fX C dx) C (some od)/\∀ name,oH name od=some (mA name):=
 let ⟨od,ho,hl⟩:=U0 I.ns
 ⟨od,⟨I.obj,rfl,rfl,ho⟩,hl⟩
variable {f:Addr}
section
variable {prog:cD}{x:Addr}{name:Str}{v:aE}
end
theorem Ae1(r:Cm v u):PySem.W.handedIn u=true:=by
 cases v with
 | non=>cases (show u=dO from r);rfl
 | bl b=>cases (show u=pP b from r);rfl
 | int i=>obtain ⟨t,e⟩:=(show ∃ t,u=oX i t from r);cases e;rfl
 | str x=>obtain ⟨t,e⟩:=(show ∃ t,u=lY x t from r);cases e;rfl
 | tz x=>obtain ⟨t,e,_⟩:=(show ∃ t,u=lY x t/\0 < t from r);cases e;rfl
 | byt b=>obtain ⟨t,e⟩:=(show ∃ t,u=sR b t from r);cases e;rfl
 | flt b=>obtain ⟨t,e⟩:=(show ∃ t,u=rD b t from r);cases e;rfl
 | ref a=>cases (show u=bP a from r);rfl
 | ty n=>cases (show u=mB n from r);rfl
section
variable {fs fs':List (Str×V)}
theorem Ajv(hok:HOk P w H h)(e:H a=some (.ins C dx fs)):∃ mA,ObjM h a dx C mA/\(∀ f,RelO (fs.lookup f) (mA f))/\sI mA (fs.map (·.1))/\fs.length<=1000/\H dx=some (.own a):=by
 obtain ⟨d,z,ne,ob,mA,n,r,q⟩:=(show ObjOk P w H h a (.ins C dx fs) from hok a _ e)
 exact ⟨mA,⟨ob,n,ne⟩,r,q,z,d⟩
end
structure Cls(K:aB)(C:Addr):Prop where
 pg:qR K C kL=true
 hd:mW K C=true
 po:PySem.W.plainOver K C=true
 sa:bR K (.ref C) "__setattr__" = some (some (.builtin "object.__setattr__"))
theorem Cls.get(c:Cls K C)(f:Str):qR K C f=true:=c.pg
def Apo(K:aB)(C:Addr)(f:Str):Prop:=bR K (.ref C) f=some none
structure Con(K:aB)(C:Addr)(f:Str)(v:V)(u:aE):Prop where
 at_:bR K (.ref C) f=some (some u)
 rel:Cm v u
 get:iN K u "__get__" = some none
 cp:PySem.W.copiedNames.contains f=false
structure Meth(K:aB)(C:Addr)(m:Str)(f:Addr):Prop where
 at_:bR K (.ref C) m=some (some (.ref f))
 fn:nP K (.ref f)=true
 kp:cN K (.ref f)=true
section
variable {fs:List (Str×V)}{f:Str}
theorem Inv.made(I:Inv X pins σ H s):Inv X pins σ (upd (upd H s.heap.objs.size (.own (s.heap.objs.size+1))) (s.heap.objs.size+1) (.ins C s.heap.objs.size []))
  { s with heap:=(s.heap.push eT).push (fX C s.heap.objs.size) }:=by
 have e1:(s.heap.push eT).get? s.heap.objs.size=some eT:=bI s.heap rfl
 have e2:((s.heap.push eT).push (fX C s.heap.objs.size)).get? (s.heap.objs.size+1)=some (fX C s.heap.objs.size):=by
  have:=bI (s.heap.push eT) (o:=fX C s.heap.objs.size) rfl
  rwa [gR] at this
 have e3:(s.heap.push eT).Ns s.heap.objs.size (fun _=>none):=⟨eT,#[],_,e1,rfl,(fun e he=>absurd he (by simp)),fun _=>rfl⟩
 have I1:=I.laid (a:=s.heap.objs.size) (o:=.own (s.heap.objs.size+1)) (h':=s.heap.push eT) (t':=s.toks) (fun b u q=>aI _ q) (aJ _) ⟨_,e1⟩
 refine I1.laid (a:=s.heap.objs.size+1) (o:=.ins C s.heap.objs.size []) (t':=s.toks) (fun b u q=>aI _ q) (qD (gR _ _)) ?_
 have ne:s.heap.objs.size≠s.heap.objs.size+1:=cC (dW _)
 refine ⟨by rw[Bv ne,upd_same],eO _,ne,e2,fun _=>none,(qE e3).at fun o q=>aI _ q,fun _=>fB,fun y hy=>absurd rfl hy⟩
theorem Akw{prog:cD}{env:Env}{f:Str}{Q:aE->aH->Prop}(hb:attributeBase e f env (eval e env)=eval e env)
  (h:wpAny (model prog w) A (eval e env) (fun o s₁=>wpAny (model prog w) A (getAttr o f true) Q E s₁) E s):wpAny (model prog w) A (eval (.Attribute e f pos) env) Q E s:=
 Attribute_any_ h (by rw[arm_eval_Attribute,hb])
end
section
variable {o value:Expr}{f:Str}{pos' tpos:Pos}{tv:TE}
end
section
variable {Q:aE->aH->Prop}{c:aE}{b:Bool}
inductive TyOf(K:aB)(H:Hp):V->aE->Prop where
 | non:TyOf K H .non (.type "NoneType")
 | bl (x:Bool):TyOf K H (.bl x) (.type "bool")
 | int (i:Int):TyOf K H (.int i) (.type "int")
 | str (x:Str):TyOf K H (.str x) (.type "str")
 | flt (x:UInt64):TyOf K H (.flt x) (.type "float")
 | lst {a:Addr} {xs:List V} (e:H a=some (.lst xs)):TyOf K H (.ref a) (.type "list")
 | frz {a:Addr} {o:Obj} {xs:List V} (e:H a=some (.frz o (.lst xs))):TyOf K H (.ref a) (.type "list")
 | tup {a:Addr} {xs:List V} (e:H a=some (.tup xs)):TyOf K H (.ref a) (.type "tuple")
 | dK {a:Addr} {kvs:List (Key×V)} (e:H a=some (.dK kvs)):TyOf K H (.ref a) (.type "dict")
 | dT {a:Addr} {kvs:List (List Key×V)} (e:H a=some (.dT kvs)):TyOf K H (.ref a) (.type "dict")
 | ins {a C dx:Addr} {fs:List (Str×V)} (e:H a=some (.ins C dx fs)) (cl:Cls K C) (ha:bR K (.ref C) "__class__" = some (some (.builtin "object.__class__")))
   (hn:iN K (.builtin "object.__class__") "__get__" = some (some (.builtin "getset_descriptor.__get__"))) (htk:nY K (.builtin "object.__class__")=some true)
   (hm:pC K C (.type "object")=some true):TyOf K H (.ref a) (.ref C)
theorem Jx{x:V}{t:aE}(I:Inv X pins σ H s)(rx:Cm x u)(ty:TyOf X.K H x t)(e:dD X.K t c=some b)(h:∀ tk,Q (.bool b) { s with toks:=tk }) :
  wpAny (model X.prog X.w) A (call (.builtin "isinstance") [u,c]) Q E s:=by
 cases ty with
 | non=>cases (show u=dO from rx);exact cW PySem.W.kitx_none I.kIn fB e (fun z=>nomatch z) h
 | bl y=>cases (show u=pP y from rx);exact cW PySem.W.kitx_bool I.kIn fB e (fun z=>nomatch z) h
 | int i=>obtain ⟨t,q⟩:=(show ∃ t,u=oX i t from rx);cases q;exact cW PySem.W.kitx_int I.kIn fB e (fun z=>nomatch z) h
 | str y=>obtain ⟨t,q⟩:=(show ∃ t,u=lY y t from rx);cases q;exact cW PySem.W.kitx_str I.kIn fB e (fun z=>nomatch z) h
 | flt y=>obtain ⟨t,q⟩:=(show ∃ t,u=rD y t from rx);cases q;exact cW PySem.W.kitx_float I.kIn fB e (fun z=>nomatch z) h
 | @lst a xs ea=>
  cases (show u=bP a from rx)
  obtain ⟨_,_,n,_,h1⟩:=(show ObjOk X.prog X.w H s.heap a (.lst xs) from I.hok a _ ea)
  exact cW mX I.kIn ⟨_,h1,rfl⟩ e (fun z=>nomatch z) h
 | @frz a ob xs ea=>
  cases (show u=bP a from rx)
  obtain ⟨_,_,_,n,_,h1⟩:=(show ObjOk X.prog X.w H s.heap a (.frz ob (.lst xs)) from I.hok a _ ea)
  exact cW mX I.kIn ⟨_,h1,rfl⟩ e (fun z=>nomatch z) h
 | @tup a xs ea=>
  cases (show u=bP a from rx)
  obtain ⟨_,_,_,p⟩:=(show ObjOk X.prog X.w H s.heap a (.tup xs) from I.hok a _ ea)
  obtain ⟨o,h1,h2,_⟩:=p
  exact cW pS I.kIn ⟨o,h1,(jR h2).1⟩ e (fun z=>nomatch z) h
 | @dK a kvs ea=>
  cases (show u=bP a from rx)
  obtain ⟨_,_,vs,_,p⟩:=(show ObjOk X.prog X.w H s.heap a (.dK kvs) from I.hok a _ ea)
  obtain ⟨o,es,ep,h1,h2,_⟩:=p
  exact cW qF I.kIn ⟨o,h1,h2.1⟩ e (fun z=>nomatch z) h
 | @dT a kvs ea=>
  cases (show u=bP a from rx)
  obtain ⟨_,_,xs,_,o,es,ep,h1,h2,_⟩:=(show ObjOk X.prog X.w H s.heap a (.dT kvs) from I.hok a _ ea)
  exact cW qF I.kIn ⟨o,h1,h2.1⟩ e (fun z=>nomatch z) h
 | @ins a C dx fs ea cl ha hn htk hm=>
  cases (show u=bP a from rx)
  obtain ⟨mA,O,_⟩:=Ajv I.hok ea
  obtain ⟨od,J,_⟩:=O.look
  exact cW (PySem.W.kitx_own (cl.get _) cl.hd ha hn htk hm) I.kIn J e (fun z=>nomatch z) h
end
structure Room(k:Nat)(A:fA):Prop where
 hd:A.handled=none
 dp:A.depth+3 * k+5 < recursionLimit
 un:A.units+16 * k+200 < cLine
theorem Room.mono(r:Room k A)(h:j<=k):Room j A:=⟨r.hd,by have:=r.dp;omega,by have:=r.un;omega⟩
theorem Room.deeper(r:Room (k+1) A)(env:Env):Room k (A.deeper env):=
 ⟨r.hd,by have:=r.dp;show A.depth+1+3 * k+5 < _;omega,by have:=r.un;show A.units+3+16 * k+200 < _;omega⟩
theorem Room.in1(r:Room (k+1) A):Room k A.in1:=
 ⟨r.hd,by have:=r.dp;show A.depth+3 * k+5 < _;omega,by have:=r.un;show A.units+1+16 * k+200 < _;omega⟩
theorem Aa3{kw:List (Str×aE)}:(A.under (.builtin "type.__call__" ⟨.ref C::us,kw⟩)).depth=A.depth+1:=by
 first | rfl | simp[qG,Code.weight,Code.isCreation,Code.isGuard,Code.isCaller,sS,qH,guardIds]
theorem Aa0{kw:List (Str×aE)}:(A.under (.builtin "type.__call__" ⟨.ref C::us,kw⟩)).units=A.units+1:=by
 first | rfl | simp[qG,Code.cUnits,sS,qH]
theorem Room.make(r:Room (k+1) A)(C:Addr)(us:List aE)(kw:List (Str×aE)):Room k (A.under (.builtin "type.__call__" ⟨.ref C::us,kw⟩)):=
 ⟨r.hd,by have:=r.dp;rw[Aa3];omega,by have:=r.un;rw[Aa0];omega⟩
theorem Room.depth(r:Room k A):A.depth < recursionLimit:=by have:=r.dp;omega
theorem Room.units(r:Room k A):A.units+64 < cLine:=by have:=r.un;omega
def An8:TA:=fun _ H Q=>Q [] H
def Agf(ta:TE)(tr:TA):TA:=fun σ H Q=>ta σ H fun x H1=>tr σ H1 fun xs H2=>Q (x::xs) H2
variable {t:TA}
section
theorem Nh:PA X [] An8:=fun _ _ _ _ H Q I h=>qI ⟨[],H,I,.nil,h⟩
theorem Ga(ha:PE X e te)(hr:PA X es t)(hs:aN (e::es) X.env=(false,eval e X.env)::aN es X.env:=by rfl):PA X (e::es) (Agf te t):=by
 intro pos pins s σ H Q I h
 rw[hs]
 show wpAny _ _ (spliced ((false,eval e X.env)::backTo pos (aN es X.env))) _ _ s
 refine mE (thn (ha pins s σ H _ I h) fun u s1 zz=>?_)
 obtain ⟨x,H1,I1,r1,q1⟩:=zz
 refine thn (hr pos pins s1 σ H1 _ I1 q1) fun us s2 zz=>?_
 obtain ⟨xs,H2,I2,r2,q2⟩:=zz
 exact ⟨x::xs,H2,I2,.cons r1 r2,q2⟩
def Auz(t:TA):TE:=fun σ H Q=>t σ H fun xs H1=>xs.length<=sizeLine/\∀ p,H1 p=none->Q (.ref p) (upd H1 p (.tup xs))
def At3(t:TA):TE:=fun σ H Q=>t σ H fun xs H1=>xs.length<=sizeLine/\∀ p,H1 p=none->Q (.ref p) (upd H1 p (.lst xs))
theorem Afz{x1}(h:PA X es t):PE X (.Tuple es x1 pos) (Auz t):=by
 intro pins s σ H Q I hq
 refine wpAny_Tuple_spliced (thn (h pos pins s σ H _ I hq) fun us s1 zz=>zz.elim fun xs H1 I1 r zq=>⟨by rw[<- r.length];exact zq.1,?_⟩)
 obtain ⟨z,q⟩:=zq
 have hf:H1 s1.heap.objs.size=none:=I1.hok.fresh (aJ _)
 refine ⟨.ref s1.heap.objs.size,upd H1 s1.heap.objs.size (.tup xs),I1.laid (t':=s1.toks) (fun b u e=>aI _ e) (aJ _) ?_,rfl,q _ hf⟩
 exact ⟨z,us,r,⟨_,bI _ rfl,rfl,_,rfl⟩⟩
theorem Ah0(h:PA X es t):PE X (.List es pos) (At3 t):=by
 intro pins s σ H Q I hq
 refine wpAny_List_spliced (thn (h pos pins s σ H _ I hq) fun us s1 zz=>zz.elim fun xs H1 I1 r zq=>⟨by rw[<- r.length];exact zq.1,?_⟩)
 obtain ⟨z,q⟩:=zq
 have hf:H1 s1.heap.objs.size=none:=I1.hok.fresh (aJ _)
 refine ⟨.ref s1.heap.objs.size,upd H1 s1.heap.objs.size (.lst xs),I1.laid (t':=s1.toks) (fun b u e=>aI _ e) (aJ _) ?_,rfl,q _ hf⟩
 exact ⟨z,us,0,r,bI _ rfl⟩
end
abbrev Sp:=List V->Hp->VK->XK->Prop
abbrev CXT:=List Env->Hp->aH->XK->aE->aH->Prop
structure Env0(P:cD)(w:cV)(K:aB)(mg:Str->Option aE)(base:Heap)(A:fA)(outer:List Env)(s:aH)(H:Hp):Prop where
 frames:A.frames=some outer
 mod:Mod K mg base
 bs:∀ b o,base.get? b=some o->s.heap.get? b=some o/\H b=none
 bsz:base.objs.size<=s.heap.objs.size
 funs:s.heap.FunFrames base outer
 frf:∀ b∈frs outer,H b=none
 hok:HOk P w H s.heap
 bare:mV s.gens
 tk:0 < s.toks
inductive CE(outer:List Env)(P:cD)(w:cV)(H:Hp)(s:aH)(Q:VK)(u:aE)(s':aH):Prop
 | mk (v:V) (H':Hp) (os:s'.os=s.os) (bare:mV s'.gens/\0 < s'.toks) (un:Un (frs outer) [] H H' s.heap s'.heap) (hok:HOk P w H' s'.heap) (r:Cm v u) (q:Q v H'):CE outer P w H s Q u s'
def CR(CX:CXT)(outer:List Env)(P:cD)(w:cV)(H:Hp)(s:aH)(Q:VK)(E:XK)(r:Result)(s':aH):Prop:=
 match r with
 | .ok (.ret u)=>CE outer P w H s Q u s'
 | .ok _=>False
 | .error e=>CX outer H s E e s'
structure FnOk(P:cD)(w:cV)(K:aB)(mg:Str->Option aE)(base:Heap)(CX:CXT)(k:Nat)(f:Addr)(fd:dN)(ps:List Str)(sp:Sp):Prop where
 len:∀ vs H Q E,sp vs H Q E->vs.length=ps.length
 run:∀ (A:fA) (outer:List Env) (s:aH) (H:Hp) (args:Args) (us:List aE) (vs:List V) (Q:VK) (E:XK),Room k A->Env0 P w K mg base A outer s H->kT s fd args (ps.zip us)->Vals vs us->sp vs H Q E ->
  nQ (model P w) A (.call (.ref f) args) (CR CX outer P w H s Q E) s
variable {mg:Str->Option aE}{base:Heap}{CX:CXT}{fd:dN}{ps:List Str}{sp:Sp}
theorem FnOk.mono(F:FnOk P w K mg base CX j f fd ps sp)(h:j<=k) :
  FnOk P w K mg base CX k f fd ps sp:=⟨F.len,fun A outer s H args us vs Q E hr=>F.run A outer s H args us vs Q E (hr.mono h)⟩
theorem FnOk.imp{sp':Sp}(F:FnOk P w K mg base CX k f fd ps sp)
  (h:∀ vs H Q E,sp' vs H Q E->sp vs H Q E):FnOk P w K mg base CX k f fd ps sp':=
 ⟨fun vs H Q E q=>F.len vs H Q E (h _ _ _ _ q),fun A outer s H args us vs Q E hr he hb hv hs=>F.run A outer s H args us vs Q E hr he hb hv (h _ _ _ _ hs)⟩
variable {outer:List Env}
theorem Env0.make(e:Env0 P w K mg base A outer s H)(C:Addr)(us:List aE)(kw:List (Str×aE)) :
  Env0 P w K mg base (A.under (.builtin "type.__call__" ⟨.ref C::us,kw⟩)) outer s H:=⟨by first | exact e.frames | (simpa[qG,Code.envs,qH,pushEnvs] using e.frames),e.mod,e.bs,e.bsz,e.funs,e.frf,e.hok,e.bare,e.tk⟩
theorem Env0.in1(e:Env0 P w K mg base A outer s H) :
  Env0 P w K mg base A.in1 outer s H:=⟨e.frames,e.mod,e.bs,e.bsz,e.funs,e.frf,e.hok,e.bare,e.tk⟩
section
theorem Inv.env0(I:Inv X pins σ H s):Env0 X.prog X.w X.K X.mg X.base X.A X.stack s H:=
 ⟨I.ok.frames,I.ok.mod,I.bs,bJ I.ok.bsz I.sz,I.stack,I.stkFree,I.hok,I.bare,I.tk⟩
theorem Inv.after(I:Inv X pins σ H s)(h:CE X.stack X.prog X.w H s Q u s'):EP X pins σ Q u s':=by
 obtain ⟨v,H',os,bare,un,hok,r,q⟩:=h
 obtain ⟨hh,g,d,t,os'⟩:=s'
 obtain rfl:os'=s.os:=os
 exact ⟨v,H',I.call (h':=hh) (g':=g) (d':=d) (t':=t) (ch:=[]) un hok bare.1 (fun b z=>absurd z (by simp)) bare.2,r,q⟩
end
def Al5(sp:Sp)(dvs:List V)(E:XK)(t:TA):TE:=fun σ H Q=>t σ H fun vs H1=>sp (vs++dvs) H1 Q E
def Binds(K:aB)(fd:dN)(ps:List Str)(ds:List aE):Prop:=
 ∀ (s:aH) (us:List aE),K.In s.heap->(us++ds).length=ps.length->kT s fd ⟨us,[]⟩ (ps.zip (us++ds))
theorem Binds.all(h:∀ us:List aE,us.length=ps.length->bindArgs fd ⟨us,[]⟩=pure (ps.zip us)):Binds K fd ps []:=fun s us _ hl=>by
 rw[cR] at hl ⊢
 exact .of_eq (h us hl)
def Vx(CX:CXT)(X:Cx)(E:XK):Prop:=∀ (pins:List (Addr×Obj)) (σ:St) (H:Hp) (s:aH) (e:aE) (s':aH),Inv X pins σ H s->CX X.stack H s E e s'->X.xe e s'
section
variable {dvs:List V}{ds:List aE}{E:XK}{m:Str}{apos:Pos}{o:Expr}
theorem Aig{pins:List (Addr×Obj)}{σ:St}{H:Hp}{s:aH}{Q:VK}{us:List aE}{vs:List V}(F:FnOk X.prog X.w X.K X.mg X.base CX k f fd ps sp)(hr:Room k X.A)(hb:Binds X.K fd ps ds)(hd:Vals dvs ds)(hx:Vx CX X E)
  (I:Inv X pins σ H s) (r:Vals vs us) (h:sp (vs++dvs) H Q E):wpAny (model X.prog X.w) X.A (call (.ref f) us) (EP X pins σ Q) X.xe s:=by
 have r2:Vals (vs++dvs) (us++ds):=r.append hd
 have hl:(us++ds).length=ps.length:=by rw[<- r2.length];exact F.len _ _ _ _ h
 refine kM (lV (F.run X.A X.stack s H ⟨us,[]⟩ (us++ds) (vs++dvs) Q E hr I.env0 (hb s us I.kIn hl) r2 h) fun r s' hq=>?_)
 cases r with
 | error e=>exact hx pins σ H s e s' I hq
 | ok fl=>
  cases fl with
  | ret u=>exact I.after hq
  | next=>exact eL hq
  | brk=>exact eL hq
  | cont=>exact eL hq
theorem Ajb(F:FnOk X.prog X.w X.K X.mg X.base CX k f fd ps sp)(hr:Room k X.A)(hg:Gl X x)(hm:X.mg x=some (.ref f))(hk:cN X.K (.ref f)=true)(hb:Binds X.K fd ps ds)(hd:Vals dvs ds)(hx:Vx CX X E)
  (ha:PA X (e::es) t) (hdb:(x == ("__debug__" : Str))=false:=by decide) (he:aN (e::es) X.env=(false,eval e X.env)::aN es X.env:=by rfl) (hpl:(backTo pos (aN es X.env)).any (·.1)=false:=by rfl) :
  PE X (.Call (.Name x p) (e::es) [] pos) (Al5 sp dvs E t):=by
 intro pins s σ H Q I h
 refine fR (Kr I hg hm ?_ hdb)
 refine mF (h₀:=X.base) I.ok.mod.kin hk (thn (ha pos pins s σ H _ I h) fun us s1 zz=>zz.elim fun vs H1 I1 r q=>⟨I1.kIn,?_⟩) he hpl
 exact Aig F hr hb hd hx I1 r q
theorem Afh(F:FnOk X.prog X.w X.K X.mg X.base CX k f fd ps sp)(hr:Room k X.A)(hg:Gl X x)(hm:X.mg x=some (.ref f))(hk:cN X.K (.ref f)=true)(hb:Binds X.K fd ps ds)(hd:Vals dvs ds)(hx:Vx CX X E)
  (hdb:(x == ("__debug__" : Str))=false:=by decide):PE X (.Call (.Name x p) [] [] pos) (Al5 sp dvs E An8):=by
 intro pins s σ H Q I h
 refine fR (Kr I hg hm ?_ hdb)
 exact PySem.W.callWith_K0 I.kIn hk (Aig (us:=[]) F hr hb hd hx I .nil h)
structure Mk(K:aB)(C f:Addr):Prop where
 makes:PySem.W.makesIn K C=true
 init:bR K (.ref C) "__init__" = some (some (.ref f))
 fn:nP K (.ref f)=true
 kp:cN K (.ref C)=true
end
def PK(X:Cx)(kws:List fK)(t:TA):Prop:=
 ∀ (pos:Pos) (pins:List (Addr×Obj)) (s:aH) (σ:St) (H:Hp) (Q:List V->Hp->Prop),Inv X pins σ H s->t σ H Q->wpAny (model X.prog X.w) X.A (evalAll ((backToKw pos (keywordEach kws X.env)).map (·.2))) (AP X pins σ Q) X.xe s
section
variable {ks:List Str}{E:XK}{m:Str}{apos kpos:Pos}{o:Expr}{kws:List fK}{tk:TA}{nm:Option Str}
structure KBinds(K:aB)(fd:dN)(ps ks:List Str)(g:List aE->List aE->List aE)(gV:List V->List V->List V):Prop where
 to:∀ (s:aH) (us ws:List aE),K.In s.heap->(g us ws).length=ps.length->kT s fd ⟨us,ks.zip ws⟩ (ps.zip (g us ws))
 rel:∀ {vs:List V} {us:List aE} {zs:List V} {ws:List aE},Vals vs us->Vals zs ws->Vals (gV vs zs) (g us ws)
variable {g:List aE->List aE->List aE}{gV:List V->List V->List V}
end
structure FnScope(N P:List Str)(sc:mU):Prop where
 kind:sc.kind = .function
 co:sc.isCoroutine=false
 gen:sc.isGenerator=false
 nd:N.Nodup
 pre:N.take P.length=P
 par:∀ x∈P,sc.names.lookup x=some .local\/sc.names.lookup x=some .cell
 nofree:∀ y∈sc.names,y.2≠.free
variable {kindOf:Str->Option jV}
theorem Uw:∀ {binds:List (Str×aE)} {m:Str->Option aE},(∀ v,(x,v)∉binds)->bindL kindOf binds m x=m x
 | [],_,_=>rfl
 | (n,v)::r,m,h=>by
  unfold bindL
  rw[Uw fun w hw=>h w (aR _ hw)]
  split
  ·have:x≠n:=by rintro rfl;exact h v aW
   simp[this]
  ·rfl
theorem U9:∀ {binds:List (Str×aE)} {m:Str->Option aE},(∀ v,(x,v)∉binds)->bindC kindOf binds m x=m x
 | [],_,_=>rfl
 | (n,v)::r,m,h=>by
  unfold bindC
  rw[U9 fun w hw=>h w (aR _ hw)]
  split
  ·rfl
  ·have:x≠n:=by rintro rfl;exact h v aW
   simp[this]
theorem T6{kindOf:Str->Option jV}{x:Str}{v:aE}:∀ {P:List Str} {vs:List aE} {i:Nat} {m:Str->Option aE},P.Nodup->P[i]? = some x->vs[i]? = some v->kindOf x=some .local ->
  bindL kindOf (P.zip vs) m x=some v
 | [],_,_,_,_,h,_,_=>by simp at h
 | _::_,[],_,_,_,_,h,_=>by simp at h
 | p::P,w::vs,0,m,nd,h1,h2,hk=>by
  simp at h1 h2;subst h1;subst h2
  show bindL kindOf ((p,w)::P.zip vs) m p=_
  unfold bindL
  rw[Uw fun v hv=>(lH.mp nd).1 (iG hv).1,if_pos hk]
  simp
 | p::P,w::vs,i+1,m,nd,h1,h2,hk=>by
  show bindL kindOf ((p,w)::P.zip vs) m x=_
  unfold bindL
  exact T6 (i:=i) (lH.mp nd).2 (by simpa using h1) (by simpa using h2) hk
theorem U7{kindOf:Str->Option jV}{x:Str}{v:aE}:∀ {P:List Str} {vs:List aE} {i:Nat} {m:Str->Option aE},P.Nodup->P[i]? = some x->vs[i]? = some v->kindOf x≠some .local ->
  bindC kindOf (P.zip vs) m x=some v
 | [],_,_,_,_,h,_,_=>by simp at h
 | _::_,[],_,_,_,_,h,_=>by simp at h
 | p::P,w::vs,0,m,nd,h1,h2,hk=>by
  simp at h1 h2;subst h1;subst h2
  show bindC kindOf ((p,w)::P.zip vs) m p=_
  unfold bindC
  rw[U9 fun v hv=>(lH.mp nd).1 (iG hv).1,if_neg hk]
  simp
 | p::P,w::vs,i+1,m,nd,h1,h2,hk=>by
  show bindC kindOf ((p,w)::P.zip vs) m x=_
  unfold bindC
  exact U7 (i:=i) (lH.mp nd).2 (by simpa using h1) (by simpa using h2) hk
def start(N:List Str)(vs:List V):St:=vs.map some++bF (N.length - vs.length) none
def Ti(CX:CXT)(P:cD)(w:cV)(K:aB)(mg:Str->Option aE)(base:Heap)(N:List Str)(qual:Str)(scope:mU)(f:Addr)(cd:aE)(A:fA)(outer:List Env)(s:aH)(H:Hp)(E:XK):Cx where
 prog:=P
 w:=w
 K:=K
 mg:=mg
 base:=base
 A:=A.deeper (envOfC qual scope s.heap.objs.size f cd)
 N:=N
 s₀:=s
 H₀:=H
 env:=envOfC qual scope s.heap.objs.size f cd
 outer:=outer
 stack:=envOfC qual scope s.heap.objs.size f cd::outer
 ex:=[]
 calm:=true
 fn:=fun _=>true
 pn:=[]
 xe:=fun e s'=>wpAny (model P w) (A.deeper (envOfC qual scope s.heap.objs.size f cd)) (leaving (envOfC qual scope s.heap.objs.size f cd) e) (fun _ s''=>CX outer H s E e s'') (fun e' s''=>CX outer H s E e' s'') s'
theorem Wy{sc:mU}{n:Nat}(h:sc.names.lookup x=some .cell):∃ c,(cellsFrom n sc.names []).lookup x=some c:=by
 have q:=jW sc.names n [] (.inl h)
 exact Option.isSome_iff_exists.mp q
theorem Uq{N:List Str}{qual:Str}{scope:mU}{cd:aE}{s1:aH}{E:XK}{vs:List V}
  (S:FnScope N ps scope) (hd:A.handled=none) (e0:Env0 P w K mg base A outer s H) (hl:vs.length=ps.length) (r:Vals vs us) (ht:0 < s1.toks)
  (x:InCallC s s.heap.objs.size (bindL (envOfC qual scope s.heap.objs.size f cd).kindOf (ps.zip us) fun _=>none) (cellsFrom (s.heap.objs.size+1) scope.names []) (bindC (envOfC qual scope s.heap.objs.size f cd).kindOf (ps.zip us) fun _=>none) s1) :
  Inv (Ti CX P w K mg base N qual scope f cd A outer s H E) [] (start N vs) H s1:=by
 have hpl:ps.length<=N.length:=by have:=congrArg mY S.pre;rw[gS] at this;omega
 obtain ⟨h1,tk,rfl,hk⟩:=x.done
 have noA:∀ b:Addr,b∉(Ti CX P w K mg base N qual scope f cd A outer s H E).ex:=fun b z=>absurd (show b∈([]:List Addr) from z) (by simp)
 refine ⟨⟨e0.mod,S.kind,rfl,rfl,aJ _,fun y z c h1 h2=>?_,fun y hy=>?_,fun y c _ h=>?_,fun _=>hd,oI e0.frames,.inr ⟨rfl,rfl⟩,fun b z=>absurd z (noA b),e0.bs,e0.bsz,fun b _ _=>noA b,fun b z=>absurd z (noA b),e0.funs,e0.frf⟩,
  rfl,e0.bare,Un.kept hk,⟨_,x.toInCall.ns,fun i y v h1 h2 h3=>?_⟩,fun y c h=>⟨_,x.cell y c h⟩,e0.hok.fresh (aJ _),fun y c h=>?_,fun p hp=>absurd (show p∈([]:List (Addr×Obj)) from hp) (by simp),e0.hok.kept hk,?_,ht⟩
 ·exact name_of_addr x.apart (gL h1) (gL h2)
 ·have hy:scope.names.lookup y=some .cell\/scope.names.lookup y=some .free:=hy
  rcases hy with hy | hy
  ·exact Wy hy
  ·exact absurd rfl (S.nofree _ (gL hy))
 ·exact hG (x.above y c (gL h))
 ·have hi:i < vs.length:=by
   unfold start at h2
   by_cases hi:i < vs.length
   ·exact hi
   ·rw[bD (by simpa using hi)] at h2
    rw[List.getElem?_replicate] at h2
    split at h2 <;> cases h2
  have ha:vs[i]? = some v:=by
   unfold start at h2
   rw[aK (by simpa using hi),bO] at h2
   cases e:vs[i]? with
   | none=>rw[e] at h2;cases h2
   | some a=>rw[e] at h2;cases h2;rfl
  obtain ⟨u,hu,rv⟩:=r.get ha
  have hp:ps[i]? = some y:=by
   rw[<- S.pre,List.getElem?_take_of_lt (by omega)];exact h1
  have ndP:ps.Nodup:=by rw[<- S.pre];exact S.nd.sublist (List.take_sublist _ _)
  refine ⟨u,rv,?_⟩
  rcases S.par y (dP hp) with k | k
  ·exact .inl ⟨k,T6 ndP hp hu k⟩
  ·obtain ⟨c,e⟩:=Wy (n:=s.heap.objs.size+1) k
   refine .inr ⟨.inl k,c,e,?_⟩
   have q:=x.cell y c e
   rw[U7 ndP hp hu (by show scope.names.lookup y≠_;rw[k];decide)] at q
   exact q
 ·exact e0.hok.fresh (hG (x.above y c (gL h)))
 ·unfold start
  show _=N.length
  rw[aY,aM,List.length_replicate]
  omega
theorem Ap7{name qual:Str}{params:Arguments}{body:List Stmt}{scope:mU}{dV kV doc pm cdv ct oc:aE}{an od:Option Addr}
  {osl:Array (Option aE)} {N ps:List Str} {sp:Sp} (lk:K.lookup f=some ⟨oc,od,.func (fH name qual params body scope dV kV doc pm an cdv ct),osl⟩) (hcd:jX K cdv qual=true) (S:FnScope N ps scope)
  (len:∀ vs H Q E,sp vs H Q E->vs.length=ps.length)
  (hbody:∀ (A:fA) (outer:List Env) (s:aH) (H:Hp) (vs:List V) (Q:VK) (E:XK),Room k (A.deeper (envOfC qual scope s.heap.objs.size f cdv))->sp vs H Q E ->
   ∃ t,PSs (Ti CX P w K mg base N qual scope f cdv A outer s H E) body t/\t { nx:=fun _ H'=>Q .non H',rt:=Q } (start N vs) H) :
  FnOk P w K mg base CX (k+1) f (fH name qual params body scope dV kV doc pm an cdv ct) ps sp:=by
 refine ⟨len,fun A outer s H args us vs Q E hr e0 hb r hsp=>?_⟩
 have hl:=len _ _ _ _ hsp
 have KX:K.In s.heap:=e0.mod.kin.keeps fun b o e=>(e0.bs b o e).1
 have lim:s.heap.NoLimit:=e0.mod.nolimit.keeps fun b o e=>(e0.bs b o e).1
 have hkind:∀ y∈ps.zip us,scope.names.lookup y.1=some .local\/(scope.names.lookup y.1=some .cell/\((cellsFrom (s.heap.objs.size+1) scope.names []).lookup y.1).isSome=true):=fun ⟨n,v⟩ hy=>by
  rcases S.par n (iG hy).1 with q | q
  ·exact .inl q
  ·exact .inr ⟨q,jW _ _ _ (.inl q)⟩
 refine oB hr.depth (KX _ _ lk) rfl S.co S.gen rfl (pT KX hcd) (hb _ _ _ _ ?_)
 refine wtk e0.tk (mG S.kind hkind fun env he s1 x ht=>?_)
 subst he
 refine ⟨lim.keeps x.toInCall.keep,codeAny_func ?_⟩
 obtain ⟨t,hb2,hq⟩:=hbody A outer s H vs Q E (hr.deeper _) hsp
 have I:Inv (Ti CX P w K mg base N qual scope f cdv A outer s H E) [] (start N vs) H s1:=Uq S hr.hd e0 hl r ht x
 refine cA (hb2 [] s1 (start N vs) H _ I hq) (fun fl s' hs=>?_) fun e s' hs=>hs
 have fin:∀ {σ':St} {H':Hp} {v:V} {u:aE},Inv (Ti CX P w K mg base N qual scope f cdv A outer s H E) [] σ' H' s'->Cm v u->Q v H'->CE outer P w H s Q u s':=
  fun {σ' H' v u} J rv q=>⟨v,H',J.os,⟨J.bare,J.tk⟩,J.base,J.hok,rv,q⟩
 cases fl with
 | ret u=>
  obtain ⟨v,σ',H',J,rv,q⟩:=hs
  exact fin J rv q
 | next=>
  obtain ⟨σ',H',J,q⟩:=hs
  exact fin (v:=V.non) (u:=dO) J rfl q
 | brk=>
  obtain ⟨_,_,_,q⟩:=hs
  exact eL q
 | cont=>
  obtain ⟨_,_,_,q⟩:=hs
  exact eL q
section
variable {id T:String}{r:List V->Hp->VK->Prop}
def tCB(r:List V->Hp->VK->Prop)(t:TA):TE:=fun σ H Q=>t σ H fun vs H1=>r vs H1 Q
theorem Lp(hc:CallR X (.builtin id) r)(hg:Gl X x)(hm:X.mg x=none)(hv:fG x=some (.builtin id))(ha:PA X (e::es) t)(hn:x ≠ "__name__" := by decide)(hdb:(x == ("__debug__" : Str))=false:=by decide)
  (he:aN (e::es) X.env=(false,eval e X.env)::aN es X.env:=by rfl) (hpl:(backTo pos (aN es X.env)).any (·.1)=false:=by rfl):PE X (.Call (.Name x p) (e::es) [] pos) (tCB r t):=by
 intro pins s σ H Q I h
 refine fR (Nv I hg hm hv ?_ hn hdb)
 exact PyProof.Rows.callWith_builtin1 (thn (ha pos pins s σ H _ I h) fun us s1 zz=>by obtain ⟨vs,H1,I1,r1,q1⟩:=zz;exact hc pins s1 σ H1 vs us Q I1 r1 q1) he hpl
theorem Aeo(hc:CallR X (.type T) r)(hg:Gl X x)(hm:X.mg x=none)(hv:fG x=some (.type T))(ha:PA X (e::es) t)(hn:x ≠ "__name__" := by decide)(hdb:(x == ("__debug__" : Str))=false:=by decide)
  (he:aN (e::es) X.env=(false,eval e X.env)::aN es X.env:=by rfl) (hpl:(backTo pos (aN es X.env)).any (·.1)=false:=by rfl):PE X (.Call (.Name x p) (e::es) [] pos) (tCB r t):=by
 intro pins s σ H Q I h
 refine fR (Nv I hg hm hv ?_ hn hdb)
 exact eR (thn (ha pos pins s σ H _ I h) fun us s1 zz=>by obtain ⟨vs,H1,I1,r1,q1⟩:=zz;exact hc pins s1 σ H1 vs us Q I1 r1 q1) he hpl
end
end L2
namespace HT
open PySem PyProof.Rows
section
open PySem.SeqAt
open PySem.AutoSeq1 (wpAny_loadPart')
open PySem.MeetsSeq PySem.MeetsSeq2 PySem.MeetsSeq3
end
section
variable {prog:cD}{w:cV}{A:fA}{E:aE->aH->Prop}{s:aH}
theorem Aj7{t b:Addr}{vs ws:List aE}{Q:aE->aH->Prop}(ht:IsTup s.heap t vs.toArray)(hb:IsTup s.heap b ws.toArray)(hv:vs≠[])
  (h1:ws=[]->Q (.ref t) s) (h2:ws≠[]->Q (.ref s.heap.objs.size) { s with heap:=s.heap.push { cls:=.type "tuple",data:=.seq (vs++ws).toArray } })
  (hsz:vs.length+ws.length<=sizeLine):wpAny (model prog w) A (fM .Add (.ref t) (.ref b)) Q E s:=by
 obtain ⟨⟨cls,dd,data,sl⟩,ho,hc,n,hd⟩:=id ht
 obtain ⟨⟨cls2,dd2,data2,sl2⟩,ho2,hc2,n2,hd2⟩:=id hb
 simp only at hc hd hc2 hd2
 subst hc hd hc2 hd2
 have e:vs.toArray++ws.toArray=(vs++ws).toArray:=by simp
 by_cases hw:ws=[]
 ·exact concat_meets ⟨_,ho,rfl⟩ ⟨_,ho2,rfl⟩ qS seq_tuple_add nR nK (nE _ _)
   (tuple_addW1 t b vs.toArray ws.toArray n n2 dd dd2 sl sl2 (by simpa using hv) (by simp[hw])) ⟨ho,ho2,h1 hw⟩
 ·refine concat_meets ⟨_,ho,rfl⟩ ⟨_,ho2,rfl⟩ qS seq_tuple_add nR nK (nE _ _)
   (tuple_addW2 t b vs.toArray ws.toArray n n2 dd dd2 sl sl2 (by simpa using hv) (by simpa using hw) (by rw[aT,aT];exact hsz)) ⟨ho,ho2,?_⟩
  rw[e]
  exact h2 hw
def sIx(n d:Nat):Option Int->Nat
 | none=>d
 | some v=>if v < 0 then (v+(n:Int)).toNat else min v.toNat n
theorem Af9(n d:Nat):sIx n d none=d:=rfl
theorem Ajt(n d k:Nat):sIx n d (some (k:Int))=min k n:=by
 show (if (k:Int) < 0 then ((k:Int)+(n:Int)).toNat else min (k:Int).toNat n)=min k n
 rw[if_neg (by omega),cF]
theorem Aoh(n d:Nat)(hd:d<=n)(o:Option Int):sIx n d o<=n:=by
 cases o with
 | none=>exact hd
 | some v=>
  show (if v < 0 then (v+(n:Int)).toNat else min v.toNat n)<=n
  by_cases hv:v < 0
  ·rw[if_pos hv];omega
  ·rw[if_neg hv];exact nL _ _
theorem Abm(v:Int)(n d:Nat):(if v < 0 then max (v+(n:Int)) 0 else min v (n:Int))=((sIx n d (some v):Nat):Int):=by
 show (if v < 0 then max (v+(n:Int)) 0 else min v (n:Int))=(((if v < 0 then (v+(n:Int)).toNat else min v.toNat n):Nat):Int)
 by_cases hv:v < 0
 ·simp only[if_pos hv];omega
 ·simp only[if_neg hv];omega
theorem Y5(lo hi:Option Int)(n:Nat):iY lo hi 1 (n:Int)=(((sIx n 0 lo:Nat):Int),((sIx n n hi:Nat):Int)):=by
 have h1:¬ ((1:Int) < 0):=by omega
 unfold iY
 simp only[h1,if_false]
 refine sT ?_ ?_
 ·cases lo with
  | none=>rfl
  | some v=>exact Abm v n 0
 ·cases hi with
  | none=>rfl
  | some v=>exact Abm v n n
theorem Aam(i j:Nat):fV (i:Int) (j:Int) 1=j - i:=by
 unfold fV
 have h1:(1:Int) > 0:=by omega
 simp only[h1,if_true,Int.ediv_one]
 split <;> omega
theorem Sv{v:aE}{o:Option Int}{Q:Option Int->aH->Prop}(p:pU v o)(h:Q o s):wpAny (model prog w) A (nA.Slice.slicePartIndex v) Q E s:=by
 cases p with
 | none=>exact slicePart_none h
 | int i t=>exact slicePart_int h
theorem Px{sl:Addr}{vl vu:aE}{lo hi:Option Int}{n:Nat}{Q:Int×Int×Nat->aH->Prop}(hs:s.heap.IsSliceOf sl vl vu .none)(pl:pU vl lo)(pu:pU vu hi)
  (h:Q (((sIx n 0 lo:Nat):Int),1,sIx n n hi - sIx n 0 lo) s):wpAny (model prog w) A (mH (.ref sl) (pure (n:Int))) Q E s:=by
 obtain ⟨os,hos,hcs,hds⟩:=id hs
 unfold mH nA.Slice.sliceFields
 refine aF (aF (dQ hos hds (x:=vl) rfl (aF (dQ hos hds (x:=vu) rfl (aF (dQ hos hds (x:=.none) rfl (aX ?_)))))))
 refine aF (slicePart_none ?_)
 show wpAny _ _ (if ((1:Int) == 0)=true then _ else _) _ _ s
 rw[if_neg (by decide)]
 refine aF (Sv pl (aF (Sv pu (aF (aX ?_)))))
 show wpAny _ _ (match iY lo hi 1 (n:Int) with | (lo,hi)=>pure (lo,(1:Int),fV lo hi 1)) _ _ s
 rw[Y5 lo hi n]
 show wpAny _ _ (pure (((sIx n 0 lo:Nat):Int),(1:Int),fV ((sIx n 0 lo:Nat):Int) ((sIx n n hi:Nat):Int) 1)) _ _ s
 rw[Aam]
 exact aX h
theorem Ag4(xs:Array aE)(i k:Nat):((dX k).filterMap fun (m:Nat)=>xs[((i:Int)+(m:Int) * 1).toNat]?).toArray=((xs.toList.drop i).take k).toArray:=by
 have e:(fun (m:Nat)=>xs[((i:Int)+(m:Int) * 1).toNat]?)=fun m=>xs[i+m]?:=by
  funext m
  have:((i:Int)+(m:Int) * 1).toNat=i+m:=by omega
  rw[this]
 rw[e]
 have:=pick_run xs i k
 rw[List.filterMap_map] at this
 have e2:((fun x=>xs[x]?)∘fun x=>i+x)=fun m=>xs[i+m]?:=rfl
 rw[e2] at this
 rw[this]
theorem Oe{t sl:Addr}{items:Array aE}{vl vu:aE}{lo hi:Option Int}{Q:aE->aH->Prop}(ht:IsTup s.heap t items)(hs:s.heap.IsSliceOf sl vl vu .none)(pl:pU vl lo)(pu:pU vu hi)
  (hw:¬ (sIx items.size 0 lo=0/\sIx items.size items.size hi=items.size))
  (h:Q (.ref s.heap.objs.size) { s with heap:=s.heap.push { cls:=.type "tuple",data:=.seq ((items.toList.drop (sIx items.size 0 lo)).take (sIx items.size items.size hi - sIx items.size 0 lo)).toArray } })
  (hsz:items.size<=sizeLine):wpAny (model prog w) A (getItem (.ref t) (.ref sl)) Q E s:=by
 have htake:sizeOk (.seq ((items.toList.drop (sIx items.size 0 lo)).take (sIx items.size items.size hi - sIx items.size 0 lo)).toArray):=by
  show ((items.toList.drop (sIx items.size 0 lo)).take (sIx items.size items.size hi - sIx items.size 0 lo)).toArray.size<=sizeLine
  rw[aT,gS,iV,eW]
  omega
 have hj:sIx items.size items.size hi<=items.size:=Aoh _ _ (aJ _) hi
 obtain ⟨os,hos,hcs,hds⟩:=id hs
 have hTs:s.TypeIs (.ref sl) "slice" := ⟨os,hos,hcs⟩
 unfold getItem
 try with_reducible refine gH ?_
 first | refine aF (aX ?_) | skip
 refine aF (wpAny_sequenceKey ht.typeIs (by decide) ?_)
 refine aF (gT (name:=iW "__getitem__") ht.typeIs kF
  (iX kF ht.typeIs entry_tuple_getitem ?_ (args_tuple_getitem _ _)))
 show wpAny _ _ (nA.Tuple.tupleItemsOf (.ref t) >>= _) _ _ s
 refine aF (tupleItemsOf_ ht ?_)
 refine aF (wpAny_typeOf hTs ?_)
 rw[if_pos (by decide)]
 refine aF (Px hs pl pu ?_)
 have hno:¬ ((((sIx items.size 0 lo:Nat):Int) == 0&&(1:Int) == 1&&(sIx items.size items.size hi - sIx items.size 0 lo) == items.size)=true):=by
  intro q
  rw[bG,bG] at q
  have q1:((sIx items.size 0 lo:Nat):Int)=0:=eq_of_beq q.1.1
  have q2:sIx items.size items.size hi - sIx items.size 0 lo=items.size:=eq_of_beq q.2
  exact hw ⟨by omega,by omega⟩
 show wpAny _ _ (if (((sIx items.size 0 lo:Nat):Int) == 0&&(1:Int) == 1&&(sIx items.size items.size hi - sIx items.size 0 lo) == items.size)=true then _ else _) _ _ s
 rw[if_neg hno,Ag4]
 first
  | exact aF (m:=gI _) (dY (aX ⟨_,rfl,aX h⟩) htake)
  | exact aF (m:=gI _) (dY (aF (aX (aX ⟨_,rfl,aX h⟩))) htake)
  | exact aF (aF (m:=gI _) (dY (aX (aX ⟨_,rfl,aX h⟩)) htake))
  | exact aF (aF (m:=gI _) (dY (aX ⟨_,rfl,aX h⟩) htake))
end
end HT
namespace L2
open PySem PySem.Spec PyProof.Rows
abbrev TO:=St->Hp->(Option Int->Hp->Prop)->Prop
def PO(X:Cx)(e:Option Expr)(t:TO):Prop:=
 ∀ (pins:List (Addr×Obj)) (s:aH) (σ:St) (H:Hp) (Q:Option Int->Hp->Prop),Inv X pins σ H s->t σ H Q ->
  wpAny (model X.prog X.w) X.A (evalPart e X.env) (fun u s'=>∃ o H',Inv X pins σ H' s'/\pU u o/\Q o H') X.xe s
def Aks:TO:=fun _ H Q=>Q none H
def Aq5(t:TE):TO:=fun σ H Q=>t σ H fun x H1=>∃ i,x = .int i/\Q (some i) H1
theorem Nw{ns:List Int}:∀ {us:List aE},Vals (ns.map V.int) us->nS us ns:=by
 induction ns with
 | nil=>intro us r;rw[eU] at r;cases r;exact .nil
 | cons n ns ih=>
  intro us r
  rw[aS] at r
  cases r with
  | cons r1 r2=>
   obtain ⟨t,e⟩:=r1
   subst e
   exact .cons n t (ih r2)
variable {X:Cx}{xs:List V}{us:List aE}
section
variable {e:Expr}{te:TE}{lo hi:Option Expr}{tl th:TO}{pos p2:Pos}
theorem Ajn:PO X none Aks:=by
 intro pins s σ H Q I h
 rw[evalPart_none]
 exact aX ⟨none,H,I,.none,h⟩
theorem Aj6(h:PE X e te):PO X (some e) (Aq5 te):=by
 intro pins s σ H Q I hw
 rw[evalPart_some]
 refine thn (h pins s σ H _ I hw) fun u s1 zz=>?_
 obtain ⟨x,H1,I1,r1,q1⟩:=zz
 obtain ⟨i,rfl,q⟩:=q1
 obtain ⟨t,rfl⟩:=r1
 exact ⟨some i,H1,I1,.int i t,q⟩
def SlR(X:Cx)(r:V->Option Int->Option Int->Hp->VK->Prop):Prop:=
 ∀ (pins:List (Addr×Obj)) (s:aH) (σ:St) (H:Hp) (x:V) (v vl vu:aE) (lo hi:Option Int) (sl:Addr) (Q:VK),Inv X pins σ H s->Cm x v->s.heap.IsSliceOf sl vl vu .none->pU vl lo->pU vu hi->r x lo hi H Q ->
  ∃ T id,typeLookup (.type T) "__getitem__" = pure (some (.builtin id))/\s.TypeIs v T/\wpAny (model X.prog X.w) X.A (getItem v (.ref sl)) (EP X pins σ Q) X.xe s
theorem SlR.or{r r':V->Option Int->Option Int->Hp->VK->Prop}(h:SlR X r)(h':SlR X r'):SlR X (fun x lo hi H Q=>r x lo hi H Q\/r' x lo hi H Q):=by
 intro pins s σ H x v vl vu lo hi sl Q I rx hs pl pu q
 rcases q with q | q
 ·exact h pins s σ H x v vl vu lo hi sl Q I rx hs pl pu q
 ·exact h' pins s σ H x v vl vu lo hi sl Q I rx hs pl pu q
def tSl(r:V->Option Int->Option Int->Hp->VK->Prop)(te:TE)(tl th:TO):TE:=fun σ H Q=>te σ H fun x H1=>tl σ H1 fun l H2=>th σ H2 fun u H3=>r x l u H3 Q
theorem Agx{r:V->Option Int->Option Int->Hp->VK->Prop}(hr:SlR X r)(he:PE X e te)(hl:PO X lo tl)(hu:PO X hi th):PE X (.Subscript e (.Slice lo hi none p2) pos) (tSl r te tl th):=by
 intro pins s σ H Q I h
 refine Subscript_ (thn (he pins s σ H _ I h) fun v s1 zz=>?_)
 obtain ⟨x,H1,I1,r1,q1⟩:=zz
 refine wpAny_Slice (thn (hl pins s1 σ H1 _ I1 q1) fun vl s2 ⟨l,H2,I2,pl,q2⟩=>thn (hu pins s2 σ H2 _ I2 q2) fun vu s3 zz=>?_)
 obtain ⟨u,H3,I3,pu,q3⟩:=zz
 rw[evalPart_none]
 refine aX ?_
 have I4:Inv X pins σ H3 { s3 with heap:=s3.heap.push { cls:=.type "slice",data:=.fields #[vl,vu,.none] } }:=I3.kept (t':=s3.toks) fun b ob q=>aI _ q
 obtain ⟨T,id,hT,ht,hg⟩:=hr pins { s3 with heap:=s3.heap.push { cls:=.type "slice",data:=.fields #[vl,vu,.none] } } σ H3 x v vl vu l u s3.heap.objs.size Q I4 r1 (Heap.IsSliceOf.new ..) pl pu q3
 show wpAny (model X.prog X.w) X.A (subscriptTail e (.Slice lo hi none p2) v (.ref s3.heap.objs.size)) (EP X pins σ Q) X.xe { s3 with heap:=s3.heap.push { cls:=.type "slice",data:=.fields #[vl,vu,.none] } }
 exact tail_any (ops:=[.ref s3.heap.objs.size,v]) ht hT hg (by with_unfolding_all rfl)
def Wz(xs:List V)(lo hi:Option Int):List V:=(xs.drop (HT.sIx xs.length 0 lo)).take (HT.sIx xs.length xs.length hi - HT.sIx xs.length 0 lo)
theorem Qd(xs:List V)(lo hi:Option Int):(Wz xs lo hi).length<=xs.length:=by
 unfold Wz
 rw[gS,iV]
 omega
def Ass(K:aB):V->Option Int->Option Int->Hp->VK->Prop:=fun x lo hi H Q=>∃ a xs,x = .ref a/\SqT K H a xs /\
 ¬ (HT.sIx xs.length 0 lo=0/\HT.sIx xs.length xs.length hi=xs.length)/\∀ p,H p=none->Q (.ref p) (upd H p (.tup (Wz xs lo hi)))
theorem Aoc:SlR X (Ass X.K):=by
 intro pins s σ H x v vl vu lo hi sl Q I rx hs pl pu h
 obtain ⟨a,xs,rfl,hx,hw,q⟩:=h
 cases rx
 obtain ⟨its,r,ht,hz⟩:=I.tuple hx
 have hlen:its.toArray.size=xs.length:=by rw[aT];exact r.length.symm
 refine ⟨"tuple",_,kF.lookup,ht.typeIs,?_⟩
 refine HT.Oe ht hs pl pu (by rw[hlen];exact hw) ?_ (by rw[hlen];exact hz)
 rw[hlen]
 refine ⟨.ref s.heap.objs.size,_,I.laid (t':=s.toks) (o:=.tup (Wz xs lo hi)) (fun b ob q=>aI _ q) (aJ _) ?_,rfl,q _ (I.hok.fresh (aJ _))⟩
 exact ⟨bJ (Qd xs lo hi) hz,_,(r.drop (HT.sIx xs.length 0 lo)).take (HT.sIx xs.length xs.length hi - HT.sIx xs.length 0 lo),TupN.new _ _⟩
def Al7(K:aB):R2:=fun x y H Q=>∃ a b xs ys,x = .ref a/\y = .ref b/\SqT K H a xs/\SqT K H b ys/\xs≠[]/\xs.length+ys.length<=sizeLine /\
 (ys=[]->Q (.ref a) H)/\(ys≠[]->∀ p,H p=none->Q (.ref p) (upd H p (.tup (xs++ys))))
theorem Vals.nil_iff(r:Vals xs us):us=[]↔xs=[]:=by
 cases r with
 | nil=>simp
 | cons _ _=>simp
theorem Ajh:OpR X (fM .Add) (Al7 X.K):=by
 intro pins s σ H x y v u Q I rx ry h
 obtain ⟨a,b,xs,ys,rfl,rfl,ha,hb,hx,hz,q1,q2⟩:=h
 cases rx
 cases ry
 obtain ⟨its,r1,p1,_⟩:=I.tuple ha
 obtain ⟨its2,r2,p2,_⟩:=I.tuple hb
 refine HT.Aj7 p1 p2 (fun z=>hx (r1.nil_iff.mp z)) (fun z=>⟨.ref a,H,I,rfl,q1 (r2.nil_iff.mp z)⟩) (fun z=>?_) (by rw[<- r1.length,<- r2.length];exact hz)
 refine ⟨.ref s.heap.objs.size,_,I.laid (t':=s.toks) (o:=.tup (xs++ys)) (fun b ob q=>aI _ q) (aJ _) ?_,rfl,q2 (fun w=>z (r2.nil_iff.mpr w)) _ (I.hok.fresh (aJ _))⟩
 exact ⟨by rw[aY];exact hz,_,r1.append r2,TupN.new _ _⟩
end
def ixN(n:Nat)(i:Int):Option Nat:=if 0<=i then (if i < n then some i.toNat else none) else if -(n:Int)<=i then some (i+n).toNat else none
def atI{α:Type}(xs:List α)(i:Int):Option α:=(ixN xs.length i).bind fun j=>xs[j]?
variable {n:Nat}
theorem Ab1{i:Int}{j:Nat}(h:ixN n i=some j):seqIndex? i n=some j/\j < n/\-(n:Int)<=i/\i < n:=by
 unfold ixN at h
 by_cases h0:0<=i
 ·rw[if_pos h0] at h
  by_cases h1:i < n
  ·rw[if_pos h1] at h
   have e:i.toNat=j:=bL h
   exact ⟨by rw[rE h0 h1,e],by omega,by omega,h1⟩
  ·rw[if_neg h1] at h;cases h
 ·rw[if_neg h0] at h
  by_cases h1:-(n:Int)<=i
  ·rw[if_pos h1] at h
   have e:(i+n).toNat=j:=bL h
   exact ⟨by rw[qJ (by omega) h1,e],by omega,h1,by omega⟩
  ·rw[if_neg h1] at h;cases h
theorem Qu{α:Type}{xs:List α}{i:Int}{v:α}(h:atI xs i=some v):∃ j,seqIndex? i xs.length=some j/\xs[j]? = some v/\j < xs.length/\-(xs.length:Int)<=i/\i < xs.length:=by
 unfold atI at h
 cases e:ixN xs.length i with
 | none=>rw[e] at h;cases h
 | some j=>
  rw[e] at h
  obtain ⟨h1,h2,h3,h4⟩:=Ab1 e
  exact ⟨j,h1,h,h2,h3,h4⟩
def Acj(b:Expr):Prop:=∀ o i,subscripted b false o i=operate [o,i] (getItem o i)
def IxR(X:Cx)(r:R2):Prop:=
 ∀ (value slice:Expr) (pins:List (Addr×Obj)) (s:aH) (σ:St) (H:Hp) (x y:V) (v u:aE) (Q:VK),Inv X pins σ H s->Cm x v->Cm y u->r x y H Q ->
  subscripted slice false v u=operate [v,u] (getItem v u)->wpAny (model X.prog X.w) X.A (subscriptTail value slice v u) (EP X pins σ Q) X.xe s
def MtR(X:Cx)(id:String)(r:V->List V->Hp->VK->Prop):Prop:=
 ∀ (pins:List (Addr×Obj)) (s:aH) (σ:St) (H:Hp) (x:V) (xs:List V) (v:aE) (us:List aE) (Q:VK),Inv X pins σ H s->Cm x v->Vals xs us->r x xs H Q ->
  wpAny (model X.prog X.w) X.A (call (.builtin id) (v::us)) (EP X pins σ Q) X.xe s
variable {v:aE}{pins:List (Addr×Obj)}{σ:St}{H:Hp}{s:aH}{its:List aE}{A:fA}{y x:V}
section
variable {a b:Expr}{ta tb:TE}{pos:Pos}
theorem IxR.or{r r':R2}(h:IxR X r)(h':IxR X r'):IxR X (fun x y H Q=>r x y H Q\/r' x y H Q):=by
 intro value slice pins s σ H x y v u Q I rx ry q hs
 rcases q with q | q
 ·exact h value slice pins s σ H x y v u Q I rx ry q hs
 ·exact h' value slice pins s σ H x y v u Q I rx ry q hs
theorem MtR.or{id:String}{r r':V->List V->Hp->VK->Prop}(h:MtR X id r)(h':MtR X id r'):MtR X id (fun x xs H Q=>r x xs H Q\/r' x xs H Q):=by
 intro pins s σ H x xs v us Q I rx rs q
 rcases q with q | q
 ·exact h pins s σ H x xs v us Q I rx rs q
 ·exact h' pins s σ H x xs v us Q I rx rs q
theorem Arp{r:R2}(hr:IxR X r)(ha:PE X a ta)(hb:PE X b tb)(hs:Acj b):PE X (.Subscript a b pos) (tOp r ta tb):=by
 intro pins s σ H Q I h
 exact Subscript_ (Apf ha hb I h fun v u s2 x y H2 I2 rx ry q=>hr a b pins s2 σ H2 x y v u Q I2 rx ry q (hs _ _))
def Asi(K:aB):R2:=fun x y H Q=>∃ p xs i v,x = .ref p/\y = .int i/\SqL K H p xs/\atI xs i=some v/\Q v H
def Ap8(K:aB):R2:=fun x y H Q=>∃ p xs i v,x = .ref p/\y = .int i/\SqT K H p xs/\atI xs i=some v/\Q v H
def Aqc:R2:=fun x y H Q=>∃ z i c,x = .str z/\y = .int i/\z.length<=sizeLine/\atI z.cps.toList i=some c/\Q (.str ⟨#[c]⟩) H
theorem Ajp:IxR X (Asi X.K):=by
 intro value slice pins s σ H x y v u Q I rx ry h hs
 obtain ⟨p,xs,i,z,rfl,rfl,hq,he,q⟩:=h
 cases rx
 obtain ⟨t,rfl⟩:=ry
 obtain ⟨its,r,pl,hz⟩:=I.list hq
 obtain ⟨j,h1,h2,h3,h4,h5⟩:=Qu he
 obtain ⟨w,ew,rw'⟩:=r.get h2
 have hl:=r.length
 have hn:=Nb
 have fin:EP X pins σ Q w s:=⟨z,H,I,rw',q⟩
 by_cases h0:0<=i
 ·have hj:i.toNat=j:=by
   rw[rE h0 h5] at h1
   exact bL h1
  exact item_listR pl.isList h0 (by omega) (by rw[hj];simpa using ew) fin hs
 ·have hj:(i+(its.toArray.size:Int)).toNat=j:=by
   rw[qJ (by omega) h4] at h1
   rw[aT,<- hl]
   exact bL h1
  exact nT (x:=w) pl.isList.typeIs qK.lookup
   (wpAny_getItem_list_neg (Q:=fun r s'=>r=w/\EP X pins σ Q r s') pl.isList (by omega) (by rw[aT] <;> omega) (by omega) (by rw[hj];simpa using ew) ⟨rfl,fin⟩) hs
theorem Ao0:IxR X (Ap8 X.K):=by
 intro value slice pins s σ H x y v u Q I rx ry h hs
 obtain ⟨p,xs,i,z,rfl,rfl,hq,he,q⟩:=h
 cases rx
 obtain ⟨t,rfl⟩:=ry
 obtain ⟨its,r,pl,hz⟩:=I.tuple hq
 obtain ⟨j,h1,h2,h3,h4,h5⟩:=Qu he
 obtain ⟨w,ew,rw'⟩:=r.get h2
 have hl:=r.length
 have hn:=Nb
 have fin:EP X pins σ Q w s:=⟨z,H,I,rw',q⟩
 exact nT (x:=w) pl.typeIs slot_tuple_getitem.lookup
  (getItem_tuple (j:=j) (Q:=fun r s'=>r=w/\EP X pins σ Q r s') pl (by omega) (by omega) (by rw[aT,<- hl];exact h1) (by simpa using ew) ⟨rfl,fin⟩) hs
theorem ix_str:IxR X Aqc:=by
 intro value slice pins s σ H x y v u Q I rx ry h hs
 obtain ⟨z,i,c,rfl,rfl,hz,he,q⟩:=h
 obtain ⟨t,rfl⟩:=rx
 obtain ⟨t',rfl⟩:=ry
 obtain ⟨j,h1,h2,h3,h4,h5⟩:=Qu he
 have hl:z.cps.toList.length=z.length:=by simp[eN]
 rw[hl] at h1 h4 h5
 have hn:=Nb
 exact tail_any (iQ s z t) qT.lookup (getItem_str (c:=c) (by
  have e1:decide (i < -(2 ^ 63:Int))=false:=decide_eq_false (by omega)
  have e2:decide (i ≥ 2 ^ 63)=false:=decide_eq_false (by omega)
  rw[e1,e2,sC]) (by rw[h1];simpa using h2) ⟨.str ⟨#[c]⟩,H,I.tok _,⟨_,rfl⟩,q⟩) hs
def rIx(K:aB):R2:=fun x y H Q=>Asi K x y H Q\/Ap8 K x y H Q\/Aqc x y H Q
theorem Av:IxR X (rIx X.K):=Ajp.or (Ao0.or ix_str)
theorem Y2(its:List aE)(n j:Nat)(u:aE):iA (·.setIfInBounds j u) { cls:=.type "list",data:=.seq its.toArray n } = { cls:=.type "list",data:=.seq (its.set j u).toArray n }:=by
 simp[iA]
theorem Inv.lst{p:Addr}(I:Inv X pins σ H s)(h:H p=some (.lst xs)) :
  ∃ (its:List aE) (n:Nat),Vals xs its/\s.heap.get? p=some { cls:=.type "list",data:=.seq its.toArray n }/\xs.length<=sizeLine:=by
 obtain ⟨z,its,n,r,e⟩:=I.hok p _ h
 exact ⟨its,n,r,e,z⟩
theorem Inv.lstUpd{p:Addr}{ys:List V}{its':List aE}{n':Nat}{f:Obj->Obj}(I:Inv X pins σ H s)(h:H p=some (.lst xs))
  (ho:s.heap.get? p=some { cls:=.type "list",data:=.seq its.toArray n }) (hf:f { cls:=.type "list",data:=.seq its.toArray n } = { cls:=.type "list",data:=.seq its'.toArray n' }) (r:Vals ys its') (hz:ys.length<=sizeLine) (t':Nat) (ht:0 < t':=by first | exact cL _ | exact L2.Inv.tk (by assumption) | exact aG (L2.Inv.tk (by assumption)) (cI _ _) | assumption | omega) :
  Inv X pins σ (upd H p (.lst ys)) { s with heap:=s.heap.update p f,toks:=t' }:=by
 have e:(s.heap.update p f).get? p=some { cls:=.type "list",data:=.seq its'.toArray n' }:=by
  rw[dM f ho (by rw[hf] <;> rfl),hf]
 refine I.write (x:=p) (e:=p) (by rw[h];trivial) (.inl rfl) (fun b u hb q=>(cQ _ _ (eG hb)).trans q) ⟨_,e⟩ ?_
 exact ⟨hz,its',n',r,e⟩
def Aqm:V->V->V->Hp->(Hp->Prop)->Prop:=fun o i v H Q=>∃ p xs k j,o = .ref p/\i = .int k/\H p=some (.lst xs)/\ixN xs.length k=some j/\Q (upd H p (.lst (xs.set j v)))
theorem Ah2:Asp X Aqm:=by
 intro pins s σ H o i v ov iv u Q I ro ri rv h
 obtain ⟨p,xs,k,j,rfl,rfl,hp,hj,q⟩:=h
 cases ro
 obtain ⟨t,rfl⟩:=ri
 obtain ⟨its,n,r,ho,hz⟩:=I.lst hp
 obtain ⟨h1,h2,h3,h4⟩:=Ab1 hj
 have hl:=r.length
 have hn:=Nb
 have I':Inv X pins σ (upd H p (.lst (xs.set j v))) { s with heap:=s.heap.update p (iA (·.setIfInBounds j u)) }:=
  I.lstUpd hp ho (Y2 its n j u) (r.set rv j) (by rw[iH];exact hz) s.toks
 by_cases h0:0<=k
 ·have hk:k.toNat=j:=by
   rw[rE h0 h4] at h1
   exact bL h1
  exact PySem.W.ki_setAt ho h0 (by omega) (by rw[aT,<- hl];exact h4) (by rw[hk];exact ⟨_,I',q⟩)
 ·have hk:(k+(its.toArray.size:Int)).toNat=j:=by
   rw[qJ (by omega) h3] at h1
   rw[aT,<- hl]
   exact bL h1
  exact PySem.W.ki_setBack ho (by omega) (by rw[aT,<- hl];exact h3) (by omega) (by rw[hk];exact ⟨_,I',q⟩)
theorem Ac1(i:Int)(n:Nat):max 0 (min (if i < 0 then i+(n:Int) else i) (n:Int))=(((if i < 0 then (i+(n:Int)).toNat else min i.toNat n):Nat):Int):=by
 by_cases h:i < 0
 ·have hm:i+(n:Int)<=n:=by omega
  rw[if_pos h,if_pos h,rF hm,Int.ofNat_toNat,Int.max_comm]
 ·obtain ⟨k,rfl⟩:=Int.eq_ofNat_of_zero_le (Int.not_lt.mp h)
  rw[if_neg h,if_neg h,cF]
  rcases Nat.le_total k n with hk | hk
  ·rw[nZ hk,rF (sJ.mpr hk),qU (mI k)]
  ·rw[qV hk,Int.min_eq_right (sJ.mpr hk),qU (mI n)]
theorem V0(lo hi:Option Int)(n:Nat):(sliceBounds lo hi none n).1=((HT.sIx n 0 lo:Nat):Int)/\(sliceBounds lo hi none n).2.1=((HT.sIx n n hi:Nat):Int)/\(sliceBounds lo hi none n).2.2=1:=by
 refine ⟨?_,?_,rfl⟩
 ·cases lo with
  | none=>rfl
  | some i=>exact Ac1 i n
 ·cases hi with
  | none=>rfl
  | some i=>exact Ac1 i n
theorem Tf(its:List aE)(lo hi:Option Int):slicePick its.toArray lo hi none=((its.drop (HT.sIx its.length 0 lo)).take (HT.sIx its.length its.length hi - HT.sIx its.length 0 lo)).toArray:=by
 obtain ⟨h1,h2,h3⟩:=V0 lo hi its.toArray.size
 unfold slicePick
 rw[h1,h2,h3]
 simp only[sliceRange_one,pick_run,aT] <;> rfl
def Arm(K:aB):V->Option Int->Option Int->Hp->VK->Prop:=fun x lo hi H Q=>∃ a xs,x = .ref a/\SqL K H a xs/\∀ p,H p=none->Q (.ref p) (upd H p (.lst (Wz xs lo hi)))
theorem Ais:SlR X (Arm X.K):=by
 intro pins s σ H x v vl vu lo hi sl Q I rx hs pl pu h
 obtain ⟨a,xs,rfl,hx,q⟩:=h
 cases rx
 obtain ⟨its,r,ht,hz⟩:=I.list hx
 have hlen:=r.length
 refine ⟨"list",_,qK.lookup,ht.isList.typeIs,?_⟩
 refine wpAny_getItem_list_slice ht.isList hs pl pu .none (by simp) ?_ (by rw[aT] <;> omega)
 rw[Tf,<- hlen]
 refine ⟨.ref s.heap.objs.size,_,I.laid (t':=s.toks) (o:=.lst (Wz xs lo hi)) (fun b ob q=>aI _ q) (aJ _) ?_,rfl,q _ (I.hok.fresh (aJ _))⟩
 exact ⟨bJ (Qd xs lo hi) hz,_,0,(r.drop (HT.sIx xs.length 0 lo)).take (HT.sIx xs.length xs.length hi - HT.sIx xs.length 0 lo),bI _ rfl⟩
def Mw:V->Bool
 | .non=>true
 | .bl _=>true
 | .int _=>true
 | .str _=>true
 | _=>false
def eqV:V->V->Bool
 | .non,.non=>true
 | .bl a,.bl b=>a == b
 | .bl a,.int b=>(if a then 1 else 0) == b
 | .int a,.bl b=>a == (if b then 1 else 0)
 | .int a,.int b=>a == b
 | .str a,.str b=>a == b
 | _,_=>false
theorem Aog{u:aE}(ry:Cm y u)(rx:Cm x v)(fy:Mw y=true)(fx:Mw x=true):sY A s u v (eqV y x):=by
 cases y with
 | non=>
  cases ry
  cases x with
  | non=>cases rx;exact sY.same _
  | bl b=>cases rx;exact sY.none_bool b
  | int b=>obtain ⟨t,rfl⟩:=rx;exact sY.none_int b t
  | str b=>obtain ⟨t,rfl⟩:=rx;exact sY.none_str b t
  | _=>exact absurd (show false=true from fx) cT
 | bl a=>
  cases ry
  cases x with
  | non=>cases rx;exact sY.bool_none a
  | bl b=>cases rx;exact sY.bool_bool a b
  | int b=>obtain ⟨t,rfl⟩:=rx;exact sY.bool_int a b t
  | str b=>obtain ⟨t,rfl⟩:=rx;exact sY.bool_str a b t
  | _=>exact absurd (show false=true from fx) cT
 | int a=>
  obtain ⟨t',rfl⟩:=ry
  cases x with
  | non=>cases rx;exact sY.int_none a t'
  | bl b=>cases rx;exact sY.int_bool a t' b
  | int b=>obtain ⟨t,rfl⟩:=rx;exact sY.int_int a t' b t
  | str b=>obtain ⟨t,rfl⟩:=rx;exact pN a t' b t
  | _=>exact absurd (show false=true from fx) cT
 | str a=>
  obtain ⟨t',rfl⟩:=ry
  cases x with
  | non=>cases rx;exact sY.str_none a t'
  | bl b=>cases rx;exact sY.str_bool a t' b
  | int b=>obtain ⟨t,rfl⟩:=rx;exact pO a t' b t
  | str b=>obtain ⟨t,rfl⟩:=rx;exact sY.str_str a t' b t
  | _=>exact absurd (show false=true from fx) cT
 | _=>exact absurd (show false=true from fy) cT
def eqU(x:V)(u:aE):Bool:=match u with
 | .none=>eqV .non x
 | .bool b=>eqV (.bl b) x
 | .int i _=>eqV (.int i) x
 | .str z _=>eqV (.str z) x
 | _=>false
theorem Af7{u:aE}(r:Cm y u)(f:Mw y=true):eqU x u=eqV y x:=by
 cases y with
 | non=>cases r;rfl
 | bl b=>cases r;rfl
 | int i=>obtain ⟨t,rfl⟩:=r;rfl
 | str z=>obtain ⟨t,rfl⟩:=r;rfl
 | _=>exact absurd (show false=true from f) cT
theorem Qy(h:Vals xs us)(f:xs.all Mw=true):us.any (eqU x)=xs.any fun y=>eqV y x:=by
 induction h with
 | nil=>rfl
 | cons r t ih=>
  rw[pD,bG] at f
  rw[fO,fO,Af7 r f.1,ih f.2]
theorem K5(rx:Cm x v)(fx:Mw x=true):∀ {xs:List V} {us:List aE},Vals xs us->xs.all Mw=true->∀ u∈us,sY A s u v (eqU x u)
 | _,_,.nil,_=>fun u hu=>by cases hu
 | y::xs,u::us,.cons r t,f=>fun u' hu=>by
  rw[pD,bG] at f
  rcases aV.mp hu with rfl | hu
  ·rw[Af7 r f.1];exact Aog r rx f.1 fx
  ·exact K5 rx fx t f.2 u' hu
def inV(x:V)(xs:List V):Bool:=xs.any fun y=>eqV y x
def rIn(K:aB)(neg:Bool):R2:=fun x y H Q=>∃ p xs,y = .ref p/\(SqL K H p xs\/SqT K H p xs)/\Mw x=true/\xs.all Mw=true/\Q (.bl (if neg then !inV x xs else inV x xs)) H
theorem Aes:OpR X (dC .In) (rIn X.K false):=by
 intro pins s σ H x y v u Q I rx ry h
 obtain ⟨p,xs,rfl,hq,fx,fs,q⟩:=h
 cases ry
 rcases hq with hq | hq
 ·obtain ⟨its,r,pl,hz⟩:=I.list hq
  refine SeqAt.in_listAt (eqU x) pl.isList (fun w hw=>K5 rx fx r fs w (by simpa using hw)) ⟨.bl _,H,I,rfl,?_⟩
  rw[show its.toArray.any (eqU x)=its.any (eqU x) by simp,Qy r fs]
  exact q
 ·obtain ⟨its,r,pl,hz⟩:=I.tuple hq
  refine SeqAt.in_tupleAt (eqU x) pl (fun w hw=>K5 rx fx r fs w (by simpa using hw)) ⟨.bl _,H,I,rfl,?_⟩
  rw[show its.toArray.any (eqU x)=its.any (eqU x) by simp,Qy r fs]
  exact q
theorem Vh:OpR X (dC .NotIn) (rIn X.K true):=by
 intro pins s σ H x y v u Q I rx ry h
 obtain ⟨p,xs,rfl,hq,fx,fs,q⟩:=h
 cases ry
 rcases hq with hq | hq
 ·obtain ⟨its,r,pl,hz⟩:=I.list hq
  refine SeqAt.notIn_listAt (eqU x) pl.isList (fun w hw=>K5 rx fx r fs w (by simpa using hw)) ⟨.bl _,H,I,rfl,?_⟩
  rw[show its.toArray.any (eqU x)=its.any (eqU x) by simp,Qy r fs]
  exact q
 ·obtain ⟨its,r,pl,hz⟩:=I.tuple hq
  refine SeqAt.notIn_tupleAt (eqU x) pl (fun w hw=>K5 rx fx r fs w (by simpa using hw)) ⟨.bl _,H,I,rfl,?_⟩
  rw[show its.toArray.any (eqU x)=its.any (eqU x) by simp,Qy r fs]
  exact q
theorem Vz:OpR X (dC .NotIn) (fun x y H Q=>∃ i j,x = .str i/\y = .str j/\Q (.bl (!(!(aZ j i 0 j.length 1).isEmpty))) H):=by
 intro pins s σ H x y v u Q I rx ry h
 obtain ⟨i,j,rfl,rfl,q⟩:=h
 obtain ⟨t,rfl⟩:=rx
 obtain ⟨t',rfl⟩:=ry
 exact notIn_str ⟨.bl _,H,I,rfl,q⟩
theorem CallR.or{f:aE}{r r':List V->Hp->VK->Prop}(h:CallR X f r)(h':CallR X f r'):CallR X f (fun xs H Q=>r xs H Q\/r' xs H Q):=by
 intro pins s σ H xs us Q I rs q
 rcases q with q | q
 ·exact h pins s σ H xs us Q I rs q
 ·exact h' pins s σ H xs us Q I rs q
theorem Wa:CallR X (.type "list") (fun xs H Q=>∃ p ys,xs=[.ref p]/\(SqL X.K H p ys\/SqT X.K H p ys)/\∀ l,H l=none->Q (.ref l) (upd H l (.lst ys))):=by
 intro pins s σ H xs us Q I r h
 obtain ⟨p,ys,rfl,hq,q⟩:=h
 obtain ⟨u,rfl,rx⟩:=Ku r
 cases rx
 have fin:∀ (its:List aE),Vals ys its->ys.length<=sizeLine->∀ (h':Heap) (c':Nat),(∀ b o',s.heap.get? b=some o'->h'.get? b=some o') ->
   h'.get? s.heap.objs.size=some { cls:=.type "list",dict:=none,data:=.seq its.toArray c',slots:=#[] }->EP X pins σ Q (.ref s.heap.objs.size) { s with heap:=h' }:=fun its r' hz h' c' kp e=>
  ⟨.ref s.heap.objs.size,_,I.laid (t':=s.toks) kp (aJ _) (show ObjOk X.prog X.w _ h' _ (.lst ys) from ⟨hz,its,c',r',e⟩),rfl,q _ (I.hok.fresh (aJ _))⟩
 rcases hq with hq | hq
 ·obtain ⟨its,r',pl,hz⟩:=I.list hq
  have hlen:=r'.length
  obtain ⟨o,ho,hc,n,hd⟩:=pl.isList
  exact call_list_seq p (.inl rfl) ho hc hd (fun h' c' kp e=>fin its r' hz h' c' kp e) (by simp only[aT] <;> omega)
 ·obtain ⟨its,r',pl,hz⟩:=I.tuple hq
  have hlen:=r'.length
  obtain ⟨o,ho,hc,n,hd⟩:=pl
  exact call_list_seq p (.inr rfl) ho hc hd (fun h' c' kp e=>fin its r' hz h' c' kp e) (by simp only[aT] <;> omega)
theorem Js:CallR X (.type "tuple") (fun xs H Q=>∃ p ys,xs=[.ref p]/\((SqL X.K H p ys/\∀ l,H l=none->Q (.ref l) (upd H l (.tup ys)))\/(SqT X.K H p ys/\Q (.ref p) H))):=by
 intro pins s σ H xs us Q I r h
 obtain ⟨p,ys,rfl,h⟩:=h
 obtain ⟨u,rfl,rx⟩:=Ku r
 cases rx
 rcases h with ⟨hq,q⟩ | ⟨hq,q⟩
 ·obtain ⟨its,r',pl,hz⟩:=I.list hq
  have hlen:=r'.length
  refine call_tuple_list pl.isList (fun h' kp=>?_) (by simp only[aT] <;> omega)
  have I1:Inv X pins σ H { s with heap:=h' }:=I.kept (t':=s.toks) kp
  have I2:Inv X pins σ (upd H h'.objs.size (.tup ys)) { s with heap:=h'.push { cls:=.type "tuple",data:=.seq its.toArray } }:=
   I1.laid (t':=s.toks) (fun b o e=>aI _ e) (aJ _) (show ObjOk X.prog X.w _ _ _ (.tup ys) from ⟨hz,its,r',TupN.new _ _⟩)
  exact ⟨.ref h'.objs.size,_,I2,rfl,q _ (I1.hok.fresh (aJ _))⟩
 ·obtain ⟨its,r',pl,hz⟩:=I.tuple hq
  exact call_tuple_same pl ⟨.ref p,H,I,rfl,q⟩
def tyV(K:aB)(T:String)(x:V)(H:Hp):Prop:=match x with
 | .str _=>T = "str"
 | .int _=>T = "int"
 | .ref p=>(T = "list" /\ ∃ xs,SqL K H p xs)\/(T = "tuple" /\ ∃ xs,SqT K H p xs) \/
   (T = "dict" /\ ((∃ kvs,H p=some (.dK kvs))\/∃ kvs,H p=some (.dT kvs)))\/(T = "set" /\ ∃ S n,H p=some (.set S n))
 | _=>False
theorem Aga{T:String}(I:Inv X pins σ H s)(r:Cm x v)(ty:tyV X.K T x H) :
  s.TypeIs v T/\∀ a,v = .ref a->∃ ob,s.heap.get? a=some ob/\ob.dict=none:=by
 cases x with
 | str z=>
  obtain ⟨t,rfl⟩:=r
  cases (show T = "str" from ty)
  exact ⟨iQ s z t,fun _ e=>nomatch e⟩
 | int i=>
  obtain ⟨t,rfl⟩:=r
  cases (show T = "int" from ty)
  exact ⟨rQ s i t,fun _ e=>nomatch e⟩
 | ref p=>
  cases r
  rcases ty with ⟨rfl,xs,hq⟩ | ⟨rfl,xs,hq⟩ | ⟨rfl,hk⟩ | ⟨rfl,S,n,hk⟩
  ·obtain ⟨its,_,pl,_⟩:=I.list hq
   refine ⟨pl.isList.typeIs,fun a e=>?_⟩
   cases e
   obtain ⟨o,n,e,c,hd,_⟩:=pl
   exact ⟨o,e,hd⟩
  ·obtain ⟨its,_,⟨o,ho,hc,_⟩,_⟩:=I.tupleN hq
   obtain ⟨h1,h2⟩:=jR hc
   refine ⟨⟨o,ho,h1⟩,fun a e=>?_⟩
   cases e
   exact ⟨o,ho,h2⟩
  ·have z:∃ o,s.heap.get? p=some o/\o.ExactDict:=by
    rcases hk with ⟨kvs,hk⟩ | ⟨kvs,hk⟩
    ·obtain ⟨_,_,_,_,o,_,_,e,ex,_⟩:=I.hok p _ hk
     exact ⟨o,e,ex⟩
    ·obtain ⟨_,_,_,_,o,_,_,e,ex,_⟩:=I.hok p _ hk
     exact ⟨o,e,ex⟩
   obtain ⟨o,e,ex⟩:=z
   refine ⟨⟨o,e,ex.1⟩,fun a e2=>?_⟩
   cases e2
   exact ⟨o,e,ex.2.1⟩
  ·obtain ⟨o,_,_,_,e,ex,_⟩:=I.hok p _ hk
   refine ⟨⟨o,e,ex.1⟩,fun a e2=>?_⟩
   cases e2
   exact ⟨o,e,ex.2.1⟩
 | _=>exact eL ty
def tBM(K:aB)(T:String)(r:V->List V->Hp->VK->Prop)(to:TE)(t:TA):TE:=fun σ H Q=>to σ H fun x H1=>tyV K T x H1/\t σ H1 fun xs H2=>r x xs H2 Q
variable {o e:Expr}{es:List Expr}{to:TE}{t:TA}{name:Str}{apos cpos:Pos}{T id:String}{r:V->List V->Hp->VK->Prop}
theorem Amu(pa:PlainAttrs T)(slot:Slot T name id)(hty:typeOf (.builtin id)=pure (.type "method_descriptor"))(hm:MtR X id r)(ho:PE X o to)(ha:PA X (e::es) t)
  (hbase:attributeBase o name X.env (eval o X.env)=eval o X.env:=by rfl)
  (hfew:((backTo cpos (aN (e::es) X.env)).all (fun x=>!x.1)&&(backToKw cpos (keywordEach [] X.env)).all (fun x=>x.1.isSome)
   && decide ((e::es).length+([]:List fK).length+(if ([]:List fK).isEmpty then 0 else 1) < 30))=true:=by rfl)
  (hline:(apos.endLine == cpos.line)=true:=by rfl) (hs:aN (e::es) X.env=(false,eval e X.env)::aN es X.env:=by rfl) (hplain:(backTo cpos (aN es X.env)).any (·.1)=false:=by rfl) :
  PE X (.Call (.Attribute o name apos) (e::es) [] cpos) (tBM X.K T r to t):=by
 intro pins s σ H Q I h
 refine nU hbase hfew hline rfl (thn (ho pins s σ H _ I h) fun v s1 zz=>?_)
 obtain ⟨x,H1,I1,r1,ty,q1⟩:=zz
 obtain ⟨h1,h2⟩:=Aga I1 r1 ty
 refine ⟨T,id,pa,slot,hty,h1,h2,?_⟩
 have hA:=ha cpos pins s1 σ H1 _ I1 q1
 rw[hs] at hA ⊢
 refine jY (by show (false || (backTo cpos (aN es X.env)).any (·.1))=false;rw[hplain] <;> rfl) (kY ?_)
 exact thn hA fun us s2 zz=>by obtain ⟨vs,H2,I2,r2,q2⟩:=zz;exact hm pins s2 σ H2 x vs v us Q I2 r1 r2 q2
end
def MtM(X:Cx)(id:String)(r:V->List V->Hp->VK->Prop):Prop:=
 ∀ (pins:List (Addr×Obj)) (s:aH) (σ:St) (H:Hp) (x:V) (xs:List V) (v:aE) (us:List aE) (Q:VK),Inv X pins σ H s->Cm x v->Vals xs us->r x xs H Q ->
  wpAny (model X.prog X.w) X.A (call (.builtin id) (v::us)) (EP X pins σ Q) X.xe s
theorem Vals.one(h:Vals [x] us):∃ u,us=[u]/\Cm x u:=by
 cases h with
 | cons r t=>cases t;exact ⟨_,rfl,r⟩
theorem Vals.two(h:Vals [x,y] us):∃ u v,us=[u,v]/\Cm x u/\Cm y v:=by
 cases h with
 | cons r t=>obtain ⟨v,rfl,q⟩:=Vals.one t;exact ⟨_,v,rfl,r,q⟩
theorem Vals.zero:∀ {us:List aE},Vals [] us->us=[]
 | _,.nil=>rfl
theorem Vals.dropLast(h:Vals xs us):Vals xs.dropLast us.dropLast:=by
 induction h with
 | nil=>exact .nil
 | cons r t ih=>
  cases t with
  | nil=>exact .nil
  | cons q t'=>exact .cons r ih
theorem Vals.eraseIdx(i:Nat)(h:Vals xs us):Vals (xs.eraseIdx i) (us.eraseIdx i):=by
 induction h generalizing i with
 | nil=>exact .nil
 | cons r t ih=>
  cases i with
  | zero=>exact t
  | succ i=>exact .cons r (ih i)
theorem Vals.reverse(h:Vals xs us):Vals xs.reverse us.reverse:=by
 induction h with
 | nil=>exact .nil
 | cons r t ih=>rw[jZ,jZ];exact Vals.append ih (.cons r .nil)
theorem Vals.rep(h:Vals xs us):∀ k:Nat,Vals (bF k xs).flatten (bF k us).flatten
 | 0=>.nil
 | k+1=>by
  rw[eX,eX,gD,gD]
  exact Vals.append h (Vals.rep h k)
theorem Tz{α:Type}:∀ (l:List α) (i:Nat),(l.eraseIdx i).length<=l.length
 | [],_=>aJ _
 | _::_,0=>gE _
 | _::r,i+1=>Nat.succ_le_succ (Tz r i)
theorem Uy(its:List aE):∀ (k:Nat) (acc:List aE),
  rR (fun x1 x2=>x1++x2) acc.toArray (bF k its.toArray)=(acc++(bF k its).flatten).toArray
 | 0,acc=>by simp
 | k+1,acc=>by
  have e:acc.toArray++its.toArray=(acc++its).toArray:=by simp
  have e2:(acc++its)++(bF k its).flatten=acc++(bF (k+1) its).flatten:=by
   rw[eX,gD,bY]
  rw[<- e2,<- Uy its k (acc++its),<- e,eX,List.foldl_cons]
section
variable {l b:Addr}{ys zs:List V}
theorem Inv.lset{its':List aE}{f:Array aE->Array aE}{t':Nat}(I:Inv X pins σ H s)(hH:H l=some (.lst xs))
  (e:s.heap.get? l=some { cls:=.type "list",data:=.seq its.toArray n }) (hf:f its.toArray=its'.toArray) (hv:Vals ys its') (hz:ys.length<=sizeLine) (ht:0 < t':=by first | exact cL _ | exact L2.Inv.tk (by assumption) | exact aG (L2.Inv.tk (by assumption)) (cI _ _) | assumption | omega) :
  Inv X pins σ (upd H l (.lst ys)) { s with heap:=s.heap.update l (iA f),toks:=t' }:=by
 have q:=PySem.IsL.update e f
 rw[hf] at q
 refine I.write (x:=l) (e:=l) (by rw[hH];exact trivial) (.inl rfl) (fun b' u hb hu=>(cQ s.heap (iA f) (eG hb)).trans hu) ⟨_,q⟩ ?_
 exact ⟨hz,its',_,hv,q⟩
theorem Inv.lnew{t':Nat}(I:Inv X pins σ H s)(hv:Vals ys its)(hz:ys.length<=sizeLine)(ht:0 < t':=by first | exact cL _ | exact L2.Inv.tk (by assumption) | exact aG (L2.Inv.tk (by assumption)) (cI _ _) | assumption | omega) :
  Inv X pins σ (upd H s.heap.objs.size (.lst ys)) { s with heap:=s.heap.push { cls:=.type "list",data:=.seq its.toArray },toks:=t' }:=
 I.laid (fun _ _ q=>aI _ q) (aJ _) ⟨hz,its,0,hv,bI _ rfl⟩
theorem Inv.fresh(I:Inv X pins σ H s):H s.heap.objs.size=none:=I.hok.fresh (aJ _)
theorem Inv.lstM(I:Inv X pins σ H s)(hH:H l=some (.lst xs)):xs.length<=sizeLine/\∃ (its:List aE) (n:Nat),Vals xs its/\xs.length=its.length/\s.heap.get? l=some { cls:=.type "list",data:=.seq its.toArray n }:=by
 obtain ⟨z,its,n,r,e⟩:=I.hok l _ hH
 exact ⟨z,its,n,r,r.length,e⟩
theorem Ahq(h:n<=sizeLine):jE n=false:=by
 unfold jE
 exact decide_eq_false (by omega)
end
section
def Acf:V->List V->Hp->VK->Prop:=fun x vs H Q=>∃ l xs y,x = .ref l/\vs=[y]/\H l=some (.lst xs)/\xs.length < sizeLine/\Q .non (upd H l (.lst (xs++[y])))
theorem Ia:MtM X "list.append" Acf:=by
 intro pins s σ H x vs v us Q I rx rv h
 obtain ⟨l,xs,y,rfl,rfl,hH,hz,q⟩:=h
 cases rx
 obtain ⟨u,rfl,ru⟩:=rv.one
 obtain ⟨z,its,n,r,hl,e⟩:=I.lstM hH
 refine jO F.slot_list_append ⟨_,e,rfl⟩ F.entry_list_append (F.args_list_append_2 _ _) (PySem.list_append l its.toArray n u (by rw[aT];omega)) ⟨e,?_⟩
 refine ⟨.non,_,I.lset (its':=its++[u]) hH e (by simp) (r.append (.cons ru .nil)) ?_,rfl,q⟩
 rw[aY,List.length_singleton]
 omega
def Ag5:V->List V->Hp->VK->Prop:=fun x vs H Q=>∃ l xs i k y,x = .ref l/\vs=[.int i]/\H l=some (.lst xs)/\-(2 ^ 63)<=i/\i < 2 ^ 63/\seqIndex? i xs.length=some k/\xs[k]? = some y/\Q y (upd H l (.lst (xs.eraseIdx k)))
theorem N6:MtM X "list.pop" Ag5:=by
 intro pins s σ H x vs v us Q I rx rv h
 obtain ⟨l,xs,i,k,y,rfl,rfl,hH,h1,h2,hk,hy,q⟩:=h
 cases rx
 obtain ⟨u,rfl,ru⟩:=rv.one
 obtain ⟨t,rfl⟩:=ru
 obtain ⟨z,its,n,r,hl,e⟩:=I.lstM hH
 obtain ⟨w,hw,rw'⟩:=r.get hy
 refine jO F.slot_list_pop ⟨_,e,rfl⟩ F.entry_list_pop (F.args_list_pop_2 _ _)
  (MeetsSeq.list_pop_at l its.toArray n i t k w (fitsIndex_both h1 h2) (by rw[aT,<- hl];exact hk) (by rw[<- Array.getElem?_toList];exact hw) (by rw[aT];omega)) ⟨e,?_⟩
 refine ⟨y,_,I.lset (its':=its.eraseIdx k) hH e ?_ (r.eraseIdx k) ?_,rw',q⟩
 ·show its.toArray.eraseIdxIfInBounds k=(its.eraseIdx k).toArray
  rw[List.eraseIdxIfInBounds_toArray]
 ·have:=Tz xs k
  omega
def Ast:R2:=fun x y H Q=>∃ l b xs zs,x = .ref l/\y = .ref b/\H l=some (.lst xs)/\H b=some (.lst zs)/\xs.length+zs.length<=sizeLine/\∀ p,H p=none->Q (.ref p) (upd H p (.lst (xs++zs)))
theorem Aon:OpR X (fM .Add) Ast:=by
 intro pins s σ H x y v u Q I rx ry h
 obtain ⟨l,b,xs,zs,rfl,rfl,hH,hB,hz,q⟩:=h
 cases rx
 cases ry
 obtain ⟨z,its,n,r,hl,e⟩:=I.lstM hH
 obtain ⟨z2,its2,n2,r2,hl2,e2⟩:=I.lstM hB
 refine PySem.P.add_list e e2 ?_ (by rw[aT,aT];omega)
 have ea:its.toArray++its2.toArray=(its++its2).toArray:=by simp
 rw[ea]
 exact ⟨.ref _,_,I.lnew (t':=s.toks) (r.append r2) (by rw[aY];omega),rfl,q _ I.fresh⟩
def Aq6:R2:=fun x y H Q=>∃ l k xs,x = .ref l/\y = .int k/\H l=some (.lst xs)/\-(2 ^ 63)<=k/\k < 2 ^ 63/\xs.length * k.toNat<=sizeLine /\
 ∀ p,H p=none->Q (.ref p) (upd H p (.lst (bF k.toNat xs).flatten))
theorem Ajw{α:Type}(xs:List α)(k:Nat):(bF k xs).flatten.length=k * xs.length:=by
 induction k with
 | zero=>simp
 | succ k ih=>rw[eX,gD,aY,ih,Nat.succ_mul,Nat.add_comm]
theorem Anw:OpR X (fM .Mult) Aq6:=by
 intro pins s σ H x y v u Q I rx ry h
 obtain ⟨l,k,xs,rfl,rfl,hH,h1,h2,hz,q⟩:=h
 cases rx
 obtain ⟨t,rfl⟩:=ry
 obtain ⟨z,its,n,r,hl,e⟩:=I.lstM hH
 have hlen:its.toArray.size * k.toNat<=sizeLine:=by rw[aT,<- hl];exact hz
 have hcap:¬ its.toArray.size * k.toNat > (2 ^ 63 - 1) / 8:=by
  have:(sizeLine:Nat)<=(2 ^ 63 - 1) / 8:=by decide
  omega
 have hfit:¬ (!Builtin.List.listFitsIndex k)=true:=by
  rw[fitsIndex_both h1 h2]
  exact cT
 have hlong:¬ jE (its.toArray.size * k.toNat)=true:=by
  rw[Ahq hlen]
  exact cT
 have hnew:rR (fun x1 x2=>x1++x2) #[] (bF (if its.toArray.isEmpty=true then 0 else k.toNat) its.toArray)=(bF k.toNat its).flatten.toArray:=by
  have f0:∀ m:Nat,rR (fun x1 x2=>x1++x2) #[] (bF m its.toArray)=(bF m its).flatten.toArray:=fun m=>by
   have:=Uy its m []
   rw[lJ] at this
   exact this
  rw[f0]
  cases its with
  | nil=>simp
  | cons a r'=>rw[if_neg (by simp)]
 refine wpAny_binaryOp_repeat_ref (T := "list") (U := "int") (by decide) ⟨_,e,rfl⟩ (fun s'=>rQ s' k t) noFill_list_mul F.fills_int_mul rG repeat_list F.slot_int_index.lookup
  (jO rG (rQ s k t) F.entry_int_rmul (F.args_int_rmul_2 _ _) (int___rmul___int_list k t l its.toArray n)
   ⟨e,rfl,⟨_,e,rfl⟩,jO F.slot_list_mul ⟨_,e,rfl⟩ F.entry_list_mul (F.args_list_mul_2 _ _) (AutoListH.list___mul___list_int_3 l its.toArray n k t hfit hcap hlong) ⟨e,?_⟩⟩)
 rw[hnew]
 exact ⟨.ref _,_,I.lnew (t':=s.toks) (r.rep k.toNat) (by rw[Ajw,qM];exact hz),rfl,q _ I.fresh⟩
end
section
variable {prog:cD}{w:cV}{E:aE->aH->Prop}
end
end L2
namespace Att
open PySem PySem.W PySem.Calls PyProof.Rows
theorem Qq{P:oJ}{h:Heap}:∀ (ns:List Int) (vs:List aE),WellAll P h vs (ns.map nM)->nS vs ns:=by
 intro ns
 induction ns with
 | nil=>
  intro vs w
  rw[eU] at w
  cases w
  exact .nil
 | cons n ns ih=>
  intro vs w
  rw[aS] at w
  cases w with
  | cons a b=>
   cases a
   exact .cons _ _ (ih _ b)
theorem Ae3{l:lZ}{n:Nat}(hn:l.most=some n){P:oJ}{h:Heap}{args:List WData}{vals:List aE}
  (hpre:l.row.toRowW.claim.pre args=true) (hwl:WellAll P h vals args) :
  ∃ a vs ns,vals=[bP a]/\args=[sZ (ns.map nM)]/\h.get? a=some { cls:=.type "list",data:=.seq vs.toArray }/\nS vs ns/\ns.length<=n:=by
 have hsh:WShape.hasAll [] args [.list .int]=true:=(pre_splitW hpre).1
 have hc:l.pre.holds [] { args:=args } = true:=(pre_splitW hpre).2
 obtain ⟨d,r,rfl,h1,h2⟩:=hasAllW_cons hsh
 obtain rfl:=hasAllW_nil h2
 obtain ⟨xs,rfl,h3⟩:=hasW_list h1
 obtain ⟨ns,rfl⟩:=items_int h3
 have hlen:ns.length<=n:=by
  unfold lZ.pre at hc
  have h4:(WTm.not (.lt (.lit (.int (n:Int))) (.len (.arg 0)))).holds [] { args:=[.list (ns.map .int)] } = true:=by
   have h4:=(holds_andW hc).1
   rw[hn] at h4
   exact h4
  have h5:=condW_of h4 (w_not (w_lt w_lit (w_len_list (w_arg rfl))))
  rw[aM] at h5
  refine Nat.le_of_not_lt fun q=>?_
  have q':(n:Int) < ((ns.length:Nat):Int):=by omega
  first
   | (rw[decide_eq_true q'] at h5;exact absurd h5 (by decide))
   | (simp at h5;omega)
 cases hwl with
 | cons w1 w2=>
  cases w2
  cases w1 with
  | list ho hall=>exact ⟨_,_,ns,rfl,rfl,ho,Qq ns _ hall,hlen⟩
theorem Aec(l:lZ)(args:List WData):l.row.toRowW.claim.post args (.bool true) args=true:=
 postW_of (r:=l.row.toRowW) (X:=(true == true))
  (show tD [] (.bool true) .bool=true by first | rfl | decide | simp[tD,WShape.arms,WShape.armsAll])
  (show (WTm.eq .res (.lit (.bool true))).value [] { args:=args,res:=some (.bool true),after:=args } = some (.bool (true == true)) from w_eq_bool (w_res rfl) w_lit) rfl
section
variable {prog:cD}{w:cV}{A:fA}{E:aE->aH->Prop}{s:aH}{K:Frag}
end
end Att
namespace L2
open PySem PySem.Spec PyProof.Rows
theorem Adg{vs:List aE}{ns:List Int}(h:nS vs ns):Vals (ns.map V.int) vs:=by
 induction h with
 | nil=>exact .nil
 | cons n t h ih=>exact .cons ⟨t,rfl⟩ ih
def Akp(H:Hp):Prop:=∀ b,H b=none\/∃ o xs,H b=some (.frz o (.lst xs))
variable {P:cD}{w:cV}{K:aB}{a:Addr}{fd:dN}{x:Str}
theorem Ag0{mg mb:Str->Option aE}{CX:CXT}{k:Nat}{fa:Addr}{sp:Sp}{s₁:aH}{vs:List aE}{ns:List Int}
  (KX:K.In s₁.heap) (hns:s₁.heap.Ns bB mg) (hb:s₁.heap.Ns pR mb) (hbb:∀ x:Str,x ≠ "__name__" -> mb x=fG x) (hlim:s₁.heap.NoLimit) (hbk:gZ s₁.heap) (hg:s₁.gens=#[]) (ht:0 < s₁.toks)
  (ha:s₁.heap.get? a=some { cls:=.type "list",data:=.seq vs.toArray }) (hi:nS vs ns) (hl:ns.length<=sizeLine) (hr:Room k callerA)
  (F:∀ base:Heap,K.In base->base.Ns bB mg->FnOk P w K mg base CX k fa fd [x] sp) (hbind:∀ (s:aH) (u:aE),kT s fd ⟨[u],[]⟩ [(x,u)])
  (hsp:∀ H:Hp,Akp H->SqL K H a (ns.map V.int)->sp [.ref a] H (fun v _=>v = .bl true) fun _ _ _=>False)
  (hCX:∀ H e s',CX [] H s₁ (fun _ _ _=>False) e s'->False) :
  nQ (model P w) callerA (.call (.ref fa) ⟨[.ref a],[]⟩) (fun r s'=>r = .ok (.ret (.bool true))/\OldK s₁.heap s'.heap/\s'.os=s₁.os/\mV s'.gens) s₁:=by
 have rv:=Adg hi
 have lenV:=hi.length
 have core:∀ H:Hp,Akp H->SqL K H a (ns.map V.int)->HOk P w H s₁.heap->(∀ b,H b≠none->b=a)->(H a≠none->K.lookup a=none) ->
   nQ (model P w) callerA (.call (.ref fa) ⟨[.ref a],[]⟩) (fun r s'=>r = .ok (.ret (.bool true))/\OldK s₁.heap s'.heap/\s'.os=s₁.os/\mV s'.gens) s₁:=by
  intro H hO hS hok hA hK
  have base_of:∀ {b:Addr} {o:Obj},s₁.heap.get? b=some o->H b=none->(Vt s₁.heap H).get? b=some o:=fun e n=>Ags e n
  have noA:∀ {b:Addr} {o:Obj} {es:Array qW} {ep:Nat},s₁.heap.get? b=some o->o.data = .dict es ep->H b=none:=fun {b o es ep} e d=>by
   cases q:H b with
   | none=>rfl
   | some u=>
    have e':b=a:=hA b (by rw[q];simp)
    subst e'
    rw[ha] at e;cases e
    have d':Data.seq vs.toArray _=Data.dict es ep:=d
    cases d'
  have nsK:∀ {b:Addr} {m:Str->Option aE},s₁.heap.Ns b m->(Vt s₁.heap H).Ns b m:=fun {b m} ⟨o,es,ep,e,d,r⟩=>⟨o,es,ep,base_of e (noA e d),d,r⟩
  have hKb:K.In (Vt s₁.heap H):=fun b o e=>base_of (KX b o e) (by
   cases q:H b with
   | none=>rfl
   | some u=>
    have e':b=a:=hA b (by rw[q];simp)
    subst e'
    rw[hK (by rw[q];simp)] at e;cases e)
  have hM:Mod K mg (Vt s₁.heap H):=⟨hKb,nsK hns,⟨mb,nsK hb,hbb⟩,let ⟨mc,h1,h2⟩:=hlim;⟨mc,nsK h1,h2⟩,let ⟨mc,h1,h2⟩:=hbk;⟨mc,nsK h1,h2⟩⟩
  have e0:Env0 P w K mg (Vt s₁.heap H) callerA [] s₁ H:=⟨rfl,hM,fun b o e=>Ali e,qD (Adb _ _),trivial,fun b hb=>absurd (show b∈([]:List Addr) from hb) (by simp),hok,.of_eq hg,ht⟩
  refine lV ((F _ hKb (nsK hns)).run callerA [] s₁ H ⟨[.ref a],[]⟩ [.ref a] [.ref a] _ _ hr e0 (hbind s₁ (.ref a)) (.cons rfl .nil) (hsp H hO hS)) fun r s' h=>?_
  cases r with
  | error e=>exact (hCX H e s' h).elim
  | ok fl=>
   cases fl with
   | next=>exact eL h
   | brk=>exact eL h
   | cont=>exact eL h
   | ret u=>
    obtain ⟨v,H',os,bare,un,hok',r',q⟩:=h
    have q':v = .bl true:=q
    subst q'
    obtain rfl:u=pP true:=r'
    refine ⟨rfl,OldK.of_keep fun b o e=>?_,os,bare.1⟩
    cases q:H b with
    | none=>exact un.keep b o e q (by intro z;exact absurd (show b∈([]:List Addr) from z) (by simp)) (by simp)
    | some u=>
     rcases hO b with z | ⟨ob,xs,z⟩
     ·rw[q] at z;cases z
     ·have z2:=un.frzs b ob _ z
      obtain ⟨e1,_⟩:=hok b _ z
      obtain ⟨e2,_⟩:=hok' b _ z2
      rw[e] at e1;cases e1
      exact e2
 cases hk:K.lookup a with
 | some o=>
  have e:=KX a o hk
  rw[ha] at e
  cases e
  refine core (fun _=>none) (fun _=>.inl rfl) (.inr ⟨_,vs.toArray,_,hk,rfl,rfl,rfl,by rw[aT,lenV];exact hl,by simpa using ValN.ints rv⟩) (fun b u z=>by have z':(none:Option HO)=some u:=z;cases z') (fun b z=>absurd rfl z) fun z=>absurd rfl z
 | none=>
  refine core (fun b=>if b=a then some (.frz { cls:=.type "list",data:=.seq vs.toArray } (.lst (ns.map V.int))) else none) (fun b=>?_) (.inl (.inr ⟨{ cls:=.type "list",data:=.seq vs.toArray },if_pos rfl⟩)) (fun b u z=>?_) (fun b z=>?_) fun _=>hk
  ·by_cases hb:b=a
   ·exact .inr ⟨_,_,if_pos hb⟩
   ·exact .inl (if_neg hb)
  ·by_cases hb:b=a
   ·have z':=(if_pos hb).symm.trans z
    cases z'
    subst hb
    exact ⟨ha,by rw[aM];exact hl,vs,_,rv,ha⟩
   ·have z':=(if_neg hb).symm.trans z
    cases z'
  ·by_cases hb:b=a
   ·exact hb
   ·exact absurd (if_neg hb) z
def Ef(s:Stmt)(j:Nat):Stmt:=match s with
 | .ClassDef _ _ _ body _ _ _ _ _ _ _=>body.getD j (.Pass ⟨0,0,0,0⟩)
 | _=>.Pass ⟨0,0,0,0⟩
def G0(s:Stmt):Arguments:=match s with
 | .FunctionDef _ a _ _ _ _ _ _ _ _=>a
 | _=>{ posonlyargs:=[],args:=[],vararg:=none,kwonlyargs:=[],kw_defaults:=[],kwarg:=none,defaults:=[] }
def Ey(s:Stmt):List Stmt:=match s with
 | .FunctionDef _ _ b _ _ _ _ _ _ _=>b
 | _=>[]
def Aq(s:Stmt):mU:=match s with
 | .FunctionDef _ _ _ _ _ _ sc _ _ _=>sc
 | _=>{ kind:=.function,names:=[],isGenerator:=false,isCoroutine:=false }
abbrev CX0:CXT:=fun _ _ _ _ _ _=>False
abbrev E0:XK:=fun _ _ _=>False
variable {X:Cx}
theorem Ami:Vx CX0 X E0:=fun _ _ _ _ _ _ _ h=>h.elim
structure Fun(K:aB)(x qual:Str)(st:Stmt)(f:Addr)(fd:dN):Prop where
 ex:∃ (oc:aE) (od:Option Addr) (kV doc pm:aE) (an:Option Addr) (cdv ct:aE) (osl:Array (Option aE)),
  fd=fH x qual (G0 st) (Ey st) (Aq st) .none kV doc pm an cdv ct/\K.lookup f=some ⟨oc,od,.func fd,osl⟩/\jX K cdv qual=true
 kp:cN K (.ref f)=true
variable {qual:Str}{st:Stmt}{f:Addr}
section
variable {mg:Str->Option aE}{base:Heap}
theorem Fun.ok{N ps:List Str}{k:Nat}{sp:Sp}(F:Fun K x qual st f fd)(S:FnScope N ps (Aq st))(len:∀ vs H Q E,sp vs H Q E->vs.length=ps.length)
  (hbody:∀ (cdv:aE) (A:fA) (outer:List Env) (s:aH) (H:Hp) (vs:List V) (Q:VK) (E:XK),Room k (A.deeper (envOfC qual (Aq st) s.heap.objs.size f cdv))->sp vs H Q E ->
   ∃ t,PSs (Ti CX0 P w K mg base N qual (Aq st) f cdv A outer s H E).nox (Ey st) t/\t { nx:=fun _ H'=>Q .non H',rt:=Q } (start N vs) H):FnOk P w K mg base CX0 (k+1) f fd ps sp:=by
 obtain ⟨oc,od,kV,doc,pm,an,cdv,ct,osl,rfl,lk,hcd⟩:=F.ex
 refine Ap7 lk hcd S len fun A outer s H vs Q E hr hsp=>?_
 obtain ⟨t,h,q⟩:=hbody cdv A outer s H vs Q E hr hsp
 exact ⟨t,h.nox,q⟩
theorem Fun.binds{ps:List Str}(F:Fun K x qual st f fd)
  (h:∀ (kV doc pm:aE) (an:Option Addr) (cdv ct:aE) (us:List aE),us.length=ps.length->bindArgs (fH x qual (G0 st) (Ey st) (Aq st) .none kV doc pm an cdv ct) ⟨us,[]⟩=pure (ps.zip us)):Binds K fd ps []:=by
 obtain ⟨oc,od,kV,doc,pm,an,cdv,ct,osl,rfl,lk,hcd⟩:=F.ex
 exact .all (h kV doc pm an cdv ct)
theorem V2{oc:aE}{od an:Option Addr}{osl:Array (Option aE)}{kV doc pm cdv ct:aE}(l:K.lookup f=some ⟨oc,od,.func (fH x qual (G0 st) (Ey st) (Aq st) .none kV doc pm an cdv ct),osl⟩)
  (c:jX K cdv qual=true) (k:cN K (.ref f)=true):Fun K x qual st f (fH x qual (G0 st) (Ey st) (Aq st) .none kV doc pm an cdv ct):=⟨⟨oc,od,kV,doc,pm,an,cdv,ct,osl,rfl,l,c⟩,k⟩
end
theorem U1{n:Nat}(h:n<=1000):n < sizeLine:=pV h (by decide)
theorem W5{A B:Prop}(h:B):if false=true then A else B:=by
 rw[if_neg cT]
 exact h
theorem Xy{A B:Prop}(h:A):if true=true then A else B:=by
 rw[if_pos rfl]
 exact h
def Same(H H':Hp):Prop:=∀ b o,H b=some o->H' b=some o
theorem Same.refl(H:Hp):Same H H:=fun _ _ h=>h
variable {H:Hp}
theorem Same.trans{H1 H2:Hp}(a:Same H H1)(b:Same H1 H2):Same H H2:=fun c o h=>b c o (a c o h)
variable {H':Hp}
theorem Same.free(e:Same H H'){l:Addr}(h:H' l=sU):H l=sU:=by
 cases q:H l with
 | none=>rfl
 | some o=>
  rw[e l o q] at h
  cases h
theorem Same.seq{xs:List V}(e:Same H H')(h:SqL K H a xs):SqL K H' a xs:=by
 rcases h with (h | ⟨o,h⟩) | h
 ·exact .inl (.inl (e _ _ h))
 ·exact .inl (.inr ⟨o,e _ _ h⟩)
 ·exact .inr h
variable {o:Option V}{u:aE}{y:V}
section
variable {κ:Type}[DecidableEq κ]
def Ni(kvs:List (κ×V))(k:κ):Option V:=(kvs.find? fun kv=>decide (kv.1=k)).map (·.2)
def O1(kvs:List (κ×V))(k:κ)(v:V):List (κ×V):=
 if (kvs.any fun kv=>decide (kv.1=k))=true then kvs.map (fun kv=>if kv.1=k then (kv.1,v) else kv) else kvs++[(k,v)]
def Aba(kvs:List (κ×V))(k:κ):List (κ×V):=kvs.filter fun kv=>decide (kv.1≠k)
theorem Sj{p:κ×V}{r:List (κ×V)}{k:κ}(e:p.1=k):Ni (p::r) k=some p.2:=by simp[Ni,eI,e]
theorem R3{p:κ×V}{r:List (κ×V)}{k:κ}(e:¬ p.1=k):Ni (p::r) k=Ni r k:=by simp[Ni,eI,e]
theorem Rq(k:κ):∀ kvs:List (κ×V),(kvs.any fun kv=>decide (kv.1=k))=(Ni kvs k).isSome
 | []=>rfl
 | p::r=>by
  rw[fO]
  by_cases e:p.1=k
  ·simp only[Sj e,decide_eq_true e,Bool.true_or,Option.isSome_some]
  ·rw[R3 e,decide_eq_false e,pE];exact Rq k r
theorem Qj(kvs:List (κ×V))(k:κ)(v:V):(O1 kvs k v).length<=kvs.length+1:=by
 unfold O1
 split
 ·rw[aM];omega
 ·rw[aY,bH,cK];omega
theorem RelO.isSome_eq{u:Option aE}(r:RelO o u):o.isSome=u.isSome:=by
 cases o with
 | none=>cases u with
  | none=>rfl
  | some _=>exact (show False from r).elim
 | some _=>cases u with
  | none=>exact (show False from r).elim
  | some _=>rfl
theorem RelO.getD{u:Option aE}{d:V}{d':aE}(r:RelO o u)(rd:Cm d d'):Cm (o.getD d) (u.getD d'):=by
 cases o with
 | none=>cases u with
  | none=>exact rd
  | some _=>exact (show False from r).elim
 | some _=>cases u with
  | none=>exact (show False from r).elim
  | some _=>exact r
theorem KV.val{kvs:List (κ×V)}{vs:List (κ×aE)}(r:KV kvs vs)(k:κ):RelO (Ni kvs k) (valueAt vs k):=by
 unfold KV at r
 induction r with
 | nil=>exact fB
 | @cons p q ps qs h t ih=>
  obtain ⟨h1,h2⟩:=h
  by_cases e:p.1=k
  ·have e':q.1=k:=h1.symm.trans e
   have b:valueAt (q::qs) k=some q.2:=by simp[valueAt,eI,e']
   rw[Sj e,b];exact h2
  ·have e':¬ q.1=k:=fun z=>e (h1.trans z)
   have b:valueAt (q::qs) k=valueAt qs k:=by simp[valueAt,eI,e']
   rw[R3 e,b];exact ih
theorem KV.any{kvs:List (κ×V)}{vs:List (κ×aE)}(r:KV kvs vs)(k:κ):(kvs.any fun kv=>decide (kv.1=k))=vs.any fun kv=>decide (kv.1=k):=by
 unfold KV at r
 induction r with
 | nil=>rfl
 | cons h t ih=>rw[fO,fO,ih,h.1]
theorem KV.repl{kvs:List (κ×V)}{vs:List (κ×aE)}(r:KV kvs vs)(k:κ)(ry:Cm y u) :
  KV (kvs.map fun kv=>if kv.1=k then (kv.1,y) else kv) (vs.map fun kv=>if kv.1=k then (kv.1,u) else kv):=by
 unfold KV at r ⊢
 induction r with
 | nil=>exact .nil
 | @cons p q ps qs h t ih=>
  rw[aS,aS]
  refine .cons ?_ ih
  obtain ⟨h1,h2⟩:=h
  by_cases e:p.1=k
  ·rw[if_pos e,if_pos (h1.symm.trans e)];exact ⟨h1,ry⟩
  ·rw[if_neg e,if_neg (fun z=>e (h1.trans z))];exact ⟨h1,h2⟩
theorem KV.put{kvs:List (κ×V)}{vs:List (κ×aE)}(r:KV kvs vs)(k:κ)(ry:Cm y u):KV (O1 kvs k y) (stored vs k u):=by
 unfold O1 stored
 rw[r.any k]
 by_cases e:(vs.any fun kv=>decide (kv.1=k))=true
 ·rw[if_pos e,if_pos e];exact r.repl k ry
 ·rw[if_neg e,if_neg e];exact sV r ⟨rfl,ry⟩
theorem KV.drop{kvs:List (κ×V)}{vs:List (κ×aE)}(r:KV kvs vs)(k:κ):KV (Aba kvs k) (without vs k):=by
 unfold KV at r ⊢
 unfold Aba without
 induction r with
 | nil=>exact .nil
 | @cons p q ps qs h t ih=>
  obtain ⟨h1,h2⟩:=h
  rw[kN,kN]
  by_cases e:p.1=k
  ·have a:¬ decide (p.1≠k)=true:=by simp[e]
   have b:¬ decide (q.1≠k)=true:=by simp[h1.symm.trans e]
   rw[if_neg a,if_neg b];exact ih
  ·have e':¬ q.1=k:=fun z=>e (h1.trans z)
   have a:decide (p.1≠k)=true:=by simp[e]
   have b:decide (q.1≠k)=true:=by simp[e']
   rw[if_pos a,if_pos b];exact .cons ⟨h1,h2⟩ ih
theorem KV.keys{kvs:List (κ×V)}{vs:List (κ×aE)}(r:KV kvs vs):kvs.map (·.1)=vs.map (·.1):=by
 unfold KV at r
 induction r with
 | nil=>rfl
 | cons h t ih=>rw[aS,aS,ih,h.1]
theorem KV.length{kvs:List (κ×V)}{vs:List (κ×aE)}(r:KV kvs vs):kvs.length=vs.length:=nD r
end
theorem Aif{k:Key}(r:Cm (kV k) u):(Eh P w).is k u=true:=by
 cases k with
 | inl i=>obtain ⟨t,e⟩:=(show ∃ t,u=oX i t from r);subst e;exact Wg P w i t
 | inr x=>obtain ⟨t,e⟩:=(show ∃ t,u=lY x t from r);subst e;exact Xd P w x t
theorem T4:∀ {ks:List Key} {us:List aE},Vals (ks.map kV) us->ItemsAre (Eh P w) ks us
 | [],_,r=>by rw[eU] at r;cases r;exact .nil
 | k::ks,_,r=>by
  rw[aS] at r
  cases r with
  | cons h t=>exact .cons (Aif h) (T4 t)
abbrev KT(H:Hp):List (List Key×V)->List (List Key×Addr×aE)->Prop:=rO fun p q=>p.1=q.1/\H q.2.1=some (.tup (p.1.map kV))/\Cm p.2 q.2.2
variable {xs:List (List Key×Addr×aE)}{kvs:List (List Key×V)}
theorem KT.val(r:KT H kvs xs)(k:List Key):RelO (Ni kvs k) ((atKey xs k).map (·.2)):=by
 induction r with
 | nil=>exact fB
 | @cons p q ps qs h t ih=>
  obtain ⟨h1,_,h2⟩:=h
  by_cases e:p.1=k
  ·have e':q.1=k:=h1.symm.trans e
   have b:atKey (q::qs) k=some q.2:=by simp[atKey,eI,e']
   rw[Sj e,b];exact h2
  ·have e':¬ q.1=k:=fun z=>e (h1.trans z)
   have b:atKey (q::qs) k=atKey qs k:=by simp[atKey,eI,e']
   rw[R3 e,b];exact ih
theorem KT.repl(r:KT H kvs xs)(k:List Key)(ry:Cm y u) :
  KT H (kvs.map fun kv=>if kv.1=k then (kv.1,y) else kv) (xs.map (putAt k u)):=by
 induction r with
 | nil=>exact .nil
 | @cons p q ps qs h t ih=>
  rw[aS,aS]
  refine .cons ?_ ih
  obtain ⟨h1,h2,h3⟩:=h
  unfold putAt
  by_cases e:p.1=k
  ·rw[if_pos e,if_pos (h1.symm.trans e)];exact ⟨h1,h2,ry⟩
  ·rw[if_neg e,if_neg (fun z=>e (h1.trans z))];exact ⟨h1,h2,h3⟩
variable {b:Addr}
theorem KT.put(r:KT H kvs xs)(k:List Key)(hb:H b=some (.tup (k.map kV)))(ry:Cm y u) :
  KT H (O1 kvs k y) (storedH xs k b u):=by
 have e:(kvs.any fun kv=>decide (kv.1=k))=(atKey xs k).isSome:=by
  rw[Rq,(r.val k).isSome_eq,mZ]
 unfold O1 storedH
 rw[e]
 by_cases q:(atKey xs k).isSome=true
 ·rw[if_pos q,if_pos q];exact r.repl k ry
 ·rw[if_neg q,if_neg q];exact sV r ⟨rfl,hb,ry⟩
theorem KT.keeps(r:KT H kvs xs)(ht:∀ b ys,H b=some (.tup ys)->H' b=some (.tup ys)):KT H' kvs xs:=
 Paired.mapP r fun _ _ z=>⟨z.1,ht _ _ z.2.1,z.2.2⟩
section
variable {h:Heap}
theorem Ams{u:HO}(ok:HOk P w H h)(e:Rd H a u):ObjOk P w H h a u:=e.ok ok
theorem Am3{kvs:List (Key×V)}(ok:HOk P w H h)(e:Rd H a (.dK kvs)):kvs.length<=sizeLine/\(a == sysModules)=false/\∃ vs,KV kvs vs/\h.DictOf (Eh P w) a vs:=
 show ObjOk P w H h a (.dK kvs) from Ams ok e
theorem Asm{kvs:List (Key×V)}(ok:HOk P w H h)(e:H a=some (.dK kvs)):kvs.length<=sizeLine/\(a == sysModules)=false/\∃ vs,KV kvs vs/\h.DictOf (Eh P w) a vs:=Am3 ok (.inl e)
theorem Aao{ks:List Key}(ok:HOk P w H h)(e:H a=some (.tup (ks.map kV))):(tupleKind (Eh P w)).is h ks a:=by
 obtain ⟨_,its,r,o,h1,h2,n,h3⟩:=(show ObjOk P w H h a (.tup (ks.map kV)) from ok a _ e)
 exact ⟨o,its.toArray,n,h1,(jR h2).1,h3,by simpa using T4 r⟩
theorem Amv(ok:HOk P w H h)(e:Rd H a (.dT kvs)):kvs.length<=sizeLine/\(a == sysModules)=false /\
  ∃ xs,KT H kvs xs/\h.DictOfH (tupleKind (Eh P w)) a xs:=by
 obtain ⟨z,y,xs,r,o,es,ep,h1,h2,h3,h4,h5⟩:=(show ObjOk P w H h a (.dT kvs) from Ams ok e)
 refine ⟨z,y,xs,r,o,es,ep,h1,h2,h3,h4,fun x hx=>?_,h5⟩
 have all:∀ {l:List (List Key×V)} {m:List (List Key×Addr×aE)},KT H l m->∀ x∈m,(tupleKind (Eh P w)).is h x.1 x.2.1:=by
  intro l m q
  induction q with
  | nil=>intro x hx;exact nomatch hx
  | @cons p q ps qs hq t ih=>
   intro x hx
   rcases aV.mp hx with e | hx
   ·subst e
    exact Aao ok (by rw[<- hq.1];exact hq.2.1)
   ·exact ih x hx
 exact all r x hx
theorem Aqg(ok:HOk P w H h)(e:H a=some (.dT kvs)):kvs.length<=sizeLine/\(a == sysModules)=false /\
  ∃ xs,KT H kvs xs/\h.DictOfH (tupleKind (Eh P w)) a xs:=Amv ok (.inl e)
end
def DGet(H:Hp)(a:Addr)(y:V)(r:Option V):Prop:=
 (∃ kvs k,Rd H a (.dK kvs)/\y=kV k/\r=Ni kvs k)\/∃ kvs k b,Rd H a (.dT kvs)/\y = .ref b/\H b=some (.tup (k.map kV))/\r=Ni kvs k
def DPut(H:Hp)(a:Addr)(y v:V)(H':Hp):Prop:=
 (∃ kvs k,H a=some (.dK kvs)/\y=kV k/\kvs.length < sizeLine/\H'=upd H a (.dK (O1 kvs k v))) \/
 ∃ kvs k b,H a=some (.dT kvs)/\y = .ref b/\H b=some (.tup (k.map kV))/\kvs.length < sizeLine/\H'=upd H a (.dT (O1 kvs k v))
theorem DGet.k{kvs:List (Key×V)}{k:Key}(e:H a=some (.dK kvs)):DGet H a (kV k) (Ni kvs k):=.inl ⟨kvs,k,.inl e,rfl,rfl⟩
theorem DGet.t{k:List Key}(e:H a=some (.dT kvs))(eb:H b=some (.tup (k.map kV))):DGet H a (.ref b) (Ni kvs k):=.inr ⟨kvs,k,b,.inl e,rfl,eb,rfl⟩
variable {v:V}
theorem DPut.k{kvs:List (Key×V)}{k:Key}(e:H a=some (.dK kvs))(hl:kvs.length < sizeLine):DPut H a (kV k) v (upd H a (.dK (O1 kvs k v))):=.inl ⟨kvs,k,e,rfl,hl,rfl⟩
theorem DPut.t{k:List Key}(e:H a=some (.dT kvs))(eb:H b=some (.tup (k.map kV)))(hl:kvs.length < sizeLine) :
  DPut H a (.ref b) v (upd H a (.dT (O1 kvs k v))):=.inr ⟨kvs,k,b,e,rfl,eb,hl,rfl⟩
variable {A:fA}{pins:List (Addr×Obj)}{σ:St}{s:aH}{E:aE->aH->Prop}
section
variable {r:aE}
theorem Inv.big(I:Inv X pins σ H s):sysModules < s.heap.objs.size:=by
 have h:bB < s.heap.objs.size:=(I.mod.glob.keeps I.bk).lt
 exact Nat.lt_trans (by decide) h
theorem Avv{Q:aE->aH->Prop}(hu:A.units+1 < cLine)(I:Inv X pins σ H s)(g:DGet H a y o)(ry:Cm y u)(h:∀ s',Inv X pins σ H s'->Q (.bool o.isSome) s') :
  wpAny (model X.prog X.w) A (dC .In u (.ref a)) Q E s:=by
 rcases g with ⟨kvs,k,e,ey,l⟩ | ⟨kvs,k,b,e,ey,eb,l⟩
 ·subst ey
  obtain ⟨z,hd,vs,rel,dd⟩:=Am3 I.hok e
  refine wpAny_in_of (Aif ry) hd dd.mapOf ?_
  rw[<- (rel.val k).isSome_eq,<- l]
  exact h _ (I.tok _)
 ·subst ey
  cases (show u=bP b from ry)
  obtain ⟨z,hd,xs,rel,dd⟩:=Amv I.hok e
  refine wpAny_in_heap (pW hu) (Aao I.hok eb) hd dd ?_
  have q:=(rel.val k).isSome_eq
  rw[mZ] at q
  rw[<- q,<- l]
  exact h _ (I.tok _)
theorem Abh{h':Heap}{t':Nat}{ob:HO}(I:Inv X pins σ H s)(mu:Mut (H a))(hs:nO a s.heap h')(he:∃ q,h'.get? a=some q)(new:ObjOk X.prog X.w (upd H a ob) h' a ob)(ht:0 < t':=by first | exact cL _ | exact L2.Inv.tk (by assumption) | exact aG (L2.Inv.tk (by assumption)) (cI _ _) | assumption | omega) :
  Inv X pins σ (upd H a ob) { s with heap:=h',toks:=t' }:=
 I.write (x:=a) (e:=a) mu (.inl rfl) (fun b q hb z=>(hs.2 b hb).trans z) he new ht
theorem Ani{h':Heap}{kvs:List (Key×V)}{vs:List (Key×aE)}(z:kvs.length<=sizeLine)(hd:(a == sysModules)=false)(rel:KV kvs vs)(dd:h'.DictOf (Eh P w) a vs) :
  ObjOk P w H' h' a (.dK kvs):=⟨z,hd,vs,rel,dd⟩
theorem Adu{Q:Unit->aH->Prop}(hu:A.units+1 < cLine)(I:Inv X pins σ H s)(g:DPut H a y v H')(ry:Cm y u)(rv:Cm v r)(h:∀ s',Inv X pins σ H' s'->Q () s') :
  wpAny (model X.prog X.w) A (setItem (.ref a) u r) Q E s:=by
 rcases g with ⟨kvs,k,e,ey,l,eH⟩ | ⟨kvs,k,b,e,ey,eb,l,eH⟩
 ·subst ey eH
  obtain ⟨z,hd,vs,rel,dd⟩:=Asm I.hok e
  have hz:vs.length<=sizeLine:=by rw[<- rel.length];exact z
  have hl:(O1 kvs k v).length<=sizeLine:=by have:=Qj kvs k v;omega
  refine wpAny_setItem_pairs (hsz:=hz) (Aif ry) dd fun h' dd' hs=>h _ ?_
  have he:∃ q,h'.get? a=some q:=let ⟨q,_,_,hq,_⟩:=dd';⟨q,hq⟩
  exact Abh I (by rw[e];exact fB) hs he (Ani hl hd (rel.put k rv) dd')
 ·subst ey eH
  cases (show u=bP b from ry)
  obtain ⟨z,hd,xs,rel,dd⟩:=Aqg I.hok e
  have hz:xs.length<=sizeLine:=by rw[<- nD rel];exact z
  have hl:(O1 kvs k v).length<=sizeLine:=by have:=Qj kvs k v;omega
  refine wpAny_setItem_heap (hsz:=hz) (pW hu) (Aao I.hok eb) dd fun h' dd' hs=>h _ ?_
  obtain ⟨q,es,ep,hq,h2,h3,h4,_,h5⟩:=dd'
  refine Abh I (by rw[e];exact fB) hs ⟨q,hq⟩ ⟨hl,hd,_,(rel.put k eb rv).keeps fun c ys ec=>?_,q,es,ep,hq,h2,h3,h4,h5⟩
  rw[Bv (Afl ec e (fun z=>nomatch z))]
  exact ec
end
section
variable {kvs:List (Key×V)}{k:Key}
end
def Aq2(td ty tv:TE):TS:=fun D σ H=>tv σ H fun v H1=>td σ H1 fun x H2=>ty σ H2 fun y H3=>∃ a H4,x = .ref a/\DPut H3 a y v H4/\D.nx σ H4
section
variable {o i e value:Expr}{pos pos' tpos:Pos}{td ty tv:TE}
theorem Ai0(hu:X.A.units+1 < cLine)(ho:PE X o td)(hi:PE X i ty)(hv:PE X value tv)(hs:swapsWith value (some (.Subscript o i pos')) pos.line X.env=pure false) :
  PS X (.Assign [.Subscript o i pos'] value pos) (Aq2 td ty tv):=by
 intro pins s σ H D I h
 refine wpAny_Assign_Subscript (thn (hv pins s σ H _ I h) fun r s1 zz=>zz.elim fun v H1 I1 rv q1=>thn (ho pins s1 σ H1 _ I1 q1) fun u s2 zz=>zz.elim fun x H2 I2 rx q2=>thn (hi pins s2 σ H2 _ I2 q2) fun iv s3 zz=>zz.elim fun y H3 I3 ry zq=>?_) hs
 obtain ⟨a,H4,ex,g,q3⟩:=zq
 subst ex
 obtain rfl:u=bP a:=rx
 exact Adu hu I3 g ry rv fun s4 I4=>⟨σ,H4,I4,q3⟩
end
theorem Agh(h:Heap)(hb:sysModules < h.objs.size):ObjOk P w H (h.push { cls:=.type "dict",data:=.dict #[] }) h.objs.size (.dK []):=
 ⟨eO _,beq_eq_false_iff_ne.mpr (eG (cC hb)),[],.nil,Heap.DictOf.new h⟩
def Ao5:TE:=fun _ H Q=>∀ p,H p=none->Q (.ref p) (upd H p (.dK []))
section
variable {pos:Pos}
theorem Agb:PE X (.Dict [] [] pos) Ao5:=fun pins s σ H Q I h=>
 wpAny_Dict_empty ⟨.ref s.heap.objs.size,_,I.laid (a:=s.heap.objs.size) (o:=.dK []) (t':=s.toks) (fun _ _ q=>aI _ q) (aJ _) (Agh s.heap I.big),rfl,h _ (I.hok.fresh (aJ _))⟩
end
structure M1(X:Cx)(o:Expr)(m:Str)(apos:Pos)(e:Expr)(cpos:Pos):Prop where
 base:attributeBase o m X.env (eval o X.env)=eval o X.env
 few:((backTo cpos (aN [e] X.env)).all (fun x=>!x.1)&&(backToKw cpos (keywordEach [] X.env)).all (fun x=>x.1.isSome)
  && decide (([e]:List Expr).length+([]:List fK).length+(if ([]:List fK).isEmpty then 0 else 1) < 30))=true
 line:(apos.endLine == cpos.line)=true
 trees:backTo cpos (aN [e] X.env)=[(false,eval e X.env)]
structure M2(X:Cx)(o:Expr)(m:Str)(apos:Pos)(e f:Expr)(cpos:Pos):Prop where
 base:attributeBase o m X.env (eval o X.env)=eval o X.env
 few:((backTo cpos (aN [e,f] X.env)).all (fun x=>!x.1)&&(backToKw cpos (keywordEach [] X.env)).all (fun x=>x.1.isSome)
  && decide (([e,f]:List Expr).length+([]:List fK).length+(if ([]:List fK).isEmpty then 0 else 1) < 30))=true
 line:(apos.endLine == cpos.line)=true
 trees:backTo cpos (aN [e,f] X.env)=[(false,eval e X.env),(false,eval f X.env)]
section
variable {d:V}{r:aE}
end
section
variable {o e f:Expr}{apos cpos:Pos}{td ty tx:TE}
end
section
variable {kvs:List (Key×V)}
end
end L2
namespace MR
open PySem PySem.Spec PyProof.Rows L2
inductive U where
 | non | bl (b:Bool) | int (i:Int) | str (x:Str) | tz (x:Str) | tup (l:List U) | ref (n:Nat)
inductive HU where
 | lst (xs:List U) | ro (xs:List U) | dic (kvs:List (Key×U)) | rod (kvs:List (Key×U)) | ins (C:Str) (fs:List (Str×U)) | exc (C:Str) (fr:Bool) (fs:List (Str×U))
abbrev UH:=List HU
abbrev UE:=List (Option U)
section
variable (K:aB)(H:Hp)(α:List Addr)
mutual
def RepU:U->V->Prop
 | .non,v=>v = .non
 | .bl b,v=>v = .bl b
 | .int i,v=>v = .int i
 | .str x,v=>v = .str x
 | .tz x,v=>v = .tz x
 | .tup l,v=>∃ a xs,v = .ref a/\SqT K H a xs/\RepL l xs
 | .ref n,v=>∃ a,α[n]? = some a/\v = .ref a
def RepL:List U->List V->Prop
 | [],xs=>xs=[]
 | u::l,xs=>∃ x r,xs=x::r/\RepU u x/\RepL l r
end
end
def Stay(H H':Hp):Prop:=(∀ b xs,H b=some (.tup xs)->H' b=some (.tup xs))/\∀ b o u,H b=some (.frz o u)->H' b=some (.frz o u)
theorem Stay.refl(H:Hp):Stay H H:=⟨fun _ _ q=>q,fun _ _ _ q=>q⟩
variable {H H1 H2:Hp}
theorem Stay.trans(a:Stay H H1)(b:Stay H1 H2):Stay H H2:=⟨fun c xs q=>b.1 c xs (a.1 c xs q),fun c o u q=>b.2 c o u (a.2 c o u q)⟩
variable {K:aB}{H':Hp}{a:Addr}{xs:List V}
theorem Stay.sqT(e:Stay H H')(h:SqT K H a xs):SqT K H' a xs:=by
 rcases h with (h | ⟨o,h⟩) | h
 ·exact .inl (.inl (e.1 _ _ h))
 ·exact .inl (.inr ⟨o,e.2 _ _ _ h⟩)
 ·exact .inr h
theorem Stay.new{p:Addr}(h:H p=none)(o:HO):Stay H (upd H p o):=⟨fun b u q=>by rw[Bv (By q h)];exact q,fun b o u q=>by rw[Bv (By q h)];exact q⟩
variable {o:HO}
theorem Stay.write{p:Addr}(h:H p=some o)(m:Mut (some o))(o':HO):Stay H (upd H p o'):=
 ⟨fun b u q=>by rw[Bv (Afl q h (fun z=>by subst z;exact m))];exact q,fun b w u q=>by rw[Bv (Afl q h (fun z=>by subst z;exact m))];exact q⟩
structure Gr(H:Hp)(α:List Addr)(H':Hp)(α':List Addr):Prop where
 pre:∃ β,α' = α ++ β
 st:Stay H H'
theorem Gr.refl(H:Hp)(α:List Addr):Gr H α H α:=⟨⟨[],by simp⟩,.refl H⟩
variable {α:List Addr}
theorem Gr.trans{α1 α2:List Addr}(a:Gr H α H1 α1)(b:Gr H1 α1 H2 α2):Gr H α H2 α2:=by
 obtain ⟨⟨β,e⟩,s⟩:=a
 obtain ⟨⟨γ,e'⟩,s'⟩:=b
 exact ⟨⟨β ++ γ,by rw[e',e,bY]⟩,s.trans s'⟩
variable {α':List Addr}{n:Nat}
theorem Gr.at(g:Gr H α H' α')(h:α[n]? = some a):α'[n]? = some a:=by
 obtain ⟨β,e⟩:=g.pre
 have hn:n < α.length:=(aD.mp h).1
 rw[e,aK hn];exact h
variable {u:U}{l:List U}
section
mutual
theorem RepU.mono(g:Gr H α H' α'):∀ (u:U) (v:V),RepU K H α u v->RepU K H' α' u v
 | .non,_,h=>h
 | .bl _,_,h=>h
 | .int _,_,h=>h
 | .str _,_,h=>h
 | .tz _,_,h=>h
 | .tup l,v,h=>by
  unfold RepU at h ⊢
  obtain ⟨a,xs,e,s,r⟩:=h
  exact ⟨a,xs,e,g.st.sqT s,RepL.mono g l xs r⟩
 | .ref n,v,h=>by
  unfold RepU at h ⊢
  obtain ⟨a,e,q⟩:=h
  exact ⟨a,g.at e,q⟩
theorem RepL.mono(g:Gr H α H' α'):∀ (l:List U) (xs:List V),RepL K H α l xs->RepL K H' α' l xs
 | [],xs,h=>h
 | u::l,xs,h=>by
  unfold RepL at h ⊢
  obtain ⟨x,r,e,h1,h2⟩:=h
  exact ⟨x,r,e,RepU.mono g u x h1,RepL.mono g l r h2⟩
end
theorem RepL.length:∀ {l:List U} {xs:List V},RepL K H α l xs->l.length=xs.length
 | [],xs,h=>by unfold RepL at h;subst h;rfl
 | u::l,xs,h=>by
  unfold RepL at h
  obtain ⟨x,r,e,_,h2⟩:=h
  subst e
  simp[RepL.length h2]
theorem RepL.get:∀ {l:List U} {xs:List V} {i:Nat} {u:U},RepL K H α l xs->l[i]? = some u->∃ x,xs[i]? = some x/\RepU K H α u x
 | [],xs,i,u,h,e=>by simp at e
 | w::l,xs,i,u,h,e=>by
  unfold RepL at h
  obtain ⟨x,r,e',h1,h2⟩:=h
  subst e'
  cases i with
  | zero=>simp at e;subst e;exact ⟨x,rfl,h1⟩
  | succ i=>simpa using RepL.get (i:=i) h2 (by simpa using e)
theorem RepL.nil:RepL K H α [] []:=by unfold RepL;rfl
theorem RepL.cons{x:V}(h:RepU K H α u x)(t:RepL K H α l xs):RepL K H α (u::l) (x::xs):=by
 unfold RepL;exact ⟨x,xs,rfl,h,t⟩
theorem RepL.append:∀ {l l':List U} {xs ys:List V},RepL K H α l xs->RepL K H α l' ys->RepL K H α (l++l') (xs++ys)
 | [],l',xs,ys,h,t=>by unfold RepL at h;subst h;exact t
 | u::l,l',xs,ys,h,t=>by
  unfold RepL at h
  obtain ⟨x,r,e,h1,h2⟩:=h
  subst e
  exact .cons h1 (RepL.append h2 t)
theorem RepL.take:∀ {l:List U} {xs:List V} (n:Nat),RepL K H α l xs->RepL K H α (l.take n) (xs.take n)
 | [],xs,n,h=>by unfold RepL at h;subst h;simp[RepL.nil]
 | u::l,xs,0,h=>by simp[RepL.nil]
 | u::l,xs,n+1,h=>by
  unfold RepL at h
  obtain ⟨x,r,e,h1,h2⟩:=h
  subst e
  exact .cons h1 (RepL.take n h2)
theorem RepL.drop:∀ {l:List U} {xs:List V} (n:Nat),RepL K H α l xs->RepL K H α (l.drop n) (xs.drop n)
 | [],xs,n,h=>by unfold RepL at h;subst h;simp[RepL.nil]
 | u::l,xs,0,h=>h
 | u::l,xs,n+1,h=>by
  unfold RepL at h
  obtain ⟨x,r,e,h1,h2⟩:=h
  subst e
  exact RepL.drop n h2
theorem RepL.set{x:V}(q:RepU K H α u x):∀ {l:List U} {xs:List V} (n:Nat),RepL K H α l xs->RepL K H α (l.set n u) (xs.set n x)
 | [],xs,n,h=>by unfold RepL at h;subst h;exact .nil
 | w::l,xs,0,h=>by
  unfold RepL at h
  obtain ⟨y,r,e,h1,h2⟩:=h
  subst e
  exact .cons q h2
 | w::l,xs,n+1,h=>by
  unfold RepL at h
  obtain ⟨y,r,e,h1,h2⟩:=h
  subst e
  exact .cons h1 (RepL.set q n h2)
theorem RepL.erase:∀ {l:List U} {xs:List V} (n:Nat),RepL K H α l xs->RepL K H α (l.eraseIdx n) (xs.eraseIdx n)
 | [],xs,n,h=>by unfold RepL at h;subst h;exact .nil
 | w::l,xs,0,h=>by
  unfold RepL at h
  obtain ⟨y,r,e,h1,h2⟩:=h
  subst e
  exact h2
 | w::l,xs,n+1,h=>by
  unfold RepL at h
  obtain ⟨y,r,e,h1,h2⟩:=h
  subst e
  exact .cons h1 (RepL.erase n h2)
theorem RepL.reverse:∀ {l:List U} {xs:List V},RepL K H α l xs->RepL K H α l.reverse xs.reverse
 | [],xs,h=>by unfold RepL at h;subst h;exact .nil
 | w::l,xs,h=>by
  unfold RepL at h
  obtain ⟨y,r,e,h1,h2⟩:=h
  subst e
  rw[jZ,jZ]
  exact (RepL.reverse h2).append (.cons h1 .nil)
theorem RepL.ints:∀ (ns:List Int),RepL K H α (ns.map U.int) (ns.map V.int)
 | []=>.nil
 | n::r=>.cons rfl (RepL.ints r)
end
def RO(K:aB)(H:Hp)(a:Addr)(xs:List V):Prop:=
 (∃ o,H a=some (.frz o (.lst xs)))\/∃ (o:Obj) (its:Array aE) (n:Nat),K.lookup a=some o/\o.cls = .type "list" /\ o.dict=none/\o.data = .seq its n/\its.size<=sizeLine/\ValN xs its.toList
theorem RO.sq(h:RO K H a xs):SqL K H a xs:=by
 rcases h with ⟨o,h⟩ | h
 ·exact .inl (.inr ⟨o,h⟩)
 ·exact .inr h
theorem RO.stay(st:Stay H H')(h:RO K H a xs):RO K H' a xs:=by
 rcases h with ⟨o,h⟩ | h
 ·exact .inl ⟨o,st.2 _ _ _ h⟩
 ·exact .inr h
def Co(a Ca:Addr)(dd:Option Addr)(fr:Bool)(h:Heap):Prop:=∃ (o:Obj) (vs:Array aE),h.get? a=some o/\o.cls = .ref Ca/\o.dict=dd/\o.data = .fields vs/\1 < vs.size/\o.slots=#[]/\(fr=true->vs[1]? = some .none)
def DictIs(H:Hp)(dd:Option Addr)(vs:List (Str×V)):Prop:=match dd with
 | none=>vs=[]
 | some dx=>vs≠[]/\∃ od,H dx=some (.frz od (.xd vs))
theorem DictIs.stay{dd:Option Addr}{vs:List (Str×V)}(st:∀ b o ws,H b=some (.frz o (.xd ws))->H' b=some (.frz o (.xd ws)))(h:DictIs H dd vs):DictIs H' dd vs:=by
 cases dd with
 | none=>exact h
 | some dx=>obtain ⟨ne,od,q⟩:=h;exact ⟨ne,od,st _ _ _ q⟩
def HRep(K:aB)(H:Hp)(α:List Addr)(a:Addr):HU->Prop
 | .lst us=>∃ xs,H a=some (.lst xs)/\RepL K H α us xs
 | .ro us=>∃ xs,RO K H a xs/\RepL K H α us xs
 | .dic kvs=>∃ vs,H a=some (.dK vs)/\kvs.map (·.1)=vs.map (·.1)/\RepL K H α (kvs.map (·.2)) (vs.map (·.2))
 | .rod kvs=>∃ o vs,H a=some (.frz o (.dK vs))/\kvs.map (·.1)=vs.map (·.1)/\RepL K H α (kvs.map (·.2)) (vs.map (·.2))
 | .ins C fs=>∃ Ca dx vs,bV K bB C=some (some (.ref Ca))/\H a=some (.ins Ca dx vs)/\fs.map (·.1)=vs.map (·.1)/\RepL K H α (fs.map (·.2)) (vs.map (·.2))
 | .exc C fr fs=>∃ Ca dd vs,bV K bB C=some (some (.ref Ca))/\H a=some (.ext (Co a Ca dd fr))/\DictIs H dd vs/\fs.map (·.1)=vs.map (·.1)/\RepL K H α (fs.map (·.2)) (vs.map (·.2))
def HU.isRo:HU->Bool
 | .ro _=>true
 | _=>false
structure Abs(K:aB)(H:Hp)(α:List Addr)(L:UH):Prop where
 len:α.length=L.length
 inj:∀ (i j:Nat) (a:Addr) (o o':HU),α[i]? = some a->α[j]? = some a->L[i]? = some o->L[j]? = some o'->i=j\/o.isRo=true\/o'.isRo=true
 rep:∀ (i:Nat) (a:Addr) (o:HU),α[i]? = some a->L[i]? = some o->HRep K H α a o
variable {L:UH}
theorem Abs.addr(A:Abs K H α L){o:HU}(h:L[n]? = some o):∃ a,α[n]? = some a/\HRep K H α a o:=by
 have hn:n < α.length:=by rw[A.len];exact (aD.mp h).1
 exact ⟨α[n],aQ hn,A.rep n _ o (aQ hn) h⟩
theorem HRep.other{o:HU}(g:Gr H α H' α')(hs:o.isRo=true\/∀ u,H a=some u->H' a=some u)(h:HRep K H α a o):HRep K H' α' a o:=by
 cases o with
 | lst us=>obtain ⟨xs,e,r⟩:=h;exact ⟨xs,(hs.resolve_left (by simp[HU.isRo])) _ e,r.mono g⟩
 | ro us=>obtain ⟨xs,e,r⟩:=h;exact ⟨xs,e.stay g.st,r.mono g⟩
 | dic kvs=>obtain ⟨vs,e,k,r⟩:=h;exact ⟨vs,(hs.resolve_left (by simp[HU.isRo])) _ e,k,r.mono g⟩
 | rod kvs=>obtain ⟨o,vs,e,k,r⟩:=h;exact ⟨o,vs,(hs.resolve_left (by simp[HU.isRo])) _ e,k,r.mono g⟩
 | ins C fs=>obtain ⟨Ca,dx,vs,n,e,k,r⟩:=h;exact ⟨Ca,dx,vs,n,(hs.resolve_left (by simp[HU.isRo])) _ e,k,r.mono g⟩
 | exc C fr fs=>obtain ⟨Ca,dd,vs,n,e,d,k,r⟩:=h;exact ⟨Ca,dd,vs,n,(hs.resolve_left (by simp[HU.isRo])) _ e,d.stay fun b o ws q=>g.st.2 b o _ q,k,r.mono g⟩
theorem HRep.some{o:HU}(h:HRep K H α a o)(n:o.isRo=false):∃ u,H a=some u:=by
 cases o with
 | lst us=>obtain ⟨xs,e,r⟩:=h;exact ⟨_,e⟩
 | ro us=>simp[HU.isRo] at n
 | dic kvs=>obtain ⟨vs,e,k,r⟩:=h;exact ⟨_,e⟩
 | rod kvs=>obtain ⟨o,vs,e,k,r⟩:=h;exact ⟨_,e⟩
 | ins C fs=>obtain ⟨Ca,dx,vs,n',e,k,r⟩:=h;exact ⟨_,e⟩
 | exc C fr fs=>obtain ⟨Ca,dd,vs,n',e,k,r⟩:=h;exact ⟨_,e⟩
theorem Abs.new{p:Addr}{u:HU}(A:Abs K H α L)(hp:H p=none)(hr:HRep K (upd H p o) (α ++ [p]) p u) :
  Abs K (upd H p o) (α ++ [p]) (L++[u])/\Gr H α (upd H p o) (α ++ [p]):=by
 have g:Gr H α (upd H p o) (α ++ [p]):=⟨⟨[p],rfl⟩,.new hp o⟩
 have hl:=A.len
 refine ⟨⟨by simp[hl],fun i j a o1 o2 e1 e2 e3 e4=>?_,fun i a o1 e1 e2=>?_⟩,g⟩
 ·have fresh:∀ (k:Nat) (o3:HU),α[k]? = some p->L[k]? = some o3->o3.isRo=true:=fun k o3 q1 q2=>by
   cases hh:o3.isRo with
   | true=>rfl
   | false=>
    obtain ⟨u3,q⟩:=(A.rep k p o3 q1 q2).some hh
    rw[hp] at q;cases q
  by_cases hi:i < α.length
  ·rw[aK hi] at e1
   rw[aK (by omega)] at e3
   by_cases hj:j < α.length
   ·rw[aK hj] at e2
    rw[aK (by omega)] at e4
    exact A.inj i j a o1 o2 e1 e2 e3 e4
   ·rw[bD (by omega)] at e2
    have:a=p:=by
     cases hk:j - α.length with
     | zero=>rw[hk] at e2;simp at e2;exact e2.symm
     | succ k=>rw[hk] at e2;simp at e2
    subst this
    exact .inr (.inl (fresh i o1 e1 e3))
  ·rw[bD (by omega)] at e1
   have hia:a=p/\i = α.length:=by
    cases hk:i - α.length with
    | zero=>rw[hk] at e1;simp at e1;exact ⟨e1.symm,by omega⟩
    | succ k=>rw[hk] at e1;simp at e1
   obtain ⟨rfl,hi'⟩:=hia
   by_cases hj:j < α.length
   ·rw[aK hj] at e2
    rw[aK (by omega)] at e4
    exact .inr (.inr (fresh j o2 e2 e4))
   ·rw[bD (by omega)] at e2
    have:j = α.length:=by
     cases hk:j - α.length with
     | zero=>omega
     | succ k=>rw[hk] at e2;simp at e2
    exact .inl (by omega)
 ·by_cases hi:i < α.length
  ·rw[aK hi] at e1
   rw[aK (by omega)] at e2
   refine (A.rep i a o1 e1 e2).other g ?_
   exact .inr fun u3 q=>by rw[Bv (By q hp)];exact q
  ·rw[bD (by omega)] at e1
   rw[bD (by omega)] at e2
   have h1:i - α.length=0:=by
    cases hk:i - α.length with
    | zero=>rfl
    | succ k=>rw[hk] at e1;simp at e1
   rw[h1] at e1
   rw[show i - L.length=0 by omega] at e2
   simp at e1 e2
   subst e1;subst e2
   exact hr
theorem Abs.put{p:Addr}{o0:HO}{u0 u:HU}(A:Abs K H α L)(hn:α[n]? = some p)(hL:L[n]? = some u0)(hro:u0.isRo=false)(hro':u.isRo=false)(hp:H p=some o0)(hm:Mut (some o0))(hr:HRep K (upd H p o) α p u) :
  Abs K (upd H p o) α (L.set n u)/\Gr H α (upd H p o) α:=by
 have g:Gr H α (upd H p o) α:=⟨⟨[],by simp⟩,.write hp hm o⟩
 have hl:=A.len
 have hlt:n < L.length:=(aD.mp hL).1
 have look:∀ (i:Nat) (o1:HU),(L.set n u)[i]? = some o1->∃ o2,L[i]? = some o2/\o2.isRo=o1.isRo/\(i≠n->o2=o1):=fun i o1 e=>by
  by_cases hi:n=i
  ·subst hi
   rw[bK hlt] at e
   cases e
   exact ⟨u0,hL,by rw[hro,hro'],fun z=>absurd rfl z⟩
  ·rw[bE hi] at e
   exact ⟨o1,e,rfl,fun _=>rfl⟩
 refine ⟨⟨by simp[hl],fun i j a o1 o2 e1 e2 e3 e4=>?_,fun i a o1 e1 e2=>?_⟩,g⟩
 ·obtain ⟨x1,q1,r1,_⟩:=look i o1 e3
  obtain ⟨x2,q2,r2,_⟩:=look j o2 e4
  rw[<- r1,<- r2]
  exact A.inj i j a x1 x2 e1 e2 q1 q2
 ·by_cases hi:n=i
  ·subst hi
   rw[bK hlt] at e2
   cases e2
   rw[hn] at e1;cases e1
   exact hr
  ·rw[bE hi] at e2
   refine (A.rep i a o1 e1 e2).other g ?_
   by_cases hap:a=p
   ·subst hap
    rcases A.inj i n a o1 u0 e1 hn e2 hL with z | z | z
    ·exact absurd z.symm hi
    ·exact .inl z
    ·rw[hro] at z;cases z
   ·exact .inr fun u3 q=>by rw[Bv hap];exact q
structure RepS(K:aB)(H:Hp)(α:List Addr)(δ:UE)(σ:L2.St):Prop where
 len:δ.length = σ.length
 at_:∀ (i:Nat) (u:U),δ[i]? = some (some u)->∃ v,σ[i]? = some (some v)/\RepU K H α u v
variable {δ:UE}{σ:L2.St}
theorem RepS.mono(g:Gr H α H' α')(h:RepS K H α δ σ):RepS K H' α' δ σ:=
 ⟨h.len,fun i u e=>let ⟨v,q,r⟩:=h.at_ i u e;⟨v,q,r.mono g⟩⟩
theorem RepS.set(h:RepS K H α δ σ)(i:Nat){v:V}(r:RepU K H α u v):RepS K H α (δ.set i (some u)) (σ.set i (some v)):=
 ⟨by simp[h.len],fun j w e=>by
  by_cases hj:i=j
  ·subst hj
   by_cases hi:i < δ.length
   ·rw[bK hi] at e
    cases e
    exact ⟨v,bK (by rw[<- h.len];exact hi),r⟩
   ·rw[eC (by simpa using hi)] at e;cases e
  ·rw[bE hj] at e
   obtain ⟨v',q,r'⟩:=h.at_ j w e
   exact ⟨v',by rw[bE hj];exact q,r'⟩⟩
variable {us:List U}
theorem RepS.start(N:List Str){vs:List V}(h:RepL K H α us vs):RepS K H α (us.map some++bF (N.length - us.length) none) (start N vs):=by
 have hl:=h.length
 refine ⟨by simp[L2.start,hl],fun i u e=>?_⟩
 by_cases hi:i < us.length
 ·rw[aK (by simpa using hi),bO] at e
  cases q:us[i]? with
  | none=>rw[q] at e;simp at e
  | some w=>
   rw[q] at e
   simp at e
   subst e
   obtain ⟨x,e2,r⟩:=h.get q
   refine ⟨x,?_,r⟩
   unfold L2.start
   rw[aK (by simp;omega),bO,e2];rfl
 ·rw[bD (by simpa using hi)] at e
  have:=dP e
  simp at this
abbrev FE:=UE->UH->Option (U×UH)
abbrev FT:=UE->UH->Option (Bool×UH)
abbrev FA:=UE->UH->Option (List U×UH)
inductive lE(K:aB)(f:FE)(σ:L2.St)(H:Hp)(Q:VK):Prop
 | mk (α:List Addr) (δ:UE) (L:UH) (A:Abs K H α L) (S:RepS K H α δ σ) (u:U) (L':UH) (e:f δ L=some (u,L')) (q:∀ v H' α',Gr H α H' α'->Abs K H' α' L'->RepU K H' α' u v->Q v H'):lE K f σ H Q
inductive lT(K:aB)(f:FT)(σ:L2.St)(H:Hp)(Q:Bool->Hp->Prop):Prop
 | mk (α:List Addr) (δ:UE) (L:UH) (A:Abs K H α L) (S:RepS K H α δ σ) (b:Bool) (L':UH) (e:f δ L=some (b,L')) (q:∀ H' α',Gr H α H' α'->Abs K H' α' L'->Q b H'):lT K f σ H Q
inductive lA(K:aB)(f:FA)(σ:L2.St)(H:Hp)(Q:List V->Hp->Prop):Prop
 | mk (α:List Addr) (δ:UE) (L:UH) (A:Abs K H α L) (S:RepS K H α δ σ) (us:List U) (L':UH) (e:f δ L=some (us,L')) (q:∀ vs H' α',Gr H α H' α'->Abs K H' α' L'->RepL K H' α' us vs->Q vs H'):lA K f σ H Q
def PEF(X:Cx)(e:Expr)(f:FE):Prop:=PE X e (lE X.K f)
def PTF(X:Cx)(e:Expr)(f:FT):Prop:=PT X e (lT X.K f)
def PWF(X:Cx)(e:Expr)(f:FT):Prop:=PW X e (lT X.K f)
def PAF(X:Cx)(es:List Expr)(f:FA):Prop:=PA X es (lA X.K f)
variable {X:Cx}{e:Expr}{es:List Expr}{t:TE}
section
theorem PE.imp{t':TE}(h:PE X e t)(hi:∀ σ H Q,t' σ H Q->t σ H Q):PE X e t':=fun pins s σ H Q I q=>h pins s σ H Q I (hi σ H Q q)
theorem PT.imp{t t':TT}(h:PT X e t)(hi:∀ σ H Q,t' σ H Q->t σ H Q):PT X e t':=fun pins s σ H Q I q=>h pins s σ H Q I (hi σ H Q q)
theorem PW.imp{t t':TT}(h:PW X e t)(hi:∀ σ H Q,t' σ H Q->t σ H Q):PW X e t':=fun wh pins s σ H Q I q=>h wh pins s σ H Q I (hi σ H Q q)
theorem PA.imp{t t':TA}(h:PA X es t)(hi:∀ σ H Q,t' σ H Q->t σ H Q):PA X es t':=fun pos pins s σ H Q I q=>h pos pins s σ H Q I (hi σ H Q q)
end
def Ae(i:Nat):FE:=fun δ L=>(δ[i]?).join.map fun u=>(u,L)
def fC(u:U):FE:=fun _ L=>some (u,L)
variable {x:Str}{b c:Expr}{pos:Pos}{r:R2}{sem:S2}{fa fb f:FE}{op:CmpOp}
section
variable {a:Expr}
theorem Ah(i:Nat)(hN:X.N[i]? = some x:=by rfl)(hv:Vis X.env.scope x:=by first | exact nV rfl | exact nF (nV rfl) | exact nF (nF rfl))
  (hd:(x == ("__debug__" : Str))=false:=by decide) (hcd:(x == ("__classdict__" : Str))=false:=by decide):PEF X (.Name x pos) (Ae i):=by
 refine PE.imp (Aoe hN hv hd hcd) ?_
 rintro σ H Q ⟨α,δ,L,A,S,u,L',e,q⟩
 unfold Ae at e
 cases h:δ[i]? with
 | none=>rw[h] at e;simp at e
 | some o=>
  cases o with
  | none=>rw[h] at e;simp at e
  | some w=>
   rw[h] at e
   simp at e
   obtain ⟨rfl,rfl⟩:=e
   obtain ⟨v,hv,r⟩:=S.at_ i w h
   exact ⟨v,hv,q v H α (.refl _ _) A r⟩
theorem Aae{v:V}(h:PE X e (tC v))(r:∀ H α,RepU X.K H α u v):PEF X e (fC u):=by
 refine PE.imp h ?_
 rintro σ H Q ⟨α,δ,L,A,S,w,L',e,q⟩
 unfold fC at e
 cases e
 exact q v H α (.refl _ _) A (r H α)
theorem Ai{i:Int}{j pos}:PEF X (.Constant (.int i) j pos) (fC (.int i)):=Aae Apl fun _ _=>rfl
theorem Ql{b:Bool}{j pos}:PEF X (.Constant (.bool b) j pos) (fC (.bl b)):=Aae Asd fun _ _=>rfl
theorem Lu{j pos}:PEF X (.Constant .none j pos) (fC .non):=Aae Ao4 fun _ _=>rfl
theorem Ap{j pos}:PEF X (.Constant (.str x) j pos) (fC (.str x)):=Aae Aoo fun _ _=>rfl
abbrev S2:=U->U->UH->Option (U×UH)
def Dp(K:aB)(r:R2)(sem:S2):Prop:=∀ (H:Hp) (α:List Addr) (L:UH) (u w:U) (x y:V) (z:U) (L':UH) (Q:VK),Abs K H α L->RepU K H α u x->RepU K H α w y->sem u w L=some (z,L') ->
 (∀ v H' α',Gr H α H' α'->Abs K H' α' L'->RepU K H' α' z v->Q v H')->r x y H Q
def f2(sem:S2)(fa fb:FE):FE:=fun δ L=>(fa δ L).bind fun p=>(fb δ p.2).bind fun q=>sem p.1 q.1 q.2
theorem Aa8(h:Dp K r sem):∀ σ H Q,lE K (f2 sem fa fb) σ H Q->tOp r (lE K fa) (lE K fb) σ H Q:=by
 rintro σ H Q ⟨α,δ,L,A,S,z,L3,e,q⟩
 obtain ⟨u,L1,e1,e⟩:=B9 e
 obtain ⟨w,L2,e2,e3⟩:=B9 e
 refine ⟨α,δ,L,A,S,u,L1,e1,fun x H1 α1 g1 A1 r1=>⟨α1,δ,L1,A1,S.mono g1,w,L2,e2,fun y H2 α2 g2 A2 r2=>?_⟩⟩
 exact h H2 α2 L2 u w x y z L3 Q A2 (r1.mono g2) r2 e3 fun v H3 α3 g3 A3 r3=>q v H3 α3 (g1.trans (g2.trans g3)) A3 r3
theorem Ax{op:Operator}(ho:OpR X (fM op) r)(h:Dp X.K r sem)(ha:PEF X a fa)(hb:PEF X b fb):PEF X (.BinOp a op b pos) (f2 sem fa fb):=PE.imp (Alm ho ha hb) (Aa8 h)
theorem E4(ho:OpR X (dC op) r)(h:Dp X.K r sem)(ha:PEF X a fa)(hb:PEF X b fb)(hm:behindInMarks op b=false):PEF X (.Compare a [op] [b] pos) (f2 sem fa fb):=PE.imp (Akn ho ha hb hm) (Aa8 h)
def Au(f:FE):FT:=fun δ L=>(f δ L).bind fun p=>match p.1 with | .bl k=>some (k,p.2) | _=>none
theorem Alk(ht:∀ σ H Q,lE K f σ H Q->t σ H Q):∀ σ H Q,lT K (Au f) σ H Q->Amd t σ H Q:=by
 rintro σ H Q ⟨α,δ,L,A,S,b,L1,e,q⟩
 obtain ⟨u,L2,e1,e⟩:=B9 e
 refine ht σ H _ ⟨α,δ,L,A,S,u,L2,e1,fun x H1 α1 g1 A1 r1=>?_⟩
 cases u with
 | bl k=>simp at e;obtain ⟨rfl,rfl⟩:=e;exact ⟨k,r1,q H1 α1 g1 A1⟩
 | _=>simp at e
theorem Be(ho:OpR X (dC op) r)(h:Dp X.K r sem)(ha:PEF X a fa)(hb:PEF X b fb)(hm:behindInMarks op b=false):PTF X (.Compare a [op] [b] pos) (Au (f2 sem fa fb)):=PT.imp (Aji ho ha hb hm) (Alk (Aa8 h))
end
variable {p:Pos}{g:FA}
section
variable {a:Expr}{rest:List Expr}
def N4(f g:FT):FT:=fun δ L=>(f δ L).bind fun p=>if p.1=true then g δ p.2 else some (false,p.2)
def fOr(f g:FT):FT:=fun δ L=>(f δ L).bind fun p=>if p.1=true then some (true,p.2) else g δ p.2
def Gi(f:FT):FT:=fun δ L=>(f δ L).map fun p=>(!p.1,p.2)
def Iw(f g:FE):FE:=fun δ L=>(f δ L).bind fun p=>match p.1 with | .bl k=>if k=true then g δ p.2 else some (.bl false,p.2) | _=>none
def Anf(f g:FE):FE:=fun δ L=>(f δ L).bind fun p=>match p.1 with | .bl k=>if k=true then some (.bl true,p.2) else g δ p.2 | _=>none
def Arf(f:FE):FE:=fun δ L=>(f δ L).bind fun p=>match p.1 with | .bl k=>some (.bl (!k),p.2) | _=>none
def fIf(c:FT)(f g:FE):FE:=fun δ L=>(c δ L).bind fun p=>if p.1=true then f δ p.2 else g δ p.2
theorem Lk{f:FT}(ha:PTF X a f):PWF X (.BoolOp .And [a] pos) f:=Aj8 ha
theorem Fs{f:FT}(ha:PTF X a f):PWF X (.BoolOp .Or [a] pos) f:=Aol ha
theorem N9{f g:FT}(ha:PTF X a f)(hb:PWF X (.BoolOp .And (b::rest) pos) g):PWF X (.BoolOp .And (a::b::rest) pos) (N4 f g):=by
 refine PW.imp (Aoi ha hb) ?_
 rintro σ H Q ⟨α,δ,L,A,S,z,L3,e,q⟩
 obtain ⟨u,L1,e1,e⟩:=B9 e
 refine ⟨α,δ,L,A,S,u,L1,e1,fun H1 α1 g1 A1=>?_⟩
 cases u with
 | true=>exact Xy ⟨α1,δ,L1,A1,S.mono g1,z,L3,e,fun H2 α2 g2 A2=>q H2 α2 (g1.trans g2) A2⟩
 | false=>cases e;exact W5 (q H1 α1 g1 A1)
theorem F7{f g:FT}(ha:PTF X a f)(hb:PWF X (.BoolOp .Or (b::rest) pos) g):PWF X (.BoolOp .Or (a::b::rest) pos) (fOr f g):=by
 refine PW.imp (Asf ha hb) ?_
 rintro σ H Q ⟨α,δ,L,A,S,z,L3,e,q⟩
 obtain ⟨u,L1,e1,e⟩:=B9 e
 refine ⟨α,δ,L,A,S,u,L1,e1,fun H1 α1 g1 A1=>?_⟩
 cases u with
 | false=>exact W5 ⟨α1,δ,L1,A1,S.mono g1,z,L3,e,fun H2 α2 g2 A2=>q H2 α2 (g1.trans g2) A2⟩
 | true=>cases e;exact Xy (q H1 α1 g1 A1)
theorem PWF.pt{f:FT}(h:PWF X e f):PTF X e f:=PW.pt h
theorem Fe{f:FT}(ha:PTF X a f):PTF X (.UnaryOp .Not a pos) (Gi f):=by
 refine PT.imp (Anu ha) ?_
 rintro σ H Q ⟨α,δ,L,A,S,z,L3,e,q⟩
 obtain ⟨u,L1,e1,e⟩:=X7 e
 cases e
 exact ⟨α,δ,L,A,S,u,L1,e1,fun H1 α1 g1 A1=>q H1 α1 g1 A1⟩
theorem M4{op}(h:PEF X a f):PEF X (.BoolOp op [a] pos) f:=An7 h
theorem Nd{g:FE}(ha:PEF X a f)(hb:PEF X (.BoolOp .And (b::rest) pos) g):PEF X (.BoolOp .And (a::b::rest) pos) (Iw f g):=by
 refine PE.imp (Am9 ha hb) ?_
 rintro σ H Q ⟨α,δ,L,A,S,z,L3,e,q⟩
 obtain ⟨u,L1,e1,e⟩:=B9 e
 refine ⟨α,δ,L,A,S,u,L1,e1,fun v H1 α1 g1 A1 r1=>?_⟩
 cases u with
 | bl k=>
  cases k with
  | true=>exact ⟨true,r1,Xy ⟨α1,δ,L1,A1,S.mono g1,z,L3,e,fun v H2 α2 g2 A2 r=>q v H2 α2 (g1.trans g2) A2 r⟩⟩
  | false=>cases e;exact ⟨false,r1,W5 (q _ H1 α1 g1 A1 rfl)⟩
 | _=>simp at e
theorem Ap6{g:FE}(ha:PEF X a f)(hb:PEF X (.BoolOp .Or (b::rest) pos) g):PEF X (.BoolOp .Or (a::b::rest) pos) (Anf f g):=by
 refine PE.imp (Asj ha hb) ?_
 rintro σ H Q ⟨α,δ,L,A,S,z,L3,e,q⟩
 obtain ⟨u,L1,e1,e⟩:=B9 e
 refine ⟨α,δ,L,A,S,u,L1,e1,fun v H1 α1 g1 A1 r1=>?_⟩
 cases u with
 | bl k=>
  cases k with
  | false=>exact ⟨false,r1,W5 ⟨α1,δ,L1,A1,S.mono g1,z,L3,e,fun v H2 α2 g2 A2 r=>q v H2 α2 (g1.trans g2) A2 r⟩⟩
  | true=>cases e;exact ⟨true,r1,Xy (q _ H1 α1 g1 A1 rfl)⟩
 | _=>simp at e
theorem Arz{t:FT}{g:FE}(hc:PTF X c t)(ha:PEF X a f)(hb:PEF X b g):PEF X (.IfExp c a b pos) (fIf t f g):=by
 refine PE.imp (Ago hc ha hb) ?_
 rintro σ H Q ⟨α,δ,L,A,S,z,L3,e,q⟩
 obtain ⟨u,L1,e1,e⟩:=B9 e
 refine ⟨α,δ,L,A,S,u,L1,e1,fun H1 α1 g1 A1=>?_⟩
 cases u with
 | true=>exact Xy ⟨α1,δ,L1,A1,S.mono g1,z,L3,e,fun v H2 α2 g2 A2 r=>q v H2 α2 (g1.trans g2) A2 r⟩
 | false=>exact W5 ⟨α1,δ,L1,A1,S.mono g1,z,L3,e,fun v H2 α2 g2 A2 r=>q v H2 α2 (g1.trans g2) A2 r⟩
def Ag:FA:=fun _ L=>some ([],L)
def Ad(f:FE)(g:FA):FA:=fun δ L=>(f δ L).bind fun p=>(g δ p.2).map fun q=>(p.1::q.1,q.2)
theorem Af:PAF X [] Ag:=by
 refine PA.imp Nh ?_
 rintro σ H Q ⟨α,δ,L,A,S,z,L3,e,q⟩
 cases e
 exact q [] H α (.refl _ _) A .nil
theorem Ac(ha:PEF X e f)(hr:PAF X es g)(hs:aN (e::es) X.env=(false,eval e X.env)::aN es X.env:=by rfl):PAF X (e::es) (Ad f g):=by
 refine PA.imp (Ga ha hr hs) ?_
 rintro σ H Q ⟨α,δ,L,A,S,z,L3,e,q⟩
 obtain ⟨u,L1,e1,e⟩:=B9 e
 obtain ⟨us,L2,e2,e⟩:=X7 e
 cases e
 exact ⟨α,δ,L,A,S,u,L1,e1,fun x H1 α1 g1 A1 r1=>⟨α1,δ,L1,A1,S.mono g1,us,L2,e2,fun xs H2 α2 g2 A2 r2=>q (x::xs) H2 α2 (g1.trans g2) A2 (.cons (r1.mono g2) r2)⟩⟩
def Ew(n:Nat):Bool:=decide (n<=sizeLine)
def Gj(g:FA):FE:=fun δ L=>(g δ L).bind fun p=>if Ew p.1.length=true then some (.tup p.1,p.2) else none
def Cv(g:FA):FE:=fun δ L=>(g δ L).bind fun p=>if Ew p.1.length=true then some (.ref p.2.length,p.2++[.lst p.1]) else none
theorem De(h:Ew n=true):n<=sizeLine:=of_decide_eq_true h
theorem Abs.tup{p:Addr}(A:Abs K H α L)(r:RepL K H α us xs)(hp:H p=none) :
  Gr H α (upd H p (.tup xs)) α/\Abs K (upd H p (.tup xs)) α L/\RepU K (upd H p (.tup xs)) α (.tup us) (.ref p):=by
 have g:Gr H α (upd H p (.tup xs)) α:=⟨⟨[],by simp⟩,.new hp _⟩
 refine ⟨g,⟨A.len,A.inj,fun i a o e1 e2=>(A.rep i a o e1 e2).other g (.inr fun u q=>by rw[Bv (By q hp)];exact q)⟩,?_⟩
 unfold RepU
 exact ⟨p,xs,rfl,.of upd_same,r.mono g⟩
theorem Abs.lst{p:Addr}(A:Abs K H α L)(r:RepL K H α us xs)(hp:H p=none) :
  Gr H α (upd H p (.lst xs)) (α ++ [p])/\Abs K (upd H p (.lst xs)) (α ++ [p]) (L++[.lst us])/\RepU K (upd H p (.lst xs)) (α ++ [p]) (.ref L.length) (.ref p):=by
 have g:Gr H α (upd H p (.lst xs)) (α ++ [p]):=⟨⟨[p],rfl⟩,.new hp _⟩
 obtain ⟨A',_⟩:=A.new (o:=.lst xs) (u:=.lst us) hp ⟨xs,upd_same,r.mono g⟩
 refine ⟨g,A',?_⟩
 unfold RepU
 exact ⟨p,by rw[<- A.len];simp,rfl⟩
theorem Hf{x1}(h:PAF X es g):PEF X (.Tuple es x1 pos) (Gj g):=by
 refine PE.imp (Afz h) ?_
 rintro σ H Q ⟨α,δ,L,A,S,z,L3,e,q⟩
 obtain ⟨us,L1,e1,e⟩:=B9 e
 refine ⟨α,δ,L,A,S,us,L1,e1,fun xs H1 α1 g1 A1 r1=>?_⟩
 simp only at e
 split at e
 ·rename_i hs
  cases e
  refine ⟨by rw[<- r1.length];exact De hs,fun p hp=>?_⟩
  obtain ⟨g2,A2,r2⟩:=A1.tup r1 hp
  exact q _ _ α1 (g1.trans g2) A2 r2
 ·cases e
theorem Ck(h:PAF X es g):PEF X (.List es pos) (Cv g):=by
 refine PE.imp (Ah0 h) ?_
 rintro σ H Q ⟨α,δ,L,A,S,z,L3,e,q⟩
 obtain ⟨us,L1,e1,e⟩:=B9 e
 refine ⟨α,δ,L,A,S,us,L1,e1,fun xs H1 α1 g1 A1 r1=>?_⟩
 simp only at e
 split at e
 ·rename_i hs
  cases e
  refine ⟨by rw[<- r1.length];exact De hs,fun p hp=>?_⟩
  obtain ⟨g2,A2,r2⟩:=A1.lst r1 hp
  exact q _ _ _ (g1.trans g2) A2 r2
 ·cases e
abbrev SC:=List U->UH->Option (U×UH)
def Pw(K:aB)(r:List V->Hp->VK->Prop)(sem:SC):Prop:=∀ (H:Hp) (α:List Addr) (L:UH) (us:List U) (xs:List V) (z:U) (L':UH) (Q:VK),Abs K H α L->RepL K H α us xs->sem us L=some (z,L') ->
 (∀ v H' α',Gr H α H' α'->Abs K H' α' L'->RepU K H' α' z v->Q v H')->r xs H Q
def Ba(sem:SC)(g:FA):FE:=fun δ L=>(g δ L).bind fun p=>sem p.1 p.2
theorem Amf{r:List V->Hp->VK->Prop}{sem:SC}(h:Pw K r sem):∀ σ H Q,lE K (Ba sem g) σ H Q->tCB r (lA K g) σ H Q:=by
 rintro σ H Q ⟨α,δ,L,A,S,z,L3,e,q⟩
 obtain ⟨us,L1,e1,e⟩:=B9 e
 exact ⟨α,δ,L,A,S,us,L1,e1,fun xs H1 α1 g1 A1 r1=>h H1 α1 L1 us xs z L3 Q A1 r1 e fun v H2 α2 g2 A2 r2=>q v H2 α2 (g1.trans g2) A2 r2⟩
variable {id T:String}{r:List V->Hp->VK->Prop}{sem:SC}
theorem Br(hc:CallR X (.builtin id) r)(h:Pw X.K r sem)(hg:Gl X x)(hm:X.mg x=none)(hv:fG x=some (.builtin id))(ha:PAF X (e::es) g)(hn:x ≠ "__name__" := by decide)(hdb:(x == ("__debug__" : Str))=false:=by decide)
  (he:aN (e::es) X.env=(false,eval e X.env)::aN es X.env:=by rfl) (hpl:(backTo pos (aN es X.env)).any (·.1)=false:=by rfl) :
  PEF X (.Call (.Name x p) (e::es) [] pos) (Ba sem g):=PE.imp (Lp hc hg hm hv ha hn hdb he hpl) (Amf h)
theorem Eo(hc:CallR X (.type T) r)(h:Pw X.K r sem)(hg:Gl X x)(hm:X.mg x=none)(hv:fG x=some (.type T))(ha:PAF X (e::es) g)(hn:x ≠ "__name__" := by decide)(hdb:(x == ("__debug__" : Str))=false:=by decide)
  (he:aN (e::es) X.env=(false,eval e X.env)::aN es X.env:=by rfl) (hpl:(backTo pos (aN es X.env)).any (·.1)=false:=by rfl) :
  PEF X (.Call (.Name x p) (e::es) [] pos) (Ba sem g):=PE.imp (Aeo hc hg hm hv ha hn hdb he hpl) (Amf h)
abbrev SM:=U->List U->UH->Option (U×UH)
def V8(K:aB)(r:V->List V->Hp->VK->Prop)(sem:SM):Prop:=∀ (H:Hp) (α:List Addr) (L:UH) (u:U) (us:List U) (x:V) (xs:List V) (z:U) (L':UH) (Q:VK),Abs K H α L->RepU K H α u x->RepL K H α us xs->sem u us L=some (z,L') ->
 (∀ v H' α',Gr H α H' α'->Abs K H' α' L'->RepU K H' α' z v->Q v H')->r x xs H Q
def tyU(T:String)(u:U)(L:UH):Bool:=match u with
 | .str _=>T == "str"
 | .int _=>T == "int"
 | .tup _=>T == "tuple"
 | .ref n=>match L[n]? with
  | some (.lst _)=>T == "list"
  | some (.ro _)=>T == "list"
  | some (.dic _)=>T == "dict"
  | _=>false
 | _=>false
theorem Ann{x:V}(A:Abs K H α L)(r:RepU K H α u x)(h:tyU T u L=true):tyV K T x H:=by
 cases u with
 | str y=>unfold RepU at r;subst r;simpa[tyU,tyV] using h
 | tz _=>simp[tyU] at h
 | int i=>unfold RepU at r;subst r;simpa[tyU,tyV] using h
 | ref n=>
  unfold RepU at r
  obtain ⟨a,ea,rfl⟩:=r
  unfold tyU at h
  simp only at h
  cases q:L[n]? with
  | none=>rw[q] at h;simp at h
  | some o=>
   have hr:=A.rep n a o ea q
   rw[q] at h
   cases o with
   | lst us=>simp at h;obtain ⟨xs,e,_⟩:=hr;exact .inl ⟨h,xs,.of e⟩
   | ro us=>simp at h;obtain ⟨xs,e,_⟩:=hr;exact .inl ⟨h,xs,e.sq⟩
   | dic kvs=>simp at h;obtain ⟨vs,e,_⟩:=hr;exact .inr (.inr (.inl ⟨h,.inl ⟨vs,e⟩⟩))
   | rod kvs=>simp at h
   | ins C fs=>simp at h
   | exc C fr fs=>simp at h
 | non=>simp[tyU] at h
 | bl b=>simp[tyU] at h
 | tup l=>
  unfold RepU at r
  obtain ⟨a,ys,rfl,sq,_⟩:=r
  have hT:T = "tuple" := by simpa[tyU] using h
  exact .inr (.inl ⟨hT,ys,sq⟩)
def Bt(T:String)(sem:SM)(f:FE)(g:FA):FE:=fun δ L=>(f δ L).bind fun p=>if tyU T p.1 p.2=true then (g δ p.2).bind fun q=>sem p.1 q.1 q.2 else none
theorem Art{r:V->List V->Hp->VK->Prop}{sem:SM}(h:V8 K r sem):∀ σ H Q,lE K (Bt T sem f g) σ H Q->tBM K T r (lE K f) (lA K g) σ H Q:=by
 rintro σ H Q ⟨α,δ,L,A,S,z,L3,e,q⟩
 obtain ⟨u,L1,e1,e⟩:=B9 e
 simp only at e
 split at e
 ·rename_i ht
  obtain ⟨us,L2,e2,e⟩:=B9 e
  refine ⟨α,δ,L,A,S,u,L1,e1,fun x H1 α1 g1 A1 r1=>⟨Ann A1 r1 ht,α1,δ,L1,A1,S.mono g1,us,L2,e2,fun xs H2 α2 g2 A2 r2=>?_⟩⟩
  exact h H2 α2 L2 u us x xs z L3 Q A2 (r1.mono g2) r2 e fun v H3 α3 g3 A3 r3=>q v H3 α3 (g1.trans (g2.trans g3)) A3 r3
 ·cases e
section
variable {o:Expr}{name:Str}{apos cpos:Pos}{T id:String}{r:V->List V->Hp->VK->Prop}{sem:SM}
theorem Ed(pa:PlainAttrs T)(slot:Slot T name id)(hty:typeOf (.builtin id)=pure (.type "method_descriptor"))(hm:MtR X id r)(h:V8 X.K r sem)(ho:PEF X o f)(ha:PAF X (e::es) g)
  (hbase:attributeBase o name X.env (eval o X.env)=eval o X.env:=by rfl)
  (hfew:((backTo cpos (aN (e::es) X.env)).all (fun x=>!x.1)&&(backToKw cpos (keywordEach [] X.env)).all (fun x=>x.1.isSome)&&decide ((e::es).length+([]:List fK).length+(if ([]:List fK).isEmpty then 0 else 1) < 30))=true:=by rfl)
  (hline:(apos.endLine == cpos.line)=true:=by rfl) (hst:aN (e::es) X.env=(false,eval e X.env)::aN es X.env:=by rfl) (hpl:(backTo cpos (aN es X.env)).any (·.1)=false:=by rfl) :
  PEF X (.Call (.Attribute o name apos) (e::es) [] cpos) (Bt T sem f g):=
 PE.imp (Amu pa slot hty hm ho ha hbase hfew hline hst hpl) (Art h)
end
end
abbrev FN:=List U->UH->Option (U×UH)
inductive spF(K:aB)(n:Nat)(f:FN)(vs:List V)(H:Hp)(Q:VK)(E:XK):Prop
 | mk (α:List Addr) (L:UH) (us:List U) (A:Abs K H α L) (r:RepL K H α us vs) (hl:us.length=n) (u:U) (L':UH) (e:f us L=some (u,L')) (q:∀ v H' α',Gr H α H' α'->Abs K H' α' L'->RepU K H' α' u v->Q v H'):spF K n f vs H Q E
variable {k:Nat}
section
variable {a o:Expr}{f:Addr}{fd:dN}{ps:List Str}{F:FN}{fc:FE}
def A0(n:Nat)(F:FN)(g:FA):FE:=fun δ L=>(g δ L).bind fun p=>if p.1.length=n then F p.1 p.2 else none
theorem Ajm(hF:FnOk X.prog X.w X.K X.mg X.base CX0 k f fd ps (spF X.K n F))(hr:Room k X.A)(hg:Gl X x)(hm:X.mg x=some (.ref f))(hk:cN X.K (.ref f)=true)(hb:Binds X.K fd ps [])
  (ha:PAF X (e::es) g) (hdb:(x == ("__debug__" : Str))=false:=by decide) (he:aN (e::es) X.env=(false,eval e X.env)::aN es X.env:=by rfl) (hpl:(backTo pos (aN es X.env)).any (·.1)=false:=by rfl) :
  PEF X (.Call (.Name x p) (e::es) [] pos) (A0 n F g):=by
 refine PE.imp (Ajb hF hr hg hm hk hb .nil Ami ha hdb he hpl) ?_
 rintro σ H Q ⟨α,δ,L,A,S,z,L3,e,q⟩
 obtain ⟨us,L1,e1,e⟩:=B9 e
 simp only at e
 split at e
 ·rename_i hl
  refine ⟨α,δ,L,A,S,us,L1,e1,fun xs H1 α1 g1 A1 r1=>?_⟩
  exact ⟨α1,L1,us,A1,by rw[cR];exact r1,hl,z,L3,e,fun v H2 α2 g2 A2 r2=>q v H2 α2 (g1.trans g2) A2 r2⟩
 ·cases e
theorem Bj(hr:IxR X r)(h:Dp X.K r sem)(ha:PEF X a fa)(hb:PEF X b fb)(hs:Acj b):PEF X (.Subscript a b pos) (f2 sem fa fb):=PE.imp (Arp hr ha hb hs) (Aa8 h)
abbrev FO:=UE->UH->Option (Option Int×UH)
inductive lO(K:aB)(f:FO)(σ:L2.St)(H:Hp)(Q:Option Int->Hp->Prop):Prop
 | mk (α:List Addr) (δ:UE) (L:UH) (A:Abs K H α L) (S:RepS K H α δ σ) (i:Option Int) (L':UH) (e:f δ L=some (i,L')) (q:∀ H' α',Gr H α H' α'->Abs K H' α' L'->Q i H'):lO K f σ H Q
def POF(X:Cx)(e:Option Expr)(f:FO):Prop:=PO X e (lO X.K f)
def C4:FO:=fun _ L=>some (none,L)
def Ff(f:FE):FO:=fun δ L=>(f δ L).bind fun p=>match p.1 with | .int i=>some (some i,p.2) | _=>none
theorem PO.imp{e:Option Expr}{t t':TO}(h:PO X e t)(hi:∀ σ H Q,t' σ H Q->t σ H Q):PO X e t':=fun pins s σ H Q I q=>h pins s σ H Q I (hi σ H Q q)
theorem Fi:POF X none C4:=by
 refine PO.imp Ajn ?_
 rintro σ H Q ⟨α,δ,L,A,S,z,L3,e,q⟩
 cases e
 exact q H α (.refl _ _) A
theorem Fh(h:PEF X e fa):POF X (some e) (Ff fa):=by
 refine PO.imp (Aj6 h) ?_
 rintro σ H Q ⟨α,δ,L,A,S,z,L3,e,q⟩
 obtain ⟨u,L1,e1,e⟩:=B9 e
 refine ⟨α,δ,L,A,S,u,L1,e1,fun x H1 α1 g1 A1 r1=>?_⟩
 cases u with
 | int i=>cases e;exact ⟨i,r1,q H1 α1 g1 A1⟩
 | _=>simp at e
abbrev SS:=U->Option Int->Option Int->UH->Option (U×UH)
def Agn(K:aB)(r:V->Option Int->Option Int->Hp->VK->Prop)(sem:SS):Prop:=∀ (H:Hp) (α:List Addr) (L:UH) (u:U) (x:V) (lo hi:Option Int) (z:U) (L':UH) (Q:VK),Abs K H α L->RepU K H α u x->sem u lo hi L=some (z,L') ->
 (∀ v H' α',Gr H α H' α'->Abs K H' α' L'->RepU K H' α' z v->Q v H')->r x lo hi H Q
def fSl(sem:SS)(f:FE)(l h:FO):FE:=fun δ L=>(f δ L).bind fun p=>(l δ p.2).bind fun q=>(h δ q.2).bind fun r=>sem p.1 q.1 r.1 r.2
theorem Fo{r:V->Option Int->Option Int->Hp->VK->Prop}{sem:SS}{lo hi:Option Expr}{fl fh:FO}{p2:Pos}(hr:SlR X r)(h:Agn X.K r sem)(he:PEF X e fa)(hl:POF X lo fl)(hu:POF X hi fh):PEF X (.Subscript e (.Slice lo hi none p2) pos) (fSl sem fa fl fh):=by
 refine PE.imp (Agx hr he hl hu) ?_
 rintro σ H Q ⟨α,δ,L,A,S,z,L3,e,q⟩
 obtain ⟨u,L1,e1,e⟩:=B9 e
 obtain ⟨i,L2,e2,e⟩:=B9 e
 obtain ⟨j,L4,e3,e⟩:=B9 e
 refine ⟨α,δ,L,A,S,u,L1,e1,fun x H1 α1 g1 A1 r1=>⟨α1,δ,L1,A1,S.mono g1,i,L2,e2,fun H2 α2 g2 A2=>⟨α2,δ,L2,A2,(S.mono g1).mono g2,j,L4,e3,fun H3 α3 g3 A3=>?_⟩⟩⟩
 exact h H3 α3 L4 u x i j z L3 Q A3 ((r1.mono g2).mono g3) e fun v H4 α4 g4 A4 r4=>q v H4 α4 (g1.trans (g2.trans (g3.trans g4))) A4 r4
def Afr(f:FE):FE:=fun δ L=>(f δ L).bind fun p=>match p.1 with | .int i=>some (.int (-i),p.2) | _=>none
theorem Anr(ha:PEF X a fa):PEF X (.UnaryOp .USub a pos) (Afr fa):=by
 refine PE.imp (Asy An9 ha) ?_
 rintro σ H Q ⟨α,δ,L,A,S,z,L3,e,q⟩
 obtain ⟨u,L1,e1,e⟩:=B9 e
 refine ⟨α,δ,L,A,S,u,L1,e1,fun x H1 α1 g1 A1 r1=>?_⟩
 cases u with
 | int i=>cases e;exact ⟨i,r1,q _ H1 α1 g1 A1 rfl⟩
 | _=>simp at e
def Km(s1 s2:S2)(fa fb fc:FE):FE:=fun δ L=>(fa δ L).bind fun p=>(fb δ p.2).bind fun q=>(s1 p.1 q.1 q.2).bind fun r=>match r.1 with
 | .bl k=>if k=true then (fc δ r.2).bind fun t=>s2 q.1 t.1 t.2 else some (.bl false,r.2)
 | _=>none
theorem Af3{r':R2}{s1 s2:S2}(h1:Dp K r s1)(h2:Dp K r' s2):∀ σ H Q,lE K (Km s1 s2 fa fb fc) σ H Q->Af2 r r' (lE K fa) (lE K fb) (lE K fc) σ H Q:=by
 rintro σ H Q ⟨α,δ,L,A,S,z,L3,e,q⟩
 obtain ⟨u,L1,e1,e⟩:=B9 e
 obtain ⟨w,L2,e2,e⟩:=B9 e
 obtain ⟨t,L4,e3,e⟩:=B9 e
 refine ⟨α,δ,L,A,S,u,L1,e1,fun x H1 α1 g1 A1 r1=>⟨α1,δ,L1,A1,S.mono g1,w,L2,e2,fun y H2 α2 g2 A2 r2=>?_⟩⟩
 refine h1 H2 α2 L2 u w x y t L4 _ A2 (r1.mono g2) r2 e3 fun v H3 α3 g3 A3 r3=>?_
 cases t with
 | bl k=>
  refine ⟨k,r3,?_⟩
  cases k with
  | true=>
   obtain ⟨s,L5,e4,e⟩:=B9 e
   refine Xy ⟨α3,δ,L4,A3,((S.mono g1).mono g2).mono g3,s,L5,e4,fun y' H4 α4 g4 A4 r4=>?_⟩
   exact h2 H4 α4 L5 w s y y' z L3 Q A4 ((r2.mono g3).mono g4) r4 e fun v H5 α5 g5 A5 r5=>q v H5 α5 (g1.trans (g2.trans (g3.trans (g4.trans g5)))) A5 r5
  | false=>cases e;exact W5 (q _ H3 α3 (g1.trans (g2.trans g3)) A3 rfl)
 | _=>simp at e
theorem Xz{op':CmpOp}{r':R2}{s1 s2:S2}(ho:OpR X (dC op) r)(ho':OpR X (dC op') r')(h1:Dp X.K r s1)(h2:Dp X.K r' s2)(ha:PEF X a fa)(hb:PEF X b fb)(hc:PEF X c fc)(hm:lastMarks [op,op'] [b,c]=false:=by with_unfolding_all rfl) :
  PEF X (.Compare a [op,op'] [b,c] pos) (Km s1 s2 fa fb fc):=PE.imp (Ahb ho ho' ha hb hc hm) (Af3 h1 h2)
def Ae6(u:U)(L:UH):Option Bool:=match u with
 | .non=>some false
 | .bl b=>some b
 | .int i=>some (i != 0)
 | .str y=>if Ew y.length=true then some ((y.length:Int) != 0) else none
 | .tz _=>none
 | .tup l=>some (!l.isEmpty)
 | .ref n=>match L[n]? with
  | some (.lst xs)=>some (!xs.isEmpty)
  | some (.ro xs)=>some (!xs.isEmpty)
  | some (.dic kvs)=>some (!kvs.isEmpty)
  | _=>none
theorem Jl{α β:Type}{l:List α}{m:List β}(h:l.length=m.length):l.isEmpty=m.isEmpty:=by
 cases l <;> cases m <;> simp_all
theorem Alf{x:V}{k:Bool}(A:Abs K H α L)(r:RepU K H α u x)(h:Ae6 u L=some k):Apd K x H k:=by
 cases u with
 | non=>unfold RepU at r;subst r;exact (bL h).symm
 | bl b=>unfold RepU at r;subst r;exact (bL h).symm
 | int i=>unfold RepU at r;subst r;exact (bL h).symm
 | tz _=>cases h
 | str y=>
  unfold RepU at r;subst r
  unfold Ae6 at h
  simp only at h
  split at h
  ·rename_i hs;cases h;exact ⟨De hs,rfl⟩
  ·cases h
 | tup l=>
  unfold RepU at r
  obtain ⟨a,xs,rfl,s,r⟩:=r
  exact .inr (.inl ⟨xs,s,by rw[<- Jl r.length];exact (bL h).symm⟩)
 | ref n=>
  unfold RepU at r
  obtain ⟨a,ea,rfl⟩:=r
  unfold Ae6 at h
  simp only at h
  cases q:L[n]? with
  | none=>rw[q] at h;simp at h
  | some o=>
   have hr:=A.rep n a o ea q
   rw[q] at h
   cases o with
   | lst us=>obtain ⟨xs,e,r⟩:=hr;exact .inl ⟨xs,.of e,by rw[<- Jl r.length];exact (bL h).symm⟩
   | ro us=>obtain ⟨xs,e,r⟩:=hr;exact .inl ⟨xs,e.sq,by rw[<- Jl r.length];exact (bL h).symm⟩
   | dic kvs=>obtain ⟨vs,e,ek,_⟩:=hr;exact .inr (.inr ⟨vs,e,by rw[<- Jl (show kvs.length=vs.length by simpa using congrArg mY ek)];exact (bL h).symm⟩)
   | rod kvs=>simp at h
   | ins C fs=>simp at h
   | exc C fr fs=>simp at h
def Em(f:FE):FT:=fun δ L=>(f δ L).bind fun p=>(Ae6 p.1 p.2).map fun k=>(k,p.2)
theorem Dl(ha:PEF X a fa)(he:∀ whole,isTrue a X.env whole=(do let v <- whole;standAt a.pos;holding [v] (truthy v)):=by intro _;rfl):PTF X a (Em fa):=by
 refine PT.imp (Agl ha he) ?_
 rintro σ H Q ⟨α,δ,L,A,S,z,L3,e,q⟩
 obtain ⟨u,L1,e1,e⟩:=B9 e
 obtain ⟨k,e2,e⟩:=mpd e
 cases e
 exact ⟨α,δ,L,A,S,u,_,e1,fun x H1 α1 g1 A1 r1=>⟨_,Alf A1 r1 e2,q H1 α1 g1 A1⟩⟩
end
inductive Fl where
 | nx (δ:UE) | rt (u:U) | bk (δ:UE) | ct (δ:UE)
abbrev FS:=UE->UH->Option (Fl×UH)
def Post(K:aB)(D:Ends)(H:Hp)(α:List Addr)(fl:Fl)(L':UH):Prop:=match fl with
 | .nx δ'=>∀ σ' H' α',Gr H α H' α'->Abs K H' α' L'->RepS K H' α' δ' σ'->D.nx σ' H'
 | .bk δ'=>∀ σ' H' α',Gr H α H' α'->Abs K H' α' L'->RepS K H' α' δ' σ'->D.bk σ' H'
 | .ct δ'=>∀ σ' H' α',Gr H α H' α'->Abs K H' α' L'->RepS K H' α' δ' σ'->D.ct σ' H'
 | .rt u=>∀ v H' α',Gr H α H' α'->Abs K H' α' L'->RepU K H' α' u v->D.rt v H'
theorem Post.from{D:Ends}{α1:List Addr}{fl:Fl}{L':UH}(g:Gr H α H1 α1)(p:Post K D H α fl L'):Post K D H1 α1 fl L':=by
 cases fl with
 | nx δ=>exact fun σ' H' α' g'=>p σ' H' α' (g.trans g')
 | bk δ=>exact fun σ' H' α' g'=>p σ' H' α' (g.trans g')
 | ct δ=>exact fun σ' H' α' g'=>p σ' H' α' (g.trans g')
 | rt u=>exact fun v H' α' g'=>p v H' α' (g.trans g')
inductive lS(K:aB)(f:FS)(D:Ends)(σ:L2.St)(H:Hp):Prop
 | mk (α:List Addr) (δ:UE) (L:UH) (A:Abs K H α L) (S:RepS K H α δ σ) (fl:Fl) (L':UH) (e:f δ L=some (fl,L')) (q:Post K D H α fl L'):lS K f D σ H
def PSF(X:Cx)(st:Stmt)(f:FS):Prop:=PS X st (lS X.K f)
def Qp(X:Cx)(st:List Stmt)(f:FS):Prop:=PSs X st (lS X.K f)
variable {fe:FE}
section
variable {st:Stmt}{rest:List Stmt}{f g:FS}
theorem PS.imp{t t':TS}(h:PS X st t)(hi:∀ D σ H,t' D σ H->t D σ H):PS X st t':=fun pins s σ H D I q=>h pins s σ H D I (hi D σ H q)
theorem PSs.imp{sts:List Stmt}{t t':TS}(h:PSs X sts t)(hi:∀ D σ H,t' D σ H->t D σ H):PSs X sts t':=fun pins s σ H D I q=>h pins s σ H D I (hi D σ H q)
def B0:FS:=fun δ L=>some (.nx δ,L)
def A9(f g:FS):FS:=fun δ L=>(f δ L).bind fun p=>match p.1 with | .nx δ'=>g δ' p.2 | fl=>some (fl,p.2)
theorem Bu:Qp X [] B0:=by
 refine PSs.imp Ai2 ?_
 rintro D σ H ⟨α,δ,L,A,S,fl,L',e,q⟩
 cases e
 exact q σ H α (.refl _ _) A S
theorem Aj(h1:PSF X st f)(h2:Qp X rest g):Qp X (st::rest) (A9 f g):=by
 refine PSs.imp (Wh h1 h2) ?_
 rintro D σ H ⟨α,δ,L,A,S,fl,L',e,q⟩
 obtain ⟨fl1,L1,e1,e⟩:=B9 e
 refine ⟨α,δ,L,A,S,fl1,L1,e1,?_⟩
 cases fl1 with
 | nx δ1=>exact fun σ1 H1 α1 g1 A1 S1=>⟨α1,δ1,L1,A1,S1,fl,L',e,q.from g1⟩
 | rt u=>cases e;exact q
 | bk δ1=>cases e;exact q
 | ct δ1=>cases e;exact q
theorem Ak(h1:PSF X st f):Qp X [st] f:=Abq h1
def Ce(f:FE):FS:=fun δ L=>(f δ L).map fun p=>(.rt p.1,p.2)
def C3(f:FE):FS:=fun δ L=>(f δ L).map fun p=>(.nx δ,p.2)
def Ar2:FS:=fun _ L=>some (.rt .non,L)
theorem Bh(he:PEF X e fe):PSF X (.Return (some e) pos) (Ce fe):=by
 refine PS.imp (Anv he) ?_
 rintro D σ H ⟨α,δ,L,A,S,fl,L',e,q⟩
 obtain ⟨u,L1,e1,e⟩:=X7 e
 cases e
 exact ⟨α,δ,L,A,S,u,_,e1,fun v H1 α1 g1 A1 r1=>q v H1 α1 g1 A1 r1⟩
theorem C7(he:PEF X e fe)(hs:swapsWith e none pos.line X.env=pure false:=by rfl):PSF X (.Expr e pos) (C3 fe):=by
 refine PS.imp (Aj5 he hs) ?_
 rintro D σ H ⟨α,δ,L,A,S,fl,L',e,q⟩
 obtain ⟨u,L1,e1,e⟩:=X7 e
 cases e
 exact ⟨α,δ,L,A,S,u,_,e1,fun v H1 α1 g1 A1 r1=>q σ H1 α1 g1 A1 (S.mono g1)⟩
def B7(c:FT)(f g:FS):FS:=fun δ L=>(c δ L).bind fun p=>if p.1=true then f δ p.2 else g δ p.2
theorem Bw{a b:List Stmt}{tc:FT}(hc:PTF X c tc)(ha:Qp X a f)(hb:Qp X b g):PSF X (.If c a b pos) (B7 tc f g):=by
 refine PS.imp (As6 hc ha hb) ?_
 rintro D σ H ⟨α,δ,L,A,S,fl,L',e,q⟩
 obtain ⟨u,L1,e1,e⟩:=B9 e
 refine ⟨α,δ,L,A,S,u,L1,e1,fun H1 α1 g1 A1=>?_⟩
 cases u with
 | true=>exact Xy ⟨α1,δ,L1,A1,S.mono g1,fl,L',e,q.from g1⟩
 | false=>exact W5 ⟨α1,δ,L1,A1,S.mono g1,fl,L',e,q.from g1⟩
def Na:FS:=fun _ _=>none
theorem Uo:PSF X st Na:=by
 refine PS.imp Afn ?_
 rintro D σ H ⟨α,δ,L,A,S,fl,L',e,q⟩
 cases e
end
abbrev FG:=U->UE->UH->Option (UE×UH)
abbrev FGs:=List U->UE->UH->Option (UE×UH)
inductive lG(K:aB)(f:FG)(v:V)(σ:L2.St)(H:Hp)(Q:L2.St->Hp->Prop):Prop
 | mk (α:List Addr) (δ:UE) (L:UH) (u:U) (A:Abs K H α L) (S:RepS K H α δ σ) (r:RepU K H α u v) (δ':UE) (L':UH) (e:f u δ L=some (δ',L')) (q:∀ σ' H' α',Gr H α H' α'->Abs K H' α' L'->RepS K H' α' δ' σ'->Q σ' H'):lG K f v σ H Q
inductive lGs(K:aB)(f:FGs)(vs:List V)(σ:L2.St)(H:Hp)(Q:L2.St->Hp->Prop):Prop
 | mk (α:List Addr) (δ:UE) (L:UH) (us:List U) (A:Abs K H α L) (S:RepS K H α δ σ) (r:RepL K H α us vs) (δ':UE) (L':UH) (e:f us δ L=some (δ',L')) (q:∀ σ' H' α',Gr H α H' α'->Abs K H' α' L'->RepS K H' α' δ' σ'->Q σ' H'):lGs K f vs σ H Q
def PGF(X:Cx)(e:Expr)(f:FG):Prop:=PG X e (lG X.K f)
def Aku(X:Cx)(es:List Expr)(f:FGs):Prop:=PGs X es (lGs X.K f)
variable {i:Nat}{tg:Expr}
section
theorem PG.imp{t t':TG}(h:PG X e t)(hi:∀ v σ H Q,t' v σ H Q->t v σ H Q):PG X e t':=fun pins s σ H v u Q I r q=>h pins s σ H v u Q I r (hi v σ H Q q)
theorem PGs.imp{t t':TGs}(h:PGs X es t)(hi:∀ v σ H Q,t' v σ H Q->t v σ H Q):PGs X es t':=fun pins s σ H v u Q I r q=>h pins s σ H v u Q I r (hi v σ H Q q)
def gN(i:Nat):FG:=fun u δ L=>some (δ.set i (some u),L)
theorem Bo(hN:X.N.Nodup)(hi:X.N[i]? = some x:=by rfl)(hx:Loc X.env.scope x:=by first | exact nV rfl | exact nF rfl)(hf:X.fn x=true\/X.env.scope.names.lookup x=some .local:=by first | exact .inl rfl | exact .inr rfl):PGF X (.Name x pos) (gN i):=by
 refine PG.imp (Ac8 (i:=i) hN hi hx hf) ?_
 rintro v σ H Q ⟨α,δ,L,u,A,S,r,δ',L',e,q⟩
 cases e
 exact q _ H α (.refl _ _) A (S.set i r)
def gNil:FGs:=fun us δ L=>match us with | []=>some (δ,L) | _=>none
def gCons(f:FG)(g:FGs):FGs:=fun us δ L=>match us with | []=>none | u::r=>(f u δ L).bind fun p=>g r p.1 p.2
theorem Ie:Aku X [] MR.gNil:=by
 refine PGs.imp Akh ?_
 rintro vs σ H Q ⟨α,δ,L,us,A,S,r,δ',L',e,q⟩
 cases us with
 | nil=>cases e;exact ⟨by unfold RepL at r;exact r,q σ H α (.refl _ _) A S⟩
 | cons u us=>cases e
theorem Cw{f:FG}{g:FGs}(h1:PGF X e f)(h2:Aku X es g)(hs:(assignEach (e::es) X.env).map (·.2)=assign e X.env::(assignEach es X.env).map (·.2):=by rfl):Aku X (e::es) (MR.gCons f g):=by
 refine PGs.imp (Aia h1 h2 hs) ?_
 rintro vs σ H Q ⟨α,δ,L,us,A,S,r,δ',L',e,q⟩
 cases us with
 | nil=>cases e
 | cons u us=>
  unfold RepL at r
  obtain ⟨x,xs,rfl,r1,r2⟩:=r
  obtain ⟨δ1,L1,e1,e⟩:=B9 e
  refine ⟨x,xs,rfl,α,δ,L,u,A,S,r1,δ1,L1,e1,fun σ1 H1 α1 g1 A1 S1=>?_⟩
  exact ⟨α1,δ1,L1,us,A1,S1,r2.mono g1,δ',L',e,fun σ2 H2 α2 g2 A2 S2=>q σ2 H2 α2 (g1.trans g2) A2 S2⟩
def gTup(n:Nat)(g:FGs):FG:=fun u δ L=>match u with | .tup us=>if us.length=n then g us δ L else none | _=>none
theorem Kg{g:FGs}(hc:X.calm=true)(h:Aku X es g)(hn:(assignEach es X.env).length=n:=by rfl)(hst:(assignEach es X.env).findIdx? (·.1)=none:=by rfl):PGF X (.Tuple es k pos) (MR.gTup n g):=by
 refine PG.imp (Ao8 hc h hn hst) ?_
 rintro v σ H Q ⟨α,δ,L,u,A,S,r,δ',L',e,q⟩
 cases u with
 | tup us=>
  unfold RepU at r
  obtain ⟨a,xs,rfl,s,r⟩:=r
  unfold MR.gTup at e
  simp only at e
  split at e
  ·rename_i hl
   exact ⟨a,xs,rfl,s,by rw[<- r.length];exact hl,α,δ,L,us,A,S,r,δ',L',e,q⟩
  ·cases e
 | _=>simp[MR.gTup] at e
def A8(fe:FE)(g:FG):FS:=fun δ L=>(fe δ L).bind fun p=>(g p.1 δ p.2).map fun q=>(.nx q.1,q.2)
theorem Jk{g:FG}(he:PEF X e fe)(hg:PGF X tg g)(hs:swapsWithSole [tg] e pos.line X.env=pure false:=by rfl)(hw:swappedStores [tg] e X.env=pure none:=by rfl)(h1:(assignEach [tg] X.env).map (·.2)=[assign tg X.env]:=by rfl) :
  PSF X (.Assign [tg] e pos) (A8 fe g):=by
 refine PS.imp (Aok he hg hs hw h1) ?_
 rintro D σ H ⟨α,δ,L,A,S,fl,L',e,q⟩
 obtain ⟨u,L1,e1,e⟩:=B9 e
 obtain ⟨δ2,L2,e2,e⟩:=X7 e
 cases e
 exact ⟨α,δ,L,A,S,u,L1,e1,fun v H1 α1 g1 A1 r1=>⟨α1,δ,L1,u,A1,S.mono g1,r1,δ2,_,e2,fun σ2 H2 α2 g2 A2 S2=>q σ2 H2 α2 (g1.trans g2) A2 S2⟩⟩
theorem An{i:Nat}{x:Str}{fe:FE}{pos':Pos}(hN:X.N.Nodup)(he:PEF X e fe)(hi:X.N[i]? = some x:=by rfl)(hx:Loc X.env.scope x:=by first | exact nV rfl | exact nF rfl)
  (hs:swapsWith e (some (.Name x pos')) pos.line X.env=pure false:=by rfl) (hf:X.fn x=true\/X.env.scope.names.lookup x=some .local:=by first | exact .inl rfl | exact .inr rfl) :
  PSF X (.Assign [.Name x pos'] e pos) (A8 fe (gN i)):=by
 refine PS.imp (Ah1 (i:=i) hN hi hx he hs hf) ?_
 rintro D σ H ⟨α,δ,L,A,S,fl,L',e,q⟩
 obtain ⟨u,L1,e1,e⟩:=B9 e
 obtain ⟨δ2,L2,e2,e⟩:=X7 e
 cases e
 cases e2
 exact ⟨α,δ,L,A,S,u,_,e1,fun v H1 α1 g1 A1 r1=>q _ H1 α1 g1 A1 ((S.mono g1).set i r1)⟩
end
def lstAt(L:UH)(n:Nat):Option (List U):=match L[n]? with
 | some (.lst us)=>some us
 | _=>none
def Az(L:UH)(n:Nat):Option (List U):=match L[n]? with
 | some (.lst us)=>some us
 | some (.ro us)=>some us
 | _=>none
inductive IU where
 | seq (us:List U) | ref (n:Nat) | enm (n:Nat) | zip2 (n m:Nat) | zipT (us:List U) (m:Nat) | zipL (n:Nat) (ws:List U)
def Rh:Option U->Option U->Option U
 | some x,some y=>some (.tup [x,y])
 | _,_=>none
def IU.at(i:IU)(k:Nat)(L:UH):Option (Option U):=match i with
 | .seq us=>some us[k]?
 | .ref n=>match L[n]? with
  | some (.lst us)=>some us[k]?
  | some (.ro us)=>some us[k]?
  | _=>none
 | .enm n=>(Az L n).map fun us=>(us[k]?).map fun u=>.tup [.int k,u]
 | .zip2 n m=>(Az L n).bind fun us=>(Az L m).map fun ws=>Rh us[k]? ws[k]?
 | .zipT us m=>(Az L m).map fun ws=>Rh us[k]? ws[k]?
 | .zipL n ws=>(Az L n).map fun us=>Rh us[k]? ws[k]?
def IU.size(i:IU)(L:UH):Nat:=match i with
 | .seq us=>us.length
 | .ref n=>match L[n]? with
  | some (.lst us)=>us.length
  | some (.ro us)=>us.length
  | _=>0
 | .enm n=>match Az L n with
  | some us=>us.length
  | none=>0
 | .zip2 n m=>match Az L n,Az L m with
  | some us,some ws=>min us.length ws.length
  | _,_=>0
 | .zipT us m=>match Az L m with
  | some ws=>min us.length ws.length
  | none=>0
 | .zipL n ws=>match Az L n with
  | some us=>min us.length ws.length
  | none=>0
abbrev FI:=UE->UH->Option (IU×UH)
def Og(K:aB)(J:It)(i:IU)(H:Hp)(α:List Addr):Prop:=∀ (H2:Hp) (α2:List Addr) (L2:UH),Gr H α H2 α2->Abs K H2 α2 L2->∀ k:Nat,
 (∀ u,i.at k L2=some (some u)->J.go k H2/\∀ x H3,J.yld k H2 x H3->Gr H2 α2 H3 α2/\Abs K H3 α2 L2/\RepU K H3 α2 u x)/\(i.at k L2=some none->J.stop k H2)
inductive lI(K:aB)(f:FI)(σ:L2.St)(H:Hp)(R:It->Hp->Prop):Prop
 | mk (α:List Addr) (δ:UE) (L:UH) (A:Abs K H α L) (S:RepS K H α δ σ) (i:IU) (L':UH) (e:f δ L=some (i,L')) (q:∀ J H' α',Gr H α H' α'->Abs K H' α' L'->Og K J i H' α'->R J H'):lI K f σ H R
def PIF(X:Cx)(tg iter:Expr)(f:FI):Prop:=PI X tg iter (lI X.K f)
variable {iter:Expr}{fi:FI}
section
variable {l:Expr}
theorem PI.imp{t t':TI}(h:PI X tg iter t)(hi:∀ σ H R,t' σ H R->t σ H R):PI X tg iter t':=fun pins s σ H R I q=>h pins s σ H R I (hi σ H R q)
theorem PI.or{t t':TI}(h:PI X tg iter t)(h':PI X tg iter t'):PI X tg iter (fun σ H R=>t σ H R\/t' σ H R):=fun pins s σ H R I q=>by
 rcases q with q | q
 ·exact h pins s σ H R I q
 ·exact h' pins s σ H R I q
def Tw(u:U)(L:UH):Option IU:=match u with
 | .tup us=>some (.seq us)
 | .ref n=>match L[n]? with
  | some (.lst _)=>some (.ref n)
  | some (.ro _)=>some (.ref n)
  | _=>none
 | _=>none
theorem Acg(ea:α[n]? = some a):Og K (Itl K a) (.ref n) H α:=by
 intro H2 α2 L2 g A2 k
 have ea2:=g.at ea
 have go:∀ (us:List U) (xs:List V),SqL K H2 a xs->RepL K H2 α2 us xs->(∀ ys,SqL K H2 a ys->True)->(∀ u,us[k]? = some u->(Itl K a).go k H2/\∀ x H3,(Itl K a).yld k H2 x H3->Gr H2 α2 H3 α2/\Abs K H3 α2 L2/\RepU K H3 α2 u x)/\(us[k]? = none->(Itl K a).stop k H2):=by
  intro us xs sq r _
  refine ⟨fun u eu=>?_,fun eu=>?_⟩
  ·obtain ⟨x,ex,rx⟩:=r.get eu
   refine ⟨⟨xs,x,sq,ex⟩,?_⟩
   rintro y H3 ⟨rfl,hy⟩
   have:=hy xs sq
   rw[ex] at this;cases this
   exact ⟨.refl _ _,A2,rx⟩
  ·exact ⟨xs,sq,by rw[<- r.length];exact cO.mp eu⟩
 unfold IU.at
 simp only
 cases q:L2[n]? with
 | none=>simp
 | some o=>
  have hr:=A2.rep n a o ea2 q
  cases o with
  | lst us=>
   obtain ⟨xs,e,r⟩:=hr
   obtain ⟨h1,h2⟩:=go us xs (.of e) r fun _ _=>trivial
   exact ⟨fun u eu=>h1 u (bL eu),fun eu=>h2 (bL eu)⟩
  | ro us=>
   obtain ⟨xs,e,r⟩:=hr
   obtain ⟨h1,h2⟩:=go us xs e.sq r fun _ _=>trivial
   exact ⟨fun u eu=>h1 u (bL eu),fun eu=>h2 (bL eu)⟩
  | dic kvs=>simp
  | rod kvs=>simp
  | ins C fs=>simp
  | exc C fr fs=>simp
theorem Ak8(sq:SqT K H a xs)(r:RepL K H α us xs):Og K (Itt K a) (.seq us) H α:=by
 intro H2 α2 L2 g A2 k
 have sq2:=g.st.sqT (K:=K) sq
 have r2:=r.mono g
 refine ⟨fun u eu=>?_,fun eu=>?_⟩
 ·obtain ⟨x,ex,rx⟩:=r2.get (bL eu)
  refine ⟨⟨xs,x,sq2,ex⟩,?_⟩
  rintro y H3 ⟨rfl,hy⟩
  have:=hy xs sq2
  rw[ex] at this;cases this
  exact ⟨.refl _ _,A2,rx⟩
 ·exact ⟨xs,sq2,by rw[<- r2.length];exact cO.mp (bL eu)⟩
theorem Aiw(lo:Int)(n:Nat):Og K (Itr lo n) (.seq ((dX n).map fun i=>U.int (lo+(i:Nat)))) H α:=by
 intro H2 α2 L2 g A2 k
 refine ⟨fun u eu=>?_,fun eu=>?_⟩
 ·have eu:=bL eu
  rw[bO] at eu
  by_cases hk:k < n
  ·rw[jA hk] at eu
   simp at eu
   refine ⟨hk,?_⟩
   rintro x H3 ⟨rfl,rfl⟩
   subst eu
   exact ⟨.refl _ _,A2,rfl⟩
  ·rw[eC (by simpa using hk)] at eu
   simp at eu
 ·have:=cO.mp (bL eu)
  show n<=k
  simpa using this
def Cu(f:FE):FI:=fun δ L=>(f δ L).bind fun p=>(Tw p.1 p.2).map fun i=>(i,p.2)
theorem Ht(h:PEF X l fe):PIF X tg l (Cu fe):=by
 refine PI.imp (PI.or (Ajx h) (Aod h)) ?_
 rintro σ H R ⟨α,δ,L,A,S,i,L3,e,q⟩
 obtain ⟨u,L1,e1,e⟩:=B9 e
 obtain ⟨j,e2,e⟩:=mpd e
 cases e
 cases u with
 | tup us=>
  cases e2
  refine .inr ⟨α,δ,L,A,S,_,_,e1,fun x H1 α1 g1 A1 r1=>?_⟩
  unfold RepU at r1
  obtain ⟨a,xs,rfl,sq,r⟩:=r1
  exact ⟨a,rfl,⟨xs,sq⟩,q _ H1 α1 g1 A1 (Ak8 sq r)⟩
 | ref n=>
  refine .inl ⟨α,δ,L,A,S,_,_,e1,fun x H1 α1 g1 A1 r1=>?_⟩
  unfold RepU at r1
  obtain ⟨a,ea,rfl⟩:=r1
  refine ⟨a,rfl,?_⟩
  unfold Tw at e2
  simp only at e2
  cases w:L1[n]? with
  | none=>simp only[w] at e2;cases e2
  | some o=>
   have hr:=A1.rep n a o ea w
   cases o with
   | lst us=>simp only[w] at e2;cases e2;obtain ⟨xs,e,r⟩:=hr;exact ⟨⟨xs,.of e⟩,q _ H1 α1 g1 A1 (Acg ea)⟩
   | ro us=>simp only[w] at e2;cases e2;obtain ⟨xs,e,r⟩:=hr;exact ⟨⟨xs,e.sq⟩,q _ H1 α1 g1 A1 (Acg ea)⟩
   | dic kvs=>simp only[w] at e2;cases e2
   | rod kvs=>simp only[w] at e2;cases e2
   | ins C fs=>simp only[w] at e2;cases e2
   | exc C fr fs=>simp only[w] at e2;cases e2
 | _=>cases e2
def Cd(lo:Int)(n:Nat):List U:=(dX n).map fun i=>U.int (lo+(i:Nat))
def Dr(g:FA):FI:=fun δ L=>(g δ L).bind fun p=>match p.1 with
 | [.int j]=>if -(2 ^ 62)<=j/\j < 2 ^ 62 then some (.seq (Cd 0 j.toNat),p.2) else none
 | _=>none
def Al6(g:FA):FI:=fun δ L=>(g δ L).bind fun p=>match p.1 with
 | [.int i,.int j]=>if (-(2 ^ 62)<=i/\i < 2 ^ 62)/\-(2 ^ 62)<=j/\j < 2 ^ 62 then some (.seq (Cd i (j - i).toNat),p.2) else none
 | _=>none
theorem RepL.one(h:RepL K H α [u] xs):∃ x,xs=[x]/\RepU K H α u x:=by
 unfold RepL at h
 obtain ⟨x,r,e,h1,h2⟩:=h
 unfold RepL at h2
 subst h2
 exact ⟨x,e,h1⟩
theorem RepL.two{w:U}(h:RepL K H α [u,w] xs):∃ x y,xs=[x,y]/\RepU K H α u x/\RepU K H α w y:=by
 unfold RepL at h
 obtain ⟨x,r,e,h1,h2⟩:=h
 obtain ⟨y,e2,h3⟩:=h2.one
 subst e2
 exact ⟨x,y,e,h1,h3⟩
theorem Du{a:Expr}(hg:Gl X "range")(hm:X.mg "range" = none)(ha:PAF X [a] g)(hs:aN [a] X.env=[(false,eval a X.env)]:=by rfl):PIF X tg (.Call (.Name "range" p) [a] [] pos) (Dr g):=by
 refine PI.imp (Ae4 hg hm ha hs) ?_
 rintro σ H R ⟨α,δ,L,A,S,i,L3,e,q⟩
 obtain ⟨us,L1,e1,e⟩:=B9 e
 refine ⟨α,δ,L,A,S,us,L1,e1,fun xs H1 α1 g1 A1 r1=>?_⟩
 simp only at e
 split at e
 ·rename_i _ j
  split at e
  ·rename_i hj
   cases e
   obtain ⟨x,rfl,rx⟩:=r1.one
   unfold RepU at rx
   subst rx
   exact ⟨j,rfl,hj.1,hj.2,q _ H1 α1 g1 A1 (Aiw 0 _)⟩
  ·cases e
 ·cases e
def Ky(i:IU)(g:FG)(body:FS):Nat->Nat->UE->UH->Option (Fl×UH)
 | 0,_,_,_=>none
 | m+1,k,δ,L=>match i.at k L with
  | none=>none
  | some none=>some (.nx δ,L)
  | some (some u)=>(g u δ L).bind fun p=>(body p.1 p.2).bind fun q=>match q.1 with
   | .nx δ'=>Ky i g body m (k+1) δ' q.2
   | .ct δ'=>Ky i g body m (k+1) δ' q.2
   | .bk δ'=>some (.nx δ',q.2)
   | .rt w=>some (.rt w,q.2)
def Ik(fi:FI)(g:FG)(body:FS):FS:=fun δ L=>(fi δ L).bind fun p=>Ky p.1 g body (p.1.size p.2+1) 0 δ p.2
inductive FI_(K:aB)(D:Ends)(H1:Hp)(α1:List Addr)(fl:Fl)(L':UH)(go:UE->UH->Option (Fl×UH))(σ2:_root_.L2.St)(H2:Hp):Prop
 | mk (α2:List Addr) (δ2:UE) (L2:UH) (g2:Gr H1 α1 H2 α2) (A2:Abs K H2 α2 L2) (S2:RepS K H2 α2 δ2 σ2) (e2:go δ2 L2=some (fl,L')) (q2:Post K D H2 α2 fl L'):FI_ K D H1 α1 fl L' go σ2 H2
theorem Gz{body:List Stmt}{g:FG}{fb:FS}(hp:qQ (model X.prog X.w) X.A X.env X.xe)(hc:X.calm=true)(hi:PIF X tg iter fi)(hg:PGF X tg g)(hb:Qp X body fb)
  (hs:∀ x,foldedSetIterable iter X.env x=pure x:=by intro _;rfl):PSF X (.For tg iter body [] pos) (Ik fi g fb):=by
 refine PS.imp (Agy hp hc hi hg hb hs) ?_
 rintro D σ H ⟨α,δ,L,A,S,fl,L',e,q⟩
 obtain ⟨it,L1,e1,e⟩:=B9 e
 refine ⟨α,δ,L,A,S,it,L1,e1,fun J H1 α1 g1 A1 hJ=>?_⟩
 refine ⟨fun k m=>FI_ X.K D H1 α1 fl L' (Ky it g fb m k),⟨_,α1,δ,L1,.refl _ _,A1,S.mono g1,e,q.from g1⟩,?_⟩
 rintro k m σ2 H2 ⟨α2,δ2,L2,g2,A2,S2,e2,q2⟩
 cases m with
 | zero=>cases e2
 | succ m=>
  obtain ⟨hgo,hstop⟩:=hJ H2 α2 L2 g2 A2 k
  unfold Ky at e2
  cases hat:it.at k L2 with
  | none=>rw[hat] at e2;cases e2
  | some o=>
   cases o with
   | none=>
    rw[hat] at e2
    cases e2
    exact .inl ⟨hstop hat,q2 σ2 H2 α2 (.refl _ _) A2 S2⟩
   | some u=>
    rw[hat] at e2
    obtain ⟨go,yld⟩:=hgo u hat
    obtain ⟨δ3,L3,e3,e2⟩:=B9 e2
    obtain ⟨fl4,L4,e4,e2⟩:=B9 e2
    refine .inr ⟨go,FI_ X.K D H1 α1 fl L' (Ky it g fb m (k+1)),fun σ5 H5 h5=>⟨m,dW _,h5⟩,fun x H3 y3=>?_⟩
    obtain ⟨g3,A3,r3⟩:=yld x H3 y3
    refine ⟨α2,δ2,L2,u,A3,S2.mono g3,r3,δ3,L3,e3,fun σ4 H4 α4 g4 A4 S4=>⟨α4,δ3,L3,A4,S4,fl4,L4,e4,?_⟩⟩
    have gA:=g2.trans (g3.trans g4)
    have gB:=g3.trans g4
    cases fl4 with
    | nx δ5=>exact fun σ5 H5 α5 g5 A5 S5=>⟨α5,δ5,L4,gA.trans g5,A5,S5,e2,q2.from (gB.trans g5)⟩
    | ct δ5=>exact fun σ5 H5 α5 g5 A5 S5=>⟨α5,δ5,L4,gA.trans g5,A5,S5,e2,q2.from (gB.trans g5)⟩
    | bk δ5=>cases e2;exact fun σ5 H5 α5 g5 A5 S5=>q2 σ5 H5 α5 (gB.trans g5) A5 S5
    | rt w=>cases e2;exact fun v H5 α5 g5 A5 r5=>q2 v H5 α5 (gB.trans g5) A5 r5
inductive WI_(K:aB)(D:Ends)(fl:Fl)(L':UH)(go:UE->UH->Option (Fl×UH))(σ2:_root_.L2.St)(H2:Hp):Prop
 | mk (α2:List Addr) (δ2:UE) (L2:UH) (A2:Abs K H2 α2 L2) (S2:RepS K H2 α2 δ2 σ2) (e2:go δ2 L2=some (fl,L')) (q2:Post K D H2 α2 fl L'):WI_ K D fl L' go σ2 H2
end
def fnU(n m:Nat)(body:FS):FN:=fun us L=>if us.length=m then (body (us.map some++bF (n - us.length) none) L).bind fun p=>match p.1 with
 | .rt u=>some (u,p.2)
 | .nx _=>some (.non,p.2)
 | _=>none
 else none
variable {w:cV}{P:cD}
section
variable {mg:Str->Option aE}{base:Heap}
theorem Fun.okF{qual:Str}{st:Stmt}{f:Addr}{fd:dN}{N ps:List Str}{body:FS}(F:Fun K x qual st f fd)(S:FnScope N ps (Aq st))
  (hbody:∀ (cdv:aE) (A:fA) (outer:List fP) (s:aH) (H:Hp) (E:XK),Room k (A.deeper (envOfC qual (Aq st) s.heap.objs.size f cdv))->Qp (Ti CX0 P w K mg base N qual (Aq st) f cdv A outer s H E).nox (Ey st) body) :
  FnOk P w K mg base CX0 (k+1) f fd ps (spF K ps.length (fnU N.length ps.length body)):=by
 refine F.ok S (fun vs H Q E ⟨α,L,us,A,r,hl,_,_,_,_⟩=>by rw[<- r.length];exact hl) (fun cdv A outer s H vs Q E hr h=>?_)
 obtain ⟨α,L,us,Ab,r,hl,u,L',e,q⟩:=h
 refine ⟨_,hbody cdv A outer s H E hr,?_⟩
 unfold fnU at e
 rw[if_pos hl] at e
 obtain ⟨fl,L1,e1,e⟩:=B9 e
 refine ⟨α,_,L,Ab,RepS.start N r,fl,L1,e1,?_⟩
 cases fl with
 | rt w=>cases e;exact q
 | nx δ=>cases e;exact fun σ' H' α' g' A' S'=>q .non H' α' g' A' rfl
 | bk δ=>cases e
 | ct δ=>cases e
end
section
variable {x:V}
theorem Ta(h:lstAt L n=some us):L[n]? = some (.lst us):=by
 unfold lstAt at h
 split at h
 ·rename_i e;cases h;exact e
 ·cases h
theorem O0(A:Abs K H α L)(h:lstAt L n=some us):∃ a xs,α[n]? = some a/\H a=some (.lst xs)/\RepL K H α us xs:=by
 obtain ⟨a,ea,xs,e,r⟩:=A.addr (Ta h)
 exact ⟨a,xs,ea,e,r⟩
theorem Il(A:Abs K H α L)(h:Az L n=some us):∃ a xs,α[n]? = some a/\SqL K H a xs/\RepL K H α us xs:=by
 unfold Az at h
 split at h
 ·rename_i e;cases h
  obtain ⟨a,ea,xs,e,r⟩:=A.addr e
  exact ⟨a,xs,ea,.of e,r⟩
 ·rename_i e;cases h
  obtain ⟨a,ea,xs,e,r⟩:=A.addr e
  exact ⟨a,xs,ea,e.sq,r⟩
 ·cases h
theorem Abs.setL{ys:List V}{ws:List U}(A:Abs K H α L)(h:lstAt L n=some us)(ea:α[n]? = some a)(e:H a=some (.lst xs))(r:RepL K H α ws ys) :
  Gr H α (upd H a (.lst ys)) α/\Abs K (upd H a (.lst ys)) α (L.set n (.lst ws)):=by
 have g:Gr H α (upd H a (.lst ys)) α:=⟨⟨[],by simp⟩,.write e (by exact trivial) _⟩
 obtain ⟨A',_⟩:=A.put (o:=.lst ys) (u:=.lst ws) ea (Ta h) rfl rfl e (by exact trivial) ⟨ys,upd_same,r.mono g⟩
 exact ⟨g,A'⟩
theorem RepU.ref_of(A:Abs K H α L)(h:RepU K H α (.ref n) x):∃ a,α[n]? = some a/\x = .ref a:=by unfold RepU at h;exact h
end
def Ar:S2:=fun u w L=>match u,w with
 | .int i,.int j=>some (.int (i+j),L)
 | .str a,.str b=>if Ew (a.length+b.length)=true then some (.str (a++b),L) else none
 | .tup a,.tup b=>if a.isEmpty=false/\Ew (a.length+b.length)=true then some (.tup (a++b),L) else none
 | .ref n,.ref m=>(lstAt L n).bind fun a=>(lstAt L m).bind fun b=>if Ew (a.length+b.length)=true then some (.ref L.length,L++[.lst (a++b)]) else none
 | _,_=>none
def Amm(K:aB):R2:=fun x y H Q=>rI0 (fun i j=>.int (i+j)) x y H Q\/(∃ i j,x = .str i/\y = .str j/\i.length+j.length<=sizeLine/\Q (.str (i++j)) H)\/Al7 K x y H Q\/Ast x y H Q
theorem Bm:OpR X (fM .Add) (Amm X.K):=Aop.or (Y3.or (Ajh.or Aon))
theorem Bl:Dp K (Amm K) Ar:=by
 intro H α L u w x y z L' Q A ru rw e q
 unfold Ar at e
 split at e
 ·cases e
  unfold RepU at ru rw
  exact .inl ⟨_,_,ru,rw,q _ H α (.refl _ _) A rfl⟩
 ·split at e
  ·rename_i h
   cases e
   unfold RepU at ru rw
   exact .inr (.inl ⟨_,_,ru,rw,De h,q _ H α (.refl _ _) A rfl⟩)
  ·cases e
 ·rename_i a b
  split at e
  ·rename_i h
   cases e
   unfold RepU at ru rw
   obtain ⟨p,xs,rfl,s1,r1⟩:=ru
   obtain ⟨p2,ys,rfl,s2,r2⟩:=rw
   have e1:=r1.length
   have e2:=r2.length
   refine .inr (.inr (.inl ⟨p,p2,xs,ys,rfl,rfl,s1,s2,?_,by rw[<- e1,<- e2];exact De h.2,fun hy=>?_,fun hy l hl=>?_⟩))
   ·intro hx;subst hx
    cases a with
    | nil=>simp at h
    | cons _ _=>simp at e1
   ·subst hy
    have hb:b=[]:=by
     cases b with
     | nil=>rfl
     | cons _ _=>simp at e2
    subst hb
    refine q _ H α (.refl _ _) A ?_
    unfold RepU
    exact ⟨p,xs,rfl,s1,by rw[cR];exact r1⟩
   ·obtain ⟨g,A',r⟩:=A.tup (r1.append r2) hl
    exact q _ _ α g A' r
  ·cases e
 ·rename_i n m
  obtain ⟨a,ha,e⟩:=bnd e
  obtain ⟨b,hb,e⟩:=bnd e
  split at e
  ·rename_i h
   cases e
   obtain ⟨p,xs,e1,h1,r1⟩:=O0 A ha
   obtain ⟨p2,ys,e2,h2,r2⟩:=O0 A hb
   obtain ⟨p',e1',rfl⟩:=ru.ref_of A
   obtain ⟨p2',e2',rfl⟩:=rw.ref_of A
   rw[e1] at e1';cases e1'
   rw[e2] at e2';cases e2'
   refine .inr (.inr (.inr ⟨p,p2,xs,ys,rfl,rfl,h1,h2,by rw[<- r1.length,<- r2.length];exact De h,fun l hl=>?_⟩))
   obtain ⟨g,A',r⟩:=A.lst (r1.append r2) hl
   exact q _ _ _ g A' r
  ·cases e
 ·cases e
def Afa(C:Int->Int->Bool)(g:Int->Int->U):S2:=fun u w L=>match u,w with
 | .int i,.int j=>if C i j=true then some (g i j,L) else none
 | _,_=>none
theorem Agv{C:Int->Int->Prop}{Cb:Int->Int->Bool}{g:Int->Int->V}{g':Int->Int->U}(hC:∀ i j,Cb i j=true->C i j)(hg:∀ i j H α,RepU K H α (g' i j) (g i j)):Dp K (rI C g) (Afa Cb g'):=by
 intro H α L u w x y z L' Q A ru rw e q
 unfold Afa at e
 split at e
 ·split at e
  ·rename_i h
   cases e
   unfold RepU at ru rw
   exact ⟨_,_,ru,rw,hC _ _ h,q _ H α (.refl _ _) A (hg _ _ _ _)⟩
  ·cases e
 ·cases e
def R5(g:Int->Int->U):S2:=fun u w L=>match u,w with
 | .int i,.int j=>some (g i j,L)
 | _,_=>none
theorem Rf{g:Int->Int->V}{g':Int->Int->U}(hg:∀ i j H α,RepU K H α (g' i j) (g i j)):Dp K (rI0 g) (R5 g'):=by
 intro H α L u w x y z L' Q A ru rw e q
 unfold R5 at e
 split at e
 ·cases e
  unfold RepU at ru rw
  exact ⟨_,_,ru,rw,q _ H α (.refl _ _) A (hg _ _ _ _)⟩
 ·cases e
def Hb:S2:=R5 fun i j=>.int (i - j)
theorem Jf:Dp K (rI0 fun i j=>.int (i - j)) Hb:=Rf fun _ _ _ _=>rfl
def Hn(i j:Int):Bool:=(decide (-(2 ^ 64) < i)&&decide (i < 2 ^ 64)) || (decide (-(2 ^ 64) < j)&&decide (j < 2 ^ 64))
def Dh:S2:=fun u w L=>match u,w with
 | .int i,.int j=>if Hn i j=true then some (.int (i * j),L) else none
 | .str a,.int j=>if a.length<=1000/\-1000<=j/\j<=1000 then some (.str (iB a j),L) else none
 | .ref n,.int k=>(lstAt L n).bind fun a=>if -1000000<=k/\k<=1000000/\Ew (a.length * k.toNat)=true then some (.ref L.length,L++[.lst (bF k.toNat a).flatten]) else none
 | _,_=>none
def Amn:R2:=fun x y H Q=>rI CMul (fun i j=>.int (i * j)) x y H Q\/(∃ a j,x = .str a/\y = .int j/\MulOk a j/\Q (.str (iB a j)) H)\/Aq6 x y H Q
theorem Aau:OpR X (fM .Mult) (fun x y H Q=>∃ a j,x = .str a/\y = .int j/\MulOk a j/\Q (.str (iB a j)) H):=by
 intro pins s σ H x y v u Q I rx ry h
 obtain ⟨a,j,rfl,rfl,hok,q⟩:=h
 obtain ⟨t,rfl⟩:=rx
 obtain ⟨t',rfl⟩:=ry
 exact wtk I.tk (SB.mul hok fun t' k ht=>⟨.str (iB a j),H,I.tok _ ht,⟨_,rfl⟩,q⟩)
theorem Fd:OpR X (fM .Mult) Amn:=Anc.or (Aau.or Anw)
theorem RepL.flat(h:RepL K H α us xs):∀ k:Nat,RepL K H α (bF k us).flatten (bF k xs).flatten
 | 0=>.nil
 | k+1=>by rw[eX,eX,gD,gD];exact h.append (RepL.flat h k)
theorem E8:Dp K Amn Dh:=by
 intro H α L u w x y z L' Q A ru rw e q
 unfold Dh at e
 split at e
 ·rename_i i j
  split at e
  ·rename_i h
   cases e
   unfold RepU at ru rw
   refine .inl ⟨_,_,ru,rw,?_,q _ H α (.refl _ _) A rfl⟩
   simp only[Hn,jL,bG,decide_eq_true_eq] at h
   exact h
  ·cases e
 ·rename_i a j
  split at e
  ·rename_i h
   cases e
   unfold RepU at ru rw
   exact .inr (.inl ⟨_,_,ru,rw,mulOk_of 1000 1000 h.1 (by omega) (by omega) (by decide) (by decide),q _ H α (.refl _ _) A rfl⟩)
  ·cases e
 ·rename_i n k
  obtain ⟨a,ha,e⟩:=bnd e
  split at e
  ·rename_i h
   cases e
   obtain ⟨p,xs,e1,h1,r1⟩:=O0 A ha
   obtain ⟨p',e1',rfl⟩:=ru.ref_of A
   rw[e1] at e1';cases e1'
   unfold RepU at rw
   refine .inr (.inr ⟨p,k,xs,rfl,rw,h1,by omega,by omega,by rw[<- r1.length];exact De h.2.2,fun l hl=>?_⟩)
   obtain ⟨g,A',r⟩:=A.lst (r1.flat k.toNat) hl
   exact q _ _ _ g A' r
  ·cases e
 ·cases e
def Afv(i j:Int):Prop:=0 < j/\j < 1152921504606846976
theorem F6:OpR X (fM .FloorDiv) (rI Afv fun i j=>.int (i / j)):=opI fun i j _ _ _ _ _ hc q=>by
 have h1:(0:Int) < j:=hc.1
 have h2:j < 1152921504606846976:=hc.2
 refine floordiv_int (by omega) (by rw[Int.fdiv_eq_ediv_of_nonneg i (by omega)];exact q) (.inl (PyProof.noPylong_of_log2 ?_))
 have h3:j.natAbs.log2 < 60:=(Nat.log2_lt (by omega)).mpr (by omega)
 omega
def K8(i j:Int):Bool:=decide (0 < j)&&decide (j < 1152921504606846976)
def Fv:S2:=Afa K8 fun i j=>.int (i / j)
theorem Hs:Dp K (rI Afv fun i j=>.int (i / j)) Fv:=Agv (fun i j h=>by simpa[K8,Afv] using h) fun _ _ _ _=>rfl
def Dc:S2:=Afa (fun _ j=>decide (0 < j)) fun i j=>.int (i % j)
theorem Dk:Dp K (rI (fun _ j=>0 < j) fun i j=>.int (i % j)) Dc:=Agv (fun i j h=>by simpa using h) fun _ _ _ _=>rfl
def Sz(i j:Int):Bool:=decide (0<=j)&&decide (j<=1000000)&&decide (i.natAbs < 2 ^ 64)
def Hc:S2:=Afa Sz fun i j=>.int (i ^ j.toNat)
theorem Hz:Dp K (rI Ard fun i j=>.int (i ^ j.toNat)) Hc:=Agv (fun i j h=>by simp[Sz] at h;exact ⟨h.1.1,h.1.2,h.2⟩) fun _ _ _ _=>rfl
def Qi:S2:=R5 fun i j=>.bl (decide (i<=j))
def Mo:S2:=R5 fun i j=>.bl (decide (j < i))
def Ag3:S2:=R5 fun i j=>.bl (decide (j<=i))
def Kx:S2:=R5 fun i j=>.bl (decide (i < j))
theorem Agq:Dp K (rI0 fun i j=>.bl (decide (i<=j))) Qi:=Rf fun _ _ _ _=>rfl
theorem Y4:Dp K (rI0 fun i j=>.bl (decide (j < i))) Mo:=Rf fun _ _ _ _=>rfl
theorem An5:Dp K (rI0 fun i j=>.bl (decide (j<=i))) Ag3:=Rf fun _ _ _ _=>rfl
theorem P8:Dp K (rI0 fun i j=>.bl (decide (i < j))) Kx:=Rf fun _ _ _ _=>rfl
def mapO{β γ:Type}(f:β->Option γ):List β->Option (List γ)
 | []=>some []
 | u::r=>(f u).bind fun d=>(mapO f r).map fun ds=>d::ds
def toP(L:UH):Nat->U->Option rS
 | 0,_=>none
 | _+1,.non=>some .none
 | _+1,.bl b=>some (.bool b)
 | _+1,.int i=>some (.int i)
 | _+1,.str x=>some (.str x)
 | _+1,.tz _=>none
 | n+1,.tup l=>(mapO (toP L n) l).map .tuple
 | n+1,.ref k=>(Az L k).bind fun l=>(mapO (toP L n) l).map .list
variable {pins:List (Addr×Obj)}
section
variable {s:aH}
theorem Vg(ih:∀ (u:U) (x:V) (v:aE) (d:rS),RepU X.K H α u x->Cm x v->toP L n u=some d->∃ as,Reads s.heap v d as):∀ (l:List U) (xs:List V) (vs:List aE) (ds:List rS),RepL X.K H α l xs->Vals xs vs->mapO (toP L n) l=some ds->∃ as,ReadsAll s.heap vs ds as
 | [],xs,vs,ds,r,hv,e=>by
  unfold RepL at r;subst r;cases hv;cases e;exact ⟨_,.nil⟩
 | u::l,xs,vs,ds,r,hv,e=>by
  unfold RepL at r
  obtain ⟨x,xr,rfl,r1,r2⟩:=r
  cases hv with
  | cons h1 h2=>
   obtain ⟨d,e1,e⟩:=bnd e
   obtain ⟨dr,e2,e⟩:=mpd e
   subst e
   obtain ⟨as,q1⟩:=ih u x _ d r1 h1 e1
   obtain ⟨bs,q2⟩:=Vg ih l xr _ dr r2 h2 e2
   exact ⟨_,.cons q1 q2⟩
theorem Pm(I:Inv X pins σ H s)(A:Abs X.K H α L):∀ (n:Nat) (u:U) (x:V) (v:aE) (d:rS),RepU X.K H α u x->Cm x v->toP L n u=some d->∃ as,Reads s.heap v d as
 | 0,_,_,_,_,_,_,e=>by cases e
 | n+1,u,x,v,d,r,hv,e=>by
  cases u with
  | non=>unfold RepU at r;subst r;cases hv;cases e;exact ⟨_,.none⟩
  | bl b=>unfold RepU at r;subst r;cases hv;cases e;exact ⟨_,.bool b⟩
  | int i=>unfold RepU at r;subst r;obtain ⟨t,rfl⟩:=hv;cases e;exact ⟨_,.int i t⟩
  | str y=>unfold RepU at r;subst r;obtain ⟨t,rfl⟩:=hv;cases e;exact ⟨_,.str y t⟩
  | tz _=>cases e
  | tup l=>
   unfold RepU at r
   obtain ⟨a,xs,rfl,sq,r⟩:=r
   cases hv
   unfold toP at e
   obtain ⟨ds,e1,e⟩:=mpd e
   subst e
   obtain ⟨its,hv,⟨o,h1,h2,m,h3⟩,_⟩:=I.tuple sq
   obtain ⟨as,q⟩:=Vg (Pm I A n) l xs its ds r hv e1
   exact ⟨_,.tuple h1 h2 h3 (by simpa using q)⟩
  | ref k=>
   unfold RepU at r
   obtain ⟨a,ea,rfl⟩:=r
   cases hv
   unfold toP at e
   obtain ⟨l,hl,e⟩:=bnd e
   obtain ⟨ds,e1,e⟩:=mpd e
   subst e
   obtain ⟨a',xs,ea',sq,r⟩:=Il A hl
   rw[ea] at ea';cases ea'
   obtain ⟨its,hv,⟨o,m,h1,h2,_,h3⟩,_⟩:=I.list sq
   obtain ⟨as,q⟩:=Vg (Pm I A n) l xs its ds r hv e1
   exact ⟨_,.list h1 h2 h3 (by simpa using q)⟩
end
def eqP(u w:U)(L:UH):Option Bool:=(toP L 8 u).bind fun d=>(toP L 8 w).bind fun e=>if fN d=true/\fN e=true then some (dE d e) else none
def Ajz(K:aB)(neg:Bool):R2:=fun x y H Q=>∃ α L u w b,Abs K H α L/\RepU K H α u x/\RepU K H α w y/\eqP u w L=some b/\Q (.bl (if neg then !b else b)) H
theorem B1(hu:X.A.units+64 < cLine):OpR X (dC .Eq) (Ajz X.K false):=by
 intro pins s σ H x y v u Q I rx ry h
 obtain ⟨α,L,a,b,k,A,ra,rb,e,q⟩:=h
 obtain ⟨d,e1,e⟩:=bnd e
 obtain ⟨d2,e2,e⟩:=bnd e
 split at e
 ·rename_i hs
  cases e
  obtain ⟨as,q1⟩:=Pm I A 8 a x v d ra rx e1
  obtain ⟨bs,q2⟩:=Pm I A 8 b y u d2 rb ry e2
  exact eq_dataH q1 q2 hs.1 hs.2 hu ⟨.bl _,H,I,rfl,q⟩
 ·cases e
theorem Li(hu:X.A.units+64 < cLine):OpR X (dC .NotEq) (Ajz X.K true):=by
 intro pins s σ H x y v u Q I rx ry h
 obtain ⟨α,L,a,b,k,A,ra,rb,e,q⟩:=h
 obtain ⟨d,e1,e⟩:=bnd e
 obtain ⟨d2,e2,e⟩:=bnd e
 split at e
 ·rename_i hs
  cases e
  obtain ⟨as,q1⟩:=Pm I A 8 a x v d ra rx e1
  obtain ⟨bs,q2⟩:=Pm I A 8 b y u d2 rb ry e2
  exact ne_dataH q1 q2 hs.1 hs.2 hu ⟨.bl _,H,I,rfl,q⟩
 ·cases e
def Bb:S2:=fun u w L=>(eqP u w L).map fun b=>(.bl b,L)
def Dy:S2:=fun u w L=>(eqP u w L).map fun b=>(.bl (!b),L)
theorem B4:Dp K (Ajz K false) Bb:=by
 intro H α L u w x y z L' Q A ru rw e q
 obtain ⟨b,e1,e⟩:=mpd e
 cases e
 exact ⟨α,_,u,w,b,A,ru,rw,e1,q _ H α (.refl _ _) A rfl⟩
theorem Lo:Dp K (Ajz K true) Dy:=by
 intro H α L u w x y z L' Q A ru rw e q
 obtain ⟨b,e1,e⟩:=mpd e
 cases e
 exact ⟨α,_,u,w,b,A,ru,rw,e1,q _ H α (.refl _ _) A rfl⟩
def M3(neg:Bool):S2:=fun u w L=>match u,w with
 | .non,.non=>some (.bl (!neg),L)
 | .bl a,.bl b=>some (.bl (if neg then !(a == b) else a == b),L)
 | .int _,.non=>some (.bl neg,L)
 | .bl _,.non=>some (.bl neg,L)
 | .str _,.non=>some (.bl neg,L)
 | .tup _,.non=>some (.bl neg,L)
 | .ref _,.non=>some (.bl neg,L)
 | _,_=>none
def isSome:U->Bool
 | .non=>false
 | _=>true
def Aor(neg:Bool):R2:=fun x y H Q=>(y = .non/\Q (.bl (if neg then !decide (x = .non) else decide (x = .non))) H)\/∃ a b,x = .bl a/\y = .bl b/\Q (.bl (if neg then !(a == b) else a == b)) H
theorem Vi:OpR X (dC .Is) (Aor false):=Am7.or (by
 intro pins s σ H x y v u Q I rx ry h
 obtain ⟨a,b,rfl,rfl,q⟩:=h
 cases rx;cases ry
 exact is_bool ⟨.bl _,H,I,rfl,q⟩)
theorem Vy(neg:Bool):Dp K (Aor neg) (M3 neg):=by
 intro H α L u w x y z L' Q A ru rw e q
 unfold M3 at e
 have fin:∀ (k:Bool),x≠.non->w = .non->some (U.bl neg,L)=some (z,L')->Aor neg x y H Q:=fun _ hx hw e'=>by
  subst hw
  obtain ⟨rfl,rfl⟩:U.bl neg=z/\L=L':=by simpa using e'
  unfold RepU at rw
  subst rw
  refine .inl ⟨rfl,?_⟩
  rw[decide_eq_false hx]
  have:(if neg=true then !false else false)=neg:=by cases neg <;> rfl
  rw[this]
  exact q _ H α (.refl _ _) A rfl
 split at e
 ·cases e
  unfold RepU at ru rw
  subst ru;subst rw
  refine .inl ⟨rfl,?_⟩
  have:(if neg=true then !decide (V.non=V.non) else decide (V.non=V.non)) = !neg:=by cases neg <;> simp
  rw[this]
  exact q _ H α (.refl _ _) A rfl
 ·cases e
  unfold RepU at ru rw
  exact .inr ⟨_,_,ru,rw,q _ H α (.refl _ _) A rfl⟩
 ·unfold RepU at ru;subst ru;exact fin true (fun z=>nomatch z) rfl e
 ·unfold RepU at ru;subst ru;exact fin true (fun z=>nomatch z) rfl e
 ·unfold RepU at ru;subst ru;exact fin true (fun z=>nomatch z) rfl e
 ·unfold RepU at ru;obtain ⟨_,_,rfl,_⟩:=ru;exact fin true (fun z=>nomatch z) rfl e
 ·unfold RepU at ru;obtain ⟨_,_,rfl⟩:=ru;exact fin true (fun z=>nomatch z) rfl e
 ·cases e
theorem RepL.atI{i:Int}(r:RepL K H α us xs)(h:L2.atI us i=some u):∃ x,L2.atI xs i=some x/\RepU K H α u x:=by
 unfold L2.atI at h ⊢
 obtain ⟨j,e1,e2⟩:=bnd h
 obtain ⟨x,e3,r3⟩:=r.get e2
 exact ⟨x,by rw[<- r.length,e1];exact e3,r3⟩
def Al:S2:=fun u w L=>match u,w with
 | .tup l,.int i=>(L2.atI l i).map fun z=>(z,L)
 | .ref n,.int i=>(Az L n).bind fun l=>(L2.atI l i).map fun z=>(z,L)
 | .str x,.int i=>if Ew x.length=true then (L2.atI x.cps.toList i).map fun c=>(.str ⟨#[c]⟩,L) else none
 | _,_=>none
theorem Aw:Dp K (rIx K) Al:=by
 intro H α L u w x y z L' Q A ru rw e q
 unfold Al at e
 split at e
 ·obtain ⟨c,e1,e⟩:=mpd e
  cases e
  unfold RepU at ru rw
  obtain ⟨a,xs,rfl,sq,r⟩:=ru
  obtain ⟨v,e2,r2⟩:=r.atI e1
  exact .inr (.inl ⟨a,xs,_,v,rfl,rw,sq,e2,q _ H α (.refl _ _) A r2⟩)
 ·obtain ⟨l,hl,e⟩:=bnd e
  obtain ⟨c,e1,e⟩:=mpd e
  cases e
  obtain ⟨a,xs,ea,sq,r⟩:=Il A hl
  obtain ⟨a',ea',rfl⟩:=ru.ref_of A
  rw[ea] at ea';cases ea'
  unfold RepU at rw
  obtain ⟨v,e2,r2⟩:=r.atI e1
  exact .inl ⟨a,xs,_,v,rfl,rw,sq,e2,q _ H α (.refl _ _) A r2⟩
 ·split at e
  ·rename_i hs
   obtain ⟨c,e1,e⟩:=mpd e
   cases e
   unfold RepU at ru rw
   exact .inr (.inr ⟨_,_,c,ru,rw,De hs,e1,q _ H α (.refl _ _) A rfl⟩)
  ·cases e
 ·cases e
def Vk(l:List U)(lo hi:Option Int):List U:=(l.drop (HT.sIx l.length 0 lo)).take (HT.sIx l.length l.length hi - HT.sIx l.length 0 lo)
theorem RepL.cut(r:RepL K H α us xs)(lo hi:Option Int):RepL K H α (Vk us lo hi) (Wz xs lo hi):=by
 unfold Vk Wz
 rw[r.length]
 exact (r.drop _).take _
def semSl:SS:=fun u lo hi L=>match u with
 | .tup l=>if HT.sIx l.length 0 lo=0/\HT.sIx l.length l.length hi=l.length then none else some (.tup (Vk l lo hi),L)
 | .ref n=>(Az L n).map fun l=>(.ref L.length,L++[.lst (Vk l lo hi)])
 | _=>none
def Ajs(K:aB):V->Option Int->Option Int->Hp->VK->Prop:=fun x lo hi H Q=>Ass K x lo hi H Q\/Arm K x lo hi H Q
theorem Vs:SlR X (Ajs X.K):=Aoc.or Ais
theorem Rx:Agn K (Ajs K) semSl:=by
 intro H α L u x lo hi z L' Q A ru e q
 unfold semSl at e
 split at e
 ·split at e
  ·cases e
  ·rename_i hn
   cases e
   unfold RepU at ru
   obtain ⟨a,xs,rfl,sq,r⟩:=ru
   refine .inl ⟨a,xs,rfl,sq,by rw[<- r.length];exact hn,fun p hp=>?_⟩
   obtain ⟨g,A',r'⟩:=A.tup (r.cut lo hi) hp
   exact q _ _ α g A' r'
 ·obtain ⟨l,hl,e⟩:=mpd e
  cases e
  obtain ⟨a,xs,ea,sq,r⟩:=Il A hl
  obtain ⟨a',ea',rfl⟩:=ru.ref_of A
  rw[ea] at ea';cases ea'
  refine .inr ⟨a,xs,rfl,sq,fun p hp=>?_⟩
  obtain ⟨g,A',r'⟩:=A.lst (r.cut lo hi) hp
  exact q _ _ _ g A' r'
 ·cases e
def toV:U->Option V
 | .non=>some .non
 | .bl b=>some (.bl b)
 | .int i=>some (.int i)
 | .str x=>some (.str x)
 | _=>none
theorem Aa6{x y:V}(r:RepU K H α u x)(h:toV u=some y):x=y/\Mw y=true:=by
 cases u <;> simp only[toV] at h <;> first
  | (cases h;unfold RepU at r;exact ⟨r,rfl⟩)
  | cases h
theorem Vd:∀ {us:List U} {xs ys:List V},RepL K H α us xs->mapO toV us=some ys->xs=ys/\ys.all Mw=true
 | [],xs,ys,r,h=>by unfold RepL at r;subst r;cases h;exact ⟨rfl,rfl⟩
 | u::us,xs,ys,r,h=>by
  unfold RepL at r
  obtain ⟨x,xr,rfl,r1,r2⟩:=r
  obtain ⟨y,e1,h⟩:=bnd h
  obtain ⟨yr,e2,h⟩:=mpd h
  subst h
  obtain ⟨rfl,h1⟩:=Aa6 r1 e1
  obtain ⟨rfl,h2⟩:=Vd r2 e2
  exact ⟨rfl,by simp[h1,h2]⟩
def Jj(neg:Bool):S2:=fun u w L=>match w with
 | .tup l=>(toV u).bind fun x=>(mapO toV l).map fun xs=>(.bl (if neg then !inV x xs else inV x xs),L)
 | .ref n=>(Az L n).bind fun l=>(toV u).bind fun x=>(mapO toV l).map fun xs=>(.bl (if neg then !inV x xs else inV x xs),L)
 | .str j=>match u with
  | .str i=>some (.bl (if neg then !(!(aZ j i 0 j.length 1).isEmpty) else !(aZ j i 0 j.length 1).isEmpty),L)
  | _=>none
 | _=>none
def Apn(K:aB)(neg:Bool):R2:=fun x y H Q=>rIn K neg x y H Q\/∃ i j,x = .str i/\y = .str j/\Q (.bl (if neg then !(!(aZ j i 0 j.length 1).isEmpty) else !(aZ j i 0 j.length 1).isEmpty)) H
theorem Aav:OpR X (dC .In) (Apn X.K false):=Aes.or Adn
theorem Ul:OpR X (dC .NotIn) (Apn X.K true):=Vh.or Vz
theorem Ru(neg:Bool):Dp K (Apn K neg) (Jj neg):=by
 intro H α L u w x y z L' Q A ru rw e q
 unfold Jj at e
 split at e
 ·obtain ⟨x',e1,e⟩:=bnd e
  obtain ⟨xs,e2,e⟩:=mpd e
  cases e
  unfold RepU at rw
  obtain ⟨a,ys,rfl,sq,r⟩:=rw
  obtain ⟨rfl,f1⟩:=Aa6 ru e1
  obtain ⟨rfl,f2⟩:=Vd r e2
  exact .inl ⟨a,ys,rfl,.inr sq,f1,f2,q _ H α (.refl _ _) A rfl⟩
 ·obtain ⟨l,hl,e⟩:=bnd e
  obtain ⟨x',e1,e⟩:=bnd e
  obtain ⟨xs,e2,e⟩:=mpd e
  cases e
  obtain ⟨a,ys,ea,sq,r⟩:=Il A hl
  obtain ⟨a',ea',rfl⟩:=rw.ref_of A
  rw[ea] at ea';cases ea'
  obtain ⟨rfl,f1⟩:=Aa6 ru e1
  obtain ⟨rfl,f2⟩:=Vd r e2
  exact .inl ⟨a,ys,rfl,.inl sq,f1,f2,q _ H α (.refl _ _) A rfl⟩
 ·split at e
  ·cases e
   unfold RepU at ru rw
   exact .inr ⟨_,_,ru,rw,q _ H α (.refl _ _) A rfl⟩
  ·cases e
 ·cases e
def lenU(u:U)(L:UH):Option Nat:=match u with
 | .str y=>if Ew y.length=true then some y.length else none
 | .tup l=>some l.length
 | .ref n=>(Az L n).map mY
 | _=>none
def Bc:SC:=fun us L=>match us with
 | [u]=>(lenU u L).map fun (n:Nat)=>(U.int (n:Int),L)
 | _=>none
theorem Cc:Pw K (fun xs H Q=>∃ x n,xs=[x]/\Aq1 K x H n/\Q (.int n) H) Bc:=by
 intro H α L us xs z L' Q A r e q
 unfold Bc at e
 split at e
 ·rename_i u
  obtain ⟨n,e1,e⟩:=mpd e
  cases e
  obtain ⟨x,rfl,rx⟩:=r.one
  refine ⟨x,n,rfl,?_,q _ H α (.refl _ _) A rfl⟩
  cases u with
  | str y=>
   unfold lenU at e1
   simp only at e1
   split at e1
   ·rename_i hs;cases e1;unfold RepU at rx;subst rx;exact ⟨De hs,rfl⟩
   ·cases e1
  | tup l=>
   cases e1
   unfold RepU at rx
   obtain ⟨a,ys,rfl,sq,r2⟩:=rx
   exact .inr ⟨ys,sq,r2.length⟩
  | ref k=>
   obtain ⟨l,hl,e2⟩:=mpd e1
   subst e2
   obtain ⟨a,ys,ea,sq,r2⟩:=Il A hl
   obtain ⟨a',ea',rfl⟩:=rx.ref_of A
   rw[ea] at ea';cases ea'
   exact .inl ⟨ys,sq,r2.length⟩
  | _=>cases e1
 ·cases e
def toI:U->Option Int
 | .int i=>some i
 | _=>none
theorem Q0:∀ {us:List U} {xs:List V} {ns:List Int},RepL K H α us xs->mapO toI us=some ns->xs=ns.map V.int
 | [],xs,ys,r,h=>by unfold RepL at r;subst r;cases h;rfl
 | u::us,xs,ys,r,h=>by
  unfold RepL at r
  obtain ⟨x,xr,rfl,r1,r2⟩:=r
  obtain ⟨y,e1,h⟩:=bnd h
  obtain ⟨yr,e2,h⟩:=mpd h
  subst h
  cases u <;> simp only[toI] at e1 <;> first
   | (cases e1;unfold RepU at r1;subst r1;rw[Q0 r2 e2];rfl)
   | cases e1
def Pg:List Int->Int
 | []=>0
 | [a]=>a
 | a::r=>max a (Pg r)
theorem Aa7:∀ (ns:List Int) (M:Int),M∈ns->(∀ a,a∈ns->a<=M)->Pg ns=M
 | [],M,h,_=>by cases h
 | [a],M,h,_=>by simp at h;exact h.symm
 | a::b::r,M,h,hm=>by
  show max a (Pg (b::r))=M
  by_cases hb:M∈b::r
  ·rw[Aa7 (b::r) M hb fun c hc=>hm c (aR _ hc)]
   have:=hm a (aW ..)
   omega
  ·rcases aV.mp h with rfl | h
   ·have hle:∀ (l:List Int),l≠[]->(∀ c,c∈l->c<=M)->Pg l<=M:=by
     intro l
     induction l with
     | nil=>intro h;exact absurd rfl h
     | cons c t ih=>
      intro _ hc
      cases t with
      | nil=>exact hc c (aW ..)
      | cons d t=>
       have h1:=hc c (aW ..)
       have h2:=ih (by simp) fun e he=>hc e (aR _ he)
       show max c (Pg (d::t))<=M
       omega
    have:=hle (b::r) (by simp) fun c hc=>hm c (aR _ hc)
    omega
   ·exact absurd h hb
section
theorem Aex(hc:X.calm=true):CallR X (.builtin "sum") (fun xs H Q=>∃ (p:Addr) (ns:List Int),xs=[.ref p]/\SqL X.K H p (ns.map V.int)/\Q (.int ns.sum) H):=by
 intro pins s σ H xs us Q I r h
 obtain ⟨p,ns,rfl,hq,q⟩:=h
 obtain ⟨u,rfl,rx⟩:=Ku r
 cases rx
 obtain ⟨its,r',pl,hz⟩:=I.list hq
 have hi:nS its ns:=Nw r'
 obtain ⟨m,F⟩:=I.fr
 obtain ⟨xs,hx⟩:=hi.allInts.items
 have hl':s.heap.IsList p (intItems xs):=hx ▸ pl.isList
 refine wtk I.tk (sum_intListG (I.ok.hd hc) hl' fun h' tk t' hk ht=>?_)
 have e1:ns=xs.toList.map (·.1):=by
  rw[<- pF,<- hx]
  exact (show numsOf its.toArray.toList=ns from hi.numsOf).symm
 have e2:preSum (numAt xs) xs.size=ns.sum:=by
  rw[preSum_eq,cZ (by simp),e1]
 rw[e2]
 exact ⟨.int ns.sum,H,I.kept hk ht,⟨_,rfl⟩,q⟩
theorem Adq(hc:X.calm=true):CallR X (.builtin "sum") (fun xs H Q=>∃ (p:Addr) (ns:List Int),xs=[.ref p]/\SqT X.K H p (ns.map V.int)/\Q (.int ns.sum) H):=by
 intro pins s σ H xs us Q I r h
 obtain ⟨p,ns,rfl,hq,q⟩:=h
 obtain ⟨u,rfl,rx⟩:=Ku r
 cases rx
 obtain ⟨its,r',pl,hz⟩:=I.tuple hq
 have hi:nS its ns:=Nw r'
 obtain ⟨xs,hx⟩:=hi.allInts.items
 have hl':s.heap.IsTuple p (intItems xs):=hx ▸ pl
 refine wtk I.tk (PySem.W.ktm_sumG (I.ok.hd hc) hl' fun h' tk t' hk ht=>?_)
 have e1:ns=xs.toList.map (·.1):=by
  rw[<- pF,<- hx]
  exact (show numsOf its.toArray.toList=ns from hi.numsOf).symm
 have e2:preSum (numAt xs) xs.size=ns.sum:=by
  rw[preSum_eq,cZ (by simp),e1]
 rw[e2]
 exact ⟨.int ns.sum,H,I.kept hk ht,⟨_,rfl⟩,q⟩
theorem Adt(hc:X.calm=true):CallR X (.builtin "sum") (fun xs H Q=>(∃ (p:Addr) (ns:List Int),xs=[.ref p]/\SqL X.K H p (ns.map V.int)/\Q (.int ns.sum) H)\/∃ (p:Addr) (ns:List Int),xs=[.ref p]/\SqT X.K H p (ns.map V.int)/\Q (.int ns.sum) H):=(Aex hc).or (Adq hc)
theorem Ae0(hc:X.calm=true):CallR X (.builtin "max") (fun xs H Q=>∃ (p:Addr) (ns:List Int),xs=[.ref p]/\SqL X.K H p (ns.map V.int)/\0 < ns.length/\Q (.int (Pg ns)) H):=by
 intro pins s σ H xs us Q I r h
 obtain ⟨p,ns,rfl,hq,hne,q⟩:=h
 obtain ⟨u,rfl,rx⟩:=Ku r
 cases rx
 obtain ⟨its,r',pl,hz⟩:=I.list hq
 have hi:nS its ns:=Nw r'
 obtain ⟨xs,e⟩:=hi.allInts.items
 have hns:ns=xs.toList.map (·.1):=by rw[<- hi.numsOf,<- pF,<- e]
 have hsz:0 < xs.size:=by
  have h3:=hne;rw[hns,aM,eW] at h3;exact h3
 have hl':s.heap.IsList p (intItems xs):=e ▸ pl.isList
 refine wtk I.tk (max_intList (I.ok.hd hc) hl' hsz fun v h' tk hv hk ht=>?_)
 obtain ⟨t,rfl⟩:=intItems_at hv
 obtain ⟨h1,h2⟩:=argBest_gt (numAt xs) (xs.size - 1)
 have hM:=Aa7 ns (numAt xs (argBest (fun i j=>decide (numAt xs i > numAt xs j)) (xs.size - 1))) (by rw[hns,numAt_eq];exact getD_mem (by rw[aM,eW];omega)) (fun a ha=>by
  rw[hns] at ha
  obtain ⟨j,hj,rfl⟩:=mem_getD ha
  rw[aM,eW] at hj
  rw[<- numAt_eq];exact h2 j (by omega))
 rw[hM] at q
 exact ⟨.int _,H,I.kept hk ht,⟨_,rfl⟩,q⟩
end
def semSum:SC:=fun us L=>match us with
 | [.ref n]=>(Az L n).bind fun l=>(mapO toI l).map fun ns=>(.int ns.sum,L)
 | [.tup l]=>(mapO toI l).map fun ns=>(.int ns.sum,L)
 | _=>none
theorem Hy{x:V}(A:Abs K H α L)(hl:Az L n=some l)(rx:RepU K H α (.ref n) x):∃ a ys,x = .ref a/\SqL K H a ys/\RepL K H α l ys:=by
 obtain ⟨a,ys,ea,sq,r2⟩:=Il A hl
 obtain ⟨a',ea',rfl⟩:=rx.ref_of A
 rw[ea] at ea';cases ea'
 exact ⟨a,ys,rfl,sq,r2⟩
theorem Akc:Pw K (fun xs H Q=>(∃ (p:Addr) (ns:List Int),xs=[.ref p]/\SqL K H p (ns.map V.int)/\Q (.int ns.sum) H)\/∃ (p:Addr) (ns:List Int),xs=[.ref p]/\SqT K H p (ns.map V.int)/\Q (.int ns.sum) H) semSum:=by
 intro H α L us xs z L' Q A r e q
 unfold semSum at e
 split at e
 ·obtain ⟨l,hl,e⟩:=bnd e
  obtain ⟨ns,e1,e⟩:=mpd e
  cases e
  obtain ⟨x,rfl,rx⟩:=r.one
  obtain ⟨a,ys,rfl,sq,r2⟩:=Hy A hl rx
  rw[Q0 r2 e1] at sq
  exact .inl ⟨a,ns,rfl,sq,q _ H α (.refl _ _) A rfl⟩
 ·obtain ⟨ns,e1,e⟩:=mpd e
  cases e
  obtain ⟨x,rfl,rx⟩:=r.one
  unfold RepU at rx
  obtain ⟨a,ys,rfl,sq,r2⟩:=rx
  rw[Q0 r2 e1] at sq
  exact .inr ⟨a,ns,rfl,sq,q _ H α (.refl _ _) A rfl⟩
 ·cases e
def Acs(g2:Int->Int->Int)(gl:List Int->Int):SC:=fun us L=>match us with
 | [.int i,.int j]=>some (.int (g2 i j),L)
 | [.ref n]=>(Az L n).bind fun l=>(mapO toI l).bind fun ns=>if ns.isEmpty=true then none else some (.int (gl ns),L)
 | _=>none
def Pz:SC:=Acs (fun i j=>if j > i then j else i) Pg
theorem Apt{g2:Int->Int->Int}{gl:List Int->Int}:Pw K (fun xs H Q=>(∃ i j,xs=[.int i,.int j]/\Q (.int (g2 i j)) H)\/∃ (p:Addr) (ns:List Int),xs=[.ref p]/\SqL K H p (ns.map V.int)/\0 < ns.length/\Q (.int (gl ns)) H) (Acs g2 gl):=by
 intro H α L us xs z L' Q A r e q
 unfold Acs at e
 split at e
 ·cases e
  obtain ⟨x,y,rfl,rx,ry⟩:=r.two
  unfold RepU at rx ry
  exact .inl ⟨_,_,by rw[rx,ry],q _ H α (.refl _ _) A rfl⟩
 ·obtain ⟨l,hl,e⟩:=bnd e
  obtain ⟨ns,e1,e⟩:=bnd e
  split at e
  ·cases e
  ·rename_i hne
   cases e
   obtain ⟨x,rfl,rx⟩:=r.one
   obtain ⟨a,ys,rfl,sq,r2⟩:=Hy A hl rx
   rw[Q0 r2 e1] at sq
   exact .inr ⟨a,ns,rfl,sq,by cases ns <;> simp_all,q _ H α (.refl _ _) A rfl⟩
 ·cases e
theorem Tr(hc:X.calm=true):CallR X (.builtin "max") (fun xs H Q=>(∃ i j,xs=[.int i,.int j]/\Q (.int (if j > i then j else i)) H)\/∃ (p:Addr) (ns:List Int),xs=[.ref p]/\SqL X.K H p (ns.map V.int)/\0 < ns.length/\Q (.int (Pg ns)) H):=(Ad9 hc).or (Ae0 hc)
theorem Ac3:Pw K (fun xs H Q=>(∃ i j,xs=[.int i,.int j]/\Q (.int (if j > i then j else i)) H)\/∃ (p:Addr) (ns:List Int),xs=[.ref p]/\SqL K H p (ns.map V.int)/\0 < ns.length/\Q (.int (Pg ns)) H) Pz:=Apt
def semAbs:SC:=fun us L=>match us with
 | [.int i]=>some (.int (if i < 0 then -i else i),L)
 | _=>none
theorem Ab6:Pw K (fun xs H Q=>∃ i,xs=[.int i]/\Q (.int (if i < 0 then -i else i)) H) semAbs:=by
 intro H α L us xs z L' Q A r e q
 unfold semAbs at e
 split at e
 ·cases e
  obtain ⟨x,rfl,rx⟩:=r.one
  unfold RepU at rx
  exact ⟨_,by rw[rx],q _ H α (.refl _ _) A rfl⟩
 ·cases e
def semInt:SC:=fun us L=>match us with
 | [.int i]=>some (.int i,L)
 | [.bl k]=>some (.int (if k then 1 else 0),L)
 | _=>none
theorem Q1:Pw K (fun xs H Q=>(∃ i,xs=[.int i]/\Q (.int i) H)\/∃ k,xs=[.bl k]/\Q (.int (if k then 1 else 0)) H) semInt:=by
 intro H α L us xs z L' Q A r e q
 unfold semInt at e
 split at e
 ·cases e
  obtain ⟨x,rfl,rx⟩:=r.one
  unfold RepU at rx
  exact .inl ⟨_,by rw[rx],q _ H α (.refl _ _) A rfl⟩
 ·cases e
  obtain ⟨x,rfl,rx⟩:=r.one
  unfold RepU at rx
  exact .inr ⟨_,by rw[rx],q _ H α (.refl _ _) A rfl⟩
 ·cases e
def Pc:SC:=fun us L=>match us with
 | [.ref n]=>(Az L n).map fun l=>(.ref L.length,L++[.lst l])
 | [.tup l]=>some (.ref L.length,L++[.lst l])
 | _=>none
theorem Ae8:Pw K (fun xs H Q=>∃ p ys,xs=[.ref p]/\(SqL K H p ys\/SqT K H p ys)/\∀ l,H l=none->Q (.ref l) (upd H l (.lst ys))) Pc:=by
 intro H α L us xs z L' Q A r e q
 unfold Pc at e
 split at e
 ·obtain ⟨l,hl,e⟩:=mpd e
  cases e
  obtain ⟨x,rfl,rx⟩:=r.one
  obtain ⟨a,ys,rfl,sq,r2⟩:=Hy A hl rx
  refine ⟨a,ys,rfl,.inl sq,fun p hp=>?_⟩
  obtain ⟨g,A',r'⟩:=A.lst r2 hp
  exact q _ _ _ g A' r'
 ·cases e
  obtain ⟨x,rfl,rx⟩:=r.one
  unfold RepU at rx
  obtain ⟨a,ys,rfl,sq,r2⟩:=rx
  refine ⟨a,ys,rfl,.inr sq,fun p hp=>?_⟩
  obtain ⟨g,A',r'⟩:=A.lst r2 hp
  exact q _ _ _ g A' r'
 ·cases e
def E6:SC:=fun us L=>match us with
 | [.ref n]=>(Az L n).map fun l=>(.tup l,L)
 | [.tup l]=>some (.tup l,L)
 | _=>none
theorem Ph:Pw K (fun xs H Q=>∃ p ys,xs=[.ref p]/\((SqL K H p ys/\∀ l,H l=none->Q (.ref l) (upd H l (.tup ys)))\/(SqT K H p ys/\Q (.ref p) H))) E6:=by
 intro H α L us xs z L' Q A r e q
 unfold E6 at e
 split at e
 ·obtain ⟨l,hl,e⟩:=mpd e
  cases e
  obtain ⟨x,rfl,rx⟩:=r.one
  obtain ⟨a,ys,rfl,sq,r2⟩:=Hy A hl rx
  refine ⟨a,ys,rfl,.inl ⟨sq,fun p hp=>?_⟩⟩
  obtain ⟨g,A',r'⟩:=A.tup r2 hp
  exact q _ _ _ g A' r'
 ·cases e
  obtain ⟨x,rfl,rx⟩:=r.one
  have rx':=rx
  unfold RepU at rx
  obtain ⟨a,ys,rfl,sq,r2⟩:=rx
  exact ⟨a,ys,rfl,.inr ⟨sq,q _ H α (.refl _ _) A rx'⟩⟩
 ·cases e
def C1:SM:=fun u us L=>match u,us with
 | .ref n,[y]=>(lstAt L n).bind fun l=>if decide (l.length < sizeLine)=true then some (.non,L.set n (.lst (l++[y]))) else none
 | _,_=>none
theorem N7{x:V}(A:Abs K H α L)(hl:lstAt L n=some l)(rx:RepU K H α (.ref n) x):∃ a ys,x = .ref a/\α[n]? = some a/\H a=some (.lst ys)/\RepL K H α l ys:=by
 obtain ⟨a,ys,ea,sq,r2⟩:=O0 A hl
 obtain ⟨a',ea',rfl⟩:=rx.ref_of A
 rw[ea] at ea';cases ea'
 exact ⟨a,ys,rfl,ea,sq,r2⟩
theorem Gk:V8 K Acf C1:=by
 intro H α L u us x xs z L' Q A ru r e q
 unfold C1 at e
 split at e
 ·obtain ⟨l,hl,e⟩:=bnd e
  split at e
  ·rename_i hs
   cases e
   obtain ⟨y,rfl,ry⟩:=r.one
   obtain ⟨a,ys,rfl,ea,h,r2⟩:=N7 A hl ru
   obtain ⟨g,A'⟩:=A.setL hl ea h (r2.append (.cons ry .nil))
   exact ⟨a,ys,y,rfl,rfl,h,by rw[<- r2.length];exact of_decide_eq_true hs,q _ _ _ g A' rfl⟩
  ·cases e
 ·cases e
def Gu:SM:=fun u us L=>match u,us with
 | .ref n,[.int i]=>(lstAt L n).bind fun l=>if -(2 ^ 63)<=i/\i < 2 ^ 63 then (seqIndex? i l.length).bind fun k=>(l[k]?).map fun y=>(y,L.set n (.lst (l.eraseIdx k))) else none
 | _,_=>none
theorem Q4:V8 K Ag5 Gu:=by
 intro H α L u us x xs z L' Q A ru r e q
 unfold Gu at e
 split at e
 ·obtain ⟨l,hl,e⟩:=bnd e
  split at e
  ·rename_i hs
   obtain ⟨k,ek,e⟩:=bnd e
   obtain ⟨y,ey,e⟩:=mpd e
   cases e
   obtain ⟨v,rfl,rv⟩:=r.one
   unfold RepU at rv
   subst rv
   obtain ⟨a,ys,rfl,ea,h,r2⟩:=N7 A hl ru
   obtain ⟨w,ew,rw⟩:=r2.get ey
   obtain ⟨g,A'⟩:=A.setL hl ea h (r2.erase k)
   exact ⟨a,ys,_,k,w,rfl,rfl,h,hs.1,hs.2,by rw[<- r2.length];exact ek,ew,q _ _ _ g A' (rw.mono g)⟩
  ·cases e
 ·cases e
def gSub(fo fi:FE):FG:=fun v δ L=>(fo δ L).bind fun p=>(fi δ p.2).bind fun q=>match p.1,q.1 with
 | .ref n,.int k=>(lstAt q.2 n).bind fun l=>(ixN l.length k).map fun j=>(δ,q.2.set n (.lst (l.set j v)))
 | _,_=>none
theorem Hq{o i:Expr}{fo fi:FE}(ho:PEF X o fo)(hi:PEF X i fi)(ha:∀ v,assign (.Subscript o i pos) X.env v=(do let ov <- holding [v] (eval o X.env);let iv <- holding [v,ov] (eval i X.env);standAt pos;holding [v,ov,iv] (setItem ov iv v);release [v,ov,iv] []):=by intro _;rfl):PGF X (.Subscript o i pos) (MR.gSub fo fi):=by
 refine PG.imp (Am6 ho hi Ah2 ha) ?_
 rintro v σ H Q ⟨α,δ,L,u,A,S,r,δ',L',e,q⟩
 obtain ⟨o',L1,e1,e⟩:=B9 e
 obtain ⟨i',L2,e2,e⟩:=B9 e
 refine ⟨α,δ,L,A,S,o',L1,e1,fun x H1 α1 g1 A1 r1=>⟨α1,δ,L1,A1,S.mono g1,i',L2,e2,fun y H2 α2 g2 A2 r2=>?_⟩⟩
 simp only at e
 split at e
 ·obtain ⟨l,hl,e⟩:=bnd e
  obtain ⟨j,ej,e⟩:=mpd e
  cases e
  unfold RepU at r2
  subst r2
  obtain ⟨a,ys,rfl,ea,h,r3⟩:=N7 A2 hl (r1.mono g2)
  obtain ⟨g,A'⟩:=A2.setL hl ea h (r3.set ((r.mono g1).mono g2) j)
  exact ⟨a,ys,_,j,rfl,rfl,h,by rw[<- r3.length];exact ej,q _ _ _ (g1.trans (g2.trans g)) A' (((S.mono g1).mono g2).mono g)⟩
 ·cases e
def Vw(u:U)(L:UH):Option String:=match u with
 | .non=>some "NoneType"
 | .bl _=>some "bool"
 | .int _=>some "int"
 | .str _=>some "str"
 | .tz _=>none
 | .tup _=>some "tuple"
 | .ref n=>match L[n]? with
  | some (.lst _)=>some "list"
  | some (.ro _)=>some "list"
  | some (.dic _)=>some "dict"
  | _=>none
def isT(t c:String):Bool:=t == c || (t == "bool" && c == "int")
def Vj:List String:=["NoneType","bool","int","str","tuple","list","dict"]
def Kit(K:aB)(c:String):Prop:=∀ t∈Vj,dD K (.type t) (.type c)=some (isT t c)
theorem Aa4{c:String}(h1:dD K (.type "NoneType") (.type c)=some (isT "NoneType" c))(h2:dD K (.type "bool") (.type c)=some (isT "bool" c))(h3:dD K (.type "int") (.type c)=some (isT "int" c))
  (h4:dD K (.type "str") (.type c)=some (isT "str" c)) (h5:dD K (.type "tuple") (.type c)=some (isT "tuple" c)) (h6:dD K (.type "list") (.type c)=some (isT "list" c)) (h7:dD K (.type "dict") (.type c)=some (isT "dict" c)):Kit K c:=by
 intro t ht
 simp only[Vj,aV,eP,or_false] at ht
 rcases ht with rfl | rfl | rfl | rfl | rfl | rfl | rfl <;> assumption
theorem Aic:Kit K "bool" := Aa4 (by with_unfolding_all rfl) (by with_unfolding_all rfl) (by with_unfolding_all rfl) (by with_unfolding_all rfl) (by with_unfolding_all rfl) (by with_unfolding_all rfl) (by with_unfolding_all rfl)
theorem Ak4:Kit K "int" := Aa4 (by with_unfolding_all rfl) (by with_unfolding_all rfl) (by with_unfolding_all rfl) (by with_unfolding_all rfl) (by with_unfolding_all rfl) (by with_unfolding_all rfl) (by with_unfolding_all rfl)
theorem Aea:Kit K "tuple" := Aa4 (by with_unfolding_all rfl) (by with_unfolding_all rfl) (by with_unfolding_all rfl) (by with_unfolding_all rfl) (by with_unfolding_all rfl) (by with_unfolding_all rfl) (by with_unfolding_all rfl)
def TyV(K:aB)(H:Hp)(x:V)(t:String):Prop:=match x with
 | .non=>t = "NoneType"
 | .bl _=>t = "bool"
 | .int _=>t = "int"
 | .str _=>t = "str"
 | .ref a=>(t = "list" /\ ∃ xs,SqL K H a xs)\/(t = "tuple" /\ ∃ xs,SqT K H a xs)\/(t = "dict" /\ ∃ kvs,H a=some (.dK kvs))
 | _=>False
theorem Afq{c:String}:CallR X (.builtin "isinstance") (fun xs H Q=>∃ x t b,xs=[x,.ty c]/\TyV X.K H x t/\dD X.K (.type t) (.type c)=some b/\Q (.bl b) H):=by
 intro pins s σ H xs us Q I r h
 obtain ⟨x,t,b,rfl,ty,e,q⟩:=h
 obtain ⟨u,w',rfl,rx,ry⟩:=Abp r
 cases ry
 refine wtk I.tk ?_
 have fin:∀ tk,0 < tk->EP X pins σ Q (.bool b) { s with toks:=tk }:=fun tk ht=>⟨.bl b,H,I.tok _ ht,rfl,q⟩
 cases x with
 | non=>cases ty;exact Jx I rx (.non) e fin
 | bl y=>cases ty;exact Jx I rx (.bl y) e fin
 | int y=>cases ty;exact Jx I rx (.int y) e fin
 | str y=>cases ty;exact Jx I rx (.str y) e fin
 | ref a=>
  cases (show u=bP a from rx)
  rcases ty with ⟨rfl,ys,sq⟩ | ⟨rfl,ys,sq⟩ | ⟨rfl,kvs,ea⟩
  ·obtain ⟨its,_,⟨o,n,h1,h2,_⟩,_⟩:=I.list sq
   exact cW mX I.kIn ⟨o,h1,h2⟩ e (fun z=>nomatch z) fin
  ·obtain ⟨its,_,⟨o,h1,h2,_⟩,_⟩:=I.tuple sq
   exact cW pS I.kIn ⟨o,h1,h2⟩ e (fun z=>nomatch z) fin
  ·exact Jx I rx (.dK ea) e fin
 | tz y=>cases ty
 | byt y=>cases ty
 | flt y=>cases ty
 | ty y=>cases ty
theorem Ad2{x:V}{t:String}(A:Abs K H α L)(r:RepU K H α u x)(h:Vw u L=some t):TyV K H x t/\t∈Vj:=by
 cases u with
 | non=>unfold RepU at r;subst r;cases h;exact ⟨rfl,by decide⟩
 | bl b=>unfold RepU at r;subst r;cases h;exact ⟨rfl,by decide⟩
 | int i=>unfold RepU at r;subst r;cases h;exact ⟨rfl,by decide⟩
 | str y=>unfold RepU at r;subst r;cases h;exact ⟨rfl,by decide⟩
 | tz y=>cases h
 | tup l=>unfold RepU at r;obtain ⟨a,xs,rfl,sq,_⟩:=r;cases h;exact ⟨.inr (.inl ⟨rfl,xs,sq⟩),by decide⟩
 | ref n=>
  unfold RepU at r
  obtain ⟨a,ea,rfl⟩:=r
  unfold Vw at h
  simp only at h
  split at h
  ·rename_i e;cases h;obtain ⟨xs,h,_⟩:=A.rep n a _ ea e;exact ⟨.inl ⟨rfl,xs,.of h⟩,by decide⟩
  ·rename_i e;cases h;obtain ⟨xs,h,_⟩:=A.rep n a _ ea e;exact ⟨.inl ⟨rfl,xs,h.sq⟩,by decide⟩
  ·rename_i e;cases h;obtain ⟨xs,h,_⟩:=A.rep n a _ ea e;exact ⟨.inr (.inr ⟨rfl,xs,h⟩),by decide⟩
  ·cases h
def Qr(c:String)(f:FE):FE:=fun δ L=>(f δ L).bind fun p=>(Vw p.1 p.2).map fun t=>(.bl (isT t c),p.2)
theorem Aat{p2:Pos}{cn:Str}{c:String}(hk:Kit X.K c)(he:PEF X e fe)(hg:Gl X "isinstance")(hm:X.mg "isinstance" = none)(hg2:Gl X cn)(hm2:X.mg cn=none)(hv2:fG cn=some (.type c))
  (hn:cn ≠ "__name__" := by decide) (hdb:(cn == ("__debug__" : Str))=false:=by decide)
  (hs:aN [e,.Name cn p2] X.env=(false,eval e X.env)::aN [.Name cn p2] X.env:=by rfl) (hs2:aN [.Name cn p2] X.env=(false,eval (.Name cn p2) X.env)::aN [] X.env:=by rfl)
  (hpl:(backTo pos (aN [.Name cn p2] X.env)).any (·.1)=false:=by rfl):PEF X (.Call (.Name "isinstance" p) [e,.Name cn p2] [] pos) (Qr c fe):=by
 refine PE.imp (Lp (Afq (c:=c)) hg hm (by decide +kernel) (Ga he (Ga (Ab8 hg2 hm2 hv2 (v:=.ty c) rfl hn hdb) Nh hs2) hs) (by decide) (by decide) hs hpl) ?_
 rintro σ H Q ⟨α,δ,L,A,S,z,L3,e,q⟩
 obtain ⟨u,L1,e1,e⟩:=B9 e
 obtain ⟨t,e2,e⟩:=mpd e
 cases e
 refine ⟨α,δ,L,A,S,u,_,e1,fun x H1 α1 g1 A1 r1=>?_⟩
 obtain ⟨h1,h2⟩:=Ad2 A1 r1 e2
 exact ⟨x,t,_,rfl,h1,hk t h2,q _ H1 α1 g1 A1 rfl⟩
theorem Nl(env:fP):∀ (names:List (Str×jV)) (cs:List (Str×Addr)),(∀ y∈names,y.2 = .free->∃ c,env.cells.lookup y.1=some c)->(∀ x c,cs.lookup x=some c->env.cells.lookup x=some c) ->
  ∃ cl:List (Str×Addr),(forIn names cs fun (x:Str×jV) r=>if (x.2 == iJ)=true then do let c <- cellOf env x.1;pure (iI ((x.1,c)::r)) else pure (iI r):Sem (List (Str×Addr)))=pure cl /\
   (∀ x c,cl.lookup x=some c->env.cells.lookup x=some c)/\(∀ y∈names,y.2 = .free->∃ c,cl.lookup y.1=some c)/\∀ x,(∃ c,cs.lookup x=some c)->∃ c,cl.lookup x=some c
 | [],cs,_,h2=>⟨cs,rfl,h2,(fun _ h=>nomatch h),fun _ h=>h⟩
 | (n,k)::r,cs,h1,h2=>by
  cases hk:k == iJ with
  | true=>
   have hk':k = .free:=by simpa using hk
   obtain ⟨c,hc⟩:=h1 (n,k) (aW ..) hk'
   have look:∀ x c',sW x ((n,c)::cs)=some c'->env.cells.lookup x=some c':=fun x c' e=>by
    rw[cB] at e
    cases hx:x == n with
    | true => rw [hx] at e; simp at e; subst e; have : x = n := by simpa using hx
              rw[this];exact hc
    | false=>rw[hx] at e;exact h2 x c' e
   obtain ⟨cl,e,p1,p2,p3⟩:=Nl env r ((n,c)::cs) (fun y hy=>h1 y (aR _ hy)) look
   refine ⟨cl,?_,p1,fun y hy hf=>?_,fun x hx=>?_⟩
   ·rw[rH]
    have e0:(cellOf env n:Sem Addr)=pure c:=by unfold cellOf;rw[hc]
    simp only[hk,if_true,e0]
    exact e
   ·rcases aV.mp hy with rfl | hy
    ·exact p3 n ⟨c,by simp⟩
    ·exact p2 y hy hf
   ·refine p3 x ?_
    rw[cB]
    cases hx':x == n with
    | true=>exact ⟨c,rfl⟩
    | false=>exact hx
  | false=>
   obtain ⟨cl,e,p1,p2,p3⟩:=Nl env r cs (fun y hy=>h1 y (aR _ hy)) h2
   refine ⟨cl,?_,p1,fun y hy hf=>?_,p3⟩
   ·rw[rH]
    simp only[hk,cU,if_false]
    exact e
   ·rcases aV.mp hy with rfl | hy
    ·rw[show k=iJ from hf] at hk;cases hk
    ·exact p2 y hy hf
variable {scope:mU}{env:fP}
theorem Mr(h:∀ y∈scope.names,y.2 = .free->∃ c,env.cells.lookup y.1=some c) :
  ∃ cl,closureFor scope env=pure cl/\(∀ x c,cl.lookup x=some c->env.cells.lookup x=some c)/\∀ y∈scope.names,y.2 = .free->∃ c,cl.lookup y.1=some c:=by
 obtain ⟨cl,e,p1,p2,_⟩:=Nl env scope.names [] h (fun x c e=>by simp at e)
 refine ⟨cl,?_,p1,p2⟩
 unfold closureFor
 show (forIn scope.names [] _ >>= fun cs=>pure cs)=pure cl
 have:(forIn scope.names ([]:List (Str×Addr)) (fun (x:Str×jV) (r:List (Str×Addr))=>if (x.2 == iJ)=true then do let c <- cellOf env x.1;pure (iI ((x.1,c)::r)) else pure (iI r)):Sem (List (Str×Addr))) >>= (fun cs=>pure cs)=pure cl:=by rw[e];rfl
 exact this
def blk(X:Cx)(scope:mU)(cl:List (Str×Addr))(C:Addr)(N':List Str)(s2:aH)(H2:Hp)(fp:List Addr)(pins:List (Addr×Obj)):Cx:=
 { X with env:=compEnvC scope cl C X.env,N:=N',s₀:=s2,H₀:=H2,outer:=X.stack,ex:=fp,fn:=fun _=>false,pn:=X.pn++pins,xe:=fun _ _=>False }
theorem HOk.adopt{h:Heap}(x:HOk P w H h)(hn:H a=none)(new:ObjOk P w (upd H a o) h a o):HOk P w (upd H a o) h:=fun b u e=>by
 by_cases hb:b=a
 ·subst hb;rw[upd_same] at e;cases e;exact new
 ·rw[Bv hb] at e
  exact (x b u e).stay (fun c v _ q=>q) (fun c q=>by rw[Bv (By q hn)];exact q) fun c xs q=>by rw[Bv (By q hn)];exact q
theorem Un.adopt{fs ex:List Addr}{h h1:Heap}(u:Un fs ex H H1 h h1)(hn:H1 a=none)(ha:h.get? a=none):Un fs ex H (upd H1 a o) h h1 where
 keep:=u.keep
 slot:=u.slot
 free:=fun b ob q n hx=>by
  have:b≠a:=fun z=>by rw[z,ha] at q;cases q
  rw[Bv this];exact u.free b ob q n hx
 there:=u.there
 tups:=fun b xs q=>by have q':=u.tups b xs q;rw[Bv (By q' hn)];exact q'
 frzs:=fun b ob xs q=>by have q':=u.frzs b ob xs q;rw[Bv (By q' hn)];exact q'
 tbls:=fun b ps q=>by
  obtain ⟨m,q'⟩:=u.tbls b ps q
  exact ⟨m,by rw[Bv (By q' hn)];exact q'⟩
structure CompSc(X:Cx)(scope:mU)(N':List Str)(ix:List (Option Nat)):Prop where
 kind:scope.kind = .function
 cell:(scope.names.all fun y=>y.2 != .cell)=true
 loc:(scope.names.all fun y=>y.2 != .local || scope.names.lookup y.1 == some .local)=true
 free:(scope.names.all fun y=>y.2 != .free || (X.env.kindOf y.1 == some .cell || X.env.kindOf y.1 == some .free))=true
 ixs:((N'.zip ix).all fun p=>match p.2 with | none=>true | some i=>(X.N[i]? == some p.1)&&(scope.names.lookup p.1 == some .free))=true
 len:N'.length=ix.length
def inner(ix:List (Option Nat))(σ:L2.St):L2.St:=ix.map fun o=>o.bind fun i=>(σ[i]?).join
def Afy(J:It)(g:TG)(tt:TT)(te:TE)(σ':L2.St)(H:Hp)(Fin:List V->Hp->Prop):Prop:=∃ W:Nat->Nat->List V->L2.St->Hp->Prop,(∃ m,W 0 m [] σ' H)/\∀ i m acc σ1 H1,W i m acc σ1 H1 ->
 (J.stop i H1/\Fin acc H1)\/(J.go i H1/\∀ x H3,J.yld i H1 x H3->g x σ1 H3 fun σ2 H4=>tt σ2 H4 fun b H5=>
  if b=true then te σ2 H5 fun y H6=>acc.length < sizeLine/\∃ m',m' < m/\W (i+1) m' (acc++[y]) σ2 H6 else ∃ m',m' < m/\W (i+1) m' acc σ2 H5)
variable {s2:aH}{N':List Str}{ix:List (Option Nat)}{cl:List (Str×Addr)}{fp:List Addr}
section
theorem Iv{β:Type}{v:β}:∀ {l:List (Str×β)},l.lookup x=some v->(x,v)∈l
 | [],h=>by simp at h
 | (n,k)::r,h=>by
  rw[cB] at h
  cases hx:x == n with
  | true => rw [hx] at h; simp at h; have : x = n := by simpa using hx
            subst this;subst h;exact aW ..
  | false=>rw[hx] at h;exact aR _ (Iv h)
theorem Iq{env:fP}{x:Str}:∀ {names:List (Str×jV)} {k:jV},(names.map fun (n,k)=>if (k == iJ&&env.scope.kind == .function&&env.kindOf n == some .cell) then (n,pG) else (n,k)).lookup x=some k ->
  names.lookup x=some k\/(names.lookup x=some .free/\k = .cell)
 | [],k,h=>by simp at h
 | (n,k')::r,k,h=>by
  have ih:=@Iq env x r k
  rw[aS] at h
  cases hx:x == n with
  | true=>
   rw[cB,hx]
   simp only at h ⊢
   split at h
   ·rename_i hc
    rw[cB,hx] at h
    simp at h
    simp only[bG] at hc
    have:k' = .free:=by simpa using hc.1.1
    subst this
    exact .inr ⟨rfl,h.symm⟩
   ·rw[cB,hx] at h
    exact .inl h
  | false=>
   rw[cB,hx]
   simp only at h ⊢
   split at h
   ·rw[cB,hx] at h;exact ih h
   ·rw[cB,hx] at h;exact ih h
theorem Ho{env:fP}{x:Str}:∀ {names:List (Str×jV)},names.lookup x=some .free ->
  (names.map fun (n,k)=>if (k == iJ&&env.scope.kind == .function&&env.kindOf n == some .cell) then (n,pG) else (n,k)).lookup x=some .free\/(names.map fun (n,k)=>if (k == iJ&&env.scope.kind == .function&&env.kindOf n == some .cell) then (n,pG) else (n,k)).lookup x=some .cell
 | [],h=>by simp at h
 | (n,k')::r,h=>by
  have ih:=@Ho env x r
  rw[aS]
  cases hx:x == n with
  | true=>
   rw[cB,hx] at h
   simp at h
   subst h
   simp only
   split
   ·right;rw[cB,hx]
   ·left;rw[cB,hx]
  | false=>
   rw[cB,hx] at h
   have:=ih h
   simp only
   split
   ·rw[cB,hx];exact this
   ·rw[cB,hx];exact this
theorem Aeu(S:CompSc X scope N' ix)(hcalm:X.calm=true)(I2:Inv X pins σ H2 s2)(hcl:∀ x c,cl.lookup x=some c->X.env.cells.lookup x=some c)(hcl2:∀ y∈scope.names,y.2 = .free->∃ c,cl.lookup y.1=some c)
  (f2:∀ b∈fp,Kq X pins H2 b) (hfp:∀ b∈fp,b < s2.heap.objs.size) {C:Addr} {h4:Heap} {m:Str->Option aE} {t4:Nat} (hC:s2.heap.objs.size<=C) (hns:h4.Ns C m) (keep:∀ b o,s2.heap.get? b=some o->h4.get? b=some o) (ht:0 < t4:=by first | exact cL _ | exact L2.Inv.tk (by assumption) | exact aG (L2.Inv.tk (by assumption)) (cI _ _) | assumption | omega) :
  Inv (blk X scope cl C N' s2 H2 fp pins) [] (inner ix σ) H2 { s2 with heap:=h4,toks:=t4 }:=by
 have hkindC:(relabel scope X.env).kind = .function:=S.kind
 have ok:(blk X scope cl C N' s2 H2 fp pins).Ok:=
  { mod:=I2.ok.mod
    kind:=hkindC
    glob:=I2.ok.glob
    blt:=I2.ok.blt
    above:=hC
    inj:=fun x y c e1 e2=>I2.ok.inj x y c (hcl x c e1) (hcl y c e2)
    has:=fun x h=>by
     have h':(relabel scope X.env).names.lookup x=some .cell\/(relabel scope X.env).names.lookup x=some .free:=h
     have hfree:scope.names.lookup x=some .free:=by
      rcases h' with h' | h'
      ·rcases Iq h' with q | ⟨q,_⟩
       ·have:=bW.mp S.cell _ (Iv q)
        simp at this
       ·exact q
      ·rcases Iq h' with q | ⟨q,z⟩
       ·exact q
       ·cases z
     exact hcl2 _ (Iv hfree) rfl
    cab:=fun x c h=>by cases h
    hd:=fun _=>I2.ok.hd hcalm
    frames:=I2.ok.frames
    stk:=.inl rfl
    exf:=fun b hb=>⟨cC (aG (hfp b hb) hC),fun x c e=>(f2 b hb).2.2.2.2.1 x c (hcl x c e)⟩
    bs:=fun b o e=>I2.bs b o e
    bsz:=bJ I2.ok.bsz I2.sz
    noex:=fun b o e hb=>by
     rcases (f2 b hb).2.2.2.1 with z | z
     ·exact I2.ok.noex b o e z
     ·exact absurd (aG (aO (I2.ok.bs b o e).1) z) (dA _)
    exfs:=fun b hb z=>by
     rcases aV.mp (I2.stkSub b z) with q | q
     ·exact (f2 b hb).2.1 q
     ·exact (f2 b hb).2.2.1 q
    funs:=I2.stack
    frf:=I2.stkFree }
 obtain ⟨m0,hn0,hl0⟩:=id I2.loc
 refine ⟨ok,rfl,I2.bare,Un.kept keep,⟨m,hns,fun j x v e1 e2 e3=>?_⟩,fun x c e=>?_,I2.hok.fresh hC,fun x c e=>I2.freeC x c (hcl x c e),fun p hp=>?_,I2.hok.kept keep,?_,ht⟩
 ·-- a name that the block takes along
  have e1':N'[j]? = some x:=e1
  have e2':(inner ix σ)[j]? = some (some v):=e2
  unfold inner at e2'
  rw[bO] at e2'
  cases hx:ix[j]? with
  | none=>rw[hx] at e2';simp at e2'
  | some o=>
   rw[hx] at e2'
   cases o with
   | none=>simp at e2'
   | some i=>
    simp at e2'
    have hz:(x,some i)∈N'.zip ix:=dP (i:=j) (by rw[mQ];exact ⟨e1',hx⟩)
    have hz':=bW.mp S.ixs _ hz
    simp only[bG,beq_iff_eq] at hz'
    obtain ⟨hXN,hfr⟩:=hz'
    have hσ:σ[i]? = some (some v):=by
     cases q:σ[i]? with
     | none=>rw[q] at e2';simp at e2'
     | some o=>rw[q] at e2';simp at e2';rw[e2']
    have hk:=bW.mp S.free _ (Iv hfr)
    simp at hk
    have hvis:Vis X.env.scope x:=by
     rcases hk with q | q
     ·exact .inr (.inl q)
     ·exact .inr (.inr q)
    obtain ⟨u,r,look⟩:=hl0 i x v hXN hσ hvis
    rcases look with ⟨q,_⟩ | ⟨_,c,ec,hc⟩
    ·rcases hk with z | z
     ·rw[z] at q;cases q
     ·rw[z] at q;cases q
    ·obtain ⟨c',ec'⟩:=hcl2 _ (Iv hfr) rfl
     have:c'=c:=by have:=hcl x c' ec';rw[ec] at this;cases this;rfl
     subst this
     refine ⟨u,r,.inr ⟨?_,c',ec',?_⟩⟩
     ·rcases Ho (env:=X.env) hfr with q | q
      ·exact .inr q
      ·exact .inl q
     ·obtain ⟨oc,ho,hd⟩:=hc
      exact ⟨oc,keep _ _ ho,hd⟩
 ·obtain ⟨v,oc,ho,hd⟩:=I2.cell x c (hcl x c e)
  exact ⟨v,oc,keep _ _ ho,hd⟩
 ·have hp':p∈X.pn++pins:=by simpa[blk] using hp
  obtain ⟨q1,q2,q3,q4,q5⟩:=I2.pin p hp'
  refine ⟨keep _ _ q1,q2,cC (aG (aO q1) hC),fun z=>?_,q5⟩
  rcases aV.mp (I2.stkSub p.1 z) with q | q
  ·exact q3 q
  ·exact q4 q
 ·show (inner ix σ).length=N'.length
  rw[S.len];simp[inner]
end
variable {X':Cx}{tt:TT}{elt:Expr}{ifs:List Expr}{it:Addr}{J:It}{tn:Nat->Heap->Prop}{te:TE}
section
def Up(X':Cx)(ifs:List Expr)(tt:TT):Prop:=∀ (pins:List (Addr×Obj)) (s:aH) (σ:L2.St) (H:Hp) (Q:Bool->Hp->Prop) (E:aE->aH->Prop),Inv X' pins σ H s->tt σ H Q->(∀ e s,X'.xe e s->E e s) ->
 wpAny (model X'.prog X'.w) X'.A (forIn ifs true fun c r=>if r=true then do let ok <- isTrue c X'.env (eval c X'.env);pure (iI ok) else pure (iI r)) (TP X' pins σ Q) E s
def Ai6:TT:=fun _ H Q=>Q true H
theorem Ue:Up X' [] Ai6:=fun pins s σ H Q E I h _=>wpAny_tests_nil ⟨H,I,h⟩
theorem Tt(h:PT X' c tt):Up X' [c] tt:=fun pins s σ H Q E I q hE=>wpAny_tests_one (cA (h pins s σ H Q I q) (fun _ _ z=>z) hE)
def Ea(its:List aE)(n:Nat):Obj:={ cls:=.type "list",data:=.seq its.toArray n }
theorem Ads{elt tg iter:Expr}{ifs:List Expr}{pos:Pos}{it D C:Addr}{J:It}{tn:Nat->Heap->Prop}{g:TG}{tt:TT}{te:TE}{Fin:List V->Hp->Prop}{R:Result->aH->Prop}{X':Cx}
  (hX:X'.A=X.A/\X'.prog=X.prog/\X'.w=X.w/\X'.K=X.K/\X'.calm=true/\∀ e s,¬ X'.xe e s) (T:Turn X.prog X.w X.K tg J fp it tn) (hg:PG X' tg g) (ht:Up X' ifs tt) (he:PE X' elt te)
  (hD1:s2.heap.objs.size<=D) (hDC:D≠C) (hC:s2.heap.objs.size<=C) (hfp:∀ b∈fp,Kq X' [] H2 b/\b≠D) (hDf:∀ H,H D=none->Kq X' [] H D)
  {s:aH} {σ1:L2.St} {H1:Hp} {n0:Nat} (I:Inv X' [(D,Ea [] n0)] σ1 H1 s) (st:tn 0 s.heap) (fr:∀ b∈fp,H1 b=none) (hloop:Afy J g tt te σ1 H1 Fin)
  (hR:∀ (s':aH) (σ':L2.St) (H':Hp) (acc:List V) (its:List aE) (n:Nat),Inv X' [(D,Ea its n)] σ' H' s'->Vals acc its->acc.length<=sizeLine->Fin acc H'->R (.ok .next) s') :
  nQ (model X.prog X.w) X.A (.compLoop (.ListComp elt [⟨tg,iter,ifs,0⟩] scope pos) 0 (.ref it) (.ref D) X'.env) R s:=by
 obtain ⟨W,⟨m0,w0⟩,turn⟩:=hloop
 obtain ⟨hXA,hXp,hXw,hXK,hXc,hxe⟩:=hX
 have hfpo:∀ (o:Obj) (H:Hp),(∀ b∈fp,H b=none)->∀ b∈fp,Kq X' [(D,o)] H b:=fun o H hn b hb=>by
  obtain ⟨⟨_,q1,q2,q3,q4,q5⟩,q6⟩:=hfp b hb
  refine ⟨hn b hb,q1,q2,q3,q4,fun p hp=>?_⟩
  rcases bM.mp hp with z | z
  ·exact q5 p (cY _ z)
  ·have:p=(D,o):=by simpa using z
   rw[this];exact fun z=>q6 z.symm
 refine codeAny_loop rfl (fun n s=>∃ i acc its k σ1 H1,Inv X' [(D,Ea its k)] σ1 H1 s/\Vals acc its/\acc.length<=sizeLine/\tn i s.heap/\(∀ b∈fp,H1 b=none)/\W i n acc σ1 H1) (fun n s hI=>?_) m0 ⟨0,[],[],n0,σ1,H1,I,.nil,eO _,st,fr,w0⟩
 show wpAny _ X.A ((compTurn (.ListComp elt [⟨tg,iter,ifs,0⟩] scope pos) 0 (.ref it) (.ref D) X'.env).onRaise (fun x=>do noteFrame x X'.env;theTreesLotGoes x)) _ _ s
 refine wpAny_noted ?_
 rw[compTurn_list]
 obtain ⟨i,acc,its,k,σ1,H1,I,hv,hz,st,fr,w1⟩:=hI
 refine aF (kS (aF ?_))
 rcases turn i n acc σ1 H1 w1 with ⟨stop,fin⟩ | ⟨go,step⟩
 ·have h:=T.done X' hXp hXw hXK hXc i _ s σ1 H1 (notedBy (model X.prog X.w) X.A X'.env fun e s'=>R (.error e) s') I (hfpo _ H1 fr) st stop
  rw[hXA] at h
  refine thn h fun r s4 zz=>?_
  obtain ⟨hr,I4⟩:=zz
  subst hr
  exact aX (hR s4 σ1 H1 acc its k I4 hv hz fin)
 ·have h:=T.item X' hXp hXw hXK hXc i _ s σ1 H1 (notedBy (model X.prog X.w) X.A X'.env fun e s'=>R (.error e) s') I (hfpo _ H1 fr) st go
  rw[hXA] at h
  refine thn h fun r s4 zz=>?_
  obtain ⟨u,hr,h4⟩:=zz
  subst hr
  refine aF (thn h4 fun _ s5 zz=>?_)
  obtain ⟨x,H5,I5,r5,y5,st5,fr5⟩:=zz
  have I5':=I5.pinned (hfpo _ H5 fr5) (T.obj _ _ st5)
  have hg5:=hg _ s5 σ1 H5 x u _ I5' r5 (step x H5 y5)
  rw[hXp,hXw,hXA] at hg5
  refine aF (cA hg5 (fun _ s6 zz=>?_) fun e s z=>absurd z (hxe e s))
  obtain ⟨σ6,H6,I6,q6⟩:=zz
  have ht6:=ht _ s6 σ6 H6 _ (notedBy (model X.prog X.w) X.A X'.env fun e s'=>R (.error e) s') I6 q6 (fun e s z=>absurd z (hxe e s))
  rw[hXp,hXw,hXA] at ht6
  refine aF (thn ht6 fun b s7 zz=>?_)
  obtain ⟨H7,I7,q7⟩:=zz
  have back:∀ {σ8:L2.St} {H8:Hp} {s8:aH},Inv X' ([(D,Ea its k)]++Py fp s5.heap) σ8 H8 s8->tn (i+1) s8.heap/\(∀ b∈fp,H8 b=none)/\s8.heap.get? D=some (Ea its k)/\H8 D=none:=fun {σ8 H8 s8} I8=>by
   refine ⟨T.keep _ _ _ st5 fun b hb o e=>(I8.pin (b,o) (aU _ (aU _ (Gs hb e)))).1,fun b hb=>?_,?_,?_⟩
   ·obtain ⟨o,e,d⟩:=T.obj _ _ st5 b hb
    exact (I8.pin (b,o) (aU _ (aU _ (Gs hb e)))).2.1
   ·exact (I8.pin (D,Ea its k) (aU _ (cY _ (dH.mpr rfl)))).1
   ·exact (I8.pin (D,Ea its k) (aU _ (cY _ (dH.mpr rfl)))).2.1
  cases b with
  | false=>
   obtain ⟨m',hm,w8⟩:=(q7:if false=true then _ else _)
   obtain ⟨st8,fr8,_,_⟩:=back I7
   refine aX ⟨rfl,m',hm,i+1,acc,its,k,σ6,H7,?_,hv,hz,st8,fr8,w8⟩
   exact I7.pins_of fun p hp=>I7.pin p (aU _ (cY _ hp))
  | true=>
   have q7':te σ6 H7 fun y H6=>acc.length < sizeLine/\∃ m',m' < n/\W (i+1) m' (acc++[y]) σ6 H6:=q7
   have he7:=he _ s7 σ6 H7 _ I7 q7'
   rw[hXp,hXw,hXA] at he7
   refine aF (aF (cA he7 (fun y s8 zz=>zz.elim fun v H8 I8 r8 zq=>?_) fun e s z=>absurd z (hxe e s)))
   obtain ⟨hlt,m',hm,w8⟩:=zq
   obtain ⟨st8,fr8,hDo,hDn⟩:=back I8
   have hlen:=hv.length
   have hisl:s8.heap.IsList D its.toArray:=⟨_,hDo,rfl,k,rfl⟩
   refine aF ?_
   obtain ⟨k',hd'⟩:∃ k',iA (·.push y) (Ea its k)=Ea (its++[y]) k':=⟨_,by simp[Ea,iA];rfl⟩
   refine iX slot_list_append hisl.typeIs entry_list_append ?_ (args_list_append _ _)
   show wpAny _ _ (updateSeq D (·.push y) >>= fun _=>ret .none) _ _ s8
   refine aF (wpAny_updateSeq hDo rfl (aX ⟨.none,rfl,?_⟩))
   have hk9:∀ b o,b≠D->s8.heap.get? b=some o->(s8.heap.update D (iA (·.push y))).get? b=some o:=fun b o hb e=>(lR (h:=s8.heap) (a:=D) ..).2 b hb |>.trans e
   have hD9:(s8.heap.update D (iA (·.push y))).get? D=some (Ea (its++[y]) k'):=by
    rw[<- hd'];exact dM _ hDo (by rw[hd'];exact Obj.isFreed_of_seq (xs:=(its++[y]).toArray) (n:=k') rfl)
   have I8':Inv X' [] σ6 H8 s8:=I8.pins_of fun p hp=>by cases hp
   obtain ⟨d0,d1,d2,d3,d4,d5⟩:=hDf H8 hDn
   have I9:Inv X' [] σ6 H8 { s8 with heap:=s8.heap.update D (iA (·.push y)) }:=I8'.turned (t':=s8.toks) hk9 hDn d1 d3 d4 d5
   have I10:=I9.pins_of (pins':=[(D,Ea (its++[y]) k')]) fun p hp=>by
    have:p=(D,Ea (its++[y]) k'):=by simpa using hp
    subst this
    exact ⟨hD9,hDn,d1,d2,fun v z=>by simp[Ea] at z⟩
   refine aX (aX ⟨rfl,m',hm,i+1,acc++[v],its++[y],k',σ6,H8,I10,Vals.append hv (.cons r8 .nil),by rw[aY];simp;omega,?_,fr8,w8⟩)
   refine T.keep _ _ _ st8 fun b hb o e=>hk9 b o (hfp b hb).2 e
end
variable {y:Str}{py spos:Pos}
section
def Aid(ix:List (Option Nat))(wi:TI)(g:TG)(tt:TT)(te:TE):TE:=fun σ H Q=>wi σ H fun J H1=>Afy J g tt te (inner ix σ) H1 fun acc H2=>∀ p,H2 p=none->Q (.ref p) (upd H2 p (.lst acc))
theorem Adv{elt tg iter:Expr}{ifs:List Expr}{pos:Pos}{pins:List (Addr×Obj)}{σ:L2.St}{H2:Hp}{s2:aH}{cl:List (Str×Addr)}{fp:List Addr}{it:Addr}{J:It}{tn:Nat->Heap->Prop}{E:aE->aH->Prop}{RR:aE->Addr->Result->aH->Prop}
  (S:CompSc X scope N' ix) (hcalm:X.calm=true) (hcl:∀ x c,cl.lookup x=some c->X.env.cells.lookup x=some c) (hcl2:∀ y∈scope.names,y.2 = .free->∃ c,cl.lookup y.1=some c)
  (I2:Inv X pins σ H2 s2) (T:Turn X.prog X.w X.K tg J fp it tn) (st2:tn 0 s2.heap) (f2:∀ b∈fp,Kq X pins H2 b)
  (hloop:∀ (D C:Addr) (s':aH),s2.heap.objs.size<=D->D≠C->s2.heap.objs.size<=C->s2.heap.get? D=none->C≠X.env.locals->C∉X.fs->(∀ x c,X.env.cells.lookup x=some c->c≠C)->(∀ p∈X.pn++pins,p.1≠C)->(∀ b∈fp,Kq (blk X scope cl C N' s2 H2 fp pins) [] H2 b/\b≠D)->(∀ H:Hp,H D=none->Kq (blk X scope cl C N' s2 H2 fp pins) [] H D) ->
   Inv (blk X scope cl C N' s2 H2 fp pins) [(D,Ea [] 0)] (inner ix σ) H2 s'->tn 0 s'.heap ->
   nQ (model X.prog X.w) X.A (.compLoop (.ListComp elt [⟨tg,iter,ifs,0⟩] scope pos) 0 (.ref it) (.ref D) (blk X scope cl C N' s2 H2 fp pins).env) (RR (.ref D) C) s') :
  wpAny (model X.prog X.w) X.A (newList []) (fun acc s₃=>wpAny (model X.prog X.w) X.A (newFunctionEnv scope X.env.globals cl [] X.env.qual none .none (some X.env)) (fun cenv s₄=>
   nQ (model X.prog X.w) X.A (.compStart (.ListComp elt [⟨tg,iter,ifs,0⟩] scope pos) 0 (.ref it) acc { cenv with scope:=relabel scope X.env }) (RR acc cenv.locals) s₄) E s₃) E s2:=by
 have hcell:∀ y∈scope.names,y.2≠.cell:=fun y hy z=>by
  have:=bW.mp S.cell y hy
  rw[z] at this;simp at this
 refine dY (wpAny_newFunctionEnv hcell (by intro y hy;simp at hy) (fun h₁ hns₁ hsb₁=>?_) S.kind)
 dsimp only at hns₁ hsb₁ ⊢
 generalize hH2:s2.heap.push { cls:=.type "list",dict:=none,data:=.seq ([]:List aE).toArray } = HP at hns₁ hsb₁ ⊢
 have hCs:HP.objs.size=s2.heap.objs.size+1:=by rw[<- hH2,gR]
 have hDC:s2.heap.objs.size≠HP.objs.size:=by rw[hCs];exact cC (dW _)
 have hCle:s2.heap.objs.size<=HP.objs.size:=by rw[hCs];exact gE _
 have old:∀ b o,s2.heap.get? b=some o->h₁.get? b=some o:=fun b o e=>hsb₁.extBut b o (cC (aG (aO e) hCle)) (aI _ (hH2 ▸ aI _ e))
 have hacc:h₁.get? s2.heap.objs.size=some (Ea [] 0):=hsb₁.extBut _ _ hDC (aI _ (hH2 ▸ bI _ rfl))
 have hfp:∀ b∈fp,b < s2.heap.objs.size:=fun b hb=>by
  obtain ⟨o,e,_⟩:=T.obj _ _ st2 b hb
  exact aO e
 generalize hDg:s2.heap.objs.size=D at hDC hacc
 generalize hCg:HP.objs.size=C at *
 have hDle:s2.heap.objs.size<=D:=qD hDg
 have hD2:s2.heap.get? D=none:=by
  cases q:s2.heap.get? D with
  | none=>rfl
  | some o=>exact absurd (aG (aO q) hDle) (dA _)
 have I4:=Aeu (t4:=s2.toks+([]:List (Str×aE)).length) S hcalm I2 hcl hcl2 f2 hfp hCle hns₁ old
 have above:∀ a,s2.heap.objs.size<=a->a∉frs X.stack/\(∀ x c,X.env.cells.lookup x=some c->c≠a)/\(∀ p∈X.pn++pins,p.1≠a)/\a≠X.env.locals:=fun a ha=>by
  refine ⟨fun z=>?_,fun x c e z=>?_,fun p hp z=>?_,?_⟩
  ·rcases aV.mp (I2.stkSub a z) with q | q
   ·exact absurd (aG I2.lt (q ▸ ha)) (dA _)
   ·exact I2.nofs ha q
  ·obtain ⟨v,q⟩:=I2.cell x c e
   exact absurd (aG q.lt (z ▸ ha)) (dA _)
  ·exact absurd (aG (aO (I2.pin p hp).1) (z ▸ ha)) (dA _)
  ·intro z;exact absurd (aG I2.lt (z ▸ ha)) (dA _)
 have hfpX:∀ b∈fp,Kq (blk X scope cl C N' s2 H2 fp pins) [] H2 b/\b≠D:=fun b hb=>by
  obtain ⟨q0,q1,q2,q3,q4,q5⟩:=f2 b hb
  have hlt:=hfp b hb
  refine ⟨⟨q0,cC (aG hlt hCle),fun z=>?_,.inl hb,fun x c e=>q4 x c (hcl x c e),fun p hp=>q5 p (by simpa[blk] using hp)⟩,cC (aG hlt hDle)⟩
  rcases aV.mp (I2.stkSub b z) with q | q
  ·exact q1 q
  ·exact q2 q
 have hDf:∀ H:Hp,H D=none->Kq (blk X scope cl C N' s2 H2 fp pins) [] H D:=fun H hn=>by
  obtain ⟨a1,a2,a3,a4⟩:=above D hDle
  exact ⟨hn,hDC,a1,.inr hDle,fun x c e=>a2 x c (hcl x c e),fun p hp=>a3 p (by simpa[blk] using hp)⟩
 have hDn2:H2 D=none:=I2.hok.fresh hDle
 have I5:Inv (blk X scope cl C N' s2 H2 fp pins) [(D,Ea [] 0)] (inner ix σ) H2 { s2 with heap:=h₁,toks:=s2.toks+([]:List (Str×aE)).length }:=I4.pins_of fun p hp=>by
  have:p=(D,Ea [] 0):=by simpa using hp
  subst this
  obtain ⟨_,d1,d2,_⟩:=hDf H2 hDn2
  exact ⟨hacc,hDn2,d1,d2,fun v z=>by simp[Ea] at z⟩
 have st5:tn 0 h₁:=T.keep _ _ _ st2 fun b _ o e=>old b o e
 obtain ⟨aC1,aC2,aC3,aC4⟩:=above C hCle
 have loop:=hloop D C { s2 with heap:=h₁,toks:=s2.toks+([]:List (Str×aE)).length } hDle hDC hCle hD2 aC4 (I2.nofs hCle) aC2 aC3 hfpX hDf I5 st5
 have e1:({ newEnv scope C X.env.globals cl X.env.qual none .none (some X.env) pR with scope:=relabel scope X.env }:fP)=(blk X scope cl C N' s2 H2 fp pins).env:=rfl
 exact codeAny_compStart_list loop (T.self _ 0 _ _ _ st5 loop)
theorem T2{elt tg iter:Expr}{ifs:List Expr}{pos:Pos}{g:TG}{tt:TT}{te:TE}{pins:List (Addr×Obj)}{σ:L2.St}{H2:Hp}{s2:aH}{cl:List (Str×Addr)}{fp:List Addr}{it:Addr}{J:It}{tn:Nat->Heap->Prop}{E:aE->aH->Prop}{Fin:List V->Hp->Prop}{RR:aE->Addr->Result->aH->Prop}
  (S:CompSc X scope N' ix) (hcalm:X.calm=true) (hcl:∀ x c,cl.lookup x=some c->X.env.cells.lookup x=some c) (hcl2:∀ y∈scope.names,y.2 = .free->∃ c,cl.lookup y.1=some c)
  (hg:∀ C,PG (blk X scope cl C N' s2 H2 fp pins) tg g) (ht:∀ C,Up (blk X scope cl C N' s2 H2 fp pins) ifs tt) (he:∀ C,PE (blk X scope cl C N' s2 H2 fp pins) elt te)
  (I2:Inv X pins σ H2 s2) (T:Turn X.prog X.w X.K tg J fp it tn) (st2:tn 0 s2.heap) (f2:∀ b∈fp,Kq X pins H2 b) (hloop:Afy J g tt te (inner ix σ) H2 Fin)
  (hRR:∀ (D C:Addr) (s':aH) (H':Hp) (acc:List V),Inv X pins σ (upd H' D (.lst acc)) s'->H' D=none->(∃ m,s'.heap.Ns C m)->(upd H' D (.lst acc)) C=none->Kq X pins (upd H' D (.lst acc)) C->Fin acc H'->RR (.ref D) C (.ok .next) s') :
  wpAny (model X.prog X.w) X.A (newList []) (fun acc s₃=>wpAny (model X.prog X.w) X.A (newFunctionEnv scope X.env.globals cl [] X.env.qual none .none (some X.env)) (fun cenv s₄=>
   nQ (model X.prog X.w) X.A (.compStart (.ListComp elt [⟨tg,iter,ifs,0⟩] scope pos) 0 (.ref it) acc { cenv with scope:=relabel scope X.env }) (RR acc cenv.locals) s₄) E s₃) E s2:=by
 refine Adv (RR:=RR) S hcalm hcl hcl2 I2 T st2 f2 ?_
 intro D C s' hDle hDC hCle hD2 a4 a1 a2 a3 hfpX hDf I5 st5
 refine Ads (X':=blk X scope cl C N' s2 H2 fp pins) ⟨rfl,rfl,rfl,rfl,hcalm,fun _ _ z=>z⟩ T (hg C) (ht C) (he C) hDle hDC hCle hfpX hDf I5 st5 (fun b hb=>(f2 b hb).1) hloop ?_
 intro s' σ' H' acc its n I hv hz fin
 obtain ⟨hDo,hDn,_⟩:=I.pin (D,Ea its n) (aU _ (dH.mpr rfl))
 have hbase:Un (frs X.stack) fp H2 H' s2.heap s'.heap:=I.base
 have hok:HOk X.prog X.w (upd H' D (.lst acc)) s'.heap:=HOk.adopt I.hok hDn ⟨hz,its,n,hv,hDo⟩
 have IX:Inv X pins σ (upd H' D (.lst acc)) s':=I2.call' I.os (Un.adopt hbase hDn hD2) hok I.bare fun b hb=>⟨(f2 b hb).2.2.2.1,(f2 b hb).2.1,(f2 b hb).2.2.2.2.1,(f2 b hb).2.2.2.2.2⟩
 obtain ⟨m,hm,_⟩:=I.loc
 have hCn:(upd H' D (.lst acc)) C=none:=by rw[Bv (eG hDC)];exact I.free
 refine hRR D C s' H' acc IX hDn ⟨m,hm⟩ hCn ⟨hCn,a4,fun z=>?_,.inr (bJ I2.sz hCle),a2,a3⟩ fin
 exact I2.nofs hCle z
theorem CompSc.names(S:CompSc X scope N' ix):∀ x∈scope.names,x.2 = .local->scope.names.lookup x.1=some .local:=fun x hx hl=>by
 have:=bW.mp S.loc x hx
 rw[hl] at this
 simpa using this
theorem CompSc.clos(S:CompSc X scope N' ix)(ok:X.Ok):∃ cl,closureFor scope X.env=pure cl/\(∀ x c,cl.lookup x=some c->X.env.cells.lookup x=some c)/\∀ y∈scope.names,y.2 = .free->∃ c,cl.lookup y.1=some c:=by
 refine Mr fun y hy hf=>?_
 have:=bW.mp S.free y hy
 rw[hf] at this
 simp at this
 exact ok.has y.1 this
theorem Ab9{elt tg iter:Expr}{ifs:List Expr}{pos:Pos}{wi:TI}{g:TG}{tt:TT}{te:TE}(S:CompSc X scope N' ix)(hcalm:X.calm=true)(hi:PI X tg iter wi)
  (hg:∀ cl C s2 H2 fp pins,PG (blk X scope cl C N' s2 H2 fp pins) tg g) (ht:∀ cl C s2 H2 fp pins,Up (blk X scope cl C N' s2 H2 fp pins) ifs tt) (he:∀ cl C s2 H2 fp pins,PE (blk X scope cl C N' s2 H2 fp pins) elt te)
  (hs:∀ x,foldedSetIterable iter X.env x=pure x:=by intro _;rfl):PE X (.ListComp elt [⟨tg,iter,ifs,0⟩] scope pos) (Aid ix wi g tt te):=by
 intro pins s σ H Q I h
 obtain ⟨cl,hclos,hcl,hcl2⟩:=S.clos I.ok
 rw[eval_ListComp]
 refine nG (use:=none) rfl hs hclos S.kind S.names (thn (hi pins s σ H _ I h) fun v s1 h1=>thn h1 fun itv s2 h2=>?_)
 obtain ⟨it,fp,tn,J,H2,e,I2,T,st2,f2,loop⟩:=h2
 subst e
 refine T2 (RR:=fun acc C=>compPost (model X.prog X.w) X.A X.xe none (EP X pins σ Q) acc C) S hcalm hcl hcl2 (fun C=>hg cl C s2 H2 fp pins) (fun C=>ht cl C s2 H2 fp pins) (fun C=>he cl C s2 H2 fp pins) I2 T st2 f2 loop ?_
 intro D C s' H' acc IX hDn ⟨m,hm⟩ hCn hC fin
 refine ⟨m,hm,fun h' hsb=>?_⟩
 obtain ⟨c0,c1,c2,c3,c4,c5⟩:=hC
 exact ⟨.ref D,_,IX.turned (t':=s'.toks) (fun b o hb e=>hsb.2 b hb |>.trans e) c0 c1 c3 c4 c5,rfl,fin D hDn⟩
theorem Abx{i:Nat}{y:Str}{py spos:Pos}{elt tg iter:Expr}{ifs:List Expr}{pos:Pos}{wi:TI}{g:TG}{tt:TT}{te:TE}(hN:X.N.Nodup)(hiN:X.N[i]? = some y)(hx:Loc X.env.scope y)(hf:X.fn y=true\/X.env.scope.names.lookup y=some .local)
  (S:CompSc X scope N' ix) (hcalm:X.calm=true) (hi:PI X tg iter wi)
  (hg:∀ cl C s2 H2 fp pins,PG (blk X scope cl C N' s2 H2 fp pins) tg g) (ht:∀ cl C s2 H2 fp pins,Up (blk X scope cl C N' s2 H2 fp pins) ifs tt) (he:∀ cl C s2 H2 fp pins,PE (blk X scope cl C N' s2 H2 fp pins) elt te)
  (hsw:swapsWith (.ListComp elt [⟨tg,iter,ifs,0⟩] scope pos) (some (.Name y py)) spos.line X.env=pure true)
  (hs:∀ x,foldedSetIterable iter X.env x=pure x:=by intro _;rfl):PS X (.Assign [.Name y py] (.ListComp elt [⟨tg,iter,ifs,0⟩] scope pos) spos) (Ai3 (Aid ix wi g tt te) (Wr i)):=by
 intro pins s σ H Dn I h
 obtain ⟨cl,hclos,hcl,hcl2⟩:=S.clos I.ok
 rw[exec_Assign_Name_used _ _ _ _ hsw]
 refine aF (kS (aF ?_))
 show wpAny _ X.A (do let _ <- comprehension (.ListComp elt [⟨tg,iter,ifs,0⟩] scope pos) scope X.env _ (newList []) false (eval iter X.env) (some (assign (.Name y py) X.env))) _ _ s
 refine aF (cA (nG (Q:=fun _ s'=>SP X pins Dn .next s') (use:=some (assign (.Name y py) X.env)) rfl hs hclos S.kind S.names (thn (hi pins s σ H _ I h) fun v s1 h1=>thn h1 fun itv s2 h2=>?_)) (fun _ s' hq=>aX (aX hq)) fun _ _ e=>e)
 obtain ⟨it,fp,tn,J,H2,e,I2,T,st2,f2,loop⟩:=h2
 subst e
 refine T2 (RR:=fun acc C=>compPost (model X.prog X.w) X.A X.xe (some (assign (.Name y py) X.env)) (fun _ s'=>SP X pins Dn .next s') acc C) S hcalm hcl hcl2 (fun C=>hg cl C s2 H2 fp pins) (fun C=>ht cl C s2 H2 fp pins) (fun C=>he cl C s2 H2 fp pins) I2 T st2 f2 loop ?_
 intro D C s' H' acc IX hDn ⟨m,hm⟩ hCn hC fin
 obtain ⟨c0,c1,c2,c3,c4,c5⟩:=hC
 obtain ⟨oC,es,ep,hoC,hdC,hrest⟩:=id hm
 have IP:Inv X (pins++[(C,oC)]) σ (upd H' D (.lst acc)) s':=IX.pins_of fun p hp=>by
  rcases bM.mp hp with z | z
  ·exact IX.pin p (aU _ z)
  ·have:p=(C,oC):=by simpa using z
   subst this
   exact ⟨hoC,c0,c1,c2,fun v z=>by rw[hdC] at z;cases z⟩
 have hq:Wr i (.ref D) σ (upd H' D (.lst acc)) Dn.nx:=fin D hDn
 refine thn (Ac8 (i:=i) (pos:=py) hN hiN hx hf (pins++[(C,oC)]) s' σ _ (.ref D) (.ref D) Dn.nx IP rfl hq) fun _ s'' zz=>?_
 obtain ⟨σ'',H'',I'',q''⟩:=zz
 obtain ⟨p1,p2,p3,p4,p5⟩:=I''.pin (C,oC) (aU _ (aU _ (dH.mpr rfl)))
 refine ⟨m,⟨oC,es,ep,p1,hdC,hrest⟩,fun h' hsb=>?_⟩
 exact ⟨σ'',H'',(I''.unpinned).turned (t':=s''.toks) (fun b o hb e=>hsb.2 b hb |>.trans e) p2 p3 c3 c4 c5,q''⟩
end
def testU(tt:Option FT):FT:=fun δ L=>match tt with
 | none=>some (true,L)
 | some f=>f δ L
def S9(it:IU)(g:FG)(tt:Option FT)(fe:FE):Nat->Nat->List U->UE->UH->Option (List U×UH)
 | 0,_,_,_,_=>none
 | m+1,k,acc,δ,L=>match it.at k L with
  | none=>none
  | some none=>some (acc,L)
  | some (some u)=>(g u δ L).bind fun p=>(testU tt p.1 p.2).bind fun q=>if q.1=true then (fe p.1 q.2).bind fun r=>if decide (acc.length < sizeLine)=true then S9 it g tt fe m (k+1) (acc++[r.1]) p.1 r.2 else none
   else S9 it g tt fe m (k+1) acc p.1 q.2
def Nk(ix:List (Option Nat))(δ:UE):UE:=ix.map fun o=>o.bind fun i=>(δ[i]?).join
def C0(ix:List (Option Nat))(fi:FI)(g:FG)(tt:Option FT)(fe:FE):FE:=fun δ L=>(fi δ L).bind fun p=>(S9 p.1 g tt fe (p.1.size p.2+1) 0 [] (Nk ix δ) p.2).map fun q=>(.ref q.2.length,q.2++[.lst q.1])
theorem RepS.inner(S:RepS K H α δ σ)(ix:List (Option Nat)):RepS K H α (Nk ix δ) (MR.inner ix σ):=by
 refine ⟨by simp[Nk,MR.inner],fun j u e=>?_⟩
 unfold Nk at e
 unfold MR.inner
 rw[bO] at e ⊢
 cases hx:ix[j]? with
 | none=>rw[hx] at e;simp at e
 | some o=>
  rw[hx] at e
  cases o with
  | none=>simp at e
  | some i=>
   simp at e
   have:δ[i]? = some (some u):=by
    cases q:δ[i]? with
    | none=>rw[q] at e;simp at e
    | some o=>rw[q] at e;simp at e;rw[e]
   obtain ⟨v,hv,r⟩:=S.at_ i u this
   exact ⟨v,by simp[hv],r⟩
def lTo(K:aB)(tt:Option FT):TT:=match tt with
 | none=>Ai6
 | some f=>lT K f
inductive CI(K:aB)(it:IU)(g:FG)(tt:Option FT)(fe:FE)(H1:Hp)(α1:List Addr)(ys:List U)(L2:UH)(k m:Nat)(acc:List V)(σ2:_root_.L2.St)(H2:Hp):Prop
 | mk (α2:List Addr) (δ2:UE) (M:UH) (us:List U) (g2:Gr H1 α1 H2 α2) (A2:Abs K H2 α2 M) (S2:RepS K H2 α2 δ2 σ2) (r2:RepL K H2 α2 us acc) (e:S9 it g tt fe m k us δ2 M=some (ys,L2)):CI K it g tt fe H1 α1 ys L2 k m acc σ2 H2
theorem Q2{g:FG}{tt:Option FT}:∀ σ H Q,lE K (C0 ix fi g tt fe) σ H Q->Aid ix (lI K fi) (lG K g) (lTo K tt) (lE K fe) σ H Q:=by
 rintro σ H Q ⟨α,δ,L,A,S,z,L3,e,q⟩
 obtain ⟨it,L1,e1,e⟩:=B9 e
 obtain ⟨ys,L2,e2,e⟩:=X7 e
 cases e
 refine ⟨α,δ,L,A,S,it,L1,e1,fun J H1 α1 g1 A1 hJ=>?_⟩
 refine ⟨CI K it g tt fe H1 α1 ys L2,⟨_,α1,_,L1,[],.refl _ _,A1,(S.mono g1).inner ix,.nil,e2⟩,?_⟩
 rintro k m acc σ2 H2 ⟨α2,δ2,M,us,g2,A2,S2,r2,e3⟩
 cases m with
 | zero=>cases e3
 | succ m=>
  obtain ⟨hgo,hstop⟩:=hJ H2 α2 M g2 A2 k
  unfold S9 at e3
  cases hat:it.at k M with
  | none=>rw[hat] at e3;cases e3
  | some o=>
   cases o with
   | none=>
    rw[hat] at e3
    cases e3
    refine .inl ⟨hstop hat,fun p hp=>?_⟩
    obtain ⟨g3,A3,r3⟩:=A2.lst r2 hp
    exact q _ _ _ (g1.trans (g2.trans g3)) A3 r3
   | some u=>
    rw[hat] at e3
    obtain ⟨go,yld⟩:=hgo u hat
    obtain ⟨δ3,L3,e4,e3⟩:=B9 e3
    obtain ⟨b,L4,e5,e3⟩:=B9 e3
    refine .inr ⟨go,fun x H3 y3=>?_⟩
    obtain ⟨g3,A3,r3⟩:=yld x H3 y3
    refine ⟨α2,δ2,M,u,A3,S2.mono g3,r3,δ3,L3,e4,fun σ4 H4 α4 g4 A4 S4=>?_⟩
    have after:∀ H5 α5,Gr H4 α4 H5 α5->Abs K H5 α5 L4->(if b=true then lE K fe σ4 H5 (fun y H6=>acc.length < sizeLine/\∃ m',m' < m+1/\CI K it g tt fe H1 α1 ys L2 (k+1) m' (acc++[y]) σ4 H6) else ∃ m',m' < m+1/\CI K it g tt fe H1 α1 ys L2 (k+1) m' acc σ4 H5):=fun H5 α5 g5 A5=>by
     have gA:=g2.trans (g3.trans (g4.trans g5))
     have gB:=g3.trans (g4.trans g5)
     cases b with
     | false=>exact W5 ⟨m,dW _,α5,δ3,L4,us,gA,A5,S4.mono g5,r2.mono gB,e3⟩
     | true=>
      obtain ⟨w,L5,e6,e3⟩:=B9 e3
      simp only at e3
      split at e3
      ·rename_i hlt
       refine Xy ⟨α5,δ3,L4,A5,S4.mono g5,w,L5,e6,fun y H6 α6 g6 A6 r6=>?_⟩
       exact ⟨by rw[<- r2.length];exact of_decide_eq_true hlt,m,dW _,α6,δ3,L5,us++[w],gA.trans g6,A6,(S4.mono g5).mono g6,(r2.mono (gB.trans g6)).append (.cons r6 .nil),e3⟩
      ·cases e3
    cases tt with
    | none=>
     cases e5
     exact after H4 α4 (.refl _ _) A4
    | some f=>exact ⟨α4,δ3,L3,A4,S4,b,L4,e5,fun H5 α5 g5 A5=>after H5 α5 g5 A5⟩
section
variable {g:FG}{ft:FT}
theorem Hu(S:CompSc X scope N' ix)(hcalm:X.calm=true)(hi:PIF X tg iter fi)(hg:∀ cl C s2 H2 fp pins,PGF (blk X scope cl C N' s2 H2 fp pins) tg g)(he:∀ cl C s2 H2 fp pins,PEF (blk X scope cl C N' s2 H2 fp pins) elt fe)
  (hs:∀ x,foldedSetIterable iter X.env x=pure x:=by intro _;rfl):PEF X (.ListComp elt [⟨tg,iter,[],0⟩] scope pos) (C0 ix fi g none fe):=
 PE.imp (Ab9 (g:=lG X.K g) (te:=lE X.K fe) (tt:=Ai6) S hcalm hi hg (fun _ _ _ _ _ _=>Ue) he hs) Q2
theorem Wm(S:CompSc X scope N' ix)(hcalm:X.calm=true)(hi:PIF X tg iter fi)(hg:∀ cl C s2 H2 fp pins,PGF (blk X scope cl C N' s2 H2 fp pins) tg g)(ht:∀ cl C s2 H2 fp pins,PTF (blk X scope cl C N' s2 H2 fp pins) c ft)(he:∀ cl C s2 H2 fp pins,PEF (blk X scope cl C N' s2 H2 fp pins) elt fe)
  (hs:∀ x,foldedSetIterable iter X.env x=pure x:=by intro _;rfl):PEF X (.ListComp elt [⟨tg,iter,[c],0⟩] scope pos) (C0 ix fi g (some ft) fe):=
 PE.imp (Ab9 (g:=lG X.K g) (te:=lE X.K fe) (tt:=lT X.K ft) S hcalm hi hg (fun _ _ _ _ _ _=>Tt (ht _ _ _ _ _ _)) he hs) (Q2 (tt:=some ft))
theorem Ahx{fc:FE}(ht:∀ σ H Q,lE K fc σ H Q->t σ H Q):∀ D σ H,lS K (A8 fc (gN i)) D σ H->Ai3 t (Wr i) D σ H:=by
 rintro D σ H ⟨α,δ,L,A,S,fl,L',e,q⟩
 obtain ⟨u,L1,e1,e⟩:=B9 e
 obtain ⟨δ2,L2,e2,e⟩:=X7 e
 cases e
 cases e2
 exact ht σ H _ ⟨α,δ,L,A,S,u,_,e1,fun v H1 α1 g1 A1 r1=>q _ H1 α1 g1 A1 ((S.mono g1).set i r1)⟩
theorem Ys{i:Nat}{y:Str}{py spos:Pos}(hN:X.N.Nodup)(S:CompSc X scope N' ix)(hcalm:X.calm=true)(hi:PIF X tg iter fi)(hg:∀ cl C s2 H2 fp pins,PGF (blk X scope cl C N' s2 H2 fp pins) tg g)(he:∀ cl C s2 H2 fp pins,PEF (blk X scope cl C N' s2 H2 fp pins) elt fe)
  (hiN:X.N[i]? = some y:=by rfl) (hx:Loc X.env.scope y:=by first | exact nV rfl | exact nF rfl) (hf:X.fn y=true\/X.env.scope.names.lookup y=some .local:=by first | exact .inl rfl | exact .inr rfl)
  (hsw:swapsWith (.ListComp elt [⟨tg,iter,[],0⟩] scope pos) (some (.Name y py)) spos.line X.env=pure true:=by rfl)
  (hs:∀ x,foldedSetIterable iter X.env x=pure x:=by intro _;rfl):PSF X (.Assign [.Name y py] (.ListComp elt [⟨tg,iter,[],0⟩] scope pos) spos) (A8 (C0 ix fi g none fe) (gN i)):=
 PS.imp (Abx (i:=i) (g:=lG X.K g) (te:=lE X.K fe) (tt:=Ai6) hN hiN hx hf S hcalm hi hg (fun _ _ _ _ _ _=>Ue) he hsw hs) (Ahx Q2)
theorem Adh{i:Nat}{y:Str}{py spos:Pos}(hN:X.N.Nodup)(S:CompSc X scope N' ix)(hcalm:X.calm=true)(hi:PIF X tg iter fi)(hg:∀ cl C s2 H2 fp pins,PGF (blk X scope cl C N' s2 H2 fp pins) tg g)(ht:∀ cl C s2 H2 fp pins,PTF (blk X scope cl C N' s2 H2 fp pins) c ft)(he:∀ cl C s2 H2 fp pins,PEF (blk X scope cl C N' s2 H2 fp pins) elt fe)
  (hiN:X.N[i]? = some y:=by rfl) (hx:Loc X.env.scope y:=by first | exact nV rfl | exact nF rfl) (hf:X.fn y=true\/X.env.scope.names.lookup y=some .local:=by first | exact .inl rfl | exact .inr rfl)
  (hsw:swapsWith (.ListComp elt [⟨tg,iter,[c],0⟩] scope pos) (some (.Name y py)) spos.line X.env=pure true:=by rfl)
  (hs:∀ x,foldedSetIterable iter X.env x=pure x:=by intro _;rfl):PSF X (.Assign [.Name y py] (.ListComp elt [⟨tg,iter,[c],0⟩] scope pos) spos) (A8 (C0 ix fi g (some ft) fe) (gN i)):=
 PS.imp (Abx (i:=i) (g:=lG X.K g) (te:=lE X.K fe) (tt:=lT X.K ft) hN hiN hx hf S hcalm hi hg (fun _ _ _ _ _ _=>Tt (ht _ _ _ _ _ _)) he hsw hs) (Ahx (Q2 (tt:=some ft)))
end
section
variable {s:aH}{h':Heap}
theorem Inv.turnNew{ch:List Addr}{p:Addr}{t':Nat}(I:L2.Inv X pins σ H s)(hch:∀ b∈ch,Kq X pins H b)(k:∀ b o,b∉ch->s.heap.get? b=some o->h'.get? b=some o)(hp:s.heap.objs.size<=p)(new:ObjOk X.prog X.w (upd H p o) h' p o)(ht:0 < t':=by first | exact cL _ | exact L2.Inv.tk (by assumption) | exact aG (L2.Inv.tk (by assumption)) (cI _ _) | assumption | omega) :
  L2.Inv X pins σ (upd H p o) { s with heap:=h',toks:=t' }:=by
 have hn:H p=none:=I.hok.fresh hp
 have nch:∀ b u,H b=some u->b∉ch:=fun b u e hb=>by rw[(hch b hb).1] at e;cases e
 have st:=Stay.new hn o
 refine I.step (g':=s.gens) (d':=s.drawn) (ch:=ch) (fun b hb=>?_) (fun b o _ _ hc e _=>k b o hc e) (fun b o _ _ hc e _=>⟨o.slots,k b o hc e⟩) (fun b u hc e n=>?_) (fun b u hc e=>⟨u,k b u hc e⟩) st.1 st.2 (fun b ps e=>⟨#[],?_⟩) (fun m hm=>?_) (fun b u e=>?_) I.bare
 ·obtain ⟨_,f1,_,f3,f4,f5⟩:=hch b hb
  exact ⟨f3,f1,f4,f5⟩
 ·rw[Bv (cC (aG (aO e) hp))];exact n
 ·rw[Bv (By e hn),e];simp
 ·obtain ⟨o1,es,ep,ho,r⟩:=hm
  exact ⟨o1,es,ep,k _ o1 (fun z=>(hch _ z).2.1 rfl) ho,r⟩
 ·by_cases hb:b=p
  ·subst hb;rw[upd_same] at e;cases e;exact new
  ·rw[Bv hb] at e
   refine (I.hok b u e).stay (fun c v hc q=>k c v ?_ q) (fun c q=>by rw[Bv (By q hn)];exact q) fun c xs q=>by rw[Bv (By q hn)];exact q
   rcases hc with z | z
   ·rw[z];exact nch b u e
   ·exact nch c _ z
end
def Ite(K:aB)(a:Addr):It:=
 ⟨fun i H=>∃ xs x,SqL K H a xs/\xs[i]? = some x,fun i H x H'=>∃ p v,H p=none/\x = .ref p/\H'=upd H p (.tup [.int i,v])/\∀ xs,SqL K H a xs->xs[i]? = some v,fun i H=>∃ xs,SqL K H a xs/\xs.length<=i⟩
variable {elts:List Expr}
theorem Aef{x1}(a e it:Addr)(hne:e≠it):Turn P w K (.Tuple elts x1 pos) (Ite K a) [e,it] e (fun i h=>(∃ old,IsEnum h e it i old)/\h.IsListIter it a i) where
 mem:=by simp
 obj:=fun i h st b hb=>by
  obtain ⟨⟨old,he⟩,o,ho,hc,hd⟩:=st
  rcases aV.mp hb with rfl | hb
  ·exact ⟨_,he,fun v z=>by simp at z⟩
  ·have:b=it:=by simpa using hb
   subst this
   exact ⟨o,ho,fun v z=>by rw[hd] at z;cases z⟩
 keep:=fun i h h' st k=>by
  obtain ⟨⟨old,he⟩,o,ho,hc,hd⟩:=st
  exact ⟨⟨old,k e (by simp) _ he⟩,o,k it (by simp) _ ho,hc,hd⟩
 item:=by
  intro X hP hw hK hc i pins s σ H E I hf st hg
  subst hP hw hK
  obtain ⟨⟨old,he⟩,hit⟩:=st
  obtain ⟨xs,v,sq,hx⟩:=hg
  obtain ⟨its,hv,pl,hz⟩:=I.list sq
  obtain ⟨u,hu,r⟩:=hv.get hx
  refine wpAny_pyNext_enum_item he hit pl.isList (by simpa using hu) hne fun h' o1 o2 o3 o4 o5=>?_
  refine ⟨_,rfl,?_⟩
  have hfr:H s.heap.objs.size=none:=I.hok.fresh (aJ _)
  have I1:L2.Inv X pins σ (upd H s.heap.objs.size (.tup [.int i,v])) { s with heap:=h',toks:=s.toks+1 }:=
   Inv.turnNew (ch:=[e,it]) I hf (fun b o hb q=>o5 b o (fun z=>hb (by simp[z])) (fun z=>hb (by simp[z])) q) (aJ _)
    (show ObjOk X.prog X.w _ h' _ (.tup [.int i,v]) from ⟨by show 2<=sizeLine;decide,[.int i s.toks,u],.cons ⟨_,rfl⟩ (.cons r .nil),⟨_,o3,rfl,_,rfl⟩⟩)
  refine mJ o1 fun h2 e2 sb2=>?_
  have hne2:∀ b∈[e,it],b≠s.heap.objs.size:=fun b hb z=>by
   rcases aV.mp hb with q | q
   ·have:=aO he;rw[<- q,z] at this;exact dA _ this
   ·have q:b=it:=by simpa using q
    obtain ⟨o,ho,_⟩:=hit
    have:=aO ho;rw[<- q,z] at this;exact dA _ this
  have hnone:∀ b∈[e,it],(upd H s.heap.objs.size (.tup [.int i,v])) b=none:=fun b hb=>by rw[Bv (hne2 b hb)];exact (hf b hb).1
  obtain ⟨f0,f1,f2,f3,f4,f5⟩:=hf e (by simp)
  have I2:=I1.turned (t':=s.toks+1) (h':=h2) (it:=e) (fun b o hb q=>sb2.2 b hb |>.trans q) (hnone e (by simp)) f1 f3 f4 f5
  obtain ⟨oi,hoi,hci,hdi⟩:=o2
  refine ⟨.ref s.heap.objs.size,_,I2,rfl,⟨_,v,hfr,rfl,rfl,fun ys sq'=>?_⟩,⟨⟨_,e2⟩,oi,(sb2.2 it (eG hne)).trans hoi,hci,hdi⟩,hnone⟩
  rw[I.list_inj sq' sq];exact hx
 done:=by
  intro X hP hw hK hc i pins s σ H E I hf st hg
  subst hP hw hK
  obtain ⟨⟨old,he⟩,hit⟩:=st
  obtain ⟨xs,sq,hx⟩:=hg
  obtain ⟨its,hv,pl,hz⟩:=I.list sq
  obtain ⟨f0,f1,f2,f3,f4,f5⟩:=hf it (by simp)
  have hlen:=hv.length
  refine wpAny_pyNext_enum_end (I.ok.hd hc) he hit pl.isList (by simp;omega) fun h' eb=>⟨rfl,I.turned (t':=s.toks) (fun b o hb q=>eb b o hb q) f0 f1 f3 f4 f5⟩
 self:=fun _ _ _ _ _ st h=>by obtain ⟨⟨old,he⟩,_⟩:=st;exact kA he h
def Itz(K:aB)(a b:Addr):It:=
 ⟨fun i H=>∃ xs ys x y,SqL K H a xs/\SqL K H b ys/\xs[i]? = some x/\ys[i]? = some y,fun i H z H'=>∃ p x y,H p=none/\z = .ref p/\H'=upd H p (.tup [x,y])/\(∀ xs,SqL K H a xs->xs[i]? = some x)/\∀ ys,SqL K H b ys->ys[i]? = some y,
  fun i H=>∃ xs ys,SqL K H a xs/\SqL K H b ys/\(xs.length<=i\/ys.length<=i)⟩
theorem Ahh{x1}(a b z TI TO i1 i2:Addr)(D:ZipApart z TI TO i1 i2 a b):Turn P w K (.Tuple elts x1 pos) (Itz K a b) [z,TI,TO,i1,i2] z
  (fun i h=>IsZip h z TI TO .none/\IsPair h TI (.ref i1) (.ref i2)/\(∃ u v,IsPair h TO u v)/\h.IsListIter i1 a i/\h.IsListIter i2 b i) where
 mem:=by simp
 obj:=fun i h st c hb=>by
  obtain ⟨h1,h2,⟨u,v,h3⟩,⟨o4,h4,_,d4⟩,⟨o5,h5,_,d5⟩⟩:=st
  simp only[aV,eP,or_false] at hb
  rcases hb with rfl | rfl | rfl | rfl | rfl
  ·exact ⟨_,h1,fun v z=>by simp at z⟩
  ·exact ⟨_,h2,fun v z=>by simp at z⟩
  ·exact ⟨_,h3,fun v z=>by simp at z⟩
  ·exact ⟨_,h4,fun v z=>by rw[d4] at z;cases z⟩
  ·exact ⟨_,h5,fun v z=>by rw[d5] at z;cases z⟩
 keep:=fun i h h' st k=>by
  obtain ⟨h1,h2,⟨u,v,h3⟩,⟨o4,h4,c4,d4⟩,⟨o5,h5,c5,d5⟩⟩:=st
  exact ⟨k z (by simp) _ h1,k TI (by simp) _ h2,⟨u,v,k TO (by simp) _ h3⟩,⟨o4,k i1 (by simp) _ h4,c4,d4⟩,⟨o5,k i2 (by simp) _ h5,c5,d5⟩⟩
 item:=by
  intro X hP hw hK hc i pins s σ H E I hf st hg
  subst hP hw hK
  obtain ⟨h1,h2,⟨u0,v0,h3⟩,h4,h5⟩:=st
  obtain ⟨xs,ys,x,y,sq1,sq2,hx,hy⟩:=hg
  obtain ⟨its1,hv1,pl1,hz1⟩:=I.list sq1
  obtain ⟨its2,hv2,pl2,hz2⟩:=I.list sq2
  obtain ⟨u,hu,r⟩:=hv1.get hx
  obtain ⟨u',hu',r'⟩:=hv2.get hy
  refine wpAny_pyNext_zip_item D h1 h2 h3 h4 h5 pl1.isList pl2.isList (by simpa using hu) (by simpa using hu') fun h' o1 o2 o3 o4 o5 o6 o7=>?_
  refine ⟨_,rfl,?_⟩
  have hfr:H s.heap.objs.size=none:=I.hok.fresh (aJ _)
  have I1:L2.Inv X pins σ (upd H s.heap.objs.size (.tup [x,y])) { s with heap:=h',toks:=s.toks }:=
   Inv.turnNew (ch:=[z,TI,TO,i1,i2]) I hf (fun c o hb q=>o7 c o (fun z=>hb (by simp[z])) (fun z=>hb (by simp[z])) (fun z=>hb (by simp[z])) (fun z=>hb (by simp[z])) q) (aJ _)
    (show ObjOk X.prog X.w _ h' _ (.tup [x,y]) from ⟨by show 2<=sizeLine;decide,[u,u'],.cons r (.cons r' .nil),⟨_,o5,rfl,_,rfl⟩⟩)
  refine wpAny_letOwnedTupleGo_zip o1 fun h9 e2 sb2=>?_
  have hlt:∀ c∈[z,TI,TO,i1,i2],c < s.heap.objs.size:=fun c hb=>by
   obtain ⟨o4',h4',_⟩:=h4
   obtain ⟨o5',h5',_⟩:=h5
   simp only[aV,eP,or_false] at hb
   rcases hb with rfl | rfl | rfl | rfl | rfl
   ·exact aO h1
   ·exact aO h2
   ·exact aO h3
   ·exact aO h4'
   ·exact aO h5'
  have hnone:∀ c∈[z,TI,TO,i1,i2],(upd H s.heap.objs.size (.tup [x,y])) c=none:=fun c hb=>by rw[Bv (cC (hlt c hb))];exact (hf c hb).1
  obtain ⟨f0,f1,f2,f3,f4,f5⟩:=hf z (by simp)
  have I2:=I1.turned (t':=s.toks) (h':=h9) (it:=z) (fun c o hb q=>sb2.2 c hb |>.trans q) (hnone z (by simp)) f1 f3 f4 f5
  obtain ⟨oi,hoi,hci,hdi⟩:=o3
  obtain ⟨oj,hoj,hcj,hdj⟩:=o4
  have hTI:IsPair h' TI (.ref i1) (.ref i2):=o7 TI _ D.TIz D.TITO D.TIi1 D.TIi2 h2
  refine ⟨.ref s.heap.objs.size,_,I2,rfl,⟨_,x,y,hfr,rfl,rfl,fun ys sq'=>?_,fun ys sq'=>?_⟩,⟨e2,(sb2.2 TI D.TIz).trans hTI,⟨_,_,(sb2.2 TO D.TOz).trans o2⟩,⟨oi,(sb2.2 i1 D.i1z).trans hoi,hci,hdi⟩,⟨oj,(sb2.2 i2 D.i2z).trans hoj,hcj,hdj⟩⟩,hnone⟩
  ·rw[I.list_inj sq' sq1];exact hx
  ·rw[I.list_inj sq' sq2];exact hy
 done:=by
  intro X hP hw hK hc i pins s σ H E I hf st hg
  subst hP hw hK
  obtain ⟨h1,h2,⟨u0,v0,h3⟩,h4,h5⟩:=st
  obtain ⟨xs,ys,sq1,sq2,hx⟩:=hg
  obtain ⟨its1,hv1,pl1,hz1⟩:=I.list sq1
  obtain ⟨its2,hv2,pl2,hz2⟩:=I.list sq2
  have hl1:=hv1.length
  have hl2:=hv2.length
  refine wpAny_pyNext_zip_end (I.ok.hd hc) D h1 h2 h3 h4 h5 pl1.isList pl2.isList (by simp;omega) fun h' k=>⟨rfl,?_⟩
  have nch:∀ b u,H b=some u->b∉[z,TI,TO,i1,i2]:=fun b u e hb=>by rw[(hf b hb).1] at e;cases e
  have k':∀ b o,b∉[z,TI,TO,i1,i2]->s.heap.get? b=some o->h'.get? b=some o:=fun c o hb q=>k c o (fun z=>hb (by simp[z])) (fun z=>hb (by simp[z])) (fun z=>hb (by simp[z])) (fun z=>hb (by simp[z])) q
  refine I.step (g':=s.gens) (d':=s.drawn) (t':=s.toks) (ch:=[z,TI,TO,i1,i2]) (fun b hb=>?_) (fun b o _ _ hc e _=>k' b o hc e) (fun b o _ _ hc e _=>⟨o.slots,k' b o hc e⟩) (fun _ _ _ _ n=>n) (fun b u hc e=>⟨u,k' b u hc e⟩) (fun _ _ e=>e) (fun _ _ _ e=>e) (fun b ps e=>⟨#[],by rw[e];simp⟩) (fun m hm=>?_) (fun b u e=>?_) I.bare
  ·obtain ⟨_,f1,_,f3,f4,f5⟩:=hf b hb
   exact ⟨f3,f1,f4,f5⟩
  ·obtain ⟨o1,es,ep,ho,r⟩:=hm
   exact ⟨o1,es,ep,k' _ o1 (fun z=>(hf _ z).2.1 rfl) ho,r⟩
  ·refine (I.hok b u e).stay (fun c v hc q=>k' c v ?_ q) (fun _ q=>q) fun _ _ q=>q
   rcases hc with z | z
   ·rw[z];exact nch b u e
   ·exact nch c _ z
 self:=fun _ _ _ _ _ st h=>qX st.1 h
theorem Aen(n l1 l2:Nat)(h1:l1 < n)(h2:l2 < n):ZipApart (n+4) (n+2) (n+3) n (n+1) l1 l2:=by
 constructor <;> (intro q;exact absurd (show (_:Nat)=_ from q) (by omega))
section
variable {x1:Nat}{tpos:Pos}
theorem Tx:fG "enumerate" = some (.type "enumerate"):=by decide +kernel
theorem Ahm:fG "zip" = some (.type "zip"):=by decide +kernel
def Ark(K:aB)(ta:TA):TI:=fun σ H R=>ta σ H fun vs H1=>∃ a xs,vs=[.ref a]/\SqL K H1 a xs/\R (Ite K a) H1
theorem Ab5{a:Expr}{ta:TA}(hg:Gl X "enumerate")(hm:X.mg "enumerate" = none)(ha:PA X [a] ta)(hs:aN [a] X.env=[(false,eval a X.env)]:=by rfl):PI X (.Tuple elts x1 tpos) (.Call (.Name "enumerate" p) [a] [] pos) (Ark X.K ta):=by
 intro pins s σ H R I h
 refine Call_ (Nv I hg hm Tx (eR (thn (ha pos pins s σ H _ I h) fun us s1 ⟨vs,H1,I1,r1,q1⟩=>?_) hs rfl))
 obtain ⟨l,xs,rfl,sq,q⟩:=q1
 obtain ⟨u,rfl,ru⟩:=Ku r1
 cases ru
 obtain ⟨its,hv,pl,hz⟩:=I1.list sq
 refine call_enumerate_list pl.isList fun h' o1 o2 o3 o4=>?_
 have I2:L2.Inv X pins σ H1 { s1 with heap:=h' }:=I1.kept (t':=s1.toks) o4
 refine kA o1 ⟨_,_,_,_,H1,rfl,I2,Aef l (s1.heap.objs.size+1) s1.heap.objs.size (cP (dW _)),⟨⟨_,o1⟩,o2⟩,fun b hb=>?_,q⟩
 have hb':s1.heap.objs.size<=b:=by
  simp only[aV,eP,or_false] at hb
  rcases hb with rfl | rfl
  ·exact gE _
  ·exact aJ _
 exact L2.Inv.fpOk I1 hb' (I1.hok.fresh hb')
def Atz(K:aB)(ta:TA):TI:=fun σ H R=>ta σ H fun vs H1=>∃ a b xs ys,vs=[.ref a,.ref b]/\SqL K H1 a xs/\SqL K H1 b ys/\R (Itz K a b) H1
theorem Api{a:Expr}{ta:TA}(hg:Gl X "zip")(hm:X.mg "zip" = none)(ha:PA X [a,b] ta)(hs:aN [a,b] X.env=(false,eval a X.env)::aN [b] X.env:=by rfl)(hpl:(backTo pos (aN [b] X.env)).any (·.1)=false:=by rfl):PI X (.Tuple elts x1 tpos) (.Call (.Name "zip" p) [a,b] [] pos) (Atz X.K ta):=by
 intro pins s σ H R I h
 refine Call_ (Nv I hg hm Ahm (eR (thn (ha pos pins s σ H _ I h) fun us s1 ⟨vs,H1,I1,r1,q1⟩=>?_) hs hpl))
 obtain ⟨l1,l2,xs,ys,rfl,sq1,sq2,q⟩:=q1
 obtain ⟨u,u',rfl,ru,ru'⟩:=Abp r1
 cases ru;cases ru'
 obtain ⟨its1,hv1,pl1,hz1⟩:=I1.list sq1
 obtain ⟨its2,hv2,pl2,hz2⟩:=I1.list sq2
 have lt1:l1 < s1.heap.objs.size:=by obtain ⟨o,_,e,_⟩:=pl1;exact aO e
 have lt2:l2 < s1.heap.objs.size:=by obtain ⟨o,_,e,_⟩:=pl2;exact aO e
 refine call_zip_2 pl1.isList pl2.isList fun h' o1 o2 o3 o4 o5 o6 o7=>?_
 have I2:L2.Inv X pins σ H1 { s1 with heap:=h' }:=I1.kept (t':=s1.toks) o7
 have D:ZipApart (s1.heap.objs.size+4) (s1.heap.objs.size+2) (s1.heap.objs.size+3) s1.heap.objs.size (s1.heap.objs.size+1) l1 l2:=by
  exact Aen _ _ _ lt1 lt2
 refine qX o1 ⟨_,_,_,_,H1,rfl,I2,Ahh l1 l2 _ _ _ _ _ D,⟨o1,o2,⟨_,_,o3⟩,o4,o5⟩,fun b hb=>?_,q⟩
 have hb':s1.heap.objs.size<=b:=by
  simp only[aV,eP,or_false] at hb
  rcases hb with rfl | rfl | rfl | rfl | rfl <;> first | exact cI _ _ | exact aJ _
 exact L2.Inv.fpOk I1 hb' (I1.hok.fresh hb')
def Abe(g:FA):FI:=fun δ L=>(g δ L).bind fun p=>match p.1 with
 | [.ref n]=>(Az p.2 n).map fun _=>(.enm n,p.2)
 | _=>none
def Aht(g:FA):FI:=fun δ L=>(g δ L).bind fun p=>match p.1 with
 | [.ref n,.ref m]=>(Az p.2 n).bind fun _=>(Az p.2 m).map fun _=>(.zip2 n m,p.2)
 | _=>none
theorem Gq(A:Abs K H α L)(ea:α[n]? = some a)(h:Az L n=some us):∃ xs,SqL K H a xs/\RepL K H α us xs:=by
 obtain ⟨a',xs,ea',sq,r⟩:=Il A h
 rw[ea] at ea';cases ea'
 exact ⟨xs,sq,r⟩
theorem Ab7(hinj:∀ (H:Hp) xs ys,SqL K H a xs->SqL K H a ys->True)(ea:α[n]? = some a):Og K (Ite K a) (.enm n) H α:=by
 intro H2 α2 L2 g A2 k
 have ea2:=g.at ea
 refine ⟨fun u eu=>?_,fun eu=>?_⟩
 ·obtain ⟨us,hs,eu⟩:=mpd eu
  obtain ⟨xs,sq,r⟩:=Gq A2 ea2 hs
  obtain ⟨w,hw,eu⟩:=mpd eu
  subst eu
  obtain ⟨x,hx,rx⟩:=r.get hw
  refine ⟨⟨xs,x,sq,hx⟩,?_⟩
  rintro y H3 ⟨p,v,hp,rfl,rfl,hy⟩
  have:=hy xs sq
  rw[hx] at this;cases this
  exact A2.tup (.cons rfl (.cons rx .nil)) hp
 ·obtain ⟨us,hs,eu⟩:=mpd eu
  obtain ⟨xs,sq,r⟩:=Gq A2 ea2 hs
  have:us[k]? = none:=by simpa using eu
  exact ⟨xs,sq,by rw[<- r.length];exact cO.mp this⟩
theorem Ail{m:Nat}{b:Addr}(ea:α[n]? = some a)(eb:α[m]? = some b):Og K (Itz K a b) (.zip2 n m) H α:=by
 intro H2 α2 L2 g A2 k
 have ea2:=g.at ea
 have eb2:=g.at eb
 refine ⟨fun u eu=>?_,fun eu=>?_⟩
 ·obtain ⟨us,hs,eu⟩:=bnd eu
  obtain ⟨ws,hw,eu⟩:=mpd eu
  obtain ⟨xs,sq,r⟩:=Gq A2 ea2 hs
  obtain ⟨ys,sq',r'⟩:=Gq A2 eb2 hw
  cases h1:us[k]? with
  | none=>rw[h1] at eu;simp[Rh] at eu
  | some u1=>
   cases h2:ws[k]? with
   | none=>rw[h1,h2] at eu;simp[Rh] at eu
   | some u2=>
    rw[h1,h2] at eu
    simp[Rh] at eu
    subst eu
    obtain ⟨x,hx,rx⟩:=r.get h1
    obtain ⟨y,hy,ry⟩:=r'.get h2
    refine ⟨⟨xs,ys,x,y,sq,sq',hx,hy⟩,?_⟩
    rintro z H3 ⟨p,v,v',hp,rfl,rfl,hy1,hy2⟩
    have e1:=hy1 xs sq
    have e2:=hy2 ys sq'
    rw[hx] at e1;cases e1
    rw[hy] at e2;cases e2
    exact A2.tup (.cons rx (.cons ry .nil)) hp
 ·obtain ⟨us,hs,eu⟩:=bnd eu
  obtain ⟨ws,hw,eu⟩:=mpd eu
  obtain ⟨xs,sq,r⟩:=Gq A2 ea2 hs
  obtain ⟨ys,sq',r'⟩:=Gq A2 eb2 hw
  refine ⟨xs,ys,sq,sq',?_⟩
  cases h1:us[k]? with
  | none=>left;rw[<- r.length];exact cO.mp h1
  | some u1=>
   cases h2:ws[k]? with
   | none=>right;rw[<- r'.length];exact cO.mp h2
   | some u2=>rw[h1,h2] at eu;simp[Rh] at eu
theorem Aft{a:Expr}(hg:Gl X "enumerate")(hm:X.mg "enumerate" = none)(ha:PAF X [a] g)(hs:aN [a] X.env=[(false,eval a X.env)]:=by rfl):PIF X (.Tuple elts x1 tpos) (.Call (.Name "enumerate" p) [a] [] pos) (Abe g):=by
 refine PI.imp (Ab5 hg hm ha hs) ?_
 rintro σ H R ⟨α,δ,L,A,S,i,L3,e,q⟩
 obtain ⟨us,L1,e1,e⟩:=B9 e
 refine ⟨α,δ,L,A,S,us,L1,e1,fun xs H1 α1 g1 A1 r1=>?_⟩
 simp only at e
 split at e
 ·obtain ⟨l,hl,e⟩:=mpd e
  cases e
  obtain ⟨x,rfl,rx⟩:=r1.one
  obtain ⟨a',ys,rfl,sq,r2⟩:=Hy A1 hl rx
  obtain ⟨a2,ea,ha2⟩:=rx.ref_of A1
  cases ha2
  exact ⟨a',ys,rfl,sq,q _ H1 α1 g1 A1 (Ab7 (fun _ _ _ _ _=>trivial) ea)⟩
 ·cases e
theorem Aki{a:Expr}(hg:Gl X "zip")(hm:X.mg "zip" = none)(ha:PAF X [a,b] g)(hs:aN [a,b] X.env=(false,eval a X.env)::aN [b] X.env:=by rfl)(hpl:(backTo pos (aN [b] X.env)).any (·.1)=false:=by rfl):PIF X (.Tuple elts x1 tpos) (.Call (.Name "zip" p) [a,b] [] pos) (Aht g):=by
 refine PI.imp (Api hg hm ha hs hpl) ?_
 rintro σ H R ⟨α,δ,L,A,S,i,L3,e,q⟩
 obtain ⟨us,L1,e1,e⟩:=B9 e
 refine ⟨α,δ,L,A,S,us,L1,e1,fun xs H1 α1 g1 A1 r1=>?_⟩
 simp only at e
 split at e
 ·obtain ⟨l,hl,e⟩:=bnd e
  obtain ⟨l',hl',e⟩:=mpd e
  cases e
  obtain ⟨x,y,rfl,rx,ry⟩:=r1.two
  obtain ⟨a',ys,rfl,sq,r2⟩:=Hy A1 hl rx
  obtain ⟨b',ys',rfl,sq',r2'⟩:=Hy A1 hl' ry
  obtain ⟨a2,ea,ha2⟩:=rx.ref_of A1
  cases ha2
  obtain ⟨b2,eb,hb2⟩:=ry.ref_of A1
  cases hb2
  exact ⟨a',b',ys,ys',rfl,sq,sq',q _ H1 α1 g1 A1 (Ail ea eb)⟩
 ·cases e
end
end MR
namespace HT
open PySem PySem.Spec PyProof.Rows
section
variable {prog:cD}{w:cV}{A:fA}{E:aE->aH->Prop}{s:aH}
end
end HT
namespace MR
open PySem PySem.Spec PyProof.Rows L2
section
variable {X:Cx}{e st:Expr}{fa fs:FE}{p2 pos:Pos}
def At2(f:FE):FE:=fun δ L=>(f δ L).bind fun p=>match p.1 with | .ref n=>(Az p.2 n).map fun l=>(.ref p.2.length,p.2++[.lst l.reverse]) | .tup l=>some (.tup l.reverse,p.2) | _=>none
end
structure ClsF(K:aB)(C:Str)(Ca:Addr):Prop where
 ns:bV K bB C=some (some (.ref Ca))
 cl:Cls K Ca
theorem ClsF.eq{K:aB}{C:Str}{Ca Cb:Addr}(T:ClsF K C Ca)(h:bV K bB C=some (some (.ref Cb))):Cb=Ca:=by
 have:=T.ns.symm.trans h
 simpa using this.symm
theorem Rw{K:aB}{H:Hp}{α:List Addr}{f:Str}:∀ {fs:List (Str×U)} {vs:List (Str×V)},fs.map (·.1)=vs.map (·.1)->RepL K H α (fs.map (·.2)) (vs.map (·.2))->(∀ u,fs.lookup f=some u->∃ v,vs.lookup f=some v/\RepU K H α u v)/\(fs.lookup f=none->vs.lookup f=none)
 | [],[],_,_=>⟨fun u h=>by simp at h,fun _=>rfl⟩
 | [],_::_,h,_=>by simp at h
 | _::_,[],h,_=>by simp at h
 | (g,u)::fs,(g',v)::vs,h,r=>by
  simp only[aS,lK] at h
  obtain ⟨h1,h2⟩:=h
  subst h1
  simp only[aS] at r
  unfold RepL at r
  obtain ⟨x,xr,e,r1,r2⟩:=r
  cases e
  obtain ⟨i1,i2⟩:=Rw (f:=f) h2 r2
  rw[cB,cB]
  cases hq:f == g with
  | true=>exact ⟨fun w hw=>by cases hw;exact ⟨v,rfl,r1⟩,fun hw=>by cases hw⟩
  | false=>exact ⟨i1,i2⟩
section
variable {X:Cx}{o e value:Expr}{es:List Expr}{f m C x:Str}{p pos pos' apos:Pos}{Ca fa:Addr}{fd:dN}{ps:List Str}{k n:Nat}{F:FN}{fe fo fv:FE}{g:FA}
end
end MR
namespace ZT
open PySem PySem.Spec PyProof.Rows
open Sem (wp)
def SqK(b:Bool)(h:Heap)(l:Addr)(xs:Array aE):Prop:=match b with
 | true=>h.IsList l xs
 | false=>h.IsTuple l xs
def ItK(b:Bool)(h:Heap)(jt l:Addr)(k:Nat):Prop:=match b with
 | true=>h.IsListIter jt l k
 | false=>h.IsTupleIter jt l k
variable {b:Bool}{h h':Heap}{l:Addr}{xs:Array aE}
theorem SqK.keep(x:SqK b h l xs)(e:∀ o,h.get? l=some o->h'.get? l=some o):SqK b h' l xs:=by
 cases b with
 | true=>obtain ⟨o,ho,r⟩:=x;exact ⟨o,e _ ho,r⟩
 | false=>obtain ⟨o,ho,r⟩:=x;exact ⟨o,e _ ho,r⟩
variable {jt:Addr}{k:Nat}
theorem ItK.keep(x:ItK b h jt l k)(e:∀ o,h.get? jt=some o->h'.get? jt=some o):ItK b h' jt l k:=by
 cases b with
 | true=>obtain ⟨o,ho,r⟩:=x;exact ⟨o,e _ ho,r⟩
 | false=>obtain ⟨o,ho,r⟩:=x;exact ⟨o,e _ ho,r⟩
theorem ItK.lt(x:ItK b h jt l k):jt < h.objs.size:=by
 cases b with
 | true=>obtain ⟨o,ho,r⟩:=x;exact aO ho
 | false=>obtain ⟨o,ho,r⟩:=x;exact aO ho
theorem ItK.obj(x:ItK b h jt l k):∃ o,h.get? jt=some o/\o.data = .fields #[.ref l,.int k 0]:=by
 cases b with
 | true=>obtain ⟨o,ho,_,r⟩:=x;exact ⟨o,ho,r⟩
 | false=>obtain ⟨o,ho,_,r⟩:=x;exact ⟨o,ho,r⟩
section
variable {prog:cD}{w:cV}{A:fA}{E:aE->aH->Prop}{s:aH}
theorem Ahg{t:Addr}{its:Array aE}{v:aE}{Q:aE->aH->Prop}(hj:s.heap.IsTupleIter jt t k)(ht:s.heap.IsTuple t its)(hv:its[k]? = some v)
  (hQ:∀ h',h'.IsTupleIter jt t (k+1)->nO jt s.heap h'->Q v { s with heap:=h' }):wpAny (model prog w) A (fW (.ref jt)) Q E s:=by
 obtain ⟨ob,hob,hcl,hda⟩:=id hj
 obtain ⟨ot,hot,_,nt,hdt⟩:=ht
 unfold fW
 refine aF (gT (name:=iW "__next__") hj.typeIs fS (iX fS hj.typeIs lW ?_ (lL _)))
 show wpAny _ _ (field (.ref jt) 0 >>= _) _ _ s
 refine aF (dQ hob hda (x:=.ref t) rfl ?_)
 show wpAny _ _ (if (bP t == dO)=true then _ else _) _ _ s
 rw[if_neg (show ¬ ((bP t == dO)=true) from (fun z=>cT z))]
 show wpAny _ _ (field (.ref jt) 1 >>= _) _ _ s
 refine aF (dQ hob hda (x:=.int k 0) rfl ?_)
 show wpAny _ _ (seqItems? (.ref t) >>= fun z=>_) _ _ s
 refine aF (wpAny_seqItems hot hdt ?_)
 simp only[cF,hv]
 refine aF (iR hob hda (by simp) (aX ⟨v,rfl,aX (hQ _ ?_ (lR ..))⟩))
 exact ⟨_,dM _ hob (eD (dR hda _)),(Obj.cls_mapFields ..).trans hcl,by rw[dR hda];simp[rawInt]⟩
theorem Yo{t:Addr}{its:Array aE}{Q:aE->aH->Prop}(hh:A.handled=none)(hj:s.heap.IsTupleIter jt t k)(ht:s.heap.IsTuple t its)(hv:its[k]? = none)
  (hE:∀ h' e,oK jt s.heap h'->(∃ ob,h'.get? e=some ob/\ob.cls = .type "StopIteration")->E (.ref e) { s with heap:=h' }):wpAny (model prog w) A (fW (.ref jt)) Q E s:=by
 obtain ⟨ob,hob,hcl,hda⟩:=id hj
 obtain ⟨ot,hot,_,nt,hdt⟩:=ht
 unfold fW
 refine aF (gT (name:=iW "__next__") hj.typeIs fS (iX fS hj.typeIs lW ?_ (lL _)))
 show wpAny _ _ (field (.ref jt) 0 >>= _) _ _ s
 refine aF (dQ hob hda (x:=.ref t) rfl ?_)
 show wpAny _ _ (if (bP t == dO)=true then _ else _) _ _ s
 rw[if_neg (show ¬ ((bP t == dO)=true) from (fun z=>cT z))]
 show wpAny _ _ (field (.ref jt) 1 >>= _) _ _ s
 refine aF (dQ hob hda (x:=.int k 0) rfl ?_)
 show wpAny _ _ (seqItems? (.ref t) >>= fun z=>_) _ _ s
 refine aF (wpAny_seqItems hot hdt ?_)
 simp only[cF,hv]
 refine aF (rT (aF (iR hob hda (by simp) ?_)))
 show wpAny _ _ (newExc (.type "StopIteration") [] >>= fun z=>_) _ _ _
 refine aF ?_
 simp only[newExc,newTuple];refine aF (dY ?_ (by size_fits))
 refine aF (m:=firstArgMember _ _) (wpAny_of_eq (a:=dO) (by first | rfl | (simp only[firstArgMember];rfl)) (dY ?_ (by size_fits)))
 simp only[raiseNew];refine aF (wpAny_handled ?_)
 first | rw[show A.in1.handled=none from hh] | (rw[hh])
 exact aF (aX (wpAny_throw (hE _ _ (((lR ..).extBut.push _).push _) ⟨_,bI _ rfl,rfl⟩)))
theorem SqK.but{c:Addr}(x:SqK b h l xs)(e:oK c h h')(hne:l≠c):SqK b h' l xs:=x.keep fun o q=>e l o hne q
theorem ItK.but{c:Addr}(x:ItK b h jt l k)(e:oK c h h')(hne:jt≠c):ItK b h' jt l k:=x.keep fun o q=>e jt o hne q
variable {b1 b2:Bool}{z TI TO j1 j2 l1 l2:Addr}{k1 k2:Nat}{ys:Array aE}{a b:aE}
end
section
variable {prog:cD}{w:cV}{A:fA}{E:aE->aH->Prop}{s:aH}
end
end ZT
namespace MR
open PySem PySem.Spec PyProof.Rows L2
def SK(bb:Bool)(K:aB)(H:Hp)(a:Addr)(xs:List V):Prop:=match bb with
 | true=>SqL K H a xs
 | false=>SqT K H a xs
variable {X:Cx}
theorem SK.at{pins:List (Addr×Obj)}{σ:L2.St}{H:Hp}{s:aH}{bb:Bool}{a:Addr}{xs:List V}(I:L2.Inv X pins σ H s)(h:SK bb X.K H a xs):∃ its:List aE,Vals xs its/\ZT.SqK bb s.heap a its.toArray/\xs.length<=sizeLine:=by
 cases bb with
 | true=>obtain ⟨its,r,p,z⟩:=I.list h;exact ⟨its,r,p.isList,z⟩
 | false=>obtain ⟨its,r,p,z⟩:=I.tuple h;exact ⟨its,r,p,z⟩
theorem SK.inj{pins:List (Addr×Obj)}{σ:L2.St}{H:Hp}{s:aH}{bb:Bool}{a:Addr}{xs ys:List V}(I:L2.Inv X pins σ H s)(h:SK bb X.K H a xs)(h':SK bb X.K H a ys):xs=ys:=by
 cases bb with
 | true=>exact I.list_inj h h'
 | false=>exact I.tuple_inj h h'
section
variable {elts:List Expr}{x1:Nat}{tpos:Pos}
end
end MR
namespace MR
open PySem PySem.Spec PyProof.Rows PySem.Calls L2
theorem Ako{bs:List Bool}:∀ {us:List aE},Vals (bs.map V.bl) us->∀ (i:Nat) (v:aE),us[i]? = some v->∃ b,bs[i]? = some b/\v = .bool b:=by
 induction bs with
 | nil=>intro us r i v e;rw[eU] at r;cases r;simp at e
 | cons n ns ih=>
  intro us r i v e
  rw[aS] at r
  cases r with
  | cons r1 r2=>
   cases i with
   | zero=>simp at e;subst e;exact ⟨n,rfl,r1⟩
   | succ i=>simpa using ih r2 i v (by simpa using e)
theorem Akz{bs:List Bool}:∀ {us:List aE},Vals (bs.map V.bl) us->us.length=bs.length:=by
 induction bs with
 | nil=>intro us r;rw[eU] at r;cases r;rfl
 | cons n ns ih=>
  intro us r
  rw[aS] at r
  cases r with
  | cons r1 r2=>simp[ih r2]
theorem Aip(bs:List Bool):((dX bs.length).all fun i=>(bs[i]?).getD true)=bs.all id:=by
 rw[cX,bW,bW]
 constructor
 ·intro h b hb
  obtain ⟨i,hi,e⟩:=List.getElem_of_mem hb
  have:=h i (fQ.mpr hi)
  simp only[aQ hi,nN,e] at this
  exact this
 ·intro h i hi
  have hi':=fQ.mp hi
  simp only[aQ hi',nN]
  exact h _ (bN hi')
section
variable {X:Cx}
theorem Aio{s:aH}{h':Heap}{o:Obj}(hk:∀ b x,b∉[s.heap.objs.size]->(s.heap.push o).get? b=some x->h'.get? b=some x):∀ b x,s.heap.get? b=some x->h'.get? b=some x:=
 fun b x e=>hk b x (fun hm=>by rw[dH.mp hm] at e;exact dA _ (aO e)) (aI _ e)
theorem Ad4(hc:X.calm=true):CallR X (.builtin "all") (fun xs H Q=>∃ (p:Addr) (bs:List Bool),xs=[.ref p]/\SqL X.K H p (bs.map V.bl)/\Q (.bl (bs.all id)) H):=by
 intro pins s σ H xs us Q I r h
 obtain ⟨p,bs,rfl,hq,q⟩:=h
 obtain ⟨u,rfl,rx⟩:=Ku r
 cases rx
 obtain ⟨its,r',pl,hz⟩:=I.list hq
 have hl:=pl.isList
 have hlt:p < s.heap.objs.size:=by obtain ⟨_,e,_⟩:=hl;exact aO e
 refine wtk I.tk (call_all_walk (qC hl ?_))
 refine ⟨s.heap.objs.size,[s.heap.objs.size,p],[s.heap.objs.size],its.toArray.size,_,_,fun i=>(bs[i]?).getD true,rfl,Walks.list (A:=rV _) (I.ok.hd hc) _ p (cC hlt) its.toArray,
  ⟨⟨_,bI _ rfl,rfl,rfl⟩,hl.push _⟩,fun i v s' Q' E' hP hQ=>?_,fun h' tk hk ht=>?_⟩
 ·obtain ⟨b,e,rfl⟩:=Ako r' i v (by simpa using hP)
  simp only[e,nN] at hQ
  exact fY hQ
 ·have e:((dX its.toArray.size).all fun i=>(bs[i]?).getD true)=bs.all id:=by
   rw[aT,Akz r'];exact Aip bs
  rw[e]
  exact ⟨.bl (bs.all id),H,I.kept (Aio hk) ht,rfl,q⟩
end
def toB:U->Option Bool
 | .bl b=>some b
 | _=>none
variable {K:aB}
theorem Abl{H:Hp}{α:List Addr}:∀ {us:List U} {xs:List V} {bs:List Bool},RepL K H α us xs->mapO toB us=some bs->xs=bs.map V.bl
 | [],xs,ys,r,h=>by unfold RepL at r;subst r;cases h;rfl
 | u::us,xs,ys,r,h=>by
  unfold RepL at r
  obtain ⟨x,xr,rfl,r1,r2⟩:=r
  obtain ⟨y,e1,h⟩:=bnd h
  obtain ⟨yr,e2,h⟩:=mpd h
  subst h
  cases u <;> simp only[toB] at e1 <;> first
   | (cases e1;unfold RepU at r1;subst r1;rw[Abl r2 e2];rfl)
   | cases e1
def Rm:SC:=fun us L=>match us with
 | [.ref n]=>(Az L n).bind fun l=>(mapO toB l).map fun bs=>(.bl (bs.all id),L)
 | _=>none
theorem Ale:Pw K (fun xs H Q=>∃ (p:Addr) (bs:List Bool),xs=[.ref p]/\SqL K H p (bs.map V.bl)/\Q (.bl (bs.all id)) H) Rm:=by
 intro H α L us xs z L' Q A r e q
 unfold Rm at e
 split at e
 ·obtain ⟨l,hl,e⟩:=bnd e
  obtain ⟨bs,e1,e⟩:=mpd e
  cases e
  obtain ⟨x,rfl,rx⟩:=r.one
  obtain ⟨a,ys,rfl,sq,r2⟩:=Hy A hl rx
  rw[Abl r2 e1] at sq
  exact ⟨a,bs,rfl,sq,q _ H α (.refl _ _) A rfl⟩
 ·cases e
section
variable {X:Cx}
def Ab4:V->List V->Hp->VK->Prop:=fun x vs H Q=>∃ l xs i y,x = .ref l/\vs=[.int i,y]/\H l=some (.lst xs)/\0<=i/\i < 2 ^ 63/\xs.length < sizeLine/\Q .non (upd H l (.lst (xs.take (min i.toNat xs.length)++y::xs.drop (min i.toNat xs.length))))
theorem P0:MtM X "list.insert" Ab4:=by
 intro pins s σ H x vs v us Q I rx rv h
 obtain ⟨l,xs,i,y,rfl,rfl,hH,h1,h2,hz,q⟩:=h
 cases rx
 obtain ⟨u,w,rfl,ru,rw'⟩:=rv.two
 obtain ⟨t,rfl⟩:=ru
 obtain ⟨z,its,n,r,hl,e⟩:=I.lstM hH
 have hf:mK i=true:=by
  unfold mK
  simp only[bG,decide_eq_true_eq]
  omega
 refine jO F.slot_list_insert ⟨_,e,rfl⟩ F.entry_list_insert (F.args_list_insert_3 _ _ _)
  (AutoSeq1.list_insert_list_int_val_1 l its.toArray n i t w (by simp[hf]) (by rw[aT];omega)) ⟨e,?_⟩
 refine ⟨.non,_,I.lset (its':=its.take (min i.toNat xs.length)++w::its.drop (min i.toNat xs.length)) hH e ?_ ((r.take _).append (.cons rw' (r.drop _))) ?_,rfl,q⟩
 ·show (its.toArray.extract 0 (if i < 0 then (i+(its.toArray.size:Int)).toNat else min i.toNat its.toArray.size)).push w++its.toArray.extract (if i < 0 then (i+(its.toArray.size:Int)).toNat else min i.toNat its.toArray.size)=_
  rw[if_neg (by omega),PySem.W.kl_ins_eq,aT,<- hl]
 ·rw[aY,bH,gS,iV]
  omega
end
def D9:SM:=fun u us L=>match u,us with
 | .ref n,[.int i,y]=>(lstAt L n).bind fun l=>if 0<=i/\i < 2 ^ 63/\l.length < sizeLine then some (.non,L.set n (.lst (l.take (min i.toNat l.length)++y::l.drop (min i.toNat l.length)))) else none
 | _,_=>none
theorem Nc:V8 K Ab4 D9:=by
 intro H α L u us x xs z L' Q A ru r e q
 unfold D9 at e
 split at e
 ·rename_i n i y0
  obtain ⟨l,hl,e⟩:=bnd e
  split at e
  ·rename_i hs
   cases e
   obtain ⟨v,y,rfl,rv,ry⟩:=r.two
   unfold RepU at rv
   subst rv
   obtain ⟨a,ys,rfl,ea,h,r2⟩:=N7 A hl ru
   have hlen:=r2.length
   obtain ⟨g,A'⟩:=A.setL hl ea h ((r2.take (min i.toNat l.length)).append (.cons ry (r2.drop (min i.toNat l.length))))
   have q1:=q _ _ _ g A' rfl
   rw[hlen] at q1 hs
   exact ⟨a,ys,_,y,rfl,rfl,h,hs.1,hs.2.1,hs.2.2,q1⟩
  ·cases e
 ·cases e
end MR
namespace ZT
open PySem PySem.Spec PyProof.Rows
open Sem (wp)
theorem Lg(l:Addr)(items:Array aE) :
  Meets (nA.«enumerate.__new__» ⟨[.type "enumerate",.ref l],[]⟩) (fun _ R s=>s.heap.IsTuple l items /\
   R (.ok (.ret (.ref (s.heap.push { cls:=.type "tuple_iterator",data:=.fields #[.ref l,.int 0 0] }).objs.size)))
    { s with heap:=(s.heap.push { cls:=.type "tuple_iterator",data:=.fields #[.ref l,.int 0 0] }).push { cls:=.type "enumerate",data:=.fields #[.none,.bool false,.ref s.heap.objs.size,rawInt 0,.none,.none] } }):=
 .of_wp fun prog w A R s h=>by
  obtain ⟨hp,g,d,tk,os⟩:=s;obtain ⟨hl,h⟩:=h
  have hsub:=sub_enumerate
  have hL:Heap.IsTuple (aH.heap ⟨hp,g,d,tk,os⟩) l items:=hl
  wp_walk using hU hL
  refine wpAny_stack_any fun st=>aX ?_
  split
  ·rename_i c _ _ _ _ _
   cases (c == mB "enumerate")
   ·wp_walk using hU hL
    exact ⟨_,rfl,h⟩
   ·wp_walk using hU hL
    exact ⟨_,rfl,h⟩
  ·wp_walk using hU hL
   exact ⟨_,rfl,h⟩
variable {prog:cD}{w:cV}{A:fA}
section
variable {E:aE->aH->Prop}{s:aH}
theorem Le{l:Addr}{items:Array aE}{Q:aE->aH->Prop}(hL:s.heap.IsTuple l items)
  (h:∀ h',IsEnum h' (s.heap.objs.size+1) s.heap.objs.size 0 .none->h'.IsTupleIter s.heap.objs.size l 0->h'.objs.size=s.heap.objs.size+2 ->
   (∀ b o,s.heap.get? b=some o->h'.get? b=some o)->Q (.ref (s.heap.objs.size+1)) { s with heap:=h' }) :
  wpAny (model prog w) A (call (.type "enumerate") [.ref l]) Q E s:=by
 refine callType_new F.called_enumerate (by decide) (F.typeCall_enumerate_1 _) (F.newCall_enumerate_1 _) (fun obj=>F.args_object_init_2 obj _) F.entry_enumerate_new
  (Lg l items) ⟨hL,?_⟩
 have hz:(s.heap.push { cls:=.type "tuple_iterator",data:=.fields #[.ref l,.int 0 0] }).objs.size=s.heap.objs.size+1:=gR ..
 show _/\_
 rw[hz]
 have he:IsEnum ((s.heap.push { cls:=.type "tuple_iterator",data:=.fields #[.ref l,.int 0 0] }).push
   { cls:=.type "enumerate",data:=.fields #[.none,.bool false,.ref s.heap.objs.size,rawInt 0,.none,.none] }) (s.heap.objs.size+1) s.heap.objs.size 0 .none:=by
  have:=bI (s.heap.push { cls:=.type "tuple_iterator",data:=.fields #[.ref l,.int 0 0] })
   (o:={ cls:=.type "enumerate",data:=.fields #[.none,.bool false,.ref s.heap.objs.size,rawInt 0,.none,.none] }) rfl
  rw[hz] at this;exact this
 refine ⟨⟨_,he,rfl⟩,h _ he ⟨_,aI _ (bI _ rfl),rfl,rfl⟩ (by rw[gR,hz]) fun b o x=>aI _ (aI _ x)⟩
end
theorem Wk(hh:A.handled=none)(it l:Addr)(hne:l≠it)(items:Array aE) :
  Draws prog w A it [it,l] items.size (fun i v=>items[i]? = some v) (fun i h=>h.IsTupleIter it l i/\h.IsTuple l items) where
 live:=fun _ _ st=>let ⟨o,ho,_⟩:=st.1;⟨o,ho⟩
 frame:=fun _ _ _ st hk=>⟨st.1.at fun o e=>hk it (by simp) o e,st.2.at fun o e=>hk l (by simp) o e⟩
 item:=fun i s Q E hi st hQ=>by
  refine Ahg st.1 st.2 (v:=items[i]) (by simp[hi]) fun h' hit' hs'=>?_
  exact hQ _ h' s.toks (by simp[hi]) ⟨hit',st.2.extBut hs'.extBut hne⟩ hs'
 done:=fun s Q E st hE=>Yo hh st.1 st.2 (by simp) hE
section
variable {E:aE->aH->Prop}{s:aH}
theorem V1{e it l:Addr}{n:Nat}{i:Int}{items:Array aE}{old:aE}{Q:Option aE->aH->Prop}(hh:A.handled=none)
  (he:IsEnum s.heap e it i old) (hit:s.heap.IsTupleIter it l n) (hl:s.heap.IsTuple l items) (hn:items.size<=n)
  (hQ:∀ h',oK it s.heap h'->Q none { s with heap:=h' }):wpAny (model prog w) A (pyNext (.ref e)) Q E s:=by
 have hT:s.TypeIs (.ref e) "enumerate" := ⟨_,he,rfl⟩
 unfold pyNext
 refine aF (pH (gT (name:=iW "__next__") hT oE
  (iX oE hT F.entry_enumerate_next ?_ (F.args_enumerate_next_1 _))))
 show wpAny _ _ (field (.ref e) 2 >>= _) _ _ _
 refine aF (dQ he rfl (x:=.ref it) rfl ?_)
 refine aF (Yo (A:=rV A) hh hit hl (by simp;omega) fun h' x he' hx'=>?_)
 obtain ⟨o,ho,hc⟩:=hx'
 refine aF (wpAny_isInstance (T := "StopIteration") (b:=true) ⟨o,ho,hc⟩ isSubtype_stop ?_)
 exact aX (hQ _ he')
end
end ZT
namespace MR
open PySem PySem.Spec PyProof.Rows L2
def Aoy(K:aB)(a:Addr):It:=
 ⟨fun i H=>∃ xs x,SqT K H a xs/\xs[i]? = some x,fun i H x H'=>∃ p v,H p=none/\x = .ref p/\H'=upd H p (.tup [.int i,v])/\∀ xs,SqT K H a xs->xs[i]? = some v,fun i H=>∃ xs,SqT K H a xs/\xs.length<=i⟩
variable {K:aB}{pos:Pos}
theorem Y7{P:cD}{w:cV}{elts:List Expr}{x1}(a e it:Addr)(hne:e≠it):Turn P w K (.Tuple elts x1 pos) (Aoy K a) [e,it] e (fun i h=>(∃ old,IsEnum h e it i old)/\h.IsTupleIter it a i) where
 mem:=by simp
 obj:=fun i h st b hb=>by
  obtain ⟨⟨old,he⟩,o,ho,hc,hd⟩:=st
  rcases aV.mp hb with rfl | hb
  ·exact ⟨_,he,fun v z=>by simp at z⟩
  ·have:b=it:=by simpa using hb
   subst this
   exact ⟨o,ho,fun v z=>by rw[hd] at z;cases z⟩
 keep:=fun i h h' st k=>by
  obtain ⟨⟨old,he⟩,o,ho,hc,hd⟩:=st
  exact ⟨⟨old,k e (by simp) _ he⟩,o,k it (by simp) _ ho,hc,hd⟩
 item:=by
  intro X hP hw hK hc i pins s σ H E I hf st hg
  subst hP hw hK
  obtain ⟨⟨old,he⟩,hit⟩:=st
  obtain ⟨xs,v,sq,hx⟩:=hg
  obtain ⟨its,hv,pl,hz⟩:=I.tuple sq
  obtain ⟨u,hu,r⟩:=hv.get hx
  have hae:e≠a:=fun q=>by
   subst q
   obtain ⟨o,ho,hc,_⟩:=pl
   have:some o=some _:=ho.symm.trans he
   cases this
   simp at hc
  have hai:a≠it:=fun q=>by
   subst q
   obtain ⟨o,ho,hc,_⟩:=pl
   obtain ⟨o',ho',hc',_⟩:=hit
   have:some o=some o':=ho.symm.trans ho'
   cases this
   rw[hc] at hc';simp at hc'
  have hlt:i < its.toArray.size:=by
   have:=(aD.mp hu).1
   simpa using this
  refine wpAny_pyNext_enum_itemD (ZT.Wk (A:=rV _) (I.ok.hd hc) it a hai its.toArray) he ⟨hit,pl⟩ hlt hne (by simp[hne,hae]) fun x h' tk px o1 o2 o3 o4 o5=>?_
  have hxu:x=u:=by
   have:its[i]? = some x:=by simpa using px
   rw[hu] at this;cases this;rfl
  subst hxu
  refine ⟨_,rfl,?_⟩
  have hfr:H s.heap.objs.size=none:=I.hok.fresh (aJ _)
  have I1:L2.Inv X pins σ (upd H s.heap.objs.size (.tup [.int i,v])) { s with heap:=h',toks:=tk+1 }:=
   Inv.turnNew (ch:=[e,it]) I hf (fun b o hb q=>o5 b o (fun z=>hb (by simp[z])) (fun z=>hb (by simp[z])) q) (aJ _)
    (show ObjOk X.prog X.w _ h' _ (.tup [.int i,v]) from ⟨by show 2<=sizeLine;decide,[.int i tk,x],.cons ⟨_,rfl⟩ (.cons r .nil),⟨_,o3,rfl,_,rfl⟩⟩)
  refine mJ o1 fun h2 e2 sb2=>?_
  have hne2:∀ b∈[e,it],b≠s.heap.objs.size:=fun b hb z=>by
   rcases aV.mp hb with q | q
   ·have:=aO he;rw[<- q,z] at this;exact dA _ this
   ·have q:b=it:=by simpa using q
    obtain ⟨o,ho,_⟩:=hit
    have:=aO ho;rw[<- q,z] at this;exact dA _ this
  have hnone:∀ b∈[e,it],(upd H s.heap.objs.size (.tup [.int i,v])) b=none:=fun b hb=>by rw[Bv (hne2 b hb)];exact (hf b hb).1
  obtain ⟨f0,f1,f2,f3,f4,f5⟩:=hf e (by simp)
  have I2:=I1.turned (t':=tk+1) (h':=h2) (it:=e) (fun b o hb q=>sb2.2 b hb |>.trans q) (hnone e (by simp)) f1 f3 f4 f5
  obtain ⟨oi,hoi,hci,hdi⟩:=o2.1
  refine ⟨.ref s.heap.objs.size,_,I2,rfl,⟨_,v,hfr,rfl,rfl,fun ys sq'=>?_⟩,⟨⟨_,e2⟩,oi,(sb2.2 it (eG hne)).trans hoi,hci,hdi⟩,hnone⟩
  rw[I.tuple_inj sq' sq];exact hx
 done:=by
  intro X hP hw hK hc i pins s σ H E I hf st hg
  subst hP hw hK
  obtain ⟨⟨old,he⟩,hit⟩:=st
  obtain ⟨xs,sq,hx⟩:=hg
  obtain ⟨its,hv,pl,hz⟩:=I.tuple sq
  obtain ⟨f0,f1,f2,f3,f4,f5⟩:=hf it (by simp)
  have hlen:=hv.length
  exact ZT.V1 (I.ok.hd hc) he hit pl (by simp;omega) fun h' eb=>⟨rfl,I.turned (t':=s.toks) (fun b o hb q=>eb b o hb q) f0 f1 f3 f4 f5⟩
 self:=fun _ _ _ _ _ st h=>by obtain ⟨⟨old,he⟩,_⟩:=st;exact kA he h
variable {X:Cx}
section
variable {elts:List Expr}{x1:Nat}{tpos:Pos}
def Apq(K:aB)(ta:TA):TI:=fun σ H R=>ta σ H fun vs H1=>∃ a xs,vs=[.ref a]/\SqT K H1 a xs/\R (Aoy K a) H1
theorem Af1{a:Expr}{ta:TA}{p:Pos}(hg:Gl X "enumerate")(hm:X.mg "enumerate" = none)(ha:PA X [a] ta)(hs:aN [a] X.env=[(false,eval a X.env)]:=by rfl):PI X (.Tuple elts x1 tpos) (.Call (.Name "enumerate" p) [a] [] pos) (Apq X.K ta):=by
 intro pins s σ H R I h
 refine Call_ (Nv I hg hm Tx (eR (thn (ha pos pins s σ H _ I h) fun us s1 ⟨vs,H1,I1,r1,q1⟩=>?_) hs rfl))
 obtain ⟨l,xs,rfl,sq,q⟩:=q1
 obtain ⟨u,rfl,ru⟩:=Ku r1
 cases ru
 obtain ⟨its,hv,pl,hz⟩:=I1.tuple sq
 refine ZT.Le pl fun h' o1 o2 o3 o4=>?_
 have I2:L2.Inv X pins σ H1 { s1 with heap:=h' }:=I1.kept (t':=s1.toks) o4
 refine kA o1 ⟨_,_,_,_,H1,rfl,I2,Y7 l (s1.heap.objs.size+1) s1.heap.objs.size (cP (dW _)),⟨⟨_,o1⟩,o2⟩,fun b hb=>?_,q⟩
 have hb':s1.heap.objs.size<=b:=by
  simp only[aV,eP,or_false] at hb
  rcases hb with rfl | rfl
  ·exact gE _
  ·exact aJ _
 exact L2.Inv.fpOk I1 hb' (I1.hok.fresh hb')
def T8(us:List U):List U:=us.mapIdx fun i u=>.tup [.int i,u]
def Ip(g:FA):FI:=fun δ L=>(g δ L).bind fun p=>match p.1 with
 | [.ref n]=>(Az p.2 n).map fun _=>(.enm n,p.2)
 | [.tup us]=>some (.seq (T8 us),p.2)
 | _=>none
theorem Ahk{H:Hp}{α:List Addr}{a:Addr}{us:List U}{xs:List V}(sq:SqT K H a xs)(r:RepL K H α us xs):Og K (Aoy K a) (.seq (T8 us)) H α:=by
 intro H2 α2 L2 g A2 k
 have m:=(show RepU K H α (.tup us) (.ref a) by unfold RepU;exact ⟨a,xs,rfl,sq,r⟩).mono g
 unfold RepU at m
 obtain ⟨c',xs,e,sq2,r2⟩:=m
 cases e
 refine ⟨fun u eu=>?_,fun eu=>?_⟩
 ·have eu:(T8 us)[k]? = some u:=by simpa[IU.at] using eu
  unfold T8 at eu
  rw[kZ] at eu
  obtain ⟨w,hw,eu⟩:=mpd eu
  subst eu
  obtain ⟨x,hx,rx⟩:=r2.get hw
  refine ⟨⟨xs,x,sq2,hx⟩,?_⟩
  rintro y H3 ⟨p,v,hp,rfl,rfl,hy⟩
  have:=hy xs sq2
  rw[hx] at this;cases this
  exact A2.tup (.cons rfl (.cons rx .nil)) hp
 ·have eu:(T8 us)[k]? = none:=by simpa[IU.at] using eu
  unfold T8 at eu
  rw[kZ] at eu
  have:us[k]? = none:=by simpa using eu
  exact ⟨xs,sq2,by rw[<- r2.length];exact cO.mp this⟩
theorem Pn{a:Expr}{g:FA}{p:Pos}(hg:Gl X "enumerate")(hm:X.mg "enumerate" = none)(ha:PAF X [a] g)(hs:aN [a] X.env=[(false,eval a X.env)]:=by rfl):PIF X (.Tuple elts x1 tpos) (.Call (.Name "enumerate" p) [a] [] pos) (Ip g):=by
 refine PI.imp (PI.or (Ab5 hg hm ha hs) (Af1 hg hm ha hs)) ?_
 rintro σ H R ⟨α,δ,L,A,S,i,L3,e,q⟩
 obtain ⟨us,L1,e1,e⟩:=B9 e
 simp only at e
 split at e
 ·obtain ⟨l,hl,e⟩:=mpd e
  cases e
  refine .inl ⟨α,δ,L,A,S,_,_,e1,fun xs H1 α1 g1 A1 r1=>?_⟩
  obtain ⟨x,rfl,rx⟩:=r1.one
  obtain ⟨a',ys,rfl,sq,r2⟩:=Hy A1 hl rx
  obtain ⟨a2,ea,ha2⟩:=rx.ref_of A1
  cases ha2
  exact ⟨a',ys,rfl,sq,q _ H1 α1 g1 A1 (Ab7 (fun _ _ _ _ _=>trivial) ea)⟩
 ·cases e
  refine .inr ⟨α,δ,L,A,S,_,_,e1,fun xs H1 α1 g1 A1 r1=>?_⟩
  obtain ⟨x,rfl,rx⟩:=r1.one
  unfold RepU at rx
  obtain ⟨a',ys,rfl,sq,r2⟩:=rx
  exact ⟨a',ys,rfl,sq,q _ H1 α1 g1 A1 (Ahk sq r2)⟩
 ·cases e
end
structure CompScC(X:Cx)(scope:mU)(N':List Str)(ix:List (Option Nat)):Prop where
 kind:scope.kind = .function
 own:(scope.names.all fun y=>scope.names.lookup y.1 == some y.2)=true
 free:(scope.names.all fun y=>y.2 != .free || (X.env.kindOf y.1 == some .cell || X.env.kindOf y.1 == some .free))=true
 ixs:((N'.zip ix).all fun p=>match p.2 with | none=>true | some i=>(X.N[i]? == some p.1)&&(scope.names.lookup p.1 == some .free))=true
 len:N'.length=ix.length
section
variable {scope:mU}{N':List Str}{ix:List (Option Nat)}{pins:List (Addr×Obj)}{σ:L2.St}{H2:Hp}{s2:aH}{cl:List (Str×Addr)}{fp:List Addr}
theorem CompScC.lk(S:CompScC X scope N' ix){x:Str}{k:jV}(h:(x,k)∈scope.names):scope.names.lookup x=some k:=by
 have:=bW.mp S.own _ h
 simpa using this
theorem CompScC.names(S:CompScC X scope N' ix):∀ x∈scope.names,x.2 = .local->scope.names.lookup x.1=some .local:=fun x hx hl=>by
 have:=S.lk (x:=x.1) (k:=x.2) hx
 rw[hl] at this
 exact this
theorem CompScC.clos(S:CompScC X scope N' ix)(ok:X.Ok):∃ cl,closureFor scope X.env=pure cl/\(∀ x c,cl.lookup x=some c->X.env.cells.lookup x=some c)/\∀ y∈scope.names,y.2 = .free->∃ c,cl.lookup y.1=some c:=by
 refine Mr fun y hy hf=>?_
 have:=bW.mp S.free y hy
 rw[hf] at this
 simp at this
 exact ok.has y.1 this
end
variable {tg:Expr}
section
variable {scope:mU}{N':List Str}{ix:List (Option Nat)}{elt iter c:Expr}{fi:FI}{g:FG}{ft:FT}{fe:FE}
end
def Its(x:Str):It:=⟨fun i _=>i < x.cps.size,fun i H v H'=>H'=H/\∃ c,x.cps[i]? = some c/\v = .str ⟨#[c]⟩,fun i _=>x.cps.size<=i⟩
theorem Afo{P:cD}{w:cV}(x:Str)(t:Tok)(it:Addr):Turn P w K tg (Its x) [it] it (fun i h=>h.IsStrIter it "str_ascii_iterator" x t i) where
 mem:=by simp
 obj:=fun i h st b hb=>by
  have e:b=it:=by simpa using hb
  subst e
  obtain ⟨o,e,c,d⟩:=st
  exact ⟨o,e,fun v z=>by rw[d] at z;cases z⟩
 keep:=fun i h h' st k=>by
  obtain ⟨o,e,r⟩:=st
  exact ⟨o,k it (by simp) o e,r⟩
 item:=by
  intro X hP hw hK hc i pins s σ H E I hf st hg
  subst hP hw hK
  obtain ⟨f0,f1,f2,f3,f4,f5⟩:=hf it (by simp)
  have hg:i < x.cps.size:=hg
  have hx:x.cps[i]? = some (x.cps[i]'hg):=mR hg
  refine wpAny_pyNext_ascii_item st hx fun h' st' sb=>?_
  have I1:Inv X pins σ H { s with heap:=h',toks:=s.toks+1 }:=I.turned (t':=s.toks+1) (fun b o hb e=>(sb.2 b hb).trans e) f0 f1 f3 f4 f5
  obtain ⟨o,e,c,d⟩:=id st'
  exact ⟨_,rfl,Abg (s:={ s with heap:=h',toks:=s.toks+1 }) e c d (by decide) ⟨.str ⟨#[x.cps[i]'hg]⟩,H,I1,⟨_,rfl⟩,⟨rfl,_,hx,rfl⟩,st',fun b hb=>(hf b hb).1⟩⟩
 done:=by
  intro X hP hw hK hc i pins s σ H E I hf st hg
  subst hP hw hK
  obtain ⟨f0,f1,f2,f3,f4,f5⟩:=hf it (by simp)
  have hx:x.cps[i]? = none:=Array.getElem?_eq_none hg
  exact wpAny_pyNext_ascii_end (I.ok.hd hc) st hx fun h' eb=>⟨rfl,I.turned (t':=s.toks) (fun b o hb e=>eb b o hb e) f0 f1 f3 f4 f5⟩
 self:=fun _ _ _ _ _ st h=>wpAny_pyIter_striter_ascii st h
def Avh(tl:TE):TI:=fun σ H R=>tl σ H fun v H1=>∃ x:Str,v = .str x/\x.cps.all (· < 128)=true/\R (Its x) H1
section
theorem Ape{l:Expr}{tl:TE}(hl:PE X l tl):PI X tg l (Avh tl):=by
 intro pins s σ H R I h
 refine thn (hl pins s σ H _ I h) fun v s1 ⟨x,H1,I1,r1,q1⟩=>?_
 obtain ⟨x,rfl,ha,q⟩:=q1
 obtain ⟨t,rfl⟩:=r1
 refine wpAny_pyIter_ascii ha ?_
 refine ⟨s1.heap.objs.size,[s1.heap.objs.size],_,_,H1,rfl,I1.kept (t':=s1.toks) fun b o e=>aI _ e,Afo x t _,⟨_,bI _ rfl,rfl,rfl⟩,fun b hb=>?_,q⟩
 have e:b=s1.heap.objs.size:=by simpa using hb
 subst e
 exact I1.fpOk (aJ _) (I1.hok.fresh (aJ _))
def Aaq(x:Str):List U:=x.cps.toList.map fun c=>.str ⟨#[c]⟩
def J7(f:FE):FI:=fun δ L=>(f δ L).bind fun p=>match p.1 with
 | .str x=>if x.cps.all (· < 128)=true then some (.seq (Aaq x),p.2) else none
 | _=>none
theorem Ai4{H:Hp}{α:List Addr}(x:Str):Og K (Its x) (.seq (Aaq x)) H α:=by
 intro H2 α2 L2 g A2 k
 refine ⟨fun u eu=>?_,fun eu=>?_⟩
 ·have eu:(Aaq x)[k]? = some u:=by simpa[IU.at] using eu
  unfold Aaq at eu
  rw[bO] at eu
  obtain ⟨c,hc,eu⟩:=mpd eu
  subst eu
  have hc':x.cps[k]? = some c:=by simpa using hc
  have hk:k < x.cps.size:=by
   have:=(aD.mp hc).1
   simpa using this
  refine ⟨hk,?_⟩
  rintro y H3 ⟨rfl,c',hc2,rfl⟩
  rw[hc'] at hc2;cases hc2
  exact ⟨.refl _ _,A2,rfl⟩
 ·have eu:(Aaq x)[k]? = none:=by simpa[IU.at] using eu
  unfold Aaq at eu
  have:x.cps.toList.length<=k:=by simpa using eu
  show x.cps.size<=k
  simpa using this
theorem V9{l:Expr}{f:FE}(hl:PEF X l f):PIF X tg l (J7 f):=by
 refine PI.imp (Ape hl) ?_
 rintro σ H R ⟨α,δ,L,A,S,i,L3,e,q⟩
 obtain ⟨u,L1,e1,e⟩:=B9 e
 simp only at e
 split at e
 ·split at e
  ·rename_i ha
   cases e
   refine ⟨α,δ,L,A,S,_,_,e1,fun x H1 α1 g1 A1 r1=>?_⟩
   unfold RepU at r1
   subst r1
   exact ⟨_,rfl,ha,q _ H1 α1 g1 A1 (Ai4 _)⟩
  ·cases e
 ·cases e
end
end MR
namespace ZT
open PySem PySem.Spec PyProof.Rows
open Sem (wp)
section
variable {prog:cD}{w:cV}{A:fA}{s:aH}{R:Result->aH->Prop}
variable {I:Addr}{fp wr:List Addr}{G:Array mC->Array mC->Prop}{n:Nat}{P:Nat->aE->Prop}{St:Nat->aH->Prop}
end
section
variable {prog:cD}{w:cV}{A:fA}{E:aE->aH->Prop}{s:aH}
variable {I:Addr}{fp wr:List Addr}{G:Array mC->Array mC->Prop}{n:Nat}{P:Nat->aE->Prop}{St:Nat->aH->Prop}
end
end ZT
namespace MR
open PySem PySem.Spec PyProof.Rows PySem.Calls L2
section
variable {X:Cx}
end
end MR
namespace ZT
open PySem PySem.Spec PyProof.Rows HT
section
variable {prog:cD}{w:cV}{A:fA}{E:aE->aH->Prop}{s:aH}
end
end ZT
namespace MR
open PySem PySem.Spec PyProof.Rows PySem.Calls L2
section
variable {X:Cx}{tg:Expr}
end
section
variable {X:Cx}
end
def Aj2:S2:=fun u w L=>match u,w with
 | .tup [],.tup b=>some (.tup b,L)
 | u,w=>Ar u w L
@[simp] theorem Am0(i j:Int)(L:UH):Aj2 (.int i) (.int j) L=some (.int (i+j),L):=rfl
end MR
namespace MR
open PySem PyProof.Rows L2
section
variable {X:Cx}
def Aoq:V->Option Int->Option Int->Hp->VK->Prop:=fun x lo hi H Q=>∃ a,x = .str a/\a.length<=sizeLine/\Q (.str (dF a lo hi)) H
theorem Ana:SlR X Aoq:=by
 intro pins s σ H x v vl vu lo hi sl Q I rx hs pl pu h
 obtain ⟨a,rfl,hl,q⟩:=h
 obtain ⟨t,rfl⟩:=rx
 refine ⟨"str",_,F.slot_str_getitem.lookup,iQ _ _ _,?_⟩
 refine wtk I.tk ?_
 have fin:∀ (t':Tok) (k:Nat),0 < k->EP X pins σ Q (.str (dF a lo hi) t') { s with toks:=k }:=fun t' k ht=>⟨.str (dF a lo hi),H,I.tok k ht,⟨_,rfl⟩,q⟩
 have hz:(dF a lo hi).length<=sizeLine:=bJ (sK a _ _) hl
 cases pl with
 | none=>
  cases pu with
  | none=>exact gU (l:=none) (u:=none) (st:=none) hs rfl (lN ⟨hz,fin⟩)
  | int j tj=>exact gU (l:=none) (u:=some (j,tj)) (st:=none) hs rfl (lN ⟨hz,fin⟩)
 | int i ti=>
  cases pu with
  | none=>exact gU (l:=some (i,ti)) (u:=none) (st:=none) hs rfl (lN ⟨hz,fin⟩)
  | int j tj=>exact gU (l:=some (i,ti)) (u:=some (j,tj)) (st:=none) hs rfl (lN ⟨hz,fin⟩)
def Amb:V->List V->Hp->VK->Prop:=fun x vs H Q=>∃ (a:Str) (l:Addr) (ys:List Str),x = .str a/\vs=[.ref l]/\H l=some (.lst (ys.map V.str))/\a.length<=16/\(ys.map (·.length)).sum+ys.length<=1048576/\Q (.str (rW a ys)) H
theorem Rt:∀ {its:List aE} {ys:List Str},Vals (ys.map V.str) its->StrsAre its ys
 | its,[],r=>by rw[eU] at r;cases r;exact .nil
 | its,y::ys,r=>by
  rw[aS] at r
  cases r with
  | cons r1 r2=>
   obtain ⟨t',rfl⟩:=r1
   exact .cons _ _ (Rt r2)
theorem Vo:MtR X "str.join" Amb:=by
 intro pins s σ H x vs v us Q I rx rv h
 obtain ⟨a,l,ys,rfl,rfl,hH,ha,hw,q⟩:=h
 obtain ⟨t,rfl⟩:=rx
 obtain ⟨u,rfl,ru⟩:=rv.one
 cases ru
 obtain ⟨z,its,n,r,hl,e⟩:=I.lstM hH
 exact wtk I.tk (join_listW ⟨_,e,rfl,_,rfl⟩ (by simpa using Rt r) ha hw fun t' k ht=>⟨.str (rW a ys),H,I.tok k ht,⟨_,rfl⟩,q⟩)
end
def Dv:SS:=fun u lo hi L=>match u with
 | .str x=>if Ew x.length=true then some (.str (dF x lo hi),L) else none
 | u=>semSl u lo hi L
theorem Kd{X:Cx}:SlR X (fun x lo hi H Q=>Ajs X.K x lo hi H Q\/Aoq x lo hi H Q):=Vs.or Ana
variable {K:aB}
theorem Ki:Agn K (fun x lo hi H Q=>Ajs K x lo hi H Q\/Aoq x lo hi H Q) Dv:=by
 intro H α L u x lo hi z L' Q A ru e q
 cases u with
 | str a=>
  unfold Dv at e
  simp only at e
  split at e
  ·rename_i hs
   cases e
   unfold RepU at ru
   subst ru
   exact .inr ⟨a,rfl,De hs,q _ H α (.refl _ _) A rfl⟩
  ·cases e
 | tup l=>exact .inl (Rx H α L (.tup l) x lo hi z L' Q A ru e q)
 | ref n=>exact .inl (Rx H α L (.ref n) x lo hi z L' Q A ru e q)
 | _=>cases e
def toS:U->Option Str
 | .str a=>some a
 | _=>none
theorem Acu{H:Hp}{α:List Addr}:∀ {us:List U} {xs:List V} {ys:List Str},RepL K H α us xs->mapO toS us=some ys->xs=ys.map V.str
 | [],xs,ys,r,e=>by
  unfold RepL at r
  cases e
  exact r
 | u::us,xs,ys,r,e=>by
  unfold RepL at r
  obtain ⟨x,xr,rfl,rx,r⟩:=r
  unfold mapO at e
  obtain ⟨y,hy,e⟩:=bnd e
  obtain ⟨yr,hyr,e⟩:=mpd e
  cases e
  cases u with
  | str a=>
   cases hy
   unfold RepU at rx
   rw[rx,Acu r hyr];rfl
  | _=>cases hy
def semJoin:SM:=fun u us L=>match u,us with
 | .str a,[.ref n]=>(lstAt L n).bind fun l=>(mapO toS l).bind fun ys=>if a.length<=16/\(ys.map (·.length)).sum+ys.length<=1048576 then some (.str (rW a ys),L) else none
 | _,_=>none
theorem Rz:V8 K Amb semJoin:=by
 intro H α L u us x xs z L' Q A ru r e q
 unfold semJoin at e
 split at e
 ·obtain ⟨l,hl,e⟩:=bnd e
  obtain ⟨ys,hys,e⟩:=bnd e
  split at e
  ·rename_i hc
   cases e
   unfold RepU at ru
   subst ru
   obtain ⟨v,rfl,rv⟩:=r.one
   obtain ⟨a',zs,rfl,ea,h,r2⟩:=N7 A hl rv
   rw[Acu r2 hys] at h
   exact ⟨_,a',ys,rfl,rfl,h,hc.1,hc.2,q _ H α (.refl _ _) A rfl⟩
  ·cases e
 ·cases e
end MR
namespace MR
open PySem PySem.W PyProof.Rows L2
theorem Ri:∀ (ns:List Int) (n:Int),n∈ns->jB n<=lP (ns.map nM)
 | [],_,h=>by cases h
 | m::ns,n,h=>by
  have e:lP ((m::ns).map nM)=jB m+1+lP (ns.map nM):=by
   rw[aS,lP,sL];rfl
  rw[e]
  rcases aV.mp h with rfl | h
  ·omega
  ·have:=Ri ns n h;omega
theorem Tp{ns:List Int}(h:qY [sZ (ns.map nM)]=true):∀ n∈ns,jB n<=2 ^ 20:=by
 intro n hn
 unfold qY at h
 rw[pD,bG] at h
 have h1:=h.1
 unfold WData.layable at h1
 rw[bG] at h1
 have h2:=of_decide_eq_true h1.2
 rw[sL] at h2
 exact bJ (Ri ns n hn) h2
end MR
namespace Att
open PySem PySem.W PySem.Calls PyProof.Rows L2 MR
theorem Apv{l:lZ}{k:Nat}{q:cD}{loose:List Str}{XP:(Str->Option aE)->Heap->Prop}{β:Type}{Yf:aH->β}{Ya:cV->β}{d:DefRec}{K:oJ->aB}{sp:aB->Sp}{x:Str}
  (hn:l.most=some 63) (hdf:d.params.defaults=[]) (hr:Room k callerA) (hY:∀ (w:cV) (s:aH),Yf s=Ya w->(K w.params).In s.heap/\gZ s.heap/\0 < s.toks)
  (F:∀ (w:cV) (mg:Str->Option aE) (fa:Addr) (h:Heap),(K w.params).In h->h.Ns bB mg->mg d.name=some (.ref fa) ->
   ∃ fd:dN,(∀ (s:aH) (u:aE),kT s fd ⟨[u],[]⟩ [(x,u)])/\∀ base:Heap,(K w.params).In base->base.Ns bB mg->FnOk l.prog w (K w.params) mg base CX0 k fa fd [x] (sp (K w.params)))
  (ht:∀ (K:aB) (H:Hp) (a:Addr) (ns:List Int),ns.length<=63->(∀ n∈ns,jB n<=2 ^ 20)->Akp H->SqL K H a (ns.map V.int)->sp K [.ref a] H (fun v _=>v = .bl true) fun _ _ _=>False) :
  sD q loose XP Yf Ya l.row.toRowW d [] (fun f vs=>tE f vs):=by
 intro w s₀ s₁ mg mb G Y fa o pm cd doc dV kV ho hd hcd hD hmg hg args vals as hL hpre hlay hrd hwl hlo
 obtain rfl:dV = .none:=Dflts.none hD hdf
 obtain rfl:kV = .none:=Dflts.noKw hD
 obtain ⟨a,vs,ns,rfl,rfl,hobj,hints,hlen⟩:=Ae3 hn hpre hwl
 obtain ⟨K0,⟨mc,n1,n2⟩,t0⟩:=hY w s₀ Y
 have KX:=K0.keeps hL.keeps
 obtain ⟨fd,hb,hF⟩:=F w mg fa _ KX G.T.g hmg
 have hwt:=Tp hlay
 obtain ⟨ord,_,hlaid⟩:=hL.laid
 have hgr:=PySem.W.Grows.toks (PySem.W.layAllW_grows _ _ _ hlaid)
 have all:=Ag0 KX G.T.g G.T.b G.T.builtins G.T.nolimit ⟨mc,n1.keeps hL.keeps,n2⟩ hg (aG t0 hgr) hobj hints (bJ hlen (by decide)) hr hF hb (fun H hO hS=>ht (K w.params) H a ns hlen hwt hO hS) fun H e s' z=>z
 refine enter_call (lV all fun r s' hq=>?_)
 obtain ⟨rfl,h2,h3,h4⟩:=hq
 exact ⟨.inl ⟨.bool true,.bool true,[],rfl,fun _=>rfl,.bool true,Aec l _,fun _=>⟨List.Pairwise.nil,fun _ hm=>(nomatch hm)⟩⟩,h2,h3,h4⟩
end Att
namespace MR
open PySem PyProof.Rows L2
def g0(us ws:List aE):List aE:=match us with | []=>ws | _=>[]
section
variable {X:Cx}{k:Nat}{f:Addr}{fd:dN}{p:Str}{ps:List Str}{x:Str}{pp pos kpos:Pos}{e:Expr}{kws:List fK}{nm:Option Str}
theorem PK.imp{t t':TA}(h:PK X kws t)(hi:∀ σ H Q,t' σ H Q->t σ H Q):PK X kws t':=fun pos pins s σ H Q I q=>h pos pins s σ H Q I (hi σ H Q q)
end
end MR
namespace MR
open PySem PySem.Spec PyProof.Rows PySem.Calls L2
section
variable {X:Cx}
end
section
variable {X:Cx}
end
end MR
namespace MR
open PySem PyProof.Rows L2
variable {K:aB}{H:Hp}{α:List Addr}
theorem RepL.init:∀ {us:List U} {xs:List V},RepL K H α us xs->RepL K H α us.dropLast xs.dropLast
 | [],xs,r=>by unfold RepL at r;subst r;exact .nil
 | [u],xs,r=>by
  unfold RepL at r
  obtain ⟨x,xr,rfl,rx,r⟩:=r
  unfold RepL at r
  subst r
  exact .nil
 | u::w::us,xs,r=>by
  unfold RepL at r
  obtain ⟨x,xr,rfl,rx,r⟩:=r
  have r':=r
  unfold RepL at r'
  obtain ⟨y,yr,rfl,ry,_⟩:=r'
  exact .cons rx (RepL.init r)
def toK:U->Option Key
 | .int i=>some (.inl i)
 | .str x=>some (.inr x)
 | _=>none
variable {u:U}{x:V}{k:Key}
theorem Agr(r:RepU K H α u x)(h:toK u=some k):x=kV k:=by
 cases u <;> simp only[toK] at h <;> first | (cases h;unfold RepU at r;exact r) | cases h
def Ml(kvs:List (Key×U))(k:Key):Option U:=(kvs.find? fun kv=>decide (kv.1=k)).map (·.2)
def Ahj(kvs:List (Key×U))(k:Key)(v:U):List (Key×U):=
 if (kvs.any fun kv=>decide (kv.1=k))=true then kvs.map (fun kv=>if kv.1=k then (kv.1,v) else kv) else kvs++[(k,v)]
variable {kvs:List (Key×U)}{vs:List (Key×V)}
section
def RepKV(K:aB)(H:Hp)(α:List Addr)(kvs:List (Key×U))(vs:List (Key×V)):Prop:=kvs.map (·.1)=vs.map (·.1)/\RepL K H α (kvs.map (·.2)) (vs.map (·.2))
theorem RepKV.nil:RepKV K H α [] []:=⟨rfl,.nil⟩
theorem RepKV.cons{kv:Key×U}(h:RepKV K H α (kv::kvs) vs):∃ x vs',vs=(kv.1,x)::vs'/\RepU K H α kv.2 x/\RepKV K H α kvs vs':=by
 obtain ⟨h1,h2⟩:=h
 cases vs with
 | nil=>simp at h1
 | cons w vs'=>
  simp only[aS,lK] at h1
  rw[aS,aS] at h2
  unfold RepL at h2
  obtain ⟨x,xr,hx,rx,r⟩:=h2
  injection hx with e1 e2
  subst e1
  refine ⟨w.2,vs',by rw[h1.1],rx,h1.2,?_⟩
  rw[e2];exact r
theorem RepKV.mk(r:RepU K H α u x)(h:RepKV K H α kvs vs):RepKV K H α ((k,u)::kvs) ((k,x)::vs):=
 ⟨by simp[h.1],by rw[aS,aS];exact .cons r h.2⟩
theorem RepKV.val:∀ {kvs:List (Key×U)} {vs:List (Key×V)},RepKV K H α kvs vs->Ml kvs k=some u->∃ x,Ni vs k=some x/\RepU K H α u x
 | [],vs,_,e=>by simp[Ml] at e
 | kv::kvs,vs,r,e=>by
  obtain ⟨x,vs',rfl,rx,r'⟩:=r.cons
  unfold Ml at e
  unfold Ni
  rw[eI] at e ⊢
  by_cases h:kv.1=k
  ·simp only[h,decide_true,aC] at e ⊢
   cases e
   exact ⟨x,rfl,rx⟩
  ·simp only[h,decide_false] at e ⊢
   exact RepKV.val r' e
theorem RepKV.any:∀ {kvs:List (Key×U)} {vs:List (Key×V)},RepKV K H α kvs vs->(kvs.any fun kv=>decide (kv.1=k))=(vs.any fun kv=>decide (kv.1=k))
 | [],vs,r=>by
  obtain ⟨h1,_⟩:=r
  cases vs with
  | nil=>rfl
  | cons _ _=>simp at h1
 | kv::kvs,vs,r=>by
  obtain ⟨x,vs',rfl,rx,r'⟩:=r.cons
  rw[fO,fO,RepKV.any r']
theorem RepKV.len(r:RepKV K H α kvs vs):kvs.length=vs.length:=by
 have:=congrArg mY r.1
 simpa using this
theorem RepKV.upd(ru:RepU K H α u x):∀ {kvs:List (Key×U)} {vs:List (Key×V)},RepKV K H α kvs vs->RepKV K H α (kvs.map fun kv=>if kv.1=k then (kv.1,u) else kv) (vs.map fun kv=>if kv.1=k then (kv.1,x) else kv)
 | [],vs,r=>by
  obtain ⟨h1,_⟩:=r
  cases vs with
  | nil=>exact .nil
  | cons _ _=>simp at h1
 | kv::kvs,vs,r=>by
  obtain ⟨y,vs',rfl,ry,r'⟩:=r.cons
  rw[aS,aS]
  by_cases h:kv.1=k
  ·rw[if_pos h,if_pos h]
   exact .mk ru (RepKV.upd ru r')
  ·rw[if_neg h,if_neg h]
   exact .mk ry (RepKV.upd ru r')
theorem RepKV.add(ru:RepU K H α u x):∀ {kvs:List (Key×U)} {vs:List (Key×V)},RepKV K H α kvs vs->RepKV K H α (kvs++[(k,u)]) (vs++[(k,x)])
 | [],vs,r=>by
  obtain ⟨h1,_⟩:=r
  cases vs with
  | nil=>exact .mk ru .nil
  | cons _ _=>simp at h1
 | kv::kvs,vs,r=>by
  obtain ⟨y,vs',rfl,ry,r'⟩:=r.cons
  exact .mk ry (RepKV.add ru r')
theorem RepKV.put(ru:RepU K H α u x)(r:RepKV K H α kvs vs):RepKV K H α (Ahj kvs k u) (O1 vs k x):=by
 unfold Ahj O1
 rw[r.any]
 split
 ·exact r.upd ru
 ·exact r.add ru
theorem RepKV.mono{H':Hp}{α':List Addr}(r:RepKV K H α kvs vs)(g:Gr H α H' α'):RepKV K H' α' kvs vs:=⟨r.1,r.2.mono g⟩
end
def Mq(L:UH)(n:Nat):Option (List (Key×U)):=match L[n]? with
 | some (.dic kvs)=>some kvs
 | _=>none
variable {L:UH}{n:Nat}
theorem Rg(h:Mq L n=some kvs):L[n]? = some (.dic kvs):=by
 unfold Mq at h
 split at h
 ·rename_i e;cases h;exact e
 ·cases h
theorem Acq(A:Abs K H α L)(h:Mq L n=some kvs)(r:RepU K H α (.ref n) x):∃ a vs,x = .ref a/\α[n]? = some a/\H a=some (.dK vs)/\RepKV K H α kvs vs:=by
 unfold RepU at r
 obtain ⟨a,ea,rfl⟩:=r
 obtain ⟨vs,e,k1,k2⟩:=A.rep n a _ ea (Rg h)
 exact ⟨a,vs,rfl,ea,e,k1,k2⟩
theorem Abs.setD{a:Addr}{ws:List (Key×V)}{kws:List (Key×U)}(A:Abs K H α L)(h:Mq L n=some kvs)(ea:α[n]? = some a)(e:H a=some (.dK vs))(r:RepKV K H α kws ws) :
  Gr H α (upd H a (.dK ws)) α/\Abs K (upd H a (.dK ws)) α (L.set n (.dic kws)):=by
 have g:Gr H α (upd H a (.dK ws)) α:=⟨⟨[],by simp⟩,.write e (by exact trivial) _⟩
 obtain ⟨A',_⟩:=A.put (o:=.dK ws) (u:=.dic kws) ea (Rg h) rfl rfl e (by exact trivial) ⟨ws,upd_same,(r.mono g).1,(r.mono g).2⟩
 exact ⟨g,A'⟩
section
variable {X:Cx}{o i value:Expr}{pos pos':Pos}{fo fi fv:FE}
def Wi:FE:=fun _ L=>some (.ref L.length,L++[.dic []])
theorem Acv:PEF X (.Dict [] [] pos) Wi:=by
 refine PE.imp Agb ?_
 rintro σ H Q ⟨α,δ,L,A,S,z,L3,e,q⟩
 cases e
 intro p hp
 have g:Gr H α (upd H p (.dK [])) (α ++ [p]):=⟨⟨[p],rfl⟩,.new hp _⟩
 obtain ⟨A',_⟩:=A.new (o:=.dK []) (u:=.dic []) hp ⟨[],upd_same,rfl,.nil⟩
 refine q _ _ _ g A' ?_
 unfold RepU
 exact ⟨p,by rw[<- A.len];simp,rfl⟩
def Ye(fo fi fv:FE):FS:=fun δ L=>(fv δ L).bind fun p=>(fo δ p.2).bind fun q=>(fi δ q.2).bind fun r=>match q.1 with
 | .ref n=>(toK r.1).bind fun k=>(Mq r.2 n).bind fun kvs=>if kvs.length < 1000000 then some (.nx δ,r.2.set n (.dic (Ahj kvs k p.1))) else none
 | _=>none
theorem X0(hu:X.A.units+64 < cLine)(ho:PEF X o fo)(hi:PEF X i fi)(hv:PEF X value fv)(hs:swapsWith value (some (.Subscript o i pos')) pos.line X.env=pure false:=by rfl):PSF X (.Assign [.Subscript o i pos'] value pos) (Ye fo fi fv):=by
 refine PS.imp (Ai0 (by omega) ho hi hv hs) ?_
 rintro D σ H ⟨α,δ,L,A,S,fl,L',e,q⟩
 obtain ⟨v,L1,e1,e⟩:=B9 e
 obtain ⟨u,L2,e2,e⟩:=B9 e
 obtain ⟨w,L3,e3,e⟩:=B9 e
 refine ⟨α,δ,L,A,S,v,L1,e1,fun xv H1 α1 g1 A1 rv=>⟨α1,δ,L1,A1,S.mono g1,u,L2,e2,fun x H2 α2 g2 A2 rx=>⟨α2,δ,L2,A2,(S.mono g1).mono g2,w,L3,e3,fun y H3 α3 g3 A3 ry=>?_⟩⟩⟩
 simp only at e
 split at e
 ·obtain ⟨k,hk,e⟩:=bnd e
  obtain ⟨kvs,hd,e⟩:=bnd e
  split at e
  ·rename_i hl
   cases e
   obtain ⟨a,vs,rfl,ea,ha,rk⟩:=Acq A3 hd (rx.mono g3)
   have rv':=rv.mono (g2.trans g3)
   obtain ⟨g4,A4⟩:=A3.setD hd ea ha (rk.put (k:=k) rv')
   refine ⟨a,_,rfl,?_,q σ _ α3 ((g1.trans (g2.trans g3)).trans g4) A4 ((((S.mono g1).mono g2).mono g3).mono g4)⟩
   rw[Agr ry hk]
   exact DPut.k ha (by rw[<- rk.len];unfold sizeLine;omega)
  ·cases e
 ·cases e
end
theorem Anq{β:Type}{P:List β->Prop}(h:P [])(us:List β)(hl:us.length=0):P us:=by
 cases us with
 | nil=>exact h
 | cons=>cases hl
theorem Ao9{β:Type}{P:List β->Prop}(h:∀ (a:β) (us:List β),us.length=n->P (a::us))(us:List β)(hl:us.length=n+1):P us:=by
 cases us with
 | nil=>cases hl
 | cons a us=>exact h a us (Nat.succ.inj hl)
theorem Apu{β:Type}{P:List β->Prop}(h:∀ a,P [a]):∀ us:List β,us.length=1->P us:=Ao9 fun a=>Anq (h a)
theorem An2{β:Type}{P:List β->Prop}(h:∀ a b,P [a,b]):∀ us:List β,us.length=2->P us:=Ao9 fun a=>Apu (h a)
theorem Asv{β:Type}{P:List β->Prop}(h:∀ a b c,P [a,b,c]):∀ us:List β,us.length=3->P us:=Ao9 fun a=>An2 (h a)
section
variable {X:Cx}{elts:List Expr}{x1:Nat}{tpos:Pos}
end
end MR
namespace MR
open PySem L2
@[simp] theorem fVar_eq(i:Nat)(δ:UE)(L:UH):Ae i δ L=(δ[i]?).join.map fun u=>(u,L):=rfl
@[simp] theorem fC_eq(u:U)(δ:UE)(L:UH):fC u δ L=some (u,L):=rfl
@[simp] theorem f2_eq(s:S2)(a b:FE)(δ:UE)(L:UH):f2 s a b δ L=(a δ L).bind fun p=>(b δ p.2).bind fun q=>s p.1 q.1 q.2:=rfl
@[simp] theorem Ou(f:FE)(δ:UE)(L:UH):Au f δ L=(f δ L).bind fun p=>match p.1 with | .bl k=>some (k,p.2) | _=>none:=rfl
@[simp] theorem fAnd_eq(f g:FT)(δ:UE)(L:UH):N4 f g δ L=(f δ L).bind fun p=>if p.1=true then g δ p.2 else some (false,p.2):=rfl
@[simp] theorem Hi(f g:FT)(δ:UE)(L:UH):fOr f g δ L=(f δ L).bind fun p=>if p.1=true then some (true,p.2) else g δ p.2:=rfl
@[simp] theorem fNot_eq(f:FT)(δ:UE)(L:UH):Gi f δ L=(f δ L).map fun p=>(!p.1,p.2):=rfl
@[simp] theorem Iy(f g:FE)(δ:UE)(L:UH):Iw f g δ L=(f δ L).bind fun p=>match p.1 with | .bl k=>if k=true then g δ p.2 else some (.bl false,p.2) | _=>none:=rfl
@[simp] theorem fOrV_eq(f g:FE)(δ:UE)(L:UH):Anf f g δ L=(f δ L).bind fun p=>match p.1 with | .bl k=>if k=true then some (.bl true,p.2) else g δ p.2 | _=>none:=rfl
@[simp] theorem Ars(f:FE)(δ:UE)(L:UH):Arf f δ L=(f δ L).bind fun p=>match p.1 with | .bl k=>some (.bl (!k),p.2) | _=>none:=rfl
@[simp] theorem Ao3(c:FT)(f g:FE)(δ:UE)(L:UH):fIf c f g δ L=(c δ L).bind fun p=>if p.1=true then f δ p.2 else g δ p.2:=rfl
@[simp] theorem fNil_eq(δ:UE)(L:UH):Ag δ L=some ([],L):=rfl
@[simp] theorem fCons_eq(f:FE)(g:FA)(δ:UE)(L:UH):Ad f g δ L=(f δ L).bind fun p=>(g δ p.2).map fun q=>(p.1::q.1,q.2):=rfl
@[simp] theorem Ac0(g:FA)(δ:UE)(L:UH):Gj g δ L=(g δ L).bind fun p=>if Ew p.1.length=true then some (.tup p.1,p.2) else none:=rfl
@[simp] theorem fLst_eq(g:FA)(δ:UE)(L:UH):Cv g δ L=(g δ L).bind fun p=>if Ew p.1.length=true then some (.ref p.2.length,p.2++[.lst p.1]) else none:=rfl
@[simp] theorem fCall_eq(s:SC)(g:FA)(δ:UE)(L:UH):Ba s g δ L=(g δ L).bind fun p=>s p.1 p.2:=rfl
@[simp] theorem Ke(n:Nat)(F:FN)(g:FA)(δ:UE)(L:UH):A0 n F g δ L=(g δ L).bind fun p=>if p.1.length=n then F p.1 p.2 else none:=rfl
@[simp] theorem fMeth_eq(T:String)(s:SM)(f:FE)(g:FA)(δ:UE)(L:UH):Bt T s f g δ L=(f δ L).bind fun p=>if tyU T p.1 p.2=true then (g δ p.2).bind fun q=>s p.1 q.1 q.2 else none:=rfl
@[simp] theorem Ah3(f:FE)(δ:UE)(L:UH):Ff f δ L=(f δ L).bind fun p=>match p.1 with | .int i=>some (some i,p.2) | _=>none:=rfl
@[simp] theorem fNoPart_eq(δ:UE)(L:UH):C4 δ L=some (none,L):=rfl
@[simp] theorem Aho(s:SS)(f:FE)(l h:FO)(δ:UE)(L:UH):fSl s f l h δ L=(f δ L).bind fun p=>(l δ p.2).bind fun q=>(h δ q.2).bind fun r=>s p.1 q.1 r.1 r.2:=rfl
@[simp] theorem Atk(f:FE)(δ:UE)(L:UH):Afr f δ L=(f δ L).bind fun p=>match p.1 with | .int i=>some (.int (-i),p.2) | _=>none:=rfl
@[simp] theorem fTru_eq(f:FE)(δ:UE)(L:UH):Em f δ L=(f δ L).bind fun p=>(Ae6 p.1 p.2).map fun k=>(k,p.2):=rfl
@[simp] theorem Atl(c:String)(f:FE)(δ:UE)(L:UH):Qr c f δ L=(f δ L).bind fun p=>(Vw p.1 p.2).map fun t=>(.bl (isT t c),p.2):=rfl
@[simp] theorem Xl(δ:UE)(L:UH):B0 δ L=some (.nx δ,L):=rfl
@[simp] theorem Q6(f g:FS)(δ:UE)(L:UH):A9 f g δ L=(f δ L).bind fun p=>match p.1 with | .nx δ'=>g δ' p.2 | fl=>some (fl,p.2):=rfl
@[simp] theorem fRet_eq(f:FE)(δ:UE)(L:UH):Ce f δ L=(f δ L).map fun p=>(.rt p.1,p.2):=rfl
@[simp] theorem El(f:FE)(δ:UE)(L:UH):C3 f δ L=(f δ L).map fun p=>(.nx δ,p.2):=rfl
@[simp] theorem Arv(δ:UE)(L:UH):Ar2 δ L=some (.rt .non,L):=rfl
@[simp] theorem Mj(c:FT)(f g:FS)(δ:UE)(L:UH):B7 c f g δ L=(c δ L).bind fun p=>if p.1=true then f δ p.2 else g δ p.2:=rfl
@[simp] theorem gN_eq(i:Nat)(u:U)(δ:UE)(L:UH):gN i u δ L=some (δ.set i (some u),L):=rfl
@[simp] theorem Atj(δ:UE)(L:UH):MR.gNil [] δ L=some (δ,L):=rfl
@[simp] theorem As1(f:FG)(g:FGs)(u:U)(r:List U)(δ:UE)(L:UH):MR.gCons f g (u::r) δ L=(f u δ L).bind fun p=>g r p.1 p.2:=rfl
@[simp] theorem Atn(n:Nat)(g:FGs)(us:List U)(δ:UE)(L:UH):MR.gTup n g (.tup us) δ L=if us.length=n then g us δ L else none:=rfl
@[simp] theorem Ati(a b:FE)(v:U)(δ:UE)(L:UH):MR.gSub a b v δ L=(a δ L).bind fun p=>(b δ p.2).bind fun q=>match p.1,q.1 with
 | .ref n,.int k=>(lstAt q.2 n).bind fun l=>(ixN l.length k).map fun j=>(δ,q.2.set n (.lst (l.set j v)))
 | _,_=>none:=rfl
@[simp] theorem Air(f:FE)(g:FG)(δ:UE)(L:UH):A8 f g δ L=(f δ L).bind fun p=>(g p.1 δ p.2).map fun q=>(.nx q.1,q.2):=rfl
@[simp] theorem N5(fi:FI)(g:FG)(b:FS)(δ:UE)(L:UH):Ik fi g b δ L=(fi δ L).bind fun p=>Ky p.1 g b (p.1.size p.2+1) 0 δ p.2:=rfl
@[simp] theorem Sr(f:FE)(δ:UE)(L:UH):Cu f δ L=(f δ L).bind fun p=>(Tw p.1 p.2).map fun i=>(i,p.2):=rfl
@[simp] theorem Agu(g:FA)(δ:UE)(L:UH):Dr g δ L=(g δ L).bind fun p=>match p.1 with
 | [.int j]=>if -(2 ^ 62)<=j/\j < 2 ^ 62 then some (.seq (Cd 0 j.toNat),p.2) else none
 | _=>none:=rfl
@[simp] theorem Ih(i j:Int)(L:UH):Ar (.int i) (.int j) L=some (.int (i+j),L):=rfl
@[simp] theorem Ane(i j:Int)(L:UH):Hb (.int i) (.int j) L=some (.int (i - j),L):=rfl
@[simp] theorem Sb(i j:Int)(L:UH):Dh (.int i) (.int j) L=if Hn i j=true then some (.int (i * j),L) else none:=rfl
@[simp] theorem Aaf(i j:Int)(L:UH):Fv (.int i) (.int j) L=if K8 i j=true then some (.int (i / j),L) else none:=rfl
@[simp] theorem Aov(i j:Int)(L:UH):Dc (.int i) (.int j) L=if decide (0 < j)=true then some (.int (i % j),L) else none:=rfl
@[simp] theorem Aan(i j:Int)(L:UH):Hc (.int i) (.int j) L=if Sz i j=true then some (.int (i ^ j.toNat),L) else none:=rfl
@[simp] theorem Ap0(i j:Int)(L:UH):Qi (.int i) (.int j) L=some (.bl (decide (i<=j)),L):=rfl
@[simp] theorem semLt_int(i j:Int)(L:UH):Kx (.int i) (.int j) L=some (.bl (decide (i < j)),L):=rfl
@[simp] theorem Aeh(i j:Int)(L:UH):Mo (.int i) (.int j) L=some (.bl (decide (j < i)),L):=rfl
@[simp] theorem Adp(i j:Int)(L:UH):Ag3 (.int i) (.int j) L=some (.bl (decide (j<=i)),L):=rfl
@[simp] theorem semEq_int(i j:Int)(L:UH):Bb (.int i) (.int j) L=some (.bl (i == j),L):=rfl
@[simp] theorem U4(i j:Int)(L:UH):Dy (.int i) (.int j) L=some (.bl (!(i == j)),L):=rfl
@[simp] theorem Ar4(i j:Bool)(L:UH):Bb (.bl i) (.bl j) L=some (.bl (i == j),L):=rfl
@[simp] theorem Aqa(i j:Bool)(L:UH):Dy (.bl i) (.bl j) L=some (.bl (!(i == j)),L):=rfl
@[simp] theorem Asx(i j:Bool)(L:UH):M3 false (.bl i) (.bl j) L=some (.bl (i == j),L):=rfl
@[simp] theorem Apz(l:List U)(i:Int)(L:UH):Al (.tup l) (.int i) L=(L2.atI l i).map fun z=>(z,L):=rfl
@[simp] theorem semIx_ref(n:Nat)(i:Int)(L:UH):Al (.ref n) (.int i) L=(Az L n).bind fun l=>(L2.atI l i).map fun z=>(z,L):=rfl
@[simp] theorem truU_bl(b:Bool)(L:UH):Ae6 (.bl b) L=some b:=rfl
variable {L:UH}{n:Nat}{us:List U}
theorem Am(h:L[n]? = some (.lst us)):Az L n=some us:=by unfold Az;rw[h]
theorem Ep(h:L[n]? = some (.lst us)):lstAt L n=some us:=by unfold lstAt;rw[h]
theorem small_of(h:n<=16777216):Ew n=true:=by unfold Ew sizeLine;exact decide_eq_true (by omega)
variable {i:Int}
theorem Ft{β:Type}{l:List β}(h0:0<=i)(h:i < l.length):L2.atI l i=l[i.toNat]?:=by
 unfold L2.atI ixN
 rw[if_pos h0,if_pos h];rfl
variable {j:Int}
theorem Lz(h1:-1000000000000000000<=i)(h2:i<=1000000000000000000):Hn i j=true:=by
 unfold Hn;simp only[jL,bG,decide_eq_true_eq];left;constructor <;> omega
theorem Ain(h1:-1000000000000000000<=j)(h2:j<=1000000000000000000):Hn i j=true:=by
 unfold Hn;simp only[jL,bG,decide_eq_true_eq];right;constructor <;> omega
theorem G5(h1:0 < j)(h2:j < 1152921504606846976):K8 i j=true:=by
 unfold K8;simp only[bG,decide_eq_true_eq];exact ⟨h1,h2⟩
def Vm(g:FG)(body:FS)(u:U)(δ:UE)(L:UH)(R:UE->UH->Prop):Prop:=∃ δ1 L1,g u δ L=some (δ1,L1)/\∃ δ2 L2,(body δ1 L1=some (.nx δ2,L2)\/body δ1 L1=some (.ct δ2,L2))/\R δ2 L2
variable {it:IU}{g:FG}{body:FS}
theorem Ot{it:IU}{g:FG}{body:FS}{us:List U}(P:Nat->UE->UH->Prop)(hat:∀ k δ L,k<=us.length->P k δ L->it.at k L=some us[k]?)
  (step:∀ k u δ L,us[k]? = some u->P k δ L->Vm g body u δ L (P (k+1))) :
  ∀ (m k:Nat) (δ:UE) (L:UH),us.length < m+k->k<=us.length->P k δ L->∃ δ' L',Ky it g body m k δ L=some (.nx δ',L')/\P us.length δ' L'
 | 0,k,δ,L,h1,h2,_=>by omega
 | m+1,k,δ,L,h1,h2,hP=>by
  have hk:=hat k δ L h2 hP
  unfold Ky
  rw[hk]
  cases hu:us[k]? with
  | none=>
   have:k=us.length:=by have:=cO.mp hu;omega
   subst this
   exact ⟨δ,L,rfl,hP⟩
  | some u=>
   have hlt:k < us.length:=(aD.mp hu).1
   obtain ⟨δ1,L1,e1,δ2,L2,e2,hP2⟩:=step k u δ L hu hP
   obtain ⟨δ',L',e3,hP3⟩:=Ot P hat step m (k+1) δ2 L2 (by omega) (by omega) hP2
   refine ⟨δ',L',?_,hP3⟩
   rcases e2 with e2 | e2
   ·simp only[e1,aA,e2,e3]
   ·simp only[e1,aA,e2,e3]
variable {fi:FI}{δ:UE}{L0:UH}
theorem Qw(P:Nat->UE->UH->Prop)(hi:fi δ L=some (.seq us,L0))(h0:P 0 δ L0)(step:∀ k u δ L,us[k]? = some u->P k δ L->Vm g body u δ L (P (k+1))) :
  ∃ δ' L',Ik fi g body δ L=some (.nx δ',L')/\P us.length δ' L':=by
 obtain ⟨δ',L',e,h⟩:=Ot (it:=.seq us) (g:=g) (body:=body) (us:=us) P (fun _ _ _ _ _=>rfl) step (us.length+1) 0 δ L0 (by omega) (by omega) h0
 exact ⟨δ',L',by rw[N5,hi];exact e,h⟩
theorem Abz(P:Nat->UE->UH->Prop)(hi:fi δ L=some (.ref n,L0))(h0:P 0 δ L0)(hl:∀ k δ L,P k δ L->Az L n=some us)(step:∀ k u δ L,us[k]? = some u->P k δ L->Vm g body u δ L (P (k+1))) :
  ∃ δ' L',Ik fi g body δ L=some (.nx δ',L')/\P us.length δ' L':=by
 have hat:∀ k δ L,k<=us.length->P k δ L->(IU.ref n).at k L=some us[k]?:=fun k δ L _ hp=>by
  have:=hl k δ L hp
  unfold Az at this
  unfold IU.at
  simp only
  split at this
  ·rename_i e;cases this;first | rw[e] | rfl
  ·rename_i e;cases this;first | rw[e] | rfl
  ·cases this
 have hsz:(IU.ref n).size L0=us.length:=by
  have:=hl 0 δ L0 h0
  unfold Az at this
  unfold IU.size
  simp only
  split at this
  ·rename_i e;cases this;first | rw[e] | rfl
  ·rename_i e;cases this;first | rw[e] | rfl
  ·cases this
 obtain ⟨δ',L',e,h⟩:=Ot (it:=.ref n) (g:=g) (body:=body) (us:=us) P hat step (us.length+1) 0 δ L0 (by omega) (by omega) h0
 exact ⟨δ',L',by rw[N5,hi];simp only[aA,hsz];exact e,h⟩
theorem Gm(h:Az L n=some us):Tw (.ref n) L=some (.ref n):=by
 unfold Az at h
 unfold Tw
 simp only
 split at h
 ·rename_i e;first | rw[e] | rfl
 ·rename_i e;first | rw[e] | rfl
 ·cases h
variable {k:Nat}{u:U}
theorem E7{lo:Int}(h:(Cd lo n)[k]? = some u):k < n/\u = .int (lo+k):=by
 unfold Cd at h
 rw[bO] at h
 by_cases hk:k < n
 ·rw[jA hk] at h
  simp at h
  exact ⟨hk,h.symm⟩
 ·rw[eC (by simpa using hk)] at h
  simp at h
theorem Ej{lo:Int}:(Cd lo n).length=n:=by simp[Cd]
@[simp] theorem Ar1(g:FA)(δ:UE)(L:UH):Abe g δ L=(g δ L).bind fun p=>match p.1 with
 | [.ref n]=>(Az p.2 n).map fun _=>(.enm n,p.2)
 | _=>none:=rfl
@[simp] theorem Atm(g:FA)(δ:UE)(L:UH):Aht g δ L=(g δ L).bind fun p=>match p.1 with
 | [.ref n,.ref m]=>(Az p.2 n).bind fun _=>(Az p.2 m).map fun _=>(.zip2 n m,p.2)
 | _=>none:=rfl
@[simp] theorem Ato(f:FE)(δ:UE)(L:UH):At2 f δ L=(f δ L).bind fun p=>match p.1 with | .ref n=>(Az p.2 n).map fun l=>(.ref p.2.length,p.2++[.lst l.reverse]) | .tup l=>some (.tup l.reverse,p.2) | _=>none:=rfl
@[simp] theorem As0(g:FA)(δ:UE)(L:UH):Al6 g δ L=(g δ L).bind fun p=>match p.1 with
 | [.int i,.int j]=>if (-(2 ^ 62)<=i/\i < 2 ^ 62)/\(-(2 ^ 62)<=j/\j < 2 ^ 62) then some (.seq (Cd i (j - i).toNat),p.2) else none
 | _=>none:=by first | rfl | (unfold Al6;rfl)
variable {tt:Option FT}{fe:FE}
theorem Se(P:Nat->List U->UE->UH->Prop)(hat:∀ k acc δ L,k<=us.length->P k acc δ L->it.at k L=some us[k]?)
  (step:∀ k u acc δ L,us[k]? = some u->P k acc δ L->∃ δ1 L1,g u δ L=some (δ1,L1)/\∃ b L2,testU tt δ1 L1=some (b,L2)/\(b=true->∃ r L3,fe δ1 L2=some (r,L3)/\acc.length < 16777216/\P (k+1) (acc++[r]) δ1 L3)/\(b=false->P (k+1) acc δ1 L2)) :
  ∀ (m k:Nat) (acc:List U) (δ:UE) (L:UH),us.length < m+k->k<=us.length->P k acc δ L->∃ ys δ' L',S9 it g tt fe m k acc δ L=some (ys,L')/\P us.length ys δ' L'
 | 0,k,acc,δ,L,h1,h2,_=>by omega
 | m+1,k,acc,δ,L,h1,h2,hP=>by
  have hk:=hat k acc δ L h2 hP
  unfold S9
  rw[hk]
  cases hu:us[k]? with
  | none=>
   have:k=us.length:=by have:=cO.mp hu;omega
   subst this
   exact ⟨acc,δ,L,rfl,hP⟩
  | some u=>
   have hlt:k < us.length:=(aD.mp hu).1
   obtain ⟨δ1,L1,e1,b,L2,e2,h3,h4⟩:=step k u acc δ L hu hP
   cases b with
   | true=>
    obtain ⟨r,L3,e3,hl,hP2⟩:=h3 rfl
    obtain ⟨ys,δ',L',e4,hP3⟩:=Se P hat step m (k+1) (acc++[r]) δ1 L3 (by omega) (by omega) hP2
    refine ⟨ys,δ',L',?_,hP3⟩
    have hz:decide (acc.length < sizeLine)=true:=decide_eq_true (by unfold sizeLine;omega)
    simp only[e1,aA,e2,e3,if_true,hz,e4]
   | false=>
    obtain ⟨ys,δ',L',e4,hP3⟩:=Se P hat step m (k+1) acc δ1 L2 (by omega) (by omega) (h4 rfl)
    refine ⟨ys,δ',L',?_,hP3⟩
    simp only[e1,aA,e2,e4,cU,if_false]
theorem Tu{ix:List (Option Nat)}{fi:FI}{it:IU}{g:FG}{tt:Option FT}{fe:FE}{us:List U}{δ:UE}{L L0:UH}(P:Nat->List U->UE->UH->Prop)(hi:fi δ L=some (it,L0))(hsz:us.length<=it.size L0)(h0:P 0 [] (Nk ix δ) L0)
  (hat:∀ k acc δ L,k<=us.length->P k acc δ L->it.at k L=some us[k]?)
  (step:∀ k u acc δ L,us[k]? = some u->P k acc δ L->∃ δ1 L1,g u δ L=some (δ1,L1)/\∃ b L2,testU tt δ1 L1=some (b,L2)/\(b=true->∃ r L3,fe δ1 L2=some (r,L3)/\acc.length < 16777216/\P (k+1) (acc++[r]) δ1 L3)/\(b=false->P (k+1) acc δ1 L2)) :
  ∃ ys δ' L',C0 ix fi g tt fe δ L=some (.ref L'.length,L'++[.lst ys])/\P us.length ys δ' L':=by
 obtain ⟨ys,δ',L',e,h⟩:=Se P hat step (it.size L0+1) 0 [] (Nk ix δ) L0 (by omega) (by omega) h0
 refine ⟨ys,δ',L',?_,h⟩
 unfold C0
 simp only[hi,aA,e,aC]
theorem at_ref(h:Az L n=some us):(IU.ref n).at k L=some us[k]?:=by
 unfold Az at h
 unfold IU.at
 simp only
 split at h
 ·rename_i e;cases h;first | rw[e] | rfl
 ·rename_i e;cases h;first | rw[e] | rfl
 ·cases h
def enU(us:List U):List U:=us.mapIdx fun k u=>.tup [.int k,u]
theorem Ahf(h:Az L n=some us):(IU.enm n).at k L=some (enU us)[k]?:=by
 show (Az L n).map _=_
 rw[h]
 simp[enU]
theorem Yn(h:Az L n=some us):(IU.enm n).size L=(enU us).length:=by
 show (match Az L n with | some us=>us.length | none=>0)=_
 rw[h];simp[enU]
def zipU(us ws:List U):List U:=(us.zip ws).map fun p=>.tup [p.1,p.2]
variable {m:Nat}{ws:List U}
theorem Anb(h:Az L n=some us)(h2:Az L m=some ws):(IU.zip2 n m).at k L=some (zipU us ws)[k]?:=by
 show (Az L n).bind _=_
 rw[h]
 show (Az L m).map _=_
 rw[h2]
 simp only[aC,zipU,bO,mQ]
 congr 1
 rw[List.zip,List.getElem?_zipWith]
 cases us[k]? <;> cases ws[k]? <;> rfl
theorem Ah9(h:Az L n=some us)(h2:Az L m=some ws):(IU.zip2 n m).size L=(zipU us ws).length:=by
 show (match Az L n,Az L m with | some us,some ws=>min us.length ws.length | _,_=>0)=_
 rw[h,h2];simp[zipU]
theorem E9{β:Type}{ix:List (Option Nat)}{fi:FI}{it:IU}{g:FG}{tt:Option FT}{fe:FE}{δ:UE}{L L0:UH}(as:List β)(rep:β->U)(f:β->Bool)(e:β->U)(E:UE->Prop)(hi:fi δ L=some (it,L0))(hsz:as.length<=it.size L0)(hl:as.length < 16777216)(h0:E (Nk ix δ))
  (hat:∀ k x,it.at k (L0++x)=some (as.map rep)[k]?)
  (step:∀ (a:β) δ x,a∈as->E δ->∃ δ1,g (rep a) δ (L0++x)=some (δ1,L0++x)/\E δ1/\∃ y,testU tt δ1 (L0++x)=some (f a,L0++x++y)/\(f a=true->∃ z,fe δ1 (L0++x++y)=some (e a,L0++x++y++z))) :
  ∃ x,C0 ix fi g tt fe δ L=some (.ref (L0++x).length,L0++x++[.lst ((as.filter f).map e)]):=by
 obtain ⟨ys,δ',L',e1,⟨h1,h2,x,rfl⟩,h3⟩:=Tu (us:=as.map rep) (ix:=ix) (tt:=tt) (g:=g) (fe:=fe) (δ:=δ) (fun k acc δ L=>(acc=((as.take k).filter f).map e/\E δ/\∃ x,L=L0++x)/\acc.length<=k) hi (by simpa using hsz) ⟨⟨rfl,h0,[],by simp⟩,by simp⟩
  (fun k acc δ L _ zz=>by obtain ⟨⟨_,_,x,hx⟩,_⟩:=zz;rw[hx];exact hat k x)
  (fun k u acc δ L hu zz=>by
   obtain ⟨⟨ha,hE,x,hx⟩,hlen⟩:=zz
   subst hx
   rw[bO] at hu
   obtain ⟨a,hk,rfl⟩:=mpd hu
   have hk':=(aD.mp hk).1
   obtain ⟨δ1,g1,E1,y,t1,r1⟩:=step a δ x (dP hk) hE
   have ht:as.take (k+1)=as.take k++[a]:=by
    rw[iO,hk];rfl
   refine ⟨δ1,_,g1,f a,_,t1,fun hf=>?_,fun hf=>?_⟩
   ·obtain ⟨z,q⟩:=r1 hf
    refine ⟨_,_,q,by omega,⟨?_,E1,x++y++z,by simp⟩,by simp;omega⟩
    rw[ha,ht];simp[hf]
   ·refine ⟨⟨?_,E1,x++y,by simp⟩,by omega⟩
    rw[ha,ht];simp[hf])
 refine ⟨x,?_⟩
 rw[e1,h1]
 simp
theorem J9{x:UH}(h:Az L n=some us):Az (L++x) n=some us:=by
 unfold Az at h ⊢
 cases hn:L[n]? with
 | none=>rw[hn] at h;cases h
 | some o=>rw[aK (aD.mp hn).1,hn];rw[hn] at h;exact h
def Pl:Nat->U->Prop
 | _,.non=>True
 | _,.int _=>True
 | _,.str x=>lX x=true
 | n+1,.tup l=>∀ u∈l,Pl n u
 | _,_=>False
mutual
def pd:U->rS
 | .non=>.none
 | .bl b=>.bool b
 | .int i=>.int i
 | .str x=>.str x
 | .tup l=>.tuple (pds l)
 | .ref _=>.none
 | .tz _=>.none
def pds:List U->List rS
 | []=>[]
 | u::r=>pd u::pds r
end
theorem M9{l:List U}:Pl (n+1) (.tup l)↔∀ u∈l,Pl n u:=by rw[Pl]
theorem Qs(ih:∀ u,Pl n u->toP L m u=some (pd u)):∀ l:List U,(∀ u∈l,Pl n u)->mapO (toP L m) l=some (pds l)
 | [],_=>rfl
 | u::r,h=>by
  simp only[mapO,ih u (h u (aW ..)),Qs ih r (fun x hx=>h x (aR _ hx)),aA,aC,pds]
theorem So(L:UH):∀ (n m:Nat) (u:U),n < m->Pl n u->toP L m u=some (pd u)
 | n,0,u,h,_=>by omega
 | n,m+1,.non,_,_=>rfl
 | n,m+1,.int _,_,_=>rfl
 | n,m+1,.str _,_,_=>rfl
 | n,m+1,.bl _,_,h=>by cases n <;> exact absurd h (by simp[Pl])
 | n,m+1,.ref _,_,h=>by cases n <;> exact absurd h (by simp[Pl])
 | n,m+1,.tz _,_,h=>by cases n <;> exact absurd h (by simp[Pl])
 | 0,m+1,.tup l,_,h=>absurd h (by simp[Pl])
 | n+1,m+1,.tup l,hm,h=>by
  have:=Qs (L:=L) (n:=n) (m:=m) (fun u hu=>So L n m u (by omega) hu) l (M9.mp h)
  show (mapO (toP L m) l).map rS.tuple=_
  rw[this]
  rfl
theorem Qv(ih:∀ u,Pl n u->fT (pd u)=true/\iC (pd u)<=n):∀ l:List U,(∀ u∈l,Pl n u)->qN (pds l)=true/\rJ (pds l)<=n
 | [],_=>⟨rfl,eO _⟩
 | u::r,h=>by
  obtain ⟨a1,a2⟩:=ih u (h u (aW ..))
  obtain ⟨b1,b2⟩:=Qv ih r (fun x hx=>h x (aR _ hx))
  refine ⟨by simp[pds,qN,a1,b1],?_⟩
  simp only[pds,rJ]
  omega
theorem Rl:∀ (n:Nat) (u:U),Pl n u->fT (pd u)=true/\iC (pd u)<=n
 | n,.non,_=>by simp[pd,fT,iC]
 | n,.int _,_=>by simp[pd,fT,iC]
 | n,.str x,h=>by
  have h':lX x=true:=by cases n <;> simpa[Pl] using h
  simp[pd,fT,iC,h']
 | n,.bl _,h=>by cases n <;> exact absurd h (by simp[Pl])
 | n,.ref _,h=>by cases n <;> exact absurd h (by simp[Pl])
 | n,.tz _,h=>by cases n <;> exact absurd h (by simp[Pl])
 | 0,.tup l,h=>absurd h (by simp[Pl])
 | n+1,.tup l,h=>by
  obtain ⟨a,b⟩:=Qv (fun u hu=>Rl n u hu) l (M9.mp h)
  simp only[pd,fT,iC]
  exact ⟨a,by omega⟩
theorem Sw(ih:∀ u w,Pl n u->Pl n w->(dE (pd u) (pd w)=true↔u=w)):∀ l m:List U,(∀ u∈l,Pl n u)->(∀ u∈m,Pl n u)->(jF (pds l) (pds m)=true↔l=m)
 | [],[],_,_=>by simp[pds,jF]
 | [],_::_,_,_=>by simp[pds,jF]
 | _::_,[],_,_=>by simp[pds,jF]
 | u::l,w::m,h1,h2=>by
  simp only[pds,jF,bG,ih u w (h1 u (aW ..)) (h2 w (aW ..)),Sw ih l m (fun x hx=>h1 x (aR _ hx)) (fun x hx=>h2 x (aR _ hx)),lK]
theorem Acz:∀ (n:Nat) (u w:U),Pl n u->Pl n w->(dE (pd u) (pd w)=true↔u=w)
 | n,.bl _,_,h,_=>by cases n <;> exact absurd h (by simp[Pl])
 | n,.ref _,_,h,_=>by cases n <;> exact absurd h (by simp[Pl])
 | n,_,.bl _,_,h=>by cases n <;> exact absurd h (by simp[Pl])
 | n,_,.ref _,_,h=>by cases n <;> exact absurd h (by simp[Pl])
 | n,.tz _,_,h,_=>by cases n <;> exact absurd h (by simp[Pl])
 | n,_,.tz _,_,h=>by cases n <;> exact absurd h (by simp[Pl])
 | 0,.tup _,_,h,_=>absurd h (by simp[Pl])
 | 0,_,.tup _,_,h=>absurd h (by simp[Pl])
 | n+1,.tup l,.tup m,h1,h2=>by
  simp only[pd,dE,U.tup.injEq]
  exact Sw (fun u w=>Acz n u w) l m (M9.mp h1) (M9.mp h2)
 | n,.non,.non,_,_=>by simp[pd,dE]
 | n,.non,.int _,_,_=>by simp[pd,dE]
 | n,.non,.str _,_,_=>by simp[pd,dE]
 | n+1,.non,.tup _,_,_=>by simp[pd,dE]
 | n,.int _,.non,_,_=>by simp[pd,dE]
 | n,.int _,.int _,_,_=>by simp[pd,dE]
 | n,.int _,.str _,_,_=>by simp[pd,dE]
 | n+1,.int _,.tup _,_,_=>by simp[pd,dE]
 | n,.str _,.non,_,_=>by simp[pd,dE]
 | n,.str _,.int _,_,_=>by simp[pd,dE]
 | n,.str _,.str _,_,_=>by simp[pd,dE]
 | n+1,.str _,.tup _,_,_=>by simp[pd,dE]
 | n+1,.tup _,.non,_,_=>by simp[pd,dE]
 | n+1,.tup _,.int _,_,_=>by simp[pd,dE]
 | n+1,.tup _,.str _,_,_=>by simp[pd,dE]
def eqB(u w:U):Bool:=dE (pd u) (pd w)
variable {w:U}
theorem Acx(h1:Pl 6 u)(h2:Pl 6 w):eqB u w=true↔u=w:=Acz 6 u w h1 h2
theorem Ahr(h1:Pl 6 u):eqB u u=true:=(Acx h1 h1).mpr rfl
theorem Ahy(L:UH)(h1:Pl 6 u)(h2:Pl 6 w):eqP u w L=some (eqB u w):=by
 obtain ⟨a1,a2⟩:=Rl 6 u h1
 obtain ⟨b1,b2⟩:=Rl 6 w h2
 have s1:fN (pd u)=true:=by unfold fN;rw[a1];simp;omega
 have s2:fN (pd w)=true:=by unfold fN;rw[b1];simp;omega
 unfold eqP
 simp only[So L 6 8 u (by decide) h1,So L 6 8 w (by decide) h2,aA,s1,s2,and_self,if_true,eqB]
theorem Xh(L:UH)(h1:Pl 6 u)(h2:Pl 6 w):Bb u w L=some (.bl (eqB u w),L):=by unfold Bb;rw[Ahy L h1 h2];rfl
theorem Afm(L:UH)(h1:Pl 6 u)(h2:Pl 6 w):Dy u w L=some (.bl (!eqB u w),L):=by unfold Dy;rw[Ahy L h1 h2];rfl
def Ag6(us ws:List U):Bool:=jF (pds us) (pds ws)
theorem Ajg(e1:Az L n=some us)(e2:Az L m=some ws)(h1:∀ u∈us,Pl 6 u)(h2:∀ u∈ws,Pl 6 u):eqP (.ref n) (.ref m) L=some (Ag6 us ws):=by
 obtain ⟨a1,a2⟩:=Qv (Rl 6) us h1
 obtain ⟨b1,b2⟩:=Qv (Rl 6) ws h2
 have s1:fN (.list (pds us))=true:=by unfold fN;simp[fT,iC,a1];omega
 have s2:fN (.list (pds ws))=true:=by unfold fN;simp[fT,iC,b1];omega
 have t1:toP L 8 (.ref n)=some (.list (pds us)):=by
  show (Az L n).bind (fun l=>(mapO (toP L 7) l).map oM)=_
  rw[e1]
  simp only[aA,Qs (fun u hu=>So L 6 7 u (by decide) hu) us h1,aC]
 have t2:toP L 8 (.ref m)=some (.list (pds ws)):=by
  show (Az L m).bind (fun l=>(mapO (toP L 7) l).map oM)=_
  rw[e2]
  simp only[aA,Qs (fun u hu=>So L 6 7 u (by decide) hu) ws h2,aC]
 unfold eqP
 simp only[t1,t2,aA,s1,s2,and_self,if_true,dE,Ag6]
theorem Um(e1:Az L n=some us)(e2:Az L m=some ws)(h1:∀ u∈us,Pl 6 u)(h2:∀ u∈ws,Pl 6 u):Dy (.ref n) (.ref m) L=some (.bl (!Ag6 us ws),L):=by unfold Dy;rw[Ajg e1 e2 h1 h2];rfl
theorem Pl.int(n:Nat)(i:Int):Pl n (.int i):=by cases n <;> exact trivial
theorem Akx{g:FA}{L':UH}(hg:g δ L=some ([.int j],L'))(h0:0<=j)(h1:j < 1000000):Dr g δ L=some (.seq (Cd 0 j.toNat),L'):=by
 rw[Agu,hg]
 simp only[aA]
 rw[if_pos ⟨by omega,by omega⟩]
theorem Kb{g:FA}{L':UH}(hg:g δ L=some ([.int n],L'))(h1:n < 1000000):Dr g δ L=some (.seq (Cd 0 n),L'):=by
 have:=Akx hg (by omega) (by omega)
 rwa [cF] at this
end MR
namespace Lw
open PySem L2 MR
variable {g:FG}{body:FS}{us:List U}
theorem Uj{it:IU}(P:Nat->UE->UH->Prop)(R:Nat->UH->Prop)(stop:Nat->Bool)(val:Nat->U)(hat:∀ k δ L,k<=us.length->P k δ L->it.at k L=some us[k]?)
  (step:∀ k u δ L,us[k]? = some u->P k δ L->∃ δ1 L1,g u δ L=some (δ1,L1)/\(stop k=true->∃ L2,body δ1 L1=some (.rt (val k),L2)/\R k L2)/\(stop k=false->∃ δ2 L2,body δ1 L1=some (.nx δ2,L2)/\P (k+1) δ2 L2)) :
  ∀ (m k:Nat) (δ:UE) (L:UH),us.length < m+k->k<=us.length->P k δ L ->
   (∃ j,k<=j/\j < us.length/\stop j=true/\(∀ i,k<=i->i < j->stop i=false)/\∃ L',Ky it g body m k δ L=some (.rt (val j),L')/\R j L')\/((∀ i,k<=i->i < us.length->stop i=false)/\∃ δ' L',Ky it g body m k δ L=some (.nx δ',L')/\P us.length δ' L')
 | 0,k,δ,L,h,hk,_=>by omega
 | m+1,k,δ,L,h,hk,hP=>by
  have ha:=hat k δ L hk hP
  unfold Ky
  rw[ha]
  by_cases hlt:k < us.length
  ·rw[aQ hlt]
   obtain ⟨δ1,L1,e1,s1,s2⟩:=step k _ δ L (aQ hlt) hP
   simp only[e1,aA]
   cases hs:stop k with
   | true=>
    obtain ⟨L2,e2,r⟩:=s1 hs
    exact .inl ⟨k,aJ _,hlt,hs,fun i h1 h2=>by omega,L2,by rw[e2];rfl,r⟩
   | false=>
    obtain ⟨δ2,L2,e2,p2⟩:=s2 hs
    have ih:=Uj P R stop val hat step m (k+1) δ2 L2 (by omega) (by omega) p2
    simp only[e2,aA]
    rcases ih with ⟨j,h1,h2,h3,h4,h5⟩ | ⟨h1,h2⟩
    ·refine .inl ⟨j,by omega,h2,h3,fun i i1 i2=>?_,h5⟩
     by_cases q:i=k
     ·rw[q];exact hs
     ·exact h4 i (by omega) i2
    ·refine .inr ⟨fun i i1 i2=>?_,h2⟩
     by_cases q:i=k
     ·rw[q];exact hs
     ·exact h1 i (by omega) i2
  ·have:k=us.length:=by omega
   subst this
   rw[eC (aJ _)]
   exact .inr ⟨fun i i1 i2=>by omega,δ,L,rfl,hP⟩
theorem Ach{fi:FI}{g:FG}{body:FS}{us:List U}{it:IU}{δ:UE}{L L0:UH}(P:Nat->UE->UH->Prop)(R:Nat->UH->Prop)(stop:Nat->Bool)(val:Nat->U)(hi:fi δ L=some (it,L0))(hsz:us.length<=it.size L0)(hat:∀ k δ L,k<=us.length->P k δ L->it.at k L=some us[k]?)(h0:P 0 δ L0)
  (step:∀ k u δ L,us[k]? = some u->P k δ L->∃ δ1 L1,g u δ L=some (δ1,L1)/\(stop k=true->∃ L2,body δ1 L1=some (.rt (val k),L2)/\R k L2)/\(stop k=false->∃ δ2 L2,body δ1 L1=some (.nx δ2,L2)/\P (k+1) δ2 L2)) :
   (∃ j,j < us.length/\stop j=true/\(∀ i,i < j->stop i=false)/\∃ L',Ik fi g body δ L=some (.rt (val j),L')/\R j L')\/((∀ i,i < us.length->stop i=false)/\∃ δ' L',Ik fi g body δ L=some (.nx δ',L')/\P us.length δ' L'):=by
 have:=Uj P R stop val hat step (it.size L0+1) 0 δ L0 (by omega) (by omega) h0
 unfold Ik
 rw[hi]
 simp only[aA]
 rcases this with ⟨j,h1,h2,h3,h4,h5⟩ | ⟨h1,h2⟩
 ·exact .inl ⟨j,h2,h3,fun i q=>h4 i (by omega) q,h5⟩
 ·exact .inr ⟨fun i q=>h1 i (by omega) q,h2⟩
theorem Af4{fi:FI}{g:FG}{body:FS}{us:List U}{δ:UE}{L L0:UH}(P:Nat->UE->UH->Prop)(R:Nat->UH->Prop)(stop:Nat->Bool)(val:Nat->U)(hi:fi δ L=some (.seq us,L0))(h0:P 0 δ L0)
  (step:∀ k u δ L,us[k]? = some u->P k δ L->∃ δ1 L1,g u δ L=some (δ1,L1)/\(stop k=true->∃ L2,body δ1 L1=some (.rt (val k),L2)/\R k L2)/\(stop k=false->∃ δ2 L2,body δ1 L1=some (.nx δ2,L2)/\P (k+1) δ2 L2)) :
   (∃ j,j < us.length/\stop j=true/\(∀ i,i < j->stop i=false)/\∃ L',Ik fi g body δ L=some (.rt (val j),L')/\R j L')\/((∀ i,i < us.length->stop i=false)/\∃ δ' L',Ik fi g body δ L=some (.nx δ',L')/\P us.length δ' L'):=
 Ach P R stop val hi (by simp[IU.size]) (fun k δ L _ _=>rfl) h0 step
end Lw
namespace MR
open PySem PySem.Spec PyProof.Rows L2
variable {X:Cx}{H:Hp}
section
variable {pins:List (Addr×Obj)}{σ:L2.St}{H':Hp}{s:aH}
def Thaw(H H' H2:Hp):Prop:=∀ b,H2 b=H' b\/∃ o vs,H' b=some (.frz o (.dK vs))/\H2 b=some (.dK vs)/\∀ o u,H b≠some (.frz o u)
theorem Thaw.stay{H2:Hp}(t:Thaw H H' H2){b:Addr}{u:Option HO}(e:H' b=u)(n:∀ o ks,u≠some (.frz o (.dK ks))):H2 b=u:=by
 rcases t b with z | ⟨o,vs,z,_⟩
 ·rw[z];exact e
 ·rw[e] at z;exact absurd z (n _ _)
end
variable {K:aB}{α:List Addr}
section
variable {H':Hp}
mutual
theorem RepU.via(g:∀ a xs,SqT K H a xs->SqT K H' a xs):∀ (u:U) (v:V),RepU K H α u v->RepU K H' α u v
 | .non,_,h=>h
 | .bl _,_,h=>h
 | .int _,_,h=>h
 | .str _,_,h=>h
 | .tz _,_,h=>h
 | .tup l,v,h=>by
  unfold RepU at h ⊢
  obtain ⟨a,xs,e,s,r⟩:=h
  exact ⟨a,xs,e,g _ _ s,RepL.via g l xs r⟩
 | .ref n,v,h=>by
  unfold RepU at h ⊢
  exact h
theorem RepL.via(g:∀ a xs,SqT K H a xs->SqT K H' a xs):∀ (l:List U) (xs:List V),RepL K H α l xs->RepL K H' α l xs
 | [],xs,h=>h
 | u::l,xs,h=>by
  unfold RepL at h ⊢
  obtain ⟨x,r,e,h1,h2⟩:=h
  exact ⟨x,r,e,RepU.via g u x h1,RepL.via g l r h2⟩
end
end
structure DObj(P:cD)(w:cV)(o:Obj)(kvs:List (Key×V))(vs:List (Key×aE))(ep:Nat):Prop where
 rel:KV kvs vs
 at_:∀ (h:Heap) (d:Addr),h.get? d=some o->h.DictAt (Eh P w) d vs ep
theorem KV.at_:∀ {kvs:List (Key×V)} {vs:List (Key×aE)} {i:Nat} {p:Key×aE},KV kvs vs->vs[i]? = some p->∃ q,kvs[i]? = some q/\q.1=p.1/\Cm q.2 p.2
 | _,_,i,p,.nil,e=>by simp at e
 | _,_,0,p,.cons r t,e=>by simp at e;subst e;exact ⟨_,rfl,r⟩
 | _,_,i+1,p,.cons r t,e=>by simpa using KV.at_ (i:=i) t (by simpa using e)
section
variable {P:cD}{w:cV}{d it:Addr}{o:Obj}{kvs:List (Key×V)}{vs:List (Key×aE)}{ep:Nat}
end
section
variable {tg o e:Expr}{apos cpos:Pos}{td:TE}
structure M0(X:Cx)(o:Expr)(m:Str)(apos cpos:Pos):Prop where
 base:attributeBase o m X.env (eval o X.env)=eval o X.env
 few:((backTo cpos (aN [] X.env)).all (fun x=>!x.1)&&(backToKw cpos (keywordEach [] X.env)).all (fun x=>x.1.isSome)
  && decide (([]:List Expr).length+([]:List fK).length+(if ([]:List fK).isEmpty then 0 else 1) < 30))=true
 line:(apos.endLine == cpos.line)=true
 trees:backTo cpos (aN [] X.env)=[]
end
section
variable {L:UH}{a:Addr}{ob:Obj}
end
section
variable {tg o:Expr}{apos cpos:Pos}{fo:FE}
def Arb:R2:=fun y x H Q=>∃ a r,x = .ref a/\DGet H a y r/\Q (.bl r.isSome) H
theorem Aa5(hu:X.A.units+64 < cLine):OpR X (dC .In) Arb:=by
 intro pins s σ H x y u w Q I rx ry h
 obtain ⟨a,r,rfl,g,q⟩:=h
 obtain rfl:w=bP a:=ry
 exact Avv (by omega) I g rx fun s' I'=>⟨.bl _,H,I',rfl,q⟩
def Nf:S2:=fun y x L=>match x with
 | .ref n=>(toK y).bind fun k=>(Mq L n).map fun kvs=>(.bl (Ml kvs k).isSome,L)
 | _=>none
theorem R9(k:Key):∀ kvs:List (Key×U),(kvs.find? fun kv=>decide (kv.1=k)).isSome=kvs.any fun kv=>decide (kv.1=k)
 | []=>rfl
 | kv::kvs=>by
  rw[eI,fO]
  by_cases h:kv.1=k
  ·simp[h]
  ·simp only[h,decide_false,pE]
   exact R9 k kvs
theorem RepKV.some{kvs:List (Key×U)}{vs:List (Key×V)}(r:RepKV K H α kvs vs)(k:Key):(Ml kvs k).isSome=(Ni vs k).isSome:=by
 have h1:(Ml kvs k).isSome=kvs.any fun kv=>decide (kv.1=k):=by
  unfold Ml
  rw[mZ]
  exact R9 k kvs
 rw[h1,r.any,Rq]
theorem Vl:Dp K Arb Nf:=by
 intro H α L u w x y z L' Q A ru rw' e q
 unfold Nf at e
 split at e
 ·obtain ⟨k,hk,e⟩:=bnd e
  obtain ⟨kvs,hd,e⟩:=mpd e
  cases e
  obtain ⟨a,vs,rfl,ea,ha,rk⟩:=Acq A hd rw'
  refine ⟨a,_,rfl,by rw[Agr ru hk];exact DGet.k ha,?_⟩
  rw[<- rk.some k]
  exact q _ H α (.refl _ _) A rfl
 ·cases e
end
def Am1(kvs:List (Key×U))(k:Key):List (Key×U):=kvs.filter fun kv=>decide (kv.1≠k)
theorem RepKV.drop(k:Key):∀ {kvs:List (Key×U)} {vs:List (Key×V)},RepKV K H α kvs vs->RepKV K H α (Am1 kvs k) (Aba vs k)
 | [],vs,r=>by
  have:=r.1
  cases vs with
  | nil=>exact .nil
  | cons _ _=>simp at this
 | kv::kvs,vs,r=>by
  obtain ⟨x,vs',rfl,rx,r'⟩:=r.cons
  unfold Am1 Aba
  rw[kN,kN]
  by_cases h:kv.1=k
  ·simp only[h,ne_eq,not_true_eq_false,decide_false,cU,if_false]
   exact RepKV.drop k r'
  ·simp only[h,ne_eq,not_false_eq_true,decide_true,if_true]
   exact .mk rx (RepKV.drop k r')
end MR
namespace MR
open PySem PyProof.Rows L2
end MR
namespace MR
open PySem PySem.Spec PyProof.Rows L2
def XObj(e Ca:Addr)(dd:Option Addr)(h:Heap)(vs:Array aE):Prop:=∃ o:Obj,h.get? e=some o/\o.cls = .ref Ca/\o.dict=dd/\o.data = .fields vs/\1 < vs.size/\o.slots=#[]
def Tra(N:Nat)(e Ca:Addr)(dd:Option Addr)(fl:aE)(h:Heap):Prop:=∃ vs T oT ts,XObj e Ca dd h vs/\vs[1]? = some (.ref T)/\N<=T/\T≠e/\h.get? T=some oT/\oT.data = .fields ts/\ts[3]? = some fl
def Raw(e Ca:Addr)(dd:Option Addr)(h:Heap):Prop:=∃ vs,XObj e Ca dd h vs/\vs[1]? = some .none
def Fly(N:Nat)(e Ca:Addr)(dd:Option Addr)(h:Heap):Prop:=N<=h.objs.size/\(Raw e Ca dd h\/∃ fl,Tra N e Ca dd fl h)
variable {e Ca:Addr}{dd:Option Addr}{h:Heap}{vs:Array aE}
theorem XObj.excIs(x:XObj e Ca dd h vs):Co e Ca dd false h:=by
 obtain ⟨o,h1,h2,h3,h4,h5,h6⟩:=x
 exact ⟨o,vs,h1,h2,h3,h4,h5,h6,fun z=>nomatch z⟩
variable {N:Nat}
theorem Fly.excIs(x:Fly N e Ca dd h):Co e Ca dd false h:=by
 rcases x.2 with ⟨vs,q,_⟩ | ⟨_,vs,_,_,_,q,_⟩
 ·exact q.excIs
 ·exact q.excIs
theorem Tra.excIs{fl:aE}(x:Tra N e Ca dd fl h):Co e Ca dd false h:=by
 obtain ⟨vs,_,_,_,q,_⟩:=x
 exact q.excIs
structure Stp(N:Nat)(fs:List Addr)(e:Addr)(h h':Heap):Prop where
 keep:∀ b o,b < N->b∉fs->b≠e->h.get? b=some o->h'.get? b=some o
 slot:∀ b o,b∈fs->h.get? b=some o->∃ sl,h'.get? b=some { o with slots:=sl }
 all:∀ b o,h.get? b=some o->∃ o',h'.get? b=some o'
 sz:h.objs.size<=h'.objs.size
variable {fs:List Addr}
theorem Stp.refl:Stp N fs e h h:=⟨fun _ _ _ _ _ q=>q,fun b o _ q=>⟨o.slots,q⟩,fun _ o q=>⟨o,q⟩,aJ _⟩
theorem Stp.trans{h1 h2:Heap}(x:Stp N fs e h h1)(y:Stp N fs e h1 h2):Stp N fs e h h2:=
 ⟨fun b o l n z q=>y.keep b o l n z (x.keep b o l n z q),fun b o m q=>let ⟨_,q1⟩:=x.slot b o m q;let ⟨sl,q2⟩:=y.slot b _ m q1;⟨sl,q2⟩,fun b o q=>let ⟨o1,q1⟩:=x.all b o q;y.all b o1 q1,bJ x.sz y.sz⟩
variable {b:Addr}{o:Obj}
theorem P9{a:Addr}{f:Obj->Obj}{oa:Obj}(q:h.get? b=some o)(qa:h.get? a=some oa)(hf:(f oa).isFreed=false):∃ o',(h.update a f).get? b=some o':=by
 by_cases z:a=b
 ·subst z;exact ⟨_,dM f qa hf⟩
 ·exact ⟨o,(cQ h f z).trans q⟩
variable {M:Model}{A:fA}{E:aE->aH->Prop}{s:aH}{base:Heap}{k:Nat}{l:List fP}{Q:Unit->aH->Prop}
section
variable {env:fP}{outer:List fP}{L:Addr}
theorem Xm{x:aE}(hd:o.data = .fields vs)(hq:(o.cls = .ref Ca/\o.dict=dd)/\1 < vs.size/\o.slots=#[])(hg:h.get? e=some (o.mapFields (·.setIfInBounds k x))) :
  XObj e Ca dd h (vs.setIfInBounds k x):=by
 obtain ⟨cl,di,da,sl⟩:=o
 dsimp only at hd hq
 subst hd
 exact ⟨_,hg,hq.1.1,hq.1.2,rfl,by rw[Array.size_setIfInBounds];exact hq.2.1,hq.2.2⟩
theorem Age(fr:h.FunFrames base l)(q:h.get? b=some o)(hd:o.data = .fields vs):b∉frs l:=fun m=>by
 obtain ⟨_,o',ho,hnf⟩:=fr.mem m
 rw[q] at ho
 cases ho
 exact hnf vs hd
theorem S8{head:aE}{hadNext:Bool}{vs:Array aE}{Q:Unit->aH->Prop}(hfr:A.frames=some (env::outer))(hf:env.frame=some L)
  (hN:N<=s.heap.objs.size) (fr:s.heap.FunFrames base (env::outer)) (hx:XObj e Ca dd s.heap vs)
  (hQ:∀ h',Tra N e Ca dd (rawInt L) h'->Stp N (frs (env::outer)) e s.heap h'->h'.FunFrames base (env::outer)->Q () { s with heap:=h' }) :
  wpAny M A (do setField (.ref e) 1 (<- oZ head (<- frameOf env) .none (rawInt L) .none (<- entryPlaceOf L hadNext))) Q E s:=by
 obtain ⟨oe,he,hc,hdd,hd,hsz,hsl⟩:=hx
 have noFr:e∉frs (env::outer):=Age fr he hd
 refine aF (wpAny_frameOf_fun hfr fr hf fun h1 so=>?_)
 refine aF (wpAny_entryPlaceOf fun pl hpl=>?_)
 unfold oZ newFields
 refine aF (dY ?_ (hpl.sizeOk5 _ _ _ _ _))
 generalize hT:({ cls:=.type "traceback",dict:=none,data:=.fields ([head,.ref L,.none,rawInt L,.none]++(if pl.isEmpty then bF 6 dO else pl)).toArray }:Obj)=oT
 have e1:h1.get? e=some oe:=(so.2.1 e noFr).trans he
 have e2:(h1.push oT).get? e=some oe:=aI oT e1
 have z1:h1.objs.size=s.heap.objs.size:=so.1
 have hne:h1.objs.size≠e:=cP (aO e1)
 have hd3:=dR hd (·.setIfInBounds 1 (bP h1.objs.size))
 have e3:=dM (eS (·.setIfInBounds 1 (bP h1.objs.size))) e2 (eD hd3)
 have hTf:oT.isFreed=false:=by subst hT;rfl
 have t3:((h1.push oT).update e (eS (·.setIfInBounds 1 (bP h1.objs.size)))).get? h1.objs.size=some oT:=(cQ _ _ (eG hne)).trans (bI h1 hTf)
 have up:∀ b o,b≠e->h1.get? b=some o->((h1.push oT).update e (eS (·.setIfInBounds 1 (bP h1.objs.size)))).get? b=some o:=fun b o hb q=>by
  rw[cQ _ _ (eG hb)]
  exact aI oT q
 refine iR e2 hd hsz (hQ _ ?_ ⟨fun b o _ hb hbe q=>up b o hbe ((so.2.1 b hb).trans q),fun b o hb q=>?_,fun b o q=>?_,?_⟩ (fr.of_keeps fun b o q hnf=>?_))
 ·refine ⟨_,h1.objs.size,oT,_,Xm hd ⟨⟨hc,hdd⟩,hsz,hsl⟩ e3,by simp[hsz],by rw[z1];exact hN,hne,t3,by subst hT;rfl,?_⟩
  first
   | (simp;done)
   | (rcases hpl with rfl | ⟨_,_,_,_,_,_,_,rfl⟩ <;> simp)
 ·obtain ⟨sl,q2⟩:=so.2.2 b o q
  exact ⟨sl,up b _ (fun z=>noFr (z ▸ hb)) q2⟩
 ·obtain ⟨sl,q2⟩:=so.2.2 b o q
  exact P9 (aI oT q2) e2 (eD (dR hd _))
 ·rw[iD,gR,z1];exact gE _
 ·obtain ⟨sl,q2⟩:=so.2.2 b o q
  exact ⟨_,up b _ (fun z=>by rw[z,he] at q;cases q;exact hnf vs hd) q2,rfl⟩
theorem Va(hfr:A.frames=some (env::outer))(hf:env.frame=some L)(fr:s.heap.FunFrames base (env::outer))(F:Fly N e Ca dd s.heap)
  (hQ:∀ h',Tra N e Ca dd (rawInt L) h'->Stp N (frs (env::outer)) e s.heap h'->h'.FunFrames base (env::outer)->Q () { s with heap:=h' }):wpAny M A (noteFrame (.ref e) env) Q E s:=by
 unfold noteFrame
 simp only[hf]
 rcases F.2 with ⟨vs,hx,h1⟩ | ⟨fl,vs,T,oT,ts,hx,h1,hB,hne,hT,hdT,h3⟩
 ·obtain ⟨oe,he,hc,hdd,hd,hsz,hsl⟩:=id hx
  refine aF (dQ he hd h1 ?_)
  rw[if_neg (by decide)]
  exact S8 hfr hf F.1 fr hx hQ
 ·obtain ⟨oe,he,hc,hdd,hd,hsz,hsl⟩:=id hx
  refine aF (dQ he hd h1 ?_)
  rw[if_pos (show (bP T != dO)=true from by simp)]
  refine aF (dQ hT hdT h3 ?_)
  by_cases hfl:(fl == rawInt L)=true
  ·rw[if_pos hfl]
   have hfl':fl=rawInt L:=by simpa using hfl
   subst hfl'
   exact aX (hQ s.heap ⟨vs,T,oT,ts,hx,h1,hB,hne,hT,hdT,h3⟩ .refl fr)
  rw[if_neg hfl]
  refine aF (iR hT hdT (iS.mp h3).1 ?_)
  have other:∀ b,b≠T->(s.heap.update T (eS (·.setIfInBounds 3 dO))).get? b=s.heap.get? b:=fun b hb=>cQ _ _ (eG hb)
  have noT:∀ b o,s.heap.get? b=some o->(∀ ws,o.data≠.fields ws)->b≠T:=fun b o q n z=>by
   rw[z,hT] at q;cases q;exact n ts hdT
  refine S8 (N:=N) (s:={ s with heap:=s.heap.update T (eS (·.setIfInBounds 3 dO)) }) hfr hf (by show N<=(s.heap.update T _).objs.size;rw[iD];exact F.1)
   (fr.of_keeps fun b o q n=>⟨o,(other b (noT b o q n)).trans q,rfl⟩) ⟨oe,(other e (eG hne)).trans he,hc,hdd,hd,hsz,hsl⟩ fun h' F' up fr'=>hQ h' F' ⟨fun b o l n z q=>?_,fun b o m q=>?_,fun b o q=>?_,?_⟩ fr'
  ·exact up.keep b o l n z ((other b (fun y=>absurd l (by rw[y];exact mL.mpr hB))).trans q)
  ·exact up.slot b o m ((other b fun y=>Age fr hT hdT (y ▸ m)).trans q)
  ·obtain ⟨o1,q1⟩:=P9 (f:=eS (·.setIfInBounds 3 dO)) q hT (eD (dR hdT _))
   exact up.all b o1 q1
  ·have:=up.sz
   rw[show ({ s with heap:=s.heap.update T (eS (·.setIfInBounds 3 dO)) }:aH).heap.objs.size=s.heap.objs.size from iD _ _ _] at this
   exact this
theorem Lv{fl:aE}{frm:Option Addr}(fr:s.heap.FunFrames base l)(F:Tra N e Ca dd fl s.heap)
  (hQ:∀ h',Tra N e Ca dd (frm.elim dO fun f=>rawInt f) h'->Stp N (frs l) e s.heap h'->h'.FunFrames base l->Q () { s with heap:=h' }):wpAny M A (setFlight (.ref e) frm) Q E s:=by
 obtain ⟨vs,T,oT,ts,hx,h1,hB,hne,hT,hdT,h3⟩:=F
 obtain ⟨oe,he,hc,hdd,hd,hsz,hsl⟩:=id hx
 unfold setFlight
 refine aF (dQ he hd h1 ?_)
 rw[if_pos (show (bP T != dO)=true from by simp)]
 have hs3:3 < ts.size:=(iS.mp h3).1
 have noT:∀ b o,s.heap.get? b=some o->(∀ ws,o.data≠.fields ws)->b≠T:=fun b o q n z=>by
  rw[z,hT] at q;cases q;exact n ts hdT
 have other:∀ b,b≠T->(s.heap.update T (eS (·.setIfInBounds 3 (frm.elim dO fun f=>rawInt f)))).get? b=s.heap.get? b:=fun b hb=>cQ _ _ (eG hb)
 refine iR hT hdT hs3 (hQ _ ?_ ⟨fun b o l n z q=>(other b (fun y=>absurd l (by rw[y];exact mL.mpr hB))).trans q,fun b o m q=>⟨o.slots,(other b fun y=>Age fr hT hdT (y ▸ m)).trans q⟩,fun b o q=>P9 q hT (eD (dR hdT _)),by rw[iD];exact aJ _⟩ (fr.of_keeps fun b o q n=>⟨o,(other b (noT b o q n)).trans q,rfl⟩))
 exact ⟨vs,T,_,_,⟨oe,(other e (eG hne)).trans he,hc,hdd,hd,hsz,hsl⟩,h1,hB,hne,dM _ hT (eD (dR hdT _)),dR hdT _,by simp[hs3]⟩
theorem Ack(hfr:A.frames=some (env::outer))(hf:env.frame=some L)(fr:s.heap.FunFrames base (env::outer))(F:Fly N e Ca dd s.heap)
  (hQ:∀ h',Fly N e Ca dd h'->Stp N (frs (env::outer)) e s.heap h'->h'.FunFrames base (env::outer)->Q () { s with heap:=h' }):wpAny M A (noteFrame (.ref e) env) (fun _ s'=>wpAny M A (setFlight (.ref e) none) Q E s') E s:=by
 refine Va hfr hf fr F fun h1 F1 u1 fr1=>?_
 refine Lv (s:={ s with heap:=h1 }) fr1 F1 fun h2 F2 u2 fr2=>hQ h2 ⟨bJ F.1 (bJ u1.sz u2.sz),.inr ⟨_,F2⟩⟩ (u1.trans u2) fr2
theorem Yx(hfr:A.frames=some (env::outer))(hf:env.frame=some L)(fr:s.heap.FunFrames base (env::outer))(F:Fly N e Ca dd s.heap)
  (hQ:∀ h',Fly N e Ca dd h'->Stp N (frs (env::outer)) e s.heap h'->h'.FunFrames base (env::outer)->Q () { s with heap:=h' }):wpAny M A (leaving env (.ref e)) Q E s:=by
 unfold leaving
 exact aF (Ack hfr hf fr F hQ)
end
variable {P:cD}{w:cV}{H:Hp}{h':Heap}
theorem Acm(ok:HOk P w H h)(hf:∀ b∈fs,H b=none)(tr:∀ b o,H b=some o->b < N)(S:Stp N fs e h h')
  (me:H e=some (.ext (Co e Ca dd false))) (x:Co e Ca dd false h'):HOk P w H h':=fun a o q=>by
 by_cases ha:a=e
 ·subst ha
  rw[me] at q
  cases q
  obtain ⟨o,vs,h1,r⟩:=id x
  refine ⟨x,⟨o,h1⟩,fun h1 h2 ⟨o1,ws,q1,r1⟩ k=>⟨o1,ws,k _ q1,r1⟩⟩
 ·refine (ok a o q).stay (fun b u hb z=>?_) (fun _ z=>z) fun _ _ z=>z
  have hbt:∃ ob,H b=some ob:=by
   rcases hb with hb | hb
   ·exact ⟨o,by rw[hb];exact q⟩
   ·exact ⟨_,hb⟩
  obtain ⟨ob,hob⟩:=hbt
  refine S.keep b u (tr b ob hob) (fun m=>by rw[hf b m] at hob;cases hob) ?_ z
  rintro rfl
  rcases hb with hb | hb
  ·exact ha hb.symm
  ·rw[me] at hb;cases hb
theorem Un.stp{fs':List Addr}{H':Hp}{h0:Heap}(u:Un fs [] H H' h0 h)(S:Stp N fs' e h h')(hN:∀ b o,h0.get? b=some o->b < N/\(b∉fs->b∉fs'))(hs:∀ b∈fs,b∈fs')(me:H' e≠none):Un fs [] H H' h0 h' where
 keep:=fun b o q n hb hx=>S.keep b o (hN b o q).1 ((hN b o q).2 hb) (fun z=>me (by rw[<- z];exact u.free b o q n hx)) (u.keep b o q n hb hx)
 slot:=fun b o q n hb hx=>by
  obtain ⟨sl,q1⟩:=u.slot b o q n hb hx
  obtain ⟨sl2,q2⟩:=S.slot b _ (hs b hb) q1
  exact ⟨sl2,q2⟩
 free:=u.free
 there:=fun b o q hx=>let ⟨o1,q1⟩:=u.there b o q hx;S.all b o1 q1
 tups:=u.tups
 frzs:=u.frzs
 tbls:=u.tbls
structure Bd(X:Cx)(pins:List (Addr×Obj))(N:Nat):Prop where
 s0:X.s₀.heap.objs.size<=N
 lo:X.env.locals < N
 ce:∀ x c,X.env.cells.lookup x=some c->c < N
 pi:∀ p∈X.pn++pins,p.1 < N
variable {X:Cx}{pins:List (Addr×Obj)}{σ:L2.St}
theorem Bd.of(I:L2.Inv X pins σ H s)(h:s.heap.objs.size<=N):Bd X pins N:=
 ⟨bJ I.sz h,aG I.lt h,fun x c q=>by
  obtain ⟨v,o,ho,_⟩:=I.cell x c q
  exact aG (aO ho) h,fun p hp=>aG (aO (I.pin p hp).1) h⟩
structure FlX(X:Cx)(pins:List (Addr×Obj))(σ:L2.St)(H:Hp)(e Ca:Addr)(dd:Option Addr)(N:Nat)(s:aH):Prop where
 inv:L2.Inv X pins σ H s
 bd:Bd X pins N
 fly:Fly N e Ca dd s.heap
 tr:∀ b o,H b=some o->b < N
 me:H e=some (.ext (Co e Ca dd false))
section
theorem FlX.stk(F:FlX X pins σ H e Ca dd N s):∀ b∈frs X.stack,H b=none:=F.inv.stkFree
theorem Inv.stepX{t':Nat}(I:L2.Inv X pins σ H s)(bd:Bd X pins N)(tr:∀ b o,H b=some o->b < N)(me:H e=some (.ext (Co e Ca dd false)))(S:Stp N (frs X.stack) e s.heap h')(fl:Co e Ca dd false h')(ht:0 < t':=by first | exact cL _ | exact L2.Inv.tk (by assumption) | exact aG (L2.Inv.tk (by assumption)) (cI _ _) | assumption | omega):L2.Inv X pins σ H { s with heap:=h',toks:=t' }:=by
 refine I.call (g':=s.gens) (d':=s.drawn) (t':=t') (h':=h') (ch:=(dX s.heap.objs.size).filter (N<=·)) ⟨fun b o q n hb hx=>?_,fun b o q n hb hx=>S.slot b o hb q,fun _ _ _ n _=>n,fun b o q _=>S.all b o q,fun _ _ z=>z,fun _ _ _ z=>z,fun b ps z=>⟨#[],by rw[z];simp⟩⟩ (Acm I.hok I.stkFree tr S me fl) I.bare (fun b hb=>?_)
 ·refine S.keep b o ?_ hb (fun z=>by rw[z,me] at n;cases n) q
  by_cases hl:b < N
  ·exact hl
  ·exact absurd (jK.mpr ⟨fQ.mpr (aO q),by simpa using hl⟩) hx
 ·have hb:N<=b:=by simpa using (jK.mp hb).2
  refine ⟨.inr (bJ bd.s0 hb),fun z=>absurd bd.lo (by rw[<- z];exact mL.mpr hb),fun x c q z=>absurd (bd.ce x c q) (by rw[z];exact mL.mpr hb),fun p hp z=>absurd (bd.pi p hp) (by rw[z];exact mL.mpr hb)⟩
theorem FlX.step(F:FlX X pins σ H e Ca dd N s)(S:Stp N (frs X.stack) e s.heap h')(fl:Fly N e Ca dd h'):FlX X pins σ H e Ca dd N { s with heap:=h' }:=
 ⟨Inv.stepX (t':=s.toks) F.inv F.bd F.tr F.me S fl.excIs F.inv.tk,F.bd,fl,F.tr,F.me⟩
end
def CFl(P:cD)(w:cV)(K:aB)(outer:List fP)(H:Hp)(α:List Addr)(s:aH)(n:Nat)(L':UH)(e:aE)(s':aH):Prop:=
 ∃ ea Ca dd N H' α',e = .ref ea/\s'.os=s.os/\(mV s'.gens/\0 < s'.toks)/\Un (frs outer) [] H H' s.heap s'.heap/\HOk P w H' s'.heap/\s.heap.objs.size<=N/\Fly N ea Ca dd s'.heap/\(∀ b o,H' b=some o->b < N) /\
  H' ea=some (.ext (Co ea Ca dd false))/\Gr H α H' α'/\Abs K H' α' L'/\α'[n]? = some ea
abbrev XN:=List U->UH->Option (Nat×UH)
structure FnX(P:cD)(w:cV)(K:aB)(mg:Str->Option aE)(base:Heap)(k:Nat)(f:Addr)(fd:dN)(ps:List Str)(x:XN):Prop where
 run:∀ (A:fA) (outer:List fP) (s:aH) (H:Hp) (args:Args) (us:List aE) (vs:List V) (α:List Addr) (L:UH) (ws:List U) (n:Nat) (L':UH),Room k A->Env0 P w K mg base A outer s H->kT s fd args (ps.zip us)->Vals vs us ->
  Abs K H α L->RepL K H α ws vs->ws.length=ps.length->x ws L=some (n,L')->nQ (model P w) A (.call (.ref f) args) (fun r s'=>∃ e,r = .error e/\CFl P w K outer H α s n L' e s') s
abbrev XS:=UE->UH->Option (Nat×UE×UH)
abbrev XE:=UE->UH->Option (Nat×UH)
def FXP(X:Cx)(pins:List (Addr×Obj))(H:Hp)(α:List Addr)(n:Nat)(δ':UE)(L':UH)(e:aE)(s':aH):Prop:=
 ∃ ea Ca dd N σ' H' α',e = .ref ea/\FlX X pins σ' H' ea Ca dd N s'/\Gr H α H' α'/\Abs X.K H' α' L'/\RepS X.K H' α' δ' σ'/\α'[n]? = some ea
variable {α:List Addr}{n:Nat}{L':UH}
theorem FXP.from{H1:Hp}{α1:List Addr}{δ':UE}{e:aE}{s':aH}(g:Gr H α H1 α1)(h:FXP X pins H1 α1 n δ' L' e s'):FXP X pins H α n δ' L' e s':=by
 obtain ⟨ea,Ca,dd,N,σ',H',α',h1,h2,h3,r⟩:=h
 exact ⟨ea,Ca,dd,N,σ',H',α',h1,h2,g.trans h3,r⟩
def PXE(X:Cx)(e:Expr)(x:XE):Prop:=∀ (pins:List (Addr×Obj)) (s:aH) (σ:L2.St) (H:Hp) (α:List Addr) (δ:UE) (L:UH) (n:Nat) (L':UH),L2.Inv X pins σ H s->Abs X.K H α L->RepS X.K H α δ σ->x δ L=some (n,L') ->
 wpAny (model X.prog X.w) X.A (eval e X.env) (fun _ _=>False) (FXP X pins H α n δ L') s
def PXS(X:Cx)(st:Stmt)(x:XS):Prop:=∀ (pins:List (Addr×Obj)) (s:aH) (σ:L2.St) (H:Hp) (α:List Addr) (δ:UE) (L:UH) (n:Nat) (δ':UE) (L':UH),L2.Inv X pins σ H s->Abs X.K H α L->RepS X.K H α δ σ->x δ L=some (n,δ',L') ->
 wpAny (model X.prog X.w) X.A (exec st X.env) (fun _ _=>False) (FXP X pins H α n δ' L') s
def Tj(X:Cx)(sts:List Stmt)(x:XS):Prop:=∀ (pins:List (Addr×Obj)) (s:aH) (σ:L2.St) (H:Hp) (α:List Addr) (δ:UE) (L:UH) (n:Nat) (δ':UE) (L':UH),L2.Inv X pins σ H s->Abs X.K H α L->RepS X.K H α δ σ->x δ L=some (n,δ',L') ->
 wpAny (model X.prog X.w) X.A (execs sts X.env) (fun _ _=>False) (FXP X pins H α n δ' L') s
variable {L:UH}{es:List Expr}{st:Stmt}{δ:UE}{pos:Pos}
section
variable {e:Expr}
theorem PEF.go{f:FE}{u:U}{Q:aE->aH->Prop}(h:PEF X e f)(hx:∀ e s,X.xe e s->False)(I:L2.Inv X pins σ H s)(A:Abs X.K H α L)(S:RepS X.K H α δ σ)(hf:f δ L=some (u,L'))
  (q:∀ x v H' α' s',L2.Inv X pins σ H' s'->Gr H α H' α'->Abs X.K H' α' L'->RepU X.K H' α' u v->Cm v x->Q x s'):wpAny (model X.prog X.w) X.A (eval e X.env) Q E s:=
 cA (h pins s σ H (fun v H'=>∃ α',Gr H α H' α'/\Abs X.K H' α' L'/\RepU X.K H' α' u v) I ⟨α,δ,L,A,S,u,L',hf,fun v H' α' g A' r=>⟨α',g,A',r⟩⟩) (fun x s' ⟨v,H',I',rv,α',g,A',r⟩=>q x v H' α' s' I' g A' r rv) fun _ _ z=>(hx _ _ z).elim
theorem PTF.go{f:FT}{b:Bool}{Q:Bool->aH->Prop}(h:PTF X e f)(hx:∀ e s,X.xe e s->False)(I:L2.Inv X pins σ H s)(A:Abs X.K H α L)(S:RepS X.K H α δ σ)(hf:f δ L=some (b,L'))
  (q:∀ H' α' s',L2.Inv X pins σ H' s'->Gr H α H' α'->Abs X.K H' α' L'->Q b s'):wpAny (model X.prog X.w) X.A (isTrue e X.env (eval e X.env)) Q E s:=
 cA (h pins s σ H (fun b' H'=>b'=b/\∃ α',Gr H α H' α'/\Abs X.K H' α' L') I ⟨α,δ,L,A,S,b,L',hf,fun H' α' g A'=>⟨rfl,α',g,A'⟩⟩) (fun x s' ⟨H',I',hb,α',g,A'⟩=>by subst hb;exact q H' α' s' I' g A') fun _ _ z=>(hx _ _ z).elim
theorem PAF.go{f:FA}{us:List U}{Q:List aE->aH->Prop}(h:PAF X es f)(hx:∀ e s,X.xe e s->False)(I:L2.Inv X pins σ H s)(A:Abs X.K H α L)(S:RepS X.K H α δ σ)(hf:f δ L=some (us,L'))
  (q:∀ xs vs H' α' s',L2.Inv X pins σ H' s'->Gr H α H' α'->Abs X.K H' α' L'->RepL X.K H' α' us vs->Vals vs xs->Q xs s'):wpAny (model X.prog X.w) X.A (spliced (backTo pos (aN es X.env))) Q E s:=
 cA (h pos pins s σ H (fun vs H'=>∃ α',Gr H α H' α'/\Abs X.K H' α' L'/\RepL X.K H' α' us vs) I ⟨α,δ,L,A,S,us,L',hf,fun vs H' α' g A' r=>⟨α',g,A',r⟩⟩) (fun x s' ⟨vs,H',I',rv,α',g,A',r⟩=>q x vs H' α' s' I' g A' r rv) fun _ _ z=>(hx _ _ z).elim
end
variable {y:XS}
section
variable {e:Expr}{rest:List Stmt}
def xNo:XS:=fun _ _=>none
theorem Abj:PXS X st xNo:=fun _ _ _ _ _ _ _ _ _ _ _ _ _ z=>nomatch z
def Lh(f:FS)(x y:XS):XS:=fun δ L=>match x δ L with
 | some r=>some r
 | none=>match f δ L with
  | some (.nx δ',L')=>y δ' L'
  | _=>none
theorem Oz{f:FS}{x:XS}(h:PSF X st f)(h1:PXS X st x)(h2:Tj X rest y)(hx:∀ e s,X.xe e s->False:=by exact fun _ _ z=>z):Tj X (st::rest) (Lh f x y):=by
 intro pins s σ H α δ L n δ' L' I A S q
 unfold Lh at q
 cases q1:x δ L with
 | some r=>
  rw[q1] at q
  cases q
  exact gP (cA (h1 pins s σ H α δ L n δ' L' I A S q1) (fun _ _ z=>z.elim) fun _ _ z=>z)
 | none=>
  rw[q1] at q
  simp only at q
  split at q
  ·rename_i δ1 L1 q2
   refine gP (cA (h pins s σ H { nx:=fun σ1 H1=>∃ α1,Gr H α H1 α1/\Abs X.K H1 α1 L1/\RepS X.K H1 α1 δ1 σ1,rt:=fun _ _=>False } I ⟨α,δ,L,A,S,.nx δ1,L1,q2,fun σ1 H1 α1 g1 A1 S1=>⟨α1,g1,A1,S1⟩⟩) (fun fl s1 hs=>?_) fun _ _ z=>(hx _ _ z).elim)
   cases fl with
   | next=>
    obtain ⟨σ1,H1,I1,α1,g1,A1,S1⟩:=hs
    exact cA (h2 pins s1 σ1 H1 α1 δ1 L1 n δ' L' I1 A1 S1 q) (fun _ _ z=>z.elim) fun _ _ z=>z.from g1
   | ret v=>obtain ⟨_,_,_,_,_,z⟩:=hs;exact z.elim
   | brk=>obtain ⟨_,_,_,z⟩:=hs;exact z.elim
   | cont=>obtain ⟨_,_,_,z⟩:=hs;exact z.elim
  ·cases q
theorem Aca{x:XS}(h1:PXS X st x):Tj X [st] x:=by
 intro pins s σ H α δ L n δ' L' I A S q
 exact gP (cA (h1 pins s σ H α δ L n δ' L' I A S q) (fun _ _ z=>z.elim) fun _ _ z=>z)
def xOf(x:XE):XS:=fun δ L=>(x δ L).map fun r=>(r.1,δ,r.2)
theorem Apw{x:XE}{δ':UE}(q:xOf x δ L=some (n,δ',L')):x δ L=some (n,L')/\δ' = δ:=by
 unfold xOf at q
 obtain ⟨r,h1,h2⟩:=mpd q
 cases h2
 exact ⟨h1,rfl⟩
def xIf(c:FT)(x y:XS):XS:=fun δ L=>match c δ L with
 | some (b,L1)=>if b=true then x δ L1 else y δ L1
 | none=>none
theorem Aro{c:Expr}{a b:List Stmt}{tc:FT}{x:XS}(hc:PTF X c tc)(ha:Tj X a x)(hb:Tj X b y)(hx:∀ e s,X.xe e s->False:=by exact fun _ _ z=>z):PXS X (.If c a b pos) (xIf tc x y):=by
 intro pins s σ H α δ L n δ' L' I A S q
 unfold xIf at q
 split at q
 ·rename_i k L1 q1
  refine wpAny_If (hc.go hx I A S q1 fun H1 α1 s1 I1 g1 A1=>?_)
  cases k with
  | true=>exact cA (ha pins s1 σ H1 α1 δ L1 n δ' L' I1 A1 (S.mono g1) q) (fun _ _ z=>z.elim) fun _ _ z=>z.from g1
  | false=>exact cA (hb pins s1 σ H1 α1 δ L1 n δ' L' I1 A1 (S.mono g1) q) (fun _ _ z=>z.elim) fun _ _ z=>z.from g1
 ·cases q
theorem Ao7{sts:List Stmt}:Tj X sts xNo:=fun _ _ _ _ _ _ _ _ _ _ _ _ _ z=>nomatch z
end
variable {f:Addr}{x C:Str}{p apos:Pos}{fd:dN}{ps:List Str}{g:FA}
section
variable {e o:Expr}{m:Str}{fa:Addr}{F:XN}{fo:FE}
theorem Aow{pins:List (Addr×Obj)}{σ:L2.St}{H:Hp}{α:List Addr}{δ:UE}{L L':UH}{s:aH}{us:List aE}{vs:List V}{ws:List U}{r:Nat}{Q:aE->aH->Prop}(hF:FnX X.prog X.w X.K X.mg X.base k f fd ps F)(hr:Room k X.A)(hb:Binds X.K fd ps [])
  (I:L2.Inv X pins σ H s) (A:Abs X.K H α L) (S:RepS X.K H α δ σ) (rv:Vals vs us) (rl:RepL X.K H α ws vs) (hl:ws.length=ps.length) (q:F ws L=some (r,L')) :
  wpAny (model X.prog X.w) X.A (call (.ref f) us) Q (FXP X pins H α r δ L') s:=by
 have h1:us.length=ps.length:=by rw[<- rv.length,<- rl.length];exact hl
 have hbt:kT s fd ⟨us,[]⟩ (ps.zip us):=by have:=hb s us I.kIn (by rw[cR];exact h1);rwa [cR] at this
 refine kM (lV (hF.run X.A X.stack s H ⟨us,[]⟩ us vs α L ws r L' hr I.env0 hbt rv A rl hl q) fun res s' hq=>?_)
 obtain ⟨ev,rfl,ea,Cx,dd,N,H',α',rfl,os,bare,un,hok,hN,fl,tr,me,g',A',at'⟩:=hq
 refine ⟨ea,Cx,dd,N,σ,H',α',rfl,⟨?_,.of I hN,fl,tr,me⟩,g',A',S.mono g',at'⟩
 exact I.call' os un hok bare.1 (fun b z=>absurd z (by simp)) bare.2
def Ai9(n:Nat)(F:XN)(g:FA):XE:=fun δ L=>(g δ L).bind fun p=>if p.1.length=n then F p.1 p.2 else none
theorem Ait(hF:FnX X.prog X.w X.K X.mg X.base k f fd ps F)(hr:Room k X.A)(hg:Gl X x)(hm:X.mg x=some (.ref f))(hk:cN X.K (.ref f)=true)(hb:Binds X.K fd ps [])(ha:PAF X (e::es) g)
  (hn:n=ps.length:=by rfl) (hx:∀ e s,X.xe e s->False:=by exact fun _ _ z=>z) (hdb:(x == ("__debug__" : Str))=false:=by decide) (he:aN (e::es) X.env=(false,eval e X.env)::aN es X.env:=by rfl) (hpl:(backTo pos (aN es X.env)).any (·.1)=false:=by rfl) :
  PXE X (.Call (.Name x p) (e::es) [] pos) (Ai9 n F g):=by
 intro pins s σ H α δ L r L' I A S q
 obtain ⟨ws,L1,q1,q⟩:=B9 q
 simp only at q
 split at q
 ·rename_i hl
  refine fR (Kr I hg hm ?_ hdb)
  refine mF (h₀:=X.base) I.ok.mod.kin hk (ha.go hx I A S q1 fun us vs H1 α1 s1 I1 g1 A1 rl rv=>⟨I1.kIn,?_⟩) he hpl
  exact cA (Aow (Q:=fun _ _=>False) (δ:=δ) hF hr hb I1 A1 (S.mono g1) rv rl (hl.trans hn) q) (fun _ _ z=>z) fun _ _ z=>z.from g1
 ·cases q
end
def fnX(N m:Nat)(x:XS):XN:=fun us L=>if us.length=m then (x (us.map some++bF (N - us.length) none) L).map fun r=>(r.1,r.2.2) else none
variable {K:aB}
section
variable {mg:Str->Option aE}
theorem Fun.okX{qual:Str}{N:List Str}{body:XS}(F:Fun K x qual st f fd)(S:FnScope N ps (Aq st))
  (hbody:∀ (cdv:aE) (A:fA) (outer:List fP) (s:aH) (H:Hp) (E:XK),Room k (A.deeper (envOfC qual (Aq st) s.heap.objs.size f cdv))->Tj (Ti CX0 P w K mg base N qual (Aq st) f cdv A outer s H E).nox (Ey st) body) :
  FnX P w K mg base (k+1) f fd ps (fnX N.length ps.length body):=by
 obtain ⟨oc,od,kV,doc,pm,an,cdv,ct,osl,rfl,lk,hcd⟩:=F.ex
 refine ⟨fun A outer s H args us vs α L ws n L' hr e0 hb rv Ab rl hl q=>?_⟩
 unfold fnX at q
 rw[if_pos hl] at q
 obtain ⟨⟨n1,δ1,L1⟩,qb,q2⟩:=kB.mp q
 cases q2
 have hvl:vs.length=ps.length:=by rw[<- rl.length];exact hl
 have KX:K.In s.heap:=e0.mod.kin.keeps fun b o e=>(e0.bs b o e).1
 have lim:s.heap.NoLimit:=e0.mod.nolimit.keeps fun b o e=>(e0.bs b o e).1
 have hkind:∀ y∈ps.zip us,(Aq st).names.lookup y.1=some .local\/((Aq st).names.lookup y.1=some .cell/\((cellsFrom (s.heap.objs.size+1) (Aq st).names []).lookup y.1).isSome=true):=fun ⟨y,v⟩ hy=>by
  rcases S.par y (iG hy).1 with z | z
  ·exact .inl z
  ·exact .inr ⟨z,jW _ _ _ (.inl z)⟩
 refine oB hr.depth (KX _ _ lk) rfl S.co S.gen rfl (pT KX hcd) (hb _ _ _ _ ?_)
 refine wtk e0.tk (mG S.kind hkind fun env he s1 xc ht=>?_)
 subst he
 refine ⟨lim.keeps xc.toInCall.keep,codeAny_func ?_⟩
 have I:L2.Inv (Ti CX0 P w K mg base N qual (Aq st) f cdv A outer s H E0) [] (start N vs) H s1:=Uq S hr.hd e0 hvl rv ht xc
 refine cA (hbody cdv A outer s H E0 (hr.deeper _) [] s1 (start N vs) H α _ L n1 δ1 L1 (I.wish _) Ab (RepS.start N rl) qb) (fun _ _ z=>z.elim) fun e s' hs=>?_
 obtain ⟨ea,Ca,dd,Nn,σ',H',α',rfl,Fl,g',A',S',at'⟩:=hs
 refine Yx (oI e0.frames) rfl Fl.inv.stack Fl.fly fun h2 fl2 st2 fr2=>?_
 have J:=Fl.inv
 refine ⟨_,rfl,ea,Ca,dd,Nn,H',α',rfl,J.os,⟨J.bare,J.tk⟩,?_,Acm J.hok J.stkFree Fl.tr st2 Fl.me fl2.excIs,Fl.bd.s0,fl2,Fl.tr,Fl.me,g',A',at'⟩
 refine Un.stp (fs:=frs outer) J.base st2 (fun b o hb=>⟨aG (aO hb) Fl.bd.s0,fun nb m=>?_⟩) (fun b hb=>?_) (by rw[Fl.me];intro z;cases z)
 ·rcases aV.mp (J.stkSub b m) with z | z
  ·exact absurd (aO hb) (by rw[z];exact mL.mpr J.ok.above)
  ·exact nb z
 ·show b∈frs (_::outer)
  unfold frs
  rw[iZ]
  exact aR _ hb
end
def bmV:List aE:=[.type "ValueError",.type "Exception",.type "BaseException",.type "object"]
def Aik(d:Data):Option ClassData:=match d with
 | .cls cd=>some cd
 | _=>none
theorem Aju{d:Data}{cd:ClassData}(h:Aik d=some cd):d = .cls cd:=by
 unfold Aik at h
 split at h
 ·cases h;rfl
 ·cases h
def Lb(K:aB)(C:Addr):Bool:=match K.lookup C with
 | some o=>(o.cls == .type "type" && (match Aik o.data with | some cd=>!cd.hasDel&&(cd.mro.head? == some (.ref C)&&PySem.W.tailIn K bmV cd.mro.tail) | none=>false))&&(o.slots.toList.length == 6&&o.slots.toList[4]? == some (some (.builtin "ValueError.__new__")))
 | none=>false
theorem six{α:Type}{l:List α}{k:α}(h:l.length=6)(e:l[4]? = some k):∃ k0 k1 k2 k3 k5,l=[k0,k1,k2,k3,k,k5]:=by
 rcases l with _ | ⟨k0,l⟩
 ·cases h
 rcases l with _ | ⟨k1,l⟩
 ·cases h
 rcases l with _ | ⟨k2,l⟩
 ·cases h
 rcases l with _ | ⟨k3,l⟩
 ·cases h
 rcases l with _ | ⟨k4,l⟩
 ·cases h
 rcases l with _ | ⟨k5,l⟩
 ·cases h
 rcases l with _ | ⟨_,l⟩
 ·cases e;exact ⟨k0,k1,k2,k3,k5,rfl⟩
 ·cases h
theorem Ow{C:Addr}(X:K.In h)(q:Lb K C=true):∃ nm qn N bs bm hdct sn sub ab col dd k0 k1 k2 k3 k5,
  h.get? C=some (excClassObj nm qn C N bs bm hdct sn sub ab col dd k0 k1 k2 k3 k5 "ValueError.__new__")/\OwnTail h bmV bm:=by
 unfold Lb at q
 cases ho:K.lookup C with
 | none=>rw[ho] at q;cases q
 | some o=>
  rw[ho] at q
  obtain ⟨q1,q2⟩:=fI.mp q
  obtain ⟨q1,q3⟩:=fI.mp q1
  obtain ⟨q4,q5⟩:=fI.mp q2
  obtain ⟨cls,dd,dat,⟨l⟩⟩:=o
  obtain ⟨k0,k1,k2,k3,k5,e6⟩:=six (beq_iff_eq.mp q4) (beq_iff_eq.mp q5)
  obtain rfl:l=_:=e6
  obtain rfl:=beq_iff_eq.mp q1
  cases hd:Aik dat with
  | none=>simp only[hd] at q3;cases q3
  | some cd=>
   simp only[hd] at q3
   obtain ⟨nm,bs,mro,ns,qn,hdt,sn,sub,ab,col,del⟩:=cd
   obtain rfl:=Aju hd
   obtain ⟨q6,q7⟩:=fI.mp q3
   obtain ⟨q7,ht⟩:=fI.mp q7
   cases mro with
   | nil=>cases beq_iff_eq.mp q7
   | cons D bm=>
    cases beq_iff_eq.mp q7
    cases del with
    | true=>cases q6
    | false=>exact ⟨nm,qn,ns,bs,bm,hdt,sn,sub,ab,col,dd,k0,k1,k2,k3,k5,X _ _ ho,PySem.W.tail_of_in X ht⟩
abbrev Afe(rest:List aE):Obj:={ cls:=.type "tuple",data:=.seq rest.toArray }
abbrev Aa1(C t:Addr):Obj:={ cls:=.ref C,data:=.fields #[.ref t,.none,.none,.none,.bool false,.none] }
abbrev Jq(h:Heap)(C:Addr)(rest:List aE):Heap:=(h.push (Afe rest)).push (Aa1 C h.objs.size)
section
variable {prog:cD}{C:Addr}{rest:List aE}
theorem exHeap_e:(Jq h C rest).get? (h.objs.size+1)=some (Aa1 C h.objs.size):=by
 have:=bI (h.push (Afe rest)) (o:=Aa1 C h.objs.size) rfl
 rwa [gR] at this
theorem Xv(q:h.get? b=some o):(Jq h C rest).get? b=some o:=aI _ (aI _ q)
theorem Aey{g:Array mC}{d:Drawn}{t:Nat}{os:gF}{Q:Fin->aH->Prop}(X:K.In h)(q:Lb K C=true)(hf:bR K (.ref C) "__init__" = some (some (.ref f)))(ht:rX K (.ref f)=some (.type "function"))(hl:rest.length<=sizeLine)
  (k:wpAny (model prog w) A (call (.ref f) (.ref (h.objs.size+1)::rest)) (fun r s'=>r = .none/\Q (.done (.ret (.ref (h.objs.size+1)))) s') E ⟨Jq h C rest,g,d,t,os⟩) :
  wpAny (model prog w) A (nA.«type.__call__» ⟨.ref C::rest,[]⟩) Q E ⟨h,g,d,t,os⟩:=by
 obtain ⟨nm,qn,N,bs,bm,hdct,sn,sub,ab,col,dd,k0,k1,k2,k3,k5,hC,T⟩:=Ow X q
 have FV:ExcBaseFacts "ValueError" "ValueError.__new__" "ValueError.__init__" bmV:=mM
 repeat (first | with_reducible refine iP hC ?_ | with_reducible refine wpAny_madeBy_exc hC ?_ | wp_step)
 refine codeAny_call_builtin_code (pX _ FV.quiet) (wpAny_check_new_subT FV T hC ?_)
 refine codeAny_exc_new_subT FV T hC ?_ hl
 show wpAny _ _ _ _ _ _
 have hC1:=aI { cls:=.ref C,data:=.fields #[.ref h.objs.size,.none,.none,.none,.bool false,.none] } (aI { cls:=.type "tuple",data:=.seq rest.toArray } hC)
 have X1:K.In (Jq h C rest):=X.keeps fun b o e=>Xv e
 have hget:((h.push { cls:=.type "tuple",data:=.seq rest.toArray }).push { cls:=.ref C,data:=.fields #[.ref h.objs.size,.none,.none,.none,.bool false,.none] }).get? (h.objs.size+1)=some { cls:=.ref C,data:=.fields #[.ref h.objs.size,.none,.none,.none,.bool false,.none] }:=exHeap_e
 have hcC:(bP C::bm).contains (.ref C)=true:=by simp
 unfold isInstance
 repeat (first | with_reducible refine iP hget ?_ | (with_reducible refine pA hC1 ?_;rw[hcC]) | wp_step)
 show wpAny _ _ (typeLookup (.ref C) _) _ _ _
 refine fD (s:=⟨Jq h C rest,g,d,t,os⟩) (lB X1 hf) ?_
 refine gH (aF ?_)
 unfold bindSpecial
 refine aF (fD (s:=⟨Jq h C rest,g,d,t,os⟩) (PySem.W.looks_typeIn X1 ht) ?_)
 rw[if_pos (by decide)]
 refine aX (aF (cA k (fun r s' hr=>?_) fun _ _ x=>x))
 obtain ⟨rfl,hQ⟩:=hr
 wp_walk
 exact hQ
theorem Agp{Q:aE->aH->Prop}(X:K.In s.heap)(q:Lb K C=true)(hf:bR K (.ref C) "__init__" = some (some (.ref f)))(ht:rX K (.ref f)=some (.type "function"))(hl:rest.length<=sizeLine)
  (k:wpAny (model prog w) (A.under (.builtin "type.__call__" ⟨.ref C::rest,[]⟩)) (call (.ref f) (.ref (s.heap.objs.size+1)::rest)) (fun r s'=>r = .none/\Q (.ref (s.heap.objs.size+1)) s') E { s with heap:=Jq s.heap C rest }) :
  wpAny (model prog w) A (call (.ref C) rest) Q E s:=by
 obtain ⟨h,g,d,t,os⟩:=s
 obtain ⟨nm,qn,N,bs,bm,hdct,sn,sub,ab,col,dd,k0,k1,k2,k3,k5,hC,T⟩:=Ow X q
 have x1:=tc_lookup
 have x2:=tc_bind (.ref C)
 have hT:(⟨h,g,d,t,os⟩:aH).TypeIs (.ref C) "type" := ⟨_,hC,rfl⟩
 refine kM (codeAny_of_tree ?_)
 show wpAny _ _ (callAny (.ref C) _) _ _ _
 repeat (any_goals (first | assumption | with_reducible refine iP hC ?_ | wp_step))
 refine ⟨rfl,?_⟩
 exact codeAny_call_builtin_at (pX _ (by decide +kernel)) entry_typeCall (wpAny_check_type_call_sub hC (Aey X q hf ht hl k))
end
variable {fr:Bool}
theorem Oi(x:Co e Ca dd fr h):ObjOk P w H h e (.ext (Co e Ca dd fr)):=by
 obtain ⟨o,vs,h1,r⟩:=id x
 exact ⟨x,⟨o,h1⟩,fun h1 h2 ⟨o1,ws,q1,r1⟩ k=>⟨o1,ws,k _ q1,r1⟩⟩
structure MkX(K:aB)(C f:Addr):Prop where
 ex:Lb K C=true
 init:bR K (.ref C) "__init__" = some (some (.ref f))
 fn:nP K (.ref f)=true
 kp:cN K (.ref C)=true
def Aph(Ca:Addr)(sp:Sp)(t:TA):TE:=fun σ H Q=>t σ H fun vs H1=>vs.length<=sizeLine/\∀ x,H1 x=none->sp (.ref x::vs) (upd H1 x (.ext (Co x Ca none true))) (fun v H2=>v = .non/\Q (.ref x) H2) E0
section
variable {sp:Sp}{e:Expr}{t:TA}
theorem Aep{Q:VK}{us:List aE}{vs:List V}(M:MkX X.K Ca f)(F:FnOk X.prog X.w X.K X.mg X.base CX0 k f fd ps sp)(hr:Room (k+1) X.A)(hb:Binds X.K fd ps [])
  (I:L2.Inv X pins σ H s) (r:Vals vs us) (hz:vs.length<=sizeLine) (h:∀ x,H x=none->sp (.ref x::vs) (upd H x (.ext (Co x Ca none true))) (fun v H2=>v = .non/\Q (.ref x) H2) E0) :
  wpAny (model X.prog X.w) X.A (call (.ref Ca) us) (EP X pins σ Q) X.xe s:=by
 have hq:=h (s.heap.objs.size+1) (I.hok.fresh (gE _))
 have x0:Co (s.heap.objs.size+1) Ca none true (Jq s.heap Ca us):=⟨_,_,exHeap_e,rfl,rfl,rfl,by simp,rfl,fun _=>rfl⟩
 have I2:L2.Inv X pins σ (upd H (s.heap.objs.size+1) (.ext (Co (s.heap.objs.size+1) Ca none true))) { s with heap:=Jq s.heap Ca us,toks:=s.toks }:=I.laid (fun b u q=>Xv q) (gE _) (Oi x0)
 have r2:Vals (V.ref (s.heap.objs.size+1)::vs) (bP (s.heap.objs.size+1)::us):=.cons rfl r
 have hl:(bP (s.heap.objs.size+1)::us++[]).length=ps.length:=by rw[cR,<- r2.length];exact F.len _ _ _ _ hq
 have hbt:=hb { s with heap:=Jq s.heap Ca us,toks:=s.toks } (bP (s.heap.objs.size+1)::us) I2.kIn hl
 rw[cR] at hbt
 refine Agp (f:=f) I.kIn M.ex M.init (beq_iff_eq.mp M.fn) (by rw[<- r.length];exact hz) ?_
 refine kM (lV (F.run _ X.stack _ _ ⟨_,[]⟩ _ _ _ E0 (hr.make Ca us []) (I2.env0.make Ca us []) hbt r2 hq) fun r s' hq'=>?_)
 cases r with
 | error e=>exact eL hq'
 | ok fl=>
  cases fl with
  | ret u=>
   obtain ⟨v,H',I3,rv,ev,q3⟩:=I2.after hq'
   subst ev
   exact ⟨rv,⟨V.ref (s.heap.objs.size+1),H',I3,rfl,q3⟩⟩
  | next=>exact eL hq'
  | brk=>exact eL hq'
  | cont=>exact eL hq'
theorem Afw(M:MkX X.K Ca f)(F:FnOk X.prog X.w X.K X.mg X.base CX0 k f fd ps sp)(hr:Room (k+1) X.A)(hg:Gl X x)(hm:X.mg x=some (.ref Ca))(hb:Binds X.K fd ps [])
  (ha:PA X (e::es) t) (hdb:(x == ("__debug__" : Str))=false:=by decide) (he:aN (e::es) X.env=(false,eval e X.env)::aN es X.env:=by rfl) (hpl:(backTo pos (aN es X.env)).any (·.1)=false:=by rfl) :
  PE X (.Call (.Name x p) (e::es) [] pos) (Aph Ca sp t):=by
 intro pins s σ H Q I h
 refine fR (Kr I hg hm ?_ hdb)
 refine mF (h₀:=X.base) I.ok.mod.kin M.kp (thn (ha pos pins s σ H _ I h) fun us s1 zz=>zz.elim fun vs H1 I1 r zq=>⟨I1.kIn,?_⟩) he hpl
 obtain ⟨z,q⟩:=zq
 exact Aep M F hr hb I1 r z q
def Eb(C:Str)(k:Nat)(F:FN)(g:FA):FE:=fun δ L=>(g δ L).bind fun p=>if p.1.length+1=k/\p.1.length<=100 then (F (.ref p.2.length::p.1) (p.2++[.exc C true []])).bind fun q=>match q.1 with | .non=>some (.ref p.2.length,q.2) | _=>none else none
theorem Jy{F:FN}(hns:bV X.K bB C=some (some (.ref Ca)))(M:MkX X.K Ca f)(hF:FnOk X.prog X.w X.K X.mg X.base CX0 k f fd ps (spF X.K n F))(hr:Room (k+1) X.A)(hg:Gl X C)(hm:X.mg C=some (.ref Ca))(hb:Binds X.K fd ps [])
  (ha:PAF X (e::es) g) (hdb:(C == ("__debug__" : Str))=false:=by decide) (he:aN (e::es) X.env=(false,eval e X.env)::aN es X.env:=by rfl) (hpl:(backTo pos (aN es X.env)).any (·.1)=false:=by rfl) :
  PEF X (.Call (.Name C p) (e::es) [] pos) (Eb C n F g):=by
 refine PE.imp (Afw M hF hr hg hm hb ha hdb he hpl) ?_
 rintro σ H Q ⟨α,δ,L,A,S,z,L3,ee,q⟩
 obtain ⟨us,L1,e1,ee⟩:=B9 ee
 simp only at ee
 split at ee
 ·rename_i hlen
  obtain ⟨w,L2,e2,ee⟩:=B9 ee
  cases w with
  | non=>
   cases ee
   refine ⟨α,δ,L,A,S,us,L1,e1,fun xs H1 α1 g1 A1 r1=>⟨?_,fun x nx=>?_⟩⟩
   ·rw[<- r1.length];exact hG (U1 (by omega))
   obtain ⟨Ab,gb⟩:=A1.new (o:=.ext (Co x Ca none true)) (u:=.exc C true []) nx ⟨Ca,none,[],hns,upd_same,rfl,rfl,.nil⟩
   have rx:RepU X.K (upd H1 x (.ext (Co x Ca none true))) (α1++[x]) (.ref L1.length) (.ref x):=by
    unfold RepU
    exact ⟨x,by rw[<- A1.len];simp,rfl⟩
   refine ⟨α1++[x],L1++[.exc C true []],.ref L1.length::us,Ab,.cons rx (r1.mono gb),by simpa using hlen.1,.non,L2,e2,fun v H3 α3 g3 A3 r3=>?_⟩
   have hv:v = .non:=by unfold RepU at r3;exact r3
   exact ⟨hv,q _ H3 α3 (g1.trans (gb.trans g3)) A3 (rx.mono g3)⟩
  | _=>cases ee
 ·cases ee
end
def Amh(K:aB)(B:Addr):Bool:=match rK K (.ref B) (.type "type") "__init__" with
 | some (.val (.builtin id))=>id == "ValueError.__init__"
 | _=>false
structure BInit(K:aB)(B:Addr):Prop where
 sp:iN K (.ref B) "__getattribute__" = some (some (.builtin "type.__getattribute__"))
 rd:PySem.W.readsIn K B (.type "type")=true
 fd:Amh K B=true
theorem BInit.found{B:Addr}(b:BInit K B):rK K (.ref B) (.type "type") "__init__" = some (.val (.builtin "ValueError.__init__")):=by
 have h:=b.fd
 unfold Amh at h
 split at h
 ·rename_i id q
  rw[q,beq_iff_eq.mp h]
 ·cases h
def Aou(K:aB)(t:TA):TE:=fun σ H Q=>t σ H fun vs H1=>∃ a Ca dd fr y,vs=[.ref a,y]/\H1 a=some (.ext (Co a Ca dd fr))/\Lb K Ca=true/\Q .non H1
variable {Cs:List Str}
section
variable {B:Addr}{a b:Expr}{t:TA}
theorem Yy{Q:VK}{ea:Addr}{v:aE}(I:L2.Inv X pins σ H s)(he:H ea=some (.ext (Co ea Ca dd fr)))(hc:Lb X.K Ca=true)(q:Q .non H) :
  wpAny (model X.prog X.w) X.A (call (.builtin "ValueError.__init__") [.ref ea,v]) (EP X pins σ Q) X.xe s:=by
 have x:=(I.hok ea _ he).1
 obtain ⟨o,vs,h1,h2,h3,h4,h5,h6,h7⟩:=id x
 obtain ⟨nm,qn,N,bs,bm,hdct,sn,sub,ab,col,dd',k0,k1,k2,k3,k5,hC,T⟩:=Ow I.kIn hc
 have FV:ExcBaseFacts "ValueError" "ValueError.__new__" "ValueError.__init__" bmV:=mM
 obtain ⟨h,g,d,tk,os⟩:=s
 refine kM (lC FV.init.plain FV.initEntry (wpAny_check_init_subT FV T hC h1 h2 ?_))
 unfold nA.«BaseException.__init__»
 dsimp only
 obtain ⟨v0,hv0⟩:∃ v0,vs[0]? = some v0:=⟨vs[0],mR (by omega)⟩
 unfold newTuple nA.BaseException.bexcPut
 rw[if_neg (by decide)]
 refine aF (dY ?_ (by show (1:Nat)<=sizeLine;decide))
 have e2:(h.push { cls:=.type "tuple",data:=.seq #[v] }).get? ea=some o:=aI _ h1
 have fin:∀ s':aH,s'=⟨(h.push { cls:=.type "tuple",data:=.seq #[v] }).update ea (eS (·.setIfInBounds 0 (bP h.objs.size))),g,d,tk,os⟩->EP X pins σ Q .none s':=fun s' hs=>by
  subst hs
  have hd3:=dR h4 (·.setIfInBounds 0 (bP h.objs.size))
  have e3:=dM (eS (·.setIfInBounds 0 (bP h.objs.size))) e2 (eD hd3)
  refine ⟨.non,H,?_,rfl,q⟩
  have hupd:upd H ea (.ext (Co ea Ca dd fr))=H:=by
   funext b
   unfold upd
   split
   ·rename_i hb;rw[hb,he]
   ·rfl
  have J:=I.write (h':=(h.push { cls:=.type "tuple",data:=.seq #[v] }).update ea (eS (·.setIfInBounds 0 (bP h.objs.size)))) (x:=ea) (e:=ea) (o:=.ext (Co ea Ca dd fr)) (t':=tk) (by rw[he];exact fB) (.inl rfl) (fun b u hb z=>by
   rw[cQ _ _ (eG hb)]
   exact aI _ z) ⟨_,e3⟩ (Oi (by obtain ⟨o2,g1,g2,g3,g4,g5,g6⟩:=Xm h4 ⟨⟨h2,h3⟩,h5,h6⟩ e3;exact ⟨o2,_,g1,g2,g3,g4,g5,g6,fun z=>by rw[Array.getElem?_setIfInBounds_ne (by decide)];exact h7 z⟩))
  rw[hupd] at J
  exact J
 refine aF (aF (dQ e2 h4 hv0 (aF (iR e2 h4 (by omega) ?_))))
 cases v0 with
 | ref a0=>exact wpAny_letGo (aX (fin _ rfl))
 | _=>exact aX (aX (fin _ rfl))
theorem Ahp{pl:Sem Bool}(Bi:BInit X.K B)(hg:Gl X x)(hm:X.mg x=some (.ref B))(ha:PA X [a,b] t)(hdb:(x == ("__debug__" : Str))=false:=by decide)
  (hst:aN [a,b] X.env=(false,eval a X.env)::aN [b] X.env:=by rfl) (hpl:(backTo pos (aN [b] X.env)).any (·.1)=false:=by rfl)
  (ht:eval (.Call (.Attribute (.Name x p) "__init__" apos) [a,b] [] pos) X.env=(do
   let ov <- eval (.Name x p) X.env
   standAt apos.atName
   let (f,first) <- holding [ov] (getMethod ov "__init__" pl)
   callWith pos f first (backTo pos (aN [a,b] X.env)) (backToKw pos (keywordEach [] X.env))):=by rfl) :
  PE X (.Call (.Attribute (.Name x p) "__init__" apos) [a,b] [] pos) (Aou X.K t):=by
 intro pins s σ H Q I h
 refine PySem.W.methodCall_KW (pl:=pl) (Kr I hg hm ?_ hdb) ht
 refine PySem.W.method_cls I.kIn Bi.sp (PySem.W.cls_value I.kIn Bi.rd Bi.found (by decide +kernel) ?_)
 have I1:=I.tok (s.toks+1)
 have hA:=ha pos pins { s with toks:=s.toks+1 } σ H _ I1 h
 rw[hst] at hA ⊢
 refine jY (by show (false || (backTo pos (aN [b] X.env)).any (·.1))=false;rw[hpl] <;> rfl) (kY ?_)
 refine thn hA fun us s2 zz=>zz.elim fun vs H2 I2 r2 zq=>?_
 obtain ⟨ea,Ca,dd,fr,y,hv,he,hc,q2⟩:=zq
 subst hv
 obtain ⟨u1,u2,rfl,ru1,ru2⟩:=r2.two
 obtain rfl:u1=bP ea:=ru1
 exact Yy I2 he hc q2
def AllX(K:aB)(Cs:List Str):Prop:=∀ C∈Cs,∀ Ca,bV K bB C=some (some (.ref Ca))->Lb K Ca=true
def Df(Cs:List Str)(g:FA):FE:=fun δ L=>(g δ L).bind fun p=>match p.1 with
 | [.ref n,_]=>match p.2[n]? with
  | some (.exc C _ _)=>if C∈Cs then some (.non,p.2) else none
  | _=>none
 | _=>none
theorem La{pl:Sem Bool}(hC:AllX X.K Cs)(Bi:BInit X.K B)(hg:Gl X x)(hm:X.mg x=some (.ref B))(ha:PAF X [a,b] g)(hdb:(x == ("__debug__" : Str))=false:=by decide)
  (hst:aN [a,b] X.env=(false,eval a X.env)::aN [b] X.env:=by rfl) (hpl:(backTo pos (aN [b] X.env)).any (·.1)=false:=by rfl)
  (ht:eval (.Call (.Attribute (.Name x p) "__init__" apos) [a,b] [] pos) X.env=(do
   let ov <- eval (.Name x p) X.env
   standAt apos.atName
   let (f,first) <- holding [ov] (getMethod ov "__init__" pl)
   callWith pos f first (backTo pos (aN [a,b] X.env)) (backToKw pos (keywordEach [] X.env))):=by rfl) :
  PEF X (.Call (.Attribute (.Name x p) "__init__" apos) [a,b] [] pos) (Df Cs g):=by
 refine PE.imp (Ahp (pl:=pl) Bi hg hm ha hdb hst hpl ht) ?_
 rintro σ H Q ⟨α,δ,L,A,S,z,L3,ee,q⟩
 obtain ⟨us,L1,e1,ee⟩:=B9 ee
 refine ⟨α,δ,L,A,S,us,L1,e1,fun xs H1 α1 g1 A1 r1=>?_⟩
 simp only at ee
 split at ee
 ·rename_i n w
  split at ee
  ·rename_i C fr fs hL
   split at ee
   ·rename_i hin
    cases ee
    obtain ⟨x1,x2,rfl,rx1,rx2⟩:=r1.two
    obtain ⟨a,ea,Ca,dd,vs,hns,ha,_⟩:=A1.addr hL
    obtain ⟨a',ea',rfl⟩:=rx1.ref_of A1
    rw[ea] at ea';cases ea'
    exact ⟨a,Ca,dd,fr,x2,rfl,ha,hC C hin Ca hns,q _ H1 α1 g1 A1 rfl⟩
   ·cases ee
  ·cases ee
 ·cases ee
end
theorem Agz{M:Model}{A:fA}{E:aE->aH->Prop}{s:aH}{env:fP}{K:aB}{x:Sem aE}{Q:Flow->aH->Prop}{Ca ea:Addr}(hh:A.handled=none)
  (h:wpAny M A x (fun v s1=>∃ ea Ca dd,v = .ref ea/\K.In s1.heap/\Lb K Ca=true/\Co ea Ca dd true s1.heap/\E (.ref ea) s1) E s):wpAny M A (raiseStmt env (some x) none) Q E s:=by
 unfold raiseStmt
 refine aF (cA h (fun v s1 h1=>?_) fun _ _ z=>z)
 obtain ⟨ea,Ca,dd,rfl,X,hc,⟨o,vs,h1,h2,h3,h4,h5,h6,h7⟩,hE⟩:=h1
 obtain ⟨cl,di,da,sl⟩:=o
 dsimp only at h2 h3 h4 h6
 subst h2 h3 h4 h6
 obtain ⟨nm,qn,N,bs,bm,hdct,sn,sub,ab,col,dd',k0,k1,k2,k3,k5,hC,T⟩:=Ow X hc
 have hb:(bP Ca::bm).contains (.type "BaseException")=true:=by rw[List.contains_cons,T.hasType mM.hasBase,Bool.or_true]
 obtain ⟨hp,g,d,tk,os⟩:=s1
 have h8:=h7 rfl
 repeat (first | with_reducible refine iP h1 ?_ | with_reducible refine iP hC ?_ | (with_reducible refine pA hC ?_;rw[hb]) | with_reducible refine dQ h1 rfl h8 ?_ | wp_step)
 exact wpAny_raiseNew_none hh hE
def V6(Cs:List Str)(fe:FE):XS:=fun δ L=>(fe δ L).bind fun p=>match p.1 with
 | .ref n=>match p.2[n]? with
  | some (.exc C true fs)=>if C∈Cs then some (n,δ,p.2.set n (.exc C false fs)) else none
  | _=>none
 | _=>none
variable {fe:FE}
section
variable {e:Expr}
theorem Afu(hA:AllX X.K Cs)(he:PEF X e fe)(hc:X.calm=true:=by rfl)(hx:∀ e s,X.xe e s->False:=by exact fun _ _ z=>z):PXS X (.Raise (some e) none pos) (V6 Cs fe):=by
 intro pins s σ H α δ L n δ' L' I A S q
 obtain ⟨u,L1,q1,q2⟩:=B9 q
 simp only at q2
 split at q2
 ·rename_i m
  split at q2
  ·rename_i C fs hL
   split at q2
   ·rename_i hin
    cases q2
    rw[arm_exec_Raise]
    show wpAny _ _ (do standAt pos;raiseStmt X.env (some (do let v <- eval e X.env;standAt pos;pure v)) none) _ _ _
    refine aF (kS (Agz (K:=X.K) (Ca:=0) (ea:=0) (I.ok.hd hc) (aF (he.go hx I A S q1 fun x v H1 α1 s1 I1 g1 A1 r1 rv=>aF (kS (aX ?_))))))
    obtain ⟨a,ea,Ca,dd,vs,hns,ha,hd,hk,rr⟩:=A1.addr hL
    obtain ⟨a',ea',rfl⟩:=r1.ref_of A1
    rw[ea] at ea';cases ea'
    obtain rfl:x=bP a:=rv
    have hex:=(I1.hok a _ ha).1
    refine ⟨a,Ca,dd,rfl,I1.kIn,hA C hin Ca hns,hex,?_⟩
    obtain ⟨o,ws,h1,h2,h3,h4,h5,h6,h7⟩:=id hex
    have hxf:Co a Ca dd false s1.heap:=⟨o,ws,h1,h2,h3,h4,h5,h6,fun z=>nomatch z⟩
    have g2:Gr H1 α1 (upd H1 a (.ext (Co a Ca dd false))) α1:=⟨⟨[],by simp⟩,.write ha (by exact trivial) _⟩
    obtain ⟨A2,_⟩:=A1.put (o:=.ext (Co a Ca dd false)) (u:=.exc C false fs) ea hL rfl rfl ha (by exact trivial) ⟨Ca,dd,vs,hns,upd_same,hd.stay (fun b o ws q=>g2.st.2 b o _ q),hk,rr.mono g2⟩
    have I2:=I1.write (h':=s1.heap) (t':=s1.toks) (x:=a) (e:=a) (o:=.ext (Co a Ca dd false)) (by rw[ha];exact fB) (.inl rfl) (fun b u _ z=>z) ⟨_,h1⟩ (Oi hxf)
    refine ⟨a,Ca,dd,s1.heap.objs.size,σ,_,α1,rfl,⟨I2,.of I1 (aJ _),⟨aJ _,.inl ⟨ws,⟨o,h1,h2,h3,h4,h5,h6⟩,h7 rfl⟩⟩,fun b o2 hb=>I2.hok.lt hb,upd_same⟩,g1.trans g2,A2,(S.mono g1).mono g2,ea⟩
   ·cases q2
  ·cases q2
 ·cases q2
end
abbrev hld(X:Cx)(e:Addr):Cx:={ X with A:=X.A.mark (some (.ref e)),calm:=false }
theorem Ok.hld(ok:X.Ok)(e:Addr):(hld X e).Ok:=
 ⟨ok.mod,ok.kind,ok.glob,ok.blt,ok.above,ok.inj,ok.has,ok.cab,(fun z=>(nomatch z)),ok.frames,ok.stk,ok.exf,ok.bs,ok.bsz,ok.noex,ok.exfs,ok.funs,ok.frf⟩
theorem Inv.hld(I:L2.Inv X pins σ H s)(e:Addr):L2.Inv (hld X e) pins σ H s:=⟨Ok.hld I.ok e,I.os,I.bare,I.base,I.loc,I.cell,I.free,I.freeC,I.pin,I.hok,I.len,I.tk⟩
theorem Inv.unhld(ok:X.Ok)(I:L2.Inv (MR.hld X e) pins σ H s):L2.Inv X pins σ H s:=⟨ok,I.os,I.bare,I.base,I.loc,I.cell,I.free,I.freeC,I.pin,I.hok,I.len,I.tk⟩
theorem Aja{i:Nat}{n:Str}(I:L2.Inv X pins σ H s)(hN:X.N.Nodup)(hi:X.N[i]? = some n)(hl:X.env.kindOf n=some .local)
  (q:∀ s',L2.Inv X pins (σ.set i none) H s'->Q () s'):wpAny M A (do bindName X.env n .none;unbindBehindTheSuite X.env n pos) Q E s:=by
 obtain ⟨m,hn,hloc⟩:=id I.loc
 have hcls:(X.env.scope.kind == .class || (X.env.scope.kind == .module&&X.env.locals != X.env.globals))=false:=by rw[I.ok.kind];rfl
 obtain ⟨oL,_,_,hoL,_⟩:=id hn
 refine wpAny_nameGoes_keeps hl hn hcls fun h' v hn' hs=>q _ ?_
 have far:∀ b o,X.s₀.heap.get? b=some o->b≠X.env.locals:=fun b o e=>cC (aG (aO e) I.ok.above)
 refine ⟨I.ok,I.os,I.bare,⟨fun b o e n hb hx=>(hs.2 b (far b o e)).trans (I.base.keep b o e n hb hx),fun b o e n hb hx=>?_,I.base.free,fun b o e hx=>?_,I.base.tups,I.base.frzs,I.base.tbls⟩,⟨_,hn',fun j y w e1 e2 e3=>?_⟩,fun y c e=>?_,I.free,I.freeC,fun p hp=>?_,fun b ob e=>?_,by simpa using I.len,by first | exact I.tk | exact cL _⟩
 ·obtain ⟨sl,e1⟩:=I.base.slot b o e n hb hx
  exact ⟨sl,(hs.2 b (far b o e)).trans e1⟩
 ·obtain ⟨o',e1⟩:=I.base.there b o e hx
  exact ⟨o',(hs.2 b (far b o e)).trans e1⟩
 ·have hj:j≠i:=by
   rintro rfl
   by_cases hz:j < σ.length
   ·rw[bK hz] at e2;cases e2
   ·rw[eC (by simpa using hz)] at e2;cases e2
  rw[bE (eG hj)] at e2
  obtain ⟨u,r,l⟩:=hloc j y w e1 e2 e3
  refine ⟨u,r,?_⟩
  rcases l with ⟨k,e⟩ | ⟨k,c,e,z⟩
  ·refine .inl ⟨k,?_⟩
   have:y≠n:=fun e=>hj (Rj hN e1 (e ▸ hi))
   simp[this,e]
  ·exact .inr ⟨k,c,e,z.sameBut hs (I.cne y c e)⟩
 ·obtain ⟨w,z⟩:=I.cell y c e
  exact ⟨w,z.sameBut hs (I.cne y c e)⟩
 ·obtain ⟨e,n,ne,nf,d⟩:=I.pin p hp
  exact ⟨(hs.2 p.1 ne).trans e,n,ne,nf,d⟩
 ·refine (I.hok b ob e).stay (fun c w hc z=>(hs.2 c ?_).trans z) (fun _ z=>z) fun _ _ z=>z
  rintro rfl
  rcases hc with hc | hc
  ·rw[<- hc,I.free] at e;cases e
  ·rw[I.free] at hc;cases hc
theorem RepS.unset(h:RepS K H α δ σ)(i:Nat):RepS K H α (δ.set i none) (σ.set i none):=
 ⟨by simp[h.len],fun j w e=>by
  by_cases hj:i=j
  ·subst hj
   by_cases hi:i < δ.length
   ·rw[bK hi] at e;cases e
   ·rw[eC (by simpa using hi)] at e;cases e
  ·rw[bE hj] at e
   obtain ⟨v',q,r'⟩:=h.at_ j w e
   exact ⟨v',by rw[bE hj];exact q,r'⟩⟩
theorem Aah(fr:s.heap.FunFrames base l)(F:Fly N e Ca dd s.heap)
  (hQ:∀ h',Fly N e Ca dd h'->Stp N (frs l) e s.heap h'->h'.FunFrames base l->Q () { s with heap:=h' }):wpAny M A (setFlight (.ref e) none) Q E s:=by
 rcases F.2 with ⟨vs,hx,h1⟩ | ⟨fl,T⟩
 ·obtain ⟨oe,he,hc,hdd,hd,hsz,hsl⟩:=id hx
  unfold setFlight
  refine aF (dQ he hd h1 ?_)
  rw[if_neg (by decide)]
  exact aX (hQ s.heap F ⟨fun _ _ _ _ _ z=>z,fun b o _ z=>⟨o.slots,z⟩,fun b o z=>⟨o,z⟩,aJ _⟩ fr)
 ·exact Lv fr T fun h2 F2 u2 fr2=>hQ h2 ⟨bJ F.1 u2.sz,.inr ⟨_,F2⟩⟩ u2 fr2
def AllM(K:aB)(Cs:List Str)(D:Addr):Prop:=∀ C∈Cs,∀ Ca,bV K bB C=some (some (.ref Ca))->oN K (.ref Ca) (.ref D)=some true
def Vv(b:FS)(x:XS)(Cs:List Str)(i:Nat)(suite:FS):FS:=fun δ L=>match x δ L with
 | some (n,δ1,L1)=>match L1[n]? with
  | some (.exc C _ _)=>if C∈Cs then (suite (δ1.set i (some (.ref n))) L1).bind fun p=>match p.1 with
    | .nx δ2=>some (.nx (δ2.set i none),p.2)
    | _=>none
   else none
  | _=>none
 | none=>b δ L
section
variable {body suite:List Stmt}{b0:Stmt}{n:Str}{np hpos:Pos}{D:Addr}{fb fs:FS}{xb:XS}{i:Nat}
theorem Ajf(hM:AllM X.K Cs D)(hN:X.N.Nodup)(hb:Qp X body fb)(hx:Tj X body xb)(hs:∀ e,Qp (hld X e) (b0::suite) fs)(hg:Gl X x)(hm:X.mg x=some (.ref D))
  (hi:X.N[i]? = some n:=by rfl) (hl:X.env.kindOf n=some .local:=by rfl) (hxe:∀ e s,X.xe e s->False:=by exact fun _ _ z=>z) (hst:X.stack=X.env::X.outer:=by rfl) (hfr:X.env.frame=some X.env.locals:=by rfl)
  (hdb:(x == ("__debug__" : Str))=false:=by decide):PSF X (.Try body [.ExceptHandler (some (.Name x np)) (some n) (b0::suite) hpos] [] [] pos) (Vv fb xb Cs i fs):=by
 intro pins s σ H E I h
 obtain ⟨α,δ,L,A,S,fl,L',ee,q⟩:=h
 refine wpAny_Try_except ?_
 unfold Vv at ee
 cases q1:xb δ L with
 | none=>
  rw[q1] at ee
  refine cA (hb pins s σ H E I ⟨α,δ,L,A,S,fl,L',ee,q⟩) (fun f s1 h1=>?_) fun _ _ z=>(hxe _ _ z).elim
  cases f with
  | next=>exact lF h1
  | ret v=>exact h1
  | brk=>exact h1
  | cont=>exact h1
 | some r=>
  obtain ⟨k,δ1,L1⟩:=r
  rw[q1] at ee
  simp only at ee
  split at ee
  ·rename_i C fr0 fs0 hL
   split at ee
   ·rename_i hin
    obtain ⟨fl2,L2,e2,e3⟩:=B9 ee
    cases fl2 with
    | nx δ2=>
     cases e3
     refine cA (hx pins s σ H α δ L k δ1 L1 I A S q1) (fun _ _ z=>z.elim) fun ev s1 hf=>?_
     obtain ⟨ea,Ca,dd,N,σ1,H1,α1,rfl,Fl,g1,A1,S1,at1⟩:=hf
     have hfrm:X.A.frames=some (X.env::X.outer):=by rw[<- hst];exact Fl.inv.ok.frames
     have hstk:s1.heap.FunFrames X.base (X.env::X.outer):=by rw[<- hst];exact Fl.inv.stack
     refine Ack hfrm hfr hstk Fl.fly fun h2 F2 u2 fr2=>?_
     have Fl2:=Fl.step (h':=h2) (by rw[hst];exact u2) F2
     have J2:=Inv.hld Fl2.inv ea
     obtain ⟨ox,vx,y1,y2,_⟩:=id F2.excIs
     obtain ⟨a,ea',Cb,dd',vs,hns,hav,_⟩:=A1.addr hL
     rw[at1] at ea';cases ea'
     have hCa:Cb=Ca:=by
      have hh:=Fl.me
      rw[hav] at hh
      have:=(Fl2.inv.hok ea _ hav).1
      obtain ⟨o3,_,z1,z2,_⟩:=this
      rw[y1] at z1;cases z1
      rw[y2] at z2;cases z2;rfl
     subst hCa
     have LT:pI (model X.prog X.w) h2 (typeOf (.ref ea)) (.ref Cb):=by
      have z:pI (model X.prog X.w) h2 (typeOf (.ref ea)) ox.cls:=(pI.ld y1).andThen .now
      rw[y2] at z
      exact z
     refine wpAny_handleBy_cons (codeAny_handlers_test ?_) (by intro z;cases z)
     refine Kr (X:=hld X ea) J2 hg hm ?_ hdb
     refine fD (s:={ s1 with heap:=h2 }) (PySem.W.exm_one Fl2.inv.kIn LT (hM C hin Cb hns)) ?_
     refine codeAny_handlers_suite_as ?_
     refine Aah (s:={ s1 with heap:=h2 }) fr2 F2 fun h3 F3 u3 fr3=>?_
     have Fl3:=Fl2.step (h':=h3) (by rw[hst];exact u3) F3
     have J3:=Inv.hld Fl3.inv ea
     refine Sh (X:=hld X ea) (v:=.ref ea) J3 hN hi (.inl hl) rfl (fun s4 J4=>?_) (.inr hl)
     refine cA (hs ea pins s4 _ H1 { nx:=fun σ2 H2=>∃ α2,Gr H1 α1 H2 α2/\Abs X.K H2 α2 L2/\RepS X.K H2 α2 δ2 σ2,rt:=fun _ _=>False } J4 ⟨α1,_,L1,A1,S1.set i (u:=.ref k) (v:=.ref ea) (by unfold RepU;exact ⟨ea,at1,rfl⟩),.nx δ2,L2,e2,fun σ2 H2 α2 g2 A2 S2=>⟨α2,g2,A2,S2⟩⟩) (fun f s5 h5=>?_) fun _ _ z=>(hxe _ _ z).elim
     cases f with
     | next=>
      obtain ⟨σ2,H2,J5,α2,g2,A2,S2⟩:=h5
      have I5:=Inv.unhld I.ok J5
      refine Aja I5 hN hi hl fun s6 I6=>?_
      exact ⟨_,H2,I6,q _ H2 α2 (g1.trans g2) A2 (S2.unset i)⟩
     | ret v=>obtain ⟨_,_,_,_,_,z⟩:=h5;exact z.elim
     | brk=>obtain ⟨_,_,_,z⟩:=h5;exact z.elim
     | cont=>obtain ⟨_,_,_,z⟩:=h5;exact z.elim
    | rt w=>cases e3
    | bk w=>cases e3
    | ct w=>cases e3
   ·cases ee
  ·cases ee
end
def Aot(K:aB)(C:Addr):Bool:=Lb K C&&bR K (.ref C) "__getattribute__" == some (some (.builtin "BaseException.__getattribute__"))&&bR K (.ref C) "__getattr__" == some none &&
 sE K (.ref C) (.type "BaseException") == some true&&bR K (.ref C) "__class__" == some (some (.builtin "object.__class__"))&&pC K C (.type "object") == some true&&mW K C &&
 iN K (.builtin "object.__class__") "__get__" == some (some (.builtin "getset_descriptor.__get__"))&&nY K (.builtin "object.__class__") == some true
structure ExcA(K:aB)(C:Addr):Prop where
 ex:Lb K C=true
 ga:bR K (.ref C) "__getattribute__" = some (some (.builtin "BaseException.__getattribute__"))
 gk:bR K (.ref C) "__getattr__" = some none
 sb:sE K (.ref C) (.type "BaseException")=some true
 cl:bR K (.ref C) "__class__" = some (some (.builtin "object.__class__"))
 mo:pC K C (.type "object")=some true
 hd:mW K C=true
 sg:iN K (.builtin "object.__class__") "__get__" = some (some (.builtin "getset_descriptor.__get__"))
 tk:nY K (.builtin "object.__class__")=some true
theorem Akb{C:Addr}(h:Aot K C=true):ExcA K C:=by
 unfold Aot at h
 simp only[bG,beq_iff_eq] at h
 obtain ⟨⟨⟨⟨⟨⟨⟨⟨a,b⟩,c⟩,d⟩,e⟩,f⟩,g⟩,i⟩,j⟩:=h
 exact ⟨a,b,c,d,e,f,g,i,j⟩
def isX(C D:Str):Bool:=C == D || D == "BelowError" || D == "ValueError"
def Aeg(K:aB)(D:Str):Option aE:=match bV K bB D with
 | some (some (.ref a))=>some (.ref a)
 | some none=>if D == "ValueError" then some (.type "ValueError") else none
 | _=>none
def Qo(K:aB)(Cs Ds:List Str):Bool:=Cs.all fun C=>match bV K bB C with
 | some (some (.ref a))=>Aot K a&&Ds.all fun D=>match Aeg K D with
  | some v=>dD K (.ref a) v == some (isX C D)&&(!isX C D || oN K (.ref a) v == some true)
  | none=>false
 | _=>false
variable {D:Str}{Da:Addr}
section
variable {Ds:List Str}
theorem I0(T:Qo K Cs Ds=true)(hC:C∈Cs)(hn:bV K bB C=some (some (.ref Ca))):ExcA K Ca/\∀ D∈Ds,∃ v,Aeg K D=some v/\dD K (.ref Ca) v=some (isX C D)/\(isX C D=true->oN K (.ref Ca) v=some true):=by
 have h:=bW.mp T C hC
 rw[hn] at h
 simp only[bG] at h
 refine ⟨Akb h.1,fun D hD=>?_⟩
 have h2:=bW.mp h.2 D hD
 split at h2
 ·rename_i v hv
  simp only[bG,beq_iff_eq,jL,Bool.not_eq_true'] at h2
  exact ⟨v,hv,h2.1,fun z=>h2.2.resolve_left (by rw[z];exact Bool.noConfusion)⟩
 ·cases h2
theorem AllX.of(T:Qo K Cs Ds=true):AllX K Cs:=fun C hC Ca hn=>(I0 T hC hn).1.ex
theorem N0(h:bV K bB D=some (some (.ref Da))):Aeg K D=some (.ref Da):=by unfold Aeg;rw[h]
theorem AllM.of(T:Qo K Cs Ds=true)(hD:D∈Ds)(hn:bV K bB D=some (some (.ref Da)))(ha:Cs.all (fun C=>isX C D)=true):AllM K Cs Da:=fun C hC Ca hc=>by
 obtain ⟨v,hv,_,h2⟩:=(I0 T hC hc).2 D hD
 rw[N0 hn] at hv
 cases hv
 exact h2 (bW.mp ha C hC)
theorem AllM.sub{Es:List Str}(T:Qo K Cs Ds=true)(hs:∀ C∈Es,C∈Cs)(hD:D∈Ds)(hn:bV K bB D=some (some (.ref Da)))(ha:Es.all (fun C=>isX C D)=true):AllM K Es Da:=fun C hC Ca hc=>by
 obtain ⟨v,hv,_,h2⟩:=(I0 T (hs C hC) hc).2 D hD
 rw[N0 hn] at hv
 cases hv
 exact h2 (bW.mp ha C hC)
end
section
variable {prog:cD}{x C:Addr}{ox:Obj}{od:Option Obj}{name:Str}
theorem Af5{fill expr:Bool}{tk:Tok}{Q:aE->aH->Prop}(X:K.In s.heap)(T:ExcA K C)(I:gQ s.heap x ox C od)
  (h:wpAny (model prog w) A.in1 (nA.«object.__getattribute__» ⟨[.ref x,.str name tk],[]⟩) (fun fin s'=>match fin with | .done (.ret v)=>wpAny (model prog w) A (handedOut v) Q E s' | _=>False) (fun _ _=>False) s) :
  wpAny (model prog w) A (getAttrBy (.ref x) (.str name tk) fill expr) Q E s:=by
 have FB:=PySem.F.attr_ValueError
 have hB:(pJ "BaseException.__getattribute__" == pJ "object.__getattribute__")=false:=by decide +kernel
 unfold getAttrBy
 refine gH (aF (I.type.here (aF ((lB X T.ga).here ?_))))
 dsimp only
 rw[hB,rY,if_neg (by decide)]
 unfold getAttrByItsOwn
 refine aF ((PySem.W.looks_hook X (mc:=.ref C) (r:=none) (by rw[if_pos (show onTheHeap (.ref C)=true from rfl)];exact T.gk)).here (aF (pH (gH ?_))))
 unfold callGetattribute
 rw[show (expr&&onTheHeap (pJ "BaseException.__getattribute__"))=false from rY _,if_neg (by decide)]
 unfold boundAndCalled
 rw[FB.ga.bind]
 refine aF (aX ?_)
 show wpAny _ _ (call (.builtin "BaseException.__getattribute__") [.ref x,.str name tk]) _ _ _
 refine kM (lC FB.ga.plain PySem.F.entry_bexc_ga ?_)
 refine @pY (model prog w) _ _ s "BaseException.__getattribute__" "BaseException" "__getattribute__" (.ref x) [.str name tk] [] _ (by decide +kernel) (by decide +kernel) (I.type.andThen (PySem.W.looks_subIn X T.sb)) (PySem.F.args_bexc_ga (.ref x) (.str name tk)) ?_
 refine cA h (fun fin s' z=>?_) fun _ _ z=>z.elim
 rcases fin with (_ | _ | _ | _) | _ <;> first | exact z | exact z.elim
theorem Afs{r:nA.ObjectAttr.Found}{tk:Tok}{Q:Fin->aH->Prop}(X:K.In s.heap)(I:gQ s.heap x ox C od)(hf:lQ K C od name=some r)
  (h:match r with
   | .value v=>Q (.done (.ret v)) s
   | .bind g a=>wpAny (model prog w) A (call g [a,.ref x,.ref C]) (fun v s'=>Q (.done (.ret v)) s') E s
   | .missing=>False):wpAny (model prog w) A (nA.«object.__getattribute__» ⟨[.ref x,.str name tk],[]⟩) Q E s:=by
 unfold nA.«object.__getattribute__»
 refine aF (aX ?_)
 refine aF (aX ?_)
 refine aF (I.type.here (aF ((PySem.W.looks_find X I hf).here ?_)))
 cases r with
 | value v=>exact aX h
 | bind g a=>
  show wpAny _ _ (holding [a] (call g [a,.ref x,.ref C]) >>= ret) _ _ _
  exact aF (gH (cA h (fun v s' z=>aX z) fun _ _ z=>z))
 | missing=>exact h.elim
theorem Xf(T:ExcA K C):PySem.W.KitX K (.ref x) (.ref C) (fun h=>gQ h x ox C od) where
 ty:=fun _ _ _ I=>I.type
 it:=fun _ _ X _=>by
  obtain ⟨cd,hc,_⟩:=kO T.hd
  unfold sF at hc
  split at hc
  ·rename_i ho
   intro A' Q' E' s' k q
   unfold isType loadHead
   exact aF (wpAny_loadPart (k _ _ (X _ _ ho)) (aX q))
  ·cases hc
 ne:=fun h tp dd its n sl X htp=>by
  obtain ⟨cd,hc,_⟩:=kO T.hd
  refine Bool.eq_false_iff.mpr fun q=>?_
  have e:C=tp:=bP.inj (beq_iff_eq.mp q)
  subst e
  unfold sF at hc
  split at hc
  ·rename_i ho
   have z:=(X _ _ ho).symm.trans htp
   cases z
  ·cases hc
 ca:=fun {prog w A E Q s} X I k=>by
  have hf:lQ K C od "__class__" = some (.bind (.builtin "getset_descriptor.__get__") (.builtin "object.__class__")):=by
   obtain ⟨cd,hc,_⟩:=kO T.hd
   unfold lQ
   rw[hc,aA,T.cl,aA]
   dsimp only
   rw[T.sg,aA]
   dsimp only
   rw[T.tk,aA]
  unfold getAttr? getAttrBy?
  refine aF (wpAny_mkText (aF (pH (Af5 (s:={ s with toks:=s.toks+1 }) X T I (Afs (s:={ s with toks:=s.toks+1 }) X I hf ?_)))))
  refine kM (PySem.W.class_get (s:={ s with toks:=s.toks+1 }) X I T.mo ?_)
  exact qO rfl (aX k)
end
variable {p2:Pos}{Dn:List Str}{ds:List Addr}
section
variable {Ds:List Str}
theorem Abo{a:Addr}{vs:List (Str×V)}(ok:HOk P w H h)(he:H a=some (.ext (Co a Ca dd fr)))(hd:DictIs H dd vs) :
  ∃ ox od,gQ h a ox Ca od/\ox.dict=dd:=by
 obtain ⟨o,ws,h1,h2,h3,h4,_⟩:=(ok a _ he).1
 have no:oO o=true:=by unfold oO;rw[h4]
 cases dd with
 | none=>exact ⟨o,none,⟨h1,h2,no,by rw[h3];trivial⟩,h3⟩
 | some dx=>
  obtain ⟨_,od,q⟩:=hd
  exact ⟨o,some od,⟨h1,h2,no,by rw[h3];exact (ok dx _ q).1⟩,h3⟩
def vOf:aE->Option V
 | .ref a=>some (.ref a)
 | .type T=>some (.ty T)
 | _=>none
theorem Wt:CallR X (.builtin "isinstance") (fun xs H Q=>∃ a Ca dd fr vs c v b,xs=[.ref a,v]/\vOf c=some v/\H a=some (.ext (Co a Ca dd fr))/\DictIs H dd vs/\ExcA X.K Ca/\dD X.K (.ref Ca) c=some b/\Q (.bl b) H):=by
 intro pins s σ H xs us Q I r h
 obtain ⟨a,Ca,dd,fr,vs,c,v,b,rfl,hc,ha,hd,T,e,q⟩:=h
 obtain ⟨u,u2,rfl,rx,ry⟩:=r.two
 obtain rfl:u=bP a:=rx
 have hu:u2=c:=by
  cases c <;> simp[vOf] at hc <;> subst hc <;> exact ry
 subst hu
 obtain ⟨ox,od,J,_⟩:=Abo I.hok ha hd
 exact wtk I.tk <| cW (Xf (ox:=ox) (od:=od) T) I.kIn J e (fun z=>nomatch z) fun tk ht=>⟨.bl b,H,I.tok _ ht,rfl,q⟩
theorem Uv:∀ {ds:List Addr} {its:List aE},Vals (ds.map V.ref) its->its=ds.map bP
 | [],_,.nil=>rfl
 | _::ds,_,.cons r t=>by
  rw[Uv t]
  exact congrArg (· :: _) r
theorem Aeb:CallR X (.builtin "isinstance") (fun xs H Q=>∃ (a Ca:Addr) (dd:Option Addr) (fr:Bool) (vs:List (Str×V)) (tp:Addr) (ds:List Addr) (b:Bool),xs=[.ref a,.ref tp]/\H tp=some (.tup (ds.map V.ref))/\H a=some (.ext (Co a Ca dd fr))/\DictIs H dd vs/\ExcA X.K Ca/\oP X.K (.ref Ca) (ds.map bP)=some b/\Q (.bl b) H):=by
 intro pins s σ H xs us Q I r h
 obtain ⟨a,Ca,dd,fr,vs,tp,ds,b,rfl,ht,ha,hd,T,e,q⟩:=h
 obtain ⟨u,u2,rfl,rx,ry⟩:=r.two
 obtain rfl:u=bP a:=rx
 obtain rfl:u2=bP tp:=ry
 obtain ⟨ox,od,J,_⟩:=Abo I.hok ha hd
 obtain ⟨_,its,rv,o,ho,hcl,n,hda⟩:=I.hok tp _ ht
 rw[Uv rv] at hda
 obtain ⟨cl,di,da,sl⟩:=o
 dsimp only at hcl hda
 obtain ⟨hcl,hdi⟩:=jR hcl
 subst hcl hda
 exact wtk I.tk <| PySem.W.kia_tup (Xf (ox:=ox) (od:=od) T) I.kIn J ho e (fun z=>nomatch z) fun tk ht=>⟨.bl b,H,I.tok _ ht,rfl,q⟩
def Q9(Cs:List Str)(u:U)(L:UH):Option (Nat×Str×List (Str×U)):=match u with
 | .ref n=>match L[n]? with
  | some (.exc C _ fs)=>if C∈Cs then some (n,C,fs) else none
  | _=>none
 | _=>none
theorem R0{u:U}{fs:List (Str×U)}(h:Q9 Cs u L=some (n,C,fs)):u = .ref n/\C∈Cs/\∃ fr,L[n]? = some (.exc C fr fs):=by
 unfold Q9 at h
 split at h
 ·split at h
  ·rename_i e
   split at h
   ·rename_i hc
    cases h
    exact ⟨rfl,hc,_,e⟩
   ·cases h
  ·cases h
 ·cases h
def Hh(Cs:List Str)(D:Str)(f:FE):FE:=fun δ L=>(f δ L).bind fun p=>(Q9 Cs p.1 p.2).map fun t=>(.bl (isX t.2.1 D),p.2)
theorem Ab2{Q:VK}{c:aE}{v:V}(T:Qo K Cs Ds=true)(hD:D∈Ds)(hc:Aeg K D=some c)(hv:vOf c=some v)(h:lE K (Hh Cs D fe) σ H Q) :
  tCB (fun xs H Q=>∃ a Ca dd fr vs c v b,xs=[.ref a,v]/\vOf c=some v/\H a=some (.ext (Co a Ca dd fr))/\DictIs H dd vs/\ExcA K Ca/\dD K (.ref Ca) c=some b/\Q (.bl b) H) (Agf (lE K fe) (Agf (tC v) An8)) σ H Q:=by
 obtain ⟨α,δ,L,A,S,z,L3,e,q⟩:=h
 obtain ⟨u,L1,e1,e⟩:=B9 e
 obtain ⟨⟨n,C,fs⟩,e2,e⟩:=kB.mp e
 cases e
 obtain ⟨rfl,hC,fr,hL⟩:=R0 e2
 refine ⟨α,δ,L,A,S,_,_,e1,fun x H1 α1 g1 A1 r1=>?_⟩
 obtain ⟨a,ea,Ca,dd,vs,hns,ha,hd,hk,rr⟩:=A1.addr hL
 obtain ⟨a',ea',rfl⟩:=r1.ref_of A1
 rw[ea] at ea';cases ea'
 obtain ⟨TA,TD⟩:=I0 T hC hns
 obtain ⟨c',hc',hk',_⟩:=TD D hD
 rw[hc] at hc';cases hc'
 exact ⟨a,Ca,dd,fr,vs,c,v,_,rfl,hv,ha,hd,TA,hk',q _ H1 α1 g1 A1 rfl⟩
theorem Nu{e:Expr}(T:Qo X.K Cs Ds=true)(hD:D∈Ds)(hns:bV X.K bB D=some (some (.ref Da)))(he:PEF X e fe)(hg:Gl X "isinstance")(hm:X.mg "isinstance" = none)(hg2:Gl X D)(hm2:X.mg D=some (.ref Da))
  (hdb:(D == ("__debug__" : Str))=false:=by decide)
  (hs:aN [e,.Name D p2] X.env=(false,eval e X.env)::aN [.Name D p2] X.env:=by rfl) (hs2:aN [.Name D p2] X.env=(false,eval (.Name D p2) X.env)::aN [] X.env:=by rfl)
  (hpl:(backTo pos (aN [.Name D p2] X.env)).any (·.1)=false:=by rfl):PEF X (.Call (.Name "isinstance" p) [e,.Name D p2] [] pos) (Hh Cs D fe):=
 PE.imp (Lp Wt hg hm (by decide +kernel) (Ga he (Ga (Qz hg2 hm2 (v:=.ref Da) rfl hdb) Nh hs2) hs) (by decide) (by decide) hs hpl) fun σ H Q h=>Ab2 T hD (N0 hns) rfl h
theorem Ace{e:Expr}(T:Qo X.K Cs Ds=true)(hD:("ValueError" : Str)∈Ds)(hns:bV X.K bB "ValueError" = some none)(he:PEF X e fe)(hg:Gl X "isinstance")(hm:X.mg "isinstance" = none)(hg2:Gl X "ValueError")(hm2:X.mg "ValueError" = none)
  (hs:aN [e,.Name "ValueError" p2] X.env=(false,eval e X.env)::aN [.Name "ValueError" p2] X.env:=by rfl) (hs2:aN [.Name "ValueError" p2] X.env=(false,eval (.Name "ValueError" p2) X.env)::aN [] X.env:=by rfl)
  (hpl:(backTo pos (aN [.Name "ValueError" p2] X.env)).any (·.1)=false:=by rfl):PEF X (.Call (.Name "isinstance" p) [e,.Name "ValueError" p2] [] pos) (Hh Cs "ValueError" fe):=
 PE.imp (Lp Wt hg hm (by decide +kernel) (Ga he (Ga (Ab8 hg2 hm2 (u:=.type "ValueError") (by decide +kernel) (v:=.ty "ValueError") rfl) Nh hs2) hs) (by decide) (by decide) hs hpl) fun σ H Q h=>Ab2 (c:=.type "ValueError") T hD (by unfold Aeg;rw[hns];rfl) rfl h
inductive Names(X:Cx):List Str->List Addr->List Expr->Prop where
 | nil:Names X [] [] []
 | cons {D:Str} {Da:Addr} {Dn:List Str} {ds:List Addr} {es:List Expr} {p2:Pos} (hns:bV X.K bB D=some (some (.ref Da))) (hg2:Gl X D) (hm2:X.mg D=some (.ref Da)) (t:Names X Dn ds es)
   (hdb:(D == ("__debug__" : Str))=false:=by decide) (hs:aN (.Name D p2::es) X.env=(false,eval (.Name D p2) X.env)::aN es X.env:=by rfl):Names X (D::Dn) (Da::ds) (.Name D p2::es)
theorem Names.pa(h:Names X Dn ds es):PA X es (fun _ H Q=>Q (ds.map V.ref) H):=by
 induction h with
 | nil=>exact Nh
 | cons hns hg2 hm2 t hdb hs ih=>exact Ga (Qz hg2 hm2 (v:=.ref _) rfl hdb) ih hs
theorem Names.kit(h:Names X Dn ds es)(T:Qo X.K Cs Ds=true)(hD:∀ D∈Dn,D∈Ds)(hC:C∈Cs)(hn:bV X.K bB C=some (some (.ref Ca))) :
  oP X.K (.ref Ca) (ds.map bP)=some (Dn.any (isX C)):=by
 induction h with
 | nil=>rfl
 | cons hns hg2 hm2 t hdb hs ih=>
  obtain ⟨v,hv,hk,_⟩:=(I0 T hC hn).2 _ (hD _ aW)
  rw[N0 hns] at hv
  cases hv
  have ih:=ih fun D h=>hD D (aR _ h)
  simp only[aS,oP,fO]
  rw[hk]
  cases hb:isX C _ with
  | true=>simp
  | false=>simp[ih]
def U6(Cs Dn:List Str)(f:FE):FE:=fun δ L=>(f δ L).bind fun p=>(Q9 Cs p.1 p.2).map fun t=>(.bl (Dn.any (isX t.2.1)),p.2)
theorem Names.len(h:Names X Dn ds es):ds.length=Dn.length:=by
 induction h with
 | nil=>rfl
 | cons _ _ _ _ _ _ ih=>simp[ih]
theorem Ajr{e:Expr}(T:Qo X.K Cs Ds=true)(hD:∀ D∈Dn,D∈Ds)(hN:Names X Dn ds es)(he:PEF X e fe)(hg:Gl X "isinstance")(hm:X.mg "isinstance" = none)(hlen:Dn.length<=100:=by decide)
  (hs:aN [e,.Tuple es k p2] X.env=(false,eval e X.env)::aN [.Tuple es k p2] X.env:=by rfl) (hs2:aN [.Tuple es k p2] X.env=(false,eval (.Tuple es k p2) X.env)::aN [] X.env:=by rfl)
  (hpl:(backTo pos (aN [.Tuple es k p2] X.env)).any (·.1)=false:=by rfl):PEF X (.Call (.Name "isinstance" p) [e,.Tuple es k p2] [] pos) (U6 Cs Dn fe):=by
 refine PE.imp (Lp Aeb hg hm (by decide +kernel) (Ga he (Ga (Afz hN.pa) Nh hs2) hs) (by decide) (by decide) hs hpl) ?_
 rintro σ H Q ⟨α,δ,L,A,S,z,L3,e,q⟩
 obtain ⟨u,L1,e1,e⟩:=B9 e
 obtain ⟨⟨n,C,fs⟩,e2,e⟩:=kB.mp e
 cases e
 obtain ⟨rfl,hC,fr,hL⟩:=R0 e2
 refine ⟨α,δ,L,A,S,_,_,e1,fun x H1 α1 g1 A1 r1=>⟨?_,fun tp ntp=>?_⟩⟩
 ·rw[aM,hN.len];exact hG (U1 (by omega))
 have g2:Gr H1 α1 (upd H1 tp (.tup (ds.map V.ref))) α1:=⟨⟨[],by simp⟩,.new ntp _⟩
 have A2:Abs X.K (upd H1 tp (.tup (ds.map V.ref))) α1 L1:=⟨A1.len,A1.inj,fun i a o e1 e2=>(A1.rep i a o e1 e2).other g2 (.inr fun u q=>by rw[Bv (By q ntp)];exact q)⟩
 obtain ⟨a,ea,Ca,dd,vs,hns,ha,hd,hk,rr⟩:=A2.addr hL
 obtain ⟨a',ea',rfl⟩:=r1.ref_of A1
 rw[ea] at ea';cases ea'
 exact ⟨a,Ca,dd,fr,vs,tp,ds,_,rfl,upd_same,ha,hd,(I0 T hC hns).1,hN.kit T hD hC hns,q _ _ α1 (g1.trans g2) A2 rfl⟩
end
section
variable {e:Expr}{pos':Pos}{xe:XE}
theorem An0(h:PXE X e xe)(hs:swapsWith e (some (.Name x pos')) pos.line X.env=pure false:=by rfl):PXS X (.Assign [.Name x pos'] e pos) (xOf xe):=by
 intro pins s σ H α δ L n δ' L' I A S q
 obtain ⟨q,rfl⟩:=Apw q
 exact qB (cA (h pins s σ H α δ' L n L' I A S q) (fun _ _ z=>z.elim) fun _ _ z=>z) hs
theorem Ud{rest:List Stmt}(h1:PXS X st y):Tj X (st::rest) (Lh Na y xNo):=by
 intro pins s σ H α δ L n δ' L' I A S q
 have q1:y δ L=some (n,δ',L'):=by
  unfold Lh at q
  cases h:y δ L with
  | some r=>rw[h] at q;exact q
  | none=>rw[h] at q;cases q
 exact gP (cA (h1 pins s σ H α δ L n δ' L' I A S q1) (fun _ _ z=>z.elim) fun _ _ z=>z)
end
end MR
namespace MR
open PySem PySem.Spec PyProof.Rows PySem.Calls L2
def Kv(it:IU)(g:FG)(body:FS)(x:XS):Nat->Nat->UE->UH->Option (Nat×UE×UH)
 | 0,_,_,_=>none
 | m+1,k,δ,L=>match it.at k L with
  | some (some u)=>match g u δ L with
   | some (δ1,L1)=>match x δ1 L1 with
    | some r=>some r
    | none=>match body δ1 L1 with
     | some (.nx δ2,L2)=>Kv it g body x m (k+1) δ2 L2
     | some (.ct δ2,L2)=>Kv it g body x m (k+1) δ2 L2
     | _=>none
   | none=>none
  | _=>none
def Aev(fi:FI)(g:FG)(body:FS)(x:XS):XS:=fun δ L=>match fi δ L with
 | some (it,L1)=>Kv it g body x (it.size L1+1) 0 δ L1
 | none=>none
variable {X:Cx}{H:Hp}{α:List Addr}{pos:Pos}
section
theorem Aal{pins:List (Addr×Obj)}{n:Nat}{δ':UE}{L':UH}{fa:Addr}(hst:X.stack=X.env::X.outer)(hfr:X.env.frame=some fa):qQ (model X.prog X.w) X.A X.env (FXP X pins H α n δ' L'):=by
 rintro e s' ⟨ea,Ca,dd,N,σ',H',α',rfl,Fl,g,A,S,at'⟩
 have hfrm:X.A.frames=some (X.env::X.outer):=by rw[<- hst];exact Fl.inv.ok.frames
 have hstk:s'.heap.FunFrames X.base (X.env::X.outer):=by rw[<- hst];exact Fl.inv.stack
 unfold notedBy
 refine Va hfrm hfr hstk Fl.fly fun h1 F1 u1 fr1=>?_
 unfold cameBackBy
 obtain ⟨vs,T,oT,ts,hx,k1,_⟩:=id F1
 obtain ⟨oe,he,_,_,hd,_⟩:=id hx
 refine aF (dQ (s:={ s' with heap:=h1 }) he hd k1 ?_)
 rw[if_neg (by simp)]
 refine Lv (s:={ s' with heap:=h1 }) fr1 F1 fun h2 F2 u2 fr2=>?_
 exact ⟨ea,Ca,dd,N,σ',H',α',rfl,Fl.step (h':=h2) (by rw[hst];exact u1.trans u2) ⟨bJ Fl.fly.1 (bJ u1.sz u2.sz),.inr ⟨_,F2⟩⟩,g,A,S,at'⟩
theorem FXP.unpin{pins pl:List (Addr×Obj)}{n:Nat}{δ':UE}{L':UH}{e:aE}{s':aH}(h:FXP X (pins++pl) H α n δ' L' e s'):FXP X pins H α n δ' L' e s':=by
 obtain ⟨ea,Ca,dd,N,σ',H',α',h1,⟨i1,i2,i3,i4,i5⟩,r⟩:=h
 refine ⟨ea,Ca,dd,N,σ',H',α',h1,⟨i1.unpinned,⟨i2.s0,i2.lo,i2.ce,fun p hp=>i2.pi p ?_⟩,i3,i4,i5⟩,r⟩
 rcases bM.mp hp with q | q
 ·exact cY _ q
 ·exact aU _ (cY _ q)
theorem Am8{tg iter:Expr}{body:List Stmt}{fi:FI}{g:FG}{fb:FS}{x:XS}{fa:Addr}(hst:X.stack=X.env::X.outer)(hfr:X.env.frame=some fa)(hc:X.calm=true)(hi:PIF X tg iter fi)(hg:PGF X tg g)(hb:Qp X body fb)(hxb:Tj X body x)
  (hx:∀ e s,X.xe e s->False:=by exact fun _ _ z=>z) (hs:∀ x,foldedSetIterable iter X.env x=pure x:=by intro _;rfl):PXS X (.For tg iter body [] pos) (Aev fi g fb x):=by
 intro pins s σ H α δ L n δ' L' I A S q
 unfold Aev at q
 split at q
 ·rename_i itU L1 e1
  have hp:=Aal (pins:=pins) (H:=H) (α:=α) (n:=n) (δ':=δ') (L':=L') hst hfr
  have up:∀ {β:Type} {t:Sem β} {Q:β->aH->Prop} {s:aH},wpAny (model X.prog X.w) X.A t Q X.xe s->wpAny (model X.prog X.w) X.A t Q (FXP X pins H α n δ' L') s:=fun h=>cA h (fun _ _ z=>z) fun _ _ z=>(hx _ _ z).elim
  refine wpAny_For (cA (hi pins s σ H (fun J H1=>∃ α1,Gr H α H1 α1/\Abs X.K H1 α1 L1/\Og X.K J itU H1 α1) I ⟨α,δ,L,A,S,itU,L1,e1,fun J H1 α1 g1 A1 r1=>⟨α1,g1,A1,r1⟩⟩) (fun v s1 h1=>cA h1 (fun itv s2 h2=>?_) fun _ _ z=>(hx _ _ z).elim) fun _ _ z=>(hx _ _ z).elim) hs
  obtain ⟨it,fp,tn,J,H2,e,I2,T,st2,f2,α1,g1,A1,hJ⟩:=h2
  subst e
  have stat:∀ {H':Hp},(∀ b∈fp,H' b=none)->∀ b∈fp,Kq X pins H' b:=fun hn b hb=>⟨hn b hb,(f2 b hb).2⟩
  refine oY (fun m s'=>∃ k σ' H' α' δ2 Lq,L2.Inv X pins σ' H' s'/\tn k s'.heap/\(∀ b∈fp,H' b=none)/\Gr H2 α1 H' α'/\Abs X.K H' α' Lq/\RepS X.K H' α' δ2 σ'/\Kv itU g fb x m k δ2 Lq=some (n,δ',L')) ?_ _ ⟨0,σ,H2,α1,δ,L1,I2,st2,fun b hb=>(f2 b hb).1,.refl _ _,A1,S.mono g1,q⟩
  rintro m s3 ⟨k,σ3,H3,α3,δ3,L3,I3,st3,fr3,g3,A3,S3,q3⟩
  cases m with
  | zero=>cases q3
  | succ m=>
   obtain ⟨hgo,_⟩:=hJ H3 α3 L3 g3 A3 k
   unfold Kv at q3
   split at q3
   ·rename_i u hat
    obtain ⟨go,yld⟩:=hgo u hat
    split at q3
    ·rename_i δ4 L4 e4
     refine dU hp (thn (T.item X rfl rfl rfl hc k pins s3 σ3 H3 (FXP X pins H α n δ' L') I3 (stat fr3) st3 go) fun r s4 zz=>?_)
     obtain ⟨uv,hr,h4⟩:=zz
     subst hr
     refine dU hp (thn h4 fun _ s5 zz=>?_)
     obtain ⟨xv,H5,I5,r5,y5,st5,fr5⟩:=zz
     have I5':=I5.pinned (stat fr5) (T.obj _ _ st5)
     obtain ⟨g5,A5,ru⟩:=yld xv H5 y5
     refine dU hp (up (thn (hg _ s5 σ3 H5 xv uv (fun σ6 H6=>∃ α6,Gr H5 α3 H6 α6/\Abs X.K H6 α6 L4/\RepS X.K H6 α6 δ4 σ6) I5' r5 ⟨α3,δ3,L3,u,A5,S3.mono g5,ru,δ4,L4,e4,fun σ6 H6 α6 g6 A6 S6=>⟨α6,g6,A6,S6⟩⟩) fun _ s6 zz=>?_))
     obtain ⟨σ6,H6,I6,α6,g6,A6,S6⟩:=zz
     have gg:Gr H α H6 α6:=(g1.trans g3).trans (g5.trans g6)
     cases hxr:x δ4 L4 with
     | some r=>
      rw[hxr] at q3
      simp only[Option.some.injEq] at q3
      subst q3
      exact dU hp (cA (hxb _ s6 σ6 H6 α6 δ4 L4 n δ' L' I6 A6 S6 hxr) (fun _ _ z=>z.elim) fun _ _ z=>(z.unpin).from gg)
     | none=>
      rw[hxr] at q3
      simp only at q3
      have again:∀ {σ7:L2.St} {H7:Hp} {α7:List Addr} {δ7:UE} {L7:UH} {s7:aH},L2.Inv X (pins++Py fp s5.heap) σ7 H7 s7->Gr H6 α6 H7 α7->Abs X.K H7 α7 L7->RepS X.K H7 α7 δ7 σ7->Kv itU g fb x m (k+1) δ7 L7=some (n,δ',L') ->
        ∃ m',m' < m+1/\∃ k σ' H' α' δ2 Lq,L2.Inv X pins σ' H' s7/\tn k s7.heap/\(∀ b∈fp,H' b=none)/\Gr H2 α1 H' α'/\Abs X.K H' α' Lq/\RepS X.K H' α' δ2 σ'/\Kv itU g fb x m' k δ2 Lq=some (n,δ',L'):=fun {σ7 H7 α7 δ7 L7 s7} I7 g7 A7 S7 q7=>by
       refine ⟨m,dW _,k+1,σ7,H7,α7,δ7,L7,I7.unpinned,T.keep _ _ _ st5 fun b hb o e=>(I7.pin (b,o) (aU _ (aU _ (Gs hb e)))).1,fun b hb=>?_,(g3.trans (g5.trans g6)).trans g7,A7,S7,q7⟩
       obtain ⟨o,e,d⟩:=T.obj _ _ st5 b hb
       exact (I7.pin (b,o) (aU _ (aU _ (Gs hb e)))).2.1
      split at q3
      ·rename_i δ7 L7 e7
       refine dU hp (up (thn (hb _ s6 σ6 H6 { nx:=fun σ7 H7=>∃ α7,Gr H6 α6 H7 α7/\Abs X.K H7 α7 L7/\RepS X.K H7 α7 δ7 σ7,ct:=fun _ _=>False,bk:=fun _ _=>False,rt:=fun _ _=>False } I6 ⟨α6,δ4,L4,A6,S6,.nx δ7,L7,e7,fun σ7 H7 α7 g7 A7 S7=>⟨α7,g7,A7,S7⟩⟩) fun f s7 q7=>?_))
       cases f with
       | next=>obtain ⟨σ7,H7,I7,α7,g7,A7,S7⟩:=q7;exact again I7 g7 A7 S7 q3
       | cont=>obtain ⟨_,_,_,z⟩:=q7;exact z.elim
       | brk=>obtain ⟨_,_,_,z⟩:=q7;exact z.elim
       | ret v=>obtain ⟨_,_,_,_,_,z⟩:=q7;exact z.elim
      ·rename_i δ7 L7 e7
       refine dU hp (up (thn (hb _ s6 σ6 H6 { nx:=fun _ _=>False,ct:=fun σ7 H7=>∃ α7,Gr H6 α6 H7 α7/\Abs X.K H7 α7 L7/\RepS X.K H7 α7 δ7 σ7,bk:=fun _ _=>False,rt:=fun _ _=>False } I6 ⟨α6,δ4,L4,A6,S6,.ct δ7,L7,e7,fun σ7 H7 α7 g7 A7 S7=>⟨α7,g7,A7,S7⟩⟩) fun f s7 q7=>?_))
       cases f with
       | next=>obtain ⟨_,_,_,z⟩:=q7;exact z.elim
       | cont=>obtain ⟨σ7,H7,I7,α7,g7,A7,S7⟩:=q7;exact again I7 g7 A7 S7 q3
       | brk=>obtain ⟨_,_,_,z⟩:=q7;exact z.elim
       | ret v=>obtain ⟨_,_,_,_,_,z⟩:=q7;exact z.elim
      ·cases q3
    ·cases q3
   ·cases q3
 ·cases q
end
theorem J8(x y:Str):(bQ x y).length<=x.length+2:=by
 unfold bQ
 split
 ·simp
 ·split
  ·simp
  ·have e1:=kH x y 0 x.length (x.length+1)
   rw[length_partsBetween];omega
variable {x:Str}
theorem Ada{P:cD}{w:cV}{A:fA}{E:aE->aH->Prop}{s:aH}{Q:aE->aH->Prop}{y:Str}{t u:Tok}(hy:(y.length == 0)=false)(hsz:x.length+2<=sizeLine)
  (h:∀ (l:List (Str×Tok)) (k:Nat),l.map (·.1)=bQ x y->Q (.ref s.heap.objs.size) { s with heap:=s.heap.push { cls:=.type "list",data:=.seq (strValues l).toArray },toks:=k }) :
  wpAny (model P w) A (call (.builtin "str.split") [.str x t,.str y u]) Q E s:=by
 have hn:=J8 x y
 by_cases c1:(decide (x.length < y.length) || decide (jC x < jC y))=true
 ·have e:bQ x y=[x]:=by unfold bQ;rw[if_pos c1]
  exact jO cM (iQ _ _ _) jS (jG _ _) (meets_str_split_cannot_occur x y t u c1) (h [(x,t)] s.toks (by rw[e];rfl))
 have c1':(decide (x.length < y.length) || decide (jC x < jC y))=false:=by simpa using c1
 by_cases c2:(aZ x y 0 x.length (x.length+1)).isEmpty=true
 ·have e:bQ x y=[x]:=by unfold bQ;rw[if_neg c1,if_pos c2]
  exact jO cM (iQ _ _ _) jS (jG _ _) (meets_str_split_not_found x y t u c1' hy c2) (h [(x,t)] s.toks (by rw[e];rfl))
 have c2':(aZ x y 0 x.length (x.length+1)).isEmpty=false:=by simpa using c2
 have e:bQ x y=dB x (aZ x y 0 x.length (x.length+1)) y.length:=by unfold bQ;rw[if_neg c1,if_neg c2]
 rw[e] at hn
 refine jO cM (iQ _ _ _) jS (jG _ _) (meets_str_split_sep x y t u c1' hy c2' (by omega) (by omega)) ?_
 show wants Q E _ _
 rw[strsFrom_eq]
 exact h (numbered s.toks _) _ ((numbered_texts _ _).trans e.symm)
theorem Qc:∀ (l:List (Str×Tok)),Vals ((l.map (·.1)).map V.str) (strValues l)
 | []=>.nil
 | p::r=>.cons ⟨p.2,rfl⟩ (Qc r)
section
def Ahn:V->List V->Hp->VK->Prop:=fun x vs H Q=>∃ a b,x = .str a/\vs=[.str b]/\(b.length == 0)=false/\a.length+2<=sizeLine/\∀ l,H l=none->Q (.ref l) (upd H l (.lst ((bQ a b).map V.str)))
theorem G9:MtR X "str.split" Ahn:=by
 intro pins s σ H x vs v us Q I rx rv h
 obtain ⟨a,b,rfl,rfl,hb,hz,q⟩:=h
 obtain ⟨t,rfl⟩:=rx
 obtain ⟨u,rfl,ru⟩:=rv.one
 obtain ⟨t',rfl⟩:=ru
 refine wtk I.tk (Ada hb hz fun l k e ht=>?_)
 have hlen:=J8 a b
 refine ⟨.ref s.heap.objs.size,_,I.laid (t':=k) (o:=.lst ((bQ a b).map V.str)) (fun b o e=>aI _ e) (aJ _) ⟨by rw[aM];omega,strValues l,0,by rw[<- e];exact Qc l,bI _ rfl⟩,rfl,q _ (I.hok.fresh (aJ _))⟩
def Abn:V->List V->Hp->VK->Prop:=fun x vs H Q=>∃ a b,x = .str a/\vs=[.str b]/\Q (.bl (kC a b)) H
theorem Adf:MtR X "str.startswith" Abn:=by
 intro pins s σ H x vs v us Q I rx rv h
 obtain ⟨a,b,rfl,rfl,q⟩:=h
 obtain ⟨t,rfl⟩:=rx
 obtain ⟨u,rfl,ru⟩:=rv.one
 obtain ⟨t',rfl⟩:=ru
 exact SC.startswith ⟨.bl (kC a b),H,I,rfl,q⟩
theorem Ts:CallR X (.type "int") (fun xs H Q=>∃ a n,xs=[.str a]/\mN a=some n/\a.length<=640/\Q (.int n) H):=by
 intro pins s σ H xs us Q I r h
 obtain ⟨a,n,rfl,hn,hl,q⟩:=h
 obtain ⟨u,rfl,ru⟩:=r.one
 obtain ⟨t,rfl⟩:=ru
 exact PySem.W.KIN.call_text hn hl ⟨.int n,H,I.tok _,⟨_,rfl⟩,q⟩
end
def B2:SM:=fun u us L=>match u,us with
 | .str a,[.str b]=>if (b.length == 0)=false/\a.length<=1000000 then some (.ref L.length,L++[.lst ((bQ a b).map U.str)]) else none
 | _,_=>none
variable {K:aB}
theorem Wo:∀ l:List Str,RepL K H α (l.map U.str) (l.map V.str)
 | []=>.nil
 | a::l=>.cons (by unfold RepU;rfl) (Wo l)
theorem F4:V8 K Ahn B2:=by
 intro H α L u us x xs z L' Q A ru r e q
 unfold B2 at e
 split at e
 ·rename_i a b
  split at e
  ·rename_i hc
   cases e
   unfold RepU at ru
   subst ru
   obtain ⟨v,rfl,rv⟩:=r.one
   unfold RepU at rv
   subst rv
   refine ⟨a,b,rfl,rfl,hc.1,by unfold sizeLine;omega,fun l hl=>?_⟩
   obtain ⟨g2,A2,r2⟩:=A.lst (Wo (K:=K) (H:=H) (α:=α) (bQ a b)) hl
   exact q _ _ _ g2 A2 r2
  ·cases e
 ·cases e
def semStarts:SM:=fun u us L=>match u,us with
 | .str a,[.str b]=>some (.bl (kC a b),L)
 | _,_=>none
theorem Aai:V8 K Abn semStarts:=by
 intro H α L u us x xs z L' Q A ru r e q
 unfold semStarts at e
 split at e
 ·cases e
  unfold RepU at ru
  subst ru
  obtain ⟨v,rfl,rv⟩:=r.one
  unfold RepU at rv
  subst rv
  exact ⟨_,_,rfl,rfl,q _ H α (.refl _ _) A rfl⟩
 ·cases e
def Jd:SC:=fun us L=>match us with
 | [.str a]=>if a.length<=640 then (mN a).map fun n=>(.int n,L) else none
 | _=>none
theorem Xr:Pw K (fun xs H Q=>∃ a n,xs=[.str a]/\mN a=some n/\a.length<=640/\Q (.int n) H) Jd:=by
 intro H α L us xs z L' Q A r e q
 unfold Jd at e
 split at e
 ·split at e
  ·rename_i hc
   obtain ⟨n,hn,e⟩:=mpd e
   cases e
   obtain ⟨x,rfl,rx⟩:=r.one
   unfold RepU at rx
   subst rx
   exact ⟨_,n,rfl,hn,hc,q _ H α (.refl _ _) A rfl⟩
  ·cases e
 ·cases e
theorem Wn{a:Str}(hg:Gl X x)(hm:∃ t,X.mg x=some (.str a t))(hd:(x == ("__debug__" : Str))=false:=by decide):PEF X (.Name x pos) (fC (.str a)):=
 let ⟨t,h⟩:=hm
 Aae (Qz (v:=.str a) hg h ⟨t,rfl⟩ hd) fun _ _=>by unfold RepU;rfl
theorem Afd{i:Int}(hg:Gl X x)(hm:∃ t,X.mg x=some (.int i t))(hd:(x == ("__debug__" : Str))=false:=by decide):PEF X (.Name x pos) (fC (.int i)):=
 let ⟨t,h⟩:=hm
 Aae (Qz (v:=.int i) hg h ⟨t,rfl⟩ hd) fun _ _=>by unfold RepU;rfl
def K3(n:Int):Bool:=decide (-100000000000000000000<=n)&&decide (n<=100000000000000000000)
theorem Ajq{n:Int}(h:K3 n=true):n.natAbs.log2 < 1920:=by
 unfold K3 at h
 simp only[bG,decide_eq_true_eq] at h
 have h1:n.natAbs<=100000000000000000000:=by omega
 by_cases h0:n.natAbs=0
 ·rw[h0];decide
 ·rw[Nat.log2_lt h0]
  refine pV h1 ?_
  have:(100000000000000000000:Nat) < 2 ^ 100:=by decide
  exact aG this (oQ (by decide) (by decide))
def Aay(n:Int):Str:=iW (toString n)
def Au4(t:TE):TE:=fun σ H Q=>t σ H fun v H1=>(∃ x,v = .str x/\x.length<=sizeLine/\Q (.str x) H1)\/∃ n,v = .int n/\K3 n=true/\Q (.str (Aay n)) H1
variable {es:List Expr}
section
theorem Apa{e:Expr}{t:TE}(h:PE X e t):PE X (.FormattedValue e (-1) none pos) (Au4 t):=by
 intro pins s σ H Q I q
 refine FormattedValue_plain (thn (h pins s σ H _ I q) fun v s1 zz=>?_)
 obtain ⟨x,H1,I1,r1,q1⟩:=zz
 rcases q1 with ⟨a,rfl,hl,q⟩ | ⟨n,rfl,hn,q⟩
 ·obtain ⟨t',rfl⟩:=r1
  exact wtk I1.tk (formatField_str (fun t'' tk ht=>⟨.str a,H1,I1.tok tk ht,⟨_,rfl⟩,q⟩) hl)
 ·obtain ⟨t',rfl⟩:=r1
  exact formatField_int_small (Ajq hn) ⟨.str (Aay n),H1,I1.tok _,⟨_,rfl⟩,q⟩
def tJ:Str->List TE->L2.St->Hp->VK->Prop
 | out,[],_,H,Q=>out.length<=sizeLine/\Q (.str out) H
 | out,t::r,σ,H,Q=>t σ H fun v H1=>∃ x,v = .str x/\(out++x).length<=sizeLine/\tJ (out++x) r σ H1 Q
inductive PEs(X:Cx):List Expr->List TE->Prop
 | nil:PEs X [] []
 | cons {e:Expr} {t:TE} {es:List Expr} {ts:List TE} (h:PE X e t) (r:PEs X es ts):PEs X (e::es) (t::ts)
theorem Adr{ts:List TE}(h:PEs X es ts):∀ (pins:List (Addr×Obj)) (s:aH) (σ:L2.St) (H:Hp) (Q:VK) (out:Str),Inv X pins σ H s ->
  tJ out ts σ H Q->wpAny (model X.prog X.w) X.A (joinParts out (evalEach es X.env)) (EP X pins σ Q) X.xe s:=by
 induction h with
 | nil=>
  intro pins s σ H Q out I q
  obtain ⟨hl,q⟩:=q
  exact joinParts_nil ⟨.str out,H,I.tok _,⟨_,rfl⟩,q⟩ hl
 | @cons e t es ts h r ih=>
  intro pins s σ H Q out I q
  show wpAny _ _ (joinParts out (eval e X.env::evalEach es X.env)) _ _ _
  refine joinParts_cons (thn (h pins s σ H _ I q) fun v s1 zz=>?_)
  obtain ⟨x,H1,I1,r1,y,ey,hl,q1⟩:=zz
  subst ey
  obtain ⟨t',rfl⟩:=r1
  exact ⟨hl,ih pins s1 σ H1 Q (out++y) I1 q1⟩
theorem Aer{v1 v2:Expr}{ts:List TE}(h:PEs X (v1::v2::es) ts):PE X (.JoinedStr (v1::v2::es) pos) (tJ kL ts):=fun pins s σ H Q I q=>
 JoinedStr_many (Adr h pins s σ H Q kL I q)
end
def Vb(f:FE):FE:=fun δ L=>(f δ L).bind fun p=>match p.1 with
 | .str x=>if Ew x.length=true then some (.str x,p.2) else none
 | .int n=>if K3 n=true then some (.str (Aay n),p.2) else none
 | _=>none
theorem Agi{e:Expr}{f:FE}(h:PEF X e f):PEF X (.FormattedValue e (-1) none pos) (Vb f):=by
 refine PE.imp (Apa h) ?_
 rintro σ H Q ⟨α,δ,L,A,S,z,L3,e,q⟩
 obtain ⟨u,L1,e1,e⟩:=B9 e
 refine ⟨α,δ,L,A,S,u,L1,e1,fun x H1 α1 g1 A1 r1=>?_⟩
 simp only at e
 split at e
 ·split at e
  ·rename_i hc
   cases e
   unfold RepU at r1
   subst r1
   exact .inl ⟨_,rfl,De hc,q _ _ _ g1 A1 (by unfold RepU;rfl)⟩
  ·cases e
 ·split at e
  ·rename_i hc
   cases e
   unfold RepU at r1
   subst r1
   exact .inr ⟨_,rfl,hc,q _ _ _ g1 A1 (by unfold RepU;rfl)⟩
  ·cases e
 ·cases e
def goJ:Str->List FE->UE->UH->Option (U×UH)
 | out,[],_,L=>some (.str out,L)
 | out,f::r,δ,L=>(f δ L).bind fun p=>match p.1 with
  | .str x=>if Ew (out++x).length=true then goJ (out++x) r δ p.2 else none
  | _=>none
def Fp(fs:List FE):FE:=fun δ L=>goJ kL fs δ L
inductive PFs(X:Cx):List Expr->List FE->Prop
 | nil:PFs X [] []
 | cons {e:Expr} {f:FE} {es:List Expr} {fs:List FE} (h:PEF X e f) (r:PFs X es fs):PFs X (e::es) (f::fs)
theorem PFs.pes{fs:List FE}(h:PFs X es fs):PEs X es (fs.map (lE X.K)):=by
 induction h with
 | nil=>exact .nil
 | cons h r ih=>exact .cons h ih
theorem Afb:∀ (fs:List FE) (out:Str) (σ:L2.St) (H:Hp) (Q:VK) (α:List Addr) (δ:UE) (L:UH) (z:U) (L3:UH),Abs K H α L->RepS K H α δ σ->goJ out fs δ L=some (z,L3)->out.length<=sizeLine ->
  (∀ v H' α',Gr H α H' α'->Abs K H' α' L3->RepU K H' α' z v->Q v H')->tJ out (fs.map (lE K)) σ H Q
 | [],out,σ,H,Q,α,δ,L,z,L3,A,S,e,hl,q=>by
  cases e
  exact ⟨hl,q _ H α (.refl _ _) A (by unfold RepU;rfl)⟩
 | f::r,out,σ,H,Q,α,δ,L,z,L3,A,S,e,hl,q=>by
  unfold goJ at e
  obtain ⟨u,L1,e1,e⟩:=B9 e
  refine ⟨α,δ,L,A,S,u,L1,e1,fun x H1 α1 g1 A1 r1=>?_⟩
  simp only at e
  split at e
  ·split at e
   ·rename_i x' hc
    unfold RepU at r1
    subst r1
    exact ⟨x',rfl,De hc,Afb r (out++x') σ H1 Q α1 δ L1 z L3 A1 (S.mono g1) e (De hc) fun v H' α' g A' r'=>q v H' α' (g1.trans g) A' r'⟩
   ·cases e
  ·cases e
theorem Pp{v1 v2:Expr}{fs:List FE}(h:PFs X (v1::v2::es) fs):PEF X (.JoinedStr (v1::v2::es) pos) (Fp fs):=by
 refine PE.imp (Aer h.pes) ?_
 rintro σ H Q ⟨α,δ,L,A,S,z,L3,e,q⟩
 exact Afb fs kL σ H Q α δ L z L3 A S e (eO _) q
end MR
namespace MR
open PySem PySem.Spec PyProof.Rows L2
def Aqr(t:TE):TE:=fun σ H Q=>t σ H fun v H1=>∃ x,v = .str x/\(reprText x).length<=sizeLine/\Q (.str (reprText x)) H1
variable {X:Cx}{e:Expr}{pos:Pos}
section
theorem Ai8{t:TE}(h:PE X e t):PE X (.FormattedValue e 114 none pos) (Aqr t):=by
 intro pins s σ H Q I q
 refine wpAny_FormattedValue_repr (thn (h pins s σ H _ I q) fun v s1 zz=>?_)
 obtain ⟨x,H1,I1,r1,a,ea,hl,q1⟩:=zz
 subst ea
 obtain ⟨t',rfl⟩:=r1
 refine wpAny_pyReprObj_str ?_ hl
 exact wtk (cL _) (formatField_str (fun t'' tk ht=>⟨.str (reprText a),H1,I1.tok tk ht,⟨_,rfl⟩,q1⟩) hl)
def Uu(f:FE):FE:=fun δ L=>(f δ L).bind fun p=>match p.1 with
 | .str x=>if Ew (reprText x).length=true then some (.str (reprText x),p.2) else none
 | _=>none
theorem Aih{f:FE}(h:PEF X e f):PEF X (.FormattedValue e 114 none pos) (Uu f):=by
 refine PE.imp (Ai8 h) ?_
 rintro σ H Q ⟨α,δ,L,A,S,z,L3,e,q⟩
 obtain ⟨u,L1,e1,e⟩:=B9 e
 refine ⟨α,δ,L,A,S,u,L1,e1,fun x H1 α1 g1 A1 r1=>?_⟩
 simp only at e
 split at e
 ·split at e
  ·rename_i hc
   cases e
   unfold RepU at r1
   subst r1
   exact ⟨_,rfl,De hc,q _ _ _ g1 A1 (by unfold RepU;rfl)⟩
  ·cases e
 ·cases e
end
theorem Ahi(self:aE):qZ self "__setattr__" bmV=pure ():=by kernel_rfl
theorem Wu{h:Heap}{l:List aE}(self:aE)(T:OwnTail h bmV l):qZ self "__setattr__" l=pure ():=by
 generalize hb:bmV=b at T
 induction T with
 | base=>rw[<- hb];exact Ahi self
 | own _ _ _ _ ih=>rw[PySem.refuseLoop_ref];exact ih
def Ahu(K:aB)(Cs:List Str)(f:Str):Bool:=Cs.all fun C=>match bV K bB C with
 | some (some (.ref a))=>bR K (.ref a) f == some none&&bR K (.ref a) "__setattr__" == some (some (.builtin "object.__setattr__"))
 | _=>false
variable {f:Str}
theorem Abd{K:aB}{Cs:List Str}{C:Str}{Ca:Addr}(T:Ahu K Cs f=true)(hC:C∈Cs)(hn:bV K bB C=some (some (.ref Ca))):bR K (.ref Ca) f=some none/\bR K (.ref Ca) "__setattr__" = some (some (.builtin "object.__setattr__")):=by
 have h:=bW.mp T C hC
 rw[hn] at h
 simpa only[bG,beq_iff_eq] using h
section
variable {prog:cD}{w:cV}{A:fA}{E:aE->aH->Prop}{s:aH}{K:aB}{x C:Addr}{name:Str}{v:aE}{vs:Array aE}
theorem Aj1{Q:Unit->aH->Prop}(X:K.In s.heap)(T:ExcA K C)(hf:bR K (.ref C) name=some none)(hs:bR K (.ref C) "__setattr__" = some (some (.builtin "object.__setattr__")))
  (hx:s.heap.get? x=some ⟨.ref C,none,.fields vs,#[]⟩)
  (h:∀ h',(∀ b o,b≠x->s.heap.get? b=some o->h'.get? b=some o)->h'.get? x=some ⟨.ref C,some s.heap.objs.size,.fields vs,#[]⟩->h'.Ns1 s.heap.objs.size (fun y=>if y=name then some v else none)->Q () { s with heap:=h',toks:=s.toks+2 }) :
  wpAny (model prog w) A (setAttr (.ref x) name v) Q E s:=by
 have I:gQ s.heap x ⟨.ref C,none,.fields vs,#[]⟩ C none:=⟨hx,rfl,rfl,trivial⟩
 have SF:=PySem.F.store_object
 obtain ⟨cd,hc,hd⟩:=kO T.hd
 refine PySem.W.set_plain X I hs ?_
 have hs1:({ s with toks:=s.toks+1 }:aH).heap=s.heap:=rfl
 have sub:pI (model prog w) s.heap (isInstance (.ref x) (.type "object")) true:=I.type.andThen (PySem.W.looks_mroIn X T.mo)
 refine lC SF.slot.plain SF.entry (@pY (model prog w) _ _ { s with toks:=s.toks+1 } "object.__setattr__" "object" "__setattr__" (.ref x) [.str name s.toks,v] [] _ SF.kind SF.split sub (SF.args (.ref x) (.str name s.toks) v) ?_)
 obtain ⟨nm,qn,N,bs,bm,hdct,sn,sub',ab,col,dd',k0,k1,k2,k3,k5,hC,OT⟩:=Ow X T.ex
 rw[PySem.W.osa_eq,refuse_eq]
 refine aF (aF (fD (s:={ s with toks:=s.toks+1 }) I.type (aF ?_)))
 refine wpAny_mroOf_exc (g:=s.gens) (d:=s.drawn) (t:=s.toks+1) (os:=s.os) hC ?_
 rw[refuseLoop_ref,Wu _ OT]
 refine aX (aF (fD (s:={ s with toks:=s.toks+1 }) I.type (aF (fD (s:={ s with toks:=s.toks+1 }) (lB X hf) ?_))))
 refine aF (aX (a:=none) ?_)
 show wpAny _ _ (jU (.ref x) (.ref C) (.str name s.toks) name v false) _ _ _
 unfold jU nA.ObjectAttr.ownDictForStores instanceDict
 refine aF (aX ?_)
 rw[if_neg (show ¬ ((bP C == mB "module")=true) from by simp)]
 refine aF ?_
 refine aF (wpAny_loadPart hx ?_)
 refine aF (fD (s:={ s with toks:=s.toks+1 }) (PySem.W.looks_clsIn X hc) ?_)
 rw[hd]
 show wpAny _ _ (do
  let d <- alloc { cls:=.type "dict",data:=.dict #[] }
  update x fun o=>{ o with dict:=some d }
  dictMade (.ref C) x d) _ _ _
 refine aF (wpAny_alloc ?_)
 have hx1:(s.heap.push { cls:=.type "dict",data:=.dict #[] }).get? x=some ⟨.ref C,none,.fields vs,#[]⟩:=aI _ hx
 refine aF (wpAny_update hx1 (aX ?_))
 have hne:x≠s.heap.objs.size:=cC (aO hx)
 have e2:((s.heap.push { cls:=.type "dict",data:=.dict #[] }).update x fun o=>{ o with dict:=some s.heap.objs.size }).get? x=some ⟨.ref C,some s.heap.objs.size,.fields vs,#[]⟩:=dM _ hx1 rfl
 have e1:((s.heap.push { cls:=.type "dict",data:=.dict #[] }).update x fun o=>{ o with dict:=some s.heap.objs.size }).get? s.heap.objs.size=some { cls:=.type "dict",data:=.dict #[] }:=(cQ _ _ hne).trans (bI s.heap rfl)
 have n0:((s.heap.push { cls:=.type "dict",data:=.dict #[] }).update x fun o=>{ o with dict:=some s.heap.objs.size }).Ns1 s.heap.objs.size (fun _=>none):=qE ⟨_,#[],_,e1,rfl,(fun e he=>absurd he (by simp)),fun _=>rfl⟩
 generalize hh2:((s.heap.push { cls:=.type "dict",data:=.dict #[] }).update x fun o=>{ o with dict:=some s.heap.objs.size })=h2 at *
 show wpAny _ _ (kP s.heap.objs.size (.str name s.toks) name v) _ _ _
 unfold kP
 refine aF (aX (aF ?_))
 refine wpAny_nsSet1 n0 fun h3 n3 sb=>?_
 obtain ⟨oD,esD,epD,hoD,hdD,hcD⟩:=n3.count (sI.cons (ns:=[]) name v (fun y hy=>absurd rfl hy))
 refine aF (wpAny_lookBehind hoD (by rw[hdD];exact pastItsLine_dict (bJ hcD (by show 1<=sizeLine+1;decide))) ?_)
 refine aX (h h3 (fun b o hb q=>?_) ((sb.2 x hne).trans e2) n3)
 have hb2:b≠s.heap.objs.size:=cC (aO q)
 rw[sb.2 b hb2,<- hh2,cQ _ _ (eG hb)]
 exact aI _ q
end
def Asg(K:aB)(to tv:TE)(f:Str):TS:=fun D σ H=>tv σ H fun y H1=>to σ H1 fun x H2=>∃ a Ca fr,x = .ref a/\H2 a=some (.ext (Co a Ca none fr))/\ExcA K Ca/\bR K (.ref Ca) f=some none /\
 bR K (.ref Ca) "__setattr__" = some (some (.builtin "object.__setattr__"))/\∀ d od,H2 d=none->d≠a->D.nx σ (upd (upd H2 d (.frz od (.xd [(f,y)]))) a (.ext (Co a Ca (some d) fr)))
variable {o:Expr}{p:Pos}
section
variable {value:Expr}{pos':Pos}{to tv:TE}
theorem Aiu(ho:PE X o to)(hv:PE X value tv)(hs:swapsWith value (some (.Attribute o f pos')) pos.line X.env=pure false:=by rfl):PS X (.Assign [.Attribute o f pos'] value pos) (Asg X.K to tv f):=by
 intro pins s σ H D I h
 refine plainObj_wpAny_Assign_Attribute (thn (hv pins s σ H _ I h) fun u s1 ⟨y,H1,I1,ry,q⟩=>thn (ho pins s1 σ H1 _ I1 q) fun ov s2 ⟨x,H2,I2,rx,a,Ca,fr,ex,ea,T,hf,hsa,q2⟩=>?_) hs
 subst ex
 obtain rfl:ov=bP a:=rx
 obtain ⟨ob,vs,h1,h2,h3,h4,h5,h6,h7⟩:=(I2.hok a _ ea).1
 obtain ⟨cl,di,da,sl⟩:=ob
 dsimp only at h2 h3 h4 h6
 subst h2 h3 h4 h6
 refine Aj1 I2.kIn T hf hsa h1 fun h' k hx hn=>?_
 have hfr:H2 s2.heap.objs.size=none:=I2.hok.fresh (aJ _)
 have hne:s2.heap.objs.size≠a:=cP (aO h1)
 obtain ⟨od,es,ep,ho',hrest⟩:=id hn
 have hfd:od.isFreed=false:=(Heap.get?_some_iff.mp ho').2
 have e1:(s2.heap.push od).get? s2.heap.objs.size=some od:=bI s2.heap hfd
 have nx:(s2.heap.push od).Ns1 s2.heap.objs.size (fun z=>if z=f then some u else none):=⟨od,es,ep,e1,hrest⟩
 have rel:∀ g,RelO (sW g [(f,y)]) (if g=f then some u else none):=fun g=>by
  rw[cB]
  by_cases hg:g=f
  ·subst hg;simp;exact ry
  ·have:(g == f)=false:=by simpa using hg
   rw[this,if_neg hg]
   exact fB
 have J1:=I2.laid (a:=s2.heap.objs.size) (o:=.frz od (.xd [(f,y)])) (h':=s2.heap.push od) (t':=s2.toks) (fun b u q=>aI _ q) (aJ _) ⟨e1,_,nx,rel⟩
 have hxI:Co a Ca (some s2.heap.objs.size) fr h':=⟨_,vs,hx,rfl,rfl,rfl,h5,rfl,h7⟩
 have J2:=J1.write (h':=h') (x:=a) (e:=a) (o:=.ext (Co a Ca (some s2.heap.objs.size) fr)) (t':=s2.toks+2) (by rw[Bv (eG hne),ea];exact fB) (.inl rfl) (fun b w hb z=>by
  rcases Heap.get?_push_cases z with ⟨hd,ho2⟩ | z2
  ·subst hd;subst ho2;exact ho'
  ·exact k b w hb z2) ⟨_,hx⟩ (Oi hxI)
 exact ⟨σ,_,J2,q2 _ od hfr hne⟩
end
def Mx(Cs:List Str)(f:Str)(fo fv:FE):FS:=fun δ L=>(fv δ L).bind fun p=>(fo δ p.2).bind fun q=>match q.1 with
 | .ref n=>match q.2[n]? with
  | some (.exc C fr [])=>if C∈Cs then some (.nx δ,q.2.set n (.exc C fr [(f,p.1)])) else none
  | _=>none
 | _=>none
section
variable {value:Expr}{pos':Pos}{fo fv fe:FE}{Cs Ds:List Str}
theorem Rb(T:Qo X.K Cs Ds=true)(F:Ahu X.K Cs f=true)(ho:PEF X o fo)(hv:PEF X value fv)(hs:swapsWith value (some (.Attribute o f pos')) pos.line X.env=pure false:=by rfl) :
  PSF X (.Assign [.Attribute o f pos'] value pos) (Mx Cs f fo fv):=by
 refine PS.imp (Aiu ho hv hs) ?_
 rintro D σ H ⟨α,δ,L,A,S,fl,L',ee,q⟩
 obtain ⟨u,L1,e1,ee⟩:=B9 ee
 obtain ⟨w,L2,e2,ee⟩:=B9 ee
 simp only at ee
 split at ee
 ·rename_i n
  split at ee
  ·rename_i C fr hL
   split at ee
   ·rename_i hC
    cases ee
    refine ⟨α,δ,L,A,S,u,L1,e1,fun y H1 α1 g1 A1 r1=>⟨α1,δ,L1,A1,S.mono g1,_,L2,e2,fun x H2 α2 g2 A2 r2=>?_⟩⟩
    obtain ⟨a,ea,Ca,dd,vs,hns,ha,hd,hk,rr⟩:=A2.addr hL
    obtain ⟨a',ea',rfl⟩:=r2.ref_of A2
    rw[ea] at ea';cases ea'
    have hvs:vs=[]:=by
     cases vs with
     | nil=>rfl
     | cons z zs=>simp at hk
    subst hvs
    have hdn:dd=none:=by
     cases dd with
     | none=>rfl
     | some dx=>exact absurd rfl hd.1
    subst hdn
    obtain ⟨TA,_⟩:=I0 T hC hns
    obtain ⟨F1,F2⟩:=Abd F hC hns
    refine ⟨a,Ca,fr,rfl,ha,TA,F1,F2,fun d od nd hne=>?_⟩
    have ga:Gr H2 α2 (upd H2 d (.frz od (.xd [(f,y)]))) α2:=⟨⟨[],by simp⟩,.new nd _⟩
    have Aa:Abs X.K (upd H2 d (.frz od (.xd [(f,y)]))) α2 L2:=⟨A2.len,A2.inj,fun i b o' e1 e2=>(A2.rep i b o' e1 e2).other ga (.inr fun v z=>by rw[Bv (By z nd)];exact z)⟩
    have ha':(upd H2 d (.frz od (.xd [(f,y)]))) a=some (.ext (Co a Ca none fr)):=by rw[Bv (eG hne)];exact ha
    have gb:Gr (upd H2 d (.frz od (.xd [(f,y)]))) α2 (upd (upd H2 d (.frz od (.xd [(f,y)]))) a (.ext (Co a Ca (some d) fr))) α2:=⟨⟨[],by simp⟩,.write ha' (by exact trivial) _⟩
    have hdd:DictIs (upd (upd H2 d (.frz od (.xd [(f,y)]))) a (.ext (Co a Ca (some d) fr))) (some d) [(f,y)]:=⟨by simp,od,by rw[Bv hne,upd_same]⟩
    obtain ⟨Ab,_⟩:=Aa.put (o:=.ext (Co a Ca (some d) fr)) (u:=.exc C fr [(f,u)]) ea hL rfl rfl ha' (by exact trivial) ⟨Ca,some d,[(f,y)],hns,upd_same,hdd,rfl,.cons (((r1.mono g2).mono ga).mono gb) .nil⟩
    exact q _ _ α2 ((g1.trans g2).trans (ga.trans gb)) Ab ((((S.mono g1).mono g2).mono ga).mono gb)
   ·cases ee
  ·cases ee
 ·cases ee
def Ath(K:aB)(t:TE)(f:Str):TE:=fun σ H Q=>t σ H fun x H1=>∃ a Ca dx fr vs od v,x = .ref a/\H1 a=some (.ext (Co a Ca (some dx) fr))/\H1 dx=some (.frz od (.xd vs))/\ExcA K Ca/\bR K (.ref Ca) f=some none/\vs.lookup f=some v/\Q v H1
theorem Aka{t:TE}(he:PE X e t)(hb:attributeBase e f X.env (eval e X.env)=eval e X.env:=by rfl):PE X (.Attribute e f pos) (Ath X.K t f):=by
 intro pins s σ H Q I h
 refine Akw hb (thn (he pins s σ H _ I h) fun u s1 zz=>?_)
 obtain ⟨x,H1,I1,rx,a,Ca,dx,fr,vs,od,v,ex,ea,ed,T,hf,hl,q⟩:=zz
 subst ex
 obtain rfl:u=bP a:=rx
 obtain ⟨ob,ws,h1,h2,h3,h4,_⟩:=(I1.hok a _ ea).1
 obtain ⟨hod,mA,hn,hr⟩:=I1.hok dx _ ed
 have J:gQ s1.heap a ob Ca (some od):=⟨h1,h2,by unfold oO;rw[h4],by rw[h3];exact hod⟩
 obtain ⟨od2,ho2,hlk⟩:=U0 hn
 rw[hod] at ho2
 cases ho2
 have hv:=hr f
 rw[hl] at hv
 cases hm:mA f with
 | none=>rw[hm] at hv;exact hv.elim
 | some v'=>
  rw[hm] at hv
  have hfo:lQ X.K Ca (some od) f=some (.value v'):=PySem.W.findObj_own T.hd hf rfl (by rw[hlk,hm])
  unfold getAttr
  refine aF (wpAny_mkText ?_)
  refine Af5 (s:={ s1 with toks:=s1.toks+1 }) I1.kIn T J (Afs (s:={ s1 with toks:=s1.toks+1 }) I1.kIn J hfo ?_)
  exact qO (Ae1 hv) ⟨v,H1,I1.tok _,hv,q⟩
def Jg(Cs:List Str)(f:Str)(fe:FE):FE:=fun δ L=>(fe δ L).bind fun p=>(Q9 Cs p.1 p.2).bind fun t=>(t.2.2.lookup f).map fun v=>(v,p.2)
theorem Mg(T:Qo X.K Cs Ds=true)(F:Ahu X.K Cs f=true)(he:PEF X e fe)(hb:attributeBase e f X.env (eval e X.env)=eval e X.env:=by rfl):PEF X (.Attribute e f pos) (Jg Cs f fe):=by
 refine PE.imp (Aka he hb) ?_
 rintro σ H Q ⟨α,δ,L,A,S,z,L3,ee,q⟩
 obtain ⟨u,L1,e1,ee⟩:=B9 ee
 obtain ⟨⟨n,C,fs⟩,e2,ee⟩:=Option.bind_eq_some_iff.mp ee
 obtain ⟨w,e3,ee⟩:=mpd ee
 cases ee
 obtain ⟨rfl,hC,fr,hL⟩:=R0 e2
 refine ⟨α,δ,L,A,S,_,_,e1,fun x H1 α1 g1 A1 r1=>?_⟩
 obtain ⟨a,ea,Ca,dd,vs,hns,ha,hd,hk,rr⟩:=A1.addr hL
 obtain ⟨a',ea',rfl⟩:=r1.ref_of A1
 rw[ea] at ea';cases ea'
 obtain ⟨v,hv,rv⟩:=(Rw hk rr).1 _ e3
 cases dd with
 | none=>
  have hd:vs=[]:=hd
  subst hd
  cases hv
 | some dx=>
  obtain ⟨_,od,hdx⟩:=hd
  exact ⟨a,Ca,dx,fr,vs,od,v,rfl,ha,hdx,(I0 T hC hns).1,(Abd F hC hns).1,hv,q v H1 α1 g1 A1 rv⟩
end
section
variable {es:List Expr}{apos:Pos}{x m C T:Str}{k n:Nat}{f fa Ca:Addr}{fd:dN}{ps:List Str}{F:XN}{g:FA}{fo:FE}{y:XE}
end
end MR
namespace MR
open PySem PySem.Spec PyProof.Rows PySem.Calls L2
variable {X:Cx}
end MR
namespace MR
open PySem PyProof.Rows L2
section
variable {X:Cx}{k n q:Nat}{π:List Nat}{f:Addr}{fd:dN}{p:Str}{ps ks:List Str}{x:Str}{pp pos apos kpos:Pos}{kws:List fK}{F:FN}{g:FA}
end
section
variable {X:Cx}{k n q:Nat}{π:List Nat}{f Ca:Addr}{fd:dN}{p:Str}{ps ks:List Str}{C:Str}{pp pos:Pos}{kws:List fK}{F:FN}{g:FA}
end
end MR
namespace MR
open PySem PySem.Spec PyProof.Rows PySem.Calls L2
structure FnG(K:aB)(mg:Str->Option aE)(x:Str)(st:Stmt)(ps:List Str) where
 f:Addr
 d:dN
 F:Fun K x x st f d
 b:Binds K d ps []
 g:mg x=some (.ref f)
structure FnM(K:aB)(C:Addr)(x q:Str)(st:Stmt)(ps:List Str) where
 f:Addr
 d:dN
 F:Fun K x q st f d
 b:Binds K d ps []
 me:Meth K C x f
abbrev Amr(x q:Str)(st:Stmt)(ps:List Str):Prop:=∀ (kV doc pm:aE) (an:Option Addr) (cdv ct:aE) (us:List aE),us.length=ps.length->bindArgs (fH x q (G0 st) (Ey st) (Aq st) .none kV doc pm an cdv ct) ⟨us,[]⟩=pure (ps.zip us)
theorem scm{N P:List Str}{sc:mU}(h1:sc.kind = .function:=by rfl)(h2:sc.isCoroutine=false:=by rfl)(h3:sc.isGenerator=false:=by rfl)(h4:N.Nodup:=by decide +kernel)(h5:N.take P.length=P:=by rfl)
  (h6:∀ x∈P,sc.names.lookup x=some .local\/sc.names.lookup x=some .cell:=by decide +kernel) (h7:∀ y∈sc.names,y.2≠.free:=by decide +kernel):FnScope N P sc:=⟨h1,h2,h3,h4,h5,h6,h7⟩
variable {K:aB}{x z:Str}{st:Stmt}{ps:List Str}{t:Tok}
section
variable {h:Heap}{mg:Str->Option aE}{q:Str}{f C:Addr}{od an:Option Addr}{sl:Array (Option aE)}{oc kV dc pm cd ct:aE}
def mkG(X:K.In h)(G:h.Ns bB mg)(a:bV K bB x=some (some (.ref f)))(l:K.lookup f=some ⟨oc,od,.func (fH x x (G0 st) (Ey st) (Aq st) .none kV dc pm an cd ct),sl⟩)(c:jX K cd x=true)(k:cN K (.ref f)=true)(hb:Amr x x st ps):FnG K mg x st ps:=
 ⟨f,_,V2 l c k,(V2 l c k).binds hb,pK X G a⟩
def mkM(a:bR K (.ref C) x=some (some (.ref f)))(i:nP K (.ref f)=true)(l:K.lookup f=some ⟨oc,od,.func (fH x q (G0 st) (Ey st) (Aq st) .none kV dc pm an cd ct),sl⟩)(c:jX K cd q=true)(k:cN K (.ref f)=true)(hb:Amr x q st ps):FnM K C x q st ps:=
 ⟨f,_,V2 l c k,(V2 l c k).binds hb,⟨a,i,k⟩⟩
theorem Avm{i:Int}(X:K.In h)(G:h.Ns bB mg)(a:bV K bB x=some (some (.int i t))):∃ t,mg x=some (.int i t):=⟨t,pK X G a⟩
theorem Auk(X:K.In h)(G:h.Ns bB mg)(a:bV K bB x=some (some (.str z t))):∃ t,mg x=some (.str z t):=⟨t,pK X G a⟩
theorem Ado(M:FnM K C "__init__" q st ps)(h:Lb K C=true/\cN K (.ref C)=true):MkX K C M.f:=⟨h.1,M.me.at_,M.me.fn,h.2⟩
theorem FnG.law(c:FnG K mg "law" st ["script"]){Q:Addr->dN->Prop}{fa:Addr}(hfa:mg "law" = some (.ref fa))(hl:∀ (kV doc pm:aE) (an:Option Addr) (cdv ct:aE) (s:aH) (v:aE),kT s (fH "law" "law" (G0 st) (Ey st) (Aq st) .none kV doc pm an cdv ct) ⟨[v],[]⟩ [("script",v)])(hQ:Q c.f c.d) :
  ∃ fd:dN,(∀ (s:aH) (v:aE),kT s fd ⟨[v],[]⟩ [("script",v)])/\Q fa fd:=by
 have e:=hfa.symm.trans c.g
 cases e
 obtain ⟨oc,od,kV,doc,pm,an,cdv,ct,osl,e,lk,hcd⟩:=c.F.ex
 refine ⟨c.d,fun s v=>?_,hQ⟩
 rw[e]
 exact hl kV doc pm an cdv ct s v
end
variable {X:Cx}{j:Nat}{o:Expr}{pos apos:Pos}
section
variable {m q C:Str}{Ca:Addr}{k n:Nat}{F:FN}{e:Expr}{es:List Expr}{g:FA}{fo:FE}{p:Pos}
theorem Bk(c:FnG X.K X.mg x st ps)(hF:FnOk X.prog X.w X.K X.mg X.base CX0 k c.f c.d ps (spF X.K n F))(hr:Room j X.A)(ha:PAF X (e::es) g)(hg:Gl X x:=by rfl)(hk:k<=j:=by decide)
  (hdb:(x == ("__debug__" : Str))=false:=by decide) (he:aN (e::es) X.env=(false,eval e X.env)::aN es X.env:=by rfl) (hpl:(backTo pos (aN es X.env)).any (·.1)=false:=by rfl) :
  PEF X (.Call (.Name x p) (e::es) [] pos) (A0 n F g):=Ajm hF (hr.mono hk) hg c.g c.F.kp c.b ha hdb he hpl
end
section
def Alw:V->List V->Hp->VK->Prop:=fun x vs H Q=>∃ a b,x = .str a/\vs=[.str b]/\Q (.int (qP a b)) H
theorem Ala:MtR X "str.find" Alw:=by
 intro pins s σ H x vs v us Q I rx rv h
 obtain ⟨a,b,rfl,rfl,q⟩:=h
 obtain ⟨t,rfl⟩:=rx
 obtain ⟨u,rfl,ru⟩:=rv.one
 obtain ⟨t',rfl⟩:=ru
 exact SC.find ⟨.int (qP a b),H,I.tok _,⟨_,rfl⟩,q⟩
theorem Asw:PE X (.Constant (.str x) j pos) (tC (.tz x)):=fun _ s _ H _ I h=>jN ⟨.tz x,H,I.tok _,⟨s.toks,rfl,I.tk⟩,h⟩
theorem Abk:PEF X (.Constant (.str x) j pos) (fC (.tz x)):=Aae Asw fun _ _=>rfl
end
def Qx:SM:=fun u us L=>match u,us with
 | .str a,[.str b]=>some (.int (qP a b),L)
 | _,_=>none
theorem Ah7:V8 K Alw Qx:=by
 intro H α L u us x xs z L' Q A ru r e q
 unfold Qx at e
 split at e
 ·cases e
  unfold RepU at ru
  subst ru
  obtain ⟨v,rfl,rv⟩:=r.one
  unfold RepU at rv
  subst rv
  exact ⟨_,_,rfl,rfl,q _ H α (.refl _ _) A rfl⟩
 ·cases e
variable {cpos:Pos}{y:Str}
section
variable {to:TE}{p1 p2:Pos}{j1 j2:Nat}
def As4(y z:Str)(to:TE):TE:=fun σ H Q=>to σ H fun x H1=>∃ a,x = .str a/\a.length+(a.length+1) * z.length<=16777216/\Q (.str (iT a y z)) H1
theorem Aiz(ho:PE X o to)(hyz:(y == z)=false)
  (hbase:attributeBase o "replace" X.env (eval o X.env)=eval o X.env:=by rfl)
  (hfew:((backTo cpos (aN [.Constant (.str y) j1 p1,.Constant (.str z) j2 p2] X.env)).all (fun x=>!x.1)&&(backToKw cpos (keywordEach [] X.env)).all (fun x=>x.1.isSome)
   && decide (([.Constant (.str y) j1 p1,.Constant (.str z) j2 p2]:List Expr).length+([]:List fK).length+(if ([]:List fK).isEmpty then 0 else 1) < 30))=true:=by rfl)
  (hline:(apos.endLine == cpos.line)=true:=by rfl):PE X (.Call (.Attribute o "replace" apos) [.Constant (.str y) j1 p1,.Constant (.str z) j2 p2] [] cpos) (As4 y z to):=by
 intro pins s σ H Q I h
 refine nU hbase hfew hline rfl (thn (ho pins s σ H _ I h) fun v s1 zz=>?_)
 obtain ⟨x,H1,I1,r1,a,rfl,hb,q⟩:=zz
 obtain ⟨h1,h2⟩:=Aga (T := "str") I1 r1 rfl
 obtain ⟨t,rfl⟩:=r1
 refine ⟨"str","str.replace",bS,gJ,nH,h1,h2,?_⟩
 refine jY (by rfl) (kY ?_)
 show wpAny _ _ (spliced ((false,eval (.Constant (.str y) j1 p1) X.env)::backTo cpos ((false,eval (.Constant (.str z) j2 p2) X.env)::aN [] X.env))) _ _ s1
 refine mE (jN ?_)
 show wpAny _ _ (spliced ((false,eval (.Constant (.str z) j2 p2) X.env)::backTo cpos (aN [] X.env))) _ _ _
 refine mE (jN ?_)
 refine qI ?_
 exact wtk (cL _) (SC.replace (cP I1.tk) (Nat.succ_ne_zero _) (cC (dW _)) hyz hb fun t' k ht=>⟨.str (iT a y z),H1,I1.tok k ht,⟨_,rfl⟩,q⟩)
end
def Aag(y z:Str)(f:FE):FE:=fun δ L=>(f δ L).bind fun p=>match p.1 with
 | .str a=>if a.length<=1000000 then some (.str (iT a y z),p.2) else none
 | _=>none
section
variable {fo:FE}{p1 p2:Pos}{j1 j2:Nat}
theorem Ai7(ho:PEF X o fo)(hyz:(y == z)=false)(hz:z.length<=4)
  (hbase:attributeBase o "replace" X.env (eval o X.env)=eval o X.env:=by rfl)
  (hfew:((backTo cpos (aN [.Constant (.str y) j1 p1,.Constant (.str z) j2 p2] X.env)).all (fun x=>!x.1)&&(backToKw cpos (keywordEach [] X.env)).all (fun x=>x.1.isSome)
   && decide (([.Constant (.str y) j1 p1,.Constant (.str z) j2 p2]:List Expr).length+([]:List fK).length+(if ([]:List fK).isEmpty then 0 else 1) < 30))=true:=by rfl)
  (hline:(apos.endLine == cpos.line)=true:=by rfl):PEF X (.Call (.Attribute o "replace" apos) [.Constant (.str y) j1 p1,.Constant (.str z) j2 p2] [] cpos) (Aag y z fo):=by
 refine PE.imp (Aiz ho hyz hbase hfew hline) ?_
 rintro σ H Q ⟨α,δ,L,A,S,w,L',e,q⟩
 obtain ⟨u,L1,e1,e⟩:=B9 e
 refine ⟨α,δ,L,A,S,u,L1,e1,fun x H1 α1 g1 A1 r1=>?_⟩
 simp only at e
 split at e
 ·rename_i _ a
  split at e
  ·rename_i hl
   cases e
   unfold RepU at r1
   subst r1
   refine ⟨a,rfl,?_,q _ H1 α1 g1 A1 (by unfold RepU;rfl)⟩
   have:=Nat.mul_le_mul_left (a.length+1) hz
   omega
  ·cases e
 ·cases e
end
def Ak5(x y z:Str)(t u v:Tok)(cuts:List Nat):Sem Fin:=
   if (cuts.isEmpty || y.length == 0&&z.length == 0)=true then do
       rule "str.replace.nothing"
       let r <- nI (.str x t) x
       ret r
     else do
       let b <- isSame (.str y u) (.str z v)
       if b=true then do
         rule "str.replace.old-is-new"
         let r <- nI (.str x t) x
         ret r
       else
         if jD (x.length+cuts.length * z.length)=true then do
            unsupported "str.replace:memory"
            retStr (dZ z (dB x cuts y.length))
         else retStr (dZ z (dB x cuts y.length))
theorem Akl(x y z:Str)(t u v:Tok):nA.«str.replace» ⟨[.str x t,.str y u,.str z v],[]⟩=Ak5 x y z t u v (aZ x y 0 x.length (x.length+1)):=rfl
theorem Akk(x y z:Str)(t u v w:Tok):nA.«str.replace» ⟨[.str x t,.str y u,.str z v,.int 1 w],[]⟩=Ak5 x y z t u v (aZ x y 0 x.length 1):=rfl
theorem R6{u v:Tok}{cuts:List Nat}(h0:(u == 0 || v == 0)=false)(hl:jD (x.length+cuts.length * z.length)=false) :
  GivesAt (fun s=>gZ s.heap) (Ak5 x y z t u v cuts) ((Made.val (.str x t)).either (Made.str (dZ z (dB x cuts y.length)))):=by
 intro prog w A R s hP hm
 obtain ⟨m1,hz,m2⟩:R (.ok (.ret (.str x t))) s/\(dZ z (dB x cuts y.length)).length<=sizeLine/\_:=hm
 unfold Ak5
 split
 ·exact aF (rT (aF (aX (aX m1))))
 ·refine aF (wpAny_isSame_str h0 hP fun b=>?_)
  cases b with
  | true=>exact aF (rT (aF (aX (aX m1))))
  | false=>
   rw[hl]
   exact aF (wpAny_mkStr (aX m2) hz)
theorem sub_le(x:Str)(i j:Nat):(fU x i j).length<=j - i:=by
 have h:=congrArg mY (kI x i j)
 rw[eW,gS] at h
 show (fU x i j).cps.size<=_
 omega
theorem U8{x y:Str}:∀ {cuts:List Nat} {a f:Nat},a<=x.length->rL x y x.length a cuts f->((fL x y.length a cuts).map (·.length)).sum<=x.length - a/\(fL x y.length a cuts).length=cuts.length+1
 | [],a,f,ha,_=>by
  show (fU x a x.length).length+0<=_/\_
  exact ⟨by have:=sub_le x a x.length;omega,rfl⟩
 | i::cuts,a,f,ha,h=>by
  obtain ⟨h1,⟨h2,_⟩,h3⟩:a<=i/\StrLaws.At x y x.length i/\rL x y x.length (i+y.length) cuts f:=h
  obtain ⟨s,l⟩:=U8 (cuts:=cuts) (a:=i+y.length) h2 h3
  have:=sub_le x a i
  refine ⟨?_,by show (fL x y.length (i+y.length) cuts).length+1=_;rw[l];rfl⟩
  show (fU x a i).length+((fL x y.length (i+y.length) cuts).map (·.length)).sum<=_
  omega
theorem Afp(x y z:Str)(limit:Nat)(hl:limit<=x.length+1):(dZ z (dB x (aZ x y 0 x.length limit) y.length)).length<=x.length+(x.length+2) * z.length:=by
 obtain ⟨f,hc⟩:=StrLaws.occ_chain x y limit
 obtain ⟨s,l⟩:=U8 (eO _) hc
 rw[iK,jT]
 refine bJ (nW _ _) ?_
 rw[l]
 have:=kH x y 0 x.length limit
 have h2:(aZ x y 0 x.length limit).length+1<=x.length+2:=by omega
 exact Nat.add_le_add (by omega) (oR _ h2)
theorem X8{p:Str}{w:Nat}:∀ {a:Nat} {cuts:List Nat},p∈fL x w a cuts->∀ c∈p.cps.toList,c∈x.cps.toList
 | a,[],h,c,hc=>by
  have:p=fU x a x.length:=by simpa[fL] using h
  rw[this,kI] at hc
  exact gG (fJ hc)
 | a,i::cuts,h,c,hc=>by
  rcases aV.mp (show p∈fU x a i::fL x w (i+w) cuts from h) with q | q
  ·rw[q,kI] at hc
   exact gG (fJ hc)
  ·exact X8 q c hc
theorem Aez{cuts:List Nat}{c:Nat}(h:c∈(dZ z (dB x cuts y.length)).cps.toList):c∈x.cps.toList\/c∈z.cps.toList:=by
 rw[iK,jT] at h
 rcases (mem_join z c _).mp h with ⟨p,hp,hc⟩ | ⟨_,hc⟩
 ·exact .inl (X8 hp c hc)
 ·exact .inr hc
def Arn:V->List V->Hp->VK->Prop:=fun x vs H Q=>∃ a y z,x = .str a/\(vs=[.tz y,.tz z]\/vs=[.tz y,.tz z,.int 1])/\a.length+(a.length+2) * z.length<=1000000/\∀ r:Str,r.length<=a.length+(a.length+2) * z.length->(∀ c∈r.cps.toList,c∈a.cps.toList\/c∈z.cps.toList)->Q (.str r) H
theorem Akj:MtR X "str.replace" Arn:=by
 intro pins s σ H x vs v us Q I rx rv h
 obtain ⟨a,y,z,rfl,hvs,hb,q⟩:=h
 obtain ⟨t,rfl⟩:=rx
 have fit:∀ limit,limit<=a.length+1->jD (a.length+(aZ a y 0 a.length limit).length * z.length)=false:=fun limit hl=>by
  have h1:=kH a y 0 a.length limit
  have h2:=oR z.length (show (aZ a y 0 a.length limit).length<=a.length+2 by omega)
  unfold jD
  refine decide_eq_false ?_
  rw[kX];omega
 have post:∀ limit,limit<=a.length+1->((Made.val (.str a t)).either (Made.str (dZ z (dB a (aZ a y 0 a.length limit) y.length)))).post (EP X pins σ Q) s:=fun limit hl=>by
  have hg:=Afp a y z limit hl
  exact ⟨⟨.str a,H,I,⟨t,rfl⟩,q a (by omega) fun _ h=>.inl h⟩,by rw[kX];omega,⟨.str _,H,I.tok _,⟨_,rfl⟩,q _ hg fun _ h=>Aez h⟩⟩
 rcases hvs with rfl | rfl
 ·obtain ⟨u1,u2,rfl,⟨t1,rfl,p1⟩,⟨t2,rfl,p2⟩⟩:=Abp rv
  refine call_givesAt gJ (iQ s a t) mS (PySem.F.args_str_replace_3 _ _ _) (P:=fun s=>gZ s.heap) (m:=_) ?_ I.booked (post (a.length+1) (aJ _))
  rw[Akl]
  exact R6 (by have e1:t1≠0:=cP p1;have e2:t2≠0:=cP p2;simp[e1,e2]) (fit _ (aJ _))
 ·cases rv with
  | cons r1 r'=>
   cases r' with
   | cons r2 r'=>
    obtain ⟨u3,rfl,r3⟩:=Vals.one r'
    obtain ⟨t1,rfl,p1⟩:=r1
    obtain ⟨t2,rfl,p2⟩:=r2
    obtain ⟨t3,rfl⟩:=r3
    refine call_givesAt gJ (iQ s a t) mS (PySem.F.args_str_replace_4 _ _ _ _) (P:=fun s=>gZ s.heap) (m:=_) ?_ I.booked (post 1 (by omega))
    rw[Akk]
    exact R6 (by have e1:t1≠0:=cP p1;have e2:t2≠0:=cP p2;simp[e1,e2]) (fit _ (by omega))
abbrev WE:=UE->UH->(U->UH->Prop)->Prop
abbrev WA:=UE->UH->(List U->UH->Prop)->Prop
abbrev WS:=UE->UH->(Fl->UH->Prop)->Prop
inductive wE(K:aB)(w:WE)(σ:L2.St)(H:Hp)(Q:VK):Prop
 | mk (α:List Addr) (δ:UE) (L:UH) (A:Abs K H α L) (S:RepS K H α δ σ) (P:U->UH->Prop) (h:w δ L P) (q:∀ u L',P u L'->∀ v H' α',Gr H α H' α'->Abs K H' α' L'->RepU K H' α' u v->Q v H'):wE K w σ H Q
inductive wA(K:aB)(w:WA)(σ:L2.St)(H:Hp)(Q:List V->Hp->Prop):Prop
 | mk (α:List Addr) (δ:UE) (L:UH) (A:Abs K H α L) (S:RepS K H α δ σ) (P:List U->UH->Prop) (h:w δ L P) (q:∀ us L',P us L'->∀ vs H' α',Gr H α H' α'->Abs K H' α' L'->RepL K H' α' us vs->Q vs H'):wA K w σ H Q
inductive wS(K:aB)(w:WS)(D:Ends)(σ:L2.St)(H:Hp):Prop
 | mk (α:List Addr) (δ:UE) (L:UH) (A:Abs K H α L) (S:RepS K H α δ σ) (P:Fl->UH->Prop) (h:w δ L P) (q:∀ fl L',P fl L'->Post K D H α fl L'):wS K w D σ H
def PEW(X:Cx)(e:Expr)(w:WE):Prop:=PE X e (wE X.K w)
def PAW(X:Cx)(es:List Expr)(w:WA):Prop:=PA X es (wA X.K w)
def PSW(X:Cx)(st:Stmt)(w:WS):Prop:=PS X st (wS X.K w)
def Ae7(X:Cx)(st:List Stmt)(w:WS):Prop:=PSs X st (wS X.K w)
def Kh(f:FE):WE:=fun δ L P=>∃ u L',f δ L=some (u,L')/\P u L'
def Wl(f:FS):WS:=fun δ L P=>∃ fl L',f δ L=some (fl,L')/\P fl L'
def Ad1:WA:=fun _ L P=>P [] L
def G3(w:WE)(g:WA):WA:=fun δ L P=>w δ L fun u L1=>g δ L1 fun us L2=>P (u::us) L2
def Aos(g:WA):WE:=fun δ L P=>g δ L fun us L1=>us.length<=1000000/\P (.ref L1.length) (L1++[.lst us])
def Abv(w:WE)(g:WA):WE:=fun δ L P=>w δ L fun u L1=>∃ a,u = .str a/\g δ L1 fun us L2=>∃ y z,(us=[.tz y,.tz z]\/us=[.tz y,.tz z,.int 1])/\a.length+(a.length+2) * z.length<=1000000 /\
 ∀ r:Str,r.length<=a.length+(a.length+2) * z.length->(∀ c∈r.cps.toList,c∈a.cps.toList\/c∈z.cps.toList)->P (.str r) L2
def w2(sem:S2)(wa wb:WE):WE:=fun δ L P=>wa δ L fun u L1=>wb δ L1 fun v L2=>∃ z L3,sem u v L2=some (z,L3)/\P z L3
def Ak7(w:WE)(i:Nat):WS:=fun δ L P=>w δ L fun u L1=>P (.nx (δ.set i (some u))) L1
def Ara(u:WS)(P:Fl->UH->Prop)(fl:Fl)(L1:UH):Prop:=match fl with
 | .nx δ1=>u δ1 L1 P
 | fl=>P fl L1
def Yb(w u:WS):WS:=fun δ L P=>w δ L (Ara u P)
def Alq(J:UE->UH->Prop)(P:Fl->UH->Prop)(fl:Fl)(L:UH):Prop:=match fl with
 | .nx δ=>J δ L
 | .ct δ=>J δ L
 | .bk δ=>P (.nx δ) L
 | .rt w=>P (.rt w) L
def Anm(fi:FI)(g:FG)(body:WS):WS:=fun δ L P=>∃ (i:IU) (L1:UH) (n:Nat) (J:Nat->UE->UH->Prop),fi δ L=some (i,L1)/\J 0 δ L1/\∀ k δ2 L2,J k δ2 L2 ->
 (i.at k L2=some none/\P (.nx δ2) L2)\/∃ u δ3 L3,i.at k L2=some (some u)/\k < n/\g u δ2 L2=some (δ3,L3)/\body δ3 L3 (Alq (J (k+1)) P)
section
variable {a b e:Expr}{es:List Expr}{rest:List Stmt}{f:FE}{fs:FS}{w wa wb:WE}{g:WA}{u v:WS}
theorem Eu(h:PEF X e f):PEW X e (Kh f):=by
 refine PE.imp h ?_
 rintro σ H Q ⟨α,δ,L,A,S,P,⟨u,L',e,p⟩,q⟩
 exact ⟨α,δ,L,A,S,u,L',e,q u L' p⟩
theorem Si(h:PSF X st fs):PSW X st (Wl fs):=by
 refine PS.imp h ?_
 rintro D σ H ⟨α,δ,L,A,S,P,⟨fl,L',e,p⟩,q⟩
 exact ⟨α,δ,L,A,S,fl,L',e,q fl L' p⟩
theorem Aje(h:Qp X rest fs):Ae7 X rest (Wl fs):=by
 refine PSs.imp h ?_
 rintro D σ H ⟨α,δ,L,A,S,P,⟨fl,L',e,p⟩,q⟩
 exact ⟨α,δ,L,A,S,fl,L',e,q fl L' p⟩
theorem N3:PAW X [] Ad1:=by
 refine PA.imp Nh ?_
 rintro σ H Q ⟨α,δ,L,A,S,P,h,q⟩
 exact q [] L h [] H α (.refl _ _) A .nil
theorem C6(ha:PEW X e w)(hr:PAW X es g)(hs:aN (e::es) X.env=(false,eval e X.env)::aN es X.env:=by rfl):PAW X (e::es) (G3 w g):=by
 refine PA.imp (Ga ha hr hs) ?_
 rintro σ H Q ⟨α,δ,L,A,S,P,h,q⟩
 exact ⟨α,δ,L,A,S,_,h,fun u L1 h1 x H1 α1 g1 A1 r1=>⟨α1,δ,L1,A1,S.mono g1,_,h1,fun us L2 h2 xs H2 α2 g2 A2 r2=>q (u::us) L2 h2 (x::xs) H2 α2 (g1.trans g2) A2 (.cons (r1.mono g2) r2)⟩⟩
theorem Aci(h:PAW X es g):PEW X (.List es pos) (Aos g):=by
 refine PE.imp (Ah0 h) ?_
 rintro σ H Q ⟨α,δ,L,A,S,P,h,q⟩
 refine ⟨α,δ,L,A,S,_,h,fun us L1 h1 xs H1 α1 g1 A1 r1=>⟨by rw[<- r1.length,kX];omega,fun p hp=>?_⟩⟩
 obtain ⟨g2,A2,r2⟩:=A1.lst r1 hp
 exact q _ _ h1.2 _ _ _ (g1.trans g2) A2 r2
theorem Sk(ho:PEW X o w)(ha:PAW X (e::es) g)
  (hbase:attributeBase o "replace" X.env (eval o X.env)=eval o X.env:=by rfl)
  (hfew:((backTo cpos (aN (e::es) X.env)).all (fun x=>!x.1)&&(backToKw cpos (keywordEach [] X.env)).all (fun x=>x.1.isSome)&&decide ((e::es).length+([]:List fK).length+(if ([]:List fK).isEmpty then 0 else 1) < 30))=true:=by rfl)
  (hline:(apos.endLine == cpos.line)=true:=by rfl) (hst:aN (e::es) X.env=(false,eval e X.env)::aN es X.env:=by rfl) (hpl:(backTo cpos (aN es X.env)).any (·.1)=false:=by rfl) :
  PEW X (.Call (.Attribute o "replace" apos) (e::es) [] cpos) (Abv w g):=by
 refine PE.imp (Amu bS gJ nH Akj ho ha hbase hfew hline hst hpl) ?_
 rintro σ H Q ⟨α,δ,L,A,S,P,h,q⟩
 refine ⟨α,δ,L,A,S,_,h,fun u L1 hu x H1 α1 g1 A1 r1=>?_⟩
 obtain ⟨a,rfl,h1⟩:=hu
 unfold RepU at r1
 subst r1
 refine ⟨rfl,α1,δ,L1,A1,S.mono g1,_,h1,fun us L2 h2 xs H2 α2 g2 A2 r2=>?_⟩
 obtain ⟨y,z,hus,hb,h3⟩:=h2
 refine ⟨a,y,z,rfl,?_,hb,fun r hr hm=>q _ _ (h3 r hr hm) _ _ _ (g1.trans g2) A2 (by unfold RepU;rfl)⟩
 rcases hus with rfl | rfl
 ·obtain ⟨x1,x2,rfl,q1,q2⟩:=r2.two
  unfold RepU at q1 q2
  subst q1;subst q2
  exact .inl rfl
 ·unfold RepL at r2
  obtain ⟨x1,xr,rfl,q1,r3⟩:=r2
  obtain ⟨x2,x3,rfl,q2,q3⟩:=r3.two
  unfold RepU at q1 q2 q3
  subst q1;subst q2;subst q3
  exact .inr rfl
theorem Agg{op:Operator}{r:R2}{sem:S2}(ho:OpR X (fM op) r)(h:Dp X.K r sem)(ha:PEW X a wa)(hb:PEW X b wb):PEW X (.BinOp a op b pos) (w2 sem wa wb):=by
 refine PE.imp (Alm ho ha hb) ?_
 rintro σ H Q ⟨α,δ,L,A,S,P,hh,q⟩
 refine ⟨α,δ,L,A,S,_,hh,fun u L1 h1 x H1 α1 g1 A1 r1=>⟨α1,δ,L1,A1,S.mono g1,_,h1,fun w L2 h2 y H2 α2 g2 A2 r2=>?_⟩⟩
 obtain ⟨z,L3,e,p⟩:=h2
 exact h H2 α2 L2 u w x y z L3 Q A2 (r1.mono g2) r2 e fun v H3 α3 g3 A3 r3=>q z L3 p v H3 α3 (g1.trans (g2.trans g3)) A3 r3
theorem Ac7{i:Nat}{pos':Pos}(hN:X.N.Nodup)(he:PEW X e w)(hi:X.N[i]? = some x:=by rfl)(hx:Loc X.env.scope x:=by first | exact nV rfl | exact nF rfl)
  (hs:swapsWith e (some (.Name x pos')) pos.line X.env=pure false:=by rfl) (hf:X.fn x=true\/X.env.scope.names.lookup x=some .local:=by first | exact .inl rfl | exact .inr rfl) :
  PSW X (.Assign [.Name x pos'] e pos) (Ak7 w i):=by
 refine PS.imp (Ah1 (i:=i) hN hi hx he hs hf) ?_
 rintro D σ H ⟨α,δ,L,A,S,P,h,q⟩
 exact ⟨α,δ,L,A,S,_,h,fun u L1 h1 v H1 α1 g1 A1 r1=>q _ _ h1 _ H1 α1 g1 A1 ((S.mono g1).set i r1)⟩
theorem Gp(h1:PSW X st u)(h2:Ae7 X rest v):Ae7 X (st::rest) (Yb u v):=by
 refine PSs.imp (Wh h1 h2) ?_
 rintro D σ H ⟨α,δ,L,A,S,P,h,q⟩
 refine ⟨α,δ,L,A,S,_,h,fun fl L1 h1=>?_⟩
 cases fl with
 | nx δ1=>exact fun σ1 H1 α1 g1 A1 S1=>⟨α1,δ1,L1,A1,S1,P,h1,fun fl L' p=>(q fl L' p).from g1⟩
 | rt u=>exact q _ _ h1
 | bk δ1=>exact q _ _ h1
 | ct δ1=>exact q _ _ h1
theorem Ym(h1:PSW X st u):Ae7 X [st] u:=Abq h1
inductive FW_(K:aB)(H1:Hp)(α1:List Addr)(J:Nat->UE->UH->Prop)(n k m:Nat)(σ2:_root_.L2.St)(H2:Hp):Prop
 | mk (α2:List Addr) (δ2:UE) (L2:UH) (g2:Gr H1 α1 H2 α2) (A2:Abs K H2 α2 L2) (S2:RepS K H2 α2 δ2 σ2) (hJ:J k δ2 L2) (hm:n - k<=m):FW_ K H1 α1 J n k m σ2 H2
theorem Abt{tg iter:Expr}{body:List Stmt}{fi:FI}{gg:FG}(hp:qQ (model X.prog X.w) X.A X.env X.xe)(hc:X.calm=true)(hi:PIF X tg iter fi)(hg:PGF X tg gg)(hb:Ae7 X body v)
  (hs:∀ x,foldedSetIterable iter X.env x=pure x:=by intro _;rfl):PSW X (.For tg iter body [] pos) (Anm fi gg v):=by
 refine PS.imp (Agy hp hc hi hg hb hs) ?_
 rintro D σ H ⟨α,δ,L,A,S,P,⟨it,L1,n,J,e1,j0,step⟩,q⟩
 refine ⟨α,δ,L,A,S,it,L1,e1,fun I H1 α1 g1 A1 hI=>?_⟩
 refine ⟨fun k m=>FW_ X.K H1 α1 J n k m,⟨n,α1,δ,L1,.refl _ _,A1,S.mono g1,j0,Nat.sub_le _ _⟩,?_⟩
 rintro k m σ2 H2 ⟨α2,δ2,L2,g2,A2,S2,hJ,hm⟩
 obtain ⟨hgo,hstop⟩:=hI H2 α2 L2 g2 A2 k
 have gA:Gr H α H2 α2:=g1.trans g2
 rcases step k δ2 L2 hJ with ⟨hat,p⟩ | ⟨u,δ3,L3,hat,hk,e3,hbd⟩
 ·exact .inl ⟨hstop hat,q _ _ p σ2 H2 α2 gA A2 S2⟩
 ·obtain ⟨go,yld⟩:=hgo u hat
  refine .inr ⟨go,FW_ X.K H1 α1 J n (k+1) (m - 1),fun σ5 H5 h5=>⟨m - 1,by omega,h5⟩,fun x H3 y3=>?_⟩
  obtain ⟨g3,A3,r3⟩:=yld x H3 y3
  refine ⟨α2,δ2,L2,u,A3,S2.mono g3,r3,δ3,L3,e3,fun σ4 H4 α4 g4 A4 S4=>⟨α4,δ3,L3,A4,S4,_,hbd,fun fl L' p=>?_⟩⟩
  have gB:=gA.trans (g3.trans g4)
  have gC:=g2.trans (g3.trans g4)
  cases fl with
  | nx δ5=>exact fun σ5 H5 α5 g5 A5 S5=>⟨α5,δ5,L',gC.trans g5,A5,S5,p,by omega⟩
  | ct δ5=>exact fun σ5 H5 α5 g5 A5 S5=>⟨α5,δ5,L',gC.trans g5,A5,S5,p,by omega⟩
  | bk δ5=>exact fun σ5 H5 α5 g5 A5 S5=>q _ _ p σ5 H5 α5 (gB.trans g5) A5 S5
  | rt w=>exact fun v H5 α5 g5 A5 r5=>q _ _ p v H5 α5 (gB.trans g5) A5 r5
end
inductive spW(K:aB)(n m:Nat)(w:WS)(P:U->Prop)(vs:List V)(H:Hp)(Q:VK)(E:XK):Prop
 | mk (α:List Addr) (L:UH) (us:List U) (A:Abs K H α L) (r:RepL K H α us vs) (hl:us.length=m) (h:w (us.map some++bF (n - us.length) none) L fun fl _=>∃ u,fl = .rt u/\P u)
  (q:∀ u,P u->∀ L' v H' α',Gr H α H' α'->Abs K H' α' L'->RepU K H' α' u v->Q v H'):spW K n m w P vs H Q E
section
variable {P:cD}{w:cV}{mg:Str->Option aE}{base:Heap}
theorem Fun.okW{qual:Str}{f:Addr}{fd:dN}{N:List Str}{k:Nat}{body:WS}{R:U->Prop}(F:Fun K x qual st f fd)(S:FnScope N ps (Aq st))
  (hbody:∀ (cdv:aE) (A:fA) (outer:List fP) (s:aH) (H:Hp) (E:XK),Room k (A.deeper (envOfC qual (Aq st) s.heap.objs.size f cdv))->Ae7 (Ti CX0 P w K mg base N qual (Aq st) f cdv A outer s H E).nox (Ey st) body) :
  FnOk P w K mg base CX0 (k+1) f fd ps (spW K N.length ps.length body R):=by
 refine F.ok S (fun vs H Q E ⟨α,L,us,A,r,hl,_,_⟩=>by rw[<- r.length];exact hl) (fun cdv A outer s H vs Q E hr h=>?_)
 obtain ⟨α,L,us,Ab,r,hl,hw,q⟩:=h
 refine ⟨_,hbody cdv A outer s H E hr,?_⟩
 refine ⟨α,_,L,Ab,RepS.start N r,_,hw,fun fl L' hp=>?_⟩
 obtain ⟨u,rfl,hu⟩:=hp
 exact fun v H' α' g' A' r'=>q u hu L' v H' α' g' A' r'
end
def As5:R2:=fun x y H Q=>∃ z i c,x = .str z/\y = .int i/\z.length<=sizeLine/\atI z.cps.toList i=some c/\Q (.tz ⟨#[c]⟩) H
theorem Avx:IxR X As5:=by
 intro value slice pins s σ H x y v u Q I rx ry h hs
 obtain ⟨z,i,c,rfl,rfl,hz,he,q⟩:=h
 obtain ⟨t,rfl⟩:=rx
 obtain ⟨t',rfl⟩:=ry
 obtain ⟨j,h1,h2,h3,h4,h5⟩:=Qu he
 have hl:z.cps.toList.length=z.length:=by simp[eN]
 rw[hl] at h1 h4 h5
 have hn:=Nb
 have hI:=I.tk
 exact tail_any (iQ s z t) qT.lookup (getItem_str (c:=c) (by
  have e1:decide (i < -(2 ^ 63:Int))=false:=decide_eq_false (by omega)
  have e2:decide (i ≥ 2 ^ 63)=false:=decide_eq_false (by omega)
  rw[e1,e2,sC]) (by rw[h1];simpa using h2) ⟨.tz ⟨#[c]⟩,H,I.tok _,⟨_,rfl,by first | exact hI | exact cL _⟩,q⟩) hs
def Aa2:S2:=fun u w L=>match u,w with
 | .str x,.int i=>if Ew x.length=true then (L2.atI x.cps.toList i).map fun c=>(.tz ⟨#[c]⟩,L) else none
 | _,_=>none
theorem Aj4:Dp K As5 Aa2:=by
 intro H α L u w x y z L' Q A ru rw e q
 unfold Aa2 at e
 split at e
 ·split at e
  ·rename_i hs
   obtain ⟨c,e1,e⟩:=mpd e
   cases e
   unfold RepU at ru rw
   exact ⟨_,_,c,ru,rw,De hs,e1,q _ H α (.refl _ _) A (by unfold RepU;rfl)⟩
  ·cases e
 ·cases e
theorem Aj0{n:Nat}{w:WS}{H:Hp}{a:Addr}{ns:List Int}{E:XK}(ho:Akp H)(hS:SqL K H a (ns.map V.int))
  (h:w (some (.ref 0)::bF (n - 1) none) [.ro (ns.map U.int)] fun fl _=>∃ u,fl = .rt u/\u = .bl true):spW K n 1 w (fun u=>u = .bl true) [.ref a] H (fun v _=>v = .bl true) E:=by
 have ro:RO K H a (ns.map V.int):=by
  rcases hS with (q | ⟨o,q⟩) | q
  ·rcases ho a with z | ⟨o,xs,z⟩
   ·rw[z] at q;cases q
   ·rw[z] at q;cases q
  ·exact .inl ⟨o,q⟩
  ·exact .inr q
 refine ⟨[a],[.ro (ns.map U.int)],[.ref 0],⟨rfl,fun i j b o o' e1 e2 e3 e4=>?_,fun i b o e1 e2=>?_⟩,.cons ?_ .nil,rfl,h,fun u hu L' v H' α' _ _ r=>by subst hu;exact r⟩
 ·cases i with
  | zero=>cases j with
   | zero=>exact .inl rfl
   | succ j=>simp at e2
  | succ i=>simp at e1
 ·cases i with
  | zero=>simp at e1 e2;subst e1;subst e2;exact ⟨_,ro,RepL.ints ns⟩
  | succ i=>simp at e1
 ·unfold RepU;exact ⟨a,rfl,rfl⟩
end MR
namespace UL
open PySem PySem.Spec PyProof.Rows
section
variable {prog:cD}{w:cV}{A:fA}{E:aE->aH->Prop}{s:aH}
end
end UL
namespace MR
open PySem PySem.Spec PyProof.Rows PySem.Calls L2
section
variable {X:Cx}{es:List Expr}{pos:Pos}
end
end MR
namespace Lw
open PySem L2 MR
def C5:FS:=(A9 (B7 (Au (f2 (Jj true) (Ae 4) (fC (.str "0123456789")))) (Ce (Cv Ag)) B0) (A8 (f2 Ar (f2 Dh (fC (.int 10)) (Ae 1)) (Bt "str" Qx (fC (.str "0123456789")) (Ad (Ae 4) Ag))) (gN 1)))
def My:FS:=(A9 (A8 (fC (.int 0)) (gN 1)) (A9 (A8 (f2 Al (Cv (Ad (fC (.int 1)) (Ad (Afr (fC (.int 1))) Ag))) (Ba semInt (Ad (f2 Bb (fSl Dv (Ae 0) C4 (Ff (fC (.int 1)))) (fC (.str "-"))) Ag))) (gN 2)) (A9 (A8 (fSl Dv (Ae 0) (Ff (Ba semInt (Ad (f2 Kx (Ae 2) (fC (.int 0))) Ag))) C4) (gN 3)) (A9 (Ik (J7 (Ae 3)) (gN 4) C5) (A9 (B7 (fOr (Au (f2 Bb (Ae 3) (fC (.str "")))) (N4 (Au (f2 Bb (f2 Al (Ae 3) (fC (.int 0))) (fC (.str "0")))) (Au (f2 Dy (Ae 0) (fC (.str "0")))))) (Ce (Cv Ag)) B0) (Ce (Cv (Ad (f2 Dh (Ae 2) (Ae 1)) Ag))))))))
def C9:FN:=fnU 5 1 My
def Jr:FE:=(Ba semAbs (Ad (Ae 0) Ag))
def Om:FS:=(A8 (f2 Ar (Ae 1) (A0 1 C9 (Ad (Ae 2) Ag))) (gN 1))
def Rp:FS:=(A9 (A8 (Cv (Ad (fC (.int 0)) Ag)) (gN 1)) (A9 (Ik (Cu (Bt "str" B2 (Aag "\n" " " (Ae 0)) (Ad (fC (.str " ")) Ag))) (gN 2) Om) (Ce (f2 Ag3 (Ba Pz (Ad (C0 [none] (Cu (Ae 1)) (gN 0) none Jr) Ag)) (f2 Hc (fC (.int 10)) (fC (.int 10)))))))
def Ko:FN:=fnU 3 1 Rp
def Pt:FS:=(C3 (Df ["NoPlace","NoAsk","NoPoints","NoCounts","NoName"] (Ad (Ae 0) (Ad (Ae 1) Ag))))
def Fb:FN:=fnU 2 2 Pt
def Hj:FS:=(A9 (C3 (Df ["NoPlace","NoAsk","NoPoints","NoCounts","NoName"] (Ad (Ae 0) (Ad (Fp [(fC (.str "the count at place ")),(Vb (Ae 1)),(fC (.str " is below 0 or above its place"))]) Ag)))) (Mx ["NoPlace","NoAsk","NoPoints","NoCounts","NoName"] "row" (Ae 0) (Ae 1)))
def Cq:FN:=fnU 2 2 Hj
def Ja:FS:=(A9 (C3 (Df ["NoPlace","NoAsk","NoPoints","NoCounts","NoName"] (Ad (Ae 0) (Ad (Fp [(fC (.str "the name ")),(Uu (Ae 1)),(fC (.str " is refused here"))]) Ag)))) (Mx ["NoPlace","NoAsk","NoPoints","NoCounts","NoName"] "word" (Ae 0) (Ae 1)))
def C2:FN:=fnU 2 2 Ja
def M6:FS:=(C3 (Df ["NoPlace","NoAsk","NoPoints","NoCounts","NoName"] (Ad (Ae 0) (Ad (Ae 1) Ag))))
def Eg:FN:=fnU 2 2 M6
def Hm:FS:=(A9 (C3 (Df ["NoPlace","NoAsk","NoPoints","NoCounts","NoName"] (Ad (Ae 0) (Ad (Fp [(fC (.str "line ")),(Vb (Ae 1)),(fC (.str " is no point, or has a name that is there already"))]) Ag)))) (Mx ["NoPlace","NoAsk","NoPoints","NoCounts","NoName"] "row" (Ae 0) (Ae 1)))
def B8:FN:=fnU 2 2 Hm
def Dq:FE:=(f2 Bb (Ae 0) (Ae 1))
def D0:FS:=(A9 (A8 (Cv (Ad (Hh ["NoPlace","NoAsk","NoPoints","NoCounts","NoName"] "NoAsk" (Ae 2)) (Ad (Hh ["NoPlace","NoAsk","NoPoints","NoCounts","NoName"] "NoCounts" (Ae 2)) (Ad (Hh ["NoPlace","NoAsk","NoPoints","NoCounts","NoName"] "NoName" (Ae 2)) (Ad (Hh ["NoPlace","NoAsk","NoPoints","NoCounts","NoName"] "NoPlace" (Ae 2)) Ag))))) (gN 3)) (A9 (C3 (Bt "list" C1 (Ae 3) (Ad (Hh ["NoPlace","NoAsk","NoPoints","NoCounts","NoName"] "NoPoints" (Ae 2)) Ag))) (B7 (fOr (Au (f2 Dy (Ae 3) (C0 [none,some 1] (Dr (Ad (fC (.int 5)) Ag)) (gN 0) none Dq))) (fOr (Gi (Em (Hh ["NoPlace","NoAsk","NoPoints","NoCounts","NoName"] "BelowError" (Ae 2)))) (Gi (Em (Hh ["NoPlace","NoAsk","NoPoints","NoCounts","NoName"] "ValueError" (Ae 2)))))) (Ce (fC (.bl false))) B0)))
def Gh:FS:=(A9 (A8 (Cv (Ad (Eb "NoAsk" 2 Fb (Ad (fC (.str "a")) Ag)) (Ad (Eb "NoCounts" 2 Cq (Ad (fC (.int 3)) Ag)) (Ad (Eb "NoName" 2 C2 (Ad (fC (.str "ab")) Ag)) (Ad (Eb "NoPlace" 2 Eg (Ad (fC (.str "a")) Ag)) (Ad (Eb "NoPoints" 2 B8 (Ad (fC (.int 4)) Ag)) Ag)))))) (gN 0)) (A9 (Ik (Ip (Ad (Ae 0) Ag)) (MR.gTup 2 (MR.gCons (gN 1) (MR.gCons (gN 2) MR.gNil))) D0) (Ce (Iw (f2 Bb (Jg ["NoPlace","NoAsk","NoPoints","NoCounts","NoName"] "row" (f2 Al (Ae 0) (fC (.int 1)))) (fC (.int 3))) (Iw (f2 Bb (Jg ["NoPlace","NoAsk","NoPoints","NoCounts","NoName"] "word" (f2 Al (Ae 0) (fC (.int 2)))) (fC (.str "ab"))) (f2 Bb (Jg ["NoPlace","NoAsk","NoPoints","NoCounts","NoName"] "row" (f2 Al (Ae 0) (fC (.int 4)))) (fC (.int 4))))))))
def Ge:FN:=fnU 4 0 Gh
def Yl:FS:=(Ce (Cv (Ad (fSl semSl (Ae 0) C4 (Ff (fC (.int 63)))) (Ad (fC (.int 0)) (Ad (fC (.int 0)) (Ad (fC (.int 0)) (Ad (Ba semSum (Ad (fSl semSl (Ae 0) C4 (Ff (fC (.int 63)))) Ag)) Ag)))))))
def K9:FN:=fnU 1 1 Yl
def Aa9:FS:=(A9 (A8 (f2 Ar (f2 Dc (Ae 0) (fC (.int 2147483629))) (f2 Dh (f2 Dh (fC (.int 1000003)) (Ae 1)) (Ae 1))) (gN 2)) (A9 (A8 (f2 Dc (f2 Ar (Ae 2) (f2 Dh (fC (.int 7919)) (Ae 1))) (fC (.int 2147483629))) (gN 2)) (A9 (A8 (f2 Dc (f2 Dh (Ae 2) (Ae 2)) (fC (.int 2147483587))) (gN 2)) (Ce (f2 Fv (f2 Dc (f2 Dh (Ae 2) (f2 Ar (Ae 2) (fC (.int 40961)))) (fC (.int 2147483563))) (fC (.int 4)))))))
def Ov:FN:=fnU 3 2 Aa9
def Lf:FS:=(A9 (B7 (N4 (Au (f2 Bb (f2 Al (Ae 0) (fC (.int 2))) (fC (.int 0)))) (Au (f2 Kx (f2 Al (Ae 0) (fC (.int 1))) (Ba Bc (Ad (f2 Al (Ae 0) (fC (.int 0))) Ag))))) (A9 (A8 (f2 Al (f2 Al (Ae 0) (fC (.int 0))) (f2 Al (Ae 0) (fC (.int 1)))) (gN 2)) (A9 (A8 (f2 Ar (f2 Al (Ae 0) (fC (.int 1))) (fC (.int 1))) (MR.gSub (Ae 0) (fC (.int 1)))) (A9 (B7 (Au (f2 Kx (Ae 2) (f2 Hc (fC (.int 10)) (fC (.int 18))))) (Ce (f2 Dc (A0 2 Ov (Ad (Ae 2) (Ad (f2 Al (Ae 0) (fC (.int 1))) Ag))) (Ae 1))) B0) (A8 (Ae 2) (MR.gSub (Ae 0) (fC (.int 2))))))) B0) (A9 (B7 (Au (f2 Mo (f2 Al (Ae 0) (fC (.int 2))) (fC (.int 0)))) (A9 (A8 (f2 Dc (f2 Al (Ae 0) (fC (.int 2))) (Ae 1)) (gN 3)) (A9 (A8 (f2 Fv (f2 Al (Ae 0) (fC (.int 2))) (Ae 1)) (MR.gSub (Ae 0) (fC (.int 2)))) (Ce (Ae 3)))) B0) (A9 (A8 (f2 Ar (f2 Al (Ae 0) (fC (.int 3))) (fC (.int 1))) (MR.gSub (Ae 0) (fC (.int 3)))) (Ce (f2 Dc (A0 2 Ov (Ad (f2 Al (Ae 0) (fC (.int 4))) (Ad (f2 Ar (f2 Al (Ae 0) (fC (.int 3))) (fC (.int 683))) Ag))) (Ae 1))))))
def Ao:FN:=fnU 4 2 Lf
def Oq:FE:=(Ae 1)
def Hx:FT:=(Au (f2 (Jj true) (Ae 1) (fSl semSl (Ae 2) C4 (Ff (Ae 0)))))
def Ox:FE:=(Bt "list" Gu (Ae 1) (Ad (A0 2 Ao (Ad (Ae 2) (Ad (Ba Bc (Ad (Ae 1) Ag)) Ag))) Ag))
def Ez:FS:=(A9 (A8 (f2 Ar (Ae 4) (f2 Dh (fC (.int 7)) (Ae 7))) (gN 8)) (A9 (A8 (f2 Ar (f2 Al (Ae 2) (f2 Dc (Ae 8) (fC (.int 26)))) (f2 Al (Ae 2) (f2 Dc (f2 Fv (Ae 8) (fC (.int 26))) (fC (.int 26))))) (gN 9)) (A9 (A8 (f2 Ar (Ae 9) (f2 Al (Ae 2) (f2 Fv (Ae 8) (fC (.int 676))))) (gN 9)) (A9 (B7 (Au (f2 Bb (Ae 5) (fC (.int 1)))) (A8 (f2 Ar (f2 Dh (Ae 3) (f2 Dc (Ae 7) (fC (.int 6)))) (Ae 9)) (gN 9)) B0) (A9 (B7 (Au (f2 Bb (Ae 5) (fC (.int 2)))) (A8 (f2 Ar (Ae 9) (f2 Dh (Ae 3) (f2 Dc (Ae 7) (fC (.int 6))))) (gN 9)) B0) (A9 (B7 (Au (f2 Bb (Ae 5) (fC (.int 3)))) (A8 (f2 Al (Cv (Ad (f2 Al (Ae 2) (f2 Dc (Ae 7) (fC (.int 26)))) (Ad (f2 Ar (f2 Al (Ae 2) (f2 Dc (Ae 7) (fC (.int 26)))) (fC (.str "x"))) (Ad (f2 Ar (f2 Al (Ae 2) (f2 Dc (Ae 7) (fC (.int 26)))) (fC (.str "xy"))) Ag)))) (f2 Fv (Ae 7) (fC (.int 26)))) (gN 9)) B0) (C3 (Bt "list" C1 (Ae 6) (Ad (Ae 9) Ag)))))))))
def Uk:FS:=(A9 (A8 (fC (.str "abcdefghijklmnopqrstuvwxyz")) (gN 2)) (A9 (A8 (f2 Al (Ae 2) (A0 2 Ao (Ad (Ae 0) (Ad (fC (.int 26)) Ag)))) (gN 3)) (A9 (A8 (A0 2 Ao (Ad (Ae 0) (Ad (fC (.int 600)) Ag))) (gN 4)) (A9 (A8 (A0 2 Ao (Ad (Ae 0) (Ad (fC (.int 4)) Ag))) (gN 5)) (A9 (A8 (Cv Ag) (gN 6)) (A9 (Ik (Dr (Ad (Ae 1) Ag)) (gN 7) Ez) (A9 (A8 (Ba Pc (Ad (Ae 6) Ag)) (gN 10)) (A9 (A8 (C0 [none,some 10,some 0] (Dr (Ad (Ae 1) Ag)) (gN 0) none Ox) (gN 11)) (Ce (C0 [none,none,some 11] (Abe (Ad (Ae 11) Ag)) (MR.gTup 2 (MR.gCons (gN 0) (MR.gCons (gN 1) MR.gNil))) (some Hx) Oq))))))))))
def J0:FN:=fnU 12 2 Uk
def Ng:FS:=(A9 (B7 (Au (f2 Bb (Ae 1) (fC (.int 2)))) (A9 (A8 (f2 Ar (f2 Dh (A0 2 Ao (Ad (Ae 0) (Ad (f2 Dh (fC (.int 2)) (f2 Hc (fC (.int 10)) (fC (.int 5)))) Ag))) (f2 Hc (fC (.int 10)) (fC (.int 5)))) (A0 2 Ao (Ad (Ae 0) (Ad (f2 Hc (fC (.int 10)) (fC (.int 5))) Ag)))) (gN 2)) (A9 (A8 (f2 Ar (f2 Hb (f2 Dc (Ae 2) (f2 Hb (f2 Dh (fC (.int 2)) (f2 Hc (fC (.int 10)) (fC (.int 10)))) (fC (.int 1)))) (f2 Hc (fC (.int 10)) (fC (.int 10)))) (fC (.int 1))) (gN 2)) (Ce (f2 Al (Cv (Ad (Ae 2) (Ad (f2 Hb (f2 Hc (fC (.int 10)) (fC (.int 10))) (fC (.int 1))) (Ad (f2 Hb (fC (.int 1)) (f2 Hc (fC (.int 10)) (fC (.int 10)))) Ag)))) (Ba Pz (Ad (fC (.int 0)) (Ad (f2 Hb (A0 2 Ao (Ad (Ae 0) (Ad (fC (.int 9)) Ag))) (fC (.int 6))) Ag))))))) B0) (Ce (f2 Hb (A0 2 Ao (Ad (Ae 0) (Ad (f2 Al (Cv (Ad (fC (.int 4)) (Ad (fC (.int 99)) Ag))) (Ae 1)) Ag))) (f2 Al (Cv (Ad (fC (.int 1)) (Ad (fC (.int 50)) Ag))) (Ae 1)))))
def Cy:FN:=fnU 3 2 Ng
def Hr:FS:=(A9 (A8 (Gj (Ad (A0 2 Cy (Ad (Ae 0) (Ad (Ae 3) Ag))) (Ad (A0 2 Cy (Ad (Ae 0) (Ad (Ae 3) Ag))) Ag))) (gN 8)) (A9 (B7 (Au (f2 Bb (Ae 4) (fC (.int 1)))) (A8 (Gj (Ad (f2 Fv (Ae 7) (fC (.int 2))) (Ad (f2 Hb (Ae 7) (f2 Fv (Ae 7) (fC (.int 3)))) Ag))) (gN 8)) B0) (A9 (B7 (Au (f2 Bb (Ae 4) (fC (.int 2)))) (A8 (Gj (Ad (f2 Fv (Ae 7) (fC (.int 2))) (Ad (f2 Hb (fC (.int 0)) (Ae 7)) Ag))) (gN 8)) B0) (A9 (B7 (Au (f2 Bb (Ae 4) (fC (.int 3)))) (A8 (Gj (Ad (f2 Al (Ae 8) (fC (.int 0))) (Ad (f2 Al (f2 Al (Ae 5) (fC (.int 0))) (fC (.int 1))) Ag))) (gN 8)) B0) (A9 (B7 (Au (f2 Bb (Ae 4) (fC (.int 4)))) (A8 (f2 Al (Ae 5) (A0 2 Ao (Ad (Ae 0) (Ad (fC (.int 2)) Ag)))) (gN 8)) B0) (A9 (B7 (N4 (Au (f2 Bb (A0 2 Ao (Ad (Ae 0) (Ad (fC (.int 6)) Ag))) (fC (.int 0)))) (Au (f2 Dy (Ae 6) (Cv Ag)))) (A8 (f2 Al (Ae 6) (A0 2 Ao (Ad (Ae 0) (Ad (Ba Bc (Ad (Ae 6) Ag)) Ag)))) (gN 8)) B0) (C3 (Bt "list" C1 (Ae 6) (Ad (Ae 8) Ag)))))))))
def Jv:FE:=(Gj (Ad (A0 2 Cy (Ad (Ae 1) (Ad (Ae 2) Ag))) (Ad (A0 2 Cy (Ad (Ae 1) (Ad (Ae 2) Ag))) Ag)))
def Sx:FS:=(A9 (A8 (f2 Al (Cv (Ad (A0 2 Ao (Ad (Ae 0) (Ad (f2 Ar (Ae 1) (fC (.int 1))) Ag))) (Ad (A0 2 Ao (Ad (Ae 0) (Ad (fC (.int 7)) Ag))) (Ad (Ae 1) Ag)))) (A0 2 Ao (Ad (Ae 0) (Ad (fC (.int 3)) Ag)))) (gN 2)) (A9 (A8 (A0 2 Ao (Ad (Ae 0) (Ad (fC (.int 3)) Ag))) (gN 3)) (A9 (A8 (A0 2 Ao (Ad (Ae 0) (Ad (fC (.int 6)) Ag))) (gN 4)) (A9 (A8 (C0 [none,some 0,some 3] (Dr (Ad (fC (.int 2)) Ag)) (gN 0) none Jv) (gN 5)) (A9 (A8 (Cv Ag) (gN 6)) (A9 (Ik (Dr (Ad (Ae 2) Ag)) (gN 7) Hr) (Ce (Ae 6))))))))
def Ii:FN:=fnU 9 2 Sx
def Gy:FE:=(Gj (Ad (Ae 0) (Ad (f2 Al (Ae 1) (fC (.int 0))) (Ad (f2 Al (Ae 1) (fC (.int 1))) Ag))))
def Ju:FE:=(Bt "list" Gu (Ae 1) (Ad (A0 2 Ao (Ad (Ae 2) (Ad (Ba Bc (Ad (Ae 1) Ag)) Ag))) Ag))
def Sm:FS:=(A9 (A8 (A0 2 Ii (Ad (Ae 0) (Ad (Ae 1) Ag))) (gN 2)) (A9 (B7 (Au (f2 Bb (A0 2 Ao (Ad (Ae 0) (Ad (fC (.int 2)) Ag))) (fC (.int 0)))) (A8 (C0 [none,some 2,some 0] (Dr (Ad (Ba Bc (Ad (Ae 2) Ag)) Ag)) (gN 0) none Ju) (gN 2)) B0) (A9 (A8 (A0 2 J0 (Ad (Ae 0) (Ad (Ba Bc (Ad (Ae 2) Ag)) Ag))) (gN 3)) (Ce (Ba E6 (Ad (C0 [none,none] (Aht (Ad (Ae 3) (Ad (Ae 2) Ag))) (MR.gTup 2 (MR.gCons (gN 0) (MR.gCons (gN 1) MR.gNil))) none Gy) Ag))))))
def Kp:FN:=fnU 4 2 Sm
def Im:FE:=(Ae 0)
def F5:FT:=(Au (f2 (Jj false) (Ae 0) (fC (.str "abcdefghijklmnopqrstuvwxyz"))))
def Qk:FS:=(A9 (A8 (C0 [none] (J7 (Ae 0)) (gN 0) (some F5) Im) (gN 1)) (Ce (Iw (Km Kx Kx (fC (.int 0)) (Ba Bc (Ad (Ae 0) Ag)) (fC (.int 9))) (f2 Bb (Ba Bc (Ad (Ae 1) Ag)) (Ba Bc (Ad (Ae 0) Ag))))))
def Jp:FN:=fnU 2 1 Qk
def Ij:FE:=(f2 Al (Ae 0) (fC (.int 0)))
def En:FS:=(A9 (A8 (Bt "str" B2 (Ae 2) (Ad (fC (.str " ")) Ag)) (gN 3)) (A9 (B7 (fOr (Au (f2 Dy (Ba Bc (Ad (Ae 3) Ag)) (fC (.int 3)))) (fOr (Gi (Em (A0 1 Jp (Ad (f2 Al (Ae 3) (fC (.int 0))) Ag)))) (Au (f2 (Jj false) (f2 Al (Ae 3) (fC (.int 0))) (C0 [none] (Cu (Ae 1)) (gN 0) none Ij))))) (Ce (Ba Bc (Ad (Ae 1) Ag))) B0) (A9 (A8 (f2 Ar (A0 1 C9 (Ad (f2 Al (Ae 3) (fC (.int 1))) Ag)) (A0 1 C9 (Ad (f2 Al (Ae 3) (fC (.int 2))) Ag))) (gN 4)) (A9 (B7 (Au (f2 Dy (Ba Bc (Ad (Ae 4) Ag)) (fC (.int 2)))) (Ce (Ba Bc (Ad (Ae 1) Ag))) B0) (C3 (Bt "list" C1 (Ae 1) (Ad (Gj (Ad (f2 Al (Ae 3) (fC (.int 0))) (Ad (f2 Al (Ae 4) (fC (.int 0))) (Ad (f2 Al (Ae 4) (fC (.int 1))) Ag)))) Ag)))))))
def Vq:FS:=(A9 (A8 (Cv Ag) (gN 1)) (A9 (B7 (Au (f2 Bb (Ae 0) (fC (.str "")))) (Ce (Gj Ag)) B0) (A9 (Ik (Cu (Bt "str" B2 (Ae 0) (Ad (fC (.str "\n")) Ag))) (gN 2) En) (Ce (Ba E6 (Ad (Ae 1) Ag))))))
def O9:FN:=fnU 5 1 Vq
def Kt:FE:=(f2 (Jj false) (Ae 0) (Ae 1))
def Ny:FS:=(Ce (Ba Rm (Ad (C0 [none,some 1] (J7 (Ae 0)) (gN 0) none Kt) Ag)))
def Dt:FN:=fnU 2 2 Ny
def Ad5:FS:=(Ce (Iw (Km Qi Qi (fC (.int 1)) (Ba Bc (Ad (Ae 0) Ag)) (fC (.int 8))) (A0 2 Dt (Ad (Ae 0) (Ad (fC (.str "abcdefghijklmnopqrstuvwxyz")) Ag)))))
def Mh:FN:=fnU 1 1 Ad5
def Lm:FS:=(A9 (A8 (fIf (Em (Bt "str" semStarts (Ae 0) (Ad (fC (.str "-")) Ag))) (fSl Dv (Ae 0) (Ff (fC (.int 1))) C4) (Ae 0)) (gN 1)) (A9 (B7 (fOr (Au (f2 Bb (Ae 1) (fC (.str "")))) (Gi (Em (A0 2 Dt (Ad (Ae 1) (Ad (fC (.str "0123456789")) Ag)))))) (Ce (fC (.bl false))) B0) (Ce (Anf (f2 Dy (f2 Al (Ae 1) (fC (.int 0))) (fC (.str "0"))) (f2 Bb (Ae 0) (fC (.str "0")))))))
def Ee:FN:=fnU 2 1 Lm
def Iz:FS:=(A9 (A8 (Bt "str" B2 (Ae 0) (Ad (fC (.str " ")) Ag)) (gN 1)) (A9 (B7 (fOr (Au (f2 Dy (Ba Bc (Ad (Ae 1) Ag)) (fC (.int 3)))) (Gi (Em (A0 1 Mh (Ad (f2 Al (Ae 1) (fC (.int 0))) Ag))))) (Ce (fC .non)) B0) (A9 (B7 (fOr (Gi (Em (A0 1 Ee (Ad (f2 Al (Ae 1) (fC (.int 1))) Ag)))) (Gi (Em (A0 1 Ee (Ad (f2 Al (Ae 1) (fC (.int 2))) Ag))))) (Ce (fC .non)) B0) (Ce (Gj (Ad (f2 Al (Ae 1) (fC (.int 0))) (Ad (Ba Jd (Ad (f2 Al (Ae 1) (fC (.int 1))) Ag)) (Ad (Ba Jd (Ad (f2 Al (Ae 1) (fC (.int 2))) Ag)) Ag))))))))
def Fu:FN:=fnU 2 1 Iz
def Ks:FS:=(A9 (A8 (A0 1 Fu (Ad (Ae 4) Ag)) (gN 5)) (A9 (B7 (fOr (Au (f2 (M3 false) (Ae 5) (fC .non))) (Au (f2 Nf (f2 Al (Ae 5) (fC (.int 0))) (Ae 2)))) Na B0) (A9 (Ye (Ae 2) (f2 Al (Ae 5) (fC (.int 0))) (fC (.bl true))) (C3 (Bt "list" C1 (Ae 1) (Ad (Ae 5) Ag))))))
def Mt:FS:=(A9 (B7 (Au (f2 Bb (Ae 0) (fC (.str "")))) (Ce (Gj Ag)) B0) (A9 (A8 (Cv Ag) (gN 1)) (A9 (A8 Wi (gN 2)) (A9 (Ik (Ip (Ad (Bt "str" B2 (Ae 0) (Ad (fC (.str "\n")) Ag)) Ag)) (MR.gTup 2 (MR.gCons (gN 3) (MR.gCons (gN 4) MR.gNil))) Ks) (Ce (Ba E6 (Ad (Ae 1) Ag)))))))
def Jt:FN:=fnU 6 1 Mt
def B5:FS:=(A9 (A8 (A0 1 Fu (Ad (Ae 4) Ag)) (gN 5)) (A9 (B7 (fOr (Au (f2 (M3 false) (Ae 5) (fC .non))) (Au (f2 Nf (f2 Al (Ae 5) (fC (.int 0))) (Ae 2)))) Na B0) (A9 (Ye (Ae 2) (f2 Al (Ae 5) (fC (.int 0))) (fC (.bl true))) (C3 (Bt "list" C1 (Ae 1) (Ad (Ae 5) Ag))))))
def Bp:XS:=(Lh (A8 (A0 1 Fu (Ad (Ae 4) Ag)) (gN 5)) xNo (Lh Na (xIf (fOr (Au (f2 (M3 false) (Ae 5) (fC .non))) (Au (f2 Nf (f2 Al (Ae 5) (fC (.int 0))) (Ae 2)))) (V6 ["NoPlace","NoAsk","NoPoints","NoCounts","NoName"] (Eb "NoPoints" 2 B8 (Ad (Ae 3) Ag))) xNo) xNo))
def D8:XS:=(Lh (B7 (Au (f2 Bb (Ae 0) (fC (.str "")))) (Ce (Gj Ag)) B0) xNo (Lh (A8 (Cv Ag) (gN 1)) xNo (Lh (A8 Wi (gN 2)) xNo (Lh Na (Aev (Ip (Ad (Bt "str" B2 (Ae 0) (Ad (fC (.str "\n")) Ag)) Ag)) (MR.gTup 2 (MR.gCons (gN 3) (MR.gCons (gN 4) MR.gNil))) B5 Bp) xNo))))
def G2:XN:=fnX 6 1 D8
def G7:FS:=(A8 (A0 1 Jt (Ad (Ae 0) Ag)) (gN 2))
def Ei:XS:=(xOf (Ai9 1 G2 (Ad (Ae 0) Ag)))
def Hw:FS:=(A8 (Ae 4) (gN 3))
def P1:FS:=(A9 (A8 (A0 1 O9 (Ad (Ae 0) Ag)) (gN 1)) (A9 (A8 (fC .non) (gN 2)) (A9 (A8 (fC .non) (gN 3)) (A9 (Vv G7 Ei ["NoPlace","NoAsk","NoPoints","NoCounts","NoName"] 4 Hw) (A9 (B7 (Em (Qr "tuple" (Ae 1))) (Ce (Iw (f2 (M3 false) (Ae 3) (fC .non)) (f2 Bb (Ae 2) (Ae 1)))) B0) (A9 (B7 (fOr (Em (U6 ["NoPlace","NoAsk","NoPoints","NoCounts","NoName"] ["NoAsk","NoCounts","NoName","NoPlace"] (Ae 3))) (Gi (Em (Hh ["NoPlace","NoAsk","NoPoints","NoCounts","NoName"] "NoPoints" (Ae 3))))) (Ce (fC (.bl false))) B0) (A9 (B7 (fOr (Gi (Em (Hh ["NoPlace","NoAsk","NoPoints","NoCounts","NoName"] "ValueError" (Ae 3)))) (Em (Qr "bool" (Jg ["NoPlace","NoAsk","NoPoints","NoCounts","NoName"] "row" (Ae 3))))) (Ce (fC (.bl false))) B0) (Ce (Iw (Qr "int" (Jg ["NoPlace","NoAsk","NoPoints","NoCounts","NoName"] "row" (Ae 3))) (f2 Bb (Jg ["NoPlace","NoAsk","NoPoints","NoCounts","NoName"] "row" (Ae 3)) (Ae 1)))))))))))
def H9:FN:=fnU 5 1 P1
def X5:FS:=(A9 (A8 (fC (.str " !\"#$&'()*+,-./0123456789:;<=>?@ABCDEFGHIJKLMNOPQRSTUVWXYZ[\\]^_`abcdefghijklmnopqrstuvwxyz{|}~\n")) (gN 1)) (Ce (f2 Al (Ae 1) (A0 2 Ao (Ad (Ae 0) (Ad (Ba Bc (Ad (Ae 1) Ag)) Ag))))))
def E3:FN:=fnU 2 1 X5
def He:FS:=(A9 (A8 (Bt "str" B2 (Ae 1) (Ad (fC (.str " ")) Ag)) (gN 3)) (A9 (A8 (A0 2 Ao (Ad (Ae 0) (Ad (Ba Bc (Ad (Ae 3) Ag)) Ag))) (gN 4)) (A9 (A8 (A0 2 Ao (Ad (Ae 0) (Ad (Ba Bc (Ad (Ae 3) Ag)) Ag))) (gN 5)) (A9 (A8 (f2 Ar (Ae 2) (Cv (Ad (fC (.str "a")) (Ad (fC (.str "abcdefgh")) (Ad (fC (.str "abcdefghi")) (Ad (fC (.str "A")) (Ad (fC (.str "a1")) (Ad (fC (.str "")) (Ad (fC (.str "0")) (Ad (fC (.str "-0")) (Ad (fC (.str "00")) (Ad (fC (.str "07")) (Ad (fC (.str "-07")) (Ad (fC (.str "-1")) (Ad (fC (.str "+1")) (Ad (fC (.str "--1")) Ag)))))))))))))))) (gN 6)) (A9 (A8 (f2 Ar (Ae 6) (Cv (Ad (fC (.str "1.0")) (Ad (fC (.str "1_0")) (Ad (fC (.str "12")) (Ad (fC (.str "0x1")) (Ad (fC (.str "-")) (Ad (fC (.str "- 1")) Ag)))))))) (gN 6)) (A9 (A8 (A0 2 Ao (Ad (Ae 0) (Ad (fC (.int 7)) Ag))) (gN 7)) (A9 (B7 (Au (f2 Bb (Ae 7) (fC (.int 0)))) (C3 (Bt "list" Gu (Ae 3) (Ad (Ae 4) Ag))) (B7 (Au (f2 Bb (Ae 7) (fC (.int 1)))) (C3 (Bt "list" D9 (Ae 3) (Ad (Ae 5) (Ad (f2 Al (Ae 3) (Ae 4)) Ag)))) (B7 (Au (f2 Bb (Ae 7) (fC (.int 2)))) (A8 (Gj (Ad (f2 Al (Ae 3) (Ae 5)) (Ad (f2 Al (Ae 3) (Ae 4)) Ag))) (MR.gTup 2 (MR.gCons (MR.gSub (Ae 3) (Ae 4)) (MR.gCons (MR.gSub (Ae 3) (Ae 5)) MR.gNil)))) (B7 (Au (f2 Bb (Ae 7) (fC (.int 3)))) (A8 (f2 Al (Ae 6) (A0 2 Ao (Ad (Ae 0) (Ad (Ba Bc (Ad (Ae 6) Ag)) Ag)))) (MR.gSub (Ae 3) (Ae 4))) (B7 (Au (f2 Bb (Ae 7) (fC (.int 4)))) (C3 (Bt "list" D9 (Ae 3) (Ad (Ae 4) (Ad (f2 Al (Ae 6) (A0 2 Ao (Ad (Ae 0) (Ad (Ba Bc (Ad (Ae 6) Ag)) Ag)))) Ag)))) B0))))) (A9 (A8 (Bt "str" semJoin (fC (.str " ")) (Ad (Ae 3) Ag)) (gN 8)) (A9 (A8 (A0 2 Ao (Ad (Ae 0) (Ad (f2 Ar (Ba Bc (Ad (Ae 8) Ag)) (fC (.int 1))) Ag))) (gN 9)) (A9 (B7 (Au (f2 Bb (Ae 7) (fC (.int 5)))) (Ce (f2 Ar (f2 Ar (fSl Dv (Ae 8) C4 (Ff (Ae 9))) (f2 Al (Cv (Ad (f2 Al (fC (.str " 0-a\n")) (A0 2 Ao (Ad (Ae 0) (Ad (fC (.int 5)) Ag)))) (Ad (A0 1 E3 (Ad (Ae 0) Ag)) Ag))) (A0 2 Ao (Ad (Ae 0) (Ad (fC (.int 2)) Ag))))) (fSl Dv (Ae 8) (Ff (Ae 9)) C4))) B0) (A9 (B7 (Au (f2 Bb (Ae 7) (fC (.int 6)))) (Ce (f2 Ar (fSl Dv (Ae 8) C4 (Ff (Ae 9))) (fSl Dv (Ae 8) (Ff (f2 Ar (Ae 9) (fC (.int 1)))) C4))) B0) (Ce (Ae 8)))))))))))))
def Di:FN:=fnU 10 3 He
def Gx:FS:=(B7 (Au (f2 Mo (Ae 0) (fC (.int 9)))) (A9 (A8 (f2 Fv (Ae 0) (fC (.int 10))) (gN 0)) (A8 (f2 Ar (f2 Al (fC (.str "0123456789")) (f2 Dc (Ae 0) (fC (.int 10)))) (Ae 2)) (gN 2))) B0)
def Qg:FS:=(A9 (A8 (f2 Al (Cv (Ad (fC (.str "")) (Ad (fC (.str "-")) Ag))) (Ba semInt (Ad (f2 Kx (Ae 0) (fC (.int 0))) Ag))) (gN 1)) (A9 (A8 (Ba semAbs (Ad (Ae 0) Ag)) (gN 0)) (A9 (A8 (f2 Al (fC (.str "0123456789")) (f2 Dc (Ae 0) (fC (.int 10)))) (gN 2)) (A9 (Ik (Dr (Ad (fC (.int 30)) Ag)) (gN 3) Gx) (Ce (f2 Ar (Ae 1) (Ae 2)))))))
def Fz:FN:=fnU 4 1 Qg
def Jc:FE:=(f2 Ar (f2 Ar (f2 Ar (f2 Ar (Ae 0) (fC (.str " "))) (A0 1 Fz (Ad (Ae 1) Ag))) (fC (.str " "))) (A0 1 Fz (Ad (Ae 2) Ag)))
def Xo:FS:=(Ce (Bt "str" semJoin (fC (.str "\n")) (Ad (C0 [none,none,none] (Cu (Ae 0)) (MR.gTup 3 (MR.gCons (gN 0) (MR.gCons (gN 1) (MR.gCons (gN 2) MR.gNil)))) none Jc) Ag)))
def Ic:FN:=fnU 1 1 Xo
def Dw:FE:=(f2 Al (Ae 0) (fC (.int 0)))
def F8:FS:=(A9 (A8 (A0 2 Ao (Ad (Ae 0) (Ad (Ba Bc (Ad (Ae 2) Ag)) Ag))) (gN 4)) (A9 (A8 (A0 2 Ao (Ad (Ae 0) (Ad (fC (.int 8)) Ag))) (gN 5)) (B7 (N4 (Au (f2 Bb (Ae 5) (fC (.int 0)))) (Au (f2 Mo (Ba Bc (Ad (Ae 2) Ag)) (fC (.int 1))))) (C3 (Bt "list" Gu (Ae 2) (Ad (Ae 4) Ag))) (B7 (Au (f2 Bb (Ae 5) (fC (.int 1)))) (C3 (Bt "list" D9 (Ae 2) (Ad (A0 2 Ao (Ad (Ae 0) (Ad (f2 Ar (Ba Bc (Ad (Ae 2) Ag)) (fC (.int 1))) Ag))) (Ad (f2 Al (Ae 2) (Ae 4)) Ag)))) (B7 (Au (f2 Bb (Ae 5) (fC (.int 2)))) (A8 (f2 Al (Cv (Ad (fC (.str "")) (Ad (fC (.str " ")) (Ad (fC (.str "a 1")) (Ad (fC (.str "a 1 1")) Ag))))) (A0 2 Ao (Ad (Ae 0) (Ad (fC (.int 4)) Ag)))) (MR.gSub (Ae 2) (Ae 4))) (A8 (A0 3 Di (Ad (Ae 0) (Ad (f2 Al (Ae 2) (Ae 4)) (Ad (C0 [none] (Cu (Ae 1)) (gN 0) none Dw) Ag)))) (MR.gSub (Ae 2) (Ae 4))))))))
def Nq:FS:=(A9 (A8 (Bt "str" B2 (A0 1 Ic (Ad (Ae 1) Ag)) (Ad (fC (.str "\n")) Ag)) (gN 2)) (A9 (Ik (Dr (Ad (f2 Ar (fC (.int 1)) (A0 2 Ao (Ad (Ae 0) (Ad (fC (.int 3)) Ag)))) Ag)) (gN 3) F8) (Ce (Bt "str" semJoin (fC (.str "\n")) (Ad (Ae 2) Ag)))))
def M5:FN:=fnU 6 2 Nq
def Sa:FE:=(Ae 0)
def K4:FT:=(Gi (Em (A0 1 H9 (Ad (Ae 0) Ag))))
def Ol:FS:=(B7 (N4 (Gi (Em (A0 1 Ko (Ad (Ae 6) Ag)))) (fOr (Gi (Em (A0 1 H9 (Ad (Ae 6) Ag)))) (Gi (Em (A0 1 H9 (Ad (Ae 6) Ag)))))) (Ce (fC (.bl false))) B0)
def Su:FE:=(A0 2 M5 (Ad (Ae 1) (Ad (Ae 2) Ag)))
structure Ex(d:Nat)(L L':UH):Prop where
 le:L.length<=L'.length
 at_:∀ i,i < L.length->i≠d->L'[i]? = L[i]?
theorem Ex.refl(d:Nat)(L:UH):Ex d L L:=⟨aJ _,fun _ _ _=>rfl⟩
variable {d:Nat}{L L1:UH}
theorem Ex.trans{L2:UH}(a:Ex d L L1)(b:Ex d L1 L2):Ex d L L2:=
 ⟨bJ a.le b.le,fun i h1 h2=>by rw[b.at_ i (aG h1 a.le) h2,a.at_ i h1 h2]⟩
theorem Ex.new(d:Nat)(L:UH)(x:List HU):Ex d L (L++x):=⟨by simp,fun i h _=>by rw[aK h]⟩
theorem Ex.put(d:Nat)(L:UH)(o:HU):Ex d L (L.set d o):=⟨by simp,fun i _ h=>by rw[bE (eG h)]⟩
structure Deck(L:UH)(d:Nat)(B:Int):Prop where
 ex:∃ (sn:Nat) (cells:List Int) (a b c e:Int),L[d]? = some (.lst [.ref sn,.int a,.int b,.int c,.int e])/\L[sn]? = some (.lst (cells.map U.int))/\sn < d/\cells.length<=63/\0<=a/\a<=cells.length/\0<=b/\0<=c/\c<=B
variable {B:Int}
theorem Deck.lt(h:Deck L d B):d < L.length:=by
 obtain ⟨sn,cells,a,b,c,e,h1,_⟩:=h.ex
 exact (aD.mp h1).1
theorem Deck.mono{B':Int}(h:Deck L d B)(hb:B<=B'):Deck L d B':=by
 obtain ⟨sn,cells,a,b,c,e,h1,h2,h3,h4,h5,h6,h7,h8,h9⟩:=h.ex
 exact ⟨sn,cells,a,b,c,e,h1,h2,h3,h4,h5,h6,h7,h8,by omega⟩
theorem Deck.new(h:Deck L d B)(x:List HU):Deck (L++x) d B:=by
 obtain ⟨sn,cells,a,b,c,e,h1,h2,h3⟩:=h.ex
 exact ⟨sn,cells,a,b,c,e,by rw[aK (aD.mp h1).1];exact h1,by rw[aK (aD.mp h2).1];exact h2,h3⟩
variable {n:Nat}
theorem Deck.set(h:Deck L d B)(hn:d < n)(o:HU):Deck (L.set n o) d B:=by
 obtain ⟨sn,cells,a,b,c,e,h1,h2,h3,h4⟩:=h.ex
 exact ⟨sn,cells,a,b,c,e,by rw[bE (by omega)];exact h1,by rw[bE (by omega)];exact h2,h3,h4⟩
variable {L':UH}
theorem Ex.set(h:Ex d L L')(hn:L.length<=n)(o:HU):Ex d L (L'.set n o):=
 ⟨by rw[iH];exact h.le,fun i h1 h2=>by rw[bE (by omega)];exact h.at_ i h1 h2⟩
variable {i:Nat}
theorem Ex.get{o:HU}(h:Ex d L L')(e:L[i]? = some o)(hi:i≠d):L'[i]? = some o:=by
 rw[h.at_ i (aD.mp e).1 hi];exact e
theorem Ag8(c k:Int)(L:UH)(h0:0<=k)(h1:k<=1000000000000000000):∃ r,Ov [.int c,.int k] L=some (.int r,L)/\0<=r:=by
 have e1:∀ x:Int,0<=x % 2147483629/\x % 2147483629 < 2147483629:=fun x=>⟨jM _ (by decide),iE _ (by decide)⟩
 have e2:∀ x:Int,0<=x % 2147483587/\x % 2147483587 < 2147483587:=fun x=>⟨jM _ (by decide),iE _ (by decide)⟩
 have e3:∀ x:Int,0<=x % 2147483563/\x % 2147483563 < 2147483563:=fun x=>⟨jM _ (by decide),iE _ (by decide)⟩
 generalize hA:(c % 2147483629+1000003 * k * k+7919 * k) % 2147483629=A
 have hA':=e1 (c % 2147483629+1000003 * k * k+7919 * k)
 rw[hA] at hA'
 generalize hB:A * A % 2147483587=Bn
 have hB':=e2 (A * A)
 rw[hB] at hB'
 refine ⟨(Bn * (Bn+40961) % 2147483563) / 4,?_,oA (e3 _).1 (by decide)⟩
 have m1:Hn 1000003 k=true:=Lz (by decide) (by decide)
 have m2:Hn (1000003 * k) k=true:=Ain (by omega) (by omega)
 have m3:Hn 7919 k=true:=Lz (by decide) (by decide)
 have m4:Hn A A=true:=Lz (by omega) (by omega)
 have m5:Hn Bn (Bn+40961)=true:=Lz (by omega) (by omega)
 have d1:∀ x:Int,K8 x 4=true:=fun x=>G5 (by decide) (by decide)
 simp[Ov,fnU,Aa9,m1,m2,m3,hA,m4,hB,m5,d1]
theorem Cp{many:Int}(D:Deck L d B)(hB:B<=100000000000000000)(h0:0 < many)(h1:many < 1073741824) :
  ∃ r L',Ao [.ref d,.int many] L=some (.int r,L')/\0<=r/\r < many/\Deck L' d (B+1)/\Ex d L L':=by
 obtain ⟨sn,cells,a,b,c,e,hd,hs,hlt0,hl,ha0,ha1,hb0,hc0,hc1⟩:=D.ex
 have hne:sn≠d:=cC hlt0
 have hdl:d < L.length:=(aD.mp hd).1
 have q1:=Am hd
 have q2:=Ep hd
 have q3:=Am hs
 have md:∀ x:Int,0<=x % many/\x % many < many:=fun x=>⟨jM _ (by omega),iE _ h0⟩
 have i0:∀ (x0 x1 x2 x3 x4:U),L2.atI [x0,x1,x2,x3,x4] 0=some x0:=fun _ _ _ _ _=>rfl
 have i1:∀ (x0 x1 x2 x3 x4:U),L2.atI [x0,x1,x2,x3,x4] 1=some x1:=fun _ _ _ _ _=>rfl
 have i2:∀ (x0 x1 x2 x3 x4:U),L2.atI [x0,x1,x2,x3,x4] 2=some x2:=fun _ _ _ _ _=>rfl
 have i3:∀ (x0 x1 x2 x3 x4:U),L2.atI [x0,x1,x2,x3,x4] 3=some x3:=fun _ _ _ _ _=>rfl
 have i4:∀ (x0 x1 x2 x3 x4:U),L2.atI [x0,x1,x2,x3,x4] 4=some x4:=fun _ _ _ _ _=>rfl
 have j1:ixN 5 1=some 1:=rfl
 have j2:ixN 5 2=some 2:=rfl
 have j3:ixN 5 3=some 3:=rfl
 have set1:∀ (o:HU) (us:List U),o = .lst us->Az (L.set d o) d=some us/\lstAt (L.set d o) d=some us:=fun o us ho=>by
  have:(L.set d o)[d]? = some (.lst us):=by rw[bK hdl,ho]
  exact ⟨Am this,Ep this⟩
 have keep:∀ (x1 x2 x3:Int) (o:HU),o = .lst [.ref sn,.int x1,.int x2,.int x3,.int e]->0<=x1->x1<=cells.length->0<=x2->0<=x3->x3<=B+1->Deck (L.set d o) d (B+1)/\Ex d L (L.set d o):=fun x1 x2 x3 o ho g1 g2 g3 g4 g5=>
  ⟨⟨sn,cells,x1,x2,x3,e,by rw[bK hdl,ho],by rw[bE (eG hne)];exact hs,hlt0,hl,g1,g2,g3,g4,g5⟩,Ex.put d L o⟩
 have seto:∀ (o:HU) (i:Nat),i≠d->Az (L.set d o) i=Az L i:=fun o i hi=>by
  unfold Az;rw[bE (eG hi)]
 have lens:Bc [.ref sn] L=some (.int cells.length,L):=by simp[Bc,lenU,q3]
 by_cases hb:b=0
 ·subst hb
  by_cases hal:a < cells.length
  ·have hat:L2.atI (cells.map U.int) a=some (.int (cells[a.toNat]'(by omega))):=by
    rw[Ft ha0 (by simpa using hal),bO,aQ (by omega)];rfl
   generalize hcell:cells[a.toNat]'(by omega)=cell at hat
   have s1:=set1 (.lst [.ref sn,.int (a+1),.int 0,.int c,.int e]) _ rfl
   by_cases hc:cell < 1000000000000000000
   ·obtain ⟨r,er,hr⟩:=Ag8 cell (a+1) (L.set d (.lst [.ref sn,.int (a+1),.int 0,.int c,.int e])) (by omega) (by omega)
    have hk:=keep (a+1) 0 c _ rfl (by omega) (by omega) (by omega) hc0 (by omega)
    refine ⟨r % many,_,?_,(md r).1,(md r).2,hk.1,hk.2⟩
    simp[Ao,fnU,Lf,q1,q2,i0,i1,i2,i3,i4,lens,hal,q3,hat,j1,s1,hc,er,h0,show Sz 10 18=true from rfl]
   ·have s2:=set1 (.lst [.ref sn,.int (a+1),.int cell,.int c,.int e]) _ rfl
    have hcp:0 < cell:=by omega
    have hk:=keep (a+1) (cell / many) c _ rfl (by omega) (by omega) (oA (by omega) (by omega)) hc0 (by omega)
    refine ⟨cell % many,_,?_,(md cell).1,(md cell).2,hk.1,hk.2⟩
    simp[Ao,fnU,Lf,q1,q2,i0,i1,i2,i3,i4,lens,hal,q3,hat,j1,j2,s1,hc,h0,show Sz 10 18=true from rfl,s2,hcp,G5 h0 (sM h1 (by decide))]
  ·have hk:=keep a 0 (c+1) _ rfl ha0 ha1 (by omega) (by omega) (by omega)
   have s1:=set1 (.lst [.ref sn,.int a,.int 0,.int (c+1),.int e]) _ rfl
   obtain ⟨r,er,hr⟩:=Ag8 e (c+1+683) (L.set d (.lst [.ref sn,.int a,.int 0,.int (c+1),.int e])) (by omega) (by omega)
   refine ⟨r % many,_,?_,(md r).1,(md r).2,hk.1,hk.2⟩
   simp[Ao,fnU,Lf,q1,q2,i0,i1,i2,i3,i4,lens,hal,q3,j3,s1,h0,er]
 ·have hb':0 < b:=by omega
  have hk:=keep a (b / many) c _ rfl ha0 ha1 (oA (by omega) (by omega)) hc0 (by omega)
  refine ⟨b % many,_,?_,(md b).1,(md b).2,hk.1,hk.2⟩
  simp[Ao,fnU,Lf,q1,q2,i0,i1,i2,i3,i4,hb,hb',j2,h0,G5 h0 (sM h1 (by decide))]
theorem Deck.start(ns:List Int)(L:UH)(n:Nat)(hn:L[n]? = some (.ro (ns.map U.int)))(hl:ns.length<=63):∃ d L',K9 [.ref n] L=some (.ref d,L')/\Deck L' d 0/\L.length<=d/\(∀ i,i < L.length->L'[i]? = L[i]?):=by
 have hq:Az L n=some (ns.map U.int):=by unfold Az;rw[hn]
 have hcut:Vk (ns.map U.int) none (some 63)=ns.map U.int:=by
  unfold Vk HT.sIx
  simp only[aM,oS]
  rw[if_neg (by decide)]
  exact cZ (by simp;omega)
 have hI:∀ l:List Int,mapO toI (l.map U.int)=some l:=by
  intro l
  induction l with
  | nil=>rfl
  | cons a r ih=>simp[mapO,toI,ih]
 have hlt:n < L.length:=(aD.mp hn).1
 refine ⟨L.length+2,L++[.lst (ns.map U.int)]++[.lst (ns.map U.int)]++[.lst [.ref L.length,.int 0,.int 0,.int 0,.int ns.sum]],?_,⟨L.length,ns,0,0,0,ns.sum,by simp,by simp[lD],by omega,hl,by omega,by omega,by omega,by omega,by omega⟩,by omega,fun i hi=>by rw[bY,bY,aK hi]⟩
 have hq2:Az (L++[HU.lst (ns.map U.int)]) n=some (ns.map U.int):=by unfold Az;rw[aK hlt,hn]
 have hq3:Az (L++[HU.lst (ns.map U.int),HU.lst (ns.map U.int)]) (L.length+1)=some (ns.map U.int):=by unfold Az;rw[bD (by omega)];simp
 simp[K9,fnU,Yl,semSl,hq,hcut,hq2,semSum,hq3,hI,small_of]
theorem Ma{kind:Int}(D:Deck L d B)(hB:B<=10000000000000000)(hk:kind=0\/kind=1\/kind=2) :
  ∃ r L',Cy [.ref d,.int kind] L=some (.int r,L')/\-9999999999<=r/\r<=9999999999/\Deck L' d (B+3)/\Ex d L L':=by
 have small2:kind=0\/kind=1->∃ r L',Cy [.ref d,.int kind] L=some (.int r,L')/\-9999999999<=r/\r<=9999999999/\Deck L' d (B+3)/\Ex d L L':=by
  intro hk
  have q1:Az (L++[HU.lst [.int 4,.int 99]]) L.length=some [.int 4,.int 99]:=Am (by simp)
  have fin:∀ (w lo:Int),0 < w->w < 100->0<=lo->lo<=50->(L2.atI [U.int 4,U.int 99] kind=some (.int w))->(L2.atI [U.int 1,U.int 50] kind=some (.int lo))->¬ kind=2 ->
    ∃ r L',Cy [.ref d,.int kind] L=some (.int r,L')/\-9999999999<=r/\r<=9999999999/\Deck L' d (B+3)/\Ex d L L':=fun w lo w0 w1 l0 l1 a1 a2 hk2=>by
   obtain ⟨r,L1,e1,r0,r1,D1,x1⟩:=Cp (many:=w) (D.new [HU.lst [.int 4,.int 99]]) (by omega) w0 (by omega)
   have q2:Az (L1++[HU.lst [.int 1,.int 50]]) L1.length=some [.int 1,.int 50]:=Am (by simp)
   refine ⟨r - lo,L1++[HU.lst [.int 1,.int 50]],?_,by omega,by omega,(D1.new _).mono (by omega),(Ex.new d L _).trans (x1.trans (Ex.new d L1 _))⟩
   simp[Cy,fnU,Ng,hk2,small_of,q1,a1,e1,q2,a2]
  rcases hk with rfl | rfl
  ·exact fin 4 1 (by decide) (by decide) (by decide) (by decide) rfl rfl (by decide)
  ·exact fin 99 50 (by decide) (by decide) (by decide) (by decide) rfl rfl (by decide)
 rcases hk with hk | hk | rfl
 ·exact small2 (.inl hk)
 ·exact small2 (.inr hk)
 obtain ⟨r1,L1,e1,a1,b1,D1,x1⟩:=Cp (many:=200000) D (by omega) (by decide) (by decide)
 obtain ⟨r2,M2,e2,a2,b2,D2,x2⟩:=Cp (many:=100000) D1 (by omega) (by decide) (by decide)
 have g0:0<=(r1 * 100000+r2) % 19999999999:=jM _ (by decide)
 have g1:(r1 * 100000+r2) % 19999999999 < 19999999999:=iE _ (by decide)
 generalize hg:(r1 * 100000+r2) % 19999999999 - 10000000000+1=great
 obtain ⟨r3,L3,e3,a3,b3,D3,x3⟩:=Cp (many:=9) (D2.new [HU.lst [.int great,.int 9999999999,.int (-9999999999)]]) (by omega) (by decide) (by decide)
 have q1:Az L3 M2.length=some [.int great,.int 9999999999,.int (-9999999999)]:=by
  have:L3[M2.length]? = some (HU.lst [.int great,.int 9999999999,.int (-9999999999)]):=by
   rw[x3.at_ M2.length (by simp) (by have:=D2.lt;omega)];simp
  exact Am this
 have hm:Hn r1 100000=true:=Lz (by omega) (by omega)
 have p5:Sz 10 5=true:=rfl
 have p10:Sz 10 10=true:=rfl
 have m1:Hn 2 100000=true:=rfl
 have m2:Hn 2 10000000000=true:=rfl
 have fin:∀ ix z:Int,(if r3 - 6 > 0 then r3 - 6 else 0)=ix->L2.atI [U.int great,U.int 9999999999,U.int (-9999999999)] ix=some (.int z)->-9999999999<=z->z<=9999999999 ->
   ∃ r L',Cy [.ref d,.int 2] L=some (.int r,L')/\-9999999999<=r/\r<=9999999999/\Deck L' d (B+3)/\Ex d L L':=fun ix z hix hz z0 z1=>by
  refine ⟨z,L3,?_,z0,z1,D3.mono (by omega),x1.trans (x2.trans ((Ex.new d M2 _).trans x3))⟩
  have hsem:Pz [.int 0,.int (r3 - 6)] L3=some (.int ix,L3):=by rw[<- hix];rfl
  simp[Cy,fnU,Ng,p5,p10,m1,m2,e1,hm,e2,hg,small_of,e3,hsem,q1,hz]
 by_cases h6:r3 - 6 > 0
 ·have:r3=7\/r3=8:=by omega
  rcases this with rfl | rfl
  ·exact fin 1 9999999999 rfl rfl (by decide) (by decide)
  ·exact fin 2 (-9999999999) rfl rfl (by decide) (by decide)
 ·exact fin 0 great (if_neg h6) rfl (by omega) (by omega)
theorem H0(x:Str)(i:Int)(L:UH):Al (.str x) (.int i) L=if Ew x.length=true then (L2.atI x.cps.toList i).map fun c=>(.str ⟨#[c]⟩,L) else none:=rfl
theorem Xc:("abcdefghijklmnopqrstuvwxyz" : Str).cps.toList.length=26:=by decide +kernel
theorem Tg:Ew ("abcdefghijklmnopqrstuvwxyz" : Str).length=true:=by decide +kernel
def Low(s:Str):Prop:=∀ c∈s.cps.toList,97<=c/\c<=122
theorem Xq:Low "abcdefghijklmnopqrstuvwxyz" := by unfold Low;decide +kernel
theorem Ig(i:Int)(h0:0<=i)(h1:i < 26):∃ c,(97<=c/\c<=122)/\∀ L,Al (.str "abcdefghijklmnopqrstuvwxyz") (.int i) L=some (.str ⟨#[c]⟩,L):=by
 have hl:=Xc
 have hlt:i.toNat < ("abcdefghijklmnopqrstuvwxyz" : Str).cps.toList.length:=by rw[hl];omega
 refine ⟨("abcdefghijklmnopqrstuvwxyz" : Str).cps.toList[i.toNat]'hlt,Xq _ (bN hlt),fun L=>?_⟩
 rw[H0,if_pos Tg,Ft h0 (by rw[hl];omega),aQ hlt]
 rfl
theorem Gn(a b:Str)(L:UH)(h:a.length+b.length<=1000):Ar (.str a) (.str b) L=some (.str (a++b),L):=by
 show (if Ew (a.length+b.length)=true then _ else _)=_
 rw[if_pos (small_of (by omega))]
theorem one_len(c:Nat):(⟨#[c]⟩:Str).length=1:=rfl
theorem Ald(c:Nat)(j:Int)(h0:0<=j)(h1:j < 6):(iB ⟨#[c]⟩ j).length<=5:=by
 have:j=0\/j=1\/j=2\/j=3\/j=4\/j=5:=by omega
 rcases this with rfl | rfl | rfl | rfl | rfl | rfl <;> simp[iB,eN,kL,bF]
variable {a b:Str}
theorem Low.app(ha:Low a)(hb:Low b):Low (a++b):=by
 intro c hc
 rw[Str.cps_append,Array.toList_append,bM] at hc
 exact hc.elim (ha c) (hb c)
variable {c:Nat}
theorem Low.one(h:97<=c/\c<=122):Low ⟨#[c]⟩:=by
 intro x hx
 have:x=c:=by simpa using hx
 subst this;exact h
theorem Low.mul(h:97<=c/\c<=122)(j:Int)(h0:0<=j)(h1:j < 6):Low (iB ⟨#[c]⟩ j):=by
 intro x hx
 have:j=0\/j=1\/j=2\/j=3\/j=4\/j=5:=by omega
 have:x=c:=by rcases this with rfl | rfl | rfl | rfl | rfl | rfl <;> simp[iB,eN,kL,bF] at hx <;> omega
 subst this;exact h
def Nm(s:Str):Prop:=1<=s.length/\s.length<=8/\Low s
theorem Aaj(c:Nat)(j:Int)(L:UH)(h0:0<=j)(h1:j < 6):Dh (.str ⟨#[c]⟩) (.int j) L=some (.str (iB ⟨#[c]⟩ j),L):=by
 show (if (⟨#[c]⟩:Str).length<=1000/\-1000<=j/\j<=1000 then _ else _)=_
 rw[if_pos ⟨by rw[one_len];decide,by omega,by omega⟩]
theorem Gv{l:List U}(u:U)(h:L[n]? = some (.lst l))(hl:l.length < 16777216):C1 (.ref n) [u] L=some (.non,L.set n (.lst (l++[u]))):=by
 show (lstAt L n).bind _=_
 rw[Ep h]
 simp only[aA]
 rw[if_pos (decide_eq_true (by unfold sizeLine;omega))]
theorem G1{l:List U}(h:L[n]? = some (.lst l)):tyU "list" (.ref n) L=true:=by simp[tyU,h]
variable {x8:Option U}
theorem Yu{d f pc:Nat}{l:List U}{b w k n:Int}{x7 x8 x9 x10 x11:Option U}{L:UH}(hpc:97<=pc/\pc<=122)(hb:0<=b/\b < 600)(hk:0<=k/\k < 61)(hw:0<=w/\w < 4)(hf:L[f]? = some (.lst l))(hl:l.length<=100) :
  ∃ z x nm,Ez [some (.ref d),some (.int n),some (.str "abcdefghijklmnopqrstuvwxyz"),some (.str ⟨#[pc]⟩),some (.int b),some (.int w),some (.ref f),some (.int k),x8,x9,x10,x11] L =
   some (.nx [some (.ref d),some (.int n),some (.str "abcdefghijklmnopqrstuvwxyz"),some (.str ⟨#[pc]⟩),some (.int b),some (.int w),some (.ref f),some (.int k),some z,some (.str nm),x10,x11],(L++x).set f (.lst (l++[.str nm])))/\Nm nm:=by
 obtain ⟨c1,w1,h1⟩:=Ig ((b+7 * k) % 26) (by omega) (by omega)
 obtain ⟨c2,w2,h2⟩:=Ig ((b+7 * k) / 26 % 26) (by omega) (by omega)
 obtain ⟨c3,w3,h3⟩:=Ig ((b+7 * k) / 676) (by omega) (by omega)
 obtain ⟨c4,w4,h4⟩:=Ig (k % 26) (by omega) (by omega)
 have m1:Hn 7 k=true:=Lz (by decide) (by decide)
 have d1:∀ x:Int,K8 x 26=true:=fun x=>G5 (by decide) (by decide)
 have d2:∀ x:Int,K8 x 676=true:=fun x=>G5 (by decide) (by decide)
 have a1:∀ L,Ar (.str ⟨#[c1]⟩) (.str ⟨#[c2]⟩) L=some (.str (⟨#[c1]⟩++⟨#[c2]⟩),L):=fun L=>Gn _ _ _ (by rw[one_len,one_len];decide)
 have a2:∀ L,Ar (.str (⟨#[c1]⟩++⟨#[c2]⟩)) (.str ⟨#[c3]⟩) L=some (.str (⟨#[c1]⟩++⟨#[c2]⟩++⟨#[c3]⟩),L):=fun L=>Gn _ _ _ (by rw[cG,one_len,one_len,one_len];decide)
 have mm:=Ald pc (k % 6) (by omega) (by omega)
 have m2:∀ L,Dh (.str ⟨#[pc]⟩) (.int (k % 6)) L=some (.str (iB ⟨#[pc]⟩ (k % 6)),L):=fun L=>Aaj _ _ _ (by omega) (by omega)
 have a3:∀ L,Ar (.str (iB ⟨#[pc]⟩ (k % 6))) (.str (⟨#[c1]⟩++⟨#[c2]⟩++⟨#[c3]⟩)) L=some (.str (iB ⟨#[pc]⟩ (k % 6)++(⟨#[c1]⟩++⟨#[c2]⟩++⟨#[c3]⟩)),L):=fun L=>Gn _ _ _ (by rw[cG,cG,one_len,one_len,one_len];omega)
 have a4:∀ L,Ar (.str (⟨#[c1]⟩++⟨#[c2]⟩++⟨#[c3]⟩)) (.str (iB ⟨#[pc]⟩ (k % 6))) L=some (.str ((⟨#[c1]⟩++⟨#[c2]⟩++⟨#[c3]⟩)++iB ⟨#[pc]⟩ (k % 6)),L):=fun L=>Gn _ _ _ (by rw[cG,cG,one_len,one_len,one_len];omega)
 have lx:("x" : Str).length=1:=by decide +kernel
 have ly:("xy" : Str).length=2:=by decide +kernel
 have a5:∀ L,Ar (.str ⟨#[c4]⟩) (.str "x") L=some (.str (⟨#[c4]⟩ ++ "x"),L):=fun L=>Gn _ _ _ (by rw[one_len,lx];decide)
 have a6:∀ L,Ar (.str ⟨#[c4]⟩) (.str "xy") L=some (.str (⟨#[c4]⟩ ++ "xy"),L):=fun L=>Gn _ _ _ (by rw[one_len,ly];decide)
 have lx':Low "x" := by unfold Low;decide +kernel
 have ly':Low "xy" := by unfold Low;decide +kernel
 have lm:=Low.mul hpc (k % 6) (by omega) (by omega)
 have l3:=((Low.one w1).app (Low.one w2)).app (Low.one w3)
 have n3:((⟨#[c1]⟩++⟨#[c2]⟩++⟨#[c3]⟩:Str)).length=3:=by rw[cG,cG];rfl
 have ty:=G1 hf
 have ap:=fun u=>Gv u hf (by omega)
 have hw':w=0\/w=1\/w=2\/w=3:=by omega
 rcases hw' with rfl | rfl | rfl | rfl
 ·refine ⟨.int (b+7 * k),[],⟨#[c1]⟩++⟨#[c2]⟩++⟨#[c3]⟩,?_,by omega,by omega,l3⟩
  simp[Ez,m1,d1,d2,h1,h2,h3,a1,a2,ty,ap]
 ·refine ⟨.int (b+7 * k),[],iB ⟨#[pc]⟩ (k % 6)++(⟨#[c1]⟩++⟨#[c2]⟩++⟨#[c3]⟩),?_,by rw[cG];omega,by rw[cG];omega,lm.app l3⟩
  simp[Ez,m1,d1,d2,h1,h2,h3,a1,a2,m2,a3,ty,ap]
 ·refine ⟨.int (b+7 * k),[],(⟨#[c1]⟩++⟨#[c2]⟩++⟨#[c3]⟩)++iB ⟨#[pc]⟩ (k % 6),?_,by rw[cG];omega,by rw[cG];omega,l3.app lm⟩
  simp[Ez,m1,d1,d2,h1,h2,h3,a1,a2,m2,a4,ty,ap]
 ·have hq:∃ nm:Str,L2.atI [U.str ⟨#[c4]⟩,U.str (⟨#[c4]⟩ ++ "x"),U.str (⟨#[c4]⟩ ++ "xy")] (k / 26)=some (.str nm)/\Nm nm:=by
   have:k / 26=0\/k / 26=1\/k / 26=2:=by omega
   have e1:=one_len c4
   rcases this with e | e | e <;> rw[e]
   ·exact ⟨_,rfl,by omega,by omega,Low.one w4⟩
   ·exact ⟨_,rfl,by rw[cG];omega,by rw[cG];omega,(Low.one w4).app lx'⟩
   ·exact ⟨_,rfl,by rw[cG];omega,by rw[cG];omega,(Low.one w4).app ly'⟩
  obtain ⟨nm,hq,hnm⟩:=hq
  have hf2:(L++[HU.lst [U.str ⟨#[c4]⟩,U.str (⟨#[c4]⟩ ++ "x"),U.str (⟨#[c4]⟩ ++ "xy")]])[f]? = some (.lst l):=by rw[aK (aD.mp hf).1];exact hf
  have ty2:=G1 hf2
  have ap2:=fun u=>Gv u hf2 (by omega)
  have q1:Az (L++[HU.lst [U.str ⟨#[c4]⟩,U.str (⟨#[c4]⟩ ++ "x"),U.str (⟨#[c4]⟩ ++ "xy")]]) L.length=some [U.str ⟨#[c4]⟩,U.str (⟨#[c4]⟩ ++ "x"),U.str (⟨#[c4]⟩ ++ "xy")]:=Am (by simp)
  refine ⟨.int (b+7 * k),[HU.lst [U.str ⟨#[c4]⟩,U.str (⟨#[c4]⟩ ++ "x"),U.str (⟨#[c4]⟩ ++ "xy")]],nm,?_,hnm⟩
  simp[Ez,m1,d1,d2,h1,h2,h3,h4,a1,a2,a5,a6,small_of,q1,hq,ty2,ap2]
theorem Aab{l:List U}{i:Int}(h:L[n]? = some (.lst l))(h0:0<=i)(h1:i < l.length)(hs:l.length < 1000000):Gu (.ref n) [.int i] L=some (l[i.toNat]'(by omega),L.set n (.lst (l.eraseIdx i.toNat))):=by
 have hk:seqIndex? i l.length=some i.toNat:=by unfold seqIndex?;simp;omega
 have hg:l[i.toNat]? = some (l[i.toNat]'(by omega)):=aQ (by omega)
 simp only[Gu,Ep h,aA,hk,hg,aC]
 rw[if_pos ⟨by omega,by omega⟩]
theorem Gd{l:List U}(h:L[n]? = some (.lst l)):Bc [.ref n] L=some (.int l.length,L):=by simp[Bc,lenU,Am h]
theorem Th{β γ:Type}(f:β->γ)(l:List β)(i:Nat):(l.map f).eraseIdx i=(l.eraseIdx i).map f:=by
 rw[kG,kG,eJ,kU,pL]
theorem Sn{β:Type}:∀ (l:List β) (i:Nat) (h:i < l.length),(l[i]'h::l.eraseIdx i).Perm l
 | a::l,0,_=>by simp
 | a::l,i+1,h=>by
  have ih:=Sn l i (by simpa using h)
  simp only[List.getElem_cons_succ,gW]
  exact (List.Perm.swap _ _ _).trans (ih.cons a)
theorem Ad6{β:Type}(rep:β->U){l:List β}(D:Deck L d B)(hB:B<=10000000000000000)(hd:d < n)(h:L[n]? = some (.lst (l.map rep)))(hl:0 < l.length)(hs:l.length < 1000)(x0:Option U) :
  ∃ (r:β) (L':UH) (l':List β),(Bt "list" Gu (Ae 1) (Ad (A0 2 Ao (Ad (Ae 2) (Ad (Ba Bc (Ad (Ae 1) Ag)) Ag))) Ag)) [x0,some (.ref n),some (.ref d)] L=some (rep r,L')/\Deck L' d (B+1)/\L'[n]? = some (.lst (l'.map rep))/\l'.length+1=l.length/\r∈l/\(∀ y∈l',y∈l)/\(∀ L0,Ex d L0 L->L0.length<=n->Ex d L0 L')/\(r::l').Perm l:=by
 obtain ⟨i,L1,e1,i0,i1,D1,x1⟩:=Cp (many:=((l.map rep).length:Nat)) D (by omega) (by simp;omega) (by simp;omega)
 have h':L1[n]? = some (.lst (l.map rep)):=x1.get h (by omega)
 have hi:i < l.length:=by simpa using i1
 have hp:=Aab h' i0 i1 (by simp;omega)
 refine ⟨l[i.toNat]'(by omega),L1.set n (.lst ((l.map rep).eraseIdx i.toNat)),l.eraseIdx i.toNat,?_,D1.set hd _,?_,?_,bN _,fun y hy=>gK hy,fun L0 x0 hn=>(x0.trans x1).set hn _,Sn l i.toNat (by omega)⟩
 ·have ty:=G1 h
  have e1':=e1
  simp only[aM] at e1'
  simp[ty,Gd h,e1',hp]
 ·rw[bK (by have:=(aD.mp h').1;exact this)]
  rw[Th]
 ·rw[List.length_eraseIdx,if_pos (by omega)];omega
theorem Yc{β:Type}(rep:β->U){l:List β}(D:Deck L d B)(hB:B<=10000000000000000)(hd:d < n)(h:L[n]? = some (.lst (l.map rep)))(hl:0 < l.length)(hs:l.length < 1000)(x0:Option U) :
  ∃ (r:β) (L':UH) (l':List β),(Bt "list" Gu (Ae 1) (Ad (A0 2 Ao (Ad (Ae 2) (Ad (Ba Bc (Ad (Ae 1) Ag)) Ag))) Ag)) [x0,some (.ref n),some (.ref d)] L=some (rep r,L')/\Deck L' d (B+1)/\L'[n]? = some (.lst (l'.map rep))/\l'.length+1=l.length/\r∈l/\(∀ y∈l',y∈l)/\(∀ L0,Ex d L0 L->L0.length<=n->Ex d L0 L'):=by
 obtain ⟨r,L',l',h1,h2,h3,h4,h5,h6,h7,_⟩:=Ad6 rep D hB hd h hl hs x0
 exact ⟨r,L',l',h1,h2,h3,h4,h5,h6,h7⟩
theorem toV_strs(l:List Str):mapO toV (l.map U.str)=some (l.map L2.V.str):=by
 induction l with
 | nil=>rfl
 | cons a r ih=>simp[mapO,toV,ih]
theorem Acw(s:Str)(l:List Str):inV (.str s) (l.map L2.V.str)=decide (s∈l):=by
 induction l with
 | nil=>rfl
 | cons a r ih=>
  have h1:inV (.str s) (List.map L2.V.str (a::r))=(eqV (.str a) (.str s) || inV (.str s) (r.map L2.V.str)):=rfl
  have h2:eqV (.str a) (.str s)=(a == s):=rfl
  rw[h1,ih,h2]
  by_cases h:a=s
  ·simp[h]
  ·have h':¬ s=a:=fun z=>h z.symm
   simp[h,h']
theorem Adl(l:List U)(k:Nat):Vk l none (some (k:Int))=l.take k:=by
 unfold Vk
 rw[HT.Af9,HT.Ajt,oS,sN]
 by_cases hk:k<=l.length
 ·rw[nZ hk]
 ·rw[qV (by omega),List.take_length,cZ (by omega)]
theorem Ah6{n:Int}(D:Deck L d B)(hB:B<=1000000000000000)(hn:0<=n/\n<=60) :
  ∃ (r:Nat) (ns:List Str) (L':UH),J0 [.ref d,.int n] L=some (.ref r,L')/\L'[r]? = some (.lst (ns.map U.str))/\L.length<=r/\(∀ s∈ns,Nm s)/\ns.Nodup/\ns.length<=n.toNat/\Deck L' d (B+63)/\Ex d L L':=by
 obtain ⟨p1,L1,e1,a1,b1,D1,x1⟩:=Cp (many:=26) D (by omega) (by decide) (by decide)
 obtain ⟨pc,hpc,hpad⟩:=Ig p1 a1 b1
 obtain ⟨bg,L2,e2,a2,b2,D2,x2⟩:=Cp (many:=600) D1 (by omega) (by decide) (by decide)
 obtain ⟨w,L3,e3,a3,b3,D3,x3⟩:=Cp (many:=4) D2 (by omega) (by decide) (by decide)
 have x13:Ex d L L3:=x1.trans (x2.trans x3)
 have hdl:=D.lt
 have hle:=x13.le
 obtain ⟨δ4,L4,e4,P4⟩:=Qw (us:=Cd 0 n.toNat) (L0:=L3++[.lst []]) (L:=L3++[.lst []]) (δ:=[some (.ref d),some (.int n),some (.str "abcdefghijklmnopqrstuvwxyz"),some (.str ⟨#[pc]⟩),some (.int bg),some (.int w),some (.ref L3.length),none,none,none,none,none]) (body:=Ez) (g:=gN 7) (fi:=Dr (Ad (Ae 1) Ag))
  (fun k δ' L'=>∃ y7 y8 y9 fs,δ'=[some (.ref d),some (.int n),some (.str "abcdefghijklmnopqrstuvwxyz"),some (.str ⟨#[pc]⟩),some (.int bg),some (.int w),some (.ref L3.length),y7,y8,y9,none,none]/\L'[L3.length]? = some (.lst (fs.map U.str))/\fs.length=k/\(∀ s∈fs,Nm s)/\Deck L' d (B+3)/\Ex d L L')
  (by simp;omega)
  ⟨none,none,none,[],rfl,by simp,rfl,by simp,(D3.new _).mono (by omega),x13.trans (Ex.new d L3 _)⟩
  (fun k u δ L' hu ⟨y7,y8,y9,fs,hδ,hf,hl,hN,DD,xx⟩=>by
   subst hδ
   obtain ⟨hk,rfl⟩:=E7 hu
   obtain ⟨z,x,nm,e,hnm⟩:=Yu (d:=d) (n:=n) (x7:=y7) (x8:=y8) (x9:=y9) (x10:=none) (x11:=none) (k:=0+(k:Int)) (b:=bg) (w:=w) hpc ⟨a2,b2⟩ ⟨by omega,by omega⟩ ⟨a3,b3⟩ hf (by simp;omega)
   refine ⟨_,_,rfl,_,_,.inl e,_,_,_,fs++[nm],rfl,?_,by simp;omega,?_,(DD.new x).set (by omega) _,(xx.trans (Ex.new d L' x)).set (by omega) _⟩
   ·have:L3.length < (L'++x).length:=by have:=(aD.mp hf).1;simp;omega
    rw[bK this];simp
   ·intro s hs
    rcases bM.mp hs with h | h
    ·exact hN s h
    ·have:s=nm:=by simpa using h
     rw[this];exact hnm)
 obtain ⟨y7,y8,y9,fs,hδ4,hf4,hl4,hN4,D4,x4⟩:=P4
 rw[Ej] at hl4
 obtain ⟨ts',δ5,L5,e5,P5⟩:=Tu (us:=Cd 0 n.toNat) (it:=.seq (Cd 0 n.toNat)) (L0:=L4++[.lst (fs.map U.str)]) (L:=L4++[.lst (fs.map U.str)]) (ix:=[none,some 10,some 0]) (δ:=[some (.ref d),some (.int n),some (.str "abcdefghijklmnopqrstuvwxyz"),some (.str ⟨#[pc]⟩),some (.int bg),some (.int w),some (.ref L3.length),y7,y8,y9,some (.ref L4.length),none]) (fe:=Ox) (tt:=none) (g:=gN 0) (fi:=Dr (Ad (Ae 1) Ag))
  (fun k acc δ' L'=>∃ y0 ts ls,δ'=[y0,some (.ref L4.length),some (.ref d)]/\acc=ts.map U.str/\ts.length=k/\L'[L4.length]? = some (.lst (ls.map U.str))/\ls.length+k=n.toNat/\(∀ s∈ts,Nm s)/\(∀ s∈ls,Nm s)/\Deck L' d (B+3+k)/\Ex d L L')
  (by simp;omega) (by simp[IU.size])
  ⟨none,[],fs,rfl,rfl,rfl,by simp,by omega,by simp,hN4,(D4.new _).mono (by omega),x4.trans (Ex.new d L4 _)⟩
  (fun k acc δ L _ _=>rfl)
  (fun k u acc δ L' hu ⟨y0,ts,ls,hδ,hacc,hts,hls,hlen,h1,h2,DD,xx⟩=>by
   subst hδ
   obtain ⟨hk,rfl⟩:=E7 hu
   have hd4:d < L4.length:=by have:=D4.lt;omega
   obtain ⟨r,M,ls',e,DM,hM,hl',hr,hsub,hx⟩:=Yc U.str DD (by omega) hd4 hls (by omega) (by omega) (some (.int (0+(k:Int))))
   refine ⟨_,_,rfl,true,L',rfl,fun _=>⟨_,M,e,?_,_,ts++[r],ls',rfl,?_,?_,hM,by omega,?_,fun s hs=>h2 s (hsub s hs),DM.mono (by omega),hx L xx (by have:=x4.le;omega)⟩,fun h=>by cases h⟩
   ·rw[hacc];simp;omega
   ·rw[hacc];simp
   ·simp;omega
   ·intro s hs
    rcases bM.mp hs with h | h
    ·exact h1 s h
    ·have:s=r:=by simpa using h
     rw[this];exact h2 r hr)
 obtain ⟨y0,ts,ls,hδ5,hts,hlt,_,_,hN5,_,D5,x5⟩:=P5
 rw[Ej] at hlt D5
 subst hts
 have q5:Az (L5++[HU.lst (ts.map U.str)]) L5.length=some (ts.map U.str):=Am (by simp)
 obtain ⟨rs',δ6,L6,e6,P6⟩:=Tu (us:=enU (ts.map U.str)) (it:=.enm L5.length) (L0:=L5++[.lst (ts.map U.str)]) (L:=L5++[.lst (ts.map U.str)]) (ix:=[none,none,some 11]) (δ:=[some (.ref d),some (.int n),some (.str "abcdefghijklmnopqrstuvwxyz"),some (.str ⟨#[pc]⟩),some (.int bg),some (.int w),some (.ref L3.length),y7,y8,y9,some (.ref L4.length),some (.ref L5.length)]) (fe:=Oq) (tt:=some Hx) (g:=(MR.gTup 2 (MR.gCons (gN 0) (MR.gCons (gN 1) MR.gNil)))) (fi:=Abe (Ad (Ae 11) Ag))
  (fun k acc δ' L'=>∃ y0 y1 rs x,δ'=[y0,y1,some (.ref L5.length)]/\acc=rs.map U.str/\rs.length<=k/\(∀ s∈rs,s∈ts.take k)/\rs.Nodup/\L'=L5++[.lst (ts.map U.str)]++x)
  (by simp[q5]) (by rw[Yn q5];exact aJ _)
  ⟨none,none,[],[],rfl,rfl,by simp,by simp,by simp,by simp⟩
  (fun k acc δ L _ ⟨_,_,_,x,_,_,_,_,_,hL⟩=>by rw[hL];exact Ahf (J9 q5))
  (fun k u acc δ L' hu ⟨y0,y1,rs,x,hδ,hacc,hrl,hsub,hnd,hL⟩=>by
   subst hδ
   unfold enU at hu
   rw[kZ,bO] at hu
   obtain ⟨v,hv,rfl⟩:=mpd hu
   obtain ⟨s,hs,rfl⟩:=mpd hv
   have hklt:=(aD.mp hs).1
   have htk:ts.take (k+1)=ts.take k++[s]:=by rw[iO,hs];rfl
   have qL:Az L' L5.length=some (ts.map U.str):=by rw[hL];exact J9 q5
   have q7:Az (L'++[HU.lst ((ts.take k).map U.str)]) L'.length=some ((ts.take k).map U.str):=Am (by simp)
   have hcut:Vk (ts.map U.str) none (some (k:Int))=(ts.take k).map U.str:=by rw[Adl,kU]
   have htest:testU (some Hx) [some (.int k),some (.str s),some (.ref L5.length)] L'=some (!decide (s∈ts.take k),L'++[HU.lst ((ts.take k).map U.str)]):=by
    simp[-kU,testU,Hx,semSl,qL,hcut,Jj,q7,toV,toV_strs,Acw]
   refine ⟨_,_,rfl,_,_,htest,fun hb=>?_,fun hb=>?_⟩
   ·have hns:s∉ts.take k:=by simpa using hb
    refine ⟨.str s,_,rfl,by rw[hacc];simp;omega,_,_,rs++[s],x++[HU.lst ((ts.take k).map U.str)],rfl,by rw[hacc];simp,by simp;omega,?_,?_,by rw[hL];simp⟩
    ·intro z hz
     rw[htk]
     rcases bM.mp hz with h | h
     ·exact cY _ (hsub z h)
     ·exact aU _ h
    ·rw[List.nodup_append]
     refine ⟨hnd,by simp,fun a ha b hb=>?_⟩
     have:b=s:=by simpa using hb
     rw[this]
     intro hab
     rw[hab] at ha
     exact hns (hsub s ha)
   ·refine ⟨_,_,rs,x++[HU.lst ((ts.take k).map U.str)],rfl,hacc,by omega,fun z hz=>?_,hnd,by rw[hL];simp⟩
    rw[htk]
    exact cY _ (hsub z hz))
 obtain ⟨y0',y1',rs,x,hδ6,hrs,hrl,hsub,hnd,hL6⟩:=P6
 subst hrs
 have hlen6:rs.length<=ts.length:=by simpa[enU] using hrl
 refine ⟨L6.length,rs,L6++[.lst (rs.map U.str)],?_,by simp,?_,fun s hs=>hN5 s (fJ (hsub s hs)),hnd,by omega,?_,?_⟩
 ·have ql:Az L4 L3.length=some (fs.map U.str):=Am hf4
  have hlist:Pc [.ref L3.length] L4=some (.ref L4.length,L4++[.lst (fs.map U.str)]):=by simp[Pc,ql]
  rw[hδ4] at e4
  simp[J0,fnU,Uk,-N5,e1,hpad,e2,e3,small_of,e4,hlist,e5,e6,bF]
 ·rw[hL6];have:=x5.le;simp;omega
 ·rw[hL6];exact ((((D5.new _).new _).new _).mono (by omega))
 ·rw[hL6];exact x5.trans ((Ex.new d L5 _).trans ((Ex.new d _ _).trans (Ex.new d _ _)))
def pr(p:Int×Int):U:=.tup [.int p.1,.int p.2]
def Pb(p:Int×Int):Prop:=(-9999999999<=p.1/\p.1<=9999999999)/\(-9999999999<=p.2/\p.2<=9999999999)
theorem Atd(n:Nat)(p:Int×Int):Pl (n+1) (pr p):=by
 unfold pr
 rw[M9]
 intro u hu
 simp only[aV,eP,or_false] at hu
 rcases hu with rfl | rfl <;> exact Pl.int _ _
def Ly:FS:=(A9 (B7 (N4 (Au (f2 Bb (A0 2 Ao (Ad (Ae 0) (Ad (fC (.int 6)) Ag))) (fC (.int 0)))) (Au (f2 Dy (Ae 6) (Cv Ag)))) (A8 (f2 Al (Ae 6) (A0 2 Ao (Ad (Ae 0) (Ad (Ba Bc (Ad (Ae 6) Ag)) Ag)))) (gN 8)) B0) (C3 (Bt "list" C1 (Ae 6) (Ad (Ae 8) Ag))))
variable {s:Nat}{x1 x2 x4:Option U}
theorem Ak1{L:UH}{d f s:Nat}{B:Int}{x1 x2 x3 x4 x7:Option U}{fs ss:List (Int×Int)}{p:Int×Int}(D:Deck L d B)(hB:B<=10000000000000000)(hdf:d < f)(hds:d < s)(hsf:s≠f)(hf:L[f]? = some (.lst (fs.map pr)))(hs:L[s]? = some (.lst (ss.map pr)))(hl:fs.length<=100)(hp:Pb p)(hfs:∀ q∈fs,Pb q) :
  ∃ q L',Ly [some (.ref d),x1,x2,x3,x4,some (.ref s),some (.ref f),x7,some (pr p)] L=some (.nx [some (.ref d),x1,x2,x3,x4,some (.ref s),some (.ref f),x7,some (pr q)],L')/\Pb q/\L'[f]? = some (.lst ((fs++[q]).map pr))/\L'[s]? = some (.lst (ss.map pr))/\Deck L' d (B+2)/\(∀ L0,Ex d L0 L->L0.length<=f->Ex d L0 L'):=by
 obtain ⟨i,L1,e1,a1,b1,D1,x1'⟩:=Cp (many:=6) D (by omega) (by decide) (by decide)
 have hf1:=x1'.get hf (by omega)
 have hs1:=x1'.get hs (by omega)
 have fin:∀ (M:UH) (q:Int×Int) (hM:M[f]? = some (.lst (fs.map pr))),(C3 (Bt "list" C1 (Ae 6) (Ad (Ae 8) Ag))) [some (.ref d),x1,x2,x3,x4,some (.ref s),some (.ref f),x7,some (pr q)] M=some (.nx [some (.ref d),x1,x2,x3,x4,some (.ref s),some (.ref f),x7,some (pr q)],M.set f (.lst ((fs++[q]).map pr))):=fun M q hM=>by
  have ap:=Gv (pr q) hM (by simp;omega)
  simp[G1 hM,ap]
 have out:∀ (M:UH) (q:Int×Int),M[f]? = some (.lst (fs.map pr))->M[s]? = some (.lst (ss.map pr))->Deck M d (B+2)->(∀ L0,Ex d L0 L->L0.length<=f->Ex d L0 M)->Pb q->(M.set f (.lst ((fs++[q]).map pr)))[f]? = some (.lst ((fs++[q]).map pr))/\(M.set f (.lst ((fs++[q]).map pr)))[s]? = some (.lst (ss.map pr))/\Deck (M.set f (.lst ((fs++[q]).map pr))) d (B+2)/\(∀ L0,Ex d L0 L->L0.length<=f->Ex d L0 (M.set f (.lst ((fs++[q]).map pr)))):=fun M q h1 h2 h3 h4 h5=>
  ⟨bK (aD.mp h1).1,by rw[bE (eG hsf)];exact h2,h3.set hdf _,fun L0 h hn=>(h4 L0 h hn).set hn _⟩
 by_cases hi:i=0
 ·subst hi
  have hq:Az (L1++[HU.lst []]) f=some (fs.map pr):=J9 (Am hf1)
  have hq2:Az (L1++[HU.lst []]) L1.length=some []:=Am (by simp)
  have hne:=Um (L:=L1++[HU.lst []]) hq hq2 (fun u hu=>by obtain ⟨a,_,rfl⟩:=dI.mp hu;exact Atd 5 a) (fun u hu=>by simp at hu)
  by_cases hfs0:fs=[]
  ·have hb:Ag6 (fs.map pr) []=true:=by rw[hfs0];rfl
   have hf2:(L1++[HU.lst []])[f]? = some (.lst (fs.map pr)):=by rw[aK (aD.mp hf1).1];exact hf1
   have hs2:(L1++[HU.lst []])[s]? = some (.lst (ss.map pr)):=by rw[aK (aD.mp hs1).1];exact hs1
   obtain ⟨o1,o2,o3,o4⟩:=out (L1++[HU.lst []]) p hf2 hs2 ((D1.new _).mono (by omega)) (fun L0 h _=>h.trans (x1'.trans (Ex.new d L1 _))) hp
   have fi:=fin _ p hf2
   refine ⟨p,_,?_,hp,o1,o2,o3,o4⟩
   unfold Ly
   rw[Q6]
   simp only[Mj,fAnd_eq,Ou,f2_eq,Ke,fCons_eq,fVar_eq,fC_eq,fNil_eq,fLst_eq,aL,bA,aP,aC,aA,bH,cK,if_true,e1,semEq_int,small_of (by omega:0<=16777216),hne,hb,Xl]
   simpa using fi
  ·have hpos:0 < fs.length:=lU.mpr hfs0
   have hb:Ag6 (fs.map pr) []=false:=by
    cases fs with
    | nil=>exact absurd rfl hfs0
    | cons _ _=>rfl
   have hf2:(L1++[HU.lst []])[f]? = some (.lst (fs.map pr)):=by rw[aK (aD.mp hf1).1];exact hf1
   have hs2:(L1++[HU.lst []])[s]? = some (.lst (ss.map pr)):=by rw[aK (aD.mp hs1).1];exact hs1
   obtain ⟨j,M,e2,a2,b2,D2,x2'⟩:=Cp (many:=((fs.map pr).length:Nat)) (D1.new [HU.lst []]) (by omega) (by simp;omega) (by simp;omega)
   have hf3:=x2'.get hf2 (by omega)
   have hs3:=x2'.get hs2 (by omega)
   have hj:j.toNat < fs.length:=by simp at b2;omega
   have hat:L2.atI (fs.map pr) j=some (pr (fs[j.toNat]'hj)):=by rw[Ft a2 b2,bO,aQ hj];rfl
   obtain ⟨o1,o2,o3,o4⟩:=out M (fs[j.toNat]'hj) hf3 hs3 (D2.mono (by omega)) (fun L0 h _=>h.trans (x1'.trans ((Ex.new d L1 _).trans x2'))) (hfs _ (bN hj))
   have fi:=fin _ (fs[j.toNat]'hj) hf3
   refine ⟨fs[j.toNat]'hj,_,?_,hfs _ (bN hj),o1,o2,o3,o4⟩
   have q3:=Am hf2
   have len:=Gd hf2
   have q4:=Am hf3
   have ap:=Gv (pr (fs[j.toNat]'hj)) hf3 (by simp;omega)
   simp only[aM] at e2 len
   simp[Ly,e1,small_of,hne,hb,len,e2,q4,hat,G1 hf3,ap]
 ·obtain ⟨o1,o2,o3,o4⟩:=out L1 p hf1 hs1 (D1.mono (by omega)) (fun L0 h _=>h.trans x1') hp
  have fi:=fin _ p hf1
  refine ⟨p,_,?_,hp,o1,o2,o3,o4⟩
  have hib:(i == 0)=false:=by simpa using hi
  unfold Ly
  rw[Q6]
  simp only[Mj,fAnd_eq,Ou,f2_eq,Ke,fCons_eq,fVar_eq,fC_eq,fNil_eq,aL,bA,aP,aC,aA,bH,cK,if_true,e1,semEq_int,hib,Xl]
  simpa using fi
theorem Wb:Hr=(A9 (A8 (Gj (Ad (A0 2 Cy (Ad (Ae 0) (Ad (Ae 3) Ag))) (Ad (A0 2 Cy (Ad (Ae 0) (Ad (Ae 3) Ag))) Ag))) (gN 8)) (A9 (B7 (Au (f2 Bb (Ae 4) (fC (.int 1)))) (A8 (Gj (Ad (f2 Fv (Ae 7) (fC (.int 2))) (Ad (f2 Hb (Ae 7) (f2 Fv (Ae 7) (fC (.int 3)))) Ag))) (gN 8)) B0) (A9 (B7 (Au (f2 Bb (Ae 4) (fC (.int 2)))) (A8 (Gj (Ad (f2 Fv (Ae 7) (fC (.int 2))) (Ad (f2 Hb (fC (.int 0)) (Ae 7)) Ag))) (gN 8)) B0) (A9 (B7 (Au (f2 Bb (Ae 4) (fC (.int 3)))) (A8 (Gj (Ad (f2 Al (Ae 8) (fC (.int 0))) (Ad (f2 Al (f2 Al (Ae 5) (fC (.int 0))) (fC (.int 1))) Ag))) (gN 8)) B0) (A9 (B7 (Au (f2 Bb (Ae 4) (fC (.int 4)))) (A8 (f2 Al (Ae 5) (A0 2 Ao (Ad (Ae 0) (Ad (fC (.int 2)) Ag)))) (gN 8)) B0) Ly))))):=rfl
theorem Wc{L:UH}{d f s:Nat}{B k kind way:Int}{x1 x2 x8:Option U}{fs ss:List (Int×Int)}(D:Deck L d B)(hB:B<=1000000000000000)(hdf:d < f)(hds:d < s)(hsf:s≠f)(hf:L[f]? = some (.lst (fs.map pr)))(hs:L[s]? = some (.lst (ss.map pr)))(hl:fs.length<=100)(hfs:∀ q∈fs,Pb q)(hss:∀ q∈ss,Pb q)(hs2:ss.length=2)(hk:0<=k/\k<=100)(hki:kind=0\/kind=1\/kind=2) :
  ∃ q L',Hr [some (.ref d),x1,x2,some (.int kind),some (.int way),some (.ref s),some (.ref f),some (.int k),x8] L=some (.nx [some (.ref d),x1,x2,some (.int kind),some (.int way),some (.ref s),some (.ref f),some (.int k),some (pr q)],L')/\Pb q/\L'[f]? = some (.lst ((fs++[q]).map pr))/\L'[s]? = some (.lst (ss.map pr))/\Deck L' d (B+9)/\(∀ L0,Ex d L0 L->L0.length<=f->Ex d L0 L'):=by
 obtain ⟨r1,L1,e1,a1,b1,D1,y1⟩:=Ma D (by omega) hki
 obtain ⟨r2,K2,e2,a2,b2,D2,y2⟩:=Ma D1 (by omega) hki
 have y12:=y1.trans y2
 have hf2:=y12.get hf (by omega)
 have hs2':=y12.get hs (by omega)
 have q2:=Am hs2'
 have dv2:∀ x:Int,K8 x 2=true:=fun x=>G5 (by decide) (by decide)
 have dv3:∀ x:Int,K8 x 3=true:=fun x=>G5 (by decide) (by decide)
 have h0:∀ a b:Int,L2.atI [U.int a,.int b] 0=some (.int a):=fun _ _=>rfl
 have h1:∀ a b:Int,L2.atI [U.int a,.int b] 1=some (.int b):=fun _ _=>rfl
 obtain ⟨s0,s1,rfl⟩:∃ s0 s1,ss=[s0,s1]:=by
  match ss,hs2 with
  | [s0,s1],_=>exact ⟨s0,s1,rfl⟩
 have hb0:=hss s0 (by simp)
 have hb1:=hss s1 (by simp)
 have g0:L2.atI [U.tup [U.int s0.1,U.int s0.2],U.tup [U.int s1.1,U.int s1.2]] 0=some (U.tup [U.int s0.1,U.int s0.2]):=rfl
 have q2':Az K2 s=some [U.tup [U.int s0.1,U.int s0.2],U.tup [U.int s1.1,U.int s1.2]]:=q2
 have fin:∀ (p:Int×Int) (M:UH) (B':Int),Deck M d B'->B'<=B+7->Ex d L M->Pb p->∃ q L',Ly [some (.ref d),x1,x2,some (.int kind),some (.int way),some (.ref s),some (.ref f),some (.int k),some (pr p)] M=some (.nx [some (.ref d),x1,x2,some (.int kind),some (.int way),some (.ref s),some (.ref f),some (.int k),some (pr q)],L')/\Pb q/\L'[f]? = some (.lst ((fs++[q]).map pr))/\L'[s]? = some (.lst ([s0,s1].map pr))/\Deck L' d (B+9)/\(∀ L0,Ex d L0 L->L0.length<=f->Ex d L0 L'):=fun p M B' DM hB' xM hp=>by
  obtain ⟨q,L',e,o1,o2,o3,o4,o5⟩:=Ak1 (x1:=x1) (x2:=x2) (x3:=some (.int kind)) (x4:=some (.int way)) (x7:=some (.int k)) DM (by omega) hdf hds hsf (xM.get hf (by omega)) (xM.get hs (by omega)) hl hp hfs
  exact ⟨q,L',e,o1,o2,o3,o4.mono (by omega),fun L0 h hn=>o5 L0 (h.trans xM) hn⟩
 rw[Wb]
 by_cases w1:way=1
 ·subst w1
  obtain ⟨q,L',e,oo⟩:=fin (k / 2,k - k / 3) K2 _ D2 (by omega) y12 ⟨⟨by simp;omega,by simp;omega⟩,⟨by simp;omega,by simp;omega⟩⟩
  refine ⟨q,L',?_,oo⟩
  simp only[pr] at e
  simp[e1,e2,small_of,dv2,dv3,e,pr]
 ·by_cases w2:way=2
  ·subst w2
   obtain ⟨q,L',e,oo⟩:=fin (k / 2,0 - k) K2 _ D2 (by omega) y12 ⟨⟨by simp;omega,by simp;omega⟩,⟨by simp;omega,by simp;omega⟩⟩
   refine ⟨q,L',?_,oo⟩
   simp only[pr,Int.zero_sub] at e
   simp[e1,e2,small_of,dv2,dv3,e,pr]
  ·by_cases w3:way=3
   ·subst w3
    obtain ⟨q,L',e,oo⟩:=fin (r1,s0.2) K2 _ D2 (by omega) y12 ⟨⟨a1,b1⟩,hb0.2⟩
    refine ⟨q,L',?_,oo⟩
    simp only[pr] at e
    simp[e1,e2,small_of,h0,h1,q2',g0,e,pr]
   ·by_cases w4:way=4
    ·subst w4
     obtain ⟨i,L3,e3,a3,b3,D3,y3⟩:=Cp (many:=2) D2 (by omega) (by decide) (by decide)
     have q3:Az L3 s=some [U.tup [U.int s0.1,U.int s0.2],U.tup [U.int s1.1,U.int s1.2]]:=Am (y3.get hs2' (by omega))
     have hi:∃ p:Int×Int,L2.atI [U.tup [U.int s0.1,U.int s0.2],U.tup [U.int s1.1,U.int s1.2]] i=some (.tup [.int p.1,.int p.2])/\Pb p:=by
      have:i=0\/i=1:=by omega
      rcases this with rfl | rfl
      ·exact ⟨s0,rfl,hb0⟩
      ·exact ⟨s1,rfl,hb1⟩
     obtain ⟨p,hi,hp⟩:=hi
     obtain ⟨q,L',e,oo⟩:=fin p L3 _ D3 (by omega) (y12.trans y3) hp
     refine ⟨q,L',?_,oo⟩
     simp only[pr] at e
     simp[e1,e2,small_of,e3,q3,hi,e,pr]
    ·obtain ⟨q,L',e,oo⟩:=fin (r1,r2) K2 _ D2 (by omega) y12 ⟨⟨a1,b1⟩,⟨a2,b2⟩⟩
     refine ⟨q,L',?_,oo⟩
     simp only[pr] at e
     simp[e1,e2,small_of,w1,w2,w3,w4,e,pr]
variable {most:Int}
theorem Adm(D:Deck L d B)(hB:B<=100000000000000)(hm:0<=most/\most<=60) :
  ∃ (r:Nat) (ps:List (Int×Int)) (L':UH),Ii [.ref d,.int most] L=some (.ref r,L')/\L'[r]? = some (.lst (ps.map pr))/\L.length<=r/\d < r/\(∀ p∈ps,Pb p)/\ps.length<=60/\Deck L' d (B+600)/\Ex d L L':=by
 obtain ⟨i1,L1,e1,a1,b1,D1,y1⟩:=Cp (many:=most+1) D (by omega) (by omega) (by omega)
 obtain ⟨i2,K2,e2,a2,b2,D2,y2⟩:=Cp (many:=7) D1 (by omega) (by decide) (by decide)
 obtain ⟨i3,L3,e3,a3,b3,D3,y3⟩:=Cp (many:=3) (D2.new [HU.lst [.int i1,.int i2,.int most]]) (by omega) (by decide) (by decide)
 have q3:Az L3 K2.length=some [.int i1,.int i2,.int most]:=by
  refine Am (y3.get (i:=K2.length) (by simp) ?_)
  have:=D2.lt;omega
 have hmany:∃ many:Int,L2.atI [U.int i1,.int i2,.int most] i3=some (.int many)/\0<=many/\many<=60:=by
  have:i3=0\/i3=1\/i3=2:=by omega
  rcases this with rfl | rfl | rfl
  ·exact ⟨i1,rfl,by omega,by omega⟩
  ·exact ⟨i2,rfl,by omega,by omega⟩
  ·exact ⟨most,rfl,by omega,by omega⟩
 obtain ⟨many,hmany,m0,m1⟩:=hmany
 obtain ⟨kind,L4,e4,a4,b4,D4,y4⟩:=Cp (many:=3) D3 (by omega) (by decide) (by decide)
 have hki:kind=0\/kind=1\/kind=2:=by omega
 obtain ⟨way,L5,e5,a5,b5,D5,y5⟩:=Cp (many:=6) D4 (by omega) (by decide) (by decide)
 have x5:Ex d L L5:=y1.trans (y2.trans ((Ex.new d K2 _).trans (y3.trans (y4.trans y5))))
 have hdl:=D.lt
 obtain ⟨ss',δ6,L6,e6,P6⟩:=Tu (us:=Cd 0 2) (it:=.seq (Cd 0 2)) (L0:=L5) (L:=L5) (ix:=[none,some 0,some 3]) (δ:=[some (.ref d),some (.int most),some (.int many),some (.int kind),some (.int way),none,none,none,none]) (fe:=Jv) (tt:=none) (g:=gN 0) (fi:=Dr (Ad (fC (.int 2)) Ag))
  (fun k acc δ' L'=>∃ y0 ss,δ'=[y0,some (.ref d),some (.int kind)]/\acc=ss.map pr/\ss.length=k/\(∀ p∈ss,Pb p)/\Deck L' d (B+5+6 * k)/\Ex d L L')
  (by simp) (by simp[IU.size])
  ⟨none,[],rfl,rfl,rfl,by simp,D5.mono (by omega),x5⟩
  (fun k acc δ L _ _=>rfl)
  (fun k u acc δ L' hu ⟨y0,ss,hδ,hacc,hlen,hall,DD,xx⟩=>by
   subst hδ
   obtain ⟨hk,rfl⟩:=E7 hu
   obtain ⟨r1,M1,f1,c1,c2,DM1,z1⟩:=Ma DD (by omega) hki
   obtain ⟨r2,M2,f2,c3,c4,DM2,z2⟩:=Ma DM1 (by omega) hki
   refine ⟨_,_,rfl,true,L',rfl,fun _=>⟨pr (r1,r2),M2,?_,?_,some (.int (0+(k:Int))),ss++[(r1,r2)],rfl,?_,?_,?_,DM2.mono (by omega),xx.trans (z1.trans z2)⟩,fun h=>by cases h⟩
   ·simp[Jv,f1,f2,small_of,pr]
   ·rw[hacc];simp;omega
   ·rw[hacc];simp
   ·simp;omega
   ·intro p hp
    rcases bM.mp hp with h | h
    ·exact hall p h
    ·have:p=(r1,r2):=by simpa using h
     rw[this];exact ⟨⟨c1,c2⟩,⟨c3,c4⟩⟩)
 obtain ⟨y0,ss,hδ6,hss,hslen,hsb,D6,x6⟩:=P6
 subst hss
 rw[Ej] at hslen D6
 have hle6:=x6.le
 obtain ⟨δ7,L7,e7,P7⟩:=Qw (us:=Cd 0 many.toNat) (L0:=L6++[.lst (ss.map pr)]++[.lst []]) (L:=L6++[.lst (ss.map pr)]++[.lst []]) (δ:=[some (.ref d),some (.int most),some (.int many),some (.int kind),some (.int way),some (.ref L6.length),some (.ref (L6.length+1)),none,none]) (body:=Hr) (g:=gN 7) (fi:=Dr (Ad (Ae 2) Ag))
  (fun k δ' L'=>∃ y7 y8 fs,δ'=[some (.ref d),some (.int most),some (.int many),some (.int kind),some (.int way),some (.ref L6.length),some (.ref (L6.length+1)),y7,y8]/\L'[L6.length+1]? = some (.lst (fs.map pr))/\L'[L6.length]? = some (.lst (ss.map pr))/\fs.length=k/\k<=60/\(∀ p∈fs,Pb p)/\Deck L' d (B+17+9 * k)/\Ex d L L')
  (by simp;omega)
  ⟨none,none,[],rfl,by simp[lD],by simp[lD],rfl,by omega,by simp,((D6.new _).new _).mono (by omega),x6.trans ((Ex.new d _ _).trans (Ex.new d _ _))⟩
  (fun k u δ L' hu ⟨y7,y8,fs,hδ,hf,hs,hl,hk60,hall,DD,xx⟩=>by
   subst hδ
   obtain ⟨hk,rfl⟩:=E7 hu
   obtain ⟨q,M,e,o1,o2,o3,o4,o5⟩:=Wc (x1:=some (.int most)) (x2:=some (.int many)) (x8:=y8) (k:=0+(k:Int)) (way:=way) DD (by omega) (by omega) (by omega) (by omega) hf hs (by omega) hall hsb hslen ⟨by omega,by omega⟩ hki
   refine ⟨_,_,rfl,_,M,.inl e,_,_,fs++[q],rfl,o2,o3,by simp;omega,by omega,?_,o4.mono (by omega),o5 L xx (by omega)⟩
   intro p hp
   rcases bM.mp hp with h | h
   ·exact hall p h
   ·have:p=q:=by simpa using h
    rw[this];exact o1)
 obtain ⟨y7,y8,fs,hδ7,hf7,_,hl7,hk7,hall7,D7,x7⟩:=P7
 rw[Ej] at hl7 D7
 refine ⟨L6.length+1,fs,L7,?_,hf7,by omega,by omega,hall7,by omega,D7.mono (by omega),x7⟩
 rw[hδ7] at e7
 simp only[bY,gX,lJ] at e7
 simp[Ii,fnU,Sx,-N5,e1,e2,small_of,e3,q3,hmany,e4,e5,e6,e7,bF]
def ptU(p:Str×(Int×Int)):U:=.tup [.str p.1,.int p.2.1,.int p.2.2]
structure Pts(ps:List (Str×(Int×Int))):Prop where
 nm:∀ p∈ps,Nm p.1
 nd:(ps.map (·.1)).Nodup
 pb:∀ p∈ps,Pb p.2
 len:ps.length<=60
theorem Abr:∀ (ns:List Str) (qs:List (Int×Int)),zipU (ns.map U.str) (qs.map pr)=(ns.zip qs).map fun p=>.tup [.str p.1,pr p.2]
 | [],_=>rfl
 | _::_,[]=>rfl
 | n::ns,q::qs=>by
  have:=Abr ns qs
  unfold zipU at this ⊢
  simp only[aS,pZ,this]
def Q5:FS:=(B7 (Au (f2 Bb (A0 2 Ao (Ad (Ae 0) (Ad (fC (.int 2)) Ag))) (fC (.int 0)))) (A8 (C0 [none,some 2,some 0] (Dr (Ad (Ba Bc (Ad (Ae 2) Ag)) Ag)) (gN 0) none Ju) (gN 2)) B0)
theorem Ae5:Sm=(A9 (A8 (A0 2 Ii (Ad (Ae 0) (Ad (Ae 1) Ag))) (gN 2)) (A9 Q5 (A9 (A8 (A0 2 J0 (Ad (Ae 0) (Ad (Ba Bc (Ad (Ae 2) Ag)) Ag))) (gN 3)) (Ce (Ba E6 (Ad (C0 [none,none] (Aht (Ad (Ae 3) (Ad (Ae 2) Ag))) (MR.gTup 2 (MR.gCons (gN 0) (MR.gCons (gN 1) MR.gNil))) none Gy) Ag)))))):=rfl
theorem Qf{β γ:Type}:∀ (l:List β) (m:List γ),((l.zip m).map (·.1)).Sublist l
 | [],_=>by simp
 | a::l,[]=>by simp
 | a::l,b::m=>by rw[pZ,aS];exact (Qf l m).cons₂ a
theorem Aaz{L L1:UH}{d r:Nat}{B most:Int}{ps:List (Int×Int)}(hr:L1[r]? = some (.lst (ps.map pr)))(hrl:L.length<=r)(hdr:d < r)(hpb:∀ p∈ps,Pb p)(hlen:ps.length<=60)(D1:Deck L1 d (B+600))(x1:Ex d L L1)(hB:B<=10000000000000) :
  ∃ (r3:Nat) (ps3:List (Int×Int)) (L3:UH),Q5 [some (.ref d),some (.int most),some (.ref r),none] L1=some (.nx [some (.ref d),some (.int most),some (.ref r3),none],L3)/\L3[r3]? = some (.lst (ps3.map pr))/\L.length<=r3/\d < r3/\(∀ p∈ps3,Pb p)/\ps3.length<=60/\Deck L3 d (B+700)/\Ex d L L3:=by
 obtain ⟨i,L2',e2,a2,b2,D2,x2⟩:=Cp (many:=2) D1 (by omega) (by decide) (by decide)
 have hr2:=x2.get hr (by omega)
 by_cases hi:i=0
 ·subst hi
  have hlen2:=Gd hr2
  rw[aM] at hlen2
  obtain ⟨ts',δ5,L5,e5,P5⟩:=Tu (us:=Cd 0 ps.length) (it:=.seq (Cd 0 ps.length)) (L0:=L2') (L:=L2') (ix:=[none,some 2,some 0]) (δ:=[some (.ref d),some (.int most),some (.ref r),none]) (fe:=Ju) (tt:=none) (g:=gN 0) (fi:=Dr (Ad (Ba Bc (Ad (Ae 2) Ag)) Ag))
   (fun k acc δ' L'=>∃ y0 ts ls,δ'=[y0,some (.ref r),some (.ref d)]/\acc=ts.map pr/\ts.length=k/\L'[r]? = some (.lst (ls.map pr))/\ls.length+k=ps.length/\(∀ s∈ts,Pb s)/\(∀ s∈ls,Pb s)/\Deck L' d (B+601+k)/\Ex d L L')
   (Kb (by simp[hlen2]) (by omega)) (by simp[IU.size])
   ⟨none,[],ps,rfl,rfl,rfl,hr2,by omega,by simp,hpb,D2.mono (by omega),x1.trans x2⟩
   (fun k acc δ L _ _=>rfl)
   (fun k u acc δ L' hu ⟨y0,ts,ls,hδ,hacc,hts,hls,hlen,h1,h2,DD,xx⟩=>by
    subst hδ
    obtain ⟨hk,rfl⟩:=E7 hu
    obtain ⟨q,M,ls',e,DM,hM,hl',hq,hsub,hx⟩:=Yc pr DD (by omega) hdr hls (by omega) (by omega) (some (.int (0+(k:Int))))
    refine ⟨_,_,rfl,true,L',rfl,fun _=>⟨_,M,e,?_,_,ts++[q],ls',rfl,?_,?_,hM,by omega,?_,fun s hs=>h2 s (hsub s hs),DM.mono (by omega),hx L xx hrl⟩,fun h=>by cases h⟩
    ·rw[hacc];simp;omega
    ·rw[hacc];simp
    ·simp;omega
    ·intro s hs
     rcases bM.mp hs with h | h
     ·exact h1 s h
     ·have:s=q:=by simpa using h
      rw[this];exact h2 q hq)
  obtain ⟨y0,ts,ls,hδ5,hts,hlt,_,_,hN5,_,D5,x5⟩:=P5
  rw[Ej] at hlt D5
  subst hts
  refine ⟨L5.length,ts,L5++[.lst (ts.map pr)],?_,by simp,x5.le,D5.lt,hN5,by omega,(D5.new _).mono (by omega),x5.trans (Ex.new d _ _)⟩
  simp[Q5,e2,e5]
 ·have hib:(i == 0)=false:=by simpa using hi
  refine ⟨r,ps,L2',?_,hr2,hrl,hdr,hpb,hlen,D2.mono (by omega),x1.trans x2⟩
  simp[Q5,e2,hi]
theorem Aei(D:Deck L d B)(hB:B<=10000000000000)(hm:0<=most/\most<=60) :
  ∃ (ps:List (Str×(Int×Int))) (L':UH),Kp [.ref d,.int most] L=some (.tup (ps.map ptU),L')/\Pts ps/\Deck L' d (B+1000)/\Ex d L L':=by
 obtain ⟨r,ps,L1,e1,hr,hrl,hdr,hpb,hlen,D1,x1⟩:=Adm D (by omega) hm
 have mid:=Aaz (most:=most) hr hrl hdr hpb hlen D1 x1 hB
 obtain ⟨r3,qs,L3,e3,hr3,hrl3,hdr3,hpb3,hlen3,D3,x3⟩:=mid
 obtain ⟨rn,ns,L4,e4,hn4,hnl,hnm,hnd,hnlen,D4,x4⟩:=Ah6 (n:=(qs.length:Int)) D3 (by omega) ⟨by omega,by omega⟩
 have hr4:=x4.get hr3 (by omega)
 have qn:=Am hn4
 have qp:=Am hr4
 have hz:=Abr ns qs
 have hlz:(ns.zip qs).length<=60:=by rw[List.length_zip];omega
 obtain ⟨x,e5⟩:=E9 (ix:=[none,none]) (fi:=Aht (Ad (Ae 3) (Ad (Ae 2) Ag))) (it:=.zip2 rn r3) (g:=(MR.gTup 2 (MR.gCons (gN 0) (MR.gCons (gN 1) MR.gNil)))) (tt:=none) (fe:=Gy) (δ:=[some (.ref d),some (.int most),some (.ref r3),some (.ref rn)]) (L:=L4) (L0:=L4)
  (ns.zip qs) (fun p=>.tup [.str p.1,pr p.2]) (fun _=>true) (fun p=>ptU p) (fun δ=>∃ a b,δ = [a,b]) (by simp[qn,qp]) (by rw[Ah9 qn qp,hz];simp) (by omega) ⟨none,none,rfl⟩
  (fun k x=>by rw[Anb (J9 qn) (J9 qp),hz])
  (fun p δ x _ ⟨a,b,hδ⟩=>by
   subst hδ
   refine ⟨_,rfl,⟨_,_,rfl⟩,[],by simp[testU],fun _=>⟨[],?_⟩⟩
   have h0:L2.atI [U.int p.2.1,.int p.2.2] 0=some (.int p.2.1):=rfl
   have h1:L2.atI [U.int p.2.1,.int p.2.2] 1=some (.int p.2.2):=rfl
   simp[Gy,pr,h0,h1,small_of,ptU])
 have hfil:iU (fun _=>true) (ns.zip qs)=ns.zip qs:=eY.mpr (fun _ _=>rfl)
 rw[hfil] at e5
 have qt:Az (L4++x++[HU.lst ((ns.zip qs).map fun p=>ptU p)]) (L4++x).length=some ((ns.zip qs).map fun p=>ptU p):=Am (by simp)
 have htup:E6 [.ref (L4++x).length] (L4++x++[HU.lst ((ns.zip qs).map fun p=>ptU p)])=some (.tup ((ns.zip qs).map fun p=>ptU p),L4++x++[HU.lst ((ns.zip qs).map fun p=>ptU p)]):=by simp only[E6,qt,aC]
 refine ⟨ns.zip qs,L4++x++[HU.lst ((ns.zip qs).map fun p=>ptU p)],?_,⟨?_,?_,?_,hlz⟩,((D4.new _).new _).mono (by omega),x3.trans (x4.trans ((Ex.new d _ _).trans (Ex.new d _ _)))⟩
 ·have hl3:=Gd hr3
  rw[aM] at hl3
  simp only[aY,bY] at htup e5
  simp[Kp,fnU,Ae5,e1,e3,hl3,e4,e5,htup,bF]
 ·intro p hp
  exact hnm p.1 (iG (show (p.1,p.2)∈ns.zip qs from hp)).1
 ·exact hnd.sublist (Qf ns qs)
 ·intro p hp
  exact hpb3 p.2 (iG (show (p.1,p.2)∈ns.zip qs from hp)).2
theorem str_ext(h:a.cps.toList=b.cps.toList):a=b:=by
 cases a;cases b
 simp only[Str.mk.injEq]
 exact Array.toList_inj.mp h
theorem app_cps(a b:Str):(a++b).cps.toList=a.cps.toList++b.cps.toList:=by
 show (a.cps++b.cps).toList=_
 simp
theorem join_cons(c:Nat)(a b:Str)(r:List Str):(cJ ⟨#[c]⟩ (a::b::r)).cps.toList=a.cps.toList++c::(cJ ⟨#[c]⟩ (b::r)).cps.toList:=by
 show (a++⟨#[c]⟩++cJ ⟨#[c]⟩ (b::r)).cps.toList=_
 rw[app_cps,app_cps]
 simp
theorem Ag2:∀ {a a' r r':List Nat},c∉a->c∉a'->a++c::r=a'++c::r'->a=a'/\r=r'
 | [],[],r,r',_,_,h=>by simp at h;exact ⟨rfl,h⟩
 | [],x::a',r,r',_,h2,h=>by
  simp at h
  exact absurd (by rw[<- h.1];exact aW ..) h2
 | x::a,[],r,r',h1,_,h=>by
  simp at h
  exact absurd (by rw[h.1];exact aW ..) h1
 | x::a,y::a',r,r',h1,h2,h=>by
  simp only[gX,lK] at h
  obtain ⟨e1,e2⟩:=Ag2 (fun q=>h1 (aR _ q)) (fun q=>h2 (aR _ q)) h.2
  exact ⟨by rw[h.1,e1],e2⟩
theorem Wx(c:Nat):∀ (l l':List Str),l≠[]->l'≠[]->(∀ p∈l,c∉p.cps.toList)->(∀ p∈l',c∉p.cps.toList)->(cJ ⟨#[c]⟩ l).cps.toList=(cJ ⟨#[c]⟩ l').cps.toList->l=l'
 | [],_,h,_,_,_,_=>absurd rfl h
 | _,[],_,h,_,_,_=>absurd rfl h
 | [a],[b],_,_,_,_,h=>by
  have:a=b:=str_ext h
  rw[this]
 | [a],b::b'::r,_,_,h1,_,h=>by
  rw[join_cons] at h
  have h':a.cps.toList=b.cps.toList++c::(cJ ⟨#[c]⟩ (b'::r)).cps.toList:=h
  exact absurd (by rw[h'];simp) (h1 a (aW ..))
 | a::a'::r,[b],_,_,_,h2,h=>by
  rw[join_cons] at h
  have h':a.cps.toList++c::(cJ ⟨#[c]⟩ (a'::r)).cps.toList=b.cps.toList:=h
  exact absurd (by rw[<- h'];simp) (h2 b (aW ..))
 | a::a'::r,b::b'::r',_,_,h1,h2,h=>by
  rw[join_cons,join_cons] at h
  obtain ⟨e1,e2⟩:=Ag2 (h1 a (aW ..)) (h2 b (aW ..)) h
  have ih:=Wx c (a'::r) (b'::r') (by simp) (by simp) (fun p hp=>h1 p (aR _ hp)) (fun p hp=>h2 p (aR _ hp)) e2
  rw[str_ext e1,ih]
theorem G4(x y:Str):bQ x y≠[]:=by
 unfold bQ
 split
 ·simp
 ·split
  ·simp
  ·rw[jT]
   obtain ⟨p,r,e⟩:=StrLaws.partsFrom_ne x y.length 0 (aZ x y 0 x.length (x.length+1))
   rw[e];simp
theorem Ro{l:List Str}(hne:l≠[])(hf:∀ p∈l,c∉p.cps.toList):bQ (cJ ⟨#[c]⟩ l) ⟨#[c]⟩=l:=
 Wx c _ l (G4 _ _) hne (fun p hp=>qA _ c p hp) hf (by rw[fE])
def dig(n:Nat):List Nat:=if h:n < 10 then [48+n] else dig (n / 10)++[48+n % 10]
termination_by n
decreasing_by omega
theorem Lr(h:n < 10):dig n=[48+n]:=by rw[dig,dif_pos h]
theorem Rc(h:¬ n < 10):dig n=dig (n / 10)++[48+n % 10]:=by rw[dig,dif_neg h]
theorem Pj:∀ n:Nat,NumText.AllDigits (dig n)/\dig n≠[]/\bZ (dig n)=n/\(n≠0->∃ c r,dig n=c::r/\c≠48):=by
 intro n
 induction n using Nat.strongRecOn with
 | _ n ih=>
  by_cases h:n < 10
  ·rw[Lr h]
   refine ⟨fun c hc=>?_,by simp,?_,fun h0=>⟨48+n,[],rfl,by omega⟩⟩
   ·have:c=48+n:=by simpa using hc
    omega
   ·show 0 * 10+(48+n - 48)=n
    omega
  ·obtain ⟨h1,h2,h3,h4⟩:=ih (n / 10) (by omega)
   rw[Rc h]
   refine ⟨fun c hc=>?_,by simp,?_,fun _=>?_⟩
   ·rcases bM.mp hc with q | q
    ·exact h1 c q
    ·have:c=48+n % 10:=by simpa using q
     omega
   ·rw[kD,h3];omega
   ·obtain ⟨c,r,e,hc⟩:=h4 (by omega)
    exact ⟨c,r++[48+n % 10],by rw[e];rfl,hc⟩
theorem Ac2:∀ (k n:Nat),n < 10 ^ (k+1)->(dig n).length<=k+1
 | 0,n,h=>by rw[Lr (by simpa using h)];simp
 | k+1,n,h=>by
  by_cases hn:n < 10
  ·rw[Lr hn];simp
  ·rw[Rc hn,aY]
   have:=Ac2 k (n / 10) (by
    rw[sO] at h
    exact oU (by rw[qM];exact h))
   simp;omega
def fig(n:Int):Str:=⟨((if n < 0 then [45] else [])++dig n.natAbs).toArray⟩
theorem fig_cps(n:Int):(fig n).cps.toList=(if n < 0 then [45] else [])++dig n.natAbs:=by unfold fig;simp
theorem Md{n:Int}(h:-9999999999<=n/\n<=9999999999):(fig n).length<=11:=by
 have e:(fig n).length=(fig n).cps.toList.length:=by simp[eN]
 rw[e,fig_cps,aY]
 have:=Ac2 9 n.natAbs (by omega)
 split <;> simp <;> omega
theorem Aj3{n:Int}(h:-9999999999<=n/\n<=9999999999):mN (fig n)=some n:=by
 have hl:=Md h
 have en:n < 0->-((n.natAbs:Nat):Int)=n:=fun q=>by omega
 have ep:¬ n < 0->((n.natAbs:Nat):Int)=n:=fun q=>by omega
 obtain ⟨h1,h2,h3,_⟩:=Pj n.natAbs
 by_cases h0:n < 0
 ·have hx:(fig n).cps.toList=45::dig n.natAbs:=by rw[fig_cps,if_pos h0];rfl
  rw[PySem.intText_neg hx h1 h2 (by omega),h3,en h0]
 ·have hx:(fig n).cps.toList=dig n.natAbs:=by rw[fig_cps,if_neg h0];rfl
  rw[PySem.intText_digits (by rw[hx];exact h1) (by rw[hx];exact h2) (by omega),hx,h3,ep h0]
theorem Ahe{n:Int}(hc:c < 45):c∉(fig n).cps.toList:=fun h=>by
 rw[fig_cps] at h
 rcases bM.mp h with q | q
 ·split at q
  ·have:c=45:=by simpa using q
   omega
  ·simp at q
 ·have:=(Pj n.natAbs).1 c q
  omega
variable {f g:FS}{δ δ':UE}
theorem Hv(h:f δ L=some (.nx δ',L')):A9 f g δ L=g δ' L':=by rw[Q6,h];rfl
variable {fe:FE}{v:U}
theorem Dj(e:fe δ L=some (v,L')):(A8 fe (gN i)) δ L=some (.nx (δ.set i (some v)),L'):=by
 rw[Air,e]
 simp only[aA,gN_eq,aC]
theorem K6{f:FN}{u:U}(h:Ae i δ L=some (u,L))(e:f [u] L=some (v,L')):(A0 1 f (Ad (Ae i) Ag)) δ L=some (v,L'):=by
 rw[Ke,fCons_eq,h]
 simp only[aA,fNil_eq,aC,bH,cK,if_true,e]
theorem Uh{f:FN}{u:U}(h:fe δ L=some (u,L1))(e:f [u] L1=some (v,L')):(A0 1 f (Ad fe Ag)) δ L=some (v,L'):=by
 rw[Ke,fCons_eq,h]
 simp only[aA,fNil_eq,aC,bH,cK,if_true,e]
variable {fa fb:FE}
theorem Kc{f:FN}{u w:U}{L2:UH}(h:fa δ L=some (u,L1))(h2:fb δ L1=some (w,L2))(e:f [u,w] L2=some (v,L')):(A0 2 f (Ad fa (Ad fb Ag))) δ L=some (v,L'):=by
 rw[Ke,fCons_eq,h,aA,fCons_eq,h2]
 simp only[aA,fNil_eq,aC,bH,cK,if_true,e]
theorem fn1{b:FS}{u:U}(h:b (some u::bF n none) L=some (.rt v,L')):fnU (n+1) 1 b [u] L=some (v,L'):=by
 unfold fnU
 simp only[bH,cK,if_true,aS,eU,gX,lJ,Nat.add_sub_cancel,h]
 rfl
theorem Cg(e:fe δ L=some (v,L')):Ce fe δ L=some (.rt v,L'):=by
 rw[fRet_eq,e];rfl
def Gw(L L':UH):Prop:=∃ x,L'=L++x
theorem Gw.refl(L:UH):Gw L L:=⟨[],by simp⟩
variable {M:UH}
theorem Gw.trans(a:Gw L L1)(b:Gw L1 M):Gw L M:=by obtain ⟨x,rfl⟩:=a;obtain ⟨y,rfl⟩:=b;exact ⟨x++y,by simp⟩
theorem Gw.new(L x:UH):Gw L (L++x):=⟨x,rfl⟩
theorem Gw.set(h:Gw L L')(hn:L.length<=n)(o:HU):Gw L (L'.set n o):=by
 obtain ⟨x,rfl⟩:=h
 exact ⟨x.set (n - L.length) o,by rw[List.set_append_right _ _ hn]⟩
theorem Gw.le(h:Gw L L'):L.length<=L'.length:=by obtain ⟨x,rfl⟩:=h;simp
theorem Gw.get(h:Gw L L'){o:HU}(e:L[n]? = some o):L'[n]? = some o:=by
 obtain ⟨x,rfl⟩:=h
 rw[aK (aD.mp e).1];exact e
theorem Gw.deck(h:Gw L L')(D:Deck L d B):Deck L' d B:=by obtain ⟨x,rfl⟩:=h;exact D.new x
theorem Ah4{β:Type}(as:List β)(f:β->Bool):mapO toB (as.map fun a=>U.bl (f a))=some (as.map f):=by
 induction as with
 | nil=>rfl
 | cons a as ih=>simp[mapO,toB,ih]
theorem Aj9{β:Type}(as:List β)(f:β->Bool)(h:Az L n=some (as.map fun a=>U.bl (f a))):Rm [.ref n] L=some (.bl (as.all f),L):=by
 simp[Rm,h,Ah4]
def asc(w:Str):Prop:=w.cps.all (· < 128)=true
theorem len_cps(w:Str):w.length=w.cps.toList.length:=by simp[eN]
theorem Yd(w signs:Str)(ha:asc w)(hl:w.length<=100000)(L:UH):∃ L',Dt [.str w,.str signs] L=some (.bl (w.cps.toList.all fun c=>decide (c∈signs.cps.toList)),L')/\Gw L L':=by
 have hlc:=len_cps w
 have hi:J7 (Ae 0) [some (.str w),some (.str signs)] L=some (.seq (w.cps.toList.map fun c=>.str ⟨#[c]⟩),L):=by
  unfold J7
  simp only[fVar_eq,aL,aP,aC,aA]
  rw[if_pos (show (w.cps.all (· < 128))=true from ha)];rfl
 obtain ⟨x,e⟩:=E9 (ix:=[none,some 1]) (fi:=J7 (Ae 0)) (it:=.seq (w.cps.toList.map fun c=>U.str ⟨#[c]⟩)) (g:=gN 0) (tt:=none) (fe:=Kt) (δ:=[some (.str w),some (.str signs)]) (L:=L) (L0:=L)
  w.cps.toList (fun c=>U.str ⟨#[c]⟩) (fun _=>true) (fun c=>.bl (decide (c∈signs.cps.toList))) (fun δ=>∃ a,δ = [a,some (.str signs)]) hi (by simp[IU.size]) (by omega) ⟨none,rfl⟩
  (fun k x=>rfl)
  (fun c δ x _ ⟨y,hδ⟩=>by
   subst hδ
   refine ⟨[some (.str ⟨#[c]⟩),some (.str signs)],rfl,⟨_,rfl⟩,[],by simp[testU],fun _=>⟨[],?_⟩⟩
   have hfo:=nB signs c
   show some (U.bl (!(aZ signs ⟨#[c]⟩ 0 signs.length 1).isEmpty),L++x++[])=_
   rw[hfo];simp)
 have hff:iU (fun _=>true) w.cps.toList=w.cps.toList:=eY.mpr (fun _ _=>rfl)
 rw[hff] at e
 have q1:Az (L++x++[HU.lst (w.cps.toList.map fun c=>.bl (decide (c∈signs.cps.toList)))]) (L++x).length=some (w.cps.toList.map fun c=>U.bl (decide (c∈signs.cps.toList))):=Am (by simp)
 have ha:=Aj9 _ _ q1
 refine ⟨L++x++[HU.lst (w.cps.toList.map fun c=>.bl (decide (c∈signs.cps.toList)))],?_,⟨x++[HU.lst (w.cps.toList.map fun c=>.bl (decide (c∈signs.cps.toList)))],by rw[bY]⟩⟩
 unfold Dt fnU Ny
 simp only[bH,cK,if_true,aS,eU,eK,gO,cR,fRet_eq,fCall_eq,fCons_eq,fNil_eq,aC,aA,e,ha]
theorem Ac6:(iF "abcdefghijklmnopqrstuvwxyz").toList=(dX 26).map (97 + ·):=by decide +kernel
theorem fig_signs:(iF "0123456789").toList=(dX 10).map (48 + ·):=by decide +kernel
theorem mem_abc(h:97<=c/\c<=122):c∈(iF "abcdefghijklmnopqrstuvwxyz").toList:=by
 rw[Ac6]
 exact dI.mpr ⟨c - 97,fQ.mpr (by omega),by omega⟩
theorem mem_figs(h:48<=c/\c<=57):c∈(iF "0123456789").toList:=by
 rw[fig_signs]
 exact dI.mpr ⟨c - 48,fQ.mpr (by omega),by omega⟩
variable {w:Str}
theorem Gf(h:∀ c∈w.cps.toList,c < 128):asc w:=by
 unfold asc
 rw[<- kQ,bW]
 intro c hc
 exact decide_eq_true (h c hc)
variable {fc:FE}
theorem Ahc{a b c:Int}(ha:fa δ L=some (.int a,L))(hb:fb δ L=some (.int b,L))(hc:fc δ L=some (.int c,L)):Km Qi Qi fa fb fc δ L=some (.bl (decide (a<=b)&&decide (b<=c)),L):=by
 unfold Km
 rw[ha,aA,hb]
 cases h:decide (a<=b) <;> simp[h,hc]
theorem O7(h:w.length<=100000)(L:UH):Bc [.str w] L=some (.int w.length,L):=by
 unfold Bc lenU
 simp only[small_of (show w.length<=16777216 by omega),if_true,aC]
theorem N2:(iF "0").toList=[48]:=by decide +kernel
theorem minus_cps:(iF "-").toList=[45]:=by decide +kernel
theorem Jw:(iF "").toList=[]:=by decide +kernel
theorem Nj(h:asc w):Pl 6 (.str w):=by
 show lX w=true
 unfold lX
 unfold asc at h
 rw[<- kQ,bW] at h ⊢
 intro c hc
 have:=of_decide_eq_true (h c hc)
 exact decide_eq_true (by omega)
theorem Acl(ha:asc a)(hb:asc b):eqB (.str a) (.str b)=decide (a=b):=by
 rw[cX,Acx (Nj ha) (Nj hb),decide_eq_true_eq]
 exact ⟨fun q=>by injection q,fun q=>by rw[q]⟩
theorem Fy(ha:asc a)(hb:asc b)(L:UH):Bb (.str a) (.str b) L=some (.bl (decide (a=b)),L):=by
 rw[Xh L (Nj ha) (Nj hb),Acl ha hb]
theorem T5(ha:asc a)(hb:asc b)(L:UH):Dy (.str a) (.str b) L=some (.bl (!decide (a=b)),L):=by
 rw[Afm L (Nj ha) (Nj hb),Acl ha hb]
theorem Oc:asc "0" := by unfold asc;decide +kernel
theorem Mi:asc "" := by unfold asc;decide +kernel
theorem Q8(h:c < 128):asc ⟨#[c]⟩:=Gf fun x hx=>by
 have:x=c:=by simpa using hx
 omega
theorem Akq(n:Int):asc (fig n):=Gf fun c hc=>by
 rw[fig_cps] at hc
 rcases bM.mp hc with q | q
 ·split at q
  ·have:c=45:=by simpa using q
   omega
  ·simp at q
 ·have:=(Pj n.natAbs).1 c q
  omega
theorem Wq(a len:Nat):cH (some (a:Int)) none 1 len=cH (some (a:Int)) (some (len:Int)) 1 len:=by
 unfold cH
 have h2:¬ ((len:Int) < 0):=by omega
 have e2:max (0:Int) (min (len:Int) (len:Int))=len:=by omega
 simp only[h2,if_false,e2,show ((1:Int) > 0)=True from by simp,if_true]
variable {x:Str}
theorem Uc(h:1<=x.length):(dF x (some 1) none).cps.toList=x.cps.toList.drop 1:=by
 have e:=Wq 1 x.length
 have p:=gY (a:=1) (b:=x.length) (len:=x.length) h (aJ _)
 have q:=oV x (a:=1) (b:=x.length) h (aJ _)
 have i1:((1:Nat):Int)=1:=rfl
 rw[i1] at e p q
 unfold dF
 rw[e]
 have hl:(cH (some 1) (some (x.length:Int)) 1 x.length).length=x.length - 1:=by rw[p];simp
 rw[if_neg (by rw[hl];simp;omega),q]
 have:x.length=x.cps.toList.length:=len_cps x
 simp only[cZ (by rw[iV];omega:(x.cps.toList.drop 1).length<=x.length - 1)]
theorem F0{c:FT}(h:c δ L=some (false,L')):B7 c f B0 δ L=some (.nx δ,L'):=by
 rw[Mj,h];rfl
theorem Tb{c d:FT}{L2:UH}(h:c δ L=some (false,L1))(h2:d δ L1=some (false,L2)):fOr c d δ L=some (false,L2):=by
 rw[Hi,h]
 exact h2
theorem Dz{f:FE}{b:Bool}(h:f δ L=some (.bl b,L')):Au f δ L=some (b,L'):=by
 rw[Ou,h];rfl
theorem Bq{s:S2}{L2 L3:UH}{u w:U}(h1:fa δ L=some (u,L1))(h2:fb δ L1=some (v,L2))(h:s u v L2=some (w,L3)):f2 s fa fb δ L=some (w,L3):=by
 rw[f2_eq,h1];simp only[aA,h2,h]
variable {k:Nat}{us:List U}
theorem fnN{b:FS}(hn:us.length=k)(h:b (us.map some++bF (n - k) none) L=some (.rt v,L')):fnU n k b us L=some (v,L'):=by
 subst hn
 unfold fnU
 rw[if_pos rfl,h]
 rfl
theorem Fx{s:SC}{u:U}{L2:UH}(h:fa δ L=some (u,L1))(e:s [u] L1=some (v,L2)):(Ba s (Ad fa Ag)) δ L=some (v,L2):=by
 rw[fCall_eq,fCons_eq,h];exact e
theorem Atq{f:FN}{u w x:U}{L2 L3:UH}(h:fa δ L=some (u,L1))(h2:fb δ L1=some (w,L2))(h3:fc δ L2=some (x,L3))(e:f [u,w,x] L3=some (v,L')):(A0 3 f (Ad fa (Ad fb (Ad fc Ag)))) δ L=some (v,L'):=by
 rw[Ke,fCons_eq,h]
 simp only[aA,fCons_eq,h2,h3,fNil_eq,aC,bH,cK,if_true,e]
theorem Auu{u:U}{L2:UH}(h:fa δ L=some (u,L1))(h2:fb δ L1=some (v,L2)):(Gj (Ad fa (Ad fb Ag))) δ L=some (.tup [u,v],L2):=by
 rw[Ac0,fCons_eq,h,aA,fCons_eq,h2]
 simp only[aA,fNil_eq,aC]
 rw[if_pos (small_of (by show 2<=16777216;decide))]
theorem Aq3{u w:U}(h:fa δ L=some (u,L))(h2:fb δ L=some (v,L))(h3:fc δ L=some (w,L)):(Gj (Ad fa (Ad fb (Ad fc Ag)))) δ L=some (.tup [u,v,w],L):=by
 rw[Ac0,fCons_eq,h,aA,fCons_eq,h2,aA,fCons_eq,h3]
 simp only[aA,fNil_eq,aC]
 rw[if_pos (small_of (by show 3<=16777216;decide))]
theorem Fq{g:FA}{L2:UH}{u:U}(h1:fe δ L=some (u,L1))(h2:g δ L1=some (us,L2)):Ad fe g δ L=some (u::us,L2):=by
 rw[fCons_eq,h1,aA,h2];rfl
theorem C8{c:FT}(h:c δ L=some (true,L')):B7 c f g δ L=f δ L':=by
 rw[Mj,h];rfl
theorem Pd(a b:Str):(a++b).length=a.length+b.length:=by
 show (a.cps++b.cps).size=a.cps.size+b.cps.size
 rw[Array.size_append]
theorem T1:∀ (fs:List FE) (out:Str),(∀ f∈fs,∃ x:Str,f δ L=some (.str x,L)/\x.length<=1000)->out.length+1000 * fs.length<=16777216->∃ s,goJ out fs δ L=some (.str s,L)
 | [],out,_,_=>⟨out,rfl⟩
 | f::r,out,h,hl=>by
  obtain ⟨x,e,hx⟩:=h f aW
  rw[bH] at hl
  have hb:(out++x).length+1000 * r.length<=16777216:=by rw[Pd];omega
  obtain ⟨s,hs⟩:=T1 r (out++x) (fun g hg=>h g (aR _ hg)) hb
  refine ⟨s,?_⟩
  unfold goJ
  simp only[e,aA]
  rw[if_pos (small_of (by omega)),hs]
theorem Aek(fs:List FE)(h:∀ f∈fs,∃ x:Str,f δ L=some (.str x,L)/\x.length<=1000)(hl:fs.length<=100):∃ s,Fp fs δ L=some (.str s,L):=T1 fs kL h (by show 0+_<=_;omega)
theorem Pk(x:Str)(h:x.length<=1000):∃ y:Str,fC (.str x) δ L=some (.str y,L)/\y.length<=1000:=⟨x,rfl,h⟩
theorem V5{a b c:FE}(ha:∃ x:Str,a δ L=some (.str x,L)/\x.length<=1000)(hb:∃ x:Str,b δ L=some (.str x,L)/\x.length<=1000)(hc:∃ x:Str,c δ L=some (.str x,L)/\x.length<=1000):∃ s,Fp [a,b,c] δ L=some (.str s,L):=
 Aek _ (fun f hf=>by
  rcases aV.mp hf with rfl | hf
  ·exact ha
  ·rcases aV.mp hf with rfl | hf
   ·exact hb
   ·rcases aV.mp hf with rfl | hf
    ·exact hc
    ·cases hf) (by show 3<=100;decide)
theorem Et(h:f δ L=some (.rt v,L')):A9 f g δ L=some (.rt v,L'):=by rw[Q6,h];rfl
theorem Ay{r:Option (Fl×UH)}(h:f δ L=some (.nx δ',L'))(k:g δ' L'=r):A9 f g δ L=r:=by rw[Hv h,k]
theorem E5(h:asc w):∀ c∈w.cps.toList,c < 128:=by
 unfold asc at h
 rw[<- kQ,bW] at h
 intro c hc
 exact of_decide_eq_true (h c hc)
def nmB(w:Str):Bool:=(decide (1<=w.length)&&decide (w.length<=8))&&w.cps.toList.all fun c=>decide (97<=c/\c<=122)
theorem Agt(c:Nat):decide (c∈(iF "abcdefghijklmnopqrstuvwxyz").toList)=decide (97<=c/\c<=122):=by
 rw[cX,decide_eq_true_eq,decide_eq_true_eq]
 refine ⟨fun h=>?_,mem_abc⟩
 rw[Ac6] at h
 obtain ⟨k,hk,rfl⟩:=dI.mp h
 have:=fQ.mp hk
 omega
theorem Aie(c:Nat):decide (c∈(iF "0123456789").toList)=decide (48<=c/\c<=57):=by
 rw[cX,decide_eq_true_eq,decide_eq_true_eq]
 refine ⟨fun h=>?_,mem_figs⟩
 rw[fig_signs] at h
 obtain ⟨k,hk,rfl⟩:=dI.mp h
 have:=fQ.mp hk
 omega
theorem Yh(ha:asc w)(hl:w.length<=100000)(L:UH):∃ L',Mh [.str w] L=some (.bl (nmB w),L')/\Gw L L':=by
 obtain ⟨L',e,g⟩:=Yd w "abcdefghijklmnopqrstuvwxyz" ha hl L
 have hall:(w.cps.toList.all fun c=>decide (c∈(iF "abcdefghijklmnopqrstuvwxyz").toList))=w.cps.toList.all fun c=>decide (97<=c/\c<=122):=by
  simp only[Agt]
 rw[hall] at e
 have c1:Km Qi Qi (fC (.int 1)) (Ba Bc (Ad (Ae 0) Ag)) (fC (.int 8)) [some (.str w)] L=some (.bl (decide (1<=w.length)&&decide (w.length<=8)),L):=by
  have hb:(Ba Bc (Ad (Ae 0) Ag)) [some (.str w)] L=some (.int w.length,L):=Fx rfl (O7 hl L)
  rw[Ahc (a:=1) (b:=w.length) (c:=8) rfl hb rfl]
  have h1:decide ((1:Int)<=(w.length:Int))=decide (1<=w.length):=by rw[cX,decide_eq_true_eq,decide_eq_true_eq];omega
  have h2:decide ((w.length:Int)<=(8:Int))=decide (w.length<=8):=by rw[cX,decide_eq_true_eq,decide_eq_true_eq];omega
  rw[h1,h2]
 have e2:(A0 2 Dt (Ad (Ae 0) (Ad (fC (.str "abcdefghijklmnopqrstuvwxyz")) Ag))) [some (.str w)] L=some (.bl (w.cps.toList.all fun c=>decide (97<=c/\c<=122)),L'):=Kc (u:=.str w) rfl rfl e
 unfold nmB
 cases hc:(decide (1<=w.length)&&decide (w.length<=8)) with
 | true=>
  refine ⟨L',fn1 (n:=0) (Cg ?_),g⟩
  show Iw _ _ [some (.str w)] L=_
  rw[Iy,c1,hc]
  simp only[aA,if_true,kW]
  exact e2
 | false=>
  refine ⟨L,fn1 (n:=0) (Cg ?_),Gw.refl L⟩
  show Iw _ _ [some (.str w)] L=_
  rw[Iy,c1,hc]
  rfl
theorem Aak(w:Str):kC w "-" = decide (w.cps.toList.take 1=[45]):=by
 unfold kC
 rw[StrLaws.subAt_eq,minus_cps]
 have hm:eN "-" = 1:=by rw[len_cps,minus_cps];rfl
 rw[hm,len_cps]
 cases w.cps.toList with
 | nil=>rfl
 | cons c r=>
  have:(c == 45)=decide (c=45):=by rw[cX];simp
  simp[this]
def Cj(w:Str):List Nat:=if w.cps.toList.take 1=[45] then w.cps.toList.drop 1 else w.cps.toList
def Fm(w:Str):Str:=⟨(Cj w).toArray⟩
theorem numS_cps(w:Str):(Fm w).cps.toList=Cj w:=by unfold Fm;simp
theorem Yq(w:Str):∀ c∈Cj w,c∈w.cps.toList:=fun c hc=>by
 unfold Cj at hc
 split at hc
 ·exact gG hc
 ·exact hc
theorem Yg(w:Str):(Fm w).length<=w.length:=by
 rw[len_cps,len_cps,numS_cps]
 unfold Cj
 split
 ·rw[iV];omega
 ·exact aJ _
def Er(w:Str):Bool:=(!(Cj w).isEmpty&&(Cj w).all fun c=>decide (48<=c/\c<=57))&&(!decide ((Cj w).take 1=[48]) || decide (w.cps.toList=[48]))
theorem Kn:decide (a=b)=decide (a.cps.toList=b.cps.toList):=by
 rw[cX,decide_eq_true_eq,decide_eq_true_eq]
 exact ⟨fun h=>by rw[h],str_ext⟩
theorem Mp(ha:asc w)(hl:w.length<=100000)(L:UH):∃ L',Ee [.str w] L=some (.bl (Er w),L')/\Gw L L':=by
 have hlA:=bJ (Yg w) hl
 have haA:asc (Fm w):=Gf fun c hc=>by rw[numS_cps] at hc;exact E5 ha c (Yq w c hc)
 obtain ⟨L',e,g⟩:=Yd (Fm w) "0123456789" haA hlA L
 have hall:((Fm w).cps.toList.all fun c=>decide (c∈(iF "0123456789").toList))=(Cj w).all fun c=>decide (48<=c/\c<=57):=by
  simp only[Aie,numS_cps]
 rw[hall] at e
 have c0:(Em (Bt "str" semStarts (Ae 0) (Ad (fC (.str "-")) Ag))) [some (.str w),none] L=some (decide (w.cps.toList.take 1=[45]),L):=by
  have ty:∀ L,tyU "str" (.str w) L=true:=fun _=>rfl
  rw[fTru_eq,fMeth_eq]
  simp only[fVar_eq,fCons_eq,fC_eq,fNil_eq,aL,aP,aC,aA,ty,if_true,semStarts,Aak,truU_bl]
 have s1:(A8 (fIf (Em (Bt "str" semStarts (Ae 0) (Ad (fC (.str "-")) Ag))) (fSl Dv (Ae 0) (Ff (fC (.int 1))) C4) (Ae 0)) (gN 1)) [some (.str w),none] L=some (.nx [some (.str w),some (.str (Fm w))],L):=by
  refine Dj (i:=1) (δ:=[some (.str w),none]) ?_
  rw[Ao3,c0,aA]
  by_cases h0:w.cps.toList.take 1=[45]
  ·have h1:1<=w.length:=by
    rw[len_cps]
    cases hw:w.cps.toList with
    | nil=>rw[hw] at h0;cases h0
    | cons c r=>simp
   have hs:dF w (some 1) none=Fm w:=by
    apply str_ext
    rw[Uc h1,numS_cps]
    unfold Cj
    rw[if_pos h0]
   simp only[decide_eq_true h0,if_true,Aho,fVar_eq,Ah3,fNoPart_eq,fC_eq,aL,aP,aC,aA,Dv]
   rw[if_pos (small_of (by omega)),hs]
  ·have hx:w=Fm w:=str_ext (by rw[numS_cps];unfold Cj;rw[if_neg h0])
   simp only[decide_eq_false h0,cU,if_false,fVar_eq,aL,aP,aC]
   rw[<- hx]
 have t1:(Au (f2 Bb (Ae 1) (fC (.str "")))) [some (.str w),some (.str (Fm w))] L=some ((Cj w).isEmpty,L):=by
  have h1:=Fy haA Mi L
  rw[Kn,numS_cps,Jw] at h1
  have h2:decide (Cj w=[])=(Cj w).isEmpty:=by cases Cj w <;> simp
  rw[h2] at h1
  exact Dz (Bq rfl rfl h1)
 have t2:(A0 2 Dt (Ad (Ae 1) (Ad (fC (.str "0123456789")) Ag))) [some (.str w),some (.str (Fm w))] L=some (.bl ((Cj w).all fun c=>decide (48<=c/\c<=57)),L'):=Kc (u:=.str (Fm w)) rfl rfl e
 have c1:∃ L1,(fOr (Au (f2 Bb (Ae 1) (fC (.str "")))) (Gi (Em (A0 2 Dt (Ad (Ae 1) (Ad (fC (.str "0123456789")) Ag)))))) [some (.str w),some (.str (Fm w))] L=some (!(!(Cj w).isEmpty&&(Cj w).all fun c=>decide (48<=c/\c<=57)),L1)/\Gw L L1:=by
  cases h:(Cj w).isEmpty with
  | true=>
   rw[h] at t1
   exact ⟨L,by rw[Hi,t1];rfl,Gw.refl L⟩
  | false=>
   rw[h] at t1
   refine ⟨L',?_,g⟩
   rw[Hi,t1]
   simp only[aA,cU,if_false,fNot_eq,fTru_eq,t2,truU_bl,aC,Bool.not_false,kW]
 obtain ⟨L1,c1,g1⟩:=c1
 unfold Er
 cases hc:(!(Cj w).isEmpty&&(Cj w).all fun c=>decide (48<=c/\c<=57)) with
 | false=>
  rw[hc] at c1
  refine ⟨L1,fn1 (n:=1) ?_,g1⟩
  unfold Lm
  refine Ay s1 (Et ?_)
  rw[C8 c1]
  exact Cg rfl
 | true=>
  rw[hc] at c1
  have hne:Cj w≠[]:=fun q=>by rw[q] at hc;cases hc
  obtain ⟨c,r,ec⟩:∃ c r,Cj w=c::r:=by
   cases q:Cj w with
   | nil=>exact absurd q hne
   | cons c r=>exact ⟨c,r,rfl⟩
  have hc128:c < 128:=E5 haA c (by rw[numS_cps,ec];exact aW ..)
  have hix:Al (.str (Fm w)) (.int 0) L1=some (.str ⟨#[c]⟩,L1):=by
   rw[H0,if_pos (small_of (by omega)),numS_cps,ec,Ft (by omega) (by simp)]
   rfl
  have h48:decide ((Cj w).take 1=[48])=decide (c=48):=by rw[ec];simp
  have u1:(f2 Dy (f2 Al (Ae 1) (fC (.int 0))) (fC (.str "0"))) [some (.str w),some (.str (Fm w))] L1=some (.bl (!decide (c=48)),L1):=by
   have h1:=T5 (Q8 hc128) Oc L1
   rw[Kn,N2] at h1
   have h2:decide ((iF ⟨#[c]⟩).toList=[48])=decide (c=48):=by simp
   rw[h2] at h1
   exact Bq (Bq rfl rfl hix) rfl h1
  have u2:(f2 Bb (Ae 0) (fC (.str "0"))) [some (.str w),some (.str (Fm w))] L1=some (.bl (decide (w.cps.toList=[48])),L1):=by
   have h1:=Fy ha Oc L1
   rw[Kn,N2] at h1
   exact Bq rfl rfl h1
  refine ⟨L1,fn1 (n:=1) ?_,g1⟩
  unfold Lm
  refine Ay s1 (Ay (F0 c1) (Cg ?_))
  rw[h48,fOrV_eq,u1]
  cases decide (c=48) with
  | true=>simp only[aA,pM,cU,if_false,u2,kW,pE]
  | false=>simp
theorem Y9:(iF " ").toList=[32]:=by decide +kernel
theorem Aha:(iF "\n").toList=[10]:=by decide +kernel
theorem sp_eq:(" " : Str)=⟨#[32]⟩:=str_ext (by rw[Y9])
theorem Tv:("\n" : Str)=⟨#[10]⟩:=str_ext (by rw[Aha])
def line(p:Str×(Int×Int)):Str:=p.1 ++ " " ++ fig p.2.1 ++ " " ++ fig p.2.2
theorem Adz(p:Str×(Int×Int)):line p=cJ ⟨#[32]⟩ [p.1,fig p.2.1,fig p.2.2]:=by
 apply str_ext
 rw[join_cons,join_cons]
 unfold line
 rw[app_cps,app_cps,app_cps,app_cps,Y9]
 show _=p.1.cps.toList++32::((fig p.2.1).cps.toList++32::(fig p.2.2).cps.toList)
 simp
theorem Nm.free(h:Nm w)(hc:c < 97):c∉w.cps.toList:=fun q=>by
 have:=h.2.2 c q
 omega
theorem X3(p:Str×(Int×Int)):(line p).cps.toList=p.1.cps.toList++32::((fig p.2.1).cps.toList++32::(fig p.2.2).cps.toList):=by
 rw[Adz,join_cons,join_cons];rfl
variable {p:Str×(Int×Int)}
theorem Sd(h:Nm p.1)(hb:Pb p.2):(line p).length<=40:=by
 have h1:=Md (n:=p.2.1) (by have:=hb;unfold Pb at this;omega)
 have h2:=Md (n:=p.2.2) (by have:=hb;unfold Pb at this;omega)
 have h3:=h.2.1
 rw[len_cps] at h1 h2 h3
 rw[len_cps,X3]
 simp only[aY,bH]
 omega
theorem Wv(m:Nat)(L:UH):Al (.str "0123456789") (.int ((m % 10:Nat):Int)) L=some (.str ⟨#[48+m % 10]⟩,L):=by
 have hm:m % 10 < 10:=Nat.mod_lt _ (by decide)
 have hl:(iF "0123456789").toList.length=10:=by rw[fig_signs];simp
 rw[H0,if_pos (small_of (by rw[len_cps,hl];decide)),Ft (by omega) (by rw[hl];omega),cF,fig_signs,bO,jA hm]
 rfl
def stT(l:List Nat):Str:=⟨l.toArray⟩
theorem stT_cps(l:List Nat):(stT l).cps.toList=l:=by unfold stT;simp
theorem Acy(l:List Nat):(stT l).length=l.length:=by rw[len_cps,stT_cps]
theorem L9(a b:Str)(h:a.length+b.length<=1000)(L:UH):Ar (.str a) (.str b) L=some (.str (a++b),L):=by
 unfold Ar
 simp only
 rw[if_pos (small_of (by omega))]
variable {m:Nat}
theorem Ahd{m k:Nat}{t:List Nat}{L:UH}(hk:k < 30)(ht:t.length<=k+1)(x1 y3:Option U) :
  ∃ (m':Nat) (t':List Nat),Gx [some (.int (m:Int)),x1,some (.str (stT t)),y3] L=some (.nx [some (.int (m':Int)),x1,some (.str (stT t')),y3],L)/\t'.length<=k+2/\(∀ m0,dig m0=(if m < 10 then [] else dig (m / 10))++t->dig m0=(if m' < 10 then [] else dig (m' / 10))++t')/\(m'=m / 10\/(m'=m/\m < 10)):=by
 have tt:(Au (f2 Mo (Ae 0) (fC (.int 9)))) [some (.int (m:Int)),x1,some (.str (stT t)),y3] L=some (decide ((9:Int) < m),L):=by
  simp only[Ou,f2_eq,fVar_eq,fC_eq,bA,aL,aP,aC,aA,Aeh]
 unfold Gx
 rw[Mj,tt]
 by_cases h:(9:Int) < m
 ·have hm:¬ m < 10:=by omega
  refine ⟨m / 10,(48+m / 10 % 10)::t,?_,by simp;omega,fun m0 e=>?_,.inl rfl⟩
  ·have hd:K8 (m:Int) 10=true:=G5 (by decide) (by decide)
   have e1:(m:Int) / 10=((m / 10:Nat):Int):=by omega
   have e2:((m / 10:Nat):Int) % 10=((m / 10 % 10:Nat):Int):=by omega
   have s1:(A8 (f2 Fv (Ae 0) (fC (.int 10))) (gN 0)) [some (.int (m:Int)),x1,some (.str (stT t)),y3] L=some (.nx [some (.int ((m / 10:Nat):Int)),x1,some (.str (stT t)),y3],L):=by
    refine Dj ?_
    simp only[f2_eq,fVar_eq,fC_eq,aL,aP,aC,aA,Aaf]
    rw[if_pos hd,e1]
   have hcat:(⟨#[48+m / 10 % 10]⟩:Str)++stT t=stT ((48+m / 10 % 10)::t):=str_ext (by rw[app_cps,stT_cps,stT_cps];rfl)
   have hl1:eN (⟨#[48+m / 10 % 10]⟩:Str)=1:=rfl
   have c:=L9 ⟨#[48+m / 10 % 10]⟩ (stT t) (by rw[hl1,Acy];omega) L
   rw[hcat] at c
   have dm:Dc (.int ((m / 10:Nat):Int)) (.int 10) L=some (.int ((m / 10 % 10:Nat):Int),L):=by
    rw[<- e2];rfl
   have dg:=Wv (m / 10) L
   have s2:(A8 (f2 Ar (f2 Al (fC (.str "0123456789")) (f2 Dc (Ae 0) (fC (.int 10)))) (Ae 2)) (gN 2)) [some (.int ((m / 10:Nat):Int)),x1,some (.str (stT t)),y3] L=some (.nx [some (.int ((m / 10:Nat):Int)),x1,some (.str (stT ((48+m / 10 % 10)::t))),y3],L):=by
    refine Dj ?_
    rw[f2_eq,f2_eq,fC_eq,aA,f2_eq]
    simp only[fVar_eq,fC_eq,aL,bA,aP,aC,aA,dm,dg,c]
   rw[decide_eq_true h]
   simp only[aA,if_true]
   rw[Hv s1,s2]
  ·rw[e,if_neg hm]
   by_cases h2:m / 10 < 10
   ·rw[if_pos h2,Lr h2]
    have:m / 10 % 10=m / 10:=rA h2
    rw[this];rfl
   ·rw[if_neg h2,Rc h2,bY];rfl
 ·rw[decide_eq_false h]
  exact ⟨m,t,rfl,by omega,fun m0 e=>e,.inr ⟨rfl,by omega⟩⟩
theorem Tc{n:Int}(h:-9999999999<=n/\n<=9999999999)(L:UH):∃ L',Fz [.int n] L=some (.str (fig n),L')/\Gw L L':=by
 have sm2:∀ x y:U,Ew [x,y].length=true:=fun _ _=>small_of (by show 2<=16777216;decide)
 generalize hM:L++[HU.lst [.str "",.str "-"]]=M
 have gM:Gw L M:=by rw[<- hM];exact Gw.new _ _
 have hat:M[L.length]? = some (.lst [.str "",.str "-"]):=by rw[<- hM];simp
 have s1:∃ sg:Str,(A8 (f2 Al (Cv (Ad (fC (.str "")) (Ad (fC (.str "-")) Ag))) (Ba semInt (Ad (f2 Kx (Ae 0) (fC (.int 0))) Ag))) (gN 1)) [some (.int n),none,none,none] L=some (.nx [some (.int n),some (.str sg),none,none],M)/\sg.cps.toList=(if n < 0 then [45] else []):=by
  have hl:(Cv (Ad (fC (.str "")) (Ad (fC (.str "-")) Ag))) [some (.int n),none,none,none] L=some (.ref L.length,M):=by
   simp only[fLst_eq,fCons_eq,fC_eq,fNil_eq,aA,aC]
   rw[if_pos (sm2 _ _),hM]
  by_cases h0:n < 0
  ·have hix:L2.atI [U.str "",.str "-"] 1=some (.str "-"):=rfl
   refine ⟨"-",Dj ?_,by rw[if_pos h0,minus_cps]⟩
   rw[f2_eq,hl]
   simp only[aA,fCall_eq,fCons_eq,fNil_eq,f2_eq,fVar_eq,fC_eq,aL,aP,aC,semLt_int,decide_eq_true h0,semInt,if_true,semIx_ref,Am hat,hix]
  ·have hix:L2.atI [U.str "",.str "-"] 0=some (.str ""):=rfl
   refine ⟨"",Dj ?_,by rw[if_neg h0,Jw]⟩
   rw[f2_eq,hl]
   simp only[aA,fCall_eq,fCons_eq,fNil_eq,f2_eq,fVar_eq,fC_eq,aL,aP,aC,semLt_int,decide_eq_false h0,semInt,cU,if_false,semIx_ref,Am hat,hix]
 obtain ⟨sg,s1,hsg⟩:=s1
 have ha:(if n < 0 then -n else n)=((n.natAbs:Nat):Int):=by split <;> omega
 have s2:(A8 (Ba semAbs (Ad (Ae 0) Ag)) (gN 0)) [some (.int n),some (.str sg),none,none] M=some (.nx [some (.int ((n.natAbs:Nat):Int)),some (.str sg),none,none],M):=by
  refine Dj ?_
  simp only[fCall_eq,fCons_eq,fNil_eq,fVar_eq,aL,aP,aC,aA,semAbs,ha]
 have hN:n.natAbs < 10 ^ 31:=aG (show n.natAbs < 10 ^ 10 by omega) (by decide)
 generalize hm0:n.natAbs=m0 at s2 hN
 have e2:(m0:Int) % 10=((m0 % 10:Nat):Int):=by omega
 have dm:Dc (.int (m0:Int)) (.int 10) M=some (.int ((m0 % 10:Nat):Int),M):=by rw[<- e2];rfl
 have dg:=Wv m0 M
 have s3:(A8 (f2 Al (fC (.str "0123456789")) (f2 Dc (Ae 0) (fC (.int 10)))) (gN 2)) [some (.int (m0:Int)),some (.str sg),none,none] M=some (.nx [some (.int (m0:Int)),some (.str sg),some (.str (stT [48+m0 % 10])),none],M):=by
  refine Dj ?_
  rw[f2_eq,fC_eq,aA,f2_eq]
  simp only[fVar_eq,fC_eq,aL,aP,aC,aA,dm,dg]
  rfl
 have hi:Dr (Ad (fC (.int 30)) Ag) [some (.int (m0:Int)),some (.str sg),some (.str (stT [48+m0 % 10])),none] M=some (.seq (Cd 0 30),M):=Kb (n:=30) rfl (by omega)
 obtain ⟨δ',L',e,P⟩:=Qw (us:=Cd 0 30) (body:=Gx) (g:=gN 3)
  (fun k δ' L'=>L'=M/\∃ (m:Nat) (t:List Nat) (y3:Option U),δ'=[some (.int (m:Int)),some (.str sg),some (.str (stT t)),y3]/\t.length<=k+1/\dig m0=(if m < 10 then [] else dig (m / 10))++t/\m < 10 ^ (31 - k))
  hi ⟨rfl,m0,[48+m0 % 10],none,rfl,by simp,by
   by_cases q:m0 < 10
   ·rw[if_pos q,Lr q,rA q];rfl
   ·rw[if_neg q,Rc q],hN⟩
  (fun k u δ M' hu ⟨hM',m,t,y3,hδ,h1,h2,h3⟩=>by
   subst hM'
   subst hδ
   obtain ⟨hk,rfl⟩:=E7 hu
   obtain ⟨m',t',e',a1,a2,a3⟩:=Ahd (m:=m) (t:=t) (L:=M') hk h1 (some (.str sg)) (some (.int (0+(k:Int))))
   refine ⟨[some (.int (m:Int)),some (.str sg),some (.str (stT t)),some (.int (0+(k:Int)))],M',rfl,_,M',.inl e',rfl,m',t',_,rfl,a1,a2 m0 h2,?_⟩
   have hp:31 - k=(31 - (k+1))+1:=by omega
   rw[hp,sO] at h3
   rcases a3 with q | ⟨q,q2⟩
   ·rw[q];exact oU (by rw[qM];exact h3)
   ·rw[q]
    have:10 ^ 1<=10 ^ (31 - (k+1)):=oQ (by decide) (by omega)
    omega)
 obtain ⟨hM',m,t,y3,hδ,h1,h2,h3⟩:=P
 rw[Ej] at h1 h3
 have hm9:m < 10:=by simpa using h3
 rw[if_pos hm9,lJ] at h2
 rw[hM',hδ] at e
 have hcat:sg++stT t=fig n:=str_ext (by rw[app_cps,stT_cps,fig_cps,hsg,hm0,h2])
 have hsl:sg.length<=1:=by
  rw[len_cps,hsg]
  split <;> simp
 have c:=L9 sg (stT t) (by rw[Acy];omega) M
 rw[hcat] at c
 refine ⟨M,fn1 (n:=3) ?_,gM⟩
 unfold Qg
 show A9 _ _ [some (.int n),none,none,none] L=_
 rw[Hv s1,Hv s2,Hv s3,Hv e]
 refine Cg ?_
 simp only[f2_eq,fVar_eq,aL,bA,aP,aC,aA,c]
def txt(ps:List (Str×(Int×Int))):Str:=cJ ⟨#[10]⟩ (ps.map line)
theorem Sl:∀ l:List Str,mapO toS (l.map U.str)=some l
 | []=>rfl
 | a::l=>by simp only[aS,mapO,toS,Sl l,aA,aC]
theorem Aaa{β:Type}(f:β->Nat)(b:Nat):∀ l:List β,(∀ x∈l,f x<=b)->(l.map f).sum<=b * l.length
 | [],_=>by simp
 | x::l,h=>by
  have h1:=h x (aW ..)
  have h2:=Aaa f b l fun y hy=>h y (aR _ hy)
  rw[aS,sG,bH,Nat.mul_succ]
  omega
theorem An3(h:Nm p.1)(hb:Pb p.2)(L:UH):∃ z,Jc [some (.str p.1),some (.int p.2.1),some (.int p.2.2)] L=some (.str (line p),L++z):=by
 have hb':(-9999999999<=p.2.1/\p.2.1<=9999999999)/\(-9999999999<=p.2.2/\p.2.2<=9999999999):=hb
 obtain ⟨L1,e1,z1,rfl⟩:=Tc hb'.1 L
 obtain ⟨J2,e2,z2,rfl⟩:=Tc hb'.2 (L++z1)
 have f1:=Md hb'.1
 have f2':=Md hb'.2
 have h3:=h.2.1
 have hs:eN " " = 1:=by rw[len_cps,Y9];rfl
 have lapp:∀ a b:Str,(a++b).length=a.length+b.length:=fun a b=>by rw[len_cps,app_cps,aY,<- len_cps,<- len_cps]
 have c1:=L9 p.1 " " (by omega) L
 have c2:=L9 (p.1 ++ " ") (fig p.2.1) (by rw[lapp];omega) (L++z1)
 have c3:=L9 (p.1 ++ " " ++ fig p.2.1) " " (by rw[lapp,lapp];omega) (L++z1)
 have c4:=L9 (p.1 ++ " " ++ fig p.2.1 ++ " ") (fig p.2.2) (by rw[lapp,lapp,lapp];omega) (L++z1++z2)
 refine ⟨z1++z2,?_⟩
 have o1:(A0 1 Fz (Ad (Ae 1) Ag)) [some (.str p.1),some (.int p.2.1),some (.int p.2.2)] L=some (.str (fig p.2.1),L++z1):=K6 rfl e1
 have o2:(A0 1 Fz (Ad (Ae 2) Ag)) [some (.str p.1),some (.int p.2.1),some (.int p.2.2)] (L++z1)=some (.str (fig p.2.2),L++z1++z2):=K6 rfl e2
 unfold Jc
 rw[f2_eq,f2_eq,f2_eq,f2_eq]
 simp only[fVar_eq,fC_eq,aL,aP,aC,aA,c1,o1,c2,c3,o2,c4]
 rw[bY];rfl
theorem Aco{ps:List (Str×(Int×Int))}(P:Pts ps)(L:UH):∃ L',Ic [.tup (ps.map ptU)] L=some (.str (txt ps),L')/\Gw L L':=by
 obtain ⟨x,e⟩:=E9 (ix:=[none,none,none]) (fi:=Cu (Ae 0)) (it:=.seq (ps.map ptU)) (g:=(MR.gTup 3 (MR.gCons (gN 0) (MR.gCons (gN 1) (MR.gCons (gN 2) MR.gNil))))) (tt:=none) (fe:=Jc) (δ:=[some (.tup (ps.map ptU))]) (L:=L) (L0:=L)
  ps ptU (fun _=>true) (fun p=>.str (line p)) (fun δ=>∃ a b c,δ = [a,b,c]) (by simp[Tw]) (by simp[IU.size]) (by have:=P.len;omega) ⟨none,none,none,rfl⟩
  (fun k x=>rfl)
  (fun p δ x hp ⟨a,b,c,hδ⟩=>by
   subst hδ
   obtain ⟨z,ez⟩:=An3 (P.nm p hp) (P.pb p hp) (L++x)
   refine ⟨[some (.str p.1),some (.int p.2.1),some (.int p.2.2)],rfl,⟨_,_,_,rfl⟩,[],by simp[testU],fun _=>⟨z,?_⟩⟩
   rw[cR];exact ez)
 have hff:iU (fun _=>true) ps=ps:=eY.mpr (fun _ _=>rfl)
 have hmm:ps.map (fun p=>U.str (line p))=(ps.map line).map U.str:=by simp
 rw[hff,hmm] at e
 have hat:(L++x++[HU.lst ((ps.map line).map U.str)])[(L++x).length]? = some (.lst ((ps.map line).map U.str)):=by simp
 have hnl:eN "\n" = 1:=by rw[len_cps,Aha];rfl
 have hsum:(((ps.map line).map (·.length)).sum)<=40 * ps.length:=by
  rw[kE]
  exact Aaa _ 40 ps fun p hp=>Sd (P.nm p hp) (P.pb p hp)
 have hlen:=P.len
 have hj:semJoin (.str "\n") [.ref (L++x).length] (L++x++[HU.lst ((ps.map line).map U.str)])=some (.str (txt ps),L++x++[HU.lst ((ps.map line).map U.str)]):=by
  unfold semJoin
  simp only[Ep hat,aA,Sl]
  rw[if_pos ⟨by omega,by rw[aM];omega⟩]
  have:rW "\n" (ps.map line)=txt ps:=by
   show dZ "\n" (ps.map line)=_
   rw[iK,Tv];rfl
  rw[this]
 have ty:∀ L,tyU "str" (.str "\n") L=true:=fun _=>rfl
 refine ⟨L++x++[HU.lst ((ps.map line).map U.str)],fn1 (n:=0) ?_,⟨x++[HU.lst ((ps.map line).map U.str)],by rw[bY]⟩⟩
 unfold Xo
 show Ce _ [some (.tup (ps.map ptU))] L=_
 refine Cg ?_
 rw[fMeth_eq,fC_eq,aA]
 simp only[ty,if_true]
 rw[fCons_eq,e]
 simp only[aA,fNil_eq,aC,hj]
theorem Yj(c:Nat):∀ (l:List Str) (x:Nat),x∈(cJ ⟨#[c]⟩ l).cps.toList->x=c\/∃ p∈l,x∈p.cps.toList
 | [],x,h=>by
  have:(cJ ⟨#[c]⟩ []).cps.toList=[]:=rfl
  rw[this] at h;simp at h
 | [a],x,h=>.inr ⟨a,aW ..,h⟩
 | a::b::r,x,h=>by
  rw[join_cons] at h
  rcases bM.mp h with q | q
  ·exact .inr ⟨a,aW ..,q⟩
  ·rcases aV.mp q with q | q
   ·exact .inl q
   ·rcases Yj c (b::r) x q with e | ⟨p,hp,hx⟩
    ·exact .inl e
    ·exact .inr ⟨p,aR _ hp,hx⟩
theorem Yi(h:Nm p.1)(hc:c∈(line p).cps.toList):c < 128/\c≠10:=by
 rw[X3] at hc
 have hf:∀ n:Int,c∈(fig n).cps.toList->c < 128/\c≠10:=fun n q=>by
  refine ⟨?_,fun z=>Ahe (n:=n) (c:=10) (by decide) (z ▸ q)⟩
  have:=Akq n
  unfold asc at this
  rw[<- kQ,bW] at this
  exact of_decide_eq_true (this c q)
 rcases bM.mp hc with q | q
 ·have:=h.2.2 c q
  omega
 ·rcases aV.mp q with q | q
  ·omega
  ·rcases bM.mp q with q | q
   ·exact hf _ q
   ·rcases aV.mp q with q | q
    ·omega
    ·exact hf _ q
theorem Acd{ps:List (Str×(Int×Int))}(h:∀ p∈ps,Nm p.1):asc (txt ps):=Gf fun c hc=>by
 rcases Yj 10 _ c hc with q | ⟨l,hl,q⟩
 ·omega
 ·obtain ⟨p,hp,rfl⟩:=dI.mp hl
  exact (Yi (h p hp) q).1
theorem Ve{ps:List (Str×(Int×Int))}(P:Pts ps):(txt ps).length<=3000:=by
 have h:=nW ⟨#[10]⟩ (ps.map line)
 have hsum:(((ps.map line).map (·.length)).sum)<=40 * ps.length:=by
  rw[kE]
  exact Aaa _ 40 ps fun p hp=>Sd (P.nm p hp) (P.pb p hp)
 have h1:eN (⟨#[10]⟩:Str)=1:=rfl
 have hlen:=P.len
 rw[h1,aM] at h
 unfold txt
 omega
theorem Ahv(b len:Nat):cH none (some (b:Int)) 1 len=cH (some ((0:Nat):Int)) (some ((min b len:Nat):Int)) 1 len:=by
 unfold cH
 have h2:¬ ((b:Int) < 0):=by omega
 have h3:¬ (((min b len:Nat):Int) < 0):=by omega
 have e0:max (0:Int) (min ((0:Nat):Int) (len:Int))=0:=by omega
 have e2:max (0:Int) (min (b:Int) (len:Int))=max (0:Int) (min ((min b len:Nat):Int) (len:Int)):=by omega
 have h0:¬ (((0:Nat):Int) < 0):=by omega
 simp only[h2,h3,h0,if_false,e0,e2,show ((1:Int) > 0)=True from by simp,if_true]
theorem R7(x:Str)(b:Nat):(dF x none (some (b:Int))).cps.toList=x.cps.toList.take b:=by
 have e:=Ahv b x.length
 have p:=gY (a:=0) (b:=min b x.length) (len:=x.length) (eO _) (nL _ _)
 have q:=oV x (a:=0) (b:=min b x.length) (eO _) (nL _ _)
 have hl:(cH (some ((0:Nat):Int)) (some ((min b x.length:Nat):Int)) 1 x.length).length=min b x.length:=by rw[p];simp
 have hx:x.length=x.cps.toList.length:=len_cps x
 unfold dF
 rw[e]
 by_cases h:((1:Int) == 1&&(cH (some ((0:Nat):Int)) (some ((min b x.length:Nat):Int)) 1 x.length).length == x.length)=true
 ·rw[if_pos h]
  rw[hl] at h
  have:min b x.length=x.length:=by simpa using h
  rw[cZ (by omega)]
 ·rw[if_neg h,q]
  simp only[oS,sN]
  rw[hx,<- List.take_take,cZ (l:=x.cps.toList) (by omega)]
variable {fv:FE}
theorem Qt{lo hi:FO}{l h:Option Int}(hv:fv δ L=some (.str a,L))(hlo:lo δ L=some (l,L))(hhi:hi δ L=some (h,L))(ha:a.length<=100000):fSl Dv fv lo hi δ L=some (.str (dF a l h),L):=by
 simp only[Aho,hv,hlo,hhi,aA,Dv]
 rw[if_pos (small_of (by omega))]
theorem Yv(x:Str):dF x (some 0) none=x:=by
 have e:=Wq 0 x.length
 have p:=gY (a:=0) (b:=x.length) (len:=x.length) (eO _) (aJ _)
 have i1:((0:Nat):Int)=0:=rfl
 rw[i1] at e p
 unfold dF
 rw[e,p]
 simp
theorem Vp(ha:asc w)(hl:w.length<=100000)(L:UH):∃ L',Jp [.str w] L=some (.bl (nmB w),L')/\Gw L L':=by
 have hlc:=len_cps w
 have hi:J7 (Ae 0) [some (.str w),none] L=some (.seq (w.cps.toList.map fun c=>.str ⟨#[c]⟩),L):=by
  unfold J7
  simp only[fVar_eq,aL,aP,aC,aA]
  rw[if_pos (show (w.cps.all (· < 128))=true from ha)];rfl
 obtain ⟨x,e⟩:=E9 (ix:=[none]) (fi:=J7 (Ae 0)) (it:=.seq (w.cps.toList.map fun c=>U.str ⟨#[c]⟩)) (g:=gN 0) (tt:=some F5) (fe:=Im) (δ:=[some (.str w),none]) (L:=L) (L0:=L)
  w.cps.toList (fun c=>U.str ⟨#[c]⟩) (fun c=>decide (97<=c/\c<=122)) (fun c=>.str ⟨#[c]⟩) (fun δ=>∃ a,δ = [a]) hi (by simp[IU.size]) (by omega) ⟨none,rfl⟩
  (fun k x=>rfl)
  (fun c δ x _ zz=>by
   obtain ⟨y,hδ⟩:=zz
   subst hδ
   refine ⟨[some (.str ⟨#[c]⟩)],rfl,⟨_,rfl⟩,[],?_,fun _=>⟨[],by simp[Im]⟩⟩
   have hfo:=nB ("abcdefghijklmnopqrstuvwxyz" : Str) c
   have h1:F5 [some (.str ⟨#[c]⟩)] (L++x)=some (!(aZ ("abcdefghijklmnopqrstuvwxyz" : Str) ⟨#[c]⟩ 0 ("abcdefghijklmnopqrstuvwxyz" : Str).length 1).isEmpty,L++x):=rfl
   show F5 [some (.str ⟨#[c]⟩)] (L++x)=_
   rw[h1,hfo,<- Agt c];simp)
 have q1:(L++x++[HU.lst ((w.cps.toList.filter fun c=>decide (97<=c/\c<=122)).map fun c=>.str ⟨#[c]⟩)])[(L++x).length]? = some (.lst ((w.cps.toList.filter fun c=>decide (97<=c/\c<=122)).map fun c=>U.str ⟨#[c]⟩)):=by simp
 generalize hM:L++x++[HU.lst ((w.cps.toList.filter fun c=>decide (97<=c/\c<=122)).map fun c=>.str ⟨#[c]⟩)]=M at e q1
 have g:Gw L M:=⟨x++[HU.lst ((w.cps.toList.filter fun c=>decide (97<=c/\c<=122)).map fun c=>.str ⟨#[c]⟩)],by rw[<- hM,bY]⟩
 refine ⟨M,fn1 (n:=1) ?_,g⟩
 unfold Qk
 refine Ay (Dj (i:=1) (δ:=[some (.str w),none]) e) (Cg ?_)
 have l0:(Ba Bc (Ad (Ae 0) Ag)) [some (.str w),some (.ref (L++x).length)] M=some (.int w.length,M):=Fx rfl (O7 hl M)
 have l1:(Ba Bc (Ad (Ae 1) Ag)) [some (.str w),some (.ref (L++x).length)] M=some (.int (w.cps.toList.filter fun c=>decide (97<=c/\c<=122)).length,M):=by
  have:=Gd q1
  rw[aM] at this
  exact Fx rfl this
 have c1:(Km Kx Kx (fC (.int 0)) (Ba Bc (Ad (Ae 0) Ag)) (fC (.int 9))) [some (.str w),some (.ref (L++x).length)] M=some (.bl (decide (1<=w.length)&&decide (w.length<=8)),M):=by
  have h1:decide ((0:Int) < (w.length:Int))=decide (1<=w.length):=by rw[cX,decide_eq_true_eq,decide_eq_true_eq];omega
  have h2:decide ((w.length:Int) < (9:Int))=decide (w.length<=8):=by rw[cX,decide_eq_true_eq,decide_eq_true_eq];omega
  rw[<- h1,<- h2]
  unfold Km
  simp only[fC_eq,l0,aA,semLt_int]
  cases decide ((0:Int) < (w.length:Int)) <;> rfl
 have hf:((w.cps.toList.filter fun c=>decide (97<=c/\c<=122)).length == w.cps.toList.length)=w.cps.toList.all fun c=>decide (97<=c/\c<=122):=by
  rw[cX,beq_iff_eq]
  exact List.length_filter_eq_length_iff.trans bW.symm
 show Iw _ _ [some (.str w),some (.ref (L++x).length)] M=_
 rw[Iy,c1]
 unfold nmB
 cases decide (1<=w.length)&&decide (w.length<=8) with
 | false=>rfl
 | true=>
  simp only[aA,if_true,kW]
  refine Bq l1 l0 ?_
  rw[semEq_int,<- hf,<- hlc]
  have:(((w.cps.toList.filter fun c=>decide (97<=c/\c<=122)).length:Int) == (w.length:Int))=((w.cps.toList.filter fun c=>decide (97<=c/\c<=122)).length == w.length):=by
   rw[cX,beq_iff_eq,beq_iff_eq];omega
  rw[this]
theorem Aet:asc "-" := by unfold asc;decide +kernel
def Cr(w:Str):Int:=(if w.cps.toList.take 1=[45] then -1 else 1) * ((bZ (Cj w):Nat):Int)
inductive NumR(w:Str)(L:UH)(r:Option (U×UH)):Prop
 | mk (n:Nat) (L':UH) (e:r=some (.ref n,L')) (g:Gw L L') (hn:L.length<=n) (hl:L'[n]? = some (.lst (if Er w=true then [.int (Cr w)] else [])))
theorem Aib:∀ k < 10,qP "0123456789" ⟨#[48+k]⟩=(k:Int):=by decide +kernel
theorem Agk(h:48<=c/\c<=57):qP "0123456789" ⟨#[c]⟩=((c - 48:Nat):Int):=by
 have:=Aib (c - 48) (by omega)
 rwa [show 48+(c - 48)=c by omega] at this
theorem Abu(c:Nat)(L:UH):Jj true (.str ⟨#[c]⟩) (.str "0123456789") L=some (.bl (!decide (48<=c/\c<=57)),L):=by
 have hfo:=nB ("0123456789" : Str) c
 show some (U.bl (!(!(aZ ("0123456789" : Str) ⟨#[c]⟩ 0 ("0123456789" : Str).length 1).isEmpty)),L)=_
 rw[hfo,<- Aie c]
theorem Arj(i:Int)(L:UH):Dh (.int 10) (.int i) L=some (.int (10 * i),L):=by
 rw[Sb,if_pos (by rfl)]
theorem Au9{s i:Int}(h:s=1\/s = -1)(L:UH):Dh (.int s) (.int i) L=some (.int (s * i),L):=by
 rw[Sb,if_pos]
 rcases h with rfl | rfl <;> rfl
theorem Afk{c k:Nat}{w f:Str}{s:U}{L:UH}(hc:48<=c/\c<=57) :
  C5 [some (.str w),some (.int k),some s,some (.str f),some (.str ⟨#[c]⟩)] L=some (.nx [some (.str w),some (.int ((k * 10+(c - 48):Nat):Int)),some s,some (.str f),some (.str ⟨#[c]⟩)],L):=by
 have t1:(Au (f2 (Jj true) (Ae 4) (fC (.str "0123456789")))) [some (.str w),some (.int k),some s,some (.str f),some (.str ⟨#[c]⟩)] L=some (false,L):=Dz (Bq rfl rfl (by rw[Abu,decide_eq_true hc];rfl))
 unfold C5
 refine Ay (F0 t1) ?_
 have m1:(Bt "str" Qx (fC (.str "0123456789")) (Ad (Ae 4) Ag)) [some (.str w),some (.int k),some s,some (.str f),some (.str ⟨#[c]⟩)] L=some (.int ((c - 48:Nat):Int),L):=by
  rw[<- Agk hc];rfl
 refine Dj (i:=1) (δ:=[some (.str w),some (.int k),some s,some (.str f),some (.str ⟨#[c]⟩)]) (Bq (Bq rfl rfl (Arj _ _)) m1 ?_)
 rw[Ih]
 have:(10 * (k:Int)+((c - 48:Nat):Int))=((k * 10+(c - 48):Nat):Int):=by omega
 rw[this]
theorem Afg{c:Nat}{w f:Str}{k:Int}{s:U}{L:UH}(hc:¬ (48<=c/\c<=57)) :
  C5 [some (.str w),some (.int k),some s,some (.str f),some (.str ⟨#[c]⟩)] L=some (.rt (.ref L.length),L++[.lst []]):=by
 have t1:(Au (f2 (Jj true) (Ae 4) (fC (.str "0123456789")))) [some (.str w),some (.int k),some s,some (.str f),some (.str ⟨#[c]⟩)] L=some (true,L):=Dz (Bq rfl rfl (by rw[Abu,decide_eq_false hc];rfl))
 unfold C5
 exact Et ((C8 t1).trans (Cg rfl))
theorem Lj(ha:asc w)(hl:w.length<=100000)(L:UH):NumR w L (C9 [.str w] L):=by
 have haA:asc (Fm w):=Gf fun c hc=>by rw[numS_cps] at hc;exact E5 ha c (Yq w c hc)
 have hlA:=bJ (Yg w) hl
 have hsg:decide (dF w none (some 1) = "-")=decide (w.cps.toList.take 1=[45]):=by
  rw[Kn,minus_cps,show (some (1:Int))=some ((1:Nat):Int) from rfl,R7]
 have hal:asc (dF w none (some 1)):=Gf fun c hc=>by
  rw[show (some (1:Int))=some ((1:Nat):Int) from rfl,R7] at hc
  exact E5 ha c (fJ hc)
 obtain ⟨sg,hs1,hs2⟩:∃ sg:Int,sg=(if w.cps.toList.take 1=[45] then -1 else 1)/\(sg=1\/sg = -1):=⟨_,rfl,by split <;> simp⟩
 generalize hM:L++[HU.lst [U.int 1,U.int (-1)]]=M
 have gM:Gw L M:=⟨_,hM.symm⟩
 have lM:L.length<=M.length:=gM.le
 have e2:(f2 Al (Cv (Ad (fC (.int 1)) (Ad (Afr (fC (.int 1))) Ag))) (Ba semInt (Ad (f2 Bb (fSl Dv (Ae 0) C4 (Ff (fC (.int 1)))) (fC (.str "-"))) Ag))) [some (.str w),some (.int 0),none,none,none] L=some (.int sg,M):=by
  have i1:(Cv (Ad (fC (.int 1)) (Ad (Afr (fC (.int 1))) Ag))) [some (.str w),some (.int 0),none,none,none] L=some (.ref L.length,M):=by rw[<- hM];rfl
  have i2:(Ba semInt (Ad (f2 Bb (fSl Dv (Ae 0) C4 (Ff (fC (.int 1)))) (fC (.str "-"))) Ag)) [some (.str w),some (.int 0),none,none,none] M=some (.int (if decide (w.cps.toList.take 1=[45])=true then 1 else 0),M):=by
   have h1:=Fy hal Aet M
   rw[hsg] at h1
   exact Fx (Bq (Qt rfl rfl rfl hl) rfl h1) (by cases decide (w.cps.toList.take 1=[45]) <;> rfl)
  refine Bq i1 i2 ?_
  rw[semIx_ref,Am (us:=[U.int 1,U.int (-1)]) (by rw[<- hM];simp),hs1]
  by_cases h:w.cps.toList.take 1=[45]
  ·rw[if_pos h,decide_eq_true h];rfl
  ·rw[if_neg h,decide_eq_false h];rfl
 have e3:(fSl Dv (Ae 0) (Ff (Ba semInt (Ad (f2 Kx (Ae 2) (fC (.int 0))) Ag))) C4) [some (.str w),some (.int 0),some (.int sg),none,none] M=some (.str (Fm w),M):=by
  by_cases h:w.cps.toList.take 1=[45]
  ·rw[if_pos h] at hs1
   subst hs1
   have h1:1<=w.length:=by
    rw[len_cps]
    cases hw:w.cps.toList with
    | nil=>rw[hw] at h;cases h
    | cons c r=>simp
   have hs:dF w (some 1) none=Fm w:=by
    apply str_ext
    rw[Uc h1,numS_cps]
    unfold Cj
    rw[if_pos h]
   rw[<- hs]
   exact Qt rfl rfl rfl hl
  ·rw[if_neg h] at hs1
   subst hs1
   have hs:dF w (some 0) none=Fm w:=by
    rw[Yv]
    exact str_ext (by rw[numS_cps];unfold Cj;rw[if_neg h])
   rw[<- hs]
   exact Qt rfl rfl rfl hl
 have start:∀ r,(A9 (Ik (J7 (Ae 3)) (gN 4) C5) (A9 (B7 (fOr (Au (f2 Bb (Ae 3) (fC (.str "")))) (N4 (Au (f2 Bb (f2 Al (Ae 3) (fC (.int 0))) (fC (.str "0")))) (Au (f2 Dy (Ae 0) (fC (.str "0")))))) (Ce (Cv Ag)) B0) (Ce (Cv (Ad (f2 Dh (Ae 2) (Ae 1)) Ag))))) [some (.str w),some (.int 0),some (.int sg),some (.str (Fm w)),none] M=some (.rt r.1,r.2)->C9 [.str w] L=some r:=fun r h=>by
  refine fn1 (n:=4) ?_
  unfold My
  exact Ay (Dj (i:=1) (δ:=[some (.str w),none,none,none,none]) rfl) (Ay (Dj (i:=2) (δ:=[some (.str w),some (.int 0),none,none,none]) e2) (Ay (Dj (i:=3) (δ:=[some (.str w),some (.int 0),some (.int sg),none,none]) e3) h))
 have hi:J7 (Ae 3) [some (.str w),some (.int 0),some (.int sg),some (.str (Fm w)),none] M=some (.seq ((Cj w).map fun c=>.str ⟨#[c]⟩),M):=by
  unfold J7
  simp only[fVar_eq,aL,bA,aP,aC,aA]
  rw[if_pos (show ((Fm w).cps.all (· < 128))=true from haA)]
  unfold Aaq
  rw[numS_cps]
 have gN1:Gw L (M++[HU.lst []]):=gM.trans (Gw.new _ _)
 have nil_at:(M++[HU.lst []])[M.length]? = some (.lst []):=by simp
 rcases Af4 (us:=(Cj w).map fun c=>U.str ⟨#[c]⟩) (g:=gN 4) (body:=C5) (fun k δ L1=>L1=M/\∃ x,δ = [some (.str w),some (.int ((bZ ((Cj w).take k):Nat):Int)),some (.int sg),some (.str (Fm w)),x]) (fun _ L1=>L1=M++[HU.lst []])
   (fun k=>match (Cj w)[k]? with | some c=>!decide (48<=c/\c<=57) | none=>false) (fun _=>.ref M.length) hi ⟨rfl,none,rfl⟩
   (fun k u δ L1 hu zz=>by
    obtain ⟨rfl,x,rfl⟩:=zz
    rw[bO] at hu
    obtain ⟨c,hk,rfl⟩:=mpd hu
    refine ⟨_,_,rfl,fun hst=>?_,fun hst=>?_⟩
    ·simp only[hk] at hst
     exact ⟨_,Afg (w:=w) (f:=Fm w) (k:=((bZ ((Cj w).take k):Nat):Int)) (s:=.int sg) (fun h=>by rw[decide_eq_true h] at hst;cases hst),rfl⟩
    ·simp only[hk] at hst
     have hc:48<=c/\c<=57:=of_decide_eq_true (by cases q:decide (48<=c/\c<=57) with | true=>rfl | false=>rw[q] at hst;cases hst)
     refine ⟨_,_,Afk (c:=c) (k:=bZ ((Cj w).take k)) (w:=w) (f:=Fm w) (s:=.int sg) hc,rfl,some (.str ⟨#[c]⟩),?_⟩
     rw[iO,hk]
     show _=[_,some (U.int ((bZ ((Cj w).take k++[c]):Nat):Int)),_,_,_]
     rw[kD]) with ⟨j,hj,hst,_,L1,e,rfl⟩ | ⟨hall,δ',L1,e,hL1,x,rfl⟩
 ·-- a sign that is no figure
  rw[aM] at hj
  have hB:Er w=false:=by
   unfold Er
   have:((Cj w).all fun c=>decide (48<=c/\c<=57))=false:=by
    rw[List.all_eq_false]
    refine ⟨(Cj w)[j],bN hj,fun h=>?_⟩
    simp only[aQ hj] at hst
    rw[h] at hst;cases hst
   rw[this];simp
  refine ⟨M.length,M++[HU.lst []],start (.ref M.length,M++[HU.lst []]) (Et e),gN1,lM,?_⟩
  rw[hB];exact nil_at
 ·rw[hL1] at e
  rw[aM] at hall e
  rw[cZ (by simp)] at e
  have hA:((Cj w).all fun c=>decide (48<=c/\c<=57))=true:=bW.mpr fun c hc=>by
   obtain ⟨j,hj,rfl⟩:=List.mem_iff_getElem.mp hc
   have:=hall j hj
   simp only[aQ hj] at this
   cases q:decide (48<=(Cj w)[j]/\(Cj w)[j]<=57) with
   | true=>rfl
   | false=>rw[q] at this;cases this
  generalize hd:((bZ (Cj w):Nat):Int)=dv at e
  have hV:Cr w=sg * dv:=by unfold Cr;rw[<- hs1,hd]
  have t1:(Au (f2 Bb (Ae 3) (fC (.str "")))) [some (.str w),some (.int dv),some (.int sg),some (.str (Fm w)),x] M=some ((Cj w).isEmpty,M):=by
   have h1:=Fy haA Mi M
   rw[Kn,numS_cps,Jw] at h1
   have h2:decide (Cj w=[])=(Cj w).isEmpty:=by cases Cj w <;> simp
   rw[h2] at h1
   exact Dz (Bq rfl rfl h1)
  have stop:∀ {L2:UH},L2=M->(fOr (Au (f2 Bb (Ae 3) (fC (.str "")))) (N4 (Au (f2 Bb (f2 Al (Ae 3) (fC (.int 0))) (fC (.str "0")))) (Au (f2 Dy (Ae 0) (fC (.str "0")))))) [some (.str w),some (.int dv),some (.int sg),some (.str (Fm w)),x] M=some (!Er w,M):=fun _=>by
   rw[Hi,t1]
   unfold Er
   rw[hA]
   cases ec:Cj w with
   | nil=>rfl
   | cons c r=>
    have hc128:c < 128:=E5 haA c (by rw[numS_cps,ec];exact aW ..)
    have hix:Al (.str (Fm w)) (.int 0) M=some (.str ⟨#[c]⟩,M):=by
     rw[H0,if_pos (small_of (by omega)),numS_cps,ec,Ft (by omega) (by simp)]
     rfl
    have u1:(Au (f2 Bb (f2 Al (Ae 3) (fC (.int 0))) (fC (.str "0")))) [some (.str w),some (.int dv),some (.int sg),some (.str (Fm w)),x] M=some (decide (c=48),M):=by
     have h1:=Fy (Q8 hc128) Oc M
     rw[Kn,N2] at h1
     have h2:decide ((iF ⟨#[c]⟩).toList=[48])=decide (c=48):=by simp
     rw[h2] at h1
     exact Dz (Bq (Bq rfl rfl hix) rfl h1)
    have u2:(Au (f2 Dy (Ae 0) (fC (.str "0")))) [some (.str w),some (.int dv),some (.int sg),some (.str (Fm w)),x] M=some (!decide (w.cps.toList=[48]),M):=by
     have h1:=T5 ha Oc M
     rw[Kn,N2] at h1
     exact Dz (Bq rfl rfl h1)
    have h48:decide ((c::r).take 1=[48])=decide (c=48):=by simp
    rw[h48]
    simp only[aA,List.isEmpty_cons,cU,if_false,fAnd_eq,u1]
    cases decide (c=48) with
    | false=>rfl
    | true=>simp only[if_true,u2];cases decide (w.cps.toList=[48]) <;> rfl
  cases hB:Er w with
  | false=>
   have c1:=stop (L2:=M) rfl
   rw[hB] at c1
   refine ⟨M.length,M++[HU.lst []],start (.ref M.length,M++[HU.lst []]) (Ay e (Et ((C8 c1).trans (Cg rfl)))),gN1,lM,?_⟩
   rw[hB];exact nil_at
  | true=>
   have c1:=stop (L2:=M) rfl
   rw[hB] at c1
   refine ⟨M.length,M++[HU.lst [U.int (sg * dv)]],start (.ref M.length,M++[HU.lst [U.int (sg * dv)]]) (Ay e (Ay (F0 c1) (Cg ?_))),gM.trans (Gw.new _ _),lM,?_⟩
   ·have hm:(f2 Dh (Ae 2) (Ae 1)) [some (.str w),some (.int dv),some (.int sg),some (.str (Fm w)),x] M=some (.int (sg * dv),M):=Bq rfl rfl (Au9 hs2 _)
    rw[fLst_eq,fCons_eq,hm];rfl
   ·rw[hB,hV];simp
theorem Anx:∀ (n:Nat) (l:List Nat),l.length<=n->(∀ c∈l,48<=c/\c<=57)->l≠[]->(l.take 1≠[48]\/l=[48])->dig (bZ l)=l:=by
 intro n
 induction n with
 | zero=>intro l hl _ h;exact absurd (List.length_eq_zero_iff.mp (Nat.le_zero.mp hl)) h
 | succ n ih=>
  intro l hl hd hne h0
  rcases List.eq_nil_or_concat l with rfl | ⟨ds,c,rfl⟩
  ·exact absurd rfl hne
  rw[List.concat_eq_append] at *
  have hc:=hd c (by simp)
  rw[kD]
  cases hds:ds with
  | nil=>
   have:bZ ([]:List Nat)=0:=rfl
   rw[this,Lr (by omega)]
   show [48+(0 * 10+(c - 48))]=[c]
   congr 1;omega
  | cons a r=>
   have ha:a≠48:=by
    rcases h0 with h | h
    ·intro q;apply h;rw[hds,q];rfl
    ·rw[hds] at h;cases r <;> simp at h
   have e:=ih ds (by rw[aY] at hl;simp at hl;omega) (fun x hx=>hd x (by simp[hx])) (by rw[hds];simp) (.inl (by rw[hds];simp[ha]))
   rw[hds] at e
   have hv:bZ (a::r)≠0:=fun q=>by
    rw[q,Lr (by omega)] at e
    exact ha (List.cons.inj e).1.symm
   rw[Rc (by omega)]
   have q1:(bZ (a::r) * 10+(c - 48)) / 10=bZ (a::r):=by omega
   have q2:48+(bZ (a::r) * 10+(c - 48)) % 10=c:=by omega
   rw[q1,q2,e]
theorem Adc(h:Er w=true):(∀ c∈Cj w,48<=c/\c<=57)/\Cj w≠[]/\((Cj w).take 1≠[48]\/w.cps.toList=[48]):=by
 unfold Er at h
 rw[bG,bG,jL] at h
 obtain ⟨⟨h1,h2⟩,h3⟩:=h
 refine ⟨fun c hc=>of_decide_eq_true (bW.mp h2 c hc),(fun q=>by rw[q] at h1;cases h1),?_⟩
 rcases h3 with h3 | h3
 ·exact .inl fun q=>by rw[decide_eq_true q] at h3;cases h3
 ·exact .inr (of_decide_eq_true h3)
theorem Ant(h:Er w=true):w=fig (Cr w):=by
 obtain ⟨h1,h2,h3⟩:=Adc h
 have h4:(Cj w).take 1≠[48]\/Cj w=[48]:=by
  rcases h3 with z | z
  ·exact .inl z
  ·refine .inr ?_
   unfold Cj
   rw[z];rfl
 have e:=Anx _ (Cj w) (aJ _) h1 h2 h4
 apply str_ext
 rw[fig_cps]
 unfold Cr
 by_cases hn:w.cps.toList.take 1=[45]
 ·have hL:Cj w=w.cps.toList.drop 1:=by unfold Cj;rw[if_pos hn]
  have hz:bZ (Cj w)≠0:=fun q=>by
   rw[q,Lr (by omega)] at e
   rcases h3 with z | z
   ·rw[<- e] at z;exact z rfl
   ·rw[z] at hn;cases hn
  rw[if_pos hn,if_pos (by omega)]
  have:(-1 * ((bZ (Cj w):Nat):Int)).natAbs=bZ (Cj w):=by omega
  rw[this,e,hL]
  have:=oF 1 w.cps.toList
  rw[hn] at this
  exact this.symm
 ·have hL:Cj w=w.cps.toList:=by unfold Cj;rw[if_neg hn]
  rw[if_neg hn,if_neg (by omega)]
  have:(1 * ((bZ (Cj w):Nat):Int)).natAbs=bZ (Cj w):=by omega
  rw[this,e,hL];rfl
def Few(ws:List Str):Prop:=∀ w∈ws,Er w=true->-9999999999<=Cr w/\Cr w<=9999999999
abbrev NP:=Str×(Int×Int)
def Ct(l:Str):List Str:=bQ l " "
def Dg(l:Str):Option NP:=match Ct l with
 | [a,b,c]=>if (nmB a&&(Er b&&Er c))=true then some (a,(Cr b,Cr c)) else none
 | _=>none
def ptO:Option NP->U
 | some p=>ptU p
 | none=>.non
theorem Fj{y:Str}(h:asc x):∀ w∈bQ x y,asc w:=fun w hw=>Gf fun c hc=>by
 have hj:∀ (l:List Str) (z:Str),z∈l->∀ d∈z.cps.toList,d∈(cJ y l).cps.toList:=by
  intro l
  induction l with
  | nil=>intro z hz;cases hz
  | cons a r ih=>
   intro z hz d hd
   cases r with
   | nil=>
    rw[dH] at hz
    subst hz
    exact hd
   | cons b r=>
    show d∈(a++y++cJ y (b::r)).cps.toList
    rw[app_cps,app_cps]
    rcases aV.mp hz with rfl | hz
    ·simp[hd]
    ·exact aU _ (ih z hz d hd)
 have:=hj _ w hw c hc
 rw[fE] at this
 exact E5 h c this
theorem G6{y:Str}:∀ w∈bQ x y,w.length<=x.length:=fun w hw=>by
 have hj:∀ (l:List Str) (z:Str),z∈l->z.length<=(cJ y l).length:=by
  intro l
  induction l with
  | nil=>intro z hz;cases hz
  | cons a r ih=>
   intro z hz
   cases r with
   | nil=>
    rw[dH] at hz
    subst hz
    exact aJ _
   | cons b r=>
    have e:(cJ y (a::b::r)).length=a.length+y.length+(cJ y (b::r)).length:=by
     show (a++y++cJ y (b::r)).length=_
     rw[len_cps,app_cps,app_cps,aY,aY,<- len_cps,<- len_cps,<- len_cps]
    rcases aV.mp hz with rfl | hz
    ·omega
    ·have:=ih z hz;omega
 have:=hj _ w hw
 rwa [fE] at this
theorem Kl{fs:FE}(hv:fv δ L=some (.str a,L))(hs:fs δ L=some (.str b,L))(hb:(b.length == 0)=false)(ha:a.length<=1000000):(Bt "str" B2 fv (Ad fs Ag)) δ L=some (.ref L.length,L++[.lst ((bQ a b).map U.str)]):=by
 have ty:tyU "str" (.str a) L=true:=rfl
 rw[fMeth_eq,hv]
 simp only[aA,ty,if_true,fCons_eq,hs,fNil_eq,aC,B2]
 rw[if_pos ⟨hb,ha⟩]
theorem Aby:(eN " " == 0)=false:=by decide +kernel
theorem nl_ne:(eN "\n" == 0)=false:=by decide +kernel
theorem Ob{c d:FT}{L2:UH}(h:c δ L=some (false,L1))(h2:d δ L1=some (true,L2)):fOr c d δ L=some (true,L2):=by
 rw[Hi,h]
 exact h2
theorem J6(ws:List Str)(k:Nat)(h:ws[k]? = some w):(ws.map U.str)[k]? = some (.str w):=by rw[bO,h];rfl
variable {ws:List Str}{N:UH}
theorem ix_str{ws:List Str}{N:UH}{n k:Nat}{w:Str}{fv:FE}{δ:UE}(hv:fv δ N=some (.ref n,N))(hn:N[n]? = some (.lst (ws.map U.str)))(hk:ws[k]? = some w):(f2 Al fv (fC (.int (k:Int)))) δ N=some (.str w,N):=by
 have hix:L2.atI (ws.map U.str) (k:Int)=some (.str w):=by
  rw[Ft (by omega) (by have:=(aD.mp (J6 ws k hk)).1;omega),cF];exact J6 ws k hk
 refine Bq hv rfl ?_
 rw[semIx_ref,Am hn,aA,hix];rfl
theorem Atg(hv:fv δ N=some (.ref n,N))(hn:N[n]? = some (.lst (ws.map U.str))):(Au (f2 Dy (Ba Bc (Ad fv Ag)) (fC (.int 3)))) δ N=some (!decide (ws.length=3),N):=by
 have hl:=Gd hn
 rw[aM] at hl
 refine Dz (Bq (Fx hv hl) rfl ?_)
 rw[U4]
 have:((ws.length:Int) == 3)=decide (ws.length=3):=by rw[cX,beq_iff_eq,decide_eq_true_eq];omega
 rw[this]
variable {l:Str}
theorem Ad7(ha:asc l)(hl:l.length<=100000)(hf:Few (Ct l))(L:UH):∃ L',Fu [.str l] L=some (ptO (Dg l),L')/\Gw L L':=by
 generalize hM:L++[HU.lst ((Ct l).map U.str)]=M
 have hat:M[L.length]? = some (.lst ((Ct l).map U.str)):=by rw[<- hM];simp
 have gM:Gw L M:=by rw[<- hM];exact Gw.new _ _
 have s1:(A8 (Bt "str" B2 (Ae 0) (Ad (fC (.str " ")) Ag)) (gN 1)) [some (.str l),none] L=some (.nx [some (.str l),some (.ref L.length)],M):=by
  rw[<- hM]
  exact Dj (i:=1) (δ:=[some (.str l),none]) (Kl rfl rfl Aby (by omega))
 have wl:∀ w∈Ct l,w.length<=100000:=fun w hw=>bJ (G6 w hw) hl
 have wa:∀ w∈Ct l,asc w:=Fj ha
 have t1:=Atg (ws:=Ct l) (fv:=Ae 1) (δ:=[some (.str l),some (.ref L.length)]) rfl hat
 unfold Fu
 by_cases h3:(Ct l).length=3
 ·obtain ⟨a,b,c,e3⟩:∃ a b c,Ct l=[a,b,c]:=by
   match hw:Ct l,h3 with
   | [a,b,c],_=>exact ⟨a,b,c,rfl⟩
  rw[decide_eq_true h3] at t1
  have ia:∀ {N:UH},Gw M N->(f2 Al (Ae 1) (fC (.int 0))) [some (.str l),some (.ref L.length)] N=some (.str a,N):=fun g=>ix_str (k:=0) (ws:=Ct l) rfl (g.get hat) (by rw[e3];rfl)
  have ib:∀ {N:UH},Gw M N->(f2 Al (Ae 1) (fC (.int 1))) [some (.str l),some (.ref L.length)] N=some (.str b,N):=fun g=>ix_str (k:=1) (ws:=Ct l) rfl (g.get hat) (by rw[e3];rfl)
  have ic:∀ {N:UH},Gw M N->(f2 Al (Ae 1) (fC (.int 2))) [some (.str l),some (.ref L.length)] N=some (.str c,N):=fun g=>ix_str (k:=2) (ws:=Ct l) rfl (g.get hat) (by rw[e3];rfl)
  have ma:a∈Ct l:=by rw[e3];simp
  have mb:b∈Ct l:=by rw[e3];simp
  have mc:c∈Ct l:=by rw[e3];simp
  have hP:Dg l=if (nmB a&&(Er b&&Er c))=true then some (a,(Cr b,Cr c)) else none:=by unfold Dg;rw[e3]
  obtain ⟨L1,e1,g1⟩:=Yh (wa a ma) (wl a ma) M
  have t2:(Gi (Em (A0 1 Mh (Ad (f2 Al (Ae 1) (fC (.int 0))) Ag)))) [some (.str l),some (.ref L.length)] M=some (!nmB a,L1):=by
   have:=Uh (ia (Gw.refl M)) e1
   simp only[fNot_eq,fTru_eq,this,truU_bl,aC,aA]
  cases hA:nmB a with
  | false=>
   rw[hA] at t2
   refine ⟨L1,fn1 (n:=1) ?_,gM.trans g1⟩
   unfold Iz
   rw[hP,hA]
   exact Ay s1 (Et ((C8 (Ob t1 t2)).trans (Cg rfl)))
  | true=>
   rw[hA] at t2
   obtain ⟨L2,e2,g2⟩:=Mp (wa b mb) (wl b mb) L1
   have u1:(Gi (Em (A0 1 Ee (Ad (f2 Al (Ae 1) (fC (.int 1))) Ag)))) [some (.str l),some (.ref L.length)] L1=some (!Er b,L2):=by
    have:=Uh (ib g1) e2
    simp only[fNot_eq,fTru_eq,this,truU_bl,aC,aA]
   have go1:∀ r L',(A9 (B7 (fOr (Gi (Em (A0 1 Ee (Ad (f2 Al (Ae 1) (fC (.int 1))) Ag)))) (Gi (Em (A0 1 Ee (Ad (f2 Al (Ae 1) (fC (.int 2))) Ag))))) (Ce (fC .non)) B0) (Ce (Gj (Ad (f2 Al (Ae 1) (fC (.int 0))) (Ad (Ba Jd (Ad (f2 Al (Ae 1) (fC (.int 1))) Ag)) (Ad (Ba Jd (Ad (f2 Al (Ae 1) (fC (.int 2))) Ag)) Ag)))))) [some (.str l),some (.ref L.length)] L1=some (.rt r,L')->fnU 2 1 Iz [.str l] L=some (r,L'):=fun r L' h=>by
    refine fn1 (n:=1) ?_
    unfold Iz
    exact Ay s1 (Ay (F0 (Tb t1 t2)) h)
   cases hB:Er b with
   | false=>
    rw[hB] at u1
    refine ⟨L2,go1 _ _ (Et ?_),gM.trans (g1.trans g2)⟩
    rw[hP,hA,hB]
    refine (C8 (L':=L2) ?_).trans (Cg rfl)
    rw[Hi,u1];rfl
   | true=>
    rw[hB] at u1
    obtain ⟨L3,e3',g3⟩:=Mp (wa c mc) (wl c mc) L2
    have u2:(Gi (Em (A0 1 Ee (Ad (f2 Al (Ae 1) (fC (.int 2))) Ag)))) [some (.str l),some (.ref L.length)] L2=some (!Er c,L3):=by
     have:=Uh (ic (g1.trans g2)) e3'
     simp only[fNot_eq,fTru_eq,this,truU_bl,aC,aA]
    cases hC:Er c with
    | false=>
     rw[hC] at u2
     refine ⟨L3,go1 _ _ (Et ?_),gM.trans (g1.trans (g2.trans g3))⟩
     rw[hP,hA,hB,hC]
     exact (C8 (Ob u1 u2)).trans (Cg rfl)
    | true=>
     rw[hC] at u2
     refine ⟨L3,go1 _ _ (Ay (F0 (Tb u1 u2)) (Cg ?_)),gM.trans (g1.trans (g2.trans g3))⟩
     rw[hP,hA,hB,hC]
     have gg:=g1.trans (g2.trans g3)
     have it:∀ {w:Str} {fv:FE},w∈Ct l->Er w=true->fv [some (.str l),some (.ref L.length)] L3=some (.str w,L3)->(Ba Jd (Ad fv Ag)) [some (.str l),some (.ref L.length)] L3=some (.int (Cr w),L3):=fun {w fv} hw hn hv=>by
      have hb:=hf w hw hn
      have e:=Ant hn
      have hi:=Aj3 hb
      have hl2:=Md hb
      rw[<- e] at hi hl2
      refine Fx hv ?_
      unfold Jd
      simp only
      rw[if_pos (by omega),hi];rfl
     have:=Aq3 (ia gg) (it mb hB (ib gg)) (it mc hC (ic gg))
     exact this
 ·have hP:Dg l=none:=by
   unfold Dg
   split
   ·rename_i e;exact absurd (by rw[e];rfl) h3
   ·rfl
  rw[decide_eq_false h3] at t1
  refine ⟨M,fn1 (n:=1) ?_,gM⟩
  unfold Iz
  rw[hP]
  refine Ay s1 (Et ((C8 (L':=M) ?_).trans (Cg rfl)))
  rw[Hi,t1];rfl
theorem Ajc{a b:Nat}{xs ys:List U}(h1:L[a]? = some (.lst xs))(h2:L[b]? = some (.lst ys))(hs:xs.length+ys.length<=1000):Ar (.ref a) (.ref b) L=some (.ref L.length,L++[.lst (xs++ys)]):=by
 unfold Ar
 simp only[Ep h1,Ep h2,aA]
 rw[if_pos (small_of (by omega))]
inductive Rd where
 | ok (ps:List NP) | bad (k:Nat)
def Od:List Str->List NP->Rd
 | [],acc=>.ok acc
 | l::r,acc=>match Dg l with
  | some p=>if p.1∈acc.map (·.1) then .bad acc.length else Od r (acc++[p])
  | none=>.bad acc.length
def due(x:Str):Rd:=if x.cps.toList=[] then .ok [] else Od (bQ x "\n") []
def Rd.u:Rd->U
 | .ok ps=>.tup (ps.map ptU)
 | .bad k=>.int k
theorem Y6(w:Str)(hn:L[n]? = some (.lst (ws.map U.str))):Jj false (.str w) (.ref n) L=some (.bl (decide (w∈ws)),L):=by
 simp only[Jj,Am hn,toV_strs,aA,aC,toV]
 rw[Acw];rfl
variable {ps:List NP}
theorem Aac{ℓ:Nat}(hl:L[ℓ]? = some (.lst (ps.map ptU)))(hlen:ps.length<=1000000)(δ:UE)(hv:δ[1]? = some (some (.ref ℓ))) :
  ∃ n L',(C0 [none] (Cu (Ae 1)) (gN 0) none Ij) δ L=some (.ref n,L')/\Gw L L'/\L'[n]? = some (.lst ((ps.map (·.1)).map U.str)):=by
 have hs:=Am hl
 have hi:(Cu (Ae 1)) δ L=some (.ref ℓ,L):=by
  unfold Cu
  simp only[fVar_eq,hv,aP,aC,aA,Gm hs]
 obtain ⟨x,e⟩:=E9 (ix:=[none]) (fi:=Cu (Ae 1)) (it:=.ref ℓ) (g:=gN 0) (tt:=none) (fe:=Ij) (δ:=δ) (L:=L) (L0:=L)
  ps ptU (fun _=>true) (fun p=>.str p.1) (fun δ=>∃ a,δ = [a]) hi (by unfold IU.size;simp only;rw[hl];simp) (by omega) ⟨none,rfl⟩
  (fun k x=>by
   have:(L++x)[ℓ]? = some (.lst (ps.map ptU)):=by rw[aK (aD.mp hl).1];exact hl
   unfold IU.at;simp only;rw[this])
  (fun p δ x _ zz=>by
   obtain ⟨y,hδ⟩:=zz
   subst hδ
   exact ⟨[some (ptU p)],rfl,⟨_,rfl⟩,[],by simp[testU],fun _=>⟨[],by simp[Ij,ptU];rfl⟩⟩)
 have hff:iU (fun _=>true) ps=ps:=eY.mpr (fun _ _=>rfl)
 rw[hff] at e
 refine ⟨_,_,e,⟨_,(bY _ _ _)⟩,?_⟩
 rw[bD (aJ _),eK,kE]
 rfl
def Gg(l:Str)(acc:List NP):Bool:=match Dg l with
 | some p=>decide (p.1∈acc.map (·.1))
 | none=>true
theorem Ae9{l x:Str}{acc:List NP}{ℓ:Nat}{L:UH}(ha:asc l)(hl:l.length<=100000)(hℓ:L[ℓ]? = some (.lst (acc.map ptU)))(hlen:acc.length<=1000000)(x3 x4:Option U) :
  (Gg l acc=true->∃ L',En [some (.str x),some (.ref ℓ),some (.str l),x3,x4] L=some (.rt (.int acc.length),L')/\Gw L L') /\
  (Gg l acc=false->∃ p M y3 y4,Dg l=some p/\p.1∉acc.map (·.1)/\Gw L M/\En [some (.str x),some (.ref ℓ),some (.str l),x3,x4] L=some (.nx [some (.str x),some (.ref ℓ),some (.str l),y3,y4],M.set ℓ (.lst ((acc++[p]).map ptU)))):=by
 have wl:∀ w∈Ct l,w.length<=100000:=fun w hw=>bJ (G6 w hw) hl
 have wa:∀ w∈Ct l,asc w:=Fj ha
 generalize hM:L++[HU.lst ((Ct l).map U.str)]=M
 have hat:M[L.length]? = some (.lst ((Ct l).map U.str)):=by rw[<- hM];simp
 have gM:Gw L M:=by rw[<- hM];exact Gw.new _ _
 have s1:(A8 (Bt "str" B2 (Ae 2) (Ad (fC (.str " ")) Ag)) (gN 3)) [some (.str x),some (.ref ℓ),some (.str l),x3,x4] L=some (.nx [some (.str x),some (.ref ℓ),some (.str l),some (.ref L.length),x4],M):=by
  rw[<- hM]
  exact Dj (i:=3) (δ:=[some (.str x),some (.ref ℓ),some (.str l),x3,x4]) (Kl rfl rfl Aby (by omega))
 have rt:∀ {N:UH} {y4:Option U},Gw L N->Ce (Ba Bc (Ad (Ae 1) Ag)) [some (.str x),some (.ref ℓ),some (.str l),some (.ref L.length),y4] N=some (.rt (.int acc.length),N):=fun g=>by
  have:=Gd (g.get hℓ)
  rw[aM] at this
  exact Cg (Fx rfl this)
 have t1:=Atg (ws:=Ct l) (fv:=Ae 3) (δ:=[some (.str x),some (.ref ℓ),some (.str l),some (.ref L.length),x4]) rfl hat
 by_cases h3:(Ct l).length=3
 ·obtain ⟨a,b,c,e3⟩:∃ a b c,Ct l=[a,b,c]:=by
   match hw:Ct l,h3 with
   | [a,b,c],_=>exact ⟨a,b,c,rfl⟩
  rw[decide_eq_true h3] at t1
  have ia:∀ {N:UH} {y4:Option U},Gw M N->(f2 Al (Ae 3) (fC (.int 0))) [some (.str x),some (.ref ℓ),some (.str l),some (.ref L.length),y4] N=some (.str a,N):=fun g=>ix_str (k:=0) (ws:=Ct l) rfl (g.get hat) (by rw[e3];rfl)
  have ib:∀ {N:UH} {y4:Option U},Gw M N->(f2 Al (Ae 3) (fC (.int 1))) [some (.str x),some (.ref ℓ),some (.str l),some (.ref L.length),y4] N=some (.str b,N):=fun g=>ix_str (k:=1) (ws:=Ct l) rfl (g.get hat) (by rw[e3];rfl)
  have ic:∀ {N:UH} {y4:Option U},Gw M N->(f2 Al (Ae 3) (fC (.int 2))) [some (.str x),some (.ref ℓ),some (.str l),some (.ref L.length),y4] N=some (.str c,N):=fun g=>ix_str (k:=2) (ws:=Ct l) rfl (g.get hat) (by rw[e3];rfl)
  have ma:a∈Ct l:=by rw[e3];simp
  have mb:b∈Ct l:=by rw[e3];simp
  have mc:c∈Ct l:=by rw[e3];simp
  have hP:Dg l=if (nmB a&&(Er b&&Er c))=true then some (a,(Cr b,Cr c)) else none:=by unfold Dg;rw[e3]
  obtain ⟨L1,e1,g1⟩:=Vp (wa a ma) (wl a ma) M
  have t2:(Gi (Em (A0 1 Jp (Ad (f2 Al (Ae 3) (fC (.int 0))) Ag)))) [some (.str x),some (.ref ℓ),some (.str l),some (.ref L.length),x4] M=some (!nmB a,L1):=by
   have:=Uh (ia (y4:=x4) (Gw.refl M)) e1
   simp only[fNot_eq,fTru_eq,this,truU_bl,aC,aA]
  cases hA:nmB a with
  | false=>
   rw[hA] at t2
   have hb:Gg l acc=true:=by unfold Gg;rw[hP,hA];rfl
   refine ⟨fun _=>⟨L1,?_,gM.trans g1⟩,fun z=>by rw[hb] at z;cases z⟩
   unfold En
   refine Ay s1 (Et ((C8 (Ob t1 (?_:_=some (true,L1)))).trans (rt (gM.trans g1))))
   rw[Hi,t2];rfl
  | true=>
   rw[hA] at t2
   obtain ⟨nn,L2,ec,g2,hnn⟩:=Aac (L:=L1) (ps:=acc) ((gM.trans g1).get hℓ) hlen [some (.str x),some (.ref ℓ),some (.str l),some (.ref L.length),x4] rfl
   have t3:(Au (f2 (Jj false) (f2 Al (Ae 3) (fC (.int 0))) (C0 [none] (Cu (Ae 1)) (gN 0) none Ij))) [some (.str x),some (.ref ℓ),some (.str l),some (.ref L.length),x4] L1=some (decide (a∈acc.map (·.1)),L2):=Dz (Bq (ia g1) ec (Y6 a hnn))
   have gL2:=gM.trans (g1.trans g2)
   by_cases hin:a∈acc.map (·.1)
   ·rw[decide_eq_true hin] at t3
    have hb:Gg l acc=true:=by
     unfold Gg
     rw[hP]
     cases (nmB a&&(Er b&&Er c)) with
     | true=>exact decide_eq_true hin
     | false=>rfl
    refine ⟨fun _=>⟨L2,?_,gL2⟩,fun z=>by rw[hb] at z;cases z⟩
    unfold En
    exact Ay s1 (Et ((C8 (Ob t1 (Ob t2 t3))).trans (rt gL2)))
   ·rw[decide_eq_false hin] at t3
    obtain ⟨n1,L3,f1,g3,_,h1⟩:=Lj (wa b mb) (wl b mb) L2
    obtain ⟨n2,L4,f2',g4,_,h2⟩:=Lj (wa c mc) (wl c mc) L3
    have gm2:=g1.trans g2
    generalize hxs:(if Er b=true then [U.int (Cr b)] else [])=xs at h1
    generalize hys:(if Er c=true then [U.int (Cr c)] else [])=ys at h2
    have lx:xs.length<=1:=by rw[<- hxs];split <;> simp
    have ly:ys.length<=1:=by rw[<- hys];split <;> simp
    have s2:(A8 (f2 Ar (A0 1 C9 (Ad (f2 Al (Ae 3) (fC (.int 1))) Ag)) (A0 1 C9 (Ad (f2 Al (Ae 3) (fC (.int 2))) Ag))) (gN 4)) [some (.str x),some (.ref ℓ),some (.str l),some (.ref L.length),x4] L2=some (.nx [some (.str x),some (.ref ℓ),some (.str l),some (.ref L.length),some (.ref L4.length)],L4++[.lst (xs++ys)]):=
     Dj (i:=4) (δ:=[some (.str x),some (.ref ℓ),some (.str l),some (.ref L.length),x4]) (Bq (Uh (ib gm2) f1) (Uh (ic (gm2.trans g3)) f2') (Ajc (g4.get h1) h2 (by omega)))
    have gL5:Gw L (L4++[.lst (xs++ys)]):=gL2.trans (g3.trans (g4.trans (Gw.new _ _)))
    have h5:(L4++[HU.lst (xs++ys)])[L4.length]? = some (.lst (xs++ys)):=by simp
    have t4:(Au (f2 Dy (Ba Bc (Ad (Ae 4) Ag)) (fC (.int 2)))) [some (.str x),some (.ref ℓ),some (.str l),some (.ref L.length),some (.ref L4.length)] (L4++[.lst (xs++ys)])=some (!((((xs++ys).length:Nat):Int) == 2),L4++[.lst (xs++ys)]):=Dz (Bq (Fx rfl (Gd h5)) rfl (U4 _ _ _))
    have go:∀ r,(A9 (B7 (Au (f2 Dy (Ba Bc (Ad (Ae 4) Ag)) (fC (.int 2)))) (Ce (Ba Bc (Ad (Ae 1) Ag))) B0) (C3 (Bt "list" C1 (Ae 1) (Ad (Gj (Ad (f2 Al (Ae 3) (fC (.int 0))) (Ad (f2 Al (Ae 4) (fC (.int 0))) (Ad (f2 Al (Ae 4) (fC (.int 1))) Ag)))) Ag)))) [some (.str x),some (.ref ℓ),some (.str l),some (.ref L.length),some (.ref L4.length)] (L4++[.lst (xs++ys)])=r->En [some (.str x),some (.ref ℓ),some (.str l),x3,x4] L=r:=fun r h=>by
     unfold En
     exact Ay s1 (Ay (F0 (Tb t1 (Tb t2 t3))) (Ay s2 h))
    cases hBC:(Er b&&Er c) with
    | false=>
     have hb:Gg l acc=true:=by unfold Gg;rw[hP,hBC,hA];rfl
     refine ⟨fun _=>⟨_,go _ (Et ((C8 (L':=L4++[.lst (xs++ys)]) ?_).trans (rt gL5))),gL5⟩,fun z=>by rw[hb] at z;cases z⟩
     rw[t4]
     have:(xs++ys).length≠2:=by
      rw[aY,<- hxs,<- hys]
      revert hBC
      cases Er b <;> cases Er c <;> simp
     have:(((xs++ys).length:Int) == 2)=false:=by rw[beq_eq_false_iff_ne];omega
     rw[this];rfl
    | true=>
     have hb':=(bG _ _).mp hBC
     rw[if_pos hb'.1] at hxs
     rw[if_pos hb'.2] at hys
     subst hxs;subst hys
     have hPs:Dg l=some (a,(Cr b,Cr c)):=by rw[hP,hA,hBC];rfl
     have hb:Gg l acc=false:=by unfold Gg;rw[hPs];exact decide_eq_false hin
     refine ⟨fun z=>by (rw[hb] at z;cases z),fun _=>⟨_,L4++[.lst ([U.int (Cr b)]++[U.int (Cr c)])],some (.ref L.length),some (.ref L4.length),hPs,hin,gL5,go _ (Ay (F0 t4) ?_)⟩⟩
     have hl5:=gL5.get hℓ
     have j0:∀ (k:Nat) (hk:k < 2),(f2 Al (Ae 4) (fC (.int (k:Int)))) [some (.str x),some (.ref ℓ),some (.str l),some (.ref L.length),some (.ref L4.length)] (L4++[.lst ([U.int (Cr b)]++[U.int (Cr c)])])=some ([U.int (Cr b),U.int (Cr c)][k]'hk,L4++[.lst ([U.int (Cr b)]++[U.int (Cr c)])]):=fun k hk=>by
      refine Bq rfl rfl ?_
      rw[semIx_ref,Am h5,aA,Ft (by omega) (by simp;omega),cF]
      show ([U.int (Cr b),U.int (Cr c)][k]?).map _=_
      rw[aQ hk];rfl
     have tp:(Gj (Ad (f2 Al (Ae 3) (fC (.int 0))) (Ad (f2 Al (Ae 4) (fC (.int 0))) (Ad (f2 Al (Ae 4) (fC (.int 1))) Ag)))) [some (.str x),some (.ref ℓ),some (.str l),some (.ref L.length),some (.ref L4.length)] (L4++[.lst ([U.int (Cr b)]++[U.int (Cr c)])])=some (ptU (a,(Cr b,Cr c)),L4++[.lst ([U.int (Cr b)]++[U.int (Cr c)])]):=Aq3 (ia (y4:=some (.ref L4.length)) (gm2.trans (g3.trans (g4.trans (Gw.new L4 [.lst ([U.int (Cr b)]++[U.int (Cr c)])]))))) (j0 0 (by omega)) (j0 1 (by omega))
     have ap:=Gv (ptU (a,(Cr b,Cr c))) hl5 (by rw[aM];omega)
     have hx:acc.map ptU++[ptU (a,(Cr b,Cr c))]=(acc++[(a,(Cr b,Cr c))]).map ptU:=by simp
     rw[hx] at ap
     have ty:=G1 hl5
     have tp':(Ad (Gj (Ad (f2 Al (Ae 3) (fC (.int 0))) (Ad (f2 Al (Ae 4) (fC (.int 0))) (Ad (f2 Al (Ae 4) (fC (.int 1))) Ag)))) Ag) [some (.str x),some (.ref ℓ),some (.str l),some (.ref L.length),some (.ref L4.length)] (L4++[.lst ([U.int (Cr b)]++[U.int (Cr c)])])=some ([ptU (a,(Cr b,Cr c))],L4++[.lst ([U.int (Cr b)]++[U.int (Cr c)])]):=by
      rw[fCons_eq,tp];rfl
     rw[El,fMeth_eq]
     simp only[fVar_eq,bA,aL,aP,aC,aA,ty,if_true,tp',ap]
 ·have hP:Dg l=none:=by
   unfold Dg
   split
   ·rename_i e;exact absurd (by rw[e];rfl) h3
   ·rfl
  rw[decide_eq_false h3] at t1
  have hb:Gg l acc=true:=by unfold Gg;rw[hP]
  refine ⟨fun _=>⟨M,?_,gM⟩,fun z=>by rw[hb] at z;cases z⟩
  unfold En
  refine Ay s1 (Et ((C8 (L':=M) ?_).trans (rt gM)))
  rw[Hi,t1];rfl
inductive DueR(x:Str)(L:UH)(r:Option (U×UH)):Prop
 | mk (L':UH) (e:r=some ((due x).u,L')) (g:Gw L L')
def go:Nat->List Str->List NP
 | 0,_=>[]
 | _+1,[]=>[]
 | k+1,l::r=>match Dg l with
  | some p=>p::go k r
  | none=>[]
theorem Afx:∀ (ls:List Str) (acc:List NP) (j:Nat) (pts:Nat->List NP),pts 0=acc->(∀ i l,i < j->ls[i]? = some l->Gg l (pts i)=false/\∃ p,Dg l=some p/\pts (i+1)=pts i++[p])->(∀ l,ls[j]? = some l->Gg l (pts j)=true)->j < ls.length->Od ls acc = .bad (pts j).length:=by
 intro ls
 induction ls with
 | nil=>intro acc j pts _ _ _ hj;cases hj
 | cons l r ih=>
  intro acc j pts h0 hs hb hj
  unfold Od
  cases j with
  | zero=>
   have:=hb l rfl
   rw[h0] at this
   unfold Gg at this
   rw[h0]
   cases hp:Dg l with
   | none=>rfl
   | some p=>
    rw[hp] at this
    simp only
    rw[if_pos (of_decide_eq_true this)]
  | succ j=>
   obtain ⟨hf,p,hp,hn⟩:=hs 0 l (cL _) rfl
   rw[h0] at hf hn
   unfold Gg at hf
   rw[hp] at hf
   rw[hp]
   simp only
   rw[if_neg (of_decide_eq_false hf)]
   exact ih (acc++[p]) j (fun i=>pts (i+1)) hn (fun i l' hi hl'=>hs (i+1) l' (Nat.succ_lt_succ hi) hl') (fun l' hl'=>hb l' hl') (Nat.lt_of_succ_lt_succ hj)
theorem Ajd:∀ (ls:List Str) (acc:List NP) (pts:Nat->List NP),pts 0=acc->(∀ i l,ls[i]? = some l->Gg l (pts i)=false/\∃ p,Dg l=some p/\pts (i+1)=pts i++[p])->Od ls acc = .ok (pts ls.length):=by
 intro ls
 induction ls with
 | nil=>intro acc pts h0 _;unfold Od;rw[<- h0];rfl
 | cons l r ih=>
  intro acc pts h0 hs
  obtain ⟨hf,p,hp,hn⟩:=hs 0 l rfl
  rw[h0] at hf hn
  unfold Gg at hf
  rw[hp] at hf
  unfold Od
  rw[hp]
  simp only
  rw[if_neg (of_decide_eq_false hf)]
  exact ih (acc++[p]) (fun i=>pts (i+1)) hn (fun i l' hl'=>hs (i+1) l' hl')
def Gb(ls:List Str)(k:Nat):List NP:=(ls.take k).filterMap Dg
theorem Np{ls:List Str}{p:NP}(h:ls[k]? = some l)(hp:Dg l=some p):Gb ls (k+1)=Gb ls k++[p]:=by
 unfold Gb
 rw[iO,h,List.filterMap_append]
 simp[hp]
def Cz(ls:List Str)(k:Nat):Bool:=match ls[k]? with
 | some l=>Gg l (Gb ls k)
 | none=>false
theorem Vf{ls:List Str}(h:ls[k]? = some l)(hs:Cz ls k=false):Gg l (Gb ls k)=false/\∃ p,Dg l=some p/\Gb ls (k+1)=Gb ls k++[p]:=by
 unfold Cz at hs
 rw[h] at hs
 refine ⟨hs,?_⟩
 have hs':Gg l (Gb ls k)=false:=hs
 unfold Gg at hs'
 cases hp:Dg l with
 | none=>rw[hp] at hs';cases hs'
 | some p=>exact ⟨p,rfl,Np h hp⟩
theorem Vr{ls:List Str}:∀ k,k<=ls.length->(∀ i,i < k->Cz ls i=false)->(Gb ls k).length=k:=by
 intro k
 induction k with
 | zero=>intro _ _;rfl
 | succ k ih=>
  intro hk hs
  obtain ⟨l,hl⟩:∃ l,ls[k]? = some l:=⟨_,aQ (by omega)⟩
  obtain ⟨_,p,_,e⟩:=Vf hl (hs k (dW _))
  rw[e,aY,ih (by omega) fun i hi=>hs i (by omega)];rfl
theorem Ur{ls:List Str}{j:Nat}(hj:j < ls.length)(h:Cz ls j=true)(hb:∀ i,i < j->Cz ls i=false):Od ls [] = .bad j:=by
 have:=Afx ls [] j (Gb ls) rfl (fun i l hi hl=>Vf hl (hb i hi)) (fun l hl=>by unfold Cz at h;rw[hl] at h;exact h) hj
 rw[this,Vr j (by omega) hb]
theorem W9{ls:List Str}(hb:∀ i,i < ls.length->Cz ls i=false):Od ls [] = .ok (Gb ls ls.length):=
 Ajd ls [] (Gb ls) rfl fun i l hl=>Vf hl (hb i (aD.mp hl).1)
theorem Ak0(ha:asc x)(hl:x.length<=100000)(L:UH):DueR x L (O9 [.str x] L):=by
 have hne:∀ (δ:UE) (N:UH),δ[0]? = some (some (.str x))->(Au (f2 Bb (Ae 0) (fC (.str "")))) δ N=some (decide (x.cps.toList=[]),N):=fun δ N h0=>by
  have h1:=Fy ha Mi N
  rw[Kn,Jw] at h1
  exact Dz (Bq (by simp only[fVar_eq,h0,aP,aC]) rfl h1)
 have s1:(A8 (Cv Ag) (gN 1)) [some (.str x),none,none,none,none] L=some (.nx [some (.str x),some (.ref L.length),none,none,none],L++[.lst []]):=Dj (i:=1) (δ:=[some (.str x),none,none,none,none]) rfl
 have t1:=hne [some (.str x),some (.ref L.length),none,none,none] (L++[.lst []]) rfl
 have g1:Gw L (L++[HU.lst []]):=Gw.new _ _
 by_cases h0:x.cps.toList=[]
 ·rw[decide_eq_true h0] at t1
  have hd:due x = .ok []:=by unfold due;rw[if_pos h0]
  refine ⟨L++[.lst []],fn1 (n:=4) ?_,g1⟩
  unfold Vq
  rw[hd]
  exact Ay s1 (Et ((C8 t1).trans (Cg rfl)))
 rw[decide_eq_false h0] at t1
 have hd:due x=Od (bQ x "\n") []:=by unfold due;rw[if_neg h0]
 generalize hls:bQ x "\n" = ls at hd
 have la:∀ l∈ls,asc l:=by rw[<- hls];exact Fj ha
 have ll:∀ l∈ls,l.length<=100000:=fun l h=>bJ (G6 (x:=x) (y := "\n") l (by rw[hls];exact h)) hl
 have lc:ls.length<=100002:=by
  have:=J8 x "\n"
  rw[hls] at this;omega
 generalize hM:L++[HU.lst []]++[HU.lst (ls.map U.str)]=M
 have hM1:M[L.length+1]? = some (.lst (ls.map U.str)):=by rw[<- hM];simp
 have hM0:M[L.length]? = some (.lst (([]:List NP).map ptU)):=by rw[<- hM];simp
 have gM:Gw L M:=by rw[<- hM,bY];exact Gw.new _ _
 have s2:(Bt "str" B2 (Ae 0) (Ad (fC (.str "\n")) Ag)) [some (.str x),some (.ref L.length),none,none,none] (L++[.lst []])=some (.ref (L.length+1),M):=by
  have:=Kl (fv:=Ae 0) (fs:=fC (.str "\n")) (a:=x) (b := "\n") (δ:=[some (.str x),some (.ref L.length),none,none,none]) (L:=L++[.lst []]) rfl rfl nl_ne (by omega)
  rw[hls,aY] at this
  rw[<- hM];exact this
 have hi:(Cu (Bt "str" B2 (Ae 0) (Ad (fC (.str "\n")) Ag))) [some (.str x),some (.ref L.length),none,none,none] (L++[.lst []])=some (.ref (L.length+1),M):=by
  unfold Cu
  rw[s2,aA,Gm (Am hM1)];rfl
 have start:∀ r L',(A9 (Ik (Cu (Bt "str" B2 (Ae 0) (Ad (fC (.str "\n")) Ag))) (gN 2) En) (Ce (Ba E6 (Ad (Ae 1) Ag)))) [some (.str x),some (.ref L.length),none,none,none] (L++[.lst []])=some (.rt r,L')->O9 [.str x] L=some (r,L'):=fun r L' h=>by
  refine fn1 (n:=4) ?_
  unfold Vq
  exact Ay s1 (Ay (F0 t1) h)
 rcases Ach (us:=ls.map U.str) (it:=.ref (L.length+1)) (g:=gN 2) (body:=En)
   (fun k δ N=>k<=ls.length/\(∀ i,i < k->Cz ls i=false)/\Gw L N/\N[L.length]? = some (.lst ((Gb ls k).map ptU))/\N[L.length+1]? = some (.lst (ls.map U.str))/\∃ a b c,δ = [some (.str x),some (.ref L.length),a,b,c])
   (fun _ N=>Gw L N) (Cz ls) (fun k=>.int (k:Int)) hi (by simp[IU.size,hM1]) (fun k δ N _ zz=>by
    obtain ⟨_,_,_,_,h,_⟩:=zz
    unfold IU.at;simp only;rw[h])
   ⟨eO _,(fun i hi=>by cases hi),gM,hM0,hM1,none,none,none,rfl⟩
   (fun k u δ N hu zz=>by
    obtain ⟨hk,hst,gN,h0',h1',a,b,c,rfl⟩:=zz
    rw[bO] at hu
    obtain ⟨l,hlk,rfl⟩:=mpd hu
    have hkl:=(aD.mp hlk).1
    have hpl:=Vr k hk hst
    have hm:=dP hlk
    obtain ⟨A,B⟩:=Ae9 (x:=x) (acc:=Gb ls k) (ℓ:=L.length) (la l hm) (ll l hm) h0' (by omega) b c
    have hsa:Cz ls k=Gg l (Gb ls k):=by unfold Cz;rw[hlk]
    refine ⟨_,_,rfl,fun hs=>?_,fun hs=>?_⟩
    ·obtain ⟨N',e,g⟩:=A (by rw[<- hsa];exact hs)
     rw[hpl] at e
     exact ⟨N',e,gN.trans g⟩
    ·obtain ⟨p,M',y3,y4,hp,_,g,e⟩:=B (by rw[<- hsa];exact hs)
     have hsu:=Np hlk hp
     refine ⟨_,_,e,by omega,fun i hi=>?_,(gN.trans g).set (aJ _) _,?_,?_,_,_,_,rfl⟩
     ·rcases nJ.mp hi with z | z
      ·exact hst i z
      ·rw[z];exact hs
     ·rw[bK (by have:=(g.get h0');exact (aD.mp this).1),hsu]
     ·rw[bE (by omega)]
      exact g.get h1') with ⟨j,hj,hst,hall,N,e,g⟩ | ⟨hall,δ',N,e,_,_,g,h0',_,a,b,c,rfl⟩
 ·rw[aM] at hj
  refine ⟨N,?_,g⟩
  rw[hd,Ur hj hst hall]
  exact start _ _ (Et e)
 ·rw[aM] at hall h0'
  refine ⟨N,?_,g⟩
  rw[hd,W9 hall]
  refine start _ _ (Ay e (Cg (Fx rfl ?_)))
  have:Az N L.length=some ((Gb ls ls.length).map ptU):=Am h0'
  simp only[E6,this,aC]
  rfl
def kn(ps:List (Str×(Int×Int))):List (L2.Key×U):=ps.map fun p=>(.inr p.1,.bl true)
theorem Yz:∀ (ps:List (Str×(Int×Int))) (w:Str),w∉ps.map (·.1)->Ml (kn ps) (.inr w)=none
 | [],w,_=>rfl
 | p::ps,w,h=>by
  have h1:p.1≠w:=fun q=>h (by rw[<- q];simp)
  have h2:=Yz ps w fun q=>h (by rw[aS];exact aR _ q)
  rw[<- h2]
  show Ml ((.inr p.1,.bl true)::kn ps) (.inr w)=_
  unfold Ml
  rw[eI]
  have:(decide ((jJ p.1:L2.Key)=jJ w))=false:=decide_eq_false fun q=>h1 (by injection q)
  rw[this]
theorem Anp{ps:List (Str×(Int×Int))}(h:p.1∉ps.map (·.1)):Ahj (kn ps) (.inr p.1) (.bl true)=kn (ps++[p]):=by
 have hv:=Yz ps p.1 h
 have ha:((kn ps).any fun kv=>decide (kv.1=(.inr p.1:L2.Key)))=false:=by
  rw[<- R9]
  unfold Ml at hv
  cases q:(kn ps).find? (fun kv=>decide (kv.1=(.inr p.1:L2.Key))) with
  | none=>rfl
  | some z=>rw[q] at hv;cases hv
 unfold Ahj
 rw[if_neg (by rw[ha];simp)]
 simp[kn]
variable {L0:UH}
theorem Ac9{g:FG}{body:FS}(P:Nat->UE->UH->Prop)(hfe:fe δ L=some (.ref n,L0))(h0:P 0 δ L0)(hl:∀ k δ L,P k δ L->Az L n=some us)(step:∀ (k:Nat) (u:U) δ L,us[k]? = some u->P k δ L->Vm g body (.tup [.int (k:Int),u]) δ L (P (k+1))) :
  ∃ δ' L',Ik (Ip (Ad fe Ag)) g body δ L=some (.nx δ',L')/\P us.length δ' L':=by
 have hen:(enU us).length=us.length:=by simp[enU]
 obtain ⟨δ',L',e,h⟩:=Ot (it:=.enm n) (g:=g) (body:=body) (us:=enU us) P (fun k δ L _ hp=>Ahf (hl k δ L hp))
  (fun k u δ L hu hp=>by
   have:(enU us)[k]? = (us[k]?).map fun u=>U.tup [.int (k:Int),u]:=by simp[enU]
   rw[this] at hu
   obtain ⟨w,hw,rfl⟩:=mpd hu
   exact step k w δ L hw hp) (us.length+1) 0 δ L0 (by omega) (by omega) h0
 rw[hen] at h
 refine ⟨δ',L',?_,h⟩
 have hs:=hl 0 δ L0 h0
 have hi:Ip (Ad fe Ag) δ L=some (.enm n,L0):=by
  unfold Ip
  simp only[fCons_eq,hfe,aA,fNil_eq,aC,hs]
 rw[N5,hi]
 simp only[aA,Yn hs,hen]
 exact e
theorem Agj{n:Int}(h:K3 n=true):(Aay n).length<=40:=by
 unfold K3 at h
 simp only[bG,decide_eq_true_eq] at h
 have e:(Aay n).length=(toString n).length:=by
  unfold Aay
  rw[show (iW (toString n)).length=(iW (toString n)).cps.toList.length from by simp[eN],Str.ofString_eq_toList,List.toList_toArray,aM,String.length_toList]
 rw[e]
 have hp:(10:Nat) ^ 21=1000000000000000000000:=by decide
 have k:∀ m:Nat,m<=100000000000000000000->(sX m).length<=21:=fun m hm=>(Nat.length_repr_le_iff (by decide)).mpr (by rw[hp];omega)
 cases n with
 | ofNat m=>
  have:=k m (by have:=h.2;simp only[Int.ofNat_eq_natCast] at this;omega)
  show (sX m).length<=40
  omega
 | negSucc m=>
  have:=k (m+1) (by have:=h.1;omega)
  show ("-" ++ sX (m+1)).length<=40
  rw[String.length_append]
  have h1:("-" : String).length=1:=rfl
  omega
theorem Abf{f:FE}{n:Int}(h:f δ L=some (.int n,L))(hf:K3 n=true):∃ x:Str,Vb f δ L=some (.str x,L)/\x.length<=1000:=by
 refine ⟨Aay n,?_,bJ (Agj hf) (by decide)⟩
 unfold Vb
 simp only[h,aA]
 rw[if_pos hf]
variable {C:Str}{Cs:List Str}
theorem T7(hC:C∈Cs)(u:U)(M:UH):fnU 2 2 (C3 (Df Cs (Ad (Ae 0) (Ad (Ae 1) Ag)))) [.ref M.length,u] (M++[.exc C true []])=some (.non,M++[.exc C true []]):=by
 have h1:(M++[HU.exc C true []])[M.length]? = some (.exc C true []):=by simp
 have h2:(Df Cs (Ad (Ae 0) (Ad (Ae 1) Ag))) [some (.ref M.length),some u] (M++[.exc C true []])=some (.non,M++[.exc C true []]):=by
  unfold Df
  simp only[fCons_eq,fNil_eq,fVar_eq,bA,aL,aP,aC,aA,h1]
  rw[if_pos hC]
 unfold fnU
 simp only[bH,cK,if_true,aS,eU,eK,gO,cR]
 rw[El,h2]
 rfl
variable {fs:List (Str×U)}
theorem Jz{F:FN}{g:FA}{u:U}(hg:g δ L=some ([u],L1))(hF:F [.ref L1.length,u] (L1++[.exc C true []])=some (.non,L1++[.exc C true fs])) :
  Eb C 2 F g δ L=some (.ref L1.length,L1++[.exc C true fs]):=by
 unfold Eb
 simp only[hg,aA]
 rw[if_pos ⟨rfl,by simp⟩,hF]
 rfl
theorem Ade{F:FN}{g:FA}{u:U}(hC:C∈Cs)(hg:g δ L=some ([u],L1))(hF:F [.ref L1.length,u] (L1++[.exc C true []])=some (.non,L1++[.exc C true fs])) :
  V6 Cs (Eb C 2 F g) δ L=some (L1.length,δ,L1++[.exc C false fs]):=by
 have h1:(L1++[HU.exc C true fs])[L1.length]? = some (.exc C true fs):=by simp
 unfold V6
 rw[Jz hg hF]
 simp only[aA,h1]
 rw[if_pos hC]
 simp
theorem Ao1{N:Nat}{x:XS}(hl:us.length=m)(h:x (us.map some++bF (N - us.length) none) L=some (n,δ',L')):fnX N m x us L=some (n,L'):=by
 unfold fnX
 rw[if_pos hl,h]
 rfl
theorem Ag7{N:Nat}{x:XS}(hl:us.length=m)(h:x (us.map some++bF (N - us.length) none) L=none):fnX N m x us L=none:=by
 unfold fnX
 rw[if_pos hl,h]
 rfl
variable {y:XS}
theorem Arw{c:FT}{x:XS}(h:c δ L=some (true,L1)):xIf c x y δ L=x δ L1:=by unfold xIf;rw[h];rfl
theorem Ash{c:FT}{x:XS}(h:c δ L=some (false,L1)):xIf c x y δ L=y δ L1:=by unfold xIf;rw[h];rfl
theorem Xg{x:XS}{r:Nat×UE×UH}(h:x δ L=some r):Lh f x y δ L=some r:=by unfold Lh;rw[h]
theorem Pa{x:XS}{δ1:UE}(h:x δ L=none)(hf:f δ L=some (.nx δ1,L1)):Lh f x y δ L=y δ1 L1:=by unfold Lh;rw[h,hf]
theorem Abb{x:XS}(h:x δ L=none):Lh Na x xNo δ L=none:=by unfold Lh;rw[h];rfl
theorem Akt{x:XE}(h:x δ L=some (n,L')):xOf x δ L=some (n,δ,L'):=by unfold xOf;rw[h];rfl
theorem Anl{x:XE}(h:x δ L=none):xOf x δ L=none:=by unfold xOf;rw[h];rfl
variable {fr:Bool}
theorem Akv{b suite:FS}{x:XS}{Cs:List Str}{i n:Nat}{δ δ1 δ2:UE}{L L1 L2:UH}{C:Str}{fr:Bool}{fs:List (Str×U)}(h:x δ L=some (n,δ1,L1))(hL:L1[n]? = some (.exc C fr fs))(hC:C∈Cs)
  (hs:suite (δ1.set i (some (.ref n))) L1=some (.nx δ2,L2)):Vv b x Cs i suite δ L=some (.nx (δ2.set i none),L2):=by
 unfold Vv
 simp only[h,hL]
 rw[if_pos hC,hs]
 rfl
theorem Ang{b suite:FS}{x:XS}(h:x δ L=none):Vv b x Cs i suite δ L=b δ L:=by unfold Vv;rw[h]
theorem Lx(hL:L[n]? = some (.exc C fr fs))(hC:C∈Cs):Q9 Cs (.ref n) L=some (n,C,fs):=by
 unfold Q9
 simp only[hL]
 rw[if_pos hC]
theorem Ag1{D:Str}{f:FE}(h:f δ L=some (.ref n,L))(hL:L[n]? = some (.exc C fr fs))(hC:C∈Cs):Hh Cs D f δ L=some (.bl (isX C D),L):=by
 unfold Hh
 simp only[h,aA,Lx hL hC,aC]
theorem Ajk{Dn:List Str}{f:FE}(h:f δ L=some (.ref n,L))(hL:L[n]? = some (.exc C fr fs))(hC:C∈Cs):U6 Cs Dn f δ L=some (.bl (Dn.any (isX C)),L):=by
 unfold U6
 simp only[h,aA,Lx hL hC,aC]
theorem Ab3:∀ (ps:List NP) (w:Str),w∈ps.map (·.1)->(Ml (kn ps) (.inr w)).isSome=true
 | [],w,h=>by cases h
 | p::ps,w,h=>by
  show (Ml ((.inr p.1,.bl true)::kn ps) (.inr w)).isSome=true
  unfold Ml
  rw[eI]
  by_cases q:p.1=w
  ·have:(decide ((jJ p.1:L2.Key)=jJ w))=true:=decide_eq_true (by rw[q])
   rw[this];rfl
  ·have:(decide ((jJ p.1:L2.Key)=jJ w))=false:=decide_eq_false fun z=>q (by injection z)
   rw[this]
   have:=Ab3 ps w ((aV.mp h).resolve_left fun z=>q z.symm)
   unfold Ml at this
   exact this
theorem As2(ps:List NP)(w:Str):(Ml (kn ps) (.inr w)).isSome=decide (w∈ps.map (·.1)):=by
 by_cases h:w∈ps.map (·.1)
 ·rw[Ab3 ps w h,decide_eq_true h]
 ·rw[Yz ps w h,decide_eq_false h];rfl
abbrev Cs5:List Str:=["NoPlace","NoAsk","NoPoints","NoCounts","NoName"]
theorem Ss:("NoPoints" : Str)∈Cs5:=by decide
theorem Avu:eN "line " <= 1000:=by decide +kernel
theorem At8:eN " is no point, or has a name that is there already" <= 1000:=by decide +kernel
theorem Ac4(k:Int)(hf:K3 k=true)(M:UH):B8 [.ref M.length,.int k] (M++[.exc "NoPoints" true []])=some (.non,M++[.exc "NoPoints" true [("row",.int k)]]):=by
 have h1:(M++[HU.exc "NoPoints" true []])[M.length]? = some (.exc "NoPoints" true []):=by simp
 obtain ⟨s,hs⟩:=V5 (δ:=[some (.ref M.length),some (.int k)]) (L:=M++[.exc "NoPoints" true []]) (Pk "line " Avu) (Abf (f:=Ae 1) rfl hf) (Pk " is no point, or has a name that is there already" At8)
 have h2:(Df ["NoPlace","NoAsk","NoPoints","NoCounts","NoName"] (Ad (Ae 0) (Ad (Fp [(fC (.str "line ")),(Vb (Ae 1)),(fC (.str " is no point, or has a name that is there already"))]) Ag))) [some (.ref M.length),some (.int k)] (M++[.exc "NoPoints" true []])=some (.non,M++[.exc "NoPoints" true []]):=by
  unfold Df
  simp only[fCons_eq,fNil_eq,fVar_eq,bA,aL,aP,aC,aA,hs,h1]
  rw[if_pos Ss]
 have s1:(C3 (Df ["NoPlace","NoAsk","NoPoints","NoCounts","NoName"] (Ad (Ae 0) (Ad (Fp [(fC (.str "line ")),(Vb (Ae 1)),(fC (.str " is no point, or has a name that is there already"))]) Ag)))) [some (.ref M.length),some (.int k)] (M++[.exc "NoPoints" true []])=some (.nx [some (.ref M.length),some (.int k)],M++[.exc "NoPoints" true []]):=by
  rw[El,h2];rfl
 have s2:(Mx ["NoPlace","NoAsk","NoPoints","NoCounts","NoName"] "row" (Ae 0) (Ae 1)) [some (.ref M.length),some (.int k)] (M++[.exc "NoPoints" true []])=some (.nx [some (.ref M.length),some (.int k)],M++[.exc "NoPoints" true [("row",.int k)]]):=by
  unfold Mx
  simp only[fVar_eq,bA,aL,aP,aC,aA,h1]
  rw[if_pos Ss]
  simp
 unfold B8 fnU Hm
 simp only[bH,cK,if_true,aS,eU,eK,gO,cR]
 rw[Hv s1,s2]
 rfl
theorem Adj(h:k < 1000000):K3 (k:Int)=true:=by
 unfold K3
 simp only[bG,decide_eq_true_eq]
 omega
abbrev npX(L:UH)(j:Nat):UH:=L++[.exc "NoPoints" false [("row",.int (j:Int))]]
structure Tn(ps:List NP)(ℓ d:Nat)(M:UH):Prop where
 fl:M[ℓ]? = some (.lst (ps.map ptU))
 fd:M[d]? = some (.dic (kn ps))
 ne:ℓ≠d
 len:ps.length<=900000
theorem Acn{ℓ d:Nat}(t:Tn ps ℓ d M)(g:Gw M N):Tn ps ℓ d N:=⟨g.get t.fl,g.get t.fd,t.ne,t.len⟩
theorem Ajy{x l:Str}{ps:List NP}{ℓ d k:Nat}{M:UH}(t:Tn ps ℓ d M) :
  (fOr (Au (f2 (M3 false) (Ae 5) (fC .non))) (Au (f2 Nf (f2 Al (Ae 5) (fC (.int 0))) (Ae 2)))) [some (.str x),some (.ref ℓ),some (.ref d),some (.int (k:Int)),some (.str l),some (ptO (Dg l))] M=some (Gg l ps,M):=by
 unfold Gg
 cases Dg l with
 | none=>rfl
 | some p=>
  have hdic:Mq M d=some (kn ps):=by unfold Mq;rw[t.fd]
  have t1:(Au (f2 (M3 false) (Ae 5) (fC .non))) [some (.str x),some (.ref ℓ),some (.ref d),some (.int (k:Int)),some (.str l),some (ptO (some p))] M=some (false,M):=rfl
  rw[Hi,t1]
  simp only[aA,cU,if_false]
  refine Dz (Bq (u:=.str p.1) (L1:=M) rfl rfl ?_)
  simp only[Nf,toK,hdic,aC,aA,As2]
theorem Ai1{x l:Str}{ps:List NP}{ℓ d k:Nat}{M:UH}(ha:asc l)(hl:l.length<=100000)(hf:Few (Ct l))(hk:k < 1000000)(t:Tn ps ℓ d M)(x5:Option U) :
  ∃ M1,Gw M M1 /\
  (Gg l ps=true->Bp [some (.str x),some (.ref ℓ),some (.ref d),some (.int (k:Int)),some (.str l),x5] M=some (M1.length,[some (.str x),some (.ref ℓ),some (.ref d),some (.int (k:Int)),some (.str l),some (ptO (Dg l))],npX M1 k)) /\
  (Gg l ps=false->Bp [some (.str x),some (.ref ℓ),some (.ref d),some (.int (k:Int)),some (.str l),x5] M=none /\
   ∃ p,Dg l=some p/\B5 [some (.str x),some (.ref ℓ),some (.ref d),some (.int (k:Int)),some (.str l),x5] M=some (.nx [some (.str x),some (.ref ℓ),some (.ref d),some (.int (k:Int)),some (.str l),some (ptU p)],(M1.set d (.dic (kn (ps++[p])))).set ℓ (.lst ((ps++[p]).map ptU)))):=by
 obtain ⟨M1,e1,g1⟩:=Ad7 ha hl hf M
 have t1:=Acn t g1
 have s1:(A8 (A0 1 Fu (Ad (Ae 4) Ag)) (gN 5)) [some (.str x),some (.ref ℓ),some (.ref d),some (.int (k:Int)),some (.str l),x5] M=some (.nx [some (.str x),some (.ref ℓ),some (.ref d),some (.int (k:Int)),some (.str l),some (ptO (Dg l))],M1):=Dj (i:=5) (δ:=[some (.str x),some (.ref ℓ),some (.ref d),some (.int (k:Int)),some (.str l),x5]) (K6 rfl e1)
 have c:=Ajy (x:=x) (l:=l) (k:=k) t1
 refine ⟨M1,g1,fun hb=>?_,fun hb=>?_⟩
 ·rw[hb] at c
  unfold Bp
  rw[Pa rfl s1]
  refine Xg ?_
  rw[Arw c]
  exact Ade (C := "NoPoints") (u:=.int k) Ss rfl (Ac4 _ (Adj hk) _)
 ·rw[hb] at c
  refine ⟨?_,?_⟩
  ·unfold Bp
   rw[Pa rfl s1]
   exact Abb (by rw[Ash c];rfl)
  unfold Gg at hb
  cases hp:Dg l with
  | none=>rw[hp] at hb;cases hb
  | some p=>
   rw[hp] at hb s1 c
   have hnew:p.1∉ps.map (·.1):=of_decide_eq_false hb
   refine ⟨p,rfl,?_⟩
   have hix:∀ N,(f2 Al (Ae 5) (fC (.int 0))) [some (.str x),some (.ref ℓ),some (.ref d),some (.int (k:Int)),some (.str l),some (ptU p)] N=some (.str p.1,N):=fun _=>rfl
   have hdic:Mq M1 d=some (kn ps):=by unfold Mq;rw[t1.fd]
   have hlen:=t.len
   have hkl:(kn ps).length < 1000000:=by unfold kn;rw[aM];omega
   have s3:(Ye (Ae 2) (f2 Al (Ae 5) (fC (.int 0))) (fC (.bl true))) [some (.str x),some (.ref ℓ),some (.ref d),some (.int (k:Int)),some (.str l),some (ptU p)] M1=some (.nx [some (.str x),some (.ref ℓ),some (.ref d),some (.int (k:Int)),some (.str l),some (ptU p)],M1.set d (.dic (kn (ps++[p])))):=by
    unfold Ye
    simp only[fC_eq,aA,fVar_eq,aL,bA,aP,aC,hix,toK,hdic,Anp hnew]
    rw[if_pos hkl]
   have hl2:(M1.set d (.dic (kn (ps++[p]))))[ℓ]? = some (.lst (ps.map ptU)):=by rw[bE (eG t.ne)];exact t1.fl
   have ap:=Gv (ptU p) hl2 (by rw[aM];omega)
   have hx:ps.map ptU++[ptU p]=(ps++[p]).map ptU:=by simp
   rw[hx] at ap
   have ty:=G1 hl2
   have s4:(C3 (Bt "list" C1 (Ae 1) (Ad (Ae 5) Ag))) [some (.str x),some (.ref ℓ),some (.ref d),some (.int (k:Int)),some (.str l),some (ptU p)] (M1.set d (.dic (kn (ps++[p]))))=some (.nx [some (.str x),some (.ref ℓ),some (.ref d),some (.int (k:Int)),some (.str l),some (ptU p)],(M1.set d (.dic (kn (ps++[p])))).set ℓ (.lst ((ps++[p]).map ptU))):=by
    simp only[El,fMeth_eq,fVar_eq,fCons_eq,fNil_eq,bA,aL,aP,aC,aA,ty,if_true,ap]
   unfold B5
   exact Ay s1 (Ay (F0 c) (Ay s3 s4))
structure Hd(x:Str)(ls:List Str)(ℓ d e:Nat)(L:UH)(k:Nat)(δ:UE)(M:UH):Prop where
 tn:Tn (Gb ls k) ℓ d M
 at':M[e]? = some (.lst (ls.map U.str))
 g:Gw L M
 v:∃ y3 y4 y5,δ = [some (.str x),some (.ref ℓ),some (.ref d),y3,y4,y5]
abbrev gRd:FG:=MR.gTup 2 (MR.gCons (gN 3) (MR.gCons (gN 4) MR.gNil))
structure Ls(ls:List Str):Prop where
 as:∀ l∈ls,asc l
 ln:∀ l∈ls,l.length<=100000
 fw:∀ l∈ls,Few (Ct l)
 len:ls.length<=200000
theorem Vc{ls:List Str}{ℓ d e k:Nat}(W:Ls ls)(he1:e≠ℓ)(he2:e≠d)(hL:L.length<=ℓ/\L.length<=d)(h:Hd x ls ℓ d e L k δ M)(hl:ls[k]? = some l)(hst:∀ i,i < k->Cz ls i=false) :
  ∃ δ1,gRd (.tup [.int (k:Int),.str l]) δ M=some (δ1,M) /\
   (Cz ls k=true->∃ n δ' M',Bp δ1 M=some (n,δ',M')/\M'[n]? = some (.exc "NoPoints" false [("row",.int (k:Int))])/\Gw L M') /\
   (Cz ls k=false->Bp δ1 M=none/\∃ δ' M',B5 δ1 M=some (.nx δ',M')/\Hd x ls ℓ d e L (k+1) δ' M'):=by
 obtain ⟨t,ha,g,y3,y4,y5,rfl⟩:=h
 have hm:=dP hl
 have hkl:=(aD.mp hl).1
 have hlen:=W.len
 obtain ⟨M1,g1,A,B⟩:=Ai1 (x:=x) (k:=k) (W.as l hm) (W.ln l hm) (W.fw l hm) (by omega) t y5
 have hs:Cz ls k=Gg l (Gb ls k):=by unfold Cz;rw[hl]
 refine ⟨[some (.str x),some (.ref ℓ),some (.ref d),some (.int (k:Int)),some (.str l),y5],rfl,fun h=>?_,fun h=>?_⟩
 ·exact ⟨_,_,_,A (by rw[<- hs];exact h),by simp,g.trans (g1.trans (Gw.new _ _))⟩
 ·obtain ⟨hn,p,hp,e1⟩:=B (by rw[<- hs];exact h)
  have hsu:=Np hl hp
  have t1:=Acn t g1
  have hpl:=Vr k (hG hkl) hst
  refine ⟨hn,_,_,e1,⟨?_,?_,t.ne,?_⟩,?_,((g.trans g1).set hL.2 _).set hL.1 _,_,_,_,rfl⟩
  ·rw[hsu,bK (by rw[iH];exact (aD.mp t1.fl).1)]
  ·rw[hsu,bE t.ne,bK (aD.mp t1.fd).1]
  ·rw[hsu,aY,hpl];simp;omega
  ·rw[bE he1.symm,bE he2.symm];exact g1.get ha
theorem Aso{ls:List Str}{e:Nat}(h:M[e]? = some (.lst (ls.map U.str))):(IU.enm e).at k M=some ((ls[k]?).map fun l=>.tup [.int (k:Int),.str l]):=by
 have:=Am h
 unfold IU.at
 simp only[this,aC,bO]
 cases ls[k]? <;> rfl
theorem Xu{ls:List Str}{ℓ d e j:Nat}(W:Ls ls)(he1:e≠ℓ)(he2:e≠d)(hL:L.length<=ℓ/\L.length<=d)(hj:j < ls.length)(hs:Cz ls j=true)(hst:∀ i,i < j->Cz ls i=false):∀ (m k:Nat) (δ:UE) (M:UH),k<=j->j < m+k->Hd x ls ℓ d e L k δ M ->
  ∃ n δ' M',Kv (.enm e) gRd B5 Bp m k δ M=some (n,δ',M')/\M'[n]? = some (.exc "NoPoints" false [("row",.int (j:Int))])/\Gw L M'
 | 0,k,δ,M,h1,h2,_=>by omega
 | m+1,k,δ,M,h1,h2,h=>by
  have hk:k < ls.length:=by omega
  have hl:ls[k]? = some ls[k]:=aQ hk
  obtain ⟨δ1,eg,A,B⟩:=Vc W he1 he2 hL h hl fun i hi=>hst i (by omega)
  unfold Kv
  rw[Aso h.at',hl]
  simp only[aC,eg]
  by_cases q:k=j
  ·subst q
   obtain ⟨n,δ',M',e1,h3,h4⟩:=A hs
   exact ⟨n,δ',M',by rw[e1],h3,h4⟩
  ·obtain ⟨hn,δ',M',e1,h3⟩:=B (hst k (by omega))
   rw[hn,e1]
   exact Xu W he1 he2 hL hj hs hst m (k+1) δ' M' (by omega) (by omega) h3
theorem Abi{ls:List Str}{ℓ d e:Nat}(W:Ls ls)(he1:e≠ℓ)(he2:e≠d)(hL:L.length<=ℓ/\L.length<=d)(hst:∀ i,i < ls.length->Cz ls i=false):∀ (m k:Nat) (δ:UE) (M:UH),k<=ls.length->Hd x ls ℓ d e L k δ M ->
  Kv (.enm e) gRd B5 Bp m k δ M=none
 | 0,k,δ,M,_,_=>rfl
 | m+1,k,δ,M,h1,h=>by
  unfold Kv
  rw[Aso h.at']
  by_cases hk:k < ls.length
  ·have hl:ls[k]? = some ls[k]:=aQ hk
   obtain ⟨δ1,eg,A,B⟩:=Vc W he1 he2 hL h hl fun i hi=>hst i (by omega)
   obtain ⟨hn,δ',M',e1,h3⟩:=B (hst k hk)
   rw[hl]
   simp only[aC,eg,hn,e1]
   exact Abi W he1 he2 hL hst m (k+1) δ' M' hk h3
  ·rw[eC (by omega)];rfl
structure Txo(x:Str):Prop where
 as:asc x
 ln:x.length<=100000
 fw:∀ l∈bQ x "\n",Few (Ct l)
theorem Txo.ls(h:Txo x):Ls (bQ x "\n"):=⟨Fj h.as,fun l hl=>bJ (G6 l hl) h.ln,h.fw,by have:=J8 x "\n";have:=h.ln;omega⟩
inductive RdR(x:Str)(L:UH):Prop
 | ok (ps:List NP) (hd:due x = .ok ps) (hx:G2 [.str x] L=none) (L':UH) (e:Jt [.str x] L=some (.tup (ps.map ptU),L')) (g:Gw L L'):RdR x L
 | bad (j:Nat) (hd:due x = .bad j) (hj:j < 200000) (n:Nat) (L':UH) (hx:G2 [.str x] L=some (n,L')) (hn:L'[n]? = some (.exc "NoPoints" false [("row",.int (j:Int))])) (g:Gw L L'):RdR x L
theorem Ah5(hx:Txo x)(L:UH):RdR x L:=by
 have hne:(Au (f2 Bb (Ae 0) (fC (.str "")))) [some (.str x),none,none,none,none,none] L=some (decide (x.cps.toList=[]),L):=by
  have h1:=Fy hx.as Mi L
  rw[Kn,Jw] at h1
  exact Dz (Bq rfl rfl h1)
 by_cases h0:x.cps.toList=[]
 ·rw[decide_eq_true h0] at hne
  have hd:due x = .ok []:=by unfold due;rw[if_pos h0]
  have s1:(B7 (Au (f2 Bb (Ae 0) (fC (.str "")))) (Ce (Gj Ag)) B0) [some (.str x),none,none,none,none,none] L=some (.rt (.tup []),L):=(C8 hne).trans (Cg rfl)
  refine .ok [] hd (Ag7 rfl ?_) L (fn1 (n:=5) (Et s1)) (Gw.refl _)
  show D8 [some (.str x),none,none,none,none,none] L=none
  unfold D8 Lh
  rw[show xNo [some (.str x),none,none,none,none,none] L=none from rfl,s1]
 rw[decide_eq_false h0] at hne
 have hd:due x=Od (bQ x "\n") []:=by unfold due;rw[if_neg h0]
 have W:=hx.ls
 generalize hls:bQ x "\n" = ls at hd W
 have s1:(B7 (Au (f2 Bb (Ae 0) (fC (.str "")))) (Ce (Gj Ag)) B0) [some (.str x),none,none,none,none,none] L=some (.nx [some (.str x),none,none,none,none,none],L):=F0 hne
 have s2:(A8 (Cv Ag) (gN 1)) [some (.str x),none,none,none,none,none] L=some (.nx [some (.str x),some (.ref L.length),none,none,none,none],L++[.lst []]):=Dj (i:=1) (δ:=[some (.str x),none,none,none,none,none]) rfl
 have s3:(A8 Wi (gN 2)) [some (.str x),some (.ref L.length),none,none,none,none] (L++[.lst []])=some (.nx [some (.str x),some (.ref L.length),some (.ref (L.length+1)),none,none,none],L++[.lst []]++[.dic []]):=by
  refine Dj (i:=2) (δ:=[some (.str x),some (.ref L.length),none,none,none,none]) ?_
  unfold Wi
  rw[show (L++[HU.lst []]).length=L.length+1 by simp]
 generalize hM:L++[HU.lst []]++[HU.dic []]=M at s3
 have gM:Gw L M:=by rw[<- hM,bY];exact Gw.new _ _
 have hML:M.length=L.length+2:=by rw[<- hM];simp
 have hm0:M[L.length]? = some (.lst []):=by rw[<- hM];simp
 have hm1:M[L.length+1]? = some (.dic []):=by rw[<- hM];simp
 have hfe:(Bt "str" B2 (Ae 0) (Ad (fC (.str "\n")) Ag)) [some (.str x),some (.ref L.length),some (.ref (L.length+1)),none,none,none] M=some (.ref M.length,M++[.lst (ls.map U.str)]):=by
  rw[<- hls]
  exact Kl rfl rfl nl_ne (by have:=hx.ln;omega)
 have h00:Hd x ls L.length (L.length+1) M.length L 0 [some (.str x),some (.ref L.length),some (.ref (L.length+1)),none,none,none] (M++[.lst (ls.map U.str)]):=
  ⟨⟨by rw[aK (by omega)];exact hm0,by rw[aK (by omega)];exact hm1,by omega,by show (0:Nat)<=_;omega⟩,by simp,gM.trans (Gw.new _ _),none,none,none,rfl⟩
 have hen:Ip (Ad (Bt "str" B2 (Ae 0) (Ad (fC (.str "\n")) Ag)) Ag) [some (.str x),some (.ref L.length),some (.ref (L.length+1)),none,none,none] M=some (.enm M.length,M++[.lst (ls.map U.str)]):=by
  unfold Ip
  simp only[fCons_eq,hfe,aA,fNil_eq,aC,Am h00.at']
 have hsz:(IU.enm M.length).size (M++[.lst (ls.map U.str)])=ls.length:=by
  unfold IU.size
  simp only[Am h00.at',aM]
 have xs:∀ r,Aev (Ip (Ad (Bt "str" B2 (Ae 0) (Ad (fC (.str "\n")) Ag)) Ag)) gRd B5 Bp [some (.str x),some (.ref L.length),some (.ref (L.length+1)),none,none,none] M=r->D8 [some (.str x),none,none,none,none,none] L=(match r with | some q=>some q | none=>none):=fun r h=>by
  unfold D8
  rw[Pa rfl s1,Pa rfl s2,Pa rfl s3]
  cases r with
  | some q=>exact Xg h
  | none=>exact Abb h
 have xf:Aev (Ip (Ad (Bt "str" B2 (Ae 0) (Ad (fC (.str "\n")) Ag)) Ag)) gRd B5 Bp [some (.str x),some (.ref L.length),some (.ref (L.length+1)),none,none,none] M=Kv (.enm M.length) gRd B5 Bp (ls.length+1) 0 [some (.str x),some (.ref L.length),some (.ref (L.length+1)),none,none,none] (M++[.lst (ls.map U.str)]):=by
  unfold Aev
  rw[hen]
  simp only[hsz]
 have he1:M.length≠L.length:=by omega
 have he2:M.length≠L.length+1:=by omega
 by_cases hall:∀ i,i < ls.length->Cz ls i=false
 ·have hno:=Abi (x:=x) W he1 he2 ⟨aJ _,gE _⟩ hall (ls.length+1) 0 _ _ (eO _) h00
  obtain ⟨δ',L',e,Q⟩:=Ac9 (us:=ls.map U.str) (g:=gRd) (body:=Ks) (fun k δ' N=>k<=ls.length/\Hd x ls L.length (L.length+1) M.length L k δ' N) hfe ⟨eO _,h00⟩ (fun k δ N h=>Am h.2.at')
   (fun k u δ N hu h=>by
    rw[bO] at hu
    obtain ⟨l,hl,rfl⟩:=mpd hu
    have hk:=(aD.mp hl).1
    obtain ⟨δ1,eg,_,B⟩:=Vc W he1 he2 ⟨aJ _,gE _⟩ h.2 hl fun i hi=>hall i (by omega)
    obtain ⟨_,δ2,M2,e2,h3⟩:=B (hall k hk)
    exact ⟨δ1,N,eg,δ2,M2,.inl e2,hk,h3⟩)
  rw[aM] at Q
  obtain ⟨_,⟨t,_,g,y3,y4,y5,rfl⟩⟩:=Q
  refine .ok (Gb ls ls.length) (by rw[hd,W9 hall]) (Ag7 rfl (xs none (by rw[xf,hno]))) L' (fn1 (n:=5) ?_) g
  unfold Mt
  refine Ay s1 (Ay s2 (Ay s3 (Ay e (Cg (Fx rfl ?_)))))
  have:=Am t.fl
  simp only[E6,this,aC]
 ·obtain ⟨j,hj,hs,hst⟩:∃ j,j < ls.length/\Cz ls j=true/\∀ i,i < j->Cz ls i=false:=by
   have:∀ n,n<=ls.length->(∀ i,i < n->Cz ls i=false)\/∃ j,j < n/\Cz ls j=true/\∀ i,i < j->Cz ls i=false:=by
    intro n
    induction n with
    | zero=>intro _;exact .inl fun i hi=>by omega
    | succ n ih=>
     intro hn
     rcases ih (by omega) with h | ⟨j,h1,h2,h3⟩
     ·cases q:Cz ls n with
      | true=>exact .inr ⟨n,by omega,q,h⟩
      | false=>
       refine .inl fun i hi=>?_
       rcases nJ.mp hi with z | z
       ·exact h i z
       ·rw[z];exact q
     ·exact .inr ⟨j,by omega,h2,h3⟩
   rcases this ls.length (aJ _) with h | h
   ·exact absurd h hall
   ·exact h
  obtain ⟨n,δ',M',e,h3,h4⟩:=Xu (x:=x) W he1 he2 ⟨aJ _,gE _⟩ hj hs hst (ls.length+1) 0 _ _ (eO _) (by omega) h00
  have hxs:D8 [some (.str x),none,none,none,none,none] L=some (n,δ',M'):=xs (some (n,δ',M')) (by rw[xf,e])
  exact .bad j (by rw[hd,Ur hj hs hst]) (by have:=W.len;omega) n M' (Ao1 rfl hxs) h3 h4
theorem Af8{p:NP}(ha:asc l)(h:Dg l=some p):asc p.1:=by
 unfold Dg at h
 split at h
 ·rename_i a b c e
  split at h
  ·cases h
   exact Fj ha a (by show a∈Ct l;rw[e];simp)
  ·cases h
 ·cases h
theorem Xb:∀ (ls:List Str) (acc ps:List NP),(∀ l∈ls,asc l)->(∀ p∈acc,asc p.1)->Od ls acc = .ok ps->∀ p∈ps,asc p.1
 | [],acc,ps,_,h,e=>by unfold Od at e;cases e;exact h
 | l::r,acc,ps,hl,h,e=>by
  unfold Od at e
  cases hp:Dg l with
  | none=>rw[hp] at e;cases e
  | some p=>
   rw[hp] at e
   simp only at e
   split at e
   ·cases e
   ·refine Xb r (acc++[p]) ps (fun x hx=>hl x (aR _ hx)) (fun q hq=>?_) e
    rcases bM.mp hq with z | z
    ·exact h q z
    ·rw[dH] at z;subst z
     exact Af8 (hl l (aW ..)) hp
theorem Aiy(ha:asc x)(h:due x = .ok ps):∀ p∈ps,asc p.1:=by
 unfold due at h
 split at h
 ·cases h;intro p hp;cases hp
 ·exact Xb _ [] ps (Fj ha) (fun p hp=>by cases hp) h
theorem Aq0{p:NP}(h:asc p.1)(n:Nat):Pl (n+1) (ptU p):=by
 unfold ptU
 rw[M9]
 intro u hu
 simp only[aV,eP,or_false] at hu
 have hs:lX p.1=true:=by
  have:=Nj h
  unfold Pl at this
  exact this
 rcases hu with rfl | rfl | rfl
 ·unfold Pl;exact hs
 ·unfold Pl;trivial
 ·unfold Pl;trivial
theorem As8:(["NoAsk","NoCounts","NoName","NoPlace"]:List Str).any (isX "NoPoints")=false:=by decide
theorem Aqx:isX "NoPoints" "NoPoints" = true:=by decide
theorem Aqj:isX "NoPoints" "ValueError" = true:=by decide
theorem Yr(hx:Txo x)(L:UH):∃ L',H9 [.str x] L=some (.bl true,L')/\Gw L L':=by
 obtain ⟨L1,e1,g1⟩:=Ak0 hx.as hx.ln L
 have s1:(A8 (A0 1 O9 (Ad (Ae 0) Ag)) (gN 1)) [some (.str x),none,none,none,none] L=some (.nx [some (.str x),some (due x).u,none,none,none],L1):=Dj (i:=1) (δ:=[some (.str x),none,none,none,none]) (K6 rfl e1)
 have s2:(A8 (fC .non) (gN 2)) [some (.str x),some (due x).u,none,none,none] L1=some (.nx [some (.str x),some (due x).u,some .non,none,none],L1):=rfl
 have s3:(A8 (fC .non) (gN 3)) [some (.str x),some (due x).u,some .non,none,none] L1=some (.nx [some (.str x),some (due x).u,some .non,some .non,none],L1):=rfl
 rcases Ah5 hx L1 with ⟨ps,hd,hxr,L2,e2,g2⟩ | ⟨j,hd,hj,n,L2,hxr,hn,g2⟩
 ·rw[hd] at s1 s2 s3
  have xo:Ei [some (.str x),some (Rd.ok ps).u,some .non,some .non,none] L1=none:=by
   unfold Ei
   refine Anl ?_
   unfold Ai9
   simp only[fCons_eq,fNil_eq,fVar_eq,aL,aP,aC,aA,bH,cK,if_true,hxr]
  have s4:(Vv G7 Ei ["NoPlace","NoAsk","NoPoints","NoCounts","NoName"] 4 Hw) [some (.str x),some (Rd.ok ps).u,some .non,some .non,none] L1=some (.nx [some (.str x),some (Rd.ok ps).u,some (.tup (ps.map ptU)),some .non,none],L2):=by
   rw[Ang xo]
   unfold G7
   exact Dj (i:=2) (δ:=[some (.str x),some (Rd.ok ps).u,some .non,some .non,none]) (K6 rfl e2)
  have t5:(Em (Qr "tuple" (Ae 1))) [some (.str x),some (Rd.ok ps).u,some (.tup (ps.map ptU)),some .non,none] L2=some (true,L2):=rfl
  have hp:Pl 6 (.tup (ps.map ptU)):=by
   rw[M9]
   intro u hu
   obtain ⟨p,hp,rfl⟩:=dI.mp hu
   exact Aq0 (Aiy hx.as hd p hp) 4
  refine ⟨L2,fn1 (n:=4) ?_,g1.trans g2⟩
  unfold P1
  refine Ay s1 (Ay s2 (Ay s3 (Ay s4 (Et ((C8 t5).trans (Cg ?_))))))
  have c1:(f2 (M3 false) (Ae 3) (fC .non)) [some (.str x),some (Rd.ok ps).u,some (.tup (ps.map ptU)),some .non,none] L2=some (.bl true,L2):=rfl
  rw[Iy,c1]
  simp only[aA,if_true]
  refine Bq (u:=.tup (ps.map ptU)) (v:=.tup (ps.map ptU)) rfl rfl ?_
  rw[Xh L2 hp hp,Ahr hp]
 ·rw[hd] at s1 s2 s3
  have xo:Ei [some (.str x),some (Rd.bad j).u,some .non,some .non,none] L1=some (n,[some (.str x),some (Rd.bad j).u,some .non,some .non,none],L2):=by
   unfold Ei
   refine Akt ?_
   unfold Ai9
   simp only[fCons_eq,fNil_eq,fVar_eq,aL,aP,aC,aA,bH,cK,if_true,hxr]
  have s4:(Vv G7 Ei ["NoPlace","NoAsk","NoPoints","NoCounts","NoName"] 4 Hw) [some (.str x),some (Rd.bad j).u,some .non,some .non,none] L1=some (.nx [some (.str x),some (Rd.bad j).u,some .non,some (.ref n),none],L2):=
   Akv (b:=G7) (suite:=Hw) (δ2:=[some (.str x),some (Rd.bad j).u,some .non,some (.ref n),some (.ref n)]) xo hn Ss rfl
  have t5:(Em (Qr "tuple" (Ae 1))) [some (.str x),some (Rd.bad j).u,some .non,some (.ref n),none] L2=some (false,L2):=rfl
  have i1:∀ D,Hh ["NoPlace","NoAsk","NoPoints","NoCounts","NoName"] D (Ae 3) [some (.str x),some (Rd.bad j).u,some .non,some (.ref n),none] L2=some (.bl (isX "NoPoints" D),L2):=fun D=>Ag1 rfl hn Ss
  have i2:U6 ["NoPlace","NoAsk","NoPoints","NoCounts","NoName"] ["NoAsk","NoCounts","NoName","NoPlace"] (Ae 3) [some (.str x),some (Rd.bad j).u,some .non,some (.ref n),none] L2=some (.bl ((["NoAsk","NoCounts","NoName","NoPlace"]:List Str).any (isX "NoPoints")),L2):=Ajk rfl hn Ss
  rw[As8] at i2
  have j1:=i1 "NoPoints"
  have j2:=i1 "ValueError"
  rw[Aqx] at j1
  rw[Aqj] at j2
  have fl:(Jg ["NoPlace","NoAsk","NoPoints","NoCounts","NoName"] "row" (Ae 3)) [some (.str x),some (Rd.bad j).u,some .non,some (.ref n),none] L2=some (.int (j:Int),L2):=by
   unfold Jg
   have:=Lx hn Ss
   simp only[fVar_eq,bA,aL,aP,aC,aA,this]
   rfl
  have c6:(fOr (Em (U6 ["NoPlace","NoAsk","NoPoints","NoCounts","NoName"] ["NoAsk","NoCounts","NoName","NoPlace"] (Ae 3))) (Gi (Em (Hh ["NoPlace","NoAsk","NoPoints","NoCounts","NoName"] "NoPoints" (Ae 3))))) [some (.str x),some (Rd.bad j).u,some .non,some (.ref n),none] L2=some (false,L2):=by
   simp only[Hi,fTru_eq,i2,truU_bl,fNot_eq,j1,aA,aC,cU,if_false,pM]
  have isb:(Qr "bool" (Jg ["NoPlace","NoAsk","NoPoints","NoCounts","NoName"] "row" (Ae 3))) [some (.str x),some (Rd.bad j).u,some .non,some (.ref n),none] L2=some (.bl false,L2):=by
   unfold Qr
   rw[fl];rfl
  have isi:(Qr "int" (Jg ["NoPlace","NoAsk","NoPoints","NoCounts","NoName"] "row" (Ae 3))) [some (.str x),some (Rd.bad j).u,some .non,some (.ref n),none] L2=some (.bl true,L2):=by
   unfold Qr
   rw[fl];rfl
  have c7:(fOr (Gi (Em (Hh ["NoPlace","NoAsk","NoPoints","NoCounts","NoName"] "ValueError" (Ae 3)))) (Em (Qr "bool" (Jg ["NoPlace","NoAsk","NoPoints","NoCounts","NoName"] "row" (Ae 3))))) [some (.str x),some (Rd.bad j).u,some .non,some (.ref n),none] L2=some (false,L2):=by
   simp only[Hi,fTru_eq,truU_bl,fNot_eq,j2,isb,aA,aC,cU,if_false,pM]
  refine ⟨L2,fn1 (n:=4) ?_,g1.trans g2⟩
  unfold P1
  refine Ay s1 (Ay s2 (Ay s3 (Ay s4 (Ay (F0 t5) (Ay (F0 c6) (Ay (F0 c7) (Cg ?_)))))))
  rw[Iy,isi]
  simp only[aA,if_true]
  refine Bq (v:=.int (j:Int)) fl rfl ?_
  rw[semEq_int,beq_self_eq_true]
theorem Xa(c:Nat):∀ (a b:List Str),a≠[]->b≠[]->(cJ ⟨#[c]⟩ (a++b)).cps.toList=(cJ ⟨#[c]⟩ a).cps.toList++c::(cJ ⟨#[c]⟩ b).cps.toList
 | [],b,h,_=>absurd rfl h
 | [x],[],_,h=>absurd rfl h
 | [x],y::b,_,_=>join_cons c x y b
 | x::x'::a,b,_,hb=>by
  have ih:=Xa c (x'::a) b (by simp) hb
  have e1:=join_cons c x x' (a++b)
  have e2:=join_cons c x x' a
  rw[gX,gX,e1,e2,<- gX,ih]
  simp
theorem Abw{x:Int}:∀ {l:List Int},x∈l->x<=Pg l
 | [a],h=>by rw[dH.mp h];exact Int.le_refl _
 | a::b::r,h=>by
  show x<=max a (Pg (b::r))
  rcases aV.mp h with rfl | h
  ·exact Int.le_max_left ..
  ·exact Int.le_trans (Abw h) (Int.le_max_right ..)
theorem toI_ints(l:List Int):mapO toI (l.map U.int)=some l:=by
 induction l with
 | nil=>rfl
 | cons a r ih=>simp only[aS,mapO,toI,ih,aA,aC]
theorem join_cons'(c:Nat)(a b:Str)(r:List Str):(cJ ⟨#[c]⟩ (a::b::r)).length=a.length+1+(cJ ⟨#[c]⟩ (b::r)).length:=by
 rw[len_cps,join_cons,aY,bH,<- len_cps,<- len_cps];omega
theorem Xp(c d:Nat):∀ ls:List Str,(cJ ⟨#[c]⟩ ls).length=(cJ ⟨#[d]⟩ ls).length
 | []=>rfl
 | [a]=>rfl
 | a::b::r=>by rw[join_cons',join_cons',Xp c d (b::r)]
theorem T3:∀ ls:List Str,ls≠[]->(cJ ⟨#[32]⟩ (ls.map Ct).flatten).cps.toList=(cJ ⟨#[32]⟩ ls).cps.toList
 | [],h=>absurd rfl h
 | [a],_=>by
  have e:([a].map Ct).flatten=bQ a " " := by simp[Ct]
  rw[e,<- sp_eq,fE];rfl
 | a::b::r,_=>by
  have e:((a::b::r).map Ct).flatten=bQ a " " ++ ((b::r).map Ct).flatten:=rfl
  have hne:((b::r).map Ct).flatten≠[]:=fun q=>by
   have h1:Ct b≠[]:=G4 _ _
   have e2:((b::r).map Ct).flatten=Ct b++(r.map Ct).flatten:=rfl
   rw[e2,nX] at q
   exact h1 q.1
  rw[e,Xa 32 _ _ (G4 _ _) hne,join_cons,T3 (b::r) (by simp),<- sp_eq,fE]
theorem Aar{ls:List Str}(h:ls≠[]):bQ (cJ ⟨#[32]⟩ ls) " " = (ls.map Ct).flatten:=by
 have hne:(ls.map Ct).flatten≠[]:=fun q=>by
  cases ls with
  | nil=>exact h rfl
  | cons b r=>
   have h1:Ct b≠[]:=G4 _ _
   have e2:((b::r).map Ct).flatten=Ct b++(r.map Ct).flatten:=rfl
   rw[e2,nX] at q
   exact h1 q.1
 have hf:∀ p∈(ls.map Ct).flatten,32∉p.cps.toList:=fun p hp=>by
  obtain ⟨l,hl,hp⟩:=rB.mp hp
  obtain ⟨x,_,rfl⟩:=dI.mp hl
  refine qA x 32 p ?_
  rw[<- sp_eq];exact hp
 have e:cJ ⟨#[32]⟩ ls=cJ ⟨#[32]⟩ (ls.map Ct).flatten:=str_ext (T3 ls h).symm
 rw[e,sp_eq,Ro hne hf]
theorem Ah8(x:Str):iT x "\n" " " = cJ ⟨#[32]⟩ (bQ x "\n"):=by
 rw[Tv,StrLaws.replace_one,sp_eq]
theorem Acb(x:Str):(iT x "\n" " ").length=x.length:=by
 rw[Ah8,Xp 32 10,<- Tv,fE]
def numsOf(ws:List Str):List Int:=(ws.filter Er).map Cr
theorem Ww(ws:List Str)(w:Str):numsOf (ws++[w])=numsOf ws++(if Er w=true then [Cr w] else []):=by
 unfold numsOf
 rw[List.filter_append,eJ]
 cases h:Er w <;> simp[h]
theorem Us(ws:List Str):(numsOf ws).length<=ws.length:=by
 unfold numsOf
 rw[aM];exact List.length_filter_le ..
theorem Kf{a b:Nat}{xs ys:List U}(h1:L[a]? = some (.lst xs))(h2:L[b]? = some (.lst ys))(hs:xs.length+ys.length<=1000000):Ar (.ref a) (.ref b) L=some (.ref L.length,L++[.lst (xs++ys)]):=by
 simp only[Ar,Am h1,Am h2,lstAt,h1,h2,aA]
 rw[if_pos (small_of (by omega))]
inductive ByR(x:Str)(L:UH)(r:Option (U×UH)):Prop
 | mk (b:Bool) (L':UH) (e:r=some (.bl b,L')) (g:Gw L L') (h:b=false->∀ l∈bQ x "\n",Few (Ct l)):ByR x L r
theorem Aad(ha:asc x)(hl:x.length<=100000)(L:UH):ByR x L (Ko [.str x] L):=by
 generalize hW:((bQ x "\n").map Ct).flatten=W
 have hsp:bQ (iT x "\n" " ") " " = W:=by rw[Ah8,Aar (G4 _ _),hW]
 have wmem:∀ w∈W,∃ l∈bQ x "\n",w∈Ct l:=fun w hw=>by
  rw[<- hW] at hw
  obtain ⟨q,hq,hw⟩:=rB.mp hw
  obtain ⟨l,hl,rfl⟩:=dI.mp hq
  exact ⟨l,hl,hw⟩
 have wa:∀ w∈W,asc w:=fun w hw=>by obtain ⟨l,h1,h2⟩:=wmem w hw;exact Fj (Fj ha l h1) w h2
 have wl:∀ w∈W,w.length<=100000:=fun w hw=>by obtain ⟨l,h1,h2⟩:=wmem w hw;exact bJ (G6 w h2) (bJ (G6 l h1) hl)
 have wc:W.length<=200000:=by
  have:=J8 (iT x "\n" " ") " "
  rw[hsp,Acb] at this;omega
 have s1:(A8 (Cv (Ad (fC (.int 0)) Ag)) (gN 1)) [some (.str x),none,none] L=some (.nx [some (.str x),some (.ref L.length),none],L++[.lst [.int 0]]):=Dj (i:=1) (δ:=[some (.str x),none,none]) rfl
 generalize hM0:L++[HU.lst [U.int 0]]=M0 at s1
 have g0:Gw L M0:=⟨_,hM0.symm⟩
 have h0:M0[L.length]? = some (.lst [.int 0]):=by rw[<- hM0];simp
 have hrep:(Aag "\n" " " (Ae 0)) [some (.str x),some (.ref L.length),none] M0=some (.str (iT x "\n" " "),M0):=by
  unfold Aag
  simp only[fVar_eq,aL,aP,aC,aA]
  rw[if_pos (by omega)]
 have hsl:(Bt "str" B2 (Aag "\n" " " (Ae 0)) (Ad (fC (.str " ")) Ag)) [some (.str x),some (.ref L.length),none] M0=some (.ref M0.length,M0++[.lst (W.map U.str)]):=by
  have:=Kl (fv:=Aag "\n" " " (Ae 0)) (fs:=fC (.str " ")) (b := " ") hrep rfl Aby (by rw[Acb];omega)
  rw[hsp] at this
  exact this
 generalize hM:M0++[HU.lst (W.map U.str)]=M at hsl
 have gM:Gw M0 M:=⟨_,hM.symm⟩
 have hat:M[M0.length]? = some (.lst (W.map U.str)):=by rw[<- hM];simp
 have hi:(Cu (Bt "str" B2 (Aag "\n" " " (Ae 0)) (Ad (fC (.str " ")) Ag))) [some (.str x),some (.ref L.length),none] M0=some (.ref M0.length,M):=by
  unfold Cu
  rw[hsl,aA,Gm (Am hat)];rfl
 obtain ⟨δ',M1,e,gm,n,y,rfl,hn⟩:=Abz (us:=W.map U.str) (g:=gN 2) (body:=Om) (n:=M0.length) (fun k δ N=>Gw M N/\∃ n y,δ = [some (.str x),some (.ref n),y]/\N[n]? = some (.lst ((0::numsOf (W.take k)).map U.int)))
  hi ⟨Gw.refl _,L.length,none,rfl,gM.get h0⟩ (fun k δ N h=>Am (h.1.get hat))
  (fun k u δ N hu h=>by
   obtain ⟨gN',n,y,rfl,hn⟩:=h
   rw[bO] at hu
   obtain ⟨w,hw,rfl⟩:=mpd hu
   have hm:=dP hw
   obtain ⟨n1,N1,f1,g1,_,h1⟩:=Lj (wa w hm) (wl w hm) N
   have hx:(if Er w=true then [U.int (Cr w)] else [])=(if Er w=true then [Cr w] else []).map U.int:=by split <;> rfl
   rw[hx] at h1
   have hlen:((0::numsOf (W.take k)).map U.int).length+((if Er w=true then [Cr w] else []).map U.int).length<=1000000:=by
    have h2:=Us (W.take k)
    rw[gS] at h2
    rw[aM,aM,bH]
    split <;> simp <;> omega
   have ea:=Kf (g1.get hn) h1 hlen
   refine ⟨[some (.str x),some (.ref n),some (.str w)],N,rfl,_,_,.inl (Dj (i:=1) (δ:=[some (.str x),some (.ref n),some (.str w)]) (Bq (L1:=N) rfl (K6 rfl f1) ea)),gN'.trans (g1.trans (Gw.new _ _)),_,_,rfl,?_⟩
   rw[iO,hw]
   show (N1++[HU.lst _])[N1.length]? = some (.lst ((0::numsOf (W.take k++[w])).map U.int))
   rw[Ww,bD (aJ _),eK,<- eJ]
   rfl)
 rw[aM,cZ (aJ _)] at hn
 generalize hns:0::numsOf W=ns at hn
 have nl:ns.length<=200001:=by rw[<- hns,bH];have:=Us W;omega
 have hs:=Am hn
 have hi2:(Cu (Ae 1)) [some (.str x),some (.ref n),y] M1=some (.ref n,M1):=by
  unfold Cu
  simp only[fVar_eq,aL,bA,aP,aC,aA,Gm hs]
 obtain ⟨z,ec⟩:=E9 (ix:=[none]) (fi:=Cu (Ae 1)) (it:=.ref n) (g:=gN 0) (tt:=none) (fe:=Jr) (δ:=[some (.str x),some (.ref n),y]) (L:=M1) (L0:=M1)
  ns U.int (fun _=>true) (fun i=>.int (if i < 0 then -i else i)) (fun δ=>∃ a,δ = [a]) hi2 (by unfold IU.size;simp only;rw[hn];simp) (by omega) ⟨none,rfl⟩
  (fun k q=>by
   have:(M1++q)[n]? = some (.lst (ns.map U.int)):=by rw[aK (aD.mp hn).1];exact hn
   unfold IU.at;simp only;rw[this])
  (fun i δ q _ zz=>by
   obtain ⟨a,hδ⟩:=zz
   subst hδ
   exact ⟨[some (.int i)],rfl,⟨_,rfl⟩,[],by simp[testU],fun _=>⟨[],by simp[Jr,semAbs]⟩⟩)
 have hff:iU (fun _=>true) ns=ns:=eY.mpr (fun _ _=>rfl)
 rw[hff] at ec
 generalize hM2:M1++z++[HU.lst (ns.map fun i=>U.int (if i < 0 then -i else i))]=M2 at ec
 have h2:M2[(M1++z).length]? = some (.lst ((ns.map fun i=>if i < 0 then -i else i).map U.int)):=by rw[<- hM2,kE];simp[Function.comp_def]
 have g2:Gw M1 M2:=⟨z++[HU.lst (ns.map fun i=>U.int (if i < 0 then -i else i))],by rw[<- hM2,bY]⟩
 have em:Pz [.ref (M1++z).length] M2=some (.int (Pg (ns.map fun i=>if i < 0 then -i else i)),M2):=by
  have hp:(ns.map fun i=>if i < 0 then -i else i).isEmpty=false:=by rw[<- hns];rfl
  unfold Pz Acs
  simp only[Am h2,aA,toI_ints,hp,cU,if_false]
 have ep:(f2 Hc (fC (.int 10)) (fC (.int 10))) [some (.str x),some (.ref n),y] M2=some (.int 10000000000,M2):=Bq rfl rfl (by rw[Aan];rfl)
 refine ⟨decide (10000000000<=Pg (ns.map fun i=>if i < 0 then -i else i)),M2,fn1 (n:=2) ?_,g0.trans (gM.trans (gm.trans g2)),fun hb l hl w hw hn'=>?_⟩
 ·unfold Rp
  refine Ay s1 (Ay e (Cg (Bq (Fx ec em) ep (Adp _ _ _))))
 ·have hlt:=of_decide_eq_false hb
  have hm:Cr w∈ns:=by
   rw[<- hns]
   refine aR _ (dI.mpr ⟨w,jK.mpr ⟨?_,hn'⟩,rfl⟩)
   rw[<- hW]
   exact rB.mpr ⟨Ct l,dI.mpr ⟨l,hl,rfl⟩,hw⟩
  have:=Abw (dI.mpr ⟨Cr w,hm,rfl⟩:(if Cr w < 0 then -Cr w else Cr w)∈ns.map fun i=>if i < 0 then -i else i)
  split at this <;> omega
theorem Ut{l:List U}(u:U)(h:L[n]? = some (.lst l))(hi:i<=l.length)(hl:l.length < 1000000):D9 (.ref n) [.int (i:Int),u] L=some (.non,L.set n (.lst (l.take i++u::l.drop i))):=by
 have hz:l.length < sizeLine:=by unfold sizeLine;omega
 have h63:(i:Int) < 2 ^ 63:=by omega
 show (lstAt L n).bind _=_
 rw[Ep h,aA,if_pos ⟨mI i,h63,hz⟩,cF,nZ hi]
def szW(ws:List Str):Nat:=(ws.map fun x=>x.length+1).sum
theorem Acr(a b:List Str):szW (a++b)=szW a+szW b:=by unfold szW;rw[eJ,List.sum_append]
theorem szW_cons(x:Str)(r:List Str):szW (x::r)=x.length+1+szW r:=rfl
theorem Adw(a:List Str)(k:Nat):szW a=szW (a.take k)+szW (a.drop k):=by rw[<- Acr,oF]
theorem Ab0(a:List Str)(k:Nat)(x:Str):szW (a.take k++x::a.drop k)=szW a+x.length+1:=by
 have:=Adw a k
 rw[Acr,szW_cons];omega
theorem Pu:∀ (a:List Str) (k:Nat),szW (a.eraseIdx k)<=szW a
 | [],_=>aJ _
 | x::r,0=>by rw[List.eraseIdx_cons_zero,szW_cons];omega
 | x::r,k+1=>by rw[gW,szW_cons,szW_cons];have:=Pu r k;omega
theorem Mc:∀ (a:List Str) (k:Nat) (x:Str),szW (a.set k x)<=szW a+x.length+1
 | [],_,_=>by simp[szW]
 | y::r,0,x=>by rw[List.set_cons_zero,szW_cons,szW_cons];omega
 | y::r,k+1,x=>by rw[List.set_cons_succ,szW_cons,szW_cons];have:=Mc r k x;omega
theorem Kj(a:List Str):a.length<=szW a:=by
 induction a with
 | nil=>exact eO _
 | cons x r ih=>rw[szW_cons,bH];omega
theorem Td(c:Nat):∀ ws:List Str,ws≠[]->(cJ ⟨#[c]⟩ ws).length+1=szW ws
 | [],h=>absurd rfl h
 | [a],_=>rfl
 | a::b::r,_=>by
  have:=Td c (b::r) (by simp)
  rw[join_cons',szW_cons];omega
theorem U2(c:Nat)(ws:List Str):(cJ ⟨#[c]⟩ ws).length<=szW ws:=by
 cases ws with
 | nil=>exact aJ _
 | cons a r=>have:=Td c (a::r) (by simp);omega
theorem Uz(c:Nat)(x:Str):szW (bQ x ⟨#[c]⟩)=x.length+1:=by
 rw[<- Td c _ (G4 _ _),fE]
theorem Rv(hc:c < 128):∀ ws:List Str,(∀ x∈ws,asc x)->asc (cJ ⟨#[c]⟩ ws)
 | [],_=>Gf fun d hd=>by have hd':d∈([]:List Nat):=hd;cases hd'
 | [a],h=>h a (aW ..)
 | a::b::r,h=>Gf fun d hd=>by
  rw[join_cons] at hd
  rcases bM.mp hd with z | z
  ·exact E5 (h a (aW ..)) d z
  ·rcases aV.mp z with rfl | z
   ·exact hc
   ·exact E5 (Rv hc (b::r) fun x hx=>h x (aR _ hx)) d z
theorem Je(ha:asc a)(hb:asc b):asc (a++b):=Gf fun d hd=>by
 rw[app_cps] at hd
 rcases bM.mp hd with z | z
 ·exact E5 ha d z
 ·exact E5 hb d z
theorem Q7(a b:Str):(a++b).length=a.length+b.length:=by rw[len_cps,app_cps,aY,<- len_cps,<- len_cps]
theorem Me(h:asc x)(lo hi:Option Int):asc (dF x lo hi):=Gf fun c hc=>by
 unfold dF at hc
 split at hc
 ·exact E5 h c hc
 ·simp only[List.mem_filterMap] at hc
  obtain ⟨i,_,hi⟩:=hc
  obtain ⟨hi1,hi2⟩:=iS.mp hi
  exact E5 h c (by rw[<- hi2];exact Array.getElem_mem_toList hi1)
theorem Ahl{s:Str}(hs:s=⟨#[c]⟩)(hv:fv δ N=some (.ref n,N))(hn:N[n]? = some (.lst (ws.map U.str)))(hz:szW ws<=1000000):(Bt "str" semJoin (fC (.str s)) (Ad fv Ag)) δ N=some (.str (cJ ⟨#[c]⟩ ws),N):=by
 have ty:∀ N,tyU "str" (.str s) N=true:=fun _=>rfl
 have hsum:(ws.map (·.length)).sum+ws.length=szW ws:=by
  unfold szW
  clear hn hz
  induction ws with
  | nil=>rfl
  | cons a r ih=>simp only[aS,sG,bH];omega
 rw[fMeth_eq]
 simp only[fC_eq,aA,ty,if_true,fCons_eq,hv,fNil_eq,aC,semJoin,Ep hn,Sl]
 rw[if_pos ⟨by rw[hs];show 1<=16;decide,by omega⟩,hs]
 show some (U.str (dZ ⟨#[c]⟩ ws),N)=_
 rw[iK]
structure Wd(L0 L:UH)(d w:Nat)(B:Int)(ws:List Str):Prop where
 dk:Deck L d B
 ex:Ex d L0 L
 at':L[w]? = some (.lst (ws.map U.str))
 as:∀ x∈ws,asc x
theorem Wd.new{w:Nat}(h:Wd L0 L d w B ws)(x:List HU):Wd L0 (L++x) d w B ws:=
 ⟨h.dk.new x,h.ex.trans (Ex.new d L x),by rw[aK (aD.mp h.at').1];exact h.at',h.as⟩
theorem Wd.next{w:Nat}{many:Int}(h:Wd L0 L d w B ws)(hw:w≠d)(hB:B<=100000000000000000)(h0:0 < many)(h1:many < 1073741824) :
  ∃ r:Nat,∃ L',Ao [.ref d,.int many] L=some (.int (r:Int),L')/\(r:Int) < many/\Wd L0 L' d w (B+1) ws/\Ex d L L':=by
 obtain ⟨r,L',e,r0,r1,D,x⟩:=Cp h.dk hB h0 h1
 refine ⟨r.toNat,L',?_,by omega,⟨D,h.ex.trans x,x.get h.at' hw,h.as⟩,x⟩
 rw[e,Int.toNat_of_nonneg r0]
theorem Wd.put{w:Nat}(h:Wd L0 L d w B ws)(hw:d < w)(hL:L0.length<=w)(vs:List Str)(ha:∀ x∈vs,asc x):Wd L0 (L.set w (.lst (vs.map U.str))) d w B vs:=
 ⟨h.dk.set hw _,h.ex.set hL _,by rw[bK (aD.mp h.at').1],ha⟩
theorem X9:asc " !\"#$&'()*+,-./0123456789:;<=>?@ABCDEFGHIJKLMNOPQRSTUVWXYZ[\\]^_`abcdefghijklmnopqrstuvwxyz{|}~\n" := by unfold asc;decide +kernel
theorem Wj:(" !\"#$&'()*+,-./0123456789:;<=>?@ABCDEFGHIJKLMNOPQRSTUVWXYZ[\\]^_`abcdefghijklmnopqrstuvwxyz{|}~\n" : Str).length=95:=by decide +kernel
theorem V3(D:Deck L d B)(hB:B<=100000000000000000):∃ c L',c < 128/\E3 [.ref d] L=some (.str ⟨#[c]⟩,L')/\Deck L' d (B+1)/\Ex d L L':=by
 generalize hS:(" !\"#$&'()*+,-./0123456789:;<=>?@ABCDEFGHIJKLMNOPQRSTUVWXYZ[\\]^_`abcdefghijklmnopqrstuvwxyz{|}~\n" : Str)=S
 have ha:asc S:=by rw[<- hS];exact X9
 have hl:S.length=95:=by rw[<- hS];exact Wj
 obtain ⟨r,L',e,r0,r1,D',x⟩:=Cp (many:=95) D hB (by decide) (by decide)
 have hr:r.toNat < S.cps.toList.length:=by rw[<- len_cps,hl];omega
 refine ⟨S.cps.toList[r.toNat],L',E5 ha _ (bN hr),?_,D',x⟩
 have hlen:(Ba Bc (Ad (Ae 1) Ag)) [some (.ref d),some (.str S)] L=some (.int 95,L):=Fx rfl (by rw[O7 (by omega),hl];rfl)
 refine fn1 (n:=1) ?_
 unfold X5
 rw[hS]
 refine Ay (Dj (i:=1) (δ:=[some (.ref d),none]) (L':=L) rfl) (Cg (Bq (u:=.str S) rfl (Kc (u:=.ref d) rfl hlen e) ?_))
 rw[H0,if_pos (small_of (by omega)),Ft r0 (by rw[<- len_cps,hl];omega),aQ hr]
 rfl
def Ib:List Str:=["a","abcdefgh","abcdefghi","A","a1","","0","-0","00","07","-07","-1","+1","--1"]
def Sy:List Str:=["1.0","1_0","12","0x1","-","- 1"]
theorem Aoz:∀ x∈Ib++Sy,x.cps.all (· < 128)=true/\x.length<=9:=by decide +kernel
def Alr:FS:=(B7 (Au (f2 Bb (Ae 7) (fC (.int 0)))) (C3 (Bt "list" Gu (Ae 3) (Ad (Ae 4) Ag))) (B7 (Au (f2 Bb (Ae 7) (fC (.int 1)))) (C3 (Bt "list" D9 (Ae 3) (Ad (Ae 5) (Ad (f2 Al (Ae 3) (Ae 4)) Ag)))) (B7 (Au (f2 Bb (Ae 7) (fC (.int 2)))) (A8 (Gj (Ad (f2 Al (Ae 3) (Ae 5)) (Ad (f2 Al (Ae 3) (Ae 4)) Ag))) (MR.gTup 2 (MR.gCons (MR.gSub (Ae 3) (Ae 4)) (MR.gCons (MR.gSub (Ae 3) (Ae 5)) MR.gNil)))) (B7 (Au (f2 Bb (Ae 7) (fC (.int 3)))) (A8 (f2 Al (Ae 6) (A0 2 Ao (Ad (Ae 0) (Ad (Ba Bc (Ad (Ae 6) Ag)) Ag)))) (MR.gSub (Ae 3) (Ae 4))) (B7 (Au (f2 Bb (Ae 7) (fC (.int 4)))) (C3 (Bt "list" D9 (Ae 3) (Ad (Ae 4) (Ad (f2 Al (Ae 6) (A0 2 Ao (Ad (Ae 0) (Ad (Ba Bc (Ad (Ae 6) Ag)) Ag)))) Ag)))) B0)))))
theorem Aij(h:k < n):ixN n (k:Int)=some k:=by
 unfold ixN
 simp
 omega
theorem Vn{fi:FE}(hv:fv δ N=some (.ref n,N))(hi:fi δ N=some (.int (k:Int),N))(hn:N[n]? = some (.lst (ws.map U.str)))(hk:k < ws.length):(f2 Al fv fi) δ N=some (.str ws[k],N):=by
 have hix:L2.atI (ws.map U.str) (k:Int)=some (.str ws[k]):=by
  rw[Ft (by omega) (by rw[aM];omega),cF];exact J6 ws k (aQ hk)
 refine Bq hv hi ?_
 rw[semIx_ref,Am hn,aA,hix];rfl
theorem Akm{j:Int}(hv:Ae k δ N=some (.int (i:Int),N)):(Au (f2 Bb (Ae k) (fC (.int j)))) δ N=some (decide ((i:Int)=j),N):=by
 refine Dz (Bq hv rfl ?_)
 rw[semEq_int]
 have:((i:Int) == j)=decide ((i:Int)=j):=by rw[cX,beq_iff_eq,decide_eq_true_eq]
 rw[this]
theorem Pe{β γ:Type}(f:β->γ):∀ (l:List β) (k:Nat),(l.map f).eraseIdx k=(l.eraseIdx k).map f
 | [],_=>rfl
 | _::_,0=>rfl
 | a::r,k+1=>by rw[aS,gW,gW,aS,Pe f r k]
theorem Sf{w:Nat}{fo fi:FE}(y:Str)(hv:fo δ N=some (.ref w,N))(hi:fi δ N=some (.int (k:Int),N))(hn:N[w]? = some (.lst (ws.map U.str)))(hk:k < ws.length):(MR.gSub fo fi) (.str y) δ N=some (δ,N.set w (.lst ((ws.set k y).map U.str))):=by
 have he:(ws.map U.str).set k (.str y)=(ws.set k y).map U.str:=by rw[List.map_set]
 unfold MR.gSub
 simp only[hv,hi,aA,Ep hn,aM,Aij hk,aC,he]
theorem F9{c:FT}(h:c δ L=some (false,L')):B7 c f g δ L=g δ L':=by
 rw[Mj,h];rfl
inductive SpR(L0:UH)(d w:Nat)(B:Int)(z:Nat)(δ:UE)(r:Option (Fl×UH)):Prop
 | mk (vs:List Str) (L':UH) (e:r=some (.nx δ,L')) (h:Wd L0 L' d w B vs) (hz:szW vs<=z):SpR L0 d w B z δ r
theorem Aee{L0 L:UH}{d w n at' there way:Nat}{B:Int}{l:Str}{ws ns:List Str}{x2 x8 x9:Option U}(W:Wd L0 L d w B ws)(hw:d < w)(hL:L0.length<=w)(hB:B<=10000000000000000)(hn:L[n]? = some (.lst (ns.map U.str)))(hnd:n≠d)(hnw:n≠w)(hns:∀ x∈ns,asc x/\x.length<=9)(hnl:0 < ns.length/\ns.length<=1000)
  (h1:at' < ws.length) (h2:there < ws.length) (m:Nat) (hm:∀ x∈ws,x.length<=m) (hz:szW ws<=500000) :
  SpR L0 d w (B+1) (szW ws+2 * m+20) [some (.ref d),some (.str l),x2,some (.ref w),some (.int at'),some (.int there),some (.ref n),some (.int way),x8,x9] (Alr [some (.ref d),some (.str l),x2,some (.ref w),some (.int at'),some (.int there),some (.ref n),some (.int way),x8,x9] L):=by
 have hlen:=Kj ws
 have hwl:L[w]? = some (.lst (ws.map U.str)):=W.at'
 have wlen:(ws.map U.str).length=ws.length:=aM ..
 have ty:=G1 hwl
 have ma:=hm _ (bN h1)
 have mt:=hm _ (bN h2)
 have D1:∀ {N vs},Wd L0 N d w B vs->Wd L0 N d w (B+1) vs:=fun h=>⟨h.dk.mono (by omega),h.ex,h.at',h.as⟩
 have vlst:∀ {N:UH},(Ae 3) [some (.ref d),some (.str l),x2,some (.ref w),some (.int at'),some (.int there),some (.ref n),some (.int way),x8,x9] N=some (.ref w,N):=rfl
 have va:∀ {N:UH},(Ae 4) [some (.ref d),some (.str l),x2,some (.ref w),some (.int at'),some (.int there),some (.ref n),some (.int way),x8,x9] N=some (.int (at':Int),N):=rfl
 have vt:∀ {N:UH},(Ae 5) [some (.ref d),some (.str l),x2,some (.ref w),some (.int at'),some (.int there),some (.ref n),some (.int way),x8,x9] N=some (.int (there:Int),N):=rfl
 have tw:∀ {N:UH} (j:Int),(Au (f2 Bb (Ae 7) (fC (.int j)))) [some (.ref d),some (.str l),x2,some (.ref w),some (.int at'),some (.int there),some (.ref n),some (.int way),x8,x9] N=some (decide ((way:Int)=j),N):=fun j=>Akm rfl
 have ia:=Vn (fv:=Ae 3) (fi:=Ae 4) (δ:=[some (.ref d),some (.str l),x2,some (.ref w),some (.int at'),some (.int there),some (.ref n),some (.int way),x8,x9]) rfl rfl hwl h1
 have it:=Vn (fv:=Ae 3) (fi:=Ae 5) (δ:=[some (.ref d),some (.str l),x2,some (.ref w),some (.int at'),some (.int there),some (.ref n),some (.int way),x8,x9]) rfl rfl hwl h2
 have draw:∃ (y:Str) (L':UH),asc y/\y.length<=9/\(f2 Al (Ae 6) (A0 2 Ao (Ad (Ae 0) (Ad (Ba Bc (Ad (Ae 6) Ag)) Ag)))) [some (.ref d),some (.str l),x2,some (.ref w),some (.int at'),some (.int there),some (.ref n),some (.int way),x8,x9] L=some (.str y,L')/\Wd L0 L' d w (B+1) ws:=by
  obtain ⟨r,L',e,r1,W',x⟩:=W.next (many:=(ns.length:Int)) (cP hw) (by omega) (by omega) (by omega)
  have hn':=x.get hn hnd
  have hl6:(Ba Bc (Ad (Ae 6) Ag)) [some (.ref d),some (.str l),x2,some (.ref w),some (.int at'),some (.int there),some (.ref n),some (.int way),x8,x9] L=some (.int (ns.length:Int),L):=by
   have:=Gd hn
   rw[aM] at this
   exact Fx rfl this
  have hr:r < ns.length:=by omega
  have hy:=hns _ (bN hr)
  refine ⟨ns[r],L',hy.1,hy.2,?_,W'⟩
  refine Bq (u:=.ref n) (L1:=L) rfl (Kc (u:=.ref d) rfl hl6 e) ?_
  rw[semIx_ref,Am hn',aA,Ft (by omega) (by rw[aM];omega),cF,J6 ns r (aQ hr)]
  rfl
 unfold Alr
 have t0:=tw (N:=L) 0
 by_cases c0:(way:Int)=0
 ·rw[decide_eq_true c0] at t0
  refine ⟨ws.eraseIdx at',_,(C8 t0).trans ?_,D1 (W.put hw hL (ws.eraseIdx at') fun x hx=>W.as x (gK hx)),by have:=Pu ws at';omega⟩
  have hp:=Aab (i:=(at':Int)) hwl (by omega) (by rw[wlen];omega) (by rw[wlen];omega)
  have he:(ws.map U.str).eraseIdx (at':Int).toNat=(ws.eraseIdx at').map U.str:=by rw[cF,Pe]
  rw[he] at hp
  rw[El,fMeth_eq,vlst]
  simp only[aA,ty,if_true,fCons_eq,va,fNil_eq,aC,hp]
 rw[decide_eq_false c0] at t0
 rw[F9 t0]
 have ins:∀ {N:UH} (y:Str) (k:Nat),Wd L0 N d w (B+1) ws->k<=ws.length->asc y->y.length<=m+9->D9 (.ref w) [.int (k:Int),.str y] N=some (.non,N.set w (.lst ((ws.take k++y::ws.drop k).map U.str)))/\Wd L0 (N.set w (.lst ((ws.take k++y::ws.drop k).map U.str))) d w (B+1) (ws.take k++y::ws.drop k)/\szW (ws.take k++y::ws.drop k)<=szW ws+2 * m+20:=fun {N} y k W' hk hy hyl=>by
  have hi:=Ut (i:=k) (.str y) W'.at' (by rw[wlen];omega) (by rw[wlen];omega)
  have he:(ws.map U.str).take k++U.str y::(ws.map U.str).drop k=(ws.take k++y::ws.drop k).map U.str:=by simp[kU,pL]
  rw[he] at hi
  refine ⟨hi,W'.put hw hL _ fun x hx=>?_,by have:=Ab0 ws k y;omega⟩
  rcases bM.mp hx with z | z
  ·exact W.as x (fJ z)
  ·rcases aV.mp z with rfl | z
   ·exact hy
   ·exact W.as x (gG z)
 have t1:=tw (N:=L) 1
 by_cases c1:(way:Int)=1
 ·rw[decide_eq_true c1] at t1
  obtain ⟨hi,W',hz'⟩:=ins ws[at'] there (D1 W) (hG h2) (W.as _ (bN h1)) (by omega)
  refine ⟨_,_,(C8 t1).trans ?_,W',hz'⟩
  rw[El,fMeth_eq,vlst]
  simp only[aA,ty,if_true,fCons_eq,vt,ia,fNil_eq,aC,hi]
 rw[decide_eq_false c1] at t1
 rw[F9 t1]
 have t2:=tw (N:=L) 2
 by_cases c2:(way:Int)=2
 ·rw[decide_eq_true c2] at t2
  have W1:=W.put hw hL (ws.set at' ws[there]) fun x hx=>by
   rcases dG hx with z | rfl
   ·exact W.as x z
   ·exact W.as _ (bN h2)
  have W2:=W1.put hw hL ((ws.set at' ws[there]).set there ws[at']) fun x hx=>by
   rcases dG hx with z | rfl
   ·exact W1.as x z
   ·exact W.as _ (bN h1)
  refine ⟨_,_,(C8 t2).trans ?_,D1 W2,by have e1:=Mc ws at' ws[there];have e2:=Mc (ws.set at' ws[there]) there ws[at'];omega⟩
  have tp:=Auu it ia
  have g1:(MR.gSub (Ae 3) (Ae 4)) (.str ws[there]) [some (.ref d),some (.str l),x2,some (.ref w),some (.int at'),some (.int there),some (.ref n),some (.int way),x8,x9] L=some ([some (.ref d),some (.str l),x2,some (.ref w),some (.int at'),some (.int there),some (.ref n),some (.int way),x8,x9],L.set w (.lst ((ws.set at' ws[there]).map U.str))):=Sf _ vlst va hwl h1
  have g2:(MR.gSub (Ae 3) (Ae 5)) (.str ws[at']) [some (.ref d),some (.str l),x2,some (.ref w),some (.int at'),some (.int there),some (.ref n),some (.int way),x8,x9] (L.set w (.lst ((ws.set at' ws[there]).map U.str)))=some ([some (.ref d),some (.str l),x2,some (.ref w),some (.int at'),some (.int there),some (.ref n),some (.int way),x8,x9],(L.set w (.lst ((ws.set at' ws[there]).map U.str))).set w (.lst (((ws.set at' ws[there]).set there ws[at']).map U.str))):=Sf _ vlst vt W1.at' (by rw[iH];exact h2)
  unfold A8
  rw[tp]
  simp only[aA]
  unfold MR.gTup
  simp only[MR.gCons,MR.gNil,g1,g2,aA,aC,bH,cK,if_true]
 rw[decide_eq_false c2] at t2
 rw[F9 t2]
 obtain ⟨y,L',ya,yl,ed,W'⟩:=draw
 have t3:=tw (N:=L) 3
 by_cases c3:(way:Int)=3
 ·rw[decide_eq_true c3] at t3
  refine ⟨ws.set at' y,_,(C8 t3).trans ?_,W'.put hw hL (ws.set at' y) fun x hx=>?_,by have:=Mc ws at' y;omega⟩
  ·unfold A8
   rw[ed]
   simp only[aA,Sf y vlst va W'.at' h1,aC]
  ·rcases dG hx with z | rfl
   ·exact W.as x z
   ·exact ya
 rw[decide_eq_false c3] at t3
 rw[F9 t3]
 have t4:=tw (N:=L) 4
 by_cases c4:(way:Int)=4
 ·rw[decide_eq_true c4] at t4
  obtain ⟨hi,W'',hz'⟩:=ins y at' W' (hG h1) ya (by omega)
  refine ⟨_,_,(C8 t4).trans ?_,W'',hz'⟩
  rw[El,fMeth_eq,vlst]
  simp only[aA,ty,if_true,fCons_eq,va,ed,fNil_eq,aC,hi]
 rw[decide_eq_false c4] at t4
 rw[F9 t4]
 exact ⟨ws,L,rfl,D1 W,by omega⟩
theorem Jm(a b:Str)(h:a.length+b.length<=1000000)(L:UH):Ar (.str a) (.str b) L=some (.str (a++b),L):=by
 unfold Ar
 simp only
 rw[if_pos (small_of (by omega))]
theorem Akr(h:x∈Ib++Sy):asc x/\x.length<=9:=Aoz x h
def Am5:FS:=(A9 (B7 (Au (f2 Bb (Ae 7) (fC (.int 5)))) (Ce (f2 Ar (f2 Ar (fSl Dv (Ae 8) C4 (Ff (Ae 9))) (f2 Al (Cv (Ad (f2 Al (fC (.str " 0-a\n")) (A0 2 Ao (Ad (Ae 0) (Ad (fC (.int 5)) Ag)))) (Ad (A0 1 E3 (Ad (Ae 0) Ag)) Ag))) (A0 2 Ao (Ad (Ae 0) (Ad (fC (.int 2)) Ag))))) (fSl Dv (Ae 8) (Ff (Ae 9)) C4))) B0) (A9 (B7 (Au (f2 Bb (Ae 7) (fC (.int 6)))) (Ce (f2 Ar (fSl Dv (Ae 8) C4 (Ff (Ae 9))) (fSl Dv (Ae 8) (Ff (f2 Ar (Ae 9) (fC (.int 1)))) C4))) B0) (Ce (Ae 8))))
inductive StrR(L0:UH)(d:Nat)(B:Int)(m:Nat)(r:Option (Fl×UH)):Prop
 | mk (s:Str) (L':UH) (e:r=some (.rt (.str s),L')) (ha:asc s) (hl:s.length<=m) (D:Deck L' d B) (x:Ex d L0 L'):StrR L0 d B m r
theorem Ahw:asc " 0-a\n" := by unfold asc;decide +kernel
theorem Ahs:(" 0-a\n" : Str).length=5:=by decide +kernel
variable {t:Str}
theorem Ak9{L0 L:UH}{d way cut:Nat}{B:Int}{t:Str}{x1 x2 x3 x4 x5 x6:Option U}(D:Deck L d B)(x:Ex d L0 L)(hB:B<=10000000000000000)(ha:asc t)(hl:t.length<=90000) :
  StrR L0 d (B+3) (2 * t.length+1) (Am5 [some (.ref d),x1,x2,x3,x4,x5,x6,some (.int (way:Int)),some (.str t),some (.int (cut:Int))] L):=by
 have sl:∀ {N:UH} (lo hi:FO) {a b:Option Int},lo [some (.ref d),x1,x2,x3,x4,x5,x6,some (.int (way:Int)),some (.str t),some (.int (cut:Int))] N=some (a,N)->hi [some (.ref d),x1,x2,x3,x4,x5,x6,some (.int (way:Int)),some (.str t),some (.int (cut:Int))] N=some (b,N)->fSl Dv (Ae 8) lo hi [some (.ref d),x1,x2,x3,x4,x5,x6,some (.int (way:Int)),some (.str t),some (.int (cut:Int))] N=some (.str (dF t a b),N):=fun lo hi _ _ h1 h2=>Qt rfl h1 h2 (by omega)
 have le:=fun a b=>sK t a b
 unfold Am5
 have t5:(Au (f2 Bb (Ae 7) (fC (.int 5)))) [some (.ref d),x1,x2,x3,x4,x5,x6,some (.int (way:Int)),some (.str t),some (.int (cut:Int))] L=some (decide ((way:Int)=5),L):=Akm rfl
 have t6:(Au (f2 Bb (Ae 7) (fC (.int 6)))) [some (.ref d),x1,x2,x3,x4,x5,x6,some (.int (way:Int)),some (.str t),some (.int (cut:Int))] L=some (decide ((way:Int)=6),L):=Akm rfl
 by_cases c5:(way:Int)=5
 ·rw[decide_eq_true c5] at t5
  obtain ⟨r5,L1,e1,r50,r51,D1,x1'⟩:=Cp (many:=5) D (by omega) (by decide) (by decide)
  obtain ⟨c,L2,hc,e2,D2,x2'⟩:=V3 D1 (by omega)
  generalize hS:(" 0-a\n" : Str)=S
  have hSa:asc S:=by rw[<- hS];exact Ahw
  have hSl:S.length=5:=by rw[<- hS];exact Ahs
  have hr:r5.toNat < S.cps.toList.length:=by rw[<- len_cps,hSl];omega
  have hb:=E5 hSa _ (bN hr)
  have i1:(f2 Al (fC (.str S)) (A0 2 Ao (Ad (Ae 0) (Ad (fC (.int 5)) Ag)))) [some (.ref d),x1,x2,x3,x4,x5,x6,some (.int (way:Int)),some (.str t),some (.int (cut:Int))] L=some (.str ⟨#[S.cps.toList[r5.toNat]]⟩,L1):=by
   refine Bq (u:=.str S) rfl (Kc (u:=.ref d) rfl rfl e1) ?_
   rw[H0,if_pos (small_of (by omega)),Ft r50 (by rw[<- len_cps,hSl];omega),aQ hr]
   rfl
  generalize S.cps.toList[r5.toNat]=b at hb i1
  generalize hv2:[(⟨#[b]⟩:Str),⟨#[c]⟩]=vs
  have vsl:vs.length=2:=by rw[<- hv2];rfl
  have vsa:∀ y∈vs,asc y/\y.length<=1:=fun y hy=>by
   rw[<- hv2] at hy
   simp only[aV,eP,or_false] at hy
   rcases hy with rfl | rfl
   ·exact ⟨Q8 hb,aJ _⟩
   ·exact ⟨Q8 hc,aJ _⟩
  have i3:(Cv (Ad (f2 Al (fC (.str S)) (A0 2 Ao (Ad (Ae 0) (Ad (fC (.int 5)) Ag)))) (Ad (A0 1 E3 (Ad (Ae 0) Ag)) Ag))) [some (.ref d),x1,x2,x3,x4,x5,x6,some (.int (way:Int)),some (.str t),some (.int (cut:Int))] L=some (.ref L2.length,L2++[.lst (vs.map U.str)]):=by
   have i2:(A0 1 E3 (Ad (Ae 0) Ag)) [some (.ref d),x1,x2,x3,x4,x5,x6,some (.int (way:Int)),some (.str t),some (.int (cut:Int))] L1=some (.str ⟨#[c]⟩,L2):=K6 (u:=.ref d) rfl e2
   rw[fLst_eq,fCons_eq,i1]
   simp only[aA,fCons_eq,i2,fNil_eq,aC]
   rw[<- hv2];rfl
  obtain ⟨r3,L4,e4,r30,r31,D4,x4'⟩:=Cp (many:=2) (D2.new [.lst (vs.map U.str)]) (by omega) (by decide) (by decide)
  have hat:L4[L2.length]? = some (.lst (vs.map U.str)):=x4'.get (by simp) (cP D2.lt)
  have hr3:r3.toNat < vs.length:=by omega
  have i5:(f2 Al (Cv (Ad (f2 Al (fC (.str S)) (A0 2 Ao (Ad (Ae 0) (Ad (fC (.int 5)) Ag)))) (Ad (A0 1 E3 (Ad (Ae 0) Ag)) Ag))) (A0 2 Ao (Ad (Ae 0) (Ad (fC (.int 2)) Ag)))) [some (.ref d),x1,x2,x3,x4,x5,x6,some (.int (way:Int)),some (.str t),some (.int (cut:Int))] L=some (.str vs[r3.toNat],L4):=by
   refine Bq i3 (Kc (u:=.ref d) rfl rfl e4) ?_
   rw[semIx_ref,Am hat,aA,Ft r30 (by rw[aM];omega),J6 vs r3.toNat (aQ hr3)]
   rfl
  have hy:=vsa _ (bN hr3)
  generalize vs[r3.toNat]=y at i5 hy
  have h1:=le none (some (cut:Int))
  have h2:=le (some (cut:Int)) none
  refine ⟨dF t none (some (cut:Int))++y++dF t (some (cut:Int)) none,L4,Et ((C8 t5).trans (Cg (Bq (Bq (sl _ _ rfl rfl) i5 (Jm _ _ (by omega) _)) (sl _ _ rfl rfl) (Jm _ _ (by rw[Q7];omega) _)))),Je (Je (Me ha _ _) hy.1) (Me ha _ _),by rw[Q7,Q7];omega,D4.mono (by omega),x.trans (x1'.trans (x2'.trans ((Ex.new d L2 _).trans x4')))⟩
 rw[decide_eq_false c5] at t5
 by_cases c6:(way:Int)=6
 ·rw[decide_eq_true c6] at t6
  refine ⟨dF t none (some (cut:Int))++dF t (some ((cut:Int)+1)) none,L,Ay (F0 t5) (Et ((C8 t6).trans (Cg (Bq (sl _ _ rfl rfl) (sl _ _ ?_ rfl) (Jm _ _ ?_ _))))),Je (Me ha _ _) (Me ha _ _),?_,D.mono (by omega),x⟩
  ·show Ff (f2 Ar (Ae 9) (fC (.int 1))) _ L=_
   unfold Ff
   rw[Bq (u:=.int (cut:Int)) (v:=.int 1) rfl rfl (Ih _ _ _)];rfl
  ·have h1:=le none (some (cut:Int));have h2:=le (some ((cut:Int)+1)) none;omega
  ·have h1:=le none (some (cut:Int));have h2:=le (some ((cut:Int)+1)) none;rw[Q7];omega
 rw[decide_eq_false c6] at t6
 exact ⟨t,L,Ay (F0 t5) (Ay (F0 t6) (Cg rfl)),ha,by omega,D.mono (by omega),x⟩
theorem Rr{ns:List Str}(D:Deck L d B)(hB:B<=1000000000000000)(ha:asc l)(hl:l.length<=20000)(hn:L[n]? = some (.lst (ns.map U.str)))(hnd:n≠d)(hns:∀ x∈ns,asc x/\x.length<=9)(hnl:ns.length<=100) :
  ∃ s L',Di [.ref d,.str l,.ref n] L=some (.str s,L')/\asc s/\s.length<=6 * l.length+50/\Deck L' d (B+10)/\Ex d L L':=by
 have hd:=D.lt
 generalize hws:bQ l " " = ws
 have hsz:szW ws=l.length+1:=by rw[<- hws,sp_eq,Uz]
 have was:∀ x∈ws,asc x:=by rw[<- hws];exact Fj ha
 have wln:∀ x∈ws,x.length<=l.length:=by rw[<- hws];exact G6
 have wne:0 < ws.length:=by rw[<- hws];exact lU.mpr (G4 _ _)
 have wle:=Kj ws
 have e3:=Kl (fv:=Ae 1) (fs:=fC (.str " ")) (a:=l) (b := " ") (δ:=[some (.ref d),some (.str l),some (.ref n),none,none,none,none,none,none,none]) (L:=L) rfl rfl Aby (by omega)
 rw[hws] at e3
 have W0:Wd L (L++[.lst (ws.map U.str)]) d L.length B ws:=⟨D.new _,Ex.new d L _,by simp,was⟩
 have hwd:L.length≠d:=cP hd
 have wl:∀ {N:UH} {δ:UE},N[L.length]? = some (.lst (ws.map U.str))->δ[3]? = some (some (.ref L.length))->(Ba Bc (Ad (Ae 3) Ag)) δ N=some (.int (ws.length:Int),N):=fun h h3=>by
  have:=Gd h
  rw[aM] at this
  exact Fx (by simp only[fVar_eq,h3,aP,aC]) this
 obtain ⟨a1,L1,f1,r1,W1,x1⟩:=W0.next (many:=(ws.length:Int)) hwd (by omega) (by omega) (by omega)
 obtain ⟨a2,L2,f2',r2,W2,x2⟩:=W1.next (many:=(ws.length:Int)) hwd (by omega) (by omega) (by omega)
 have hn2:L2[n]? = some (.lst (ns.map U.str)):=W2.ex.get hn hnd
 have hn3:(L2++[HU.lst (Ib.map U.str)])[n]? = some (.lst (ns.map U.str)):=by rw[aK (aD.mp hn2).1];exact hn2
 have g1:=Kf hn3 (b:=L2.length) (ys:=Ib.map U.str) (by simp) (by rw[aM,aM];have:Ib.length=14:=rfl;omega)
 rw[<- eJ] at g1
 have l3:(L2++[HU.lst (Ib.map U.str)]).length=L2.length+1:=by simp
 rw[l3] at g1
 generalize hL4:L2++[HU.lst (Ib.map U.str)]++[HU.lst ((ns++Ib).map U.str)]=L4 at g1
 have W4:Wd L L4 d L.length (B+1+1) ws:=by rw[<- hL4];exact (W2.new _).new _
 have h4:L4[L2.length+1]? = some (.lst ((ns++Ib).map U.str)):=by rw[<- hL4];simp
 have h5:(L4++[HU.lst (Sy.map U.str)])[L2.length+1]? = some (.lst ((ns++Ib).map U.str)):=by rw[aK (aD.mp h4).1];exact h4
 have g2:=Kf h5 (b:=L4.length) (ys:=Sy.map U.str) (by simp) (by rw[aM,aM,aY];have:Ib.length=14:=rfl;have:Sy.length=6:=rfl;omega)
 rw[<- eJ] at g2
 generalize hL6:L4++[HU.lst (Sy.map U.str)]++[HU.lst ((ns++Ib++Sy).map U.str)]=L6 at g2
 generalize hq:(L4++[HU.lst (Sy.map U.str)]).length=q at g2
 have W6:Wd L L6 d L.length (B+1+1) ws:=by rw[<- hL6];exact (W4.new _).new _
 have h6:L6[q]? = some (.lst ((ns++Ib++Sy).map U.str)):=by rw[<- hL6,<- hq];simp
 have hqL:L2.length < q:=by rw[<- hq,<- hL4];simp
 have hL2:L.length < L2.length:=by have:=(aD.mp W2.at').1;exact this
 obtain ⟨a7,L7,f7,r7,W7,x7⟩:=W6.next (many:=7) hwd (by omega) (by decide) (by decide)
 have h7:=x7.get h6 (by omega)
 obtain ⟨vs,L8,e8,W8,z8⟩:=Aee (n:=q) (at':=a1) (there:=a2) (way:=a7) (l:=l) (x2:=some (.ref n)) (x8:=none) (x9:=none) W7 hd (aJ _) (by omega) h7 (by omega) (by omega) (fun x hx=>by
  rw[bY] at hx
  rcases bM.mp hx with z | z
  ·exact hns x z
  ·exact Akr z) (by rw[aY,aY];have:Ib.length=14:=rfl;have:Sy.length=6:=rfl;omega) (by omega) (by omega) l.length wln (by omega)
 rw[hsz] at z8
 generalize ht:cJ ⟨#[32]⟩ vs=t
 have tl:t.length<=3 * l.length+21:=by have:=U2 32 vs;rw[ht] at this;omega
 have ta:asc t:=by rw[<- ht];exact Rv (by decide) vs W8.as
 have e9:=Ahl (c:=32) (s := " ") sp_eq (fv:=Ae 3) (δ:=[some (.ref d),some (.str l),some (.ref n),some (.ref L.length),some (.int (a1:Int)),some (.int (a2:Int)),some (.ref q),some (.int (a7:Int)),none,none]) rfl W8.at' (by omega)
 rw[ht] at e9
 have hlt:(f2 Ar (Ba Bc (Ad (Ae 8) Ag)) (fC (.int 1))) [some (.ref d),some (.str l),some (.ref n),some (.ref L.length),some (.int (a1:Int)),some (.int (a2:Int)),some (.ref q),some (.int (a7:Int)),some (.str t),none] L8=some (.int ((t.length:Int)+1),L8):=Bq (Fx rfl (O7 (by omega) _)) rfl (Ih _ _ _)
 obtain ⟨a10,L10,f10,r10,W10,x10⟩:=W8.next (many:=(t.length:Int)+1) hwd (by omega) (by omega) (by omega)
 obtain ⟨s,L',es,sa,sl,D',x'⟩:=Ak9 (L0:=L) (way:=a7) (cut:=a10) (x1:=some (.str l)) (x2:=some (.ref n)) (x3:=some (.ref L.length)) (x4:=some (.int (a1:Int))) (x5:=some (.int (a2:Int))) (x6:=some (.ref q)) W10.dk W10.ex (by omega) ta (by omega)
 refine ⟨s,L',fnN (n:=10) rfl ?_,sa,by omega,D'.mono (by omega),x'⟩
 show He [some (.ref d),some (.str l),some (.ref n),none,none,none,none,none,none,none] L=_
 unfold He
 refine Ay (Dj (i:=3) (δ:=[some (.ref d),some (.str l),some (.ref n),none,none,none,none,none,none,none]) e3) ?_
 refine Ay (Dj (i:=4) (δ:=[some (.ref d),some (.str l),some (.ref n),some (.ref L.length),none,none,none,none,none,none]) (Kc (u:=.ref d) rfl (wl W0.at' rfl) f1)) ?_
 refine Ay (Dj (i:=5) (δ:=[some (.ref d),some (.str l),some (.ref n),some (.ref L.length),some (.int (a1:Int)),none,none,none,none,none]) (Kc (u:=.ref d) rfl (wl W1.at' rfl) f2')) ?_
 refine Ay (Dj (i:=6) (δ:=[some (.ref d),some (.str l),some (.ref n),some (.ref L.length),some (.int (a1:Int)),some (.int (a2:Int)),none,none,none,none]) (Bq (u:=.ref n) (v:=.ref L2.length) (L2:=L2++[HU.lst (Ib.map U.str)]) rfl rfl g1)) ?_
 refine Ay (Dj (i:=6) (δ:=[some (.ref d),some (.str l),some (.ref n),some (.ref L.length),some (.int (a1:Int)),some (.int (a2:Int)),some (.ref (L2.length+1)),none,none,none]) (Bq (u:=.ref (L2.length+1)) (v:=.ref L4.length) (L2:=L4++[HU.lst (Sy.map U.str)]) rfl rfl g2)) ?_
 refine Ay (Dj (i:=7) (δ:=[some (.ref d),some (.str l),some (.ref n),some (.ref L.length),some (.int (a1:Int)),some (.int (a2:Int)),some (.ref q),none,none,none]) (Kc (u:=.ref d) rfl rfl f7)) ?_
 refine Ay e8 ?_
 refine Ay (Dj (i:=8) (δ:=[some (.ref d),some (.str l),some (.ref n),some (.ref L.length),some (.int (a1:Int)),some (.int (a2:Int)),some (.ref q),some (.int (a7:Int)),none,none]) e9) ?_
 refine Ay (Dj (i:=9) (δ:=[some (.ref d),some (.str l),some (.ref n),some (.ref L.length),some (.int (a1:Int)),some (.int (a2:Int)),some (.ref q),some (.int (a7:Int)),some (.str t),none]) (Kc (u:=.ref d) rfl hlt f10)) ?_
 exact es
theorem Aew{ps:List (Str×(Int×Int))}(h:∀ p∈ps,Nm p.1)(hne:ps≠[]):bQ (txt ps) "\n" = ps.map line:=by
 rw[Tv]
 refine Ro (by simpa using hne) fun l hl=>?_
 obtain ⟨p,hp,rfl⟩:=dI.mp hl
 exact fun q=>(Yi (h p hp) q).2 rfl
theorem Apy(i j:Int)(L:UH):Mo (.int i) (.int j) L=some (.bl (decide (j < i)),L):=rfl
def Adk:List Str:=[""," ","a 1","a 1 1"]
theorem Alh:∀ x∈Adk,x.cps.all (· < 128)=true/\x.length<=5:=by decide +kernel
theorem Afc{N:UH}{ps:List NP}(hlen:ps.length<=1000)(δ:UE)(hv:δ[1]? = some (some (.tup (ps.map ptU)))) :
  ∃ n L',(C0 [none] (Cu (Ae 1)) (gN 0) none Dw) δ N=some (.ref n,L')/\Gw N L'/\N.length<=n/\L'[n]? = some (.lst ((ps.map (·.1)).map U.str)):=by
 have hi:(Cu (Ae 1)) δ N=some (.seq (ps.map ptU),N):=by
  unfold Cu
  simp only[fVar_eq,hv,aP,aC,aA]
  rfl
 obtain ⟨x,e⟩:=E9 (ix:=[none]) (fi:=Cu (Ae 1)) (it:=.seq (ps.map ptU)) (g:=gN 0) (tt:=none) (fe:=Dw) (δ:=δ) (L:=N) (L0:=N)
  ps ptU (fun _=>true) (fun p=>.str p.1) (fun δ=>∃ a,δ = [a]) hi (by simp[IU.size]) (by omega) ⟨none,rfl⟩
  (fun k x=>rfl)
  (fun p δ x _ zz=>by
   obtain ⟨y,hδ⟩:=zz
   subst hδ
   exact ⟨[some (ptU p)],rfl,⟨_,rfl⟩,[],by simp[testU],fun _=>⟨[],by simp[Dw,ptU];rfl⟩⟩)
 have hff:iU (fun _=>true) ps=ps:=eY.mpr (fun _ _=>rfl)
 rw[hff] at e
 refine ⟨_,_,e,⟨_,(bY _ _ _)⟩,by rw[aY];omega,?_⟩
 rw[bD (aJ _),eK,kE]
 rfl
inductive TuR(L0:UH)(d w:Nat)(B:Int)(m z:Nat)(y1 y2 y3:Option U)(r:Option (Fl×UH)):Prop
 | mk (vs:List Str) (L':UH) (a b:Option U) (e:r=some (.nx [some (.ref d),y1,y2,y3,a,b],L')) (h:Wd L0 L' d w B vs) (hm:∀ x∈vs,x.length<=m) (hz:szW vs<=z) (hp:0 < vs.length):TuR L0 d w B m z y1 y2 y3 r
theorem Agc(δ:UE)(N:UH):(Cv (Ad (fC (.str "")) (Ad (fC (.str " ")) (Ad (fC (.str "a 1")) (Ad (fC (.str "a 1 1")) Ag))))) δ N=some (.ref N.length,N++[.lst (Adk.map U.str)]):=rfl
variable {z:Nat}{vs:List Str}{y3:Option U}
theorem Aom{L2:UH}{w a b:Nat}(W2:Wd L0 L2 d w B vs)(hw:d < w)(hL:L0.length<=w)(hB:B<=100000000000100)(hm:∀ x∈vs,x.length<=m)(hz:szW vs<=z)(hp:0 < vs.length)(hmb:5<=m/\m<=15000)(hzb:z<=100000)(ha:a < vs.length)(hl1:(1:Int) < vs.length):TuR L0 d w (B+15) (6 * m+50) (z+(6 * m+50)+1) (some (.tup (ps.map ptU))) (some (.ref w)) y3 ((C3 (Bt "list" Gu (Ae 2) (Ad (Ae 4) Ag))) [some (.ref d),some (.tup (ps.map ptU)),some (.ref w),y3,some (.int (a:Int)),some (.int (b:Int))] L2):=by
 have hvl:=Kj vs
 have wd:w≠d:=cP hw
 have vw:∀ {N:UH},(Ae 2) [some (.ref d),some (.tup (ps.map ptU)),some (.ref w),y3,some (.int (a:Int)),some (.int (b:Int))] N=some (.ref w,N):=rfl
 have va:∀ {N:UH},(Ae 4) [some (.ref d),some (.tup (ps.map ptU)),some (.ref w),y3,some (.int (a:Int)),some (.int (b:Int))] N=some (.int (a:Int),N):=rfl
 have wlen:(vs.map U.str).length=vs.length:=aM ..
 have hma:=hm _ (bN ha)
 have up:∀ {N us C},C<=B+15->Wd L0 N d w C us->Wd L0 N d w (B+15) us:=fun hc h=>⟨h.dk.mono hc,h.ex,h.at',h.as⟩
 have ty:=G1 W2.at'
 have hpo:=Aab (i:=(a:Int)) W2.at' (by omega) (by rw[wlen];omega) (by rw[wlen];omega)
 have he:(vs.map U.str).eraseIdx (a:Int).toNat=(vs.eraseIdx a).map U.str:=by rw[cF,Pe]
 rw[he] at hpo
 refine ⟨vs.eraseIdx a,_,some (.int (a:Int)),some (.int (b:Int)),?_,up (by omega) (W2.put hw hL (vs.eraseIdx a) fun x hx=>W2.as x (gK hx)),fun x hx=>?_,?_,?_⟩
 ·rw[El,fMeth_eq,vw]
  simp only[aA,ty,if_true,fCons_eq,va,fNil_eq,aC,hpo]
 ·have:=hm x (gK hx);omega
 ·have:=Pu vs a;omega
 ·rw[List.length_eraseIdx_of_lt ha];omega
theorem Ag9{w:Nat}(h:N[w]? = some (.lst (vs.map U.str)))(h3:δ[2]? = some (some (.ref w))):(Ba Bc (Ad (Ae 2) Ag)) δ N=some (.int (vs.length:Int),N):=by
 have:=Gd h
 rw[aM] at this
 exact Fx (by simp only[fVar_eq,h3,aP,aC]) this
theorem Apx{L2:UH}{w a b:Nat}(W2:Wd L0 L2 d w B vs)(hw:d < w)(hL:L0.length<=w)(hB:B<=100000000000100)(hm:∀ x∈vs,x.length<=m)(hz:szW vs<=z)(hp:0 < vs.length)(hmb:5<=m/\m<=15000)(hzb:z<=100000)(ha:a < vs.length):TuR L0 d w (B+15) (6 * m+50) (z+(6 * m+50)+1) (some (.tup (ps.map ptU))) (some (.ref w)) y3 ((C3 (Bt "list" D9 (Ae 2) (Ad (A0 2 Ao (Ad (Ae 0) (Ad (f2 Ar (Ba Bc (Ad (Ae 2) Ag)) (fC (.int 1))) Ag))) (Ad (f2 Al (Ae 2) (Ae 4)) Ag)))) [some (.ref d),some (.tup (ps.map ptU)),some (.ref w),y3,some (.int (a:Int)),some (.int (b:Int))] L2):=by
 have hvl:=Kj vs
 have wd:w≠d:=cP hw
 have vw:∀ {N:UH},(Ae 2) [some (.ref d),some (.tup (ps.map ptU)),some (.ref w),y3,some (.int (a:Int)),some (.int (b:Int))] N=some (.ref w,N):=rfl
 have va:∀ {N:UH},(Ae 4) [some (.ref d),some (.tup (ps.map ptU)),some (.ref w),y3,some (.int (a:Int)),some (.int (b:Int))] N=some (.int (a:Int),N):=rfl
 have wlen:(vs.map U.str).length=vs.length:=aM ..
 have hma:=hm _ (bN ha)
 have up:∀ {N us C},C<=B+15->Wd L0 N d w C us->Wd L0 N d w (B+15) us:=fun hc h=>⟨h.dk.mono hc,h.ex,h.at',h.as⟩
 have ty:=G1 W2.at'
 have hadd:(f2 Ar (Ba Bc (Ad (Ae 2) Ag)) (fC (.int 1))) [some (.ref d),some (.tup (ps.map ptU)),some (.ref w),y3,some (.int (a:Int)),some (.int (b:Int))] L2=some (.int ((vs.length:Int)+1),L2):=Bq (Ag9 W2.at' rfl) rfl (Ih _ _ _)
 obtain ⟨c,L3,f3,r3,W3,x3⟩:=W2.next (many:=(vs.length:Int)+1) wd (by omega) (by omega) (by omega)
 have hin:=Ut (i:=c) (.str vs[a]) W3.at' (by rw[wlen];omega) (by rw[wlen];omega)
 have he:(vs.map U.str).take c++U.str vs[a]::(vs.map U.str).drop c=(vs.take c++vs[a]::vs.drop c).map U.str:=by simp[kU,pL]
 rw[he] at hin
 have mem:∀ x∈vs.take c++vs[a]::vs.drop c,x∈vs:=fun x hx=>by
  rcases bM.mp hx with q | q
  ·exact fJ q
  ·rcases aV.mp q with rfl | q
   ·exact bN ha
   ·exact gG q
 have gn:(A0 2 Ao (Ad (Ae 0) (Ad (f2 Ar (Ba Bc (Ad (Ae 2) Ag)) (fC (.int 1))) Ag))) [some (.ref d),some (.tup (ps.map ptU)),some (.ref w),y3,some (.int (a:Int)),some (.int (b:Int))] L2=some (.int (c:Int),L3):=Kc (u:=.ref d) rfl hadd f3
 have gi:(f2 Al (Ae 2) (Ae 4)) [some (.ref d),some (.tup (ps.map ptU)),some (.ref w),y3,some (.int (a:Int)),some (.int (b:Int))] L3=some (.str vs[a],L3):=Vn rfl rfl W3.at' ha
 refine ⟨_,_,some (.int (a:Int)),some (.int (b:Int)),?_,up (by omega) (W3.put hw hL _ fun x hx=>W2.as x (mem x hx)),fun x hx=>by have:=hm x (mem x hx);omega,by have:=Ab0 vs c vs[a];omega,by rw[aY,bH];omega⟩
 rw[El,fMeth_eq,vw]
 simp only[aA,ty,if_true,fCons_eq,gn,gi,fNil_eq,aC,hin]
theorem Ai5{L2:UH}{w a b:Nat}(W2:Wd L0 L2 d w B vs)(hw:d < w)(hL:L0.length<=w)(hB:B<=100000000000100)(hm:∀ x∈vs,x.length<=m)(hz:szW vs<=z)(hp:0 < vs.length)(hmb:5<=m/\m<=15000)(hzb:z<=100000)(ha:a < vs.length):TuR L0 d w (B+15) (6 * m+50) (z+(6 * m+50)+1) (some (.tup (ps.map ptU))) (some (.ref w)) y3 ((A8 (f2 Al (Cv (Ad (fC (.str "")) (Ad (fC (.str " ")) (Ad (fC (.str "a 1")) (Ad (fC (.str "a 1 1")) Ag))))) (A0 2 Ao (Ad (Ae 0) (Ad (fC (.int 4)) Ag)))) (MR.gSub (Ae 2) (Ae 4))) [some (.ref d),some (.tup (ps.map ptU)),some (.ref w),y3,some (.int (a:Int)),some (.int (b:Int))] L2):=by
 have hvl:=Kj vs
 have wd:w≠d:=cP hw
 have vw:∀ {N:UH},(Ae 2) [some (.ref d),some (.tup (ps.map ptU)),some (.ref w),y3,some (.int (a:Int)),some (.int (b:Int))] N=some (.ref w,N):=rfl
 have va:∀ {N:UH},(Ae 4) [some (.ref d),some (.tup (ps.map ptU)),some (.ref w),y3,some (.int (a:Int)),some (.int (b:Int))] N=some (.int (a:Int),N):=rfl
 have wlen:(vs.map U.str).length=vs.length:=aM ..
 have hma:=hm _ (bN ha)
 have up:∀ {N us C},C<=B+15->Wd L0 N d w C us->Wd L0 N d w (B+15) us:=fun hc h=>⟨h.dk.mono hc,h.ex,h.at',h.as⟩
 have W3:=W2.new [.lst (Adk.map U.str)]
 obtain ⟨c,L4,f3,r3,W4,x4'⟩:=W3.next (many:=4) wd (by omega) (by decide) (by decide)
 have hat:L4[L2.length]? = some (.lst (Adk.map U.str)):=x4'.get (by simp) (cP W2.dk.lt)
 have hfl:Adk.length=4:=rfl
 have hfo:=Alh
 have i0:=Agc [some (.ref d),some (.tup (ps.map ptU)),some (.ref w),y3,some (.int (a:Int)),some (.int (b:Int))] L2
 generalize Adk=F at hat hfl hfo i0 f3 x4' W4 W3
 have hc:c < F.length:=by omega
 have hy:=hfo _ (bN hc)
 have i1:(f2 Al (Cv (Ad (fC (.str "")) (Ad (fC (.str " ")) (Ad (fC (.str "a 1")) (Ad (fC (.str "a 1 1")) Ag))))) (A0 2 Ao (Ad (Ae 0) (Ad (fC (.int 4)) Ag)))) [some (.ref d),some (.tup (ps.map ptU)),some (.ref w),y3,some (.int (a:Int)),some (.int (b:Int))] L2=some (.str F[c],L4):=by
  refine Bq i0 (Kc (u:=.ref d) rfl rfl f3) ?_
  rw[semIx_ref,Am hat,aA,Ft (by omega) (by rw[aM];omega),cF,J6 F c (aQ hc)]
  rfl
 generalize F[c]=y at i1 hy
 refine ⟨vs.set a y,_,some (.int (a:Int)),some (.int (b:Int)),?_,up (by omega) (W4.put hw hL (vs.set a y) fun x hx=>?_),fun x hx=>?_,by have:=Mc vs a y;omega,by rw[iH];exact hp⟩
 ·unfold A8
  rw[i1]
  simp only[aA,Sf y vw va W4.at' ha,aC]
 ·rcases dG hx with q | rfl
  ·exact W2.as x q
  ·exact hy.1
 ·rcases dG hx with q | rfl
  ·have:=hm x q;omega
  ·omega
theorem Ak3{L2:UH}{w a b:Nat}(W2:Wd L0 L2 d w B vs)(hw:d < w)(hL:L0.length<=w)(hB:B<=100000000000100)(hm:∀ x∈vs,x.length<=m)(hz:szW vs<=z)(hp:0 < vs.length)(hmb:5<=m/\m<=15000)(hzb:z<=100000)(ha:a < vs.length)(P:Pts ps):TuR L0 d w (B+15) (6 * m+50) (z+(6 * m+50)+1) (some (.tup (ps.map ptU))) (some (.ref w)) y3 ((A8 (A0 3 Di (Ad (Ae 0) (Ad (f2 Al (Ae 2) (Ae 4)) (Ad (C0 [none] (Cu (Ae 1)) (gN 0) none Dw) Ag)))) (MR.gSub (Ae 2) (Ae 4))) [some (.ref d),some (.tup (ps.map ptU)),some (.ref w),y3,some (.int (a:Int)),some (.int (b:Int))] L2):=by
 have hvl:=Kj vs
 have wd:w≠d:=cP hw
 have vw:∀ {N:UH},(Ae 2) [some (.ref d),some (.tup (ps.map ptU)),some (.ref w),y3,some (.int (a:Int)),some (.int (b:Int))] N=some (.ref w,N):=rfl
 have va:∀ {N:UH},(Ae 4) [some (.ref d),some (.tup (ps.map ptU)),some (.ref w),y3,some (.int (a:Int)),some (.int (b:Int))] N=some (.int (a:Int),N):=rfl
 have wlen:(vs.map U.str).length=vs.length:=aM ..
 have hma:=hm _ (bN ha)
 have up:∀ {N us C},C<=B+15->Wd L0 N d w C us->Wd L0 N d w (B+15) us:=fun hc h=>⟨h.dk.mono hc,h.ex,h.at',h.as⟩
 have hsa:=W2.as _ (bN ha)
 obtain ⟨n,L3,ec,g3,hnL,hn⟩:=Afc (N:=L2) (ps:=ps) (by have:=P.len;omega) [some (.ref d),some (.tup (ps.map ptU)),some (.ref w),y3,some (.int (a:Int)),some (.int (b:Int))] rfl
 have dl:=W2.dk.lt
 have W3:Wd L0 L3 d w B vs:=by obtain ⟨q,rfl⟩:=g3;exact W2.new q
 obtain ⟨s,L4,es,sa,sl,D4,x4'⟩:=Rr (l:=vs[a]) (ns:=ps.map (·.1)) W3.dk (by omega) hsa (by omega) hn (by omega) (fun x hx=>by
  obtain ⟨p,hp,rfl⟩:=dI.mp hx
  have:=P.nm p hp
  exact ⟨Gf fun c hc=>by have:=this.2.2 c hc;omega,by have:=this.2.1;omega⟩) (by rw[aM];have:=P.len;omega)
 have W4:Wd L0 L4 d w (B+15) vs:=⟨D4.mono (by omega),W3.ex.trans x4',x4'.get W3.at' wd,W2.as⟩
 have gi:(f2 Al (Ae 2) (Ae 4)) [some (.ref d),some (.tup (ps.map ptU)),some (.ref w),y3,some (.int (a:Int)),some (.int (b:Int))] L2=some (.str vs[a],L2):=Vn rfl rfl W2.at' ha
 have eo:(A0 3 Di (Ad (Ae 0) (Ad (f2 Al (Ae 2) (Ae 4)) (Ad (C0 [none] (Cu (Ae 1)) (gN 0) none Dw) Ag)))) [some (.ref d),some (.tup (ps.map ptU)),some (.ref w),y3,some (.int (a:Int)),some (.int (b:Int))] L2=some (.str s,L4):=Atq (u:=.ref d) rfl gi ec es
 refine ⟨vs.set a s,_,some (.int (a:Int)),some (.int (b:Int)),?_,W4.put hw hL (vs.set a s) fun x hx=>?_,fun x hx=>?_,by have:=Mc vs a s;omega,by rw[iH];exact hp⟩
 ·unfold A8
  rw[eo]
  simp only[aA,Sf s vw va W4.at' ha,aC]
 ·rcases dG hx with q | rfl
  ·exact W2.as x q
  ·exact sa
 ·rcases dG hx with q | rfl
  ·have:=hm x q;omega
  ·omega
theorem TuR.wider{w:Nat}{B':Int}{y1 y2:Option U}{r r':Option (Fl×UH)}(h:TuR L0 d w B m z y1 y2 y3 r)(hb:B<=B')(hr:r'=r):TuR L0 d w B' m z y1 y2 y3 r':=by
 subst hr
 obtain ⟨vs,L',a,b,e,W,h1,h2,h3⟩:=h
 exact ⟨vs,L',a,b,e,⟨W.dk.mono hb,W.ex,W.at',W.as⟩,h1,h2,h3⟩
theorem Aap{w:Nat}{x5:Option U}(P:Pts ps)(W:Wd L0 L d w B vs)(hw:d < w)(hL:L0.length<=w)(hB:B<=100000000000000)(hm:∀ x∈vs,x.length<=m)(hz:szW vs<=z)(hp:0 < vs.length)(hmb:5<=m/\m<=15000)(hzb:z<=100000) :
  TuR L0 d w (B+20) (6 * m+50) (z+(6 * m+50)+1) (some (.tup (ps.map ptU))) (some (.ref w)) y3 (F8 [some (.ref d),some (.tup (ps.map ptU)),some (.ref w),y3,x4,x5] L):=by
 have hvl:=Kj vs
 have wd:w≠d:=cP hw
 obtain ⟨a,L1,f1,r1,W1,x1⟩:=W.next (many:=(vs.length:Int)) wd (by omega) (by omega) (by omega)
 obtain ⟨b,L2,f2',r2,W2,x2⟩:=W1.next (many:=8) wd (by omega) (by decide) (by decide)
 have ha:a < vs.length:=by omega
 have go:F8 [some (.ref d),some (.tup (ps.map ptU)),some (.ref w),y3,x4,x5] L=(B7 (N4 (Au (f2 Bb (Ae 5) (fC (.int 0)))) (Au (f2 Mo (Ba Bc (Ad (Ae 2) Ag)) (fC (.int 1))))) (C3 (Bt "list" Gu (Ae 2) (Ad (Ae 4) Ag))) (B7 (Au (f2 Bb (Ae 5) (fC (.int 1)))) (C3 (Bt "list" D9 (Ae 2) (Ad (A0 2 Ao (Ad (Ae 0) (Ad (f2 Ar (Ba Bc (Ad (Ae 2) Ag)) (fC (.int 1))) Ag))) (Ad (f2 Al (Ae 2) (Ae 4)) Ag)))) (B7 (Au (f2 Bb (Ae 5) (fC (.int 2)))) (A8 (f2 Al (Cv (Ad (fC (.str "")) (Ad (fC (.str " ")) (Ad (fC (.str "a 1")) (Ad (fC (.str "a 1 1")) Ag))))) (A0 2 Ao (Ad (Ae 0) (Ad (fC (.int 4)) Ag)))) (MR.gSub (Ae 2) (Ae 4))) (A8 (A0 3 Di (Ad (Ae 0) (Ad (f2 Al (Ae 2) (Ae 4)) (Ad (C0 [none] (Cu (Ae 1)) (gN 0) none Dw) Ag)))) (MR.gSub (Ae 2) (Ae 4)))))) [some (.ref d),some (.tup (ps.map ptU)),some (.ref w),y3,some (.int (a:Int)),some (.int (b:Int))] L2:=by
  unfold F8
  exact Ay (Dj (i:=4) (δ:=[some (.ref d),some (.tup (ps.map ptU)),some (.ref w),y3,x4,x5]) (Kc (u:=.ref d) rfl (Ag9 W.at' rfl) f1)) (Ay (Dj (i:=5) (δ:=[some (.ref d),some (.tup (ps.map ptU)),some (.ref w),y3,some (.int (a:Int)),x5]) (Kc (u:=.ref d) rfl rfl f2')) rfl)
 have tb:∀ (j:Int),(Au (f2 Bb (Ae 5) (fC (.int j)))) [some (.ref d),some (.tup (ps.map ptU)),some (.ref w),y3,some (.int (a:Int)),some (.int (b:Int))] L2=some (decide ((b:Int)=j),L2):=fun j=>Akm rfl
 have c1:(N4 (Au (f2 Bb (Ae 5) (fC (.int 0)))) (Au (f2 Mo (Ba Bc (Ad (Ae 2) Ag)) (fC (.int 1))))) [some (.ref d),some (.tup (ps.map ptU)),some (.ref w),y3,some (.int (a:Int)),some (.int (b:Int))] L2=some (decide ((b:Int)=0)&&decide ((1:Int) < (vs.length:Int)),L2):=by
  have g:=Dz (Bq (s:=Mo) (fb:=fC (.int 1)) (Ag9 (δ:=[some (.ref d),some (.tup (ps.map ptU)),some (.ref w),y3,some (.int (a:Int)),some (.int (b:Int))]) W2.at' rfl) rfl (Apy _ _ _))
  rw[fAnd_eq,tb 0]
  cases decide ((b:Int)=0) with
  | false=>rfl
  | true=>simp only[aA,if_true,g,kW]
 by_cases b0:(decide ((b:Int)=0)&&decide ((1:Int) < (vs.length:Int)))=true
 ·rw[b0] at c1
  exact (Aom W2 hw hL (by omega) hm hz hp hmb hzb ha (of_decide_eq_true (fI.mp b0).2)).wider (by omega) (go.trans (C8 c1))
 rw[Bool.not_eq_true] at b0
 rw[b0] at c1
 have t1:=tb 1
 by_cases b1:(b:Int)=1
 ·rw[decide_eq_true b1] at t1
  exact (Apx W2 hw hL (by omega) hm hz hp hmb hzb ha).wider (by omega) (go.trans ((F9 c1).trans (C8 t1)))
 rw[decide_eq_false b1] at t1
 have t2:=tb 2
 by_cases b2:(b:Int)=2
 ·rw[decide_eq_true b2] at t2
  exact (Ai5 W2 hw hL (by omega) hm hz hp hmb hzb ha).wider (by omega) (go.trans ((F9 c1).trans ((F9 t1).trans (C8 t2))))
 rw[decide_eq_false b2] at t2
 exact (Ak3 W2 hw hL (by omega) hm hz hp hmb hzb ha P).wider (by omega) (go.trans ((F9 c1).trans ((F9 t1).trans (F9 t2))))
def mOf:Nat->Nat
 | 0=>40
 | k+1=>6 * mOf k+50
def zOf:Nat->Nat
 | 0=>3001
 | k+1=>zOf k+(6 * mOf k+50)+1
theorem Aue:∀ k,k<=3->5<=mOf k/\mOf k<=15000:=by decide
theorem Atb:∀ k,k<=3->zOf k<=20000:=by decide
theorem Ady(P:Pts ps):(∀ l∈bQ (txt ps) "\n",asc l/\l.length<=40)/\0 < (bQ (txt ps) "\n").length/\szW (bQ (txt ps) "\n")<=3001:=by
 refine ⟨fun l hl=>⟨Fj (Acd P.nm) l hl,?_⟩,lU.mpr (G4 _ _),?_⟩
 ·by_cases h:ps=[]
  ·subst h
   have:=G6 l hl
   have h0:(txt []).length=0:=rfl
   omega
  ·rw[Aew P.nm h] at hl
   obtain ⟨p,hp,rfl⟩:=dI.mp hl
   exact Sd (P.nm p hp) (P.pb p hp)
 ·have:=Ve P
  rw[Tv,Uz];omega
theorem Ae2(P:Pts ps)(D:Deck L d B)(hB:B<=1000000000000) :
  ∃ s L',M5 [.ref d,.tup (ps.map ptU)] L=some (.str s,L')/\asc s/\s.length<=20000/\Deck L' d (B+100)/\Ex d L L':=by
 obtain ⟨L1,e1,g1⟩:=Aco P L
 obtain ⟨t1,t2,t3⟩:=Ady P
 have tl:=Ve P
 have D1:Deck L1 d B:=g1.deck D
 have hd:=D1.lt
 have e2:=Kl (fv:=A0 1 Ic (Ad (Ae 1) Ag)) (fs:=fC (.str "\n")) (a:=txt ps) (b := "\n") (δ:=[some (.ref d),some (.tup (ps.map ptU)),none,none,none,none]) (L:=L1)
 generalize hvs:bQ (txt ps) "\n" = vs at t1 t2 t3 e2
 have s1:(Bt "str" B2 (A0 1 Ic (Ad (Ae 1) Ag)) (Ad (fC (.str "\n")) Ag)) [some (.ref d),some (.tup (ps.map ptU)),none,none,none,none] L=some (.ref L1.length,L1++[.lst (vs.map U.str)]):=by
  have ty:tyU "str" (.str (txt ps)) L1=true:=rfl
  have eo:(A0 1 Ic (Ad (Ae 1) Ag)) [some (.ref d),some (.tup (ps.map ptU)),none,none,none,none] L=some (.str (txt ps),L1):=K6 rfl e1
  rw[fMeth_eq,eo]
  simp only[aA,ty,if_true,fCons_eq,fC_eq,fNil_eq,aC,B2]
  rw[if_pos ⟨nl_ne,by omega⟩,hvs]
 have x1:Ex d L L1:=by obtain ⟨q,rfl⟩:=g1;exact Ex.new d L q
 have hLd:L.length<=L1.length:=g1.le
 have W0:Wd L (L1++[.lst (vs.map U.str)]) d L1.length B vs:=⟨D1.new _,x1.trans (Ex.new d L1 _),by simp,fun x hx=>(t1 x hx).1⟩
 have wd:L1.length≠d:=cP hd
 obtain ⟨r,L2,f2',r2,W2,x2⟩:=W0.next (many:=3) wd (by omega) (by decide) (by decide)
 have rg:(Ad (f2 Ar (fC (.int 1)) (A0 2 Ao (Ad (Ae 0) (Ad (fC (.int 3)) Ag)))) Ag) [some (.ref d),some (.tup (ps.map ptU)),some (.ref L1.length),none,none,none] (L1++[.lst (vs.map U.str)])=some ([.int ((1+r:Nat):Int)],L2):=by
  have o2:(A0 2 Ao (Ad (Ae 0) (Ad (fC (.int 3)) Ag))) [some (.ref d),some (.tup (ps.map ptU)),some (.ref L1.length),none,none,none] (L1++[.lst (vs.map U.str)])=some (.int (r:Int),L2):=Kc (u:=.ref d) rfl rfl f2'
  have:=Bq (s:=Ar) (fa:=fC (.int 1)) (δ:=[some (.ref d),some (.tup (ps.map ptU)),some (.ref L1.length),none,none,none]) (L:=L1++[.lst (vs.map U.str)]) (L1:=L1++[.lst (vs.map U.str)]) (u:=.int 1) rfl o2 (Ih 1 (r:Int) L2)
  rw[fCons_eq,this]
  have:(1:Int)+(r:Int)=((1+r:Nat):Int):=by omega
  rw[this];rfl
 have hi:Dr (Ad (f2 Ar (fC (.int 1)) (A0 2 Ao (Ad (Ae 0) (Ad (fC (.int 3)) Ag)))) Ag) [some (.ref d),some (.tup (ps.map ptU)),some (.ref L1.length),none,none,none] (L1++[.lst (vs.map U.str)])=some (.seq (Cd 0 (1+r)),L2):=Kb (n:=1+r) rg (by omega)
 obtain ⟨δ',L',e,us,a,b,c,rfl,W',m',z',p'⟩:=Qw (g:=gN 3) (body:=F8)
  (fun k δ N=>∃ us a b c,δ = [some (.ref d),some (.tup (ps.map ptU)),some (.ref L1.length),a,b,c]/\Wd L N d L1.length (B+1+20 * k) us/\(∀ x∈us,x.length<=mOf k)/\szW us<=zOf k/\0 < us.length)
  hi ⟨vs,none,none,none,rfl,by simpa using W2,fun x hx=>(t1 x hx).2,t3,t2⟩
  (fun k u δ N hu zz=>by
   obtain ⟨us,a,b,c,rfl,W',m',z',p'⟩:=zz
   obtain ⟨hk,rfl⟩:=E7 hu
   obtain ⟨ws,N',a',b',e,W'',m'',z'',p''⟩:=Aap (y3:=some (.int (0+(k:Int)))) (x4:=b) (x5:=c) P W' hd hLd (by omega) m' z' p' (Aue k (by omega)) (by have:=Atb k (by omega);omega)
   refine ⟨_,_,rfl,_,_,.inl e,ws,_,_,_,rfl,?_,m'',z'',p''⟩
   have:B+1+20 * ((k+1:Nat):Int)=B+1+20 * (k:Int)+20:=by omega
   rw[this];exact W'')
 rw[Ej] at W' m' z'
 have zz:=Atb (1+r) (by omega)
 have e9:=Ahl (c:=10) (s := "\n") Tv (fv:=Ae 2) (δ:=[some (.ref d),some (.tup (ps.map ptU)),some (.ref L1.length),a,b,c]) rfl W'.at' (by omega)
 refine ⟨cJ ⟨#[10]⟩ us,L',fnN (n:=6) rfl ?_,Rv (by decide) us W'.as,by have:=U2 10 us;omega,W'.dk.mono (by omega),W'.ex⟩
 show Nq [some (.ref d),some (.tup (ps.map ptU)),none,none,none,none] L=_
 unfold Nq
 exact Ay (Dj (i:=2) (δ:=[some (.ref d),some (.tup (ps.map ptU)),none,none,none,none]) s1) (Ay e (Cg e9))
theorem Aky(k:Int)(hf:K3 k=true)(M:UH):Cq [.ref M.length,.int k] (M++[.exc "NoCounts" true []])=some (.non,M++[.exc "NoCounts" true [("row",.int k)]]):=by
 have h1:(M++[HU.exc "NoCounts" true []])[M.length]? = some (.exc "NoCounts" true []):=by simp
 obtain ⟨s,hs⟩:=V5 (δ:=[some (.ref M.length),some (.int k)]) (L:=M++[.exc "NoCounts" true []]) (Pk "the count at place " (by decide +kernel)) (Abf (f:=Ae 1) rfl hf) (Pk " is below 0 or above its place" (by decide +kernel))
 have hC:("NoCounts" : Str)∈Cs5:=by decide
 have h2:(Df ["NoPlace","NoAsk","NoPoints","NoCounts","NoName"] (Ad (Ae 0) (Ad (Fp [(fC (.str "the count at place ")),(Vb (Ae 1)),(fC (.str " is below 0 or above its place"))]) Ag))) [some (.ref M.length),some (.int k)] (M++[.exc "NoCounts" true []])=some (.non,M++[.exc "NoCounts" true []]):=by
  unfold Df
  simp only[fCons_eq,fNil_eq,fVar_eq,bA,aL,aP,aC,aA,hs,h1]
  rw[if_pos hC]
 have s1:(C3 (Df ["NoPlace","NoAsk","NoPoints","NoCounts","NoName"] (Ad (Ae 0) (Ad (Fp [(fC (.str "the count at place ")),(Vb (Ae 1)),(fC (.str " is below 0 or above its place"))]) Ag)))) [some (.ref M.length),some (.int k)] (M++[.exc "NoCounts" true []])=some (.nx [some (.ref M.length),some (.int k)],M++[.exc "NoCounts" true []]):=by
  rw[El,h2];rfl
 have s2:(Mx ["NoPlace","NoAsk","NoPoints","NoCounts","NoName"] "row" (Ae 0) (Ae 1)) [some (.ref M.length),some (.int k)] (M++[.exc "NoCounts" true []])=some (.nx [some (.ref M.length),some (.int k)],M++[.exc "NoCounts" true [("row",.int k)]]):=by
  unfold Mx
  simp only[fVar_eq,bA,aL,aP,aC,aA,h1]
  rw[if_pos hC]
  simp
 unfold Cq fnU Hj
 simp only[bH,cK,if_true,aS,eU,eK,gO,cR]
 rw[Hv s1,s2]
 rfl
theorem Akd(hx:(reprText x).length<=1000)(M:UH):C2 [.ref M.length,.str x] (M++[.exc "NoName" true []])=some (.non,M++[.exc "NoName" true [("word",.str x)]]):=by
 have h1:(M++[HU.exc "NoName" true []])[M.length]? = some (.exc "NoName" true []):=by simp
 have hC:("NoName" : Str)∈Cs5:=by decide
 obtain ⟨s,hs⟩:=V5 (δ:=[some (.ref M.length),some (.str x)]) (L:=M++[.exc "NoName" true []]) (Pk "the name " (by decide +kernel)) (b:=Uu (Ae 1)) ⟨reprText x,by
  unfold Uu
  simp only[fVar_eq,bA,aL,aP,aC,aA]
  rw[if_pos (small_of (by omega))],hx⟩ (Pk " is refused here" (by decide +kernel))
 have h2:(Df ["NoPlace","NoAsk","NoPoints","NoCounts","NoName"] (Ad (Ae 0) (Ad (Fp [(fC (.str "the name ")),(Uu (Ae 1)),(fC (.str " is refused here"))]) Ag))) [some (.ref M.length),some (.str x)] (M++[.exc "NoName" true []])=some (.non,M++[.exc "NoName" true []]):=by
  unfold Df
  simp only[fCons_eq,fNil_eq,fVar_eq,bA,aL,aP,aC,aA,hs,h1]
  rw[if_pos hC]
 have s1:(C3 (Df ["NoPlace","NoAsk","NoPoints","NoCounts","NoName"] (Ad (Ae 0) (Ad (Fp [(fC (.str "the name ")),(Uu (Ae 1)),(fC (.str " is refused here"))]) Ag)))) [some (.ref M.length),some (.str x)] (M++[.exc "NoName" true []])=some (.nx [some (.ref M.length),some (.str x)],M++[.exc "NoName" true []]):=by
  rw[El,h2];rfl
 have s2:(Mx ["NoPlace","NoAsk","NoPoints","NoCounts","NoName"] "word" (Ae 0) (Ae 1)) [some (.ref M.length),some (.str x)] (M++[.exc "NoName" true []])=some (.nx [some (.ref M.length),some (.str x)],M++[.exc "NoName" true [("word",.str x)]]):=by
  unfold Mx
  simp only[fVar_eq,bA,aL,aP,aC,aA,h1]
  rw[if_pos hC]
  simp
 unfold C2 fnU Ja
 simp only[bH,cK,if_true,aS,eU,eK,gO,cR]
 rw[Hv s1,s2]
 rfl
theorem Aim:(reprText "ab").length<=1000:=by decide +kernel
theorem mkA(δ:UE)(L:UH):Eb "NoAsk" 2 Fb (Ad (fC (.str "a")) Ag) δ L=some (.ref L.length,L++[.exc "NoAsk" true []]):=Jz rfl (T7 (by decide) _ L)
theorem mkC(δ:UE)(L:UH):Eb "NoCounts" 2 Cq (Ad (fC (.int 3)) Ag) δ L=some (.ref L.length,L++[.exc "NoCounts" true [("row",.int 3)]]):=Jz rfl (Aky 3 (by decide) L)
theorem mkN(δ:UE)(L:UH):Eb "NoName" 2 C2 (Ad (fC (.str "ab")) Ag) δ L=some (.ref L.length,L++[.exc "NoName" true [("word",.str "ab")]]):=Jz rfl (Akd Aim L)
theorem mkP(δ:UE)(L:UH):Eb "NoPlace" 2 Eg (Ad (fC (.str "a")) Ag) δ L=some (.ref L.length,L++[.exc "NoPlace" true []]):=Jz rfl (T7 (by decide) _ L)
theorem mkL(δ:UE)(L:UH):Eb "NoPoints" 2 B8 (Ad (fC (.int 4)) Ag) δ L=some (.ref L.length,L++[.exc "NoPoints" true [("row",.int 4)]]):=Jz rfl (Ac4 4 (by decide) L)
theorem Ad3:∀ C∈Cs5,isX C "BelowError" = true/\isX C "ValueError" = true:=by decide +kernel
def fl4(C:Str):List U:=[.bl (isX C "NoAsk"),.bl (isX C "NoCounts"),.bl (isX C "NoName"),.bl (isX C "NoPlace")]
theorem Apj{a b c d e:Bool}(h1:Az L n=some [.bl a,.bl b,.bl c,.bl d,.bl e])(h2:Az L m=some [.bl a,.bl b,.bl c,.bl d,.bl e]):Dy (.ref n) (.ref m) L=some (.bl false,L):=by
 have t1:toP L 8 (.ref n)=some (.list [.bool a,.bool b,.bool c,.bool d,.bool e]):=by
  show (Az L n).bind (fun l=>(mapO (toP L 7) l).map oM)=_
  rw[h1];rfl
 have t2:toP L 8 (.ref m)=some (.list [.bool a,.bool b,.bool c,.bool d,.bool e]):=by
  show (Az L m).bind (fun l=>(mapO (toP L 7) l).map oM)=_
  rw[h2];rfl
 unfold Dy eqP
 simp only[t1,t2,aA]
 cases a <;> cases b <;> cases c <;> cases d <;> cases e <;> rfl
theorem Ajj(k:Nat)(x0 x2 x3:Option U)(L:UH):∃ n L',(C0 [none,some 1] (Dr (Ad (fC (.int 5)) Ag)) (gN 0) none Dq) [x0,some (.int (k:Int)),x2,x3] L=some (.ref n,L')/\Gw L L'/\L'[n]? = some (.lst (((dX 5).map fun j=>decide (j=k)).map U.bl)):=by
 have hi:(Dr (Ad (fC (.int 5)) Ag)) [x0,some (.int (k:Int)),x2,x3] L=some (.seq (Cd 0 5),L):=Kb (n:=5) rfl (by omega)
 have hr:Cd 0 5=(dX 5).map fun j:Nat=>U.int (j:Int):=rfl
 obtain ⟨x,e⟩:=E9 (ix:=[none,some 1]) (fi:=Dr (Ad (fC (.int 5)) Ag)) (it:=.seq (Cd 0 5)) (g:=gN 0) (tt:=none) (fe:=Dq) (δ:=[x0,some (.int (k:Int)),x2,x3]) (L:=L) (L0:=L)
  (dX 5) (fun j:Nat=>U.int (j:Int)) (fun _=>true) (fun j=>.bl (decide (j=k))) (fun δ=>∃ a,δ = [a,some (.int (k:Int))]) hi (by rw[hr];exact aJ _) (by simp) ⟨none,rfl⟩
  (fun j x=>by rw[hr];rfl)
  (fun j δ x _ zz=>by
   obtain ⟨y,hδ⟩:=zz
   subst hδ
   refine ⟨[some (.int (j:Int)),some (.int (k:Int))],rfl,⟨_,rfl⟩,[],by simp[testU],fun _=>⟨[],?_⟩⟩
   have h2:((j:Int) == (k:Int))=decide (j=k):=by
    by_cases h:j=k
    ·subst h;simp
    ·rw[decide_eq_false h]
     exact beq_eq_false_iff_ne.mpr fun z=>h (by omega)
   rw[cR,cR,<- h2]
   rfl)
 have hff:iU (fun _=>true) (dX 5)=dX 5:=eY.mpr (fun _ _=>rfl)
 rw[hff] at e
 refine ⟨_,_,e,⟨_,(bY _ _ _)⟩,?_⟩
 rw[bD (aJ _),eK,kE]
 rfl
theorem Aiv{n k m:Nat}{C:Str}{fs:List (Str×U)}{L:UH}(x3:Option U)(hn:L[n]? = some (.exc C true fs))(hC:C∈Cs5)(hf:fl4 C++[.bl (isX C "NoPoints")]=((dX 5).map fun j=>decide (j=k)).map U.bl) :
  ∃ y L',D0 [some (.ref m),some (.int (k:Int)),some (.ref n),x3] L=some (.nx [some (.ref m),some (.int (k:Int)),some (.ref n),y],L')/\Gw L L':=by
 have i1:∀ (D:Str) (y:Option U) {M:UH},Gw L M->Hh ["NoPlace","NoAsk","NoPoints","NoCounts","NoName"] D (Ae 2) [some (.ref m),some (.int (k:Int)),some (.ref n),y] M=some (.bl (isX C D),M):=fun D y M g=>Ag1 rfl (g.get hn) hC
 have s1:(A8 (Cv (Ad (Hh ["NoPlace","NoAsk","NoPoints","NoCounts","NoName"] "NoAsk" (Ae 2)) (Ad (Hh ["NoPlace","NoAsk","NoPoints","NoCounts","NoName"] "NoCounts" (Ae 2)) (Ad (Hh ["NoPlace","NoAsk","NoPoints","NoCounts","NoName"] "NoName" (Ae 2)) (Ad (Hh ["NoPlace","NoAsk","NoPoints","NoCounts","NoName"] "NoPlace" (Ae 2)) Ag))))) (gN 3)) [some (.ref m),some (.int (k:Int)),some (.ref n),x3] L=some (.nx [some (.ref m),some (.int (k:Int)),some (.ref n),some (.ref L.length)],L++[.lst (fl4 C)]):=
  Dj (i:=3) (δ:=[some (.ref m),some (.int (k:Int)),some (.ref n),x3]) (by
   rw[fLst_eq,Fq (i1 _ _ (Gw.refl L)) (Fq (i1 _ _ (Gw.refl L)) (Fq (i1 _ _ (Gw.refl L)) (Fq (i1 _ _ (Gw.refl L)) rfl)))]
   rfl)
 generalize hL1:L++[HU.lst (fl4 C)]=L1 at s1
 have h1:L1[L.length]? = some (.lst (fl4 C)):=by rw[<- hL1];simp
 have g1:Gw L L1:=by rw[<- hL1];exact Gw.new _ _
 generalize hL2:L++[HU.lst (fl4 C++[.bl (isX C "NoPoints")])]=L2
 have h2:L2[L.length]? = some (.lst (fl4 C++[.bl (isX C "NoPoints")])):=by rw[<- hL2];simp
 have g2:Gw L L2:=by rw[<- hL2];exact Gw.new _ _
 have s2:(C3 (Bt "list" C1 (Ae 3) (Ad (Hh ["NoPlace","NoAsk","NoPoints","NoCounts","NoName"] "NoPoints" (Ae 2)) Ag))) [some (.ref m),some (.int (k:Int)),some (.ref n),some (.ref L.length)] L1=some (.nx [some (.ref m),some (.int (k:Int)),some (.ref n),some (.ref L.length)],L2):=by
  have ht:tyU "list" (.ref L.length) L1=true:=by unfold tyU;simp only[h1];rfl
  have hs:L1.set L.length (.lst (fl4 C++[.bl (isX C "NoPoints")]))=L2:=by rw[<- hL1,<- hL2];simp
  rw[El,fMeth_eq]
  simp only[fVar_eq,bA,aL,aP,aC,aA,ht,if_true,Fq (g:=Ag) (us:=[]) (i1 "NoPoints" (some (.ref L.length)) g1) rfl]
  rw[Gv (.bl (isX C "NoPoints")) h1 (by show 4 < _;omega),hs]
  rfl
 obtain ⟨q,L3,e3,g3,h3⟩:=Ajj k (some (.ref m)) (some (.ref n)) (some (.ref L.length)) L2
 have b:=Ad3 C hC
 have c1:(Au (f2 Dy (Ae 3) (C0 [none,some 1] (Dr (Ad (fC (.int 5)) Ag)) (gN 0) none Dq))) [some (.ref m),some (.int (k:Int)),some (.ref n),some (.ref L.length)] L2=some (false,L3):=by
  refine Dz (Bq (u:=.ref L.length) (L1:=L2) rfl e3 ?_)
  have q2:=Am (g3.get h2)
  rw[hf] at q2
  exact Apj q2 (Am h3)
 have g23:Gw L L3:=g2.trans g3
 have c2:(Gi (Em (Hh ["NoPlace","NoAsk","NoPoints","NoCounts","NoName"] "BelowError" (Ae 2)))) [some (.ref m),some (.int (k:Int)),some (.ref n),some (.ref L.length)] L3=some (false,L3):=by
  rw[fNot_eq,fTru_eq,i1 _ _ g23,b.1];rfl
 have c3:(Gi (Em (Hh ["NoPlace","NoAsk","NoPoints","NoCounts","NoName"] "ValueError" (Ae 2)))) [some (.ref m),some (.int (k:Int)),some (.ref n),some (.ref L.length)] L3=some (false,L3):=by
  rw[fNot_eq,fTru_eq,i1 _ _ g23,b.2];rfl
 refine ⟨some (.ref L.length),L3,?_,g23⟩
 unfold D0
 exact Ay s1 (Ay s2 (F0 (Tb c1 (Tb c2 c3))))
theorem Apc{f g:FE}{L2:UH}(h:f δ L=some (.bl true,L1))(h2:g δ L1=some (v,L2)):Iw f g δ L=some (v,L2):=by
 rw[Iy,h];simp only[aA,if_true,h2]
theorem Yt(hv:Ae 0 δ L=some (.ref m,L))(hm:L[m]? = some (.lst us))(hu:us[i]? = some (.ref n))(hi:i < 1000000)(hn:L[n]? = some (.exc C true fs))(hC:C∈Cs5)(hw:fs.lookup w=some v) :
  (Jg ["NoPlace","NoAsk","NoPoints","NoCounts","NoName"] w (f2 Al (Ae 0) (fC (.int (i:Int))))) δ L=some (v,L):=by
 have e:(f2 Al (Ae 0) (fC (.int (i:Int)))) δ L=some (.ref n,L):=Bq hv rfl (by
  rw[semIx_ref,Am hm]
  have:L2.atI us (i:Int)=some (.ref n):=by
   have:=(aD.mp hu).1
   unfold L2.atI ixN
   rw[if_pos (by omega),if_pos (by omega),aA,cF,hu]
  rw[aA,this];rfl)
 unfold Jg
 rw[e]
 simp only[aA,Lx hn hC,hw]
 rfl
theorem Pf(L:UH):∃ L',Ge [] L=some (.bl true,L')/\Gw L L':=by
 generalize h1:L++[HU.exc "NoAsk" true []]=L1
 generalize h2:L1++[HU.exc "NoCounts" true [("row",.int 3)]]=L2
 generalize h3:L2++[HU.exc "NoName" true [("word",.str "ab")]]=L3
 generalize h4:L3++[HU.exc "NoPlace" true []]=L4
 generalize h5:L4++[HU.exc "NoPoints" true [("row",.int 4)]]=L5
 generalize h6:L5++[HU.lst [.ref L.length,.ref L1.length,.ref L2.length,.ref L3.length,.ref L4.length]]=L6
 have x1:L1[L.length]? = some (.exc "NoAsk" true []):=by subst h1;simp
 have x2:L2[L1.length]? = some (.exc "NoCounts" true [("row",.int 3)]):=by subst h2;simp
 have x3:L3[L2.length]? = some (.exc "NoName" true [("word",.str "ab")]):=by subst h3;simp
 have x4:L4[L3.length]? = some (.exc "NoPlace" true []):=by subst h4;simp
 have x5:L5[L4.length]? = some (.exc "NoPoints" true [("row",.int 4)]):=by subst h5;simp
 have x6:L6[L5.length]? = some (.lst [.ref L.length,.ref L1.length,.ref L2.length,.ref L3.length,.ref L4.length]):=by subst h6;simp
 have g1:Gw L L1:=by subst h1;exact Gw.new _ _
 have g2:Gw L1 L2:=by subst h2;exact Gw.new _ _
 have g3:Gw L2 L3:=by subst h3;exact Gw.new _ _
 have g4:Gw L3 L4:=by subst h4;exact Gw.new _ _
 have g5:Gw L4 L5:=by subst h5;exact Gw.new _ _
 have g6:Gw L5 L6:=by subst h6;exact Gw.new _ _
 have y5:=g6.get x5
 have y4:=g6.get (g5.get x4)
 have y3:=g6.get (g5.get (g4.get x3))
 have y2:=g6.get (g5.get (g4.get (g3.get x2)))
 have y1:=g6.get (g5.get (g4.get (g3.get (g2.get x1))))
 have s1:(A8 (Cv (Ad (Eb "NoAsk" 2 Fb (Ad (fC (.str "a")) Ag)) (Ad (Eb "NoCounts" 2 Cq (Ad (fC (.int 3)) Ag)) (Ad (Eb "NoName" 2 C2 (Ad (fC (.str "ab")) Ag)) (Ad (Eb "NoPlace" 2 Eg (Ad (fC (.str "a")) Ag)) (Ad (Eb "NoPoints" 2 B8 (Ad (fC (.int 4)) Ag)) Ag)))))) (gN 0)) [none,none,none,none] L=some (.nx [some (.ref L5.length),none,none,none],L6):=
  Dj (i:=0) (δ:=[none,none,none,none]) (by
   rw[fLst_eq,Fq (by rw[mkA,h1]) (Fq (by rw[mkC,h2]) (Fq (by rw[mkN,h3]) (Fq (by rw[mkP,h4]) (Fq (by rw[mkL,h5]) rfl))))]
   show some _=_
   rw[h6])
 have hg:Gw L L6:=(((((g1.trans g2).trans g3).trans g4).trans g5).trans g6)
 obtain ⟨δ',L7,e7,⟨z1,z2,z3,hδ⟩,g7⟩:=Ac9 (us:=[.ref L.length,.ref L1.length,.ref L2.length,.ref L3.length,.ref L4.length]) (n:=L5.length) (fe:=Ae 0) (g:=(MR.gTup 2 (MR.gCons (gN 1) (MR.gCons (gN 2) MR.gNil)))) (body:=D0) (δ:=[some (.ref L5.length),none,none,none]) (L:=L6) (L0:=L6)
  (fun _ δ' M=>(∃ z1 z2 z3,δ'=[some (.ref L5.length),z1,z2,z3])/\Gw L6 M) rfl ⟨⟨none,none,none,rfl⟩,Gw.refl L6⟩ (fun k δ M h=>Am (h.2.get x6))
  (fun k u δ M hu hP=>by
   obtain ⟨⟨z1,z2,z3,rfl⟩,gM⟩:=hP
   have hx:∃ C fs n,u = .ref n/\M[n]? = some (.exc C true fs)/\C∈Cs5/\fl4 C++[.bl (isX C "NoPoints")]=((dX 5).map fun j=>decide (j=k)).map U.bl:=by
    rcases k with _ | _ | _ | _ | _ | k
    ·cases hu;exact ⟨"NoAsk",_,_,rfl,gM.get y1,by decide,by kernel_rfl⟩
    ·cases hu;exact ⟨"NoCounts",_,_,rfl,gM.get y2,by decide,by kernel_rfl⟩
    ·cases hu;exact ⟨"NoName",_,_,rfl,gM.get y3,by decide,by kernel_rfl⟩
    ·cases hu;exact ⟨"NoPlace",_,_,rfl,gM.get y4,by decide,by kernel_rfl⟩
    ·cases hu;exact ⟨"NoPoints",_,_,rfl,gM.get y5,by decide,by kernel_rfl⟩
    ·simp at hu
   obtain ⟨C,fs,n,rfl,h,hC,hf⟩:=hx
   obtain ⟨y,M',eM,gM'⟩:=Aiv (m:=L5.length) z3 h hC hf
   exact ⟨_,M,rfl,_,M',.inl eM,⟨_,_,_,rfl⟩,gM.trans gM'⟩)
 subst hδ
 have hv:Ae 0 [some (.ref L5.length),z1,z2,z3] L7=some (.ref L5.length,L7):=rfl
 have hab:asc ("ab" : Str):=by unfold asc;decide +kernel
 refine ⟨L7,fnN (n:=4) rfl ?_,hg.trans g7⟩
 show Gh [none,none,none,none] L=_
 unfold Gh
 refine Ay s1 (Ay e7 (Cg (Apc (Bq (Yt (i:=1) hv (g7.get x6) rfl (by omega) (g7.get y2) (by decide) rfl) rfl rfl) (Apc (Bq (Yt (i:=2) hv (g7.get x6) rfl (by omega) (g7.get y3) (by decide) rfl) rfl ?_) (Bq (Yt (i:=4) hv (g7.get x6) rfl (by omega) (g7.get y5) (by decide) rfl) rfl rfl)))))
 rw[Fy hab hab,decide_eq_true rfl]
abbrev fx1:List Str:=["","\n"," ","a","a 1","a 1 1\na 2 2","a 1 1\n\nb 2 2","a 01 1","a -0 1","a 1 - 1","A 1 1"]
abbrev fx2:List Str:=["a 1 1;b 2 2","a 1 1\nb 1","1 a 1","a 1 1 1","a 1,1","a 1 1\n","a +1 1"]
theorem Aoj:∀ x∈fx1++fx2,asc x:=by unfold asc;decide +kernel
theorem Apr:∀ x∈fx1++fx2,x.length<=100:=by decide +kernel
theorem Ao2:∀ x∈fx1++fx2,∀ l∈bQ x "\n",Few (Ct l):=by unfold Few;decide +kernel
theorem Apb(x:Str)(h:x∈fx1++fx2):Txo x:=⟨Aoj x h,bJ (Apr x h) (by omega),Ao2 x h⟩
theorem Au1{f:FN}(e:f [] L=some (v,L')):(A0 0 f Ag) δ L=some (v,L'):=by
 rw[Ke,fNil_eq]
 simp only[aA,cK,if_true,e]
abbrev Asl:FE:=(Cv (Ad (fC (.str "")) (Ad (fC (.str "\n")) (Ad (fC (.str " ")) (Ad (fC (.str "a")) (Ad (fC (.str "a 1")) (Ad (fC (.str "a 1 1\na 2 2")) (Ad (fC (.str "a 1 1\n\nb 2 2")) (Ad (fC (.str "a 01 1")) (Ad (fC (.str "a -0 1")) (Ad (fC (.str "a 1 - 1")) (Ad (fC (.str "A 1 1")) Ag))))))))))))
abbrev Aq8:FE:=(Cv (Ad (fC (.str "a 1 1;b 2 2")) (Ad (fC (.str "a 1 1\nb 1")) (Ad (fC (.str "1 a 1")) (Ad (fC (.str "a 1 1 1")) (Ad (fC (.str "a 1,1")) (Ad (fC (.str "a 1 1\n")) (Ad (fC (.str "a +1 1")) Ag))))))))
def X6:FS:=(A9 (A8 Asl (gN 7)) (A9 (A8 (f2 Ar (Ae 7) Aq8) (gN 7)) (A9 (B7 (Au (f2 Dy (C0 [none] (Cu (Ae 7)) (gN 0) (some K4) Sa) (Cv Ag))) (Ce (fC (.bl false))) B0) (Ce (A0 0 Ge Ag)))))
theorem Xn(x0 x1 x2 x3 x4 x5 x6 x7 x8:Option U)(L:UH):∃ L',X6 [x0,x1,x2,x3,x4,x5,x6,x7,x8] L=some (.rt (.bl true),L'):=by
 have s1:(A8 Asl (gN 7)) [x0,x1,x2,x3,x4,x5,x6,x7,x8] L=some (.nx [x0,x1,x2,x3,x4,x5,x6,some (.ref L.length),x8],L++[.lst (fx1.map U.str)]):=Dj (i:=7) (δ:=[x0,x1,x2,x3,x4,x5,x6,x7,x8]) rfl
 generalize hL1:L++[HU.lst (fx1.map U.str)]=L1 at s1
 have h1:L1[L.length]? = some (.lst (fx1.map U.str)):=by rw[<- hL1];simp
 generalize hL2:L1++[HU.lst (fx2.map U.str)]=L2
 have h2:L2[L1.length]? = some (.lst (fx2.map U.str)):=by rw[<- hL2];simp
 have h12:L2[L.length]? = some (.lst (fx1.map U.str)):=(show Gw L1 L2 by rw[<- hL2];exact Gw.new _ _).get h1
 generalize hL3:L2++[HU.lst (fx1.map U.str++fx2.map U.str)]=L3
 have h3:L3[L2.length]? = some (.lst ((fx1++fx2).map U.str)):=by rw[<- hL3,eJ];simp
 have s2:(A8 (f2 Ar (Ae 7) Aq8) (gN 7)) [x0,x1,x2,x3,x4,x5,x6,some (.ref L.length),x8] L1=some (.nx [x0,x1,x2,x3,x4,x5,x6,some (.ref L2.length),x8],L3):=
  Dj (i:=7) (δ:=[x0,x1,x2,x3,x4,x5,x6,some (.ref L.length),x8]) (Bq (u:=.ref L.length) (L1:=L1) rfl (v:=.ref L1.length) (L2:=L2) (by rw[<- hL2];rfl) (by rw[Kf h12 h2 (by simp),hL3]))
 have hs:=Am h3
 have hi:(Cu (Ae 7)) [x0,x1,x2,x3,x4,x5,x6,some (.ref L2.length),x8] L3=some (.ref L2.length,L3):=by
  rw[Sr,show Ae 7 [x0,x1,x2,x3,x4,x5,x6,some (.ref L2.length),x8] L3=some (.ref L2.length,L3) from rfl,aA,Gm hs]
  rfl
 obtain ⟨x,e⟩:=E9 (ix:=[none]) (fi:=Cu (Ae 7)) (it:=.ref L2.length) (g:=gN 0) (tt:=some K4) (fe:=Sa) (δ:=[x0,x1,x2,x3,x4,x5,x6,some (.ref L2.length),x8]) (L:=L3) (L0:=L3)
  (fx1++fx2) U.str (fun _=>false) U.str (fun δ=>∃ a,δ = [a]) hi (by unfold IU.size;simp only;rw[h3];simp) (by simp) ⟨none,rfl⟩
  (fun k x=>by
   have:(L3++x)[L2.length]? = some (.lst ((fx1++fx2).map U.str)):=by rw[aK (aD.mp h3).1];exact h3
   unfold IU.at;simp only;rw[this])
  (fun t δ x ht zz=>by
   obtain ⟨y,hδ⟩:=zz
   subst hδ
   obtain ⟨L',e,z,hz⟩:=Yr (Apb t ht) (L3++x)
   refine ⟨[some (.str t)],rfl,⟨_,rfl⟩,z,?_,fun h=>by cases h⟩
   show K4 [some (.str t)] (L3++x)=_
   unfold K4
   rw[fNot_eq,fTru_eq,K6 (i:=0) (u:=.str t) (δ:=[some (.str t)]) rfl e,hz]
   rfl)
 have hff:iU (fun _:Str=>false) (fx1++fx2)=[]:=List.filter_eq_nil_iff.mpr (fun _ _ h=>by cases h)
 rw[hff] at e
 have hat:(L3++x++[HU.lst (([]:List Str).map U.str)])[(L3++x).length]? = some (.lst []):=by rw[bD (aJ _),eK];rfl
 generalize L3++x++[HU.lst (([]:List Str).map U.str)]=M at e hat
 generalize (L3++x).length=q at e hat
 have c1:(Au (f2 Dy (C0 [none] (Cu (Ae 7)) (gN 0) (some K4) Sa) (Cv Ag))) [x0,x1,x2,x3,x4,x5,x6,some (.ref L2.length),x8] L3=some (false,M++[.lst []]):=by
  refine Dz (Bq e (v:=.ref M.length) (L2:=M++[.lst []]) rfl ?_)
  have h4:(M++[HU.lst []])[q]? = some (.lst []):=(Gw.new M [HU.lst []]).get hat
  have h5:(M++[HU.lst []])[M.length]? = some (.lst []):=by simp
  rw[Um (Am h4) (Am h5) (fun u hu=>by cases hu) (fun u hu=>by cases hu)]
  rfl
 obtain ⟨L',e',_⟩:=Pf (M++[.lst []])
 exact ⟨L',Ay s1 (Ay s2 (Ay (F0 c1) (Cg (Au1 e'))))⟩
theorem An6{c d:FT}(h:c δ L=some (false,L1)):N4 c d δ L=some (false,L1):=by rw[fAnd_eq,h];rfl
theorem Akg{c d:FT}{L2:UH}(h:c δ L=some (true,L1))(h2:d δ L1=some (false,L2)):N4 c d δ L=some (false,L2):=by rw[fAnd_eq,h];simp only[aA,if_true,h2]
theorem Ahz(ha:asc x)(hl:x.length<=100000)(x0 x1 x2 x3 x4 x5 x7 x8:Option U)(L:UH):∃ L',Ol [x0,x1,x2,x3,x4,x5,some (.str x),x7,x8] L=some (.nx [x0,x1,x2,x3,x4,x5,some (.str x),x7,x8],L')/\Gw L L':=by
 obtain ⟨b,L1,e1,g1,hb⟩:=Aad ha hl L
 have t1:(Gi (Em (A0 1 Ko (Ad (Ae 6) Ag)))) [x0,x1,x2,x3,x4,x5,some (.str x),x7,x8] L=some (!b,L1):=by
  rw[fNot_eq,fTru_eq,K6 (i:=6) (u:=.str x) (δ:=[x0,x1,x2,x3,x4,x5,some (.str x),x7,x8]) rfl e1]
  rfl
 unfold Ol
 cases b with
 | true=>exact ⟨L1,F0 (An6 t1),g1⟩
 | false=>
  have tx:Txo x:=⟨ha,hl,hb rfl⟩
  have r:∀ M,∃ M',(Gi (Em (A0 1 H9 (Ad (Ae 6) Ag)))) [x0,x1,x2,x3,x4,x5,some (.str x),x7,x8] M=some (false,M')/\Gw M M':=fun M=>by
   obtain ⟨M',e,g⟩:=Yr tx M
   refine ⟨M',?_,g⟩
   rw[fNot_eq,fTru_eq,K6 (i:=6) (u:=.str x) (δ:=[x0,x1,x2,x3,x4,x5,some (.str x),x7,x8]) rfl e]
   rfl
  obtain ⟨L2,e2,g2⟩:=r L1
  obtain ⟨L3,e3,g3⟩:=r L2
  exact ⟨L3,F0 (Akg t1 (Tb e2 e3)),(g1.trans g2).trans g3⟩
variable {ss:List Str}
theorem Agw(x0 x1 x2 x3 x4 x5 x6 x7 x8:Option U)(hfe:fe [x0,x1,x2,x3,x4,x5,x6,x7,x8] L=some (.ref n,L0))(hn:L0[n]? = some (.lst (ss.map U.str)))(hs:∀ x∈ss,asc x/\x.length<=100000) :
  ∃ y L',Ik (Cu fe) (gN 6) Ol [x0,x1,x2,x3,x4,x5,x6,x7,x8] L=some (.nx [x0,x1,x2,x3,x4,x5,y,x7,x8],L')/\Gw L0 L':=by
 have hi:Cu fe [x0,x1,x2,x3,x4,x5,x6,x7,x8] L=some (.ref n,L0):=by
  rw[Sr,hfe,aA,Gm (Am hn)]
  rfl
 obtain ⟨δ',L',e,⟨y,hδ⟩,g⟩:=Abz (us:=ss.map U.str) (n:=n) (g:=gN 6) (body:=Ol) (fun _ δ' M=>(∃ y,δ'=[x0,x1,x2,x3,x4,x5,y,x7,x8])/\Gw L0 M) hi ⟨⟨x6,rfl⟩,Gw.refl L0⟩ (fun _ _ _ h=>Am (h.2.get hn))
  (fun k u δ M hu hP=>by
   obtain ⟨⟨y,rfl⟩,gM⟩:=hP
   obtain ⟨x,hx,rfl⟩:=dI.mp (dP hu)
   obtain ⟨M',eM,g'⟩:=Ahz (hs x hx).1 (hs x hx).2 x0 x1 x2 x3 x4 x5 x7 x8 M
   exact ⟨_,M,rfl,_,M',.inl eM,⟨_,rfl⟩,gM.trans g'⟩)
 subst hδ
 exact ⟨y,L',e,g⟩
def Ua:FS:=(A9 (A8 (fC (.str " !\"#$&'()*+,-./0123456789:;<=>?@ABCDEFGHIJKLMNOPQRSTUVWXYZ[\\]^_`abcdefghijklmnopqrstuvwxyz{|}~\n")) (gN 1)) (Ce (f2 Aa2 (Ae 1) (A0 2 Ao (Ad (Ae 0) (Ad (Ba Bc (Ad (Ae 1) Ag)) Ag))))))
def Qa:FN:=fnU 2 1 Ua
theorem X4(D:Deck L d B)(hB:B<=100000000000000000):∃ c L',c < 128/\Qa [.ref d] L=some (.tz ⟨#[c]⟩,L')/\Deck L' d (B+1)/\Ex d L L':=by
 generalize hS:(" !\"#$&'()*+,-./0123456789:;<=>?@ABCDEFGHIJKLMNOPQRSTUVWXYZ[\\]^_`abcdefghijklmnopqrstuvwxyz{|}~\n" : Str)=S
 have ha:asc S:=by rw[<- hS];exact X9
 have hl:S.length=95:=by rw[<- hS];exact Wj
 obtain ⟨r,L',e,r0,r1,D',x⟩:=Cp (many:=95) D hB (by decide) (by decide)
 have hr:r.toNat < S.cps.toList.length:=by rw[<- len_cps,hl];omega
 refine ⟨S.cps.toList[r.toNat],L',E5 ha _ (bN hr),?_,D',x⟩
 have hlen:(Ba Bc (Ad (Ae 1) Ag)) [some (.ref d),some (.str S)] L=some (.int 95,L):=Fx rfl (by rw[O7 (by omega),hl];rfl)
 refine fn1 (n:=1) ?_
 unfold Ua
 rw[hS]
 refine Ay (Dj (i:=1) (δ:=[some (.ref d),none]) (L':=L) rfl) (Cg (Bq (u:=.str S) rfl (Kc (u:=.ref d) rfl hlen e) ?_))
 show (if Ew S.length=true then (L2.atI S.cps.toList r).map fun c=>(U.tz ⟨#[c]⟩,L') else none)=_
 rw[if_pos (small_of (by omega)),Ft r0 (by rw[<- len_cps,hl];omega),aQ hr]
 rfl
abbrev Amy:FE:=(f2 Al (Cv (Ad (fC (.int 12)) (Ad (fC (.int 57)) Ag))) (Ba semInt (Ad (Iw (f2 Bb (Ae 2) (fC (.int 0))) (f2 Bb (A0 2 Ao (Ad (Ae 1) (Ad (fC (.int 3)) Ag))) (fC (.int 0)))) Ag)))
theorem Ak6{L:UH}{d:Nat}{B k:Int}(D:Deck L d B)(hB:B<=100000000000000000)(x0 x3 x4 x5 x6 x7 x8:Option U) :
  ∃ most L',Amy [x0,some (.ref d),some (.int k),x3,x4,x5,x6,x7,x8] L=some (.int most,L')/\(0<=most/\most<=60)/\Deck L' d (B+1)/\Ex d L L':=by
 generalize hM:L++[HU.lst [.int 12,.int 57]]=M
 have hm:M[L.length]? = some (.lst [.int 12,.int 57]):=by rw[<- hM];simp
 have gM:Gw L M:=by rw[<- hM];exact Gw.new _ _
 have xM:Ex d L M:=by rw[<- hM];exact Ex.new d L _
 have dl:=D.lt
 have e1:(Cv (Ad (fC (.int 12)) (Ad (fC (.int 57)) Ag))) [x0,some (.ref d),some (.int k),x3,x4,x5,x6,x7,x8] L=some (.ref L.length,M):=by rw[<- hM];rfl
 have D1:=gM.deck D
 by_cases hk:k=0
 ·obtain ⟨r,L',e,r0,r1,D',x⟩:=Cp (many:=3) D1 hB (by decide) (by decide)
  have hl:L'[L.length]? = some (.lst [.int 12,.int 57]):=by
   rw[x.at_ _ (aD.mp hm).1 (by omega)];exact hm
  have ea:(Iw (f2 Bb (Ae 2) (fC (.int 0))) (f2 Bb (A0 2 Ao (Ad (Ae 1) (Ad (fC (.int 3)) Ag))) (fC (.int 0)))) [x0,some (.ref d),some (.int k),x3,x4,x5,x6,x7,x8] M=some (.bl (r == 0),L'):=by
   subst hk
   refine Apc (L1:=M) rfl (Bq (Kc (u:=.ref d) rfl rfl e) rfl ?_)
   rw[semEq_int]
  by_cases hr:r=0
  ·refine ⟨57,L',Bq e1 (v:=.int 1) (Fx ea (by rw[hr];rfl)) ?_,⟨by decide,by decide⟩,D',xM.trans x⟩
   rw[semIx_ref,Am hl];rfl
  ·refine ⟨12,L',Bq e1 (v:=.int 0) (Fx ea (by rw[beq_eq_false_iff_ne.mpr hr];rfl)) ?_,⟨by decide,by decide⟩,D',xM.trans x⟩
   rw[semIx_ref,Am hl];rfl
 ·have ea:(Iw (f2 Bb (Ae 2) (fC (.int 0))) (f2 Bb (A0 2 Ao (Ad (Ae 1) (Ad (fC (.int 3)) Ag))) (fC (.int 0)))) [x0,some (.ref d),some (.int k),x3,x4,x5,x6,x7,x8] M=some (.bl false,M):=by
   have:(f2 Bb (Ae 2) (fC (.int 0))) [x0,some (.ref d),some (.int k),x3,x4,x5,x6,x7,x8] M=some (.bl false,M):=by
    refine Bq (u:=.int k) (L1:=M) rfl (v:=.int 0) (L2:=M) rfl ?_
    rw[semEq_int,beq_eq_false_iff_ne.mpr hk]
   rw[Iy,this];rfl
  refine ⟨12,M,Bq e1 (v:=.int 0) (Fx ea rfl) ?_,⟨by decide,by decide⟩,D1.mono (by omega),xM⟩
  rw[semIx_ref,Am hm];rfl
def Odd(ss:List Str):Prop:=∀ x∈ss,asc x/\x.length<=100000
theorem Y0(P:Pts ps)(D:Deck L d B)(hB:B<=100000000000)(x0 x2 x4 x5 x6 x7 x8:Option U) :
  ∃ n ss L',(C0 [none,some 1,some 3] (Dr (Ad (fC (.int 4)) Ag)) (gN 0) none Su) [x0,some (.ref d),x2,some (.tup (ps.map ptU)),x4,x5,x6,x7,x8] L=some (.ref n,L')/\L'[n]? = some (.lst (ss.map U.str))/\ss.length=4/\Odd ss/\Deck L' d (B+400)/\n≠d:=by
 have hi:(Dr (Ad (fC (.int 4)) Ag)) [x0,some (.ref d),x2,some (.tup (ps.map ptU)),x4,x5,x6,x7,x8] L=some (.seq (Cd 0 4),L):=Kb (n:=4) rfl (by omega)
 obtain ⟨ts',δ5,L5,e5,P5⟩:=Tu (us:=Cd 0 4) (it:=.seq (Cd 0 4)) (L0:=L) (L:=L) (ix:=[none,some 1,some 3]) (δ:=[x0,some (.ref d),x2,some (.tup (ps.map ptU)),x4,x5,x6,x7,x8]) (fe:=Su) (tt:=none) (g:=gN 0) (fi:=Dr (Ad (fC (.int 4)) Ag))
  (fun k acc δ' L'=>∃ y0 ss,δ'=[y0,some (.ref d),some (.tup (ps.map ptU))]/\acc=ss.map U.str/\ss.length=k/\Odd ss/\Deck L' d (B+100 * k))
  hi (aJ _)
  ⟨none,[],rfl,rfl,rfl,(fun x hx=>by cases hx),D.mono (by omega)⟩
  (fun k acc δ L _ _=>rfl)
  (fun k u acc δ L' hu hP=>by
   obtain ⟨y0,ss,hδ,hacc,hss,hO,DD⟩:=hP
   subst hδ
   obtain ⟨hk,rfl⟩:=E7 hu
   obtain ⟨s,M,e,ha,hl,DM,_⟩:=Ae2 P DD (by omega)
   refine ⟨_,_,rfl,true,L',rfl,fun _=>⟨.str s,M,Kc (u:=.ref d) rfl rfl e,by rw[hacc,aM];omega,_,ss++[s],rfl,?_,by rw[aY,hss];rfl,fun x hx=>?_,DM.mono (by omega)⟩,fun h=>by cases h⟩
   ·rw[hacc];simp
   ·rcases bM.mp hx with h | h
    ·exact hO x h
    ·rw[dH.mp h];exact ⟨ha,by omega⟩)
 obtain ⟨y0,ss,hδ,hacc,hss,hO,DD⟩:=P5
 have hss':ss.length=4:=by rw[hss,Ej]
 have hh:(L5++[HU.lst ts'])[L5.length]? = some (.lst (ss.map U.str)):=by rw[hacc];simp
 have dl:=DD.lt
 exact ⟨L5.length,ss,L5++[.lst ts'],e5,hh,hss',hO,(DD.new _).mono (by rw[Ej];omega),by omega⟩
theorem Q3(h:c < 128):asc (⟨#[c]⟩:Str):=Gf fun d hd=>by
 have:d=c:=by simpa using hd
 omega
theorem V4{z r:Str}(ht:asc t)(hz:asc z)(hm:∀ c∈r.cps.toList,c∈t.cps.toList\/c∈z.cps.toList):asc r:=Gf fun c hc=>by
 rcases hm c hc with h | h
 ·exact E5 ht c h
 ·exact E5 hz c h
theorem Aii:asc (" " : Str):=by unfold asc;decide +kernel
theorem Ake:asc ("  " : Str):=by unfold asc;decide +kernel
theorem Alc:asc ("\n" : Str):=by unfold asc;decide +kernel
theorem Ajl:(" " : Str).length=1:=by decide +kernel
theorem Ak2:("  " : Str).length=2:=by decide +kernel
theorem Ajo:("\n" : Str).length=1:=by decide +kernel
theorem Odd.app{a b:List Str}(h1:Odd a)(h2:Odd b):Odd (a++b):=fun x hx=>(bM.mp hx).elim (h1 x) (h2 x)
theorem Vu:Odd []:=fun x hx=>by cases hx
theorem Fg{l:List Str}(h:asc x)(hl:x.length<=100000)(k:Odd l):Odd (x::l):=fun y hy=>by
 rcases aV.mp hy with rfl | h'
 ·exact ⟨h,hl⟩
 ·exact k y h'
def Alz:WE:=w2 Ar (Kh (Ae 5)) (Aos (G3 (Kh (f2 Ar (fC (.str " ")) (Ae 4))) (G3 (Kh (f2 Ar (Ae 4) (fC (.str " ")))) (G3 (Kh (f2 Ar (Ae 4) (fC (.str "\n")))) (G3 (Kh (f2 Ar (fC (.str "\n")) (Ae 4))) (G3 (Abv (Kh (Ae 4)) (G3 (Kh (fC (.tz " "))) (G3 (Kh (fC (.tz "  "))) (G3 (Kh (fC (.int 1))) Ad1)))) (G3 (Kh (Ae 4)) Ad1)))))))
theorem Anh(ht:asc t)(hl:t.length<=3000)(hs:L[s]? = some (.lst (ss.map U.str)))(hlen:ss.length<=100)(hO:Odd ss)(x0 x1 x2 x3 x6 x7 x8:Option U)(P:U->UH->Prop)
  (hP:∀ n ss' L',L'[n]? = some (.lst (ss'.map U.str))->ss'.length=ss.length+6->Odd ss'->Gw L L'->L.length<=n->P (.ref n) L'):Alz [x0,x1,x2,x3,some (.str t),some (.ref s),x6,x7,x8] L P:=by
 have n1:=Ajl
 have n2:=Ak2
 have n3:=Ajo
 refine ⟨.ref s,L,rfl,?_⟩
 refine ⟨.str (" " ++ t),L,Bq rfl rfl (Jm _ _ (by omega) _),⟨.str (t ++ " "),L,Bq rfl rfl (Jm _ _ (by omega) _),⟨.str (t ++ "\n"),L,Bq rfl rfl (Jm _ _ (by omega) _),⟨.str ("\n" ++ t),L,Bq rfl rfl (Jm _ _ (by omega) _),⟨.str t,L,rfl,t,rfl,⟨_,L,rfl,⟨_,L,rfl,⟨_,L,rfl,?_⟩⟩⟩⟩⟩⟩⟩⟩
 refine ⟨" ","  ",.inr rfl,by rw[n2];omega,fun r hr hm=>?_⟩
 refine ⟨.str t,L,rfl,?_⟩
 rw[n2] at hr
 have h1:(L++[HU.lst ([" " ++ t,t ++ " ",t ++ "\n","\n" ++ t,r,t].map U.str)])[s]? = some (.lst (ss.map U.str)):=(Gw.new L _).get hs
 have h2:(L++[HU.lst ([" " ++ t,t ++ " ",t ++ "\n","\n" ++ t,r,t].map U.str)])[L.length]? = some (.lst ([" " ++ t,t ++ " ",t ++ "\n","\n" ++ t,r,t].map U.str)):=by simp
 refine ⟨by simp,_,_,Kf h1 h2 (by simp;omega),hP _ (ss++[" " ++ t,t ++ " ",t ++ "\n","\n" ++ t,r,t]) _ ?_ (by simp) ?_ ((Gw.new _ _).trans (Gw.new _ _)) (by simp)⟩
 ·rw[eJ,bD (aJ _),eK];rfl
 ·refine hO.app ?_
  have a1:=Aii
  have a3:=Alc
  have l1:(" " ++ t).length<=100000:=by rw[Pd];omega
  have l2:(t ++ " ").length<=100000:=by rw[Pd];omega
  have l3:(t ++ "\n").length<=100000:=by rw[Pd];omega
  have l4:("\n" ++ t).length<=100000:=by rw[Pd];omega
  exact Fg (Je a1 ht) l1 (Fg (Je ht a1) l2 (Fg (Je ht a3) l3 (Fg (Je a3 ht) l4 (Fg (V4 ht Ake hm) (by omega) (Fg ht (by omega) Vu)))))
abbrev fZ:FE:=A0 1 Qa (Ad (Ae 1) Ag)
def Aoa:WE:=w2 Ar (Kh (Ae 5)) (Aos (G3 (Abv (Kh (Ae 4)) (G3 (Kh (Ae 8)) (G3 (Kh fZ) Ad1))) (G3 (Abv (Kh (Ae 4)) (G3 (Kh (Ae 8)) (G3 (Kh fZ) (G3 (Kh (fC (.int 1))) Ad1)))) Ad1)))
theorem Aqt{y:Str}(ht:asc t)(hl:t.length<=3000)(D:Deck L d B)(hB:B<=100000000000)(hs:L[s]? = some (.lst (ss.map U.str)))(hd:s≠d)(hlen:ss.length<=100)(hO:Odd ss)(x0 x2 x3 x6 x7:Option U)(P:U->UH->Prop)
  (hP:∀ n ss' L',L'[n]? = some (.lst (ss'.map U.str))->ss'.length=ss.length+2->Odd ss'->Deck L' d (B+2)->Ex d L L'->n≠d->P (.ref n) L'):Aoa [x0,some (.ref d),x2,x3,some (.str t),some (.ref s),x6,x7,some (.tz y)] L P:=by
 have zl:∀ c:Nat,(⟨#[c]⟩:Str).length=1:=one_len
 have ls:=(aD.mp hs).1
 have ld:=D.lt
 obtain ⟨c1,L1,hc1,e1,D1,X1⟩:=X4 D (by omega)
 obtain ⟨c2,L2,hc2,e2,D2,X2⟩:=X4 D1 (by omega)
 have X12:=X1.trans X2
 refine ⟨.ref s,L,rfl,?_⟩
 refine ⟨.str t,L,rfl,t,rfl,⟨.tz y,L,rfl,⟨_,L1,K6 (u:=.ref d) rfl e1,?_⟩⟩⟩
 refine ⟨y,⟨#[c1]⟩,.inl rfl,by rw[zl];omega,fun r1 hr1 hm1=>?_⟩
 refine ⟨.str t,L1,rfl,t,rfl,⟨.tz y,L1,rfl,⟨_,L2,K6 (u:=.ref d) rfl e2,⟨.int 1,L2,rfl,?_⟩⟩⟩⟩
 refine ⟨y,⟨#[c2]⟩,.inr rfl,by rw[zl];omega,fun r2 hr2 hm2=>?_⟩
 rw[zl] at hr1 hr2
 have h0:L2[s]? = some (.lst (ss.map U.str)):=by rw[X12.at_ s ls hd];exact hs
 have h1:(L2++[HU.lst ([r1,r2].map U.str)])[s]? = some (.lst (ss.map U.str)):=(Gw.new L2 _).get h0
 have h2:(L2++[HU.lst ([r1,r2].map U.str)])[L2.length]? = some (.lst ([r1,r2].map U.str)):=by simp
 have l2:=X12.le
 refine ⟨by simp,_,_,Kf h1 h2 (by simp;omega),hP _ (ss++[r1,r2]) _ ?_ (by simp) ?_ (((D2.new _).new _).mono (by omega)) ((X12.trans (Ex.new d L2 _)).trans (Ex.new d _ _)) (by simp;omega)⟩
 ·rw[eJ,bD (aJ _),eK];rfl
 ·exact hO.app (Fg (V4 ht (Q3 hc1) hm1) (by omega) (Fg (V4 ht (Q3 hc2) hm2) (by omega) Vu))
def Alx:WS:=Anm (Cu (Cv (Ad (fC (.tz " ")) (Ad (fC (.tz "\n")) Ag)))) (gN 8) (Ak7 Aoa 5)
structure OldJ(d n:Nat)(t:Str)(B:Int)(x0 x2 x3 x6 x7:Option U)(k:Nat)(δ:UE)(L:UH):Prop where
 le:k<=2
 st:∃ s ss y8,δ = [x0,some (.ref d),x2,x3,some (.str t),some (.ref s),x6,x7,y8]/\L[s]? = some (.lst (ss.map U.str))/\s≠d/\ss.length=10+2 * k/\Odd ss
 dk:Deck L d (B+2 * k)
 at_:L[n]? = some (.lst [.tz " ",.tz "\n"])
theorem at_ref(h:L[n]? = some (.lst us)):(IU.ref n).at k L=some us[k]?:=by unfold IU.at;simp only;rw[h]
theorem Aox(ht:asc t)(hl:t.length<=3000)(D:Deck L d B)(hB:B<=10000000000)(hs:L[s]? = some (.lst (ss.map U.str)))(hd:s≠d)(hlen:ss.length=10)(hO:Odd ss)(x0 x2 x3 x6 x7 x8:Option U)(P:Fl->UH->Prop)
  (hP:∀ n ss' y8 L',L'[n]? = some (.lst (ss'.map U.str))->ss'.length=14->Odd ss'->Deck L' d (B+4)->n≠d->P (.nx [x0,some (.ref d),x2,x3,some (.str t),some (.ref n),x6,x7,y8]) L'):Alx [x0,some (.ref d),x2,x3,some (.str t),some (.ref s),x6,x7,x8] L P:=by
 have ld:=D.lt
 have hn:(L++[HU.lst [U.tz " ",.tz "\n"]])[L.length]? = some (.lst [.tz " ",.tz "\n"]):=by simp
 have hs1:(L++[HU.lst [U.tz " ",.tz "\n"]])[s]? = some (.lst (ss.map U.str)):=(Gw.new L _).get hs
 have D1:=(Gw.new L [HU.lst [U.tz " ",.tz "\n"]]).deck D
 have hi:(Cu (Cv (Ad (fC (.tz " ")) (Ad (fC (.tz "\n")) Ag)))) [x0,some (.ref d),x2,x3,some (.str t),some (.ref s),x6,x7,x8] L=some (.ref L.length,L++[HU.lst [U.tz " ",.tz "\n"]]):=by
  rw[Sr,show (Cv (Ad (fC (.tz " ")) (Ad (fC (.tz "\n")) Ag))) [x0,some (.ref d),x2,x3,some (.str t),some (.ref s),x6,x7,x8] L=some (.ref L.length,L++[HU.lst [U.tz " ",.tz "\n"]]) from rfl,aA,Gm (Am hn)]
  rfl
 have hne:L.length≠d:=by omega
 generalize L++[HU.lst [U.tz " ",.tz "\n"]]=L1 at hn hs1 D1 hi
 generalize L.length=n at hn hi hne
 refine ⟨.ref n,L1,2,OldJ d n t B x0 x2 x3 x6 x7,hi,⟨by omega,⟨s,ss,x8,rfl,hs1,hd,by omega,hO⟩,D1.mono (by omega),hn⟩,fun k δ L2 J=>?_⟩
 obtain ⟨s2,ss2,y8,rfl,h2,d2,l2,O2⟩:=J.st
 by_cases hk:k=2
 ·subst hk
  exact .inl ⟨at_ref J.at_,hP s2 ss2 y8 L2 h2 (by omega) O2 (J.dk.mono (by omega)) d2⟩
 ·have hk2:k < 2:=by have:=J.le;omega
  have turn:∀ y:Str,Ak7 Aoa 5 [x0,some (.ref d),x2,x3,some (.str t),some (.ref s2),x6,x7,some (.tz y)] L2 (Alq (OldJ d n t B x0 x2 x3 x6 x7 (k+1)) P):=fun y=>
   Aqt ht hl J.dk (by omega) h2 d2 (by omega) O2 x0 x2 x3 x6 x7 _ fun m ss' L' h' l' O' D' X' dm=>by
    have hn2:=(aD.mp J.at_).1
    exact ⟨by omega,⟨m,ss',_,rfl,h',dm,by omega,O'⟩,D'.mono (by omega),by rw[X'.at_ n hn2 hne];exact J.at_⟩
  have hat:∃ y,(IU.ref n).at k L2=some (some (.tz y)):=by
   rw[at_ref J.at_]
   rcases k with _ | _ | k
   ·exact ⟨" ",rfl⟩
   ·exact ⟨"\n",rfl⟩
   ·omega
  obtain ⟨y,hy⟩:=hat
  exact .inr ⟨.tz y,_,L2,hy,hk2,rfl,turn y⟩
abbrev Ap2:FE:=(f2 Ar (Ae 5) (Cv (Ad (A0 1 E3 (Ad (Ae 1) Ag)) (Ad (f2 Ar (Ae 4) (A0 1 E3 (Ad (Ae 1) Ag))) Ag))))
def Ap1:FS:=(A8 (A0 2 Kp (Ad (Ae 1) (Ad Amy Ag))) (gN 3))
def Aqq:FS:=(A8 (A0 1 Ic (Ad (Ae 3) Ag)) (gN 4))
def Aqn:FS:=(A8 (C0 [none,some 1,some 3] (Dr (Ad (fC (.int 4)) Ag)) (gN 0) none Su) (gN 5))
def Aru:FS:=(Ik (Cu Ap2) (gN 6) Ol)
def Alu:WS:=Yb (Wl Ap1) (Yb (Wl Aqq) (Yb (Wl Aqn) (Yb (Ak7 Alz 5) (Yb Alx (Wl Aru)))))
theorem Aix(ht:asc t)(hl:t.length<=3000)(D:Deck L d B)(hB:B<=10000000000)(hs:L[s]? = some (.lst (ss.map U.str)))(hd:s≠d)(hlen:ss.length=14)(hO:Odd ss)(x0 x2 x3 x6 x7 x8:Option U) :
  ∃ y L',Aru [x0,some (.ref d),x2,x3,some (.str t),some (.ref s),x6,x7,x8] L=some (.nx [x0,some (.ref d),x2,x3,some (.str t),some (.ref s),y,x7,x8],L')/\Deck L' d (B+2):=by
 have zl:∀ c:Nat,(⟨#[c]⟩:Str).length=1:=one_len
 have ls:=(aD.mp hs).1
 obtain ⟨c1,L1,hc1,e1,D1,X1⟩:=V3 D (by omega)
 obtain ⟨c2,L2,hc2,e2,D2,X2⟩:=V3 D1 (by omega)
 have h0:L2[s]? = some (.lst (ss.map U.str)):=by rw[(X1.trans X2).at_ s ls hd];exact hs
 have h1:(L2++[HU.lst ([⟨#[c1]⟩,t++⟨#[c2]⟩].map U.str)])[s]? = some (.lst (ss.map U.str)):=(Gw.new L2 _).get h0
 have h2:(L2++[HU.lst ([⟨#[c1]⟩,t++⟨#[c2]⟩].map U.str)])[L2.length]? = some (.lst ([⟨#[c1]⟩,t++⟨#[c2]⟩].map U.str)):=by simp
 have a1:(Cv (Ad (A0 1 E3 (Ad (Ae 1) Ag)) (Ad (f2 Ar (Ae 4) (A0 1 E3 (Ad (Ae 1) Ag))) Ag))) [x0,some (.ref d),x2,x3,some (.str t),some (.ref s),x6,x7,x8] L=some (.ref L2.length,L2++[HU.lst ([⟨#[c1]⟩,t++⟨#[c2]⟩].map U.str)]):=by
  rw[fLst_eq,Fq (K6 (u:=.ref d) rfl e1) (Fq (Bq (u:=.str t) rfl (K6 (u:=.ref d) rfl e2) (Jm _ _ (by rw[zl];omega) _)) rfl)]
  rfl
 have a2:=Bq (s:=Ar) (fa:=Ae 5) (δ:=[x0,some (.ref d),x2,x3,some (.str t),some (.ref s),x6,x7,x8]) (u:=.ref s) rfl a1 (Kf h1 h2 (by simp;omega))
 have h3:(L2++[HU.lst ([⟨#[c1]⟩,t++⟨#[c2]⟩].map U.str)]++[HU.lst (ss.map U.str++[⟨#[c1]⟩,t++⟨#[c2]⟩].map U.str)])[(L2++[HU.lst ([⟨#[c1]⟩,t++⟨#[c2]⟩].map U.str)]).length]? = some (.lst ((ss++[⟨#[c1]⟩,t++⟨#[c2]⟩]).map U.str)):=by
  rw[eJ,bD (aJ _),eK];rfl
 have O3:Odd (ss++[⟨#[c1]⟩,t++⟨#[c2]⟩]):=hO.app (Fg (Q3 hc1) (by rw[zl];omega) (Fg (Je ht (Q3 hc2)) (by rw[Pd,zl];omega) Vu))
 obtain ⟨y,L',e,g⟩:=Agw x0 (some (.ref d)) x2 x3 (some (.str t)) (some (.ref s)) x6 x7 x8 a2 h3 O3
 exact ⟨y,L',e,(g.deck ((D2.new _).new _)).mono (by omega)⟩
theorem Ans{k:Int}(D:Deck L d B)(hB:B<=1000000000)(x0 x3 x4 x5 x6 x7 x8:Option U)(P:Fl->UH->Prop)
  (hP:∀ y3 y4 y5 y6 y8 L',Deck L' d (B+2000)->P (.nx [x0,some (.ref d),some (.int k),y3,y4,y5,y6,x7,y8]) L'):Alu [x0,some (.ref d),some (.int k),x3,x4,x5,x6,x7,x8] L P:=by
 obtain ⟨most,L1,e1,hm,D1,X1⟩:=Ak6 (k:=k) D (by omega) x0 x3 x4 x5 x6 x7 x8
 obtain ⟨ps,L2,e2,Ps,D2,X2⟩:=Aei D1 (by omega) hm
 obtain ⟨L3,e3,g3⟩:=Aco Ps L2
 have D3:=g3.deck D2
 have ta:=Acd Ps.nm
 have tl:=Ve Ps
 obtain ⟨n4,ss4,L4,e4,h4,l4,O4,D4,d4⟩:=Y0 Ps D3 (by omega) x0 (some (.int k)) (some (.str (txt ps))) x5 x6 x7 x8
 have s1:Ap1 [x0,some (.ref d),some (.int k),x3,x4,x5,x6,x7,x8] L=some (.nx [x0,some (.ref d),some (.int k),some (.tup (ps.map ptU)),x4,x5,x6,x7,x8],L2):=Dj (i:=3) (δ:=[x0,some (.ref d),some (.int k),x3,x4,x5,x6,x7,x8]) (Kc (u:=.ref d) rfl e1 e2)
 have s2:Aqq [x0,some (.ref d),some (.int k),some (.tup (ps.map ptU)),x4,x5,x6,x7,x8] L2=some (.nx [x0,some (.ref d),some (.int k),some (.tup (ps.map ptU)),some (.str (txt ps)),x5,x6,x7,x8],L3):=Dj (i:=4) (δ:=[x0,some (.ref d),some (.int k),some (.tup (ps.map ptU)),x4,x5,x6,x7,x8]) (K6 rfl e3)
 have s3:Aqn [x0,some (.ref d),some (.int k),some (.tup (ps.map ptU)),some (.str (txt ps)),x5,x6,x7,x8] L3=some (.nx [x0,some (.ref d),some (.int k),some (.tup (ps.map ptU)),some (.str (txt ps)),some (.ref n4),x6,x7,x8],L4):=Dj (i:=5) (δ:=[x0,some (.ref d),some (.int k),some (.tup (ps.map ptU)),some (.str (txt ps)),x5,x6,x7,x8]) e4
 refine ⟨_,L2,s1,?_⟩
 refine ⟨_,L3,s2,?_⟩
 refine ⟨_,L4,s3,?_⟩
 refine Anh ta tl h4 (by omega) O4 x0 (some (.ref d)) (some (.int k)) (some (.tup (ps.map ptU))) x6 x7 x8 _ fun n5 ss5 L5 h5 l5 O5 g5 b5=>?_
 have D5:=g5.deck D4
 have ld:=D4.lt
 refine Aox ta tl D5 (by omega) h5 (by omega) (by omega) O5 x0 (some (.int k)) (some (.tup (ps.map ptU))) x6 x7 x8 _ fun n6 ss6 y8 L6 h6 l6 O6 D6 d6=>?_
 obtain ⟨y,L7,e7,D7⟩:=Aix ta tl D6 (by omega) h6 d6 l6 O6 x0 (some (.int k)) (some (.tup (ps.map ptU))) x6 x7 y8
 exact ⟨_,L7,e7,hP _ _ _ _ _ L7 (D7.mono (by omega))⟩
def Adx:WS:=Yb (Wl (A8 (A0 1 K9 (Ad (Ae 0) Ag)) (gN 1))) (Yb (Anm (Dr (Ad (fC (.int 3)) Ag)) (gN 2) Alu) (Wl X6))
theorem Ap3(ns:List Int)(hl:ns.length<=63):Adx [some (.ref 0),none,none,none,none,none,none,none,none] [.ro (ns.map U.int)] fun fl _=>∃ u,fl = .rt u/\u = .bl true:=by
 obtain ⟨d,L1,e1,D1,_,_⟩:=Deck.start ns [.ro (ns.map U.int)] 0 rfl hl
 have s1:(A8 (A0 1 K9 (Ad (Ae 0) Ag)) (gN 1)) [some (.ref 0),none,none,none,none,none,none,none,none] [.ro (ns.map U.int)]=some (.nx [some (.ref 0),some (.ref d),none,none,none,none,none,none,none],L1):=Dj (i:=1) (δ:=[some (.ref 0),none,none,none,none,none,none,none,none]) (K6 rfl e1)
 refine ⟨_,L1,s1,?_⟩
 refine ⟨.seq (Cd 0 3),L1,3,fun k δ L=>k<=3/\(∃ y2 y3 y4 y5 y6 y7 y8,δ = [some (.ref 0),some (.ref d),y2,y3,y4,y5,y6,y7,y8])/\Deck L d (2000 * k),Kb (n:=3) rfl (by omega),⟨by omega,⟨none,none,none,none,none,none,none,rfl⟩,D1.mono (by omega)⟩,fun k δ L J=>?_⟩
 obtain ⟨hk,⟨y2,y3,y4,y5,y6,y7,y8,rfl⟩,D⟩:=J
 by_cases h3:k=3
 ·subst h3
  refine .inl ⟨rfl,?_⟩
  obtain ⟨L',e⟩:=Xn (some (.ref 0)) (some (.ref d)) y2 y3 y4 y5 y6 y7 y8 L
  exact ⟨_,L',e,_,rfl,rfl⟩
 ·have hat:(IU.seq (Cd 0 3)).at k L=some (some (.int (0+(k:Int)))):=by
   show some (Cd 0 3)[k]? = _
   unfold Cd
   rw[bO,jA (by omega)]
   rfl
  refine .inr ⟨_,_,L,hat,by omega,rfl,?_⟩
  refine Ans D (by omega) (some (.ref 0)) y3 y4 y5 y6 y7 y8 _ fun z3 z4 z5 z6 z8 L' D'=>?_
  exact ⟨by omega,⟨_,_,_,_,_,_,_,rfl⟩,D'.mono (by omega)⟩
end Lw
namespace MR
open PySem PySem.Spec PyProof.Rows PySem.Calls L2
theorem Afj{X:Cx}{pos p:Pos}{x:Str}{k:Nat}{f:Addr}{fd:dN}{ps:List Str}{F:FN}{n:Nat}(hF:FnOk X.prog X.w X.K X.mg X.base CX0 k f fd ps (spF X.K n F))(hr:Room k X.A)(hg:Gl X x)(hm:X.mg x=some (.ref f))(hk:cN X.K (.ref f)=true)(hb:Binds X.K fd ps [])
  (hdb:(x == ("__debug__" : Str))=false:=by decide):PEF X (.Call (.Name x p) [] [] pos) (A0 n F Ag):=by
 refine PE.imp (Afh hF hr hg hm hk hb .nil Ami hdb) ?_
 rintro σ H Q ⟨α,δ,L,A,S,z,L3,e,q⟩
 obtain ⟨us,L1,e1,e⟩:=B9 e
 cases e1
 simp only at e
 split at e
 ·rename_i hl
  exact ⟨α,L,[],A,.nil,hl,z,L3,e,q⟩
 ·cases e
theorem Ano{X:Cx}{pos p:Pos}{x:Str}{st:Stmt}{k j n:Nat}{ps:List Str}{F:FN}(c:FnG X.K X.mg x st ps)(hF:FnOk X.prog X.w X.K X.mg X.base CX0 k c.f c.d ps (spF X.K n F))(hr:Room j X.A)(hg:Gl X x:=by rfl)(hk:k<=j:=by decide)
  (hdb:(x == ("__debug__" : Str))=false:=by decide):PEF X (.Call (.Name x p) [] [] pos) (A0 n F Ag):=Afj hF (hr.mono hk) hg c.g c.F.kp c.b hdb
end MR
namespace Lw
open PySem L2 MR
def top(i:Nat):Stmt:=PySem.Challenge.pw_belowpoints_k02_no_points.main.body.getD i (.Pass ⟨0,0,0,0⟩)
abbrev Mv:Stmt:=top 28
theorem Ec:FnScope ["word","number","sign","figures","figure"] ["word"] (Aq Mv):=scm
abbrev Te:Stmt:=top 32
theorem Jh:FnScope ["text","numbers","word"] ["text"] (Aq Te):=scm
abbrev Ka:Stmt:=Ef (top 3) 0
theorem Nx:FnScope ["self","text"] ["self","text"] (Aq Ka):=scm
abbrev Hk:Stmt:=Ef (top 5) 0
theorem Ll:FnScope ["self","row"] ["self","row"] (Aq Hk):=scm
abbrev Jb:Stmt:=Ef (top 6) 0
theorem M7:FnScope ["self","word"] ["self","word"] (Aq Jb):=scm
abbrev Iu:Stmt:=Ef (top 2) 0
theorem Mn:FnScope ["self","text"] ["self","text"] (Aq Iu):=scm
abbrev Hl:Stmt:=Ef (top 4) 0
theorem Ln:FnScope ["self","row"] ["self","row"] (Aq Hl):=scm
abbrev Jo:Stmt:=top 34
theorem Dd:FnScope ["made","k","e","flags"] [] (Aq Jo):=scm
abbrev Ws:Stmt:=top 18
theorem Aed:FnScope ["script"] ["script"] (Aq Ws):=scm
abbrev Acp:Stmt:=top 17
theorem Oo:FnScope ["cell","k","number"] ["cell","k"] (Aq Acp):=scm
abbrev Yp:Stmt:=top 19
theorem P2:FnScope ["deck","many","cell","found"] ["deck","many"] (Aq Yp):=scm
abbrev Ui:Stmt:=top 20
theorem Cf:FnScope ["deck","many","letters","pad","begin","way","found","k","number","name","left","told"] ["deck","many"] (Aq Ui):=scm
abbrev Rk:Stmt:=top 21
theorem K7:FnScope ["deck","kind","great"] ["deck","kind"] (Aq Rk):=scm
abbrev Ry:Stmt:=top 22
theorem Ci:FnScope ["deck","most","many","kind","way","some","found","k","place"] ["deck","most"] (Aq Ry):=scm
abbrev R1:Stmt:=top 23
theorem Ji:FnScope ["deck","most","places","names"] ["deck","most"] (Aq R1):=scm
abbrev Qb:Stmt:=top 27
theorem O8:FnScope ["word","letters"] ["word"] (Aq Qb):=scm
abbrev Ac5:Stmt:=top 29
theorem Kz:FnScope ["text","found","line","words","numbers"] ["text"] (Aq Ac5):=scm
abbrev Oa:Stmt:=top 15
theorem Tq:FnScope ["word","signs"] ["word","signs"] (Aq Oa):=scm
abbrev Ub:Stmt:=top 13
theorem Aax:FnScope ["word"] ["word"] (Aq Ub):=scm
abbrev Qe:Stmt:=top 14
theorem N8:FnScope ["word","figures"] ["word"] (Aq Qe):=scm
abbrev S0:Stmt:=top 12
theorem Qm:FnScope ["line","words"] ["line"] (Aq S0):=scm
abbrev Mu:Stmt:=top 11
theorem Bx:FnScope ["text","points","known","row","line","point"] ["text"] (Aq Mu):=scm
abbrev Ug:Stmt:=top 33
theorem Fw:FnScope ["text","due","found","caught","e"] ["text"] (Aq Ug):=scm
abbrev We:Stmt:=top 26
theorem Mb:FnScope ["deck","signs"] ["deck"] (Aq We):=scm
abbrev Kw:Stmt:=top 30
theorem B6:FnScope ["deck","line","names","words","at","there","some","way","text","cut"] ["deck","line","names"] (Aq Kw):=scm
abbrev Qh:Stmt:=top 24
theorem Ek:FnScope ["number","sign","text","k"] ["number"] (Aq Qh):=scm
abbrev Xw:Stmt:=top 25
theorem Aeq:FnScope ["points"] ["points"] (Aq Xw):=scm
abbrev R8:Stmt:=top 31
theorem Ha:FnScope ["deck","points","lines","k","at","way"] ["deck","points"] (Aq R8):=scm
abbrev Aln:Stmt:=top 35
theorem Hg:FnScope ["script","deck","turn","points","text","some","odd","fixed","old"] ["script"] (Aq Aln):=scm
set_option genInjectivity false
set_option genSizeOf false
set_option genSizeOfSpec false
structure Defs(K:aB)(mg:Str->Option aE) where
 ua:Addr
 ub:bV K bB "BelowError" = some (some (.ref ua))
 uc:Addr
 ud:bV K bB "NoAsk" = some (some (.ref uc))
 ue:Addr
 uf:bV K bB "NoCounts" = some (some (.ref ue))
 ug:Addr
 uh:bV K bB "NoName" = some (some (.ref ug))
 ui:Addr
 uj:bV K bB "NoPlace" = some (some (.ref ui))
 uk:Addr
 ul:bV K bB "NoPoints" = some (some (.ref uk))
 um:FnG K mg "_law_number_of" Mv ["word"]
 uo:FnG K mg "_law_beyond" Te ["text"]
 uq:FnM K uc "__init__" "NoAsk.__init__" Ka ["self","text"]
 ur:FnM K ue "__init__" "NoCounts.__init__" Hk ["self","row"]
 ut:FnM K ug "__init__" "NoName.__init__" Jb ["self","word"]
 uu:FnM K ui "__init__" "NoPlace.__init__" Iu ["self","text"]
 uw:FnM K uk "__init__" "NoPoints.__init__" Hl ["self","row"]
 ux:FnG K mg "_law_classes_right" Jo []
 uy:FnG K mg "_law_deck" Ws ["script"]
 uz:FnG K mg "_law_mix" Acp ["cell","k"]
 uA:FnG K mg "_law_next" Yp ["deck","many"]
 uB:FnG K mg "_law_names" Ui ["deck","many"]
 uC:FnG K mg "_law_number" Rk ["deck","kind"]
 uD:FnG K mg "_law_places" Ry ["deck","most"]
 uE:FnG K mg "_law_points" R1 ["deck","most"]
 uF:FnG K mg "_law_is_name" Qb ["word"]
 uG:FnG K mg "_law_due" Ac5 ["text"]
 uH:FnG K mg "holds_only" Oa ["word","signs"]
 uI:FnG K mg "is_name" Ub ["word"]
 uJ:FnG K mg "is_number" Qe ["word"]
 uK:FnG K mg "point_in" S0 ["line"]
 uL:FnG K mg "read_points" Mu ["text"]
 uM:FnG K mg "_law_right" Ug ["text"]
 uN:FnG K mg "_law_sign" We ["deck"]
 uO:FnG K mg "_law_spoilt_line" Kw ["deck","line","names"]
 uP:FnG K mg "_law_figures" Qh ["number"]
 uQ:FnG K mg "_law_text" Xw ["points"]
 uR:FnG K mg "_law_spoilt" R8 ["deck","points"]
 uS:FnG K mg "law" Aln ["script"]
 uT:mg "BelowError" = some (.ref ua)
 uU:mg "NoAsk" = some (.ref uc)
 uV:mg "NoCounts" = some (.ref ue)
 uW:mg "NoName" = some (.ref ug)
 uX:mg "NoPlace" = some (.ref ui)
 uY:mg "NoPoints" = some (.ref uk)
 uZ:Lb K uc=true/\cN K (.ref uc)=true
 u4:Lb K ue=true/\cN K (.ref ue)=true
 u5:Lb K ug=true/\cN K (.ref ug)=true
 u6:Lb K ui=true/\cN K (.ref ui)=true
 u7:Lb K uk=true/\cN K (.ref uk)=true
 u8:BInit K ua
 u9:Qo K ["NoPlace","NoAsk","NoPoints","NoCounts","NoName"] ["BelowError","NoPlace","NoAsk","NoPoints","NoCounts","NoName","ValueError"]=true
 vb:Ahu K ["NoPlace","NoAsk","NoPoints","NoCounts","NoName"] "row" = true
 vc:Ahu K ["NoPlace","NoAsk","NoPoints","NoCounts","NoName"] "word" = true
 vd:bV K bB "ValueError" = some none
 ve:∃ t,mg "FIGURES" = some (.str "0123456789" t)
 vf:∃ t,mg "LETTERS" = some (.str "abcdefghijklmnopqrstuvwxyz" t)
 vg:∃ t,mg "LONGEST_NAME" = some (.int 8 t)
 vh:mg "ValueError" = none
 vi:mg "abs" = none
 vj:mg "all" = none
 vk:mg "bool" = none
 vm:mg "enumerate" = none
 vn:mg "int" = none
 vo:mg "isinstance" = none
 vp:mg "len" = none
 vq:mg "list" = none
 vv:mg "max" = none
 vy:mg "range" = none
 vz:mg "sum" = none
 vA:mg "tuple" = none
 vB:mg "zip" = none
variable {w:cV}
section
variable {P:cD}{K:aB}{mg:Str->Option aE}{base:Heap}
theorem Ir(C:Defs K mg):FnOk P w K mg base CX0 1 C.um.f C.um.d ["word"] (spF K 1 C9):=by
 refine Fun.okF C.um.F Ec (fun cdv A outer s H E hr=>?_)
 have hu:=hr.units
 refine Aj ?s0 ?t0
 case s0=>exact (An (i:=1) (by exact Ec.nd) Ai)
 refine Aj ?s1 ?t1
 case s1=>exact (An (i:=2) (by exact Ec.nd) (Bj Av Aw (Ck (Ac Ai (Ac (Anr Ai) Af))) (Eo Mf Q1 (by rfl) C.vn (by decide +kernel) (Ac (E4 (B1 hu) B4 (Fo Kd Ki (Ah 0) Fi (Fh Ai)) Ap (Bg _)) Af)) (fun _ _=>rfl)))
 refine Aj ?s2 ?t2
 case s2=>exact (An (i:=3) (by exact Ec.nd) (Fo Kd Ki (Ah 0) (Fh (Eo Mf Q1 (by rfl) C.vn (by decide +kernel) (Ac (E4 U3 P8 (Ah 2) Ai (Bg _)) Af))) Fi))
 refine Aj ?s3 ?t3
 case s3=>exact (Gz dL rfl (V9 (Ah 3)) (Bo (i:=4) (by exact Ec.nd)) (Aj (Bw (Be Ul (Ru true) (Ah 4) Ap (by with_unfolding_all rfl)) (Ak (Bh (Ck Af))) Bu) (Ak (An (i:=1) (by exact Ec.nd) (Ax Bm Bl (Ax Fd E8 Ai (Ah 1)) (Ed bS PySem.F.slot_str_find PySem.F.type_str_find Ala Ah7 Ap (Ac (Ah 4) Af)))))))
 refine Aj ?s4 ?t4
 case s4=>exact (Bw (PWF.pt (F7 (Be (B1 hu) B4 (Ah 3) Ap (Bg _)) (Fs (PWF.pt (N9 (Be (B1 hu) B4 (Bj Av Aw (Ah 3) Ai (fun _ _=>rfl)) Ap (Bg _)) (Lk (Be (Li hu) Lo (Ah 0) Ap (Bg _)))))))) (Ak (Bh (Ck Af))) Bu)
 exact (Ak (Bh (Ck (Ac (Ax Fd E8 (Ah 2) (Ah 1)) Af))))
theorem Xj(C:Defs K mg):FnOk P w K mg base CX0 2 C.uo.f C.uo.d ["text"] (spF K 1 Ko):=by
 refine Fun.okF C.uo.F Jh (fun cdv A outer s H E hr=>?_)
 have hu:=hr.units
 refine Aj ?s0 ?t0
 case s0=>exact (An (i:=1) (by exact Jh.nd) (Ck (Ac Ai Af)))
 refine Aj ?s1 ?t1
 case s1=>exact (Gz dL rfl (Ht (Ed bS cM dJ G9 F4 (Ai7 (Ah 0) (by decide) (by decide)) (Ac Ap Af))) (Bo (i:=2) (by exact Jh.nd)) (Ak (An (i:=1) (by exact Jh.nd) (Ax Bm Bl (Ah 1) (Bk C.um (Ir C) hr (Ac (Ah 2) Af))))))
 exact (Ak (Bh (E4 Ar5 An5 (Br (Tr rfl) Ac3 (by rfl) C.vv oG (Ac (Hu (N':=["number"]) (ix:=[none]) ⟨rfl,rfl,rfl,rfl,rfl,rfl⟩ rfl (Ht (Ah 1)) (fun _ _ _ _ _ _=>(Bo (i:=0) (show dS (α:=Str) ["number"] by decide +kernel))) (fun _ _ _ _ _ _=>(Br Xe Ab6 (by rfl) C.vi (by decide +kernel) (Ac (Ah 0) Af)))) Af)) (Ax Kk Hz Ai Ai) (Bg _))))
theorem Oy(C:Defs K mg):FnOk P w K mg base CX0 1 C.uq.f C.uq.d ["self","text"] (spF K 2 Fb):=by
 refine Fun.okF C.uq.F Nx (fun cdv A outer s H E hr=>?_)
 have hu:=hr.units
 exact (Ak (C7 (La (AllX.of C.u9) C.u8 (by rfl) C.uT (Ac (Ah 0) (Ac (Ah 1) Af)))))
theorem Ld(C:Defs K mg):FnOk P w K mg base CX0 1 C.ur.f C.ur.d ["self","row"] (spF K 2 Cq):=by
 refine Fun.okF C.ur.F Ll (fun cdv A outer s H E hr=>?_)
 have hu:=hr.units
 refine Aj ?s0 ?t0
 case s0=>exact (C7 (La (AllX.of C.u9) C.u8 (by rfl) C.uT (Ac (Ah 0) (Ac (Pp (.cons Ap (.cons (Agi (Ah 1)) (.cons Ap .nil)))) Af))))
 exact (Ak (Rb C.u9 C.vb (Ah 0) (Ah 1)))
theorem M8(C:Defs K mg):FnOk P w K mg base CX0 1 C.ut.f C.ut.d ["self","word"] (spF K 2 C2):=by
 refine Fun.okF C.ut.F M7 (fun cdv A outer s H E hr=>?_)
 have hu:=hr.units
 refine Aj ?s0 ?t0
 case s0=>exact (C7 (La (AllX.of C.u9) C.u8 (by rfl) C.uT (Ac (Ah 0) (Ac (Pp (.cons Ap (.cons (Aih (Ah 1)) (.cons Ap .nil)))) Af))))
 exact (Ak (Rb C.u9 C.vc (Ah 0) (Ah 1)))
theorem Mm(C:Defs K mg):FnOk P w K mg base CX0 1 C.uu.f C.uu.d ["self","text"] (spF K 2 Eg):=by
 refine Fun.okF C.uu.F Mn (fun cdv A outer s H E hr=>?_)
 have hu:=hr.units
 exact (Ak (C7 (La (AllX.of C.u9) C.u8 (by rfl) C.uT (Ac (Ah 0) (Ac (Ah 1) Af)))))
theorem G8(C:Defs K mg):FnOk P w K mg base CX0 1 C.uw.f C.uw.d ["self","row"] (spF K 2 B8):=by
 refine Fun.okF C.uw.F Ln (fun cdv A outer s H E hr=>?_)
 have hu:=hr.units
 refine Aj ?s0 ?t0
 case s0=>exact (C7 (La (AllX.of C.u9) C.u8 (by rfl) C.uT (Ac (Ah 0) (Ac (Pp (.cons Ap (.cons (Agi (Ah 1)) (.cons Ap .nil)))) Af))))
 exact (Ak (Rb C.u9 C.vb (Ah 0) (Ah 1)))
theorem Nt(C:Defs K mg):FnOk P w K mg base CX0 3 C.ux.f C.ux.d [] (spF K 0 Ge):=by
 refine Fun.okF C.ux.F Dd (fun cdv A outer s H E hr=>?_)
 have hu:=hr.units
 refine Aj ?s0 ?t0
 case s0=>
  refine An (i:=0) (hi:=?h1_0) (hx:=?h2_0) (hf:=?h3_0) (hs:=?h4_0) ?h5_0 ?h6_0
  case h1_0=>rfl
  case h2_0=>first | exact nV rfl | exact nF rfl
  case h3_0=>first | exact .inl rfl | exact .inr rfl
  case h4_0=>rfl
  case h5_0=>exact (by exact Dd.nd)
  case h6_0=>
   refine Ck ?g
   refine Ac (hs:=?q0) ?e0 ?r0
   case q0=>rfl
   case e0=>exact (Jy C.ud (Ado C.uq C.uZ) (Oy C) (hr.mono (by decide)) (by rfl) C.uU C.uq.b (Ac Ap Af))
   refine Ac (hs:=?q1) ?e1 ?r1
   case q1=>rfl
   case e1=>exact (Jy C.uf (Ado C.ur C.u4) (Ld C) (hr.mono (by decide)) (by rfl) C.uV C.ur.b (Ac Ai Af))
   refine Ac (hs:=?q2) ?e2 ?r2
   case q2=>rfl
   case e2=>exact (Jy C.uh (Ado C.ut C.u5) (M8 C) (hr.mono (by decide)) (by rfl) C.uW C.ut.b (Ac Ap Af))
   refine Ac (hs:=?q3) ?e3 ?r3
   case q3=>rfl
   case e3=>exact (Jy C.uj (Ado C.uu C.u6) (Mm C) (hr.mono (by decide)) (by rfl) C.uX C.uu.b (Ac Ap Af))
   refine Ac (hs:=?q4) ?e4 ?r4
   case q4=>rfl
   case e4=>exact (Jy C.ul (Ado C.uw C.u7) (G8 C) (hr.mono (by decide)) (by rfl) C.uY C.uw.b (Ac Ai Af))
   exact Af
 refine Aj ?s1 ?t1
 case s1=>exact (Gz dL rfl (Pn (by rfl) C.vm (Ac (Ah 0) Af)) (Kg rfl (Cw (Bo (i:=1) (by exact Dd.nd)) (Cw (Bo (i:=2) (by exact Dd.nd)) Ie))) (Aj (An (i:=3) (by exact Dd.nd) (Ck (Ac (Nu C.u9 (by decide) C.ud (Ah 2) (by rfl) C.vo (by rfl) C.uU) (Ac (Nu C.u9 (by decide) C.uf (Ah 2) (by rfl) C.vo (by rfl) C.uV) (Ac (Nu C.u9 (by decide) C.uh (Ah 2) (by rfl) C.vo (by rfl) C.uW) (Ac (Nu C.u9 (by decide) C.uj (Ah 2) (by rfl) C.vo (by rfl) C.uX) Af)))))) (Aj (C7 (Ed bX eE eF Ia Gk (Ah 3) (Ac (Nu C.u9 (by decide) C.ul (Ah 2) (by rfl) C.vo (by rfl) C.uY) Af))) (Ak (Bw (PWF.pt (F7 (Be (Li hu) Lo (Ah 3) (Hu (N':=["j","k"]) (ix:=[none,some 1]) ⟨rfl,rfl,rfl,rfl,rfl,rfl⟩ rfl (Du (by rfl) C.vy (Ac Ai Af)) (fun _ _ _ _ _ _=>(Bo (i:=0) (show dS (α:=Str) ["j","k"] by decide +kernel))) (fun _ _ _ _ _ _=>(E4 (B1 hu) B4 (Ah 0) (Ah 1) (Bg _)))) (Bg _)) (F7 (Fe (Dl (Nu C.u9 (by decide) C.ub (Ah 2) (by rfl) C.vo (by rfl) C.uT))) (Fs (Fe (Dl (Ace C.u9 (by decide) C.vd (Ah 2) (by rfl) C.vo (by rfl) C.vh))))))) (Ak (Bh Ql)) Bu)))))
 exact (Ak (Bh (Nd (E4 (B1 hu) B4 (Mg C.u9 C.vb (Bj Av Aw (Ah 0) Ai (fun _ _=>rfl))) Ai (Bg _)) (Nd (E4 (B1 hu) B4 (Mg C.u9 C.vc (Bj Av Aw (Ah 0) Ai (fun _ _=>rfl))) Ap (Bg _)) (M4 (E4 (B1 hu) B4 (Mg C.u9 C.vb (Bj Av Aw (Ah 0) Ai (fun _ _=>rfl))) Ai (Bg _)))))))
theorem Aej(C:Defs K mg):FnOk P w K mg base CX0 1 C.uy.f C.uy.d ["script"] (spF K 1 K9):=by
 refine Fun.okF C.uy.F Aed (fun cdv A outer s H E hr=>?_)
 have hu:=hr.units
 exact (Ak (Bh (Ck (by refine Ac (Fo Vs Rx (Ah 0) Fi (Fh Ai)) ?_;refine Ac Ai ?_;refine Ac Ai ?_;refine Ac Ai ?_;refine Ac (Br (Adt rfl) Akc (by rfl) C.vz PyProof.Rows.boot_sum (Ac (Fo Vs Rx (Ah 0) Fi (Fh Ai)) Af)) ?_;exact Af))))
theorem Xx(C:Defs K mg):FnOk P w K mg base CX0 1 C.uz.f C.uz.d ["cell","k"] (spF K 2 Ov):=by
 refine Fun.okF C.uz.F Oo (fun cdv A outer s H E hr=>?_)
 have hu:=hr.units
 refine Aj ?s0 ?t0
 case s0=>exact (An (i:=2) (by exact Oo.nd) (Ax Bm Bl (Ax E2 Dk (Ah 0) Ai) (Ax Fd E8 (Ax Fd E8 Ai (Ah 1)) (Ah 1))))
 refine Aj ?s1 ?t1
 case s1=>exact (An (i:=2) (by exact Oo.nd) (Ax E2 Dk (Ax Bm Bl (Ah 2) (Ax Fd E8 Ai (Ah 1))) Ai))
 refine Aj ?s2 ?t2
 case s2=>exact (An (i:=2) (by exact Oo.nd) (Ax E2 Dk (Ax Fd E8 (Ah 2) (Ah 2)) Ai))
 exact (Ak (Bh (Ax F6 Hs (Ax E2 Dk (Ax Fd E8 (Ah 2) (Ax Bm Bl (Ah 2) Ai)) Ai) Ai)))
theorem Bf(C:Defs K mg):FnOk P w K mg base CX0 2 C.uA.f C.uA.d ["deck","many"] (spF K 2 Ao):=by
 refine Fun.okF C.uA.F P2 (fun cdv A outer s H E hr=>?_)
 have hu:=hr.units
 refine Aj ?s0 ?t0
 case s0=>exact (Bw (PWF.pt (N9 (Be (B1 hu) B4 (Bj Av Aw (Ah 0) Ai (fun _ _=>rfl)) Ai (Bg _)) (Lk (Be U3 P8 (Bj Av Aw (Ah 0) Ai (fun _ _=>rfl)) (Br B3 Cc (by rfl) C.vp bT (Ac (Bj Av Aw (Ah 0) Ai (fun _ _=>rfl)) Af)) (Bg _))))) (Aj (An (i:=2) (by exact P2.nd) (Bj Av Aw (Bj Av Aw (Ah 0) Ai (fun _ _=>rfl)) (Bj Av Aw (Ah 0) Ai (fun _ _=>rfl)) (fun _ _=>rfl))) (Aj (Jk (Ax Bm Bl (Bj Av Aw (Ah 0) Ai (fun _ _=>rfl)) Ai) (Hq (Ah 0) Ai)) (Aj (Bw (Be U3 P8 (Ah 2) (Ax Kk Hz Ai Ai) (Bg _)) (Ak (Bh (Ax E2 Dk (Bk C.uz (Xx C) hr (Ac (Ah 2) (Ac (Bj Av Aw (Ah 0) Ai (fun _ _=>rfl)) Af))) (Ah 1)))) Bu) (Ak (Jk (Ah 2) (Hq (Ah 0) Ai)))))) Bu)
 refine Aj ?s1 ?t1
 case s1=>exact (Bw (Be Agm Y4 (Bj Av Aw (Ah 0) Ai (fun _ _=>rfl)) Ai (Bg _)) (Aj (An (i:=3) (by exact P2.nd) (Ax E2 Dk (Bj Av Aw (Ah 0) Ai (fun _ _=>rfl)) (Ah 1))) (Aj (Jk (Ax F6 Hs (Bj Av Aw (Ah 0) Ai (fun _ _=>rfl)) (Ah 1)) (Hq (Ah 0) Ai)) (Ak (Bh (Ah 3))))) Bu)
 refine Aj ?s2 ?t2
 case s2=>exact (Jk (Ax Bm Bl (Bj Av Aw (Ah 0) Ai (fun _ _=>rfl)) Ai) (Hq (Ah 0) Ai))
 exact (Ak (Bh (Ax E2 Dk (Bk C.uz (Xx C) hr (Ac (Bj Av Aw (Ah 0) Ai (fun _ _=>rfl)) (Ac (Ax Bm Bl (Bj Av Aw (Ah 0) Ai (fun _ _=>rfl)) Ai) Af))) (Ah 1))))
theorem Yw(C:Defs K mg):FnOk P w K mg base CX0 3 C.uB.f C.uB.d ["deck","many"] (spF K 2 J0):=by
 refine Fun.okF C.uB.F Cf (fun cdv A outer s H E hr=>?_)
 have hu:=hr.units
 refine Aj ?s0 ?t0
 case s0=>exact (An (i:=2) (by exact Cf.nd) Ap)
 refine Aj ?s1 ?t1
 case s1=>exact (An (i:=3) (by exact Cf.nd) (Bj Av Aw (Ah 2) (Bk C.uA (Bf C) hr (Ac (Ah 0) (Ac Ai Af))) (fun _ _=>rfl)))
 refine Aj ?s2 ?t2
 case s2=>exact (An (i:=4) (by exact Cf.nd) (Bk C.uA (Bf C) hr (Ac (Ah 0) (Ac Ai Af))))
 refine Aj ?s3 ?t3
 case s3=>exact (An (i:=5) (by exact Cf.nd) (Bk C.uA (Bf C) hr (Ac (Ah 0) (Ac Ai Af))))
 refine Aj ?s4 ?t4
 case s4=>exact (An (i:=6) (by exact Cf.nd) (Ck Af))
 refine Aj ?s5 ?t5
 case s5=>exact (Gz dL rfl (Du (by rfl) C.vy (Ac (Ah 1) Af)) (Bo (i:=7) (by exact Cf.nd)) (Aj (An (i:=8) (by exact Cf.nd) (Ax Bm Bl (Ah 4) (Ax Fd E8 Ai (Ah 7)))) (Aj (An (i:=9) (by exact Cf.nd) (Ax Bm Bl (Bj Av Aw (Ah 2) (Ax E2 Dk (Ah 8) Ai) (fun _ _=>rfl)) (Bj Av Aw (Ah 2) (Ax E2 Dk (Ax F6 Hs (Ah 8) Ai) Ai) (fun _ _=>rfl)))) (Aj (An (i:=9) (by exact Cf.nd) (Ax Bm Bl (Ah 9) (Bj Av Aw (Ah 2) (Ax F6 Hs (Ah 8) Ai) (fun _ _=>rfl)))) (Aj (Bw (Be (B1 hu) B4 (Ah 5) Ai (Bg _)) (Ak (An (i:=9) (by exact Cf.nd) (Ax Bm Bl (Ax Fd E8 (Ah 3) (Ax E2 Dk (Ah 7) Ai)) (Ah 9)))) Bu) (Aj (Bw (Be (B1 hu) B4 (Ah 5) Ai (Bg _)) (Ak (An (i:=9) (by exact Cf.nd) (Ax Bm Bl (Ah 9) (Ax Fd E8 (Ah 3) (Ax E2 Dk (Ah 7) Ai))))) Bu) (Aj (Bw (Be (B1 hu) B4 (Ah 5) Ai (Bg _)) (Ak (An (i:=9) (by exact Cf.nd) (Bj Av Aw (Ck (Ac (Bj Av Aw (Ah 2) (Ax E2 Dk (Ah 7) Ai) (fun _ _=>rfl)) (Ac (Ax Bm Bl (Bj Av Aw (Ah 2) (Ax E2 Dk (Ah 7) Ai) (fun _ _=>rfl)) Ap) (Ac (Ax Bm Bl (Bj Av Aw (Ah 2) (Ax E2 Dk (Ah 7) Ai) (fun _ _=>rfl)) Ap) Af)))) (Ax F6 Hs (Ah 7) Ai) (fun _ _=>rfl)))) Bu) (Ak (C7 (Ed bX eE eF Ia Gk (Ah 6) (Ac (Ah 9) Af)))))))))))
 refine Aj ?s6 ?t6
 case s6=>exact (An (i:=10) (by exact Cf.nd) (Eo Wa Ae8 (by rfl) C.vq (by decide +kernel) (Ac (Ah 6) Af)))
 refine Aj ?s7 ?t7
 case s7=>exact (An (i:=11) (by exact Cf.nd) (Hu (N':=["k","left","deck"]) (ix:=[none,some 10,some 0]) ⟨rfl,rfl,rfl,rfl,rfl,rfl⟩ rfl (Du (by rfl) C.vy (Ac (Ah 1) Af)) (fun _ _ _ _ _ _=>(Bo (i:=0) (show dS (α:=Str) ["k","left","deck"] by decide +kernel))) (fun _ _ _ _ _ _=>(Ed bX iL iM N6 Q4 (Ah 1) (Ac (Bk C.uA (Bf C) hr (Ac (Ah 2) (Ac (Br B3 Cc (by rfl) C.vp bT (Ac (Ah 1) Af)) Af))) Af)))))
 exact (Ak (Bh (Wm (N':=["k","one","told"]) (ix:=[none,none,some 11]) ⟨rfl,rfl,rfl,rfl,rfl,rfl⟩ rfl (Aft (by rfl) C.vm (Ac (Ah 11) Af)) (fun _ _ _ _ _ _=>(Kg rfl (Cw (Bo (i:=0) (show dS (α:=Str) ["k","one","told"] by decide +kernel)) (Cw (Bo (i:=1) (show dS (α:=Str) ["k","one","told"] by decide +kernel)) Ie)))) (fun _ _ _ _ _ _=>(Be Ul (Ru true) (Ah 1) (Fo Vs Rx (Ah 2) Fi (Fh (Ah 0))) (by with_unfolding_all rfl))) (fun _ _ _ _ _ _=>(Ah 1)))))
theorem Jn(C:Defs K mg):FnOk P w K mg base CX0 3 C.uC.f C.uC.d ["deck","kind"] (spF K 2 Cy):=by
 refine Fun.okF C.uC.F K7 (fun cdv A outer s H E hr=>?_)
 have hu:=hr.units
 refine Aj ?s0 ?t0
 case s0=>exact (Bw (Be (B1 hu) B4 (Ah 1) Ai (Bg _)) (Aj (An (i:=2) (by exact K7.nd) (Ax Bm Bl (Ax Fd E8 (Bk C.uA (Bf C) hr (Ac (Ah 0) (Ac (Ax Fd E8 Ai (Ax Kk Hz Ai Ai)) Af))) (Ax Kk Hz Ai Ai)) (Bk C.uA (Bf C) hr (Ac (Ah 0) (Ac (Ax Kk Hz Ai Ai) Af))))) (Aj (An (i:=2) (by exact K7.nd) (Ax Bm Bl (Ax K1 Jf (Ax E2 Dk (Ah 2) (Ax K1 Jf (Ax Fd E8 Ai (Ax Kk Hz Ai Ai)) Ai)) (Ax Kk Hz Ai Ai)) Ai)) (Ak (Bh (Bj Av Aw (Ck (Ac (Ah 2) (Ac (Ax K1 Jf (Ax Kk Hz Ai Ai) Ai) (Ac (Ax K1 Jf Ai (Ax Kk Hz Ai Ai)) Af)))) (Br (Tr rfl) Ac3 (by rfl) C.vv oG (Ac Ai (Ac (Ax K1 Jf (Bk C.uA (Bf C) hr (Ac (Ah 0) (Ac Ai Af))) Ai) Af))) (fun _ _=>rfl)))))) Bu)
 exact (Ak (Bh (Ax K1 Jf (Bk C.uA (Bf C) hr (Ac (Ah 0) (Ac (Bj Av Aw (Ck (Ac Ai (Ac Ai Af))) (Ah 1) (fun _ _=>rfl)) Af))) (Bj Av Aw (Ck (Ac Ai (Ac Ai Af))) (Ah 1) (fun _ _=>rfl)))))
theorem Xk(C:Defs K mg):FnOk P w K mg base CX0 4 C.uD.f C.uD.d ["deck","most"] (spF K 2 Ii):=by
 refine Fun.okF C.uD.F Ci (fun cdv A outer s H E hr=>?_)
 have hu:=hr.units
 refine Aj ?s0 ?t0
 case s0=>exact (An (i:=2) (by exact Ci.nd) (Bj Av Aw (Ck (Ac (Bk C.uA (Bf C) hr (Ac (Ah 0) (Ac (Ax Bm Bl (Ah 1) Ai) Af))) (Ac (Bk C.uA (Bf C) hr (Ac (Ah 0) (Ac Ai Af))) (Ac (Ah 1) Af)))) (Bk C.uA (Bf C) hr (Ac (Ah 0) (Ac Ai Af))) (fun _ _=>rfl)))
 refine Aj ?s1 ?t1
 case s1=>exact (An (i:=3) (by exact Ci.nd) (Bk C.uA (Bf C) hr (Ac (Ah 0) (Ac Ai Af))))
 refine Aj ?s2 ?t2
 case s2=>exact (An (i:=4) (by exact Ci.nd) (Bk C.uA (Bf C) hr (Ac (Ah 0) (Ac Ai Af))))
 refine Aj ?s3 ?t3
 case s3=>exact (Ys (i:=5) (N':=["k","deck","kind"]) (ix:=[none,some 0,some 3]) (by exact Ci.nd) ⟨rfl,rfl,rfl,rfl,rfl,rfl⟩ rfl (Du (by rfl) C.vy (Ac Ai Af)) (fun _ _ _ _ _ _=>(Bo (i:=0) (show dS (α:=Str) ["k","deck","kind"] by decide +kernel))) (fun _ _ _ _ _ _=>(Hf (Ac (Bk C.uC (Jn C) hr (Ac (Ah 1) (Ac (Ah 2) Af))) (Ac (Bk C.uC (Jn C) hr (Ac (Ah 1) (Ac (Ah 2) Af))) Af)))))
 refine Aj ?s4 ?t4
 case s4=>exact (An (i:=6) (by exact Ci.nd) (Ck Af))
 refine Aj ?s5 ?t5
 case s5=>exact (Gz dL rfl (Du (by rfl) C.vy (Ac (Ah 2) Af)) (Bo (i:=7) (by exact Ci.nd)) (Aj (An (i:=8) (by exact Ci.nd) (Hf (Ac (Bk C.uC (Jn C) hr (Ac (Ah 0) (Ac (Ah 3) Af))) (Ac (Bk C.uC (Jn C) hr (Ac (Ah 0) (Ac (Ah 3) Af))) Af)))) (Aj (Bw (Be (B1 hu) B4 (Ah 4) Ai (Bg _)) (Ak (An (i:=8) (by exact Ci.nd) (Hf (Ac (Ax F6 Hs (Ah 7) Ai) (Ac (Ax K1 Jf (Ah 7) (Ax F6 Hs (Ah 7) Ai)) Af))))) Bu) (Aj (Bw (Be (B1 hu) B4 (Ah 4) Ai (Bg _)) (Ak (An (i:=8) (by exact Ci.nd) (Hf (Ac (Ax F6 Hs (Ah 7) Ai) (Ac (Ax K1 Jf Ai (Ah 7)) Af))))) Bu) (Aj (Bw (Be (B1 hu) B4 (Ah 4) Ai (Bg _)) (Ak (An (i:=8) (by exact Ci.nd) (Hf (Ac (Bj Av Aw (Ah 8) Ai (fun _ _=>rfl)) (Ac (Bj Av Aw (Bj Av Aw (Ah 5) Ai (fun _ _=>rfl)) Ai (fun _ _=>rfl)) Af))))) Bu) (Aj (Bw (Be (B1 hu) B4 (Ah 4) Ai (Bg _)) (Ak (An (i:=8) (by exact Ci.nd) (Bj Av Aw (Ah 5) (Bk C.uA (Bf C) hr (Ac (Ah 0) (Ac Ai Af))) (fun _ _=>rfl)))) Bu) (Aj (Bw (PWF.pt (N9 (Be (B1 hu) B4 (Bk C.uA (Bf C) hr (Ac (Ah 0) (Ac Ai Af))) Ai (Bg _)) (Lk (Be (Li hu) Lo (Ah 6) (Ck Af) (Bg _))))) (Ak (An (i:=8) (by exact Ci.nd) (Bj Av Aw (Ah 6) (Bk C.uA (Bf C) hr (Ac (Ah 0) (Ac (Br B3 Cc (by rfl) C.vp bT (Ac (Ah 6) Af)) Af))) (fun _ _=>rfl)))) Bu) (Ak (C7 (Ed bX eE eF Ia Gk (Ah 6) (Ac (Ah 8) Af)))))))))))
 exact (Ak (Bh (Ah 6)))
theorem Xi(C:Defs K mg):FnOk P w K mg base CX0 5 C.uE.f C.uE.d ["deck","most"] (spF K 2 Kp):=by
 refine Fun.okF C.uE.F Ji (fun cdv A outer s H E hr=>?_)
 have hu:=hr.units
 refine Aj ?s0 ?t0
 case s0=>exact (An (i:=2) (by exact Ji.nd) (Bk C.uD (Xk C) hr (Ac (Ah 0) (Ac (Ah 1) Af))))
 refine Aj ?s1 ?t1
 case s1=>exact (Bw (Be (B1 hu) B4 (Bk C.uA (Bf C) hr (Ac (Ah 0) (Ac Ai Af))) Ai (Bg _)) (Ak (An (i:=2) (by exact Ji.nd) (Hu (N':=["k","places","deck"]) (ix:=[none,some 2,some 0]) ⟨rfl,rfl,rfl,rfl,rfl,rfl⟩ rfl (Du (by rfl) C.vy (Ac (Br B3 Cc (by rfl) C.vp bT (Ac (Ah 2) Af)) Af)) (fun _ _ _ _ _ _=>(Bo (i:=0) (show dS (α:=Str) ["k","places","deck"] by decide +kernel))) (fun _ _ _ _ _ _=>(Ed bX iL iM N6 Q4 (Ah 1) (Ac (Bk C.uA (Bf C) hr (Ac (Ah 2) (Ac (Br B3 Cc (by rfl) C.vp bT (Ac (Ah 1) Af)) Af))) Af)))))) Bu)
 refine Aj ?s2 ?t2
 case s2=>exact (An (i:=3) (by exact Ji.nd) (Bk C.uB (Yw C) hr (Ac (Ah 0) (Ac (Br B3 Cc (by rfl) C.vp bT (Ac (Ah 2) Af)) Af))))
 exact (Ak (Bh (Eo Js Ph (by rfl) C.vA (by decide +kernel) (Ac (Hu (N':=["name","place"]) (ix:=[none,none]) ⟨rfl,rfl,rfl,rfl,rfl,rfl⟩ rfl (Aki (by rfl) C.vB (Ac (Ah 3) (Ac (Ah 2) Af))) (fun _ _ _ _ _ _=>(Kg rfl (Cw (Bo (i:=0) (show dS (α:=Str) ["name","place"] by decide +kernel)) (Cw (Bo (i:=1) (show dS (α:=Str) ["name","place"] by decide +kernel)) Ie)))) (fun _ _ _ _ _ _=>(Hf (Ac (Ah 0) (Ac (Bj Av Aw (Ah 1) Ai (fun _ _=>rfl)) (Ac (Bj Av Aw (Ah 1) Ai (fun _ _=>rfl)) Af)))))) Af))))
theorem V7(C:Defs K mg):FnOk P w K mg base CX0 1 C.uF.f C.uF.d ["word"] (spF K 1 Jp):=by
 refine Fun.okF C.uF.F O8 (fun cdv A outer s H E hr=>?_)
 have hu:=hr.units
 refine Aj ?s0 ?t0
 case s0=>exact (Adh (i:=1) (N':=["sign"]) (ix:=[none]) (by exact O8.nd) ⟨rfl,rfl,rfl,rfl,rfl,rfl⟩ rfl (V9 (Ah 0)) (fun _ _ _ _ _ _=>(Bo (i:=0) (show dS (α:=Str) ["sign"] by decide +kernel))) (fun _ _ _ _ _ _=>(Be Aav (Ru false) (Ah 0) Ap (by with_unfolding_all rfl))) (fun _ _ _ _ _ _=>(Ah 0)))
 exact (Ak (Bh (Nd (Xz U3 U3 P8 P8 Ai (Br B3 Cc (by rfl) C.vp bT (Ac (Ah 0) Af)) Ai) (M4 (E4 (B1 hu) B4 (Br B3 Cc (by rfl) C.vp bT (Ac (Ah 1) Af)) (Br B3 Cc (by rfl) C.vp bT (Ac (Ah 0) Af)) (Bg _))))))
theorem Af6(C:Defs K mg):FnOk P w K mg base CX0 2 C.uG.f C.uG.d ["text"] (spF K 1 O9):=by
 refine Fun.okF C.uG.F Kz (fun cdv A outer s H E hr=>?_)
 have hu:=hr.units
 refine Aj ?s0 ?t0
 case s0=>exact (An (i:=1) (by exact Kz.nd) (Ck Af))
 refine Aj ?s1 ?t1
 case s1=>exact (Bw (Be (B1 hu) B4 (Ah 0) Ap (Bg _)) (Ak (Bh (Hf Af))) Bu)
 refine Aj ?s2 ?t2
 case s2=>exact (Gz dL rfl (Ht (Ed bS cM dJ G9 F4 (Ah 0) (Ac Ap Af))) (Bo (i:=2) (by exact Kz.nd)) (Aj (An (i:=3) (by exact Kz.nd) (Ed bS cM dJ G9 F4 (Ah 2) (Ac Ap Af))) (Aj (Bw (PWF.pt (F7 (Be (Li hu) Lo (Br B3 Cc (by rfl) C.vp bT (Ac (Ah 3) Af)) Ai (Bg _)) (F7 (Fe (Dl (Bk C.uF (V7 C) hr (Ac (Bj Av Aw (Ah 3) Ai (fun _ _=>rfl)) Af)))) (Fs (Be Aav (Ru false) (Bj Av Aw (Ah 3) Ai (fun _ _=>rfl)) (Hu (N':=["one"]) (ix:=[none]) ⟨rfl,rfl,rfl,rfl,rfl,rfl⟩ rfl (Ht (Ah 1)) (fun _ _ _ _ _ _=>(Bo (i:=0) (show dS (α:=Str) ["one"] by decide +kernel))) (fun _ _ _ _ _ _=>(Bj Av Aw (Ah 0) Ai (fun _ _=>rfl)))) (by with_unfolding_all rfl)))))) (Ak (Bh (Br B3 Cc (by rfl) C.vp bT (Ac (Ah 1) Af)))) Bu) (Aj (An (i:=4) (by exact Kz.nd) (Ax Bm Bl (Bk C.um (Ir C) hr (Ac (Bj Av Aw (Ah 3) Ai (fun _ _=>rfl)) Af)) (Bk C.um (Ir C) hr (Ac (Bj Av Aw (Ah 3) Ai (fun _ _=>rfl)) Af)))) (Aj (Bw (Be (Li hu) Lo (Br B3 Cc (by rfl) C.vp bT (Ac (Ah 4) Af)) Ai (Bg _)) (Ak (Bh (Br B3 Cc (by rfl) C.vp bT (Ac (Ah 1) Af)))) Bu) (Ak (C7 (Ed bX eE eF Ia Gk (Ah 1) (Ac (Hf (Ac (Bj Av Aw (Ah 3) Ai (fun _ _=>rfl)) (Ac (Bj Av Aw (Ah 4) Ai (fun _ _=>rfl)) (Ac (Bj Av Aw (Ah 4) Ai (fun _ _=>rfl)) Af)))) Af)))))))))
 exact (Ak (Bh (Eo Js Ph (by rfl) C.vA (by decide +kernel) (Ac (Ah 1) Af))))
theorem Mz(C:Defs K mg):FnOk P w K mg base CX0 1 C.uH.f C.uH.d ["word","signs"] (spF K 2 Dt):=by
 refine Fun.okF C.uH.F Tq (fun cdv A outer s H E hr=>?_)
 have hu:=hr.units
 exact (Ak (Bh (Br (Ad4 rfl) Ale (by rfl) C.vj PyProof.Rows.boot_all (Ac (Hu (N':=["sign","signs"]) (ix:=[none,some 1]) ⟨rfl,rfl,rfl,rfl,rfl,rfl⟩ rfl (V9 (Ah 0)) (fun _ _ _ _ _ _=>(Bo (i:=0) (show dS (α:=Str) ["sign","signs"] by decide +kernel))) (fun _ _ _ _ _ _=>(E4 Aav (Ru false) (Ah 0) (Ah 1) (by with_unfolding_all rfl)))) Af))))
theorem Y1(C:Defs K mg):FnOk P w K mg base CX0 2 C.uI.f C.uI.d ["word"] (spF K 1 Mh):=by
 refine Fun.okF C.uI.F Aax (fun cdv A outer s H E hr=>?_)
 have hu:=hr.units
 exact (Ak (Bh (Nd (Xz Alo Alo Agq Agq Ai (Br B3 Cc (by rfl) C.vp bT (Ac (Ah 0) Af)) (Afd (by rfl) C.vg)) (M4 (Bk C.uH (Mz C) hr (Ac (Ah 0) (Ac (Wn (by rfl) C.vf) Af)))))))
theorem Oh(C:Defs K mg):FnOk P w K mg base CX0 2 C.uJ.f C.uJ.d ["word"] (spF K 1 Ee):=by
 refine Fun.okF C.uJ.F N8 (fun cdv A outer s H E hr=>?_)
 have hu:=hr.units
 refine Aj ?s0 ?t0
 case s0=>exact (An (i:=1) (by exact N8.nd) (Arz (Dl (Ed bS PySem.F.slot_str_startswith PySem.F.type_str_startswith Adf Aai (Ah 0) (Ac Ap Af))) (Fo Kd Ki (Ah 0) (Fh Ai) Fi) (Ah 0)))
 refine Aj ?s1 ?t1
 case s1=>exact (Bw (PWF.pt (F7 (Be (B1 hu) B4 (Ah 1) Ap (Bg _)) (Fs (Fe (Dl (Bk C.uH (Mz C) hr (Ac (Ah 1) (Ac (Wn (by rfl) C.ve) Af)))))))) (Ak (Bh Ql)) Bu)
 exact (Ak (Bh (Ap6 (E4 (Li hu) Lo (Bj Av Aw (Ah 1) Ai (fun _ _=>rfl)) Ap (Bg _)) (M4 (E4 (B1 hu) B4 (Ah 0) Ap (Bg _))))))
theorem Lc(C:Defs K mg):FnOk P w K mg base CX0 3 C.uK.f C.uK.d ["line"] (spF K 1 Fu):=by
 refine Fun.okF C.uK.F Qm (fun cdv A outer s H E hr=>?_)
 have hu:=hr.units
 refine Aj ?s0 ?t0
 case s0=>exact (An (i:=1) (by exact Qm.nd) (Ed bS cM dJ G9 F4 (Ah 0) (Ac Ap Af)))
 refine Aj ?s1 ?t1
 case s1=>exact (Bw (PWF.pt (F7 (Be (Li hu) Lo (Br B3 Cc (by rfl) C.vp bT (Ac (Ah 1) Af)) Ai (Bg _)) (Fs (Fe (Dl (Bk C.uI (Y1 C) hr (Ac (Bj Av Aw (Ah 1) Ai (fun _ _=>rfl)) Af))))))) (Ak (Bh Lu)) Bu)
 refine Aj ?s2 ?t2
 case s2=>exact (Bw (PWF.pt (F7 (Fe (Dl (Bk C.uJ (Oh C) hr (Ac (Bj Av Aw (Ah 1) Ai (fun _ _=>rfl)) Af)))) (Fs (Fe (Dl (Bk C.uJ (Oh C) hr (Ac (Bj Av Aw (Ah 1) Ai (fun _ _=>rfl)) Af))))))) (Ak (Bh Lu)) Bu)
 exact (Ak (Bh (Hf (Ac (Bj Av Aw (Ah 1) Ai (fun _ _=>rfl)) (Ac (Eo Ts Xr (by rfl) C.vn (by decide +kernel) (Ac (Bj Av Aw (Ah 1) Ai (fun _ _=>rfl)) Af)) (Ac (Eo Ts Xr (by rfl) C.vn (by decide +kernel) (Ac (Bj Av Aw (Ah 1) Ai (fun _ _=>rfl)) Af)) Af))))))
theorem Rn(C:Defs K mg):FnOk P w K mg base CX0 4 C.uL.f C.uL.d ["text"] (spF K 1 Jt):=by
 refine Fun.okF C.uL.F Bx (fun cdv A outer s H E hr=>?_)
 have hu:=hr.units
 refine Aj ?s0 ?t0
 case s0=>exact (Bw (Be (B1 hu) B4 (Ah 0) Ap (Bg _)) (Ak (Bh (Hf Af))) Bu)
 refine Aj ?s1 ?t1
 case s1=>exact (An (i:=1) (by exact Bx.nd) (Ck Af))
 refine Aj ?s2 ?t2
 case s2=>exact (An (i:=2) (by exact Bx.nd) Acv)
 refine Aj ?s3 ?t3
 case s3=>exact (Gz dL rfl (Pn (by rfl) C.vm (Ac (Ed bS cM dJ G9 F4 (Ah 0) (Ac Ap Af)) Af)) (Kg rfl (Cw (Bo (i:=3) (by exact Bx.nd)) (Cw (Bo (i:=4) (by exact Bx.nd)) Ie))) (Aj (An (i:=5) (by exact Bx.nd) (Bk C.uK (Lc C) hr (Ac (Ah 4) Af))) (Aj (Bw (PWF.pt (F7 (Be Vi (Vy false) (Ah 5) Lu (Bg _)) (Fs (Be (Aa5 hu) Vl (Bj Av Aw (Ah 5) Ai (fun _ _=>rfl)) (Ah 2) (by with_unfolding_all rfl))))) (Ak Uo) Bu) (Aj (X0 hu (Ah 2) (Bj Av Aw (Ah 5) Ai (fun _ _=>rfl)) Ql) (Ak (C7 (Ed bX eE eF Ia Gk (Ah 1) (Ac (Ah 5) Af))))))))
 exact (Ak (Bh (Eo Js Ph (by rfl) C.vA (by decide +kernel) (Ac (Ah 1) Af))))
theorem Qn(C:Defs K mg):FnX P w K mg base 4 C.uL.f C.uL.d ["text"] G2:=by
 refine Fun.okX C.uL.F Bx (fun cdv A outer s H E hr=>?_)
 have hu:=hr.units
 exact (Oz (Bw (Be (B1 hu) B4 (Ah 0) Ap (Bg _)) (Ak (Bh (Hf Af))) Bu) Abj (Oz (An (i:=1) (by exact Bx.nd) (Ck Af)) Abj (Oz (An (i:=2) (by exact Bx.nd) Acv) Abj (Ud (Am8 (by rfl) (by rfl) rfl (Pn (by rfl) C.vm (Ac (Ed bS cM dJ G9 F4 (Ah 0) (Ac Ap Af)) Af)) (Kg rfl (Cw (Bo (i:=3) (by exact Bx.nd)) (Cw (Bo (i:=4) (by exact Bx.nd)) Ie))) (Aj (An (i:=5) (by exact Bx.nd) (Bk C.uK (Lc C) hr (Ac (Ah 4) Af))) (Aj (Bw (PWF.pt (F7 (Be Vi (Vy false) (Ah 5) Lu (Bg _)) (Fs (Be (Aa5 hu) Vl (Bj Av Aw (Ah 5) Ai (fun _ _=>rfl)) (Ah 2) (by with_unfolding_all rfl))))) (Ak Uo) Bu) (Aj (X0 hu (Ah 2) (Bj Av Aw (Ah 5) Ai (fun _ _=>rfl)) Ql) (Ak (C7 (Ed bX eE eF Ia Gk (Ah 1) (Ac (Ah 5) Af))))))) (Oz (An (i:=5) (by exact Bx.nd) (Bk C.uK (Lc C) hr (Ac (Ah 4) Af))) Abj (Ud (Aro (PWF.pt (F7 (Be Vi (Vy false) (Ah 5) Lu (Bg _)) (Fs (Be (Aa5 hu) Vl (Bj Av Aw (Ah 5) Ai (fun _ _=>rfl)) (Ah 2) (by with_unfolding_all rfl))))) (Aca (Afu (AllX.of C.u9) (Jy C.ul (Ado C.uw C.u7) (G8 C) (hr.mono (by decide)) (by rfl) C.uY C.uw.b (Ac (Ah 3) Af)))) Ao7))))))))
theorem Nr(C:Defs K mg):FnOk P w K mg base CX0 5 C.uM.f C.uM.d ["text"] (spF K 1 H9):=by
 refine Fun.okF C.uM.F Fw (fun cdv A outer s H E hr=>?_)
 have hu:=hr.units
 refine Aj ?s0 ?t0
 case s0=>exact (An (i:=1) (by exact Fw.nd) (Bk C.uG (Af6 C) hr (Ac (Ah 0) Af)))
 refine Aj ?s1 ?t1
 case s1=>exact (An (i:=2) (by exact Fw.nd) Lu)
 refine Aj ?s2 ?t2
 case s2=>exact (An (i:=3) (by exact Fw.nd) Lu)
 refine Aj ?s3 ?t3
 case s3=>exact (Ajf (i:=4) (AllM.sub C.u9 (by decide) (by decide) C.ub (by decide)) (by exact Fw.nd) (Ak (An (i:=2) (by exact Fw.nd) (Bk C.uL (Rn C) hr (Ac (Ah 0) Af)))) (Aca (An0 (Ait (Qn C) (hr.mono (by decide)) (by rfl) C.uL.g C.uL.F.kp C.uL.b (Ac (Ah 0) Af)))) (fun _=>(Ak (An (i:=3) (by exact Fw.nd) (Ah 4)))) (by rfl) C.uT)
 refine Aj ?s4 ?t4
 case s4=>exact (Bw (Dl (Aat Aea (Ah 1) (by rfl) C.vo (by rfl) C.vA (by decide +kernel))) (Ak (Bh (Nd (E4 Vi (Vy false) (Ah 3) Lu (Bg _)) (M4 (E4 (B1 hu) B4 (Ah 2) (Ah 1) (Bg _)))))) Bu)
 refine Aj ?s5 ?t5
 case s5=>exact (Bw (PWF.pt (F7 (Dl (Ajr C.u9 (by decide) (.cons C.ud (by rfl) C.uU (.cons C.uf (by rfl) C.uV (.cons C.uh (by rfl) C.uW (.cons C.uj (by rfl) C.uX .nil)))) (Ah 3) (by rfl) C.vo)) (Fs (Fe (Dl (Nu C.u9 (by decide) C.ul (Ah 3) (by rfl) C.vo (by rfl) C.uY)))))) (Ak (Bh Ql)) Bu)
 refine Aj ?s6 ?t6
 case s6=>exact (Bw (PWF.pt (F7 (Fe (Dl (Ace C.u9 (by decide) C.vd (Ah 3) (by rfl) C.vo (by rfl) C.vh))) (Fs (Dl (Aat Aic (Mg C.u9 C.vb (Ah 3)) (by rfl) C.vo (by rfl) C.vk (by decide +kernel)))))) (Ak (Bh Ql)) Bu)
 exact (Ak (Bh (Nd (Aat Ak4 (Mg C.u9 C.vb (Ah 3)) (by rfl) C.vo (by rfl) C.vn (by decide +kernel)) (M4 (E4 (B1 hu) B4 (Mg C.u9 C.vb (Ah 3)) (Ah 1) (Bg _))))))
theorem Po(C:Defs K mg):FnOk P w K mg base CX0 3 C.uN.f C.uN.d ["deck"] (spF K 1 E3):=by
 refine Fun.okF C.uN.F Mb (fun cdv A outer s H E hr=>?_)
 have hu:=hr.units
 refine Aj ?s0 ?t0
 case s0=>exact (An (i:=1) (by exact Mb.nd) Ap)
 exact (Ak (Bh (Bj Av Aw (Ah 1) (Bk C.uA (Bf C) hr (Ac (Ah 0) (Ac (Br B3 Cc (by rfl) C.vp bT (Ac (Ah 1) Af)) Af))) (fun _ _=>rfl))))
theorem R4(C:Defs K mg):FnOk P w K mg base CX0 3 C.uN.f C.uN.d ["deck"] (spF K 1 Qa):=by
 refine Fun.okF C.uN.F Mb (fun cdv A outer s H E hr=>?_)
 have hu:=hr.units
 refine Aj ?s0 ?t0
 case s0=>exact (An (i:=1) (by exact Mb.nd) Ap)
 exact (Ak (Bh (Bj Avx Aj4 (Ah 1) (Bk C.uA (Bf C) hr (Ac (Ah 0) (Ac (Br B3 Cc (by rfl) C.vp bT (Ac (Ah 1) Af)) Af))) (fun _ _=>rfl))))
theorem Pq(C:Defs K mg):FnOk P w K mg base CX0 4 C.uO.f C.uO.d ["deck","line","names"] (spF K 3 Di):=by
 refine Fun.okF C.uO.F B6 (fun cdv A outer s H E hr=>?_)
 have hu:=hr.units
 refine Aj ?s0 ?t0
 case s0=>exact (An (i:=3) (by exact B6.nd) (Ed bS cM dJ G9 F4 (Ah 1) (Ac Ap Af)))
 refine Aj ?s1 ?t1
 case s1=>exact (An (i:=4) (by exact B6.nd) (Bk C.uA (Bf C) hr (Ac (Ah 0) (Ac (Br B3 Cc (by rfl) C.vp bT (Ac (Ah 3) Af)) Af))))
 refine Aj ?s2 ?t2
 case s2=>exact (An (i:=5) (by exact B6.nd) (Bk C.uA (Bf C) hr (Ac (Ah 0) (Ac (Br B3 Cc (by rfl) C.vp bT (Ac (Ah 3) Af)) Af))))
 refine Aj ?s3 ?t3
 case s3=>
  refine An (i:=6) (hi:=?h1_3) (hx:=?h2_3) (hf:=?h3_3) (hs:=?h4_3) ?h5_3 ?h6_3
  case h1_3=>rfl
  case h2_3=>first | exact nV rfl | exact nF rfl
  case h3_3=>first | exact .inl rfl | exact .inr rfl
  case h4_3=>rfl
  case h5_3=>exact (by exact B6.nd)
  case h6_3=>
   refine Ax Bm Bl (Ah 2) ?l3
   refine Ck ?g
   refine Ac (hs:=?q0) ?e0 ?r0
   case q0=>rfl
   case e0=>exact Ap
   refine Ac (hs:=?q1) ?e1 ?r1
   case q1=>rfl
   case e1=>exact Ap
   refine Ac (hs:=?q2) ?e2 ?r2
   case q2=>rfl
   case e2=>exact Ap
   refine Ac (hs:=?q3) ?e3 ?r3
   case q3=>rfl
   case e3=>exact Ap
   refine Ac (hs:=?q4) ?e4 ?r4
   case q4=>rfl
   case e4=>exact Ap
   refine Ac (hs:=?q5) ?e5 ?r5
   case q5=>rfl
   case e5=>exact Ap
   refine Ac (hs:=?q6) ?e6 ?r6
   case q6=>rfl
   case e6=>exact Ap
   refine Ac (hs:=?q7) ?e7 ?r7
   case q7=>rfl
   case e7=>exact Ap
   refine Ac (hs:=?q8) ?e8 ?r8
   case q8=>rfl
   case e8=>exact Ap
   refine Ac (hs:=?q9) ?e9 ?r9
   case q9=>rfl
   case e9=>exact Ap
   refine Ac (hs:=?q10) ?e10 ?r10
   case q10=>rfl
   case e10=>exact Ap
   refine Ac (hs:=?q11) ?e11 ?r11
   case q11=>rfl
   case e11=>exact Ap
   refine Ac (hs:=?q12) ?e12 ?r12
   case q12=>rfl
   case e12=>exact Ap
   refine Ac (hs:=?q13) ?e13 ?r13
   case q13=>rfl
   case e13=>exact Ap
   exact Af
 refine Aj ?s4 ?t4
 case s4=>exact (An (i:=6) (by exact B6.nd) (Ax Bm Bl (Ah 6) (Ck (by refine Ac Ap ?_;refine Ac Ap ?_;refine Ac Ap ?_;refine Ac Ap ?_;refine Ac Ap ?_;refine Ac Ap ?_;exact Af))))
 refine Aj ?s5 ?t5
 case s5=>exact (An (i:=7) (by exact B6.nd) (Bk C.uA (Bf C) hr (Ac (Ah 0) (Ac Ai Af))))
 refine Aj ?s6 ?t6
 case s6=>exact (Bw (Be (B1 hu) B4 (Ah 7) Ai (Bg _)) (Ak (C7 (Ed bX iL iM N6 Q4 (Ah 3) (Ac (Ah 4) Af)))) (Ak (Bw (Be (B1 hu) B4 (Ah 7) Ai (Bg _)) (Ak (C7 (Ed bX jH jI P0 Nc (Ah 3) (Ac (Ah 5) (Ac (Bj Av Aw (Ah 3) (Ah 4) (fun _ _=>rfl)) Af))))) (Ak (Bw (Be (B1 hu) B4 (Ah 7) Ai (Bg _)) (Ak (Jk (Hf (Ac (Bj Av Aw (Ah 3) (Ah 5) (fun _ _=>rfl)) (Ac (Bj Av Aw (Ah 3) (Ah 4) (fun _ _=>rfl)) Af))) (Kg rfl (Cw (Hq (Ah 3) (Ah 4)) (Cw (Hq (Ah 3) (Ah 5)) Ie))))) (Ak (Bw (Be (B1 hu) B4 (Ah 7) Ai (Bg _)) (Ak (Jk (Bj Av Aw (Ah 6) (Bk C.uA (Bf C) hr (Ac (Ah 0) (Ac (Br B3 Cc (by rfl) C.vp bT (Ac (Ah 6) Af)) Af))) (fun _ _=>rfl)) (Hq (Ah 3) (Ah 4)))) (Ak (Bw (Be (B1 hu) B4 (Ah 7) Ai (Bg _)) (Ak (C7 (Ed bX jH jI P0 Nc (Ah 3) (Ac (Ah 4) (Ac (Bj Av Aw (Ah 6) (Bk C.uA (Bf C) hr (Ac (Ah 0) (Ac (Br B3 Cc (by rfl) C.vp bT (Ac (Ah 6) Af)) Af))) (fun _ _=>rfl)) Af))))) Bu)))))))))
 refine Aj ?s7 ?t7
 case s7=>exact (An (i:=8) (by exact B6.nd) (Ed bS kJ kK Vo Rz Ap (Ac (Ah 3) Af)))
 refine Aj ?s8 ?t8
 case s8=>exact (An (i:=9) (by exact B6.nd) (Bk C.uA (Bf C) hr (Ac (Ah 0) (Ac (Ax Bm Bl (Br B3 Cc (by rfl) C.vp bT (Ac (Ah 8) Af)) Ai) Af))))
 refine Aj ?s9 ?t9
 case s9=>exact (Bw (Be (B1 hu) B4 (Ah 7) Ai (Bg _)) (Ak (Bh (Ax Bm Bl (Ax Bm Bl (Fo Kd Ki (Ah 8) Fi (Fh (Ah 9))) (Bj Av Aw (Ck (Ac (Bj Av Aw Ap (Bk C.uA (Bf C) hr (Ac (Ah 0) (Ac Ai Af))) (fun _ _=>rfl)) (Ac (Bk C.uN (Po C) hr (Ac (Ah 0) Af)) Af))) (Bk C.uA (Bf C) hr (Ac (Ah 0) (Ac Ai Af))) (fun _ _=>rfl))) (Fo Kd Ki (Ah 8) (Fh (Ah 9)) Fi)))) Bu)
 refine Aj ?s10 ?t10
 case s10=>exact (Bw (Be (B1 hu) B4 (Ah 7) Ai (Bg _)) (Ak (Bh (Ax Bm Bl (Fo Kd Ki (Ah 8) Fi (Fh (Ah 9))) (Fo Kd Ki (Ah 8) (Fh (Ax Bm Bl (Ah 9) Ai)) Fi)))) Bu)
 exact (Ak (Bh (Ah 8)))
theorem Oj(C:Defs K mg):FnOk P w K mg base CX0 1 C.uP.f C.uP.d ["number"] (spF K 1 Fz):=by
 refine Fun.okF C.uP.F Ek (fun cdv A outer s H E hr=>?_)
 have hu:=hr.units
 refine Aj ?s0 ?t0
 case s0=>exact (An (i:=1) (by exact Ek.nd) (Bj Av Aw (Ck (Ac Ap (Ac Ap Af))) (Eo Mf Q1 (by rfl) C.vn (by decide +kernel) (Ac (E4 U3 P8 (Ah 0) Ai (Bg _)) Af)) (fun _ _=>rfl)))
 refine Aj ?s1 ?t1
 case s1=>exact (An (i:=0) (by exact Ek.nd) (Br Xe Ab6 (by rfl) C.vi (by decide +kernel) (Ac (Ah 0) Af)))
 refine Aj ?s2 ?t2
 case s2=>exact (An (i:=2) (by exact Ek.nd) (Bj Av Aw Ap (Ax E2 Dk (Ah 0) Ai) (fun _ _=>rfl)))
 refine Aj ?s3 ?t3
 case s3=>exact (Gz dL rfl (Du (by rfl) C.vy (Ac Ai Af)) (Bo (i:=3) (by exact Ek.nd)) (Ak (Bw (Be Agm Y4 (Ah 0) Ai (Bg _)) (Aj (An (i:=0) (by exact Ek.nd) (Ax F6 Hs (Ah 0) Ai)) (Ak (An (i:=2) (by exact Ek.nd) (Ax Bm Bl (Bj Av Aw Ap (Ax E2 Dk (Ah 0) Ai) (fun _ _=>rfl)) (Ah 2))))) Bu)))
 exact (Ak (Bh (Ax Bm Bl (Ah 1) (Ah 2))))
theorem U5(C:Defs K mg):FnOk P w K mg base CX0 2 C.uQ.f C.uQ.d ["points"] (spF K 1 Ic):=by
 refine Fun.okF C.uQ.F Aeq (fun cdv A outer s H E hr=>?_)
 have hu:=hr.units
 exact (Ak (Bh (Ed bS kJ kK Vo Rz Ap (Ac (Hu (N':=["name","x","y"]) (ix:=[none,none,none]) ⟨rfl,rfl,rfl,rfl,rfl,rfl⟩ rfl (Ht (Ah 0)) (fun _ _ _ _ _ _=>(Kg rfl (Cw (Bo (i:=0) (show dS (α:=Str) ["name","x","y"] by decide +kernel)) (Cw (Bo (i:=1) (show dS (α:=Str) ["name","x","y"] by decide +kernel)) (Cw (Bo (i:=2) (show dS (α:=Str) ["name","x","y"] by decide +kernel)) Ie))))) (fun _ _ _ _ _ _=>(Ax Bm Bl (Ax Bm Bl (Ax Bm Bl (Ax Bm Bl (Ah 0) Ap) (Bk C.uP (Oj C) hr (Ac (Ah 1) Af))) Ap) (Bk C.uP (Oj C) hr (Ac (Ah 2) Af))))) Af))))
theorem Yk(C:Defs K mg):FnOk P w K mg base CX0 5 C.uR.f C.uR.d ["deck","points"] (spF K 2 M5):=by
 refine Fun.okF C.uR.F Ha (fun cdv A outer s H E hr=>?_)
 have hu:=hr.units
 refine Aj ?s0 ?t0
 case s0=>exact (An (i:=2) (by exact Ha.nd) (Ed bS cM dJ G9 F4 (Bk C.uQ (U5 C) hr (Ac (Ah 1) Af)) (Ac Ap Af)))
 refine Aj ?s1 ?t1
 case s1=>exact (Gz dL rfl (Du (by rfl) C.vy (Ac (Ax Bm Bl Ai (Bk C.uA (Bf C) hr (Ac (Ah 0) (Ac Ai Af)))) Af)) (Bo (i:=3) (by exact Ha.nd)) (Aj (An (i:=4) (by exact Ha.nd) (Bk C.uA (Bf C) hr (Ac (Ah 0) (Ac (Br B3 Cc (by rfl) C.vp bT (Ac (Ah 2) Af)) Af)))) (Aj (An (i:=5) (by exact Ha.nd) (Bk C.uA (Bf C) hr (Ac (Ah 0) (Ac Ai Af)))) (Ak (Bw (PWF.pt (N9 (Be (B1 hu) B4 (Ah 5) Ai (Bg _)) (Lk (Be Agm Y4 (Br B3 Cc (by rfl) C.vp bT (Ac (Ah 2) Af)) Ai (Bg _))))) (Ak (C7 (Ed bX iL iM N6 Q4 (Ah 2) (Ac (Ah 4) Af)))) (Ak (Bw (Be (B1 hu) B4 (Ah 5) Ai (Bg _)) (Ak (C7 (Ed bX jH jI P0 Nc (Ah 2) (Ac (Bk C.uA (Bf C) hr (Ac (Ah 0) (Ac (Ax Bm Bl (Br B3 Cc (by rfl) C.vp bT (Ac (Ah 2) Af)) Ai) Af))) (Ac (Bj Av Aw (Ah 2) (Ah 4) (fun _ _=>rfl)) Af))))) (Ak (Bw (Be (B1 hu) B4 (Ah 5) Ai (Bg _)) (Ak (Jk (Bj Av Aw (Ck (Ac Ap (Ac Ap (Ac Ap (Ac Ap Af))))) (Bk C.uA (Bf C) hr (Ac (Ah 0) (Ac Ai Af))) (fun _ _=>rfl)) (Hq (Ah 2) (Ah 4)))) (Ak (Jk (Bk C.uO (Pq C) hr (Ac (Ah 0) (Ac (Bj Av Aw (Ah 2) (Ah 4) (fun _ _=>rfl)) (Ac (Hu (N':=["one"]) (ix:=[none]) ⟨rfl,rfl,rfl,rfl,rfl,rfl⟩ rfl (Ht (Ah 1)) (fun _ _ _ _ _ _=>(Bo (i:=0) (show dS (α:=Str) ["one"] by decide +kernel))) (fun _ _ _ _ _ _=>(Bj Av Aw (Ah 0) Ai (fun _ _=>rfl)))) Af)))) (Hq (Ah 2) (Ah 4)))))))))))))
 exact (Ak (Bh (Ed bS kJ kK Vo Rz Ap (Ac (Ah 2) Af))))
theorem An1(C:Defs K mg):FnOk P w K mg base CX0 6 C.uS.f C.uS.d ["script"] (spW K 9 1 Adx (fun u=>u = .bl true)):=by
 refine Fun.okW C.uS.F Hg (fun cdv A outer s H E hr=>?_)
 have hu:=hr.units
 refine Gp ?w0 (Gp ?w1 (Aje ?w2))
 case w0=>exact Si (An (i:=1) (by exact Hg.nd) (Bk C.uy (Aej C) hr (Ac (Ah 0) Af)))
 case w1=>
  refine Abt dL rfl (Du (by rfl) C.vy (Ac Ai Af)) (Bo (i:=2) (by exact Hg.nd)) ?wb
  refine Gp ?b0 (Gp ?b1 (Gp ?b2 (Gp ?b3 (Gp ?b4 (Ym ?b5)))))
  case b0=>exact Si (An (i:=3) (by exact Hg.nd) (Bk C.uE (Xi C) hr (Ac (Ah 1) (Ac (Bj Av Aw (Ck (Ac Ai (Ac Ai Af))) (Eo Mf Q1 (by rfl) C.vn (by decide +kernel) (Ac (Nd (E4 (B1 hu) B4 (Ah 2) Ai (Bg _)) (M4 (E4 (B1 hu) B4 (Bk C.uA (Bf C) hr (Ac (Ah 1) (Ac Ai Af))) Ai (Bg _)))) Af)) (fun _ _=>rfl)) Af))))
  case b1=>exact Si (An (i:=4) (by exact Hg.nd) (Bk C.uQ (U5 C) hr (Ac (Ah 3) Af)))
  case b2=>exact Si (Ys (i:=5) (N':=["k","deck","points"]) (ix:=[none,some 1,some 3]) (by exact Hg.nd) ⟨rfl,rfl,rfl,rfl,rfl,rfl⟩ rfl (Du (by rfl) C.vy (Ac Ai Af)) (fun _ _ _ _ _ _=>(Bo (i:=0) (show dS (α:=Str) ["k","deck","points"] by decide +kernel))) (fun _ _ _ _ _ _=>(Bk C.uR (Yk C) hr (Ac (Ah 1) (Ac (Ah 2) Af)))))
  case b3=>exact Ac7 (i:=5) (by exact Hg.nd) (Agg Bm Bl (Eu (Ah 5)) (Aci (C6 (Eu (Ax Bm Bl Ap (Ah 4))) (C6 (Eu (Ax Bm Bl (Ah 4) Ap)) (C6 (Eu (Ax Bm Bl (Ah 4) Ap)) (C6 (Eu (Ax Bm Bl Ap (Ah 4))) (C6 (Sk (Eu (Ah 4)) (C6 (Eu Abk) (C6 (Eu Abk) (C6 (Eu Ai) N3)))) (C6 (Eu (Ah 4)) N3))))))))
  case b4=>exact Abt dL rfl (Ht (Ck (Ac Abk (Ac Abk Af)))) (Bo (i:=8) (by exact Hg.nd)) (Ym (Ac7 (i:=5) (by exact Hg.nd) (Agg Bm Bl (Eu (Ah 5)) (Aci (C6 (Sk (Eu (Ah 4)) (C6 (Eu (Ah 8)) (C6 (Eu (Bk C.uN (R4 C) hr (Ac (Ah 1) Af))) N3))) (C6 (Sk (Eu (Ah 4)) (C6 (Eu (Ah 8)) (C6 (Eu (Bk C.uN (R4 C) hr (Ac (Ah 1) Af))) (C6 (Eu Ai) N3)))) N3))))))
  case b5=>exact Si (Gz dL rfl (Ht (Ax Bm Bl (Ah 5) (Ck (Ac (Bk C.uN (Po C) hr (Ac (Ah 1) Af)) (Ac (Ax Bm Bl (Ah 4) (Bk C.uN (Po C) hr (Ac (Ah 1) Af))) Af))))) (Bo (i:=6) (by exact Hg.nd)) (Ak (Bw (PWF.pt (N9 (Fe (Dl (Bk C.uo (Xj C) hr (Ac (Ah 6) Af)))) (Lk (PWF.pt (F7 (Fe (Dl (Bk C.uM (Nr C) hr (Ac (Ah 6) Af)))) (Fs (Fe (Dl (Bk C.uM (Nr C) hr (Ac (Ah 6) Af)))))))))) (Ak (Bh Ql)) Bu)))
 case w2=>
  refine Aj ?s2 ?t2
  case s2=>
   refine An (i:=7) (hi:=?h1_2) (hx:=?h2_2) (hf:=?h3_2) (hs:=?h4_2) ?h5_2 ?h6_2
   case h1_2=>rfl
   case h2_2=>first | exact nV rfl | exact nF rfl
   case h3_2=>first | exact .inl rfl | exact .inr rfl
   case h4_2=>rfl
   case h5_2=>exact (by exact Hg.nd)
   case h6_2=>
    refine Ck ?g
    refine Ac (hs:=?q0) ?e0 ?r0
    case q0=>rfl
    case e0=>exact Ap
    refine Ac (hs:=?q1) ?e1 ?r1
    case q1=>rfl
    case e1=>exact Ap
    refine Ac (hs:=?q2) ?e2 ?r2
    case q2=>rfl
    case e2=>exact Ap
    refine Ac (hs:=?q3) ?e3 ?r3
    case q3=>rfl
    case e3=>exact Ap
    refine Ac (hs:=?q4) ?e4 ?r4
    case q4=>rfl
    case e4=>exact Ap
    refine Ac (hs:=?q5) ?e5 ?r5
    case q5=>rfl
    case e5=>exact Ap
    refine Ac (hs:=?q6) ?e6 ?r6
    case q6=>rfl
    case e6=>exact Ap
    refine Ac (hs:=?q7) ?e7 ?r7
    case q7=>rfl
    case e7=>exact Ap
    refine Ac (hs:=?q8) ?e8 ?r8
    case q8=>rfl
    case e8=>exact Ap
    refine Ac (hs:=?q9) ?e9 ?r9
    case q9=>rfl
    case e9=>exact Ap
    refine Ac (hs:=?q10) ?e10 ?r10
    case q10=>rfl
    case e10=>exact Ap
    exact Af
  refine Aj ?s3 ?t3
  case s3=>exact (An (i:=7) (by exact Hg.nd) (Ax Bm Bl (Ah 7) (Ck (by refine Ac Ap ?_;refine Ac Ap ?_;refine Ac Ap ?_;refine Ac Ap ?_;refine Ac Ap ?_;refine Ac Ap ?_;refine Ac Ap ?_;exact Af))))
  refine Aj ?s4 ?t4
  case s4=>exact (Bw (Be (Li hu) Lo (Wm (N':=["text"]) (ix:=[none]) ⟨rfl,rfl,rfl,rfl,rfl,rfl⟩ rfl (Ht (Ah 7)) (fun _ _ _ _ _ _=>(Bo (i:=0) (show dS (α:=Str) ["text"] by decide +kernel))) (fun _ _ _ _ _ _=>(Fe (Dl (Bk C.uM (Nr C) hr (Ac (Ah 0) Af))))) (fun _ _ _ _ _ _=>(Ah 0))) (Ck Af) (Bg _)) (Ak (Bh Ql)) Bu)
  exact (Ak (Bh (Ano C.ux (Nt C) hr)))
end
theorem Aof{l:lZ}{K:aB}{mg:Str->Option aE}{fa:Addr}(C:Defs K mg)(hfa:mg "law" = some (.ref fa)) :
  ∃ fd:dN,(∀ (s:aH) (v:aE),kT s fd ⟨[v],[]⟩ [("script",v)])/\∀ base:Heap,K.In base->base.Ns bB mg->FnOk l.prog w K mg base CX0 6 fa fd ["script"] (spW K 9 1 Adx (fun u=>u = .bl true)):=
 C.uS.law (Q:=fun fa fd=>∀ base:Heap,K.In base->base.Ns bB mg->FnOk l.prog w K mg base CX0 6 fa fd ["script"] (spW K 9 1 Adx (fun u=>u = .bl true))) hfa (fun _ _ _ _ _ _ s v=>.of_eq rfl) fun base _ _=>An1 C
variable {s:aH}
noncomputable section
variable (P:oJ)
abbrev fn(a b:Str)(s:Stmt)(dV kV d p:aE)(n:Option Addr)(c t:aE):dN:=fH a b (G0 s) (Ey s) (Aq s) dV kV d p n c t
abbrev zf(a b:Str)(s:Stmt)(p c:aE):Obj:=⟨.type "function",none,.func (fn a b s .none .none .none p none c .none),#[]⟩
abbrev zx(a b:Str)(s:Stmt):Obj:=⟨.none,none,.func ⟨a,b,G0 s,.stmts (Ey s),Aq s,0,[],.none,.none,.none,.none,none,.none,.none,0⟩,#[]⟩
abbrev zi(n:Int):aE:=.int n 0
abbrev zr(a:Addr):aE:=.ref a
abbrev zs(a:Str)(n:Nat):aE:=.str a n
abbrev zc(l:List aE):Obj:=⟨.type "code",none,.fields l.toArray,#[]⟩
abbrev zt(l:List aE):Obj:=⟨.type "tuple",none,.seq l.toArray 0,#[]⟩
abbrev zl(l:List aE):Obj:=⟨.none,none,.fields l.toArray,#[]⟩
abbrev zd(l:List qW)(n:Nat):Obj:=⟨.type "dict",none,.dict l.toArray n,#[]⟩
abbrev zn(o:Obj)(l r:fF):fF:=.node o l r
abbrev zg(o:Obj):fF:=.node o .nil .nil
abbrev de(s:Str)(n:Nat)(v:aE):qW:=⟨rS.keyHash P s,.str s n,v⟩
abbrev zA(a b:Str)(n:Nat)(l c:Int)(r:Nat)(m e:Int):Obj:=zc [zs a n,zs b (n+1),zs "/claim/cut.py" (n+2),zi l,zi c,zi 0,zi 0,zi 3,zr r,.bool true,zi m,zr (r+1),.none,zr (r+2),zr (r+3),zr (r+4),zi e,zi l,zs "/claim/cut.py" (e.toNat+1)]
abbrev zB(a b:Str)(n:Nat)(l c:Int)(r:Nat)(m e:Int):Obj:=zc [zs a n,zs b (n+1),zs "/claim/cut.py" (n+2),zi l,zi c,zi 0,zi 0,zi 3,zr r,.bool true,zi m,zr (r+1),.none,.none,.none,zr (r+2),zi e,zi l,zs "/claim/cut.py" (e.toNat+1)]
def sp2(l:List Obj):List Obj×List Obj:=l.foldr (fun a p=>(a::p.2,p.1)) ([],[])
def mkT:Nat->List Obj->fF
 | 0,_=>.nil
 | _+1,[]=>.nil
 | k+1,o::l=>.node o (mkT k (sp2 l).1) (mkT k (sp2 l).2)
abbrev Dx:aE:=zs "belowpoints.errors" 187
abbrev T9:aE:=zs "belowpoints.heaps.texts" 330
def zo1:Obj:=zd [de P "builtins" 162 (zr 4),de P "__main__" 163 (zr 5)] 2
def zo2:Obj:=⟨.none,none,(.dict #[] 0),#[]⟩
def zo4:Obj:=⟨(.type "module"),(some 0),.plain,#[]⟩
def zo5:Obj:=⟨(.type "module"),(some 3),.plain,#[]⟩
def zo6:Obj:=zd [] 0
def zo7:Obj:=zt []
def zo8:Obj:=zl []
def zo9:Obj:=zc [(zs "<module>" 176),(zs "<module>" 177),(zs "/claim/cut.py" 178),(zi 1),(zi 0),(zi 0),(zi 0),(zi 0),(zr 7),(.bool false),(zi 175),(zr 8),.none,.none,.none,.none,(zi 179),(zi 1),(zs "/claim/cut.py" 180)]
def zo10:Obj:=⟨(.type "frame"),none,.plain,#[(some (zr 9)),(some (zr 3)),(some (zr 3)),none,(some (zs "__main__" 164)),none,(some (zr 0))]⟩
def At1:Obj:=zc [(zs "<module>" 182),(zs "<module>" 183),(zs "/claim/cut.py" 184),(zi 1),(zi 0),(zi 0),(zi 0),(zi 0),(zr 11),(.bool false),(zi 181),(zr 12),.none,.none,.none,.none,(zi 185),(zi 1),(zs "/claim/cut.py" 186)]
def At9:Obj:=⟨(.type "frame"),none,.plain,#[(some (zr 13)),(some (zr 3)),(some (zr 3)),none,(some (zs "__main__" 164)),none,(some (zr 0))]⟩
def gz:List qW:=[de P "__doc__" 166 .none,de P "__package__" 167 .none,de P "__loader__" 168 (.builtin "__main__.__loader__#opaque"),de P "__spec__" 169 .none,de P "__annotations__" 170 (zr 6),de P "__builtins__" 171 (zr 4),de P "__file__" 173 (zs "/claim/cut.py" 172),de P "__cached__" 174 .none,de P "BelowError" 206 (zr 24),de P "NoPlace" 230 (zr 44),de P "NoAsk" 254 (zr 63),de P "NoPoints" 279 (zr 82),de P "NoCounts" 304 (zr 101),de P "NoName" 329 (zr 120),de P "LETTERS" 333 (zs "abcdefghijklmnopqrstuvwxyz" 332),de P "FIGURES" 335 (zs "0123456789" 334),de P "LONGEST_NAME" 337 (.int 8 336),de P "read_points" 349 (zr 129),de P "point_in" 357 (zr 136),de P "is_name" 364 (zr 143),de P "is_number" 372 (zr 150),de P "holds_only" 378 (zr 155),de P "_law_mix" 389 (zr 162),de P "_law_deck" 396 (zr 169),de P "_law_next" 406 (zr 176),de P "_law_names" 412 (zr 181),de P "_law_number" 421 (zr 188),de P "_law_places" 427 (zr 193),de P "_law_points" 433 (zr 198),de P "_law_figures" 443 (zr 205),de P "_law_text" 449 (zr 210),de P "_law_sign" 457 (zr 217),de P "_law_is_name" 463 (zr 222),de P "_law_number_of" 474 (zr 229),de P "_law_due" 480 (zr 234),de P "_law_spoilt_line" 496 (zr 241),de P "_law_spoilt" 502 (zr 246),de P "_law_beyond" 508 (zr 251),de P "_law_right" 519 (zr 258),de P "_law_classes_right" 525 (zr 263),de P "law" 531 (zr 268)]
def At0:Obj:=zd (de P "__name__" 165 Dx::((gz P).take 9)) 10
def Aur:Obj:=zl [(zi 2),(zi 0),(zr 20)]
def Atw:Obj:=zt [(.type "ValueError")]
def zo16:Obj:=⟨(.type "builtin_function_or_method"),none,(.fields #[(.builtin "type.__prepare__"),(.type "type")]),#[]⟩
def Are:Obj:=zd [de P "__module__" 196 Dx,de P "__qualname__" 198 (zs "BelowError" 197),de P "__firstlineno__" 200 (.int 2 199),de P "__static_attributes__" 201 (zr 22)] 4
def zo18:Obj:=zc [(zs "BelowError" 191),(zs "BelowError" 192),(zs "/claim/cut.py" 193),(zi 2),(zi 0),(zi 0),(zi 0),(zi 0),(zr 18),(.bool false),(zi 181),(zr 19),.none,.none,.none,.none,(zi 194),(zi 2),(zs "/claim/cut.py" 195)]
def Aus:Obj:=⟨(.type "frame"),none,.plain,#[(some (zr 20)),(some (zr 3)),(some (zr 17)),none,(some Dx),none,(some (zr 0))]⟩
def Ap9:Obj:=zd [de P "__module__" 196 Dx,de P "__firstlineno__" 200 (.int 2 199),de P "__static_attributes__" 201 (zr 22),de P "__weakref__" 203 (zr 25),de P "__doc__" 204 .none] 3
def zo21:Obj:=⟨(.type "type"),none,(.cls ⟨"BelowError",[(.type "ValueError")],[(zr 24),(.type "ValueError"),(.type "Exception"),(.type "BaseException"),(.type "object")],23,"BelowError",true,[],[],false,none,false⟩),#[(some (zr 15)),none,(some (zs "BelowError" 189)),(some (zs "BelowError" 197)),(some (.builtin "ValueError.__new__")),(some (.bool true))]⟩
def Avl:Obj:=⟨(.type "getset_descriptor"),none,(.fields #[(zs "__weakref__" 202),(zr 24),(.builtin "ExceptionGroup.__weakref__"),.none]),#[]⟩
def zo23:Obj:=⟨(.type "super"),none,(.fields #[(zr 24),(zr 24),(zr 24)]),#[]⟩
def Atv:Obj:=⟨(.type "builtin_function_or_method"),none,(.fields #[(.builtin "object.__init_subclass__"),(zr 24)]),#[]⟩
def Au7:Obj:=zd (de P "__name__" 165 Dx::((gz P).take 10)) 11
def cz:List aE:=[(zi 2),(zi 0),(zr 20),(zi 4),(zi 0),(zr 33),(zi 8),(zi 0),(zr 52),(zi 12),(zi 0),(zr 71),(zi 17),(zi 0),(zr 90),(zi 22),(zi 0),(zr 109),(zi 31),(zi 0),(zr 128),(zi 43),(zi 0),(zr 135),(zi 50),(zi 0),(zr 142),(zi 52),(zi 0),(zr 149),(zi 57),(zi 0),(zr 154),(zi 60),(zi 0),(zr 161),(zi 65),(zi 0),(zr 168),(zi 67),(zi 0),(zr 175),(zi 80),(zi 0),(zr 180),(zi 100),(zi 0),(zr 187),(zi 106),(zi 0),(zr 192),(zi 126),(zi 0),(zr 197),(zi 132),(zi 0),(zr 204),(zi 141),(zi 0),(zr 209),(zi 143),(zi 0),(zr 216),(zi 146),(zi 0),(zr 221),(zi 149),(zi 0),(zr 228),(zi 160),(zi 0),(zr 233),(zi 173),(zi 0),(zr 240),(zi 197),(zi 0),(zr 245),(zi 211),(zi 0),(zr 250),(zi 216),(zi 0),(zr 257),(zi 231),(zi 0),(zr 262),(zi 239),(zi 0),(zr 267)]
def Atu:Obj:=zl (cz.take 6)
def Au3:Obj:=⟨(.type "type"),none,(.cls ⟨"BelowError",[(.type "ValueError")],[(zr 24),(.type "ValueError"),(.type "Exception"),(.type "BaseException"),(.type "object")],23,"BelowError",true,[],[(zr 44)],false,none,false⟩),#[(some (zr 15)),none,(some (zs "BelowError" 189)),(some (zs "BelowError" 197)),(some (.builtin "ValueError.__new__")),(some (.bool true))]⟩
def Af0:Obj:=zt [(zr 24)]
def Ase:Obj:=zd [de P "__module__" 214 Dx,de P "__qualname__" 216 (zs "NoPlace" 215),de P "__firstlineno__" 218 (.int 4 217),de P "__init__" 226 (zr 41),de P "__static_attributes__" 227 (zr 42)] 5
def Aul:Obj:=zl [(zi 6),(zi 4),(zr 40)]
def zo31:Obj:=zc [(zs "NoPlace" 209),(zs "NoPlace" 210),(zs "/claim/cut.py" 211),(zi 4),(zi 0),(zi 0),(zi 0),(zi 0),(zr 31),(.bool false),(zi 181),(zr 32),.none,.none,.none,.none,(zi 212),(zi 4),(zs "/claim/cut.py" 213)]
def At7:Obj:=⟨(.type "frame"),none,.plain,#[(some (zr 33)),(some (zr 3)),(some (zr 30)),none,(some Dx),none,(some (zr 0))]⟩
def zo33:Obj:=zt [(zs "self" 222),(zs "text" 223)]
def zo34:Obj:=zx "__init__" "NoPlace.__init__" (Ef (top 2) 0)
def Aqs:Obj:=zA "__init__" "NoPlace.__init__" 219 6 2 35 181 224
def zo36:Obj:=zf "__init__" "NoPlace.__init__" (Ef (top 2) 0) Dx (zr 40)
def Aq4:Obj:=zd [de P "__module__" 214 Dx,de P "__firstlineno__" 218 (.int 4 217),de P "__init__" 226 (zr 41),de P "__static_attributes__" 227 (zr 42),de P "__doc__" 228 .none] 2
def zo38:Obj:=⟨(.type "type"),none,(.cls ⟨"NoPlace",[(zr 24)],[(zr 44),(zr 24),(.type "ValueError"),(.type "Exception"),(.type "BaseException"),(.type "object")],43,"NoPlace",true,[],[],false,none,false⟩),#[(some (zr 28)),none,(some (zs "NoPlace" 207)),(some (zs "NoPlace" 215)),(some (.builtin "ValueError.__new__")),(some (.bool true))]⟩
def Aug:Obj:=⟨(.type "super"),none,(.fields #[(zr 44),(zr 44),(zr 44)]),#[]⟩
def Aum:Obj:=⟨(.type "builtin_function_or_method"),none,(.fields #[(.builtin "object.__init_subclass__"),(zr 44)]),#[]⟩
def Auf:Obj:=zd (de P "__name__" 165 Dx::((gz P).take 11)) 12
def Avi:Obj:=zl (cz.take 9)
def Aun:Obj:=⟨(.type "type"),none,(.cls ⟨"BelowError",[(.type "ValueError")],[(zr 24),(.type "ValueError"),(.type "Exception"),(.type "BaseException"),(.type "object")],23,"BelowError",true,[],[(zr 44),(zr 63)],false,none,false⟩),#[(some (zr 15)),none,(some (zs "BelowError" 189)),(some (zs "BelowError" 197)),(some (.builtin "ValueError.__new__")),(some (.bool true))]⟩
def Ari:Obj:=zd [de P "__module__" 238 Dx,de P "__qualname__" 240 (zs "NoAsk" 239),de P "__firstlineno__" 242 (.int 8 241),de P "__init__" 250 (zr 60),de P "__static_attributes__" 251 (zr 61)] 5
def Au6:Obj:=zl [(zi 10),(zi 4),(zr 59)]
def zo46:Obj:=zc [(zs "NoAsk" 233),(zs "NoAsk" 234),(zs "/claim/cut.py" 235),(zi 8),(zi 0),(zi 0),(zi 0),(zi 0),(zr 50),(.bool false),(zi 181),(zr 51),.none,.none,.none,.none,(zi 236),(zi 8),(zs "/claim/cut.py" 237)]
def Auv:Obj:=⟨(.type "frame"),none,.plain,#[(some (zr 52)),(some (zr 3)),(some (zr 49)),none,(some Dx),none,(some (zr 0))]⟩
def zo48:Obj:=zt [(zs "self" 246),(zs "text" 247)]
def zo49:Obj:=zx "__init__" "NoAsk.__init__" (Ef (top 3) 0)
def Atc:Obj:=zA "__init__" "NoAsk.__init__" 243 10 2 54 181 248
def zo51:Obj:=zf "__init__" "NoAsk.__init__" (Ef (top 3) 0) Dx (zr 59)
def As3:Obj:=zd [de P "__module__" 238 Dx,de P "__firstlineno__" 242 (.int 8 241),de P "__init__" 250 (zr 60),de P "__static_attributes__" 251 (zr 61),de P "__doc__" 252 .none] 2
def zo53:Obj:=⟨(.type "type"),none,(.cls ⟨"NoAsk",[(zr 24)],[(zr 63),(zr 24),(.type "ValueError"),(.type "Exception"),(.type "BaseException"),(.type "object")],62,"NoAsk",true,[],[],false,none,false⟩),#[(some (zr 47)),none,(some (zs "NoAsk" 231)),(some (zs "NoAsk" 239)),(some (.builtin "ValueError.__new__")),(some (.bool true))]⟩
def Atp:Obj:=⟨(.type "super"),none,(.fields #[(zr 63),(zr 63),(zr 63)]),#[]⟩
def Auc:Obj:=⟨(.type "builtin_function_or_method"),none,(.fields #[(.builtin "object.__init_subclass__"),(zr 63)]),#[]⟩
def At5:Obj:=zd (de P "__name__" 165 Dx::((gz P).take 12)) 13
def Auq:Obj:=zl (cz.take 12)
def Au5:Obj:=⟨(.type "type"),none,(.cls ⟨"BelowError",[(.type "ValueError")],[(zr 24),(.type "ValueError"),(.type "Exception"),(.type "BaseException"),(.type "object")],23,"BelowError",true,[],[(zr 44),(zr 63),(zr 82)],false,none,false⟩),#[(some (zr 15)),none,(some (zs "BelowError" 189)),(some (zs "BelowError" 197)),(some (.builtin "ValueError.__new__")),(some (.bool true))]⟩
def Aq9:Obj:=zd [de P "__module__" 262 Dx,de P "__qualname__" 264 (zs "NoPoints" 263),de P "__firstlineno__" 266 (.int 12 265),de P "__init__" 274 (zr 79),de P "__static_attributes__" 276 (zr 80)] 5
def Avb:Obj:=zl [(zi 14),(zi 4),(zr 78)]
def zo61:Obj:=zc [(zs "NoPoints" 257),(zs "NoPoints" 258),(zs "/claim/cut.py" 259),(zi 12),(zi 0),(zi 0),(zi 0),(zi 0),(zr 69),(.bool false),(zi 181),(zr 70),.none,.none,.none,.none,(zi 260),(zi 12),(zs "/claim/cut.py" 261)]
def Avd:Obj:=⟨(.type "frame"),none,.plain,#[(some (zr 71)),(some (zr 3)),(some (zr 68)),none,(some Dx),none,(some (zr 0))]⟩
def zo63:Obj:=zt [(zs "self" 270),(zs "row" 271)]
def zo64:Obj:=zx "__init__" "NoPoints.__init__" (Ef (top 4) 0)
def Asr:Obj:=zA "__init__" "NoPoints.__init__" 267 14 2 73 181 272
def zo66:Obj:=zf "__init__" "NoPoints.__init__" (Ef (top 4) 0) Dx (zr 78)
def Atx:Obj:=zt [(zs "row" 275)]
def Ar3:Obj:=zd [de P "__module__" 262 Dx,de P "__firstlineno__" 266 (.int 12 265),de P "__init__" 274 (zr 79),de P "__static_attributes__" 276 (zr 80),de P "__doc__" 277 .none] 2
def zo69:Obj:=⟨(.type "type"),none,(.cls ⟨"NoPoints",[(zr 24)],[(zr 82),(zr 24),(.type "ValueError"),(.type "Exception"),(.type "BaseException"),(.type "object")],81,"NoPoints",true,[],[],false,none,false⟩),#[(some (zr 66)),none,(some (zs "NoPoints" 255)),(some (zs "NoPoints" 263)),(some (.builtin "ValueError.__new__")),(some (.bool true))]⟩
def Aua:Obj:=⟨(.type "super"),none,(.fields #[(zr 82),(zr 82),(zr 82)]),#[]⟩
def Aup:Obj:=⟨(.type "builtin_function_or_method"),none,(.fields #[(.builtin "object.__init_subclass__"),(zr 82)]),#[]⟩
def Avr:Obj:=zd (de P "__name__" 165 Dx::((gz P).take 13)) 14
def Avn:Obj:=zl (cz.take 15)
def Avg:Obj:=⟨(.type "type"),none,(.cls ⟨"BelowError",[(.type "ValueError")],[(zr 24),(.type "ValueError"),(.type "Exception"),(.type "BaseException"),(.type "object")],23,"BelowError",true,[],[(zr 44),(zr 63),(zr 82),(zr 101)],false,none,false⟩),#[(some (zr 15)),none,(some (zs "BelowError" 189)),(some (zs "BelowError" 197)),(some (.builtin "ValueError.__new__")),(some (.bool true))]⟩
def Asu:Obj:=zd [de P "__module__" 287 Dx,de P "__qualname__" 289 (zs "NoCounts" 288),de P "__firstlineno__" 291 (.int 17 290),de P "__init__" 299 (zr 98),de P "__static_attributes__" 301 (zr 99)] 5
def Avk:Obj:=zl [(zi 19),(zi 4),(zr 97)]
def zo77:Obj:=zc [(zs "NoCounts" 282),(zs "NoCounts" 283),(zs "/claim/cut.py" 284),(zi 17),(zi 0),(zi 0),(zi 0),(zi 0),(zr 88),(.bool false),(zi 181),(zr 89),.none,.none,.none,.none,(zi 285),(zi 17),(zs "/claim/cut.py" 286)]
def Aui:Obj:=⟨(.type "frame"),none,.plain,#[(some (zr 90)),(some (zr 3)),(some (zr 87)),none,(some Dx),none,(some (zr 0))]⟩
def zo79:Obj:=zt [(zs "self" 295),(zs "row" 296)]
def zo80:Obj:=zx "__init__" "NoCounts.__init__" (Ef (top 5) 0)
def Arl:Obj:=zA "__init__" "NoCounts.__init__" 292 19 2 92 181 297
def zo82:Obj:=zf "__init__" "NoCounts.__init__" (Ef (top 5) 0) Dx (zr 97)
def Avo:Obj:=zt [(zs "row" 300)]
def Aqi:Obj:=zd [de P "__module__" 287 Dx,de P "__firstlineno__" 291 (.int 17 290),de P "__init__" 299 (zr 98),de P "__static_attributes__" 301 (zr 99),de P "__doc__" 302 .none] 2
def zo85:Obj:=⟨(.type "type"),none,(.cls ⟨"NoCounts",[(zr 24)],[(zr 101),(zr 24),(.type "ValueError"),(.type "Exception"),(.type "BaseException"),(.type "object")],100,"NoCounts",true,[],[],false,none,false⟩),#[(some (zr 85)),none,(some (zs "NoCounts" 280)),(some (zs "NoCounts" 288)),(some (.builtin "ValueError.__new__")),(some (.bool true))]⟩
def Aty:Obj:=⟨(.type "super"),none,(.fields #[(zr 101),(zr 101),(zr 101)]),#[]⟩
def Aut:Obj:=⟨(.type "builtin_function_or_method"),none,(.fields #[(.builtin "object.__init_subclass__"),(zr 101)]),#[]⟩
def Ats:Obj:=zd (de P "__name__" 165 T9::((gz P).take 17)) 18
def At4:Obj:=zl (cz.take 18)
def Aqh:Obj:=⟨(.type "type"),none,(.cls ⟨"BelowError",[(.type "ValueError")],[(zr 24),(.type "ValueError"),(.type "Exception"),(.type "BaseException"),(.type "object")],23,"BelowError",true,[],[(zr 44),(zr 63),(zr 82),(zr 101),(zr 120)],false,none,false⟩),#[(some (zr 15)),none,(some (zs "BelowError" 189)),(some (zs "BelowError" 197)),(some (.builtin "ValueError.__new__")),(some (.bool true))]⟩
def Ap4:Obj:=zd [de P "__module__" 312 Dx,de P "__qualname__" 314 (zs "NoName" 313),de P "__firstlineno__" 316 (.int 22 315),de P "__init__" 324 (zr 117),de P "__static_attributes__" 326 (zr 118)] 5
def Auw:Obj:=zl [(zi 24),(zi 4),(zr 116)]
def zo93:Obj:=zc [(zs "NoName" 307),(zs "NoName" 308),(zs "/claim/cut.py" 309),(zi 22),(zi 0),(zi 0),(zi 0),(zi 0),(zr 107),(.bool false),(zi 181),(zr 108),.none,.none,.none,.none,(zi 310),(zi 22),(zs "/claim/cut.py" 311)]
def Au8:Obj:=⟨(.type "frame"),none,.plain,#[(some (zr 109)),(some (zr 3)),(some (zr 106)),none,(some Dx),none,(some (zr 0))]⟩
def zo95:Obj:=zt [(zs "self" 320),(zs "word" 321)]
def zo96:Obj:=zx "__init__" "NoName.__init__" (Ef (top 6) 0)
def Ap5:Obj:=zA "__init__" "NoName.__init__" 317 24 2 111 181 322
def zo98:Obj:=zf "__init__" "NoName.__init__" (Ef (top 6) 0) Dx (zr 116)
def Ava:Obj:=zt [(zs "word" 325)]
def Amg:Obj:=zd [de P "__module__" 312 Dx,de P "__firstlineno__" 316 (.int 22 315),de P "__init__" 324 (zr 117),de P "__static_attributes__" 326 (zr 118),de P "__doc__" 327 .none] 2
def zo101:Obj:=⟨(.type "type"),none,(.cls ⟨"NoName",[(zr 24)],[(zr 120),(zr 24),(.type "ValueError"),(.type "Exception"),(.type "BaseException"),(.type "object")],119,"NoName",true,[],[],false,none,false⟩),#[(some (zr 104)),none,(some (zs "NoName" 305)),(some (zs "NoName" 313)),(some (.builtin "ValueError.__new__")),(some (.bool true))]⟩
def Aqp:Obj:=⟨(.type "super"),none,(.fields #[(zr 120),(zr 120),(zr 120)]),#[]⟩
def Ar8:Obj:=⟨(.type "builtin_function_or_method"),none,(.fields #[(.builtin "object.__init_subclass__"),(zr 120)]),#[]⟩
def Arx:Obj:=zd (de P "__name__" 165 (zs "law_belowpoints_k02_no_points" 379)::((gz P).take 26)) 27
def Ate:Obj:=zl (cz.take 45)
def Aqf:Obj:=zt [(zs "text" 341),(zs "points" 342),(zs "known" 343),(zs "row" 344),(zs "line" 345),(zs "point" 346)]
def Ar7:Obj:=zx "read_points" "read_points" (top 11)
def zo108:Obj:=zA "read_points" "read_points" 338 31 1 123 181 347
def Amw:Obj:=zf "read_points" "read_points" (top 11) T9 (zr 128)
def zo110:Obj:=zt [(zs "line" 353),(zs "words" 354)]
def zo111:Obj:=zx "point_in" "point_in" (top 12)
def Amx:Obj:=zA "point_in" "point_in" 350 43 1 130 181 355
def zo113:Obj:=zf "point_in" "point_in" (top 12) T9 (zr 135)
def Aqk:Obj:=zt [(zs "word" 361)]
def Asc:Obj:=zx "is_name" "is_name" (top 13)
def zo116:Obj:=zA "is_name" "is_name" 358 50 1 137 181 362
def Al4:Obj:=zf "is_name" "is_name" (top 13) T9 (zr 142)
def zo118:Obj:=zt [(zs "word" 368),(zs "figures" 369)]
def zo119:Obj:=zx "is_number" "is_number" (top 14)
def Ama:Obj:=zA "is_number" "is_number" 365 52 1 144 181 370
def zo121:Obj:=zf "is_number" "is_number" (top 14) T9 (zr 149)
def As9:Obj:=zx "holds_only" "holds_only" (top 15)
def zo123:Obj:=zB "holds_only" "holds_only" 373 57 2 151 181 376
def Al3:Obj:=zf "holds_only" "holds_only" (top 15) T9 (zr 154)
def zo125:Obj:=zt [(zs "cell" 384),(zs "k" 385),(zs "number" 386)]
def zo126:Obj:=zx "_law_mix" "_law_mix" (top 17)
def Alp:Obj:=zA "_law_mix" "_law_mix" 381 60 2 156 181 387
def zo128:Obj:=zf "_law_mix" "_law_mix" (top 17) (zs "law_belowpoints_k02_no_points" 379) (zr 161)
def Atf:Obj:=zt [(zs "script" 393)]
def Aqb:Obj:=zx "_law_deck" "_law_deck" (top 18)
def zo131:Obj:=zA "_law_deck" "_law_deck" 390 65 1 163 181 394
def Aly:Obj:=zf "_law_deck" "_law_deck" (top 18) (zs "law_belowpoints_k02_no_points" 379) (zr 168)
def zo133:Obj:=zt [(zs "deck" 400),(zs "many" 401),(zs "cell" 402),(zs "found" 403)]
def zo134:Obj:=zx "_law_next" "_law_next" (top 19)
def Amk:Obj:=zA "_law_next" "_law_next" 397 67 2 170 181 404
def zo136:Obj:=zf "_law_next" "_law_next" (top 19) (zs "law_belowpoints_k02_no_points" 379) (zr 175)
def Ary:Obj:=zx "_law_names" "_law_names" (top 20)
def zo138:Obj:=zB "_law_names" "_law_names" 407 80 2 177 181 410
def Al9:Obj:=zf "_law_names" "_law_names" (top 20) (zs "law_belowpoints_k02_no_points" 379) (zr 180)
def Ata:Obj:=zd (de P "__name__" 165 (zs "law_belowpoints_k02_no_points" 379)::((gz P).take 36)) 37
def Aqe:Obj:=zl (cz.take 75)
def Asa:Obj:=zt [(zs "deck" 416),(zs "kind" 417),(zs "great" 418)]
def As7:Obj:=zx "_law_number" "_law_number" (top 21)
def zo144:Obj:=zA "_law_number" "_law_number" 413 100 2 182 181 419
def Amp:Obj:=zf "_law_number" "_law_number" (top 21) (zs "law_belowpoints_k02_no_points" 379) (zr 187)
def zo146:Obj:=zx "_law_places" "_law_places" (top 22)
def Amq:Obj:=zB "_law_places" "_law_places" 422 106 2 189 181 425
def zo148:Obj:=zf "_law_places" "_law_places" (top 22) (zs "law_belowpoints_k02_no_points" 379) (zr 192)
def Arq:Obj:=zx "_law_points" "_law_points" (top 23)
def zo150:Obj:=zB "_law_points" "_law_points" 428 126 2 194 181 431
def Amo:Obj:=zf "_law_points" "_law_points" (top 23) (zs "law_belowpoints_k02_no_points" 379) (zr 197)
def zo152:Obj:=zt [(zs "number" 437),(zs "sign" 438),(zs "text" 439),(zs "k" 440)]
def zo153:Obj:=zx "_law_figures" "_law_figures" (top 24)
def Aml:Obj:=zA "_law_figures" "_law_figures" 434 132 1 199 181 441
def zo155:Obj:=zf "_law_figures" "_law_figures" (top 24) (zs "law_belowpoints_k02_no_points" 379) (zr 204)
def Aqy:Obj:=zx "_law_text" "_law_text" (top 25)
def zo157:Obj:=zB "_law_text" "_law_text" 444 141 1 206 181 447
def Al0:Obj:=zf "_law_text" "_law_text" (top 25) (zs "law_belowpoints_k02_no_points" 379) (zr 209)
def zo159:Obj:=zt [(zs "deck" 453),(zs "signs" 454)]
def zo160:Obj:=zx "_law_sign" "_law_sign" (top 26)
def Al8:Obj:=zA "_law_sign" "_law_sign" 450 143 1 211 181 455
def zo162:Obj:=zf "_law_sign" "_law_sign" (top 26) (zs "law_belowpoints_k02_no_points" 379) (zr 216)
def Arc:Obj:=zx "_law_is_name" "_law_is_name" (top 27)
def zo164:Obj:=zB "_law_is_name" "_law_is_name" 458 146 1 218 181 461
def Als:Obj:=zf "_law_is_name" "_law_is_name" (top 27) (zs "law_belowpoints_k02_no_points" 379) (zr 221)
def zo166:Obj:=zt [(zs "word" 467),(zs "number" 468),(zs "sign" 469),(zs "figures" 470),(zs "figure" 471)]
def zo167:Obj:=zx "_law_number_of" "_law_number_of" (top 28)
def Amz:Obj:=zA "_law_number_of" "_law_number_of" 464 149 1 223 181 472
def zo169:Obj:=zf "_law_number_of" "_law_number_of" (top 28) (zs "law_belowpoints_k02_no_points" 379) (zr 228)
def Asb:Obj:=zx "_law_due" "_law_due" (top 29)
def zo171:Obj:=zB "_law_due" "_law_due" 475 160 1 230 181 478
def Alv:Obj:=zf "_law_due" "_law_due" (top 29) (zs "law_belowpoints_k02_no_points" 379) (zr 233)
def zo173:Obj:=zt [(zs "deck" 484),(zs "line" 485),(zs "names" 486),(zs "words" 487),(zs "at" 488),(zs "there" 489),(zs "some" 490),(zs "way" 491),(zs "text" 492),(zs "cut" 493)]
def zo174:Obj:=zx "_law_spoilt_line" "_law_spoilt_line" (top 30)
def Amc:Obj:=zA "_law_spoilt_line" "_law_spoilt_line" 481 173 3 235 181 494
def Amt:Obj:=zf "_law_spoilt_line" "_law_spoilt_line" (top 30) (zs "law_belowpoints_k02_no_points" 379) (zr 240)
def Ame:Obj:=zd (de P "__name__" 165 (zs "law_belowpoints_k02_no_points" 379)::(gz P)) 42
def Aql:Obj:=zl cz
def Aqz:Obj:=zx "_law_spoilt" "_law_spoilt" (top 31)
def zo180:Obj:=zB "_law_spoilt" "_law_spoilt" 497 197 2 242 181 500
def Al1:Obj:=zf "_law_spoilt" "_law_spoilt" (top 31) (zs "law_belowpoints_k02_no_points" 379) (zr 245)
def zo182:Obj:=zx "_law_beyond" "_law_beyond" (top 32)
def Am4:Obj:=zB "_law_beyond" "_law_beyond" 503 211 1 247 181 506
def zo184:Obj:=zf "_law_beyond" "_law_beyond" (top 32) (zs "law_belowpoints_k02_no_points" 379) (zr 250)
def Asq:Obj:=zt [(zs "text" 512),(zs "due" 513),(zs "found" 514),(zs "caught" 515),(zs "e" 516)]
def Asn:Obj:=zx "_law_right" "_law_right" (top 33)
def zo187:Obj:=zA "_law_right" "_law_right" 509 216 1 252 181 517
def Al2:Obj:=zf "_law_right" "_law_right" (top 33) (zs "law_belowpoints_k02_no_points" 379) (zr 257)
def zo189:Obj:=zx "_law_classes_right" "_law_classes_right" (top 34)
def Amj:Obj:=zB "_law_classes_right" "_law_classes_right" 520 231 0 259 181 523
def zo191:Obj:=zf "_law_classes_right" "_law_classes_right" (top 34) (zs "law_belowpoints_k02_no_points" 379) (zr 262)
def Asz:Obj:=zx "law" "law" (top 35)
def zo193:Obj:=zB "law" "law" 526 239 1 264 181 529
def Am2:Obj:=zf "law" "law" (top 35) (zs "law_belowpoints_k02_no_points" 379) (zr 267)
def l_0:List Obj:=[(rC P),(zo1 P),zo2,(PySem.W.boot_o_3 P),zo4,zo5,zo6,zo7,zo8,zo9,zo10,zo7,zo8,At1,At9]
def l_1:List Obj:=(l_0 P)
def t_0:fF:=mkT 11 (l_1 P)
def l_2:List Obj:=(((l_1 P).set 3 (At0 P)).set 12 Aur)++[Atw,zo16,(Are P),zo7,zo8,zo18,Aus,zo7,(Ap9 P),zo21,Avl,zo23,Atv]
def t_1:fF:=mkT 11 (l_2 P)
def l_3:List Obj:=((((l_2 P).set 3 (Au7 P)).set 12 Atu).set 24 Au3)++[Af0,zo16,(Ase P),zo7,Aul,zo31,At7,zo7,zo8,zo33,zo7,zo34,Aqs,zo36,zo7,(Aq4 P),zo38,Aug,Aum]
def t_2:fF:=mkT 11 (l_3 P)
def l_4:List Obj:=((((l_3 P).set 3 (Auf P)).set 12 Avi).set 24 Aun)++[Af0,zo16,(Ari P),zo7,Au6,zo46,Auv,zo7,zo8,zo48,zo7,zo49,Atc,zo51,zo7,(As3 P),zo53,Atp,Auc]
def t_3:fF:=mkT 11 (l_4 P)
def l_5:List Obj:=((((l_4 P).set 3 (At5 P)).set 12 Auq).set 24 Au5)++[Af0,zo16,(Aq9 P),zo7,Avb,zo61,Avd,zo7,zo8,zo63,zo7,zo64,Asr,zo66,Atx,(Ar3 P),zo69,Aua,Aup]
def t_4:fF:=mkT 11 (l_5 P)
def l_6:List Obj:=((((l_5 P).set 3 (Avr P)).set 12 Avn).set 24 Avg)++[Af0,zo16,(Asu P),zo7,Avk,zo77,Aui,zo7,zo8,zo79,zo7,zo80,Arl,zo82,Avo,(Aqi P),zo85,Aty,Aut]
def t_5:fF:=mkT 11 (l_6 P)
def l_7:List Obj:=((((l_6 P).set 3 (Ats P)).set 12 At4).set 24 Aqh)++[Af0,zo16,(Ap4 P),zo7,Auw,zo93,Au8,zo7,zo8,zo95,zo7,zo96,Ap5,zo98,Ava,(Amg P),zo101,Aqp,Ar8]
def t_6:fF:=mkT 11 (l_7 P)
def l_8:List Obj:=(((l_7 P).set 3 (Arx P)).set 12 Ate)++[zo7,zo8,Aqf,zo7,Ar7,zo108,Amw,zo7,zo8,zo110,zo7,zo111,Amx,zo113,zo7,zo8,Aqk,zo7,Asc,zo116,Al4,zo7,zo8,zo118,zo7,zo119,Ama,zo121,zo7,zo8,As9,zo123,Al3,zo7,zo8,zo125,zo7,zo126,Alp,zo128,zo7,zo8,Atf,zo7,Aqb,zo131,Aly,zo7,zo8,zo133,zo7,zo134,Amk,zo136,zo7,zo8,Ary,zo138,Al9]
def t_7:fF:=mkT 11 (l_8 P)
def l_9:List Obj:=(((l_8 P).set 3 (Ata P)).set 12 Aqe)++[zo7,zo8,Asa,zo7,As7,zo144,Amp,zo7,zo8,zo146,Amq,zo148,zo7,zo8,Arq,zo150,Amo,zo7,zo8,zo152,zo7,zo153,Aml,zo155,zo7,zo8,Aqy,zo157,Al0,zo7,zo8,zo159,zo7,zo160,Al8,zo162,zo7,zo8,Arc,zo164,Als,zo7,zo8,zo166,zo7,zo167,Amz,zo169,zo7,zo8,Asb,zo171,Alv,zo7,zo8,zo173,zo7,zo174,Amc,Amt]
def t_8:fF:=mkT 11 (l_9 P)
def Aqu:List Obj:=(((l_9 P).set 3 (Ame P)).set 12 Aql)++[zo7,zo8,Aqz,zo180,Al1,zo7,zo8,zo182,Am4,zo184,zo7,zo8,Asq,zo7,Asn,zo187,Al2,zo7,zo8,zo189,Amj,zo191,zo7,zo8,Asz,zo193,Am2]
def t_9:fF:=mkT 11 (Aqu P)
def Aud:List Obj:=(Aqu P)
def hA:Heap:=⟨⟨l_0 P⟩,{}⟩
def hZ:Heap:=⟨⟨Aud P⟩,{}⟩
abbrev pp:cD:=PySem.Challenge.pw_belowpoints_k02_no_points
def q0:cD:={ pp with main:={ pp.main with body:=[1,2,3,4,5,6,8,9,10,11,12,13,14,15,17,18,19,20,21,22,23,24,25,26,27,28,29,30,31,32,33,34,35].map top } }
def ev:Env:={ scope:=pp.main.scope,locals:=mainNs,globals:=mainNs,cells:=[],code:=(.ref 13),frame:=some 14 }
abbrev bd:List Stmt:=PySem.W.behindTheImports pp
abbrev cE:Code:=.body bd ev
abbrev tB:List Frame:=[kR ⟨0,0,0,0⟩]
def sl(i j:Nat):List Stmt:=(bd.drop i).take j
theorem Aq7(w:cV)(os:gF):PySem.W.topGo cS pp w 11 (some (.ref 6)) 12 ⟨eV w.params,⟨[]⟩,mO,nC,os⟩ (rM pp)=some (⟨hA w.params,⟨[]⟩,{},187,os⟩,⟨denote cS cE,cE,⟨0,0,0,0⟩,tB⟩):=by
 rw[PySem.W.Fast.te15667345088766844465,bC,PySem.W.Fast.te11892475500146522536];kernel_rfl
theorem Aiq(w:cV)(os:gF):rZ cS pp w 11 (some (.ref 6)) 1 1 ⟨hA w.params,⟨[]⟩,{},187,os⟩ (rN bd ev cE ⟨0,0,0,0⟩ tB)=some (.next,pB ⟨t_0 w.params,15,{},⟨[]⟩,{},187,os⟩,cE,⟨0,0,0,0⟩):=by
 rw[PySem.W.Fast.te14374325043358763698,bC];kernel_rfl
theorem r_0(w:cV)(os:gF):eZ cS pp w 11 (some (.ref 6)) 1 196 ⟨t_0 w.params,15,{},⟨[]⟩,{},187,os⟩ (eQ (sl 0 2) ev cE ⟨0,0,0,0⟩ tB)=some (.next,⟨t_1 w.params,28,{},⟨[]⟩,{},207,os⟩,cE,⟨2,0,3,8⟩):=by
 rw[bU,bC];kernel_rfl
theorem r_1(w:cV)(os:gF):eZ cS pp w 11 (some (.ref 6)) 1 245 ⟨t_1 w.params,28,{},⟨[]⟩,{},207,os⟩ (eQ (sl 2 1) ev cE ⟨2,0,3,8⟩ tB)=some (.next,⟨t_2 w.params,47,{},⟨[]⟩,{},231,os⟩,cE,⟨4,0,7,39⟩):=by
 rw[bU,bC];kernel_rfl
theorem r_2(w:cV)(os:gF):eZ cS pp w 11 (some (.ref 6)) 1 245 ⟨t_2 w.params,47,{},⟨[]⟩,{},231,os⟩ (eQ (sl 3 1) ev cE ⟨4,0,7,39⟩ tB)=some (.next,⟨t_3 w.params,66,{},⟨[]⟩,{},255,os⟩,cE,⟨8,0,11,39⟩):=by
 rw[bU,bC];kernel_rfl
theorem r_3(w:cV)(os:gF):eZ cS pp w 11 (some (.ref 6)) 1 246 ⟨t_3 w.params,66,{},⟨[]⟩,{},255,os⟩ (eQ (sl 4 1) ev cE ⟨8,0,11,39⟩ tB)=some (.next,⟨t_4 w.params,85,{},⟨[]⟩,{},280,os⟩,cE,⟨12,0,16,22⟩):=by
 rw[bU,bC];kernel_rfl
theorem r_4(w:cV)(os:gF):eZ cS pp w 11 (some (.ref 6)) 1 246 ⟨t_4 w.params,85,{},⟨[]⟩,{},280,os⟩ (eQ (sl 5 1) ev cE ⟨12,0,16,22⟩ tB)=some (.next,⟨t_5 w.params,104,{},⟨[]⟩,{},305,os⟩,cE,⟨17,0,21,22⟩):=by
 rw[bU,bC];kernel_rfl
theorem r_5(w:cV)(os:gF):eZ cS pp w 11 (some (.ref 6)) 1 282 ⟨t_5 w.params,104,{},⟨[]⟩,{},305,os⟩ (eQ (sl 6 5) ev cE ⟨17,0,21,22⟩ tB)=some (.next,⟨t_6 w.params,123,{},⟨[]⟩,{},338,os⟩,cE,⟨30,0,30,12⟩):=by
 rw[bU,bC];kernel_rfl
theorem r_6(w:cV)(os:gF):eZ cS pp w 11 (some (.ref 6)) 1 277 ⟨t_6 w.params,123,{},⟨[]⟩,{},338,os⟩ (eQ (sl 11 10) ev cE ⟨30,0,30,12⟩ tB)=some (.next,⟨t_7 w.params,182,{},⟨[]⟩,{},413,os⟩,cE,⟨80,0,99,69⟩):=by
 rw[bU,bC];kernel_rfl
theorem r_7(w:cV)(os:gF):eZ cS pp w 11 (some (.ref 6)) 1 295 ⟨t_7 w.params,182,{},⟨[]⟩,{},413,os⟩ (eQ (sl 21 10) ev cE ⟨80,0,99,69⟩ tB)=some (.next,⟨t_8 w.params,242,{},⟨[]⟩,{},497,os⟩,cE,⟨173,0,196,15⟩):=by
 rw[bU,bC];kernel_rfl
theorem r_8(w:cV)(os:gF):eZ cS pp w 11 (some (.ref 6)) 1 138 ⟨t_8 w.params,242,{},⟨[]⟩,{},497,os⟩ (eQ (sl 31 5) ev cE ⟨173,0,196,15⟩ tB)=some (.next,⟨t_9 w.params,269,{},⟨[]⟩,{},532,os⟩,cE,⟨239,0,255,31⟩):=by
 rw[bU,bC];kernel_rfl
theorem Aqw(w:cV)(os:gF):mP cS pp w 11 (some (.ref 6)) 2 (pB ⟨t_9 w.params,269,{},⟨[]⟩,{},532,os⟩) (sA [] ev cE ⟨239,0,255,31⟩ tB)=some ⟨hZ w.params,⟨[]⟩,{},532,os⟩:=by
 rw[PySem.W.Fast.te14082659384304107361,bC];kernel_rfl
theorem bdE:bd=(sl 0 2++(sl 2 1++(sl 3 1++(sl 4 1++(sl 5 1++(sl 6 5++(sl 11 10++(sl 21 10++(sl 31 5++[]))))))))):=by kernel_rfl
theorem Alb{tb:String->Option nA}{p:cD}{n₀:Nat}{ann:Option aE}{env:Env}{q:Pos}{n N:Nat}{s1 r:aH}{b b1:List Stmt}{c:Code}{pos p1:Pos}(hb:b=b1)(h:rZ tb p w n₀ ann 1 n s (rN b env c pos [kR q])=some (.next,s1,c,p1))(k:mP tb p w n₀ ann N s1 (sA b1 env c p1 [kR q])=some r):mP tb p w n₀ ann (n+N) s ⟨denote tb (.body b env),c,pos,[kR q]⟩=some r:=by
 subst hb;exact PySem.W.piece_block h k
theorem Aqo(w:cV)(os:gF):mP cS pp w 11 (some (.ref 6)) (12+(1+(196+(245+(245+(246+(246+(282+(277+(295+(138+2))))))))))) ⟨eV w.params,⟨[]⟩,mO,nC,os⟩ (rM pp)=some ⟨hZ w.params,⟨[]⟩,{},532,os⟩:=
 PySem.W.go_top (Aq7 w os) (Alb bdE (Aiq w os) (eA (eB (r_0 w os)) (eA (eB (r_1 w os)) (eA (eB (r_2 w os)) (eA (eB (r_3 w os)) (eA (eB (r_4 w os)) (eA (eB (r_5 w os)) (eA (eB (r_6 w os)) (eA (eB (r_7 w os)) (eA (eB (r_8 w os)) (Aqw w os)))))))))))
theorem Apm:∀ w:cV,(PySem.W.fencedOpening cS pp w 4448).map (fun s=>(s.heap,s.gens,s.drawn,s.toks))=some (eV w.params,Array.mk [],mO,nC):=
 PySem.W.boot_open (by kernel_rfl) (by decide) (fun s=>by kernel_rfl)
theorem Aps(w:cV):((eV w.params).isNs bB&&(Array.mk []:Array mC).size == 0,(eV w.params).objs.size,(eV w.params).nsMap bB "__annotations__")=(true,11,(some (.ref 6))):=by
 rw[jP];kernel_rfl
def K0(P:oJ):aB:=(nat_lit 41,zo36)::(nat_lit 60,zo51)::(nat_lit 79,zo66)::(nat_lit 98,zo82)::(nat_lit 117,zo98)::(nat_lit 129,Amw)::(nat_lit 136,zo113)::(nat_lit 143,Al4)::(nat_lit 150,zo121)::(nat_lit 155,Al3)::(nat_lit 162,zo128)::(nat_lit 169,Aly)::(nat_lit 176,zo136)::(nat_lit 181,Al9)::(nat_lit 188,Amp)::(nat_lit 193,zo148)::(nat_lit 198,Amo)::(nat_lit 205,zo155)::(nat_lit 210,Al0)::(nat_lit 217,zo162)::(nat_lit 222,Als)::(nat_lit 229,zo169)::(nat_lit 234,Alv)::(nat_lit 241,Amt)::(nat_lit 246,Al1)::(nat_lit 251,zo184)::(nat_lit 258,Al2)::(nat_lit 263,zo191)::(nat_lit 268,Am2)::(nat_lit 0,(rC P))::(nat_lit 1,(zo1 P))::(nat_lit 2,zo2)::(nat_lit 3,(Ame P))::(nat_lit 6,zo6)::(nat_lit 17,(Are P))::(nat_lit 23,(Ap9 P))::(nat_lit 24,Aqh)::(nat_lit 30,(Ase P))::(nat_lit 40,Aqs)::(nat_lit 43,(Aq4 P))::(nat_lit 44,zo38)::(nat_lit 49,(Ari P))::(nat_lit 59,Atc)::(nat_lit 62,(As3 P))::(nat_lit 63,zo53)::(nat_lit 68,(Aq9 P))::(nat_lit 78,Asr)::(nat_lit 81,(Ar3 P))::(nat_lit 82,zo69)::(nat_lit 87,(Asu P))::(nat_lit 97,Arl)::(nat_lit 100,(Aqi P))::(nat_lit 101,zo85)::(nat_lit 106,(Ap4 P))::(nat_lit 116,Ap5)::(nat_lit 119,(Amg P))::(nat_lit 120,zo101)::(nat_lit 128,zo108)::(nat_lit 135,Amx)::(nat_lit 142,zo116)::(nat_lit 149,Ama)::(nat_lit 154,zo123)::(nat_lit 161,Alp)::(nat_lit 168,zo131)::(nat_lit 175,Amk)::(nat_lit 180,zo138)::(nat_lit 187,zo144)::(nat_lit 192,Amq)::(nat_lit 197,zo150)::(nat_lit 204,Aml)::(nat_lit 209,zo157)::(nat_lit 216,Al8)::(nat_lit 221,zo164)::(nat_lit 228,Amz)::(nat_lit 233,zo171)::(nat_lit 240,Amc)::(nat_lit 245,zo180)::(nat_lit 250,Am4)::(nat_lit 257,zo187)::(nat_lit 262,Amj)::(nat_lit 267,zo193)::[]
abbrev hK:PySem.W.Hook:=PySem.W.kHook K0 [nat_lit 41,nat_lit 60,nat_lit 79,nat_lit 98,nat_lit 117,nat_lit 129,nat_lit 136,nat_lit 143,nat_lit 150,nat_lit 155,nat_lit 162,nat_lit 169,nat_lit 176,nat_lit 181,nat_lit 188,nat_lit 193,nat_lit 198,nat_lit 205,nat_lit 210,nat_lit 217,nat_lit 222,nat_lit 229,nat_lit 234,nat_lit 241,nat_lit 246,nat_lit 251,nat_lit 258,nat_lit 263,nat_lit 268,nat_lit 0,nat_lit 1,nat_lit 2,nat_lit 3,nat_lit 6,nat_lit 17,nat_lit 23,nat_lit 24,nat_lit 30,nat_lit 40,nat_lit 43,nat_lit 44,nat_lit 49,nat_lit 59,nat_lit 62,nat_lit 63,nat_lit 68,nat_lit 78,nat_lit 81,nat_lit 82,nat_lit 87,nat_lit 97,nat_lit 100,nat_lit 101,nat_lit 106,nat_lit 116,nat_lit 119,nat_lit 120,nat_lit 128,nat_lit 135,nat_lit 142,nat_lit 149,nat_lit 154,nat_lit 161,nat_lit 168,nat_lit 175,nat_lit 180,nat_lit 187,nat_lit 192,nat_lit 197,nat_lit 204,nat_lit 209,nat_lit 216,nat_lit 221,nat_lit 228,nat_lit 233,nat_lit 240,nat_lit 245,nat_lit 250,nat_lit 257,nat_lit 262,nat_lit 267] (fun _=>by kernel_rfl)
def okB(s:aH):Bool:=s.heap.isNs cStatics&&((s.heap.nsMap cStatics sharingNotToldKey).isNone&&decide (0 < s.toks))
theorem Ank(h:okB s=true):gZ s.heap/\0 < s.toks:=by
 unfold okB at h
 rw[bG,bG,decide_eq_true_eq] at h
 exact ⟨⟨_,Heap.Ns.of_isNs h.1,Option.isNone_iff_eq_none.mp h.2.1⟩,h.2.2⟩
def yF(s:aH):hK.α×Bool:=(hK.obs s,okB s)
def yA(w:cV):hK.α×Bool:=(hK.val w,true)
theorem Auj(e:yF s=yA w):(K0 w.params).In s.heap/\gZ s.heap/\0 < s.toks:=by
 unfold yF yA at e
 exact ⟨hK.of w s (jR e).1,Ank (jR e).2⟩
theorem Aub(h1:hK.obs s=hK.val w)(h2:okB s=true):yF s=yA w:=by unfold yF yA;rw[h1,h2]
abbrev lz:List Str:=[]
theorem Au2(w:cV)(os:gF):(PySem.W.staticsOk (importedModules pp.main.body) (eV w.params) (hZ w.params)&&PySem.W.namesBound pp (hZ w.params)&&PySem.W.gensDone ⟨hZ w.params,⟨[]⟩,{},532,os⟩&&PySem.W.laidKept (eV w.params) (hZ w.params))=true:=by
 rw[jQ];kernel_rfl
theorem Au0(w:cV)(os:gF):PySem.W.openSeen q0 lz (importedModules pp.main.body) (fun s=>sP q0 [] s&&sH [] s) true ⟨hZ w.params,⟨[]⟩,{},532,os⟩=PySem.W.openGood q0 lz:=by
 rw[jQ,PySem.W.Fast.te4187177175401517315];kernel_rfl
theorem Ave(w:cV)(os:gF):hK.obs ⟨hZ w.params,⟨[]⟩,{},532,os⟩=hK.val w:=by kernel_rfl
theorem At6(w:cV)(os:gF):okB ⟨hZ w.params,⟨[]⟩,{},532,os⟩=true:=by
 unfold okB;rw[jP];kernel_rfl
theorem Avf:PySem.W.LeftO pp q0 lz (fun s=>sP q0 [] s&&sH [] s) yF yA 4448:=
 PySem.W.LeftO.of_pieces Apm Aps Aqo (by decide) fun w=>funext fun os=>sT (Au2 w os) (sT (Au0 w os) (Aub (Ave w os) (At6 w os)))
end
theorem Auo{l:lZ}{q:cD}{loose:List Str}{XP:(Str->Option aE)->Heap->Prop}{β:Type}{Yf:aH->β}{Ya:cV->β}{d:DefRec}{K:oJ->aB}(hn:l.most=some 63)(hdf:d.params.defaults=[])
  (hY:∀ (w:cV) (s:aH),Yf s=Ya w->(K w.params).In s.heap/\gZ s.heap/\0 < s.toks)
  (F:∀ (w:cV) (mg:Str->Option aE) (fa:Addr) (h:Heap),(K w.params).In h->h.Ns bB mg->mg d.name=some (.ref fa) ->
   ∃ fd:dN,(∀ (s:aH) (u:aE),kT s fd ⟨[u],[]⟩ [("script",u)])/\∀ base:Heap,(K w.params).In base->base.Ns bB mg->FnOk l.prog w (K w.params) mg base CX0 6 fa fd ["script"] (spW (K w.params) 9 1 Adx (fun u=>u = .bl true))) :
  sD q loose XP Yf Ya l.row.toRowW d [] (fun f vs=>tE f vs):=
 Att.Apv (k:=6) (x := "script") (sp:=fun K=>spW K 9 1 Adx (fun u=>u = .bl true)) hn hdf ⟨rfl,by decide,by decide⟩ hY F (fun K H a ns hl _ ho hS=>Aj0 ho hS (Ap3 ns hl))
end Lw
open PySem PySem.W PyProof.Rows
set_option maxRecDepth 100000 in
set_option maxHeartbeats 0 in
theorem PySem.Challenge.cw_belowpoints_k02_no_points_holds : PySem.Challenge.rw_belowpoints_k02_no_points.Holds := by
  w_on; refine holds_law wS fun _ => ?_
  refine holds_openX (q := Lw.q0) (loose := Lw.lz) (Xt := fun s => xlAt Lw.q0 [] s && recOk [] s) (XP := XL Lw.q0 []) (Yf := Lw.yF) (Ya := Lw.yA) Lw.Avf (fun s e => xl_of s (Bool.and_eq_true_iff.mp e).1) XL.keeps (by rfl) (by rfl) (by rfl) (fun s e => recFacts_of (Bool.and_eq_true_iff.mp e).2) (by rfl) (by first | assumption | decide +kernel) (by decide +kernel) ⟨rfl, rfl, rfl, rfl, rfl, by decide +kernel⟩ ?hw ?hc
  case hw => w_witness2
  refine Lw.Auo (l := PySem.Challenge.rw_belowpoints_k02_no_points) rfl rfl (K := Lw.K0) (fun w s Y => Lw.Auj Y) ?F
  case F =>
    k_fill
    intro w mg fa h KX G hmg
    refine Lw.Aof ?C hmg
    case C =>
      apply Lw.Defs.mk
      all_goals first | (refine' MR.mkG KX G ?a ?l ?c ?k ?h; (case a => k_is); (case l => k_is); (case c => k_is); (case k => k_is); case h => first | exact fun _ _ _ _ _ _ => MR.Anq rfl | exact fun _ _ _ _ _ _ => MR.Apu (fun _ => rfl) | exact fun _ _ _ _ _ _ => MR.An2 (fun _ _ => rfl) | exact fun _ _ _ _ _ _ => MR.Asv (fun _ _ _ => rfl)) | (refine' MR.mkM ?a ?i ?l ?c ?k ?h; (case a => k_is); (case i => k_is); (case l => k_is); (case c => k_is); (case k => k_is); case h => first | exact fun _ _ _ _ _ _ => MR.Anq rfl | exact fun _ _ _ _ _ _ => MR.Apu (fun _ => rfl) | exact fun _ _ _ _ _ _ => MR.An2 (fun _ _ => rfl) | exact fun _ _ _ _ _ _ => MR.Asv (fun _ _ _ => rfl)) | (refine' ⟨?_, ?_⟩ <;> first | k_is | kernel_rfl) | (refine' ⟨?_, ?_, ?_⟩ <;> first | k_is | kernel_rfl) | (refine' MR.Avm KX G ?a; (case a => k_is)) | (refine' MR.Auk KX G ?a; (case a => k_is)) | (unfold L2.Apo; k_is) | (refine' PySem.W.mg_of KX G ?_; k_is) | (refine' PySem.W.mg_none_of KX G ?_; k_is) | k_is | kernel_rfl
